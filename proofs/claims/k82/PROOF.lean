import PyProof.Rows.All
import Wide.All
import OpenK.AllK
import Wide.FinOn
import Lean
import PyProof.EqAt
import PyProof.EqKinds
import PyProof.TupleCall
import OpenK.KOwn
import PyProof.Rows.FStr
import PyProof.FString
import PyProof.NsDelKeeps
import KE.KIsAll
import PyProof.ExcArgs
import KE.KLam
import KE.KNestM
import PyProof.Rows.SetFrom
import PyProof.ListMulRoad
import PySem.Challenge.RW_nearkinds_k82_tables_alike
open PySem.W (Frag)
set_option Elab.async false
set_option linter.all false
set_option maxRecDepth 1000000
set_option maxHeartbeats 4000000
namespace L2
open PySem PySem.Spec PyProof.Rows
noncomputable abbrev Key:=Sum Int Str
noncomputable def Jl:Key->Value->Bool
 | .inl k,v=>Value.isInt k v
 | .inr x,v=>Value.isStrOf x v
noncomputable def Bi (w:World):Key->Int
 | .inl k=>hashInt k
 | .inr x=>hashStr w x
theorem Zj:∀{k:Key} {v:Value},Jl k v=true->(∃i t,k=Sum.inl i/\v=Value.int i t)∨(∃x t,k=Sum.inr x/\v=Value.str x t)
 | .inl i,v,h=>by
  obtain ⟨t,e⟩:=Value.isInt_shape (k:=i) (v:=v) h
  exact .inl ⟨i,t,rfl,e⟩
 | .inr x,v,h=>by
  obtain ⟨t,e⟩:=Value.isStrOf_shape (x:=x) (v:=v) h
  exact .inr ⟨x,t,rfl,e⟩
theorem LM (i:Int)(t:Tok):Jl (.inl i) (.int i t)=true:=by simp [Jl,Value.isInt]
theorem LN (x:Str)(t:Tok):Jl (.inr x) (.str x t)=true:=by simp [Jl,Value.isStrOf]
theorem Cb (a b:Int):decide ((Sum.inl a:Key)=Sum.inl b)=(a==b):=by
 by_cases e:a=b
 ·subst e;simp
 ·have h:¬(Sum.inl a:Key)=Sum.inl b:=λ q=>e (Sum.inl.inj q)
  rw [decide_eq_false h]
  exact (beq_eq_false_iff_ne.mpr e).symm
theorem Dk (a b:Str):decide ((Sum.inr a:Key)=Sum.inr b)=decide (a=b):=by
 by_cases e:a=b
 ·subst e;simp
 ·have h:¬(Sum.inr a:Key)=Sum.inr b:=λ q=>e (Sum.inr.inj q)
  rw [decide_eq_false h,decide_eq_false e]
theorem E9 (a:Int)(b:Str):decide ((Sum.inl a:Key)=Sum.inr b)=false:=decide_eq_false (λ q=>nomatch q)
theorem EI (a:Str)(b:Int):decide ((Sum.inr a:Key)=Sum.inl b)=false:=decide_eq_false (λ q=>nomatch q)
noncomputable def Zm (prog:Program)(w:World):PySem.KeyKind prog w Key where
 is:=Jl
 hash:=Bi w
 inj:=λ v a b ha hb=>by
  rcases Zj ha with ⟨i,t,rfl,rfl⟩ | ⟨x,t,rfl,rfl⟩
  ·rcases Zj hb with ⟨j,u,rfl,e⟩ | ⟨y,u,rfl,e⟩
   ·injection e with e1 _;rw [e1]
   ·exact nomatch e
  ·rcases Zj hb with ⟨j,u,rfl,e⟩ | ⟨y,u,rfl,e⟩
   ·exact nomatch e
   ·injection e with e1 _;rw [e1]
 byValue:=λ k v h=>by
  rcases Zj h with ⟨i,t,rfl,rfl⟩ | ⟨x,t,rfl,rfl⟩<;>rfl
 pyHash:=λ hv h=>by
  rcases Zj hv with ⟨i,t,rfl,rfl⟩ | ⟨x,t,rfl,rfl⟩
  ·exact wpAny_pyHash_int h
  ·exact wpAny_pyHash_str h
 eqBool:=λ hu hv h=>by
  rcases Zj hu with ⟨i,t,rfl,rfl⟩ | ⟨x,t,rfl,rfl⟩
  ·rcases Zj hv with ⟨j,u,rfl,rfl⟩ | ⟨y,u,rfl,rfl⟩
   ·rw [Cb] at h;exact wpAny_eqBool_int h
   ·rw [E9] at h;exact SeqAt.EqAt.int_str i t y u _ _ _ _ h
  ·rcases Zj hv with ⟨j,u,rfl,rfl⟩ | ⟨y,u,rfl,rfl⟩
   ·rw [EI] at h;exact SeqAt.EqAt.str_int x t j u _ _ _ _ h
   ·rw [Dk] at h;exact wpAny_eqBool_str h
 «strs»:=λ k x t v h=>by
  rcases Zj h with ⟨i,u,rfl,e⟩ | ⟨y,u,rfl,e⟩
  ·exact nomatch e
  ·injection e with e1 _
   subst e1
   cases v<;>rfl
theorem Ma (prog:Program)(w:World)(i:Int)(t:Tok):(Zm prog w).is (.inl i) (.int i t)=true:=LM i t
theorem NY (prog:Program)(w:World)(x:Str)(t:Tok):(Zm prog w).is (.inr x) (.str x t)=true:=LN x t
inductive V where
 | non | bl (b:Bool) | int (i:Int) | str (x:Str) | byt (b:Array UInt8) | flt (b:UInt64) | ref (a:Addr) | ty (n:String)
 deriving DecidableEq
noncomputable def RelV:V->Value->Prop
 | .non,u=>u=Value.none
 | .bl b,u=>u=Value.bool b
 | .int i,u=>∃t,u=Value.int i t
 | .str x,u=>∃t,u=Value.str x t
 | .byt b,u=>∃t,u=Value.bytes b t
 | .flt b,u=>∃t,u=Value.float b t
 | .ref a,u=>u=Value.ref a
 | .ty n,u=>u=Value.type n
noncomputable abbrev Vals:List V->List Value->Prop:=Paired RelV
theorem Vals.length {xs:List V}{us:List Value}(r:Vals xs us):xs.length=us.length:=Paired.length r
theorem Vals.get:∀{xs:List V} {us:List Value} {i:Nat} {x:V},Vals xs us->xs[i]? =some x->∃u,us[i]? =some u/\RelV x u
 | _,_,_,_,.nil,e=>by simp at e
 | _,_,0,_,.cons r _,e=>by simp at e;subst e;exact ⟨_,rfl,r⟩
 | _,_,i+1,x,.cons _ t,e=>by
  obtain ⟨u,h1,h2⟩:=Vals.get (i:=i) (x:=x) t (by simpa using e)
  exact ⟨u,by simpa using h1,h2⟩
theorem Vals.set {x:V}{u:Value}(r:RelV x u):∀{xs:List V} {us:List Value} (i:Nat),Vals xs us->Vals (xs.set i x) (us.set i u)
 | _,_,_,.nil=>.nil
 | _,_,0,.cons _ t=>.cons r t
 | _,_,i+1,.cons q t=>.cons q (Vals.set r i t)
theorem Vals.append:∀{xs ys:List V} {us ws:List Value},Vals xs us->Vals ys ws->Vals (xs++ys) (us++ws)
 | _,_,_,_,.nil,s=>s
 | _,_,_,_,.cons r t,s=>.cons r (Vals.append t s)
theorem Vals.none_of:∀{xs:List V} {us:List Value} {i:Nat},Vals xs us->xs[i]? =none->us[i]? =none:=λ {xs us i} r e=>by
 have h1:=r.length
 have h2:xs.length<=i:=List.getElem?_eq_none_iff.mp e
 exact List.getElem?_eq_none_iff.mpr (by omega)
noncomputable def Wn:Option V->Option Value->Prop
 | some v,some u=>RelV v u
 | none,none=>True
 | _,_=>False
noncomputable def KV {κ:Type}:List (κ × V)->List (κ × Value)->Prop:=Paired λ (p:κ × V) (q:κ × Value)=>p.1=q.1/\RelV p.2 q.2
noncomputable def kV:Key->V
 | .inl i=>.int i
 | .inr x=>.str x
inductive HO where
 | lst (xs:List V)
 | tup (xs:List V)
 | dK (kvs:List (Key × V)) | dT (kvs:List (List Key × V))
 | set (S:Int->Bool) (n:Nat)
 | ins (C dx:Addr) (fs:List (Str × V))
 | own (x:Addr)
 | xd (fs:List (Str × V))
 | met (f x:Addr)
 | rng (lo hi:Int)
 | frz (o:Obj) (u:HO)
 | tbl (ps:Array Value)
 | ext (φ:Heap->Prop)
noncomputable abbrev Hp:=Addr->Option HO
noncomputable def upd (H:Hp)(a:Addr)(o:HO):Hp:=λ b=>if b=a then some o else H b
theorem jA {H:Hp}{a:Addr}{o:HO}:upd H a o a=some o:=by unfold upd;rw [if_pos rfl]
theorem qg {H:Hp}{a b:Addr}{o:HO}(h:b≠a):upd H a o b=H b:=by unfold upd;rw [if_neg h]
theorem Yc {H:Hp}{a b:Addr}{o u:HO}(h:H a=some o)(h':H b=some u)(d:o≠u):a≠b:=by
 intro e;subst e;rw [h] at h';exact d (Option.some.inj h')
theorem ko {H:Hp}{a b:Addr}{o:HO}(h:H a=some o)(h':H b=none):a≠b:=by
 intro e;subst e;rw [h] at h';cases h'
noncomputable def ZZ (h:Heap)(a:Addr)(items:Array Value):Prop:=∃o,h.get? a=some o/\(o.cls=.type "tuple" /\ o.dict=none)/\∃n,o.data=.seq items n
theorem ZZ.tup {h:Heap}{a:Addr}{items:Array Value}(x:ZZ h a items):IsTup h a items:=let ⟨o,e,c,d⟩:=x;⟨o,e,c.1,d⟩
theorem ZZ.new (h:Heap)(items:Array Value):ZZ (h.push { cls:=.type "tuple",data:=.seq items }) h.objs.size items:=⟨_,Heap.get?_push_size h rfl,⟨rfl,rfl⟩,0,rfl⟩
section
variable (P:Program)(w:World)
noncomputable def qN (H:Hp)(h:Heap)(a:Addr):HO->Prop
 | .lst xs=>xs.length<=sizeLine/\∃(its:List Value) (n:Nat),Vals xs its/\h.get? a=some { cls:=.type "list",data:=.seq its.toArray n }
 | .tup xs=>xs.length<=sizeLine/\∃its:List Value,Vals xs its/\ZZ h a its.toArray
 | .dK kvs=>kvs.length<=sizeLine/\(a==sysModules)=false/\∃vs,KV kvs vs/\h.DictOf (Zm P w) a vs
 | .dT kvs=>kvs.length<=sizeLine/\(a==sysModules)=false/\∃xs:List (List Key × Addr × Value),
   Paired (λ (p:List Key × V) (q:List Key × Addr × Value)=>p.1=q.1/\H q.2.1=some (.tup (p.1.map kV))/\RelV p.2 q.2.2) kvs xs/\
   ∃o es ep,h.get? a=some o/\o.ExactDict/\o.data=.dict es ep/\es.toList=xs.map (entryOfKey (tupleKind (Zm P w)))/\(xs.map (·.1)).Nodup
 | .set S n=>h.SetOf (intKind P w) a S n
 | .ins C dx fs=>H dx=some (.own a)/\fs.length<=1000/\dx≠a/\h.get? a=some (PySem.W.instObj C dx)/\
   ∃mA,h.Ns1 dx mA/\(∀f,Wn (fs.lookup f) (mA f))/\PySem.Within mA (fs.map (·.1))
 | .own _=>∃o,h.get? a=some o
 | .xd fs=>∃mA,h.Ns1 a mA/\∀f,Wn (fs.lookup f) (mA f)
 | .rng lo hi=>∃t u v,h.get? a=some { cls:=.type "range",data:=.fields #[.int lo t,.int hi u,.int 1 v] }
 | .frz o u=>h.get? a=some o/\qN H h a u
 | .tbl ps=>h.get? a=some { cls:=.none,data:=.fields ps }
 | .met f x=>h.get? a=some (PySem.W.methodObj (.ref f) (.ref x))
 | .ext φ=>φ h/\(∃o,h.get? a=some o)/\∀h1 h2:Heap,φ h1->(∀o,h1.get? a=some o->h2.get? a=some o)->φ h2
noncomputable def zZ (H:Hp)(h:Heap):Prop:=∀a o,H a=some o->qN P w H h a o
end
section
variable {P:Program}{w:World}{H H':Hp}{h h':Heap}{a:Addr}{o:HO}
theorem qN.lt (x:qN P w H h a o):a<h.objs.size:=by
 cases o with
 | lst xs=>obtain ⟨_,_,_,_,e⟩:=x;exact Heap.lt_size e
 | tup xs=>obtain ⟨_,_,_,p⟩:=x;exact p.tup.lt
 | dK kvs=>obtain ⟨_,_,_,_,o,_,_,e,_⟩:=x;exact Heap.lt_size e
 | dT kvs=>obtain ⟨_,_,_,_,o,_,_,e,_⟩:=x;exact Heap.lt_size e
 | set S n=>obtain ⟨o,_,_,_,e,_⟩:=x;exact Heap.lt_size e
 | ins C dx fs=>obtain ⟨_,_,_,e,_⟩:=x;exact Heap.lt_size e
 | own y=>obtain ⟨_,e⟩:=x;exact Heap.lt_size e
 | xd fs=>obtain ⟨_,⟨_,_,_,e,_⟩,_⟩:=x;exact Heap.lt_size e
 | rng lo hi=>obtain ⟨_,_,_,e⟩:=x;exact Heap.lt_size e
 | frz ob u=>obtain ⟨e,_⟩:=x;exact Heap.lt_size e
 | tbl ps=>exact Heap.lt_size (show h.get? a=some _ from x)
 | met f y=>exact Heap.lt_size (show h.get? a=some _ from x)
 | ext φ=>obtain ⟨_,⟨_,e⟩,_⟩:=x;exact Heap.lt_size e
theorem Paired.mapP {α β:Type}{F G:α->β->Prop}:∀{l₁:List α} {l₂:List β},Paired F l₁ l₂->(∀a b,F a b->G a b)->Paired G l₁ l₂
 | _,_,.nil,_=>.nil
 | _,_,.cons r t,f=>.cons (f _ _ r) (Paired.mapP t f)
theorem qN.stay (x:qN P w H h a o)(k:∀b u,(b=a∨H b=some (.own a))->h.get? b=some u->h'.get? b=some u)
  (ho:∀b,H b=some (.own a)->H' b=some (.own a))(ht:∀b xs,H b=some (.tup xs)->H' b=some (.tup xs)):qN P w H' h' a o:=by
 induction o with
 | lst xs=>obtain ⟨z,its,n,r,e⟩:=x;exact ⟨z,its,n,r,k _ _ (.inl rfl) e⟩
 | tup xs=>obtain ⟨z,its,r,ob,e,c⟩:=x;exact ⟨z,its,r,ob,k _ _ (.inl rfl) e,c⟩
 | dK kvs=>obtain ⟨z,y,vs,r,ob,es,ep,e,c⟩:=x;exact ⟨z,y,vs,r,ob,es,ep,k _ _ (.inl rfl) e,c⟩
 | dT kvs=>
  obtain ⟨z,y,xs,r,ob,es,ep,e,c⟩:=x
  exact ⟨z,y,xs,Paired.mapP r λ p q z=>⟨z.1,ht _ _ z.2.1,z.2.2⟩,ob,es,ep,k _ _ (.inl rfl) e,c⟩
 | set S n=>obtain ⟨ob,es,ep,t,e,c⟩:=x;exact ⟨ob,es,ep,t,k _ _ (.inl rfl) e,c⟩
 | ins C dx fs=>
  obtain ⟨d,z,ne,e,mA,⟨od,es,ep,e2,c⟩,r⟩:=x
  exact ⟨ho _ d,z,ne,k _ _ (.inl rfl) e,mA,⟨od,es,ep,k _ _ (.inr d) e2,c⟩,r⟩
 | own y=>obtain ⟨ob,e⟩:=x;exact ⟨ob,k _ _ (.inl rfl) e⟩
 | xd fs=>obtain ⟨mA,⟨od,es,ep,e,c⟩,r⟩:=x;exact ⟨mA,⟨od,es,ep,k _ _ (.inl rfl) e,c⟩,r⟩
 | rng lo hi=>obtain ⟨t,u,v,e⟩:=x;exact ⟨t,u,v,k _ _ (.inl rfl) e⟩
 | frz ob u ih=>obtain ⟨e,q⟩:=x;exact ⟨k _ _ (.inl rfl) e,ih q⟩
 | tbl ps=>
  have e:h.get? a=some { cls:=.none,data:=.fields ps }:=x
  show h'.get? a=some { cls:=.none,data:=.fields ps }
  exact k a _ (.inl rfl) e
 | met f y=>
  have e:h.get? a=some (PySem.W.methodObj (.ref f) (.ref y)):=x
  show h'.get? a=some (PySem.W.methodObj (.ref f) (.ref y))
  exact k a _ (.inl rfl) e
 | ext φ=>obtain ⟨p,⟨o,e⟩,st⟩:=x;exact ⟨st _ _ p λ o q=>k _ _ (.inl rfl) q,⟨o,k _ _ (.inl rfl) e⟩,st⟩
theorem zZ.lt (x:zZ P w H h)(e:H a=some o):a<h.objs.size:=(x a o e).lt
theorem zZ.fresh (x:zZ P w H h)(e:h.objs.size<=a):H a=none:=by
 cases q:H a with
 | none=>rfl
 | some u=>exact absurd (Nat.lt_of_lt_of_le (x.lt q) e) (Nat.lt_irrefl _)
theorem zZ.kept (x:zZ P w H h)(k:∀b u,h.get? b=some u->h'.get? b=some u):zZ P w H h':=λ a o e=>
 (x a o e).stay (λ b u _ q=>k b u q) (λ _ q=>q) λ _ _ q=>q
theorem zZ.laid (x:zZ P w H h)(k:∀b u,h.get? b=some u->h'.get? b=some u)(hp:h.objs.size<=a)(new:qN P w (upd H a o) h' a o):zZ P w (upd H a o) h':=λ b u e=>by
 have hn:=x.fresh hp
 by_cases hb:b=a
 ·subst hb;rw [jA] at e;cases e;exact new
 ·rw [qg hb] at e
  exact (x b u e).stay (λ c v _ q=>k c v q) (λ c q=>by rw [qg (ko q hn)];exact q) λ c xs q=>by rw [qg (ko q hn)];exact q
end
noncomputable def Rd (H:Hp)(a:Addr)(u:HO):Prop:=H a=some u∨∃o,H a=some (.frz o u)
theorem Rd.ok {P:Program}{w:World}{H:Hp}{h:Heap}{a:Addr}{u:HO}(r:Rd H a u)(x:zZ P w H h):qN P w H h a u:=by
 rcases r with r | ⟨o,r⟩
 ·exact x a u r
 ·obtain ⟨_,q⟩:=x a _ r
  exact q
noncomputable def Ys:Option HO->Prop
 | some (.lst _)=>True
 | some (.dK _)=>True
 | some (.dT _)=>True
 | some (.set _ _)=>True
 | some (.ins _ _ _)=>True
 | some (.ext _)=>True
 | _=>False
section
variable {P:Program}{w:World}{H:Hp}{h h':Heap}{x e:Addr}{o':HO}
theorem zZ.write (ok:zZ P w H h)(mu:Ys (H x))(he:e=x∨H e=some (.own x))(k:∀b u,b≠e->h.get? b=some u->h'.get? b=some u)(heo:∃u,h'.get? e=some u)
  (new:qN P w (upd H x o') h' x o'):zZ P w (upd H x o') h':=λ b u q=>by
 have nown:∀c y,H c=some (.own y)->c≠x:=λ c y r z=>by subst z;rw [r] at mu;exact mu
 have ntup:∀c xs,H c=some (.tup xs)->c≠x:=λ c xs r z=>by subst z;rw [r] at mu;exact mu
 by_cases hb:b=x
 ·subst hb;rw [jA] at q;cases q;exact new
 ·rw [qg hb] at q
  by_cases hbe:b=e
  ·have q':H b=some (.own x):=by
    rcases he with z | z
    ·exact absurd (hbe.trans z) hb
    ·rw [hbe];exact z
   rw [q] at q';cases q'
   obtain ⟨v,hv⟩:=heo
   exact ⟨v,by rw [hbe];exact hv⟩
  ·refine (ok b u q).stay (λ c v hc r=>k c v ?_ r) (λ c r=>by rw [qg (nown c b r)];exact r) λ c xs r=>by rw [qg (ntup c xs r)];exact r
   rcases hc with rfl | hc
   ·exact hbe
   ·rintro rfl
    rcases he with z | z
    ·exact nown c b hc z
    ·rw [hc] at z;cases z;exact hb rfl
end
structure Un (fs ex:List Addr)(H H':Hp)(h h':Heap):Prop where
 keep:∀b o,h.get? b=some o->H b=none->b∉fs->b∉ex->h'.get? b=some o
 slot:∀b o,h.get? b=some o->H b=none->b∈fs->b∉ex->∃sl,h'.get? b=some { o with slots:=sl }
 free:∀b o,h.get? b=some o->H b=none->b∉ex->H' b=none
 there:∀b o,h.get? b=some o->b∉ex->∃o',h'.get? b=some o'
 tups:∀b xs,H b=some (.tup xs)->H' b=some (.tup xs)
 frzs:∀b o u,H b=some (.frz o u)->H' b=some (.frz o u)
 tbls:∀b ps,H b=some (.tbl ps)->∃more,H' b=some (.tbl (ps++more))
section
variable {fs fs' ex ex':List Addr}{H H1 H2:Hp}{h h1 h2 h':Heap}{a x e:Addr}{o:HO}
theorem Un.any (u:Un fs ex H H1 h h1){b:Addr}{ob:Obj}(q:h.get? b=some ob)(n:H b=none)(hx:b∉ex):∃sl,h1.get? b=some { ob with slots:=sl }:=by
 by_cases hb:b∈fs
 ·exact u.slot b ob q n hb hx
 ·exact ⟨ob.slots,u.keep b ob q n hb hx⟩
theorem Un.kept (k:∀b u,h.get? b=some u->h'.get? b=some u):Un fs ex H H h h':=
 ⟨λ b ob q _ _ _=>k b ob q,λ b ob q _ _ _=>⟨ob.slots,k b ob q⟩,λ _ _ _ n _=>n,λ b ob q _=>⟨ob,k b ob q⟩,λ _ _ q=>q,λ _ _ _ q=>q,λ _ ps q=>⟨#[],by rw [q];simp⟩⟩
theorem Un.refl:Un fs ex H H h h:=Un.kept λ _ _ q=>q
theorem Un.laid (k:∀b u,h.get? b=some u->h'.get? b=some u)(hp:h.objs.size<=a)(hn:H a=none):Un fs ex H (upd H a o) h h' where
 keep:=λ b u q _ _ _=>k b u q
 slot:=λ b u q _ _ _=>⟨u.slots,k b u q⟩
 free:=λ b u q n _=>by rw [qg (Nat.ne_of_lt (Nat.lt_of_lt_of_le (Heap.lt_size q) hp))];exact n
 there:=λ b u q _=>⟨u,k b u q⟩
 tups:=λ b xs q=>by rw [qg (ko q hn)];exact q
 frzs:=λ b u xs q=>by rw [qg (ko q hn)];exact q
 tbls:=λ b ps q=>⟨#[],by rw [qg (ko q hn),q];simp⟩
theorem Un.write (mu:Ys (H x))(he:e=x∨H e=some (.own x))(k:∀b u,b≠e->h.get? b=some u->h'.get? b=some u)(heo:∃u,h'.get? e=some u):Un fs ex H (upd H x o) h h':=by
 have hx:∀b,H b=none->b≠x:=λ b n z=>by subst z;rw [n] at mu;exact mu
 have hb:∀b,H b=none->b≠e:=λ b n z=>by
  subst z
  rcases he with r | r
  ·exact hx b n r
  ·rw [n] at r;cases r
 have hm:∀b u,H b=some u->¬Ys (some u)->b≠x:=λ b u q nm z=>by subst z;rw [q] at mu;exact nm mu
 refine ⟨λ b u q n _ _=>k b u (hb b n) q,λ b u q n _ _=>⟨u.slots,k b u (hb b n) q⟩,λ b u q n _=>by rw [qg (hx b n)];exact n,λ b u q _=>?_,
  λ b xs q=>by rw [qg (hm b _ q λ z=>z)];exact q,λ b u xs q=>by rw [qg (hm b _ q λ z=>z)];exact q,λ b ps q=>⟨#[],by rw [qg (hm b _ q λ z=>z),q];simp⟩⟩
 by_cases hbe:b=e
 ·subst hbe;exact heo
 ·exact ⟨u,k b u hbe q⟩
end
noncomputable def WH (h:Heap)(H:Hp):List Addr:=(List.range h.objs.size).filter λ a=>(H a).isSome
noncomputable def gX (h:Heap)(H:Hp):Heap:=PySem.W.hideAll h (WH h H)
theorem MV (h:Heap)(H:Hp):(gX h H).objs.size=h.objs.size:=PySem.W.hideAll_size _ _
theorem Hn {h:Heap}{H:Hp}{b:Addr}{o:Obj}(e:h.get? b=some o)(n:H b=none):(gX h H).get? b=some o:=
 PySem.W.hideAll_get _ e λ hm=>by
  have q:(H b).isSome=true:=(List.mem_filter.mp hm).2
  rw [n] at q;simp at q
theorem F1 {h:Heap}{H:Hp}{b:Addr}{o:Obj}(e:(gX h H).get? b=some o):h.get? b=some o/\H b=none:=by
 have e':h.get? b=some o:=PySem.W.of_hideAll (WH h H) e
 refine ⟨e',?_⟩
 cases q:H b with
 | none=>rfl
 | some x=>
  have hm:b∈WH h H:=List.mem_filter.mpr ⟨List.mem_range.mpr (Heap.lt_size e'),by simp [q]⟩
  have z:(gX h H).get? b=none:=PySem.W.hideAll_none (WH h H) hm
  rw [z] at e;cases e
structure Mod (K:Frag)(mg:Str->Option Value)(base:Heap):Prop where
 kin:K.In base
 glob:base.Ns mainGlobals mg
 blt:∃mb,base.Ns builtinsNs mb/\∀x:Str,x ≠ "__name__" -> mb x=bootBuiltins x
 nolimit:base.NoLimit
structure Cx where
 prog:Program
 w:World
 K:Frag
 mg:Str->Option Value
 base:Heap
 A:Around
 N:List Str
 s0:Shared
 H0:Hp
 env:Env
 outer:List Env
 stack:List Env
 ex:List Addr
 fn:Str->Bool
 calm:Bool
 pn:List (Addr × Obj)
 xe:Value->Shared->Prop
noncomputable def qp (l:List Env):List Addr:=l.filterMap (·.frame)
noncomputable abbrev Cx.fs (X:Cx):List Addr:=qp X.outer
noncomputable def JD (sc:Scope)(x:Str):Prop:=sc.names.lookup x=some .local∨sc.names.lookup x=some .cell∨sc.names.lookup x=some .free
noncomputable def Loc (sc:Scope)(x:Str):Prop:=sc.names.lookup x=some .local∨sc.names.lookup x=some .cell
noncomputable def Look (env:Env)(h:Heap)(m:Str->Option Value)(x:Str)(u:Value):Prop:=
 (env.kindOf x=some .local/\m x=some u)∨((env.kindOf x=some .cell∨env.kindOf x=some .free)/\∃c,env.cells.lookup x=some c/\h.IsCell c (some u))
structure Cx.Ok (X:Cx):Prop where
 mod:Mod X.K X.mg X.base
 kind:X.env.scope.kind=.function
 glob:X.env.globals=mainGlobals
 blt:X.env.builtins=builtinsNs
 above:X.s0.heap.objs.size<=X.env.locals
 inj:∀x y c,X.env.cells.lookup x=some c->X.env.cells.lookup y=some c->x=y
 has:∀x,(X.env.kindOf x=some .cell∨X.env.kindOf x=some .free)->∃c,X.env.cells.lookup x=some c
 cab:∀x c,X.fn x=true->X.env.cells.lookup x=some c->X.s0.heap.objs.size<=c
 hd:X.calm=true->X.A.handled=none
 frames:X.A.frames=some X.stack
 stk:X.stack=X.outer∨(X.stack=X.env::X.outer/\X.env.frame=some X.env.locals)
 exf:∀b∈X.ex,b≠X.env.locals/\∀x c,X.env.cells.lookup x=some c->c≠b
 bs:∀b o,X.base.get? b=some o->X.s0.heap.get? b=some o/\X.H0 b=none
 bsz:X.base.objs.size<=X.s0.heap.objs.size
 noex:∀b o,X.base.get? b=some o->b∉X.ex
 exfs:∀b∈X.ex,b∉X.fs
 funs:X.s0.heap.FunFrames X.base X.outer
 frf:∀b∈X.fs,X.H0 b=none
structure Inv (X:Cx)(pins:List (Addr × Obj))(σ:List (Option V))(H:Hp)(s:Shared):Prop where
 ok:X.Ok
 os:s.os=X.s0.os
 bare:AllBare s.gens
 base:Un X.fs X.ex X.H0 H X.s0.heap s.heap
 loc:∃m,s.heap.Ns X.env.locals m/\∀(i:Nat) (x:Str) (v:V),X.N[i]? =some x->σ[i]? =some (some v)->JD X.env.scope x->∃u,RelV v u/\Look X.env s.heap m x u
 cell:∀x c,X.env.cells.lookup x=some c->∃v,s.heap.IsCell c v
 free:H X.env.locals=none
 freeC:∀x c,X.env.cells.lookup x=some c->H c=none
 pin:∀p∈X.pn++pins,s.heap.get? p.1=some p.2/\H p.1=none/\p.1≠X.env.locals/\p.1∉X.fs/\∀v,p.2.data≠.cell v
 hok:zZ X.prog X.w H s.heap
 len:σ.length=X.N.length
section
variable {X:Cx}{pins:List (Addr × Obj)}{σ:List (Option V)}{H H':Hp}{s:Shared}{h':Heap}
theorem Cx.Ok.nofr (ok:X.Ok){b:Addr}{o:Obj}(e:X.base.get? b=some o):b∉X.fs:=λ hb=>by
 have:=(ok.funs.mem hb).1
 rw [e] at this;cases this
theorem Inv.bs (I:Inv X pins σ H s):∀b o,X.base.get? b=some o->s.heap.get? b=some o/\H b=none:=λ b o e=>
 ⟨I.base.keep b o (I.ok.bs b o e).1 (I.ok.bs b o e).2 (I.ok.nofr e) (I.ok.noex b o e),I.base.free b o (I.ok.bs b o e).1 (I.ok.bs b o e).2 (I.ok.noex b o e)⟩
theorem Inv.bk (I:Inv X pins σ H s):∀b o,X.base.get? b=some o->s.heap.get? b=some o:=λ b o e=>(I.bs b o e).1
theorem Inv.mod (I:Inv X pins σ H s):Mod X.K X.mg X.base:=I.ok.mod
theorem Inv.kIn (I:Inv X pins σ H s):X.K.In s.heap:=I.ok.mod.kin.keeps I.bk
theorem Inv.lt (I:Inv X pins σ H s):X.env.locals<s.heap.objs.size:=let ⟨_,hn,_⟩:=I.loc;hn.lt
theorem Inv.sz (I:Inv X pins σ H s):X.s0.heap.objs.size<=s.heap.objs.size:=Nat.le_trans I.ok.above (Nat.le_of_lt I.lt)
theorem Inv.nofs (I:Inv X pins σ H s){a:Addr}(h:s.heap.objs.size<=a):a∉X.fs:=λ hb=>by
 obtain ⟨_,o,ho,_⟩:=I.ok.funs.mem hb
 exact absurd (Nat.lt_of_lt_of_le (Heap.lt_size ho) (Nat.le_trans I.sz h)) (Nat.lt_irrefl _)
theorem Inv.cne (I:Inv X pins σ H s):∀x c,X.env.cells.lookup x=some c->c≠X.env.locals:=λ x c e z=>by
 obtain ⟨v,o,ho,hd⟩:=I.cell x c e
 obtain ⟨m,⟨o',es,ep,ho',hd',_⟩,_⟩:=I.loc
 rw [z,ho'] at ho;cases ho;rw [hd'] at hd;cases hd
theorem Inv.funs (I:Inv X pins σ H s):s.heap.FunFrames X.base X.outer:=by
 have all:∀(l:List Env),(∀b∈qp l,b∈X.fs)->X.s0.heap.FunFrames X.base l->s.heap.FunFrames X.base l:=by
  intro l
  induction l with
  | nil=>intro _ _;trivial
  | cons env r ih=>
   intro hs hl
   obtain ⟨hk,⟨L,o,hf,hn,ho,hd⟩,hr⟩:=hl
   have hL:L∈X.fs:=hs L (by unfold qp;rw [List.filterMap_cons,hf];exact List.mem_cons_self)
   obtain ⟨sl,e⟩:=I.base.slot L o ho (I.ok.frf L hL) hL λ z=>I.ok.exfs L z hL
   exact ⟨hk,⟨L,_,hf,hn,e,hd⟩,ih (λ b hb=>hs b (by unfold qp;rw [List.filterMap_cons,hf];exact List.mem_cons_of_mem _ hb)) hr⟩
 exact all X.outer (λ _ hb=>hb) I.ok.funs
theorem Inv.stack (I:Inv X pins σ H s):s.heap.FunFrames X.base X.stack:=by
 rcases I.ok.stk with e | ⟨e,hf⟩
 ·rw [e];exact I.funs
 ·rw [e]
  obtain ⟨m,hn,_⟩:=I.loc
  refine .cons (by rw [I.ok.kind];decide) hf hn ?_ I.funs
  exact Heap.get?_none_of_le (Nat.le_trans I.ok.bsz I.ok.above)
theorem Inv.stkSub (I:Inv X pins σ H s):∀b∈qp X.stack,b∈X.env.locals::X.fs:=λ b hb=>by
 rcases I.ok.stk with e | ⟨e,hf⟩
 ·rw [e] at hb;exact List.mem_cons_of_mem _ hb
 ·rw [e] at hb
  unfold qp at hb
  rw [List.filterMap_cons,hf] at hb
  exact hb
theorem Inv.stkFree (I:Inv X pins σ H s):∀b∈qp X.stack,H b=none:=λ b hb=>by
 rcases List.mem_cons.mp (I.stkSub b hb) with e | hb
 ·rw [e];exact I.free
 ·obtain ⟨_,o,ho,_⟩:=I.ok.funs.mem hb
  exact I.base.free b o ho (I.ok.frf b hb) λ z=>I.ok.exfs b z hb
theorem Inv.step {g':Array GenState}{t':Nat}{d':Drawn}{ch:List Addr}(I:Inv X pins σ H s)
  (hch:∀b∈ch,(b∈X.ex∨X.s0.heap.objs.size<=b)/\b≠X.env.locals/\(∀x c,X.env.cells.lookup x=some c->c≠b)/\∀p∈X.pn++pins,p.1≠b)
  (keep:∀b o,b≠X.env.locals->b∉X.fs->b∉ch->s.heap.get? b=some o->H b=none->h'.get? b=some o)
  (slot:∀b o,b≠X.env.locals->b∈X.fs->b∉ch->s.heap.get? b=some o->H b=none->∃sl,h'.get? b=some { o with slots:=sl })(free:∀b o,b∉ch->s.heap.get? b=some o->H b=none->H' b=none)
  (there:∀b o,b∉ch->s.heap.get? b=some o->∃o',h'.get? b=some o')
  (tups:∀b xs,H b=some (.tup xs)->H' b=some (.tup xs))(frzs:∀b o u,H b=some (.frz o u)->H' b=some (.frz o u))(tbls:∀b ps,H b=some (.tbl ps)->∃more,H' b=some (.tbl (ps++more)))
  (ns:∀m,s.heap.Ns X.env.locals m->h'.Ns X.env.locals m)(hok:zZ X.prog X.w H' h')(hg:AllBare g'):
  Inv X pins σ H' { s with heap:=h',gens:=g',drawn:=d',toks:=t' }:=by
 have neL:∀b o,X.s0.heap.get? b=some o->b≠X.env.locals:=λ b o e=>Nat.ne_of_lt (Nat.lt_of_lt_of_le (Heap.lt_size e) I.ok.above)
 have neC:∀b o,X.s0.heap.get? b=some o->b∉X.ex->b∉ch:=λ b o e hx hb=>by
  rcases (hch b hb).1 with z | z
  ·exact hx z
  ·exact absurd (Nat.lt_of_lt_of_le (Heap.lt_size e) z) (Nat.lt_irrefl _)
 have cellK:∀x c,X.env.cells.lookup x=some c->∀v,s.heap.IsCell c v->h'.IsCell c v:=λ x c e v ⟨o,ho,hd⟩=>by
  have nch:c∉ch:=λ z=>(hch c z).2.2.1 x c e rfl
  by_cases hc:c∈X.fs
  ·obtain ⟨sl,q⟩:=slot c o (I.cne x c e) hc nch ho (I.freeC x c e)
   exact ⟨_,q,hd⟩
  ·exact ⟨o,keep c o (I.cne x c e) hc nch ho (I.freeC x c e),hd⟩
 refine ⟨I.ok,I.os,hg,⟨λ b o e n hb hx=>?_,λ b o e n hb hx=>?_,λ b o e n hx=>?_,λ b o e hx=>?_,λ b xs e=>tups b xs (I.base.tups b xs e),λ b o xs e=>frzs b o xs (I.base.frzs b o xs e),λ b ps e=>?_⟩,?_,λ x c e=>?_,?_,λ x c e=>?_,λ p hp=>?_,hok,I.len⟩
 ·exact keep b o (neL b o e) hb (neC b o e hx) (I.base.keep b o e n hb hx) (I.base.free b o e n hx)
 ·obtain ⟨sl,e1⟩:=I.base.slot b o e n hb hx
  obtain ⟨sl',e2⟩:=slot b _ (neL b o e) hb (neC b o e hx) e1 (I.base.free b o e n hx)
  exact ⟨sl',e2⟩
 ·obtain ⟨o',e1⟩:=I.base.there b o e hx
  exact free b o' (neC b o e hx) e1 (I.base.free b o e n hx)
 ·obtain ⟨o',e1⟩:=I.base.there b o e hx
  exact there b o' (neC b o e hx) e1
 ·obtain ⟨m1,e1⟩:=I.base.tbls b ps e
  obtain ⟨m2,e2⟩:=tbls b _ e1
  exact ⟨m1++m2,by rw [e2,Array.append_assoc]⟩
 ·obtain ⟨m,hn,hl⟩:=I.loc
  refine ⟨m,ns m hn,λ i x v e1 e2 e3=>?_⟩
  obtain ⟨u,r,l⟩:=hl i x v e1 e2 e3
  refine ⟨u,r,?_⟩
  rcases l with l | ⟨k,c,e,z⟩
  ·exact .inl l
  ·exact .inr ⟨k,c,e,cellK x c e _ z⟩
 ·obtain ⟨v,z⟩:=I.cell x c e
  exact ⟨v,cellK x c e v z⟩
 ·obtain ⟨m,⟨o,_,_,ho,_⟩,_⟩:=I.loc
  exact free _ o (λ z=>(hch _ z).2.1 rfl) ho I.free
 ·obtain ⟨v,o,ho,hd⟩:=I.cell x c e
  exact free c o (λ z=>(hch c z).2.2.1 x c e rfl) ho (I.freeC x c e)
 ·obtain ⟨e,n,ne,nf,d⟩:=I.pin p hp
  have nch:p.1∉ch:=λ z=>(hch p.1 z).2.2.2 p hp rfl
  exact ⟨keep p.1 p.2 ne nf nch e n,free p.1 p.2 nch e n,ne,nf,d⟩
theorem Inv.un {t':Nat}(I:Inv X pins σ H s)(u:Un X.fs [] H H' s.heap h')(hok:zZ X.prog X.w H' h'):Inv X pins σ H' { s with heap:=h',toks:=t' }:=by
 obtain ⟨m,⟨o,es,ep,ho,r⟩,_⟩:=id I.loc
 obtain ⟨sl,hL⟩:=u.any ho I.free (by simp)
 exact I.step (g':=s.gens) (d':=s.drawn) (ch:=[]) (λ _ z=>nomatch z) (λ b o _ hb _ e n=>u.keep b o e n hb (by simp)) (λ b o _ hb _ e n=>u.slot b o e n hb (by simp)) (λ b o _ e n=>u.free b o e n (by simp)) (λ b o _ e=>u.there b o e (by simp)) u.tups u.frzs u.tbls (λ m' hm=>by
  obtain ⟨o',es',ep',ho',r'⟩:=hm
  rw [ho] at ho';cases ho'
  exact ⟨_,es',ep',hL,r'⟩) hok I.bare
theorem Inv.call {g':Array GenState}{t':Nat}{d':Drawn}{ch:List Addr}(I:Inv X pins σ H s)(u:Un (qp X.stack) ch H H' s.heap h')(hok:zZ X.prog X.w H' h')(hg:AllBare g')
  (hch:∀b∈ch,(b∈X.ex∨X.s0.heap.objs.size<=b)/\b≠X.env.locals/\(∀x c,X.env.cells.lookup x=some c->c≠b)/\∀p∈X.pn++pins,p.1≠b):
  Inv X pins σ H' { s with heap:=h',gens:=g',drawn:=d',toks:=t' }:=by
 obtain ⟨m,⟨o,es,ep,ho,r⟩,_⟩:=id I.loc
 obtain ⟨sl,hL⟩:=u.any ho I.free λ z=>(hch _ z).2.1 rfl
 exact I.step (ch:=ch) hch (λ b o hL hb hc e n=>u.keep b o e n (λ z=>(List.mem_cons.mp (I.stkSub b z)).elim hL hb) hc) (λ b o _ _ hc e n=>u.any e n hc) (λ b o hc e n=>u.free b o e n hc) (λ b o hc e=>u.there b o e hc) u.tups u.frzs u.tbls (λ m' hm=>by
  obtain ⟨o',es',ep',ho',r'⟩:=hm
  rw [ho] at ho';cases ho'
  exact ⟨_,es',ep',hL,r'⟩) hok hg
theorem Inv.turned {t':Nat}{it:Addr}(I:Inv X pins σ H s)(k:∀b o,b≠it->s.heap.get? b=some o->h'.get? b=some o)(hn:H it=none)(hL:it≠X.env.locals)
  (h1:it∈X.ex∨X.s0.heap.objs.size<=it)(h2:∀x c,X.env.cells.lookup x=some c->c≠it)(h3:∀p∈X.pn++pins,p.1≠it):Inv X pins σ H { s with heap:=h',toks:=t' }:=by
 have nit:∀b u,H b=some u->b≠it:=λ b u e z=>by rw [z,hn] at e;cases e
 refine I.step (g':=s.gens) (d':=s.drawn) (ch:=[it]) (λ b hb=>?_) (λ b o _ _ hc e _=>k b o (λ z=>hc (by simp [z])) e) (λ b o _ _ hc e _=>⟨o.slots,k b o (λ z=>hc (by simp [z])) e⟩) (λ _ _ _ _ n=>n)
  (λ b o hc e=>⟨o,k b o (λ z=>hc (by simp [z])) e⟩) (λ _ _ e=>e) (λ _ _ _ e=>e) (λ b ps e=>⟨#[],by rw [e];simp⟩) (λ m hm=>?_) (λ b u e=>?_) I.bare
 ·have e:b=it:=by simpa using hb
  subst e
  exact ⟨h1,hL,h2,h3⟩
 ·obtain ⟨o,es,ep,ho,r⟩:=hm
  exact ⟨o,es,ep,k _ o (Ne.symm hL) ho,r⟩
 ·refine (I.hok b u e).stay (λ c v hc q=>k c v ?_ q) (λ _ q=>q) λ _ _ q=>q
  rcases hc with z | z
  ·rw [z];exact nit b u e
  ·exact nit c _ z
theorem Inv.tok (I:Inv X pins σ H s)(t:Nat):Inv X pins σ H { s with toks:=t }:=I.un (h':=s.heap) (t':=t) Un.refl I.hok
theorem Inv.kept {t':Nat}(I:Inv X pins σ H s)(k:∀b u,s.heap.get? b=some u->h'.get? b=some u):Inv X pins σ H { s with heap:=h',toks:=t' }:=I.un (Un.kept k) (I.hok.kept k)
theorem Inv.laid {a:Addr}{o:HO}{t':Nat}(I:Inv X pins σ H s)(k:∀b u,s.heap.get? b=some u->h'.get? b=some u)(hp:s.heap.objs.size<=a)(new:qN X.prog X.w (upd H a o) h' a o):
  Inv X pins σ (upd H a o) { s with heap:=h',toks:=t' }:=I.un (Un.laid k hp (I.hok.fresh hp)) (I.hok.laid k hp new)
theorem Inv.write {x e:Addr}{o:HO}{t':Nat}(I:Inv X pins σ H s)(mu:Ys (H x))(he:e=x∨H e=some (.own x))(k:∀b u,b≠e->s.heap.get? b=some u->h'.get? b=some u)(heo:∃u,h'.get? e=some u)
  (new:qN X.prog X.w (upd H x o) h' x o):Inv X pins σ (upd H x o) { s with heap:=h',toks:=t' }:=I.un (Un.write mu he k heo) (I.hok.write mu he k heo new)
theorem Inv.pins_of {pins':List (Addr × Obj)}(I:Inv X pins σ H s)(h:∀p∈pins',s.heap.get? p.1=some p.2/\H p.1=none/\p.1≠X.env.locals/\p.1∉X.fs/\∀v,p.2.data≠.cell v):Inv X pins' σ H s:=
 ⟨I.ok,I.os,I.bare,I.base,I.loc,I.cell,I.free,I.freeC,λ p hp=>(List.mem_append.mp hp).elim (λ z=>I.pin p (List.mem_append_left _ z)) (h p),I.hok,I.len⟩
theorem XF {N:List Str}(hN:N.Nodup){i j:Nat}{x:Str}(a:N[i]? =some x)(b:N[j]? =some x):i=j:=by
 obtain ⟨h1,e1⟩:=List.getElem?_eq_some_iff.mp a
 obtain ⟨h2,e2⟩:=List.getElem?_eq_some_iff.mp b
 exact (List.getElem_inj hN).mp (e1.trans e2.symm)
theorem TN {M:Model}{A:Around}{E:Value->Shared->Prop}{i:Nat}{x:Str}{v:V}{u:Value}{Q:Unit->Shared->Prop}(I:Inv X pins σ H s)(hN:X.N.Nodup)(hi:X.N[i]? =some x)(hx:Loc X.env.scope x)(r:RelV v u)
  (h:∀s',Inv X pins (σ.set i (some v)) H s'->(∃a,Heap.SameBut a s.heap s'.heap/\(a=X.env.locals∨X.env.cells.lookup x=some a))->Q () s')(hf:X.fn x=true∨X.env.scope.names.lookup x=some .local:=by first | exact .inl rfl | exact .inr rfl | assumption):wpAny M A (storeName X.env x u) Q E s:=by
 obtain ⟨m,hn,hl⟩:=id I.loc
 have hcls:(X.env.scope.kind==.class || (X.env.scope.kind==.module&&X.env.locals != X.env.globals))=false:=by rw [I.ok.kind];rfl
 have hiσ:i < σ.length:=by rw [I.len];exact (List.getElem?_eq_some_iff.mp hi).1
 have cne:=I.cne
 have tracked:∀{a:Addr} {h':Heap},(∃o,s.heap.get? a=some o/\H a=none)->Heap.SameBut a s.heap h'->zZ X.prog X.w H h':=λ {a h'} ha hs b ob e=>by
  obtain ⟨_,_,hfree⟩:=ha
  refine (I.hok b ob e).stay (λ c w' hc q=>(hs.2 c ?_).trans q) (λ _ q=>q) λ _ _ q=>q
  rintro rfl
  rcases hc with rfl | hc
  ·rw [hfree] at e;cases e
  ·rw [hfree] at hc;cases hc
 rcases hx with hk | hk
 ·refine wpAny_storeName_local hk hn (λ h' hn' hs=>?_) hcls
  obtain ⟨oL,_,_,hoL,_⟩:=id hn
  refine h _ ⟨I.ok,I.os,I.bare,⟨λ b o e n hb hx=>?_,λ b o e n hb hx=>?_,I.base.free,λ b o e hx=>?_,I.base.tups,I.base.frzs,I.base.tbls⟩,⟨_,hn',λ j y v' e1 e2 e3=>?_⟩,λ y c e=>?_,I.free,I.freeC,λ p hp=>?_,tracked ⟨oL,hoL,I.free⟩ hs,by simpa using I.len⟩ ⟨_,hs,.inl rfl⟩
  ·exact (hs.2 b (Nat.ne_of_lt (Nat.lt_of_lt_of_le (Heap.lt_size e) I.ok.above))).trans (I.base.keep b o e n hb hx)
  ·obtain ⟨sl,e1⟩:=I.base.slot b o e n hb hx
   exact ⟨sl,(hs.2 b (Nat.ne_of_lt (Nat.lt_of_lt_of_le (Heap.lt_size e) I.ok.above))).trans e1⟩
  ·obtain ⟨o',e1⟩:=I.base.there b o e hx
   exact ⟨o',(hs.2 b (Nat.ne_of_lt (Nat.lt_of_lt_of_le (Heap.lt_size e) I.ok.above))).trans e1⟩
  ·by_cases hj:j=i
   ·subst hj
    rw [hi] at e1;cases e1
    rw [List.getElem?_set_self hiσ] at e2
    cases e2
    exact ⟨u,r,.inl ⟨hk,by simp⟩⟩
   ·rw [List.getElem?_set_ne (Ne.symm hj)] at e2
    obtain ⟨u',r',q⟩:=hl j y v' e1 e2 e3
    refine ⟨u',r',?_⟩
    rcases q with ⟨k,e⟩ | ⟨k,c,e,z⟩
    ·refine .inl ⟨k,?_⟩
     have:y≠x:=λ e=>hj (XF hN e1 (e ▸ hi))
     simp [this,e]
    ·exact .inr ⟨k,c,e,z.sameBut hs (cne y c e)⟩
  ·obtain ⟨w',z⟩:=I.cell y c e
   exact ⟨w',z.sameBut hs (cne y c e)⟩
  ·obtain ⟨e,n,ne,nf,d⟩:=I.pin p hp
   exact ⟨(hs.2 p.1 ne).trans e,n,ne,nf,d⟩
 ·have hfn:X.fn x=true:=by
   rcases hf with z | z
   ·exact z
   ·rw [z] at hk;cases hk
  obtain ⟨c,hc⟩:=I.ok.has x (.inl hk)
  obtain ⟨w',z⟩:=I.cell x c hc
  refine wpAny_storeName_cell I.ok.kind hk hc z (λ h' hc' hs=>?_)
  obtain ⟨oc,hoc,hocd⟩:=id z
  refine h { s with heap:=h' } ⟨I.ok,I.os,I.bare,⟨λ b o e n hb hx=>?_,λ b o e n hb hx=>?_,I.base.free,λ b o e hx=>?_,I.base.tups,I.base.frzs,I.base.tbls⟩,⟨m,hn.sameBut hs (Ne.symm (cne x c hc)),λ j y v' e1 e2 e3=>?_⟩,λ y c' e=>?_,I.free,I.freeC,λ p hp=>?_,tracked ⟨oc,hoc,I.freeC x c hc⟩ hs,by simpa using I.len⟩ ⟨c,hs,.inr hc⟩
  ·exact (hs.2 b (Nat.ne_of_lt (Nat.lt_of_lt_of_le (Heap.lt_size e) (I.ok.cab x c hfn hc)))).trans (I.base.keep b o e n hb hx)
  ·obtain ⟨sl,e1⟩:=I.base.slot b o e n hb hx
   exact ⟨sl,(hs.2 b (Nat.ne_of_lt (Nat.lt_of_lt_of_le (Heap.lt_size e) (I.ok.cab x c hfn hc)))).trans e1⟩
  ·obtain ⟨o',e1⟩:=I.base.there b o e hx
   exact ⟨o',(hs.2 b (Nat.ne_of_lt (Nat.lt_of_lt_of_le (Heap.lt_size e) (I.ok.cab x c hfn hc)))).trans e1⟩
  ·by_cases hj:j=i
   ·subst hj
    rw [hi] at e1;cases e1
    rw [List.getElem?_set_self hiσ] at e2
    cases e2
    exact ⟨u,r,.inr ⟨.inl hk,c,hc,hc'⟩⟩
   ·rw [List.getElem?_set_ne (Ne.symm hj)] at e2
    obtain ⟨u',r',q⟩:=hl j y v' e1 e2 e3
    refine ⟨u',r',?_⟩
    rcases q with q | ⟨k,c',e,z'⟩
    ·exact .inl q
    ·refine .inr ⟨k,c',e,z'.sameBut hs ?_⟩
     rintro rfl
     exact hj (XF hN e1 (I.ok.inj _ _ _ e hc ▸ hi))
  ·by_cases hcc:c'=c
   ·subst hcc;exact ⟨_,hc'⟩
   ·obtain ⟨w2,z2⟩:=I.cell y c' e
    exact ⟨w2,z2.sameBut hs hcc⟩
  ·obtain ⟨e,n,ne,nf,d⟩:=I.pin p hp
   refine ⟨(hs.2 p.1 ?_).trans e,n,ne,nf,d⟩
   intro q
   rw [q,hoc] at e
   have q':oc=p.2:=Option.some.inj e
   exact d w' (by rw [<- q'];exact hocd)
theorem QW {M:Model}{A:Around}{E:Value->Shared->Prop}{i:Nat}{x:Str}{v:V}{u:Value}{Q:Unit->Shared->Prop}(I:Inv X pins σ H s)(hN:X.N.Nodup)(hi:X.N[i]? =some x)(hx:Loc X.env.scope x)(r:RelV v u)
  (h:∀s',Inv X pins (σ.set i (some v)) H s'->Q () s')(hf:X.fn x=true∨X.env.scope.names.lookup x=some .local:=by first | exact .inl rfl | exact .inr rfl | assumption):wpAny M A (storeName X.env x u) Q E s:=
 TN I hN hi hx r (λ s' I' _=>h s' I') hf
theorem Inv.call' {s':Shared}{ch:List Addr}(I:Inv X pins σ H s)(ho:s'.os=s.os)(u:Un (qp X.stack) ch H H' s.heap s'.heap)(hok:zZ X.prog X.w H' s'.heap)(hg:AllBare s'.gens)
  (hch:∀b∈ch,(b∈X.ex∨X.s0.heap.objs.size<=b)/\b≠X.env.locals/\(∀x c,X.env.cells.lookup x=some c->c≠b)/\∀p∈X.pn++pins,p.1≠b):Inv X pins σ H' s':=by
 obtain ⟨h',g',d',t',o'⟩:=s'
 have e:o'=s.os:=ho
 subst e
 exact I.call (g':=g') (t':=t') (d':=d') u hok hg hch
end
noncomputable abbrev XK:=Value->Option Addr->Hp->Prop
noncomputable abbrev St:=List (Option V)
noncomputable abbrev VK:=V->Hp->Prop
noncomputable abbrev TE:=St->Hp->VK->Prop
noncomputable abbrev TT:=St->Hp->(Bool->Hp->Prop)->Prop
noncomputable abbrev TA:=St->Hp->(List V->Hp->Prop)->Prop
structure Ends where
 nx:St->Hp->Prop
 rt:VK
 bk:St->Hp->Prop:=λ _ _=>False
 ct:St->Hp->Prop:=λ _ _=>False
noncomputable abbrev TS:=Ends->St->Hp->Prop
inductive EP (X:Cx)(pins:List (Addr × Obj))(σ:St)(Q:VK)(u:Value)(s':Shared):Prop
 | mk (v:V) (H':Hp) (I:Inv X pins σ H' s') (r:RelV v u) (q:Q v H')
noncomputable def TP (X:Cx)(pins:List (Addr × Obj))(σ:St)(Q:Bool->Hp->Prop)(b:Bool)(s':Shared):Prop:=∃H',Inv X pins σ H' s'/\Q b H'
inductive AP (X:Cx)(pins:List (Addr × Obj))(σ:St)(Q:List V->Hp->Prop)(us:List Value)(s':Shared):Prop
 | mk (vs:List V) (H':Hp) (I:Inv X pins σ H' s') (r:Vals vs us) (q:Q vs H')
noncomputable def SP (X:Cx)(pins:List (Addr × Obj))(D:Ends)(f:Flow)(s':Shared):Prop:=
 match f with
 | .next=>∃σ' H',Inv X pins σ' H' s'/\D.nx σ' H'
 | .brk=>∃σ' H',Inv X pins σ' H' s'/\D.bk σ' H'
 | .cont=>∃σ' H',Inv X pins σ' H' s'/\D.ct σ' H'
 | .ret u=>∃v σ' H',Inv X pins σ' H' s'/\RelV v u/\D.rt v H'
noncomputable def PE (X:Cx)(e:Expr)(t:TE):Prop:=
 ∀(pins:List (Addr × Obj)) (s:Shared) (σ:St) (H:Hp) (Q:VK),Inv X pins σ H s->t σ H Q->wpAny (model X.prog X.w) X.A (eval e X.env) (EP X pins σ Q) X.xe s
noncomputable def PT (X:Cx)(e:Expr)(t:TT):Prop:=
 ∀(pins:List (Addr × Obj)) (s:Shared) (σ:St) (H:Hp) (Q:Bool->Hp->Prop),Inv X pins σ H s->t σ H Q->wpAny (model X.prog X.w) X.A (isTrue e X.env (eval e X.env)) (TP X pins σ Q) X.xe s
noncomputable def PW (X:Cx)(e:Expr)(t:TT):Prop:=
 ∀(whole:Sem Value) (pins:List (Addr × Obj)) (s:Shared) (σ:St) (H:Hp) (Q:Bool->Hp->Prop),Inv X pins σ H s->t σ H Q->wpAny (model X.prog X.w) X.A (isTrue e X.env whole) (TP X pins σ Q) X.xe s
theorem PW.pt {X:Cx}{e:Expr}{t:TT}(h:PW X e t):PT X e t:=h _
noncomputable def PA (X:Cx)(es:List Expr)(t:TA):Prop:=
 ∀(pos:Pos) (pins:List (Addr × Obj)) (s:Shared) (σ:St) (H:Hp) (Q:List V->Hp->Prop),Inv X pins σ H s->t σ H Q->wpAny (model X.prog X.w) X.A (spliced (backTo pos (starEach es X.env))) (AP X pins σ Q) X.xe s
noncomputable def PS (X:Cx)(st:Stmt)(t:TS):Prop:=
 ∀(pins:List (Addr × Obj)) (s:Shared) (σ:St) (H:Hp) (D:Ends),Inv X pins σ H s->t D σ H->wpAny (model X.prog X.w) X.A (exec st X.env) (SP X pins D) X.xe s
noncomputable def yi (X:Cx)(st:List Stmt)(t:TS):Prop:=
 ∀(pins:List (Addr × Obj)) (s:Shared) (σ:St) (H:Hp) (D:Ends),Inv X pins σ H s->t D σ H->wpAny (model X.prog X.w) X.A (execs st X.env) (SP X pins D) X.xe s
theorem qe {α:Type}{t:Sem α}{Q Q':α->Shared->Prop}{M:Model}{A:Around}{E:Value->Shared->Prop}{s:Shared}(h:wpAny M A t Q E s)(hQ:∀a s,Q a s->Q' a s):wpAny M A t Q' E s:=wpAny_mono h hQ λ _ _ x=>x
section
variable {X:Cx}
noncomputable def BG (i:Nat):TE:=λ σ H Q=>∃v,σ[i]? =some (some v)/\Q v H
noncomputable def tC (v:V):TE:=λ _ H Q=>Q v H
theorem R9 {i:Nat}{x:Str}{pos:Pos}(hN:X.N[i]? =some x)(hv:JD X.env.scope x)(hd:(x==("__debug__" : Str))=false:=by decide)(hcd:(x==("__classdict__" : Str))=false:=by decide):PE X (.Name x pos) (BG i):=by
 intro pins s σ H Q I h
 obtain ⟨v,e,h⟩:=h
 obtain ⟨m,hn,hl⟩:=I.loc
 obtain ⟨u,r,l⟩:=hl i x v hN e hv
 have fin:EP X pins σ Q u s:=⟨v,H,I,r,h⟩
 rcases l with ⟨hk,hm⟩ | ⟨hk,c,hc,hcell⟩
 ·exact wpAny_Name (wpAny_loadName_local I.ok.kind hk hn hm fin) hd
 ·rcases hk with hk | hk
  ·exact wpAny_Name (wpAny_loadName_cell I.ok.kind hk hc hcell fin) hd
  ·exact wpAny_Name (wpAny_loadName_free I.ok.kind hk hc hcell fin hcd) hd
theorem DD {i j pos}:PE X (.Constant (.int i) j pos) (tC (.int i)):=λ _ _ _ H _ I h=>wpAny_Constant_int ⟨.int i,H,I.tok _,⟨_,rfl⟩,h⟩
theorem CA {b j pos}:PE X (.Constant (.bool b) j pos) (tC (.bl b)):=λ _ _ _ H _ I h=>Constant_bool ⟨.bl b,H,I,rfl,h⟩
theorem D6 {j pos}:PE X (.Constant .none j pos) (tC .non):=λ _ _ _ H _ I h=>Constant_none ⟨.non,H,I,rfl,h⟩
theorem DX {x j pos}:PE X (.Constant (.str x) j pos) (tC (.str x)):=λ _ _ _ H _ I h=>Calls.Constant_str ⟨.str x,H,I.tok _,⟨_,rfl⟩,h⟩
noncomputable def Gl (X:Cx)(x:Str):Prop:=X.env.kindOf x=some .globalImplicit
theorem J1 {E:Value->Shared->Prop}{pins:List (Addr × Obj)}{s:Shared}{σ:St}{H:Hp}{x:Str}{u:Value}{pos:Pos}{Q:Value->Shared->Prop}(I:Inv X pins σ H s)(hg:Gl X x)(hm:X.mg x=some u)(h:Q u s)
  (hd:(x==("__debug__" : Str))=false:=by decide):wpAny (model X.prog X.w) X.A (eval (.Name x pos) X.env) Q E s:=
 Calls.Name_function_global I.ok.kind hg (Calls.loadGlobal_global (by rw [I.ok.glob];exact I.mod.glob.keeps I.bk) hm h) hd
theorem ZW {E:Value->Shared->Prop}{pins:List (Addr × Obj)}{s:Shared}{σ:St}{H:Hp}{x:Str}{u:Value}{pos:Pos}{Q:Value->Shared->Prop}(I:Inv X pins σ H s)(hg:Gl X x)(hm:X.mg x=none)(hv:bootBuiltins x=some u)(h:Q u s)
  (hn:x ≠ "__name__" := by decide)(hd:(x==("__debug__" : Str))=false:=by decide):wpAny (model X.prog X.w) X.A (eval (.Name x pos) X.env) Q E s:=by
 obtain ⟨mb,h1,h2⟩:=I.mod.blt
 exact Calls.Name_function_global I.ok.kind hg (Calls.loadGlobal_builtin (by rw [I.ok.glob];exact I.mod.glob.keeps I.bk) hm (by rw [I.ok.blt];exact h1.keeps I.bk) ((h2 x hn).trans hv) h) hd
theorem El {x:Str}{v:V}{u:Value}{pos:Pos}(hg:Gl X x)(hm:X.mg x=some u)(r:RelV v u)(hd:(x==("__debug__" : Str))=false:=by decide):PE X (.Name x pos) (tC v):=
 λ _ _ _ H _ I h=>J1 I hg hm ⟨v,H,I,r,h⟩ hd
theorem KS {x:Str}{v:V}{u:Value}{pos:Pos}(hg:Gl X x)(hm:X.mg x=none)(hv:bootBuiltins x=some u)(r:RelV v u)(hn:x ≠ "__name__" := by decide)(hd:(x==("__debug__" : Str))=false:=by decide):PE X (.Name x pos) (tC v):=
 λ _ _ _ H _ I h=>ZW I hg hm hv ⟨v,H,I,r,h⟩ hn hd
variable {a b:Expr}{ta tb:TE}{pos:Pos}
theorem Hc (b:Expr){op:CmpOp}(h:op≠.In)(h2:op≠.NotIn):behindInMarks op b=false:=by
 have e1:(op==CmpOp.In)=false:=by cases op<;>first | rfl | exact absurd rfl h
 have e2:(op==CmpOp.NotIn)=false:=by cases op<;>first | rfl | exact absurd rfl h2
 cases b<;>simp [behindInMarks,e1,e2]
noncomputable def tB (t:TE):TT:=λ σ H Q=>t σ H λ x H1=>∃c,x=.bl c/\Q c H1
theorem Dc {e:Expr}{t:TE}(h:PE X e t)(he:∀whole,isTrue e X.env whole=(do let v <- whole;standAt e.pos;holding [v] (truthy v)):=by intro _;rfl):PT X e (tB t):=by
 intro pins s σ H Q I hw
 refine isTrue_plain (qe (h pins s σ H _ I hw) λ v s1 ⟨x,H1,I1,r1,q1⟩=>?_) (he _)
 obtain ⟨d,rfl,q⟩:=q1
 cases r1
 exact wpAny_truthy_bool ⟨H1,I1,q⟩
variable {tA tB':TT}{rest:List Expr}
noncomputable def Af (t u:TT):TT:=λ σ H Q=>t σ H λ c H1=>if c=true then Q true H1 else u σ H1 Q
noncomputable def BQ (t:TT):TT:=λ σ H Q=>t σ H λ c H1=>Q (!c) H1
theorem pw_or1 (ha:PT X a tA):PW X (.BoolOp .Or [a] pos) tA:=by
 intro wh pins s σ H Q I h
 refine isTrue_or (qe (ha pins s σ H Q I h) λ c s1 e=>?_)
 cases c with
 | false=>exact isTrue_or_nil e
 | true=>exact e
theorem pw_or (ha:PT X a tA)(hb:PW X (.BoolOp .Or (b::rest) pos) tB'):PW X (.BoolOp .Or (a::b::rest) pos) (Af tA tB'):=by
 intro wh pins s σ H Q I h
 refine isTrue_or (qe (ha pins s σ H _ I h) λ c s1 ⟨H1,I1,q1⟩=>?_)
 cases c with
 | true=>exact ⟨H1,I1,q1⟩
 | false=>exact hb wh pins s1 σ H1 Q I1 q1
theorem Et (ha:PT X a tA):PT X (.UnaryOp .Not a pos) (BQ tA):=by
 intro pins s σ H Q I h
 exact isTrue_not (ha pins s σ H (λ c H1=>Q (!c) H1) I h)
noncomputable def CZ (ta tb:TE):TE:=λ σ H Q=>ta σ H λ x H1=>∃c,x=.bl c/\if c=true then tb σ H1 Q else Q (.bl false) H1
noncomputable def Bh (ta:TE):TE:=λ σ H Q=>ta σ H λ x H1=>∃c,x=.bl c/\Q (.bl (!c)) H1
theorem EH {op}{t:TE}(h:PE X a t):PE X (.BoolOp op [a] pos) t:=λ pins s σ H Q I hw=>BoolOp_one (h pins s σ H Q I hw)
theorem DW (ha:PE X a ta)(hb:PE X (.BoolOp .And (b::rest) pos) tb):PE X (.BoolOp .And (a::b::rest) pos) (CZ ta tb):=by
 intro pins s σ H Q I h
 refine BoolOp_and (qe (ha pins s σ H _ I h) λ v s1 ⟨x,H1,I1,r1,q1⟩=>?_)
 obtain ⟨c,rfl,q1⟩:=q1
 cases r1
 refine wpAny_truthy_bool ?_
 cases c with
 | true=>exact hb pins s1 σ H1 Q I1 q1
 | false=>exact ⟨.bl false,H1,I1,rfl,q1⟩
theorem Eu (ha:PE X a ta):PE X (.UnaryOp .Not a pos) (Bh ta):=by
 intro pins s σ H Q I h
 refine UnaryOp_ (qe (ha pins s σ H _ I h) λ v s1 ⟨x,H1,I1,r1,q1⟩=>?_)
 obtain ⟨c,rfl,q1⟩:=q1
 cases r1
 exact not_of (wpAny_truthy_bool ⟨.bl (!c),H1,I1,rfl,q1⟩)
noncomputable def Ae (t:TT)(ta tb:TE):TE:=λ σ H Q=>t σ H λ c H1=>if c=true then ta σ H1 Q else tb σ H1 Q
theorem Iu {c:Expr}(hc:PT X c tA)(ha:PE X a ta)(hb:PE X b tb):PE X (.IfExp c a b pos) (Ae tA ta tb):=by
 intro pins s σ H Q I h
 refine wpAny_IfExp (qe (hc pins s σ H _ I h) λ d s1 ⟨H1,I1,q1⟩=>?_)
 cases d with
 | true=>exact ha pins s1 σ H1 Q I1 q1
 | false=>exact hb pins s1 σ H1 Q I1 q1
end
noncomputable def qW (K:Frag)(H:Hp)(a:Addr)(xs:List V):Prop:=
 Rd H a (.lst xs)∨
  ∃(o:Obj) (its:Array Value) (n:Nat),K.lookup a=some o/\o.cls=.type "list" /\ o.dict=none/\o.data=.seq its n/\its.size<=sizeLine/\Vals xs its.toList
noncomputable def qv (K:Frag)(H:Hp)(a:Addr)(xs:List V):Prop:=
 Rd H a (.tup xs)∨
  ∃(o:Obj) (its:Array Value) (n:Nat),K.lookup a=some o/\(o.cls=.type "tuple" /\ o.dict=none)/\o.data=.seq its n/\its.size<=sizeLine/\Vals xs its.toList
noncomputable def Bl:Value->Option V
 | .none=>some .non
 | .bool b=>some (.bl b)
 | .int i _=>some (.int i)
 | .str x _=>some (.str x)
 | .bytes b _=>some (.byt b)
 | .float b _=>some (.flt b)
 | .ref a=>some (.ref a)
 | .type n=>some (.ty n)
 | _=>none
theorem RelV.abs {x:V}{u:Value}(r:RelV x u):Bl u=some x:=by
 cases x with
 | non=>cases r;rfl
 | bl _=>cases r;rfl
 | int _=>obtain ⟨t,rfl⟩:=r;rfl
 | str _=>obtain ⟨t,rfl⟩:=r;rfl
 | byt _=>obtain ⟨t,rfl⟩:=r;rfl
 | flt _=>obtain ⟨t,rfl⟩:=r;rfl
 | ref _=>cases r;rfl
 | ty _=>cases r;rfl
theorem RelV.inj {x y:V}{u:Value}(r:RelV x u)(q:RelV y u):x=y:=Option.some.inj (r.abs.symm.trans q.abs)
theorem Vals.inj:∀{xs ys:List V} {us:List Value},Vals xs us->Vals ys us->xs=ys
 | _,_,_,.nil,.nil=>rfl
 | _,_,_,.cons r t,.cons r' t'=>by rw [r.inj r',Vals.inj t t']
section
variable {X:Cx}{pins:List (Addr × Obj)}{σ:St}{H:Hp}{s:Shared}{a:Addr}{xs ys:List V}
theorem qW.of {K:Frag}(h:H a=some (.lst xs)):qW K H a xs:=.inl (.inl h)
theorem qv.of {K:Frag}(h:H a=some (.tup xs)):qv K H a xs:=.inl (.inl h)
theorem Inv.list (I:Inv X pins σ H s)(h:qW X.K H a xs):∃its:List Value,Vals xs its/\PlainL s.heap a its.toArray/\xs.length<=sizeLine:=by
 rcases h with h | ⟨o,its,n,hk,hc,hd,hs,hz,r⟩
 ·obtain ⟨z,its,n,r,e⟩:=h.ok I.hok
  exact ⟨its,r,⟨_,n,e,rfl,rfl,rfl⟩,z⟩
 ·refine ⟨its.toList,r,⟨o,n,I.kIn a o hk,hc,hd,by simpa using hs⟩,?_⟩
  have e:=r.length
  simp only [Array.length_toList] at e
  omega
theorem Inv.tuple (I:Inv X pins σ H s)(h:qv X.K H a xs):∃its:List Value,Vals xs its/\IsTup s.heap a its.toArray/\xs.length<=sizeLine:=by
 rcases h with h | ⟨o,its,n,hk,hc,hs,hz,r⟩
 ·obtain ⟨z,its,r,p⟩:=h.ok I.hok
  exact ⟨its,r,p.tup,z⟩
 ·refine ⟨its.toList,r,⟨o,I.kIn a o hk,hc.1,n,by simpa using hs⟩,?_⟩
  have e:=r.length
  simp only [Array.length_toList] at e
  omega
theorem Inv.list_inj (I:Inv X pins σ H s)(h:qW X.K H a xs)(h':qW X.K H a ys):xs=ys:=by
 obtain ⟨its,r,⟨o,n,e,_,_,d⟩,_⟩:=I.list h
 obtain ⟨its',r',⟨o',n',e',_,_,d'⟩,_⟩:=I.list h'
 rw [e] at e';cases e'
 rw [d] at d'
 injection d' with d1 _
 have:its=its':=by simpa using congrArg Array.toList d1
 subst this
 exact r.inj r'
theorem Inv.tuple_inj (I:Inv X pins σ H s)(h:qv X.K H a xs)(h':qv X.K H a ys):xs=ys:=by
 obtain ⟨its,r,⟨o,e,_,n,d⟩,_⟩:=I.tuple h
 obtain ⟨its',r',⟨o',e',_,n',d'⟩,_⟩:=I.tuple h'
 rw [e] at e';cases e'
 rw [d] at d'
 injection d' with d1 _
 have:its=its':=by simpa using congrArg Array.toList d1
 subst this
 exact r.inj r'
end
noncomputable abbrev Cx.wish (X:Cx)(E:Value->Shared->Prop):Cx:={ X with xe:=E }
noncomputable abbrev Cx.nox (X:Cx):Cx:=X.wish λ _ _=>False
theorem Cx.Ok.wish {X:Cx}(ok:X.Ok)(E:Value->Shared->Prop):(X.wish E).Ok:=
 ⟨ok.mod,ok.kind,ok.glob,ok.blt,ok.above,ok.inj,ok.has,ok.cab,ok.hd,ok.frames,ok.stk,ok.exf,ok.bs,ok.bsz,ok.noex,ok.exfs,ok.funs,ok.frf⟩
theorem Cx.Ok.unwish {X:Cx}{E:Value->Shared->Prop}(ok:(X.wish E).Ok):X.Ok:=
 ⟨ok.mod,ok.kind,ok.glob,ok.blt,ok.above,ok.inj,ok.has,ok.cab,ok.hd,ok.frames,ok.stk,ok.exf,ok.bs,ok.bsz,ok.noex,ok.exfs,ok.funs,ok.frf⟩
section
variable {X:Cx}{pins:List (Addr × Obj)}{σ:St}{H:Hp}{s:Shared}{E:Value->Shared->Prop}
theorem Inv.wish (I:Inv X pins σ H s)(E:Value->Shared->Prop):Inv (X.wish E) pins σ H s:=⟨I.ok.wish E,I.os,I.bare,I.base,I.loc,I.cell,I.free,I.freeC,I.pin,I.hok,I.len⟩
theorem Inv.unwish (I:Inv (X.wish E) pins σ H s):Inv X pins σ H s:=⟨I.ok.unwish,I.os,I.bare,I.base,I.loc,I.cell,I.free,I.freeC,I.pin,I.hok,I.len⟩
theorem SP.unwish {D:Ends}{f:Flow}{s':Shared}(h:SP (X.wish E) pins D f s'):SP X pins D f s':=by
 cases f with
 | next=>obtain ⟨σ',H',I,q⟩:=h;exact ⟨σ',H',I.unwish,q⟩
 | brk=>obtain ⟨σ',H',I,q⟩:=h;exact ⟨σ',H',I.unwish,q⟩
 | cont=>obtain ⟨σ',H',I,q⟩:=h;exact ⟨σ',H',I.unwish,q⟩
 | ret u=>obtain ⟨v,σ',H',I,r,q⟩:=h;exact ⟨v,σ',H',I.unwish,r,q⟩
theorem PT.nox {e:Expr}{t:TT}(h:PT X.nox e t):PT X e t:=λ pins s σ H Q I hw=>
 wpAny_mono (h pins s σ H Q (I.wish _) hw) (λ _ _ ⟨H',I',q⟩=>⟨H',I'.unwish,q⟩) λ _ _ z=>False.elim z
theorem yi.nox {st:List Stmt}{t:TS}(h:yi X.nox st t):yi X st t:=λ pins s σ H D I hw=>
 wpAny_mono (h pins s σ H D (I.wish _) hw) (λ _ _ q=>q.unwish) λ _ _ z=>False.elim z
end
section
variable {X:Cx}{st:Stmt}{rest:List Stmt}{t u:TS}{e:Expr}{te:TE}{pos:Pos}
noncomputable def CH:TS:=λ D σ H=>D.nx σ H
noncomputable def BZ (t u:TS):TS:=λ D σ H=>t { D with nx:=u D } σ H
theorem HU:yi X [] CH:=λ _ _ σ H _ I h=>wpAny_execs_nil ⟨σ,H,I,h⟩
theorem Hj (h1:PS X st t)(h2:yi X rest u):yi X (st::rest) (BZ t u):=by
 intro pins s σ H D I h
 refine wpAny_execs_cons (qe (h1 pins s σ H { D with nx:=u D } I h) λ f s1 q=>?_)
 cases f with
 | next=>
  obtain ⟨σ',H',I',q⟩:=q
  exact h2 pins s1 σ' H' D I' q
 | ret v=>exact q
 | brk=>exact q
 | cont=>exact q
theorem Inv.quiet {pins:List (Addr × Obj)}{σ:St}{H:Hp}{s:Shared}(I:Inv X pins σ H s):interactive X.env=false:=by simp [interactive,I.ok.kind]
noncomputable def Ba (te:TE):TS:=λ D σ H=>te σ H λ _ H1=>D.nx σ H1
theorem HL (he:PE X e te)(hs:swapsWith e none pos.line X.env=pure false:=by rfl):PS X (.Expr e pos) (Ba te):=by
 intro pins s σ H D I h
 exact wpAny_Expr_any (qe (he pins s σ H _ I h) λ v s1 ⟨x,H1,I1,r1,q1⟩=>⟨σ,H1,I1,q1⟩) I.quiet hs
noncomputable def Bt (te:TE):TS:=λ D σ H=>te σ H D.rt
theorem Dp (he:PE X e te):PS X (.Return (some e) pos) (Bt te):=by
 intro pins s σ H D I h
 exact wpAny_Return_some (qe (he pins s σ H _ I h) λ v s1 ⟨x,H1,I1,r1,q1⟩=>⟨x,σ,H1,I1,r1,q1⟩)
noncomputable def Bq (c:TT)(t u:TS):TS:=λ D σ H=>c σ H λ b H1=>if b=true then t D σ H1 else u D σ H1
theorem Cp {c:Expr}{a b:List Stmt}{tc:TT}(hc:PT X c tc)(ha:yi X a t)(hb:yi X b u):PS X (.If c a b pos) (Bq tc t u):=by
 intro pins s σ H D I h
 refine wpAny_If (qe (hc pins s σ H _ I h) λ d s1 ⟨H1,I1,q1⟩=>?_)
 cases d with
 | true=>exact ha pins s1 σ H1 D I1 q1
 | false=>exact hb pins s1 σ H1 D I1 q1
end
noncomputable abbrev TG:=V->St->Hp->(St->Hp->Prop)->Prop
noncomputable abbrev Qy:=List V->St->Hp->(St->Hp->Prop)->Prop
noncomputable def PG (X:Cx)(target:Expr)(t:TG):Prop:=
 ∀(pins:List (Addr × Obj)) (s:Shared) (σ:St) (H:Hp) (v:V) (u:Value) (Q:St->Hp->Prop),Inv X pins σ H s->RelV v u->t v σ H Q->
  wpAny (model X.prog X.w) X.A (assign target X.env u) (λ _ s'=>∃σ' H',Inv X pins σ' H' s'/\Q σ' H') X.xe s
noncomputable def WA (X:Cx)(ts:List Expr)(t:Qy):Prop:=
 ∀(pins:List (Addr × Obj)) (s:Shared) (σ:St) (H:Hp) (vs:List V) (us:List Value) (Q:St->Hp->Prop),Inv X pins σ H s->Vals vs us->t vs σ H Q->
  wpAny (model X.prog X.w) X.A (assignInOrder ((assignEach ts X.env).map (·.2)) us) (λ _ s'=>∃σ' H',Inv X pins σ' H' s'/\Q σ' H') X.xe s
noncomputable abbrev Qs:=V->V->V->Hp->(Hp->Prop)->Prop
noncomputable def Ww (X:Cx)(t:Qs):Prop:=
 ∀(pins:List (Addr × Obj)) (s:Shared) (σ:St) (H:Hp) (o i v:V) (ov iv u:Value) (Q:Hp->Prop),Inv X pins σ H s->RelV o ov->RelV i iv->RelV v u->t o i v H Q->
  wpAny (model X.prog X.w) X.A (setItem ov iv u) (λ _ s'=>∃H',Inv X pins σ H' s'/\Q H') X.xe s
section
variable {X:Cx}{pos:Pos}
noncomputable def Wb (i:Nat):TG:=λ v σ H Q=>Q (σ.set i (some v)) H
theorem X2 {i:Nat}{x:Str}(hN:X.N.Nodup)(hi:X.N[i]? =some x)(hx:Loc X.env.scope x)(hf:X.fn x=true∨X.env.scope.names.lookup x=some .local:=by first | exact .inl rfl | exact .inr rfl | assumption):PG X (.Name x pos) (Wb i):=by
 intro pins s σ H v u Q I r h
 exact wpAny_assign_Name (QW I hN hi hx r (λ s' I'=>⟨_,H,I',h⟩) hf)
noncomputable def Bx:Qy:=λ vs σ H Q=>vs=[]/\Q σ H
noncomputable def C8 (t:TG)(u:Qy):Qy:=λ vs σ H Q=>∃v r,vs=v::r/\t v σ H λ σ' H'=>u r σ' H' Q
theorem SX:WA X [] Bx:=by
 intro pins s σ H vs us Q I r h
 obtain ⟨e,h⟩:=h
 subst e
 cases r
 exact assignInOrder_nil ⟨σ,H,I,h⟩
theorem Kv {e:Expr}{es:List Expr}{t:TG}{u:Qy}(h1:PG X e t)(h2:WA X es u)
  (hs:(assignEach (e::es) X.env).map (·.2)=assign e X.env::(assignEach es X.env).map (·.2):=by rfl):WA X (e::es) (C8 t u):=by
 intro pins s σ H vs us Q I r h
 obtain ⟨v,vr,e1,h⟩:=h
 subst e1
 cases r with
 | cons r rr=>
  rw [hs]
  refine assignInOrder_cons (qe (h1 pins s σ H _ _ _ I r h) λ _ s1 ⟨σ1,H1,I1,q1⟩=>?_)
  exact h2 pins s1 σ1 H1 _ _ Q I1 rr q1
noncomputable def qH (K:Frag)(n:Nat)(t:Qy):TG:=λ v σ H Q=>∃a xs,v=.ref a/\qv K H a xs/\xs.length=n/\t xs σ H Q
theorem Pe {es:List Expr}{k:Nat}{t:Qy}{n:Nat}(hc:X.calm=true)(h:WA X es t)
  (hn:(assignEach es X.env).length=n:=by rfl)(hst:(assignEach es X.env).findIdx? (·.1)=none:=by rfl):PG X (.Tuple es k pos) (qH X.K n t):=by
 intro pins s σ H v u Q I r hw
 obtain ⟨a,xs,e1,hq,hl,hw⟩:=hw
 subst e1
 cases r
 obtain ⟨its,rv,ht,hz⟩:=I.tuple hq
 refine assign_Tuple_tuple (I.ok.hd hc) ht (by simp [hn,<- hl,rv.length]) hst λ h' hx=>?_
 have I1:Inv X pins σ H { s with heap:=h' }:=I.kept (t':=s.toks) λ b o e=>hx b o (Nat.ne_of_lt (Heap.lt_size e)) e
 exact h pins _ σ H xs _ Q I1 (by simpa using rv) hw
noncomputable def yh (to ti:TE)(t:Qs):TG:=λ v σ H Q=>to σ H λ o H1=>ti σ H1 λ i H2=>t o i v H2 λ H3=>Q σ H3
theorem Vq {o i:Expr}{to ti:TE}{t:Qs}(ho:PE X o to)(hi:PE X i ti)(hs:Ww X t)
  (ha:∀v,assign (.Subscript o i pos) X.env v=(do
   let ov <- holding [v] (eval o X.env)
   let iv <- holding [v,ov] (eval i X.env)
   standAt pos
   holding [v,ov,iv] (setItem ov iv v)
   release [v,ov,iv] []):=by intro _;rfl):PG X (.Subscript o i pos) (yh to ti t):=by
 intro pins s σ H v u Q I r h
 rw [ha]
 refine wpAny_bind (wpAny_holding (qe (ho pins s σ H _ I h) λ ov s1 ⟨x,H1,I1,r1,q1⟩=>?_))
 refine wpAny_bind (wpAny_holding (qe (hi pins s1 σ H1 _ I1 q1) λ iv s2 ⟨y,H2,I2,r2,q2⟩=>?_))
 refine wpAny_bind (wpAny_standAt (wpAny_bind (wpAny_holding (qe (hs pins s2 σ H2 x y v ov iv u _ I2 r1 r2 r q2) λ _ s3 ⟨H3,I3,q3⟩=>?_))))
 exact wpAny_release ⟨σ,H3,I3,q3⟩
noncomputable def Wk (te:TE)(g:TG):TS:=λ D σ H=>te σ H λ x H1=>g x σ H1 D.nx
theorem Vt {tg e:Expr}{te:TE}{g:TG}(he:PE X e te)(hg:PG X tg g)(hs:swapsWithSole [tg] e pos.line X.env=pure false:=by rfl)(hw:swappedStores [tg] e X.env=pure none:=by rfl)
  (h1:(assignEach [tg] X.env).map (·.2)=[assign tg X.env]:=by rfl):PS X (.Assign [tg] e pos) (Wk te g):=by
 intro pins s σ H D I h
 refine wpAny_Assign_stores (qe (he pins s σ H _ I h) λ v s1 ⟨x,H1,I1,r1,q1⟩=>?_) hs hw
 rw [h1]
 exact qe (hg pins s1 σ H1 x v _ I1 r1 q1) λ _ s2 q=>q
theorem EJ {i:Nat}{x:Str}{e:Expr}{te:TE}{pos':Pos}(hN:X.N.Nodup)(hi:X.N[i]? =some x)(hx:Loc X.env.scope x)(he:PE X e te)(hs:swapsWith e (some (.Name x pos')) pos.line X.env=pure false:=by rfl)(hf:X.fn x=true∨X.env.scope.names.lookup x=some .local:=by first | exact .inl rfl | exact .inr rfl | assumption):
  PS X (.Assign [.Name x pos'] e pos) (Wk te (Wb i)):=by
 intro pins s σ H D I h
 refine wpAny_Assign_Name (qe (he pins s σ H _ I h) λ v s1 ⟨y,H1,I1,r1,q1⟩=>?_) hs
 exact QW I1 hN hi hx r1 (λ s2 I2=>⟨_,H1,I2,q1⟩) hf
end
section
variable {X:Cx}{pos:Pos}
noncomputable def EZ (c:TT)(tb:TS):TS:=λ D σ H=>∃W:Nat->St->Hp->Prop,(∃m,W m σ H)/\∀m σ H,W m σ H->
 c σ H λ b H1=>if b=true then ∃N:St->Hp->Prop,(∀σ' H',N σ' H'->∃m',m'<m/\W m' σ' H')/\tb { D with nx:=N,ct:=N,bk:=D.nx } σ H1 else D.nx σ H1
theorem Hi {c:Expr}{body:List Stmt}{tc:TT}{tb:TS}(hp:PassesOwn (model X.prog X.w) X.A X.env X.xe)(hc:PT X c tc)(hb:yi X body tb):PS X (.While c body [] pos) (EZ tc tb):=by
 intro pins s σ H D I h
 obtain ⟨W,⟨m0,w0⟩,turn⟩:=h
 refine wpAny_While (codeAny_whileLoop (λ n s'=>∃σ' H',Inv X pins σ' H' s'/\W n σ' H') ?_ m0 ⟨σ,H,I,w0⟩)
 rintro n s1 ⟨σ1,H1,I1,w1⟩
 refine wpAny_passesOwn hp (qe (hc pins s1 σ1 H1 _ I1 (turn n σ1 H1 w1)) λ b s2 ⟨H2,I2,q2⟩=>?_)
 cases b with
 | true=>
  obtain ⟨N,hN,q2⟩:=q2
  rw [if_pos rfl]
  refine wpAny_passesOwn hp (qe (hb pins s2 σ1 H2 _ I2 q2) λ f s3 q3=>?_)
  cases f with
  | next=>
   obtain ⟨σ3,H3,I3,n3⟩:=q3
   obtain ⟨m',hm,w3⟩:=hN σ3 H3 n3
   exact ⟨m',hm,σ3,H3,I3,w3⟩
  | cont=>
   obtain ⟨σ3,H3,I3,n3⟩:=q3
   obtain ⟨m',hm,w3⟩:=hN σ3 H3 n3
   exact ⟨m',hm,σ3,H3,I3,w3⟩
  | brk=>exact q3
  | ret v=>exact q3
 | false=>
  rw [if_neg Bool.false_ne_true]
  exact wpAny_execs_nil ⟨σ1,H2,I2,q2⟩
end
structure It where
 go:Nat->Hp->Prop
 yld:Nat->Hp->V->Hp->Prop
 stop:Nat->Hp->Prop
noncomputable def yP (X:Cx)(pins:List (Addr × Obj))(H:Hp)(b:Addr):Prop:=
 H b=none/\b≠X.env.locals/\b∉X.fs/\(b∈X.ex∨X.s0.heap.objs.size<=b)/\(∀x c,X.env.cells.lookup x=some c->c≠b)/\∀p∈X.pn++pins,p.1≠b
theorem Inv.fpOk {X:Cx}{pins:List (Addr × Obj)}{σ:St}{H H':Hp}{s:Shared}{b:Addr}(I:Inv X pins σ H s)(hb:s.heap.objs.size<=b)(hn:H' b=none):yP X pins H' b:=by
 refine ⟨hn,Nat.ne_of_gt (Nat.lt_of_lt_of_le I.lt hb),I.nofs hb,.inr (Nat.le_trans I.sz hb),λ x c e z=>?_,λ p hp z=>?_⟩
 ·obtain ⟨v,q⟩:=I.cell x c e
  exact absurd (Nat.lt_of_lt_of_le q.lt (by rw [z];exact hb)) (Nat.lt_irrefl _)
 ·exact absurd (Nat.lt_of_lt_of_le (Heap.lt_size (I.pin p hp).1) (by rw [z];exact hb)) (Nat.lt_irrefl _)
structure Turn (P:Program)(w:World)(K:Frag)(tg:Expr)(J:It)(fp:List Addr)(it:Addr)(tn:Nat->Heap->Prop):Prop where
 mem:it∈fp
 obj:∀i h,tn i h->∀b∈fp,∃o,h.get? b=some o/\∀v,o.data≠.cell v
 keep:∀i h h',tn i h->(∀b∈fp,∀o,h.get? b=some o->h'.get? b=some o)->tn i h'
 item:∀(X:Cx),X.prog=P->X.w=w->X.K=K->X.calm=true->∀(i:Nat) (pins:List (Addr × Obj)) (s:Shared) (σ:St) (H:Hp) (E:Value->Shared->Prop),Inv X pins σ H s->(∀b∈fp,yP X pins H b)->tn i s.heap->J.go i H->
  wpAny (model P w) X.A (pyNext (.ref it)) (λ r s1=>∃u,r=some u/\
   wpAny (model P w) X.A (letOwnedTupleGo tg (.ref it) u) (λ _ s2=>∃x H',Inv X pins σ H' s2/\RelV x u/\J.yld i H x H'/\tn (i+1) s2.heap/\∀b∈fp,H' b=none) E s1) E s
 done:∀(X:Cx),X.prog=P->X.w=w->X.K=K->X.calm=true->∀(i:Nat) (pins:List (Addr × Obj)) (s:Shared) (σ:St) (H:Hp) (E:Value->Shared->Prop),Inv X pins σ H s->(∀b∈fp,yP X pins H b)->tn i s.heap->J.stop i H->
  wpAny (model P w) X.A (pyNext (.ref it)) (λ r s1=>r=none/\Inv X pins σ H s1) E s
 self:∀(A:Around) (i:Nat) (s:Shared) (Q:Value->Shared->Prop) (E:Value->Shared->Prop),tn i s.heap->Q (.ref it) s->wpAny (model P w) A (pyIter (.ref it)) Q E s
noncomputable abbrev TI:=St->Hp->(It->Hp->Prop)->Prop
inductive Oq (X:Cx)(pins:List (Addr × Obj))(σ:St)(tg:Expr)(R:It->Hp->Prop)(itv:Value)(s2:Shared):Prop
 | mk (it:Addr) (fp:List Addr) (tn:Nat->Heap->Prop) (J:It) (H':Hp) (e:itv=.ref it) (I:Inv X pins σ H' s2) (T:Turn X.prog X.w X.K tg J fp it tn) (t0:tn 0 s2.heap) (f:(∀b∈fp,yP X pins H' b)) (q:R J H')
noncomputable def PI (X:Cx)(tg iter:Expr)(wi:TI):Prop:=
 ∀(pins:List (Addr × Obj)) (s:Shared) (σ:St) (H:Hp) (R:It->Hp->Prop),Inv X pins σ H s->wi σ H R->
  wpAny (model X.prog X.w) X.A (eval iter X.env) (λ v s1=>wpAny (model X.prog X.w) X.A (pyIter v) (Oq X pins σ tg R) X.xe s1) X.xe s
theorem VP {M:Model}{A:Around}{E:Value->Shared->Prop}{s:Shared}{tg:Expr}{it:Addr}{u:Value}{o:Obj}{n:String}{vs:Array Value}{Q:Unit->Shared->Prop}(ho:s.heap.get? it=some o)(hc:o.cls=.type n)(hd:o.data=.fields vs)
  (hn:["enumerate", "zip", "dict_itemiterator", "dict_reverseitemiterator", "odict_iterator", "itertools.zip_longest", "itertools.pairwise"].contains n=false)(hQ:Q () s):wpAny M A (letOwnedTupleGo tg (.ref it) u) Q E s:=by
 unfold letOwnedTupleGo
 cases tg<;>first
  | exact wpAny_pure hQ
  | (cases u<;>first
    | exact wpAny_pure hQ
    | (
      refine wpAny_bind (wpAny_load ho ?_)
      rw [hc,hd]
      show wpAny M A (if (["enumerate", "zip", "dict_itemiterator", "dict_reverseitemiterator", "odict_iterator", "itertools.zip_longest", "itertools.pairwise"].contains n&&vs[0]?==some (rawInt _))=true then _ else _) Q E s
      rw [if_neg (by intro h;rw [hn,Bool.false_and] at h;cases h)]
      exact wpAny_pure hQ))
noncomputable def Ou (K:Frag)(a:Addr):It:=
 ⟨λ i H=>∃xs x,qW K H a xs/\xs[i]? =some x,λ i H x H'=>H'=H/\∀xs,qW K H a xs->xs[i]? =some x,λ i H=>∃xs,qW K H a xs/\xs.length<=i⟩
noncomputable def Ot (K:Frag)(a:Addr):It:=
 ⟨λ i H=>∃xs x,qv K H a xs/\xs[i]? =some x,λ i H x H'=>H'=H/\∀xs,qv K H a xs->xs[i]? =some x,λ i H=>∃xs,qv K H a xs/\xs.length<=i⟩
noncomputable def Yy (lo:Int)(n:Nat):It:=⟨λ i _=>i<n,λ i H x H'=>H'=H/\x=.int (lo+i),λ i _=>n<=i⟩
theorem LB {P:Program}{w:World}{K:Frag}{tg:Expr}(a it:Addr):Turn P w K tg (Ou K a) [it] it (λ i h=>h.IsListIter it a i) where
 mem:=by simp
 obj:=λ i h st b hb=>by
  have e:b=it:=by simpa using hb
  subst e
  obtain ⟨o,e,c,d⟩:=st
  exact ⟨o,e,λ v z=>by rw [d] at z;cases z⟩
 keep:=λ i h h' st k=>st.at λ o e=>k it (by simp) o e
 item:=by
  intro X hP hw hK hc i pins s σ H E I hf st hg
  subst hP hw hK
  obtain ⟨xs,x,hq,hx⟩:=hg
  obtain ⟨its,rv,p,hz⟩:=I.list hq
  obtain ⟨u,hu,ru⟩:=rv.get hx
  obtain ⟨f0,f1,f2,f3,f4,f5⟩:=hf it (by simp)
  refine wpAny_pyNext_list_item st p.isList (x:=u) (by simpa using hu) λ h' st' sb=>?_
  have I1:Inv X pins σ H { s with heap:=h' }:=I.turned (t':=s.toks) (λ b o hb e=>(sb.2 b hb).trans e) f0 f1 f3 f4 f5
  obtain ⟨o,e,c,d⟩:=id st'
  exact ⟨u,rfl,VP (s:={ s with heap:=h' }) e c d (by decide) ⟨x,H,I1,ru,⟨rfl,λ ys hy=>by rw [I.list_inj hy hq];exact hx⟩,st',λ b hb=>(hf b hb).1⟩⟩
 done:=by
  intro X hP hw hK hc i pins s σ H E I hf st hg
  subst hP hw hK
  obtain ⟨xs,hq,hx⟩:=hg
  obtain ⟨its,rv,p,hz⟩:=I.list hq
  obtain ⟨f0,f1,f2,f3,f4,f5⟩:=hf it (by simp)
  have hl:=rv.length
  exact wpAny_pyNext_list_end (I.ok.hd hc) st p.isList (by simp;omega) λ h' eb=>⟨rfl,I.turned (t':=s.toks) (λ b o hb e=>eb b o hb e) f0 f1 f3 f4 f5⟩
 self:=λ _ _ _ _ _ st h=>wpAny_pyIter_listiter st h
theorem Mq {P:Program}{w:World}{K:Frag}{tg:Expr}(a it:Addr):Turn P w K tg (Ot K a) [it] it (λ i h=>h.IsTupleIter it a i) where
 mem:=by simp
 obj:=λ i h st b hb=>by
  have e:b=it:=by simpa using hb
  subst e
  obtain ⟨o,e,c,d⟩:=st
  exact ⟨o,e,λ v z=>by rw [d] at z;cases z⟩
 keep:=λ i h h' st k=>st.at λ o e=>k it (by simp) o e
 item:=by
  intro X hP hw hK hc i pins s σ H E I hf st hg
  subst hP hw hK
  obtain ⟨xs,x,hq,hx⟩:=hg
  obtain ⟨its,rv,p,hz⟩:=I.tuple hq
  obtain ⟨u,hu,ru⟩:=rv.get hx
  obtain ⟨f0,f1,f2,f3,f4,f5⟩:=hf it (by simp)
  refine wpAny_pyNext_tuple_item st (show s.heap.IsTuple a its.toArray from p) (x:=u) (by simpa using hu) λ h' st' sb=>?_
  have I1:Inv X pins σ H { s with heap:=h' }:=I.turned (t':=s.toks) (λ b o hb e=>(sb.2 b hb).trans e) f0 f1 f3 f4 f5
  obtain ⟨o,e,c,d⟩:=id st'
  exact ⟨u,rfl,VP (s:={ s with heap:=h' }) e c d (by decide) ⟨x,H,I1,ru,⟨rfl,λ ys hy=>by rw [I.tuple_inj hy hq];exact hx⟩,st',λ b hb=>(hf b hb).1⟩⟩
 done:=by
  intro X hP hw hK hc i pins s σ H E I hf st hg
  subst hP hw hK
  obtain ⟨xs,hq,hx⟩:=hg
  obtain ⟨its,rv,p,hz⟩:=I.tuple hq
  obtain ⟨f0,f1,f2,f3,f4,f5⟩:=hf it (by simp)
  have hl:=rv.length
  exact wpAny_pyNext_tuple_end (I.ok.hd hc) st (show s.heap.IsTuple a its.toArray from p) (by simp;omega) λ h' eb=>⟨rfl,I.turned (t':=s.toks) (λ b o hb e=>eb b o hb e) f0 f1 f3 f4 f5⟩
 self:=λ _ _ _ _ _ st h=>wpAny_pyIter_tupleiter st h
theorem MD {P:Program}{w:World}{K:Frag}{tg:Expr}(it:Addr)(lo:Int)(n:Nat):Turn P w K tg (Yy lo n) [it] it (λ i h=>IsRangeIter h it (lo+(i:Nat) * 1) ((n:Int) - (i:Nat)) 1) where
 mem:=by simp
 obj:=λ i h st b hb=>by
  have e:b=it:=by simpa using hb
  subst e
  exact ⟨_,st,λ v z=>by
   have z':Data.fields _=Data.cell v:=z
   cases z'⟩
 keep:=λ i h h' st k=>k it (by simp) _ st
 item:=by
  intro X hP hw hK hc i pins s σ H E I hf st hg
  subst hP hw hK
  obtain ⟨f0,f1,f2,f3,f4,f5⟩:=hf it (by simp)
  have W:=Walks.range (prog:=X.prog) (w:=X.w) (I.ok.hd hc) it lo 1 n
  refine W.item i s _ _ hg st λ v h' tk hv st' kk=>?_
  obtain ⟨t,rfl⟩:=hv
  have I1:Inv X pins σ H { s with heap:=h',toks:=tk }:=I.turned (λ b o hb e=>kk b o (by simpa using hb) e) f0 f1 f3 f4 f5
  refine ⟨_,rfl,VP (s:={ s with heap:=h',toks:=tk }) (n := "range_iterator") st' rfl rfl (by decide) ⟨.int (lo+i),H,I1,⟨t,?_⟩,⟨rfl,rfl⟩,st',λ b hb=>(hf b hb).1⟩⟩
  rw [Int.mul_one]
 done:=by
  intro X hP hw hK hc i pins s σ H E I hf st hg
  subst hP hw hK
  obtain ⟨f0,f1,f2,f3,f4,f5⟩:=hf it (by simp)
  exact wpAny_pyNext_range_end (I.ok.hd hc) st (by have:n<=i:=hg;omega) λ h' eb=>⟨rfl,I.turned (t':=s.toks) (λ b o hb e=>eb b o hb e) f0 f1 f3 f4 f5⟩
 self:=λ _ _ _ _ _ st h=>wpAny_pyIter_rangeiter st h
section
variable {X:Cx}{tg:Expr}
theorem Se {pins:List (Addr × Obj)}{σ:St}{H:Hp}{s:Shared}{R:It->Hp->Prop}{E:Value->Shared->Prop}{lo hi:Int}{t u v:Tok}{tk:Nat}(I:Inv X pins σ H s)(h1:-(2 ^ 62)<=lo)(h2:lo<2 ^ 62)(h3:-(2 ^ 62)<=hi)(h4:hi<2 ^ 62)
  (q:R (Yy lo (hi - lo).toNat) H):wpAny (model X.prog X.w) X.A (pyIter (.ref s.heap.objs.size)) (Oq X pins σ tg R) E { s with heap:=s.heap.push { cls:=.type "range",data:=.fields #[.int lo t,.int hi u,.int 1 v] },toks:=tk }:=by
 refine wpAny_pyIter_range (IsRange.new ..) (small_one h1 h2 h3 h4) ?_
 have I1:Inv X pins σ H { s with heap:=s.heap.push { cls:=.type "range",data:=.fields #[.int lo t,.int hi u,.int 1 v] },toks:=tk }:=I.kept λ b o e=>Heap.get?_push_of_some _ e
 refine ⟨(s.heap.push { cls:=.type "range",data:=.fields #[.int lo t,.int hi u,.int 1 v] }).objs.size,[(s.heap.push { cls:=.type "range",data:=.fields #[.int lo t,.int hi u,.int 1 v] }).objs.size],_,_,H,rfl,
  I1.kept (t':=tk) λ b o e=>Heap.get?_push_of_some _ e,MD _ lo (hi - lo).toNat,?_,λ b hb=>?_,q⟩
 ·have e1:lo+((0:Nat):Int) * 1=lo:=by simp
  have e2:(((hi - lo).toNat:Nat):Int) - ((0:Nat):Int)=Builtin.Range.rangeSize lo hi 1:=by rw [rangeSize_one];split<;>omega
  show IsRangeIter _ _ (lo+((0:Nat):Int) * 1) ((((hi - lo).toNat:Nat):Int) - ((0:Nat):Int)) 1
  rw [e1,e2]
  exact Heap.get?_push_size _ rfl
 ·have e:b=(s.heap.push { cls:=.type "range",data:=.fields #[.int lo t,.int hi u,.int 1 v] }).objs.size:=by simpa using hb
  subst e
  exact I1.fpOk (Nat.le_refl _) (I1.hok.fresh (Nat.le_refl _))
noncomputable def Cs (ta:TA):TI:=λ σ H R=>ta σ H λ vs H1=>∃j:Int,vs=[.int j]/\-(2 ^ 62)<=j/\j<2 ^ 62/\R (Yy 0 j.toNat) H1
noncomputable def C9 (ta:TA):TI:=λ σ H R=>ta σ H λ vs H1=>∃i j:Int,vs=[.int i,.int j]/\(-(2 ^ 62)<=i/\i<2 ^ 62/\-(2 ^ 62)<=j/\j<2 ^ 62)/\R (Yy i (j - i).toNat) H1
theorem MW {a:Expr}{ta:TA}{p pos:Pos}(hg:Gl X "range")(hm:X.mg "range" = none)(ha:PA X [a] ta)(hs:starEach [a] X.env=[(false,eval a X.env)]:=by rfl):PI X tg (.Call (.Name "range" p) [a] [] pos) (Cs ta):=by
 intro pins s σ H R I h
 refine Call_ (ZW I hg hm boot_range (PyProof.Rows.callWith_type1 (qe (ha pos pins s σ H _ I h) λ us s1 ⟨vs,H1,I1,r1,q1⟩=>?_) hs rfl))
 obtain ⟨j,e,q1,q2,q⟩:=q1
 subst e
 cases r1 with
 | cons r rr=>
  cases rr
  obtain ⟨t,rfl⟩:=r
  exact call_range_1 (Se I1 (by omega) (by omega) q1 q2 (by simpa using q))
theorem MR {a b:Expr}{ta:TA}{p pos:Pos}(hg:Gl X "range")(hm:X.mg "range" = none)(ha:PA X [a,b] ta)(hs:starEach [a,b] X.env=[(false,eval a X.env),(false,eval b X.env)]:=by rfl)(hs2:starEach [b] X.env=[(false,eval b X.env)]:=by rfl):
  PI X tg (.Call (.Name "range" p) [a,b] [] pos) (C9 ta):=by
 intro pins s σ H R I h
 refine Call_ (ZW I hg hm boot_range (PyProof.Rows.callWith_type1 (qe (ha pos pins s σ H _ I h) λ us s1 ⟨vs,H1,I1,r1,q1⟩=>?_) (by rw [hs,hs2]) (by rw [hs2];rfl)))
 obtain ⟨i,j,e,⟨q1,q2,q3,q4⟩,q⟩:=q1
 subst e
 cases r1 with
 | cons r rr=>
  cases rr with
  | cons r' rr=>
   cases rr
   obtain ⟨t,rfl⟩:=r
   obtain ⟨t',rfl⟩:=r'
   exact call_range_2 (Se I1 q1 q2 q3 q4 q)
noncomputable def BE (wi:TI)(g:TG)(tb:TS):TS:=λ D σ H=>wi σ H λ J H1=>∃W:Nat->Nat->St->Hp->Prop,(∃m,W 0 m σ H1)/\∀i m σ H,W i m σ H->
 (J.stop i H/\D.nx σ H)∨(J.go i H/\∃N:St->Hp->Prop,(∀σ' H',N σ' H'->∃m',m'<m/\W (i+1) m' σ' H')/\∀x H',J.yld i H x H'->g x σ H' λ σ2 H2=>tb { D with nx:=N,ct:=N,bk:=D.nx } σ2 H2)
noncomputable def J2 (fp:List Addr)(h:Heap):List (Addr × Obj):=fp.filterMap λ b=>(h.get? b).map λ o=>(b,o)
theorem Kg {fp:List Addr}{h:Heap}{b:Addr}{o:Obj}(hb:b∈fp)(e:h.get? b=some o):(b,o)∈J2 fp h:=List.mem_filterMap.mpr ⟨b,hb,by rw [e];rfl⟩
theorem LX {fp:List Addr}{h:Heap}{p:Addr × Obj}(hp:p∈J2 fp h):p.1∈fp/\h.get? p.1=some p.2:=by
 obtain ⟨b,hb,e⟩:=List.mem_filterMap.mp hp
 cases q:h.get? b with
 | none=>rw [q] at e;cases e
 | some o=>
  rw [q] at e
  have e':(b,o)=p:=Option.some.inj e
  subst e'
  exact ⟨hb,q⟩
theorem Inv.pinned {pins:List (Addr × Obj)}{σ:St}{H:Hp}{s:Shared}{fp:List Addr}(I:Inv X pins σ H s)(hf:∀b∈fp,yP X pins H b)(ho:∀b∈fp,∃o,s.heap.get? b=some o/\∀v,o.data≠.cell v):Inv X (pins++J2 fp s.heap) σ H s:=
 I.pins_of λ p hp=>(List.mem_append.mp hp).elim (λ z=>I.pin p (List.mem_append_right _ z)) λ z=>by
  obtain ⟨hb,e⟩:=LX z
  obtain ⟨f0,f1,f2,_⟩:=hf p.1 hb
  obtain ⟨o,e',d⟩:=ho p.1 hb
  rw [e] at e';cases e'
  exact ⟨e,f0,f1,f2,d⟩
theorem Inv.unpinned {pins pl:List (Addr × Obj)}{σ:St}{H:Hp}{s:Shared}(I:Inv X (pins++pl) σ H s):Inv X pins σ H s:=I.pins_of λ p hp=>I.pin p (List.mem_append_right _ (List.mem_append_left _ hp))
theorem E7 {iter:Expr}{body:List Stmt}{wi:TI}{g:TG}{tb:TS}{pos:Pos}(hp:PassesOwn (model X.prog X.w) X.A X.env X.xe)(hc:X.calm=true)(hi:PI X tg iter wi)(hg:PG X tg g)(hb:yi X body tb)
  (hs:∀x,foldedSetIterable iter X.env x=pure x:=by intro _;rfl):PS X (.For tg iter body [] pos) (BE wi g tb):=by
 intro pins s σ H D I h
 refine wpAny_For (qe (hi pins s σ H _ I h) λ v s1 h1=>qe h1 λ itv s2 h2=>?_) hs
 obtain ⟨it,fp,tn,J,H2,e,I2,T,kj,f2,W,⟨m0,w0⟩,turn⟩:=h2
 subst e
 have stat:∀{H':Hp},(∀b∈fp,H' b=none)->∀b∈fp,yP X pins H' b:=λ hn b hb=>⟨hn b hb,(f2 b hb).2⟩
 refine codeAny_forLoop_any (λ n s'=>∃i σ' H',Inv X pins σ' H' s'/\tn i s'.heap/\(∀b∈fp,H' b=none)/\W i n σ' H') ?_ m0 ⟨0,σ,H2,I2,kj,λ b hb=>(f2 b hb).1,w0⟩
 rintro n s3 ⟨i,σ3,H3,I3,wL,fr3,w3⟩
 rcases turn i n σ3 H3 w3 with ⟨stop,qn⟩ | ⟨go,N,hN,step⟩
 ·refine wpAny_passesOwn hp (qe (T.done X rfl rfl rfl hc i pins s3 σ3 H3 X.xe I3 (stat fr3) wL stop) λ r s4 ⟨hr,I4⟩=>?_)
  subst hr
  exact wpAny_execs_nil ⟨σ3,H3,I4,qn⟩
 ·refine wpAny_passesOwn hp (qe (T.item X rfl rfl rfl hc i pins s3 σ3 H3 X.xe I3 (stat fr3) wL go) λ r s4 ⟨u,hr,h4⟩=>?_)
  subst hr
  refine wpAny_passesOwn hp (qe h4 λ _ s5 ⟨x,H5,I5,r5,y5,st5,fr5⟩=>?_)
  have I5':=I5.pinned (stat fr5) (T.obj _ _ st5)
  refine wpAny_passesOwn hp (qe (hg _ s5 σ3 H5 x u _ I5' r5 (step x H5 y5)) λ _ s6 ⟨σ6,H6,I6,q6⟩=>?_)
  refine wpAny_passesOwn hp (qe (hb _ s6 σ6 H6 _ I6 q6) λ f s7 q7=>?_)
  have again:∀{σ7:St} {H7:Hp},Inv X (pins++J2 fp s5.heap) σ7 H7 s7->N σ7 H7->∃m,m<n/\∃i σ' H',Inv X pins σ' H' s7/\tn i s7.heap/\(∀b∈fp,H' b=none)/\W i m σ' H':=λ {σ7 H7} I7 n7=>by
   obtain ⟨m',hm,w7⟩:=hN σ7 H7 n7
   refine ⟨m',hm,i+1,σ7,H7,I7.unpinned,T.keep _ _ _ st5 λ b hb o e=>(I7.pin (b,o) (List.mem_append_right _ (List.mem_append_right _ (Kg hb e)))).1,λ b hb=>?_,w7⟩
   obtain ⟨o,e,d⟩:=T.obj _ _ st5 b hb
   exact (I7.pin (b,o) (List.mem_append_right _ (List.mem_append_right _ (Kg hb e)))).2.1
  cases f with
  | next=>obtain ⟨σ7,H7,I7,n7⟩:=q7;exact again I7 n7
  | cont=>obtain ⟨σ7,H7,I7,n7⟩:=q7;exact again I7 n7
  | brk=>obtain ⟨σ7,H7,I7,q7⟩:=q7;exact ⟨σ7,H7,I7.unpinned,q7⟩
  | ret v=>obtain ⟨x7,σ7,H7,I7,r7,q7⟩:=q7;exact ⟨x7,σ7,H7,I7.unpinned,r7,q7⟩
end
noncomputable abbrev R2:=V->V->Hp->VK->Prop
noncomputable def qE (X:Cx)(f:Value->Value->Sem Value)(r:R2):Prop:=
 ∀(pins:List (Addr × Obj)) (s:Shared) (σ:St) (H:Hp) (x y:V) (v u:Value) (Q:VK),Inv X pins σ H s->RelV x v->RelV y u->r x y H Q->
  wpAny (model X.prog X.w) X.A (f v u) (EP X pins σ Q) X.xe s
noncomputable def yb (X:Cx)(f:Value)(r:List V->Hp->VK->Prop):Prop:=
 ∀(pins:List (Addr × Obj)) (s:Shared) (σ:St) (H:Hp) (xs:List V) (us:List Value) (Q:VK),Inv X pins σ H s->Vals xs us->r xs H Q->
  wpAny (model X.prog X.w) X.A (call f us) (EP X pins σ Q) X.xe s
noncomputable def Yt (r:R2)(ta tb:TE):TE:=λ σ H Q=>ta σ H λ x H1=>tb σ H1 λ y H2=>r x y H2 Q
noncomputable def Al (r:V->Hp->VK->Prop)(ta:TE):TE:=λ σ H Q=>ta σ H λ x H1=>r x H1 Q
noncomputable def rI (C:Int->Int->Prop)(g:Int->Int->V):R2:=λ x y H Q=>∃i j,x=.int i/\y=.int j/\C i j/\Q (g i j) H
noncomputable def g7 (g:Int->Int->V):R2:=λ x y H Q=>∃i j,x=.int i/\y=.int j/\Q (g i j) H
section
variable {X:Cx}{a b c:Expr}{ta tb tc:TE}{pos:Pos}
theorem V5 (ha:PE X a ta)(hb:PE X b tb){pins:List (Addr × Obj)}{s:Shared}{σ:St}{H:Hp}{R:V->V->Hp->Prop}(I:Inv X pins σ H s)
  (h:ta σ H λ x H1=>tb σ H1 λ y H2=>R x y H2){Q:Value->Shared->Prop}{f:Value->Value->Sem Value}
  (hf:∀v u s2 x y H2,Inv X pins σ H2 s2->RelV x v->RelV y u->R x y H2->wpAny (model X.prog X.w) X.A (f v u) Q X.xe s2):
  wpAny (model X.prog X.w) X.A (eval a X.env) (λ v s₁=>wpAny (model X.prog X.w) X.A (eval b X.env) (λ u s₂=>wpAny (model X.prog X.w) X.A (f v u) Q X.xe s₂) X.xe s₁) X.xe s:=by
 refine qe (ha pins s σ H _ I h) λ v s1 ⟨x,H1,I1,r1,q1⟩=>?_
 refine qe (hb pins s1 σ H1 _ I1 q1) λ u s2 ⟨y,H2,I2,r2,q2⟩=>?_
 exact hf v u s2 x y H2 I2 r1 r2 q2
theorem Cf {op:Operator}{r:R2}(ho:qE X (binaryOp op) r)(ha:PE X a ta)(hb:PE X b tb):PE X (.BinOp a op b pos) (Yt r ta tb):=by
 intro pins s σ H Q I h
 exact wpAny_BinOp (V5 ha hb I h λ v u s2 x y H2 I2 rx ry q=>ho pins s2 σ H2 x y v u Q I2 rx ry q)
theorem WC {f:Value->Value->Sem Value}{C:Int->Int->Prop}{g:Int->Int->Int}
  (rule:∀(i j:Int) (t u:Tok) (s:Shared) (Q:Value->Shared->Prop) (E:Value->Shared->Prop),C i j->Q (.int (g i j) s.toks) { s with toks:=s.toks+1 }->wpAny (model X.prog X.w) X.A (f (.int i t) (.int j u)) Q E s):
  qE X f (rI C λ i j=>.int (g i j)):=by
 intro pins s σ H x y v u Q I rx ry h
 obtain ⟨i,j,rfl,rfl,hc,q⟩:=h
 obtain ⟨t,rfl⟩:=rx
 obtain ⟨t',rfl⟩:=ry
 exact rule i j t t' s _ _ hc ⟨.int (g i j),H,I.tok _,⟨_,rfl⟩,q⟩
theorem Oi {f:Value->Value->Sem Value}{g:Int->Int->Int}
  (rule:∀(i j:Int) (t u:Tok) (s:Shared) (Q:Value->Shared->Prop) (E:Value->Shared->Prop),Q (.int (g i j) s.toks) { s with toks:=s.toks+1 }->wpAny (model X.prog X.w) X.A (f (.int i t) (.int j u)) Q E s):
  qE X f (g7 λ i j=>.int (g i j)):=by
 intro pins s σ H x y v u Q I rx ry h
 obtain ⟨i,j,rfl,rfl,q⟩:=h
 obtain ⟨t,rfl⟩:=rx
 obtain ⟨t',rfl⟩:=ry
 exact rule i j t t' s _ _ ⟨.int (g i j),H,I.tok _,⟨_,rfl⟩,q⟩
theorem Wf {f:Value->Value->Sem Value}{g:Int->Int->Bool}
  (rule:∀(i j:Int) (t u:Tok) (s:Shared) (Q:Value->Shared->Prop) (E:Value->Shared->Prop),Q (.bool (g i j)) s->wpAny (model X.prog X.w) X.A (f (.int i t) (.int j u)) Q E s):
  qE X f (g7 λ i j=>.bl (g i j)):=by
 intro pins s σ H x y v u Q I rx ry h
 obtain ⟨i,j,rfl,rfl,q⟩:=h
 obtain ⟨t,rfl⟩:=rx
 obtain ⟨t',rfl⟩:=ry
 exact rule i j t t' s _ _ ⟨.bl (g i j),H,I,rfl,q⟩
noncomputable def Oj (i j:Int):Prop:=0<j/\j<1073741824
noncomputable def P8 (i j:Int):Prop:=0<=j/\j<=1000000/\i.natAbs<2 ^ 64
noncomputable def Ym (i j:Int):Prop:=(-(2 ^ 64)<i/\i<2 ^ 64)∨(-(2 ^ 64)<j/\j<2 ^ 64)
theorem Ym.ok {i j:Int}(h:Ym i j):IntMulOk i j:=by
 rcases h with ⟨h1,h2⟩ | ⟨h1,h2⟩
 ·exact .of_left (intBits_le_64 h1 h2)
 ·exact .of_right (intBits_le_64 h1 h2)
theorem EE:qE X (binaryOp .Add) (g7 λ i j=>.int (i+j)):=Oi λ _ _ _ _ _ _ _ q=>add_int q
theorem De:qE X (binaryOp .Sub) (g7 λ i j=>.int (i - j)):=Oi λ _ _ _ _ _ _ _ q=>sub_int q
theorem Dt:qE X (binaryOp .Mult) (rI Ym λ i j=>.int (i * j)):=WC λ _ _ _ _ _ _ _ hc q=>mul_int q hc.ok
theorem FV:qE X (binaryOp .FloorDiv) (rI Oj λ i j=>.int (i / j)):=WC λ i j _ _ _ _ _ hc q=>by
 have h1:(0:Int)<j:=hc.1
 have h2:j<1073741824:=hc.2
 exact floordiv_int (by omega) (by rw [Int.fdiv_eq_ediv_of_nonneg i (by omega)];exact q) (.inl (PyProof.noPylong_small (by omega)))
theorem Dm:qE X (binaryOp .Mod) (rI (λ _ j=>0<j) λ i j=>.int (i % j)):=WC λ i j _ _ _ _ _ hc q=>by
 have h1:(0:Int)<j:=hc
 exact mod_int' (by omega) (by rw [Int.fmod_eq_emod_of_nonneg i (by omega)];exact q)
theorem D7:qE X (binaryOp .Pow) (rI P8 λ i j=>.int (i ^ j.toNat)):=WC λ _ _ _ _ _ _ _ hc q=>pow_int_small hc.1 hc.2.1 hc.2.2 q
end
section
variable {X:Cx}{a b c:Expr}{ta tb tc:TE}{pos:Pos}
theorem Cc:qE X (compareOp .Lt) (g7 λ i j=>.bl (decide (i<j))):=Wf λ _ _ _ _ _ _ _ q=>lt_int q
theorem C0:qE X (compareOp .LtE) (g7 λ i j=>.bl (decide (i<=j))):=Wf λ _ _ _ _ _ _ _ q=>le_int q
theorem CJ:qE X (compareOp .Gt) (g7 λ i j=>.bl (decide (j<i))):=Wf λ _ _ _ _ _ _ _ q=>gt_int q
theorem CQ:qE X (compareOp .GtE) (g7 λ i j=>.bl (decide (j<=i))):=Wf λ _ _ _ _ _ _ _ q=>ge_int q
theorem qE.or {f:Value->Value->Sem Value}{r r':R2}(h:qE X f r)(h':qE X f r'):qE X f (λ x y H Q=>r x y H Q∨r' x y H Q):=by
 intro pins s σ H x y v u Q I rx ry q
 rcases q with q | q
 ·exact h pins s σ H x y v u Q I rx ry q
 ·exact h' pins s σ H x y v u Q I rx ry q
theorem Ep {op:CmpOp}{r:R2}(ho:qE X (compareOp op) r)(ha:PE X a ta)(hb:PE X b tb)(hm:behindInMarks op b=false):PE X (.Compare a [op] [b] pos) (Yt r ta tb):=by
 intro pins s σ H Q I h
 exact wpAny_Compare1 (V5 ha hb I h λ v u s2 x y H2 I2 rx ry q=>ho pins s2 σ H2 x y v u Q I2 rx ry q) hm
noncomputable def PL (t:TE):TT:=λ σ H Q=>t σ H λ x H'=>∃k,x=.bl k/\Q k H'
theorem FT {op:CmpOp}{r:R2}(ho:qE X (compareOp op) r)(ha:PE X a ta)(hb:PE X b tb)(hm:behindInMarks op b=false):PT X (.Compare a [op] [b] pos) (PL (Yt r ta tb)):=by
 intro pins s σ H Q I h
 refine wpAny_isTrue_Compare1 (qe (ha pins s σ H _ I h) λ v s1 ⟨x,H1,I1,r1,q1⟩=>qe (hb pins s1 σ H1 _ I1 q1) λ u s2 ⟨y,H2,I2,r2,q2⟩=>
  qe (ho pins s2 σ H2 x y v u _ I2 r1 r2 q2) λ c s3 ⟨z,H3,I3,r3,k,e,q3⟩=>?_) hm
 subst e
 cases r3
 exact wpAny_truthy_bool ⟨H3,I3,q3⟩
noncomputable def Vl (r r':R2)(ta tb tc:TE):TE:=λ σ H Q=>ta σ H λ x H1=>tb σ H1 λ y H2=>r x y H2 λ z H3=>∃k,z=.bl k/\
 (if k=true then tc σ H3 λ w' H4=>r' y w' H4 Q else Q (.bl false) H3)
theorem L7 {op op':CmpOp}{r r':R2}(ho:qE X (compareOp op) r)(ho':qE X (compareOp op') r')(ha:PE X a ta)(hb:PE X b tb)(hc:PE X c tc)
  (hm:lastMarks [op,op'] [b,c]=false:=by with_unfolding_all rfl):PE X (.Compare a [op,op'] [b,c] pos) (Vl r r' ta tb tc):=by
 intro pins s σ H Q I h
 refine Compare_chain (qe (ha pins s σ H _ I h) λ v s1 ⟨x,H1,I1,r1,q1⟩=>chain_link (qe (hb pins s1 σ H1 _ I1 q1) λ u s2 ⟨y,H2,I2,r2,q2⟩=>
  qe (ho pins s2 σ H2 x y v u _ I2 r1 r2 q2) λ d s3 ⟨z,H3,I3,r3,k,e,q3⟩=>?_)) hm
 subst e
 cases r3
 refine wpAny_truthy_bool ?_
 cases k with
 | false=>exact ite_ff ⟨.bl false,H3,I3,rfl,q3⟩
 | true=>exact ite_tt (chain_last (qe (hc pins s3 σ H3 _ I3 q3) λ w' s4 ⟨z',H4,I4,r4,q4⟩=>ho' pins s4 σ H4 y z' u w' Q I4 r2 r4 q4))
theorem IU {op op':CmpOp}{r r':R2}(ho:qE X (compareOp op) r)(ho':qE X (compareOp op') r')(ha:PE X a ta)(hb:PE X b tb)(hc:PE X c tc)
  (hm:lastMarks [op,op'] [b,c]=false:=by with_unfolding_all rfl):PT X (.Compare a [op,op'] [b,c] pos) (PL (Vl r r' ta tb tc)):=by
 intro pins s σ H Q I h
 refine isTrue_chain (qe (ha pins s σ H _ I h) λ v s1 ⟨x,H1,I1,r1,q1⟩=>test_link (qe (hb pins s1 σ H1 _ I1 q1) λ u s2 ⟨y,H2,I2,r2,q2⟩=>
  qe (ho pins s2 σ H2 x y v u _ I2 r1 r2 q2) λ d s3 ⟨z,H3,I3,r3,k,e,q3⟩=>?_)) hm
 subst e
 cases r3
 refine wpAny_truthy_bool ?_
 cases k with
 | false=>
  obtain ⟨k',e',q'⟩:=q3
  cases e'
  exact ite_ff ⟨H3,I3,q'⟩
 | true=>
  refine ite_tt (test_last (qe (hc pins s3 σ H3 _ I3 q3) λ w' s4 ⟨z',H4,I4,r4,q4⟩=>qe (ho' pins s4 σ H4 y z' u w' _ I4 r2 r4 q4) λ d' s5 ⟨z2,H5,I5,r5,k2,e2,q5⟩=>?_))
  subst e2
  cases r5
  exact wpAny_truthy_bool ⟨H5,I5,q5⟩
theorem Jj:(sizeLine:Nat)<2 ^ 63:=by rw [sizeLine_eq];decide
theorem vals1 {x:V}{us:List Value}(r:Vals [x] us):∃u,us=[u]/\RelV x u:=by
 cases r with
 | cons r1 r2=>cases r2;exact ⟨_,rfl,r1⟩
theorem vals2 {x y:V}{us:List Value}(r:Vals [x,y] us):∃u w',us=[u,w']/\RelV x u/\RelV y w':=by
 cases r with
 | cons r1 r2=>
  cases r2 with
  | cons r3 r4=>cases r4;exact ⟨_,_,rfl,r1,r3⟩
theorem L4 (hc:X.calm=true):yb X (.builtin "max") (λ xs H Q=>∃i j,xs=[.int i,.int j]/\Q (.int (if j > i then j else i)) H):=by
 intro pins s σ H xs us Q I r h
 obtain ⟨i,j,rfl,q⟩:=h
 obtain ⟨u,w',rfl,⟨t,rfl⟩,⟨t',rfl⟩⟩:=vals2 r
 refine max_two_ints (I.ok.hd hc) λ h' tk k=>⟨_,H,I.kept k,?_,q⟩
 by_cases hj:j > i
 ·rw [if_pos hj,if_pos hj];exact ⟨_,rfl⟩
 ·rw [if_neg hj,if_neg hj];exact ⟨_,rfl⟩
theorem Lc (hc:X.calm=true):yb X (.builtin "min") (λ xs H Q=>∃i j,xs=[.int i,.int j]/\Q (.int (if j<i then j else i)) H):=by
 intro pins s σ H xs us Q I r h
 obtain ⟨i,j,rfl,q⟩:=h
 obtain ⟨u,w',rfl,⟨t,rfl⟩,⟨t',rfl⟩⟩:=vals2 r
 refine min_two_ints (I.ok.hd hc) λ h' tk k=>⟨_,H,I.kept k,?_,q⟩
 by_cases hj:j<i
 ·rw [if_pos hj,if_pos hj];exact ⟨_,rfl⟩
 ·rw [if_neg hj,if_neg hj];exact ⟨_,rfl⟩
theorem LR:yb X (.type "int") (λ xs H Q=>(∃i,xs=[.int i]/\Q (.int i) H)∨∃k,xs=[.bl k]/\Q (.int (if k then 1 else 0)) H):=by
 intro pins s σ H xs us Q I r h
 rcases h with ⟨i,rfl,q⟩ | ⟨k,rfl,q⟩
 ·obtain ⟨u,rfl,t,rfl⟩:=vals1 r
  exact call_int_int ⟨.int i,H,I,⟨_,rfl⟩,q⟩
 ·obtain ⟨u,rfl,r1⟩:=vals1 r
  cases r1
  exact call_int_bool ⟨.int (if k then 1 else 0),H,I.tok _,⟨_,rfl⟩,q⟩
end
structure Ug (h:Heap)(x dx C:Addr)(mA:Str->Option Value):Prop where
 obj:h.get? x=some (PySem.W.instObj C dx)
 ns:h.Ns1 dx mA
 ne:dx≠x
theorem LO {h:Heap}{dx:Addr}{mA:Str->Option Value}(n:h.Ns1 dx mA):∃od,h.get? dx=some od/\∀name,PySem.W.lookIn name od=some (mA name):=by
 obtain ⟨o,es,ep,ho,hd,hk,_,hm⟩:=n
 refine ⟨o,ho,λ name=>?_⟩
 have e:=hm name
 unfold nsFind findBy at e
 rw [<- Array.find?_toList] at e
 unfold PySem.W.lookIn
 rw [hd]
 dsimp only
 split
 ·rename_i y q
  rw [q] at e
  exact congrArg some e
 ·rename_i q
  rw [q] at e
  have a:es.toList.any (·.refKey)=false:=by
   rw [List.any_eq_false]
   intro y hy
   obtain ⟨z,t,hkey⟩:=hk y (Array.mem_toList_iff.mp hy)
   simp [DictEntry.refKey,hkey]
  have a':¬es.toList.any (·.refKey)=true:=by rw [a];exact Bool.false_ne_true
  rw [if_neg a']
  exact congrArg some e
theorem Ug.look {h:Heap}{x dx C:Addr}{mA:Str->Option Value}(I:Ug h x dx C mA):∃od,PySem.W.InstAt h x (PySem.W.instObj C dx) C (some od)/\∀name,PySem.W.lookIn name od=some (mA name):=
 let ⟨od,ho,hl⟩:=LO I.ns
 ⟨od,⟨I.obj,rfl,rfl,ho⟩,hl⟩
section
variable {prog:Program}{w:World}{A:Around}{E:Value->Shared->Prop}{s:Shared}{K:Frag}{x dx C f:Addr}{mA:Str->Option Value}{name:Str}{v:Value}
end
section
variable {P:Program}{w:World}{H H':Hp}{h h':Heap}{a C dx:Addr}{fs fs':List (Str × V)}
theorem F3 (hok:zZ P w H h)(e:H a=some (.ins C dx fs)):∃mA,Ug h a dx C mA/\(∀f,Wn (fs.lookup f) (mA f))/\PySem.Within mA (fs.map (·.1))/\fs.length<=1000/\H dx=some (.own a):=by
 obtain ⟨d,z,ne,ob,mA,n,r,q⟩:=(show qN P w H h a (.ins C dx fs) from hok a _ e)
 exact ⟨mA,⟨ob,n,ne⟩,r,q,z,d⟩
end
structure yT (K:Frag)(C:Addr):Prop where
 pg:PySem.W.plainGet K C Str.empty=true
 hd:PySem.W.hasDictIn K C=true
 po:PySem.W.plainOver K C=true
 sa:PySem.W.findIn K (.ref C) "__setattr__" = some (some (.builtin "object.__setattr__"))
theorem yT.get {K:Frag}{C:Addr}(c:yT K C)(f:Str):PySem.W.plainGet K C f=true:=c.pg
section
variable {X:Cx}{pins:List (Addr × Obj)}{σ:St}{H:Hp}{s:Shared}{a C dx:Addr}{fs:List (Str × V)}{f:Str}{v:V}{A:Around}{E:Value->Shared->Prop}
end
section
variable {X:Cx}{o e value:Expr}{f:Str}{pos pos' tpos:Pos}{ta tv:TE}
end
section
variable {X:Cx}{pins:List (Addr × Obj)}{σ:St}{H:Hp}{s:Shared}{A:Around}{E:Value->Shared->Prop}{Q:Value->Shared->Prop}{c:Value}{b:Bool}
inductive wd (K:Frag)(H:Hp):V->Value->Prop where
 | non:wd K H .non (.type "NoneType")
 | bl (x:Bool):wd K H (.bl x) (.type "bool")
 | int (i:Int):wd K H (.int i) (.type "int")
 | str (x:Str):wd K H (.str x) (.type "str")
 | flt (x:UInt64):wd K H (.flt x) (.type "float")
 | lst {a:Addr} {xs:List V} (e:H a=some (.lst xs)):wd K H (.ref a) (.type "list")
 | frz {a:Addr} {o:Obj} {xs:List V} (e:H a=some (.frz o (.lst xs))):wd K H (.ref a) (.type "list")
 | tup {a:Addr} {xs:List V} (e:H a=some (.tup xs)):wd K H (.ref a) (.type "tuple")
 | dK {a:Addr} {kvs:List (Key × V)} (e:H a=some (.dK kvs)):wd K H (.ref a) (.type "dict")
 | dT {a:Addr} {kvs:List (List Key × V)} (e:H a=some (.dT kvs)):wd K H (.ref a) (.type "dict")
 | ins {a C dx:Addr} {fs:List (Str × V)} (e:H a=some (.ins C dx fs)) (cl:yT K C) (ha:PySem.W.findIn K (.ref C) "__class__" = some (some (.builtin "object.__class__")))
   (hn:PySem.W.specialIn K (.builtin "object.__class__") "__get__" = some (some (.builtin "getset_descriptor.__get__"))) (htk:PySem.W.takesIn K (.builtin "object.__class__")=some true)
   (hm:PySem.W.mroIn K C (.type "object")=some true):wd K H (.ref a) (.ref C)
theorem TF {x:V}{u t:Value}(I:Inv X pins σ H s)(rx:RelV x u)(ty:wd X.K H x t)(e:PySem.W.kitOne X.K t c=some b)(h:∀tk,Q (.bool b) { s with toks:=tk }):
  wpAny (model X.prog X.w) A (call (.builtin "isinstance") [u,c]) Q E s:=by
 cases ty with
 | non=>cases (show u=Value.none from rx);exact PySem.W.kia_one PySem.W.kitx_none I.kIn True.intro e (λ z=>nomatch z) h
 | bl y=>cases (show u=Value.bool y from rx);exact PySem.W.kia_one PySem.W.kitx_bool I.kIn True.intro e (λ z=>nomatch z) h
 | int i=>obtain ⟨t,q⟩:=(show ∃t,u=Value.int i t from rx);cases q;exact PySem.W.kia_one PySem.W.kitx_int I.kIn True.intro e (λ z=>nomatch z) h
 | str y=>obtain ⟨t,q⟩:=(show ∃t,u=Value.str y t from rx);cases q;exact PySem.W.kia_one PySem.W.kitx_str I.kIn True.intro e (λ z=>nomatch z) h
 | flt y=>obtain ⟨t,q⟩:=(show ∃t,u=Value.float y t from rx);cases q;exact PySem.W.kia_one PySem.W.kitx_float I.kIn True.intro e (λ z=>nomatch z) h
 | @lst a xs ea=>
  cases (show u=Value.ref a from rx)
  obtain ⟨_,_,n,_,h1⟩:=(show qN X.prog X.w H s.heap a (.lst xs) from I.hok a _ ea)
  exact PySem.W.kia_one PySem.W.kitx_list I.kIn ⟨_,h1,rfl⟩ e (λ z=>nomatch z) h
 | @frz a ob xs ea=>
  cases (show u=Value.ref a from rx)
  obtain ⟨_,_,_,n,_,h1⟩:=(show qN X.prog X.w H s.heap a (.frz ob (.lst xs)) from I.hok a _ ea)
  exact PySem.W.kia_one PySem.W.kitx_list I.kIn ⟨_,h1,rfl⟩ e (λ z=>nomatch z) h
 | @tup a xs ea=>
  cases (show u=Value.ref a from rx)
  obtain ⟨_,_,_,p⟩:=(show qN X.prog X.w H s.heap a (.tup xs) from I.hok a _ ea)
  obtain ⟨o,h1,h2,_⟩:=p
  exact PySem.W.kia_one PySem.W.kitx_tuple I.kIn ⟨o,h1,h2.1⟩ e (λ z=>nomatch z) h
 | @dK a kvs ea=>
  cases (show u=Value.ref a from rx)
  obtain ⟨_,_,vs,_,p⟩:=(show qN X.prog X.w H s.heap a (.dK kvs) from I.hok a _ ea)
  obtain ⟨o,es,ep,h1,h2,_⟩:=p
  exact PySem.W.kia_one PySem.W.kitx_dict I.kIn ⟨o,h1,h2.1⟩ e (λ z=>nomatch z) h
 | @dT a kvs ea=>
  cases (show u=Value.ref a from rx)
  obtain ⟨_,_,xs,_,o,es,ep,h1,h2,_⟩:=(show qN X.prog X.w H s.heap a (.dT kvs) from I.hok a _ ea)
  exact PySem.W.kia_one PySem.W.kitx_dict I.kIn ⟨o,h1,h2.1⟩ e (λ z=>nomatch z) h
 | @ins a C dx fs ea cl ha hn htk hm=>
  cases (show u=Value.ref a from rx)
  obtain ⟨mA,O,_⟩:=F3 I.hok ea
  obtain ⟨od,J,_⟩:=O.look
  exact PySem.W.kia_one (PySem.W.kitx_own (cl.get _) cl.hd ha hn htk hm) I.kIn J e (λ z=>nomatch z) h
end
structure jn (k:Nat)(A:Around):Prop where
 hd:A.handled=none
 dp:A.depth+3 * k+5<recursionLimit
 un:A.units+16 * k+200<cLine
theorem jn.mono {j k:Nat}{A:Around}(r:jn k A)(h:j<=k):jn j A:=⟨r.hd,by have:=r.dp;omega,by have:=r.un;omega⟩
theorem jn.deeper {k:Nat}{A:Around}(r:jn (k+1) A)(env:Env):jn k (A.deeper env):=
 ⟨r.hd,by have:=r.dp;show A.depth+1+3 * k+5<_;omega,by have:=r.un;show A.units+3+16 * k+200<_;omega⟩
theorem jn.depth {k:Nat}{A:Around}(r:jn k A):A.depth<recursionLimit:=by have:=r.dp;omega
theorem jn.units {k:Nat}{A:Around}(r:jn k A):A.units+64<cLine:=by have:=r.un;omega
noncomputable def V8:TA:=λ _ H Q=>Q [] H
noncomputable def K9 (ta:TE)(tr:TA):TA:=λ σ H Q=>ta σ H λ x H1=>tr σ H1 λ xs H2=>Q (x::xs) H2
section
variable {X:Cx}{e:Expr}{es:List Expr}{te:TE}{t:TA}{pos:Pos}
theorem j6:PA X [] V8:=λ _ _ _ _ H Q I h=>Calls.spliced_nil ⟨[],H,I,.nil,h⟩
theorem jk (ha:PE X e te)(hr:PA X es t)(hs:starEach (e::es) X.env=(false,eval e X.env)::starEach es X.env:=by rfl):PA X (e::es) (K9 te t):=by
 intro pos pins s σ H Q I h
 rw [hs]
 show wpAny _ _ (spliced ((false,eval e X.env)::backTo pos (starEach es X.env))) _ _ s
 refine Calls.spliced_cons (qe (ha pins s σ H _ I h) λ u s1 ⟨x,H1,I1,r1,q1⟩=>?_)
 exact qe (hr pos pins s1 σ H1 _ I1 q1) λ us s2 ⟨xs,H2,I2,r2,q2⟩=>⟨x::xs,H2,I2,.cons r1 r2,q2⟩
noncomputable def BF (t:TA):TE:=λ σ H Q=>t σ H λ xs H1=>xs.length<=sizeLine/\∀p,H1 p=none->Q (.ref p) (upd H1 p (.tup xs))
noncomputable def BD (t:TA):TE:=λ σ H Q=>t σ H λ xs H1=>xs.length<=sizeLine/\∀p,H1 p=none->Q (.ref p) (upd H1 p (.lst xs))
theorem Pl {x1}(h:PA X es t):PE X (.Tuple es x1 pos) (BF t):=by
 intro pins s σ H Q I hq
 refine wpAny_Tuple_spliced (qe (h pos pins s σ H _ I hq) λ us s1 ⟨xs,H1,I1,r,z,q⟩=>⟨by rw [<- r.length];exact z,?_⟩)
 have hf:H1 s1.heap.objs.size=none:=I1.hok.fresh (Nat.le_refl _)
 refine ⟨.ref s1.heap.objs.size,upd H1 s1.heap.objs.size (.tup xs),I1.laid (t':=s1.toks) (λ b u e=>Heap.get?_push_of_some _ e) (Nat.le_refl _) ?_,rfl,q _ hf⟩
 exact ⟨z,us,r,⟨_,Heap.get?_push_size _ rfl,⟨rfl,rfl⟩,_,rfl⟩⟩
theorem DO (h:PA X es t):PE X (.List es pos) (BD t):=by
 intro pins s σ H Q I hq
 refine wpAny_List_spliced (qe (h pos pins s σ H _ I hq) λ us s1 ⟨xs,H1,I1,r,z,q⟩=>⟨by rw [<- r.length];exact z,?_⟩)
 have hf:H1 s1.heap.objs.size=none:=I1.hok.fresh (Nat.le_refl _)
 refine ⟨.ref s1.heap.objs.size,upd H1 s1.heap.objs.size (.lst xs),I1.laid (t':=s1.toks) (λ b u e=>Heap.get?_push_of_some _ e) (Nat.le_refl _) ?_,rfl,q _ hf⟩
 exact ⟨z,us,0,r,Heap.get?_push_size _ rfl⟩
end
noncomputable abbrev Sp:=List V->Hp->VK->XK->Prop
noncomputable abbrev wM:=List Env->Hp->Shared->XK->Value->Shared->Prop
structure Jx (P:Program)(w:World)(K:Frag)(mg:Str->Option Value)(base:Heap)(A:Around)(outer:List Env)(s:Shared)(H:Hp):Prop where
 frames:A.frames=some outer
 mod:Mod K mg base
 bs:∀b o,base.get? b=some o->s.heap.get? b=some o/\H b=none
 bsz:base.objs.size<=s.heap.objs.size
 funs:s.heap.FunFrames base outer
 frf:∀b∈qp outer,H b=none
 hok:zZ P w H s.heap
 bare:AllBare s.gens
inductive CE (outer:List Env)(P:Program)(w:World)(H:Hp)(s:Shared)(Q:VK)(u:Value)(s':Shared):Prop
 | mk (v:V) (H':Hp) (os:s'.os=s.os) (b:AllBare s'.gens) (un:Un (qp outer) [] H H' s.heap s'.heap) (hk:zZ P w H' s'.heap) (r:RelV v u) (q:Q v H')
noncomputable def CR (CX:wM)(outer:List Env)(P:Program)(w:World)(H:Hp)(s:Shared)(Q:VK)(E:XK)(r:Result)(s':Shared):Prop:=
 match r with
 | .ok (.ret u)=>CE outer P w H s Q u s'
 | .ok _=>False
 | .error e=>CX outer H s E e s'
structure yt (P:Program)(w:World)(K:Frag)(mg:Str->Option Value)(base:Heap)(CX:wM)(k:Nat)(f:Addr)(fd:FuncData)(ps:List Str)(sp:Sp):Prop where
 len:∀vs H Q E,sp vs H Q E->vs.length=ps.length
 run:∀(A:Around) (outer:List Env) (s:Shared) (H:Hp) (args:Args) (us:List Value) (vs:List V) (Q:VK) (E:XK),jn k A->Jx P w K mg base A outer s H->BindsTo s fd args (ps.zip us)->Vals vs us->sp vs H Q E->
  codeAny (model P w) A (.call (.ref f) args) (CR CX outer P w H s Q E) s
theorem yt.mono {P:Program}{w:World}{K:Frag}{mg:Str->Option Value}{base:Heap}{CX:wM}{j k:Nat}{f:Addr}{fd:FuncData}{ps:List Str}{sp:Sp}(F:yt P w K mg base CX j f fd ps sp)(h:j<=k):
  yt P w K mg base CX k f fd ps sp:=⟨F.len,λ A outer s H args us vs Q E hr=>F.run A outer s H args us vs Q E (hr.mono h)⟩
theorem yt.imp {P:Program}{w:World}{K:Frag}{mg:Str->Option Value}{base:Heap}{CX:wM}{k:Nat}{f:Addr}{fd:FuncData}{ps:List Str}{sp sp':Sp}(F:yt P w K mg base CX k f fd ps sp)
  (h:∀vs H Q E,sp' vs H Q E->sp vs H Q E):yt P w K mg base CX k f fd ps sp':=
 ⟨λ vs H Q E q=>F.len vs H Q E (h _ _ _ _ q),λ A outer s H args us vs Q E hr he hb hv hs=>F.run A outer s H args us vs Q E hr he hb hv (h _ _ _ _ hs)⟩
section
variable {X:Cx}{pins:List (Addr × Obj)}{σ:St}{H:Hp}{s s':Shared}
theorem Inv.env0 (I:Inv X pins σ H s):Jx X.prog X.w X.K X.mg X.base X.A X.stack s H:=
 ⟨I.ok.frames,I.ok.mod,I.bs,Nat.le_trans I.ok.bsz I.sz,I.stack,I.stkFree,I.hok,I.bare⟩
theorem Inv.after {Q:VK}{u:Value}(I:Inv X pins σ H s)(h:CE X.stack X.prog X.w H s Q u s'):EP X pins σ Q u s':=by
 obtain ⟨v,H',os,bare,un,hok,r,q⟩:=h
 obtain ⟨hh,g,d,t,os'⟩:=s'
 obtain rfl:os'=s.os:=os
 exact ⟨v,H',I.call (h':=hh) (g':=g) (d':=d) (t':=t) (ch:=[]) un hok bare (λ b z=>absurd z (by simp)),r,q⟩
end
noncomputable def CC (sp:Sp)(dvs:List V)(E:XK)(t:TA):TE:=λ σ H Q=>t σ H λ vs H1=>sp (vs++dvs) H1 Q E
noncomputable def Binds (K:Frag)(fd:FuncData)(ps:List Str)(ds:List Value):Prop:=
 ∀(s:Shared) (us:List Value),K.In s.heap->(us++ds).length=ps.length->BindsTo s fd ⟨us,[]⟩ (ps.zip (us++ds))
theorem Binds.all {K:Frag}{fd:FuncData}{ps:List Str}(h:∀us:List Value,us.length=ps.length->bindArgs fd ⟨us,[]⟩=pure (ps.zip us)):Binds K fd ps []:=λ s us _ hl=>by
 rw [List.append_nil] at hl ⊢
 exact .of_eq (h us hl)
noncomputable def Passes (CX:wM)(X:Cx)(E:XK):Prop:=∀(pins:List (Addr × Obj)) (σ:St) (H:Hp) (s:Shared) (e:Value) (s':Shared),Inv X pins σ H s->CX X.stack H s E e s'->X.xe e s'
section
variable {X:Cx}{CX:wM}{k:Nat}{f C:Addr}{fd:FuncData}{ps:List Str}{sp:Sp}{dvs:List V}{ds:List Value}{E:XK}{x m:Str}{p pos apos:Pos}{e o:Expr}{es:List Expr}{ta:TE}{t:TA}
theorem DC {pins:List (Addr × Obj)}{σ:St}{H:Hp}{s:Shared}{Q:VK}{us:List Value}{vs:List V}(F:yt X.prog X.w X.K X.mg X.base CX k f fd ps sp)(hr:jn k X.A)(hb:Binds X.K fd ps ds)(hd:Vals dvs ds)(hx:Passes CX X E)
  (I:Inv X pins σ H s)(r:Vals vs us)(h:sp (vs++dvs) H Q E):wpAny (model X.prog X.w) X.A (call (.ref f) us) (EP X pins σ Q) X.xe s:=by
 have r2:Vals (vs++dvs) (us++ds):=r.append hd
 have hl:(us++ds).length=ps.length:=by rw [<- r2.length];exact F.len _ _ _ _ h
 refine wpAny_call (codeAny_mono (F.run X.A X.stack s H ⟨us,[]⟩ (us++ds) (vs++dvs) Q E hr I.env0 (hb s us I.kIn hl) r2 h) λ r s' hq=>?_)
 cases r with
 | error e=>exact hx pins σ H s e s' I hq
 | ok fl=>
  cases fl with
  | ret u=>exact I.after hq
  | next=>exact False.elim hq
  | brk=>exact False.elim hq
  | cont=>exact False.elim hq
theorem Rb (F:yt X.prog X.w X.K X.mg X.base CX k f fd ps sp)(hr:jn k X.A)(hg:Gl X x)(hm:X.mg x=some (.ref f))(hk:PySem.W.keepIn X.K (.ref f)=true)(hb:Binds X.K fd ps ds)(hd:Vals dvs ds)(hx:Passes CX X E)
  (ha:PA X (e::es) t)(hdb:(x==("__debug__" : Str))=false:=by decide)(he:starEach (e::es) X.env=(false,eval e X.env)::starEach es X.env:=by rfl)(hpl:(backTo pos (starEach es X.env)).any (·.1)=false:=by rfl):
  PE X (.Call (.Name x p) (e::es) [] pos) (CC sp dvs E t):=by
 intro pins s σ H Q I h
 refine wpAny_Call_Name_kw (J1 I hg hm ?_ hdb)
 refine PySem.W.callWith_K (h₀:=X.base) I.ok.mod.kin hk (qe (ha pos pins s σ H _ I h) λ us s1 ⟨vs,H1,I1,r,q⟩=>⟨I1.kIn,?_⟩) he hpl
 exact DC F hr hb hd hx I1 r q
end
section
variable {X:Cx}{CX:wM}{k:Nat}{f C:Addr}{fd:FuncData}{ps ks:List Str}{sp:Sp}{E:XK}{x m:Str}{p pos apos kpos:Pos}{e o:Expr}{es:List Expr}{kws:List Keyword}{te ta:TE}{t tk:TA}{nm:Option Str}
variable {g:List Value->List Value->List Value}{gV:List V->List V->List V}
end
structure qR (N P:List Str)(sc:Scope):Prop where
 kind:sc.kind=.function
 co:sc.isCoroutine=false
 gen:sc.isGenerator=false
 nd:N.Nodup
 pre:N.take P.length=P
 par:∀x∈P,sc.names.lookup x=some .local∨sc.names.lookup x=some .cell
 nofree:∀y∈sc.names,y.2≠.free
theorem Tu {kindOf:Str->Option NameKind}{x:Str}:∀{binds:List (Str × Value)} {m:Str->Option Value},(∀v,(x,v)∉binds)->bindL kindOf binds m x=m x
 | [],_,_=>rfl
 | (n,v)::r,m,h=>by
  unfold bindL
  rw [Tu λ w hw=>h w (List.mem_cons_of_mem _ hw)]
  split
  ·have:x≠n:=by rintro rfl;exact h v List.mem_cons_self
   simp [this]
  ·rfl
theorem Tz {kindOf:Str->Option NameKind}{x:Str}:∀{binds:List (Str × Value)} {m:Str->Option Value},(∀v,(x,v)∉binds)->bindC kindOf binds m x=m x
 | [],_,_=>rfl
 | (n,v)::r,m,h=>by
  unfold bindC
  rw [Tz λ w hw=>h w (List.mem_cons_of_mem _ hw)]
  split
  ·rfl
  ·have:x≠n:=by rintro rfl;exact h v List.mem_cons_self
   simp [this]
theorem Tt {kindOf:Str->Option NameKind}{x:Str}{v:Value}:∀{P:List Str} {vs:List Value} {i:Nat} {m:Str->Option Value},P.Nodup->P[i]? =some x->vs[i]? =some v->kindOf x=some .local->
  bindL kindOf (P.zip vs) m x=some v
 | [],_,_,_,_,h,_,_=>by simp at h
 | _::_,[],_,_,_,_,h,_=>by simp at h
 | p::P,w::vs,0,m,nd,h1,h2,hk=>by
  simp at h1 h2;subst h1;subst h2
  show bindL kindOf ((p,w)::P.zip vs) m p=_
  unfold bindL
  rw [Tu λ v hv=>(List.nodup_cons.mp nd).1 (List.of_mem_zip hv).1,if_pos hk]
  simp
 | p::P,w::vs,i+1,m,nd,h1,h2,hk=>by
  show bindL kindOf ((p,w)::P.zip vs) m x=_
  unfold bindL
  exact Tt (i:=i) (List.nodup_cons.mp nd).2 (by simpa using h1) (by simpa using h2) hk
theorem TH {kindOf:Str->Option NameKind}{x:Str}{v:Value}:∀{P:List Str} {vs:List Value} {i:Nat} {m:Str->Option Value},P.Nodup->P[i]? =some x->vs[i]? =some v->kindOf x≠some .local->
  bindC kindOf (P.zip vs) m x=some v
 | [],_,_,_,_,h,_,_=>by simp at h
 | _::_,[],_,_,_,_,h,_=>by simp at h
 | p::P,w::vs,0,m,nd,h1,h2,hk=>by
  simp at h1 h2;subst h1;subst h2
  show bindC kindOf ((p,w)::P.zip vs) m p=_
  unfold bindC
  rw [Tz λ v hv=>(List.nodup_cons.mp nd).1 (List.of_mem_zip hv).1,if_neg hk]
  simp
 | p::P,w::vs,i+1,m,nd,h1,h2,hk=>by
  show bindC kindOf ((p,w)::P.zip vs) m x=_
  unfold bindC
  exact TH (i:=i) (List.nodup_cons.mp nd).2 (by simpa using h1) (by simpa using h2) hk
noncomputable def start (N:List Str)(vs:List V):St:=vs.map some++List.replicate (N.length - vs.length) none
noncomputable def wc (CX:wM)(P:Program)(w:World)(K:Frag)(mg:Str->Option Value)(base:Heap)(N:List Str)(qual:Str)(scope:Scope)(f:Addr)(cd:Value)(A:Around)(outer:List Env)(s:Shared)(H:Hp)(E:XK):Cx where
 prog:=P
 w:=w
 K:=K
 mg:=mg
 base:=base
 A:=A.deeper (envOfC qual scope s.heap.objs.size f cd)
 N:=N
 s0:=s
 H0:=H
 env:=envOfC qual scope s.heap.objs.size f cd
 outer:=outer
 stack:=envOfC qual scope s.heap.objs.size f cd::outer
 ex:=[]
 calm:=true
 fn:=λ _=>true
 pn:=[]
 xe:=λ e s'=>wpAny (model P w) (A.deeper (envOfC qual scope s.heap.objs.size f cd)) (leaving (envOfC qual scope s.heap.objs.size f cd) e) (λ _ s''=>CX outer H s E e s'') (λ e' s''=>CX outer H s E e' s'') s'
theorem TQ {sc:Scope}{n:Nat}{x:Str}(h:sc.names.lookup x=some .cell):∃c,(cellsFrom n sc.names []).lookup x=some c:=by
 have q:=PySem.W.cellsFrom_some sc.names n [] (.inl h)
 exact Option.isSome_iff_exists.mp q
theorem Lk {CX:wM}{P:Program}{w:World}{K:Frag}{mg:Str->Option Value}{base:Heap}{N ps:List Str}{qual:Str}{scope:Scope}{f:Addr}{cd:Value}{A:Around}{outer:List Env}{s s1:Shared}{H:Hp}{E:XK}{us:List Value}{vs:List V}
  (S:qR N ps scope)(hd:A.handled=none)(e0:Jx P w K mg base A outer s H)(hl:vs.length=ps.length)(r:Vals vs us)
  (x:InCallC s s.heap.objs.size (bindL (envOfC qual scope s.heap.objs.size f cd).kindOf (ps.zip us) λ _=>none) (cellsFrom (s.heap.objs.size+1) scope.names []) (bindC (envOfC qual scope s.heap.objs.size f cd).kindOf (ps.zip us) λ _=>none) s1):
  Inv (wc CX P w K mg base N qual scope f cd A outer s H E) [] (start N vs) H s1:=by
 have hpl:ps.length<=N.length:=by have:=congrArg List.length S.pre;rw [List.length_take] at this;omega
 obtain ⟨h1,tk,rfl,hk⟩:=x.done
 have noA:∀b:Addr,b∉(wc CX P w K mg base N qual scope f cd A outer s H E).ex:=λ b z=>absurd (show b∈([]:List Addr) from z) (by simp)
 refine ⟨⟨e0.mod,S.kind,rfl,rfl,Nat.le_refl _,λ y z c h1 h2=>?_,λ y hy=>?_,λ y c _ h=>?_,λ _=>hd,Around.frames_deeper e0.frames,.inr ⟨rfl,rfl⟩,λ b z=>absurd z (noA b),e0.bs,e0.bsz,λ b _ _=>noA b,λ b z=>absurd z (noA b),e0.funs,e0.frf⟩,
  rfl,e0.bare,Un.kept hk,⟨_,x.toInCall.ns,λ i y v h1 h2 h3=>?_⟩,λ y c h=>⟨_,x.cell y c h⟩,e0.hok.fresh (Nat.le_refl _),λ y c h=>?_,λ p hp=>absurd (show p∈([]:List (Addr × Obj)) from hp) (by simp),e0.hok.kept hk,?_⟩
 ·exact name_of_addr x.apart (PySem.mem_of_lookup h1) (PySem.mem_of_lookup h2)
 ·have hy:scope.names.lookup y=some .cell∨scope.names.lookup y=some .free:=hy
  rcases hy with hy | hy
  ·exact TQ hy
  ·exact absurd rfl (S.nofree _ (PySem.mem_of_lookup hy))
 ·exact Nat.le_of_lt (x.above y c (PySem.mem_of_lookup h))
 ·have hi:i<vs.length:=by
   unfold start at h2
   by_cases hi:i<vs.length
   ·exact hi
   ·rw [List.getElem?_append_right (by simpa using hi)] at h2
    rw [List.getElem?_replicate] at h2
    split at h2<;>cases h2
  have ha:vs[i]? =some v:=by
   unfold start at h2
   rw [List.getElem?_append_left (by simpa using hi),List.getElem?_map] at h2
   cases e:vs[i]? with
   | none=>rw [e] at h2;cases h2
   | some a=>rw [e] at h2;cases h2;rfl
  obtain ⟨u,hu,rv⟩:=r.get ha
  have hp:ps[i]? =some y:=by
   rw [<- S.pre,List.getElem?_take_of_lt (by omega)];exact h1
  have ndP:ps.Nodup:=by rw [<- S.pre];exact S.nd.sublist (List.take_sublist _ _)
  refine ⟨u,rv,?_⟩
  rcases S.par y (List.mem_of_getElem? hp) with k | k
  ·exact .inl ⟨k,Tt ndP hp hu k⟩
  ·obtain ⟨c,e⟩:=TQ (n:=s.heap.objs.size+1) k
   refine .inr ⟨.inl k,c,e,?_⟩
   have q:=x.cell y c e
   rw [TH ndP hp hu (by show scope.names.lookup y≠_;rw [k];decide)] at q
   exact q
 ·exact e0.hok.fresh (Nat.le_of_lt (x.above y c (PySem.mem_of_lookup h)))
 ·unfold start
  show _=N.length
  rw [List.length_append,List.length_map,List.length_replicate]
  omega
theorem VH {CX:wM}{P:Program}{w:World}{K:Frag}{mg:Str->Option Value}{base:Heap}{k:Nat}{f:Addr}{name qual:Str}{params:Arguments}{body:List Stmt}{scope:Scope}{dV kV doc pm cdv ct oc:Value}{an od:Option Addr}
  {osl:Array (Option Value)}{N ps:List Str}{sp:Sp}(lk:K.lookup f=some ⟨oc,od,.func (PySem.W.fnOf name qual params body scope dV kV doc pm an cdv ct),osl⟩)(hcd:PySem.W.codeIn K cdv qual=true)(S:qR N ps scope)
  (len:∀vs H Q E,sp vs H Q E->vs.length=ps.length)
  (hbody:∀(A:Around) (outer:List Env) (s:Shared) (H:Hp) (vs:List V) (Q:VK) (E:XK),jn k (A.deeper (envOfC qual scope s.heap.objs.size f cdv))->sp vs H Q E->
   ∃t,yi (wc CX P w K mg base N qual scope f cdv A outer s H E) body t/\t { nx:=λ _ H'=>Q .non H',rt:=Q } (start N vs) H):
  yt P w K mg base CX (k+1) f (PySem.W.fnOf name qual params body scope dV kV doc pm an cdv ct) ps sp:=by
 refine ⟨len,λ A outer s H args us vs Q E hr e0 hb r hsp=>?_⟩
 have hl:=len _ _ _ _ hsp
 have KX:K.In s.heap:=e0.mod.kin.keeps λ b o e=>(e0.bs b o e).1
 have lim:s.heap.NoLimit:=e0.mod.nolimit.keeps λ b o e=>(e0.bs b o e).1
 have hkind:∀y∈ps.zip us,scope.names.lookup y.1=some .local∨(scope.names.lookup y.1=some .cell/\((cellsFrom (s.heap.objs.size+1) scope.names []).lookup y.1).isSome=true):=λ ⟨n,v⟩ hy=>by
  rcases S.par n (List.of_mem_zip hy).1 with q | q
  ·exact .inl q
  ·exact .inr ⟨q,PySem.W.cellsFrom_some _ _ _ (.inl q)⟩
 refine codeAny_call_function hr.depth (KX _ _ lk) rfl S.co S.gen rfl (PySem.W.codeRec_of KX hcd) (hb _ _ _ _ ?_)
 refine wpAny_newFunctionEnv_cells S.kind hkind λ env he s1 x=>?_
 subst he
 refine ⟨lim.keeps x.toInCall.keep,codeAny_func ?_⟩
 obtain ⟨t,ht,hq⟩:=hbody A outer s H vs Q E (hr.deeper _) hsp
 have I:Inv (wc CX P w K mg base N qual scope f cdv A outer s H E) [] (start N vs) H s1:=Lk S hr.hd e0 hl r x
 refine wpAny_mono (ht [] s1 (start N vs) H _ I hq) (λ fl s' hs=>?_) λ e s' hs=>hs
 have fin:∀{σ':St} {H':Hp} {v:V} {u:Value},Inv (wc CX P w K mg base N qual scope f cdv A outer s H E) [] σ' H' s'->RelV v u->Q v H'->CE outer P w H s Q u s':=
  λ {σ' H' v u} J rv q=>⟨v,H',J.os,J.bare,J.base,J.hok,rv,q⟩
 cases fl with
 | ret u=>
  obtain ⟨v,σ',H',J,rv,q⟩:=hs
  exact fin J rv q
 | next=>
  obtain ⟨σ',H',J,q⟩:=hs
  exact fin (v:=V.non) (u:=Value.none) J rfl q
 | brk=>
  obtain ⟨_,_,_,q⟩:=hs
  exact False.elim q
 | cont=>
  obtain ⟨_,_,_,q⟩:=hs
  exact False.elim q
section
variable {X:Cx}{x:Str}{p pos:Pos}{e:Expr}{es:List Expr}{t:TA}{id T:String}{r:List V->Hp->VK->Prop}
noncomputable def WB (r:List V->Hp->VK->Prop)(t:TA):TE:=λ σ H Q=>t σ H λ vs H1=>r vs H1 Q
theorem ZP (hc:yb X (.builtin id) r)(hg:Gl X x)(hm:X.mg x=none)(hv:bootBuiltins x=some (.builtin id))(ha:PA X (e::es) t)(hn:x ≠ "__name__" := by decide)(hdb:(x==("__debug__" : Str))=false:=by decide)
  (he:starEach (e::es) X.env=(false,eval e X.env)::starEach es X.env:=by rfl)(hpl:(backTo pos (starEach es X.env)).any (·.1)=false:=by rfl):PE X (.Call (.Name x p) (e::es) [] pos) (WB r t):=by
 intro pins s σ H Q I h
 refine wpAny_Call_Name_kw (ZW I hg hm hv ?_ hn hdb)
 exact PyProof.Rows.callWith_builtin1 (qe (ha pos pins s σ H _ I h) λ us s1 ⟨vs,H1,I1,r1,q1⟩=>hc pins s1 σ H1 vs us Q I1 r1 q1) he hpl
theorem JN (hc:yb X (.type T) r)(hg:Gl X x)(hm:X.mg x=none)(hv:bootBuiltins x=some (.type T))(ha:PA X (e::es) t)(hn:x ≠ "__name__" := by decide)(hdb:(x==("__debug__" : Str))=false:=by decide)
  (he:starEach (e::es) X.env=(false,eval e X.env)::starEach es X.env:=by rfl)(hpl:(backTo pos (starEach es X.env)).any (·.1)=false:=by rfl):PE X (.Call (.Name x p) (e::es) [] pos) (WB r t):=by
 intro pins s σ H Q I h
 refine wpAny_Call_Name_kw (ZW I hg hm hv ?_ hn hdb)
 exact PyProof.Rows.callWith_type1 (qe (ha pos pins s σ H _ I h) λ us s1 ⟨vs,H1,I1,r1,q1⟩=>hc pins s1 σ H1 vs us Q I1 r1 q1) he hpl
end
end L2
namespace HT
open PySem PyProof.Rows
noncomputable def lexLt:List Int->List Int->Bool
 | [],[]=>false
 | [],_::_=>true
 | _::_,[]=>false
 | x::xs,y::ys=>if x=y then lexLt xs ys else decide (x<y)
theorem Mr (x y:Int)(xs ys:List Int):lexLt (x::xs) (y::ys)=if x=y then lexLt xs ys else decide (x<y):=rfl
theorem Nj:lexLt [] []=false:=rfl
theorem OZ (y:Int)(ys:List Int):lexLt [] (y::ys)=true:=rfl
theorem OW (x:Int)(xs:List Int):lexLt (x::xs) []=false:=rfl
theorem IC (A:Around)(s:Shared)(a:Int)(t:Tok)(c:Int)(u:Tok):∃e,SeqAt.EqAt A s (.int a t) (.int c u) e/\(e=true↔a=c):=
 ⟨(a==c),SeqAt.EqAt.int_int a t c u,by simp⟩
theorem Hs (A:Around)(s:Shared)(a:Int)(t:Tok)(c:Int)(u:Tok)(prog:Program)(w:World)(E:Value->Shared->Prop)(Q:Value->Shared->Prop)(h:Q (.bool (decide (a<c))) s):
  wpAny (model prog w) A (richCompare .Lt (.int a t) (.int c u)) Q E s:=
 (PyProof.Rows.lt_int h:wpAny (model prog w) A (compareOp .Lt (.int a t) (.int c u)) Q E s)
section
open PySem.SeqAt
open PySem.AutoSeq1 (wpAny_loadPart')
open PySem.MeetsSeq PySem.MeetsSeq2 PySem.MeetsSeq3
theorem Nh (l b:Addr)(items items2:Array Value)(n n2:Nat)(dd dd2:Option Addr)(sl sl2:Array (Option Value))(ns ms:List Int)(hi:IntsAre items.toList ns)(hj:IntsAre items2.toList ms):
  Meets (Builtin.«tuple.__lt__» ⟨[.ref l,.ref b],[]⟩)
   (λ _ R s=>s.heap.get? l=some { cls:=.type "tuple",dict:=dd,data:=.seq items n,slots:=sl }/\s.heap.get? b=some { cls:=.type "tuple",dict:=dd2,data:=.seq items2 n2,slots:=sl2 }/\
    R (.ok (.ret (.bool (lexLt ns ms)))) s):=
 .of_wp λ prog w A R s h=>by
  obtain ⟨hp,g,d,tk,os⟩:=s;obtain ⟨hl,hb,h⟩:=h
  have f2:=AutoSeq1.sub_tuple_tuple
  have z1:items.size=ns.length:=by rw [<- hi.length];simp
  have z2:items2.size=ms.length:=by rw [<- hj.length];simp
  wp_walk using wpAny_loadPart' hl,wpAny_loadPart' hb,wpAny_forIn_list _ (λ rest b s'=>b.1=none/\s'=⟨hp,g,d,tk,os⟩/\∃(vs ws:List Value) (ns' ms':List Int),rest=vs.zip ws/\
   IntsAre vs ns'/\IntsAre ws ms'/\ns'.length+items2.size=ms'.length+items.size/\R (.ok (.ret (.bool (lexLt ns' ms')))) ⟨hp,g,d,tk,os⟩) _
  case turn=>
   rintro ⟨y,x⟩ rest b s' ⟨hb',rfl,vs,ws,ns',ms',hz,hvi,hwi,hlen,hR⟩
   cases hvi with
   | nil=>rw [List.zip_nil_left] at hz;cases hz
   | cons a t hvi'=>
    cases hwi with
    | nil=>rw [List.zip_nil_right] at hz;cases hz
    | cons c u hwi'=>
     rw [List.zip_cons_cons] at hz
     injection hz with hyx hrest
     injection hyx with hy hx
     subst hy hx
     rw [Mr] at hR
     simp only [List.length_cons] at hlen
     obtain ⟨e,he,hiff⟩:=IC A.in1 ⟨hp,g,d,tk,os⟩ a t c u
     refine wpAny_bind (he prog w _ _ ?_)
     cases e with
     | true=>
      rw [if_pos (hiff.mp rfl)] at hR
      wp_walk
      exact ⟨rfl,rfl,_,_,_,_,hrest,hvi',hwi',by omega,hR⟩
     | false=>
      rw [if_neg (λ q=>absurd (hiff.mpr q) Bool.false_ne_true)] at hR
      have hri:=Hs A.in1 ⟨hp,g,d,tk,os⟩ a t c u prog w
      wp_walk using hri
      exact ⟨_,rfl,by simpa using hR⟩
  case fin=>
   rintro ⟨b1,b2⟩ s' ⟨hb',rfl,vs,ws,ns',ms',hz,hvi,hwi,hlen,hR⟩
   simp only at hb'
   subst hb'
   have hv:lexLt ns' ms'=decide (items.size<items2.size):=by
    cases hvi with
    | nil=>
     cases hwi with
     | nil=>
      simp only [List.length_nil] at hlen
      rw [Nj]
      exact (decide_eq_false (by omega)).symm
     | cons c u hw=>
      simp only [List.length_nil,List.length_cons] at hlen
      rw [OZ]
      exact (decide_eq_true (by omega)).symm
    | cons a t hv=>
     cases hwi with
     | nil=>
      simp only [List.length_nil,List.length_cons] at hlen
      rw [OW]
      exact (decide_eq_false (by omega)).symm
     | cons c u hw=>
      rw [List.zip_cons_cons] at hz
      cases hz
   rw [hv] at hR
   wp_walk
   exact ⟨_,rfl,by simpa [Builtin.Tuple.tupleCompareSizes] using hR⟩
  case h=>
   exact ⟨rfl,rfl,items.toList,items2.toList,ns,ms,rfl,hi,hj,by omega,h⟩
end
section
variable {prog:Program}{w:World}{A:Around}{E:Value->Shared->Prop}{s:Shared}
theorem Mx {l b:Addr}{items items2:Array Value}{ns ms:List Int}{Q:Value->Shared->Prop}(hl:IsTup s.heap l items)(hb:IsTup s.heap b items2)(hi:IntsAre items.toList ns)(hj:IntsAre items2.toList ms)
  (hu:A.units<cLine)(h:Q (.bool (lexLt ns ms)) s):wpAny (model prog w) A (compareOp .Lt (.ref l) (.ref b)) Q E s:=by
 obtain ⟨⟨cls,dd,data,sl⟩,ho,hc,n,hd⟩:=id hl
 obtain ⟨⟨cls2,dd2,data2,sl2⟩,ho2,hc2,n2,hd2⟩:=id hb
 simp only at hc hd hc2 hd2
 subst hc hd hc2 hd2
 exact richCompare_meets_room (op:=.Lt) ⟨_,ho,rfl⟩ ⟨_,ho2,rfl⟩ PySem.F.slot_tuple_lt PySem.F.entry_tuple_lt (PySem.F.args_tuple_lt_2 _ _) (Nh l b items items2 n n2 dd dd2 sl sl2 ns ms hi hj)
  ⟨ho,ho2,show Value.bool (lexLt ns ms)≠Value.notImplemented/\Q (.bool (lexLt ns ms)) s from ⟨(λ x=>nomatch x),h⟩⟩ hu
theorem FN {t b:Addr}{vs ws:List Value}{Q:Value->Shared->Prop}(ht:IsTup s.heap t vs.toArray)(hb:IsTup s.heap b ws.toArray)(hv:vs≠[])
  (h1:ws=[]->Q (.ref t) s)(h2:ws≠[]->Q (.ref s.heap.objs.size) { s with heap:=s.heap.push { cls:=.type "tuple",data:=.seq (vs++ws).toArray } })
  (hsz:vs.length+ws.length<=sizeLine):wpAny (model prog w) A (binaryOp .Add (.ref t) (.ref b)) Q E s:=by
 obtain ⟨⟨cls,dd,data,sl⟩,ho,hc,n,hd⟩:=id ht
 obtain ⟨⟨cls2,dd2,data2,sl2⟩,ho2,hc2,n2,hd2⟩:=id hb
 simp only at hc hd hc2 hd2
 subst hc hd hc2 hd2
 have e:vs.toArray++ws.toArray=(vs++ws).toArray:=by simp
 by_cases hw:ws=[]
 ·exact concat_meets ⟨_,ho,rfl⟩ ⟨_,ho2,rfl⟩ noFill_tuple_add seq_tuple_add PySem.F.slot_tuple_add PySem.F.entry_tuple_add (PySem.F.args_tuple_add_2 _ _)
   (tuple_addW1 t b vs.toArray ws.toArray n n2 dd dd2 sl sl2 (by simpa using hv) (by simp [hw])) ⟨ho,ho2,h1 hw⟩
 ·refine concat_meets ⟨_,ho,rfl⟩ ⟨_,ho2,rfl⟩ noFill_tuple_add seq_tuple_add PySem.F.slot_tuple_add PySem.F.entry_tuple_add (PySem.F.args_tuple_add_2 _ _)
   (tuple_addW2 t b vs.toArray ws.toArray n n2 dd dd2 sl sl2 (by simpa using hv) (by simpa using hw) (by rw [List.size_toArray,List.size_toArray];exact hsz)) ⟨ho,ho2,?_⟩
  rw [e]
  exact h2 hw
end
end HT
namespace L2
open PySem PySem.Spec PyProof.Rows
section
variable {X:Cx}{e:Expr}{te:TE}{lo hi:Option Expr}{tl th:TO}{pos p2:Pos}
noncomputable def PN (K:Frag):R2:=λ x y H Q=>∃a b xs ys,x=.ref a/\y=.ref b/\qv K H a xs/\qv K H b ys/\xs≠[]/\xs.length+ys.length<=sizeLine/\
 (ys=[]->Q (.ref a) H)/\(ys≠[]->∀p,H p=none->Q (.ref p) (upd H p (.tup (xs++ys))))
theorem Vals.nil_iff {xs:List V}{us:List Value}(r:Vals xs us):us=[]↔xs=[]:=by
 cases r with
 | nil=>simp
 | cons _ _=>simp
theorem FW:qE X (binaryOp .Add) (PN X.K):=by
 intro pins s σ H x y v u Q I rx ry h
 obtain ⟨a,b,xs,ys,rfl,rfl,ha,hb,hx,hz,q1,q2⟩:=h
 cases rx
 cases ry
 obtain ⟨its,r1,p1,_⟩:=I.tuple ha
 obtain ⟨its2,r2,p2,_⟩:=I.tuple hb
 refine HT.FN p1 p2 (λ z=>hx (r1.nil_iff.mp z)) (λ z=>⟨.ref a,H,I,rfl,q1 (r2.nil_iff.mp z)⟩) (λ z=>?_) (by rw [<- r1.length,<- r2.length];exact hz)
 refine ⟨.ref s.heap.objs.size,_,I.laid (t':=s.toks) (o:=.tup (xs++ys)) (λ b ob q=>Heap.get?_push_of_some _ q) (Nat.le_refl _) ?_,rfl,q2 (λ w=>z (r2.nil_iff.mpr w)) _ (I.hok.fresh (Nat.le_refl _))⟩
 exact ⟨by rw [List.length_append];exact hz,_,r1.append r2,ZZ.new _ _⟩
end
noncomputable def kS (n:Nat)(i:Int):Option Nat:=if 0<=i then (if i<n then some i.toNat else none) else if -(n:Int)<=i then some (i+n).toNat else none
noncomputable def kU {α:Type}(xs:List α)(i:Int):Option α:=(kS xs.length i).bind λ j=>xs[j]?
theorem Ri {n:Nat}{i:Int}{j:Nat}(h:kS n i=some j):seqIndex? i n=some j/\j<n/\-(n:Int)<=i/\i<n:=by
 unfold kS at h
 by_cases h0:0<=i
 ·rw [if_pos h0] at h
  by_cases h1:i<n
  ·rw [if_pos h1] at h
   have e:i.toNat=j:=Option.some.inj h
   exact ⟨by rw [seqIndex_of h0 h1,e],by omega,by omega,h1⟩
  ·rw [if_neg h1] at h;cases h
 ·rw [if_neg h0] at h
  by_cases h1:-(n:Int)<=i
  ·rw [if_pos h1] at h
   have e:(i+n).toNat=j:=Option.some.inj h
   exact ⟨by rw [seqIndex_neg (by omega) h1,e],by omega,h1,by omega⟩
  ·rw [if_neg h1] at h;cases h
theorem Va {α:Type}{xs:List α}{i:Int}{v:α}(h:kU xs i=some v):∃j,seqIndex? i xs.length=some j/\xs[j]? =some v/\j<xs.length/\-(xs.length:Int)<=i/\i<xs.length:=by
 unfold kU at h
 cases e:kS xs.length i with
 | none=>rw [e] at h;cases h
 | some j=>
  rw [e] at h
  obtain ⟨h1,h2,h3,h4⟩:=Ri e
  exact ⟨j,h1,h,h2,h3,h4⟩
theorem KL {α:Type}{xs:List α}{j:Nat}{v:α}(h:xs[j]? =some v):kU xs (j:Int)=some v:=by
 have hj:j<xs.length:=(List.getElem?_eq_some_iff.mp h).1
 have e:kS xs.length (j:Int)=some j:=by
  unfold kS
  rw [if_pos (by omega),if_pos (by omega)];simp
 unfold kU;rw [e];exact h
noncomputable def RA (b:Expr):Prop:=∀o i,subscripted b false o i=operate [o,i] (getItem o i)
noncomputable def ZE (X:Cx)(r:R2):Prop:=
 ∀(value slice:Expr) (pins:List (Addr × Obj)) (s:Shared) (σ:St) (H:Hp) (x y:V) (v u:Value) (Q:VK),Inv X pins σ H s->RelV x v->RelV y u->r x y H Q->
  subscripted slice false v u=operate [v,u] (getItem v u)->wpAny (model X.prog X.w) X.A (subscriptTail value slice v u) (EP X pins σ Q) X.xe s
noncomputable def Uj (X:Cx)(id:String)(r:V->List V->Hp->VK->Prop):Prop:=
 ∀(pins:List (Addr × Obj)) (s:Shared) (σ:St) (H:Hp) (x:V) (xs:List V) (v:Value) (us:List Value) (Q:VK),Inv X pins σ H s->RelV x v->Vals xs us->r x xs H Q->
  wpAny (model X.prog X.w) X.A (call (.builtin id) (v::us)) (EP X pins σ Q) X.xe s
section
variable {X:Cx}{a b:Expr}{ta tb:TE}{pos:Pos}
theorem ZE.or {r r':R2}(h:ZE X r)(h':ZE X r'):ZE X (λ x y H Q=>r x y H Q∨r' x y H Q):=by
 intro value slice pins s σ H x y v u Q I rx ry q hs
 rcases q with q | q
 ·exact h value slice pins s σ H x y v u Q I rx ry q hs
 ·exact h' value slice pins s σ H x y v u Q I rx ry q hs
theorem Cm {r:R2}(hr:ZE X r)(ha:PE X a ta)(hb:PE X b tb)(hs:RA b):PE X (.Subscript a b pos) (Yt r ta tb):=by
 intro pins s σ H Q I h
 exact Subscript_ (V5 ha hb I h λ v u s2 x y H2 I2 rx ry q=>hr a b pins s2 σ H2 x y v u Q I2 rx ry q (hs _ _))
noncomputable def Oa (K:Frag):R2:=λ x y H Q=>∃p xs i v,x=.ref p/\y=.int i/\qW K H p xs/\kU xs i=some v/\Q v H
noncomputable def Oo (K:Frag):R2:=λ x y H Q=>∃p xs i v,x=.ref p/\y=.int i/\qv K H p xs/\kU xs i=some v/\Q v H
noncomputable def Om:R2:=λ x y H Q=>∃z i c,x=.str z/\y=.int i/\z.length<=sizeLine/\kU z.cps.toList i=some c/\Q (.str ⟨#[c]⟩) H
theorem FR:ZE X (Oa X.K):=by
 intro value slice pins s σ H x y v u Q I rx ry h hs
 obtain ⟨p,xs,i,z,rfl,rfl,hq,he,q⟩:=h
 cases rx
 obtain ⟨t,rfl⟩:=ry
 obtain ⟨its,r,pl,hz⟩:=I.list hq
 obtain ⟨j,h1,h2,h3,h4,h5⟩:=Va he
 obtain ⟨w,ew,rw'⟩:=r.get h2
 have hl:=r.length
 have hn:=Jj
 have fin:EP X pins σ Q w s:=⟨z,H,I,rw',q⟩
 by_cases h0:0<=i
 ·have hj:i.toNat=j:=by
   rw [seqIndex_of h0 h5] at h1
   exact Option.some.inj h1
  exact item_listR pl.isList h0 (by omega) (by rw [hj];simpa using ew) fin hs
 ·have hj:(i+(its.toArray.size:Int)).toNat=j:=by
   rw [seqIndex_neg (by omega) h4] at h1
   rw [List.size_toArray,<- hl]
   exact Option.some.inj h1
  exact subscriptTail_builtinR (x:=w) pl.isList.typeIs slot_list_getitem.lookup
   (wpAny_getItem_list_neg (Q:=λ r s'=>r=w/\EP X pins σ Q r s') pl.isList (by omega) (by rw [List.size_toArray]<;>omega) (by omega) (by rw [hj];simpa using ew) ⟨rfl,fin⟩) hs
theorem EC:ZE X (Oo X.K):=by
 intro value slice pins s σ H x y v u Q I rx ry h hs
 obtain ⟨p,xs,i,z,rfl,rfl,hq,he,q⟩:=h
 cases rx
 obtain ⟨t,rfl⟩:=ry
 obtain ⟨its,r,pl,hz⟩:=I.tuple hq
 obtain ⟨j,h1,h2,h3,h4,h5⟩:=Va he
 obtain ⟨w,ew,rw'⟩:=r.get h2
 have hl:=r.length
 have hn:=Jj
 have fin:EP X pins σ Q w s:=⟨z,H,I,rw',q⟩
 exact subscriptTail_builtinR (x:=w) pl.typeIs slot_tuple_getitem.lookup
  (getItem_tuple (j:=j) (Q:=λ r s'=>r=w/\EP X pins σ Q r s') pl (by omega) (by omega) (by rw [List.size_toArray,<- hl];exact h1) (by simpa using ew) ⟨rfl,fin⟩) hs
theorem Dy:ZE X Om:=by
 intro value slice pins s σ H x y v u Q I rx ry h hs
 obtain ⟨z,i,c,rfl,rfl,hz,he,q⟩:=h
 obtain ⟨t,rfl⟩:=rx
 obtain ⟨t',rfl⟩:=ry
 obtain ⟨j,h1,h2,h3,h4,h5⟩:=Va he
 have hl:z.cps.toList.length=z.length:=by simp [Str.length]
 rw [hl] at h1 h4 h5
 have hn:=Jj
 exact tail_any (typeIs_str s z t) slot_str_getitem.lookup (getItem_str (c:=c) (by
  have e1:decide (i < -(2 ^ 63:Int))=false:=decide_eq_false (by omega)
  have e2:decide (i ≥ 2 ^ 63)=false:=decide_eq_false (by omega)
  rw [e1,e2,Bool.or_false]) (by rw [h1];simpa using h2) ⟨.str ⟨#[c]⟩,H,I.tok _,⟨_,rfl⟩,q⟩) hs
noncomputable def Ov (K:Frag):R2:=λ x y H Q=>Oa K x y H Q∨Oo K x y H Q∨Om x y H Q
theorem EG:ZE X (Ov X.K):=FR.or (EC.or Dy)
theorem Mg (its:List Value)(n j:Nat)(u:Value):Obj.mapSeq (·.setIfInBounds j u) { cls:=.type "list",data:=.seq its.toArray n }={ cls:=.type "list",data:=.seq (its.set j u).toArray n }:=by
 simp [Obj.mapSeq]
theorem Inv.lst {pins:List (Addr × Obj)}{σ:St}{H:Hp}{s:Shared}{p:Addr}{xs:List V}(I:Inv X pins σ H s)(h:H p=some (.lst xs)):
  ∃(its:List Value) (n:Nat),Vals xs its/\s.heap.get? p=some { cls:=.type "list",data:=.seq its.toArray n }/\xs.length<=sizeLine:=by
 obtain ⟨z,its,n,r,e⟩:=I.hok p _ h
 exact ⟨its,n,r,e,z⟩
theorem Inv.lstUpd {pins:List (Addr × Obj)}{σ:St}{H:Hp}{s:Shared}{p:Addr}{xs ys:List V}{its its':List Value}{n n':Nat}{f:Obj->Obj}(I:Inv X pins σ H s)(h:H p=some (.lst xs))
  (ho:s.heap.get? p=some { cls:=.type "list",data:=.seq its.toArray n })(hf:f { cls:=.type "list",data:=.seq its.toArray n }={ cls:=.type "list",data:=.seq its'.toArray n' })(r:Vals ys its')(hz:ys.length<=sizeLine)(t:Nat):
  Inv X pins σ (upd H p (.lst ys)) { s with heap:=s.heap.update p f,toks:=t }:=by
 have e:(s.heap.update p f).get? p=some { cls:=.type "list",data:=.seq its'.toArray n' }:=by
  rw [Heap.get?_update_self f ho (by rw [hf]<;>rfl),hf]
 refine I.write (x:=p) (e:=p) (by rw [h];trivial) (.inl rfl) (λ b u hb q=>(Heap.get?_update_other _ _ (Ne.symm hb)).trans q) ⟨_,e⟩ ?_
 exact ⟨hz,its',n',r,e⟩
noncomputable def Pz:V->V->V->Hp->(Hp->Prop)->Prop:=λ o i v H Q=>∃p xs k j,o=.ref p/\i=.int k/\H p=some (.lst xs)/\kS xs.length k=some j/\Q (upd H p (.lst (xs.set j v)))
theorem set_list:Ww X Pz:=by
 intro pins s σ H o i v ov iv u Q I ro ri rv h
 obtain ⟨p,xs,k,j,rfl,rfl,hp,hj,q⟩:=h
 cases ro
 obtain ⟨t,rfl⟩:=ri
 obtain ⟨its,n,r,ho,hz⟩:=I.lst hp
 obtain ⟨h1,h2,h3,h4⟩:=Ri hj
 have hl:=r.length
 have hn:=Jj
 have I':Inv X pins σ (upd H p (.lst (xs.set j v))) { s with heap:=s.heap.update p (Obj.mapSeq (·.setIfInBounds j u)) }:=
  I.lstUpd hp ho (Mg its n j u) (r.set rv j) (by rw [List.length_set];exact hz) s.toks
 by_cases h0:0<=k
 ·have hk:k.toNat=j:=by
   rw [seqIndex_of h0 h4] at h1
   exact Option.some.inj h1
  exact PySem.W.ki_setAt ho h0 (by omega) (by rw [List.size_toArray,<- hl];exact h4) (by rw [hk];exact ⟨_,I',q⟩)
 ·have hk:(k+(its.toArray.size:Int)).toNat=j:=by
   rw [seqIndex_neg (by omega) h3] at h1
   rw [List.size_toArray,<- hl]
   exact Option.some.inj h1
  exact PySem.W.ki_setBack ho (by omega) (by rw [List.size_toArray,<- hl];exact h3) (by omega) (by rw [hk];exact ⟨_,I',q⟩)
noncomputable def gM:V->Bool
 | .non=>true
 | .bl _=>true
 | .int _=>true
 | .str _=>true
 | _=>false
noncomputable def ZF:V->V->Bool
 | .non,.non=>true
 | .bl a,.bl b=>a==b
 | .bl a,.int b=>(if a then 1 else 0)==b
 | .int a,.bl b=>a==(if b then 1 else 0)
 | .int a,.int b=>a==b
 | .str a,.str b=>a==b
 | _,_=>false
theorem Df {A:Around}{s:Shared}{y x:V}{u v:Value}(ry:RelV y u)(rx:RelV x v)(fy:gM y=true)(fx:gM x=true):SeqAt.EqAt A s u v (ZF y x):=by
 cases y with
 | non=>
  cases ry
  cases x with
  | non=>cases rx;exact SeqAt.EqAt.same _
  | bl b=>cases rx;exact SeqAt.EqAt.none_bool b
  | int b=>obtain ⟨t,rfl⟩:=rx;exact SeqAt.EqAt.none_int b t
  | str b=>obtain ⟨t,rfl⟩:=rx;exact SeqAt.EqAt.none_str b t
  | _=>exact absurd (show false=true from fx) Bool.false_ne_true
 | bl a=>
  cases ry
  cases x with
  | non=>cases rx;exact SeqAt.EqAt.bool_none a
  | bl b=>cases rx;exact SeqAt.EqAt.bool_bool a b
  | int b=>obtain ⟨t,rfl⟩:=rx;exact SeqAt.EqAt.bool_int a b t
  | str b=>obtain ⟨t,rfl⟩:=rx;exact SeqAt.EqAt.bool_str a b t
  | _=>exact absurd (show false=true from fx) Bool.false_ne_true
 | int a=>
  obtain ⟨t',rfl⟩:=ry
  cases x with
  | non=>cases rx;exact SeqAt.EqAt.int_none a t'
  | bl b=>cases rx;exact SeqAt.EqAt.int_bool a t' b
  | int b=>obtain ⟨t,rfl⟩:=rx;exact SeqAt.EqAt.int_int a t' b t
  | str b=>obtain ⟨t,rfl⟩:=rx;exact SeqAt.EqAt.int_str a t' b t
  | _=>exact absurd (show false=true from fx) Bool.false_ne_true
 | str a=>
  obtain ⟨t',rfl⟩:=ry
  cases x with
  | non=>cases rx;exact SeqAt.EqAt.str_none a t'
  | bl b=>cases rx;exact SeqAt.EqAt.str_bool a t' b
  | int b=>obtain ⟨t,rfl⟩:=rx;exact SeqAt.EqAt.str_int a t' b t
  | str b=>obtain ⟨t,rfl⟩:=rx;exact SeqAt.EqAt.str_str a t' b t
  | _=>exact absurd (show false=true from fx) Bool.false_ne_true
 | _=>exact absurd (show false=true from fy) Bool.false_ne_true
noncomputable def kD (x:V)(u:Value):Bool:=match u with
 | .none=>ZF .non x
 | .bool b=>ZF (.bl b) x
 | .int i _=>ZF (.int i) x
 | .str z _=>ZF (.str z) x
 | _=>false
theorem Pg {x y:V}{u:Value}(r:RelV y u)(f:gM y=true):kD x u=ZF y x:=by
 cases y with
 | non=>cases r;rfl
 | bl b=>cases r;rfl
 | int i=>obtain ⟨t,rfl⟩:=r;rfl
 | str z=>obtain ⟨t,rfl⟩:=r;rfl
 | _=>exact absurd (show false=true from f) Bool.false_ne_true
theorem J0 {x:V}:∀{xs:List V} {us:List Value},Vals xs us->xs.all gM=true->us.any (kD x)=xs.any λ y=>ZF y x
 | _,_,.nil,_=>rfl
 | y::xs,u::us,.cons r t,f=>by
  rw [List.all_cons,Bool.and_eq_true] at f
  rw [List.any_cons,List.any_cons,Pg r f.1,J0 t f.2]
theorem JW {A:Around}{s:Shared}{x:V}{v:Value}(rx:RelV x v)(fx:gM x=true):∀{xs:List V} {us:List Value},Vals xs us->xs.all gM=true->∀u∈us,SeqAt.EqAt A s u v (kD x u)
 | _,_,.nil,_=>λ u hu=>by cases hu
 | y::xs,u::us,.cons r t,f=>λ u' hu=>by
  rw [List.all_cons,Bool.and_eq_true] at f
  rcases List.mem_cons.mp hu with rfl | hu
  ·rw [Pg r f.1];exact Df r rx f.1 fx
  ·exact JW rx fx t f.2 u' hu
noncomputable def WK (x:V)(xs:List V):Bool:=xs.any λ y=>ZF y x
noncomputable def Ul (K:Frag)(neg:Bool):R2:=λ x y H Q=>∃p xs,y=.ref p/\(qW K H p xs∨qv K H p xs)/\gM x=true/\xs.all gM=true/\Q (.bl (if neg then !WK x xs else WK x xs)) H
theorem M9:qE X (compareOp .In) (Ul X.K false):=by
 intro pins s σ H x y v u Q I rx ry h
 obtain ⟨p,xs,rfl,hq,fx,fs,q⟩:=h
 cases ry
 rcases hq with hq | hq
 ·obtain ⟨its,r,pl,hz⟩:=I.list hq
  refine SeqAt.in_listAt (kD x) pl.isList (λ w hw=>JW rx fx r fs w (by simpa using hw)) ⟨.bl _,H,I,rfl,?_⟩
  rw [show its.toArray.any (kD x)=its.any (kD x) by simp,J0 r fs]
  exact q
 ·obtain ⟨its,r,pl,hz⟩:=I.tuple hq
  refine SeqAt.in_tupleAt (kD x) pl (λ w hw=>JW rx fx r fs w (by simpa using hw)) ⟨.bl _,H,I,rfl,?_⟩
  rw [show its.toArray.any (kD x)=its.any (kD x) by simp,J0 r fs]
  exact q
theorem NX:qE X (compareOp .NotIn) (Ul X.K true):=by
 intro pins s σ H x y v u Q I rx ry h
 obtain ⟨p,xs,rfl,hq,fx,fs,q⟩:=h
 cases ry
 rcases hq with hq | hq
 ·obtain ⟨its,r,pl,hz⟩:=I.list hq
  refine SeqAt.notIn_listAt (kD x) pl.isList (λ w hw=>JW rx fx r fs w (by simpa using hw)) ⟨.bl _,H,I,rfl,?_⟩
  rw [show its.toArray.any (kD x)=its.any (kD x) by simp,J0 r fs]
  exact q
 ·obtain ⟨its,r,pl,hz⟩:=I.tuple hq
  refine SeqAt.notIn_tupleAt (kD x) pl (λ w hw=>JW rx fx r fs w (by simpa using hw)) ⟨.bl _,H,I,rfl,?_⟩
  rw [show its.toArray.any (kD x)=its.any (kD x) by simp,J0 r fs]
  exact q
theorem NA:yb X (.builtin "len") (λ xs H Q=>∃p ys,xs=[.ref p]/\(qW X.K H p ys∨qv X.K H p ys)/\Q (.int ys.length) H):=by
 intro pins s σ H xs us Q I r h
 obtain ⟨p,ys,rfl,hq,q⟩:=h
 obtain ⟨u,rfl,rx⟩:=vals1 r
 cases rx
 have hn:=Jj
 rcases hq with hq | hq
 ·obtain ⟨its,r',pl,hz⟩:=I.list hq
  have hlen:=r'.length
  exact Calls.call_len_list pl.isList (by simp only [List.size_toArray]<;>omega) ⟨.int ys.length,H,I.tok _,⟨s.toks+1,by rw [List.size_toArray,hlen]⟩,q⟩
 ·obtain ⟨its,r',pl,hz⟩:=I.tuple hq
  have hlen:=r'.length
  exact len_tuple pl (by simp only [List.size_toArray]<;>omega) ⟨.int ys.length,H,I.tok _,⟨s.toks+1,by rw [List.size_toArray,hlen]⟩,q⟩
theorem Nx:yb X (.type "list") (λ xs H Q=>∃p ys,xs=[.ref p]/\(qW X.K H p ys∨qv X.K H p ys)/\∀l,H l=none->Q (.ref l) (upd H l (.lst ys))):=by
 intro pins s σ H xs us Q I r h
 obtain ⟨p,ys,rfl,hq,q⟩:=h
 obtain ⟨u,rfl,rx⟩:=vals1 r
 cases rx
 have fin:∀(its:List Value),Vals ys its->ys.length<=sizeLine->∀(h':Heap) (c':Nat),(∀b o',s.heap.get? b=some o'->h'.get? b=some o')->
   h'.get? s.heap.objs.size=some { cls:=.type "list",dict:=none,data:=.seq its.toArray c',slots:=#[] }->EP X pins σ Q (.ref s.heap.objs.size) { s with heap:=h' }:=λ its r' hz h' c' kp e=>
  ⟨.ref s.heap.objs.size,_,I.laid (t':=s.toks) kp (Nat.le_refl _) (show qN X.prog X.w _ h' _ (.lst ys) from ⟨hz,its,c',r',e⟩),rfl,q _ (I.hok.fresh (Nat.le_refl _))⟩
 rcases hq with hq | hq
 ·obtain ⟨its,r',pl,hz⟩:=I.list hq
  have hlen:=r'.length
  obtain ⟨o,ho,hc,n,hd⟩:=pl.isList
  exact call_list_seq p (.inl rfl) ho hc hd (λ h' c' kp e=>fin its r' hz h' c' kp e) (by simp only [List.size_toArray]<;>omega)
 ·obtain ⟨its,r',pl,hz⟩:=I.tuple hq
  have hlen:=r'.length
  obtain ⟨o,ho,hc,n,hd⟩:=pl
  exact call_list_seq p (.inr rfl) ho hc hd (λ h' c' kp e=>fin its r' hz h' c' kp e) (by simp only [List.size_toArray]<;>omega)
theorem Nk:yb X (.type "tuple") (λ xs H Q=>∃p ys,xs=[.ref p]/\((qW X.K H p ys/\∀l,H l=none->Q (.ref l) (upd H l (.tup ys)))∨(qv X.K H p ys/\Q (.ref p) H))):=by
 intro pins s σ H xs us Q I r h
 obtain ⟨p,ys,rfl,h⟩:=h
 obtain ⟨u,rfl,rx⟩:=vals1 r
 cases rx
 rcases h with ⟨hq,q⟩ | ⟨hq,q⟩
 ·obtain ⟨its,r',pl,hz⟩:=I.list hq
  have hlen:=r'.length
  refine call_tuple_list pl.isList (λ h' kp=>?_) (by simp only [List.size_toArray]<;>omega)
  have I1:Inv X pins σ H { s with heap:=h' }:=I.kept (t':=s.toks) kp
  have I2:Inv X pins σ (upd H h'.objs.size (.tup ys)) { s with heap:=h'.push { cls:=.type "tuple",data:=.seq its.toArray } }:=
   I1.laid (t':=s.toks) (λ b o e=>Heap.get?_push_of_some _ e) (Nat.le_refl _) (show qN X.prog X.w _ _ _ (.tup ys) from ⟨hz,its,r',ZZ.new _ _⟩)
  exact ⟨.ref h'.objs.size,_,I2,rfl,q _ (I1.hok.fresh (Nat.le_refl _))⟩
 ·obtain ⟨its,r',pl,hz⟩:=I.tuple hq
  exact call_tuple_same pl ⟨.ref p,H,I,rfl,q⟩
noncomputable def WG (K:Frag)(T:String)(x:V)(H:Hp):Prop:=match x with
 | .str _=>T = "str"
 | .int _=>T = "int"
 | .ref p=>(T = "list" /\ ∃xs,qW K H p xs)∨(T = "tuple" /\ ∃o,K.lookup p=some o/\o.cls=.type "tuple" /\ o.dict=none)∨
   (T = "dict" /\ ((∃kvs,H p=some (.dK kvs))∨∃kvs,H p=some (.dT kvs)))∨(T = "set" /\ ∃S n,H p=some (.set S n))
 | _=>False
theorem Dx {pins:List (Addr × Obj)}{σ:St}{H:Hp}{s:Shared}{T:String}{x:V}{v:Value}(I:Inv X pins σ H s)(r:RelV x v)(ty:WG X.K T x H):
  s.TypeIs v T/\∀a,v=.ref a->∃ob,s.heap.get? a=some ob/\ob.dict=none:=by
 cases x with
 | str z=>
  obtain ⟨t,rfl⟩:=r
  cases (show T = "str" from ty)
  exact ⟨typeIs_str s z t,λ _ e=>nomatch e⟩
 | int i=>
  obtain ⟨t,rfl⟩:=r
  cases (show T = "int" from ty)
  exact ⟨typeIs_int s i t,λ _ e=>nomatch e⟩
 | ref p=>
  cases r
  rcases ty with ⟨rfl,xs,hq⟩ | ⟨rfl,o,hk,hc,hd⟩ | ⟨rfl,hk⟩ | ⟨rfl,S,n,hk⟩
  ·obtain ⟨its,_,pl,_⟩:=I.list hq
   refine ⟨pl.isList.typeIs,λ a e=>?_⟩
   cases e
   obtain ⟨o,n,e,c,hd,_⟩:=pl
   exact ⟨o,e,hd⟩
  ·refine ⟨⟨o,I.kIn p o hk,hc⟩,λ a e=>?_⟩
   cases e
   exact ⟨o,I.kIn _ o hk,hd⟩
  ·have z:∃o,s.heap.get? p=some o/\o.ExactDict:=by
    rcases hk with ⟨kvs,hk⟩ | ⟨kvs,hk⟩
    ·obtain ⟨_,_,_,_,o,_,_,e,ex,_⟩:=I.hok p _ hk
     exact ⟨o,e,ex⟩
    ·obtain ⟨_,_,_,_,o,_,_,e,ex,_⟩:=I.hok p _ hk
     exact ⟨o,e,ex⟩
   obtain ⟨o,e,ex⟩:=z
   refine ⟨⟨o,e,ex.1⟩,λ a e2=>?_⟩
   cases e2
   exact ⟨o,e,ex.2.1⟩
  ·obtain ⟨o,_,_,_,e,ex,_⟩:=I.hok p _ hk
   refine ⟨⟨o,e,ex.1⟩,λ a e2=>?_⟩
   cases e2
   exact ⟨o,e,ex.2.1⟩
 | _=>exact False.elim ty
noncomputable def Ah (K:Frag)(T:String)(r:V->List V->Hp->VK->Prop)(to:TE)(t:TA):TE:=λ σ H Q=>to σ H λ x H1=>WG K T x H1/\t σ H1 λ xs H2=>r x xs H2 Q
variable {o e:Expr}{es:List Expr}{to:TE}{t:TA}{name:Str}{apos cpos:Pos}{T id:String}{r:V->List V->Hp->VK->Prop}
theorem P1 (pa:PlainAttrs T)(slot:Slot T name id)(hty:typeOf (.builtin id)=pure (.type "method_descriptor"))(hm:Uj X id r)(ho:PE X o to)(ha:PA X (e::es) t)
  (hbase:attributeBase o name X.env (eval o X.env)=eval o X.env:=by rfl)
  (hfew:((backTo cpos (starEach (e::es) X.env)).all (λ x=>!x.1)&&(backToKw cpos (keywordEach [] X.env)).all (λ x=>x.1.isSome)
   && decide ((e::es).length+([]:List Keyword).length+(if ([]:List Keyword).isEmpty then 0 else 1)<30))=true:=by rfl)
  (hline:(apos.endLine==cpos.line)=true:=by rfl)(hs:starEach (e::es) X.env=(false,eval e X.env)::starEach es X.env:=by rfl)(hplain:(backTo cpos (starEach es X.env)).any (·.1)=false:=by rfl):
  PE X (.Call (.Attribute o name apos) (e::es) [] cpos) (Ah X.K T r to t):=by
 intro pins s σ H Q I h
 refine wpAny_Call_method_late hbase hfew hline rfl (qe (ho pins s σ H _ I h) λ v s1 ⟨x,H1,I1,r1,ty,q1⟩=>?_)
 obtain ⟨h1,h2⟩:=Dx I1 r1 ty
 refine ⟨T,id,pa,slot,hty,h1,h2,?_⟩
 have hA:=ha cpos pins s1 σ H1 _ I1 q1
 rw [hs] at hA ⊢
 refine Calls.callWith_builtin (by show (false || (backTo cpos (starEach es X.env)).any (·.1))=false;rw [hplain]<;>rfl) (Calls.evalArgs_plain ?_)
 exact qe hA λ us s2 ⟨vs,H2,I2,r2,q2⟩=>hm pins s2 σ H2 x vs v us Q I2 r1 r2 q2
end
noncomputable def WI (X:Cx)(id:String)(r:V->List V->Hp->VK->Prop):Prop:=
 ∀(pins:List (Addr × Obj)) (s:Shared) (σ:St) (H:Hp) (x:V) (xs:List V) (v:Value) (us:List Value) (Q:VK),Inv X pins σ H s->RelV x v->Vals xs us->r x xs H Q->
  wpAny (model X.prog X.w) X.A (call (.builtin id) (v::us)) (EP X pins σ Q) X.xe s
theorem Vals.one {x:V}{us:List Value}(h:Vals [x] us):∃u,us=[u]/\RelV x u:=by
 cases h with
 | cons r t=>cases t;exact ⟨_,rfl,r⟩
theorem Vals.two {x y:V}{us:List Value}(h:Vals [x,y] us):∃u v,us=[u,v]/\RelV x u/\RelV y v:=by
 cases h with
 | cons r t=>exact (Vals.one t).elim λ v e=>⟨_,v,by rw [e.1],r,e.2⟩
theorem Vals.eraseIdx:∀{xs:List V} {us:List Value} (i:Nat),Vals xs us->Vals (xs.eraseIdx i) (us.eraseIdx i)
 | _,_,_,.nil=>.nil
 | _,_,0,.cons _ t=>t
 | _,_,i+1,.cons r t=>.cons r (Vals.eraseIdx i t)
theorem Vals.rep {xs:List V}{us:List Value}(h:Vals xs us):∀k:Nat,Vals (List.replicate k xs).flatten (List.replicate k us).flatten
 | 0=>.nil
 | k+1=>by
  rw [List.replicate_succ,List.replicate_succ,List.flatten_cons,List.flatten_cons]
  exact Vals.append h (Vals.rep h k)
theorem Tj {α:Type}:∀(l:List α) (i:Nat),(l.eraseIdx i).length<=l.length
 | [],_=>Nat.le_refl _
 | _::_,0=>Nat.le_succ _
 | _::r,i+1=>Nat.succ_le_succ (Tj r i)
theorem foldl_rep (its:List Value):∀(k:Nat) (acc:List Value),
  List.foldl (λ x1 x2=>x1++x2) acc.toArray (List.replicate k its.toArray)=(acc++(List.replicate k its).flatten).toArray
 | 0,acc=>by simp
 | k+1,acc=>by
  have e:acc.toArray++its.toArray=(acc++its).toArray:=by simp
  have e2:(acc++its)++(List.replicate k its).flatten=acc++(List.replicate (k+1) its).flatten:=by
   rw [List.replicate_succ,List.flatten_cons,List.append_assoc]
  rw [<- e2,<- foldl_rep its k (acc++its),<- e,List.replicate_succ,List.foldl_cons]
section
variable {X:Cx}{pins:List (Addr × Obj)}{σ:St}{H:Hp}{s:Shared}{l b:Addr}{xs ys zs:List V}
theorem Inv.lset {its its':List Value}{n:Nat}{f:Array Value->Array Value}{t':Nat}(I:Inv X pins σ H s)(hH:H l=some (.lst xs))
  (e:s.heap.get? l=some { cls:=.type "list",data:=.seq its.toArray n })(hf:f its.toArray=its'.toArray)(hv:Vals ys its')(hz:ys.length<=sizeLine):
  Inv X pins σ (upd H l (.lst ys)) { s with heap:=s.heap.update l (Obj.mapSeq f),toks:=t' }:=by
 have q:=PySem.IsL.update e f
 rw [hf] at q
 refine I.write (x:=l) (e:=l) (by rw [hH];exact trivial) (.inl rfl) (λ b' u hb hu=>(Heap.get?_update_other s.heap (Obj.mapSeq f) (Ne.symm hb)).trans hu) ⟨_,q⟩ ?_
 exact ⟨hz,its',_,hv,q⟩
theorem Inv.lnew {its:List Value}{t':Nat}(I:Inv X pins σ H s)(hv:Vals ys its)(hz:ys.length<=sizeLine):
  Inv X pins σ (upd H s.heap.objs.size (.lst ys)) { s with heap:=s.heap.push { cls:=.type "list",data:=.seq its.toArray },toks:=t' }:=
 I.laid (λ _ _ q=>Heap.get?_push_of_some _ q) (Nat.le_refl _) ⟨hz,its,0,hv,Heap.get?_push_size _ rfl⟩
theorem Inv.fresh (I:Inv X pins σ H s):H s.heap.objs.size=none:=I.hok.fresh (Nat.le_refl _)
theorem Inv.lstM (I:Inv X pins σ H s)(hH:H l=some (.lst xs)):xs.length<=sizeLine/\∃(its:List Value) (n:Nat),Vals xs its/\xs.length=its.length/\s.heap.get? l=some { cls:=.type "list",data:=.seq its.toArray n }:=by
 obtain ⟨z,its,n,r,e⟩:=I.hok l _ hH
 exact ⟨z,its,n,r,r.length,e⟩
theorem Sj {n:Nat}(h:n<=sizeLine):Builtin.List.listTooLong n=false:=by
 unfold Builtin.List.listTooLong
 exact decide_eq_false (by omega)
end
section
variable {X:Cx}
noncomputable def Ej:V->List V->Hp->VK->Prop:=λ x vs H Q=>∃l xs y,x=.ref l/\vs=[y]/\H l=some (.lst xs)/\xs.length<sizeLine/\Q .non (upd H l (.lst (xs++[y])))
theorem Tc:WI X "list.append" Ej:=by
 intro pins s σ H x vs v us Q I rx rv h
 obtain ⟨l,xs,y,rfl,rfl,hH,hz,q⟩:=h
 cases rx
 obtain ⟨u,rfl,ru⟩:=rv.one
 obtain ⟨z,its,n,r,hl,e⟩:=I.lstM hH
 refine call_meets F.slot_list_append ⟨_,e,rfl⟩ F.entry_list_append (F.args_list_append_2 _ _) (PySem.list_append l its.toArray n u (by rw [List.size_toArray];omega)) ⟨e,?_⟩
 refine ⟨.non,_,I.lset (its':=its++[u]) hH e (by simp) (r.append (.cons ru .nil)) ?_,rfl,q⟩
 rw [List.length_append,List.length_singleton]
 omega
noncomputable def F2:V->List V->Hp->VK->Prop:=λ x vs H Q=>∃l b xs zs,x=.ref l/\vs=[.ref b]/\H l=some (.lst xs)/\H b=some (.lst zs)/\xs.length+zs.length<=sizeLine/\Q .non (upd H l (.lst (xs++zs)))
theorem MY:WI X "list.extend" F2:=by
 intro pins s σ H x vs v us Q I rx rv h
 obtain ⟨l,b,xs,zs,rfl,rfl,hH,hB,hz,q⟩:=h
 cases rx
 obtain ⟨u,rfl,ru⟩:=rv.one
 cases ru
 obtain ⟨z,its,n,r,hl,e⟩:=I.lstM hH
 obtain ⟨z2,its2,n2,r2,hl2,e2⟩:=I.lstM hB
 have hsz:its.toArray.size+its2.toArray.size<=sizeLine:=by rw [List.size_toArray,List.size_toArray];omega
 have hlong:¬(!its.toArray.isEmpty&&Builtin.List.listTooLong (its.toArray.size+its2.toArray.size))=true:=by
  rw [Sj hsz,Bool.and_false]
  exact Bool.false_ne_true
 refine call_meets F.slot_list_extend ⟨_,e,rfl⟩ F.entry_list_extend (F.args_list_extend_2 _ _)
  (AutoSeq1.list_extend_list_list_0 l its.toArray n b its2.toArray n2 hlong (by rw [List.size_toArray];omega) (by omega)) ⟨e,e2,?_⟩
 refine ⟨.non,_,I.lset (its':=its++its2) hH e (by simp) (r.append r2) ?_,rfl,q⟩
 rw [List.length_append]
 omega
noncomputable def DF:V->List V->Hp->VK->Prop:=λ x vs H Q=>∃l xs i k y,x=.ref l/\vs=[.int i]/\H l=some (.lst xs)/\-(2 ^ 63)<=i/\i<2 ^ 63/\seqIndex? i xs.length=some k/\xs[k]? =some y/\Q y (upd H l (.lst (xs.eraseIdx k)))
theorem Iw:WI X "list.pop" DF:=by
 intro pins s σ H x vs v us Q I rx rv h
 obtain ⟨l,xs,i,k,y,rfl,rfl,hH,h1,h2,hk,hy,q⟩:=h
 cases rx
 obtain ⟨u,rfl,ru⟩:=rv.one
 obtain ⟨t,rfl⟩:=ru
 obtain ⟨z,its,n,r,hl,e⟩:=I.lstM hH
 obtain ⟨w,hw,rw'⟩:=r.get hy
 refine call_meets F.slot_list_pop ⟨_,e,rfl⟩ F.entry_list_pop (F.args_list_pop_2 _ _)
  (MeetsSeq.list_pop_at l its.toArray n i t k w (fitsIndex_both h1 h2) (by rw [List.size_toArray,<- hl];exact hk) (by rw [<- Array.getElem?_toList];exact hw) (by rw [List.size_toArray];omega)) ⟨e,?_⟩
 refine ⟨y,_,I.lset (its':=its.eraseIdx k) hH e ?_ (r.eraseIdx k) ?_,rw',q⟩
 ·show its.toArray.eraseIdxIfInBounds k=(its.eraseIdx k).toArray
  rw [List.eraseIdxIfInBounds_toArray]
 ·have:=Tj xs k
  omega
noncomputable def P4:R2:=λ x y H Q=>∃l b xs zs,x=.ref l/\y=.ref b/\H l=some (.lst xs)/\H b=some (.lst zs)/\xs.length+zs.length<=sizeLine/\∀p,H p=none->Q (.ref p) (upd H p (.lst (xs++zs)))
theorem D3:qE X (binaryOp .Add) P4:=by
 intro pins s σ H x y v u Q I rx ry h
 obtain ⟨l,b,xs,zs,rfl,rfl,hH,hB,hz,q⟩:=h
 cases rx
 cases ry
 obtain ⟨z,its,n,r,hl,e⟩:=I.lstM hH
 obtain ⟨z2,its2,n2,r2,hl2,e2⟩:=I.lstM hB
 refine PySem.P.add_list e e2 ?_ (by rw [List.size_toArray,List.size_toArray];omega)
 have ea:its.toArray++its2.toArray=(its++its2).toArray:=by simp
 rw [ea]
 exact ⟨.ref _,_,I.lnew (t':=s.toks) (r.append r2) (by rw [List.length_append];omega),rfl,q _ I.fresh⟩
noncomputable def Oe:R2:=λ x y H Q=>∃l k xs,x=.ref l/\y=.int k/\H l=some (.lst xs)/\-(2 ^ 63)<=k/\k<2 ^ 63/\xs.length * k.toNat<=sizeLine/\
 ∀p,H p=none->Q (.ref p) (upd H p (.lst (List.replicate k.toNat xs).flatten))
theorem len_rep {α:Type}(xs:List α)(k:Nat):(List.replicate k xs).flatten.length=k * xs.length:=by
 induction k with
 | zero=>simp
 | succ k ih=>rw [List.replicate_succ,List.flatten_cons,List.length_append,ih,Nat.succ_mul,Nat.add_comm]
theorem Dh:qE X (binaryOp .Mult) Oe:=by
 intro pins s σ H x y v u Q I rx ry h
 obtain ⟨l,k,xs,rfl,rfl,hH,h1,h2,hz,q⟩:=h
 cases rx
 obtain ⟨t,rfl⟩:=ry
 obtain ⟨z,its,n,r,hl,e⟩:=I.lstM hH
 have hlen:its.toArray.size * k.toNat<=sizeLine:=by rw [List.size_toArray,<- hl];exact hz
 have hcap:¬its.toArray.size * k.toNat > (2 ^ 63 - 1) / 8:=by
  have:(sizeLine:Nat)<=(2 ^ 63 - 1) / 8:=by decide
  omega
 have hfit:¬(!Builtin.List.listFitsIndex k)=true:=by
  rw [fitsIndex_both h1 h2]
  exact Bool.false_ne_true
 have hlong:¬Builtin.List.listTooLong (its.toArray.size * k.toNat)=true:=by
  rw [Sj hlen]
  exact Bool.false_ne_true
 have hnew:List.foldl (λ x1 x2=>x1++x2) #[] (List.replicate (if its.toArray.isEmpty=true then 0 else k.toNat) its.toArray)=(List.replicate k.toNat its).flatten.toArray:=by
  have f0:∀m:Nat,List.foldl (λ x1 x2=>x1++x2) #[] (List.replicate m its.toArray)=(List.replicate m its).flatten.toArray:=λ m=>by
   have:=foldl_rep its m []
   rw [List.nil_append] at this
   exact this
  rw [f0]
  cases its with
  | nil=>simp
  | cons a r'=>rw [if_neg (by simp)]
 refine wpAny_binaryOp_repeat_ref (T := "list") (U := "int") (by decide) ⟨_,e,rfl⟩ (λ s'=>typeIs_int s' k t) noFill_list_mul F.fills_int_mul F.slot_int_rmul repeat_list F.slot_int_index.lookup
  (call_meets F.slot_int_rmul (typeIs_int s k t) F.entry_int_rmul (F.args_int_rmul_2 _ _) (int___rmul___int_list k t l its.toArray n)
   ⟨e,rfl,⟨_,e,rfl⟩,call_meets F.slot_list_mul ⟨_,e,rfl⟩ F.entry_list_mul (F.args_list_mul_2 _ _) (AutoListH.list___mul___list_int_3 l its.toArray n k t hfit hcap hlong) ⟨e,?_⟩⟩)
 rw [hnew]
 exact ⟨.ref _,_,I.lnew (t':=s.toks) (r.rep k.toNat) (by rw [len_rep,Nat.mul_comm];exact hz),rfl,q _ I.fresh⟩
end
section
variable {prog:Program}{w:World}{A:Around}{E:Value->Shared->Prop}{s:Shared}
set_option maxRecDepth 100000 in
end
section
variable {X:Cx}
end
end L2
namespace Att
open PySem PySem.W PySem.Calls PyProof.Rows
theorem OS {P:Params}{h:Heap}:∀(ns:List Int) (vs:List Value),WellAll P h vs (ns.map WData.int)->IntsAre vs ns:=by
 intro ns
 induction ns with
 | nil=>
  intro vs w
  rw [List.map_nil] at w
  cases w
  exact .nil
 | cons n ns ih=>
  intro vs w
  rw [List.map_cons] at w
  cases w with
  | cons a b=>
   cases a
   exact .cons _ _ (ih _ b)
theorem MU {l:OpenLaw}{n:Nat}(hn:l.most=some n){P:Params}{h:Heap}{args:List WData}{vals:List Value}
  (hpre:l.row.toRowW.claim.pre args=true)(hwl:WellAll P h vals args):
  ∃a vs ns,vals=[Value.ref a]/\args=[WData.list (ns.map WData.int)]/\h.get? a=some { cls:=.type "list",data:=.seq vs.toArray }/\IntsAre vs ns/\ns.length<=n:=by
 have hsh:WShape.hasAll [] args [.list .int]=true:=(pre_splitW hpre).1
 have hc:l.pre.holds [] { args:=args }=true:=(pre_splitW hpre).2
 obtain ⟨d,r,rfl,h1,h2⟩:=hasAllW_cons hsh
 obtain rfl:=hasAllW_nil h2
 obtain ⟨xs,rfl,h3⟩:=hasW_list h1
 obtain ⟨ns,rfl⟩:=items_int h3
 have hlen:ns.length<=n:=by
  unfold OpenLaw.pre at hc
  have h4:(WTm.not (.lt (.lit (.int (n:Int))) (.len (.arg 0)))).holds [] { args:=[.list (ns.map .int)] }=true:=by
   have h4:=(holds_andW hc).1
   rw [hn] at h4
   exact h4
  have h5:=condW_of h4 (w_not (w_lt w_lit (w_len_list (w_arg rfl))))
  rw [List.length_map] at h5
  refine Nat.le_of_not_lt λ q=>?_
  have q':(n:Int)<((ns.length:Nat):Int):=by omega
  first
   | (rw [decide_eq_true q'] at h5;exact absurd h5 (by decide))
   | (simp at h5;omega)
 cases hwl with
 | cons w1 w2=>
  cases w2
  cases w1 with
  | list ho hall=>exact ⟨_,_,ns,rfl,rfl,ho,OS ns _ hall,hlen⟩
theorem La (l:OpenLaw)(args:List WData):l.row.toRowW.claim.post args (.bool true) args=true:=
 postW_of (r:=l.row.toRowW) (X:=(true==true))
  (show WShape.has [] (.bool true) .bool=true by first | rfl | decide | simp [WShape.has,WShape.arms,WShape.armsAll])
  (show (WTm.eq .res (.lit (.bool true))).value [] { args:=args,res:=some (.bool true),after:=args }=some (.bool (true==true)) from w_eq_bool (w_res rfl) w_lit) rfl
theorem Mb {l:OpenLaw}{n:Nat}{q:Program}{loose:List Str}{XP:(Str->Option Value)->Heap->Prop}{YP:World->Heap->Prop}{d:DefRec}
  (hn:l.most=some n)(hdf:d.params.defaults=[])
  (call:∀(w:World) (s₀ s₁:Shared) (mg mb:Str->Option Value) (fa:Addr) (o:Obj) (pm cd doc:Value) (a:Addr) (vs:List Value) (ns:List Int),
   Ground q loose [] XP w s₀ mg mb s₁.heap->YP w s₁.heap->
   s₁.heap.get? fa=some o->o.data=.func (docDef d.name d.params d.body d.scope pm cd doc)->s₁.heap.CodeRec cd d.name->mg d.name=some (.ref fa)->
   s₁.heap.get? a=some { cls:=.type "list",data:=.seq vs.toArray }->IntsAre vs ns->ns.length<=n->s₁.gens=#[]->
   codeAny (model l.prog w) callerA (.call (.ref fa) ⟨[.ref a],[]⟩) (λ r s'=>r=.ok (.ret (.bool true))/\OldK s₁.heap s'.heap/\s'.os=s₁.os/\AllBare s'.gens) s₁):
  WalkO q loose XP YP l.row.toRowW d [] (λ f vs=>PySem.call f vs):=by
 intro w s₀ s₁ mg mb G Y fa o pm cd doc dV kV ho hd hcd hD hmg hg args vals as hpre hlay hrd hwl hlo
 obtain rfl:dV=.none:=Dflts.none hD hdf
 obtain rfl:kV=.none:=Dflts.noKw hD
 obtain ⟨a,vs,ns,rfl,rfl,hobj,hints,hlen⟩:=MU hn hpre hwl
 refine enter_call (codeAny_mono (call w s₀ s₁ mg mb fa o pm cd doc a vs ns G Y ho (fd_plain hd) hcd hmg hobj hints hlen hg) λ r s' hq=>?_)
 obtain ⟨rfl,h2,h3,h4⟩:=hq
 exact ⟨.inl ⟨.bool true,.bool true,[],rfl,λ _=>rfl,.bool true,La l _,λ _=>⟨List.Pairwise.nil,λ _ hm=>(nomatch hm)⟩⟩,h2,h3,h4⟩
section
variable {prog:Program}{w:World}{A:Around}{E:Value->Shared->Prop}{s:Shared}{K:Frag}
end
end Att
namespace L2
open PySem PySem.Spec PyProof.Rows
theorem TC:∀{vs:List Value} {ns:List Int},IntsAre vs ns->Vals (ns.map V.int) vs
 | _,_,.nil=>.nil
 | _,_,.cons n t h=>.cons ⟨t,rfl⟩ (TC h)
noncomputable abbrev Ow {K:Frag}{h:Heap}(_:K.In h):Frag:=K
noncomputable def ZV (s:Stmt):Arguments:=match s with
 | .FunctionDef _ a _ _ _ _ _ _ _ _=>a
 | _=>{ posonlyargs:=[],args:=[],vararg:=none,kwonlyargs:=[],kw_defaults:=[],kwarg:=none,defaults:=[] }
noncomputable def yG (s:Stmt):List Stmt:=match s with
 | .FunctionDef _ _ b _ _ _ _ _ _ _=>b
 | _=>[]
noncomputable def qk (s:Stmt):Scope:=match s with
 | .FunctionDef _ _ _ _ _ _ sc _ _ _=>sc
 | _=>{ kind:=.function,names:=[],isGenerator:=false,isCoroutine:=false }
noncomputable abbrev wK:wM:=λ _ _ _ _ _ _=>False
noncomputable abbrev E0:XK:=λ _ _ _=>False
theorem Ce {X:Cx}:Passes wK X E0:=λ _ _ _ _ _ _ _ h=>h.elim
structure qF (K:Frag)(x qual:Str)(st:Stmt)(f:Addr)(fd:FuncData):Prop where
 ex:∃(oc:Value) (od:Option Addr) (kV doc pm:Value) (an:Option Addr) (cdv ct:Value) (osl:Array (Option Value)),
  fd=PySem.W.fnOf x qual (ZV st) (yG st) (qk st) .none kV doc pm an cdv ct/\K.lookup f=some ⟨oc,od,.func fd,osl⟩/\PySem.W.codeIn K cdv qual=true
 kp:PySem.W.keepIn K (.ref f)=true
section
variable {P:Program}{w:World}{K:Frag}{mg:Str->Option Value}{base:Heap}
theorem qF.ok {x qual:Str}{st:Stmt}{f:Addr}{fd:FuncData}{N ps:List Str}{k:Nat}{sp:Sp}(F:qF K x qual st f fd)(S:qR N ps (qk st))(len:∀vs H Q E,sp vs H Q E->vs.length=ps.length)
  (hbody:∀(cdv:Value) (A:Around) (outer:List Env) (s:Shared) (H:Hp) (vs:List V) (Q:VK) (E:XK),jn k (A.deeper (envOfC qual (qk st) s.heap.objs.size f cdv))->sp vs H Q E->
   ∃t,yi (wc wK P w K mg base N qual (qk st) f cdv A outer s H E).nox (yG st) t/\t { nx:=λ _ H'=>Q .non H',rt:=Q } (start N vs) H):yt P w K mg base wK (k+1) f fd ps sp:=by
 obtain ⟨oc,od,kV,doc,pm,an,cdv,ct,osl,rfl,lk,hcd⟩:=F.ex
 refine VH lk hcd S len λ A outer s H vs Q E hr hsp=>?_
 obtain ⟨t,h,q⟩:=hbody cdv A outer s H vs Q E hr hsp
 exact ⟨t,h.nox,q⟩
theorem qF.binds {x qual:Str}{st:Stmt}{f:Addr}{fd:FuncData}{ps:List Str}(F:qF K x qual st f fd)
  (h:∀(kV doc pm:Value) (an:Option Addr) (cdv ct:Value) (us:List Value),us.length=ps.length->bindArgs (PySem.W.fnOf x qual (ZV st) (yG st) (qk st) .none kV doc pm an cdv ct) ⟨us,[]⟩=pure (ps.zip us)):Binds K fd ps []:=by
 obtain ⟨oc,od,kV,doc,pm,an,cdv,ct,osl,rfl,lk,hcd⟩:=F.ex
 exact .all (h kV doc pm an cdv ct)
theorem DQ {x qual:Str}{st:Stmt}{f:Addr}{oc:Value}{od an:Option Addr}{osl:Array (Option Value)}{kV doc pm cdv ct:Value}(l:K.lookup f=some ⟨oc,od,.func (PySem.W.fnOf x qual (ZV st) (yG st) (qk st) .none kV doc pm an cdv ct),osl⟩)
  (c:PySem.W.codeIn K cdv qual=true)(k:PySem.W.keepIn K (.ref f)=true):qF K x qual st f (PySem.W.fnOf x qual (ZV st) (yG st) (qk st) .none kV doc pm an cdv ct):=⟨⟨oc,od,kV,doc,pm,an,cdv,ct,osl,rfl,l,c⟩,k⟩
end
section
variable {X:Cx}
end
section
variable {κ:Type} [DecidableEq κ]
noncomputable def kP (kvs:List (κ × V))(k:κ):Option V:=(kvs.find? λ kv=>decide (kv.1=k)).map (·.2)
noncomputable def putK (kvs:List (κ × V))(k:κ)(v:V):List (κ × V):=
 if (kvs.any λ kv=>decide (kv.1=k))=true then kvs.map (λ kv=>if kv.1=k then (kv.1,v) else kv) else kvs++[(k,v)]
theorem XJ {p:κ × V}{r:List (κ × V)}{k:κ}(e:p.1=k):kP (p::r) k=some p.2:=by simp [kP,List.find?_cons,e]
theorem XT {p:κ × V}{r:List (κ × V)}{k:κ}(e:¬p.1=k):kP (p::r) k=kP r k:=by simp [kP,List.find?_cons,e]
theorem Sr (k:κ):∀kvs:List (κ × V),(kvs.any λ kv=>decide (kv.1=k))=(kP kvs k).isSome
 | []=>rfl
 | p::r=>by
  rw [List.any_cons]
  by_cases e:p.1=k
  ·simp only [XJ e,decide_eq_true e,Bool.true_or,Option.isSome_some]
  ·rw [XT e,decide_eq_false e,Bool.false_or];exact Sr k r
theorem N0 (kvs:List (κ × V))(k:κ)(v:V):(putK kvs k v).length<=kvs.length+1:=by
 unfold putK
 split
 ·rw [List.length_map];omega
 ·rw [List.length_append,List.length_cons,List.length_nil];omega
theorem I9 {kvs:List (κ × V)}{k:κ}(v:V)(h:kP kvs k=none):putK kvs k v=kvs++[(k,v)]:=by
 unfold putK
 rw [Sr,h]
 exact if_neg (by decide)
theorem KV.val {kvs:List (κ × V)}{vs:List (κ × Value)}(r:KV kvs vs)(k:κ):Wn (kP kvs k) (valueAt vs k):=by
 unfold KV at r
 induction r with
 | nil=>exact True.intro
 | @cons p q ps qs h t ih=>
  obtain ⟨h1,h2⟩:=h
  by_cases e:p.1=k
  ·have e':q.1=k:=h1.symm.trans e
   have b:valueAt (q::qs) k=some q.2:=by simp [valueAt,List.find?_cons,e']
   rw [XJ e,b];exact h2
  ·have e':¬q.1=k:=λ z=>e (h1.trans z)
   have b:valueAt (q::qs) k=valueAt qs k:=by simp [valueAt,List.find?_cons,e']
   rw [XT e,b];exact ih
theorem KV.any {kvs:List (κ × V)}{vs:List (κ × Value)}(r:KV kvs vs)(k:κ):(kvs.any λ kv=>decide (kv.1=k))=vs.any λ kv=>decide (kv.1=k):=by
 unfold KV at r
 induction r with
 | nil=>rfl
 | cons h t ih=>rw [List.any_cons,List.any_cons,ih,h.1]
theorem KV.repl {kvs:List (κ × V)}{vs:List (κ × Value)}(r:KV kvs vs)(k:κ){y:V}{u:Value}(ry:RelV y u):
  KV (kvs.map λ kv=>if kv.1=k then (kv.1,y) else kv) (vs.map λ kv=>if kv.1=k then (kv.1,u) else kv):=by
 unfold KV at r ⊢
 induction r with
 | nil=>exact .nil
 | @cons p q ps qs h t ih=>
  rw [List.map_cons,List.map_cons]
  refine .cons ?_ ih
  obtain ⟨h1,h2⟩:=h
  by_cases e:p.1=k
  ·rw [if_pos e,if_pos (h1.symm.trans e)];exact ⟨h1,ry⟩
  ·rw [if_neg e,if_neg (λ z=>e (h1.trans z))];exact ⟨h1,h2⟩
theorem KV.put {kvs:List (κ × V)}{vs:List (κ × Value)}(r:KV kvs vs)(k:κ){y:V}{u:Value}(ry:RelV y u):KV (putK kvs k y) (stored vs k u):=by
 unfold putK stored
 rw [r.any k]
 by_cases e:(vs.any λ kv=>decide (kv.1=k))=true
 ·rw [if_pos e,if_pos e];exact r.repl k ry
 ·rw [if_neg e,if_neg e];exact Paired.snoc r ⟨rfl,ry⟩
theorem KV.length {kvs:List (κ × V)}{vs:List (κ × Value)}(r:KV kvs vs):kvs.length=vs.length:=Paired.length r
end
theorem C4 {P:Program}{w:World}{k:Key}{u:Value}(r:RelV (kV k) u):(Zm P w).is k u=true:=by
 cases k with
 | inl i=>obtain ⟨t,e⟩:=(show ∃t,u=Value.int i t from r);subst e;exact Ma P w i t
 | inr x=>obtain ⟨t,e⟩:=(show ∃t,u=Value.str x t from r);subst e;exact NY P w x t
section
variable {P:Program}{w:World}{H:Hp}{h:Heap}{a:Addr}
theorem C7 {u:HO}(ok:zZ P w H h)(e:Rd H a u):qN P w H h a u:=e.ok ok
theorem Cz {kvs:List (Key × V)}(ok:zZ P w H h)(e:Rd H a (.dK kvs)):kvs.length<=sizeLine/\(a==sysModules)=false/\∃vs,KV kvs vs/\h.DictOf (Zm P w) a vs:=
 show qN P w H h a (.dK kvs) from C7 ok e
theorem Py {kvs:List (Key × V)}(ok:zZ P w H h)(e:H a=some (.dK kvs)):kvs.length<=sizeLine/\(a==sysModules)=false/\∃vs,KV kvs vs/\h.DictOf (Zm P w) a vs:=Cz ok (.inl e)
end
section
variable {X:Cx}{pins:List (Addr × Obj)}{σ:St}{H:Hp}{s:Shared}{a:Addr}{y v:V}{u r:Value}{o:Option V}{A:Around}{E:Value->Shared->Prop}
theorem Inv.big (I:Inv X pins σ H s):sysModules<s.heap.objs.size:=by
 have h:mainGlobals<s.heap.objs.size:=(I.mod.glob.keeps I.bk).lt
 exact Nat.lt_trans (by decide) h
theorem Eg {h':Heap}{t':Nat}{ob:HO}(I:Inv X pins σ H s)(mu:Ys (H a))(hs:Heap.SameBut a s.heap h')(he:∃q,h'.get? a=some q)(new:qN X.prog X.w (upd H a ob) h' a ob):
  Inv X pins σ (upd H a ob) { s with heap:=h',toks:=t' }:=
 I.write (x:=a) (e:=a) mu (.inl rfl) (λ b q hb z=>(hs.2 b hb).trans z) he new
theorem E3 {P:Program}{w:World}{H':Hp}{h':Heap}{kvs:List (Key × V)}{vs:List (Key × Value)}(z:kvs.length<=sizeLine)(hd:(a==sysModules)=false)(rel:KV kvs vs)(dd:h'.DictOf (Zm P w) a vs):
  qN P w H' h' a (.dK kvs):=⟨z,hd,vs,rel,dd⟩
end
section
variable {X:Cx}{pins:List (Addr × Obj)}{σ:St}{H:Hp}{s:Shared}{a:Addr}{kvs:List (Key × V)}{k:Key}{u:Value}{A:Around}{E:Value->Shared->Prop}
end
section
variable {X:Cx}{o i e value:Expr}{pos pos' tpos:Pos}{td ty tv:TE}
end
theorem Ih {P:Program}{w:World}{H:Hp}(h:Heap)(hb:sysModules<h.objs.size):qN P w H (h.push { cls:=.type "dict",data:=.dict #[] }) h.objs.size (.dK []):=
 ⟨Nat.zero_le _,beq_eq_false_iff_ne.mpr (Ne.symm (Nat.ne_of_lt hb)),[],.nil,Heap.DictOf.new h⟩
noncomputable def EF:TE:=λ _ H Q=>∀p,H p=none->Q (.ref p) (upd H p (.dK []))
section
variable {X:Cx}{pos:Pos}
theorem Ib:PE X (.Dict [] [] pos) EF:=λ pins s σ H Q I h=>
 wpAny_Dict_empty ⟨.ref s.heap.objs.size,_,I.laid (a:=s.heap.objs.size) (o:=.dK []) (t':=s.toks) (λ _ _ q=>Heap.get?_push_of_some _ q) (Nat.le_refl _) (Ih s.heap I.big),rfl,h _ (I.hok.fresh (Nat.le_refl _))⟩
end
section
variable {X:Cx}{pins:List (Addr × Obj)}{σ:St}{H:Hp}{s:Shared}{a:Addr}{y d:V}{u r:Value}{o:Option V}{A:Around}{E:Value->Shared->Prop}
end
section
variable {X:Cx}{o e f:Expr}{apos cpos:Pos}{td ty tx:TE}
end
section
variable {X:Cx}{pins:List (Addr × Obj)}{σ:St}{H:Hp}{s:Shared}{a:Addr}{kvs:List (Key × V)}{A:Around}{E:Value->Shared->Prop}
end
section
variable {X:Cx}{pins:List (Addr × Obj)}{σ:St}{H:Hp}{s:Shared}{a:Addr}{y:V}{u:Value}{A:Around}{E:Value->Shared->Prop}
end
noncomputable def yN (env:Env):List (Str × NameKind)->List (Str × Addr)->List (Str × Addr)
 | [],acc=>acc
 | (n,k)::r,acc=>yN env r (if k==.free then (n,(env.cells.lookup n).getD 0)::acc else acc)
theorem IJ {env:Env}(f:Str × NameKind->List (Str × Addr)->Sem (ForInStep (List (Str × Addr))))
  (hf:∀n k r,f (n,k) r=if (k==NameKind.free)=true then (do let c <- cellOf env n;pure (ForInStep.yield ((n,c)::r))) else pure (ForInStep.yield r)):
  ∀(names:List (Str × NameKind)) (acc:List (Str × Addr)),(∀y∈names,y.2=.free->∃c,env.cells.lookup y.1=some c)->(forIn names acc f:Sem (List (Str × Addr)))=pure (yN env names acc):=by
 intro names
 induction names with
 | nil=>intro acc _;rfl
 | cons y r ih=>
  intro acc hh
  obtain ⟨n,k⟩:=y
  rw [List.forIn_cons,hf]
  unfold yN
  have hr:=ih (if k==.free then (n,(env.cells.lookup n).getD 0)::acc else acc) (λ y hy=>hh y (List.mem_cons_of_mem _ hy))
  by_cases hk:k=.free
  ·subst hk
   obtain ⟨c,hc⟩:=hh (n,.free) List.mem_cons_self rfl
   have e:cellOf env n=pure c:=by unfold cellOf;rw [hc]
   have hc':List.lookup n env.cells=some c:=hc
   simp only [e,hc',Option.getD_some,beq_self_eq_true,if_true] at hr ⊢
   exact hr
  ·have hb:(k==NameKind.free)=false:=by simpa using hk
   simp only [hb,Bool.false_eq_true,if_false] at hr ⊢
   exact hr
theorem U4 {scope:Scope}{env:Env}(h:∀y∈scope.names,y.2=.free->∃c,env.cells.lookup y.1=some c):closureFor scope env=pure (yN env scope.names []):=by
 unfold closureFor
 dsimp only
 rw [IJ _ (λ n k r=>rfl) scope.names [] h]
 rfl
theorem Qd {env:Env}{n:Str}{c:Addr}:∀(names:List (Str × NameKind)) (acc:List (Str × Addr)),(n,c)∈yN env names acc->(n,c)∈acc∨((n,NameKind.free)∈names/\c=(env.cells.lookup n).getD 0)
 | [],acc,h=>.inl h
 | (x,k)::r,acc,h=>by
  unfold yN at h
  rcases Qd r _ h with h | ⟨h1,h2⟩
  ·by_cases hk:k=.free
   ·subst hk
    simp only [beq_self_eq_true,if_true] at h
    rcases List.mem_cons.mp h with e | h
    ·cases e;exact .inr ⟨List.mem_cons_self,rfl⟩
    ·exact .inl h
   ·have hb:(k==NameKind.free)=false:=by simpa using hk
    simp only [hb,Bool.false_eq_true,if_false] at h
    exact .inl h
  ·exact .inr ⟨List.mem_cons_of_mem _ h1,h2⟩
theorem Kj {env:Env}{n:Str}:∀(names:List (Str × NameKind)) (acc:List (Str × Addr)),((n,NameKind.free)∈names∨(acc.lookup n).isSome=true)->((yN env names acc).lookup n).isSome=true
 | [],acc,h=>by
  rcases h with h | h
  ·cases h
  ·exact h
 | (x,k)::r,acc,h=>by
  unfold yN
  refine Kj r _ ?_
  rcases h with h | h
  ·rcases List.mem_cons.mp h with e | h
   ·cases e
    right
    simp
   ·exact .inl h
  ·right
   by_cases hk:(k==NameKind.free)=true
   ·rw [if_pos hk,List.lookup_cons]
    cases hx:n==x
    ·exact h
    ·rfl
   ·rw [if_neg hk];exact h
theorem GA {n:Str}{c:Addr}:∀(names:List (Str × NameKind)) (k:Nat) (acc:List (Str × Addr)),(n,c)∈cellsFrom k names acc->(n,c)∈acc∨(k<=c/\(n,NameKind.cell)∈names)
 | [],_,_,h=>.inl h
 | (x,q)::r,k,acc,h=>by
  unfold cellsFrom at h
  by_cases hq:(q==NameKind.cell)=true
  ·rw [if_pos hq] at h
   have hq':q=.cell:=by simpa using hq
   rcases GA r _ _ h with h | ⟨h1,h2⟩
   ·rcases List.mem_cons.mp h with e | h
    ·cases e;subst hq';exact .inr ⟨Nat.le_refl _,List.mem_cons_self⟩
    ·exact .inl h
   ·exact .inr ⟨by omega,List.mem_cons_of_mem _ h2⟩
  ·rw [if_neg hq] at h
   rcases GA r _ _ h with h | ⟨h1,h2⟩
   ·exact .inl h
   ·exact .inr ⟨h1,List.mem_cons_of_mem _ h2⟩
theorem Gv:∀(names:List (Str × NameKind)) (k:Nat) (acc:List (Str × Addr)),(∀n c,(n,c)∈acc->c<k)->(∀n n' c,(n,c)∈acc->(n',c)∈acc->n=n')->∀n n' c,(n,c)∈cellsFrom k names acc->(n',c)∈cellsFrom k names acc->n=n'
 | [],_,_,_,hi,n,n',c,h,h'=>hi n n' c h h'
 | (x,q)::r,k,acc,hl,hi,n,n',c,h,h'=>by
  unfold cellsFrom at h h'
  by_cases hq:(q==NameKind.cell)=true
  ·rw [if_pos hq] at h h'
   refine Gv r (k+1) ((x,k)::acc) (λ m d hm=>?_) (λ m m' d hm hm'=>?_) n n' c h h'
   ·rcases List.mem_cons.mp hm with e | hm
    ·cases e;exact Nat.lt_succ_self _
    ·exact Nat.lt_succ_of_lt (hl m d hm)
   ·rcases List.mem_cons.mp hm with e | hm
    ·rcases List.mem_cons.mp hm' with e' | hm'
     ·cases e;cases e';rfl
     ·cases e;exact absurd (hl m' _ hm') (Nat.lt_irrefl _)
    ·rcases List.mem_cons.mp hm' with e' | hm'
     ·cases e';exact absurd (hl m _ hm) (Nat.lt_irrefl _)
     ·exact hi m m' d hm hm'
  ·rw [if_neg hq] at h h'
   exact Gv r k acc hl hi n n' c h h'
theorem Gd {n:Str}{c:Addr}:∀(names:List (Str × NameKind)) (h:Heap) (acc:List (Str × Addr)),(n,c)∈cellsFrom h.objs.size names acc->(n,c)∈acc∨(pushCells h names).IsCell c none
 | [],_,_,q=>.inl q
 | (x,k)::r,h,acc,q=>by
  unfold cellsFrom at q
  unfold pushCells
  by_cases hk:(k==NameKind.cell)=true
  ·rw [if_pos hk] at q ⊢
   have:=Gd r (h.push { cls:=.type "cell",data:=.cell none }) ((x,h.objs.size)::acc) (by rw [Heap.size_push];exact q)
   rcases this with z | z
   ·rcases List.mem_cons.mp z with e | z
    ·cases e
     exact .inr ⟨_,pushCells_keeps r _ _ _ (Heap.get?_push_size _ rfl),rfl⟩
    ·exact .inl z
   ·exact .inr z
  ·rw [if_neg hk] at q ⊢
   exact Gd r h acc q
theorem OG {M:Model}{A:Around}{E:Value->Shared->Prop}{s:Shared}{scope:Scope}{globals:Addr}{cl:List (Str × Addr)}{qual:Str}{env:Env}{Q:Env->Shared->Prop}
  (h:Q { scope,locals:=s.heap.objs.size,globals,cells:=cellsFrom (s.heap.objs.size+1) scope.names cl,qual,func:=none,code:=env.code,frame:=env.frame,builtins:=env.builtins }
   { s with heap:=pushCells (s.heap.push { cls:=.type "dict",data:=.dict #[] }) scope.names }):
  wpAny M A (newFunctionEnv scope globals cl [] qual none .none (some env)) Q E s:=by
 simp only [newFunctionEnv,Option.isSome_some,if_true]
 refine wpAny_bind (wpAny_alloc ?_)
 refine wpAny_bind (wpAny_layCells _ (λ name kind cells=>by cases hkc:kind==NameKind.cell<;>simp [hkc]) _ _ _ _ ?_)
 rw [show ({ s with heap:=s.heap.push { cls:=.type "dict",data:=.dict #[] } }:Shared).heap.objs.size=s.heap.objs.size+1 from Heap.size_push ..]
 rw [List.forIn_nil]
 exact wpAny_bind (wpAny_pure (wpAny_pure h))
noncomputable def jg (X:Cx)(N:List Str)(scope:Scope)(s:Shared)(H:Hp)(fp:List Addr)(xe:Value->Shared->Prop):Cx where
 prog:=X.prog
 w:=X.w
 K:=X.K
 mg:=X.mg
 base:=X.base
 A:=X.A
 N:=N
 s0:=s
 H0:=H
 env:={ scope:=relabel scope X.env,locals:=s.heap.objs.size,globals:=X.env.globals,cells:=cellsFrom (s.heap.objs.size+1) scope.names (yN X.env scope.names []),qual:=X.env.qual,func:=none,code:=X.env.code,frame:=X.env.frame,builtins:=X.env.builtins }
 outer:=X.stack
 stack:=X.stack
 ex:=fp
 fn:=λ x=>scope.names.lookup x==some .local || scope.names.lookup x==some .cell
 calm:=X.calm
 pn:=[]
 xe:=xe
structure gC (X:Cx)(scope:Scope):Prop where
 kind:scope.kind=.function
 nd:(scope.names.map (·.1)).Nodup
 free:∀y∈scope.names,y.2=.free->X.env.kindOf y.1=some .cell∨X.env.kindOf y.1=some .free
theorem QA {α:Type}{x:Str}{k:α}:∀{l:List (Str × α)},(l.map (·.1)).Nodup->(x,k)∈l->l.lookup x=some k
 | (y,q)::r,nd,h=>by
  rw [List.map_cons,List.nodup_cons] at nd
  rw [List.lookup_cons]
  rcases List.mem_cons.mp h with e | h
  ·cases e;simp
  ·have ne:(x==y)=false:=by
    rw [beq_eq_false_iff_ne]
    intro e
    apply nd.1
    rw [<- e]
    exact List.mem_map_of_mem (f:=(·.1)) h
   rw [ne]
   exact QA nd.2 h
theorem Gg {scope:Scope}{env:Env}{x:Str}{k:NameKind}(h:(relabel scope env).names.lookup x=some k):scope.names.lookup x=some k∨(k=.cell/\scope.names.lookup x=some .free/\env.kindOf x=some .cell):=by
 unfold relabel at h
 dsimp only at h
 generalize scope.names=names at h ⊢
 induction names with
 | nil=>cases h
 | cons y r ih=>
  obtain ⟨n,q⟩:=y
  rw [List.map_cons] at h
  have split:(if (q==NameKind.free&&env.scope.kind==.function&&env.kindOf n==some .cell)=true then (n,NameKind.cell) else (n,q)).1=n:=by split<;>rfl
  rw [List.lookup_cons] at h ⊢
  dsimp only at h
  rw [split] at h
  cases hx:x==n with
  | false=>rw [hx] at h;exact ih h
  | true=>
   rw [hx] at h
   have e:x=n:=beq_iff_eq.mp hx
   subst e
   by_cases hc:(q==NameKind.free&&env.scope.kind==.function&&env.kindOf x==some .cell)=true
   ·rw [if_pos hc] at h
    simp only [Bool.and_eq_true,beq_iff_eq] at hc
    cases h
    right
    exact ⟨rfl,by rw [hc.1.1],hc.2⟩
   ·rw [if_neg hc] at h
    left
    exact h
section
variable {X:Cx}{pins:List (Addr × Obj)}{σ:St}{H:Hp}{s:Shared}{scope:Scope}
theorem Inv.capt (I:Inv X pins σ H s)(S:gC X scope){x:Str}(h:(x,NameKind.free)∈scope.names):∃c,X.env.cells.lookup x=some c:=I.ok.has x (S.free _ h rfl)
theorem JV (I:Inv X pins σ H s)(S:gC X scope){x:Str}{c:Addr}(h:(x,c)∈cellsFrom (s.heap.objs.size+1) scope.names (yN X.env scope.names [])):
  ((x,NameKind.free)∈scope.names/\X.env.cells.lookup x=some c/\c<s.heap.objs.size)∨((x,NameKind.cell)∈scope.names/\s.heap.objs.size<c/\∀h0:Heap,h0.objs.size=s.heap.objs.size+1->(pushCells h0 scope.names).IsCell c none):=by
 rcases GA _ _ _ h with h1 | ⟨h1,h2⟩
 ·left
  rcases Qd _ _ h1 with z | ⟨z,e⟩
  ·cases z
  ·obtain ⟨c',hc⟩:=I.capt S z
   rw [hc] at e
   have e':c=c':=e
   subst e'
   obtain ⟨v,q⟩:=I.cell x c hc
   exact ⟨z,hc,q.lt⟩
 ·right
  refine ⟨h2,h1,λ h0 e0=>?_⟩
  have h':=h
  rw [<- e0] at h'
  rcases Gd _ h0 _ h' with z | z
  ·exfalso
   rcases Qd _ _ z with z | ⟨z,e⟩
   ·cases z
   ·obtain ⟨c',hc⟩:=I.capt S z
    rw [hc] at e
    have e':c=c':=e
    subst e'
    obtain ⟨v,q⟩:=I.cell x c hc
    exact Nat.lt_irrefl _ (Nat.lt_of_lt_of_le (Nat.lt_succ_of_lt q.lt) h1)
  ·exact z
theorem Iq {N:List Str}{fp:List Addr}{xe:Value->Shared->Prop}{σ':St}(I:Inv X pins σ H s)(S:gC X scope)(hf:∀b∈fp,yP X pins H b)(hfl:∀b∈fp,b<s.heap.objs.size)(hl:σ'.length=N.length)
  (hs:∀(j:Nat) (x:Str) (v:V),N[j]? =some x->σ'[j]? =some (some v)->(x,NameKind.free)∈scope.names/\∃i:Nat,X.N[i]? =some x/\σ[i]? =some (some v)):
  Inv (jg X N scope s H fp xe) [] σ' H { s with heap:=pushCells (s.heap.push { cls:=.type "dict",data:=.dict #[] }) scope.names }:=by
 have hk:∀b o,s.heap.get? b=some o->(pushCells (s.heap.push { cls:=.type "dict",data:=.dict #[] }) scope.names).get? b=some o:=λ b o e=>pushCells_keeps _ _ _ _ (Heap.get?_push_of_some _ e)
 have hsz:(s.heap.push { cls:=.type "dict",data:=.dict #[] }).objs.size=s.heap.objs.size+1:=Heap.size_push ..
 have lkm:∀{x:Str} {c:Addr},(jg X N scope s H fp xe).env.cells.lookup x=some c->(x,c)∈cellsFrom (s.heap.objs.size+1) scope.names (yN X.env scope.names []):=λ h=>PySem.mem_of_lookup h
 have lkc:∀{x:Str},((jg X N scope s H fp xe).env.kindOf x=some .cell∨(jg X N scope s H fp xe).env.kindOf x=some .free)->∃c,(jg X N scope s H fp xe).env.cells.lookup x=some c:=λ {x} h=>by
  refine Option.isSome_iff_exists.mp (PySem.W.cellsFrom_some _ _ _ ?_)
  have two:scope.names.lookup x=some .cell∨scope.names.lookup x=some .free:=by
   rcases h with h | h
   ·rcases Gg h with z | ⟨_,z,_⟩
    ·exact .inl z
    ·exact .inr z
   ·rcases Gg h with z | ⟨z,_⟩
    ·exact .inr z
    ·cases z
  rcases two with z | z
  ·exact .inl z
  ·exact .inr (Kj _ _ (.inl (PySem.mem_of_lookup z)))
 have exP:∀b∈fp,∀x c,(jg X N scope s H fp xe).env.cells.lookup x=some c->c≠b:=λ b hb x c e=>by
  rcases JV I S (lkm e) with ⟨_,q,_⟩ | ⟨_,q,_⟩
  ·exact (hf b hb).2.2.2.2.1 x c q
  ·intro z;subst z;exact Nat.lt_irrefl _ (Nat.lt_trans q (hfl _ hb))
 refine ⟨⟨I.ok.mod,S.kind,I.ok.glob,I.ok.blt,Nat.le_refl _,λ x y c h1 h2=>?_,λ x h=>lkc h,λ x c hx h=>?_,I.ok.hd,I.ok.frames,.inl rfl,λ b hb=>⟨?_,exP b hb⟩,I.bs,Nat.le_trans I.ok.bsz I.sz,λ b o e hb=>?_,λ b hb z=>?_,I.stack,I.stkFree⟩,
  rfl,I.bare,Un.kept hk,⟨λ _=>none,?_,λ j x v h1 h2 h3=>?_⟩,λ x c e=>?_,I.fresh,λ x c e=>?_,λ p hp=>?_,I.hok.kept hk,hl⟩
 ·refine Gv _ _ _ (λ n c h=>?_) (λ n n' c h h'=>?_) x y c (lkm h1) (lkm h2)
  ·rcases Qd _ _ h with z | ⟨z,e⟩
   ·cases z
   ·obtain ⟨c',hc⟩:=I.capt S z
    rw [hc] at e
    have e':c=c':=e
    subst e'
    obtain ⟨v,q⟩:=I.cell n c hc
    exact Nat.lt_succ_of_lt q.lt
  ·rcases Qd _ _ h with z | ⟨z,e⟩
   ·cases z
   ·rcases Qd _ _ h' with z' | ⟨z',e'⟩
    ·cases z'
    ·obtain ⟨d,hd⟩:=I.capt S z
     obtain ⟨d',hd'⟩:=I.capt S z'
     rw [hd] at e
     rw [hd'] at e'
     have e1:c=d:=e
     have e2:c=d':=e'
     subst e1
     subst e2
     exact I.ok.inj _ _ _ hd hd'
 ·rcases JV I S (lkm h) with ⟨z,_,_⟩ | ⟨_,z,_⟩
  ·exfalso
   have e1:=QA S.nd z
   have hx':(scope.names.lookup x==some .local || scope.names.lookup x==some .cell)=true:=hx
   rw [e1] at hx'
   cases hx'
  ·exact Nat.le_of_lt z
 ·exact Nat.ne_of_lt (hfl b hb)
 ·obtain ⟨_,_,_,h4,_⟩:=hf b hb
  rcases h4 with h4 | h4
  ·exact I.ok.noex b o e h4
  ·exact absurd (Nat.lt_of_lt_of_le (Heap.lt_size e) (Nat.le_trans I.ok.bsz h4)) (Nat.lt_irrefl _)
 ·obtain ⟨_,h2,h3,_⟩:=hf b hb
  rcases List.mem_cons.mp (I.stkSub b z) with e | e
  ·exact h2 e
  ·exact h3 e
 ·exact (Heap.Ns.new s.heap (.type "dict")).keeps (pushCells_keeps _ _)
 ·obtain ⟨hx,i,e1,e2⟩:=hs j x v h1 h2
  obtain ⟨m,hn,hl'⟩:=I.loc
  have vis:JD X.env.scope x:=.inr (S.free _ hx rfl)
  obtain ⟨u,r,lk⟩:=hl' i x v e1 e2 vis
  refine ⟨u,r,.inr ?_⟩
  have hkf:(jg X N scope s H fp xe).env.kindOf x=some .cell∨(jg X N scope s H fp xe).env.kindOf x=some .free:=by
   rcases h3 with z | z | z
   ·exfalso
    rcases Gg z with z' | ⟨z',_⟩
    ·rw [QA S.nd hx] at z';cases z'
    ·cases z'
   ·exact .inl z
   ·exact .inr z
  refine ⟨hkf,?_⟩
  obtain ⟨c,hc⟩:=lkc hkf
  refine ⟨c,hc,?_⟩
  rcases JV I S (lkm hc) with ⟨_,q,_⟩ | ⟨q,_,_⟩
  ·rcases lk with ⟨z,_⟩ | ⟨_,c',hc',cell⟩
   ·exfalso
    rcases S.free _ hx rfl with k | k<;>(rw [k] at z;cases z)
   ·rw [q] at hc';cases hc'
    exact cell.keeps hk
  ·exfalso
   have a1:=QA S.nd hx
   have a2:=QA S.nd q
   rw [a1] at a2;cases a2
 ·rcases JV I S (lkm e) with ⟨_,q,_⟩ | ⟨_,_,q⟩
  ·obtain ⟨v,z⟩:=I.cell x c q
   exact ⟨v,z.keeps hk⟩
  ·exact ⟨_,q _ hsz⟩
 ·rcases JV I S (lkm e) with ⟨_,q,_⟩ | ⟨_,q,_⟩
  ·exact I.freeC x c q
  ·exact I.hok.fresh (Nat.le_of_lt q)
 ·have hp':p∈([]:List (Addr × Obj)):=hp
  cases hp'
end
noncomputable abbrev kQ:=Addr->St->Hp->(St->Hp->Prop)->Prop
noncomputable def Yg (elt:Expr)(gens:List Comprehension)(sc:Scope)(pos:Pos)(d:Nat)(acc:Value)(env:Env)(k:Sem Fin):Sem Fin:=
 match gens[d+1]? with
 | some g'=>do
  let x <- eval g'.iter env
  standAt g'.iter.pos
  let x <- foldedSetIterable g'.iter env x
  let _ <- runOwn (.compStart (.ListComp elt gens sc pos) (d+1) (<- holding [x] (pyIter x)) acc env) env
  k
 | none=>do
  (do let _ <- call (.builtin "list.append") [acc,<- eval elt env])
  k
theorem FL {elt tg iter:Expr}{ifs:List Expr}{gens:List Comprehension}{sc:Scope}{pos:Pos}{d:Nat}{it acc:Value}{env:Env}(hg:gens[d]? =some ⟨tg,iter,ifs,0⟩)(ha:∀g',gens[d+1]? =some g'->g'.is_async=0):
  compTurn (.ListComp elt gens sc pos) d it acc env=(do
   standAt iter.pos
   match <- pyNext it with
   | none=>pure (.done .next)
   | some v=>
    letOwnedTupleGo tg it v
    assign tg env v
    let mut ok:=true
    for c in ifs do
     if ok then ok <- isTrue c env (eval c env)
    if ok then Yg elt gens sc pos d acc env (again (.compLoop (.ListComp elt gens sc pos) d it acc env))
    else again (.compLoop (.ListComp elt gens sc pos) d it acc env)):=by
 unfold compTurn Yg
 dsimp only
 rw [hg]
 cases hn:gens[d+1]? with
 | none=>rfl
 | some g'=>
  obtain ⟨t',i',f',a'⟩:=g'
  have e:a'=0:=ha _ hn
  subst e
  rfl
noncomputable def Zz (X:Cx)(ifs:List Expr)(t:TT):Prop:=
 ∀(pins:List (Addr × Obj)) (s:Shared) (σ:St) (H:Hp) (Q:Bool->Hp->Prop),Inv X pins σ H s->t σ H Q->
  wpAny (model X.prog X.w) X.A (forIn ifs true λ c r=>if r=true then do let ok <- isTrue c X.env (eval c X.env);pure (ForInStep.yield ok) else pure (ForInStep.yield r)) (TP X pins σ Q) X.xe s
noncomputable def Cy:TT:=λ _ H Q=>Q true H
theorem HK {X:Cx}:Zz X [] Cy:=λ pins s σ H Q I h=>wpAny_tests_nil ⟨H,I,h⟩
theorem IG {X:Cx}{c:Expr}{t:TT}(h:PT X c t):Zz X [c] t:=λ pins s σ H Q I hw=>wpAny_tests_one (h pins s σ H Q I hw)
noncomputable def ki (X:Cx)(elt:Expr)(gens:List Comprehension)(sc:Scope)(pos:Pos)(d:Nat)(t:kQ):Prop:=
 ∀(pins:List (Addr × Obj)) (s:Shared) (σ:St) (H:Hp) (D:Addr) (Q:St->Hp->Prop) (k:Sem Fin) (Q':Fin->Shared->Prop) (E:Value->Shared->Prop),Inv X pins σ H s->t D σ H Q->
  (∀s' σ' H',Inv X pins σ' H' s'->Q σ' H'->wpAny (model X.prog X.w) X.A k Q' E s')->wpAny (model X.prog X.w) X.A (Yg elt gens sc pos d (.ref D) X.env k) Q' E s
noncomputable def Cr (te:TE):kQ:=λ D σ H Q=>te σ H λ y H1=>∃ys,H1 D=some (.lst ys)/\ys.length<sizeLine/\Q σ (upd H1 D (.lst (ys++[y])))
noncomputable def Jq (J:It)(g:TG)(ti:TT)(tm:kQ):kQ:=λ D σ H Q=>∃W:Nat->Nat->St->Hp->Prop,(∃m,W 0 m σ H)/\∀i m σ H,W i m σ H->
 (J.stop i H/\Q σ H)∨(J.go i H/\∃N:St->Hp->Prop,(∀σ' H',N σ' H'->∃m',m'<m/\W (i+1) m' σ' H')/\∀x H',J.yld i H x H'->g x σ H' λ σ1 H1=>ti σ1 H1 λ b Hb=>if b=true then tm D σ1 Hb N else N σ1 Hb)
noncomputable def Cg (wi:TI)(g:TG)(ti:TT)(tm:kQ):kQ:=λ D σ H Q=>wi σ H λ J H1=>Jq J g ti tm D σ H1 Q
section
variable {X:Cx}{elt tg iter:Expr}{ifs:List Expr}{gens:List Comprehension}{sc:Scope}{pos:Pos}{d:Nat}
theorem Ji (hx:∀e s,X.xe e s->False){α:Type}{t:Sem α}{Q':α->Shared->Prop}{E:Value->Shared->Prop}{s':Shared}(hh:wpAny (model X.prog X.w) X.A t Q' X.xe s'):wpAny (model X.prog X.w) X.A t Q' E s':=
 wpAny_mono hh (λ _ _ z=>z) λ e s' z=>(hx e s' z).elim
theorem T8 {te:TE}(hx:∀e s,X.xe e s->False)(he:PE X elt te)(hg:gens[d+1]? =none):ki X elt gens sc pos d (Cr te):=by
 intro pins s σ H D Q k Q' E I h hk
 unfold Yg
 rw [hg]
 refine wpAny_bind (wpAny_bind (Ji hx (qe (he pins s σ H _ I h) λ u s1 ⟨y,H1,I1,r1,ys,e1,z1,q1⟩=>?_)))
 refine wpAny_bind (Ji hx (qe (Tc pins s1 σ H1 (.ref D) [y] (.ref D) [u] (λ _ H'=>Q σ H') I1 rfl (.cons r1 .nil) ⟨D,ys,y,rfl,rfl,e1,z1,q1⟩) λ _ s2 ⟨_,H2,I2,_,q2⟩=>?_))
 exact wpAny_pure (hk s2 σ H2 I2 q2)
theorem F5 {g:TG}{ti:TT}{tm:kQ}(hx:∀e s,X.xe e s->False)(hc:X.calm=true)(hg:gens[d]? =some ⟨tg,iter,ifs,0⟩)(ha:∀g',gens[d+1]? =some g'->g'.is_async=0)(hgt:PG X tg g)(hi:Zz X ifs ti)(hm:ki X elt gens sc pos d tm)
  {pins:List (Addr × Obj)}{σ:St}{H:Hp}{s:Shared}{D:Addr}{Q:St->Hp->Prop}{J:It}{it:Addr}{fp:List Addr}{tn:Nat->Heap->Prop}(T:Turn X.prog X.w X.K tg J fp it tn)(I:Inv X pins σ H s)(st:tn 0 s.heap)(hf:∀b∈fp,yP X pins H b)
  (h:Jq J g ti tm D σ H Q){R:Result->Shared->Prop}(hR:∀s' σ' H',Inv X pins σ' H' s'->Q σ' H'->R (.ok .next) s'):
  codeAny (model X.prog X.w) X.A (.compLoop (.ListComp elt gens sc pos) d (.ref it) (.ref D) X.env) R s:=by
 obtain ⟨W,⟨m0,w0⟩,turn⟩:=h
 have stat:∀{H':Hp},(∀b∈fp,H' b=none)->∀b∈fp,yP X pins H' b:=λ hn b hb=>⟨hn b hb,(hf b hb).2⟩
 refine codeAny_loop rfl (λ n s'=>∃i σ' H',Inv X pins σ' H' s'/\tn i s'.heap/\(∀b∈fp,H' b=none)/\W i n σ' H') (λ n s3 hI=>?_) m0 ⟨0,σ,H,I,st,λ b hb=>(hf b hb).1,w0⟩
 show wpAny _ X.A ((compTurn (.ListComp elt gens sc pos) d (.ref it) (.ref D) X.env).onRaise (λ x=>do noteFrame x X.env;theTreesLotGoes x)) _ _ s3
 refine wpAny_noted ?_
 rw [FL hg ha]
 refine wpAny_bind (wpAny_standAt ?_)
 obtain ⟨i,σ3,H3,I3,wL,fr3,w3⟩:=hI
 rcases turn i n σ3 H3 w3 with ⟨stop,qn⟩ | ⟨go,N,hN,step⟩
 ·refine wpAny_bind (qe (T.done X rfl rfl rfl hc i pins s3 σ3 H3 _ I3 (stat fr3) wL stop) λ r s4 ⟨hr,I4⟩=>?_)
  subst hr
  exact wpAny_pure (hR s4 σ3 H3 I4 qn)
 ·refine wpAny_bind (qe (T.item X rfl rfl rfl hc i pins s3 σ3 H3 _ I3 (stat fr3) wL go) λ r s4 ⟨u,hr,h4⟩=>?_)
  subst hr
  refine wpAny_bind (qe h4 λ _ s5 ⟨x,H5,I5,r5,y5,st5,fr5⟩=>?_)
  have I5':=I5.pinned (stat fr5) (T.obj _ _ st5)
  have back:∀{σ7:St} {H7:Hp} {s7:Shared},Inv X (pins++J2 fp s5.heap) σ7 H7 s7->N σ7 H7->∃m,m<n/\∃i σ' H',Inv X pins σ' H' s7/\tn i s7.heap/\(∀b∈fp,H' b=none)/\W i m σ' H':=λ {σ7 H7 s7} I7 n7=>by
   obtain ⟨m',hm,w7⟩:=hN σ7 H7 n7
   refine ⟨m',hm,i+1,σ7,H7,I7.unpinned,T.keep _ _ _ st5 λ b hb o e=>(I7.pin (b,o) (List.mem_append_right _ (List.mem_append_right _ (Kg hb e)))).1,λ b hb=>?_,w7⟩
   obtain ⟨o,e,d⟩:=T.obj _ _ st5 b hb
   exact (I7.pin (b,o) (List.mem_append_right _ (List.mem_append_right _ (Kg hb e)))).2.1
  refine wpAny_bind (Ji hx (qe (hgt _ s5 σ3 H5 x u _ I5' r5 (step x H5 y5)) λ _ s6 ⟨σ6,H6,I6,q6⟩=>?_))
  refine wpAny_bind (Ji hx (qe (hi _ s6 σ6 H6 _ I6 q6) λ ok s7 ⟨H7,I7,q7⟩=>?_))
  cases ok with
  | false=>exact wpAny_pure ⟨rfl,back I7 q7⟩
  | true=>
   rw [if_pos rfl] at q7
   exact hm _ s7 σ6 H7 D _ _ _ _ I7 q7 λ s8 σ8 H8 I8 q8=>wpAny_pure ⟨rfl,back I8 q8⟩
theorem Pu {g:TG}{ti:TT}{tm:kQ}(hx:∀e s,X.xe e s->False)(hc:X.calm=true)(hg:gens[d]? =some ⟨tg,iter,ifs,0⟩)(ha:∀g',gens[d+1]? =some g'->g'.is_async=0)(hgt:PG X tg g)(hi:Zz X ifs ti)(hm:ki X elt gens sc pos d tm)
  {pins:List (Addr × Obj)}{σ:St}{H:Hp}{s:Shared}{D:Addr}{Q:St->Hp->Prop}{J:It}{it:Addr}{fp:List Addr}{tn:Nat->Heap->Prop}(T:Turn X.prog X.w X.K tg J fp it tn)(I:Inv X pins σ H s)(st:tn 0 s.heap)(hf:∀b∈fp,yP X pins H b)
  (h:Jq J g ti tm D σ H Q){R:Result->Shared->Prop}(hR:∀s' σ' H',Inv X pins σ' H' s'->Q σ' H'->R (.ok .next) s'):
  codeAny (model X.prog X.w) X.A (.compStart (.ListComp elt gens sc pos) d (.ref it) (.ref D) X.env) R s:=by
 have loop:=F5 hx hc hg ha hgt hi hm T I st hf h hR
 refine codeAny_of_tree ?_
 show wpAny _ _ ((compStart (.ListComp elt gens sc pos) d (.ref it) (.ref D) X.env).onRaise (λ x=>do noteFrame x X.env;standAt theWindowsPlace)) _ _ s
 refine wpAny_notedAt ?_
 unfold compStart
 have hcl:(clausesOf (.ListComp elt gens sc pos))[d]? =some ⟨tg,iter,ifs,0⟩:=hg
 rw [hcl]
 show wpAny _ _ (ask >>= _) _ _ s
 refine wpAny_bind (wpAny_askSetting (wpAny_ite ?_))
 split
 ·first
   | exact wpAny_bind (wpAny_pure (wpAny_pure (And.intro rfl loop)))
   | exact wpAny_pure (And.intro rfl loop)
 ·first
   | exact wpAny_bind (wpAny_rule (wpAny_bind (wpAny_standAt (wpAny_bind (T.self _ 0 s _ _ st (wpAny_pure (And.intro rfl loop)))))))
   | (refine wpAny_bind (wpAny_rule ?_);show wpAny _ _ (standAt iter.pos >>= _) _ _ s;exact wpAny_bind (wpAny_standAt (wpAny_bind (T.self _ 0 s _ _ st (wpAny_pure (And.intro rfl loop))))))
theorem HE {wi:TI}{g:TG}{ti:TT}{tm:kQ}(hx:∀e s,X.xe e s->False)(hc:X.calm=true)(hg:gens[d+1]? =some ⟨tg,iter,ifs,0⟩)(ha:∀g',gens[d+2]? =some g'->g'.is_async=0)(hw:PI X tg iter wi)(hgt:PG X tg g)(hi:Zz X ifs ti)(hm:ki X elt gens sc pos (d+1) tm)
  (hs:∀x,foldedSetIterable iter X.env x=pure x:=by intro _;rfl):ki X elt gens sc pos d (Cg wi g ti tm):=by
 intro pins s σ H D Q k Q' E I h hk
 unfold Yg
 rw [hg]
 refine wpAny_bind (Ji hx (qe (hw pins s σ H _ I h) λ v s1 h1=>?_))
 refine wpAny_bind (wpAny_standAt (wpAny_bind (wpAny_of_eq (hs v) ?_)))
 refine wpAny_bind (wpAny_holding (Ji hx (qe h1 λ itv s2 h2=>?_)))
 obtain ⟨it,fp,tn,J,H2,e,I2,T,kj,f2,q2⟩:=h2
 subst e
 refine wpAny_bind (wpAny_runOwn (Pu hx hc hg ha hgt hi hm T I2 kj f2 q2 λ s' σ' H' I' q'=>?_))
 exact hk s' σ' H' I' q'
end
noncomputable def w9 (nl:Nat)(cap:List Nat)(σ:St):St:=List.replicate nl none++cap.map λ i=>(σ[i]?).join
noncomputable def Z2 (M N:List Str)(scope:Scope)(nl:Nat)(cap:List Nat):Bool:=
 N.length==nl+cap.length&&(List.range cap.length).all λ k=>match N[nl+k]?,M[cap.getD k 0]? with
  | some x,some y=>x==y&&scope.names.any λ z=>z.1==x&&z.2==NameKind.free
  | _,_=>false
theorem Ht {M N:List Str}{scope:Scope}{nl:Nat}{cap:List Nat}(h:Z2 M N scope nl cap=true){σ:St}:(w9 nl cap σ).length=N.length/\
  ∀(j:Nat) (x:Str) (v:V),N[j]? =some x->(w9 nl cap σ)[j]? =some (some v)->(x,NameKind.free)∈scope.names/\∃i:Nat,M[i]? =some x/\σ[i]? =some (some v):=by
 unfold Z2 at h
 rw [Bool.and_eq_true,beq_iff_eq] at h
 obtain ⟨h1,h2⟩:=h
 refine ⟨by unfold w9;simp [h1],λ j x v e1 e2=>?_⟩
 unfold w9 at e2
 by_cases hj:j<nl
 ·rw [List.getElem?_append_left (by simpa using hj),List.getElem?_replicate] at e2
  split at e2<;>cases e2
 ·rw [List.getElem?_append_right (by simpa using hj),List.length_replicate,List.getElem?_map] at e2
  cases hc:cap[j - nl]? with
  | none=>rw [hc] at e2;cases e2
  | some i=>
   rw [hc] at e2
   have e2':(σ[i]?).join=some v:=Option.some.inj e2
   have hk:j - nl<cap.length:=(List.getElem?_eq_some_iff.mp hc).1
   have h3:=List.all_eq_true.mp h2 (j - nl) (List.mem_range.mpr hk)
   have ej:nl+(j - nl)=j:=by omega
   rw [ej,e1] at h3
   have ec:cap.getD (j - nl) 0=i:=by rw [List.getD_eq_getElem?_getD,hc];rfl
   rw [ec] at h3
   cases hm:M[i]? with
   | none=>rw [hm] at h3;cases h3
   | some y=>
    rw [hm] at h3
    rw [Bool.and_eq_true,beq_iff_eq] at h3
    obtain ⟨h4,h5⟩:=h3
    subst h4
    obtain ⟨z,hz,hz2⟩:=List.any_eq_true.mp h5
    rw [Bool.and_eq_true,beq_iff_eq,beq_iff_eq] at hz2
    refine ⟨?_,i,hm,?_⟩
    ·obtain ⟨z1,z2⟩:=z
     obtain ⟨a1,a2⟩:=hz2
     cases a1;cases a2
     exact hz
    ·cases hs:σ[i]? with
     | none=>rw [hs] at e2';cases e2'
     | some o=>rw [hs] at e2';cases o with
      | none=>cases e2'
      | some w=>cases e2';rfl
noncomputable abbrev jK:Value->Shared->Prop:=λ _ _=>False
noncomputable def Wa (K:Frag)(wi:TI)(g:TG)(ti:TT)(tm:kQ)(nl:Nat)(cap:List Nat):TE:=λ σ H Q=>wi σ H λ J H2=>∀D,H2 D=none->K.lookup D=none->Jq J g ti tm D (w9 nl cap σ) (upd H2 D (.lst [])) λ _ H'=>Q (.ref D) H'
section
variable {X:Cx}{elt tg iter:Expr}{ifs:List Expr}{gs:List Comprehension}{sc:Scope}{pos p:Pos}{wi:TI}{g:TG}{ti:TT}{tm:kQ}{N:List Str}{nl:Nat}{cap:List Nat}
theorem X5 (hc:X.calm=true)(S:gC X sc)(hcap:Z2 X.N N sc nl cap=true)(ha:∀g',gs[0]? =some g'->g'.is_async=0)(hw:PI X tg iter wi)
  {pins:List (Addr × Obj)}{σ:St}
  (hin:∀s H fp,Inv X pins σ H s->(∀b∈fp,yP X pins H b)->PG (jg X N sc s H fp jK) tg g/\Zz (jg X N sc s H fp jK) ifs ti/\ki (jg X N sc s H fp jK) elt (⟨tg,iter,ifs,0⟩::gs) sc pos 0 tm)
  {H:Hp}{s:Shared}{Q:VK}(I:Inv X pins σ H s)(h:Wa X.K wi g ti tm nl cap σ H Q)
  {use:Option (Value->Sem Unit)}{Q':Value->Shared->Prop}
  (hend:∀(D C:Addr) (s':Shared) (H':Hp) (m:Str->Option Value),Inv X pins σ H' s'->Q (.ref D) H'->s'.heap.Ns C m->H' C=none->C≠X.env.locals->X.s0.heap.objs.size<=C->(∀x c,X.env.cells.lookup x=some c->c≠C)->(∀q∈X.pn++pins,q.1≠C)->
   compPost (model X.prog X.w) X.A X.xe use Q' (.ref D) C (.ok .next) s')
  (hs:∀x,foldedSetIterable iter X.env x=pure x:=by intro _;rfl):
  wpAny (model X.prog X.w) X.A (comprehension (.ListComp elt (⟨tg,iter,ifs,0⟩::gs) sc pos) sc X.env p (newList []) false (eval iter X.env) use) Q' X.xe s:=by
 have hfree:∀y∈sc.names,y.2=.free->∃c,X.env.cells.lookup y.1=some c:=λ y hy e=>I.ok.has _ (S.free y hy e)
 refine wpAny_comprehension_free (use:=use) rfl hs (U4 hfree) S.kind (λ y hy e=>by
  obtain ⟨y1,y2⟩:=y
  have e':y2=.local:=e
  subst e'
  exact QA S.nd hy) ?_
 refine qe (hw pins s σ H _ I h) λ v s1 h1=>qe h1 λ itv s2 h2=>?_
 obtain ⟨it,fp,tn,J,H2,e,I2,T,kj,f2,q2⟩:=h2
 subst e
 refine wpAny_newObj_type ?_
 have hD:H2 s2.heap.objs.size=none:=I2.fresh
 have hKD:X.K.lookup s2.heap.objs.size=none:=by
  cases ek:X.K.lookup s2.heap.objs.size with
  | none=>rfl
  | some o=>exact absurd (Heap.lt_size (I2.kIn _ _ ek)) (Nat.lt_irrefl _)
 have q3:=q2 _ hD hKD
 generalize hs3:({ s2 with heap:=s2.heap.push { cls:=.type "list",data:=.seq ([]:List Value).toArray } }:Shared)=s3
 have hs3':s3={ s2 with heap:=s2.heap.push { cls:=.type "list",data:=.seq ([]:List Value).toArray } }:=hs3.symm
 have I3:Inv X pins σ (upd H2 s2.heap.objs.size (.lst [])) s3:=by
  rw [hs3']
  exact I2.laid (t':=s2.toks) (λ b u e=>Heap.get?_push_of_some _ e) (Nat.le_refl _) ⟨by simp,[],0,.nil,Heap.get?_push_size _ rfl⟩
 have fpo:∀b∈fp,∃o,s2.heap.get? b=some o:=λ b hb=>let ⟨o,e,_⟩:=T.obj 0 _ kj b hb;⟨o,e⟩
 have sz3:s3.heap.objs.size=s2.heap.objs.size+1:=by rw [hs3'];exact Heap.size_push ..
 have wL:tn 0 s3.heap:=T.keep _ _ _ kj λ b hb o e=>by rw [hs3'];exact Heap.get?_push_of_some _ e
 have fl3:∀b∈fp,b<s3.heap.objs.size:=λ b hb=>by
  obtain ⟨o,e⟩:=fpo b hb
  rw [sz3];exact Nat.lt_succ_of_lt (Heap.lt_size e)
 have f3:∀b∈fp,yP X pins (upd H2 s2.heap.objs.size (.lst [])) b:=λ b hb=>by
  obtain ⟨o,e⟩:=fpo b hb
  refine ⟨?_,(f2 b hb).2⟩
  rw [qg (Nat.ne_of_lt (Heap.lt_size e))]
  exact (f2 b hb).1
 generalize upd H2 s2.heap.objs.size (.lst [])=H3 at I3 f3 q3
 generalize s2.heap.objs.size=D at q3 ⊢
 refine OG ?_
 obtain ⟨cl,cs⟩:=Ht hcap (σ:=σ)
 have I4:=Iq (xe:=jK) I3 S f3 fl3 cl cs
 obtain ⟨hgt,hi,hm⟩:=hin s3 H3 fp I3 f3
 refine Pu (X:=jg X N sc s3 H3 fp jK) (gens:=⟨tg,iter,ifs,0⟩::gs) (d:=0) (λ _ _ z=>z) hc rfl ha hgt hi hm T I4 (T.keep _ _ _ wL λ b hb o e=>pushCells_keeps _ _ _ _ (Heap.get?_push_of_some _ e)) (λ b hb=>?_) q3 λ s' σ' H' I' q'=>?_
 ·obtain ⟨g1,g2,g3,g4,g5,g6⟩:=f3 b hb
  refine ⟨g1,Nat.ne_of_lt (fl3 b hb),λ z=>?_,.inl hb,(I4.ok.exf b hb).2,λ p hp=>absurd (show p∈([]:List (Addr × Obj)) from hp) (by simp)⟩
  rcases List.mem_cons.mp (I3.stkSub b z) with e | e
  ·exact g2 e
  ·exact g3 e
 ·have I5:Inv X pins σ H' s':=I3.call' I'.os I'.base I'.hok I'.bare λ b hb=>by
   obtain ⟨g1,g2,g3,g4,g5,g6⟩:=f3 b hb
   exact ⟨g4,g2,g5,g6⟩
  obtain ⟨m,hn,_⟩:=I'.loc
  refine hend D _ s' H' m I5 q' hn I'.free (Nat.ne_of_gt I3.lt) I3.sz (λ x c e z=>?_) λ q hq z=>?_
  ·obtain ⟨v,w⟩:=I3.cell x c e
   exact Nat.lt_irrefl _ (Nat.lt_of_lt_of_le w.lt (by rw [z];exact Nat.le_refl _))
  ·exact Nat.lt_irrefl _ (Nat.lt_of_lt_of_le (Heap.lt_size (I3.pin q hq).1) (by rw [z];exact Nat.le_refl _))
theorem HS (hc:X.calm=true)(S:gC X sc)(hcap:Z2 X.N N sc nl cap=true)(ha:∀g',gs[0]? =some g'->g'.is_async=0)(hw:PI X tg iter wi)
  (hin:∀s H fp,PG (jg X N sc s H fp jK) tg g/\Zz (jg X N sc s H fp jK) ifs ti/\ki (jg X N sc s H fp jK) elt (⟨tg,iter,ifs,0⟩::gs) sc pos 0 tm)
  (hs:∀x,foldedSetIterable iter X.env x=pure x:=by intro _;rfl):PE X (.ListComp elt (⟨tg,iter,ifs,0⟩::gs) sc pos) (Wa X.K wi g ti tm nl cap):=by
 intro pins s σ H Q I h
 rw [eval_ListComp]
 refine X5 (use:=none) hc S hcap ha hw (λ s H fp _ _=>hin s H fp) I h (λ D C s' H' m I' q hn h1 h2 h3 h4 h5=>?_) hs
 exact ⟨m,hn,λ h' sb=>⟨.ref D,H',I'.turned (t':=s'.toks) (λ b o hb e=>(sb.2 b hb).trans e) h1 h2 (.inr h3) h4 h5,rfl,q⟩⟩
theorem ML {i:Nat}{x:Str}{px:Pos}{spos:Pos}(hN:X.N.Nodup)(hi':X.N[i]? =some x)(hx:X.env.scope.names.lookup x=some .local)
  (hsw:swapsWith (.ListComp elt (⟨tg,iter,ifs,0⟩::gs) sc pos) (some (.Name x px)) spos.line X.env=pure true)
  (hc:X.calm=true)(S:gC X sc)(hcap:Z2 X.N N sc nl cap=true)(ha:∀g',gs[0]? =some g'->g'.is_async=0)(hw:PI X tg iter wi)
  (hin:∀s H fp,PG (jg X N sc s H fp jK) tg g/\Zz (jg X N sc s H fp jK) ifs ti/\ki (jg X N sc s H fp jK) elt (⟨tg,iter,ifs,0⟩::gs) sc pos 0 tm)
  (hs:∀x,foldedSetIterable iter X.env x=pure x:=by intro _;rfl):PS X (.Assign [.Name x px] (.ListComp elt (⟨tg,iter,ifs,0⟩::gs) sc pos) spos) (Wk (Wa X.K wi g ti tm nl cap) (Wb i)):=by
 intro pins s σ H D I h
 rw [exec_Assign_Name_used _ _ _ _ hsw]
 refine wpAny_bind (wpAny_standAt (wpAny_bind ?_))
 show wpAny _ X.A (do let _ <- comprehension (.ListComp elt (⟨tg,iter,ifs,0⟩::gs) sc pos) sc X.env _ (newList []) false (eval iter X.env) (some (assign (.Name x px) X.env))) _ _ s
 refine wpAny_bind (wpAny_mono (X5 (use:=some (assign (.Name x px) X.env)) (Q':=λ _ s'=>SP X pins D .next s') hc S hcap ha hw (λ s H fp _ _=>hin s H fp) I h (λ D' C s' H' m I' q hn h1 h2 h3 h4 h5=>?_) hs) (λ _ s' hq=>wpAny_pure (wpAny_pure hq)) λ _ _ e=>e)
 show wpAny _ X.A (assign (.Name x px) X.env (.ref D')) _ _ _
 refine wpAny_assign_Name (TN I' hN hi' (.inl hx) (v:=.ref D') rfl (λ s2 I2 ⟨a,sb,ea⟩=>?_) (.inr hx))
 have hCa:C≠a:=by
  rcases ea with e | e
  ·rw [e];exact h2
  ·exact λ z=>h4 x a e z.symm
 refine ⟨m,hn.sameBut sb hCa,λ h' sb'=>⟨_,H',I2.turned (t':=s2.toks) (λ b o hb e=>(sb'.2 b hb).trans e) h1 h2 (.inr h3) h4 h5,q⟩⟩
end
end L2
namespace Mi
open PySem PySem.Spec PyProof.Rows L2
inductive W where
 | non | bl (b:Bool) | int (i:Int) | str (x:Str) | tup (xs:List W) | ref (n:Nat)
 | clo (k:Nat) (xs:List W) (P:Obj->Addr->Obj->List V->Prop)
 | xc (x:Str)
inductive O where
 | lst (xs:List W) | ro (xs:List W) | dct (kvs:List (Key × W))
 | tab (q:Str) (P:Addr)
noncomputable def O.mut:O->Bool
 | .ro _=>false
 | _=>true
noncomputable abbrev Hx:=List O
noncomputable abbrev En:=List (Option W)
inductive R (α:Type) where
 | ok (a:α) (A:Hx) | exc (x:Str) (A:Hx) | bad
noncomputable def R.bind {α β:Type}(r:R α)(f:α->Hx->R β):R β:=match r with
 | .ok a A=>f a A
 | .exc x A=>.exc x A
 | .bad=>.bad
noncomputable def R.post {α:Type}(r:R α)(P:α->Hx->Prop)(E:Str->Hx->Prop):Prop:=match r with
 | .ok a A=>P a A
 | .exc x A=>E x A
 | .bad=>False
noncomputable def R.nox {α:Type}(r:R α):R α:=match r with
 | .ok a A=>.ok a A
 | .exc _ _=>.bad
 | .bad=>.bad
section
variable {α β:Type}{r:R α}{f:α->Hx->R β}{P Q:α->Hx->Prop}{P':β->Hx->Prop}{E F:Str->Hx->Prop}
theorem zB {a:α}{A:Hx}:(R.ok a A).bind f=f a A:=rfl
theorem Sb {x:Str}{A:Hx}:(R.exc x A:R α).bind f=.exc x A:=rfl
theorem zV:(r.bind f).post P' E↔r.post (λ a A=>(f a A).post P' E) E:=by cases r<;>exact Iff.rfl
theorem qo (h:r.post P E)(hP:∀a A,P a A->Q a A)(hE:∀x A,E x A->F x A):r.post Q F:=by
 cases r with
 | ok a A=>exact hP _ _ h
 | exc x A=>exact hE _ _ h
 | bad=>exact h
end
noncomputable abbrev Ev:=En->Hx->R W
inductive BR (K:Frag)(H:Hp)(R:List V->Prop)(v:V):Prop
 | mk (a:Addr) (vs:List V) (e:v=.ref a) (h:qv K H a vs) (r:R vs)
inductive Bj (H:Hp)(P:Obj->Addr->Obj->List V->Prop)(R:List V->Prop)(v:V):Prop
 | mk (a:Addr) (ob:Obj) (u:HO) (c:Addr) (oc:Obj) (uc:HO) (vs:List V) (e:v=.ref a) (h1:H a=some (.frz ob u)) (h2:H c=some (.frz oc uc)) (p:P ob c oc vs) (r:R vs)
inductive Bs (R:V->Prop)(Rs:List V->Prop)(vs:List V):Prop
 | mk (v:V) (r:List V) (e:vs=v::r) (h:R v) (t:Rs r)
mutual
noncomputable def RV (K:Frag)(φ:List Addr)(H:Hp):W->V->Prop
 | .non,v=>v=.non
 | .bl b,v=>v=.bl b
 | .int i,v=>v=.int i
 | .str x,v=>v=.str x
 | .tup ws,v=>BR K H (zF K φ H ws) v
 | .ref n,v=>∃a,v=.ref a/\φ[n]? =some a
 | .clo _ ws P,v=>Bj H P (zF K φ H ws) v
 | .xc x,v=>∃a oe u C,v=.ref a/\H a=some (.frz oe u)/\oe.cls=.ref C/\PySem.W.nsIn K mainGlobals x=some (some (.ref C))
noncomputable def zF (K:Frag)(φ:List Addr)(H:Hp):List W->List V->Prop
 | [],vs=>vs=[]
 | w::ws,vs=>Bs (RV K φ H w) (zF K φ H ws) vs
end
structure Le (K:Frag)(φ:List Addr)(H:Hp)(φ':List Addr)(H':Hp):Prop where
 ex:∀(n:Nat) (a:Addr),φ[n]? =some a->φ'[n]? =some a
 tp:∀a vs,qv K H a vs->qv K H' a vs
 fr:∀a o,H a=some o->(∀n:Nat,φ[n]?≠some a)->H' a=some o
 nw:∀(n:Nat) (a:Addr),φ'[n]? =some a->φ[n]? =some a∨H a=none
 st:∀a,H' a=none->H a=none
 fz:∀a o u,H a=some (.frz o u)->H' a=some (.frz o u)
theorem Le.refl {K φ H}:Le K φ H φ H:=⟨λ _ _ h=>h,λ _ _ h=>h,λ _ _ h _=>h,λ _ _ h=>.inl h,λ _ h=>h,λ _ _ _ h=>h⟩
theorem Le.trans {K φ H φ1 H1 φ2 H2}(a:Le K φ H φ1 H1)(b:Le K φ1 H1 φ2 H2):Le K φ H φ2 H2 where
 ex:=λ n x h=>b.ex n x (a.ex n x h)
 tp:=λ n x h=>b.tp n x (a.tp n x h)
 fr:=λ c o h n=>b.fr c o (a.fr c o h n) λ k e=>by
  rcases a.nw k c e with e | e
  ·exact n k e
  ·rw [h] at e;cases e
 nw:=λ n c e=>by
  rcases b.nw n c e with e | e
  ·exact a.nw n c e
  ·exact .inr (a.st c e)
 st:=λ c e=>a.st c (b.st c e)
 fz:=λ c o u h=>b.fz c o u (a.fz c o u h)
theorem Le.off {K φ H φ' H'}(l:Le K φ H φ' H'){D:Addr}{o:HO}(h:H D=some o)(n:∀k:Nat,φ[k]?≠some D):H' D=some o/\∀k:Nat,φ'[k]?≠some D:=
 ⟨l.fr D o h n,λ k e=>by
  rcases l.nw k D e with e | e
  ·exact n k e
  ·rw [h] at e;cases e⟩
section
variable {K:Frag}{φ φ':List Addr}{H H':Hp}
structure gh (K:Frag)(φ:List Addr)(H:Hp)(φ':List Addr)(H':Hp):Prop where
 ex:∀(n:Nat) (a:Addr),φ[n]? =some a->φ'[n]? =some a
 tp:∀a vs,qv K H a vs->qv K H' a vs
 fz:∀a o u,H a=some (.frz o u)->H' a=some (.frz o u)
mutual
theorem RV.monoW (l:gh K φ H φ' H'):∀{w:W} {v:V},RV K φ H w v->RV K φ' H' w v
 | .non,_,h=>h
 | .bl _,_,h=>h
 | .int _,_,h=>h
 | .str _,_,h=>h
 | .tup ws,_,⟨a,vs,e,t,r⟩=>⟨a,vs,e,l.tp _ _ t,zF.monoW l r⟩
 | .ref n,_,⟨a,e,f⟩=>⟨a,e,l.ex _ _ f⟩
 | .clo _ ws P,_,⟨a,ob,u,c,oc,uc,vs,e,h1,h2,h3,r⟩=>⟨a,ob,u,c,oc,uc,vs,e,l.fz _ _ _ h1,l.fz _ _ _ h2,h3,zF.monoW l r⟩
 | .xc x,_,⟨a,oe,u,C,e,h1,h2⟩=>⟨a,oe,u,C,e,l.fz _ _ _ h1,h2⟩
theorem zF.monoW (l:gh K φ H φ' H'):∀{ws:List W} {vs:List V},zF K φ H ws vs->zF K φ' H' ws vs
 | [],_,h=>h
 | w::ws,_,⟨v,r,e,h,t⟩=>⟨v,r,e,RV.monoW l h,zF.monoW l t⟩
end
theorem RV.mono {w:W}{v:V}(h:RV K φ H w v)(l:Le K φ H φ' H'):RV K φ' H' w v:=RV.monoW ⟨l.ex,l.tp,l.fz⟩ h
theorem zF.mono {w:List W}{v:List V}(h:zF K φ H w v)(l:Le K φ H φ' H'):zF K φ' H' w v:=zF.monoW ⟨l.ex,l.tp,l.fz⟩ h
structure j3 (K:Frag)(D:Addr)(φ:List Addr)(H:Hp)(φ':List Addr)(H':Hp):Prop where
 ex:∀(n:Nat) (a:Addr),φ[n]? =some a->φ'[n]? =some a
 tp:∀a vs,qv K H a vs->qv K H' a vs
 fr:∀a o,a≠D->H a=some o->(∀n:Nat,φ[n]?≠some a)->H' a=some o
 nw:∀(n:Nat) (a:Addr),φ'[n]? =some a->φ[n]? =some a∨H a=none
 st:∀a,H' a=none->H a=none
 fz:∀a o u,H a=some (.frz o u)->H' a=some (.frz o u)
theorem j3.refl {D}:j3 K D φ H φ H:=⟨λ _ _ h=>h,λ _ _ h=>h,λ _ _ _ h _=>h,λ _ _ h=>.inl h,λ _ h=>h,λ _ _ _ h=>h⟩
theorem Le.toD {D}(l:Le K φ H φ' H'):j3 K D φ H φ' H':=⟨l.ex,l.tp,λ a o _ h n=>l.fr a o h n,l.nw,l.st,l.fz⟩
theorem j3.trans {D φ1 H1 φ2 H2}(a:j3 K D φ H φ1 H1)(b:j3 K D φ1 H1 φ2 H2):j3 K D φ H φ2 H2 where
 ex:=λ n x h=>b.ex n x (a.ex n x h)
 tp:=λ n x h=>b.tp n x (a.tp n x h)
 fr:=λ c o ne h n=>b.fr c o ne (a.fr c o ne h n) λ k e=>by
  rcases a.nw k c e with e | e
  ·exact n k e
  ·rw [h] at e;cases e
 nw:=λ n c e=>by
  rcases b.nw n c e with e | e
  ·exact a.nw n c e
  ·exact .inr (a.st c e)
 st:=λ c e=>a.st c (b.st c e)
 fz:=λ c o u h=>b.fz c o u (a.fz c o u h)
theorem RV.monoD {D}{w:W}{v:V}(h:RV K φ H w v)(l:j3 K D φ H φ' H'):RV K φ' H' w v:=RV.monoW ⟨l.ex,l.tp,l.fz⟩ h
theorem zF.monoD {D}{w:List W}{v:List V}(h:zF K φ H w v)(l:j3 K D φ H φ' H'):zF K φ' H' w v:=zF.monoW ⟨l.ex,l.tp,l.fz⟩ h
theorem zF.length:∀{ws:List W} {vs:List V},zF K φ H ws vs->ws.length=vs.length
 | [],_,h=>by cases h;rfl
 | w::ws,_,⟨v,r,e,_,t⟩=>by subst e;simp [zF.length t]
theorem zF.get:∀{ws:List W} {vs:List V} {i:Nat} {w:W},zF K φ H ws vs->ws[i]? =some w->∃v,vs[i]? =some v/\RV K φ H w v
 | [],_,_,_,_,e=>by simp at e
 | w::ws,_,0,_,⟨v,r,e,h,t⟩,q=>by subst e;simp at q;subst q;exact ⟨v,by simp,h⟩
 | w::ws,_,i+1,x,⟨v,r,e,h,t⟩,q=>by
  subst e
  obtain ⟨y,h1,h2⟩:=zF.get (i:=i) (w:=x) t (by simpa using q)
  exact ⟨y,by simpa using h1,h2⟩
theorem zF.append:∀{ws us:List W} {vs xs:List V},zF K φ H ws vs->zF K φ H us xs->zF K φ H (ws++us) (vs++xs)
 | [],_,_,_,h,t=>by cases h;exact t
 | w::ws,_,_,_,⟨v,r,e,h,t⟩,t2=>by subst e;exact ⟨v,r++_,rfl,h,zF.append t t2⟩
theorem zF.one {w:W}{v:V}(h:RV K φ H w v):zF K φ H [w] [v]:=⟨v,[],rfl,h,rfl⟩
theorem zF.nil:zF K φ H [] []:=rfl
theorem zF.cons {w:W}{v:V}{ws:List W}{vs:List V}(h:RV K φ H w v)(t:zF K φ H ws vs):zF K φ H (w::ws) (v::vs):=⟨v,vs,rfl,h,t⟩
theorem zF.set {w:W}{v:V}(q:RV K φ H w v):∀{ws:List W} {vs:List V} (i:Nat),zF K φ H ws vs->zF K φ H (ws.set i w) (vs.set i v)
 | [],_,_,h=>by cases h;exact rfl
 | _::_,_,0,⟨v',r,e,h,t⟩=>by subst e;exact ⟨v,r,rfl,q,t⟩
 | _::_,_,i+1,⟨v',r,e,h,t⟩=>by subst e;exact ⟨v',_,rfl,h,zF.set q i t⟩
theorem zF.erase:∀{ws:List W} {vs:List V} (n:Nat),zF K φ H ws vs->zF K φ H (ws.eraseIdx n) (vs.eraseIdx n)
 | [],_,n,h=>by cases h;rw [List.eraseIdx_nil,List.eraseIdx_nil];exact zF.nil
 | _::_,_,0,⟨v',r,e,h,t⟩=>by subst e;simpa using t
 | _::_,_,n+1,⟨v',r,e,h,t⟩=>by subst e;exact ⟨v',_,rfl,h,zF.erase n t⟩
theorem zF.ints:∀{ns:List Int} {vs:List V},zF K φ H (ns.map W.int) vs↔vs=ns.map V.int
 | [],vs=>Iff.rfl
 | n::ns,vs=>by
  constructor
  ·rintro ⟨v,r,e,h,t⟩
   rw [e,(show v=V.int n from h),zF.ints.mp t];rfl
  ·intro e
   exact ⟨V.int n,ns.map V.int,e,rfl,zF.ints.mpr rfl⟩
noncomputable def JC (K:Frag)(H:Hp)(a:Addr)(xs:List V):Prop:=
 (∃ob,H a=some (.frz ob (.lst xs)))∨
  ∃(o:Obj) (its:Array Value) (n:Nat),K.lookup a=some o/\o.cls=.type "list" /\ o.dict=none/\o.data=.seq its n/\its.size<=sizeLine/\Vals xs its.toList
theorem JC.sq {a:Addr}{xs:List V}(h:JC K H a xs):qW K H a xs:=by
 rcases h with h | h
 ·exact .inl (.inr h)
 ·exact .inr h
inductive TabAt (H:Hp)(q:Str)(cv:Value):Prop
 | mk (c:Addr) (oc:Obj) (u:HO) (vs:Array Value) (t:Tok) (e:cv=.ref c) (h:H c=some (.frz oc u)) (d:oc.data=.fields vs/\vs[1]? =some (.str q t))
noncomputable def Yk (H:Hp)(q:Str)(ps:Array Value):Prop:=TriplesOk ps.toList/\∀pos cv,codeAmong pos ps.toList=some cv->TabAt H q cv
theorem Yk.mono {q:Str}{ps:Array Value}(h:Yk H q ps)(l:∀a o u,H a=some (.frz o u)->H' a=some (.frz o u)):Yk H' q ps:=
 ⟨h.1,λ pos cv e=>by obtain ⟨c,oc,u,vs,t,h1,h2,h3⟩:=h.2 pos cv e;exact ⟨c,oc,u,vs,t,h1,l _ _ _ h2,h3⟩⟩
noncomputable def OR (K:Frag)(φ:List Addr)(H:Hp)(a:Addr):O->Prop
 | .lst ws=>∃vs,H a=some (.lst vs)/\zF K φ H ws vs
 | .ro ws=>∃vs,JC K H a vs/\zF K φ H ws vs
 | .dct kvs=>∃us,H a=some (.dK us)/\us.map (·.1)=kvs.map (·.1)/\zF K φ H (kvs.map (·.2)) (us.map (·.2))
 | .tab q P=>a=P/\∃ps,H a=some (.tbl ps)/\Yk H q ps
structure zG (K:Frag)(φ:List Addr)(A:Hx)(H:Hp):Prop where
 len:φ.length=A.length
 inj:∀(i j:Nat) (a:Addr) (o o':O),φ[i]? =some a->φ[j]? =some a->A[i]? =some o->A[j]? =some o'->o.mut=true->o'.mut=true->i=j
 ob:∀(n:Nat) (o:O),A[n]? =some o->∃a,φ[n]? =some a/\OR K φ H a o
variable {A A':Hx}
theorem OR.there {a:Addr}{o:O}(h:OR K φ H a o)(m:o.mut=true):∃u,H a=some u/\(∀xs,u≠.tup xs)/\(∀ob v,u≠.frz ob v):=by
 cases o with
 | lst ws=>obtain ⟨vs,e,_⟩:=h;exact ⟨_,e,λ _ z=>(by cases z),λ _ _ z=>(by cases z)⟩
 | ro ws=>cases m
 | dct kvs=>obtain ⟨vs,e,_⟩:=h;exact ⟨_,e,λ _ z=>(by cases z),λ _ _ z=>(by cases z)⟩
 | tab q P=>obtain ⟨_,vs,e,_⟩:=h;exact ⟨_,e,λ _ z=>(by cases z),λ _ _ z=>(by cases z)⟩
theorem Vh {a b:Addr}{o:HO}{vs:List V}(h:qv K H a vs)(n:∀xs,H b≠some (.tup xs))(nf:∀ob u,H b≠some (.frz ob u)):qv K (upd H b o) a vs:=by
 rcases h with (h | ⟨ob,h⟩) | h
 ·exact .inl (.inl (by rw [qg];exact h;intro e;subst e;exact n _ h))
 ·exact .inl (.inr ⟨ob,by rw [qg];exact h;intro e;subst e;exact nf _ _ h⟩)
 ·exact .inr h
theorem Le.upd {b:Addr}{o:HO}{k:Nat}(hb:φ[k]? =some b)(n:∀xs,H b≠some (.tup xs))(nf:∀ob u,H b≠some (.frz ob u)):Le K φ H φ (upd H b o) where
 ex:=λ _ _ h=>h
 tp:=λ _ _ h=>Vh h n nf
 fr:=λ a u h z=>by
  rw [qg];exact h
  intro e;subst e;exact z k hb
 nw:=λ _ _ h=>.inl h
 st:=λ a h=>by
  by_cases e:a=b
  ·subst e;rw [jA] at h;cases h
  ·rw [qg e] at h;exact h
 fz:=λ a ob u h=>by
  rw [qg];exact h
  intro e;subst e;exact nf _ _ h
theorem Le.new {p:Addr}{o:HO}(hp:H p=none):Le K φ H φ (L2.upd H p o) where
 ex:=λ _ _ h=>h
 tp:=λ _ _ h=>Vh h (λ xs z=>by rw [hp] at z;cases z) (λ _ _ z=>by rw [hp] at z;cases z)
 fr:=λ a u h z=>by
  rw [qg];exact h
  intro e;subst e;rw [hp] at h;cases h
 nw:=λ _ _ h=>.inl h
 st:=λ a h=>by
  by_cases e:a=p
  ·subst e;rw [jA] at h;cases h
  ·rw [qg e] at h;exact h
 fz:=λ a ob u h=>by
  rw [qg];exact h
  intro e;subst e;rw [hp] at h;cases h
theorem Le.alloc {p:Addr}{o:HO}(hp:H p=none):Le K φ H (φ++[p]) (L2.upd H p o) where
 ex:=λ n a h=>by
  have:=(List.getElem?_eq_some_iff.mp h).1
  rw [List.getElem?_append_left this];exact h
 tp:=(Le.new (φ:=φ) hp).tp
 fr:=(Le.new (K:=K) (φ:=φ) hp).fr
 nw:=λ n a h=>by
  by_cases hn:n < φ.length
  ·rw [List.getElem?_append_left hn] at h;exact .inl h
  ·rw [List.getElem?_append_right (by omega)] at h
   have e:a=p:=by
    have:=List.mem_of_getElem? h
    simpa using this
   subst e;exact .inr hp
 st:=(Le.new (K:=K) (φ:=φ) hp).st
 fz:=(Le.new (K:=K) (φ:=φ) hp).fz
theorem Le.ofD {D:Addr}{o:HO}(hD:H D=none)(l:j3 K D φ (L2.upd H D o) φ' H'):Le K φ H φ' H' where
 ex:=l.ex
 tp:=λ a vs h=>l.tp a vs ((Le.new (K:=K) (φ:=φ) hD).tp a vs h)
 fr:=λ a u h n=>by
  have ne:a≠D:=by rintro rfl;rw [hD] at h;cases h
  exact l.fr a u ne (by rw [qg ne];exact h) n
 nw:=λ n a e=>by
  rcases l.nw n a e with e | e
  ·exact .inl e
  ·by_cases h:a=D
   ·subst h;rw [jA] at e;cases e
   ·rw [qg h] at e;exact .inr e
 st:=λ a e=>by
  have e':=l.st a e
  by_cases h:a=D
  ·subst h;rw [jA] at e';cases e'
  ·rw [qg h] at e';exact e'
 fz:=λ a ob u h=>l.fz a ob u (by rw [qg];exact h;rintro rfl;rw [hD] at h;cases h)
theorem j3.upd {D:Addr}{o:HO}{xs:List V}(hD:H D=some (.lst xs)):j3 K D φ H φ (L2.upd H D o) where
 ex:=λ _ _ h=>h
 tp:=λ a vs h=>Vh h (λ xs z=>by rw [hD] at z;cases z) (λ _ _ z=>by rw [hD] at z;cases z)
 fr:=λ a u ne h n=>by rw [qg ne];exact h
 nw:=λ _ _ h=>.inl h
 st:=λ a e=>by
  by_cases h:a=D
  ·subst h;rw [jA] at e;cases e
  ·rw [qg h] at e;exact e
 fz:=λ a ob u h=>by
  rw [qg];exact h
  intro e;subst e;rw [hD] at h;cases h
theorem OR.keep {a:Addr}{o:O}(h:OR K φ H a o)(l:Le K φ H φ' H')(e:∀u,H a=some u->H' a=some u):OR K φ' H' a o:=by
 cases o with
 | lst ws=>obtain ⟨vs,q,r⟩:=h;exact ⟨vs,e _ q,r.mono l⟩
 | dct kvs=>obtain ⟨vs,q,k,r⟩:=h;exact ⟨vs,e _ q,k,r.mono l⟩
 | tab q P=>obtain ⟨k,ps,q,r⟩:=h;exact ⟨k,ps,e _ q,r.mono l.fz⟩
 | ro ws=>
  obtain ⟨vs,q,r⟩:=h
  refine ⟨vs,?_,r.mono l⟩
  rcases q with ⟨ob,q⟩ | q
  ·exact .inl ⟨ob,e _ q⟩
  ·exact .inr q
theorem zG.alloc {p:Addr}{u:HO}{o:O}(S:zG K φ A H)(hp:H p=none)(new:OR K (φ++[p]) (L2.upd H p u) p o):Le K φ H (φ++[p]) (L2.upd H p u)/\zG K (φ++[p]) (A++[o]) (L2.upd H p u):=by
 have l:Le K φ H (φ++[p]) (L2.upd H p u):=Le.alloc hp
 have old:∀(i:Nat) a,(φ++[p])[i]? =some a->i<A.length->φ[i]? =some a:=λ i a e hi=>by
  rw [List.getElem?_append_left (by rw [S.len];exact hi)] at e;exact e
 refine ⟨l,by simp [S.len],λ i j a o1 o2 h1 h2 h3 h4 m1 m2=>?_,λ n o' e=>?_⟩
 ·by_cases hi:i<A.length
  ·by_cases hj:j<A.length
   ·rw [List.getElem?_append_left hi] at h3
    rw [List.getElem?_append_left hj] at h4
    exact S.inj i j a o1 o2 (old i a h1 hi) (old j a h2 hj) h3 h4 m1 m2
   ·exfalso
    rw [List.getElem?_append_left hi] at h3
    have hj':j=A.length:=by have:=(List.getElem?_eq_some_iff.mp h4).1;simp at this;omega
    subst hj'
    rw [List.getElem?_append_right (by rw [S.len];exact Nat.le_refl _),S.len] at h2
    simp at h2
    obtain ⟨a',e1,q⟩:=S.ob i o1 h3
    rw [old i a h1 hi] at e1;cases e1
    obtain ⟨z,hz,_⟩:=q.there m1
    rw [<- h2,hp] at hz;cases hz
  ·have hi':i=A.length:=by have:=(List.getElem?_eq_some_iff.mp h3).1;simp at this;omega
   by_cases hj:j<A.length
   ·exfalso
    rw [List.getElem?_append_left hj] at h4
    subst hi'
    rw [List.getElem?_append_right (by rw [S.len];exact Nat.le_refl _),S.len] at h1
    simp at h1
    obtain ⟨a',e1,q⟩:=S.ob j o2 h4
    rw [old j a h2 hj] at e1;cases e1
    obtain ⟨z,hz,_⟩:=q.there m2
    rw [<- h1,hp] at hz;cases hz
   ·have:=(List.getElem?_eq_some_iff.mp h4).1;simp at this;omega
 ·by_cases hn:n<A.length
  ·rw [List.getElem?_append_left hn] at e
   obtain ⟨a,e1,q⟩:=S.ob n o' e
   refine ⟨a,l.ex _ _ e1,q.keep l λ z hz=>?_⟩
   rw [qg];exact hz
   intro e2;subst e2;rw [hp] at hz;cases hz
  ·have hn':n=A.length:=by have:=(List.getElem?_eq_some_iff.mp e).1;simp at this;omega
   subst hn'
   rw [List.getElem?_append_right (Nat.le_refl _)] at e
   simp at e
   subst e
   exact ⟨p,by rw [List.getElem?_append_right (by rw [S.len];exact Nat.le_refl _),S.len];simp,new⟩
theorem zG.write {n:Nat}{p:Addr}{u:HO}{o o':O}(S:zG K φ A H)(hn:A[n]? =some o)(m:o.mut=true)(m':o'.mut=true)(hp:φ[n]? =some p)(new:OR K φ (L2.upd H p u) p o'):
  Le K φ H φ (L2.upd H p u)/\zG K φ (A.set n o') (L2.upd H p u):=by
 obtain ⟨p',e,q⟩:=S.ob n o hn
 rw [hp] at e;cases e
 obtain ⟨z,hz,nt,nf⟩:=q.there m
 have l:Le K φ H φ (L2.upd H p u):=Le.upd hp (λ xs e=>by rw [hz] at e;exact nt xs (Option.some.inj e)) λ ob v e=>by rw [hz] at e;exact nf ob v (Option.some.inj e)
 have mt:∀(i:Nat) (w:O),(A.set n o')[i]? =some w->w.mut=true->∃w',A[i]? =some w'/\w'.mut=true:=λ i w e mw=>by
  by_cases hi:i=n
  ·subst hi;exact ⟨o,hn,m⟩
  ·rw [List.getElem?_set_ne (Ne.symm hi)] at e;exact ⟨w,e,mw⟩
 refine ⟨l,by simp [S.len],λ i j a o1 o2 h1 h2 h3 h4 m1 m2=>?_,λ i w e=>?_⟩
 ·obtain ⟨w1,e1,k1⟩:=mt i o1 h3 m1
  obtain ⟨w2,e2,k2⟩:=mt j o2 h4 m2
  exact S.inj i j a w1 w2 h1 h2 e1 e2 k1 k2
 ·by_cases hi:i=n
  ·subst hi
   have:i<A.length:=(List.getElem?_eq_some_iff.mp hn).1
   rw [List.getElem?_set_self this] at e;cases e
   exact ⟨p,hp,new⟩
  ·rw [List.getElem?_set_ne (Ne.symm hi)] at e
   obtain ⟨a,e1,r⟩:=S.ob i w e
   refine ⟨a,e1,?_⟩
   by_cases hm:w.mut=true
   ·have ne:a≠p:=λ z=>hi (S.inj i n a w o e1 (by rw [z];exact hp) e hn hm m)
    exact r.keep l λ z hz=>by rw [qg ne];exact hz
   ·cases w with
    | lst _=>exact absurd rfl hm
    | dct _=>exact absurd rfl hm
    | tab _ _=>exact absurd rfl hm
    | ro ws=>
     obtain ⟨vs,r1,r2⟩:=r
     refine ⟨vs,?_,r2.mono l⟩
     rcases r1 with ⟨ob,r1⟩ | r1
     ·refine .inl ⟨ob,?_⟩
      rw [qg];exact r1
      intro z;subst z;rw [hz] at r1;exact nf _ _ (Option.some.inj r1)
     ·exact .inr r1
theorem zG.lay {p:Addr}{u:HO}(S:zG K φ A H)(hp:H p=none):zG K φ A (L2.upd H p u):=
 ⟨S.len,S.inj,λ n o e=>by
  obtain ⟨a,e1,q⟩:=S.ob n o e
  refine ⟨a,e1,q.keep (Le.new hp) λ z hz=>?_⟩
  rw [qg];exact hz
  intro e2;subst e2;rw [hp] at hz;cases hz⟩
theorem zG.off {D:Addr}{o:HO}{xs:List V}(S:zG K φ A H)(hD:H D=some (.lst xs))(n:∀k:Nat,φ[k]?≠some D):zG K φ A (L2.upd H D o):=
 ⟨S.len,S.inj,λ k u e=>by
  obtain ⟨a,e1,q⟩:=S.ob k u e
  have ne:a≠D:=λ z=>n k (by rw [<- z];exact e1)
  have l:j3 K D φ H φ (L2.upd H D o):=j3.upd hD
  refine ⟨a,e1,?_⟩
  cases u with
  | lst ws=>obtain ⟨vs,q,r⟩:=q;exact ⟨vs,by rw [qg ne];exact q,r.monoD l⟩
  | dct kvs=>obtain ⟨vs,q,k,r⟩:=q;exact ⟨vs,by rw [qg ne];exact q,k,r.monoD l⟩
  | tab _ _=>obtain ⟨k,vs,q,r⟩:=q;exact ⟨k,vs,by rw [qg ne];exact q,r.mono l.fz⟩
  | ro ws=>
   obtain ⟨vs,q,r⟩:=q
   refine ⟨vs,?_,r.monoD l⟩
   rcases q with ⟨ob,q⟩ | q
   ·exact .inl ⟨ob,by rw [qg ne];exact q⟩
   ·exact .inr q⟩
theorem zG.notin {D:Addr}(S:zG K φ A H)(hD:H D=none)(hK:K.lookup D=none):∀k:Nat,φ[k]?≠some D:=λ k e=>by
 have hk:k<A.length:=by rw [<- S.len];exact (List.getElem?_eq_some_iff.mp e).1
 obtain ⟨a,e1,q⟩:=S.ob k A[k] (by simp [hk])
 rw [e] at e1;cases e1
 cases ho:A[k] with
 | lst ws=>rw [ho] at q;obtain ⟨vs,z,_⟩:=q;rw [hD] at z;cases z
 | dct ws=>rw [ho] at q;obtain ⟨vs,z,_⟩:=q;rw [hD] at z;cases z
 | tab _ _=>rw [ho] at q;obtain ⟨_,vs,z,_⟩:=q;rw [hD] at z;cases z
 | ro ws=>
  rw [ho] at q
  obtain ⟨vs,z,_⟩:=q
  rcases z with ⟨ob,z⟩ | ⟨o,its,n,z,_⟩
  ·rw [hD] at z;cases z
  ·rw [hK] at z;cases z
theorem zG.Jo {D:Addr}{u:HO}{o:O}(S:zG K φ A H)(hD:H D=some u)(n:∀k:Nat,φ[k]?≠some D)(new:OR K (φ++[D]) H D o):zG K (φ++[D]) (A++[o]) H:=by
 have l:gh K φ H (φ++[D]) H:=⟨λ n a h=>by
  have:=(List.getElem?_eq_some_iff.mp h).1
  rw [List.getElem?_append_left this];exact h,λ _ _ h=>h,λ _ _ _ h=>h⟩
 have old:∀(i:Nat) a,(φ++[D])[i]? =some a->i<A.length->φ[i]? =some a:=λ i a e hi=>by
  rw [List.getElem?_append_left (by rw [S.len];exact hi)] at e;exact e
 have last:∀a,(φ++[D])[A.length]? =some a->a=D:=λ a e=>by
  rw [List.getElem?_append_right (by rw [S.len];exact Nat.le_refl _),S.len] at e
  simpa using e.symm
 refine ⟨by simp [S.len],λ i j a o1 o2 h1 h2 h3 h4 m1 m2=>?_,λ k o' e=>?_⟩
 ·by_cases hi:i<A.length
  ·by_cases hj:j<A.length
   ·rw [List.getElem?_append_left hi] at h3
    rw [List.getElem?_append_left hj] at h4
    exact S.inj i j a o1 o2 (old i a h1 hi) (old j a h2 hj) h3 h4 m1 m2
   ·exfalso
    have hj':j=A.length:=by have:=(List.getElem?_eq_some_iff.mp h4).1;simp at this;omega
    subst hj'
    exact n i (by rw [<- last a h2];exact old i a h1 hi)
  ·have hi':i=A.length:=by have:=(List.getElem?_eq_some_iff.mp h3).1;simp at this;omega
   by_cases hj:j<A.length
   ·exfalso
    subst hi'
    exact n j (by rw [<- last a h1];exact old j a h2 hj)
   ·have:=(List.getElem?_eq_some_iff.mp h4).1;simp at this;omega
 ·by_cases hn:k<A.length
  ·rw [List.getElem?_append_left hn] at e
   obtain ⟨a,e1,q⟩:=S.ob k o' e
   refine ⟨a,l.ex _ _ e1,?_⟩
   cases o' with
   | lst ws=>obtain ⟨vs,z,r⟩:=q;exact ⟨vs,z,r.monoW l⟩
   | dct ws=>obtain ⟨vs,z,z2,r⟩:=q;exact ⟨vs,z,z2,r.monoW l⟩
   | tab _ _=>exact q
   | ro ws=>obtain ⟨vs,z,r⟩:=q;exact ⟨vs,z,r.monoW l⟩
  ·have hn':k=A.length:=by have:=(List.getElem?_eq_some_iff.mp e).1;simp at this;omega
   subst hn'
   rw [List.getElem?_append_right (Nat.le_refl _)] at e
   simp at e
   subst e
   exact ⟨D,by rw [List.getElem?_append_right (by rw [S.len];exact Nat.le_refl _),S.len];simp,new⟩
theorem Le.Jo {D:Addr}{φ0:List Addr}{H0:Hp}(l:Le K φ0 H0 φ H)(h0:H0 D=none):Le K φ0 H0 (φ++[D]) H where
 ex:=λ n a h=>by
  have h':=l.ex n a h
  have:=(List.getElem?_eq_some_iff.mp h').1
  rw [List.getElem?_append_left this];exact h'
 tp:=l.tp
 fr:=l.fr
 nw:=λ n a e=>by
  by_cases hn:n < φ.length
  ·rw [List.getElem?_append_left hn] at e;exact l.nw n a e
  ·rw [List.getElem?_append_right (by omega)] at e
   have e':a=D:=by
    have:=List.mem_of_getElem? e
    simpa using this
   subst e';exact .inr h0
 st:=l.st
 fz:=l.fz
end
noncomputable abbrev St:=L2.St
noncomputable abbrev XR:=Str->Hp->Prop
noncomputable def PB (K:Frag)(φ:List Addr)(H:Hp)(Q:VK):W->Hx->Prop:=λ w A=>∀φ' H' v,Le K φ H φ' H'->zG K φ' A H'->RV K φ' H' w v->Q v H'
noncomputable def B5 (K:Frag)(φ:List Addr)(H:Hp)(Q:List V->Hp->Prop):List W->Hx->Prop:=λ w A=>∀φ' H' v,Le K φ H φ' H'->zG K φ' A H'->zF K φ' H' w v->Q v H'
noncomputable def EB (K:Frag)(φ:List Addr)(H:Hp)(xr:XR):Str->Hx->Prop:=λ x A=>∀φ' H',Le K φ H φ' H'->zG K φ' A H'->xr x H'
structure RE (K:Frag)(φ:List Addr)(H:Hp)(ρ:En)(σ:St):Prop where
 len:σ.length=ρ.length
 get:∀(i:Nat) (w:W),ρ[i]? =some (some w)->∃v,σ[i]? =some (some v)/\RV K φ H w v
section
variable {K:Frag}{φ φ1 φ':List Addr}{H H1 H':Hp}{A A1:Hx}{ρ:En}{σ:St}{xr:XR}
theorem RE.mono (r:RE K φ H ρ σ)(l:Le K φ H φ' H'):RE K φ' H' ρ σ:=⟨r.len,λ i w e=>let ⟨v,h1,h2⟩:=r.get i w e;⟨v,h1,h2.mono l⟩⟩
theorem PB.mono {Q:VK}{w:W}(h:PB K φ H Q w A)(l:Le K φ H φ1 H1):PB K φ1 H1 Q w A:=λ φ' H' v l'=>h φ' H' v (l.trans l')
theorem EB.mono {x:Str}(h:EB K φ H xr x A)(l:Le K φ H φ1 H1):EB K φ1 H1 xr x A:=λ φ' H' l'=>h φ' H' (l.trans l')
theorem RE.set {i:Nat}{w:W}{v:V}(r:RE K φ H ρ σ)(q:RV K φ H w v):RE K φ H (ρ.set i (some w)) (σ.set i (some v)):=
 ⟨by simp [r.len],λ j u e=>by
  by_cases h:i=j
  ·subst h
   have hi:i < ρ.length:=by
    have:=(List.getElem?_eq_some_iff.mp e).1
    simpa using this
   rw [List.getElem?_set_self hi] at e
   cases e
   exact ⟨v,by rw [List.getElem?_set_self (by rw [r.len];exact hi)],q⟩
  ·rw [List.getElem?_set_ne h] at e
   obtain ⟨x,h1,h2⟩:=r.get j u e
   exact ⟨x,by rw [List.getElem?_set_ne h];exact h1,h2⟩⟩
end
inductive MM (K:Frag)(xr:XR)(m:Ev)(σ:St)(H:Hp)(Q:VK):Prop
 | mk (φ:List Addr) (A:Hx) (ρ:En) (S:zG K φ A H) (re:RE K φ H ρ σ) (h:(m ρ A).post (PB K φ H Q) (EB K φ H xr))
noncomputable def tM (K:Frag)(xr:XR)(m:Ev):TE:=λ σ H Q=>MM K xr m σ H Q
inductive MT (K:Frag)(xr:XR)(m:Ev)(σ:St)(H:Hp)(Q:Bool->Hp->Prop):Prop
 | mk (φ:List Addr) (A:Hx) (ρ:En) (S:zG K φ A H) (re:RE K φ H ρ σ) (h:(m ρ A).post (λ w A'=>∃b,w=.bl b/\∀φ' H',Le K φ H φ' H'->zG K φ' A' H'->Q b H') (EB K φ H xr))
noncomputable def tT (K:Frag)(xr:XR)(m:Ev):TT:=λ σ H Q=>MT K xr m σ H Q
noncomputable abbrev Ea:=En->Hx->R (List W)
inductive MA (K:Frag)(xr:XR)(m:Ea)(σ:St)(H:Hp)(Q:List V->Hp->Prop):Prop
 | mk (φ:List Addr) (A:Hx) (ρ:En) (S:zG K φ A H) (re:RE K φ H ρ σ) (h:(m ρ A).post (B5 K φ H Q) (EB K φ H xr))
noncomputable def Wy (K:Frag)(xr:XR)(m:Ea):TA:=λ σ H Q=>MA K xr m σ H Q
noncomputable def SE (X:Cx)(xr:XR)(e:Expr)(m:Ev):Prop:=PE X e (tM X.K xr m)
noncomputable def ST (X:Cx)(xr:XR)(e:Expr)(m:Ev):Prop:=PT X e (tT X.K xr m)
noncomputable def SW (X:Cx)(xr:XR)(e:Expr)(m:Ev):Prop:=PW X e (tT X.K xr m)
noncomputable def SA (X:Cx)(xr:XR)(es:List Expr)(m:Ea):Prop:=PA X es (Wy X.K xr m)
section
variable {X:Cx}{xr:XR}{e a b:Expr}{es:List Expr}{m ma mb mc:Ev}{pos:Pos}
theorem PE.imp {t t':TE}(h:PE X e t)(i:∀σ H Q,t' σ H Q->t σ H Q):PE X e t':=λ pins s σ H Q I hw=>h pins s σ H Q I (i σ H Q hw)
theorem PT.imp {t t':TT}(h:PT X e t)(i:∀σ H Q,t' σ H Q->t σ H Q):PT X e t':=λ pins s σ H Q I hw=>h pins s σ H Q I (i σ H Q hw)
theorem PW.imp {t t':TT}(h:PW X e t)(i:∀σ H Q,t' σ H Q->t σ H Q):PW X e t':=λ wh pins s σ H Q I hw=>h wh pins s σ H Q I (i σ H Q hw)
theorem PA.imp {t t':TA}(h:PA X es t)(i:∀σ H Q,t' σ H Q->t σ H Q):PA X es t':=λ p pins s σ H Q I hw=>h p pins s σ H Q I (i σ H Q hw)
theorem tM.go {K:Frag}{φ:List Addr}{A:Hx}{H:Hp}{ρ:En}{σ:St}{Q:VK}{G:W->Hx->Prop}(S:zG K φ A H)(r:RE K φ H ρ σ)(h:(m ρ A).post G (EB K φ H xr))
  (k:∀w A1 φ1 H1 v,G w A1->Le K φ H φ1 H1->zG K φ1 A1 H1->RV K φ1 H1 w v->Q v H1):tM K xr m σ H Q:=
 ⟨φ,A,ρ,S,r,qo h (λ w A1 g φ1 H1 v l s q=>k w A1 φ1 H1 v g l s q) λ _ _ z=>z⟩
theorem Wy.go {K:Frag}{φ:List Addr}{A:Hx}{H:Hp}{ρ:En}{σ:St}{m:Ea}{Q:List V->Hp->Prop}{G:List W->Hx->Prop}(S:zG K φ A H)(r:RE K φ H ρ σ)(h:(m ρ A).post G (EB K φ H xr))
  (k:∀w A1 φ1 H1 v,G w A1->Le K φ H φ1 H1->zG K φ1 A1 H1->zF K φ1 H1 w v->Q v H1):Wy K xr m σ H Q:=
 ⟨φ,A,ρ,S,r,qo h (λ w A1 g φ1 H1 v l s q=>k w A1 φ1 H1 v g l s q) λ _ _ z=>z⟩
theorem tT.go {K:Frag}{φ:List Addr}{A:Hx}{H:Hp}{ρ:En}{σ:St}{Q:Bool->Hp->Prop}{G:W->Hx->Prop}(S:zG K φ A H)(r:RE K φ H ρ σ)(h:(m ρ A).post G (EB K φ H xr))
  (k:∀w A1,G w A1->∃b,w=.bl b/\∀φ1 H1,Le K φ H φ1 H1->zG K φ1 A1 H1->Q b H1):tT K xr m σ H Q:=
 ⟨φ,A,ρ,S,r,qo h (λ w A1 g=>k w A1 g) λ _ _ z=>z⟩
noncomputable def zc (i:Nat):Ev:=λ ρ A=>match ρ[i]? with
 | some (some w)=>.ok w A
 | _=>.bad
noncomputable def zi (w:W):Ev:=λ _ A=>.ok w A
noncomputable def zl (g:W->W->Hx->R W)(a b:Ev):Ev:=λ ρ A=>(a ρ A).bind λ x A1=>(b ρ A1).bind λ y A2=>g x y A2
noncomputable def Qb (g:W->Hx->R W)(a:Ev):Ev:=λ ρ A=>(a ρ A).bind λ x A1=>g x A1
noncomputable abbrev wg:Str->Hx->Prop:=λ _ _=>False
noncomputable def j7 (K:Frag)(r:R2)(g:W->W->Hx->R W):Prop:=∀φ A H x y u v Q,zG K φ A H->RV K φ H u x->RV K φ H v y->(g u v A).post (PB K φ H Q) wg->r x y H Q
noncomputable def Ox (K:Frag)(r:V->Hp->VK->Prop)(g:W->Hx->R W):Prop:=∀φ A H x u Q,zG K φ A H->RV K φ H u x->(g u A).post (PB K φ H Q) wg->r x H Q
noncomputable def qB {α:Type}(r:R α):Prop:=∀x A,r≠.exc x A
theorem QT {α:Type}{r:R α}{P:α->Hx->Prop}{E:Str->Hx->Prop}(n:qB r)(h:r.post P E):r.post P wg:=by
 cases r with
 | ok a A=>exact h
 | exc x A=>exact absurd rfl (n x A)
 | bad=>exact h
theorem zl.read {g:W->W->Hx->R W}{r:R2}(hn:∀x y A,qB (g x y A))(hg:j7 X.K r g):∀σ H Q,tM X.K xr (zl g ma mb) σ H Q->Yt r (tM X.K xr ma) (tM X.K xr mb) σ H Q:=by
 rintro σ H Q ⟨φ,A,ρ,S,re,h⟩
 refine tM.go S re (zV.mp h) λ w A1 φ1 H1 v h1 l1 S1 q1=>?_
 refine tM.go S1 (re.mono l1) (qo (zV.mp h1) (λ _ _ z=>z) λ _ _ z=>z.mono l1) λ w2 A2 φ2 H2 v2 h2 l2 S2 q2=>?_
 exact hg φ2 A2 H2 v v2 w w2 Q S2 (q1.mono l2) q2 (qo (QT (hn _ _ _) h2) (λ _ _ z=>z.mono (l1.trans l2)) λ _ _ z=>z)
theorem Qb.read {g:W->Hx->R W}{r:V->Hp->VK->Prop}(hn:∀x A,qB (g x A))(hg:Ox X.K r g):∀σ H Q,tM X.K xr (Qb g ma) σ H Q->Al r (tM X.K xr ma) σ H Q:=by
 rintro σ H Q ⟨φ,A,ρ,S,re,h⟩
 refine tM.go S re (zV.mp h) λ w A1 φ1 H1 v h1 l1 S1 q1=>?_
 exact hg φ1 A1 H1 v w Q S1 q1 (qo (QT (hn _ _) h1) (λ _ _ z=>z.mono l1) λ _ _ z=>z)
theorem Qh {op:Operator}{r:R2}{g:W->W->Hx->R W}(ho:qE X (binaryOp op) r)(hn:∀x y A,qB (g x y A))(hg:j7 X.K r g)(ha:SE X xr a ma)(hb:SE X xr b mb):SE X xr (.BinOp a op b pos) (zl g ma mb):=
 PE.imp (Cf ho ha hb) (zl.read hn hg)
theorem R3 {op:CmpOp}{r:R2}{g:W->W->Hx->R W}(ho:qE X (compareOp op) r)(hn:∀x y A,qB (g x y A))(hg:j7 X.K r g)(ha:SE X xr a ma)(hb:SE X xr b mb)(hm:behindInMarks op b=false):SE X xr (.Compare a [op] [b] pos) (zl g ma mb):=
 PE.imp (Ep ho ha hb hm) (zl.read hn hg)
theorem tT.toM {K:Frag}{σ:St}{H:Hp}{Q:Bool->Hp->Prop}(h:tT K xr m σ H Q):tM K xr m σ H λ x H'=>∃k,x=.bl k/\Q k H':=by
 obtain ⟨φ,A,ρ,S,re,h⟩:=h
 refine tM.go S re h λ w A1 φ1 H1 v ⟨b,e,q⟩ l1 S1 q1=>?_
 subst e
 exact ⟨b,q1,q φ1 H1 l1 S1⟩
theorem Pf {op:CmpOp}{r:R2}{g:W->W->Hx->R W}(ho:qE X (compareOp op) r)(hn:∀x y A,qB (g x y A))(hg:j7 X.K r g)(ha:SE X xr a ma)(hb:SE X xr b mb)(hm:behindInMarks op b=false):ST X xr (.Compare a [op] [b] pos) (zl g ma mb):=
 PT.imp (FT ho ha hb hm) λ σ H Q h=>zl.read hn hg σ H _ h.toM
noncomputable def kL (g g':W->W->Hx->R W)(a b c:Ev):Ev:=λ ρ A=>(a ρ A).bind λ x A1=>(b ρ A1).bind λ y A2=>(g x y A2).bind λ z A3=>match z with
 | .bl true=>(c ρ A3).bind λ w A4=>g' y w A4
 | .bl false=>.ok (.bl false) A3
 | _=>.bad
theorem kL.read {g g':W->W->Hx->R W}{r r':R2}(hn:∀x y A,qB (g x y A))(hg:j7 X.K r g)(hn':∀x y A,qB (g' x y A))(hg':j7 X.K r' g'):
  ∀σ H Q,tM X.K xr (kL g g' ma mb mc) σ H Q->Vl r r' (tM X.K xr ma) (tM X.K xr mb) (tM X.K xr mc) σ H Q:=by
 rintro σ H Q ⟨φ,A,ρ,S,re,h⟩
 refine tM.go S re (zV.mp h) λ w A1 φ1 H1 v h1 l1 S1 q1=>?_
 refine tM.go S1 (re.mono l1) (qo (zV.mp h1) (λ _ _ z=>z) λ _ _ z=>z.mono l1) λ w2 A2 φ2 H2 v2 h2 l2 S2 q2=>?_
 have l02:=l1.trans l2
 have h2':=zV.mp h2
 have h3:(g w w2 A2).post (PB X.K φ2 H2 λ z H3=>∃k,z=.bl k/\if k=true then tM X.K xr mc σ H3 λ w' H4=>r' v2 w' H4 Q else Q (.bl false) H3) wg:=by
  refine qo (QT (hn _ _ _) h2') (λ z A3 h3 φ3 H3 zv l3 S3 q3=>?_) λ _ _ z=>z
  have l03:=l02.trans l3
  cases z with
  | bl k=>
   refine ⟨k,q3,?_⟩
   cases k with
   | true=>
    rw [if_pos rfl]
    refine tM.go S3 (re.mono l03) (qo (zV.mp h3) (λ _ _ z=>z) λ _ _ z=>z.mono l03) λ w4 A4 φ4 H4 v4 h4 l4 S4 q4=>?_
    exact hg' φ4 A4 H4 v2 v4 w2 w4 Q S4 ((q2.mono l3).mono l4) q4 (qo (QT (hn' _ _ _) h4) (λ _ _ z=>z.mono (l03.trans l4)) λ _ _ z=>z)
   | false=>
    rw [if_neg Bool.false_ne_true]
    exact h3 φ3 H3 _ l03 S3 rfl
  | non=>cases h3
  | int _=>cases h3
  | str _=>cases h3
  | tup _=>cases h3
  | ref _=>cases h3
  | clo _ _ _=>cases h3
  | xc _=>cases h3
 exact hg φ2 A2 H2 v v2 w w2 _ S2 (q1.mono l2) q2 h3
theorem Hr {c:Expr}{op op':CmpOp}{r r':R2}{g g':W->W->Hx->R W}(ho:qE X (compareOp op) r)(hn:∀x y A,qB (g x y A))(hg:j7 X.K r g)(ho':qE X (compareOp op') r')(hn':∀x y A,qB (g' x y A))(hg':j7 X.K r' g')
  (ha:SE X xr a ma)(hb:SE X xr b mb)(hc:SE X xr c mc)(hm:lastMarks [op,op'] [b,c]=false:=by with_unfolding_all rfl):SE X xr (.Compare a [op,op'] [b,c] pos) (kL g g' ma mb mc):=
 PE.imp (L7 ho ho' ha hb hc hm) (kL.read hn hg hn' hg')
theorem Ha {c:Expr}{op op':CmpOp}{r r':R2}{g g':W->W->Hx->R W}(ho:qE X (compareOp op) r)(hn:∀x y A,qB (g x y A))(hg:j7 X.K r g)(ho':qE X (compareOp op') r')(hn':∀x y A,qB (g' x y A))(hg':j7 X.K r' g')
  (ha:SE X xr a ma)(hb:SE X xr b mb)(hc:SE X xr c mc)(hm:lastMarks [op,op'] [b,c]=false:=by with_unfolding_all rfl):ST X xr (.Compare a [op,op'] [b,c] pos) (kL g g' ma mb mc):=
 PT.imp (IU ho ho' ha hb hc hm) λ σ H Q h=>kL.read hn hg hn' hg' σ H _ h.toM
noncomputable def wH (a b:Ev):Ev:=λ ρ A=>(a ρ A).bind λ x A1=>match x with
 | .bl true=>b ρ A1
 | .bl false=>.ok (.bl false) A1
 | _=>.bad
noncomputable def g8 (a b:Ev):Ev:=λ ρ A=>(a ρ A).bind λ x A1=>match x with
 | .bl true=>.ok (.bl true) A1
 | .bl false=>b ρ A1
 | _=>.bad
noncomputable def kz (a:Ev):Ev:=λ ρ A=>(a ρ A).bind λ x A1=>match x with
 | .bl k=>.ok (.bl (!k)) A1
 | _=>.bad
noncomputable def Z7 (c a b:Ev):Ev:=λ ρ A=>(c ρ A).bind λ x A1=>match x with
 | .bl true=>a ρ A1
 | .bl false=>b ρ A1
 | _=>.bad
theorem tT.mono {K:Frag}{φ φ1:List Addr}{H H1:Hp}{A1:Hx}{ρ:En}{σ:St}{Q:Bool->Hp->Prop}(S1:zG K φ1 A1 H1)(l1:Le K φ H φ1 H1)(re:RE K φ H ρ σ)
  (h:(m ρ A1).post (λ w A'=>∃b,w=.bl b/\∀φ' H',Le K φ H φ' H'->zG K φ' A' H'->Q b H') (EB K φ H xr)):tT K xr m σ H1 Q:=
 ⟨φ1,A1,ρ,S1,re.mono l1,qo h (λ w A' ⟨b,e,q⟩=>⟨b,e,λ φ' H' l s=>q φ' H' (l1.trans l) s⟩) λ _ _ z=>z.mono l1⟩
noncomputable def zo:Ea:=λ _ A=>.ok [] A
noncomputable def zh (a:Ev)(r:Ea):Ea:=λ ρ A=>(a ρ A).bind λ x A1=>(r ρ A1).bind λ xs A2=>.ok (x::xs) A2
noncomputable def zS (a:Ea):Ev:=λ ρ A=>(a ρ A).bind λ xs A1=>.ok (.tup xs) A1
noncomputable def zX (a:Ea):Ev:=λ ρ A=>(a ρ A).bind λ xs A1=>.ok (.ref A1.length) (A1++[.lst xs])
theorem Jc {K:Frag}{φ:List Addr}{A:Hx}{H:Hp}{p:Addr}{ws:List W}{vs:List V}(S:zG K φ A H)(hp:H p=none)(r:zF K φ H ws vs):
  Le K φ H φ (upd H p (.tup vs))/\zG K φ A (upd H p (.tup vs))/\RV K φ (upd H p (.tup vs)) (.tup ws) (.ref p):=
 ⟨Le.new hp,S.lay hp,p,vs,rfl,qv.of jA,r.mono (Le.new hp)⟩
theorem J3 {K:Frag}{φ:List Addr}{A:Hx}{H:Hp}{p:Addr}{ws:List W}{vs:List V}(S:zG K φ A H)(hp:H p=none)(r:zF K φ H ws vs):
  Le K φ H (φ++[p]) (upd H p (.lst vs))/\zG K (φ++[p]) (A++[.lst ws]) (upd H p (.lst vs))/\RV K (φ++[p]) (upd H p (.lst vs)) (.ref A.length) (.ref p):=by
 have l:Le K φ H (φ++[p]) (upd H p (.lst vs)):=Le.alloc hp
 obtain ⟨h1,h2⟩:=S.alloc (o:=.lst ws) hp ⟨vs,jA,r.mono l⟩
 exact ⟨h1,h2,p,rfl,by rw [<- S.len];simp⟩
theorem D8 {mr:Ea}(h:SA X xr es mr)(hl:∀ρ A ws A',mr ρ A=.ok ws A'->ws.length<=sizeLine):SE X xr (.List es pos) (zX mr):=
 PE.imp (DO h) λ σ H Q ⟨φ,A,ρ,S,re,h⟩=>by
  have h':=zV.mp h
  cases e:mr ρ A with
  | ok ws A'=>
   rw [e] at h'
   refine ⟨φ,A,ρ,S,re,?_⟩
   rw [e]
   intro φ1 H1 vs l1 S1 q1
   refine ⟨by rw [<- q1.length];exact hl ρ A ws A' e,λ p hp=>?_⟩
   obtain ⟨a1,a2,a3⟩:=J3 S1 hp q1
   exact h' _ _ _ (l1.trans a1) a2 a3
  | exc x A'=>rw [e] at h';refine ⟨φ,A,ρ,S,re,?_⟩;rw [e];exact h'
  | bad=>rw [e] at h';exact h'.elim
end
inductive Fl where
 | nx (ρ:En) | rt (w:W) | bk (ρ:En) | ct (ρ:En)
noncomputable abbrev Ex:=En->Hx->R Fl
noncomputable def FB (K:Frag)(φ:List Addr)(H:Hp)(D:Ends):Fl->Hx->Prop
 | .nx ρ,A=>∀φ' H' σ',Le K φ H φ' H'->zG K φ' A H'->RE K φ' H' ρ σ'->D.nx σ' H'
 | .rt w,A=>∀φ' H' v,Le K φ H φ' H'->zG K φ' A H'->RV K φ' H' w v->D.rt v H'
 | .bk ρ,A=>∀φ' H' σ',Le K φ H φ' H'->zG K φ' A H'->RE K φ' H' ρ σ'->D.bk σ' H'
 | .ct ρ,A=>∀φ' H' σ',Le K φ H φ' H'->zG K φ' A H'->RE K φ' H' ρ σ'->D.ct σ' H'
theorem FB.mono {K:Frag}{φ φ1:List Addr}{H H1:Hp}{D:Ends}{fl:Fl}{A:Hx}(h:FB K φ H D fl A)(l:Le K φ H φ1 H1):FB K φ1 H1 D fl A:=by
 cases fl with
 | nx ρ=>exact λ φ' H' v l'=>h φ' H' v (l.trans l')
 | rt ρ=>exact λ φ' H' v l'=>h φ' H' v (l.trans l')
 | bk ρ=>exact λ φ' H' v l'=>h φ' H' v (l.trans l')
 | ct ρ=>exact λ φ' H' v l'=>h φ' H' v (l.trans l')
inductive MS (K:Frag)(xr:XR)(m:Ex)(D:Ends)(σ:St)(H:Hp):Prop
 | mk (φ:List Addr) (A:Hx) (ρ:En) (S:zG K φ A H) (re:RE K φ H ρ σ) (h:(m ρ A).post (FB K φ H D) (EB K φ H xr))
noncomputable def tS (K:Frag)(xr:XR)(m:Ex):TS:=λ D σ H=>MS K xr m D σ H
noncomputable def SS (X:Cx)(xr:XR)(st:Stmt)(m:Ex):Prop:=PS X st (tS X.K xr m)
noncomputable def WJ (X:Cx)(xr:XR)(st:List Stmt)(m:Ex):Prop:=yi X st (tS X.K xr m)
section
variable {X:Cx}{xr:XR}{e a b c:Expr}{st:Stmt}{rest:List Stmt}{m ma mb mc:Ev}{m1 m2:Ex}{pos:Pos}
theorem PS.imp {t t':TS}(h:PS X st t)(i:∀D σ H,t' D σ H->t D σ H):PS X st t':=λ pins s σ H D I hw=>h pins s σ H D I (i D σ H hw)
theorem yi.imp {t t':TS}(h:yi X rest t)(i:∀D σ H,t' D σ H->t D σ H):yi X rest t':=λ pins s σ H D I hw=>h pins s σ H D I (i D σ H hw)
noncomputable def zw:Ex:=λ ρ A=>.ok (.nx ρ) A
noncomputable def zp (m1 m2:Ex):Ex:=λ ρ A=>(m1 ρ A).bind λ fl A1=>match fl with
 | .nx ρ1=>m2 ρ1 A1
 | f=>.ok f A1
noncomputable def qQ (m:Ev):Ex:=λ ρ A=>(m ρ A).bind λ _ A1=>.ok (.nx ρ) A1
noncomputable def qj (m:Ev):Ex:=λ ρ A=>(m ρ A).bind λ w A1=>.ok (.rt w) A1
noncomputable def jc (c:Ev)(a b:Ex):Ex:=λ ρ A=>(c ρ A).bind λ x A1=>match x with
 | .bl true=>a ρ A1
 | .bl false=>b ρ A1
 | _=>.bad
noncomputable def zK (i:Nat)(m:Ev):Ex:=λ ρ A=>(m ρ A).bind λ w A1=>.ok (.nx (ρ.set i (some w))) A1
theorem zK.read {i:Nat}:∀D σ H,tS X.K xr (zK i m) D σ H->Wk (tM X.K xr m) (Wb i) D σ H:=by
 rintro D σ H ⟨φ,A,ρ,S,re,h⟩
 exact tM.go S re (zV.mp h) λ w A1 φ1 H1 v h1 l1 S1 q1=>h1 φ1 H1 _ l1 S1 ((re.mono l1).set q1)
noncomputable def wu (g:W->W->W->Hx->R Unit)(me mo mi:Ev):Ex:=λ ρ A=>(me ρ A).bind λ v A1=>(mo ρ A1).bind λ o A2=>(mi ρ A2).bind λ i A3=>(g o i v A3).bind λ _ A4=>.ok (.nx ρ) A4
noncomputable def Wc (K:Frag)(t:Qs)(g:W->W->W->Hx->R Unit):Prop:=∀φ A H o i v wo wi wv Q,zG K φ A H->RV K φ H wo o->RV K φ H wi i->RV K φ H wv v->
 (g wo wi wv A).post (λ _ A'=>∀φ' H',Le K φ H φ' H'->zG K φ' A' H'->Q H') wg->t o i v H Q
theorem HF {o i:Expr}{mo mi:Ev}{t:Qs}{g:W->W->W->Hx->R Unit}{tpos:Pos}(ht:Ww X t)(hn:∀o i v A,qB (g o i v A))(hg:Wc X.K t g)(he:SE X xr e m)(ho:SE X xr o mo)(hi:SE X xr i mi)
  (hs:swapsWithSole [.Subscript o i tpos] e pos.line X.env=pure false:=by rfl)(hw:swappedStores [.Subscript o i tpos] e X.env=pure none:=by rfl)
  (h1:(assignEach [.Subscript o i tpos] X.env).map (·.2)=[assign (.Subscript o i tpos) X.env]:=by rfl)
  (ha:∀v,assign (.Subscript o i tpos) X.env v=(do
   let ov <- holding [v] (eval o X.env)
   let iv <- holding [v,ov] (eval i X.env)
   standAt tpos
   holding [v,ov,iv] (setItem ov iv v)
   release [v,ov,iv] []):=by intro _;rfl):SS X xr (.Assign [.Subscript o i tpos] e pos) (wu g m mo mi):=
 PS.imp (Vt he (Vq ho hi ht ha) hs hw h1) λ D σ H ⟨φ,A,ρ,S,re,h⟩=>by
  refine tM.go S re (zV.mp h) λ w1 A1 φ1 H1 v1 h1 l1 S1 q1=>?_
  refine tM.go S1 (re.mono l1) (qo (zV.mp h1) (λ _ _ z=>z) λ _ _ z=>z.mono l1) λ w2 A2 φ2 H2 v2 h2 l2 S2 q2=>?_
  have l02:=l1.trans l2
  refine tM.go S2 (re.mono l02) (qo (zV.mp h2) (λ _ _ z=>z) λ _ _ z=>z.mono l02) λ w3 A3 φ3 H3 v3 h3 l3 S3 q3=>?_
  have l03:=l02.trans l3
  refine hg φ3 A3 H3 v2 v3 v1 w2 w3 w1 _ S3 (q2.mono l3) q3 (q1.mono (l2.trans l3)) ?_
  cases hr:g w2 w3 w1 A3 with
  | ok u A4=>
   rw [hr] at h3
   exact λ φ4 H4 l4 S4=>h3 φ4 H4 σ (l03.trans l4) S4 (re.mono (l03.trans l4))
  | exc x A4=>exact absurd hr (hn _ _ _ _ x A4)
  | bad=>rw [hr] at h3;exact h3.elim
structure jv where
 at_:Hx->Nat->Option (Option W)
 len:Nat
noncomputable def ZC (K:Frag)(φ:List Addr)(H:Hp)(j:jv)(J:It):Prop:=∀i φ' H' A',gh K φ H φ' H'->zG K φ' A' H'->
 (∀w,j.at_ A' i=some (some w)->J.go i H'/\∀x H1,J.yld i H' x H1->Le K φ' H' φ' H1/\zG K φ' A' H1/\RV K φ' H1 w x)/\(j.at_ A' i=some none->J.stop i H')
noncomputable abbrev Ei:=En->Hx->R jv
inductive MI (K:Frag)(xr:XR)(mi:Ei)(σ:St)(H:Hp)(Rr:It->Hp->Prop):Prop
 | mk (φ:List Addr) (A:Hx) (ρ:En) (S:zG K φ A H) (re:RE K φ H ρ σ) (h:(mi ρ A).post (λ j A1=>∀φ1 H1 J,Le K φ H φ1 H1->zG K φ1 A1 H1->ZC K φ1 H1 j J->Rr J H1) (EB K φ H xr))
noncomputable def tI (K:Frag)(xr:XR)(mi:Ei):TI:=λ σ H Rr=>MI K xr mi σ H Rr
noncomputable def SI (X:Cx)(xr:XR)(tg iter:Expr)(mi:Ei):Prop:=PI X tg iter (tI X.K xr mi)
theorem PI.imp {tg:Expr}{t t':TI}(h:PI X tg e t)(i:∀σ H Q,t' σ H Q->t σ H Q):PI X tg e t':=λ pins s σ H Q I hw=>h pins s σ H Q I (i σ H Q hw)
noncomputable abbrev Tg:=W->En->Option En
inductive MG (K:Frag)(tw:Tg)(v:V)(σ:St)(H:Hp)(Q:St->Hp->Prop):Prop
 | mk (φ:List Addr) (A:Hx) (ρ:En) (w:W) (ρ':En) (S:zG K φ A H) (re:RE K φ H ρ σ) (rv:RV K φ H w v) (t:tw w ρ=some ρ') (q:∀σ',RE K φ H ρ' σ'->Q σ' H)
noncomputable def tG (K:Frag)(tw:Tg):TG:=λ v σ H Q=>MG K tw v σ H Q
noncomputable def SG (X:Cx)(tg:Expr)(tw:Tg):Prop:=PG X tg (tG X.K tw)
theorem PG.imp {tg:Expr}{t t':TG}(h:PG X tg t)(i:∀v σ H Q,t' v σ H Q->t v σ H Q):PG X tg t':=λ pins s σ H v u Q I r hw=>h pins s σ H v u Q I r (i v σ H Q hw)
noncomputable def zA (i:Nat):Tg:=λ w ρ=>some (ρ.set i (some w))
noncomputable def kN (i j:Nat):Tg:=λ w ρ=>match w with
 | .tup [x,y]=>some ((ρ.set i (some x)).set j (some y))
 | _=>none
noncomputable def jN (j:jv)(st:W->Ex):Nat->Nat->Ex
 | 0,i,ρ,A=>match j.at_ A i with
  | some none=>.ok (.nx ρ) A
  | _=>.bad
 | f+1,i,ρ,A=>match j.at_ A i with
  | some none=>.ok (.nx ρ) A
  | some (some w)=>(st w ρ A).bind λ fl A1=>match fl with
   | .nx ρ1=>jN j st f (i+1) ρ1 A1
   | .ct ρ1=>jN j st f (i+1) ρ1 A1
   | .bk ρ1=>.ok (.nx ρ1) A1
   | .rt w=>.ok (.rt w) A1
  | none=>.bad
noncomputable def turn (tw:Tg)(body:Ex)(w:W):Ex:=λ ρ A=>match tw w ρ with
 | some ρ1=>body ρ1 A
 | none=>.bad
noncomputable def jE (mi:Ei)(tw:Tg)(body:Ex):Ex:=λ ρ A=>(mi ρ A).bind λ j A1=>jN j (turn tw body) j.len 0 ρ A1
inductive Oy (K:Frag)(xr:XR)(j:jv)(t:W->Ex)(D:Ends)(φ1:List Addr)(H1:Hp)(f i:Nat)(σ':St)(H':Hp):Prop
 | mk (φ2:List Addr) (A2:Hx) (ρ2:En) (l:Le K φ1 H1 φ2 H') (S:zG K φ2 A2 H') (re:RE K φ2 H' ρ2 σ') (h:(jN j t f i ρ2 A2).post (FB K φ2 H' D) (EB K φ2 H' xr))
noncomputable def Zy (c:Ev)(body:Ex):Nat->Ex
 | 0,ρ,A=>.bad
 | f+1,ρ,A=>(c ρ A).bind λ x A1=>match x with
  | .bl true=>(body ρ A1).bind λ fl A2=>match fl with
   | .nx ρ1=>Zy c body f ρ1 A2
   | .ct ρ1=>Zy c body f ρ1 A2
   | .bk ρ1=>.ok (.nx ρ1) A2
   | .rt w=>.ok (.rt w) A2
  | .bl false=>.ok (.nx ρ) A1
  | _=>.bad
noncomputable def Pa (f:Nat)(c:Ev)(body:Ex):Ex:=Zy c body f
noncomputable def gL (nl:Nat)(cap:List Nat)(ρ:En):En:=List.replicate nl none++cap.map λ i=>(ρ[i]?).join
theorem RE.w9 {K:Frag}{φ:List Addr}{H:Hp}{ρ:En}{σ:St}{nl:Nat}{cap:List Nat}(r:RE K φ H ρ σ):RE K φ H (gL nl cap ρ) (L2.w9 nl cap σ):=by
 refine ⟨by simp [gL,L2.w9],λ i w e=>?_⟩
 unfold gL at e
 unfold L2.w9
 by_cases hi:i<nl
 ·rw [List.getElem?_append_left (by simpa using hi),List.getElem?_replicate] at e
  split at e<;>cases e
 ·rw [List.getElem?_append_right (by simpa using hi),List.length_replicate,List.getElem?_map] at e
  rw [List.getElem?_append_right (by simpa using hi),List.length_replicate,List.getElem?_map]
  cases hc:cap[i - nl]? with
  | none=>rw [hc] at e;cases e
  | some k=>
   rw [hc] at e
   have e2:(ρ[k]?).join=some w:=Option.some.inj e
   cases hk:ρ[k]? with
   | none=>rw [hk] at e2;cases e2
   | some o=>cases o with
    | none=>rw [hk] at e2;cases e2
    | some w'=>
     rw [hk] at e2
     cases e2
     obtain ⟨v,h1,h2⟩:=r.get k w hk
     exact ⟨v,by simp [h1],h2⟩
noncomputable abbrev Em:=En->List W->Hx->R (En × List W)
noncomputable def zP:Nat:=100000
noncomputable def zJ (elt:Ev):Em:=λ ρ acc A=>(elt ρ A).bind λ y A1=>if acc.length<zP then .ok (ρ,acc++[y]) A1 else .bad
noncomputable def qt (j:jv)(tw:Tg)(ifs:Ev)(em:Em):Nat->Nat->Em
 | 0,i,ρ,acc,A=>match j.at_ A i with
  | some none=>.ok (ρ,acc) A
  | _=>.bad
 | f+1,i,ρ,acc,A=>match j.at_ A i with
  | some none=>.ok (ρ,acc) A
  | some (some w)=>match tw w ρ with
   | some ρ1=>(ifs ρ1 A).bind λ c A1=>match c with
    | .bl true=>(em ρ1 acc A1).bind λ p A2=>qt j tw ifs em f (i+1) p.1 p.2 A2
    | .bl false=>qt j tw ifs em f (i+1) ρ1 acc A1
    | _=>.bad
   | none=>.bad
  | none=>.bad
noncomputable def wA (mi:Ei)(tw:Tg)(ifs:Ev)(em:Em):Em:=λ ρ acc A=>(mi ρ A).bind λ j A1=>qt j tw ifs em j.len 0 ρ acc A1
noncomputable abbrev jG:=En->Hx->R (List W)
noncomputable def zW (nl:Nat)(cap:List Nat)(mi:Ei)(tw:Tg)(ifs:Ev)(em:Em):jG:=λ ρ A=>(mi ρ A).bind λ j A1=>(qt j tw ifs em j.len 0 (gL nl cap ρ) [] A1).nox.bind λ p A2=>.ok p.2 A2
noncomputable def Yz (K:Frag)(D:Addr)(φ:List Addr)(H:Hp)(Q:St->Hp->Prop)(p:En × List W)(A1:Hx):Prop:=∀φ1 H1 σ1 zs,j3 K D φ H φ1 H1->(∀k:Nat,φ1[k]?≠some D)->zG K φ1 A1 H1->RE K φ1 H1 p.1 σ1->H1 D=some (.lst zs)->zF K φ1 H1 p.2 zs->Q σ1 H1
inductive ME (K:Frag)(em:Em)(D:Addr)(σ:St)(H:Hp)(Q:St->Hp->Prop):Prop
 | mk (φ:List Addr) (A:Hx) (ρ:En) (acc:List W) (ys:List V) (S:zG K φ A H) (re:RE K φ H ρ σ) (hD:H D=some (.lst ys)) (nD:∀k:Nat,φ[k]?≠some D) (rv:zF K φ H acc ys)
  (h:(em ρ acc A).post (Yz K D φ H Q) wg)
noncomputable def tE (K:Frag)(em:Em):kQ:=λ D σ H Q=>ME K em D σ H Q
noncomputable abbrev yC:XR:=λ _ _=>False
noncomputable def SM (X:Cx)(elt:Expr)(gens:List Comprehension)(sc:Scope)(cpos:Pos)(d:Nat)(em:Em):Prop:=ki X elt gens sc cpos d (tE X.K em)
theorem ki.imp {elt:Expr}{gens:List Comprehension}{sc:Scope}{d:Nat}{t t':kQ}(h:ki X elt gens sc pos d t)(i:∀D σ H Q,t' D σ H Q->t D σ H Q):ki X elt gens sc pos d t':=
 λ pins s σ H D Q k Q' E I hw hk=>h pins s σ H D Q k Q' E I (i D σ H Q hw) hk
theorem JR {α:Type}{K:Frag}{φ:List Addr}{H:Hp}{r:R α}{P:α->Hx->Prop}(h:r.post P wg):r.post P (EB K φ H yC):=qo h (λ _ _ z=>z) λ _ _ z=>z.elim
noncomputable def Yx (X:Cx)(ifs:List Expr)(m:Ev):Prop:=Zz X ifs (tT X.K yC m)
theorem jo:Yx X [] (zi (.bl true)):=λ pins s σ H Q I ⟨φ,A,ρ,S,re,h⟩=>HK pins s σ H Q I (by
 obtain ⟨b,e,q⟩:=h
 cases e
 exact q φ H .refl S)
inductive Wz (tw:Tg)(ifs:Ev)(em:Em)(j:jv)(K:Frag)(D:Addr)(φ:List Addr)(H:Hp)(Q:St->Hp->Prop)(f i:Nat)(σ':St)(H':Hp):Prop
 | mk (φ2:List Addr) (A2:Hx) (ρ2:En) (acc2:List W) (ys2:List V) (l:j3 K D φ H φ2 H') (S:zG K φ2 A2 H') (re:RE K φ2 H' ρ2 σ') (hD:H' D=some (.lst ys2)) (nD:∀k:Nat,φ2[k]?≠some D) (ra:zF K φ2 H' acc2 ys2) (h:(qt j tw ifs em f i ρ2 acc2 A2).post (Yz K D φ H Q) wg)
theorem qt.read {tw:Tg}{ifs:Ev}{em:Em}{j:jv}{J:It}{K:Frag}{D:Addr}{φ:List Addr}{A:Hx}{H:Hp}{ρ:En}{σ:St}{acc:List W}{ys:List V}{Q:St->Hp->Prop}{f:Nat}
  (jr:ZC K φ H j J)
  (S:zG K φ A H)(re:RE K φ H ρ σ)(hD:H D=some (.lst ys))(nD:∀k:Nat,φ[k]?≠some D)(ra:zF K φ H acc ys)
  (h:(qt j tw ifs em f 0 ρ acc A).post (Yz K D φ H Q) wg):
  Jq J (tG K tw) (tT K yC ifs) (tE K em) D σ H Q:=by
 refine ⟨λ i f σ' H'=>Wz tw ifs em j K D φ H Q f i σ' H',
  ⟨f,φ,A,ρ,acc,ys,.refl,S,re,hD,nD,ra,h⟩,?_⟩
 rintro i f σ2 H2 ⟨φ2,A2,ρ2,acc2,ys2,l2,S2,re2,hD2,nD2,ra2,h2⟩
 obtain ⟨j1,j2⟩:=jr i φ2 H2 A2 ⟨l2.ex,l2.tp,l2.fz⟩ S2
 cases ej:j.at_ A2 i with
 | none=>cases f<;>(unfold qt at h2;rw [ej] at h2;exact h2.elim)
 | some o=>
  cases o with
  | none=>
   left
   refine ⟨j2 ej,?_⟩
   cases f<;>(unfold qt at h2;rw [ej] at h2;exact h2 φ2 H2 σ2 ys2 l2 nD2 S2 re2 hD2 ra2)
  | some w=>
   right
   obtain ⟨go,yl⟩:=j1 w ej
   cases f with
   | zero=>unfold qt at h2;rw [ej] at h2;exact h2.elim
   | succ f=>
    unfold qt at h2
    rw [ej] at h2
    refine ⟨go,λ σ' H'=>Wz tw ifs em j K D φ H Q f (i+1) σ' H',λ σ' H' z=>⟨f,Nat.lt_succ_self _,z⟩,λ x H3 y=>?_⟩
    obtain ⟨l3,S3,q3⟩:=yl x H3 y
    obtain ⟨hD3,nD3⟩:=l3.off hD2 nD2
    dsimp only at h2
    cases et:tw w ρ2 with
    | none=>rw [et] at h2;exact h2.elim
    | some ρ3=>
     rw [et] at h2
     refine ⟨φ2,A2,ρ2,w,ρ3,S3,re2.mono l3,q3,et,λ σ3 re3=>?_⟩
     refine tT.go S3 re3 (JR (zV.mp h2)) λ c A4 h4=>?_
     cases c with
     | bl k=>
      refine ⟨k,rfl,λ φ4 H4 l4 S4=>?_⟩
      obtain ⟨hD4,nD4⟩:=l4.off hD3 nD3
      have l04:=(l2.trans (l3.trans l4).toD)
      cases k with
      | true=>
       rw [if_pos rfl]
       refine ⟨φ4,A4,ρ3,acc2,ys2,S4,re3.mono l4,hD4,nD4,ra2.mono (l3.trans l4),qo (zV.mp h4) (λ p A5 h5 φ5 H5 σ5 zs l5 n5 S5 re5 d5 r5=>?_) λ _ _ z=>z⟩
       exact ⟨φ5,A5,p.1,p.2,zs,l04.trans l5,S5,re5,d5,n5,r5,h5⟩
      | false=>
       rw [if_neg Bool.false_ne_true]
       exact ⟨φ4,A4,ρ3,acc2,ys2,l04,S4,re3.mono l4,hD4,nD4,ra2.mono (l3.trans l4),h4⟩
     | non=>cases h4
     | int _=>cases h4
     | str _=>cases h4
     | tup _=>cases h4
     | ref _=>cases h4
     | clo _ _ _=>cases h4
     | xc _=>cases h4
theorem ZC.mono {K:Frag}{φ φ1:List Addr}{H H1:Hp}{j:jv}{J:It}(h:ZC K φ H j J)(l:gh K φ H φ1 H1):ZC K φ1 H1 j J:=
 λ i φ' H' A' l'=>h i φ' H' A' ⟨λ n a e=>l'.ex n a (l.ex n a e),λ a vs e=>l'.tp a vs (l.tp a vs e),λ a o u e=>l'.fz a o u (l.fz a o u e)⟩
inductive MF (K:Frag)(xr:XR)(mq:jG)(σ:St)(H:Hp)(Q:VK):Prop
 | mk (φ:List Addr) (A:Hx) (ρ:En) (S:zG K φ A H) (re:RE K φ H ρ σ) (h:(mq ρ A).post (λ ws A1=>∀φ1 H1 D ys,Le K φ H φ1 H1->zG K φ1 A1 H1->H D=none->H1 D=some (.lst ys)->(∀k:Nat,φ1[k]?≠some D)->zF K φ1 H1 ws ys->Q (.ref D) H1) (EB K φ H xr))
noncomputable def tF (K:Frag)(xr:XR)(mq:jG):TE:=λ σ H Q=>MF K xr mq σ H Q
noncomputable def SF (X:Cx)(xr:XR)(e:Expr)(mq:jG):Prop:=PE X e (tF X.K xr mq)
theorem zW.read {mi:Ei}{tw:Tg}{mf:Ev}{em:Em}{nl:Nat}{cap:List Nat}:∀σ H Q,tF X.K xr (zW nl cap mi tw mf em) σ H Q->Wa X.K (tI X.K xr mi) (tG X.K tw) (tT X.K yC mf) (tE X.K em) nl cap σ H Q:=by
 rintro σ H Q ⟨φ,A,ρ,S,re,h⟩
 refine ⟨φ,A,ρ,S,re,qo (zV.mp h) (λ j A1 h1 φ1 H1 J l1 S1 jr D hD hK=>?_) λ _ _ z=>z⟩
 have ln:Le X.K φ1 H1 φ1 (upd H1 D (.lst [])):=Le.new hD
 have h1':=zV.mp h1
 refine qt.read (jr.mono ⟨ln.ex,ln.tp,ln.fz⟩) (S1.lay hD) ((re.mono (l1.trans ln)).w9) jA (S1.notin hD hK) .nil ?_ (f:=j.len) (acc:=[])
 cases er:qt j tw mf em j.len 0 (gL nl cap ρ) [] A1 with
 | ok p A2=>
  rw [er] at h1'
  intro φ2 H2 σ2 zs l2 n2 S2 re2 d2 r2
  have l02:=l1.trans (Le.ofD hD l2)
  exact h1' φ2 H2 D zs l02 S2 (l1.st D hD) d2 n2 r2
 | exc x A2=>rw [er] at h1';exact h1'.elim
 | bad=>rw [er] at h1';exact h1'.elim
noncomputable def qO (q:jG):Ev:=λ ρ A=>(q ρ A).bind λ ws A1=>.ok (.ref A1.length) (A1++[.lst ws])
theorem qO.read {q:jG}{K:Frag}:∀σ H Q,tM K xr (qO q) σ H Q->tF K xr q σ H Q:=by
 rintro σ H Q ⟨φ,A,ρ,S,re,h⟩
 refine ⟨φ,A,ρ,S,re,qo (zV.mp h) (λ ws A1 h1 φ1 H1 D ys l1 S1 h0 hD nD r=>?_) λ _ _ z=>z⟩
 have ll:Le K φ H (φ1++[D]) H1:=l1.Jo h0
 have lw:gh K φ1 H1 (φ1++[D]) H1:=⟨λ n a h=>by
  have:=(List.getElem?_eq_some_iff.mp h).1
  rw [List.getElem?_append_left this];exact h,λ _ _ h=>h,λ _ _ _ h=>h⟩
 refine h1 _ _ _ ll (S1.Jo (o:=.lst ws) hD nD ⟨ys,hD,r.monoW lw⟩) ⟨D,rfl,?_⟩
 rw [<- S1.len];simp
inductive MQ (K:Frag)(xr:XR)(mq:jG)(σ:St)(H:Hp)(Q:VK):Prop
 | mk (φ:List Addr) (A:Hx) (ρ:En) (S:zG K φ A H) (re:RE K φ H ρ σ) (h:(mq ρ A).post (λ ws A1=>∀φ1 H1 a ys,Le K φ H φ1 H1->zG K φ1 A1 H1->(qW K H1 a ys∨qv K H1 a ys)->zF K φ1 H1 ws ys->Q (.ref a) H1) (EB K φ H xr))
noncomputable def tQ (K:Frag)(xr:XR)(mq:jG):TE:=λ σ H Q=>MQ K xr mq σ H Q
noncomputable def SQ (X:Cx)(xr:XR)(e:Expr)(mq:jG):Prop:=PE X e (tQ X.K xr mq)
noncomputable def zE (w:W)(A:Hx):Option (List W):=match w with
 | .tup ws=>some ws
 | .ref n=>match A[n]? with
  | some (.lst ws)=>some ws
  | some (.ro ws)=>some ws
  | _=>none
 | _=>none
theorem Kh {K:Frag}{φ:List Addr}{A:Hx}{H:Hp}{w:W}{ws:List W}{v:V}(S:zG K φ A H)(q:RV K φ H w v)(e:zE w A=some ws):∃a ys,v=.ref a/\(qW K H a ys∨qv K H a ys)/\zF K φ H ws ys:=by
 unfold zE at e
 cases w with
 | tup xs=>cases e;obtain ⟨a,ys,e1,e2,e3⟩:=q;exact ⟨a,ys,e1,.inr e2,e3⟩
 | ref n=>
  obtain ⟨a,e1,e2⟩:=q
  dsimp only at e
  cases ea:A[n]? with
  | none=>rw [ea] at e;cases e
  | some o=>
   rw [ea] at e
   obtain ⟨a',e3,r⟩:=S.ob n o ea
   rw [e2] at e3;cases e3
   cases o with
   | lst xs=>cases e;obtain ⟨ys,h1,h2⟩:=r;exact ⟨a,ys,e1,.inl (qW.of h1),h2⟩
   | ro xs=>cases e;obtain ⟨ys,h1,h2⟩:=r;exact ⟨a,ys,e1,.inl h1.sq,h2⟩
   | dct xs=>cases e
   | tab _ _=>cases e
 | non=>cases e
 | bl _=>cases e
 | clo _ _ _=>cases e
 | xc _=>cases e
 | int _=>cases e
 | str _=>cases e
noncomputable def zM (m:Ev):jG:=λ ρ A=>(m ρ A).bind λ w A1=>match zE w A1 with
 | some ws=>.ok ws A1
 | none=>.bad
noncomputable def Jz (w:W)(A:Hx):Option jv:=match zE w A with
 | some ws=>some ⟨λ A i=>(zE w A).map λ ws=>ws[i]?,ws.length⟩
 | none=>none
noncomputable def qd (m:Ev):Ei:=λ ρ A=>(m ρ A).bind λ w A1=>match Jz w A1 with
 | some j=>.ok j A1
 | none=>.bad
noncomputable def BX (K:Frag)(tl:TE):TI:=λ σ H Rr=>tl σ H λ x H1=>∃a,x=.ref a/\(((∃xs,qW K H1 a xs)/\Rr (Ou K a) H1)∨((∃xs,qv K H1 a xs)/\Rr (Ot K a) H1))
theorem E4 {tg l:Expr}{tl:TE}(hl:PE X l tl):PI X tg l (BX X.K tl):=by
 intro pins s σ H Rr I h
 refine qe (hl pins s σ H _ I h) λ v s1 ⟨x,H1,I1,r1,q1⟩=>?_
 obtain ⟨a,e,q⟩:=q1
 subst e
 cases r1
 have fpo:∀b∈[s1.heap.objs.size],yP X pins H1 b:=λ b hb=>by
  have e:b=s1.heap.objs.size:=by simpa using hb
  subst e
  exact I1.fpOk (Nat.le_refl _) (I1.hok.fresh (Nat.le_refl _))
 rcases q with ⟨⟨xs,hq⟩,q⟩ | ⟨⟨xs,hq⟩,q⟩
 ·obtain ⟨its,rv,p,hz⟩:=I1.list hq
  refine wpAny_pyIter_list p.isList ?_
  exact ⟨s1.heap.objs.size,[s1.heap.objs.size],_,_,H1,rfl,I1.kept (t':=s1.toks) λ b o e=>Heap.get?_push_of_some _ e,LB a _,⟨_,Heap.get?_push_size _ rfl,rfl,rfl⟩,fpo,q⟩
 ·obtain ⟨its,rv,p,hz⟩:=I1.tuple hq
  refine wpAny_pyIter_tuple (show s1.heap.IsTuple a its.toArray from p) ?_
  exact ⟨s1.heap.objs.size,[s1.heap.objs.size],_,_,H1,rfl,I1.kept (t':=s1.toks) λ b o e=>Heap.get?_push_of_some _ e,Mq a _,⟨_,Heap.get?_push_size _ rfl,rfl,rfl⟩,fpo,q⟩
noncomputable def jY (lo:Int)(n:Nat):jv:=⟨λ _ i=>if i<n then some (some (.int (lo+i))) else some none,n⟩
theorem R7 {K:Frag}{φ:List Addr}{H:Hp}{lo:Int}{n:Nat}:ZC K φ H (jY lo n) (Yy lo n):=λ i φ' H' A' lw S'=>by
 unfold jY
 dsimp only
 by_cases hi:i<n
 ·rw [if_pos hi]
  refine ⟨λ w e=>?_,λ e=>by cases e⟩
  cases e
  exact ⟨hi,λ x H1 ⟨e1,e2⟩=>by subst e1;exact ⟨.refl,S',e2⟩⟩
 ·rw [if_neg hi]
  exact ⟨λ w e=>(by cases e),λ _=>Nat.le_of_not_lt hi⟩
noncomputable def jM (i:Int):Bool:=decide (-(2 ^ 62)<=i)&&decide (i<2 ^ 62)
theorem QM {i:Int}(h:jM i=true):-(2 ^ 62)<=i/\i<2 ^ 62:=by
 unfold jM at h
 rw [Bool.and_eq_true,decide_eq_true_iff,decide_eq_true_iff] at h
 exact h
noncomputable def jl (m:Ev):Ei:=λ ρ A=>(m ρ A).bind λ w A1=>match w with
 | .int j=>if jM j then .ok (jY 0 j.toNat) A1 else .bad
 | _=>.bad
noncomputable def Jp (m m':Ev):Ei:=λ ρ A=>(m ρ A).bind λ w A1=>(m' ρ A1).bind λ w' A2=>match w,w' with
 | .int i,.int j=>if jM i&&jM j then .ok (jY i (j - i).toNat) A2 else .bad
 | _,_=>.bad
end
noncomputable abbrev Fn:=List W->Hx->R W
noncomputable def yA (K:Frag)(x:Str)(C:Value):Prop:=PySem.W.nsIn K mainGlobals x=some (some C)
noncomputable def XE (K:Frag)(E:XK)(x:Str)(H:Hp):Prop:=∀C d,yA K x C->E C d H
inductive Yw (K:Frag)(n:Nat)(f:Fn)(vs:List V)(H:Hp)(Q:VK)(E:XK):Prop
 | mk (len:vs.length=n) (φ:List Addr) (A:Hx) (ws:List W) (S:zG K φ A H) (r:zF K φ H ws vs) (q:(f ws A).post (PB K φ H Q) (EB K φ H (XE K E)))
theorem Yw.len {K:Frag}{n:Nat}{f:Fn}{vs:List V}{H:Hp}{Q:VK}{E:XK}(h:Yw K n f vs H Q E):vs.length=n:=by cases h;assumption
inductive zC (P:Program)(w:World)(K:Frag)(mg:Str->Option Value)(base:Heap)(k:Nat)(x:Str)(n:Nat)(f:Fn):Prop
 | mk (fa:Addr) (fd:FuncData) (ps:List Str) (F:yt P w K mg base wK k fa fd ps (Yw K n f)) (at_:mg x=some (.ref fa)) (kp:PySem.W.keepIn K (.ref fa)=true) (bi:Binds K fd ps [])
noncomputable def zx (f:Fn)(a:Ea):Ev:=λ ρ A=>(a ρ A).bind λ ws A1=>f ws A1
section
variable {X:Cx}{xr:XR}{e a b c:Expr}{es:List Expr}{m ma mb mc:Ev}{m1 m2:Ex}{pos:Pos}
noncomputable def Zv (m:Ea)(n:Nat):Prop:=∀ρ A ws A',m ρ A=.ok ws A'->ws.length=n
theorem zy:Zv zo 0:=λ _ _ _ _ h=>by unfold zo at h;cases h;rfl
theorem zq {mr:Ea}{n:Nat}(h:Zv mr n):Zv (zh ma mr) (n+1):=λ ρ A ws A' e=>by
 unfold zh at e
 cases h1:ma ρ A with
 | ok x A1=>
  rw [h1,zB] at e
  cases h2:mr ρ A1 with
  | ok xs A2=>rw [h2,zB] at e;cases e;simp [h ρ A1 xs _ h2]
  | exc x A2=>rw [h2] at e;cases e
  | bad=>rw [h2] at e;cases e
 | exc x A1=>rw [h1] at e;cases e
 | bad=>rw [h1] at e;cases e
end
noncomputable def zY (n:Nat)(m:Ex):Fn:=λ ws A=>(m (ws.map some++List.replicate (n - ws.length) none) A).nox.bind λ fl A1=>match fl with
 | .rt w=>.ok w A1
 | .nx _=>.ok .non A1
 | _=>.bad
theorem RE.start {K:Frag}{φ:List Addr}{H:Hp}{N:List Str}{ws:List W}{vs:List V}(h:zF K φ H ws vs):RE K φ H (ws.map some++List.replicate (N.length - ws.length) none) (L2.start N vs):=by
 unfold L2.start
 refine ⟨by simp [h.length],λ i w e=>?_⟩
 by_cases hi:i<ws.length
 ·rw [List.getElem?_append_left (by simpa using hi),List.getElem?_map] at e
  cases hw:ws[i]? with
  | none=>rw [hw] at e;cases e
  | some w'=>
   rw [hw] at e;cases e
   obtain ⟨v,h1,h2⟩:=h.get hw
   refine ⟨v,?_,h2⟩
   rw [List.getElem?_append_left (by rw [List.length_map,<- h.length];exact hi),List.getElem?_map,h1];rfl
 ·rw [List.getElem?_append_right (by simpa using hi),List.getElem?_replicate] at e
  split at e<;>cases e
section
variable {P:Program}{w:World}{K:Frag}{mg:Str->Option Value}{base:Heap}
theorem zC.mono {j k n:Nat}{x:Str}{f:Fn}(F:zC P w K mg base j x n f)(h:j<=k):zC P w K mg base k x n f:=by cases F with | mk fa fd ps F a b c=>exact ⟨fa,fd,ps,F.mono h,a,b,c⟩
theorem zC.imp {k n:Nat}{x:Str}{f g:Fn}(F:zC P w K mg base k x n f)(h:∀ws A,ws.length=n->g ws A=.bad∨f ws A=g ws A):zC P w K mg base k x n g:=by
 obtain ⟨fa,fd,ps,F,a,b,c⟩:=F
 refine ⟨fa,fd,ps,F.imp λ vs H Q E ⟨hl,φ,A,ws,S,r,q⟩=>⟨hl,φ,A,ws,S,r,?_⟩,a,b,c⟩
 rcases h ws A (by rw [r.length];exact hl) with e | e
 ·rw [e] at q;exact q.elim
 ·rw [e];exact q
end
section
variable {X:Cx}{K:Frag}
theorem jX {α:Type}{a:α}{A:Hx}:qB (R.ok a A):=λ _ _ h=>by cases h
theorem qL {α:Type}:qB (R.bad:R α):=λ _ _ h=>by cases h
theorem gF {α:Type}{c:Prop} [Decidable c] {a b:R α}(h1:qB a)(h2:qB b):qB (if c then a else b):=by split<;>assumption
noncomputable def gZ (f:Int->Int->W):W->W->Hx->R W
 | .int i,.int j,A=>.ok (f i j) A
 | _,_,_=>.bad
theorem Ql {f:Int->Int->W}:∀x y A,qB (gZ f x y A):=λ x y A=>by
 unfold gZ;split
 ·exact jX
 ·exact qL
noncomputable def ZA (c:Int->Int->Bool)(f:Int->Int->W):W->W->Hx->R W
 | .int i,.int j,A=>if c i j then .ok (f i j) A else .bad
 | _,_,_=>.bad
theorem VV {c:Int->Int->Bool}{f:Int->Int->W}:∀x y A,qB (ZA c f x y A):=λ x y A=>by
 unfold ZA;split
 ·exact gF jX qL
 ·exact qL
theorem Qk {f:Int->Int->W}{g:Int->Int->V}(h:∀i j φ H,RV K φ H (f i j) (g i j)):j7 K (g7 g) (gZ f):=λ φ A H x y u v Q S q1 q2 p=>by
 cases u with
 | int i=>cases v with
  | int j=>obtain rfl:=q1;obtain rfl:=q2;exact ⟨i,j,rfl,rfl,p φ H _ .refl S (h i j φ H)⟩
  | _=>exact p.elim
 | _=>exact p.elim
theorem Vz {c:Int->Int->Bool}{C:Int->Int->Prop}{f:Int->Int->W}{g:Int->Int->V}(hc:∀i j,c i j=true->C i j)(h:∀i j φ H,RV K φ H (f i j) (g i j)):j7 K (rI C g) (ZA c f):=λ φ A H x y u v Q S q1 q2 p=>by
 cases u with
 | int i=>cases v with
  | int j=>
   obtain rfl:=q1;obtain rfl:=q2
   unfold ZA at p
   dsimp only at p
   by_cases hh:c i j=true
   ·rw [if_pos hh] at p;exact ⟨i,j,rfl,rfl,hc i j hh,p φ H _ .refl S (h i j φ H)⟩
   ·rw [if_neg hh] at p;exact p.elim
  | _=>exact p.elim
 | _=>exact p.elim
noncomputable def Yn (i j:Int):Bool:=(decide (-(2 ^ 64)<i)&&decide (i<2 ^ 64)) || (decide (-(2 ^ 64)<j)&&decide (j<2 ^ 64))
noncomputable def Wx (_ j:Int):Bool:=decide (0<j)&&decide (j<1073741824)
noncomputable def Wt (_ j:Int):Bool:=decide (0<j)
theorem F6 (i j:Int)(h:Yn i j=true):Ym i j:=by
 unfold Yn at h
 simp only [Bool.or_eq_true,Bool.and_eq_true,decide_eq_true_eq] at h
 exact h
theorem Ed (i j:Int)(h:Wx i j=true):Oj i j:=by
 unfold Wx at h
 simp only [Bool.and_eq_true,decide_eq_true_eq] at h
 exact h
theorem F0 (i j:Int)(h:Wt i j=true):(λ _ j=>0<j) i j:=by
 unfold Wt at h
 simpa using h
noncomputable def yh:=gZ λ i j=>.int (i - j)
noncomputable def Z5:=ZA Wx λ i j=>.int (i / j)
noncomputable def ka:=ZA Wt λ i j=>.int (i % j)
noncomputable def Yr:=gZ λ i j=>.bl (decide (i<j))
noncomputable def Qz:=gZ λ i j=>.bl (decide (i<=j))
noncomputable def Yu:=gZ λ i j=>.bl (decide (j<i))
noncomputable def Uq:=gZ λ i j=>.bl (decide (j<=i))
noncomputable def V7 (i j:Int):Bool:=decide (0<=j)&&decide (j<=1000000)&&decide (i.natAbs<2 ^ 64)
theorem Fm (i j:Int)(h:V7 i j=true):P8 i j:=by
 unfold V7 at h
 simp only [Bool.and_eq_true,decide_eq_true_eq] at h
 exact ⟨h.1.1,h.1.2,h.2⟩
noncomputable def Wq:=ZA V7 λ i j=>.int (i ^ j.toNat)
variable {xr:XR}{a b c:Expr}{ma mb mc:Ev}{pos:Pos}
structure k9 (X:Cx)(op:CmpOp)(g:W->W->Hx->R W):Prop where
 ex:∃r:R2,qE X (compareOp op) r/\(∀x y A,qB (g x y A))/\j7 X.K r g
 mks:∀b,op≠.In->op≠.NotIn->behindInMarks op b=false
theorem Ja {op:CmpOp}{r:R2}{g:W->W->Hx->R W}(h1:qE X (compareOp op) r)(h2:∀x y A,qB (g x y A))(h3:j7 X.K r g):k9 X op g:=⟨⟨r,h1,h2,h3⟩,λ b a1 a2=>Hc b a1 a2⟩
theorem P7:k9 X .Lt Yr:=Ja Cc Ql (Qk λ _ _ _ _=>rfl)
theorem Ue:k9 X .LtE Qz:=Ja C0 Ql (Qk λ _ _ _ _=>rfl)
theorem V4:k9 X .Gt Yu:=Ja CJ Ql (Qk λ _ _ _ _=>rfl)
theorem BO:k9 X .GtE Uq:=Ja CQ Ql (Qk λ _ _ _ _=>rfl)
end
inductive Ty where
 | non | bl | int | str | tup | lst | dct
 deriving DecidableEq
noncomputable def Ty.nm:Ty->String
 | .non => "NoneType" | .bl => "bool" | .int => "int" | .str => "str" | .tup => "tuple" | .lst => "list" | .dct => "dict"
noncomputable def gk (w:W)(A:Hx):Option Ty:=match w with
 | .non=>some .non
 | .bl _=>some .bl
 | .int _=>some .int
 | .str _=>some .str
 | .tup _=>some .tup
 | .ref n=>match A[n]? with
  | some (.lst _)=>some .lst
  | some (.dct _)=>some .dct
  | _=>none
 | _=>none
noncomputable def kf (a b:Ty):Bool:=a==b || (a==.bl&&b==.int)
theorem KD {K:Frag}(a b:Ty):PySem.W.kitOne K (.type a.nm) (.type b.nm)=some (kf a b):=by
 cases a<;>cases b<;>rfl
section
variable {X:Cx}{xr:XR}{K:Frag}{e a b c:Expr}{es:List Expr}{m ma mb mc:Ev}{pos:Pos}
noncomputable def Qx (K:Frag)(H:Hp)(x:V)(t:Ty):Prop:=wd K H x (.type t.nm)∨∃a xs,x=.ref a/\qv K H a xs/\t=.tup
theorem T3 {φ:List Addr}{A:Hx}{H:Hp}{w:W}{v:V}{t:Ty}(S:zG K φ A H)(q:RV K φ H w v)(e:gk w A=some t):Qx K H v t:=by
 cases w with
 | non=>cases e;obtain rfl:=q;exact .inl .non
 | bl k=>cases e;obtain rfl:=q;exact .inl (.bl k)
 | clo _ _ _=>cases e
 | xc _=>cases e
 | int k=>cases e;obtain rfl:=q;exact .inl (.int k)
 | str k=>cases e;obtain rfl:=q;exact .inl (.str k)
 | tup ws=>cases e;obtain ⟨a,vs,rfl,h,_⟩:=q;exact .inr ⟨a,vs,rfl,h,rfl⟩
 | ref n=>
  obtain ⟨a,rfl,h1⟩:=q
  unfold gk at e
  dsimp only at e
  cases eo:A[n]? with
  | none=>rw [eo] at e;cases e
  | some o=>
   rw [eo] at e
   obtain ⟨a',h2,r⟩:=S.ob n o eo
   rw [h1] at h2;cases h2
   cases o with
   | lst ws=>cases e;obtain ⟨vs,z,_⟩:=r;exact .inl (.lst z)
   | dct ws=>cases e;obtain ⟨vs,z,_⟩:=r;exact .inl (.dK z)
   | tab _ _=>cases e
   | ro ws=>cases e
theorem Qx.kit {pins:List (Addr × Obj)}{σ:St}{H:Hp}{s:Shared}{x:V}{u:Value}{t:Ty}(I:Inv X pins σ H s)(r:RelV x u)(h:Qx X.K H x t):
  (∀{Q:Value->Shared->Prop} {E:Value->Shared->Prop} {A:Around} {c:Ty},(∀tk,Q (.bool (kf t c)) { s with toks:=tk })->wpAny (model X.prog X.w) A (call (.builtin "isinstance") [u,.type c.nm]) Q E s):=by
 intro Q E A c hq
 rcases h with h | ⟨a,xs,rfl,h,rfl⟩
 ·exact TF I r h (KD t c) hq
 ·cases (show u=Value.ref a from r)
  obtain ⟨its,_,⟨o,h1,h2,_⟩,_⟩:=I.tuple h
  exact PySem.W.kia_one PySem.W.kitx_tuple I.kIn ⟨o,h1,h2⟩ (KD .tup c) (λ z=>nomatch z) hq
noncomputable def Ag (K:Frag):List V->Hp->VK->Prop:=λ xs H Q=>∃x t c,xs=[x,.ty (Ty.nm c)]/\Qx K H x t/\Q (.bl (kf t c)) H
theorem Es:yb X (.builtin "isinstance") (Ag X.K):=by
 intro pins s σ H xs us Q I r h
 obtain ⟨x,t,c,rfl,ht,q⟩:=h
 obtain ⟨u,u',rfl,ru,ru'⟩:=vals2 r
 cases (show u'=Value.type c.nm from ru')
 exact ht.kit I ru λ tk=>⟨.bl (kf t c),H,I.tok tk,rfl,q⟩
noncomputable def we (t:Ty)(m:Ev):Ev:=λ ρ A=>(m ρ A).bind λ w A1=>match gk w A1 with
 | some t'=>.ok (.bl (kf t' t)) A1
 | none=>.bad
noncomputable def zI:W->W->Hx->R W:=λ x y A=>match zE x A,y with
 | some ws,.int i=>match kU ws i with
  | some w=>.ok w A
  | none=>.bad
 | _,_=>.bad
theorem CK:∀x y A,qB (zI x y A):=λ x y A=>by
 unfold zI;split
 ·split
  ·exact jX
  ·exact qL
 ·exact qL
theorem IX {φ:List Addr}{H:Hp}{ws:List W}{ys:List V}{i:Int}{w:W}(r:zF K φ H ws ys)(e:kU ws i=some w):∃y,kU ys i=some y/\RV K φ H w y:=by
 unfold kU at e ⊢
 rw [<- r.length]
 cases h:kS ws.length i with
 | none=>rw [h] at e;cases e
 | some j=>
  rw [h] at e
  obtain ⟨y,h1,h2⟩:=r.get (i:=j) e
  exact ⟨y,h1,h2⟩
theorem Dn:j7 K (Ov K) zI:=λ φ A H x y u v Q S q1 q2 p=>by
 unfold zI at p
 cases es:zE u A with
 | none=>rw [es] at p;exact p.elim
 | some ws=>
  rw [es] at p
  cases v with
  | int i=>
   obtain rfl:=q2
   dsimp only at p
   cases ei:kU ws i with
   | none=>rw [ei] at p;exact p.elim
   | some w=>
    rw [ei] at p
    obtain ⟨a,ys,rfl,z,r⟩:=Kh S q1 es
    obtain ⟨y',h1,h2⟩:=IX r ei
    rcases z with z | z
    ·exact .inl ⟨a,ys,i,y',rfl,rfl,z,h1,p φ H _ .refl S h2⟩
    ·exact .inr (.inl ⟨a,ys,i,y',rfl,rfl,z,h1,p φ H _ .refl S h2⟩)
  | non=>exact p.elim
  | bl _=>exact p.elim
  | str _=>exact p.elim
  | tup _=>exact p.elim
  | ref _=>exact p.elim
  | clo _ _ _=>exact p.elim
  | xc _=>exact p.elim
noncomputable def Qa (K:Frag)(r:List V->Hp->VK->Prop)(g:List W->Hx->R W):Prop:=∀φ A H a ys ws Q,zG K φ A H->(qW K H a ys∨qv K H a ys)->zF K φ H ws ys->(g ws A).post (PB K φ H Q) wg->r [.ref a] H Q
noncomputable def mQ (g:List W->Hx->R W)(q:jG):Ev:=λ ρ A=>(q ρ A).bind λ ws A1=>g ws A1
theorem mQ.read {r:List V->Hp->VK->Prop}{g:List W->Hx->R W}{q:jG}(hn:∀ws A,qB (g ws A))(hq:Qa X.K r g):∀σ H Q,tM X.K xr (mQ g q) σ H Q->WB r (K9 (tQ X.K xr q) V8) σ H Q:=by
 rintro σ H Q ⟨φ,A,ρ,S,re,h⟩
 refine ⟨φ,A,ρ,S,re,qo (zV.mp h) (λ ws A1 h1 φ1 H1 a ys l1 S1 z r=>?_) λ _ _ z=>z⟩
 exact hq φ1 A1 H1 a ys ws Q S1 z r (qo (QT (hn _ _) h1) (λ _ _ z=>z.mono l1) λ _ _ z=>z)
theorem K8 {id:String}{x:Str}{p:Pos}{r:List V->Hp->VK->Prop}{g:List W->Hx->R W}{q:jG}(hc:yb X (.builtin id) r)(hn:∀ws A,qB (g ws A))(hq:Qa X.K r g)(hm:X.mg x=none)(hv:bootBuiltins x=some (.builtin id))(ha:SQ X xr e q)(hg:Gl X x:=by rfl)
  (hn':x ≠ "__name__" := by decide)(hdb:(x==("__debug__" : Str))=false:=by decide)(he:starEach [e] X.env=(false,eval e X.env)::starEach [] X.env:=by rfl)(hpl:(backTo pos (starEach [] X.env)).any (·.1)=false:=by rfl):
  SE X xr (.Call (.Name x p) [e] [] pos) (mQ g q):=PE.imp (ZP hc hg hm hv (jk ha j6 he) hn' hdb he hpl) (mQ.read hn hq)
theorem CS {id:String}{x:Str}{p:Pos}{r:List V->Hp->VK->Prop}{g:List W->Hx->R W}{q:jG}(hc:yb X (.type id) r)(hn:∀ws A,qB (g ws A))(hq:Qa X.K r g)(hm:X.mg x=none)(hv:bootBuiltins x=some (.type id))(ha:SQ X xr e q)(hg:Gl X x:=by rfl)
  (hn':x ≠ "__name__" := by decide)(hdb:(x==("__debug__" : Str))=false:=by decide)(he:starEach [e] X.env=(false,eval e X.env)::starEach [] X.env:=by rfl)(hpl:(backTo pos (starEach [] X.env)).any (·.1)=false:=by rfl):
  SE X xr (.Call (.Name x p) [e] [] pos) (mQ g q):=PE.imp (JN hc hg hm hv (jk ha j6 he) hn' hdb he hpl) (mQ.read hn hq)
noncomputable def qa:List W->Hx->R W:=λ ws A=>.ok (.int ws.length) A
theorem FO:Qa K (λ xs H Q=>∃p ys,xs=[.ref p]/\(qW K H p ys∨qv K H p ys)/\Q (.int ys.length) H) qa:=λ φ A H a ys ws Q S z r p=>
 ⟨a,ys,rfl,z,by rw [<- r.length];exact p φ H _ .refl S rfl⟩
noncomputable def qH:List W->Hx->R W:=λ ws A=>.ok (.tup ws) A
theorem Fh:Qa K (λ xs H Q=>∃p ys,xs=[.ref p]/\((qW K H p ys/\∀l,H l=none->Q (.ref l) (upd H l (.tup ys)))∨(qv K H p ys/\Q (.ref p) H))) qH:=λ φ A H a ys ws Q S z r p=>by
 refine ⟨a,ys,rfl,?_⟩
 rcases z with z | z
 ·refine .inl ⟨z,λ l hl=>?_⟩
  obtain ⟨a1,a2,a3⟩:=Jc S hl r
  exact p _ _ _ a1 a2 a3
 ·exact .inr ⟨z,p φ H _ .refl S ⟨a,ys,rfl,z,r⟩⟩
end
section
variable {X:Cx}{xr:XR}{K:Frag}{e a b c:Expr}{es:List Expr}{m ma mb mc:Ev}{pos:Pos}
theorem XN {pins:List (Addr × Obj)}{σ:St}{H:Hp}{s:Shared}{a:Addr}{ys:List V}(I:Inv X pins σ H s)(hc:X.calm=true)(z:qW X.K H a ys∨qv X.K H a ys){E:Value->Shared->Prop}{Q:Value->Shared->Prop}
  (h:∀(its:List Value) (I':Addr) (fp wr:List Addr) (St':Nat->Heap->Prop) (s2:Shared),Vals ys its->ys.length<=sizeLine->Walks X.prog X.w X.A.in1 I' fp wr its.length (λ i v=>its[i]? =some v) St'->St' 0 s2.heap->(∀b∈fp,b<s2.heap.objs.size)->
   (∀(h':Heap) (tk:Nat),(∀b o,b∉wr->s2.heap.get? b=some o->h'.get? b=some o)->Inv X pins σ H { s2 with heap:=h',toks:=tk })->Q (.ref I') s2):
  wpAny (model X.prog X.w) X.A.in1 (pyIter (.ref a)) Q E s:=by
 have hh:X.A.in1.handled=none:=I.ok.hd hc
 have keep:∀(o:Obj) (h':Heap) (tk:Nat),(∀b u,b∉[s.heap.objs.size]->(s.heap.push o).get? b=some u->h'.get? b=some u)->Inv X pins σ H { s with heap:=h',toks:=tk }:=λ o h' tk k=>I.kept λ b u e=>k b u (by
  intro hm
  have e1:b=s.heap.objs.size:=by simpa using hm
  exact absurd (e1 ▸ Heap.lt_size e) (Nat.lt_irrefl _)) (Heap.get?_push_of_some _ e)
 rcases z with z | z
 ·obtain ⟨its,rv,p,hz⟩:=I.list z
  have hlt:a<s.heap.objs.size:=by obtain ⟨o,n,e,_⟩:=p;exact Heap.lt_size e
  refine wpAny_pyIter_list p.isList ?_
  have W:=Walks.list (prog:=X.prog) (w:=X.w) hh s.heap.objs.size a (Nat.ne_of_lt hlt) its.toArray
  rw [List.size_toArray] at W
  simp only [List.getElem?_toArray] at W
  refine h its s.heap.objs.size _ _ _ _ rv hz W ⟨⟨_,Heap.get?_push_size _ rfl,rfl,rfl⟩,p.isList.at λ o e=>Heap.get?_push_of_some _ e⟩ (λ b hb=>?_) λ h' tk k=>keep _ h' tk k
  show b<(s.heap.push _).objs.size
  rw [Heap.size_push]
  rcases List.mem_cons.mp hb with e | hb
  ·rw [e];exact Nat.lt_succ_self _
  ·have e:b=a:=by simpa using hb
   rw [e];exact Nat.lt_succ_of_lt hlt
 ·obtain ⟨its,rv,p,hz⟩:=I.tuple z
  have hlt:a<s.heap.objs.size:=p.lt
  have p':s.heap.IsTuple a its.toArray:=p
  refine wpAny_pyIter_tuple p' ?_
  have W:=Walks.tuple (prog:=X.prog) (w:=X.w) hh s.heap.objs.size a (Nat.ne_of_lt hlt) its.toArray
  rw [List.size_toArray] at W
  simp only [List.getElem?_toArray] at W
  refine h its s.heap.objs.size _ _ _ _ rv hz W ⟨⟨_,Heap.get?_push_size _ rfl,rfl,rfl⟩,p'.at λ o e=>Heap.get?_push_of_some _ e⟩ (λ b hb=>?_) λ h' tk k=>keep _ h' tk k
  show b<(s.heap.push _).objs.size
  rw [Heap.size_push]
  rcases List.mem_cons.mp hb with e | hb
  ·rw [e];exact Nat.lt_succ_self _
  ·have e:b=a:=by simpa using hb
   rw [e];exact Nat.lt_succ_of_lt hlt
noncomputable def Yi:V->Option Bool
 | .bl b=>some b
 | .int i=>some (i != 0)
 | .non=>some false
 | _=>none
noncomputable def Yq:W->Option Bool
 | .bl b=>some b
 | .int i=>some (i != 0)
 | .non=>some false
 | _=>none
theorem Io {φ:List Addr}{H:Hp}{w:W}{v:V}{k:Bool}(q:RV K φ H w v)(e:Yq w=some k):Yi v=some k:=by
 cases w<;>first
  | (cases e;done)
  | (obtain rfl:=q;exact e)
theorem MN {A:Around}{v:V}{u:Value}{k:Bool}{s:Shared}{Q:Bool->Shared->Prop}{E:Value->Shared->Prop}(r:RelV v u)(e:Yi v=some k)(h:Q k s):wpAny (model X.prog X.w) A (truthy u) Q E s:=by
 cases v with
 | bl b=>cases e;cases r;exact wpAny_truthy_bool h
 | int i=>
  cases e
  obtain ⟨t,rfl⟩:=r
  exact PySem.P.truthy_int h
 | non=>cases e;cases r;exact λ _ _ _=>h
 | _=>cases e
noncomputable def wV:List W->Option (List Bool)
 | []=>some []
 | w::ws=>match Yq w,wV ws with
  | some k,some ks=>some (k::ks)
  | _,_=>none
theorem U1 {φ:List Addr}{H:Hp}:∀{ws:List W} {ys:List V} {ks:List Bool},zF K φ H ws ys->wV ws=some ks->∀(i:Nat) (y:V),ys[i]? =some y->∃k,ks[i]? =some k/\Yi y=some k
 | [],_,_,r,e,i,y,h=>by cases r;simp at h
 | w::ws,_,ks,⟨v,r,e1,q,t⟩,e,i,y,h=>by
  subst e1
  unfold wV at e
  cases e2:Yq w with
  | none=>rw [e2] at e;cases e
  | some k=>
   cases e3:wV ws with
   | none=>rw [e2,e3] at e;cases e
   | some ks'=>
    rw [e2,e3] at e
    cases e
    cases i with
    | zero=>simp at h;subst h;exact ⟨k,by simp,Io q e2⟩
    | succ i=>simp at h;obtain ⟨k',h1,h2⟩:=U1 t e3 i y h;exact ⟨k',by simpa using h1,h2⟩
theorem U8:∀{ws:List W} {ks:List Bool},wV ws=some ks->ks.length=ws.length
 | [],_,e=>by cases e;rfl
 | w::ws,ks,e=>by
  unfold wV at e
  cases e2:Yq w with
  | none=>rw [e2] at e;cases e
  | some k=>
   cases e3:wV ws with
   | none=>rw [e2,e3] at e;cases e
   | some ks'=>rw [e2,e3] at e;cases e;simp [U8 e3]
theorem range_all (ks:List Bool):(List.range ks.length).all (λ i=>ks.getD i false)=ks.all id:=by
 rw [Bool.eq_iff_iff,List.all_eq_true,List.all_eq_true]
 constructor
 ·intro h x hx
  obtain ⟨i,hi,rfl⟩:=List.getElem_of_mem hx
  have:=h i (List.mem_range.mpr hi)
  rw [List.getD_eq_getElem?_getD,List.getElem?_eq_getElem hi] at this
  exact this
 ·intro h i hi
  have hi':=List.mem_range.mp hi
  rw [List.getD_eq_getElem?_getD,List.getElem?_eq_getElem hi']
  exact h _ (List.getElem_mem hi')
noncomputable def Od (K:Frag)(f:List Bool->Bool):List V->Hp->VK->Prop:=λ xs H Q=>∃a ys ks,xs=[.ref a]/\(qW K H a ys∨qv K H a ys)/\ks.length=ys.length/\(∀(i:Nat) (y:V),ys[i]? =some y->∃k,ks[i]? =some k/\Yi y=some k)/\Q (.bl (f ks)) H
theorem Hv {ys:List V}{its:List Value}{ks:List Bool}{A:Around}(rv:Vals ys its)(hl:ks.length=ys.length)(ht:∀(i:Nat) (y:V),ys[i]? =some y->∃k,ks[i]? =some k/\Yi y=some k):TruthOf X.prog X.w A (λ i v=>its[i]? =some v) λ i=>ks.getD i false:=by
 intro i v s Q E hP hQ
 have hi:i<its.length:=(List.getElem?_eq_some_iff.mp hP).1
 have hi':i<ys.length:=by rw [rv.length];exact hi
 obtain ⟨u,h1,h2⟩:=rv.get (i:=i) (x:=ys[i]) (by simp [hi'])
 rw [hP] at h1;cases h1
 obtain ⟨k,h3,h4⟩:=ht i ys[i] (by simp [hi'])
 dsimp only at hQ
 rw [List.getD_eq_getElem?_getD,h3] at hQ
 exact MN h2 h4 hQ
theorem IE (hc:X.calm=true):yb X (.builtin "all") (Od X.K λ ks=>ks.all id):=by
 intro pins s σ H xs us Q I r h
 obtain ⟨a,ys,ks,rfl,z,hl,ht,q⟩:=h
 obtain ⟨u,rfl,ru⟩:=vals1 r
 cases ru
 refine call_all_walk (XN I hc z λ its I' fp wr St' s2 rv hz W st hfp back=>?_)
 refine ⟨I',fp,wr,_,_,St',λ i=>ks.getD i false,rfl,W,st,Hv rv hl ht,λ h' tk k=>?_⟩
 have e:its.length=ks.length:=by rw [hl,rv.length]
 rw [e,range_all]
 exact ⟨.bl _,H,back h' tk k,rfl,q⟩
noncomputable def Qt (f:List Bool->Bool):List W->Hx->R W:=λ ws A=>match wV ws with
 | some ks=>.ok (.bl (f ks)) A
 | none=>.bad
theorem EY {f:List Bool->Bool}:∀ws A,qB (Qt f ws A):=λ ws A=>by
 unfold Qt;split
 ·exact jX
 ·exact qL
theorem F9 {f:List Bool->Bool}:Qa K (Od K f) (Qt f):=λ φ A H a ys ws Q S z r p=>by
 unfold Qt at p
 cases e:wV ws with
 | none=>rw [e] at p;exact p.elim
 | some ks=>
  rw [e] at p
  exact ⟨a,ys,ks,rfl,z,by rw [U8 e,r.length],U1 r e,p φ H _ .refl S rfl⟩
noncomputable abbrev Qw:=Qt λ ks=>ks.all id
end
noncomputable def P5 (outer sc:Scope):Bool:=sc.kind==.function&&decide ((sc.names.map (·.1)).Nodup)&&sc.names.all λ y=>y.2 != .free || (outer.names.lookup y.1==some .cell || outer.names.lookup y.1==some .free)
theorem cps {X:Cx}{sc:Scope}(h:P5 X.env.scope sc=true):gC X sc:=by
 unfold P5 at h
 rw [Bool.and_eq_true,Bool.and_eq_true,decide_eq_true_iff,beq_iff_eq,List.all_eq_true] at h
 refine ⟨h.1.1,h.1.2,λ y hy e=>?_⟩
 have:=h.2 y hy
 rw [e] at this
 simp only [bne_self_eq_false,Bool.false_or,Bool.or_eq_true,beq_iff_eq] at this
 exact this
section
variable {X:Cx}{xr:XR}{K:Frag}{e a b c:Expr}{es:List Expr}{m ma mb mc:Ev}{pos:Pos}
theorem zG.lst {φ:List Addr}{A:Hx}{H:Hp}{n:Nat}{ws:List W}{v:V}(S:zG K φ A H)(q:RV K φ H (.ref n) v)(e:A[n]? =some (.lst ws)):∃p vs,v=.ref p/\φ[n]? =some p/\H p=some (.lst vs)/\zF K φ H ws vs:=by
 obtain ⟨p,rfl,h1⟩:=q
 obtain ⟨p',h2,vs,h3,h4⟩:=S.ob n _ e
 rw [h1] at h2;cases h2
 exact ⟨p,vs,rfl,h1,h3,h4⟩
theorem HJ {prog:Program}{w:World}{A:Around}{E:Value->Shared->Prop}{s:Shared}{t b:Addr}{ws:List Value}{Q:Value->Shared->Prop}(ht:IsTup s.heap t ([]:List Value).toArray)(hb:IsTup s.heap b ws.toArray)(h0:Q (.ref b) s):
  wpAny (model prog w) A (binaryOp .Add (.ref t) (.ref b)) Q E s:=by
 obtain ⟨⟨cls,dd,data,sl⟩,ho,hc,n,hd⟩:=id ht
 obtain ⟨⟨cls2,dd2,data2,sl2⟩,ho2,hc2,n2,hd2⟩:=id hb
 simp only at hc hd hc2 hd2
 subst hc hd hc2 hd2
 exact concat_meets ⟨_,ho,rfl⟩ ⟨_,ho2,rfl⟩ noFill_tuple_add seq_tuple_add PySem.F.slot_tuple_add PySem.F.entry_tuple_add (PySem.F.args_tuple_add_2 _ _)
   (tuple_addW0 t b ([]:List Value).toArray ws.toArray n n2 dd dd2 sl sl2 (by simp)) ⟨ho,ho2,h0⟩
noncomputable def Pb (K:Frag):R2:=λ x y H Q=>∃a b ys,x=.ref a/\y=.ref b/\qv K H a []/\qv K H b ys/\Q (.ref b) H
theorem Hl:qE X (binaryOp .Add) (Pb X.K):=by
 intro pins s σ H x y v u Q I rx ry h
 obtain ⟨a,b,ys,rfl,rfl,ha,hb,q⟩:=h
 cases rx
 cases ry
 obtain ⟨its,r1,p1,_⟩:=I.tuple ha
 obtain ⟨its2,r2,p2,_⟩:=I.tuple hb
 cases r1
 exact HJ p1 p2 ⟨.ref b,H,I,rfl,q⟩
noncomputable def qb:W->W->Hx->R W:=λ x y A=>match x,y with
 | .int i,.int j=>.ok (.int (i+j)) A
 | .tup xs,.tup ys=>if xs.length+ys.length<=zP then .ok (.tup (xs++ys)) A else .bad
 | .ref n,.ref k=>match A[n]?,A[k]? with
  | some (.lst xs),some (.lst ys)=>if xs.length+ys.length<=zP then .ok (.ref A.length) (A++[.lst (xs++ys)]) else .bad
  | _,_=>.bad
 | _,_=>.bad
theorem Dl:∀x y A,qB (qb x y A):=λ x y A=>by
 unfold qb
 split
 ·exact jX
 ·exact gF jX qL
 ·split
  ·exact gF jX qL
  ·exact qL
 ·exact qL
theorem QR {n:Nat}(h:n<=zP):n<=sizeLine:=by
 have:sizeLine=16777216:=sizeLine_eq
 unfold zP at h
 omega
theorem Fd:j7 K (λ x y H Q=>g7 (λ i j=>.int (i+j)) x y H Q∨PN K x y H Q∨Pb K x y H Q∨P4 x y H Q) qb:=λ φ A H x y u v Q S q1 q2 p=>by
 cases u with
 | int i=>cases v with
  | int j=>obtain rfl:=q1;obtain rfl:=q2;exact .inl ⟨i,j,rfl,rfl,p φ H _ .refl S rfl⟩
  | _=>exact p.elim
 | tup xs=>cases v with
  | tup ys=>
   obtain ⟨a1,vs1,rfl,t1,r1⟩:=q1
   obtain ⟨a2,vs2,rfl,t2,r2⟩:=q2
   unfold qb at p
   dsimp only at p
   by_cases hz:xs.length+ys.length<=zP
   ·rw [if_pos hz] at p
    by_cases hx:vs1=[]
    ·subst hx
     have e0:xs=[]:=by
      have:=r1.length
      simpa using this
     subst e0
     exact .inr (.inr (.inl ⟨a1,a2,vs2,rfl,rfl,t1,t2,p φ H _ .refl S ⟨a2,vs2,rfl,t2,r2⟩⟩))
    ·refine .inr (.inl ⟨a1,a2,vs1,vs2,rfl,rfl,t1,t2,hx,by rw [<- r1.length,<- r2.length];exact QR hz,λ e=>?_,λ ne l hl=>?_⟩)
     ·subst e
      have e0:ys=[]:=by
       have:=r2.length
       simpa using this
      subst e0
      rw [List.append_nil] at p
      exact p φ H _ .refl S ⟨a1,vs1,rfl,t1,r1⟩
     ·obtain ⟨b1,b2,b3⟩:=Jc S hl (r1.append r2)
      exact p _ _ _ b1 b2 b3
   ·rw [if_neg hz] at p;exact p.elim
  | _=>exact p.elim
 | ref n=>cases v with
  | ref k=>
   unfold qb at p
   dsimp only at p
   cases e1:A[n]? with
   | none=>rw [e1] at p;exact p.elim
   | some o1=>cases o1 with
    | lst xs=>
     cases e2:A[k]? with
     | none=>rw [e1,e2] at p;exact p.elim
     | some o2=>cases o2 with
      | lst ys=>
       rw [e1,e2] at p
       dsimp only at p
       obtain ⟨p1,v1,rfl,f1,g1,r1⟩:=S.lst q1 e1
       obtain ⟨p2,v2,rfl,f2,g2,r2⟩:=S.lst q2 e2
       by_cases hz:xs.length+ys.length<=zP
       ·rw [if_pos hz] at p
        refine .inr (.inr (.inr ⟨p1,p2,v1,v2,rfl,rfl,g1,g2,by rw [<- r1.length,<- r2.length];exact QR hz,λ l hl=>?_⟩))
        obtain ⟨b1,b2,b3⟩:=J3 S hl (r1.append r2)
        exact p _ _ _ b1 b2 b3
       ·rw [if_neg hz] at p;exact p.elim
      | _=>rw [e1,e2] at p;exact p.elim
    | _=>rw [e1] at p;exact p.elim
  | _=>exact p.elim
 | _=>cases v<;>exact p.elim
noncomputable def qJ:W->W->Hx->R W:=λ x y A=>match x,y with
 | .int i,.int j=>if Yn i j then .ok (.int (i * j)) A else .bad
 | .ref n,.int k=>match A[n]? with
  | some (.lst xs)=>if jM k&&decide (xs.length * k.toNat<=zP) then .ok (.ref A.length) (A++[.lst (List.replicate k.toNat xs).flatten]) else .bad
  | _=>.bad
 | _,_=>.bad
theorem E2:∀x y A,qB (qJ x y A):=λ x y A=>by
 unfold qJ
 split
 ·exact gF jX qL
 ·split
  ·exact gF jX qL
  ·exact qL
 ·exact qL
theorem zF.rep {φ:List Addr}{H:Hp}{ws:List W}{vs:List V}(r:zF K φ H ws vs):∀n:Nat,zF K φ H (List.replicate n ws).flatten (List.replicate n vs).flatten
 | 0=>.nil
 | n+1=>by rw [List.replicate_succ,List.replicate_succ,List.flatten_cons,List.flatten_cons];exact r.append (zF.rep r n)
theorem FF:j7 K (λ x y H Q=>rI Ym (λ i j=>.int (i * j)) x y H Q∨Oe x y H Q) qJ:=λ φ A H x y u v Q S q1 q2 p=>by
 cases v with
 | int j=>cases u with
  | int i=>
   obtain rfl:=q1;obtain rfl:=q2
   unfold qJ at p
   dsimp only at p
   by_cases hc:Yn i j=true
   ·rw [if_pos hc] at p;exact .inl ⟨i,j,rfl,rfl,F6 i j hc,p φ H _ .refl S rfl⟩
   ·rw [if_neg hc] at p;exact p.elim
  | ref n=>
   obtain rfl:=q2
   unfold qJ at p
   dsimp only at p
   cases e1:A[n]? with
   | none=>rw [e1] at p;exact p.elim
   | some o1=>cases o1 with
    | lst xs=>
     rw [e1] at p
     dsimp only at p
     obtain ⟨p1,v1,rfl,f1,g1,r1⟩:=S.lst q1 e1
     by_cases hz:(jM j&&decide (xs.length * j.toNat<=zP))=true
     ·rw [if_pos hz] at p
      rw [Bool.and_eq_true,decide_eq_true_iff] at hz
      obtain ⟨b1,b2⟩:=QM hz.1
      refine .inr ⟨p1,j,v1,rfl,rfl,g1,by omega,by omega,by rw [<- r1.length];exact QR hz.2,λ l hl=>?_⟩
      obtain ⟨c1,c2,c3⟩:=J3 S hl (r1.rep j.toNat)
      exact p _ _ _ c1 c2 c3
     ·rw [if_neg hz] at p;exact p.elim
    | _=>rw [e1] at p;exact p.elim
  | _=>exact p.elim
 | _=>cases u<;>exact p.elim
noncomputable def qY:W->W->Hx->R W:=λ x y A=>match x with
 | .ref n=>match A[n]? with
  | some (.lst ws)=>if ws.length<zP then .ok .non (A.set n (.lst (ws++[y]))) else .bad
  | _=>.bad
 | _=>.bad
noncomputable def kR (x:W)(A:Hx):Bool:=match x with
 | .ref n=>match A[n]? with
  | some (.lst _)=>true
  | _=>false
 | _=>false
theorem Hk {φ:List Addr}{A:Hx}{H:Hp}{w:W}{v:V}(S:zG K φ A H)(q:RV K φ H w v)(e:kR w A=true):WG K "list" v H:=by
 unfold kR at e
 cases w with
 | ref n=>
  dsimp only at e
  cases e1:A[n]? with
  | none=>rw [e1] at e;cases e
  | some o=>cases o with
   | lst ws=>obtain ⟨p,vs,rfl,_,h,_⟩:=S.lst q e1;exact .inl ⟨rfl,_,qW.of h⟩
   | _=>rw [e1] at e;cases e
 | _=>cases e
noncomputable def qx (g:W->W->Hx->R W)(a b:Ev):Ev:=λ ρ A=>(a ρ A).bind λ x A1=>if kR x A1 then (b ρ A1).bind λ y A2=>g x y A2 else .bad
theorem We {nm:Str}{id:String}{r:V->List V->Hp->VK->Prop}{g:W->W->Hx->R W}{apos cpos:Pos}(slot:Slot "list" nm id)(hty:typeOf (.builtin id)=pure (.type "method_descriptor"))(hm:Uj X id r)(hn:∀x y A,qB (g x y A))
  (hg:∀φ A H x y u v Q,zG X.K φ A H->RV X.K φ H u x->RV X.K φ H v y->(g u v A).post (PB X.K φ H Q) wg->r x [y] H Q)(ho:SE X xr a ma)(he:SE X xr b mb)
  (hs:starEach [b] X.env=(false,eval b X.env)::starEach [] X.env)(hbase:attributeBase a nm X.env (eval a X.env)=eval a X.env)
  (hfew:((backTo cpos (starEach [b] X.env)).all (λ x=>!x.1)&&(backToKw cpos (keywordEach [] X.env)).all (λ x=>x.1.isSome)
   && decide ([b].length+([]:List Keyword).length+(if ([]:List Keyword).isEmpty then 0 else 1)<30))=true)(hline:(apos.endLine==cpos.line)=true):
  SE X xr (.Call (.Attribute a nm apos) [b] [] cpos) (qx g ma mb):=
 PE.imp (P1 PySem.F.plainAttrs_list slot hty hm ho (jk he j6 hs) hbase hfew hline hs (by rfl)) λ σ H Q ⟨φ,A,ρ,S,re,h⟩=>by
  refine tM.go S re (zV.mp h) λ w A1 φ1 H1 v h1 l1 S1 q1=>?_
  by_cases hl:kR w A1=true
  ·rw [if_pos hl] at h1
   refine ⟨Hk S1 q1 hl,?_⟩
   refine tM.go S1 (re.mono l1) (qo (zV.mp h1) (λ _ _ z=>z) λ _ _ z=>z.mono l1) λ w2 A2 φ2 H2 v2 h2 l2 S2 q2=>?_
   exact hg φ2 A2 H2 v v2 w w2 Q S2 (q1.mono l2) q2 (qo (QT (hn _ _ _) h2) (λ _ _ z=>z.mono (l1.trans l2)) λ _ _ z=>z)
  ·rw [if_neg hl] at h1;exact h1.elim
theorem LY:∀x y A,qB (qY x y A):=λ x y A=>by
 unfold qY
 split
 ·split
  ·exact gF jX qL
  ·exact qL
 ·exact qL
noncomputable def wX:W->W->Hx->R W:=λ x y A=>match x,y with
 | .ref n,.int i=>match A[n]? with
  | some (.lst ws)=>match (if jM i then seqIndex? i ws.length else none) with
   | some k=>match ws[k]? with
    | some w=>.ok w (A.set n (.lst (ws.eraseIdx k)))
    | none=>.bad
   | none=>.bad
  | _=>.bad
 | _,_=>.bad
theorem IP:∀x y A,qB (wX x y A):=λ x y A=>by
 unfold wX
 split
 ·split
  ·split
   ·split
    ·exact jX
    ·exact qL
   ·exact qL
  ·exact qL
 ·exact qL
noncomputable def yr:W->W->W->Hx->R Unit:=λ o i v A=>match o,i with
 | .ref n,.int k=>match A[n]? with
  | some (.lst ws)=>match kS ws.length k with
   | some j=>.ok () (A.set n (.lst (ws.set j v)))
   | none=>.bad
  | _=>.bad
 | _,_=>.bad
theorem RU:∀o i v A,qB (yr o i v A):=λ o i v A=>by
 unfold yr
 split
 ·split
  ·split
   ·exact jX
   ·exact qL
  ·exact qL
 ·exact qL
theorem RG:Wc K Pz yr:=λ φ A H o i v wo wi wv Q S q1 q2 q3 p=>by
 unfold yr at p
 cases wo with
 | ref n=>cases wi with
  | int k=>
   obtain rfl:=q2
   dsimp only at p
   cases e1:A[n]? with
   | none=>rw [e1] at p;exact p.elim
   | some o1=>cases o1 with
    | lst ws=>
     rw [e1] at p
     dsimp only at p
     cases e2:kS ws.length k with
     | none=>rw [e2] at p;exact p.elim
     | some j=>
      rw [e2] at p
      obtain ⟨l,vs,rfl,f1,g1,r1⟩:=S.lst q1 e1
      have ln:Le K φ H φ (upd H l (.lst (vs.set j v))):=Le.upd f1 (λ xs z=>by rw [g1] at z;cases z) (λ _ _ z=>by rw [g1] at z;cases z)
      obtain ⟨w1,w2⟩:=S.write (o:=.lst ws) (o':=.lst (ws.set j wv)) e1 rfl rfl f1 ⟨_,jA,(r1.mono ln).set (q3.mono ln) j⟩
      exact ⟨l,vs,k,j,rfl,rfl,g1,by rw [<- r1.length];exact e2,p _ _ w1 w2⟩
    | _=>rw [e1] at p;exact p.elim
  | _=>exact p.elim
 | _=>cases wi<;>exact p.elim
end
section
variable {X:Cx}{xr:XR}{K:Frag}{e a b c:Expr}{es:List Expr}{m ma mb mc:Ev}{pos:Pos}
theorem Ez {id:String}{x:Str}{p:Pos}{r:List V->Hp->VK->Prop}{g:W->Hx->R W}(hc:yb X (.type id) r)(hn:∀w A,qB (g w A))(hg:Ox X.K (λ v=>r [v]) g)(hm:X.mg x=none)(hv:bootBuiltins x=some (.type id))(ha:SE X xr e m)(hgl:Gl X x:=by rfl)
  (hn':x ≠ "__name__" := by decide)(hdb:(x==("__debug__" : Str))=false:=by decide)(he:starEach [e] X.env=(false,eval e X.env)::starEach [] X.env:=by rfl)(hpl:(backTo pos (starEach [] X.env)).any (·.1)=false:=by rfl):
  SE X xr (.Call (.Name x p) [e] [] pos) (Qb g m):=PE.imp (JN hc hgl hm hv (jk ha j6 he) hn' hdb he hpl) λ σ H Q h=>Qb.read (r:=λ v=>r [v]) hn hg σ H Q h
theorem P2 {id:String}{x:Str}{p:Pos}{r:List V->Hp->VK->Prop}{g:W->W->Hx->R W}(hc:yb X (.builtin id) r)(hn:∀w w' A,qB (g w w' A))(hg:j7 X.K (λ v v'=>r [v,v']) g)(hm:X.mg x=none)(hv:bootBuiltins x=some (.builtin id))(ha:SE X xr a ma)(hb:SE X xr b mb)(hgl:Gl X x)
  (hn':x ≠ "__name__")(hdb:(x==("__debug__" : Str))=false)(h1:starEach [a,b] X.env=(false,eval a X.env)::starEach [b] X.env)(h2:starEach [b] X.env=(false,eval b X.env)::starEach [] X.env)(hpl:(backTo pos (starEach [b] X.env)).any (·.1)=false):
  SE X xr (.Call (.Name x p) [a,b] [] pos) (zl g ma mb):=PE.imp (ZP hc hgl hm hv (jk ha (jk hb j6 h2) h1) hn' hdb h1 hpl) λ σ H Q h=>zl.read (r:=λ v v'=>r [v,v']) hn hg σ H Q h
noncomputable def Yp:W->Hx->R W
 | .int i,A=>.ok (.int i) A
 | .bl k,A=>.ok (.int (if k then 1 else 0)) A
 | _,_=>.bad
noncomputable def Z0:=gZ λ i j=>.int (if j > i then j else i)
noncomputable def wB:=gZ λ i j=>.int (if j<i then j else i)
noncomputable def kx:W->Bool
 | .tup _=>false
 | .ref _=>false
 | .clo _ _ _=>false
 | .xc _=>false
 | _=>true
noncomputable def Ua:W->W->Bool
 | .non,.non=>true
 | .bl a,.bl b=>a==b
 | .bl a,.int b=>(if a then 1 else 0)==b
 | .int a,.bl b=>a==(if b then 1 else 0)
 | .int a,.int b=>a==b
 | .str a,.str b=>a==b
 | _,_=>false
noncomputable def Z8 (x:W)(xs:List W):Bool:=xs.any λ y=>Ua y x
theorem Tn {φ:List Addr}{H:Hp}{w:W}{v:V}(q:RV K φ H w v)(e:kx w=true):gM v=true:=by
 cases w<;>first
  | (cases e;done)
  | (obtain rfl:=q;rfl)
theorem Lq {φ:List Addr}{H:Hp}{w w':W}{v v':V}(q:RV K φ H w v)(q':RV K φ H w' v')(e:kx w=true)(e':kx w'=true):ZF v v'=Ua w w':=by
 cases w<;>cases w'<;>first
  | (cases e;done)
  | (cases e';done)
  | (obtain rfl:=q;obtain rfl:=q';rfl)
theorem Ss {φ:List Addr}{H:Hp}{x:W}{v:V}(q:RV K φ H x v)(e:kx x=true):∀{xs:List W} {vs:List V},zF K φ H xs vs->xs.all kx=true->vs.all gM=true/\WK v vs=Z8 x xs
 | [],_,r,_=>by cases r;exact ⟨rfl,rfl⟩
 | w::ws,_,⟨y,r,e1,h,t⟩,h2=>by
  subst e1
  rw [List.all_cons,Bool.and_eq_true] at h2
  obtain ⟨i1,i2⟩:=Ss q e t h2.2
  refine ⟨by rw [List.all_cons,Tn h h2.1,i1];rfl,?_⟩
  unfold WK Z8 at i2 ⊢
  rw [List.any_cons,List.any_cons,i2,Lq h q h2.1 e]
noncomputable def gT (neg:Bool):W->W->Hx->R W:=λ x y A=>match zE y A with
 | some ws=>if kx x&&ws.all kx then .ok (.bl (if neg then !Z8 x ws else Z8 x ws)) A else .bad
 | none=>.bad
noncomputable abbrev Ui:=gT false
noncomputable abbrev kr:=gT true
theorem Po {n:Bool}:∀x y A,qB (gT n x y A):=λ x y A=>by
 unfold gT
 split
 ·exact gF jX qL
 ·exact qL
theorem RS {n:Bool}:j7 K (Ul K n) (gT n):=λ φ A H x y u v Q S q1 q2 p=>by
 unfold gT at p
 cases es:zE v A with
 | none=>rw [es] at p;exact p.elim
 | some ws=>
  rw [es] at p
  dsimp only at p
  by_cases hf:(kx u&&ws.all kx)=true
  ·rw [if_pos hf] at p
   rw [Bool.and_eq_true] at hf
   obtain ⟨a,ys,rfl,z,r⟩:=Kh S q2 es
   obtain ⟨i1,i2⟩:=Ss q1 hf.1 r hf.2
   exact ⟨a,ys,rfl,z,Tn q1 hf.1,i1,by rw [i2];exact p φ H _ .refl S rfl⟩
  ·rw [if_neg hf] at p;exact p.elim
structure Yl (X:Cx)(op:CmpOp)(g:W->W->Hx->R W):Prop where
 ex:∃r:R2,qE X (compareOp op) r/\(∀x y A,qB (g x y A))/\j7 X.K r g
theorem BN:Yl X .In Ui:=⟨_,M9,Po,RS⟩
theorem Rl:Yl X .NotIn kr:=⟨_,NX,Po,RS⟩
end
noncomputable def jP (f:W->Option PyData):List W->Option (List PyData)
 | []=>some []
 | w::ws=>match f w,jP f ws with
  | some d,some ds=>some (d::ds)
  | _,_=>none
noncomputable def qf (A:Hx):Nat->W->Option PyData
 | _,.non=>some .none
 | _,.bl b=>some (.bool b)
 | _,.int i=>some (.int i)
 | _,.str x=>if PyData.strOk x then some (.str x) else none
 | _,.clo _ _ _=>none
 | _,.xc _=>none
 | 0,.tup _=>none
 | 0,.ref _=>none
 | n+1,.tup ws=>(jP (qf A n) ws).map .tuple
 | n+1,.ref k=>match zE (.ref k) A with
  | some ws=>(jP (qf A n) ws).map .list
  | none=>none
theorem HG {K:Frag}{φ:List Addr}{A:Hx}{H:Hp}{n:Nat}{us:List W}{v:V}(S:zG K φ A H)(q:RV K φ H (.ref n) v)(es:zE (.ref n) A=some us):∃a ys,v=.ref a/\qW K H a ys/\zF K φ H us ys:=by
 obtain ⟨a,rfl,e2⟩:=q
 unfold zE at es
 dsimp only at es
 cases ec:A[n]? with
 | none=>rw [ec] at es;cases es
 | some o=>
  rw [ec] at es
  obtain ⟨a',e3,r⟩:=S.ob n o ec
  rw [e2] at e3;cases e3
  cases o with
  | lst xs=>cases es;obtain ⟨ys,h1,h2⟩:=r;exact ⟨a,ys,rfl,qW.of h1,h2⟩
  | ro xs=>cases es;obtain ⟨ys,h1,h2⟩:=r;exact ⟨a,ys,rfl,h1.sq,h2⟩
  | dct xs=>cases es
  | tab _ _=>cases es
section
variable {X:Cx}{xr:XR}{e a b c:Expr}{ma mb mc:Ev}{pos:Pos}
theorem Xy {K:Frag}{φ:List Addr}{H:Hp}{h:Heap}{f:W->Option PyData}(hf:∀w v u d,RV K φ H w v->RelV v u->f w=some d->∃as,Reads h u d as):
  ∀{ws:List W} {vs:List V} {us:List Value} {ds:List PyData},zF K φ H ws vs->Vals vs us->jP f ws=some ds->∃as,ReadsAll h us ds as
 | [],_,_,_,r,rv,e=>by cases r;cases rv;cases e;exact ⟨[],.nil⟩
 | w::ws,_,_,ds,⟨v,r,e1,q,t⟩,rv,e=>by
  subst e1
  cases rv with
  | cons r1 r2=>
   unfold jP at e
   cases e2:f w with
   | none=>rw [e2] at e;cases e
   | some d=>
    cases e3:jP f ws with
    | none=>rw [e2,e3] at e;cases e
    | some ds'=>
     rw [e2,e3] at e
     cases e
     obtain ⟨as,h1⟩:=hf w v _ d q r1 e2
     obtain ⟨bs,h2⟩:=Xy hf t r2 e3
     exact ⟨_,.cons h1 h2⟩
theorem ZQ {pins:List (Addr × Obj)}{σ:St}{H:Hp}{s:Shared}{φ:List Addr}{A:Hx}(I:Inv X pins σ H s)(S:zG X.K φ A H):∀(n:Nat) (w:W) (v:V) (u:Value) (d:PyData),RV X.K φ H w v->RelV v u->qf A n w=some d->∃as,Reads s.heap u d as:=by
 intro n
 induction n with
 | zero=>
  intro w v u d q r e
  cases w with
  | non=>obtain rfl:=q;cases r;cases e;exact ⟨_,.none⟩
  | bl k=>obtain rfl:=q;cases r;cases e;exact ⟨_,.bool k⟩
  | int k=>obtain rfl:=q;obtain ⟨t,rfl⟩:=r;cases e;exact ⟨_,.int k t⟩
  | str k=>
   obtain rfl:=q
   obtain ⟨t,rfl⟩:=r
   unfold qf at e
   split at e
   ·cases e;exact ⟨_,.str k t⟩
   ·cases e
  | tup _=>cases e
  | ref _=>cases e
  | clo _ _ _=>unfold qf at e;cases e
  | xc _=>unfold qf at e;cases e
 | succ n ih=>
  intro w v u d q r e
  cases w with
  | non=>obtain rfl:=q;cases r;cases e;exact ⟨_,.none⟩
  | bl k=>obtain rfl:=q;cases r;cases e;exact ⟨_,.bool k⟩
  | clo _ _ _=>unfold qf at e;cases e
  | xc _=>unfold qf at e;cases e
  | int k=>obtain rfl:=q;obtain ⟨t,rfl⟩:=r;cases e;exact ⟨_,.int k t⟩
  | str k=>
   obtain rfl:=q
   obtain ⟨t,rfl⟩:=r
   unfold qf at e
   split at e
   ·cases e;exact ⟨_,.str k t⟩
   ·cases e
  | tup ws=>
   obtain ⟨a,vs,rfl,hs,hr⟩:=q
   cases r
   unfold qf at e
   cases e1:jP (qf A n) ws with
   | none=>rw [e1] at e;cases e
   | some ds=>
    rw [e1] at e
    cases e
    obtain ⟨its,rv,⟨o,h1,h2,k,h3⟩,_⟩:=I.tuple hs
    obtain ⟨as,h4⟩:=Xy ih hr rv e1
    exact ⟨_,.tuple h1 h2 h3 (by simpa using h4)⟩
  | ref k=>
   unfold qf at e
   cases e1:zE (.ref k) A with
   | none=>rw [e1] at e;cases e
   | some ws=>
    rw [e1] at e
    dsimp only at e
    obtain ⟨a,ys,rfl,hs,hr⟩:=HG S q e1
    cases r
    cases e2:jP (qf A n) ws with
    | none=>rw [e2] at e;cases e
    | some ds=>
     rw [e2] at e
     cases e
     obtain ⟨its,rv,⟨o,k',h1,h2,_,h3⟩,_⟩:=I.list hs
     obtain ⟨as,h4⟩:=Xy ih hr rv e2
     exact ⟨_,.list h1 h2 h3 (by simpa using h4)⟩
theorem Kn {A:Hx}:∀(n:Nat) (w:W) (d:PyData),qf A n w=some d->d.canLay0=true/\d.depth<=n:=by
 intro n
 have lst:∀{n:Nat},(∀(w:W) (d:PyData),qf A n w=some d->d.canLay0=true/\d.depth<=n)->∀(ws:List W) (ds:List PyData),jP (qf A n) ws=some ds->PyData.canLayAll0 ds=true/\PyData.depthAll ds<=n:=by
  intro n ih ws
  induction ws with
  | nil=>intro ds e;cases e;exact ⟨by simp [PyData.canLayAll0],by simp [PyData.depthAll]⟩
  | cons w ws ihw=>
   intro ds e
   unfold jP at e
   cases e2:qf A n w with
   | none=>rw [e2] at e;cases e
   | some d=>
    cases e3:jP (qf A n) ws with
    | none=>rw [e2,e3] at e;cases e
    | some ds'=>
     rw [e2,e3] at e
     cases e
     obtain ⟨h1,h2⟩:=ih w d e2
     obtain ⟨h3,h4⟩:=ihw ds' e3
     refine ⟨by simp [PyData.canLayAll0,h1,h3],?_⟩
     simp only [PyData.depthAll]
     omega
 induction n with
 | zero=>
  intro w d e
  cases w with
  | tup _=>cases e
  | ref _=>cases e
  | clo _ _ _=>unfold qf at e;cases e
  | xc _=>unfold qf at e;cases e
  | str x=>
   unfold qf at e
   split at e
   ·rename_i hx;cases e;exact ⟨by simp [PyData.canLay0,hx],by simp [PyData.depth]⟩
   ·cases e
  | _=>cases e;exact ⟨by simp [PyData.canLay0],by simp [PyData.depth]⟩
 | succ n ih=>
  intro w d e
  cases w with
  | clo _ _ _=>unfold qf at e;cases e
  | xc _=>unfold qf at e;cases e
  | tup ws=>
   unfold qf at e
   cases e1:jP (qf A n) ws with
   | none=>rw [e1] at e;cases e
   | some ds=>
    rw [e1] at e
    cases e
    obtain ⟨h1,h2⟩:=lst ih ws ds e1
    refine ⟨by simp [PyData.canLay0,h1],?_⟩
    simp only [PyData.depth]
    omega
  | ref k=>
   unfold qf at e
   cases e1:zE (.ref k) A with
   | none=>rw [e1] at e;cases e
   | some ws=>
    rw [e1] at e
    dsimp only at e
    cases e2:jP (qf A n) ws with
    | none=>rw [e2] at e;cases e
    | some ds=>
     rw [e2] at e
     cases e
     obtain ⟨h1,h2⟩:=lst ih ws ds e2
     refine ⟨by simp [PyData.canLay0,h1],?_⟩
     simp only [PyData.depth]
     omega
  | str x=>
   unfold qf at e
   split at e
   ·rename_i hx;cases e;exact ⟨by simp [PyData.canLay0,hx],by simp [PyData.depth]⟩
   ·cases e
  | _=>cases e;exact ⟨by simp [PyData.canLay0],by simp [PyData.depth]⟩
noncomputable def wF (neg:Bool):W->W->Hx->R W:=λ x y A=>match qf A 8 x,qf A 8 y with
 | some d,some d'=>.ok (.bl (if neg then !PyData.eqv d d' else PyData.eqv d d')) A
 | _,_=>.bad
noncomputable abbrev yd:=wF false
noncomputable abbrev jC:=wF true
theorem Pm {n:Bool}:∀x y A,qB (wF n x y A):=λ x y A=>by
 unfold wF
 split
 ·exact jX
 ·exact qL
noncomputable def V9 (K:Frag)(neg:Bool):R2:=λ x y H Q=>∃φ A u v d d',zG K φ A H/\RV K φ H u x/\RV K φ H v y/\qf A 8 u=some d/\qf A 8 v=some d'/\Q (.bl (if neg then !PyData.eqv d d' else PyData.eqv d d')) H
theorem KR {A:Hx}{w:W}{d:PyData}(h:qf A 8 w=some d):SeqAt.shaped d=true:=by
 obtain ⟨h1,h2⟩:=Kn 8 w d h
 unfold SeqAt.shaped
 rw [h1,Bool.true_and,decide_eq_true_iff]
 omega
theorem DK (hu:X.A.units+64<cLine):qE X (compareOp .Eq) (V9 X.K false):=by
 intro pins s σ H x y v u Q I rx ry h
 obtain ⟨φ,A,w1,w2,d,d',S,q1,q2,e1,e2,q⟩:=h
 obtain ⟨as,h1⟩:=ZQ I S 8 w1 x v d q1 rx e1
 obtain ⟨bs,h2⟩:=ZQ I S 8 w2 y u d' q2 ry e2
 exact eq_dataH h1 h2 (KR e1) (KR e2) hu ⟨.bl _,H,I,rfl,q⟩
theorem DN (hu:X.A.units+64<cLine):qE X (compareOp .NotEq) (V9 X.K true):=by
 intro pins s σ H x y v u Q I rx ry h
 obtain ⟨φ,A,w1,w2,d,d',S,q1,q2,e1,e2,q⟩:=h
 obtain ⟨as,h1⟩:=ZQ I S 8 w1 x v d q1 rx e1
 obtain ⟨bs,h2⟩:=ZQ I S 8 w2 y u d' q2 ry e2
 exact ne_dataH h1 h2 (KR e1) (KR e2) hu ⟨.bl _,H,I,rfl,q⟩
theorem SY {K:Frag}{n:Bool}:j7 K (V9 K n) (wF n):=λ φ A H x y u v Q S q1 q2 p=>by
 unfold wF at p
 cases e1:qf A 8 u with
 | none=>rw [e1] at p;exact p.elim
 | some d=>
  cases e2:qf A 8 v with
  | none=>rw [e1,e2] at p;exact p.elim
  | some d'=>
   rw [e1,e2] at p
   exact ⟨φ,A,u,v,d,d',S,q1,q2,e1,e2,p φ H _ .refl S rfl⟩
theorem Qp {k:Nat}(hr:jn k X.A):k9 X .Eq yd:=Ja (DK hr.units) Pm SY
theorem wx {k:Nat}(hr:jn k X.A):k9 X .NotEq jC:=Ja (DN hr.units) Pm SY
end
mutual
noncomputable def W.nr:W->Bool
 | .tup ws=>qT ws
 | .ref _=>false
 | .clo _ ws _=>qT ws
 | _=>true
noncomputable def qT:List W->Bool
 | []=>true
 | w::ws=>w.nr&&qT ws
end
noncomputable def iso (f:Fn):Fn:=λ us A=>if qT us then (match f us [] with
 | .ok w A1=>(match w with
  | .ref n=>(match A1[n]? with
   | some (.lst ws)=>if qT ws then .ok (.ref A.length) (A++[.lst ws]) else .bad
   | some (.dct kvs)=>if qT (kvs.map (·.2)) then .ok (.ref A.length) (A++[.dct kvs]) else .bad
   | _=>.bad)
  | w=>if w.nr then .ok w A else .bad)
 | _=>.bad) else .bad
noncomputable def kA (f:Fn):Fn:=λ us A=>match us with
 | .ref n::us=>(match A[n]? with
  | some (.lst ws)=>if qT ws&&qT us then (match f (.ref 0::us) [.lst ws] with
   | .ok w A1=>(match (List.head? A1:Option O) with
    | some (.lst ws2)=>if qT ws2&&w.nr then .ok w (A.set n (.lst ws2)) else .bad
    | _=>.bad)
   | _=>.bad) else .bad
  | _=>.bad)
 | _=>.bad
section
variable {K:Frag}{φ φ' φ1:List Addr}{H H' H1:Hp}{A A1:Hx}
mutual
theorem RV.nrm (tp:∀a vs,qv K H a vs->qv K H' a vs)(fz:∀a o u,H a=some (.frz o u)->H' a=some (.frz o u)):∀{w:W} {v:V},w.nr=true->RV K φ H w v->RV K φ' H' w v
 | .non,_,_,h=>h
 | .bl _,_,_,h=>h
 | .int _,_,_,h=>h
 | .str _,_,_,h=>h
 | .tup ws,_,n,⟨a,vs,e,t,r⟩=>⟨a,vs,e,tp _ _ t,zF.nrm tp fz n r⟩
 | .ref _,_,n,_=>nomatch n
 | .clo _ ws P,_,n,⟨a,ob,u,c,oc,uc,vs,e,h1,h2,h3,r⟩=>⟨a,ob,u,c,oc,uc,vs,e,fz _ _ _ h1,fz _ _ _ h2,h3,zF.nrm tp fz n r⟩
 | .xc _,_,_,⟨a,oe,u,C,e,h1,h2⟩=>⟨a,oe,u,C,e,fz _ _ _ h1,h2⟩
theorem zF.nrm (tp:∀a vs,qv K H a vs->qv K H' a vs)(fz:∀a o u,H a=some (.frz o u)->H' a=some (.frz o u)):∀{ws:List W} {vs:List V},qT ws=true->zF K φ H ws vs->zF K φ' H' ws vs
 | [],_,_,h=>h
 | w::ws,_,n,⟨v,r,e,h,t⟩=>by
  have n':(w.nr&&qT ws)=true:=n
  rw [Bool.and_eq_true] at n'
  exact ⟨v,r,e,RV.nrm tp fz n'.1 h,zF.nrm tp fz n'.2 t⟩
end
theorem zG.none:zG K [] [] H:=⟨rfl,λ i j a o o' _ _ h=>by simp at h,λ n o h=>by simp at h⟩
theorem zG.frame (S:zG K φ A H)(k:∀a o,H a=some o->H1 a=some o)(l:Le K φ H φ H1):zG K φ A H1:=
 ⟨S.len,S.inj,λ n o e=>let ⟨a,h1,q⟩:=S.ob n o e;⟨a,h1,q.keep l λ u hu=>k a u hu⟩⟩
theorem Le.apart (l:Le K [] H φ1 H1):Le K φ H φ H1/\∀a o,H a=some o->H1 a=some o:=
 have k:∀a o,H a=some o->H1 a=some o:=λ a o h=>l.fr a o h λ n e=>by simp at e
 ⟨⟨λ _ _ h=>h,l.tp,λ a o h _=>k a o h,λ _ _ h=>.inl h,l.st,l.fz⟩,k⟩
theorem zG.trackN {D:Addr}{u:HO}{o:O}(S:zG K φ A H)(hD:H D=some u)(n:∀(k:Nat) (q:O),φ[k]? =some D->A[k]? =some q->q.mut=false)(new:OR K (φ++[D]) H D o):zG K (φ++[D]) (A++[o]) H:=by
 have l:gh K φ H (φ++[D]) H:=⟨λ n a h=>by
  have:=(List.getElem?_eq_some_iff.mp h).1
  rw [List.getElem?_append_left this];exact h,λ _ _ h=>h,λ _ _ _ h=>h⟩
 have old:∀(i:Nat) a,(φ++[D])[i]? =some a->i<A.length->φ[i]? =some a:=λ i a e hi=>by
  rw [List.getElem?_append_left (by rw [S.len];exact hi)] at e;exact e
 have last:∀a,(φ++[D])[A.length]? =some a->a=D:=λ a e=>by
  rw [List.getElem?_append_right (by rw [S.len];exact Nat.le_refl _),S.len] at e
  simpa using e.symm
 refine ⟨by simp [S.len],λ i j a o1 o2 h1 h2 h3 h4 m1 m2=>?_,λ k o' e=>?_⟩
 ·by_cases hi:i<A.length
  ·rw [List.getElem?_append_left hi] at h3
   by_cases hj:j<A.length
   ·rw [List.getElem?_append_left hj] at h4
    exact S.inj i j a o1 o2 (old i a h1 hi) (old j a h2 hj) h3 h4 m1 m2
   ·exfalso
    have hj':j=A.length:=by have:=(List.getElem?_eq_some_iff.mp h4).1;simp at this;omega
    subst hj'
    have z:=n i o1 (by rw [<- last a h2];exact old i a h1 hi) h3
    rw [m1] at z;cases z
  ·have hi':i=A.length:=by have:=(List.getElem?_eq_some_iff.mp h3).1;simp at this;omega
   by_cases hj:j<A.length
   ·exfalso
    rw [List.getElem?_append_left hj] at h4
    subst hi'
    have z:=n j o2 (by rw [<- last a h1];exact old j a h2 hj) h4
    rw [m2] at z;cases z
   ·have:=(List.getElem?_eq_some_iff.mp h4).1;simp at this;omega
 ·by_cases hn:k<A.length
  ·rw [List.getElem?_append_left hn] at e
   obtain ⟨a,e1,q⟩:=S.ob k o' e
   refine ⟨a,l.ex _ _ e1,?_⟩
   cases o' with
   | lst ws=>obtain ⟨vs,z,r⟩:=q;exact ⟨vs,z,r.monoW l⟩
   | dct ws=>obtain ⟨vs,z,z2,r⟩:=q;exact ⟨vs,z,z2,r.monoW l⟩
   | tab _ _=>exact q
   | ro ws=>obtain ⟨vs,z,r⟩:=q;exact ⟨vs,z,r.monoW l⟩
  ·have hn':k=A.length:=by have:=(List.getElem?_eq_some_iff.mp e).1;simp at this;omega
   subst hn'
   rw [List.getElem?_append_right (Nat.le_refl _)] at e
   simp at e
   subst e
   exact ⟨D,by rw [List.getElem?_append_right (by rw [S.len];exact Nat.le_refl _),S.len];simp,new⟩
theorem zG.adopt {n:Nat}{a:Addr}{o:O}(S:zG K φ A H)(l:Le K [] H φ1 H1)(h1:φ1[n]? =some a)(m:∃u,H1 a=some u)(new:OR K (φ++[a]) H1 a o):
  Le K φ H (φ++[a]) H1/\zG K (φ++[a]) (A++[o]) H1/\RV K (φ++[a]) H1 (.ref A.length) (.ref a):=by
 obtain ⟨la,k⟩:=l.apart (φ:=φ)
 have h0:H a=Option.none:=by
  rcases l.nw n a h1 with e | e
  ·simp at e
  ·exact e
 obtain ⟨u,hu⟩:=m
 have S1:=S.frame k la
 refine ⟨la.Jo h0,S1.trackN hu (λ k q e1 e2=>?_) new,a,rfl,by rw [<- S.len];simp⟩
 cases hq:q.mut with
 | false=>rfl
 | true=>
  obtain ⟨a',e3,r⟩:=S.ob k q e2
  rw [e1] at e3;cases e3
  obtain ⟨z,hz,_⟩:=r.there hq
  rw [h0] at hz;cases hz
theorem OR.nrL {a:Addr}{ws:List W}(h:OR K φ H a (.lst ws))(n:qT ws=true):OR K φ' H a (.lst ws):=let ⟨vs,e,r⟩:=h;⟨vs,e,r.nrm (λ _ _ t=>t) (λ _ _ _ t=>t) n⟩
theorem OR.nrD {a:Addr}{kvs:List (Key × W)}(h:OR K φ H a (.dct kvs))(n:qT (kvs.map (·.2))=true):OR K φ' H a (.dct kvs):=let ⟨vs,e,e2,r⟩:=h;⟨vs,e,e2,r.nrm (λ _ _ t=>t) (λ _ _ _ t=>t) n⟩
variable {P:Program}{w:World}{mg:Str->Option Value}{base:Heap}
theorem zC.iso {k n:Nat}{x:Str}{f:Fn}(F:zC P w K mg base k x n f):zC P w K mg base k x n (iso f):=by
 obtain ⟨fa,fd,ps,F,a,b,c⟩:=F
 refine ⟨fa,fd,ps,F.imp λ vs H Q E ⟨hl,φ,A,ws,S,r,q⟩=>?_,a,b,c⟩
 unfold Mi.iso at q
 by_cases hn:qT ws=true
 ·rw [if_pos hn] at q
  refine ⟨hl,[],[],ws,zG.none,r.nrm (λ _ _ t=>t) (λ _ _ _ t=>t) hn,?_⟩
  cases hf:f ws [] with
  | ok w A1=>
   rw [hf] at q
   dsimp only at q
   intro φ1 H1 v l1 S1 q1
   cases w with
   | ref m=>
    dsimp only at q
    cases hm:A1[m]? with
    | none=>rw [hm] at q;exact q.elim
    | some o=>
     rw [hm] at q
     obtain ⟨a',ea,hr⟩:=S1.ob m o hm
     obtain ⟨a2,rfl,ea2⟩:=q1
     rw [ea] at ea2;cases ea2
     cases o with
     | lst us=>
      dsimp only at q
      by_cases hu:qT us=true
      ·rw [if_pos hu] at q
       obtain ⟨t,ht,_⟩:=hr.there rfl
       obtain ⟨b1,b2,b3⟩:=S.adopt l1 ea ⟨t,ht⟩ (o:=.lst us) (hr.nrL hu)
       exact q _ _ _ b1 b2 b3
      ·rw [if_neg hu] at q;exact q.elim
     | dct us=>
      dsimp only at q
      by_cases hu:qT (us.map (·.2))=true
      ·rw [if_pos hu] at q
       obtain ⟨t,ht,_⟩:=hr.there rfl
       obtain ⟨b1,b2,b3⟩:=S.adopt l1 ea ⟨t,ht⟩ (o:=.dct us) (hr.nrD hu)
       exact q _ _ _ b1 b2 b3
      ·rw [if_neg hu] at q;exact q.elim
     | ro us=>exact q.elim
     | tab _ _=>exact q.elim
   | _=>
    all_goals
     dsimp only at q
     obtain ⟨la,kk⟩:=l1.apart (φ:=φ)
     first
      | exact q φ H1 v la (S.frame kk la) q1
      | (
        split at q
        ·rename_i hw
         exact q φ H1 v la (S.frame kk la) (RV.nrm (λ _ _ t=>t) (λ _ _ _ t=>t) hw q1)
        ·exact q.elim)
  | exc y A1=>rw [hf] at q;exact q.elim
  | bad=>rw [hf] at q;exact q.elim
 ·rw [if_neg hn] at q;exact q.elim
theorem zC.kA {k n:Nat}{x:Str}{f:Fn}(F:zC P w K mg base k x n f):zC P w K mg base k x n (kA f):=by
 obtain ⟨fa,fd,ps,F,a,b,c⟩:=F
 refine ⟨fa,fd,ps,F.imp λ vs H Q E ⟨hl,φ,A,ws,S,r,q⟩=>?_,a,b,c⟩
 unfold Mi.kA at q
 cases ws with
 | nil=>exact q.elim
 | cons w0 us=>cases w0 with
  | ref n=>
   dsimp only at q
   cases hA:A[n]? with
   | none=>rw [hA] at q;exact q.elim
   | some o=>cases o with
    | lst xs=>
     rw [hA] at q
     dsimp only at q
     by_cases hn:(qT xs&&qT us)=true
     ·rw [if_pos hn] at q
      rw [Bool.and_eq_true] at hn
      obtain ⟨v0,vr,rfl,q0,qr⟩:=r
      obtain ⟨p,ys,rfl,f1,g1,r1⟩:=S.lst q0 hA
      have S0:zG K [p] [.lst xs] H:=by
       refine ⟨rfl,λ i j a o o' h1 h2 h3 h4 _ _=>?_,λ m o e=>?_⟩
       ·have:=(List.getElem?_eq_some_iff.mp h1).1
        have:=(List.getElem?_eq_some_iff.mp h2).1
        simp at *
        omega
       ·have:m=0:=by have:=(List.getElem?_eq_some_iff.mp e).1;simp at this;omega
        subst this
        simp at e
        subst e
        exact ⟨p,rfl,ys,g1,r1.nrm (λ _ _ t=>t) (λ _ _ _ t=>t) hn.1⟩
      refine ⟨hl,[p],[.lst xs],.ref 0::us,S0,.cons ⟨p,rfl,rfl⟩ (qr.nrm (λ _ _ t=>t) (λ _ _ _ t=>t) hn.2),?_⟩
      cases hf:f (.ref 0::us) [.lst xs] with
      | ok w A1=>
       rw [hf] at q
       dsimp only at q
       intro φ1 H1 v l1 S1 q1
       cases h0:List.head? A1 with
       | none=>rw [h0] at q;exact q.elim
       | some o=>cases o with
        | lst zs=>
         rw [h0] at q
         dsimp only at q
         by_cases hw:(qT zs&&w.nr)=true
         ·rw [if_pos hw] at q
          rw [Bool.and_eq_true] at hw
          have apart:∀a o,a≠p->H a=some o->H1 a=some o:=λ a o ne h=>l1.fr a o h λ m e=>by
           have:m=0:=by have:=(List.getElem?_eq_some_iff.mp e).1;simp at this;omega
           subst this
           simp at e
           exact ne e.symm
          have lf:Le K φ H φ H1:=⟨λ _ _ h=>h,l1.tp,λ a o h nn=>apart a o (λ e=>nn n (by rw [e];exact f1)) h,λ _ _ h=>.inl h,l1.st,l1.fz⟩
          have hp:φ1[0]? =some p:=l1.ex 0 p rfl
          obtain ⟨p',e1,us',e2,r2⟩:=S1.ob 0 _ (by rw [<- List.head?_eq_getElem?];exact h0)
          rw [hp] at e1;cases e1
          refine q φ H1 v lf ?_ (RV.nrm (λ _ _ t=>t) (λ _ _ _ t=>t) hw.2 q1)
          have mt:∀(i:Nat) (w:O),(A.set n (.lst zs))[i]? =some w->w.mut=true->∃w',A[i]? =some w'/\w'.mut=true:=λ i w e mw=>by
           by_cases hi:i=n
           ·subst hi;exact ⟨_,hA,rfl⟩
           ·rw [List.getElem?_set_ne (Ne.symm hi)] at e;exact ⟨w,e,mw⟩
          refine ⟨by simp [S.len],λ i j a o1 o2 h1 h2 h3 h4 m1 m2=>?_,λ i w e=>?_⟩
          ·obtain ⟨w1,e1,k1⟩:=mt i o1 h3 m1
           obtain ⟨w2,e2,k2⟩:=mt j o2 h4 m2
           exact S.inj i j a w1 w2 h1 h2 e1 e2 k1 k2
          ·by_cases hi:i=n
           ·subst hi
            have:i<A.length:=(List.getElem?_eq_some_iff.mp hA).1
            rw [List.getElem?_set_self this] at e;cases e
            exact ⟨p,f1,us',e2,r2.nrm (λ _ _ t=>t) (λ _ _ _ t=>t) hw.1⟩
           ·rw [List.getElem?_set_ne (Ne.symm hi)] at e
            obtain ⟨a,e1,rr⟩:=S.ob i w e
            refine ⟨a,e1,?_⟩
            by_cases hm:w.mut=true
            ·have ne:a≠p:=λ z=>hi (S.inj i n a w _ e1 (by rw [z];exact f1) e hA hm rfl)
             exact rr.keep lf λ z hz=>apart a z ne hz
            ·cases w with
             | lst _=>exact absurd rfl hm
             | dct _=>exact absurd rfl hm
             | tab _ _=>exact absurd rfl hm
             | ro ws=>
              obtain ⟨vs,r1,r2⟩:=rr
              refine ⟨vs,?_,r2.mono lf⟩
              rcases r1 with ⟨ob,r1⟩ | r1
              ·refine .inl ⟨ob,apart a _ ?_ r1⟩
               intro z;subst z;rw [g1] at r1;cases r1
              ·exact .inr r1
         ·rw [if_neg hw] at q;exact q.elim
        | _=>rw [h0] at q;exact q.elim
      | exc y A1=>rw [hf] at q;exact q.elim
      | bad=>rw [hf] at q;exact q.elim
     ·rw [if_neg hn] at q;exact q.elim
    | _=>rw [hA] at q;exact q.elim
  | _=>exact q.elim
end
section
variable {X:Cx}{xr:XR}{K:Frag}{e a b c:Expr}{es:List Expr}{m ma mb mc:Ev}{pos:Pos}{st:Stmt}
noncomputable def intsOf:List W->Option (List Int)
 | []=>some []
 | w::ws=>match w with
  | .int i=>match intsOf ws with
   | some is=>some (i::is)
   | none=>none
  | _=>none
theorem Kr:∀{ws:List W} {ns:List Int},intsOf ws=some ns->ws=ns.map W.int
 | [],_,e=>by cases e;rfl
 | w::ws,ns,e=>by
  unfold intsOf at e
  cases w with
  | int i=>
   dsimp only at e
   cases e2:intsOf ws with
   | none=>rw [e2] at e;cases e
   | some is=>rw [e2] at e;cases e;rw [Kr e2];rfl
  | _=>cases e
noncomputable def jZ:List Int->Int->Int
 | [],m=>m
 | i::is,m=>jZ is (if i > m then i else m)
theorem Lu (ns:List Int):∀(k:Nat) (hk:k<ns.length),jZ (ns.drop (k+1)) (ns.getD (argBest (λ i j=>decide (ns.getD i 0 > ns.getD j 0)) k) 0)=jZ ns.tail (ns.getD 0 0):=by
 intro k
 induction k with
 | zero=>intro _;rw [show argBest _ 0=0 from rfl,List.drop_one]
 | succ k ih=>
  intro hk
  have hk':k<ns.length:=by omega
  rw [<- ih hk']
  have e:ns.drop (k+1)=ns[k+1]::ns.drop (k+1+1):=List.drop_eq_getElem_cons hk
  rw [e]
  have e3:ns.getD (k+1) 0=ns[k+1]:=by rw [List.getD_eq_getElem?_getD,List.getElem?_eq_getElem hk];rfl
  show jZ _ (ns.getD (if decide (ns.getD (k+1) 0 > ns.getD (argBest _ k) 0)=true then k+1 else argBest _ k) 0)=jZ _ (if ns[k+1] > ns.getD (argBest _ k) 0 then ns[k+1] else ns.getD (argBest _ k) 0)
  rw [e3]
  by_cases h:ns[k+1] > ns.getD (argBest (λ i j=>decide (ns.getD i 0 > ns.getD j 0)) k) 0
  ·rw [if_pos (by rw [decide_eq_true_iff];exact h),if_pos h,e3]
  ·rw [if_neg (by rw [decide_eq_true_iff];exact h),if_neg h]
noncomputable def PQ (K:Frag)(C:List Int->Prop)(f:List Int->Int):List V->Hp->VK->Prop:=λ xs H Q=>∃a ns,xs=[.ref a]/\(qW K H a (ns.map V.int)∨qv K H a (ns.map V.int))/\C ns/\Q (.int (f ns)) H
theorem Vb {ns:List Int}{its:List Value}(rv:Vals (ns.map V.int) its){i:Nat}{v:Value}(h:its[i]? =some v):∃t,v=.int (ns.getD i 0) t:=by
 have hi:i<its.length:=(List.getElem?_eq_some_iff.mp h).1
 have hi':i<ns.length:=by have:=rv.length;rw [List.length_map] at this;omega
 obtain ⟨u,h1,h2⟩:=rv.get (i:=i) (x:=V.int ns[i]) (by simp [hi'])
 rw [h] at h1;cases h1
 obtain ⟨t,rfl⟩:=h2
 exact ⟨t,by rw [List.getD_eq_getElem?_getD,List.getElem?_eq_getElem hi'];rfl⟩
theorem Ld (hc:X.calm=true):yb X (.builtin "max") (PQ X.K (λ ns=>ns≠[]) λ ns=>jZ ns.tail (ns.getD 0 0)):=by
 intro pins s σ H xs us Q I r h
 obtain ⟨a,ns,rfl,z,hne,q⟩:=h
 obtain ⟨u,rfl,ru⟩:=vals1 r
 cases ru
 have hp:0<ns.length:=List.length_pos_iff.mpr hne
 refine call_max_walk (XN I hc z λ its I' fp wr St' s2 rv hz W st hfp back=>?_)
 have e:its.length=ns.length:=by have:=rv.length;rw [List.length_map] at this;omega
 refine ⟨I',fp,wr,_,_,St',λ i j=>decide (ns.getD i 0 > ns.getD j 0),rfl,W,st,hfp,by omega,?_,λ v h' tk hv k=>?_⟩
 ·intro i j vi vj s' Q' E' h1 h2 hQ
  obtain ⟨t1,rfl⟩:=Vb rv h1
  obtain ⟨t2,rfl⟩:=Vb rv h2
  exact (PyProof.Rows.gt_int hQ:wpAny (model X.prog X.w) X.A.in1 (compareOp .Gt (.int (ns.getD i 0) t1) (.int (ns.getD j 0) t2)) Q' E' s')
 ·obtain ⟨t,rfl⟩:=Vb rv hv
  rw [e]
  have b:=Lu ns (ns.length - 1) (by omega)
  rw [show ns.length - 1+1=ns.length by omega,List.drop_length] at b
  have b':ns.getD (argBest (λ i j=>decide (ns.getD i 0 > ns.getD j 0)) (ns.length - 1)) 0=jZ ns.tail (ns.getD 0 0):=b
  rw [b']
  exact ⟨.int _,H,back h' tk k,⟨_,rfl⟩,q⟩
noncomputable def wb:List W->Hx->R W:=λ ws A=>match intsOf ws with
 | some (i::is)=>.ok (.int (jZ is i)) A
 | _=>.bad
theorem E1:∀ws A,qB (wb ws A):=λ ws A=>by
 unfold wb;split
 ·exact jX
 ·exact qL
theorem Lv {φ:List Addr}{H:Hp}{ws:List W}{ys:List V}{ns:List Int}{a:Addr}(z:qW K H a ys∨qv K H a ys)(r:zF K φ H ws ys)(e:intsOf ws=some ns):qW K H a (ns.map V.int)∨qv K H a (ns.map V.int):=by
 rw [Kr e] at r
 rw [<- zF.ints.mp r];exact z
theorem FP:Qa K (PQ K (λ ns=>ns≠[]) λ ns=>jZ ns.tail (ns.getD 0 0)) wb:=λ φ A H a ys ws Q S z r p=>by
 unfold wb at p
 cases e:intsOf ws with
 | none=>rw [e] at p;exact p.elim
 | some ns=>cases ns with
  | nil=>rw [e] at p;exact p.elim
  | cons i is=>rw [e] at p;exact ⟨a,i::is,rfl,Lv z r e,(by intro z;cases z),p φ H _ .refl S rfl⟩
end
section
variable {X:Cx}{xr:XR}{K:Frag}{e a b c:Expr}{es:List Expr}{m ma mb mc:Ev}{pos:Pos}{st:Stmt}
noncomputable def B4 (lo d:Int)(n:Nat):It:=⟨λ i _=>i<n,λ i H x H'=>H'=H/\x=.int (lo+i * d),λ i _=>n<=i⟩
noncomputable def An (ta:TA):TI:=λ σ H R=>ta σ H λ vs H1=>∃i j:Int,vs=[.int i,.int j,.int (-1)]/\(-(2 ^ 62)<=i/\i<2 ^ 62/\-(2 ^ 62)<=j/\j<2 ^ 62)/\R (B4 i (-1) (i - j).toNat) H1
noncomputable def BA (hi:Int)(n:Nat):jv:=⟨λ _ i=>if i<n then some (some (.int (hi - i))) else some none,n⟩
noncomputable def Ao (m m':Ev):Ei:=λ ρ A=>(m ρ A).bind λ w A1=>(m' ρ A1).bind λ w' A2=>match w,w' with
 | .int i,.int j=>if jM i&&jM j then .ok (BA i (i - j).toNat) A2 else .bad
 | _,_=>.bad
noncomputable def CV (ta:TA):TE:=λ σ H Q=>ta σ H λ vs H1=>∃j:Int,vs=[.int j]/\∀p,H1 p=none->Q (.ref p) (upd H1 p (.rng 0 j))
theorem F8 {ta:TA}{p:Pos}(hg:Gl X "range")(hm:X.mg "range" = none)(ha:PA X [a] ta)(hs:starEach [a] X.env=[(false,eval a X.env)]):PE X (.Call (.Name "range" p) [a] [] pos) (CV ta):=by
 intro pins s σ H Q I h
 refine Call_ (ZW I hg hm boot_range (PyProof.Rows.callWith_type1 (qe (ha pos pins s σ H _ I h) λ us s1 ⟨vs,H1,I1,r1,q1⟩=>?_) hs rfl))
 obtain ⟨j,rfl,q⟩:=q1
 obtain ⟨u,rfl,⟨t,rfl⟩⟩:=r1.one
 refine call_range_1 ⟨.ref _,_,I1.laid (o:=.rng 0 j) (λ b o eo=>Heap.get?_push_of_some _ eo) (Nat.le_refl _) ?_,rfl,q _ (I1.hok.fresh (Nat.le_refl _))⟩
 exact ⟨_,_,_,Heap.get?_push_size _ rfl⟩
noncomputable def Qu (n:Nat):List V:=(List.range n).map λ (i:Nat)=>V.int i
theorem MH (hc:X.calm=true):yb X (.type "list") (λ xs H Q=>∃(r:Addr) (j:Int),xs=[.ref r]/\H r=some (.rng 0 j)/\(-(2 ^ 62)<=j/\j<2 ^ 62)/\j.toNat<=sizeLine/\∀l,H l=none->Q (.ref l) (upd H l (.lst (Qu j.toNat)))):=by
 intro pins s σ H xs us Q I r h
 obtain ⟨p,j,rfl,hp,⟨b1,b2⟩,hz,q⟩:=h
 obtain ⟨u,rfl,ru⟩:=vals1 r
 cases ru
 obtain ⟨t1,t2,t3,ho⟩:=I.hok p _ hp
 have hl:sizeLine=16777216:=sizeLine_eq
 refine PySem.call_list_range (n:=j.toNat) (I.ok.hd hc) (show IsRange s.heap p 0 j 1 t1 t2 t3 from ho) (small_one (by omega) (by omega) b1 b2) (by rw [rangeSize_one];split<;>omega) (by omega) λ h' tk acc c' kk hS ⟨hn,hat⟩=>?_
 refine ⟨.ref s.heap.objs.size,_,I.laid (t':=tk) (o:=.lst (Qu j.toNat)) kk (Nat.le_refl _) ?_,rfl,q _ (I.hok.fresh (Nat.le_refl _))⟩
 refine ⟨by unfold Qu;simpa using hz,acc.toList,c',?_,by simpa using hS⟩
 have hv:∀(l:List Value) (k:Nat),(∀(i:Nat) v,l[i]? =some v->∃t,v=.int ((k+i:Nat):Int) t)->Vals ((List.range' k l.length).map λ (i:Nat)=>V.int i) l:=by
  intro l
  induction l with
  | nil=>intro k _;exact .nil
  | cons v l ih=>
   intro k hk
   rw [List.length_cons,List.range'_succ,List.map_cons]
   refine .cons ?_ (ih (k+1) λ i v' hv=>?_)
   ·obtain ⟨t,rfl⟩:=hk 0 v rfl
    exact ⟨t,rfl⟩
   ·obtain ⟨t,rfl⟩:=hk (i+1) v' (by simpa using hv)
    exact ⟨t,by congr 1;omega⟩
 have hl':acc.toList.length=j.toNat:=by simpa using hn
 have:=hv acc.toList 0 λ i v hiv=>by
  obtain ⟨t,rfl⟩:=hat i v (by simpa using hiv)
  exact ⟨t,by congr 1;omega⟩
 rw [hl'] at this
 unfold Qu
 rw [List.range_eq_range']
 exact this
noncomputable def kJ (m:Ev):Ev:=λ ρ A=>(m ρ A).bind λ w A1=>match w with
 | .int j=>if jM j&&decide (j.toNat<=zP) then .ok (.ref A1.length) (A1++[.lst ((List.range j.toNat).map λ (i:Nat)=>W.int i)]) else .bad
 | _=>.bad
end
noncomputable def ju (k:Bool)(h:Heap)(it a:Addr)(i:Nat):Prop:=if k=true then h.IsListIter it a i else h.IsTupleIter it a i
noncomputable def jW (k:Bool)(h:Heap)(a:Addr)(items:Array Value):Prop:=if k=true then h.IsList a items else h.IsTuple a items
noncomputable def yS (k:Bool)(K:Frag)(H:Hp)(a:Addr)(xs:List V):Prop:=if k=true then qW K H a xs else qv K H a xs
noncomputable def Qm (k:Bool):String:=if k then "list_iterator" else "tuple_iterator"
theorem ju.ob {k:Bool}{h:Heap}{it a:Addr}{i:Nat}(x:ju k h it a i):∃o,h.get? it=some o/\o.cls=.type (Qm k)/\o.data=.fields #[.ref a,.int i 0]:=by
 cases k<;>exact x
theorem ju.mk {k:Bool}{h:Heap}{it a:Addr}{i:Nat}(x:∃o,h.get? it=some o/\o.cls=.type (Qm k)/\o.data=.fields #[.ref a,.int i 0]):ju k h it a i:=by
 cases k<;>exact x
theorem ju.to {k:Bool}{h h':Heap}{it a:Addr}{i:Nat}(x:ju k h it a i)(e:∀o,h.get? it=some o->h'.get? it=some o):ju k h' it a i:=let ⟨o,h1,r⟩:=x.ob;.mk ⟨o,e o h1,r⟩
theorem jW.ob {k:Bool}{h:Heap}{a:Addr}{items:Array Value}(x:jW k h a items):∃o,h.get? a=some o/\o.cls=.type (if k then "list" else "tuple")/\∃n,o.data=.seq items n:=by
 cases k<;>exact x
theorem jW.to {k:Bool}{h h':Heap}{a:Addr}{items:Array Value}(x:jW k h a items)(e:∀o,h.get? a=some o->h'.get? a=some o):jW k h' a items:=by
 cases k with
 | false=>exact let ⟨o,h1,r⟩:=x.ob;⟨o,e o h1,r⟩
 | true=>exact let ⟨o,h1,r⟩:=x.ob;⟨o,e o h1,r⟩
section
variable {prog:Program}{w:World}{A:Around}{E:Value->Shared->Prop}{s:Shared}{k:Bool}{it a:Addr}{i:Nat}{items:Array Value}
theorem RH {Q:Value->Shared->Prop}(hl:jW k s.heap a items)(hQ:Q (.ref s.heap.objs.size) { s with heap:=s.heap.push { cls:=.type (Qm k),data:=.fields #[.ref a,.int 0 0] } }):wpAny (model prog w) A (pyIter (.ref a)) Q E s:=by
 cases k with
 | true=>exact wpAny_pyIter_list hl hQ
 | false=>exact wpAny_pyIter_tuple hl hQ
theorem KC {x:Value}{Q:Value->Shared->Prop}(hit:ju k s.heap it a i)(hl:jW k s.heap a items)(hx:items[i]? =some x)
  (hQ:∀h',ju k h' it a (i+1)->Heap.SameBut it s.heap h'->Q x { s with heap:=h' }):wpAny (model prog w) A (Builtin.SmallTypes.nextOf (.ref it)) Q E s:=by
 cases k with
 | true=>exact wpAny_nextOf_list_item hit hl hx hQ
 | false=>
  have hit':s.heap.IsTupleIter it a i:=hit
  obtain ⟨oi,hoi,hci,hdi⟩:=id hit'
  obtain ⟨oa,hoa,_,na,hda⟩:s.heap.IsTuple a items:=hl
  unfold Builtin.SmallTypes.nextOf
  refine wpAny_bind (wpAny_callSpecial?_slot (name:=Str.ofString "__next__") hit'.typeIs F.slot_tuple_iterator_next (wpAny_call_entry F.slot_tuple_iterator_next hit'.typeIs F.entry_tuple_iterator_next ?_ (F.args_tuple_iterator_next_1 _)))
  show wpAny _ _ (field (.ref it) 0 >>= _) _ _ s;refine wpAny_bind (wpAny_field hoi hdi (x:=.ref a) rfl ?_)
  show wpAny _ _ (if (Value.ref a==Value.none)=true then _ else _) _ _ s;rw [if_neg (show ¬((Value.ref a==Value.none)=true) from Bool.false_ne_true)]
  show wpAny _ _ (field (.ref it) 1 >>= _) _ _ s;refine wpAny_bind (wpAny_field hoi hdi (x:=.int i 0) rfl ?_)
  show wpAny _ _ (seqItems? (.ref a) >>= _) _ _ s;refine wpAny_bind (wpAny_seqItems hoa hda ?_)
  simp only [Int.toNat_natCast,hx]
  refine wpAny_bind (wpAny_setField hoi hdi (by simp) (wpAny_pure ⟨x,rfl,wpAny_pure (hQ _ (.mk ?_) (Heap.SameBut.update ..))⟩))
  exact ⟨_,Heap.get?_update_self _ hoi (Obj.isFreed_of_fields (Obj.data_mapFields hdi _)),(Obj.cls_mapFields ..).trans hci,by rw [Obj.data_mapFields hdi];simp [rawInt]⟩
theorem VA {Q:Value->Shared->Prop}(hh:A.handled=none)(hit:ju k s.heap it a i)(hl:jW k s.heap a items)(hx:items[i]? =none)
  (hE:∀h' e,Heap.ExtBut it s.heap h'->(∃o,h'.get? e=some o/\o.cls=.type "StopIteration")->E (.ref e) { s with heap:=h' }):wpAny (model prog w) A (Builtin.SmallTypes.nextOf (.ref it)) Q E s:=by
 cases k with
 | true=>exact wpAny_nextOf_list_end hh hit hl hx hE
 | false=>
  have hit':s.heap.IsTupleIter it a i:=hit
  obtain ⟨oi,hoi,hci,hdi⟩:=id hit'
  obtain ⟨oa,hoa,_,na,hda⟩:s.heap.IsTuple a items:=hl
  unfold Builtin.SmallTypes.nextOf
  refine wpAny_bind (wpAny_callSpecial?_slot (name:=Str.ofString "__next__") hit'.typeIs F.slot_tuple_iterator_next (wpAny_call_entry F.slot_tuple_iterator_next hit'.typeIs F.entry_tuple_iterator_next ?_ (F.args_tuple_iterator_next_1 _)))
  show wpAny _ _ (field (.ref it) 0 >>= _) _ _ s;refine wpAny_bind (wpAny_field hoi hdi (x:=.ref a) rfl ?_)
  show wpAny _ _ (if (Value.ref a==Value.none)=true then _ else _) _ _ s;rw [if_neg (show ¬((Value.ref a==Value.none)=true) from Bool.false_ne_true)]
  show wpAny _ _ (field (.ref it) 1 >>= _) _ _ s;refine wpAny_bind (wpAny_field hoi hdi (x:=.int i 0) rfl ?_)
  show wpAny _ _ (seqItems? (.ref a) >>= _) _ _ s;refine wpAny_bind (wpAny_seqItems hoa hda ?_)
  simp only [Int.toNat_natCast,hx]
  refine wpAny_bind (wpAny_rule (wpAny_bind (wpAny_setField hoi hdi (by simp) ?_)))
  show wpAny _ _ (newExc (.type "StopIteration") [] >>= _) _ _ _;refine wpAny_bind ?_;simp only [newExc,newTuple]
  refine wpAny_bind (wpAny_newObj_type ?_ (by size_fits))
  refine wpAny_bind (m:=firstArgMember _ _) (wpAny_of_eq (a:=Value.none) (by first | rfl | (simp only [firstArgMember];rfl)) ?_);refine wpAny_newObj_type ?_ (by size_fits)
  simp only [raiseNew];refine wpAny_bind (wpAny_handled ?_)
  first | rw [show A.in1.handled=none from hh] | rw [hh]
  refine wpAny_bind (wpAny_pure (wpAny_throw ?_));exact hE _ _ (((Heap.SameBut.update ..).extBut.push _).push _) ⟨_,Heap.get?_push_size _ rfl,rfl⟩
theorem T4 (hh:A.handled=none)(hne:a≠it):Draws prog w A it [it,a] items.size (λ i v=>items[i]? =some v) (λ i h=>ju k h it a i/\jW k h a items) where
 live:=λ _ _ st=>let ⟨o,ho,_⟩:=st.1.ob;⟨o,ho⟩
 frame:=λ _ _ _ st hk=>⟨st.1.to λ o e=>hk it (by simp) o e,st.2.to λ o e=>hk a (by simp) o e⟩
 item:=λ i s Q E hi st hQ=>KC st.1 st.2 (x:=items[i]) (by simp [hi]) λ h' hit' hs'=>hQ _ h' s.toks (by simp [hi]) ⟨hit',st.2.to λ o e=>hs'.extBut a o hne e⟩ hs'
 done:=λ s Q E st hE=>VA hh st.1 st.2 (by simp) hE
end
section
variable {X:Cx}{pins:List (Addr × Obj)}{σ:St}{H:Hp}{s:Shared}{h':Heap}{t':Nat}{fp:List Addr}
theorem _root_.L2.Inv.spun {T:Addr}{o:HO}(I:Inv X pins σ H s)(k:∀b u,b∉fp->s.heap.get? b=some u->h'.get? b=some u)(hf:∀b∈fp,yP X pins H b)(hT:s.heap.objs.size<=T)
  (new:qN X.prog X.w (upd H T o) h' T o):Inv X pins σ (upd H T o) { s with heap:=h',toks:=t' }:=by
 have hn:H T=none:=I.hok.fresh hT
 have lt:∀b u,s.heap.get? b=some u->b≠T:=λ b u e=>Nat.ne_of_lt (Nat.lt_of_lt_of_le (Heap.lt_size e) hT)
 have nf:∀b u,H b=some u->b∉fp:=λ b u e z=>by rw [(hf b z).1] at e;cases e
 refine I.step (g':=s.gens) (d':=s.drawn) (ch:=fp) (λ b hb=>let ⟨_,f1,_,f3,f4,f5⟩:=hf b hb;⟨f3,f1,f4,f5⟩) (λ b o _ _ hc e _=>k b o hc e) (λ b o _ _ hc e _=>⟨o.slots,k b o hc e⟩)
  (λ b o _ e n=>by rw [qg (lt b o e)];exact n) (λ b o hc e=>⟨o,k b o hc e⟩) (λ b xs e=>by rw [qg (ko e hn)];exact e) (λ b u xs e=>by rw [qg (ko e hn)];exact e)
  (λ b ps e=>⟨#[],by rw [qg (ko e hn),e];simp⟩) (λ m hm=>?_) (λ b u e=>?_) I.bare
 ·obtain ⟨o,es,ep,ho,r⟩:=hm
  exact ⟨o,es,ep,k _ o (λ z=>(hf _ z).2.1 rfl) ho,r⟩
 ·by_cases hb:b=T
  ·subst hb;rw [jA] at e;cases e;exact new
  ·rw [qg hb] at e
   refine (I.hok b u e).stay (λ c v hc q=>k c v ?_ q) (λ c q=>by rw [qg (ko q hn)];exact q) λ c xs q=>by rw [qg (ko q hn)];exact q
   rcases hc with z | z
   ·rw [z];exact nf b u e
   ·exact nf c _ z
theorem _root_.L2.Inv.spun0 (I:Inv X pins σ H s)(k:∀b u,b∉fp->s.heap.get? b=some u->h'.get? b=some u)(hf:∀b∈fp,yP X pins H b):Inv X pins σ H { s with heap:=h',toks:=t' }:=by
 have nf:∀b u,H b=some u->b∉fp:=λ b u e z=>by rw [(hf b z).1] at e;cases e
 refine I.step (g':=s.gens) (d':=s.drawn) (ch:=fp) (λ b hb=>let ⟨_,f1,_,f3,f4,f5⟩:=hf b hb;⟨f3,f1,f4,f5⟩) (λ b o _ _ hc e _=>k b o hc e) (λ b o _ _ hc e _=>⟨o.slots,k b o hc e⟩)
  (λ b o _ e n=>n) (λ b o hc e=>⟨o,k b o hc e⟩) (λ b xs e=>e) (λ b u xs e=>e) (λ b ps e=>⟨#[],by rw [e];simp⟩) (λ m hm=>?_) (λ b u e=>?_) I.bare
 ·obtain ⟨o,es,ep,ho,r⟩:=hm
  exact ⟨o,es,ep,k _ o (λ z=>(hf _ z).2.1 rfl) ho,r⟩
 ·refine (I.hok b u e).stay (λ c v hc q=>k c v ?_ q) (λ c q=>q) λ c xs q=>q
  rcases hc with z | z
  ·rw [z];exact nf b u e
  ·exact nf c _ z
theorem _root_.L2.Inv.sq {k:Bool}{a:Addr}{xs:List V}(I:Inv X pins σ H s)(h:yS k X.K H a xs):∃its:List Value,Vals xs its/\jW k s.heap a its.toArray/\xs.length<=sizeLine:=by
 cases k with
 | true=>obtain ⟨its,r,p,z⟩:=I.list h;exact ⟨its,r,p.isList,z⟩
 | false=>obtain ⟨its,r,p,z⟩:=I.tuple h;exact ⟨its,r,(show s.heap.IsTuple a its.toArray from p),z⟩
theorem _root_.L2.Inv.sq_inj {k:Bool}{a:Addr}{xs ys:List V}(I:Inv X pins σ H s)(h:yS k X.K H a xs)(h':yS k X.K H a ys):xs=ys:=by
 cases k with
 | true=>exact I.list_inj h h'
 | false=>exact I.tuple_inj h h'
end
noncomputable def Up (k:Bool)(K:Frag)(a:Addr):It:=
 ⟨λ i H=>∃xs x,yS k K H a xs/\xs[i]? =some x,λ i H x H'=>∃p y,(∀xs,yS k K H a xs->xs[i]? =some y)/\H p=none/\x=.ref p/\H'=upd H p (.tup [.int i,y]),λ i H=>∃xs,yS k K H a xs/\xs.length=i⟩
theorem LA {P:Program}{w:World}{K:Frag}{elts:List Expr}{kk:Nat}{tpos:Pos}(k:Bool)(a en it:Addr):Turn P w K (.Tuple elts kk tpos) (Up k K a) [en,it] en (λ i h=>(∃old,IsEnum h en it i old)/\ju k h it a i/\en≠it) where
 mem:=by simp
 obj:=λ i h st b hb=>by
  obtain ⟨⟨old,he⟩,hi,_⟩:=st
  rcases List.mem_cons.mp hb with rfl | hb
  ·exact ⟨_,he,λ v z=>nomatch z⟩
  ·rw [List.mem_singleton.mp hb]
   obtain ⟨o,ho,_,hd⟩:=hi.ob
   exact ⟨o,ho,λ v z=>by rw [hd] at z;cases z⟩
 keep:=λ i h h' ⟨⟨old,he⟩,hi,ne⟩ kp=>⟨⟨old,kp en (by simp) _ he⟩,hi.to λ o eo=>kp it (by simp) o eo,ne⟩
 item:=by
  intro X hP hw hK hc i pins s σ H E I hf st hg;subst hP hw hK
  obtain ⟨⟨old,he⟩,hi,ne⟩:=st
  obtain ⟨xs,x,hq,hx⟩:=hg
  obtain ⟨its,rv,hs,hz⟩:=I.sq hq
  obtain ⟨u,hu,ru⟩:=rv.get hx
  have hlt:i<its.toArray.size:=by simpa using (List.getElem?_eq_some_iff.mp hu).1
  obtain ⟨oa,hoa,hca,na,hda⟩:=hs.ob
  have ani:a≠it:=λ z=>by
   obtain ⟨oi,hoi,hci,hdi⟩:=hi.ob
   rw [<- z,hoa] at hoi;cases hoi;rw [hdi] at hda;cases hda
  have ane:en≠a:=λ z=>by
   have he':s.heap.get? a=_:=z ▸ he
   rw [hoa] at he';cases he';cases hda
  refine wpAny_pyNext_enum_itemD (T4 (k:=k) (items:=its.toArray) (I.ok.hd hc) ani) he ⟨hi,hs⟩ hlt ne (by simp [ne,ane]) λ y h1 tk hy ho hst hT hsz hk=>?_
  have ey:y=u:=by
   have:its[i]? =some y:=by simpa using hy
   rw [hu] at this;exact (Option.some.inj this).symm
  subst ey
  refine ⟨_,rfl,wpAny_letOwnedTupleGo_enum ho λ h2 he2 hs2=>?_⟩
  have ltE:en<s.heap.objs.size:=Heap.lt_size he
  have hT2:h2.get? s.heap.objs.size=some { cls:=.type "tuple",data:=.seq #[.int i tk,y] }:=hs2.extBut _ _ (Nat.ne_of_gt ltE) hT
  refine ⟨.ref s.heap.objs.size,upd H s.heap.objs.size (.tup [.int i,x]),?_,rfl,⟨s.heap.objs.size,x,λ ys hy=>by rw [I.sq_inj hy hq];exact hx,I.hok.fresh (Nat.le_refl _),rfl,rfl⟩,⟨⟨_,by simpa using he2⟩,?_,ne⟩,λ b hb=>?_⟩
  ·refine I.spun (fp:=[en,it]) (t':=tk+1) (λ b o hb eo=>?_) hf (Nat.le_refl _) ?_
   ·exact hs2.extBut _ _ (λ z=>hb (by simp [z])) (hk b o (λ z=>hb (by simp [z])) (λ z=>hb (by simp [z])) eo)
   ·exact ⟨by show 2<=sizeLine;decide,[.int i tk,y],.cons ⟨tk,rfl⟩ (.cons ru .nil),_,hT2,⟨rfl,rfl⟩,0,rfl⟩
  ·exact hst.1.to λ o eo=>hs2.extBut _ _ (λ z=>ne z.symm) eo
  ·have bn:b≠s.heap.objs.size:=λ z=>by
    rcases List.mem_cons.mp hb with q | q
    ·exact absurd ltE (by rw [<- q,z];exact Nat.lt_irrefl _)
    ·obtain ⟨oi,hoi,_⟩:=hi.ob
     exact absurd (Heap.lt_size hoi) (by rw [<- List.mem_singleton.mp q,z];exact Nat.lt_irrefl _)
   show upd H s.heap.objs.size _ b=none
   rw [qg bn];exact (hf b hb).1
 done:=by
  intro X hP hw hK hc i pins s σ H E I hf st hg;subst hP hw hK
  obtain ⟨⟨old,he⟩,hi,ne⟩:=st
  obtain ⟨xs,hq,hx⟩:=hg
  obtain ⟨its,rv,hs,hz⟩:=I.sq hq
  have en':its.toArray.size=i:=by rw [List.size_toArray,<- rv.length];exact hx
  obtain ⟨oa,hoa,hca,na,hda⟩:=hs.ob
  have ani:a≠it:=λ z=>by
   obtain ⟨oi,hoi,hci,hdi⟩:=hi.ob
   rw [<- z,hoa] at hoi;cases hoi;rw [hdi] at hda;cases hda
  refine wpAny_pyNext_enum_endD (T4 (k:=k) (items:=its.toArray) (I.ok.hd hc) ani) he ⟨by rw [en'];exact hi,hs⟩ λ h1 hx1=>⟨rfl,?_⟩
  exact I.spun0 (fp:=[en,it]) (t':=s.toks) (λ b o hb eo=>hx1 b o (λ z=>hb (by simp [z])) eo) hf
 self:=λ _ _ _ _ _ ⟨⟨_,he⟩,_⟩ h=>wpAny_pyIter_enum he h
open AutoSeq1 (wpAny_loadPart')
noncomputable abbrev Wg (h:Heap)(k:Bool)(a:Addr):Heap:=h.push { cls:=.type (Qm k),data:=.fields #[.ref a,.int 0 0] }
noncomputable abbrev P6 (h:Heap)(k:Bool)(a:Addr):Heap:=(Wg h k a).push { cls:=.type "enumerate",data:=.fields #[.none,.bool false,.ref h.objs.size,rawInt 0,.none,.none] }
theorem N4 (a:Addr)(items:Array Value)(n:Nat)(dd:Option Addr)(sl:Array (Option Value)):
  Meets (Builtin.«enumerate.__new__» ⟨[.type "enumerate",.ref a],[]⟩) (λ _ R s=>s.heap.get? a=some { cls:=.type "tuple",dict:=dd,data:=.seq items n,slots:=sl }/\R (.ok (.ret (.ref (Wg s.heap false a).objs.size))) { s with heap:=P6 s.heap false a }):=
 .of_wp λ prog w A R s h=>by
  obtain ⟨hp,g,d,tk,os⟩:=s;obtain ⟨ha,h⟩:=h;have hsub:=sub_enumerate
  have hT:Heap.IsTuple (Shared.heap ⟨hp,g,d,tk,os⟩) a items:=⟨_,ha,rfl,n,rfl⟩
  wp_walk using wpAny_loadPart' ha
  refine wpAny_stack_any λ st=>wpAny_pure ?_;split
  ·rename_i c _ _ _ _ _
   cases (c==Value.type "enumerate")<;>(wp_walk using wpAny_loadPart' ha,wpAny_pyIter_tuple hT;exact ⟨_,rfl,h⟩)
  ·wp_walk using wpAny_loadPart' ha,wpAny_pyIter_tuple hT
   exact ⟨_,rfl,h⟩
section
variable {prog:Program}{w:World}{A:Around}{E:Value->Shared->Prop}{s:Shared}
theorem Lz {k:Bool}{a:Addr}{items:Array Value}{Q:Value->Shared->Prop}(hl:jW k s.heap a items)
  (h:∀h',IsEnum h' (s.heap.objs.size+1) s.heap.objs.size 0 .none->ju k h' s.heap.objs.size a 0->(∀b o,s.heap.get? b=some o->h'.get? b=some o)->Q (.ref (s.heap.objs.size+1)) { s with heap:=h' }):
  wpAny (model prog w) A (call (.type "enumerate") [.ref a]) Q E s:=by
 cases k with
 | true=>exact call_enumerate_list hl λ h' e1 e2 _ e4=>h h' e1 e2 e4
 | false=>
  obtain ⟨⟨c,dd,dt,sl⟩,ha,hc,n,hd⟩:=(show s.heap.IsTuple a items from hl)
  replace hc:c=.type "tuple" := hc
  replace hd:dt=.seq items n:=hd
  subst hc hd
  refine callType_new F.called_enumerate (by decide) (F.typeCall_enumerate_1 _) (F.newCall_enumerate_1 _) (λ obj=>F.args_object_init_2 obj _) F.entry_enumerate_new (N4 a items n dd sl) ⟨ha,?_⟩
  have hz:(Wg s.heap false a).objs.size=s.heap.objs.size+1:=Heap.size_push ..
  have he:IsEnum (P6 s.heap false a) (Wg s.heap false a).objs.size s.heap.objs.size 0 .none:=Heap.get?_push_size _ rfl
  show _/\_
  rw [hz] at he ⊢
  exact ⟨⟨_,he,rfl⟩,h _ he (.mk ⟨_,Heap.get?_push_of_some _ (Heap.get?_push_size _ rfl),rfl,rfl⟩) λ b o x=>Heap.get?_push_of_some _ (Heap.get?_push_of_some _ x)⟩
end
section
variable {X:Cx}{xr:XR}{e a b:Expr}{m ma mb:Ev}{pos:Pos}
noncomputable def CB (K:Frag)(ta:TA):TI:=λ σ H R=>ta σ H λ vs H1=>∃p k xs,vs=[.ref p]/\yS k K H1 p xs/\R (Up k K p) H1
theorem boot_enumerate:bootBuiltins "enumerate" = some (.type "enumerate"):=by rfl
theorem boot_zip:bootBuiltins "zip" = some (.type "zip"):=by rfl
theorem Fy {elts:List Expr}{kk:Nat}{tpos p:Pos}{ta:TA}(hg:Gl X "enumerate")(hm:X.mg "enumerate" = none)(ha:PA X [a] ta)(hs:starEach [a] X.env=[(false,eval a X.env)]):
  PI X (.Tuple elts kk tpos) (.Call (.Name "enumerate" p) [a] [] pos) (CB X.K ta):=by
 intro pins s σ H R I h
 refine Call_ (ZW I hg hm boot_enumerate (PyProof.Rows.callWith_type1 (qe (ha pos pins s σ H _ I h) λ us s1 ⟨vs,H1,I1,r1,q1⟩=>?_) hs rfl))
 obtain ⟨p,k,xs,rfl,hq,q⟩:=q1
 obtain ⟨u,rfl,ru⟩:=r1.one
 cases ru
 obtain ⟨its,rv,sq,hz⟩:=I1.sq hq
 refine Lz sq λ h' e1 e2 e3=>wpAny_pyIter_enum e1 ?_
 refine ⟨s1.heap.objs.size+1,[s1.heap.objs.size+1,s1.heap.objs.size],_,_,H1,rfl,I1.kept (t':=s1.toks) e3,LA k p _ _,⟨⟨_,by simpa using e1⟩,e2,Nat.succ_ne_self _⟩,λ b hb=>?_,q⟩
 have hb':s1.heap.objs.size<=b:=by
  rcases List.mem_cons.mp hb with z | z
  ·rw [z];exact Nat.le_succ _
  ·rw [List.mem_singleton.mp z];exact Nat.le_refl _
 exact I1.fpOk hb' (I1.hok.fresh hb')
noncomputable def atEnd (ws:List W)(i:Nat)(f:W->W):Option (Option W):=match ws[i]? with
 | some x=>some (some (f x))
 | none=>if ws.length=i then some none else none
noncomputable def gR (w:W)(n:Nat):jv:=⟨λ A i=>match zE w A with
 | some ws=>atEnd ws i λ x=>.tup [.int i,x]
 | none=>none,n⟩
noncomputable def Z4 (w:W):Bool:=match w with
 | .tup _=>false
 | _=>true
theorem Kz {K:Frag}{φ:List Addr}{A:Hx}{H:Hp}{w:W}{ws:List W}{v:V}(S:zG K φ A H)(q:RV K φ H w v)(e:zE w A=some ws):∃p ys,v=.ref p/\yS (Z4 w) K H p ys/\zF K φ H ws ys:=by
 cases w with
 | tup us=>cases e;obtain ⟨a,vs,ea,t,r⟩:=q;exact ⟨a,vs,ea,t,r⟩
 | ref n=>
  obtain ⟨a,ea,f⟩:=q
  unfold zE at e
  dsimp only at e
  cases ec:A[n]? with
  | none=>rw [ec] at e;cases e
  | some o=>
   rw [ec] at e
   obtain ⟨a',e3,r⟩:=S.ob n o ec
   rw [f] at e3;cases e3
   cases o with
   | lst xs=>cases e;obtain ⟨ys',h1,h2⟩:=r;exact ⟨a,ys',ea,qW.of h1,h2⟩
   | ro xs=>cases e;obtain ⟨ys',h1,h2⟩:=r;exact ⟨a,ys',ea,h1.sq,h2⟩
   | dct xs=>cases e
   | tab _ _=>cases e
 | non=>cases e
 | bl _=>cases e
 | clo _ _ _=>cases e
 | xc _=>cases e
 | int _=>cases e
 | str _=>cases e
theorem Xi {K:Frag}{φ φ':List Addr}{A':Hx}{H H':Hp}{w:W}{ws':List W}{p:Addr}(q:RV K φ H w (.ref p))(lw:gh K φ H φ' H')(S':zG K φ' A' H')(e':zE w A'=some ws'):∃ys',yS (Z4 w) K H' p ys'/\zF K φ' H' ws' ys':=by
 obtain ⟨p',ys,ep,h1,h2⟩:=Kz S' (RV.monoW lw q) e'
 cases ep
 exact ⟨ys,h1,h2⟩
theorem Cq {K:Frag}{φ:List Addr}{H:Hp}{w:W}{p:Addr}{n:Nat}(q:RV K φ H w (.ref p)):ZC K φ H (gR w n) (Up (Z4 w) K p):=λ i φ' H' A' lw S'=>by
 unfold gR
 dsimp only
 cases es:zE w A' with
 | none=>exact ⟨λ _ z=>(by cases z),λ z=>(by cases z)⟩
 | some ws=>
  dsimp only
  obtain ⟨ys,h1,h2⟩:=Xi q lw S' es
  unfold atEnd
  cases ei:ws[i]? with
  | none=>
   dsimp only
   by_cases hl:ws.length=i
   ·rw [if_pos hl]
    exact ⟨λ _ z=>(by cases z),λ _=>⟨ys,h1,by rw [<- h2.length];exact hl⟩⟩
   ·rw [if_neg hl]
    exact ⟨λ _ z=>(by cases z),λ z=>(by cases z)⟩
  | some x=>
   dsimp only
   refine ⟨λ u z=>?_,λ z=>(by cases z)⟩
   cases z
   obtain ⟨y,e1,e2⟩:=h2.get ei
   refine ⟨⟨ys,y,h1,e1⟩,λ xv H1 ⟨t,y',hy,ht,ex,eH⟩=>?_⟩
   subst ex eH
   have:=hy ys h1
   rw [e1] at this;cases this
   obtain ⟨a1,a2,a3⟩:=Jc S' ht (.cons (w:=.int i) (v:=.int i) rfl (.one e2))
   exact ⟨a1,a2,a3⟩
noncomputable def Jm (m:Ev):Ei:=λ ρ A=>(m ρ A).bind λ w A1=>match zE w A1 with
 | some ws=>.ok (gR w ws.length) A1
 | none=>.bad
end
section
variable {prog:Program}{w:World}{A:Around}{E:Value->Shared->Prop}{s:Shared}{z TI TO i1 i2 l1 l2:Addr}{n1 n2:Nat}{c1 c2:Bool}{xs ys:Array Value}{x y a b:Value}
theorem Fw {Q:Value->Shared->Prop}(D:ZipApart z TI TO i1 i2 l1 l2)(hz:IsZip s.heap z TI TO .none)(hTI:IsPair s.heap TI (.ref i1) (.ref i2))(hTO:IsPair s.heap TO a b)
  (g1:ju c1 s.heap i1 l1 n1)(g2:ju c2 s.heap i2 l2 n2)(s1:jW c1 s.heap l1 xs)(s2:jW c2 s.heap l2 ys)(hx:xs[n1]? =some x)(hy:ys[n2]? =some y)
  (hQ:∀h',IsZip h' z TI TO (rawInt s.heap.objs.size)->IsPair h' TI (.ref i1) (.ref i2)->IsPair h' TO x y->ju c1 h' i1 l1 (n1+1)->ju c2 h' i2 l2 (n2+1)->IsPair h' s.heap.objs.size x y->
   (∀c o,c≠z->c≠TO->c≠i1->c≠i2->s.heap.get? c=some o->h'.get? c=some o)->Q (.ref s.heap.objs.size) { s with heap:=h' }):
  wpAny (model prog w) A (Builtin.«zip.__next__» ⟨[.ref z],[]⟩) (λ fin s'=>∃v,fin=.done (.ret v)/\Q v s') E s:=by
 show wpAny _ _ (field (.ref z) 2 >>= _) _ _ _;refine wpAny_bind (wpAny_field hz rfl (x:=.bool false) rfl ?_)
 show wpAny _ _ (field (.ref z) 3 >>= _) _ _ _;refine wpAny_bind (wpAny_field hz rfl (x:=.ref TI) rfl (wpAny_bind (wpAny_seqItems hTI rfl ?_)))
 show wpAny _ _ (Builtin.SmallTypes.ownedTupleIsFree (.ref z) >>= _) _ _ _;refine wpAny_bind ?_;unfold Builtin.SmallTypes.ownedTupleIsFree
 refine wpAny_bind (wpAny_field hz rfl (x:=.none) rfl (wpAny_pure ?_));simp only [if_true];refine wpAny_bind (wpAny_rule (wpAny_bind (wpAny_field hz rfl (x:=.ref TO) rfl ?_)))
 refine wpAny_bind (wpAny_setField_rec hz (by simp) λ ha za sa=>?_);replace za:IsZip ha z TI TO .ellipsis:=za
 refine wpAny_bind ?_;simp only [List.zipIdx_cons,List.zipIdx_nil,List.forIn_cons,List.forIn_nil]
 refine wpAny_bind (wpAny_bind (wpAny_onRaise ?_));show wpAny _ _ (Builtin.SmallTypes.nextOf (.ref i1) >>= _) _ _ _
 refine wpAny_bind (KC (g1.to λ o e=>sa.extBut _ _ D.i1z e) (s1.to λ o e=>sa.extBut _ _ D.l1z e) hx λ hb gb sb=>wpAny_pure ?_)
 have tb:IsPair hb TO a b:=sb.extBut _ _ D.TOi1 (sa.extBut _ _ D.TOz hTO)
 refine wpAny_bind (wpAny_seqItems tb rfl (wpAny_bind (wpAny_updateSeq_pair tb λ hc tc sc=>wpAny_bind (wpAny_letGo (wpAny_pure ?_)))));replace tc:IsPair hc TO x b:=tc
 refine wpAny_bind (wpAny_bind (wpAny_onRaise ?_));show wpAny _ _ (Builtin.SmallTypes.nextOf (.ref i2) >>= _) _ _ _
 have up:∀c o,c≠z->c≠i1->c≠TO->s.heap.get? c=some o->hc.get? c=some o:=λ c o q1 q2 q3 e=>sc.extBut _ _ q3 (sb.extBut _ _ q2 (sa.extBut _ _ q1 e))
 refine wpAny_bind (KC (g2.to λ o e=>up _ o D.i2z D.i12.symm D.TOi2.symm e) (s2.to λ o e=>up _ o D.l2z D.l2i1 D.l2TO e) hy λ hd gd sd=>wpAny_pure ?_)
 have td:IsPair hd TO x b:=sd.extBut _ _ D.TOi2 tc
 refine wpAny_bind (wpAny_seqItems td rfl (wpAny_bind (wpAny_updateSeq_pair td λ he te se=>wpAny_bind (wpAny_letGo (wpAny_pure (wpAny_pure ?_))))));replace te:IsPair he TO x y:=te
 refine wpAny_bind (wpAny_seqItems te rfl (wpAny_bind (wpAny_newTuple ?_)))
 have hsz:he.objs.size=s.heap.objs.size:=by rw [se.1,sd.1,sc.1,sb.1,sa.1]
 have ze:IsZip he z TI TO .ellipsis:=se.extBut _ _ D.TOz.symm (sd.extBut _ _ D.i2z.symm (sc.extBut _ _ D.TOz.symm (sb.extBut _ _ D.i1z.symm za)))
 have ke:∀c o,c≠z->c≠TO->c≠i1->c≠i2->s.heap.get? c=some o->he.get? c=some o:=λ c o q1 q2 q3 q4 e=>se.extBut _ _ q2 (sd.extBut _ _ q4 (up c o q1 q3 q2 e))
 have ge1:ju c1 he i1 l1 (n1+1):=((gb.to λ o e=>sc.extBut _ _ D.TOi1.symm e).to λ o e=>sd.extBut _ _ D.i12 e).to λ o e=>se.extBut _ _ D.TOi1.symm e
 have ge2:ju c2 he i2 l2 (n2+1):=gd.to λ o e=>se.extBut _ _ D.TOi2.symm e
 have zlt:z<he.objs.size:=Heap.lt_size ze
 show wpAny _ _ (Builtin.SmallTypes.ownedTupleHandOut (.ref z) (.ref he.objs.size) >>= _) _ _ _;refine wpAny_bind ?_;unfold Builtin.SmallTypes.ownedTupleHandOut
 have zf:IsZip (he.push { cls:=.type "tuple",data:=.seq #[x,y] }) z TI TO .ellipsis:=Heap.get?_push_of_some _ ze
 refine wpAny_bind (wpAny_setField_rec zf (by simp) λ hg zg sg=>?_);replace zg:IsZip hg z TI TO (rawInt he.objs.size):=zg
 refine wpAny_setField_rec zg (by simp) λ hk zk sk=>?_;replace zk:IsZip hk z TI TO (rawInt he.objs.size):=zk
 have fin:∀c o,c≠z->he.get? c=some o->hk.get? c=some o:=λ c o q e=>sk.extBut _ _ q (sg.extBut _ _ q (Heap.get?_push_of_some _ e))
 have tk:IsPair hk he.objs.size x y:=sk.extBut _ _ (Nat.ne_of_gt zlt) (sg.extBut _ _ (Nat.ne_of_gt zlt) (Heap.get?_push_size _ rfl))
 rw [hsz] at zk tk
 refine wpAny_pure ⟨_,rfl,?_⟩
 show Q (.ref he.objs.size) _;rw [hsz]
 exact hQ hk zk (fin _ _ D.TIz (ke _ _ D.TIz D.TITO D.TIi1 D.TIi2 hTI)) (fin _ _ D.TOz te) (ge1.to λ o e=>fin _ o D.i1z e) (ge2.to λ o e=>fin _ o D.i2z e) tk λ c o q1 q2 q3 q4 e=>fin c o q1 (ke c o q1 q2 q3 q4 e)
theorem DU {Q:Fin->Shared->Prop}(hh:A.handled=none)(D:ZipApart z TI TO i1 i2 l1 l2)(hz:IsZip s.heap z TI TO .none)(hTI:IsPair s.heap TI (.ref i1) (.ref i2))(hTO:IsPair s.heap TO a b)
  (g1:ju c1 s.heap i1 l1 n1)(g2:ju c2 s.heap i2 l2 n2)(s1:jW c1 s.heap l1 xs)(s2:jW c2 s.heap l2 ys)(hend:xs[n1]? =none∨ys[n2]? =none)
  (hE:∀h' e,(∀c o,c≠z->c≠TO->c≠i1->c≠i2->s.heap.get? c=some o->h'.get? c=some o)->(∃o,h'.get? e=some o/\o.cls=.type "StopIteration")->E (.ref e) { s with heap:=h' }):
  wpAny (model prog w) A (Builtin.«zip.__next__» ⟨[.ref z],[]⟩) Q E s:=by
 show wpAny _ _ (field (.ref z) 2 >>= _) _ _ _;refine wpAny_bind (wpAny_field hz rfl (x:=.bool false) rfl ?_)
 show wpAny _ _ (field (.ref z) 3 >>= _) _ _ _;refine wpAny_bind (wpAny_field hz rfl (x:=.ref TI) rfl (wpAny_bind (wpAny_seqItems hTI rfl ?_)))
 show wpAny _ _ (Builtin.SmallTypes.ownedTupleIsFree (.ref z) >>= _) _ _ _;refine wpAny_bind ?_;unfold Builtin.SmallTypes.ownedTupleIsFree
 refine wpAny_bind (wpAny_field hz rfl (x:=.none) rfl (wpAny_pure ?_));simp only [if_true];refine wpAny_bind (wpAny_rule (wpAny_bind (wpAny_field hz rfl (x:=.ref TO) rfl ?_)))
 refine wpAny_bind (wpAny_setField_rec hz (by simp) λ ha za sa=>?_);replace za:IsZip ha z TI TO .ellipsis:=za
 refine wpAny_bind ?_;simp only [List.zipIdx_cons,List.zipIdx_nil,List.forIn_cons,List.forIn_nil]
 refine wpAny_bind (wpAny_bind (wpAny_onRaise ?_));show wpAny _ _ (Builtin.SmallTypes.nextOf (.ref i1) >>= _) _ _ _
 have ga:=g1.to (h':=ha) λ o e=>sa.extBut _ _ D.i1z e
 have ya:=s1.to (h':=ha) λ o e=>sa.extBut _ _ D.l1z e
 cases hx:xs[n1]? with
 | none=>
  refine wpAny_bind (VA hh ga ya hx λ hb e sb he=>?_)
  obtain ⟨oe,hoe,hce⟩:=he
  have zb:IsZip hb z TI TO .ellipsis:=sb _ _ D.i1z.symm za
  have hez:e≠z:=λ q=>by subst q;rw [zb] at hoe;cases hoe;simp at hce
  exact wpAny_setField_rec zb (by simp) λ hc _ sc=>hE hc e (λ c o q1 _ q3 _ q=>sc.extBut _ _ q1 (sb _ _ q3 (sa.extBut _ _ q1 q))) ⟨oe,sc.extBut _ _ hez hoe,hce⟩
 | some x=>
  have hy:ys[n2]? =none:=by
   rcases hend with q | q
   ·rw [hx] at q;cases q
   ·exact q
  refine wpAny_bind (KC ga ya hx λ hb gb sb=>wpAny_pure ?_)
  have tb:IsPair hb TO a b:=sb.extBut _ _ D.TOi1 (sa.extBut _ _ D.TOz hTO)
  refine wpAny_bind (wpAny_seqItems tb rfl (wpAny_bind (wpAny_updateSeq_pair tb λ hc tc sc=>wpAny_bind (wpAny_letGo (wpAny_pure ?_)))))
  refine wpAny_bind (wpAny_bind (wpAny_onRaise ?_));show wpAny _ _ (Builtin.SmallTypes.nextOf (.ref i2) >>= _) _ _ _
  have up:∀c o,c≠z->c≠i1->c≠TO->s.heap.get? c=some o->hc.get? c=some o:=λ c o q1 q2 q3 e=>sc.extBut _ _ q3 (sb.extBut _ _ q2 (sa.extBut _ _ q1 e))
  refine wpAny_bind (VA hh (g2.to λ o e=>up _ o D.i2z D.i12.symm D.TOi2.symm e) (s2.to λ o e=>up _ o D.l2z D.l2i1 D.l2TO e) hy λ hd e sd he=>?_)
  obtain ⟨oe,hoe,hce⟩:=he
  have zd:IsZip hd z TI TO .ellipsis:=sd _ _ D.i2z.symm (sc.extBut _ _ D.TOz.symm (sb.extBut _ _ D.i1z.symm za))
  have hez:e≠z:=λ q=>by subst q;rw [zd] at hoe;cases hoe;simp at hce
  exact wpAny_setField_rec zd (by simp) λ hf _ sf=>hE hf e (λ c o q1 q2 q3 q4 q=>sf.extBut _ _ q1 (sd _ _ q4 (up c o q1 q3 q2 q))) ⟨oe,sf.extBut _ _ hez hoe,hce⟩
theorem Fe {Q:Option Value->Shared->Prop}(D:ZipApart z TI TO i1 i2 l1 l2)(hz:IsZip s.heap z TI TO .none)(hTI:IsPair s.heap TI (.ref i1) (.ref i2))(hTO:IsPair s.heap TO a b)
  (g1:ju c1 s.heap i1 l1 n1)(g2:ju c2 s.heap i2 l2 n2)(s1:jW c1 s.heap l1 xs)(s2:jW c2 s.heap l2 ys)(hx:xs[n1]? =some x)(hy:ys[n2]? =some y)
  (hQ:∀h',IsZip h' z TI TO (rawInt s.heap.objs.size)->IsPair h' TI (.ref i1) (.ref i2)->IsPair h' TO x y->ju c1 h' i1 l1 (n1+1)->ju c2 h' i2 l2 (n2+1)->IsPair h' s.heap.objs.size x y->
   (∀c o,c≠z->c≠TO->c≠i1->c≠i2->s.heap.get? c=some o->h'.get? c=some o)->Q (some (.ref s.heap.objs.size)) { s with heap:=h' }):wpAny (model prog w) A (pyNext (.ref z)) Q E s:=by
 have hT:s.TypeIs (.ref z) "zip" := ⟨_,hz,rfl⟩
 unfold pyNext
 exact wpAny_bind (wpAny_attempt (wpAny_callSpecial?_slot (name:=Str.ofString "__next__") hT F.slot_zip_next (wpAny_call_entry F.slot_zip_next hT F.entry_zip_next
  (Fw D hz hTI hTO g1 g2 s1 s2 hx hy λ h' q1 q2 q3 q4 q5 q6 q7=>wpAny_pure (hQ h' q1 q2 q3 q4 q5 q6 q7)) (F.args_zip_next_1 _))))
theorem HN {Q:Option Value->Shared->Prop}(hh:A.handled=none)(D:ZipApart z TI TO i1 i2 l1 l2)(hz:IsZip s.heap z TI TO .none)(hTI:IsPair s.heap TI (.ref i1) (.ref i2))(hTO:IsPair s.heap TO a b)
  (g1:ju c1 s.heap i1 l1 n1)(g2:ju c2 s.heap i2 l2 n2)(s1:jW c1 s.heap l1 xs)(s2:jW c2 s.heap l2 ys)(hend:xs[n1]? =none∨ys[n2]? =none)
  (hQ:∀h',(∀c o,c≠z->c≠TO->c≠i1->c≠i2->s.heap.get? c=some o->h'.get? c=some o)->Q none { s with heap:=h' }):wpAny (model prog w) A (pyNext (.ref z)) Q E s:=by
 have hT:s.TypeIs (.ref z) "zip" := ⟨_,hz,rfl⟩
 unfold pyNext
 refine wpAny_bind (wpAny_attempt (wpAny_callSpecial?_slot (name:=Str.ofString "__next__") hT F.slot_zip_next (wpAny_call_entry F.slot_zip_next hT F.entry_zip_next (DU hh D hz hTI hTO g1 g2 s1 s2 hend λ h' e hk he=>?_) (F.args_zip_next_1 _))))
 obtain ⟨o,ho,hc⟩:=he
 exact wpAny_bind (wpAny_isInstance (T := "StopIteration") (b:=true) ⟨o,ho,hc⟩ isSubtype_stop (wpAny_pure (hQ _ hk)))
end
noncomputable abbrev Wl (h:Heap)(c1:Bool)(l1:Addr):Heap:=h.push { cls:=.type (Qm c1),data:=.fields #[.ref l1,.int 0 0] }
noncomputable abbrev Wj (h:Heap)(c1 c2:Bool)(l1 l2:Addr):Heap:=(Wl h c1 l1).push { cls:=.type (Qm c2),data:=.fields #[.ref l2,.int 0 0] }
noncomputable abbrev Wh (h:Heap)(c1 c2:Bool)(l1 l2:Addr):Heap:=(Wj h c1 c2 l1 l2).push { cls:=.type "tuple",data:=.seq #[.ref h.objs.size,.ref (Wl h c1 l1).objs.size] }
noncomputable abbrev Wo (h:Heap)(c1 c2:Bool)(l1 l2:Addr):Heap:=(Wh h c1 c2 l1 l2).push { cls:=.type "tuple",data:=.seq #[.none,.none] }
noncomputable abbrev Jv (h:Heap)(c1 c2:Bool)(l1 l2:Addr):Heap:=(Wo h c1 c2 l1 l2).push { cls:=.type "zip",data:=.fields #[.none,.bool false,.bool false,.ref (Wj h c1 c2 l1 l2).objs.size,.ref (Wh h c1 c2 l1 l2).objs.size] }
theorem Lh (c1 c2:Bool)(l1 l2:Addr)(xs ys:Array Value):
  Meets (Builtin.«zip.__new__» ⟨[.type "zip",.ref l1,.ref l2],[]⟩) (λ _ R s=>jW c1 s.heap l1 xs/\jW c2 s.heap l2 ys/\R (.ok (.ret (.ref (Wo s.heap c1 c2 l1 l2).objs.size))) { s with heap:=Jv s.heap c1 c2 l1 l2 }):=
 .of_wp λ prog w A R s h=>by
  obtain ⟨hp,g,d,tk,os⟩:=s;obtain ⟨q1,q2,h⟩:=h;have hsub:=sub_zip
  have k1:jW c1 (Shared.heap ⟨hp,g,d,tk,os⟩) l1 xs:=q1
  have k2:jW c2 (Shared.heap ⟨hp.push { cls:=.type (Qm c1),data:=.fields #[.ref l1,.int 0 0] },g,d,tk,os⟩) l2 ys:=q2.to λ o e=>Heap.get?_push_of_some _ e
  wp_walk using RH k1,RH k2
  exact ⟨_,rfl,h⟩
section
variable {prog:Program}{w:World}{A:Around}{E:Value->Shared->Prop}{s:Shared}{c1 c2:Bool}{l1 l2:Addr}{xs ys:Array Value}
theorem L8 {Q:Value->Shared->Prop}(s1:jW c1 s.heap l1 xs)(s2:jW c2 s.heap l2 ys)
  (h:∀h' n,n=s.heap.objs.size->IsZip h' (n+4) (n+2) (n+3) .none->IsPair h' (n+2) (.ref n) (.ref (n+1))->IsPair h' (n+3) .none .none->ju c1 h' n l1 0->ju c2 h' (n+1) l2 0->
   (∀c o,s.heap.get? c=some o->h'.get? c=some o)->Q (.ref (n+4)) { s with heap:=h' }):wpAny (model prog w) A (call (.type "zip") [.ref l1,.ref l2]) Q E s:=by
 refine callType_new F.called_zip (by decide) (F.typeCall_zip_2 _ _) (F.newCall_zip_2 _ _) (λ obj=>F.args_object_init_3 obj _ _) F.entry_zip_new (Lh c1 c2 l1 l2 xs ys) ⟨s1,s2,?_⟩
 have z1:(Wl s.heap c1 l1).objs.size=s.heap.objs.size+1:=Heap.size_push ..
 have z2:(Wj s.heap c1 c2 l1 l2).objs.size=s.heap.objs.size+2:=by rw [Heap.size_push,z1]
 have z3:(Wh s.heap c1 c2 l1 l2).objs.size=s.heap.objs.size+3:=by rw [Heap.size_push,z2]
 have z4:(Wo s.heap c1 c2 l1 l2).objs.size=s.heap.objs.size+4:=by rw [Heap.size_push,z3]
 have y5:(Jv s.heap c1 c2 l1 l2).get? (Wo s.heap c1 c2 l1 l2).objs.size=some _:=Heap.get?_push_size _ rfl
 have y4:(Jv s.heap c1 c2 l1 l2).get? (Wh s.heap c1 c2 l1 l2).objs.size=some _:=Heap.get?_push_of_some _ (Heap.get?_push_size _ rfl)
 have y3:(Jv s.heap c1 c2 l1 l2).get? (Wj s.heap c1 c2 l1 l2).objs.size=some _:=Heap.get?_push_of_some _ (Heap.get?_push_of_some _ (Heap.get?_push_size _ rfl))
 have y2:(Jv s.heap c1 c2 l1 l2).get? (Wl s.heap c1 l1).objs.size=some _:=Heap.get?_push_of_some _ (Heap.get?_push_of_some _ (Heap.get?_push_of_some _ (Heap.get?_push_size _ rfl)))
 have y1:(Jv s.heap c1 c2 l1 l2).get? s.heap.objs.size=some _:=Heap.get?_push_of_some _ (Heap.get?_push_of_some _ (Heap.get?_push_of_some _ (Heap.get?_push_of_some _ (Heap.get?_push_size _ rfl))))
 show _/\_
 rw [z2,z3,z4] at y5
 rw [z1,z2] at y3
 rw [z3] at y4
 rw [z1] at y2
 rw [z4]
 exact ⟨⟨_,y5,rfl⟩,h _ _ rfl y5 y3 y4 (.mk ⟨_,y1,rfl,rfl⟩) (.mk ⟨_,y2,rfl,rfl⟩) λ c o q=>
  Heap.get?_push_of_some _ (Heap.get?_push_of_some _ (Heap.get?_push_of_some _ (Heap.get?_push_of_some _ (Heap.get?_push_of_some _ q))))⟩
end
noncomputable def Um (c1 c2:Bool)(K:Frag)(p q:Addr):It:=
 ⟨λ i H=>∃xs ys x y,yS c1 K H p xs/\yS c2 K H q ys/\xs[i]? =some x/\ys[i]? =some y,
  λ i H v H'=>∃t x y,(∀xs,yS c1 K H p xs->xs[i]? =some x)/\(∀ys,yS c2 K H q ys->ys[i]? =some y)/\H t=none/\v=.ref t/\H'=upd H t (.tup [x,y]),
  λ i H=>∃xs ys,yS c1 K H p xs/\yS c2 K H q ys/\(xs[i]? =none∨ys[i]? =none)⟩
theorem IA {P:Program}{w:World}{K:Frag}{elts:List Expr}{kk:Nat}{tpos:Pos}(c1 c2:Bool)(p q z TI TO i1 i2:Addr)(D:ZipApart z TI TO i1 i2 p q):
  Turn P w K (.Tuple elts kk tpos) (Um c1 c2 K p q) [z,TI,TO,i1,i2] z (λ i h=>IsZip h z TI TO .none/\IsPair h TI (.ref i1) (.ref i2)/\(∃a b,IsPair h TO a b)/\ju c1 h i1 p i/\ju c2 h i2 q i) where
 mem:=by simp
 obj:=λ i h st b hb=>by
  obtain ⟨hz,hTI,⟨a',b',hTO⟩,g1,g2⟩:=st
  simp only [List.mem_cons,List.not_mem_nil,or_false] at hb
  rcases hb with rfl | rfl | rfl | rfl | rfl
  ·exact ⟨_,hz,λ v e=>nomatch e⟩
  ·exact ⟨_,hTI,λ v e=>nomatch e⟩
  ·exact ⟨_,hTO,λ v e=>nomatch e⟩
  ·obtain ⟨o,ho,_,hd⟩:=g1.ob;exact ⟨o,ho,λ v e=>by rw [hd] at e;cases e⟩
  ·obtain ⟨o,ho,_,hd⟩:=g2.ob;exact ⟨o,ho,λ v e=>by rw [hd] at e;cases e⟩
 keep:=λ i h h' ⟨hz,hTI,⟨a',b',hTO⟩,g1,g2⟩ k=>⟨k z (by simp) _ hz,k TI (by simp) _ hTI,⟨a',b',k TO (by simp) _ hTO⟩,g1.to λ o e=>k i1 (by simp) o e,g2.to λ o e=>k i2 (by simp) o e⟩
 item:=by
  intro X hP hw hK hc i pins s σ H E I hf st hg;subst hP hw hK
  obtain ⟨hz,hTI,⟨a',b',hTO⟩,g1,g2⟩:=st
  obtain ⟨xs,ys,x,y,h1,h2,ex,ey⟩:=hg
  obtain ⟨its1,r1,sq1,_⟩:=I.sq h1
  obtain ⟨its2,r2,sq2,_⟩:=I.sq h2
  obtain ⟨u1,eu1,ru1⟩:=r1.get ex
  obtain ⟨u2,eu2,ru2⟩:=r2.get ey
  refine Fe D hz hTI hTO g1 g2 sq1 sq2 (x:=u1) (y:=u2) (by simpa using eu1) (by simpa using eu2) λ hh z1 z2 z3 z4 z5 z6 kp=>?_
  refine ⟨_,rfl,wpAny_letOwnedTupleGo_zip z1 λ hk zk sk=>?_⟩
  have lt:∀{c o},s.heap.get? c=some o->c≠s.heap.objs.size:=λ e=>Nat.ne_of_lt (Heap.lt_size e)
  have T2:IsPair hk s.heap.objs.size u1 u2:=sk.extBut _ _ (lt hz).symm z6
  have fre:∀b∈[z,TI,TO,i1,i2],b≠s.heap.objs.size:=λ b hb=>by
   simp only [List.mem_cons,List.not_mem_nil,or_false] at hb
   rcases hb with rfl | rfl | rfl | rfl | rfl
   ·exact lt hz
   ·exact lt hTI
   ·exact lt hTO
   ·obtain ⟨o,ho,_⟩:=g1.ob;exact lt ho
   ·obtain ⟨o,ho,_⟩:=g2.ob;exact lt ho
  refine ⟨.ref s.heap.objs.size,upd H s.heap.objs.size (.tup [x,y]),?_,rfl,⟨s.heap.objs.size,x,y,λ zs hzs=>by rw [I.sq_inj hzs h1];exact ex,λ zs hzs=>by rw [I.sq_inj hzs h2];exact ey,I.hok.fresh (Nat.le_refl _),rfl,rfl⟩,
   ⟨zk,sk.extBut _ _ D.TIz z2,⟨_,_,sk.extBut _ _ D.TOz z3⟩,z4.to λ o e=>sk.extBut _ _ D.i1z e,z5.to λ o e=>sk.extBut _ _ D.i2z e⟩,λ b hb=>?_⟩
  ·refine I.spun (fp:=[z,TI,TO,i1,i2]) (t':=s.toks) (λ b o hb eo=>?_) hf (Nat.le_refl _) ?_
   ·exact sk.extBut _ _ (λ e=>hb (by simp [e])) (kp b o (λ e=>hb (by simp [e])) (λ e=>hb (by simp [e])) (λ e=>hb (by simp [e])) (λ e=>hb (by simp [e])) eo)
   ·exact ⟨by show 2<=sizeLine;decide,[u1,u2],.cons ru1 (.cons ru2 .nil),_,T2,⟨rfl,rfl⟩,0,rfl⟩
  ·show upd H s.heap.objs.size _ b=none
   rw [qg (fre b hb)];exact (hf b hb).1
 done:=by
  intro X hP hw hK hc i pins s σ H E I hf st hg;subst hP hw hK
  obtain ⟨hz,hTI,⟨a',b',hTO⟩,g1,g2⟩:=st
  obtain ⟨xs,ys,h1,h2,hend⟩:=hg
  obtain ⟨its1,r1,sq1,_⟩:=I.sq h1
  obtain ⟨its2,r2,sq2,_⟩:=I.sq h2
  have hend':its1.toArray[i]? =none∨its2.toArray[i]? =none:=by
   rcases hend with e | e
   ·exact .inl (by simpa using r1.none_of e)
   ·exact .inr (by simpa using r2.none_of e)
  exact HN (I.ok.hd hc) D hz hTI hTO g1 g2 sq1 sq2 hend' λ hh kp=>⟨rfl,I.spun0 (fp:=[z,TI,TO,i1,i2]) (t':=s.toks) (λ b o hb eo=>kp b o (λ e=>hb (by simp [e])) (λ e=>hb (by simp [e])) (λ e=>hb (by simp [e])) (λ e=>hb (by simp [e])) eo) hf⟩
 self:=λ _ _ _ _ _ st h=>wpAny_pyIter_zip st.1 h
section
variable {X:Cx}{xr:XR}{e a b:Expr}{m ma mb:Ev}{pos:Pos}
noncomputable def Bp (K:Frag)(ta:TA):TI:=λ σ H R=>ta σ H λ vs H1=>∃p q c1 c2 xs ys,vs=[.ref p,.ref q]/\yS c1 K H1 p xs/\yS c2 K H1 q ys/\R (Um c1 c2 K p q) H1
theorem Ey {elts:List Expr}{kk:Nat}{tpos p:Pos}{ta:TA}(hg:Gl X "zip")(hm:X.mg "zip" = none)(ha:PA X [a,b] ta)(hs:starEach [a,b] X.env=(false,eval a X.env)::starEach [b] X.env)(hp:(backTo pos (starEach [b] X.env)).any (·.1)=false):
  PI X (.Tuple elts kk tpos) (.Call (.Name "zip" p) [a,b] [] pos) (Bp X.K ta):=by
 intro pins s σ H R I h
 refine Call_ (ZW I hg hm boot_zip (PyProof.Rows.callWith_type1 (qe (ha pos pins s σ H _ I h) λ us s1 ⟨vs,H1,I1,r1,q1⟩=>?_) hs hp))
 obtain ⟨p,q,c1,c2,xs,ys,rfl,h1,h2,hR⟩:=q1
 obtain ⟨u1,u2,rfl,ru1,ru2⟩:=r1.two
 cases ru1;cases ru2
 obtain ⟨its1,rv1,sq1,_⟩:=I1.sq h1
 obtain ⟨its2,rv2,sq2,_⟩:=I1.sq h2
 obtain ⟨op,hop,_⟩:=sq1.ob
 obtain ⟨oq,hoq,_⟩:=sq2.ob
 have lp:p<s1.heap.objs.size:=Heap.lt_size hop
 have lq:q<s1.heap.objs.size:=Heap.lt_size hoq
 refine L8 sq1 sq2 λ h' n en z1 z2 z3 z4 z5 kp=>wpAny_pyIter_zip z1 ?_
 rw [<- en] at lp lq
 have ne1:∀(i j:Nat),i≠j->n+i≠n+j:=λ i j h e=>h (Nat.add_left_cancel e)
 have ne2:∀(c:Nat) (i:Nat),c<n->c≠n+i:=λ c i h e=>absurd h (by rw [e];exact Nat.not_lt.mpr (Nat.le_add_right n i))
 have D:ZipApart (n+4) (n+2) (n+3) (n+0) (n+1) p q:=⟨ne1 2 4 (by decide),ne1 3 4 (by decide),ne1 0 4 (by decide),ne1 1 4 (by decide),ne1 2 3 (by decide),ne1 2 0 (by decide),ne1 2 1 (by decide),ne1 3 0 (by decide),ne1 3 1 (by decide),ne1 0 1 (by decide),
  ne2 p 4 lp,ne2 p 3 lp,ne2 p 0 lp,ne2 p 1 lp,ne2 q 4 lq,ne2 q 3 lq,ne2 q 0 lq,ne2 q 1 lq⟩
 refine ⟨n+4,[n+4,n+2,n+3,n,n+1],_,_,H1,rfl,I1.kept (t':=s1.toks) kp,IA c1 c2 p q _ _ _ _ _ D,⟨z1,z2,⟨_,_,z3⟩,z4,z5⟩,λ c hc=>?_,hR⟩
 have hc':s1.heap.objs.size<=c:=by
  rw [<- en]
  simp only [List.mem_cons,List.not_mem_nil,or_false] at hc
  rcases hc with rfl | rfl | rfl | rfl | rfl
  ·exact Nat.le_add_right _ _
  ·exact Nat.le_add_right _ _
  ·exact Nat.le_add_right _ _
  ·exact Nat.le_refl _
  ·exact Nat.le_add_right _ _
 exact I1.fpOk hc' (I1.hok.fresh hc')
noncomputable def zip2:Option W->Option W->Option W
 | some x,some y=>some (.tup [x,y])
 | _,_=>none
noncomputable def Wi (w w':W)(n:Nat):jv:=⟨λ A i=>match zE w A,zE w' A with
 | some us,some vs=>some (zip2 us[i]? vs[i]?)
 | _,_=>none,n⟩
theorem CP {K:Frag}{φ:List Addr}{H:Hp}{w w':W}{p p':Addr}{n:Nat}(q:RV K φ H w (.ref p))(q':RV K φ H w' (.ref p')):ZC K φ H (Wi w w' n) (Um (Z4 w) (Z4 w') K p p'):=λ i φ' H' A' lw S'=>by
 unfold Wi
 dsimp only
 cases es:zE w A' with
 | none=>exact ⟨λ _ z=>(by cases z),λ z=>(by cases z)⟩
 | some us=>
  cases es':zE w' A' with
  | none=>exact ⟨λ _ z=>(by cases z),λ z=>(by cases z)⟩
  | some vs=>
   dsimp only
   obtain ⟨xs,h1,h2⟩:=Xi q lw S' es
   obtain ⟨ys,h3,h4⟩:=Xi q' lw S' es'
   have non:∀{us:List W} {xs:List V},zF K φ' H' us xs->us[i]? =none->xs[i]? =none:=λ r e=>by
    rw [List.getElem?_eq_none_iff] at e ⊢;rw [<- r.length];exact e
   cases e1:us[i]? with
   | none=>exact ⟨λ _ z=>(by cases z),λ _=>⟨xs,ys,h1,h3,.inl (non h2 e1)⟩⟩
   | some x=>
    cases e2:vs[i]? with
    | none=>exact ⟨λ _ z=>(by cases z),λ _=>⟨xs,ys,h1,h3,.inr (non h4 e2)⟩⟩
    | some y=>
     refine ⟨λ u z=>?_,λ z=>(by cases z)⟩
     cases z
     obtain ⟨vx,f1,f2⟩:=h2.get e1
     obtain ⟨vy,f3,f4⟩:=h4.get e2
     refine ⟨⟨xs,ys,vx,vy,h1,h3,f1,f3⟩,λ xv H1 ⟨t,x',y',hx,hy,ht,ex,eH⟩=>?_⟩
     subst ex eH
     have g1:=hx xs h1
     have g2:=hy ys h3
     rw [f1] at g1;cases g1
     rw [f3] at g2;cases g2
     obtain ⟨a1,a2,a3⟩:=Jc S' ht (.cons f2 (.one f4))
     exact ⟨a1,a2,a3⟩
noncomputable def Wv (m m':Ev):Ei:=λ ρ A=>(m ρ A).bind λ w A1=>(m' ρ A1).bind λ w' A2=>match zE w A2,zE w' A2 with
 | some us,some _=>.ok (Wi w w' us.length) A2
 | _,_=>.bad
end
section
variable {X:Cx}{xr:XR}{K:Frag}{e a b c:Expr}{m ma mb mc:Ev}{pos:Pos}
noncomputable def Qv:Ev:=λ _ A=>.ok (.ref A.length) (A++[.dct []])
noncomputable def Ye:W->Option Key
 | .int i=>some (.inl i)
 | _=>none
noncomputable def yB (k:Key):List (Key × W)->Option W
 | []=>none
 | (j,w)::r=>if j=k then some w else yB k r
theorem Tp {φ:List Addr}{H:Hp}(k:Key):∀{kvs:List (Key × W)} {us:List (Key × V)},us.map (·.1)=kvs.map (·.1)->zF K φ H (kvs.map (·.2)) (us.map (·.2))->
  (∀w,yB k kvs=some w->∃v,kP us k=some v/\RV K φ H w v)/\(yB k kvs=none->kP us k=none)
 | [],[],_,_=>⟨λ w h=>(by cases h),λ _=>rfl⟩
 | [],_::_,h,_=>by simp at h
 | _::_,[],h,_=>by simp at h
 | (j,w)::kvs,(j',v)::us,h,r=>by
  simp only [List.map_cons,List.cons.injEq] at h
  obtain ⟨v',rr,e,h1,h2⟩:=r
  simp only [List.map_cons,List.cons.injEq] at e
  obtain ⟨rfl,rfl⟩:=e
  have ih:=Tp k h.2 h2
  have hj:j'=j:=h.1
  subst hj
  by_cases hk:j'=k
  ·refine ⟨λ w' hw=>⟨v,XJ hk,?_⟩,λ hn=>?_⟩
   ·unfold yB at hw;rw [if_pos hk] at hw;cases hw;exact h1
   ·unfold yB at hn;rw [if_pos hk] at hn;cases hn
  ·unfold yB
   rw [if_neg hk,XT (p:=(j',v)) hk]
   exact ih
theorem zG.dct {φ:List Addr}{A:Hx}{H:Hp}{n:Nat}{kvs:List (Key × W)}{v:V}(S:zG K φ A H)(q:RV K φ H (.ref n) v)(e:A[n]? =some (.dct kvs)):∃p us,v=.ref p/\φ[n]? =some p/\H p=some (.dK us)/\us.map (·.1)=kvs.map (·.1)/\zF K φ H (kvs.map (·.2)) (us.map (·.2)):=by
 obtain ⟨p,rfl,h1⟩:=q
 obtain ⟨p',h2,us,h3,h4,h5⟩:=S.ob n _ e
 rw [h1] at h2;cases h2
 exact ⟨p,us,rfl,h1,h3,h4,h5⟩
noncomputable def Am:W->W->Hx->R W:=λ d k A=>match d,Ye k with
 | .ref n,some k=>match A[n]? with
  | some (.dct kvs)=>match yB k kvs with
   | some w=>.ok w A
   | none=>.bad
  | _=>.bad
 | _,_=>.bad
noncomputable def Er:V->List V->Hp->VK->Prop:=λ x vs H Q=>∃p us k d,x=.ref p/\vs=[kV k,d]/\H p=some (.dK us)/\us.length<sizeLine/\(∀v,kP us k=some v->Q v H)/\(kP us k=none->Q d (upd H p (.dK (putK us k d))))
theorem LQ:Uj X "dict.setdefault" Er:=by
 intro pins s σ H x vs v us Q I rx rv h
 obtain ⟨p,kvs,k,d,rfl,rfl,hp,hl,q1,q2⟩:=h
 cases rx
 obtain ⟨u1,u2,rfl,r1,r2⟩:=rv.two
 obtain ⟨z,hd,ws,rel,dd⟩:=Py I.hok hp
 refine call_meetsIn PySem.F.slot_dict_setdefault dd.typeIs PySem.F.entry_dict_setdefault (PySem.F.args_dict_setdefault_3 _ _ _) (kt_meets_setdefault (Zm X.prog X.w) p (C4 r1) hd u2) ⟨ws,dd,by rw [<- rel.length];exact z,λ v hv=>?_,λ hn h' dd' hs=>?_⟩
 ·have rr:=rel.val k
  rw [hv] at rr
  cases e:kP kvs k with
  | none=>rw [e] at rr;exact rr.elim
  | some v'=>rw [e] at rr;exact ⟨v',H,I.tok _,rr,q1 v' e⟩
 ·have rr:=rel.val k
  rw [hn] at rr
  cases e:kP kvs k with
  | some v'=>rw [e] at rr;exact rr.elim
  | none=>
   have hl':(putK kvs k d).length<=sizeLine:=by have:=N0 kvs k d;omega
   have he:∃q,h'.get? p=some q:=let ⟨q,_,_,hq,_⟩:=dd';⟨q,hq⟩
   exact ⟨d,_,Eg I (by rw [hp];exact True.intro) hs he (E3 hl' hd (rel.put k r2) dd'),r2,q2 e⟩
noncomputable def Z6 (x:W)(A:Hx):Bool:=match x with
 | .ref n=>match A[n]? with
  | some (.dct _)=>true
  | _=>false
 | _=>false
noncomputable def j9:W->W->W->Hx->R W:=λ d k v A=>match d,Ye k with
 | .ref n,some k=>match A[n]? with
  | some (.dct kvs)=>if kvs.length<zP then (match yB k kvs with
   | some w=>.ok w A
   | none=>.ok v (A.set n (.dct (kvs++[(k,v)])))) else .bad
  | _=>.bad
 | _,_=>.bad
noncomputable def yY (g:W->W->W->Hx->R W)(a b c:Ev):Ev:=λ ρ A=>(a ρ A).bind λ x A1=>if Z6 x A1 then (b ρ A1).bind λ y A2=>(c ρ A2).bind λ z A3=>g x y z A3 else .bad
theorem Iz {φ:List Addr}{A:Hx}{H:Hp}{w:W}{v:V}(S:zG K φ A H)(q:RV K φ H w v)(e:Z6 w A=true):WG K "dict" v H:=by
 unfold Z6 at e
 cases w with
 | ref n=>
  dsimp only at e
  cases e1:A[n]? with
  | none=>rw [e1] at e;cases e
  | some o=>cases o with
   | dct ws=>obtain ⟨p,us,rfl,_,h,_⟩:=S.dct q e1;exact .inr (.inr (.inl ⟨rfl,.inl ⟨us,h⟩⟩))
   | _=>rw [e1] at e;cases e
 | _=>cases e
end
section
variable {X:Cx}{pins:List (Addr × Obj)}{σ:St}{H:Hp}{s:Shared}
end
section
variable {X:Cx}{xr:XR}{e a b:Expr}{m ma mb:Ev}{pos:Pos}
end
mutual
noncomputable def W.beq:W->W->Bool
 | .non,.non=>true
 | .bl a,.bl b=>a==b
 | .int a,.int b=>decide (a=b)
 | .str a,.str b=>decide (a=b)
 | .tup a,.tup b=>Yf a b
 | _,_=>false
noncomputable def Yf:List W->List W->Bool
 | [],[]=>true
 | a::as,b::bs=>a.beq b&&Yf as bs
 | _,_=>false
end
mutual
theorem W.eq_of:∀{a b:W},a.beq b=true->a=b
 | .non,.non,_=>rfl
 | .bl a,.bl b,h=>by have h':(a==b)=true:=h;rw [beq_iff_eq] at h';rw [h']
 | .int a,.int b,h=>by have h':decide (a=b)=true:=h;rw [decide_eq_true_iff] at h';rw [h']
 | .str a,.str b,h=>by have h':decide (a=b)=true:=h;rw [decide_eq_true_iff] at h';rw [h']
 | .tup a,.tup b,h=>by have h':Yf a b=true:=h;rw [RR h']
 | .non,.bl _,h=>nomatch h | .non,.int _,h=>nomatch h | .non,.str _,h=>nomatch h | .non,.tup _,h=>nomatch h | .non,.ref _,h=>nomatch h
 | .bl _,.non,h=>nomatch h | .bl _,.int _,h=>nomatch h | .bl _,.str _,h=>nomatch h | .bl _,.tup _,h=>nomatch h | .bl _,.ref _,h=>nomatch h
 | .int _,.non,h=>nomatch h | .int _,.bl _,h=>nomatch h | .int _,.str _,h=>nomatch h | .int _,.tup _,h=>nomatch h | .int _,.ref _,h=>nomatch h
 | .str _,.non,h=>nomatch h | .str _,.bl _,h=>nomatch h | .str _,.int _,h=>nomatch h | .str _,.tup _,h=>nomatch h | .str _,.ref _,h=>nomatch h
 | .tup _,.non,h=>nomatch h | .tup _,.bl _,h=>nomatch h | .tup _,.int _,h=>nomatch h | .tup _,.str _,h=>nomatch h | .tup _,.ref _,h=>nomatch h
 | .ref _,.non,h=>nomatch h | .ref _,.bl _,h=>nomatch h | .ref _,.int _,h=>nomatch h | .ref _,.str _,h=>nomatch h | .ref _,.tup _,h=>nomatch h | .ref _,.ref _,h=>nomatch h
theorem RR:∀{a b:List W},Yf a b=true->a=b
 | [],[],_=>rfl
 | a::as,b::bs,h=>by
  have h':(a.beq b&&Yf as bs)=true:=h
  rw [Bool.and_eq_true] at h'
  rw [W.eq_of h'.1,RR h'.2]
 | [],_::_,h=>nomatch h
 | _::_,[],h=>nomatch h
end
section
variable {P:Program}{w:World}{K:Frag}{mg:Str->Option Value}{base:Heap}
noncomputable def FD (K:Frag)(x:Str)(st:Stmt):Prop:=∃f fd,qF K x x st f fd/\PySem.W.nsIn K mainGlobals x=some (some (.ref f))
theorem jm {x:Str}{st:Stmt}{f:Addr}{oc:Value}{od an:Option Addr}{osl:Array (Option Value)}{kV doc pm cdv ct:Value}(a:PySem.W.nsIn K mainGlobals x=some (some (.ref f)))
  (l:K.lookup f=some ⟨oc,od,.func (PySem.W.fnOf x x (ZV st) (yG st) (qk st) .none kV doc pm an cdv ct),osl⟩)(c:PySem.W.codeIn K cdv x=true)(k:PySem.W.keepIn K (.ref f)=true):FD K x st:=⟨f,_,DQ l c k,a⟩
noncomputable def CD (K:Frag)(x:Str)(i:Int):Prop:=∃t,PySem.W.nsIn K mainGlobals x=some (some (.int i t))
theorem PJ {x:Str}{i:Int}{t:Tok}(a:PySem.W.nsIn K mainGlobals x=some (some (.int i t))):CD K x i:=⟨t,a⟩
theorem yQ {us:List Value}(h:us.length=1):∃a,us=[a]:=List.length_eq_one_iff.mp h
theorem yK {us:List Value}(h:us.length=2):∃a b,us=[a,b]:=by
 obtain ⟨a,t,rfl⟩:=List.exists_cons_of_length_eq_add_one h
 exact (yQ (Nat.succ.inj h)).elim λ b e=>⟨a,b,by rw [e]⟩
theorem Jy {us:List Value}(h:us.length=3):∃a b c,us=[a,b,c]:=by
 obtain ⟨a,t,rfl⟩:=List.exists_cons_of_length_eq_add_one h
 obtain ⟨b,c,rfl⟩:=yK (Nat.succ.inj h)
 exact ⟨a,b,c,rfl⟩
end
end Mi
namespace Y
open PySem PySem.Spec PyProof.Rows L2 Mi
@[irreducible] noncomputable def YE (X:Cx)(xr:XR)(e:Expr)(m:Ev):Prop:=Mi.SE X xr e m
theorem VQ:@YE=@Mi.SE:=by
 funext X xr e m
 unfold YE
 rfl
@[irreducible] noncomputable def YA (X:Cx)(xr:XR)(es:List Expr)(m:Ea):Prop:=Mi.SA X xr es m
theorem PY:@YA=@Mi.SA:=by
 funext X xr es m
 unfold YA
 rfl
@[irreducible] noncomputable def YT (X:Cx)(xr:XR)(e:Expr)(m:Ev):Prop:=Mi.ST X xr e m
theorem Pr:@YT=@Mi.ST:=by
 funext X xr e m
 unfold YT
 rfl
@[irreducible] noncomputable def YW (X:Cx)(xr:XR)(e:Expr)(m:Ev):Prop:=Mi.SW X xr e m
theorem PC:@YW=@Mi.SW:=by
 funext X xr e m
 unfold YW
 rfl
@[irreducible] noncomputable def YS (X:Cx)(xr:XR)(st:Stmt)(m:Ex):Prop:=Mi.SS X xr st m
theorem PR:@YS=@Mi.SS:=by
 funext X xr st m
 unfold YS
 rfl
@[irreducible] noncomputable def kg (X:Cx)(xr:XR)(st:List Stmt)(m:Ex):Prop:=Mi.WJ X xr st m
theorem RW:@kg=@Mi.WJ:=by
 funext X xr st m
 unfold kg
 rfl
@[irreducible] noncomputable def YI (X:Cx)(xr:XR)(tg e:Expr)(m:Ei):Prop:=Mi.SI X xr tg e m
theorem PH:@YI=@Mi.SI:=by
 funext X xr tg e m
 unfold YI
 rfl
@[irreducible] noncomputable def YG (X:Cx)(tg:Expr)(m:Tg):Prop:=Mi.SG X tg m
theorem PV:@YG=@Mi.SG:=by
 funext X tg m
 unfold YG
 rfl
@[irreducible] noncomputable def YF (X:Cx)(xr:XR)(e:Expr)(m:jG):Prop:=Mi.SF X xr e m
theorem PZ:@YF=@Mi.SF:=by
 funext X xr e m
 unfold YF
 rfl
@[irreducible] noncomputable def YQ (X:Cx)(xr:XR)(e:Expr)(m:jG):Prop:=Mi.SQ X xr e m
theorem Px:@YQ=@Mi.SQ:=by
 funext X xr e m
 unfold YQ
 rfl
@[irreducible] noncomputable def ZG (X:Cx)(es:List Expr)(m:Ev):Prop:=Mi.Yx X es m
theorem R5:@ZG=@Mi.Yx:=by
 funext X es m
 unfold ZG
 rfl
@[irreducible] noncomputable def YM (X:Cx)(elt:Expr)(gens:List Comprehension)(sc:Scope)(cpos:Pos)(d:Nat)(em:Em):Prop:=Mi.SM X elt gens sc cpos d em
theorem P0:@YM=@Mi.SM:=by
 funext X elt gens sc cpos d em
 unfold YM
 rfl
section
variable {X:Cx}{xr:XR}{K:Frag}{e a b c:Expr}{es:List Expr}{m ma mb mc:Ev}{m1 m2:Ex}{pos:Pos}{st:Stmt}{rest:List Stmt}
theorem zU:@YE=@Mi.SE/\@YA=@Mi.SA/\@YT=@Mi.ST/\@YW=@Mi.SW/\@YS=@Mi.SS/\@kg=@Mi.WJ/\@YI=@Mi.SI/\@YG=@Mi.SG/\@YF=@Mi.SF/\@YQ=@Mi.SQ/\@ZG=@Mi.Yx/\@YM=@Mi.SM:=⟨VQ,PY,Pr,PC,PR,RW,PH,PV,PZ,Px,R5,P0⟩
theorem zr {mr:Ea}(ha:YE X xr e ma)(hr:YA X xr es mr)(hs:starEach (e::es) X.env=(false,eval e X.env)::starEach es X.env:=by rfl):YA X xr (e::es) (zh ma mr):=by
 (try simp only [zU] at *)
 exact PA.imp (jk ha hr hs) λ σ H Q ⟨φ,A,ρ,S,re,h⟩=>by
   refine tM.go S re (zV.mp h) λ w A1 φ1 H1 v h1 l1 S1 q1=>?_
   refine Wy.go S1 (re.mono l1) (qo (zV.mp h1) (λ _ _ z=>z) λ _ _ z=>z.mono l1) λ w2 A2 φ2 H2 v2 h2 l2 S2 q2=>?_
   exact h2 φ2 H2 _ (l1.trans l2) S2 (.cons (q1.mono l2) q2)
theorem zz:YA X xr [] zo:=by
 (try simp only [zU] at *)
 exact PA.imp j6 λ σ H Q ⟨φ,A,ρ,S,re,h⟩=>h φ H [] .refl S .nil
theorem jU (ha:YE X xr a ma)(hb:YE X xr b mb):YE X xr (.BinOp a .Add b pos) (zl qb ma mb):=by
 (try simp only [zU] at *)
 exact Qh (EE.or (FW.or (Hl.or D3))) Dl Fd ha hb
theorem J6 {p:Pos}{q:jG}(hc:X.calm=true)(hm:X.mg "all" = none)(ha:YQ X xr e q)(hg:Gl X "all" := by rfl)(he:starEach [e] X.env=(false,eval e X.env)::starEach [] X.env:=by rfl):
  YE X xr (.Call (.Name "all" p) [e] [] pos) (mQ Qw q):=by
 (try simp only [zU] at *)
 exact K8 (IE hc) EY F9 hm (by rfl) ha hg (by decide) (by decide) he (by rfl)
theorem Qg {rest:List Expr}(ha:YE X xr a ma)(hb:YE X xr (.BoolOp .And (b::rest) pos) mb):YE X xr (.BoolOp .And (a::b::rest) pos) (wH ma mb):=by
 (try simp only [zU] at *)
 exact PE.imp (DW ha hb) λ σ H Q ⟨φ,A,ρ,S,re,h⟩=>by
   refine tM.go S re (zV.mp h) λ w A1 φ1 H1 v h1 l1 S1 q1=>?_
   cases w with
   | bl k=>
    refine ⟨k,q1,?_⟩
    cases k with
    | true=>rw [if_pos rfl];exact ⟨φ1,A1,ρ,S1,re.mono l1,qo h1 (λ _ _ z=>z.mono l1) λ _ _ z=>z.mono l1⟩
    | false=>rw [if_neg Bool.false_ne_true];exact h1 φ1 H1 _ l1 S1 rfl
   | non=>cases h1
   | int _=>cases h1
   | str _=>cases h1
   | tup _=>cases h1
   | ref _=>cases h1
   | clo _ _ _=>cases h1
   | xc _=>cases h1
theorem ku {i j}:YE X xr (.Constant (.bool i) j pos) (zi (.bl i)):=by
 (try simp only [zU] at *)
 exact PE.imp CA λ σ H Q ⟨φ,A,ρ,S,r,h⟩=>h φ H _ .refl S rfl
theorem Zt {op:CmpOp}{g:W->W->Hx->R W}(h:k9 X op g)(ha:YE X xr a ma)(hb:YE X xr b mb)(h1:op≠.In:=by decide)(h2:op≠.NotIn:=by decide):YE X xr (.Compare a [op] [b] pos) (zl g ma mb):=by
 (try simp only [zU] at *)
 exact let ⟨r,a1,a2,a3⟩:=h.ex;R3 a1 a2 a3 ha hb (h.mks b h1 h2)
theorem CO {op op':CmpOp}{g g':W->W->Hx->R W}(h:k9 X op g)(h':k9 X op' g')(ha:YE X xr a ma)(hb:YE X xr b mb)(hc:YE X xr c mc)(hm:lastMarks [op,op'] [b,c]=false:=by with_unfolding_all rfl):
  YE X xr (.Compare a [op,op'] [b,c] pos) (kL g g' ma mb mc):=by
 (try simp only [zU] at *)
 exact let ⟨r,a1,a2,a3⟩:=h.ex;let ⟨r',b1,b2,b3⟩:=h'.ex;Hr a1 a2 a3 b1 b2 b3 ha hb hc hm
theorem qu {k n:Nat}{x:Str}{p:Pos}{f:Fn}{mr:Ea}(F:zC X.prog X.w X.K X.mg X.base k x n f)(hr:jn k X.A)(ha:YA X yC (e::es) mr)(hl:Zv mr n)(hg:Gl X x:=by rfl)
  (hdb:(x==("__debug__" : Str))=false:=by decide)(he:starEach (e::es) X.env=(false,eval e X.env)::starEach es X.env:=by rfl)(hpl:(backTo pos (starEach es X.env)).any (·.1)=false:=by rfl):
  YE X yC (.Call (.Name x p) (e::es) [] pos) (zx f mr):=by
 (try simp only [zU] at *)
 obtain ⟨fa,fd,ps,F,hm,hk,hb⟩:=F
 refine PE.imp (Rb F hr hg hm hk hb .nil Ce ha hdb he hpl) λ σ H Q ⟨φ,A,ρ,S,re,h⟩=>?_
 have h':=zV.mp h
 refine ⟨φ,A,ρ,S,re,?_⟩
 cases er:mr ρ A with
 | ok ws A1=>
  rw [er] at h'
  intro φ1 H1 vs l1 S1 q1
  have hv:vs.length=n:=by rw [<- q1.length];exact hl ρ A ws A1 er
  rw [List.append_nil]
  exact ⟨hv,φ1,A1,ws,S1,q1,qo h' (λ _ _ z=>z.mono l1) λ x A2 z φ2 H2 l2 S2=>(z φ2 H2 (l1.trans l2) S2).elim⟩
 | exc x A1=>rw [er] at h';exact h'
 | bad=>rw [er] at h';exact h'
theorem CG {op:CmpOp}{g:W->W->Hx->R W}(h:Yl X op g)(ha:YE X xr a ma)(hb:YE X xr b mb)(hm:behindInMarks op b=false:=by rfl):YE X xr (.Compare a [op] [b] pos) (zl g ma mb):=by
 (try simp only [zU] at *)
 exact let ⟨r,a1,a2,a3⟩:=h.ex;R3 a1 a2 a3 ha hb hm
theorem KZ:YE X xr (.Dict [] [] pos) Qv:=by
 (try simp only [zU] at *)
 exact PE.imp Ib λ σ H Q ⟨φ,A,ρ,S,re,h⟩ p hp=>by
  obtain ⟨l,S'⟩:=S.alloc (o:=.dct []) hp (u:=.dK []) ⟨[],jA,rfl,.nil⟩
  exact h _ _ _ l S' ⟨p,rfl,by rw [<- S.len];simp⟩
theorem K0 (ha:YE X xr a ma)(hb:YE X xr b mb):YE X xr (.BinOp a .FloorDiv b pos) (zl Z5 ma mb):=by
 (try simp only [zU] at *)
 exact Qh FV VV (Vz Ed λ _ _ _ _=>rfl) ha hb
theorem RJ {x:Str}{i:Int}{t:Tok}(hg:Gl X x)(hm:X.mg x=some (.int i t))(hd:(x==("__debug__" : Str))=false:=by decide):YE X xr (.Name x pos) (zi (.int i)):=by
 (try simp only [zU] at *)
 exact PE.imp (El hg hm (v:=.int i) ⟨t,rfl⟩ hd) λ σ H Q ⟨φ,A,ρ,S,r,h⟩=>h φ H _ .refl S rfl
theorem Co {c:Expr}(hc:YT X xr c mc)(ha:YE X xr a ma)(hb:YE X xr b mb):YE X xr (.IfExp c a b pos) (Z7 mc ma mb):=by
 (try simp only [zU] at *)
 exact PE.imp (Iu hc ha hb) λ σ H Q ⟨φ,A,ρ,S,re,h⟩=>by
   refine tT.go S re (zV.mp h) λ w A1 h1=>?_
   cases w with
   | bl k=>
    refine ⟨k,rfl,λ φ1 H1 l1 S1=>?_⟩
    cases k with
    | true=>rw [if_pos rfl];exact ⟨φ1,A1,ρ,S1,re.mono l1,qo h1 (λ _ _ z=>z.mono l1) λ _ _ z=>z.mono l1⟩
    | false=>rw [if_neg Bool.false_ne_true];exact ⟨φ1,A1,ρ,S1,re.mono l1,qo h1 (λ _ _ z=>z.mono l1) λ _ _ z=>z.mono l1⟩
   | non=>cases h1
   | int _=>cases h1
   | str _=>cases h1
   | tup _=>cases h1
   | ref _=>cases h1
   | clo _ _ _=>cases h1
   | xc _=>cases h1
theorem zH {i j}:YE X xr (.Constant (.int i) j pos) (zi (.int i)):=by
 (try simp only [zU] at *)
 exact PE.imp DD λ σ H Q ⟨φ,A,ρ,S,r,h⟩=>h φ H _ .refl S rfl
theorem gN (t:Ty){x:Str}{p p':Pos}(hm:X.mg "isinstance" = none)(hm':X.mg x=none)(hx:bootBuiltins x=some (.type t.nm))(ha:YE X xr e m)(hg:Gl X "isinstance" := by rfl)(hg':Gl X x:=by rfl)
  (hn:x ≠ "__name__" := by decide)(hd:(x==("__debug__" : Str))=false:=by decide)
  (h1:starEach [e,.Name x p'] X.env=(false,eval e X.env)::starEach [.Name x p'] X.env:=by rfl)(h2:(backTo pos (starEach [.Name x p'] X.env)).any (·.1)=false:=by rfl):
  YE X xr (.Call (.Name "isinstance" p) [e,.Name x p'] [] pos) (we t m):=by
 (try simp only [zU] at *)
 exact PE.imp (ZP Es hg hm (by rfl) (jk ha (jk (KS hg' hm' hx (v:=.ty t.nm) rfl hn hd) j6) h1) (by decide) (by decide) h1 h2) λ σ H Q ⟨φ,A,ρ,S,re,h⟩=>by
   refine tM.go S re (zV.mp h) λ w A1 φ1 H1 v h1 l1 S1 q1=>?_
   cases et:gk w A1 with
   | none=>rw [et] at h1;exact h1.elim
   | some t'=>
    rw [et] at h1
    exact ⟨v,t',t,rfl,T3 S1 q1 et,h1 φ1 H1 _ l1 S1 rfl⟩
theorem jH (ha:YE X xr a ma)(hb:YE X xr b mb)(hs:RA b:=by intro _ _;rfl):YE X xr (.Subscript a b pos) (zl zI ma mb):=by
 (try simp only [zU] at *)
 exact PE.imp (Cm EG ha hb hs) (zl.read CK Dn)
theorem j5 {p:Pos}{q:jG}(hm:X.mg "len" = none)(ha:YQ X xr e q)(hg:Gl X "len" := by rfl)(he:starEach [e] X.env=(false,eval e X.env)::starEach [] X.env:=by rfl):
  YE X xr (.Call (.Name "len" p) [e] [] pos) (mQ qa q):=by
 (try simp only [zU] at *)
 exact K8 NA (λ _ _=>jX) FO hm (by rfl) ha hg (by decide) (by decide) he (by rfl)
theorem JZ {q:jG}(h:YF X xr e q):YE X xr e (qO q):=by
 (try simp only [zU] at *)
 exact PE.imp h qO.read
theorem Ko {p p' pos':Pos}(hc:X.calm=true)(hm:X.mg "list" = none)(hm':X.mg "range" = none)(ha:YE X xr a ma)(hg:Gl X "list" := by rfl)(hg':Gl X "range" := by rfl)(hs:starEach [a] X.env=[(false,eval a X.env)]:=by rfl)
  (hs':starEach [.Call (.Name "range" p') [a] [] pos'] X.env=(false,eval (.Call (.Name "range" p') [a] [] pos') X.env)::starEach [] X.env:=by rfl):
  YE X xr (.Call (.Name "list" p) [.Call (.Name "range" p') [a] [] pos'] [] pos) (kJ ma):=by
 (try simp only [zU] at *)
 exact PE.imp (JN (MH hc) hg hm (by rfl) (jk (F8 hg' hm' (jk ha j6 (by rw [hs];rfl)) hs) j6 hs') (by decide) (by decide) hs' (by rfl)) λ σ H Q ⟨φ,A,ρ,S,re,h⟩=>by
   refine tM.go S re (zV.mp h) λ w A1 φ1 H1 v h1 l1 S1 q1=>?_
   cases w with
   | int j=>
    obtain rfl:=q1
    dsimp only at h1
    by_cases hj:(jM j&&decide (j.toNat<=zP))=true
    ·rw [if_pos hj] at h1
     rw [Bool.and_eq_true,decide_eq_true_iff] at hj
     refine ⟨j,rfl,λ p hp=>⟨p,j,rfl,jA,QM hj.1,QR hj.2,λ l hl=>?_⟩⟩
     have ln:Le X.K φ1 H1 φ1 (upd H1 p (.rng 0 j)):=Le.new hp
     have rr:zF X.K φ1 (upd H1 p (.rng 0 j)) ((List.range j.toNat).map λ (i:Nat)=>W.int i) (Qu j.toNat):=by
      have:=(zF.ints (K:=X.K) (φ:=φ1) (H:=upd H1 p (.rng 0 j)) (ns:=(List.range j.toNat).map λ (i:Nat)=>(i:Int)) (vs:=Qu j.toNat)).mpr (by unfold Qu;simp)
      rw [List.map_map] at this
      exact this
     obtain ⟨b1,b2,b3⟩:=J3 (S1.lay hp) hl rr
     exact h1 _ _ _ ((l1.trans ln).trans b1) b2 b3
    ·rw [if_neg hj] at h1;exact h1.elim
   | _=>exact h1.elim
theorem qX {mr:Ea}{n:Nat}(h:YA X xr es mr)(hl:Zv mr n)(hn:n<=zP:=by decide):YE X xr (.List es pos) (zX mr):=by
 (try simp only [zU] at *)
 exact D8 h λ ρ A ws A' e=>by rw [hl ρ A ws A' e];exact QR hn
theorem X1 {p:Pos}{q:jG}(hc:X.calm=true)(hm:X.mg "max" = none)(ha:YQ X xr e q)(hg:Gl X "max" := by rfl)(he:starEach [e] X.env=(false,eval e X.env)::starEach [] X.env:=by rfl):
  YE X xr (.Call (.Name "max" p) [e] [] pos) (mQ wb q):=by
 (try simp only [zU] at *)
 exact K8 (Ld hc) E1 FP hm (by rfl) ha hg (by decide) (by decide) he (by rfl)
theorem KI {p:Pos}(hc:X.calm=true)(hm:X.mg "min" = none)(ha:YE X xr a ma)(hb:YE X xr b mb)(hgl:Gl X "min" := by rfl)(h1:starEach [a,b] X.env=(false,eval a X.env)::starEach [b] X.env:=by rfl)(h2:starEach [b] X.env=(false,eval b X.env)::starEach [] X.env:=by rfl)(hpl:(backTo pos (starEach [b] X.env)).any (·.1)=false:=by rfl):
  YE X xr (.Call (.Name "min" p) [a,b] [] pos) (zl wB ma mb):=by
 (try simp only [zU] at *)
 exact P2 (Lc hc) Ql (λ φ A H x y u v Q S q1 q2 p=>by
   obtain ⟨i,j,e1,e2,q⟩:=Qk (K:=X.K) (f:=λ i j=>.int (if j<i then j else i)) (g:=λ i j=>.int (if j<i then j else i)) (λ _ _ _ _=>rfl) φ A H x y u v Q S q1 q2 p
   subst e1;subst e2
   exact ⟨i,j,rfl,q⟩) hm (by rfl) ha hb hgl (by decide) (by decide) h1 h2 hpl
theorem Zq (ha:YE X xr a ma)(hb:YE X xr b mb):YE X xr (.BinOp a .Mod b pos) (zl ka ma mb):=by
 (try simp only [zU] at *)
 exact Qh Dm VV (Vz F0 λ _ _ _ _=>rfl) ha hb
theorem gJ (ha:YE X xr a ma)(hb:YE X xr b mb):YE X xr (.BinOp a .Mult b pos) (zl qJ ma mb):=by
 (try simp only [zU] at *)
 exact Qh (Dt.or Dh) E2 FF ha hb
theorem Jh {j}:YE X xr (.Constant .none j pos) (zi .non):=by
 (try simp only [zU] at *)
 exact PE.imp D6 λ σ H Q ⟨φ,A,ρ,S,r,h⟩=>h φ H _ .refl S rfl
theorem D9 (ha:YE X xr a ma):YE X xr (.UnaryOp .Not a pos) (kz ma):=by
 (try simp only [zU] at *)
 exact PE.imp (Eu ha) λ σ H Q ⟨φ,A,ρ,S,re,h⟩=>by
   refine tM.go S re (zV.mp h) λ w A1 φ1 H1 v h1 l1 S1 q1=>?_
   cases w with
   | bl k=>exact ⟨k,q1,h1 φ1 H1 _ l1 S1 rfl⟩
   | non=>cases h1
   | int _=>cases h1
   | str _=>cases h1
   | tup _=>cases h1
   | ref _=>cases h1
   | clo _ _ _=>cases h1
   | xc _=>cases h1
theorem Jg {op}(h:YE X xr a ma):YE X xr (.BoolOp op [a] pos) ma:=by
 (try simp only [zU] at *)
 exact EH h
theorem Xz {apos cpos:Pos}(ho:YE X xr a ma)(he:YE X xr b mb)(hf:YE X xr c mc)(h1:starEach [b,c] X.env=(false,eval b X.env)::starEach [c] X.env:=by rfl)(h2:starEach [c] X.env=(false,eval c X.env)::starEach [] X.env:=by rfl)
  (hbase:attributeBase a "setdefault" X.env (eval a X.env)=eval a X.env:=by rfl)
  (hfew:((backTo cpos (starEach [b,c] X.env)).all (λ x=>!x.1)&&(backToKw cpos (keywordEach [] X.env)).all (λ x=>x.1.isSome)
   && decide ([b,c].length+([]:List Keyword).length+(if ([]:List Keyword).isEmpty then 0 else 1)<30))=true:=by rfl)(hline:(apos.endLine==cpos.line)=true:=by rfl)(hpl:(backTo cpos (starEach [c] X.env)).any (·.1)=false:=by rfl):
  YE X xr (.Call (.Attribute a "setdefault" apos) [b,c] [] cpos) (yY j9 ma mb mc):=by
 (try simp only [zU] at *)
 exact PE.imp (P1 PySem.F.plainAttrs_dict PySem.F.slot_dict_setdefault PySem.F.type_dict_setdefault LQ ho (jk he (jk hf j6 h2) h1) hbase hfew hline h1 hpl) λ σ H Q ⟨φ,A,ρ,S,re,h⟩=>by
   refine tM.go S re (zV.mp h) λ w A1 φ1 H1 v h1 l1 S1 q1=>?_
   by_cases hd:Z6 w A1=true
   ·rw [if_pos hd] at h1
    refine ⟨Iz S1 q1 hd,?_⟩
    refine tM.go S1 (re.mono l1) (qo (zV.mp h1) (λ _ _ z=>z) λ _ _ z=>z.mono l1) λ w2 A2 φ2 H2 v2 h2 l2 S2 q2=>?_
    have l02:=l1.trans l2
    refine tM.go S2 (re.mono l02) (qo (zV.mp h2) (λ _ _ z=>z) λ _ _ z=>z.mono l02) λ w3 A3 φ3 H3 v3 h3 l3 S3 q3=>?_
    have l03:=l02.trans l3
    unfold j9 at h3
    cases w with
    | ref n=>cases w2 with
     | int i=>
      obtain rfl:=q2
      dsimp only [Ye] at h3
      cases e1:A3[n]? with
      | none=>rw [e1] at h3;exact h3.elim
      | some o=>cases o with
       | dct kvs=>
        rw [e1] at h3
        dsimp only at h3
        obtain ⟨p,us,rfl,f1,g1,g2,g3⟩:=S3.dct ((q1.mono l2).mono l3) e1
        have hlen:us.length=kvs.length:=by have:=congrArg List.length g2;simpa using this
        by_cases hz:kvs.length<zP
        ·rw [if_pos hz] at h3
         have rd:=Tp (.inl i) g2 g3
         refine ⟨p,us,.inl i,v3,rfl,rfl,g1,?_,λ v' hv=>?_,λ hn=>?_⟩
         ·rw [hlen]
          have:sizeLine=16777216:=sizeLine_eq
          unfold zP at hz
          omega
         ·cases e2:yB (.inl i) kvs with
          | none=>rw [rd.2 e2] at hv;cases hv
          | some w'=>
           rw [e2] at h3
           obtain ⟨v'',hv2,rv⟩:=rd.1 w' e2
           rw [hv] at hv2;cases hv2
           exact h3 φ3 H3 _ l03 S3 rv
         ·cases e2:yB (.inl i) kvs with
          | some w'=>obtain ⟨v'',hv2,rv⟩:=rd.1 w' e2;rw [hn] at hv2;cases hv2
          | none=>
           rw [e2] at h3
           dsimp only at h3
           rw [I9 v3 hn]
           have ln:Le X.K φ3 H3 φ3 (upd H3 p (.dK (us++[(.inl i,v3)]))):=Le.upd f1 (λ xs z=>by rw [g1] at z;cases z) (λ _ _ z=>by rw [g1] at z;cases z)
           obtain ⟨w1,w2⟩:=S3.write (o:=.dct kvs) (o':=.dct (kvs++[(.inl i,w3)])) e1 rfl rfl f1 (u:=.dK (us++[(.inl i,v3)])) ⟨us++[(.inl i,v3)],jA,by simp [g2],by
            rw [List.map_append,List.map_append]
            exact (g3.mono ln).append (.one (q3.mono ln))⟩
           exact h3 _ _ _ (l03.trans w1) w2 (q3.mono w1)
        ·rw [if_neg hz] at h3;exact h3.elim
       | _=>rw [e1] at h3;exact h3.elim
     | _=>exact h3.elim
    | _=>exact h3.elim
   ·rw [if_neg hd] at h1;exact h1.elim
theorem ZX (ha:YE X xr a ma)(hb:YE X xr b mb):YE X xr (.BinOp a .Sub b pos) (zl yh ma mb):=by
 (try simp only [zU] at *)
 exact Qh De Ql (Qk λ _ _ _ _=>rfl) ha hb
theorem je {x1}{mr:Ea}{n:Nat}(h:YA X xr es mr)(hl:Zv mr n)(hn:n<=zP:=by decide):YE X xr (.Tuple es x1 pos) (zS mr):=by
 (try simp only [zU] at *)
 exact PE.imp (Pl h) λ σ H Q ⟨φ,A,ρ,S,re,h⟩=>by
   have h':=zV.mp h
   cases e:mr ρ A with
   | ok ws A'=>
    rw [e] at h'
    refine ⟨φ,A,ρ,S,re,?_⟩
    rw [e]
    intro φ1 H1 vs l1 S1 q1
    refine ⟨by rw [<- q1.length,hl ρ A ws A' e];exact QR hn,λ p hp=>?_⟩
    obtain ⟨a1,a2,a3⟩:=Jc S1 hp q1
    exact h' _ _ _ (l1.trans a1) a2 a3
   | exc x A'=>rw [e] at h';refine ⟨φ,A,ρ,S,re,?_⟩;rw [e];exact h'
   | bad=>rw [e] at h';exact h'.elim
theorem yk {p:Pos}{q:jG}(hm:X.mg "tuple" = none)(ha:YQ X xr e q)(hg:Gl X "tuple" := by rfl)(he:starEach [e] X.env=(false,eval e X.env)::starEach [] X.env:=by rfl):
  YE X xr (.Call (.Name "tuple" p) [e] [] pos) (mQ qH q):=by
 (try simp only [zU] at *)
 exact CS Nk (λ _ _=>jX) Fh hm (by rfl) ha hg (by decide) (by decide) he (by rfl)
theorem zm (i:Nat){x:Str}(hN:X.N[i]? =some x:=by rfl)(hv:JD X.env.scope x:=by first | exact Or.inl rfl | exact Or.inr (Or.inl rfl) | exact Or.inr (Or.inr rfl))(hd:(x==("__debug__" : Str))=false:=by decide)
  (hcd:(x==("__classdict__" : Str))=false:=by decide):YE X xr (.Name x pos) (zc i):=by
 (try simp only [zU] at *)
 exact PE.imp (R9 hN hv hd hcd) λ σ H Q ⟨φ,A,ρ,S,r,h⟩=>by
  unfold zc at h
  cases e:ρ[i]? with
  | none=>rw [e] at h;cases h
  | some o=>cases o with
   | none=>rw [e] at h;cases h
   | some w=>
    rw [e] at h
    obtain ⟨v,h1,h2⟩:=r.get i w e
    exact ⟨v,h1,h φ H v .refl S h2⟩
theorem jS {elt tg iter:Expr}{ifs:List Expr}{gs:List Comprehension}{sc:Scope}{mi:Ei}{tw:Tg}{mf:Ev}{em:Em}{N:List Str}(nl:Nat)(cap:List Nat)(hc:X.calm=true)(S:gC X sc)(hcap:Z2 X.N N sc nl cap=true)(hw:YI X xr tg iter mi)
  (hin:∀s H fp,YG (jg X N sc s H fp jK) tg tw/\ZG (jg X N sc s H fp jK) ifs mf/\YM (jg X N sc s H fp jK) elt (⟨tg,iter,ifs,0⟩::gs) sc pos 0 em)
  (ha:∀g',gs[0]? =some g'->g'.is_async=0:=by intro _ h;cases h<;>rfl)
  (hs:∀x,foldedSetIterable iter X.env x=pure x:=by intro _;rfl):YF X xr (.ListComp elt (⟨tg,iter,ifs,0⟩::gs) sc pos) (zW nl cap mi tw mf em):=by
 (try simp only [zU] at *)
 exact PE.imp (HS (g:=tG X.K tw) (ti:=tT X.K yC mf) (tm:=tE X.K em) hc S hcap ha hw hin hs) zW.read
theorem KA (i j:Nat){x y:Str}{p q:Pos}{k:Nat}(hc:X.calm=true)(hN:X.N.Nodup)(hi:X.N[i]? =some x:=by rfl)(hx:Loc X.env.scope x:=by first | exact Or.inl rfl | exact Or.inr rfl)(hf:X.fn x=true∨X.env.scope.names.lookup x=some .local:=by first | exact .inl rfl | exact .inr rfl)
  (hj:X.N[j]? =some y:=by rfl)(hy:Loc X.env.scope y:=by first | exact Or.inl rfl | exact Or.inr rfl)(hg:X.fn y=true∨X.env.scope.names.lookup y=some .local:=by first | exact .inl rfl | exact .inr rfl):YG X (.Tuple [.Name x p,.Name y q] k pos) (kN i j):=by
 (try simp only [zU] at *)
 exact PG.imp (Pe hc (Kv (X2 hN hi hx hf) (Kv (X2 hN hj hy hg) SX))) λ v σ H Q ⟨φ,A,ρ,w,ρ',S,re,qq,e,kk⟩=>by
   unfold kN at e
   split at e
   ·rename_i x1 y1
    have e':=Option.some.inj e
    subst e'
    obtain ⟨a,vs,rfl,hs,rs⟩:=qq
    obtain ⟨v1,r1,rfl,h1,v2,r2,rfl,h2,rfl⟩:=rs
    exact ⟨a,[v1,v2],rfl,hs,rfl,v1,[v2],rfl,v2,[],rfl,rfl,kk _ ((re.set h1).set h2)⟩
   ·cases e
theorem qz (i:Nat){x:Str}(hN:X.N.Nodup)(hi:X.N[i]? =some x:=by rfl)(hx:Loc X.env.scope x:=by first | exact Or.inl rfl | exact Or.inr rfl)(hf:X.fn x=true∨X.env.scope.names.lookup x=some .local:=by first | exact .inl rfl | exact .inr rfl):YG X (.Name x pos) (zA i):=by
 (try simp only [zU] at *)
 exact PG.imp (X2 hN hi hx hf) λ v σ H Q ⟨φ,A,ρ,w,ρ',S,re,q,e,k⟩=>by
   have e':ρ.set i (some w)=ρ':=Option.some.inj e
   subst e'
   exact k _ (re.set q)
theorem jF {tg:Expr}(h:YE X xr e m):YI X xr tg e (qd m):=by
 (try simp only [zU] at *)
 exact PI.imp (E4 h) λ σ H Rr ⟨φ,A,ρ,S,re,h⟩=>by
  refine tM.go S re (zV.mp h) λ w A1 φ1 H1 v h1 l1 S1 q1=>?_
  unfold Jz at h1
  cases e:zE w A1 with
  | none=>rw [e] at h1;exact h1.elim
  | some ws=>
   rw [e] at h1
   dsimp only at h1
   cases w with
   | tup us=>
    obtain ⟨a,ys,rfl,e2,e3⟩:=q1
    refine ⟨a,rfl,.inr ⟨⟨ys,e2⟩,h1 φ1 H1 _ l1 S1 λ i φ' H' A' lw S'=>⟨λ w' ew=>?_,λ ew=>?_⟩⟩⟩
    ·have ew':us[i]? =some w':=Option.some.inj ew
     obtain ⟨y,h3,h4⟩:=(e3.monoW lw).get ew'
     refine ⟨⟨ys,y,lw.tp _ _ e2,h3⟩,λ x H3 yl=>?_⟩
     obtain ⟨e5,e6⟩:=yl
     subst e5
     have e7:=e6 ys (lw.tp _ _ e2)
     rw [h3] at e7;cases e7
     exact ⟨.refl,S',h4⟩
    ·have ew':us[i]? =none:=Option.some.inj ew
     refine ⟨ys,lw.tp _ _ e2,?_⟩
     rw [<- e3.length]
     exact List.getElem?_eq_none_iff.mp ew'
   | ref n=>
    obtain ⟨a,rfl,e2⟩:=q1
    have read:∀{φ' H' A' us},gh X.K φ1 H1 φ' H'->zG X.K φ' A' H'->zE (.ref n) A'=some us->∃ys,qW X.K H' a ys/\zF X.K φ' H' us ys:=λ {φ' H' A' us} lw S' es=>by
     obtain ⟨a',ys,ea,z,r⟩:=Kh (w:=.ref n) (v:=.ref a) S' ⟨a,rfl,lw.ex _ _ e2⟩ es
     cases ea
     unfold zE at es
     dsimp only at es
     cases ec:A'[n]? with
     | none=>rw [ec] at es;cases es
     | some o=>
      rw [ec] at es
      obtain ⟨a',e3,r⟩:=S'.ob n o ec
      rw [lw.ex _ _ e2] at e3;cases e3
      cases o with
      | lst xs=>cases es;obtain ⟨ys,h1,h2⟩:=r;exact ⟨ys,qW.of h1,h2⟩
      | ro xs=>cases es;obtain ⟨ys,h1,h2⟩:=r;exact ⟨ys,h1.sq,h2⟩
      | dct xs=>cases es
      | tab _ _=>cases es
    obtain ⟨ys0,hq0,_⟩:=read ⟨λ _ _ h=>h,λ _ _ h=>h,λ _ _ _ h=>h⟩ S1 e
    refine ⟨a,rfl,.inl ⟨⟨ys0,hq0⟩,h1 φ1 H1 _ l1 S1 λ i φ' H' A' lw S'=>⟨λ w' ew=>?_,λ ew=>?_⟩⟩⟩
    ·dsimp only at ew
     cases es:zE (.ref n) A' with
     | none=>rw [es] at ew;cases ew
     | some us=>
      rw [es] at ew
      have ew':us[i]? =some w':=Option.some.inj ew
      obtain ⟨ys,hq,r⟩:=read lw S' es
      obtain ⟨y,h3,h4⟩:=r.get ew'
      refine ⟨⟨ys,y,hq,h3⟩,λ x H3 yl=>?_⟩
      obtain ⟨e5,e6⟩:=yl
      subst e5
      have e7:=e6 ys hq
      rw [h3] at e7;cases e7
      exact ⟨.refl,S',h4⟩
    ·dsimp only at ew
     cases es:zE (.ref n) A' with
     | none=>rw [es] at ew;cases ew
     | some us=>
      rw [es] at ew
      have ew':us[i]? =none:=Option.some.inj ew
      obtain ⟨ys,hq,r⟩:=read lw S' es
      refine ⟨ys,hq,?_⟩
      rw [<- r.length]
      exact List.getElem?_eq_none_iff.mp ew'
   | non=>cases e
   | bl _=>cases e
   | clo _ _ _=>cases e
   | xc _=>cases e
   | int _=>cases e
   | str _=>cases e
theorem Rk {elts:List Expr}{kk:Nat}{tpos p:Pos}(hg:Gl X "enumerate")(hm:X.mg "enumerate" = none)(ha:YE X xr a ma)(hs:starEach [a] X.env=[(false,eval a X.env)]:=by rfl):YI X xr (.Tuple elts kk tpos) (.Call (.Name "enumerate" p) [a] [] pos) (Jm ma):=by
 (try simp only [zU] at *)
 exact PI.imp (Fy hg hm (jk ha j6 (by rw [hs];rfl)) hs) λ σ H Rr ⟨φ,A,ρ,S,re,h⟩=>by
   refine tM.go S re (zV.mp h) λ w A1 φ1 H1 v h1 l1 S1 q1=>?_
   cases es:zE w A1 with
   | none=>rw [es] at h1;exact h1.elim
   | some ws=>
    rw [es] at h1
    obtain ⟨p,ys,rfl,z1,z2⟩:=Kz S1 q1 es
    exact ⟨p,Z4 w,ys,rfl,z1,h1 φ1 H1 _ l1 S1 (Cq q1)⟩
theorem yW {tg:Expr}{p:Pos}(hg:Gl X "range")(hm:X.mg "range" = none)(ha:YE X xr a ma)(hs:starEach [a] X.env=[(false,eval a X.env)]:=by rfl):YI X xr tg (.Call (.Name "range" p) [a] [] pos) (jl ma):=by
 (try simp only [zU] at *)
 exact PI.imp (MW hg hm (jk ha j6 (by rw [hs];rfl)) hs) λ σ H Rr ⟨φ,A,ρ,S,re,h⟩=>by
   refine tM.go S re (zV.mp h) λ w A1 φ1 H1 v h1 l1 S1 q1=>?_
   cases w with
   | int j=>
    obtain rfl:=q1
    dsimp only at h1
    by_cases hj:jM j=true
    ·rw [if_pos hj] at h1
     obtain ⟨b1,b2⟩:=QM hj
     exact ⟨j,rfl,b1,b2,h1 φ1 H1 _ l1 S1 R7⟩
    ·rw [if_neg hj] at h1;exact h1.elim
   | non=>exact h1.elim
   | bl _=>exact h1.elim
   | str _=>exact h1.elim
   | tup _=>exact h1.elim
   | ref _=>exact h1.elim
   | clo _ _ _=>exact h1.elim
   | xc _=>exact h1.elim
theorem Rg {tg:Expr}{p:Pos}(hg:Gl X "range")(hm:X.mg "range" = none)(ha:YE X xr a ma)(hb:YE X xr b mb)(hs:starEach [a,b] X.env=[(false,eval a X.env),(false,eval b X.env)]:=by rfl)(hs2:starEach [b] X.env=[(false,eval b X.env)]:=by rfl):YI X xr tg (.Call (.Name "range" p) [a,b] [] pos) (Jp ma mb):=by
 (try simp only [zU] at *)
 exact PI.imp (MR hg hm (jk ha (jk hb j6 (by rw [hs2];rfl)) (by rw [hs,hs2])) hs hs2) λ σ H Rr ⟨φ,A,ρ,S,re,h⟩=>by
   refine tM.go S re (zV.mp h) λ w A1 φ1 H1 v h1 l1 S1 q1=>?_
   refine tM.go S1 (re.mono l1) (qo (zV.mp h1) (λ _ _ z=>z) λ _ _ z=>z.mono l1) λ w2 A2 φ2 H2 v2 h2 l2 S2 q2=>?_
   cases w with
   | int i=>
    obtain rfl:=q1
    cases w2 with
    | int j=>
     obtain rfl:=q2
     dsimp only at h2
     by_cases hj:(jM i&&jM j)=true
     ·rw [if_pos hj] at h2
      rw [Bool.and_eq_true] at hj
      obtain ⟨b1,b2⟩:=QM hj.1
      obtain ⟨b3,b4⟩:=QM hj.2
      exact ⟨i,j,rfl,⟨b1,b2,b3,b4⟩,h2 φ2 H2 _ (l1.trans l2) S2 R7⟩
     ·rw [if_neg hj] at h2;exact h2.elim
    | non=>exact h2.elim
    | bl _=>exact h2.elim
    | str _=>exact h2.elim
    | tup _=>exact h2.elim
    | ref _=>exact h2.elim
    | clo _ _ _=>exact h2.elim
    | xc _=>exact h2.elim
   | non=>exact h2.elim
   | bl _=>exact h2.elim
   | str _=>exact h2.elim
   | tup _=>exact h2.elim
   | ref _=>exact h2.elim
   | clo _ _ _=>exact h2.elim
   | xc _=>exact h2.elim
theorem D5 {elts:List Expr}{kk:Nat}{tpos p:Pos}(hg:Gl X "zip")(hm:X.mg "zip" = none)(ha:YE X xr a ma)(hb:YE X xr b mb)(hs:starEach [a,b] X.env=(false,eval a X.env)::starEach [b] X.env:=by rfl)(hs2:starEach [b] X.env=(false,eval b X.env)::starEach [] X.env:=by rfl)(hp:(backTo pos (starEach [b] X.env)).any (·.1)=false:=by rfl):
  YI X xr (.Tuple elts kk tpos) (.Call (.Name "zip" p) [a,b] [] pos) (Wv ma mb):=by
 (try simp only [zU] at *)
 exact PI.imp (Ey hg hm (jk ha (jk hb j6 hs2) hs) hs hp) λ σ H Rr ⟨φ,A,ρ,S,re,h⟩=>by
   refine tM.go S re (zV.mp h) λ w A1 φ1 H1 v h1 l1 S1 q1=>?_
   refine tM.go S1 (re.mono l1) (qo (zV.mp h1) (λ _ _ z=>z) λ _ _ z=>z.mono l1) λ w2 A2 φ2 H2 v2 h2 l2 S2 q2=>?_
   cases es:zE w A2 with
   | none=>rw [es] at h2;exact h2.elim
   | some us=>
    cases es':zE w2 A2 with
    | none=>rw [es,es'] at h2;exact h2.elim
    | some vs=>
     rw [es,es'] at h2
     have q1':=q1.mono l2
     obtain ⟨p,xs,rfl,z1,z2⟩:=Kz S2 q1' es
     obtain ⟨p',ys,rfl,z3,z4⟩:=Kz S2 q2 es'
     exact ⟨p,p',Z4 w,Z4 w2,xs,ys,rfl,z1,z3,h2 φ2 H2 _ (l1.trans l2) S2 (CP q1' q2)⟩
theorem jB {elt:Expr}{gens:List Comprehension}{sc:Scope}{d:Nat}{me:Ev}(hx:∀e s,X.xe e s->False)(he:YE X yC elt me)(hg:gens[d+1]? =none):YM X elt gens sc pos d (zJ me):=by
 (try simp only [zU] at *)
 exact ki.imp (T8 hx he hg) λ D σ H Q ⟨φ,A,ρ,acc,ys,S,re,hD,nD,ra,h⟩=>by
   refine tM.go S re (JR (zV.mp h)) λ w A1 φ1 H1 v h1 l1 S1 q1=>?_
   obtain ⟨d1,n1⟩:=l1.off hD nD
   by_cases hz:acc.length<zP
   ·rw [if_pos hz] at h1
    have hl:=ra.length
    refine ⟨ys,d1,?_,?_⟩
    ·rw [<- hl]
     have:sizeLine=16777216:=sizeLine_eq
     unfold zP at hz
     omega
    ·exact h1 φ1 _ σ _ (l1.toD.trans (j3.upd d1)) n1 (S1.off d1 n1) ⟨re.len,λ i w e=>let ⟨v,a,b⟩:=re.get i w e;⟨v,a,(b.mono l1).monoD (j3.upd d1)⟩⟩ jA
      (((ra.mono l1).monoD (j3.upd d1)).append (.one (q1.monoD (j3.upd d1))))
   ·rw [if_neg hz] at h1;exact h1.elim
theorem R8 {elt tg iter:Expr}{ifs:List Expr}{gens:List Comprehension}{sc:Scope}{d:Nat}{mi:Ei}{tw:Tg}{mf:Ev}{em:Em}(hx:∀e s,X.xe e s->False)(hc:X.calm=true)(hg:gens[d+1]? =some ⟨tg,iter,ifs,0⟩)(ha:∀g',gens[d+2]? =some g'->g'.is_async=0)
  (hw:YI X yC tg iter mi)(hgt:YG X tg tw)(hi:ZG X ifs mf)(hm:YM X elt gens sc pos (d+1) em)(hs:∀x,foldedSetIterable iter X.env x=pure x:=by intro _;rfl):YM X elt gens sc pos d (wA mi tw mf em):=by
 (try simp only [zU] at *)
 exact ki.imp (HE hx hc hg ha hw hgt hi hm hs) λ D σ H Q ⟨φ,A,ρ,acc,ys,S,re,hD,nD,ra,h⟩=>by
   refine ⟨φ,A,ρ,S,re,qo (JR (zV.mp h)) (λ j A1 h1 φ1 H1 J l1 S1 jr=>?_) λ _ _ z=>z⟩
   obtain ⟨d1,n1⟩:=l1.off hD nD
   exact qt.read jr S1 (re.mono l1) d1 n1 (ra.mono l1) (qo h1 (λ p A2 h2 φ2 H2 σ2 zs l2 n2 S2 re2 d2 r2=>h2 φ2 H2 σ2 zs (l1.toD.trans l2) n2 S2 re2 d2 r2) λ _ _ z=>z)
theorem jf (h:YE X xr e m):YQ X xr e (zM m):=by
 (try simp only [zU] at *)
 exact PE.imp h λ σ H Q ⟨φ,A,ρ,S,re,h⟩=>by
  refine tM.go S re (zV.mp h) λ w A1 φ1 H1 v h1 l1 S1 q1=>?_
  cases e:zE w A1 with
  | none=>rw [e] at h1;exact h1.elim
  | some ws=>
   rw [e] at h1
   obtain ⟨a,ys,rfl,e2,e3⟩:=Kh S1 q1 e
   exact h1 φ1 H1 a ys l1 S1 e2 e3
theorem yu {q:jG}(h:YF X xr e q):YQ X xr e q:=by
 (try simp only [zU] at *)
 exact PE.imp h λ σ H Q ⟨φ,A,ρ,S,re,h⟩=>
  ⟨φ,A,ρ,S,re,qo h (λ ws A1 h1 φ1 H1 D ys l1 S1 h0 hD nD r=>h1 φ1 H1 D ys l1 S1 (.inl (qW.of hD)) r) λ _ _ z=>z⟩
theorem zt (h1:YS X xr st m1)(h2:kg X xr rest m2):kg X xr (st::rest) (zp m1 m2):=by
 (try simp only [zU] at *)
 exact yi.imp (Hj h1 h2) λ D σ H ⟨φ,A,ρ,S,re,h⟩=>by
   refine ⟨φ,A,ρ,S,re,qo (zV.mp h) (λ fl A1 h1=>?_) λ _ _ z=>z⟩
   cases fl with
   | nx ρ1=>exact λ φ' H' σ' l S' r'=>⟨φ',A1,ρ1,S',r',qo h1 (λ _ _ z=>z.mono l) λ _ _ z=>z.mono l⟩
   | rt w=>exact h1
   | bk ρ1=>exact h1
   | ct ρ1=>exact h1
theorem yw (he:YE X xr e m)(hs:swapsWith e none pos.line X.env=pure false:=by rfl):YS X xr (.Expr e pos) (qQ m):=by
 (try simp only [zU] at *)
 exact PS.imp (HL he hs) λ D σ H ⟨φ,A,ρ,S,re,h⟩=>tM.go S re (zV.mp h) λ w A1 φ1 H1 v h1 l1 S1 q1=>h1 φ1 H1 σ l1 S1 (re.mono l1)
theorem yZ {tg iter:Expr}{body:List Stmt}{mi:Ei}{tw:Tg}(hp:PassesOwn (model X.prog X.w) X.A X.env X.xe)(hc:X.calm=true)(hi:YI X xr tg iter mi)(hg:YG X tg tw)(hb:kg X xr body m1)
  (hs:∀x,foldedSetIterable iter X.env x=pure x:=by intro _;rfl):YS X xr (.For tg iter body [] pos) (jE mi tw m1):=by
 (try simp only [zU] at *)
 exact PS.imp (E7 hp hc hi hg hb hs) λ D σ H ⟨φ,A,ρ,S,re,h⟩=>by
   refine ⟨φ,A,ρ,S,re,qo (zV.mp h) (λ j A1 h1 φ1 H1 J l1 S1 jr=>?_) λ _ _ z=>z⟩
   refine ⟨λ i f σ' H'=>Oy X.K xr j (turn tw m1) D φ1 H1 f i σ' H',
    ⟨j.len,φ1,A1,ρ,.refl,S1,re.mono l1,qo h1 (λ _ _ z=>z.mono l1) λ _ _ z=>z.mono l1⟩,?_⟩
   rintro i f σ2 H2 ⟨φ2,A2,ρ2,l2,S2,re2,h2⟩
   obtain ⟨j1,j2⟩:=jr i φ2 H2 A2 ⟨l2.ex,l2.tp,l2.fz⟩ S2
   cases ej:j.at_ A2 i with
   | none=>cases f<;>(unfold jN at h2;rw [ej] at h2;exact h2.elim)
   | some o=>
    cases o with
    | none=>
     left
     refine ⟨j2 ej,?_⟩
     cases f<;>(unfold jN at h2;rw [ej] at h2;exact h2 φ2 H2 σ2 .refl S2 re2)
    | some w=>
     right
     obtain ⟨go,yl⟩:=j1 w ej
     cases f with
     | zero=>unfold jN at h2;rw [ej] at h2;exact h2.elim
     | succ f=>
      unfold jN at h2
      rw [ej] at h2
      refine ⟨go,λ σ' H'=>Oy X.K xr j (turn tw m1) D φ1 H1 f (i+1) σ' H',λ σ' H' z=>⟨f,Nat.lt_succ_self _,z⟩,λ x H3 y=>?_⟩
      obtain ⟨l3,S3,q3⟩:=yl x H3 y
      have h3:=zV.mp h2
      unfold turn at h3
      cases et:tw w ρ2 with
      | none=>rw [et] at h3;exact h3.elim
      | some ρ3=>
       rw [et] at h3
       refine ⟨φ2,A2,ρ2,w,ρ3,S3,re2.mono l3,q3,et,λ σ3 re3=>?_⟩
       refine ⟨φ2,A2,ρ3,S3,re3,qo h3 (λ fl A4 h4=>?_) λ _ _ z=>z.mono l3⟩
       cases fl with
       | nx ρ4=>exact λ φ4 H4 σ4 l4 S4 re4=>⟨φ4,A4,ρ4,(l2.trans l3).trans l4,S4,re4,qo h4 (λ _ _ z=>z.mono (l3.trans l4)) λ _ _ z=>z.mono (l3.trans l4)⟩
       | ct ρ4=>exact λ φ4 H4 σ4 l4 S4 re4=>⟨φ4,A4,ρ4,(l2.trans l3).trans l4,S4,re4,qo h4 (λ _ _ z=>z.mono (l3.trans l4)) λ _ _ z=>z.mono (l3.trans l4)⟩
       | bk ρ4=>exact λ φ4 H4 σ4 l4 S4 re4=>h4 φ4 H4 σ4 (l3.trans l4) S4 re4
       | rt w4=>exact λ φ4 H4 v4 l4 S4 q4=>h4 φ4 H4 v4 (l3.trans l4) S4 q4
theorem yo {sa sb:List Stmt}(hc:YT X xr c mc)(ha:kg X xr sa m1)(hb:kg X xr sb m2):YS X xr (.If c sa sb pos) (jc mc m1 m2):=by
 (try simp only [zU] at *)
 exact PS.imp (Cp hc ha hb) λ D σ H ⟨φ,A,ρ,S,re,h⟩=>by
   refine tT.go S re (zV.mp h) λ w A1 h1=>?_
   cases w with
   | bl k=>
    refine ⟨k,rfl,λ φ1 H1 l1 S1=>?_⟩
    cases k with
    | true=>rw [if_pos rfl];exact ⟨φ1,A1,ρ,S1,re.mono l1,qo h1 (λ _ _ z=>z.mono l1) λ _ _ z=>z.mono l1⟩
    | false=>rw [if_neg Bool.false_ne_true];exact ⟨φ1,A1,ρ,S1,re.mono l1,qo h1 (λ _ _ z=>z.mono l1) λ _ _ z=>z.mono l1⟩
   | non=>cases h1
   | int _=>cases h1
   | str _=>cases h1
   | tup _=>cases h1
   | ref _=>cases h1
   | clo _ _ _=>cases h1
   | xc _=>cases h1
theorem zL:kg X xr [] zw:=by
 (try simp only [zU] at *)
 exact yi.imp HU λ D σ H ⟨φ,A,ρ,S,re,h⟩=>h φ H σ .refl S re
theorem qA (he:YE X xr e m):YS X xr (.Return (some e) pos) (qj m):=by
 (try simp only [zU] at *)
 exact PS.imp (Dp he) λ D σ H ⟨φ,A,ρ,S,re,h⟩=>tM.go S re (zV.mp h) λ w A1 φ1 H1 v h1 l1 S1 q1=>h1 φ1 H1 v l1 S1 q1
theorem qw (i:Nat){x:Str}{pos':Pos}(hN:X.N.Nodup)(he:YE X xr e m)(hi:X.N[i]? =some x:=by rfl)(hx:Loc X.env.scope x:=by first | exact Or.inl rfl | exact Or.inr rfl)(hs:swapsWith e (some (.Name x pos')) pos.line X.env=pure false:=by rfl)
  (hf:X.fn x=true∨X.env.scope.names.lookup x=some .local:=by first | exact .inl rfl | exact .inr rfl):YS X xr (.Assign [.Name x pos'] e pos) (zK i m):=by
 (try simp only [zU] at *)
 exact PS.imp (EJ hN hi hx he hs hf) zK.read
theorem Km (i:Nat){x:Str}{elt tg iter:Expr}{ifs:List Expr}{gs:List Comprehension}{sc:Scope}{mi:Ei}{tw:Tg}{mf:Ev}{em:Em}{N:List Str}{px spos:Pos}(nl:Nat)(cap:List Nat)(hN:X.N.Nodup)
  (hc:X.calm=true)(S:gC X sc)(hcap:Z2 X.N N sc nl cap=true)(hw:YI X xr tg iter mi)
  (hin:∀s H fp,YG (jg X N sc s H fp jK) tg tw/\ZG (jg X N sc s H fp jK) ifs mf/\YM (jg X N sc s H fp jK) elt (⟨tg,iter,ifs,0⟩::gs) sc pos 0 em)
  (hi':X.N[i]? =some x:=by rfl)(hx:X.env.scope.names.lookup x=some .local:=by rfl)
  (hsw:swapsWith (.ListComp elt (⟨tg,iter,ifs,0⟩::gs) sc pos) (some (.Name x px)) spos.line X.env=pure true:=by rfl)
  (ha:∀g',gs[0]? =some g'->g'.is_async=0:=by intro _ h;cases h<;>rfl)
  (hs:∀x,foldedSetIterable iter X.env x=pure x:=by intro _;rfl):YS X xr (.Assign [.Name x px] (.ListComp elt (⟨tg,iter,ifs,0⟩::gs) sc pos) spos) (zK i (qO (zW nl cap mi tw mf em))):=by
 (try simp only [zU] at *)
 exact PS.imp (L2.ML (g:=tG X.K tw) (ti:=tT X.K yC mf) (tm:=tE X.K em) hN hi' hx hsw hc S hcap ha hw hin hs) λ D σ H h=>zW.read σ H _ (qO.read σ H _ (zK.read D σ H h))
theorem Ve (h:YW X xr e m):YT X xr e m:=by
 (try simp only [zU] at *)
 exact PW.pt h
theorem kC {op:CmpOp}{g:W->W->Hx->R W}(h:k9 X op g)(ha:YE X xr a ma)(hb:YE X xr b mb)(h1:op≠.In:=by decide)(h2:op≠.NotIn:=by decide):YT X xr (.Compare a [op] [b] pos) (zl g ma mb):=by
 (try simp only [zU] at *)
 exact let ⟨r,a1,a2,a3⟩:=h.ex;Pf a1 a2 a3 ha hb (h.mks b h1 h2)
theorem Cu {op op':CmpOp}{g g':W->W->Hx->R W}(h:k9 X op g)(h':k9 X op' g')(ha:YE X xr a ma)(hb:YE X xr b mb)(hc:YE X xr c mc)(hm:lastMarks [op,op'] [b,c]=false:=by with_unfolding_all rfl):
  YT X xr (.Compare a [op,op'] [b,c] pos) (kL g g' ma mb mc):=by
 (try simp only [zU] at *)
 exact let ⟨r,a1,a2,a3⟩:=h.ex;let ⟨r',b1,b2,b3⟩:=h'.ex;Ha a1 a2 a3 b1 b2 b3 ha hb hc hm
theorem VI {op:CmpOp}{g:W->W->Hx->R W}(h:Yl X op g)(ha:YE X xr a ma)(hb:YE X xr b mb)(hm:behindInMarks op b=false:=by rfl):YT X xr (.Compare a [op] [b] pos) (zl g ma mb):=by
 (try simp only [zU] at *)
 exact let ⟨r,a1,a2,a3⟩:=h.ex;Pf a1 a2 a3 ha hb hm
theorem Qi (ha:YT X xr a ma):YT X xr (.UnaryOp .Not a pos) (kz ma):=by
 (try simp only [zU] at *)
 exact PT.imp (Et ha) λ σ H Q ⟨φ,A,ρ,S,re,h⟩=>by
   refine tT.go S re (zV.mp h) λ w A1 h1=>?_
   cases w with
   | bl k=>obtain ⟨b,e,q⟩:=h1;cases e;exact ⟨k,rfl,λ φ1 H1 l1 S1=>q φ1 H1 l1 S1⟩
   | non=>cases h1
   | int _=>cases h1
   | str _=>cases h1
   | tup _=>cases h1
   | ref _=>cases h1
   | clo _ _ _=>cases h1
   | xc _=>cases h1
theorem Zp (h:YE X xr e m)(he:∀whole,isTrue e X.env whole=(do let v <- whole;standAt e.pos;holding [v] (truthy v)):=by intro _;rfl):YT X xr e m:=by
 (try simp only [zU] at *)
 exact PT.imp (Dc h he) λ σ H Q h=>h.toM
theorem jo:ZG X [] (zi (.bl true)):=by
 (try simp only [zU] at *)
 exact Mi.jo
theorem X7 (h:YT X yC c mc):ZG X [c] mc:=by
 (try simp only [zU] at *)
 exact IG h
theorem VZ {rest:List Expr}(ha:YT X xr a ma)(hb:YW X xr (.BoolOp .Or (b::rest) pos) mb):YW X xr (.BoolOp .Or (a::b::rest) pos) (g8 ma mb):=by
 (try simp only [zU] at *)
 exact PW.imp (pw_or ha hb) λ σ H Q ⟨φ,A,ρ,S,re,h⟩=>by
   refine tT.go S re (zV.mp h) λ w A1 h1=>?_
   cases w with
   | bl k=>
    refine ⟨k,rfl,λ φ1 H1 l1 S1=>?_⟩
    cases k with
    | false=>rw [if_neg Bool.false_ne_true];exact tT.mono S1 l1 re h1
    | true=>rw [if_pos rfl];obtain ⟨b,e,q⟩:=h1;cases e;exact q φ1 H1 l1 S1
   | non=>cases h1
   | int _=>cases h1
   | str _=>cases h1
   | tup _=>cases h1
   | ref _=>cases h1
   | clo _ _ _=>cases h1
   | xc _=>cases h1
theorem Vw (ha:YT X xr a ma):YW X xr (.BoolOp .Or [a] pos) ma:=by
 (try simp only [zU] at *)
 exact pw_or1 ha
theorem jL {P:Program}{w:World}{K:Frag}{mg:Str->Option Value}{base:Heap}{x:Str}{st:Stmt}{f:Addr}{fd:FuncData}{N ps:List Str}{k:Nat}{m:Ex}(F:qF K x x st f fd)(hm:mg x=some (.ref f))(S:qR N ps (qk st))
  (hb:∀(kV doc pm:Value) (an:Option Addr) (cdv ct:Value) (us:List Value),us.length=ps.length->bindArgs (PySem.W.fnOf x x (ZV st) (yG st) (qk st) .none kV doc pm an cdv ct) ⟨us,[]⟩=pure (ps.zip us))
  (hbody:∀(cdv:Value) (A:Around) (outer:List Env) (s:Shared) (H:Hp) (E:XK),jn k (A.deeper (envOfC x (qk st) s.heap.objs.size f cdv))->kg (wc wK P w K mg base N x (qk st) f cdv A outer s H E).nox yC (yG st) m):
  zC P w K mg base (k+1) x ps.length (zY N.length m):=by
 (try simp only [zU] at *)
 refine ⟨f,fd,ps,?_,hm,F.kp,F.binds hb⟩
 refine F.ok S (λ vs H Q E h=>h.len) λ cdv A outer s H vs Q E hr ⟨hl,φ,A1,ws,Sm,r,h⟩=>⟨_,hbody cdv A outer s H E hr,?_⟩
 refine ⟨φ,A1,ws.map some++List.replicate (N.length - ws.length) none,Sm,RE.start r,?_⟩
 have h':=zV.mp h
 show R.post _ (FB K φ H _) _
 cases er:m (ws.map some++List.replicate (N.length - ws.length) none) A1 with
 | ok fl A2=>
  rw [er] at h'
  cases fl with
  | rt w=>exact h'
  | nx ρ=>exact λ φ' H' σ' l S' _=>h' φ' H' .non l S' rfl
  | bk ρ=>exact h'.elim
  | ct ρ=>exact h'.elim
 | exc y A2=>
  rw [er] at h'
  exact h'.elim
 | bad=>rw [er] at h';exact h'.elim
theorem wQ {apos cpos:Pos}(ho:YE X xr a ma)(he:YE X xr b mb)(hs:starEach [b] X.env=(false,eval b X.env)::starEach [] X.env:=by rfl)
  (hbase:attributeBase a "append" X.env (eval a X.env)=eval a X.env:=by rfl)
  (hfew:((backTo cpos (starEach [b] X.env)).all (λ x=>!x.1)&&(backToKw cpos (keywordEach [] X.env)).all (λ x=>x.1.isSome)
   && decide ([b].length+([]:List Keyword).length+(if ([]:List Keyword).isEmpty then 0 else 1)<30))=true:=by rfl)(hline:(apos.endLine==cpos.line)=true:=by rfl):
  YE X xr (.Call (.Attribute a "append" apos) [b] [] cpos) (qx qY ma mb):=by
 (try simp only [zU] at *)
 exact We PySem.F.slot_list_append PySem.F.type_list_append Tc LY (λ φ A H x y u v Q S q1 q2 p=>by
   unfold qY at p
   cases u with
   | ref n=>
    dsimp only at p
    cases e1:A[n]? with
    | none=>rw [e1] at p;exact p.elim
    | some o=>cases o with
     | lst ws=>
      rw [e1] at p
      dsimp only at p
      by_cases hz:ws.length<zP
      ·rw [if_pos hz] at p
       obtain ⟨l,vs,rfl,f1,g1,r1⟩:=S.lst q1 e1
       refine ⟨l,vs,y,rfl,rfl,g1,?_,?_⟩
       ·rw [<- r1.length]
        have:sizeLine=16777216:=sizeLine_eq
        unfold zP at hz
        omega
       ·have ln:Le X.K φ H φ (upd H l (.lst (vs++[y]))):=Le.upd f1 (λ xs z=>by rw [g1] at z;cases z) (λ _ _ z=>by rw [g1] at z;cases z)
        obtain ⟨w1,w2⟩:=S.write (o:=.lst ws) (o':=.lst (ws++[v])) e1 rfl rfl f1 ⟨_,jA,(r1.mono ln).append (.one (q2.mono ln))⟩
        exact p _ _ _ w1 w2 rfl
      ·rw [if_neg hz] at p;exact p.elim
     | _=>rw [e1] at p;exact p.elim
   | _=>exact p.elim) ho he hs hbase hfew hline
theorem XD {p:Pos}(hm:X.mg "int" = none)(ha:YE X xr e m)(hgl:Gl X "int" := by rfl)(he:starEach [e] X.env=(false,eval e X.env)::starEach [] X.env:=by rfl):YE X xr (.Call (.Name "int" p) [e] [] pos) (Qb Yp m):=by
 (try simp only [zU] at *)
 exact Ez LR (λ w A=>by unfold Yp;split;exact jX;exact jX;exact qL) (λ φ A H x u Q S q p=>by
   cases u with
   | int i=>obtain rfl:=q;exact .inl ⟨i,rfl,p φ H _ .refl S rfl⟩
   | bl k=>obtain rfl:=q;exact .inr ⟨k,rfl,p φ H _ .refl S rfl⟩
   | _=>exact p.elim) hm (by rfl) ha hgl (by decide) (by decide) he (by rfl)
theorem SU {p:Pos}(hc:X.calm=true)(hm:X.mg "max" = none)(ha:YE X xr a ma)(hb:YE X xr b mb)(hgl:Gl X "max" := by rfl)(h1:starEach [a,b] X.env=(false,eval a X.env)::starEach [b] X.env:=by rfl)(h2:starEach [b] X.env=(false,eval b X.env)::starEach [] X.env:=by rfl)(hpl:(backTo pos (starEach [b] X.env)).any (·.1)=false:=by rfl):
  YE X xr (.Call (.Name "max" p) [a,b] [] pos) (zl Z0 ma mb):=by
 (try simp only [zU] at *)
 exact P2 (L4 hc) Ql (λ φ A H x y u v Q S q1 q2 p=>by
   obtain ⟨i,j,e1,e2,q⟩:=Qk (K:=X.K) (f:=λ i j=>.int (if j > i then j else i)) (g:=λ i j=>.int (if j > i then j else i)) (λ _ _ _ _=>rfl) φ A H x y u v Q S q1 q2 p
   subst e1;subst e2
   exact ⟨i,j,rfl,q⟩) hm (by rfl) ha hb hgl (by decide) (by decide) h1 h2 hpl
theorem Ie {apos cpos:Pos}(ho:YE X xr a ma)(he:YE X xr b mb)(hs:starEach [b] X.env=(false,eval b X.env)::starEach [] X.env:=by rfl)
  (hbase:attributeBase a "pop" X.env (eval a X.env)=eval a X.env:=by rfl)
  (hfew:((backTo cpos (starEach [b] X.env)).all (λ x=>!x.1)&&(backToKw cpos (keywordEach [] X.env)).all (λ x=>x.1.isSome)
   && decide ([b].length+([]:List Keyword).length+(if ([]:List Keyword).isEmpty then 0 else 1)<30))=true:=by rfl)(hline:(apos.endLine==cpos.line)=true:=by rfl):
  YE X xr (.Call (.Attribute a "pop" apos) [b] [] cpos) (qx wX ma mb):=by
 (try simp only [zU] at *)
 exact We PySem.F.slot_list_pop PySem.F.type_list_pop Iw IP (λ φ A H x y u v Q S q1 q2 p=>by
   unfold wX at p
   cases u with
   | ref n=>cases v with
    | int i=>
     obtain rfl:=q2
     dsimp only at p
     cases e1:A[n]? with
     | none=>rw [e1] at p;exact p.elim
     | some o=>cases o with
      | lst ws=>
       rw [e1] at p
       dsimp only at p
       by_cases hz:jM i=true
       ·rw [if_pos hz] at p
        obtain ⟨b1,b2⟩:=QM hz
        cases e2:seqIndex? i ws.length with
        | none=>rw [e2] at p;exact p.elim
        | some k=>
         rw [e2] at p
         dsimp only at p
         cases e3:ws[k]? with
         | none=>rw [e3] at p;exact p.elim
         | some w=>
          rw [e3] at p
          obtain ⟨l,vs,rfl,f1,g1,r1⟩:=S.lst q1 e1
          obtain ⟨y,h1,h2⟩:=r1.get e3
          have ln:Le X.K φ H φ (upd H l (.lst (vs.eraseIdx k))):=Le.upd f1 (λ xs z=>by rw [g1] at z;cases z) (λ _ _ z=>by rw [g1] at z;cases z)
          obtain ⟨w1,w2⟩:=S.write (o:=.lst ws) (o':=.lst (ws.eraseIdx k)) e1 rfl rfl f1 ⟨_,jA,(r1.erase k).mono ln⟩
          exact ⟨l,vs,i,k,y,rfl,rfl,g1,by omega,by omega,by rw [<- r1.length];exact e2,h1,p _ _ _ w1 w2 (h2.mono w1)⟩
       ·rw [if_neg hz] at p;exact p.elim
      | _=>rw [e1] at p;exact p.elim
    | _=>exact p.elim
   | _=>cases v<;>exact p.elim) ho he hs hbase hfew hline
theorem R4 (ha:YE X xr a ma)(hb:YE X xr b mb):YE X xr (.BinOp a .Pow b pos) (zl Wq ma mb):=by
 (try simp only [zU] at *)
 exact Qh D7 VV (Vz Fm λ _ _ _ _=>rfl) ha hb
theorem VB {x j}:YE X xr (.Constant (.str x) j pos) (zi (.str x)):=by
 (try simp only [zU] at *)
 exact PE.imp DX λ σ H Q ⟨φ,A,ρ,S,r,h⟩=>h φ H _ .refl S rfl
theorem Ec {p:Pos}{q:jG}(hm:X.mg "list" = none)(ha:YQ X xr e q)(hg:Gl X "list" := by rfl)(he:starEach [e] X.env=(false,eval e X.env)::starEach [] X.env:=by rfl):
  YE X xr (.Call (.Name "list" p) [e] [] pos) (qO q):=by
 (try simp only [zU] at *)
 exact PE.imp (JN Nx hg hm (by rfl) (jk ha j6 he) (by decide) (by decide) he (by rfl)) λ σ H Q ⟨φ,A,ρ,S,re,h⟩=>by
   refine ⟨φ,A,ρ,S,re,qo (zV.mp h) (λ ws A1 h1 φ1 H1 a ys l1 S1 z r=>?_) λ _ _ z=>z⟩
   refine ⟨a,ys,rfl,z,λ l hl=>?_⟩
   obtain ⟨a1,a2,a3⟩:=J3 S1 hl r
   exact h1 _ _ _ (l1.trans a1) a2 a3
theorem K3 {o i:Expr}{mo mi:Ev}{tpos:Pos}(he:YE X xr e m)(ho:YE X xr o mo)(hi:YE X xr i mi)
  (hs:swapsWithSole [.Subscript o i tpos] e pos.line X.env=pure false:=by rfl)(hw:swappedStores [.Subscript o i tpos] e X.env=pure none:=by rfl)
  (h1:(assignEach [.Subscript o i tpos] X.env).map (·.2)=[assign (.Subscript o i tpos) X.env]:=by rfl)
  (ha:∀v,assign (.Subscript o i tpos) X.env v=(do
   let ov <- holding [v] (eval o X.env)
   let iv <- holding [v,ov] (eval i X.env)
   standAt tpos
   holding [v,ov,iv] (setItem ov iv v)
   release [v,ov,iv] []):=by intro _;rfl):YS X xr (.Assign [.Subscript o i tpos] e pos) (wu yr m mo mi):=by
 (try simp only [zU] at *)
 exact HF set_list RU RG he ho hi hs hw h1 ha
theorem ID (f:Nat){body:List Stmt}(hp:PassesOwn (model X.prog X.w) X.A X.env X.xe)(hc:YT X xr c mc)(hb:kg X xr body m1):YS X xr (.While c body [] pos) (Pa f mc m1):=by
 (try simp only [zU] at *)
 exact PS.imp (Hi hp hc hb) λ D σ H ⟨φ,A,ρ,S,re,h⟩=>by
   refine ⟨λ f σ' H'=>∃φ2 A2 ρ2,Le X.K φ H φ2 H'/\zG X.K φ2 A2 H'/\RE X.K φ2 H' ρ2 σ'/\(Zy mc m1 f ρ2 A2).post (FB X.K φ2 H' D) (EB X.K φ2 H' xr),⟨f,φ,A,ρ,.refl,S,re,h⟩,?_⟩
   rintro f σ2 H2 ⟨φ2,A2,ρ2,l2,S2,re2,h2⟩
   cases f with
   | zero=>exact h2.elim
   | succ f=>
    unfold Zy at h2
    refine tT.go S2 re2 (zV.mp h2) λ w A3 h3=>?_
    cases w with
    | bl k=>
     refine ⟨k,rfl,λ φ3 H3 l3 S3=>?_⟩
     cases k with
     | true=>
      rw [if_pos rfl]
      refine ⟨λ σ' H'=>∃φ2 A2 ρ2,Le X.K φ H φ2 H'/\zG X.K φ2 A2 H'/\RE X.K φ2 H' ρ2 σ'/\(Zy mc m1 f ρ2 A2).post (FB X.K φ2 H' D) (EB X.K φ2 H' xr),λ σ' H' z=>⟨f,Nat.lt_succ_self _,z⟩,?_⟩
      refine ⟨φ3,A3,ρ2,S3,re2.mono l3,qo (zV.mp h3) (λ fl A4 h4=>?_) λ _ _ z=>z.mono l3⟩
      cases fl with
      | nx ρ4=>exact λ φ4 H4 σ4 l4 S4 re4=>⟨φ4,A4,ρ4,(l2.trans l3).trans l4,S4,re4,qo h4 (λ _ _ z=>z.mono (l3.trans l4)) λ _ _ z=>z.mono (l3.trans l4)⟩
      | ct ρ4=>exact λ φ4 H4 σ4 l4 S4 re4=>⟨φ4,A4,ρ4,(l2.trans l3).trans l4,S4,re4,qo h4 (λ _ _ z=>z.mono (l3.trans l4)) λ _ _ z=>z.mono (l3.trans l4)⟩
      | bk ρ4=>exact λ φ4 H4 σ4 l4 S4 re4=>h4 φ4 H4 σ4 (l3.trans l4) S4 re4
      | rt w4=>exact λ φ4 H4 v4 l4 S4 q4=>h4 φ4 H4 v4 (l3.trans l4) S4 q4
     | false=>
      rw [if_neg Bool.false_ne_true]
      exact h3 φ3 H3 σ2 l3 S3 (re2.mono l3)
    | non=>cases h3
    | int _=>cases h3
    | str _=>cases h3
    | tup _=>cases h3
    | ref _=>cases h3
    | clo _ _ _=>cases h3
    | xc _=>cases h3
end
end Y
set_option maxHeartbeats 400000
namespace Mi
open PySem L2
section
variable {ρ ρ1 ρ2:En}{A A1 A2 A3:Hx}{w x y z:W}{m ma mb mc:Ev}{m1 m2:Ex}{i n:Nat}{f:Fn}{ws:List W}{fl:Fl}
theorem zu (h:ρ[i]? =some (some w)):zc i ρ A=.ok w A:=by unfold zc;rw [h]
theorem jR:zi w ρ A=.ok w A:=rfl
theorem zO {g:W->W->Hx->R W}(h1:ma ρ A=.ok x A1)(h2:mb ρ A1=.ok y A2):zl g ma mb ρ A=g x y A2:=by unfold zl;rw [h1,zB,h2,zB]
theorem ZT {k:Bool}(h:ma ρ A=.ok (.bl k) A1):kz ma ρ A=.ok (.bl (!k)) A1:=by unfold kz;rw [h,zB]
theorem Jd (h:ma ρ A=.ok (.bl true) A1):wH ma mb ρ A=mb ρ A1:=by unfold wH;rw [h,zB]
theorem RQ (h:ma ρ A=.ok (.bl false) A1):wH ma mb ρ A=.ok (.bl false) A1:=by unfold wH;rw [h,zB]
theorem Cn (h:ma ρ A=.ok (.bl true) A1):g8 ma mb ρ A=.ok (.bl true) A1:=by unfold g8;rw [h,zB]
theorem VX (h:ma ρ A=.ok (.bl false) A1):g8 ma mb ρ A=mb ρ A1:=by unfold g8;rw [h,zB]
theorem Be (h:mc ρ A=.ok (.bl true) A1):Z7 mc ma mb ρ A=ma ρ A1:=by unfold Z7;rw [h,zB]
theorem CF (h:mc ρ A=.ok (.bl false) A1):Z7 mc ma mb ρ A=mb ρ A1:=by unfold Z7;rw [h,zB]
theorem zR {a:Ea}(h:a ρ A=.ok ws A1):zx f a ρ A=f ws A1:=by unfold zx;rw [h,zB]
theorem jh:zo ρ A=.ok [] A:=rfl
theorem qm {r:Ea}(h1:ma ρ A=.ok x A1)(h2:r ρ A1=.ok ws A2):zh ma r ρ A=.ok (x::ws) A2:=by unfold zh;rw [h1,zB,h2,zB]
theorem KN {a:Ea}(h:a ρ A=.ok ws A1):zS a ρ A=.ok (.tup ws) A1:=by unfold zS;rw [h,zB]
theorem yF {a:Ea}(h:a ρ A=.ok ws A1):zX a ρ A=.ok (.ref A1.length) (A1++[.lst ws]):=by unfold zX;rw [h,zB]
theorem zD (h:m1 ρ A=.ok (.nx ρ1) A1):zp m1 m2 ρ A=m2 ρ1 A1:=by unfold zp;rw [h,zB]
theorem qD (h:m1 ρ A=.ok (.rt w) A1):zp m1 m2 ρ A=.ok (.rt w) A1:=by unfold zp;rw [h,zB]
theorem gE:zw ρ A=.ok (.nx ρ) A:=rfl
theorem qM (h:m ρ A=.ok w A1):zK i m ρ A=.ok (.nx (ρ.set i (some w))) A1:=by unfold zK;rw [h,zB]
theorem yx (h:m ρ A=.ok w A1):qQ m ρ A=.ok (.nx ρ) A1:=by unfold qQ;rw [h,zB]
theorem ji (h:m ρ A=.ok w A1):qj m ρ A=.ok (.rt w) A1:=by unfold qj;rw [h,zB]
theorem wz (h:mc ρ A=.ok (.bl true) A1):jc mc m1 m2 ρ A=m1 ρ A1:=by unfold jc;rw [h,zB]
theorem yz (h:mc ρ A=.ok (.bl false) A1):jc mc m1 m2 ρ A=m2 ρ A1:=by unfold jc;rw [h,zB]
theorem wq {mi:Ei}{tw:Tg}{j:jv}(h:mi ρ A=.ok j A1):jE mi tw m1 ρ A=jN j (turn tw m1) j.len 0 ρ A1:=by unfold jE;rw [h,zB]
theorem kZ {tw:Tg}(h:tw w ρ=some ρ1):turn tw m1 w ρ A=m1 ρ1 A:=by unfold turn;rw [h]
theorem QP {j:jv}{st:W->Ex}(h:j.at_ A i=some none):jN j st n i ρ A=.ok (.nx ρ) A:=by
 cases n with
 | zero=>unfold jN;rw [h]
 | succ n=>unfold jN;rw [h]
theorem QV {j:jv}{st:W->Ex}(h:j.at_ A i=some (some w))(hs:st w ρ A=.ok (.nx ρ1) A1):jN j st (n+1) i ρ A=jN j st n (i+1) ρ1 A1:=by
 rw [jN,h];dsimp only;rw [hs,zB]
theorem Hw {j:jv}{st:W->Ex}(h:j.at_ A i=some (some w))(hs:st w ρ A=.ok (.rt x) A1):jN j st (n+1) i ρ A=.ok (.rt x) A1:=by
 rw [jN,h];dsimp only;rw [hs,zB]
theorem ZN {k:Int}(h:m ρ A=.ok (.int k) A1)(hk:jM k=true):jl m ρ A=.ok (jY 0 k.toNat) A1:=by unfold jl;rw [h,zB];dsimp only;rw [if_pos hk]
theorem gH {lo:Int}{k:Nat}(h:i<k):(jY lo k).at_ A i=some (some (.int (lo+i))):=by unfold jY;dsimp only;rw [if_pos h]
theorem gD {lo:Int}{k:Nat}(h:¬i<k):(jY lo k).at_ A i=some none:=by unfold jY;dsimp only;rw [if_neg h]
theorem jd (h:m1 (ws.map some++List.replicate (n - ws.length) none) A=.ok (.rt w) A1):zY n m1 ws A=.ok w A1:=by unfold zY;rw [h];rfl
theorem yO {w:W}(hn:qT ws=true)(hw:w.nr=true)(h:f ws []=.ok w A1):iso f ws A=.ok w A:=by
 unfold iso
 rw [if_pos hn,h]
 cases w with
 | ref k=>cases hw
 | _=>dsimp only;rw [if_pos hw]
end
end Mi
set_option maxHeartbeats 400000
namespace Mi
open PySem L2
theorem Ip {j:jv}{ifs me:Ev}{c:En}{A:Hx}{N:Nat}{item g:Nat->W}{keep:Nat->Bool}(hat:∀i,i<N->j.at_ A i=some (some (item i)))(hend:j.at_ A N=some none)
  (hi:∀i,i<N->ifs (some (item i)::c) A=.ok (.bl (keep i)) A)(he:∀i,i<N->keep i=true->me (some (item i)::c) A=.ok (g i) A):
  ∀(n i:Nat) (x:Option W) (acc:List W),i+n=N->acc.length+n<=zP->∃y,qt j (zA 0) ifs (zJ me) n i (x::c) acc A=.ok (y::c,acc++((List.range' i n).filter keep).map g) A:=by
 intro n
 induction n with
 | zero=>
  intro i x acc h _
  have:i=N:=by omega
  subst this
  refine ⟨x,?_⟩
  unfold qt
  rw [hend]
  simp
 | succ n ih=>
  intro i x acc h hl
  have hlt:i<N:=by omega
  rw [qt,hat i hlt]
  dsimp only [zA,List.set]
  rw [hi i hlt,zB]
  rw [List.range'_succ]
  cases hk:keep i with
  | true=>
   dsimp only
   obtain ⟨y,e⟩:=ih (i+1) (some (item i)) (acc++[g i]) (by omega) (by rw [List.length_append,List.length_singleton];omega)
   refine ⟨y,?_⟩
   have ee:zJ me (some (item i)::c) acc A=.ok (some (item i)::c,acc++[g i]) A:=by
    unfold zJ
    rw [he i hlt hk,zB,if_pos (by omega)]
   rw [ee,zB]
   dsimp only
   rw [e,List.filter_cons_of_pos hk,List.map_cons,List.append_assoc]
   rfl
  | false=>
   dsimp only
   obtain ⟨y,e⟩:=ih (i+1) (some (item i)) acc (by omega) (by omega)
   exact ⟨y,by rw [e,List.filter_cons_of_neg (by rw [hk];exact Bool.false_ne_true)]⟩
theorem Xj {cap:List Nat}{mi:Ei}{j:jv}{ifs me:Ev}{ρ:En}{A:Hx}{N:Nat}{item g:Nat->W}{keep:Nat->Bool}(hm:mi ρ A=.ok j A)(hj:j.len=N)(hN:N<=zP)
  (hat:∀i,i<N->j.at_ A i=some (some (item i)))(hend:j.at_ A N=some none)(hi:∀i,i<N->ifs (some (item i)::cap.map λ i=>(ρ[i]?).join) A=.ok (.bl (keep i)) A)
  (he:∀i,i<N->keep i=true->me (some (item i)::cap.map λ i=>(ρ[i]?).join) A=.ok (g i) A):
  zW 1 cap mi (zA 0) ifs (zJ me) ρ A=.ok (((List.range N).filter keep).map g) A:=by
 obtain ⟨y,e⟩:=Ip hat hend hi he N 0 none [] (Nat.zero_add N) (by simpa using hN)
 unfold zW
 rw [hm,zB,hj]
 have hc:gL 1 cap ρ=none::cap.map λ i=>(ρ[i]?).join:=rfl
 rw [hc,e,List.nil_append,<- List.range_eq_range']
 rfl
theorem QO {cap:List Nat}{mi:Ei}{j:jv}{me:Ev}{ρ:En}{A:Hx}{N:Nat}{item g:Nat->W}(hm:mi ρ A=.ok j A)(hj:j.len=N)(hN:N<=zP)
  (hat:∀i,i<N->j.at_ A i=some (some (item i)))(hend:j.at_ A N=some none)(he:∀i,i<N->me (some (item i)::cap.map λ i=>(ρ[i]?).join) A=.ok (g i) A):
  zW 1 cap mi (zA 0) (zi (.bl true)) (zJ me) ρ A=.ok ((List.range N).map g) A:=by
 have h:=Xj (ifs:=zi (.bl true)) (keep:=λ _=>true) hm hj hN hat hend (λ _ _=>rfl) λ i hi _=>he i hi
 have f:(List.range N).filter (λ _=>true)=List.range N:=List.filter_eq_self.mpr λ _ _=>rfl
 rw [f] at h
 exact h
theorem yn {g:List W->Hx->R W}{q:jG}{ρ:En}{A A1:Hx}{ws:List W}(h:q ρ A=.ok ws A1):mQ g q ρ A=g ws A1:=by unfold mQ;rw [h,zB]
theorem gA {q:jG}{ρ:En}{A A1:Hx}{ws:List W}(h:q ρ A=.ok ws A1):qO q ρ A=.ok (.ref A1.length) (A1++[.lst ws]):=by unfold qO;rw [h,zB]
theorem yM {m:Ev}{ρ:En}{A A1:Hx}{w:W}{ws:List W}(h:m ρ A=.ok w A1)(hs:zE w A1=some ws):zM m ρ A=.ok ws A1:=by unfold zM;rw [h,zB,hs]
open PySem PySem.Spec PyProof.Rows L2
inductive By (H:Hp)(h g:Heap)(e:Addr)(vs:Array Value):Prop
 | mk (T:Addr) (oT:Obj) (ts:Array Value) (h1:vs[1]? =some (.ref T)) (ne:T≠e) (ng:g.get? T=none) (nH:H T=none) (hT:h.get? T=some oT) (hd:oT.data=.fields ts) (h3:ts[3]? =some .none)
inductive wa (H:Hp)(h g:Heap)(e:Addr)(C:Value):Prop
 | mk (ng:g.get? e=none) (nH:H e=none) (oe:Obj) (vs:Array Value) (a0:Value) (he:h.get? e=some oe) (hc:oe.cls=C) (hd:oe.data=.fields vs) (h0:vs[0]? =some a0) (h1:vs[1]? =some .none∨By H h g e vs)
inductive Tr (h:Heap)(e:Addr):Prop
 | mk (oe:Obj) (vs:Array Value) (T:Addr) (he:h.get? e=some oe) (hd:oe.data=.fields vs) (h1:vs[1]? =some (.ref T))
section
variable {M:Model}{A:Around}{E:Value->Shared->Prop}{s:Shared}{env:Env}{outer:List Env}{L e:Addr}{C:Value}{H:Hp}{g:Heap}
theorem frames_at {base base':Heap}:∀{l:List Env},s.heap.FunFrames base l->(∀b∈qp l,base'.get? b=none)->s.heap.FunFrames base' l
 | [],_,_=>trivial
 | en::r,⟨hk,⟨L,o,hf,hn,ho,hd⟩,hr⟩,h=>⟨hk,⟨L,o,hf,h L (by unfold qp;rw [List.filterMap_cons,hf];exact List.mem_cons_self ..),ho,hd⟩,frames_at hr λ b hb=>h b (by
   unfold qp
   rw [List.filterMap_cons,hf]
   exact List.mem_cons_of_mem _ hb)⟩
theorem R6 {base:Heap}{Q:Unit->Shared->Prop}(hfr:A.frames=some (env::outer))(hf:env.frame=some L)(hl:s.heap.FunFrames base (env::outer))(x:wa H s.heap g e C)
  (tr:∀b u,H b=some u->∃o,s.heap.get? b=some o)(th:∀b o,g.get? b=some o->∃o',s.heap.get? b=some o')
  (hQ:∀h',(∀b o,s.heap.get? b=some o->b∉qp (env::outer)->((∃o',g.get? b=some o')∨∃u,H b=some u)->h'.get? b=some o)->(∀b o,s.heap.get? b=some o->b∈qp (env::outer)->∃sl,h'.get? b=some { o with slots:=sl })->
   wa H h' g e C->Tr h' e->Q () { s with heap:=h' }):wpAny M A (leaving env (.ref e)) Q E s:=by
 obtain ⟨hg,hH,oe,vs,a0,he,hc,hd,h0,h1⟩:=x
 have fin:∀(hid:List Addr),(∀b∈qp (env::outer),b∈hid)->(∀b∈hid,b∉qp (env::outer)->g.get? b=none/\H b=none)->∀h',Heap.LeftW (PySem.W.hideAll s.heap hid) (env::outer) e C a0 s.heap h'->Q () { s with heap:=h' }:=by
  intro hid hi1 hi2 h' ⟨st,ff,tr',us⟩
  refine hQ h' (λ b o hb nb hx=>?_) (λ b o hb mb=>?_) ?_ (by obtain ⟨oe',vs',T,oT,ts,he',_,hd',h1',_⟩:=tr';exact ⟨oe',vs',T,he',hd',h1'⟩)
  ·refine st b o (PySem.W.hideAll_get hid hb λ hm=>?_)
   obtain ⟨z1,z2⟩:=hi2 b hm nb
   rcases hx with ⟨o',q⟩ | ⟨u,q⟩
   ·rw [z1] at q;cases q
   ·rw [z2] at q;cases q
  ·obtain ⟨_,o',ho',hnf⟩:=hl.mem mb
   rw [hb] at ho';cases ho'
   exact us b o hb hnf
  ·obtain ⟨oe',vs',T,oT,ts,he',⟨hc',h0'⟩,hd',h1',hT0,hTe,hT,hdT,h3⟩:=tr'
   have nT:T∉qp (env::outer):=λ hm=>by
    obtain ⟨_,o',ho',hnf⟩:=hl.mem hm
    obtain ⟨sl,z⟩:=us T o' ho' hnf
    rw [hT] at z;cases z
    exact hnf ts hdT
   have both:g.get? T=none/\H T=none:=by
    cases q:s.heap.get? T with
    | some o=>
     by_cases hm:T∈hid
     ·exact hi2 T hm nT
     ·rw [PySem.W.hideAll_get hid q hm] at hT0;cases hT0
    | none=>
     constructor
     ·cases z:g.get? T with
      | none=>rfl
      | some o=>obtain ⟨o',z'⟩:=th T o z;rw [q] at z';cases z'
     ·cases z:H T with
      | none=>rfl
      | some u=>obtain ⟨o',z'⟩:=tr T u z;rw [q] at z';cases z'
   exact ⟨hg,hH,oe',vs',a0,he',hc',hd',h0',.inr ⟨T,oT,ts,h1',hTe,both.1,both.2,hT,hdT,h3⟩⟩
 have stay:∀hid:List Addr,(PySem.W.hideAll s.heap hid).StaysIn s.heap:=λ hid b o q=>PySem.W.of_hideAll hid q
 rcases h1 with h1 | ⟨T,oT,ts,h1,hTe,hgT,hHT,hT,hdT,h3⟩
 ·have hn:∀b∈e::qp (env::outer),(PySem.W.hideAll s.heap (e::qp (env::outer))).get? b=none:=λ b hb=>PySem.W.hideAll_none _ hb
  refine wpAny_leaving_firstW (base:=PySem.W.hideAll s.heap (e::qp (env::outer))) hfr (frames_at hl λ b hb=>hn b (List.mem_cons_of_mem _ hb)) hf he (stay _) (hn e (List.mem_cons_self ..)) hd h1 h0 ?_
  rw [hc]
  refine fin _ (λ b hb=>List.mem_cons_of_mem _ hb) λ b hb nb=>?_
  rcases List.mem_cons.mp hb with rfl | hb
  ·exact ⟨hg,hH⟩
  ·exact absurd hb nb
 ·have hn:∀b∈e::T::qp (env::outer),(PySem.W.hideAll s.heap (e::T::qp (env::outer))).get? b=none:=λ b hb=>PySem.W.hideAll_none _ hb
  refine wpAny_leaving_nextW (base:=PySem.W.hideAll s.heap (e::T::qp (env::outer))) hfr (frames_at hl λ b hb=>hn b (List.mem_cons_of_mem _ (List.mem_cons_of_mem _ hb))) hf
   ⟨oe,vs,T,oT,ts,he,⟨hc,h0⟩,hd,h1,hn T (List.mem_cons_of_mem _ (List.mem_cons_self ..)),hTe,hT,hdT,h3⟩ (stay _) (hn e (List.mem_cons_self ..)) ?_
  refine fin _ (λ b hb=>List.mem_cons_of_mem _ (List.mem_cons_of_mem _ hb)) λ b hb nb=>?_
  rcases List.mem_cons.mp hb with rfl | hb
  ·exact ⟨hg,hH⟩
  ·rcases List.mem_cons.mp hb with rfl | hb
   ·exact ⟨hgT,hHT⟩
   ·exact absurd hb nb
end
inductive MX (P:Program)(w:World)(outer:List Env)(H:Hp)(s:Shared)(E:XK)(e:Value)(s':Shared):Prop
 | mk (ea C:Addr) (H':Hp) (he:e=.ref ea) (os:s'.os=s.os) (b:AllBare s'.gens) (un:Un (qp outer) [] H H' s.heap s'.heap) (hk:zZ P w H' s'.heap) (ly:wa H' s'.heap s.heap ea (.ref C)) (tr:Tr s'.heap ea) (q:E (.ref C) none H')
noncomputable def wN (P:Program)(w:World):wM:=λ outer H s E e s'=>MX P w outer H s E e s'
theorem _root_.L2.qN.obj {P:Program}{w:World}{H:Hp}{h:Heap}{a:Addr}{o:HO}(x:qN P w H h a o):∃ob,h.get? a=some ob:=by
 cases o with
 | lst xs=>obtain ⟨_,_,_,_,e⟩:=x;exact ⟨_,e⟩
 | tup xs=>obtain ⟨_,_,_,o,e,_⟩:=x;exact ⟨o,e⟩
 | dK kvs=>obtain ⟨_,_,_,_,o,_,_,e,_⟩:=x;exact ⟨o,e⟩
 | dT kvs=>obtain ⟨_,_,_,_,o,_,_,e,_⟩:=x;exact ⟨o,e⟩
 | set S n=>obtain ⟨o,_,_,_,e,_⟩:=x;exact ⟨o,e⟩
 | ins C dx fs=>obtain ⟨_,_,_,e,_⟩:=x;exact ⟨_,e⟩
 | own y=>exact x
 | xd fs=>obtain ⟨_,⟨o,_,_,e,_⟩,_⟩:=x;exact ⟨o,e⟩
 | rng lo hi=>obtain ⟨_,_,_,e⟩:=x;exact ⟨_,e⟩
 | frz ob u=>exact ⟨ob,x.1⟩
 | tbl ps=>exact ⟨_,(show h.get? a=some _ from x)⟩
 | met f y=>exact ⟨_,(show h.get? a=some _ from x)⟩
 | ext φ=>exact x.2.1
theorem M7 {P:Program}{w:World}{K:Frag}{mg:Str->Option Value}{base:Heap}{N:List Str}{qual:Str}{scope:Scope}{f:Addr}{cd:Value}{A:Around}{outer:List Env}{s:Shared}{H:Hp}{E:XK}
  {pins:List (Addr × Obj)}{σ:St}{H':Hp}{s':Shared}{ea C:Addr}(I:Inv (wc (wN P w) P w K mg base N qual scope f cd A outer s H E) pins σ H' s')(x:wa H' s'.heap s.heap ea (.ref C))(hE:E (.ref C) none H'):
  (wc (wN P w) P w K mg base N qual scope f cd A outer s H E).xe (.ref ea) s':=by
 have bs:Un (qp outer) [] H H' s.heap s'.heap:=I.base
 have stk:∀b∈qp (envOfC qual scope s.heap.objs.size f cd::outer),H' b=none:=I.stkFree
 have hL:s.heap.get? s.heap.objs.size=none:=Heap.get?_none_of_le (Nat.le_refl _)
 have hfe:(envOfC qual scope s.heap.objs.size f cd).frame=some s.heap.objs.size:=rfl
 have mem:∀b,b∈qp (envOfC qual scope s.heap.objs.size f cd::outer)↔b=s.heap.objs.size∨b∈qp outer:=λ b=>by
  unfold qp
  rw [List.filterMap_cons,hfe]
  exact List.mem_cons
 show wpAny (model P w) (A.deeper (envOfC qual scope s.heap.objs.size f cd)) (leaving (envOfC qual scope s.heap.objs.size f cd) (.ref ea)) _ _ s'
 refine R6 (base:=base) (L:=s.heap.objs.size) I.ok.frames rfl I.stack x (λ b u e=>(I.hok b u e).obj) (λ b o e=>bs.there b o e (by simp)) λ h' k1 k2 x' tr'=>?_
 have nfr:∀b u,H' b=some u->b∉qp (envOfC qual scope s.heap.objs.size f cd::outer):=λ b u e hm=>by rw [stk b hm] at e;cases e
 refine ⟨ea,C,H',rfl,I.os,I.bare,⟨λ b o e n nb _=>?_,λ b o e n mb _=>?_,λ b o e n hx=>bs.free b o e n hx,λ b o e hx=>?_,bs.tups,bs.frzs,bs.tbls⟩,λ b u e=>?_,x',tr',hE⟩
 ·have nL:b≠s.heap.objs.size:=λ z=>by rw [z,hL] at e;cases e
  exact k1 b o (bs.keep b o e n nb (by simp)) (λ hm=>(mem b).mp hm |>.elim nL nb) (.inl ⟨o,e⟩)
 ·obtain ⟨sl,q⟩:=bs.slot b o e n mb (by simp)
  obtain ⟨sl',q'⟩:=k2 b _ q ((mem b).mpr (.inr mb))
  exact ⟨sl',q'⟩
 ·obtain ⟨o',q⟩:=bs.there b o e hx
  by_cases hm:b∈qp (envOfC qual scope s.heap.objs.size f cd::outer)
  ·obtain ⟨sl,z⟩:=k2 b o' q hm;exact ⟨_,z⟩
  ·exact ⟨o',k1 b o' q hm (.inl ⟨o,e⟩)⟩
 ·refine (I.hok b u e).stay (λ c v hc q=>?_) (λ _ q=>q) λ _ _ q=>q
  rcases hc with z | z
  ·rw [z] at q ⊢;exact k1 b v q (nfr b u e) (.inr ⟨u,e⟩)
  ·exact k1 c v q (nfr c _ z) (.inr ⟨_,z⟩)
theorem Ts {X:Cx}{pins:List (Addr × Obj)}{σ:St}{H:Hp}{s s':Shared}{E:XK}{e:Value}(I:Inv X pins σ H s)(h:wN X.prog X.w X.stack H s E e s')(g:Heap)(hg:∀b o,g.get? b=some o->∃o',s.heap.get? b=some o'):
  ∃ea C H',e=.ref ea/\Inv X pins σ H' s'/\wa H' s'.heap g ea (.ref C)/\Tr s'.heap ea/\E (.ref C) none H':=by
 obtain ⟨ea,C,H',rfl,os,bare,un,hok,x,tr,hE⟩:=h
 obtain ⟨hh,gg,d,t,os'⟩:=s'
 obtain rfl:os'=s.os:=os
 refine ⟨ea,C,H',rfl,I.call (h':=hh) (g':=gg) (d':=d) (t':=t) (ch:=[]) un hok bare (λ b z=>absurd z (by simp)),?_,tr,hE⟩
 have up:∀b,s.heap.get? b=none->g.get? b=none:=λ b n=>by
  cases z:g.get? b with
  | none=>rfl
  | some o=>obtain ⟨o',q⟩:=hg b o z;rw [n] at q;cases q
 obtain ⟨a1,a2,oe,vs,a0,b1,b2,b3,b4,b5⟩:=x
 refine ⟨up ea a1,a2,oe,vs,a0,b1,b2,b3,b4,?_⟩
 rcases b5 with b5 | ⟨T,oT,ts,c1,c2,c3,c4,c5,c6,c7⟩
 ·exact .inl b5
 ·exact .inr ⟨T,oT,ts,c1,c2,up T c3,c4,c5,c6,c7⟩
noncomputable def gi (K:Frag)(E:XK):XR:=λ x H=>∀Ca:Addr,yA K x (.ref Ca)->E (.ref Ca) none H
inductive WD (K:Frag)(n:Nat)(f:Fn)(vs:List V)(H:Hp)(Q:VK)(E:XK):Prop
 | mk (len:vs.length=n) (φ:List Addr) (A:Hx) (ws:List W) (S:zG K φ A H) (r:zF K φ H ws vs) (q:(f ws A).post (PB K φ H Q) (EB K φ H (gi K E)))
theorem WD.len {K:Frag}{n:Nat}{f:Fn}{vs:List V}{H:Hp}{Q:VK}{E:XK}(h:WD K n f vs H Q E):vs.length=n:=by cases h;assumption
inductive jj (P:Program)(w:World)(K:Frag)(mg:Str->Option Value)(base:Heap)(k:Nat)(x:Str)(n:Nat)(f:Fn):Prop
 | mk (fa:Addr) (fd:FuncData) (ps:List Str) (F:yt P w K mg base (wN P w) k fa fd ps (WD K n f)) (at_:mg x=some (.ref fa)) (kp:PySem.W.keepIn K (.ref fa)=true) (bi:Binds K fd ps [])
structure gf (X:Cx)(g:Heap)(xr:XR):Prop where
 th:∀pins σ H s,Inv X pins σ H s->∀b o,g.get? b=some o->∃o',s.heap.get? b=some o'
 out:∀pins σ H s ea C x,Inv X pins σ H s->wa H s.heap g ea (.ref C)->yA X.K x (.ref C)->xr x H->X.xe (.ref ea) s
theorem BJ {P:Program}{w:World}{K:Frag}{mg:Str->Option Value}{base:Heap}{N:List Str}{qual:Str}{scope:Scope}{f:Addr}{cd:Value}{A:Around}{outer:List Env}{s:Shared}{H:Hp}{E:XK}:
  gf (wc (wN P w) P w K mg base N qual scope f cd A outer s H E) s.heap (gi K E) where
 th:=λ pins σ H' s' I b o e=>(show Un (qp outer) [] H H' s.heap s'.heap from I.base).there b o e (by simp)
 out:=λ pins σ H' s' ea C x I ly c hx=>M7 I ly (hx C c)
section
variable {X:Cx}{g:Heap}{xr:XR}{e a b c:Expr}{es:List Expr}{m ma mb mc:Ev}{m1 m2:Ex}{pos:Pos}{st:Stmt}
noncomputable def Aa (K:Frag)(xr:XR):XK:=λ Cv _ H=>∃x Ca,Cv=.ref Ca/\yA K x (.ref Ca)/\xr x H
theorem gf.passes (x:gf X g xr):Passes (wN X.prog X.w) X (Aa X.K xr):=λ pins σ H s e s' I h=>by
 obtain ⟨ea,C,H',rfl,I',ly,_,nm,Ca,ec,c,hx⟩:=Ts I h g (x.th pins σ H s I)
 cases ec
 exact x.out pins σ H' s' ea C nm I' ly c hx
end
noncomputable def kB (n:Nat)(m:Ex):Fn:=λ ws A=>(m (ws.map some++List.replicate (n - ws.length) none) A).bind λ fl A1=>match fl with
 | .rt w=>.ok w A1
 | .nx _=>.ok .non A1
 | _=>.bad
section
variable {P:Program}{w:World}{K:Frag}{mg:Str->Option Value}{base:Heap}
end
inductive VN (C:Addr)(bmB:List Value)(newId:String)(h:Heap):Prop
 | mk (tl N nm q bs hdct sn sub ab col dd k0 k1 k2 k3 k5 mN:_) (obj:h.get? C=some (excClassObj nm q C N bs tl hdct sn sub ab col dd k0 k1 k2 k3 k5 newId)) (ns:h.Ns N mN) (init:mN "__init__" = none) (tail:OwnTail h bmB tl)
noncomputable def BW (d:Data):Option { c:ClassData // d=.cls c }:=match d with
 | .cls c=>some ⟨c,rfl⟩
 | _=>none
noncomputable def gc (K:Frag)(C:Addr)(bmB:List Value)(newId:String):Bool:=(K.lookup C).any λ o=>(BW o.data).any λ c=>
 o.cls==.type "type" && c.1.mro==.ref C::c.1.mro.tail&&o.slots.toList==[o.slots.toList.getD 0 none,o.slots.toList.getD 1 none,o.slots.toList.getD 2 none,o.slots.toList.getD 3 none,some (.builtin newId),o.slots.toList.getD 5 none]
  && c.1.hasDel==false&&PySem.W.tailIn K bmB c.1.mro.tail&&PySem.W.nsOkIn K c.1.ns&&PySem.W.nsIn K c.1.ns "__init__" == some none
theorem V0 {K:Frag}{h:Heap}{C:Addr}{bmB:List Value}{newId:String}(X:K.In h)(q:gc K C bmB newId=true):VN C bmB newId h:=by
 obtain ⟨⟨oc,dd,dat,⟨sl⟩⟩,ho,q⟩:=(Option.any_eq_true _ _).mp q
 obtain ⟨⟨⟨nm,bs,mro,ns,qn,hd,sn,sub,ab,col,del⟩,e0⟩,-,q⟩:=(Option.any_eq_true _ _).mp q
 simp only [Bool.and_eq_true,beq_iff_eq] at q
 obtain ⟨⟨⟨⟨⟨⟨e1,e2⟩,e3⟩,e4⟩,e5⟩,e6⟩,e7⟩:=q
 cases e0;cases e1;cases e4
 exact ⟨mro.tail,ns,nm,qn,bs,hd,sn,sub,ab,col,dd,_,_,_,_,_,_,X _ _ (by rw [ho,e2,e3];rfl),.of_isNs (PySem.W.isNs_of_in X e6),PySem.W.nsMap_none_of_in X e6 e7,PySem.W.tail_of_in X e5⟩
noncomputable def KW (x:Str)(mr:Ea):Ex:=λ ρ A=>(mr ρ A).bind λ _ A1=>.exc x A1
section
variable {X:Cx}{g:Heap}{xr:XR}{e:Expr}{es:List Expr}{mr:Ea}{x:Str}{np cpos pos:Pos}{C:Addr}{B newId initId:String}{bmB:List Value}{n:Nat}
theorem Ee {pins:List (Addr × Obj)}{σ:St}{H:Hp}{s:Shared}{h':Heap}{ea:Addr}{vs:List Value}(xo:gf X g xr)(I:Inv X pins σ H s)(m:Heap.MadeExcOf s.heap h' ea (.ref C) vs):
  Inv X pins σ H { s with heap:=h' }/\wa H h' g ea (.ref C):=by
 have nH:∀b,s.heap.get? b=none->H b=none:=λ b z=>by
  cases q:H b with
  | none=>rfl
  | some u=>obtain ⟨o,k⟩:=(I.hok b u q).obj;rw [z] at k;cases k
 have ng:∀b,s.heap.get? b=none->g.get? b=none:=λ b z=>by
  cases q:g.get? b with
  | none=>rfl
  | some o=>obtain ⟨o',k⟩:=xo.th pins σ H s I b o q;rw [z] at k;cases k
 obtain ⟨t,he,ht,ht'⟩:=m.there
 refine ⟨I.call' (s':={ s with heap:=h' }) (ch:=[]) rfl ⟨λ b o q _ _ _=>m.keeps b o q,λ b o q _ _ _=>⟨o.slots,m.keeps b o q⟩,λ b o q z _=>z,λ b o q _=>⟨o,m.keeps b o q⟩,λ _ _ q=>q,λ _ _ _ q=>q,λ b ps q=>⟨#[],by rw [Array.append_empty];exact q⟩⟩
  (λ b u q=>(I.hok b u q).stay (λ c v _ z=>m.keeps c v z) (λ _ z=>z) λ _ _ z=>z) I.bare (λ b z=>absurd z (by simp)),?_⟩
 exact ⟨ng ea m.new,nH ea m.new,_,_,_,he,rfl,rfl,rfl,.inl rfl⟩
theorem HD (xo:gf X g xr)(hc:yA X.K x (.ref C))(ex:gc X.K C bmB newId=true)(FB:ExcBaseFacts B newId initId bmB)(ha:SA X xr (e::es) mr)(hl:Zv mr n)(hn:n<=sizeLine:=by decide)(hg:Gl X x:=by rfl)(hcalm:X.calm=true:=by rfl)
  (hdb:(x==("__debug__" : Str))=false:=by decide)(he:starEach (e::es) X.env=(false,eval e X.env)::starEach es X.env:=by rfl)(hpl:(backTo cpos (starEach es X.env)).any (·.1)=false:=by rfl):
  SS X xr (.Raise (some (.Call (.Name x np) (e::es) [] cpos)) none pos) (KW x mr):=by
 intro pins s σ H D I ⟨φ,A,ρ,S,re,h⟩
 have hm:X.mg x=some (.ref C):=PySem.W.mg_of I.mod.kin I.mod.glob hc
 obtain ⟨tl,N,nm,q,bs,hdct,sn,sub,ab,col,dd,k0,k1,k2,k3,k5,mN,hC,hN,hni,T⟩:=V0 I.mod.kin ex
 refine wpAny_Raise_call_subT (C:=C) (nm:=nm) (q:=q) (N:=N) (bs:=bs) (bm:=tl) (hdct:=hdct) (sn:=sn) (sub:=sub) (ab:=ab) (col:=col) (dd:=dd) (k0:=k0) (k1:=k1) (k2:=k2) (k3:=k3) (k5:=k5)
  FB (mN:=mN) (T.hasType FB.hasBase) (I.ok.hd hcalm) (by rw [he];show (false || (backTo cpos (starEach es X.env)).any (·.1))=false;rw [hpl];rfl) hni (J1 I hg hm ⟨rfl,?_⟩ hdb)
 have h':=zV.mp h
 have hA:=ha cpos pins s σ H (λ vs H1=>vs.length<=sizeLine/\xr x H1) I ⟨φ,A,ρ,S,re,?_⟩
 ·rw [he] at hA ⊢
  refine Calls.evalArgs_plain (wpAny_mono hA (λ us s2 h2=>?_) λ _ _ y=>y)
  obtain ⟨vs,H2,I2,rv,hlen,hx⟩:=h2
  refine ⟨rfl,?_,I2.bk _ _ hC,hN.keeps I2.bk,T.keeps I2.bk,λ h3 ea m=>?_⟩
  ·rw [<- rv.length];exact hlen
  ·obtain ⟨I3,ly⟩:=Ee xo I2 m
   exact xo.out pins σ H2 _ ea C x I3 ly hc hx
 ·cases er:mr ρ A with
  | ok ws A1=>
   rw [er] at h'
   intro φ1 H1 vs l1 S1 q1
   refine ⟨?_,h' φ1 H1 l1 S1⟩
   rw [<- q1.length,hl ρ A ws A1 er]
   exact hn
  | exc y A1=>rw [er] at h';exact h'
  | bad=>rw [er] at h';exact h'
end
noncomputable def mJ:List Ev->Str->Ev
 | [],acc=>λ _ A=>.ok (.str acc) A
 | m::ms,acc=>λ ρ A=>(m ρ A).bind λ w A1=>match w with
  | .str y=>if (acc++y).length<=sizeLine then mJ ms (acc++y) ρ A1 else .bad
  | _=>.bad
section
variable {X:Cx}{xr:XR}{e v₁ v₂:Expr}{es:List Expr}{m m₁ m₂:Ev}{ms:List Ev}{pos:Pos}
inductive SJ (X:Cx)(xr:XR):List Expr->List Ev->Prop where
 | nil:SJ X xr [] []
 | cons {e:Expr} {es:List Expr} {m:Ev} {ms:List Ev} (h:SE X xr e m) (r:SJ X xr es ms):SJ X xr (e::es) (m::ms)
end
section
variable {M:Model}{A:Around}{E:Value->Shared->Prop}{s:Shared}{e C D:Addr}{oe:Obj}{bmB bmD:List Value}{newId newD:String}{Q:Bool->Shared->Prop}
noncomputable def Pj (h:Heap)(C D:Addr):Prop:=∃oC cd,h.get? C=some oC/\oC.data=.cls cd/\cd.mro.contains (.ref D)=true
theorem Mp (lc:VN C bmB newId s.heap)(ld:VN D bmD newD s.heap)(hbD:bmD.contains (.type "BaseException")=true)(he:s.heap.get? e=some oe)(hcls:oe.cls=.ref C)(up:Pj s.heap C D)(hq:Q true s):
  wpAny M A (excMatches (.ref e) (.ref D)) Q E s:=by
 obtain ⟨h,g,d,t,os⟩:=s
 obtain ⟨tl,N,nm,q,bs,hdct,sn,sub,ab,col,dd,k0,k1,k2,k3,k5,mN,hC,_,_,_⟩:=lc
 obtain ⟨tl2,N2,nm2,q2,bs2,hdct2,sn2,sub2,ab2,col2,dd2,l0,l1,l2,l3,l5,mN2,hD,_,_,T2⟩:=ld
 obtain ⟨oC,cd,hC',hd,hm⟩:=up
 rw [hC] at hC'
 cases hC'
 have hdd:(excClassObj nm q C N bs tl hdct sn sub ab col dd k0 k1 k2 k3 k5 newId).data=.cls cd:=hd
 unfold excClassObj at hdd
 cases hdd
 have hcB:(Value.ref D::tl2).contains (.type "BaseException")=true:=by rw [List.contains_cons,T2.hasType hbD,Bool.or_true]
 have hcC:(Value.ref C::tl).contains (.ref D)=true:=hm
 have f:=tc_notTuple
 unfold excMatches
 repeat (first | (with_reducible refine wpAny_loadPart_at he ?_;rw [hcls]) | with_reducible refine wpAny_loadPart_at hD ?_ | with_reducible refine wpAny_loadPart_at hC ?_ | (with_reducible refine wpAny_isSubtype_exc hD ?_;rw [hcB]) | (with_reducible refine wpAny_isSubtype_exc hC ?_;rw [hcC]) | wp_step)
 exact hq
end
section
variable {X:Cx}{pins:List (Addr × Obj)}{σ:St}{H0 H:Hp}{s0 s:Shared}{ea C L:Addr}{M:Model}{A:Around}{E:Value->Shared->Prop}
theorem landed {h':Heap}{T:Addr}{a0:Value}(I0:Inv X pins σ H0 s0)(I:Inv X pins σ H s)(x:wa H s.heap s0.heap ea (.ref C))(nT:s0.heap.get? T=none)(hT:H T=none)
  (th:∀b o,s0.heap.get? b=some o->∃o',s.heap.get? b=some o')
  (fl:Heap.FlyingW (PySem.W.hideAll s.heap (ea::T::qp X.stack)) X.stack ea (.ref C) a0 h')(us:s.heap.UpToSlots h'):
  Inv X pins σ H { s with heap:=h' }/\wa H h' s0.heap ea (.ref C)/\Tr h' ea/\∀b o,s0.heap.get? b=some o->∃o',h'.get? b=some o':=by
 obtain ⟨st,_,ff,oe,vs,T',oT,ts,he,⟨hcls,h0⟩,hd,h1,hnT,hTe,hT',hdT,h3⟩:=fl
 have ng:s0.heap.get? ea=none:=by cases x;assumption
 have nH:H ea=none:=by cases x;assumption
 have kept:∀b o,s.heap.get? b=some o->b∉qp X.stack->b≠ea->b≠T->h'.get? b=some o:=λ b o q n1 n2 n3=>st b o (PySem.W.hideAll_get _ q λ hm=>by
  rcases List.mem_cons.mp hm with z | hm
  ·exact n2 z
  rcases List.mem_cons.mp hm with z | hm
  ·exact n3 z
  ·exact n1 hm)
 have slot:∀b o,s.heap.get? b=some o->b∈qp X.stack->∃sl,h'.get? b=some { o with slots:=sl }:=λ b o q hm=>by
  obtain ⟨_,o',ho',hnf⟩:=I.stack.mem hm
  rw [q] at ho';cases ho'
  exact us b o q hnf
 have off:∀b u,H b=some u->b∉qp X.stack/\b≠ea/\b≠T:=λ b u q=>⟨λ hm=>(by rw [I.stkFree b hm] at q;cases q),λ z=>(by rw [z,nH] at q;cases q),λ z=>(by rw [z,hT] at q;cases q)⟩
 have ne:∀b o,s0.heap.get? b=some o->b≠ea/\b≠T:=λ b o q=>⟨λ z=>(by rw [z,ng] at q;cases q),λ z=>(by rw [z,nT] at q;cases q)⟩
 have any:∀b o o',s0.heap.get? b=some o'->s.heap.get? b=some o->∃sl,h'.get? b=some { o with slots:=sl }:=λ b o o' q0 q=>by
  by_cases hm:b∈qp X.stack
  ·exact slot b o q hm
  ·exact ⟨o.slots,kept b o q hm (ne b o' q0).1 (ne b o' q0).2⟩
 have cell:∀y c,X.env.cells.lookup y=some c->∀v,s.heap.IsCell c v->h'.IsCell c v:=λ y c e v ⟨o,ho,hd⟩=>by
  obtain ⟨_,o0,ho0,_⟩:=I0.cell y c e
  obtain ⟨sl,z⟩:=any c o o0 ho0 ho
  exact ⟨_,z,hd⟩
 have inv:Inv X pins σ H { s with heap:=h' }:=by
  refine ⟨I.ok,I.os,I.bare,⟨λ b o q n nf nx=>?_,λ b o q n hf nx=>?_,I.base.free,λ b o q nx=>?_,I.base.tups,I.base.frzs,I.base.tbls⟩,?_,λ y c e=>?_,I.free,I.freeC,λ p hp=>?_,λ b u q=>?_,I.len⟩
  ·have q1:=I.base.keep b o q n nf nx
   have q0:=I0.base.keep b o q n nf nx
   refine kept b o q1 (λ hm=>?_) (ne b o q0).1 (ne b o q0).2
   rcases List.mem_cons.mp (I.stkSub b hm) with z | z
   ·exact absurd (Nat.lt_of_lt_of_le (Heap.lt_size q) I.ok.above) (by rw [z];exact Nat.lt_irrefl _)
   ·exact nf z
  ·obtain ⟨sl,q1⟩:=I.base.slot b o q n hf nx
   obtain ⟨sl0,q0⟩:=I0.base.slot b o q n hf nx
   obtain ⟨sl',z⟩:=any b _ _ q0 q1
   exact ⟨sl',z⟩
  ·obtain ⟨o1,q1⟩:=I.base.there b o q nx
   obtain ⟨o0,q0⟩:=I0.base.there b o q nx
   obtain ⟨sl,z⟩:=any b o1 o0 q0 q1
   exact ⟨_,z⟩
  ·obtain ⟨m,⟨o,es,ep,ho,r⟩,k⟩:=I.loc
   obtain ⟨_,⟨o0,_,_,ho0,_⟩,_⟩:=I0.loc
   obtain ⟨sl,z⟩:=any _ o o0 ho0 ho
   refine ⟨m,⟨_,es,ep,z,r⟩,λ i y v e1 e2 e3=>?_⟩
   obtain ⟨u,ru,lk⟩:=k i y v e1 e2 e3
   refine ⟨u,ru,?_⟩
   rcases lk with lk | ⟨lk,c,ec,hc⟩
   ·exact .inl lk
   ·exact .inr ⟨lk,c,ec,cell y c ec _ hc⟩
  ·obtain ⟨v,hv⟩:=I.cell y c e
   exact ⟨v,cell y c e v hv⟩
  ·obtain ⟨p1,p2,p3,p4,p5⟩:=I.pin p hp
   have p0:=(I0.pin p hp).1
   refine ⟨kept _ _ p1 (λ hm=>?_) (ne _ _ p0).1 (ne _ _ p0).2,p2,p3,p4,p5⟩
   rcases List.mem_cons.mp (I.stkSub _ hm) with z | z
   ·exact p3 z
   ·exact p4 z
  ·refine (I.hok b u q).stay (λ c v hc z=>?_) (λ _ z=>z) λ _ _ z=>z
   rcases hc with e | e
   ·obtain ⟨n1,n2,n3⟩:=off b u q
    rw [e] at z ⊢
    exact kept b v z n1 n2 n3
   ·obtain ⟨n1,n2,n3⟩:=off c _ e
    exact kept c v z n1 n2 n3
 have both:s0.heap.get? T'=none/\H T'=none:=by
  cases q:s.heap.get? T' with
  | some o=>
   by_cases hm:T'∈ea::T::qp X.stack
   ·rcases List.mem_cons.mp hm with z | hm
    ·exact absurd z hTe
    rcases List.mem_cons.mp hm with z | hm
    ·rw [z];exact ⟨nT,hT⟩
    ·obtain ⟨sl,z⟩:=slot T' o q hm
     obtain ⟨_,o',ho',hnf⟩:=I.stack.mem hm
     rw [q] at ho';cases ho'
     rw [hT'] at z;cases z
     exact absurd hdT (hnf ts)
   ·rw [PySem.W.hideAll_get _ q hm] at hnT;cases hnT
  | none=>
   constructor
   ·cases z:s0.heap.get? T' with
    | none=>rfl
    | some o=>obtain ⟨o',k⟩:=th T' o z;rw [q] at k;cases k
   ·cases z:H T' with
    | none=>rfl
    | some u=>obtain ⟨o',k⟩:=(I.hok T' u z).obj;rw [q] at k;cases k
 exact ⟨inv,⟨ng,nH,oe,vs,a0,he,hcls,hd,h0,.inr ⟨T',oT,ts,h1,hTe,both.1,both.2,hT',hdT,h3⟩⟩,⟨oe,vs,T',he,hd,h1⟩,λ b o q=>by
  obtain ⟨o1,q1⟩:=th b o q
  obtain ⟨sl,z⟩:=any b o1 o q q1
  exact ⟨_,z⟩⟩
theorem flying (I:Inv X pins σ H s)(x:wa H s.heap s0.heap ea (.ref C))(tr:Tr s.heap ea):
  ∃T a0,s0.heap.get? T=none/\H T=none/\Heap.FlyingW (PySem.W.hideAll s.heap (ea::T::qp X.stack)) X.stack ea (.ref C) a0 s.heap:=by
 obtain ⟨hg,hH,oe,vs,a0,he,hc,hd,h0,h1⟩:=x
 obtain ⟨oe',vs',T',he',hd',h1'⟩:=tr
 rw [he] at he';cases he'
 rw [hd] at hd';cases hd'
 rcases h1 with h1 | ⟨T,oT,ts,h1,hTe,hgT,hHT,hT,hdT,h3⟩
 ·rw [h1] at h1';cases h1'
 ·have hn:∀b∈ea::T::qp X.stack,(PySem.W.hideAll s.heap (ea::T::qp X.stack)).get? b=none:=λ b hb=>PySem.W.hideAll_none _ hb
  exact ⟨T,a0,hgT,hHT,λ b o q=>PySem.W.of_hideAll _ q,hn ea (List.mem_cons_self ..),frames_at I.stack λ b hb=>hn b (List.mem_cons_of_mem _ (List.mem_cons_of_mem _ hb)),
   oe,vs,T,oT,ts,he,⟨hc,h0⟩,hd,h1,hn T (List.mem_cons_of_mem _ (List.mem_cons_self ..)),hTe,hT,hdT,h3⟩
end
noncomputable def Yo (oe:Obj):HO:=.frz oe (.own 0)
noncomputable def Qr (K:Frag)(C D:Addr):Bool:=match K.lookup C with
 | some ⟨_,_,.cls cd,_⟩=>cd.mro.contains (.ref D)
 | _=>false
theorem Bb {K:Frag}{h:Heap}{C D:Addr}(X:K.In h)(e:Qr K C D=true):Pj h C D:=by
 unfold Qr at e
 split at e
 ·rename_i ho
  exact ⟨_,_,X _ _ ho,rfl,e⟩
 ·cases e
section
variable {X:Cx}{pins:List (Addr × Obj)}{σ:St}{H0 H:Hp}{s0 s:Shared}{ea C L:Addr}
theorem Jo (I0:Inv X pins σ H0 s0)(I:Inv X pins σ H s)(x:wa H s.heap s0.heap ea (.ref C)):∃oe,oe.cls=.ref C/\H ea=none/\Inv X pins σ (upd H ea (Yo oe)) s:=by
 obtain ⟨ng,nH,oe,vs,a0,he,hc,_⟩:=x
 refine ⟨oe,hc,nH,?_⟩
 have ne:∀b o,s0.heap.get? b=some o->b≠ea:=λ b o q z=>by rw [z,ng] at q;cases q
 have at_:∀b,b≠ea->upd H ea (Yo oe) b=H b:=λ b n=>by unfold upd;exact if_neg n
 have nt:∀b u,H b=some u->upd H ea (Yo oe) b=some u:=λ b u q=>by
  rw [at_ b λ z=>by rw [z,nH] at q;cases q];exact q
 refine ⟨I.ok,I.os,I.bare,⟨I.base.keep,I.base.slot,λ b o q n nx=>?_,I.base.there,λ b xs q=>nt _ _ (I.base.tups b xs q),λ b o u q=>nt _ _ (I.base.frzs b o u q),λ b ps q=>?_⟩,I.loc,I.cell,?_,λ y c e=>?_,λ p hp=>?_,λ b u q=>?_,I.len⟩
 ·obtain ⟨o0,q0⟩:=I0.base.there b o q nx
  rw [at_ b (ne b o0 q0)]
  exact I.base.free b o q n nx
 ·obtain ⟨more,z⟩:=I.base.tbls b ps q
  exact ⟨more,nt _ _ z⟩
 ·obtain ⟨m,⟨o0,_,_,ho0,_⟩,_⟩:=I0.loc
  rw [at_ _ (ne _ o0 ho0)]
  exact I.free
 ·obtain ⟨v,o0,ho0,_⟩:=I0.cell y c e
  rw [at_ _ (ne _ o0 ho0)]
  exact I.freeC y c e
 ·obtain ⟨p1,p2,p3⟩:=I.pin p hp
  refine ⟨p1,?_,p3⟩
  rw [at_ _ (ne _ _ (I0.pin p hp).1)]
  exact p2
 ·by_cases z:b=ea
  ·subst z
   have:u=Yo oe:=by
    unfold upd at q
    rw [if_pos rfl] at q
    exact (Option.some.inj q).symm
   subst this
   exact ⟨he,⟨oe,he⟩⟩
  ·rw [at_ b z] at q
   exact (I.hok b u q).stay (λ _ _ _ z=>z) (λ c z=>nt c _ z) λ c xs z=>nt c _ z
noncomputable def Ew (X:Cx)(pins:List (Addr × Obj))(σ:St)(s0:Shared)(D:Addr)(k:Addr->Addr->Hp->Prop)(e:Value)(s:Shared):Prop:=
 ∃ea C H bmC newC,e=.ref ea/\Inv X pins σ H s/\wa H s.heap s0.heap ea (.ref C)/\Tr s.heap ea/\(∀b o,s0.heap.get? b=some o->∃o',s.heap.get? b=some o')/\Mi.gc X.K C bmC newC=true/\Qr X.K C D=true/\∀oe,oe.cls=.ref C->H ea=none->k ea C (upd H ea (Yo oe))
theorem DL {i:Nat}{xD n:Str}{D:Addr}{bmD:List Value}{newD:String}{body suite:List Stmt}{b₀:Stmt}{np hp pos:Pos}{Q:Flow->Shared->Prop}{k:Addr->Addr->Hp->Prop}
  (I0:Inv X pins σ H0 s0)(hst:X.stack=X.env::X.outer)(hL:X.env.frame=some L)(hD:yA X.K xD (.ref D))(exD:Mi.gc X.K D bmD newD=true)(hbD:bmD.contains (.type "BaseException")=true)
  (hN:X.N.Nodup)(hi:X.N[i]? =some n)(hx:Loc X.env.scope n)
  (hbody:wpAny (model X.prog X.w) X.A (execs body X.env) (λ f s1=>f=.next/\Q .next s1) (Ew X pins σ s0 D k) s0)
  (hsuite:∀ea C H s2,Inv X pins (σ.set i (some (.ref ea))) H s2->k ea C H->∀E',wpAny (model X.prog X.w) (X.A.mark (some (.ref ea))) (execs (b₀::suite) X.env)
   (λ f s4=>wpAny (model X.prog X.w) X.A (do bindName X.env n .none;unbindBehindTheSuite X.env n hp) (λ _ s5=>Q f s5) X.xe s4) E' s2)
  (hg:Gl X xD)(hdb:(xD==("__debug__" : Str))=false:=by decide)(hf:X.fn n=true∨X.env.scope.names.lookup n=some .local:=by first | exact .inl rfl | exact .inr rfl | assumption):
  wpAny (model X.prog X.w) X.A (exec (.Try body [.ExceptHandler (some (.Name xD np)) (some n) (b₀::suite) hp] [] [] pos) X.env) Q X.xe s0:=by
 refine wpAny_Try_except (wpAny_mono hbody (λ f s1 ⟨ef,q⟩=>?_) λ e s1 h=>?_)
 ·subst ef
  exact wpAny_execs_nil q
 obtain ⟨ea,C,H,bmC,newC,rfl,I,x,tr,th,exC,up,hk⟩:=h
 have hm:X.mg xD=some (.ref D):=PySem.W.mg_of I.mod.kin I.mod.glob hD
 obtain ⟨T,a0,nT,hT,fl⟩:=flying I x tr
 have hfr:X.A.frames=some (X.env::X.outer):=by rw [<- hst];exact I.ok.frames
 refine wpAny_looks_onW hfr hL (by rw [<- hst];exact fl) λ h₄ hh₄ us₄=>?_
 refine wpAny_landsW hh₄ λ h₅ fl₅ us₅=>?_
 obtain ⟨I5,x5,tr5,th5⟩:=landed I0 I x nT hT th (by rw [<- hst] at fl₅;exact fl₅) (us₄.trans us₅)
 obtain ⟨_,_,oe,_,_,he,hc,_⟩:=id x5
 refine wpAny_handleBy_cons (codeAny_handlers_test (Calls.Name_function_global I5.ok.kind hg (Calls.loadGlobal_global (by rw [I5.ok.glob];exact I5.mod.glob.keeps I5.bk) hm ?_) hdb)) (by intro q;cases q)
 refine Mp (s:={ s1 with heap:=h₅ }) (V0 I5.kIn exC) (V0 I5.kIn exD) hbD he hc (Bb I5.kIn up) ?_
 refine codeAny_handlers_suite_as ?_
 obtain ⟨T',a0',nT',hT',fl'⟩:=flying I5 x5 tr5
 refine lands_againW fl' λ h₆ fl₆ us₆=>?_
 obtain ⟨I6,x6,_,_⟩:=landed I0 I5 x5 nT' hT' th5 fl₆ us₆
 obtain ⟨of,hof,nea,I7⟩:=Jo I0 I6 x6
 exact QW (v:=.ref ea) I7 hN hi hx rfl (λ s7 I7=>hsuite ea C _ s7 I7 (hk of hof nea) _) hf
end
section
variable {X:Cx}{pins:List (Addr × Obj)}{σ:St}{H:Hp}{s:Shared}{M:Model}{A:Around}{E:Value->Shared->Prop}
theorem name_goes {i:Nat}{n:Str}{pos:Pos}{Q:Unit->Shared->Prop}(I:Inv X pins σ H s)(hN:X.N.Nodup)(hi:X.N[i]? =some n)(hk:X.env.scope.names.lookup n=some .local)
  (h:∀s',Inv X pins (σ.set i none) H s'->Q () s'):wpAny M A (do bindName X.env n .none;unbindBehindTheSuite X.env n pos) Q E s:=by
 obtain ⟨m,hn,hl⟩:=id I.loc
 have hiσ:i < σ.length:=by rw [I.len];exact (List.getElem?_eq_some_iff.mp hi).1
 refine wpAny_nameGoes_keeps hk hn (by rw [I.ok.kind];rfl) λ h' v hn' hs=>h _ ?_
 have old:∀b o,b≠X.env.locals->s.heap.get? b=some o->h'.get? b=some o:=λ b o n q=>(hs.2 b n).trans q
 have nl:∀{b:Addr} {u:HO},H b=some u->b≠X.env.locals:=λ q z=>by rw [z,I.free] at q;cases q
 have ab:∀{b:Addr} {k:Nat},b<k->k<=X.env.locals->b≠X.env.locals:=λ l g=>Nat.ne_of_lt (Nat.lt_of_lt_of_le l g)
 refine ⟨I.ok,I.os,I.bare,⟨λ b o e z hb hx=>?_,λ b o e z hb hx=>?_,I.base.free,λ b o e hx=>?_,I.base.tups,I.base.frzs,I.base.tbls⟩,⟨_,hn',λ j y v' e1 e2 e3=>?_⟩,λ y c e=>?_,I.free,I.freeC,λ p hp=>?_,λ b u q=>?_,by simpa using I.len⟩
 ·exact old b o (ab (Heap.lt_size e) I.ok.above) (I.base.keep b o e z hb hx)
 ·obtain ⟨sl,e1⟩:=I.base.slot b o e z hb hx
  exact ⟨sl,old b _ (ab (Heap.lt_size e) I.ok.above) e1⟩
 ·obtain ⟨o',e1⟩:=I.base.there b o e hx
  exact ⟨o',old b _ (ab (Heap.lt_size e) I.ok.above) e1⟩
 ·by_cases hj:j=i
  ·subst hj
   rw [List.getElem?_set_self hiσ] at e2
   cases e2
  ·rw [List.getElem?_set_ne (Ne.symm hj)] at e2
   obtain ⟨u',r',q⟩:=hl j y v' e1 e2 e3
   refine ⟨u',r',?_⟩
   rcases q with ⟨k,e⟩ | ⟨k,c,e,z⟩
   ·have:y≠n:=λ e=>hj (XF hN e1 (e ▸ hi))
    exact .inl ⟨k,by simp [this,e]⟩
   ·exact .inr ⟨k,c,e,z.sameBut hs (I.cne y c e)⟩
 ·obtain ⟨w',z⟩:=I.cell y c e
  exact ⟨w',z.sameBut hs (I.cne y c e)⟩
 ·obtain ⟨e,z,ne,nf,d⟩:=I.pin p hp
  exact ⟨old _ _ ne e,z,ne,nf,d⟩
 ·refine (I.hok b u q).stay (λ c v hc z=>old c v ?_ z) (λ _ z=>z) λ _ _ z=>z
  rcases hc with e | e
  ·rw [e];exact nl q
  ·exact nl e
theorem Mw {i j:Nat}{n y:Str}{ea:Addr}{np yp ap hp:Pos}{Q:Flow->Shared->Prop}{E':Value->Shared->Prop}(I:Inv X pins (σ.set i (some (.ref ea))) H s)(hN:X.N.Nodup)(hi:X.N[i]? =some n)(hj:X.N[j]? =some y)
  (hk:X.env.scope.names.lookup n=some .local)(hy:Loc X.env.scope y)(hq:∀s',Inv X pins (((σ.set i (some (.ref ea))).set j (some (.ref ea))).set i none) H s'->Q .next s')
  (hs:swapsWith (.Name n np) (some (.Name y yp)) ap.line X.env=pure false)(hf:X.fn y=true∨X.env.scope.names.lookup y=some .local)
  (hdb:(n==("__debug__" : Str))=false:=by decide):
  wpAny (model X.prog X.w) A (execs [.Assign [.Name y yp] (.Name n np) ap] X.env) (λ f s4=>wpAny (model X.prog X.w) X.A (do bindName X.env n .none;unbindBehindTheSuite X.env n hp) (λ _ s5=>Q f s5) X.xe s4) E' s:=by
 obtain ⟨m,hn,hl⟩:=I.loc
 have hiσ:i < σ.length:=by have:=I.len;rw [List.length_set] at this;rw [this];exact (List.getElem?_eq_some_iff.mp hi).1
 obtain ⟨u,r,l⟩:=hl i n (.ref ea) hi (List.getElem?_set_self hiσ) (.inl hk)
 obtain rfl:u=Value.ref ea:=r
 have hm:m n=some (.ref ea):=by
  rcases l with ⟨_,e⟩ | ⟨k | k,_⟩
  ·exact e
  ·rw [show X.env.kindOf n=some .local from hk] at k;cases k
  ·rw [show X.env.kindOf n=some .local from hk] at k;cases k
 refine wpAny_execs_cons (wpAny_Assign_Name (wpAny_Name (wpAny_loadName_local I.ok.kind hk hn hm ?_) hdb) hs)
 exact QW (v:=.ref ea) I hN hj hy rfl (λ s5 I5=>wpAny_execs_nil (name_goes I5 hN hi hk hq)) hf
end
end Mi
namespace Mi
open PySem PySem.W PySem.Spec PySem.Calls PyProof.Rows Builtin Builtin.ObjectAttr Builtin.Getset_descriptor
section
variable {prog:Program}{w:World}{A:Around}{E:Value->Shared->Prop}{s:Shared}{K:Frag}{x D:Addr}{name:Str}
theorem E8 {M:Model}{h:Heap}{a g:Value}(X:K.In h)(ha:findIn K (.ref D) name=some (some a))(hn:specialIn K a "__get__" = some (some g))(htk:takesIn K a=some true):Looks M h (find (.ref x) (.ref D) name) (.bind g a):=
 (looks_findIn (M:=M) X ha).andThen ((show Looks M h (getOf (some a)) (some g) from looks_specialIn X hn).andThen
  ((show Looks M h (dataDescriptor? (some a) (some g)) (some (g,a)) from (looks_takesIn (M:=M) X htk).andThen .now).andThen (Looks.tag .now)))
theorem Fu {tp:Value}{R:Result->Shared->Prop}(X:K.In s.heap)(L0:Looks (model prog w) s.heap (typeOf (.ref x)) (.ref D))(hm:mroIn K D (.type "object")=some true)(h:R (.ok (.ret (.ref D))) s):
  codeAny (model prog w) A (.call (.builtin "getset_descriptor.__get__") ⟨[.builtin "object.__class__",.ref x,tp],[]⟩) R s:=by
 obtain ⟨h0,g0,d0,t0,o0⟩:=s
 have Ls:=looks_mroIn (M:=model prog w) X hm
 have sl:=KF.slot_gs
 refine codeAny_call_builtin sl.plain KF.entry_gs (sl.check _ _ _ _ _ _ _ _ KF.type_class (KF.args_gs _ _ _) ?_)
 unfold «getset_descriptor.__get__» descrGet
 rw [dga_obj]
 refine wpAny_bind (wpAny_pure ?_)
 unfold descrGetter descrCheckInstance isInstance descrNameAndClass
 simp only [KF.owner_class]
 repeat lk
 refine And.intro (Code.quiet_builtin _ (by decide +kernel)) (codeAny_builtin KF.entry_class ?_)
 unfold «object.__class__» shownTypeOf
 repeat lk
 exact h
theorem MK {M:Model}{rest:List Value}{kw:List (Str × Value)}{Q:Unit->Shared->Prop}(X:K.In s.heap)(L0:Looks M s.heap (typeOf (.ref x)) (.ref D))(hm:mroIn K D (.type "BaseException")=some true)
  (ok:argsOk "BaseException.__getattribute__" ⟨.ref x::rest,kw⟩)(hQ:Q () s):wpAny M A (checkBuiltinCall "BaseException.__getattribute__" ⟨.ref x::rest,kw⟩) Q E s:=by
 have cut:splitId "BaseException.__getattribute__" = some ("BaseException", "__getattribute__"):=by first | rfl | decide +kernel
 have kinds:builtinKind "BaseException.__getattribute__" = some .slot∨builtinKind "BaseException.__getattribute__" = some .method:=by
  simp only [builtinKind,cut]
  first | exact .inl (by decide +kernel) | exact .inr (by decide +kernel)
 have Ls:=looks_mroIn (M:=M) X hm
 have rest':wpAny M A (match Manifest.signature? "BaseException.__getattribute__" with | some sig=>Bind.checkArgs "BaseException.__getattribute__" sig ⟨.ref x::rest,kw⟩ | none=>pure ()) Q E s:=wpAny_of_eq ok hQ
 rcases kinds with kd | kd
 all_goals
  unfold checkBuiltinCall
  rw [kd,cut]
  dsimp only
  unfold isInstance
  refine wpAny_bind (wpAny_bind (L0.at (Ls.at ?_)))
  exact rest'
theorem Nw {Q:Option Value->Shared->Prop}(hga:findIn K (.ref D) "__getattribute__" = some (some (.builtin "BaseException.__getattribute__")))(hgn:findIn K (.ref D) "__getattr__" = some none)
  (ha:findIn K (.ref D) "__class__" = some (some (.builtin "object.__class__")))
  (hn:specialIn K (.builtin "object.__class__") "__get__" = some (some (.builtin "getset_descriptor.__get__")))(htk:takesIn K (.builtin "object.__class__")=some true)(hm:mroIn K D (.type "object")=some true)(hm2:mroIn K D (.type "BaseException")=some true)
  (X:K.In s.heap)(L0:Looks (model prog w) s.heap (typeOf (.ref x)) (.ref D))(h:Q (some (.ref D)) { s with toks:=s.toks+1 }):wpAny (model prog w) A (getAttr? (.ref x) "__class__") Q E s:=by
 obtain ⟨hh,g,d,t,os⟩:=s
 have Lg:=looks_findIn (M:=model prog w) X hga
 have L2:=E8 (M:=model prog w) (x:=x) X ha hn htk
 have L3:=looks_findIn (M:=model prog w) X hgn
 unfold getAttr?;unfold getAttrBy?;unfold getAttrBy
 refine wpAny_bind (wpAny_mkText (wpAny_bind (wpAny_attempt (wpAny_holding (wpAny_bind (L0.at (wpAny_bind (Lg.at ?_))))))))
 show wpAny _ _ (getAttrByItsOwn (.ref x) (.str "__class__" t) (.ref D) (.builtin "BaseException.__getattribute__") false false) _ _ _
 unfold getAttrByItsOwn
 refine wpAny_bind ?_
 show wpAny _ _ (typeLookup (.ref D) "__getattr__") _ _ _
 refine L3.at (wpAny_bind (wpAny_attempt (wpAny_holding ?_)))
 show wpAny _ _ (bindSpecial (.builtin "BaseException.__getattribute__") (.ref x) >>= _) _ _ _
 refine wpAny_bind (wpAny_of_eq (F.excAttr_ValueError.ga.bind _) ?_)
 refine wpAny_call (codeAny_call_builtin F.excAttr_ValueError.ga.plain F.entry_bexc_ga (MK X L0 hm2 (F.args_bexc_ga _ _) ?_))
 unfold «object.__getattribute__»
 refine wpAny_bind (wpAny_of_eq (show slotArgs "__getattribute__" 1 ⟨[.ref x]++[.str "__class__" t],[]⟩=pure (.ref x,[.str "__class__" t]) from rfl) ?_)
 refine wpAny_bind (wpAny_of_eq (show attrName (.str "__class__" t)=pure ("__class__" : Str) from rfl) (wpAny_bind (L0.at (wpAny_bind (L2.at ?_)))))
 show wpAny _ _ (holding [Value.builtin "object.__class__"] (call (.builtin "getset_descriptor.__get__") [.builtin "object.__class__",.ref x,.ref D]) >>= ret) _ _ _
 refine wpAny_bind (wpAny_holding (wpAny_call (Fu (s:=⟨hh,g,d,t+1,os⟩) X L0 hm ?_)))
 refine wpAny_pure ?_
 exact handed_on rfl (wpAny_pure h)
end
noncomputable def K1 (x D:Addr)(h:Heap):Prop:=∃o,h.get? x=some o/\o.cls=.ref D
theorem K1.ty {x D:Addr}{M:Model}{h:Heap}(p:K1 x D h):Looks M h (typeOf (.ref x)) (.ref D):=by
 obtain ⟨o,ho,hc⟩:=p
 rw [<- hc]
 exact (Looks.ld ho).andThen .now
theorem IH {K:Frag}{x D:Addr}(hc:(clsIn K D).isSome=true)(hga:findIn K (.ref D) "__getattribute__" = some (some (.builtin "BaseException.__getattribute__")))(hgn:findIn K (.ref D) "__getattr__" = some none)(ha:findIn K (.ref D) "__class__" = some (some (.builtin "object.__class__")))
  (hn:specialIn K (.builtin "object.__class__") "__get__" = some (some (.builtin "getset_descriptor.__get__")))(htk:takesIn K (.builtin "object.__class__")=some true)(hm:mroIn K D (.type "object")=some true)(hm2:mroIn K D (.type "BaseException")=some true):
  KitX K (.ref x) (.ref D) (K1 x D) where
 ty:=λ _ _ _ p=>p.ty
 it:=λ _ _ X _=>by
  obtain ⟨cdD,hcD⟩:=Option.isSome_iff_exists.mp hc
  unfold clsIn at hcD
  split at hcD
  ·rename_i c' d' cd' sl' ho
   intro A' Q' E' s' k q
   unfold isType loadHead
   exact wpAny_bind (wpAny_loadPart (k _ _ (X D _ ho)) (wpAny_pure q))
  ·cases hcD
 ne:=λ _ tp dd its n sl X ht=>by
  obtain ⟨cdD,hcD⟩:=Option.isSome_iff_exists.mp hc
  rw [Bool.eq_false_iff]
  intro q
  cases Value.ref.inj (beq_iff_eq.mp q)
  unfold clsIn at hcD
  split at hcD
  ·rename_i ho
   cases (X _ _ ho).symm.trans ht
  ·cases hcD
 ca:=λ X p k=>Nw hga hgn ha hn htk hm hm2 X p.ty k
end Mi
namespace Mi
open PySem PySem.Spec PyProof.Rows L2
noncomputable def J4 (K:Frag)(C:Addr):Bool:=(PySem.W.clsIn K C).isSome&&(PySem.W.findIn K (.ref C) "__getattribute__" == some (some (.builtin "BaseException.__getattribute__")))&&(PySem.W.findIn K (.ref C) "__getattr__" == some none)&&(PySem.W.findIn K (.ref C) "__class__" == some (some (.builtin "object.__class__")))&&
 (PySem.W.specialIn K (.builtin "object.__class__") "__get__" == some (some (.builtin "getset_descriptor.__get__")))&&(PySem.W.takesIn K (.builtin "object.__class__")==some true)&&(PySem.W.mroIn K C (.type "object")==some true)&&(PySem.W.mroIn K C (.type "BaseException")==some true)
section
variable {X:Cx}{pins:List (Addr × Obj)}{σ:St}{H:Hp}{s:Shared}{A:Around}{E:Value->Shared->Prop}{Q:Value->Shared->Prop}{c:Value}{b:Bool}{ea C:Addr}
theorem DR {oe:Obj}{uo:HO}(I:Inv X pins σ H s)(e:H ea=some (.frz oe uo))(hoe:oe.cls=.ref C)(k:J4 X.K C=true)(q:PySem.W.kitOne X.K (.ref C) c=some b)(h:∀tk,Q (.bool b) { s with toks:=tk }):
  wpAny (model X.prog X.w) A (call (.builtin "isinstance") [.ref ea,c]) Q E s:=by
 have p:K1 ea C s.heap:=⟨oe,(show qN X.prog X.w H s.heap ea (.frz oe uo) from I.hok ea _ e).1,hoe⟩
 unfold J4 at k
 simp only [Bool.and_eq_true,beq_iff_eq] at k
 obtain ⟨⟨⟨⟨⟨⟨⟨k1,k2⟩,k22⟩,k3⟩,k4⟩,k5⟩,k6⟩,k7⟩:=k
 exact PySem.W.kia_one (IH k1 k2 k22 k3 k4 k5 k6 k7) I.kIn p q (λ z=>nomatch z) h
theorem EV (I:Inv X pins σ H s)(q:PySem.W.kitOne X.K (.type "NoneType") c=some b)(h:∀tk,Q (.bool b) { s with toks:=tk }):wpAny (model X.prog X.w) A (call (.builtin "isinstance") [.none,c]) Q E s:=
 TF I (x:=.non) rfl .non q h
end
noncomputable def g9 (P:Program)(w:World)(K:Frag)(mg:Str->Option Value)(base:Heap)(N:List Str)(qual:Str)(scope:Scope)(f:Addr)(cd:Value)(cl:List (Str × Addr))(A:Around)(outer:List Env)(s:Shared)(H:Hp)(E:XK):Cx where
 prog:=P
 w:=w
 K:=K
 mg:=mg
 base:=base
 A:=A.deeper (PySem.W.envX qual scope s.heap.objs.size f cd cl)
 N:=N
 s0:=s
 H0:=H
 env:=PySem.W.envX qual scope s.heap.objs.size f cd cl
 outer:=outer
 stack:=PySem.W.envX qual scope s.heap.objs.size f cd cl::outer
 ex:=[]
 calm:=true
 fn:=λ _=>false
 pn:=[]
 xe:=λ e s'=>wpAny (model P w) (A.deeper (PySem.W.envX qual scope s.heap.objs.size f cd cl)) (leaving (PySem.W.envX qual scope s.heap.objs.size f cd cl) e) (λ _ s''=>wN P w outer H s E e s'') (λ e' s''=>wN P w outer H s E e' s'') s'
section
variable {P:Program}{w:World}{K:Frag}{mg:Str->Option Value}{base:Heap}{N:List Str}{qual:Str}{scope:Scope}{f:Addr}{cd:Value}{cl:List (Str × Addr)}{A:Around}{outer:List Env}{s:Shared}{H:Hp}{E:XK}
theorem Lf {pins:List (Addr × Obj)}{σ:St}{H':Hp}{s':Shared}{ea C:Addr}(I:Inv (g9 P w K mg base N qual scope f cd cl A outer s H E) pins σ H' s')(x:wa H' s'.heap s.heap ea (.ref C))(hE:E (.ref C) none H'):
  (g9 P w K mg base N qual scope f cd cl A outer s H E).xe (.ref ea) s':=by
 have bs:Un (qp outer) [] H H' s.heap s'.heap:=I.base
 have stk:∀b∈qp (PySem.W.envX qual scope s.heap.objs.size f cd cl::outer),H' b=none:=I.stkFree
 have hL:s.heap.get? s.heap.objs.size=none:=Heap.get?_none_of_le (Nat.le_refl _)
 have hfe:(PySem.W.envX qual scope s.heap.objs.size f cd cl).frame=some s.heap.objs.size:=rfl
 have mem:∀b,b∈qp (PySem.W.envX qual scope s.heap.objs.size f cd cl::outer)↔b=s.heap.objs.size∨b∈qp outer:=λ b=>by
  unfold qp
  rw [List.filterMap_cons,hfe]
  exact List.mem_cons
 show wpAny (model P w) (A.deeper (PySem.W.envX qual scope s.heap.objs.size f cd cl)) (leaving (PySem.W.envX qual scope s.heap.objs.size f cd cl) (.ref ea)) _ _ s'
 refine R6 (base:=base) (L:=s.heap.objs.size) I.ok.frames rfl I.stack x (λ b u e=>(I.hok b u e).obj) (λ b o e=>bs.there b o e (by simp)) λ h' k1 k2 x' tr'=>?_
 have nfr:∀b u,H' b=some u->b∉qp (PySem.W.envX qual scope s.heap.objs.size f cd cl::outer):=λ b u e hm=>by rw [stk b hm] at e;cases e
 refine ⟨ea,C,H',rfl,I.os,I.bare,⟨λ b o e n nb _=>?_,λ b o e n mb _=>?_,λ b o e n hx=>bs.free b o e n hx,λ b o e hx=>?_,bs.tups,bs.frzs,bs.tbls⟩,λ b u e=>?_,x',tr',hE⟩
 ·have nL:b≠s.heap.objs.size:=λ z=>by rw [z,hL] at e;cases e
  exact k1 b o (bs.keep b o e n nb (by simp)) (λ hm=>(mem b).mp hm |>.elim nL nb) (.inl ⟨o,e⟩)
 ·obtain ⟨sl,q⟩:=bs.slot b o e n mb (by simp)
  obtain ⟨sl',q'⟩:=k2 b _ q ((mem b).mpr (.inr mb))
  exact ⟨sl',q'⟩
 ·obtain ⟨o',q⟩:=bs.there b o e hx
  by_cases hm:b∈qp (PySem.W.envX qual scope s.heap.objs.size f cd cl::outer)
  ·obtain ⟨sl,z⟩:=k2 b o' q hm;exact ⟨_,z⟩
  ·exact ⟨o',k1 b o' q hm (.inl ⟨o,e⟩)⟩
 ·refine (I.hok b u e).stay (λ c v hc q=>?_) (λ _ q=>q) λ _ _ q=>q
  rcases hc with z | z
  ·rw [z] at q ⊢;exact k1 b v q (nfr b u e) (.inr ⟨u,e⟩)
  ·exact k1 c v q (nfr c _ z) (.inr ⟨_,z⟩)
theorem C6:gf (g9 P w K mg base N qual scope f cd cl A outer s H E) s.heap (gi K E) where
 th:=λ pins σ H' s' I b o e=>(show Un (qp outer) [] H H' s.heap s'.heap from I.base).there b o e (by simp)
 out:=λ pins σ H' s' ea C x I ly c hx=>Lf I ly (hx C c)
structure XS (N:List Str)(sc:Scope):Prop where
 kind:sc.kind=.function
 co:sc.isCoroutine=false
 gen:sc.isGenerator=false
 nocell:∀y∈sc.names,y.2≠.cell
structure Kx (base:Heap)(N:List Str)(scope:Scope)(cl:List (Str × Addr))(vs:List V):Prop where
 len:vs.length=N.length
 inj:∀x y c,cl.lookup x=some c->cl.lookup y=some c->x=y
 has:∀x,scope.names.lookup x=some .free->∃c,cl.lookup x=some c
 cell:∀x c,cl.lookup x=some c->∃v,base.IsCell c v
 val:∀(i:Nat) (x:Str) (v:V),N[i]? =some x->vs[i]? =some v->∃c u,scope.names.lookup x=some .free/\cl.lookup x=some c/\base.IsCell c (some u)/\RelV v u
theorem Ff {vs:List V}{h1:Heap}{tk:Tok}(S:XS N scope)(hd:A.handled=none)(e0:Jx P w K mg base A outer s H)(C:Kx base N scope cl vs)(hns:∃m,h1.Ns s.heap.objs.size m)(hk:∀b o,s.heap.get? b=some o->h1.get? b=some o):
  Inv (g9 P w K mg base N qual scope f cd cl A outer s H E) [] (L2.start N vs) H { s with heap:=h1,toks:=tk }:=by
 have noA:∀b:Addr,b∉(g9 P w K mg base N qual scope f cd cl A outer s H E).ex:=λ b z=>absurd (show b∈([]:List Addr) from z) (by simp)
 have bk:∀c v,base.IsCell c v->h1.IsCell c v/\H c=none:=λ c v ⟨o,ho,hd⟩=>⟨⟨o,hk _ _ (e0.bs _ _ ho).1,hd⟩,(e0.bs _ _ ho).2⟩
 obtain ⟨m,hm⟩:=hns
 refine ⟨⟨e0.mod,S.kind,rfl,rfl,Nat.le_refl _,C.inj,λ y hy=>?_,λ y c z _=>(nomatch z),λ _=>hd,Around.frames_deeper e0.frames,.inr ⟨rfl,rfl⟩,λ b z=>absurd z (noA b),e0.bs,e0.bsz,λ b _ _=>noA b,λ b z=>absurd z (noA b),e0.funs,e0.frf⟩,
  rfl,e0.bare,Un.kept hk,⟨m,hm,λ i y v h1 h2 h3=>?_⟩,λ y c h=>?_,e0.hok.fresh (Nat.le_refl _),λ y c h=>?_,λ p hp=>absurd (show p∈([]:List (Addr × Obj)) from hp) (by simp),e0.hok.kept hk,?_⟩
 ·have hy:scope.names.lookup y=some .cell∨scope.names.lookup y=some .free:=hy
  rcases hy with hy | hy
  ·exact absurd rfl (S.nocell _ (PySem.mem_of_lookup hy))
  ·exact C.has y hy
 ·have hi:i<vs.length:=by
   unfold L2.start at h2
   by_cases hi:i<vs.length
   ·exact hi
   ·rw [List.getElem?_append_right (by simpa using hi)] at h2
    rw [List.getElem?_replicate] at h2
    split at h2<;>cases h2
  have ha:vs[i]? =some v:=by
   unfold L2.start at h2
   rw [List.getElem?_append_left (by simpa using hi),List.getElem?_map] at h2
   cases e:vs[i]? with
   | none=>rw [e] at h2;cases h2
   | some a=>rw [e] at h2;cases h2;rfl
  obtain ⟨c,u,k,e,z,r⟩:=C.val i y v h1 ha
  exact ⟨u,r,.inr ⟨.inr k,c,e,(bk _ _ z).1⟩⟩
 ·obtain ⟨v,z⟩:=C.cell y c h
  exact ⟨v,(bk _ _ z).1⟩
 ·obtain ⟨v,z⟩:=C.cell y c h
  exact (bk _ _ z).2
 ·unfold L2.start
  show _=N.length
  rw [List.length_append,List.length_map,List.length_replicate,C.len]
  omega
noncomputable def Ph (oc:Obj)(q:Str):Prop:=∃vs t,oc.data=.fields vs/\vs[1]? =some (.str q t)
theorem Dq {k:Nat}{name:Str}{params:Arguments}{body:Expr}{pm ctv:Value}{a c:Addr}{oc:Obj}{u uc:HO}{vs:List V}{m:Ev}(S:XS N scope)(C:Kx base N scope cl vs)(hoc:Ph oc qual)
  (hbody:∀(A:Around) (outer:List Env) (s:Shared) (H:Hp) (E:XK),jn k (A.deeper (PySem.W.envX qual scope s.heap.objs.size a (.ref c) cl))->gf (g9 P w K mg base N qual scope a (.ref c) cl A outer s H E) s.heap (gi K E)->
   SE (g9 P w K mg base N qual scope a (.ref c) cl A outer s H E) (gi K E) body m):
  yt P w K mg base (wN P w) (k+1) a (PySem.W.kla_fn name qual params body scope cl pm (.ref c) ctv) [] (λ us H Q E=>us=[]/\H a=some (.frz (PySem.W.kla_obj name qual params body scope cl pm c ctv) u)/\H c=some (.frz oc uc)/\
   ∃φ A ws,zG K φ A H/\zF K φ H ws vs/\(m (ws.map some) A).post (PB K φ H Q) (EB K φ H (gi K E))):=by
 refine ⟨λ us H Q E h=>by rw [h.1];rfl,λ A outer s H args us vs' Q E hr e0 hb r h=>?_⟩
 obtain ⟨rfl,h1,h2,φ,A1,ws,Sm,rv,hp⟩:=h
 cases r
 have ho:s.heap.get? a=some (PySem.W.kla_obj name qual params body scope cl pm c ctv):=(show qN P w H s.heap a (.frz _ u) from e0.hok a _ h1).1
 have hc:s.heap.get? c=some oc:=(show qN P w H s.heap c (.frz oc uc) from e0.hok c _ h2).1
 have lim:s.heap.NoLimit:=e0.mod.nolimit.keeps λ b o e=>(e0.bs b o e).1
 obtain ⟨vc,tc,hd1,hd2⟩:=hoc
 refine PySem.W.kla_callFunE hr.depth ho rfl S.co S.gen rfl ⟨c,oc,vc,tc,rfl,hc,hd1,hd2⟩ (hb _ _ _ _ ?_)
 refine wpAny_newFunctionEnv S.nocell (λ y hy=>absurd (show y∈([]:List (Str × Value)) from hy) (by simp)) (λ h₁ hns hsb=>⟨lim.fresh _ hsb,?_⟩) S.kind
 show codeAny _ _ (.expr body (PySem.W.envX qual scope s.heap.objs.size a (.ref c) cl)) _ _
 have hk₁:∀b o,s.heap.get? b=some o->h₁.get? b=some o:=λ b o e=>hsb.extBut b o (Nat.ne_of_lt (Heap.lt_size e)) (Heap.get?_push_of_some _ e)
 have I:∀tk,Inv (g9 P w K mg base N qual scope a (.ref c) cl A outer s H E) [] (L2.start N vs) H { s with heap:=h₁,toks:=tk }:=λ tk=>Ff S hr.hd e0 C ⟨_,hns⟩ hk₁
 refine PySem.W.kla_codeExpr (wpAny_mono (hbody A outer s H E (hr.deeper _) C6 [] _ (L2.start N vs) H Q (I _) ⟨φ,A1,_,Sm,RE.start (N:=N) rv,?_⟩) (λ v s' hv=>?_) λ _ _ y=>y)
 ·have:N.length - ws.length=0:=by rw [rv.length,C.len];omega
  rw [this,List.replicate_zero,List.append_nil]
  exact hp
 ·obtain ⟨x,H',J,rx,q⟩:=hv
  exact ⟨x,H',J.os,J.bare,J.base,J.hok,rx,q⟩
end
inductive CN (K:Frag)(a:Addr)(ob:Obj)(u:HO)(c:Addr)(oc:Obj)(uc:HO)(vs:List V)(g:Fn)(us:List V)(H:Hp)(Q:VK)(E:XK):Prop
 | mk (e:us=[]) (h1:H a=some (.frz ob u)) (h2:H c=some (.frz oc uc)) (φ:List Addr) (A:Hx) (ws:List W) (S:zG K φ A H) (r:zF K φ H ws vs) (q:(g ws A).post (PB K φ H Q) (EB K φ H (gi K E)))
noncomputable def Z3 (P:Program)(w:World)(K:Frag)(mg:Str->Option Value)(base:Heap)(j:Nat)(Pk:Obj->Addr->Obj->List V->Prop)(g:Fn):Prop:=
 ∀a ob u c oc uc vs,Pk ob c oc vs->(∃fd,ob.data=.func fd)/\∃fd,yt P w K mg base (wN P w) j a fd [] (CN K a ob u c oc uc vs g)/\∀s,BindsTo s fd ⟨[],[]⟩ []
open Classical in
noncomputable def Wr (i:Nat)(PG:Nat->Obj->Addr->Obj->List V->Prop)(lam:Nat->Fn):Ev:=λ ρ A=>match ρ[i]? with
 | some (some (.clo k ws P))=>if P=PG k then lam k ws A else .bad
 | _=>.bad
noncomputable def Yd (i j l:Nat)(cs:List Str)(PG:Nat->Obj->Addr->Obj->List V->Prop)(lam:Nat->Fn):Ex:=λ ρ A=>match Wr i PG lam ρ A with
 | .ok _ A1=>.ok (.nx ρ) A1
 | .exc x A1=>if cs.contains x then .ok (.nx (((ρ.set l (some (.xc x))).set j (some (.xc x))).set l none)) A1 else .bad
 | .bad=>.bad
section
variable {K:Frag}{φ:List Addr}{H:Hp}{ρ:En}{σ:St}
theorem RE.unset {i:Nat}(r:RE K φ H ρ σ):RE K φ H (ρ.set i none) (σ.set i none):=
 ⟨by simp [r.len],λ j u e=>by
  by_cases h:i=j
  ·subst h
   have hi:i < ρ.length:=by
    have:=(List.getElem?_eq_some_iff.mp e).1
    simpa using this
   rw [List.getElem?_set_self hi] at e
   cases e
  ·rw [List.getElem?_set_ne h] at e
   obtain ⟨x,h1,h2⟩:=r.get j u e
   exact ⟨x,by rw [List.getElem?_set_ne h];exact h1,h2⟩⟩
end
noncomputable def Oh (K:Frag)(φ:List Addr)(H:Hp)(ρ:En)(j l:Nat)(D0:Ends)(xn:Str)(A':Hx):Prop:=∀φ2 H2 σ2,Le K φ H φ2 H2->zG K φ2 A' H2->RE K φ2 H2 (((ρ.set l (some (.xc xn))).set j (some (.xc xn))).set l none) σ2->D0.nx σ2 H2
inductive Bn (K:Frag)(φ:List Addr)(H:Hp)(ρ:En)(j l:Nat)(D0:Ends)(ea C:Addr)(H':Hp):Prop
 | mk (xn:Str) (φ':List Addr) (A':Hx) (le:Le K φ H φ' H') (S:zG K φ' A' H') (rv:RV K φ' H' (.xc xn) (.ref ea)) (n:Oh K φ H ρ j l D0 xn A')
inductive BY (K:Frag)(φ:List Addr)(H:Hp)(ρ:En)(j l:Nat)(D0:Ends)(cs:List Str)(Cv:Value)(d:Option Addr)(H1:Hp):Prop
 | mk (xn:Str) (Ca:Addr) (e:Cv=.ref Ca) (hC:yA K xn (.ref Ca)) (hc:cs.contains xn=true) (φ1:List Addr) (A1:Hx) (le:Le K φ H φ1 H1) (S:zG K φ1 A1 H1) (n:Oh K φ H ρ j l D0 xn A1)
section
variable {X:Cx}{xr:XR}{L D:Addr}{i j l kk:Nat}{x n y xD:Str}{cs:List Str}{PG:Nat->Obj->Addr->Obj->List V->Prop}{lam:Nat->Fn}{bmD:List Value}{newD:String}{np cp ep dp yp np2 ap hp pos:Pos}
end
noncomputable def Ol (K:Frag)(f:Str->Option Bool)(cv:V):List V->Hp->VK->Prop:=λ xs H Q=>∃x,xs=[x,cv]/\((x=.non/\Q (.bl false) H)∨∃a oe uo C nm b,x=.ref a/\H a=some (.frz oe uo)/\oe.cls=.ref C/\yA K nm (.ref C)/\f nm=some b/\Q (.bl b) H)
structure J9 (K:Frag)(f:Str->Option Bool)(c:Value):Prop where
 non:PySem.W.kitOne K (.type "NoneType") c=some false
 exc:∀nm C b,f nm=some b->yA K nm (.ref C)->J4 K C=true/\PySem.W.kitOne K (.ref C) c=some b
noncomputable def qC (f:Str->Option Bool)(m:Ev):Ev:=λ ρ A=>(m ρ A).bind λ w A1=>match w with
 | .non=>.ok (.bl false) A1
 | .xc nm=>(match f nm with
  | some b=>.ok (.bl b) A1
  | none=>.bad)
 | _=>.bad
section
variable {X:Cx}{xr:XR}{e:Expr}{m:Ev}{pos p p':Pos}{f:Str->Option Bool}{x:Str}
theorem T5 {cv:V}{c:Value}(hc:J9 X.K f c)(rc:∀u,RelV cv u->u=c):yb X (.builtin "isinstance") (Ol X.K f cv):=by
 intro pins s σ H xs us Q I r h
 obtain ⟨x,rfl,h⟩:=h
 obtain ⟨u,u',rfl,ru,ru'⟩:=vals2 r
 cases rc _ ru'
 rcases h with ⟨rfl,q⟩ | ⟨a,oe,uo,C,nm,b,rfl,h1,h2,h3,h4,q⟩
 ·cases (show u=Value.none from ru)
  exact EV I hc.non λ tk=>⟨.bl false,H,I.tok tk,rfl,q⟩
 ·cases (show u=Value.ref a from ru)
  obtain ⟨k1,k2⟩:=hc.exc nm C b h4 h3
  exact DR I h1 h2 k1 k2 λ tk=>⟨.bl b,H,I.tok tk,rfl,q⟩
theorem qC.read {cv:V}{t2:TE}(h2:∀σ H Q,Q cv H->t2 σ H Q):∀σ H Q,tM X.K xr (qC f m) σ H Q->WB (Ol X.K f cv) (K9 (tM X.K xr m) (K9 t2 V8)) σ H Q:=by
 rintro σ H Q ⟨φ,A,ρ,S,re,h⟩
 refine tM.go S re (zV.mp h) λ w A1 φ1 H1 v h1 l1 S1 q1=>?_
 refine h2 σ H1 _ ?_
 cases w with
 | non=>
  obtain rfl:=q1
  exact ⟨.non,rfl,.inl ⟨rfl,h1 φ1 H1 _ l1 S1 rfl⟩⟩
 | xc nm=>
  dsimp only at h1
  cases ef:f nm with
  | none=>rw [ef] at h1;exact h1.elim
  | some b=>
   rw [ef] at h1
   obtain ⟨a,oe,u,C,rfl,z1,z2,z3⟩:=q1
   exact ⟨.ref a,rfl,.inr ⟨a,oe,u,C,nm,b,rfl,z1,z2,z3,ef,h1 φ1 H1 _ l1 S1 rfl⟩⟩
 | bl _=>exact h1.elim
 | int _=>exact h1.elim
 | str _=>exact h1.elim
 | tup _=>exact h1.elim
 | ref _=>exact h1.elim
 | clo _ _ _=>exact h1.elim
end
theorem Np {pos:Pos}{a b:Int}{c cv:Value}(l:List Value)(h:TriplesOk l)(e:codeAmong pos (l++[rawInt a,rawInt b,c])=some cv):codeAmong pos l=some cv∨cv=c:=by
 fun_induction TriplesOk l with
 | case1=>
  right
  simp only [List.nil_append,codeAmong,rawInt] at e
  split at e
  ·exact (Option.some.inj e).symm
  ·cases e
 | case2 a' t b' u x rest ih=>
  simp only [List.cons_append,codeAmong] at e ⊢
  split at e
  ·rename_i hc;rw [if_pos hc];exact .inl e
  ·rename_i hc;rw [if_neg hc];exact ih h e
 | case3 l h1 h2=>exact h.elim
noncomputable def BMain (mg:Str->Option Value)(base:Heap):Prop:=∃bm o,mg "__builtins__" = some (.ref bm)/\bm≠builtinsNs/\bm≠mainGlobals/\base.get? bm=some o/\o.cls=.type "module" /\ o.dict=some builtinsNs/\o.data=.plain
noncomputable def Ws (q:Str)(params:Arguments)(body:Expr)(scope:Scope)(clos:List (Str × Addr)):Obj->Addr->Obj->List V->Prop:=λ ob c oc _=>(∃pm ctv,ob=PySem.W.kla_obj "<lambda>" q params body scope clos pm c ctv)/\Ph oc q
noncomputable def yR (n:Nat)(q:Str)(P:Addr)(k:Nat)(PF:Obj->Addr->Obj->List V->Prop):Ev:=λ _ A=>match A[n]? with
 | some (.tab q' P')=>if q'=q/\P'=P then .ok (.clo k [] PF) A else .bad
 | _=>.bad
section
variable {X:Cx}{xr:XR}{n k:Nat}{q:Str}{P c:Addr}{params:Arguments}{body:Expr}{scope:Scope}{clos:List (Str × Addr)}{pos:Pos}
theorem Dj (hB:BMain X.mg X.base)(hcode:X.env.code=.ref c)(C:PySem.W.CodeHd X.base c P)(hcl:closureFor scope X.env=pure clos)(hq:X.env.qual ++ "<lambda>" = q)(hdef:defaultsOf params X.env=([],[]):=by rfl):
  SE X xr (.Lambda params body scope pos) (yR n q P k (Ws q params body scope clos)):=by
 intro pins s σ H Q I ⟨φ,A,ρ,S,re,h⟩
 unfold yR at h
 cases ei:A[n]? with
 | none=>rw [ei] at h;exact h.elim
 | some o=>
  rw [ei] at h
  cases o with
  | tab q' P'=>
   dsimp only at h
   by_cases hc:q'=q/\P'=P
   ·rw [if_pos hc] at h
    obtain ⟨rfl,rfl⟩:=hc
    obtain ⟨a,ha,eaP,ps,hH,tg⟩:=S.ob n _ ei
    subst eaP
    have hP:s.heap.get? a=some (PySem.W.tabObj ps):=(show qN X.prog X.w H s.heap a (.tbl ps) from I.hok a _ hH)
    have hg:s.heap.Ns mainGlobals X.mg:=I.mod.glob.keeps I.bk
    have hgP:mainGlobals≠a:=λ z=>by
     obtain ⟨o,es,ep,e,hd,_⟩:=hg
     rw [z,hP] at e;cases e;cases hd
    have hb:s.heap.BuiltinsAt X.mg a:=by
     obtain ⟨bm,o,b1,b2,b3,b4,b5⟩:=hB
     refine ⟨bm,o,b1,b2,b3,λ z=>?_,I.bk _ _ b4,b5⟩
     have:=(I.bs _ _ b4).2
     rw [z,hH] at this;cases this
    refine PySem.W.kla_eval hdef ?_
    rw [hq]
    have noA:∀b,s.heap.objs.size<=b->H b=none:=λ b hb=>I.hok.fresh hb
    cases hf:codeAmong pos ps.toList with
    | none=>
     refine PySem.W.kla_makeFunction (mg:=X.mg) hcl I.ok.glob hg hcode (C.keeps I.bk) hP tg.1 hf hgP hb λ c' ctv h' tk hx hge hlt hrec htb=>?_
     obtain ⟨c2,oc,vc,tc,ec,hoc,hd1,hd2⟩:=hrec
     cases ec
     generalize hob:PySem.W.kla_obj "<lambda>" q' params body scope clos ((X.mg "__name__").getD .none) c' ctv=ob
     have hPc:a<s.heap.objs.size:=Heap.lt_size hP
     have nPc:a≠c':=Nat.ne_of_lt (Nat.lt_of_lt_of_le hPc hge)
     have nPf:a≠h'.objs.size:=Nat.ne_of_lt (Nat.lt_trans (Nat.lt_of_lt_of_le hPc hge) hlt)
     have ncf:c'≠h'.objs.size:=Nat.ne_of_lt hlt
     have hsf:s.heap.objs.size<=h'.objs.size:=Nat.le_trans hge (Nat.le_of_lt hlt)
     have H0c:H c'=none:=noA c' hge
     have H0f:H h'.objs.size=none:=noA _ hsf
     have H1f:upd H c' (.frz oc (.own 0)) h'.objs.size=none:=by rw [qg (Ne.symm ncf)];exact H0f
     generalize hps:ps++#[rawInt pos.line,rawInt pos.col,.ref c']=ps' at htb
     have S1:=S.lay (u:=.frz oc (.own 0)) H0c
     have S2:=S1.lay (u:=.frz ob (.own 0)) H1f
     have fz:∀b o u,upd (upd H c' (.frz oc (.own 0))) h'.objs.size (.frz ob (.own 0)) b=some (.frz o u)->upd (upd (upd H c' (.frz oc (.own 0))) h'.objs.size (.frz ob (.own 0))) a (.tbl ps') b=some (.frz o u):=λ b o u e=>by
      rw [qg];exact e
      intro z
      rw [z,qg nPf,qg nPc,hH] at e
      cases e
     have fz0:∀b o u,H b=some (.frz o u)->upd (upd H c' (.frz oc (.own 0))) h'.objs.size (.frz ob (.own 0)) b=some (.frz o u):=λ b o u e=>by
      rw [qg (ko e H0f),qg (ko e H0c)];exact e
     have tg':Yk (upd (upd (upd H c' (.frz oc (.own 0))) h'.objs.size (.frz ob (.own 0))) a (.tbl ps')) q' ps':=by
      rw [<- hps]
      refine ⟨by rw [Array.toList_append];exact TriplesOk_snoc _ _ _ _ tg.1,λ pos' cv e=>?_⟩
      rw [Array.toList_append] at e
      rcases Np _ tg.1 e with e | e
      ·obtain ⟨c0,oc0,u0,vs0,t0,g1,g2,g3⟩:=tg.2 pos' cv e
       exact ⟨c0,oc0,u0,vs0,t0,g1,by rw [hps];exact fz _ _ _ (fz0 _ _ _ g2),g3⟩
      ·exact ⟨c',oc,.own 0,vc,tc,e,by rw [hps];exact fz _ _ _ (by rw [qg ncf,jA]),hd1,hd2⟩
     obtain ⟨l3,S3⟩:=S2.write (o:=.tab q' a) (o':=.tab q' a) ei rfl rfl ha (u:=.tbl ps') ⟨rfl,ps',jA,tg'⟩
     have l03:Le X.K φ H φ _:=((Le.new H0c).trans (Le.new H1f)).trans l3
     have set3:A.set n (.tab q' a)=A:=by
      apply List.ext_getElem?
      intro i
      by_cases hi:n=i
      ·subst hi
       rw [List.getElem?_set_self (List.getElem?_eq_some_iff.mp ei).1,ei]
      ·rw [List.getElem?_set_ne hi]
     rw [set3] at S3
     have eP:upd (upd (upd H c' (.frz oc (.own 0))) h'.objs.size (.frz ob (.own 0))) a (.tbl ps') a=some (.tbl ps'):=jA
     have ec:upd (upd (upd H c' (.frz oc (.own 0))) h'.objs.size (.frz ob (.own 0))) a (.tbl ps') c'=some (.frz oc (.own 0)):=by rw [qg (Ne.symm nPc),qg ncf,jA]
     have ef:upd (upd (upd H c' (.frz oc (.own 0))) h'.objs.size (.frz ob (.own 0))) a (.tbl ps') h'.objs.size=some (.frz ob (.own 0)):=by rw [qg (Ne.symm nPf),jA]
     have eo:∀b,b≠a->b≠c'->b≠h'.objs.size->upd (upd (upd H c' (.frz oc (.own 0))) h'.objs.size (.frz ob (.own 0))) a (.tbl ps') b=H b:=λ b n1 n2 n3=>by rw [qg n1,qg n3,qg n2]
     generalize upd (upd (upd H c' (.frz oc (.own 0))) h'.objs.size (.frz ob (.own 0))) a (.tbl ps')=H3 at S3 l03 eP ec ef eo
     have kp:∀b o,b≠a->s.heap.get? b=some o->(h'.push ob).get? b=some o:=λ b o n e=>Heap.get?_push_of_some _ (hx b o n e)
     have old:∀b o,s.heap.get? b=some o->b≠c'/\b≠h'.objs.size:=λ b o e=>⟨Nat.ne_of_lt (Nat.lt_of_lt_of_le (Heap.lt_size e) hge),Nat.ne_of_lt (Nat.lt_of_lt_of_le (Heap.lt_size e) hsf)⟩
     have nH:∀b u,H b=some u->b≠c'/\b≠h'.objs.size:=λ b u e=>⟨ko e H0c,ko e H0f⟩
     have gP:(h'.push ob).get? a=some (PySem.W.tabObj ps'):=Heap.get?_push_of_some _ htb
     have I3:Inv X pins σ H3 { s with heap:=h'.push ob,toks:=tk }:=by
      refine I.un ⟨λ b o e z hb _=>?_,λ b o e z hb _=>?_,λ b o e z _=>?_,λ b o e _=>?_,λ b xs e=>?_,λ b o u e=>?_,λ b qs e=>?_⟩ λ b u e=>?_
      ·exact kp b o (λ w=>by rw [w,hH] at z;cases z) e
      ·exact ⟨o.slots,kp b o (λ w=>by rw [w,hH] at z;cases z) e⟩
      ·rw [eo b (λ w=>by rw [w,hH] at z;cases z) (old b o e).1 (old b o e).2];exact z
      ·by_cases hb:b=a
       ·rw [hb];exact ⟨_,gP⟩
       ·exact ⟨o,kp b o hb e⟩
      ·rw [eo b (Yc e hH (by intro w;cases w)) (nH b _ e).1 (nH b _ e).2];exact e
      ·rw [eo b (Yc e hH (by intro w;cases w)) (nH b _ e).1 (nH b _ e).2];exact e
      ·by_cases hb:b=a
       ·subst hb
        rw [hH] at e;cases e
        exact ⟨_,by rw [eP,<- hps]⟩
       ·exact ⟨#[],by rw [eo b hb (nH b _ e).1 (nH b _ e).2,e];simp⟩
      ·by_cases h1:b=a
       ·subst h1
        rw [eP] at e;cases e
        exact gP
       ·by_cases h2:b=c'
        ·subst h2
         rw [ec] at e;cases e
         exact ⟨Heap.get?_push_of_some _ hoc,⟨_,Heap.get?_push_of_some _ hoc⟩⟩
        ·by_cases h3:b=h'.objs.size
         ·subst h3
          rw [ef] at e;cases e
          exact ⟨Heap.get?_push_size _ (by rw [<- hob];rfl),⟨_,Heap.get?_push_size _ (by rw [<- hob];rfl)⟩⟩
         ·rw [eo b h1 h2 h3] at e
          refine (I.hok b u e).stay (λ d v hd z=>kp d v ?_ z) (λ d z=>?_) λ d xs z=>?_
          ·rcases hd with w | w
           ·rw [w];exact h1
           ·exact Yc w hH (by intro w;cases w)
          ·rw [eo d (Yc z hH (by intro w;cases w)) (nH d _ z).1 (nH d _ z).2];exact z
          ·rw [eo d (Yc z hH (by intro w;cases w)) (nH d _ z).1 (nH d _ z).2];exact z
     exact ⟨.ref h'.objs.size,H3,I3,rfl,h φ H3 _ l03 S3 ⟨h'.objs.size,ob,.own 0,c',oc,.own 0,[],rfl,ef,ec,⟨⟨_,_,hob.symm⟩,vc,tc,hd1,hd2⟩,rfl⟩⟩
    | some cv=>
     obtain ⟨c',oc,u0,vc,tc,rfl,hHc,hd1,hd2⟩:=tg.2 pos cv hf
     refine PySem.W.kla_makeFunctionHit (mg:=X.mg) hcl I.ok.glob hg hcode (C.keeps I.bk) hP tg.1 hf hb λ ctv h' tk hx hsz=>?_
     generalize hob:({ cls:=.type "function",data:=.func (PySem.W.kla_fn "<lambda>" q' params body scope clos ((X.mg "__name__").getD .none) (.ref c') ctv) }:Obj)=ob
     have H0f:H h'.objs.size=none:=noA _ hsz
     have I3:Inv X pins σ (upd H h'.objs.size (.frz ob (.own 0))) { s with heap:=h'.push ob,toks:=tk }:=
      I.laid (λ b o e=>Heap.get?_push_of_some _ (hx b o e)) hsz ⟨Heap.get?_push_size _ (by rw [<- hob];rfl),⟨_,Heap.get?_push_size _ (by rw [<- hob];rfl)⟩⟩
     refine ⟨.ref h'.objs.size,_,I3,rfl,h φ _ _ (Le.new H0f) (S.lay H0f) ⟨h'.objs.size,ob,.own 0,c',oc,u0,[],rfl,jA,?_,⟨⟨_,_,hob.symm⟩,vc,tc,hd1,hd2⟩,rfl⟩⟩
     rw [qg (ko hHc H0f)];exact hHc
   ·rw [if_neg hc] at h;exact h.elim
  | _=>exact h.elim
end
section
variable {K:Frag}{X:Cx}{pos:Pos}
theorem RE.monoW {φ φ':List Addr}{H H':Hp}{ρ:En}{σ:St}(r:RE K φ H ρ σ)(l:gh K φ H φ' H'):RE K φ' H' ρ σ:=⟨r.len,λ i w e=>let ⟨v,h1,h2⟩:=r.get i w e;⟨v,h1,h2.monoW l⟩⟩
inductive Ab (G:List Addr->Hp->Prop)(K:Frag)(xr:XR)(m:Ev)(σ:St)(H:Hp)(Q:VK):Prop
 | mk (φ:List Addr) (A:Hx) (ρ:En) (S:zG K φ A H) (re:RE K φ H ρ σ) (g:G φ H) (h:(m ρ A).post (PB K φ H Q) (EB K φ H xr))
noncomputable def Oz (G:List Addr->Hp->Prop)(K:Frag)(xr:XR)(m:Ev):TE:=λ σ H Q=>Ab G K xr m σ H Q
inductive B0 (G:List Addr->Hp->Prop)(K:Frag)(em:Em)(D:Addr)(σ:St)(H:Hp)(Q:St->Hp->Prop):Prop
 | mk (φ:List Addr) (A:Hx) (ρ:En) (acc:List W) (ys:List V) (S:zG K φ A H) (re:RE K φ H ρ σ) (g:G φ H) (hD:H D=some (.lst ys)) (nD:∀k:Nat,φ[k]?≠some D) (rv:zF K φ H acc ys)
  (h:(em ρ acc A).post (Yz K D φ H Q) wg)
noncomputable def Uk (G:List Addr->Hp->Prop)(K:Frag)(em:Em):kQ:=λ D σ H Q=>B0 G K em D σ H Q
theorem FA {G:List Addr->Hp->Prop}{elt:Expr}{gens:List Comprehension}{sc:Scope}{d:Nat}{me:Ev}(hx:∀e s,X.xe e s->False)(he:PE X elt (Oz G X.K yC me))(hg:gens[d+1]? =none):ki X elt gens sc pos d (Uk G X.K (zJ me)):=
 ki.imp (T8 hx he hg) λ D σ H Q ⟨φ,A,ρ,acc,ys,S,re,g,hD,nD,ra,h⟩=>by
  refine ⟨φ,A,ρ,S,re,g,qo (JR (zV.mp h)) (λ w A1 h1 φ1 H1 v l1 S1 q1=>?_) λ _ _ z=>z⟩
  obtain ⟨d1,n1⟩:=l1.off hD nD
  by_cases hz:acc.length<zP
  ·rw [if_pos hz] at h1
   have hl:=ra.length
   refine ⟨ys,d1,?_,?_⟩
   ·rw [<- hl]
    have:sizeLine=16777216:=sizeLine_eq
    unfold zP at hz
    omega
   ·exact h1 φ1 _ σ _ (l1.toD.trans (j3.upd d1)) n1 (S1.off d1 n1) ⟨re.len,λ i w e=>let ⟨v,a,b⟩:=re.get i w e;⟨v,a,(b.mono l1).monoD (j3.upd d1)⟩⟩ jA
     (((ra.mono l1).monoD (j3.upd d1)).append (.one (q1.monoD (j3.upd d1))))
  ·rw [if_neg hz] at h1;exact h1.elim
theorem qt.readG {G:List Addr->Hp->Prop}{tw:Tg}{ifs:Ev}{em:Em}{j:jv}{J:It}{K:Frag}{D:Addr}{φ:List Addr}{A:Hx}{H:Hp}{ρ:En}{σ:St}{acc:List W}{ys:List V}{Q:St->Hp->Prop}{f:Nat}
  (gm:∀φ H φ' H',gh K φ H φ' H'->G φ H->G φ' H')(g:G φ H)(jr:ZC K φ H j J)
  (S:zG K φ A H)(re:RE K φ H ρ σ)(hD:H D=some (.lst ys))(nD:∀k:Nat,φ[k]?≠some D)(ra:zF K φ H acc ys)
  (h:(qt j tw ifs em f 0 ρ acc A).post (Yz K D φ H Q) wg):
  Jq J (tG K tw) (tT K yC ifs) (Uk G K em) D σ H Q:=by
 refine ⟨λ i f σ' H'=>Wz tw ifs em j K D φ H Q f i σ' H',
  ⟨f,φ,A,ρ,acc,ys,.refl,S,re,hD,nD,ra,h⟩,?_⟩
 rintro i f σ2 H2 ⟨φ2,A2,ρ2,acc2,ys2,l2,S2,re2,hD2,nD2,ra2,h2⟩
 obtain ⟨j1,j2⟩:=jr i φ2 H2 A2 ⟨l2.ex,l2.tp,l2.fz⟩ S2
 cases ej:j.at_ A2 i with
 | none=>cases f<;>(unfold qt at h2;rw [ej] at h2;exact h2.elim)
 | some o=>
  cases o with
  | none=>
   left
   refine ⟨j2 ej,?_⟩
   cases f<;>(unfold qt at h2;rw [ej] at h2;exact h2 φ2 H2 σ2 ys2 l2 nD2 S2 re2 hD2 ra2)
  | some w=>
   right
   obtain ⟨go,yl⟩:=j1 w ej
   cases f with
   | zero=>unfold qt at h2;rw [ej] at h2;exact h2.elim
   | succ f=>
    unfold qt at h2
    rw [ej] at h2
    refine ⟨go,λ σ' H'=>Wz tw ifs em j K D φ H Q f (i+1) σ' H',λ σ' H' z=>⟨f,Nat.lt_succ_self _,z⟩,λ x H3 y=>?_⟩
    obtain ⟨l3,S3,q3⟩:=yl x H3 y
    obtain ⟨hD3,nD3⟩:=l3.off hD2 nD2
    dsimp only at h2
    cases et:tw w ρ2 with
    | none=>rw [et] at h2;exact h2.elim
    | some ρ3=>
     rw [et] at h2
     refine ⟨φ2,A2,ρ2,w,ρ3,S3,re2.mono l3,q3,et,λ σ3 re3=>?_⟩
     refine tT.go S3 re3 (JR (zV.mp h2)) λ c A4 h4=>?_
     cases c with
     | bl k=>
      refine ⟨k,rfl,λ φ4 H4 l4 S4=>?_⟩
      obtain ⟨hD4,nD4⟩:=l4.off hD3 nD3
      have l04:=(l2.trans (l3.trans l4).toD)
      cases k with
      | true=>
       rw [if_pos rfl]
       refine ⟨φ4,A4,ρ3,acc2,ys2,S4,re3.mono l4,gm _ _ _ _ ⟨l04.ex,l04.tp,l04.fz⟩ g,hD4,nD4,ra2.mono (l3.trans l4),qo (zV.mp h4) (λ p A5 h5 φ5 H5 σ5 zs l5 n5 S5 re5 d5 r5=>?_) λ _ _ z=>z⟩
       exact ⟨φ5,A5,p.1,p.2,zs,l04.trans l5,S5,re5,d5,n5,r5,h5⟩
      | false=>
       rw [if_neg Bool.false_ne_true]
       exact ⟨φ4,A4,ρ3,acc2,ys2,l04,S4,re3.mono l4,hD4,nD4,ra2.mono (l3.trans l4),h4⟩
     | non=>cases h4
     | int _=>cases h4
     | str _=>cases h4
     | tup _=>cases h4
     | ref _=>cases h4
     | clo _ _ _=>cases h4
     | xc _=>cases h4
end
structure Lm where
 N:List Str
 idx:List Nat
 params:Arguments
 body:Expr
 scope:Scope
 m:Ev
noncomputable def wI:List Nat->En->Option (List W)
 | [],_=>some []
 | j::js,ρ=>match ρ[j]?,wI js ρ with
  | some (some w),some ws=>some (w::ws)
  | _,_=>none
noncomputable def Zx:List Nat->St->Option (List V)
 | [],_=>some []
 | j::js,σ=>match σ[j]?,Zx js σ with
  | some (some w),some ws=>some (w::ws)
  | _,_=>none
theorem Th {K:Frag}{φ:List Addr}{H:Hp}{ρ:En}{σ:St}(r:RE K φ H ρ σ):∀{js:List Nat} {ws:List W},wI js ρ=some ws->∃vs,Zx js σ=some vs/\zF K φ H ws vs
 | [],ws,e=>by cases e;exact ⟨[],rfl,.nil⟩
 | j::js,ws,e=>by
  unfold wI at e
  cases ej:ρ[j]? with
  | none=>rw [ej] at e;cases e
  | some ow=>cases ow with
   | none=>rw [ej] at e;cases e
   | some w=>
    rw [ej] at e
    cases er:wI js ρ with
    | none=>rw [er] at e;cases e
    | some ws'=>
     rw [er] at e
     cases e
     obtain ⟨v,h1,h2⟩:=r.get j w ej
     obtain ⟨vs,h3,h4⟩:=Th r er
     exact ⟨v::vs,by unfold Zx;rw [h1,h3],.cons h2 h4⟩
theorem T9 {σ:St}:∀{js:List Nat} {vs:List V},Zx js σ=some vs->vs.length=js.length/\∀(i:Nat) (v:V),vs[i]? =some v->∃j,js[i]? =some j/\σ[j]? =some (some v)
 | [],vs,e=>by cases e;exact ⟨rfl,λ i v h=>by simp at h⟩
 | j::js,vs,e=>by
  unfold Zx at e
  cases ej:σ[j]? with
  | none=>rw [ej] at e;cases e
  | some ow=>cases ow with
   | none=>rw [ej] at e;cases e
   | some w=>
    rw [ej] at e
    cases er:Zx js σ with
    | none=>rw [er] at e;cases e
    | some ws'=>
     rw [er] at e
     cases e
     obtain ⟨h1,h2⟩:=T9 er
     refine ⟨by simp [h1],λ i v h=>?_⟩
     cases i with
     | zero=>simp at h;subst h;exact ⟨j,by simp,ej⟩
     | succ i=>simp at h;obtain ⟨j',a,b⟩:=h2 i v h;exact ⟨j',by simpa using a,b⟩
noncomputable def yc (ls:List Lm)(k:Nat):Fn:=λ ws A=>match ls[k]? with
 | some t=>t.m (ws.map some) A
 | none=>.bad
noncomputable def gY (env:Env)(q:Str)(ls:List Lm)(k:Nat):Obj->Addr->Obj->List V->Prop:=λ ob c oc vs=>∃t,ls[k]? =some t/\Ws q t.params t.body t.scope (yN env t.scope.names []) ob c oc vs
noncomputable def WE (env:Env)(q:Str)(ls:List Lm)(σ:St)(k:Nat):Obj->Addr->Obj->List V->Prop:=λ ob c oc vs=>∃t,ls[k]? =some t/\Ws q t.params t.body t.scope (yN env t.scope.names []) ob c oc vs/\Zx t.idx σ=some vs
structure wC (P:Program)(w:World)(K:Frag)(mg:Str->Option Value)(j:Nat)(q:Str)(t:Lm):Prop where
 sc:XS t.N t.scope
 bind:∀(cl:List (Str × Addr)) (pm cdv ctv:Value),bindArgs (PySem.W.kla_fn "<lambda>" q t.params t.body t.scope cl pm cdv ctv) ⟨[],[]⟩=pure []
 body:∀(base:Heap) (cl:List (Str × Addr)) (a c:Addr) (A:Around) (outer:List Env) (s:Shared) (H:Hp) (E:XK),jn j (A.deeper (PySem.W.envX q t.scope s.heap.objs.size a (.ref c) cl))->gf (g9 P w K mg base t.N q t.scope a (.ref c) cl A outer s H E) s.heap (gi K E)->
  SE (g9 P w K mg base t.N q t.scope a (.ref c) cl A outer s H E) (gi K E) t.body t.m
section
variable {P:Program}{w:World}{K:Frag}{mg:Str->Option Value}{base:Heap}{j:Nat}{q:Str}{ls:List Lm}{env:Env}{σ:St}
theorem EU (hl:∀t∈ls,wC P w K mg j q t)(hc:∀t∈ls,∀vs,Zx t.idx σ=some vs->Kx base t.N t.scope (yN env t.scope.names []) vs)(k:Nat):Z3 P w K mg base (j+1) (WE env q ls σ k) (yc ls k):=by
 rintro a ob u c oc uc vs ⟨t,ht,⟨⟨pm,ctv,rfl⟩,hoc⟩,hv⟩
 have mt:t∈ls:=List.mem_of_getElem? ht
 have L:=hl t mt
 refine ⟨⟨_,rfl⟩,_,((Dq (name := "<lambda>") (params:=t.params) (body:=t.body) (pm:=pm) (ctv:=ctv) (a:=a) (c:=c) (u:=u) (uc:=uc) (m:=t.m) L.sc (hc t mt vs hv) hoc λ A outer s H E hr xo=>L.body base _ a c A outer s H E hr xo)).imp λ us H Q E h=>?_,λ s=>.of_eq (L.bind _ _ _ _)⟩
 obtain ⟨h1,h2,h3,φ,A,ws,S,r,h⟩:=h
 refine ⟨h1,h2,h3,φ,A,ws,S,r,?_⟩
 unfold yc at h
 rw [ht] at h
 exact h
end
noncomputable abbrev jJ:=Nat->Obj->Addr->Obj->List V->Prop
open Classical in
noncomputable def Zs (PG:jJ)(RF:Nat->List W->Hx->R W):Fn:=λ us A=>match us with
 | [.clo k ws P]=>if P=PG k then RF k ws A else .bad
 | _=>.bad
open Classical in
noncomputable def ZD (i:Nat)(PF:jJ)(ls:List Lm)(RF:Nat->List W->Hx->R W)(ρ0:En):Ev:=λ ρ A=>match ρ[i]? with
 | some (some (.clo k _ P))=>if P=PF k then (match ls[k]? with
  | some t=>(match wI t.idx ρ0 with
   | some ws=>RF k ws A
   | none=>.bad)
  | none=>.bad) else .bad
 | _=>.bad
structure Jt (X:Cx)(t:Lm):Prop where
 len:t.idx.length=t.N.length
 nm:∀(i:Nat) (x:Str) (j:Nat),t.N[i]? =some x->t.idx[i]? =some j->X.N[j]? =some x/\t.scope.names.lookup x=some .free
 free:∀y∈t.scope.names,y.2=.free->X.env.kindOf y.1=some .cell∨X.env.kindOf y.1=some .free
section
variable {X:Cx}{pins:List (Addr × Obj)}{σ:St}{H:Hp}{s:Shared}
theorem Ky (I:Inv X pins σ H s){t:Lm}(L:Jt X t){x:Str}{c:Addr}(h:(yN X.env t.scope.names []).lookup x=some c):X.env.cells.lookup x=some c:=by
 rcases Qd _ _ (PySem.mem_of_lookup h) with z | ⟨z,e⟩
 ·cases z
 ·obtain ⟨c',hc⟩:=I.ok.has x (L.free _ z rfl)
  rw [hc] at e ⊢
  exact congrArg some e.symm
theorem Ik (I:Inv X pins σ H s){base:Heap}(hb:∀x c v,X.env.cells.lookup x=some c->s.heap.IsCell c v->base.IsCell c v){t:Lm}(L:Jt X t){vs:List V}(hv:Zx t.idx σ=some vs):Kx base t.N t.scope (yN X.env t.scope.names []) vs:=by
 obtain ⟨v1,v2⟩:=T9 hv
 refine ⟨v1.trans L.len,λ x y c h1 h2=>I.ok.inj x y c (Ky I L h1) (Ky I L h2),λ x h=>?_,λ x c h=>?_,λ i x v h1 h2=>?_⟩
 ·exact Option.isSome_iff_exists.mp (Kj _ _ (.inl (PySem.mem_of_lookup h)))
 ·have e:=Ky I L h
  obtain ⟨v,z⟩:=I.cell x c e
  exact ⟨v,hb x c v e z⟩
 ·obtain ⟨j,e1,e2⟩:=v2 i v h2
  obtain ⟨e3,e4⟩:=L.nm i x j h1 e1
  have fr:=L.free _ (PySem.mem_of_lookup e4) rfl
  obtain ⟨m,hn,hl⟩:=I.loc
  obtain ⟨u,r,lk⟩:=hl j x v e3 e2 (.inr fr)
  obtain ⟨c,hc⟩:=Option.isSome_iff_exists.mp (Kj (env:=X.env) t.scope.names [] (.inl (PySem.mem_of_lookup e4)))
  have ec:=Ky I L hc
  rcases lk with ⟨z,_⟩ | ⟨_,c',hc',cell⟩
  ·exfalso
   rcases fr with k | k<;>(rw [k] at z;cases z)
  ·rw [ec] at hc'
   cases hc'
   exact ⟨c,u,e4,hc,hb x c _ ec cell,r⟩
theorem Sz (I:Inv X pins σ H s)(hfn:∀x,X.fn x=true){x:Str}{c:Addr}(e:X.env.cells.lookup x=some c):c∉qp X.stack:=λ hm=>by
 rcases List.mem_cons.mp (I.stkSub c hm) with z | z
 ·exact I.cne x c e z
 ·obtain ⟨_,o,ho,_⟩:=I.ok.funs.mem z
  exact absurd (Nat.lt_of_lt_of_le (Heap.lt_size ho) (I.ok.cab x c (hfn x) e)) (Nat.lt_irrefl _)
noncomputable def gK (base h:Heap)(cells:List (Str × Addr)):Heap:=PySem.W.hideAll h ((List.range h.objs.size).filter λ b=>(base.get? b).isNone&&!(cells.any λ p=>cells.lookup p.1==some b))
theorem TU {base h:Heap}{cells:List (Str × Addr)}{b:Addr}{o:Obj}(e:(gK base h cells).get? b=some o):h.get? b=some o/\((∃o',base.get? b=some o')∨∃x,cells.lookup x=some b):=by
 have e1:=PySem.W.of_hideAll _ e
 refine ⟨e1,?_⟩
 by_cases hm:b∈(List.range h.objs.size).filter λ b=>(base.get? b).isNone&&!(cells.any λ p=>cells.lookup p.1==some b)
 ·unfold gK at e
  rw [PySem.W.hideAll_none _ hm] at e
  cases e
 ·rw [List.mem_filter] at hm
  have hb:b∈List.range h.objs.size:=List.mem_range.mpr (Heap.lt_size e1)
  cases hg:base.get? b with
  | some o'=>exact .inl ⟨o',rfl⟩
  | none=>
   right
   by_cases hc:(cells.any λ p=>cells.lookup p.1==some b)=true
   ·obtain ⟨p,_,hp⟩:=List.any_eq_true.mp hc
    exact ⟨p.1,beq_iff_eq.mp hp⟩
   ·exact absurd ⟨hb,by rw [hg];simpa using hc⟩ hm
theorem Ml {base h:Heap}{cells:List (Str × Addr)}(k:∀b o,base.get? b=some o->h.get? b=some o){b:Addr}{o:Obj}(e:base.get? b=some o):(gK base h cells).get? b=some o:=
 PySem.W.hideAll_get _ (k b o e) λ hm=>by
  rw [List.mem_filter,e] at hm
  simp at hm
theorem MJ {base h:Heap}{cells:List (Str × Addr)}{x:Str}{c:Addr}{o:Obj}(l:cells.lookup x=some c)(e:h.get? c=some o):(gK base h cells).get? c=some o:=
 PySem.W.hideAll_get _ e λ hm=>by
  rw [List.mem_filter,Bool.and_eq_true,Bool.not_eq_true'] at hm
  have:=hm.2.2
  rw [List.any_eq_false] at this
  exact this _ (PySem.mem_of_lookup l) (by simpa using l)
variable {H3:Hp}{s3:Shared}{fp:List Addr}{N:List Str}{sc:Scope}{ls:List Lm}{j kk i:Nat}{q x f:Str}{ρ0:En}{RF:Nat->List W->Hx->R W}{p p2 pos:Pos}
theorem Ru (I3:Inv X pins σ H3 s3)(f3:∀b∈fp,yP X pins H3 b)(hfn:∀x,X.fn x=true)(hl:∀t∈ls,wC X.prog X.w X.K X.mg j q t)(hix:∀t∈ls,Jt X t)
  {pins':List (Addr × Obj)}{σ':St}{H':Hp}{s':Shared}(I':Inv (jg X N sc s3 H3 fp jK) pins' σ' H' s'):
  Jx X.prog X.w X.K X.mg (gK X.base s'.heap X.env.cells) X.A X.stack s' H'/\∀k,Z3 X.prog X.w X.K X.mg (gK X.base s'.heap X.env.cells) (j+1) (WE X.env q ls σ k) (yc ls k):=by
 have un:Un (qp X.stack) fp H3 H' s3.heap s'.heap:=I'.base
 have bk:∀b o,X.base.get? b=some o->s'.heap.get? b=some o:=λ b o e=>(show _ from I'.bk b o e)
 have cellk:∀y cc,X.env.cells.lookup y=some cc->∀o,s3.heap.get? cc=some o->s'.heap.get? cc=some o/\H' cc=none:=λ y cc e o ho=>
  have nfp:cc∉fp:=λ z=>(f3 cc z).2.2.2.2.1 y cc e rfl
  ⟨un.keep cc o ho (I3.freeC y cc e) (Sz I3 hfn e) nfp,un.free cc o ho (I3.freeC y cc e) nfp⟩
 have kb:∀b o,X.base.get? b=some o->(gK X.base s'.heap X.env.cells).get? b=some o:=λ b o e=>Ml bk e
 have md:Mod X.K X.mg (gK X.base s'.heap X.env.cells):=by
  obtain ⟨mb,b1,b2⟩:=I3.mod.blt
  exact ⟨I3.mod.kin.keeps kb,I3.mod.glob.keeps kb,⟨mb,b1.keeps kb,b2⟩,I3.mod.nolimit.keeps kb⟩
 have bs:∀b o,(gK X.base s'.heap X.env.cells).get? b=some o->s'.heap.get? b=some o/\H' b=none:=λ b o e=>by
  obtain ⟨e1,e2⟩:=TU e
  refine ⟨e1,?_⟩
  rcases e2 with ⟨o',e2⟩ | ⟨y,e2⟩
  ·exact (I'.bs b o' e2).2
  ·obtain ⟨vv,oo,ho,_⟩:=I3.cell y b e2
   exact (cellk y b e2 oo ho).2
 refine ⟨⟨I'.ok.frames,md,bs,Nat.le_of_eq (PySem.W.hideAll_size _ _),frames_at (show s'.heap.FunFrames X.base X.stack from I'.stack) λ b hb=>?_,I'.stkFree,I'.hok,I'.bare⟩,
  λ k=>EU hl (λ t ht vs hvs=>Ik I3 (λ y cc v e ⟨o,ho,hd⟩=>⟨o,MJ e (cellk y cc e o ho).1,hd⟩) (hix t ht) hvs) k⟩
 cases e:(gK X.base s'.heap X.env.cells).get? b with
 | none=>rfl
 | some o=>
  exfalso
  rcases (TU e).2 with ⟨o',e2⟩ | ⟨y,e2⟩
  ·have:=(I3.stack.mem hb).1
   rw [e2] at this;cases this
  ·exact Sz I3 hfn e2 hb
theorem Ft (I3:Inv X pins σ H3 s3)(f3:∀b∈fp,yP X pins H3 b)(hfn:∀x,X.fn x=true)(hl:∀t∈ls,wC X.prog X.w X.K X.mg j q t)(hix:∀t∈ls,Jt X t)
  (hR:∀base PG,(∀k,Z3 X.prog X.w X.K X.mg base (j+1) (PG k) (yc ls k))->zC X.prog X.w X.K X.mg base kk f 1 (Zs PG RF))(hr:jn kk X.A)
  (hi:N[i]? =some x)(hv:JD (relabel sc X.env) x)(hg:Gl (jg X N sc s3 H3 fp jK) f)(hdx:(x==("__debug__" : Str))=false:=by decide)(hcx:(x==("__classdict__" : Str))=false:=by decide)(hdf:(f==("__debug__" : Str))=false:=by decide)
  (he:starEach [.Name x p2] (jg X N sc s3 H3 fp jK).env=(false,eval (.Name x p2) (jg X N sc s3 H3 fp jK).env)::starEach [] (jg X N sc s3 H3 fp jK).env:=by rfl)(hpl:(backTo pos (starEach [] (jg X N sc s3 H3 fp jK).env)).any (·.1)=false:=by rfl):
  PE (jg X N sc s3 H3 fp jK) (.Call (.Name f p) [.Name x p2] [] pos) (Oz (λ φ H=>RE X.K φ H ρ0 σ) X.K yC (ZD i (gY X.env q ls) ls RF ρ0)):=by
 intro pins' s' σ' H' Q I' ⟨φ,A,ρ,S,re,re0,h⟩
 unfold ZD at h
 cases ei:ρ[i]? with
 | none=>rw [ei] at h;exact h.elim
 | some ow=>cases ow with
  | none=>rw [ei] at h;exact h.elim
  | some w0=>
   rw [ei] at h
   cases w0 with
   | clo k xs P=>
    dsimp only at h
    by_cases hP:P=gY X.env q ls k
    ·rw [if_pos hP] at h
     subst hP
     cases et:ls[k]? with
     | none=>rw [et] at h;exact h.elim
     | some t=>
      rw [et] at h
      dsimp only at h
      cases ec:wI t.idx ρ0 with
      | none=>rw [ec] at h;exact h.elim
      | some ws=>
       rw [ec] at h
       dsimp only at h
       obtain ⟨v,hv1,a,ob,u,c,oc,uc,vs0,rfl,g1,g2,⟨t',et',gp⟩,_⟩:=re.get i _ ei
       rw [et] at et';cases et'
       obtain ⟨vs,cv,rv⟩:=Th re0 ec
       obtain ⟨fa,fd,ps,F,hm,hk,hb⟩:=hR _ _ (Ru I3 f3 hfn hl hix I').2
       refine wpAny_Call_Name_kw (J1 I' hg hm ?_ hdf)
       refine PySem.W.callWith_K (h₀:=X.base) I3.mod.kin hk (qe (jk (R9 (X:=jg X N sc s3 H3 fp jK) hi hv hdx hcx) j6 he pos pins' s' σ' H' (λ vs' H1=>vs'=[.ref a]/\H1=H') I' ⟨.ref a,hv1,rfl,rfl⟩) λ us s1 ⟨vs',H1,I1,r1,ev,eh⟩=>⟨I1.kIn,?_⟩) he hpl
       subst ev
       subst eh
       obtain ⟨e0,hL⟩:=Ru I3 f3 hfn hl hix I1
       obtain ⟨fa',fd',ps',F',hm',hk',hb'⟩:=hR _ _ hL
       rw [hm] at hm'
       cases hm'
       have hsp:Yw X.K 1 (Zs (WE X.env q ls σ) RF) [.ref a] H1 Q E0:=by
        refine ⟨rfl,φ,A,[.clo k ws (WE X.env q ls σ k)],S,.one ⟨a,ob,u,c,oc,uc,vs,rfl,g1,g2,⟨t,et,gp,cv⟩,rv⟩,?_⟩
        unfold Zs
        dsimp only
        rw [if_pos rfl]
        exact qo h (λ _ _ z=>z) λ y A2 z φ2 H2 l2 S2=>(z φ2 H2 l2 S2).elim
       have hln:=F'.len _ _ _ _ hsp
       have hu:us.length=ps'.length:=by rw [<- r1.length];exact hln
       refine wpAny_call (codeAny_mono (F'.run X.A X.stack s1 H1 ⟨[]++us,[]⟩ us [.ref a] Q E0 hr e0 ?_ r1 hsp) λ r s2 hq=>?_)
       ·have:=hb' s1 us (show _ from I1.kIn) (by rw [List.append_nil];exact hu)
        rw [List.append_nil] at this
        exact this
       ·cases r with
        | error e=>exact False.elim hq
        | ok fl=>
         cases fl with
         | ret u1=>exact I1.after hq
         | next=>exact False.elim hq
         | brk=>exact False.elim hq
         | cont=>exact False.elim hq
    ·rw [if_neg hP] at h;exact h.elim
   | _=>exact h.elim
end
noncomputable def Qo (nl:Nat)(mi:Ei)(tw:Tg)(i:Nat)(PF:jJ)(ls:List Lm)(RF:Nat->List W->Hx->R W):jG:=λ ρ A=>zW nl [] mi tw (zi (.bl true)) (zJ (ZD i PF ls RF ρ)) ρ A
section
variable {X:Cx}{xr:XR}{N:List Str}{sc:Scope}{ls:List Lm}{j kk i nl:Nat}{q x f:Str}{RF:Nat->List W->Hx->R W}{p p2 p3 p4 pos:Pos}{iter:Expr}{mi:Ei}{tw:Tg}
end
theorem LH {P:Program}{w:World}{K:Frag}{mg mb:Str->Option Value}{k:Nat}{fa a Pt:Addr}{fd:FuncData}{x:Str}{sp:Sp}{s₁:Shared}{vs:List Value}{ns:List Int}
  (KX:K.In s₁.heap)(hns:s₁.heap.Ns mainGlobals mg)(hb:s₁.heap.Ns builtinsNs mb)(hbb:∀x:Str,x ≠ "__name__" -> mb x=bootBuiltins x)(hlim:s₁.heap.NoLimit)(hg:s₁.gens=#[])
  (ha:s₁.heap.get? a=some { cls:=.type "list",data:=.seq vs.toArray })(hi:IntsAre vs ns)(hl:ns.length<=sizeLine)(hr:jn k callerA)
  (hPt:s₁.heap.get? Pt=some (PySem.W.tabObj #[]))(hKP:K.lookup Pt=none)(hct:isCodeTable s₁.heap Pt)(hbm:BMain mg s₁.heap)
  (F:∀base:Heap,K.In base->base.Ns mainGlobals mg->BMain mg base->yt P w K mg base wK k fa fd [x] sp)(hbind:∀(s:Shared) (u:Value),BindsTo s fd ⟨[u],[]⟩ [(x,u)])
  (hsp:∀H:Hp,H Pt=some (.tbl #[])->JC K H a (ns.map V.int)->sp [.ref a] H (λ v _=>v=.bl true) λ _ _ _=>False):
  codeAny (model P w) callerA (.call (.ref fa) ⟨[.ref a],[]⟩) (λ r s'=>r=.ok (.ret (.bool true))/\OldK s₁.heap s'.heap/\s'.os=s₁.os/\AllBare s'.gens) s₁:=by
 have rv:=TC hi
 have lenV:=hi.length
 have naP:a≠Pt:=λ z=>by rw [z,hPt] at ha;cases ha
 have core:∀H:Hp,H Pt=some (.tbl #[])->JC K H a (ns.map V.int)->zZ P w H s₁.heap->(∀b,H b≠none->b=a∨b=Pt)->(∀u,H a=some u->K.lookup a=none/\∃o xs,u=.frz o (.lst xs))->
   codeAny (model P w) callerA (.call (.ref fa) ⟨[.ref a],[]⟩) (λ r s'=>r=.ok (.ret (.bool true))/\OldK s₁.heap s'.heap/\s'.os=s₁.os/\AllBare s'.gens) s₁:=by
  intro H hO hS hok hA hK
  have base_of:∀{b:Addr} {o:Obj},s₁.heap.get? b=some o->H b=none->(gX s₁.heap H).get? b=some o:=λ e n=>Hn e n
  have noA:∀{b:Addr} {o:Obj} {es:Array DictEntry} {ep:Nat},s₁.heap.get? b=some o->o.data=.dict es ep->H b=none:=λ {b o es ep} e d=>by
   cases q:H b with
   | none=>rfl
   | some u=>
    rcases hA b (by rw [q];simp) with z | z
    ·subst z
     rw [ha] at e;cases e
     have d':Data.seq vs.toArray _=Data.dict es ep:=d
     cases d'
    ·subst z
     rw [hPt] at e;cases e
     cases d
  have nsK:∀{b:Addr} {m:Str->Option Value},s₁.heap.Ns b m->(gX s₁.heap H).Ns b m:=λ {b m} ⟨o,es,ep,e,d,r⟩=>⟨o,es,ep,base_of e (noA e d),d,r⟩
  have hKb:K.In (gX s₁.heap H):=λ b o e=>base_of (KX b o e) (by
   cases q:H b with
   | none=>rfl
   | some u=>
    rcases hA b (by rw [q];simp) with z | z
    ·subst z
     rw [(hK u q).1] at e;cases e
    ·subst z
     rw [hKP] at e;cases e)
  have hBb:BMain mg (gX s₁.heap H):=by
   obtain ⟨bm,o,b1,b2,b3,b4,b5,b6,b7⟩:=hbm
   refine ⟨bm,o,b1,b2,b3,base_of b4 ?_,b5,b6,b7⟩
   cases q:H bm with
   | none=>rfl
   | some u=>
    rcases hA bm (by rw [q];simp) with z | z
    ·subst z
     rw [ha] at b4;cases b4
     exact absurd b5 (by intro q;injection q with q;exact absurd q (by decide))
    ·subst z
     rw [hPt] at b4;cases b4;cases b5
  have hM:Mod K mg (gX s₁.heap H):=⟨hKb,nsK hns,⟨mb,nsK hb,hbb⟩,let ⟨mc,h1,h2⟩:=hlim;⟨mc,nsK h1,h2⟩⟩
  have e0:Jx P w K mg (gX s₁.heap H) callerA [] s₁ H:=⟨rfl,hM,λ b o e=>F1 e,Nat.le_of_eq (MV _ _),trivial,λ b hb=>absurd (show b∈([]:List Addr) from hb) (by simp),hok,.of_eq hg⟩
  refine codeAny_mono ((F _ hKb (nsK hns) hBb).run callerA [] s₁ H ⟨[.ref a],[]⟩ [.ref a] [.ref a] _ _ hr e0 (hbind s₁ (.ref a)) (.cons rfl .nil) (hsp H hO hS)) λ r s' h=>?_
  cases r with
  | error e=>exact False.elim h
  | ok fl=>
   cases fl with
   | next=>exact False.elim h
   | brk=>exact False.elim h
   | cont=>exact False.elim h
   | ret u=>
    obtain ⟨v,H',os,bare,un,hok',r',q⟩:=h
    have q':v=.bl true:=q
    subst q'
    obtain rfl:u=Value.bool true:=r'
    refine ⟨rfl,⟨λ b o e=>?_,λ b o e=>un.there b o e (by simp)⟩,os,bare⟩
    cases q:H b with
    | none=>exact .inl (un.keep b o e q (by intro z;exact absurd (show b∈([]:List Addr) from z) (by simp)) (by simp))
    | some u=>
     rcases hA b (by rw [q];simp) with z | z
     ·subst z
      obtain ⟨ob,xs,rfl⟩:=(hK u q).2
      have z2:=un.frzs _ ob _ q
      obtain ⟨e1,_⟩:=hok _ _ q
      obtain ⟨e2,_⟩:=hok' _ _ z2
      rw [e] at e1;cases e1
      exact .inl e2
     ·subst z
      rw [hPt] at e;cases e
      obtain ⟨more,z2⟩:=un.tbls _ _ hO
      exact .inr (.inl ⟨hct,rfl,#[],more,rfl,hok' _ _ z2⟩)
 cases hk:K.lookup a with
 | some o=>
  have e:=KX a o hk
  rw [ha] at e
  cases e
  refine core (λ b=>if b=Pt then some (.tbl #[]) else none) (if_pos rfl) (.inr ⟨_,vs.toArray,_,hk,rfl,rfl,rfl,by rw [List.size_toArray,lenV];exact hl,by simpa using rv⟩) (λ b u z=>?_) (λ b z=>?_) λ u z=>?_
  ·by_cases hb:b=Pt
   ·have z':=(if_pos hb).symm.trans z
    cases z'
    rw [hb]
    exact hPt
   ·have z':=(if_neg hb).symm.trans z
    cases z'
  ·by_cases hb:b=Pt
   ·exact .inr hb
   ·exact absurd (if_neg hb) z
  ·have z':=(if_neg naP).symm.trans z
   cases z'
 | none=>
  refine core (λ b=>if b=Pt then some (.tbl #[]) else if b=a then some (.frz { cls:=.type "list",data:=.seq vs.toArray } (.lst (ns.map V.int))) else none) (if_pos rfl)
   (.inl ⟨{ cls:=.type "list",data:=.seq vs.toArray },(if_neg naP).trans (if_pos rfl)⟩) (λ b u z=>?_) (λ b z=>?_) λ u z=>?_
  ·by_cases hb:b=Pt
   ·have z':=(if_pos hb).symm.trans z
    cases z'
    rw [hb]
    exact hPt
   ·have z':=(if_neg hb).symm.trans z
    by_cases hb2:b=a
    ·have z2:=(if_pos hb2).symm.trans z'
     cases z2
     subst hb2
     exact ⟨ha,by rw [List.length_map];exact hl,vs,_,rv,ha⟩
    ·have z2:=(if_neg hb2).symm.trans z'
     cases z2
  ·by_cases hb:b=Pt
   ·exact .inr hb
   ·by_cases hb2:b=a
    ·exact .inl hb2
    ·exact absurd ((if_neg hb).trans (if_neg hb2)) z
  ·have z':=((if_neg naP).trans (if_pos rfl)).symm.trans z
   cases z'
   exact ⟨hk,_,_,rfl⟩
inductive spT (K:Frag)(n:Nat)(fs:jJ->Fn)(vs:List V)(H:Hp)(Q:VK)(E:XK):Prop
 | mk (len:vs.length=n) (φ:List Addr) (A:Hx) (ws:List W) (S:zG K φ A H) (r:zF K φ H ws vs) (q:∀PF,(fs PF ws A).post (PB K φ H Q) (EB K φ H (XE K E)))
theorem spT.len {K:Frag}{n:Nat}{fs:jJ->Fn}{vs:List V}{H:Hp}{Q:VK}{E:XK}(h:spT K n fs vs H Q E):vs.length=n:=by cases h;assumption
noncomputable def RZ (q:Str)(fs:Addr->jJ->Fn):Prop:=∀ns:List Int,ns.length<=63->∀Pt PF,∃A,fs Pt PF [.ref 0] [.ro (ns.map W.int),.tab q Pt]=.ok (.bl true) A
theorem MB {K:Frag}{H:Hp}{a Pt:Addr}{q:Str}{ns:List Int}(hP:H Pt=some (.tbl #[]))(hS:JC K H a (ns.map V.int)):zG K [a,Pt] [.ro (ns.map W.int),.tab q Pt] H:=by
 refine ⟨rfl,λ i j b o o' h1 h2 h3 h4 m1 m2=>?_,λ n o h=>?_⟩
 ·match i,j,h3,h4 with
  | 0,_,h3,_=>simp at h3;subst h3;cases m1
  | _,0,_,h4=>simp at h4;subst h4;cases m2
  | 1,1,_,_=>rfl
  | i+2,_,h3,_=>simp at h3
  | _,j+2,_,h4=>simp at h4
 ·match n,h with
  | 0,h=>simp at h;subst h;exact ⟨a,rfl,ns.map V.int,hS,zF.ints.mpr rfl⟩
  | 1,h=>simp at h;subst h;exact ⟨Pt,rfl,rfl,#[],hP,trivial,λ pos cv e=>nomatch e⟩
  | n+2,h=>simp at h
section
variable {P:Program}{w:World}{K:Frag}{mg:Str->Option Value}{base:Heap}
theorem Il {x:Str}{f c Pt:Addr}{oc:Value}{od:Option Addr}{fd:FuncData}{osl:Array (Option Value)}(hn:PySem.W.nsIn K mainGlobals x=some (some (.ref f)))(lk:K.lookup f=some ⟨oc,od,.func fd,osl⟩)(ht:PySem.W.tabIn K x=some (c,Pt)):fd.code=.ref c:=by
 unfold PySem.W.tabIn at ht
 rw [hn] at ht
 dsimp only at ht
 rw [lk] at ht
 dsimp only at ht
 split at ht
 ·rename_i c2 hc
  split at ht
  ·split at ht
   ·cases ht;exact hc
   ·cases ht
  ·cases ht
 ·cases ht
end
noncomputable def Vv (K:Frag)(x:Str)(Pt:Addr):Bool:=match PySem.W.tabIn K x with
 | some (c,P)=>P==Pt&&PySem.W.codeHdIn K c Pt
 | none=>false
theorem TJ {K:Frag}{x:Str}{Pt:Addr}(h:Vv K x Pt=true):∃c,PySem.W.tabIn K x=some (c,Pt)/\PySem.W.codeHdIn K c Pt=true:=by
 unfold Vv at h
 split at h
 ·rename_i c P e
  rw [Bool.and_eq_true,beq_iff_eq] at h
  obtain ⟨rfl,h2⟩:=h
  exact ⟨c,e,h2⟩
 ·cases h
theorem Bd {l:PySem.W.OpenLaw}{k:Nat}{q:Program}{loose:List Str}{XP:(Str->Option Value)->Heap->Prop}{YP:World->Heap->Prop}{d:DefRec}{Kp:Params->Frag}{x qn:Str}{fs:Addr->jJ->Fn}{Pt:Addr}(ok:RZ qn fs)
  (hn:l.most=some 63)(hdf:d.params.defaults=[])(hr:jn k callerA)(hY:∀(w:World) (h:Heap),YP w h->(Kp w.params).In h)(hT:∀(w:World) (h:Heap),YP w h->h.get? Pt=some (PySem.W.tabObj #[]))(ht:∀p,Vv (Kp p) d.name Pt=true)(hKP:∀p,(Kp p).lookup Pt=none)
  (F:∀(w:World) (mg:Str->Option Value) (fa:Addr) (h:Heap),(Kp w.params).In h->h.Ns mainGlobals mg->mg d.name=some (.ref fa)->(∃c,PySem.W.tabIn (Kp w.params) d.name=some (c,Pt)/\PySem.W.codeHdIn (Kp w.params) c Pt=true)->
   ∃fd:FuncData,(∀(s:Shared) (u:Value),BindsTo s fd ⟨[u],[]⟩ [(x,u)])/\∀base:Heap,(Kp w.params).In base->base.Ns mainGlobals mg->BMain mg base->yt l.prog w (Kp w.params) mg base wK k fa fd [x] (spT (Kp w.params) 1 (fs Pt))):
  PySem.W.WalkO q loose XP YP l.row.toRowW d [] (λ f vs=>PySem.call f vs):=by
 refine Att.Mb (n:=63) hn hdf λ w s₀ s₁ mg mb fa o pm cd doc a vs ns G Y ho hd hcd' hmg hobj hints hlen hg=>?_
 have KX:=hY w _ Y
 obtain ⟨fd,hb,hF⟩:=F w mg fa _ KX G.T.g hmg (TJ (ht w.params))
 obtain ⟨c,_,hcd⟩:=TJ (ht w.params)
 have hP:=hT w _ Y
 have hc:isCodeTable s₁.heap Pt:=((PySem.W.codeHd_of_K KX hcd).tab hP).isCodeTable
 have hbm:BMain mg s₁.heap:=by
  obtain ⟨bm,ob,b1,b2,b3,b4,b5,b6⟩:=G.T.bmain
  refine ⟨bm,ob,b1,b2,λ z=>?_,b3,b4,b5,b6⟩
  obtain ⟨o,es,ep,e,hd,_⟩:=G.T.g
  rw [z,e] at b3;cases b3;rw [hd] at b6;cases b6
 refine LH KX G.T.g G.T.b G.T.builtins G.T.nolimit hg hobj hints (Nat.le_trans hlen (by decide)) hr hP (hKP w.params) hc hbm hF hb λ H h1 h2=>?_
 refine ⟨rfl,[a,Pt],[.ro (ns.map W.int),.tab qn Pt],[.ref 0],MB h1 h2,.one ⟨a,rfl,rfl⟩,λ PF=>?_⟩
 obtain ⟨A,e⟩:=ok ns hlen Pt PF
 rw [e]
 exact λ φ' H' v _ _ r=>r
theorem jj.m {P:Program}{w:World}{K:Frag}{mg:Str->Option Value}{base:Heap}{k n:Nat}{x:Str}{f:Fn}(F:jj P w K mg base k x n f):zC P w K mg base k x n λ ws A=>(f ws A).nox:=by
 obtain ⟨fa,fd,ps,F,hm,hk,hb⟩:=F
 have up:∀vs H Q E,Yw K n (λ ws A=>(f ws A).nox) vs H Q E->WD K n f vs H Q (λ _ _ _=>False):=λ vs H Q E ⟨hl,φ,A,ws,S,r,h⟩=>⟨hl,φ,A,ws,S,r,by
  cases er:f ws A with
  | ok u A1=>(try dsimp only at h);rw [er] at h;exact h
  | exc y A1=>(try dsimp only at h);rw [er] at h;exact h.elim
  | bad=>(try dsimp only at h);rw [er] at h;exact h.elim⟩
 refine ⟨fa,fd,ps,⟨λ vs H Q E h=>F.len vs H Q _ (up vs H Q E h),λ A outer s H args us vs Q E hr he hbt hv h=>?_⟩,hm,hk,hb⟩
 refine codeAny_mono (F.run A outer s H args us vs Q _ hr he hbt hv (up vs H Q E h)) λ r s' h'=>?_
 cases r with
 | error e=>
  unfold CR at h'
  obtain ⟨_,_,_,_,_,_,_,_,_,_,z⟩:=h'
  exact z.elim
 | ok fl=>cases fl<;>exact h'
theorem jj.mono {P:Program}{w:World}{K:Frag}{mg:Str->Option Value}{base:Heap}{j k n:Nat}{x:Str}{f:Fn}(F:jj P w K mg base j x n f)(h:j<=k):jj P w K mg base k x n f:=by cases F with | mk fa fd ps F a b c=>exact ⟨fa,fd,ps,F.mono h,a,b,c⟩
noncomputable abbrev WL:List Value:=[.type "ValueError",.type "Exception",.type "BaseException",.type "object"]
noncomputable abbrev Wm:String := "ValueError.__new__"
section
variable {K:Frag}{cs:List Str}{top x nm:Str}
noncomputable def clsAt (K:Frag)(x:Str):Addr:=match PySem.W.nsIn K mainGlobals x with
 | some (some (.ref C))=>C
 | _=>0
noncomputable def isAt (K:Frag)(x:Str):Bool:=PySem.W.nsIn K mainGlobals x==some (some (.ref (clsAt K x)))
noncomputable def qK (cs:List Str)(x:Str):Str->Option Bool:=λ nm=>if cs.contains nm then some (nm==x) else none
noncomputable def Uh (cs:List Str):Str->Option Bool:=λ nm=>if cs.contains nm then some true else none
noncomputable def qG (K:Frag)(cs:List Str)(x:Str):Bool:=isAt K x&&PySem.W.kitOne K (.type "NoneType") (.ref (clsAt K x))==some false&&cs.all λ nm=>PySem.W.kitOne K (.ref (clsAt K nm)) (.ref (clsAt K x))==some (nm==x)
noncomputable def KU (K:Frag)(top nm:Str):Bool:=isAt K nm&&J4 K (clsAt K nm)&&Mi.gc K (clsAt K nm) WL Wm&&Qr K (clsAt K nm) (clsAt K top)&&PySem.W.kitOne K (.ref (clsAt K nm)) (.type "ValueError")==some true
noncomputable def Vm (K:Frag)(top:Str):Bool:=isAt K top&&Mi.gc K (clsAt K top) WL Wm&&PySem.W.kitOne K (.type "NoneType") (.type "ValueError")==some false
theorem XY (h:isAt K x=true):yA K x (.ref (clsAt K x)):=beq_iff_eq.mp h
theorem XC {C:Addr}(h:yA K x (.ref C)):C=clsAt K x:=by
 unfold clsAt
 unfold yA at h
 rw [h]
structure XB (K:Frag)(top nm:Str):Prop where
 at_:yA K nm (.ref (clsAt K nm))
 kit:J4 K (clsAt K nm)=true
 exc:Mi.gc K (clsAt K nm) WL Wm=true
 up:Qr K (clsAt K nm) (clsAt K top)=true
 val:PySem.W.kitOne K (.ref (clsAt K nm)) (.type "ValueError")=some true
theorem Dd (h:KU K top nm=true):XB K top nm:=by
 unfold KU at h
 simp only [Bool.and_eq_true,beq_iff_eq] at h
 obtain ⟨⟨⟨⟨h1,h2⟩,h3⟩,h4⟩,h5⟩:=h
 exact ⟨XY h1,h2,h3,h4,h5⟩
structure yT (K:Frag)(cs:List Str)(top:Str):Prop where
 exc:∀nm,cs.contains nm=true->XB K top nm
 top_at:yA K top (.ref (clsAt K top))
 top_exc:Mi.gc K (clsAt K top) WL Wm=true
 non:PySem.W.kitOne K (.type "NoneType") (.type "ValueError")=some false
theorem ER (h:cs.all (KU K top ·)=true)(t:Vm K top=true):yT K cs top:=by
 unfold Vm at t
 simp only [Bool.and_eq_true,beq_iff_eq] at t
 obtain ⟨⟨t1,t2⟩,t3⟩:=t
 exact ⟨λ nm e=>Dd (List.all_eq_true.mp h nm (List.contains_iff_mem.mp e)),XY t1,t2,t3⟩
theorem yT.isx (c:yT K cs top)(h:qG K cs x=true):J9 K (qK cs x) (.ref (clsAt K x)):=by
 unfold qG at h
 simp only [Bool.and_eq_true,beq_iff_eq] at h
 obtain ⟨⟨h1,h2⟩,h3⟩:=h
 refine ⟨h2,λ nm C b e hc=>?_⟩
 unfold qK at e
 by_cases hm:cs.contains nm=true
 ·rw [if_pos hm] at e
  cases e
  cases XC hc
  exact ⟨(c.exc nm hm).kit,beq_iff_eq.mp (List.all_eq_true.mp h3 nm (List.contains_iff_mem.mp hm))⟩
 ·rw [if_neg hm] at e;cases e
theorem yH (h:qG K cs x=true):yA K x (.ref (clsAt K x)):=by
 unfold qG at h
 simp only [Bool.and_eq_true,beq_iff_eq] at h
 exact XY h.1.1
theorem yT.isv (c:yT K cs top):J9 K (Uh cs) (.type "ValueError"):=by
 refine ⟨c.non,λ nm C b e hc=>?_⟩
 unfold Uh at e
 by_cases hm:cs.contains nm=true
 ·rw [if_pos hm] at e
  cases e
  cases XC hc
  exact ⟨(c.exc nm hm).kit,(c.exc nm hm).val⟩
 ·rw [if_neg hm] at e;cases e
theorem yT.under (c:yT K cs top):∀nm,cs.contains nm=true->∀C,yA K nm (.ref C)->∃bmC newC,Mi.gc K C bmC newC=true/\Qr K C (clsAt K top)=true:=λ nm hm C hc=>by
 cases XC hc
 exact ⟨_,_,(c.exc nm hm).exc,(c.exc nm hm).up⟩
end
section
variable {X:Cx}{g:Heap}{xr:XR}{e:Expr}{es:List Expr}{mr:Ea}{x top:Str}{np cpos pos:Pos}{n:Nat}
end
section
variable {X:Cx}{xr:XR}{e:Expr}{es:List Expr}{m:Ev}{ms:List Ev}
end
noncomputable def VT (M:List Str)(sc:Scope)(t:Lm):Bool:=t.idx.length==t.N.length&&((List.range t.N.length).all λ i=>match t.N[i]?,t.idx[i]? with
 | some x,some j=>M[j]?==some x&&t.scope.names.lookup x==some .free
 | _,_=>false)&&t.scope.names.all λ y=>!(y.2==.free) || (sc.names.lookup y.1==some .cell || sc.names.lookup y.1==some .free)
theorem kY {X:Cx}{t:Lm}(h:VT X.N X.env.scope t=true):Jt X t:=by
 unfold VT at h
 rw [Bool.and_eq_true,Bool.and_eq_true] at h
 obtain ⟨⟨h1,h2⟩,h3⟩:=h
 refine ⟨beq_iff_eq.mp h1,λ i x j e1 e2=>?_,λ y hy e=>?_⟩
 ·have hi:i<t.N.length:=(List.getElem?_eq_some_iff.mp e1).1
  have q:=List.all_eq_true.mp h2 i (List.mem_range.mpr hi)
  rw [e1,e2] at q
  dsimp only at q
  rw [Bool.and_eq_true] at q
  exact ⟨beq_iff_eq.mp q.1,beq_iff_eq.mp q.2⟩
 ·have q:=List.all_eq_true.mp h3 y hy
  rw [e] at q
  rw [Bool.or_eq_true,Bool.or_eq_true] at q
  rcases q with q | q | q
  ·cases q
  ·exact .inl (beq_iff_eq.mp q)
  ·exact .inr (beq_iff_eq.mp q)
theorem all_nil {α:Type}{p:α->Prop}:∀t∈([]:List α),p t:=λ _ h=>nomatch h
theorem all_cons {α:Type}{p:α->Prop}{a:α}{l:List α}(h:p a)(r:∀t∈l,p t):∀t∈a::l,p t:=λ t ht=>by
 rcases List.mem_cons.mp ht with e | e
 ·rw [e];exact h
 ·exact r t e
theorem Dg {env:Env}{q:Str}{ls:List Lm}{k:Nat}{t:Lm}(ht:ls[k]? =some t):gY env q ls k=Ws q t.params t.body t.scope (yN env t.scope.names []):=by
 funext ob c oc vs
 refine propext ⟨λ ⟨t',e,h⟩=>?_,λ h=>⟨t,ht,h⟩⟩
 rw [ht] at e
 cases e
 exact h
section
variable {X:Cx}{xr:XR}{n k:Nat}{q:Str}{Pt c:Addr}{ls:List Lm}{t:Lm}{pos:Pos}
end
noncomputable def gI:Stmt:=.Pass ⟨0,0,0,0⟩
noncomputable def Jn:Expr:=.Constant .none 0 ⟨0,0,0,0⟩
noncomputable def JB (s:Stmt)(i:Nat):Stmt:=match s with
 | .For _ _ b _ _=>b.getD i gI
 | .If _ b _ _=>b.getD i gI
 | .While _ b _ _=>b.getD i gI
 | _=>gI
noncomputable def Jw (s:Stmt):Expr:=match s with
 | .Assign _ v _=>v
 | .Expr v _=>v
 | .Return (some v) _=>v
 | _=>Jn
noncomputable def Js (e:Expr)(i:Nat):Expr:=match e with
 | .Call _ a _ _=>a.getD i Jn
 | .List es _=>es.getD i Jn
 | .Tuple es _ _=>es.getD i Jn
 | .BinOp a _ b _=>if i=0 then a else b
 | _=>Jn
noncomputable def Bo (e:Expr):Arguments:=match e with
 | .Lambda a _ _ _=>a
 | _=>{ posonlyargs:=[],args:=[],vararg:=none,kwonlyargs:=[],kw_defaults:=[],kwarg:=none,defaults:=[] }
noncomputable def BU (e:Expr):Expr:=match e with
 | .Lambda _ b _ _=>b
 | _=>Jn
noncomputable def Bv (e:Expr):Scope:=match e with
 | .Lambda _ _ s _=>s
 | _=>{ kind:=.function,names:=[],isGenerator:=false,isCoroutine:=false }
noncomputable def wD (e:Expr)(N:List Str)(idx:List Nat)(m:Ev):Lm:=⟨N,idx,Bo e,BU e,Bv e,m⟩
theorem Bg {P:Program}{w:World}{K:Frag}{mg:Str->Option Value}{base:Heap}{x:Str}{st:Stmt}{f:Addr}{fd:FuncData}{ps:List Str}{k:Nat}(F:qF K x x st f fd)(hm:mg x=some (.ref f))
  (hb:∀(kV doc pm:Value) (an:Option Addr) (cdv ct:Value) (us:List Value),us.length=ps.length->bindArgs (PySem.W.fnOf x x (ZV st) (yG st) (qk st) .none kV doc pm an cdv ct) ⟨us,[]⟩=pure (ps.zip us)):zC P w K mg base k x ps.length (λ _ _=>.bad):=
 ⟨f,fd,ps,⟨λ vs H Q E h=>h.1,λ A outer s H args us vs Q E _ _ _ _ h=>by obtain ⟨_,_,_,_,_,_,z⟩:=h;exact z.elim⟩,hm,F.kp,F.binds hb⟩
theorem FQ {K:Frag}(t a b:Ty):PySem.W.kitAny K (.type t.nm) [.type a.nm,.type b.nm]=some (kf t a || kf t b):=by
 unfold PySem.W.kitAny
 rw [KD]
 cases kf t a with
 | true=>rfl
 | false=>
  dsimp only
  unfold PySem.W.kitAny
  rw [KD]
  cases kf t b<;>rfl
section
variable {X:Cx}{xr:XR}{e a b:Expr}{m ma mb:Ev}{pos p p1 p2 pt:Pos}{x x1 x2:Str}{kt:Nat}
theorem Qx.kitx {pins:List (Addr × Obj)}{σ:St}{H:Hp}{s:Shared}{x:V}{u:Value}{t:Ty}(I:Inv X pins σ H s)(r:RelV x u)(h:Qx X.K H x t):∃Hq:Heap->Prop,PySem.W.KitX X.K u (.type t.nm) Hq/\Hq s.heap/\u≠.builtin "__main__.__loader__#opaque" := by
 rcases h with h | ⟨a,xs,rfl,h,rfl⟩
 ·generalize hT:Value.type t.nm=T at h
  cases h with
  | non=>cases (show u=Value.none from r);exact ⟨_,PySem.W.kitx_none,True.intro,λ z=>nomatch z⟩
  | bl y=>cases (show u=Value.bool y from r);exact ⟨_,PySem.W.kitx_bool,True.intro,λ z=>nomatch z⟩
  | int i=>obtain ⟨t,q⟩:=(show ∃t,u=Value.int i t from r);cases q;exact ⟨_,PySem.W.kitx_int,True.intro,λ z=>nomatch z⟩
  | str y=>obtain ⟨t,q⟩:=(show ∃t,u=Value.str y t from r);cases q;exact ⟨_,PySem.W.kitx_str,True.intro,λ z=>nomatch z⟩
  | flt y=>obtain ⟨t,q⟩:=(show ∃t,u=Value.float y t from r);cases q;exact ⟨_,PySem.W.kitx_float,True.intro,λ z=>nomatch z⟩
  | @lst a xs ea=>
   cases (show u=Value.ref a from r)
   obtain ⟨_,_,n,_,h1⟩:=(show qN X.prog X.w H s.heap a (.lst xs) from I.hok a _ ea)
   exact ⟨_,PySem.W.kitx_list,⟨_,h1,rfl⟩,λ z=>nomatch z⟩
  | @frz a ob xs ea=>
   cases (show u=Value.ref a from r)
   obtain ⟨_,_,_,n,_,h1⟩:=(show qN X.prog X.w H s.heap a (.frz ob (.lst xs)) from I.hok a _ ea)
   exact ⟨_,PySem.W.kitx_list,⟨_,h1,rfl⟩,λ z=>nomatch z⟩
  | @tup a xs ea=>
   cases (show u=Value.ref a from r)
   obtain ⟨_,_,_,p⟩:=(show qN X.prog X.w H s.heap a (.tup xs) from I.hok a _ ea)
   obtain ⟨o,h1,h2,_⟩:=p
   exact ⟨_,PySem.W.kitx_tuple,⟨o,h1,h2.1⟩,λ z=>nomatch z⟩
  | @dK a kvs ea=>
   cases (show u=Value.ref a from r)
   obtain ⟨_,_,_,_,o,_,_,h1,h2,_⟩:=(show qN X.prog X.w H s.heap a (.dK kvs) from I.hok a _ ea)
   exact ⟨_,PySem.W.kitx_dict,⟨o,h1,h2.1⟩,λ z=>nomatch z⟩
  | @dT a kvs ea=>
   cases (show u=Value.ref a from r)
   obtain ⟨_,_,_,_,o,_,_,h1,h2,_⟩:=(show qN X.prog X.w H s.heap a (.dT kvs) from I.hok a _ ea)
   exact ⟨_,PySem.W.kitx_dict,⟨o,h1,h2.1⟩,λ z=>nomatch z⟩
  | ins=>cases hT
 ·cases (show u=Value.ref a from r)
  obtain ⟨its,_,⟨o,h1,h2,_⟩,_⟩:=I.tuple h
  exact ⟨_,PySem.W.kitx_tuple,⟨o,h1,h2⟩,λ z=>nomatch z⟩
noncomputable def BS (K:Frag)(a b:Ty):List V->Hp->VK->Prop:=λ xs H Q=>∃x t l,xs=[x,.ref l]/\qv K H l [.ty (Ty.nm a),.ty (Ty.nm b)]/\Qx K H x t/\Q (.bl (kf t a || kf t b)) H
theorem IS {a b:Ty}:yb X (.builtin "isinstance") (BS X.K a b):=by
 intro pins s σ H xs us Q I r h
 obtain ⟨x,t,l,rfl,hs,ht,q⟩:=h
 obtain ⟨u,u',rfl,ru,ru'⟩:=vals2 r
 cases (show u'=Value.ref l from ru')
 obtain ⟨its,rv,⟨o,h1,h2,k,h3⟩,_⟩:=I.tuple hs
 obtain ⟨u1,u2,rfl,r1,r2⟩:=vals2 rv
 cases (show u1=Value.type a.nm from r1)
 cases (show u2=Value.type b.nm from r2)
 obtain ⟨Hq,Z,hz,ne⟩:=ht.kitx I ru
 obtain ⟨o1,o2,o3,o4⟩:=o
 cases (show o1=_ from h2)
 cases (show o3=_ from h3)
 exact PySem.W.kia_tup Z I.kIn hz h1 (FQ t a b) ne λ tk=>⟨.bl (kf t a || kf t b),H,I.tok tk,rfl,q⟩
noncomputable def Ob (t t2:Ty)(m:Ev):Ev:=λ ρ A=>(m ρ A).bind λ w A1=>match gk w A1 with
 | some t'=>.ok (.bl (kf t' t || kf t' t2)) A1
 | none=>.bad
noncomputable def Yj (m:Ev)(tw:Tg):Ex:=λ ρ A=>(m ρ A).bind λ w A1=>match tw w ρ with
 | some ρ'=>.ok (.nx ρ') A1
 | none=>.bad
end
section
variable {X:Cx}{xr:XR}{i kk:Nat}{x:Str}{PG:jJ}{lam:Nat->Fn}{np cp:Pos}
end
open Classical in
section
variable {X:Cx}{pins:List (Addr × Obj)}{σ:St}{H:Hp}{s:Shared}{ls:List Lm}{j kk n:Nat}{q x:Str}{e:Expr}{es:List Expr}{p pos:Pos}{mr:Ea}{f0:Fn}{fG:jJ->Fn}
end
noncomputable def wU:W->W->Hx->R W:=λ x y A=>match x,y with
 | .ref n,.ref k=>match A[n]?,A[k]? with
  | some (.lst ws),some (.lst us)=>if ws.length+us.length<=zP then .ok .non (A.set n (.lst (ws++us))) else .bad
  | _,_=>.bad
 | _,_=>.bad
theorem Lj:∀x y A,qB (wU x y A):=λ x y A=>by
 unfold wU
 split
 ·split
  ·exact gF jX qL
  ·exact qL
 ·exact qL
section
variable {X:Cx}{xr:XR}{a b c:Expr}{ma mb mc:Ev}{pos:Pos}
end
section
variable {prog:Program}{w:World}{A:Around}{E:Value->Shared->Prop}{s:Shared}
noncomputable abbrev wY (led:Bool):Obj:={ cls:=.type "set",dict:=none,data:=.set #[] 0 (.fresh 0 0 led) }
noncomputable abbrev Zu (ns:List Int)(k:Nat):List Int:=firstMet (λ i=>ns.getD i 0) k
theorem ND {led:Bool}{t:Addr}{its:List Value}{ns:List Int}{Q:Value->Shared->Prop}(hh:A.handled=none)(ht:s.heap.IsTuple t its.toArray)(hv:IntsAre its ns)(hb:its.length+1<scanBound)
  (h:∀(h':Heap) (tk:Nat),h'.SetOf (intKind prog w) s.heap.objs.size (λ k=>(Zu ns its.length).any (·==k)) (Zu ns its.length).length->
   (∀b o,b<s.heap.objs.size->s.heap.get? b=some o->h'.get? b=some o)->Q .none { s with heap:=h',toks:=tk }):
  codeAny (model prog w) A (.call (.builtin "set.__init__") ⟨[.ref s.heap.objs.size,.ref t],[]⟩) (wants Q E) { s with heap:=s.heap.push (wY led) }:=by
 have gS:(s.heap.push (wY led)).get? s.heap.objs.size=some (wY led):=Heap.get?_push_size _ rfl
 refine codeAny_call_builtin F.called_set.init.plain F.entry_set_init (check_set_init_1 ⟨_,gS,rfl⟩ ?_)
 obtain ⟨ob,h1,h2,n,h3⟩:=ht
 obtain ⟨oc,od,odt,osl⟩:=ob
 dsimp only at h2 h3
 cases h2;cases h3
 have g1:=Heap.get?_push_of_some (wY led) h1
 have n1:=F.sub_tuple_set
 have n2:=F.sub_tuple_frozenset
 have n3:(Value.type "tuple" == Value.type "dict")=false:=by decide
 have T1:(s.heap.push (wY led)).IsTuple t its.toArray:=⟨_,g1,rfl,n,rfl⟩
 unfold Builtin.«set.__init__» noKeywords Builtin.Frozenset.updateFrom
 generalize hp:pyIter=PI
 wp_walk
 subst hp
 refine wpAny_pyIter_tuple T1 (wpAny_bind (wpAny_runValue ?_))
 have lt:t<s.heap.objs.size:=Heap.lt_size h1
 have sz:(s.heap.push (wY led)).objs.size=s.heap.objs.size+1:=Heap.size_push ..
 have ne:t≠(s.heap.push (wY led)).objs.size:=by rw [sz];exact Nat.ne_of_lt (Nat.lt_succ_of_lt lt)
 have W:=(Walks.tuple (prog:=prog) (w:=w) (A:=A.in1.in1) (by simp [hh]) (s.heap.push (wY led)).objs.size t ne its.toArray).toS
 have esz:its.toArray.size=its.length:=List.size_toArray
 rw [esz] at W
 have off:s.heap.objs.size∉[(s.heap.push (wY led)).objs.size,t]:=by
  rw [sz];intro hm
  rcases List.mem_cons.mp hm with z | hm
  ·exact Nat.ne_of_lt (Nat.lt_succ_self _) z
  ·exact Nat.ne_of_gt lt (List.mem_singleton.mp hm)
 refine codeAny_set_update_loopS W s.heap.objs.size off (λ i=>ns.getD i 0) (λ i v e=>IntsAre.int_at hv i v (by simpa using e)) hb its.length 0 _ rfl (Nat.zero_le _) ⟨⟨_,Heap.get?_push_size _ rfl,rfl,rfl⟩,T1.push _⟩ ?_ ?_
 ·exact SetOf_congr ((setObjOf_fresh (knd:=intKind prog w) led).setOf (Heap.get?_push_of_some _ gS) (by unfold scanBound;omega)) (λ _=>rfl) rfl
 ·intro s' mv S'
  obtain ⟨h',g',d',tk',os'⟩:=s'
  have e1:g'=s.gens:=mv.gens
  have e2:d'=s.drawn:=mv.drawn
  have e3:os'=s.os:=mv.os
  subst e1 e2 e3
  refine wpAny_pure ?_
  show wpAny _ _ (ret Value.none) _ _ _
  refine wpAny_pure (h h' tk' S' λ b o lb e=>mv.heap b o (λ hm=>?_) (Heap.get?_push_of_some _ (Heap.get?_push_of_some _ e)))
  rcases List.mem_cons.mp hm with z | hm
  ·exact Nat.ne_of_lt lb z
  ·exact Nat.ne_of_lt (Nat.lt_succ_of_lt lb) ((List.mem_singleton.mp hm).trans sz)
theorem Nt {t:Addr}{its:List Value}{ns:List Int}{Q:Value->Shared->Prop}(hh:A.handled=none)(ht:s.heap.IsTuple t its.toArray)(hv:IntsAre its ns)(hb:its.length+1<scanBound)
  (h:∀(h':Heap) (tk:Nat),h'.SetOf (intKind prog w) s.heap.objs.size (λ k=>(Zu ns its.length).any (·==k)) (Zu ns its.length).length->
   (∀b o,b<s.heap.objs.size->s.heap.get? b=some o->h'.get? b=some o)->Q (.ref s.heap.objs.size) { s with heap:=h',toks:=tk }):
  wpAny (model prog w) A (call (.type "set") [.ref t]) Q E s:=by
 obtain ⟨c,tl,hmro⟩:=F.called_set.mro
 have a1:=F.called_set.made
 have a2:=F.called_set.sub
 have a3:=F.called_set.notType
 have a4:=F.called_set.canCreate
 have a5:=F.typeCall_set_1 (.ref t)
 refine wpAny_call (codeAny_of_tree ?_)
 show wpAny _ _ (callAny (.type "set") _) _ _ _
 refine wpAny_pure ⟨Code.quiet_builtin _ (by decide +kernel),codeAny_builtin F.entry_type_call ?_⟩
 rw [Around.under_plain (weight_type_call_type "set" [.ref t] []) rfl]
 repeat (any_goals (first | assumption | wp_step))
 refine codeAny_mono (code_set_new_1 (.ref t) (E:=E) (Q₁:=λ u s1=>∃led,u=.ref s.heap.objs.size/\s1={ s with heap:=s.heap.push (wY led) }) λ led=>⟨led,rfl,rfl⟩) λ r s1 hr=>?_
 cases r with
 | error e=>exact hr
 | ok fl=>
  cases fl with
  | ret u=>
   obtain ⟨led,rfl,rfl⟩:=hr
   have T:Shared.TypeIs { s with heap:=s.heap.push (wY led) } (.ref s.heap.objs.size) "set" := ⟨_,Heap.get?_push_size _ rfl,rfl⟩
   have b1:=F.called_set.init.lookup
   have b2:=F.called_set.init.bind (.ref s.heap.objs.size)
   repeat (any_goals (first | assumption | wp_step))
   refine codeAny_mono (ND (E:=E) (Q:=λ v s2=>v=.none/\∃h' tk,s2={ s with heap:=h',toks:=tk }/\h'.SetOf (intKind prog w) s.heap.objs.size (λ k=>(Zu ns its.length).any (·==k)) (Zu ns its.length).length/\
    ∀b o,b<s.heap.objs.size->s.heap.get? b=some o->h'.get? b=some o) (by simp [hh]) ht hv hb λ h' tk S' k'=>⟨rfl,h',tk,rfl,S',k'⟩) λ r2 s2 hr2=>?_
   cases r2 with
   | error e=>exact hr2
   | ok fl2=>
    cases fl2 with
    | ret v=>
     obtain ⟨rfl,h',tk,rfl,S',k'⟩:=hr2
     repeat (any_goals (first | assumption | wp_step))
     exact h _ _ S' k'
    | _=>exact hr2.elim
  | _=>exact hr.elim
end
theorem intsAre_of:∀{ns:List Int} {its:List Value},Vals (ns.map V.int) its->IntsAre its ns:=by
 intro ns
 induction ns with
 | nil=>intro its h;cases h;exact .nil
 | cons n ns ih=>
  intro its h
  cases h with
  | cons r t=>obtain ⟨tk,rfl⟩:=r;exact .cons n tk (ih t)
section
variable {X:Cx}{xr:XR}{e:Expr}{m:Ev}{pos:Pos}
noncomputable abbrev Oc (ns:List Int):HO:=.set (λ k=>(Zu ns ns.length).any (·==k)) (Zu ns ns.length).length
noncomputable def CW (K:Frag):List V->Hp->VK->Prop:=λ xs H Q=>∃p ns,xs=[.ref p]/\qv K H p (ns.map V.int)/\ns.length<=100/\∀l,H l=none->Q (.ref l) (upd H l (Oc ns))
theorem Ln (hc:X.calm=true):yb X (.type "set") (CW X.K):=by
 intro pins s σ H xs us Q I r h
 obtain ⟨p,ns,rfl,hq,hz,q⟩:=h
 obtain ⟨u,rfl,ru⟩:=vals1 r
 cases ru
 obtain ⟨its,rv,pl,_⟩:=I.tuple hq
 have hlen:its.length=ns.length:=by have:=rv.length;rw [List.length_map] at this;omega
 refine Nt (I.ok.hd hc) pl (intsAre_of rv) (by unfold scanBound;omega) λ h' tk S' kp=>?_
 rw [hlen] at S'
 exact ⟨.ref s.heap.objs.size,_,I.laid (t':=tk) (o:=Oc ns) (λ b o e=>kp b o (Heap.lt_size e) e) (Nat.le_refl _) S',rfl,q _ (I.hok.fresh (Nat.le_refl _))⟩
theorem Lo:yb X (.builtin "len") (λ xs H Q=>∃p S n,xs=[.ref p]/\H p=some (.set S n)/\n<=100/\Q (.int n) H):=by
 intro pins s σ H xs us Q I r h
 obtain ⟨p,S,n,rfl,hq,hz,q⟩:=h
 obtain ⟨u,rfl,ru⟩:=vals1 r
 cases ru
 obtain ⟨o,es,ep,t,ho,ex,hd,_,_,_,hf,hn⟩:=(show qN X.prog X.w H s.heap p (.set S n) from I.hok p _ hq)
 subst hn
 exact call_len_set ho ex hd hf (by omega) ⟨.int es.size,H,I.tok _,⟨_,rfl⟩,q⟩
noncomputable def Rh:W->Hx->R W:=λ w A=>match w with
 | .tup ws=>match intsOf ws with
  | some ns=>if ns.length<=100 then .ok (.int (Zu ns ns.length).length) A else .bad
  | none=>.bad
 | _=>.bad
noncomputable def Rq (m:Ev):Ev:=λ ρ A=>(m ρ A).bind λ w A1=>Rh w A1
end
section
variable {X:Cx}{xr:XR}{a b:Expr}{ma mb:Ev}{pos:Pos}
end
section
variable {X:Cx}{xr:XR}{e:Expr}{m:Ev}{pos:Pos}
theorem L1:yb X (.builtin "len") (λ xs H Q=>∃p us,xs=[.ref p]/\H p=some (.dK us)/\Q (.int us.length) H):=by
 intro pins s σ H xs us Q I r h
 obtain ⟨p,kvs,rfl,hq,q⟩:=h
 obtain ⟨u,rfl,ru⟩:=vals1 r
 cases ru
 obtain ⟨hz,hd,vs,kv,dd⟩:=Py I.hok hq
 have hl:=Jj
 have hs:sizeLine=16777216:=sizeLine_eq
 have hlen:=KV.length kv
 refine PySem.call_len_dict hd dd (by omega) ?_
 exact ⟨.int kvs.length,H,I.tok _,⟨_,by rw [hlen]⟩,q⟩
noncomputable def yy (m:Ev):Ev:=λ ρ A=>(m ρ A).bind λ w A1=>match w with
 | .ref n=>match A1[n]? with
  | some (.dct kvs)=>.ok (.int kvs.length) A1
  | _=>.bad
 | _=>.bad
end
theorem OM:fillsNumberSlot (.type "tuple") "mul" = pure false:=
 PySem.fillsNumberSlot_seq (id := "tuple.__mul__") (r:=some (.builtin "tuple.__rmul__")) F.slot_tuple_mul.lookup (by decide +kernel) F.slot_tuple_rmul.lookup (by decide +kernel)
theorem NO:seqRepeat? (.type "tuple")=pure (some (.builtin "tuple.__mul__")):=by
 unfold seqRepeat?
 rw [PySem.seqSlot_of (T := "tuple") (name := "__mul__") (id := "tuple.__mul__") F.slot_tuple_mul.lookup (by decide +kernel),PySem.seqSlot_of (T := "tuple") (name := "__rmul__") (id := "tuple.__rmul__") F.slot_tuple_rmul.lookup (by decide +kernel)]
 rfl
theorem Nr (a:Int)(t:Tok)(l:Addr)(od:Option Addr)(items:Array Value)(n:Nat)(sl:Array (Option Value)):
  Meets (Builtin.«int.__rmul__» ⟨[.int a t,.ref l],[]⟩) (λ _ R s=>s.heap.get? l=some ⟨.type "tuple",od,.seq items n,sl⟩/\R (.ok (.ret Value.notImplemented)) s):=
 .of_wp λ prog w A R s h=>by
  obtain ⟨hp,g,d,tk,os⟩:=s;obtain ⟨hl,h⟩:=h
  wp_walk
  exact ⟨_,rfl,h⟩
theorem Ly (k:Int)(t:Tok)(l:Addr)(od:Option Addr)(items:Array Value)(n:Nat)(sl:Array (Option Value))(h2:2<=k)(h3:k<1000)(hi:0<items.size)(hz:items.size<1000):
  Meets (Builtin.«tuple.__mul__» ⟨[.ref l,.int k t],[]⟩) (λ _ R s=>s.heap.get? l=some ⟨.type "tuple",od,.seq items n,sl⟩/\R (.ok (.ret (.ref s.heap.objs.size))) { s with heap:=s.heap.push { cls:=.type "tuple",data:=.seq ((List.replicate k.toNat items).foldl (·++·) #[]) } }):=
 .of_wp λ prog w A R s h=>by
  obtain ⟨hp,g,d,tk,os⟩:=s;obtain ⟨hl,h⟩:=h
  have e0:items.isEmpty=false:=by
   cases he:items.isEmpty with
   | false=>rfl
   | true=>rw [Array.isEmpty_iff_size_eq_zero] at he;omega
  have e1:(k==1)=false:=by rw [beq_eq_false_iff_ne];omega
  have e2:(decide (k < -2 ^ 63) || decide (k ≥ 2 ^ 63))=false:=by
   rw [Bool.or_eq_false_iff,decide_eq_false_iff_not,decide_eq_false_iff_not];omega
  have e3:decide (k<=0)=false:=by rw [decide_eq_false_iff_not];omega
  have hm:(items.size:Int) * k<=1000 * 1000:=Int.mul_le_mul (by omega) (by omega) (by omega) (by omega)
  have e4:¬(items.size:Int) * k > (2 ^ 63 - 1) / 8:=by omega
  have e5:Builtin.Tuple.tupleTooMany ((items.size:Int) * k)=false:=by
   unfold Builtin.Tuple.tupleTooMany
   have:sizeLine=16777216:=sizeLine_eq
   rw [decide_eq_false_iff_not];omega
  wp_walk
  rw [e2]
  rw [if_neg (by decide)]
  dsimp only
  wp_walk
  rw [if_neg e4,e5,if_neg (by decide)]
  have hs:(List.foldl (λ x1 x2=>x1++x2) #[] (List.replicate k.toNat items)).size<=sizeLine:=by
   have hf:=foldl_rep items.toList k.toNat []
   rw [List.nil_append] at hf
   have e6:items.toList.toArray=items:=by simp
   rw [e6] at hf
   rw [hf,List.size_toArray,len_rep]
   have:sizeLine=16777216:=sizeLine_eq
   have:k.toNat * items.toList.length<=1000 * 1000:=Nat.mul_le_mul (by omega) (by rw [Array.length_toList];omega)
   omega
  refine wpAny_bind (m:=Builtin.Tuple.tupleExact _) (wpAny_newObj_type ?_ hs)
  exact wpAny_pure ⟨_,rfl,h⟩
section
variable {X:Cx}{xr:XR}{K:Frag}{a b:Expr}{ma mb:Ev}{pos:Pos}
noncomputable def Pp (K:Frag):R2:=λ x y H Q=>∃l k xs,x=.ref l/\y=.int k/\qv K H l xs/\2<=k/\k<1000/\0<xs.length/\xs.length<1000/\
 ∀p,H p=none->Q (.ref p) (upd H p (.tup (List.replicate k.toNat xs).flatten))
theorem HR:qE X (binaryOp .Mult) (Pp X.K):=by
 intro pins s σ H x y v u Q I rx ry h
 obtain ⟨l,k,xs,rfl,rfl,hH,h1,h2,h3,h4,q⟩:=h
 cases rx
 obtain ⟨t,rfl⟩:=ry
 obtain ⟨its,r,p1,_⟩:=I.tuple hH
 obtain ⟨⟨cls,dd,data,sl⟩,ho,hc,n,hd⟩:=id p1
 simp only at hc hd
 subst hc hd
 have hnew:List.foldl (λ x1 x2=>x1++x2) #[] (List.replicate k.toNat its.toArray)=(List.replicate k.toNat its).flatten.toArray:=by
  have:=foldl_rep its k.toNat []
  rw [List.nil_append] at this
  exact this
 have hlen:=r.length
 refine wpAny_binaryOp_repeat_ref (T := "tuple") (U := "int") (by decide) ⟨_,ho,rfl⟩ (λ s'=>typeIs_int s' k t) OM F.fills_int_mul F.slot_int_rmul NO F.slot_int_index.lookup
  (call_meets F.slot_int_rmul (typeIs_int s k t) F.entry_int_rmul (F.args_int_rmul_2 _ _) (Nr k t l dd its.toArray n sl)
   ⟨ho,rfl,⟨_,ho,rfl⟩,call_meets F.slot_tuple_mul ⟨_,ho,rfl⟩ F.entry_tuple_mul (F.args_tuple_mul_2 _ _) (Ly k t l dd its.toArray n sl h1 h2 (by rw [List.size_toArray];omega) (by rw [List.size_toArray];omega)) ⟨ho,?_⟩⟩)
 rw [hnew]
 refine ⟨.ref s.heap.objs.size,_,I.laid (t':=s.toks) (o:=.tup (List.replicate k.toNat xs).flatten) (λ b ob q=>Heap.get?_push_of_some _ q) (Nat.le_refl _) ?_,rfl,q _ (I.hok.fresh (Nat.le_refl _))⟩
 refine ⟨?_,_,r.rep k.toNat,ZZ.new _ _⟩
 rw [len_rep]
 have hs:sizeLine=16777216:=sizeLine_eq
 have:k.toNat * xs.length<=1000 * 1000:=Nat.mul_le_mul (by omega) (by omega)
 omega
noncomputable def Zr:W->W->Hx->R W:=λ x y A=>match x,y with
 | .tup xs,.int k=>if decide (2<=k)&&(decide (k<1000)&&(decide (0<xs.length)&&decide (xs.length<1000))) then .ok (.tup (List.replicate k.toNat xs).flatten) A else .bad
 | _,_=>.bad
theorem H9:∀x y A,qB (Zr x y A):=λ x y A=>by
 unfold Zr
 split
 ·exact gF jX qL
 ·exact qL
theorem L6:j7 K (Pp K) Zr:=λ φ A H x y u v Q S q1 q2 p=>by
 cases u with
 | tup xs=>cases v with
  | int j=>
   obtain ⟨a1,vs1,rfl,t1,r1⟩:=q1
   obtain rfl:=q2
   unfold Zr at p
   dsimp only at p
   by_cases hz:(decide (2<=j)&&(decide (j<1000)&&(decide (0<xs.length)&&decide (xs.length<1000))))=true
   ·rw [if_pos hz] at p
    simp only [Bool.and_eq_true,decide_eq_true_iff] at hz
    refine ⟨a1,j,vs1,rfl,rfl,t1,hz.1,hz.2.1,by rw [<- r1.length];exact hz.2.2.1,by rw [<- r1.length];exact hz.2.2.2,λ l hl=>?_⟩
    obtain ⟨c1,c2,c3⟩:=Jc S hl (r1.rep j.toNat)
    exact p _ _ _ c1 c2 c3
   ·rw [if_neg hz] at p;exact p.elim
  | _=>exact p.elim
 | _=>cases v<;>exact p.elim
end
noncomputable def wt:List (List Int)->List (List Int)->Bool
 | [],[]=>false
 | [],_::_=>true
 | _::_,[]=>false
 | x::xs,y::ys=>if x=y then wt xs ys else HT.lexLt x y
theorem N8 (x y:List Int)(xs ys:List (List Int)):wt (x::xs) (y::ys)=if x=y then wt xs ys else HT.lexLt x y:=rfl
inductive kI (h:Heap):List Value->List (List Int)->Prop
 | nil:kI h [] []
 | cons {p:Addr} {its:Array Value} {ns:List Int} {vs:List Value} {nss:List (List Int)} (t:IsTup h p its) (i:IntsAre its.toList ns) (r:kI h vs nss):kI h (.ref p::vs) (ns::nss)
theorem kI.length {h:Heap}{vs:List Value}{nss:List (List Int)}(t:kI h vs nss):vs.length=nss.length:=by
 induction t with
 | nil=>rfl
 | cons _ _ _ ih=>rw [List.length_cons,List.length_cons,ih]
theorem Te {h:Heap}:∀{vs:List Value} {ns:List Int},IntsAre vs ns->ReadsAll h vs (ns.map PyData.int) []:=by
 intro vs ns i
 induction i with
 | nil=>exact .nil
 | cons n t r ih=>exact .cons (.int n t) ih
theorem Sn:∀(ns ms:List Int),PyData.eqvAll (ns.map PyData.int) (ms.map PyData.int)=decide (ns=ms)
 | [],[]=>by simp [PyData.eqvAll]
 | [],_::_=>by simp [PyData.eqvAll]
 | _::_,[]=>by simp [PyData.eqvAll]
 | n::ns,m::ms=>by
  have:=Sn ns ms
  simp only [List.map_cons,PyData.eqvAll,PyData.eqv,this,List.cons.injEq]
  by_cases h1:n=m<;>by_cases h2:ns=ms<;>simp [h1,h2]
theorem XQ:∀(ns:List Int),PyData.canLayAll0 (ns.map PyData.int)=true
 | []=>by simp [PyData.canLayAll0]
 | n::ns=>by simp [PyData.canLayAll0,PyData.canLay0,XQ ns]
theorem Xo:∀(ns:List Int),PyData.depthAll (ns.map PyData.int)<=1
 | []=>by simp [PyData.depthAll]
 | n::ns=>by
  have:=Xo ns
  simp only [List.map_cons,PyData.depthAll,PyData.depth]
  omega
theorem L5 {A:Around}{s:Shared}{p q:Addr}{its its2:Array Value}{ns ms:List Int}(t:IsTup s.heap p its)(t2:IsTup s.heap q its2)(i:IntsAre its.toList ns)(j:IntsAre its2.toList ms)(hu:A.units+10<cLine):
  SeqAt.EqAt A s (.ref p) (.ref q) (decide (ns=ms)):=by
 obtain ⟨o,h1,h2,k,h3⟩:=t
 obtain ⟨o2,g1,g2,k2,g3⟩:=t2
 have e:=SeqAt.eqAt_reads (.tuple (ns.map .int)) (.tuple (ms.map .int)) A s (.ref p) (.ref q) _ _ (.tuple h1 h2 h3 (Te i)) (.tuple g1 g2 g3 (Te j)) (by simp [PyData.canLay0,XQ]) (by simp [PyData.canLay0,XQ])
  (by have:=Xo ns;have:=Xo ms;simp only [PyData.depth];omega)
 have ev:PyData.eqv (.tuple (ns.map .int)) (.tuple (ms.map .int))=decide (ns=ms):=by
  simp only [PyData.eqv]
  exact Sn ns ms
 rw [ev] at e
 exact e
section
open PySem.SeqAt
open PySem.AutoSeq1 (wpAny_loadPart')
open PySem.MeetsSeq PySem.MeetsSeq2 PySem.MeetsSeq3
theorem Nc (l b:Addr)(items items2:Array Value)(n n2:Nat)(dd dd2:Option Addr)(sl sl2:Array (Option Value))(nss mss:List (List Int)):
  Meets (Builtin.«tuple.__lt__» ⟨[.ref l,.ref b],[]⟩)
   (λ A R s=>s.heap.get? l=some { cls:=.type "tuple",dict:=dd,data:=.seq items n,slots:=sl }/\s.heap.get? b=some { cls:=.type "tuple",dict:=dd2,data:=.seq items2 n2,slots:=sl2 }/\
    kI s.heap items.toList nss/\kI s.heap items2.toList mss/\A.units+20<cLine/\R (.ok (.ret (.bool (wt nss mss)))) s):=
 .of_wp λ prog w A R s h=>by
  obtain ⟨hp,g,d,tk,os⟩:=s;obtain ⟨hl,hb,hi,hj,hu,h⟩:=h
  have f2:=AutoSeq1.sub_tuple_tuple
  have z1:items.size=nss.length:=by rw [<- hi.length];simp
  have z2:items2.size=mss.length:=by rw [<- hj.length];simp
  have hu1:A.in1.units+15<cLine:=by
   have:A.in1.units<=A.units+1:=Nat.le_refl _
   omega
  wp_walk using wpAny_loadPart' hl,wpAny_loadPart' hb,wpAny_forIn_list _ (λ rest b s'=>b.1=none/\s'=⟨hp,g,d,tk,os⟩/\∃(vs ws:List Value) (ns' ms':List (List Int)),rest=vs.zip ws/\
   kI hp vs ns'/\kI hp ws ms'/\ns'.length+items2.size=ms'.length+items.size/\R (.ok (.ret (.bool (wt ns' ms')))) ⟨hp,g,d,tk,os⟩) _
  case turn=>
   rintro ⟨y,x⟩ rest b s' ⟨hb',rfl,vs,ws,ns',ms',hz,hvi,hwi,hlen,hR⟩
   cases hvi with
   | nil=>rw [List.zip_nil_left] at hz;cases hz
   | cons t1 i1 hvi'=>
    cases hwi with
    | nil=>rw [List.zip_nil_right] at hz;cases hz
    | cons t2 i2 hwi'=>
     rename_i p its ns vs' nss' q its2 ms ws' mss'
     rw [List.zip_cons_cons] at hz
     injection hz with hyx hrest
     injection hyx with hy hx
     subst hy hx
     rw [N8] at hR
     simp only [List.length_cons] at hlen
     have he:=L5 (A:=A.in1) (s:=⟨hp,g,d,tk,os⟩) t1 t2 i1 i2 (by omega)
     refine wpAny_bind (he prog w _ _ ?_)
     by_cases hq:ns=ms
     ·rw [if_pos hq] at hR
      rw [decide_eq_true hq]
      wp_walk
      exact ⟨rfl,rfl,_,_,_,_,hrest,hvi',hwi',by omega,hR⟩
     ·rw [if_neg hq] at hR
      rw [decide_eq_false hq]
      have hri:∀(E:Value->Shared->Prop) (Q:Value->Shared->Prop),Q (.bool (HT.lexLt ns ms)) ⟨hp,g,d,tk,os⟩->wpAny (model prog w) A.in1 (richCompare .Lt (.ref p) (.ref q)) Q E ⟨hp,g,d,tk,os⟩:=λ E Q hQ=>
       (HT.Mx (s:=⟨hp,g,d,tk,os⟩) t1 t2 i1 i2 (by omega) hQ:wpAny (model prog w) A.in1 (compareOp .Lt (.ref p) (.ref q)) Q E ⟨hp,g,d,tk,os⟩)
      wp_walk using hri
      exact ⟨_,rfl,by simpa using hR⟩
  case fin=>
   rintro ⟨b1,b2⟩ s' ⟨hb',rfl,vs,ws,ns',ms',hz,hvi,hwi,hlen,hR⟩
   simp only at hb'
   subst hb'
   have hv:wt ns' ms'=decide (items.size<items2.size):=by
    cases hvi with
    | nil=>
     cases hwi with
     | nil=>
      simp only [List.length_nil] at hlen
      exact (decide_eq_false (by omega)).symm
     | cons _ _ _=>
      simp only [List.length_nil,List.length_cons] at hlen
      exact (decide_eq_true (by omega)).symm
    | cons _ _ _=>
     cases hwi with
     | nil=>
      simp only [List.length_nil,List.length_cons] at hlen
      exact (decide_eq_false (by omega)).symm
     | cons _ _ _=>
      rw [List.zip_cons_cons] at hz
      cases hz
   rw [hv] at hR
   wp_walk
   exact ⟨_,rfl,by simpa [Builtin.Tuple.tupleCompareSizes] using hR⟩
  case h=>
   exact ⟨rfl,rfl,items.toList,items2.toList,nss,mss,rfl,hi,hj,by omega,h⟩
end
section
variable {prog:Program}{w:World}{A:Around}{E:Value->Shared->Prop}{s:Shared}
theorem Fs {l b:Addr}{items items2:Array Value}{nss mss:List (List Int)}{Q:Value->Shared->Prop}(hl:IsTup s.heap l items)(hb:IsTup s.heap b items2)(hi:kI s.heap items.toList nss)(hj:kI s.heap items2.toList mss)
  (hu:A.units+30<cLine)(h:Q (.bool (wt nss mss)) s):wpAny (model prog w) A (compareOp .Lt (.ref l) (.ref b)) Q E s:=by
 obtain ⟨⟨cls,dd,data,sl⟩,ho,hc,n,hd⟩:=id hl
 obtain ⟨⟨cls2,dd2,data2,sl2⟩,ho2,hc2,n2,hd2⟩:=id hb
 simp only at hc hd hc2 hd2
 subst hc hd hc2 hd2
 exact richCompare_meets_room (op:=.Lt) ⟨_,ho,rfl⟩ ⟨_,ho2,rfl⟩ PySem.F.slot_tuple_lt PySem.F.entry_tuple_lt (PySem.F.args_tuple_lt_2 _ _) (Nc l b items items2 n n2 dd dd2 sl sl2 nss mss)
  ⟨ho,ho2,hi,hj,(by first | omega | (show A.units+1+20<cLine;omega) | (show A.units+1+1+20<cLine;omega)),show Value.bool (wt nss mss)≠Value.notImplemented/\Q (.bool (wt nss mss)) s from ⟨(λ x=>nomatch x),h⟩⟩ (by omega)
end
section
variable {prog:Program}{w:World}{A:Around}{I S:Addr}{fp wr:List Addr}{n:Nat}{P:Nat->Value->Prop}{St:Nat->Heap->Prop}
structure Pw (prog:Program)(w:World)(A:Around)(S:Addr)(wr:List Addr)(P:Nat->Value->Prop)(bt:Nat->Nat->Bool)(HI:Heap->Prop):Prop where
 keep:∀h h',HI h->(∀b o,b∉wr->b≠S->h.get? b=some o->h'.get? b=some o)->HI h'
 less:∀i j vi vj (s:Shared) (Q:Value->Shared->Prop) (E:Value->Shared->Prop),HI s.heap->P i vi->P j vj->Q (.bool (bt i j)) s->wpAny (model prog w) A.in1 (richCompare .Lt vi vj) Q E s
theorem Ku:(toString "min" ++ toString ".loop" : String) = "min.loop" := by decide
theorem Ho {R:Result->Shared->Prop}(W:Walks prog w A.in1 I fp wr n P St){bt:Nat->Nat->Bool}{HI:Heap->Prop}(M:Pw prog w A S wr P bt HI)(hSf:S∉fp):
  ∀(k j:Nat) (s:Shared) (v:Value) (c:Nat),j+1+k=n->St (j+1) s.heap->HI s.heap->P (argBest bt j) v->s.heap.get? S=some { cls:=.type "list",dict:=none,data:=.seq #[v,v] c,slots:=#[] }->
   (∀v h' tk,P (argBest bt (n - 1)) v->(∀b o,b∉wr->b≠S->s.heap.get? b=some o->h'.get? b=some o)->R (.ok (.ret v)) { s with heap:=h',toks:=tk })->
   codeAny (model prog w) A (.builtin "min.loop" ⟨[.ref I,.none,.ref S],[]⟩) R s:=by
 have hSw:S∉wr:=λ h=>hSf (W.sub _ h)
 intro k
 induction k with
 | zero=>
  intro j s v c hj st hi hp hS hR
  subst hj
  refine codeAny_builtin F.entry_min_loop ?_
  rw [Around.under_plainId F.plain_min_loop _]
  show wpAny _ A.in1 (seqItems? (.ref S) >>= _) _ _ s
  refine wpAny_bind (wpAny_seqItems hS rfl ?_)
  refine wpAny_bind (m:=tryCatch (pyNext (.ref I)) _) (wpAny_tryCatch (W.done s _ _ st λ h' tk hk=>?_))
  have hS':=hk S _ hSw hS
  refine wpAny_bind (m:=updateSeq S (λ _=>#[])) ?_
  exact wpAny_updateSeq hS' rfl (wpAny_bind (wpAny_letGo (wpAny_pure (hR v _ tk hp λ b o b1 b2 e=>(Heap.get?_update_other _ _ (Ne.symm b2)).trans (hk b o b1 e)))))
 | succ k ih=>
  intro j s v c hj st hi hp hS hR
  refine codeAny_builtin F.entry_min_loop ?_
  rw [Around.under_plainId F.plain_min_loop _]
  show wpAny _ A.in1 (seqItems? (.ref S) >>= _) _ _ s
  refine wpAny_bind (wpAny_seqItems hS rfl ?_)
  refine wpAny_bind (m:=tryCatch (pyNext (.ref I)) _) (wpAny_tryCatch (W.item (j+1) s _ _ (by omega) st λ u h' tk pu st' hk=>?_))
  have hS':=hk S _ hSw hS
  have hi':HI h':=M.keep _ _ hi λ b o b1 _ e=>hk b o b1 e
  refine wpAny_bind (m:=tryCatch (holding [u,u] (richCompare .Lt u v >>= _)) _) (wpAny_tryCatch (wpAny_holding (wpAny_bind (M.less (j+1) (argBest bt j) u v _ _ _ hi' pu hp ?_))))
  refine wpAny_bind (wpAny_holding (wpAny_truthy_bool ?_))
  refine wpAny_bind (wpAny_letGo (wpAny_pure ?_))
  have eb:argBest bt (j+1)=if bt (j+1) (argBest bt j)=true then j+1 else argBest bt j:=rfl
  cases hb:bt (j+1) (argBest bt j) with
  | true=>
   rw [hb,if_pos rfl] at eb
   simp only [if_true]
   refine wpAny_bind ?_
   refine wpAny_updateSeq hS' rfl (wpAny_bind (wpAny_letGo ?_))
   rw [Ku]
   have up:∀b o,b≠S->h'.get? b=some o->(h'.update S (Obj.mapSeq λ _=>#[u,u])).get? b=some o:=λ b o b2 e=>(Heap.get?_update_other _ _ (Ne.symm b2)).trans e
   refine wpAny_pure ⟨plainId_quiet F.plain_min_loop _,ih (j+1) _ u _ (by omega) (W.frame _ _ _ st' λ b bf o e=>up b o (λ z=>hSf (z ▸ bf)) e) (M.keep _ _ hi' λ b o _ b2 e=>up b o b2 e) (by rw [eb];exact pu) (Heap.get?_update_self _ hS' rfl) λ v' h'' tk'' hp' hk'=>?_⟩
   exact hR v' h'' tk'' hp' λ b o b1 b2 e=>hk' b o b1 b2 (up b o b2 (hk b o b1 e))
  | false=>
   rw [hb,if_neg Bool.false_ne_true] at eb
   simp only [Bool.false_eq_true,if_false]
   refine wpAny_bind (wpAny_letGo ?_)
   rw [Ku]
   refine wpAny_pure ⟨plainId_quiet F.plain_min_loop _,ih (j+1) _ v c (by omega) st' hi' (by rw [eb];exact hp) hS' λ v' h'' tk'' hp' hk'=>?_⟩
   exact hR v' h'' tk'' hp' λ b o b1 b2 e=>hk' b o b1 b2 (hk b o b1 e)
theorem LW {E:Value->Shared->Prop}{s:Shared}{x:Value}{Q:Value->Shared->Prop}
  (h:wpAny (model prog w) A.in1 (pyIter x) (λ it s2=>∃I fp wr n P St bt HI,it=.ref I/\Walks prog w A.in1 I fp wr n P St/\St 0 s2.heap/\(∀b∈fp,b<s2.heap.objs.size)/\0<n/\HI (s2.heap.push { cls:=.type "list",data:=.seq #[] })/\Pw prog w A s2.heap.objs.size wr P bt HI/\
   ∀v h' tk,P (argBest bt (n - 1)) v->(∀b o,b∉wr->s2.heap.get? b=some o->h'.get? b=some o)->Q v { s2 with heap:=h',toks:=tk }) E s):
  wpAny (model prog w) A (call (.builtin "min") [x]) Q E s:=by
 refine PySem.call_function_tree F.kind_min F.plain_min F.entry_min (F.args_min1 _) ?_
 refine wpAny_bind (m:=Builtin.Builtins.bindParams "min" ["key", "default"] 0 ⟨[],[]⟩) (wpAny_of_eq (show Builtin.Builtins.bindParams "min" ["key", "default"] 0 ⟨[],[]⟩=pure [none,none] from rfl) ?_)
 refine wpAny_bind (wpAny_pure ?_)
 refine wpAny_bind (wpAny_mono h (λ it s2 h2=>?_) λ _ _ e=>e)
 obtain ⟨I,fp,wr,n,P,St,bt,HI,rfl,W,st,hfp,hn,hi,M,hQ⟩:=h2
 refine wpAny_bind (wpAny_newObj_type ?_)
 have hSf:s2.heap.objs.size∉fp:=λ hm=>Nat.lt_irrefl _ (hfp _ hm)
 have hSw:s2.heap.objs.size∉wr:=λ h=>hSf (W.sub _ h)
 rw [Ku]
 refine wpAny_pure ⟨plainId_quiet F.plain_min_loop _,?_⟩
 refine codeAny_builtin F.entry_min_loop ?_
 rw [Around.under_plainId F.plain_min_loop _]
 have hS:(s2.heap.push { cls:=.type "list",data:=.seq #[] }).get? s2.heap.objs.size=some { cls:=.type "list",data:=.seq #[] }:=Heap.get?_push_size _ rfl
 refine wpAny_bind (m:=seqItems? (.ref s2.heap.objs.size)) (wpAny_seqItems hS rfl ?_)
 refine wpAny_bind (m:=tryCatch (pyNext (.ref I)) _) (wpAny_tryCatch (W.item 0 _ _ _ hn (W.frame _ _ _ st λ b _ o e=>Heap.get?_push_of_some _ e) λ u h' tk pu st' hk=>?_))
 have hS':=hk _ _ hSw hS
 have hi':HI h':=M.keep _ _ hi λ b o b1 _ e=>hk b o b1 e
 refine wpAny_bind (m:=updateSeq s2.heap.objs.size (λ _=>#[u,u])) ?_
 refine wpAny_updateSeq hS' rfl ?_
 rw [Ku]
 have up:∀b o,b≠s2.heap.objs.size->h'.get? b=some o->(h'.update s2.heap.objs.size (Obj.mapSeq λ _=>#[u,u])).get? b=some o:=λ b o b2 e=>(Heap.get?_update_other _ _ (Ne.symm b2)).trans e
 refine wpAny_pure ⟨plainId_quiet F.plain_min_loop _,Ho W M hSf (n - 1) 0 _ u _ (by omega) (W.frame _ _ _ st' λ b bf o e=>up b o (λ z=>hSf (z ▸ bf)) e) (M.keep _ _ hi' λ b o _ b2 e=>up b o b2 e) pu (Heap.get?_update_self _ hS' rfl) λ v' h'' tk'' hp' hk'=>?_⟩
 exact hQ v' h'' tk'' hp' λ b o b1 e=>hk' b o b1 (Nat.ne_of_lt (Heap.lt_size e)) (up b o (Nat.ne_of_lt (Heap.lt_size e)) (hk b o b1 (Heap.get?_push_of_some _ e)))
end
noncomputable def Qq:W->Option (List Int)
 | .tup ws=>intsOf ws
 | _=>none
noncomputable def yJ {α β:Type}(f:α->Option β):List α->Option (List β)
 | []=>some []
 | a::as=>match f a,yJ f as with
  | some b,some bs=>some (b::bs)
  | _,_=>none
noncomputable def Ju:W->Option (List (List Int))
 | .tup ws=>yJ Qq ws
 | _=>none
theorem SN {α β:Type}{f:α->Option β}:∀{as:List α} {bs:List β},yJ f as=some bs->∀{i:Nat} {a:α},as[i]? =some a->∃b,bs[i]? =some b/\f a=some b
 | [],_,_,_,_,h=>by simp at h
 | a::as,bs,e,i,x,h=>by
  unfold yJ at e
  cases e1:f a with
  | none=>rw [e1] at e;cases e
  | some b=>
   cases e2:yJ f as with
   | none=>rw [e1,e2] at e;cases e
   | some bs'=>
    rw [e1,e2] at e
    cases e
    cases i with
    | zero=>cases h;exact ⟨b,rfl,e1⟩
    | succ i=>exact SN e2 (i:=i) h
theorem TV {α β:Type}{f:α->Option β}:∀{as:List α} {bs:List β},yJ f as=some bs->bs.length=as.length
 | [],_,e=>by cases e;rfl
 | a::as,bs,e=>by
  unfold yJ at e
  cases e1:f a with
  | none=>rw [e1] at e;cases e
  | some b=>
   cases e2:yJ f as with
   | none=>rw [e1,e2] at e;cases e
   | some bs'=>
    rw [e1,e2] at e
    cases e
    rw [List.length_cons,List.length_cons,TV e2]
section
variable {X:Cx}{xr:XR}{K:Frag}{e:Expr}{pos:Pos}{pins:List (Addr × Obj)}{σ:St}{H:Hp}{s:Shared}{φ:List Addr}
theorem HB {w:W}{y:V}{v:Value}{ns:List Int}(I:Inv X pins σ H s)(q:RV X.K φ H w y)(r:RelV y v)(e:Qq w=some ns):∃p its,v=.ref p/\IsTup s.heap p its/\IntsAre its.toList ns:=by
 cases w with
 | tup ws=>
  obtain ⟨a,vs,rfl,t,rr⟩:=q
  cases r
  have e':intsOf ws=some ns:=e
  rw [Kr e'] at rr
  rw [zF.ints.mp rr] at t
  obtain ⟨its,rv,p,_⟩:=I.tuple t
  exact ⟨a,its.toArray,rfl,p,by simpa using intsAre_of rv⟩
 | _=>cases e
theorem TM (I:Inv X pins σ H s):∀{ws:List W} {ys:List V} {vs:List Value} {nss:List (List Int)},zF X.K φ H ws ys->Vals ys vs->yJ Qq ws=some nss->kI s.heap vs nss
 | [],_,_,_,r,v,e=>by cases r;cases v;cases e;exact .nil
 | w::ws,_,_,_,⟨y,ys,e1,h,t⟩,v,e=>by
  subst e1
  cases v with
  | cons r v=>
   unfold yJ at e
   cases e1:Qq w with
   | none=>rw [e1] at e;cases e
   | some b=>
    cases e2:yJ Qq ws with
    | none=>rw [e1,e2] at e;cases e
    | some bs=>
     rw [e1,e2] at e
     cases e
     obtain ⟨p,its,rfl,t1,i1⟩:=HB I h r e1
     exact .cons t1 i1 (TM I t v e2)
theorem LI {w:W}{y:V}{v:Value}{nss:List (List Int)}(I:Inv X pins σ H s)(q:RV X.K φ H w y)(r:RelV y v)(e:Ju w=some nss):∃p its,v=.ref p/\IsTup s.heap p its/\kI s.heap its.toList nss:=by
 cases w with
 | tup ws=>
  obtain ⟨a,vs,rfl,t,rr⟩:=q
  cases r
  obtain ⟨its,rv,p,_⟩:=I.tuple t
  exact ⟨a,its.toArray,rfl,p,by simpa using TM I rr rv e⟩
 | _=>cases e
noncomputable def J5 (tss:List (List (List Int))):Nat:=argBest (λ i j=>wt (tss.getD i []) (tss.getD j [])) (tss.length - 1)
noncomputable def PK (K:Frag):List V->Hp->VK->Prop:=λ xs H Q=>∃φ A ws a ys tss,xs=[.ref a]/\(qW K H a ys∨qv K H a ys)/\zG K φ A H/\zF K φ H ws ys/\yJ Ju ws=some tss/\tss≠[]/\∀y,ys[J5 tss]? =some y->Q y H
theorem zF.at_ {ws:List W}{ys:List V}(r:zF K φ H ws ys){i:Nat}{y:V}(h:ys[i]? =some y):∃w,ws[i]? =some w/\RV K φ H w y:=by
 induction ws generalizing ys i with
 | nil=>cases r;simp at h
 | cons w ws ih=>
  obtain ⟨z,zs,e1,q,t⟩:=r
  subst e1
  cases i with
  | zero=>cases h;exact ⟨w,rfl,q⟩
  | succ i=>exact ih t (i:=i) h
theorem Vals.at_:∀{ys:List V} {vs:List Value},Vals ys vs->∀{i:Nat} {v:Value},vs[i]? =some v->∃y,ys[i]? =some y/\RelV y v:=by
 intro ys vs r
 induction r with
 | nil=>intro i v h;simp at h
 | cons q _ ih=>
  intro i v h
  cases i with
  | zero=>cases h;exact ⟨_,rfl,q⟩
  | succ i=>exact ih (i:=i) h
theorem Lx (hc:X.calm=true)(hu:X.A.units+64<cLine):yb X (.builtin "min") (PK X.K):=by
 intro pins s σ H xs us Q I r h
 obtain ⟨φ,A,ws,a,ys,tss,rfl,z,S,rr,et,hne,q⟩:=h
 obtain ⟨u,rfl,ru⟩:=vals1 r
 cases ru
 have hp:0<tss.length:=List.length_pos_iff.mpr hne
 have hlt:=TV et
 have hly:=rr.length
 refine LW (XN I hc z λ its I' fp wr St' s2 rv hz W st hfp back=>?_)
 have hle:=rv.length
 have el:its.length=tss.length:=by omega
 refine ⟨I',fp,wr,_,_,St',λ i j=>wt (tss.getD i []) (tss.getD j []),λ h=>∀b o,b∉wr->s2.heap.get? b=some o->h.get? b=some o,rfl,W,st,hfp,by omega,λ b o _ e=>Heap.get?_push_of_some _ e,⟨?_,?_⟩,?_⟩
 ·intro h h' k k' b o b1 e
  exact k' b o b1 (Nat.ne_of_lt (Heap.lt_size e)) (k b o b1 e)
 ·intro i j vi vj s' Q' E' k h1 h2 hQ
  have I':=back s'.heap s'.toks k
  have rd:∀{i:Nat} {v:Value},its[i]? =some v->∃p its',v=.ref p/\IsTup s'.heap p its'/\kI s'.heap its'.toList (tss.getD i []):=λ {i v} h=>by
   obtain ⟨y,g1,g2⟩:=Vals.at_ rv h
   obtain ⟨w,g3,g4⟩:=zF.at_ rr g1
   obtain ⟨nss,g5,g6⟩:=SN et g3
   have:tss.getD i []=nss:=by rw [List.getD_eq_getElem?_getD,g5];rfl
   rw [this]
   have z:=LI I' g4 g2 g6
   exact z
  obtain ⟨p1,it1,rfl,t1,u1⟩:=rd h1
  obtain ⟨p2,it2,rfl,t2,u2⟩:=rd h2
  exact (Fs (s:=s') t1 t2 u1 u2 (show X.A.units+1+30<cLine by omega) hQ:wpAny (model X.prog X.w) X.A.in1 (compareOp .Lt (.ref p1) (.ref p2)) Q' E' s')
 ·intro v h' tk hv k
  obtain ⟨y,g1,g2⟩:=Vals.at_ rv hv
  rw [el] at g1
  exact ⟨y,H,back h' tk k,g2,q y g1⟩
noncomputable def wG:List W->Hx->R W:=λ ws A=>match yJ Ju ws with
 | some (t::ts)=>(match ws[J5 (t::ts)]? with
  | some w=>.ok w A
  | none=>.bad)
 | _=>.bad
theorem Ds:∀ws A,qB (wG ws A):=λ ws A=>by
 unfold wG
 split
 ·split
  ·exact jX
  ·exact qL
 ·exact qL
theorem HY:Qa K (PK K) wG:=λ φ A H a ys ws Q S z r p=>by
 unfold wG at p
 cases e:yJ Ju ws with
 | none=>rw [e] at p;exact p.elim
 | some tss=>cases tss with
  | nil=>rw [e] at p;exact p.elim
  | cons t ts=>
   rw [e] at p
   dsimp only at p
   refine ⟨φ,A,ws,a,ys,t::ts,rfl,z,S,r,e,(by intro z;cases z),λ y hy=>?_⟩
   obtain ⟨w,h1,h2⟩:=zF.at_ r hy
   rw [h1] at p
   exact p φ H _ .refl S h2
end
section
variable {X:Cx}{xr:XR}{K:Frag}{a b e:Expr}{ma mb:Ev}{pos:Pos}
theorem T7 {A:Hx}{w:W}{ds:List PyData}(h:qf A 8 w=some (.list ds)):PyData.canLayAll0 ds=true/\PyData.depthAll ds<=8:=by
 obtain ⟨h1,h2⟩:=Kn 8 w _ h
 simp only [PyData.canLay0,PyData.depth] at h1 h2
 exact ⟨h1,by omega⟩
noncomputable def Of (K:Frag):R2:=λ x y H Q=>∃φ A u v d ds,zG K φ A H/\RV K φ H u x/\RV K φ H v y/\qf A 8 u=some d/\qf A 8 v=some (.list ds)/\Q (.bl (ds.any λ z=>PyData.eqv z d)) H
theorem ES (hu:X.A.units+64<cLine):qE X (compareOp .In) (Of X.K):=by
 intro pins s σ H x y v u Q I rx ry h
 obtain ⟨φ,A,w1,w2,d,ds,S,q1,q2,e1,e2,q⟩:=h
 obtain ⟨as,h1⟩:=ZQ I S 8 w1 x v d q1 rx e1
 obtain ⟨bs,h2⟩:=ZQ I S 8 w2 y u _ q2 ry e2
 obtain ⟨g1,g2⟩:=Kn 8 w1 d e1
 obtain ⟨g3,g4⟩:=T7 e2
 exact SeqAt.in_list_reads h2 h1 g3 g1 (by omega) ⟨.bl _,H,I,rfl,q⟩
noncomputable def gW:W->W->Hx->R W:=λ x y A=>match qf A 8 x,qf A 8 y with
 | some d,some (.list ds)=>.ok (.bl (ds.any λ z=>PyData.eqv z d)) A
 | _,_=>.bad
theorem DZ:∀x y A,qB (gW x y A):=λ x y A=>by
 unfold gW
 split
 ·exact jX
 ·exact qL
theorem FU:j7 K (Of K) gW:=λ φ A H x y u v Q S q1 q2 p=>by
 unfold gW at p
 cases e1:qf A 8 u with
 | none=>rw [e1] at p;exact p.elim
 | some d=>
  cases e2:qf A 8 v with
  | none=>rw [e1,e2] at p;exact p.elim
  | some d2=>
   rw [e1,e2] at p
   cases d2 with
   | list ds=>exact ⟨φ,A,u,v,d,ds,S,q1,q2,e1,e2,p φ H _ .refl S rfl⟩
   | _=>exact p.elim
theorem Bc {k:Nat}(hr:jn k X.A):Yl X .In gW:=⟨_,ES hr.units,DZ,FU⟩
noncomputable def gQ (p:PyData->Bool):List PyData->Option Nat
 | []=>none
 | d::ds=>if p d then some 0 else (gQ p ds).map (· + 1)
theorem Sg {p:PyData->Bool}:∀{ds:List PyData} {j:Nat},gQ p ds=some j->∃h:j<ds.length,p ds[j]=true/\∀m (hm:m<ds.length),m<j->p ds[m]=false
 | [],_,e=>by cases e
 | d::ds,j,e=>by
  unfold gQ at e
  by_cases hd:p d=true
  ·rw [if_pos hd] at e
   cases e
   exact ⟨Nat.zero_lt_succ _,hd,λ m _ z=>absurd z (Nat.not_lt_zero _)⟩
  ·rw [if_neg hd] at e
   cases e1:gQ p ds with
   | none=>rw [e1] at e;cases e
   | some j'=>
    rw [e1] at e
    cases e
    obtain ⟨h1,h2,h3⟩:=Sg e1
    refine ⟨Nat.succ_lt_succ h1,h2,λ m hm z=>?_⟩
    cases m with
    | zero=>exact Bool.eq_false_iff.mpr hd
    | succ m=>exact h3 m (Nat.lt_of_succ_lt_succ hm) (Nat.lt_of_succ_lt_succ z)
noncomputable def HZ (K:Frag):V->List V->Hp->VK->Prop:=λ x vs H Q=>∃φ A u v y d ds j,vs=[y]/\zG K φ A H/\RV K φ H u x/\RV K φ H v y/\qf A 8 u=some (.list ds)/\qf A 8 v=some d/\gQ (λ z=>PyData.eqv z d) ds=some j/\j<1000000/\Q (.int j) H
theorem LP (hu:X.A.units+64<cLine):WI X "list.index" (HZ X.K):=by
 intro pins s σ H x vs v us Q I rx rv h
 obtain ⟨φ,A,w1,w2,y,d,ds,j,rfl,S,q1,q2,e1,e2,ej,hj,q⟩:=h
 obtain ⟨u,rfl,ru⟩:=rv.one
 obtain ⟨as,h1⟩:=ZQ I S 8 w1 x v _ q1 rx e1
 obtain ⟨bs,h2⟩:=ZQ I S 8 w2 y u d q2 ru e2
 obtain ⟨g1,g2⟩:=Kn 8 w2 d e2
 obtain ⟨g3,g4⟩:=T7 e1
 obtain ⟨f1,f2,f3⟩:=Sg ej
 cases h1 with
 | list a1 a2 a3 a4=>
  rename_i l o items n as'
  obtain ⟨cls,dd,data,sl⟩:=o
  simp only at a2 a3
  subst a2 a3
  have hm:=SeqAt.readsAll_map _ _ _ g3 a4
  have hlen:items.size=ds.length:=by rw [<- hm];simp
  have at_:∀m (h:m<items.size) (h':m<ds.length),SeqAt.readOf s.heap items[m]=ds[m]:=λ m h h'=>by
   have e:(items.toList.map (SeqAt.readOf s.heap))[m]? =ds[m]?:=by rw [hm]
   rw [List.getElem?_map,List.getElem?_eq_getElem h',Array.getElem?_toList,Array.getElem?_eq_getElem h] at e
   exact Option.some.inj e
  refine call_meets F.slot_list_index ⟨_,a1,rfl⟩ F.entry_list_index (F.args_list_index_2 _ _)
   (SeqAt.list_indexAt l items n dd sl u (λ z=>PyData.eqv (SeqAt.readOf s.heap z) d) j (by omega) (by omega) (by rw [at_ j (by omega) f1];exact f2) (λ m h z=>by rw [at_ m h (by omega)];exact f3 m (by omega) z)) ⟨a1,SeqAt.items_eqAt a4 h2 g3 g1 (by omega),?_⟩
  exact ⟨.int j,H,I.tok _,⟨_,rfl⟩,q⟩
noncomputable def Zo:W->W->Hx->R W:=λ x y A=>match qf A 8 x,qf A 8 y with
 | some (.list ds),some d=>(match gQ (λ z=>PyData.eqv z d) ds with
  | some j=>if j<1000000 then .ok (.int j) A else .bad
  | none=>.bad)
 | _,_=>.bad
theorem IK:∀x y A,qB (Zo x y A):=λ x y A=>by
 unfold Zo
 split
 ·split
  ·exact gF jX qL
  ·exact qL
 ·exact qL
end
section
variable {X:Cx}{xr:XR}{K:Frag}{e:Expr}{m:Ev}{pos:Pos}
noncomputable def Yh (g:W->W->W->Hx->R Unit)(mo mi:Ev)(v:W)(k:Hx->R Fl):En->Hx->R Fl:=λ ρ A=>(mo ρ A).bind λ o A2=>(mi ρ A2).bind λ i A3=>(g o i v A3).bind λ _ A4=>k A4
noncomputable def QZ (g:W->W->W->Hx->R Unit)(m mo mi mp mj:Ev):Ex:=λ ρ A=>(m ρ A).bind λ w A1=>match w with
 | .tup [x,y]=>Yh g mo mi x (λ A2=>Yh g mp mj y (λ A3=>.ok (.nx ρ) A3) ρ A2) ρ A1
 | _=>.bad
theorem SV {mo mi:Ev}{t:Qs}{g:W->W->W->Hx->R Unit}{v:V}{w:W}{σ:St}{H:Hp}{φ:List Addr}{A:Hx}{ρ:En}{k:Hx->R Fl}{Q:St->Hp->Prop}{D1:Fl->Hx->Prop}
  (hn:∀o i v A,qB (g o i v A))(hg:Wc X.K t g)(S:zG X.K φ A H)(re:RE X.K φ H ρ σ)(q:RV X.K φ H w v)(h:(Yh g mo mi w k ρ A).post D1 (EB X.K φ H xr))
  (hk:∀A' φ' H',Le X.K φ H φ' H'->zG X.K φ' A' H'->(k A').post D1 (EB X.K φ H xr)->Q σ H'):L2.yh (tM X.K xr mo) (tM X.K xr mi) t v σ H Q:=by
 unfold Yh at h
 refine tM.go S re (zV.mp h) λ w2 A2 φ2 H2 v2 h2 l2 S2 q2=>?_
 refine tM.go S2 (re.mono l2) (qo (zV.mp h2) (λ _ _ z=>z) λ _ _ z=>z.mono l2) λ w3 A3 φ3 H3 v3 h3 l3 S3 q3=>?_
 have l03:=l2.trans l3
 refine hg φ3 A3 H3 v2 v3 v w2 w3 w _ S3 (q2.mono l3) q3 (q.mono l03) ?_
 cases hr:g w2 w3 w A3 with
 | ok u A4=>
  rw [hr] at h3
  exact λ φ4 H4 l4 S4=>hk A4 φ4 H4 (l03.trans l4) S4 h3
 | exc x A4=>exact absurd hr (hn _ _ _ _ x A4)
 | bad=>rw [hr] at h3;exact h3.elim
theorem LZ {o i o2 i2:Expr}{mo mi mp mj:Ev}{t:Qs}{g:W->W->W->Hx->R Unit}{tpos tpos2 pt:Pos}{kt:Nat}(hc:X.calm=true)(ht:Ww X t)(hn:∀o i v A,qB (g o i v A))(hg:Wc X.K t g)(he:SE X xr e m)(ho:SE X xr o mo)(hi:SE X xr i mi)(ho2:SE X xr o2 mp)(hi2:SE X xr i2 mj)
  (hs:swapsWithSole [.Tuple [.Subscript o i tpos,.Subscript o2 i2 tpos2] kt pt] e pos.line X.env=pure false:=by rfl)(hw:swappedStores [.Tuple [.Subscript o i tpos,.Subscript o2 i2 tpos2] kt pt] e X.env=pure none:=by rfl)
  (h1:(assignEach [.Tuple [.Subscript o i tpos,.Subscript o2 i2 tpos2] kt pt] X.env).map (·.2)=[assign (.Tuple [.Subscript o i tpos,.Subscript o2 i2 tpos2] kt pt) X.env]:=by rfl)
  (ha:∀v,assign (.Subscript o i tpos) X.env v=(do
   let ov <- holding [v] (eval o X.env)
   let iv <- holding [v,ov] (eval i X.env)
   standAt tpos
   holding [v,ov,iv] (setItem ov iv v)
   release [v,ov,iv] []):=by intro _;rfl)
  (ha2:∀v,assign (.Subscript o2 i2 tpos2) X.env v=(do
   let ov <- holding [v] (eval o2 X.env)
   let iv <- holding [v,ov] (eval i2 X.env)
   standAt tpos2
   holding [v,ov,iv] (setItem ov iv v)
   release [v,ov,iv] []):=by intro _;rfl)
  (hs1:(assignEach [.Subscript o i tpos,.Subscript o2 i2 tpos2] X.env).map (·.2)=assign (.Subscript o i tpos) X.env::(assignEach [.Subscript o2 i2 tpos2] X.env).map (·.2):=by rfl)
  (hs2:(assignEach [.Subscript o2 i2 tpos2] X.env).map (·.2)=assign (.Subscript o2 i2 tpos2) X.env::(assignEach [] X.env).map (·.2):=by rfl)
  (hn1:(assignEach [.Subscript o i tpos,.Subscript o2 i2 tpos2] X.env).length=2:=by rfl)(hst:(assignEach [.Subscript o i tpos,.Subscript o2 i2 tpos2] X.env).findIdx? (·.1)=none:=by rfl):
  SS X xr (.Assign [.Tuple [.Subscript o i tpos,.Subscript o2 i2 tpos2] kt pt] e pos) (QZ g m mo mi mp mj):=
 PS.imp (Vt he (Pe hc (Kv (Vq ho hi ht ha) (Kv (Vq ho2 hi2 ht ha2) SX hs2) hs1) hn1 hst) hs hw h1) λ D σ H ⟨φ,A,ρ,S,re,h⟩=>by
  refine tM.go S re (zV.mp h) λ w1 A1 φ1 H1 v1 h1 l1 S1 q1=>?_
  split at h1
  ·rename_i x y
   obtain ⟨a,vs,rfl,hq,rs⟩:=q1
   obtain ⟨v1,r1,rfl,g1,v2,r2,rfl,g2,rfl⟩:=rs
   refine ⟨a,[v1,v2],rfl,hq,rfl,v1,[v2],rfl,?_⟩
   refine SV hn hg S1 (re.mono l1) g1 (qo h1 (λ _ _ z=>z) λ _ _ z=>z.mono l1) λ A2 φ2 H2 l2 S2 h2=>?_
   refine ⟨v2,[],rfl,?_⟩
   refine SV hn hg S2 (re.mono (l1.trans l2)) (g2.mono l2) (qo h2 (λ _ _ z=>z) λ _ _ z=>z.mono l2) λ A3 φ3 H3 l3 S3 h3=>?_
   exact ⟨rfl,h3 φ3 H3 σ (l1.trans (l2.trans l3)) S3 (re.mono (l1.trans (l2.trans l3)))⟩
  ·exact h1.elim
end
end Mi
namespace Y
open PySem PySem.Spec PyProof.Rows L2 Mi
@[irreducible] noncomputable def YJ (X:Cx)(xr:XR)(es:List Expr)(ms:List Ev):Prop:=Mi.SJ X xr es ms
theorem Ck:@YJ=@Mi.SJ:=by
 funext X xr es ms
 unfold YJ
 rfl
section
theorem yq:@YE=@Mi.SE/\@YA=@Mi.SA/\@YT=@Mi.ST/\@YW=@Mi.SW/\@YS=@Mi.SS/\@kg=@Mi.WJ/\@YI=@Mi.SI/\@YG=@Mi.SG/\@YF=@Mi.SF/\@YQ=@Mi.SQ/\@ZG=@Mi.Yx/\@YM=@Mi.SM/\@YJ=@Mi.SJ:=⟨VQ,PY,Pr,PC,PR,RW,PH,PV,PZ,Px,R5,P0,Ck⟩
theorem wm {X:Cx}{g:Heap}{xr:XR}{e:Expr}{es:List Expr}{pos:Pos}{k n:Nat}{x:Str}{p:Pos}{f:Fn}{mr:Ea}(xo:gf X g xr)(F:jj X.prog X.w X.K X.mg X.base k x n f)(hr:jn k X.A)(ha:YA X xr (e::es) mr)(hl:Zv mr n)(hg:Gl X x:=by rfl)
  (hdb:(x==("__debug__" : Str))=false:=by decide)(he:starEach (e::es) X.env=(false,eval e X.env)::starEach es X.env:=by rfl)(hpl:(backTo pos (starEach es X.env)).any (·.1)=false:=by rfl):
  YE X xr (.Call (.Name x p) (e::es) [] pos) (zx f mr):=by
 (try simp only [yq] at *)
 obtain ⟨fa,fd,ps,F,hm,hk,hb⟩:=F
 refine PE.imp (Rb F hr hg hm hk hb .nil xo.passes ha hdb he hpl) λ σ H Q ⟨φ,A,ρ,S,re,h⟩=>?_
 have h':=zV.mp h
 refine ⟨φ,A,ρ,S,re,?_⟩
 cases er:mr ρ A with
 | ok ws A1=>
  rw [er] at h'
  intro φ1 H1 vs l1 S1 q1
  have hv:vs.length=n:=by rw [<- q1.length];exact hl ρ A ws A1 er
  rw [List.append_nil]
  refine ⟨hv,φ1,A1,ws,S1,q1,qo h' (λ _ _ z=>z.mono l1) λ y A2 z φ2 H2 l2 S2 Ca hC=>?_⟩
  exact ⟨y,Ca,rfl,hC,z φ2 H2 (l1.trans l2) S2⟩
 | exc y A1=>rw [er] at h';exact h'
 | bad=>rw [er] at h';exact h'
theorem RY {X:Cx}{xr:XR}{e:Expr}{m:Ev}(h:YT X.nox yC e m):YT X xr e λ ρ A=>(m ρ A).nox:=by
 (try simp only [yq] at *)
 refine PT.imp (PT.nox h) λ σ H Q ⟨φ,A,ρ,S,re,q⟩=>⟨φ,A,ρ,S,re,?_⟩
 cases er:m ρ A with
 | ok w A1=>(try dsimp only at q);rw [er] at q;exact q
 | exc y A1=>(try dsimp only at q);rw [er] at q;exact q.elim
 | bad=>(try dsimp only at q);rw [er] at q;exact q.elim
theorem S9 {X:Cx}{xr:XR}{m1:Ex}{sts:List Stmt}(h:kg X.nox yC sts m1):kg X xr sts λ ρ A=>(m1 ρ A).nox:=by
 (try simp only [yq] at *)
 refine yi.imp (yi.nox h) λ D σ H ⟨φ,A,ρ,S,re,q⟩=>⟨φ,A,ρ,S,re,?_⟩
 cases er:m1 ρ A with
 | ok w A1=>(try dsimp only at q);rw [er] at q;exact q
 | exc y A1=>(try dsimp only at q);rw [er] at q;exact q.elim
 | bad=>(try dsimp only at q);rw [er] at q;exact q.elim
theorem Tv {X:Cx}{g:Heap}{xr:XR}{e:Expr}{es:List Expr}{mr:Ea}{x:Str}{top:Str}{np:Pos}{cpos:Pos}{pos:Pos}{n:Nat}(xo:gf X g xr)(c:XB X.K top x)(ha:YA X xr (e::es) mr)(hl:Zv mr n)(hn:n<=sizeLine:=by decide)(hg:Gl X x:=by rfl)(hcalm:X.calm=true:=by rfl)
  (hdb:(x==("__debug__" : Str))=false:=by decide)(he:starEach (e::es) X.env=(false,eval e X.env)::starEach es X.env:=by rfl)(hpl:(backTo cpos (starEach es X.env)).any (·.1)=false:=by rfl):
  YS X xr (.Raise (some (.Call (.Name x np) (e::es) [] cpos)) none pos) (KW x mr):=by
 (try simp only [yq] at *)
 exact HD xo c.at_ c.exc PySem.F.excBase_ValueError ha hl hn hg hcalm hdb he hpl
theorem fnX {P:Program}{w:World}{K:Frag}{mg:Str->Option Value}{base:Heap}{x:Str}{st:Stmt}{f:Addr}{fd:FuncData}{N ps:List Str}{k:Nat}{m:Ex}(F:qF K x x st f fd)(hm:mg x=some (.ref f))(S:qR N ps (qk st))
  (hb:∀(kV doc pm:Value) (an:Option Addr) (cdv ct:Value) (us:List Value),us.length=ps.length->bindArgs (PySem.W.fnOf x x (ZV st) (yG st) (qk st) .none kV doc pm an cdv ct) ⟨us,[]⟩=pure (ps.zip us))
  (hbody:∀(cdv:Value) (A:Around) (outer:List Env) (s:Shared) (H:Hp) (E:XK),jn k (A.deeper (envOfC x (qk st) s.heap.objs.size f cdv))->
   gf (wc (wN P w) P w K mg base N x (qk st) f cdv A outer s H E) s.heap (gi K E)->kg (wc (wN P w) P w K mg base N x (qk st) f cdv A outer s H E) (gi K E) (yG st) m):
  jj P w K mg base (k+1) x ps.length (kB N.length m):=by
 (try simp only [yq] at *)
 refine ⟨f,fd,ps,?_,hm,F.kp,F.binds hb⟩
 obtain ⟨oc,od,kV,doc,pm,an,cdv,ct,osl,rfl,lk,hcd⟩:=F.ex
 refine VH lk hcd S (λ vs H Q E h=>h.len) λ A outer s H vs Q E hr ⟨hl,φ,A1,ws,Sm,r,h⟩=>⟨_,hbody cdv A outer s H E hr BJ,?_⟩
 refine ⟨φ,A1,ws.map some++List.replicate (N.length - ws.length) none,Sm,RE.start r,?_⟩
 have h':=zV.mp h
 show R.post _ (FB K φ H _) _
 cases er:m (ws.map some++List.replicate (N.length - ws.length) none) A1 with
 | ok fl A2=>
  rw [er] at h'
  cases fl with
  | rt w=>exact h'
  | nx ρ=>exact λ φ' H' σ' l S' _=>h' φ' H' .non l S' rfl
  | bk ρ=>exact h'.elim
  | ct ρ=>exact h'.elim
 | exc y A2=>rw [er] at h';exact h'
 | bad=>rw [er] at h';exact h'.elim
theorem DG {X:Cx}{xr:XR}{L:Addr}{D:Addr}{i:Nat}{j:Nat}{l:Nat}{kk:Nat}{x:Str}{n:Str}{y:Str}{xD:Str}{cs:List Str}{PG:Nat->Obj->Addr->Obj->List V->Prop}{lam:Nat->Fn}{bmD:List Value}{newD:String}{np:Pos}{cp:Pos}{ep:Pos}{dp:Pos}{yp:Pos}{np2:Pos}{ap:Pos}{hp:Pos}{pos:Pos}(hL:∀k,Z3 X.prog X.w X.K X.mg X.base kk (PG k) (lam k))(hr:jn kk X.A)(hst:X.stack=X.env::X.outer)(hFr:X.env.frame=some L)(hD:yA X.K xD (.ref D))(exD:Mi.gc X.K D bmD newD=true)(hbD:bmD.contains (.type "BaseException")=true)
  (hcs:∀c,cs.contains c=true->∀C,yA X.K c (.ref C)->∃bmC newC,Mi.gc X.K C bmC newC=true/\Qr X.K C D=true)
  (hN:X.N.Nodup)(hi:X.N[i]? =some x)(hx:X.env.scope.names.lookup x=some .local)(hl:X.N[l]? =some n)(hn:X.env.scope.names.lookup n=some .local)(hj:X.N[j]? =some y)(hy:X.env.scope.names.lookup y=some .local)
  (hg:Gl X xD)(hs1:swapsWith (.Call (.Name x np) [] [] cp) none ep.line X.env=pure false:=by rfl)(hs2:swapsWith (.Name n np2) (some (.Name y yp)) ap.line X.env=pure false:=by rfl)
  (hdx:(x==("__debug__" : Str))=false:=by decide)(hdn:(n==("__debug__" : Str))=false:=by decide)(hdD:(xD==("__debug__" : Str))=false:=by decide):
  YS X xr (.Try [.Expr (.Call (.Name x np) [] [] cp) ep] [.ExceptHandler (some (.Name xD dp)) (some n) [.Assign [.Name y yp] (.Name n np2) ap] hp] [] [] pos) (Yd i j l cs PG lam):=by
 (try simp only [yq] at *)
 intro pins s σ H D0 I ⟨φ,A,ρ,S,re,h⟩
 unfold Yd Wr at h
 cases ei:ρ[i]? with
 | none=>rw [ei] at h;exact h.elim
 | some ow=>
  cases ow with
  | none=>rw [ei] at h;exact h.elim
  | some w=>
   rw [ei] at h
   cases w with
   | clo k ws P=>
    dsimp only at h
    by_cases hP:P=PG k
    ·rw [if_pos hP] at h
     subst hP
     obtain ⟨v,hv,a,ob,u,c,oc,uc,vs,rfl,h1,h2,hp',rvs⟩:=re.get i _ ei
     obtain ⟨⟨fd0,hfd⟩,fd,F,hb⟩:=hL k a ob u c oc uc vs hp'
     have ho:s.heap.get? a=some ob:=(show qN X.prog X.w H s.heap a (.frz ob u) from I.hok a _ h1).1
     refine DL (i:=l) (L:=L) (k:=Bn X.K φ H ρ j l D0)
      I hst hFr hD exD hbD hN hl (.inl hn) ?body ?suite hg hdD (.inr hn)
     case body=>
      refine wpAny_execs_cons (wpAny_Expr_any ?_ I.quiet hs1)
      obtain ⟨m,hns,hloc⟩:=I.loc
      obtain ⟨u',r',lk⟩:=hloc i x (.ref a) hi hv (.inl hx)
      obtain rfl:u'=Value.ref a:=r'
      have hm:m x=some (.ref a):=by
       rcases lk with ⟨_,e⟩ | ⟨q | q,_⟩
       ·exact e
       ·rw [show X.env.kindOf x=some .local from hx] at q;cases q
       ·rw [show X.env.kindOf x=some .local from hx] at q;cases q
      refine wpAny_Call_Name_kw (wpAny_Name (wpAny_loadName_local I.ok.kind hx hns hm ?_) hdx)
      have hK:Frag.In [(a,ob)] s.heap:=λ b o e=>by
       rw [List.lookup_cons] at e
       by_cases hb:b=a
       ·subst hb;simp at e;subst e;exact ho
       ·have:(b==a)=false:=by simpa using hb
        rw [this] at e;cases e
      have hkp:PySem.W.keepIn [(a,ob)] (.ref a)=true:=by
       unfold PySem.W.keepIn
       obtain ⟨o1,o2,o3,o4⟩:=ob
       cases (show o3=_ from hfd)
       simp [List.lookup_cons]
      refine PySem.W.callWith_K0 (K:=[(a,ob)]) (first:=[]) hK hkp ?_
      refine wpAny_call (codeAny_mono (F.run X.A X.stack s H ⟨[],[]⟩ [] [] (λ _ H1=>D0.nx σ H1)
       (BY X.K φ H ρ j l D0 cs)
       hr I.env0 (hb s) .nil ⟨rfl,h1,h2,φ,A,ws,S,rvs,?_⟩) λ r s' hq=>?_)
      ·cases er:lam k ws A with
       | ok w1 A1=>
        rw [er] at h
        exact λ φ' H' v' l' S' _=>h φ' H' σ l' S' (re.mono l')
       | exc xn A1=>
        rw [er] at h
        dsimp only at h
        by_cases hc:cs.contains xn=true
        ·rw [if_pos hc] at h
         exact λ φ' H' l' S' Ca hCa=>⟨xn,Ca,rfl,hCa,hc,φ',A1,l',S',h⟩
        ·rw [if_neg hc] at h;exact h.elim
       | bad=>rw [er] at h;exact h.elim
      ·cases r with
       | error e=>
        unfold CR at hq
        dsimp only at hq
        have un:∀b o,s.heap.get? b=some o->∃o',s'.heap.get? b=some o':=by
         obtain ⟨_,_,_,_,_,_,un,_⟩:=hq
         exact λ b o e=>un.there b o e (by simp)
        obtain ⟨ea,C,H',rfl,I',ly,tr,xn,Ca,ec,hCa,hc,φ1,A1,l1,S1,hn1⟩:=Ts I hq s.heap λ b o e=>⟨o,e⟩
        cases ec
        obtain ⟨bmC,newC,exC,up⟩:=hcs xn hc C hCa
        exact ⟨ea,C,H',bmC,newC,rfl,I',ly,tr,un,exC,up,λ oe hoe nea=>⟨xn,φ1,A1,l1.trans (Le.new nea),S1.lay nea,⟨ea,oe,.own 0,C,rfl,jA,hoe,hCa⟩,hn1⟩⟩
       | ok fl=>
        cases fl with
        | ret u1=>
         obtain ⟨v1,H1,I1,_,q1⟩:=I.after hq
         exact wpAny_execs_nil ⟨rfl,σ,H1,I1,q1⟩
        | next=>exact False.elim hq
        | brk=>exact False.elim hq
        | cont=>exact False.elim hq
     case suite=>
      rintro ea C H2 s2 I2 ⟨xn,φ',A',l',S',rx,hn'⟩ E'
      refine Mw (i:=l) (j:=j) I2 hN hl hj hn (.inl hy) (λ s' I'=>?_) hs2 (.inr hy) hdn
      exact ⟨_,H2,I',hn' φ' H2 _ l' S' ((((re.mono l').set rx).set rx).unset)⟩
    ·rw [if_neg hP] at h;exact h.elim
   | _=>exact h.elim
theorem yI {X:Cx}{xr:XR}{e:Expr}{m:Ev}{pos:Pos}{p:Pos}{p':Pos}{f:Str->Option Bool}{x:Str}{C:Addr}(hx:J9 X.K f (.ref C))(hc:yA X.K x (.ref C))(hm:X.mg "isinstance" = none)(ha:YE X xr e m)(hg:Gl X "isinstance" := by rfl)(hg':Gl X x:=by rfl)(hd:(x==("__debug__" : Str))=false:=by decide)
  (h1:starEach [e,.Name x p'] X.env=(false,eval e X.env)::starEach [.Name x p'] X.env:=by rfl)(h2:(backTo pos (starEach [.Name x p'] X.env)).any (·.1)=false:=by rfl):
  YE X xr (.Call (.Name "isinstance" p) [e,.Name x p'] [] pos) (qC f m):=by
 (try simp only [yq] at *)
 have hp:PE X (.Name x p') (tC (.ref C)):=λ pins s σ H Q I h=>J1 I hg' (PySem.W.mg_of I.mod.kin I.mod.glob hc) ⟨.ref C,H,I,rfl,h⟩ hd
 exact PE.imp (ZP (T5 (cv:=.ref C) hx λ u r=>r) hg hm (by rfl) (jk ha (jk hp j6) h1) (by decide) (by decide) h1 h2) (qC.read λ σ H Q h=>h)
theorem FG {X:Cx}{xr:XR}{e:Expr}{m:Ev}{pos:Pos}{p:Pos}{p':Pos}{f:Str->Option Bool}{x:Str}{T:String}(hx:J9 X.K f (.type T))(hm:X.mg "isinstance" = none)(hm':X.mg x=none)(hb:bootBuiltins x=some (.type T))(ha:YE X xr e m)(hg:Gl X "isinstance" := by rfl)(hg':Gl X x:=by rfl)(hn:x ≠ "__name__" := by decide)(hd:(x==("__debug__" : Str))=false:=by decide)
  (h1:starEach [e,.Name x p'] X.env=(false,eval e X.env)::starEach [.Name x p'] X.env:=by rfl)(h2:(backTo pos (starEach [.Name x p'] X.env)).any (·.1)=false:=by rfl):
  YE X xr (.Call (.Name "isinstance" p) [e,.Name x p'] [] pos) (qC f m):=by
 (try simp only [yq] at *)
 exact PE.imp (ZP (T5 (cv:=.ty T) hx λ u r=>r) hg hm (by rfl) (jk ha (jk (KS hg' hm' hb (v:=.ty T) rfl hn hd) j6) h1) (by decide) (by decide) h1 h2) (qC.read λ σ H Q h=>h)
theorem Q0 {X:Cx}{xr:XR}{n:Nat}{k:Nat}{q:Str}{Pt:Addr}{c:Addr}{ls:List Lm}{t:Lm}{pos:Pos}(ht:ls[k]? =some t)(L:VT X.N X.env.scope t=true)(hB:BMain X.mg X.base)(hcode:X.env.code=.ref c)(C:PySem.W.CodeHd X.base c Pt)(hq:X.env.qual ++ "<lambda>" = q)(hdef:defaultsOf t.params X.env=([],[])):
  YE X xr (.Lambda t.params t.body t.scope pos) (yR n q Pt k (gY X.env q ls k)):=by
 (try simp only [yq] at *)
 intro pins s σ H Q I h
 rw [Dg ht] at h
 exact Dj hB hcode C (U4 λ y hy e=>I.ok.has _ ((kY L).free y hy e)) hq hdef pins s σ H Q I h
theorem S8 {X:Cx}{xr:XR}{N:List Str}{sc:Scope}{ls:List Lm}{j:Nat}{kk:Nat}{i:Nat}{nl:Nat}{q:Str}{x:Str}{f:Str}{RF:Nat->List W->Hx->R W}{p:Pos}{p2:Pos}{p3:Pos}{p4:Pos}{pos:Pos}{iter:Expr}{mi:Ei}{tw:Tg}(hfn:∀x,X.fn x=true)(hl:∀t∈ls,wC X.prog X.w X.K X.mg j q t)(hix:∀t∈ls,Jt X t)
  (hR:∀base PG,(∀k,Z3 X.prog X.w X.K X.mg base (j+1) (PG k) (yc ls k))->zC X.prog X.w X.K X.mg base kk f 1 (Zs PG RF))(hr:jn kk X.A)(hc:X.calm=true)(S:gC X sc)(hcap:Z2 X.N N sc nl []=true)(hw:YI X xr (.Name x p4) iter mi)
  (hgt:∀s H fp,YG (jg X N sc s H fp jK) (.Name x p4) tw)(hi:N[i]? =some x)(hv:JD (relabel sc X.env) x)(hg:∀s H fp,Gl (jg X N sc s H fp jK) f)(hdx:(x==("__debug__" : Str))=false:=by decide)(hcx:(x==("__classdict__" : Str))=false:=by decide)(hdf:(f==("__debug__" : Str))=false:=by decide)
  (he:∀env:Env,starEach [.Name x p2] env=(false,eval (.Name x p2) env)::starEach [] env:=by intro _;rfl)(hpl:∀env:Env,(backTo p3 (starEach [] env)).any (·.1)=false:=by intro _;rfl)
  (hs:∀x,foldedSetIterable iter X.env x=pure x:=by intro _;rfl):
  YE X xr (.ListComp (.Call (.Name f p) [.Name x p2] [] p3) [⟨.Name x p4,iter,[],0⟩] sc pos) (qO (Qo nl mi tw i (gY X.env q ls) ls RF)):=by
 (try simp only [yq] at *)
 intro pins s σ H Q I h
 obtain ⟨φ,A,ρ,Sm,re,h⟩:=qO.read σ H Q h
 rw [eval_ListComp]
 refine X5 (use:=none) (N:=N) (nl:=nl) (cap:=[]) (wi:=tI X.K xr mi) (g:=tG X.K tw) (ti:=tT X.K yC (zi (.bl true))) (tm:=Uk (λ φ H=>RE X.K φ H ρ σ) X.K (zJ (ZD i (gY X.env q ls) ls RF ρ))) hc S hcap (λ g' z=>by cases z) hw
  (λ s3 H3 fp I3 f3=>⟨hgt s3 H3 fp,Mi.jo,FA (λ _ _ z=>z) (Ft I3 f3 hfn hl hix hR hr hi hv (hg s3 H3 fp) hdx hcx hdf (he _) (hpl _)) rfl⟩) I (Q:=Q) ?T (λ D C s' H' m I' q hn h1 h2 h3 h4 h5=>?_) hs
 case T=>
  refine ⟨φ,A,ρ,Sm,re,qo (zV.mp h) (λ jt A1 h1 φ1 H1 J l1 S1 jr D hD hK=>?_) λ _ _ z=>z⟩
  have ln:Le X.K φ1 H1 φ1 (upd H1 D (.lst [])):=Le.new hD
  have h1':=zV.mp h1
  refine qt.readG (λ φ H φ' H' l g=>RE.monoW g l) (re.mono (l1.trans ln)) (jr.mono ⟨ln.ex,ln.tp,ln.fz⟩) (S1.lay hD) ((re.mono (l1.trans ln)).w9) jA (S1.notin hD hK) .nil ?_ (f:=jt.len) (acc:=[])
  cases er:qt jt tw (zi (.bl true)) (zJ (ZD i (gY X.env q ls) ls RF ρ)) jt.len 0 (gL nl [] ρ) [] A1 with
  | ok p A2=>
   rw [er] at h1'
   intro φ2 H2 σ2 zs l2 n2 S2 re2 d2 r2
   have l02:=l1.trans (Le.ofD hD l2)
   exact h1' φ2 H2 D zs l02 S2 (l1.st D hD) d2 n2 r2
  | exc x A2=>rw [er] at h1';exact h1'.elim
  | bad=>rw [er] at h1';exact h1'.elim
 ·exact ⟨m,hn,λ h' sb=>⟨.ref D,H',I'.turned (t':=s'.toks) (λ b o hb e=>(sb.2 b hb).trans e) h1 h2 (.inr h3) h4 h5,rfl,q⟩⟩
theorem Ad {P:Program}{w:World}{K:Frag}{mg:Str->Option Value}{base:Heap}{x q:Str}{st:Stmt}{f c Pt:Addr}{fd:FuncData}{N ps:List Str}{k:Nat}{ls:List Lm}{m:jJ->Ex}(F:qF K x x st f fd)(hn:PySem.W.nsIn K mainGlobals x=some (some (.ref f)))(ht:PySem.W.tabIn K x=some (c,Pt))(S:qR N ps (qk st))
  (hbody:∀(A:Around) (outer:List Env) (s:Shared) (H:Hp) (E:XK),jn k (A.deeper (envOfC x (qk st) s.heap.objs.size f (.ref c)))->
   kg (wc wK P w K mg base N x (qk st) f (.ref c) A outer s H E).nox yC (yG st) (m (gY (envOfC x (qk st) s.heap.objs.size f (.ref c)) q ls))):
  yt P w K mg base wK (k+1) f fd ps (spT K ps.length λ PF=>zY N.length (m PF)):=by
 (try simp only [yq] at *)
 obtain ⟨oc,od,kV,doc,pm,an,cdv,ct,osl,rfl,lk,hcd⟩:=F.ex
 have hcv:cdv=.ref c:=Il hn lk ht
 subst hcv
 refine VH lk hcd S (λ vs H Q E h=>h.len) λ A outer s H vs Q E hr ⟨hl,φ,A1,ws,Sm,r,h⟩=>⟨_,yi.nox (hbody A outer s H E hr),?_⟩
 refine ⟨φ,A1,ws.map some++List.replicate (N.length - ws.length) none,Sm,RE.start r,?_⟩
 have h':=zV.mp (h (gY (envOfC x (qk st) s.heap.objs.size f (.ref c)) q ls))
 show R.post _ (FB K φ H _) _
 cases er:m (gY (envOfC x (qk st) s.heap.objs.size f (.ref c)) q ls) (ws.map some++List.replicate (N.length - ws.length) none) A1 with
 | ok fl A2=>
  rw [er] at h'
  cases fl with
  | rt w=>exact h'
  | nx ρ=>exact λ φ' H' σ' l S' _=>h' φ' H' .non l S' rfl
  | bk ρ=>exact h'.elim
  | ct ρ=>exact h'.elim
 | exc y A2=>rw [er] at h';exact h'.elim
 | bad=>rw [er] at h';exact h'.elim
theorem Dr {X:Cx}{xr:XR}{e:Expr}{m:Ev}{pos:Pos}{p:Pos}{p1:Pos}{p2:Pos}{pt:Pos}{x1:Str}{x2:Str}{kt:Nat}(t t2:Ty)(hm:X.mg "isinstance" = none)(hm1:X.mg x1=none)(hm2:X.mg x2=none)(hx1:bootBuiltins x1=some (.type t.nm))(hx2:bootBuiltins x2=some (.type t2.nm))(ha:YE X xr e m)(hg:Gl X "isinstance" := by rfl)(hg1:Gl X x1:=by rfl)(hg2:Gl X x2:=by rfl)
  (hn1:x1 ≠ "__name__" := by decide)(hd1:(x1==("__debug__" : Str))=false:=by decide)(hn2:x2 ≠ "__name__" := by decide)(hd2:(x2==("__debug__" : Str))=false:=by decide)
  (h0:starEach [.Name x1 p1,.Name x2 p2] X.env=(false,eval (.Name x1 p1) X.env)::starEach [.Name x2 p2] X.env:=by rfl)(h00:starEach [.Name x2 p2] X.env=(false,eval (.Name x2 p2) X.env)::starEach [] X.env:=by rfl)
  (h1:starEach [e,.Tuple [.Name x1 p1,.Name x2 p2] kt pt] X.env=(false,eval e X.env)::starEach [.Tuple [.Name x1 p1,.Name x2 p2] kt pt] X.env:=by rfl)(h2:(backTo pos (starEach [.Tuple [.Name x1 p1,.Name x2 p2] kt pt] X.env)).any (·.1)=false:=by rfl):
  YE X xr (.Call (.Name "isinstance" p) [e,.Tuple [.Name x1 p1,.Name x2 p2] kt pt] [] pos) (Ob t t2 m):=by
 (try simp only [yq] at *)
 exact PE.imp (ZP IS hg hm (by rfl) (jk ha (jk (Pl (jk (KS hg1 hm1 hx1 (v:=.ty t.nm) rfl hn1 hd1) (jk (KS hg2 hm2 hx2 (v:=.ty t2.nm) rfl hn2 hd2) j6 h00) h0)) j6) h1) (by decide) (by decide) h1 h2) λ σ H Q ⟨φ,A,ρ,S,re,h⟩=>by
   refine tM.go S re (zV.mp h) λ w A1 φ1 H1 v h1 l1 S1 q1=>?_
   cases et:gk w A1 with
   | none=>rw [et] at h1;exact h1.elim
   | some t'=>
    rw [et] at h1
    refine ⟨by show 2<=sizeLine;decide,λ l hl=>⟨v,t',l,rfl,qv.of jA,?_,h1 φ1 _ _ (l1.trans (Le.new hl)) (S1.lay hl) rfl⟩⟩
    exact T3 (S1.lay hl) (q1.mono (Le.new hl)) et
theorem Dz {X:Cx}{xr:XR}{e:Expr}{m:Ev}{pos:Pos}{tg:Expr}{tw:Tg}(he:YE X xr e m)(hg:YG X tg tw)(hs:swapsWithSole [tg] e pos.line X.env=pure false:=by rfl)(hw:swappedStores [tg] e X.env=pure none:=by rfl)(h1:(assignEach [tg] X.env).map (·.2)=[assign tg X.env]:=by rfl):YS X xr (.Assign [tg] e pos) (Yj m tw):=by
 (try simp only [yq] at *)
 exact PS.imp (Vt he hg hs hw h1) λ D σ H ⟨φ,A,ρ,S,re,h⟩=>by
   refine tM.go S re (zV.mp h) λ w A1 φ1 H1 v h1 l1 S1 q1=>?_
   cases et:tw w ρ with
   | none=>rw [et] at h1;exact h1.elim
   | some ρ'=>
    rw [et] at h1
    exact ⟨φ1,A1,ρ,w,ρ',S1,re.mono l1,q1,et,λ σ' re'=>h1 φ1 H1 σ' l1 S1 re'⟩
end
section
theorem Td {X:Cx}{xr:XR}{a:Expr}{b:Expr}{ma:Ev}{mb:Ev}{apos cpos:Pos}(ho:YE X xr a ma)(he:YE X xr b mb)(hs:starEach [b] X.env=(false,eval b X.env)::starEach [] X.env:=by rfl)
  (hbase:attributeBase a "extend" X.env (eval a X.env)=eval a X.env:=by rfl)
  (hfew:((backTo cpos (starEach [b] X.env)).all (λ x=>!x.1)&&(backToKw cpos (keywordEach [] X.env)).all (λ x=>x.1.isSome)
   && decide ([b].length+([]:List Keyword).length+(if ([]:List Keyword).isEmpty then 0 else 1)<30))=true:=by rfl)(hline:(apos.endLine==cpos.line)=true:=by rfl):
  YE X xr (.Call (.Attribute a "extend" apos) [b] [] cpos) (qx wU ma mb):=by
 (try simp only [yq] at *)
 exact We PySem.F.slot_list_extend (by kernel_rfl) MY Lj (λ φ A H x y u v Q S q1 q2 p=>by
   unfold wU at p
   cases u with
   | ref n=>
    cases v with
    | ref k=>
     dsimp only at p
     cases e1:A[n]? with
     | none=>rw [e1] at p;exact p.elim
     | some o=>cases o with
      | lst ws=>
       cases e2:A[k]? with
       | none=>rw [e1,e2] at p;exact p.elim
       | some o2=>cases o2 with
        | lst us=>
         rw [e1,e2] at p
         dsimp only at p
         by_cases hz:ws.length+us.length<=zP
         ·rw [if_pos hz] at p
          obtain ⟨l,xs,rfl,f1,g1,r1⟩:=S.lst q1 e1
          obtain ⟨b',zs,rfl,f2,g2,r2⟩:=S.lst q2 e2
          refine ⟨l,b',xs,zs,rfl,rfl,g1,g2,?_,?_⟩
          ·rw [<- r1.length,<- r2.length]
           have:sizeLine=16777216:=sizeLine_eq
           unfold zP at hz
           omega
          ·obtain ⟨w1,w2⟩:=S.write (o:=.lst ws) (o':=.lst (ws++us)) e1 rfl rfl f1 (u:=.lst (xs++zs)) ⟨xs++zs,jA,(r1.append r2).mono (Le.upd f1 (λ _ z=>by rw [g1] at z;cases z) λ _ _ z=>by rw [g1] at z;cases z)⟩
           exact p _ _ _ w1 w2 rfl
         ·rw [if_neg hz] at p;exact p.elim
        | _=>rw [e1,e2] at p;exact p.elim
      | _=>rw [e1] at p;cases e2:A[k]? with
       | none=>rw [e2] at p;exact p.elim
       | some _=>rw [e2] at p;exact p.elim
    | _=>exact p.elim
   | _=>cases v<;>exact p.elim) ho he hs hbase hfew hline
theorem MP {X:Cx}{xr:XR}{e:Expr}{m:Ev}{pos:Pos}{p p' pos':Pos}(hc:X.calm=true)(hm:X.mg "len" = none)(hm':X.mg "set" = none)(ha:YE X xr e m)(hg:Gl X "len" := by rfl)(hg':Gl X "set" := by rfl)(hs:starEach [e] X.env=(false,eval e X.env)::starEach [] X.env:=by rfl)
  (hs':starEach [.Call (.Name "set" p') [e] [] pos'] X.env=(false,eval (.Call (.Name "set" p') [e] [] pos') X.env)::starEach [] X.env:=by rfl):
  YE X xr (.Call (.Name "len" p) [.Call (.Name "set" p') [e] [] pos'] [] pos) (Rq m):=by
 (try simp only [yq] at *)
 exact PE.imp (ZP Lo hg hm (by rfl) (jk (JN (Ln hc) hg' hm' (by rfl) (jk ha j6 hs) (by decide) (by decide) hs (by rfl)) j6 hs') (by decide) (by decide) hs' (by rfl)) λ σ H Q ⟨φ,A,ρ,S,re,h⟩=>by
   refine tM.go S re (zV.mp h) λ w A1 φ1 H1 v h1 l1 S1 q1=>?_
   cases w with
   | tup ws=>
    obtain ⟨a,vs,rfl,t,r⟩:=q1
    unfold Rh at h1
    dsimp only at h1
    revert h1
    cases ei:intsOf ws with
    | none=>intro h1;exact h1.elim
    | some ns=>
     intro h1
     dsimp only at h1
     have ew:=Kr ei
     subst ew
     have ev:=zF.ints.mp r
     subst ev
     by_cases hz:ns.length<=100
     ·rw [if_pos hz] at h1
      refine ⟨a,ns,rfl,t,hz,λ l hl=>⟨l,_,_,rfl,jA,Nat.le_trans (firstMet_length_le _ _) hz,?_⟩⟩
      exact h1 _ _ _ (l1.trans (Le.new hl)) (S1.lay hl) rfl
     ·rw [if_neg hz] at h1;exact h1.elim
   | _=>exact h1.elim
theorem Vg {X:Cx}{xr:XR}{e:Expr}{m:Ev}{pos:Pos}{p:Pos}(hm:X.mg "len" = none)(ha:YE X xr e m)(hg:Gl X "len" := by rfl)(hs:starEach [e] X.env=(false,eval e X.env)::starEach [] X.env:=by rfl):
  YE X xr (.Call (.Name "len" p) [e] [] pos) (yy m):=by
 (try simp only [yq] at *)
 exact PE.imp (ZP L1 hg hm (by rfl) (jk ha j6 hs) (by decide) (by decide) hs (by rfl)) λ σ H Q ⟨φ,A,ρ,S,re,h⟩=>by
   refine tM.go S re (zV.mp h) λ w A1 φ1 H1 v h1 l1 S1 q1=>?_
   cases w with
   | ref n=>
    dsimp only at h1
    revert h1
    cases e1:A1[n]? with
    | none=>intro h1;exact h1.elim
    | some o=>
     cases o with
     | dct kvs=>
      intro h1
      obtain ⟨p,us,rfl,f1,g1,g2,g3⟩:=S1.dct q1 e1
      refine ⟨p,us,rfl,g1,?_⟩
      have:us.length=kvs.length:=by have:=congrArg List.length g2;simpa using this
      rw [this]
      exact h1 _ _ _ l1 S1 rfl
     | _=>intro h1;exact h1.elim
   | _=>exact h1.elim
end
theorem RC {X:Cx}{xr:XR}{a:Expr}{b:Expr}{ma:Ev}{mb:Ev}{pos:Pos}(ha:YE X xr a ma)(hb:YE X xr b mb):YE X xr (.BinOp a .Mult b pos) (zl Zr ma mb):=by
 (try simp only [yq] at *)
 exact Qh HR H9 L6 ha hb
theorem RK {X:Cx}{xr:XR}{e:Expr}{pos:Pos}{p:Pos}{q:jG}{k:Nat}(hc:X.calm=true)(hr:jn k X.A)(hm:X.mg "min" = none)(ha:YQ X xr e q)(hg:Gl X "min" := by rfl)(he:starEach [e] X.env=(false,eval e X.env)::starEach [] X.env:=by rfl):
  YE X xr (.Call (.Name "min" p) [e] [] pos) (mQ wG q):=by
 (try simp only [yq] at *)
 exact K8 (Lx hc hr.units) Ds HY hm (by rfl) ha hg (by decide) (by decide) he (by rfl)
theorem IL {X:Cx}{xr:XR}{a:Expr}{b:Expr}{ma:Ev}{mb:Ev}{k:Nat}{apos cpos:Pos}(hr:jn k X.A)(ho:YE X xr a ma)(he:YE X xr b mb)(hs:starEach [b] X.env=(false,eval b X.env)::starEach [] X.env:=by rfl)
  (hbase:attributeBase a "index" X.env (eval a X.env)=eval a X.env:=by rfl)
  (hfew:((backTo cpos (starEach [b] X.env)).all (λ x=>!x.1)&&(backToKw cpos (keywordEach [] X.env)).all (λ x=>x.1.isSome)
   && decide ([b].length+([]:List Keyword).length+(if ([]:List Keyword).isEmpty then 0 else 1)<30))=true:=by rfl)(hline:(apos.endLine==cpos.line)=true:=by rfl):
  YE X xr (.Call (.Attribute a "index" apos) [b] [] cpos) (qx Zo ma mb):=by
 (try simp only [yq] at *)
 exact We PySem.F.slot_list_index PySem.F.type_list_index (LP hr.units) IK (λ φ A H x y u v Q S q1 q2 p=>by
   unfold Zo at p
   cases e1:qf A 8 u with
   | none=>rw [e1] at p;exact p.elim
   | some d1=>
    cases e2:qf A 8 v with
    | none=>
     rw [e1,e2] at p
     cases d1<;>exact p.elim
    | some d=>
     rw [e1,e2] at p
     cases d1 with
     | list ds=>
      dsimp only at p
      cases e3:gQ (λ z=>PyData.eqv z d) ds with
      | none=>rw [e3] at p;exact p.elim
      | some j=>
       rw [e3] at p
       dsimp only at p
       by_cases hj:j<1000000
       ·rw [if_pos hj] at p
        exact ⟨φ,A,u,v,y,d,ds,j,rfl,S,q1,q2,e1,e2,e3,hj,p φ H _ .refl S rfl⟩
       ·rw [if_neg hj] at p;exact p.elim
     | _=>exact p.elim) ho he hs hbase hfew hline
theorem Fv {X:Cx}{xr:XR}{e:Expr}{m:Ev}{pos:Pos}{o i o2 i2:Expr}{mo mi mp mj:Ev}{tpos tpos2 pt:Pos}{kt:Nat}(hc:X.calm=true)(he:YE X xr e m)(ho:YE X xr o mo)(hi:YE X xr i mi)(ho2:YE X xr o2 mp)(hi2:YE X xr i2 mj)
  (hs:swapsWithSole [.Tuple [.Subscript o i tpos,.Subscript o2 i2 tpos2] kt pt] e pos.line X.env=pure false:=by rfl)(hw:swappedStores [.Tuple [.Subscript o i tpos,.Subscript o2 i2 tpos2] kt pt] e X.env=pure none:=by rfl)
  (h1:(assignEach [.Tuple [.Subscript o i tpos,.Subscript o2 i2 tpos2] kt pt] X.env).map (·.2)=[assign (.Tuple [.Subscript o i tpos,.Subscript o2 i2 tpos2] kt pt) X.env]:=by rfl)
  (ha:∀v,assign (.Subscript o i tpos) X.env v=(do
   let ov <- holding [v] (eval o X.env)
   let iv <- holding [v,ov] (eval i X.env)
   standAt tpos
   holding [v,ov,iv] (setItem ov iv v)
   release [v,ov,iv] []):=by intro _;rfl)
  (ha2:∀v,assign (.Subscript o2 i2 tpos2) X.env v=(do
   let ov <- holding [v] (eval o2 X.env)
   let iv <- holding [v,ov] (eval i2 X.env)
   standAt tpos2
   holding [v,ov,iv] (setItem ov iv v)
   release [v,ov,iv] []):=by intro _;rfl)
  (hs1:(assignEach [.Subscript o i tpos,.Subscript o2 i2 tpos2] X.env).map (·.2)=assign (.Subscript o i tpos) X.env::(assignEach [.Subscript o2 i2 tpos2] X.env).map (·.2):=by rfl)
  (hs2:(assignEach [.Subscript o2 i2 tpos2] X.env).map (·.2)=assign (.Subscript o2 i2 tpos2) X.env::(assignEach [] X.env).map (·.2):=by rfl)
  (hn1:(assignEach [.Subscript o i tpos,.Subscript o2 i2 tpos2] X.env).length=2:=by rfl)(hst:(assignEach [.Subscript o i tpos,.Subscript o2 i2 tpos2] X.env).findIdx? (·.1)=none:=by rfl):
  YS X xr (.Assign [.Tuple [.Subscript o i tpos,.Subscript o2 i2 tpos2] kt pt] e pos) (QZ yr m mo mi mp mj):=by
 (try simp only [yq] at *)
 exact LZ hc set_list RU RG he ho hi ho2 hi2 hs hw h1 ha ha2 hs1 hs2 hn1 hst
end Y
namespace G
open PySem L2 Mi
noncomputable def top (i:Nat):Stmt:=PySem.Challenge.pw_nearkinds_k82_tables_alike.main.body.getD i (.Pass ⟨0,0,0,0⟩)
structure Bu (mg:Str->Option Value):Prop where
 NS:mg "ValueError" = none
 Ya:mg "all" = none
 Vr:mg "bool" = none
 U0:mg "enumerate" = none
 K7:mg "int" = none
 jy:mg "isinstance" = none
 jI:mg "len" = none
 ZY:mg "list" = none
 Yb:mg "max" = none
 Jr:mg "min" = none
 j8:mg "range" = none
 CU:mg "set" = none
 jT:mg "tuple" = none
 Bf:mg "zip" = none
 O8:∃t,mg "MOST_FORMED" = some (.int 6 t)
 O1:∃t,mg "MOST_PLACES" = some (.int 8 t)
noncomputable abbrev zN:List Str:=["NoTable", "TooMany"]
noncomputable abbrev yj:List Str:=["NoTable", "NotSteady", "NoPlace", "NoKind", "NoMix", "NoNumber", "NoLot", "NoKinds", "NoPaper", "NoParting", "NoClosed", "TooMany", "NoText", "NoLine", "NoDeed", "NoWeights", "NotWhole", "NoNumbers"]
theorem rw_NoTable {K:Frag}(R:yj.all (qG K zN)=true):qG K zN "NoTable" = true:=List.all_eq_true.mp R _ (by decide +kernel)
theorem rw_NotSteady {K:Frag}(R:yj.all (qG K zN)=true):qG K zN "NotSteady" = true:=List.all_eq_true.mp R _ (by decide +kernel)
theorem rw_NoPlace {K:Frag}(R:yj.all (qG K zN)=true):qG K zN "NoPlace" = true:=List.all_eq_true.mp R _ (by decide +kernel)
theorem rw_NoKind {K:Frag}(R:yj.all (qG K zN)=true):qG K zN "NoKind" = true:=List.all_eq_true.mp R _ (by decide +kernel)
theorem rw_NoMix {K:Frag}(R:yj.all (qG K zN)=true):qG K zN "NoMix" = true:=List.all_eq_true.mp R _ (by decide +kernel)
theorem rw_NoNumber {K:Frag}(R:yj.all (qG K zN)=true):qG K zN "NoNumber" = true:=List.all_eq_true.mp R _ (by decide +kernel)
theorem rw_NoLot {K:Frag}(R:yj.all (qG K zN)=true):qG K zN "NoLot" = true:=List.all_eq_true.mp R _ (by decide +kernel)
theorem rw_NoKinds {K:Frag}(R:yj.all (qG K zN)=true):qG K zN "NoKinds" = true:=List.all_eq_true.mp R _ (by decide +kernel)
theorem rw_NoPaper {K:Frag}(R:yj.all (qG K zN)=true):qG K zN "NoPaper" = true:=List.all_eq_true.mp R _ (by decide +kernel)
theorem rw_NoParting {K:Frag}(R:yj.all (qG K zN)=true):qG K zN "NoParting" = true:=List.all_eq_true.mp R _ (by decide +kernel)
theorem rw_NoClosed {K:Frag}(R:yj.all (qG K zN)=true):qG K zN "NoClosed" = true:=List.all_eq_true.mp R _ (by decide +kernel)
theorem rw_TooMany {K:Frag}(R:yj.all (qG K zN)=true):qG K zN "TooMany" = true:=List.all_eq_true.mp R _ (by decide +kernel)
theorem rw_NoText {K:Frag}(R:yj.all (qG K zN)=true):qG K zN "NoText" = true:=List.all_eq_true.mp R _ (by decide +kernel)
theorem rw_NoLine {K:Frag}(R:yj.all (qG K zN)=true):qG K zN "NoLine" = true:=List.all_eq_true.mp R _ (by decide +kernel)
theorem rw_NoDeed {K:Frag}(R:yj.all (qG K zN)=true):qG K zN "NoDeed" = true:=List.all_eq_true.mp R _ (by decide +kernel)
theorem rw_NoWeights {K:Frag}(R:yj.all (qG K zN)=true):qG K zN "NoWeights" = true:=List.all_eq_true.mp R _ (by decide +kernel)
theorem rw_NotWhole {K:Frag}(R:yj.all (qG K zN)=true):qG K zN "NotWhole" = true:=List.all_eq_true.mp R _ (by decide +kernel)
theorem rw_NoNumbers {K:Frag}(R:yj.all (qG K zN)=true):qG K zN "NoNumbers" = true:=List.all_eq_true.mp R _ (by decide +kernel)
theorem QQ {l:List (Str × NameKind)}(h:(l.all λ y=>!(y.2==.cell))=true):∀y∈l,y.2≠.cell:=λ y hy e=>by
 have q:=List.all_eq_true.mp h y hy
 rw [e] at q
 cases q
theorem yE {X:Cx}{xr:XR}{e:Expr}{m:Ev}(h:Y.YE X xr e m):SE X xr e m:=by rw [Y.VQ] at h;exact h
noncomputable abbrev Xp:Stmt:=top 21
theorem Me:qR ["thing"] ["thing"] (qk Xp):=⟨rfl,rfl,rfl,by decide +kernel,rfl,by decide +kernel,by decide +kernel⟩
noncomputable def Tb:Ex:=zp (qj (wH (we .int (zc 0)) (kz (we .bl (zc 0))))) (zw)
theorem Mt {P:Program}{w:World}{K:Frag}{mg:Str->Option Value}{base:Heap}{k:Nat}(T:Bu mg){f:Addr}{fd:FuncData}(F:qF K "is_whole" "is_whole" Xp f fd)(hm:mg "is_whole" = some (.ref f)):zC P w K mg base (k+1) "is_whole" 1 (zY 1 (Tb)):=
 Y.jL F hm Me (λ _ _ _ _ _ _ us hl=>(yQ hl).elim λ a q=>by subst q;rfl) λ cdv A outer s H E hr=>Y.zt (Y.qA (Y.Qg (Y.gN .int T.jy T.K7 (by rfl) (Y.zm 0)) (Y.Jg (Y.D9 (Y.gN .bl T.jy T.Vr (by rfl) (Y.zm 0)))))) (Y.zL)
noncomputable abbrev Xd:Stmt:=top 22
theorem Ny:qR ["thing", "many"] ["thing", "many"] (qk Xd):=⟨rfl,rfl,rfl,by decide +kernel,rfl,by decide +kernel,by decide +kernel⟩
noncomputable def Kc (Kk:Fn):Ex:=zp (qj (wH (we .tup (zc 0)) (wH (zl yd (mQ qa (zM (zc 0))) (zc 1)) (mQ Qw (zW 1 [] (qd (zc 0)) (zA 0) (zi (.bl true)) (zJ (zx Kk (zh (zc 0) (zo))))))))) (zw)
theorem N5 {P:Program}{w:World}{K:Frag}{mg:Str->Option Value}{base:Heap}{k:Nat}(T:Bu mg){f:Addr}{fd:FuncData}(F:qF K "is_wholes" "is_wholes" Xd f fd)(hm:mg "is_wholes" = some (.ref f)){Kk:Fn}(Qe:zC P w K mg base k "is_whole" 1 Kk):zC P w K mg base (k+1) "is_wholes" 2 (zY 2 (Kc Kk)):=
 Y.jL F hm Ny (λ _ _ _ _ _ _ us hl=>(yK hl).elim λ a h=>h.elim λ b q=>by subst q;rfl) λ cdv A outer s H E hr=>Y.zt (Y.qA (Y.Qg (Y.gN .tup T.jy T.jT (by rfl) (Y.zm 0)) (Y.Qg (Y.Zt (Qp hr) (Y.j5 T.jI (Y.jf (Y.zm 0))) (Y.zm 1)) (Y.Jg (Y.J6 rfl T.Ya (Y.yu (Y.jS (N:=["part"]) 1 [] rfl (cps (by kernel_rfl)) (by kernel_rfl) (Y.jF (Y.zm 0)) (λ _ _ _=>⟨Y.qz 0 (by decide +kernel:(["part"]:List Str).Nodup),Y.jo,Y.jB (λ _ _ z=>z) (Y.qu Qe hr (Y.zr (Y.zm 0) (Y.zz)) (zq zy)) rfl⟩)))))))) (Y.zL)
noncomputable abbrev WX:Stmt:=top 23
theorem OE:qR ["thing", "many", "limit"] ["thing", "many", "limit"] (qk WX):=⟨rfl,rfl,rfl,by decide +kernel,rfl,by decide +kernel,by decide +kernel⟩
noncomputable def YC (Ke:Fn):Ex:=zp (qj (wH (zx Ke (zh (zc 0) (zh (zc 1) (zo)))) (mQ Qw (zW 1 [2] (qd (zc 0)) (zA 0) (zi (.bl true)) (zJ (kL Qz Yr (zi (.int 0)) (zc 0) (zc 1))))))) (zw)
theorem OH {P:Program}{w:World}{K:Frag}{mg:Str->Option Value}{base:Heap}{k:Nat}(T:Bu mg){f:Addr}{fd:FuncData}(F:qF K "is_wholes_below" "is_wholes_below" WX f fd)(hm:mg "is_wholes_below" = some (.ref f)){Ke:Fn}(Qc:zC P w K mg base k "is_wholes" 2 Ke):zC P w K mg base (k+1) "is_wholes_below" 3 (zY 3 (YC Ke)):=
 Y.jL F hm OE (λ _ _ _ _ _ _ us hl=>(Jy hl).elim λ a h=>h.elim λ b h=>h.elim λ c q=>by subst q;rfl) λ cdv A outer s H E hr=>Y.zt (Y.qA (Y.Qg (Y.qu Qc hr (Y.zr (Y.zm 0) (Y.zr (Y.zm 1) (Y.zz))) (zq (zq zy))) (Y.Jg (Y.J6 rfl T.Ya (Y.yu (Y.jS (N:=["part", "limit"]) 1 [2] rfl (cps (by kernel_rfl)) (by kernel_rfl) (Y.jF (Y.zm 0)) (λ _ _ _=>⟨Y.qz 0 (by decide +kernel:(["part", "limit"]:List Str).Nodup),Y.jo,Y.jB (λ _ _ z=>z) (Y.CO Ue P7 (Y.zH) (Y.zm 0) (Y.zm 1)) rfl⟩))))))) (Y.zL)
noncomputable abbrev Xm:Stmt:=top 26
theorem UZ:qR ["thing", "many"] ["thing"] (qk Xm):=⟨rfl,rfl,rfl,by decide +kernel,rfl,by decide +kernel,by decide +kernel⟩
noncomputable def JM (Kq:Fn)(YD:Fn)(YB:Fn):Ex:=zp (jc (g8 (kz (we .tup (zc 0))) (kz (kL Qz Qz (zi (.int 1)) (mQ qa (zM (zc 0))) (zi (.int 8))))) (zp (qj (zi (.bl false))) (zw)) (zw)) (zp (zK 1 (mQ qa (zM (zc 0)))) (zp (jc (kz (mQ Qw (zW 1 [1] (qd (zc 0)) (zA 0) (zi (.bl true)) (zJ (zx YD (zh (zc 0) (zh (zc 1) (zh (zc 1) (zo))))))))) (zp (qj (zi (.bl false))) (zw)) (zw)) (zp (qj (wH (zx Kq (zh (zc 0) (zo))) (zx YB (zh (zc 0) (zo))))) (zw))))
theorem Ms {P:Program}{w:World}{K:Frag}{mg:Str->Option Value}{base:Heap}{k:Nat}(T:Bu mg){f:Addr}{fd:FuncData}(F:qF K "is_table" "is_table" Xm f fd)(hm:mg "is_table" = some (.ref f)){Kq:Fn}(JO:zC P w K mg base k "is_even" 1 Kq){YD:Fn}(wO:zC P w K mg base k "is_wholes_below" 3 YD){YB:Fn}(JE:zC P w K mg base k "leaves_no_kind_out" 1 YB):zC P w K mg base (k+1) "is_table" 1 (zY 2 (JM Kq YD YB)):=
 Y.jL F hm UZ (λ _ _ _ _ _ _ us hl=>(yQ hl).elim λ a q=>by subst q;rfl) λ cdv A outer s H E hr=>Y.zt (Y.yo (Y.Ve (Y.VZ (Y.Qi (Y.Zp (Y.gN .tup T.jy T.jT (by rfl) (Y.zm 0)))) (Y.Vw (Y.Qi (Y.Cu Ue Ue (Y.zH) (Y.j5 T.jI (Y.jf (Y.zm 0))) (Y.RJ rfl T.O1.choose_spec)))))) (Y.zt (Y.qA (Y.ku)) (Y.zL)) (Y.zL)) (Y.zt (Y.qw 1 UZ.nd (Y.j5 T.jI (Y.jf (Y.zm 0)))) (Y.zt (Y.yo (Y.Qi (Y.Zp (Y.J6 rfl T.Ya (Y.yu (Y.jS (N:=["row", "many"]) 1 [1] rfl (cps (by kernel_rfl)) (by kernel_rfl) (Y.jF (Y.zm 0)) (λ _ _ _=>⟨Y.qz 0 (by decide +kernel:(["row", "many"]:List Str).Nodup),Y.jo,Y.jB (λ _ _ z=>z) (Y.qu wO hr (Y.zr (Y.zm 0) (Y.zr (Y.zm 1) (Y.zr (Y.zm 1) (Y.zz)))) (zq (zq (zq zy)))) rfl⟩)))))) (Y.zt (Y.qA (Y.ku)) (Y.zL)) (Y.zL)) (Y.zt (Y.qA (Y.Qg (Y.qu JO hr (Y.zr (Y.zm 0) (Y.zz)) (zq zy)) (Y.Jg (Y.qu JE hr (Y.zr (Y.zm 0) (Y.zz)) (zq zy))))) (Y.zL))))
noncomputable abbrev Xv:Stmt:=top 27
theorem Xk:qR ["rows", "a", "row", "b", "kind"] ["rows"] (qk Xv):=⟨rfl,rfl,rfl,by decide +kernel,rfl,by decide +kernel,by decide +kernel⟩
noncomputable def Xw:Ex:=zp (jE (Jm (zc 0)) (kN 1 2) (zp (jE (Jm (zc 2)) (kN 3 4) (zp (jc (g8 (zl jC (zl yd (zc 4) (zi (.int 0))) (zl yd (zc 1) (zc 3))) (zl jC (zl zI (zl zI (zc 0) (zc 3)) (zc 1)) (zc 4))) (zp (qj (zi (.bl false))) (zw)) (zw)) (zw))) (zw))) (zp (qj (zi (.bl true))) (zw))
theorem LC {P:Program}{w:World}{K:Frag}{mg:Str->Option Value}{base:Heap}{k:Nat}(T:Bu mg){f:Addr}{fd:FuncData}(F:qF K "is_even" "is_even" Xv f fd)(hm:mg "is_even" = some (.ref f)):zC P w K mg base (k+1) "is_even" 1 (zY 5 (Xw)):=
 Y.jL F hm Xk (λ _ _ _ _ _ _ us hl=>(yQ hl).elim λ a q=>by subst q;rfl) λ cdv A outer s H E hr=>Y.zt (Y.yZ PassesOwn.never rfl (Y.Rk rfl T.U0 (Y.zm 0)) (Y.KA 1 2 rfl Xk.nd) (Y.zt (Y.yZ PassesOwn.never rfl (Y.Rk rfl T.U0 (Y.zm 2)) (Y.KA 3 4 rfl Xk.nd) (Y.zt (Y.yo (Y.Ve (Y.VZ (Y.kC (wx hr) (Y.Zt (Qp hr) (Y.zm 4) (Y.zH)) (Y.Zt (Qp hr) (Y.zm 1) (Y.zm 3))) (Y.Vw (Y.kC (wx hr) (Y.jH (Y.jH (Y.zm 0) (Y.zm 3)) (Y.zm 1)) (Y.zm 4))))) (Y.zt (Y.qA (Y.ku)) (Y.zL)) (Y.zL)) (Y.zL))) (Y.zL))) (Y.zt (Y.qA (Y.ku)) (Y.zL))
noncomputable abbrev WQ:Stmt:=top 28
theorem Ur:qR ["rows", "standing"] ["rows"] (qk WQ):=⟨rfl,rfl,rfl,by decide +kernel,rfl,by decide +kernel,by decide +kernel⟩
noncomputable def WR:Ex:=zp (zK 1 (qO (zW 2 [] (qd (zc 0)) (zA 0) (zi (.bl true)) (wA (qd (zc 0)) (zA 1) (zi (.bl true)) (zJ (zc 1)))))) (zp (qj (mQ Qw (zW 1 [1] (jl (mQ wb (zM (zc 1)))) (zA 0) (zi (.bl true)) (zJ (zl Ui (zc 0) (zc 1)))))) (zw))
theorem OC {P:Program}{w:World}{K:Frag}{mg:Str->Option Value}{base:Heap}{k:Nat}(T:Bu mg){f:Addr}{fd:FuncData}(F:qF K "leaves_no_kind_out" "leaves_no_kind_out" WQ f fd)(hm:mg "leaves_no_kind_out" = some (.ref f)):zC P w K mg base (k+1) "leaves_no_kind_out" 1 (zY 2 (WR)):=
 Y.jL F hm Ur (λ _ _ _ _ _ _ us hl=>(yQ hl).elim λ a q=>by subst q;rfl) λ cdv A outer s H E hr=>Y.zt (Y.qw 1 Ur.nd (Y.JZ (Y.jS (N:=["row", "kind"]) 2 [] rfl (cps (by kernel_rfl)) (by kernel_rfl) (Y.jF (Y.zm 0)) (λ _ _ _=>⟨Y.qz 0 (by decide +kernel:(["row", "kind"]:List Str).Nodup),Y.jo,Y.R8 (λ _ _ z=>z) rfl rfl (by intro _ h;cases h<;>rfl) (Y.jF (Y.zm 0)) (Y.qz 1 (by decide +kernel:(["row", "kind"]:List Str).Nodup)) (Y.jo) (Y.jB (λ _ _ z=>z) (Y.zm 1) rfl)⟩)))) (Y.zt (Y.qA (Y.J6 rfl T.Ya (Y.yu (Y.jS (N:=["kind", "standing"]) 1 [1] rfl (cps (by kernel_rfl)) (by kernel_rfl) (Y.yW rfl T.j8 (Y.X1 rfl T.Yb (Y.jf (Y.zm 1)))) (λ _ _ _=>⟨Y.qz 0 (by decide +kernel:(["kind", "standing"]:List Str).Nodup),Y.jo,Y.jB (λ _ _ z=>z) (Y.CG BN (Y.zm 0) (Y.zm 1)) rfl⟩))))) (Y.zL))
noncomputable abbrev W6:Stmt:=top 29
theorem OK:qR ["table"] ["table"] (qk W6):=⟨rfl,rfl,rfl,by decide +kernel,rfl,by decide +kernel,by decide +kernel⟩
noncomputable def YK (Kl:Fn):Ex:=zp (jc ((λ ρ A=>((kz (zx Kl (zh (zc 0) (zo)))) ρ A).nox)) (zp (KW "NoTable" (zh (zi (.str "this is no table")) (zo))) (zw)) (zw)) (zw)
theorem OP {P:Program}{w:World}{K:Frag}{mg:Str->Option Value}{base:Heap}{k:Nat}(T:Bu mg)(C:yT K zN "NearError"){f:Addr}{fd:FuncData}(F:qF K "require_table" "require_table" W6 f fd)(hm:mg "require_table" = some (.ref f)){Kl:Fn}(ye:zC P w K mg base k "is_table" 1 Kl):jj P w K mg base (k+1) "require_table" 1 (kB 1 (YK Kl)):=
 Y.fnX F hm OK (λ _ _ _ _ _ _ us hl=>(yQ hl).elim λ a q=>by subst q;rfl) λ cdv A outer s H E hr xo=>Y.zt (Y.yo (Y.RY (Y.Qi (Y.Zp (Y.qu ye hr (Y.zr (Y.zm 0) (Y.zz)) (zq zy))))) (Y.zt (Y.Tv xo (C.exc "NoTable" (by decide +kernel)) (Y.zr (Y.VB) (Y.zz)) (zq zy)) (Y.zL)) (Y.zL)) (Y.zL)
noncomputable abbrev GB:Stmt:=top 32
theorem OU:qR ["table"] ["table"] (qk GB):=⟨rfl,rfl,rfl,by decide +kernel,rfl,by decide +kernel,by decide +kernel⟩
noncomputable def Y3:Ex:=zp (jc ((λ ρ A=>((zl Yu (mQ qa (zM (zc 0))) (zi (.int 6))) ρ A).nox)) (zp (KW "TooMany" (zh (zi (.str "forms and orders are told of at most 6 places")) (zo))) (zw)) (zw)) (zw)
theorem O3 {P:Program}{w:World}{K:Frag}{mg:Str->Option Value}{base:Heap}{k:Nat}(T:Bu mg)(C:yT K zN "NearError"){f:Addr}{fd:FuncData}(F:qF K "require_few" "require_few" GB f fd)(hm:mg "require_few" = some (.ref f)):jj P w K mg base (k+1) "require_few" 1 (kB 1 (Y3)):=
 Y.fnX F hm OU (λ _ _ _ _ _ _ us hl=>(yQ hl).elim λ a q=>by subst q;rfl) λ cdv A outer s H E hr xo=>Y.zt (Y.yo (Y.RY (Y.kC V4 (Y.j5 T.jI (Y.jf (Y.zm 0))) (Y.RJ rfl T.O8.choose_spec))) (Y.zt (Y.Tv xo (C.exc "TooMany" (by decide +kernel)) (Y.zr (Y.VB) (Y.zz)) (zq zy)) (Y.zL)) (Y.zL)) (Y.zL)
noncomputable abbrev GC:Stmt:=top 33
theorem YN:qR ["many", "orders", "turn"] ["many"] (qk GC):=⟨rfl,rfl,rfl,by decide +kernel,rfl,by decide +kernel,by decide +kernel⟩
noncomputable def YZ:Ex:=zp (zK 1 (zX (zh (zS (zo)) (zo)))) (zp (jE (jl (zc 0)) (zA 2) (zp (zK 1 (qO (zW 2 [0] (qd (zc 1)) (zA 0) (zi (.bl true)) (wA (jl (zc 2)) (zA 1) (zl kr (zc 1) (zc 0)) (zJ (zl qb (zc 0) (zS (zh (zc 1) (zo))))))))) (zw))) (zp (qj (zc 1)) (zw)))
theorem O9 {P:Program}{w:World}{K:Frag}{mg:Str->Option Value}{base:Heap}{k:Nat}(T:Bu mg){f:Addr}{fd:FuncData}(F:qF K "list_orders" "list_orders" GC f fd)(hm:mg "list_orders" = some (.ref f)):zC P w K mg base (k+1) "list_orders" 1 (zY 3 (YZ)):=
 Y.jL F hm YN (λ _ _ _ _ _ _ us hl=>(yQ hl).elim λ a q=>by subst q;rfl) λ cdv A outer s H E hr=>Y.zt (Y.qw 1 YN.nd (Y.qX (Y.zr (Y.je (Y.zz) (zy)) (Y.zz)) (zq zy))) (Y.zt (Y.yZ PassesOwn.never rfl (Y.yW rfl T.j8 (Y.zm 0)) (Y.qz 2 YN.nd) (Y.zt (Y.Km 1 (N:=["order", "place", "many"]) 2 [0] YN.nd rfl (cps (by kernel_rfl)) (by kernel_rfl) (Y.jF (Y.zm 1)) (λ _ _ _=>⟨Y.qz 0 (by decide +kernel:(["order", "place", "many"]:List Str).Nodup),Y.jo,Y.R8 (λ _ _ z=>z) rfl rfl (by intro _ h;cases h<;>rfl) (Y.yW rfl T.j8 (Y.zm 2)) (Y.qz 1 (by decide +kernel:(["order", "place", "many"]:List Str).Nodup)) (Y.X7 (Y.VI Rl (Y.zm 1) (Y.zm 0))) (Y.jB (λ _ _ z=>z) (Y.jU (Y.zm 0) (Y.je (Y.zr (Y.zm 1) (Y.zz)) (zq zy))) rfl)⟩)) (Y.zL))) (Y.zt (Y.qA (Y.zm 1)) (Y.zL)))
noncomputable abbrev Xg:Stmt:=top 34
theorem UM:qR ["table", "order", "names"] ["table", "order"] (qk Xg):=⟨rfl,rfl,rfl,by decide +kernel,rfl,by decide +kernel,by decide +kernel⟩
noncomputable def G4:Ex:=zp (zK 2 (Qv)) (zp (qj (mQ qH (zW 1 [0,1,2] (qd (zc 1)) (zA 0) (zi (.bl true)) (zJ (mQ qH (zW 1 [0,1,3] (qd (zc 2)) (zA 0) (zi (.bl true)) (zJ (yY j9 (zc 3) (zl zI (zl zI (zc 2) (zc 1)) (zc 0)) (yy (zc 3)))))))))) (zw))
theorem N3 {P:Program}{w:World}{K:Frag}{mg:Str->Option Value}{base:Heap}{k:Nat}(T:Bu mg){f:Addr}{fd:FuncData}(F:qF K "name_anew" "name_anew" Xg f fd)(hm:mg "name_anew" = some (.ref f)):zC P w K mg base (k+1) "name_anew" 2 (zY 3 (G4)):=
 Y.jL F hm UM (λ _ _ _ _ _ _ us hl=>(yK hl).elim λ a h=>h.elim λ b q=>by subst q;rfl) λ cdv A outer s H E hr=>Y.zt (Y.qw 2 UM.nd (Y.KZ)) (Y.zt (Y.qA (Y.yk T.jT (Y.yu (Y.jS (N:=["a", "table", "order", "names"]) 1 [0,1,2] rfl (cps (by kernel_rfl)) (by kernel_rfl) (Y.jF (Y.zm 1)) (λ _ _ _=>⟨Y.qz 0 (by decide +kernel:(["a", "table", "order", "names"]:List Str).Nodup),Y.jo,Y.jB (λ _ _ z=>z) (Y.yk T.jT (Y.yu (Y.jS (N:=["b", "a", "table", "names"]) 1 [0,1,3] rfl (cps (by kernel_rfl)) (by kernel_rfl) (Y.jF (Y.zm 2)) (λ _ _ _=>⟨Y.qz 0 (by decide +kernel:(["b", "a", "table", "names"]:List Str).Nodup),Y.jo,Y.jB (λ _ _ z=>z) (Y.Xz (Y.zm 3) (Y.jH (Y.jH (Y.zm 2) (Y.zm 1)) (Y.zm 0)) (Y.Vg T.jI (Y.zm 3))) rfl⟩)))) rfl⟩))))) (Y.zL))
noncomputable abbrev Gp:Stmt:=top 35
theorem OT:qR ["table"] ["table"] (qk Gp):=⟨rfl,rfl,rfl,by decide +kernel,rfl,by decide +kernel,by decide +kernel⟩
noncomputable def Gq (Ze:Fn)(gy:Fn):Ex:=zp (qj (mQ wG (zW 1 [0] (qd (zx Ze (zh (mQ qa (zM (zc 0))) (zo)))) (zA 0) (zi (.bl true)) (zJ (zx gy (zh (zc 1) (zh (zc 0) (zo)))))))) (zw)
theorem Nn {P:Program}{w:World}{K:Frag}{mg:Str->Option Value}{base:Heap}{k:Nat}(T:Bu mg){f:Addr}{fd:FuncData}(F:qF K "least_alike" "least_alike" Gp f fd)(hm:mg "least_alike" = some (.ref f)){Ze:Fn}(kX:zC P w K mg base k "list_orders" 1 Ze){gy:Fn}(km:zC P w K mg base k "name_anew" 2 gy):zC P w K mg base (k+1) "least_alike" 1 (zY 1 (Gq Ze gy)):=
 Y.jL F hm OT (λ _ _ _ _ _ _ us hl=>(yQ hl).elim λ a q=>by subst q;rfl) λ cdv A outer s H E hr=>Y.zt (Y.qA (Y.RK rfl hr T.Jr (Y.yu (Y.jS (N:=["order", "table"]) 1 [0] rfl (cps (by kernel_rfl)) (by kernel_rfl) (Y.jF (Y.qu kX hr (Y.zr (Y.j5 T.jI (Y.jf (Y.zm 0))) (Y.zz)) (zq zy))) (λ _ _ _=>⟨Y.qz 0 (by decide +kernel:(["order", "table"]:List Str).Nodup),Y.jo,Y.jB (λ _ _ z=>z) (Y.qu km hr (Y.zr (Y.zm 1) (Y.zr (Y.zm 0) (Y.zz))) (zq (zq zy))) rfl⟩))))) (Y.zL)
noncomputable abbrev Xs:Stmt:=top 36
theorem MC:qR ["table"] ["table"] (qk Xs):=⟨rfl,rfl,rfl,by decide +kernel,rfl,by decide +kernel,by decide +kernel⟩
noncomputable def JP (Y1:Fn)(gr:Fn)(gn:Fn):Ex:=zp (qQ (zx gn (zh (zc 0) (zo)))) (zp (qQ (zx gr (zh (zc 0) (zo)))) ((λ ρ A=>((zp (qj (zx Y1 (zh (zc 0) (zo)))) (zw)) ρ A).nox)))
theorem M6 {P:Program}{w:World}{K:Frag}{mg:Str->Option Value}{base:Heap}{k:Nat}(T:Bu mg)(C:yT K zN "NearError"){f:Addr}{fd:FuncData}(F:qF K "form_of" "form_of" Xs f fd)(hm:mg "form_of" = some (.ref f)){Y1:Fn}(QH:zC P w K mg base k "least_alike" 1 Y1){gr:Fn}(Y2:jj P w K mg base k "require_few" 1 gr){gn:Fn}(YL:jj P w K mg base k "require_table" 1 gn):jj P w K mg base (k+1) "form_of" 1 (kB 1 (JP Y1 gr gn)):=
 Y.fnX F hm MC (λ _ _ _ _ _ _ us hl=>(yQ hl).elim λ a q=>by subst q;rfl) λ cdv A outer s H E hr xo=>Y.zt (Y.yw (Y.wm xo YL hr (Y.zr (Y.zm 0) (Y.zz)) (zq zy))) (Y.zt (Y.yw (Y.wm xo Y2 hr (Y.zr (Y.zm 0) (Y.zz)) (zq zy))) (Y.S9 (Y.zt (Y.qA (Y.qu QH hr (Y.zr (Y.zm 0) (Y.zz)) (zq zy))) (Y.zL))))
noncomputable abbrev Gr:Stmt:=top 37
theorem Ge:qR ["one", "other", "wanted", "order"] ["one", "other"] (qk Gr):=⟨rfl,rfl,rfl,by decide +kernel,rfl,by decide +kernel,by decide +kernel⟩
noncomputable def ZI (Ze:Fn)(gy:Fn)(gr:Fn)(gn:Fn):Ex:=zp (qQ (zx gn (zh (zc 0) (zo)))) (zp (qQ (zx gn (zh (zc 1) (zo)))) (zp (qQ (zx gr (zh (zc 0) (zo)))) (zp (qQ (zx gr (zh (zc 1) (zo)))) ((λ ρ A=>((zp (jc (zl jC (mQ qa (zM (zc 0))) (mQ qa (zM (zc 1)))) (zp (qj (zi .non)) (zw)) (zw)) (zp (zK 2 (zx gy (zh (zc 1) (zh (kJ (mQ qa (zM (zc 1)))) (zo))))) (zp (jE (qd (zx Ze (zh (mQ qa (zM (zc 0))) (zo)))) (zA 3) (zp (jc (zl yd (zx gy (zh (zc 0) (zh (zc 3) (zo)))) (zc 2)) (zp (qj (zc 3)) (zw)) (zw)) (zw))) (zp (qj (zi .non)) (zw))))) ρ A).nox)))))
theorem O7 {P:Program}{w:World}{K:Frag}{mg:Str->Option Value}{base:Heap}{k:Nat}(T:Bu mg)(C:yT K zN "NearError"){f:Addr}{fd:FuncData}(F:qF K "first_order" "first_order" Gr f fd)(hm:mg "first_order" = some (.ref f)){Ze:Fn}(kX:zC P w K mg base k "list_orders" 1 Ze){gy:Fn}(km:zC P w K mg base k "name_anew" 2 gy){gr:Fn}(Y2:jj P w K mg base k "require_few" 1 gr){gn:Fn}(YL:jj P w K mg base k "require_table" 1 gn):jj P w K mg base (k+1) "first_order" 2 (kB 4 (ZI Ze gy gr gn)):=
 Y.fnX F hm Ge (λ _ _ _ _ _ _ us hl=>(yK hl).elim λ a h=>h.elim λ b q=>by subst q;rfl) λ cdv A outer s H E hr xo=>Y.zt (Y.yw (Y.wm xo YL hr (Y.zr (Y.zm 0) (Y.zz)) (zq zy))) (Y.zt (Y.yw (Y.wm xo YL hr (Y.zr (Y.zm 1) (Y.zz)) (zq zy))) (Y.zt (Y.yw (Y.wm xo Y2 hr (Y.zr (Y.zm 0) (Y.zz)) (zq zy))) (Y.zt (Y.yw (Y.wm xo Y2 hr (Y.zr (Y.zm 1) (Y.zz)) (zq zy))) (Y.S9 (Y.zt (Y.yo (Y.kC (wx hr) (Y.j5 T.jI (Y.jf (Y.zm 0))) (Y.j5 T.jI (Y.jf (Y.zm 1)))) (Y.zt (Y.qA (Y.Jh)) (Y.zL)) (Y.zL)) (Y.zt (Y.qw 2 Ge.nd (Y.qu km hr (Y.zr (Y.zm 1) (Y.zr (Y.Ko rfl T.ZY T.j8 (Y.j5 T.jI (Y.jf (Y.zm 1)))) (Y.zz))) (zq (zq zy)))) (Y.zt (Y.yZ PassesOwn.never rfl (Y.jF (Y.qu kX hr (Y.zr (Y.j5 T.jI (Y.jf (Y.zm 0))) (Y.zz)) (zq zy))) (Y.qz 3 Ge.nd) (Y.zt (Y.yo (Y.kC (Qp hr) (Y.qu km hr (Y.zr (Y.zm 0) (Y.zr (Y.zm 3) (Y.zz))) (zq (zq zy))) (Y.zm 2)) (Y.zt (Y.qA (Y.zm 3)) (Y.zL)) (Y.zL)) (Y.zL))) (Y.zt (Y.qA (Y.Jh)) (Y.zL)))))))))
noncomputable abbrev GP:Stmt:=top 39
theorem Nd:qR ["_law_table"] ["_law_table"] (qk GP):=⟨rfl,rfl,rfl,by decide +kernel,rfl,by decide +kernel,by decide +kernel⟩
noncomputable def GU:Ex:=zp (qj (zl qb (mQ wb (zW 1 [] (qd (zc 0)) (zA 0) (zi (.bl true)) (zJ (mQ wb (zM (zc 0)))))) (zi (.int 1)))) (zw)
theorem NK {P:Program}{w:World}{K:Frag}{mg:Str->Option Value}{base:Heap}{k:Nat}(T:Bu mg){f:Addr}{fd:FuncData}(F:qF K "_law_kinds" "_law_kinds" GP f fd)(hm:mg "_law_kinds" = some (.ref f)):zC P w K mg base (k+1) "_law_kinds" 1 (zY 1 (GU)):=
 Y.jL F hm Nd (λ _ _ _ _ _ _ us hl=>(yQ hl).elim λ a q=>by subst q;rfl) λ cdv A outer s H E hr=>Y.zt (Y.qA (Y.jU (Y.X1 rfl T.Yb (Y.yu (Y.jS (N:=["_law_row"]) 1 [] rfl (cps (by kernel_rfl)) (by kernel_rfl) (Y.jF (Y.zm 0)) (λ _ _ _=>⟨Y.qz 0 (by decide +kernel:(["_law_row"]:List Str).Nodup),Y.jo,Y.jB (λ _ _ z=>z) (Y.X1 rfl T.Yb (Y.jf (Y.zm 0))) rfl⟩)))) (Y.zH))) (Y.zL)
noncomputable abbrev Xc:Stmt:=top 40
theorem Y7:qR ["_law_state_here", "_law_many", "_law_found", "_law_stirred"] ["_law_state_here", "_law_many"] (qk Xc):=⟨rfl,rfl,rfl,by decide +kernel,rfl,by decide +kernel,by decide +kernel⟩
noncomputable def Kb:Ex:=zp (jc (zl zI (zc 0) (zi (.int 1))) (zp (zK 2 (zl ka (zl zI (zc 0) (zi (.int 0))) (zc 1))) (zp (wu yr (zl Z5 (zl zI (zc 0) (zi (.int 0))) (zc 1)) (zc 0) (zi (.int 0))) (zp (qj (zc 2)) (zw)))) (zw)) (zp (wu yr (zl ka (zl qb (zl qJ (zl zI (zc 0) (zi (.int 0))) (zi (.int 48271))) (zi (.int 29))) (zi (.int 2147483647))) (zc 0) (zi (.int 0))) (zp (zK 3 (zl ka (zl qb (zl qb (zl qJ (zl zI (zc 0) (zi (.int 0))) (zl zI (zc 0) (zi (.int 0)))) (zl qJ (zi (.int 39373)) (zl zI (zc 0) (zi (.int 0))))) (zi (.int 7))) (zi (.int 2147483629)))) (zp (zK 3 (zl ka (zl qb (zl qJ (zc 3) (zc 3)) (zl qJ (zi (.int 16807)) (zc 3))) (zi (.int 2147483587)))) (zp (qj (zl ka (zl Z5 (zc 3) (zi (.int 8))) (zc 1))) (zw)))))
theorem NZ {P:Program}{w:World}{K:Frag}{mg:Str->Option Value}{base:Heap}{k:Nat}(T:Bu mg){f:Addr}{fd:FuncData}(F:qF K "_law_take" "_law_take" Xc f fd)(hm:mg "_law_take" = some (.ref f)):zC P w K mg base (k+1) "_law_take" 2 (zY 4 (Kb)):=
 Y.jL F hm Y7 (λ _ _ _ _ _ _ us hl=>(yK hl).elim λ a h=>h.elim λ b q=>by subst q;rfl) λ cdv A outer s H E hr=>Y.zt (Y.yo (Y.Zp (Y.jH (Y.zm 0) (Y.zH))) (Y.zt (Y.qw 2 Y7.nd (Y.Zq (Y.jH (Y.zm 0) (Y.zH)) (Y.zm 1))) (Y.zt (Y.K3 (Y.K0 (Y.jH (Y.zm 0) (Y.zH)) (Y.zm 1)) (Y.zm 0) (Y.zH)) (Y.zt (Y.qA (Y.zm 2)) (Y.zL)))) (Y.zL)) (Y.zt (Y.K3 (Y.Zq (Y.jU (Y.gJ (Y.jH (Y.zm 0) (Y.zH)) (Y.zH)) (Y.zH)) (Y.zH)) (Y.zm 0) (Y.zH)) (Y.zt (Y.qw 3 Y7.nd (Y.Zq (Y.jU (Y.jU (Y.gJ (Y.jH (Y.zm 0) (Y.zH)) (Y.jH (Y.zm 0) (Y.zH))) (Y.gJ (Y.zH) (Y.jH (Y.zm 0) (Y.zH)))) (Y.zH)) (Y.zH))) (Y.zt (Y.qw 3 Y7.nd (Y.Zq (Y.jU (Y.gJ (Y.zm 3) (Y.zm 3)) (Y.gJ (Y.zH) (Y.zm 3))) (Y.zH))) (Y.zt (Y.qA (Y.Zq (Y.K0 (Y.zm 3) (Y.zH)) (Y.zm 1))) (Y.zL)))))
noncomputable abbrev GQ:Stmt:=top 41
theorem Gy:qR ["_law_state_here", "_law_many", "_law_left", "_law_found"] ["_law_state_here", "_law_many"] (qk GQ):=⟨rfl,rfl,rfl,by decide +kernel,rfl,by decide +kernel,by decide +kernel⟩
noncomputable def GY (jz:Fn):Ex:=zp (zK 2 (kJ (zc 1))) (zp (zK 3 (zX (zo))) (zp (Pa 1000 (zl jC (zc 2) (zX (zo))) (zp (qQ (qx qY (zc 3) (qx wX (zc 2) (zx jz (zh (zc 0) (zh (mQ qa (zM (zc 2))) (zo))))))) (zw))) (zp (qj (mQ qH (zM (zc 3)))) (zw))))
theorem NL {P:Program}{w:World}{K:Frag}{mg:Str->Option Value}{base:Heap}{k:Nat}(T:Bu mg){f:Addr}{fd:FuncData}(F:qF K "_law_mixed" "_law_mixed" GQ f fd)(hm:mg "_law_mixed" = some (.ref f)){jz:Fn}(qy:zC P w K mg base k "_law_take" 2 jz):zC P w K mg base (k+1) "_law_mixed" 2 (zY 4 (GY jz)):=
 Y.jL F hm Gy (λ _ _ _ _ _ _ us hl=>(yK hl).elim λ a h=>h.elim λ b q=>by subst q;rfl) λ cdv A outer s H E hr=>Y.zt (Y.qw 2 Gy.nd (Y.Ko rfl T.ZY T.j8 (Y.zm 1))) (Y.zt (Y.qw 3 Gy.nd (Y.qX (Y.zz) (zy))) (Y.zt (Y.ID 1000 PassesOwn.never (Y.kC (wx hr) (Y.zm 2) (Y.qX (Y.zz) (zy))) (Y.zt (Y.yw (Y.wQ (Y.zm 3) (Y.Ie (Y.zm 2) (Y.qu qy hr (Y.zr (Y.zm 0) (Y.zr (Y.j5 T.jI (Y.jf (Y.zm 2))) (Y.zz))) (zq (zq zy)))))) (Y.zL))) (Y.zt (Y.qA (Y.yk T.jT (Y.jf (Y.zm 3)))) (Y.zL))))
noncomputable abbrev GV:Stmt:=top 42
theorem O4:qR ["_law_table", "_law_order", "_law_names"] ["_law_table", "_law_order", "_law_names"] (qk GV):=⟨rfl,rfl,rfl,by decide +kernel,rfl,by decide +kernel,by decide +kernel⟩
noncomputable def GO:Ex:=zp (qj (mQ qH (zW 1 [0,1,2] (qd (zc 1)) (zA 0) (zi (.bl true)) (zJ (mQ qH (zW 1 [0,1,3] (qd (zc 2)) (zA 0) (zi (.bl true)) (zJ (zl zI (zc 3) (zl zI (zl zI (zc 2) (zc 1)) (zc 0)))))))))) (zw)
theorem NF {P:Program}{w:World}{K:Frag}{mg:Str->Option Value}{base:Heap}{k:Nat}(T:Bu mg){f:Addr}{fd:FuncData}(F:qF K "_law_named" "_law_named" GV f fd)(hm:mg "_law_named" = some (.ref f)):zC P w K mg base (k+1) "_law_named" 3 (zY 3 (GO)):=
 Y.jL F hm O4 (λ _ _ _ _ _ _ us hl=>(Jy hl).elim λ a h=>h.elim λ b h=>h.elim λ c q=>by subst q;rfl) λ cdv A outer s H E hr=>Y.zt (Y.qA (Y.yk T.jT (Y.yu (Y.jS (N:=["_law_a", "_law_table", "_law_order", "_law_names"]) 1 [0,1,2] rfl (cps (by kernel_rfl)) (by kernel_rfl) (Y.jF (Y.zm 1)) (λ _ _ _=>⟨Y.qz 0 (by decide +kernel:(["_law_a", "_law_table", "_law_order", "_law_names"]:List Str).Nodup),Y.jo,Y.jB (λ _ _ z=>z) (Y.yk T.jT (Y.yu (Y.jS (N:=["_law_b", "_law_a", "_law_table", "_law_names"]) 1 [0,1,3] rfl (cps (by kernel_rfl)) (by kernel_rfl) (Y.jF (Y.zm 2)) (λ _ _ _=>⟨Y.qz 0 (by decide +kernel:(["_law_b", "_law_a", "_law_table", "_law_names"]:List Str).Nodup),Y.jo,Y.jB (λ _ _ z=>z) (Y.jH (Y.zm 3) (Y.jH (Y.jH (Y.zm 2) (Y.zm 1)) (Y.zm 0))) rfl⟩)))) rfl⟩))))) (Y.zL)
noncomputable abbrev WT:Stmt:=top 43
theorem WN:qR ["_law_state_here", "_law_table", "_law_kinds_here", "_law_names"] ["_law_state_here", "_law_table"] (qk WT):=⟨rfl,rfl,rfl,by decide +kernel,rfl,by decide +kernel,by decide +kernel⟩
noncomputable def WS (Zi:Fn)(JI:Fn)(Y8:Fn):Ex:=zp (zK 2 (zx Zi (zh (zc 1) (zo)))) (zp (zK 3 (zl qb (zX (zh (zi (.int 0)) (zo))) (qO (zW 1 [] (qd (zx JI (zh (zc 0) (zh (zl yh (zc 2) (zi (.int 1))) (zo))))) (zA 0) (zi (.bl true)) (zJ (zl qb (zi (.int 1)) (zc 0))))))) (zp (qj (zx Y8 (zh (zc 1) (zh (zx JI (zh (zc 0) (zh (mQ qa (zM (zc 1))) (zo)))) (zh (zc 3) (zo)))))) (zw)))
theorem OD {P:Program}{w:World}{K:Frag}{mg:Str->Option Value}{base:Heap}{k:Nat}(T:Bu mg){f:Addr}{fd:FuncData}(F:qF K "_law_turned_about" "_law_turned_about" WT f fd)(hm:mg "_law_turned_about" = some (.ref f)){Zi:Fn}(gu:zC P w K mg base k "_law_kinds" 1 Zi){JI:Fn}(gw:zC P w K mg base k "_law_mixed" 2 JI){Y8:Fn}(QI:zC P w K mg base k "_law_named" 3 Y8):zC P w K mg base (k+1) "_law_turned_about" 2 (zY 4 (WS Zi JI Y8)):=
 Y.jL F hm WN (λ _ _ _ _ _ _ us hl=>(yK hl).elim λ a h=>h.elim λ b q=>by subst q;rfl) λ cdv A outer s H E hr=>Y.zt (Y.qw 2 WN.nd (Y.qu gu hr (Y.zr (Y.zm 1) (Y.zz)) (zq zy))) (Y.zt (Y.qw 3 WN.nd (Y.jU (Y.qX (Y.zr (Y.zH) (Y.zz)) (zq zy)) (Y.JZ (Y.jS (N:=["_law_name"]) 1 [] rfl (cps (by kernel_rfl)) (by kernel_rfl) (Y.jF (Y.qu gw hr (Y.zr (Y.zm 0) (Y.zr (Y.ZX (Y.zm 2) (Y.zH)) (Y.zz))) (zq (zq zy)))) (λ _ _ _=>⟨Y.qz 0 (by decide +kernel:(["_law_name"]:List Str).Nodup),Y.jo,Y.jB (λ _ _ z=>z) (Y.jU (Y.zH) (Y.zm 0)) rfl⟩))))) (Y.zt (Y.qA (Y.qu QI hr (Y.zr (Y.zm 1) (Y.zr (Y.qu gw hr (Y.zr (Y.zm 0) (Y.zr (Y.j5 T.jI (Y.jf (Y.zm 1))) (Y.zz))) (zq (zq zy))) (Y.zr (Y.zm 3) (Y.zz)))) (zq (zq (zq zy))))) (Y.zL)))
noncomputable abbrev WW:Stmt:=top 44
theorem ZH:qR ["_law_state_here", "_law_upto", "_law_many", "_law_rows", "_law_kinds_here", "_law_names", "_law_a", "_law_b", "_law_kind"] ["_law_state_here", "_law_upto"] (qk WW):=⟨rfl,rfl,rfl,by decide +kernel,rfl,by decide +kernel,by decide +kernel⟩
noncomputable def W0 (jz:Fn):Ex:=zp (zK 2 (zl qb (zi (.int 1)) (zx jz (zh (zc 0) (zh (zc 1) (zo)))))) (zp (zK 3 (qO (zW 1 [2] (jl (zc 2)) (zA 0) (zi (.bl true)) (zJ (zl qJ (zX (zh (zi (.int 0)) (zo))) (zc 1)))))) (zp (zK 4 (zl qb (zi (.int 1)) (zx jz (zh (zc 0) (zh (zl Z0 (zi (.int 1)) (zl wB (zi (.int 3)) (zl yh (zc 2) (zi (.int 1))))) (zo)))))) (zp (zK 5 (Qv)) (zp (jE (jl (zc 2)) (zA 6) (zp (jE (Jp (zl qb (zc 6) (zi (.int 1))) (zc 2)) (zA 7) (zp (zK 8 (yY j9 (zc 5) (zx jz (zh (zc 0) (zh (zc 4) (zo)))) (zl qb (yy (zc 5)) (zi (.int 1))))) (zp (wu yr (zc 8) (zl zI (zc 3) (zc 6)) (zc 7)) (zp (wu yr (zc 8) (zl zI (zc 3) (zc 7)) (zc 6)) (zw))))) (zw))) (zp (qj (mQ qH (zW 1 [] (qd (zc 3)) (zA 0) (zi (.bl true)) (zJ (mQ qH (zM (zc 0))))))) (zw))))))
theorem OI {P:Program}{w:World}{K:Frag}{mg:Str->Option Value}{base:Heap}{k:Nat}(T:Bu mg){f:Addr}{fd:FuncData}(F:qF K "_law_some_table" "_law_some_table" WW f fd)(hm:mg "_law_some_table" = some (.ref f)){jz:Fn}(qy:zC P w K mg base k "_law_take" 2 jz):zC P w K mg base (k+1) "_law_some_table" 2 (zY 9 (W0 jz)):=
 Y.jL F hm ZH (λ _ _ _ _ _ _ us hl=>(yK hl).elim λ a h=>h.elim λ b q=>by subst q;rfl) λ cdv A outer s H E hr=>Y.zt (Y.qw 2 ZH.nd (Y.jU (Y.zH) (Y.qu qy hr (Y.zr (Y.zm 0) (Y.zr (Y.zm 1) (Y.zz))) (zq (zq zy))))) (Y.zt (Y.Km 3 (N:=["_law_place", "_law_many"]) 1 [2] ZH.nd rfl (cps (by kernel_rfl)) (by kernel_rfl) (Y.yW rfl T.j8 (Y.zm 2)) (λ _ _ _=>⟨Y.qz 0 (by decide +kernel:(["_law_place", "_law_many"]:List Str).Nodup),Y.jo,Y.jB (λ _ _ z=>z) (Y.gJ (Y.qX (Y.zr (Y.zH) (Y.zz)) (zq zy)) (Y.zm 1)) rfl⟩)) (Y.zt (Y.qw 4 ZH.nd (Y.jU (Y.zH) (Y.qu qy hr (Y.zr (Y.zm 0) (Y.zr (Y.SU rfl T.Yb (Y.zH) (Y.KI rfl T.Jr (Y.zH) (Y.ZX (Y.zm 2) (Y.zH)))) (Y.zz))) (zq (zq zy))))) (Y.zt (Y.qw 5 ZH.nd (Y.KZ)) (Y.zt (Y.yZ PassesOwn.never rfl (Y.yW rfl T.j8 (Y.zm 2)) (Y.qz 6 ZH.nd) (Y.zt (Y.yZ PassesOwn.never rfl (Y.Rg rfl T.j8 (Y.jU (Y.zm 6) (Y.zH)) (Y.zm 2)) (Y.qz 7 ZH.nd) (Y.zt (Y.qw 8 ZH.nd (Y.Xz (Y.zm 5) (Y.qu qy hr (Y.zr (Y.zm 0) (Y.zr (Y.zm 4) (Y.zz))) (zq (zq zy))) (Y.jU (Y.Vg T.jI (Y.zm 5)) (Y.zH)))) (Y.zt (Y.K3 (Y.zm 8) (Y.jH (Y.zm 3) (Y.zm 6)) (Y.zm 7)) (Y.zt (Y.K3 (Y.zm 8) (Y.jH (Y.zm 3) (Y.zm 7)) (Y.zm 6)) (Y.zL))))) (Y.zL))) (Y.zt (Y.qA (Y.yk T.jT (Y.yu (Y.jS (N:=["_law_row"]) 1 [] rfl (cps (by kernel_rfl)) (by kernel_rfl) (Y.jF (Y.zm 3)) (λ _ _ _=>⟨Y.qz 0 (by decide +kernel:(["_law_row"]:List Str).Nodup),Y.jo,Y.jB (λ _ _ z=>z) (Y.yk T.jT (Y.jf (Y.zm 0))) rfl⟩))))) (Y.zL))))))
noncomputable abbrev Ga:Stmt:=top 45
theorem QC:qR ["_law_table", "_law_order", "_law_names", "_law_found", "_law_a", "_law_row", "_law_b"] ["_law_table", "_law_order"] (qk Ga):=⟨rfl,rfl,rfl,by decide +kernel,rfl,by decide +kernel,by decide +kernel⟩
noncomputable def W8:Ex:=zp (zK 2 (Qv)) (zp (zK 3 (zX (zo))) (zp (jE (qd (zc 1)) (zA 4) (zp (zK 5 (zX (zo))) (zp (jE (qd (zc 1)) (zA 6) (zp (qQ (qx qY (zc 5) (yY j9 (zc 2) (zl zI (zl zI (zc 0) (zc 4)) (zc 6)) (yy (zc 2))))) (zw))) (zp (qQ (qx qY (zc 3) (mQ qH (zM (zc 5))))) (zw))))) (zp (qj (mQ qH (zM (zc 3)))) (zw))))
theorem OQ {P:Program}{w:World}{K:Frag}{mg:Str->Option Value}{base:Heap}{k:Nat}(T:Bu mg){f:Addr}{fd:FuncData}(F:qF K "_law_by_order" "_law_by_order" Ga f fd)(hm:mg "_law_by_order" = some (.ref f)):zC P w K mg base (k+1) "_law_by_order" 2 (zY 7 (W8)):=
 Y.jL F hm QC (λ _ _ _ _ _ _ us hl=>(yK hl).elim λ a h=>h.elim λ b q=>by subst q;rfl) λ cdv A outer s H E hr=>Y.zt (Y.qw 2 QC.nd (Y.KZ)) (Y.zt (Y.qw 3 QC.nd (Y.qX (Y.zz) (zy))) (Y.zt (Y.yZ PassesOwn.never rfl (Y.jF (Y.zm 1)) (Y.qz 4 QC.nd) (Y.zt (Y.qw 5 QC.nd (Y.qX (Y.zz) (zy))) (Y.zt (Y.yZ PassesOwn.never rfl (Y.jF (Y.zm 1)) (Y.qz 6 QC.nd) (Y.zt (Y.yw (Y.wQ (Y.zm 5) (Y.Xz (Y.zm 2) (Y.jH (Y.jH (Y.zm 0) (Y.zm 4)) (Y.zm 6)) (Y.Vg T.jI (Y.zm 2))))) (Y.zL))) (Y.zt (Y.yw (Y.wQ (Y.zm 3) (Y.yk T.jT (Y.jf (Y.zm 5))))) (Y.zL))))) (Y.zt (Y.qA (Y.yk T.jT (Y.jf (Y.zm 3)))) (Y.zL))))
noncomputable abbrev Gj:Stmt:=top 46
theorem OO:qR ["_law_script", "_law_k"] ["_law_script", "_law_k"] (qk Gj):=⟨rfl,rfl,rfl,by decide +kernel,rfl,by decide +kernel,by decide +kernel⟩
noncomputable def YO:Ex:=zp (jc (zl Yr (zc 1) (mQ qa (zM (zc 0)))) (zp (qj (zl zI (zc 0) (zc 1))) (zw)) (zw)) (zp (qj (zi (.int 0))) (zw))
theorem OX {P:Program}{w:World}{K:Frag}{mg:Str->Option Value}{base:Heap}{k:Nat}(T:Bu mg){f:Addr}{fd:FuncData}(F:qF K "_law_cell_at" "_law_cell_at" Gj f fd)(hm:mg "_law_cell_at" = some (.ref f)):zC P w K mg base (k+1) "_law_cell_at" 2 (zY 2 (YO)):=
 Y.jL F hm OO (λ _ _ _ _ _ _ us hl=>(yK hl).elim λ a h=>h.elim λ b q=>by subst q;rfl) λ cdv A outer s H E hr=>Y.zt (Y.yo (Y.kC P7 (Y.zm 1) (Y.j5 T.jI (Y.jf (Y.zm 0)))) (Y.zt (Y.qA (Y.jH (Y.zm 0) (Y.zm 1))) (Y.zL)) (Y.zL)) (Y.zt (Y.qA (Y.zH)) (Y.zL))
noncomputable abbrev GL:Stmt:=top 47
theorem UH:qR ["_law_script", "_law_k", "_law_cell"] ["_law_script", "_law_k"] (qk GL):=⟨rfl,rfl,rfl,by decide +kernel,rfl,by decide +kernel,by decide +kernel⟩
noncomputable def Y6 (YR:Fn):Ex:=zp (zK 2 (zx YR (zh (zc 0) (zh (zc 1) (zo))))) (zp (jc (zl Uq (zc 2) (zl Wq (zi (.int 10)) (zi (.int 18)))) (zp (qj (zX (zh (zl yh (zc 2) (zl Wq (zi (.int 10)) (zi (.int 18)))) (zh (zi (.bl true)) (zo))))) (zw)) (zw)) (zp (qj (zX (zh (zl ka (zc 2) (zi (.int 2147483647))) (zh (zi (.bl false)) (zo))))) (zw)))
theorem NT {P:Program}{w:World}{K:Frag}{mg:Str->Option Value}{base:Heap}{k:Nat}(T:Bu mg){f:Addr}{fd:FuncData}(F:qF K "_law_state" "_law_state" GL f fd)(hm:mg "_law_state" = some (.ref f)){YR:Fn}(QD:zC P w K mg base k "_law_cell_at" 2 YR):zC P w K mg base (k+1) "_law_state" 2 (zY 3 (Y6 YR)):=
 Y.jL F hm UH (λ _ _ _ _ _ _ us hl=>(yK hl).elim λ a h=>h.elim λ b q=>by subst q;rfl) λ cdv A outer s H E hr=>Y.zt (Y.qw 2 UH.nd (Y.qu QD hr (Y.zr (Y.zm 0) (Y.zr (Y.zm 1) (Y.zz))) (zq (zq zy)))) (Y.zt (Y.yo (Y.kC BO (Y.zm 2) (Y.R4 (Y.zH) (Y.zH))) (Y.zt (Y.qA (Y.qX (Y.zr (Y.ZX (Y.zm 2) (Y.R4 (Y.zH) (Y.zH))) (Y.zr (Y.ku) (Y.zz))) (zq (zq zy)))) (Y.zL)) (Y.zL)) (Y.zt (Y.qA (Y.qX (Y.zr (Y.Zq (Y.zm 2) (Y.zH)) (Y.zr (Y.ku) (Y.zz))) (zq (zq zy)))) (Y.zL)))
noncomputable abbrev G0:Stmt:=top 48
theorem JH:qR ["_law_many", "_law_pairs_here", "_law_a", "_law_found", "_law_one"] ["_law_many"] (qk G0):=⟨rfl,rfl,rfl,by decide +kernel,rfl,by decide +kernel,by decide +kernel⟩
noncomputable def UO:Ex:=zp (zK 1 (zX (zo))) (zp (jE (jl (zc 0)) (zA 2) (zp (qQ (qx wU (zc 1) (qO (zW 1 [2] (Jp (zl qb (zc 2) (zi (.int 1))) (zc 0)) (zA 0) (zi (.bl true)) (zJ (zS (zh (zc 1) (zh (zc 0) (zo))))))))) (zw))) (zp (zK 3 (zX (zo))) (zp (jE (qd (zc 1)) (zA 4) (zp (qQ (qx qY (zc 3) (mQ qH (zW 1 [4] (qd (zc 1)) (zA 0) (zi (.bl true)) (zJ (zl yh (zi (.int 4)) (Rq (zl qb (zc 1) (zc 0))))))))) (zw))) (zp (qj (mQ qH (zW 1 [] (qd (zc 3)) (zA 0) (zi (.bl true)) (zJ (mQ qH (zW 1 [] (qd (zc 0)) (zA 0) (zi (.bl true)) (zJ (zl zI (zX (zh (zi (.int 2)) (zh (zi (.int 1)) (zh (zi (.int 0)) (zo))))) (zc 0))))))))) (zw)))))
theorem NW {P:Program}{w:World}{K:Frag}{mg:Str->Option Value}{base:Heap}{k:Nat}(T:Bu mg){f:Addr}{fd:FuncData}(F:qF K "_law_pairs" "_law_pairs" G0 f fd)(hm:mg "_law_pairs" = some (.ref f)):zC P w K mg base (k+1) "_law_pairs" 1 (zY 5 (UO)):=
 Y.jL F hm JH (λ _ _ _ _ _ _ us hl=>(yQ hl).elim λ a q=>by subst q;rfl) λ cdv A outer s H E hr=>Y.zt (Y.qw 1 JH.nd (Y.qX (Y.zz) (zy))) (Y.zt (Y.yZ PassesOwn.never rfl (Y.yW rfl T.j8 (Y.zm 0)) (Y.qz 2 JH.nd) (Y.zt (Y.yw (Y.Td (Y.zm 1) (Y.JZ (Y.jS (N:=["_law_b", "_law_a"]) 1 [2] rfl (cps (by kernel_rfl)) (by kernel_rfl) (Y.Rg rfl T.j8 (Y.jU (Y.zm 2) (Y.zH)) (Y.zm 0)) (λ _ _ _=>⟨Y.qz 0 (by decide +kernel:(["_law_b", "_law_a"]:List Str).Nodup),Y.jo,Y.jB (λ _ _ z=>z) (Y.je (Y.zr (Y.zm 1) (Y.zr (Y.zm 0) (Y.zz))) (zq (zq zy))) rfl⟩))))) (Y.zL))) (Y.zt (Y.qw 3 JH.nd (Y.qX (Y.zz) (zy))) (Y.zt (Y.yZ PassesOwn.never rfl (Y.jF (Y.zm 1)) (Y.qz 4 JH.nd) (Y.zt (Y.yw (Y.wQ (Y.zm 3) (Y.yk T.jT (Y.yu (Y.jS (N:=["_law_other", "_law_one"]) 1 [4] rfl (cps (by kernel_rfl)) (by kernel_rfl) (Y.jF (Y.zm 1)) (λ _ _ _=>⟨Y.qz 0 (by decide +kernel:(["_law_other", "_law_one"]:List Str).Nodup),Y.jo,Y.jB (λ _ _ z=>z) (Y.ZX (Y.zH) (Y.MP rfl T.jI T.CU (Y.jU (Y.zm 1) (Y.zm 0)))) rfl⟩)))))) (Y.zL))) (Y.zt (Y.qA (Y.yk T.jT (Y.yu (Y.jS (N:=["_law_row"]) 1 [] rfl (cps (by kernel_rfl)) (by kernel_rfl) (Y.jF (Y.zm 3)) (λ _ _ _=>⟨Y.qz 0 (by decide +kernel:(["_law_row"]:List Str).Nodup),Y.jo,Y.jB (λ _ _ z=>z) (Y.yk T.jT (Y.yu (Y.jS (N:=["_law_kind"]) 1 [] rfl (cps (by kernel_rfl)) (by kernel_rfl) (Y.jF (Y.zm 0)) (λ _ _ _=>⟨Y.qz 0 (by decide +kernel:(["_law_kind"]:List Str).Nodup),Y.jo,Y.jB (λ _ _ z=>z) (Y.jH (Y.qX (Y.zr (Y.zH) (Y.zr (Y.zH) (Y.zr (Y.zH) (Y.zz)))) (zq (zq (zq zy)))) (Y.zm 0)) rfl⟩)))) rfl⟩))))) (Y.zL)))))
noncomputable abbrev Xf:Stmt:=top 49
theorem Nq:qR ["_law_many"] ["_law_many"] (qk Xf):=⟨rfl,rfl,rfl,by decide +kernel,rfl,by decide +kernel,by decide +kernel⟩
noncomputable def UW:Ex:=zp (qj (mQ qH (zW 1 [0] (jl (zc 0)) (zA 0) (zi (.bl true)) (zJ (mQ qH (zW 1 [0,1] (jl (zc 1)) (zA 0) (zi (.bl true)) (zJ (zl wB (zl ka (zl yh (zc 1) (zc 0)) (zc 2)) (zl ka (zl yh (zc 0) (zc 1)) (zc 2)))))))))) (zw)
theorem N1 {P:Program}{w:World}{K:Frag}{mg:Str->Option Value}{base:Heap}{k:Nat}(T:Bu mg){f:Addr}{fd:FuncData}(F:qF K "_law_ring" "_law_ring" Xf f fd)(hm:mg "_law_ring" = some (.ref f)):zC P w K mg base (k+1) "_law_ring" 1 (zY 1 (UW)):=
 Y.jL F hm Nq (λ _ _ _ _ _ _ us hl=>(yQ hl).elim λ a q=>by subst q;rfl) λ cdv A outer s H E hr=>Y.zt (Y.qA (Y.yk T.jT (Y.yu (Y.jS (N:=["_law_a", "_law_many"]) 1 [0] rfl (cps (by kernel_rfl)) (by kernel_rfl) (Y.yW rfl T.j8 (Y.zm 0)) (λ _ _ _=>⟨Y.qz 0 (by decide +kernel:(["_law_a", "_law_many"]:List Str).Nodup),Y.jo,Y.jB (λ _ _ z=>z) (Y.yk T.jT (Y.yu (Y.jS (N:=["_law_b", "_law_a", "_law_many"]) 1 [0,1] rfl (cps (by kernel_rfl)) (by kernel_rfl) (Y.yW rfl T.j8 (Y.zm 1)) (λ _ _ _=>⟨Y.qz 0 (by decide +kernel:(["_law_b", "_law_a", "_law_many"]:List Str).Nodup),Y.jo,Y.jB (λ _ _ z=>z) (Y.KI rfl T.Jr (Y.Zq (Y.ZX (Y.zm 1) (Y.zm 0)) (Y.zm 2)) (Y.Zq (Y.ZX (Y.zm 0) (Y.zm 1)) (Y.zm 2))) rfl⟩)))) rfl⟩))))) (Y.zL)
noncomputable abbrev GI:Stmt:=top 50
theorem JG:qR ["_law_many", "_law_size", "_law_found", "_law_a", "_law_row", "_law_b"] ["_law_many", "_law_size"] (qk GI):=⟨rfl,rfl,rfl,by decide +kernel,rfl,by decide +kernel,by decide +kernel⟩
noncomputable def UG:Ex:=zp (zK 2 (zX (zo))) (zp (jE (jl (zl qJ (zc 0) (zc 1))) (zA 3) (zp (zK 4 (zX (zo))) (zp (jE (jl (zl qJ (zc 0) (zc 1))) (zA 5) (zp (qQ (qx qY (zc 4) (zl qb (Qb Yp (zl jC (zc 3) (zc 5))) (Qb Yp (wH (zl jC (zl Z5 (zc 3) (zc 1)) (zl Z5 (zc 5) (zc 1))) (zl Yu (zc 1) (zi (.int 1)))))))) (zw))) (zp (qQ (qx qY (zc 2) (mQ qH (zM (zc 4))))) (zw))))) (zp (qj (mQ qH (zM (zc 2)))) (zw)))
theorem Ni {P:Program}{w:World}{K:Frag}{mg:Str->Option Value}{base:Heap}{k:Nat}(T:Bu mg){f:Addr}{fd:FuncData}(F:qF K "_law_blocks" "_law_blocks" GI f fd)(hm:mg "_law_blocks" = some (.ref f)):zC P w K mg base (k+1) "_law_blocks" 2 (zY 6 (UG)):=
 Y.jL F hm JG (λ _ _ _ _ _ _ us hl=>(yK hl).elim λ a h=>h.elim λ b q=>by subst q;rfl) λ cdv A outer s H E hr=>Y.zt (Y.qw 2 JG.nd (Y.qX (Y.zz) (zy))) (Y.zt (Y.yZ PassesOwn.never rfl (Y.yW rfl T.j8 (Y.gJ (Y.zm 0) (Y.zm 1))) (Y.qz 3 JG.nd) (Y.zt (Y.qw 4 JG.nd (Y.qX (Y.zz) (zy))) (Y.zt (Y.yZ PassesOwn.never rfl (Y.yW rfl T.j8 (Y.gJ (Y.zm 0) (Y.zm 1))) (Y.qz 5 JG.nd) (Y.zt (Y.yw (Y.wQ (Y.zm 4) (Y.jU (Y.XD T.K7 (Y.Zt (wx hr) (Y.zm 3) (Y.zm 5))) (Y.XD T.K7 (Y.Qg (Y.Zt (wx hr) (Y.K0 (Y.zm 3) (Y.zm 1)) (Y.K0 (Y.zm 5) (Y.zm 1))) (Y.Jg (Y.Zt V4 (Y.zm 1) (Y.zH)))))))) (Y.zL))) (Y.zt (Y.yw (Y.wQ (Y.zm 2) (Y.yk T.jT (Y.jf (Y.zm 4))))) (Y.zL))))) (Y.zt (Y.qA (Y.yk T.jT (Y.jf (Y.zm 2)))) (Y.zL)))
noncomputable abbrev Gs:Stmt:=top 51
theorem QF:qR ["_law_many", "_law_found", "_law_turn", "_law_longer", "_law_row"] ["_law_many"] (qk Gs):=⟨rfl,rfl,rfl,by decide +kernel,rfl,by decide +kernel,by decide +kernel⟩
noncomputable def Y0:Ex:=zp (zK 1 (zX (zh (zS (zo)) (zo)))) (zp (jE (jl (zc 0)) (zA 2) (zp (zK 3 (zX (zo))) (zp (jE (qd (zc 1)) (zA 4) (zp (qQ (qx wU (zc 3) (qO (zW 1 [4] (jl (zc 0)) (zA 0) (zl kr (zc 0) (zc 1)) (zJ (zl qb (zc 1) (zS (zh (zc 0) (zo))))))))) (zw))) (zp (zK 1 (zc 3)) (zw))))) (zp (qj (zc 1)) (zw)))
theorem Nb {P:Program}{w:World}{K:Frag}{mg:Str->Option Value}{base:Heap}{k:Nat}(T:Bu mg){f:Addr}{fd:FuncData}(F:qF K "_law_orders" "_law_orders" Gs f fd)(hm:mg "_law_orders" = some (.ref f)):zC P w K mg base (k+1) "_law_orders" 1 (zY 5 (Y0)):=
 Y.jL F hm QF (λ _ _ _ _ _ _ us hl=>(yQ hl).elim λ a q=>by subst q;rfl) λ cdv A outer s H E hr=>Y.zt (Y.qw 1 QF.nd (Y.qX (Y.zr (Y.je (Y.zz) (zy)) (Y.zz)) (zq zy))) (Y.zt (Y.yZ PassesOwn.never rfl (Y.yW rfl T.j8 (Y.zm 0)) (Y.qz 2 QF.nd) (Y.zt (Y.qw 3 QF.nd (Y.qX (Y.zz) (zy))) (Y.zt (Y.yZ PassesOwn.never rfl (Y.jF (Y.zm 1)) (Y.qz 4 QF.nd) (Y.zt (Y.yw (Y.Td (Y.zm 3) (Y.JZ (Y.jS (N:=["_law_place", "_law_row"]) 1 [4] rfl (cps (by kernel_rfl)) (by kernel_rfl) (Y.yW rfl T.j8 (Y.zm 0)) (λ _ _ _=>⟨Y.qz 0 (by decide +kernel:(["_law_place", "_law_row"]:List Str).Nodup),Y.X7 (Y.VI Rl (Y.zm 0) (Y.zm 1)),Y.jB (λ _ _ z=>z) (Y.jU (Y.zm 1) (Y.je (Y.zr (Y.zm 0) (Y.zz)) (zq zy))) rfl⟩))))) (Y.zL))) (Y.zt (Y.qw 1 QF.nd (Y.zm 3)) (Y.zL))))) (Y.zt (Y.qA (Y.zm 1)) (Y.zL)))
noncomputable abbrev G5:Stmt:=top 52
theorem Nv:qR ["_law_found", "_law_due"] ["_law_found", "_law_due"] (qk G5):=⟨rfl,rfl,rfl,by decide +kernel,rfl,by decide +kernel,by decide +kernel⟩
noncomputable def gx (gz:Fn):Ex:=zp (jc (Ob .tup .lst (zc 1)) (zp (jc (g8 (zl jC (we .tup (zc 0)) (we .tup (zc 1))) (zl jC (we .lst (zc 0)) (we .lst (zc 1)))) (zp (qj (zi (.bl false))) (zw)) (zw)) (zp (jc (zl jC (mQ qa (zM (zc 0))) (mQ qa (zM (zc 1)))) (zp (qj (zi (.bl false))) (zw)) (zw)) (zp (qj (mQ Qw (zW 2 [] (Wv (zc 0) (zc 1)) (kN 0 1) (zi (.bl true)) (zJ (zx gz (zh (zc 0) (zh (zc 1) (zo)))))))) (zw)))) (zw)) (zp (qj (wH (zl yd (zc 0) (zc 1)) (zl yd (we .bl (zc 0)) (we .bl (zc 1))))) (zw))
theorem Xb {P:Program}{w:World}{K:Frag}{mg:Str->Option Value}{base:Heap}{k:Nat}(T:Bu mg){f:Addr}{fd:FuncData}(F:qF K "_law_same" "_law_same" G5 f fd)(hm:mg "_law_same" = some (.ref f)){gz:Fn}(kF:zC P w K mg base k "_law_same" 2 gz):zC P w K mg base (k+1) "_law_same" 2 (zY 2 (gx gz)):=
 Y.jL F hm Nv (λ _ _ _ _ _ _ us hl=>(yK hl).elim λ a h=>h.elim λ b q=>by subst q;rfl) λ cdv A outer s H E hr=>Y.zt (Y.yo (Y.Zp (Y.Dr .tup .lst T.jy T.jT T.ZY (by rfl) (by rfl) (Y.zm 1))) (Y.zt (Y.yo (Y.Ve (Y.VZ (Y.kC (wx hr) (Y.gN .tup T.jy T.jT (by rfl) (Y.zm 0)) (Y.gN .tup T.jy T.jT (by rfl) (Y.zm 1))) (Y.Vw (Y.kC (wx hr) (Y.gN .lst T.jy T.ZY (by rfl) (Y.zm 0)) (Y.gN .lst T.jy T.ZY (by rfl) (Y.zm 1)))))) (Y.zt (Y.qA (Y.ku)) (Y.zL)) (Y.zL)) (Y.zt (Y.yo (Y.kC (wx hr) (Y.j5 T.jI (Y.jf (Y.zm 0))) (Y.j5 T.jI (Y.jf (Y.zm 1)))) (Y.zt (Y.qA (Y.ku)) (Y.zL)) (Y.zL)) (Y.zt (Y.qA (Y.J6 rfl T.Ya (Y.yu (Y.jS (N:=["_law_one", "_law_other"]) 2 [] rfl (cps (by kernel_rfl)) (by kernel_rfl) (Y.D5 rfl T.Bf (Y.zm 0) (Y.zm 1)) (λ _ _ _=>⟨Y.KA 0 1 rfl (by decide +kernel:(["_law_one", "_law_other"]:List Str).Nodup),Y.jo,Y.jB (λ _ _ z=>z) (Y.qu kF hr (Y.zr (Y.zm 0) (Y.zr (Y.zm 1) (Y.zz))) (zq (zq zy))) rfl⟩))))) (Y.zL)))) (Y.zL)) (Y.zt (Y.qA (Y.Qg (Y.Zt (Qp hr) (Y.zm 0) (Y.zm 1)) (Y.Jg (Y.Zt (Qp hr) (Y.gN .bl T.jy T.Vr (by rfl) (Y.zm 0)) (Y.gN .bl T.jy T.Vr (by rfl) (Y.zm 1)))))) (Y.zL))
noncomputable abbrev GN:Stmt:=top 53
theorem O2:qR ["_law_many"] ["_law_many"] (qk GN):=⟨rfl,rfl,rfl,by decide +kernel,rfl,by decide +kernel,by decide +kernel⟩
noncomputable def UL:Ex:=zp (qj (mQ qH (zW 1 [0] (jl (zc 0)) (zA 0) (zi (.bl true)) (zJ (mQ qH (zW 1 [0] (jl (zc 1)) (zA 0) (zi (.bl true)) (zJ (Qb Yp (zl jC (zc 1) (zc 0)))))))))) (zw)
theorem NP {P:Program}{w:World}{K:Frag}{mg:Str->Option Value}{base:Heap}{k:Nat}(T:Bu mg){f:Addr}{fd:FuncData}(F:qF K "_law_alike" "_law_alike" GN f fd)(hm:mg "_law_alike" = some (.ref f)):zC P w K mg base (k+1) "_law_alike" 1 (zY 1 (UL)):=
 Y.jL F hm O2 (λ _ _ _ _ _ _ us hl=>(yQ hl).elim λ a q=>by subst q;rfl) λ cdv A outer s H E hr=>Y.zt (Y.qA (Y.yk T.jT (Y.yu (Y.jS (N:=["_law_a", "_law_many"]) 1 [0] rfl (cps (by kernel_rfl)) (by kernel_rfl) (Y.yW rfl T.j8 (Y.zm 0)) (λ _ _ _=>⟨Y.qz 0 (by decide +kernel:(["_law_a", "_law_many"]:List Str).Nodup),Y.jo,Y.jB (λ _ _ z=>z) (Y.yk T.jT (Y.yu (Y.jS (N:=["_law_b", "_law_a"]) 1 [0] rfl (cps (by kernel_rfl)) (by kernel_rfl) (Y.yW rfl T.j8 (Y.zm 1)) (λ _ _ _=>⟨Y.qz 0 (by decide +kernel:(["_law_b", "_law_a"]:List Str).Nodup),Y.jo,Y.jB (λ _ _ z=>z) (Y.XD T.K7 (Y.Zt (wx hr) (Y.zm 1) (Y.zm 0))) rfl⟩)))) rfl⟩))))) (Y.zL)
noncomputable abbrev W5:Stmt:=top 54
theorem WY:qR ["_law_state_here", "_law_some"] ["_law_state_here"] (qk W5):=⟨rfl,rfl,rfl,by decide +kernel,rfl,by decide +kernel,by decide +kernel⟩
noncomputable def W3 (jz:Fn):Ex:=zp (zK 1 (zX (zh (zi .non) (zh (zi (.int 0)) (zh (zS (zo)) (zh (zS (zh (zS (zh (zi (.int 1)) (zo))) (zo))) (zh (zS (zh (zS (zh (zi (.int 0)) (zh (zi (.int 1)) (zo)))) (zh (zS (zh (zi (.int 1)) (zh (zi (.int 0)) (zo)))) (zh (zS (zh (zi (.int 0)) (zh (zi (.int 0)) (zo)))) (zo))))) (zh (zS (zh (zS (zh (zi (.int 0)) (zh (zi (.int 2)) (zo)))) (zh (zS (zh (zi (.int 2)) (zh (zi (.int 0)) (zo)))) (zo)))) (zh (zS (zh (zS (zh (zi (.int 0)) (zh (zi (.int 1)) (zo)))) (zh (zS (zh (zi (.int 2)) (zh (zi (.int 0)) (zo)))) (zo)))) (zh (zX (zh (zS (zh (zi (.int 0)) (zh (zi (.int 1)) (zo)))) (zh (zS (zh (zi (.int 1)) (zh (zi (.int 0)) (zo)))) (zo)))) (zo))))))))))) (zp (zK 1 (zl qb (zc 1) (zX (zh (zS (zh (zS (zh (zi (.int 0)) (zh (zi (.int 0)) (zo)))) (zh (zS (zh (zi (.int 0)) (zh (zi (.int 0)) (zo)))) (zo)))) (zh (zS (zh (zS (zh (zi (.int 0)) (zh (zi (.bl true)) (zo)))) (zh (zS (zh (zi (.bl true)) (zh (zi (.int 0)) (zo)))) (zo)))) (zh (zS (zh (zS (zh (zi (.int 0)) (zh (zi (.int 1)) (zo)))) (zh (zX (zh (zi (.int 1)) (zh (zi (.int 0)) (zo)))) (zo)))) (zh (zS (zh (zS (zh (zi (.int 0)) (zh (zi (.int 1)) (zo)))) (zo))) (zh (zi (.str "01/10")) (zh (Qv) (zh (zl Zr (zS (zh (zl Zr (zS (zh (zi (.int 0)) (zo))) (zi (.int 9))) (zo))) (zi (.int 9))) (zo))))))))))) (zp (qj (zl zI (zc 1) (zx jz (zh (zc 0) (zh (zi (.int 15)) (zo)))))) (zw)))
theorem OL {P:Program}{w:World}{K:Frag}{mg:Str->Option Value}{base:Heap}{k:Nat}(T:Bu mg){f:Addr}{fd:FuncData}(F:qF K "_law_bad_table" "_law_bad_table" W5 f fd)(hm:mg "_law_bad_table" = some (.ref f)){jz:Fn}(qy:zC P w K mg base k "_law_take" 2 jz):zC P w K mg base (k+1) "_law_bad_table" 1 (zY 2 (W3 jz)):=
 Y.jL F hm WY (λ _ _ _ _ _ _ us hl=>(yQ hl).elim λ a q=>by subst q;rfl) λ cdv A outer s H E hr=>Y.zt (Y.qw 1 WY.nd (Y.qX (Y.zr (Y.Jh) (Y.zr (Y.zH) (Y.zr (Y.je (Y.zz) (zy)) (Y.zr (Y.je (Y.zr (Y.je (Y.zr (Y.zH) (Y.zz)) (zq zy)) (Y.zz)) (zq zy)) (Y.zr (Y.je (Y.zr (Y.je (Y.zr (Y.zH) (Y.zr (Y.zH) (Y.zz))) (zq (zq zy))) (Y.zr (Y.je (Y.zr (Y.zH) (Y.zr (Y.zH) (Y.zz))) (zq (zq zy))) (Y.zr (Y.je (Y.zr (Y.zH) (Y.zr (Y.zH) (Y.zz))) (zq (zq zy))) (Y.zz)))) (zq (zq (zq zy)))) (Y.zr (Y.je (Y.zr (Y.je (Y.zr (Y.zH) (Y.zr (Y.zH) (Y.zz))) (zq (zq zy))) (Y.zr (Y.je (Y.zr (Y.zH) (Y.zr (Y.zH) (Y.zz))) (zq (zq zy))) (Y.zz))) (zq (zq zy))) (Y.zr (Y.je (Y.zr (Y.je (Y.zr (Y.zH) (Y.zr (Y.zH) (Y.zz))) (zq (zq zy))) (Y.zr (Y.je (Y.zr (Y.zH) (Y.zr (Y.zH) (Y.zz))) (zq (zq zy))) (Y.zz))) (zq (zq zy))) (Y.zr (Y.qX (Y.zr (Y.je (Y.zr (Y.zH) (Y.zr (Y.zH) (Y.zz))) (zq (zq zy))) (Y.zr (Y.je (Y.zr (Y.zH) (Y.zr (Y.zH) (Y.zz))) (zq (zq zy))) (Y.zz))) (zq (zq zy))) (Y.zz))))))))) (zq (zq (zq (zq (zq (zq (zq (zq zy)))))))))) (Y.zt (Y.qw 1 WY.nd (Y.jU (Y.zm 1) (Y.qX (Y.zr (Y.je (Y.zr (Y.je (Y.zr (Y.zH) (Y.zr (Y.zH) (Y.zz))) (zq (zq zy))) (Y.zr (Y.je (Y.zr (Y.zH) (Y.zr (Y.zH) (Y.zz))) (zq (zq zy))) (Y.zz))) (zq (zq zy))) (Y.zr (Y.je (Y.zr (Y.je (Y.zr (Y.zH) (Y.zr (Y.ku) (Y.zz))) (zq (zq zy))) (Y.zr (Y.je (Y.zr (Y.ku) (Y.zr (Y.zH) (Y.zz))) (zq (zq zy))) (Y.zz))) (zq (zq zy))) (Y.zr (Y.je (Y.zr (Y.je (Y.zr (Y.zH) (Y.zr (Y.zH) (Y.zz))) (zq (zq zy))) (Y.zr (Y.qX (Y.zr (Y.zH) (Y.zr (Y.zH) (Y.zz))) (zq (zq zy))) (Y.zz))) (zq (zq zy))) (Y.zr (Y.je (Y.zr (Y.je (Y.zr (Y.zH) (Y.zr (Y.zH) (Y.zz))) (zq (zq zy))) (Y.zz)) (zq zy)) (Y.zr (Y.VB) (Y.zr (Y.KZ) (Y.zr (Y.RC (Y.je (Y.zr (Y.RC (Y.je (Y.zr (Y.zH) (Y.zz)) (zq zy)) (Y.zH)) (Y.zz)) (zq zy)) (Y.zH)) (Y.zz)))))))) (zq (zq (zq (zq (zq (zq (zq zy)))))))))) (Y.zt (Y.qA (Y.jH (Y.zm 1) (Y.qu qy hr (Y.zr (Y.zm 0) (Y.zr (Y.zH) (Y.zz))) (zq (zq zy))))) (Y.zL)))
noncomputable abbrev Gf:Stmt:=top 55
theorem Zd:qR ["_law_call", "_law_error", "e", "_law_marks"] ["_law_call"] (qk Gf):=⟨rfl,rfl,rfl,by decide +kernel,rfl,by decide +kernel,by decide +kernel⟩
noncomputable def W9:Ex:=zp (zK 3 (zX (zh (qC (qK zN "NoTable") (zc 1)) (zh (qC (qK zN "NotSteady") (zc 1)) (zh (qC (qK zN "NoPlace") (zc 1)) (zo)))))) (zp (zK 3 (zl qb (zc 3) (zX (zh (qC (qK zN "NoKind") (zc 1)) (zh (qC (qK zN "NoMix") (zc 1)) (zh (qC (qK zN "NoNumber") (zc 1)) (zo))))))) (zp (zK 3 (zl qb (zc 3) (zX (zh (qC (qK zN "NoLot") (zc 1)) (zh (qC (qK zN "NoKinds") (zc 1)) (zh (qC (qK zN "NoPaper") (zc 1)) (zo))))))) (zp (zK 3 (zl qb (zc 3) (zX (zh (qC (qK zN "NoParting") (zc 1)) (zh (qC (qK zN "NoClosed") (zc 1)) (zh (qC (qK zN "TooMany") (zc 1)) (zo))))))) (zp (zK 3 (zl qb (zc 3) (zX (zh (qC (qK zN "NoText") (zc 1)) (zh (qC (qK zN "NoLine") (zc 1)) (zh (qC (qK zN "NoDeed") (zc 1)) (zo))))))) (zp (zK 3 (zl qb (zc 3) (zX (zh (qC (qK zN "NoWeights") (zc 1)) (zh (qC (qK zN "NotWhole") (zc 1)) (zh (qC (qK zN "NoNumbers") (zc 1)) (zo))))))) (zp (jc (kz (qC (Uh zN) (zc 1))) (zp (qj (zi .non)) (zw)) (zw)) (zp (qj (qO (zW 1 [3] (jl (zi (.int 18))) (zA 0) (zl zI (zc 1) (zc 0)) (zJ (zc 0))))) (zw))))))))
noncomputable def JF (PG:jJ)(lam:Nat->Fn):Ex:=zp (zK 1 (zi .non)) (zp (Yd 0 1 2 zN PG lam) W9)
theorem O0 {P:Program}{w:World}{K:Frag}{mg:Str->Option Value}{base:Heap}{k:Nat}(T:Bu mg)(C:yT K zN "NearError")(R:yj.all (qG K zN)=true){f:Addr}{fd:FuncData}(F:qF K "_law_refused" "_law_refused" Gf f fd)(hm:mg "_law_refused" = some (.ref f)){PG:jJ}{lam:Nat->Fn}{kk:Nat}(hkk:kk<=k)(hL:∀k,Z3 P w K mg base kk (PG k) (lam k)):zC P w K mg base (k+1) "_law_refused" 1 (zY 4 (JF PG lam)):=
 Y.jL F hm Zd (λ _ _ _ _ _ _ us hl=>(yQ hl).elim λ a q=>by subst q;rfl) λ cdv A outer s H E hr=>Y.zt (Y.qw 1 Zd.nd (Y.Jh)) (Y.zt (Y.DG hL (hr.mono hkk) rfl rfl C.top_at C.top_exc (by decide +kernel) C.under Zd.nd rfl rfl rfl rfl rfl rfl rfl) (Y.zt (Y.qw 3 Zd.nd (Y.qX (Y.zr (Y.yI (C.isx (rw_NoTable R)) (yH (rw_NoTable R)) T.jy (Y.zm 1)) (Y.zr (Y.yI (C.isx (rw_NotSteady R)) (yH (rw_NotSteady R)) T.jy (Y.zm 1)) (Y.zr (Y.yI (C.isx (rw_NoPlace R)) (yH (rw_NoPlace R)) T.jy (Y.zm 1)) (Y.zz)))) (zq (zq (zq zy))))) (Y.zt (Y.qw 3 Zd.nd (Y.jU (Y.zm 3) (Y.qX (Y.zr (Y.yI (C.isx (rw_NoKind R)) (yH (rw_NoKind R)) T.jy (Y.zm 1)) (Y.zr (Y.yI (C.isx (rw_NoMix R)) (yH (rw_NoMix R)) T.jy (Y.zm 1)) (Y.zr (Y.yI (C.isx (rw_NoNumber R)) (yH (rw_NoNumber R)) T.jy (Y.zm 1)) (Y.zz)))) (zq (zq (zq zy)))))) (Y.zt (Y.qw 3 Zd.nd (Y.jU (Y.zm 3) (Y.qX (Y.zr (Y.yI (C.isx (rw_NoLot R)) (yH (rw_NoLot R)) T.jy (Y.zm 1)) (Y.zr (Y.yI (C.isx (rw_NoKinds R)) (yH (rw_NoKinds R)) T.jy (Y.zm 1)) (Y.zr (Y.yI (C.isx (rw_NoPaper R)) (yH (rw_NoPaper R)) T.jy (Y.zm 1)) (Y.zz)))) (zq (zq (zq zy)))))) (Y.zt (Y.qw 3 Zd.nd (Y.jU (Y.zm 3) (Y.qX (Y.zr (Y.yI (C.isx (rw_NoParting R)) (yH (rw_NoParting R)) T.jy (Y.zm 1)) (Y.zr (Y.yI (C.isx (rw_NoClosed R)) (yH (rw_NoClosed R)) T.jy (Y.zm 1)) (Y.zr (Y.yI (C.isx (rw_TooMany R)) (yH (rw_TooMany R)) T.jy (Y.zm 1)) (Y.zz)))) (zq (zq (zq zy)))))) (Y.zt (Y.qw 3 Zd.nd (Y.jU (Y.zm 3) (Y.qX (Y.zr (Y.yI (C.isx (rw_NoText R)) (yH (rw_NoText R)) T.jy (Y.zm 1)) (Y.zr (Y.yI (C.isx (rw_NoLine R)) (yH (rw_NoLine R)) T.jy (Y.zm 1)) (Y.zr (Y.yI (C.isx (rw_NoDeed R)) (yH (rw_NoDeed R)) T.jy (Y.zm 1)) (Y.zz)))) (zq (zq (zq zy)))))) (Y.zt (Y.qw 3 Zd.nd (Y.jU (Y.zm 3) (Y.qX (Y.zr (Y.yI (C.isx (rw_NoWeights R)) (yH (rw_NoWeights R)) T.jy (Y.zm 1)) (Y.zr (Y.yI (C.isx (rw_NotWhole R)) (yH (rw_NotWhole R)) T.jy (Y.zm 1)) (Y.zr (Y.yI (C.isx (rw_NoNumbers R)) (yH (rw_NoNumbers R)) T.jy (Y.zm 1)) (Y.zz)))) (zq (zq (zq zy)))))) (Y.zt (Y.yo (Y.Qi (Y.Zp (Y.FG C.isv T.jy T.NS (by rfl) (Y.zm 1)))) (Y.zt (Y.qA (Y.Jh)) (Y.zL)) (Y.zL)) (Y.zt (Y.qA (Y.JZ (Y.jS (N:=["_law_k", "_law_marks"]) 1 [3] rfl (cps (by kernel_rfl)) (by kernel_rfl) (Y.yW rfl T.j8 (Y.zH)) (λ _ _ _=>⟨Y.qz 0 (by decide +kernel:(["_law_k", "_law_marks"]:List Str).Nodup),Y.X7 (Y.Zp (Y.jH (Y.zm 1) (Y.zm 0))),Y.jB (λ _ _ z=>z) (Y.zm 0) rfl⟩)))) (Y.zL))))))))))
noncomputable abbrev Gn:Stmt:=top 56
theorem QE:qR ["_law_state_here", "_law_table", "_law_some", "_law_a", "_law_b", "_law_rows", "_law_kind"] ["_law_state_here", "_law_table"] (qk Gn):=⟨rfl,rfl,rfl,by decide +kernel,rfl,by decide +kernel,by decide +kernel⟩
noncomputable def Y4 (gq:Fn)(Zi:Fn)(Zb:Fn)(jz:Fn)(Za:Fn):Ex:=zp (zK 2 (zX (zh (zx Za (zh (zc 0) (zh (zc 1) (zo)))) (zh (zc 1) (zh (zx Zb (zh (zc 0) (zh (zi (.int 6)) (zo)))) (zo)))))) (zp (jc (zl Yu (mQ qa (zM (zc 1))) (zi (.int 2))) (zp (zK 3 (zx jz (zh (zc 0) (zh (mQ qa (zM (zc 1))) (zo))))) (zp (zK 4 (zl ka (zl qb (zl qb (zc 3) (zi (.int 1))) (zx jz (zh (zc 0) (zh (zl yh (mQ qa (zM (zc 1))) (zi (.int 1))) (zo))))) (mQ qa (zM (zc 1))))) (zp (zK 5 (qO (zW 1 [] (qd (zc 1)) (zA 0) (zi (.bl true)) (zJ (qO (zM (zc 0))))))) (zp (zK 6 (zl zI (zX (zh (zi (.int 1)) (zh (zl wB (zx Zi (zh (zc 1) (zo))) (zl yh (mQ qa (zM (zc 1))) (zi (.int 1)))) (zo)))) (zx jz (zh (zc 0) (zh (zi (.int 2)) (zo)))))) (zp (QZ yr (zS (zh (zc 6) (zh (zc 6) (zo)))) (zl zI (zc 5) (zc 3)) (zc 4) (zl zI (zc 5) (zc 4)) (zc 3)) (zp (qQ (qx qY (zc 2) (zx gq (zh (mQ qH (zW 1 [] (qd (zc 5)) (zA 0) (zi (.bl true)) (zJ (mQ qH (zM (zc 0)))))) (zh (kJ (mQ qa (zM (zc 1)))) (zo)))))) (zw))))))) (zw)) (zp (qj (zc 2)) (zw)))
theorem O5 {P:Program}{w:World}{K:Frag}{mg:Str->Option Value}{base:Heap}{k:Nat}(T:Bu mg){f:Addr}{fd:FuncData}(F:qF K "_law_others" "_law_others" Gn f fd)(hm:mg "_law_others" = some (.ref f)){gq:Fn}(yL:zC P w K mg base k "_law_by_order" 2 gq){Zi:Fn}(gu:zC P w K mg base k "_law_kinds" 1 Zi){Zb:Fn}(wj:zC P w K mg base k "_law_some_table" 2 Zb){jz:Fn}(qy:zC P w K mg base k "_law_take" 2 jz){Za:Fn}(kW:zC P w K mg base k "_law_turned_about" 2 Za):zC P w K mg base (k+1) "_law_others" 2 (zY 7 (Y4 gq Zi Zb jz Za)):=
 Y.jL F hm QE (λ _ _ _ _ _ _ us hl=>(yK hl).elim λ a h=>h.elim λ b q=>by subst q;rfl) λ cdv A outer s H E hr=>Y.zt (Y.qw 2 QE.nd (Y.qX (Y.zr (Y.qu kW hr (Y.zr (Y.zm 0) (Y.zr (Y.zm 1) (Y.zz))) (zq (zq zy))) (Y.zr (Y.zm 1) (Y.zr (Y.qu wj hr (Y.zr (Y.zm 0) (Y.zr (Y.zH) (Y.zz))) (zq (zq zy))) (Y.zz)))) (zq (zq (zq zy))))) (Y.zt (Y.yo (Y.kC V4 (Y.j5 T.jI (Y.jf (Y.zm 1))) (Y.zH)) (Y.zt (Y.qw 3 QE.nd (Y.qu qy hr (Y.zr (Y.zm 0) (Y.zr (Y.j5 T.jI (Y.jf (Y.zm 1))) (Y.zz))) (zq (zq zy)))) (Y.zt (Y.qw 4 QE.nd (Y.Zq (Y.jU (Y.jU (Y.zm 3) (Y.zH)) (Y.qu qy hr (Y.zr (Y.zm 0) (Y.zr (Y.ZX (Y.j5 T.jI (Y.jf (Y.zm 1))) (Y.zH)) (Y.zz))) (zq (zq zy)))) (Y.j5 T.jI (Y.jf (Y.zm 1))))) (Y.zt (Y.Km 5 (N:=["_law_row"]) 1 [] QE.nd rfl (cps (by kernel_rfl)) (by kernel_rfl) (Y.jF (Y.zm 1)) (λ _ _ _=>⟨Y.qz 0 (by decide +kernel:(["_law_row"]:List Str).Nodup),Y.jo,Y.jB (λ _ _ z=>z) (Y.Ec T.ZY (Y.jf (Y.zm 0))) rfl⟩)) (Y.zt (Y.qw 6 QE.nd (Y.jH (Y.qX (Y.zr (Y.zH) (Y.zr (Y.KI rfl T.Jr (Y.qu gu hr (Y.zr (Y.zm 1) (Y.zz)) (zq zy)) (Y.ZX (Y.j5 T.jI (Y.jf (Y.zm 1))) (Y.zH))) (Y.zz))) (zq (zq zy))) (Y.qu qy hr (Y.zr (Y.zm 0) (Y.zr (Y.zH) (Y.zz))) (zq (zq zy))))) (Y.zt (Y.Fv rfl (Y.je (Y.zr (Y.zm 6) (Y.zr (Y.zm 6) (Y.zz))) (zq (zq zy))) (Y.jH (Y.zm 5) (Y.zm 3)) (Y.zm 4) (Y.jH (Y.zm 5) (Y.zm 4)) (Y.zm 3)) (Y.zt (Y.yw (Y.wQ (Y.zm 2) (Y.qu yL hr (Y.zr (Y.yk T.jT (Y.yu (Y.jS (N:=["_law_row"]) 1 [] rfl (cps (by kernel_rfl)) (by kernel_rfl) (Y.jF (Y.zm 5)) (λ _ _ _=>⟨Y.qz 0 (by decide +kernel:(["_law_row"]:List Str).Nodup),Y.jo,Y.jB (λ _ _ z=>z) (Y.yk T.jT (Y.jf (Y.zm 0))) rfl⟩)))) (Y.zr (Y.Ko rfl T.ZY T.j8 (Y.j5 T.jI (Y.jf (Y.zm 1)))) (Y.zz))) (zq (zq zy))))) (Y.zL))))))) (Y.zL)) (Y.zt (Y.qA (Y.zm 2)) (Y.zL)))
noncomputable abbrev gO:Stmt:=top 57
theorem kK:qR ["_law_script", "_law_k", "_law_state_here", "_law_table", "_law_some", "_law_orders_here", "_law_rows", "_law_other", "_law_wanted", "_law_due", "_law_great", "_law_bad", "_law_calls"] ["_law_script"] (qk gO):=⟨rfl,rfl,rfl,by decide +kernel,rfl,by decide +kernel,by decide +kernel⟩
noncomputable abbrev qZ:Str:=(("law" : Str)++(".<locals>." : Str))++("<lambda>" : Str)
noncomputable def Q4 (qi:Fn)(ql:Fn):Lm:=wD (Js (Jw (JB ((yG gO).getD 0 gI) 8)) 0) ["_law_great"] [10] (zx ql (zh (zc 0) (zo)))
noncomputable def Q6 (qi:Fn)(ql:Fn):Lm:=wD (Js (Jw (JB ((yG gO).getD 0 gI) 9)) 0) ["_law_table", "_law_great"] [3,10] (zx qi (zh (zc 1) (zh (zc 0) (zo))))
noncomputable def Q7 (qi:Fn)(ql:Fn):Lm:=wD (Js (Jw (JB ((yG gO).getD 0 gI) 10)) 0) ["_law_table", "_law_great"] [3,10] (zx qi (zh (zc 0) (zh (zc 1) (zo))))
noncomputable def Q1 (qi:Fn)(ql:Fn):Lm:=wD (Js (Jw (JB ((yG gO).getD 0 gI) 12)) 0) ["_law_bad"] [11] (zx ql (zh (zc 0) (zo)))
noncomputable def QY (qi:Fn)(ql:Fn):Lm:=wD (Js (Jw (JB ((yG gO).getD 0 gI) 13)) 0) ["_law_great", "_law_bad"] [10,11] (zx qi (zh (zc 1) (zh (zc 0) (zo))))
noncomputable def Q5 (qi:Fn)(ql:Fn):Lm:=wD (Js (Jw (JB ((yG gO).getD 0 gI) 14)) 0) ["_law_great", "_law_bad"] [10,11] (zx qi (zh (zc 0) (zh (zc 1) (zo))))
noncomputable def k8 (qi:Fn)(ql:Fn):List Lm:=[Q4 qi ql,Q6 qi ql,Q7 qi ql,Q1 qi ql,QY qi ql,Q5 qi ql]
theorem Im {P:Program}{w:World}{K:Frag}{mg:Str->Option Value}{k:Nat}(T:Bu mg){qi:Fn}(yU:∀base,jj P w K mg base k "first_order" 2 qi){ql:Fn}(kG:∀base,jj P w K mg base k "form_of" 1 ql):wC P w K mg k qZ (Q4 qi ql):=
 ⟨⟨rfl,rfl,rfl,QQ (by kernel_rfl)⟩,λ _ _ _ _=>rfl,λ base cl a c A outer s H E hr xo=>yE (Y.wm xo (kG base) hr (Y.zr (Y.zm 0) (Y.zz)) (zq zy))⟩
theorem Hm {P:Program}{w:World}{K:Frag}{mg:Str->Option Value}{k:Nat}(T:Bu mg){qi:Fn}(yU:∀base,jj P w K mg base k "first_order" 2 qi){ql:Fn}(kG:∀base,jj P w K mg base k "form_of" 1 ql):wC P w K mg k qZ (Q6 qi ql):=
 ⟨⟨rfl,rfl,rfl,QQ (by kernel_rfl)⟩,λ _ _ _ _=>rfl,λ base cl a c A outer s H E hr xo=>yE (Y.wm xo (yU base) hr (Y.zr (Y.zm 1) (Y.zr (Y.zm 0) (Y.zz))) (zq (zq zy)))⟩
theorem HH {P:Program}{w:World}{K:Frag}{mg:Str->Option Value}{k:Nat}(T:Bu mg){qi:Fn}(yU:∀base,jj P w K mg base k "first_order" 2 qi){ql:Fn}(kG:∀base,jj P w K mg base k "form_of" 1 ql):wC P w K mg k qZ (Q7 qi ql):=
 ⟨⟨rfl,rfl,rfl,QQ (by kernel_rfl)⟩,λ _ _ _ _=>rfl,λ base cl a c A outer s H E hr xo=>yE (Y.wm xo (yU base) hr (Y.zr (Y.zm 0) (Y.zr (Y.zm 1) (Y.zz))) (zq (zq zy)))⟩
theorem Ii {P:Program}{w:World}{K:Frag}{mg:Str->Option Value}{k:Nat}(T:Bu mg){qi:Fn}(yU:∀base,jj P w K mg base k "first_order" 2 qi){ql:Fn}(kG:∀base,jj P w K mg base k "form_of" 1 ql):wC P w K mg k qZ (Q1 qi ql):=
 ⟨⟨rfl,rfl,rfl,QQ (by kernel_rfl)⟩,λ _ _ _ _=>rfl,λ base cl a c A outer s H E hr xo=>yE (Y.wm xo (kG base) hr (Y.zr (Y.zm 0) (Y.zz)) (zq zy))⟩
theorem Hz {P:Program}{w:World}{K:Frag}{mg:Str->Option Value}{k:Nat}(T:Bu mg){qi:Fn}(yU:∀base,jj P w K mg base k "first_order" 2 qi){ql:Fn}(kG:∀base,jj P w K mg base k "form_of" 1 ql):wC P w K mg k qZ (QY qi ql):=
 ⟨⟨rfl,rfl,rfl,QQ (by kernel_rfl)⟩,λ _ _ _ _=>rfl,λ base cl a c A outer s H E hr xo=>yE (Y.wm xo (yU base) hr (Y.zr (Y.zm 1) (Y.zr (Y.zm 0) (Y.zz))) (zq (zq zy)))⟩
theorem IZ {P:Program}{w:World}{K:Frag}{mg:Str->Option Value}{k:Nat}(T:Bu mg){qi:Fn}(yU:∀base,jj P w K mg base k "first_order" 2 qi){ql:Fn}(kG:∀base,jj P w K mg base k "form_of" 1 ql):wC P w K mg k qZ (Q5 qi ql):=
 ⟨⟨rfl,rfl,rfl,QQ (by kernel_rfl)⟩,λ _ _ _ _=>rfl,λ base cl a c A outer s H E hr xo=>yE (Y.wm xo (yU base) hr (Y.zr (Y.zm 0) (Y.zr (Y.zm 1) (Y.zz))) (zq (zq zy)))⟩
theorem Cj {P:Program}{w:World}{K:Frag}{mg:Str->Option Value}{k:Nat}(T:Bu mg){qi:Fn}(yU:∀base,jj P w K mg base k "first_order" 2 qi){ql:Fn}(kG:∀base,jj P w K mg base k "form_of" 1 ql):∀t∈k8 qi ql,wC P w K mg k qZ t:=
 all_cons (Im T yU kG) (all_cons (Hm T yU kG) (all_cons (HH T yU kG) (all_cons (Ii T yU kG) (all_cons (Hz T yU kG) (all_cons (IZ T yU kG) (all_nil))))))
noncomputable def V3 (Y5:Fn)(YH:Fn)(YY:Fn)(gq:Fn)(YX:Fn)(YV:Fn)(Y9:Fn)(JK:Fn)(gz:Fn)(Zb:Fn)(Ka:Fn)(jz:Fn)(Za:Fn)(YU:Fn)(Ks:Fn)(qi:Fn)(ql:Fn)(RF:Nat->List W->Hx->R W)(Pt:Addr)(PF:jJ):Ex:=zp (jE (jl (zl Z0 (zi (.int 1)) (zl wB (mQ qa (zM (zc 0))) (zi (.int 3))))) (zA 1) (zp (zK 2 (zx Ka (zh (zc 0) (zh (zc 1) (zo))))) (zp (zK 3 (zx Zb (zh (zc 2) (zh (zi (.int 6)) (zo))))) (zp (jc (zl yd (zx jz (zh (zc 2) (zh (zi (.int 3)) (zo)))) (zi (.int 0))) (zp (zK 4 (zX (zh (zx Y9 (zh (zi (.int 4)) (zo))) (zh (zx JK (zh (zi (.int 6)) (zo))) (zh (zx YY (zh (zi (.int 2)) (zh (zi (.int 3)) (zo)))) (zh (zx JK (zh (zi (.int 5)) (zo))) (zo))))))) (zp (zK 3 (zx Za (zh (zc 2) (zh (zl zI (zc 4) (zx jz (zh (zc 2) (zh (zi (.int 4)) (zo))))) (zo))))) (zw))) (zw)) (zp (zK 5 (zx YX (zh (mQ qa (zM (zc 3))) (zo)))) (zp (zK 6 (qO (zW 1 [3] (qd (zc 5)) (zA 0) (zi (.bl true)) (zJ (zx gq (zh (zc 1) (zh (zc 0) (zo)))))))) (zp (jc (kz (zx gz (zh (zx Ks (zh (zc 3) (zo))) (zh (mQ wG (zM (zc 6))) (zo))))) (zp (qj (zi (.bl false))) (zw)) (zw)) (zp (jE (qd (zx YV (zh (zc 2) (zh (zc 3) (zo))))) (zA 7) (zp (zK 8 (zx gq (zh (zc 7) (zh (kJ (mQ qa (zM (zc 7)))) (zo))))) (zp (zK 9 (Z7 (zl gW (zc 8) (zc 6)) (zl zI (zc 5) (qx Zo (zc 6) (zc 8))) (zi .non))) (zp (jc (kz (zx gz (zh (zx YU (zh (zc 3) (zh (zc 7) (zo)))) (zh (zc 9) (zo))))) (zp (qj (zi (.bl false))) (zw)) (zw)) (zw))))) (zp (Yj (zS (zh (zx Y5 (zh (zl qb (zi (.int 7)) (zx jz (zh (zc 2) (zh (zi (.int 2)) (zo))))) (zo))) (zh (zx YH (zh (zc 2) (zo))) (zo)))) (kN 10 11)) (zp (zK 12 (zX (zh (yR 1 qZ Pt 0 (PF 0)) (zo)))) (zp (qQ (qx qY (zc 12) (yR 1 qZ Pt 1 (PF 1)))) (zp (qQ (qx qY (zc 12) (yR 1 qZ Pt 2 (PF 2)))) (zp (jc (zl jC (qO (Qo 1 (qd (zc 12)) (zA 0) 0 PF (k8 qi ql) RF)) (zl qJ (zX (zh (zX (zh (zi (.int 11)) (zo))) (zo))) (zi (.int 3)))) (zp (qj (zi (.bl false))) (zw)) (zw)) (zp (zK 12 (zX (zh (yR 1 qZ Pt 3 (PF 3)) (zo)))) (zp (qQ (qx qY (zc 12) (yR 1 qZ Pt 4 (PF 4)))) (zp (qQ (qx qY (zc 12) (yR 1 qZ Pt 5 (PF 5)))) (zp (jc (zl jC (qO (Qo 1 (qd (zc 12)) (zA 0) 0 PF (k8 qi ql) RF)) (zl qJ (zX (zh (zX (zh (zi (.int 0)) (zo))) (zo))) (zi (.int 3)))) (zp (qj (zi (.bl false))) (zw)) (zw)) (zw)))))))))))))))))) (zp (qj (zi (.bl true))) (zw))
theorem o_law {P:Program}{w:World}{K:Frag}{mg:Str->Option Value}{base:Heap}{k:Nat}(T:Bu mg){f c Pt:Addr}{fd:FuncData}(F:qF K "law" "law" gO f fd)(hn:PySem.W.nsIn K mainGlobals "law" = some (some (.ref f)))(ht:PySem.W.tabIn K "law" = some (c,Pt))(hB:BMain mg base)(hC:PySem.W.CodeHd base c Pt){Y5:Fn}(gv:zC P w K mg base k "_law_alike" 1 Y5){YH:Fn}(Zc:zC P w K mg base k "_law_bad_table" 1 YH){YY:Fn}(Zg:zC P w K mg base k "_law_blocks" 2 YY){gq:Fn}(yL:zC P w K mg base k "_law_by_order" 2 gq){YX:Fn}(ZJ:zC P w K mg base k "_law_orders" 1 YX){YV:Fn}(Zf:zC P w K mg base k "_law_others" 2 YV){Y9:Fn}(Zh:zC P w K mg base k "_law_pairs" 1 Y9){JK:Fn}(kE:zC P w K mg base k "_law_ring" 1 JK){gz:Fn}(kF:zC P w K mg base k "_law_same" 2 gz){Zb:Fn}(wj:zC P w K mg base k "_law_some_table" 2 Zb){Ka:Fn}(ZL:zC P w K mg base k "_law_state" 2 Ka){jz:Fn}(qy:zC P w K mg base k "_law_take" 2 jz){Za:Fn}(kW:zC P w K mg base k "_law_turned_about" 2 Za){YU:Fn}(ZK:zC P w K mg base k "first_order" 2 YU){Ks:Fn}(ZM:zC P w K mg base k "form_of" 1 Ks){qi:Fn}{ql:Fn}{RF:Nat->List W->Hx->R W}{j kk:Nat}(hkk:kk<=k)(hls:∀t∈k8 qi ql,wC P w K mg j qZ t)(hR:∀base PG,(∀k,Z3 P w K mg base (j+1) (PG k) (yc (k8 qi ql) k))->zC P w K mg base kk "_law_refused" 1 (Zs PG RF)):yt P w K mg base wK (k+1) f fd ["_law_script"] (spT K 1 λ PF=>zY 13 (V3 Y5 YH YY gq YX YV Y9 JK gz Zb Ka jz Za YU Ks qi ql RF Pt PF)):=
 Y.Ad (ls:=k8 qi ql) F hn ht kK λ A outer s H E hr=>Y.zt (Y.yZ PassesOwn.never rfl (Y.yW rfl T.j8 (Y.SU rfl T.Yb (Y.zH) (Y.KI rfl T.Jr (Y.j5 T.jI (Y.jf (Y.zm 0))) (Y.zH)))) (Y.qz 1 kK.nd) (Y.zt (Y.qw 2 kK.nd (Y.qu ZL hr (Y.zr (Y.zm 0) (Y.zr (Y.zm 1) (Y.zz))) (zq (zq zy)))) (Y.zt (Y.qw 3 kK.nd (Y.qu wj hr (Y.zr (Y.zm 2) (Y.zr (Y.zH) (Y.zz))) (zq (zq zy)))) (Y.zt (Y.yo (Y.kC (Qp hr) (Y.qu qy hr (Y.zr (Y.zm 2) (Y.zr (Y.zH) (Y.zz))) (zq (zq zy))) (Y.zH)) (Y.zt (Y.qw 4 kK.nd (Y.qX (Y.zr (Y.qu Zh hr (Y.zr (Y.zH) (Y.zz)) (zq zy)) (Y.zr (Y.qu kE hr (Y.zr (Y.zH) (Y.zz)) (zq zy)) (Y.zr (Y.qu Zg hr (Y.zr (Y.zH) (Y.zr (Y.zH) (Y.zz))) (zq (zq zy))) (Y.zr (Y.qu kE hr (Y.zr (Y.zH) (Y.zz)) (zq zy)) (Y.zz))))) (zq (zq (zq (zq zy)))))) (Y.zt (Y.qw 3 kK.nd (Y.qu kW hr (Y.zr (Y.zm 2) (Y.zr (Y.jH (Y.zm 4) (Y.qu qy hr (Y.zr (Y.zm 2) (Y.zr (Y.zH) (Y.zz))) (zq (zq zy)))) (Y.zz))) (zq (zq zy)))) (Y.zL))) (Y.zL)) (Y.zt (Y.qw 5 kK.nd (Y.qu ZJ hr (Y.zr (Y.j5 T.jI (Y.jf (Y.zm 3))) (Y.zz)) (zq zy))) (Y.zt (Y.Km 6 (N:=["_law_order", "_law_table"]) 1 [3] kK.nd rfl (cps (by kernel_rfl)) (by kernel_rfl) (Y.jF (Y.zm 5)) (λ _ _ _=>⟨Y.qz 0 (by decide +kernel:(["_law_order", "_law_table"]:List Str).Nodup),Y.jo,Y.jB (λ _ _ z=>z) (Y.qu yL hr (Y.zr (Y.zm 1) (Y.zr (Y.zm 0) (Y.zz))) (zq (zq zy))) rfl⟩)) (Y.zt (Y.yo (Y.Qi (Y.Zp (Y.qu kF hr (Y.zr (Y.qu ZM hr (Y.zr (Y.zm 3) (Y.zz)) (zq zy)) (Y.zr (Y.RK rfl hr T.Jr (Y.jf (Y.zm 6))) (Y.zz))) (zq (zq zy))))) (Y.zt (Y.qA (Y.ku)) (Y.zL)) (Y.zL)) (Y.zt (Y.yZ PassesOwn.never rfl (Y.jF (Y.qu Zf hr (Y.zr (Y.zm 2) (Y.zr (Y.zm 3) (Y.zz))) (zq (zq zy)))) (Y.qz 7 kK.nd) (Y.zt (Y.qw 8 kK.nd (Y.qu yL hr (Y.zr (Y.zm 7) (Y.zr (Y.Ko rfl T.ZY T.j8 (Y.j5 T.jI (Y.jf (Y.zm 7)))) (Y.zz))) (zq (zq zy)))) (Y.zt (Y.qw 9 kK.nd (Y.Co (Y.VI (Bc hr) (Y.zm 8) (Y.zm 6)) (Y.jH (Y.zm 5) (Y.IL hr (Y.zm 6) (Y.zm 8))) (Y.Jh))) (Y.zt (Y.yo (Y.Qi (Y.Zp (Y.qu kF hr (Y.zr (Y.qu ZK hr (Y.zr (Y.zm 3) (Y.zr (Y.zm 7) (Y.zz))) (zq (zq zy))) (Y.zr (Y.zm 9) (Y.zz))) (zq (zq zy))))) (Y.zt (Y.qA (Y.ku)) (Y.zL)) (Y.zL)) (Y.zL))))) (Y.zt (Y.Dz (Y.je (Y.zr (Y.qu gv hr (Y.zr (Y.jU (Y.zH) (Y.qu qy hr (Y.zr (Y.zm 2) (Y.zr (Y.zH) (Y.zz))) (zq (zq zy)))) (Y.zz)) (zq zy)) (Y.zr (Y.qu Zc hr (Y.zr (Y.zm 2) (Y.zz)) (zq zy)) (Y.zz))) (zq (zq zy))) (Y.KA 10 11 rfl kK.nd)) (Y.zt (Y.qw 12 kK.nd (Y.qX (Y.zr (Y.Q0 (ls:=k8 qi ql) (t:=Q4 qi ql) rfl (by kernel_rfl) hB rfl hC rfl rfl) (Y.zz)) (zq zy))) (Y.zt (Y.yw (Y.wQ (Y.zm 12) (Y.Q0 (ls:=k8 qi ql) (t:=Q6 qi ql) rfl (by kernel_rfl) hB rfl hC rfl rfl))) (Y.zt (Y.yw (Y.wQ (Y.zm 12) (Y.Q0 (ls:=k8 qi ql) (t:=Q7 qi ql) rfl (by kernel_rfl) hB rfl hC rfl rfl))) (Y.zt (Y.yo (Y.kC (wx hr) (Y.S8 (N:=["_law_call"]) (q:=qZ) (λ _=>rfl) hls (all_cons (kY (by kernel_rfl)) (all_cons (kY (by kernel_rfl)) (all_cons (kY (by kernel_rfl)) (all_cons (kY (by kernel_rfl)) (all_cons (kY (by kernel_rfl)) (all_cons (kY (by kernel_rfl)) (all_nil))))))) hR (hr.mono hkk) rfl (cps (by kernel_rfl)) (by kernel_rfl) (Y.jF (Y.zm 12)) (λ _ _ _=>Y.qz 0 (by decide +kernel:(["_law_call"]:List Str).Nodup)) rfl (Or.inl rfl) (λ _ _ _=>rfl)) (Y.gJ (Y.qX (Y.zr (Y.qX (Y.zr (Y.zH) (Y.zz)) (zq zy)) (Y.zz)) (zq zy)) (Y.zH))) (Y.zt (Y.qA (Y.ku)) (Y.zL)) (Y.zL)) (Y.zt (Y.qw 12 kK.nd (Y.qX (Y.zr (Y.Q0 (ls:=k8 qi ql) (t:=Q1 qi ql) rfl (by kernel_rfl) hB rfl hC rfl rfl) (Y.zz)) (zq zy))) (Y.zt (Y.yw (Y.wQ (Y.zm 12) (Y.Q0 (ls:=k8 qi ql) (t:=QY qi ql) rfl (by kernel_rfl) hB rfl hC rfl rfl))) (Y.zt (Y.yw (Y.wQ (Y.zm 12) (Y.Q0 (ls:=k8 qi ql) (t:=Q5 qi ql) rfl (by kernel_rfl) hB rfl hC rfl rfl))) (Y.zt (Y.yo (Y.kC (wx hr) (Y.S8 (N:=["_law_call"]) (q:=qZ) (λ _=>rfl) hls (all_cons (kY (by kernel_rfl)) (all_cons (kY (by kernel_rfl)) (all_cons (kY (by kernel_rfl)) (all_cons (kY (by kernel_rfl)) (all_cons (kY (by kernel_rfl)) (all_cons (kY (by kernel_rfl)) (all_nil))))))) hR (hr.mono hkk) rfl (cps (by kernel_rfl)) (by kernel_rfl) (Y.jF (Y.zm 12)) (λ _ _ _=>Y.qz 0 (by decide +kernel:(["_law_call"]:List Str).Nodup)) rfl (Or.inl rfl) (λ _ _ _=>rfl)) (Y.gJ (Y.qX (Y.zr (Y.qX (Y.zr (Y.zH) (Y.zz)) (zq zy)) (Y.zz)) (zq zy)) (Y.zH))) (Y.zt (Y.qA (Y.ku)) (Y.zL)) (Y.zL)) (Y.zL)))))))))))))))))) (Y.zt (Y.qA (Y.ku)) (Y.zL))
noncomputable def U5:Fn:=zY 1 (Tb)
noncomputable def Qe:Fn :=  U5
noncomputable def LD:Fn:=zY 5 (Xw)
noncomputable def JO:Fn:=iso LD
noncomputable def OA:Fn:=zY 2 (WR)
noncomputable def JE:Fn:=iso OA
noncomputable def QG:Fn:=kB 1 (Y3)
noncomputable def UD:Fn:=zY 3 (YZ)
noncomputable def kX:Fn:=iso UD
noncomputable def UY:Fn:=zY 3 (G4)
noncomputable def km:Fn :=  UY
noncomputable def NR:Fn:=zY 1 (GU)
noncomputable def gu:Fn:=iso NR
noncomputable def Kf:Fn:=zY 4 (Kb)
noncomputable def qy:Fn:=kA Kf
noncomputable def US:Fn:=zY 3 (GO)
noncomputable def QI:Fn :=  US
noncomputable def Uy:Fn:=zY 7 (W8)
noncomputable def yL:Fn :=  Uy
noncomputable def OY:Fn:=zY 2 (YO)
noncomputable def QD:Fn :=  OY
noncomputable def NB:Fn:=zY 5 (UO)
noncomputable def Zh:Fn:=iso NB
noncomputable def N6:Fn:=zY 1 (UW)
noncomputable def kE:Fn:=iso N6
noncomputable def Nl:Fn:=zY 6 (UG)
noncomputable def Zg:Fn:=iso Nl
noncomputable def UI:Fn:=zY 5 (Y0)
noncomputable def ZJ:Fn:=iso UI
noncomputable def NU:Fn:=zY 1 (UL)
noncomputable def gv:Fn:=iso NU
noncomputable def G9:Fn:=zY 2 (Kc Qe)
noncomputable def Qc:Fn :=  G9
noncomputable def Gx:Fn:=zY 1 (Gq kX km)
noncomputable def QH:Fn:=iso Gx
noncomputable def UR:Fn:=zY 4 (GY qy)
noncomputable def gw:Fn:=kA UR
noncomputable def Uv:Fn:=zY 9 (W0 qy)
noncomputable def wj:Fn:=kA Uv
noncomputable def NQ:Fn:=zY 3 (Y6 QD)
noncomputable def ZL:Fn :=  NQ
noncomputable def Ux:Fn:=zY 2 (W3 qy)
noncomputable def Zc:Fn :=  Ux
noncomputable def WV:Fn:=zY 3 (YC Qc)
noncomputable def wO:Fn :=  WV
noncomputable def Ut:Fn:=zY 4 (WS gu gw QI)
noncomputable def kW:Fn:=kA Ut
noncomputable def NJ:Fn:=zY 2 (gx (λ _ _=>.bad))
noncomputable def G2:Fn:=iso NJ
noncomputable def NV:Fn:=zY 2 (gx G2)
noncomputable def UQ:Fn:=iso NV
noncomputable def Md:Fn:=zY 2 (gx UQ)
noncomputable def kF:Fn:=iso Md
noncomputable def Ki:Fn:=zY 2 (JM JO wO JE)
noncomputable def ye:Fn :=  Ki
noncomputable def UE:Fn:=zY 7 (Y4 yL gu wj qy kW)
noncomputable def Zf:Fn :=  UE
noncomputable def QB:Fn:=kB 1 (YK ye)
noncomputable def j4:Fn:=kB 1 (JP QH QG QB)
noncomputable def ZM:Fn:=iso (λ ws A=>(j4 ws A).nox)
noncomputable def jx:Fn:=kB 4 (ZI kX km QG QB)
noncomputable def ZK:Fn:=iso (λ ws A=>(jx ws A).nox)
structure Tx (K:Frag):Prop where
 Xh:FD K "is_whole" Xp
 Xu:FD K "is_even" Xv
 WO:FD K "leaves_no_kind_out" WQ
 GH:FD K "require_few" GB
 Gz:FD K "list_orders" GC
 G7:FD K "name_anew" Xg
 GZ:FD K "_law_kinds" GP
 Xe:FD K "_law_take" Xc
 GS:FD K "_law_named" GV
 W7:FD K "_law_by_order" Ga
 Gi:FD K "_law_cell_at" Gj
 G1:FD K "_law_pairs" G0
 G8:FD K "_law_ring" Xf
 GG:FD K "_law_blocks" GI
 GD:FD K "_law_orders" Gs
 G3:FD K "_law_alike" GN
 G6:FD K "is_wholes" Xd
 Gw:FD K "least_alike" Gp
 GJ:FD K "_law_mixed" GQ
 WZ:FD K "_law_some_table" WW
 GK:FD K "_law_state" GL
 W4:FD K "_law_bad_table" W5
 W2:FD K "is_wholes_below" WX
 WU:FD K "_law_turned_about" WT
 JJ:FD K "_law_same" G5
 Xl:FD K "is_table" Xm
 Gk:FD K "_law_others" Gn
 Gb:FD K "require_table" W6
 Xr:FD K "form_of" Xs
 Gm:FD K "first_order" Gr
 Gh:FD K "_law_refused" Gf
 VM:FD K "law" gO
 GW:PySem.W.nsIn K mainGlobals "ValueError" = some none
 V2:PySem.W.nsIn K mainGlobals "all" = some none
 Vy:PySem.W.nsIn K mainGlobals "bool" = some none
 Xa:PySem.W.nsIn K mainGlobals "enumerate" = some none
 VF:PySem.W.nsIn K mainGlobals "int" = some none
 GR:PySem.W.nsIn K mainGlobals "isinstance" = some none
 VG:PySem.W.nsIn K mainGlobals "len" = some none
 Vo:PySem.W.nsIn K mainGlobals "list" = some none
 VO:PySem.W.nsIn K mainGlobals "max" = some none
 V1:PySem.W.nsIn K mainGlobals "min" = some none
 XZ:PySem.W.nsIn K mainGlobals "range" = some none
 VL:PySem.W.nsIn K mainGlobals "set" = some none
 Vk:PySem.W.nsIn K mainGlobals "tuple" = some none
 VR:PySem.W.nsIn K mainGlobals "zip" = some none
 GF:CD K "MOST_FORMED" 6
 Gu:CD K "MOST_PLACES" 8
 VD:zN.all (KU K "NearError" ·)=true
 VY:Vm K "NearError" = true
 VU:yj.all (qG K zN)=true
section
variable {P:Program}{w:World}{K:Frag}{mg:Str->Option Value}{base h:Heap}
theorem bu (X:K.In h)(G:h.Ns mainGlobals mg)(T:Tx K):Bu mg:=⟨PySem.W.mg_none_of X G T.GW,PySem.W.mg_none_of X G T.V2,PySem.W.mg_none_of X G T.Vy,PySem.W.mg_none_of X G T.Xa,PySem.W.mg_none_of X G T.VF,PySem.W.mg_none_of X G T.GR,PySem.W.mg_none_of X G T.VG,PySem.W.mg_none_of X G T.Vo,PySem.W.mg_none_of X G T.VO,PySem.W.mg_none_of X G T.V1,PySem.W.mg_none_of X G T.XZ,PySem.W.mg_none_of X G T.VL,PySem.W.mg_none_of X G T.Vk,PySem.W.mg_none_of X G T.VR,(let ⟨t,e⟩:=T.GF;⟨t,PySem.W.mg_of X G e⟩),(let ⟨t,e⟩:=T.Gu;⟨t,PySem.W.mg_of X G e⟩)⟩
theorem cl (T:Tx K):yT K zN "NearError" := ER T.VD T.VY
theorem Mj (X:K.In h)(G:h.Ns mainGlobals mg)(T:Tx K):zC P w K mg base 1 "is_whole" 1 Qe:=by
 obtain ⟨f,fd,F,a⟩:=T.Xh
 exact (Mt (k:=0) (bu X G T) F (PySem.W.mg_of X G a))
theorem Lp (X:K.In h)(G:h.Ns mainGlobals mg)(T:Tx K):zC P w K mg base 1 "is_even" 1 JO:=by
 obtain ⟨f,fd,F,a⟩:=T.Xu
 exact (LC (k:=0) (bu X G T) F (PySem.W.mg_of X G a)).iso
theorem OB (X:K.In h)(G:h.Ns mainGlobals mg)(T:Tx K):zC P w K mg base 1 "leaves_no_kind_out" 1 JE:=by
 obtain ⟨f,fd,F,a⟩:=T.WO
 exact (OC (k:=0) (bu X G T) F (PySem.W.mg_of X G a)).iso
theorem UA (X:K.In h)(G:h.Ns mainGlobals mg)(T:Tx K):jj P w K mg base 1 "require_few" 1 QG:=by
 obtain ⟨f,fd,F,a⟩:=T.GH
 exact O3 (k:=0) (bu X G T) (cl T) F (PySem.W.mg_of X G a)
theorem UK (X:K.In h)(G:h.Ns mainGlobals mg)(T:Tx K):zC P w K mg base 1 "list_orders" 1 kX:=by
 obtain ⟨f,fd,F,a⟩:=T.Gz
 exact (O9 (k:=0) (bu X G T) F (PySem.W.mg_of X G a)).iso
theorem UX (X:K.In h)(G:h.Ns mainGlobals mg)(T:Tx K):zC P w K mg base 1 "name_anew" 2 km:=by
 obtain ⟨f,fd,F,a⟩:=T.G7
 exact (N3 (k:=0) (bu X G T) F (PySem.W.mg_of X G a))
theorem UN (X:K.In h)(G:h.Ns mainGlobals mg)(T:Tx K):zC P w K mg base 1 "_law_kinds" 1 gu:=by
 obtain ⟨f,fd,F,a⟩:=T.GZ
 exact (NK (k:=0) (bu X G T) F (PySem.W.mg_of X G a)).iso
theorem JL (X:K.In h)(G:h.Ns mainGlobals mg)(T:Tx K):zC P w K mg base 1 "_law_take" 2 qy:=by
 obtain ⟨f,fd,F,a⟩:=T.Xe
 exact (NZ (k:=0) (bu X G T) F (PySem.W.mg_of X G a)).kA
theorem NN (X:K.In h)(G:h.Ns mainGlobals mg)(T:Tx K):zC P w K mg base 1 "_law_named" 3 QI:=by
 obtain ⟨f,fd,F,a⟩:=T.GS
 exact (NF (k:=0) (bu X G T) F (PySem.W.mg_of X G a))
theorem Uz (X:K.In h)(G:h.Ns mainGlobals mg)(T:Tx K):zC P w K mg base 1 "_law_by_order" 2 yL:=by
 obtain ⟨f,fd,F,a⟩:=T.W7
 exact (OQ (k:=0) (bu X G T) F (PySem.W.mg_of X G a))
theorem OV (X:K.In h)(G:h.Ns mainGlobals mg)(T:Tx K):zC P w K mg base 1 "_law_cell_at" 2 QD:=by
 obtain ⟨f,fd,F,a⟩:=T.Gi
 exact (OX (k:=0) (bu X G T) F (PySem.W.mg_of X G a))
theorem Nu (X:K.In h)(G:h.Ns mainGlobals mg)(T:Tx K):zC P w K mg base 1 "_law_pairs" 1 Zh:=by
 obtain ⟨f,fd,F,a⟩:=T.G1
 exact (NW (k:=0) (bu X G T) F (PySem.W.mg_of X G a)).iso
theorem Mc (X:K.In h)(G:h.Ns mainGlobals mg)(T:Tx K):zC P w K mg base 1 "_law_ring" 1 kE:=by
 obtain ⟨f,fd,F,a⟩:=T.G8
 exact (N1 (k:=0) (bu X G T) F (PySem.W.mg_of X G a)).iso
theorem Na (X:K.In h)(G:h.Ns mainGlobals mg)(T:Tx K):zC P w K mg base 1 "_law_blocks" 2 Zg:=by
 obtain ⟨f,fd,F,a⟩:=T.GG
 exact (Ni (k:=0) (bu X G T) F (PySem.W.mg_of X G a)).iso
theorem Nf (X:K.In h)(G:h.Ns mainGlobals mg)(T:Tx K):zC P w K mg base 1 "_law_orders" 1 ZJ:=by
 obtain ⟨f,fd,F,a⟩:=T.GD
 exact (Nb (k:=0) (bu X G T) F (PySem.W.mg_of X G a)).iso
theorem NM (X:K.In h)(G:h.Ns mainGlobals mg)(T:Tx K):zC P w K mg base 1 "_law_alike" 1 gv:=by
 obtain ⟨f,fd,F,a⟩:=T.G3
 exact (NP (k:=0) (bu X G T) F (PySem.W.mg_of X G a)).iso
theorem N7 (X:K.In h)(G:h.Ns mainGlobals mg)(T:Tx K):zC P w K mg base 2 "is_wholes" 2 Qc:=by
 obtain ⟨f,fd,F,a⟩:=T.G6
 exact (N5 (k:=1) (bu X G T) F (PySem.W.mg_of X G a) ((Mj X G T).mono (by decide)))
theorem O6 (X:K.In h)(G:h.Ns mainGlobals mg)(T:Tx K):zC P w K mg base 2 "least_alike" 1 QH:=by
 obtain ⟨f,fd,F,a⟩:=T.Gw
 exact (Nn (k:=1) (bu X G T) F (PySem.W.mg_of X G a) ((UK X G T).mono (by decide)) ((UX X G T).mono (by decide))).iso
theorem NC (X:K.In h)(G:h.Ns mainGlobals mg)(T:Tx K):zC P w K mg base 2 "_law_mixed" 2 gw:=by
 obtain ⟨f,fd,F,a⟩:=T.GJ
 exact (NL (k:=1) (bu X G T) F (PySem.W.mg_of X G a) ((JL X G T).mono (by decide))).kA
theorem Uu (X:K.In h)(G:h.Ns mainGlobals mg)(T:Tx K):zC P w K mg base 2 "_law_some_table" 2 wj:=by
 obtain ⟨f,fd,F,a⟩:=T.WZ
 exact (OI (k:=1) (bu X G T) F (PySem.W.mg_of X G a) ((JL X G T).mono (by decide))).kA
theorem Nz (X:K.In h)(G:h.Ns mainGlobals mg)(T:Tx K):zC P w K mg base 2 "_law_state" 2 ZL:=by
 obtain ⟨f,fd,F,a⟩:=T.GK
 exact (NT (k:=1) (bu X G T) F (PySem.W.mg_of X G a) ((OV X G T).mono (by decide)))
theorem OJ (X:K.In h)(G:h.Ns mainGlobals mg)(T:Tx K):zC P w K mg base 2 "_law_bad_table" 1 Zc:=by
 obtain ⟨f,fd,F,a⟩:=T.W4
 exact (OL (k:=1) (bu X G T) F (PySem.W.mg_of X G a) ((JL X G T).mono (by decide)))
theorem OF (X:K.In h)(G:h.Ns mainGlobals mg)(T:Tx K):zC P w K mg base 3 "is_wholes_below" 3 wO:=by
 obtain ⟨f,fd,F,a⟩:=T.W2
 exact (OH (k:=2) (bu X G T) F (PySem.W.mg_of X G a) ((N7 X G T).mono (by decide)))
theorem Us (X:K.In h)(G:h.Ns mainGlobals mg)(T:Tx K):zC P w K mg base 3 "_law_turned_about" 2 kW:=by
 obtain ⟨f,fd,F,a⟩:=T.WU
 exact (OD (k:=2) (bu X G T) F (PySem.W.mg_of X G a) ((UN X G T).mono (by decide)) ((NC X G T).mono (by decide)) ((NN X G T).mono (by decide))).kA
theorem NG (X:K.In h)(G:h.Ns mainGlobals mg)(T:Tx K):zC P w K mg base 1 "_law_same" 2 G2:=by
 obtain ⟨f,fd,F,a⟩:=T.JJ
 exact (Xb (k:=0) (bu X G T) F (PySem.W.mg_of X G a) (Bg (ps:=["_law_found", "_law_due"]) F (PySem.W.mg_of X G a) (λ _ _ _ _ _ _ us hl=>(yK hl).elim λ a h=>h.elim λ b q=>by subst q;rfl))).iso
theorem NH (X:K.In h)(G:h.Ns mainGlobals mg)(T:Tx K):zC P w K mg base 2 "_law_same" 2 UQ:=by
 obtain ⟨f,fd,F,a⟩:=T.JJ
 exact (Xb (k:=1) (bu X G T) F (PySem.W.mg_of X G a) (NG X G T)).iso
theorem N9 (X:K.In h)(G:h.Ns mainGlobals mg)(T:Tx K):zC P w K mg base 3 "_law_same" 2 kF:=by
 obtain ⟨f,fd,F,a⟩:=T.JJ
 exact (Xb (k:=2) (bu X G T) F (PySem.W.mg_of X G a) (NH X G T)).iso
theorem Mv (X:K.In h)(G:h.Ns mainGlobals mg)(T:Tx K):zC P w K mg base 4 "is_table" 1 ye:=by
 obtain ⟨f,fd,F,a⟩:=T.Xl
 exact (Ms (k:=3) (bu X G T) F (PySem.W.mg_of X G a) ((Lp X G T).mono (by decide)) ((OF X G T).mono (by decide)) ((OB X G T).mono (by decide)))
theorem Nm (X:K.In h)(G:h.Ns mainGlobals mg)(T:Tx K):zC P w K mg base 4 "_law_others" 2 Zf:=by
 obtain ⟨f,fd,F,a⟩:=T.Gk
 exact (O5 (k:=3) (bu X G T) F (PySem.W.mg_of X G a) ((Uz X G T).mono (by decide)) ((UN X G T).mono (by decide)) ((Uu X G T).mono (by decide)) ((JL X G T).mono (by decide)) ((Us X G T).mono (by decide)))
theorem Uw (X:K.In h)(G:h.Ns mainGlobals mg)(T:Tx K):jj P w K mg base 5 "require_table" 1 QB:=by
 obtain ⟨f,fd,F,a⟩:=T.Gb
 exact OP (k:=4) (bu X G T) (cl T) F (PySem.W.mg_of X G a) ((Mv X G T).mono (by decide))
theorem U7 (X:K.In h)(G:h.Ns mainGlobals mg)(T:Tx K):jj P w K mg base 6 "form_of" 1 j4:=by
 obtain ⟨f,fd,F,a⟩:=T.Xr
 exact M6 (k:=5) (bu X G T) (cl T) F (PySem.W.mg_of X G a) ((O6 X G T).mono (by decide)) ((UA X G T).mono (by decide)) ((Uw X G T).mono (by decide))
theorem LF (X:K.In h)(G:h.Ns mainGlobals mg)(T:Tx K):zC P w K mg base 6 "form_of" 1 ZM:=(U7 X G T).m.iso
theorem UC (X:K.In h)(G:h.Ns mainGlobals mg)(T:Tx K):jj P w K mg base 6 "first_order" 2 jx:=by
 obtain ⟨f,fd,F,a⟩:=T.Gm
 exact O7 (k:=5) (bu X G T) (cl T) F (PySem.W.mg_of X G a) ((UK X G T).mono (by decide)) ((UX X G T).mono (by decide)) ((UA X G T).mono (by decide)) ((Uw X G T).mono (by decide))
theorem Ng (X:K.In h)(G:h.Ns mainGlobals mg)(T:Tx K):zC P w K mg base 6 "first_order" 2 ZK:=(UC X G T).m.iso
end
end G
namespace Mi
open PySem L2
section
variable {ws:List W}{m me:Ev}{ρ:En}{A A1:Hx}{cap:List Nat}
theorem ZS (h:m ρ A=.ok (.tup ws) A1):qd m ρ A=.ok ⟨λ A i=>(zE (.tup ws) A).map λ ws=>ws[i]?,ws.length⟩ A1:=by
 unfold qd Jz
 rw [h,zB]
 rfl
theorem JQ (h:m ρ A=.ok (.tup ws) A)(hl:ws.length<=zP){g:W->W}(he:∀w∈ws,me (some w::cap.map λ i=>(ρ[i]?).join) A=.ok (g w) A):
  zW 1 cap (qd m) (zA 0) (zi (.bl true)) (zJ me) ρ A=.ok (ws.map g) A:=by
 have e:=QO (cap:=cap) (me:=me) (ρ:=ρ) (A:=A) (N:=ws.length) (item:=λ i=>ws.getD i .non) (g:=λ i=>g (ws.getD i .non)) (ZS h) rfl hl
  (λ i hi=>by show some ws[i]? =_;rw [List.getElem?_eq_getElem hi,List.getD_eq_getElem?_getD,List.getElem?_eq_getElem hi];rfl)
  (by show some ws[ws.length]? =_;rw [List.getElem?_eq_none (Nat.le_refl _)])
  (λ i hi=>by
   have:ws.getD i .non=ws[i]:=by rw [List.getD_eq_getElem?_getD,List.getElem?_eq_getElem hi];rfl
   rw [this];exact he _ (List.getElem_mem hi))
 rw [e]
 congr 1
 apply List.ext_getElem
 ·simp
 ·intro i h1 h2
  have hi:i<ws.length:=by simpa using h2
  simp [List.getD_eq_getElem?_getD,List.getElem?_eq_getElem hi]
theorem Ti {α:Type}(p:α->Bool):∀l:List α,wV (l.map λ x=>W.bl (p x))=some (l.map p)
 | []=>rfl
 | x::l=>by
  show (match Yq (.bl (p x)),wV (l.map λ x=>W.bl (p x)) with | some k,some ks=>some (k::ks) | _,_=>none)=_
  rw [Ti p l];rfl
theorem JX {α:Type}{p:α->Bool}{l:List α}(h:∀x∈l,p x=true):Qw (l.map λ x=>W.bl (p x)) A=.ok (.bl true) A:=by
 show Qt (λ ks=>ks.all id) _ A=_
 unfold Qt
 rw [Ti]
 dsimp only
 have:(l.map p).all id=true:=by
  rw [List.all_map]
  exact List.all_eq_true.mpr λ x hx=>h x hx
 rw [this]
theorem Q2 {α:Type}{f:α->W}(h:∀x,(f x).nr=true):∀l:List α,qT (l.map f)=true
 | []=>rfl
 | x::l=>by
  show ((f x).nr&&qT (l.map f))=true
  rw [h x,Q2 h l];rfl
theorem Yv (i j:Int)(A:Hx):yd (.int i) (.int j) A=.ok (.bl (decide (i=j))) A:=by
 show R.ok (W.bl (PyData.eqv (.int i) (.int j))) A=_
 simp [PyData.eqv]
 rfl
theorem Uo (i j:Int)(A:Hx):jC (.int i) (.int j) A=.ok (.bl (!decide (i=j))) A:=by
 show R.ok (W.bl (!PyData.eqv (.int i) (.int j))) A=_
 simp [PyData.eqv]
 rfl
theorem Ai (i j:Bool)(A:Hx):jC (.bl i) (.bl j) A=.ok (.bl (!(i==j))) A:=by
 cases i<;>cases j<;>rfl
end
noncomputable def qc (r:List Int):W:=.tup (r.map W.int)
noncomputable def zj (t:List (List Int)):W:=.tup (t.map qc)
theorem Ry (r:List Int):(qc r).nr=true:=by
 show qT (r.map W.int)=true
 exact Q2 (λ _=>rfl) r
theorem yD (t:List (List Int)):(zj t).nr=true:=by
 show qT (t.map qc)=true
 exact Q2 Ry t
end Mi
namespace G
open PySem L2 Mi
theorem Mk (i:Int)(A:Hx):Qe [.int i] A=.ok (.bl true) A:=by
 unfold Qe U5
 exact jd (w:=.bl true) (A1:=A) rfl
theorem II {r:List Int}(hl:r.length<=8)(A:Hx):Qc [qc r,.int r.length] A=.ok (.bl true) A:=by
 unfold Qc G9
 refine jd ?_
 unfold Kc
 refine qD (ji ?_)
 refine (Jd (A1:=A) rfl).trans ?_
 have el:mQ qa (zM (zc 0)) [some (qc r),some (.int r.length)] A=.ok (.int r.length) A:=by
  rw [yn (yM (w:=qc r) (A1:=A) (zu rfl) rfl)]
  unfold qa
  rw [List.length_map]
 refine (Jd (A1:=A) ((zO el (zu (i:=1) rfl)).trans ((Yv _ _ _).trans (by rw [decide_eq_true rfl])))).trans ?_
 have ec:=JQ (cap:=[]) (A:=A) (ρ:=[some (qc r),some (.int r.length)]) (ws:=r.map W.int) (me:=zx Qe (zh (zc 0) (zo))) (g:=λ _=>.bl true) (zu (i:=0) rfl) (by rw [List.length_map];unfold zP;omega) (λ w hw=>by
  obtain ⟨i,_,rfl⟩:=List.mem_map.mp hw
  exact (zR (ws:=[.int i]) (A1:=A) rfl).trans (Mk i A))
 exact (yn ec).trans (JX (p:=λ _=>true) λ _ _=>rfl)
theorem Rn {r:List Int}(hl:r.length<=8)(hr:∀v∈r,0<=v/\v<r.length)(A:Hx):wO [qc r,.int r.length,.int r.length] A=.ok (.bl true) A:=by
 unfold wO WV
 refine jd ?_
 unfold YC
 refine qD (ji ?_)
 refine (Jd (A1:=A) ((zR (ws:=[qc r,.int r.length]) (A1:=A) rfl).trans (II hl A))).trans ?_
 have ec:=JQ (cap:=[2]) (A:=A) (ρ:=[some (qc r),some (.int r.length),some (.int r.length)]) (ws:=r.map W.int) (me:=kL Qz Yr (zi (.int 0)) (zc 0) (zc 1)) (g:=λ _=>.bl true) (zu (i:=0) rfl) (by rw [List.length_map];unfold zP;omega) (λ w hw=>by
  obtain ⟨v,hv,rfl⟩:=List.mem_map.mp hw
  obtain ⟨h1,h2⟩:=hr v hv
  unfold kL
  rw [jR,zB,zu (i:=0) (w:=.int v) rfl,zB]
  show R.bind (R.ok (W.bl (decide ((0:Int)<=v))) A) _=_
  rw [decide_eq_true h1,zB]
  dsimp only
  rw [zu (i:=1) (w:=.int r.length) rfl,zB]
  show R.ok (W.bl (decide (v<(r.length:Int)))) A=_
  rw [decide_eq_true h2])
 exact (yn ec).trans (JX (p:=λ _=>true) λ _ _=>rfl)
end G
namespace Mi
open PySem L2
theorem Tf {j:jv}{st:W->Ex}{A:Hx}{N:Nat}{item:Nat->W}{I:En->Prop}(hat:∀i,i<N->j.at_ A i=some (some (item i)))(hend:j.at_ A N=some none)
  (hs:∀i,i<N->∀ρ,I ρ->∃ρ',st (item i) ρ A=.ok (.nx ρ') A/\I ρ'):∀(n i:Nat) (ρ:En),i+n=N->I ρ->∃ρ',jN j st n i ρ A=.ok (.nx ρ') A/\I ρ':=by
 intro n
 induction n with
 | zero=>
  intro i ρ h I0
  have:i=N:=by omega
  subst this
  exact ⟨ρ,QP hend,I0⟩
 | succ n ih=>
  intro i ρ h I0
  obtain ⟨ρ1,e1,I1⟩:=hs i (by omega) ρ I0
  obtain ⟨ρ2,e2,I2⟩:=ih (i+1) ρ1 (by omega) I1
  exact ⟨ρ2,(QV (hat i (by omega)) e1).trans e2,I2⟩
theorem TL {m:Ev}{ρ:En}{A A1:Hx}{ws:List W}(h:m ρ A=.ok (.tup ws) A1):Jm m ρ A=.ok (gR (.tup ws) ws.length) A1:=by
 unfold Jm
 rw [h,zB]
 rfl
theorem PD {A:Hx}{ws:List W}{i:Nat}{w:W}(h:ws[i]? =some w):(gR (.tup ws) ws.length).at_ A i=some (some (.tup [.int i,w])):=by
 show atEnd ws i _=_
 unfold atEnd
 rw [h]
theorem R1 {A:Hx}{ws:List W}:(gR (.tup ws) ws.length).at_ A ws.length=some none:=by
 show atEnd ws _ _=_
 unfold atEnd
 rw [List.getElem?_eq_none (Nat.le_refl _)]
 exact if_pos rfl
noncomputable def at2 (t:List (List Int))(a b:Nat):Int:=(t.getD a []).getD b 0
structure qh (t:List (List Int)):Prop where
 n1:1<=t.length
 n8:t.length<=8
 sq:∀r∈t,r.length=t.length
 lo:∀r∈t,∀v∈r,0<=v/\v<(t.length:Int)
 dg:∀a b,a<t.length->b<t.length->(at2 t a b=0↔a=b)
 sy:∀a b,a<t.length->b<t.length->at2 t a b=at2 t b a
 fu:∀k:Nat,(∃v∈t.flatten,(k:Int)<v)->(k:Int)∈t.flatten
section
variable {t:List (List Int)}{A:Hx}{a b:Nat}
theorem Vu (ha:a<t.length):(t.map qc)[a]? =some (qc (t.getD a [])):=by
 rw [List.getElem?_map,List.getD_eq_getElem?_getD,List.getElem?_eq_getElem ha];rfl
theorem Zl (ha:a<t.length):t.getD a []∈t:=by
 rw [List.getD_eq_getElem?_getD,List.getElem?_eq_getElem ha];exact List.getElem_mem ha
theorem Vx (ha:a<t.length):zI (zj t) (.int a) A=.ok (qc (t.getD a [])) A:=by
 unfold zI
 show (match kU (t.map qc) (a:Int) with | some w=>R.ok w A | none=>R.bad)=_
 rw [KL (Vu ha)]
theorem int_at {r:List Int}(hb:b<r.length):(r.map W.int)[b]? =some (.int (r.getD b 0)):=by
 rw [List.getElem?_map,List.getD_eq_getElem?_getD,List.getElem?_eq_getElem hb];rfl
theorem VC {r:List Int}(hb:b<r.length):zI (qc r) (.int b) A=.ok (.int (r.getD b 0)) A:=by
 unfold zI
 show (match kU (r.map W.int) (b:Int) with | some w=>R.ok w A | none=>R.bad)=_
 rw [KL (v:=.int (r.getD b 0)) (by rw [List.getElem?_map,List.getD_eq_getElem?_getD,List.getElem?_eq_getElem hb];rfl)]
end
end Mi
namespace G
open PySem L2 Mi
theorem DM {t:List (List Int)}(h:qh t)(A:Hx):JO [zj t] A=.ok (.bl true) A:=by
 refine yO (A1:=[]) (by show ((zj t).nr&&true)=true;rw [yD];rfl) rfl (jd ?_)
 unfold Xw
 obtain ⟨ρ',e,_⟩:=Tf (A:=[]) (N:=t.length) (item:=λ i=>.tup [.int i,qc (t.getD i [])]) (I:=λ ρ=>∃y1 y2 y3 y4,ρ=[some (zj t),y1,y2,y3,y4])
  (j:=gR (zj t) (t.map qc).length) (st:=turn (kN 1 2) (zp (jE (Jm (zc 2)) (kN 3 4) (zp (jc (g8 (zl jC (zl yd (zc 4) (zi (.int 0))) (zl yd (zc 1) (zc 3))) (zl jC (zl zI (zl zI (zc 0) (zc 3)) (zc 1)) (zc 4))) (zp (qj (zi (.bl false))) (zw)) (zw)) (zw))) (zw)))
  (λ i hi=>PD (Vu hi)) (by have:=R1 (A:=[]) (ws:=t.map qc);rw [List.length_map] at this;rw [List.length_map];exact this) (λ a ha ρ hρ=>by
   obtain ⟨y1,y2,y3,y4,rfl⟩:=hρ
   have hrl:=h.sq _ (Zl ha)
   obtain ⟨ρ2,e2,z3,z4,hz⟩:=Tf (A:=[]) (N:=t.length) (item:=λ i=>.tup [.int i,.int ((t.getD a []).getD i 0)]) (I:=λ ρ=>∃y3 y4,ρ=[some (zj t),some (.int a),some (qc (t.getD a [])),y3,y4])
    (j:=gR (qc (t.getD a [])) ((t.getD a []).map W.int).length) (st:=turn (kN 3 4) (zp (jc (g8 (zl jC (zl yd (zc 4) (zi (.int 0))) (zl yd (zc 1) (zc 3))) (zl jC (zl zI (zl zI (zc 0) (zc 3)) (zc 1)) (zc 4))) (zp (qj (zi (.bl false))) (zw)) (zw)) (zw)))
    (λ i hi=>PD (int_at (by omega)))
    (by have:=R1 (A:=[]) (ws:=(t.getD a []).map W.int);rw [List.length_map,hrl] at this;rw [List.length_map,hrl];exact this)
    (λ b hb ρ hρ=>by
     obtain ⟨y3,y4,rfl⟩:=hρ
     refine ⟨[some (zj t),some (.int a),some (qc (t.getD a [])),some (.int b),some (.int ((t.getD a []).getD b 0))],?_,_,_,rfl⟩
     refine (kZ rfl).trans ?_
     refine (zD ((yz (A1:=[]) ?_).trans rfl)).trans rfl
     have e1:zl jC (zl yd (zc 4) (zi (.int 0))) (zl yd (zc 1) (zc 3)) [some (zj t),some (.int a),some (qc (t.getD a [])),some (.int b),some (.int ((t.getD a []).getD b 0))] []=.ok (.bl false) []:=by
      refine (zO ((zO (zu (i:=4) rfl) (jR (w:=.int 0))).trans (Yv _ _ _)) ((zO (zu (i:=1) rfl) (zu (i:=3) rfl)).trans (Yv _ _ _))).trans ((Ai _ _ _).trans ?_)
      have hd:(t.getD a []).getD b 0=0↔a=b:=h.dg a b ha hb
      have:decide ((t.getD a []).getD b 0=0)=decide ((a:Int)=(b:Int)):=by
       by_cases q:a=b
       ·rw [decide_eq_true (hd.mpr q),decide_eq_true (by omega)]
       ·rw [decide_eq_false (λ z=>q (hd.mp z)),decide_eq_false (by omega)]
      rw [this]
      simp
     have e2:zl jC (zl zI (zl zI (zc 0) (zc 3)) (zc 1)) (zc 4) [some (zj t),some (.int a),some (qc (t.getD a [])),some (.int b),some (.int ((t.getD a []).getD b 0))] []=.ok (.bl false) []:=by
      have hbl:=h.sq _ (Zl hb)
      refine (zO ((zO ((zO (zu (i:=0) rfl) (zu (i:=3) rfl)).trans (Vx hb)) (zu (i:=1) rfl)).trans (VC (by omega))) (zu (i:=4) rfl)).trans ((Uo _ _ _).trans ?_)
      have hs:(t.getD b []).getD a 0=(t.getD a []).getD b 0:=(h.sy a b ha hb).symm
      rw [hs,decide_eq_true rfl]
      rfl
     exact (VX e1).trans e2) t.length 0 [some (zj t),some (.int a),some (qc (t.getD a [])),y3,y4] (by omega) ⟨_,_,rfl⟩
   refine ⟨[some (zj t),some (.int a),some (qc (t.getD a [])),z3,z4],?_,_,_,_,_,rfl⟩
   refine (kZ rfl).trans ?_
   rw [hz] at e2
   have hlen:((t.getD a []).map W.int).length=t.length:=by rw [List.length_map,hrl]
   refine (zD ((wq (TL (zu (i:=2) rfl))).trans ?_)).trans rfl
   show jN (gR (qc (t.getD a [])) ((t.getD a []).map W.int).length) _ ((t.getD a []).map W.int).length 0 _ _=_
   rw [hlen] at e2 ⊢
   exact e2) t.length 0 [some (zj t),none,none,none,none] (by omega) ⟨_,_,_,_,rfl⟩
 refine (zD (ρ1:=ρ') (A1:=[]) ((wq (TL (zu (i:=0) rfl))).trans ?_)).trans (qD rfl)
 show jN (gR (zj t) (t.map qc).length) _ (t.map qc).length 0 _ _=_
 have hlen:(t.map qc).length=t.length:=List.length_map ..
 rw [hlen] at e ⊢
 exact e
end G
namespace Mi
open PySem L2
section
variable {t:List (List Int)}{A:Hx}
theorem Iy {j:jv}{me:Ev}{ws:List W}{c:Option W}(hj:∀i,i<ws.length->j.at_ A i=some (some (ws.getD i .non)))(hend:j.at_ A ws.length=some none)(he:∀w,me [c,some w] A=.ok w A):
  ∀(f i:Nat) (x:Option W) (acc:List W),i+f=ws.length->acc.length+f<=zP->∃y,qt j (zA 1) (zi (.bl true)) (zJ me) f i [c,x] acc A=.ok ([c,y],acc++ws.drop i) A:=by
 intro f
 induction f with
 | zero=>
  intro i x acc h hl
  have:i=ws.length:=by omega
  subst this
  refine ⟨x,?_⟩
  unfold qt
  rw [hend,List.drop_length,List.append_nil]
 | succ f ih=>
  intro i x acc h hl
  have hi:i<ws.length:=by omega
  have ew:ws.getD i .non=ws[i]:=by rw [List.getD_eq_getElem?_getD,List.getElem?_eq_getElem hi];rfl
  obtain ⟨y,e⟩:=ih (i+1) (some ws[i]) (acc++[ws[i]]) (by omega) (by rw [List.length_append,List.length_singleton];omega)
  refine ⟨y,?_⟩
  rw [qt,hj i hi,ew]
  dsimp only [zA,List.set,zi]
  rw [zB]
  dsimp only
  have ee:zJ me [c,some ws[i]] acc A=.ok ([c,some ws[i]],acc++[ws[i]]) A:=by
   unfold zJ
   rw [he,zB,if_pos (by omega)]
  rw [ee,zB]
  rw [e,List.append_assoc]
  congr 3
  rw [List.singleton_append,<- List.drop_eq_getElem_cons hi]
theorem Lb {j:jv}(hj:∀i,i<t.length->j.at_ A i=some (some (qc (t.getD i []))))(hend:j.at_ A t.length=some none):
  ∀(f i:Nat) (x y:Option W) (acc:List W),i+f=t.length->acc.length+(t.drop i).flatten.length<=zP->
   ∃ρ,qt j (zA 0) (zi (.bl true)) (wA (qd (zc 0)) (zA 1) (zi (.bl true)) (zJ (zc 1))) f i [x,y] acc A=.ok (ρ,acc++(t.drop i).flatten.map W.int) A:=by
 intro f
 induction f with
 | zero=>
  intro i x y acc h hl
  have:i=t.length:=by omega
  subst this
  refine ⟨[x,y],?_⟩
  unfold qt
  rw [hend,List.drop_length]
  simp
 | succ f ih=>
  intro i x y acc h hl
  have hi:i<t.length:=by omega
  have er:t.getD i []=t[i]:=by rw [List.getD_eq_getElem?_getD,List.getElem?_eq_getElem hi];rfl
  have ed:t.drop i=t[i]::t.drop (i+1):=List.drop_eq_getElem_cons hi
  rw [ed,List.flatten_cons,List.length_append] at hl
  obtain ⟨z,e1⟩:=Iy (A:=A) (j:=⟨λ A i_1=>(zE (qc t[i]) A).map λ ws=>ws[i_1]?,(t[i].map W.int).length⟩) (me:=zc 1) (ws:=t[i].map W.int) (c:=some (qc t[i]))
   (λ k hk=>by
    show some (t[i].map W.int)[k]? =_
    rw [List.getD_eq_getElem?_getD,List.getElem?_eq_getElem hk];rfl)
   (by show some (t[i].map W.int)[(t[i].map W.int).length]? =_;rw [List.getElem?_eq_none (Nat.le_refl _)])
   (λ w=>zu rfl) (t[i].map W.int).length 0 y acc (by omega) (by rw [List.length_map];omega)
  rw [List.drop_zero] at e1
  obtain ⟨ρ,e2⟩:=ih (i+1) (some (qc t[i])) z (acc++t[i].map W.int) (by omega) (by rw [List.length_append,List.length_map];omega)
  refine ⟨ρ,?_⟩
  rw [qt,hj i hi,er]
  dsimp only [zA,List.set,zi]
  rw [zB]
  dsimp only
  have ee:wA (qd (zc 0)) (zA 1) (zi (.bl true)) (zJ (zc 1)) [some (qc t[i]),y] acc A=.ok ([some (qc t[i]),z],acc++t[i].map W.int) A:=by
   unfold wA
   rw [ZS (ws:=t[i].map W.int) (A1:=A) (zu (i:=0) rfl),zB]
   exact e1
  rw [ee,zB]
  rw [e2,ed,List.flatten_cons,List.map_append,List.append_assoc]
theorem Eb {m:Ev}{ρ:En}(h:m ρ A=.ok (zj t) A)(hl:t.flatten.length<=zP):
  zW 2 [] (qd m) (zA 0) (zi (.bl true)) (wA (qd (zc 0)) (zA 1) (zi (.bl true)) (zJ (zc 1))) ρ A=.ok (t.flatten.map W.int) A:=by
 have hlen:(t.map qc).length=t.length:=List.length_map ..
 obtain ⟨ρ',e⟩:=Lb (t:=t) (A:=A) (j:=⟨λ A i=>(zE (zj t) A).map λ ws=>ws[i]?,(t.map qc).length⟩) (λ i hi=>by show some (t.map qc)[i]? =_;rw [Vu hi])
  (by show some (t.map qc)[t.length]? =_;rw [List.getElem?_eq_none (by omega)]) t.length 0 none none [] (by omega) (by simpa using hl)
 unfold zW
 rw [ZS (ws:=t.map qc) h,zB]
 show R.bind (R.nox (qt ⟨λ A i=>(zE (zj t) A).map λ ws=>ws[i]?,(t.map qc).length⟩ _ _ _ (t.map qc).length 0 [none,none] [] A)) _=_
 rw [hlen] at e ⊢
 rw [e]
 simp
 rfl
end
theorem QJ:∀l:List Int,intsOf (l.map W.int)=some l
 | []=>rfl
 | i::l=>by
  show (match intsOf (l.map W.int) with | some is=>some (i::is) | none=>none)=_
  rw [QJ l]
theorem XU:∀(l:List Int) (m:Int),jZ l m=m∨jZ l m∈l
 | [],_=>.inl rfl
 | i::l,m=>by
  show jZ l (if i > m then i else m)=m∨jZ l (if i > m then i else m)∈i::l
  rcases XU l (if i > m then i else m) with e | e
  ·by_cases h:i > m
   ·rw [if_pos h] at e ⊢;exact .inr (by rw [e];exact List.mem_cons_self ..)
   ·rw [if_neg h] at e ⊢;exact .inl e
  ·exact .inr (List.mem_cons_of_mem _ e)
end Mi
namespace G
open PySem L2 Mi
theorem HC {t:List (List Int)}(h:qh t):t.flatten.length<=64:=by
 have:∀l:List (List Int),(∀r∈l,r.length<=8)->l.flatten.length<=8 * l.length:=by
  intro l
  induction l with
  | nil=>intro _;simp
  | cons r l ih=>
   intro hr
   have h1:=hr r (List.mem_cons_self ..)
   have h2:=ih λ r' hr'=>hr r' (List.mem_cons_of_mem _ hr')
   rw [List.flatten_cons,List.length_append,List.length_cons]
   omega
 have h8:=h.n8
 have:=this t λ r hr=>by rw [h.sq r hr];exact h.n8
 omega
theorem Fc {t:List (List Int)}(h:qh t)(A:Hx):JE [zj t] A=.ok (.bl true) A:=by
 have hfl:=HC h
 have hne:t.flatten≠[]:=by
  intro e
  have h1:=h.n1
  have hr:=h.sq _ (Zl (t:=t) (a:=0) (by omega))
  have:t.getD 0 []=[]:=by
   have:=List.flatten_eq_nil_iff.mp e _ (Zl (t:=t) (a:=0) (by omega))
   exact this
  rw [this] at hr
  simp at hr
  omega
 obtain ⟨v0,l0,el⟩:=List.exists_cons_of_ne_nil hne
 refine yO (A1:=[.lst (t.flatten.map W.int)]) (by show ((zj t).nr&&true)=true;rw [yD];rfl) rfl (jd ?_)
 unfold WR
 refine (zD (ρ1:=[some (zj t),some (.ref 0)]) (A1:=[.lst (t.flatten.map W.int)]) ((qM (gA (Eb (zu rfl) (by unfold zP;omega)))).trans rfl)).trans (qD (ji ?_))
 generalize hB:[O.lst (t.flatten.map W.int)]=B
 have hs:zE (.ref 0) B=some (t.flatten.map W.int):=by rw [<- hB];rfl
 have em:mQ wb (zM (zc 1)) [some (zj t),some (.ref 0)] B=.ok (.int (jZ l0 v0)) B:=by
  rw [yn (yM (w:=.ref 0) (A1:=B) (zu rfl) hs)]
  unfold wb
  rw [QJ,el]
 have hmax:jZ l0 v0∈t.flatten:=by
  rw [el]
  rcases XU l0 v0 with e | e
  ·rw [e];exact List.mem_cons_self ..
  ·exact List.mem_cons_of_mem _ e
 have hb:0<=jZ l0 v0/\jZ l0 v0<8:=by
  obtain ⟨r,hr,hv⟩:=List.mem_flatten.mp hmax
  have:=h.lo r hr _ hv
  have:=h.n8
  omega
 generalize jZ l0 v0=M at em hmax hb
 obtain ⟨K,rfl⟩:=Int.eq_ofNat_of_zero_le hb.1
 have ec:=QO (cap:=[1]) (me:=zl Ui (zc 0) (zc 1)) (ρ:=[some (zj t),some (.ref 0)]) (A:=B) (N:=K) (j:=jY 0 K) (item:=λ i=>.int (0+i)) (g:=λ _=>.bl true)
  ((ZN em (by unfold jM;simp;omega)).trans (by rw [Int.toNat_natCast])) rfl (by unfold zP;omega) (λ i hi=>gH hi) (gD (by omega))
  (λ i hi=>by
   refine (zO (zu (i:=0) (w:=.int (0+i)) rfl) (zu (i:=1) (w:=.ref 0) rfl)).trans ?_
   show gT false _ _ _=_
   unfold gT
   rw [hs]
   dsimp only
   have hf:(kx (.int (0+(i:Int)))&&(t.flatten.map W.int).all kx)=true:=by
    have:(t.flatten.map W.int).all kx=true:=List.all_eq_true.mpr λ w hw=>by obtain ⟨x,_,rfl⟩:=List.mem_map.mp hw;rfl
    rw [this];rfl
   rw [if_pos hf]
   have hin:Z8 (.int (0+(i:Int))) (t.flatten.map W.int)=true:=by
    unfold Z8
    refine List.any_eq_true.mpr ⟨.int i,List.mem_map.mpr ⟨(i:Int),h.fu i ⟨_,hmax,by omega⟩,rfl⟩,?_⟩
    show ((i:Int)==0+(i:Int))=true
    rw [Int.zero_add];exact beq_self_eq_true _
   rw [hin]
   rfl)
 refine (yn ec).trans ?_
 exact JX (p:=λ _=>true) λ _ _=>rfl
theorem Ef {t:List (List Int)}(h:qh t)(A:Hx):ye [zj t] A=.ok (.bl true) A:=by
 have n1:=h.n1
 have n8:=h.n8
 unfold ye Ki
 refine jd ?_
 unfold JM
 have el:∀ρ:En,mQ qa (zM (zc 0)) (some (zj t)::ρ) A=.ok (.int t.length) A:=λ ρ=>by
  rw [yn (yM (w:=zj t) (A1:=A) (zu rfl) rfl)]
  unfold qa
  rw [List.length_map]
 refine (zD (ρ1:=[some (zj t),none]) (A1:=A) ((yz (A1:=A) ?_).trans rfl)).trans ?_
 ·refine (VX (A1:=A) rfl).trans ?_
  refine ZT (k:=true) ?_
  show kL Qz Qz (zi (.int 1)) (mQ qa (zM (zc 0))) (zi (.int 8)) [some (zj t),none] A=_
  unfold kL
  rw [jR,zB,el,zB]
  show R.bind (R.ok (W.bl (decide ((1:Int)<=t.length))) A) _=_
  rw [decide_eq_true (by omega),zB]
  dsimp only
  rw [jR,zB]
  show R.ok (W.bl (decide ((t.length:Int)<=8))) A=_
  rw [decide_eq_true (by omega)]
 refine (zD (ρ1:=[some (zj t),some (.int t.length)]) (A1:=A) ((qM (el _)).trans rfl)).trans ?_
 have ec:=JQ (cap:=[1]) (A:=A) (ρ:=[some (zj t),some (.int t.length)]) (ws:=t.map qc) (me:=zx wO (zh (zc 0) (zh (zc 1) (zh (zc 1) (zo))))) (g:=λ _=>.bl true) (zu (i:=0) rfl) (by rw [List.length_map];unfold zP;omega) (λ w hw=>by
  obtain ⟨r,hr,rfl⟩:=List.mem_map.mp hw
  have hl:=h.sq r hr
  refine (zR (ws:=[qc r,.int t.length,.int t.length]) (A1:=A) rfl).trans ?_
  rw [<- hl]
  exact Rn (by omega) (λ v hv=>by have:=h.lo r hr v hv;omega) A)
 refine (zD (ρ1:=[some (zj t),some (.int t.length)]) (A1:=A) ((yz (A1:=A) (ZT (k:=true) ((yn ec).trans (JX (p:=λ _=>true) λ _ _=>rfl)))).trans rfl)).trans (qD (ji ?_))
 refine (Jd (A1:=A) ((zR (ws:=[zj t]) (A1:=A) rfl).trans (DM h A))).trans ?_
 exact (zR (ws:=[zj t]) (A1:=A) rfl).trans (Fc h A)
end G
namespace Mi
open PySem L2
section
variable {A:Hx}{c:En}{me:Ev}{j jin:jv}{N M:Nat}{ot it:Nat->W}{u:Option W}
end
end Mi
namespace G
open PySem L2 Mi
section
variable {s t:List (List Int)}
theorem yX {ρ:En}{i:Nat}{A:Hx}(h:ρ[i]? =some (some (zj t))):mQ qa (zM (zc i)) ρ A=.ok (.int t.length) A:=by
 rw [yn (yM (w:=zj t) (A1:=A) (zu h) rfl)]
 unfold qa
 rw [List.length_map]
theorem wR {n:Nat}(h:n<1000000):jM (n:Int)=true:=by
 unfold jM
 simp
 omega
end
end G
namespace Mi
open PySem L2
theorem LJ {A:Hx}{c:En}{me:Ev}{j:jv}{N:Nat}{u v g:Nat->W}(hat:∀i,i<N->j.at_ A i=some (some (.tup [u i,v i])))(hend:j.at_ A N=some none)(he:∀i,i<N->me (some (u i)::some (v i)::c) A=.ok (g i) A):
  ∀(f i:Nat) (x y:Option W) (acc:List W),i+f=N->acc.length+f<=zP->∃ρ,qt j (kN 0 1) (zi (.bl true)) (zJ me) f i (x::y::c) acc A=.ok (ρ,acc++(List.range' i f).map g) A:=by
 intro f
 induction f with
 | zero=>
  intro i x y acc h hl
  have:i=N:=by omega
  subst this
  refine ⟨x::y::c,?_⟩
  unfold qt
  rw [hend]
  simp
 | succ f ih=>
  intro i x y acc h hl
  obtain ⟨ρ,e⟩:=ih (i+1) (some (u i)) (some (v i)) (acc++[g i]) (by omega) (by rw [List.length_append,List.length_singleton];omega)
  refine ⟨ρ,?_⟩
  rw [qt,hat i (by omega)]
  dsimp only
  rw [show kN 0 1 (.tup [u i,v i]) (x::y::c)=some (some (u i)::some (v i)::c) from rfl]
  dsimp only [zi]
  rw [zB]
  dsimp only
  have ee:zJ me (some (u i)::some (v i)::c) acc A=.ok (some (u i)::some (v i)::c,acc++[g i]) A:=by
   unfold zJ
   rw [he i (by omega),zB,if_pos (by omega)]
  rw [ee,zB]
  rw [e,List.append_assoc,List.range'_succ,List.map_cons]
  rfl
theorem Mf {A:Hx}{cap:List Nat}{ρ:En}{me:Ev}{mi:Ei}{j:jv}{N:Nat}{u v g:Nat->W}(hm:mi ρ A=.ok j A)(hj:j.len=N)(hN:N<=1000)(hat:∀i,i<N->j.at_ A i=some (some (.tup [u i,v i])))(hend:j.at_ A N=some none)
  (he:∀i,i<N->me (some (u i)::some (v i)::cap.map λ i=>(ρ[i]?).join) A=.ok (g i) A):zW 2 cap mi (kN 0 1) (zi (.bl true)) (zJ me) ρ A=.ok ((List.range N).map g) A:=by
 obtain ⟨ρ',e⟩:=LJ (A:=A) (c:=cap.map λ i=>(ρ[i]?).join) hat hend he N 0 none none [] (by omega) (by unfold zP;simp;omega)
 unfold zW
 rw [hm,zB,hj]
 show R.bind (R.nox (qt j _ _ _ N 0 (none::none::cap.map λ i=>(ρ[i]?).join) [] A)) _=_
 rw [e,<- List.range_eq_range',List.nil_append]
 rfl
theorem ZR {m:Ev}{ρ:En}{A A1:Hx}{n:Nat}{ws:List W}(h:m ρ A=.ok (.ref n) A1)(hA:A1[n]? =some (.lst ws)):qd m ρ A=.ok ⟨λ A i=>(zE (.ref n) A).map λ ws=>ws[i]?,ws.length⟩ A1:=by
 unfold qd Jz
 rw [h,zB]
 have e:zE (.ref n) A1=some ws:=by unfold zE;dsimp only;rw [hA]
 rw [e]
theorem Jf {n i:Nat}{A:Hx}{ws:List W}(hA:A[n]? =some (.lst ws)):((zE (.ref n) A).map λ ws=>ws[i]?)=some ws[i]?:=by
 have e:zE (.ref n) A=some ws:=by unfold zE;dsimp only;rw [hA]
 rw [e];rfl
noncomputable def ky:List Int->Int
 | []=>0
 | i::is=>jZ is i
theorem RD {r:List Int}{A:Hx}(h:r≠[]):wb (r.map W.int) A=.ok (.int (ky r)) A:=by
 unfold wb
 rw [QJ]
 cases r with
 | nil=>exact absurd rfl h
 | cons i is=>rfl
theorem Kt {r:List Int}(h:r≠[]):ky r∈r:=by
 cases r with
 | nil=>exact absurd rfl h
 | cons i is=>
  rcases XU is i with e | e
  ·show jZ is i∈_;rw [e];exact List.mem_cons_self ..
  ·exact List.mem_cons_of_mem _ e
noncomputable def jw (t:List (List Int)):Int:=ky (t.map ky)+1
end Mi
namespace G
open PySem L2 Mi
section
variable {s t:List (List Int)}
theorem _root_.Mi.qh.row_ne (h:qh t){r:List Int}(hr:r∈t):r≠[]:=λ e=>by
 have h1:=h.sq r hr
 have h2:=h.n1
 rw [e,List.length_nil] at h1
 omega
theorem _root_.Mi.qh.map_ne (h:qh t):t.map ky≠[]:=λ e=>by
 have:=h.n1
 rw [List.map_eq_nil_iff] at e
 rw [e] at this
 simp at this
theorem VE (h:qh t):1<=jw t/\jw t<=8:=by
 obtain ⟨r,hr,e⟩:=List.mem_map.mp (Kt h.map_ne)
 have:=h.lo r hr _ (Kt (h.row_ne hr))
 have:=h.n8
 unfold jw
 rw [<- e]
 omega
theorem UP (h:qh t)(A:Hx):gu [zj t] A=.ok (.int (jw t)) A:=by
 have n8:=h.n8
 refine yO (A1:=[]) (by show ((zj t).nr&&true)=true;rw [yD];rfl) rfl (jd ?_)
 unfold GU
 refine qD (ji ?_)
 have ec:=JQ (cap:=[]) (A:=[]) (ρ:=[some (zj t)]) (ws:=t.map qc) (me:=mQ wb (zM (zc 0))) (g:=λ w=>match w with | .tup ws=>(match intsOf ws with | some r=>.int (ky r) | none=>.non) | _=>.non) (zu (i:=0) rfl) (by rw [List.length_map];unfold zP;omega) (λ w hw=>by
  obtain ⟨r,hr,rfl⟩:=List.mem_map.mp hw
  refine (yn (yM (w:=qc r) (ws:=r.map W.int) (A1:=[]) (zu rfl) rfl)).trans ((RD (h.row_ne hr)).trans ?_)
  show _=R.ok (match intsOf (r.map W.int) with | some r=>W.int (ky r) | none=>W.non) []
  rw [QJ])
 have em:(t.map qc).map (λ w=>match w with | .tup ws=>(match intsOf ws with | some r=>W.int (ky r) | none=>W.non) | _=>W.non)=(t.map ky).map W.int:=by
  rw [List.map_map,List.map_map]
  apply List.map_congr_left
  intro r _
  show (match intsOf (r.map W.int) with | some r=>W.int (ky r) | none=>W.non)=W.int (ky r)
  rw [QJ]
 rw [em] at ec
 exact (zO ((yn ec).trans (RD h.map_ne)) (jR (w:=.int 1))).trans rfl
theorem Pq (h:qh t){a b:Nat}(ha:a<t.length)(hb:b<t.length):0<=at2 t a b/\at2 t a b<8:=by
 have hl:=h.sq _ (Zl ha)
 have:(t.getD a []).getD b 0∈t.getD a []:=by
  rw [List.getD_eq_getElem?_getD (l:=t.getD a []),List.getElem?_eq_getElem (by omega)];exact List.getElem_mem _
 have h1:=h.lo _ (Zl ha) _ this
 have:=h.n8
 unfold at2
 omega
theorem Ak (h:qh t){ρ:En}{A:Hx}{ma mb mt:Ev}{a b:Nat}(ht:mt ρ A=.ok (zj t) A)(ha:ma ρ A=.ok (.int a) A)(hb:mb ρ A=.ok (.int b) A)(la:a<t.length)(lb:b<t.length):zl zI (zl zI mt ma) mb ρ A=.ok (.int (at2 t a b)) A:=
 (zO ((zO ht ha).trans (Vx la)) hb).trans (VC (by rw [h.sq _ (Zl la)];exact lb))
theorem wW {q:jG}{ρ:En}{A A1:Hx}{ws:List W}(h:q ρ A=.ok ws A1):mQ qH q ρ A=.ok (.tup ws) A1:=(yn h).trans rfl
end
theorem Zn {α:Type}{r:R α}{a:α}{A:Hx}(h:r=.ok a A):r.nox=.ok a A:=by rw [h];rfl
theorem Sy {n:Nat}{m:Ex}{ws:List W}{w:W}{A A1:Hx}(h:m (ws.map some++List.replicate (n - ws.length) none) A=.ok (.rt w) A1):kB n m ws A=.ok w A1:=by unfold kB;rw [h];rfl
theorem Rc {n:Nat}{m:Ex}{ws:List W}{ρ:En}{A A1:Hx}(h:m (ws.map some++List.replicate (n - ws.length) none) A=.ok (.nx ρ) A1):kB n m ws A=.ok .non A1:=by unfold kB;rw [h];rfl
theorem gB {m1 m2:Ex}{ρ:En}{A A1:Hx}{x:Str}(h:m1 ρ A=.exc x A1):zp m1 m2 ρ A=.exc x A1:=by unfold zp;rw [h,Sb]
theorem QX {m:Ev}{ρ:En}{A A1:Hx}{x:Str}(h:m ρ A=.exc x A1):qQ m ρ A=.exc x A1:=by unfold qQ;rw [h,Sb]
theorem ZO {n:Nat}{m:Ex}{ws:List W}{x:Str}{A A1:Hx}(h:m (ws.map some++List.replicate (n - ws.length) none) A=.exc x A1):kB n m ws A=.exc x A1:=by unfold kB;rw [h];rfl
section
variable {s t:List (List Int)}
theorem Rf (s t:List (List Int)):qT [zj s,zj t]=true:=by
 show ((zj s).nr&&((zj t).nr&&true))=true
 rw [yD,yD];rfl
theorem Zk (h:qh t)(A:Hx):QB [zj t] A=.ok .non A:=by
 refine Rc (ρ:=[some (zj t)]) ?_
 unfold YK
 refine (zD (ρ1:=[some (zj t)]) (A1:=A) ((yz (A1:=A) ?_).trans rfl)).trans rfl
 exact Zn (ZT (k:=true) ((zR (ws:=[zj t]) (A1:=A) rfl).trans (Ef h A)))
end
theorem DS {A:Hx}{ρ:En}{i c:Nat}{ws:List W}{mm:Ev}{w:W}(hc:ρ[i]? =some (some (.ref c)))(hA:A[c]? =some (.lst ws))(hm:mm ρ A=.ok w A)(hl:ws.length<100):qQ (qx qY (zc i) mm) ρ A=.ok (.nx ρ) (A.set c (.lst (ws++[w]))):=by
 refine yx (w:=.non) ?_
 unfold qx
 rw [zu hc,zB]
 have il:kR (.ref c) A=true:=by unfold kR;dsimp only;rw [hA]
 rw [if_pos il,hm,zB]
 unfold qY
 dsimp only
 rw [hA]
 dsimp only
 rw [if_pos (by unfold zP;omega)]
section
variable {s t:List (List Int)}{x2:W}{f:Nat->Nat->Int}{v:Nat->Nat->W}{m7 mx:Ev}{L:Nat}
end
section
variable {s t:List (List Int)}
end
end G
namespace Mi
open PySem L2
theorem ZU {n:Nat}{ws:List W}{w:W}{A:Hx}{s:Nat}(h:A[n]? =some (.lst ws))(hs:ws[s]? =some w):zI (.ref n) (.int (s:Int)) A=.ok w A:=by
 unfold zI
 have e:zE (.ref n) A=some ws:=by unfold zE;dsimp only;rw [h]
 rw [e]
 dsimp only
 rw [KL hs]
theorem jD {A:Hx}{o u:O}{n:Nat}(h:A[n]? =some o):(A++[u])[n]? =some o:=by
 have:=(List.getElem?_eq_some_iff.mp h).1
 rw [List.getElem?_append_left this];exact h
theorem jq {A:Hx}{u:O}:(A++[u])[A.length]? =some u:=by simp
noncomputable def kT:Nat->List Int->List (Key × W)
 | _,[]=>[]
 | s,r::l=>(.inl r,.int ((s+1:Nat):Int))::kT (s+1) l
theorem X6:∀(ks:List Int) (s:Nat),(kT s ks).length=ks.length
 | [],_=>rfl
 | _::l,s=>by show (kT (s+1) l).length+1=_;rw [X6 l];rfl
theorem Rx (r:Int):∀(ks:List Int) (s:Nat),kT s (ks++[r])=kT s ks++[(.inl r,.int ((s+ks.length+1:Nat):Int))]
 | [],s=>rfl
 | k::l,s=>by
  show _::kT (s+1) (l++[r])=_
  rw [Rx r l (s+1),show s+1+l.length+1=s+(k::l).length+1 by simp;omega]
  rfl
theorem SR (r:Int):∀(ks:List Int) (s:Nat),(∃k:Nat,s+1<=k/\k<=s+ks.length/\yB (.inl r) (kT s ks)=some (.int (k:Int)))∨(r∉ks/\yB (.inl r) (kT s ks)=none)
 | [],s=>.inr ⟨by simp,rfl⟩
 | k::l,s=>by
  have e:yB (.inl r) (kT s (k::l))=if (Sum.inl k:Key)=.inl r then some (.int ((s+1:Nat):Int)) else yB (.inl r) (kT (s+1) l):=rfl
  by_cases h:k=r
  ·subst h
   exact .inl ⟨s+1,Nat.le_refl _,(by show s+1<=s+(l.length+1);omega),by rw [e,if_pos rfl]⟩
  ·rw [e,if_neg (λ z=>h (Sum.inl.inj z))]
   rcases SR r l (s+1) with ⟨q,h1,h2,h3⟩ | ⟨h1,h2⟩
   ·exact .inl ⟨q,by omega,(by show q<=s+(l.length+1);omega),h3⟩
   ·exact .inr ⟨by simp;exact ⟨λ z=>h z.symm,h1⟩,h2⟩
theorem J7:∀(n:Nat) (ks:List Int),ks.Nodup->(∀r∈ks,0<=r/\r<(n:Int))->ks.length<=n
 | 0,ks,_,h=>by
  cases ks with
  | nil=>exact Nat.le_refl _
  | cons r l=>have:=h r (List.mem_cons_self ..);omega
 | n+1,ks,nd,h=>by
  by_cases hm:(n:Int)∈ks
  ·have h1:=J7 n (ks.erase (n:Int)) (nd.erase _) λ r hr=>by
    have h2:=h r (List.mem_of_mem_erase hr)
    have h3:r≠(n:Int):=λ z=>(List.Nodup.mem_erase_iff nd).mp hr |>.1 z
    omega
   rw [List.length_erase_of_mem hm] at h1
   omega
  ·have:=J7 n ks nd λ r hr=>by
    have h2:=h r hr
    have h3:r≠(n:Int):=λ z=>hm (z ▸ hr)
    omega
   omega
noncomputable def Zw (μ:Nat->Nat->Int)(a b:Nat)(k:Int):Nat->Nat->Int:=λ i j=>if i=a/\j=b then k else μ i j
structure Mu (n:Nat)(μ:Nat->Nat->Int)(c:Nat)(done:Nat->Nat->Prop):Prop where
 dg:∀i,μ i i=0
 sy:∀i j,μ i j=μ j i
 dn:∀i j,i<j->j<n->done i j->1<=μ i j/\μ i j<=(c:Int)
 un:∀i j,i<j->j<n->¬done i j->μ i j=0
 fu:∀k:Nat,1<=k->k<=c->∃i j,i<n/\j<n/\μ i j=(k:Int)
theorem Mu.to {n:Nat}{μ:Nat->Nat->Int}{c:Nat}{d d':Nat->Nat->Prop}(h:Mu n μ c d)(e:∀i j,i<j->j<n->(d i j↔d' i j)):Mu n μ c d':=
 ⟨h.dg,h.sy,λ i j h1 h2 h3=>h.dn i j h1 h2 ((e i j h1 h2).mpr h3),λ i j h1 h2 h3=>h.un i j h1 h2 λ z=>h3 ((e i j h1 h2).mp z),h.fu⟩
theorem Mu.step {n:Nat}{μ:Nat->Nat->Int}{c c' k:Nat}{d:Nat->Nat->Prop}{a b:Nat}(h:Mu n μ c d)(hab:a<b)(hb:b<n)(hd:¬d a b)(hk:1<=k)(hc:(k<=c/\c'=c)∨(k=c+1/\c'=c+1)):
  Mu n (Zw (Zw μ a b k) b a k) c' λ i j=>d i j∨(i=a/\j=b):=by
 have at_:∀i j,Zw (Zw μ a b k) b a k i j=if (i=b/\j=a)∨(i=a/\j=b) then (k:Int) else μ i j:=λ i j=>by
  unfold Zw
  by_cases h1:i=b/\j=a
  ·rw [if_pos h1,if_pos (.inl h1)]
  ·rw [if_neg h1]
   by_cases h2:i=a/\j=b
   ·rw [if_pos h2,if_pos (.inr h2)]
   ·rw [if_neg h2,if_neg (by rintro (z | z);exact h1 z;exact h2 z)]
 have z0:μ a b=0:=h.un a b hab hb hd
 have z1:μ b a=0:=(h.sy b a).trans z0
 refine ⟨λ i=>?_,λ i j=>?_,λ i j h1 h2 h3=>?_,λ i j h1 h2 h3=>?_,λ q h1 h2=>?_⟩
 ·rw [at_,if_neg (by omega)];exact h.dg i
 ·rw [at_,at_]
  by_cases q:(i=b/\j=a)∨(i=a/\j=b)
  ·rw [if_pos q,if_pos (by omega)]
  ·rw [if_neg q,if_neg (by omega)];exact h.sy i j
 ·rw [at_]
  by_cases q:(i=b/\j=a)∨(i=a/\j=b)
  ·rw [if_pos q];omega
  ·rw [if_neg q]
   have:=h.dn i j h1 h2 (by rcases h3 with z | z;exact z;exact absurd (.inr z) q)
   omega
 ·rw [at_,if_neg (by rintro (z | z);omega;exact h3 (.inr z))]
  exact h.un i j h1 h2 λ z=>h3 (.inl z)
 ·by_cases hq:q=k
  ·subst hq
   exact ⟨a,b,by omega,hb,by rw [at_,if_pos (.inr ⟨rfl,rfl⟩)]⟩
  ·obtain ⟨i,j,hi,hj,e⟩:=h.fu q h1 (by omega)
   refine ⟨i,j,hi,hj,?_⟩
   rw [at_,if_neg ?_,e]
   rintro (⟨rfl,rfl⟩ | ⟨rfl,rfl⟩)
   ·rw [z1] at e;omega
   ·rw [z0] at e;omega
noncomputable def qI (n:Nat)(μ:Nat->Nat->Int):List (List Int):=(List.range n).map λ i=>(List.range n).map (μ i)
theorem Q8 {n:Nat}{μ:Nat->Nat->Int}{i j:Nat}(hi:i<n)(hj:j<n):at2 (qI n μ) i j=μ i j:=by
 unfold at2 qI
 rw [List.getD_eq_getElem?_getD (l:=(List.range n).map λ i=>(List.range n).map (μ i)),List.getElem?_map,List.getElem?_range hi]
 show ((List.range n).map (μ i)).getD j 0=_
 rw [List.getD_eq_getElem?_getD,List.getElem?_map,List.getElem?_range hj]
 rfl
theorem Mu.tab {n c:Nat}{μ:Nat->Nat->Int}{d:Nat->Nat->Prop}(h:Mu n μ c d)(all:∀i j,i<j->j<n->d i j)(n1:1<=n)(n8:n<=8)(hc:n=1∨c<n):qh (qI n μ):=by
 have len:(qI n μ).length=n:=by unfold qI;simp
 have val:∀i j,i<n->j<n->i≠j->1<=μ i j/\μ i j<=(c:Int):=λ i j hi hj ne=>by
  rcases Nat.lt_or_gt_of_ne ne with q | q
  ·exact h.dn i j q hj (all i j q hj)
  ·rw [h.sy];exact h.dn j i q hi (all j i q hi)
 have mem:∀r∈qI n μ,∀v∈r,∃i j,i<n/\j<n/\v=μ i j:=λ r hr v hv=>by
  unfold qI at hr
  obtain ⟨i,hi,rfl⟩:=List.mem_map.mp hr
  obtain ⟨j,hj,rfl⟩:=List.mem_map.mp hv
  exact ⟨i,j,List.mem_range.mp hi,List.mem_range.mp hj,rfl⟩
 have inF:∀i j,i<n->j<n->μ i j∈(qI n μ).flatten:=λ i j hi hj=>List.mem_flatten.mpr ⟨_,List.mem_map.mpr ⟨i,List.mem_range.mpr hi,rfl⟩,List.mem_map.mpr ⟨j,List.mem_range.mpr hj,rfl⟩⟩
 refine ⟨by rw [len];exact n1,by rw [len];exact n8,λ r hr=>?_,λ r hr v hv=>?_,λ a b ha hb=>?_,λ a b ha hb=>?_,λ k hk=>?_⟩
 ·rw [len]
  unfold qI at hr
  obtain ⟨i,hi,rfl⟩:=List.mem_map.mp hr
  simp
 ·rw [len]
  obtain ⟨i,j,hi,hj,rfl⟩:=mem r hr v hv
  by_cases q:i=j
  ·subst q;rw [h.dg];omega
  ·have:=val i j hi hj q
   omega
 ·rw [len] at ha hb
  rw [Q8 ha hb]
  constructor
  ·intro e
   by_cases q:a=b
   ·exact q
   ·have:=val a b ha hb q;omega
  ·intro e;subst e;exact h.dg a
 ·rw [len] at ha hb
  rw [Q8 ha hb,Q8 hb ha]
  exact h.sy a b
 ·obtain ⟨v,hv,hlt⟩:=hk
  obtain ⟨r,hr,hv'⟩:=List.mem_flatten.mp hv
  obtain ⟨i,j,hi,hj,rfl⟩:=mem r hr v hv'
  by_cases k0:k=0
  ·subst k0
   have:=inF 0 0 (by omega) (by omega)
   rw [h.dg] at this
   exact this
  ·by_cases q:i=j
   ·subst q;rw [h.dg] at hlt;omega
   ·have:=val i j hi hj q
    obtain ⟨i',j',hi',hj',e⟩:=h.fu k (by omega) (by omega)
    have:=inF i' j' hi' hj'
    rw [e] at this
    exact this
end Mi
namespace G
open PySem L2 Mi
theorem J8 {i j:Int}{A:Hx}(h1:-(2 ^ 64)<i)(h2:i<2 ^ 64):qJ (.int i) (.int j) A=.ok (.int (i * j)) A:=by
 unfold qJ
 dsimp only
 rw [if_pos]
 unfold Yn
 rw [Bool.or_eq_true,Bool.and_eq_true,decide_eq_true_iff,decide_eq_true_iff]
 exact .inl ⟨h1,h2⟩
theorem Qj {i j:Int}{A:Hx}(h:0<j):ka (.int i) (.int j) A=.ok (.int (i % j)) A:=by
 unfold ka ZA
 dsimp only
 rw [if_pos]
 unfold Wt
 exact decide_eq_true h
theorem RN {i j:Int}{A:Hx}(h:0<j)(h2:j<1073741824):Z5 (.int i) (.int j) A=.ok (.int (i / j)) A:=by
 unfold Z5 ZA
 dsimp only
 rw [if_pos]
 unfold Wx
 rw [Bool.and_eq_true,decide_eq_true_iff,decide_eq_true_iff]
 exact ⟨h,h2⟩
theorem DH {c m:Int}(h1:0<m)(h2:m<1000):Kf [.ref 0,.int m] [.lst [.int c,.bl true]]=.ok (.int (c % m)) [.lst [.int (c / m),.bl true]]:=by
 refine jd ?_
 unfold Kb
 refine qD (A1:=[.lst [.int (c / m),.bl true]]) ?_
 refine (wz (A1:=[.lst [.int c,.bl true]]) rfl).trans ?_
 refine (zD (ρ1:=[some (.ref 0),some (.int m),some (.int (c % m)),none]) (A1:=[.lst [.int c,.bl true]]) ?_).trans ?_
 ·refine (qM (w:=.int (c % m)) (A1:=[.lst [.int c,.bl true]]) ?_).trans rfl
  exact (zO (x:=.int c) (y:=.int m) (A1:=[.lst [.int c,.bl true]]) (A2:=[.lst [.int c,.bl true]]) rfl rfl).trans (Qj h1)
 ·refine (zD (ρ1:=[some (.ref 0),some (.int m),some (.int (c % m)),none]) (A1:=[.lst [.int (c / m),.bl true]]) ?_).trans rfl
  have e:zl Z5 (zl zI (zc 0) (zi (.int 0))) (zc 1) [some (.ref 0),some (.int m),some (.int (c % m)),none] [.lst [.int c,.bl true]]=.ok (.int (c / m)) [.lst [.int c,.bl true]]:=
   (zO (x:=.int c) (y:=.int m) (A1:=[.lst [.int c,.bl true]]) (A2:=[.lst [.int c,.bl true]]) rfl rfl).trans (RN h1 (by omega))
  unfold wu
  rw [e,zB]
  rfl
noncomputable def Z9 (c:Int):Int:=(c * 48271+29) % 2147483647
noncomputable def kj (d:Int):Int:=(d * d+39373 * d+7) % 2147483629
noncomputable def wL (e:Int):Int:=(e * e+16807 * e) % 2147483587
theorem VS (c:Int):0<=Z9 c/\Z9 c<2147483647:=⟨Int.emod_nonneg _ (by decide),Int.emod_lt_of_pos _ (by decide)⟩
theorem Ci (c:Int):0<=kj c/\kj c<2147483629:=⟨Int.emod_nonneg _ (by decide),Int.emod_lt_of_pos _ (by decide)⟩
theorem DT {c m:Int}(hc:0<=c)(hc2:c<2147483647)(h1:0<m)(h2:m<1000):Kf [.ref 0,.int m] [.lst [.int c,.bl false]]=.ok (.int (wL (kj (Z9 c)) / 8 % m)) [.lst [.int (Z9 c),.bl false]]:=by
 have b1:=VS c
 refine jd ?_
 unfold Kb
 refine (zD (ρ1:=[some (.ref 0),some (.int m),none,none]) (A1:=[.lst [.int c,.bl false]]) ((yz (A1:=[.lst [.int c,.bl false]]) rfl).trans rfl)).trans ?_
 have e1:zl ka (zl qb (zl qJ (zl zI (zc 0) (zi (.int 0))) (zi (.int 48271))) (zi (.int 29))) (zi (.int 2147483647)) [some (.ref 0),some (.int m),none,none] [.lst [.int c,.bl false]]=.ok (.int (Z9 c)) [.lst [.int c,.bl false]]:=by
  have em:zl qJ (zl zI (zc 0) (zi (.int 0))) (zi (.int 48271)) [some (.ref 0),some (.int m),none,none] [.lst [.int c,.bl false]]=.ok (.int (c * 48271)) [.lst [.int c,.bl false]]:=
   (zO (x:=.int c) (y:=.int 48271) (A1:=[.lst [.int c,.bl false]]) (A2:=[.lst [.int c,.bl false]]) rfl rfl).trans (J8 (by omega) (by omega))
  refine (zO (x:=.int (c * 48271+29)) (y:=.int 2147483647) (A1:=[.lst [.int c,.bl false]]) (A2:=[.lst [.int c,.bl false]]) ((zO em rfl).trans rfl) rfl).trans ?_
  exact Qj (by decide)
 refine (zD (ρ1:=[some (.ref 0),some (.int m),none,none]) (A1:=[.lst [.int (Z9 c),.bl false]]) ?_).trans ?_
 ·unfold wu
  rw [e1,zB]
  rfl
 generalize Z9 c=d at *
 have e2:zl ka (zl qb (zl qb (zl qJ (zl zI (zc 0) (zi (.int 0))) (zl zI (zc 0) (zi (.int 0)))) (zl qJ (zi (.int 39373)) (zl zI (zc 0) (zi (.int 0))))) (zi (.int 7))) (zi (.int 2147483629)) [some (.ref 0),some (.int m),none,none] [.lst [.int d,.bl false]]=
   .ok (.int (kj d)) [.lst [.int d,.bl false]]:=by
  have em:zl qJ (zl zI (zc 0) (zi (.int 0))) (zl zI (zc 0) (zi (.int 0))) [some (.ref 0),some (.int m),none,none] [.lst [.int d,.bl false]]=.ok (.int (d * d)) [.lst [.int d,.bl false]]:=
   (zO (x:=.int d) (y:=.int d) (A1:=[.lst [.int d,.bl false]]) (A2:=[.lst [.int d,.bl false]]) rfl rfl).trans (J8 (by omega) (by omega))
  have en:zl qJ (zi (.int 39373)) (zl zI (zc 0) (zi (.int 0))) [some (.ref 0),some (.int m),none,none] [.lst [.int d,.bl false]]=.ok (.int (39373 * d)) [.lst [.int d,.bl false]]:=
   (zO (x:=.int 39373) (y:=.int d) (A1:=[.lst [.int d,.bl false]]) (A2:=[.lst [.int d,.bl false]]) rfl rfl).trans (J8 (by decide) (by decide))
  have es:zl qb (zl qJ (zl zI (zc 0) (zi (.int 0))) (zl zI (zc 0) (zi (.int 0)))) (zl qJ (zi (.int 39373)) (zl zI (zc 0) (zi (.int 0)))) [some (.ref 0),some (.int m),none,none] [.lst [.int d,.bl false]]=.ok (.int (d * d+39373 * d)) [.lst [.int d,.bl false]]:=
   (zO em en).trans rfl
  refine (zO (x:=.int (d * d+39373 * d+7)) (y:=.int 2147483629) (A1:=[.lst [.int d,.bl false]]) (A2:=[.lst [.int d,.bl false]]) ((zO es rfl).trans rfl) rfl).trans ?_
  exact Qj (by decide)
 refine (zD (ρ1:=[some (.ref 0),some (.int m),none,some (.int (kj d))]) (A1:=[.lst [.int d,.bl false]]) ((qM e2).trans rfl)).trans ?_
 have b2:=Ci d
 generalize kj d=e at *
 have e3:zl ka (zl qb (zl qJ (zc 3) (zc 3)) (zl qJ (zi (.int 16807)) (zc 3))) (zi (.int 2147483587)) [some (.ref 0),some (.int m),none,some (.int e)] [.lst [.int d,.bl false]]=.ok (.int (wL e)) [.lst [.int d,.bl false]]:=by
  have em:zl qJ (zc 3) (zc 3) [some (.ref 0),some (.int m),none,some (.int e)] [.lst [.int d,.bl false]]=.ok (.int (e * e)) [.lst [.int d,.bl false]]:=
   (zO (x:=.int e) (y:=.int e) (A1:=[.lst [.int d,.bl false]]) (A2:=[.lst [.int d,.bl false]]) rfl rfl).trans (J8 (by omega) (by omega))
  have en:zl qJ (zi (.int 16807)) (zc 3) [some (.ref 0),some (.int m),none,some (.int e)] [.lst [.int d,.bl false]]=.ok (.int (16807 * e)) [.lst [.int d,.bl false]]:=
   (zO (x:=.int 16807) (y:=.int e) (A1:=[.lst [.int d,.bl false]]) (A2:=[.lst [.int d,.bl false]]) rfl rfl).trans (J8 (by decide) (by decide))
  refine (zO (x:=.int (e * e+16807 * e)) (y:=.int 2147483587) (A1:=[.lst [.int d,.bl false]]) (A2:=[.lst [.int d,.bl false]]) ((zO em en).trans rfl) rfl).trans ?_
  exact Qj (by decide)
 refine (zD (ρ1:=[some (.ref 0),some (.int m),none,some (.int (wL e))]) (A1:=[.lst [.int d,.bl false]]) ((qM e3).trans rfl)).trans ?_
 generalize wL e=f at *
 refine qD (ji ?_)
 refine (zO (x:=.int (f / 8)) (y:=.int m) (A1:=[.lst [.int d,.bl false]]) (A2:=[.lst [.int d,.bl false]]) ?_ rfl).trans (Qj h1)
 exact (zO (x:=.int f) (y:=.int 8) (A1:=[.lst [.int d,.bl false]]) (A2:=[.lst [.int d,.bl false]]) rfl rfl).trans (RN (by decide) (by decide))
noncomputable def yf (n:Nat)(A:Hx):Prop:=∃c b,A[n]? =some (.lst [.int c,.bl b])/\0<=c/\(b=false->c<2147483647)
theorem Je {n:Nat}{A:Hx}(h:yf n A){m:Int}(h1:0<m)(h2:m<1000):∃r o,qy [.ref n,.int m] A=.ok (.int r) (A.set n o)/\0<=r/\r<m/\yf n (A.set n o):=by
 obtain ⟨c,b,hA,hc,hb⟩:=h
 have hn:n<A.length:=(List.getElem?_eq_some_iff.mp hA).1
 have fin:∀(r c':Int),Kf [.ref 0,.int m] [.lst [.int c,.bl b]]=.ok (.int r) [.lst [.int c',.bl b]]->qy [.ref n,.int m] A=.ok (.int r) (A.set n (.lst [.int c',.bl b])):=λ r c' e=>by
  unfold qy kA
  dsimp only
  rw [hA]
  dsimp only
  have hn1:(qT [W.int c,W.bl b]&&qT [W.int m])=true:=rfl
  rw [if_pos hn1,e]
  rfl
 cases b with
 | true=>
  refine ⟨c % m,_,fin _ _ (DH h1 h2),Int.emod_nonneg _ (by omega),Int.emod_lt_of_pos _ h1,c / m,true,List.getElem?_set_self hn,Int.ediv_nonneg hc (by omega),λ z=>nomatch z⟩
 | false=>
  exact ⟨_,_,fin _ _ (DT hc (hb rfl) h1 h2),Int.emod_nonneg _ (by omega),Int.emod_lt_of_pos _ h1,Z9 c,false,List.getElem?_set_self hn,(VS c).1,λ _=>(VS c).2⟩
structure SH (n D:Nat)(μ:Nat->Nat->Int)(ks:List Int)(A:Hx):Prop where
 st:yf 0 A
 rws:A[1+2 * n]? =some (.lst ((List.range n).map λ i=>W.ref (2+2 * i)))
 row:∀i,i<n->A[2+2 * i]? =some (.lst ((List.range n).map λ j=>W.int (μ i j)))
 dc:A[D]? =some (.dct (kT 0 ks))
 hD:1+2 * n<D
inductive DI (n D kh:Nat)(done:Nat->Nat->Prop)(A:Hx):Prop
 | mk (μ:Nat->Nat->Int) (ks:List Int) (sh:SH n D μ ks A) (nd:ks.Nodup) (kb:∀r∈ks,0<=r/\r<(kh:Int)) (mu:Mu n μ ks.length done)
section
variable {n D kh a b:Nat}{μ:Nat->Nat->Int}{ks:List Int}{A:Hx}{done:Nat->Nat->Prop}
theorem SH.take (h:SH n D μ ks A){m:Int}(h1:0<m)(h2:m<1000):∃(r:Nat) (A':Hx),qy [.ref 0,.int m] A=.ok (.int (r:Int)) A'/\(r:Int)<m/\SH n D μ ks A':=by
 obtain ⟨r,o,e,a,b,s⟩:=Je h.st h1 h2
 have hD:=h.hD
 refine ⟨r.toNat,A.set 0 o,by rw [e,Int.toNat_of_nonneg a],by omega,s,?_,λ i hi=>?_,?_,h.hD⟩
 ·rw [List.getElem?_set_ne (by omega)];exact h.rws
 ·rw [List.getElem?_set_ne (by omega)];exact h.row i hi
 ·rw [List.getElem?_set_ne (by omega)];exact h.dc
theorem Vf {g:Nat->Int}{k:Int}(hb:b<n):((List.range n).map λ j=>W.int (g j)).set b (.int k)=(List.range n).map λ j=>W.int (if j=b then k else g j):=by
 apply List.ext_getElem?
 intro i
 by_cases hi:i<n
 ·by_cases q:b=i
  ·subst q
   rw [List.getElem?_set_self (by simpa using hi),List.getElem?_map,List.getElem?_range hi]
   simp
  ·rw [List.getElem?_set_ne q,List.getElem?_map,List.getElem?_map,List.getElem?_range hi]
   simp [Ne.symm q]
 ·rw [List.getElem?_eq_none (by simp;omega),List.getElem?_eq_none (by simp;omega)]
theorem SH.put (h:SH n D μ ks A)(ha:a<n)(hb:b<n)(k:Int):∃A',yr (.ref (2+2 * a)) (.int (b:Int)) (.int k) A=.ok () A'/\SH n D (Zw μ a b k) ks A':=by
 have hr:=h.row a ha
 have hlt:2+2 * a<A.length:=(List.getElem?_eq_some_iff.mp hr).1
 have hD:=h.hD
 refine ⟨A.set (2+2 * a) (.lst (((List.range n).map λ j=>W.int (μ a j)).set b (.int k))),?_,?_,?_,λ i hi=>?_,?_,h.hD⟩
 ·unfold yr
  dsimp only
  rw [hr]
  dsimp only
  have e:kS ((List.range n).map λ j=>W.int (μ a j)).length (b:Int)=some b:=by
   unfold kS
   rw [if_pos (by omega)]
   simp
   omega
  rw [e]
 ·obtain ⟨c,q,e,r⟩:=h.st
  exact ⟨c,q,by rw [List.getElem?_set_ne (by omega)];exact e,r⟩
 ·rw [List.getElem?_set_ne (by omega)];exact h.rws
 ·by_cases q:i=a
  ·subst q
   rw [List.getElem?_set_self hlt,Vf hb]
   congr 3
   funext j
   unfold Zw
   by_cases z:j=b
   ·rw [if_pos z,if_pos ⟨rfl,z⟩]
   ·rw [if_neg z,if_neg (by rintro ⟨_,w⟩;exact z w)]
  ·rw [List.getElem?_set_ne (by omega),h.row i hi]
   congr 3
   funext j
   unfold Zw
   rw [if_neg (by rintro ⟨w,_⟩;exact q w)]
 ·rw [List.getElem?_set_ne (by omega)];exact h.dc
theorem SH.setd (h:SH n D μ ks A)(hl:ks.length<=100)(r:Int):(∃k:Nat,1<=k/\k<=ks.length/\j9 (.ref D) (.int r) (.int ((ks.length+1:Nat):Int)) A=.ok (.int (k:Int)) A)∨
  (r∉ks/\∃A',j9 (.ref D) (.int r) (.int ((ks.length+1:Nat):Int)) A=.ok (.int ((ks.length+1:Nat):Int)) A'/\SH n D μ (ks++[r]) A'):=by
 have hD:=h.hD
 have hlt:D<A.length:=(List.getElem?_eq_some_iff.mp h.dc).1
 have e:j9 (.ref D) (.int r) (.int ((ks.length+1:Nat):Int)) A=(match yB (.inl r) (kT 0 ks) with
   | some w=>.ok w A
   | none=>.ok (.int ((ks.length+1:Nat):Int)) (A.set D (.dct (kT 0 ks++[(.inl r,.int ((ks.length+1:Nat):Int))])))):=by
  unfold j9 Ye
  dsimp only
  rw [h.dc]
  dsimp only
  rw [if_pos (by rw [X6];unfold zP;omega)]<;>(cases yB (.inl r) (kT 0 ks)<;>rfl)
 rcases SR r ks 0 with ⟨k,h1,h2,h3⟩ | ⟨h1,h2⟩
 ·exact .inl ⟨k,by omega,by omega,by rw [e,h3]⟩
 ·refine .inr ⟨h1,_,by rw [e,h2],?_,?_,λ i hi=>?_,?_,h.hD⟩
  ·obtain ⟨c,q,e,w⟩:=h.st
   exact ⟨c,q,by rw [List.getElem?_set_ne (by omega)];exact e,w⟩
  ·rw [List.getElem?_set_ne (by omega)];exact h.rws
  ·rw [List.getElem?_set_ne (by omega)];exact h.row i hi
  ·rw [List.getElem?_set_self hlt,Rx,Nat.zero_add]
noncomputable abbrev WM:Ex:=zp (zK 8 (yY j9 (zc 5) (zx qy (zh (zc 0) (zh (zc 4) (zo)))) (zl qb (yy (zc 5)) (zi (.int 1))))) (zp (wu yr (zc 8) (zl zI (zc 3) (zc 6)) (zc 7)) (zp (wu yr (zc 8) (zl zI (zc 3) (zc 7)) (zc 6)) (zw)))
theorem Sh (h:SH n D μ ks A)(ha:a<n)(hb:b<n){k:Int}{ρ:En}{i j:Nat}(h8:ρ[8]? =some (some (.int k)))(h3:ρ[3]? =some (some (.ref (1+2 * n))))(hi:ρ[i]? =some (some (.int (a:Int))))(hj:ρ[j]? =some (some (.int (b:Int)))):
  ∃A',wu yr (zc 8) (zl zI (zc 3) (zc i)) (zc j) ρ A=.ok (.nx ρ) A'/\SH n D (Zw μ a b k) ks A':=by
 obtain ⟨A',e,h'⟩:=h.put ha hb k
 refine ⟨A',?_,h'⟩
 have ei:zl zI (zc 3) (zc i) ρ A=.ok (.ref (2+2 * a)) A:=(zO (zu h3) (zu hi)).trans (ZU h.rws (by rw [List.getElem?_map,List.getElem?_range ha];rfl))
 unfold wu
 rw [zu h8,zB,ei,zB,zu hj,zB,e,zB]
theorem Eo {up:W}{y8:Option W}(h:DI n D kh done A)(hkh:1<=kh)(hk3:kh<=3)(hab:a<b)(hb:b<n)(hd:¬done a b):∃z8 A',WM [some (.ref 0),some up,some (.int (n:Int)),some (.ref (1+2 * n)),some (.int (kh:Int)),some (.ref D),some (.int (a:Int)),some (.int (b:Int)),y8] A=
  .ok (.nx [some (.ref 0),some up,some (.int (n:Int)),some (.ref (1+2 * n)),some (.int (kh:Int)),some (.ref D),some (.int (a:Int)),some (.int (b:Int)),z8]) A'/\DI n D kh (λ i j=>done i j∨(i=a/\j=b)) A':=by
 obtain ⟨μ,ks,sh,nd,kb,mu⟩:=h
 have hlen:ks.length<=kh:=J7 kh ks nd kb
 obtain ⟨r,A1,e1,hr,sh1⟩:=sh.take (m:=(kh:Int)) (by omega) (by omega)
 have ed:Z6 (.ref D) A=true:=by unfold Z6;dsimp only;rw [sh.dc]
 have el:zl qb (yy (zc 5)) (zi (.int 1)) [some (.ref 0),some up,some (.int (n:Int)),some (.ref (1+2 * n)),some (.int (kh:Int)),some (.ref D),some (.int (a:Int)),some (.int (b:Int)),y8] A1=.ok (.int ((ks.length+1:Nat):Int)) A1:=by
  have e:yy (zc 5) [some (.ref 0),some up,some (.int (n:Int)),some (.ref (1+2 * n)),some (.int (kh:Int)),some (.ref D),some (.int (a:Int)),some (.int (b:Int)),y8] A1=.ok (.int (ks.length:Int)) A1:=by
   unfold yy
   rw [zu (i:=5) rfl,zB]
   dsimp only
   rw [sh1.dc]
   dsimp only
   rw [X6]
  exact (zO e (jR (w:=.int 1))).trans (by show R.ok (W.int ((ks.length:Int)+1)) A1=_;rw [Int.natCast_add];rfl)
 have go:∀(k:Nat) (ks':List Int) (A2:Hx),j9 (.ref D) (.int (r:Int)) (.int ((ks.length+1:Nat):Int)) A1=.ok (.int (k:Int)) A2->SH n D μ ks' A2->ks'.Nodup->(∀r∈ks',0<=r/\r<(kh:Int))->1<=k->((k<=ks.length/\ks'.length=ks.length)∨(k=ks.length+1/\ks'.length=ks.length+1))->
   ∃z8 A',WM [some (.ref 0),some up,some (.int (n:Int)),some (.ref (1+2 * n)),some (.int (kh:Int)),some (.ref D),some (.int (a:Int)),some (.int (b:Int)),y8] A=
    .ok (.nx [some (.ref 0),some up,some (.int (n:Int)),some (.ref (1+2 * n)),some (.int (kh:Int)),some (.ref D),some (.int (a:Int)),some (.int (b:Int)),z8]) A'/\DI n D kh (λ i j=>done i j∨(i=a/\j=b)) A':=by
  intro k ks' A2 e2 sh2 nd' kb' k1 kc
  have es:yY j9 (zc 5) (zx qy (zh (zc 0) (zh (zc 4) (zo)))) (zl qb (yy (zc 5)) (zi (.int 1))) [some (.ref 0),some up,some (.int (n:Int)),some (.ref (1+2 * n)),some (.int (kh:Int)),some (.ref D),some (.int (a:Int)),some (.int (b:Int)),y8] A=.ok (.int (k:Int)) A2:=by
   unfold yY
   rw [zu (i:=5) rfl,zB,if_pos ed,(zR (ws:=[.ref 0,.int (kh:Int)]) (A1:=A) rfl).trans e1,zB,el,zB]
   exact e2
  obtain ⟨A3,e3,sh3⟩:=Sh (a:=a) (b:=b) (k:=(k:Int)) (ρ:=[some (.ref 0),some up,some (.int (n:Int)),some (.ref (1+2 * n)),some (.int (kh:Int)),some (.ref D),some (.int (a:Int)),some (.int (b:Int)),some (.int (k:Int))]) (i:=6) (j:=7) sh2 (by omega) hb rfl rfl rfl rfl
  obtain ⟨A4,e4,sh4⟩:=Sh (a:=b) (b:=a) (k:=(k:Int)) (ρ:=[some (.ref 0),some up,some (.int (n:Int)),some (.ref (1+2 * n)),some (.int (kh:Int)),some (.ref D),some (.int (a:Int)),some (.int (b:Int)),some (.int (k:Int))]) (i:=7) (j:=6) sh3 hb (by omega) rfl rfl rfl rfl
  refine ⟨some (.int (k:Int)),A4,?_,_,ks',sh4,nd',kb',mu.step hab hb hd k1 kc⟩
  exact (zD ((qM es).trans rfl)).trans ((zD e3).trans ((zD e4).trans rfl))
 rcases sh1.setd (by omega) (r:Int) with ⟨k,k1,k2,e2⟩ | ⟨hn,A2,e2,sh2⟩
 ·exact go k ks A1 e2 sh1 nd kb k1 (.inl ⟨k2,rfl⟩)
 ·refine go (ks.length+1) (ks++[(r:Int)]) A2 e2 sh2 ?_ (λ q hq=>?_) (by omega) (.inr ⟨rfl,by simp⟩)
  ·rw [List.nodup_append]
   exact ⟨nd,by simp,λ x hx y hy=>by have:=List.mem_singleton.mp hy;subst this;exact λ z=>hn (z ▸ hx)⟩
  ·rcases List.mem_append.mp hq with z | z
   ·exact kb q z
   ·have:=List.mem_singleton.mp z;omega
end
section
variable {n D kh a:Nat}{A:Hx}{up:W}
noncomputable def D2 (a b:Nat):Nat->Nat->Prop:=λ i j=>i<a∨(i=a/\j<b)
theorem DI.to {d d':Nat->Nat->Prop}(h:DI n D kh d A)(e:∀i j,i<j->j<n->(d i j↔d' i j)):DI n D kh d' A:=by
 obtain ⟨μ,ks,sh,nd,kb,mu⟩:=h
 exact ⟨μ,ks,sh,nd,kb,mu.to e⟩
theorem Hy (hkh:1<=kh)(hk3:kh<=3)(ha:a<n):∀(f i:Nat) (y7 y8:Option W) (A:Hx),i+f=n - (a+1)->DI n D kh (D2 a (a+1+i)) A->∃z7 z8 A',
  jN (jY ((a:Int)+1) (n - (a+1))) (turn (zA 7) WM) f i [some (.ref 0),some up,some (.int (n:Int)),some (.ref (1+2 * n)),some (.int (kh:Int)),some (.ref D),some (.int (a:Int)),y7,y8] A=
   .ok (.nx [some (.ref 0),some up,some (.int (n:Int)),some (.ref (1+2 * n)),some (.int (kh:Int)),some (.ref D),some (.int (a:Int)),z7,z8]) A'/\DI n D kh (D2 a n) A':=by
 intro f
 induction f with
 | zero=>
  intro i y7 y8 A h hA
  exact ⟨y7,y8,A,QP (gD (by omega)),hA.to λ x y h1 h2=>by unfold D2;omega⟩
 | succ f ih=>
  intro i y7 y8 A h hA
  obtain ⟨z8,A1,e1,h1⟩:=Eo (a:=a) (b:=a+1+i) (up:=up) (y8:=y8) hA hkh hk3 (by omega) (by omega) (by unfold D2;omega)
  obtain ⟨w7,w8,A2,e2,h2⟩:=ih (i+1) (some (.int ((a+1+i:Nat):Int))) z8 A1 (by omega) (h1.to λ x y q1 q2=>by unfold D2;omega)
  refine ⟨w7,w8,A2,?_,h2⟩
  refine (QV (w:=.int ((a:Int)+1+(i:Int))) (gH (by omega)) ((kZ rfl).trans ?_)).trans e2
  rw [show (a:Int)+1+(i:Int)=((a+1+i:Nat):Int) by omega]
  exact e1
noncomputable abbrev Bk:Ex:=zp (jE (Jp (zl qb (zc 6) (zi (.int 1))) (zc 2)) (zA 7) WM) (zw)
theorem M0 (hkh:1<=kh)(hk3:kh<=3)(hn:n<=8):∀(f i:Nat) (y6 y7 y8:Option W) (A:Hx),i+f=n->DI n D kh (λ x _=>x<i) A->∃z6 z7 z8 A',
  jN (jY 0 n) (turn (zA 6) Bk) f i [some (.ref 0),some up,some (.int (n:Int)),some (.ref (1+2 * n)),some (.int (kh:Int)),some (.ref D),y6,y7,y8] A=
   .ok (.nx [some (.ref 0),some up,some (.int (n:Int)),some (.ref (1+2 * n)),some (.int (kh:Int)),some (.ref D),z6,z7,z8]) A'/\DI n D kh (λ x _=>x<n) A':=by
 intro f
 induction f with
 | zero=>
  intro i y6 y7 y8 A h hA
  have:i=n:=by omega
  subst this
  exact ⟨y6,y7,y8,A,QP (gD (by omega)),hA⟩
 | succ f ih=>
  intro i y6 y7 y8 A h hA
  obtain ⟨z7,z8,A1,e1,h1⟩:=Hy (up:=up) (a:=i) hkh hk3 (by omega) (n - (i+1)) 0 y7 y8 A (by omega) (hA.to λ x y q1 q2=>by unfold D2;omega)
  obtain ⟨w6,w7,w8,A2,e2,h2⟩:=ih (i+1) (some (.int (i:Int))) z7 z8 A1 (by omega) (h1.to λ x y q1 q2=>by unfold D2;omega)
  refine ⟨w6,w7,w8,A2,?_,h2⟩
  refine (QV (w:=.int (0+(i:Int))) (gH (by omega)) ((kZ rfl).trans ?_)).trans e2
  rw [Int.zero_add]
  have er:Jp (zl qb (zc 6) (zi (.int 1))) (zc 2) [some (.ref 0),some up,some (.int (n:Int)),some (.ref (1+2 * n)),some (.int (kh:Int)),some (.ref D),some (.int (i:Int)),y7,y8] A=.ok (jY ((i:Int)+1) (n - (i+1))) A:=by
   unfold Jp
   rw [(zO (zu (i:=6) rfl) (jR (w:=.int 1)):zl qb (zc 6) (zi (.int 1)) [some (.ref 0),some up,some (.int (n:Int)),some (.ref (1+2 * n)),some (.int (kh:Int)),some (.ref D),some (.int (i:Int)),y7,y8] A=_)]
   show R.bind (R.ok (W.int ((i:Int)+1)) A) _=_
   rw [zB,zu (i:=2) rfl,zB]
   dsimp only
   have s1:jM ((i:Int)+1)=true:=by unfold jM;simp;omega
   rw [s1,wR (n:=n) (by omega)]
   show R.ok (jY ((i:Int)+1) ((n:Int) - ((i:Int)+1)).toNat) A=_
   rw [show ((n:Int) - ((i:Int)+1)).toNat=n - (i+1) by omega]
  exact (zD ((wq er).trans e1)).trans rfl
noncomputable def Z (n:Nat):List O:=[O.lst [.int 0],O.lst ((List.range n).map λ _=>W.int 0)]
theorem Dw (n t:Nat):∀i,t<i->((List.replicate i (Z n)).flatten)[2 * t+1]? =some (O.lst ((List.range n).map λ _=>W.int 0)):=by
 induction t with
 | zero=>
  intro i h
  cases i with
  | zero=>omega
  | succ i=>rw [List.replicate_succ,List.flatten_cons];rfl
 | succ t ih=>
  intro i h
  cases i with
  | zero=>omega
  | succ i=>
   rw [List.replicate_succ,List.flatten_cons,List.getElem?_append_right (by show 2<=_;omega)]
   have:=ih i (by omega)
   rw [show 2 * (t+1)+1 - (Z n).length=2 * t+1 by show 2 * (t+1)+1 - 2=_;omega]
   exact this
theorem KJ (n i:Nat):((List.replicate i (Z n)).flatten).length=2 * i:=by
 induction i with
 | zero=>rfl
 | succ i ih=>rw [List.replicate_succ,List.flatten_cons,List.length_append,ih];show 2+2 * i=_;omega
theorem Hg {x:Option W}{A:Hx}(hn:n<=8):zl qJ (zX (zh (zi (.int 0)) (zo))) (zc 1) [x,some (.int (n:Int))] A=.ok (.ref (A.length+1)) (A++Z n):=by
 refine (zO (yF (ws:=[.int 0]) (A1:=A) rfl) (zu (i:=1) rfl)).trans ?_
 unfold qJ
 dsimp only
 rw [jq]
 dsimp only
 rw [if_pos ?_]
 ·rw [List.length_append,List.length_singleton,List.append_assoc]
  congr 2
  rw [List.flatten_replicate_singleton,Int.toNat_natCast]
  show [O.lst [.int 0],O.lst (List.replicate n (.int 0))]=Z n
  unfold Z
  rw [show List.replicate n (W.int 0)=(List.range n).map λ _=>W.int 0 from ?_]
  rw [List.map_const',List.length_range]
 ·rw [wR (by omega),Int.toNat_natCast]
  simp
  unfold zP
  omega
theorem Fq {A1:Hx}(hn:n<=8):∀(f i:Nat) (x:Option W),i+f=n->∃y,qt (jY 0 n) (zA 0) (zi (.bl true)) (zJ (zl qJ (zX (zh (zi (.int 0)) (zo))) (zc 1))) f i [x,some (.int (n:Int))] ((List.range i).map λ t=>W.ref (A1.length+2 * t+1)) (A1++(List.replicate i (Z n)).flatten)=
  .ok ([y,some (.int (n:Int))],(List.range n).map λ t=>W.ref (A1.length+2 * t+1)) (A1++(List.replicate n (Z n)).flatten):=by
 intro f
 induction f with
 | zero=>
  intro i x h
  have:i=n:=by omega
  subst this
  refine ⟨x,?_⟩
  unfold qt
  rw [gD (by omega)]
 | succ f ih=>
  intro i x h
  obtain ⟨y,e⟩:=ih (i+1) (some (.int (0+(i:Int)))) (by omega)
  refine ⟨y,?_⟩
  rw [qt,gH (by omega)]
  dsimp only [zA,List.set,zi]
  rw [zB]
  dsimp only
  have ee:zJ (zl qJ (zX (zh (zi (.int 0)) (zo))) (zc 1)) [some (.int (0+(i:Int))),some (.int (n:Int))] ((List.range i).map λ t=>W.ref (A1.length+2 * t+1)) (A1++(List.replicate i (Z n)).flatten)=
    .ok ([some (.int (0+(i:Int))),some (.int (n:Int))],(List.range (i+1)).map λ t=>W.ref (A1.length+2 * t+1)) (A1++(List.replicate (i+1) (Z n)).flatten):=by
   unfold zJ
   rw [Hg hn,zB,if_pos (by unfold zP;simp;omega)]
   rw [List.length_append,KJ,List.range_succ,List.map_append,List.map_singleton,List.append_assoc,List.replicate_succ',List.flatten_append]
   simp
  rw [ee,zB]
  exact e
theorem FC {A1:Hx}{ρ:En}(hn:n<=8)(h2:ρ[2]? =some (some (.int (n:Int)))):qO (zW 1 [2] (jl (zc 2)) (zA 0) (zi (.bl true)) (zJ (zl qJ (zX (zh (zi (.int 0)) (zo))) (zc 1)))) ρ A1=
  .ok (.ref (A1.length+2 * n)) (A1++(List.replicate n (Z n)).flatten++[.lst ((List.range n).map λ t=>W.ref (A1.length+2 * t+1))]):=by
 obtain ⟨y,e⟩:=Fq (A1:=A1) hn n 0 none (by omega)
 have ec:zW 1 [2] (jl (zc 2)) (zA 0) (zi (.bl true)) (zJ (zl qJ (zX (zh (zi (.int 0)) (zo))) (zc 1))) ρ A1=.ok ((List.range n).map λ t=>W.ref (A1.length+2 * t+1)) (A1++(List.replicate n (Z n)).flatten):=by
  unfold zW
  rw [ZN (zu h2) (wR (by omega)),zB,Int.toNat_natCast]
  have hc:gL 1 [2] ρ=[none,some (.int (n:Int))]:=by
   show [none,(ρ[2]?).join]=_
   rw [h2];rfl
  rw [hc]
  have e':qt (jY 0 n) (zA 0) (zi (.bl true)) (zJ (zl qJ (zX (zh (zi (.int 0)) (zo))) (zc 1))) (jY 0 n).len 0 [none,some (.int (n:Int))] [] A1=.ok ([y,some (.int (n:Int))],(List.range n).map λ t=>W.ref (A1.length+2 * t+1)) (A1++(List.replicate n (Z n)).flatten):=by
   have:=e
   rw [List.replicate_zero,List.flatten_nil,List.append_nil] at this
   exact this
  rw [e']
  rfl
 rw [gA ec,List.length_append,KJ]
end
section
variable {n D kh:Nat}{A:Hx}
theorem SH.fin {μ:Nat->Nat->Int}{ks:List Int}(h:SH n D μ ks A)(hn:n<=8){ρ:En}(h3:ρ[3]? =some (some (.ref (1+2 * n)))):mQ qH (zW 1 [] (qd (zc 3)) (zA 0) (zi (.bl true)) (zJ (mQ qH (zM (zc 0))))) ρ A=.ok (zj (qI n μ)) A:=by
 have e:=QO (cap:=[]) (me:=mQ qH (zM (zc 0))) (ρ:=ρ) (A:=A) (N:=n) (item:=λ i=>.ref (2+2 * i)) (g:=λ i=>.tup ((List.range n).map λ j=>W.int (μ i j))) (ZR (zu h3) h.rws) (by simp) (by unfold zP;omega)
  (λ i hi=>(Jf h.rws).trans (by rw [List.getElem?_map,List.getElem?_range hi];rfl)) ((Jf h.rws).trans (by rw [List.getElem?_eq_none (by simp)]))
  (λ i hi=>wW (yM (w:=.ref (2+2 * i)) (A1:=A) (zu rfl) (by unfold zE;dsimp only;rw [h.row i hi])))
 rw [wW e]
 congr 2
 unfold qI
 rw [List.map_map]
 apply List.map_congr_left
 intro i _
 show W.tup _=W.tup (((List.range n).map (μ i)).map W.int)
 rw [List.map_map]
 rfl
theorem CT {ρ:En}(h2:ρ[2]? =some (some (.int (n:Int))))(n1:1<=n):∃M:Nat,zl Z0 (zi (.int 1)) (zl wB (zi (.int 3)) (zl yh (zc 2) (zi (.int 1)))) ρ A=.ok (.int (M:Int)) A/\1<=M/\M<=3/\(n=1∨M<n):=by
 have e:zl Z0 (zi (.int 1)) (zl wB (zi (.int 3)) (zl yh (zc 2) (zi (.int 1)))) ρ A=.ok (.int (if (if (n:Int) - 1<3 then (n:Int) - 1 else 3) > 1 then (if (n:Int) - 1<3 then (n:Int) - 1 else 3) else 1)) A:=
  (zO (jR (w:=.int 1)) ((zO (jR (w:=.int 3)) ((zO (zu h2) (jR (w:=.int 1))).trans rfl)).trans rfl)).trans rfl
 refine ⟨(if (if (n:Int) - 1<3 then (n:Int) - 1 else 3) > 1 then (if (n:Int) - 1<3 then (n:Int) - 1 else 3) else 1).toNat,?_,?_⟩
 ·rw [e,Int.toNat_of_nonneg (by split<;>split<;>omega)]
 ·split<;>split<;>omega
theorem Iv {A:Hx}(hl:A.length=2+2 * n)(st:yf 0 A)(rws:A[1+2 * n]? =some (.lst ((List.range n).map λ i=>W.ref (2+2 * i))))(row:∀i,i<n->A[2+2 * i]? =some (.lst ((List.range n).map λ _=>W.int 0))):
  DI n (2+2 * n) kh (λ x _=>x<0) (A++[.dct []]):=by
 obtain ⟨c,b,e,r⟩:=st
 refine ⟨λ _ _=>0,[],⟨⟨c,b,jD e,r⟩,jD rws,λ i hi=>jD (row i hi),?_,by omega⟩,List.nodup_nil,λ _ h=>absurd h (by simp),⟨λ _=>rfl,λ _ _=>rfl,λ _ _ _ _ h=>absurd h (by omega),λ _ _ _ _ _=>rfl,λ k h1 h2=>absurd h2 (by simp;omega)⟩⟩
 rw [<- hl]
 exact jq
theorem EN {A0:Hx}(h:yf 0 A0)(hl0:A0.length=1){u:Nat}(u1:1<=u)(u8:u<=8):∃t A1,Uv [.ref 0,.int (u:Int)] A0=.ok (zj t) A1/\yf 0 A1/\qh t/\t.length<=u:=by
 obtain ⟨r,o,e1,r0,r1,s1⟩:=Je h (m:=(u:Int)) (by omega) (by omega)
 obtain ⟨r',rfl⟩:=Int.eq_ofNat_of_zero_le r0
 have hl1:(A0.set 0 o).length=1:=by rw [List.length_set];exact hl0
 generalize A0.set 0 o=A1 at e1 s1 hl1
 have f1:zK 2 (zl qb (zi (.int 1)) (zx qy (zh (zc 0) (zh (zc 1) (zo))))) [some (.ref 0),some (.int (u:Int)),none,none,none,none,none,none,none] A0=.ok (.nx [some (.ref 0),some (.int (u:Int)),some (.int ((1+r':Nat):Int)),none,none,none,none,none,none]) A1:=by
  refine (qM ((zO (jR (w:=.int 1)) ((zR (ws:=[.ref 0,.int (u:Int)]) (A1:=A0) rfl).trans e1)).trans (rfl:_=R.ok (W.int (1+(r':Int))) A1))).trans ?_
  rw [show (1+(r':Int))=((1+r':Nat):Int) by omega]
  rfl
 have n1:1<=1+r':=by omega
 have nu:1+r'<=u:=by omega
 generalize 1+r'=n at f1 n1 nu
 have f2:=FC (n:=n) (A1:=A1) (ρ:=[some (.ref 0),some (.int (u:Int)),some (.int (n:Int)),none,none,none,none,none,none]) (by omega) rfl
 rw [hl1] at f2
 have kj:yf 0 (A1++(List.replicate n (Z n)).flatten++[.lst ((List.range n).map λ t=>W.ref (1+2 * t+1))]):=by
  obtain ⟨c,b,e,r⟩:=s1
  exact ⟨c,b,jD (by rw [List.getElem?_append_left (by omega)];exact e),r⟩
 have rws2:(A1++(List.replicate n (Z n)).flatten++[O.lst ((List.range n).map λ t=>W.ref (1+2 * t+1))])[1+2 * n]? =some (.lst ((List.range n).map λ i=>W.ref (2+2 * i))):=by
  have hlen:(A1++(List.replicate n (Z n)).flatten).length=1+2 * n:=by rw [List.length_append,KJ,hl1]
  rw [<- hlen,jq]
  have:(λ t:Nat=>W.ref (1+2 * t+1))=λ i:Nat=>W.ref (2+2 * i):=by funext i;rw [show 1+2 * i+1=2+2 * i by omega]
  rw [this]
 have row2:∀i,i<n->(A1++(List.replicate n (Z n)).flatten++[O.lst ((List.range n).map λ t=>W.ref (1+2 * t+1))])[2+2 * i]? =some (.lst ((List.range n).map λ _=>W.int 0)):=λ i hi=>by
  refine jD ?_
  rw [List.getElem?_append_right (by omega),hl1,show 2+2 * i - 1=2 * i+1 by omega]
  exact Dw n i n hi
 have yK:(A1++(List.replicate n (Z n)).flatten++[O.lst ((List.range n).map λ t=>W.ref (1+2 * t+1))]).length=2+2 * n:=by
  rw [List.length_append,List.length_append,KJ,hl1,List.length_singleton];omega
 generalize A1++(List.replicate n (Z n)).flatten++[O.lst ((List.range n).map λ t=>W.ref (1+2 * t+1))]=A2 at f2 kj rws2 row2 yK
 obtain ⟨M,eM,M1,M3,Mn⟩:=CT (A:=A2) (n:=n) (ρ:=[some (.ref 0),some (.int (u:Int)),some (.int (n:Int)),some (.ref (1+2 * n)),none,none,none,none,none]) rfl n1
 obtain ⟨q,o2,e3,q0,q1,s3⟩:=Je kj (m:=(M:Int)) (by omega) (by omega)
 obtain ⟨q',rfl⟩:=Int.eq_ofNat_of_zero_le q0
 have f3:zK 4 (zl qb (zi (.int 1)) (zx qy (zh (zc 0) (zh (zl Z0 (zi (.int 1)) (zl wB (zi (.int 3)) (zl yh (zc 2) (zi (.int 1))))) (zo))))) [some (.ref 0),some (.int (u:Int)),some (.int (n:Int)),some (.ref (1+2 * n)),none,none,none,none,none] A2=
   .ok (.nx [some (.ref 0),some (.int (u:Int)),some (.int (n:Int)),some (.ref (1+2 * n)),some (.int ((1+q':Nat):Int)),none,none,none,none]) (A2.set 0 o2):=by
  refine (qM ((zO (jR (w:=.int 1)) ((zR (ws:=[.ref 0,.int (M:Int)]) (A1:=A2) (qm (zu rfl) (qm eM jh))).trans e3)).trans (rfl:_=R.ok (W.int (1+(q':Int))) (A2.set 0 o2)))).trans ?_
  rw [show (1+(q':Int))=((1+q':Nat):Int) by omega]
  rfl
 have k1:1<=1+q':=by omega
 have k3:1+q'<=M:=by omega
 generalize 1+q'=kh at f3 k1 k3
 have rws3:(A2.set 0 o2)[1+2 * n]? =some (.lst ((List.range n).map λ i=>W.ref (2+2 * i))):=by rw [List.getElem?_set_ne (by omega)];exact rws2
 have row3:∀i,i<n->(A2.set 0 o2)[2+2 * i]? =some (.lst ((List.range n).map λ _=>W.int 0)):=λ i hi=>by rw [List.getElem?_set_ne (by omega)];exact row2 i hi
 have Jy:(A2.set 0 o2).length=2+2 * n:=by rw [List.length_set];exact yK
 generalize A2.set 0 o2=A3 at f3 s3 rws3 row3 Jy
 have di:=Iv (kh:=kh) Jy s3 rws3 row3
 obtain ⟨z6,z7,z8,A4,e5,di4⟩:=M0 (up:=.int (u:Int)) k1 (by omega) (by omega) n 0 none none none (A3++[.dct []]) (by omega) di
 obtain ⟨μ,ks,sh,nd,kb,mu⟩:=di4
 have hp:=J7 kh ks nd kb
 have tb:qh (qI n μ):=mu.tab (λ i j h1 h2=>by omega) n1 (by omega) (by omega)
 refine ⟨qI n μ,A4,jd ?_,sh.st,tb,by unfold qI;simp;exact nu⟩
 unfold W0
 refine (zD f1).trans ?_
 refine (zD ((qM f2).trans rfl)).trans ?_
 refine (zD f3).trans ?_
 refine (zD (ρ1:=[some (.ref 0),some (.int (u:Int)),some (.int (n:Int)),some (.ref (1+2 * n)),some (.int (kh:Int)),some (.ref (2+2 * n)),none,none,none]) (A1:=A3++[.dct []]) ((qM (w:=.ref (2+2 * n)) (A1:=A3++[.dct []]) (by unfold Qv;rw [Jy])).trans rfl)).trans ?_
 refine (zD ((wq ((ZN (zu (i:=2) rfl) (wR (by omega))).trans (by rw [Int.toNat_natCast]))).trans e5)).trans (qD (ji ?_))
 exact sh.fin (by omega) rfl
theorem RP {m:Nat}{A:Hx}(h:yf m A){u:Nat}(u1:1<=u)(u8:u<=8):∃t o,wj [.ref m,.int (u:Int)] A=.ok (zj t) (A.set m o)/\yf m (A.set m o)/\qh t/\t.length<=u:=by
 obtain ⟨c,b,hA,hc,hb⟩:=h
 have hm:m<A.length:=(List.getElem?_eq_some_iff.mp hA).1
 obtain ⟨t,A1,e,⟨c',b',e',hc',hb'⟩,tb,tl⟩:=EN (A0:=[.lst [.int c,.bl b]]) ⟨c,b,rfl,hc,hb⟩ rfl u1 u8
 refine ⟨t,.lst [.int c',.bl b'],?_,⟨c',b',List.getElem?_set_self hm,hc',hb'⟩,tb,tl⟩
 unfold wj kA
 dsimp only
 rw [hA]
 dsimp only
 have h1:(qT [W.int c,W.bl b]&&qT [W.int (u:Int)])=true:=rfl
 rw [if_pos h1,e]
 dsimp only
 rw [List.head?_eq_getElem?,e']
 dsimp only
 have h2:(qT [W.int c',W.bl b']&&(zj t).nr)=true:=by rw [yD];rfl
 rw [if_pos h2]
end
end G
namespace Mi
open PySem L2
theorem XA {n k:Nat}{xs ys:List W}{A:Hx}(h:A[n]? =some (.lst xs))(h2:A[k]? =some (.lst ys))(hl:xs.length+ys.length<=zP):qb (.ref n) (.ref k) A=.ok (.ref A.length) (A++[.lst (xs++ys)]):=by
 unfold qb
 dsimp only
 rw [h,h2]
 dsimp only
 rw [if_pos hl]
noncomputable def Ext (A A':Hx):Prop:=∃l,A'=A++l
theorem Ext.refl {A:Hx}:Ext A A:=⟨[],by simp⟩
theorem Ext.trans {A B C:Hx}(a:Ext A B)(b:Ext B C):Ext A C:=let ⟨l,e⟩:=a;let ⟨k,f⟩:=b;⟨l++k,by rw [f,e,List.append_assoc]⟩
theorem Ext.one {A:Hx}{o:O}:Ext A (A++[o]):=⟨[o],rfl⟩
theorem Ext.at {A A':Hx}{n:Nat}{o:O}(x:Ext A A')(h:A[n]? =some o):A'[n]? =some o:=by
 obtain ⟨l,rfl⟩:=x
 have:=(List.getElem?_eq_some_iff.mp h).1
 rw [List.getElem?_append_left this];exact h
theorem Ia {m m':Ev}{ρ:En}{A:Hx}{us vs:List W}(h:m ρ A=.ok (.tup us) A)(h':m' ρ A=.ok (.tup vs) A):Wv m m' ρ A=.ok (Wi (.tup us) (.tup vs) us.length) A:=by
 unfold Wv
 rw [h,zB,h',zB]
 rfl
end Mi
namespace G
open PySem L2 Mi
theorem XG {f:Fn}{ws:List W}(hl:ws.length<=1000)(hf:∀w∈ws,f [w,w] []=.ok (.bl true) []):zY 2 (gx f) [.tup ws,.tup ws] []=.ok (.bl true) []:=by
 refine jd ?_
 unfold gx
 have el:mQ qa (zM (zc 0)) [some (.tup ws),some (.tup ws)] []=.ok (.int ws.length) []:=yn (yM (w:=.tup ws) (A1:=[]) (zu rfl) rfl)
 have el':mQ qa (zM (zc 1)) [some (.tup ws),some (.tup ws)] []=.ok (.int ws.length) []:=yn (yM (w:=.tup ws) (A1:=[]) (zu rfl) rfl)
 refine qD ((wz (A1:=[]) rfl).trans ?_)
 refine (zD (ρ1:=[some (.tup ws),some (.tup ws)]) (A1:=[]) ((yz (A1:=[]) ((VX (A1:=[]) rfl).trans rfl)).trans rfl)).trans ?_
 refine (zD (ρ1:=[some (.tup ws),some (.tup ws)]) (A1:=[]) ((yz (A1:=[]) ((zO el el').trans ((Uo _ _ _).trans (by rw [decide_eq_true rfl];rfl)))).trans rfl)).trans (qD (ji ?_))
 have ec:=Mf (A:=[]) (cap:=[]) (ρ:=[some (.tup ws),some (.tup ws)]) (me:=zx f (zh (zc 0) (zh (zc 1) (zo)))) (N:=ws.length) (u:=λ i=>ws.getD i .non) (v:=λ i=>ws.getD i .non) (g:=λ _=>.bl true) (Ia (zu (i:=0) rfl) (zu (i:=1) rfl)) rfl hl
  (λ i hi=>by show some (zip2 ws[i]? ws[i]?)=_;rw [List.getD_eq_getElem?_getD,List.getElem?_eq_getElem hi];rfl) (by show some (zip2 ws[ws.length]? ws[ws.length]?)=_;rw [List.getElem?_eq_none (Nat.le_refl _)];rfl)
  (λ i hi=>by
   have e:ws.getD i .non=ws[i]:=by rw [List.getD_eq_getElem?_getD,List.getElem?_eq_getElem hi];rfl
   rw [e]
   exact (zR (ws:=[ws[i],ws[i]]) (A1:=[]) rfl).trans (hf _ (List.getElem_mem hi)))
 exact (yn ec).trans (JX (p:=λ _=>true) λ _ _=>rfl)
theorem same_int {f:Fn}(v:Int):zY 2 (gx f) [.int v,.int v] []=.ok (.bl true) []:=by
 refine jd ?_
 unfold gx
 refine (zD (ρ1:=[some (.int v),some (.int v)]) (A1:=[]) ((yz (A1:=[]) rfl).trans rfl)).trans (qD (ji ?_))
 exact (Jd (A1:=[]) ((zO (zu (i:=0) rfl) (zu (i:=1) rfl)).trans ((Yv _ _ _).trans (by rw [decide_eq_true rfl])))).trans rfl
theorem CY (v:Int)(A:Hx):G2 [.int v,.int v] A=.ok (.bl true) A:=yO rfl rfl (same_int v)
theorem Mh {a:Ea}{xs ys:List W}{A:Hx}{r:Nat}{u e:Option W}(hA:A[r]? =some (.lst xs))(ha:a [u,e,none,some (.ref r)] A=.ok ys A)(hl:xs.length+ys.length<=100):
  zK 3 (zl qb (zc 3) (zX a)) [u,e,none,some (.ref r)] A=.ok (.nx [u,e,none,some (.ref (A.length+1))]) (A++[.lst ys]++[.lst (xs++ys)]):=by
 refine (qM ((zO (zu (i:=3) rfl) (yF ha)).trans (XA (jD hA) jq (by unfold zP;omega)))).trans ?_
 rw [List.length_append,List.length_singleton]
 rfl
theorem JT {a:Ea}{xs ys zs:List W}{A L:Hx}{j:Nat}{u e:Option W}(hL:L[j]? =some (.lst xs))(ha:∀m A,a [u,e,none,m] A=.ok ys A)(hl:xs.length+ys.length<=100)(hz:xs++ys=zs):
  zK 3 (zl qb (zc 3) (zX a)) [u,e,none,some (.ref (A.length+j))] (A++L)=.ok (.nx [u,e,none,some (.ref (A.length+(L.length+1)))]) (A++(L++[.lst ys,.lst zs])):=by
 have hA:(A++L)[A.length+j]? =some (.lst xs):=by rw [List.getElem?_append_right (by omega),show A.length+j - A.length=j by omega];exact hL
 rw [Mh hA (ha _ _) hl,hz,List.length_append,List.append_assoc,List.append_assoc,Nat.add_assoc]
 rfl
noncomputable def zQ (i a n:Nat):List W:=(List.range' a n).map λ k=>W.bl (decide (k=i))
noncomputable def GX (i:Nat):Hx:=[.lst (zQ i 0 3),.lst (zQ i 3 3),.lst (zQ i 0 6),.lst (zQ i 6 3),.lst (zQ i 0 9),.lst (zQ i 9 3),.lst (zQ i 0 12),.lst (zQ i 12 3),.lst (zQ i 0 15),.lst (zQ i 15 3),.lst (zQ i 0 18),.lst [.int i]]
noncomputable def gG (x:Str):Option Nat:=if x = "NoTable" then some 0 else if x = "TooMany" then some 11 else none
theorem Ij {x:Str}{i:Nat}(hx:gG x=some i)(u:W)(A:Hx):W9 [some u,some (.xc x),none,none] A=.ok (.rt (.ref (A.length+11))) (A++GX i):=by
 have two:(x = "NoTable" /\ i=0)∨(x = "TooMany" /\ i=11):=by
  unfold gG at hx
  by_cases h:x = "NoTable"
  ·rw [if_pos h] at hx;cases hx;exact .inl ⟨h,rfl⟩
  ·rw [if_neg h] at hx
   by_cases h':x = "TooMany"
   ·rw [if_pos h'] at hx;cases hx;exact .inr ⟨h',rfl⟩
   ·rw [if_neg h'] at hx;cases hx
 unfold W9
 have a0:∀(m:Option W) (A:Hx),(zh (qC (qK zN "NoTable") (zc 1)) (zh (qC (qK zN "NotSteady") (zc 1)) (zh (qC (qK zN "NoPlace") (zc 1)) (zo)))) [some u,some (.xc x),none,m] A=.ok (zQ i 0 3) A:=λ m A=>by
  rcases two with ⟨rfl,rfl⟩ | ⟨rfl,rfl⟩<;>kernel_rfl
 have a1:∀(m:Option W) (A:Hx),(zh (qC (qK zN "NoKind") (zc 1)) (zh (qC (qK zN "NoMix") (zc 1)) (zh (qC (qK zN "NoNumber") (zc 1)) (zo)))) [some u,some (.xc x),none,m] A=.ok (zQ i 3 3) A:=λ m A=>by
  rcases two with ⟨rfl,rfl⟩ | ⟨rfl,rfl⟩<;>kernel_rfl
 have a2:∀(m:Option W) (A:Hx),(zh (qC (qK zN "NoLot") (zc 1)) (zh (qC (qK zN "NoKinds") (zc 1)) (zh (qC (qK zN "NoPaper") (zc 1)) (zo)))) [some u,some (.xc x),none,m] A=.ok (zQ i 6 3) A:=λ m A=>by
  rcases two with ⟨rfl,rfl⟩ | ⟨rfl,rfl⟩<;>kernel_rfl
 have a3:∀(m:Option W) (A:Hx),(zh (qC (qK zN "NoParting") (zc 1)) (zh (qC (qK zN "NoClosed") (zc 1)) (zh (qC (qK zN "TooMany") (zc 1)) (zo)))) [some u,some (.xc x),none,m] A=.ok (zQ i 9 3) A:=λ m A=>by
  rcases two with ⟨rfl,rfl⟩ | ⟨rfl,rfl⟩<;>kernel_rfl
 have a4:∀(m:Option W) (A:Hx),(zh (qC (qK zN "NoText") (zc 1)) (zh (qC (qK zN "NoLine") (zc 1)) (zh (qC (qK zN "NoDeed") (zc 1)) (zo)))) [some u,some (.xc x),none,m] A=.ok (zQ i 12 3) A:=λ m A=>by
  rcases two with ⟨rfl,rfl⟩ | ⟨rfl,rfl⟩<;>kernel_rfl
 have a5:∀(m:Option W) (A:Hx),(zh (qC (qK zN "NoWeights") (zc 1)) (zh (qC (qK zN "NotWhole") (zc 1)) (zh (qC (qK zN "NoNumbers") (zc 1)) (zo)))) [some u,some (.xc x),none,m] A=.ok (zQ i 15 3) A:=λ m A=>by
  rcases two with ⟨rfl,rfl⟩ | ⟨rfl,rfl⟩<;>kernel_rfl
 have ap:∀n,zQ i 0 n++zQ i n 3=zQ i 0 (n+3):=λ n=>by
  unfold zQ
  rw [<- List.map_append]
  congr 1
  have:=List.range'_append_1 (s:=0) (m:=n) (n:=3)
  rw [Nat.zero_add] at this
  exact this
 have e0:zK 3 (zX (zh (qC (qK zN "NoTable") (zc 1)) (zh (qC (qK zN "NotSteady") (zc 1)) (zh (qC (qK zN "NoPlace") (zc 1)) (zo))))) [some u,some (.xc x),none,none] A=.ok (.nx [some u,some (.xc x),none,some (.ref (A.length+0))]) (A++[.lst (zQ i 0 3)]):=(qM (yF (a0 _ A))).trans rfl
 refine (zD e0).trans ?_
 refine (zD (JT (A:=A) (L:=[.lst (zQ i 0 3)]) (j:=0) (xs:=zQ i 0 3) (ys:=zQ i 3 3) (zs:=zQ i 0 6) rfl a1 (by simp [zQ]) (ap 3))).trans ?_
 refine (zD (JT (A:=A) (L:=[.lst (zQ i 0 3),.lst (zQ i 3 3),.lst (zQ i 0 6)]) (j:=2) (xs:=zQ i 0 6) (ys:=zQ i 6 3) (zs:=zQ i 0 9) rfl a2 (by simp [zQ]) (ap 6))).trans ?_
 refine (zD (JT (A:=A) (L:=[.lst (zQ i 0 3),.lst (zQ i 3 3),.lst (zQ i 0 6),.lst (zQ i 6 3),.lst (zQ i 0 9)]) (j:=4) (xs:=zQ i 0 9) (ys:=zQ i 9 3) (zs:=zQ i 0 12) rfl a3 (by simp [zQ]) (ap 9))).trans ?_
 refine (zD (JT (A:=A) (L:=[.lst (zQ i 0 3),.lst (zQ i 3 3),.lst (zQ i 0 6),.lst (zQ i 6 3),.lst (zQ i 0 9),.lst (zQ i 9 3),.lst (zQ i 0 12)]) (j:=6) (xs:=zQ i 0 12) (ys:=zQ i 12 3) (zs:=zQ i 0 15) rfl a4 (by simp [zQ]) (ap 12))).trans ?_
 refine (zD (JT (A:=A) (L:=[.lst (zQ i 0 3),.lst (zQ i 3 3),.lst (zQ i 0 6),.lst (zQ i 6 3),.lst (zQ i 0 9),.lst (zQ i 9 3),.lst (zQ i 0 12),.lst (zQ i 12 3),.lst (zQ i 0 15)]) (j:=8) (xs:=zQ i 0 15) (ys:=zQ i 15 3) (zs:=zQ i 0 18) rfl a5 (by simp [zQ]) (ap 15))).trans ?_
 generalize hB:A++([.lst (zQ i 0 3),.lst (zQ i 3 3),.lst (zQ i 0 6),.lst (zQ i 6 3),.lst (zQ i 0 9),.lst (zQ i 9 3),.lst (zQ i 0 12),.lst (zQ i 12 3),.lst (zQ i 0 15)]++[.lst (zQ i 15 3),.lst (zQ i 0 18)])=B
 have hl:B.length=A.length+11:=by rw [<- hB];simp
 have hm:B[A.length+10]? =some (.lst (zQ i 0 18)):=by rw [<- hB,List.getElem?_append_right (by omega),show A.length+10 - A.length=10 by omega];rfl
 refine (zD (ρ1:=[some u,some (.xc x),none,some (.ref (A.length+10))]) (A1:=B) ((yz (A1:=B) (ZT (k:=true) ?_)).trans rfl)).trans (qD (ji ?_))
 ·rcases two with ⟨rfl,rfl⟩ | ⟨rfl,rfl⟩<;>kernel_rfl
 have ec:=Xj (cap:=[3]) (mi:=jl (zi (.int 18))) (j:=jY 0 18) (ifs:=zl zI (zc 1) (zc 0)) (me:=zc 0) (ρ:=[some u,some (.xc x),none,some (.ref (A.length+10))]) (A:=B) (N:=18) (item:=λ k=>.int (0+(k:Int))) (g:=λ k=>.int (0+(k:Int))) (keep:=λ k=>decide (k=i)) rfl rfl (by unfold zP;omega) (λ k hk=>gH hk) (gD (by omega))
  (λ k hk=>by
   refine (zO (zu (i:=1) (w:=.ref (A.length+10)) rfl) (zu (i:=0) (w:=.int (0+(k:Int))) rfl)).trans ?_
   rw [Int.zero_add]
   refine ZU hm ?_
   unfold zQ
   rw [List.getElem?_map,List.getElem?_range' (by omega)]
   simp) (λ k hk _=>rfl)
 rw [gA ec,hl]
 have hf:((List.range 18).filter λ k=>decide (k=i)).map (λ k:Nat=>W.int (0+(k:Int)))=[.int i]:=by
  rcases two with ⟨rfl,rfl⟩ | ⟨rfl,rfl⟩<;>rfl
 rw [hf,<- hB,List.append_assoc]
 rfl
end G
namespace Mi
open PySem L2
theorem TX {j:jv}{tw:Tg}{ifs:Ev}{em:Em}{N:Nat}{I:Nat->En->List W->Hx->Prop}
  (hstep:∀i ρ acc A,i<N->I i ρ acc A->∃w ρ1,j.at_ A i=some (some w)/\tw w ρ=some ρ1/\((∃A1 ρ2 acc2 A2,ifs ρ1 A=.ok (.bl true) A1/\em ρ1 acc A1=.ok (ρ2,acc2) A2/\I (i+1) ρ2 acc2 A2)∨(∃A1,ifs ρ1 A=.ok (.bl false) A1/\I (i+1) ρ1 acc A1)))
  (hend:∀ρ acc A,I N ρ acc A->j.at_ A N=some none):
  ∀(f i:Nat) (ρ:En) (acc:List W) (A:Hx),i+f=N->I i ρ acc A->∃ρ' acc' A',qt j tw ifs em f i ρ acc A=.ok (ρ',acc') A'/\I N ρ' acc' A':=by
 intro f
 induction f with
 | zero=>
  intro i ρ acc A h hI
  have:i=N:=by omega
  subst this
  refine ⟨ρ,acc,A,?_,hI⟩
  unfold qt
  rw [hend _ _ _ hI]
 | succ f ih=>
  intro i ρ acc A h hI
  obtain ⟨w,ρ1,h1,h2,h3⟩:=hstep i ρ acc A (by omega) hI
  rw [qt,h1]
  dsimp only
  rw [h2]
  dsimp only
  rcases h3 with ⟨A1,ρ2,acc2,A2,e1,e2,e3⟩ | ⟨A1,e1,e3⟩
  ·rw [e1,zB]
   dsimp only
   rw [e2,zB]
   exact ih (i+1) _ _ _ (by omega) e3
  ·rw [e1,zB]
   dsimp only
   exact ih (i+1) _ _ _ (by omega) e3
theorem QL {nl:Nat}{cap:List Nat}{mi:Ei}{ρ:En}{A A1:Hx}{j:jv}{tw:Tg}{ifs:Ev}{em:Em}{N:Nat}{I:Nat->En->List W->Hx->Prop}(hm:mi ρ A=.ok j A1)(hj:j.len=N)
  (hstep:∀i ρ acc A,i<N->I i ρ acc A->∃w ρ1,j.at_ A i=some (some w)/\tw w ρ=some ρ1/\((∃A1 ρ2 acc2 A2,ifs ρ1 A=.ok (.bl true) A1/\em ρ1 acc A1=.ok (ρ2,acc2) A2/\I (i+1) ρ2 acc2 A2)∨(∃A1,ifs ρ1 A=.ok (.bl false) A1/\I (i+1) ρ1 acc A1)))
  (hend:∀ρ acc A,I N ρ acc A->j.at_ A N=some none)(h0:I 0 (gL nl cap ρ) [] A1):∃ρ' acc' A',zW nl cap mi tw ifs em ρ A=.ok acc' A'/\I N ρ' acc' A':=by
 obtain ⟨ρ',acc',A',e,hI⟩:=TX hstep hend N 0 _ _ _ (by omega) h0
 refine ⟨ρ',acc',A',?_,hI⟩
 unfold zW
 rw [hm,zB,hj,e]
 rfl
theorem QN {j:jv}{st:W->Ex}{N:Nat}{I:Nat->En->Hx->Prop}
  (hstep:∀i ρ A,i<N->I i ρ A->∃w ρ1 A1,j.at_ A i=some (some w)/\st w ρ A=.ok (.nx ρ1) A1/\I (i+1) ρ1 A1)(hend:∀ρ A,I N ρ A->j.at_ A N=some none):
  ∀(f i:Nat) (ρ:En) (A:Hx),i+f=N->I i ρ A->∃ρ' A',jN j st f i ρ A=.ok (.nx ρ') A'/\I N ρ' A':=by
 intro f
 induction f with
 | zero=>
  intro i ρ A h hI
  have:i=N:=by omega
  subst this
  exact ⟨ρ,A,QP (hend _ _ hI),hI⟩
 | succ f ih=>
  intro i ρ A h hI
  obtain ⟨w,ρ1,A1,h1,h2,h3⟩:=hstep i ρ A (by omega) hI
  rw [QV h1 h2]
  exact ih (i+1) _ _ (by omega) h3
theorem QU {me:Ev}{ρ:En}{acc:List W}{A A1:Hx}{y:W}(h:me ρ A=.ok y A1)(hl:acc.length<zP):zJ me ρ acc A=.ok (ρ,acc++[y]) A1:=by
 unfold zJ
 rw [h,zB,if_pos hl]
theorem take_succ {α:Type}{l:List α}{i:Nat}(h:i<l.length):l.take (i+1)=l.take i++[l[i]]:=by
 rw [List.take_succ,List.getElem?_eq_getElem h];rfl
theorem Ext.set {A B:Hx}{n:Nat}{o:O}(x:Ext A B)(h:A.length<=n):Ext A (B.set n o):=by
 obtain ⟨l,rfl⟩:=x
 exact ⟨l.set (n - A.length) o,by rw [List.set_append_right _ _ h]⟩
theorem Ext.app {A B:Hx}{l:Hx}(x:Ext A B):Ext A (B++l):=x.trans ⟨l,rfl⟩
theorem Ext.len {A B:Hx}(x:Ext A B):A.length<=B.length:=by obtain ⟨l,rfl⟩:=x;simp
theorem yV {A:Hx}{n:Nat}{o:O}(h:A[n]? =some o):n<A.length:=(List.getElem?_eq_some_iff.mp h).1
noncomputable def zT (o:List Nat):W:=.tup (o.map λ (a:Nat)=>W.int (a:Int))
noncomputable def wZ (n:Nat)(o:List Nat):List (List Nat):=((List.range n).filter λ p=>decide (p∉o)).map λ p=>o++[p]
noncomputable def kH (n:Nat)(os:List (List Nat)):List (List Nat):=(os.map (wZ n)).flatten
noncomputable def qU (n:Nat):Nat->List (List Nat)
 | 0=>[[]]
 | k+1=>kH n (qU n k)
noncomputable def orders (n:Nat):List (List Nat):=qU n n
theorem Sf (n:Nat)(o:List Nat):(wZ n o).length<=n:=by
 unfold wZ
 rw [List.length_map]
 exact Nat.le_trans (List.length_filter_le _ _) (by rw [List.length_range];exact Nat.le_refl _)
theorem Kd (n:Nat):∀os:List (List Nat),(kH n os).length<=os.length * n
 | []=>by simp [kH]
 | o::os=>by
  have h:=Kd n os
  have h2:=Sf n o
  unfold kH at h ⊢
  rw [List.map_cons,List.flatten_cons,List.length_append,List.length_cons,Nat.succ_mul]
  omega
theorem UT (n:Nat)(os:List (List Nat))(o:List Nat):kH n (os++[o])=kH n os++wZ n o:=by
 unfold kH
 rw [List.map_append,List.flatten_append]
 simp
theorem XH (n:Nat):∀k,(qU n k).length<=n ^ k
 | 0=>by simp [qU]
 | k+1=>by
  have h:=Kd n (qU n k)
  have h2:=Nat.mul_le_mul_right n (XH n k)
  rw [Nat.pow_succ]
  exact Nat.le_trans h h2
theorem MO {n k:Nat}(h:n<=6)(hk:k<=n):(qU n k).length<=46656:=by
 refine Nat.le_trans (XH n k) (Nat.le_trans (Nat.pow_le_pow_left h k) ?_)
 exact Nat.le_trans (Nat.pow_le_pow_right (by omega) (Nat.le_trans hk h)) (by decide)
theorem XI {n:Nat}:∀{k:Nat} {o:List Nat},o∈qU n k->o.length=k/\∀a∈o,a<n
 | 0,o,h=>by
  rw [List.mem_singleton.mp h]
  exact ⟨rfl,λ a ha=>by cases ha⟩
 | k+1,o,h=>by
  obtain ⟨l,hl,h⟩:=List.mem_flatten.mp h
  obtain ⟨o',ho',rfl⟩:=List.mem_map.mp hl
  obtain ⟨p,hp,rfl⟩:=List.mem_map.mp h
  obtain ⟨h1,h2⟩:=XI ho'
  have hp':=List.mem_range.mp (List.mem_filter.mp hp).1
  refine ⟨by rw [List.length_append,h1];rfl,λ a ha=>?_⟩
  rcases List.mem_append.mp ha with ha | ha
  ·exact h2 a ha
  ·rw [List.mem_singleton.mp ha];exact hp'
theorem QK {n:Nat}{o:List Nat}(h:o∈orders n):o.length=n/\∀a∈o,a<n:=XI h
theorem Xn {n:Nat}(h:n<=6):(orders n).length<=46656:=MO h (Nat.le_refl _)
theorem JY (o:List Nat):(zT o).nr=true:=by
 show qT (o.map λ (a:Nat)=>W.int (a:Int))=true
 exact Q2 (λ _=>rfl) _
theorem Tq (o:List Nat)(p:Nat)(A:Hx):kr (.int (0+(p:Int))) (zT o) A=.ok (.bl (decide (p∉o))) A:=by
 show gT true _ _ A=_
 unfold gT zT
 have hf:((o.map λ (a:Nat)=>W.int (a:Int)).all kx)=true:=by rw [List.all_map];exact List.all_eq_true.mpr λ _ _=>rfl
 show (if (kx (.int (0+(p:Int)))&&((o.map λ (a:Nat)=>W.int (a:Int)).all kx))=true then _ else _)=_
 rw [hf]
 have:Z8 (.int (0+(p:Int))) (o.map λ (a:Nat)=>W.int (a:Int))=decide (p∈o):=by
  unfold Z8
  rw [List.any_map]
  induction o with
  | nil=>simp
  | cons a o ih=>
   rw [List.any_cons,ih (by rw [List.all_map];exact List.all_eq_true.mpr λ _ _=>rfl)]
   have:((λ y=>Ua y (.int (0+(p:Int)))) ∘ λ (a:Nat)=>W.int (a:Int)) a=decide (p=a):=by
    show ((a:Int)==0+(p:Int))=_
    rw [Int.zero_add]
    rw [Bool.eq_iff_iff]
    simp
    omega
   rw [this]
   by_cases h:p=a<;>simp [h]
 rw [this]
 show R.ok (W.bl (!decide (p∈o))) A=_
 congr 2
 by_cases h:p∈o<;>simp [h]
theorem RL {o:List Nat}{p:Nat}{A:Hx}(h:o.length<=10):qb (zT o) (.tup [.int (0+(p:Int))]) A=.ok (zT (o++[p])) A:=by
 unfold zT qb
 dsimp only
 rw [if_pos (by unfold zP;simp;omega),Int.zero_add,List.map_append]
 rfl
end Mi
namespace G
open PySem L2 Mi
theorem S6 {f:Fn}{us ws:List W}{A A1:Hx}{k:Nat}(hn:qT us=true)(h:f us []=.ok (.ref k) A1)(hk:A1[k]? =some (.lst ws))(hw:qT ws=true):iso f us A=.ok (.ref A.length) (A++[.lst ws]):=by
 unfold iso
 rw [if_pos hn,h]
 dsimp only
 rw [hk]
 dsimp only
 rw [if_pos hw]
theorem Q9 {n i:Nat}{A:Hx}{ws:List W}{w:W}(hA:A[n]? =some (.lst ws))(h:ws[i]? =some w):((zE (.ref n) A).map λ ws=>ws[i]?)=some (some w):=by
 rw [Jf hA,h]
theorem Jk {n i:Nat}{A:Hx}{ws:List W}(hA:A[n]? =some (.lst ws))(h:ws.length<=i):((zE (.ref n) A).map λ ws=>ws[i]?)=some none:=by
 rw [Jf hA,List.getElem?_eq_none h]
theorem ET {n:Nat}{o:List Nat}{A:Hx}{acc:List W}(hn:n<=6)(ho:o.length<=10)(hl:acc.length+n<=zP)(y:Option W):
  ∃z,wA (jl (zc 2)) (zA 1) (zl kr (zc 1) (zc 0)) (zJ (zl qb (zc 0) (zS (zh (zc 1) (zo))))) [some (zT o),y,some (.int (n:Int))] acc A=.ok ([some (zT o),z,some (.int (n:Int))],acc++(wZ n o).map zT) A:=by
 have hm:jl (zc 2) [some (zT o),y,some (.int (n:Int))] A=.ok (jY 0 n) A:=by
  have:=ZN (m:=zc 2) (ρ:=[some (zT o),y,some (.int (n:Int))]) (A:=A) (k:=(n:Int)) rfl (wR (by omega))
  rw [Int.toNat_natCast] at this
  exact this
 obtain ⟨ρ',acc',A',e,hI⟩:=TX (j:=jY 0 n) (tw:=zA 1) (ifs:=zl kr (zc 1) (zc 0)) (em:=zJ (zl qb (zc 0) (zS (zh (zc 1) (zo))))) (N:=n)
  (I:=λ i ρ a A'=>A=A'/\(∃z,ρ=[some (zT o),z,some (.int (n:Int))])/\a=acc++(((List.range i).filter λ p=>decide (p∉o)).map λ p=>zT (o++[p])))
  (λ i ρ a A' hi ⟨h1,⟨z,h2⟩,h3⟩=>by
   subst h1 h2 h3
   refine ⟨_,_,gH hi,rfl,?_⟩
   have ec:zl kr (zc 1) (zc 0) [some (zT o),some (.int (0+(i:Int))),some (.int (n:Int))] A=.ok (.bl (decide (i∉o))) A:=(zO (zu (i:=1) rfl) (zu (i:=0) rfl)).trans (Tq _ _ _)
   by_cases hp:i∈o
   ·refine .inr ⟨A,ec.trans (by simp [hp]),rfl,⟨_,rfl⟩,?_⟩
    rw [List.range_succ,List.filter_append]
    simp [hp]
   ·refine .inl ⟨A,_,_,A,ec.trans (by simp [hp]),QU ((zO (zu (i:=0) rfl) (KN (qm (zu (i:=1) rfl) jh))).trans (RL ho)) ?_,rfl,⟨_,rfl⟩,?_⟩
    ·rw [List.length_append,List.length_map]
     have:=List.length_filter_le (λ p=>decide (p∉o)) (List.range i)
     rw [List.length_range] at this
     omega
    ·rw [List.range_succ,List.filter_append]
     simp [hp])
  (λ ρ a A' h=>by obtain ⟨rfl,_,_⟩:=h;exact gD (by omega)) n 0 [some (zT o),y,some (.int (n:Int))] acc A (by omega) ⟨rfl,⟨y,rfl⟩,by simp⟩
 obtain ⟨h1,⟨z,h2⟩,h3⟩:=hI
 refine ⟨z,?_⟩
 unfold wA
 rw [hm,zB]
 show qt (jY 0 n) _ _ _ n 0 _ _ _=_
 rw [e,<- h1,h2,h3]
 unfold wZ
 rw [List.map_map]
 rfl
theorem IQ {n r:Nat}{os:List (List Nat)}{ρ:En}{A:Hx}(hn:n<=6)(h0:ρ[0]? =some (some (.int (n:Int))))(h1:ρ[1]? =some (some (.ref r)))(hA:A[r]? =some (.lst (os.map zT)))(ho:∀o∈os,o.length<=10)(hl:os.length * n<=46656):
  zW 2 [0] (qd (zc 1)) (zA 0) (zi (.bl true)) (wA (jl (zc 2)) (zA 1) (zl kr (zc 1) (zc 0)) (zJ (zl qb (zc 0) (zS (zh (zc 1) (zo)))))) ρ A=.ok ((kH n os).map zT) A:=by
 obtain ⟨ρ',acc',A',e,hI⟩:=QL (nl:=2) (cap:=[0]) (tw:=zA 0) (ifs:=zi (.bl true)) (em:=wA (jl (zc 2)) (zA 1) (zl kr (zc 1) (zc 0)) (zJ (zl qb (zc 0) (zS (zh (zc 1) (zo))))))
  (I:=λ i ρ' a A'=>A=A'/\(∃x z,ρ'=[x,z,some (.int (n:Int))])/\a=(kH n (os.take i)).map zT) (ZR (zu h1) hA) (N:=os.length) (by simp)
  (λ i ρ' a A' hi ⟨g1,⟨x,z,g2⟩,g3⟩=>by
   subst g1 g2 g3
   obtain ⟨z',e⟩:=ET (A:=A) (acc:=(kH n (os.take i)).map zT) hn (ho os[i] (List.getElem_mem hi)) (by
    rw [List.length_map]
    have:=Kd n (os.take i)
    rw [List.length_take,Nat.min_eq_left (Nat.le_of_lt hi)] at this
    have h2:(i+1) * n<=os.length * n:=Nat.mul_le_mul_right n hi
    rw [Nat.succ_mul] at h2
    unfold zP
    omega) z
   refine ⟨zT os[i],[some (zT os[i]),z,some (.int (n:Int))],Q9 hA (by rw [List.getElem?_map,List.getElem?_eq_getElem hi];rfl),rfl,.inl ⟨A,_,_,A,rfl,e,rfl,⟨_,_,rfl⟩,?_⟩⟩
   rw [take_succ hi,UT,List.map_append])
  (λ ρ' a A' h=>by obtain ⟨rfl,_,_⟩:=h;exact Jk hA (by simp)) ⟨rfl,⟨none,none,by
   show (none::none::[(ρ[0]?).join])=_
   rw [h0];rfl⟩,by simp [kH]⟩
 obtain ⟨h1,_,h3⟩:=hI
 rw [e,<- h1,h3,List.take_of_length_le (Nat.le_refl _)]
theorem TB {n k:Nat}(hn:n<=6)(hk:k<n):(qU n k).length * n<=46656:=by
 have h:=Nat.mul_le_mul_right n (XH n k)
 rw [<- Nat.pow_succ] at h
 refine Nat.le_trans h (Nat.le_trans (Nat.pow_le_pow_left hn _) ?_)
 exact Nat.le_trans (Nat.pow_le_pow_right (by omega) (Nat.le_trans hk hn)) (by decide)
theorem RT {n k:Nat}(hn:n<=6)(hk:k<=n):∀o∈qU n k,o.length<=10:=λ o h=>by rw [(XI h).1];omega
theorem UJ {n:Nat}(hn:n<=6)(A:Hx):kX [.int (n:Int)] A=.ok (.ref A.length) (A++[.lst ((orders n).map zT)]):=by
 unfold kX UD
 suffices h:∃k A1,zY 3 YZ [.int (n:Int)] []=.ok (.ref k) A1/\A1[k]? =some (.lst ((orders n).map zT)) by
  obtain ⟨k,A1,h1,h2⟩:=h
  exact S6 rfl h1 h2 (Q2 JY _)
 obtain ⟨ρ',A',e,r,y,hρ,hA⟩:=QN (j:=jY 0 n) (st:=turn (zA 2) (zp (zK 1 (qO (zW 2 [0] (qd (zc 1)) (zA 0) (zi (.bl true)) (wA (jl (zc 2)) (zA 1) (zl kr (zc 1) (zc 0)) (zJ (zl qb (zc 0) (zS (zh (zc 1) (zo))))))))) (zw))) (N:=n)
  (I:=λ i ρ A=>∃r y,ρ=[some (.int (n:Int)),some (.ref r),y]/\A[r]? =some (.lst ((qU n i).map zT)))
  (λ i ρ A hi ⟨r,y,h1,h2⟩=>by
   subst h1
   refine ⟨_,_,_,gH hi,(kZ (ρ1:=[some (.int (n:Int)),some (.ref r),some (.int (0+(i:Int)))]) rfl).trans ((zD (qM (gA (IQ hn rfl rfl h2 (RT hn (Nat.le_of_lt hi)) (TB hn hi))))).trans gE),?_⟩
   exact ⟨_,_,rfl,jq⟩)
  (λ ρ A _=>gD (by omega)) n 0 [some (.int (n:Int)),some (.ref 0),none] [.lst [.tup []]] (by omega) ⟨0,none,rfl,rfl⟩
 refine ⟨r,A',jd ?_,hA⟩
 unfold YZ
 refine (zD (ρ1:=[some (.int (n:Int)),some (.ref 0),none]) (A1:=[.lst [.tup []]]) rfl).trans ?_
 have hm:=ZN (m:=zc 0) (ρ:=[some (.int (n:Int)),some (.ref 0),none]) (A:=[.lst [.tup []]]) (k:=(n:Int)) rfl (wR (by omega))
 rw [Int.toNat_natCast] at hm
 refine (zD (ρ1:=ρ') (A1:=A') ((wq hm).trans e)).trans (qD (ji (zu ?_)))
 rw [hρ];rfl
theorem NI {n:Nat}(hn:n<=6)(A:Hx):ZJ [.int (n:Int)] A=.ok (.ref A.length) (A++[.lst ((orders n).map zT)]):=by
 unfold ZJ UI
 suffices h:∃k A1,zY 5 Y0 [.int (n:Int)] []=.ok (.ref k) A1/\A1[k]? =some (.lst ((orders n).map zT)) by
  obtain ⟨k,A1,h1,h2⟩:=h
  exact S6 rfl h1 h2 (Q2 JY _)
 have inner:∀(i:Nat) (r:Nat) (x y u:Option W) (A:Hx),i<n->A[r]? =some (.lst ((qU n i).map zT))->∃u' A',zp (zK 3 (zX (zo))) (zp (jE (qd (zc 1)) (zA 4) (zp (qQ (qx wU (zc 3) (qO (zW 1 [4] (jl (zc 0)) (zA 0) (zl kr (zc 0) (zc 1)) (zJ (zl qb (zc 1) (zS (zh (zc 0) (zo))))))))) (zw))) (zp (zK 1 (zc 3)) (zw)))
   [some (.int (n:Int)),some (.ref r),x,y,u] A=.ok (.nx [some (.int (n:Int)),some (.ref A.length),x,some (.ref A.length),u']) A'/\A'[A.length]? =some (.lst ((qU n (i+1)).map zT)):=by
  intro i r x y u A hi hA
  have hr:=yV hA
  obtain ⟨ρ',A',e,u',h1,h2,h3⟩:=QN (j:=⟨λ A i=>(zE (.ref r) A).map λ ws=>ws[i]?,(qU n i).length⟩) (st:=turn (zA 4) (zp (qQ (qx wU (zc 3) (qO (zW 1 [4] (jl (zc 0)) (zA 0) (zl kr (zc 0) (zc 1)) (zJ (zl qb (zc 1) (zS (zh (zc 0) (zo))))))))) (zw))) (N:=(qU n i).length)
   (I:=λ t ρ B=>∃u,ρ=[some (.int (n:Int)),some (.ref r),x,some (.ref A.length),u]/\B[r]? =some (.lst ((qU n i).map zT))/\B[A.length]? =some (.lst ((kH n ((qU n i).take t)).map zT)))
   (λ t ρ B ht ⟨u,g1,g2,g3⟩=>by
    subst g1
    have ho:=RT hn (Nat.le_of_lt hi) _ (List.getElem_mem ht)
    have hm:=ZN (m:=zc 0) (ρ:=[some (.int (n:Int)),some (.ref r),x,some (.ref A.length),some (zT (qU n i)[t])]) (A:=B) (k:=(n:Int)) rfl (wR (by omega))
    rw [Int.toNat_natCast] at hm
    have ec:=Xj (cap:=[4]) (ρ:=[some (.int (n:Int)),some (.ref r),x,some (.ref A.length),some (zT (qU n i)[t])]) (A:=B) (ifs:=zl kr (zc 0) (zc 1)) (me:=zl qb (zc 1) (zS (zh (zc 0) (zo)))) (N:=n) (item:=λ p=>.int (0+(p:Int))) (g:=λ p=>zT ((qU n i)[t]++[p])) (keep:=λ p=>decide (p∉(qU n i)[t])) hm rfl (by unfold zP;omega) (λ p hp=>gH hp) (gD (by omega))
     (λ p hp=>(zO (zu (i:=0) rfl) (zu (i:=1) rfl)).trans (Tq _ _ _)) (λ p hp _=>(zO (zu (i:=1) rfl) (KN (qm (zu (i:=0) rfl) jh))).trans (RL ho))
    have el:=gA ec
    have hsl:(kH n ((qU n i).take t)).length+(wZ n (qU n i)[t]).length<=46656:=by
     have a1:=Kd n ((qU n i).take t)
     rw [List.length_take,Nat.min_eq_left (Nat.le_of_lt ht)] at a1
     have a2:(t+1) * n<=(qU n i).length * n:=Nat.mul_le_mul_right n ht
     rw [Nat.succ_mul] at a2
     have a3:=TB hn hi
     have a4:=Sf n (qU n i)[t]
     omega
    have ee:qx wU (zc 3) (qO (zW 1 [4] (jl (zc 0)) (zA 0) (zl kr (zc 0) (zc 1)) (zJ (zl qb (zc 1) (zS (zh (zc 0) (zo))))))) [some (.int (n:Int)),some (.ref r),x,some (.ref A.length),some (zT (qU n i)[t])] B=
      .ok .non ((B++[O.lst ((wZ n (qU n i)[t]).map zT)]).set A.length (O.lst ((kH n ((qU n i).take (t+1))).map zT))):=by
     unfold qx
     rw [zu (i:=3) (w:=.ref A.length) rfl,zB]
     have hl:kR (.ref A.length) B=true:=by unfold kR;dsimp only;rw [g3]
     rw [if_pos hl,el,zB]
     unfold wU
     dsimp only
     rw [jD g3,jq]
     dsimp only
     have:((List.range n).filter λ p=>decide (p∉(qU n i)[t])).map (λ p=>zT ((qU n i)[t]++[p]))=(wZ n (qU n i)[t]).map zT:=by unfold wZ;rw [List.map_map];rfl
     rw [this,if_pos (by rw [List.length_map,List.length_map];unfold zP;omega),take_succ ht,UT,List.map_append]
    refine ⟨_,_,_,Q9 g2 (by rw [List.getElem?_map,List.getElem?_eq_getElem ht];rfl),(kZ (ρ1:=[some (.int (n:Int)),some (.ref r),x,some (.ref A.length),some (zT (qU n i)[t])]) rfl).trans ((zD (yx ee)).trans gE),_,rfl,?_,?_⟩
    ·rw [List.getElem?_set_ne (by omega)];exact jD g2
    ·rw [List.getElem?_set_self (by have:=yV g3;simp;omega)])
   (λ ρ B ⟨u,g1,g2,g3⟩=>Jk g2 (by simp)) (qU n i).length 0 [some (.int (n:Int)),some (.ref r),x,some (.ref A.length),u] (A++[O.lst []]) (by omega) ⟨u,rfl,jD hA,jq⟩
  refine ⟨u',A',?_,?_⟩
  ·refine (zD (qM (yF jh))).trans ?_
   refine (zD ((wq (j:=⟨λ A i=>(zE (.ref r) A).map λ ws=>ws[i]?,(qU n i).length⟩) (A1:=A++[.lst []]) ?_).trans e)).trans ?_
   ·have:=ZR (m:=zc 1) (ρ:=[some (.int (n:Int)),some (.ref r),x,some (.ref A.length),u]) (zu rfl) (jD (u:=.lst []) hA)
    rw [List.length_map] at this
    exact this
   ·rw [h1]
    exact (zD (qM (zu rfl))).trans gE
  ·rw [h3,List.take_of_length_le (Nat.le_refl _)];rfl
 obtain ⟨ρ',A',e,r,x,y,u,hρ,hA⟩:=QN (j:=jY 0 n) (st:=turn (zA 2) (zp (zK 3 (zX (zo))) (zp (jE (qd (zc 1)) (zA 4) (zp (qQ (qx wU (zc 3) (qO (zW 1 [4] (jl (zc 0)) (zA 0) (zl kr (zc 0) (zc 1)) (zJ (zl qb (zc 1) (zS (zh (zc 0) (zo))))))))) (zw))) (zp (zK 1 (zc 3)) (zw))))) (N:=n)
  (I:=λ i ρ A=>∃r x y u,ρ=[some (.int (n:Int)),some (.ref r),x,y,u]/\A[r]? =some (.lst ((qU n i).map zT)))
  (λ i ρ A hi ⟨r,x,y,u,h1,h2⟩=>by
   subst h1
   obtain ⟨u',A',e,h3⟩:=inner i r (some (.int (0+(i:Int)))) y u A hi h2
   exact ⟨_,_,_,gH hi,(kZ (ρ1:=[some (.int (n:Int)),some (.ref r),some (.int (0+(i:Int))),y,u]) rfl).trans e,_,_,_,_,rfl,h3⟩)
  (λ ρ A _=>gD (by omega)) n 0 [some (.int (n:Int)),some (.ref 0),none,none,none] [.lst [.tup []]] (by omega) ⟨0,_,_,_,rfl,rfl⟩
 refine ⟨r,A',jd ?_,hA⟩
 unfold Y0
 refine (zD (ρ1:=[some (.int (n:Int)),some (.ref 0),none,none,none]) (A1:=[.lst [.tup []]]) rfl).trans ?_
 have hm:=ZN (m:=zc 0) (ρ:=[some (.int (n:Int)),some (.ref 0),none,none,none]) (A:=[.lst [.tup []]]) (k:=(n:Int)) rfl (wR (by omega))
 rw [Int.toNat_natCast] at hm
 refine (zD (ρ1:=ρ') (A1:=A') ((wq hm).trans e)).trans (qD (ji (zu ?_)))
 rw [hρ];rfl
end G
namespace Mi
open PySem L2
noncomputable def ym (ks:List Int)(v:Int):List Int:=if v∈ks then ks else ks++[v]
noncomputable def qV (ks vs:List Int):List Int:=vs.foldl ym ks
noncomputable def qP:List Int->Int->Nat
 | [],_=>0
 | k::ks,v=>if k=v then 0 else qP ks v+1
noncomputable def jQ:Nat->List Int->List (Key × W)
 | _,[]=>[]
 | s,k::ks=>(.inl k,.int (s:Int))::jQ (s+1) ks
theorem X0:∀(ks:List Int) (s:Nat),(jQ s ks).length=ks.length
 | [],_=>rfl
 | k::ks,s=>by rw [jQ,List.length_cons,X0 ks,List.length_cons]
theorem Rz (r:Int):∀(ks:List Int) (s:Nat),jQ s (ks++[r])=jQ s ks++[(.inl r,.int ((s+ks.length:Nat):Int))]
 | [],s=>rfl
 | k::ks,s=>by
  rw [List.cons_append,jQ,Rz r ks (s+1),jQ,List.cons_append,List.length_cons]
  congr 5
  omega
theorem Sx (v:Int):∀(ks:List Int) (s:Nat),yB (.inl v) (jQ s ks)=if v∈ks then some (.int ((s+qP ks v:Nat):Int)) else none
 | [],s=>by simp [jQ,yB]
 | k::ks,s=>by
  rw [jQ,yB,qP]
  by_cases h:k=v
  ·subst h
   rw [if_pos rfl,if_pos (List.mem_cons_self ..),if_pos rfl]
   rfl
  ·have h':¬((Sum.inl k:Key)=Sum.inl v):=λ e=>h (Sum.inl.inj e)
   rw [if_neg h',Sx v ks,if_neg h]
   by_cases hm:v∈ks
   ·rw [if_pos hm,if_pos (List.mem_cons_of_mem _ hm)]
    congr 3
    omega
   ·rw [if_neg hm,if_neg (by rw [List.mem_cons];rintro (e | e);exact h e.symm;exact hm e)]
theorem X8 {v:Int}:∀{ks:List Int},v∉ks->qP ks v=ks.length
 | [],_=>rfl
 | k::ks,h=>by
  rw [List.mem_cons] at h
  rw [qP,if_neg (λ e=>h (.inl e.symm)),X8 λ e=>h (.inr e),List.length_cons]
theorem SD {v:Int}{l:List Int}:∀{ks:List Int},v∈ks->qP (ks++l) v=qP ks v
 | [],h=>by cases h
 | k::ks,h=>by
  rw [List.cons_append,qP,qP]
  by_cases e:k=v
  ·rw [if_pos e,if_pos e]
  ·rw [if_neg e,if_neg e,SD ((List.mem_cons.mp h).resolve_left λ x=>e x.symm)]
theorem RI {v:Int}{l:List Int}:∀{ks:List Int},v∉ks->qP (ks++v::l) v=ks.length
 | [],_=>by rw [List.nil_append,qP,if_pos rfl];rfl
 | k::ks,h=>by
  rw [List.mem_cons] at h
  rw [List.cons_append,qP,if_neg (λ e=>h (.inl e.symm)),RI λ e=>h (.inr e),List.length_cons]
theorem Pd {v:Int}:∀{ks:List Int},v∈ks->qP ks v<ks.length
 | [],h=>by cases h
 | k::ks,h=>by
  rw [qP,List.length_cons]
  by_cases e:k=v
  ·rw [if_pos e];omega
  ·rw [if_neg e]
   have:=Pd ((List.mem_cons.mp h).resolve_left λ x=>e x.symm)
   omega
theorem Vs {v:Int}:∀{ks:List Int},v∈ks->ks[qP ks v]? =some v
 | [],h=>by cases h
 | k::ks,h=>by
  rw [qP]
  by_cases e:k=v
  ·rw [if_pos e];simp [e]
  ·rw [if_neg e,List.getElem?_cons_succ]
   exact Vs ((List.mem_cons.mp h).resolve_left λ x=>e x.symm)
theorem RX {v:Int}:∀{ks:List Int} {i:Nat},ks.Nodup->ks[i]? =some v->qP ks v=i
 | [],_,_,h=>by simp at h
 | k::ks,0,_,h=>by
  simp at h
  rw [qP,if_pos h]
 | k::ks,i+1,nd,h=>by
  rw [List.getElem?_cons_succ] at h
  have hm:=List.mem_of_getElem? h
  have hk:=(List.nodup_cons.mp nd).1
  rw [qP,if_neg (λ e:k=v=>hk (by rw [e];exact hm)),RX (List.nodup_cons.mp nd).2 h]
theorem RM (vs:List Int):∀ks:List Int,∃l,qV ks vs=ks++l:=by
 induction vs with
 | nil=>intro ks;exact ⟨[],by simp [qV]⟩
 | cons v vs ih=>
  intro ks
  obtain ⟨l,e⟩:=ih (ym ks v)
  have:qV ks (v::vs)=qV (ym ks v) vs:=rfl
  rw [this,e]
  unfold ym
  by_cases h:v∈ks
  ·rw [if_pos h];exact ⟨l,rfl⟩
  ·rw [if_neg h,List.append_assoc];exact ⟨_,rfl⟩
theorem X4 (ks a b:List Int):qV ks (a++b)=qV (qV ks a) b:=by unfold qV;rw [List.foldl_append]
theorem Hu (ks rest:List Int)(v:Int):qP ks v=qP (qV (ym ks v) rest) v:=by
 obtain ⟨l,e⟩:=RM rest (ym ks v)
 rw [e]
 unfold ym
 by_cases h:v∈ks
 ·rw [if_pos h,SD h]
 ·rw [if_neg h,List.append_assoc]
  show _=qP (ks++v::l) v
  rw [RI h,X8 h]
theorem LU (ks:List Int)(v:Int):(ym ks v).length<=ks.length+1:=by
 unfold ym
 split
 ·omega
 ·simp
theorem Fo (vs:List Int):∀ks:List Int,(qV ks vs).length<=ks.length+vs.length:=by
 induction vs with
 | nil=>intro ks;exact Nat.le_refl _
 | cons v vs ih=>
  intro ks
  have:=ih (ym ks v)
  have h2:=LU ks v
  have h3:qV ks (v::vs)=qV (ym ks v) vs:=rfl
  rw [h3,List.length_cons]
  omega
theorem HX {x:Int}(vs:List Int):∀ks:List Int,x∈qV ks vs↔x∈ks∨x∈vs:=by
 induction vs with
 | nil=>intro ks;simp [qV]
 | cons v vs ih=>
  intro ks
  have h3:qV ks (v::vs)=qV (ym ks v) vs:=rfl
  rw [h3,ih,List.mem_cons]
  unfold ym
  by_cases h:v∈ks
  ·rw [if_pos h]
   constructor
   ·rintro (a | a);exact .inl a;exact .inr (.inr a)
   ·rintro (a | a | a);exact .inl a;exact .inl (a ▸ h);exact .inr a
  ·rw [if_neg h,List.mem_append,List.mem_singleton]
   constructor
   ·rintro ((a | a) | a);exact .inl a;exact .inr (.inl a);exact .inr (.inr a)
   ·rintro (a | a | a);exact .inl (.inl a);exact .inl (.inr a);exact .inr a
theorem LL (vs:List Int):∀ks:List Int,ks.Nodup->(qV ks vs).Nodup:=by
 induction vs with
 | nil=>intro ks h;exact h
 | cons v vs ih=>
  intro ks h
  refine ih (ym ks v) ?_
  unfold ym
  by_cases hv:v∈ks
  ·rw [if_pos hv];exact h
  ·rw [if_neg hv]
   refine List.nodup_append.mpr ⟨h,by simp,λ a ha b hb e=>?_⟩
   rw [List.mem_singleton.mp hb] at e
   exact hv (e ▸ ha)
theorem Fj {A:Hx}{d:Nat}{ks:List Int}{v:Int}(h:A[d]? =some (.dct (jQ 0 ks)))(hl:ks.length<zP):j9 (.ref d) (.int v) (.int (ks.length:Int)) A=.ok (.int ((qP ks v:Nat):Int)) (A.set d (.dct (jQ 0 (ym ks v)))):=by
 unfold j9 Ye
 dsimp only
 rw [h]
 dsimp only
 rw [X0,if_pos hl,Sx]
 unfold ym
 by_cases hv:v∈ks
 ·rw [if_pos hv,if_pos hv,Nat.zero_add]
  dsimp only
  congr 1
  obtain ⟨hd,e⟩:=List.getElem?_eq_some_iff.mp h
  rw [<- e,List.set_getElem_self]
 ·rw [if_neg hv,if_neg hv,Rz,Nat.zero_add,X8 hv]
theorem KG {m:Ev}{ρ:En}{A A1:Hx}{w:W}{ws:List W}(h:m ρ A=.ok w A1)(hs:zE w A1=some ws):qd m ρ A=.ok ⟨λ A i=>(zE w A).map λ ws=>ws[i]?,ws.length⟩ A1:=by
 unfold qd Jz
 rw [h,zB,hs]
theorem wk {A B:Hx}{w:W}{ws:List W}(x:Ext A B)(h:zE w A=some ws):zE w B=some ws:=by
 unfold zE at h ⊢
 cases w with
 | ref n=>
  dsimp only at h ⊢
  cases e:A[n]? with
  | none=>rw [e] at h;cases h
  | some o=>rw [e] at h;rw [x.at e];exact h
 | _=>exact h
noncomputable def jO (t:List (List Int))(o:List Nat):List (List Int):=o.map λ a=>o.map λ b=>at2 t a b
noncomputable def w5 (t:List (List Int))(o:List Nat):List Int:=qV [] (jO t o).flatten
noncomputable def q9 (t:List (List Int))(o:List Nat):List (List Int):=(jO t o).map λ r=>r.map λ v=>((qP (w5 t o) v:Nat):Int)
noncomputable def jV (t:List (List Int))(o:List Nat)(p q:Nat):List Int:=((jO t o).take p).flatten++((jO t o).getD p []).take q
section
variable {t:List (List Int)}{o:List Nat}{p q:Nat}
theorem JU:(jO t o).length=o.length:=by unfold jO;rw [List.length_map]
theorem XX (hp:p<o.length):(jO t o).getD p []=o.map λ b=>at2 t o[p] b:=by
 unfold jO
 rw [List.getD_eq_getElem?_getD,List.getElem?_map,List.getElem?_eq_getElem hp];rfl
theorem To (hp:p<o.length)(hq:q<o.length):jV t o p (q+1)=jV t o p q++[at2 t o[p] o[q]]:=by
 unfold jV
 rw [XX hp,List.append_assoc]
 congr 1
 have:=take_succ (l:=o.map λ b=>at2 t o[p] b) (i:=q) (by rw [List.length_map];exact hq)
 rw [this,List.getElem_map]
theorem Sl (hp:p<o.length):jV t o p o.length=jV t o (p+1) 0:=by
 unfold jV
 have hr:p<(jO t o).length:=by rw [JU];exact hp
 rw [take_succ hr,List.flatten_append,XX hp,List.take_zero,List.append_nil]
 congr 1
 have e:(o.map λ b=>at2 t o[p] b).length=o.length:=List.length_map ..
 rw [<- e,List.take_length]
 simp [jO]
theorem Ig (hp:p<o.length)(hq:q<o.length):∃rest,(jO t o).flatten=jV t o p (q+1)++rest:=by
 have hr:p<(jO t o).length:=by rw [JU];exact hp
 refine ⟨((jO t o).getD p []).drop (q+1)++((jO t o).drop (p+1)).flatten,?_⟩
 unfold jV
 have e1:(jO t o)=(jO t o).take p++((jO t o).getD p []::(jO t o).drop (p+1)):=by
  have h1:=(List.take_append_drop p (jO t o)).symm
  rw [List.drop_eq_getElem_cons hr] at h1
  rw [List.getD_eq_getElem?_getD,List.getElem?_eq_getElem hr]
  exact h1
 conv=>lhs;rw [e1]
 rw [List.flatten_append,List.flatten_cons,List.append_assoc]
 congr 1
 rw [<- List.append_assoc,List.take_append_drop]
theorem Rt (hp:p<o.length)(hq:q<o.length):qP (qV [] (jV t o p q)) (at2 t o[p] o[q])=qP (w5 t o) (at2 t o[p] o[q]):=by
 obtain ⟨rest,e⟩:=Ig (t:=t) hp hq
 unfold w5
 rw [e,To hp hq,X4,X4]
 exact Hu _ _ _
theorem Rm (hp:p<o.length)(hq:q<o.length):qV [] (jV t o p (q+1))=ym (qV [] (jV t o p q)) (at2 t o[p] o[q]):=by
 rw [To hp hq,X4];rfl
theorem HV {l:List (List Int)}{n:Nat}(h:∀r∈l,r.length<=n):l.flatten.length<=l.length * n:=by
 induction l with
 | nil=>simp
 | cons r l ih=>
  rw [List.flatten_cons,List.length_append,List.length_cons,Nat.succ_mul]
  have h1:=h r (List.mem_cons_self ..)
  have h2:=ih λ r' hr=>h r' (List.mem_cons_of_mem _ hr)
  omega
theorem Su (hl:o.length<=8):(qV [] (jV t o p q)).length<1000:=by
 refine Nat.lt_of_le_of_lt (Fo _ _) ?_
 rw [List.length_nil,Nat.zero_add]
 unfold jV
 rw [List.length_append,List.length_take]
 have h0:∀r∈(jO t o).take p,r.length<=8:=λ r hr=>by
  obtain ⟨a,_,rfl⟩:=List.mem_map.mp (List.mem_of_mem_take hr)
  rw [List.length_map];exact hl
 have h1:=HV h0
 have h2:((jO t o).take p).length<=8:=by rw [List.length_take,JU];omega
 have h3:((jO t o).getD p []).length<=8:=by
  by_cases hp:p<o.length
  ·rw [XX hp,List.length_map];exact hl
  ·rw [List.getD_eq_getElem?_getD,List.getElem?_eq_none (by rw [JU];omega)];simp
 have h4:((jO t o).take p).length * 8<=8 * 8:=Nat.mul_le_mul_right 8 h2
 omega
theorem Qf:(q9 t o).length=o.length:=by unfold q9;rw [List.length_map,JU]
theorem SO (hp:p<o.length):(q9 t o)[p]? =some (o.map λ b=>((qP (w5 t o) (at2 t o[p] b):Nat):Int)):=by
 unfold q9 jO
 rw [List.getElem?_map,List.getElem?_map,List.getElem?_eq_getElem hp]
 simp
end
end Mi
namespace G
open PySem L2 Mi
section
variable {t:List (List Int)}{o:List Nat}{w:W}{A:Hx}
noncomputable abbrev Sq (t:List (List Int)):Prop:=∀r∈t,r.length=t.length
theorem P9 (h:Sq t){ρ:En}{A:Hx}{ma mb mt:Ev}{a b:Nat}(ht:mt ρ A=.ok (zj t) A)(ha:ma ρ A=.ok (.int a) A)(hb:mb ρ A=.ok (.int b) A)(la:a<t.length)(lb:b<t.length):zl zI (zl zI mt ma) mb ρ A=.ok (.int (at2 t a b)) A:=
 (zO ((zO ht ha).trans (Vx la)) hb).trans (VC (by rw [h _ (Zl la)];exact lb))
theorem Fp {ρ:En}{i d:Nat}{B:Hx}{ks:List Int}(h:ρ[i]? =some (some (.ref d)))(hB:B[d]? =some (.dct (jQ 0 ks))):yy (zc i) ρ B=.ok (.int (ks.length:Int)) B:=by
 unfold yy
 rw [zu h,zB]
 dsimp only
 rw [hB]
 dsimp only
 rw [X0]
theorem Ra {ρ:En}{B:Hx}{d i a b x:Nat}{ks:List Int}{v:Int}{mm:Ev}(hd:ρ[i]? =some (some (.ref d)))(hB:B[d]? =some (.dct (jQ 0 ks)))(hl:ks.length<1000)(hm:mm ρ B=.ok (.int v) B):
  yY j9 (zc i) mm (yy (zc i)) ρ B=.ok (.int ((qP ks v:Nat):Int)) (B.set d (.dct (jQ 0 (ym ks v)))):=by
 unfold yY
 rw [zu hd,zB]
 have hi:Z6 (.ref d) B=true:=by unfold Z6;dsimp only;rw [hB]
 rw [if_pos hi,hm,zB,Fp hd hB,zB]
 exact Fj hB (by unfold zP;omega)
noncomputable abbrev nV (t:List (List Int))(o:List Nat):Int->W:=λ v=>W.int ((qP (w5 t o) v:Nat):Int)
theorem KO {i:Nat}(hi:i<o.length):(o.map λ (a:Nat)=>W.int (a:Int))[i]? =some (W.int ((o[i]:Nat):Int)):=by rw [List.getElem?_map,List.getElem?_eq_getElem hi];rfl
theorem K4 {B:Hx}{ws:List W}{i:Nat}{x:W}(hs:zE w B=some ws)(h:ws[i]? =some x):((zE w B).map λ ws=>ws[i]?)=some (some x):=by rw [hs];show some ws[i]? =_;rw [h]
theorem KY {B:Hx}{ws:List W}{i:Nat}(hs:zE w B=some ws)(h:ws.length<=i):((zE w B).map λ ws=>ws[i]?)=some none:=by rw [hs];show some ws[i]? =_;rw [List.getElem?_eq_none h]
theorem Si {p q:Nat}(hp:p<o.length)(hq:q<o.length):(((o.map λ b=>at2 t o[p] b).take (q+1)).map (nV t o))=((o.map λ b=>at2 t o[p] b).take q).map (nV t o)++[nV t o (at2 t o[p] o[q])]:=by
 have:=take_succ (l:=o.map λ b=>at2 t o[p] b) (i:=q) (by rw [List.length_map];exact hq)
 rw [this,List.map_append,List.getElem_map];rfl
theorem Sk {p:Nat}(hp:p<o.length):((o.map λ b=>at2 t o[p] b).take o.length).map (nV t o)=(o.map λ b=>((qP (w5 t o) (at2 t o[p] b):Nat):Int)).map W.int:=by
 have e:(o.map λ b=>at2 t o[p] b).length=o.length:=List.length_map ..
 rw [<- e,List.take_length,List.map_map,List.map_map]
 rfl
theorem Hd (hq:Sq t)(ho:∀a∈o,a<t.length)(hl:o.length<=8){A:Hx}(hs:zE w A=some (o.map λ (a:Nat)=>W.int (a:Int))){B:Hx}(hx:Ext A B){p:Nat}(hp:p<o.length){d:Nat}(hd:A.length<=d)(hB:B[d]? =some (.dct (jQ 0 (qV [] (jV t o p 0))))):
  ∃B',mQ qH (zW 1 [0,1,3] (qd (zc 2)) (zA 0) (zi (.bl true)) (zJ (yY j9 (zc 3) (zl zI (zl zI (zc 2) (zc 1)) (zc 0)) (yy (zc 3))))) [some (.int ((o[p]:Nat):Int)),some (zj t),some w,some (.ref d)] B=
   .ok (qc (o.map λ b=>((qP (w5 t o) (at2 t o[p] b):Nat):Int))) B'/\Ext A B'/\B'[d]? =some (.dct (jQ 0 (qV [] (jV t o (p+1) 0)))):=by
 obtain ⟨ρ',acc',B',e,⟨z,h1⟩,h2,h3,h4⟩:=QL (nl:=1) (cap:=[0,1,3]) (tw:=zA 0) (ifs:=zi (.bl true)) (em:=zJ (yY j9 (zc 3) (zl zI (zl zI (zc 2) (zc 1)) (zc 0)) (yy (zc 3)))) (ρ:=[some (.int ((o[p]:Nat):Int)),some (zj t),some w,some (.ref d)]) (A:=B) (N:=o.length)
  (I:=λ q ρ' a B=>(∃z,ρ'=[z,some (.int ((o[p]:Nat):Int)),some (zj t),some (.ref d)])/\Ext A B/\B[d]? =some (.dct (jQ 0 (qV [] (jV t o p q))))/\a=((o.map λ b=>at2 t o[p] b).take q).map (nV t o)) (KG (m:=zc 2) (zu rfl) (wk hx hs)) (by simp)
  (λ q ρ' a B hq' ⟨⟨z,g1⟩,g2,g3,g4⟩=>by
   subst g1 g4
   refine ⟨_,[some (.int ((o[q]:Nat):Int)),some (.int ((o[p]:Nat):Int)),some (zj t),some (.ref d)],K4 (wk g2 hs) (KO hq'),rfl,.inl ⟨B,_,_,_,rfl,QU (Ra (i:=3) (a:=0) (b:=0) (x:=0) rfl g3 (Su hl) (P9 hq (zu (i:=2) rfl) (zu (i:=1) rfl) (zu (i:=0) rfl) (ho _ (List.getElem_mem hp)) (ho _ (List.getElem_mem hq')))) ?_,⟨_,rfl⟩,g2.set hd,?_,?_⟩⟩
   ·rw [List.length_map,List.length_take];unfold zP;omega
   ·rw [List.getElem?_set_self (yV g3),Rm hp hq']
   ·rw [Si hp hq',Rt hp hq'])
  (λ ρ' a B ⟨_,g2,_,_⟩=>KY (wk g2 hs) (by simp)) ⟨⟨none,rfl⟩,hx,hB,by simp⟩
 refine ⟨B',?_,h2,by rw [h3,Sl hp]⟩
 rw [wW e,h4,Sk hp]
 rfl
theorem Vn (hq:Sq t)(ho:∀a∈o,a<t.length)(hl:o.length<=8){A:Hx}(hs:zE w A=some (o.map λ (a:Nat)=>W.int (a:Int))):∃B,km [zj t,w] A=.ok (zj (q9 t o)) B/\Ext A B:=by
 unfold km UY
 have hx0:Ext A (A++[O.dct []]):=Ext.one
 obtain ⟨ρ',acc',B',e,⟨z,h1⟩,h2,h3,h4⟩:=QL (nl:=1) (cap:=[0,1,2]) (tw:=zA 0) (ifs:=zi (.bl true)) (em:=zJ (mQ qH (zW 1 [0,1,3] (qd (zc 2)) (zA 0) (zi (.bl true)) (zJ (yY j9 (zc 3) (zl zI (zl zI (zc 2) (zc 1)) (zc 0)) (yy (zc 3))))))) (ρ:=[some (zj t),some w,some (.ref A.length)]) (A:=A++[O.dct []]) (N:=o.length)
  (I:=λ p ρ' a B=>(∃z,ρ'=[z,some (zj t),some w,some (.ref A.length)])/\Ext A B/\B[A.length]? =some (.dct (jQ 0 (qV [] (jV t o p 0))))/\a=((q9 t o).take p).map qc) (KG (m:=zc 1) (zu rfl) (wk hx0 hs)) (by simp)
  (λ p ρ' a B hp ⟨⟨z,g1⟩,g2,g3,g4⟩=>by
   subst g1 g4
   obtain ⟨B',e,x1,x2⟩:=Hd hq ho hl hs g2 hp (Nat.le_refl _) g3
   refine ⟨_,[some (.int ((o[p]:Nat):Int)),some (zj t),some w,some (.ref A.length)],K4 (wk g2 hs) (KO hp),rfl,.inl ⟨B,_,_,_,rfl,QU e ?_,⟨_,rfl⟩,x1,x2,?_⟩⟩
   ·rw [List.length_map,List.length_take];unfold zP;omega
   ·have hn:p<(q9 t o).length:=by rw [Qf];exact hp
    have hg:=SO (t:=t) hp
    rw [List.getElem?_eq_getElem hn] at hg
    rw [take_succ hn,List.map_append,List.map_singleton,Option.some.inj hg])
  (λ ρ' a B ⟨_,g2,_,_⟩=>KY (wk g2 hs) (by simp)) ⟨⟨none,rfl⟩,hx0,by rw [jq];simp [jV,qV,jQ],by simp⟩
 refine ⟨B',jd ?_,h2⟩
 unfold G4
 refine (zD (ρ1:=[some (zj t),some w,some (.ref A.length)]) (A1:=A++[O.dct []]) rfl).trans (qD (ji ?_))
 rw [wW e,h4,<- Qf (t:=t),List.take_length]
 rfl
theorem ED (hq:Sq t)(ho:∀a∈o,a<t.length)(hl:o.length<=8){A:Hx}(hs:zE w A=some (o.map λ (a:Nat)=>W.int (a:Int))){B:Hx}(hx:Ext A B){p:Nat}(hp:p<o.length)(hB:B[A.length]? =some (.dct (jQ 0 (qV [] (jV t o p 0))))){ws:List W}(hF:B[A.length+1]? =some (.lst ws))(hws:ws.length<=8)(y5 y6:Option W):
  ∃z5 z6 B',zp (zK 5 (zX (zo))) (zp (jE (qd (zc 1)) (zA 6) (zp (qQ (qx qY (zc 5) (yY j9 (zc 2) (zl zI (zl zI (zc 0) (zc 4)) (zc 6)) (yy (zc 2))))) (zw))) (zp (qQ (qx qY (zc 3) (mQ qH (zM (zc 5))))) (zw)))
   [some (zj t),some w,some (.ref A.length),some (.ref (A.length+1)),some (.int ((o[p]:Nat):Int)),y5,y6] B=.ok (.nx [some (zj t),some w,some (.ref A.length),some (.ref (A.length+1)),some (.int ((o[p]:Nat):Int)),z5,z6]) B'/\Ext A B'/\
   B'[A.length]? =some (.dct (jQ 0 (qV [] (jV t o (p+1) 0))))/\B'[A.length+1]? =some (.lst (ws++[qc (o.map λ b=>((qP (w5 t o) (at2 t o[p] b):Nat):Int))])):=by
 have hBl:=yV hF
 obtain ⟨ρ',B',e,⟨z,h1⟩,h2,h3,h4,h5⟩:=QN (j:=⟨λ A i=>(zE w A).map λ ws=>ws[i]?,o.length⟩) (st:=turn (zA 6) (zp (qQ (qx qY (zc 5) (yY j9 (zc 2) (zl zI (zl zI (zc 0) (zc 4)) (zc 6)) (yy (zc 2))))) (zw))) (N:=o.length)
  (I:=λ q ρ' C=>(∃z,ρ'=[some (zj t),some w,some (.ref A.length),some (.ref (A.length+1)),some (.int ((o[p]:Nat):Int)),some (.ref B.length),z])/\Ext A C/\C[A.length]? =some (.dct (jQ 0 (qV [] (jV t o p q))))/\C[A.length+1]? =some (.lst ws)/\C[B.length]? =some (.lst (((o.map λ b=>at2 t o[p] b).take q).map (nV t o))))
  (λ q ρ' C hq' ⟨⟨z,g1⟩,g2,g3,g4,g5⟩=>by
   subst g1
   have e1:=Ra (ρ:=[some (zj t),some w,some (.ref A.length),some (.ref (A.length+1)),some (.int ((o[p]:Nat):Int)),some (.ref B.length),some (.int ((o[q]:Nat):Int))]) (B:=C) (i:=2) (a:=0) (b:=0) (x:=0) rfl g3 (Su hl) (P9 hq (zu (i:=0) rfl) (zu (i:=4) rfl) (zu (i:=6) rfl) (ho _ (List.getElem_mem hp)) (ho _ (List.getElem_mem hq')))
   have hC:=yV g3
   have hC5:=yV g5
   have e2:qx qY (zc 5) (yY j9 (zc 2) (zl zI (zl zI (zc 0) (zc 4)) (zc 6)) (yy (zc 2))) [some (zj t),some w,some (.ref A.length),some (.ref (A.length+1)),some (.int ((o[p]:Nat):Int)),some (.ref B.length),some (.int ((o[q]:Nat):Int))] C=
     .ok .non ((C.set A.length (O.dct (jQ 0 (ym (qV [] (jV t o p q)) (at2 t o[p] o[q]))))).set B.length (O.lst (((o.map λ b=>at2 t o[p] b).take q).map (nV t o)++[W.int ((qP (qV [] (jV t o p q)) (at2 t o[p] o[q]):Nat):Int)]))):=by
    unfold qx
    rw [zu (i:=5) (w:=.ref B.length) rfl,zB]
    have hL:kR (.ref B.length) C=true:=by unfold kR;dsimp only;rw [g5]
    rw [if_pos hL,e1,zB]
    unfold qY
    dsimp only
    rw [List.getElem?_set_ne (by omega),g5]
    dsimp only
    rw [if_pos (by rw [List.length_map,List.length_take];unfold zP;omega)]
   refine ⟨_,_,_,K4 (wk g2 hs) (KO hq'),(kZ (ρ1:=[some (zj t),some w,some (.ref A.length),some (.ref (A.length+1)),some (.int ((o[p]:Nat):Int)),some (.ref B.length),some (.int ((o[q]:Nat):Int))]) rfl).trans ((zD (yx e2)).trans gE),⟨_,rfl⟩,(g2.set (Nat.le_refl _)).set (by omega),?_,?_,?_⟩
   ·rw [List.getElem?_set_ne (by omega),List.getElem?_set_self hC,Rm hp hq']
   ·rw [List.getElem?_set_ne (by omega),List.getElem?_set_ne (by omega),g4]
   ·rw [List.getElem?_set_self (by rw [List.length_set];exact hC5),Si hp hq',Rt hp hq'])
  (λ ρ' C ⟨_,g2,_⟩=>KY (wk g2 hs) (by simp)) o.length 0 [some (zj t),some w,some (.ref A.length),some (.ref (A.length+1)),some (.int ((o[p]:Nat):Int)),some (.ref B.length),y6] (B++[O.lst []]) (by omega) ⟨⟨y6,rfl⟩,hx.app,jD hB,jD hF,by rw [jq];simp⟩
 subst h1
 have ea:=DS (A:=B') (ρ:=[some (zj t),some w,some (.ref A.length),some (.ref (A.length+1)),some (.int ((o[p]:Nat):Int)),some (.ref B.length),z]) (i:=3) (c:=A.length+1) (mm:=mQ qH (zM (zc 5))) rfl h4 (wW (yM (w:=.ref B.length) (A1:=B') (zu rfl) (by unfold zE;dsimp only;rw [h5]))) (by omega)
 refine ⟨_,_,_,(zD (qM (yF jh))).trans ((zD ((wq ?_).trans e)).trans ((zD ea).trans gE)),h2.set (by omega),?_,?_⟩
 ·have:=KG (m:=zc 1) (ρ:=[some (zj t),some w,some (.ref A.length),some (.ref (A.length+1)),some (.int ((o[p]:Nat):Int)),some (.ref B.length),y6]) (A:=B++[O.lst []]) (zu rfl) (wk hx.app hs)
  rw [List.length_map] at this
  exact this
 ·rw [List.getElem?_set_ne (by omega),h3,Sl hp]
 ·rw [List.getElem?_set_self (yV h4),Sk hp]
  rfl
theorem Ub (hq:Sq t)(ho:∀a∈o,a<t.length)(hl:o.length<=8){A:Hx}(hs:zE w A=some (o.map λ (a:Nat)=>W.int (a:Int))):∃B,yL [zj t,w] A=.ok (zj (q9 t o)) B/\Ext A B:=by
 unfold yL Uy
 have hx0:Ext A (A++[O.dct []]++[O.lst []]):=Ext.one.app
 obtain ⟨ρ',B',e,⟨z4,z5,z6,h1⟩,h2,h3,h4⟩:=QN (j:=⟨λ A i=>(zE w A).map λ ws=>ws[i]?,o.length⟩) (st:=turn (zA 4) (zp (zK 5 (zX (zo))) (zp (jE (qd (zc 1)) (zA 6) (zp (qQ (qx qY (zc 5) (yY j9 (zc 2) (zl zI (zl zI (zc 0) (zc 4)) (zc 6)) (yy (zc 2))))) (zw))) (zp (qQ (qx qY (zc 3) (mQ qH (zM (zc 5))))) (zw))))) (N:=o.length)
  (I:=λ p ρ' C=>(∃z4 z5 z6,ρ'=[some (zj t),some w,some (.ref A.length),some (.ref (A.length+1)),z4,z5,z6])/\Ext A C/\C[A.length]? =some (.dct (jQ 0 (qV [] (jV t o p 0))))/\C[A.length+1]? =some (.lst (((q9 t o).take p).map qc)))
  (λ p ρ' C hp ⟨⟨z4,z5,z6,g1⟩,g2,g3,g4⟩=>by
   subst g1
   obtain ⟨y5,y6,C',e,x1,x2,x3⟩:=ED hq ho hl hs g2 hp g3 g4 (by rw [List.length_map,List.length_take];omega) z5 z6
   refine ⟨_,_,_,K4 (wk g2 hs) (KO hp),(kZ (ρ1:=[some (zj t),some w,some (.ref A.length),some (.ref (A.length+1)),some (.int ((o[p]:Nat):Int)),z5,z6]) rfl).trans e,⟨_,_,_,rfl⟩,x1,x2,?_⟩
   have hn:p<(q9 t o).length:=by rw [Qf];exact hp
   have hg:=SO (t:=t) hp
   rw [List.getElem?_eq_getElem hn] at hg
   rw [x3,take_succ hn,List.map_append,List.map_singleton,Option.some.inj hg])
  (λ ρ' C ⟨_,g2,_⟩=>KY (wk g2 hs) (by simp)) o.length 0 [some (zj t),some w,some (.ref A.length),some (.ref (A.length+1)),none,none,none] (A++[O.dct []]++[O.lst []]) (by omega) ⟨⟨_,_,_,rfl⟩,hx0,by rw [jD jq];simp [jV,qV,jQ],by
   have:(A++[O.dct []]).length=A.length+1:=by simp
   rw [<- this,jq];simp⟩
 subst h1
 refine ⟨B',jd ?_,h2⟩
 unfold W8
 refine (zD (ρ1:=[some (zj t),some w,some (.ref A.length),none,none,none,none]) (A1:=A++[O.dct []]) rfl).trans ?_
 refine (zD (ρ1:=[some (zj t),some w,some (.ref A.length),some (.ref (A.length+1)),none,none,none]) (A1:=A++[O.dct []]++[O.lst []]) ?_).trans ?_
 ·rw [qM (yF jh)]
  simp
 refine (zD ((wq ?_).trans e)).trans (qD (ji ?_))
 ·have:=KG (m:=zc 1) (ρ:=[some (zj t),some w,some (.ref A.length),some (.ref (A.length+1)),none,none,none]) (A:=A++[O.dct []]++[O.lst []]) (zu rfl) (wk hx0 hs)
  rw [List.length_map] at this
  exact this
 ·rw [wW (yM (w:=.ref (A.length+1)) (A1:=B') (ws:=((q9 t o).take o.length).map qc) (zu rfl) (by unfold zE;dsimp only;rw [h4])),<- Qf (t:=t),List.take_length]
  rfl
end
end G
namespace Mi
open PySem L2
theorem XM {α β γ:Type}{f:β->Option γ}{g:α->β}{h:α->γ}(e:∀a,f (g a)=some (h a)):∀l:List α,yJ f (l.map g)=some (l.map h)
 | []=>rfl
 | a::l=>by
  rw [List.map_cons,yJ,e a,XM e l]
  rfl
theorem M5 (r:List Int):Qq (qc r)=some r:=QJ r
theorem Lr (t:List (List Int)):Ju (zj t)=some t:=by
 show yJ Qq (t.map qc)=some t
 rw [XM (h:=λ r=>r) M5]
 simp
theorem U9 (bt:Nat->Nat->Bool):∀k,argBest bt k<=k
 | 0=>Nat.le_refl _
 | k+1=>by
  unfold argBest
  split
  ·exact Nat.le_refl _
  ·exact Nat.le_trans (U9 bt k) (Nat.le_succ k)
theorem Ll {ts:List (List (List Int))}(h:ts≠[]):∃u∈ts,∀A,wG (ts.map zj) A=.ok (zj u) A:=by
 have e:yJ Ju (ts.map zj)=some ts:=by
  rw [XM (h:=λ r=>r) Lr]
  simp
 cases hts:ts with
 | nil=>exact absurd hts h
 | cons t r=>
  have hl:J5 (t::r)<(t::r).length:=by
   have:=U9 (λ i j=>wt ((t::r).getD i []) ((t::r).getD j [])) ((t::r).length - 1)
   unfold J5
   rw [List.length_cons] at this ⊢
   omega
  refine ⟨(t::r)[J5 (t::r)],List.getElem_mem hl,λ A=>?_⟩
  unfold wG
  rw [hts] at e
  rw [e]
  dsimp only
  rw [List.getElem?_map,List.getElem?_eq_getElem hl]
  rfl
noncomputable def V6 (r:List Int):PyData:=.tuple (r.map .int)
noncomputable def gU (t:List (List Int)):PyData:=.tuple (t.map V6)
theorem JS {α:Type}{f:W->Option PyData}{g:α->W}{h:α->PyData}(e:∀a,f (g a)=some (h a)):∀l:List α,jP f (l.map g)=some (l.map h)
 | []=>rfl
 | a::l=>by
  rw [List.map_cons,jP,e a,JS e l]
  rfl
theorem F4 (A:Hx)(n:Nat)(r:List Int):qf A (n+1) (qc r)=some (V6 r):=by
 show (jP (qf A n) (r.map W.int)).map PyData.tuple=_
 rw [JS (h:=PyData.int) (λ i=>by cases n<;>rfl)]
 rfl
theorem KH (A:Hx)(n:Nat)(t:List (List Int)):qf A (n+2) (zj t)=some (gU t):=by
 show (jP (qf A (n+1)) (t.map qc)).map PyData.tuple=_
 rw [JS (h:=V6) (F4 A n)]
 rfl
theorem Ir {A:Hx}{r:Nat}{ts:List (List (List Int))}(h:A[r]? =some (.lst (ts.map zj))):qf A 8 (.ref r)=some (.list (ts.map gU)):=by
 show (match zE (.ref r) A with | some ws=>(jP (qf A 7) ws).map PyData.list | none=>none)=_
 have:zE (.ref r) A=some (ts.map zj):=by unfold zE;dsimp only;rw [h]
 rw [this]
 dsimp only
 rw [JS (h:=gU) (KH A 5)]
 rfl
noncomputable def wy (s t:List (List Int)):Bool:=PyData.eqv (gU s) (gU t)
theorem FH (s t:List (List Int))(A:Hx):yd (zj s) (zj t) A=.ok (.bl (wy s t)) A:=by
 show wF false _ _ A=_
 unfold wF
 rw [KH A 6,KH A 6]
 rfl
theorem M8 {s t:List (List Int)}(h:s.length≠t.length):wy s t=false:=by
 unfold wy gU
 rw [PyData.eqv]
 exact SeqAt.eqvAll_other_length (by rw [List.length_map,List.length_map];exact h)
theorem TY {α:Type}{f:α->PyData}{p:PyData->Bool}:∀os:List α,(gQ p (os.map f)=none/\os.find? (λ o=>p (f o))=none/\((os.map f).any p)=false)∨(∃j o,gQ p (os.map f)=some j/\j<os.length/\os[j]? =some o/\os.find? (λ o=>p (f o))=some o/\((os.map f).any p)=true)
 | []=>.inl ⟨rfl,rfl,rfl⟩
 | o::os=>by
  rw [List.map_cons,gQ,List.find?_cons,List.any_cons]
  by_cases h:p (f o)=true
  ·rw [h]
   exact .inr ⟨0,o,by simp,by simp,by simp,rfl,by simp⟩
  ·have h':p (f o)=false:=Bool.eq_false_iff.mpr h
   rw [h']
   rcases TY (f:=f) (p:=p) os with ⟨e1,e2,e3⟩ | ⟨j,o',e1,e2,e3,e4,e5⟩
   ·exact .inl ⟨by rw [e1];simp,by simp [e2],by rw [e3];rfl⟩
   ·exact .inr ⟨j+1,o',by rw [e1];simp,by rw [List.length_cons];omega,by rw [List.getElem?_cons_succ];exact e3,by simp [e4],by rw [e5];rfl⟩
theorem U6 {n:Nat}:∀{k:Nat},k<=n->List.range k∈qU n k
 | 0,_=>by simp [qU]
 | k+1,h=>by
  have h1:=U6 (n:=n) (k:=k) (by omega)
  refine List.mem_flatten.mpr ⟨wZ n (List.range k),List.mem_map.mpr ⟨_,h1,rfl⟩,?_⟩
  refine List.mem_map.mpr ⟨k,List.mem_filter.mpr ⟨List.mem_range.mpr (by omega),by simp⟩,?_⟩
  rw [List.range_succ]
theorem MZ (n:Nat):orders n≠[]:=λ e=>by
 have:=U6 (Nat.le_refl n)
 unfold orders at e
 rw [e] at this
 cases this
end Mi
namespace G
open PySem L2 Mi
section
variable {s t:List (List Int)}
theorem Wd (h:t.length<=6)(A:Hx):QG [zj t] A=.ok .non A:=by
 refine Rc (ρ:=[some (zj t)]) ?_
 unfold Y3
 refine (zD (ρ1:=[some (zj t)]) (A1:=A) ((yz (A1:=A) (Zn ?_)).trans rfl)).trans rfl
 refine (zO (yX rfl) (jR (w:=.int 6))).trans ?_
 show R.ok (W.bl (decide ((6:Int)<(t.length:Int)))) A=_
 rw [decide_eq_false (by omega)]
theorem VJ (h:6<t.length)(A:Hx):QG [zj t] A=.exc "TooMany" A:=by
 refine ZO ?_
 unfold Y3
 refine gB ((wz (A1:=A) (Zn ?_)).trans (gB rfl))
 refine (zO (yX rfl) (jR (w:=.int 6))).trans ?_
 show R.ok (W.bl (decide ((6:Int)<(t.length:Int)))) A=_
 rw [decide_eq_true (by omega)]
noncomputable abbrev kM (t:List (List Int)):List (List (List Int)):=(orders t.length).map (q9 t)
theorem Hf:kM t≠[]:=λ e=>MZ t.length (List.map_eq_nil_iff.mp e)
theorem Vd (o:List Nat)(A:Hx):zE (zT o) A=some (o.map λ (a:Nat)=>W.int (a:Int)):=rfl
theorem FJ (hq:Sq t)(h6:t.length<=6){u:List (List Int)}(hu:∀A,wG ((kM t).map zj) A=.ok (zj u) A)(A:Hx):QH [zj t] A=.ok (zj u) A:=by
 unfold QH
 suffices h:∃A1,Gx [zj t] []=.ok (zj u) A1 by
  obtain ⟨A1,h⟩:=h
  exact yO (by show ((zj t).nr&&true)=true;rw [yD];rfl) (yD u) h
 unfold Gx
 have em:zx kX (zh (mQ qa (zM (zc 0))) (zo)) [some (zj t)] []=.ok (.ref 0) [O.lst ((orders t.length).map zT)]:=(zR (qm (yX rfl) jh)).trans (UJ h6 [])
 obtain ⟨ρ',acc',B',e,⟨z,h1⟩,h2,h4⟩:=QL (nl:=1) (cap:=[0]) (tw:=zA 0) (ifs:=zi (.bl true)) (em:=zJ (zx km (zh (zc 1) (zh (zc 0) (zo))))) (ρ:=[some (zj t)]) (A:=[]) (N:=(orders t.length).length)
  (I:=λ p ρ' a B=>(∃z,ρ'=[z,some (zj t)])/\Ext [O.lst ((orders t.length).map zT)] B/\a=(((orders t.length).take p).map (q9 t)).map zj) (ZR em rfl) (by simp)
  (λ p ρ' a B hp ⟨⟨z,g1⟩,g2,g4⟩=>by
   subst g1 g4
   have ho:=QK (List.getElem_mem hp)
   obtain ⟨B',e,x1⟩:=Vn (A:=B) (o:=(orders t.length)[p]) hq ho.2 (by rw [ho.1];omega) (Vd _ B)
   refine ⟨_,[some (zT (orders t.length)[p]),some (zj t)],Q9 (g2.at rfl) (by rw [List.getElem?_map,List.getElem?_eq_getElem hp];rfl),rfl,.inl ⟨B,_,_,_,rfl,QU ((zR (qm (zu (i:=1) rfl) (qm (zu (i:=0) rfl) jh))).trans e) ?_,⟨_,rfl⟩,g2.trans x1,?_⟩⟩
   ·rw [List.length_map,List.length_map,List.length_take];have:=Xn h6;unfold zP;omega
   ·rw [take_succ hp,List.map_append,List.map_append];rfl)
  (λ ρ' a B ⟨_,g2,_⟩=>Jk (g2.at rfl) (by simp)) ⟨⟨none,rfl⟩,Ext.refl,by simp⟩
 refine ⟨B',jd ?_⟩
 unfold Gq
 refine qD (ji ?_)
 refine (yn e).trans ?_
 rw [h4,List.take_length]
 exact hu B'
theorem EM (h:qh t)(h6:t.length<=6){u:List (List Int)}(hu:∀A,wG ((kM t).map zj) A=.ok (zj u) A)(A:Hx):ZM [zj t] A=.ok (zj u) A:=by
 unfold ZM
 refine yO (A1:=[]) (by show ((zj t).nr&&true)=true;rw [yD];rfl) (yD u) (Zn (Sy ?_))
 unfold JP
 refine (zD (ρ1:=[some (zj t)]) (A1:=[]) (yx ((zR (ws:=[zj t]) (A1:=[]) rfl).trans (Zk h [])))).trans ?_
 refine (zD (ρ1:=[some (zj t)]) (A1:=[]) (yx ((zR (ws:=[zj t]) (A1:=[]) rfl).trans (Wd h6 [])))).trans (Zn ?_)
 exact qD (ji ((zR (ws:=[zj t]) (A1:=[]) rfl).trans (FJ h.sq h6 hu [])))
noncomputable abbrev y0 (t:List (List Int)):List (List Int):=q9 t (List.range t.length)
noncomputable def kq (s t:List (List Int)):W:=if s.length=t.length then (match (orders s.length).find? (λ o=>wy (q9 s o) (y0 t)) with | some o=>zT o | none=>.non) else .non
theorem LK:(kq s t).nr=true:=by
 unfold kq
 split
 ·split
  ·exact JY _
  ·rfl
 ·rfl
theorem So {n:Nat}:∀a∈List.range n,a<n:=λ a h=>List.mem_range.mp h
theorem LG (hq:Sq s)(h6:s.length<=6){r:Nat}(u:List (List Int)){os:List (List Nat)}(hos:∀o∈os,o.length=s.length/\∀a∈o,a<s.length):∀(f i:Nat) (y:Option W) (B:Hx),i+f=os.length->B[r]? =some (.lst (os.map zT))->
  ∃fl B',jN ⟨λ A i=>(zE (.ref r) A).map λ ws=>ws[i]?,os.length⟩ (turn (zA 3) (zp (jc (zl yd (zx km (zh (zc 0) (zh (zc 3) (zo)))) (zc 2)) (zp (qj (zc 3)) (zw)) (zw)) (zw))) f i [some (zj s),some (zj t),some (zj u),y] B=.ok fl B'/\
   ((∃o,(os.drop i).find? (λ o=>wy (q9 s o) u)=some o/\fl=.rt (zT o))∨((os.drop i).find? (λ o=>wy (q9 s o) u)=none/\∃ρ',fl=.nx ρ')):=by
 intro f
 induction f with
 | zero=>
  intro i y B h hB
  refine ⟨_,_,QP (Jk hB (by rw [List.length_map];omega)),.inr ⟨?_,_,rfl⟩⟩
  rw [List.drop_of_length_le (by omega)];rfl
 | succ f ih=>
  intro i y B h hB
  have hi:i<os.length:=by omega
  have ho:=hos _ (List.getElem_mem hi)
  obtain ⟨B1,e,x1⟩:=Vn (A:=B) (t:=s) (o:=os[i]) hq ho.2 (by rw [ho.1];omega) (Vd _ B)
  have hat:((zE (.ref r) B).map λ ws=>ws[i]?)=some (some (zT os[i])):=Q9 hB (by rw [List.getElem?_map,List.getElem?_eq_getElem hi];rfl)
  have ec:zl yd (zx km (zh (zc 0) (zh (zc 3) (zo)))) (zc 2) [some (zj s),some (zj t),some (zj u),some (zT os[i])] B=.ok (.bl (wy (q9 s os[i]) u)) B1:=
   (zO ((zR (qm (zu (i:=0) rfl) (qm (zu (i:=3) rfl) jh))).trans e) (zu (i:=2) rfl)).trans (FH _ _ _)
  rw [List.drop_eq_getElem_cons hi,List.find?_cons]
  cases hd:wy (q9 s os[i]) u with
  | true=>
   rw [hd] at ec
   exact ⟨_,_,Hw hat ((kZ (ρ1:=[some (zj s),some (zj t),some (zj u),some (zT os[i])]) rfl).trans (qD ((wz ec).trans (qD (ji (zu rfl)))))),.inl ⟨_,rfl,rfl⟩⟩
  | false=>
   rw [hd] at ec
   obtain ⟨fl,B',e2,k⟩:=ih (i+1) (some (zT os[i])) B1 (by omega) (x1.at hB)
   refine ⟨fl,B',?_,k⟩
   rw [QV hat ((kZ (ρ1:=[some (zj s),some (zj t),some (zj u),some (zT os[i])]) rfl).trans ((zD ((yz ec).trans gE)).trans gE))]
   exact e2
theorem F7 (hs:qh s)(ht:qh t)(s6:s.length<=6)(t6:t.length<=6)(A:Hx):ZK [zj s,zj t] A=.ok (kq s t) A:=by
 unfold ZK
 suffices h:∃A1,jx [zj s,zj t] []=.ok (kq s t) A1 by
  obtain ⟨A1,h⟩:=h
  exact yO (Rf s t) LK (Zn h)
 suffices h:∃A1,ZI kX km QG QB [some (zj s),some (zj t),none,none] []=.ok (.rt (kq s t)) A1 by
  obtain ⟨A1,h⟩:=h
  exact ⟨A1,Sy h⟩
 unfold ZI
 rw [zD (ρ1:=[some (zj s),some (zj t),none,none]) (A1:=[]) (yx ((zR (ws:=[zj s]) (A1:=[]) rfl).trans (Zk hs [])))]
 rw [zD (ρ1:=[some (zj s),some (zj t),none,none]) (A1:=[]) (yx ((zR (ws:=[zj t]) (A1:=[]) rfl).trans (Zk ht [])))]
 rw [zD (ρ1:=[some (zj s),some (zj t),none,none]) (A1:=[]) (yx ((zR (ws:=[zj s]) (A1:=[]) rfl).trans (Wd s6 [])))]
 rw [zD (ρ1:=[some (zj s),some (zj t),none,none]) (A1:=[]) (yx ((zR (ws:=[zj t]) (A1:=[]) rfl).trans (Wd t6 [])))]
 have el:zl jC (mQ qa (zM (zc 0))) (mQ qa (zM (zc 1))) [some (zj s),some (zj t),none,none] []=.ok (.bl (!decide ((s.length:Int)=(t.length:Int)))) []:=(zO (yX rfl) (yX rfl)).trans (Uo _ _ _)
 by_cases hl:s.length=t.length
 ·rw [decide_eq_true (by omega)] at el
  have el':zl jC (mQ qa (zM (zc 0))) (mQ qa (zM (zc 1))) [some (zj s),some (zj t),none,none] []=.ok (.bl false) []:=el
  have er:kJ (mQ qa (zM (zc 1))) [some (zj s),some (zj t),none,none] []=.ok (.ref 0) [O.lst ((List.range t.length).map λ (a:Nat)=>W.int (a:Int))]:=by
   unfold kJ
   rw [yX (t:=t) rfl,zB]
   dsimp only
   rw [wR (by omega),Int.toNat_natCast,decide_eq_true (by unfold zP;omega)]
   rfl
  obtain ⟨B,e1,x1⟩:=Vn (A:=[O.lst ((List.range t.length).map λ (a:Nat)=>W.int (a:Int))]) (t:=t) (o:=List.range t.length) (w:=.ref 0) ht.sq So (by rw [List.length_range];omega) rfl
  have e2:=UJ s6 B
  obtain ⟨fl,B',e3,k⟩:=LG (t:=t) hs.sq s6 (r:=B.length) (y0 t) (os:=orders s.length) (λ o ho=>QK ho) (orders s.length).length 0 none (B++[O.lst ((orders s.length).map zT)]) (by omega) jq
  have hrun:jE (qd (zx kX (zh (mQ qa (zM (zc 0))) (zo)))) (zA 3) (zp (jc (zl yd (zx km (zh (zc 0) (zh (zc 3) (zo)))) (zc 2)) (zp (qj (zc 3)) (zw)) (zw)) (zw)) [some (zj s),some (zj t),some (zj (y0 t)),none] B=.ok fl B':=by
   refine (wq (j:=⟨λ A i=>(zE (.ref B.length) A).map λ ws=>ws[i]?,(orders s.length).length⟩) (A1:=B++[O.lst ((orders s.length).map zT)]) ?_).trans e3
   have:=ZR (m:=zx kX (zh (mQ qa (zM (zc 0))) (zo))) (ρ:=[some (zj s),some (zj t),some (zj (y0 t)),none]) (A:=B) ((zR (qm (yX rfl) jh)).trans e2) jq
   rw [List.length_map] at this
   exact this
  refine ⟨B',Zn ?_⟩
  refine (zD ((yz el').trans gE)).trans ?_
  refine (zD (ρ1:=[some (zj s),some (zj t),some (zj (y0 t)),none]) (A1:=B) (qM ((zR (qm (zu (i:=1) rfl) (qm er jh))).trans e1))).trans ?_
  unfold kq
  rw [if_pos hl]
  rw [List.drop_zero] at k
  rcases k with ⟨o,k1,rfl⟩ | ⟨k1,ρ',rfl⟩
  ·rw [k1];exact qD hrun
  ·rw [k1];exact (zD hrun).trans (qD (ji rfl))
 ·rw [decide_eq_false (by omega)] at el
  have el':zl jC (mQ qa (zM (zc 0))) (mQ qa (zM (zc 1))) [some (zj s),some (zj t),none,none] []=.ok (.bl true) []:=el
  refine ⟨[],Zn ?_⟩
  unfold kq
  rw [if_neg hl]
  exact qD ((wz el').trans (qD (ji rfl)))
end
noncomputable abbrev LS:List Lm:=k8 jx j4
noncomputable def RF (k:Nat)(ws:List W)(A:Hx):R W:=match yc LS k ws A with
 | .exc x A1=>(match gG x with
  | some i=>.ok (.ref (A1.length+11)) (A1++GX i)
  | none=>.bad)
 | _=>.bad
theorem CI {x:Str}{i:Nat}(hx:gG x=some i):zN.contains x=true:=by
 unfold gG at hx
 by_cases h:x = "NoTable"
 ·subst h;decide +kernel
 ·rw [if_neg h] at hx
  by_cases h':x = "TooMany"
  ·subst h';decide +kernel
  ·rw [if_neg h'] at hx;cases hx
theorem FI {PG:jJ}{k i:Nat}{ws:List W}{x:Str}{A A1:Hx}(hl:yc LS k ws A=.exc x A1)(hx:gG x=some i):
  zY 4 (JF PG (yc LS)) [.clo k ws (PG k)] A=.ok (.ref (A1.length+11)) (A1++GX i):=by
 have ec:Wr 0 PG (yc LS) [some (.clo k ws (PG k)),some .non,none,none] A=.exc x A1:=by
  unfold Wr
  refine (if_pos rfl).trans hl
 have et:Yd 0 1 2 zN PG (yc LS) [some (.clo k ws (PG k)),some .non,none,none] A=.ok (.nx [some (.clo k ws (PG k)),some (.xc x),none,none]) A1:=by
  unfold Yd
  rw [ec]
  dsimp only
  rw [if_pos (CI hx)]
  rfl
 refine jd ?_
 unfold JF
 refine (zD (ρ1:=[some (.clo k ws (PG k)),some .non,none,none]) (A1:=A) rfl).trans ?_
 exact (zD et).trans (Ij hx _ A1)
theorem Qn {k i:Nat}{ws:List W}{x:Str}{A A1:Hx}(hl:yc LS k ws A=.exc x A1)(hx:gG x=some i):RF k ws A=.ok (.ref (A1.length+11)) (A1++GX i):=by
 unfold RF
 rw [hl]
 dsimp only
 rw [hx]
theorem EK {PG:jJ}(us:List W)(A:Hx):Zs PG RF us A=.bad∨zY 4 (JF PG (yc LS)) us A=Zs PG RF us A:=by
 by_cases hb:Zs PG RF us A=.bad
 ·exact .inl hb
 right
 unfold Zs at hb ⊢
 split
 ·rename_i k ws P
  dsimp only at hb
  by_cases hP:P=PG k
  ·subst hP
   rw [if_pos rfl] at hb ⊢
   cases e:yc LS k ws A with
   | exc x A1=>
    cases hm:gG x with
    | none=>exfalso;apply hb;unfold RF;rw [e];dsimp only;rw [hm]
    | some i=>rw [FI e hm,Qn e hm]
   | ok w A1=>exfalso;apply hb;unfold RF;rw [e]
   | bad=>exfalso;apply hb;unfold RF;rw [e]
  ·rw [if_neg hP] at hb;exact absurd rfl hb
 ·rename_i h
  exfalso
  apply hb
  split
  ·rename_i k ws P
   exact (h k ws P rfl).elim
  ·rfl
section
variable {PG:jJ}{k:Nat}{ws:List W}{A:Hx}{d:W}
theorem Xt:gG "TooMany" = some 11:=by decide +kernel
end
structure zZ (ns:List Int)(Pt:Addr)(n:Nat)(A:Hx):Prop where
 h0:A[0]? =some (.ro (ns.map W.int))
 h1:A[1]? =some (.tab qZ Pt)
 two:2<=n
 st:yf n A
section
variable {ns:List Int}{Pt:Addr}{n:Nat}{A:Hx}
theorem zZ.lt (h:zZ ns Pt n A):n<A.length:=by obtain ⟨c,b,e,_⟩:=h.st;exact (List.getElem?_eq_some_iff.mp e).1
theorem zZ.app (h:zZ ns Pt n A)(o:O):zZ ns Pt n (A++[o]):=⟨jD h.h0,jD h.h1,h.two,let ⟨c,b,e,r⟩:=h.st;⟨c,b,jD e,r⟩⟩
theorem zZ.put (h:zZ ns Pt n A){k:Nat}(hk:n<k)(o:O):zZ ns Pt n (A.set k o):=by
 have:=h.two
 refine ⟨?_,?_,h.two,?_⟩
 ·rw [List.getElem?_set_ne (by omega)];exact h.h0
 ·rw [List.getElem?_set_ne (by omega)];exact h.h1
 ·obtain ⟨c,b,e,r⟩:=h.st
  exact ⟨c,b,by rw [List.getElem?_set_ne (by omega)];exact e,r⟩
theorem E5 (h:zZ ns Pt n A){m:Int}(h1:0<m)(h2:m<1000):∃(r:Nat) (A':Hx),qy [.ref n,.int m] A=.ok (.int r) A'/\(r:Int)<m/\zZ ns Pt n A'/\∀i,i≠n->A'[i]? =A[i]?:=by
 obtain ⟨r,o,e,a,b,s⟩:=Je h.st h1 h2
 have:=h.two
 refine ⟨r.toNat,A.set n o,?_,by omega,⟨?_,?_,h.two,s⟩,λ i hi=>List.getElem?_set_ne (Ne.symm hi)⟩
 ·rw [e,Int.toNat_of_nonneg a]
 ·rw [List.getElem?_set_ne (by omega)];exact h.h0
 ·rw [List.getElem?_set_ne (by omega)];exact h.h1
theorem Vp (h:zZ ns Pt n A){ρ:En}{k:Nat}{PF:jJ}:yR 1 qZ Pt k (PF k) ρ A=.ok (.clo k [] (PF k)) A:=by
 unfold yR
 rw [h.h1]
 dsimp only
 rw [if_pos ⟨rfl,rfl⟩]
end
section
variable {ns:List Int}{Pt:Addr}{m:Nat}{A A':Hx}
theorem zZ.ext (h:zZ ns Pt m A)(x:Ext A A'):zZ ns Pt m A':=⟨x.at h.h0,x.at h.h1,h.two,let ⟨a,b,e,r⟩:=h.st;⟨a,b,x.at e,r⟩⟩
end
section
variable {ns:List Int}{Pt:Addr}{n k:Nat}{A:Hx}{PF:jJ}{ρ:En}{t:Lm}{ws:List W}{d:W}{mm:Ev}
end
section
variable {s t:List (List Int)}
end
section
variable {A:Hx}
theorem Q3 {ls:List Lm}{k:Nat}{t:Lm}{ws:List W}(h:ls[k]? =some t):yc ls k ws A=t.m (ws.map some) A:=by unfold yc;rw [h]
end
section
variable {s t:List (List Int)}
end
end G
namespace Mi
open PySem L2
noncomputable def Ud (t:List (List Int)):Bool:=decide (1<=t.length)&&(decide (t.length<=8)&&((t.all λ r=>r.length==t.length&&r.all λ v=>decide (0<=v)&&decide (v<(t.length:Int)))&&
 (((List.range t.length).all λ a=>(List.range t.length).all λ b=>(decide (at2 t a b=0)==decide (a=b))&&decide (at2 t a b=at2 t b a))&&(List.range 8).all λ k=>!(t.flatten.any λ v=>decide ((k:Int)<v)) || t.flatten.contains (k:Int))))
theorem Eh {t:List (List Int)}(h:Ud t=true):qh t:=by
 unfold Ud at h
 rw [Bool.and_eq_true,Bool.and_eq_true,Bool.and_eq_true,Bool.and_eq_true,decide_eq_true_iff,decide_eq_true_iff] at h
 obtain ⟨n1,n8,hr,hs,hf⟩:=h
 have rw_:∀r∈t,r.length=t.length/\∀v∈r,0<=v/\v<(t.length:Int):=λ r hm=>by
  have:=List.all_eq_true.mp hr r hm
  rw [Bool.and_eq_true,beq_iff_eq] at this
  refine ⟨this.1,λ v hv=>?_⟩
  have:=List.all_eq_true.mp this.2 v hv
  rw [Bool.and_eq_true,decide_eq_true_iff,decide_eq_true_iff] at this
  exact this
 have at_:∀a b,a<t.length->b<t.length->(decide (at2 t a b=0)==decide (a=b))=true/\at2 t a b=at2 t b a:=λ a b ha hb=>by
  have:=List.all_eq_true.mp (List.all_eq_true.mp hs a (List.mem_range.mpr ha)) b (List.mem_range.mpr hb)
  rw [Bool.and_eq_true,decide_eq_true_iff] at this
  exact this
 refine ⟨n1,n8,λ r hm=>(rw_ r hm).1,λ r hm=>(rw_ r hm).2,λ a b ha hb=>?_,λ a b ha hb=>(at_ a b ha hb).2,λ k hk=>?_⟩
 ·have:=beq_iff_eq.mp (at_ a b ha hb).1
  by_cases q:a=b
  ·rw [decide_eq_true q] at this;exact ⟨λ _=>q,λ _=>of_decide_eq_true this⟩
  ·rw [decide_eq_false q] at this;exact ⟨λ z=>absurd z (of_decide_eq_false this),λ z=>absurd z q⟩
 ·obtain ⟨v,hv,hlt⟩:=hk
  obtain ⟨r,hm,hv'⟩:=List.mem_flatten.mp hv
  have:=(rw_ r hm).2 v hv'
  have h8:=List.all_eq_true.mp hf k (List.mem_range.mpr (by omega))
  rw [Bool.or_eq_true] at h8
  rcases h8 with z | z
  ·exfalso
   have:(t.flatten.any λ v=>decide ((k:Int)<v))=true:=List.any_eq_true.mpr ⟨v,hv,decide_eq_true hlt⟩
   rw [this] at z
   cases z
  ·exact List.contains_iff_mem.mp z
end Mi
namespace G
open PySem L2 Mi
section
variable (A:Hx)
end
section
variable {s t:List (List Int)}{w:W}{A B:Hx}{m:Nat}
noncomputable def gj (w:W)(B:Hx):Prop:=ye [w] B=.ok (.bl false) B
theorem Xx (h:gj w B):QB [w] B=.exc "NoTable" B:=by
 refine ZO ?_
 unfold YK
 exact gB ((wz (A1:=B) (Zn (ZT (k:=false) ((zR (ws:=[w]) (A1:=B) rfl).trans h)))).trans (gB rfl))
noncomputable abbrev r2 (a b:Int):W:=.tup [.int a,.int b]
noncomputable def yg (m:Nat):List W:=[.non,.int 0,.tup [],.tup [.tup [.int 1]],.tup [r2 0 1,r2 1 0,r2 0 0],.tup [r2 0 2,r2 2 0],.tup [r2 0 1,r2 2 0],.ref m]
noncomputable def kO (m:Nat):List W:=[.tup [r2 0 0,r2 0 0],.tup [.tup [.int 0,.bl true],.tup [.bl true,.int 0]],.tup [r2 0 1,.ref (m+2)],.tup [r2 0 1],.str "01/10",.ref (m+3),.tup (List.replicate 9 (.tup (List.replicate 9 (.int 0))))]
structure BH (m:Nat)(B:Hx):Prop where
 a:B[m]? =some (.lst [r2 0 1,r2 1 0])
 b:B[m+2]? =some (.lst [.int 1,.int 0])
 c:B[m+3]? =some (.dct [])
theorem PX {k:Nat}{ty:Ty}(h:gk (.ref k) B=some ty)(ht:kf ty .tup=false):gj (.ref k) B:=by
 unfold gj ye Ki
 refine jd ?_
 unfold JM
 refine qD ((wz (A1:=B) ?_).trans (qD (ji rfl)))
 refine Cn (A1:=B) ?_
 refine ZT (k:=false) ?_
 unfold we
 rw [zu (w:=.ref k) rfl,zB,h]
 dsimp only
 rw [ht]
theorem HW (h:BH m B):gj (.tup [r2 0 1,.ref (m+2)]) B:=by
 have ht:gk (.ref (m+2)) B=some .lst:=by unfold gk;dsimp only;rw [h.b]
 have e2:wO [.ref (m+2),.int 2,.int 2] B=.ok (.bl false) B:=by
  unfold wO WV
  refine jd ?_
  unfold YC
  refine qD (ji ?_)
  refine RQ (A1:=B) ((zR (ws:=[.ref (m+2),.int 2]) (A1:=B) rfl).trans ?_)
  unfold Qc G9
  refine jd ?_
  unfold Kc
  refine qD (ji ?_)
  refine RQ (A1:=B) ?_
  unfold we
  rw [zu (w:=.ref (m+2)) rfl,zB,ht]
  rfl
 have e1:wO [r2 0 1,.int 2,.int 2] B=.ok (.bl true) B:=Rn (r:=[0,1]) (by decide) (by decide) B
 unfold gj ye Ki
 refine jd ?_
 unfold JM
 refine (zD (ρ1:=[some (.tup [r2 0 1,.ref (m+2)]),none]) (A1:=B) rfl).trans ?_
 refine (zD (ρ1:=[some (.tup [r2 0 1,.ref (m+2)]),some (.int 2)]) (A1:=B) rfl).trans ?_
 have ec:=JQ (cap:=[1]) (A:=B) (ρ:=[some (.tup [r2 0 1,.ref (m+2)]),some (.int 2)]) (ws:=[r2 0 1,.ref (m+2)]) (me:=zx wO (zh (zc 0) (zh (zc 1) (zh (zc 1) (zo))))) (g:=λ w=>match w with | .ref _=>.bl false | _=>.bl true) (zu (i:=0) rfl) (by show 2<=zP;decide) (λ w hw=>by
  rcases List.mem_cons.mp hw with rfl | hw
  ·exact (zR (ws:=[r2 0 1,.int 2,.int 2]) (A1:=B) rfl).trans e1
  ·rcases List.mem_cons.mp hw with rfl | hw
   ·exact (zR (ws:=[.ref (m+2),.int 2,.int 2]) (A1:=B) rfl).trans e2
   ·cases hw)
 refine qD ((wz (A1:=B) (ZT (k:=false) ((yn ec).trans rfl))).trans (qD (ji rfl)))
theorem n0 (B:Hx):ye [.non] B=.ok (.bl false) B:=by kernel_rfl
theorem n1 (B:Hx):ye [.int 0] B=.ok (.bl false) B:=by kernel_rfl
theorem n2 (B:Hx):ye [.tup []] B=.ok (.bl false) B:=by kernel_rfl
theorem n3 (B:Hx):ye [.tup [.tup [.int 1]]] B=.ok (.bl false) B:=by kernel_rfl
theorem n4 (B:Hx):ye [.tup [r2 0 1,r2 1 0,r2 0 0]] B=.ok (.bl false) B:=by kernel_rfl
theorem n5 (B:Hx):ye [.tup [r2 0 2,r2 2 0]] B=.ok (.bl false) B:=by kernel_rfl
theorem n6 (B:Hx):ye [.tup [r2 0 1,r2 2 0]] B=.ok (.bl false) B:=by kernel_rfl
theorem n8 (B:Hx):ye [.tup [r2 0 0,r2 0 0]] B=.ok (.bl false) B:=by kernel_rfl
theorem n9 (B:Hx):ye [.tup [.tup [.int 0,.bl true],.tup [.bl true,.int 0]]] B=.ok (.bl false) B:=by kernel_rfl
theorem B9 (B:Hx):ye [.tup [r2 0 1]] B=.ok (.bl false) B:=by kernel_rfl
theorem Aj (B:Hx):ye [.str "01/10"] B=.ok (.bl false) B:=by kernel_rfl
theorem Ac (B:Hx):ye [.tup (List.replicate 9 (.tup (List.replicate 9 (.int 0))))] B=.ok (.bl false) B:=by kernel_rfl
theorem Vi (h:BH m B):∀w∈yg m++kO m,gj w B:=by
 have a7:gj (.ref m) B:=PX (ty:=.lst) (by unfold gk;dsimp only;rw [h.a]) rfl
 have a13:gj (.ref (m+3)) B:=PX (ty:=.dct) (by unfold gk;dsimp only;rw [h.c]) rfl
 intro w hw
 simp only [yg,kO,List.cons_append,List.nil_append,List.mem_cons,List.not_mem_nil,or_false] at hw
 rcases hw with rfl | rfl | rfl | rfl | rfl | rfl | rfl | rfl | rfl | rfl | rfl | rfl | rfl | rfl | rfl
 ·exact n0 B
 ·exact n1 B
 ·exact n2 B
 ·exact n3 B
 ·exact n4 B
 ·exact n5 B
 ·exact n6 B
 ·exact a7
 ·exact n8 B
 ·exact n9 B
 ·exact HW h
 ·exact B9 B
 ·exact Aj B
 ·exact a13
 ·exact Ac B
end
section
variable {ns:List Int}{Pt:Addr}{n m:Nat}{A B:Hx}
theorem BH.keep {B':Hx}(h:BH m B)(k:∀i,m<=i->i<m+4->B'[i]? =B[i]?):BH m B':=⟨by rw [k m (by omega) (by omega)];exact h.a,by rw [k (m+2) (by omega) (by omega)];exact h.b,by rw [k (m+3) (by omega) (by omega)];exact h.c⟩
theorem BH.ext {B':Hx}(h:BH m B)(x:Ext B B'):BH m B':=⟨x.at h.a,x.at h.b,x.at h.c⟩
theorem BH.lt (h:BH m B):m+3<B.length:=(List.getElem?_eq_some_iff.mp h.c).1
theorem BH.put (h:BH m B){k:Nat}(hk:m+3<k)(o:O):BH m (B.set k o):=h.keep λ i h1 h2=>List.getElem?_set_ne (by omega)
noncomputable def bX (m:Nat):Hx:=[.lst [r2 0 1,r2 1 0],.lst (yg m),.lst [.int 1,.int 0],.dct [],.lst (kO m),.lst (yg m++kO m)]
theorem Fx (n:Nat)(A:Hx):zK 1 (zX (zh (zi .non) (zh (zi (.int 0)) (zh (zS (zo)) (zh (zS (zh (zS (zh (zi (.int 1)) (zo))) (zo))) (zh (zS (zh (zS (zh (zi (.int 0)) (zh (zi (.int 1)) (zo)))) (zh (zS (zh (zi (.int 1)) (zh (zi (.int 0)) (zo)))) (zh (zS (zh (zi (.int 0)) (zh (zi (.int 0)) (zo)))) (zo))))) (zh (zS (zh (zS (zh (zi (.int 0)) (zh (zi (.int 2)) (zo)))) (zh (zS (zh (zi (.int 2)) (zh (zi (.int 0)) (zo)))) (zo)))) (zh (zS (zh (zS (zh (zi (.int 0)) (zh (zi (.int 1)) (zo)))) (zh (zS (zh (zi (.int 2)) (zh (zi (.int 0)) (zo)))) (zo)))) (zh (zX (zh (zS (zh (zi (.int 0)) (zh (zi (.int 1)) (zo)))) (zh (zS (zh (zi (.int 1)) (zh (zi (.int 0)) (zo)))) (zo)))) (zo)))))))))) [some (.ref n),none] A=.ok (.nx [some (.ref n),some (.ref (A++[O.lst [r2 0 1,r2 1 0]]).length)]) (A++[O.lst [r2 0 1,r2 1 0]]++[O.lst (yg A.length)]):=by kernel_rfl
noncomputable def PM (m k:Nat):List W:=[.tup [r2 0 0,r2 0 0],.tup [.tup [.int 0,.bl true],.tup [.bl true,.int 0]],.tup [r2 0 1,.ref m],.tup [r2 0 1],.str "01/10",.ref k,.tup (List.replicate 9 (.tup (List.replicate 9 (.int 0))))]
theorem FY (n k:Nat)(A:Hx):zX (zh (zS (zh (zS (zh (zi (.int 0)) (zh (zi (.int 0)) (zo)))) (zh (zS (zh (zi (.int 0)) (zh (zi (.int 0)) (zo)))) (zo)))) (zh (zS (zh (zS (zh (zi (.int 0)) (zh (zi (.bl true)) (zo)))) (zh (zS (zh (zi (.bl true)) (zh (zi (.int 0)) (zo)))) (zo)))) (zh (zS (zh (zS (zh (zi (.int 0)) (zh (zi (.int 1)) (zo)))) (zh (zX (zh (zi (.int 1)) (zh (zi (.int 0)) (zo)))) (zo)))) (zh (zS (zh (zS (zh (zi (.int 0)) (zh (zi (.int 1)) (zo)))) (zo))) (zh (zi (.str "01/10")) (zh (Qv) (zh (zl Zr (zS (zh (zl Zr (zS (zh (zi (.int 0)) (zo))) (zi (.int 9))) (zo))) (zi (.int 9))) (zo)))))))) [some (.ref n),some (.ref k)] A=.ok (.ref (A++[O.lst [.int 1,.int 0]]++[O.dct []]).length) (A++[O.lst [.int 1,.int 0]]++[O.dct []]++[O.lst (PM A.length (A++[O.lst [.int 1,.int 0]]).length)]):=by kernel_rfl
theorem DA (h:zZ ns Pt n A):∃(w:W) (A':Hx),Zc [.ref n] A=.ok w A'/\w∈yg A.length++kO A.length/\zZ ns Pt n A'/\BH A.length A'/\(∀i,i<A.length->i≠n->A'[i]? =A[i]?):=by
 have hlt:=h.lt
 have hx:Ext A (A++bX A.length):=⟨_,rfl⟩
 have hat:∀j,(A++bX A.length)[A.length+j]? =(bX A.length)[j]?:=λ j=>by rw [List.getElem?_append_right (by omega),show A.length+j - A.length=j by omega]
 obtain ⟨r,A',e,hr,H,k⟩:=E5 (h.ext hx) (m:=15) (by decide) (by decide)
 have hlen:(yg A.length++kO A.length).length=15:=rfl
 have hw:(yg A.length++kO A.length)[r]? =some (yg A.length++kO A.length)[r]:=List.getElem?_eq_getElem (by omega)
 refine ⟨(yg A.length++kO A.length)[r]'(by omega),A',?_,List.getElem_mem _,H,?_,λ i hi hn=>?_⟩
 ·unfold Zc Ux
  refine jd ?_
  unfold W3
  refine (zD (ρ1:=[some (.ref n),some (.ref (A.length+1))]) (A1:=A++[.lst [r2 0 1,r2 1 0],.lst (yg A.length)]) ?_).trans ?_
  ·refine (Fx n A).trans ?_
   rw [List.length_append,List.append_assoc];rfl
  refine (zD (ρ1:=[some (.ref n),some (.ref (A.length+5))]) (A1:=A++bX A.length) ?_).trans ?_
  ·have e2:=FY n (A.length+1) (A++[.lst [r2 0 1,r2 1 0],.lst (yg A.length)])
   have hx2:A++[O.lst [r2 0 1,r2 1 0],.lst (yg A.length)]++[O.lst [.int 1,.int 0]]++[O.dct []]++[O.lst (PM (A++[O.lst [r2 0 1,r2 1 0],.lst (yg A.length)]).length (A++[O.lst [r2 0 1,r2 1 0],.lst (yg A.length)]++[O.lst [.int 1,.int 0]]).length)]=A++[.lst [r2 0 1,r2 1 0],.lst (yg A.length),.lst [.int 1,.int 0],.dct [],.lst (kO A.length)]:=by
    rw [List.length_append,List.length_append,List.length_append,List.append_assoc,List.append_assoc,List.append_assoc]
    rfl
   have hl2:(A++[O.lst [r2 0 1,r2 1 0],.lst (yg A.length)]++[O.lst [.int 1,.int 0]]++[O.dct []]).length=A.length+4:=by simp
   rw [hx2,hl2] at e2
   have hat2:∀j,(A++[.lst [r2 0 1,r2 1 0],.lst (yg A.length),.lst [.int 1,.int 0],.dct [],.lst (kO A.length)]:Hx)[A.length+j]? =([.lst [r2 0 1,r2 1 0],.lst (yg A.length),.lst [.int 1,.int 0],.dct [],.lst (kO A.length)]:Hx)[j]?:=λ j=>by rw [List.getElem?_append_right (by omega),show A.length+j - A.length=j by omega]
   refine (qM ((zO (zu (i:=1) rfl) e2).trans (XA (hat2 1) (hat2 4) (by show 15<=zP;decide)))).trans ?_
   rw [List.length_append,List.append_assoc]
   rfl
  refine qD (ji ?_)
  refine (zO (zu (i:=1) rfl) ((zR (ws:=[.ref n,.int 15]) (A1:=A++bX A.length) rfl).trans e)).trans ?_
  refine ZU (ws:=yg A.length++kO A.length) ?_ hw
  rw [k _ (by omega),hat 5]
  rfl
 ·have b0:BH A.length (A++bX A.length):=⟨hat 0,hat 2,hat 3⟩
  exact b0.keep λ i h1 h2=>k i (by omega)
 ·rw [k i hn,List.getElem?_append_left hi]
end
end G
namespace Mi
open PySem L2
section
variable {j:jv}{me:Ev}{c:En}{A A1:Hx}{f i:Nat}{x:Option W}{w y:W}{acc:List W}{ρ:En}{m:Ev}
theorem UU {n:Nat}(h:n<1000000):jM (n:Int)=true:=by
 unfold jM
 rw [Bool.and_eq_true,decide_eq_true_iff,decide_eq_true_iff]
 omega
theorem Lw (h:j.at_ A i=some none):qt j (zA 0) (zi (.bl true)) (zJ me) f i ρ acc A=.ok (ρ,acc) A:=by
 cases f<;>(unfold qt;rw [h])
theorem M4 (h:j.at_ A i=some (some w))(he:me (some w::c) A=.ok y A1)(hl:acc.length<zP):qt j (zA 0) (zi (.bl true)) (zJ me) (f+1) i (x::c) acc A=qt j (zA 0) (zi (.bl true)) (zJ me) f (i+1) (some w::c) (acc++[y]) A1:=by
 rw [qt,h]
 dsimp only [zA,List.set,zi]
 rw [zB]
 dsimp only
 have ee:zJ me (some w::c) acc A=.ok (some w::c,acc++[y]) A1:=by
  unfold zJ
  rw [he,zB,if_pos hl]
 rw [ee,zB]
theorem EA {n:Nat}{ws:List W}(h:m ρ A=.ok (.ref n) A1)(hA:A1[n]? =some (.lst ws)):qd m ρ A=.ok ⟨λ A i=>(zE (.ref n) A).map λ ws=>ws[i]?,ws.length⟩ A1:=by
 unfold qd Jz
 rw [h,zB]
 have e:zE (.ref n) A1=some ws:=by unfold zE;dsimp only;rw [hA]
 rw [e]
theorem PU {n i:Nat}{ws:List W}(hA:A[n]? =some (.lst ws)):((zE (.ref n) A).map λ ws=>ws[i]?)=some ws[i]?:=by
 have e:zE (.ref n) A=some ws:=by unfold zE;dsimp only;rw [hA]
 rw [e];rfl
theorem Pn {c:Nat}{o u:O}(h:A[c]? =some u):(A.set c o)[c]? =some o:=List.getElem?_set_self (List.getElem?_eq_some_iff.mp h).1
theorem TK {g:W->Option PyData}{ws:List W}{d:PyData}{ds:List PyData}(h:g w=some d)(r:jP g ws=some ds):jP g (w::ws)=some (d::ds):=by
 unfold jP
 rw [h,r]
theorem U3 {g:W->Option PyData}{f:Nat->W}{d:PyData}:∀(n:Nat) (s:Nat),(∀t,s<=t->t<s+n->g (f t)=some d)->jP g ((List.range' s n).map f)=some (List.replicate n d)
 | 0,_,_=>rfl
 | n+1,s,h=>by
  rw [List.range'_succ,List.map_cons,List.replicate_succ]
  exact TK (h s (by omega) (by omega)) (U3 n (s+1) λ t h1 h2=>h t (by omega) (by omega))
theorem Sv {g:W->Option PyData}{w:W}{d:PyData}(h:g w=some d):∀n:Nat,jP g (List.replicate n w)=some (List.replicate n d)
 | 0=>rfl
 | n+1=>by rw [List.replicate_succ,List.replicate_succ];exact TK h (Sv h n)
theorem Rj {n k:Nat}{v:Int}(h:A[n]? =some (.lst [.int v])):qf A (k+1) (.ref n)=some (.list [.int v]):=by
 unfold qf
 have e:zE (.ref n) A=some [.int v]:=by unfold zE;dsimp only;rw [h]
 rw [e]
 cases k<;>rfl
theorem Sd {n k:Nat}{ws:List W}{ds:List PyData}(h:A[n]? =some (.lst ws))(hd:jP (qf A k) ws=some ds):qf A (k+1) (.ref n)=some (.list ds):=by
 unfold qf
 have e:zE (.ref n) A=some ws:=by unfold zE;dsimp only;rw [h]
 rw [e]
 dsimp only
 rw [hd]
 rfl
theorem C1 {a b:W}{d:PyData}(ha:qf A 8 a=some d)(hb:qf A 8 b=some d)(hr:PyData.eqv d d=true):jC a b A=.ok (.bl false) A:=by
 show wF true a b A=_
 unfold wF
 rw [ha,hb]
 dsimp only
 rw [if_pos rfl,hr]
 rfl
end
end Mi
namespace G
open PySem L2 Mi
section
variable {ns:List Int}{Pt:Addr}{n:Nat}{A:Hx}
theorem DP {ns:List Int}{A:Hx}(hA:A[0]? =some (.ro (ns.map W.int)))(k:Nat):∃x:Int,QD [.ref 0,.int k] A=.ok (.int x) A:=by
 have hs:zE (.ref 0) A=some (ns.map W.int):=by unfold zE;dsimp only;rw [hA]
 have hl:mQ qa (zM (zc 0)) [some (.ref 0),some (.int k)] A=.ok (.int ns.length) A:=by
  rw [yn (yM (w:=.ref 0) (A1:=A) (zu rfl) hs)]
  unfold qa
  rw [List.length_map]
 have ec:zl Yr (zc 1) (mQ qa (zM (zc 0))) [some (.ref 0),some (.int k)] A=.ok (.bl (decide ((k:Int)<ns.length))) A:=(zO (zu (w:=.int k) rfl) hl).trans rfl
 by_cases h:k<ns.length
 ·refine ⟨ns[k],jd ?_⟩
  unfold YO
  rw [decide_eq_true (by omega)] at ec
  refine qD ((wz ec).trans (qD (ji ?_)))
  refine (zO (x:=.ref 0) (y:=.int k) (A1:=A) (A2:=A) (zu rfl) (zu rfl)).trans ?_
  unfold zI
  rw [hs]
  dsimp only
  rw [KL (v:=.int ns[k]) (by rw [List.getElem?_map,List.getElem?_eq_getElem h];rfl)]
 ·refine ⟨0,jd ?_⟩
  unfold YO
  rw [decide_eq_false (by omega)] at ec
  exact (zD ((yz ec).trans rfl)).trans rfl
theorem Fz {ns:List Int}{A:Hx}(hA:A[0]? =some (.ro (ns.map W.int)))(k:Nat):∃o,ZL [.ref 0,.int k] A=.ok (.ref A.length) (A++[o])/\yf A.length (A++[o]):=by
 obtain ⟨x,e⟩:=DP hA k
 have e1:zK 2 (zx QD (zh (zc 0) (zh (zc 1) (zo)))) [some (.ref 0),some (.int k),none] A=.ok (.nx [some (.ref 0),some (.int k),some (.int x)]) A:=by
  refine (qM (w:=.int x) (A1:=A) ?_).trans rfl
  rw [zR (ws:=[.ref 0,.int k]) (A1:=A) rfl]
  exact e
 have ec:zl Uq (zc 2) (zl Wq (zi (.int 10)) (zi (.int 18))) [some (.ref 0),some (.int k),some (.int x)] A=.ok (.bl (decide ((1000000000000000000:Int)<=x))) A:=(zO (x:=.int x) (y:=.int 1000000000000000000) (A1:=A) (A2:=A) (zu rfl) rfl).trans rfl
 by_cases h:(1000000000000000000:Int)<=x
 ·refine ⟨.lst [.int (x - 1000000000000000000),.bl true],jd ?_,x - 1000000000000000000,true,jq,by omega,λ z=>nomatch z⟩
  unfold Y6
  rw [decide_eq_true h] at ec
  refine (zD e1).trans (qD ((wz ec).trans (qD (ji (yF ?_)))))
  rfl
 ·refine ⟨.lst [.int (x % 2147483647),.bl false],jd ?_,x % 2147483647,false,jq,Int.emod_nonneg _ (by decide),λ _=>Int.emod_lt_of_pos _ (by decide)⟩
  unfold Y6
  rw [decide_eq_false h] at ec
  refine (zD e1).trans ((zD ((yz ec).trans rfl)).trans (qD (ji (yF ?_))))
  refine qm (A1:=A) (A2:=A) ((zO (x:=.int x) (y:=.int 2147483647) (A1:=A) (A2:=A) (zu rfl) rfl).trans (Qj (by decide))) rfl
theorem R0 {ρ:En}{c:Nat}{ws:List W}{mm:Ev}{w:W}(hc:ρ[12]? =some (some (.ref c)))(hA:A[c]? =some (.lst ws))(hm:mm ρ A=.ok w A)(hl:ws.length<100):qQ (qx qY (zc 12) mm) ρ A=.ok (.nx ρ) (A.set c (.lst (ws++[w]))):=by
 refine yx (w:=.non) ?_
 unfold qx
 rw [zu hc,zB]
 have il:kR (.ref c) A=true:=by unfold kR;dsimp only;rw [hA]
 rw [if_pos il,hm,zB]
 unfold qY
 dsimp only
 rw [hA]
 dsimp only
 rw [if_pos (by unfold zP;omega)]
theorem PO {m:Ev}{m1:Ex}{ρ:En}(h:m ρ A=.ok (.bl true) A):jc (kz m) m1 (zw) ρ A=.ok (.nx ρ) A:=(yz (ZT h)).trans rfl
end
section
variable {ns:List Int}{Pt:Addr}{m:Nat}{A A':Hx}{PF:jJ}{ρ:En}{c n g:Nat}{ks:List Nat}
noncomputable def yv (g i:Nat):Hx:=(List.replicate i (GX g)).flatten
theorem KP (g i:Nat):(yv g i).length=12 * i:=by
 unfold yv
 rw [len_rep]
 show i * 12=_
 omega
theorem TR (g i:Nat):yv g i++GX g=yv g (i+1):=by
 unfold yv
 rw [List.replicate_succ',List.flatten_append]
 simp
theorem RO (g:Nat):∀(i t:Nat),t<i->(yv g i)[12 * t+11]? =some (.lst [.int (g:Int)])
 | 0,_,h=>absurd h (Nat.not_lt_zero _)
 | i+1,t,h=>by
  rw [<- TR]
  by_cases ht:t<i
  ·rw [List.getElem?_append_left (by rw [KP];omega)]
   exact RO g i t ht
  ·have:t=i:=by omega
   subst this
   rw [List.getElem?_append_right (by rw [KP];omega),KP,show 12 * t+11 - 12 * t=11 by omega]
   rfl
noncomputable def JA (g m:Nat)(ρ:En)(ks:List Nat):Prop:=∀k∈ks,∃t ws,LS[k]? =some t/\wI t.idx ρ=some ws/\∀A,BH m A->RF k ws A=.ok (.ref (A.length+11)) (A++GX g)
theorem Cd (h:JA g m ρ ks)(b:BH m A){k:Nat}(hk:k∈ks):ZD 0 PF LS RF ρ [some (.clo k [] (PF k))] A=.ok (.ref (A.length+11)) (A++GX g):=by
 obtain ⟨t,ws,h1,h2,h3⟩:=h k hk
 unfold ZD
 refine (if_pos rfl).trans ?_
 rw [h1]
 dsimp only
 rw [h2]
 exact h3 A b
theorem FX (h:JA g m ρ ks)(b:BH m A)(hA:A[c]? =some (O.lst (ks.map λ k=>.clo k [] (PF k))))(hl:ks.length<=100):∀(f i:Nat) (x:Option W),i+f=ks.length->∃y,
  qt ⟨λ A i=>(zE (.ref c) A).map λ ws=>ws[i]?,ks.length⟩ (zA 0) (zi (.bl true)) (zJ (ZD 0 PF LS RF ρ)) f i [x] ((List.range' 0 i).map λ t=>W.ref (A.length+(12 * t+11))) (A++yv g i)=
   .ok ([y],(List.range' 0 ks.length).map λ t=>W.ref (A.length+(12 * t+11))) (A++yv g ks.length):=by
 intro f
 induction f with
 | zero=>
  intro i x hi
  have:i=ks.length:=by omega
  subst this
  refine ⟨x,Lw ?_⟩
  have hc:=Ext.at (A':=A++yv g ks.length) ⟨_,rfl⟩ hA
  show ((zE (.ref c) _).map λ ws=>ws[ks.length]?)=some none
  rw [PU hc,List.getElem?_eq_none (by simp)]
 | succ f ih=>
  intro i x hi
  have hik:i<ks.length:=by omega
  obtain ⟨y,e⟩:=ih (i+1) (some (.clo ks[i] [] (PF ks[i]))) (by omega)
  refine ⟨y,?_⟩
  have hc:=Ext.at (A':=A++yv g i) ⟨_,rfl⟩ hA
  rw [M4 (w:=.clo ks[i] [] (PF ks[i])) (y:=.ref ((A++yv g i).length+11)) (A1:=A++yv g i++GX g) ?_ (Cd h (b.ext ⟨_,rfl⟩) (List.getElem_mem hik)) (by simp;unfold zP;omega)]
  ·have e1:A++yv g i++GX g=A++yv g (i+1):=by rw [List.append_assoc,TR]
   have e2:((List.range' 0 i).map λ t=>W.ref (A.length+(12 * t+11)))++[W.ref ((A++yv g i).length+11)]=(List.range' 0 (i+1)).map λ t=>W.ref (A.length+(12 * t+11)):=by
    rw [List.range'_concat,List.map_append,List.map_singleton,List.length_append,KP]
    congr 3
    omega
   rw [e1,e2]
   exact e
  ·show ((zE (.ref c) _).map λ ws=>ws[i]?)=some (some _)
   rw [PU hc,List.getElem?_map,List.getElem?_eq_getElem hik]
   rfl
theorem Fi (h:JA g m ρ ks)(b:BH m A)(hA:A[c]? =some (O.lst (ks.map λ k=>.clo k [] (PF k))))(hρ:ρ[12]? =some (some (.ref c)))(hl:ks.length<=100)(hn:n=ks.length)
  (he:PyData.eqv (.list (List.replicate ks.length (.list [.int (g:Int)]))) (.list (List.replicate ks.length (.list [.int (g:Int)])))=true):
  ∃A',zl jC (qO (Qo 1 (qd (zc 12)) (zA 0) 0 PF LS RF)) (zl qJ (zX (zh (zX (zh (zi (.int (g:Int))) (zo))) (zo))) (zi (.int n))) ρ A=.ok (.bl false) A'/\Ext A A':=by
 subst hn
 obtain ⟨y,e⟩:=FX (PF:=PF) h b hA hl ks.length 0 none (by omega)
 have e1:Qo 1 (qd (zc 12)) (zA 0) 0 PF LS RF ρ A=.ok ((List.range' 0 ks.length).map λ t=>W.ref (A.length+(12 * t+11))) (A++yv g ks.length):=by
  unfold Qo zW
  rw [EA (zu hρ) hA,zB]
  have hl2:(ks.map λ k=>W.clo k [] (PF k)).length=ks.length:=by simp
  dsimp only
  rw [hl2]
  have e':qt ⟨λ A i=>(zE (.ref c) A).map λ ws=>ws[i]?,ks.length⟩ (zA 0) (zi (.bl true)) (zJ (ZD 0 PF LS RF ρ)) ks.length 0 (gL 1 [] ρ) [] A=.ok ([y],(List.range' 0 ks.length).map λ t=>W.ref (A.length+(12 * t+11))) (A++yv g ks.length):=by
   have:=e
   rw [show yv g 0=[] from rfl,List.append_nil] at this
   exact this
  rw [e']
  rfl
 have hat:∀t,t<ks.length->(A++yv g ks.length)[A.length+(12 * t+11)]? =some (.lst [.int (g:Int)]):=λ t ht=>by
  rw [List.getElem?_append_right (by omega),show A.length+(12 * t+11) - A.length=12 * t+11 by omega]
  exact RO _ _ _ ht
 generalize hB:A++yv g ks.length=B at e1 hat
 have e2:=gA e1
 generalize hacc:((List.range' 0 ks.length).map λ t=>W.ref (A.length+(12 * t+11)))=acc at e2
 have e3:zl qJ (zX (zh (zX (zh (zi (.int (g:Int))) (zo))) (zo))) (zi (.int ks.length)) ρ (B++[O.lst acc])=
   .ok (.ref (B++[O.lst acc]++[O.lst [.int (g:Int)]]++[O.lst [.ref (B++[O.lst acc]).length]]).length) (B++[O.lst acc]++[O.lst [.int (g:Int)]]++[O.lst [.ref (B++[O.lst acc]).length]]++[O.lst (List.replicate ks.length (.ref (B++[O.lst acc]).length))]):=by
  refine (zO (x:=.ref (B++[O.lst acc]++[O.lst [.int (g:Int)]]).length) (y:=.int ks.length) (A1:=B++[O.lst acc]++[O.lst [.int (g:Int)]]++[O.lst [.ref (B++[O.lst acc]).length]]) (yF (qm (yF (ws:=[.int (g:Int)]) (A1:=B++[O.lst acc]) rfl) rfl)) rfl).trans ?_
  unfold qJ
  dsimp only
  rw [jq]
  dsimp only
  rw [if_pos ?_,Int.toNat_natCast,List.flatten_replicate_singleton]
  rw [Bool.and_eq_true,decide_eq_true_iff,Int.toNat_natCast]
  refine ⟨UU (by omega),?_⟩
  show 1 * ks.length<=zP
  unfold zP
  omega
 generalize hC:B++[O.lst acc]++[O.lst [.int (g:Int)]]++[O.lst [.ref (B++[O.lst acc]).length]]=C at e3
 have xB:Ext B (B++[O.lst acc]):=.one
 have xC:Ext (B++[O.lst acc]++[O.lst [.int (g:Int)]]) (C++[O.lst (List.replicate ks.length (.ref (B++[O.lst acc]).length))]):=by rw [<- hC];exact Ext.one.trans .one
 have xA:Ext A (C++[O.lst (List.replicate ks.length (.ref (B++[O.lst acc]).length))]):=Ext.trans ⟨_,hB.symm⟩ (xB.trans (Ext.one.trans xC))
 have hall:∀D:Hx,(∀t,t<ks.length->D[A.length+(12 * t+11)]? =some (O.lst [.int (g:Int)]))->jP (qf D 7) acc=some (List.replicate ks.length (.list [.int (g:Int)])):=λ D hD=>by
  rw [<- hacc]
  exact U3 _ _ λ t _ ht=>Rj (hD t (by omega))
 refine ⟨_,(zO e2 e3).trans (C1 (d:=.list (List.replicate ks.length (.list [.int (g:Int)]))) ?_ ?_ he),xA⟩
 ·refine Sd (k:=7) ((Ext.one.trans xC).at jq) ?_
  exact hall _ λ t ht=>(xB.trans (Ext.one.trans xC)).at (hat t ht)
 ·refine Sd (k:=7) jq ?_
  exact Sv (Rj (xC.at jq)) _
theorem XO:gG "NoTable" = some 0:=by decide +kernel
end
noncomputable def qS:Nat->List (List Int)
 | 0=>[[0,1,1,1,1,2],[1,0,1,1,2,1],[1,1,0,2,1,1],[1,1,2,0,1,1],[1,2,1,1,0,1],[2,1,1,1,1,0]]
 | 1=>[[0,1,2,3,2,1],[1,0,1,2,3,2],[2,1,0,1,2,3],[3,2,1,0,1,2],[2,3,2,1,0,1],[1,2,3,2,1,0]]
 | 2=>[[0,1,1,2,2,2],[1,0,1,2,2,2],[1,1,0,2,2,2],[2,2,2,0,1,1],[2,2,2,1,0,1],[2,2,2,1,1,0]]
 | 3=>[[0,1,2,2,1],[1,0,1,2,2],[2,1,0,1,2],[2,2,1,0,1],[1,2,2,1,0]]
 | 4=>(List.range 7).map λ i=>(List.range 7).map λ j=>if i=j then 0 else 1
 | _=>(List.range 8).map λ i=>(List.range 8).map λ j=>if i=j then 0 else 1
theorem FZ:((List.range 6).all λ i=>Ud (qS i))=true:=by decide +kernel
theorem SK {i:Nat}(h:i<6):qh (qS i):=Eh (List.all_eq_true.mp FZ i (List.mem_range.mpr h))
noncomputable def valOf (r:R W):Option W:=match r with
 | .ok w _=>some w
 | _=>none
theorem Rv {f:Fn}{ws:List W}{w:W}{A:Hx}(hn:qT ws=true)(hw:w.nr=true)(h:valOf (f ws [])=some w):iso f ws A=.ok w A:=by
 cases e:f ws [] with
 | ok v A1=>rw [e] at h;cases h;exact yO hn hw e
 | _=>rw [e] at h;cases h
section
variable (A:Hx)
theorem EW:Zh [.int 4] A=.ok (zj (qS 0)) A:=Rv rfl (yD _) (by kernel_rfl)
theorem CM:kE [.int 6] A=.ok (zj (qS 1)) A:=yO (A1:=[]) rfl (yD _) (by kernel_rfl)
theorem IF:Zg [.int 2,.int 3] A=.ok (zj (qS 2)) A:=Rv rfl (yD _) (by kernel_rfl)
theorem C5:kE [.int 5] A=.ok (zj (qS 3)) A:=yO (A1:=[]) rfl (yD _) (by kernel_rfl)
theorem DE:gv [.int 7] A=.ok (zj (qS 4)) A:=yO (A1:=[]) rfl (yD _) (by kernel_rfl)
theorem Du:gv [.int 8] A=.ok (zj (qS 5)) A:=yO (A1:=[]) rfl (yD _) (by kernel_rfl)
end
section
variable {s t g:List (List Int)}{w:W}{A:Hx}{m:Nat}{ρ:En}
theorem DJ (hg:qh g)(h:6<g.length)(A:Hx):j4 [zj g] A=.exc "TooMany" A:=by
 refine ZO ?_
 unfold JP
 refine (zD (ρ1:=[some (zj g)]) (A1:=A) (yx ((zR (ws:=[zj g]) (A1:=A) rfl).trans (Zk hg A)))).trans ?_
 exact gB (QX ((zR (ws:=[zj g]) (A1:=A) rfl).trans (VJ h A)))
theorem Ic (hg:qh g)(ht:qh t)(h:6<g.length)(A:Hx):jx [zj g,zj t] A=.exc "TooMany" A:=by
 refine ZO ?_
 unfold ZI
 refine (zD (ρ1:=[some (zj g),some (zj t),none,none]) (A1:=A) (yx ((zR (ws:=[zj g]) (A1:=A) rfl).trans (Zk hg A)))).trans ?_
 refine (zD (ρ1:=[some (zj g),some (zj t),none,none]) (A1:=A) (yx ((zR (ws:=[zj t]) (A1:=A) rfl).trans (Zk ht A)))).trans ?_
 exact gB (QX ((zR (ws:=[zj g]) (A1:=A) rfl).trans (VJ h A)))
theorem IY (hg:qh g)(ht:qh t)(h6:t.length<=6)(h:6<g.length)(A:Hx):jx [zj t,zj g] A=.exc "TooMany" A:=by
 refine ZO ?_
 unfold ZI
 refine (zD (ρ1:=[some (zj t),some (zj g),none,none]) (A1:=A) (yx ((zR (ws:=[zj t]) (A1:=A) rfl).trans (Zk ht A)))).trans ?_
 refine (zD (ρ1:=[some (zj t),some (zj g),none,none]) (A1:=A) (yx ((zR (ws:=[zj g]) (A1:=A) rfl).trans (Zk hg A)))).trans ?_
 refine (zD (ρ1:=[some (zj t),some (zj g),none,none]) (A1:=A) (yx ((zR (ws:=[zj t]) (A1:=A) rfl).trans (Wd h6 A)))).trans ?_
 exact gB (QX ((zR (ws:=[zj g]) (A1:=A) rfl).trans (VJ h A)))
theorem Dv (h:gj w A):j4 [w] A=.exc "NoTable" A:=by
 refine ZO ?_
 unfold JP
 exact gB (QX ((zR (ws:=[w]) (A1:=A) rfl).trans (Xx h)))
theorem HA (h:gj w A)(v:W):jx [w,v] A=.exc "NoTable" A:=by
 refine ZO ?_
 unfold ZI
 exact gB (QX ((zR (ws:=[w]) (A1:=A) rfl).trans (Xx h)))
theorem IB (hg:qh g)(h:gj w A):jx [zj g,w] A=.exc "NoTable" A:=by
 refine ZO ?_
 unfold ZI
 refine (zD (ρ1:=[some (zj g),some w,none,none]) (A1:=A) (yx ((zR (ws:=[zj g]) (A1:=A) rfl).trans (Zk hg A)))).trans ?_
 exact gB (QX ((zR (ws:=[w]) (A1:=A) rfl).trans (Xx h)))
theorem Bw {x:W}(A:Hx):yc LS 0 [x] A=j4 [x] A:=by
 rw [Q3 (t:=Q4 jx j4) rfl]
 unfold Q4 wD
 dsimp only
 exact zR (f:=j4) (ws:=[x]) (A1:=A) rfl
theorem BK {x y:W}(A:Hx):yc LS 1 [x,y] A=jx [y,x] A:=by
 rw [Q3 (t:=Q6 jx j4) rfl]
 unfold Q6 wD
 dsimp only
 exact zR (f:=jx) (ws:=[y,x]) (A1:=A) rfl
theorem BM {x y:W}(A:Hx):yc LS 2 [x,y] A=jx [x,y] A:=by
 rw [Q3 (t:=Q7 jx j4) rfl]
 unfold Q7 wD
 dsimp only
 exact zR (f:=jx) (ws:=[x,y]) (A1:=A) rfl
theorem Bm {x:W}(A:Hx):yc LS 3 [x] A=j4 [x] A:=by
 rw [Q3 (t:=Q1 jx j4) rfl]
 unfold Q1 wD
 dsimp only
 exact zR (f:=j4) (ws:=[x]) (A1:=A) rfl
theorem Br {x y:W}(A:Hx):yc LS 4 [x,y] A=jx [y,x] A:=by
 rw [Q3 (t:=QY jx j4) rfl]
 unfold QY wD
 dsimp only
 exact zR (f:=jx) (ws:=[y,x]) (A1:=A) rfl
theorem BV {x y:W}(A:Hx):yc LS 5 [x,y] A=jx [x,y] A:=by
 rw [Q3 (t:=Q5 jx j4) rfl]
 unfold Q5 wD
 dsimp only
 exact zR (f:=jx) (ws:=[x,y]) (A1:=A) rfl
theorem Og {i:Nat}{a:W}(ha:ρ[i]? =some (some a)):wI [i] ρ=some [a]:=by
 unfold wI
 rw [ha]
 rfl
theorem Wu {i j:Nat}{a b:W}(ha:ρ[i]? =some (some a))(hb:ρ[j]? =some (some b)):wI [i,j] ρ=some [a,b]:=by
 unfold wI
 rw [ha]
 unfold wI
 rw [hb]
 rfl
theorem BC (g:Nat)(h:g=0∨g=11):PyData.eqv (.list (List.replicate 3 (.list [.int (g:Int)]))) (.list (List.replicate 3 (.list [.int (g:Int)])))=true:=by
 rcases h with rfl | rfl<;>decide +kernel
theorem BP (hg:qh g)(ht:qh t)(h6:t.length<=6)(h:6<g.length)(h3:ρ[3]? =some (some (zj t)))(h10:ρ[10]? =some (some (zj g))):JA 11 m ρ [0,1,2]:=by
 refine all_cons ⟨Q4 jx j4,[zj g],rfl,Og h10,λ A b=>?_⟩ (all_cons ⟨Q6 jx j4,[zj t,zj g],rfl,Wu h3 h10,λ A b=>?_⟩ (all_cons ⟨Q7 jx j4,[zj t,zj g],rfl,Wu h3 h10,λ A b=>?_⟩ all_nil))
 ·exact Qn ((Bw A).trans (DJ hg h A)) Xt
 ·exact Qn ((BK A).trans (Ic hg ht h A)) Xt
 ·exact Qn ((BM A).trans (IY hg ht h6 h A)) Xt
theorem allB (hg:qh g)(hw:w∈yg m++kO m)(h10:ρ[10]? =some (some (zj g)))(h11:ρ[11]? =some (some w)):JA 0 m ρ [3,4,5]:=by
 refine all_cons ⟨Q1 jx j4,[w],rfl,Og h11,λ A b=>?_⟩ (all_cons ⟨QY jx j4,[zj g,w],rfl,Wu h10 h11,λ A b=>?_⟩ (all_cons ⟨Q5 jx j4,[zj g,w],rfl,Wu h10 h11,λ A b=>?_⟩ all_nil))
 ·exact Qn ((Bm A).trans (Dv (Vi b w hw))) XO
 ·exact Qn ((Br A).trans (HA (Vi b w hw) _)) XO
 ·exact Qn ((BV A).trans (IB hg (Vi b w hw))) XO
end
end G
namespace Mi
open PySem L2
theorem KQ:∀(l:List Int) (m:Int),m<=jZ l m/\∀x∈l,x<=jZ l m
 | [],m=>⟨Int.le_refl _,λ x h=>by cases h⟩
 | y::l,m=>by
  unfold jZ
  split
  ·rename_i hy
   obtain ⟨h1,h2⟩:=KQ l y
   refine ⟨by omega,λ x hx=>?_⟩
   rcases List.mem_cons.mp hx with rfl | hx
   ·exact h1
   ·exact h2 x hx
  ·rename_i hy
   obtain ⟨h1,h2⟩:=KQ l m
   refine ⟨h1,λ x hx=>?_⟩
   rcases List.mem_cons.mp hx with rfl | hx
   ·omega
   ·exact h2 x hx
theorem Ta {α:Type}:∀{l:List α} {k:Nat} {w:α},l[k]? =some w->l.Perm (w::l.eraseIdx k)
 | [],_,_,h=>by simp at h
 | x::l,0,w,h=>by
  simp at h
  subst h
  simp
 | x::l,k+1,w,h=>by
  rw [List.getElem?_cons_succ] at h
  rw [List.eraseIdx_cons_succ]
  exact ((Ta h).cons x).trans (List.Perm.swap w x _)
theorem Mm {A:Hx}{n k:Nat}{i:Int}{ws:List W}{w:W}(h:A[n]? =some (.lst ws))(hw:ws[k]? =some w)(hs:jM i=true)(e:seqIndex? i ws.length=some k):wX (.ref n) (.int i) A=.ok w (A.set n (.lst (ws.eraseIdx k))):=by
 unfold wX
 dsimp only
 rw [h]
 dsimp only
 rw [if_pos hs,e]
 dsimp only
 rw [hw]
theorem EL {k n:Nat}(hl:k<n):seqIndex? (k:Int) n=some k:=by
 have:=PySem.StrLaws.seqIndex_nonneg (i:=(k:Int)) (n:=n) (by omega) (by omega)
 rw [Int.toNat_natCast] at this
 exact this
theorem Li {A:Hx}{n k:Nat}{ws:List W}{w:W}(h:A[n]? =some (.lst ws))(hw:ws[k]? =some w)(hk:k<1000000):wX (.ref n) (.int (k:Int)) A=.ok w (A.set n (.lst (ws.eraseIdx k))):=
 Mm h hw (G.wR hk) (EL (List.getElem?_eq_some_iff.mp hw).1)
theorem Tw {α β:Type}(f:α->β):∀(l:List α) (k:Nat),(l.map f).eraseIdx k=(l.eraseIdx k).map f
 | [],_=>rfl
 | _::_,0=>rfl
 | a::l,k+1=>by
  rw [List.map_cons,List.eraseIdx_cons_succ,List.eraseIdx_cons_succ,List.map_cons,Tw f l k]
theorem Kw {g:W->W->Hx->R W}{a b:Ev}{ρ:En}{A A1:Hx}{n:Nat}{ws:List W}{y:W}(ha:a ρ A=.ok (.ref n) A)(hA:A[n]? =some (.lst ws))(hb:b ρ A=.ok y A1):qx g a b ρ A=g (.ref n) y A1:=by
 unfold qx
 have hl:kR (.ref n) A=true:=by unfold kR;dsimp only;rw [hA]
 rw [ha,zB,if_pos hl,hb,zB]
theorem U2 {A:Hx}{n:Nat}{ws:List W}{y:W}(h:A[n]? =some (.lst ws))(hl:ws.length<1000):qY (.ref n) y A=.ok .non (A.set n (.lst (ws++[y]))):=by
 unfold qY
 dsimp only
 rw [h]
 dsimp only
 rw [if_pos (by unfold zP;omega)]
theorem Rw {f:Fn}{n:Nat}{us:List W}{A A1:Hx}{c c':Int}{b b':Bool}{w:W}(hA:A[n]? =some (.lst [.int c,.bl b]))(hu:qT us=true)(h:f (.ref 0::us) [.lst [.int c,.bl b]]=.ok w A1)(h1:A1[0]? =some (.lst [.int c',.bl b']))(hw:w.nr=true):kA f (.ref n::us) A=.ok w (A.set n (.lst [.int c',.bl b'])):=by
 unfold kA
 dsimp only
 rw [hA]
 dsimp only
 have h2:(qT [W.int c,W.bl b]&&qT us)=true:=by rw [hu];rfl
 rw [if_pos h2,h]
 dsimp only
 rw [List.head?_eq_getElem?,h1]
 dsimp only
 have h3:(qT [W.int c',W.bl b']&&w.nr)=true:=by rw [hw];rfl
 rw [if_pos h3]
noncomputable abbrev iL (l:List Nat):List W:=l.map λ (a:Nat)=>W.int (a:Int)
theorem TZ {A:Hx}{r:Nat}{l:List Nat}(h:A[r]? =some (.lst (iL l))):qf A 8 (.ref r)=some (.list (l.map λ (a:Nat)=>PyData.int (a:Int))):=by
 show (match zE (.ref r) A with | some ws=>(jP (qf A 7) ws).map PyData.list | none=>none)=_
 have:zE (.ref r) A=some (iL l):=by unfold zE;dsimp only;rw [h]
 rw [this]
 dsimp only
 rw [JS (h:=λ (a:Nat)=>PyData.int (a:Int)) (λ a=>rfl)]
 rfl
theorem ne_nil {A:Hx}{r s:Nat}{l:List Nat}(h:A[r]? =some (.lst (iL l)))(h2:A[s]? =some (.lst [])):jC (.ref r) (.ref s) A=.ok (.bl (decide (l≠[]))) A:=by
 show wF true _ _ A=_
 unfold wF
 rw [TZ h,TZ (l:=[]) h2]
 dsimp only
 rw [if_pos rfl]
 congr 2
 rw [PyData.eqv]
 cases l with
 | nil=>simp [PyData.eqvAll]
 | cons a l=>rw [List.map_nil,SeqAt.eqvAll_other_length (by simp)];simp
end Mi
namespace G
open PySem L2 Mi
noncomputable abbrev Uc:Ev:=zl jC (zc 2) (zX (zo))
noncomputable abbrev Bz:Ex:=zp (qQ (qx qY (zc 3) (qx wX (zc 2) (zx qy (zh (zc 0) (zh (mQ qa (zM (zc 2))) (zo))))))) (zw)
theorem IM {x:Option W}:∀(k f:Nat) (l fd:List Nat) (A:Hx),l.length=k->k<f->l.length<=100->fd.length+l.length<=100->yf 0 A->A[1]? =some (.lst (iL l))->A[2]? =some (.lst (iL fd))->
  ∃A' fd',Zy Uc Bz f [some (.ref 0),x,some (.ref 1),some (.ref 2)] A=.ok (.nx [some (.ref 0),x,some (.ref 1),some (.ref 2)]) A'/\yf 0 A'/\A'[2]? =some (.lst (iL fd'))/\fd'.Perm (fd++l):=by
 intro k
 induction k with
 | zero=>
  intro f l fd A hl hf _ _ hs h1 h2
  obtain ⟨f,rfl⟩:∃f',f=f'+1:=⟨f - 1,by omega⟩
  have:l=[]:=List.length_eq_zero_iff.mp hl
  subst this
  refine ⟨A++[.lst []],fd,?_,?_,jD h2,by simp⟩
  ·unfold Zy
   have ec:Uc [some (.ref 0),x,some (.ref 1),some (.ref 2)] A=.ok (.bl false) (A++[.lst []]):=(zO (zu (i:=2) rfl) (yF jh)).trans (ne_nil (l:=[]) (jD h1) jq)
   rw [ec,zB]
  ·obtain ⟨c,b,e,r⟩:=hs
   exact ⟨c,b,jD e,r⟩
 | succ k ih=>
  intro f l fd A hl hf h100 hfl hs h1 h2
  obtain ⟨f,rfl⟩:∃f',f=f'+1:=⟨f - 1,by omega⟩
  have ec:Uc [some (.ref 0),x,some (.ref 1),some (.ref 2)] A=.ok (.bl true) (A++[.lst []]):=by
   refine (zO (zu (i:=2) rfl) (yF jh)).trans ((ne_nil (jD h1) jq).trans ?_)
   have hne:l≠[]:=λ e=>by rw [e] at hl;cases hl
   rw [decide_eq_true hne]
  have hs1:yf 0 (A++[.lst []]):=by obtain ⟨c,b,e,r⟩:=hs;exact ⟨c,b,jD e,r⟩
  have g1:=jD (u:=.lst []) h1
  have g2:=jD (u:=.lst []) h2
  generalize A++[O.lst []]=B at ec hs1 g1 g2
  obtain ⟨r,o,et,r0,rl,hs2⟩:=Je hs1 (m:=(l.length:Int)) (by omega) (by omega)
  obtain ⟨q,rfl⟩:=Int.eq_ofNat_of_zero_le r0
  have hq:q<l.length:=by omega
  have elen:mQ qa (zM (zc 2)) [some (.ref 0),x,some (.ref 1),some (.ref 2)] B=.ok (.int (l.length:Int)) B:=by
   rw [yn (yM (w:=.ref 1) (A1:=B) (ws:=iL l) (zu rfl) (by unfold zE;dsimp only;rw [g1]))]
   unfold qa
   rw [List.length_map]
  have e1:zx qy (zh (zc 0) (zh (mQ qa (zM (zc 2))) (zo))) [some (.ref 0),x,some (.ref 1),some (.ref 2)] B=.ok (.int (q:Int)) (B.set 0 o):=(zR (qm (zu (i:=0) rfl) (qm elen jh))).trans et
  have g1':(B.set 0 o)[1]? =some (.lst (iL l)):=by rw [List.getElem?_set_ne (by omega)];exact g1
  have g2':(B.set 0 o)[2]? =some (.lst (iL fd)):=by rw [List.getElem?_set_ne (by omega)];exact g2
  have hw:(iL l)[q]? =some (.int ((l[q]:Nat):Int)):=by rw [List.getElem?_map,List.getElem?_eq_getElem hq];rfl
  have e2:=(Kw (g:=wX) (a:=zc 2) (zu rfl) g1 e1).trans (Li g1' hw (by omega))
  have he:(iL l).eraseIdx q=iL (l.eraseIdx q):=by
   exact Tw _ _ _
  rw [he] at e2
  have g2'':((B.set 0 o).set 1 (.lst (iL (l.eraseIdx q))))[2]? =some (.lst (iL fd)):=by rw [List.getElem?_set_ne (by omega)];exact g2'
  have e3:=(Kw (g:=qY) (a:=zc 3) (zu rfl) g2 e2).trans (U2 g2'' (by rw [List.length_map];omega))
  have hap:iL fd++[.int ((l[q]:Nat):Int)]=iL (fd++[l[q]]):=by unfold iL;rw [List.map_append];rfl
  rw [hap] at e3
  have hlen:(l.eraseIdx q).length=k:=by rw [List.length_eraseIdx_of_lt hq];omega
  obtain ⟨A',fd',e4,s4,a4,p4⟩:=ih f (l.eraseIdx q) (fd++[l[q]]) (((B.set 0 o).set 1 (.lst (iL (l.eraseIdx q)))).set 2 (.lst (iL (fd++[l[q]])))) hlen (by omega) (by omega) (by rw [List.length_append,List.length_singleton];omega)
   (by obtain ⟨c,b,e,r⟩:=hs2;exact ⟨c,b,by rw [List.getElem?_set_ne (by omega),List.getElem?_set_ne (by omega)];exact e,r⟩)
   (by rw [List.getElem?_set_ne (by omega),List.getElem?_set_self (yV g1')]) (by rw [List.getElem?_set_self (yV g2'')])
  refine ⟨A',fd',?_,s4,a4,p4.trans ?_⟩
  ·unfold Zy
   rw [ec,zB]
   dsimp only
   have eb:=(zD (m2:=zw) (yx e3)).trans gE
   show R.bind (zp (qQ (qx qY (zc 3) (qx wX (zc 2) (zx qy (zh (zc 0) (zh (mQ qa (zM (zc 2))) (zo))))))) (zw) [some (.ref 0),x,some (.ref 1),some (.ref 2)] B) _=_
   rw [eb,zB]
   exact e4
  ·rw [List.append_assoc]
   exact List.Perm.append_left fd (Ta (List.getElem?_eq_getElem hq)).symm
theorem Xq {m:Ev}{ρ:En}{A A1:Hx}{n:Nat}(h:m ρ A=.ok (.int (n:Int)) A1)(hn:n<=100):kJ m ρ A=.ok (.ref A1.length) (A1++[.lst (iL (List.range n))]):=by
 unfold kJ
 rw [h,zB]
 dsimp only
 rw [wR (by omega),Int.toNat_natCast,decide_eq_true (by unfold zP;omega)]
 rfl
theorem RB {m:Nat}{A:Hx}(h:yf m A){n:Nat}(hn:n<=8):∃p o,gw [.ref m,.int (n:Int)] A=.ok (zT p) (A.set m o)/\yf m (A.set m o)/\p.Perm (List.range n):=by
 obtain ⟨c,b,hA,hc,hb⟩:=h
 have hm:=yV hA
 obtain ⟨A',fd,e,⟨c',b',e',hc',hb'⟩,h2,hp⟩:=IM (x:=some (.int (n:Int))) n 1000 (List.range n) [] [.lst [.int c,.bl b],.lst (iL (List.range n)),.lst []] List.length_range (by omega) (by rw [List.length_range];omega) (by rw [List.length_range];simp;omega) ⟨c,b,rfl,hc,hb⟩ rfl rfl
 refine ⟨fd,.lst [.int c',.bl b'],?_,⟨c',b',List.getElem?_set_self hm,hc',hb'⟩,hp⟩
 unfold gw
 refine Rw (A1:=A') hA rfl ?_ e' (JY fd)
 unfold UR
 refine jd ?_
 unfold GY
 refine (zD (ρ1:=[some (.ref 0),some (.int (n:Int)),some (.ref 1),none]) (A1:=[.lst [.int c,.bl b],.lst (iL (List.range n))]) ((qM (Xq (zu (i:=1) rfl) (by omega))).trans rfl)).trans ?_
 refine (zD (ρ1:=[some (.ref 0),some (.int (n:Int)),some (.ref 1),some (.ref 2)]) (A1:=[.lst [.int c,.bl b],.lst (iL (List.range n)),.lst []]) ((qM (yF jh)).trans rfl)).trans ?_
 refine (zD e).trans (qD (ji (wW (yM (w:=.ref 2) (A1:=A') (ws:=iL fd) (zu rfl) (by unfold zE;dsimp only;rw [h2])))))
end G
namespace Mi
open PySem L2
theorem XW {α:Type}{m me:Ev}{ρ:En}{A:Hx}{cap:List Nat}{o:List α}{f:α->W}{G:α->W}(h:m ρ A=.ok (.tup (o.map f)) A)(hl:o.length<=zP)(he:∀a∈o,me (some (f a)::cap.map λ i=>(ρ[i]?).join) A=.ok (G a) A):
  zW 1 cap (qd m) (zA 0) (zi (.bl true)) (zJ me) ρ A=.ok (o.map G) A:=by
 by_cases h0:o=[]
 ·subst h0
  have e:=QO (cap:=cap) (me:=me) (ρ:=ρ) (A:=A) (N:=0) (item:=λ _=>.non) (g:=λ _=>.non) (ZS h) rfl (by unfold zP;omega) (λ i hi=>by omega) rfl (λ i hi=>by omega)
  exact e
 ·obtain ⟨x,hx⟩:∃x,x∈o:=List.exists_mem_of_ne_nil o h0
  have e:=QO (cap:=cap) (me:=me) (ρ:=ρ) (A:=A) (N:=o.length) (item:=λ i=>f (o.getD i x)) (g:=λ i=>G (o.getD i x)) (ZS h) (List.length_map ..) hl
   (λ i hi=>by show some (o.map f)[i]? =_;rw [List.getElem?_map,List.getElem?_eq_getElem hi,List.getD_eq_getElem?_getD,List.getElem?_eq_getElem hi];rfl)
   (by show some (o.map f)[o.length]? =_;rw [List.getElem?_eq_none (by rw [List.length_map];exact Nat.le_refl _)])
   (λ i hi=>by
    have:o.getD i x=o[i]:=by rw [List.getD_eq_getElem?_getD,List.getElem?_eq_getElem hi];rfl
    rw [this];exact he _ (List.getElem_mem hi))
  rw [e]
  congr 1
  apply List.ext_getElem
  ·simp
  ·intro i h1 h2
   have hi:i<o.length:=by simpa using h2
   simp [List.getD_eq_getElem?_getD,List.getElem?_eq_getElem hi]
theorem UB {α β:Type}(o:List α)(x:α)(f:α->β):o.map f=(List.range o.length).map λ i=>f (o.getD i x):=by
 apply List.ext_getElem
 ·simp
 ·intro i h1 h2
  have hi:i<o.length:=by simpa using h1
  simp [List.getD_eq_getElem?_getD,List.getElem?_eq_getElem hi]
theorem X3 {t:List (List Int)}(hq:∀r∈t,r.length=t.length){v:Int}(h:v∈t.flatten):∃a b,a<t.length/\b<t.length/\at2 t a b=v:=by
 obtain ⟨r,hr,hv⟩:=List.mem_flatten.mp h
 obtain ⟨a,ha,e1⟩:=List.getElem_of_mem hr
 obtain ⟨b,hb,e2⟩:=List.getElem_of_mem hv
 refine ⟨a,b,ha,by rw [<- hq r hr];exact hb,?_⟩
 unfold at2
 have e3:t.getD a []=r:=by rw [List.getD_eq_getElem?_getD,List.getElem?_eq_getElem ha];exact e1
 rw [e3,List.getD_eq_getElem?_getD,List.getElem?_eq_getElem hb]
 exact e2
theorem Vc {t:List (List Int)}(hq:∀r∈t,r.length=t.length){a b:Nat}(ha:a<t.length)(hb:b<t.length):∃r∈t,at2 t a b∈r/\at2 t a b∈t.flatten:=by
 have h1:t.getD a []∈t:=Zl ha
 have h2:at2 t a b∈t.getD a []:=by
  unfold at2
  have hb':b<(t.getD a []).length:=by rw [hq _ h1];exact hb
  rw [List.getD_eq_getElem?_getD (l:=t.getD a []),List.getElem?_eq_getElem hb']
  exact List.getElem_mem _
 exact ⟨_,h1,h2,List.mem_flatten.mpr ⟨_,h1,h2⟩⟩
theorem S7 {r:List Int}{x:Int}(h:x∈r):x<=ky r:=by
 cases r with
 | nil=>cases h
 | cons i is=>
  show x<=jZ is i
  rcases List.mem_cons.mp h with rfl | h
  ·exact (KQ is x).1
  ·exact (KQ is i).2 x h
end Mi
namespace G
open PySem L2 Mi
section
variable {t:List (List Int)}
theorem Pc (h:qh t){a b:Nat}(ha:a<t.length)(hb:b<t.length):at2 t a b<jw t:=by
 obtain ⟨r,hr,h1,_⟩:=Vc h.sq ha hb
 have e1:=S7 h1
 have e2:=S7 (List.mem_map.mpr ⟨r,hr,rfl⟩:ky r∈t.map ky)
 unfold jw
 omega
theorem X9 (h:qh t):jw t - 1∈t.flatten:=by
 obtain ⟨r,hr,e⟩:=List.mem_map.mp (Kt h.map_ne)
 have:jw t - 1=ky r:=by unfold jw;omega
 rw [this]
 exact List.mem_flatten.mpr ⟨r,hr,Kt (h.row_ne hr)⟩
theorem EX (h:qh t):jw t<=(t.length:Int):=by
 obtain ⟨r,hr,hv⟩:=List.mem_flatten.mp (X9 h)
 have:=h.lo r hr _ hv
 omega
theorem E6 (h:qh t){v:Nat}(hv:(v:Int)<jw t):∃a b,a<t.length/\b<t.length/\at2 t a b=(v:Int):=by
 by_cases e:(v:Int)=jw t - 1
 ·rw [e];exact X3 h.sq (X9 h)
 ·exact X3 h.sq (h.fu v ⟨_,X9 h,by omega⟩)
noncomputable def j0 (p:List Nat):List Int:=0::p.map λ (k:Nat)=>1+(k:Int)
noncomputable def Z1 (t:List (List Int))(p o:List Nat):List (List Int):=o.map λ a=>o.map λ b=>(j0 p).getD (at2 t a b).toNat 0
theorem HP (h:qh t){p o:List Nat}(ho:∀a∈o,a<t.length)(hl:o.length<=8)(hp:(p.length:Int)=jw t - 1){A:Hx}{r:Nat}(hA:A[r]? =some (.lst ((j0 p).map W.int))):QI [zj t,zT o,.ref r] A=.ok (zj (Z1 t p o)) A:=by
 unfold QI US
 refine jd ?_
 unfold GO
 refine qD (ji ?_)
 have ec:=XW (cap:=[0,1,2]) (ρ:=[some (zj t),some (zT o),some (.ref r)]) (A:=A) (m:=zc 1) (o:=o) (f:=λ (a:Nat)=>W.int (a:Int)) (me:=mQ qH (zW 1 [0,1,3] (qd (zc 2)) (zA 0) (zi (.bl true)) (zJ (zl zI (zc 3) (zl zI (zl zI (zc 2) (zc 1)) (zc 0))))))
  (G:=λ a=>qc (o.map λ b=>(j0 p).getD (at2 t a b).toNat 0)) (zu rfl) (by unfold zP;omega) (λ a ha=>by
   have e2:=XW (cap:=[0,1,3]) (ρ:=[some (.int (a:Int)),some (zj t),some (zT o),some (.ref r)]) (A:=A) (m:=zc 2) (o:=o) (f:=λ (a:Nat)=>W.int (a:Int)) (me:=zl zI (zc 3) (zl zI (zl zI (zc 2) (zc 1)) (zc 0)))
    (G:=λ b=>.int ((j0 p).getD (at2 t a b).toNat 0)) (zu rfl) (by unfold zP;omega) (λ b hb=>by
     have l1:=ho a ha
     have l2:=ho b hb
     have b1:=(Pq h l1 l2).1
     have b2:=Pc h l1 l2
     have hlen:(at2 t a b).toNat<(j0 p).length:=by unfold j0;rw [List.length_cons,List.length_map];omega
     refine (zO (zu (i:=3) rfl) (Ak h (zu (i:=2) rfl) (zu (i:=1) rfl) (zu (i:=0) rfl) l1 l2)).trans ?_
     have hc:at2 t a b=((at2 t a b).toNat:Int):=by omega
     rw [hc]
     refine ZU hA ?_
     rw [List.getElem?_map,List.getElem?_eq_getElem hlen,Int.toNat_natCast,List.getD_eq_getElem?_getD,List.getElem?_eq_getElem hlen]
     rfl)
   refine (wW e2).trans ?_
   unfold qc
   rw [List.map_map]
   rfl)
 refine (wW ec).trans ?_
 unfold Z1 zj
 rw [List.map_map]
 rfl
theorem Rp {p:List Nat}{v:Nat}(h1:1<=v)(h2:v<=p.length):(j0 p).getD v 0=1+((p[v - 1]'(by omega):Nat):Int):=by
 obtain ⟨v,rfl⟩:∃u,v=u+1:=⟨v - 1,by omega⟩
 unfold j0
 rw [List.getD_eq_getElem?_getD,List.getElem?_cons_succ,List.getElem?_map,List.getElem?_eq_getElem (by omega)]
 rfl
theorem LV (h:qh t){p o:List Nat}(hp:p.Perm (List.range (jw t - 1).toNat))(ho:o.Perm (List.range t.length)):qh (Z1 t p o)/\(Z1 t p o).length=t.length:=by
 have hol:o.length=t.length:=by rw [ho.length_eq,List.length_range]
 have kb:=VE h
 have kl:=EX h
 have hpl:p.length=(jw t - 1).toNat:=by rw [hp.length_eq,List.length_range]
 have n1:=h.n1
 have hin:∀i,o.getD i 0<t.length:=λ i=>by
  by_cases hi:i<o.length
  ·rw [List.getD_eq_getElem?_getD,List.getElem?_eq_getElem hi]
   exact List.mem_range.mp (ho.mem_iff.mp (List.getElem_mem hi))
  ·rw [List.getD_eq_getElem?_getD,List.getElem?_eq_none (by omega)]
   exact n1
 have hnd:o.Nodup:=(ho.nodup_iff).mpr List.nodup_range
 have hsur:∀a,a<t.length->∃i,i<t.length/\o.getD i 0=a:=λ a ha=>by
  obtain ⟨i,hi,e⟩:=List.getElem_of_mem (ho.mem_iff.mpr (List.mem_range.mpr ha))
  exact ⟨i,by omega,by rw [List.getD_eq_getElem?_getD,List.getElem?_eq_getElem hi];exact e⟩
 have hplt:∀q (hq:q<p.length),p[q]<p.length:=λ q hq=>by
  have:=List.mem_range.mp (hp.mem_iff.mp (List.getElem_mem hq))
  omega
 have hM:Mu t.length (λ i j=>(j0 p).getD (at2 t (o.getD i 0) (o.getD j 0)).toNat 0) p.length (λ _ _=>True):=by
  refine ⟨λ i=>?_,λ i j=>?_,λ i j hij hj _=>?_,λ i j _ _ hn=>absurd trivial hn,λ k k1 kc=>?_⟩
  ·show (j0 p).getD (at2 t (o.getD i 0) (o.getD i 0)).toNat 0=0
   rw [(h.dg _ _ (hin i) (hin i)).mpr rfl]
   rfl
  ·show (j0 p).getD (at2 t (o.getD i 0) (o.getD j 0)).toNat 0=(j0 p).getD (at2 t (o.getD j 0) (o.getD i 0)).toNat 0
   rw [h.sy _ _ (hin i) (hin j)]
  ·show 1<=(j0 p).getD (at2 t (o.getD i 0) (o.getD j 0)).toNat 0/\(j0 p).getD (at2 t (o.getD i 0) (o.getD j 0)).toNat 0<=(p.length:Int)
   have hne:o.getD i 0≠o.getD j 0:=by
    have hi':i<o.length:=by omega
    have hj':j<o.length:=by omega
    rw [List.getD_eq_getElem?_getD,List.getElem?_eq_getElem hi',List.getD_eq_getElem?_getD,List.getElem?_eq_getElem hj']
    intro e
    have e':o[i]=o[j]:=e
    have:=(List.getElem_inj hnd).mp e'
    omega
   have d:=h.dg _ _ (hin i) (hin j)
   have b0:=Pq h (hin i) (hin j)
   have b2:=Pc h (hin i) (hin j)
   have b3:at2 t (o.getD i 0) (o.getD j 0)≠0:=λ e=>hne (d.mp e)
   rw [Rp (by omega) (by omega)]
   have:=hplt ((at2 t (o.getD i 0) (o.getD j 0)).toNat - 1) (by omega)
   omega
  ·obtain ⟨q,hq,e⟩:=List.getElem_of_mem (hp.mem_iff.mpr (List.mem_range.mpr (by omega:k - 1<(jw t - 1).toNat)))
   obtain ⟨a,b,ha,hb,e2⟩:=E6 h (v:=q+1) (by omega)
   obtain ⟨i,hi,e3⟩:=hsur a ha
   obtain ⟨j,hj,e4⟩:=hsur b hb
   refine ⟨i,j,hi,hj,?_⟩
   show (j0 p).getD (at2 t (o.getD i 0) (o.getD j 0)).toNat 0=(k:Int)
   rw [e3,e4,e2,Int.toNat_natCast,Rp (by omega) (by omega)]
   have:p[q+1 - 1]'(by omega)=k - 1:=e
   rw [this]
   omega
 have hT:Z1 t p o=qI t.length (λ i j=>(j0 p).getD (at2 t (o.getD i 0) (o.getD j 0)).toNat 0):=by
  unfold Z1 qI
  rw [UB o 0,hol]
  congr 1
  funext i
  rw [UB o 0 (λ b=>(j0 p).getD (at2 t (o.getD i 0) b).toNat 0),hol]
 refine ⟨?_,by unfold Z1;rw [List.length_map,hol]⟩
 rw [hT]
 exact hM.tab (λ _ _ _ _=>trivial) n1 h.n8 (.inr (by omega))
theorem T6 (h:qh t){m:Nat}{A:Hx}(hs:yf m A):∃u o,kW [.ref m,zj t] A=.ok (zj u) (A.set m o)/\yf m (A.set m o)/\qh u/\u.length=t.length:=by
 obtain ⟨c,b,hA,hc,hb⟩:=hs
 have hm:=yV hA
 have kb:=VE h
 have n8:=h.n8
 generalize hB:([.lst [.int c,.bl b],.lst [.int 0]]:Hx)=B
 have sB:yf 0 B:=by rw [<- hB];exact ⟨c,b,rfl,hc,hb⟩
 obtain ⟨p,o1,e1,s1,hp⟩:=RB sB (n:=(jw t - 1).toNat) (by omega)
 have hB1:(B.set 0 o1)[1]? =some (.lst [.int 0]):=by rw [<- hB];rfl
 have hBl:(B.set 0 o1).length=2:=by rw [<- hB];rfl
 generalize B.set 0 o1=B1 at *
 have hkk:(((jw t - 1).toNat:Nat):Int)=jw t - 1:=by omega
 rw [hkk] at e1
 have ec:zW 1 [] (qd (zx gw (zh (zc 0) (zh (zl yh (zc 2) (zi (.int 1))) (zo))))) (zA 0) (zi (.bl true)) (zJ (zl qb (zi (.int 1)) (zc 0))) [some (.ref 0),some (zj t),some (.int (jw t)),none] B=.ok (p.map λ (k:Nat)=>W.int (1+(k:Int))) B1:=by
  have em:zx gw (zh (zc 0) (zh (zl yh (zc 2) (zi (.int 1))) (zo))) [some (.ref 0),some (zj t),some (.int (jw t)),none] B=.ok (zT p) B1:=(zR (ws:=[.ref 0,.int (jw t - 1)]) (A1:=B) (qm (zu (i:=0) rfl) (qm ((zO (zu (i:=2) rfl) (jR (w:=.int 1))).trans rfl) jh))).trans e1
  have e2:=XW (cap:=[]) (ρ:=[some (.ref 0),some (zj t),some (.int (jw t)),none]) (A:=B1) (m:=zi (zT p)) (o:=p) (f:=λ (a:Nat)=>W.int (a:Int)) (me:=zl qb (zi (.int 1)) (zc 0)) (G:=λ (k:Nat)=>W.int (1+(k:Int))) rfl (by have:=hp.length_eq;rw [List.length_range] at this;unfold zP;omega) (λ a ha=>(zO (jR (w:=.int 1)) (zu (i:=0) rfl)).trans rfl)
  unfold zW at e2 ⊢
  rw [ZS (m:=zi (zT p)) (A1:=B1) rfl,zB] at e2
  rw [ZS em,zB]
  exact e2
 have hpl:p.length=(jw t - 1).toNat:=by rw [hp.length_eq,List.length_range]
 have en:zl qb (zX (zh (zi (.int 0)) (zo))) (qO (zW 1 [] (qd (zx gw (zh (zc 0) (zh (zl yh (zc 2) (zi (.int 1))) (zo))))) (zA 0) (zi (.bl true)) (zJ (zl qb (zi (.int 1)) (zc 0))))) [some (.ref 0),some (zj t),some (.int (jw t)),none] [.lst [.int c,.bl b]]=
   .ok (.ref (B1++[O.lst (p.map λ (k:Nat)=>W.int (1+(k:Int)))]).length) (B1++[O.lst (p.map λ (k:Nat)=>W.int (1+(k:Int)))]++[O.lst ([.int 0]++p.map λ (k:Nat)=>W.int (1+(k:Int)))]):=by
  refine (zO (x:=.ref 1) (A1:=B) ((yF (ws:=[.int 0]) (A1:=[.lst [.int c,.bl b]]) rfl).trans (by rw [<- hB];rfl)) (gA ec)).trans ?_
  refine XA (jD hB1) ?_ (by rw [List.length_map,hpl];show 1+_<=zP;unfold zP;omega)
  rw [jq]
 have hnz:([.int 0]++p.map λ (k:Nat)=>W.int (1+(k:Int)))=(j0 p).map W.int:=by unfold j0;rw [List.map_cons,List.map_map];rfl
 rw [hnz] at en
 have sC:yf 0 (B1++[O.lst (p.map λ (k:Nat)=>W.int (1+(k:Int)))]++[O.lst ((j0 p).map W.int)]):=by obtain ⟨c,b,e,r⟩:=s1;exact ⟨c,b,jD (jD e),r⟩
 have hC:(B1++[O.lst (p.map λ (k:Nat)=>W.int (1+(k:Int)))]++[O.lst ((j0 p).map W.int)])[(B1++[O.lst (p.map λ (k:Nat)=>W.int (1+(k:Int)))]).length]? =some (.lst ((j0 p).map W.int)):=jq
 have hr:(B1++[O.lst (p.map λ (k:Nat)=>W.int (1+(k:Int)))]).length=3:=by rw [List.length_append,hBl];rfl
 rw [hr] at hC en
 generalize B1++[O.lst (p.map λ (k:Nat)=>W.int (1+(k:Int)))]++[O.lst ((j0 p).map W.int)]=C at *
 obtain ⟨o,o2,e3,s2,ho⟩:=RB sC (n:=t.length) n8
 have hol:o.length=t.length:=by rw [ho.length_eq,List.length_range]
 have hC2:(C.set 0 o2)[3]? =some (.lst ((j0 p).map W.int)):=by rw [List.getElem?_set_ne (by omega)];exact hC
 generalize C.set 0 o2=C2 at *
 have e4:=HP h (p:=p) (o:=o) (λ a ha=>List.mem_range.mp (ho.mem_iff.mp ha)) (by omega) (by omega) hC2
 obtain ⟨c',b',e',hc',hb'⟩:=s2
 refine ⟨Z1 t p o,.lst [.int c',.bl b'],?_,⟨c',b',List.getElem?_set_self hm,hc',hb'⟩,LV h hp ho⟩
 unfold kW
 refine Rw (A1:=C2) hA (by show ((zj t).nr&&true)=true;rw [yD];rfl) ?_ e' (yD _)
 unfold Ut
 refine jd ?_
 unfold WS
 refine (zD (ρ1:=[some (.ref 0),some (zj t),some (.int (jw t)),none]) (A1:=[.lst [.int c,.bl b]]) ((qM ((zR (ws:=[zj t]) (A1:=[.lst [.int c,.bl b]]) rfl).trans (UP h _))).trans rfl)).trans ?_
 refine (zD (ρ1:=[some (.ref 0),some (zj t),some (.int (jw t)),some (.ref 3)]) (A1:=C) ((qM en).trans rfl)).trans (qD (ji ?_))
 refine (zR (ws:=[zj t,zT o,.ref 3]) (A1:=C2) (qm (zu (i:=1) rfl) (qm ((zR (ws:=[.ref 0,.int (t.length:Int)]) (A1:=C) (qm (zu (i:=0) rfl) (qm (yX rfl) jh))).trans e3) (qm (zu (i:=3) rfl) jh)))).trans e4
end
end G
namespace Mi
open PySem L2
theorem Ro {A:Hx}{r b:Nat}{ws:List W}{v:W}(h:A[r]? =some (.lst ws))(hb:b<ws.length):yr (.ref r) (.int (b:Int)) v A=.ok () (A.set r (.lst (ws.set b v))):=by
 have e:kS ws.length (b:Int)=some b:=by unfold kS;rw [if_pos (by omega),if_pos (by omega),Int.toNat_natCast]
 unfold yr
 dsimp only
 rw [h]
 dsimp only
 rw [e]
structure Kp (n:Nat)(A B:Hx):Prop where
 len:A.length<=B.length
 at_:∀i,i<A.length->i≠n->B[i]? =A[i]?
section
variable {n:Nat}{A B C:Hx}
theorem Kp.trans (a:Kp n A B)(b:Kp n B C):Kp n A C:=⟨Nat.le_trans a.len b.len,λ i h1 h2=>(b.at_ i (Nat.lt_of_lt_of_le h1 a.len) h2).trans (a.at_ i h1 h2)⟩
theorem Kp.set {o:O}:Kp n A (A.set n o):=⟨by rw [List.length_set];exact Nat.le_refl _,λ i _ h=>List.getElem?_set_ne (Ne.symm h)⟩
theorem Kp.ext (x:Ext A B):Kp n A B:=by
 obtain ⟨l,rfl⟩:=x
 exact ⟨by simp,λ i h _=>List.getElem?_append_left h⟩
theorem Kp.get (a:Kp n A B){i:Nat}{o:O}(h:A[i]? =some o)(hn:i≠n):B[i]? =some o:=by rw [a.at_ i (yV h) hn];exact h
end
theorem QS {n:Nat}{μ:Nat->Nat->Int}:(qI n μ).length=n:=by unfold qI;simp
theorem Vj {n:Nat}{μ:Nat->Nat->Int}:∀r∈qI n μ,r.length=(qI n μ).length:=λ r hr=>by
 obtain ⟨i,_,rfl⟩:=List.mem_map.mp hr
 rw [QS];simp
theorem DB {n:Nat}{μ:Nat->Nat->Int}(n1:1<=n)(n8:n<=8)(dg:∀i j,i<n->j<n->(μ i j=0↔i=j))(sy:∀i j,i<n->j<n->μ i j=μ j i)(lo:∀i j,i<n->j<n->0<=μ i j/\μ i j<(n:Int)):
  qh (q9 (qI n μ) (List.range n))/\(q9 (qI n μ) (List.range n)).length=n:=by
 have hrows:jO (qI n μ) (List.range n)=qI n μ:=by
  unfold jO
  have:qI n μ=(List.range n).map λ i=>(List.range n).map (μ i):=rfl
  rw [this]
  apply List.map_congr_left
  intro i hi
  apply List.map_congr_left
  intro j hj
  exact Q8 (List.mem_range.mp hi) (List.mem_range.mp hj)
 generalize hF:w5 (qI n μ) (List.range n)=F
 have hmem:∀v,v∈F↔∃i j,i<n/\j<n/\μ i j=v:=λ v=>by
  rw [<- hF]
  unfold w5
  rw [hrows,HX]
  constructor
  ·rintro (h | h)
   ·cases h
   ·obtain ⟨a,b,ha,hb,e⟩:=X3 Vj h
    rw [QS] at ha hb
    exact ⟨a,b,ha,hb,by rw [<- e,Q8 ha hb]⟩
  ·rintro ⟨i,j,hi,hj,e⟩
   right
   obtain ⟨r,_,_,h⟩:=Vc Vj (t:=qI n μ) (a:=i) (b:=j) (by rw [QS];exact hi) (by rw [QS];exact hj)
   rw [Q8 hi hj,e] at h
   exact h
 have hnd:F.Nodup:=by rw [<- hF];exact LL _ _ List.nodup_nil
 have hlen:F.length<=n:=J7 n F hnd λ r hr=>by
  obtain ⟨i,j,hi,hj,e⟩:=(hmem r).mp hr
  rw [<- e];exact lo i j hi hj
 have h0:qP F 0=0:=by
  rw [<- hF]
  unfold w5
  rw [hrows]
  obtain ⟨k,rfl⟩:∃k,n=k+1:=⟨n - 1,by omega⟩
  have e:∃l,(qI (k+1) μ).flatten=0::l:=by
   unfold qI
   rw [List.range_succ_eq_map,List.map_cons,List.flatten_cons,List.map_cons]
   rw [(dg 0 0 (by omega) (by omega)).mpr rfl]
   exact ⟨_,rfl⟩
  obtain ⟨l,e⟩:=e
  rw [e]
  have e2:qV [] (0::l)=qV [0] l:=rfl
  obtain ⟨l2,e3⟩:=RM l [0]
  rw [e2,e3]
  rfl
 have hz:∀v,v∈F->(qP F v=0↔v=0):=λ v hv=>by
  constructor
  ·intro e
   have a1:=Vs hv
   have hz0:(0:Int)∈F:=(hmem 0).mpr ⟨0,0,by omega,by omega,(dg 0 0 (by omega) (by omega)).mpr rfl⟩
   have a2:=Vs hz0
   rw [e] at a1
   rw [h0,a1] at a2
   exact Option.some.inj a2
  ·intro e;rw [e];exact h0
 have hM:Mu n (λ i j=>if i<n/\j<n then ((qP F (μ i j):Nat):Int) else 0) (F.length - 1) (λ _ _=>True):=by
  have hin:∀i j,i<n->j<n->μ i j∈F:=λ i j hi hj=>(hmem _).mpr ⟨i,j,hi,hj,rfl⟩
  refine ⟨λ i=>?_,λ i j=>?_,λ i j hij hj _=>?_,λ i j _ _ hn=>absurd trivial hn,λ k k1 kc=>?_⟩
  ·by_cases hi:i<n
   ·rw [if_pos ⟨hi,hi⟩,(dg i i hi hi).mpr rfl,h0];rfl
   ·rw [if_neg (λ z=>hi z.1)]
  ·by_cases hi:i<n/\j<n
   ·rw [if_pos hi,if_pos ⟨hi.2,hi.1⟩,sy i j hi.1 hi.2]
   ·rw [if_neg hi,if_neg (λ z=>hi ⟨z.2,z.1⟩)]
  ·have hi:i<n:=by omega
   rw [if_pos ⟨hi,hj⟩]
   have a1:=Pd (hin i j hi hj)
   have a2:qP F (μ i j)≠0:=λ e=>by
    have:=(dg i j hi hj).mp ((hz _ (hin i j hi hj)).mp e)
    omega
   omega
  ·have hk:k<F.length:=by omega
   obtain ⟨i,j,hi,hj,e⟩:=(hmem F[k]).mp (List.getElem_mem hk)
   refine ⟨i,j,hi,hj,?_⟩
   rw [if_pos ⟨hi,hj⟩,e,RX hnd (List.getElem?_eq_getElem hk)]
 have hT:q9 (qI n μ) (List.range n)=qI n (λ i j=>if i<n/\j<n then ((qP F (μ i j):Nat):Int) else 0):=by
  unfold q9
  rw [hF,hrows]
  have:qI n μ=(List.range n).map λ i=>(List.range n).map (μ i):=rfl
  rw [this,List.map_map]
  apply List.map_congr_left
  intro i hi
  show ((List.range n).map (μ i)).map _=_
  rw [List.map_map]
  apply List.map_congr_left
  intro j hj
  show _=(if i<n/\j<n then ((qP F (μ i j):Nat):Int) else 0)
  rw [if_pos ⟨List.mem_range.mp hi,List.mem_range.mp hj⟩]
  rfl
 have hF0:1<=F.length:=by
  have:=(hmem 0).mpr ⟨0,0,by omega,by omega,(dg 0 0 (by omega) (by omega)).mpr rfl⟩
  exact List.length_pos_of_mem this
 rw [hT]
 exact ⟨hM.tab (λ _ _ _ _=>trivial) n1 n8 (.inr (by omega)),QS⟩
end Mi
namespace G
open PySem L2 Mi
section
variable {ns:List Int}{Pt:Addr}{n:Nat}{A:Hx}{t:List (List Int)}
theorem zZ.setn {o:O}(h:zZ ns Pt n A)(s:yf n (A.set n o)):zZ ns Pt n (A.set n o):=by
 have:=h.two
 refine ⟨?_,?_,h.two,s⟩
 ·rw [List.getElem?_set_ne (by omega)];exact h.h0
 ·rw [List.getElem?_set_ne (by omega)];exact h.h1
theorem Jb (h:zZ ns Pt n A){m:Int}(h1:0<m)(h2:m<1000):∃(r:Nat) (A':Hx),qy [.ref n,.int m] A=.ok (.int r) A'/\(r:Int)<m/\zZ ns Pt n A'/\Kp n A A'/\A'.length=A.length:=by
 obtain ⟨r,o,e,a,b,s⟩:=Je h.st h1 h2
 exact ⟨r.toNat,A.set n o,by rw [e,Int.toNat_of_nonneg a],by omega,h.setn s,Kp.set,List.length_set ..⟩
theorem Mz (h8:t.length<=8)(hq:Sq t){ρ:En}(h1:ρ[1]? =some (some (zj t)))(B:Hx):qO (zW 1 [] (qd (zc 1)) (zA 0) (zi (.bl true)) (zJ (qO (zM (zc 0))))) ρ B=
  .ok (.ref (B.length+t.length)) (B++(t.map λ r=>O.lst (r.map W.int))++[O.lst ((List.range t.length).map λ i=>W.ref (B.length+i))]):=by
 obtain ⟨ρ',acc',B',e,⟨z,g1⟩,g2,g3⟩:=QL (nl:=1) (cap:=[]) (tw:=zA 0) (ifs:=zi (.bl true)) (em:=zJ (qO (zM (zc 0)))) (ρ:=ρ) (A:=B) (N:=t.length)
  (I:=λ p ρ' a C=>(∃z,ρ'=[z])/\C=B++((t.take p).map λ r=>O.lst (r.map W.int))/\a=(List.range p).map λ i=>W.ref (B.length+i)) (ZS (zu h1)) (by simp)
  (λ p ρ' a C hp ⟨⟨z,f1⟩,f2,f3⟩=>by
   subst f1 f2 f3
   refine ⟨qc t[p],[some (qc t[p])],?_,rfl,.inl ⟨_,_,_,_,rfl,QU (gA (yM (w:=qc t[p]) (ws:=t[p].map W.int) (zu rfl) rfl)) ?_,⟨_,rfl⟩,?_,?_⟩⟩
   ·show some (t.map qc)[p]? =_
    rw [List.getElem?_map,List.getElem?_eq_getElem hp];rfl
   ·simp;unfold zP;omega
   ·rw [take_succ hp,List.map_append,List.append_assoc];rfl
   ·rw [List.range_succ,List.map_append,List.length_append,List.length_map,List.length_take,Nat.min_eq_left (Nat.le_of_lt hp)];rfl)
  (λ ρ' a C _=>by show some (t.map qc)[t.length]? =_;rw [List.getElem?_eq_none (by simp)]) ⟨⟨none,rfl⟩,by simp,by simp⟩
 rw [gA e,g2,g3,List.take_length]
 simp
end
section
variable {ns:List Int}{Pt:Addr}{n:Nat}{A:Hx}{t:List (List Int)}
theorem Ek (hq:Sq t):t=qI t.length (at2 t):=by
 unfold qI
 apply List.ext_getElem
 ·simp
 ·intro i h1 h2
  rw [List.getElem_map,List.getElem_range]
  have hr:t[i].length=t.length:=hq _ (List.getElem_mem h1)
  apply List.ext_getElem
  ·rw [hr];simp
  ·intro j h3 h4
   rw [List.getElem_map,List.getElem_range]
   unfold at2
   rw [List.getD_eq_getElem?_getD (l:=t),List.getElem?_eq_getElem h1,Option.getD_some,List.getD_eq_getElem?_getD,List.getElem?_eq_getElem h3,Option.getD_some]
noncomputable def wJ (t:List (List Int))(a b:Nat)(k:Int):Nat->Nat->Int:=λ i j=>if (i=a/\j=b)∨(i=b/\j=a) then k else at2 t i j
theorem HM (h:qh t){a b:Nat}{k:Int}(ha:a<t.length)(hb:b<t.length)(hab:a≠b)(k1:1<=k)(kn:k<(t.length:Int)):qh (q9 (qI t.length (wJ t a b k)) (List.range t.length))/\(q9 (qI t.length (wJ t a b k)) (List.range t.length)).length=t.length:=by
 refine DB h.n1 h.n8 (λ i j hi hj=>?_) (λ i j hi hj=>?_) (λ i j hi hj=>?_)
 ·unfold wJ
  by_cases c:(i=a/\j=b)∨(i=b/\j=a)
  ·rw [if_pos c]
   constructor
   ·intro e;omega
   ·intro e;exfalso;rcases c with ⟨c1,c2⟩ | ⟨c1,c2⟩<;>omega
  ·rw [if_neg c];exact h.dg i j hi hj
 ·unfold wJ
  by_cases c:(i=a/\j=b)∨(i=b/\j=a)
  ·rw [if_pos c,if_pos (c.elim (λ z=>.inr ⟨z.2,z.1⟩) λ z=>.inl ⟨z.2,z.1⟩)]
  ·rw [if_neg c,if_neg (λ z=>c (z.elim (λ z=>.inr ⟨z.2,z.1⟩) λ z=>.inl ⟨z.2,z.1⟩))];exact h.sy i j hi hj
 ·unfold wJ
  split
  ·omega
  ·obtain ⟨r,hr,h1,_⟩:=Vc h.sq hi hj
   exact h.lo r hr _ h1
noncomputable abbrev B3:Ex:=zp (zK 3 (zx qy (zh (zc 0) (zh (mQ qa (zM (zc 1))) (zo))))) (zp (zK 4 (zl ka (zl qb (zl qb (zc 3) (zi (.int 1))) (zx qy (zh (zc 0) (zh (zl yh (mQ qa (zM (zc 1))) (zi (.int 1))) (zo))))) (mQ qa (zM (zc 1))))) (zp (zK 5 (qO (zW 1 [] (qd (zc 1)) (zA 0) (zi (.bl true)) (zJ (qO (zM (zc 0))))))) (zp (zK 6 (zl zI (zX (zh (zi (.int 1)) (zh (zl wB (zx gu (zh (zc 1) (zo))) (zl yh (mQ qa (zM (zc 1))) (zi (.int 1)))) (zo)))) (zx qy (zh (zc 0) (zh (zi (.int 2)) (zo)))))) (zp (QZ yr (zS (zh (zc 6) (zh (zc 6) (zo)))) (zl zI (zc 5) (zc 3)) (zc 4) (zl zI (zc 5) (zc 4)) (zc 3)) (zp (qQ (qx qY (zc 2) (zx yL (zh (mQ qH (zW 1 [] (qd (zc 5)) (zA 0) (zi (.bl true)) (zJ (mQ qH (zM (zc 0)))))) (zh (kJ (mQ qa (zM (zc 1)))) (zo)))))) (zw))))))
theorem QW (hq:Sq t){a b B r:Nat}{k:Int}(ha:a<t.length)(hb:b<t.length)(hab:a≠b){C:Hx}{x0 x2:Option W}(hrow:∀i,i<t.length->C[B+i]? =some (.lst ((List.range t.length).map λ j=>W.int (at2 t i j))))(hr:C[r]? =some (.lst ((List.range t.length).map λ i=>W.ref (B+i))))(hrB:B+t.length<=r):
  ∃C',QZ yr (zS (zh (zc 6) (zh (zc 6) (zo)))) (zl zI (zc 5) (zc 3)) (zc 4) (zl zI (zc 5) (zc 4)) (zc 3) [x0,some (zj t),x2,some (.int (a:Int)),some (.int (b:Int)),some (.ref r),some (.int k)] C=
   .ok (.nx [x0,some (zj t),x2,some (.int (a:Int)),some (.int (b:Int)),some (.ref r),some (.int k)]) C'/\(∀i,i<t.length->C'[B+i]? =some (.lst ((List.range t.length).map λ j=>W.int (wJ t a b k i j))))/\C'[r]? =some (.lst ((List.range t.length).map λ i=>W.ref (B+i)))/\C'.length=C.length/\(∀i,i<B∨B+t.length<=i->C'[i]? =C[i]?):=by
 have ref_ix:∀(D:Hx) (i:Nat),i<t.length->D[r]? =some (.lst ((List.range t.length).map λ i=>W.ref (B+i)))->zI (.ref r) (.int (i:Int)) D=.ok (.ref (B+i)) D:=λ D i hi hD=>ZU hD (by rw [List.getElem?_map,List.getElem?_range hi];rfl)
 have hlen:∀g:Nat->W,((List.range t.length).map g).length=t.length:=λ g=>by simp
 have p1:=Ro (v:=.int k) (b:=b) (hrow a ha) (by rw [hlen];exact hb)
 rw [Vf hb] at p1
 have hr1:(C.set (B+a) (.lst ((List.range t.length).map λ j=>W.int (if j=b then k else at2 t a j))))[r]? =some (.lst ((List.range t.length).map λ i=>W.ref (B+i))):=by rw [List.getElem?_set_ne (by omega)];exact hr
 have hb1:(C.set (B+a) (.lst ((List.range t.length).map λ j=>W.int (if j=b then k else at2 t a j))))[B+b]? =some (.lst ((List.range t.length).map λ j=>W.int (at2 t b j))):=by rw [List.getElem?_set_ne (by omega)];exact hrow b hb
 have p2:=Ro (v:=.int k) (b:=a) hb1 (by rw [hlen];exact ha)
 rw [Vf ha] at p2
 refine ⟨(C.set (B+a) (.lst ((List.range t.length).map λ j=>W.int (if j=b then k else at2 t a j)))).set (B+b) (.lst ((List.range t.length).map λ j=>W.int (if j=a then k else at2 t b j))),?_,λ i hi=>?_,?_,?_,λ i hi=>?_⟩
 ·unfold QZ
  rw [KN (qm (zu (i:=6) (w:=.int k) rfl) (qm (zu (i:=6) (w:=.int k) rfl) jh)),zB]
  dsimp only
  unfold Yh
  rw [zO (zu (i:=5) (w:=.ref r) rfl) (zu (i:=3) (w:=.int (a:Int)) rfl),ref_ix C a ha hr,zB,zu (i:=4) (w:=.int (b:Int)) rfl,zB,p1,zB]
  dsimp only
  rw [zO (zu (i:=5) (w:=.ref r) rfl) (zu (i:=4) (w:=.int (b:Int)) rfl),ref_ix _ b hb hr1,zB,zu (i:=3) (w:=.int (a:Int)) rfl,zB,p2,zB]
 ·have hrow':∀(f g:Nat->Int),(∀j,j<t.length->f j=g j)->some (O.lst ((List.range t.length).map λ j=>W.int (f j)))=some (O.lst ((List.range t.length).map λ j=>W.int (g j))):=λ f g e=>by
   congr 2
   apply List.map_congr_left
   intro j hj
   rw [e j (List.mem_range.mp hj)]
  by_cases ib:i=b
  ·subst ib
   rw [List.getElem?_set_self (yV hb1)]
   refine hrow' _ _ λ j hj=>?_
   unfold wJ
   by_cases ja:j=a
   ·rw [if_pos ja,if_pos (.inr ⟨rfl,ja⟩)]
   ·rw [if_neg ja,if_neg (by rintro (⟨z,_⟩ | ⟨_,z⟩)<;>omega)]
  ·rw [List.getElem?_set_ne (by omega)]
   by_cases ia:i=a
   ·subst ia
    rw [List.getElem?_set_self (yV (hrow i ha))]
    refine hrow' _ _ λ j hj=>?_
    unfold wJ
    by_cases jb:j=b
    ·rw [if_pos jb,if_pos (.inl ⟨rfl,jb⟩)]
    ·rw [if_neg jb,if_neg (by rintro (⟨_,z⟩ | ⟨z,_⟩)<;>omega)]
   ·rw [List.getElem?_set_ne (by omega),hrow i hi]
    refine hrow' _ _ λ j hj=>?_
    unfold wJ
    rw [if_neg (by rintro (⟨z,_⟩ | ⟨z,_⟩)<;>omega)]
 ·rw [List.getElem?_set_ne (by omega)];exact hr1
 ·rw [List.length_set,List.length_set]
 ·rw [List.getElem?_set_ne (by omega),List.getElem?_set_ne (by omega)]
theorem Fb {C:Hx}{B r:Nat}{μ:Nat->Nat->Int}{m:Nat}(hm:m<=8){ρ:En}(h5:ρ[5]? =some (some (.ref r)))(hr:C[r]? =some (.lst ((List.range m).map λ i=>W.ref (B+i))))(hrow:∀i,i<m->C[B+i]? =some (.lst ((List.range m).map λ j=>W.int (μ i j)))):
  mQ qH (zW 1 [] (qd (zc 5)) (zA 0) (zi (.bl true)) (zJ (mQ qH (zM (zc 0))))) ρ C=.ok (zj (qI m μ)) C:=by
 have e:=QO (cap:=[]) (me:=mQ qH (zM (zc 0))) (ρ:=ρ) (A:=C) (N:=m) (item:=λ i=>.ref (B+i)) (g:=λ i=>.tup ((List.range m).map λ j=>W.int (μ i j))) (ZR (zu h5) hr) (by simp) (by unfold zP;omega)
  (λ i hi=>(Jf hr).trans (by rw [List.getElem?_map,List.getElem?_range hi];rfl)) ((Jf hr).trans (by rw [List.getElem?_eq_none (by simp)]))
  (λ i hi=>wW (yM (w:=.ref (B+i)) (A1:=C) (zu rfl) (by unfold zE;dsimp only;rw [hrow i hi])))
 rw [wW e]
 congr 2
 unfold qI
 rw [List.map_map]
 apply List.map_congr_left
 intro i _
 show W.tup _=W.tup (((List.range m).map (μ i)).map W.int)
 rw [List.map_map]
 rfl
theorem zZ.of {A':Hx}(h:zZ ns Pt n A)(e0:A'[0]? =A[0]?)(e1:A'[1]? =A[1]?)(en:A'[n]? =A[n]?):zZ ns Pt n A':=by
 refine ⟨by rw [e0];exact h.h0,by rw [e1];exact h.h1,h.two,?_⟩
 obtain ⟨c,b,e,r⟩:=h.st
 exact ⟨c,b,by rw [en];exact e,r⟩
theorem DV (H:zZ ns Pt n A)(h:qh t)(h2:2<t.length){s:Nat}{us:List (List (List Int))}(hs:A[s]? =some (.lst (us.map zj)))(hsn:n<s)(hul:us.length<=10):
  ∃u ρ' A',B3 [some (.ref n),some (zj t),some (.ref s),none,none,none,none] A=.ok (.nx (some (.ref n)::some (zj t)::some (.ref s)::ρ')) A'/\A'[s]? =some (.lst ((us++[u]).map zj))/\qh u/\u.length=t.length/\zZ ns Pt n A'/\(∀i,i<A.length->i≠n->i≠s->A'[i]? =A[i]?)/\A.length<=A'.length:=by
 have n8:=h.n8
 have hslt:=yV hs
 obtain ⟨a,A1,e1,ha,H1,k1,l1⟩:=Jb H (m:=(t.length:Int)) (by omega) (by omega)
 obtain ⟨q,A2,e2,hq,H2,k2,l2⟩:=Jb H1 (m:=(t.length:Int) - 1) (by omega) (by omega)
 have K2:=k1.trans k2
 have hs2:=K2.get hs (by omega)
 generalize hb0:(a+1+q) % t.length=b
 have hb:b<t.length:=by rw [<- hb0];exact Nat.mod_lt _ (by omega)
 have hab:a≠b:=by
  rw [<- hb0]
  by_cases c:a+1+q<t.length
  ·rw [Nat.mod_eq_of_lt c];omega
  ·rw [Nat.mod_eq_sub_mod (by omega),Nat.mod_eq_of_lt (by omega)];omega
 have er:=Mz (t:=t) n8 h.sq (ρ:=[some (.ref n),some (zj t),some (.ref s),some (.int (a:Int)),some (.int (b:Int)),none,none]) rfl A2
 have htr:(t.map λ r=>O.lst (r.map W.int))=(List.range t.length).map λ i=>O.lst ((List.range t.length).map λ j=>W.int (at2 t i j)):=by
  conv=>lhs;rw [Ek h.sq]
  unfold qI
  rw [List.map_map]
  apply List.map_congr_left
  intro i _
  show O.lst (((List.range t.length).map (at2 t i)).map W.int)=_
  rw [List.map_map]
  rfl
 rw [htr] at er
 generalize hA3:A2++((List.range t.length).map λ i=>O.lst ((List.range t.length).map λ j=>W.int (at2 t i j)))++[O.lst ((List.range t.length).map λ i=>W.ref (A2.length+i))]=A3 at er
 have x3:Ext A2 A3:=by rw [<- hA3,List.append_assoc];exact ⟨_,rfl⟩
 have H3:=H2.ext x3
 have hrow3:∀i,i<t.length->A3[A2.length+i]? =some (.lst ((List.range t.length).map λ j=>W.int (at2 t i j))):=λ i hi=>by
  rw [<- hA3,List.getElem?_append_left (by simp;omega),List.getElem?_append_right (by omega),show A2.length+i - A2.length=i by omega,List.getElem?_map,List.getElem?_range hi]
  rfl
 have hr3:A3[A2.length+t.length]? =some (.lst ((List.range t.length).map λ i=>W.ref (A2.length+i))):=by
  rw [<- hA3,List.getElem?_append_right (by simp)]
  simp
 have l3:A3.length=A2.length+t.length+1:=by rw [<- hA3];simp;omega
 have ek:=UP h A3
 generalize hmn:(if (t.length:Int) - 1<jw t then (t.length:Int) - 1 else jw t)=mn
 have kb:=VE h
 have x4:Ext A3 (A3++[O.lst [.int 1,.int mn]]):=Ext.one
 have hA4:(A3++[O.lst [.int 1,.int mn]])[A3.length]? =some (.lst [.int 1,.int mn]):=jq
 have el4:zX (zh (zi (.int 1)) (zh (zl wB (zx gu (zh (zc 1) (zo))) (zl yh (mQ qa (zM (zc 1))) (zi (.int 1)))) (zo))) [some (.ref n),some (zj t),some (.ref s),some (.int (a:Int)),some (.int (b:Int)),some (.ref (A2.length+t.length)),none] A3=.ok (.ref A3.length) (A3++[O.lst [.int 1,.int mn]]):=by
  refine yF (qm (jR (w:=.int 1)) (qm ((zO ((zR (ws:=[zj t]) (A1:=A3) rfl).trans ek) ((zO (yX rfl) (jR (w:=.int 1))).trans rfl)).trans ?_) jh))
  show R.ok (W.int (if (t.length:Int) - 1<jw t then (t.length:Int) - 1 else jw t)) A3=_
  rw [hmn]
 have H4:=H3.ext x4
 obtain ⟨g,A5,e5,hg,H5,k5,l5⟩:=Jb H4 (m:=2) (by decide) (by decide)
 have two:=H.two
 have hnA2:n<A2.length:=by rw [l2,l1];exact H.lt
 have hlist5:A5[A3.length]? =some (.lst [.int 1,.int mn]):=k5.get hA4 (by omega)
 generalize hkk:(if g=0 then (1:Int) else mn)=k
 have hk1:1<=k/\k<(t.length:Int):=by
  rw [<- hkk,<- hmn]
  split
  ·omega
  ·split<;>omega
 have ek5:zI (.ref A3.length) (.int (g:Int)) A5=.ok (.int k) A5:=by
  refine ZU hlist5 ?_
  rcases (show g=0∨g=1 by omega) with rfl | rfl
  ·rw [<- hkk];rfl
  ·rw [<- hkk];rfl
 have hrow5:∀i,i<t.length->A5[A2.length+i]? =some (.lst ((List.range t.length).map λ j=>W.int (at2 t i j))):=λ i hi=>k5.get (x4.at (hrow3 i hi)) (by omega)
 have hr5:=k5.get (x4.at hr3) (by omega)
 obtain ⟨A6,e6,hrow6,hr6,l6,k6⟩:=QW (k:=k) (x0:=some (.ref n)) (x2:=some (.ref s)) h.sq (by omega:a<t.length) hb hab hrow5 hr5 (Nat.le_refl _)
 have K5:Kp n A A5:=(K2.trans (Kp.ext (x3.trans x4))).trans k5
 have hA2l:A2.length=A.length:=by omega
 have hl5:A5.length=A3.length+1:=by rw [l5];simp
 have K6:Kp n A A6:=⟨by rw [l6];exact K5.len,λ i h1 h2=>by rw [k6 i (.inl (by omega))];exact K5.at_ i h1 h2⟩
 have H6:zZ ns Pt n A6:=H5.of (k6 0 (.inl (by omega))) (k6 1 (.inl (by omega))) (k6 n (.inl hnA2))
 have hs6:A6[s]? =some (.lst (us.map zj)):=K6.get hs (by omega)
 generalize hρ:[some (W.ref n),some (zj t),some (.ref s),some (.int (a:Int)),some (.int (b:Int)),some (.ref (A2.length+t.length)),some (.int k)]=ρ at e6
 have ef:=Fb (C:=A6) (μ:=wJ t a b k) (m:=t.length) n8 (ρ:=ρ) (by rw [<- hρ];rfl) hr6 hrow6
 have eL:kJ (mQ qa (zM (zc 1))) ρ A6=.ok (.ref A6.length) (A6++[O.lst (iL (List.range t.length))]):=Xq (yX (t:=t) (by rw [<- hρ];rfl)) (by omega)
 obtain ⟨A7,e7,x7⟩:=Ub (t:=qI t.length (wJ t a b k)) (o:=List.range t.length) (w:=.ref A6.length) (A:=A6++[O.lst (iL (List.range t.length))]) Vj (λ a ha=>by rw [QS];exact List.mem_range.mp ha) (by rw [List.length_range];exact n8) (by unfold zE;dsimp only;rw [jq])
 have x67:Ext A6 A7:=Ext.one.trans x7
 have hs7:=x67.at hs6
 have tb:=HM h (by omega:a<t.length) hb hab hk1.1 hk1.2
 generalize hu:q9 (qI t.length (wJ t a b k)) (List.range t.length)=u at e7 tb
 have ea:qx qY (zc 2) (zx yL (zh (mQ qH (zW 1 [] (qd (zc 5)) (zA 0) (zi (.bl true)) (zJ (mQ qH (zM (zc 0)))))) (zh (kJ (mQ qa (zM (zc 1)))) (zo)))) ρ A6=.ok .non (A7.set s (.lst (us.map zj++[zj u]))):=by
  refine (Kw (n:=s) (zu (by rw [<- hρ];rfl)) hs6 ((zR (qm ef (qm eL jh))).trans e7)).trans ?_
  exact U2 hs7 (by rw [List.length_map];omega)
 have hs7l:=yV hs7
 refine ⟨u,[some (.int (a:Int)),some (.int (b:Int)),some (.ref (A2.length+t.length)),some (.int k)],A7.set s (.lst (us.map zj++[zj u])),?_,?_,tb.1,tb.2,?_,λ i h1 h2 h3=>?_,?_⟩
 ·have em:(a:Int)+1+(q:Int)=((a+1+q:Nat):Int):=by omega
  refine (zD (ρ1:=[some (.ref n),some (zj t),some (.ref s),some (.int (a:Int)),none,none,none]) (A1:=A1) ((qM ((zR (ws:=[.ref n,.int (t.length:Int)]) (A1:=A) (qm (zu (i:=0) rfl) (qm (yX rfl) jh))).trans e1)).trans rfl)).trans ?_
  refine (zD (ρ1:=[some (.ref n),some (zj t),some (.ref s),some (.int (a:Int)),some (.int (b:Int)),none,none]) (A1:=A2) ((qM (w:=.int (b:Int)) (A1:=A2) ?_).trans rfl)).trans ?_
  ·refine (zO ((zO ((zO (zu (i:=3) rfl) (jR (w:=.int 1))).trans rfl) ((zR (ws:=[.ref n,.int ((t.length:Int) - 1)]) (A1:=A1) (qm (zu (i:=0) rfl) (qm ((zO (yX rfl) (jR (w:=.int 1))).trans rfl) jh))).trans e2)).trans rfl) (yX rfl)).trans ?_
   rw [em]
   refine (Qj (by omega)).trans ?_
   rw [<- hb0]
   rfl
  refine (zD (ρ1:=[some (.ref n),some (zj t),some (.ref s),some (.int (a:Int)),some (.int (b:Int)),some (.ref (A2.length+t.length)),none]) (A1:=A3) ((qM er).trans rfl)).trans ?_
  refine (zD (ρ1:=ρ) (A1:=A5) ((qM ((zO el4 ((zR (ws:=[.ref n,.int 2]) (A1:=A3++[O.lst [.int 1,.int mn]]) rfl).trans e5)).trans ek5)).trans (by rw [<- hρ];rfl))).trans ?_
  refine (zD e6).trans ?_
  refine (zD (yx ea)).trans ?_
  rw [<- hρ]
  rfl
 ·rw [List.getElem?_set_self hs7l,List.map_append];rfl
 ·have H7:=H6.ext x67
  exact H7.put hsn _
 ·rw [List.getElem?_set_ne (Ne.symm h3)]
  obtain ⟨l,rfl⟩:=x67
  rw [List.getElem?_append_left (by rw [l6,hl5,l3];omega)]
  exact K6.at_ i h1 h2
 ·rw [List.length_set]
  exact Nat.le_trans K6.len x67.len
theorem L9 (H:zZ ns Pt n A)(h:qh t)(h6:t.length<=6):∃(us:List (List (List Int))) (r:Nat) (A':Hx),Zf [.ref n,zj t] A=.ok (.ref r) A'/\A'[r]? =some (.lst (us.map zj))/\(∀u∈us,qh u/\u.length<=6)/\us.length<=4/\zZ ns Pt n A'/\Kp n A A'/\A.length<=r:=by
 obtain ⟨u,o1,e1,s1,tu,lu⟩:=T6 h H.st
 have H1:=H.setn s1
 have k1:Kp n A (A.set n o1):=Kp.set
 have l1:(A.set n o1).length=A.length:=List.length_set ..
 generalize A.set n o1=A1 at *
 obtain ⟨v,o2,e2,s2,tv,lv⟩:=RP H1.st (u:=6) (by decide) (by decide)
 have H2:=H1.setn s2
 have k2:Kp n A (A1.set n o2):=k1.trans Kp.set
 have l2:(A1.set n o2).length=A1.length:=List.length_set ..
 generalize A1.set n o2=A2 at *
 have hlt:=H2.lt
 have hall:∀w∈[u,t,v],qh w/\w.length<=6:=λ w hw=>by
  rcases List.mem_cons.mp hw with rfl | hw
  ·exact ⟨tu,by omega⟩
  rcases List.mem_cons.mp hw with rfl | hw
  ·exact ⟨h,h6⟩
  rw [List.mem_singleton.mp hw]
  exact ⟨tv,lv⟩
 have H3:=H2.app (.lst ([u,t,v].map zj))
 have hs3:(A2++[O.lst ([u,t,v].map zj)])[A2.length]? =some (.lst ([u,t,v].map zj)):=jq
 have k3:Kp n A (A2++[O.lst ([u,t,v].map zj)]):=k2.trans (Kp.ext Ext.one)
 have eL:zX (zh (zx kW (zh (zc 0) (zh (zc 1) (zo)))) (zh (zc 1) (zh (zx wj (zh (zc 0) (zh (zi (.int 6)) (zo)))) (zo)))) [some (.ref n),some (zj t),none,none,none,none,none] A=.ok (.ref A2.length) (A2++[O.lst ([u,t,v].map zj)]):=
  yF (qm ((zR (ws:=[.ref n,zj t]) (A1:=A) rfl).trans e1) (qm (zu (i:=1) rfl) (qm ((zR (ws:=[.ref n,.int 6]) (A1:=A1) rfl).trans e2) jh)))
 have l3:(A2++[O.lst ([u,t,v].map zj)]).length=A2.length+1:=by simp
 generalize A2++[O.lst ([u,t,v].map zj)]=A3 at *
 unfold Zf UE
 have egt:zl Yu (mQ qa (zM (zc 1))) (zi (.int 2)) [some (.ref n),some (zj t),some (.ref A2.length),none,none,none,none] A3=.ok (.bl (decide ((2:Int)<(t.length:Int)))) A3:=(zO (yX rfl) (jR (w:=.int 2))).trans rfl
 by_cases h2:2<t.length
 ·rw [decide_eq_true (by omega)] at egt
  obtain ⟨w,ρ',A4,e4,hs4,tw,lw,H4,k4,l4⟩:=DV (us:=[u,t,v]) H3 h h2 hs3 hlt (show 3<=10 by decide)
  refine ⟨[u,t,v]++[w],A2.length,A4,jd ?_,hs4,λ z hz=>?_,by simp,H4,⟨by omega,λ i h1 h2=>?_⟩,by omega⟩
  ·unfold Y4
   refine (zD (ρ1:=[some (.ref n),some (zj t),some (.ref A2.length),none,none,none,none]) (A1:=A3) ((qM eL).trans rfl)).trans ?_
   exact (zD ((wz egt).trans e4)).trans (qD (ji (zu rfl)))
  ·rcases List.mem_append.mp hz with hz | hz
   ·exact hall z hz
   ·rw [List.mem_singleton.mp hz];exact ⟨tw,by omega⟩
  ·rw [k4 i (by omega) h2 (by omega)]
   exact k3.at_ i h1 h2
 ·rw [decide_eq_false (by omega)] at egt
  refine ⟨[u,t,v],A2.length,A3,jd ?_,hs3,hall,by simp,H3,k3,by omega⟩
  unfold Y4
  refine (zD (ρ1:=[some (.ref n),some (zj t),some (.ref A2.length),none,none,none,none]) (A1:=A3) ((qM eL).trans rfl)).trans ?_
  exact (zD ((yz egt).trans gE)).trans (qD (ji (zu rfl)))
end
noncomputable def BI:Ex:=zp (zK 8 (zx yL (zh (zc 7) (zh (kJ (mQ qa (zM (zc 7)))) (zo))))) (zp (zK 9 (Z7 (zl gW (zc 8) (zc 6)) (zl zI (zc 5) (qx Zo (zc 6) (zc 8))) (zi .non))) (zp (jc (kz (zx kF (zh (zx ZK (zh (zc 3) (zh (zc 7) (zo)))) (zh (zc 9) (zo))))) (zp (qj (zi (.bl false))) (zw)) (zw)) (zw)))
section
variable {ns:List Int}{Pt:Addr}{PF:jJ}{n:Nat}{A:Hx}{x0 x1 x2 x3 x4 x5 x6 x7 x8 x9 x10 x11 x12:Option W}{t u:List (List Int)}
theorem HQ {f:Fn}(hf:∀v:Int,f [.int v,.int v] []=.ok (.bl true) []){l:List Int}(hl:l.length<=8):zY 2 (gx f) [qc l,qc l] []=.ok (.bl true) []:=
 XG (by rw [List.length_map];omega) λ w hw=>by
  obtain ⟨v,_,rfl⟩:=List.mem_map.mp hw
  exact hf v
theorem IV (h8:u.length<=8)(hr:∀r∈u,r.length<=8)(A:Hx):kF [zj u,zj u] A=.ok (.bl true) A:=by
 refine yO (Rf u u) rfl (XG (by rw [List.length_map];omega) λ w hw=>?_)
 obtain ⟨r,hm,rfl⟩:=List.mem_map.mp hw
 exact yO (by show ((qc r).nr&&((qc r).nr&&true))=true;rw [Ry];rfl) rfl (HQ (λ v=>CY v []) (hr r hm))
theorem Hh {o:List Nat}(h:o.length<=8)(A:Hx):kF [zT o,zT o] A=.ok (.bl true) A:=by
 refine yO (by show ((zT o).nr&&((zT o).nr&&true))=true;rw [JY];rfl) rfl (XG (by rw [List.length_map];omega) λ w hw=>?_)
 obtain ⟨v,_,rfl⟩:=List.mem_map.mp hw
 exact yO rfl rfl (same_int _)
theorem Sa (A:Hx):kF [.non,.non] A=.ok (.bl true) A:=by
 refine yO (A1:=[]) rfl rfl (jd ?_)
 unfold gx
 refine (zD (ρ1:=[some .non,some .non]) (A1:=[]) ((yz (A1:=[]) rfl).trans rfl)).trans (qD (ji ?_))
 refine (Jd (A1:=[]) ((zO (zu (i:=0) rfl) (zu (i:=1) rfl)).trans ?_)).trans rfl
 show R.ok (W.bl (PyData.eqv .none .none)) []=_
 simp [PyData.eqv]
theorem Mo (h6:t.length<=6)(A:Hx):kF [kq t u,kq t u] A=.ok (.bl true) A:=by
 unfold kq
 split
 ·split
  ·rename_i o e
   exact Hh (by rw [(QK (List.mem_of_find?_eq_some e)).1];omega) A
  ·exact Sa A
 ·exact Sa A
theorem Fg {o:List Nat}:∀r∈q9 t o,r.length=o.length:=λ r hr=>by
 obtain ⟨a,ha,rfl⟩:=List.mem_map.mp hr
 obtain ⟨b,_,rfl⟩:=List.mem_map.mp ha
 simp
theorem DY {ρ:En}{o r:Nat}(h6:t.length<=6)(h5:ρ[5]? =some (some (.ref o)))(h6':ρ[6]? =some (some (.ref r)))(h8:ρ[8]? =some (some (zj (y0 u))))(hO:A[o]? =some (.lst ((orders t.length).map zT)))(hR:A[r]? =some (.lst ((kM t).map zj))):
  Z7 (zl gW (zc 8) (zc 6)) (zl zI (zc 5) (qx Zo (zc 6) (zc 8))) (zi .non) ρ A=.ok (kq t u) A:=by
 have tP:=Ir hR
 rw [List.map_map] at tP
 have dP:=KH A 6 (y0 u)
 have ec:zl gW (zc 8) (zc 6) ρ A=.ok (.bl (((orders t.length).map (gU ∘ q9 t)).any λ z=>PyData.eqv z (gU (y0 u)))) A:=by
  refine (zO (zu h8) (zu h6')).trans ?_
  unfold gW
  rw [dP,tP]
 rcases TY (f:=gU ∘ q9 t) (p:=λ z=>PyData.eqv z (gU (y0 u))) (orders t.length) with ⟨e1,e2,e3⟩ | ⟨j,w,e1,e2,e3,e4,e5⟩
 ·rw [e3] at ec
  rw [CF ec]
  unfold kq
  have e2':(orders t.length).find? (λ o=>wy (q9 t o) (y0 u))=none:=e2
  rw [e2']
  split<;>rfl
 ·rw [e5] at ec
  rw [Be ec]
  have e4':(orders t.length).find? (λ o=>wy (q9 t o) (y0 u))=some w:=e4
  have hw:=QK (List.mem_of_find?_eq_some e4')
  have hd:wy (q9 t w) (y0 u)=true:=List.find?_some (p:=λ o=>wy (q9 t o) (y0 u)) e4'
  have hl:t.length=u.length:=by
   by_cases c:t.length=u.length
   ·exact c
   ·exfalso
    rw [M8 (by rw [Qf,Qf,hw.1,List.length_range];exact c)] at hd
    cases hd
  unfold kq
  rw [if_pos hl,e4']
  have ei:qx Zo (zc 6) (zc 8) ρ A=.ok (.int (j:Int)) A:=by
   refine (Kw (zu h6') hR (zu h8)).trans ?_
   unfold Zo
   rw [tP,dP]
   dsimp only
   rw [e1]
   dsimp only
   rw [if_pos (by have:=Xn h6;omega)]
  refine (zO (zu h5) ei).trans (ZU hO ?_)
  rw [List.getElem?_map,e3]
  rfl
theorem Ct {o r:Nat}(ht:qh t)(h6:t.length<=6)(hu:qh u)(u6:u.length<=6)(hO:A[o]? =some (.lst ((orders t.length).map zT)))(hR:A[r]? =some (.lst ((kM t).map zj))):
  ∃y8 y9 A',BI [x0,x1,x2,some (zj t),x4,some (.ref o),some (.ref r),some (zj u),x8,x9,x10,x11,x12] A=.ok (.nx [x0,x1,x2,some (zj t),x4,some (.ref o),some (.ref r),some (zj u),y8,y9,x10,x11,x12]) A'/\Ext A A':=by
 have eL:kJ (mQ qa (zM (zc 7))) [x0,x1,x2,some (zj t),x4,some (.ref o),some (.ref r),some (zj u),x8,x9,x10,x11,x12] A=.ok (.ref A.length) (A++[O.lst (iL (List.range u.length))]):=Xq (yX (t:=u) rfl) (by omega)
 obtain ⟨A1,e1,x⟩:=Ub (t:=u) (o:=List.range u.length) (w:=.ref A.length) (A:=A++[O.lst (iL (List.range u.length))]) hu.sq So (by rw [List.length_range];omega) (by unfold zE;dsimp only;rw [jq])
 have x1':Ext A A1:=Ext.one.trans x
 refine ⟨some (zj (y0 u)),some (kq t u),A1,?_,x1'⟩
 unfold BI
 refine (zD (ρ1:=[x0,x1,x2,some (zj t),x4,some (.ref o),some (.ref r),some (zj u),some (zj (y0 u)),x9,x10,x11,x12]) (A1:=A1) ((qM ((zR (qm (zu (i:=7) rfl) (qm eL jh))).trans e1)).trans rfl)).trans ?_
 refine (zD (ρ1:=[x0,x1,x2,some (zj t),x4,some (.ref o),some (.ref r),some (zj u),some (zj (y0 u)),some (kq t u),x10,x11,x12]) (A1:=A1) ((qM (DY h6 rfl rfl rfl (x1'.at hO) (x1'.at hR))).trans rfl)).trans ?_
 refine (zD (PO ?_)).trans rfl
 exact (zR (qm ((zR (ws:=[zj t,zj u]) (A1:=A1) rfl).trans (F7 ht hu h6 u6 A1)) (qm (zu (i:=9) rfl) jh))).trans (Mo h6 A1)
theorem FK (H:zZ ns Pt n A){o r q:Nat}{us:List (List (List Int))}(ht:qh t)(h6:t.length<=6)(hus:∀u∈us,qh u/\u.length<=6)(hO:A[o]? =some (.lst ((orders t.length).map zT)))(hR:A[r]? =some (.lst ((kM t).map zj)))(hQ:A[q]? =some (.lst (us.map zj))):
  ∃y7 y8 y9 A',jN ⟨λ A i=>(zE (.ref q) A).map λ ws=>ws[i]?,us.length⟩ (turn (zA 7) BI) us.length 0 [x0,x1,x2,some (zj t),x4,some (.ref o),some (.ref r),x7,x8,x9,x10,x11,x12] A=
   .ok (.nx [x0,x1,x2,some (zj t),x4,some (.ref o),some (.ref r),y7,y8,y9,x10,x11,x12]) A'/\zZ ns Pt n A':=by
 obtain ⟨ρ',A',e,⟨y7,y8,y9,h1⟩,h2⟩:=QN (j:=⟨λ A i=>(zE (.ref q) A).map λ ws=>ws[i]?,us.length⟩) (st:=turn (zA 7) BI) (N:=us.length)
  (I:=λ _ ρ B=>(∃y7 y8 y9,ρ=[x0,x1,x2,some (zj t),x4,some (.ref o),some (.ref r),y7,y8,y9,x10,x11,x12])/\Ext A B)
  (λ i ρ B hi ⟨⟨y7,y8,y9,g1⟩,g2⟩=>by
   subst g1
   have hu:=hus _ (List.getElem_mem hi)
   obtain ⟨z8,z9,B',e,x⟩:=Ct (x0:=x0) (x1:=x1) (x2:=x2) (x4:=x4) (x8:=y8) (x9:=y9) (x10:=x10) (x11:=x11) (x12:=x12) ht h6 hu.1 hu.2 (g2.at hO) (g2.at hR)
   exact ⟨_,_,_,Q9 (g2.at hQ) (by rw [List.getElem?_map,List.getElem?_eq_getElem hi];rfl),(kZ (ρ1:=[x0,x1,x2,some (zj t),x4,some (.ref o),some (.ref r),some (zj us[i]),y8,y9,x10,x11,x12]) rfl).trans e,⟨_,_,_,rfl⟩,g2.trans x⟩)
  (λ ρ B ⟨_,g2⟩=>Jk (g2.at hQ) (by simp)) us.length 0 [x0,x1,x2,some (zj t),x4,some (.ref o),some (.ref r),x7,x8,x9,x10,x11,x12] A (by omega) ⟨⟨_,_,_,rfl⟩,Ext.refl⟩
 subst h1
 exact ⟨y7,y8,y9,A',e,H.ext h2⟩
theorem He (ht:qh t)(h6:t.length<=6){ρ:En}{o:Nat}(h3:ρ[3]? =some (some (zj t)))(h5:ρ[5]? =some (some (.ref o)))(hO:A[o]? =some (.lst ((orders t.length).map zT))):
  ∃B,qO (zW 1 [3] (qd (zc 5)) (zA 0) (zi (.bl true)) (zJ (zx yL (zh (zc 1) (zh (zc 0) (zo)))))) ρ A=.ok (.ref B.length) (B++[O.lst ((kM t).map zj)])/\Ext A B:=by
 obtain ⟨ρ',acc',B',e,⟨z,h1⟩,h2,h4⟩:=QL (nl:=1) (cap:=[3]) (tw:=zA 0) (ifs:=zi (.bl true)) (em:=zJ (zx yL (zh (zc 1) (zh (zc 0) (zo))))) (ρ:=ρ) (A:=A) (N:=(orders t.length).length)
  (I:=λ p ρ' a B=>(∃z,ρ'=[z,some (zj t)])/\Ext A B/\a=(((orders t.length).take p).map (q9 t)).map zj) (ZR (zu h5) hO) (by simp)
  (λ p ρ' a B hp ⟨⟨z,g1⟩,g2,g4⟩=>by
   subst g1 g4
   have ho:=QK (List.getElem_mem hp)
   obtain ⟨B',e,x1⟩:=Ub (A:=B) (o:=(orders t.length)[p]) ht.sq ho.2 (by rw [ho.1];omega) (Vd _ B)
   refine ⟨_,[some (zT (orders t.length)[p]),some (zj t)],Q9 (g2.at hO) (by rw [List.getElem?_map,List.getElem?_eq_getElem hp];rfl),rfl,.inl ⟨B,_,_,_,rfl,QU ((zR (qm (zu (i:=1) rfl) (qm (zu (i:=0) rfl) jh))).trans e) ?_,⟨_,rfl⟩,g2.trans x1,?_⟩⟩
   ·rw [List.length_map,List.length_map,List.length_take];have:=Xn h6;unfold zP;omega
   ·rw [take_succ hp,List.map_append,List.map_append];rfl)
  (λ ρ' a B ⟨_,g2,_⟩=>Jk (g2.at hO) (by simp)) ⟨⟨none,by
   show (none::[(ρ[3]?).join])=_
   rw [h3];rfl⟩,Ext.refl,by simp⟩
 refine ⟨B',?_,h2⟩
 rw [gA e,h4,List.take_length]
noncomputable def B2 (rest:Ex):Ex:=zp (zK 5 (zx ZJ (zh (mQ qa (zM (zc 3))) (zo)))) (zp (zK 6 (qO (zW 1 [3] (qd (zc 5)) (zA 0) (zi (.bl true)) (zJ (zx yL (zh (zc 1) (zh (zc 0) (zo)))))))) (zp (jc (kz (zx kF (zh (zx ZM (zh (zc 3) (zo))) (zh (mQ wG (zM (zc 6))) (zo))))) (zp (qj (zi (.bl false))) (zw)) (zw)) (zp (jE (qd (zx Zf (zh (zc 2) (zh (zc 3) (zo))))) (zA 7) BI) rest)))
theorem C3 (H:zZ ns Pt n A)(ht:qh t)(h6:t.length<=6)(rest:Ex):∃y5 y6 y7 y8 y9 A',B2 rest [x0,x1,some (.ref n),some (zj t),x4,x5,x6,x7,x8,x9,x10,x11,x12] A=rest [x0,x1,some (.ref n),some (zj t),x4,y5,y6,y7,y8,y9,x10,x11,x12] A'/\zZ ns Pt n A':=by
 have e1:=NI h6 A
 have H1:=H.app (.lst ((orders t.length).map zT))
 have hO1:(A++[O.lst ((orders t.length).map zT)])[A.length]? =some (.lst ((orders t.length).map zT)):=jq
 have hlt:=H.lt
 generalize A++[O.lst ((orders t.length).map zT)]=A1 at *
 obtain ⟨B,e2,x2'⟩:=He (A:=A1) ht h6 (ρ:=[x0,x1,some (.ref n),some (zj t),x4,some (.ref A.length),x6,x7,x8,x9,x10,x11,x12]) rfl rfl hO1
 have H2:=(H1.ext x2').app (.lst ((kM t).map zj))
 have hO2:=(x2'.trans (Ext.one (o:=.lst ((kM t).map zj)))).at hO1
 have hR2:(B++[O.lst ((kM t).map zj)])[B.length]? =some (.lst ((kM t).map zj)):=jq
 have hBn:n<B.length:=(H1.ext x2').lt
 generalize B++[O.lst ((kM t).map zj)]=A2 at *
 obtain ⟨u,hu,hm⟩:=Ll (ts:=kM t) Hf
 obtain ⟨o,ho,rfl⟩:=List.mem_map.mp hu
 have hol:=(QK ho).1
 have ef:=EM ht h6 hm A2
 have eS:=IV (u:=q9 t o) (by rw [Qf];omega) (λ r hr=>by rw [Fg r hr];omega) A2
 obtain ⟨us,q,A3,e3,hQ,hus,hul,H3,k3,hq⟩:=L9 H2 ht h6
 have hO3:=k3.get hO2 (by omega)
 have hR3:=k3.get hR2 (by omega)
 obtain ⟨y7,y8,y9,A4,e4,H4⟩:=FK (x0:=x0) (x1:=x1) (x2:=some (.ref n)) (x4:=x4) (x7:=x7) (x8:=x8) (x9:=x9) (x10:=x10) (x11:=x11) (x12:=x12) H3 ht h6 hus hO3 hR3 hQ
 refine ⟨some (.ref A.length),some (.ref B.length),y7,y8,y9,A4,?_,H4⟩
 unfold B2
 refine (zD (ρ1:=[x0,x1,some (.ref n),some (zj t),x4,some (.ref A.length),x6,x7,x8,x9,x10,x11,x12]) (A1:=A1) ((qM ((zR (qm (yX rfl) jh)).trans e1)).trans rfl)).trans ?_
 refine (zD (ρ1:=[x0,x1,some (.ref n),some (zj t),x4,some (.ref A.length),some (.ref B.length),x7,x8,x9,x10,x11,x12]) (A1:=A2) ((qM e2).trans rfl)).trans ?_
 refine (zD (PO ?_)).trans ?_
 ·refine (zR (qm ((zR (ws:=[zj t]) (A1:=A2) rfl).trans ef) (qm ((yn (yM (w:=.ref B.length) (A1:=A2) (ws:=(kM t).map zj) (zu rfl) (by unfold zE;dsimp only;rw [hR2]))).trans (hm A2)) jh))).trans eS
 refine zD ((wq (j:=⟨λ A i=>(zE (.ref q) A).map λ ws=>ws[i]?,us.length⟩) (A1:=A3) ?_).trans e4)
 have:=ZR (m:=zx Zf (zh (zc 2) (zh (zc 3) (zo)))) (ρ:=[x0,x1,some (.ref n),some (zj t),x4,some (.ref A.length),some (.ref B.length),x7,x8,x9,x10,x11,x12]) (A:=A2) ((zR (ws:=[.ref n,zj t]) (A1:=A2) rfl).trans e3) hQ
 rw [List.length_map] at this
 exact this
end
noncomputable def CL (Pt:Addr)(PF:jJ)(g:Int)(k0 k1 k2:Nat)(rest:Ex):Ex:=zp (zK 12 (zX (zh (yR 1 qZ Pt k0 (PF k0)) (zo)))) (zp (qQ (qx qY (zc 12) (yR 1 qZ Pt k1 (PF k1)))) (zp (qQ (qx qY (zc 12) (yR 1 qZ Pt k2 (PF k2)))) (zp (jc (zl jC (qO (Qo 1 (qd (zc 12)) (zA 0) 0 PF LS RF)) (zl qJ (zX (zh (zX (zh (zi (.int g)) (zo))) (zo))) (zi (.int 3)))) (zp (qj (zi (.bl false))) (zw)) (zw)) rest)))
noncomputable def BB (Pt:Addr)(PF:jJ):Ex:=zp (Yj (zS (zh (zx gv (zh (zl qb (zi (.int 7)) (zx qy (zh (zc 2) (zh (zi (.int 2)) (zo))))) (zo))) (zh (zx Zc (zh (zc 2) (zo))) (zo)))) (kN 10 11)) (CL Pt PF 11 0 1 2 (CL Pt PF 0 3 4 5 zw))
noncomputable def BL (Pt:Addr)(PF:jJ):Ex:=zp (zK 2 (zx ZL (zh (zc 0) (zh (zc 1) (zo))))) (zp (zK 3 (zx wj (zh (zc 2) (zh (zi (.int 6)) (zo))))) (zp (jc (zl yd (zx qy (zh (zc 2) (zh (zi (.int 3)) (zo)))) (zi (.int 0))) (zp (zK 4 (zX (zh (zx Zh (zh (zi (.int 4)) (zo))) (zh (zx kE (zh (zi (.int 6)) (zo))) (zh (zx Zg (zh (zi (.int 2)) (zh (zi (.int 3)) (zo)))) (zh (zx kE (zh (zi (.int 5)) (zo))) (zo))))))) (zp (zK 3 (zx kW (zh (zc 2) (zh (zl zI (zc 4) (zx qy (zh (zc 2) (zh (zi (.int 4)) (zo))))) (zo))))) (zw))) (zw)) (B2 (BB Pt PF))))
section
variable {ns:List Int}{Pt:Addr}{PF:jJ}{n k:Nat}{A:Hx}{x0 x1 x2 x3 x4 x5 x6 x7 x8 x9 x10 x11 x12:Option W}{t u:List (List Int)}{m:Nat}
theorem Sw {g k0 k1 k2:Nat}(H:zZ ns Pt n A)(b:BH m A)(hg:g=0∨g=11)(rr:∀c,JA g m [x0,x1,x2,x3,x4,x5,x6,x7,x8,x9,x10,x11,some (.ref c)] [k0,k1,k2])(rest:Ex):
  ∃y12 A',CL Pt PF (g:Int) k0 k1 k2 rest [x0,x1,x2,x3,x4,x5,x6,x7,x8,x9,x10,x11,x12] A=rest [x0,x1,x2,x3,x4,x5,x6,x7,x8,x9,x10,x11,y12] A'/\zZ ns Pt n A'/\BH m A':=by
 have f13:zX (zh (yR 1 qZ Pt k0 (PF k0)) (zo)) [x0,x1,x2,x3,x4,x5,x6,x7,x8,x9,x10,x11,x12] A=.ok (.ref A.length) (A++[.lst [.clo k0 [] (PF k0)]]):=yF (qm (Vp H) rfl)
 have hlt:=H.lt
 have hb:=b.lt
 have H6:=H.app (.lst [.clo k0 [] (PF k0)])
 have B6:=b.ext (Ext.one (o:=.lst [.clo k0 [] (PF k0)]))
 have c6:(A++[O.lst [.clo k0 [] (PF k0)]])[A.length]? =some (.lst [.clo k0 [] (PF k0)]):=jq
 generalize A++[O.lst [.clo k0 [] (PF k0)]]=A6 at f13 H6 c6 B6
 generalize A.length=c at f13 c6 hlt hb
 have e6:=R0 (ρ:=[x0,x1,x2,x3,x4,x5,x6,x7,x8,x9,x10,x11,some (.ref c)]) (mm:=yR 1 qZ Pt k1 (PF k1)) rfl c6 (Vp H6) (by show 1<100;decide)
 have H7:=H6.put hlt (.lst ([.clo k0 [] (PF k0)]++[.clo k1 [] (PF k1)]))
 have B7:=B6.put hb (.lst ([.clo k0 [] (PF k0)]++[.clo k1 [] (PF k1)]))
 have c7:=Pn (o:=.lst ([.clo k0 [] (PF k0)]++[.clo k1 [] (PF k1)])) c6
 generalize A6.set c (.lst ([.clo k0 [] (PF k0)]++[.clo k1 [] (PF k1)]))=A7 at e6 H7 c7 B7
 have e7:=R0 (ρ:=[x0,x1,x2,x3,x4,x5,x6,x7,x8,x9,x10,x11,some (.ref c)]) (mm:=yR 1 qZ Pt k2 (PF k2)) rfl c7 (Vp H7) (by show 2<100;decide)
 have H8:=H7.put hlt (.lst (([.clo k0 [] (PF k0)]++[.clo k1 [] (PF k1)])++[.clo k2 [] (PF k2)]))
 have B8:=B7.put hb (.lst (([.clo k0 [] (PF k0)]++[.clo k1 [] (PF k1)])++[.clo k2 [] (PF k2)]))
 have c8:=Pn (o:=.lst (([.clo k0 [] (PF k0)]++[.clo k1 [] (PF k1)])++[.clo k2 [] (PF k2)])) c7
 generalize A7.set c (.lst (([.clo k0 [] (PF k0)]++[.clo k1 [] (PF k1)])++[.clo k2 [] (PF k2)]))=A8 at e7 H8 c8 B8
 obtain ⟨A10,e10,x10'⟩:=Fi (PF:=PF) (n:=3) (rr c) B8 c8 rfl (show 3<=100 by decide) rfl (BC g hg)
 refine ⟨some (.ref c),A10,?_,H8.ext x10',B8.ext x10'⟩
 unfold CL
 refine (zD ((qM f13).trans rfl)).trans ?_
 refine (zD e6).trans ?_
 refine (zD e7).trans ?_
 exact zD ((yz e10).trans rfl)
theorem Cw (H:zZ ns Pt n A)(ht:qh t)(h6:t.length<=6):∃y10 y11 y12 A',BB Pt PF [x0,x1,some (.ref n),some (zj t),x4,x5,x6,x7,x8,x9,x10,x11,x12] A=.ok (.nx [x0,x1,some (.ref n),some (zj t),x4,x5,x6,x7,x8,x9,y10,y11,y12]) A'/\zZ ns Pt n A':=by
 obtain ⟨r,A1,e1,hr,H1,_⟩:=Jb H (m:=2) (by decide) (by decide)
 obtain ⟨w,A2,e2,hw,H2,b2,_⟩:=DA H1
 generalize A1.length=m at *
 have eg:gv [.int (7+(r:Int))] A1=.ok (zj (qS (4+r))) A1:=by
  rcases (show r=0∨r=1 by omega) with rfl | rfl
  ·exact DE A1
  ·exact Du A1
 have hgT:qh (qS (4+r)):=SK (by omega)
 have hgl:6<(qS (4+r)).length:=by
  rcases (show r=0∨r=1 by omega) with rfl | rfl<;>decide
 have ea:(Yj (zS (zh (zx gv (zh (zl qb (zi (.int 7)) (zx qy (zh (zc 2) (zh (zi (.int 2)) (zo))))) (zo))) (zh (zx Zc (zh (zc 2) (zo))) (zo)))) (kN 10 11)) [x0,x1,some (.ref n),some (zj t),x4,x5,x6,x7,x8,x9,x10,x11,x12] A=.ok (.nx [x0,x1,some (.ref n),some (zj t),x4,x5,x6,x7,x8,x9,some (zj (qS (4+r))),some w,x12]) A2:=by
  unfold Yj
  rw [KN (qm ((zR (ws:=[.int (7+(r:Int))]) (A1:=A1) (qm ((zO (jR (w:=.int 7)) ((zR (ws:=[.ref n,.int 2]) (A1:=A) rfl).trans e1)).trans rfl) jh)).trans eg) (qm ((zR (ws:=[.ref n]) (A1:=A1) rfl).trans e2) jh)),zB]
  rfl
 obtain ⟨y12,A3,e3,H3,b3⟩:=Sw (PF:=PF) (g:=11) (k0:=0) (k1:=1) (k2:=2) (x0:=x0) (x1:=x1) (x2:=some (.ref n)) (x3:=some (zj t)) (x4:=x4) (x5:=x5) (x6:=x6) (x7:=x7) (x8:=x8) (x9:=x9) (x10:=some (zj (qS (4+r)))) (x11:=some w) (x12:=x12) H2 b2 (.inr rfl) (λ c=>BP hgT ht h6 hgl rfl rfl) (CL Pt PF 0 3 4 5 zw)
 obtain ⟨z12,A4,e4,H4,b4⟩:=Sw (PF:=PF) (g:=0) (k0:=3) (k1:=4) (k2:=5) (x0:=x0) (x1:=x1) (x2:=some (.ref n)) (x3:=some (zj t)) (x4:=x4) (x5:=x5) (x6:=x6) (x7:=x7) (x8:=x8) (x9:=x9) (x10:=some (zj (qS (4+r)))) (x11:=some w) (x12:=y12) H3 b3 (.inl rfl) (λ c=>allB hgT hw rfl rfl) zw
 refine ⟨some (zj (qS (4+r))),some w,z12,A4,?_,H4⟩
 unfold BB
 refine (zD ea).trans ?_
 exact e3.trans (e4.trans rfl)
theorem IT (H:zZ ns Pt n A)(ht:qh t)(h6:t.length<=6):∃t' y4 A',qh t'/\t'.length<=6/\zZ ns Pt n A'/\
  jc (zl yd (zx qy (zh (zc 2) (zh (zi (.int 3)) (zo)))) (zi (.int 0))) (zp (zK 4 (zX (zh (zx Zh (zh (zi (.int 4)) (zo))) (zh (zx kE (zh (zi (.int 6)) (zo))) (zh (zx Zg (zh (zi (.int 2)) (zh (zi (.int 3)) (zo)))) (zh (zx kE (zh (zi (.int 5)) (zo))) (zo))))))) (zp (zK 3 (zx kW (zh (zc 2) (zh (zl zI (zc 4) (zx qy (zh (zc 2) (zh (zi (.int 4)) (zo))))) (zo))))) (zw))) (zw)
   [x0,x1,some (.ref n),some (zj t),x4,x5,x6,x7,x8,x9,x10,x11,x12] A=.ok (.nx [x0,x1,some (.ref n),some (zj t'),y4,x5,x6,x7,x8,x9,x10,x11,x12]) A':=by
 obtain ⟨r,A1,e,_,H1,_⟩:=Jb H (m:=3) (by decide) (by decide)
 have ec:zl yd (zx qy (zh (zc 2) (zh (zi (.int 3)) (zo)))) (zi (.int 0)) [x0,x1,some (.ref n),some (zj t),x4,x5,x6,x7,x8,x9,x10,x11,x12] A=.ok (.bl (decide ((r:Int)=0))) A1:=(zO ((zR (ws:=[.ref n,.int 3]) (A1:=A) rfl).trans e) (jR (w:=.int 0))).trans (Yv (r:Int) 0 A1)
 by_cases hr:(r:Int)=0
 ·rw [decide_eq_true hr] at ec
  have ea:(zh (zx Zh (zh (zi (.int 4)) (zo))) (zh (zx kE (zh (zi (.int 6)) (zo))) (zh (zx Zg (zh (zi (.int 2)) (zh (zi (.int 3)) (zo)))) (zh (zx kE (zh (zi (.int 5)) (zo))) (zo))))) [x0,x1,some (.ref n),some (zj t),x4,x5,x6,x7,x8,x9,x10,x11,x12] A1=.ok [zj (qS 0),zj (qS 1),zj (qS 2),zj (qS 3)] A1:=
   qm ((zR (ws:=[.int 4]) (A1:=A1) rfl).trans (EW A1)) (qm ((zR (ws:=[.int 6]) (A1:=A1) rfl).trans (CM A1)) (qm ((zR (ws:=[.int 2,.int 3]) (A1:=A1) rfl).trans (IF A1)) (qm ((zR (ws:=[.int 5]) (A1:=A1) rfl).trans (C5 A1)) jh)))
  have H2:=H1.app (.lst [zj (qS 0),zj (qS 1),zj (qS 2),zj (qS 3)])
  have hL2:(A1++[O.lst [zj (qS 0),zj (qS 1),zj (qS 2),zj (qS 3)]])[A1.length]? =some (.lst [zj (qS 0),zj (qS 1),zj (qS 2),zj (qS 3)]):=jq
  have hlt:=H1.lt
  have eL:=yF ea
  generalize A1++[O.lst [zj (qS 0),zj (qS 1),zj (qS 2),zj (qS 3)]]=A2 at *
  generalize A1.length=c at *
  obtain ⟨q,A3,e3,hq,H3,k3,_⟩:=Jb H2 (m:=4) (by decide) (by decide)
  have hL3:=k3.get hL2 (by omega)
  have hq4:q<6:=by omega
  have eI:zI (.ref c) (.int (q:Int)) A3=.ok (zj (qS q)) A3:=ZU hL3 (by
   rcases (show q=0∨q=1∨q=2∨q=3 by omega) with rfl | rfl | rfl | rfl<;>rfl)
  have hl:(qS q).length<=6:=by
   rcases (show q=0∨q=1∨q=2∨q=3 by omega) with rfl | rfl | rfl | rfl<;>decide
  obtain ⟨u,o,e4,s4,tu,lu⟩:=T6 (SK hq4) H3.st
  refine ⟨u,some (.ref c),A3.set n o,tu,by omega,H3.setn s4,(wz ec).trans ?_⟩
  refine (zD (ρ1:=[x0,x1,some (.ref n),some (zj t),some (.ref c),x5,x6,x7,x8,x9,x10,x11,x12]) (A1:=A2) ((qM eL).trans rfl)).trans ?_
  refine (zD (qM ((zR (ws:=[.ref n,zj (qS q)]) (A1:=A3) (qm (zu (i:=2) rfl) (qm ((zO (zu (i:=4) rfl) ((zR (ws:=[.ref n,.int 4]) (A1:=A2) rfl).trans e3)).trans eI) jh))).trans e4))).trans rfl
 ·rw [decide_eq_false hr] at ec
  exact ⟨t,x4,A1,ht,h6,H1,(yz ec).trans rfl⟩
inductive D4 (ns:List Int)(Pt:Addr)(r:R Fl):Prop
 | mk (y1 y2 y3 y4 y5 y6 y7 y8 y9 y10 y11 y12:Option W) (A':Hx) (e:r=.ok (.nx [some (.ref 0),y1,y2,y3,y4,y5,y6,y7,y8,y9,y10,y11,y12]) A') (h0:A'[0]? =some (.ro (ns.map W.int))) (h1:A'[1]? =some (.tab qZ Pt))
theorem FE (h0:A[0]? =some (.ro (ns.map W.int)))(h1:A[1]? =some (.tab qZ Pt)):D4 ns Pt (BL Pt PF [some (.ref 0),some (.int k),x2,x3,x4,x5,x6,x7,x8,x9,x10,x11,x12] A):=by
 obtain ⟨o,eS,hS⟩:=Fz h0 k
 have two:2<=A.length:=(List.getElem?_eq_some_iff.mp h1).1
 have H0:zZ ns Pt A.length (A++[o]):=⟨jD h0,jD h1,two,hS⟩
 have e0:(zK 2 (zx ZL (zh (zc 0) (zh (zc 1) (zo))))) [some (.ref 0),some (.int k),x2,x3,x4,x5,x6,x7,x8,x9,x10,x11,x12] A=.ok (.nx [some (.ref 0),some (.int k),some (.ref A.length),x3,x4,x5,x6,x7,x8,x9,x10,x11,x12]) (A++[o]):=(qM ((zR (ws:=[.ref 0,.int k]) (A1:=A) rfl).trans eS)).trans rfl
 generalize A.length=n at *
 generalize A++[o]=A0 at *
 obtain ⟨s,o1,e1,s1,ts,ls⟩:=RP H0.st (u:=6) (by decide) (by decide)
 have H1:=H0.setn s1
 generalize A0.set n o1=A1 at *
 obtain ⟨t',y4,A2,tt,l6,H2,e2⟩:=IT (x0:=some (.ref 0)) (x1:=some (.int k)) (x4:=x4) (x5:=x5) (x6:=x6) (x7:=x7) (x8:=x8) (x9:=x9) (x10:=x10) (x11:=x11) (x12:=x12) H1 ts ls
 obtain ⟨y5,y6,y7,y8,y9,A3,e3,H3⟩:=C3 (x0:=some (.ref 0)) (x1:=some (.int k)) (x4:=y4) (x5:=x5) (x6:=x6) (x7:=x7) (x8:=x8) (x9:=x9) (x10:=x10) (x11:=x11) (x12:=x12) H2 tt l6 (BB Pt PF)
 obtain ⟨y10,y11,y12,A4,e4,H4⟩:=Cw (PF:=PF) (x0:=some (.ref 0)) (x1:=some (.int k)) (x4:=y4) (x5:=y5) (x6:=y6) (x7:=y7) (x8:=y8) (x9:=y9) (x10:=x10) (x11:=x11) (x12:=x12) H3 tt l6
 refine ⟨some (.int k),some (.ref n),some (zj t'),y4,y5,y6,y7,y8,y9,y10,y11,y12,A4,?_,H4.h0,H4.h1⟩
 unfold BL
 refine (zD e0).trans ?_
 refine (zD (ρ1:=[some (.ref 0),some (.int k),some (.ref n),some (zj s),x4,x5,x6,x7,x8,x9,x10,x11,x12]) (A1:=A1) ((qM ((zR (ws:=[.ref n,.int 6]) (A1:=A0) rfl).trans e1)).trans rfl)).trans ?_
 refine (zD e2).trans ?_
 exact e3.trans e4
theorem My (N:Nat):∀(f i:Nat) (A:Hx) (x1 x2 x3 x4 x5 x6 x7 x8 x9 x10 x11 x12:Option W),i+f=N->A[0]? =some (.ro (ns.map W.int))->A[1]? =some (.tab qZ Pt)->∃ρ A',
  jN (jY 0 N) (turn (zA 1) (BL Pt PF)) f i [some (.ref 0),x1,x2,x3,x4,x5,x6,x7,x8,x9,x10,x11,x12] A=.ok (.nx ρ) A':=by
 intro f
 induction f with
 | zero=>
  intro i A x1 x2 x3 x4 x5 x6 x7 x8 x9 x10 x11 x12 hi h0 h1
  exact ⟨_,A,QP (gD (by omega))⟩
 | succ f ih=>
  intro i A x1 x2 x3 x4 x5 x6 x7 x8 x9 x10 x11 x12 hi h0 h1
  have b:=FE (PF:=PF) (k:=i) (x2:=x2) (x3:=x3) (x4:=x4) (x5:=x5) (x6:=x6) (x7:=x7) (x8:=x8) (x9:=x9) (x10:=x10) (x11:=x11) (x12:=x12) h0 h1
  obtain ⟨y1,y2,y3,y4,y5,y6,y7,y8,y9,y10,y11,y12,A',e,k0,k1⟩:=b
  obtain ⟨ρ,A2,e2⟩:=ih (i+1) A' y1 y2 y3 y4 y5 y6 y7 y8 y9 y10 y11 y12 (by omega) k0 k1
  refine ⟨ρ,A2,(QV (gH (by omega)) ((kZ rfl).trans ?_)).trans e2⟩
  rw [show (0:Int)+(i:Int)=i from Int.zero_add _]
  exact e
end
noncomputable def VW (Pt:Addr)(PF:jJ):Fn:=zY 13 (V3 gv Zc Zg yL ZJ Zf Zh kE kF wj ZL qy kW ZK ZM jx j4 RF Pt PF)
theorem EO (Pt:Addr)(PF:jJ):V3 gv Zc Zg yL ZJ Zf Zh kE kF wj ZL qy kW ZK ZM jx j4 RF Pt PF=zp (jE (jl (zl Z0 (zi (.int 1)) (zl wB (mQ qa (zM (zc 0))) (zi (.int 3))))) (zA 1) (BL Pt PF)) (zp (qj (zi (.bl true))) (zw)):=rfl
theorem IW:RZ qZ VW:=λ ns hl Pt PF=>by
 have hs:zE (.ref 0) [.ro (ns.map W.int),.tab qZ Pt]=some (ns.map W.int):=rfl
 have el:mQ qa (zM (zc 0)) [some (.ref 0),none,none,none,none,none,none,none,none,none,none,none,none] [.ro (ns.map W.int),.tab qZ Pt]=.ok (.int ns.length) [.ro (ns.map W.int),.tab qZ Pt]:=by
  rw [yn (yM (w:=.ref 0) (A1:=[.ro (ns.map W.int),.tab qZ Pt]) (zu rfl) hs)]
  unfold qa
  rw [List.length_map]
 have em:zl Z0 (zi (.int 1)) (zl wB (mQ qa (zM (zc 0))) (zi (.int 3))) [some (.ref 0),none,none,none,none,none,none,none,none,none,none,none,none] [.ro (ns.map W.int),.tab qZ Pt]=
   .ok (.int (if (if (3:Int)<ns.length then 3 else (ns.length:Int)) > 1 then (if (3:Int)<ns.length then 3 else (ns.length:Int)) else 1)) [.ro (ns.map W.int),.tab qZ Pt]:=
  (zO (jR (w:=.int 1)) ((zO el (jR (w:=.int 3))).trans rfl)).trans rfl
 generalize hv:(if (if (3:Int)<ns.length then 3 else (ns.length:Int)) > 1 then (if (3:Int)<ns.length then 3 else (ns.length:Int)) else 1)=v at em
 have hsm:jM v=true:=by
  have:0<=v/\v<1000:=by
   rw [<- hv]
   split<;>split<;>omega
  obtain ⟨k,rfl⟩:=Int.eq_ofNat_of_zero_le this.1
  exact UU (by omega)
 obtain ⟨ρ,A,e⟩:=My (ns:=ns) (Pt:=Pt) (PF:=PF) v.toNat v.toNat 0 [.ro (ns.map W.int),.tab qZ Pt] none none none none none none none none none none none none (by omega) rfl rfl
 refine ⟨A,jd ?_⟩
 rw [EO]
 exact (zD ((wq (ZN em hsm)).trans e)).trans (qD rfl)
section
variable {P:Program}{w:World}{K:Frag}{mg:Str->Option Value}{base h:Heap}
theorem ON (X:K.In h)(G:h.Ns mainGlobals mg)(T:Tx K){PG:jJ}{lam:Nat->Fn}(hL:∀k,Z3 P w K mg base 7 (PG k) (lam k)):zC P w K mg base 8 "_law_refused" 1 ((zY 4 (JF PG lam))):=by
 obtain ⟨f,fd,F,a⟩:=T.Gh
 exact (O0 (k:=7) (bu X G T) (cl T) T.VU F (PySem.W.mg_of X G a) (Nat.le_refl _) hL)
theorem Di (X:K.In h)(Gl:h.Ns mainGlobals mg)(T:Tx K){f c Pt:Addr}{fd:FuncData}(F:qF K "law" "law" gO f fd)(hn:PySem.W.nsIn K mainGlobals "law" = some (some (.ref f)))(ht:PySem.W.tabIn K "law" = some (c,Pt))(hB:BMain mg base)(hC:PySem.W.CodeHd base c Pt):yt P w K mg base wK 9 f fd ["_law_script"] (spT K 1 (VW Pt)):=
 o_law (k:=8) (j:=6) (kk:=8) (bu X Gl T) F hn ht hB hC ((NM X Gl T).mono (by decide)) ((OJ X Gl T).mono (by decide)) ((Na X Gl T).mono (by decide)) ((Uz X Gl T).mono (by decide)) ((Nf X Gl T).mono (by decide)) ((Nm X Gl T).mono (by decide)) ((Nu X Gl T).mono (by decide)) ((Mc X Gl T).mono (by decide)) ((N9 X Gl T).mono (by decide)) ((Uu X Gl T).mono (by decide)) ((Nz X Gl T).mono (by decide)) ((JL X Gl T).mono (by decide)) ((Us X Gl T).mono (by decide)) ((Ng X Gl T).mono (by decide)) ((LF X Gl T).mono (by decide)) (by decide)
  (Cj (k:=6) (bu X Gl T) (λ base=>(UC X Gl T).mono (by decide)) (λ base=>(U7 X Gl T).mono (by decide))) (λ base PG hL=>(ON X Gl T hL).imp λ us A _=>EK us A)
theorem all_mk {l:PySem.W.OpenLaw}{fa Pt:Addr}(X:K.In h)(Gl:h.Ns mainGlobals mg)(hfa:mg "law" = some (.ref fa))(T:Tx K)(ht:∃c,PySem.W.tabIn K "law" = some (c,Pt)/\PySem.W.codeHdIn K c Pt=true):
  ∃fd:FuncData,(∀(s:Shared) (v:Value),BindsTo s fd ⟨[v],[]⟩ [("_law_script",v)])/\∀base:Heap,K.In base->base.Ns mainGlobals mg->BMain mg base->yt l.prog w K mg base wK 9 fa fd ["_law_script"] (spT K 1 (VW Pt)):=by
 obtain ⟨c,ht,hcd⟩:=ht
 obtain ⟨f,fd,F,a⟩:=T.VM
 have e:=hfa.symm.trans (PySem.W.mg_of X Gl a)
 cases e
 obtain ⟨oc,od,kV,doc,pm,an,cdv,ct,osl,rfl,lk,hcd'⟩:=id F.ex
 exact ⟨_,λ s v=>.of_eq rfl,λ base kb nb hB=>Di X Gl T F a ht hB (PySem.W.codeHd_of_K kb hcd)⟩
end
end G
noncomputable def PySem.W.Fast.tw9846257195410965748:Nat:=0
noncomputable def PySem.W.Fast.tw16734519406271504732:Nat:=0
noncomputable def PySem.W.Fast.tw18018092685518308267:Nat:=0
noncomputable def PySem.W.Fast.tw11251021889638192677:Nat:=0
noncomputable def PySem.W.Fast.tw11102322952847580773:Nat:=0
noncomputable def PySem.W.Fast.tw11242198104039441937:Nat:=0
noncomputable def PySem.W.Fast.tw8576737480493731731:Nat:=0
noncomputable def PySem.W.Fast.tw8384760166661890564:Nat:=0
noncomputable def PySem.W.Fast.tw606613238926222708:Nat:=0
noncomputable def PySem.W.Fast.tw4815723578052890271:Nat:=0
noncomputable def PySem.W.Fast.tw537630250819141535:Nat:=0
noncomputable def PySem.W.Fast.tw2035195128337415822:Nat:=0
noncomputable def PySem.W.Fast.tw7610971208087370064:Nat:=0
noncomputable def PySem.W.Fast.tw11776697775742295184:Nat:=0
noncomputable def PySem.W.Fast.tw2103953010044648593:Nat:=0
noncomputable def PySem.W.Fast.tw5459708010108427677:Nat:=0
noncomputable def PySem.W.Fast.tw15840436123995885332:Nat:=0
noncomputable def PySem.W.Fast.tw12325115797217251926:Nat:=0
noncomputable def PySem.W.Fast.tw6554683929170203499:Nat:=0
noncomputable def PySem.W.Fast.tw7954924203590351459:Nat:=0
noncomputable def PySem.W.Fast.tw10161026484769313368:Nat:=0
noncomputable def PySem.W.Fast.tw6963937028691294068:Nat:=0
noncomputable def PySem.W.Fast.tw4964315171839129274:Nat:=0
noncomputable def PySem.W.Fast.tw16627131955577508029:Nat:=0
noncomputable def PySem.W.Fast.tw16016800801069230854:Nat:=0
noncomputable def PySem.W.Fast.tw7668109153272997115:Nat:=0
noncomputable def PySem.W.Fast.tw11368845874535276608:Nat:=0
noncomputable def PySem.W.Fast.tw9861892742350471113:Nat:=0
noncomputable def PySem.W.Fast.tw4527983165600850359:Nat:=0
noncomputable def PySem.W.Fast.tw8985143969429769055:Nat:=0
noncomputable def PySem.W.Fast.tw17545411688821640086:Nat:=0
noncomputable def PySem.W.Fast.tw17108461449268645956:Nat:=0
noncomputable def PySem.W.Fast.tw1556608914015140543:Nat:=0
noncomputable def PySem.W.Fast.tw9930560354457042089:Nat:=0
noncomputable def PySem.W.Fast.tw9987550166218493742:Nat:=0
noncomputable def PySem.W.Fast.tw2940997073004803461:Nat:=0
noncomputable def PySem.W.Fast.tw12492767053295173099:Nat:=0
noncomputable def PySem.W.Fast.tw8424932539477738907:Nat:=0
noncomputable def PySem.W.Fast.tw3438637172707284217:Nat:=0
noncomputable def PySem.W.Fast.tw16930290995977250210:Nat:=0
noncomputable def PySem.W.Fast.tw16218070571627669321:Nat:=0
noncomputable def PySem.W.Fast.tw4000954342673071661:Nat:=0
noncomputable def PySem.W.Fast.tw10828366318738459775:Nat:=0
noncomputable def PySem.W.Fast.tw6586091561980371735:Nat:=0
noncomputable def PySem.W.Fast.tw9925432280089408065:Nat:=0
noncomputable def PySem.W.Fast.tw2564112419542693226:Nat:=0
noncomputable def PySem.W.Fast.tw16360543984798440453:Nat:=0
open PySem PySem.W PyProof.Rows
set_option maxRecDepth 100000 in
set_option maxHeartbeats 0 in
theorem PySem.Challenge.cw_nearkinds_k82_tables_alike_holds : PySem.Challenge.rw_nearkinds_k82_tables_alike.Holds := by
 w_on;o_law;k_head;(case hw=>w_witness2)
 k_fill
 refine' Mi.Bd (l:=PySem.Challenge.rw_nearkinds_k82_tables_alike) (k:=9) (x := "_law_script") G.IW rfl rfl ⟨rfl,by decide,by decide⟩ (λ w h Y=>PySem.W.km_in_of Y) (λ w h Y=>PySem.W.km_tabs_of Y _ (List.mem_cons_self ..)) ?ht ?hKP ?F
 case ht=>exact λ p=>by kernel_rfl
 case hKP=>exact λ p=>by kernel_rfl
 case F=>
  intro w mg fa h KX Gl hmg ht
  have T:G.Tx (L2.Ow KX):=by
   dsimp only [L2.Ow]
   refine' ⟨?Xh,?Xu,?WO,?GH,?Gz,?G7,?GZ,?Xe,?GS,?W7,?Gi,?G1,?G8,?GG,?GD,?G3,?G6,?Gw,?GJ,?WZ,?GK,?W4,?W2,?WU,?JJ,?Xl,?Gk,?Gb,?Xr,?Gm,?Gh,?VM,?GW,?V2,?Vy,?Xa,?VF,?GR,?VG,?Vo,?VO,?V1,?XZ,?VL,?Vk,?VR,?GF,?Gu,?VD,?VY,?VU⟩
   (case Xh=>(refine' Mi.jm ?a ?l ?c ?k;(case a=>k_is);(case l=>k_is);(case c=>k_is);(case k=>k_is)))
   (case Xu=>(refine' Mi.jm ?a ?l ?c ?k;(case a=>k_is);(case l=>k_is);(case c=>k_is);(case k=>k_is)))
   (case WO=>(refine' Mi.jm ?a ?l ?c ?k;(case a=>k_is);(case l=>k_is);(case c=>k_is);(case k=>k_is)))
   (case GH=>(refine' Mi.jm ?a ?l ?c ?k;(case a=>k_is);(case l=>k_is);(case c=>k_is);(case k=>k_is)))
   (case Gz=>(refine' Mi.jm ?a ?l ?c ?k;(case a=>k_is);(case l=>k_is);(case c=>k_is);(case k=>k_is)))
   (case G7=>(refine' Mi.jm ?a ?l ?c ?k;(case a=>k_is);(case l=>k_is);(case c=>k_is);(case k=>k_is)))
   (case GZ=>(refine' Mi.jm ?a ?l ?c ?k;(case a=>k_is);(case l=>k_is);(case c=>k_is);(case k=>k_is)))
   (case Xe=>(refine' Mi.jm ?a ?l ?c ?k;(case a=>k_is);(case l=>k_is);(case c=>k_is);(case k=>k_is)))
   (case GS=>(refine' Mi.jm ?a ?l ?c ?k;(case a=>k_is);(case l=>k_is);(case c=>k_is);(case k=>k_is)))
   (case W7=>(refine' Mi.jm ?a ?l ?c ?k;(case a=>k_is);(case l=>k_is);(case c=>k_is);(case k=>k_is)))
   (case Gi=>(refine' Mi.jm ?a ?l ?c ?k;(case a=>k_is);(case l=>k_is);(case c=>k_is);(case k=>k_is)))
   (case G1=>(refine' Mi.jm ?a ?l ?c ?k;(case a=>k_is);(case l=>k_is);(case c=>k_is);(case k=>k_is)))
   (case G8=>(refine' Mi.jm ?a ?l ?c ?k;(case a=>k_is);(case l=>k_is);(case c=>k_is);(case k=>k_is)))
   (case GG=>(refine' Mi.jm ?a ?l ?c ?k;(case a=>k_is);(case l=>k_is);(case c=>k_is);(case k=>k_is)))
   (case GD=>(refine' Mi.jm ?a ?l ?c ?k;(case a=>k_is);(case l=>k_is);(case c=>k_is);(case k=>k_is)))
   (case G3=>(refine' Mi.jm ?a ?l ?c ?k;(case a=>k_is);(case l=>k_is);(case c=>k_is);(case k=>k_is)))
   (case G6=>(refine' Mi.jm ?a ?l ?c ?k;(case a=>k_is);(case l=>k_is);(case c=>k_is);(case k=>k_is)))
   (case Gw=>(refine' Mi.jm ?a ?l ?c ?k;(case a=>k_is);(case l=>k_is);(case c=>k_is);(case k=>k_is)))
   (case GJ=>(refine' Mi.jm ?a ?l ?c ?k;(case a=>k_is);(case l=>k_is);(case c=>k_is);(case k=>k_is)))
   (case WZ=>(refine' Mi.jm ?a ?l ?c ?k;(case a=>k_is);(case l=>k_is);(case c=>k_is);(case k=>k_is)))
   (case GK=>(refine' Mi.jm ?a ?l ?c ?k;(case a=>k_is);(case l=>k_is);(case c=>k_is);(case k=>k_is)))
   (case W4=>(refine' Mi.jm ?a ?l ?c ?k;(case a=>k_is);(case l=>k_is);(case c=>k_is);(case k=>k_is)))
   (case W2=>(refine' Mi.jm ?a ?l ?c ?k;(case a=>k_is);(case l=>k_is);(case c=>k_is);(case k=>k_is)))
   (case WU=>(refine' Mi.jm ?a ?l ?c ?k;(case a=>k_is);(case l=>k_is);(case c=>k_is);(case k=>k_is)))
   (case JJ=>(refine' Mi.jm ?a ?l ?c ?k;(case a=>k_is);(case l=>k_is);(case c=>k_is);(case k=>k_is)))
   (case Xl=>(refine' Mi.jm ?a ?l ?c ?k;(case a=>k_is);(case l=>k_is);(case c=>k_is);(case k=>k_is)))
   (case Gk=>(refine' Mi.jm ?a ?l ?c ?k;(case a=>k_is);(case l=>k_is);(case c=>k_is);(case k=>k_is)))
   (case Gb=>(refine' Mi.jm ?a ?l ?c ?k;(case a=>k_is);(case l=>k_is);(case c=>k_is);(case k=>k_is)))
   (case Xr=>(refine' Mi.jm ?a ?l ?c ?k;(case a=>k_is);(case l=>k_is);(case c=>k_is);(case k=>k_is)))
   (case Gm=>(refine' Mi.jm ?a ?l ?c ?k;(case a=>k_is);(case l=>k_is);(case c=>k_is);(case k=>k_is)))
   (case Gh=>(refine' Mi.jm ?a ?l ?c ?k;(case a=>k_is);(case l=>k_is);(case c=>k_is);(case k=>k_is)))
   (case VM=>(refine' Mi.jm ?a ?l ?c ?k;(case a=>k_is);(case l=>k_is);(case c=>k_is);(case k=>k_is)))
   (case GW=>k_is)
   (case V2=>k_is)
   (case Vy=>k_is)
   (case Xa=>k_is)
   (case VF=>k_is)
   (case GR=>k_is)
   (case VG=>k_is)
   (case Vo=>k_is)
   (case VO=>k_is)
   (case V1=>k_is)
   (case XZ=>k_is)
   (case VL=>k_is)
   (case Vk=>k_is)
   (case VR=>k_is)
   (case GF=>(refine' Mi.PJ ?a;(case a=>k_is)))
   (case Gu=>(refine' Mi.PJ ?a;(case a=>k_is)))
   (case VD=>kernel_rfl)
   (case VY=>kernel_rfl)
   (case VU=>kernel_rfl)
  exact G.all_mk KX Gl hmg T ht
