import PyProof.Rows.All
import Wide.All
import OpenK.AllK
import Wide.FinOn
import Lean
import PyProof.EqAt
import PyProof.EqKinds
import PyProof.TupleCall
import OpenK.KOwn
import PyProof.Rows.FStr
import PyProof.FString
import PyProof.NsDelKeeps
import KE.KIsAll
import PyProof.ExcArgs
import KE.KLam
import KE.KNestM
import PyProof.Rows.SetFrom
import PyProof.ListMulRoad
import PyProof.FactsAll.set_1
import PyProof.FactsAll.set_2
import PyProof.CollectIter
import PyProof.TupleIter
import PyProof.CollectWalk
import PyProof.Rows.SortShell
import PyProof.SumAny
import PyProof.ListOps
import KE.KDictList
import PyProof.NoPylong
import PySem.Challenge.RW_nearkinds_k02_places_near_and_shares
open PySem.W (Frag)
open List (all_eq_true all_map any_cons append_assoc append_nil drop_length ext_getElem ext_getElem? filterMap_cons flatten_cons forIn_cons forIn_nil getD_eq_getElem?_getD getElem?_append_left getElem?_append_right getElem?_eq_getElem getElem?_eq_none getElem?_map getElem?_range getElem?_replicate getElem?_set_ne getElem?_set_self getElem_mem getElem_of_mem length_append length_cons length_filter_le length_map length_nil length_range length_replicate length_set length_singleton length_take lookup_cons map_append map_congr_left map_cons map_id map_map map_nil mem_append_right mem_cons mem_cons_of_mem mem_cons_self mem_filter mem_of_getElem? nil_append not_mem_nil of_mem_zip range'_succ range_eq_range' range_succ replicate_succ size_toArray)
open Nat (le_add_right le_of_eq le_of_lt le_refl le_succ le_trans lt_irrefl lt_of_lt_of_le lt_succ_of_lt lt_succ_self lt_trans ne_of_gt ne_of_lt not_lt_zero zero_le)
open Int (emod_lt_of_pos emod_nonneg eq_ofNat_of_zero_le toNat_natCast toNat_of_nonneg zero_add)
open Bool (and_eq_true false_eq_true or_eq_true)
open Option (any_eq_true)
open Array (getElem?_toList length_toList)
set_option Elab.async false
set_option linter.all false
set_option maxRecDepth 1000000
set_option maxHeartbeats 4000000
namespace L2
open PySem PySem.Spec PyProof.Rows
noncomputable abbrev Key:=Sum Int Str
noncomputable def Ph:Key->Value->Bool
 | .inl k,v=>Value.isInt k v
 | .inr x,v=>Value.isStrOf x v
noncomputable def Bv (w:World):Key->Int
 | .inl k=>hashInt k
 | .inr x=>hashStr w x
theorem Zh:∀{k:Key} {v:Value},Ph k v=true->(∃i t,k=Sum.inl i/\v=Value.int i t)∨(∃x t,k=Sum.inr x/\v=Value.str x t)
 | .inl i,v,h=>by
  obtain ⟨t,e⟩:=Value.isInt_shape (k:=i) (v:=v) h;exact .inl ⟨i,t,rfl,e⟩
 | .inr x,v,h=>by
  obtain ⟨t,e⟩:=Value.isStrOf_shape (x:=x) (v:=v) h;exact .inr ⟨x,t,rfl,e⟩
theorem EV (a b:Int):decide ((Sum.inl a:Key)=Sum.inl b)=(a==b):=by
 by_cases e:a=b
 ·subst e;simp
 ·have h:¬(Sum.inl a:Key)=Sum.inl b:=λ q=>e (Sum.inl.inj q)
  rw [decide_eq_false h];exact (beq_eq_false_iff_ne.mpr e).symm
theorem EW (a b:Str):decide ((Sum.inr a:Key)=Sum.inr b)=decide (a=b):=by
 by_cases e:a=b
 ·subst e;simp
 ·have h:¬(Sum.inr a:Key)=Sum.inr b:=λ q=>e (Sum.inr.inj q)
  rw [decide_eq_false h,decide_eq_false e]
theorem Ej (a:Int)(b:Str):decide ((Sum.inl a:Key)=Sum.inr b)=false:=decide_eq_false (λ q=>nomatch q)
theorem Eu (a:Str)(b:Int):decide ((Sum.inr a:Key)=Sum.inl b)=false:=decide_eq_false (λ q=>nomatch q)
noncomputable def SX (prog:Program)(w:World):PySem.KeyKind prog w Key where
 is:=Ph
 hash:=Bv w
 inj:=λ v a b ha hb=>by
  rcases Zh ha with ⟨i,t,rfl,rfl⟩ | ⟨x,t,rfl,rfl⟩
  ·rcases Zh hb with ⟨j,u,rfl,e⟩ | ⟨y,u,rfl,e⟩
   ·injection e with e1 _;rw [e1]
   ·exact nomatch e
  ·rcases Zh hb with ⟨j,u,rfl,e⟩ | ⟨y,u,rfl,e⟩
   ·exact nomatch e
   ·injection e with e1 _;rw [e1]
 byValue:=λ k v h=>by
  rcases Zh h with ⟨i,t,rfl,rfl⟩ | ⟨x,t,rfl,rfl⟩<;>rfl
 pyHash:=λ hv h=>by
  rcases Zh hv with ⟨i,t,rfl,rfl⟩ | ⟨x,t,rfl,rfl⟩
  ·exact wpAny_pyHash_int h
  ·exact wpAny_pyHash_str h
 eqBool:=λ hu hv h=>by
  rcases Zh hu with ⟨i,t,rfl,rfl⟩ | ⟨x,t,rfl,rfl⟩
  ·rcases Zh hv with ⟨j,u,rfl,rfl⟩ | ⟨y,u,rfl,rfl⟩
   ·rw [EV] at h;exact wpAny_eqBool_int h
   ·rw [Ej] at h;exact SeqAt.EqAt.int_str i t y u _ _ _ _ h
  ·rcases Zh hv with ⟨j,u,rfl,rfl⟩ | ⟨y,u,rfl,rfl⟩
   ·rw [Eu] at h;exact SeqAt.EqAt.str_int x t j u _ _ _ _ h
   ·rw [EW] at h;exact wpAny_eqBool_str h
 «strs»:=λ k x t v h=>by
  rcases Zh h with ⟨i,u,rfl,e⟩ | ⟨y,u,rfl,e⟩
  ·exact nomatch e
  ·injection e with e1 _
   subst e1;cases v<;>rfl
inductive V where
 | non | bl (b:Bool) | int (i:Int) | str (x:Str) | byt (b:Array UInt8) | flt (b:UInt64) | ref (a:Addr) | ty (n:String)
 deriving DecidableEq
noncomputable def RelV:V->Value->Prop
 | .non,u=>u=Value.none
 | .bl b,u=>u=Value.bool b
 | .int i,u=>∃t,u=Value.int i t
 | .str x,u=>∃t,u=Value.str x t
 | .byt b,u=>∃t,u=Value.bytes b t
 | .flt b,u=>∃t,u=Value.float b t
 | .ref a,u=>u=Value.ref a
 | .ty n,u=>u=Value.type n
noncomputable abbrev Vals:List V->List Value->Prop:=Paired RelV
theorem Vals.length {xs:List V}{us:List Value}(r:Vals xs us):xs.length=us.length:=Paired.length r
theorem Vals.get:∀{xs:List V} {us:List Value} {i:Nat} {x:V},Vals xs us->xs[i]? =some x->∃u,us[i]? =some u/\RelV x u
 | _,_,_,_,.nil,e=>by simp at e
 | _,_,0,_,.cons r _,e=>by simp at e;subst e;exact ⟨_,rfl,r⟩
 | _,_,i+1,x,.cons _ t,e=>by
  obtain ⟨u,h1,h2⟩:=Vals.get (i:=i) (x:=x) t (by simpa using e)
  exact ⟨u,by simpa using h1,h2⟩
theorem Vals.set {x:V}{u:Value}(r:RelV x u):∀{xs:List V} {us:List Value} (i:Nat),Vals xs us->Vals (xs.set i x) (us.set i u)
 | _,_,_,.nil=>.nil
 | _,_,0,.cons _ t=>.cons r t
 | _,_,i+1,.cons q t=>.cons q (Vals.set r i t)
theorem Vals.append:∀{xs ys:List V} {us ws:List Value},Vals xs us->Vals ys ws->Vals (xs++ys) (us++ws)
 | _,_,_,_,.nil,s=>s
 | _,_,_,_,.cons r t,s=>.cons r (Vals.append t s)
theorem Vals.none_of:∀{xs:List V} {us:List Value} {i:Nat},Vals xs us->xs[i]? =none->us[i]? =none:=λ {xs us i} r e=>by
 have h1:=r.length;have h2:xs.length<=i:=List.getElem?_eq_none_iff.mp e;exact List.getElem?_eq_none_iff.mpr (by omega)
noncomputable def Ul:Option V->Option Value->Prop
 | some v,some u=>RelV v u
 | none,none=>True
 | _,_=>False
noncomputable def KV {κ:Type}:List (κ × V)->List (κ × Value)->Prop:=Paired λ (p:κ × V) (q:κ × Value)=>p.1=q.1/\RelV p.2 q.2
noncomputable def kV:Key->V
 | .inl i=>.int i
 | .inr x=>.str x
inductive HO where
 | lst (xs:List V)
 | tup (xs:List V)
 | dK (kvs:List (Key × V)) | dT (kvs:List (List Key × V))
 | set (S:Int->Bool) (n:Nat)
 | ins (C dx:Addr) (fs:List (Str × V))
 | own (x:Addr)
 | xd (fs:List (Str × V))
 | met (f x:Addr)
 | rng (lo hi:Int)
 | frz (o:Obj) (u:HO)
 | tbl (ps:Array Value)
 | ext (φ:Heap->Prop)
noncomputable abbrev Hp:=Addr->Option HO
noncomputable def upd (H:Hp)(a:Addr)(o:HO):Hp:=λ b=>if b=a then some o else H b
theorem jy {H:Hp}{a:Addr}{o:HO}:upd H a o a=some o:=by unfold upd;rw [if_pos rfl]
theorem qj {H:Hp}{a b:Addr}{o:HO}(h:b≠a):upd H a o b=H b:=by unfold upd;rw [if_neg h]
theorem Yo {H:Hp}{a b:Addr}{o u:HO}(h:H a=some o)(h':H b=some u)(d:o≠u):a≠b:=by
 intro e;subst e;rw [h] at h';exact d (Option.some.inj h')
theorem kz {H:Hp}{a b:Addr}{o:HO}(h:H a=some o)(h':H b=none):a≠b:=by
 intro e;subst e;rw [h] at h';cases h'
noncomputable def Qr (h:Heap)(a:Addr)(items:Array Value):Prop:=∃o,h.get? a=some o/\(o.cls=.type "tuple" /\ o.dict=none)/\∃n,o.data=.seq items n
theorem Qr.tup {h:Heap}{a:Addr}{items:Array Value}(x:Qr h a items):IsTup h a items:=let ⟨o,e,c,d⟩:=x;⟨o,e,c.1,d⟩
theorem Qr.new (h:Heap)(items:Array Value):Qr (h.push { cls:=.type "tuple",data:=.seq items }) h.objs.size items:=⟨_,Heap.get?_push_size h rfl,⟨rfl,rfl⟩,0,rfl⟩
section
variable (P:Program)(w:World)
noncomputable def jj (H:Hp)(h:Heap)(a:Addr):HO->Prop
 | .lst xs=>xs.length<=sizeLine/\∃(its:List Value) (n:Nat),Vals xs its/\h.get? a=some { cls:=.type "list",data:=.seq its.toArray n }
 | .tup xs=>xs.length<=sizeLine/\∃its:List Value,Vals xs its/\Qr h a its.toArray
 | .dK kvs=>kvs.length<=sizeLine/\(a==sysModules)=false/\∃vs,KV kvs vs/\h.DictOf (SX P w) a vs
 | .dT kvs=>kvs.length<=sizeLine/\(a==sysModules)=false/\∃xs:List (List Key × Addr × Value),
   Paired (λ (p:List Key × V) (q:List Key × Addr × Value)=>p.1=q.1/\H q.2.1=some (.tup (p.1.map kV))/\RelV p.2 q.2.2) kvs xs/\
   ∃o es ep,h.get? a=some o/\o.ExactDict/\o.data=.dict es ep/\es.toList=xs.map (entryOfKey (tupleKind (SX P w)))/\(xs.map (·.1)).Nodup
 | .set S n=>h.SetOf (intKind P w) a S n
 | .ins C dx fs=>H dx=some (.own a)/\fs.length<=1000/\dx≠a/\h.get? a=some (PySem.W.instObj C dx)/\
   ∃mA,h.Ns1 dx mA/\(∀f,Ul (fs.lookup f) (mA f))/\PySem.Within mA (fs.map (·.1))
 | .own _=>∃o,h.get? a=some o
 | .xd fs=>∃mA,h.Ns1 a mA/\∀f,Ul (fs.lookup f) (mA f)
 | .rng lo hi=>∃t u v,h.get? a=some { cls:=.type "range",data:=.fields #[.int lo t,.int hi u,.int 1 v] }
 | .frz o u=>h.get? a=some o/\jj H h a u
 | .tbl ps=>h.get? a=some { cls:=.none,data:=.fields ps }
 | .met f x=>h.get? a=some (PySem.W.methodObj (.ref f) (.ref x))
 | .ext φ=>φ h/\(∃o,h.get? a=some o)/\∀h1 h2:Heap,φ h1->(∀o,h1.get? a=some o->h2.get? a=some o)->φ h2
noncomputable def jS (H:Hp)(h:Heap):Prop:=∀a o,H a=some o->jj P w H h a o
end
section
variable {P:Program}{w:World}{H H':Hp}{h h':Heap}{a:Addr}{o:HO}
theorem jj.lt (x:jj P w H h a o):a<h.objs.size:=by
 cases o with
 | lst xs=>obtain ⟨_,_,_,_,e⟩:=x;exact Heap.lt_size e
 | tup xs=>obtain ⟨_,_,_,p⟩:=x;exact p.tup.lt
 | dK kvs=>obtain ⟨_,_,_,_,o,_,_,e,_⟩:=x;exact Heap.lt_size e
 | dT kvs=>obtain ⟨_,_,_,_,o,_,_,e,_⟩:=x;exact Heap.lt_size e
 | set S n=>obtain ⟨o,_,_,_,e,_⟩:=x;exact Heap.lt_size e
 | ins C dx fs=>obtain ⟨_,_,_,e,_⟩:=x;exact Heap.lt_size e
 | own y=>obtain ⟨_,e⟩:=x;exact Heap.lt_size e
 | xd fs=>obtain ⟨_,⟨_,_,_,e,_⟩,_⟩:=x;exact Heap.lt_size e
 | rng lo hi=>obtain ⟨_,_,_,e⟩:=x;exact Heap.lt_size e
 | frz ob u=>obtain ⟨e,_⟩:=x;exact Heap.lt_size e
 | tbl ps=>exact Heap.lt_size (show h.get? a=some _ from x)
 | met f y=>exact Heap.lt_size (show h.get? a=some _ from x)
 | ext φ=>obtain ⟨_,⟨_,e⟩,_⟩:=x;exact Heap.lt_size e
theorem Paired.mapP {α β:Type}{F G:α->β->Prop}:∀{l₁:List α} {l₂:List β},Paired F l₁ l₂->(∀a b,F a b->G a b)->Paired G l₁ l₂
 | _,_,.nil,_=>.nil
 | _,_,.cons r t,f=>.cons (f _ _ r) (Paired.mapP t f)
theorem jj.stay (x:jj P w H h a o)(k:∀b u,(b=a∨H b=some (.own a))->h.get? b=some u->h'.get? b=some u)
  (ho:∀b,H b=some (.own a)->H' b=some (.own a))(ht:∀b xs,H b=some (.tup xs)->H' b=some (.tup xs)):jj P w H' h' a o:=by
 induction o with
 | lst xs=>obtain ⟨z,its,n,r,e⟩:=x;exact ⟨z,its,n,r,k _ _ (.inl rfl) e⟩
 | tup xs=>obtain ⟨z,its,r,ob,e,c⟩:=x;exact ⟨z,its,r,ob,k _ _ (.inl rfl) e,c⟩
 | dK kvs=>obtain ⟨z,y,vs,r,ob,es,ep,e,c⟩:=x;exact ⟨z,y,vs,r,ob,es,ep,k _ _ (.inl rfl) e,c⟩
 | dT kvs=>
  obtain ⟨z,y,xs,r,ob,es,ep,e,c⟩:=x;exact ⟨z,y,xs,Paired.mapP r λ p q z=>⟨z.1,ht _ _ z.2.1,z.2.2⟩,ob,es,ep,k _ _ (.inl rfl) e,c⟩
 | set S n=>obtain ⟨ob,es,ep,t,e,c⟩:=x;exact ⟨ob,es,ep,t,k _ _ (.inl rfl) e,c⟩
 | ins C dx fs=>
  obtain ⟨d,z,ne,e,mA,⟨od,es,ep,e2,c⟩,r⟩:=x;exact ⟨ho _ d,z,ne,k _ _ (.inl rfl) e,mA,⟨od,es,ep,k _ _ (.inr d) e2,c⟩,r⟩
 | own y=>obtain ⟨ob,e⟩:=x;exact ⟨ob,k _ _ (.inl rfl) e⟩
 | xd fs=>obtain ⟨mA,⟨od,es,ep,e,c⟩,r⟩:=x;exact ⟨mA,⟨od,es,ep,k _ _ (.inl rfl) e,c⟩,r⟩
 | rng lo hi=>obtain ⟨t,u,v,e⟩:=x;exact ⟨t,u,v,k _ _ (.inl rfl) e⟩
 | frz ob u ih=>obtain ⟨e,q⟩:=x;exact ⟨k _ _ (.inl rfl) e,ih q⟩
 | tbl ps=>
  have e:h.get? a=some { cls:=.none,data:=.fields ps }:=x;show h'.get? a=some { cls:=.none,data:=.fields ps };exact k a _ (.inl rfl) e
 | met f y=>
  have e:h.get? a=some (PySem.W.methodObj (.ref f) (.ref y)):=x;show h'.get? a=some (PySem.W.methodObj (.ref f) (.ref y));exact k a _ (.inl rfl) e
 | ext φ=>obtain ⟨p,⟨o,e⟩,st⟩:=x;exact ⟨st _ _ p λ o q=>k _ _ (.inl rfl) q,⟨o,k _ _ (.inl rfl) e⟩,st⟩
theorem jS.lt (x:jS P w H h)(e:H a=some o):a<h.objs.size:=(x a o e).lt
theorem jS.fresh (x:jS P w H h)(e:h.objs.size<=a):H a=none:=by
 cases q:H a with
 | none=>rfl
 | some u=>exact absurd (lt_of_lt_of_le (x.lt q) e) (lt_irrefl _)
theorem jS.kept (x:jS P w H h)(k:∀b u,h.get? b=some u->h'.get? b=some u):jS P w H h':=λ a o e=>
 (x a o e).stay (λ b u _ q=>k b u q) (λ _ q=>q) λ _ _ q=>q
theorem jS.laid (x:jS P w H h)(k:∀b u,h.get? b=some u->h'.get? b=some u)(hp:h.objs.size<=a)(new:jj P w (upd H a o) h' a o):jS P w (upd H a o) h':=λ b u e=>by
 have hn:=x.fresh hp
 by_cases hb:b=a
 ·subst hb;rw [jy] at e;cases e;exact new
 ·rw [qj hb] at e
  exact (x b u e).stay (λ c v _ q=>k c v q) (λ c q=>by rw [qj (kz q hn)];exact q) λ c xs q=>by rw [qj (kz q hn)];exact q
end
noncomputable def Rd (H:Hp)(a:Addr)(u:HO):Prop:=H a=some u∨∃o,H a=some (.frz o u)
theorem Rd.ok {P:Program}{w:World}{H:Hp}{h:Heap}{a:Addr}{u:HO}(r:Rd H a u)(x:jS P w H h):jj P w H h a u:=by
 rcases r with r | ⟨o,r⟩
 ·exact x a u r
 ·obtain ⟨_,q⟩:=x a _ r
  exact q
noncomputable def WK:Option HO->Prop
 | some (.lst _)=>True
 | some (.dK _)=>True
 | some (.dT _)=>True
 | some (.set _ _)=>True
 | some (.ins _ _ _)=>True
 | some (.ext _)=>True
 | _=>False
section
variable {P:Program}{w:World}{H:Hp}{h h':Heap}{x e:Addr}{o':HO}
theorem jS.write (ok:jS P w H h)(mu:WK (H x))(he:e=x∨H e=some (.own x))(k:∀b u,b≠e->h.get? b=some u->h'.get? b=some u)(heo:∃u,h'.get? e=some u)
  (new:jj P w (upd H x o') h' x o'):jS P w (upd H x o') h':=λ b u q=>by
 have nown:∀c y,H c=some (.own y)->c≠x:=λ c y r z=>by subst z;rw [r] at mu;exact mu
 have ntup:∀c xs,H c=some (.tup xs)->c≠x:=λ c xs r z=>by subst z;rw [r] at mu;exact mu
 by_cases hb:b=x
 ·subst hb;rw [jy] at q;cases q;exact new
 ·rw [qj hb] at q
  by_cases hbe:b=e
  ·have q':H b=some (.own x):=by
    rcases he with z | z
    ·exact absurd (hbe.trans z) hb
    ·rw [hbe];exact z
   rw [q] at q';cases q';obtain ⟨v,hv⟩:=heo;exact ⟨v,by rw [hbe];exact hv⟩
  ·refine (ok b u q).stay (λ c v hc r=>k c v ?_ r) (λ c r=>by rw [qj (nown c b r)];exact r) λ c xs r=>by rw [qj (ntup c xs r)];exact r
   rcases hc with rfl | hc
   ·exact hbe
   ·rintro rfl
    rcases he with z | z
    ·exact nown c b hc z
    ·rw [hc] at z;cases z;exact hb rfl
end
structure Un (fs ex:List Addr)(H H':Hp)(h h':Heap):Prop where
 keep:∀b o,h.get? b=some o->H b=none->b∉fs->b∉ex->h'.get? b=some o
 slot:∀b o,h.get? b=some o->H b=none->b∈fs->b∉ex->∃sl,h'.get? b=some { o with slots:=sl }
 free:∀b o,h.get? b=some o->H b=none->b∉ex->H' b=none
 there:∀b o,h.get? b=some o->b∉ex->∃o',h'.get? b=some o'
 tups:∀b xs,H b=some (.tup xs)->H' b=some (.tup xs)
 frzs:∀b o u,H b=some (.frz o u)->H' b=some (.frz o u)
 tbls:∀b ps,H b=some (.tbl ps)->∃more,H' b=some (.tbl (ps++more))
section
variable {fs fs' ex ex':List Addr}{H H1 H2:Hp}{h h1 h2 h':Heap}{a x e:Addr}{o:HO}
theorem Un.any (u:Un fs ex H H1 h h1){b:Addr}{ob:Obj}(q:h.get? b=some ob)(n:H b=none)(hx:b∉ex):∃sl,h1.get? b=some { ob with slots:=sl }:=by
 by_cases hb:b∈fs
 ·exact u.slot b ob q n hb hx
 ·exact ⟨ob.slots,u.keep b ob q n hb hx⟩
theorem Un.kept (k:∀b u,h.get? b=some u->h'.get? b=some u):Un fs ex H H h h':=
 ⟨λ b ob q _ _ _=>k b ob q,λ b ob q _ _ _=>⟨ob.slots,k b ob q⟩,λ _ _ _ n _=>n,λ b ob q _=>⟨ob,k b ob q⟩,λ _ _ q=>q,λ _ _ _ q=>q,λ _ ps q=>⟨#[],by rw [q];simp⟩⟩
theorem Un.refl:Un fs ex H H h h:=Un.kept λ _ _ q=>q
theorem Un.laid (k:∀b u,h.get? b=some u->h'.get? b=some u)(hp:h.objs.size<=a)(hn:H a=none):Un fs ex H (upd H a o) h h' where
 keep:=λ b u q _ _ _=>k b u q
 slot:=λ b u q _ _ _=>⟨u.slots,k b u q⟩
 free:=λ b u q n _=>by rw [qj (ne_of_lt (lt_of_lt_of_le (Heap.lt_size q) hp))];exact n
 there:=λ b u q _=>⟨u,k b u q⟩
 tups:=λ b xs q=>by rw [qj (kz q hn)];exact q
 frzs:=λ b u xs q=>by rw [qj (kz q hn)];exact q
 tbls:=λ b ps q=>⟨#[],by rw [qj (kz q hn),q];simp⟩
theorem Un.write (mu:WK (H x))(he:e=x∨H e=some (.own x))(k:∀b u,b≠e->h.get? b=some u->h'.get? b=some u)(heo:∃u,h'.get? e=some u):Un fs ex H (upd H x o) h h':=by
 have hx:∀b,H b=none->b≠x:=λ b n z=>by subst z;rw [n] at mu;exact mu
 have hb:∀b,H b=none->b≠e:=λ b n z=>by
  subst z;rcases he with r | r
  ·exact hx b n r
  ·rw [n] at r;cases r
 have hm:∀b u,H b=some u->¬WK (some u)->b≠x:=λ b u q nm z=>by subst z;rw [q] at mu;exact nm mu
 refine ⟨λ b u q n _ _=>k b u (hb b n) q,λ b u q n _ _=>⟨u.slots,k b u (hb b n) q⟩,λ b u q n _=>by rw [qj (hx b n)];exact n,λ b u q _=>?_,
  λ b xs q=>by rw [qj (hm b _ q λ z=>z)];exact q,λ b u xs q=>by rw [qj (hm b _ q λ z=>z)];exact q,λ b ps q=>⟨#[],by rw [qj (hm b _ q λ z=>z),q];simp⟩⟩
 by_cases hbe:b=e
 ·subst hbe;exact heo
 ·exact ⟨u,k b u hbe q⟩
end
noncomputable def WQ (h:Heap)(H:Hp):List Addr:=(List.range h.objs.size).filter λ a=>(H a).isSome
noncomputable def g8 (h:Heap)(H:Hp):Heap:=PySem.W.hideAll h (WQ h H)
theorem M9 (h:Heap)(H:Hp):(g8 h H).objs.size=h.objs.size:=PySem.W.hideAll_size _ _
theorem LR {h:Heap}{H:Hp}{b:Addr}{o:Obj}(e:h.get? b=some o)(n:H b=none):(g8 h H).get? b=some o:=
 PySem.W.hideAll_get _ e λ hm=>by
  have q:(H b).isSome=true:=(List.mem_filter.mp hm).2;rw [n] at q;simp at q
theorem Fm {h:Heap}{H:Hp}{b:Addr}{o:Obj}(e:(g8 h H).get? b=some o):h.get? b=some o/\H b=none:=by
 have e':h.get? b=some o:=PySem.W.of_hideAll (WQ h H) e;refine ⟨e',?_⟩;cases q:H b with
 | none=>rfl
 | some x=>
  have hm:b∈WQ h H:=List.mem_filter.mpr ⟨List.mem_range.mpr (Heap.lt_size e'),by simp [q]⟩
  have z:(g8 h H).get? b=none:=PySem.W.hideAll_none (WQ h H) hm;rw [z] at e;cases e
structure Mod (K:Frag)(mg:Str->Option Value)(base:Heap):Prop where
 kin:K.In base
 glob:base.Ns mainGlobals mg
 blt:∃mb,base.Ns builtinsNs mb/\∀x:Str,x ≠ "__name__" -> mb x=bootBuiltins x
 nolimit:base.NoLimit
structure Cx where
 prog:Program
 w:World
 K:Frag
 mg:Str->Option Value
 base:Heap
 A:Around
 N:List Str
 s0:Shared
 H0:Hp
 env:Env
 outer:List Env
 stack:List Env
 ex:List Addr
 fn:Str->Bool
 calm:Bool
 pn:List (Addr × Obj)
 xe:Value->Shared->Prop
noncomputable def qt (l:List Env):List Addr:=l.filterMap (·.frame)
noncomputable abbrev Cx.fs (X:Cx):List Addr:=qt X.outer
noncomputable def JF (sc:Scope)(x:Str):Prop:=sc.names.lookup x=some .local∨sc.names.lookup x=some .cell∨sc.names.lookup x=some .free
noncomputable def Loc (sc:Scope)(x:Str):Prop:=sc.names.lookup x=some .local∨sc.names.lookup x=some .cell
noncomputable def Look (env:Env)(h:Heap)(m:Str->Option Value)(x:Str)(u:Value):Prop:=
 (env.kindOf x=some .local/\m x=some u)∨((env.kindOf x=some .cell∨env.kindOf x=some .free)/\∃c,env.cells.lookup x=some c/\h.IsCell c (some u))
structure Cx.Ok (X:Cx):Prop where
 mod:Mod X.K X.mg X.base
 kind:X.env.scope.kind=.function
 glob:X.env.globals=mainGlobals
 blt:X.env.builtins=builtinsNs
 above:X.s0.heap.objs.size<=X.env.locals
 inj:∀x y c,X.env.cells.lookup x=some c->X.env.cells.lookup y=some c->x=y
 has:∀x,(X.env.kindOf x=some .cell∨X.env.kindOf x=some .free)->∃c,X.env.cells.lookup x=some c
 cab:∀x c,X.fn x=true->X.env.cells.lookup x=some c->X.s0.heap.objs.size<=c
 hd:X.calm=true->X.A.handled=none
 frames:X.A.frames=some X.stack
 stk:X.stack=X.outer∨(X.stack=X.env::X.outer/\X.env.frame=some X.env.locals)
 exf:∀b∈X.ex,b≠X.env.locals/\∀x c,X.env.cells.lookup x=some c->c≠b
 bs:∀b o,X.base.get? b=some o->X.s0.heap.get? b=some o/\X.H0 b=none
 bsz:X.base.objs.size<=X.s0.heap.objs.size
 noex:∀b o,X.base.get? b=some o->b∉X.ex
 exfs:∀b∈X.ex,b∉X.fs
 funs:X.s0.heap.FunFrames X.base X.outer
 frf:∀b∈X.fs,X.H0 b=none
structure Inv (X:Cx)(pins:List (Addr × Obj))(σ:List (Option V))(H:Hp)(s:Shared):Prop where
 ok:X.Ok
 os:s.os=X.s0.os
 bare:AllBare s.gens
 base:Un X.fs X.ex X.H0 H X.s0.heap s.heap
 loc:∃m,s.heap.Ns X.env.locals m/\∀(i:Nat) (x:Str) (v:V),X.N[i]? =some x->σ[i]? =some (some v)->JF X.env.scope x->∃u,RelV v u/\Look X.env s.heap m x u
 cell:∀x c,X.env.cells.lookup x=some c->∃v,s.heap.IsCell c v
 free:H X.env.locals=none
 freeC:∀x c,X.env.cells.lookup x=some c->H c=none
 pin:∀p∈X.pn++pins,s.heap.get? p.1=some p.2/\H p.1=none/\p.1≠X.env.locals/\p.1∉X.fs/\∀v,p.2.data≠.cell v
 hok:jS X.prog X.w H s.heap
 len:σ.length=X.N.length
section
variable {X:Cx}{pins:List (Addr × Obj)}{σ:List (Option V)}{H H':Hp}{s:Shared}{h':Heap}
theorem Cx.Ok.nofr (ok:X.Ok){b:Addr}{o:Obj}(e:X.base.get? b=some o):b∉X.fs:=λ hb=>by
 have:=(ok.funs.mem hb).1
 rw [e] at this;cases this
theorem Inv.bs (I:Inv X pins σ H s):∀b o,X.base.get? b=some o->s.heap.get? b=some o/\H b=none:=λ b o e=>
 ⟨I.base.keep b o (I.ok.bs b o e).1 (I.ok.bs b o e).2 (I.ok.nofr e) (I.ok.noex b o e),I.base.free b o (I.ok.bs b o e).1 (I.ok.bs b o e).2 (I.ok.noex b o e)⟩
theorem Inv.bk (I:Inv X pins σ H s):∀b o,X.base.get? b=some o->s.heap.get? b=some o:=λ b o e=>(I.bs b o e).1
theorem Inv.mod (I:Inv X pins σ H s):Mod X.K X.mg X.base:=I.ok.mod
theorem Inv.kIn (I:Inv X pins σ H s):X.K.In s.heap:=I.ok.mod.kin.keeps I.bk
theorem Inv.lt (I:Inv X pins σ H s):X.env.locals<s.heap.objs.size:=let ⟨_,hn,_⟩:=I.loc;hn.lt
theorem Inv.sz (I:Inv X pins σ H s):X.s0.heap.objs.size<=s.heap.objs.size:=le_trans I.ok.above (le_of_lt I.lt)
theorem Inv.nofs (I:Inv X pins σ H s){a:Addr}(h:s.heap.objs.size<=a):a∉X.fs:=λ hb=>by
 obtain ⟨_,o,ho,_⟩:=I.ok.funs.mem hb;exact absurd (lt_of_lt_of_le (Heap.lt_size ho) (le_trans I.sz h)) (lt_irrefl _)
theorem Inv.cne (I:Inv X pins σ H s):∀x c,X.env.cells.lookup x=some c->c≠X.env.locals:=λ x c e z=>by
 obtain ⟨v,o,ho,hd⟩:=I.cell x c e;obtain ⟨m,⟨o',es,ep,ho',hd',_⟩,_⟩:=I.loc;rw [z,ho'] at ho;cases ho;rw [hd'] at hd;cases hd
theorem Inv.funs (I:Inv X pins σ H s):s.heap.FunFrames X.base X.outer:=by
 have all:∀(l:List Env),(∀b∈qt l,b∈X.fs)->X.s0.heap.FunFrames X.base l->s.heap.FunFrames X.base l:=by
  intro l
  induction l with
  | nil=>intro _ _;trivial
  | cons env r ih=>
   intro hs hl;obtain ⟨hk,⟨L,o,hf,hn,ho,hd⟩,hr⟩:=hl;have hL:L∈X.fs:=hs L (by unfold qt;rw [filterMap_cons,hf];exact mem_cons_self)
   obtain ⟨sl,e⟩:=I.base.slot L o ho (I.ok.frf L hL) hL λ z=>I.ok.exfs L z hL;exact ⟨hk,⟨L,_,hf,hn,e,hd⟩,ih (λ b hb=>hs b (by unfold qt;rw [filterMap_cons,hf];exact mem_cons_of_mem _ hb)) hr⟩
 exact all X.outer (λ _ hb=>hb) I.ok.funs
theorem Inv.stack (I:Inv X pins σ H s):s.heap.FunFrames X.base X.stack:=by
 rcases I.ok.stk with e | ⟨e,hf⟩
 ·rw [e];exact I.funs
 ·rw [e]
  obtain ⟨m,hn,_⟩:=I.loc;refine .cons (by rw [I.ok.kind];decide) hf hn ?_ I.funs
  exact Heap.get?_none_of_le (le_trans I.ok.bsz I.ok.above)
theorem Inv.stkSub (I:Inv X pins σ H s):∀b∈qt X.stack,b∈X.env.locals::X.fs:=λ b hb=>by
 rcases I.ok.stk with e | ⟨e,hf⟩
 ·rw [e] at hb;exact mem_cons_of_mem _ hb
 ·rw [e] at hb
  unfold qt at hb;rw [filterMap_cons,hf] at hb;exact hb
theorem Inv.stkFree (I:Inv X pins σ H s):∀b∈qt X.stack,H b=none:=λ b hb=>by
 rcases List.mem_cons.mp (I.stkSub b hb) with e | hb
 ·rw [e];exact I.free
 ·obtain ⟨_,o,ho,_⟩:=I.ok.funs.mem hb
  exact I.base.free b o ho (I.ok.frf b hb) λ z=>I.ok.exfs b z hb
theorem Inv.step {g':Array GenState}{t':Nat}{d':Drawn}{ch:List Addr}(I:Inv X pins σ H s)
  (hch:∀b∈ch,(b∈X.ex∨X.s0.heap.objs.size<=b)/\b≠X.env.locals/\(∀x c,X.env.cells.lookup x=some c->c≠b)/\∀p∈X.pn++pins,p.1≠b)
  (keep:∀b o,b≠X.env.locals->b∉X.fs->b∉ch->s.heap.get? b=some o->H b=none->h'.get? b=some o)
  (slot:∀b o,b≠X.env.locals->b∈X.fs->b∉ch->s.heap.get? b=some o->H b=none->∃sl,h'.get? b=some { o with slots:=sl })(free:∀b o,b∉ch->s.heap.get? b=some o->H b=none->H' b=none)
  (there:∀b o,b∉ch->s.heap.get? b=some o->∃o',h'.get? b=some o')
  (tups:∀b xs,H b=some (.tup xs)->H' b=some (.tup xs))(frzs:∀b o u,H b=some (.frz o u)->H' b=some (.frz o u))(tbls:∀b ps,H b=some (.tbl ps)->∃more,H' b=some (.tbl (ps++more)))
  (ns:∀m,s.heap.Ns X.env.locals m->h'.Ns X.env.locals m)(hok:jS X.prog X.w H' h')(hg:AllBare g'):
  Inv X pins σ H' { s with heap:=h',gens:=g',drawn:=d',toks:=t' }:=by
 have YH:∀b o,X.s0.heap.get? b=some o->b≠X.env.locals:=λ b o e=>ne_of_lt (lt_of_lt_of_le (Heap.lt_size e) I.ok.above);have neC:∀b o,X.s0.heap.get? b=some o->b∉X.ex->b∉ch:=λ b o e hx hb=>by
  rcases (hch b hb).1 with z | z
  ·exact hx z
  ·exact absurd (lt_of_lt_of_le (Heap.lt_size e) z) (lt_irrefl _)
 have cellK:∀x c,X.env.cells.lookup x=some c->∀v,s.heap.IsCell c v->h'.IsCell c v:=λ x c e v ⟨o,ho,hd⟩=>by
  have nch:c∉ch:=λ z=>(hch c z).2.2.1 x c e rfl
  by_cases hc:c∈X.fs
  ·obtain ⟨sl,q⟩:=slot c o (I.cne x c e) hc nch ho (I.freeC x c e)
   exact ⟨_,q,hd⟩
  ·exact ⟨o,keep c o (I.cne x c e) hc nch ho (I.freeC x c e),hd⟩
 refine ⟨I.ok,I.os,hg,⟨λ b o e n hb hx=>?_,λ b o e n hb hx=>?_,λ b o e n hx=>?_,λ b o e hx=>?_,λ b xs e=>tups b xs (I.base.tups b xs e),λ b o xs e=>frzs b o xs (I.base.frzs b o xs e),λ b ps e=>?_⟩,?_,λ x c e=>?_,?_,λ x c e=>?_,λ p hp=>?_,hok,I.len⟩
 ·exact keep b o (YH b o e) hb (neC b o e hx) (I.base.keep b o e n hb hx) (I.base.free b o e n hx)
 ·obtain ⟨sl,e1⟩:=I.base.slot b o e n hb hx
  obtain ⟨sl',e2⟩:=slot b _ (YH b o e) hb (neC b o e hx) e1 (I.base.free b o e n hx);exact ⟨sl',e2⟩
 ·obtain ⟨o',e1⟩:=I.base.there b o e hx
  exact free b o' (neC b o e hx) e1 (I.base.free b o e n hx)
 ·obtain ⟨o',e1⟩:=I.base.there b o e hx
  exact there b o' (neC b o e hx) e1
 ·obtain ⟨m1,e1⟩:=I.base.tbls b ps e
  obtain ⟨m2,e2⟩:=tbls b _ e1;exact ⟨m1++m2,by rw [e2,Array.append_assoc]⟩
 ·obtain ⟨m,hn,hl⟩:=I.loc
  refine ⟨m,ns m hn,λ i x v e1 e2 e3=>?_⟩;obtain ⟨u,r,l⟩:=hl i x v e1 e2 e3;refine ⟨u,r,?_⟩;rcases l with l | ⟨k,c,e,z⟩
  ·exact .inl l
  ·exact .inr ⟨k,c,e,cellK x c e _ z⟩
 ·obtain ⟨v,z⟩:=I.cell x c e
  exact ⟨v,cellK x c e v z⟩
 ·obtain ⟨m,⟨o,_,_,ho,_⟩,_⟩:=I.loc
  exact free _ o (λ z=>(hch _ z).2.1 rfl) ho I.free
 ·obtain ⟨v,o,ho,hd⟩:=I.cell x c e
  exact free c o (λ z=>(hch c z).2.2.1 x c e rfl) ho (I.freeC x c e)
 ·obtain ⟨e,n,ne,nf,d⟩:=I.pin p hp
  have nch:p.1∉ch:=λ z=>(hch p.1 z).2.2.2 p hp rfl;exact ⟨keep p.1 p.2 ne nf nch e n,free p.1 p.2 nch e n,ne,nf,d⟩
theorem Inv.un {t':Nat}(I:Inv X pins σ H s)(u:Un X.fs [] H H' s.heap h')(hok:jS X.prog X.w H' h'):Inv X pins σ H' { s with heap:=h',toks:=t' }:=by
 obtain ⟨m,⟨o,es,ep,ho,r⟩,_⟩:=id I.loc;obtain ⟨sl,hL⟩:=u.any ho I.free (by simp)
 exact I.step (g':=s.gens) (d':=s.drawn) (ch:=[]) (λ _ z=>nomatch z) (λ b o _ hb _ e n=>u.keep b o e n hb (by simp)) (λ b o _ hb _ e n=>u.slot b o e n hb (by simp)) (λ b o _ e n=>u.free b o e n (by simp)) (λ b o _ e=>u.there b o e (by simp)) u.tups u.frzs u.tbls (λ m' hm=>by
  obtain ⟨o',es',ep',ho',r'⟩:=hm;rw [ho] at ho';cases ho';exact ⟨_,es',ep',hL,r'⟩) hok I.bare
theorem Inv.call {g':Array GenState}{t':Nat}{d':Drawn}{ch:List Addr}(I:Inv X pins σ H s)(u:Un (qt X.stack) ch H H' s.heap h')(hok:jS X.prog X.w H' h')(hg:AllBare g')
  (hch:∀b∈ch,(b∈X.ex∨X.s0.heap.objs.size<=b)/\b≠X.env.locals/\(∀x c,X.env.cells.lookup x=some c->c≠b)/\∀p∈X.pn++pins,p.1≠b):
  Inv X pins σ H' { s with heap:=h',gens:=g',drawn:=d',toks:=t' }:=by
 obtain ⟨m,⟨o,es,ep,ho,r⟩,_⟩:=id I.loc;obtain ⟨sl,hL⟩:=u.any ho I.free λ z=>(hch _ z).2.1 rfl;exact I.step (ch:=ch) hch (λ b o hL hb hc e n=>u.keep b o e n (λ z=>(List.mem_cons.mp (I.stkSub b z)).elim hL hb) hc) (λ b o _ _ hc e n=>u.any e n hc) (λ b o hc e n=>u.free b o e n hc) (λ b o hc e=>u.there b o e hc) u.tups u.frzs u.tbls (λ m' hm=>by
  obtain ⟨o',es',ep',ho',r'⟩:=hm;rw [ho] at ho';cases ho';exact ⟨_,es',ep',hL,r'⟩) hok hg
theorem Inv.turned {t':Nat}{it:Addr}(I:Inv X pins σ H s)(k:∀b o,b≠it->s.heap.get? b=some o->h'.get? b=some o)(hn:H it=none)(hL:it≠X.env.locals)
  (h1:it∈X.ex∨X.s0.heap.objs.size<=it)(h2:∀x c,X.env.cells.lookup x=some c->c≠it)(h3:∀p∈X.pn++pins,p.1≠it):Inv X pins σ H { s with heap:=h',toks:=t' }:=by
 have nit:∀b u,H b=some u->b≠it:=λ b u e z=>by rw [z,hn] at e;cases e
 refine I.step (g':=s.gens) (d':=s.drawn) (ch:=[it]) (λ b hb=>?_) (λ b o _ _ hc e _=>k b o (λ z=>hc (by simp [z])) e) (λ b o _ _ hc e _=>⟨o.slots,k b o (λ z=>hc (by simp [z])) e⟩) (λ _ _ _ _ n=>n)
  (λ b o hc e=>⟨o,k b o (λ z=>hc (by simp [z])) e⟩) (λ _ _ e=>e) (λ _ _ _ e=>e) (λ b ps e=>⟨#[],by rw [e];simp⟩) (λ m hm=>?_) (λ b u e=>?_) I.bare
 ·have e:b=it:=by simpa using hb
  subst e;exact ⟨h1,hL,h2,h3⟩
 ·obtain ⟨o,es,ep,ho,r⟩:=hm
  exact ⟨o,es,ep,k _ o (Ne.symm hL) ho,r⟩
 ·refine (I.hok b u e).stay (λ c v hc q=>k c v ?_ q) (λ _ q=>q) λ _ _ q=>q
  rcases hc with z | z
  ·rw [z];exact nit b u e
  ·exact nit c _ z
theorem Inv.tok (I:Inv X pins σ H s)(t:Nat):Inv X pins σ H { s with toks:=t }:=I.un (h':=s.heap) (t':=t) Un.refl I.hok
theorem Inv.kept {t':Nat}(I:Inv X pins σ H s)(k:∀b u,s.heap.get? b=some u->h'.get? b=some u):Inv X pins σ H { s with heap:=h',toks:=t' }:=I.un (Un.kept k) (I.hok.kept k)
theorem Inv.laid {a:Addr}{o:HO}{t':Nat}(I:Inv X pins σ H s)(k:∀b u,s.heap.get? b=some u->h'.get? b=some u)(hp:s.heap.objs.size<=a)(new:jj X.prog X.w (upd H a o) h' a o):
  Inv X pins σ (upd H a o) { s with heap:=h',toks:=t' }:=I.un (Un.laid k hp (I.hok.fresh hp)) (I.hok.laid k hp new)
theorem Inv.write {x e:Addr}{o:HO}{t':Nat}(I:Inv X pins σ H s)(mu:WK (H x))(he:e=x∨H e=some (.own x))(k:∀b u,b≠e->s.heap.get? b=some u->h'.get? b=some u)(heo:∃u,h'.get? e=some u)
  (new:jj X.prog X.w (upd H x o) h' x o):Inv X pins σ (upd H x o) { s with heap:=h',toks:=t' }:=I.un (Un.write mu he k heo) (I.hok.write mu he k heo new)
theorem Inv.pins_of {pins':List (Addr × Obj)}(I:Inv X pins σ H s)(h:∀p∈pins',s.heap.get? p.1=some p.2/\H p.1=none/\p.1≠X.env.locals/\p.1∉X.fs/\∀v,p.2.data≠.cell v):Inv X pins' σ H s:=
 ⟨I.ok,I.os,I.bare,I.base,I.loc,I.cell,I.free,I.freeC,λ p hp=>(List.mem_append.mp hp).elim (λ z=>I.pin p (List.mem_append_left _ z)) (h p),I.hok,I.len⟩
theorem XS {N:List Str}(hN:N.Nodup){i j:Nat}{x:Str}(a:N[i]? =some x)(b:N[j]? =some x):i=j:=by
 obtain ⟨h1,e1⟩:=List.getElem?_eq_some_iff.mp a;obtain ⟨h2,e2⟩:=List.getElem?_eq_some_iff.mp b;exact (List.getElem_inj hN).mp (e1.trans e2.symm)
theorem TM {M:Model}{A:Around}{E:Value->Shared->Prop}{i:Nat}{x:Str}{v:V}{u:Value}{Q:Unit->Shared->Prop}(I:Inv X pins σ H s)(hN:X.N.Nodup)(hi:X.N[i]? =some x)(hx:Loc X.env.scope x)(r:RelV v u)
  (h:∀s',Inv X pins (σ.set i (some v)) H s'->(∃a,Heap.SameBut a s.heap s'.heap/\(a=X.env.locals∨X.env.cells.lookup x=some a))->Q () s')(hf:X.fn x=true∨X.env.scope.names.lookup x=some .local:=by first | exact .inl rfl | exact .inr rfl | assumption):wpAny M A (storeName X.env x u) Q E s:=by
 obtain ⟨m,hn,hl⟩:=id I.loc;have hcls:(X.env.scope.kind==.class || (X.env.scope.kind==.module&&X.env.locals != X.env.globals))=false:=by rw [I.ok.kind];rfl
 have hiσ:i < σ.length:=by rw [I.len];exact (List.getElem?_eq_some_iff.mp hi).1
 have cne:=I.cne;have tracked:∀{a:Addr} {h':Heap},(∃o,s.heap.get? a=some o/\H a=none)->Heap.SameBut a s.heap h'->jS X.prog X.w H h':=λ {a h'} ha hs b ob e=>by
  obtain ⟨_,_,hfree⟩:=ha;refine (I.hok b ob e).stay (λ c w' hc q=>(hs.2 c ?_).trans q) (λ _ q=>q) λ _ _ q=>q
  rintro rfl
  rcases hc with rfl | hc
  ·rw [hfree] at e;cases e
  ·rw [hfree] at hc;cases hc
 rcases hx with hk | hk
 ·refine wpAny_storeName_local hk hn (λ h' hn' hs=>?_) hcls
  obtain ⟨oL,_,_,hoL,_⟩:=id hn;refine h _ ⟨I.ok,I.os,I.bare,⟨λ b o e n hb hx=>?_,λ b o e n hb hx=>?_,I.base.free,λ b o e hx=>?_,I.base.tups,I.base.frzs,I.base.tbls⟩,⟨_,hn',λ j y v' e1 e2 e3=>?_⟩,λ y c e=>?_,I.free,I.freeC,λ p hp=>?_,tracked ⟨oL,hoL,I.free⟩ hs,by simpa using I.len⟩ ⟨_,hs,.inl rfl⟩
  ·exact (hs.2 b (ne_of_lt (lt_of_lt_of_le (Heap.lt_size e) I.ok.above))).trans (I.base.keep b o e n hb hx)
  ·obtain ⟨sl,e1⟩:=I.base.slot b o e n hb hx
   exact ⟨sl,(hs.2 b (ne_of_lt (lt_of_lt_of_le (Heap.lt_size e) I.ok.above))).trans e1⟩
  ·obtain ⟨o',e1⟩:=I.base.there b o e hx
   exact ⟨o',(hs.2 b (ne_of_lt (lt_of_lt_of_le (Heap.lt_size e) I.ok.above))).trans e1⟩
  ·by_cases hj:j=i
   ·subst hj
    rw [hi] at e1;cases e1;rw [getElem?_set_self hiσ] at e2;cases e2;exact ⟨u,r,.inl ⟨hk,by simp⟩⟩
   ·rw [getElem?_set_ne (Ne.symm hj)] at e2
    obtain ⟨u',r',q⟩:=hl j y v' e1 e2 e3;refine ⟨u',r',?_⟩;rcases q with ⟨k,e⟩ | ⟨k,c,e,z⟩
    ·refine .inl ⟨k,?_⟩
     have:y≠x:=λ e=>hj (XS hN e1 (e ▸ hi))
     simp [this,e]
    ·exact .inr ⟨k,c,e,z.sameBut hs (cne y c e)⟩
  ·obtain ⟨w',z⟩:=I.cell y c e
   exact ⟨w',z.sameBut hs (cne y c e)⟩
  ·obtain ⟨e,n,ne,nf,d⟩:=I.pin p hp
   exact ⟨(hs.2 p.1 ne).trans e,n,ne,nf,d⟩
 ·have hfn:X.fn x=true:=by
   rcases hf with z | z
   ·exact z
   ·rw [z] at hk;cases hk
  obtain ⟨c,hc⟩:=I.ok.has x (.inl hk);obtain ⟨w',z⟩:=I.cell x c hc;refine wpAny_storeName_cell I.ok.kind hk hc z (λ h' hc' hs=>?_);obtain ⟨oc,hoc,hocd⟩:=id z;refine h { s with heap:=h' } ⟨I.ok,I.os,I.bare,⟨λ b o e n hb hx=>?_,λ b o e n hb hx=>?_,I.base.free,λ b o e hx=>?_,I.base.tups,I.base.frzs,I.base.tbls⟩,⟨m,hn.sameBut hs (Ne.symm (cne x c hc)),λ j y v' e1 e2 e3=>?_⟩,λ y c' e=>?_,I.free,I.freeC,λ p hp=>?_,tracked ⟨oc,hoc,I.freeC x c hc⟩ hs,by simpa using I.len⟩ ⟨c,hs,.inr hc⟩
  ·exact (hs.2 b (ne_of_lt (lt_of_lt_of_le (Heap.lt_size e) (I.ok.cab x c hfn hc)))).trans (I.base.keep b o e n hb hx)
  ·obtain ⟨sl,e1⟩:=I.base.slot b o e n hb hx
   exact ⟨sl,(hs.2 b (ne_of_lt (lt_of_lt_of_le (Heap.lt_size e) (I.ok.cab x c hfn hc)))).trans e1⟩
  ·obtain ⟨o',e1⟩:=I.base.there b o e hx
   exact ⟨o',(hs.2 b (ne_of_lt (lt_of_lt_of_le (Heap.lt_size e) (I.ok.cab x c hfn hc)))).trans e1⟩
  ·by_cases hj:j=i
   ·subst hj
    rw [hi] at e1;cases e1;rw [getElem?_set_self hiσ] at e2;cases e2;exact ⟨u,r,.inr ⟨.inl hk,c,hc,hc'⟩⟩
   ·rw [getElem?_set_ne (Ne.symm hj)] at e2
    obtain ⟨u',r',q⟩:=hl j y v' e1 e2 e3;refine ⟨u',r',?_⟩;rcases q with q | ⟨k,c',e,z'⟩
    ·exact .inl q
    ·refine .inr ⟨k,c',e,z'.sameBut hs ?_⟩
     rintro rfl
     exact hj (XS hN e1 (I.ok.inj _ _ _ e hc ▸ hi))
  ·by_cases hcc:c'=c
   ·subst hcc;exact ⟨_,hc'⟩
   ·obtain ⟨w2,z2⟩:=I.cell y c' e
    exact ⟨w2,z2.sameBut hs hcc⟩
  ·obtain ⟨e,n,ne,nf,d⟩:=I.pin p hp
   refine ⟨(hs.2 p.1 ?_).trans e,n,ne,nf,d⟩;intro q;rw [q,hoc] at e;have q':oc=p.2:=Option.some.inj e;exact d w' (by rw [<- q'];exact hocd)
theorem KL {M:Model}{A:Around}{E:Value->Shared->Prop}{i:Nat}{x:Str}{v:V}{u:Value}{Q:Unit->Shared->Prop}(I:Inv X pins σ H s)(hN:X.N.Nodup)(hi:X.N[i]? =some x)(hx:Loc X.env.scope x)(r:RelV v u)
  (h:∀s',Inv X pins (σ.set i (some v)) H s'->Q () s')(hf:X.fn x=true∨X.env.scope.names.lookup x=some .local:=by first | exact .inl rfl | exact .inr rfl | assumption):wpAny M A (storeName X.env x u) Q E s:=
 TM I hN hi hx r (λ s' I' _=>h s' I') hf
theorem Inv.call' {s':Shared}{ch:List Addr}(I:Inv X pins σ H s)(ho:s'.os=s.os)(u:Un (qt X.stack) ch H H' s.heap s'.heap)(hok:jS X.prog X.w H' s'.heap)(hg:AllBare s'.gens)
  (hch:∀b∈ch,(b∈X.ex∨X.s0.heap.objs.size<=b)/\b≠X.env.locals/\(∀x c,X.env.cells.lookup x=some c->c≠b)/\∀p∈X.pn++pins,p.1≠b):Inv X pins σ H' s':=by
 obtain ⟨h',g',d',t',o'⟩:=s';have e:o'=s.os:=ho;subst e;exact I.call (g':=g') (t':=t') (d':=d') u hok hg hch
end
noncomputable abbrev XK:=Value->Option Addr->Hp->Prop
noncomputable abbrev St:=List (Option V)
noncomputable abbrev VK:=V->Hp->Prop
noncomputable abbrev TE:=St->Hp->VK->Prop
noncomputable abbrev TT:=St->Hp->(Bool->Hp->Prop)->Prop
noncomputable abbrev TA:=St->Hp->(List V->Hp->Prop)->Prop
structure Ends where
 nx:St->Hp->Prop
 rt:VK
 bk:St->Hp->Prop:=λ _ _=>False
 ct:St->Hp->Prop:=λ _ _=>False
noncomputable abbrev TS:=Ends->St->Hp->Prop
inductive EP (X:Cx)(pins:List (Addr × Obj))(σ:St)(Q:VK)(u:Value)(s':Shared):Prop
 | mk (v:V) (H':Hp) (I:Inv X pins σ H' s') (r:RelV v u) (q:Q v H')
noncomputable def TP (X:Cx)(pins:List (Addr × Obj))(σ:St)(Q:Bool->Hp->Prop)(b:Bool)(s':Shared):Prop:=∃H',Inv X pins σ H' s'/\Q b H'
inductive AP (X:Cx)(pins:List (Addr × Obj))(σ:St)(Q:List V->Hp->Prop)(us:List Value)(s':Shared):Prop
 | mk (vs:List V) (H':Hp) (I:Inv X pins σ H' s') (r:Vals vs us) (q:Q vs H')
noncomputable def SP (X:Cx)(pins:List (Addr × Obj))(D:Ends)(f:Flow)(s':Shared):Prop:=
 match f with
 | .next=>∃σ' H',Inv X pins σ' H' s'/\D.nx σ' H'
 | .brk=>∃σ' H',Inv X pins σ' H' s'/\D.bk σ' H'
 | .cont=>∃σ' H',Inv X pins σ' H' s'/\D.ct σ' H'
 | .ret u=>∃v σ' H',Inv X pins σ' H' s'/\RelV v u/\D.rt v H'
noncomputable def PE (X:Cx)(e:Expr)(t:TE):Prop:=
 ∀(pins:List (Addr × Obj)) (s:Shared) (σ:St) (H:Hp) (Q:VK),Inv X pins σ H s->t σ H Q->wpAny (model X.prog X.w) X.A (eval e X.env) (EP X pins σ Q) X.xe s
noncomputable def PT (X:Cx)(e:Expr)(t:TT):Prop:=
 ∀(pins:List (Addr × Obj)) (s:Shared) (σ:St) (H:Hp) (Q:Bool->Hp->Prop),Inv X pins σ H s->t σ H Q->wpAny (model X.prog X.w) X.A (isTrue e X.env (eval e X.env)) (TP X pins σ Q) X.xe s
noncomputable def PW (X:Cx)(e:Expr)(t:TT):Prop:=
 ∀(whole:Sem Value) (pins:List (Addr × Obj)) (s:Shared) (σ:St) (H:Hp) (Q:Bool->Hp->Prop),Inv X pins σ H s->t σ H Q->wpAny (model X.prog X.w) X.A (isTrue e X.env whole) (TP X pins σ Q) X.xe s
theorem PW.pt {X:Cx}{e:Expr}{t:TT}(h:PW X e t):PT X e t:=h _
noncomputable def PA (X:Cx)(es:List Expr)(t:TA):Prop:=
 ∀(pos:Pos) (pins:List (Addr × Obj)) (s:Shared) (σ:St) (H:Hp) (Q:List V->Hp->Prop),Inv X pins σ H s->t σ H Q->wpAny (model X.prog X.w) X.A (spliced (backTo pos (starEach es X.env))) (AP X pins σ Q) X.xe s
noncomputable def PS (X:Cx)(st:Stmt)(t:TS):Prop:=
 ∀(pins:List (Addr × Obj)) (s:Shared) (σ:St) (H:Hp) (D:Ends),Inv X pins σ H s->t D σ H->wpAny (model X.prog X.w) X.A (exec st X.env) (SP X pins D) X.xe s
noncomputable def yn (X:Cx)(st:List Stmt)(t:TS):Prop:=
 ∀(pins:List (Addr × Obj)) (s:Shared) (σ:St) (H:Hp) (D:Ends),Inv X pins σ H s->t D σ H->wpAny (model X.prog X.w) X.A (execs st X.env) (SP X pins D) X.xe s
theorem zS {α:Type}{t:Sem α}{Q Q':α->Shared->Prop}{M:Model}{A:Around}{E:Value->Shared->Prop}{s:Shared}(h:wpAny M A t Q E s)(hQ:∀a s,Q a s->Q' a s):wpAny M A t Q' E s:=wpAny_mono h hQ λ _ _ x=>x
section
variable {X:Cx}
noncomputable def C5 (i:Nat):TE:=λ σ H Q=>∃v,σ[i]? =some (some v)/\Q v H
noncomputable def tC (v:V):TE:=λ _ H Q=>Q v H
theorem RM {i:Nat}{x:Str}{pos:Pos}(hN:X.N[i]? =some x)(hv:JF X.env.scope x)(hd:(x==("__debug__" : Str))=false:=by decide)(hcd:(x==("__classdict__" : Str))=false:=by decide):PE X (.Name x pos) (C5 i):=by
 intro pins s σ H Q I h;obtain ⟨v,e,h⟩:=h;obtain ⟨m,hn,hl⟩:=I.loc;obtain ⟨u,r,l⟩:=hl i x v hN e hv;have fin:EP X pins σ Q u s:=⟨v,H,I,r,h⟩;rcases l with ⟨hk,hm⟩ | ⟨hk,c,hc,hcell⟩
 ·exact wpAny_Name (wpAny_loadName_local I.ok.kind hk hn hm fin) hd
 ·rcases hk with hk | hk
  ·exact wpAny_Name (wpAny_loadName_cell I.ok.kind hk hc hcell fin) hd
  ·exact wpAny_Name (wpAny_loadName_free I.ok.kind hk hc hcell fin hcd) hd
theorem Dn {i j pos}:PE X (.Constant (.int i) j pos) (tC (.int i)):=λ _ _ _ H _ I h=>wpAny_Constant_int ⟨.int i,H,I.tok _,⟨_,rfl⟩,h⟩
theorem D4 {b j pos}:PE X (.Constant (.bool b) j pos) (tC (.bl b)):=λ _ _ _ H _ I h=>Constant_bool ⟨.bl b,H,I,rfl,h⟩
theorem EI {j pos}:PE X (.Constant .none j pos) (tC .non):=λ _ _ _ H _ I h=>Constant_none ⟨.non,H,I,rfl,h⟩
theorem EE {x j pos}:PE X (.Constant (.str x) j pos) (tC (.str x)):=λ _ _ _ H _ I h=>Calls.Constant_str ⟨.str x,H,I.tok _,⟨_,rfl⟩,h⟩
noncomputable def Gl (X:Cx)(x:Str):Prop:=X.env.kindOf x=some .globalImplicit
theorem Jj {E:Value->Shared->Prop}{pins:List (Addr × Obj)}{s:Shared}{σ:St}{H:Hp}{x:Str}{u:Value}{pos:Pos}{Q:Value->Shared->Prop}(I:Inv X pins σ H s)(hg:Gl X x)(hm:X.mg x=some u)(h:Q u s)
  (hd:(x==("__debug__" : Str))=false:=by decide):wpAny (model X.prog X.w) X.A (eval (.Name x pos) X.env) Q E s:=
 Calls.Name_function_global I.ok.kind hg (Calls.loadGlobal_global (by rw [I.ok.glob];exact I.mod.glob.keeps I.bk) hm h) hd
theorem ZW {E:Value->Shared->Prop}{pins:List (Addr × Obj)}{s:Shared}{σ:St}{H:Hp}{x:Str}{u:Value}{pos:Pos}{Q:Value->Shared->Prop}(I:Inv X pins σ H s)(hg:Gl X x)(hm:X.mg x=none)(hv:bootBuiltins x=some u)(h:Q u s)
  (hn:x ≠ "__name__" := by decide)(hd:(x==("__debug__" : Str))=false:=by decide):wpAny (model X.prog X.w) X.A (eval (.Name x pos) X.env) Q E s:=by
 obtain ⟨mb,h1,h2⟩:=I.mod.blt;exact Calls.Name_function_global I.ok.kind hg (Calls.loadGlobal_builtin (by rw [I.ok.glob];exact I.mod.glob.keeps I.bk) hm (by rw [I.ok.blt];exact h1.keeps I.bk) ((h2 x hn).trans hv) h) hd
theorem HU {x:Str}{v:V}{u:Value}{pos:Pos}(hg:Gl X x)(hm:X.mg x=some u)(r:RelV v u)(hd:(x==("__debug__" : Str))=false:=by decide):PE X (.Name x pos) (tC v):=
 λ _ _ _ H _ I h=>Jj I hg hm ⟨v,H,I,r,h⟩ hd
theorem KW {x:Str}{v:V}{u:Value}{pos:Pos}(hg:Gl X x)(hm:X.mg x=none)(hv:bootBuiltins x=some u)(r:RelV v u)(hn:x ≠ "__name__" := by decide)(hd:(x==("__debug__" : Str))=false:=by decide):PE X (.Name x pos) (tC v):=
 λ _ _ _ H _ I h=>ZW I hg hm hv ⟨v,H,I,r,h⟩ hn hd
variable {a b:Expr}{ta tb:TE}{pos:Pos}
theorem IL (b:Expr){op:CmpOp}(h:op≠.In)(h2:op≠.NotIn):behindInMarks op b=false:=by
 have e1:(op==CmpOp.In)=false:=by cases op<;>first | rfl | exact absurd rfl h
 have e2:(op==CmpOp.NotIn)=false:=by cases op<;>first | rfl | exact absurd rfl h2
 cases b<;>simp [behindInMarks,e1,e2]
noncomputable def tB (t:TE):TT:=λ σ H Q=>t σ H λ x H1=>∃c,x=.bl c/\Q c H1
theorem F9 {e:Expr}{t:TE}(h:PE X e t)(he:∀whole,isTrue e X.env whole=(do let v <- whole;standAt e.pos;holding [v] (truthy v)):=by intro _;rfl):PT X e (tB t):=by
 intro pins s σ H Q I hw;refine isTrue_plain (zS (h pins s σ H _ I hw) λ v s1 ⟨x,H1,I1,r1,q1⟩=>?_) (he _);obtain ⟨d,rfl,q⟩:=q1;cases r1;exact wpAny_truthy_bool ⟨H1,I1,q⟩
variable {tA tB':TT}{rest:List Expr}
noncomputable def CP (t u:TT):TT:=λ σ H Q=>t σ H λ c H1=>if c=true then u σ H1 Q else Q false H1
noncomputable def BM (t u:TT):TT:=λ σ H Q=>t σ H λ c H1=>if c=true then Q true H1 else u σ H1 Q
noncomputable def Bm (t:TT):TT:=λ σ H Q=>t σ H λ c H1=>Q (!c) H1
theorem pw_and1 (ha:PT X a tA):PW X (.BoolOp .And [a] pos) tA:=by
 intro wh pins s σ H Q I h;refine isTrue_and (zS (ha pins s σ H Q I h) λ c s1 e=>?_);cases c with
 | true=>exact isTrue_and_nil e
 | false=>exact e
theorem pw_or1 (ha:PT X a tA):PW X (.BoolOp .Or [a] pos) tA:=by
 intro wh pins s σ H Q I h;refine isTrue_or (zS (ha pins s σ H Q I h) λ c s1 e=>?_);cases c with
 | false=>exact isTrue_or_nil e
 | true=>exact e
theorem pw_and (ha:PT X a tA)(hb:PW X (.BoolOp .And (b::rest) pos) tB'):PW X (.BoolOp .And (a::b::rest) pos) (CP tA tB'):=by
 intro wh pins s σ H Q I h;refine isTrue_and (zS (ha pins s σ H _ I h) λ c s1 ⟨H1,I1,q1⟩=>?_);cases c with
 | true=>exact hb wh pins s1 σ H1 Q I1 q1
 | false=>exact ⟨H1,I1,q1⟩
theorem pw_or (ha:PT X a tA)(hb:PW X (.BoolOp .Or (b::rest) pos) tB'):PW X (.BoolOp .Or (a::b::rest) pos) (BM tA tB'):=by
 intro wh pins s σ H Q I h;refine isTrue_or (zS (ha pins s σ H _ I h) λ c s1 ⟨H1,I1,q1⟩=>?_);cases c with
 | true=>exact ⟨H1,I1,q1⟩
 | false=>exact hb wh pins s1 σ H1 Q I1 q1
theorem Dp (ha:PT X a tA):PT X (.UnaryOp .Not a pos) (Bm tA):=by
 intro pins s σ H Q I h;exact isTrue_not (ha pins s σ H (λ c H1=>Q (!c) H1) I h)
noncomputable def Cb (ta tb:TE):TE:=λ σ H Q=>ta σ H λ x H1=>∃c,x=.bl c/\if c=true then tb σ H1 Q else Q (.bl false) H1
noncomputable def CI (ta:TE):TE:=λ σ H Q=>ta σ H λ x H1=>∃c,x=.bl c/\Q (.bl (!c)) H1
theorem DI {op}{t:TE}(h:PE X a t):PE X (.BoolOp op [a] pos) t:=λ pins s σ H Q I hw=>BoolOp_one (h pins s σ H Q I hw)
theorem Et (ha:PE X a ta)(hb:PE X (.BoolOp .And (b::rest) pos) tb):PE X (.BoolOp .And (a::b::rest) pos) (Cb ta tb):=by
 intro pins s σ H Q I h;refine BoolOp_and (zS (ha pins s σ H _ I h) λ v s1 ⟨x,H1,I1,r1,q1⟩=>?_);obtain ⟨c,rfl,q1⟩:=q1;cases r1;refine wpAny_truthy_bool ?_;cases c with
 | true=>exact hb pins s1 σ H1 Q I1 q1
 | false=>exact ⟨.bl false,H1,I1,rfl,q1⟩
theorem Dm (ha:PE X a ta):PE X (.UnaryOp .Not a pos) (CI ta):=by
 intro pins s σ H Q I h;refine UnaryOp_ (zS (ha pins s σ H _ I h) λ v s1 ⟨x,H1,I1,r1,q1⟩=>?_);obtain ⟨c,rfl,q1⟩:=q1;cases r1;exact not_of (wpAny_truthy_bool ⟨.bl (!c),H1,I1,rfl,q1⟩)
noncomputable def Bz (t:TT)(ta tb:TE):TE:=λ σ H Q=>t σ H λ c H1=>if c=true then ta σ H1 Q else tb σ H1 Q
theorem Iy {c:Expr}(hc:PT X c tA)(ha:PE X a ta)(hb:PE X b tb):PE X (.IfExp c a b pos) (Bz tA ta tb):=by
 intro pins s σ H Q I h;refine wpAny_IfExp (zS (hc pins s σ H _ I h) λ d s1 ⟨H1,I1,q1⟩=>?_);cases d with
 | true=>exact ha pins s1 σ H1 Q I1 q1
 | false=>exact hb pins s1 σ H1 Q I1 q1
end
noncomputable def je (K:Frag)(H:Hp)(a:Addr)(xs:List V):Prop:=
 Rd H a (.lst xs)∨
  ∃(o:Obj) (its:Array Value) (n:Nat),K.lookup a=some o/\o.cls=.type "list" /\ o.dict=none/\o.data=.seq its n/\its.size<=sizeLine/\Vals xs its.toList
noncomputable def qG (K:Frag)(H:Hp)(a:Addr)(xs:List V):Prop:=
 Rd H a (.tup xs)∨
  ∃(o:Obj) (its:Array Value) (n:Nat),K.lookup a=some o/\(o.cls=.type "tuple" /\ o.dict=none)/\o.data=.seq its n/\its.size<=sizeLine/\Vals xs its.toList
noncomputable def Bw:Value->Option V
 | .none=>some .non
 | .bool b=>some (.bl b)
 | .int i _=>some (.int i)
 | .str x _=>some (.str x)
 | .bytes b _=>some (.byt b)
 | .float b _=>some (.flt b)
 | .ref a=>some (.ref a)
 | .type n=>some (.ty n)
 | _=>none
theorem RelV.abs {x:V}{u:Value}(r:RelV x u):Bw u=some x:=by
 cases x with
 | non=>cases r;rfl
 | bl _=>cases r;rfl
 | int _=>obtain ⟨t,rfl⟩:=r;rfl
 | str _=>obtain ⟨t,rfl⟩:=r;rfl
 | byt _=>obtain ⟨t,rfl⟩:=r;rfl
 | flt _=>obtain ⟨t,rfl⟩:=r;rfl
 | ref _=>cases r;rfl
 | ty _=>cases r;rfl
theorem RelV.inj {x y:V}{u:Value}(r:RelV x u)(q:RelV y u):x=y:=Option.some.inj (r.abs.symm.trans q.abs)
theorem Vals.inj:∀{xs ys:List V} {us:List Value},Vals xs us->Vals ys us->xs=ys
 | _,_,_,.nil,.nil=>rfl
 | _,_,_,.cons r t,.cons r' t'=>by rw [r.inj r',Vals.inj t t']
section
variable {X:Cx}{pins:List (Addr × Obj)}{σ:St}{H:Hp}{s:Shared}{a:Addr}{xs ys:List V}
theorem je.of {K:Frag}(h:H a=some (.lst xs)):je K H a xs:=.inl (.inl h)
theorem qG.of {K:Frag}(h:H a=some (.tup xs)):qG K H a xs:=.inl (.inl h)
theorem Inv.list (I:Inv X pins σ H s)(h:je X.K H a xs):∃its:List Value,Vals xs its/\PlainL s.heap a its.toArray/\xs.length<=sizeLine:=by
 rcases h with h | ⟨o,its,n,hk,hc,hd,hs,hz,r⟩
 ·obtain ⟨z,its,n,r,e⟩:=h.ok I.hok
  exact ⟨its,r,⟨_,n,e,rfl,rfl,rfl⟩,z⟩
 ·refine ⟨its.toList,r,⟨o,n,I.kIn a o hk,hc,hd,by simpa using hs⟩,?_⟩
  have e:=r.length;simp only [length_toList] at e;omega
theorem Inv.tuple (I:Inv X pins σ H s)(h:qG X.K H a xs):∃its:List Value,Vals xs its/\IsTup s.heap a its.toArray/\xs.length<=sizeLine:=by
 rcases h with h | ⟨o,its,n,hk,hc,hs,hz,r⟩
 ·obtain ⟨z,its,r,p⟩:=h.ok I.hok
  exact ⟨its,r,p.tup,z⟩
 ·refine ⟨its.toList,r,⟨o,I.kIn a o hk,hc.1,n,by simpa using hs⟩,?_⟩
  have e:=r.length;simp only [length_toList] at e;omega
theorem Inv.list_inj (I:Inv X pins σ H s)(h:je X.K H a xs)(h':je X.K H a ys):xs=ys:=by
 obtain ⟨its,r,⟨o,n,e,_,_,d⟩,_⟩:=I.list h;obtain ⟨its',r',⟨o',n',e',_,_,d'⟩,_⟩:=I.list h';rw [e] at e';cases e';rw [d] at d';injection d' with d1 _
 have:its=its':=by simpa using congrArg Array.toList d1
 subst this;exact r.inj r'
theorem Inv.tuple_inj (I:Inv X pins σ H s)(h:qG X.K H a xs)(h':qG X.K H a ys):xs=ys:=by
 obtain ⟨its,r,⟨o,e,_,n,d⟩,_⟩:=I.tuple h;obtain ⟨its',r',⟨o',e',_,n',d'⟩,_⟩:=I.tuple h';rw [e] at e';cases e';rw [d] at d';injection d' with d1 _
 have:its=its':=by simpa using congrArg Array.toList d1
 subst this;exact r.inj r'
end
noncomputable abbrev Cx.wish (X:Cx)(E:Value->Shared->Prop):Cx:={ X with xe:=E }
noncomputable abbrev Cx.nox (X:Cx):Cx:=X.wish λ _ _=>False
theorem Cx.Ok.wish {X:Cx}(ok:X.Ok)(E:Value->Shared->Prop):(X.wish E).Ok:=
 ⟨ok.mod,ok.kind,ok.glob,ok.blt,ok.above,ok.inj,ok.has,ok.cab,ok.hd,ok.frames,ok.stk,ok.exf,ok.bs,ok.bsz,ok.noex,ok.exfs,ok.funs,ok.frf⟩
theorem Cx.Ok.unwish {X:Cx}{E:Value->Shared->Prop}(ok:(X.wish E).Ok):X.Ok:=
 ⟨ok.mod,ok.kind,ok.glob,ok.blt,ok.above,ok.inj,ok.has,ok.cab,ok.hd,ok.frames,ok.stk,ok.exf,ok.bs,ok.bsz,ok.noex,ok.exfs,ok.funs,ok.frf⟩
section
variable {X:Cx}{pins:List (Addr × Obj)}{σ:St}{H:Hp}{s:Shared}{E:Value->Shared->Prop}
theorem Inv.wish (I:Inv X pins σ H s)(E:Value->Shared->Prop):Inv (X.wish E) pins σ H s:=⟨I.ok.wish E,I.os,I.bare,I.base,I.loc,I.cell,I.free,I.freeC,I.pin,I.hok,I.len⟩
theorem Inv.unwish (I:Inv (X.wish E) pins σ H s):Inv X pins σ H s:=⟨I.ok.unwish,I.os,I.bare,I.base,I.loc,I.cell,I.free,I.freeC,I.pin,I.hok,I.len⟩
theorem SP.unwish {D:Ends}{f:Flow}{s':Shared}(h:SP (X.wish E) pins D f s'):SP X pins D f s':=by
 cases f with
 | next=>obtain ⟨σ',H',I,q⟩:=h;exact ⟨σ',H',I.unwish,q⟩
 | brk=>obtain ⟨σ',H',I,q⟩:=h;exact ⟨σ',H',I.unwish,q⟩
 | cont=>obtain ⟨σ',H',I,q⟩:=h;exact ⟨σ',H',I.unwish,q⟩
 | ret u=>obtain ⟨v,σ',H',I,r,q⟩:=h;exact ⟨v,σ',H',I.unwish,r,q⟩
theorem PT.nox {e:Expr}{t:TT}(h:PT X.nox e t):PT X e t:=λ pins s σ H Q I hw=>
 wpAny_mono (h pins s σ H Q (I.wish _) hw) (λ _ _ ⟨H',I',q⟩=>⟨H',I'.unwish,q⟩) λ _ _ z=>False.elim z
theorem yn.nox {st:List Stmt}{t:TS}(h:yn X.nox st t):yn X st t:=λ pins s σ H D I hw=>
 wpAny_mono (h pins s σ H D (I.wish _) hw) (λ _ _ q=>q.unwish) λ _ _ z=>False.elim z
end
section
variable {X:Cx}{st:Stmt}{rest:List Stmt}{t u:TS}{e:Expr}{te:TE}{pos:Pos}
noncomputable def Cq:TS:=λ D σ H=>D.nx σ H
noncomputable def Bl (t u:TS):TS:=λ D σ H=>t { D with nx:=u D } σ H
theorem FO:yn X [] Cq:=λ _ _ σ H _ I h=>wpAny_execs_nil ⟨σ,H,I,h⟩
theorem IY (h1:PS X st t)(h2:yn X rest u):yn X (st::rest) (Bl t u):=by
 intro pins s σ H D I h;refine wpAny_execs_cons (zS (h1 pins s σ H { D with nx:=u D } I h) λ f s1 q=>?_)
 cases f with
 | next=>
  obtain ⟨σ',H',I',q⟩:=q;exact h2 pins s1 σ' H' D I' q
 | ret v=>exact q
 | brk=>exact q
 | cont=>exact q
theorem Inv.quiet {pins:List (Addr × Obj)}{σ:St}{H:Hp}{s:Shared}(I:Inv X pins σ H s):interactive X.env=false:=by simp [interactive,I.ok.kind]
noncomputable def Cn (te:TE):TS:=λ D σ H=>te σ H λ _ H1=>D.nx σ H1
theorem HL (he:PE X e te)(hs:swapsWith e none pos.line X.env=pure false:=by rfl):PS X (.Expr e pos) (Cn te):=by
 intro pins s σ H D I h;exact wpAny_Expr_any (zS (he pins s σ H _ I h) λ v s1 ⟨x,H1,I1,r1,q1⟩=>⟨σ,H1,I1,q1⟩) I.quiet hs
noncomputable def Bp (te:TE):TS:=λ D σ H=>te σ H D.rt
theorem DM (he:PE X e te):PS X (.Return (some e) pos) (Bp te):=by
 intro pins s σ H D I h;exact wpAny_Return_some (zS (he pins s σ H _ I h) λ v s1 ⟨x,H1,I1,r1,q1⟩=>⟨x,σ,H1,I1,r1,q1⟩)
noncomputable def Bc (c:TT)(t u:TS):TS:=λ D σ H=>c σ H λ b H1=>if b=true then t D σ H1 else u D σ H1
theorem CA {c:Expr}{a b:List Stmt}{tc:TT}(hc:PT X c tc)(ha:yn X a t)(hb:yn X b u):PS X (.If c a b pos) (Bc tc t u):=by
 intro pins s σ H D I h;refine wpAny_If (zS (hc pins s σ H _ I h) λ d s1 ⟨H1,I1,q1⟩=>?_);cases d with
 | true=>exact ha pins s1 σ H1 D I1 q1
 | false=>exact hb pins s1 σ H1 D I1 q1
end
noncomputable abbrev TG:=V->St->Hp->(St->Hp->Prop)->Prop
noncomputable abbrev QP:=List V->St->Hp->(St->Hp->Prop)->Prop
noncomputable def PG (X:Cx)(target:Expr)(t:TG):Prop:=
 ∀(pins:List (Addr × Obj)) (s:Shared) (σ:St) (H:Hp) (v:V) (u:Value) (Q:St->Hp->Prop),Inv X pins σ H s->RelV v u->t v σ H Q->
  wpAny (model X.prog X.w) X.A (assign target X.env u) (λ _ s'=>∃σ' H',Inv X pins σ' H' s'/\Q σ' H') X.xe s
noncomputable def WL (X:Cx)(ts:List Expr)(t:QP):Prop:=
 ∀(pins:List (Addr × Obj)) (s:Shared) (σ:St) (H:Hp) (vs:List V) (us:List Value) (Q:St->Hp->Prop),Inv X pins σ H s->Vals vs us->t vs σ H Q->
  wpAny (model X.prog X.w) X.A (assignInOrder ((assignEach ts X.env).map (·.2)) us) (λ _ s'=>∃σ' H',Inv X pins σ' H' s'/\Q σ' H') X.xe s
noncomputable abbrev QM:=V->V->V->Hp->(Hp->Prop)->Prop
noncomputable def Wm (X:Cx)(t:QM):Prop:=
 ∀(pins:List (Addr × Obj)) (s:Shared) (σ:St) (H:Hp) (o i v:V) (ov iv u:Value) (Q:Hp->Prop),Inv X pins σ H s->RelV o ov->RelV i iv->RelV v u->t o i v H Q->
  wpAny (model X.prog X.w) X.A (setItem ov iv u) (λ _ s'=>∃H',Inv X pins σ H' s'/\Q H') X.xe s
noncomputable abbrev WH:=V->V->Hp->VK->Prop
noncomputable def PV (X:Cx)(op:Operator)(t:WH):Prop:=
 ∀(pins:List (Addr × Obj)) (s:Shared) (σ:St) (H:Hp) (x y:V) (v u:Value) (Q:VK),Inv X pins σ H s->RelV x v->RelV y u->t x y H Q->
  wpAny (model X.prog X.w) X.A (inplaceOp op v u) (EP X pins σ Q) X.xe s
section
variable {X:Cx}{pos:Pos}
noncomputable def Wc (i:Nat):TG:=λ v σ H Q=>Q (σ.set i (some v)) H
theorem Vb {i:Nat}{x:Str}(hN:X.N.Nodup)(hi:X.N[i]? =some x)(hx:Loc X.env.scope x)(hf:X.fn x=true∨X.env.scope.names.lookup x=some .local:=by first | exact .inl rfl | exact .inr rfl | assumption):PG X (.Name x pos) (Wc i):=by
 intro pins s σ H v u Q I r h;exact wpAny_assign_Name (KL I hN hi hx r (λ s' I'=>⟨_,H,I',h⟩) hf)
noncomputable def C4:QP:=λ vs σ H Q=>vs=[]/\Q σ H
noncomputable def CM (t:TG)(u:QP):QP:=λ vs σ H Q=>∃v r,vs=v::r/\t v σ H λ σ' H'=>u r σ' H' Q
theorem Hr:WL X [] C4:=by
 intro pins s σ H vs us Q I r h;obtain ⟨e,h⟩:=h;subst e;cases r;exact assignInOrder_nil ⟨σ,H,I,h⟩
theorem Sh {e:Expr}{es:List Expr}{t:TG}{u:QP}(h1:PG X e t)(h2:WL X es u)
  (hs:(assignEach (e::es) X.env).map (·.2)=assign e X.env::(assignEach es X.env).map (·.2):=by rfl):WL X (e::es) (CM t u):=by
 intro pins s σ H vs us Q I r h;obtain ⟨v,vr,e1,h⟩:=h;subst e1;cases r with
 | cons r rr=>
  rw [hs];refine assignInOrder_cons (zS (h1 pins s σ H _ _ _ I r h) λ _ s1 ⟨σ1,H1,I1,q1⟩=>?_);exact h2 pins s1 σ1 H1 _ _ Q I1 rr q1
noncomputable def yP (K:Frag)(n:Nat)(t:QP):TG:=λ v σ H Q=>∃a xs,v=.ref a/\qG K H a xs/\xs.length=n/\t xs σ H Q
theorem Di {es:List Expr}{k:Nat}{t:QP}{n:Nat}(hc:X.calm=true)(h:WL X es t)
  (hn:(assignEach es X.env).length=n:=by rfl)(hst:(assignEach es X.env).findIdx? (·.1)=none:=by rfl):PG X (.Tuple es k pos) (yP X.K n t):=by
 intro pins s σ H v u Q I r hw;obtain ⟨a,xs,e1,hq,hl,hw⟩:=hw;subst e1;cases r;obtain ⟨its,rv,ht,hz⟩:=I.tuple hq;refine assign_Tuple_tuple (I.ok.hd hc) ht (by simp [hn,<- hl,rv.length]) hst λ h' hx=>?_
 have I1:Inv X pins σ H { s with heap:=h' }:=I.kept (t':=s.toks) λ b o e=>hx b o (ne_of_lt (Heap.lt_size e)) e
 exact h pins _ σ H xs _ Q I1 (by simpa using rv) hw
noncomputable def yG (to ti:TE)(t:QM):TG:=λ v σ H Q=>to σ H λ o H1=>ti σ H1 λ i H2=>t o i v H2 λ H3=>Q σ H3
theorem Dg {o i:Expr}{to ti:TE}{t:QM}(ho:PE X o to)(hi:PE X i ti)(hs:Wm X t)
  (ha:∀v,assign (.Subscript o i pos) X.env v=(do
   let ov <- holding [v] (eval o X.env)
   let iv <- holding [v,ov] (eval i X.env)
   standAt pos
   holding [v,ov,iv] (setItem ov iv v)
   release [v,ov,iv] []):=by intro _;rfl):PG X (.Subscript o i pos) (yG to ti t):=by
 intro pins s σ H v u Q I r h;rw [ha];refine wpAny_bind (wpAny_holding (zS (ho pins s σ H _ I h) λ ov s1 ⟨x,H1,I1,r1,q1⟩=>?_));refine wpAny_bind (wpAny_holding (zS (hi pins s1 σ H1 _ I1 q1) λ iv s2 ⟨y,H2,I2,r2,q2⟩=>?_));refine wpAny_bind (wpAny_standAt (wpAny_bind (wpAny_holding (zS (hs pins s2 σ H2 x y v ov iv u _ I2 r1 r2 r q2) λ _ s3 ⟨H3,I3,q3⟩=>?_))));exact wpAny_release ⟨σ,H3,I3,q3⟩
noncomputable def Wq (te:TE)(g:TG):TS:=λ D σ H=>te σ H λ x H1=>g x σ H1 D.nx
theorem RO {tg e:Expr}{te:TE}{g:TG}(he:PE X e te)(hg:PG X tg g)(hs:swapsWithSole [tg] e pos.line X.env=pure false:=by rfl)(hw:swappedStores [tg] e X.env=pure none:=by rfl)
  (h1:(assignEach [tg] X.env).map (·.2)=[assign tg X.env]:=by rfl):PS X (.Assign [tg] e pos) (Wq te g):=by
 intro pins s σ H D I h;refine wpAny_Assign_stores (zS (he pins s σ H _ I h) λ v s1 ⟨x,H1,I1,r1,q1⟩=>?_) hs hw;rw [h1];exact zS (hg pins s1 σ H1 x v _ I1 r1 q1) λ _ s2 q=>q
theorem EH {i:Nat}{x:Str}{e:Expr}{te:TE}{pos':Pos}(hN:X.N.Nodup)(hi:X.N[i]? =some x)(hx:Loc X.env.scope x)(he:PE X e te)(hs:swapsWith e (some (.Name x pos')) pos.line X.env=pure false:=by rfl)(hf:X.fn x=true∨X.env.scope.names.lookup x=some .local:=by first | exact .inl rfl | exact .inr rfl | assumption):
  PS X (.Assign [.Name x pos'] e pos) (Wq te (Wc i)):=by
 intro pins s σ H D I h;refine wpAny_Assign_Name (zS (he pins s σ H _ I h) λ v s1 ⟨y,H1,I1,r1,q1⟩=>?_) hs;exact KL I1 hN hi hx r1 (λ s2 I2=>⟨_,H1,I2,q1⟩) hf
noncomputable def Cp (to ti te:TE)(tget:V->V->Hp->VK->Prop)(tip:WH)(tset:QM):TS:=λ D σ H=>to σ H λ o H1=>ti σ H1 λ i H2=>tget o i H2 λ x H3=>te σ H3 λ y H4=>tip x y H4 λ z H5=>tset o i z H5 λ H6=>D.nx σ H6
noncomputable def PM (X:Cx)(t:V->V->Hp->VK->Prop):Prop:=
 ∀(pins:List (Addr × Obj)) (s:Shared) (σ:St) (H:Hp) (o i:V) (ov iv:Value) (Q:VK),Inv X pins σ H s->RelV o ov->RelV i iv->t o i H Q->
  wpAny (model X.prog X.w) X.A (getItem ov iv) (EP X pins σ Q) X.xe s
theorem Ho {o i e:Expr}{to ti te:TE}{tget:V->V->Hp->VK->Prop}{tip:WH}{tset:QM}{op:Operator}{tpos:Pos}(ho:PE X o to)(hi:PE X i ti)(hg:PM X tget)(he:PE X e te)(hp:PV X op tip)(hs:Wm X tset)
  (ha:∀ov iv new,augStore i ov iv new=(do holding [new,ov,iv] (setItem ov iv new);release [new,ov,iv] [];pure .next):=by intros;rfl):PS X (.AugAssign (.Subscript o i tpos) op e pos) (Cp to ti te tget tip tset):=by
 intro pins s σ H D I h;refine wpAny_AugAssign_SubscriptAny (zS (ho pins s σ H _ I h) λ ov s1 ⟨x1,H1,I1,r1,q1⟩=>?_) ha;refine zS (hi pins s1 σ H1 _ I1 q1) λ iv s2 ⟨x2,H2,I2,r2,q2⟩=>?_;refine zS (hg pins s2 σ H2 x1 x2 ov iv _ I2 r1 r2 q2) λ old s3 ⟨x3,H3,I3,r3,q3⟩=>?_;refine zS (he pins s3 σ H3 _ I3 q3) λ v s4 ⟨x4,H4,I4,r4,q4⟩=>?_;refine zS (hp pins s4 σ H4 x3 x4 old v _ I4 r3 r4 q4) λ new s5 ⟨x5,H5,I5,r5,q5⟩=>?_;exact zS (hs pins s5 σ H5 x1 x2 x5 ov iv new _ I5 r1 r2 r5 q5) λ _ s6 ⟨H6,I6,q6⟩=>⟨σ,H6,I6,q6⟩
noncomputable def BC (f:Int->Int->Int):WH:=λ x y H Q=>∃i j,x=.int i/\y=.int j/\Q (.int (f i j)) H
theorem EU:PV X .Add (BC λ i j=>i+j):=by
 intro pins s σ H x y v u Q I r1 r2 h;obtain ⟨i,j,e1,e2,q⟩:=h;subst e1;subst e2;obtain ⟨t,rfl⟩:=r1;obtain ⟨t',rfl⟩:=r2;exact iadd_int ⟨.int _,H,I.tok _,⟨_,rfl⟩,q⟩
end
section
variable {X:Cx}{pos:Pos}
noncomputable def F7 (c:TT)(tb:TS):TS:=λ D σ H=>∃W:Nat->St->Hp->Prop,(∃m,W m σ H)/\∀m σ H,W m σ H->
 c σ H λ b H1=>if b=true then ∃N:St->Hp->Prop,(∀σ' H',N σ' H'->∃m',m'<m/\W m' σ' H')/\tb { D with nx:=N,ct:=N,bk:=D.nx } σ H1 else D.nx σ H1
theorem LF {c:Expr}{body:List Stmt}{tc:TT}{tb:TS}(hp:PassesOwn (model X.prog X.w) X.A X.env X.xe)(hc:PT X c tc)(hb:yn X body tb):PS X (.While c body [] pos) (F7 tc tb):=by
 intro pins s σ H D I h;obtain ⟨W,⟨m0,w0⟩,turn⟩:=h;refine wpAny_While (codeAny_whileLoop (λ n s'=>∃σ' H',Inv X pins σ' H' s'/\W n σ' H') ?_ m0 ⟨σ,H,I,w0⟩)
 rintro n s1 ⟨σ1,H1,I1,w1⟩
 refine wpAny_passesOwn hp (zS (hc pins s1 σ1 H1 _ I1 (turn n σ1 H1 w1)) λ b s2 ⟨H2,I2,q2⟩=>?_);cases b with
 | true=>
  obtain ⟨N,hN,q2⟩:=q2;rw [if_pos rfl];refine wpAny_passesOwn hp (zS (hb pins s2 σ1 H2 _ I2 q2) λ f s3 q3=>?_);cases f with
  | next=>
   obtain ⟨σ3,H3,I3,n3⟩:=q3;obtain ⟨m',hm,w3⟩:=hN σ3 H3 n3;exact ⟨m',hm,σ3,H3,I3,w3⟩
  | cont=>
   obtain ⟨σ3,H3,I3,n3⟩:=q3;obtain ⟨m',hm,w3⟩:=hN σ3 H3 n3;exact ⟨m',hm,σ3,H3,I3,w3⟩
  | brk=>exact q3
  | ret v=>exact q3
 | false=>
  rw [if_neg Bool.false_ne_true];exact wpAny_execs_nil ⟨σ1,H2,I2,q2⟩
end
structure It where
 go:Nat->Hp->Prop
 yld:Nat->Hp->V->Hp->Prop
 stop:Nat->Hp->Prop
noncomputable def yY (X:Cx)(pins:List (Addr × Obj))(H:Hp)(b:Addr):Prop:=
 H b=none/\b≠X.env.locals/\b∉X.fs/\(b∈X.ex∨X.s0.heap.objs.size<=b)/\(∀x c,X.env.cells.lookup x=some c->c≠b)/\∀p∈X.pn++pins,p.1≠b
theorem Inv.fpOk {X:Cx}{pins:List (Addr × Obj)}{σ:St}{H H':Hp}{s:Shared}{b:Addr}(I:Inv X pins σ H s)(hb:s.heap.objs.size<=b)(hn:H' b=none):yY X pins H' b:=by
 refine ⟨hn,ne_of_gt (lt_of_lt_of_le I.lt hb),I.nofs hb,.inr (le_trans I.sz hb),λ x c e z=>?_,λ p hp z=>?_⟩
 ·obtain ⟨v,q⟩:=I.cell x c e
  exact absurd (lt_of_lt_of_le q.lt (by rw [z];exact hb)) (lt_irrefl _)
 ·exact absurd (lt_of_lt_of_le (Heap.lt_size (I.pin p hp).1) (by rw [z];exact hb)) (lt_irrefl _)
structure Turn (P:Program)(w:World)(K:Frag)(tg:Expr)(J:It)(fp:List Addr)(it:Addr)(tn:Nat->Heap->Prop):Prop where
 mem:it∈fp
 obj:∀i h,tn i h->∀b∈fp,∃o,h.get? b=some o/\∀v,o.data≠.cell v
 keep:∀i h h',tn i h->(∀b∈fp,∀o,h.get? b=some o->h'.get? b=some o)->tn i h'
 item:∀(X:Cx),X.prog=P->X.w=w->X.K=K->X.calm=true->∀(i:Nat) (pins:List (Addr × Obj)) (s:Shared) (σ:St) (H:Hp) (E:Value->Shared->Prop),Inv X pins σ H s->(∀b∈fp,yY X pins H b)->tn i s.heap->J.go i H->
  wpAny (model P w) X.A (pyNext (.ref it)) (λ r s1=>∃u,r=some u/\
   wpAny (model P w) X.A (letOwnedTupleGo tg (.ref it) u) (λ _ s2=>∃x H',Inv X pins σ H' s2/\RelV x u/\J.yld i H x H'/\tn (i+1) s2.heap/\∀b∈fp,H' b=none) E s1) E s
 done:∀(X:Cx),X.prog=P->X.w=w->X.K=K->X.calm=true->∀(i:Nat) (pins:List (Addr × Obj)) (s:Shared) (σ:St) (H:Hp) (E:Value->Shared->Prop),Inv X pins σ H s->(∀b∈fp,yY X pins H b)->tn i s.heap->J.stop i H->
  wpAny (model P w) X.A (pyNext (.ref it)) (λ r s1=>r=none/\Inv X pins σ H s1) E s
 self:∀(A:Around) (i:Nat) (s:Shared) (Q:Value->Shared->Prop) (E:Value->Shared->Prop),tn i s.heap->Q (.ref it) s->wpAny (model P w) A (pyIter (.ref it)) Q E s
noncomputable abbrev TI:=St->Hp->(It->Hp->Prop)->Prop
inductive P8 (X:Cx)(pins:List (Addr × Obj))(σ:St)(tg:Expr)(R:It->Hp->Prop)(itv:Value)(s2:Shared):Prop
 | mk (it:Addr) (fp:List Addr) (tn:Nat->Heap->Prop) (J:It) (H':Hp) (e:itv=.ref it) (I:Inv X pins σ H' s2) (T:Turn X.prog X.w X.K tg J fp it tn) (t0:tn 0 s2.heap) (f:(∀b∈fp,yY X pins H' b)) (q:R J H')
noncomputable def PI (X:Cx)(tg iter:Expr)(wi:TI):Prop:=
 ∀(pins:List (Addr × Obj)) (s:Shared) (σ:St) (H:Hp) (R:It->Hp->Prop),Inv X pins σ H s->wi σ H R->
  wpAny (model X.prog X.w) X.A (eval iter X.env) (λ v s1=>wpAny (model X.prog X.w) X.A (pyIter v) (P8 X pins σ tg R) X.xe s1) X.xe s
theorem VT {M:Model}{A:Around}{E:Value->Shared->Prop}{s:Shared}{tg:Expr}{it:Addr}{u:Value}{o:Obj}{n:String}{vs:Array Value}{Q:Unit->Shared->Prop}(ho:s.heap.get? it=some o)(hc:o.cls=.type n)(hd:o.data=.fields vs)
  (hn:["enumerate", "zip", "dict_itemiterator", "dict_reverseitemiterator", "odict_iterator", "itertools.zip_longest", "itertools.pairwise"].contains n=false)(hQ:Q () s):wpAny M A (letOwnedTupleGo tg (.ref it) u) Q E s:=by
 unfold letOwnedTupleGo;cases tg<;>first
  | exact wpAny_pure hQ
  | (cases u<;>first
    | exact wpAny_pure hQ
    | (
      refine wpAny_bind (wpAny_load ho ?_);rw [hc,hd];show wpAny M A (if (["enumerate", "zip", "dict_itemiterator", "dict_reverseitemiterator", "odict_iterator", "itertools.zip_longest", "itertools.pairwise"].contains n&&vs[0]?==some (rawInt _))=true then _ else _) Q E s;rw [if_neg (by intro h;rw [hn,Bool.false_and] at h;cases h)]
      exact wpAny_pure hQ))
noncomputable def P5 (K:Frag)(a:Addr):It:=
 ⟨λ i H=>∃xs x,je K H a xs/\xs[i]? =some x,λ i H x H'=>H'=H/\∀xs,je K H a xs->xs[i]? =some x,λ i H=>∃xs,je K H a xs/\xs.length<=i⟩
noncomputable def P4 (K:Frag)(a:Addr):It:=
 ⟨λ i H=>∃xs x,qG K H a xs/\xs[i]? =some x,λ i H x H'=>H'=H/\∀xs,qG K H a xs->xs[i]? =some x,λ i H=>∃xs,qG K H a xs/\xs.length<=i⟩
noncomputable def WM (lo:Int)(n:Nat):It:=⟨λ i _=>i<n,λ i H x H'=>H'=H/\x=.int (lo+i),λ i _=>n<=i⟩
theorem MZ {P:Program}{w:World}{K:Frag}{tg:Expr}(a it:Addr):Turn P w K tg (P5 K a) [it] it (λ i h=>h.IsListIter it a i) where
 mem:=by simp
 obj:=λ i h st b hb=>by
  have e:b=it:=by simpa using hb
  subst e;obtain ⟨o,e,c,d⟩:=st;exact ⟨o,e,λ v z=>by rw [d] at z;cases z⟩
 keep:=λ i h h' st k=>st.at λ o e=>k it (by simp) o e
 item:=by
  intro X hP hw hK hc i pins s σ H E I hf st hg;subst hP hw hK;obtain ⟨xs,x,hq,hx⟩:=hg;obtain ⟨its,rv,p,hz⟩:=I.list hq;obtain ⟨u,hu,ru⟩:=rv.get hx;obtain ⟨f0,f1,f2,f3,f4,f5⟩:=hf it (by simp)
  refine wpAny_pyNext_list_item st p.isList (x:=u) (by simpa using hu) λ h' st' sb=>?_
  have I1:Inv X pins σ H { s with heap:=h' }:=I.turned (t':=s.toks) (λ b o hb e=>(sb.2 b hb).trans e) f0 f1 f3 f4 f5
  obtain ⟨o,e,c,d⟩:=id st';exact ⟨u,rfl,VT (s:={ s with heap:=h' }) e c d (by decide) ⟨x,H,I1,ru,⟨rfl,λ ys hy=>by rw [I.list_inj hy hq];exact hx⟩,st',λ b hb=>(hf b hb).1⟩⟩
 done:=by
  intro X hP hw hK hc i pins s σ H E I hf st hg;subst hP hw hK;obtain ⟨xs,hq,hx⟩:=hg;obtain ⟨its,rv,p,hz⟩:=I.list hq;obtain ⟨f0,f1,f2,f3,f4,f5⟩:=hf it (by simp)
  have hl:=rv.length;exact wpAny_pyNext_list_end (I.ok.hd hc) st p.isList (by simp;omega) λ h' eb=>⟨rfl,I.turned (t':=s.toks) (λ b o hb e=>eb b o hb e) f0 f1 f3 f4 f5⟩
 self:=λ _ _ _ _ _ st h=>wpAny_pyIter_listiter st h
theorem Mc {P:Program}{w:World}{K:Frag}{tg:Expr}(a it:Addr):Turn P w K tg (P4 K a) [it] it (λ i h=>h.IsTupleIter it a i) where
 mem:=by simp
 obj:=λ i h st b hb=>by
  have e:b=it:=by simpa using hb
  subst e;obtain ⟨o,e,c,d⟩:=st;exact ⟨o,e,λ v z=>by rw [d] at z;cases z⟩
 keep:=λ i h h' st k=>st.at λ o e=>k it (by simp) o e
 item:=by
  intro X hP hw hK hc i pins s σ H E I hf st hg;subst hP hw hK;obtain ⟨xs,x,hq,hx⟩:=hg;obtain ⟨its,rv,p,hz⟩:=I.tuple hq;obtain ⟨u,hu,ru⟩:=rv.get hx;obtain ⟨f0,f1,f2,f3,f4,f5⟩:=hf it (by simp)
  refine wpAny_pyNext_tuple_item st (show s.heap.IsTuple a its.toArray from p) (x:=u) (by simpa using hu) λ h' st' sb=>?_
  have I1:Inv X pins σ H { s with heap:=h' }:=I.turned (t':=s.toks) (λ b o hb e=>(sb.2 b hb).trans e) f0 f1 f3 f4 f5
  obtain ⟨o,e,c,d⟩:=id st';exact ⟨u,rfl,VT (s:={ s with heap:=h' }) e c d (by decide) ⟨x,H,I1,ru,⟨rfl,λ ys hy=>by rw [I.tuple_inj hy hq];exact hx⟩,st',λ b hb=>(hf b hb).1⟩⟩
 done:=by
  intro X hP hw hK hc i pins s σ H E I hf st hg;subst hP hw hK;obtain ⟨xs,hq,hx⟩:=hg;obtain ⟨its,rv,p,hz⟩:=I.tuple hq;obtain ⟨f0,f1,f2,f3,f4,f5⟩:=hf it (by simp)
  have hl:=rv.length;exact wpAny_pyNext_tuple_end (I.ok.hd hc) st (show s.heap.IsTuple a its.toArray from p) (by simp;omega) λ h' eb=>⟨rfl,I.turned (t':=s.toks) (λ b o hb e=>eb b o hb e) f0 f1 f3 f4 f5⟩
 self:=λ _ _ _ _ _ st h=>wpAny_pyIter_tupleiter st h
theorem NT {P:Program}{w:World}{K:Frag}{tg:Expr}(it:Addr)(lo:Int)(n:Nat):Turn P w K tg (WM lo n) [it] it (λ i h=>IsRangeIter h it (lo+(i:Nat) * 1) ((n:Int) - (i:Nat)) 1) where
 mem:=by simp
 obj:=λ i h st b hb=>by
  have e:b=it:=by simpa using hb
  subst e;exact ⟨_,st,λ v z=>by
   have z':Data.fields _=Data.cell v:=z;cases z'⟩
 keep:=λ i h h' st k=>k it (by simp) _ st
 item:=by
  intro X hP hw hK hc i pins s σ H E I hf st hg;subst hP hw hK;obtain ⟨f0,f1,f2,f3,f4,f5⟩:=hf it (by simp)
  have W:=Walks.range (prog:=X.prog) (w:=X.w) (I.ok.hd hc) it lo 1 n;refine W.item i s _ _ hg st λ v h' tk hv st' kk=>?_;obtain ⟨t,rfl⟩:=hv;have I1:Inv X pins σ H { s with heap:=h',toks:=tk }:=I.turned (λ b o hb e=>kk b o (by simpa using hb) e) f0 f1 f3 f4 f5
  refine ⟨_,rfl,VT (s:={ s with heap:=h',toks:=tk }) (n := "range_iterator") st' rfl rfl (by decide) ⟨.int (lo+i),H,I1,⟨t,?_⟩,⟨rfl,rfl⟩,st',λ b hb=>(hf b hb).1⟩⟩
  rw [Int.mul_one]
 done:=by
  intro X hP hw hK hc i pins s σ H E I hf st hg;subst hP hw hK;obtain ⟨f0,f1,f2,f3,f4,f5⟩:=hf it (by simp)
  exact wpAny_pyNext_range_end (I.ok.hd hc) st (by have:n<=i:=hg;omega) λ h' eb=>⟨rfl,I.turned (t':=s.toks) (λ b o hb e=>eb b o hb e) f0 f1 f3 f4 f5⟩
 self:=λ _ _ _ _ _ st h=>wpAny_pyIter_rangeiter st h
section
variable {X:Cx}{tg:Expr}
theorem Lz {pins:List (Addr × Obj)}{σ:St}{H:Hp}{s:Shared}{R:It->Hp->Prop}{E:Value->Shared->Prop}{lo hi:Int}{t u v:Tok}{tk:Nat}(I:Inv X pins σ H s)(h1:-(2 ^ 62)<=lo)(h2:lo<2 ^ 62)(h3:-(2 ^ 62)<=hi)(h4:hi<2 ^ 62)
  (q:R (WM lo (hi - lo).toNat) H):wpAny (model X.prog X.w) X.A (pyIter (.ref s.heap.objs.size)) (P8 X pins σ tg R) E { s with heap:=s.heap.push { cls:=.type "range",data:=.fields #[.int lo t,.int hi u,.int 1 v] },toks:=tk }:=by
 refine wpAny_pyIter_range (IsRange.new ..) (small_one h1 h2 h3 h4) ?_;have I1:Inv X pins σ H { s with heap:=s.heap.push { cls:=.type "range",data:=.fields #[.int lo t,.int hi u,.int 1 v] },toks:=tk }:=I.kept λ b o e=>Heap.get?_push_of_some _ e
 refine ⟨(s.heap.push { cls:=.type "range",data:=.fields #[.int lo t,.int hi u,.int 1 v] }).objs.size,[(s.heap.push { cls:=.type "range",data:=.fields #[.int lo t,.int hi u,.int 1 v] }).objs.size],_,_,H,rfl,
  I1.kept (t':=tk) λ b o e=>Heap.get?_push_of_some _ e,NT _ lo (hi - lo).toNat,?_,λ b hb=>?_,q⟩
 ·have e1:lo+((0:Nat):Int) * 1=lo:=by simp
  have e2:(((hi - lo).toNat:Nat):Int) - ((0:Nat):Int)=Builtin.Range.rangeSize lo hi 1:=by rw [rangeSize_one];split<;>omega
  show IsRangeIter _ _ (lo+((0:Nat):Int) * 1) ((((hi - lo).toNat:Nat):Int) - ((0:Nat):Int)) 1;rw [e1,e2];exact Heap.get?_push_size _ rfl
 ·have e:b=(s.heap.push { cls:=.type "range",data:=.fields #[.int lo t,.int hi u,.int 1 v] }).objs.size:=by simpa using hb
  subst e;exact I1.fpOk (le_refl _) (I1.hok.fresh (le_refl _))
noncomputable def CN (ta:TA):TI:=λ σ H R=>ta σ H λ vs H1=>∃j:Int,vs=[.int j]/\-(2 ^ 62)<=j/\j<2 ^ 62/\R (WM 0 j.toNat) H1
theorem Mx {a:Expr}{ta:TA}{p pos:Pos}(hg:Gl X "range")(hm:X.mg "range" = none)(ha:PA X [a] ta)(hs:starEach [a] X.env=[(false,eval a X.env)]:=by rfl):PI X tg (.Call (.Name "range" p) [a] [] pos) (CN ta):=by
 intro pins s σ H R I h;refine Call_ (ZW I hg hm boot_range (PyProof.Rows.callWith_type1 (zS (ha pos pins s σ H _ I h) λ us s1 ⟨vs,H1,I1,r1,q1⟩=>?_) hs rfl));obtain ⟨j,e,q1,q2,q⟩:=q1;subst e;cases r1 with
 | cons r rr=>
  cases rr;obtain ⟨t,rfl⟩:=r;exact call_range_1 (Lz I1 (by omega) (by omega) q1 q2 (by simpa using q))
noncomputable def Bb (wi:TI)(g:TG)(tb:TS):TS:=λ D σ H=>wi σ H λ J H1=>∃W:Nat->Nat->St->Hp->Prop,(∃m,W 0 m σ H1)/\∀i m σ H,W i m σ H->
 (J.stop i H/\D.nx σ H)∨(J.go i H/\∃N:St->Hp->Prop,(∀σ' H',N σ' H'->∃m',m'<m/\W (i+1) m' σ' H')/\∀x H',J.yld i H x H'->g x σ H' λ σ2 H2=>tb { D with nx:=N,ct:=N,bk:=D.nx } σ2 H2)
noncomputable def Ye (fp:List Addr)(h:Heap):List (Addr × Obj):=fp.filterMap λ b=>(h.get? b).map λ o=>(b,o)
theorem Ki {fp:List Addr}{h:Heap}{b:Addr}{o:Obj}(hb:b∈fp)(e:h.get? b=some o):(b,o)∈Ye fp h:=List.mem_filterMap.mpr ⟨b,hb,by rw [e];rfl⟩
theorem MU {fp:List Addr}{h:Heap}{p:Addr × Obj}(hp:p∈Ye fp h):p.1∈fp/\h.get? p.1=some p.2:=by
 obtain ⟨b,hb,e⟩:=List.mem_filterMap.mp hp;cases q:h.get? b with
 | none=>rw [q] at e;cases e
 | some o=>
  rw [q] at e;have e':(b,o)=p:=Option.some.inj e;subst e';exact ⟨hb,q⟩
theorem Inv.pinned {pins:List (Addr × Obj)}{σ:St}{H:Hp}{s:Shared}{fp:List Addr}(I:Inv X pins σ H s)(hf:∀b∈fp,yY X pins H b)(ho:∀b∈fp,∃o,s.heap.get? b=some o/\∀v,o.data≠.cell v):Inv X (pins++Ye fp s.heap) σ H s:=
 I.pins_of λ p hp=>(List.mem_append.mp hp).elim (λ z=>I.pin p (mem_append_right _ z)) λ z=>by
  obtain ⟨hb,e⟩:=MU z;obtain ⟨f0,f1,f2,_⟩:=hf p.1 hb;obtain ⟨o,e',d⟩:=ho p.1 hb;rw [e] at e';cases e';exact ⟨e,f0,f1,f2,d⟩
theorem Inv.unpinned {pins pl:List (Addr × Obj)}{σ:St}{H:Hp}{s:Shared}(I:Inv X (pins++pl) σ H s):Inv X pins σ H s:=I.pins_of λ p hp=>I.pin p (mem_append_right _ (List.mem_append_left _ hp))
theorem E9 {iter:Expr}{body:List Stmt}{wi:TI}{g:TG}{tb:TS}{pos:Pos}(hp:PassesOwn (model X.prog X.w) X.A X.env X.xe)(hc:X.calm=true)(hi:PI X tg iter wi)(hg:PG X tg g)(hb:yn X body tb)
  (hs:∀x,foldedSetIterable iter X.env x=pure x:=by intro _;rfl):PS X (.For tg iter body [] pos) (Bb wi g tb):=by
 intro pins s σ H D I h;refine wpAny_For (zS (hi pins s σ H _ I h) λ v s1 h1=>zS h1 λ itv s2 h2=>?_) hs;obtain ⟨it,fp,tn,J,H2,e,I2,T,wB,f2,W,⟨m0,w0⟩,turn⟩:=h2;subst e;have stat:∀{H':Hp},(∀b∈fp,H' b=none)->∀b∈fp,yY X pins H' b:=λ hn b hb=>⟨hn b hb,(f2 b hb).2⟩;refine codeAny_forLoop_any (λ n s'=>∃i σ' H',Inv X pins σ' H' s'/\tn i s'.heap/\(∀b∈fp,H' b=none)/\W i n σ' H') ?_ m0 ⟨0,σ,H2,I2,wB,λ b hb=>(f2 b hb).1,w0⟩
 rintro n s3 ⟨i,σ3,H3,I3,w9,fr3,w3⟩
 rcases turn i n σ3 H3 w3 with ⟨stop,qn⟩ | ⟨go,N,hN,step⟩
 ·refine wpAny_passesOwn hp (zS (T.done X rfl rfl rfl hc i pins s3 σ3 H3 X.xe I3 (stat fr3) w9 stop) λ r s4 ⟨hr,I4⟩=>?_)
  subst hr;exact wpAny_execs_nil ⟨σ3,H3,I4,qn⟩
 ·refine wpAny_passesOwn hp (zS (T.item X rfl rfl rfl hc i pins s3 σ3 H3 X.xe I3 (stat fr3) w9 go) λ r s4 ⟨u,hr,h4⟩=>?_)
  subst hr;refine wpAny_passesOwn hp (zS h4 λ _ s5 ⟨x,H5,I5,r5,y5,st5,fr5⟩=>?_);have I5':=I5.pinned (stat fr5) (T.obj _ _ st5);refine wpAny_passesOwn hp (zS (hg _ s5 σ3 H5 x u _ I5' r5 (step x H5 y5)) λ _ s6 ⟨σ6,H6,I6,q6⟩=>?_);refine wpAny_passesOwn hp (zS (hb _ s6 σ6 H6 _ I6 q6) λ f s7 q7=>?_);have again:∀{σ7:St} {H7:Hp},Inv X (pins++Ye fp s5.heap) σ7 H7 s7->N σ7 H7->∃m,m<n/\∃i σ' H',Inv X pins σ' H' s7/\tn i s7.heap/\(∀b∈fp,H' b=none)/\W i m σ' H':=λ {σ7 H7} I7 n7=>by
   obtain ⟨m',hm,w7⟩:=hN σ7 H7 n7;refine ⟨m',hm,i+1,σ7,H7,I7.unpinned,T.keep _ _ _ st5 λ b hb o e=>(I7.pin (b,o) (mem_append_right _ (mem_append_right _ (Ki hb e)))).1,λ b hb=>?_,w7⟩;obtain ⟨o,e,d⟩:=T.obj _ _ st5 b hb;exact (I7.pin (b,o) (mem_append_right _ (mem_append_right _ (Ki hb e)))).2.1
  cases f with
  | next=>obtain ⟨σ7,H7,I7,n7⟩:=q7;exact again I7 n7
  | cont=>obtain ⟨σ7,H7,I7,n7⟩:=q7;exact again I7 n7
  | brk=>obtain ⟨σ7,H7,I7,q7⟩:=q7;exact ⟨σ7,H7,I7.unpinned,q7⟩
  | ret v=>obtain ⟨x7,σ7,H7,I7,r7,q7⟩:=q7;exact ⟨x7,σ7,H7,I7.unpinned,r7,q7⟩
end
noncomputable abbrev R2:=V->V->Hp->VK->Prop
noncomputable def qQ (X:Cx)(f:Value->Value->Sem Value)(r:R2):Prop:=
 ∀(pins:List (Addr × Obj)) (s:Shared) (σ:St) (H:Hp) (x y:V) (v u:Value) (Q:VK),Inv X pins σ H s->RelV x v->RelV y u->r x y H Q->
  wpAny (model X.prog X.w) X.A (f v u) (EP X pins σ Q) X.xe s
noncomputable def WB (X:Cx)(f:Value->Sem Value)(r:V->Hp->VK->Prop):Prop:=
 ∀(pins:List (Addr × Obj)) (s:Shared) (σ:St) (H:Hp) (x:V) (v:Value) (Q:VK),Inv X pins σ H s->RelV x v->r x H Q->
  wpAny (model X.prog X.w) X.A (f v) (EP X pins σ Q) X.xe s
noncomputable def jV (X:Cx)(f:Value)(r:List V->Hp->VK->Prop):Prop:=
 ∀(pins:List (Addr × Obj)) (s:Shared) (σ:St) (H:Hp) (xs:List V) (us:List Value) (Q:VK),Inv X pins σ H s->Vals xs us->r xs H Q->
  wpAny (model X.prog X.w) X.A (call f us) (EP X pins σ Q) X.xe s
noncomputable def YK (r:R2)(ta tb:TE):TE:=λ σ H Q=>ta σ H λ x H1=>tb σ H1 λ y H2=>r x y H2 Q
noncomputable def Ob (r:V->Hp->VK->Prop)(ta:TE):TE:=λ σ H Q=>ta σ H λ x H1=>r x H1 Q
noncomputable def rI (C:Int->Int->Prop)(g:Int->Int->V):R2:=λ x y H Q=>∃i j,x=.int i/\y=.int j/\C i j/\Q (g i j) H
noncomputable def gE (g:Int->Int->V):R2:=λ x y H Q=>∃i j,x=.int i/\y=.int j/\Q (g i j) H
noncomputable def rU (g:Int->V):V->Hp->VK->Prop:=λ x H Q=>∃i,x=.int i/\Q (g i) H
section
variable {X:Cx}{a b c:Expr}{ta tb tc:TE}{pos:Pos}
theorem Ug (ha:PE X a ta)(hb:PE X b tb){pins:List (Addr × Obj)}{s:Shared}{σ:St}{H:Hp}{R:V->V->Hp->Prop}(I:Inv X pins σ H s)
  (h:ta σ H λ x H1=>tb σ H1 λ y H2=>R x y H2){Q:Value->Shared->Prop}{f:Value->Value->Sem Value}
  (hf:∀v u s2 x y H2,Inv X pins σ H2 s2->RelV x v->RelV y u->R x y H2->wpAny (model X.prog X.w) X.A (f v u) Q X.xe s2):
  wpAny (model X.prog X.w) X.A (eval a X.env) (λ v s₁=>wpAny (model X.prog X.w) X.A (eval b X.env) (λ u s₂=>wpAny (model X.prog X.w) X.A (f v u) Q X.xe s₂) X.xe s₁) X.xe s:=by
 refine zS (ha pins s σ H _ I h) λ v s1 ⟨x,H1,I1,r1,q1⟩=>?_;refine zS (hb pins s1 σ H1 _ I1 q1) λ u s2 ⟨y,H2,I2,r2,q2⟩=>?_;exact hf v u s2 x y H2 I2 r1 r2 q2
theorem DW {op:Operator}{r:R2}(ho:qQ X (binaryOp op) r)(ha:PE X a ta)(hb:PE X b tb):PE X (.BinOp a op b pos) (YK r ta tb):=by
 intro pins s σ H Q I h;exact wpAny_BinOp (Ug ha hb I h λ v u s2 x y H2 I2 rx ry q=>ho pins s2 σ H2 x y v u Q I2 rx ry q)
theorem Cd {op:UnaryOp}{r:V->Hp->VK->Prop}(ho:WB X (unaryOp op) r)(ha:PE X a ta):PE X (.UnaryOp op a pos) (Ob r ta):=by
 intro pins s σ H Q I h;exact UnaryOp_ (zS (ha pins s σ H _ I h) λ v s1 ⟨x,H1,I1,r1,q1⟩=>ho pins s1 σ H1 x v Q I1 r1 q1)
theorem WA {f:Value->Value->Sem Value}{C:Int->Int->Prop}{g:Int->Int->Int}
  (rule:∀(i j:Int) (t u:Tok) (s:Shared) (Q:Value->Shared->Prop) (E:Value->Shared->Prop),C i j->Q (.int (g i j) s.toks) { s with toks:=s.toks+1 }->wpAny (model X.prog X.w) X.A (f (.int i t) (.int j u)) Q E s):
  qQ X f (rI C λ i j=>.int (g i j)):=by
 intro pins s σ H x y v u Q I rx ry h;obtain ⟨i,j,rfl,rfl,hc,q⟩:=h;obtain ⟨t,rfl⟩:=rx;obtain ⟨t',rfl⟩:=ry;exact rule i j t t' s _ _ hc ⟨.int (g i j),H,I.tok _,⟨_,rfl⟩,q⟩
theorem Ue {f:Value->Value->Sem Value}{g:Int->Int->Int}
  (rule:∀(i j:Int) (t u:Tok) (s:Shared) (Q:Value->Shared->Prop) (E:Value->Shared->Prop),Q (.int (g i j) s.toks) { s with toks:=s.toks+1 }->wpAny (model X.prog X.w) X.A (f (.int i t) (.int j u)) Q E s):
  qQ X f (gE λ i j=>.int (g i j)):=by
 intro pins s σ H x y v u Q I rx ry h;obtain ⟨i,j,rfl,rfl,q⟩:=h;obtain ⟨t,rfl⟩:=rx;obtain ⟨t',rfl⟩:=ry;exact rule i j t t' s _ _ ⟨.int (g i j),H,I.tok _,⟨_,rfl⟩,q⟩
theorem Wn {f:Value->Value->Sem Value}{g:Int->Int->Bool}
  (rule:∀(i j:Int) (t u:Tok) (s:Shared) (Q:Value->Shared->Prop) (E:Value->Shared->Prop),Q (.bool (g i j)) s->wpAny (model X.prog X.w) X.A (f (.int i t) (.int j u)) Q E s):
  qQ X f (gE λ i j=>.bl (g i j)):=by
 intro pins s σ H x y v u Q I rx ry h;obtain ⟨i,j,rfl,rfl,q⟩:=h;obtain ⟨t,rfl⟩:=rx;obtain ⟨t',rfl⟩:=ry;exact rule i j t t' s _ _ ⟨.bl (g i j),H,I,rfl,q⟩
noncomputable def PC (i j:Int):Prop:=0<=j/\j<=1000000/\i.natAbs<2 ^ 64
noncomputable def Yr (i j:Int):Prop:=(-(2 ^ 64)<i/\i<2 ^ 64)∨(-(2 ^ 64)<j/\j<2 ^ 64)
theorem Yr.ok {i j:Int}(h:Yr i j):IntMulOk i j:=by
 rcases h with ⟨h1,h2⟩ | ⟨h1,h2⟩
 ·exact .of_left (intBits_le_64 h1 h2)
 ·exact .of_right (intBits_le_64 h1 h2)
theorem F6:qQ X (binaryOp .Add) (gE λ i j=>.int (i+j)):=Ue λ _ _ _ _ _ _ _ q=>add_int q
theorem DN:qQ X (binaryOp .Sub) (gE λ i j=>.int (i - j)):=Ue λ _ _ _ _ _ _ _ q=>sub_int q
theorem Dj:qQ X (binaryOp .Mult) (rI Yr λ i j=>.int (i * j)):=WA λ _ _ _ _ _ _ _ hc q=>mul_int q hc.ok
theorem DR:qQ X (binaryOp .Mod) (rI (λ _ j=>0<j) λ i j=>.int (i % j)):=WA λ i j _ _ _ _ _ hc q=>by
 have h1:(0:Int)<j:=hc;exact mod_int' (by omega) (by rw [Int.fmod_eq_emod_of_nonneg i (by omega)];exact q)
theorem EN:qQ X (binaryOp .Pow) (rI PC λ i j=>.int (i ^ j.toNat)):=WA λ _ _ _ _ _ _ _ hc q=>pow_int_small hc.1 hc.2.1 hc.2.2 q
theorem EZ:qQ X (binaryOp .BitXor) (gE λ i j=>.int (Builtin.bitXor i j)):=Ue λ _ _ _ _ _ _ _ q=>xor_int q
theorem BI {f:Value->Sem Value}{g:Int->Int}
  (rule:∀(i:Int) (t:Tok) (s:Shared) (Q:Value->Shared->Prop) (E:Value->Shared->Prop),Q (.int (g i) s.toks) { s with toks:=s.toks+1 }->wpAny (model X.prog X.w) X.A (f (.int i t)) Q E s):
  WB X f (rU λ i=>.int (g i)):=by
 intro pins s σ H x v Q I rx h;obtain ⟨i,rfl,q⟩:=h;obtain ⟨t,rfl⟩:=rx;exact rule i t s _ _ ⟨.int (g i),H,I.tok _,⟨_,rfl⟩,q⟩
theorem Du:WB X (unaryOp .USub) (rU λ i=>.int (-i)):=BI λ _ _ _ _ _ q=>neg_int q
end
section
variable {X:Cx}{a b c:Expr}{ta tb tc:TE}{pos:Pos}
theorem Ce:qQ X (compareOp .Lt) (gE λ i j=>.bl (decide (i<j))):=Wn λ _ _ _ _ _ _ _ q=>lt_int q
theorem D3:qQ X (compareOp .LtE) (gE λ i j=>.bl (decide (i<=j))):=Wn λ _ _ _ _ _ _ _ q=>le_int q
theorem CO:qQ X (compareOp .Gt) (gE λ i j=>.bl (decide (j<i))):=Wn λ _ _ _ _ _ _ _ q=>gt_int q
theorem Cm:qQ X (compareOp .GtE) (gE λ i j=>.bl (decide (j<=i))):=Wn λ _ _ _ _ _ _ _ q=>ge_int q
theorem qQ.or {f:Value->Value->Sem Value}{r r':R2}(h:qQ X f r)(h':qQ X f r'):qQ X f (λ x y H Q=>r x y H Q∨r' x y H Q):=by
 intro pins s σ H x y v u Q I rx ry q;rcases q with q | q
 ·exact h pins s σ H x y v u Q I rx ry q
 ·exact h' pins s σ H x y v u Q I rx ry q
theorem HF {op:CmpOp}{r:R2}(ho:qQ X (compareOp op) r)(ha:PE X a ta)(hb:PE X b tb)(hm:behindInMarks op b=false):PE X (.Compare a [op] [b] pos) (YK r ta tb):=by
 intro pins s σ H Q I h;exact wpAny_Compare1 (Ug ha hb I h λ v u s2 x y H2 I2 rx ry q=>ho pins s2 σ H2 x y v u Q I2 rx ry q) hm
noncomputable def Pe (t:TE):TT:=λ σ H Q=>t σ H λ x H'=>∃k,x=.bl k/\Q k H'
theorem Fi {op:CmpOp}{r:R2}(ho:qQ X (compareOp op) r)(ha:PE X a ta)(hb:PE X b tb)(hm:behindInMarks op b=false):PT X (.Compare a [op] [b] pos) (Pe (YK r ta tb)):=by
 intro pins s σ H Q I h;refine wpAny_isTrue_Compare1 (zS (ha pins s σ H _ I h) λ v s1 ⟨x,H1,I1,r1,q1⟩=>zS (hb pins s1 σ H1 _ I1 q1) λ u s2 ⟨y,H2,I2,r2,q2⟩=>
  zS (ho pins s2 σ H2 x y v u _ I2 r1 r2 q2) λ c s3 ⟨z,H3,I3,r3,k,e,q3⟩=>?_) hm
 subst e;cases r3;exact wpAny_truthy_bool ⟨H3,I3,q3⟩
noncomputable def Vy (r r':R2)(ta tb tc:TE):TE:=λ σ H Q=>ta σ H λ x H1=>tb σ H1 λ y H2=>r x y H2 λ z H3=>∃k,z=.bl k/\
 (if k=true then tc σ H3 λ w' H4=>r' y w' H4 Q else Q (.bl false) H3)
theorem Ij {op op':CmpOp}{r r':R2}(ho:qQ X (compareOp op) r)(ho':qQ X (compareOp op') r')(ha:PE X a ta)(hb:PE X b tb)(hc:PE X c tc)
  (hm:lastMarks [op,op'] [b,c]=false:=by with_unfolding_all rfl):PE X (.Compare a [op,op'] [b,c] pos) (Vy r r' ta tb tc):=by
 intro pins s σ H Q I h;refine Compare_chain (zS (ha pins s σ H _ I h) λ v s1 ⟨x,H1,I1,r1,q1⟩=>chain_link (zS (hb pins s1 σ H1 _ I1 q1) λ u s2 ⟨y,H2,I2,r2,q2⟩=>
  zS (ho pins s2 σ H2 x y v u _ I2 r1 r2 q2) λ d s3 ⟨z,H3,I3,r3,k,e,q3⟩=>?_)) hm
 subst e;cases r3;refine wpAny_truthy_bool ?_;cases k with
 | false=>exact ite_ff ⟨.bl false,H3,I3,rfl,q3⟩
 | true=>exact ite_tt (chain_last (zS (hc pins s3 σ H3 _ I3 q3) λ w' s4 ⟨z',H4,I4,r4,q4⟩=>ho' pins s4 σ H4 y z' u w' Q I4 r2 r4 q4))
theorem Hd {op op':CmpOp}{r r':R2}(ho:qQ X (compareOp op) r)(ho':qQ X (compareOp op') r')(ha:PE X a ta)(hb:PE X b tb)(hc:PE X c tc)
  (hm:lastMarks [op,op'] [b,c]=false:=by with_unfolding_all rfl):PT X (.Compare a [op,op'] [b,c] pos) (Pe (Vy r r' ta tb tc)):=by
 intro pins s σ H Q I h;refine isTrue_chain (zS (ha pins s σ H _ I h) λ v s1 ⟨x,H1,I1,r1,q1⟩=>test_link (zS (hb pins s1 σ H1 _ I1 q1) λ u s2 ⟨y,H2,I2,r2,q2⟩=>
  zS (ho pins s2 σ H2 x y v u _ I2 r1 r2 q2) λ d s3 ⟨z,H3,I3,r3,k,e,q3⟩=>?_)) hm
 subst e;cases r3;refine wpAny_truthy_bool ?_;cases k with
 | false=>
  obtain ⟨k',e',q'⟩:=q3;cases e';exact ite_ff ⟨H3,I3,q'⟩
 | true=>
  refine ite_tt (test_last (zS (hc pins s3 σ H3 _ I3 q3) λ w' s4 ⟨z',H4,I4,r4,q4⟩=>zS (ho' pins s4 σ H4 y z' u w' _ I4 r2 r4 q4) λ d' s5 ⟨z2,H5,I5,r5,k2,e2,q5⟩=>?_));subst e2;cases r5;exact wpAny_truthy_bool ⟨H5,I5,q5⟩
theorem Jm:(sizeLine:Nat)<2 ^ 63:=by rw [sizeLine_eq];decide
theorem vals1 {x:V}{us:List Value}(r:Vals [x] us):∃u,us=[u]/\RelV x u:=by
 cases r with
 | cons r1 r2=>cases r2;exact ⟨_,rfl,r1⟩
theorem vals2 {x y:V}{us:List Value}(r:Vals [x,y] us):∃u w',us=[u,w']/\RelV x u/\RelV y w':=by
 cases r with
 | cons r1 r2=>
  cases r2 with
  | cons r3 r4=>cases r4;exact ⟨_,_,rfl,r1,r3⟩
theorem Il:jV X (.builtin "abs") (λ xs H Q=>∃i,xs=[.int i]/\Q (.int (if i<0 then -i else i)) H):=by
 intro pins s σ H xs us Q I r h;obtain ⟨i,rfl,q⟩:=h;obtain ⟨u,rfl,t,rfl⟩:=vals1 r;exact call_abs_int λ u tk=>⟨.int (if i<0 then -i else i),H,I.tok _,⟨_,rfl⟩,q⟩
theorem MB (hc:X.calm=true):jV X (.builtin "max") (λ xs H Q=>∃i j,xs=[.int i,.int j]/\Q (.int (if j > i then j else i)) H):=by
 intro pins s σ H xs us Q I r h;obtain ⟨i,j,rfl,q⟩:=h;obtain ⟨u,w',rfl,⟨t,rfl⟩,⟨t',rfl⟩⟩:=vals2 r;refine max_two_ints (I.ok.hd hc) λ h' tk k=>⟨_,H,I.kept k,?_,q⟩
 by_cases hj:j > i
 ·rw [if_pos hj,if_pos hj];exact ⟨_,rfl⟩
 ·rw [if_neg hj,if_neg hj];exact ⟨_,rfl⟩
theorem Lf (hc:X.calm=true):jV X (.builtin "min") (λ xs H Q=>∃i j,xs=[.int i,.int j]/\Q (.int (if j<i then j else i)) H):=by
 intro pins s σ H xs us Q I r h;obtain ⟨i,j,rfl,q⟩:=h;obtain ⟨u,w',rfl,⟨t,rfl⟩,⟨t',rfl⟩⟩:=vals2 r;refine min_two_ints (I.ok.hd hc) λ h' tk k=>⟨_,H,I.kept k,?_,q⟩
 by_cases hj:j<i
 ·rw [if_pos hj,if_pos hj];exact ⟨_,rfl⟩
 ·rw [if_neg hj,if_neg hj];exact ⟨_,rfl⟩
theorem M7:jV X (.type "int") (λ xs H Q=>(∃i,xs=[.int i]/\Q (.int i) H)∨∃k,xs=[.bl k]/\Q (.int (if k then 1 else 0)) H):=by
 intro pins s σ H xs us Q I r h;rcases h with ⟨i,rfl,q⟩ | ⟨k,rfl,q⟩
 ·obtain ⟨u,rfl,t,rfl⟩:=vals1 r
  exact call_int_int ⟨.int i,H,I,⟨_,rfl⟩,q⟩
 ·obtain ⟨u,rfl,r1⟩:=vals1 r
  cases r1;exact call_int_bool ⟨.int (if k then 1 else 0),H,I.tok _,⟨_,rfl⟩,q⟩
end
structure Uj (h:Heap)(x dx C:Addr)(mA:Str->Option Value):Prop where
 obj:h.get? x=some (PySem.W.instObj C dx)
 ns:h.Ns1 dx mA
 ne:dx≠x
theorem Mo {h:Heap}{dx:Addr}{mA:Str->Option Value}(n:h.Ns1 dx mA):∃od,h.get? dx=some od/\∀name,PySem.W.lookIn name od=some (mA name):=by
 obtain ⟨o,es,ep,ho,hd,hk,_,hm⟩:=n;refine ⟨o,ho,λ name=>?_⟩;have e:=hm name;unfold nsFind findBy at e;rw [<- Array.find?_toList] at e;unfold PySem.W.lookIn;rw [hd];dsimp only
 split
 ·rename_i y q
  rw [q] at e;exact congrArg some e
 ·rename_i q
  rw [q] at e;have a:es.toList.any (·.refKey)=false:=by
   rw [List.any_eq_false];intro y hy;obtain ⟨z,t,hkey⟩:=hk y (Array.mem_toList_iff.mp hy);simp [DictEntry.refKey,hkey]
  have a':¬es.toList.any (·.refKey)=true:=by rw [a];exact Bool.false_ne_true
  rw [if_neg a'];exact congrArg some e
theorem Uj.look {h:Heap}{x dx C:Addr}{mA:Str->Option Value}(I:Uj h x dx C mA):∃od,PySem.W.InstAt h x (PySem.W.instObj C dx) C (some od)/\∀name,PySem.W.lookIn name od=some (mA name):=
 let ⟨od,ho,hl⟩:=Mo I.ns
 ⟨od,⟨I.obj,rfl,rfl,ho⟩,hl⟩
section
variable {prog:Program}{w:World}{A:Around}{E:Value->Shared->Prop}{s:Shared}{K:Frag}{x dx C f:Addr}{mA:Str->Option Value}{name:Str}{v:Value}
end
section
variable {P:Program}{w:World}{H H':Hp}{h h':Heap}{a C dx:Addr}{fs fs':List (Str × V)}
theorem FW (hok:jS P w H h)(e:H a=some (.ins C dx fs)):∃mA,Uj h a dx C mA/\(∀f,Ul (fs.lookup f) (mA f))/\PySem.Within mA (fs.map (·.1))/\fs.length<=1000/\H dx=some (.own a):=by
 obtain ⟨d,z,ne,ob,mA,n,r,q⟩:=(show jj P w H h a (.ins C dx fs) from hok a _ e)
 exact ⟨mA,⟨ob,n,ne⟩,r,q,z,d⟩
end
structure yL (K:Frag)(C:Addr):Prop where
 pg:PySem.W.plainGet K C Str.empty=true
 hd:PySem.W.hasDictIn K C=true
 po:PySem.W.plainOver K C=true
 sa:PySem.W.findIn K (.ref C) "__setattr__" = some (some (.builtin "object.__setattr__"))
theorem yL.get {K:Frag}{C:Addr}(c:yL K C)(f:Str):PySem.W.plainGet K C f=true:=c.pg
section
variable {X:Cx}{pins:List (Addr × Obj)}{σ:St}{H:Hp}{s:Shared}{a C dx:Addr}{fs:List (Str × V)}{f:Str}{v:V}{A:Around}{E:Value->Shared->Prop}
end
section
variable {X:Cx}{o e value:Expr}{f:Str}{pos pos' tpos:Pos}{ta tv:TE}
end
section
variable {X:Cx}{pins:List (Addr × Obj)}{σ:St}{H:Hp}{s:Shared}{A:Around}{E:Value->Shared->Prop}{Q:Value->Shared->Prop}{c:Value}{b:Bool}
inductive wy (K:Frag)(H:Hp):V->Value->Prop where
 | non:wy K H .non (.type "NoneType")
 | bl (x:Bool):wy K H (.bl x) (.type "bool")
 | int (i:Int):wy K H (.int i) (.type "int")
 | str (x:Str):wy K H (.str x) (.type "str")
 | flt (x:UInt64):wy K H (.flt x) (.type "float")
 | lst {a:Addr} {xs:List V} (e:H a=some (.lst xs)):wy K H (.ref a) (.type "list")
 | frz {a:Addr} {o:Obj} {xs:List V} (e:H a=some (.frz o (.lst xs))):wy K H (.ref a) (.type "list")
 | tup {a:Addr} {xs:List V} (e:H a=some (.tup xs)):wy K H (.ref a) (.type "tuple")
 | dK {a:Addr} {kvs:List (Key × V)} (e:H a=some (.dK kvs)):wy K H (.ref a) (.type "dict")
 | dT {a:Addr} {kvs:List (List Key × V)} (e:H a=some (.dT kvs)):wy K H (.ref a) (.type "dict")
 | ins {a C dx:Addr} {fs:List (Str × V)} (e:H a=some (.ins C dx fs)) (cl:yL K C) (ha:PySem.W.findIn K (.ref C) "__class__" = some (some (.builtin "object.__class__")))
   (hn:PySem.W.specialIn K (.builtin "object.__class__") "__get__" = some (some (.builtin "getset_descriptor.__get__"))) (htk:PySem.W.takesIn K (.builtin "object.__class__")=some true)
   (hm:PySem.W.mroIn K C (.type "object")=some true):wy K H (.ref a) (.ref C)
theorem T4 {x:V}{u t:Value}(I:Inv X pins σ H s)(rx:RelV x u)(ty:wy X.K H x t)(e:PySem.W.kitOne X.K t c=some b)(h:∀tk,Q (.bool b) { s with toks:=tk }):
  wpAny (model X.prog X.w) A (call (.builtin "isinstance") [u,c]) Q E s:=by
 cases ty with
 | non=>cases (show u=Value.none from rx);exact PySem.W.kia_one PySem.W.kitx_none I.kIn True.intro e (λ z=>nomatch z) h
 | bl y=>cases (show u=Value.bool y from rx);exact PySem.W.kia_one PySem.W.kitx_bool I.kIn True.intro e (λ z=>nomatch z) h
 | int i=>obtain ⟨t,q⟩:=(show ∃t,u=Value.int i t from rx);cases q;exact PySem.W.kia_one PySem.W.kitx_int I.kIn True.intro e (λ z=>nomatch z) h
 | str y=>obtain ⟨t,q⟩:=(show ∃t,u=Value.str y t from rx);cases q;exact PySem.W.kia_one PySem.W.kitx_str I.kIn True.intro e (λ z=>nomatch z) h
 | flt y=>obtain ⟨t,q⟩:=(show ∃t,u=Value.float y t from rx);cases q;exact PySem.W.kia_one PySem.W.kitx_float I.kIn True.intro e (λ z=>nomatch z) h
 | @lst a xs ea=>
  cases (show u=Value.ref a from rx)
  obtain ⟨_,_,n,_,h1⟩:=(show jj X.prog X.w H s.heap a (.lst xs) from I.hok a _ ea)
  exact PySem.W.kia_one PySem.W.kitx_list I.kIn ⟨_,h1,rfl⟩ e (λ z=>nomatch z) h
 | @frz a ob xs ea=>
  cases (show u=Value.ref a from rx)
  obtain ⟨_,_,_,n,_,h1⟩:=(show jj X.prog X.w H s.heap a (.frz ob (.lst xs)) from I.hok a _ ea)
  exact PySem.W.kia_one PySem.W.kitx_list I.kIn ⟨_,h1,rfl⟩ e (λ z=>nomatch z) h
 | @tup a xs ea=>
  cases (show u=Value.ref a from rx)
  obtain ⟨_,_,_,p⟩:=(show jj X.prog X.w H s.heap a (.tup xs) from I.hok a _ ea)
  obtain ⟨o,h1,h2,_⟩:=p;exact PySem.W.kia_one PySem.W.kitx_tuple I.kIn ⟨o,h1,h2.1⟩ e (λ z=>nomatch z) h
 | @dK a kvs ea=>
  cases (show u=Value.ref a from rx)
  obtain ⟨_,_,vs,_,p⟩:=(show jj X.prog X.w H s.heap a (.dK kvs) from I.hok a _ ea)
  obtain ⟨o,es,ep,h1,h2,_⟩:=p;exact PySem.W.kia_one PySem.W.kitx_dict I.kIn ⟨o,h1,h2.1⟩ e (λ z=>nomatch z) h
 | @dT a kvs ea=>
  cases (show u=Value.ref a from rx)
  obtain ⟨_,_,xs,_,o,es,ep,h1,h2,_⟩:=(show jj X.prog X.w H s.heap a (.dT kvs) from I.hok a _ ea)
  exact PySem.W.kia_one PySem.W.kitx_dict I.kIn ⟨o,h1,h2.1⟩ e (λ z=>nomatch z) h
 | @ins a C dx fs ea cl ha hn htk hm=>
  cases (show u=Value.ref a from rx)
  obtain ⟨mA,O,_⟩:=FW I.hok ea;obtain ⟨od,J,_⟩:=O.look;exact PySem.W.kia_one (PySem.W.kitx_own (cl.get _) cl.hd ha hn htk hm) I.kIn J e (λ z=>nomatch z) h
end
structure ju (k:Nat)(A:Around):Prop where
 hd:A.handled=none
 dp:A.depth+3 * k+5<recursionLimit
 un:A.units+16 * k+200<cLine
theorem ju.mono {j k:Nat}{A:Around}(r:ju k A)(h:j<=k):ju j A:=⟨r.hd,by have:=r.dp;omega,by have:=r.un;omega⟩
theorem ju.deeper {k:Nat}{A:Around}(r:ju (k+1) A)(env:Env):ju k (A.deeper env):=
 ⟨r.hd,by have:=r.dp;show A.depth+1+3 * k+5<_;omega,by have:=r.un;show A.units+3+16 * k+200<_;omega⟩
theorem ju.depth {k:Nat}{A:Around}(r:ju k A):A.depth<recursionLimit:=by have:=r.dp;omega
theorem ju.units {k:Nat}{A:Around}(r:ju k A):A.units+64<cLine:=by have:=r.un;omega
noncomputable def Um:TA:=λ _ H Q=>Q [] H
noncomputable def Wb (ta:TE)(tr:TA):TA:=λ σ H Q=>ta σ H λ x H1=>tr σ H1 λ xs H2=>Q (x::xs) H2
section
variable {X:Cx}{e:Expr}{es:List Expr}{te:TE}{t:TA}{pos:Pos}
theorem j4:PA X [] Um:=λ _ _ _ _ H Q I h=>Calls.spliced_nil ⟨[],H,I,.nil,h⟩
theorem jv (ha:PE X e te)(hr:PA X es t)(hs:starEach (e::es) X.env=(false,eval e X.env)::starEach es X.env:=by rfl):PA X (e::es) (Wb te t):=by
 intro pos pins s σ H Q I h;rw [hs];show wpAny _ _ (spliced ((false,eval e X.env)::backTo pos (starEach es X.env))) _ _ s;refine Calls.spliced_cons (zS (ha pins s σ H _ I h) λ u s1 ⟨x,H1,I1,r1,q1⟩=>?_);exact zS (hr pos pins s1 σ H1 _ I1 q1) λ us s2 ⟨xs,H2,I2,r2,q2⟩=>⟨x::xs,H2,I2,.cons r1 r2,q2⟩
noncomputable def Ba (t:TA):TE:=λ σ H Q=>t σ H λ xs H1=>xs.length<=sizeLine/\∀p,H1 p=none->Q (.ref p) (upd H1 p (.tup xs))
noncomputable def Bd (t:TA):TE:=λ σ H Q=>t σ H λ xs H1=>xs.length<=sizeLine/\∀p,H1 p=none->Q (.ref p) (upd H1 p (.lst xs))
theorem RC {x1}(h:PA X es t):PE X (.Tuple es x1 pos) (Ba t):=by
 intro pins s σ H Q I hq;refine wpAny_Tuple_spliced (zS (h pos pins s σ H _ I hq) λ us s1 ⟨xs,H1,I1,r,z,q⟩=>⟨by rw [<- r.length];exact z,?_⟩)
 have hf:H1 s1.heap.objs.size=none:=I1.hok.fresh (le_refl _);refine ⟨.ref s1.heap.objs.size,upd H1 s1.heap.objs.size (.tup xs),I1.laid (t':=s1.toks) (λ b u e=>Heap.get?_push_of_some _ e) (le_refl _) ?_,rfl,q _ hf⟩;exact ⟨z,us,r,⟨_,Heap.get?_push_size _ rfl,⟨rfl,rfl⟩,_,rfl⟩⟩
theorem DD (h:PA X es t):PE X (.List es pos) (Bd t):=by
 intro pins s σ H Q I hq;refine wpAny_List_spliced (zS (h pos pins s σ H _ I hq) λ us s1 ⟨xs,H1,I1,r,z,q⟩=>⟨by rw [<- r.length];exact z,?_⟩)
 have hf:H1 s1.heap.objs.size=none:=I1.hok.fresh (le_refl _);refine ⟨.ref s1.heap.objs.size,upd H1 s1.heap.objs.size (.lst xs),I1.laid (t':=s1.toks) (λ b u e=>Heap.get?_push_of_some _ e) (le_refl _) ?_,rfl,q _ hf⟩;exact ⟨z,us,0,r,Heap.get?_push_size _ rfl⟩
end
noncomputable abbrev Sp:=List V->Hp->VK->XK->Prop
noncomputable abbrev w6:=List Env->Hp->Shared->XK->Value->Shared->Prop
structure QL (P:Program)(w:World)(K:Frag)(mg:Str->Option Value)(base:Heap)(A:Around)(outer:List Env)(s:Shared)(H:Hp):Prop where
 frames:A.frames=some outer
 mod:Mod K mg base
 bs:∀b o,base.get? b=some o->s.heap.get? b=some o/\H b=none
 bsz:base.objs.size<=s.heap.objs.size
 funs:s.heap.FunFrames base outer
 frf:∀b∈qt outer,H b=none
 hok:jS P w H s.heap
 bare:AllBare s.gens
inductive CE (outer:List Env)(P:Program)(w:World)(H:Hp)(s:Shared)(Q:VK)(u:Value)(s':Shared):Prop
 | mk (v:V) (H':Hp) (os:s'.os=s.os) (b:AllBare s'.gens) (un:Un (qt outer) [] H H' s.heap s'.heap) (hk:jS P w H' s'.heap) (r:RelV v u) (q:Q v H')
noncomputable def CR (CX:w6)(outer:List Env)(P:Program)(w:World)(H:Hp)(s:Shared)(Q:VK)(E:XK)(r:Result)(s':Shared):Prop:=
 match r with
 | .ok (.ret u)=>CE outer P w H s Q u s'
 | .ok _=>False
 | .error e=>CX outer H s E e s'
structure yk (P:Program)(w:World)(K:Frag)(mg:Str->Option Value)(base:Heap)(CX:w6)(k:Nat)(f:Addr)(fd:FuncData)(ps:List Str)(sp:Sp):Prop where
 len:∀vs H Q E,sp vs H Q E->vs.length=ps.length
 run:∀(A:Around) (outer:List Env) (s:Shared) (H:Hp) (args:Args) (us:List Value) (vs:List V) (Q:VK) (E:XK),ju k A->QL P w K mg base A outer s H->BindsTo s fd args (ps.zip us)->Vals vs us->sp vs H Q E->
  codeAny (model P w) A (.call (.ref f) args) (CR CX outer P w H s Q E) s
theorem yk.mono {P:Program}{w:World}{K:Frag}{mg:Str->Option Value}{base:Heap}{CX:w6}{j k:Nat}{f:Addr}{fd:FuncData}{ps:List Str}{sp:Sp}(F:yk P w K mg base CX j f fd ps sp)(h:j<=k):
  yk P w K mg base CX k f fd ps sp:=⟨F.len,λ A outer s H args us vs Q E hr=>F.run A outer s H args us vs Q E (hr.mono h)⟩
theorem yk.imp {P:Program}{w:World}{K:Frag}{mg:Str->Option Value}{base:Heap}{CX:w6}{k:Nat}{f:Addr}{fd:FuncData}{ps:List Str}{sp sp':Sp}(F:yk P w K mg base CX k f fd ps sp)
  (h:∀vs H Q E,sp' vs H Q E->sp vs H Q E):yk P w K mg base CX k f fd ps sp':=
 ⟨λ vs H Q E q=>F.len vs H Q E (h _ _ _ _ q),λ A outer s H args us vs Q E hr he hb hv hs=>F.run A outer s H args us vs Q E hr he hb hv (h _ _ _ _ hs)⟩
section
variable {X:Cx}{pins:List (Addr × Obj)}{σ:St}{H:Hp}{s s':Shared}
theorem Inv.env0 (I:Inv X pins σ H s):QL X.prog X.w X.K X.mg X.base X.A X.stack s H:=
 ⟨I.ok.frames,I.ok.mod,I.bs,le_trans I.ok.bsz I.sz,I.stack,I.stkFree,I.hok,I.bare⟩
theorem Inv.after {Q:VK}{u:Value}(I:Inv X pins σ H s)(h:CE X.stack X.prog X.w H s Q u s'):EP X pins σ Q u s':=by
 obtain ⟨v,H',os,bare,un,hok,r,q⟩:=h;obtain ⟨hh,g,d,t,os'⟩:=s';obtain rfl:os'=s.os:=os;exact ⟨v,H',I.call (h':=hh) (g':=g) (d':=d) (t':=t) (ch:=[]) un hok bare (λ b z=>absurd z (by simp)),r,q⟩
end
noncomputable def CK (sp:Sp)(dvs:List V)(E:XK)(t:TA):TE:=λ σ H Q=>t σ H λ vs H1=>sp (vs++dvs) H1 Q E
noncomputable def Binds (K:Frag)(fd:FuncData)(ps:List Str)(ds:List Value):Prop:=
 ∀(s:Shared) (us:List Value),K.In s.heap->(us++ds).length=ps.length->BindsTo s fd ⟨us,[]⟩ (ps.zip (us++ds))
theorem Binds.all {K:Frag}{fd:FuncData}{ps:List Str}(h:∀us:List Value,us.length=ps.length->bindArgs fd ⟨us,[]⟩=pure (ps.zip us)):Binds K fd ps []:=λ s us _ hl=>by
 rw [append_nil] at hl ⊢;exact .of_eq (h us hl)
noncomputable def Passes (CX:w6)(X:Cx)(E:XK):Prop:=∀(pins:List (Addr × Obj)) (σ:St) (H:Hp) (s:Shared) (e:Value) (s':Shared),Inv X pins σ H s->CX X.stack H s E e s'->X.xe e s'
section
variable {X:Cx}{CX:w6}{k:Nat}{f C:Addr}{fd:FuncData}{ps:List Str}{sp:Sp}{dvs:List V}{ds:List Value}{E:XK}{x m:Str}{p pos apos:Pos}{e o:Expr}{es:List Expr}{ta:TE}{t:TA}
theorem Es {pins:List (Addr × Obj)}{σ:St}{H:Hp}{s:Shared}{Q:VK}{us:List Value}{vs:List V}(F:yk X.prog X.w X.K X.mg X.base CX k f fd ps sp)(hr:ju k X.A)(hb:Binds X.K fd ps ds)(hd:Vals dvs ds)(hx:Passes CX X E)
  (I:Inv X pins σ H s)(r:Vals vs us)(h:sp (vs++dvs) H Q E):wpAny (model X.prog X.w) X.A (call (.ref f) us) (EP X pins σ Q) X.xe s:=by
 have r2:Vals (vs++dvs) (us++ds):=r.append hd;have hl:(us++ds).length=ps.length:=by rw [<- r2.length];exact F.len _ _ _ _ h
 refine wpAny_call (codeAny_mono (F.run X.A X.stack s H ⟨us,[]⟩ (us++ds) (vs++dvs) Q E hr I.env0 (hb s us I.kIn hl) r2 h) λ r s' hq=>?_);cases r with
 | error e=>exact hx pins σ H s e s' I hq
 | ok fl=>
  cases fl with
  | ret u=>exact I.after hq
  | next=>exact False.elim hq
  | brk=>exact False.elim hq
  | cont=>exact False.elim hq
theorem Rv (F:yk X.prog X.w X.K X.mg X.base CX k f fd ps sp)(hr:ju k X.A)(hg:Gl X x)(hm:X.mg x=some (.ref f))(hk:PySem.W.keepIn X.K (.ref f)=true)(hb:Binds X.K fd ps ds)(hd:Vals dvs ds)(hx:Passes CX X E)
  (ha:PA X (e::es) t)(hdb:(x==("__debug__" : Str))=false:=by decide)(he:starEach (e::es) X.env=(false,eval e X.env)::starEach es X.env:=by rfl)(hpl:(backTo pos (starEach es X.env)).any (·.1)=false:=by rfl):
  PE X (.Call (.Name x p) (e::es) [] pos) (CK sp dvs E t):=by
 intro pins s σ H Q I h;refine wpAny_Call_Name_kw (Jj I hg hm ?_ hdb);refine PySem.W.callWith_K (h₀:=X.base) I.ok.mod.kin hk (zS (ha pos pins s σ H _ I h) λ us s1 ⟨vs,H1,I1,r,q⟩=>⟨I1.kIn,?_⟩) he hpl;exact Es F hr hb hd hx I1 r q
end
section
variable {X:Cx}{CX:w6}{k:Nat}{f C:Addr}{fd:FuncData}{ps ks:List Str}{sp:Sp}{E:XK}{x m:Str}{p pos apos kpos:Pos}{e o:Expr}{es:List Expr}{kws:List Keyword}{te ta:TE}{t tk:TA}{nm:Option Str}
variable {g:List Value->List Value->List Value}{gV:List V->List V->List V}
end
structure q9 (N P:List Str)(sc:Scope):Prop where
 kind:sc.kind=.function
 co:sc.isCoroutine=false
 gen:sc.isGenerator=false
 nd:N.Nodup
 pre:N.take P.length=P
 par:∀x∈P,sc.names.lookup x=some .local∨sc.names.lookup x=some .cell
 nofree:∀y∈sc.names,y.2≠.free
theorem Tz {kindOf:Str->Option NameKind}{x:Str}:∀{binds:List (Str × Value)} {m:Str->Option Value},(∀v,(x,v)∉binds)->bindL kindOf binds m x=m x
 | [],_,_=>rfl
 | (n,v)::r,m,h=>by
  unfold bindL;rw [Tz λ w hw=>h w (mem_cons_of_mem _ hw)]
  split
  ·have:x≠n:=by rintro rfl;exact h v mem_cons_self
   simp [this]
  ·rfl
theorem TH {kindOf:Str->Option NameKind}{x:Str}:∀{binds:List (Str × Value)} {m:Str->Option Value},(∀v,(x,v)∉binds)->bindC kindOf binds m x=m x
 | [],_,_=>rfl
 | (n,v)::r,m,h=>by
  unfold bindC;rw [TH λ w hw=>h w (mem_cons_of_mem _ hw)]
  split
  ·rfl
  ·have:x≠n:=by rintro rfl;exact h v mem_cons_self
   simp [this]
theorem T3 {kindOf:Str->Option NameKind}{x:Str}{v:Value}:∀{P:List Str} {vs:List Value} {i:Nat} {m:Str->Option Value},P.Nodup->P[i]? =some x->vs[i]? =some v->kindOf x=some .local->
  bindL kindOf (P.zip vs) m x=some v
 | [],_,_,_,_,h,_,_=>by simp at h
 | _::_,[],_,_,_,_,h,_=>by simp at h
 | p::P,w::vs,0,m,nd,h1,h2,hk=>by
  simp at h1 h2;subst h1;subst h2;show bindL kindOf ((p,w)::P.zip vs) m p=_;unfold bindL;rw [Tz λ v hv=>(List.nodup_cons.mp nd).1 (of_mem_zip hv).1,if_pos hk];simp
 | p::P,w::vs,i+1,m,nd,h1,h2,hk=>by
  show bindL kindOf ((p,w)::P.zip vs) m x=_;unfold bindL;exact T3 (i:=i) (List.nodup_cons.mp nd).2 (by simpa using h1) (by simpa using h2) hk
theorem TK {kindOf:Str->Option NameKind}{x:Str}{v:Value}:∀{P:List Str} {vs:List Value} {i:Nat} {m:Str->Option Value},P.Nodup->P[i]? =some x->vs[i]? =some v->kindOf x≠some .local->
  bindC kindOf (P.zip vs) m x=some v
 | [],_,_,_,_,h,_,_=>by simp at h
 | _::_,[],_,_,_,_,h,_=>by simp at h
 | p::P,w::vs,0,m,nd,h1,h2,hk=>by
  simp at h1 h2;subst h1;subst h2;show bindC kindOf ((p,w)::P.zip vs) m p=_;unfold bindC;rw [TH λ v hv=>(List.nodup_cons.mp nd).1 (of_mem_zip hv).1,if_neg hk];simp
 | p::P,w::vs,i+1,m,nd,h1,h2,hk=>by
  show bindC kindOf ((p,w)::P.zip vs) m x=_;unfold bindC;exact TK (i:=i) (List.nodup_cons.mp nd).2 (by simpa using h1) (by simpa using h2) hk
noncomputable def start (N:List Str)(vs:List V):St:=vs.map some++List.replicate (N.length - vs.length) none
noncomputable def kI (CX:w6)(P:Program)(w:World)(K:Frag)(mg:Str->Option Value)(base:Heap)(N:List Str)(qual:Str)(scope:Scope)(f:Addr)(cd:Value)(A:Around)(outer:List Env)(s:Shared)(H:Hp)(E:XK):Cx where
 prog:=P
 w:=w
 K:=K
 mg:=mg
 base:=base
 A:=A.deeper (envOfC qual scope s.heap.objs.size f cd)
 N:=N
 s0:=s
 H0:=H
 env:=envOfC qual scope s.heap.objs.size f cd
 outer:=outer
 stack:=envOfC qual scope s.heap.objs.size f cd::outer
 ex:=[]
 calm:=true
 fn:=λ _=>true
 pn:=[]
 xe:=λ e s'=>wpAny (model P w) (A.deeper (envOfC qual scope s.heap.objs.size f cd)) (leaving (envOfC qual scope s.heap.objs.size f cd) e) (λ _ s''=>CX outer H s E e s'') (λ e' s''=>CX outer H s E e' s'') s'
theorem Sl {sc:Scope}{n:Nat}{x:Str}(h:sc.names.lookup x=some .cell):∃c,(cellsFrom n sc.names []).lookup x=some c:=by
 have q:=PySem.W.cellsFrom_some sc.names n [] (.inl h);exact Option.isSome_iff_exists.mp q
theorem Mg {CX:w6}{P:Program}{w:World}{K:Frag}{mg:Str->Option Value}{base:Heap}{N ps:List Str}{qual:Str}{scope:Scope}{f:Addr}{cd:Value}{A:Around}{outer:List Env}{s s1:Shared}{H:Hp}{E:XK}{us:List Value}{vs:List V}
  (S:q9 N ps scope)(hd:A.handled=none)(e0:QL P w K mg base A outer s H)(hl:vs.length=ps.length)(r:Vals vs us)
  (x:InCallC s s.heap.objs.size (bindL (envOfC qual scope s.heap.objs.size f cd).kindOf (ps.zip us) λ _=>none) (cellsFrom (s.heap.objs.size+1) scope.names []) (bindC (envOfC qual scope s.heap.objs.size f cd).kindOf (ps.zip us) λ _=>none) s1):
  Inv (kI CX P w K mg base N qual scope f cd A outer s H E) [] (start N vs) H s1:=by
 have hpl:ps.length<=N.length:=by have:=congrArg List.length S.pre;rw [length_take] at this;omega
 obtain ⟨h1,tk,rfl,hk⟩:=x.done;have kN:∀b:Addr,b∉(kI CX P w K mg base N qual scope f cd A outer s H E).ex:=λ b z=>absurd (show b∈([]:List Addr) from z) (by simp)
 refine ⟨⟨e0.mod,S.kind,rfl,rfl,le_refl _,λ y z c h1 h2=>?_,λ y hy=>?_,λ y c _ h=>?_,λ _=>hd,Around.frames_deeper e0.frames,.inr ⟨rfl,rfl⟩,λ b z=>absurd z (kN b),e0.bs,e0.bsz,λ b _ _=>kN b,λ b z=>absurd z (kN b),e0.funs,e0.frf⟩,
  rfl,e0.bare,Un.kept hk,⟨_,x.toInCall.ns,λ i y v h1 h2 h3=>?_⟩,λ y c h=>⟨_,x.cell y c h⟩,e0.hok.fresh (le_refl _),λ y c h=>?_,λ p hp=>absurd (show p∈([]:List (Addr × Obj)) from hp) (by simp),e0.hok.kept hk,?_⟩
 ·exact name_of_addr x.apart (PySem.mem_of_lookup h1) (PySem.mem_of_lookup h2)
 ·have hy:scope.names.lookup y=some .cell∨scope.names.lookup y=some .free:=hy
  rcases hy with hy | hy
  ·exact Sl hy
  ·exact absurd rfl (S.nofree _ (PySem.mem_of_lookup hy))
 ·exact le_of_lt (x.above y c (PySem.mem_of_lookup h))
 ·have hi:i<vs.length:=by
   unfold start at h2
   by_cases hi:i<vs.length
   ·exact hi
   ·rw [getElem?_append_right (by simpa using hi)] at h2
    rw [getElem?_replicate] at h2
    split at h2<;>cases h2
  have ha:vs[i]? =some v:=by
   unfold start at h2;rw [getElem?_append_left (by simpa using hi),getElem?_map] at h2
   cases e:vs[i]? with
   | none=>rw [e] at h2;cases h2
   | some a=>rw [e] at h2;cases h2;rfl
  obtain ⟨u,hu,rv⟩:=r.get ha;have hp:ps[i]? =some y:=by
   rw [<- S.pre,List.getElem?_take_of_lt (by omega)];exact h1
  have ndP:ps.Nodup:=by rw [<- S.pre];exact S.nd.sublist (List.take_sublist _ _)
  refine ⟨u,rv,?_⟩;rcases S.par y (mem_of_getElem? hp) with k | k
  ·exact .inl ⟨k,T3 ndP hp hu k⟩
  ·obtain ⟨c,e⟩:=Sl (n:=s.heap.objs.size+1) k
   refine .inr ⟨.inl k,c,e,?_⟩;have q:=x.cell y c e;rw [TK ndP hp hu (by show scope.names.lookup y≠_;rw [k];decide)] at q
   exact q
 ·exact e0.hok.fresh (le_of_lt (x.above y c (PySem.mem_of_lookup h)))
 ·unfold start
  show _=N.length;rw [length_append,length_map,length_replicate];omega
theorem VM {CX:w6}{P:Program}{w:World}{K:Frag}{mg:Str->Option Value}{base:Heap}{k:Nat}{f:Addr}{name qual:Str}{params:Arguments}{body:List Stmt}{scope:Scope}{dV kV doc pm cdv ct oc:Value}{an od:Option Addr}
  {osl:Array (Option Value)}{N ps:List Str}{sp:Sp}(lk:K.lookup f=some ⟨oc,od,.func (PySem.W.fnOf name qual params body scope dV kV doc pm an cdv ct),osl⟩)(hcd:PySem.W.codeIn K cdv qual=true)(S:q9 N ps scope)
  (len:∀vs H Q E,sp vs H Q E->vs.length=ps.length)
  (hbody:∀(A:Around) (outer:List Env) (s:Shared) (H:Hp) (vs:List V) (Q:VK) (E:XK),ju k (A.deeper (envOfC qual scope s.heap.objs.size f cdv))->sp vs H Q E->
   ∃t,yn (kI CX P w K mg base N qual scope f cdv A outer s H E) body t/\t { nx:=λ _ H'=>Q .non H',rt:=Q } (start N vs) H):
  yk P w K mg base CX (k+1) f (PySem.W.fnOf name qual params body scope dV kV doc pm an cdv ct) ps sp:=by
 refine ⟨len,λ A outer s H args us vs Q E hr e0 hb r hsp=>?_⟩;have hl:=len _ _ _ _ hsp;have KX:K.In s.heap:=e0.mod.kin.keeps λ b o e=>(e0.bs b o e).1;have lim:s.heap.NoLimit:=e0.mod.nolimit.keeps λ b o e=>(e0.bs b o e).1;have hkind:∀y∈ps.zip us,scope.names.lookup y.1=some .local∨(scope.names.lookup y.1=some .cell/\((cellsFrom (s.heap.objs.size+1) scope.names []).lookup y.1).isSome=true):=λ ⟨n,v⟩ hy=>by
  rcases S.par n (of_mem_zip hy).1 with q | q
  ·exact .inl q
  ·exact .inr ⟨q,PySem.W.cellsFrom_some _ _ _ (.inl q)⟩
 refine codeAny_call_function hr.depth (KX _ _ lk) rfl S.co S.gen rfl (PySem.W.codeRec_of KX hcd) (hb _ _ _ _ ?_);refine wpAny_newFunctionEnv_cells S.kind hkind λ env he s1 x=>?_;subst he;refine ⟨lim.keeps x.toInCall.keep,codeAny_func ?_⟩;obtain ⟨t,ht,hq⟩:=hbody A outer s H vs Q E (hr.deeper _) hsp;have I:Inv (kI CX P w K mg base N qual scope f cdv A outer s H E) [] (start N vs) H s1:=Mg S hr.hd e0 hl r x;refine wpAny_mono (ht [] s1 (start N vs) H _ I hq) (λ fl s' hs=>?_) λ e s' hs=>hs;have fin:∀{σ':St} {H':Hp} {v:V} {u:Value},Inv (kI CX P w K mg base N qual scope f cdv A outer s H E) [] σ' H' s'->RelV v u->Q v H'->CE outer P w H s Q u s':=
  λ {σ' H' v u} J rv q=>⟨v,H',J.os,J.bare,J.base,J.hok,rv,q⟩
 cases fl with
 | ret u=>
  obtain ⟨v,σ',H',J,rv,q⟩:=hs;exact fin J rv q
 | next=>
  obtain ⟨σ',H',J,q⟩:=hs;exact fin (v:=V.non) (u:=Value.none) J rfl q
 | brk=>
  obtain ⟨_,_,_,q⟩:=hs;exact False.elim q
 | cont=>
  obtain ⟨_,_,_,q⟩:=hs;exact False.elim q
section
variable {X:Cx}{x:Str}{p pos:Pos}{e:Expr}{es:List Expr}{t:TA}{id T:String}{r:List V->Hp->VK->Prop}
noncomputable def Wy (r:List V->Hp->VK->Prop)(t:TA):TE:=λ σ H Q=>t σ H λ vs H1=>r vs H1 Q
theorem ZN (hc:jV X (.builtin id) r)(hg:Gl X x)(hm:X.mg x=none)(hv:bootBuiltins x=some (.builtin id))(ha:PA X (e::es) t)(hn:x ≠ "__name__" := by decide)(hdb:(x==("__debug__" : Str))=false:=by decide)
  (he:starEach (e::es) X.env=(false,eval e X.env)::starEach es X.env:=by rfl)(hpl:(backTo pos (starEach es X.env)).any (·.1)=false:=by rfl):PE X (.Call (.Name x p) (e::es) [] pos) (Wy r t):=by
 intro pins s σ H Q I h;refine wpAny_Call_Name_kw (ZW I hg hm hv ?_ hn hdb);exact PyProof.Rows.callWith_builtin1 (zS (ha pos pins s σ H _ I h) λ us s1 ⟨vs,H1,I1,r1,q1⟩=>hc pins s1 σ H1 vs us Q I1 r1 q1) he hpl
theorem Q9 (hc:jV X (.type T) r)(hg:Gl X x)(hm:X.mg x=none)(hv:bootBuiltins x=some (.type T))(ha:PA X (e::es) t)(hn:x ≠ "__name__" := by decide)(hdb:(x==("__debug__" : Str))=false:=by decide)
  (he:starEach (e::es) X.env=(false,eval e X.env)::starEach es X.env:=by rfl)(hpl:(backTo pos (starEach es X.env)).any (·.1)=false:=by rfl):PE X (.Call (.Name x p) (e::es) [] pos) (Wy r t):=by
 intro pins s σ H Q I h;refine wpAny_Call_Name_kw (ZW I hg hm hv ?_ hn hdb);exact PyProof.Rows.callWith_type1 (zS (ha pos pins s σ H _ I h) λ us s1 ⟨vs,H1,I1,r1,q1⟩=>hc pins s1 σ H1 vs us Q I1 r1 q1) he hpl
end
end L2
namespace HT
open PySem PyProof.Rows
section
open PySem.SeqAt
open PySem.AutoSeq1 (wpAny_loadPart')
open PySem.MeetsSeq PySem.MeetsSeq2 PySem.MeetsSeq3
end
section
variable {prog:Program}{w:World}{A:Around}{E:Value->Shared->Prop}{s:Shared}
theorem Hs {t b:Addr}{vs ws:List Value}{Q:Value->Shared->Prop}(ht:IsTup s.heap t vs.toArray)(hb:IsTup s.heap b ws.toArray)(hv:vs≠[])
  (h1:ws=[]->Q (.ref t) s)(h2:ws≠[]->Q (.ref s.heap.objs.size) { s with heap:=s.heap.push { cls:=.type "tuple",data:=.seq (vs++ws).toArray } })
  (hsz:vs.length+ws.length<=sizeLine):wpAny (model prog w) A (binaryOp .Add (.ref t) (.ref b)) Q E s:=by
 obtain ⟨⟨cls,dd,data,sl⟩,ho,hc,n,hd⟩:=id ht;obtain ⟨⟨cls2,dd2,data2,sl2⟩,ho2,hc2,n2,hd2⟩:=id hb;simp only at hc hd hc2 hd2;subst hc hd hc2 hd2;have e:vs.toArray++ws.toArray=(vs++ws).toArray:=by simp
 by_cases hw:ws=[]
 ·exact concat_meets ⟨_,ho,rfl⟩ ⟨_,ho2,rfl⟩ noFill_tuple_add seq_tuple_add PySem.F.slot_tuple_add PySem.F.entry_tuple_add (PySem.F.args_tuple_add_2 _ _)
   (tuple_addW1 t b vs.toArray ws.toArray n n2 dd dd2 sl sl2 (by simpa using hv) (by simp [hw])) ⟨ho,ho2,h1 hw⟩
 ·refine concat_meets ⟨_,ho,rfl⟩ ⟨_,ho2,rfl⟩ noFill_tuple_add seq_tuple_add PySem.F.slot_tuple_add PySem.F.entry_tuple_add (PySem.F.args_tuple_add_2 _ _)
   (tuple_addW2 t b vs.toArray ws.toArray n n2 dd dd2 sl sl2 (by simpa using hv) (by simpa using hw) (by rw [size_toArray,size_toArray];exact hsz)) ⟨ho,ho2,?_⟩
  rw [e];exact h2 hw
end
end HT
namespace L2
open PySem PySem.Spec PyProof.Rows
section
variable {X:Cx}{e:Expr}{te:TE}{lo hi:Option Expr}{tl th:TO}{pos p2:Pos}
noncomputable def Pj (K:Frag):R2:=λ x y H Q=>∃a b xs ys,x=.ref a/\y=.ref b/\qG K H a xs/\qG K H b ys/\xs≠[]/\xs.length+ys.length<=sizeLine/\
 (ys=[]->Q (.ref a) H)/\(ys≠[]->∀p,H p=none->Q (.ref p) (upd H p (.tup (xs++ys))))
theorem Vals.nil_iff {xs:List V}{us:List Value}(r:Vals xs us):us=[]↔xs=[]:=by
 cases r with
 | nil=>simp
 | cons _ _=>simp
theorem Fe:qQ X (binaryOp .Add) (Pj X.K):=by
 intro pins s σ H x y v u Q I rx ry h;obtain ⟨a,b,xs,ys,rfl,rfl,ha,hb,hx,hz,q1,q2⟩:=h;cases rx;cases ry;obtain ⟨its,r1,p1,_⟩:=I.tuple ha;obtain ⟨its2,r2,p2,_⟩:=I.tuple hb;refine HT.Hs p1 p2 (λ z=>hx (r1.nil_iff.mp z)) (λ z=>⟨.ref a,H,I,rfl,q1 (r2.nil_iff.mp z)⟩) (λ z=>?_) (by rw [<- r1.length,<- r2.length];exact hz)
 refine ⟨.ref s.heap.objs.size,_,I.laid (t':=s.toks) (o:=.tup (xs++ys)) (λ b ob q=>Heap.get?_push_of_some _ q) (le_refl _) ?_,rfl,q2 (λ w=>z (r2.nil_iff.mpr w)) _ (I.hok.fresh (le_refl _))⟩;exact ⟨by rw [length_append];exact hz,_,r1.append r2,Qr.new _ _⟩
end
noncomputable def w8 (n:Nat)(i:Int):Option Nat:=if 0<=i then (if i<n then some i.toNat else none) else if -(n:Int)<=i then some (i+n).toNat else none
noncomputable def wb {α:Type}(xs:List α)(i:Int):Option α:=(w8 xs.length i).bind λ j=>xs[j]?
theorem Rc {n:Nat}{i:Int}{j:Nat}(h:w8 n i=some j):seqIndex? i n=some j/\j<n/\-(n:Int)<=i/\i<n:=by
 unfold w8 at h
 by_cases h0:0<=i
 ·rw [if_pos h0] at h
  by_cases h1:i<n
  ·rw [if_pos h1] at h
   have e:i.toNat=j:=Option.some.inj h;exact ⟨by rw [seqIndex_of h0 h1,e],by omega,by omega,h1⟩
  ·rw [if_neg h1] at h;cases h
 ·rw [if_neg h0] at h
  by_cases h1:-(n:Int)<=i
  ·rw [if_pos h1] at h
   have e:(i+n).toNat=j:=Option.some.inj h;exact ⟨by rw [seqIndex_neg (by omega) h1,e],by omega,h1,by omega⟩
  ·rw [if_neg h1] at h;cases h
theorem X5 {α:Type}{xs:List α}{i:Int}{v:α}(h:wb xs i=some v):∃j,seqIndex? i xs.length=some j/\xs[j]? =some v/\j<xs.length/\-(xs.length:Int)<=i/\i<xs.length:=by
 unfold wb at h;cases e:w8 xs.length i with
 | none=>rw [e] at h;cases h
 | some j=>
  rw [e] at h;obtain ⟨h1,h2,h3,h4⟩:=Rc e;exact ⟨j,h1,h,h2,h3,h4⟩
theorem KP {α:Type}{xs:List α}{j:Nat}{v:α}(h:xs[j]? =some v):wb xs (j:Int)=some v:=by
 have hj:j<xs.length:=(List.getElem?_eq_some_iff.mp h).1;have e:w8 xs.length (j:Int)=some j:=by
  unfold w8;rw [if_pos (by omega),if_pos (by omega)];simp
 unfold wb;rw [e];exact h
noncomputable def S7 (b:Expr):Prop:=∀o i,subscripted b false o i=operate [o,i] (getItem o i)
noncomputable def ZD (X:Cx)(r:R2):Prop:=
 ∀(value slice:Expr) (pins:List (Addr × Obj)) (s:Shared) (σ:St) (H:Hp) (x y:V) (v u:Value) (Q:VK),Inv X pins σ H s->RelV x v->RelV y u->r x y H Q->
  subscripted slice false v u=operate [v,u] (getItem v u)->wpAny (model X.prog X.w) X.A (subscriptTail value slice v u) (EP X pins σ Q) X.xe s
noncomputable def Oa (X:Cx)(id:String)(r:V->List V->Hp->VK->Prop):Prop:=
 ∀(pins:List (Addr × Obj)) (s:Shared) (σ:St) (H:Hp) (x:V) (xs:List V) (v:Value) (us:List Value) (Q:VK),Inv X pins σ H s->RelV x v->Vals xs us->r x xs H Q->
  wpAny (model X.prog X.w) X.A (call (.builtin id) (v::us)) (EP X pins σ Q) X.xe s
section
variable {X:Cx}{a b:Expr}{ta tb:TE}{pos:Pos}
theorem ZD.or {r r':R2}(h:ZD X r)(h':ZD X r'):ZD X (λ x y H Q=>r x y H Q∨r' x y H Q):=by
 intro value slice pins s σ H x y v u Q I rx ry q hs;rcases q with q | q
 ·exact h value slice pins s σ H x y v u Q I rx ry q hs
 ·exact h' value slice pins s σ H x y v u Q I rx ry q hs
theorem D1 {r:R2}(hr:ZD X r)(ha:PE X a ta)(hb:PE X b tb)(hs:S7 b):PE X (.Subscript a b pos) (YK r ta tb):=by
 intro pins s σ H Q I h;exact Subscript_ (Ug ha hb I h λ v u s2 x y H2 I2 rx ry q=>hr a b pins s2 σ H2 x y v u Q I2 rx ry q (hs _ _))
noncomputable def PJ (K:Frag):R2:=λ x y H Q=>∃p xs i v,x=.ref p/\y=.int i/\je K H p xs/\wb xs i=some v/\Q v H
noncomputable def PK (K:Frag):R2:=λ x y H Q=>∃p xs i v,x=.ref p/\y=.int i/\qG K H p xs/\wb xs i=some v/\Q v H
noncomputable def PQ:R2:=λ x y H Q=>∃z i c,x=.str z/\y=.int i/\z.length<=sizeLine/\wb z.cps.toList i=some c/\Q (.str ⟨#[c]⟩) H
theorem Hv:ZD X (PJ X.K):=by
 intro value slice pins s σ H x y v u Q I rx ry h hs;obtain ⟨p,xs,i,z,rfl,rfl,hq,he,q⟩:=h;cases rx;obtain ⟨t,rfl⟩:=ry;obtain ⟨its,r,pl,hz⟩:=I.list hq;obtain ⟨j,h1,h2,h3,h4,h5⟩:=X5 he;obtain ⟨w,ew,rw'⟩:=r.get h2;have hl:=r.length;have hn:=Jm;have fin:EP X pins σ Q w s:=⟨z,H,I,rw',q⟩
 by_cases h0:0<=i
 ·have hj:i.toNat=j:=by
   rw [seqIndex_of h0 h5] at h1;exact Option.some.inj h1
  exact item_listR pl.isList h0 (by omega) (by rw [hj];simpa using ew) fin hs
 ·have hj:(i+(its.toArray.size:Int)).toNat=j:=by
   rw [seqIndex_neg (by omega) h4] at h1
   rw [size_toArray,<- hl];exact Option.some.inj h1
  exact subscriptTail_builtinR (x:=w) pl.isList.typeIs slot_list_getitem.lookup
   (wpAny_getItem_list_neg (Q:=λ r s'=>r=w/\EP X pins σ Q r s') pl.isList (by omega) (by rw [size_toArray]<;>omega) (by omega) (by rw [hj];simpa using ew) ⟨rfl,fin⟩) hs
theorem F5:ZD X (PK X.K):=by
 intro value slice pins s σ H x y v u Q I rx ry h hs;obtain ⟨p,xs,i,z,rfl,rfl,hq,he,q⟩:=h;cases rx;obtain ⟨t,rfl⟩:=ry;obtain ⟨its,r,pl,hz⟩:=I.tuple hq;obtain ⟨j,h1,h2,h3,h4,h5⟩:=X5 he;obtain ⟨w,ew,rw'⟩:=r.get h2;have hl:=r.length;have hn:=Jm;have fin:EP X pins σ Q w s:=⟨z,H,I,rw',q⟩;exact subscriptTail_builtinR (x:=w) pl.typeIs slot_tuple_getitem.lookup
  (getItem_tuple (j:=j) (Q:=λ r s'=>r=w/\EP X pins σ Q r s') pl (by omega) (by omega) (by rw [size_toArray,<- hl];exact h1) (by simpa using ew) ⟨rfl,fin⟩) hs
theorem DF:ZD X PQ:=by
 intro value slice pins s σ H x y v u Q I rx ry h hs;obtain ⟨z,i,c,rfl,rfl,hz,he,q⟩:=h;obtain ⟨t,rfl⟩:=rx;obtain ⟨t',rfl⟩:=ry;obtain ⟨j,h1,h2,h3,h4,h5⟩:=X5 he;have hl:z.cps.toList.length=z.length:=by simp [Str.length]
 rw [hl] at h1 h4 h5;have hn:=Jm;exact tail_any (typeIs_str s z t) slot_str_getitem.lookup (getItem_str (c:=c) (by
  have e1:decide (i < -(2 ^ 63:Int))=false:=decide_eq_false (by omega)
  have e2:decide (i ≥ 2 ^ 63)=false:=decide_eq_false (by omega)
  rw [e1,e2,Bool.or_false]) (by rw [h1];simpa using h2) ⟨.str ⟨#[c]⟩,H,I.tok _,⟨_,rfl⟩,q⟩) hs
noncomputable def P7 (K:Frag):R2:=λ x y H Q=>PJ K x y H Q∨PK K x y H Q∨PQ x y H Q
theorem Dz:ZD X (P7 X.K):=Hv.or (F5.or DF)
theorem Me (its:List Value)(n j:Nat)(u:Value):Obj.mapSeq (·.setIfInBounds j u) { cls:=.type "list",data:=.seq its.toArray n }={ cls:=.type "list",data:=.seq (its.set j u).toArray n }:=by
 simp [Obj.mapSeq]
theorem Inv.lst {pins:List (Addr × Obj)}{σ:St}{H:Hp}{s:Shared}{p:Addr}{xs:List V}(I:Inv X pins σ H s)(h:H p=some (.lst xs)):
  ∃(its:List Value) (n:Nat),Vals xs its/\s.heap.get? p=some { cls:=.type "list",data:=.seq its.toArray n }/\xs.length<=sizeLine:=by
 obtain ⟨z,its,n,r,e⟩:=I.hok p _ h;exact ⟨its,n,r,e,z⟩
theorem Inv.lstUpd {pins:List (Addr × Obj)}{σ:St}{H:Hp}{s:Shared}{p:Addr}{xs ys:List V}{its its':List Value}{n n':Nat}{f:Obj->Obj}(I:Inv X pins σ H s)(h:H p=some (.lst xs))
  (ho:s.heap.get? p=some { cls:=.type "list",data:=.seq its.toArray n })(hf:f { cls:=.type "list",data:=.seq its.toArray n }={ cls:=.type "list",data:=.seq its'.toArray n' })(r:Vals ys its')(hz:ys.length<=sizeLine)(t:Nat):
  Inv X pins σ (upd H p (.lst ys)) { s with heap:=s.heap.update p f,toks:=t }:=by
 have e:(s.heap.update p f).get? p=some { cls:=.type "list",data:=.seq its'.toArray n' }:=by
  rw [Heap.get?_update_self f ho (by rw [hf]<;>rfl),hf]
 refine I.write (x:=p) (e:=p) (by rw [h];trivial) (.inl rfl) (λ b u hb q=>(Heap.get?_update_other _ _ (Ne.symm hb)).trans q) ⟨_,e⟩ ?_
 exact ⟨hz,its',n',r,e⟩
noncomputable def Pl:V->V->V->Hp->(Hp->Prop)->Prop:=λ o i v H Q=>∃p xs k j,o=.ref p/\i=.int k/\H p=some (.lst xs)/\w8 xs.length k=some j/\Q (upd H p (.lst (xs.set j v)))
theorem set_list:Wm X Pl:=by
 intro pins s σ H o i v ov iv u Q I ro ri rv h;obtain ⟨p,xs,k,j,rfl,rfl,hp,hj,q⟩:=h;cases ro;obtain ⟨t,rfl⟩:=ri;obtain ⟨its,n,r,ho,hz⟩:=I.lst hp;obtain ⟨h1,h2,h3,h4⟩:=Rc hj;have hl:=r.length;have hn:=Jm;have I':Inv X pins σ (upd H p (.lst (xs.set j v))) { s with heap:=s.heap.update p (Obj.mapSeq (·.setIfInBounds j u)) }:=
  I.lstUpd hp ho (Me its n j u) (r.set rv j) (by rw [length_set];exact hz) s.toks
 by_cases h0:0<=k
 ·have hk:k.toNat=j:=by
   rw [seqIndex_of h0 h4] at h1;exact Option.some.inj h1
  exact PySem.W.ki_setAt ho h0 (by omega) (by rw [size_toArray,<- hl];exact h4) (by rw [hk];exact ⟨_,I',q⟩)
 ·have hk:(k+(its.toArray.size:Int)).toNat=j:=by
   rw [seqIndex_neg (by omega) h3] at h1
   rw [size_toArray,<- hl];exact Option.some.inj h1
  exact PySem.W.ki_setBack ho (by omega) (by rw [size_toArray,<- hl];exact h3) (by omega) (by rw [hk];exact ⟨_,I',q⟩)
noncomputable def gU:V->Bool
 | .non=>true
 | .bl _=>true
 | .int _=>true
 | .str _=>true
 | _=>false
noncomputable def ZA:V->V->Bool
 | .non,.non=>true
 | .bl a,.bl b=>a==b
 | .bl a,.int b=>(if a then 1 else 0)==b
 | .int a,.bl b=>a==(if b then 1 else 0)
 | .int a,.int b=>a==b
 | .str a,.str b=>a==b
 | _,_=>false
theorem Dt {A:Around}{s:Shared}{y x:V}{u v:Value}(ry:RelV y u)(rx:RelV x v)(fy:gU y=true)(fx:gU x=true):SeqAt.EqAt A s u v (ZA y x):=by
 cases y with
 | non=>
  cases ry;cases x with
  | non=>cases rx;exact SeqAt.EqAt.same _
  | bl b=>cases rx;exact SeqAt.EqAt.none_bool b
  | int b=>obtain ⟨t,rfl⟩:=rx;exact SeqAt.EqAt.none_int b t
  | str b=>obtain ⟨t,rfl⟩:=rx;exact SeqAt.EqAt.none_str b t
  | _=>exact absurd (show false=true from fx) Bool.false_ne_true
 | bl a=>
  cases ry;cases x with
  | non=>cases rx;exact SeqAt.EqAt.bool_none a
  | bl b=>cases rx;exact SeqAt.EqAt.bool_bool a b
  | int b=>obtain ⟨t,rfl⟩:=rx;exact SeqAt.EqAt.bool_int a b t
  | str b=>obtain ⟨t,rfl⟩:=rx;exact SeqAt.EqAt.bool_str a b t
  | _=>exact absurd (show false=true from fx) Bool.false_ne_true
 | int a=>
  obtain ⟨t',rfl⟩:=ry;cases x with
  | non=>cases rx;exact SeqAt.EqAt.int_none a t'
  | bl b=>cases rx;exact SeqAt.EqAt.int_bool a t' b
  | int b=>obtain ⟨t,rfl⟩:=rx;exact SeqAt.EqAt.int_int a t' b t
  | str b=>obtain ⟨t,rfl⟩:=rx;exact SeqAt.EqAt.int_str a t' b t
  | _=>exact absurd (show false=true from fx) Bool.false_ne_true
 | str a=>
  obtain ⟨t',rfl⟩:=ry;cases x with
  | non=>cases rx;exact SeqAt.EqAt.str_none a t'
  | bl b=>cases rx;exact SeqAt.EqAt.str_bool a t' b
  | int b=>obtain ⟨t,rfl⟩:=rx;exact SeqAt.EqAt.str_int a t' b t
  | str b=>obtain ⟨t,rfl⟩:=rx;exact SeqAt.EqAt.str_str a t' b t
  | _=>exact absurd (show false=true from fx) Bool.false_ne_true
 | _=>exact absurd (show false=true from fy) Bool.false_ne_true
noncomputable def ZC (x:V)(u:Value):Bool:=match u with
 | .none=>ZA .non x
 | .bool b=>ZA (.bl b) x
 | .int i _=>ZA (.int i) x
 | .str z _=>ZA (.str z) x
 | _=>false
theorem RU {x y:V}{u:Value}(r:RelV y u)(f:gU y=true):ZC x u=ZA y x:=by
 cases y with
 | non=>cases r;rfl
 | bl b=>cases r;rfl
 | int i=>obtain ⟨t,rfl⟩:=r;rfl
 | str z=>obtain ⟨t,rfl⟩:=r;rfl
 | _=>exact absurd (show false=true from f) Bool.false_ne_true
theorem Vf {x:V}:∀{xs:List V} {us:List Value},Vals xs us->xs.all gU=true->us.any (ZC x)=xs.any λ y=>ZA y x
 | _,_,.nil,_=>rfl
 | y::xs,u::us,.cons r t,f=>by
  rw [List.all_cons,and_eq_true] at f;rw [any_cons,any_cons,RU r f.1,Vf t f.2]
theorem XX {A:Around}{s:Shared}{x:V}{v:Value}(rx:RelV x v)(fx:gU x=true):∀{xs:List V} {us:List Value},Vals xs us->xs.all gU=true->∀u∈us,SeqAt.EqAt A s u v (ZC x u)
 | _,_,.nil,_=>λ u hu=>by cases hu
 | y::xs,u::us,.cons r t,f=>λ u' hu=>by
  rw [List.all_cons,and_eq_true] at f;rcases List.mem_cons.mp hu with rfl | hu
  ·rw [RU r f.1];exact Dt r rx f.1 fx
  ·exact XX rx fx t f.2 u' hu
noncomputable def WN (x:V)(xs:List V):Bool:=xs.any λ y=>ZA y x
noncomputable def PY (K:Frag)(neg:Bool):R2:=λ x y H Q=>∃p xs,y=.ref p/\(je K H p xs∨qG K H p xs)/\gU x=true/\xs.all gU=true/\Q (.bl (if neg then !WN x xs else WN x xs)) H
theorem Ml:qQ X (compareOp .In) (PY X.K false):=by
 intro pins s σ H x y v u Q I rx ry h;obtain ⟨p,xs,rfl,hq,fx,fs,q⟩:=h;cases ry;rcases hq with hq | hq
 ·obtain ⟨its,r,pl,hz⟩:=I.list hq
  refine SeqAt.in_listAt (ZC x) pl.isList (λ w hw=>XX rx fx r fs w (by simpa using hw)) ⟨.bl _,H,I,rfl,?_⟩
  rw [show its.toArray.any (ZC x)=its.any (ZC x) by simp,Vf r fs]
  exact q
 ·obtain ⟨its,r,pl,hz⟩:=I.tuple hq
  refine SeqAt.in_tupleAt (ZC x) pl (λ w hw=>XX rx fx r fs w (by simpa using hw)) ⟨.bl _,H,I,rfl,?_⟩
  rw [show its.toArray.any (ZC x)=its.any (ZC x) by simp,Vf r fs]
  exact q
theorem Ng:jV X (.builtin "len") (λ xs H Q=>∃p ys,xs=[.ref p]/\(je X.K H p ys∨qG X.K H p ys)/\Q (.int ys.length) H):=by
 intro pins s σ H xs us Q I r h;obtain ⟨p,ys,rfl,hq,q⟩:=h;obtain ⟨u,rfl,rx⟩:=vals1 r;cases rx;have hn:=Jm;rcases hq with hq | hq
 ·obtain ⟨its,r',pl,hz⟩:=I.list hq
  have hlen:=r'.length;exact Calls.call_len_list pl.isList (by simp only [size_toArray]<;>omega) ⟨.int ys.length,H,I.tok _,⟨s.toks+1,by rw [size_toArray,hlen]⟩,q⟩
 ·obtain ⟨its,r',pl,hz⟩:=I.tuple hq
  have hlen:=r'.length;exact len_tuple pl (by simp only [size_toArray]<;>omega) ⟨.int ys.length,H,I.tok _,⟨s.toks+1,by rw [size_toArray,hlen]⟩,q⟩
theorem Nq:jV X (.type "list") (λ xs H Q=>∃p ys,xs=[.ref p]/\(je X.K H p ys∨qG X.K H p ys)/\∀l,H l=none->Q (.ref l) (upd H l (.lst ys))):=by
 intro pins s σ H xs us Q I r h;obtain ⟨p,ys,rfl,hq,q⟩:=h;obtain ⟨u,rfl,rx⟩:=vals1 r;cases rx;have fin:∀(its:List Value),Vals ys its->ys.length<=sizeLine->∀(h':Heap) (c':Nat),(∀b o',s.heap.get? b=some o'->h'.get? b=some o')->
   h'.get? s.heap.objs.size=some { cls:=.type "list",dict:=none,data:=.seq its.toArray c',slots:=#[] }->EP X pins σ Q (.ref s.heap.objs.size) { s with heap:=h' }:=λ its r' hz h' c' kp e=>
  ⟨.ref s.heap.objs.size,_,I.laid (t':=s.toks) kp (le_refl _) (show jj X.prog X.w _ h' _ (.lst ys) from ⟨hz,its,c',r',e⟩),rfl,q _ (I.hok.fresh (le_refl _))⟩
 rcases hq with hq | hq
 ·obtain ⟨its,r',pl,hz⟩:=I.list hq
  have hlen:=r'.length;obtain ⟨o,ho,hc,n,hd⟩:=pl.isList;exact call_list_seq p (.inl rfl) ho hc hd (λ h' c' kp e=>fin its r' hz h' c' kp e) (by simp only [size_toArray]<;>omega)
 ·obtain ⟨its,r',pl,hz⟩:=I.tuple hq
  have hlen:=r'.length;obtain ⟨o,ho,hc,n,hd⟩:=pl;exact call_list_seq p (.inr rfl) ho hc hd (λ h' c' kp e=>fin its r' hz h' c' kp e) (by simp only [size_toArray]<;>omega)
theorem O3:jV X (.type "tuple") (λ xs H Q=>∃p ys,xs=[.ref p]/\((je X.K H p ys/\∀l,H l=none->Q (.ref l) (upd H l (.tup ys)))∨(qG X.K H p ys/\Q (.ref p) H))):=by
 intro pins s σ H xs us Q I r h;obtain ⟨p,ys,rfl,h⟩:=h;obtain ⟨u,rfl,rx⟩:=vals1 r;cases rx;rcases h with ⟨hq,q⟩ | ⟨hq,q⟩
 ·obtain ⟨its,r',pl,hz⟩:=I.list hq
  have hlen:=r'.length;refine call_tuple_list pl.isList (λ h' kp=>?_) (by simp only [size_toArray]<;>omega)
  have I1:Inv X pins σ H { s with heap:=h' }:=I.kept (t':=s.toks) kp
  have I2:Inv X pins σ (upd H h'.objs.size (.tup ys)) { s with heap:=h'.push { cls:=.type "tuple",data:=.seq its.toArray } }:=
   I1.laid (t':=s.toks) (λ b o e=>Heap.get?_push_of_some _ e) (le_refl _) (show jj X.prog X.w _ _ _ (.tup ys) from ⟨hz,its,r',Qr.new _ _⟩)
  exact ⟨.ref h'.objs.size,_,I2,rfl,q _ (I1.hok.fresh (le_refl _))⟩
 ·obtain ⟨its,r',pl,hz⟩:=I.tuple hq
  exact call_tuple_same pl ⟨.ref p,H,I,rfl,q⟩
noncomputable def UB (K:Frag)(T:String)(x:V)(H:Hp):Prop:=match x with
 | .str _=>T = "str"
 | .int _=>T = "int"
 | .ref p=>(T = "list" /\ ∃xs,je K H p xs)∨(T = "tuple" /\ ∃o,K.lookup p=some o/\o.cls=.type "tuple" /\ o.dict=none)∨
   (T = "dict" /\ ((∃kvs,H p=some (.dK kvs))∨∃kvs,H p=some (.dT kvs)))∨(T = "set" /\ ∃S n,H p=some (.set S n))
 | _=>False
theorem Ds {pins:List (Addr × Obj)}{σ:St}{H:Hp}{s:Shared}{T:String}{x:V}{v:Value}(I:Inv X pins σ H s)(r:RelV x v)(ty:UB X.K T x H):
  s.TypeIs v T/\∀a,v=.ref a->∃ob,s.heap.get? a=some ob/\ob.dict=none:=by
 cases x with
 | str z=>
  obtain ⟨t,rfl⟩:=r;cases (show T = "str" from ty)
  exact ⟨typeIs_str s z t,λ _ e=>nomatch e⟩
 | int i=>
  obtain ⟨t,rfl⟩:=r;cases (show T = "int" from ty)
  exact ⟨typeIs_int s i t,λ _ e=>nomatch e⟩
 | ref p=>
  cases r;rcases ty with ⟨rfl,xs,hq⟩ | ⟨rfl,o,hk,hc,hd⟩ | ⟨rfl,hk⟩ | ⟨rfl,S,n,hk⟩
  ·obtain ⟨its,_,pl,_⟩:=I.list hq
   refine ⟨pl.isList.typeIs,λ a e=>?_⟩;cases e;obtain ⟨o,n,e,c,hd,_⟩:=pl;exact ⟨o,e,hd⟩
  ·refine ⟨⟨o,I.kIn p o hk,hc⟩,λ a e=>?_⟩
   cases e;exact ⟨o,I.kIn _ o hk,hd⟩
  ·have z:∃o,s.heap.get? p=some o/\o.ExactDict:=by
    rcases hk with ⟨kvs,hk⟩ | ⟨kvs,hk⟩
    ·obtain ⟨_,_,_,_,o,_,_,e,ex,_⟩:=I.hok p _ hk
     exact ⟨o,e,ex⟩
    ·obtain ⟨_,_,_,_,o,_,_,e,ex,_⟩:=I.hok p _ hk
     exact ⟨o,e,ex⟩
   obtain ⟨o,e,ex⟩:=z;refine ⟨⟨o,e,ex.1⟩,λ a e2=>?_⟩;cases e2;exact ⟨o,e,ex.2.1⟩
  ·obtain ⟨o,_,_,_,e,ex,_⟩:=I.hok p _ hk
   refine ⟨⟨o,e,ex.1⟩,λ a e2=>?_⟩;cases e2;exact ⟨o,e,ex.2.1⟩
 | _=>exact False.elim ty
noncomputable def BA (K:Frag)(T:String)(r:V->List V->Hp->VK->Prop)(to:TE)(t:TA):TE:=λ σ H Q=>to σ H λ x H1=>UB K T x H1/\t σ H1 λ xs H2=>r x xs H2 Q
variable {o e:Expr}{es:List Expr}{to:TE}{t:TA}{name:Str}{apos cpos:Pos}{T id:String}{r:V->List V->Hp->VK->Prop}
theorem DV (pa:PlainAttrs T)(slot:Slot T name id)(hty:typeOf (.builtin id)=pure (.type "method_descriptor"))(hm:Oa X id r)(ho:PE X o to)(ha:PA X (e::es) t)
  (hbase:attributeBase o name X.env (eval o X.env)=eval o X.env:=by rfl)
  (hfew:((backTo cpos (starEach (e::es) X.env)).all (λ x=>!x.1)&&(backToKw cpos (keywordEach [] X.env)).all (λ x=>x.1.isSome)
   && decide ((e::es).length+([]:List Keyword).length+(if ([]:List Keyword).isEmpty then 0 else 1)<30))=true:=by rfl)
  (hline:(apos.endLine==cpos.line)=true:=by rfl)(hs:starEach (e::es) X.env=(false,eval e X.env)::starEach es X.env:=by rfl)(hplain:(backTo cpos (starEach es X.env)).any (·.1)=false:=by rfl):
  PE X (.Call (.Attribute o name apos) (e::es) [] cpos) (BA X.K T r to t):=by
 intro pins s σ H Q I h;refine wpAny_Call_method_late hbase hfew hline rfl (zS (ho pins s σ H _ I h) λ v s1 ⟨x,H1,I1,r1,ty,q1⟩=>?_);obtain ⟨h1,h2⟩:=Ds I1 r1 ty;refine ⟨T,id,pa,slot,hty,h1,h2,?_⟩;have hA:=ha cpos pins s1 σ H1 _ I1 q1;rw [hs] at hA ⊢;refine Calls.callWith_builtin (by show (false || (backTo cpos (starEach es X.env)).any (·.1))=false;rw [hplain]<;>rfl) (Calls.evalArgs_plain ?_)
 exact zS hA λ us s2 ⟨vs,H2,I2,r2,q2⟩=>hm pins s2 σ H2 x vs v us Q I2 r1 r2 q2
end
noncomputable def Ux (X:Cx)(id:String)(r:V->List V->Hp->VK->Prop):Prop:=
 ∀(pins:List (Addr × Obj)) (s:Shared) (σ:St) (H:Hp) (x:V) (xs:List V) (v:Value) (us:List Value) (Q:VK),Inv X pins σ H s->RelV x v->Vals xs us->r x xs H Q->
  wpAny (model X.prog X.w) X.A (call (.builtin id) (v::us)) (EP X pins σ Q) X.xe s
theorem Vals.one {x:V}{us:List Value}(h:Vals [x] us):∃u,us=[u]/\RelV x u:=by
 cases h with
 | cons r t=>cases t;exact ⟨_,rfl,r⟩
theorem Vals.two {x y:V}{us:List Value}(h:Vals [x,y] us):∃u v,us=[u,v]/\RelV x u/\RelV y v:=by
 cases h with
 | cons r t=>exact (Vals.one t).elim λ v e=>⟨_,v,by rw [e.1],r,e.2⟩
theorem Vals.eraseIdx:∀{xs:List V} {us:List Value} (i:Nat),Vals xs us->Vals (xs.eraseIdx i) (us.eraseIdx i)
 | _,_,_,.nil=>.nil
 | _,_,0,.cons _ t=>t
 | _,_,i+1,.cons r t=>.cons r (Vals.eraseIdx i t)
theorem Vals.rep {xs:List V}{us:List Value}(h:Vals xs us):∀k:Nat,Vals (List.replicate k xs).flatten (List.replicate k us).flatten
 | 0=>.nil
 | k+1=>by
  rw [replicate_succ,replicate_succ,flatten_cons,flatten_cons];exact Vals.append h (Vals.rep h k)
theorem Tw {α:Type}:∀(l:List α) (i:Nat),(l.eraseIdx i).length<=l.length
 | [],_=>le_refl _
 | _::_,0=>le_succ _
 | _::r,i+1=>Nat.succ_le_succ (Tw r i)
theorem foldl_rep (its:List Value):∀(k:Nat) (acc:List Value),
  List.foldl (λ x1 x2=>x1++x2) acc.toArray (List.replicate k its.toArray)=(acc++(List.replicate k its).flatten).toArray
 | 0,acc=>by simp
 | k+1,acc=>by
  have e:acc.toArray++its.toArray=(acc++its).toArray:=by simp
  have e2:(acc++its)++(List.replicate k its).flatten=acc++(List.replicate (k+1) its).flatten:=by
   rw [replicate_succ,flatten_cons,append_assoc]
  rw [<- e2,<- foldl_rep its k (acc++its),<- e,replicate_succ,List.foldl_cons]
section
variable {X:Cx}{pins:List (Addr × Obj)}{σ:St}{H:Hp}{s:Shared}{l b:Addr}{xs ys zs:List V}
theorem Inv.lset {its its':List Value}{n:Nat}{f:Array Value->Array Value}{t':Nat}(I:Inv X pins σ H s)(hH:H l=some (.lst xs))
  (e:s.heap.get? l=some { cls:=.type "list",data:=.seq its.toArray n })(hf:f its.toArray=its'.toArray)(hv:Vals ys its')(hz:ys.length<=sizeLine):
  Inv X pins σ (upd H l (.lst ys)) { s with heap:=s.heap.update l (Obj.mapSeq f),toks:=t' }:=by
 have q:=PySem.IsL.update e f;rw [hf] at q;refine I.write (x:=l) (e:=l) (by rw [hH];exact trivial) (.inl rfl) (λ b' u hb hu=>(Heap.get?_update_other s.heap (Obj.mapSeq f) (Ne.symm hb)).trans hu) ⟨_,q⟩ ?_
 exact ⟨hz,its',_,hv,q⟩
theorem Inv.lnew {its:List Value}{t':Nat}(I:Inv X pins σ H s)(hv:Vals ys its)(hz:ys.length<=sizeLine):
  Inv X pins σ (upd H s.heap.objs.size (.lst ys)) { s with heap:=s.heap.push { cls:=.type "list",data:=.seq its.toArray },toks:=t' }:=
 I.laid (λ _ _ q=>Heap.get?_push_of_some _ q) (le_refl _) ⟨hz,its,0,hv,Heap.get?_push_size _ rfl⟩
theorem Inv.fresh (I:Inv X pins σ H s):H s.heap.objs.size=none:=I.hok.fresh (le_refl _)
theorem Inv.lstM (I:Inv X pins σ H s)(hH:H l=some (.lst xs)):xs.length<=sizeLine/\∃(its:List Value) (n:Nat),Vals xs its/\xs.length=its.length/\s.heap.get? l=some { cls:=.type "list",data:=.seq its.toArray n }:=by
 obtain ⟨z,its,n,r,e⟩:=I.hok l _ hH;exact ⟨z,its,n,r,r.length,e⟩
theorem IZ {n:Nat}(h:n<=sizeLine):Builtin.List.listTooLong n=false:=by
 unfold Builtin.List.listTooLong;exact decide_eq_false (by omega)
end
section
variable {X:Cx}
noncomputable def F3:V->List V->Hp->VK->Prop:=λ x vs H Q=>∃l xs y,x=.ref l/\vs=[y]/\H l=some (.lst xs)/\xs.length<sizeLine/\Q .non (upd H l (.lst (xs++[y])))
theorem Tv:Ux X "list.append" F3:=by
 intro pins s σ H x vs v us Q I rx rv h;obtain ⟨l,xs,y,rfl,rfl,hH,hz,q⟩:=h;cases rx;obtain ⟨u,rfl,ru⟩:=rv.one;obtain ⟨z,its,n,r,hl,e⟩:=I.lstM hH;refine call_meets F.slot_list_append ⟨_,e,rfl⟩ F.entry_list_append (F.args_list_append_2 _ _) (PySem.list_append l its.toArray n u (by rw [size_toArray];omega)) ⟨e,?_⟩
 refine ⟨.non,_,I.lset (its':=its++[u]) hH e (by simp) (r.append (.cons ru .nil)) ?_,rfl,q⟩
 rw [length_append,length_singleton];omega
noncomputable def Dc:V->List V->Hp->VK->Prop:=λ x vs H Q=>∃l xs i k y,x=.ref l/\vs=[.int i]/\H l=some (.lst xs)/\-(2 ^ 63)<=i/\i<2 ^ 63/\seqIndex? i xs.length=some k/\xs[k]? =some y/\Q y (upd H l (.lst (xs.eraseIdx k)))
theorem IM:Ux X "list.pop" Dc:=by
 intro pins s σ H x vs v us Q I rx rv h;obtain ⟨l,xs,i,k,y,rfl,rfl,hH,h1,h2,hk,hy,q⟩:=h;cases rx;obtain ⟨u,rfl,ru⟩:=rv.one;obtain ⟨t,rfl⟩:=ru;obtain ⟨z,its,n,r,hl,e⟩:=I.lstM hH;obtain ⟨w,hw,rw'⟩:=r.get hy;refine call_meets F.slot_list_pop ⟨_,e,rfl⟩ F.entry_list_pop (F.args_list_pop_2 _ _)
  (MeetsSeq.list_pop_at l its.toArray n i t k w (fitsIndex_both h1 h2) (by rw [size_toArray,<- hl];exact hk) (by rw [<- getElem?_toList];exact hw) (by rw [size_toArray];omega)) ⟨e,?_⟩
 refine ⟨y,_,I.lset (its':=its.eraseIdx k) hH e ?_ (r.eraseIdx k) ?_,rw',q⟩
 ·show its.toArray.eraseIdxIfInBounds k=(its.eraseIdx k).toArray
  rw [List.eraseIdxIfInBounds_toArray]
 ·have:=Tw xs k
  omega
noncomputable def PD:R2:=λ x y H Q=>∃l b xs zs,x=.ref l/\y=.ref b/\H l=some (.lst xs)/\H b=some (.lst zs)/\xs.length+zs.length<=sizeLine/\∀p,H p=none->Q (.ref p) (upd H p (.lst (xs++zs)))
theorem DG:qQ X (binaryOp .Add) PD:=by
 intro pins s σ H x y v u Q I rx ry h;obtain ⟨l,b,xs,zs,rfl,rfl,hH,hB,hz,q⟩:=h;cases rx;cases ry;obtain ⟨z,its,n,r,hl,e⟩:=I.lstM hH;obtain ⟨z2,its2,n2,r2,hl2,e2⟩:=I.lstM hB;refine PySem.P.add_list e e2 ?_ (by rw [size_toArray,size_toArray];omega)
 have ea:its.toArray++its2.toArray=(its++its2).toArray:=by simp
 rw [ea];exact ⟨.ref _,_,I.lnew (t':=s.toks) (r.append r2) (by rw [length_append];omega),rfl,q _ I.fresh⟩
noncomputable def Px:R2:=λ x y H Q=>∃l k xs,x=.ref l/\y=.int k/\H l=some (.lst xs)/\-(2 ^ 63)<=k/\k<2 ^ 63/\xs.length * k.toNat<=sizeLine/\
 ∀p,H p=none->Q (.ref p) (upd H p (.lst (List.replicate k.toNat xs).flatten))
theorem len_rep {α:Type}(xs:List α)(k:Nat):(List.replicate k xs).flatten.length=k * xs.length:=by
 induction k with
 | zero=>simp
 | succ k ih=>rw [replicate_succ,flatten_cons,length_append,ih,Nat.succ_mul,Nat.add_comm]
theorem EF:qQ X (binaryOp .Mult) Px:=by
 intro pins s σ H x y v u Q I rx ry h;obtain ⟨l,k,xs,rfl,rfl,hH,h1,h2,hz,q⟩:=h;cases rx;obtain ⟨t,rfl⟩:=ry;obtain ⟨z,its,n,r,hl,e⟩:=I.lstM hH;have hlen:its.toArray.size * k.toNat<=sizeLine:=by rw [size_toArray,<- hl];exact hz
 have hcap:¬its.toArray.size * k.toNat > (2 ^ 63 - 1) / 8:=by
  have:(sizeLine:Nat)<=(2 ^ 63 - 1) / 8:=by decide
  omega
 have hfit:¬(!Builtin.List.listFitsIndex k)=true:=by
  rw [fitsIndex_both h1 h2];exact Bool.false_ne_true
 have hlong:¬Builtin.List.listTooLong (its.toArray.size * k.toNat)=true:=by
  rw [IZ hlen];exact Bool.false_ne_true
 have hnew:List.foldl (λ x1 x2=>x1++x2) #[] (List.replicate (if its.toArray.isEmpty=true then 0 else k.toNat) its.toArray)=(List.replicate k.toNat its).flatten.toArray:=by
  have f0:∀m:Nat,List.foldl (λ x1 x2=>x1++x2) #[] (List.replicate m its.toArray)=(List.replicate m its).flatten.toArray:=λ m=>by
   have:=foldl_rep its m []
   rw [nil_append] at this;exact this
  rw [f0];cases its with
  | nil=>simp
  | cons a r'=>rw [if_neg (by simp)]
 refine wpAny_binaryOp_repeat_ref (T := "list") (U := "int") (by decide) ⟨_,e,rfl⟩ (λ s'=>typeIs_int s' k t) noFill_list_mul F.fills_int_mul F.slot_int_rmul repeat_list F.slot_int_index.lookup
  (call_meets F.slot_int_rmul (typeIs_int s k t) F.entry_int_rmul (F.args_int_rmul_2 _ _) (int___rmul___int_list k t l its.toArray n)
   ⟨e,rfl,⟨_,e,rfl⟩,call_meets F.slot_list_mul ⟨_,e,rfl⟩ F.entry_list_mul (F.args_list_mul_2 _ _) (AutoListH.list___mul___list_int_3 l its.toArray n k t hfit hcap hlong) ⟨e,?_⟩⟩)
 rw [hnew];exact ⟨.ref _,_,I.lnew (t':=s.toks) (r.rep k.toNat) (by rw [len_rep,Nat.mul_comm];exact hz),rfl,q _ I.fresh⟩
end
section
variable {prog:Program}{w:World}{A:Around}{E:Value->Shared->Prop}{s:Shared}
set_option maxRecDepth 100000 in
end
section
variable {X:Cx}
end
end L2
namespace Att
open PySem PySem.W PySem.Calls PyProof.Rows
theorem OK {P:Params}{h:Heap}:∀(ns:List Int) (vs:List Value),WellAll P h vs (ns.map WData.int)->IntsAre vs ns:=by
 intro ns
 induction ns with
 | nil=>
  intro vs w;rw [map_nil] at w;cases w;exact .nil
 | cons n ns ih=>
  intro vs w;rw [map_cons] at w;cases w with
  | cons a b=>
   cases a;exact .cons _ _ (ih _ b)
theorem MV {l:OpenLaw}{n:Nat}(hn:l.most=some n){P:Params}{h:Heap}{args:List WData}{vals:List Value}
  (hpre:l.row.toRowW.claim.pre args=true)(hwl:WellAll P h vals args):
  ∃a vs ns,vals=[Value.ref a]/\args=[WData.list (ns.map WData.int)]/\h.get? a=some { cls:=.type "list",data:=.seq vs.toArray }/\IntsAre vs ns/\ns.length<=n:=by
 have hsh:WShape.hasAll [] args [.list .int]=true:=(pre_splitW hpre).1;have hc:l.pre.holds [] { args:=args }=true:=(pre_splitW hpre).2;obtain ⟨d,r,rfl,h1,h2⟩:=hasAllW_cons hsh;obtain rfl:=hasAllW_nil h2;obtain ⟨xs,rfl,h3⟩:=hasW_list h1;obtain ⟨ns,rfl⟩:=items_int h3;have hlen:ns.length<=n:=by
  unfold OpenLaw.pre at hc;have h4:(WTm.not (.lt (.lit (.int (n:Int))) (.len (.arg 0)))).holds [] { args:=[.list (ns.map .int)] }=true:=by
   have h4:=(holds_andW hc).1;rw [hn] at h4;exact h4
  have h5:=condW_of h4 (w_not (w_lt w_lit (w_len_list (w_arg rfl))));rw [length_map] at h5;refine Nat.le_of_not_lt λ q=>?_;have q':(n:Int)<((ns.length:Nat):Int):=by omega
  first
   | (rw [decide_eq_true q'] at h5;exact absurd h5 (by decide))
   | (simp at h5;omega)
 cases hwl with
 | cons w1 w2=>
  cases w2;cases w1 with
  | list ho hall=>exact ⟨_,_,ns,rfl,rfl,ho,OK ns _ hall,hlen⟩
theorem Lj (l:OpenLaw)(args:List WData):l.row.toRowW.claim.post args (.bool true) args=true:=
 postW_of (r:=l.row.toRowW) (X:=(true==true))
  (show WShape.has [] (.bool true) .bool=true by first | rfl | decide | simp [WShape.has,WShape.arms,WShape.armsAll])
  (show (WTm.eq .res (.lit (.bool true))).value [] { args:=args,res:=some (.bool true),after:=args }=some (.bool (true==true)) from w_eq_bool (w_res rfl) w_lit) rfl
theorem NI {l:OpenLaw}{n:Nat}{q:Program}{loose:List Str}{XP:(Str->Option Value)->Heap->Prop}{YP:World->Heap->Prop}{d:DefRec}
  (hn:l.most=some n)(hdf:d.params.defaults=[])
  (call:∀(w:World) (s₀ s₁:Shared) (mg mb:Str->Option Value) (fa:Addr) (o:Obj) (pm cd doc:Value) (a:Addr) (vs:List Value) (ns:List Int),
   Ground q loose [] XP w s₀ mg mb s₁.heap->YP w s₁.heap->
   s₁.heap.get? fa=some o->o.data=.func (docDef d.name d.params d.body d.scope pm cd doc)->s₁.heap.CodeRec cd d.name->mg d.name=some (.ref fa)->
   s₁.heap.get? a=some { cls:=.type "list",data:=.seq vs.toArray }->IntsAre vs ns->ns.length<=n->s₁.gens=#[]->
   codeAny (model l.prog w) callerA (.call (.ref fa) ⟨[.ref a],[]⟩) (λ r s'=>r=.ok (.ret (.bool true))/\OldK s₁.heap s'.heap/\s'.os=s₁.os/\AllBare s'.gens) s₁):
  WalkO q loose XP YP l.row.toRowW d [] (λ f vs=>PySem.call f vs):=by
 intro w s₀ s₁ mg mb G Y fa o pm cd doc dV kV ho hd hcd hD hmg hg args vals as hpre hlay hrd hwl hlo;obtain rfl:dV=.none:=Dflts.none hD hdf;obtain rfl:kV=.none:=Dflts.noKw hD;obtain ⟨a,vs,ns,rfl,rfl,hobj,hints,hlen⟩:=MV hn hpre hwl;refine enter_call (codeAny_mono (call w s₀ s₁ mg mb fa o pm cd doc a vs ns G Y ho (fd_plain hd) hcd hmg hobj hints hlen hg) λ r s' hq=>?_);obtain ⟨rfl,h2,h3,h4⟩:=hq;exact ⟨.inl ⟨.bool true,.bool true,[],rfl,λ _=>rfl,.bool true,Lj l _,λ _=>⟨List.Pairwise.nil,λ _ hm=>(nomatch hm)⟩⟩,h2,h3,h4⟩
section
variable {prog:Program}{w:World}{A:Around}{E:Value->Shared->Prop}{s:Shared}{K:Frag}
end
end Att
namespace L2
open PySem PySem.Spec PyProof.Rows
theorem JU:∀{vs:List Value} {ns:List Int},IntsAre vs ns->Vals (ns.map V.int) vs
 | _,_,.nil=>.nil
 | _,_,.cons n t h=>.cons ⟨t,rfl⟩ (JU h)
noncomputable abbrev PZ {K:Frag}{h:Heap}(_:K.In h):Frag:=K
noncomputable def Zm (s:Stmt):Arguments:=match s with
 | .FunctionDef _ a _ _ _ _ _ _ _ _=>a
 | _=>{ posonlyargs:=[],args:=[],vararg:=none,kwonlyargs:=[],kw_defaults:=[],kwarg:=none,defaults:=[] }
noncomputable def yc (s:Stmt):List Stmt:=match s with
 | .FunctionDef _ _ b _ _ _ _ _ _ _=>b
 | _=>[]
noncomputable def qf (s:Stmt):Scope:=match s with
 | .FunctionDef _ _ _ _ _ _ sc _ _ _=>sc
 | _=>{ kind:=.function,names:=[],isGenerator:=false,isCoroutine:=false }
noncomputable abbrev kO:w6:=λ _ _ _ _ _ _=>False
noncomputable abbrev E0:XK:=λ _ _ _=>False
theorem DX {X:Cx}:Passes kO X E0:=λ _ _ _ _ _ _ _ h=>h.elim
structure qO (K:Frag)(x qual:Str)(st:Stmt)(f:Addr)(fd:FuncData):Prop where
 ex:∃(oc:Value) (od:Option Addr) (kV doc pm:Value) (an:Option Addr) (cdv ct:Value) (osl:Array (Option Value)),
  fd=PySem.W.fnOf x qual (Zm st) (yc st) (qf st) .none kV doc pm an cdv ct/\K.lookup f=some ⟨oc,od,.func fd,osl⟩/\PySem.W.codeIn K cdv qual=true
 kp:PySem.W.keepIn K (.ref f)=true
section
variable {P:Program}{w:World}{K:Frag}{mg:Str->Option Value}{base:Heap}
theorem qO.ok {x qual:Str}{st:Stmt}{f:Addr}{fd:FuncData}{N ps:List Str}{k:Nat}{sp:Sp}(F:qO K x qual st f fd)(S:q9 N ps (qf st))(len:∀vs H Q E,sp vs H Q E->vs.length=ps.length)
  (hbody:∀(cdv:Value) (A:Around) (outer:List Env) (s:Shared) (H:Hp) (vs:List V) (Q:VK) (E:XK),ju k (A.deeper (envOfC qual (qf st) s.heap.objs.size f cdv))->sp vs H Q E->
   ∃t,yn (kI kO P w K mg base N qual (qf st) f cdv A outer s H E).nox (yc st) t/\t { nx:=λ _ H'=>Q .non H',rt:=Q } (start N vs) H):yk P w K mg base kO (k+1) f fd ps sp:=by
 obtain ⟨oc,od,kV,doc,pm,an,cdv,ct,osl,rfl,lk,hcd⟩:=F.ex;refine VM lk hcd S len λ A outer s H vs Q E hr hsp=>?_;obtain ⟨t,h,q⟩:=hbody cdv A outer s H vs Q E hr hsp;exact ⟨t,h.nox,q⟩
theorem qO.binds {x qual:Str}{st:Stmt}{f:Addr}{fd:FuncData}{ps:List Str}(F:qO K x qual st f fd)
  (h:∀(kV doc pm:Value) (an:Option Addr) (cdv ct:Value) (us:List Value),us.length=ps.length->bindArgs (PySem.W.fnOf x qual (Zm st) (yc st) (qf st) .none kV doc pm an cdv ct) ⟨us,[]⟩=pure (ps.zip us)):Binds K fd ps []:=by
 obtain ⟨oc,od,kV,doc,pm,an,cdv,ct,osl,rfl,lk,hcd⟩:=F.ex;exact .all (h kV doc pm an cdv ct)
theorem E7 {x qual:Str}{st:Stmt}{f:Addr}{oc:Value}{od an:Option Addr}{osl:Array (Option Value)}{kV doc pm cdv ct:Value}(l:K.lookup f=some ⟨oc,od,.func (PySem.W.fnOf x qual (Zm st) (yc st) (qf st) .none kV doc pm an cdv ct),osl⟩)
  (c:PySem.W.codeIn K cdv qual=true)(k:PySem.W.keepIn K (.ref f)=true):qO K x qual st f (PySem.W.fnOf x qual (Zm st) (yc st) (qf st) .none kV doc pm an cdv ct):=⟨⟨oc,od,kV,doc,pm,an,cdv,ct,osl,rfl,l,c⟩,k⟩
end
section
variable {X:Cx}
end
section
variable {κ:Type} [DecidableEq κ]
end
section
variable {P:Program}{w:World}{H:Hp}{h:Heap}{a:Addr}
end
section
variable {X:Cx}{pins:List (Addr × Obj)}{σ:St}{H:Hp}{s:Shared}{a:Addr}{y v:V}{u r:Value}{o:Option V}{A:Around}{E:Value->Shared->Prop}
theorem Inv.big (I:Inv X pins σ H s):sysModules<s.heap.objs.size:=by
 have h:mainGlobals<s.heap.objs.size:=(I.mod.glob.keeps I.bk).lt;exact lt_trans (by decide) h
end
section
variable {X:Cx}{pins:List (Addr × Obj)}{σ:St}{H:Hp}{s:Shared}{a:Addr}{kvs:List (Key × V)}{k:Key}{u:Value}{A:Around}{E:Value->Shared->Prop}
end
section
variable {X:Cx}{o i e value:Expr}{pos pos' tpos:Pos}{td ty tv:TE}
end
theorem IV {P:Program}{w:World}{H:Hp}(h:Heap)(hb:sysModules<h.objs.size):jj P w H (h.push { cls:=.type "dict",data:=.dict #[] }) h.objs.size (.dK []):=
 ⟨zero_le _,beq_eq_false_iff_ne.mpr (Ne.symm (ne_of_lt hb)),[],.nil,Heap.DictOf.new h⟩
noncomputable def Dx:TE:=λ _ H Q=>∀p,H p=none->Q (.ref p) (upd H p (.dK []))
section
variable {X:Cx}{pos:Pos}
theorem IK:PE X (.Dict [] [] pos) Dx:=λ pins s σ H Q I h=>
 wpAny_Dict_empty ⟨.ref s.heap.objs.size,_,I.laid (a:=s.heap.objs.size) (o:=.dK []) (t':=s.toks) (λ _ _ q=>Heap.get?_push_of_some _ q) (le_refl _) (IV s.heap I.big),rfl,h _ (I.hok.fresh (le_refl _))⟩
end
section
variable {X:Cx}{pins:List (Addr × Obj)}{σ:St}{H:Hp}{s:Shared}{a:Addr}{y d:V}{u r:Value}{o:Option V}{A:Around}{E:Value->Shared->Prop}
end
section
variable {X:Cx}{o e f:Expr}{apos cpos:Pos}{td ty tx:TE}
end
section
variable {X:Cx}{pins:List (Addr × Obj)}{σ:St}{H:Hp}{s:Shared}{a:Addr}{kvs:List (Key × V)}{A:Around}{E:Value->Shared->Prop}
end
section
variable {X:Cx}{pins:List (Addr × Obj)}{σ:St}{H:Hp}{s:Shared}{a:Addr}{y:V}{u:Value}{A:Around}{E:Value->Shared->Prop}
end
noncomputable def yU (env:Env):List (Str × NameKind)->List (Str × Addr)->List (Str × Addr)
 | [],acc=>acc
 | (n,k)::r,acc=>yU env r (if k==.free then (n,(env.cells.lookup n).getD 0)::acc else acc)
theorem Im {env:Env}(f:Str × NameKind->List (Str × Addr)->Sem (ForInStep (List (Str × Addr))))
  (hf:∀n k r,f (n,k) r=if (k==NameKind.free)=true then (do let c <- cellOf env n;pure (ForInStep.yield ((n,c)::r))) else pure (ForInStep.yield r)):
  ∀(names:List (Str × NameKind)) (acc:List (Str × Addr)),(∀y∈names,y.2=.free->∃c,env.cells.lookup y.1=some c)->(forIn names acc f:Sem (List (Str × Addr)))=pure (yU env names acc):=by
 intro names
 induction names with
 | nil=>intro acc _;rfl
 | cons y r ih=>
  intro acc hh;obtain ⟨n,k⟩:=y;rw [forIn_cons,hf];unfold yU;have hr:=ih (if k==.free then (n,(env.cells.lookup n).getD 0)::acc else acc) (λ y hy=>hh y (mem_cons_of_mem _ hy))
  by_cases hk:k=.free
  ·subst hk
   obtain ⟨c,hc⟩:=hh (n,.free) mem_cons_self rfl;have e:cellOf env n=pure c:=by unfold cellOf;rw [hc]
   have hc':List.lookup n env.cells=some c:=hc;simp only [e,hc',Option.getD_some,beq_self_eq_true,if_true] at hr ⊢;exact hr
  ·have hb:(k==NameKind.free)=false:=by simpa using hk
   simp only [hb,false_eq_true,if_false] at hr ⊢;exact hr
theorem Te {scope:Scope}{env:Env}(h:∀y∈scope.names,y.2=.free->∃c,env.cells.lookup y.1=some c):closureFor scope env=pure (yU env scope.names []):=by
 unfold closureFor;dsimp only;rw [Im _ (λ n k r=>rfl) scope.names [] h]
 rfl
theorem Qd {env:Env}{n:Str}{c:Addr}:∀(names:List (Str × NameKind)) (acc:List (Str × Addr)),(n,c)∈yU env names acc->(n,c)∈acc∨((n,NameKind.free)∈names/\c=(env.cells.lookup n).getD 0)
 | [],acc,h=>.inl h
 | (x,k)::r,acc,h=>by
  unfold yU at h;rcases Qd r _ h with h | ⟨h1,h2⟩
  ·by_cases hk:k=.free
   ·subst hk
    simp only [beq_self_eq_true,if_true] at h;rcases List.mem_cons.mp h with e | h
    ·cases e;exact .inr ⟨mem_cons_self,rfl⟩
    ·exact .inl h
   ·have hb:(k==NameKind.free)=false:=by simpa using hk
    simp only [hb,false_eq_true,if_false] at h;exact .inl h
  ·exact .inr ⟨mem_cons_of_mem _ h1,h2⟩
theorem Kk {env:Env}{n:Str}:∀(names:List (Str × NameKind)) (acc:List (Str × Addr)),((n,NameKind.free)∈names∨(acc.lookup n).isSome=true)->((yU env names acc).lookup n).isSome=true
 | [],acc,h=>by
  rcases h with h | h
  ·cases h
  ·exact h
 | (x,k)::r,acc,h=>by
  unfold yU;refine Kk r _ ?_;rcases h with h | h
  ·rcases List.mem_cons.mp h with e | h
   ·cases e
    right
    simp
   ·exact .inl h
  ·right
   by_cases hk:(k==NameKind.free)=true
   ·rw [if_pos hk,lookup_cons]
    cases hx:n==x
    ·exact h
    ·rfl
   ·rw [if_neg hk];exact h
theorem Gx {n:Str}{c:Addr}:∀(names:List (Str × NameKind)) (k:Nat) (acc:List (Str × Addr)),(n,c)∈cellsFrom k names acc->(n,c)∈acc∨(k<=c/\(n,NameKind.cell)∈names)
 | [],_,_,h=>.inl h
 | (x,q)::r,k,acc,h=>by
  unfold cellsFrom at h
  by_cases hq:(q==NameKind.cell)=true
  ·rw [if_pos hq] at h
   have hq':q=.cell:=by simpa using hq
   rcases Gx r _ _ h with h | ⟨h1,h2⟩
   ·rcases List.mem_cons.mp h with e | h
    ·cases e;subst hq';exact .inr ⟨le_refl _,mem_cons_self⟩
    ·exact .inl h
   ·exact .inr ⟨by omega,mem_cons_of_mem _ h2⟩
  ·rw [if_neg hq] at h
   rcases Gx r _ _ h with h | ⟨h1,h2⟩
   ·exact .inl h
   ·exact .inr ⟨h1,mem_cons_of_mem _ h2⟩
theorem GC:∀(names:List (Str × NameKind)) (k:Nat) (acc:List (Str × Addr)),(∀n c,(n,c)∈acc->c<k)->(∀n n' c,(n,c)∈acc->(n',c)∈acc->n=n')->∀n n' c,(n,c)∈cellsFrom k names acc->(n',c)∈cellsFrom k names acc->n=n'
 | [],_,_,_,hi,n,n',c,h,h'=>hi n n' c h h'
 | (x,q)::r,k,acc,hl,hi,n,n',c,h,h'=>by
  unfold cellsFrom at h h'
  by_cases hq:(q==NameKind.cell)=true
  ·rw [if_pos hq] at h h'
   refine GC r (k+1) ((x,k)::acc) (λ m d hm=>?_) (λ m m' d hm hm'=>?_) n n' c h h'
   ·rcases List.mem_cons.mp hm with e | hm
    ·cases e;exact lt_succ_self _
    ·exact lt_succ_of_lt (hl m d hm)
   ·rcases List.mem_cons.mp hm with e | hm
    ·rcases List.mem_cons.mp hm' with e' | hm'
     ·cases e;cases e';rfl
     ·cases e;exact absurd (hl m' _ hm') (lt_irrefl _)
    ·rcases List.mem_cons.mp hm' with e' | hm'
     ·cases e';exact absurd (hl m _ hm) (lt_irrefl _)
     ·exact hi m m' d hm hm'
  ·rw [if_neg hq] at h h'
   exact GC r k acc hl hi n n' c h h'
theorem Gk {n:Str}{c:Addr}:∀(names:List (Str × NameKind)) (h:Heap) (acc:List (Str × Addr)),(n,c)∈cellsFrom h.objs.size names acc->(n,c)∈acc∨(pushCells h names).IsCell c none
 | [],_,_,q=>.inl q
 | (x,k)::r,h,acc,q=>by
  unfold cellsFrom at q;unfold pushCells
  by_cases hk:(k==NameKind.cell)=true
  ·rw [if_pos hk] at q ⊢
   have:=Gk r (h.push { cls:=.type "cell",data:=.cell none }) ((x,h.objs.size)::acc) (by rw [Heap.size_push];exact q)
   rcases this with z | z
   ·rcases List.mem_cons.mp z with e | z
    ·cases e
     exact .inr ⟨_,pushCells_keeps r _ _ _ (Heap.get?_push_size _ rfl),rfl⟩
    ·exact .inl z
   ·exact .inr z
  ·rw [if_neg hk] at q ⊢
   exact Gk r h acc q
theorem Ov {M:Model}{A:Around}{E:Value->Shared->Prop}{s:Shared}{scope:Scope}{globals:Addr}{cl:List (Str × Addr)}{qual:Str}{env:Env}{Q:Env->Shared->Prop}
  (h:Q { scope,locals:=s.heap.objs.size,globals,cells:=cellsFrom (s.heap.objs.size+1) scope.names cl,qual,func:=none,code:=env.code,frame:=env.frame,builtins:=env.builtins }
   { s with heap:=pushCells (s.heap.push { cls:=.type "dict",data:=.dict #[] }) scope.names }):
  wpAny M A (newFunctionEnv scope globals cl [] qual none .none (some env)) Q E s:=by
 simp only [newFunctionEnv,Option.isSome_some,if_true];refine wpAny_bind (wpAny_alloc ?_);refine wpAny_bind (wpAny_layCells _ (λ name kind cells=>by cases hkc:kind==NameKind.cell<;>simp [hkc]) _ _ _ _ ?_)
 rw [show ({ s with heap:=s.heap.push { cls:=.type "dict",data:=.dict #[] } }:Shared).heap.objs.size=s.heap.objs.size+1 from Heap.size_push ..]
 rw [forIn_nil];exact wpAny_bind (wpAny_pure (wpAny_pure h))
noncomputable def jq (X:Cx)(N:List Str)(scope:Scope)(s:Shared)(H:Hp)(fp:List Addr)(xe:Value->Shared->Prop):Cx where
 prog:=X.prog
 w:=X.w
 K:=X.K
 mg:=X.mg
 base:=X.base
 A:=X.A
 N:=N
 s0:=s
 H0:=H
 env:={ scope:=relabel scope X.env,locals:=s.heap.objs.size,globals:=X.env.globals,cells:=cellsFrom (s.heap.objs.size+1) scope.names (yU X.env scope.names []),qual:=X.env.qual,func:=none,code:=X.env.code,frame:=X.env.frame,builtins:=X.env.builtins }
 outer:=X.stack
 stack:=X.stack
 ex:=fp
 fn:=λ x=>scope.names.lookup x==some .local || scope.names.lookup x==some .cell
 calm:=X.calm
 pn:=[]
 xe:=xe
structure gN (X:Cx)(scope:Scope):Prop where
 kind:scope.kind=.function
 nd:(scope.names.map (·.1)).Nodup
 free:∀y∈scope.names,y.2=.free->X.env.kindOf y.1=some .cell∨X.env.kindOf y.1=some .free
theorem QU {α:Type}{x:Str}{k:α}:∀{l:List (Str × α)},(l.map (·.1)).Nodup->(x,k)∈l->l.lookup x=some k
 | (y,q)::r,nd,h=>by
  rw [map_cons,List.nodup_cons] at nd;rw [lookup_cons];rcases List.mem_cons.mp h with e | h
  ·cases e;simp
  ·have ne:(x==y)=false:=by
    rw [beq_eq_false_iff_ne];intro e
    apply nd.1
    rw [<- e];exact List.mem_map_of_mem (f:=(·.1)) h
   rw [ne];exact QU nd.2 h
theorem Gg {scope:Scope}{env:Env}{x:Str}{k:NameKind}(h:(relabel scope env).names.lookup x=some k):scope.names.lookup x=some k∨(k=.cell/\scope.names.lookup x=some .free/\env.kindOf x=some .cell):=by
 unfold relabel at h;dsimp only at h;generalize scope.names=names at h ⊢
 induction names with
 | nil=>cases h
 | cons y r ih=>
  obtain ⟨n,q⟩:=y;rw [map_cons] at h;have split:(if (q==NameKind.free&&env.scope.kind==.function&&env.kindOf n==some .cell)=true then (n,NameKind.cell) else (n,q)).1=n:=by split<;>rfl
  rw [lookup_cons] at h ⊢;dsimp only at h;rw [split] at h;cases hx:x==n with
  | false=>rw [hx] at h;exact ih h
  | true=>
   rw [hx] at h;have e:x=n:=beq_iff_eq.mp hx;subst e
   by_cases hc:(q==NameKind.free&&env.scope.kind==.function&&env.kindOf x==some .cell)=true
   ·rw [if_pos hc] at h
    simp only [and_eq_true,beq_iff_eq] at hc;cases h
    right
    exact ⟨rfl,by rw [hc.1.1],hc.2⟩
   ·rw [if_neg hc] at h
    left
    exact h
section
variable {X:Cx}{pins:List (Addr × Obj)}{σ:St}{H:Hp}{s:Shared}{scope:Scope}
theorem Inv.capt (I:Inv X pins σ H s)(S:gN X scope){x:Str}(h:(x,NameKind.free)∈scope.names):∃c,X.env.cells.lookup x=some c:=I.ok.has x (S.free _ h rfl)
theorem J0 (I:Inv X pins σ H s)(S:gN X scope){x:Str}{c:Addr}(h:(x,c)∈cellsFrom (s.heap.objs.size+1) scope.names (yU X.env scope.names [])):
  ((x,NameKind.free)∈scope.names/\X.env.cells.lookup x=some c/\c<s.heap.objs.size)∨((x,NameKind.cell)∈scope.names/\s.heap.objs.size<c/\∀h0:Heap,h0.objs.size=s.heap.objs.size+1->(pushCells h0 scope.names).IsCell c none):=by
 rcases Gx _ _ _ h with h1 | ⟨h1,h2⟩
 ·left
  rcases Qd _ _ h1 with z | ⟨z,e⟩
  ·cases z
  ·obtain ⟨c',hc⟩:=I.capt S z
   rw [hc] at e;have e':c=c':=e;subst e';obtain ⟨v,q⟩:=I.cell x c hc;exact ⟨z,hc,q.lt⟩
 ·right
  refine ⟨h2,h1,λ h0 e0=>?_⟩;have h':=h;rw [<- e0] at h';rcases Gk _ h0 _ h' with z | z
  ·exfalso
   rcases Qd _ _ z with z | ⟨z,e⟩
   ·cases z
   ·obtain ⟨c',hc⟩:=I.capt S z
    rw [hc] at e;have e':c=c':=e;subst e';obtain ⟨v,q⟩:=I.cell x c hc;exact lt_irrefl _ (lt_of_lt_of_le (lt_succ_of_lt q.lt) h1)
  ·exact z
theorem LK {N:List Str}{fp:List Addr}{xe:Value->Shared->Prop}{σ':St}(I:Inv X pins σ H s)(S:gN X scope)(hf:∀b∈fp,yY X pins H b)(hfl:∀b∈fp,b<s.heap.objs.size)(hl:σ'.length=N.length)
  (hs:∀(j:Nat) (x:Str) (v:V),N[j]? =some x->σ'[j]? =some (some v)->(x,NameKind.free)∈scope.names/\∃i:Nat,X.N[i]? =some x/\σ[i]? =some (some v)):
  Inv (jq X N scope s H fp xe) [] σ' H { s with heap:=pushCells (s.heap.push { cls:=.type "dict",data:=.dict #[] }) scope.names }:=by
 have hk:∀b o,s.heap.get? b=some o->(pushCells (s.heap.push { cls:=.type "dict",data:=.dict #[] }) scope.names).get? b=some o:=λ b o e=>pushCells_keeps _ _ _ _ (Heap.get?_push_of_some _ e);have hsz:(s.heap.push { cls:=.type "dict",data:=.dict #[] }).objs.size=s.heap.objs.size+1:=Heap.size_push ..;have lkm:∀{x:Str} {c:Addr},(jq X N scope s H fp xe).env.cells.lookup x=some c->(x,c)∈cellsFrom (s.heap.objs.size+1) scope.names (yU X.env scope.names []):=λ h=>PySem.mem_of_lookup h;have lkc:∀{x:Str},((jq X N scope s H fp xe).env.kindOf x=some .cell∨(jq X N scope s H fp xe).env.kindOf x=some .free)->∃c,(jq X N scope s H fp xe).env.cells.lookup x=some c:=λ {x} h=>by
  refine Option.isSome_iff_exists.mp (PySem.W.cellsFrom_some _ _ _ ?_);have two:scope.names.lookup x=some .cell∨scope.names.lookup x=some .free:=by
   rcases h with h | h
   ·rcases Gg h with z | ⟨_,z,_⟩
    ·exact .inl z
    ·exact .inr z
   ·rcases Gg h with z | ⟨z,_⟩
    ·exact .inr z
    ·cases z
  rcases two with z | z
  ·exact .inl z
  ·exact .inr (Kk _ _ (.inl (PySem.mem_of_lookup z)))
 have exP:∀b∈fp,∀x c,(jq X N scope s H fp xe).env.cells.lookup x=some c->c≠b:=λ b hb x c e=>by
  rcases J0 I S (lkm e) with ⟨_,q,_⟩ | ⟨_,q,_⟩
  ·exact (hf b hb).2.2.2.2.1 x c q
  ·intro z;subst z;exact lt_irrefl _ (lt_trans q (hfl _ hb))
 refine ⟨⟨I.ok.mod,S.kind,I.ok.glob,I.ok.blt,le_refl _,λ x y c h1 h2=>?_,λ x h=>lkc h,λ x c hx h=>?_,I.ok.hd,I.ok.frames,.inl rfl,λ b hb=>⟨?_,exP b hb⟩,I.bs,le_trans I.ok.bsz I.sz,λ b o e hb=>?_,λ b hb z=>?_,I.stack,I.stkFree⟩,
  rfl,I.bare,Un.kept hk,⟨λ _=>none,?_,λ j x v h1 h2 h3=>?_⟩,λ x c e=>?_,I.fresh,λ x c e=>?_,λ p hp=>?_,I.hok.kept hk,hl⟩
 ·refine GC _ _ _ (λ n c h=>?_) (λ n n' c h h'=>?_) x y c (lkm h1) (lkm h2)
  ·rcases Qd _ _ h with z | ⟨z,e⟩
   ·cases z
   ·obtain ⟨c',hc⟩:=I.capt S z
    rw [hc] at e;have e':c=c':=e;subst e';obtain ⟨v,q⟩:=I.cell n c hc;exact lt_succ_of_lt q.lt
  ·rcases Qd _ _ h with z | ⟨z,e⟩
   ·cases z
   ·rcases Qd _ _ h' with z' | ⟨z',e'⟩
    ·cases z'
    ·obtain ⟨d,hd⟩:=I.capt S z
     obtain ⟨d',hd'⟩:=I.capt S z';rw [hd] at e;rw [hd'] at e';have e1:c=d:=e;have e2:c=d':=e';subst e1;subst e2;exact I.ok.inj _ _ _ hd hd'
 ·rcases J0 I S (lkm h) with ⟨z,_,_⟩ | ⟨_,z,_⟩
  ·exfalso
   have e1:=QU S.nd z;have hx':(scope.names.lookup x==some .local || scope.names.lookup x==some .cell)=true:=hx;rw [e1] at hx';cases hx'
  ·exact le_of_lt z
 ·exact ne_of_lt (hfl b hb)
 ·obtain ⟨_,_,_,h4,_⟩:=hf b hb
  rcases h4 with h4 | h4
  ·exact I.ok.noex b o e h4
  ·exact absurd (lt_of_lt_of_le (Heap.lt_size e) (le_trans I.ok.bsz h4)) (lt_irrefl _)
 ·obtain ⟨_,h2,h3,_⟩:=hf b hb
  rcases List.mem_cons.mp (I.stkSub b z) with e | e
  ·exact h2 e
  ·exact h3 e
 ·exact (Heap.Ns.new s.heap (.type "dict")).keeps (pushCells_keeps _ _)
 ·obtain ⟨hx,i,e1,e2⟩:=hs j x v h1 h2
  obtain ⟨m,hn,hl'⟩:=I.loc;have vis:JF X.env.scope x:=.inr (S.free _ hx rfl);obtain ⟨u,r,lk⟩:=hl' i x v e1 e2 vis;refine ⟨u,r,.inr ?_⟩;have hkf:(jq X N scope s H fp xe).env.kindOf x=some .cell∨(jq X N scope s H fp xe).env.kindOf x=some .free:=by
   rcases h3 with z | z | z
   ·exfalso
    rcases Gg z with z' | ⟨z',_⟩
    ·rw [QU S.nd hx] at z';cases z'
    ·cases z'
   ·exact .inl z
   ·exact .inr z
  refine ⟨hkf,?_⟩;obtain ⟨c,hc⟩:=lkc hkf;refine ⟨c,hc,?_⟩;rcases J0 I S (lkm hc) with ⟨_,q,_⟩ | ⟨q,_,_⟩
  ·rcases lk with ⟨z,_⟩ | ⟨_,c',hc',cell⟩
   ·exfalso
    rcases S.free _ hx rfl with k | k<;>(rw [k] at z;cases z)
   ·rw [q] at hc';cases hc'
    exact cell.keeps hk
  ·exfalso
   have a1:=QU S.nd hx;have a2:=QU S.nd q;rw [a1] at a2;cases a2
 ·rcases J0 I S (lkm e) with ⟨_,q,_⟩ | ⟨_,_,q⟩
  ·obtain ⟨v,z⟩:=I.cell x c q
   exact ⟨v,z.keeps hk⟩
  ·exact ⟨_,q _ hsz⟩
 ·rcases J0 I S (lkm e) with ⟨_,q,_⟩ | ⟨_,q,_⟩
  ·exact I.freeC x c q
  ·exact I.hok.fresh (le_of_lt q)
 ·have hp':p∈([]:List (Addr × Obj)):=hp
  cases hp'
end
noncomputable abbrev wa:=Addr->St->Hp->(St->Hp->Prop)->Prop
noncomputable def Yw (elt:Expr)(gens:List Comprehension)(sc:Scope)(pos:Pos)(d:Nat)(acc:Value)(env:Env)(k:Sem Fin):Sem Fin:=
 match gens[d+1]? with
 | some g'=>do
  let x <- eval g'.iter env
  standAt g'.iter.pos
  let x <- foldedSetIterable g'.iter env x
  let _ <- runOwn (.compStart (.ListComp elt gens sc pos) (d+1) (<- holding [x] (pyIter x)) acc env) env
  k
 | none=>do
  (do let _ <- call (.builtin "list.append") [acc,<- eval elt env])
  k
theorem Fj {elt tg iter:Expr}{ifs:List Expr}{gens:List Comprehension}{sc:Scope}{pos:Pos}{d:Nat}{it acc:Value}{env:Env}(hg:gens[d]? =some ⟨tg,iter,ifs,0⟩)(ha:∀g',gens[d+1]? =some g'->g'.is_async=0):
  compTurn (.ListComp elt gens sc pos) d it acc env=(do
   standAt iter.pos
   match <- pyNext it with
   | none=>pure (.done .next)
   | some v=>
    letOwnedTupleGo tg it v
    assign tg env v
    let mut ok:=true
    for c in ifs do
     if ok then ok <- isTrue c env (eval c env)
    if ok then Yw elt gens sc pos d acc env (again (.compLoop (.ListComp elt gens sc pos) d it acc env))
    else again (.compLoop (.ListComp elt gens sc pos) d it acc env)):=by
 unfold compTurn Yw;dsimp only;rw [hg];cases hn:gens[d+1]? with
 | none=>rfl
 | some g'=>
  obtain ⟨t',i',f',a'⟩:=g';have e:a'=0:=ha _ hn;subst e
  rfl
noncomputable def Zw (X:Cx)(ifs:List Expr)(t:TT):Prop:=
 ∀(pins:List (Addr × Obj)) (s:Shared) (σ:St) (H:Hp) (Q:Bool->Hp->Prop),Inv X pins σ H s->t σ H Q->
  wpAny (model X.prog X.w) X.A (forIn ifs true λ c r=>if r=true then do let ok <- isTrue c X.env (eval c X.env);pure (ForInStep.yield ok) else pure (ForInStep.yield r)) (TP X pins σ Q) X.xe s
noncomputable def D7:TT:=λ _ H Q=>Q true H
theorem IE {X:Cx}:Zw X [] D7:=λ pins s σ H Q I h=>wpAny_tests_nil ⟨H,I,h⟩
theorem Ic {X:Cx}{c:Expr}{t:TT}(h:PT X c t):Zw X [c] t:=λ pins s σ H Q I hw=>wpAny_tests_one (h pins s σ H Q I hw)
noncomputable def ku (X:Cx)(elt:Expr)(gens:List Comprehension)(sc:Scope)(pos:Pos)(d:Nat)(t:wa):Prop:=
 ∀(pins:List (Addr × Obj)) (s:Shared) (σ:St) (H:Hp) (D:Addr) (Q:St->Hp->Prop) (k:Sem Fin) (Q':Fin->Shared->Prop) (E:Value->Shared->Prop),Inv X pins σ H s->t D σ H Q->
  (∀s' σ' H',Inv X pins σ' H' s'->Q σ' H'->wpAny (model X.prog X.w) X.A k Q' E s')->wpAny (model X.prog X.w) X.A (Yw elt gens sc pos d (.ref D) X.env k) Q' E s
noncomputable def Ck (te:TE):wa:=λ D σ H Q=>te σ H λ y H1=>∃ys,H1 D=some (.lst ys)/\ys.length<sizeLine/\Q σ (upd H1 D (.lst (ys++[y])))
noncomputable def Js (J:It)(g:TG)(ti:TT)(tm:wa):wa:=λ D σ H Q=>∃W:Nat->Nat->St->Hp->Prop,(∃m,W 0 m σ H)/\∀i m σ H,W i m σ H->
 (J.stop i H/\Q σ H)∨(J.go i H/\∃N:St->Hp->Prop,(∀σ' H',N σ' H'->∃m',m'<m/\W (i+1) m' σ' H')/\∀x H',J.yld i H x H'->g x σ H' λ σ1 H1=>ti σ1 H1 λ b Hb=>if b=true then tm D σ1 Hb N else N σ1 Hb)
noncomputable def CB (wi:TI)(g:TG)(ti:TT)(tm:wa):wa:=λ D σ H Q=>wi σ H λ J H1=>Js J g ti tm D σ H1 Q
section
variable {X:Cx}{elt tg iter:Expr}{ifs:List Expr}{gens:List Comprehension}{sc:Scope}{pos:Pos}{d:Nat}
theorem Jr (hx:∀e s,X.xe e s->False){α:Type}{t:Sem α}{Q':α->Shared->Prop}{E:Value->Shared->Prop}{s':Shared}(hh:wpAny (model X.prog X.w) X.A t Q' X.xe s'):wpAny (model X.prog X.w) X.A t Q' E s':=
 wpAny_mono hh (λ _ _ z=>z) λ e s' z=>(hx e s' z).elim
theorem Sw {te:TE}(hx:∀e s,X.xe e s->False)(he:PE X elt te)(hg:gens[d+1]? =none):ku X elt gens sc pos d (Ck te):=by
 intro pins s σ H D Q k Q' E I h hk;unfold Yw;rw [hg];refine wpAny_bind (wpAny_bind (Jr hx (zS (he pins s σ H _ I h) λ u s1 ⟨y,H1,I1,r1,ys,e1,z1,q1⟩=>?_)));refine wpAny_bind (Jr hx (zS (Tv pins s1 σ H1 (.ref D) [y] (.ref D) [u] (λ _ H'=>Q σ H') I1 rfl (.cons r1 .nil) ⟨D,ys,y,rfl,rfl,e1,z1,q1⟩) λ _ s2 ⟨_,H2,I2,_,q2⟩=>?_));exact wpAny_pure (hk s2 σ H2 I2 q2)
theorem FE {g:TG}{ti:TT}{tm:wa}(hx:∀e s,X.xe e s->False)(hc:X.calm=true)(hg:gens[d]? =some ⟨tg,iter,ifs,0⟩)(ha:∀g',gens[d+1]? =some g'->g'.is_async=0)(hgt:PG X tg g)(hi:Zw X ifs ti)(hm:ku X elt gens sc pos d tm)
  {pins:List (Addr × Obj)}{σ:St}{H:Hp}{s:Shared}{D:Addr}{Q:St->Hp->Prop}{J:It}{it:Addr}{fp:List Addr}{tn:Nat->Heap->Prop}(T:Turn X.prog X.w X.K tg J fp it tn)(I:Inv X pins σ H s)(st:tn 0 s.heap)(hf:∀b∈fp,yY X pins H b)
  (h:Js J g ti tm D σ H Q){R:Result->Shared->Prop}(hR:∀s' σ' H',Inv X pins σ' H' s'->Q σ' H'->R (.ok .next) s'):
  codeAny (model X.prog X.w) X.A (.compLoop (.ListComp elt gens sc pos) d (.ref it) (.ref D) X.env) R s:=by
 obtain ⟨W,⟨m0,w0⟩,turn⟩:=h;have stat:∀{H':Hp},(∀b∈fp,H' b=none)->∀b∈fp,yY X pins H' b:=λ hn b hb=>⟨hn b hb,(hf b hb).2⟩;refine codeAny_loop rfl (λ n s'=>∃i σ' H',Inv X pins σ' H' s'/\tn i s'.heap/\(∀b∈fp,H' b=none)/\W i n σ' H') (λ n s3 hI=>?_) m0 ⟨0,σ,H,I,st,λ b hb=>(hf b hb).1,w0⟩;show wpAny _ X.A ((compTurn (.ListComp elt gens sc pos) d (.ref it) (.ref D) X.env).onRaise (λ x=>do noteFrame x X.env;theTreesLotGoes x)) _ _ s3
 refine wpAny_noted ?_;rw [Fj hg ha];refine wpAny_bind (wpAny_standAt ?_);obtain ⟨i,σ3,H3,I3,w9,fr3,w3⟩:=hI;rcases turn i n σ3 H3 w3 with ⟨stop,qn⟩ | ⟨go,N,hN,step⟩
 ·refine wpAny_bind (zS (T.done X rfl rfl rfl hc i pins s3 σ3 H3 _ I3 (stat fr3) w9 stop) λ r s4 ⟨hr,I4⟩=>?_)
  subst hr;exact wpAny_pure (hR s4 σ3 H3 I4 qn)
 ·refine wpAny_bind (zS (T.item X rfl rfl rfl hc i pins s3 σ3 H3 _ I3 (stat fr3) w9 go) λ r s4 ⟨u,hr,h4⟩=>?_)
  subst hr;refine wpAny_bind (zS h4 λ _ s5 ⟨x,H5,I5,r5,y5,st5,fr5⟩=>?_);have I5':=I5.pinned (stat fr5) (T.obj _ _ st5);have back:∀{σ7:St} {H7:Hp} {s7:Shared},Inv X (pins++Ye fp s5.heap) σ7 H7 s7->N σ7 H7->∃m,m<n/\∃i σ' H',Inv X pins σ' H' s7/\tn i s7.heap/\(∀b∈fp,H' b=none)/\W i m σ' H':=λ {σ7 H7 s7} I7 n7=>by
   obtain ⟨m',hm,w7⟩:=hN σ7 H7 n7;refine ⟨m',hm,i+1,σ7,H7,I7.unpinned,T.keep _ _ _ st5 λ b hb o e=>(I7.pin (b,o) (mem_append_right _ (mem_append_right _ (Ki hb e)))).1,λ b hb=>?_,w7⟩;obtain ⟨o,e,d⟩:=T.obj _ _ st5 b hb;exact (I7.pin (b,o) (mem_append_right _ (mem_append_right _ (Ki hb e)))).2.1
  refine wpAny_bind (Jr hx (zS (hgt _ s5 σ3 H5 x u _ I5' r5 (step x H5 y5)) λ _ s6 ⟨σ6,H6,I6,q6⟩=>?_));refine wpAny_bind (Jr hx (zS (hi _ s6 σ6 H6 _ I6 q6) λ ok s7 ⟨H7,I7,q7⟩=>?_));cases ok with
  | false=>exact wpAny_pure ⟨rfl,back I7 q7⟩
  | true=>
   rw [if_pos rfl] at q7;exact hm _ s7 σ6 H7 D _ _ _ _ I7 q7 λ s8 σ8 H8 I8 q8=>wpAny_pure ⟨rfl,back I8 q8⟩
theorem Pm {g:TG}{ti:TT}{tm:wa}(hx:∀e s,X.xe e s->False)(hc:X.calm=true)(hg:gens[d]? =some ⟨tg,iter,ifs,0⟩)(ha:∀g',gens[d+1]? =some g'->g'.is_async=0)(hgt:PG X tg g)(hi:Zw X ifs ti)(hm:ku X elt gens sc pos d tm)
  {pins:List (Addr × Obj)}{σ:St}{H:Hp}{s:Shared}{D:Addr}{Q:St->Hp->Prop}{J:It}{it:Addr}{fp:List Addr}{tn:Nat->Heap->Prop}(T:Turn X.prog X.w X.K tg J fp it tn)(I:Inv X pins σ H s)(st:tn 0 s.heap)(hf:∀b∈fp,yY X pins H b)
  (h:Js J g ti tm D σ H Q){R:Result->Shared->Prop}(hR:∀s' σ' H',Inv X pins σ' H' s'->Q σ' H'->R (.ok .next) s'):
  codeAny (model X.prog X.w) X.A (.compStart (.ListComp elt gens sc pos) d (.ref it) (.ref D) X.env) R s:=by
 have loop:=FE hx hc hg ha hgt hi hm T I st hf h hR;refine codeAny_of_tree ?_;show wpAny _ _ ((compStart (.ListComp elt gens sc pos) d (.ref it) (.ref D) X.env).onRaise (λ x=>do noteFrame x X.env;standAt theWindowsPlace)) _ _ s
 refine wpAny_notedAt ?_;unfold compStart;have hcl:(clausesOf (.ListComp elt gens sc pos))[d]? =some ⟨tg,iter,ifs,0⟩:=hg;rw [hcl];show wpAny _ _ (ask >>= _) _ _ s;refine wpAny_bind (wpAny_askSetting (wpAny_ite ?_))
 split
 ·first
   | exact wpAny_bind (wpAny_pure (wpAny_pure (And.intro rfl loop)))
   | exact wpAny_pure (And.intro rfl loop)
 ·first
   | exact wpAny_bind (wpAny_rule (wpAny_bind (wpAny_standAt (wpAny_bind (T.self _ 0 s _ _ st (wpAny_pure (And.intro rfl loop)))))))
   | (refine wpAny_bind (wpAny_rule ?_);show wpAny _ _ (standAt iter.pos >>= _) _ _ s;exact wpAny_bind (wpAny_standAt (wpAny_bind (T.self _ 0 s _ _ st (wpAny_pure (And.intro rfl loop))))))
theorem LN {wi:TI}{g:TG}{ti:TT}{tm:wa}(hx:∀e s,X.xe e s->False)(hc:X.calm=true)(hg:gens[d+1]? =some ⟨tg,iter,ifs,0⟩)(ha:∀g',gens[d+2]? =some g'->g'.is_async=0)(hw:PI X tg iter wi)(hgt:PG X tg g)(hi:Zw X ifs ti)(hm:ku X elt gens sc pos (d+1) tm)
  (hs:∀x,foldedSetIterable iter X.env x=pure x:=by intro _;rfl):ku X elt gens sc pos d (CB wi g ti tm):=by
 intro pins s σ H D Q k Q' E I h hk;unfold Yw;rw [hg];refine wpAny_bind (Jr hx (zS (hw pins s σ H _ I h) λ v s1 h1=>?_));refine wpAny_bind (wpAny_standAt (wpAny_bind (wpAny_of_eq (hs v) ?_)));refine wpAny_bind (wpAny_holding (Jr hx (zS h1 λ itv s2 h2=>?_)));obtain ⟨it,fp,tn,J,H2,e,I2,T,wB,f2,q2⟩:=h2;subst e;refine wpAny_bind (wpAny_runOwn (Pm hx hc hg ha hgt hi hm T I2 wB f2 q2 λ s' σ' H' I' q'=>?_));exact hk s' σ' H' I' q'
end
noncomputable def gA (nl:Nat)(cap:List Nat)(σ:St):St:=List.replicate nl none++cap.map λ i=>(σ[i]?).join
noncomputable def Z1 (M N:List Str)(scope:Scope)(nl:Nat)(cap:List Nat):Bool:=
 N.length==nl+cap.length&&(List.range cap.length).all λ k=>match N[nl+k]?,M[cap.getD k 0]? with
  | some x,some y=>x==y&&scope.names.any λ z=>z.1==x&&z.2==NameKind.free
  | _,_=>false
theorem LO {M N:List Str}{scope:Scope}{nl:Nat}{cap:List Nat}(h:Z1 M N scope nl cap=true){σ:St}:(gA nl cap σ).length=N.length/\
  ∀(j:Nat) (x:Str) (v:V),N[j]? =some x->(gA nl cap σ)[j]? =some (some v)->(x,NameKind.free)∈scope.names/\∃i:Nat,M[i]? =some x/\σ[i]? =some (some v):=by
 unfold Z1 at h;rw [and_eq_true,beq_iff_eq] at h;obtain ⟨h1,h2⟩:=h;refine ⟨by unfold gA;simp [h1],λ j x v e1 e2=>?_⟩
 unfold gA at e2
 by_cases hj:j<nl
 ·rw [getElem?_append_left (by simpa using hj),getElem?_replicate] at e2
  split at e2<;>cases e2
 ·rw [getElem?_append_right (by simpa using hj),length_replicate,getElem?_map] at e2
  cases hc:cap[j - nl]? with
  | none=>rw [hc] at e2;cases e2
  | some i=>
   rw [hc] at e2;have e2':(σ[i]?).join=some v:=Option.some.inj e2;have hk:j - nl<cap.length:=(List.getElem?_eq_some_iff.mp hc).1;have h3:=List.all_eq_true.mp h2 (j - nl) (List.mem_range.mpr hk);have ej:nl+(j - nl)=j:=by omega
   rw [ej,e1] at h3;have ec:cap.getD (j - nl) 0=i:=by rw [getD_eq_getElem?_getD,hc];rfl
   rw [ec] at h3;cases hm:M[i]? with
   | none=>rw [hm] at h3;cases h3
   | some y=>
    rw [hm] at h3;rw [and_eq_true,beq_iff_eq] at h3;obtain ⟨h4,h5⟩:=h3;subst h4;obtain ⟨z,hz,hz2⟩:=List.any_eq_true.mp h5;rw [and_eq_true,beq_iff_eq,beq_iff_eq] at hz2;refine ⟨?_,i,hm,?_⟩
    ·obtain ⟨z1,z2⟩:=z
     obtain ⟨a1,a2⟩:=hz2;cases a1;cases a2;exact hz
    ·cases hs:σ[i]? with
     | none=>rw [hs] at e2';cases e2'
     | some o=>rw [hs] at e2';cases o with
      | none=>cases e2'
      | some w=>cases e2';rfl
noncomputable abbrev jJ:Value->Shared->Prop:=λ _ _=>False
noncomputable def Wa (K:Frag)(wi:TI)(g:TG)(ti:TT)(tm:wa)(nl:Nat)(cap:List Nat):TE:=λ σ H Q=>wi σ H λ J H2=>∀D,H2 D=none->K.lookup D=none->Js J g ti tm D (gA nl cap σ) (upd H2 D (.lst [])) λ _ H'=>Q (.ref D) H'
section
variable {X:Cx}{elt tg iter:Expr}{ifs:List Expr}{gs:List Comprehension}{sc:Scope}{pos p:Pos}{wi:TI}{g:TG}{ti:TT}{tm:wa}{N:List Str}{nl:Nat}{cap:List Nat}
theorem Vj (hc:X.calm=true)(S:gN X sc)(hcap:Z1 X.N N sc nl cap=true)(ha:∀g',gs[0]? =some g'->g'.is_async=0)(hw:PI X tg iter wi)
  {pins:List (Addr × Obj)}{σ:St}
  (hin:∀s H fp,Inv X pins σ H s->(∀b∈fp,yY X pins H b)->PG (jq X N sc s H fp jJ) tg g/\Zw (jq X N sc s H fp jJ) ifs ti/\ku (jq X N sc s H fp jJ) elt (⟨tg,iter,ifs,0⟩::gs) sc pos 0 tm)
  {H:Hp}{s:Shared}{Q:VK}(I:Inv X pins σ H s)(h:Wa X.K wi g ti tm nl cap σ H Q)
  {use:Option (Value->Sem Unit)}{Q':Value->Shared->Prop}
  (hend:∀(D C:Addr) (s':Shared) (H':Hp) (m:Str->Option Value),Inv X pins σ H' s'->Q (.ref D) H'->s'.heap.Ns C m->H' C=none->C≠X.env.locals->X.s0.heap.objs.size<=C->(∀x c,X.env.cells.lookup x=some c->c≠C)->(∀q∈X.pn++pins,q.1≠C)->
   compPost (model X.prog X.w) X.A X.xe use Q' (.ref D) C (.ok .next) s')
  (hs:∀x,foldedSetIterable iter X.env x=pure x:=by intro _;rfl):
  wpAny (model X.prog X.w) X.A (comprehension (.ListComp elt (⟨tg,iter,ifs,0⟩::gs) sc pos) sc X.env p (newList []) false (eval iter X.env) use) Q' X.xe s:=by
 have hfree:∀y∈sc.names,y.2=.free->∃c,X.env.cells.lookup y.1=some c:=λ y hy e=>I.ok.has _ (S.free y hy e);refine wpAny_comprehension_free (use:=use) rfl hs (Te hfree) S.kind (λ y hy e=>by
  obtain ⟨y1,y2⟩:=y;have e':y2=.local:=e;subst e';exact QU S.nd hy) ?_
 refine zS (hw pins s σ H _ I h) λ v s1 h1=>zS h1 λ itv s2 h2=>?_;obtain ⟨it,fp,tn,J,H2,e,I2,T,wB,f2,q2⟩:=h2;subst e;refine wpAny_newObj_type ?_;have hD:H2 s2.heap.objs.size=none:=I2.fresh;have hKD:X.K.lookup s2.heap.objs.size=none:=by
  cases ek:X.K.lookup s2.heap.objs.size with
  | none=>rfl
  | some o=>exact absurd (Heap.lt_size (I2.kIn _ _ ek)) (lt_irrefl _)
 have q3:=q2 _ hD hKD;generalize hs3:({ s2 with heap:=s2.heap.push { cls:=.type "list",data:=.seq ([]:List Value).toArray } }:Shared)=s3
 have hs3':s3={ s2 with heap:=s2.heap.push { cls:=.type "list",data:=.seq ([]:List Value).toArray } }:=hs3.symm
 have I3:Inv X pins σ (upd H2 s2.heap.objs.size (.lst [])) s3:=by
  rw [hs3'];exact I2.laid (t':=s2.toks) (λ b u e=>Heap.get?_push_of_some _ e) (le_refl _) ⟨by simp,[],0,.nil,Heap.get?_push_size _ rfl⟩
 have fpo:∀b∈fp,∃o,s2.heap.get? b=some o:=λ b hb=>let ⟨o,e,_⟩:=T.obj 0 _ wB b hb;⟨o,e⟩
 have sz3:s3.heap.objs.size=s2.heap.objs.size+1:=by rw [hs3'];exact Heap.size_push ..
 have w9:tn 0 s3.heap:=T.keep _ _ _ wB λ b hb o e=>by rw [hs3'];exact Heap.get?_push_of_some _ e
 have fl3:∀b∈fp,b<s3.heap.objs.size:=λ b hb=>by
  obtain ⟨o,e⟩:=fpo b hb;rw [sz3];exact lt_succ_of_lt (Heap.lt_size e)
 have f3:∀b∈fp,yY X pins (upd H2 s2.heap.objs.size (.lst [])) b:=λ b hb=>by
  obtain ⟨o,e⟩:=fpo b hb;refine ⟨?_,(f2 b hb).2⟩;rw [qj (ne_of_lt (Heap.lt_size e))];exact (f2 b hb).1
 generalize upd H2 s2.heap.objs.size (.lst [])=H3 at I3 f3 q3;generalize s2.heap.objs.size=D at q3 ⊢;refine Ov ?_;obtain ⟨cl,cs⟩:=LO hcap (σ:=σ);have I4:=LK (xe:=jJ) I3 S f3 fl3 cl cs;obtain ⟨hgt,hi,hm⟩:=hin s3 H3 fp I3 f3;refine Pm (X:=jq X N sc s3 H3 fp jJ) (gens:=⟨tg,iter,ifs,0⟩::gs) (d:=0) (λ _ _ z=>z) hc rfl ha hgt hi hm T I4 (T.keep _ _ _ w9 λ b hb o e=>pushCells_keeps _ _ _ _ (Heap.get?_push_of_some _ e)) (λ b hb=>?_) q3 λ s' σ' H' I' q'=>?_
 ·obtain ⟨g1,g2,g3,g4,g5,g6⟩:=f3 b hb
  refine ⟨g1,ne_of_lt (fl3 b hb),λ z=>?_,.inl hb,(I4.ok.exf b hb).2,λ p hp=>absurd (show p∈([]:List (Addr × Obj)) from hp) (by simp)⟩
  rcases List.mem_cons.mp (I3.stkSub b z) with e | e
  ·exact g2 e
  ·exact g3 e
 ·have I5:Inv X pins σ H' s':=I3.call' I'.os I'.base I'.hok I'.bare λ b hb=>by
   obtain ⟨g1,g2,g3,g4,g5,g6⟩:=f3 b hb;exact ⟨g4,g2,g5,g6⟩
  obtain ⟨m,hn,_⟩:=I'.loc;refine hend D _ s' H' m I5 q' hn I'.free (ne_of_gt I3.lt) I3.sz (λ x c e z=>?_) λ q hq z=>?_
  ·obtain ⟨v,w⟩:=I3.cell x c e
   exact lt_irrefl _ (lt_of_lt_of_le w.lt (by rw [z];exact le_refl _))
  ·exact lt_irrefl _ (lt_of_lt_of_le (Heap.lt_size (I3.pin q hq).1) (by rw [z];exact le_refl _))
theorem FY (hc:X.calm=true)(S:gN X sc)(hcap:Z1 X.N N sc nl cap=true)(ha:∀g',gs[0]? =some g'->g'.is_async=0)(hw:PI X tg iter wi)
  (hin:∀s H fp,PG (jq X N sc s H fp jJ) tg g/\Zw (jq X N sc s H fp jJ) ifs ti/\ku (jq X N sc s H fp jJ) elt (⟨tg,iter,ifs,0⟩::gs) sc pos 0 tm)
  (hs:∀x,foldedSetIterable iter X.env x=pure x:=by intro _;rfl):PE X (.ListComp elt (⟨tg,iter,ifs,0⟩::gs) sc pos) (Wa X.K wi g ti tm nl cap):=by
 intro pins s σ H Q I h;rw [eval_ListComp];refine Vj (use:=none) hc S hcap ha hw (λ s H fp _ _=>hin s H fp) I h (λ D C s' H' m I' q hn h1 h2 h3 h4 h5=>?_) hs;exact ⟨m,hn,λ h' sb=>⟨.ref D,H',I'.turned (t':=s'.toks) (λ b o hb e=>(sb.2 b hb).trans e) h1 h2 (.inr h3) h4 h5,rfl,q⟩⟩
theorem NY {i:Nat}{x:Str}{px:Pos}{spos:Pos}(hN:X.N.Nodup)(hi':X.N[i]? =some x)(hx:X.env.scope.names.lookup x=some .local)
  (hsw:swapsWith (.ListComp elt (⟨tg,iter,ifs,0⟩::gs) sc pos) (some (.Name x px)) spos.line X.env=pure true)
  (hc:X.calm=true)(S:gN X sc)(hcap:Z1 X.N N sc nl cap=true)(ha:∀g',gs[0]? =some g'->g'.is_async=0)(hw:PI X tg iter wi)
  (hin:∀s H fp,PG (jq X N sc s H fp jJ) tg g/\Zw (jq X N sc s H fp jJ) ifs ti/\ku (jq X N sc s H fp jJ) elt (⟨tg,iter,ifs,0⟩::gs) sc pos 0 tm)
  (hs:∀x,foldedSetIterable iter X.env x=pure x:=by intro _;rfl):PS X (.Assign [.Name x px] (.ListComp elt (⟨tg,iter,ifs,0⟩::gs) sc pos) spos) (Wq (Wa X.K wi g ti tm nl cap) (Wc i)):=by
 intro pins s σ H D I h;rw [exec_Assign_Name_used _ _ _ _ hsw];refine wpAny_bind (wpAny_standAt (wpAny_bind ?_));show wpAny _ X.A (do let _ <- comprehension (.ListComp elt (⟨tg,iter,ifs,0⟩::gs) sc pos) sc X.env _ (newList []) false (eval iter X.env) (some (assign (.Name x px) X.env))) _ _ s
 refine wpAny_bind (wpAny_mono (Vj (use:=some (assign (.Name x px) X.env)) (Q':=λ _ s'=>SP X pins D .next s') hc S hcap ha hw (λ s H fp _ _=>hin s H fp) I h (λ D' C s' H' m I' q hn h1 h2 h3 h4 h5=>?_) hs) (λ _ s' hq=>wpAny_pure (wpAny_pure hq)) λ _ _ e=>e);show wpAny _ X.A (assign (.Name x px) X.env (.ref D')) _ _ _;refine wpAny_assign_Name (TM I' hN hi' (.inl hx) (v:=.ref D') rfl (λ s2 I2 ⟨a,sb,ea⟩=>?_) (.inr hx));have hCa:C≠a:=by
  rcases ea with e | e
  ·rw [e];exact h2
  ·exact λ z=>h4 x a e z.symm
 refine ⟨m,hn.sameBut sb hCa,λ h' sb'=>⟨_,H',I2.turned (t':=s2.toks) (λ b o hb e=>(sb'.2 b hb).trans e) h1 h2 (.inr h3) h4 h5,q⟩⟩
end
end L2
namespace Mi
open PySem PySem.Spec PyProof.Rows L2
inductive W where
 | non | bl (b:Bool) | int (i:Int) | str (x:Str) | tup (xs:List W) | ref (n:Nat)
 | clo (k:Nat) (xs:List W) (P:Obj->Addr->Obj->List V->Prop)
 | xc (x:Str)
inductive O where
 | lst (xs:List W) | ro (xs:List W) | dct (kvs:List (Key × W))
 | tab (q:Str) (P:Addr)
noncomputable def O.mut:O->Bool
 | .ro _=>false
 | _=>true
noncomputable abbrev Hx:=List O
noncomputable abbrev En:=List (Option W)
inductive R (α:Type) where
 | ok (a:α) (A:Hx) | exc (x:Str) (A:Hx) | bad
noncomputable def R.bind {α β:Type}(r:R α)(f:α->Hx->R β):R β:=match r with
 | .ok a A=>f a A
 | .exc x A=>.exc x A
 | .bad=>.bad
noncomputable def R.post {α:Type}(r:R α)(P:α->Hx->Prop)(E:Str->Hx->Prop):Prop:=match r with
 | .ok a A=>P a A
 | .exc x A=>E x A
 | .bad=>False
noncomputable def R.nox {α:Type}(r:R α):R α:=match r with
 | .ok a A=>.ok a A
 | .exc _ _=>.bad
 | .bad=>.bad
section
variable {α β:Type}{r:R α}{f:α->Hx->R β}{P Q:α->Hx->Prop}{P':β->Hx->Prop}{E F:Str->Hx->Prop}
theorem zL {a:α}{A:Hx}:(R.ok a A).bind f=f a A:=rfl
theorem Sz {x:Str}{A:Hx}:(R.exc x A:R α).bind f=.exc x A:=rfl
theorem zY:(r.bind f).post P' E↔r.post (λ a A=>(f a A).post P' E) E:=by cases r<;>exact Iff.rfl
theorem qp (h:r.post P E)(hP:∀a A,P a A->Q a A)(hE:∀x A,E x A->F x A):r.post Q F:=by
 cases r with
 | ok a A=>exact hP _ _ h
 | exc x A=>exact hE _ _ h
 | bad=>exact h
end
noncomputable abbrev Ev:=En->Hx->R W
inductive CU (K:Frag)(H:Hp)(R:List V->Prop)(v:V):Prop
 | mk (a:Addr) (vs:List V) (e:v=.ref a) (h:qG K H a vs) (r:R vs)
inductive CY (H:Hp)(P:Obj->Addr->Obj->List V->Prop)(R:List V->Prop)(v:V):Prop
 | mk (a:Addr) (ob:Obj) (u:HO) (c:Addr) (oc:Obj) (uc:HO) (vs:List V) (e:v=.ref a) (h1:H a=some (.frz ob u)) (h2:H c=some (.frz oc uc)) (p:P ob c oc vs) (r:R vs)
inductive C8 (R:V->Prop)(Rs:List V->Prop)(vs:List V):Prop
 | mk (v:V) (r:List V) (e:vs=v::r) (h:R v) (t:Rs r)
mutual
noncomputable def RV (K:Frag)(φ:List Addr)(H:Hp):W->V->Prop
 | .non,v=>v=.non
 | .bl b,v=>v=.bl b
 | .int i,v=>v=.int i
 | .str x,v=>v=.str x
 | .tup ws,v=>CU K H (zD K φ H ws) v
 | .ref n,v=>∃a,v=.ref a/\φ[n]? =some a
 | .clo _ ws P,v=>CY H P (zD K φ H ws) v
 | .xc x,v=>∃a oe u C,v=.ref a/\H a=some (.frz oe u)/\oe.cls=.ref C/\PySem.W.nsIn K mainGlobals x=some (some (.ref C))
noncomputable def zD (K:Frag)(φ:List Addr)(H:Hp):List W->List V->Prop
 | [],vs=>vs=[]
 | w::ws,vs=>C8 (RV K φ H w) (zD K φ H ws) vs
end
structure Le (K:Frag)(φ:List Addr)(H:Hp)(φ':List Addr)(H':Hp):Prop where
 ex:∀(n:Nat) (a:Addr),φ[n]? =some a->φ'[n]? =some a
 tp:∀a vs,qG K H a vs->qG K H' a vs
 fr:∀a o,H a=some o->(∀n:Nat,φ[n]?≠some a)->H' a=some o
 nw:∀(n:Nat) (a:Addr),φ'[n]? =some a->φ[n]? =some a∨H a=none
 st:∀a,H' a=none->H a=none
 fz:∀a o u,H a=some (.frz o u)->H' a=some (.frz o u)
theorem Le.refl {K φ H}:Le K φ H φ H:=⟨λ _ _ h=>h,λ _ _ h=>h,λ _ _ h _=>h,λ _ _ h=>.inl h,λ _ h=>h,λ _ _ _ h=>h⟩
theorem Le.trans {K φ H φ1 H1 φ2 H2}(a:Le K φ H φ1 H1)(b:Le K φ1 H1 φ2 H2):Le K φ H φ2 H2 where
 ex:=λ n x h=>b.ex n x (a.ex n x h)
 tp:=λ n x h=>b.tp n x (a.tp n x h)
 fr:=λ c o h n=>b.fr c o (a.fr c o h n) λ k e=>by
  rcases a.nw k c e with e | e
  ·exact n k e
  ·rw [h] at e;cases e
 nw:=λ n c e=>by
  rcases b.nw n c e with e | e
  ·exact a.nw n c e
  ·exact .inr (a.st c e)
 st:=λ c e=>a.st c (b.st c e)
 fz:=λ c o u h=>b.fz c o u (a.fz c o u h)
theorem Le.off {K φ H φ' H'}(l:Le K φ H φ' H'){D:Addr}{o:HO}(h:H D=some o)(n:∀k:Nat,φ[k]?≠some D):H' D=some o/\∀k:Nat,φ'[k]?≠some D:=
 ⟨l.fr D o h n,λ k e=>by
  rcases l.nw k D e with e | e
  ·exact n k e
  ·rw [h] at e;cases e⟩
section
variable {K:Frag}{φ φ':List Addr}{H H':Hp}
structure gB (K:Frag)(φ:List Addr)(H:Hp)(φ':List Addr)(H':Hp):Prop where
 ex:∀(n:Nat) (a:Addr),φ[n]? =some a->φ'[n]? =some a
 tp:∀a vs,qG K H a vs->qG K H' a vs
 fz:∀a o u,H a=some (.frz o u)->H' a=some (.frz o u)
mutual
theorem RV.monoW (l:gB K φ H φ' H'):∀{w:W} {v:V},RV K φ H w v->RV K φ' H' w v
 | .non,_,h=>h
 | .bl _,_,h=>h
 | .int _,_,h=>h
 | .str _,_,h=>h
 | .tup ws,_,⟨a,vs,e,t,r⟩=>⟨a,vs,e,l.tp _ _ t,zD.monoW l r⟩
 | .ref n,_,⟨a,e,f⟩=>⟨a,e,l.ex _ _ f⟩
 | .clo _ ws P,_,⟨a,ob,u,c,oc,uc,vs,e,h1,h2,h3,r⟩=>⟨a,ob,u,c,oc,uc,vs,e,l.fz _ _ _ h1,l.fz _ _ _ h2,h3,zD.monoW l r⟩
 | .xc x,_,⟨a,oe,u,C,e,h1,h2⟩=>⟨a,oe,u,C,e,l.fz _ _ _ h1,h2⟩
theorem zD.monoW (l:gB K φ H φ' H'):∀{ws:List W} {vs:List V},zD K φ H ws vs->zD K φ' H' ws vs
 | [],_,h=>h
 | w::ws,_,⟨v,r,e,h,t⟩=>⟨v,r,e,RV.monoW l h,zD.monoW l t⟩
end
theorem RV.mono {w:W}{v:V}(h:RV K φ H w v)(l:Le K φ H φ' H'):RV K φ' H' w v:=RV.monoW ⟨l.ex,l.tp,l.fz⟩ h
theorem zD.mono {w:List W}{v:List V}(h:zD K φ H w v)(l:Le K φ H φ' H'):zD K φ' H' w v:=zD.monoW ⟨l.ex,l.tp,l.fz⟩ h
structure jZ (K:Frag)(D:Addr)(φ:List Addr)(H:Hp)(φ':List Addr)(H':Hp):Prop where
 ex:∀(n:Nat) (a:Addr),φ[n]? =some a->φ'[n]? =some a
 tp:∀a vs,qG K H a vs->qG K H' a vs
 fr:∀a o,a≠D->H a=some o->(∀n:Nat,φ[n]?≠some a)->H' a=some o
 nw:∀(n:Nat) (a:Addr),φ'[n]? =some a->φ[n]? =some a∨H a=none
 st:∀a,H' a=none->H a=none
 fz:∀a o u,H a=some (.frz o u)->H' a=some (.frz o u)
theorem jZ.refl {D}:jZ K D φ H φ H:=⟨λ _ _ h=>h,λ _ _ h=>h,λ _ _ _ h _=>h,λ _ _ h=>.inl h,λ _ h=>h,λ _ _ _ h=>h⟩
theorem Le.toD {D}(l:Le K φ H φ' H'):jZ K D φ H φ' H':=⟨l.ex,l.tp,λ a o _ h n=>l.fr a o h n,l.nw,l.st,l.fz⟩
theorem jZ.trans {D φ1 H1 φ2 H2}(a:jZ K D φ H φ1 H1)(b:jZ K D φ1 H1 φ2 H2):jZ K D φ H φ2 H2 where
 ex:=λ n x h=>b.ex n x (a.ex n x h)
 tp:=λ n x h=>b.tp n x (a.tp n x h)
 fr:=λ c o ne h n=>b.fr c o ne (a.fr c o ne h n) λ k e=>by
  rcases a.nw k c e with e | e
  ·exact n k e
  ·rw [h] at e;cases e
 nw:=λ n c e=>by
  rcases b.nw n c e with e | e
  ·exact a.nw n c e
  ·exact .inr (a.st c e)
 st:=λ c e=>a.st c (b.st c e)
 fz:=λ c o u h=>b.fz c o u (a.fz c o u h)
theorem RV.monoD {D}{w:W}{v:V}(h:RV K φ H w v)(l:jZ K D φ H φ' H'):RV K φ' H' w v:=RV.monoW ⟨l.ex,l.tp,l.fz⟩ h
theorem zD.monoD {D}{w:List W}{v:List V}(h:zD K φ H w v)(l:jZ K D φ H φ' H'):zD K φ' H' w v:=zD.monoW ⟨l.ex,l.tp,l.fz⟩ h
theorem zD.length:∀{ws:List W} {vs:List V},zD K φ H ws vs->ws.length=vs.length
 | [],_,h=>by cases h;rfl
 | w::ws,_,⟨v,r,e,_,t⟩=>by subst e;simp [zD.length t]
theorem zD.get:∀{ws:List W} {vs:List V} {i:Nat} {w:W},zD K φ H ws vs->ws[i]? =some w->∃v,vs[i]? =some v/\RV K φ H w v
 | [],_,_,_,_,e=>by simp at e
 | w::ws,_,0,_,⟨v,r,e,h,t⟩,q=>by subst e;simp at q;subst q;exact ⟨v,by simp,h⟩
 | w::ws,_,i+1,x,⟨v,r,e,h,t⟩,q=>by
  subst e;obtain ⟨y,h1,h2⟩:=zD.get (i:=i) (w:=x) t (by simpa using q)
  exact ⟨y,by simpa using h1,h2⟩
theorem zD.append:∀{ws us:List W} {vs xs:List V},zD K φ H ws vs->zD K φ H us xs->zD K φ H (ws++us) (vs++xs)
 | [],_,_,_,h,t=>by cases h;exact t
 | w::ws,_,_,_,⟨v,r,e,h,t⟩,t2=>by subst e;exact ⟨v,r++_,rfl,h,zD.append t t2⟩
theorem zD.one {w:W}{v:V}(h:RV K φ H w v):zD K φ H [w] [v]:=⟨v,[],rfl,h,rfl⟩
theorem zD.nil:zD K φ H [] []:=rfl
theorem zD.cons {w:W}{v:V}{ws:List W}{vs:List V}(h:RV K φ H w v)(t:zD K φ H ws vs):zD K φ H (w::ws) (v::vs):=⟨v,vs,rfl,h,t⟩
theorem zD.set {w:W}{v:V}(q:RV K φ H w v):∀{ws:List W} {vs:List V} (i:Nat),zD K φ H ws vs->zD K φ H (ws.set i w) (vs.set i v)
 | [],_,_,h=>by cases h;exact rfl
 | _::_,_,0,⟨v',r,e,h,t⟩=>by subst e;exact ⟨v,r,rfl,q,t⟩
 | _::_,_,i+1,⟨v',r,e,h,t⟩=>by subst e;exact ⟨v',_,rfl,h,zD.set q i t⟩
theorem zD.erase:∀{ws:List W} {vs:List V} (n:Nat),zD K φ H ws vs->zD K φ H (ws.eraseIdx n) (vs.eraseIdx n)
 | [],_,n,h=>by cases h;rw [List.eraseIdx_nil,List.eraseIdx_nil];exact zD.nil
 | _::_,_,0,⟨v',r,e,h,t⟩=>by subst e;simpa using t
 | _::_,_,n+1,⟨v',r,e,h,t⟩=>by subst e;exact ⟨v',_,rfl,h,zD.erase n t⟩
theorem zD.ints:∀{ns:List Int} {vs:List V},zD K φ H (ns.map W.int) vs↔vs=ns.map V.int
 | [],vs=>Iff.rfl
 | n::ns,vs=>by
  constructor
  ·rintro ⟨v,r,e,h,t⟩
   rw [e,(show v=V.int n from h),zD.ints.mp t];rfl
  ·intro e
   exact ⟨V.int n,ns.map V.int,e,rfl,zD.ints.mpr rfl⟩
noncomputable def JE (K:Frag)(H:Hp)(a:Addr)(xs:List V):Prop:=
 (∃ob,H a=some (.frz ob (.lst xs)))∨
  ∃(o:Obj) (its:Array Value) (n:Nat),K.lookup a=some o/\o.cls=.type "list" /\ o.dict=none/\o.data=.seq its n/\its.size<=sizeLine/\Vals xs its.toList
theorem JE.sq {a:Addr}{xs:List V}(h:JE K H a xs):je K H a xs:=by
 rcases h with h | h
 ·exact .inl (.inr h)
 ·exact .inr h
inductive TabAt (H:Hp)(q:Str)(cv:Value):Prop
 | mk (c:Addr) (oc:Obj) (u:HO) (vs:Array Value) (t:Tok) (e:cv=.ref c) (h:H c=some (.frz oc u)) (d:oc.data=.fields vs/\vs[1]? =some (.str q t))
noncomputable def YC (H:Hp)(q:Str)(ps:Array Value):Prop:=TriplesOk ps.toList/\∀pos cv,codeAmong pos ps.toList=some cv->TabAt H q cv
theorem YC.mono {q:Str}{ps:Array Value}(h:YC H q ps)(l:∀a o u,H a=some (.frz o u)->H' a=some (.frz o u)):YC H' q ps:=
 ⟨h.1,λ pos cv e=>by obtain ⟨c,oc,u,vs,t,h1,h2,h3⟩:=h.2 pos cv e;exact ⟨c,oc,u,vs,t,h1,l _ _ _ h2,h3⟩⟩
noncomputable def OR (K:Frag)(φ:List Addr)(H:Hp)(a:Addr):O->Prop
 | .lst ws=>∃vs,H a=some (.lst vs)/\zD K φ H ws vs
 | .ro ws=>∃vs,JE K H a vs/\zD K φ H ws vs
 | .dct kvs=>∃us,H a=some (.dK us)/\us.map (·.1)=kvs.map (·.1)/\zD K φ H (kvs.map (·.2)) (us.map (·.2))
 | .tab q P=>a=P/\∃ps,H a=some (.tbl ps)/\YC H q ps
structure zH (K:Frag)(φ:List Addr)(A:Hx)(H:Hp):Prop where
 len:φ.length=A.length
 inj:∀(i j:Nat) (a:Addr) (o o':O),φ[i]? =some a->φ[j]? =some a->A[i]? =some o->A[j]? =some o'->o.mut=true->o'.mut=true->i=j
 ob:∀(n:Nat) (o:O),A[n]? =some o->∃a,φ[n]? =some a/\OR K φ H a o
variable {A A':Hx}
theorem OR.there {a:Addr}{o:O}(h:OR K φ H a o)(m:o.mut=true):∃u,H a=some u/\(∀xs,u≠.tup xs)/\(∀ob v,u≠.frz ob v):=by
 cases o with
 | lst ws=>obtain ⟨vs,e,_⟩:=h;exact ⟨_,e,λ _ z=>(by cases z),λ _ _ z=>(by cases z)⟩
 | ro ws=>cases m
 | dct kvs=>obtain ⟨vs,e,_⟩:=h;exact ⟨_,e,λ _ z=>(by cases z),λ _ _ z=>(by cases z)⟩
 | tab q P=>obtain ⟨_,vs,e,_⟩:=h;exact ⟨_,e,λ _ z=>(by cases z),λ _ _ z=>(by cases z)⟩
theorem Vg {a b:Addr}{o:HO}{vs:List V}(h:qG K H a vs)(n:∀xs,H b≠some (.tup xs))(nf:∀ob u,H b≠some (.frz ob u)):qG K (upd H b o) a vs:=by
 rcases h with (h | ⟨ob,h⟩) | h
 ·exact .inl (.inl (by rw [qj];exact h;intro e;subst e;exact n _ h))
 ·exact .inl (.inr ⟨ob,by rw [qj];exact h;intro e;subst e;exact nf _ _ h⟩)
 ·exact .inr h
theorem Le.upd {b:Addr}{o:HO}{k:Nat}(hb:φ[k]? =some b)(n:∀xs,H b≠some (.tup xs))(nf:∀ob u,H b≠some (.frz ob u)):Le K φ H φ (upd H b o) where
 ex:=λ _ _ h=>h
 tp:=λ _ _ h=>Vg h n nf
 fr:=λ a u h z=>by
  rw [qj];exact h;intro e;subst e;exact z k hb
 nw:=λ _ _ h=>.inl h
 st:=λ a h=>by
  by_cases e:a=b
  ·subst e;rw [jy] at h;cases h
  ·rw [qj e] at h;exact h
 fz:=λ a ob u h=>by
  rw [qj];exact h;intro e;subst e;exact nf _ _ h
theorem Le.new {p:Addr}{o:HO}(hp:H p=none):Le K φ H φ (L2.upd H p o) where
 ex:=λ _ _ h=>h
 tp:=λ _ _ h=>Vg h (λ xs z=>by rw [hp] at z;cases z) (λ _ _ z=>by rw [hp] at z;cases z)
 fr:=λ a u h z=>by
  rw [qj];exact h;intro e;subst e;rw [hp] at h;cases h
 nw:=λ _ _ h=>.inl h
 st:=λ a h=>by
  by_cases e:a=p
  ·subst e;rw [jy] at h;cases h
  ·rw [qj e] at h;exact h
 fz:=λ a ob u h=>by
  rw [qj];exact h;intro e;subst e;rw [hp] at h;cases h
theorem Le.alloc {p:Addr}{o:HO}(hp:H p=none):Le K φ H (φ++[p]) (L2.upd H p o) where
 ex:=λ n a h=>by
  have:=(List.getElem?_eq_some_iff.mp h).1
  rw [getElem?_append_left this];exact h
 tp:=(Le.new (φ:=φ) hp).tp
 fr:=(Le.new (K:=K) (φ:=φ) hp).fr
 nw:=λ n a h=>by
  by_cases hn:n < φ.length
  ·rw [getElem?_append_left hn] at h;exact .inl h
  ·rw [getElem?_append_right (by omega)] at h
   have e:a=p:=by
    have:=mem_of_getElem? h
    simpa using this
   subst e;exact .inr hp
 st:=(Le.new (K:=K) (φ:=φ) hp).st
 fz:=(Le.new (K:=K) (φ:=φ) hp).fz
theorem Le.ofD {D:Addr}{o:HO}(hD:H D=none)(l:jZ K D φ (L2.upd H D o) φ' H'):Le K φ H φ' H' where
 ex:=l.ex
 tp:=λ a vs h=>l.tp a vs ((Le.new (K:=K) (φ:=φ) hD).tp a vs h)
 fr:=λ a u h n=>by
  have ne:a≠D:=by rintro rfl;rw [hD] at h;cases h
  exact l.fr a u ne (by rw [qj ne];exact h) n
 nw:=λ n a e=>by
  rcases l.nw n a e with e | e
  ·exact .inl e
  ·by_cases h:a=D
   ·subst h;rw [jy] at e;cases e
   ·rw [qj h] at e;exact .inr e
 st:=λ a e=>by
  have e':=l.st a e
  by_cases h:a=D
  ·subst h;rw [jy] at e';cases e'
  ·rw [qj h] at e';exact e'
 fz:=λ a ob u h=>l.fz a ob u (by rw [qj];exact h;rintro rfl;rw [hD] at h;cases h)
theorem jZ.upd {D:Addr}{o:HO}{xs:List V}(hD:H D=some (.lst xs)):jZ K D φ H φ (L2.upd H D o) where
 ex:=λ _ _ h=>h
 tp:=λ a vs h=>Vg h (λ xs z=>by rw [hD] at z;cases z) (λ _ _ z=>by rw [hD] at z;cases z)
 fr:=λ a u ne h n=>by rw [qj ne];exact h
 nw:=λ _ _ h=>.inl h
 st:=λ a e=>by
  by_cases h:a=D
  ·subst h;rw [jy] at e;cases e
  ·rw [qj h] at e;exact e
 fz:=λ a ob u h=>by
  rw [qj];exact h;intro e;subst e;rw [hD] at h;cases h
theorem OR.keep {a:Addr}{o:O}(h:OR K φ H a o)(l:Le K φ H φ' H')(e:∀u,H a=some u->H' a=some u):OR K φ' H' a o:=by
 cases o with
 | lst ws=>obtain ⟨vs,q,r⟩:=h;exact ⟨vs,e _ q,r.mono l⟩
 | dct kvs=>obtain ⟨vs,q,k,r⟩:=h;exact ⟨vs,e _ q,k,r.mono l⟩
 | tab q P=>obtain ⟨k,ps,q,r⟩:=h;exact ⟨k,ps,e _ q,r.mono l.fz⟩
 | ro ws=>
  obtain ⟨vs,q,r⟩:=h;refine ⟨vs,?_,r.mono l⟩;rcases q with ⟨ob,q⟩ | q
  ·exact .inl ⟨ob,e _ q⟩
  ·exact .inr q
theorem zH.alloc {p:Addr}{u:HO}{o:O}(S:zH K φ A H)(hp:H p=none)(new:OR K (φ++[p]) (L2.upd H p u) p o):Le K φ H (φ++[p]) (L2.upd H p u)/\zH K (φ++[p]) (A++[o]) (L2.upd H p u):=by
 have l:Le K φ H (φ++[p]) (L2.upd H p u):=Le.alloc hp;have old:∀(i:Nat) a,(φ++[p])[i]? =some a->i<A.length->φ[i]? =some a:=λ i a e hi=>by
  rw [getElem?_append_left (by rw [S.len];exact hi)] at e;exact e
 refine ⟨l,by simp [S.len],λ i j a o1 o2 h1 h2 h3 h4 m1 m2=>?_,λ n o' e=>?_⟩
 ·by_cases hi:i<A.length
  ·by_cases hj:j<A.length
   ·rw [getElem?_append_left hi] at h3
    rw [getElem?_append_left hj] at h4;exact S.inj i j a o1 o2 (old i a h1 hi) (old j a h2 hj) h3 h4 m1 m2
   ·exfalso
    rw [getElem?_append_left hi] at h3;have hj':j=A.length:=by have:=(List.getElem?_eq_some_iff.mp h4).1;simp at this;omega
    subst hj';rw [getElem?_append_right (by rw [S.len];exact le_refl _),S.len] at h2
    simp at h2;obtain ⟨a',e1,q⟩:=S.ob i o1 h3;rw [old i a h1 hi] at e1;cases e1;obtain ⟨z,hz,_⟩:=q.there m1;rw [<- h2,hp] at hz;cases hz
  ·have hi':i=A.length:=by have:=(List.getElem?_eq_some_iff.mp h3).1;simp at this;omega
   by_cases hj:j<A.length
   ·exfalso
    rw [getElem?_append_left hj] at h4;subst hi';rw [getElem?_append_right (by rw [S.len];exact le_refl _),S.len] at h1
    simp at h1;obtain ⟨a',e1,q⟩:=S.ob j o2 h4;rw [old j a h2 hj] at e1;cases e1;obtain ⟨z,hz,_⟩:=q.there m2;rw [<- h1,hp] at hz;cases hz
   ·have:=(List.getElem?_eq_some_iff.mp h4).1;simp at this;omega
 ·by_cases hn:n<A.length
  ·rw [getElem?_append_left hn] at e
   obtain ⟨a,e1,q⟩:=S.ob n o' e;refine ⟨a,l.ex _ _ e1,q.keep l λ z hz=>?_⟩;rw [qj];exact hz;intro e2;subst e2;rw [hp] at hz;cases hz
  ·have hn':n=A.length:=by have:=(List.getElem?_eq_some_iff.mp e).1;simp at this;omega
   subst hn';rw [getElem?_append_right (le_refl _)] at e;simp at e;subst e;exact ⟨p,by rw [getElem?_append_right (by rw [S.len];exact le_refl _),S.len];simp,new⟩
theorem zH.write {n:Nat}{p:Addr}{u:HO}{o o':O}(S:zH K φ A H)(hn:A[n]? =some o)(m:o.mut=true)(m':o'.mut=true)(hp:φ[n]? =some p)(new:OR K φ (L2.upd H p u) p o'):
  Le K φ H φ (L2.upd H p u)/\zH K φ (A.set n o') (L2.upd H p u):=by
 obtain ⟨p',e,q⟩:=S.ob n o hn;rw [hp] at e;cases e;obtain ⟨z,hz,nt,nf⟩:=q.there m;have l:Le K φ H φ (L2.upd H p u):=Le.upd hp (λ xs e=>by rw [hz] at e;exact nt xs (Option.some.inj e)) λ ob v e=>by rw [hz] at e;exact nf ob v (Option.some.inj e)
 have mt:∀(i:Nat) (w:O),(A.set n o')[i]? =some w->w.mut=true->∃w',A[i]? =some w'/\w'.mut=true:=λ i w e mw=>by
  by_cases hi:i=n
  ·subst hi;exact ⟨o,hn,m⟩
  ·rw [getElem?_set_ne (Ne.symm hi)] at e;exact ⟨w,e,mw⟩
 refine ⟨l,by simp [S.len],λ i j a o1 o2 h1 h2 h3 h4 m1 m2=>?_,λ i w e=>?_⟩
 ·obtain ⟨w1,e1,k1⟩:=mt i o1 h3 m1
  obtain ⟨w2,e2,k2⟩:=mt j o2 h4 m2;exact S.inj i j a w1 w2 h1 h2 e1 e2 k1 k2
 ·by_cases hi:i=n
  ·subst hi
   have:i<A.length:=(List.getElem?_eq_some_iff.mp hn).1
   rw [getElem?_set_self this] at e;cases e;exact ⟨p,hp,new⟩
  ·rw [getElem?_set_ne (Ne.symm hi)] at e
   obtain ⟨a,e1,r⟩:=S.ob i w e;refine ⟨a,e1,?_⟩
   by_cases hm:w.mut=true
   ·have ne:a≠p:=λ z=>hi (S.inj i n a w o e1 (by rw [z];exact hp) e hn hm m)
    exact r.keep l λ z hz=>by rw [qj ne];exact hz
   ·cases w with
    | lst _=>exact absurd rfl hm
    | dct _=>exact absurd rfl hm
    | tab _ _=>exact absurd rfl hm
    | ro ws=>
     obtain ⟨vs,r1,r2⟩:=r;refine ⟨vs,?_,r2.mono l⟩;rcases r1 with ⟨ob,r1⟩ | r1
     ·refine .inl ⟨ob,?_⟩
      rw [qj];exact r1;intro z;subst z;rw [hz] at r1;exact nf _ _ (Option.some.inj r1)
     ·exact .inr r1
theorem zH.lay {p:Addr}{u:HO}(S:zH K φ A H)(hp:H p=none):zH K φ A (L2.upd H p u):=
 ⟨S.len,S.inj,λ n o e=>by
  obtain ⟨a,e1,q⟩:=S.ob n o e;refine ⟨a,e1,q.keep (Le.new hp) λ z hz=>?_⟩;rw [qj];exact hz;intro e2;subst e2;rw [hp] at hz;cases hz⟩
theorem zH.off {D:Addr}{o:HO}{xs:List V}(S:zH K φ A H)(hD:H D=some (.lst xs))(n:∀k:Nat,φ[k]?≠some D):zH K φ A (L2.upd H D o):=
 ⟨S.len,S.inj,λ k u e=>by
  obtain ⟨a,e1,q⟩:=S.ob k u e;have ne:a≠D:=λ z=>n k (by rw [<- z];exact e1)
  have l:jZ K D φ H φ (L2.upd H D o):=jZ.upd hD;refine ⟨a,e1,?_⟩;cases u with
  | lst ws=>obtain ⟨vs,q,r⟩:=q;exact ⟨vs,by rw [qj ne];exact q,r.monoD l⟩
  | dct kvs=>obtain ⟨vs,q,k,r⟩:=q;exact ⟨vs,by rw [qj ne];exact q,k,r.monoD l⟩
  | tab _ _=>obtain ⟨k,vs,q,r⟩:=q;exact ⟨k,vs,by rw [qj ne];exact q,r.mono l.fz⟩
  | ro ws=>
   obtain ⟨vs,q,r⟩:=q;refine ⟨vs,?_,r.monoD l⟩;rcases q with ⟨ob,q⟩ | q
   ·exact .inl ⟨ob,by rw [qj ne];exact q⟩
   ·exact .inr q⟩
theorem zH.notin {D:Addr}(S:zH K φ A H)(hD:H D=none)(hK:K.lookup D=none):∀k:Nat,φ[k]?≠some D:=λ k e=>by
 have hk:k<A.length:=by rw [<- S.len];exact (List.getElem?_eq_some_iff.mp e).1
 obtain ⟨a,e1,q⟩:=S.ob k A[k] (by simp [hk])
 rw [e] at e1;cases e1;cases ho:A[k] with
 | lst ws=>rw [ho] at q;obtain ⟨vs,z,_⟩:=q;rw [hD] at z;cases z
 | dct ws=>rw [ho] at q;obtain ⟨vs,z,_⟩:=q;rw [hD] at z;cases z
 | tab _ _=>rw [ho] at q;obtain ⟨_,vs,z,_⟩:=q;rw [hD] at z;cases z
 | ro ws=>
  rw [ho] at q;obtain ⟨vs,z,_⟩:=q;rcases z with ⟨ob,z⟩ | ⟨o,its,n,z,_⟩
  ·rw [hD] at z;cases z
  ·rw [hK] at z;cases z
theorem zH.Ju {D:Addr}{u:HO}{o:O}(S:zH K φ A H)(hD:H D=some u)(n:∀k:Nat,φ[k]?≠some D)(new:OR K (φ++[D]) H D o):zH K (φ++[D]) (A++[o]) H:=by
 have l:gB K φ H (φ++[D]) H:=⟨λ n a h=>by
  have:=(List.getElem?_eq_some_iff.mp h).1
  rw [getElem?_append_left this];exact h,λ _ _ h=>h,λ _ _ _ h=>h⟩
 have old:∀(i:Nat) a,(φ++[D])[i]? =some a->i<A.length->φ[i]? =some a:=λ i a e hi=>by
  rw [getElem?_append_left (by rw [S.len];exact hi)] at e;exact e
 have last:∀a,(φ++[D])[A.length]? =some a->a=D:=λ a e=>by
  rw [getElem?_append_right (by rw [S.len];exact le_refl _),S.len] at e
  simpa using e.symm
 refine ⟨by simp [S.len],λ i j a o1 o2 h1 h2 h3 h4 m1 m2=>?_,λ k o' e=>?_⟩
 ·by_cases hi:i<A.length
  ·by_cases hj:j<A.length
   ·rw [getElem?_append_left hi] at h3
    rw [getElem?_append_left hj] at h4;exact S.inj i j a o1 o2 (old i a h1 hi) (old j a h2 hj) h3 h4 m1 m2
   ·exfalso
    have hj':j=A.length:=by have:=(List.getElem?_eq_some_iff.mp h4).1;simp at this;omega
    subst hj';exact n i (by rw [<- last a h2];exact old i a h1 hi)
  ·have hi':i=A.length:=by have:=(List.getElem?_eq_some_iff.mp h3).1;simp at this;omega
   by_cases hj:j<A.length
   ·exfalso
    subst hi';exact n j (by rw [<- last a h1];exact old j a h2 hj)
   ·have:=(List.getElem?_eq_some_iff.mp h4).1;simp at this;omega
 ·by_cases hn:k<A.length
  ·rw [getElem?_append_left hn] at e
   obtain ⟨a,e1,q⟩:=S.ob k o' e;refine ⟨a,l.ex _ _ e1,?_⟩;cases o' with
   | lst ws=>obtain ⟨vs,z,r⟩:=q;exact ⟨vs,z,r.monoW l⟩
   | dct ws=>obtain ⟨vs,z,z2,r⟩:=q;exact ⟨vs,z,z2,r.monoW l⟩
   | tab _ _=>exact q
   | ro ws=>obtain ⟨vs,z,r⟩:=q;exact ⟨vs,z,r.monoW l⟩
  ·have hn':k=A.length:=by have:=(List.getElem?_eq_some_iff.mp e).1;simp at this;omega
   subst hn';rw [getElem?_append_right (le_refl _)] at e;simp at e;subst e;exact ⟨D,by rw [getElem?_append_right (by rw [S.len];exact le_refl _),S.len];simp,new⟩
theorem Le.Ju {D:Addr}{φ0:List Addr}{H0:Hp}(l:Le K φ0 H0 φ H)(h0:H0 D=none):Le K φ0 H0 (φ++[D]) H where
 ex:=λ n a h=>by
  have h':=l.ex n a h
  have:=(List.getElem?_eq_some_iff.mp h').1
  rw [getElem?_append_left this];exact h'
 tp:=l.tp
 fr:=l.fr
 nw:=λ n a e=>by
  by_cases hn:n < φ.length
  ·rw [getElem?_append_left hn] at e;exact l.nw n a e
  ·rw [getElem?_append_right (by omega)] at e
   have e':a=D:=by
    have:=mem_of_getElem? e
    simpa using this
   subst e';exact .inr h0
 st:=l.st
 fz:=l.fz
end
noncomputable abbrev St:=L2.St
noncomputable abbrev XR:=Str->Hp->Prop
noncomputable def PB (K:Frag)(φ:List Addr)(H:Hp)(Q:VK):W->Hx->Prop:=λ w A=>∀φ' H' v,Le K φ H φ' H'->zH K φ' A H'->RV K φ' H' w v->Q v H'
noncomputable def BB (K:Frag)(φ:List Addr)(H:Hp)(Q:List V->Hp->Prop):List W->Hx->Prop:=λ w A=>∀φ' H' v,Le K φ H φ' H'->zH K φ' A H'->zD K φ' H' w v->Q v H'
noncomputable def EB (K:Frag)(φ:List Addr)(H:Hp)(xr:XR):Str->Hx->Prop:=λ x A=>∀φ' H',Le K φ H φ' H'->zH K φ' A H'->xr x H'
structure RE (K:Frag)(φ:List Addr)(H:Hp)(ρ:En)(σ:St):Prop where
 len:σ.length=ρ.length
 get:∀(i:Nat) (w:W),ρ[i]? =some (some w)->∃v,σ[i]? =some (some v)/\RV K φ H w v
section
variable {K:Frag}{φ φ1 φ':List Addr}{H H1 H':Hp}{A A1:Hx}{ρ:En}{σ:St}{xr:XR}
theorem RE.mono (r:RE K φ H ρ σ)(l:Le K φ H φ' H'):RE K φ' H' ρ σ:=⟨r.len,λ i w e=>let ⟨v,h1,h2⟩:=r.get i w e;⟨v,h1,h2.mono l⟩⟩
theorem PB.mono {Q:VK}{w:W}(h:PB K φ H Q w A)(l:Le K φ H φ1 H1):PB K φ1 H1 Q w A:=λ φ' H' v l'=>h φ' H' v (l.trans l')
theorem EB.mono {x:Str}(h:EB K φ H xr x A)(l:Le K φ H φ1 H1):EB K φ1 H1 xr x A:=λ φ' H' l'=>h φ' H' (l.trans l')
theorem RE.set {i:Nat}{w:W}{v:V}(r:RE K φ H ρ σ)(q:RV K φ H w v):RE K φ H (ρ.set i (some w)) (σ.set i (some v)):=
 ⟨by simp [r.len],λ j u e=>by
  by_cases h:i=j
  ·subst h
   have hi:i < ρ.length:=by
    have:=(List.getElem?_eq_some_iff.mp e).1
    simpa using this
   rw [getElem?_set_self hi] at e;cases e;exact ⟨v,by rw [getElem?_set_self (by rw [r.len];exact hi)],q⟩
  ·rw [getElem?_set_ne h] at e
   obtain ⟨x,h1,h2⟩:=r.get j u e;exact ⟨x,by rw [getElem?_set_ne h];exact h1,h2⟩⟩
end
inductive MM (K:Frag)(xr:XR)(m:Ev)(σ:St)(H:Hp)(Q:VK):Prop
 | mk (φ:List Addr) (A:Hx) (ρ:En) (S:zH K φ A H) (re:RE K φ H ρ σ) (h:(m ρ A).post (PB K φ H Q) (EB K φ H xr))
noncomputable def tM (K:Frag)(xr:XR)(m:Ev):TE:=λ σ H Q=>MM K xr m σ H Q
inductive MT (K:Frag)(xr:XR)(m:Ev)(σ:St)(H:Hp)(Q:Bool->Hp->Prop):Prop
 | mk (φ:List Addr) (A:Hx) (ρ:En) (S:zH K φ A H) (re:RE K φ H ρ σ) (h:(m ρ A).post (λ w A'=>∃b,w=.bl b/\∀φ' H',Le K φ H φ' H'->zH K φ' A' H'->Q b H') (EB K φ H xr))
noncomputable def tT (K:Frag)(xr:XR)(m:Ev):TT:=λ σ H Q=>MT K xr m σ H Q
noncomputable abbrev Ea:=En->Hx->R (List W)
inductive MA (K:Frag)(xr:XR)(m:Ea)(σ:St)(H:Hp)(Q:List V->Hp->Prop):Prop
 | mk (φ:List Addr) (A:Hx) (ρ:En) (S:zH K φ A H) (re:RE K φ H ρ σ) (h:(m ρ A).post (BB K φ H Q) (EB K φ H xr))
noncomputable def WG (K:Frag)(xr:XR)(m:Ea):TA:=λ σ H Q=>MA K xr m σ H Q
noncomputable def SE (X:Cx)(xr:XR)(e:Expr)(m:Ev):Prop:=PE X e (tM X.K xr m)
noncomputable def ST (X:Cx)(xr:XR)(e:Expr)(m:Ev):Prop:=PT X e (tT X.K xr m)
noncomputable def SW (X:Cx)(xr:XR)(e:Expr)(m:Ev):Prop:=PW X e (tT X.K xr m)
noncomputable def SA (X:Cx)(xr:XR)(es:List Expr)(m:Ea):Prop:=PA X es (WG X.K xr m)
section
variable {X:Cx}{xr:XR}{e a b:Expr}{es:List Expr}{m ma mb mc:Ev}{pos:Pos}
theorem PE.imp {t t':TE}(h:PE X e t)(i:∀σ H Q,t' σ H Q->t σ H Q):PE X e t':=λ pins s σ H Q I hw=>h pins s σ H Q I (i σ H Q hw)
theorem PT.imp {t t':TT}(h:PT X e t)(i:∀σ H Q,t' σ H Q->t σ H Q):PT X e t':=λ pins s σ H Q I hw=>h pins s σ H Q I (i σ H Q hw)
theorem PW.imp {t t':TT}(h:PW X e t)(i:∀σ H Q,t' σ H Q->t σ H Q):PW X e t':=λ wh pins s σ H Q I hw=>h wh pins s σ H Q I (i σ H Q hw)
theorem PA.imp {t t':TA}(h:PA X es t)(i:∀σ H Q,t' σ H Q->t σ H Q):PA X es t':=λ p pins s σ H Q I hw=>h p pins s σ H Q I (i σ H Q hw)
theorem tM.go {K:Frag}{φ:List Addr}{A:Hx}{H:Hp}{ρ:En}{σ:St}{Q:VK}{G:W->Hx->Prop}(S:zH K φ A H)(r:RE K φ H ρ σ)(h:(m ρ A).post G (EB K φ H xr))
  (k:∀w A1 φ1 H1 v,G w A1->Le K φ H φ1 H1->zH K φ1 A1 H1->RV K φ1 H1 w v->Q v H1):tM K xr m σ H Q:=
 ⟨φ,A,ρ,S,r,qp h (λ w A1 g φ1 H1 v l s q=>k w A1 φ1 H1 v g l s q) λ _ _ z=>z⟩
theorem WG.go {K:Frag}{φ:List Addr}{A:Hx}{H:Hp}{ρ:En}{σ:St}{m:Ea}{Q:List V->Hp->Prop}{G:List W->Hx->Prop}(S:zH K φ A H)(r:RE K φ H ρ σ)(h:(m ρ A).post G (EB K φ H xr))
  (k:∀w A1 φ1 H1 v,G w A1->Le K φ H φ1 H1->zH K φ1 A1 H1->zD K φ1 H1 w v->Q v H1):WG K xr m σ H Q:=
 ⟨φ,A,ρ,S,r,qp h (λ w A1 g φ1 H1 v l s q=>k w A1 φ1 H1 v g l s q) λ _ _ z=>z⟩
theorem tT.go {K:Frag}{φ:List Addr}{A:Hx}{H:Hp}{ρ:En}{σ:St}{Q:Bool->Hp->Prop}{G:W->Hx->Prop}(S:zH K φ A H)(r:RE K φ H ρ σ)(h:(m ρ A).post G (EB K φ H xr))
  (k:∀w A1,G w A1->∃b,w=.bl b/\∀φ1 H1,Le K φ H φ1 H1->zH K φ1 A1 H1->Q b H1):tT K xr m σ H Q:=
 ⟨φ,A,ρ,S,r,qp h (λ w A1 g=>k w A1 g) λ _ _ z=>z⟩
noncomputable def zc (i:Nat):Ev:=λ ρ A=>match ρ[i]? with
 | some (some w)=>.ok w A
 | _=>.bad
noncomputable def zi (w:W):Ev:=λ _ A=>.ok w A
noncomputable def zo (g:W->W->Hx->R W)(a b:Ev):Ev:=λ ρ A=>(a ρ A).bind λ x A1=>(b ρ A1).bind λ y A2=>g x y A2
noncomputable def jO (g:W->Hx->R W)(a:Ev):Ev:=λ ρ A=>(a ρ A).bind λ x A1=>g x A1
noncomputable abbrev wH:Str->Hx->Prop:=λ _ _=>False
noncomputable def yf (K:Frag)(r:R2)(g:W->W->Hx->R W):Prop:=∀φ A H x y u v Q,zH K φ A H->RV K φ H u x->RV K φ H v y->(g u v A).post (PB K φ H Q) wH->r x y H Q
noncomputable def WE (K:Frag)(r:V->Hp->VK->Prop)(g:W->Hx->R W):Prop:=∀φ A H x u Q,zH K φ A H->RV K φ H u x->(g u A).post (PB K φ H Q) wH->r x H Q
noncomputable def qM {α:Type}(r:R α):Prop:=∀x A,r≠.exc x A
theorem Ja {α:Type}{r:R α}{P:α->Hx->Prop}{E:Str->Hx->Prop}(n:qM r)(h:r.post P E):r.post P wH:=by
 cases r with
 | ok a A=>exact h
 | exc x A=>exact absurd rfl (n x A)
 | bad=>exact h
theorem zo.read {g:W->W->Hx->R W}{r:R2}(hn:∀x y A,qM (g x y A))(hg:yf X.K r g):∀σ H Q,tM X.K xr (zo g ma mb) σ H Q->YK r (tM X.K xr ma) (tM X.K xr mb) σ H Q:=by
 rintro σ H Q ⟨φ,A,ρ,S,re,h⟩
 refine tM.go S re (zY.mp h) λ w A1 φ1 H1 v h1 l1 S1 q1=>?_;refine tM.go S1 (re.mono l1) (qp (zY.mp h1) (λ _ _ z=>z) λ _ _ z=>z.mono l1) λ w2 A2 φ2 H2 v2 h2 l2 S2 q2=>?_;exact hg φ2 A2 H2 v v2 w w2 Q S2 (q1.mono l2) q2 (qp (Ja (hn _ _ _) h2) (λ _ _ z=>z.mono (l1.trans l2)) λ _ _ z=>z)
theorem jO.read {g:W->Hx->R W}{r:V->Hp->VK->Prop}(hn:∀x A,qM (g x A))(hg:WE X.K r g):∀σ H Q,tM X.K xr (jO g ma) σ H Q->Ob r (tM X.K xr ma) σ H Q:=by
 rintro σ H Q ⟨φ,A,ρ,S,re,h⟩
 refine tM.go S re (zY.mp h) λ w A1 φ1 H1 v h1 l1 S1 q1=>?_;exact hg φ1 A1 H1 v w Q S1 q1 (qp (Ja (hn _ _) h1) (λ _ _ z=>z.mono l1) λ _ _ z=>z)
theorem Qp {op:Operator}{r:R2}{g:W->W->Hx->R W}(ho:qQ X (binaryOp op) r)(hn:∀x y A,qM (g x y A))(hg:yf X.K r g)(ha:SE X xr a ma)(hb:SE X xr b mb):SE X xr (.BinOp a op b pos) (zo g ma mb):=
 PE.imp (DW ho ha hb) (zo.read hn hg)
theorem Co {op:UnaryOp}{r:V->Hp->VK->Prop}{g:W->Hx->R W}(ho:WB X (unaryOp op) r)(hn:∀x A,qM (g x A))(hg:WE X.K r g)(ha:SE X xr a ma):SE X xr (.UnaryOp op a pos) (jO g ma):=
 PE.imp (Cd ho ha) (jO.read hn hg)
theorem RW {op:CmpOp}{r:R2}{g:W->W->Hx->R W}(ho:qQ X (compareOp op) r)(hn:∀x y A,qM (g x y A))(hg:yf X.K r g)(ha:SE X xr a ma)(hb:SE X xr b mb)(hm:behindInMarks op b=false):SE X xr (.Compare a [op] [b] pos) (zo g ma mb):=
 PE.imp (HF ho ha hb hm) (zo.read hn hg)
theorem tT.toM {K:Frag}{σ:St}{H:Hp}{Q:Bool->Hp->Prop}(h:tT K xr m σ H Q):tM K xr m σ H λ x H'=>∃k,x=.bl k/\Q k H':=by
 obtain ⟨φ,A,ρ,S,re,h⟩:=h;refine tM.go S re h λ w A1 φ1 H1 v ⟨b,e,q⟩ l1 S1 q1=>?_;subst e;exact ⟨b,q1,q φ1 H1 l1 S1⟩
theorem Pa {op:CmpOp}{r:R2}{g:W->W->Hx->R W}(ho:qQ X (compareOp op) r)(hn:∀x y A,qM (g x y A))(hg:yf X.K r g)(ha:SE X xr a ma)(hb:SE X xr b mb)(hm:behindInMarks op b=false):ST X xr (.Compare a [op] [b] pos) (zo g ma mb):=
 PT.imp (Fi ho ha hb hm) λ σ H Q h=>zo.read hn hg σ H _ h.toM
noncomputable def yB (g g':W->W->Hx->R W)(a b c:Ev):Ev:=λ ρ A=>(a ρ A).bind λ x A1=>(b ρ A1).bind λ y A2=>(g x y A2).bind λ z A3=>match z with
 | .bl true=>(c ρ A3).bind λ w A4=>g' y w A4
 | .bl false=>.ok (.bl false) A3
 | _=>.bad
theorem yB.read {g g':W->W->Hx->R W}{r r':R2}(hn:∀x y A,qM (g x y A))(hg:yf X.K r g)(hn':∀x y A,qM (g' x y A))(hg':yf X.K r' g'):
  ∀σ H Q,tM X.K xr (yB g g' ma mb mc) σ H Q->Vy r r' (tM X.K xr ma) (tM X.K xr mb) (tM X.K xr mc) σ H Q:=by
 rintro σ H Q ⟨φ,A,ρ,S,re,h⟩
 refine tM.go S re (zY.mp h) λ w A1 φ1 H1 v h1 l1 S1 q1=>?_;refine tM.go S1 (re.mono l1) (qp (zY.mp h1) (λ _ _ z=>z) λ _ _ z=>z.mono l1) λ w2 A2 φ2 H2 v2 h2 l2 S2 q2=>?_;have l02:=l1.trans l2;have h2':=zY.mp h2;have h3:(g w w2 A2).post (PB X.K φ2 H2 λ z H3=>∃k,z=.bl k/\if k=true then tM X.K xr mc σ H3 λ w' H4=>r' v2 w' H4 Q else Q (.bl false) H3) wH:=by
  refine qp (Ja (hn _ _ _) h2') (λ z A3 h3 φ3 H3 zv l3 S3 q3=>?_) λ _ _ z=>z;have l03:=l02.trans l3;cases z with
  | bl k=>
   refine ⟨k,q3,?_⟩;cases k with
   | true=>
    rw [if_pos rfl];refine tM.go S3 (re.mono l03) (qp (zY.mp h3) (λ _ _ z=>z) λ _ _ z=>z.mono l03) λ w4 A4 φ4 H4 v4 h4 l4 S4 q4=>?_;exact hg' φ4 A4 H4 v2 v4 w2 w4 Q S4 ((q2.mono l3).mono l4) q4 (qp (Ja (hn' _ _ _) h4) (λ _ _ z=>z.mono (l03.trans l4)) λ _ _ z=>z)
   | false=>
    rw [if_neg Bool.false_ne_true];exact h3 φ3 H3 _ l03 S3 rfl
  | non=>cases h3
  | int _=>cases h3
  | str _=>cases h3
  | tup _=>cases h3
  | ref _=>cases h3
  | clo _ _ _=>cases h3
  | xc _=>cases h3
 exact hg φ2 A2 H2 v v2 w w2 _ S2 (q1.mono l2) q2 h3
theorem Ir {c:Expr}{op op':CmpOp}{r r':R2}{g g':W->W->Hx->R W}(ho:qQ X (compareOp op) r)(hn:∀x y A,qM (g x y A))(hg:yf X.K r g)(ho':qQ X (compareOp op') r')(hn':∀x y A,qM (g' x y A))(hg':yf X.K r' g')
  (ha:SE X xr a ma)(hb:SE X xr b mb)(hc:SE X xr c mc)(hm:lastMarks [op,op'] [b,c]=false:=by with_unfolding_all rfl):SE X xr (.Compare a [op,op'] [b,c] pos) (yB g g' ma mb mc):=
 PE.imp (Ij ho ho' ha hb hc hm) (yB.read hn hg hn' hg')
theorem LI {c:Expr}{op op':CmpOp}{r r':R2}{g g':W->W->Hx->R W}(ho:qQ X (compareOp op) r)(hn:∀x y A,qM (g x y A))(hg:yf X.K r g)(ho':qQ X (compareOp op') r')(hn':∀x y A,qM (g' x y A))(hg':yf X.K r' g')
  (ha:SE X xr a ma)(hb:SE X xr b mb)(hc:SE X xr c mc)(hm:lastMarks [op,op'] [b,c]=false:=by with_unfolding_all rfl):ST X xr (.Compare a [op,op'] [b,c] pos) (yB g g' ma mb mc):=
 PT.imp (Hd ho ho' ha hb hc hm) λ σ H Q h=>yB.read hn hg hn' hg' σ H _ h.toM
noncomputable def kq (a b:Ev):Ev:=λ ρ A=>(a ρ A).bind λ x A1=>match x with
 | .bl true=>b ρ A1
 | .bl false=>.ok (.bl false) A1
 | _=>.bad
noncomputable def wF (a b:Ev):Ev:=λ ρ A=>(a ρ A).bind λ x A1=>match x with
 | .bl true=>.ok (.bl true) A1
 | .bl false=>b ρ A1
 | _=>.bad
noncomputable def jM (a:Ev):Ev:=λ ρ A=>(a ρ A).bind λ x A1=>match x with
 | .bl k=>.ok (.bl (!k)) A1
 | _=>.bad
noncomputable def P9 (c a b:Ev):Ev:=λ ρ A=>(c ρ A).bind λ x A1=>match x with
 | .bl true=>a ρ A1
 | .bl false=>b ρ A1
 | _=>.bad
theorem tT.mono {K:Frag}{φ φ1:List Addr}{H H1:Hp}{A1:Hx}{ρ:En}{σ:St}{Q:Bool->Hp->Prop}(S1:zH K φ1 A1 H1)(l1:Le K φ H φ1 H1)(re:RE K φ H ρ σ)
  (h:(m ρ A1).post (λ w A'=>∃b,w=.bl b/\∀φ' H',Le K φ H φ' H'->zH K φ' A' H'->Q b H') (EB K φ H xr)):tT K xr m σ H1 Q:=
 ⟨φ1,A1,ρ,S1,re.mono l1,qp h (λ w A' ⟨b,e,q⟩=>⟨b,e,λ φ' H' l s=>q φ' H' (l1.trans l) s⟩) λ _ _ z=>z.mono l1⟩
noncomputable def zp:Ea:=λ _ A=>.ok [] A
noncomputable def zh (a:Ev)(r:Ea):Ea:=λ ρ A=>(a ρ A).bind λ x A1=>(r ρ A1).bind λ xs A2=>.ok (x::xs) A2
noncomputable def zC (a:Ea):Ev:=λ ρ A=>(a ρ A).bind λ xs A1=>.ok (.tup xs) A1
noncomputable def zV (a:Ea):Ev:=λ ρ A=>(a ρ A).bind λ xs A1=>.ok (.ref A1.length) (A1++[.lst xs])
theorem Yc {K:Frag}{φ:List Addr}{A:Hx}{H:Hp}{p:Addr}{ws:List W}{vs:List V}(S:zH K φ A H)(hp:H p=none)(r:zD K φ H ws vs):
  Le K φ H φ (upd H p (.tup vs))/\zH K φ A (upd H p (.tup vs))/\RV K φ (upd H p (.tup vs)) (.tup ws) (.ref p):=
 ⟨Le.new hp,S.lay hp,p,vs,rfl,qG.of jy,r.mono (Le.new hp)⟩
theorem Qs {K:Frag}{φ:List Addr}{A:Hx}{H:Hp}{p:Addr}{ws:List W}{vs:List V}(S:zH K φ A H)(hp:H p=none)(r:zD K φ H ws vs):
  Le K φ H (φ++[p]) (upd H p (.lst vs))/\zH K (φ++[p]) (A++[.lst ws]) (upd H p (.lst vs))/\RV K (φ++[p]) (upd H p (.lst vs)) (.ref A.length) (.ref p):=by
 have l:Le K φ H (φ++[p]) (upd H p (.lst vs)):=Le.alloc hp;obtain ⟨h1,h2⟩:=S.alloc (o:=.lst ws) hp ⟨vs,jy,r.mono l⟩;exact ⟨h1,h2,p,rfl,by rw [<- S.len];simp⟩
theorem Dy {mr:Ea}(h:SA X xr es mr)(hl:∀ρ A ws A',mr ρ A=.ok ws A'->ws.length<=sizeLine):SE X xr (.List es pos) (zV mr):=
 PE.imp (DD h) λ σ H Q ⟨φ,A,ρ,S,re,h⟩=>by
  have h':=zY.mp h;cases e:mr ρ A with
  | ok ws A'=>
   rw [e] at h';refine ⟨φ,A,ρ,S,re,?_⟩;rw [e];intro φ1 H1 vs l1 S1 q1;refine ⟨by rw [<- q1.length];exact hl ρ A ws A' e,λ p hp=>?_⟩
   obtain ⟨a1,a2,a3⟩:=Qs S1 hp q1;exact h' _ _ _ (l1.trans a1) a2 a3
  | exc x A'=>rw [e] at h';refine ⟨φ,A,ρ,S,re,?_⟩;rw [e];exact h'
  | bad=>rw [e] at h';exact h'.elim
end
inductive Fl where
 | nx (ρ:En) | rt (w:W) | bk (ρ:En) | ct (ρ:En)
noncomputable abbrev Ex:=En->Hx->R Fl
noncomputable def FB (K:Frag)(φ:List Addr)(H:Hp)(D:Ends):Fl->Hx->Prop
 | .nx ρ,A=>∀φ' H' σ',Le K φ H φ' H'->zH K φ' A H'->RE K φ' H' ρ σ'->D.nx σ' H'
 | .rt w,A=>∀φ' H' v,Le K φ H φ' H'->zH K φ' A H'->RV K φ' H' w v->D.rt v H'
 | .bk ρ,A=>∀φ' H' σ',Le K φ H φ' H'->zH K φ' A H'->RE K φ' H' ρ σ'->D.bk σ' H'
 | .ct ρ,A=>∀φ' H' σ',Le K φ H φ' H'->zH K φ' A H'->RE K φ' H' ρ σ'->D.ct σ' H'
theorem FB.mono {K:Frag}{φ φ1:List Addr}{H H1:Hp}{D:Ends}{fl:Fl}{A:Hx}(h:FB K φ H D fl A)(l:Le K φ H φ1 H1):FB K φ1 H1 D fl A:=by
 cases fl with
 | nx ρ=>exact λ φ' H' v l'=>h φ' H' v (l.trans l')
 | rt ρ=>exact λ φ' H' v l'=>h φ' H' v (l.trans l')
 | bk ρ=>exact λ φ' H' v l'=>h φ' H' v (l.trans l')
 | ct ρ=>exact λ φ' H' v l'=>h φ' H' v (l.trans l')
inductive MS (K:Frag)(xr:XR)(m:Ex)(D:Ends)(σ:St)(H:Hp):Prop
 | mk (φ:List Addr) (A:Hx) (ρ:En) (S:zH K φ A H) (re:RE K φ H ρ σ) (h:(m ρ A).post (FB K φ H D) (EB K φ H xr))
noncomputable def tS (K:Frag)(xr:XR)(m:Ex):TS:=λ D σ H=>MS K xr m D σ H
noncomputable def SS (X:Cx)(xr:XR)(st:Stmt)(m:Ex):Prop:=PS X st (tS X.K xr m)
noncomputable def YI (X:Cx)(xr:XR)(st:List Stmt)(m:Ex):Prop:=yn X st (tS X.K xr m)
section
variable {X:Cx}{xr:XR}{e a b c:Expr}{st:Stmt}{rest:List Stmt}{m ma mb mc:Ev}{m1 m2:Ex}{pos:Pos}
theorem PS.imp {t t':TS}(h:PS X st t)(i:∀D σ H,t' D σ H->t D σ H):PS X st t':=λ pins s σ H D I hw=>h pins s σ H D I (i D σ H hw)
theorem yn.imp {t t':TS}(h:yn X rest t)(i:∀D σ H,t' D σ H->t D σ H):yn X rest t':=λ pins s σ H D I hw=>h pins s σ H D I (i D σ H hw)
noncomputable def zA:Ex:=λ ρ A=>.ok (.nx ρ) A
noncomputable def zq (m1 m2:Ex):Ex:=λ ρ A=>(m1 ρ A).bind λ fl A1=>match fl with
 | .nx ρ1=>m2 ρ1 A1
 | f=>.ok f A1
noncomputable def j0 (m:Ev):Ex:=λ ρ A=>(m ρ A).bind λ _ A1=>.ok (.nx ρ) A1
noncomputable def qk (m:Ev):Ex:=λ ρ A=>(m ρ A).bind λ w A1=>.ok (.rt w) A1
noncomputable def qN (c:Ev)(a b:Ex):Ex:=λ ρ A=>(c ρ A).bind λ x A1=>match x with
 | .bl true=>a ρ A1
 | .bl false=>b ρ A1
 | _=>.bad
noncomputable def zQ (i:Nat)(m:Ev):Ex:=λ ρ A=>(m ρ A).bind λ w A1=>.ok (.nx (ρ.set i (some w))) A1
theorem zQ.read {i:Nat}:∀D σ H,tS X.K xr (zQ i m) D σ H->Wq (tM X.K xr m) (Wc i) D σ H:=by
 rintro D σ H ⟨φ,A,ρ,S,re,h⟩
 exact tM.go S re (zY.mp h) λ w A1 φ1 H1 v h1 l1 S1 q1=>h1 φ1 H1 _ l1 S1 ((re.mono l1).set q1)
noncomputable def kW (g:W->W->W->Hx->R Unit)(me mo mi:Ev):Ex:=λ ρ A=>(me ρ A).bind λ v A1=>(mo ρ A1).bind λ o A2=>(mi ρ A2).bind λ i A3=>(g o i v A3).bind λ _ A4=>.ok (.nx ρ) A4
noncomputable def Pg (K:Frag)(t:QM)(g:W->W->W->Hx->R Unit):Prop:=∀φ A H o i v wo wi wv Q,zH K φ A H->RV K φ H wo o->RV K φ H wi i->RV K φ H wv v->
 (g wo wi wv A).post (λ _ A'=>∀φ' H',Le K φ H φ' H'->zH K φ' A' H'->Q H') wH->t o i v H Q
theorem Iq {o i:Expr}{mo mi:Ev}{t:QM}{g:W->W->W->Hx->R Unit}{tpos:Pos}(ht:Wm X t)(hn:∀o i v A,qM (g o i v A))(hg:Pg X.K t g)(he:SE X xr e m)(ho:SE X xr o mo)(hi:SE X xr i mi)
  (hs:swapsWithSole [.Subscript o i tpos] e pos.line X.env=pure false:=by rfl)(hw:swappedStores [.Subscript o i tpos] e X.env=pure none:=by rfl)
  (h1:(assignEach [.Subscript o i tpos] X.env).map (·.2)=[assign (.Subscript o i tpos) X.env]:=by rfl)
  (ha:∀v,assign (.Subscript o i tpos) X.env v=(do
   let ov <- holding [v] (eval o X.env)
   let iv <- holding [v,ov] (eval i X.env)
   standAt tpos
   holding [v,ov,iv] (setItem ov iv v)
   release [v,ov,iv] []):=by intro _;rfl):SS X xr (.Assign [.Subscript o i tpos] e pos) (kW g m mo mi):=
 PS.imp (RO he (Dg ho hi ht ha) hs hw h1) λ D σ H ⟨φ,A,ρ,S,re,h⟩=>by
  refine tM.go S re (zY.mp h) λ w1 A1 φ1 H1 v1 h1 l1 S1 q1=>?_;refine tM.go S1 (re.mono l1) (qp (zY.mp h1) (λ _ _ z=>z) λ _ _ z=>z.mono l1) λ w2 A2 φ2 H2 v2 h2 l2 S2 q2=>?_;have l02:=l1.trans l2;refine tM.go S2 (re.mono l02) (qp (zY.mp h2) (λ _ _ z=>z) λ _ _ z=>z.mono l02) λ w3 A3 φ3 H3 v3 h3 l3 S3 q3=>?_;have l03:=l02.trans l3;refine hg φ3 A3 H3 v2 v3 v1 w2 w3 w1 _ S3 (q2.mono l3) q3 (q1.mono (l2.trans l3)) ?_;cases hr:g w2 w3 w1 A3 with
  | ok u A4=>
   rw [hr] at h3;exact λ φ4 H4 l4 S4=>h3 φ4 H4 σ (l03.trans l4) S4 (re.mono (l03.trans l4))
  | exc x A4=>exact absurd hr (hn _ _ _ _ x A4)
  | bad=>rw [hr] at h3;exact h3.elim
structure jx where
 at_:Hx->Nat->Option (Option W)
 len:Nat
noncomputable def Zz (K:Frag)(φ:List Addr)(H:Hp)(j:jx)(J:It):Prop:=∀i φ' H' A',gB K φ H φ' H'->zH K φ' A' H'->
 (∀w,j.at_ A' i=some (some w)->J.go i H'/\∀x H1,J.yld i H' x H1->Le K φ' H' φ' H1/\zH K φ' A' H1/\RV K φ' H1 w x)/\(j.at_ A' i=some none->J.stop i H')
noncomputable abbrev Ei:=En->Hx->R jx
inductive MI (K:Frag)(xr:XR)(mi:Ei)(σ:St)(H:Hp)(Rr:It->Hp->Prop):Prop
 | mk (φ:List Addr) (A:Hx) (ρ:En) (S:zH K φ A H) (re:RE K φ H ρ σ) (h:(mi ρ A).post (λ j A1=>∀φ1 H1 J,Le K φ H φ1 H1->zH K φ1 A1 H1->Zz K φ1 H1 j J->Rr J H1) (EB K φ H xr))
noncomputable def tI (K:Frag)(xr:XR)(mi:Ei):TI:=λ σ H Rr=>MI K xr mi σ H Rr
noncomputable def SI (X:Cx)(xr:XR)(tg iter:Expr)(mi:Ei):Prop:=PI X tg iter (tI X.K xr mi)
theorem PI.imp {tg:Expr}{t t':TI}(h:PI X tg e t)(i:∀σ H Q,t' σ H Q->t σ H Q):PI X tg e t':=λ pins s σ H Q I hw=>h pins s σ H Q I (i σ H Q hw)
noncomputable abbrev Tg:=W->En->Option En
inductive MG (K:Frag)(tw:Tg)(v:V)(σ:St)(H:Hp)(Q:St->Hp->Prop):Prop
 | mk (φ:List Addr) (A:Hx) (ρ:En) (w:W) (ρ':En) (S:zH K φ A H) (re:RE K φ H ρ σ) (rv:RV K φ H w v) (t:tw w ρ=some ρ') (q:∀σ',RE K φ H ρ' σ'->Q σ' H)
noncomputable def tG (K:Frag)(tw:Tg):TG:=λ v σ H Q=>MG K tw v σ H Q
noncomputable def SG (X:Cx)(tg:Expr)(tw:Tg):Prop:=PG X tg (tG X.K tw)
theorem PG.imp {tg:Expr}{t t':TG}(h:PG X tg t)(i:∀v σ H Q,t' v σ H Q->t v σ H Q):PG X tg t':=λ pins s σ H v u Q I r hw=>h pins s σ H v u Q I r (i v σ H Q hw)
noncomputable def zJ (i:Nat):Tg:=λ w ρ=>some (ρ.set i (some w))
noncomputable def yW (i j:Nat):Tg:=λ w ρ=>match w with
 | .tup [x,y]=>some ((ρ.set i (some x)).set j (some y))
 | _=>none
noncomputable def jW (j:jx)(st:W->Ex):Nat->Nat->Ex
 | 0,i,ρ,A=>match j.at_ A i with
  | some none=>.ok (.nx ρ) A
  | _=>.bad
 | f+1,i,ρ,A=>match j.at_ A i with
  | some none=>.ok (.nx ρ) A
  | some (some w)=>(st w ρ A).bind λ fl A1=>match fl with
   | .nx ρ1=>jW j st f (i+1) ρ1 A1
   | .ct ρ1=>jW j st f (i+1) ρ1 A1
   | .bk ρ1=>.ok (.nx ρ1) A1
   | .rt w=>.ok (.rt w) A1
  | none=>.bad
noncomputable def turn (tw:Tg)(body:Ex)(w:W):Ex:=λ ρ A=>match tw w ρ with
 | some ρ1=>body ρ1 A
 | none=>.bad
noncomputable def yI (mi:Ei)(tw:Tg)(body:Ex):Ex:=λ ρ A=>(mi ρ A).bind λ j A1=>jW j (turn tw body) j.len 0 ρ A1
inductive P1 (K:Frag)(xr:XR)(j:jx)(t:W->Ex)(D:Ends)(φ1:List Addr)(H1:Hp)(f i:Nat)(σ':St)(H':Hp):Prop
 | mk (φ2:List Addr) (A2:Hx) (ρ2:En) (l:Le K φ1 H1 φ2 H') (S:zH K φ2 A2 H') (re:RE K φ2 H' ρ2 σ') (h:(jW j t f i ρ2 A2).post (FB K φ2 H' D) (EB K φ2 H' xr))
noncomputable def Zt (c:Ev)(body:Ex):Nat->Ex
 | 0,ρ,A=>.bad
 | f+1,ρ,A=>(c ρ A).bind λ x A1=>match x with
  | .bl true=>(body ρ A1).bind λ fl A2=>match fl with
   | .nx ρ1=>Zt c body f ρ1 A2
   | .ct ρ1=>Zt c body f ρ1 A2
   | .bk ρ1=>.ok (.nx ρ1) A2
   | .rt w=>.ok (.rt w) A2
  | .bl false=>.ok (.nx ρ) A1
  | _=>.bad
noncomputable def Vr (f:Nat)(c:Ev)(body:Ex):Ex:=Zt c body f
noncomputable def Zq (nl:Nat)(cap:List Nat)(ρ:En):En:=List.replicate nl none++cap.map λ i=>(ρ[i]?).join
theorem RE.gA {K:Frag}{φ:List Addr}{H:Hp}{ρ:En}{σ:St}{nl:Nat}{cap:List Nat}(r:RE K φ H ρ σ):RE K φ H (Zq nl cap ρ) (L2.gA nl cap σ):=by
 refine ⟨by simp [Zq,L2.gA],λ i w e=>?_⟩
 unfold Zq at e;unfold L2.gA
 by_cases hi:i<nl
 ·rw [getElem?_append_left (by simpa using hi),getElem?_replicate] at e
  split at e<;>cases e
 ·rw [getElem?_append_right (by simpa using hi),length_replicate,getElem?_map] at e
  rw [getElem?_append_right (by simpa using hi),length_replicate,getElem?_map]
  cases hc:cap[i - nl]? with
  | none=>rw [hc] at e;cases e
  | some k=>
   rw [hc] at e;have e2:(ρ[k]?).join=some w:=Option.some.inj e;cases hk:ρ[k]? with
   | none=>rw [hk] at e2;cases e2
   | some o=>cases o with
    | none=>rw [hk] at e2;cases e2
    | some w'=>
     rw [hk] at e2;cases e2;obtain ⟨v,h1,h2⟩:=r.get k w hk;exact ⟨v,by simp [h1],h2⟩
noncomputable abbrev Em:=En->List W->Hx->R (En × List W)
noncomputable def zZ:Nat:=100000
noncomputable def zM (elt:Ev):Em:=λ ρ acc A=>(elt ρ A).bind λ y A1=>if acc.length<zZ then .ok (ρ,acc++[y]) A1 else .bad
noncomputable def qI (j:jx)(tw:Tg)(ifs:Ev)(em:Em):Nat->Nat->Em
 | 0,i,ρ,acc,A=>match j.at_ A i with
  | some none=>.ok (ρ,acc) A
  | _=>.bad
 | f+1,i,ρ,acc,A=>match j.at_ A i with
  | some none=>.ok (ρ,acc) A
  | some (some w)=>match tw w ρ with
   | some ρ1=>(ifs ρ1 A).bind λ c A1=>match c with
    | .bl true=>(em ρ1 acc A1).bind λ p A2=>qI j tw ifs em f (i+1) p.1 p.2 A2
    | .bl false=>qI j tw ifs em f (i+1) ρ1 acc A1
    | _=>.bad
   | none=>.bad
  | none=>.bad
noncomputable def Jv (mi:Ei)(tw:Tg)(ifs:Ev)(em:Em):Em:=λ ρ acc A=>(mi ρ A).bind λ j A1=>qI j tw ifs em j.len 0 ρ acc A1
noncomputable abbrev jN:=En->Hx->R (List W)
noncomputable def zU (nl:Nat)(cap:List Nat)(mi:Ei)(tw:Tg)(ifs:Ev)(em:Em):jN:=λ ρ A=>(mi ρ A).bind λ j A1=>(qI j tw ifs em j.len 0 (Zq nl cap ρ) [] A1).nox.bind λ p A2=>.ok p.2 A2
noncomputable def YJ (K:Frag)(D:Addr)(φ:List Addr)(H:Hp)(Q:St->Hp->Prop)(p:En × List W)(A1:Hx):Prop:=∀φ1 H1 σ1 zs,jZ K D φ H φ1 H1->(∀k:Nat,φ1[k]?≠some D)->zH K φ1 A1 H1->RE K φ1 H1 p.1 σ1->H1 D=some (.lst zs)->zD K φ1 H1 p.2 zs->Q σ1 H1
inductive ME (K:Frag)(em:Em)(D:Addr)(σ:St)(H:Hp)(Q:St->Hp->Prop):Prop
 | mk (φ:List Addr) (A:Hx) (ρ:En) (acc:List W) (ys:List V) (S:zH K φ A H) (re:RE K φ H ρ σ) (hD:H D=some (.lst ys)) (nD:∀k:Nat,φ[k]?≠some D) (rv:zD K φ H acc ys)
  (h:(em ρ acc A).post (YJ K D φ H Q) wH)
noncomputable def tE (K:Frag)(em:Em):wa:=λ D σ H Q=>ME K em D σ H Q
noncomputable abbrev jT:XR:=λ _ _=>False
noncomputable def SM (X:Cx)(elt:Expr)(gens:List Comprehension)(sc:Scope)(cpos:Pos)(d:Nat)(em:Em):Prop:=ku X elt gens sc cpos d (tE X.K em)
theorem ku.imp {elt:Expr}{gens:List Comprehension}{sc:Scope}{d:Nat}{t t':wa}(h:ku X elt gens sc pos d t)(i:∀D σ H Q,t' D σ H Q->t D σ H Q):ku X elt gens sc pos d t':=
 λ pins s σ H D Q k Q' E I hw hk=>h pins s σ H D Q k Q' E I (i D σ H Q hw) hk
theorem JY {α:Type}{K:Frag}{φ:List Addr}{H:Hp}{r:R α}{P:α->Hx->Prop}(h:r.post P wH):r.post P (EB K φ H jT):=qp h (λ _ _ z=>z) λ _ _ z=>z.elim
noncomputable def YG (X:Cx)(ifs:List Expr)(m:Ev):Prop:=Zw X ifs (tT X.K jT m)
theorem Rl:YG X [] (zi (.bl true)):=λ pins s σ H Q I ⟨φ,A,ρ,S,re,h⟩=>IE pins s σ H Q I (by
 obtain ⟨b,e,q⟩:=h;cases e;exact q φ H .refl S)
inductive WC (tw:Tg)(ifs:Ev)(em:Em)(j:jx)(K:Frag)(D:Addr)(φ:List Addr)(H:Hp)(Q:St->Hp->Prop)(f i:Nat)(σ':St)(H':Hp):Prop
 | mk (φ2:List Addr) (A2:Hx) (ρ2:En) (acc2:List W) (ys2:List V) (l:jZ K D φ H φ2 H') (S:zH K φ2 A2 H') (re:RE K φ2 H' ρ2 σ') (hD:H' D=some (.lst ys2)) (nD:∀k:Nat,φ2[k]?≠some D) (ra:zD K φ2 H' acc2 ys2) (h:(qI j tw ifs em f i ρ2 acc2 A2).post (YJ K D φ H Q) wH)
theorem qI.read {tw:Tg}{ifs:Ev}{em:Em}{j:jx}{J:It}{K:Frag}{D:Addr}{φ:List Addr}{A:Hx}{H:Hp}{ρ:En}{σ:St}{acc:List W}{ys:List V}{Q:St->Hp->Prop}{f:Nat}
  (jr:Zz K φ H j J)
  (S:zH K φ A H)(re:RE K φ H ρ σ)(hD:H D=some (.lst ys))(nD:∀k:Nat,φ[k]?≠some D)(ra:zD K φ H acc ys)
  (h:(qI j tw ifs em f 0 ρ acc A).post (YJ K D φ H Q) wH):
  Js J (tG K tw) (tT K jT ifs) (tE K em) D σ H Q:=by
 refine ⟨λ i f σ' H'=>WC tw ifs em j K D φ H Q f i σ' H',
  ⟨f,φ,A,ρ,acc,ys,.refl,S,re,hD,nD,ra,h⟩,?_⟩
 rintro i f σ2 H2 ⟨φ2,A2,ρ2,acc2,ys2,l2,S2,re2,hD2,nD2,ra2,h2⟩
 obtain ⟨j1,j2⟩:=jr i φ2 H2 A2 ⟨l2.ex,l2.tp,l2.fz⟩ S2;cases ej:j.at_ A2 i with
 | none=>cases f<;>(unfold qI at h2;rw [ej] at h2;exact h2.elim)
 | some o=>
  cases o with
  | none=>
   left
   refine ⟨j2 ej,?_⟩;cases f<;>(unfold qI at h2;rw [ej] at h2;exact h2 φ2 H2 σ2 ys2 l2 nD2 S2 re2 hD2 ra2)
  | some w=>
   right
   obtain ⟨go,yl⟩:=j1 w ej;cases f with
   | zero=>unfold qI at h2;rw [ej] at h2;exact h2.elim
   | succ f=>
    unfold qI at h2;rw [ej] at h2;refine ⟨go,λ σ' H'=>WC tw ifs em j K D φ H Q f (i+1) σ' H',λ σ' H' z=>⟨f,lt_succ_self _,z⟩,λ x H3 y=>?_⟩;obtain ⟨l3,S3,q3⟩:=yl x H3 y;obtain ⟨hD3,nD3⟩:=l3.off hD2 nD2;dsimp only at h2;cases et:tw w ρ2 with
    | none=>rw [et] at h2;exact h2.elim
    | some ρ3=>
     rw [et] at h2;refine ⟨φ2,A2,ρ2,w,ρ3,S3,re2.mono l3,q3,et,λ σ3 re3=>?_⟩;refine tT.go S3 re3 (JY (zY.mp h2)) λ c A4 h4=>?_;cases c with
     | bl k=>
      refine ⟨k,rfl,λ φ4 H4 l4 S4=>?_⟩;obtain ⟨hD4,nD4⟩:=l4.off hD3 nD3;have l04:=(l2.trans (l3.trans l4).toD);cases k with
      | true=>
       rw [if_pos rfl];refine ⟨φ4,A4,ρ3,acc2,ys2,S4,re3.mono l4,hD4,nD4,ra2.mono (l3.trans l4),qp (zY.mp h4) (λ p A5 h5 φ5 H5 σ5 zs l5 n5 S5 re5 d5 r5=>?_) λ _ _ z=>z⟩;exact ⟨φ5,A5,p.1,p.2,zs,l04.trans l5,S5,re5,d5,n5,r5,h5⟩
      | false=>
       rw [if_neg Bool.false_ne_true];exact ⟨φ4,A4,ρ3,acc2,ys2,l04,S4,re3.mono l4,hD4,nD4,ra2.mono (l3.trans l4),h4⟩
     | non=>cases h4
     | int _=>cases h4
     | str _=>cases h4
     | tup _=>cases h4
     | ref _=>cases h4
     | clo _ _ _=>cases h4
     | xc _=>cases h4
theorem Zz.mono {K:Frag}{φ φ1:List Addr}{H H1:Hp}{j:jx}{J:It}(h:Zz K φ H j J)(l:gB K φ H φ1 H1):Zz K φ1 H1 j J:=
 λ i φ' H' A' l'=>h i φ' H' A' ⟨λ n a e=>l'.ex n a (l.ex n a e),λ a vs e=>l'.tp a vs (l.tp a vs e),λ a o u e=>l'.fz a o u (l.fz a o u e)⟩
inductive MF (K:Frag)(xr:XR)(mq:jN)(σ:St)(H:Hp)(Q:VK):Prop
 | mk (φ:List Addr) (A:Hx) (ρ:En) (S:zH K φ A H) (re:RE K φ H ρ σ) (h:(mq ρ A).post (λ ws A1=>∀φ1 H1 D ys,Le K φ H φ1 H1->zH K φ1 A1 H1->H D=none->H1 D=some (.lst ys)->(∀k:Nat,φ1[k]?≠some D)->zD K φ1 H1 ws ys->Q (.ref D) H1) (EB K φ H xr))
noncomputable def tF (K:Frag)(xr:XR)(mq:jN):TE:=λ σ H Q=>MF K xr mq σ H Q
noncomputable def SF (X:Cx)(xr:XR)(e:Expr)(mq:jN):Prop:=PE X e (tF X.K xr mq)
theorem zU.read {mi:Ei}{tw:Tg}{mf:Ev}{em:Em}{nl:Nat}{cap:List Nat}:∀σ H Q,tF X.K xr (zU nl cap mi tw mf em) σ H Q->Wa X.K (tI X.K xr mi) (tG X.K tw) (tT X.K jT mf) (tE X.K em) nl cap σ H Q:=by
 rintro σ H Q ⟨φ,A,ρ,S,re,h⟩
 refine ⟨φ,A,ρ,S,re,qp (zY.mp h) (λ j A1 h1 φ1 H1 J l1 S1 jr D hD hK=>?_) λ _ _ z=>z⟩;have ln:Le X.K φ1 H1 φ1 (upd H1 D (.lst [])):=Le.new hD;have h1':=zY.mp h1;refine qI.read (jr.mono ⟨ln.ex,ln.tp,ln.fz⟩) (S1.lay hD) ((re.mono (l1.trans ln)).gA) jy (S1.notin hD hK) .nil ?_ (f:=j.len) (acc:=[]);cases er:qI j tw mf em j.len 0 (Zq nl cap ρ) [] A1 with
 | ok p A2=>
  rw [er] at h1';intro φ2 H2 σ2 zs l2 n2 S2 re2 d2 r2;have l02:=l1.trans (Le.ofD hD l2);exact h1' φ2 H2 D zs l02 S2 (l1.st D hD) d2 n2 r2
 | exc x A2=>rw [er] at h1';exact h1'.elim
 | bad=>rw [er] at h1';exact h1'.elim
noncomputable def qm (q:jN):Ev:=λ ρ A=>(q ρ A).bind λ ws A1=>.ok (.ref A1.length) (A1++[.lst ws])
theorem qm.read {q:jN}{K:Frag}:∀σ H Q,tM K xr (qm q) σ H Q->tF K xr q σ H Q:=by
 rintro σ H Q ⟨φ,A,ρ,S,re,h⟩
 refine ⟨φ,A,ρ,S,re,qp (zY.mp h) (λ ws A1 h1 φ1 H1 D ys l1 S1 h0 hD nD r=>?_) λ _ _ z=>z⟩;have ll:Le K φ H (φ1++[D]) H1:=l1.Ju h0;have lw:gB K φ1 H1 (φ1++[D]) H1:=⟨λ n a h=>by
  have:=(List.getElem?_eq_some_iff.mp h).1
  rw [getElem?_append_left this];exact h,λ _ _ h=>h,λ _ _ _ h=>h⟩
 refine h1 _ _ _ ll (S1.Ju (o:=.lst ws) hD nD ⟨ys,hD,r.monoW lw⟩) ⟨D,rfl,?_⟩;rw [<- S1.len];simp
inductive MQ (K:Frag)(xr:XR)(mq:jN)(σ:St)(H:Hp)(Q:VK):Prop
 | mk (φ:List Addr) (A:Hx) (ρ:En) (S:zH K φ A H) (re:RE K φ H ρ σ) (h:(mq ρ A).post (λ ws A1=>∀φ1 H1 a ys,Le K φ H φ1 H1->zH K φ1 A1 H1->(je K H1 a ys∨qG K H1 a ys)->zD K φ1 H1 ws ys->Q (.ref a) H1) (EB K φ H xr))
noncomputable def tQ (K:Frag)(xr:XR)(mq:jN):TE:=λ σ H Q=>MQ K xr mq σ H Q
noncomputable def SQ (X:Cx)(xr:XR)(e:Expr)(mq:jN):Prop:=PE X e (tQ X.K xr mq)
noncomputable def zO (w:W)(A:Hx):Option (List W):=match w with
 | .tup ws=>some ws
 | .ref n=>match A[n]? with
  | some (.lst ws)=>some ws
  | some (.ro ws)=>some ws
  | _=>none
 | _=>none
theorem Ko {K:Frag}{φ:List Addr}{A:Hx}{H:Hp}{w:W}{ws:List W}{v:V}(S:zH K φ A H)(q:RV K φ H w v)(e:zO w A=some ws):∃a ys,v=.ref a/\(je K H a ys∨qG K H a ys)/\zD K φ H ws ys:=by
 unfold zO at e;cases w with
 | tup xs=>cases e;obtain ⟨a,ys,e1,e2,e3⟩:=q;exact ⟨a,ys,e1,.inr e2,e3⟩
 | ref n=>
  obtain ⟨a,e1,e2⟩:=q;dsimp only at e;cases ea:A[n]? with
  | none=>rw [ea] at e;cases e
  | some o=>
   rw [ea] at e;obtain ⟨a',e3,r⟩:=S.ob n o ea;rw [e2] at e3;cases e3;cases o with
   | lst xs=>cases e;obtain ⟨ys,h1,h2⟩:=r;exact ⟨a,ys,e1,.inl (je.of h1),h2⟩
   | ro xs=>cases e;obtain ⟨ys,h1,h2⟩:=r;exact ⟨a,ys,e1,.inl h1.sq,h2⟩
   | dct xs=>cases e
   | tab _ _=>cases e
 | non=>cases e
 | bl _=>cases e
 | clo _ _ _=>cases e
 | xc _=>cases e
 | int _=>cases e
 | str _=>cases e
noncomputable def qb (m:Ev):jN:=λ ρ A=>(m ρ A).bind λ w A1=>match zO w A1 with
 | some ws=>.ok ws A1
 | none=>.bad
noncomputable def Yt (w:W)(A:Hx):Option jx:=match zO w A with
 | some ws=>some ⟨λ A i=>(zO w A).map λ ws=>ws[i]?,ws.length⟩
 | none=>none
noncomputable def qE (m:Ev):Ei:=λ ρ A=>(m ρ A).bind λ w A1=>match Yt w A1 with
 | some j=>.ok j A1
 | none=>.bad
noncomputable def Bj (K:Frag)(tl:TE):TI:=λ σ H Rr=>tl σ H λ x H1=>∃a,x=.ref a/\(((∃xs,je K H1 a xs)/\Rr (P5 K a) H1)∨((∃xs,qG K H1 a xs)/\Rr (P4 K a) H1))
theorem Ew {tg l:Expr}{tl:TE}(hl:PE X l tl):PI X tg l (Bj X.K tl):=by
 intro pins s σ H Rr I h;refine zS (hl pins s σ H _ I h) λ v s1 ⟨x,H1,I1,r1,q1⟩=>?_;obtain ⟨a,e,q⟩:=q1;subst e;cases r1;have fpo:∀b∈[s1.heap.objs.size],yY X pins H1 b:=λ b hb=>by
  have e:b=s1.heap.objs.size:=by simpa using hb
  subst e;exact I1.fpOk (le_refl _) (I1.hok.fresh (le_refl _))
 rcases q with ⟨⟨xs,hq⟩,q⟩ | ⟨⟨xs,hq⟩,q⟩
 ·obtain ⟨its,rv,p,hz⟩:=I1.list hq
  refine wpAny_pyIter_list p.isList ?_;exact ⟨s1.heap.objs.size,[s1.heap.objs.size],_,_,H1,rfl,I1.kept (t':=s1.toks) λ b o e=>Heap.get?_push_of_some _ e,MZ a _,⟨_,Heap.get?_push_size _ rfl,rfl,rfl⟩,fpo,q⟩
 ·obtain ⟨its,rv,p,hz⟩:=I1.tuple hq
  refine wpAny_pyIter_tuple (show s1.heap.IsTuple a its.toArray from p) ?_
  exact ⟨s1.heap.objs.size,[s1.heap.objs.size],_,_,H1,rfl,I1.kept (t':=s1.toks) λ b o e=>Heap.get?_push_of_some _ e,Mc a _,⟨_,Heap.get?_push_size _ rfl,rfl,rfl⟩,fpo,q⟩
noncomputable def yO (lo:Int)(n:Nat):jx:=⟨λ _ i=>if i<n then some (some (.int (lo+i))) else some none,n⟩
theorem DO {K:Frag}{φ:List Addr}{H:Hp}{lo:Int}{n:Nat}:Zz K φ H (yO lo n) (WM lo n):=λ i φ' H' A' lw S'=>by
 unfold yO;dsimp only
 by_cases hi:i<n
 ·rw [if_pos hi]
  refine ⟨λ w e=>?_,λ e=>by cases e⟩
  cases e;exact ⟨hi,λ x H1 ⟨e1,e2⟩=>by subst e1;exact ⟨.refl,S',e2⟩⟩
 ·rw [if_neg hi]
  exact ⟨λ w e=>(by cases e),λ _=>Nat.le_of_not_lt hi⟩
noncomputable def jI (i:Int):Bool:=decide (-(2 ^ 62)<=i)&&decide (i<2 ^ 62)
theorem Q6 {i:Int}(h:jI i=true):-(2 ^ 62)<=i/\i<2 ^ 62:=by
 unfold jI at h;rw [and_eq_true,decide_eq_true_iff,decide_eq_true_iff] at h;exact h
noncomputable def qZ (m:Ev):Ei:=λ ρ A=>(m ρ A).bind λ w A1=>match w with
 | .int j=>if jI j then .ok (yO 0 j.toNat) A1 else .bad
 | _=>.bad
end
noncomputable abbrev Fn:=List W->Hx->R W
noncomputable def yD (K:Frag)(x:Str)(C:Value):Prop:=PySem.W.nsIn K mainGlobals x=some (some C)
noncomputable def XE (K:Frag)(E:XK)(x:Str)(H:Hp):Prop:=∀C d,yD K x C->E C d H
inductive gF (K:Frag)(n:Nat)(f:Fn)(vs:List V)(H:Hp)(Q:VK)(E:XK):Prop
 | mk (len:vs.length=n) (φ:List Addr) (A:Hx) (ws:List W) (S:zH K φ A H) (r:zD K φ H ws vs) (q:(f ws A).post (PB K φ H Q) (EB K φ H (XE K E)))
theorem gF.len {K:Frag}{n:Nat}{f:Fn}{vs:List V}{H:Hp}{Q:VK}{E:XK}(h:gF K n f vs H Q E):vs.length=n:=by cases h;assumption
inductive zE (P:Program)(w:World)(K:Frag)(mg:Str->Option Value)(base:Heap)(k:Nat)(x:Str)(n:Nat)(f:Fn):Prop
 | mk (fa:Addr) (fd:FuncData) (ps:List Str) (F:yk P w K mg base kO k fa fd ps (gF K n f)) (at_:mg x=some (.ref fa)) (kp:PySem.W.keepIn K (.ref fa)=true) (bi:Binds K fd ps [])
noncomputable def zF (f:Fn)(a:Ea):Ev:=λ ρ A=>(a ρ A).bind λ ws A1=>f ws A1
section
variable {X:Cx}{xr:XR}{e a b c:Expr}{es:List Expr}{m ma mb mc:Ev}{m1 m2:Ex}{pos:Pos}
noncomputable def g7 (m:Ea)(n:Nat):Prop:=∀ρ A ws A',m ρ A=.ok ws A'->ws.length=n
theorem zx:g7 zp 0:=λ _ _ _ _ h=>by unfold zp at h;cases h;rfl
theorem zm {mr:Ea}{n:Nat}(h:g7 mr n):g7 (zh ma mr) (n+1):=λ ρ A ws A' e=>by
 unfold zh at e;cases h1:ma ρ A with
 | ok x A1=>
  rw [h1,zL] at e;cases h2:mr ρ A1 with
  | ok xs A2=>rw [h2,zL] at e;cases e;simp [h ρ A1 xs _ h2]
  | exc x A2=>rw [h2] at e;cases e
  | bad=>rw [h2] at e;cases e
 | exc x A1=>rw [h1] at e;cases e
 | bad=>rw [h1] at e;cases e
end
noncomputable def qg (n:Nat)(m:Ex):Fn:=λ ws A=>(m (ws.map some++List.replicate (n - ws.length) none) A).nox.bind λ fl A1=>match fl with
 | .rt w=>.ok w A1
 | .nx _=>.ok .non A1
 | _=>.bad
theorem RE.start {K:Frag}{φ:List Addr}{H:Hp}{N:List Str}{ws:List W}{vs:List V}(h:zD K φ H ws vs):RE K φ H (ws.map some++List.replicate (N.length - ws.length) none) (L2.start N vs):=by
 unfold L2.start;refine ⟨by simp [h.length],λ i w e=>?_⟩
 by_cases hi:i<ws.length
 ·rw [getElem?_append_left (by simpa using hi),getElem?_map] at e
  cases hw:ws[i]? with
  | none=>rw [hw] at e;cases e
  | some w'=>
   rw [hw] at e;cases e;obtain ⟨v,h1,h2⟩:=h.get hw;refine ⟨v,?_,h2⟩;rw [getElem?_append_left (by rw [length_map,<- h.length];exact hi),getElem?_map,h1];rfl
 ·rw [getElem?_append_right (by simpa using hi),getElem?_replicate] at e
  split at e<;>cases e
section
variable {P:Program}{w:World}{K:Frag}{mg:Str->Option Value}{base:Heap}
theorem zE.mono {j k n:Nat}{x:Str}{f:Fn}(F:zE P w K mg base j x n f)(h:j<=k):zE P w K mg base k x n f:=by cases F with | mk fa fd ps F a b c=>exact ⟨fa,fd,ps,F.mono h,a,b,c⟩
theorem zE.imp {k n:Nat}{x:Str}{f g:Fn}(F:zE P w K mg base k x n f)(h:∀ws A,ws.length=n->g ws A=.bad∨f ws A=g ws A):zE P w K mg base k x n g:=by
 obtain ⟨fa,fd,ps,F,a,b,c⟩:=F;refine ⟨fa,fd,ps,F.imp λ vs H Q E ⟨hl,φ,A,ws,S,r,q⟩=>⟨hl,φ,A,ws,S,r,?_⟩,a,b,c⟩;rcases h ws A (by rw [r.length];exact hl) with e | e
 ·rw [e] at q;exact q.elim
 ·rw [e];exact q
end
section
variable {X:Cx}{K:Frag}
theorem j6 {α:Type}{a:α}{A:Hx}:qM (R.ok a A):=λ _ _ h=>by cases h
theorem jc {α:Type}:qM (R.bad:R α):=λ _ _ h=>by cases h
theorem Zo {α:Type}{c:Prop} [Decidable c] {a b:R α}(h1:qM a)(h2:qM b):qM (if c then a else b):=by split<;>assumption
noncomputable def gH (f:Int->Int->W):W->W->Hx->R W
 | .int i,.int j,A=>.ok (f i j) A
 | _,_,_=>.bad
theorem ZY {f:Int->Int->W}:∀x y A,qM (gH f x y A):=λ x y A=>by
 unfold gH;split
 ·exact j6
 ·exact jc
noncomputable def ZE (c:Int->Int->Bool)(f:Int->Int->W):W->W->Hx->R W
 | .int i,.int j,A=>if c i j then .ok (f i j) A else .bad
 | _,_,_=>.bad
theorem Uc {c:Int->Int->Bool}{f:Int->Int->W}:∀x y A,qM (ZE c f x y A):=λ x y A=>by
 unfold ZE;split
 ·exact Zo j6 jc
 ·exact jc
theorem ZU {f:Int->Int->W}{g:Int->Int->V}(h:∀i j φ H,RV K φ H (f i j) (g i j)):yf K (gE g) (gH f):=λ φ A H x y u v Q S q1 q2 p=>by
 cases u with
 | int i=>cases v with
  | int j=>obtain rfl:=q1;obtain rfl:=q2;exact ⟨i,j,rfl,rfl,p φ H _ .refl S (h i j φ H)⟩
  | _=>exact p.elim
 | _=>exact p.elim
theorem VA {c:Int->Int->Bool}{C:Int->Int->Prop}{f:Int->Int->W}{g:Int->Int->V}(hc:∀i j,c i j=true->C i j)(h:∀i j φ H,RV K φ H (f i j) (g i j)):yf K (rI C g) (ZE c f):=λ φ A H x y u v Q S q1 q2 p=>by
 cases u with
 | int i=>cases v with
  | int j=>
   obtain rfl:=q1;obtain rfl:=q2;unfold ZE at p;dsimp only at p
   by_cases hh:c i j=true
   ·rw [if_pos hh] at p;exact ⟨i,j,rfl,rfl,hc i j hh,p φ H _ .refl S (h i j φ H)⟩
   ·rw [if_neg hh] at p;exact p.elim
  | _=>exact p.elim
 | _=>exact p.elim
noncomputable def YF (i j:Int):Bool:=(decide (-(2 ^ 64)<i)&&decide (i<2 ^ 64)) || (decide (-(2 ^ 64)<j)&&decide (j<2 ^ 64))
noncomputable def Wg (_ j:Int):Bool:=decide (0<j)
theorem Hz (i j:Int)(h:YF i j=true):Yr i j:=by
 unfold YF at h;simp only [or_eq_true,and_eq_true,decide_eq_true_eq] at h;exact h
theorem HQ (i j:Int)(h:Wg i j=true):(λ _ j=>0<j) i j:=by
 unfold Wg at h;simpa using h
noncomputable def yG:=gH λ i j=>.int (i - j)
noncomputable def kH:=ZE Wg λ i j=>.int (i % j)
noncomputable def Ur:=gH λ i j=>.int (Builtin.bitXor i j)
noncomputable def QR:=gH λ i j=>.bl (decide (i<j))
noncomputable def kM:=gH λ i j=>.bl (decide (i<=j))
noncomputable def UD:=gH λ i j=>.bl (decide (j<i))
noncomputable def UE:=gH λ i j=>.bl (decide (j<=i))
noncomputable def Up (i j:Int):Bool:=decide (0<=j)&&decide (j<=1000000)&&decide (i.natAbs<2 ^ 64)
theorem HS (i j:Int)(h:Up i j=true):PC i j:=by
 unfold Up at h;simp only [and_eq_true,decide_eq_true_eq] at h;exact ⟨h.1.1,h.1.2,h.2⟩
noncomputable def Z4:=ZE Up λ i j=>.int (i ^ j.toNat)
variable {xr:XR}{a b c:Expr}{ma mb mc:Ev}{pos:Pos}
noncomputable def Zr:W->Hx->R W
 | .int i,A=>.ok (.int (-i)) A
 | _,_=>.bad
structure wu (X:Cx)(op:CmpOp)(g:W->W->Hx->R W):Prop where
 ex:∃r:R2,qQ X (compareOp op) r/\(∀x y A,qM (g x y A))/\yf X.K r g
 mks:∀b,op≠.In->op≠.NotIn->behindInMarks op b=false
theorem Jo {op:CmpOp}{r:R2}{g:W->W->Hx->R W}(h1:qQ X (compareOp op) r)(h2:∀x y A,qM (g x y A))(h3:yf X.K r g):wu X op g:=⟨⟨r,h1,h2,h3⟩,λ b a1 a2=>IL b a1 a2⟩
theorem Ut:wu X .Lt QR:=Jo Ce ZY (ZU λ _ _ _ _=>rfl)
theorem Wr:wu X .LtE kM:=Jo D3 ZY (ZU λ _ _ _ _=>rfl)
theorem Bn:wu X .Gt UD:=Jo CO ZY (ZU λ _ _ _ _=>rfl)
theorem CW:wu X .GtE UE:=Jo Cm ZY (ZU λ _ _ _ _=>rfl)
end
inductive Ty where
 | non | bl | int | str | tup | lst | dct
 deriving DecidableEq
noncomputable def Ty.nm:Ty->String
 | .non => "NoneType" | .bl => "bool" | .int => "int" | .str => "str" | .tup => "tuple" | .lst => "list" | .dct => "dict"
noncomputable def qX (w:W)(A:Hx):Option Ty:=match w with
 | .non=>some .non
 | .bl _=>some .bl
 | .int _=>some .int
 | .str _=>some .str
 | .tup _=>some .tup
 | .ref n=>match A[n]? with
  | some (.lst _)=>some .lst
  | some (.dct _)=>some .dct
  | _=>none
 | _=>none
noncomputable def yH (a b:Ty):Bool:=a==b || (a==.bl&&b==.int)
theorem K4 {K:Frag}(a b:Ty):PySem.W.kitOne K (.type a.nm) (.type b.nm)=some (yH a b):=by
 cases a<;>cases b<;>rfl
section
variable {X:Cx}{xr:XR}{K:Frag}{e a b c:Expr}{es:List Expr}{m ma mb mc:Ev}{pos:Pos}
noncomputable def QO (K:Frag)(H:Hp)(x:V)(t:Ty):Prop:=wy K H x (.type t.nm)∨∃a xs,x=.ref a/\qG K H a xs/\t=.tup
theorem Sf {φ:List Addr}{A:Hx}{H:Hp}{w:W}{v:V}{t:Ty}(S:zH K φ A H)(q:RV K φ H w v)(e:qX w A=some t):QO K H v t:=by
 cases w with
 | non=>cases e;obtain rfl:=q;exact .inl .non
 | bl k=>cases e;obtain rfl:=q;exact .inl (.bl k)
 | clo _ _ _=>cases e
 | xc _=>cases e
 | int k=>cases e;obtain rfl:=q;exact .inl (.int k)
 | str k=>cases e;obtain rfl:=q;exact .inl (.str k)
 | tup ws=>cases e;obtain ⟨a,vs,rfl,h,_⟩:=q;exact .inr ⟨a,vs,rfl,h,rfl⟩
 | ref n=>
  obtain ⟨a,rfl,h1⟩:=q;unfold qX at e;dsimp only at e;cases eo:A[n]? with
  | none=>rw [eo] at e;cases e
  | some o=>
   rw [eo] at e;obtain ⟨a',h2,r⟩:=S.ob n o eo;rw [h1] at h2;cases h2;cases o with
   | lst ws=>cases e;obtain ⟨vs,z,_⟩:=r;exact .inl (.lst z)
   | dct ws=>cases e;obtain ⟨vs,z,_⟩:=r;exact .inl (.dK z)
   | tab _ _=>cases e
   | ro ws=>cases e
theorem QO.kit {pins:List (Addr × Obj)}{σ:St}{H:Hp}{s:Shared}{x:V}{u:Value}{t:Ty}(I:Inv X pins σ H s)(r:RelV x u)(h:QO X.K H x t):
  (∀{Q:Value->Shared->Prop} {E:Value->Shared->Prop} {A:Around} {c:Ty},(∀tk,Q (.bool (yH t c)) { s with toks:=tk })->wpAny (model X.prog X.w) A (call (.builtin "isinstance") [u,.type c.nm]) Q E s):=by
 intro Q E A c hq;rcases h with h | ⟨a,xs,rfl,h,rfl⟩
 ·exact T4 I r h (K4 t c) hq
 ·cases (show u=Value.ref a from r)
  obtain ⟨its,_,⟨o,h1,h2,_⟩,_⟩:=I.tuple h;exact PySem.W.kia_one PySem.W.kitx_tuple I.kIn ⟨o,h1,h2⟩ (K4 .tup c) (λ z=>nomatch z) hq
noncomputable def BH (K:Frag):List V->Hp->VK->Prop:=λ xs H Q=>∃x t c,xs=[x,.ty (Ty.nm c)]/\QO K H x t/\Q (.bl (yH t c)) H
theorem Ft:jV X (.builtin "isinstance") (BH X.K):=by
 intro pins s σ H xs us Q I r h;obtain ⟨x,t,c,rfl,ht,q⟩:=h;obtain ⟨u,u',rfl,ru,ru'⟩:=vals2 r;cases (show u'=Value.type c.nm from ru')
 exact ht.kit I ru λ tk=>⟨.bl (yH t c),H,I.tok tk,rfl,q⟩
noncomputable def yx (t:Ty)(m:Ev):Ev:=λ ρ A=>(m ρ A).bind λ w A1=>match qX w A1 with
 | some t'=>.ok (.bl (yH t' t)) A1
 | none=>.bad
noncomputable def zB:W->W->Hx->R W:=λ x y A=>match zO x A,y with
 | some ws,.int i=>match wb ws i with
  | some w=>.ok w A
  | none=>.bad
 | _,_=>.bad
theorem Cf:∀x y A,qM (zB x y A):=λ x y A=>by
 unfold zB;split
 ·split
  ·exact j6
  ·exact jc
 ·exact jc
theorem Iu {φ:List Addr}{H:Hp}{ws:List W}{ys:List V}{i:Int}{w:W}(r:zD K φ H ws ys)(e:wb ws i=some w):∃y,wb ys i=some y/\RV K φ H w y:=by
 unfold wb at e ⊢;rw [<- r.length];cases h:w8 ws.length i with
 | none=>rw [h] at e;cases e
 | some j=>
  rw [h] at e;obtain ⟨y,h1,h2⟩:=r.get (i:=j) e;exact ⟨y,h1,h2⟩
theorem Dw:yf K (P7 K) zB:=λ φ A H x y u v Q S q1 q2 p=>by
 unfold zB at p;cases es:zO u A with
 | none=>rw [es] at p;exact p.elim
 | some ws=>
  rw [es] at p;cases v with
  | int i=>
   obtain rfl:=q2;dsimp only at p;cases ei:wb ws i with
   | none=>rw [ei] at p;exact p.elim
   | some w=>
    rw [ei] at p;obtain ⟨a,ys,rfl,z,r⟩:=Ko S q1 es;obtain ⟨y',h1,h2⟩:=Iu r ei;rcases z with z | z
    ·exact .inl ⟨a,ys,i,y',rfl,rfl,z,h1,p φ H _ .refl S h2⟩
    ·exact .inr (.inl ⟨a,ys,i,y',rfl,rfl,z,h1,p φ H _ .refl S h2⟩)
  | non=>exact p.elim
  | bl _=>exact p.elim
  | str _=>exact p.elim
  | tup _=>exact p.elim
  | ref _=>exact p.elim
  | clo _ _ _=>exact p.elim
  | xc _=>exact p.elim
noncomputable def QQ (K:Frag)(r:List V->Hp->VK->Prop)(g:List W->Hx->R W):Prop:=∀φ A H a ys ws Q,zH K φ A H->(je K H a ys∨qG K H a ys)->zD K φ H ws ys->(g ws A).post (PB K φ H Q) wH->r [.ref a] H Q
noncomputable def mQ (g:List W->Hx->R W)(q:jN):Ev:=λ ρ A=>(q ρ A).bind λ ws A1=>g ws A1
theorem mQ.read {r:List V->Hp->VK->Prop}{g:List W->Hx->R W}{q:jN}(hn:∀ws A,qM (g ws A))(hq:QQ X.K r g):∀σ H Q,tM X.K xr (mQ g q) σ H Q->Wy r (Wb (tQ X.K xr q) Um) σ H Q:=by
 rintro σ H Q ⟨φ,A,ρ,S,re,h⟩
 refine ⟨φ,A,ρ,S,re,qp (zY.mp h) (λ ws A1 h1 φ1 H1 a ys l1 S1 z r=>?_) λ _ _ z=>z⟩;exact hq φ1 A1 H1 a ys ws Q S1 z r (qp (Ja (hn _ _) h1) (λ _ _ z=>z.mono l1) λ _ _ z=>z)
theorem V2 {id:String}{x:Str}{p:Pos}{r:List V->Hp->VK->Prop}{g:List W->Hx->R W}{q:jN}(hc:jV X (.builtin id) r)(hn:∀ws A,qM (g ws A))(hq:QQ X.K r g)(hm:X.mg x=none)(hv:bootBuiltins x=some (.builtin id))(ha:SQ X xr e q)(hg:Gl X x:=by rfl)
  (hn':x ≠ "__name__" := by decide)(hdb:(x==("__debug__" : Str))=false:=by decide)(he:starEach [e] X.env=(false,eval e X.env)::starEach [] X.env:=by rfl)(hpl:(backTo pos (starEach [] X.env)).any (·.1)=false:=by rfl):
  SE X xr (.Call (.Name x p) [e] [] pos) (mQ g q):=PE.imp (ZN hc hg hm hv (jv ha j4 he) hn' hdb he hpl) (mQ.read hn hq)
theorem D9 {id:String}{x:Str}{p:Pos}{r:List V->Hp->VK->Prop}{g:List W->Hx->R W}{q:jN}(hc:jV X (.type id) r)(hn:∀ws A,qM (g ws A))(hq:QQ X.K r g)(hm:X.mg x=none)(hv:bootBuiltins x=some (.type id))(ha:SQ X xr e q)(hg:Gl X x:=by rfl)
  (hn':x ≠ "__name__" := by decide)(hdb:(x==("__debug__" : Str))=false:=by decide)(he:starEach [e] X.env=(false,eval e X.env)::starEach [] X.env:=by rfl)(hpl:(backTo pos (starEach [] X.env)).any (·.1)=false:=by rfl):
  SE X xr (.Call (.Name x p) [e] [] pos) (mQ g q):=PE.imp (Q9 hc hg hm hv (jv ha j4 he) hn' hdb he hpl) (mQ.read hn hq)
noncomputable def qJ:List W->Hx->R W:=λ ws A=>.ok (.int ws.length) A
theorem HB:QQ K (λ xs H Q=>∃p ys,xs=[.ref p]/\(je K H p ys∨qG K H p ys)/\Q (.int ys.length) H) qJ:=λ φ A H a ys ws Q S z r p=>
 ⟨a,ys,rfl,z,by rw [<- r.length];exact p φ H _ .refl S rfl⟩
noncomputable def yP:List W->Hx->R W:=λ ws A=>.ok (.tup ws) A
theorem Fz:QQ K (λ xs H Q=>∃p ys,xs=[.ref p]/\((je K H p ys/\∀l,H l=none->Q (.ref l) (upd H l (.tup ys)))∨(qG K H p ys/\Q (.ref p) H))) yP:=λ φ A H a ys ws Q S z r p=>by
 refine ⟨a,ys,rfl,?_⟩;rcases z with z | z
 ·refine .inl ⟨z,λ l hl=>?_⟩
  obtain ⟨a1,a2,a3⟩:=Yc S hl r;exact p _ _ _ a1 a2 a3
 ·exact .inr ⟨z,p φ H _ .refl S ⟨a,ys,rfl,z,r⟩⟩
end
section
variable {X:Cx}{xr:XR}{K:Frag}{e a b c:Expr}{es:List Expr}{m ma mb mc:Ev}{pos:Pos}
theorem Si {pins:List (Addr × Obj)}{σ:St}{H:Hp}{s:Shared}{a:Addr}{ys:List V}(I:Inv X pins σ H s)(hc:X.calm=true)(z:je X.K H a ys∨qG X.K H a ys){E:Value->Shared->Prop}{Q:Value->Shared->Prop}
  (h:∀(its:List Value) (I':Addr) (fp wr:List Addr) (St':Nat->Heap->Prop) (s2:Shared),Vals ys its->ys.length<=sizeLine->Walks X.prog X.w X.A.in1 I' fp wr its.length (λ i v=>its[i]? =some v) St'->St' 0 s2.heap->(∀b∈fp,b<s2.heap.objs.size)->
   (∀(h':Heap) (tk:Nat),(∀b o,b∉wr->s2.heap.get? b=some o->h'.get? b=some o)->Inv X pins σ H { s2 with heap:=h',toks:=tk })->Q (.ref I') s2):
  wpAny (model X.prog X.w) X.A.in1 (pyIter (.ref a)) Q E s:=by
 have hh:X.A.in1.handled=none:=I.ok.hd hc;have keep:∀(o:Obj) (h':Heap) (tk:Nat),(∀b u,b∉[s.heap.objs.size]->(s.heap.push o).get? b=some u->h'.get? b=some u)->Inv X pins σ H { s with heap:=h',toks:=tk }:=λ o h' tk k=>I.kept λ b u e=>k b u (by
  intro hm;have e1:b=s.heap.objs.size:=by simpa using hm
  exact absurd (e1 ▸ Heap.lt_size e) (lt_irrefl _)) (Heap.get?_push_of_some _ e)
 rcases z with z | z
 ·obtain ⟨its,rv,p,hz⟩:=I.list z
  have hlt:a<s.heap.objs.size:=by obtain ⟨o,n,e,_⟩:=p;exact Heap.lt_size e
  refine wpAny_pyIter_list p.isList ?_;have W:=Walks.list (prog:=X.prog) (w:=X.w) hh s.heap.objs.size a (ne_of_lt hlt) its.toArray;rw [size_toArray] at W;simp only [List.getElem?_toArray] at W;refine h its s.heap.objs.size _ _ _ _ rv hz W ⟨⟨_,Heap.get?_push_size _ rfl,rfl,rfl⟩,p.isList.at λ o e=>Heap.get?_push_of_some _ e⟩ (λ b hb=>?_) λ h' tk k=>keep _ h' tk k;show b<(s.heap.push _).objs.size;rw [Heap.size_push];rcases List.mem_cons.mp hb with e | hb
  ·rw [e];exact lt_succ_self _
  ·have e:b=a:=by simpa using hb
   rw [e];exact lt_succ_of_lt hlt
 ·obtain ⟨its,rv,p,hz⟩:=I.tuple z
  have hlt:a<s.heap.objs.size:=p.lt;have p':s.heap.IsTuple a its.toArray:=p;refine wpAny_pyIter_tuple p' ?_;have W:=Walks.tuple (prog:=X.prog) (w:=X.w) hh s.heap.objs.size a (ne_of_lt hlt) its.toArray;rw [size_toArray] at W;simp only [List.getElem?_toArray] at W;refine h its s.heap.objs.size _ _ _ _ rv hz W ⟨⟨_,Heap.get?_push_size _ rfl,rfl,rfl⟩,p'.at λ o e=>Heap.get?_push_of_some _ e⟩ (λ b hb=>?_) λ h' tk k=>keep _ h' tk k;show b<(s.heap.push _).objs.size;rw [Heap.size_push];rcases List.mem_cons.mp hb with e | hb
  ·rw [e];exact lt_succ_self _
  ·have e:b=a:=by simpa using hb
   rw [e];exact lt_succ_of_lt hlt
noncomputable def Yu:V->Option Bool
 | .bl b=>some b
 | .int i=>some (i != 0)
 | .non=>some false
 | _=>none
noncomputable def Yv:W->Option Bool
 | .bl b=>some b
 | .int i=>some (i != 0)
 | .non=>some false
 | _=>none
theorem IT {φ:List Addr}{H:Hp}{w:W}{v:V}{k:Bool}(q:RV K φ H w v)(e:Yv w=some k):Yu v=some k:=by
 cases w<;>first
  | (cases e;done)
  | (obtain rfl:=q;exact e)
theorem Mv {A:Around}{v:V}{u:Value}{k:Bool}{s:Shared}{Q:Bool->Shared->Prop}{E:Value->Shared->Prop}(r:RelV v u)(e:Yu v=some k)(h:Q k s):wpAny (model X.prog X.w) A (truthy u) Q E s:=by
 cases v with
 | bl b=>cases e;cases r;exact wpAny_truthy_bool h
 | int i=>
  cases e;obtain ⟨t,rfl⟩:=r;exact PySem.P.truthy_int h
 | non=>cases e;cases r;exact λ _ _ _=>h
 | _=>cases e
noncomputable def gv:List W->Option (List Bool)
 | []=>some []
 | w::ws=>match Yv w,gv ws with
  | some k,some ks=>some (k::ks)
  | _,_=>none
theorem U8 {φ:List Addr}{H:Hp}:∀{ws:List W} {ys:List V} {ks:List Bool},zD K φ H ws ys->gv ws=some ks->∀(i:Nat) (y:V),ys[i]? =some y->∃k,ks[i]? =some k/\Yu y=some k
 | [],_,_,r,e,i,y,h=>by cases r;simp at h
 | w::ws,_,ks,⟨v,r,e1,q,t⟩,e,i,y,h=>by
  subst e1;unfold gv at e;cases e2:Yv w with
  | none=>rw [e2] at e;cases e
  | some k=>
   cases e3:gv ws with
   | none=>rw [e2,e3] at e;cases e
   | some ks'=>
    rw [e2,e3] at e;cases e;cases i with
    | zero=>simp at h;subst h;exact ⟨k,by simp,IT q e2⟩
    | succ i=>simp at h;obtain ⟨k',h1,h2⟩:=U8 t e3 i y h;exact ⟨k',by simpa using h1,h2⟩
theorem To:∀{ws:List W} {ks:List Bool},gv ws=some ks->ks.length=ws.length
 | [],_,e=>by cases e;rfl
 | w::ws,ks,e=>by
  unfold gv at e;cases e2:Yv w with
  | none=>rw [e2] at e;cases e
  | some k=>
   cases e3:gv ws with
   | none=>rw [e2,e3] at e;cases e
   | some ks'=>rw [e2,e3] at e;cases e;simp [To e3]
theorem range_all (ks:List Bool):(List.range ks.length).all (λ i=>ks.getD i false)=ks.all id:=by
 rw [Bool.eq_iff_iff,all_eq_true,all_eq_true]
 constructor
 ·intro h x hx
  obtain ⟨i,hi,rfl⟩:=getElem_of_mem hx
  have:=h i (List.mem_range.mpr hi)
  rw [getD_eq_getElem?_getD,getElem?_eq_getElem hi] at this;exact this
 ·intro h i hi
  have hi':=List.mem_range.mp hi;rw [getD_eq_getElem?_getD,getElem?_eq_getElem hi'];exact h _ (getElem_mem hi')
noncomputable def PL (K:Frag)(f:List Bool->Bool):List V->Hp->VK->Prop:=λ xs H Q=>∃a ys ks,xs=[.ref a]/\(je K H a ys∨qG K H a ys)/\ks.length=ys.length/\(∀(i:Nat) (y:V),ys[i]? =some y->∃k,ks[i]? =some k/\Yu y=some k)/\Q (.bl (f ks)) H
theorem Hi {ys:List V}{its:List Value}{ks:List Bool}{A:Around}(rv:Vals ys its)(hl:ks.length=ys.length)(ht:∀(i:Nat) (y:V),ys[i]? =some y->∃k,ks[i]? =some k/\Yu y=some k):TruthOf X.prog X.w A (λ i v=>its[i]? =some v) λ i=>ks.getD i false:=by
 intro i v s Q E hP hQ;have hi:i<its.length:=(List.getElem?_eq_some_iff.mp hP).1;have hi':i<ys.length:=by rw [rv.length];exact hi
 obtain ⟨u,h1,h2⟩:=rv.get (i:=i) (x:=ys[i]) (by simp [hi'])
 rw [hP] at h1;cases h1;obtain ⟨k,h3,h4⟩:=ht i ys[i] (by simp [hi'])
 dsimp only at hQ;rw [getD_eq_getElem?_getD,h3] at hQ;exact Mv h2 h4 hQ
theorem Ha (hc:X.calm=true):jV X (.builtin "all") (PL X.K λ ks=>ks.all id):=by
 intro pins s σ H xs us Q I r h;obtain ⟨a,ys,ks,rfl,z,hl,ht,q⟩:=h;obtain ⟨u,rfl,ru⟩:=vals1 r;cases ru;refine call_all_walk (Si I hc z λ its I' fp wr St' s2 rv hz W st hfp back=>?_);refine ⟨I',fp,wr,_,_,St',λ i=>ks.getD i false,rfl,W,st,Hi rv hl ht,λ h' tk k=>?_⟩;have e:its.length=ks.length:=by rw [hl,rv.length]
 rw [e,range_all];exact ⟨.bl _,H,back h' tk k,rfl,q⟩
noncomputable def Zv (f:List Bool->Bool):List W->Hx->R W:=λ ws A=>match gv ws with
 | some ks=>.ok (.bl (f ks)) A
 | none=>.bad
theorem Dl {f:List Bool->Bool}:∀ws A,qM (Zv f ws A):=λ ws A=>by
 unfold Zv;split
 ·exact j6
 ·exact jc
theorem Fc {f:List Bool->Bool}:QQ K (PL K f) (Zv f):=λ φ A H a ys ws Q S z r p=>by
 unfold Zv at p;cases e:gv ws with
 | none=>rw [e] at p;exact p.elim
 | some ks=>
  rw [e] at p;exact ⟨a,ys,ks,rfl,z,by rw [To e,r.length],U8 r e,p φ H _ .refl S rfl⟩
noncomputable abbrev Z5:=Zv λ ks=>ks.all id
end
noncomputable def Pz (outer sc:Scope):Bool:=sc.kind==.function&&decide ((sc.names.map (·.1)).Nodup)&&sc.names.all λ y=>y.2 != .free || (outer.names.lookup y.1==some .cell || outer.names.lookup y.1==some .free)
theorem cps {X:Cx}{sc:Scope}(h:Pz X.env.scope sc=true):gN X sc:=by
 unfold Pz at h;rw [and_eq_true,and_eq_true,decide_eq_true_iff,beq_iff_eq,all_eq_true] at h;refine ⟨h.1.1,h.1.2,λ y hy e=>?_⟩
 have:=h.2 y hy
 rw [e] at this;simp only [bne_self_eq_false,Bool.false_or,or_eq_true,beq_iff_eq] at this;exact this
section
variable {X:Cx}{xr:XR}{K:Frag}{e a b c:Expr}{es:List Expr}{m ma mb mc:Ev}{pos:Pos}
theorem zH.lst {φ:List Addr}{A:Hx}{H:Hp}{n:Nat}{ws:List W}{v:V}(S:zH K φ A H)(q:RV K φ H (.ref n) v)(e:A[n]? =some (.lst ws)):∃p vs,v=.ref p/\φ[n]? =some p/\H p=some (.lst vs)/\zD K φ H ws vs:=by
 obtain ⟨p,rfl,h1⟩:=q;obtain ⟨p',h2,vs,h3,h4⟩:=S.ob n _ e;rw [h1] at h2;cases h2;exact ⟨p,vs,rfl,h1,h3,h4⟩
theorem IS {prog:Program}{w:World}{A:Around}{E:Value->Shared->Prop}{s:Shared}{t b:Addr}{ws:List Value}{Q:Value->Shared->Prop}(ht:IsTup s.heap t ([]:List Value).toArray)(hb:IsTup s.heap b ws.toArray)(h0:Q (.ref b) s):
  wpAny (model prog w) A (binaryOp .Add (.ref t) (.ref b)) Q E s:=by
 obtain ⟨⟨cls,dd,data,sl⟩,ho,hc,n,hd⟩:=id ht;obtain ⟨⟨cls2,dd2,data2,sl2⟩,ho2,hc2,n2,hd2⟩:=id hb;simp only at hc hd hc2 hd2;subst hc hd hc2 hd2;exact concat_meets ⟨_,ho,rfl⟩ ⟨_,ho2,rfl⟩ noFill_tuple_add seq_tuple_add PySem.F.slot_tuple_add PySem.F.entry_tuple_add (PySem.F.args_tuple_add_2 _ _)
   (tuple_addW0 t b ([]:List Value).toArray ws.toArray n n2 dd dd2 sl sl2 (by simp)) ⟨ho,ho2,h0⟩
noncomputable def RN (K:Frag):R2:=λ x y H Q=>∃a b ys,x=.ref a/\y=.ref b/\qG K H a []/\qG K H b ys/\Q (.ref b) H
theorem LU:qQ X (binaryOp .Add) (RN X.K):=by
 intro pins s σ H x y v u Q I rx ry h;obtain ⟨a,b,ys,rfl,rfl,ha,hb,q⟩:=h;cases rx;cases ry;obtain ⟨its,r1,p1,_⟩:=I.tuple ha;obtain ⟨its2,r2,p2,_⟩:=I.tuple hb;cases r1;exact IS p1 p2 ⟨.ref b,H,I,rfl,q⟩
noncomputable def qH:W->W->Hx->R W:=λ x y A=>match x,y with
 | .int i,.int j=>.ok (.int (i+j)) A
 | .tup xs,.tup ys=>if xs.length+ys.length<=zZ then .ok (.tup (xs++ys)) A else .bad
 | .ref n,.ref k=>match A[n]?,A[k]? with
  | some (.lst xs),some (.lst ys)=>if xs.length+ys.length<=zZ then .ok (.ref A.length) (A++[.lst (xs++ys)]) else .bad
  | _,_=>.bad
 | _,_=>.bad
theorem ES:∀x y A,qM (qH x y A):=λ x y A=>by
 unfold qH
 split
 ·exact j6
 ·exact Zo j6 jc
 ·split
  ·exact Zo j6 jc
  ·exact jc
 ·exact jc
theorem Zk {n:Nat}(h:n<=zZ):n<=sizeLine:=by
 have:sizeLine=16777216:=sizeLine_eq
 unfold zZ at h;omega
theorem Fd:yf K (λ x y H Q=>gE (λ i j=>.int (i+j)) x y H Q∨Pj K x y H Q∨RN K x y H Q∨PD x y H Q) qH:=λ φ A H x y u v Q S q1 q2 p=>by
 cases u with
 | int i=>cases v with
  | int j=>obtain rfl:=q1;obtain rfl:=q2;exact .inl ⟨i,j,rfl,rfl,p φ H _ .refl S rfl⟩
  | _=>exact p.elim
 | tup xs=>cases v with
  | tup ys=>
   obtain ⟨a1,vs1,rfl,t1,r1⟩:=q1;obtain ⟨a2,vs2,rfl,t2,r2⟩:=q2;unfold qH at p;dsimp only at p
   by_cases hz:xs.length+ys.length<=zZ
   ·rw [if_pos hz] at p
    by_cases hx:vs1=[]
    ·subst hx
     have e0:xs=[]:=by
      have:=r1.length
      simpa using this
     subst e0;exact .inr (.inr (.inl ⟨a1,a2,vs2,rfl,rfl,t1,t2,p φ H _ .refl S ⟨a2,vs2,rfl,t2,r2⟩⟩))
    ·refine .inr (.inl ⟨a1,a2,vs1,vs2,rfl,rfl,t1,t2,hx,by rw [<- r1.length,<- r2.length];exact Zk hz,λ e=>?_,λ ne l hl=>?_⟩)
     ·subst e
      have e0:ys=[]:=by
       have:=r2.length
       simpa using this
      subst e0;rw [append_nil] at p;exact p φ H _ .refl S ⟨a1,vs1,rfl,t1,r1⟩
     ·obtain ⟨b1,b2,b3⟩:=Yc S hl (r1.append r2)
      exact p _ _ _ b1 b2 b3
   ·rw [if_neg hz] at p;exact p.elim
  | _=>exact p.elim
 | ref n=>cases v with
  | ref k=>
   unfold qH at p;dsimp only at p;cases e1:A[n]? with
   | none=>rw [e1] at p;exact p.elim
   | some o1=>cases o1 with
    | lst xs=>
     cases e2:A[k]? with
     | none=>rw [e1,e2] at p;exact p.elim
     | some o2=>cases o2 with
      | lst ys=>
       rw [e1,e2] at p;dsimp only at p;obtain ⟨p1,v1,rfl,f1,g1,r1⟩:=S.lst q1 e1;obtain ⟨p2,v2,rfl,f2,g2,r2⟩:=S.lst q2 e2
       by_cases hz:xs.length+ys.length<=zZ
       ·rw [if_pos hz] at p
        refine .inr (.inr (.inr ⟨p1,p2,v1,v2,rfl,rfl,g1,g2,by rw [<- r1.length,<- r2.length];exact Zk hz,λ l hl=>?_⟩))
        obtain ⟨b1,b2,b3⟩:=Qs S hl (r1.append r2);exact p _ _ _ b1 b2 b3
       ·rw [if_neg hz] at p;exact p.elim
      | _=>rw [e1,e2] at p;exact p.elim
    | _=>rw [e1] at p;exact p.elim
  | _=>exact p.elim
 | _=>cases v<;>exact p.elim
noncomputable def qP:W->W->Hx->R W:=λ x y A=>match x,y with
 | .int i,.int j=>if YF i j then .ok (.int (i * j)) A else .bad
 | .ref n,.int k=>match A[n]? with
  | some (.lst xs)=>if jI k&&decide (xs.length * k.toNat<=zZ) then .ok (.ref A.length) (A++[.lst (List.replicate k.toNat xs).flatten]) else .bad
  | _=>.bad
 | _,_=>.bad
theorem DJ:∀x y A,qM (qP x y A):=λ x y A=>by
 unfold qP
 split
 ·exact Zo j6 jc
 ·split
  ·exact Zo j6 jc
  ·exact jc
 ·exact jc
theorem zD.rep {φ:List Addr}{H:Hp}{ws:List W}{vs:List V}(r:zD K φ H ws vs):∀n:Nat,zD K φ H (List.replicate n ws).flatten (List.replicate n vs).flatten
 | 0=>.nil
 | n+1=>by rw [replicate_succ,replicate_succ,flatten_cons,flatten_cons];exact r.append (zD.rep r n)
theorem FF:yf K (λ x y H Q=>rI Yr (λ i j=>.int (i * j)) x y H Q∨Px x y H Q) qP:=λ φ A H x y u v Q S q1 q2 p=>by
 cases v with
 | int j=>cases u with
  | int i=>
   obtain rfl:=q1;obtain rfl:=q2;unfold qP at p;dsimp only at p
   by_cases hc:YF i j=true
   ·rw [if_pos hc] at p;exact .inl ⟨i,j,rfl,rfl,Hz i j hc,p φ H _ .refl S rfl⟩
   ·rw [if_neg hc] at p;exact p.elim
  | ref n=>
   obtain rfl:=q2;unfold qP at p;dsimp only at p;cases e1:A[n]? with
   | none=>rw [e1] at p;exact p.elim
   | some o1=>cases o1 with
    | lst xs=>
     rw [e1] at p;dsimp only at p;obtain ⟨p1,v1,rfl,f1,g1,r1⟩:=S.lst q1 e1
     by_cases hz:(jI j&&decide (xs.length * j.toNat<=zZ))=true
     ·rw [if_pos hz] at p
      rw [and_eq_true,decide_eq_true_iff] at hz;obtain ⟨b1,b2⟩:=Q6 hz.1;refine .inr ⟨p1,j,v1,rfl,rfl,g1,by omega,by omega,by rw [<- r1.length];exact Zk hz.2,λ l hl=>?_⟩
      obtain ⟨c1,c2,c3⟩:=Qs S hl (r1.rep j.toNat);exact p _ _ _ c1 c2 c3
     ·rw [if_neg hz] at p;exact p.elim
    | _=>rw [e1] at p;exact p.elim
  | _=>exact p.elim
 | _=>cases u<;>exact p.elim
noncomputable def yA:W->W->Hx->R W:=λ x y A=>match x with
 | .ref n=>match A[n]? with
  | some (.lst ws)=>if ws.length<zZ then .ok .non (A.set n (.lst (ws++[y]))) else .bad
  | _=>.bad
 | _=>.bad
noncomputable def JI (x:W)(A:Hx):Bool:=match x with
 | .ref n=>match A[n]? with
  | some (.lst _)=>true
  | _=>false
 | _=>false
theorem Lw {φ:List Addr}{A:Hx}{H:Hp}{w:W}{v:V}(S:zH K φ A H)(q:RV K φ H w v)(e:JI w A=true):UB K "list" v H:=by
 unfold JI at e;cases w with
 | ref n=>
  dsimp only at e;cases e1:A[n]? with
  | none=>rw [e1] at e;cases e
  | some o=>cases o with
   | lst ws=>obtain ⟨p,vs,rfl,_,h,_⟩:=S.lst q e1;exact .inl ⟨rfl,_,je.of h⟩
   | _=>rw [e1] at e;cases e
 | _=>cases e
noncomputable def j5 (g:W->W->Hx->R W)(a b:Ev):Ev:=λ ρ A=>(a ρ A).bind λ x A1=>if JI x A1 then (b ρ A1).bind λ y A2=>g x y A2 else .bad
theorem VL {nm:Str}{id:String}{r:V->List V->Hp->VK->Prop}{g:W->W->Hx->R W}{apos cpos:Pos}(slot:Slot "list" nm id)(hty:typeOf (.builtin id)=pure (.type "method_descriptor"))(hm:Oa X id r)(hn:∀x y A,qM (g x y A))
  (hg:∀φ A H x y u v Q,zH X.K φ A H->RV X.K φ H u x->RV X.K φ H v y->(g u v A).post (PB X.K φ H Q) wH->r x [y] H Q)(ho:SE X xr a ma)(he:SE X xr b mb)
  (hs:starEach [b] X.env=(false,eval b X.env)::starEach [] X.env)(hbase:attributeBase a nm X.env (eval a X.env)=eval a X.env)
  (hfew:((backTo cpos (starEach [b] X.env)).all (λ x=>!x.1)&&(backToKw cpos (keywordEach [] X.env)).all (λ x=>x.1.isSome)
   && decide ([b].length+([]:List Keyword).length+(if ([]:List Keyword).isEmpty then 0 else 1)<30))=true)(hline:(apos.endLine==cpos.line)=true):
  SE X xr (.Call (.Attribute a nm apos) [b] [] cpos) (j5 g ma mb):=
 PE.imp (DV PySem.F.plainAttrs_list slot hty hm ho (jv he j4 hs) hbase hfew hline hs (by rfl)) λ σ H Q ⟨φ,A,ρ,S,re,h⟩=>by
  refine tM.go S re (zY.mp h) λ w A1 φ1 H1 v h1 l1 S1 q1=>?_
  by_cases hl:JI w A1=true
  ·rw [if_pos hl] at h1
   refine ⟨Lw S1 q1 hl,?_⟩;refine tM.go S1 (re.mono l1) (qp (zY.mp h1) (λ _ _ z=>z) λ _ _ z=>z.mono l1) λ w2 A2 φ2 H2 v2 h2 l2 S2 q2=>?_;exact hg φ2 A2 H2 v v2 w w2 Q S2 (q1.mono l2) q2 (qp (Ja (hn _ _ _) h2) (λ _ _ z=>z.mono (l1.trans l2)) λ _ _ z=>z)
  ·rw [if_neg hl] at h1;exact h1.elim
theorem M0:∀x y A,qM (yA x y A):=λ x y A=>by
 unfold yA
 split
 ·split
  ·exact Zo j6 jc
  ·exact jc
 ·exact jc
noncomputable def gQ:W->W->Hx->R W:=λ x y A=>match x,y with
 | .ref n,.int i=>match A[n]? with
  | some (.lst ws)=>match (if jI i then seqIndex? i ws.length else none) with
   | some k=>match ws[k]? with
    | some w=>.ok w (A.set n (.lst (ws.eraseIdx k)))
    | none=>.bad
   | none=>.bad
  | _=>.bad
 | _,_=>.bad
theorem IW:∀x y A,qM (gQ x y A):=λ x y A=>by
 unfold gQ
 split
 ·split
  ·split
   ·split
    ·exact j6
    ·exact jc
   ·exact jc
  ·exact jc
 ·exact jc
noncomputable def yv:W->W->W->Hx->R Unit:=λ o i v A=>match o,i with
 | .ref n,.int k=>match A[n]? with
  | some (.lst ws)=>match w8 ws.length k with
   | some j=>.ok () (A.set n (.lst (ws.set j v)))
   | none=>.bad
  | _=>.bad
 | _,_=>.bad
theorem R8:∀o i v A,qM (yv o i v A):=λ o i v A=>by
 unfold yv
 split
 ·split
  ·split
   ·exact j6
   ·exact jc
  ·exact jc
 ·exact jc
theorem Rw:Pg K Pl yv:=λ φ A H o i v wo wi wv Q S q1 q2 q3 p=>by
 unfold yv at p;cases wo with
 | ref n=>cases wi with
  | int k=>
   obtain rfl:=q2;dsimp only at p;cases e1:A[n]? with
   | none=>rw [e1] at p;exact p.elim
   | some o1=>cases o1 with
    | lst ws=>
     rw [e1] at p;dsimp only at p;cases e2:w8 ws.length k with
     | none=>rw [e2] at p;exact p.elim
     | some j=>
      rw [e2] at p;obtain ⟨l,vs,rfl,f1,g1,r1⟩:=S.lst q1 e1;have ln:Le K φ H φ (upd H l (.lst (vs.set j v))):=Le.upd f1 (λ xs z=>by rw [g1] at z;cases z) (λ _ _ z=>by rw [g1] at z;cases z)
      obtain ⟨w1,w2⟩:=S.write (o:=.lst ws) (o':=.lst (ws.set j wv)) e1 rfl rfl f1 ⟨_,jy,(r1.mono ln).set (q3.mono ln) j⟩;exact ⟨l,vs,k,j,rfl,rfl,g1,by rw [<- r1.length];exact e2,p _ _ w1 w2⟩
    | _=>rw [e1] at p;exact p.elim
  | _=>exact p.elim
 | _=>cases wi<;>exact p.elim
end
section
variable {X:Cx}{xr:XR}{K:Frag}{e a b c:Expr}{es:List Expr}{m ma mb mc:Ev}{pos:Pos}
theorem D5 {id:String}{x:Str}{p:Pos}{r:List V->Hp->VK->Prop}{g:W->Hx->R W}(hc:jV X (.builtin id) r)(hn:∀w A,qM (g w A))(hg:WE X.K (λ v=>r [v]) g)(hm:X.mg x=none)(hv:bootBuiltins x=some (.builtin id))(ha:SE X xr e m)(hgl:Gl X x:=by rfl)
  (hn':x ≠ "__name__" := by decide)(hdb:(x==("__debug__" : Str))=false:=by decide)(he:starEach [e] X.env=(false,eval e X.env)::starEach [] X.env:=by rfl)(hpl:(backTo pos (starEach [] X.env)).any (·.1)=false:=by rfl):
  SE X xr (.Call (.Name x p) [e] [] pos) (jO g m):=PE.imp (ZN hc hgl hm hv (jv ha j4 he) hn' hdb he hpl) λ σ H Q h=>jO.read (r:=λ v=>r [v]) hn hg σ H Q h
theorem EL {id:String}{x:Str}{p:Pos}{r:List V->Hp->VK->Prop}{g:W->Hx->R W}(hc:jV X (.type id) r)(hn:∀w A,qM (g w A))(hg:WE X.K (λ v=>r [v]) g)(hm:X.mg x=none)(hv:bootBuiltins x=some (.type id))(ha:SE X xr e m)(hgl:Gl X x:=by rfl)
  (hn':x ≠ "__name__" := by decide)(hdb:(x==("__debug__" : Str))=false:=by decide)(he:starEach [e] X.env=(false,eval e X.env)::starEach [] X.env:=by rfl)(hpl:(backTo pos (starEach [] X.env)).any (·.1)=false:=by rfl):
  SE X xr (.Call (.Name x p) [e] [] pos) (jO g m):=PE.imp (Q9 hc hgl hm hv (jv ha j4 he) hn' hdb he hpl) λ σ H Q h=>jO.read (r:=λ v=>r [v]) hn hg σ H Q h
theorem VN {id:String}{x:Str}{p:Pos}{r:List V->Hp->VK->Prop}{g:W->W->Hx->R W}(hc:jV X (.builtin id) r)(hn:∀w w' A,qM (g w w' A))(hg:yf X.K (λ v v'=>r [v,v']) g)(hm:X.mg x=none)(hv:bootBuiltins x=some (.builtin id))(ha:SE X xr a ma)(hb:SE X xr b mb)(hgl:Gl X x)
  (hn':x ≠ "__name__")(hdb:(x==("__debug__" : Str))=false)(h1:starEach [a,b] X.env=(false,eval a X.env)::starEach [b] X.env)(h2:starEach [b] X.env=(false,eval b X.env)::starEach [] X.env)(hpl:(backTo pos (starEach [b] X.env)).any (·.1)=false):
  SE X xr (.Call (.Name x p) [a,b] [] pos) (zo g ma mb):=PE.imp (ZN hc hgl hm hv (jv ha (jv hb j4 h2) h1) hn' hdb h1 hpl) λ σ H Q h=>zo.read (r:=λ v v'=>r [v,v']) hn hg σ H Q h
noncomputable def Yz:W->Hx->R W
 | .int i,A=>.ok (.int (if i<0 then -i else i)) A
 | _,_=>.bad
noncomputable def QI:W->Hx->R W
 | .int i,A=>.ok (.int i) A
 | .bl k,A=>.ok (.int (if k then 1 else 0)) A
 | _,_=>.bad
noncomputable def V5:=gH λ i j=>.int (if j > i then j else i)
noncomputable def Z0:=gH λ i j=>.int (if j<i then j else i)
noncomputable def wR:W->Bool
 | .tup _=>false
 | .ref _=>false
 | .clo _ _ _=>false
 | .xc _=>false
 | _=>true
noncomputable def PN:W->W->Bool
 | .non,.non=>true
 | .bl a,.bl b=>a==b
 | .bl a,.int b=>(if a then 1 else 0)==b
 | .int a,.bl b=>a==(if b then 1 else 0)
 | .int a,.int b=>a==b
 | .str a,.str b=>a==b
 | _,_=>false
noncomputable def JH (x:W)(xs:List W):Bool:=xs.any λ y=>PN y x
theorem TU {φ:List Addr}{H:Hp}{w:W}{v:V}(q:RV K φ H w v)(e:wR w=true):gU v=true:=by
 cases w<;>first
  | (cases e;done)
  | (obtain rfl:=q;rfl)
theorem Lb {φ:List Addr}{H:Hp}{w w':W}{v v':V}(q:RV K φ H w v)(q':RV K φ H w' v')(e:wR w=true)(e':wR w'=true):ZA v v'=PN w w':=by
 cases w<;>cases w'<;>first
  | (cases e;done)
  | (cases e';done)
  | (obtain rfl:=q;obtain rfl:=q';rfl)
theorem SK {φ:List Addr}{H:Hp}{x:W}{v:V}(q:RV K φ H x v)(e:wR x=true):∀{xs:List W} {vs:List V},zD K φ H xs vs->xs.all wR=true->vs.all gU=true/\WN v vs=JH x xs
 | [],_,r,_=>by cases r;exact ⟨rfl,rfl⟩
 | w::ws,_,⟨y,r,e1,h,t⟩,h2=>by
  subst e1;rw [List.all_cons,and_eq_true] at h2;obtain ⟨i1,i2⟩:=SK q e t h2.2;refine ⟨by rw [List.all_cons,TU h h2.1,i1];rfl,?_⟩
  unfold WN JH at i2 ⊢;rw [any_cons,any_cons,i2,Lb h q h2.1 e]
noncomputable def QH (neg:Bool):W->W->Hx->R W:=λ x y A=>match zO y A with
 | some ws=>if wR x&&ws.all wR then .ok (.bl (if neg then !JH x ws else JH x ws)) A else .bad
 | none=>.bad
noncomputable abbrev Wz:=QH false
theorem Df {n:Bool}:∀x y A,qM (QH n x y A):=λ x y A=>by
 unfold QH
 split
 ·exact Zo j6 jc
 ·exact jc
theorem Eo {n:Bool}:yf K (PY K n) (QH n):=λ φ A H x y u v Q S q1 q2 p=>by
 unfold QH at p;cases es:zO v A with
 | none=>rw [es] at p;exact p.elim
 | some ws=>
  rw [es] at p;dsimp only at p
  by_cases hf:(wR u&&ws.all wR)=true
  ·rw [if_pos hf] at p
   rw [and_eq_true] at hf;obtain ⟨a,ys,rfl,z,r⟩:=Ko S q2 es;obtain ⟨i1,i2⟩:=SK q1 hf.1 r hf.2;exact ⟨a,ys,rfl,z,TU q1 hf.1,i1,by rw [i2];exact p φ H _ .refl S rfl⟩
  ·rw [if_neg hf] at p;exact p.elim
structure Uh (X:Cx)(op:CmpOp)(g:W->W->Hx->R W):Prop where
 ex:∃r:R2,qQ X (compareOp op) r/\(∀x y A,qM (g x y A))/\yf X.K r g
theorem Py:Uh X .In Wz:=⟨_,Ml,Df,Eo⟩
end
noncomputable def jX (f:W->Option PyData):List W->Option (List PyData)
 | []=>some []
 | w::ws=>match f w,jX f ws with
  | some d,some ds=>some (d::ds)
  | _,_=>none
noncomputable def ql (A:Hx):Nat->W->Option PyData
 | _,.non=>some .none
 | _,.bl b=>some (.bool b)
 | _,.int i=>some (.int i)
 | _,.str x=>if PyData.strOk x then some (.str x) else none
 | _,.clo _ _ _=>none
 | _,.xc _=>none
 | 0,.tup _=>none
 | 0,.ref _=>none
 | n+1,.tup ws=>(jX (ql A n) ws).map .tuple
 | n+1,.ref k=>match zO (.ref k) A with
  | some ws=>(jX (ql A n) ws).map .list
  | none=>none
theorem Ly {K:Frag}{φ:List Addr}{A:Hx}{H:Hp}{n:Nat}{us:List W}{v:V}(S:zH K φ A H)(q:RV K φ H (.ref n) v)(es:zO (.ref n) A=some us):∃a ys,v=.ref a/\je K H a ys/\zD K φ H us ys:=by
 obtain ⟨a,rfl,e2⟩:=q;unfold zO at es;dsimp only at es;cases ec:A[n]? with
 | none=>rw [ec] at es;cases es
 | some o=>
  rw [ec] at es;obtain ⟨a',e3,r⟩:=S.ob n o ec;rw [e2] at e3;cases e3;cases o with
  | lst xs=>cases es;obtain ⟨ys,h1,h2⟩:=r;exact ⟨a,ys,rfl,je.of h1,h2⟩
  | ro xs=>cases es;obtain ⟨ys,h1,h2⟩:=r;exact ⟨a,ys,rfl,h1.sq,h2⟩
  | dct xs=>cases es
  | tab _ _=>cases es
section
variable {X:Cx}{xr:XR}{e a b c:Expr}{ma mb mc:Ev}{pos:Pos}
theorem XI {K:Frag}{φ:List Addr}{H:Hp}{h:Heap}{f:W->Option PyData}(hf:∀w v u d,RV K φ H w v->RelV v u->f w=some d->∃as,Reads h u d as):
  ∀{ws:List W} {vs:List V} {us:List Value} {ds:List PyData},zD K φ H ws vs->Vals vs us->jX f ws=some ds->∃as,ReadsAll h us ds as
 | [],_,_,_,r,rv,e=>by cases r;cases rv;cases e;exact ⟨[],.nil⟩
 | w::ws,_,_,ds,⟨v,r,e1,q,t⟩,rv,e=>by
  subst e1;cases rv with
  | cons r1 r2=>
   unfold jX at e;cases e2:f w with
   | none=>rw [e2] at e;cases e
   | some d=>
    cases e3:jX f ws with
    | none=>rw [e2,e3] at e;cases e
    | some ds'=>
     rw [e2,e3] at e;cases e;obtain ⟨as,h1⟩:=hf w v _ d q r1 e2;obtain ⟨bs,h2⟩:=XI hf t r2 e3;exact ⟨_,.cons h1 h2⟩
theorem Jd {pins:List (Addr × Obj)}{σ:St}{H:Hp}{s:Shared}{φ:List Addr}{A:Hx}(I:Inv X pins σ H s)(S:zH X.K φ A H):∀(n:Nat) (w:W) (v:V) (u:Value) (d:PyData),RV X.K φ H w v->RelV v u->ql A n w=some d->∃as,Reads s.heap u d as:=by
 intro n
 induction n with
 | zero=>
  intro w v u d q r e;cases w with
  | non=>obtain rfl:=q;cases r;cases e;exact ⟨_,.none⟩
  | bl k=>obtain rfl:=q;cases r;cases e;exact ⟨_,.bool k⟩
  | int k=>obtain rfl:=q;obtain ⟨t,rfl⟩:=r;cases e;exact ⟨_,.int k t⟩
  | str k=>
   obtain rfl:=q;obtain ⟨t,rfl⟩:=r;unfold ql at e
   split at e
   ·cases e;exact ⟨_,.str k t⟩
   ·cases e
  | tup _=>cases e
  | ref _=>cases e
  | clo _ _ _=>unfold ql at e;cases e
  | xc _=>unfold ql at e;cases e
 | succ n ih=>
  intro w v u d q r e;cases w with
  | non=>obtain rfl:=q;cases r;cases e;exact ⟨_,.none⟩
  | bl k=>obtain rfl:=q;cases r;cases e;exact ⟨_,.bool k⟩
  | clo _ _ _=>unfold ql at e;cases e
  | xc _=>unfold ql at e;cases e
  | int k=>obtain rfl:=q;obtain ⟨t,rfl⟩:=r;cases e;exact ⟨_,.int k t⟩
  | str k=>
   obtain rfl:=q;obtain ⟨t,rfl⟩:=r;unfold ql at e
   split at e
   ·cases e;exact ⟨_,.str k t⟩
   ·cases e
  | tup ws=>
   obtain ⟨a,vs,rfl,hs,hr⟩:=q;cases r;unfold ql at e;cases e1:jX (ql A n) ws with
   | none=>rw [e1] at e;cases e
   | some ds=>
    rw [e1] at e;cases e;obtain ⟨its,rv,⟨o,h1,h2,k,h3⟩,_⟩:=I.tuple hs;obtain ⟨as,h4⟩:=XI ih hr rv e1;exact ⟨_,.tuple h1 h2 h3 (by simpa using h4)⟩
  | ref k=>
   unfold ql at e;cases e1:zO (.ref k) A with
   | none=>rw [e1] at e;cases e
   | some ws=>
    rw [e1] at e;dsimp only at e;obtain ⟨a,ys,rfl,hs,hr⟩:=Ly S q e1;cases r;cases e2:jX (ql A n) ws with
    | none=>rw [e2] at e;cases e
    | some ds=>
     rw [e2] at e;cases e;obtain ⟨its,rv,⟨o,k',h1,h2,_,h3⟩,_⟩:=I.list hs;obtain ⟨as,h4⟩:=XI ih hr rv e2;exact ⟨_,.list h1 h2 h3 (by simpa using h4)⟩
theorem XC {A:Hx}:∀(n:Nat) (w:W) (d:PyData),ql A n w=some d->d.canLay0=true/\d.depth<=n:=by
 intro n;have lst:∀{n:Nat},(∀(w:W) (d:PyData),ql A n w=some d->d.canLay0=true/\d.depth<=n)->∀(ws:List W) (ds:List PyData),jX (ql A n) ws=some ds->PyData.canLayAll0 ds=true/\PyData.depthAll ds<=n:=by
  intro n ih ws
  induction ws with
  | nil=>intro ds e;cases e;exact ⟨by simp [PyData.canLayAll0],by simp [PyData.depthAll]⟩
  | cons w ws ihw=>
   intro ds e;unfold jX at e;cases e2:ql A n w with
   | none=>rw [e2] at e;cases e
   | some d=>
    cases e3:jX (ql A n) ws with
    | none=>rw [e2,e3] at e;cases e
    | some ds'=>
     rw [e2,e3] at e;cases e;obtain ⟨h1,h2⟩:=ih w d e2;obtain ⟨h3,h4⟩:=ihw ds' e3;refine ⟨by simp [PyData.canLayAll0,h1,h3],?_⟩
     simp only [PyData.depthAll];omega
 induction n with
 | zero=>
  intro w d e;cases w with
  | tup _=>cases e
  | ref _=>cases e
  | clo _ _ _=>unfold ql at e;cases e
  | xc _=>unfold ql at e;cases e
  | str x=>
   unfold ql at e
   split at e
   ·rename_i hx;cases e;exact ⟨by simp [PyData.canLay0,hx],by simp [PyData.depth]⟩
   ·cases e
  | _=>cases e;exact ⟨by simp [PyData.canLay0],by simp [PyData.depth]⟩
 | succ n ih=>
  intro w d e;cases w with
  | clo _ _ _=>unfold ql at e;cases e
  | xc _=>unfold ql at e;cases e
  | tup ws=>
   unfold ql at e;cases e1:jX (ql A n) ws with
   | none=>rw [e1] at e;cases e
   | some ds=>
    rw [e1] at e;cases e;obtain ⟨h1,h2⟩:=lst ih ws ds e1;refine ⟨by simp [PyData.canLay0,h1],?_⟩
    simp only [PyData.depth];omega
  | ref k=>
   unfold ql at e;cases e1:zO (.ref k) A with
   | none=>rw [e1] at e;cases e
   | some ws=>
    rw [e1] at e;dsimp only at e;cases e2:jX (ql A n) ws with
    | none=>rw [e2] at e;cases e
    | some ds=>
     rw [e2] at e;cases e;obtain ⟨h1,h2⟩:=lst ih ws ds e2;refine ⟨by simp [PyData.canLay0,h1],?_⟩
     simp only [PyData.depth];omega
  | str x=>
   unfold ql at e
   split at e
   ·rename_i hx;cases e;exact ⟨by simp [PyData.canLay0,hx],by simp [PyData.depth]⟩
   ·cases e
  | _=>cases e;exact ⟨by simp [PyData.canLay0],by simp [PyData.depth]⟩
noncomputable def wX (neg:Bool):W->W->Hx->R W:=λ x y A=>match ql A 8 x,ql A 8 y with
 | some d,some d'=>.ok (.bl (if neg then !PyData.eqv d d' else PyData.eqv d d')) A
 | _,_=>.bad
noncomputable abbrev jf:=wX false
noncomputable abbrev jF:=wX true
theorem RK {n:Bool}:∀x y A,qM (wX n x y A):=λ x y A=>by
 unfold wX
 split
 ·exact j6
 ·exact jc
noncomputable def Us (K:Frag)(neg:Bool):R2:=λ x y H Q=>∃φ A u v d d',zH K φ A H/\RV K φ H u x/\RV K φ H v y/\ql A 8 u=some d/\ql A 8 v=some d'/\Q (.bl (if neg then !PyData.eqv d d' else PyData.eqv d d')) H
theorem K0 {A:Hx}{w:W}{d:PyData}(h:ql A 8 w=some d):SeqAt.shaped d=true:=by
 obtain ⟨h1,h2⟩:=XC 8 w d h;unfold SeqAt.shaped;rw [h1,Bool.true_and,decide_eq_true_iff];omega
theorem E3 (hu:X.A.units+64<cLine):qQ X (compareOp .Eq) (Us X.K false):=by
 intro pins s σ H x y v u Q I rx ry h;obtain ⟨φ,A,w1,w2,d,d',S,q1,q2,e1,e2,q⟩:=h;obtain ⟨as,h1⟩:=Jd I S 8 w1 x v d q1 rx e1;obtain ⟨bs,h2⟩:=Jd I S 8 w2 y u d' q2 ry e2;exact eq_dataH h1 h2 (K0 e1) (K0 e2) hu ⟨.bl _,H,I,rfl,q⟩
theorem ED (hu:X.A.units+64<cLine):qQ X (compareOp .NotEq) (Us X.K true):=by
 intro pins s σ H x y v u Q I rx ry h;obtain ⟨φ,A,w1,w2,d,d',S,q1,q2,e1,e2,q⟩:=h;obtain ⟨as,h1⟩:=Jd I S 8 w1 x v d q1 rx e1;obtain ⟨bs,h2⟩:=Jd I S 8 w2 y u d' q2 ry e2;exact ne_dataH h1 h2 (K0 e1) (K0 e2) hu ⟨.bl _,H,I,rfl,q⟩
theorem Rh {K:Frag}{n:Bool}:yf K (Us K n) (wX n):=λ φ A H x y u v Q S q1 q2 p=>by
 unfold wX at p;cases e1:ql A 8 u with
 | none=>rw [e1] at p;exact p.elim
 | some d=>
  cases e2:ql A 8 v with
  | none=>rw [e1,e2] at p;exact p.elim
  | some d'=>
   rw [e1,e2] at p;exact ⟨φ,A,u,v,d,d',S,q1,q2,e1,e2,p φ H _ .refl S rfl⟩
theorem yF {k:Nat}(hr:ju k X.A):wu X .Eq jf:=Jo (E3 hr.units) RK Rh
theorem wQ {k:Nat}(hr:ju k X.A):wu X .NotEq jF:=Jo (ED hr.units) RK Rh
end
mutual
noncomputable def W.nr:W->Bool
 | .tup ws=>jk ws
 | .ref _=>false
 | .clo _ ws _=>jk ws
 | _=>true
noncomputable def jk:List W->Bool
 | []=>true
 | w::ws=>w.nr&&jk ws
end
noncomputable def iso (f:Fn):Fn:=λ us A=>if jk us then (match f us [] with
 | .ok w A1=>(match w with
  | .ref n=>(match A1[n]? with
   | some (.lst ws)=>if jk ws then .ok (.ref A.length) (A++[.lst ws]) else .bad
   | some (.dct kvs)=>if jk (kvs.map (·.2)) then .ok (.ref A.length) (A++[.dct kvs]) else .bad
   | _=>.bad)
  | w=>if w.nr then .ok w A else .bad)
 | _=>.bad) else .bad
noncomputable def wY (f:Fn):Fn:=λ us A=>match us with
 | .ref n::us=>(match A[n]? with
  | some (.lst ws)=>if jk ws&&jk us then (match f (.ref 0::us) [.lst ws] with
   | .ok w A1=>(match (List.head? A1:Option O) with
    | some (.lst ws2)=>if jk ws2&&w.nr then .ok w (A.set n (.lst ws2)) else .bad
    | _=>.bad)
   | _=>.bad) else .bad
  | _=>.bad)
 | _=>.bad
section
variable {K:Frag}{φ φ' φ1:List Addr}{H H' H1:Hp}{A A1:Hx}
mutual
theorem RV.nrm (tp:∀a vs,qG K H a vs->qG K H' a vs)(fz:∀a o u,H a=some (.frz o u)->H' a=some (.frz o u)):∀{w:W} {v:V},w.nr=true->RV K φ H w v->RV K φ' H' w v
 | .non,_,_,h=>h
 | .bl _,_,_,h=>h
 | .int _,_,_,h=>h
 | .str _,_,_,h=>h
 | .tup ws,_,n,⟨a,vs,e,t,r⟩=>⟨a,vs,e,tp _ _ t,zD.nrm tp fz n r⟩
 | .ref _,_,n,_=>nomatch n
 | .clo _ ws P,_,n,⟨a,ob,u,c,oc,uc,vs,e,h1,h2,h3,r⟩=>⟨a,ob,u,c,oc,uc,vs,e,fz _ _ _ h1,fz _ _ _ h2,h3,zD.nrm tp fz n r⟩
 | .xc _,_,_,⟨a,oe,u,C,e,h1,h2⟩=>⟨a,oe,u,C,e,fz _ _ _ h1,h2⟩
theorem zD.nrm (tp:∀a vs,qG K H a vs->qG K H' a vs)(fz:∀a o u,H a=some (.frz o u)->H' a=some (.frz o u)):∀{ws:List W} {vs:List V},jk ws=true->zD K φ H ws vs->zD K φ' H' ws vs
 | [],_,_,h=>h
 | w::ws,_,n,⟨v,r,e,h,t⟩=>by
  have n':(w.nr&&jk ws)=true:=n;rw [and_eq_true] at n';exact ⟨v,r,e,RV.nrm tp fz n'.1 h,zD.nrm tp fz n'.2 t⟩
end
theorem zH.none:zH K [] [] H:=⟨rfl,λ i j a o o' _ _ h=>by simp at h,λ n o h=>by simp at h⟩
theorem zH.frame (S:zH K φ A H)(k:∀a o,H a=some o->H1 a=some o)(l:Le K φ H φ H1):zH K φ A H1:=
 ⟨S.len,S.inj,λ n o e=>let ⟨a,h1,q⟩:=S.ob n o e;⟨a,h1,q.keep l λ u hu=>k a u hu⟩⟩
theorem Le.apart (l:Le K [] H φ1 H1):Le K φ H φ H1/\∀a o,H a=some o->H1 a=some o:=
 have k:∀a o,H a=some o->H1 a=some o:=λ a o h=>l.fr a o h λ n e=>by simp at e
 ⟨⟨λ _ _ h=>h,l.tp,λ a o h _=>k a o h,λ _ _ h=>.inl h,l.st,l.fz⟩,k⟩
theorem zH.trackN {D:Addr}{u:HO}{o:O}(S:zH K φ A H)(hD:H D=some u)(n:∀(k:Nat) (q:O),φ[k]? =some D->A[k]? =some q->q.mut=false)(new:OR K (φ++[D]) H D o):zH K (φ++[D]) (A++[o]) H:=by
 have l:gB K φ H (φ++[D]) H:=⟨λ n a h=>by
  have:=(List.getElem?_eq_some_iff.mp h).1
  rw [getElem?_append_left this];exact h,λ _ _ h=>h,λ _ _ _ h=>h⟩
 have old:∀(i:Nat) a,(φ++[D])[i]? =some a->i<A.length->φ[i]? =some a:=λ i a e hi=>by
  rw [getElem?_append_left (by rw [S.len];exact hi)] at e;exact e
 have last:∀a,(φ++[D])[A.length]? =some a->a=D:=λ a e=>by
  rw [getElem?_append_right (by rw [S.len];exact le_refl _),S.len] at e
  simpa using e.symm
 refine ⟨by simp [S.len],λ i j a o1 o2 h1 h2 h3 h4 m1 m2=>?_,λ k o' e=>?_⟩
 ·by_cases hi:i<A.length
  ·rw [getElem?_append_left hi] at h3
   by_cases hj:j<A.length
   ·rw [getElem?_append_left hj] at h4
    exact S.inj i j a o1 o2 (old i a h1 hi) (old j a h2 hj) h3 h4 m1 m2
   ·exfalso
    have hj':j=A.length:=by have:=(List.getElem?_eq_some_iff.mp h4).1;simp at this;omega
    subst hj';have z:=n i o1 (by rw [<- last a h2];exact old i a h1 hi) h3
    rw [m1] at z;cases z
  ·have hi':i=A.length:=by have:=(List.getElem?_eq_some_iff.mp h3).1;simp at this;omega
   by_cases hj:j<A.length
   ·exfalso
    rw [getElem?_append_left hj] at h4;subst hi';have z:=n j o2 (by rw [<- last a h1];exact old j a h2 hj) h4
    rw [m2] at z;cases z
   ·have:=(List.getElem?_eq_some_iff.mp h4).1;simp at this;omega
 ·by_cases hn:k<A.length
  ·rw [getElem?_append_left hn] at e
   obtain ⟨a,e1,q⟩:=S.ob k o' e;refine ⟨a,l.ex _ _ e1,?_⟩;cases o' with
   | lst ws=>obtain ⟨vs,z,r⟩:=q;exact ⟨vs,z,r.monoW l⟩
   | dct ws=>obtain ⟨vs,z,z2,r⟩:=q;exact ⟨vs,z,z2,r.monoW l⟩
   | tab _ _=>exact q
   | ro ws=>obtain ⟨vs,z,r⟩:=q;exact ⟨vs,z,r.monoW l⟩
  ·have hn':k=A.length:=by have:=(List.getElem?_eq_some_iff.mp e).1;simp at this;omega
   subst hn';rw [getElem?_append_right (le_refl _)] at e;simp at e;subst e;exact ⟨D,by rw [getElem?_append_right (by rw [S.len];exact le_refl _),S.len];simp,new⟩
theorem zH.adopt {n:Nat}{a:Addr}{o:O}(S:zH K φ A H)(l:Le K [] H φ1 H1)(h1:φ1[n]? =some a)(m:∃u,H1 a=some u)(new:OR K (φ++[a]) H1 a o):
  Le K φ H (φ++[a]) H1/\zH K (φ++[a]) (A++[o]) H1/\RV K (φ++[a]) H1 (.ref A.length) (.ref a):=by
 obtain ⟨la,k⟩:=l.apart (φ:=φ);have h0:H a=Option.none:=by
  rcases l.nw n a h1 with e | e
  ·simp at e
  ·exact e
 obtain ⟨u,hu⟩:=m;have S1:=S.frame k la;refine ⟨la.Ju h0,S1.trackN hu (λ k q e1 e2=>?_) new,a,rfl,by rw [<- S.len];simp⟩
 cases hq:q.mut with
 | false=>rfl
 | true=>
  obtain ⟨a',e3,r⟩:=S.ob k q e2;rw [e1] at e3;cases e3;obtain ⟨z,hz,_⟩:=r.there hq;rw [h0] at hz;cases hz
theorem OR.nrL {a:Addr}{ws:List W}(h:OR K φ H a (.lst ws))(n:jk ws=true):OR K φ' H a (.lst ws):=let ⟨vs,e,r⟩:=h;⟨vs,e,r.nrm (λ _ _ t=>t) (λ _ _ _ t=>t) n⟩
theorem OR.nrD {a:Addr}{kvs:List (Key × W)}(h:OR K φ H a (.dct kvs))(n:jk (kvs.map (·.2))=true):OR K φ' H a (.dct kvs):=let ⟨vs,e,e2,r⟩:=h;⟨vs,e,e2,r.nrm (λ _ _ t=>t) (λ _ _ _ t=>t) n⟩
variable {P:Program}{w:World}{mg:Str->Option Value}{base:Heap}
theorem zE.iso {k n:Nat}{x:Str}{f:Fn}(F:zE P w K mg base k x n f):zE P w K mg base k x n (iso f):=by
 obtain ⟨fa,fd,ps,F,a,b,c⟩:=F;refine ⟨fa,fd,ps,F.imp λ vs H Q E ⟨hl,φ,A,ws,S,r,q⟩=>?_,a,b,c⟩;unfold Mi.iso at q
 by_cases hn:jk ws=true
 ·rw [if_pos hn] at q
  refine ⟨hl,[],[],ws,zH.none,r.nrm (λ _ _ t=>t) (λ _ _ _ t=>t) hn,?_⟩;cases hf:f ws [] with
  | ok w A1=>
   rw [hf] at q;dsimp only at q;intro φ1 H1 v l1 S1 q1;cases w with
   | ref m=>
    dsimp only at q;cases hm:A1[m]? with
    | none=>rw [hm] at q;exact q.elim
    | some o=>
     rw [hm] at q;obtain ⟨a',ea,hr⟩:=S1.ob m o hm;obtain ⟨a2,rfl,ea2⟩:=q1;rw [ea] at ea2;cases ea2;cases o with
     | lst us=>
      dsimp only at q
      by_cases hu:jk us=true
      ·rw [if_pos hu] at q
       obtain ⟨t,ht,_⟩:=hr.there rfl;obtain ⟨b1,b2,b3⟩:=S.adopt l1 ea ⟨t,ht⟩ (o:=.lst us) (hr.nrL hu);exact q _ _ _ b1 b2 b3
      ·rw [if_neg hu] at q;exact q.elim
     | dct us=>
      dsimp only at q
      by_cases hu:jk (us.map (·.2))=true
      ·rw [if_pos hu] at q
       obtain ⟨t,ht,_⟩:=hr.there rfl;obtain ⟨b1,b2,b3⟩:=S.adopt l1 ea ⟨t,ht⟩ (o:=.dct us) (hr.nrD hu);exact q _ _ _ b1 b2 b3
      ·rw [if_neg hu] at q;exact q.elim
     | ro us=>exact q.elim
     | tab _ _=>exact q.elim
   | _=>
    all_goals
     dsimp only at q;obtain ⟨la,kk⟩:=l1.apart (φ:=φ)
     first
      | exact q φ H1 v la (S.frame kk la) q1
      | (
        split at q
        ·rename_i hw
         exact q φ H1 v la (S.frame kk la) (RV.nrm (λ _ _ t=>t) (λ _ _ _ t=>t) hw q1)
        ·exact q.elim)
  | exc y A1=>rw [hf] at q;exact q.elim
  | bad=>rw [hf] at q;exact q.elim
 ·rw [if_neg hn] at q;exact q.elim
theorem zE.wY {k n:Nat}{x:Str}{f:Fn}(F:zE P w K mg base k x n f):zE P w K mg base k x n (wY f):=by
 obtain ⟨fa,fd,ps,F,a,b,c⟩:=F;refine ⟨fa,fd,ps,F.imp λ vs H Q E ⟨hl,φ,A,ws,S,r,q⟩=>?_,a,b,c⟩;unfold Mi.wY at q;cases ws with
 | nil=>exact q.elim
 | cons w0 us=>cases w0 with
  | ref n=>
   dsimp only at q;cases hA:A[n]? with
   | none=>rw [hA] at q;exact q.elim
   | some o=>cases o with
    | lst xs=>
     rw [hA] at q;dsimp only at q
     by_cases hn:(jk xs&&jk us)=true
     ·rw [if_pos hn] at q
      rw [and_eq_true] at hn;obtain ⟨v0,vr,rfl,q0,qr⟩:=r;obtain ⟨p,ys,rfl,f1,g1,r1⟩:=S.lst q0 hA;have S0:zH K [p] [.lst xs] H:=by
       refine ⟨rfl,λ i j a o o' h1 h2 h3 h4 _ _=>?_,λ m o e=>?_⟩
       ·have:=(List.getElem?_eq_some_iff.mp h1).1
        have:=(List.getElem?_eq_some_iff.mp h2).1
        simp at *;omega
       ·have:m=0:=by have:=(List.getElem?_eq_some_iff.mp e).1;simp at this;omega
        subst this;simp at e;subst e;exact ⟨p,rfl,ys,g1,r1.nrm (λ _ _ t=>t) (λ _ _ _ t=>t) hn.1⟩
      refine ⟨hl,[p],[.lst xs],.ref 0::us,S0,.cons ⟨p,rfl,rfl⟩ (qr.nrm (λ _ _ t=>t) (λ _ _ _ t=>t) hn.2),?_⟩;cases hf:f (.ref 0::us) [.lst xs] with
      | ok w A1=>
       rw [hf] at q;dsimp only at q;intro φ1 H1 v l1 S1 q1;cases h0:List.head? A1 with
       | none=>rw [h0] at q;exact q.elim
       | some o=>cases o with
        | lst zs=>
         rw [h0] at q;dsimp only at q
         by_cases hw:(jk zs&&w.nr)=true
         ·rw [if_pos hw] at q
          rw [and_eq_true] at hw;have apart:∀a o,a≠p->H a=some o->H1 a=some o:=λ a o ne h=>l1.fr a o h λ m e=>by
           have:m=0:=by have:=(List.getElem?_eq_some_iff.mp e).1;simp at this;omega
           subst this;simp at e;exact ne e.symm
          have lf:Le K φ H φ H1:=⟨λ _ _ h=>h,l1.tp,λ a o h nn=>apart a o (λ e=>nn n (by rw [e];exact f1)) h,λ _ _ h=>.inl h,l1.st,l1.fz⟩
          have hp:φ1[0]? =some p:=l1.ex 0 p rfl;obtain ⟨p',e1,us',e2,r2⟩:=S1.ob 0 _ (by rw [<- List.head?_eq_getElem?];exact h0)
          rw [hp] at e1;cases e1;refine q φ H1 v lf ?_ (RV.nrm (λ _ _ t=>t) (λ _ _ _ t=>t) hw.2 q1);have mt:∀(i:Nat) (w:O),(A.set n (.lst zs))[i]? =some w->w.mut=true->∃w',A[i]? =some w'/\w'.mut=true:=λ i w e mw=>by
           by_cases hi:i=n
           ·subst hi;exact ⟨_,hA,rfl⟩
           ·rw [getElem?_set_ne (Ne.symm hi)] at e;exact ⟨w,e,mw⟩
          refine ⟨by simp [S.len],λ i j a o1 o2 h1 h2 h3 h4 m1 m2=>?_,λ i w e=>?_⟩
          ·obtain ⟨w1,e1,k1⟩:=mt i o1 h3 m1
           obtain ⟨w2,e2,k2⟩:=mt j o2 h4 m2;exact S.inj i j a w1 w2 h1 h2 e1 e2 k1 k2
          ·by_cases hi:i=n
           ·subst hi
            have:i<A.length:=(List.getElem?_eq_some_iff.mp hA).1
            rw [getElem?_set_self this] at e;cases e;exact ⟨p,f1,us',e2,r2.nrm (λ _ _ t=>t) (λ _ _ _ t=>t) hw.1⟩
           ·rw [getElem?_set_ne (Ne.symm hi)] at e
            obtain ⟨a,e1,rr⟩:=S.ob i w e;refine ⟨a,e1,?_⟩
            by_cases hm:w.mut=true
            ·have ne:a≠p:=λ z=>hi (S.inj i n a w _ e1 (by rw [z];exact f1) e hA hm rfl)
             exact rr.keep lf λ z hz=>apart a z ne hz
            ·cases w with
             | lst _=>exact absurd rfl hm
             | dct _=>exact absurd rfl hm
             | tab _ _=>exact absurd rfl hm
             | ro ws=>
              obtain ⟨vs,r1,r2⟩:=rr;refine ⟨vs,?_,r2.mono lf⟩;rcases r1 with ⟨ob,r1⟩ | r1
              ·refine .inl ⟨ob,apart a _ ?_ r1⟩
               intro z;subst z;rw [g1] at r1;cases r1
              ·exact .inr r1
         ·rw [if_neg hw] at q;exact q.elim
        | _=>rw [h0] at q;exact q.elim
      | exc y A1=>rw [hf] at q;exact q.elim
      | bad=>rw [hf] at q;exact q.elim
     ·rw [if_neg hn] at q;exact q.elim
    | _=>rw [hA] at q;exact q.elim
  | _=>exact q.elim
end
section
variable {X:Cx}{xr:XR}{K:Frag}{e a b c:Expr}{es:List Expr}{m ma mb mc:Ev}{pos:Pos}{st:Stmt}
noncomputable def intsOf:List W->Option (List Int)
 | []=>some []
 | w::ws=>match w with
  | .int i=>match intsOf ws with
   | some is=>some (i::is)
   | none=>none
  | _=>none
theorem Xz:∀{ws:List W} {ns:List Int},intsOf ws=some ns->ws=ns.map W.int
 | [],_,e=>by cases e;rfl
 | w::ws,ns,e=>by
  unfold intsOf at e;cases w with
  | int i=>
   dsimp only at e;cases e2:intsOf ws with
   | none=>rw [e2] at e;cases e
   | some is=>rw [e2] at e;cases e;rw [Xz e2];rfl
  | _=>cases e
noncomputable def jR:List Int->Int->Int
 | [],m=>m
 | i::is,m=>jR is (if i > m then i else m)
theorem Lq (ns:List Int):∀(k:Nat) (hk:k<ns.length),jR (ns.drop (k+1)) (ns.getD (argBest (λ i j=>decide (ns.getD i 0 > ns.getD j 0)) k) 0)=jR ns.tail (ns.getD 0 0):=by
 intro k
 induction k with
 | zero=>intro _;rw [show argBest _ 0=0 from rfl,List.drop_one]
 | succ k ih=>
  intro hk;have hk':k<ns.length:=by omega
  rw [<- ih hk'];have e:ns.drop (k+1)=ns[k+1]::ns.drop (k+1+1):=List.drop_eq_getElem_cons hk;rw [e];have e3:ns.getD (k+1) 0=ns[k+1]:=by rw [getD_eq_getElem?_getD,getElem?_eq_getElem hk];rfl
  show jR _ (ns.getD (if decide (ns.getD (k+1) 0 > ns.getD (argBest _ k) 0)=true then k+1 else argBest _ k) 0)=jR _ (if ns[k+1] > ns.getD (argBest _ k) 0 then ns[k+1] else ns.getD (argBest _ k) 0);rw [e3]
  by_cases h:ns[k+1] > ns.getD (argBest (λ i j=>decide (ns.getD i 0 > ns.getD j 0)) k) 0
  ·rw [if_pos (by rw [decide_eq_true_iff];exact h),if_pos h,e3]
  ·rw [if_neg (by rw [decide_eq_true_iff];exact h),if_neg h]
noncomputable def Pp (K:Frag)(C:List Int->Prop)(f:List Int->Int):List V->Hp->VK->Prop:=λ xs H Q=>∃a ns,xs=[.ref a]/\(je K H a (ns.map V.int)∨qG K H a (ns.map V.int))/\C ns/\Q (.int (f ns)) H
theorem Vh {ns:List Int}{its:List Value}(rv:Vals (ns.map V.int) its){i:Nat}{v:Value}(h:its[i]? =some v):∃t,v=.int (ns.getD i 0) t:=by
 have hi:i<its.length:=(List.getElem?_eq_some_iff.mp h).1;have hi':i<ns.length:=by have:=rv.length;rw [length_map] at this;omega
 obtain ⟨u,h1,h2⟩:=rv.get (i:=i) (x:=V.int ns[i]) (by simp [hi'])
 rw [h] at h1;cases h1;obtain ⟨t,rfl⟩:=h2;exact ⟨t,by rw [getD_eq_getElem?_getD,getElem?_eq_getElem hi'];rfl⟩
theorem Lv (hc:X.calm=true):jV X (.builtin "max") (Pp X.K (λ ns=>ns≠[]) λ ns=>jR ns.tail (ns.getD 0 0)):=by
 intro pins s σ H xs us Q I r h;obtain ⟨a,ns,rfl,z,hne,q⟩:=h;obtain ⟨u,rfl,ru⟩:=vals1 r;cases ru;have hp:0<ns.length:=List.length_pos_iff.mpr hne;refine call_max_walk (Si I hc z λ its I' fp wr St' s2 rv hz W st hfp back=>?_);have e:its.length=ns.length:=by have:=rv.length;rw [length_map] at this;omega
 refine ⟨I',fp,wr,_,_,St',λ i j=>decide (ns.getD i 0 > ns.getD j 0),rfl,W,st,hfp,by omega,?_,λ v h' tk hv k=>?_⟩
 ·intro i j vi vj s' Q' E' h1 h2 hQ
  obtain ⟨t1,rfl⟩:=Vh rv h1;obtain ⟨t2,rfl⟩:=Vh rv h2;exact (PyProof.Rows.gt_int hQ:wpAny (model X.prog X.w) X.A.in1 (compareOp .Gt (.int (ns.getD i 0) t1) (.int (ns.getD j 0) t2)) Q' E' s')
 ·obtain ⟨t,rfl⟩:=Vh rv hv
  rw [e];have b:=Lq ns (ns.length - 1) (by omega)
  rw [show ns.length - 1+1=ns.length by omega,drop_length] at b
  have b':ns.getD (argBest (λ i j=>decide (ns.getD i 0 > ns.getD j 0)) (ns.length - 1)) 0=jR ns.tail (ns.getD 0 0):=b;rw [b'];exact ⟨.int _,H,back h' tk k,⟨_,rfl⟩,q⟩
noncomputable def j9:List W->Hx->R W:=λ ws A=>match intsOf ws with
 | some (i::is)=>.ok (.int (jR is i)) A
 | _=>.bad
theorem Eg:∀ws A,qM (j9 ws A):=λ ws A=>by
 unfold j9;split
 ·exact j6
 ·exact jc
theorem Lk {φ:List Addr}{H:Hp}{ws:List W}{ys:List V}{ns:List Int}{a:Addr}(z:je K H a ys∨qG K H a ys)(r:zD K φ H ws ys)(e:intsOf ws=some ns):je K H a (ns.map V.int)∨qG K H a (ns.map V.int):=by
 rw [Xz e] at r;rw [<- zD.ints.mp r];exact z
theorem FH:QQ K (Pp K (λ ns=>ns≠[]) λ ns=>jR ns.tail (ns.getD 0 0)) j9:=λ φ A H a ys ws Q S z r p=>by
 unfold j9 at p;cases e:intsOf ws with
 | none=>rw [e] at p;exact p.elim
 | some ns=>cases ns with
  | nil=>rw [e] at p;exact p.elim
  | cons i is=>rw [e] at p;exact ⟨a,i::is,rfl,Lk z r e,(by intro z;cases z),p φ H _ .refl S rfl⟩
end
section
variable {X:Cx}{xr:XR}{K:Frag}{e a b c:Expr}{es:List Expr}{m ma mb mc:Ev}{pos:Pos}{st:Stmt}
noncomputable def BE (lo d:Int)(n:Nat):It:=⟨λ i _=>i<n,λ i H x H'=>H'=H/\x=.int (lo+i * d),λ i _=>n<=i⟩
noncomputable def BO (ta:TA):TI:=λ σ H R=>ta σ H λ vs H1=>∃i j:Int,vs=[.int i,.int j,.int (-1)]/\(-(2 ^ 62)<=i/\i<2 ^ 62/\-(2 ^ 62)<=j/\j<2 ^ 62)/\R (BE i (-1) (i - j).toNat) H1
noncomputable def C6 (hi:Int)(n:Nat):jx:=⟨λ _ i=>if i<n then some (some (.int (hi - i))) else some none,n⟩
noncomputable def BP (m m':Ev):Ei:=λ ρ A=>(m ρ A).bind λ w A1=>(m' ρ A1).bind λ w' A2=>match w,w' with
 | .int i,.int j=>if jI i&&jI j then .ok (C6 i (i - j).toNat) A2 else .bad
 | _,_=>.bad
noncomputable def CL (ta:TA):TE:=λ σ H Q=>ta σ H λ vs H1=>∃j:Int,vs=[.int j]/\∀p,H1 p=none->Q (.ref p) (upd H1 p (.rng 0 j))
theorem Fy {ta:TA}{p:Pos}(hg:Gl X "range")(hm:X.mg "range" = none)(ha:PA X [a] ta)(hs:starEach [a] X.env=[(false,eval a X.env)]):PE X (.Call (.Name "range" p) [a] [] pos) (CL ta):=by
 intro pins s σ H Q I h;refine Call_ (ZW I hg hm boot_range (PyProof.Rows.callWith_type1 (zS (ha pos pins s σ H _ I h) λ us s1 ⟨vs,H1,I1,r1,q1⟩=>?_) hs rfl));obtain ⟨j,rfl,q⟩:=q1;obtain ⟨u,rfl,⟨t,rfl⟩⟩:=r1.one;refine call_range_1 ⟨.ref _,_,I1.laid (o:=.rng 0 j) (λ b o eo=>Heap.get?_push_of_some _ eo) (le_refl _) ?_,rfl,q _ (I1.hok.fresh (le_refl _))⟩;exact ⟨_,_,_,Heap.get?_push_size _ rfl⟩
noncomputable def QF (n:Nat):List V:=(List.range n).map λ (i:Nat)=>V.int i
theorem NX (hc:X.calm=true):jV X (.type "list") (λ xs H Q=>∃(r:Addr) (j:Int),xs=[.ref r]/\H r=some (.rng 0 j)/\(-(2 ^ 62)<=j/\j<2 ^ 62)/\j.toNat<=sizeLine/\∀l,H l=none->Q (.ref l) (upd H l (.lst (QF j.toNat)))):=by
 intro pins s σ H xs us Q I r h;obtain ⟨p,j,rfl,hp,⟨b1,b2⟩,hz,q⟩:=h;obtain ⟨u,rfl,ru⟩:=vals1 r;cases ru;obtain ⟨t1,t2,t3,ho⟩:=I.hok p _ hp;have hl:sizeLine=16777216:=sizeLine_eq;refine PySem.call_list_range (n:=j.toNat) (I.ok.hd hc) (show IsRange s.heap p 0 j 1 t1 t2 t3 from ho) (small_one (by omega) (by omega) b1 b2) (by rw [rangeSize_one];split<;>omega) (by omega) λ h' tk acc c' kk hS ⟨hn,hat⟩=>?_
 refine ⟨.ref s.heap.objs.size,_,I.laid (t':=tk) (o:=.lst (QF j.toNat)) kk (le_refl _) ?_,rfl,q _ (I.hok.fresh (le_refl _))⟩;refine ⟨by unfold QF;simpa using hz,acc.toList,c',?_,by simpa using hS⟩
 have hv:∀(l:List Value) (k:Nat),(∀(i:Nat) v,l[i]? =some v->∃t,v=.int ((k+i:Nat):Int) t)->Vals ((List.range' k l.length).map λ (i:Nat)=>V.int i) l:=by
  intro l
  induction l with
  | nil=>intro k _;exact .nil
  | cons v l ih=>
   intro k hk;rw [length_cons,range'_succ,map_cons];refine .cons ?_ (ih (k+1) λ i v' hv=>?_)
   ·obtain ⟨t,rfl⟩:=hk 0 v rfl
    exact ⟨t,rfl⟩
   ·obtain ⟨t,rfl⟩:=hk (i+1) v' (by simpa using hv)
    exact ⟨t,by congr 1;omega⟩
 have hl':acc.toList.length=j.toNat:=by simpa using hn
 have:=hv acc.toList 0 λ i v hiv=>by
  obtain ⟨t,rfl⟩:=hat i v (by simpa using hiv)
  exact ⟨t,by congr 1;omega⟩
 rw [hl'] at this;unfold QF;rw [range_eq_range'];exact this
noncomputable def J7 (m:Ev):Ev:=λ ρ A=>(m ρ A).bind λ w A1=>match w with
 | .int j=>if jI j&&decide (j.toNat<=zZ) then .ok (.ref A1.length) (A1++[.lst ((List.range j.toNat).map λ (i:Nat)=>W.int i)]) else .bad
 | _=>.bad
noncomputable def BQ (i:Nat)(m:Ev):Ex:=λ ρ A=>match ρ[i]? with
 | some (some (.int x))=>(m ρ A).bind λ w A1=>match w with
  | .int y=>.ok (.nx (ρ.set i (some (.int (x+y))))) A1
  | _=>.bad
 | _=>.bad
noncomputable def CC:V->V->Hp->VK->Prop:=λ o i H Q=>∃p xs k v,o=.ref p/\i=.int k/\0<=k/\H p=some (.lst xs)/\xs[k.toNat]? =some v/\Q v H
theorem L9:PM X CC:=by
 intro pins s σ H o i ov iv Q I ro ri h;obtain ⟨p,xs,k,v,rfl,rfl,h0,hp,hv,q⟩:=h;cases ro;obtain ⟨t,rfl⟩:=ri;obtain ⟨its,r,pl,hz⟩:=I.list (je.of hp);obtain ⟨u,hu,ru⟩:=r.get hv;have hn:=Jm;have hl:=r.length;have hk:k.toNat<its.length:=(List.getElem?_eq_some_iff.mp hu).1;exact wpAny_getItem_list pl.isList h0 (by omega) (by simpa using hu) ⟨v,H,I,ru,q⟩
noncomputable def QA (mo mi me:Ev):Ex:=λ ρ A=>(mo ρ A).bind λ o A1=>(mi ρ A1).bind λ i A2=>match o,i with
 | .ref n,.int k=>if 0<=k then (match (A2[n]?:Option O) with
  | some (.lst ws)=>match ws[k.toNat]? with
   | some (.int x)=>(me ρ A2).bind λ y A3=>match y with
    | .int y=>(yv (.ref n) (.int k) (.int (x+y)) A3).bind λ _ A4=>.ok (.nx ρ) A4
    | _=>.bad
   | _=>.bad
  | _=>.bad) else .bad
 | _,_=>.bad
end
noncomputable def jw (k:Bool)(h:Heap)(it a:Addr)(i:Nat):Prop:=if k=true then h.IsListIter it a i else h.IsTupleIter it a i
noncomputable def jQ (k:Bool)(h:Heap)(a:Addr)(items:Array Value):Prop:=if k=true then h.IsList a items else h.IsTuple a items
noncomputable def kf (k:Bool)(K:Frag)(H:Hp)(a:Addr)(xs:List V):Prop:=if k=true then je K H a xs else qG K H a xs
noncomputable def QB (k:Bool):String:=if k then "list_iterator" else "tuple_iterator"
theorem jw.ob {k:Bool}{h:Heap}{it a:Addr}{i:Nat}(x:jw k h it a i):∃o,h.get? it=some o/\o.cls=.type (QB k)/\o.data=.fields #[.ref a,.int i 0]:=by
 cases k<;>exact x
theorem jw.mk {k:Bool}{h:Heap}{it a:Addr}{i:Nat}(x:∃o,h.get? it=some o/\o.cls=.type (QB k)/\o.data=.fields #[.ref a,.int i 0]):jw k h it a i:=by
 cases k<;>exact x
theorem jw.to {k:Bool}{h h':Heap}{it a:Addr}{i:Nat}(x:jw k h it a i)(e:∀o,h.get? it=some o->h'.get? it=some o):jw k h' it a i:=let ⟨o,h1,r⟩:=x.ob;.mk ⟨o,e o h1,r⟩
theorem jQ.ob {k:Bool}{h:Heap}{a:Addr}{items:Array Value}(x:jQ k h a items):∃o,h.get? a=some o/\o.cls=.type (if k then "list" else "tuple")/\∃n,o.data=.seq items n:=by
 cases k<;>exact x
theorem jQ.to {k:Bool}{h h':Heap}{a:Addr}{items:Array Value}(x:jQ k h a items)(e:∀o,h.get? a=some o->h'.get? a=some o):jQ k h' a items:=by
 cases k with
 | false=>exact let ⟨o,h1,r⟩:=x.ob;⟨o,e o h1,r⟩
 | true=>exact let ⟨o,h1,r⟩:=x.ob;⟨o,e o h1,r⟩
section
variable {prog:Program}{w:World}{A:Around}{E:Value->Shared->Prop}{s:Shared}{k:Bool}{it a:Addr}{i:Nat}{items:Array Value}
theorem Rt {Q:Value->Shared->Prop}(hl:jQ k s.heap a items)(hQ:Q (.ref s.heap.objs.size) { s with heap:=s.heap.push { cls:=.type (QB k),data:=.fields #[.ref a,.int 0 0] } }):wpAny (model prog w) A (pyIter (.ref a)) Q E s:=by
 cases k with
 | true=>exact wpAny_pyIter_list hl hQ
 | false=>exact wpAny_pyIter_tuple hl hQ
theorem K2 {x:Value}{Q:Value->Shared->Prop}(hit:jw k s.heap it a i)(hl:jQ k s.heap a items)(hx:items[i]? =some x)
  (hQ:∀h',jw k h' it a (i+1)->Heap.SameBut it s.heap h'->Q x { s with heap:=h' }):wpAny (model prog w) A (Builtin.SmallTypes.nextOf (.ref it)) Q E s:=by
 cases k with
 | true=>exact wpAny_nextOf_list_item hit hl hx hQ
 | false=>
  have hit':s.heap.IsTupleIter it a i:=hit;obtain ⟨oi,hoi,hci,hdi⟩:=id hit';obtain ⟨oa,hoa,_,na,hda⟩:s.heap.IsTuple a items:=hl;unfold Builtin.SmallTypes.nextOf;refine wpAny_bind (wpAny_callSpecial?_slot (name:=Str.ofString "__next__") hit'.typeIs F.slot_tuple_iterator_next (wpAny_call_entry F.slot_tuple_iterator_next hit'.typeIs F.entry_tuple_iterator_next ?_ (F.args_tuple_iterator_next_1 _)));show wpAny _ _ (field (.ref it) 0 >>= _) _ _ s;refine wpAny_bind (wpAny_field hoi hdi (x:=.ref a) rfl ?_);show wpAny _ _ (if (Value.ref a==Value.none)=true then _ else _) _ _ s;rw [if_neg (show ¬((Value.ref a==Value.none)=true) from Bool.false_ne_true)]
  show wpAny _ _ (field (.ref it) 1 >>= _) _ _ s;refine wpAny_bind (wpAny_field hoi hdi (x:=.int i 0) rfl ?_);show wpAny _ _ (seqItems? (.ref a) >>= _) _ _ s;refine wpAny_bind (wpAny_seqItems hoa hda ?_);simp only [toNat_natCast,hx];refine wpAny_bind (wpAny_setField hoi hdi (by simp) (wpAny_pure ⟨x,rfl,wpAny_pure (hQ _ (.mk ?_) (Heap.SameBut.update ..))⟩))
  exact ⟨_,Heap.get?_update_self _ hoi (Obj.isFreed_of_fields (Obj.data_mapFields hdi _)),(Obj.cls_mapFields ..).trans hci,by rw [Obj.data_mapFields hdi];simp [rawInt]⟩
theorem Vu {Q:Value->Shared->Prop}(hh:A.handled=none)(hit:jw k s.heap it a i)(hl:jQ k s.heap a items)(hx:items[i]? =none)
  (hE:∀h' e,Heap.ExtBut it s.heap h'->(∃o,h'.get? e=some o/\o.cls=.type "StopIteration")->E (.ref e) { s with heap:=h' }):wpAny (model prog w) A (Builtin.SmallTypes.nextOf (.ref it)) Q E s:=by
 cases k with
 | true=>exact wpAny_nextOf_list_end hh hit hl hx hE
 | false=>
  have hit':s.heap.IsTupleIter it a i:=hit;obtain ⟨oi,hoi,hci,hdi⟩:=id hit';obtain ⟨oa,hoa,_,na,hda⟩:s.heap.IsTuple a items:=hl;unfold Builtin.SmallTypes.nextOf;refine wpAny_bind (wpAny_callSpecial?_slot (name:=Str.ofString "__next__") hit'.typeIs F.slot_tuple_iterator_next (wpAny_call_entry F.slot_tuple_iterator_next hit'.typeIs F.entry_tuple_iterator_next ?_ (F.args_tuple_iterator_next_1 _)));show wpAny _ _ (field (.ref it) 0 >>= _) _ _ s;refine wpAny_bind (wpAny_field hoi hdi (x:=.ref a) rfl ?_);show wpAny _ _ (if (Value.ref a==Value.none)=true then _ else _) _ _ s;rw [if_neg (show ¬((Value.ref a==Value.none)=true) from Bool.false_ne_true)]
  show wpAny _ _ (field (.ref it) 1 >>= _) _ _ s;refine wpAny_bind (wpAny_field hoi hdi (x:=.int i 0) rfl ?_);show wpAny _ _ (seqItems? (.ref a) >>= _) _ _ s;refine wpAny_bind (wpAny_seqItems hoa hda ?_);simp only [toNat_natCast,hx];refine wpAny_bind (wpAny_rule (wpAny_bind (wpAny_setField hoi hdi (by simp) ?_)))
  show wpAny _ _ (newExc (.type "StopIteration") [] >>= _) _ _ _;refine wpAny_bind ?_;simp only [newExc,newTuple];refine wpAny_bind (wpAny_newObj_type ?_ (by size_fits))
  refine wpAny_bind (m:=firstArgMember _ _) (wpAny_of_eq (a:=Value.none) (by first | rfl | (simp only [firstArgMember];rfl)) ?_);refine wpAny_newObj_type ?_ (by size_fits)
  simp only [raiseNew];refine wpAny_bind (wpAny_handled ?_)
  first | rw [show A.in1.handled=none from hh] | rw [hh]
  refine wpAny_bind (wpAny_pure (wpAny_throw ?_));exact hE _ _ (((Heap.SameBut.update ..).extBut.push _).push _) ⟨_,Heap.get?_push_size _ rfl,rfl⟩
theorem SD (hh:A.handled=none)(hne:a≠it):Draws prog w A it [it,a] items.size (λ i v=>items[i]? =some v) (λ i h=>jw k h it a i/\jQ k h a items) where
 live:=λ _ _ st=>let ⟨o,ho,_⟩:=st.1.ob;⟨o,ho⟩
 frame:=λ _ _ _ st hk=>⟨st.1.to λ o e=>hk it (by simp) o e,st.2.to λ o e=>hk a (by simp) o e⟩
 item:=λ i s Q E hi st hQ=>K2 st.1 st.2 (x:=items[i]) (by simp [hi]) λ h' hit' hs'=>hQ _ h' s.toks (by simp [hi]) ⟨hit',st.2.to λ o e=>hs'.extBut a o hne e⟩ hs'
 done:=λ s Q E st hE=>Vu hh st.1 st.2 (by simp) hE
end
section
variable {X:Cx}{pins:List (Addr × Obj)}{σ:St}{H:Hp}{s:Shared}{h':Heap}{t':Nat}{fp:List Addr}
theorem _root_.L2.Inv.spun {T:Addr}{o:HO}(I:Inv X pins σ H s)(k:∀b u,b∉fp->s.heap.get? b=some u->h'.get? b=some u)(hf:∀b∈fp,yY X pins H b)(hT:s.heap.objs.size<=T)
  (new:jj X.prog X.w (upd H T o) h' T o):Inv X pins σ (upd H T o) { s with heap:=h',toks:=t' }:=by
 have hn:H T=none:=I.hok.fresh hT;have lt:∀b u,s.heap.get? b=some u->b≠T:=λ b u e=>ne_of_lt (lt_of_lt_of_le (Heap.lt_size e) hT);have nf:∀b u,H b=some u->b∉fp:=λ b u e z=>by rw [(hf b z).1] at e;cases e
 refine I.step (g':=s.gens) (d':=s.drawn) (ch:=fp) (λ b hb=>let ⟨_,f1,_,f3,f4,f5⟩:=hf b hb;⟨f3,f1,f4,f5⟩) (λ b o _ _ hc e _=>k b o hc e) (λ b o _ _ hc e _=>⟨o.slots,k b o hc e⟩)
  (λ b o _ e n=>by rw [qj (lt b o e)];exact n) (λ b o hc e=>⟨o,k b o hc e⟩) (λ b xs e=>by rw [qj (kz e hn)];exact e) (λ b u xs e=>by rw [qj (kz e hn)];exact e)
  (λ b ps e=>⟨#[],by rw [qj (kz e hn),e];simp⟩) (λ m hm=>?_) (λ b u e=>?_) I.bare
 ·obtain ⟨o,es,ep,ho,r⟩:=hm
  exact ⟨o,es,ep,k _ o (λ z=>(hf _ z).2.1 rfl) ho,r⟩
 ·by_cases hb:b=T
  ·subst hb;rw [jy] at e;cases e;exact new
  ·rw [qj hb] at e
   refine (I.hok b u e).stay (λ c v hc q=>k c v ?_ q) (λ c q=>by rw [qj (kz q hn)];exact q) λ c xs q=>by rw [qj (kz q hn)];exact q
   rcases hc with z | z
   ·rw [z];exact nf b u e
   ·exact nf c _ z
theorem _root_.L2.Inv.spun0 (I:Inv X pins σ H s)(k:∀b u,b∉fp->s.heap.get? b=some u->h'.get? b=some u)(hf:∀b∈fp,yY X pins H b):Inv X pins σ H { s with heap:=h',toks:=t' }:=by
 have nf:∀b u,H b=some u->b∉fp:=λ b u e z=>by rw [(hf b z).1] at e;cases e
 refine I.step (g':=s.gens) (d':=s.drawn) (ch:=fp) (λ b hb=>let ⟨_,f1,_,f3,f4,f5⟩:=hf b hb;⟨f3,f1,f4,f5⟩) (λ b o _ _ hc e _=>k b o hc e) (λ b o _ _ hc e _=>⟨o.slots,k b o hc e⟩)
  (λ b o _ e n=>n) (λ b o hc e=>⟨o,k b o hc e⟩) (λ b xs e=>e) (λ b u xs e=>e) (λ b ps e=>⟨#[],by rw [e];simp⟩) (λ m hm=>?_) (λ b u e=>?_) I.bare
 ·obtain ⟨o,es,ep,ho,r⟩:=hm
  exact ⟨o,es,ep,k _ o (λ z=>(hf _ z).2.1 rfl) ho,r⟩
 ·refine (I.hok b u e).stay (λ c v hc q=>k c v ?_ q) (λ c q=>q) λ c xs q=>q
  rcases hc with z | z
  ·rw [z];exact nf b u e
  ·exact nf c _ z
theorem _root_.L2.Inv.sq {k:Bool}{a:Addr}{xs:List V}(I:Inv X pins σ H s)(h:kf k X.K H a xs):∃its:List Value,Vals xs its/\jQ k s.heap a its.toArray/\xs.length<=sizeLine:=by
 cases k with
 | true=>obtain ⟨its,r,p,z⟩:=I.list h;exact ⟨its,r,p.isList,z⟩
 | false=>obtain ⟨its,r,p,z⟩:=I.tuple h;exact ⟨its,r,(show s.heap.IsTuple a its.toArray from p),z⟩
theorem _root_.L2.Inv.sq_inj {k:Bool}{a:Addr}{xs ys:List V}(I:Inv X pins σ H s)(h:kf k X.K H a xs)(h':kf k X.K H a ys):xs=ys:=by
 cases k with
 | true=>exact I.list_inj h h'
 | false=>exact I.tuple_inj h h'
end
noncomputable def Uz (k:Bool)(K:Frag)(a:Addr):It:=
 ⟨λ i H=>∃xs x,kf k K H a xs/\xs[i]? =some x,λ i H x H'=>∃p y,(∀xs,kf k K H a xs->xs[i]? =some y)/\H p=none/\x=.ref p/\H'=upd H p (.tup [.int i,y]),λ i H=>∃xs,kf k K H a xs/\xs.length=i⟩
theorem Lu {P:Program}{w:World}{K:Frag}{elts:List Expr}{kk:Nat}{tpos:Pos}(k:Bool)(a en it:Addr):Turn P w K (.Tuple elts kk tpos) (Uz k K a) [en,it] en (λ i h=>(∃old,IsEnum h en it i old)/\jw k h it a i/\en≠it) where
 mem:=by simp
 obj:=λ i h st b hb=>by
  obtain ⟨⟨old,he⟩,hi,_⟩:=st;rcases List.mem_cons.mp hb with rfl | hb
  ·exact ⟨_,he,λ v z=>nomatch z⟩
  ·rw [List.mem_singleton.mp hb]
   obtain ⟨o,ho,_,hd⟩:=hi.ob;exact ⟨o,ho,λ v z=>by rw [hd] at z;cases z⟩
 keep:=λ i h h' ⟨⟨old,he⟩,hi,ne⟩ kp=>⟨⟨old,kp en (by simp) _ he⟩,hi.to λ o eo=>kp it (by simp) o eo,ne⟩
 item:=by
  intro X hP hw hK hc i pins s σ H E I hf st hg;subst hP hw hK;obtain ⟨⟨old,he⟩,hi,ne⟩:=st;obtain ⟨xs,x,hq,hx⟩:=hg;obtain ⟨its,rv,hs,hz⟩:=I.sq hq;obtain ⟨u,hu,ru⟩:=rv.get hx;have hlt:i<its.toArray.size:=by simpa using (List.getElem?_eq_some_iff.mp hu).1
  obtain ⟨oa,hoa,hca,na,hda⟩:=hs.ob;have ani:a≠it:=λ z=>by
   obtain ⟨oi,hoi,hci,hdi⟩:=hi.ob;rw [<- z,hoa] at hoi;cases hoi;rw [hdi] at hda;cases hda
  have ane:en≠a:=λ z=>by
   have he':s.heap.get? a=_:=z ▸ he;rw [hoa] at he';cases he';cases hda
  refine wpAny_pyNext_enum_itemD (SD (k:=k) (items:=its.toArray) (I.ok.hd hc) ani) he ⟨hi,hs⟩ hlt ne (by simp [ne,ane]) λ y h1 tk hy ho hst hT hsz hk=>?_
  have ey:y=u:=by
   have:its[i]? =some y:=by simpa using hy
   rw [hu] at this;exact (Option.some.inj this).symm
  subst ey;refine ⟨_,rfl,wpAny_letOwnedTupleGo_enum ho λ h2 he2 hs2=>?_⟩;have ltE:en<s.heap.objs.size:=Heap.lt_size he;have hT2:h2.get? s.heap.objs.size=some { cls:=.type "tuple",data:=.seq #[.int i tk,y] }:=hs2.extBut _ _ (ne_of_gt ltE) hT;refine ⟨.ref s.heap.objs.size,upd H s.heap.objs.size (.tup [.int i,x]),?_,rfl,⟨s.heap.objs.size,x,λ ys hy=>by rw [I.sq_inj hy hq];exact hx,I.hok.fresh (le_refl _),rfl,rfl⟩,⟨⟨_,by simpa using he2⟩,?_,ne⟩,λ b hb=>?_⟩
  ·refine I.spun (fp:=[en,it]) (t':=tk+1) (λ b o hb eo=>?_) hf (le_refl _) ?_
   ·exact hs2.extBut _ _ (λ z=>hb (by simp [z])) (hk b o (λ z=>hb (by simp [z])) (λ z=>hb (by simp [z])) eo)
   ·exact ⟨by show 2<=sizeLine;decide,[.int i tk,y],.cons ⟨tk,rfl⟩ (.cons ru .nil),_,hT2,⟨rfl,rfl⟩,0,rfl⟩
  ·exact hst.1.to λ o eo=>hs2.extBut _ _ (λ z=>ne z.symm) eo
  ·have bn:b≠s.heap.objs.size:=λ z=>by
    rcases List.mem_cons.mp hb with q | q
    ·exact absurd ltE (by rw [<- q,z];exact lt_irrefl _)
    ·obtain ⟨oi,hoi,_⟩:=hi.ob
     exact absurd (Heap.lt_size hoi) (by rw [<- List.mem_singleton.mp q,z];exact lt_irrefl _)
   show upd H s.heap.objs.size _ b=none;rw [qj bn];exact (hf b hb).1
 done:=by
  intro X hP hw hK hc i pins s σ H E I hf st hg;subst hP hw hK;obtain ⟨⟨old,he⟩,hi,ne⟩:=st;obtain ⟨xs,hq,hx⟩:=hg;obtain ⟨its,rv,hs,hz⟩:=I.sq hq;have en':its.toArray.size=i:=by rw [size_toArray,<- rv.length];exact hx
  obtain ⟨oa,hoa,hca,na,hda⟩:=hs.ob;have ani:a≠it:=λ z=>by
   obtain ⟨oi,hoi,hci,hdi⟩:=hi.ob;rw [<- z,hoa] at hoi;cases hoi;rw [hdi] at hda;cases hda
  refine wpAny_pyNext_enum_endD (SD (k:=k) (items:=its.toArray) (I.ok.hd hc) ani) he ⟨by rw [en'];exact hi,hs⟩ λ h1 hx1=>⟨rfl,?_⟩
  exact I.spun0 (fp:=[en,it]) (t':=s.toks) (λ b o hb eo=>hx1 b o (λ z=>hb (by simp [z])) eo) hf
 self:=λ _ _ _ _ _ ⟨⟨_,he⟩,_⟩ h=>wpAny_pyIter_enum he h
open AutoSeq1 (wpAny_loadPart')
noncomputable abbrev Ww (h:Heap)(k:Bool)(a:Addr):Heap:=h.push { cls:=.type (QB k),data:=.fields #[.ref a,.int 0 0] }
noncomputable abbrev PR (h:Heap)(k:Bool)(a:Addr):Heap:=(Ww h k a).push { cls:=.type "enumerate",data:=.fields #[.none,.bool false,.ref h.objs.size,rawInt 0,.none,.none] }
theorem NR (a:Addr)(items:Array Value)(n:Nat)(dd:Option Addr)(sl:Array (Option Value)):
  Meets (Builtin.«enumerate.__new__» ⟨[.type "enumerate",.ref a],[]⟩) (λ _ R s=>s.heap.get? a=some { cls:=.type "tuple",dict:=dd,data:=.seq items n,slots:=sl }/\R (.ok (.ret (.ref (Ww s.heap false a).objs.size))) { s with heap:=PR s.heap false a }):=
 .of_wp λ prog w A R s h=>by
  obtain ⟨hp,g,d,tk,os⟩:=s;obtain ⟨ha,h⟩:=h;have hsub:=sub_enumerate;have hT:Heap.IsTuple (Shared.heap ⟨hp,g,d,tk,os⟩) a items:=⟨_,ha,rfl,n,rfl⟩
  wp_walk using wpAny_loadPart' ha
  refine wpAny_stack_any λ st=>wpAny_pure ?_;split
  ·rename_i c _ _ _ _ _
   cases (c==Value.type "enumerate")<;>(wp_walk using wpAny_loadPart' ha,wpAny_pyIter_tuple hT;exact ⟨_,rfl,h⟩)
  ·wp_walk using wpAny_loadPart' ha,wpAny_pyIter_tuple hT
   exact ⟨_,rfl,h⟩
section
variable {prog:Program}{w:World}{A:Around}{E:Value->Shared->Prop}{s:Shared}
theorem Li {k:Bool}{a:Addr}{items:Array Value}{Q:Value->Shared->Prop}(hl:jQ k s.heap a items)
  (h:∀h',IsEnum h' (s.heap.objs.size+1) s.heap.objs.size 0 .none->jw k h' s.heap.objs.size a 0->(∀b o,s.heap.get? b=some o->h'.get? b=some o)->Q (.ref (s.heap.objs.size+1)) { s with heap:=h' }):
  wpAny (model prog w) A (call (.type "enumerate") [.ref a]) Q E s:=by
 cases k with
 | true=>exact call_enumerate_list hl λ h' e1 e2 _ e4=>h h' e1 e2 e4
 | false=>
  obtain ⟨⟨c,dd,dt,sl⟩,ha,hc,n,hd⟩:=(show s.heap.IsTuple a items from hl)
  replace hc:c=.type "tuple" := hc
  replace hd:dt=.seq items n:=hd
  subst hc hd;refine callType_new F.called_enumerate (by decide) (F.typeCall_enumerate_1 _) (F.newCall_enumerate_1 _) (λ obj=>F.args_object_init_2 obj _) F.entry_enumerate_new (NR a items n dd sl) ⟨ha,?_⟩
  have hz:(Ww s.heap false a).objs.size=s.heap.objs.size+1:=Heap.size_push ..;have he:IsEnum (PR s.heap false a) (Ww s.heap false a).objs.size s.heap.objs.size 0 .none:=Heap.get?_push_size _ rfl;show _/\_;rw [hz] at he ⊢;exact ⟨⟨_,he,rfl⟩,h _ he (.mk ⟨_,Heap.get?_push_of_some _ (Heap.get?_push_size _ rfl),rfl,rfl⟩) λ b o x=>Heap.get?_push_of_some _ (Heap.get?_push_of_some _ x)⟩
end
section
variable {X:Cx}{xr:XR}{e a b:Expr}{m ma mb:Ev}{pos:Pos}
noncomputable def Cw (K:Frag)(ta:TA):TI:=λ σ H R=>ta σ H λ vs H1=>∃p k xs,vs=[.ref p]/\kf k K H1 p xs/\R (Uz k K p) H1
theorem boot_enumerate:bootBuiltins "enumerate" = some (.type "enumerate"):=by rfl
theorem boot_zip:bootBuiltins "zip" = some (.type "zip"):=by rfl
theorem HV {elts:List Expr}{kk:Nat}{tpos p:Pos}{ta:TA}(hg:Gl X "enumerate")(hm:X.mg "enumerate" = none)(ha:PA X [a] ta)(hs:starEach [a] X.env=[(false,eval a X.env)]):
  PI X (.Tuple elts kk tpos) (.Call (.Name "enumerate" p) [a] [] pos) (Cw X.K ta):=by
 intro pins s σ H R I h;refine Call_ (ZW I hg hm boot_enumerate (PyProof.Rows.callWith_type1 (zS (ha pos pins s σ H _ I h) λ us s1 ⟨vs,H1,I1,r1,q1⟩=>?_) hs rfl));obtain ⟨p,k,xs,rfl,hq,q⟩:=q1;obtain ⟨u,rfl,ru⟩:=r1.one;cases ru;obtain ⟨its,rv,sq,hz⟩:=I1.sq hq;refine Li sq λ h' e1 e2 e3=>wpAny_pyIter_enum e1 ?_;refine ⟨s1.heap.objs.size+1,[s1.heap.objs.size+1,s1.heap.objs.size],_,_,H1,rfl,I1.kept (t':=s1.toks) e3,Lu k p _ _,⟨⟨_,by simpa using e1⟩,e2,Nat.succ_ne_self _⟩,λ b hb=>?_,q⟩
 have hb':s1.heap.objs.size<=b:=by
  rcases List.mem_cons.mp hb with z | z
  ·rw [z];exact le_succ _
  ·rw [List.mem_singleton.mp z];exact le_refl _
 exact I1.fpOk hb' (I1.hok.fresh hb')
noncomputable def atEnd (ws:List W)(i:Nat)(f:W->W):Option (Option W):=match ws[i]? with
 | some x=>some (some (f x))
 | none=>if ws.length=i then some none else none
noncomputable def wV (w:W)(n:Nat):jx:=⟨λ A i=>match zO w A with
 | some ws=>atEnd ws i λ x=>.tup [.int i,x]
 | none=>none,n⟩
noncomputable def Z2 (w:W):Bool:=match w with
 | .tup _=>false
 | _=>true
theorem KD {K:Frag}{φ:List Addr}{A:Hx}{H:Hp}{w:W}{ws:List W}{v:V}(S:zH K φ A H)(q:RV K φ H w v)(e:zO w A=some ws):∃p ys,v=.ref p/\kf (Z2 w) K H p ys/\zD K φ H ws ys:=by
 cases w with
 | tup us=>cases e;obtain ⟨a,vs,ea,t,r⟩:=q;exact ⟨a,vs,ea,t,r⟩
 | ref n=>
  obtain ⟨a,ea,f⟩:=q;unfold zO at e;dsimp only at e;cases ec:A[n]? with
  | none=>rw [ec] at e;cases e
  | some o=>
   rw [ec] at e;obtain ⟨a',e3,r⟩:=S.ob n o ec;rw [f] at e3;cases e3;cases o with
   | lst xs=>cases e;obtain ⟨ys',h1,h2⟩:=r;exact ⟨a,ys',ea,je.of h1,h2⟩
   | ro xs=>cases e;obtain ⟨ys',h1,h2⟩:=r;exact ⟨a,ys',ea,h1.sq,h2⟩
   | dct xs=>cases e
   | tab _ _=>cases e
 | non=>cases e
 | bl _=>cases e
 | clo _ _ _=>cases e
 | xc _=>cases e
 | int _=>cases e
 | str _=>cases e
theorem Xs {K:Frag}{φ φ':List Addr}{A':Hx}{H H':Hp}{w:W}{ws':List W}{p:Addr}(q:RV K φ H w (.ref p))(lw:gB K φ H φ' H')(S':zH K φ' A' H')(e':zO w A'=some ws'):∃ys',kf (Z2 w) K H' p ys'/\zD K φ' H' ws' ys':=by
 obtain ⟨p',ys,ep,h1,h2⟩:=KD S' (RV.monoW lw q) e';cases ep;exact ⟨ys,h1,h2⟩
theorem DY {K:Frag}{φ:List Addr}{H:Hp}{w:W}{p:Addr}{n:Nat}(q:RV K φ H w (.ref p)):Zz K φ H (wV w n) (Uz (Z2 w) K p):=λ i φ' H' A' lw S'=>by
 unfold wV;dsimp only;cases es:zO w A' with
 | none=>exact ⟨λ _ z=>(by cases z),λ z=>(by cases z)⟩
 | some ws=>
  dsimp only;obtain ⟨ys,h1,h2⟩:=Xs q lw S' es;unfold atEnd;cases ei:ws[i]? with
  | none=>
   dsimp only
   by_cases hl:ws.length=i
   ·rw [if_pos hl]
    exact ⟨λ _ z=>(by cases z),λ _=>⟨ys,h1,by rw [<- h2.length];exact hl⟩⟩
   ·rw [if_neg hl]
    exact ⟨λ _ z=>(by cases z),λ z=>(by cases z)⟩
  | some x=>
   dsimp only;refine ⟨λ u z=>?_,λ z=>(by cases z)⟩
   cases z;obtain ⟨y,e1,e2⟩:=h2.get ei;refine ⟨⟨ys,y,h1,e1⟩,λ xv H1 ⟨t,y',hy,ht,ex,eH⟩=>?_⟩;subst ex eH
   have:=hy ys h1
   rw [e1] at this;cases this;obtain ⟨a1,a2,a3⟩:=Yc S' ht (.cons (w:=.int i) (v:=.int i) rfl (.one e2));exact ⟨a1,a2,a3⟩
noncomputable def ZZ (m:Ev):Ei:=λ ρ A=>(m ρ A).bind λ w A1=>match zO w A1 with
 | some ws=>.ok (wV w ws.length) A1
 | none=>.bad
end
section
variable {prog:Program}{w:World}{A:Around}{E:Value->Shared->Prop}{s:Shared}{z TI TO i1 i2 l1 l2:Addr}{n1 n2:Nat}{c1 c2:Bool}{xs ys:Array Value}{x y a b:Value}
theorem Fq {Q:Value->Shared->Prop}(D:ZipApart z TI TO i1 i2 l1 l2)(hz:IsZip s.heap z TI TO .none)(hTI:IsPair s.heap TI (.ref i1) (.ref i2))(hTO:IsPair s.heap TO a b)
  (g1:jw c1 s.heap i1 l1 n1)(g2:jw c2 s.heap i2 l2 n2)(s1:jQ c1 s.heap l1 xs)(s2:jQ c2 s.heap l2 ys)(hx:xs[n1]? =some x)(hy:ys[n2]? =some y)
  (hQ:∀h',IsZip h' z TI TO (rawInt s.heap.objs.size)->IsPair h' TI (.ref i1) (.ref i2)->IsPair h' TO x y->jw c1 h' i1 l1 (n1+1)->jw c2 h' i2 l2 (n2+1)->IsPair h' s.heap.objs.size x y->
   (∀c o,c≠z->c≠TO->c≠i1->c≠i2->s.heap.get? c=some o->h'.get? c=some o)->Q (.ref s.heap.objs.size) { s with heap:=h' }):
  wpAny (model prog w) A (Builtin.«zip.__next__» ⟨[.ref z],[]⟩) (λ fin s'=>∃v,fin=.done (.ret v)/\Q v s') E s:=by
 show wpAny _ _ (field (.ref z) 2 >>= _) _ _ _;refine wpAny_bind (wpAny_field hz rfl (x:=.bool false) rfl ?_);show wpAny _ _ (field (.ref z) 3 >>= _) _ _ _;refine wpAny_bind (wpAny_field hz rfl (x:=.ref TI) rfl (wpAny_bind (wpAny_seqItems hTI rfl ?_)));show wpAny _ _ (Builtin.SmallTypes.ownedTupleIsFree (.ref z) >>= _) _ _ _;refine wpAny_bind ?_;unfold Builtin.SmallTypes.ownedTupleIsFree;refine wpAny_bind (wpAny_field hz rfl (x:=.none) rfl (wpAny_pure ?_));simp only [if_true];refine wpAny_bind (wpAny_rule (wpAny_bind (wpAny_field hz rfl (x:=.ref TO) rfl ?_)));refine wpAny_bind (wpAny_setField_rec hz (by simp) λ ha za sa=>?_);replace za:IsZip ha z TI TO .ellipsis:=za
 refine wpAny_bind ?_;simp only [List.zipIdx_cons,List.zipIdx_nil,forIn_cons,forIn_nil];refine wpAny_bind (wpAny_bind (wpAny_onRaise ?_));show wpAny _ _ (Builtin.SmallTypes.nextOf (.ref i1) >>= _) _ _ _;refine wpAny_bind (K2 (g1.to λ o e=>sa.extBut _ _ D.i1z e) (s1.to λ o e=>sa.extBut _ _ D.l1z e) hx λ hb gb sb=>wpAny_pure ?_);have tb:IsPair hb TO a b:=sb.extBut _ _ D.TOi1 (sa.extBut _ _ D.TOz hTO);refine wpAny_bind (wpAny_seqItems tb rfl (wpAny_bind (wpAny_updateSeq_pair tb λ hc tc sc=>wpAny_bind (wpAny_letGo (wpAny_pure ?_)))));replace tc:IsPair hc TO x b:=tc;refine wpAny_bind (wpAny_bind (wpAny_onRaise ?_));show wpAny _ _ (Builtin.SmallTypes.nextOf (.ref i2) >>= _) _ _ _;have up:∀c o,c≠z->c≠i1->c≠TO->s.heap.get? c=some o->hc.get? c=some o:=λ c o q1 q2 q3 e=>sc.extBut _ _ q3 (sb.extBut _ _ q2 (sa.extBut _ _ q1 e));refine wpAny_bind (K2 (g2.to λ o e=>up _ o D.i2z D.i12.symm D.TOi2.symm e) (s2.to λ o e=>up _ o D.l2z D.l2i1 D.l2TO e) hy λ hd gd sd=>wpAny_pure ?_);have td:IsPair hd TO x b:=sd.extBut _ _ D.TOi2 tc;refine wpAny_bind (wpAny_seqItems td rfl (wpAny_bind (wpAny_updateSeq_pair td λ he te se=>wpAny_bind (wpAny_letGo (wpAny_pure (wpAny_pure ?_))))));replace te:IsPair he TO x y:=te;refine wpAny_bind (wpAny_seqItems te rfl (wpAny_bind (wpAny_newTuple ?_)));have hsz:he.objs.size=s.heap.objs.size:=by rw [se.1,sd.1,sc.1,sb.1,sa.1]
 have ze:IsZip he z TI TO .ellipsis:=se.extBut _ _ D.TOz.symm (sd.extBut _ _ D.i2z.symm (sc.extBut _ _ D.TOz.symm (sb.extBut _ _ D.i1z.symm za)));have ke:∀c o,c≠z->c≠TO->c≠i1->c≠i2->s.heap.get? c=some o->he.get? c=some o:=λ c o q1 q2 q3 q4 e=>se.extBut _ _ q2 (sd.extBut _ _ q4 (up c o q1 q3 q2 e));have ge1:jw c1 he i1 l1 (n1+1):=((gb.to λ o e=>sc.extBut _ _ D.TOi1.symm e).to λ o e=>sd.extBut _ _ D.i12 e).to λ o e=>se.extBut _ _ D.TOi1.symm e;have ge2:jw c2 he i2 l2 (n2+1):=gd.to λ o e=>se.extBut _ _ D.TOi2.symm e;have zlt:z<he.objs.size:=Heap.lt_size ze;show wpAny _ _ (Builtin.SmallTypes.ownedTupleHandOut (.ref z) (.ref he.objs.size) >>= _) _ _ _;refine wpAny_bind ?_;unfold Builtin.SmallTypes.ownedTupleHandOut;have zf:IsZip (he.push { cls:=.type "tuple",data:=.seq #[x,y] }) z TI TO .ellipsis:=Heap.get?_push_of_some _ ze;refine wpAny_bind (wpAny_setField_rec zf (by simp) λ hg zg sg=>?_);replace zg:IsZip hg z TI TO (rawInt he.objs.size):=zg
 refine wpAny_setField_rec zg (by simp) λ hk zk sk=>?_;replace zk:IsZip hk z TI TO (rawInt he.objs.size):=zk
 have fin:∀c o,c≠z->he.get? c=some o->hk.get? c=some o:=λ c o q e=>sk.extBut _ _ q (sg.extBut _ _ q (Heap.get?_push_of_some _ e));have tk:IsPair hk he.objs.size x y:=sk.extBut _ _ (ne_of_gt zlt) (sg.extBut _ _ (ne_of_gt zlt) (Heap.get?_push_size _ rfl));rw [hsz] at zk tk;refine wpAny_pure ⟨_,rfl,?_⟩;show Q (.ref he.objs.size) _;rw [hsz];exact hQ hk zk (fin _ _ D.TIz (ke _ _ D.TIz D.TITO D.TIi1 D.TIi2 hTI)) (fin _ _ D.TOz te) (ge1.to λ o e=>fin _ o D.i1z e) (ge2.to λ o e=>fin _ o D.i2z e) tk λ c o q1 q2 q3 q4 e=>fin c o q1 (ke c o q1 q2 q3 q4 e)
theorem Dv {Q:Fin->Shared->Prop}(hh:A.handled=none)(D:ZipApart z TI TO i1 i2 l1 l2)(hz:IsZip s.heap z TI TO .none)(hTI:IsPair s.heap TI (.ref i1) (.ref i2))(hTO:IsPair s.heap TO a b)
  (g1:jw c1 s.heap i1 l1 n1)(g2:jw c2 s.heap i2 l2 n2)(s1:jQ c1 s.heap l1 xs)(s2:jQ c2 s.heap l2 ys)(hend:xs[n1]? =none∨ys[n2]? =none)
  (hE:∀h' e,(∀c o,c≠z->c≠TO->c≠i1->c≠i2->s.heap.get? c=some o->h'.get? c=some o)->(∃o,h'.get? e=some o/\o.cls=.type "StopIteration")->E (.ref e) { s with heap:=h' }):
  wpAny (model prog w) A (Builtin.«zip.__next__» ⟨[.ref z],[]⟩) Q E s:=by
 show wpAny _ _ (field (.ref z) 2 >>= _) _ _ _;refine wpAny_bind (wpAny_field hz rfl (x:=.bool false) rfl ?_);show wpAny _ _ (field (.ref z) 3 >>= _) _ _ _;refine wpAny_bind (wpAny_field hz rfl (x:=.ref TI) rfl (wpAny_bind (wpAny_seqItems hTI rfl ?_)));show wpAny _ _ (Builtin.SmallTypes.ownedTupleIsFree (.ref z) >>= _) _ _ _;refine wpAny_bind ?_;unfold Builtin.SmallTypes.ownedTupleIsFree;refine wpAny_bind (wpAny_field hz rfl (x:=.none) rfl (wpAny_pure ?_));simp only [if_true];refine wpAny_bind (wpAny_rule (wpAny_bind (wpAny_field hz rfl (x:=.ref TO) rfl ?_)));refine wpAny_bind (wpAny_setField_rec hz (by simp) λ ha za sa=>?_);replace za:IsZip ha z TI TO .ellipsis:=za
 refine wpAny_bind ?_;simp only [List.zipIdx_cons,List.zipIdx_nil,forIn_cons,forIn_nil];refine wpAny_bind (wpAny_bind (wpAny_onRaise ?_));show wpAny _ _ (Builtin.SmallTypes.nextOf (.ref i1) >>= _) _ _ _;have ga:=g1.to (h':=ha) λ o e=>sa.extBut _ _ D.i1z e;have ya:=s1.to (h':=ha) λ o e=>sa.extBut _ _ D.l1z e;cases hx:xs[n1]? with
 | none=>
  refine wpAny_bind (Vu hh ga ya hx λ hb e sb he=>?_);obtain ⟨oe,hoe,hce⟩:=he;have zb:IsZip hb z TI TO .ellipsis:=sb _ _ D.i1z.symm za;have hez:e≠z:=λ q=>by subst q;rw [zb] at hoe;cases hoe;simp at hce
  exact wpAny_setField_rec zb (by simp) λ hc _ sc=>hE hc e (λ c o q1 _ q3 _ q=>sc.extBut _ _ q1 (sb _ _ q3 (sa.extBut _ _ q1 q))) ⟨oe,sc.extBut _ _ hez hoe,hce⟩
 | some x=>
  have hy:ys[n2]? =none:=by
   rcases hend with q | q
   ·rw [hx] at q;cases q
   ·exact q
  refine wpAny_bind (K2 ga ya hx λ hb gb sb=>wpAny_pure ?_);have tb:IsPair hb TO a b:=sb.extBut _ _ D.TOi1 (sa.extBut _ _ D.TOz hTO);refine wpAny_bind (wpAny_seqItems tb rfl (wpAny_bind (wpAny_updateSeq_pair tb λ hc tc sc=>wpAny_bind (wpAny_letGo (wpAny_pure ?_)))));refine wpAny_bind (wpAny_bind (wpAny_onRaise ?_));show wpAny _ _ (Builtin.SmallTypes.nextOf (.ref i2) >>= _) _ _ _;have up:∀c o,c≠z->c≠i1->c≠TO->s.heap.get? c=some o->hc.get? c=some o:=λ c o q1 q2 q3 e=>sc.extBut _ _ q3 (sb.extBut _ _ q2 (sa.extBut _ _ q1 e));refine wpAny_bind (Vu hh (g2.to λ o e=>up _ o D.i2z D.i12.symm D.TOi2.symm e) (s2.to λ o e=>up _ o D.l2z D.l2i1 D.l2TO e) hy λ hd e sd he=>?_);obtain ⟨oe,hoe,hce⟩:=he;have zd:IsZip hd z TI TO .ellipsis:=sd _ _ D.i2z.symm (sc.extBut _ _ D.TOz.symm (sb.extBut _ _ D.i1z.symm za));have hez:e≠z:=λ q=>by subst q;rw [zd] at hoe;cases hoe;simp at hce
  exact wpAny_setField_rec zd (by simp) λ hf _ sf=>hE hf e (λ c o q1 q2 q3 q4 q=>sf.extBut _ _ q1 (sd _ _ q4 (up c o q1 q3 q2 q))) ⟨oe,sf.extBut _ _ hez hoe,hce⟩
theorem HG {Q:Option Value->Shared->Prop}(D:ZipApart z TI TO i1 i2 l1 l2)(hz:IsZip s.heap z TI TO .none)(hTI:IsPair s.heap TI (.ref i1) (.ref i2))(hTO:IsPair s.heap TO a b)
  (g1:jw c1 s.heap i1 l1 n1)(g2:jw c2 s.heap i2 l2 n2)(s1:jQ c1 s.heap l1 xs)(s2:jQ c2 s.heap l2 ys)(hx:xs[n1]? =some x)(hy:ys[n2]? =some y)
  (hQ:∀h',IsZip h' z TI TO (rawInt s.heap.objs.size)->IsPair h' TI (.ref i1) (.ref i2)->IsPair h' TO x y->jw c1 h' i1 l1 (n1+1)->jw c2 h' i2 l2 (n2+1)->IsPair h' s.heap.objs.size x y->
   (∀c o,c≠z->c≠TO->c≠i1->c≠i2->s.heap.get? c=some o->h'.get? c=some o)->Q (some (.ref s.heap.objs.size)) { s with heap:=h' }):wpAny (model prog w) A (pyNext (.ref z)) Q E s:=by
 have hT:s.TypeIs (.ref z) "zip" := ⟨_,hz,rfl⟩;unfold pyNext;exact wpAny_bind (wpAny_attempt (wpAny_callSpecial?_slot (name:=Str.ofString "__next__") hT F.slot_zip_next (wpAny_call_entry F.slot_zip_next hT F.entry_zip_next
  (Fq D hz hTI hTO g1 g2 s1 s2 hx hy λ h' q1 q2 q3 q4 q5 q6 q7=>wpAny_pure (hQ h' q1 q2 q3 q4 q5 q6 q7)) (F.args_zip_next_1 _))))
theorem HX {Q:Option Value->Shared->Prop}(hh:A.handled=none)(D:ZipApart z TI TO i1 i2 l1 l2)(hz:IsZip s.heap z TI TO .none)(hTI:IsPair s.heap TI (.ref i1) (.ref i2))(hTO:IsPair s.heap TO a b)
  (g1:jw c1 s.heap i1 l1 n1)(g2:jw c2 s.heap i2 l2 n2)(s1:jQ c1 s.heap l1 xs)(s2:jQ c2 s.heap l2 ys)(hend:xs[n1]? =none∨ys[n2]? =none)
  (hQ:∀h',(∀c o,c≠z->c≠TO->c≠i1->c≠i2->s.heap.get? c=some o->h'.get? c=some o)->Q none { s with heap:=h' }):wpAny (model prog w) A (pyNext (.ref z)) Q E s:=by
 have hT:s.TypeIs (.ref z) "zip" := ⟨_,hz,rfl⟩;unfold pyNext;refine wpAny_bind (wpAny_attempt (wpAny_callSpecial?_slot (name:=Str.ofString "__next__") hT F.slot_zip_next (wpAny_call_entry F.slot_zip_next hT F.entry_zip_next (Dv hh D hz hTI hTO g1 g2 s1 s2 hend λ h' e hk he=>?_) (F.args_zip_next_1 _))));obtain ⟨o,ho,hc⟩:=he;exact wpAny_bind (wpAny_isInstance (T := "StopIteration") (b:=true) ⟨o,ho,hc⟩ isSubtype_stop (wpAny_pure (hQ _ hk)))
end
noncomputable abbrev Wt (h:Heap)(c1:Bool)(l1:Addr):Heap:=h.push { cls:=.type (QB c1),data:=.fields #[.ref l1,.int 0 0] }
noncomputable abbrev Wi (h:Heap)(c1 c2:Bool)(l1 l2:Addr):Heap:=(Wt h c1 l1).push { cls:=.type (QB c2),data:=.fields #[.ref l2,.int 0 0] }
noncomputable abbrev Wo (h:Heap)(c1 c2:Bool)(l1 l2:Addr):Heap:=(Wi h c1 c2 l1 l2).push { cls:=.type "tuple",data:=.seq #[.ref h.objs.size,.ref (Wt h c1 l1).objs.size] }
noncomputable abbrev Wv (h:Heap)(c1 c2:Bool)(l1 l2:Addr):Heap:=(Wo h c1 c2 l1 l2).push { cls:=.type "tuple",data:=.seq #[.none,.none] }
noncomputable abbrev JC (h:Heap)(c1 c2:Bool)(l1 l2:Addr):Heap:=(Wv h c1 c2 l1 l2).push { cls:=.type "zip",data:=.fields #[.none,.bool false,.bool false,.ref (Wi h c1 c2 l1 l2).objs.size,.ref (Wo h c1 c2 l1 l2).objs.size] }
theorem MO (c1 c2:Bool)(l1 l2:Addr)(xs ys:Array Value):
  Meets (Builtin.«zip.__new__» ⟨[.type "zip",.ref l1,.ref l2],[]⟩) (λ _ R s=>jQ c1 s.heap l1 xs/\jQ c2 s.heap l2 ys/\R (.ok (.ret (.ref (Wv s.heap c1 c2 l1 l2).objs.size))) { s with heap:=JC s.heap c1 c2 l1 l2 }):=
 .of_wp λ prog w A R s h=>by
  obtain ⟨hp,g,d,tk,os⟩:=s;obtain ⟨q1,q2,h⟩:=h;have hsub:=sub_zip;have k1:jQ c1 (Shared.heap ⟨hp,g,d,tk,os⟩) l1 xs:=q1;have k2:jQ c2 (Shared.heap ⟨hp.push { cls:=.type (QB c1),data:=.fields #[.ref l1,.int 0 0] },g,d,tk,os⟩) l2 ys:=q2.to λ o e=>Heap.get?_push_of_some _ e
  wp_walk using Rt k1,Rt k2
  exact ⟨_,rfl,h⟩
section
variable {prog:Program}{w:World}{A:Around}{E:Value->Shared->Prop}{s:Shared}{c1 c2:Bool}{l1 l2:Addr}{xs ys:Array Value}
theorem LQ {Q:Value->Shared->Prop}(s1:jQ c1 s.heap l1 xs)(s2:jQ c2 s.heap l2 ys)
  (h:∀h' n,n=s.heap.objs.size->IsZip h' (n+4) (n+2) (n+3) .none->IsPair h' (n+2) (.ref n) (.ref (n+1))->IsPair h' (n+3) .none .none->jw c1 h' n l1 0->jw c2 h' (n+1) l2 0->
   (∀c o,s.heap.get? c=some o->h'.get? c=some o)->Q (.ref (n+4)) { s with heap:=h' }):wpAny (model prog w) A (call (.type "zip") [.ref l1,.ref l2]) Q E s:=by
 refine callType_new F.called_zip (by decide) (F.typeCall_zip_2 _ _) (F.newCall_zip_2 _ _) (λ obj=>F.args_object_init_3 obj _ _) F.entry_zip_new (MO c1 c2 l1 l2 xs ys) ⟨s1,s2,?_⟩
 have z1:(Wt s.heap c1 l1).objs.size=s.heap.objs.size+1:=Heap.size_push ..;have z2:(Wi s.heap c1 c2 l1 l2).objs.size=s.heap.objs.size+2:=by rw [Heap.size_push,z1]
 have z3:(Wo s.heap c1 c2 l1 l2).objs.size=s.heap.objs.size+3:=by rw [Heap.size_push,z2]
 have z4:(Wv s.heap c1 c2 l1 l2).objs.size=s.heap.objs.size+4:=by rw [Heap.size_push,z3]
 have y5:(JC s.heap c1 c2 l1 l2).get? (Wv s.heap c1 c2 l1 l2).objs.size=some _:=Heap.get?_push_size _ rfl;have y4:(JC s.heap c1 c2 l1 l2).get? (Wo s.heap c1 c2 l1 l2).objs.size=some _:=Heap.get?_push_of_some _ (Heap.get?_push_size _ rfl);have y3:(JC s.heap c1 c2 l1 l2).get? (Wi s.heap c1 c2 l1 l2).objs.size=some _:=Heap.get?_push_of_some _ (Heap.get?_push_of_some _ (Heap.get?_push_size _ rfl));have y2:(JC s.heap c1 c2 l1 l2).get? (Wt s.heap c1 l1).objs.size=some _:=Heap.get?_push_of_some _ (Heap.get?_push_of_some _ (Heap.get?_push_of_some _ (Heap.get?_push_size _ rfl)));have y1:(JC s.heap c1 c2 l1 l2).get? s.heap.objs.size=some _:=Heap.get?_push_of_some _ (Heap.get?_push_of_some _ (Heap.get?_push_of_some _ (Heap.get?_push_of_some _ (Heap.get?_push_size _ rfl))));show _/\_;rw [z2,z3,z4] at y5;rw [z1,z2] at y3;rw [z3] at y4;rw [z1] at y2;rw [z4];exact ⟨⟨_,y5,rfl⟩,h _ _ rfl y5 y3 y4 (.mk ⟨_,y1,rfl,rfl⟩) (.mk ⟨_,y2,rfl,rfl⟩) λ c o q=>
  Heap.get?_push_of_some _ (Heap.get?_push_of_some _ (Heap.get?_push_of_some _ (Heap.get?_push_of_some _ (Heap.get?_push_of_some _ q))))⟩
end
noncomputable def UH (c1 c2:Bool)(K:Frag)(p q:Addr):It:=
 ⟨λ i H=>∃xs ys x y,kf c1 K H p xs/\kf c2 K H q ys/\xs[i]? =some x/\ys[i]? =some y,
  λ i H v H'=>∃t x y,(∀xs,kf c1 K H p xs->xs[i]? =some x)/\(∀ys,kf c2 K H q ys->ys[i]? =some y)/\H t=none/\v=.ref t/\H'=upd H t (.tup [x,y]),
  λ i H=>∃xs ys,kf c1 K H p xs/\kf c2 K H q ys/\(xs[i]? =none∨ys[i]? =none)⟩
theorem LH {P:Program}{w:World}{K:Frag}{elts:List Expr}{kk:Nat}{tpos:Pos}(c1 c2:Bool)(p q z TI TO i1 i2:Addr)(D:ZipApart z TI TO i1 i2 p q):
  Turn P w K (.Tuple elts kk tpos) (UH c1 c2 K p q) [z,TI,TO,i1,i2] z (λ i h=>IsZip h z TI TO .none/\IsPair h TI (.ref i1) (.ref i2)/\(∃a b,IsPair h TO a b)/\jw c1 h i1 p i/\jw c2 h i2 q i) where
 mem:=by simp
 obj:=λ i h st b hb=>by
  obtain ⟨hz,hTI,⟨a',b',hTO⟩,g1,g2⟩:=st;simp only [mem_cons,not_mem_nil,or_false] at hb;rcases hb with rfl | rfl | rfl | rfl | rfl
  ·exact ⟨_,hz,λ v e=>nomatch e⟩
  ·exact ⟨_,hTI,λ v e=>nomatch e⟩
  ·exact ⟨_,hTO,λ v e=>nomatch e⟩
  ·obtain ⟨o,ho,_,hd⟩:=g1.ob;exact ⟨o,ho,λ v e=>by rw [hd] at e;cases e⟩
  ·obtain ⟨o,ho,_,hd⟩:=g2.ob;exact ⟨o,ho,λ v e=>by rw [hd] at e;cases e⟩
 keep:=λ i h h' ⟨hz,hTI,⟨a',b',hTO⟩,g1,g2⟩ k=>⟨k z (by simp) _ hz,k TI (by simp) _ hTI,⟨a',b',k TO (by simp) _ hTO⟩,g1.to λ o e=>k i1 (by simp) o e,g2.to λ o e=>k i2 (by simp) o e⟩
 item:=by
  intro X hP hw hK hc i pins s σ H E I hf st hg;subst hP hw hK;obtain ⟨hz,hTI,⟨a',b',hTO⟩,g1,g2⟩:=st;obtain ⟨xs,ys,x,y,h1,h2,ex,ey⟩:=hg;obtain ⟨its1,r1,sq1,_⟩:=I.sq h1;obtain ⟨its2,r2,sq2,_⟩:=I.sq h2;obtain ⟨u1,eu1,ru1⟩:=r1.get ex;obtain ⟨u2,eu2,ru2⟩:=r2.get ey;refine HG D hz hTI hTO g1 g2 sq1 sq2 (x:=u1) (y:=u2) (by simpa using eu1) (by simpa using eu2) λ hh z1 z2 z3 z4 z5 z6 kp=>?_
  refine ⟨_,rfl,wpAny_letOwnedTupleGo_zip z1 λ hk zk sk=>?_⟩;have lt:∀{c o},s.heap.get? c=some o->c≠s.heap.objs.size:=λ e=>ne_of_lt (Heap.lt_size e);have T2:IsPair hk s.heap.objs.size u1 u2:=sk.extBut _ _ (lt hz).symm z6;have fre:∀b∈[z,TI,TO,i1,i2],b≠s.heap.objs.size:=λ b hb=>by
   simp only [mem_cons,not_mem_nil,or_false] at hb;rcases hb with rfl | rfl | rfl | rfl | rfl
   ·exact lt hz
   ·exact lt hTI
   ·exact lt hTO
   ·obtain ⟨o,ho,_⟩:=g1.ob;exact lt ho
   ·obtain ⟨o,ho,_⟩:=g2.ob;exact lt ho
  refine ⟨.ref s.heap.objs.size,upd H s.heap.objs.size (.tup [x,y]),?_,rfl,⟨s.heap.objs.size,x,y,λ zs hzs=>by rw [I.sq_inj hzs h1];exact ex,λ zs hzs=>by rw [I.sq_inj hzs h2];exact ey,I.hok.fresh (le_refl _),rfl,rfl⟩,
   ⟨zk,sk.extBut _ _ D.TIz z2,⟨_,_,sk.extBut _ _ D.TOz z3⟩,z4.to λ o e=>sk.extBut _ _ D.i1z e,z5.to λ o e=>sk.extBut _ _ D.i2z e⟩,λ b hb=>?_⟩
  ·refine I.spun (fp:=[z,TI,TO,i1,i2]) (t':=s.toks) (λ b o hb eo=>?_) hf (le_refl _) ?_
   ·exact sk.extBut _ _ (λ e=>hb (by simp [e])) (kp b o (λ e=>hb (by simp [e])) (λ e=>hb (by simp [e])) (λ e=>hb (by simp [e])) (λ e=>hb (by simp [e])) eo)
   ·exact ⟨by show 2<=sizeLine;decide,[u1,u2],.cons ru1 (.cons ru2 .nil),_,T2,⟨rfl,rfl⟩,0,rfl⟩
  ·show upd H s.heap.objs.size _ b=none
   rw [qj (fre b hb)];exact (hf b hb).1
 done:=by
  intro X hP hw hK hc i pins s σ H E I hf st hg;subst hP hw hK;obtain ⟨hz,hTI,⟨a',b',hTO⟩,g1,g2⟩:=st;obtain ⟨xs,ys,h1,h2,hend⟩:=hg;obtain ⟨its1,r1,sq1,_⟩:=I.sq h1;obtain ⟨its2,r2,sq2,_⟩:=I.sq h2;have hend':its1.toArray[i]? =none∨its2.toArray[i]? =none:=by
   rcases hend with e | e
   ·exact .inl (by simpa using r1.none_of e)
   ·exact .inr (by simpa using r2.none_of e)
  exact HX (I.ok.hd hc) D hz hTI hTO g1 g2 sq1 sq2 hend' λ hh kp=>⟨rfl,I.spun0 (fp:=[z,TI,TO,i1,i2]) (t':=s.toks) (λ b o hb eo=>kp b o (λ e=>hb (by simp [e])) (λ e=>hb (by simp [e])) (λ e=>hb (by simp [e])) (λ e=>hb (by simp [e])) eo) hf⟩
 self:=λ _ _ _ _ _ st h=>wpAny_pyIter_zip st.1 h
section
variable {X:Cx}{xr:XR}{e a b:Expr}{m ma mb:Ev}{pos:Pos}
noncomputable def Bt (K:Frag)(ta:TA):TI:=λ σ H R=>ta σ H λ vs H1=>∃p q c1 c2 xs ys,vs=[.ref p,.ref q]/\kf c1 K H1 p xs/\kf c2 K H1 q ys/\R (UH c1 c2 K p q) H1
theorem DQ {elts:List Expr}{kk:Nat}{tpos p:Pos}{ta:TA}(hg:Gl X "zip")(hm:X.mg "zip" = none)(ha:PA X [a,b] ta)(hs:starEach [a,b] X.env=(false,eval a X.env)::starEach [b] X.env)(hp:(backTo pos (starEach [b] X.env)).any (·.1)=false):
  PI X (.Tuple elts kk tpos) (.Call (.Name "zip" p) [a,b] [] pos) (Bt X.K ta):=by
 intro pins s σ H R I h;refine Call_ (ZW I hg hm boot_zip (PyProof.Rows.callWith_type1 (zS (ha pos pins s σ H _ I h) λ us s1 ⟨vs,H1,I1,r1,q1⟩=>?_) hs hp));obtain ⟨p,q,c1,c2,xs,ys,rfl,h1,h2,hR⟩:=q1;obtain ⟨u1,u2,rfl,ru1,ru2⟩:=r1.two;cases ru1;cases ru2;obtain ⟨its1,rv1,sq1,_⟩:=I1.sq h1;obtain ⟨its2,rv2,sq2,_⟩:=I1.sq h2;obtain ⟨op,hop,_⟩:=sq1.ob;obtain ⟨oq,hoq,_⟩:=sq2.ob;have lp:p<s1.heap.objs.size:=Heap.lt_size hop;have lq:q<s1.heap.objs.size:=Heap.lt_size hoq;refine LQ sq1 sq2 λ h' n en z1 z2 z3 z4 z5 kp=>wpAny_pyIter_zip z1 ?_;rw [<- en] at lp lq;have ne1:∀(i j:Nat),i≠j->n+i≠n+j:=λ i j h e=>h (Nat.add_left_cancel e);have ne2:∀(c:Nat) (i:Nat),c<n->c≠n+i:=λ c i h e=>absurd h (by rw [e];exact Nat.not_lt.mpr (le_add_right n i))
 have D:ZipApart (n+4) (n+2) (n+3) (n+0) (n+1) p q:=⟨ne1 2 4 (by decide),ne1 3 4 (by decide),ne1 0 4 (by decide),ne1 1 4 (by decide),ne1 2 3 (by decide),ne1 2 0 (by decide),ne1 2 1 (by decide),ne1 3 0 (by decide),ne1 3 1 (by decide),ne1 0 1 (by decide),
  ne2 p 4 lp,ne2 p 3 lp,ne2 p 0 lp,ne2 p 1 lp,ne2 q 4 lq,ne2 q 3 lq,ne2 q 0 lq,ne2 q 1 lq⟩
 refine ⟨n+4,[n+4,n+2,n+3,n,n+1],_,_,H1,rfl,I1.kept (t':=s1.toks) kp,LH c1 c2 p q _ _ _ _ _ D,⟨z1,z2,⟨_,_,z3⟩,z4,z5⟩,λ c hc=>?_,hR⟩;have hc':s1.heap.objs.size<=c:=by
  rw [<- en];simp only [mem_cons,not_mem_nil,or_false] at hc;rcases hc with rfl | rfl | rfl | rfl | rfl
  ·exact le_add_right _ _
  ·exact le_add_right _ _
  ·exact le_add_right _ _
  ·exact le_refl _
  ·exact le_add_right _ _
 exact I1.fpOk hc' (I1.hok.fresh hc')
noncomputable def zip2:Option W->Option W->Option W
 | some x,some y=>some (.tup [x,y])
 | _,_=>none
noncomputable def QG (w w':W)(n:Nat):jx:=⟨λ A i=>match zO w A,zO w' A with
 | some us,some vs=>some (zip2 us[i]? vs[i]?)
 | _,_=>none,n⟩
theorem Cg {K:Frag}{φ:List Addr}{H:Hp}{w w':W}{p p':Addr}{n:Nat}(q:RV K φ H w (.ref p))(q':RV K φ H w' (.ref p')):Zz K φ H (QG w w' n) (UH (Z2 w) (Z2 w') K p p'):=λ i φ' H' A' lw S'=>by
 unfold QG;dsimp only;cases es:zO w A' with
 | none=>exact ⟨λ _ z=>(by cases z),λ z=>(by cases z)⟩
 | some us=>
  cases es':zO w' A' with
  | none=>exact ⟨λ _ z=>(by cases z),λ z=>(by cases z)⟩
  | some vs=>
   dsimp only;obtain ⟨xs,h1,h2⟩:=Xs q lw S' es;obtain ⟨ys,h3,h4⟩:=Xs q' lw S' es';have non:∀{us:List W} {xs:List V},zD K φ' H' us xs->us[i]? =none->xs[i]? =none:=λ r e=>by
    rw [List.getElem?_eq_none_iff] at e ⊢;rw [<- r.length];exact e
   cases e1:us[i]? with
   | none=>exact ⟨λ _ z=>(by cases z),λ _=>⟨xs,ys,h1,h3,.inl (non h2 e1)⟩⟩
   | some x=>
    cases e2:vs[i]? with
    | none=>exact ⟨λ _ z=>(by cases z),λ _=>⟨xs,ys,h1,h3,.inr (non h4 e2)⟩⟩
    | some y=>
     refine ⟨λ u z=>?_,λ z=>(by cases z)⟩
     cases z;obtain ⟨vx,f1,f2⟩:=h2.get e1;obtain ⟨vy,f3,f4⟩:=h4.get e2;refine ⟨⟨xs,ys,vx,vy,h1,h3,f1,f3⟩,λ xv H1 ⟨t,x',y',hx,hy,ht,ex,eH⟩=>?_⟩;subst ex eH;have g1:=hx xs h1;have g2:=hy ys h3;rw [f1] at g1;cases g1;rw [f3] at g2;cases g2;obtain ⟨a1,a2,a3⟩:=Yc S' ht (.cons f2 (.one f4));exact ⟨a1,a2,a3⟩
noncomputable def QD (m m':Ev):Ei:=λ ρ A=>(m ρ A).bind λ w A1=>(m' ρ A1).bind λ w' A2=>match zO w A2,zO w' A2 with
 | some us,some _=>.ok (QG w w' us.length) A2
 | _,_=>.bad
end
section
variable {X:Cx}{xr:XR}{K:Frag}{e a b c:Expr}{m ma mb mc:Ev}{pos:Pos}
noncomputable def JB:Ev:=λ _ A=>.ok (.ref A.length) (A++[.dct []])
end
section
variable {X:Cx}{pins:List (Addr × Obj)}{σ:St}{H:Hp}{s:Shared}
end
section
variable {X:Cx}{xr:XR}{e a b:Expr}{m ma mb:Ev}{pos:Pos}
end
mutual
noncomputable def W.beq:W->W->Bool
 | .non,.non=>true
 | .bl a,.bl b=>a==b
 | .int a,.int b=>decide (a=b)
 | .str a,.str b=>decide (a=b)
 | .tup a,.tup b=>Yy a b
 | _,_=>false
noncomputable def Yy:List W->List W->Bool
 | [],[]=>true
 | a::as,b::bs=>a.beq b&&Yy as bs
 | _,_=>false
end
mutual
theorem W.eq_of:∀{a b:W},a.beq b=true->a=b
 | .non,.non,_=>rfl
 | .bl a,.bl b,h=>by have h':(a==b)=true:=h;rw [beq_iff_eq] at h';rw [h']
 | .int a,.int b,h=>by have h':decide (a=b)=true:=h;rw [decide_eq_true_iff] at h';rw [h']
 | .str a,.str b,h=>by have h':decide (a=b)=true:=h;rw [decide_eq_true_iff] at h';rw [h']
 | .tup a,.tup b,h=>by have h':Yy a b=true:=h;rw [RR h']
 | .non,.bl _,h=>nomatch h | .non,.int _,h=>nomatch h | .non,.str _,h=>nomatch h | .non,.tup _,h=>nomatch h | .non,.ref _,h=>nomatch h
 | .bl _,.non,h=>nomatch h | .bl _,.int _,h=>nomatch h | .bl _,.str _,h=>nomatch h | .bl _,.tup _,h=>nomatch h | .bl _,.ref _,h=>nomatch h
 | .int _,.non,h=>nomatch h | .int _,.bl _,h=>nomatch h | .int _,.str _,h=>nomatch h | .int _,.tup _,h=>nomatch h | .int _,.ref _,h=>nomatch h
 | .str _,.non,h=>nomatch h | .str _,.bl _,h=>nomatch h | .str _,.int _,h=>nomatch h | .str _,.tup _,h=>nomatch h | .str _,.ref _,h=>nomatch h
 | .tup _,.non,h=>nomatch h | .tup _,.bl _,h=>nomatch h | .tup _,.int _,h=>nomatch h | .tup _,.str _,h=>nomatch h | .tup _,.ref _,h=>nomatch h
 | .ref _,.non,h=>nomatch h | .ref _,.bl _,h=>nomatch h | .ref _,.int _,h=>nomatch h | .ref _,.str _,h=>nomatch h | .ref _,.tup _,h=>nomatch h | .ref _,.ref _,h=>nomatch h
theorem RR:∀{a b:List W},Yy a b=true->a=b
 | [],[],_=>rfl
 | a::as,b::bs,h=>by
  have h':(a.beq b&&Yy as bs)=true:=h;rw [and_eq_true] at h';rw [W.eq_of h'.1,RR h'.2]
 | [],_::_,h=>nomatch h
 | _::_,[],h=>nomatch h
end
section
variable {P:Program}{w:World}{K:Frag}{mg:Str->Option Value}{base:Heap}
noncomputable def FD (K:Frag)(x:Str)(st:Stmt):Prop:=∃f fd,qO K x x st f fd/\PySem.W.nsIn K mainGlobals x=some (some (.ref f))
theorem jz {x:Str}{st:Stmt}{f:Addr}{oc:Value}{od an:Option Addr}{osl:Array (Option Value)}{kV doc pm cdv ct:Value}(a:PySem.W.nsIn K mainGlobals x=some (some (.ref f)))
  (l:K.lookup f=some ⟨oc,od,.func (PySem.W.fnOf x x (Zm st) (yc st) (qf st) .none kV doc pm an cdv ct),osl⟩)(c:PySem.W.codeIn K cdv x=true)(k:PySem.W.keepIn K (.ref f)=true):FD K x st:=⟨f,_,E7 l c k,a⟩
noncomputable def CD (K:Frag)(x:Str)(i:Int):Prop:=∃t,PySem.W.nsIn K mainGlobals x=some (some (.int i t))
theorem D2 {x:Str}{i:Int}{t:Tok}(a:PySem.W.nsIn K mainGlobals x=some (some (.int i t))):CD K x i:=⟨t,a⟩
theorem kJ {us:List Value}(h:us.length=1):∃a,us=[a]:=List.length_eq_one_iff.mp h
theorem wW {us:List Value}(h:us.length=2):∃a b,us=[a,b]:=by
 obtain ⟨a,t,rfl⟩:=List.exists_cons_of_length_eq_add_one h;exact (kJ (Nat.succ.inj h)).elim λ b e=>⟨a,b,by rw [e]⟩
theorem Ys {us:List Value}(h:us.length=3):∃a b c,us=[a,b,c]:=by
 obtain ⟨a,t,rfl⟩:=List.exists_cons_of_length_eq_add_one h;obtain ⟨b,c,rfl⟩:=wW (Nat.succ.inj h);exact ⟨a,b,c,rfl⟩
end
open PySem PySem.Spec PyProof.Rows L2 Mi
@[irreducible] noncomputable def zz (X:Cx)(xr:XR)(e:Expr)(m:Ev):Prop:=Mi.SE X xr e m
theorem Vw:@zz=@Mi.SE:=by
 funext X xr e m
 unfold zz
 rfl
@[irreducible] noncomputable def wC (X:Cx)(xr:XR)(es:List Expr)(m:Ea):Prop:=Mi.SA X xr es m
theorem Pc:@wC=@Mi.SA:=by
 funext X xr es m
 unfold wC
 rfl
@[irreducible] noncomputable def ym (X:Cx)(xr:XR)(e:Expr)(m:Ev):Prop:=Mi.ST X xr e m
theorem Pd:@ym=@Mi.ST:=by
 funext X xr e m
 unfold ym
 rfl
@[irreducible] noncomputable def gD (X:Cx)(xr:XR)(e:Expr)(m:Ev):Prop:=Mi.SW X xr e m
theorem RG:@gD=@Mi.SW:=by
 funext X xr e m
 unfold gD
 rfl
@[irreducible] noncomputable def ka (X:Cx)(xr:XR)(st:Stmt)(m:Ex):Prop:=Mi.SS X xr st m
theorem R7:@ka=@Mi.SS:=by
 funext X xr st m
 unfold ka
 rfl
@[irreducible] noncomputable def y0 (X:Cx)(xr:XR)(st:List Stmt)(m:Ex):Prop:=Mi.YI X xr st m
theorem Rx:@y0=@Mi.YI:=by
 funext X xr st m
 unfold y0
 rfl
@[irreducible] noncomputable def wG (X:Cx)(xr:XR)(tg e:Expr)(m:Ei):Prop:=Mi.SI X xr tg e m
theorem R5:@wG=@Mi.SI:=by
 funext X xr tg e m
 unfold wG
 rfl
@[irreducible] noncomputable def w5 (X:Cx)(tg:Expr)(m:Tg):Prop:=Mi.SG X tg m
theorem R3:@w5=@Mi.SG:=by
 funext X tg m
 unfold w5
 rfl
@[irreducible] noncomputable def QS (X:Cx)(xr:XR)(e:Expr)(m:jN):Prop:=Mi.SF X xr e m
theorem RQ:@QS=@Mi.SF:=by
 funext X xr e m
 unfold QS
 rfl
@[irreducible] noncomputable def gC (X:Cx)(xr:XR)(e:Expr)(m:jN):Prop:=Mi.SQ X xr e m
theorem R1:@gC=@Mi.SQ:=by
 funext X xr e m
 unfold gC
 rfl
@[irreducible] noncomputable def Zu (X:Cx)(es:List Expr)(m:Ev):Prop:=Mi.YG X es m
theorem S6:@Zu=@Mi.YG:=by
 funext X es m
 unfold Zu
 rfl
@[irreducible] noncomputable def ZF (X:Cx)(elt:Expr)(gens:List Comprehension)(sc:Scope)(cpos:Pos)(d:Nat)(em:Em):Prop:=Mi.SM X elt gens sc cpos d em
theorem R0:@ZF=@Mi.SM:=by
 funext X elt gens sc cpos d em
 unfold ZF
 rfl
section
variable {X:Cx}{xr:XR}{K:Frag}{e a b c:Expr}{es:List Expr}{m ma mb mc:Ev}{m1 m2:Ex}{pos:Pos}{st:Stmt}{rest:List Stmt}
theorem zR:@zz=@Mi.SE/\@wC=@Mi.SA/\@ym=@Mi.ST/\@gD=@Mi.SW/\@ka=@Mi.SS/\@y0=@Mi.YI/\@wG=@Mi.SI/\@w5=@Mi.SG/\@QS=@Mi.SF/\@gC=@Mi.SQ/\@Zu=@Mi.YG/\@ZF=@Mi.SM:=⟨Vw,Pc,Pd,RG,R7,Rx,R5,R3,RQ,R1,S6,R0⟩
theorem zl {mr:Ea}(ha:zz X xr e ma)(hr:wC X xr es mr)(hs:starEach (e::es) X.env=(false,eval e X.env)::starEach es X.env:=by rfl):wC X xr (e::es) (zh ma mr):=by
 (try simp only [zR] at *)
 exact PA.imp (jv ha hr hs) λ σ H Q ⟨φ,A,ρ,S,re,h⟩=>by
   refine tM.go S re (zY.mp h) λ w A1 φ1 H1 v h1 l1 S1 q1=>?_;refine WG.go S1 (re.mono l1) (qp (zY.mp h1) (λ _ _ z=>z) λ _ _ z=>z.mono l1) λ w2 A2 φ2 H2 v2 h2 l2 S2 q2=>?_;exact h2 φ2 H2 _ (l1.trans l2) S2 (.cons (q1.mono l2) q2)
theorem zw:wC X xr [] zp:=by
 (try simp only [zR] at *)
 exact PA.imp j4 λ σ H Q ⟨φ,A,ρ,S,re,h⟩=>h φ H [] .refl S .nil
theorem yg (ha:zz X xr a ma)(hb:zz X xr b mb):zz X xr (.BinOp a .Add b pos) (zo qH ma mb):=by
 (try simp only [zR] at *)
 exact Qp (F6.or (Fe.or (LU.or DG))) ES Fd ha hb
theorem J3 {p:Pos}{q:jN}(hc:X.calm=true)(hm:X.mg "all" = none)(ha:gC X xr e q)(hg:Gl X "all" := by rfl)(he:starEach [e] X.env=(false,eval e X.env)::starEach [] X.env:=by rfl):
  zz X xr (.Call (.Name "all" p) [e] [] pos) (mQ Z5 q):=by
 (try simp only [zR] at *)
 exact V2 (Ha hc) Dl Fc hm (by rfl) ha hg (by decide) (by decide) he (by rfl)
theorem Qo {rest:List Expr}(ha:zz X xr a ma)(hb:zz X xr (.BoolOp .And (b::rest) pos) mb):zz X xr (.BoolOp .And (a::b::rest) pos) (kq ma mb):=by
 (try simp only [zR] at *)
 exact PE.imp (Et ha hb) λ σ H Q ⟨φ,A,ρ,S,re,h⟩=>by
   refine tM.go S re (zY.mp h) λ w A1 φ1 H1 v h1 l1 S1 q1=>?_;cases w with
   | bl k=>
    refine ⟨k,q1,?_⟩;cases k with
    | true=>rw [if_pos rfl];exact ⟨φ1,A1,ρ,S1,re.mono l1,qp h1 (λ _ _ z=>z.mono l1) λ _ _ z=>z.mono l1⟩
    | false=>rw [if_neg Bool.false_ne_true];exact h1 φ1 H1 _ l1 S1 rfl
   | non=>cases h1
   | int _=>cases h1
   | str _=>cases h1
   | tup _=>cases h1
   | ref _=>cases h1
   | clo _ _ _=>cases h1
   | xc _=>cases h1
theorem yr {i j}:zz X xr (.Constant (.bool i) j pos) (zi (.bl i)):=by
 (try simp only [zR] at *)
 exact PE.imp D4 λ σ H Q ⟨φ,A,ρ,S,r,h⟩=>h φ H _ .refl S rfl
theorem gw {op:CmpOp}{g:W->W->Hx->R W}(h:wu X op g)(ha:zz X xr a ma)(hb:zz X xr b mb)(h1:op≠.In:=by decide)(h2:op≠.NotIn:=by decide):zz X xr (.Compare a [op] [b] pos) (zo g ma mb):=by
 (try simp only [zR] at *)
 exact let ⟨r,a1,a2,a3⟩:=h.ex;RW a1 a2 a3 ha hb (h.mks b h1 h2)
theorem RL {op op':CmpOp}{g g':W->W->Hx->R W}(h:wu X op g)(h':wu X op' g')(ha:zz X xr a ma)(hb:zz X xr b mb)(hc:zz X xr c mc)(hm:lastMarks [op,op'] [b,c]=false:=by with_unfolding_all rfl):
  zz X xr (.Compare a [op,op'] [b,c] pos) (yB g g' ma mb mc):=by
 (try simp only [zR] at *)
 exact let ⟨r,a1,a2,a3⟩:=h.ex;let ⟨r',b1,b2,b3⟩:=h'.ex;Ir a1 a2 a3 b1 b2 b3 ha hb hc hm
theorem qo {k n:Nat}{x:Str}{p:Pos}{f:Fn}{mr:Ea}(F:zE X.prog X.w X.K X.mg X.base k x n f)(hr:ju k X.A)(ha:wC X jT (e::es) mr)(hl:g7 mr n)(hg:Gl X x:=by rfl)
  (hdb:(x==("__debug__" : Str))=false:=by decide)(he:starEach (e::es) X.env=(false,eval e X.env)::starEach es X.env:=by rfl)(hpl:(backTo pos (starEach es X.env)).any (·.1)=false:=by rfl):
  zz X jT (.Call (.Name x p) (e::es) [] pos) (zF f mr):=by
 (try simp only [zR] at *)
 obtain ⟨fa,fd,ps,F,hm,hk,hb⟩:=F;refine PE.imp (Rv F hr hg hm hk hb .nil DX ha hdb he hpl) λ σ H Q ⟨φ,A,ρ,S,re,h⟩=>?_;have h':=zY.mp h;refine ⟨φ,A,ρ,S,re,?_⟩;cases er:mr ρ A with
 | ok ws A1=>
  rw [er] at h';intro φ1 H1 vs l1 S1 q1;have hv:vs.length=n:=by rw [<- q1.length];exact hl ρ A ws A1 er
  rw [append_nil];exact ⟨hv,φ1,A1,ws,S1,q1,qp h' (λ _ _ z=>z.mono l1) λ x A2 z φ2 H2 l2 S2=>(z φ2 H2 (l1.trans l2) S2).elim⟩
 | exc x A1=>rw [er] at h';exact h'
 | bad=>rw [er] at h';exact h'
theorem EC {op:CmpOp}{g:W->W->Hx->R W}(h:Uh X op g)(ha:zz X xr a ma)(hb:zz X xr b mb)(hm:behindInMarks op b=false:=by rfl):zz X xr (.Compare a [op] [b] pos) (zo g ma mb):=by
 (try simp only [zR] at *)
 exact let ⟨r,a1,a2,a3⟩:=h.ex;RW a1 a2 a3 ha hb hm
theorem Hk:zz X xr (.Dict [] [] pos) JB:=by
 (try simp only [zR] at *)
 exact PE.imp IK λ σ H Q ⟨φ,A,ρ,S,re,h⟩ p hp=>by
  obtain ⟨l,S'⟩:=S.alloc (o:=.dct []) hp (u:=.dK []) ⟨[],jy,rfl,.nil⟩;exact h _ _ _ l S' ⟨p,rfl,by rw [<- S.len];simp⟩
theorem Ih {x:Str}{i:Int}{t:Tok}(hg:Gl X x)(hm:X.mg x=some (.int i t))(hd:(x==("__debug__" : Str))=false:=by decide):zz X xr (.Name x pos) (zi (.int i)):=by
 (try simp only [zR] at *)
 exact PE.imp (HU hg hm (v:=.int i) ⟨t,rfl⟩ hd) λ σ H Q ⟨φ,A,ρ,S,r,h⟩=>h φ H _ .refl S rfl
theorem DK {c:Expr}(hc:ym X xr c mc)(ha:zz X xr a ma)(hb:zz X xr b mb):zz X xr (.IfExp c a b pos) (P9 mc ma mb):=by
 (try simp only [zR] at *)
 exact PE.imp (Iy hc ha hb) λ σ H Q ⟨φ,A,ρ,S,re,h⟩=>by
   refine tT.go S re (zY.mp h) λ w A1 h1=>?_;cases w with
   | bl k=>
    refine ⟨k,rfl,λ φ1 H1 l1 S1=>?_⟩;cases k with
    | true=>rw [if_pos rfl];exact ⟨φ1,A1,ρ,S1,re.mono l1,qp h1 (λ _ _ z=>z.mono l1) λ _ _ z=>z.mono l1⟩
    | false=>rw [if_neg Bool.false_ne_true];exact ⟨φ1,A1,ρ,S1,re.mono l1,qp h1 (λ _ _ z=>z.mono l1) λ _ _ z=>z.mono l1⟩
   | non=>cases h1
   | int _=>cases h1
   | str _=>cases h1
   | tup _=>cases h1
   | ref _=>cases h1
   | clo _ _ _=>cases h1
   | xc _=>cases h1
theorem zr {i j}:zz X xr (.Constant (.int i) j pos) (zi (.int i)):=by
 (try simp only [zR] at *)
 exact PE.imp Dn λ σ H Q ⟨φ,A,ρ,S,r,h⟩=>h φ H _ .refl S rfl
theorem gR (t:Ty){x:Str}{p p':Pos}(hm:X.mg "isinstance" = none)(hm':X.mg x=none)(hx:bootBuiltins x=some (.type t.nm))(ha:zz X xr e m)(hg:Gl X "isinstance" := by rfl)(hg':Gl X x:=by rfl)
  (hn:x ≠ "__name__" := by decide)(hd:(x==("__debug__" : Str))=false:=by decide)
  (h1:starEach [e,.Name x p'] X.env=(false,eval e X.env)::starEach [.Name x p'] X.env:=by rfl)(h2:(backTo pos (starEach [.Name x p'] X.env)).any (·.1)=false:=by rfl):
  zz X xr (.Call (.Name "isinstance" p) [e,.Name x p'] [] pos) (yx t m):=by
 (try simp only [zR] at *)
 exact PE.imp (ZN Ft hg hm (by rfl) (jv ha (jv (KW hg' hm' hx (v:=.ty t.nm) rfl hn hd) j4) h1) (by decide) (by decide) h1 h2) λ σ H Q ⟨φ,A,ρ,S,re,h⟩=>by
   refine tM.go S re (zY.mp h) λ w A1 φ1 H1 v h1 l1 S1 q1=>?_;cases et:qX w A1 with
   | none=>rw [et] at h1;exact h1.elim
   | some t'=>
    rw [et] at h1;exact ⟨v,t',t,rfl,Sf S1 q1 et,h1 φ1 H1 _ l1 S1 rfl⟩
theorem qy (ha:zz X xr a ma)(hb:zz X xr b mb)(hs:S7 b:=by intro _ _;rfl):zz X xr (.Subscript a b pos) (zo zB ma mb):=by
 (try simp only [zR] at *)
 exact PE.imp (D1 Dz ha hb hs) (zo.read Cf Dw)
theorem yT {p:Pos}{q:jN}(hm:X.mg "len" = none)(ha:gC X xr e q)(hg:Gl X "len" := by rfl)(he:starEach [e] X.env=(false,eval e X.env)::starEach [] X.env:=by rfl):
  zz X xr (.Call (.Name "len" p) [e] [] pos) (mQ qJ q):=by
 (try simp only [zR] at *)
 exact V2 Ng (λ _ _=>j6) HB hm (by rfl) ha hg (by decide) (by decide) he (by rfl)
theorem yo {q:jN}(h:QS X xr e q):zz X xr e (qm q):=by
 (try simp only [zR] at *)
 exact PE.imp h qm.read
theorem N0 {p p' pos':Pos}(hc:X.calm=true)(hm:X.mg "list" = none)(hm':X.mg "range" = none)(ha:zz X xr a ma)(hg:Gl X "list" := by rfl)(hg':Gl X "range" := by rfl)(hs:starEach [a] X.env=[(false,eval a X.env)]:=by rfl)
  (hs':starEach [.Call (.Name "range" p') [a] [] pos'] X.env=(false,eval (.Call (.Name "range" p') [a] [] pos') X.env)::starEach [] X.env:=by rfl):
  zz X xr (.Call (.Name "list" p) [.Call (.Name "range" p') [a] [] pos'] [] pos) (J7 ma):=by
 (try simp only [zR] at *)
 exact PE.imp (Q9 (NX hc) hg hm (by rfl) (jv (Fy hg' hm' (jv ha j4 (by rw [hs];rfl)) hs) j4 hs') (by decide) (by decide) hs' (by rfl)) λ σ H Q ⟨φ,A,ρ,S,re,h⟩=>by
   refine tM.go S re (zY.mp h) λ w A1 φ1 H1 v h1 l1 S1 q1=>?_;cases w with
   | int j=>
    obtain rfl:=q1;dsimp only at h1
    by_cases hj:(jI j&&decide (j.toNat<=zZ))=true
    ·rw [if_pos hj] at h1
     rw [and_eq_true,decide_eq_true_iff] at hj;refine ⟨j,rfl,λ p hp=>⟨p,j,rfl,jy,Q6 hj.1,Zk hj.2,λ l hl=>?_⟩⟩;have ln:Le X.K φ1 H1 φ1 (upd H1 p (.rng 0 j)):=Le.new hp;have rr:zD X.K φ1 (upd H1 p (.rng 0 j)) ((List.range j.toNat).map λ (i:Nat)=>W.int i) (QF j.toNat):=by
      have:=(zD.ints (K:=X.K) (φ:=φ1) (H:=upd H1 p (.rng 0 j)) (ns:=(List.range j.toNat).map λ (i:Nat)=>(i:Int)) (vs:=QF j.toNat)).mpr (by unfold QF;simp)
      rw [map_map] at this;exact this
     obtain ⟨b1,b2,b3⟩:=Qs (S1.lay hp) hl rr;exact h1 _ _ _ ((l1.trans ln).trans b1) b2 b3
    ·rw [if_neg hj] at h1;exact h1.elim
   | _=>exact h1.elim
theorem qT {mr:Ea}{n:Nat}(h:wC X xr es mr)(hl:g7 mr n)(hn:n<=zZ:=by decide):zz X xr (.List es pos) (zV mr):=by
 (try simp only [zR] at *)
 exact Dy h λ ρ A ws A' e=>by rw [hl ρ A ws A' e];exact Zk hn
theorem Qj {p:Pos}{q:jN}(hc:X.calm=true)(hm:X.mg "max" = none)(ha:gC X xr e q)(hg:Gl X "max" := by rfl)(he:starEach [e] X.env=(false,eval e X.env)::starEach [] X.env:=by rfl):
  zz X xr (.Call (.Name "max" p) [e] [] pos) (mQ j9 q):=by
 (try simp only [zR] at *)
 exact V2 (Lv hc) Eg FH hm (by rfl) ha hg (by decide) (by decide) he (by rfl)
theorem XY {p:Pos}(hc:X.calm=true)(hm:X.mg "min" = none)(ha:zz X xr a ma)(hb:zz X xr b mb)(hgl:Gl X "min" := by rfl)(h1:starEach [a,b] X.env=(false,eval a X.env)::starEach [b] X.env:=by rfl)(h2:starEach [b] X.env=(false,eval b X.env)::starEach [] X.env:=by rfl)(hpl:(backTo pos (starEach [b] X.env)).any (·.1)=false:=by rfl):
  zz X xr (.Call (.Name "min" p) [a,b] [] pos) (zo Z0 ma mb):=by
 (try simp only [zR] at *)
 exact VN (Lf hc) ZY (λ φ A H x y u v Q S q1 q2 p=>by
   obtain ⟨i,j,e1,e2,q⟩:=ZU (K:=X.K) (f:=λ i j=>.int (if j<i then j else i)) (g:=λ i j=>.int (if j<i then j else i)) (λ _ _ _ _=>rfl) φ A H x y u v Q S q1 q2 p;subst e1;subst e2;exact ⟨i,j,rfl,q⟩) hm (by rfl) ha hb hgl (by decide) (by decide) h1 h2 hpl
theorem ZO (ha:zz X xr a ma)(hb:zz X xr b mb):zz X xr (.BinOp a .Mod b pos) (zo kH ma mb):=by
 (try simp only [zR] at *)
 exact Qp DR Uc (VA HQ λ _ _ _ _=>rfl) ha hb
theorem ki (ha:zz X xr a ma)(hb:zz X xr b mb):zz X xr (.BinOp a .Mult b pos) (zo qP ma mb):=by
 (try simp only [zR] at *)
 exact Qp (Dj.or EF) DJ FF ha hb
theorem KS (ha:zz X xr a ma):zz X xr (.UnaryOp .USub a pos) (jO Zr ma):=by
 (try simp only [zR] at *)
 exact Co Du (λ x A=>by unfold Zr;split;exact j6;exact jc) (λ φ A H x u Q S q p=>by
  cases u with
  | int i=>obtain rfl:=q;exact ⟨i,rfl,p φ H _ .refl S rfl⟩
  | _=>exact p.elim) ha
theorem Jk {j}:zz X xr (.Constant .none j pos) (zi .non):=by
 (try simp only [zR] at *)
 exact PE.imp EI λ σ H Q ⟨φ,A,ρ,S,r,h⟩=>h φ H _ .refl S rfl
theorem Fv (ha:zz X xr a ma):zz X xr (.UnaryOp .Not a pos) (jM ma):=by
 (try simp only [zR] at *)
 exact PE.imp (Dm ha) λ σ H Q ⟨φ,A,ρ,S,re,h⟩=>by
   refine tM.go S re (zY.mp h) λ w A1 φ1 H1 v h1 l1 S1 q1=>?_;cases w with
   | bl k=>exact ⟨k,q1,h1 φ1 H1 _ l1 S1 rfl⟩
   | non=>cases h1
   | int _=>cases h1
   | str _=>cases h1
   | tup _=>cases h1
   | ref _=>cases h1
   | clo _ _ _=>cases h1
   | xc _=>cases h1
theorem Jl {op}(h:zz X xr a ma):zz X xr (.BoolOp op [a] pos) ma:=by
 (try simp only [zR] at *)
 exact DI h
theorem gO (ha:zz X xr a ma)(hb:zz X xr b mb):zz X xr (.BinOp a .Sub b pos) (zo yG ma mb):=by
 (try simp only [zR] at *)
 exact Qp DN ZY (ZU λ _ _ _ _=>rfl) ha hb
theorem qi {x1}{mr:Ea}{n:Nat}(h:wC X xr es mr)(hl:g7 mr n)(hn:n<=zZ:=by decide):zz X xr (.Tuple es x1 pos) (zC mr):=by
 (try simp only [zR] at *)
 exact PE.imp (RC h) λ σ H Q ⟨φ,A,ρ,S,re,h⟩=>by
   have h':=zY.mp h;cases e:mr ρ A with
   | ok ws A'=>
    rw [e] at h';refine ⟨φ,A,ρ,S,re,?_⟩;rw [e];intro φ1 H1 vs l1 S1 q1;refine ⟨by rw [<- q1.length,hl ρ A ws A' e];exact Zk hn,λ p hp=>?_⟩
    obtain ⟨a1,a2,a3⟩:=Yc S1 hp q1;exact h' _ _ _ (l1.trans a1) a2 a3
   | exc x A'=>rw [e] at h';refine ⟨φ,A,ρ,S,re,?_⟩;rw [e];exact h'
   | bad=>rw [e] at h';exact h'.elim
theorem ZM {p:Pos}{q:jN}(hm:X.mg "tuple" = none)(ha:gC X xr e q)(hg:Gl X "tuple" := by rfl)(he:starEach [e] X.env=(false,eval e X.env)::starEach [] X.env:=by rfl):
  zz X xr (.Call (.Name "tuple" p) [e] [] pos) (mQ yP q):=by
 (try simp only [zR] at *)
 exact D9 O3 (λ _ _=>j6) Fz hm (by rfl) ha hg (by decide) (by decide) he (by rfl)
theorem zj (i:Nat){x:Str}(hN:X.N[i]? =some x:=by rfl)(hv:JF X.env.scope x:=by first | exact Or.inl rfl | exact Or.inr (Or.inl rfl) | exact Or.inr (Or.inr rfl))(hd:(x==("__debug__" : Str))=false:=by decide)
  (hcd:(x==("__classdict__" : Str))=false:=by decide):zz X xr (.Name x pos) (zc i):=by
 (try simp only [zR] at *)
 exact PE.imp (RM hN hv hd hcd) λ σ H Q ⟨φ,A,ρ,S,r,h⟩=>by
  unfold zc at h;cases e:ρ[i]? with
  | none=>rw [e] at h;cases h
  | some o=>cases o with
   | none=>rw [e] at h;cases h
   | some w=>
    rw [e] at h;obtain ⟨v,h1,h2⟩:=r.get i w e;exact ⟨v,h1,h φ H v .refl S h2⟩
theorem ji {elt tg iter:Expr}{ifs:List Expr}{gs:List Comprehension}{sc:Scope}{mi:Ei}{tw:Tg}{mf:Ev}{em:Em}{N:List Str}(nl:Nat)(cap:List Nat)(hc:X.calm=true)(S:gN X sc)(hcap:Z1 X.N N sc nl cap=true)(hw:wG X xr tg iter mi)
  (hin:∀s H fp,w5 (jq X N sc s H fp jJ) tg tw/\Zu (jq X N sc s H fp jJ) ifs mf/\ZF (jq X N sc s H fp jJ) elt (⟨tg,iter,ifs,0⟩::gs) sc pos 0 em)
  (ha:∀g',gs[0]? =some g'->g'.is_async=0:=by intro _ h;cases h<;>rfl)
  (hs:∀x,foldedSetIterable iter X.env x=pure x:=by intro _;rfl):QS X xr (.ListComp elt (⟨tg,iter,ifs,0⟩::gs) sc pos) (zU nl cap mi tw mf em):=by
 (try simp only [zR] at *)
 exact PE.imp (FY (g:=tG X.K tw) (ti:=tT X.K jT mf) (tm:=tE X.K em) hc S hcap ha hw hin hs) zU.read
theorem Qi (i j:Nat){x y:Str}{p q:Pos}{k:Nat}(hc:X.calm=true)(hN:X.N.Nodup)(hi:X.N[i]? =some x:=by rfl)(hx:Loc X.env.scope x:=by first | exact Or.inl rfl | exact Or.inr rfl)(hf:X.fn x=true∨X.env.scope.names.lookup x=some .local:=by first | exact .inl rfl | exact .inr rfl)
  (hj:X.N[j]? =some y:=by rfl)(hy:Loc X.env.scope y:=by first | exact Or.inl rfl | exact Or.inr rfl)(hg:X.fn y=true∨X.env.scope.names.lookup y=some .local:=by first | exact .inl rfl | exact .inr rfl):w5 X (.Tuple [.Name x p,.Name y q] k pos) (yW i j):=by
 (try simp only [zR] at *)
 exact PG.imp (Di hc (Sh (Vb hN hi hx hf) (Sh (Vb hN hj hy hg) Hr))) λ v σ H Q ⟨φ,A,ρ,w,ρ',S,re,qq,e,kk⟩=>by
   unfold yW at e
   split at e
   ·rename_i x1 y1
    have e':=Option.some.inj e;subst e';obtain ⟨a,vs,rfl,hs,rs⟩:=qq;obtain ⟨v1,r1,rfl,h1,v2,r2,rfl,h2,rfl⟩:=rs;exact ⟨a,[v1,v2],rfl,hs,rfl,v1,[v2],rfl,v2,[],rfl,rfl,kk _ ((re.set h1).set h2)⟩
   ·cases e
theorem qD (i:Nat){x:Str}(hN:X.N.Nodup)(hi:X.N[i]? =some x:=by rfl)(hx:Loc X.env.scope x:=by first | exact Or.inl rfl | exact Or.inr rfl)(hf:X.fn x=true∨X.env.scope.names.lookup x=some .local:=by first | exact .inl rfl | exact .inr rfl):w5 X (.Name x pos) (zJ i):=by
 (try simp only [zR] at *)
 exact PG.imp (Vb hN hi hx hf) λ v σ H Q ⟨φ,A,ρ,w,ρ',S,re,q,e,k⟩=>by
   have e':ρ.set i (some w)=ρ':=Option.some.inj e;subst e';exact k _ (re.set q)
theorem yh {tg:Expr}(h:zz X xr e m):wG X xr tg e (qE m):=by
 (try simp only [zR] at *)
 exact PI.imp (Ew h) λ σ H Rr ⟨φ,A,ρ,S,re,h⟩=>by
  refine tM.go S re (zY.mp h) λ w A1 φ1 H1 v h1 l1 S1 q1=>?_;unfold Yt at h1;cases e:zO w A1 with
  | none=>rw [e] at h1;exact h1.elim
  | some ws=>
   rw [e] at h1;dsimp only at h1;cases w with
   | tup us=>
    obtain ⟨a,ys,rfl,e2,e3⟩:=q1;refine ⟨a,rfl,.inr ⟨⟨ys,e2⟩,h1 φ1 H1 _ l1 S1 λ i φ' H' A' lw S'=>⟨λ w' ew=>?_,λ ew=>?_⟩⟩⟩
    ·have ew':us[i]? =some w':=Option.some.inj ew
     obtain ⟨y,h3,h4⟩:=(e3.monoW lw).get ew';refine ⟨⟨ys,y,lw.tp _ _ e2,h3⟩,λ x H3 yl=>?_⟩;obtain ⟨e5,e6⟩:=yl;subst e5;have e7:=e6 ys (lw.tp _ _ e2);rw [h3] at e7;cases e7;exact ⟨.refl,S',h4⟩
    ·have ew':us[i]? =none:=Option.some.inj ew
     refine ⟨ys,lw.tp _ _ e2,?_⟩;rw [<- e3.length];exact List.getElem?_eq_none_iff.mp ew'
   | ref n=>
    obtain ⟨a,rfl,e2⟩:=q1;have read:∀{φ' H' A' us},gB X.K φ1 H1 φ' H'->zH X.K φ' A' H'->zO (.ref n) A'=some us->∃ys,je X.K H' a ys/\zD X.K φ' H' us ys:=λ {φ' H' A' us} lw S' es=>by
     obtain ⟨a',ys,ea,z,r⟩:=Ko (w:=.ref n) (v:=.ref a) S' ⟨a,rfl,lw.ex _ _ e2⟩ es;cases ea;unfold zO at es;dsimp only at es;cases ec:A'[n]? with
     | none=>rw [ec] at es;cases es
     | some o=>
      rw [ec] at es;obtain ⟨a',e3,r⟩:=S'.ob n o ec;rw [lw.ex _ _ e2] at e3;cases e3;cases o with
      | lst xs=>cases es;obtain ⟨ys,h1,h2⟩:=r;exact ⟨ys,je.of h1,h2⟩
      | ro xs=>cases es;obtain ⟨ys,h1,h2⟩:=r;exact ⟨ys,h1.sq,h2⟩
      | dct xs=>cases es
      | tab _ _=>cases es
    obtain ⟨ys0,hq0,_⟩:=read ⟨λ _ _ h=>h,λ _ _ h=>h,λ _ _ _ h=>h⟩ S1 e;refine ⟨a,rfl,.inl ⟨⟨ys0,hq0⟩,h1 φ1 H1 _ l1 S1 λ i φ' H' A' lw S'=>⟨λ w' ew=>?_,λ ew=>?_⟩⟩⟩
    ·dsimp only at ew
     cases es:zO (.ref n) A' with
     | none=>rw [es] at ew;cases ew
     | some us=>
      rw [es] at ew;have ew':us[i]? =some w':=Option.some.inj ew;obtain ⟨ys,hq,r⟩:=read lw S' es;obtain ⟨y,h3,h4⟩:=r.get ew';refine ⟨⟨ys,y,hq,h3⟩,λ x H3 yl=>?_⟩;obtain ⟨e5,e6⟩:=yl;subst e5;have e7:=e6 ys hq;rw [h3] at e7;cases e7;exact ⟨.refl,S',h4⟩
    ·dsimp only at ew
     cases es:zO (.ref n) A' with
     | none=>rw [es] at ew;cases ew
     | some us=>
      rw [es] at ew;have ew':us[i]? =none:=Option.some.inj ew;obtain ⟨ys,hq,r⟩:=read lw S' es;refine ⟨ys,hq,?_⟩;rw [<- r.length];exact List.getElem?_eq_none_iff.mp ew'
   | non=>cases e
   | bl _=>cases e
   | clo _ _ _=>cases e
   | xc _=>cases e
   | int _=>cases e
   | str _=>cases e
theorem XN {elts:List Expr}{kk:Nat}{tpos p:Pos}(hg:Gl X "enumerate")(hm:X.mg "enumerate" = none)(ha:zz X xr a ma)(hs:starEach [a] X.env=[(false,eval a X.env)]:=by rfl):wG X xr (.Tuple elts kk tpos) (.Call (.Name "enumerate" p) [a] [] pos) (ZZ ma):=by
 (try simp only [zR] at *)
 exact PI.imp (HV hg hm (jv ha j4 (by rw [hs];rfl)) hs) λ σ H Rr ⟨φ,A,ρ,S,re,h⟩=>by
   refine tM.go S re (zY.mp h) λ w A1 φ1 H1 v h1 l1 S1 q1=>?_;cases es:zO w A1 with
   | none=>rw [es] at h1;exact h1.elim
   | some ws=>
    rw [es] at h1;obtain ⟨p,ys,rfl,z1,z2⟩:=KD S1 q1 es;exact ⟨p,Z2 w,ys,rfl,z1,h1 φ1 H1 _ l1 S1 (DY q1)⟩
theorem jH {tg:Expr}{p:Pos}(hg:Gl X "range")(hm:X.mg "range" = none)(ha:zz X xr a ma)(hs:starEach [a] X.env=[(false,eval a X.env)]:=by rfl):wG X xr tg (.Call (.Name "range" p) [a] [] pos) (qZ ma):=by
 (try simp only [zR] at *)
 exact PI.imp (Mx hg hm (jv ha j4 (by rw [hs];rfl)) hs) λ σ H Rr ⟨φ,A,ρ,S,re,h⟩=>by
   refine tM.go S re (zY.mp h) λ w A1 φ1 H1 v h1 l1 S1 q1=>?_;cases w with
   | int j=>
    obtain rfl:=q1;dsimp only at h1
    by_cases hj:jI j=true
    ·rw [if_pos hj] at h1
     obtain ⟨b1,b2⟩:=Q6 hj;exact ⟨j,rfl,b1,b2,h1 φ1 H1 _ l1 S1 DO⟩
    ·rw [if_neg hj] at h1;exact h1.elim
   | non=>exact h1.elim
   | bl _=>exact h1.elim
   | str _=>exact h1.elim
   | tup _=>exact h1.elim
   | ref _=>exact h1.elim
   | clo _ _ _=>exact h1.elim
   | xc _=>exact h1.elim
theorem Ro {elts:List Expr}{kk:Nat}{tpos p:Pos}(hg:Gl X "zip")(hm:X.mg "zip" = none)(ha:zz X xr a ma)(hb:zz X xr b mb)(hs:starEach [a,b] X.env=(false,eval a X.env)::starEach [b] X.env:=by rfl)(hs2:starEach [b] X.env=(false,eval b X.env)::starEach [] X.env:=by rfl)(hp:(backTo pos (starEach [b] X.env)).any (·.1)=false:=by rfl):
  wG X xr (.Tuple elts kk tpos) (.Call (.Name "zip" p) [a,b] [] pos) (QD ma mb):=by
 (try simp only [zR] at *)
 exact PI.imp (DQ hg hm (jv ha (jv hb j4 hs2) hs) hs hp) λ σ H Rr ⟨φ,A,ρ,S,re,h⟩=>by
   refine tM.go S re (zY.mp h) λ w A1 φ1 H1 v h1 l1 S1 q1=>?_;refine tM.go S1 (re.mono l1) (qp (zY.mp h1) (λ _ _ z=>z) λ _ _ z=>z.mono l1) λ w2 A2 φ2 H2 v2 h2 l2 S2 q2=>?_;cases es:zO w A2 with
   | none=>rw [es] at h2;exact h2.elim
   | some us=>
    cases es':zO w2 A2 with
    | none=>rw [es,es'] at h2;exact h2.elim
    | some vs=>
     rw [es,es'] at h2;have q1':=q1.mono l2;obtain ⟨p,xs,rfl,z1,z2⟩:=KD S2 q1' es;obtain ⟨p',ys,rfl,z3,z4⟩:=KD S2 q2 es';exact ⟨p,p',Z2 w,Z2 w2,xs,ys,rfl,z1,z3,h2 φ2 H2 _ (l1.trans l2) S2 (Cg q1' q2)⟩
theorem qY {elt:Expr}{gens:List Comprehension}{sc:Scope}{d:Nat}{me:Ev}(hx:∀e s,X.xe e s->False)(he:zz X jT elt me)(hg:gens[d+1]? =none):ZF X elt gens sc pos d (zM me):=by
 (try simp only [zR] at *)
 exact ku.imp (Sw hx he hg) λ D σ H Q ⟨φ,A,ρ,acc,ys,S,re,hD,nD,ra,h⟩=>by
   refine tM.go S re (JY (zY.mp h)) λ w A1 φ1 H1 v h1 l1 S1 q1=>?_;obtain ⟨d1,n1⟩:=l1.off hD nD
   by_cases hz:acc.length<zZ
   ·rw [if_pos hz] at h1
    have hl:=ra.length;refine ⟨ys,d1,?_,?_⟩
    ·rw [<- hl]
     have:sizeLine=16777216:=sizeLine_eq
     unfold zZ at hz;omega
    ·exact h1 φ1 _ σ _ (l1.toD.trans (jZ.upd d1)) n1 (S1.off d1 n1) ⟨re.len,λ i w e=>let ⟨v,a,b⟩:=re.get i w e;⟨v,a,(b.mono l1).monoD (jZ.upd d1)⟩⟩ jy
      (((ra.mono l1).monoD (jZ.upd d1)).append (.one (q1.monoD (jZ.upd d1))))
   ·rw [if_neg hz] at h1;exact h1.elim
theorem Hj {elt tg iter:Expr}{ifs:List Expr}{gens:List Comprehension}{sc:Scope}{d:Nat}{mi:Ei}{tw:Tg}{mf:Ev}{em:Em}(hx:∀e s,X.xe e s->False)(hc:X.calm=true)(hg:gens[d+1]? =some ⟨tg,iter,ifs,0⟩)(ha:∀g',gens[d+2]? =some g'->g'.is_async=0)
  (hw:wG X jT tg iter mi)(hgt:w5 X tg tw)(hi:Zu X ifs mf)(hm:ZF X elt gens sc pos (d+1) em)(hs:∀x,foldedSetIterable iter X.env x=pure x:=by intro _;rfl):ZF X elt gens sc pos d (Jv mi tw mf em):=by
 (try simp only [zR] at *)
 exact ku.imp (LN hx hc hg ha hw hgt hi hm hs) λ D σ H Q ⟨φ,A,ρ,acc,ys,S,re,hD,nD,ra,h⟩=>by
   refine ⟨φ,A,ρ,S,re,qp (JY (zY.mp h)) (λ j A1 h1 φ1 H1 J l1 S1 jr=>?_) λ _ _ z=>z⟩;obtain ⟨d1,n1⟩:=l1.off hD nD;exact qI.read jr S1 (re.mono l1) d1 n1 (ra.mono l1) (qp h1 (λ p A2 h2 φ2 H2 σ2 zs l2 n2 S2 re2 d2 r2=>h2 φ2 H2 σ2 zs (l1.toD.trans l2) n2 S2 re2 d2 r2) λ _ _ z=>z)
theorem jP (h:zz X xr e m):gC X xr e (qb m):=by
 (try simp only [zR] at *)
 exact PE.imp h λ σ H Q ⟨φ,A,ρ,S,re,h⟩=>by
  refine tM.go S re (zY.mp h) λ w A1 φ1 H1 v h1 l1 S1 q1=>?_;cases e:zO w A1 with
  | none=>rw [e] at h1;exact h1.elim
  | some ws=>
   rw [e] at h1;obtain ⟨a,ys,rfl,e2,e3⟩:=Ko S1 q1 e;exact h1 φ1 H1 a ys l1 S1 e2 e3
theorem kG {q:jN}(h:QS X xr e q):gC X xr e q:=by
 (try simp only [zR] at *)
 exact PE.imp h λ σ H Q ⟨φ,A,ρ,S,re,h⟩=>
  ⟨φ,A,ρ,S,re,qp h (λ ws A1 h1 φ1 H1 D ys l1 S1 h0 hD nD r=>h1 φ1 H1 D ys l1 S1 (.inl (je.of hD)) r) λ _ _ z=>z⟩
theorem Sr {o i:Expr}{mo mi:Ev}{tpos:Pos}(ho:zz X xr o mo)(hi:zz X xr i mi)(he:zz X xr e m)
  (ha:∀ov iv new,augStore i ov iv new=(do holding [new,ov,iv] (setItem ov iv new);release [new,ov,iv] [];pure .next):=by intros;rfl):ka X xr (.AugAssign (.Subscript o i tpos) .Add e pos) (QA mo mi m):=by
 (try simp only [zR] at *)
 exact PS.imp (Ho ho hi L9 he EU set_list ha) λ D σ H ⟨φ,A,ρ,S,re,h⟩=>by
   refine tM.go S re (zY.mp h) λ w1 A1 φ1 H1 v1 h1 l1 S1 q1=>?_;refine tM.go S1 (re.mono l1) (qp (zY.mp h1) (λ _ _ z=>z) λ _ _ z=>z.mono l1) λ w2 A2 φ2 H2 v2 h2 l2 S2 q2=>?_;have l02:=l1.trans l2;cases w1 with
   | ref n=>cases w2 with
    | int k=>
     obtain rfl:=q2;dsimp only at h2
     by_cases h0:0<=k
     ·rw [if_pos h0] at h2
      cases e1:(A2[n]?:Option O) with
      | none=>rw [e1] at h2;exact h2.elim
      | some ob=>cases ob with
       | lst ws=>
        rw [e1] at h2;dsimp only at h2;obtain ⟨p,vs,rfl,f1,g1,r1⟩:=S2.lst (q1.mono l2) e1;cases e2:ws[k.toNat]? with
        | none=>rw [e2] at h2;exact h2.elim
        | some wx=>cases wx with
         | int x=>
          rw [e2] at h2;dsimp only at h2;obtain ⟨v,hv,rv⟩:=r1.get e2;obtain rfl:=rv;refine ⟨p,vs,k,_,rfl,rfl,h0,g1,hv,?_⟩;refine tM.go S2 (re.mono l02) (qp (zY.mp h2) (λ _ _ z=>z) λ _ _ z=>z.mono l02) λ w3 A3 φ3 H3 v3 h3 l3 S3 q3=>?_;have l03:=l02.trans l3;cases w3 with
          | int y=>
           obtain rfl:=q3;dsimp only at h3;refine ⟨x,y,rfl,rfl,?_⟩;refine Rw (K:=X.K) φ3 A3 H3 (.ref p) (.int k) (.int (x+y)) (.ref n) (.int k) (.int (x+y)) _ S3 ((q1.mono l2).mono l3) rfl rfl ?_;cases hr:yv (.ref n) (.int k) (.int (x+y)) A3 with
           | ok u A4=>
            rw [hr] at h3;exact λ φ4 H4 l4 S4=>h3 φ4 H4 σ (l03.trans l4) S4 (re.mono (l03.trans l4))
           | exc z A4=>exact absurd hr (R8 _ _ _ _ z A4)
           | bad=>rw [hr] at h3;exact h3.elim
          | _=>exact h3.elim
         | _=>rw [e2] at h2;exact h2.elim
       | _=>rw [e1] at h2;exact h2.elim
     ·rw [if_neg h0] at h2;exact h2.elim
    | _=>exact h2.elim
   | _=>cases w2<;>exact h2.elim
theorem zu (h1:ka X xr st m1)(h2:y0 X xr rest m2):y0 X xr (st::rest) (zq m1 m2):=by
 (try simp only [zR] at *)
 exact yn.imp (IY h1 h2) λ D σ H ⟨φ,A,ρ,S,re,h⟩=>by
   refine ⟨φ,A,ρ,S,re,qp (zY.mp h) (λ fl A1 h1=>?_) λ _ _ z=>z⟩;cases fl with
   | nx ρ1=>exact λ φ' H' σ' l S' r'=>⟨φ',A1,ρ1,S',r',qp h1 (λ _ _ z=>z.mono l) λ _ _ z=>z.mono l⟩
   | rt w=>exact h1
   | bk ρ1=>exact h1
   | ct ρ1=>exact h1
theorem kA (he:zz X xr e m)(hs:swapsWith e none pos.line X.env=pure false:=by rfl):ka X xr (.Expr e pos) (j0 m):=by
 (try simp only [zR] at *)
 exact PS.imp (HL he hs) λ D σ H ⟨φ,A,ρ,S,re,h⟩=>tM.go S re (zY.mp h) λ w A1 φ1 H1 v h1 l1 S1 q1=>h1 φ1 H1 σ l1 S1 (re.mono l1)
theorem gn {tg iter:Expr}{body:List Stmt}{mi:Ei}{tw:Tg}(hp:PassesOwn (model X.prog X.w) X.A X.env X.xe)(hc:X.calm=true)(hi:wG X xr tg iter mi)(hg:w5 X tg tw)(hb:y0 X xr body m1)
  (hs:∀x,foldedSetIterable iter X.env x=pure x:=by intro _;rfl):ka X xr (.For tg iter body [] pos) (yI mi tw m1):=by
 (try simp only [zR] at *)
 exact PS.imp (E9 hp hc hi hg hb hs) λ D σ H ⟨φ,A,ρ,S,re,h⟩=>by
   refine ⟨φ,A,ρ,S,re,qp (zY.mp h) (λ j A1 h1 φ1 H1 J l1 S1 jr=>?_) λ _ _ z=>z⟩;refine ⟨λ i f σ' H'=>P1 X.K xr j (turn tw m1) D φ1 H1 f i σ' H',
    ⟨j.len,φ1,A1,ρ,.refl,S1,re.mono l1,qp h1 (λ _ _ z=>z.mono l1) λ _ _ z=>z.mono l1⟩,?_⟩
   rintro i f σ2 H2 ⟨φ2,A2,ρ2,l2,S2,re2,h2⟩
   obtain ⟨j1,j2⟩:=jr i φ2 H2 A2 ⟨l2.ex,l2.tp,l2.fz⟩ S2;cases ej:j.at_ A2 i with
   | none=>cases f<;>(unfold jW at h2;rw [ej] at h2;exact h2.elim)
   | some o=>
    cases o with
    | none=>
     left
     refine ⟨j2 ej,?_⟩;cases f<;>(unfold jW at h2;rw [ej] at h2;exact h2 φ2 H2 σ2 .refl S2 re2)
    | some w=>
     right
     obtain ⟨go,yl⟩:=j1 w ej;cases f with
     | zero=>unfold jW at h2;rw [ej] at h2;exact h2.elim
     | succ f=>
      unfold jW at h2;rw [ej] at h2;refine ⟨go,λ σ' H'=>P1 X.K xr j (turn tw m1) D φ1 H1 f (i+1) σ' H',λ σ' H' z=>⟨f,lt_succ_self _,z⟩,λ x H3 y=>?_⟩;obtain ⟨l3,S3,q3⟩:=yl x H3 y;have h3:=zY.mp h2;unfold turn at h3;cases et:tw w ρ2 with
      | none=>rw [et] at h3;exact h3.elim
      | some ρ3=>
       rw [et] at h3;refine ⟨φ2,A2,ρ2,w,ρ3,S3,re2.mono l3,q3,et,λ σ3 re3=>?_⟩;refine ⟨φ2,A2,ρ3,S3,re3,qp h3 (λ fl A4 h4=>?_) λ _ _ z=>z.mono l3⟩;cases fl with
       | nx ρ4=>exact λ φ4 H4 σ4 l4 S4 re4=>⟨φ4,A4,ρ4,(l2.trans l3).trans l4,S4,re4,qp h4 (λ _ _ z=>z.mono (l3.trans l4)) λ _ _ z=>z.mono (l3.trans l4)⟩
       | ct ρ4=>exact λ φ4 H4 σ4 l4 S4 re4=>⟨φ4,A4,ρ4,(l2.trans l3).trans l4,S4,re4,qp h4 (λ _ _ z=>z.mono (l3.trans l4)) λ _ _ z=>z.mono (l3.trans l4)⟩
       | bk ρ4=>exact λ φ4 H4 σ4 l4 S4 re4=>h4 φ4 H4 σ4 (l3.trans l4) S4 re4
       | rt w4=>exact λ φ4 H4 v4 l4 S4 q4=>h4 φ4 H4 v4 (l3.trans l4) S4 q4
theorem jE {sa sb:List Stmt}(hc:ym X xr c mc)(ha:y0 X xr sa m1)(hb:y0 X xr sb m2):ka X xr (.If c sa sb pos) (qN mc m1 m2):=by
 (try simp only [zR] at *)
 exact PS.imp (CA hc ha hb) λ D σ H ⟨φ,A,ρ,S,re,h⟩=>by
   refine tT.go S re (zY.mp h) λ w A1 h1=>?_;cases w with
   | bl k=>
    refine ⟨k,rfl,λ φ1 H1 l1 S1=>?_⟩;cases k with
    | true=>rw [if_pos rfl];exact ⟨φ1,A1,ρ,S1,re.mono l1,qp h1 (λ _ _ z=>z.mono l1) λ _ _ z=>z.mono l1⟩
    | false=>rw [if_neg Bool.false_ne_true];exact ⟨φ1,A1,ρ,S1,re.mono l1,qp h1 (λ _ _ z=>z.mono l1) λ _ _ z=>z.mono l1⟩
   | non=>cases h1
   | int _=>cases h1
   | str _=>cases h1
   | tup _=>cases h1
   | ref _=>cases h1
   | clo _ _ _=>cases h1
   | xc _=>cases h1
theorem zK:y0 X xr [] zA:=by
 (try simp only [zR] at *)
 exact yn.imp FO λ D σ H ⟨φ,A,ρ,S,re,h⟩=>h φ H σ .refl S re
theorem qw (he:zz X xr e m):ka X xr (.Return (some e) pos) (qk m):=by
 (try simp only [zR] at *)
 exact PS.imp (DM he) λ D σ H ⟨φ,A,ρ,S,re,h⟩=>tM.go S re (zY.mp h) λ w A1 φ1 H1 v h1 l1 S1 q1=>h1 φ1 H1 v l1 S1 q1
theorem qx (i:Nat){x:Str}{pos':Pos}(hN:X.N.Nodup)(he:zz X xr e m)(hi:X.N[i]? =some x:=by rfl)(hx:Loc X.env.scope x:=by first | exact Or.inl rfl | exact Or.inr rfl)(hs:swapsWith e (some (.Name x pos')) pos.line X.env=pure false:=by rfl)
  (hf:X.fn x=true∨X.env.scope.names.lookup x=some .local:=by first | exact .inl rfl | exact .inr rfl):ka X xr (.Assign [.Name x pos'] e pos) (zQ i m):=by
 (try simp only [zR] at *)
 exact PS.imp (EH hN hi hx he hs hf) zQ.read
theorem Kf (i:Nat){x:Str}{elt tg iter:Expr}{ifs:List Expr}{gs:List Comprehension}{sc:Scope}{mi:Ei}{tw:Tg}{mf:Ev}{em:Em}{N:List Str}{px spos:Pos}(nl:Nat)(cap:List Nat)(hN:X.N.Nodup)
  (hc:X.calm=true)(S:gN X sc)(hcap:Z1 X.N N sc nl cap=true)(hw:wG X xr tg iter mi)
  (hin:∀s H fp,w5 (jq X N sc s H fp jJ) tg tw/\Zu (jq X N sc s H fp jJ) ifs mf/\ZF (jq X N sc s H fp jJ) elt (⟨tg,iter,ifs,0⟩::gs) sc pos 0 em)
  (hi':X.N[i]? =some x:=by rfl)(hx:X.env.scope.names.lookup x=some .local:=by rfl)
  (hsw:swapsWith (.ListComp elt (⟨tg,iter,ifs,0⟩::gs) sc pos) (some (.Name x px)) spos.line X.env=pure true:=by rfl)
  (ha:∀g',gs[0]? =some g'->g'.is_async=0:=by intro _ h;cases h<;>rfl)
  (hs:∀x,foldedSetIterable iter X.env x=pure x:=by intro _;rfl):ka X xr (.Assign [.Name x px] (.ListComp elt (⟨tg,iter,ifs,0⟩::gs) sc pos) spos) (zQ i (qm (zU nl cap mi tw mf em))):=by
 (try simp only [zR] at *)
 exact PS.imp (L2.NY (g:=tG X.K tw) (ti:=tT X.K jT mf) (tm:=tE X.K em) hN hi' hx hsw hc S hcap ha hw hin hs) λ D σ H h=>zU.read σ H _ (qm.read σ H _ (zQ.read D σ H h))
theorem KJ (h:gD X xr e m):ym X xr e m:=by
 (try simp only [zR] at *)
 exact PW.pt h
theorem j7 {op:CmpOp}{g:W->W->Hx->R W}(h:wu X op g)(ha:zz X xr a ma)(hb:zz X xr b mb)(h1:op≠.In:=by decide)(h2:op≠.NotIn:=by decide):ym X xr (.Compare a [op] [b] pos) (zo g ma mb):=by
 (try simp only [zR] at *)
 exact let ⟨r,a1,a2,a3⟩:=h.ex;Pa a1 a2 a3 ha hb (h.mks b h1 h2)
theorem DA {op op':CmpOp}{g g':W->W->Hx->R W}(h:wu X op g)(h':wu X op' g')(ha:zz X xr a ma)(hb:zz X xr b mb)(hc:zz X xr c mc)(hm:lastMarks [op,op'] [b,c]=false:=by with_unfolding_all rfl):
  ym X xr (.Compare a [op,op'] [b,c] pos) (yB g g' ma mb mc):=by
 (try simp only [zR] at *)
 exact let ⟨r,a1,a2,a3⟩:=h.ex;let ⟨r',b1,b2,b3⟩:=h'.ex;LI a1 a2 a3 b1 b2 b3 ha hb hc hm
theorem E8 {op:CmpOp}{g:W->W->Hx->R W}(h:Uh X op g)(ha:zz X xr a ma)(hb:zz X xr b mb)(hm:behindInMarks op b=false:=by rfl):ym X xr (.Compare a [op] [b] pos) (zo g ma mb):=by
 (try simp only [zR] at *)
 exact let ⟨r,a1,a2,a3⟩:=h.ex;Pa a1 a2 a3 ha hb hm
theorem gq (ha:ym X xr a ma):ym X xr (.UnaryOp .Not a pos) (jM ma):=by
 (try simp only [zR] at *)
 exact PT.imp (Dp ha) λ σ H Q ⟨φ,A,ρ,S,re,h⟩=>by
   refine tT.go S re (zY.mp h) λ w A1 h1=>?_;cases w with
   | bl k=>obtain ⟨b,e,q⟩:=h1;cases e;exact ⟨k,rfl,λ φ1 H1 l1 S1=>q φ1 H1 l1 S1⟩
   | non=>cases h1
   | int _=>cases h1
   | str _=>cases h1
   | tup _=>cases h1
   | ref _=>cases h1
   | clo _ _ _=>cases h1
   | xc _=>cases h1
theorem wk (h:zz X xr e m)(he:∀whole,isTrue e X.env whole=(do let v <- whole;standAt e.pos;holding [v] (truthy v)):=by intro _;rfl):ym X xr e m:=by
 (try simp only [zR] at *)
 exact PT.imp (F9 h he) λ σ H Q h=>h.toM
theorem jg:Zu X [] (zi (.bl true)):=by
 (try simp only [zR] at *)
 exact Mi.Rl
theorem KH (h:ym X jT c mc):Zu X [c] mc:=by
 (try simp only [zR] at *)
 exact Ic h
theorem FP {rest:List Expr}(ha:ym X xr a ma)(hb:gD X xr (.BoolOp .And (b::rest) pos) mb):gD X xr (.BoolOp .And (a::b::rest) pos) (kq ma mb):=by
 (try simp only [zR] at *)
 exact PW.imp (pw_and ha hb) λ σ H Q ⟨φ,A,ρ,S,re,h⟩=>by
   refine tT.go S re (zY.mp h) λ w A1 h1=>?_;cases w with
   | bl k=>
    refine ⟨k,rfl,λ φ1 H1 l1 S1=>?_⟩;cases k with
    | true=>rw [if_pos rfl];exact tT.mono S1 l1 re h1
    | false=>rw [if_neg Bool.false_ne_true];obtain ⟨b,e,q⟩:=h1;cases e;exact q φ1 H1 l1 S1
   | non=>cases h1
   | int _=>cases h1
   | str _=>cases h1
   | tup _=>cases h1
   | ref _=>cases h1
   | clo _ _ _=>cases h1
   | xc _=>cases h1
theorem IC (ha:ym X xr a ma):gD X xr (.BoolOp .And [a] pos) ma:=by
 (try simp only [zR] at *)
 exact pw_and1 ha
theorem Vz {rest:List Expr}(ha:ym X xr a ma)(hb:gD X xr (.BoolOp .Or (b::rest) pos) mb):gD X xr (.BoolOp .Or (a::b::rest) pos) (wF ma mb):=by
 (try simp only [zR] at *)
 exact PW.imp (pw_or ha hb) λ σ H Q ⟨φ,A,ρ,S,re,h⟩=>by
   refine tT.go S re (zY.mp h) λ w A1 h1=>?_;cases w with
   | bl k=>
    refine ⟨k,rfl,λ φ1 H1 l1 S1=>?_⟩;cases k with
    | false=>rw [if_neg Bool.false_ne_true];exact tT.mono S1 l1 re h1
    | true=>rw [if_pos rfl];obtain ⟨b,e,q⟩:=h1;cases e;exact q φ1 H1 l1 S1
   | non=>cases h1
   | int _=>cases h1
   | str _=>cases h1
   | tup _=>cases h1
   | ref _=>cases h1
   | clo _ _ _=>cases h1
   | xc _=>cases h1
theorem X8 (ha:ym X xr a ma):gD X xr (.BoolOp .Or [a] pos) ma:=by
 (try simp only [zR] at *)
 exact pw_or1 ha
theorem ye {P:Program}{w:World}{K:Frag}{mg:Str->Option Value}{base:Heap}{x:Str}{st:Stmt}{f:Addr}{fd:FuncData}{N ps:List Str}{k:Nat}{m:Ex}(F:qO K x x st f fd)(hm:mg x=some (.ref f))(S:q9 N ps (qf st))
  (hb:∀(kV doc pm:Value) (an:Option Addr) (cdv ct:Value) (us:List Value),us.length=ps.length->bindArgs (PySem.W.fnOf x x (Zm st) (yc st) (qf st) .none kV doc pm an cdv ct) ⟨us,[]⟩=pure (ps.zip us))
  (hbody:∀(cdv:Value) (A:Around) (outer:List Env) (s:Shared) (H:Hp) (E:XK),ju k (A.deeper (envOfC x (qf st) s.heap.objs.size f cdv))->y0 (kI kO P w K mg base N x (qf st) f cdv A outer s H E).nox jT (yc st) m):
  zE P w K mg base (k+1) x ps.length (qg N.length m):=by
 (try simp only [zR] at *)
 refine ⟨f,fd,ps,?_,hm,F.kp,F.binds hb⟩;refine F.ok S (λ vs H Q E h=>h.len) λ cdv A outer s H vs Q E hr ⟨hl,φ,A1,ws,Sm,r,h⟩=>⟨_,hbody cdv A outer s H E hr,?_⟩;refine ⟨φ,A1,ws.map some++List.replicate (N.length - ws.length) none,Sm,RE.start r,?_⟩;have h':=zY.mp h;show R.post _ (FB K φ H _) _;cases er:m (ws.map some++List.replicate (N.length - ws.length) none) A1 with
 | ok fl A2=>
  rw [er] at h';cases fl with
  | rt w=>exact h'
  | nx ρ=>exact λ φ' H' σ' l S' _=>h' φ' H' .non l S' rfl
  | bk ρ=>exact h'.elim
  | ct ρ=>exact h'.elim
 | exc y A2=>
  rw [er] at h';exact h'.elim
 | bad=>rw [er] at h';exact h'.elim
theorem Bh {P:Program}{w:World}{K:Frag}{mg:Str->Option Value}{base:Heap}{x:Str}{st:Stmt}{f:Addr}{fd:FuncData}{N ps:List Str}{k:Nat}{m:Ex}(F:qO K x x st f fd)(S:q9 N ps (qf st))
  (hbody:∀(cdv:Value) (A:Around) (outer:List Env) (s:Shared) (H:Hp) (E:XK),ju k (A.deeper (envOfC x (qf st) s.heap.objs.size f cdv))->y0 (kI kO P w K mg base N x (qf st) f cdv A outer s H E).nox jT (yc st) m):
  yk P w K mg base kO (k+1) f fd ps (gF K ps.length (qg N.length m)):=by
 (try simp only [zR] at *)
 refine F.ok S (λ vs H Q E h=>h.len) λ cdv A outer s H vs Q E hr ⟨hl,φ,A1,ws,Sm,r,h⟩=>⟨_,hbody cdv A outer s H E hr,?_⟩;refine ⟨φ,A1,ws.map some++List.replicate (N.length - ws.length) none,Sm,RE.start r,?_⟩;have h':=zY.mp h;show R.post _ (FB K φ H _) _;cases er:m (ws.map some++List.replicate (N.length - ws.length) none) A1 with
 | ok fl A2=>
  rw [er] at h';cases fl with
  | rt w=>exact h'
  | nx ρ=>exact λ φ' H' σ' l S' _=>h' φ' H' .non l S' rfl
  | bk ρ=>exact h'.elim
  | ct ρ=>exact h'.elim
 | exc y A2=>rw [er] at h';exact h'.elim
 | bad=>rw [er] at h';exact h'.elim
theorem Vk {p:Pos}(hm:X.mg "abs" = none)(ha:zz X xr e m)(hgl:Gl X "abs" := by rfl)(he:starEach [e] X.env=(false,eval e X.env)::starEach [] X.env:=by rfl):zz X xr (.Call (.Name "abs" p) [e] [] pos) (jO Yz m):=by
 (try simp only [zR] at *)
 exact D5 Il (λ w A=>by unfold Yz;split;exact j6;exact jc) (λ φ A H x u Q S q p=>by
   cases u with
   | int i=>obtain rfl:=q;exact ⟨i,rfl,p φ H _ .refl S rfl⟩
   | _=>exact p.elim) hm (by rfl) ha hgl (by decide) (by decide) he (by rfl)
theorem ZL {apos cpos:Pos}(ho:zz X xr a ma)(he:zz X xr b mb)(hs:starEach [b] X.env=(false,eval b X.env)::starEach [] X.env:=by rfl)
  (hbase:attributeBase a "append" X.env (eval a X.env)=eval a X.env:=by rfl)
  (hfew:((backTo cpos (starEach [b] X.env)).all (λ x=>!x.1)&&(backToKw cpos (keywordEach [] X.env)).all (λ x=>x.1.isSome)
   && decide ([b].length+([]:List Keyword).length+(if ([]:List Keyword).isEmpty then 0 else 1)<30))=true:=by rfl)(hline:(apos.endLine==cpos.line)=true:=by rfl):
  zz X xr (.Call (.Attribute a "append" apos) [b] [] cpos) (j5 yA ma mb):=by
 (try simp only [zR] at *)
 exact VL PySem.F.slot_list_append PySem.F.type_list_append Tv M0 (λ φ A H x y u v Q S q1 q2 p=>by
   unfold yA at p;cases u with
   | ref n=>
    dsimp only at p;cases e1:A[n]? with
    | none=>rw [e1] at p;exact p.elim
    | some o=>cases o with
     | lst ws=>
      rw [e1] at p;dsimp only at p
      by_cases hz:ws.length<zZ
      ·rw [if_pos hz] at p
       obtain ⟨l,vs,rfl,f1,g1,r1⟩:=S.lst q1 e1;refine ⟨l,vs,y,rfl,rfl,g1,?_,?_⟩
       ·rw [<- r1.length]
        have:sizeLine=16777216:=sizeLine_eq
        unfold zZ at hz;omega
       ·have ln:Le X.K φ H φ (upd H l (.lst (vs++[y]))):=Le.upd f1 (λ xs z=>by rw [g1] at z;cases z) (λ _ _ z=>by rw [g1] at z;cases z)
        obtain ⟨w1,w2⟩:=S.write (o:=.lst ws) (o':=.lst (ws++[v])) e1 rfl rfl f1 ⟨_,jy,(r1.mono ln).append (.one (q2.mono ln))⟩;exact p _ _ _ w1 w2 rfl
      ·rw [if_neg hz] at p;exact p.elim
     | _=>rw [e1] at p;exact p.elim
   | _=>exact p.elim) ho he hs hbase hfew hline
theorem JV {p:Pos}(hm:X.mg "int" = none)(ha:zz X xr e m)(hgl:Gl X "int" := by rfl)(he:starEach [e] X.env=(false,eval e X.env)::starEach [] X.env:=by rfl):zz X xr (.Call (.Name "int" p) [e] [] pos) (jO QI m):=by
 (try simp only [zR] at *)
 exact EL M7 (λ w A=>by unfold QI;split;exact j6;exact j6;exact jc) (λ φ A H x u Q S q p=>by
   cases u with
   | int i=>obtain rfl:=q;exact .inl ⟨i,rfl,p φ H _ .refl S rfl⟩
   | bl k=>obtain rfl:=q;exact .inr ⟨k,rfl,p φ H _ .refl S rfl⟩
   | _=>exact p.elim) hm (by rfl) ha hgl (by decide) (by decide) he (by rfl)
theorem LX {p:Pos}(hc:X.calm=true)(hm:X.mg "max" = none)(ha:zz X xr a ma)(hb:zz X xr b mb)(hgl:Gl X "max" := by rfl)(h1:starEach [a,b] X.env=(false,eval a X.env)::starEach [b] X.env:=by rfl)(h2:starEach [b] X.env=(false,eval b X.env)::starEach [] X.env:=by rfl)(hpl:(backTo pos (starEach [b] X.env)).any (·.1)=false:=by rfl):
  zz X xr (.Call (.Name "max" p) [a,b] [] pos) (zo V5 ma mb):=by
 (try simp only [zR] at *)
 exact VN (MB hc) ZY (λ φ A H x y u v Q S q1 q2 p=>by
   obtain ⟨i,j,e1,e2,q⟩:=ZU (K:=X.K) (f:=λ i j=>.int (if j > i then j else i)) (g:=λ i j=>.int (if j > i then j else i)) (λ _ _ _ _=>rfl) φ A H x y u v Q S q1 q2 p;subst e1;subst e2;exact ⟨i,j,rfl,q⟩) hm (by rfl) ha hb hgl (by decide) (by decide) h1 h2 hpl
theorem M1 {apos cpos:Pos}(ho:zz X xr a ma)(he:zz X xr b mb)(hs:starEach [b] X.env=(false,eval b X.env)::starEach [] X.env:=by rfl)
  (hbase:attributeBase a "pop" X.env (eval a X.env)=eval a X.env:=by rfl)
  (hfew:((backTo cpos (starEach [b] X.env)).all (λ x=>!x.1)&&(backToKw cpos (keywordEach [] X.env)).all (λ x=>x.1.isSome)
   && decide ([b].length+([]:List Keyword).length+(if ([]:List Keyword).isEmpty then 0 else 1)<30))=true:=by rfl)(hline:(apos.endLine==cpos.line)=true:=by rfl):
  zz X xr (.Call (.Attribute a "pop" apos) [b] [] cpos) (j5 gQ ma mb):=by
 (try simp only [zR] at *)
 exact VL PySem.F.slot_list_pop PySem.F.type_list_pop IM IW (λ φ A H x y u v Q S q1 q2 p=>by
   unfold gQ at p;cases u with
   | ref n=>cases v with
    | int i=>
     obtain rfl:=q2;dsimp only at p;cases e1:A[n]? with
     | none=>rw [e1] at p;exact p.elim
     | some o=>cases o with
      | lst ws=>
       rw [e1] at p;dsimp only at p
       by_cases hz:jI i=true
       ·rw [if_pos hz] at p
        obtain ⟨b1,b2⟩:=Q6 hz;cases e2:seqIndex? i ws.length with
        | none=>rw [e2] at p;exact p.elim
        | some k=>
         rw [e2] at p;dsimp only at p;cases e3:ws[k]? with
         | none=>rw [e3] at p;exact p.elim
         | some w=>
          rw [e3] at p;obtain ⟨l,vs,rfl,f1,g1,r1⟩:=S.lst q1 e1;obtain ⟨y,h1,h2⟩:=r1.get e3;have ln:Le X.K φ H φ (upd H l (.lst (vs.eraseIdx k))):=Le.upd f1 (λ xs z=>by rw [g1] at z;cases z) (λ _ _ z=>by rw [g1] at z;cases z)
          obtain ⟨w1,w2⟩:=S.write (o:=.lst ws) (o':=.lst (ws.eraseIdx k)) e1 rfl rfl f1 ⟨_,jy,(r1.erase k).mono ln⟩;exact ⟨l,vs,i,k,y,rfl,rfl,g1,by omega,by omega,by rw [<- r1.length];exact e2,h1,p _ _ _ w1 w2 (h2.mono w1)⟩
       ·rw [if_neg hz] at p;exact p.elim
      | _=>rw [e1] at p;exact p.elim
    | _=>exact p.elim
   | _=>cases v<;>exact p.elim) ho he hs hbase hfew hline
theorem K1 (ha:zz X xr a ma)(hb:zz X xr b mb):zz X xr (.BinOp a .Pow b pos) (zo Z4 ma mb):=by
 (try simp only [zR] at *)
 exact Qp EN Uc (VA HS λ _ _ _ _=>rfl) ha hb
theorem Ji {x j}:zz X xr (.Constant (.str x) j pos) (zi (.str x)):=by
 (try simp only [zR] at *)
 exact PE.imp EE λ σ H Q ⟨φ,A,ρ,S,r,h⟩=>h φ H _ .refl S rfl
theorem Rj (ha:zz X xr a ma)(hb:zz X xr b mb):zz X xr (.BinOp a .BitXor b pos) (zo Ur ma mb):=by
 (try simp only [zR] at *)
 exact Qp EZ ZY (ZU λ _ _ _ _=>rfl) ha hb
theorem XT {p:Pos}{q:jN}(hm:X.mg "list" = none)(ha:gC X xr e q)(hg:Gl X "list" := by rfl)(he:starEach [e] X.env=(false,eval e X.env)::starEach [] X.env:=by rfl):
  zz X xr (.Call (.Name "list" p) [e] [] pos) (qm q):=by
 (try simp only [zR] at *)
 exact PE.imp (Q9 Nq hg hm (by rfl) (jv ha j4 he) (by decide) (by decide) he (by rfl)) λ σ H Q ⟨φ,A,ρ,S,re,h⟩=>by
   refine ⟨φ,A,ρ,S,re,qp (zY.mp h) (λ ws A1 h1 φ1 H1 a ys l1 S1 z r=>?_) λ _ _ z=>z⟩;refine ⟨a,ys,rfl,z,λ l hl=>?_⟩;obtain ⟨a1,a2,a3⟩:=Qs S1 hl r;exact h1 _ _ _ (l1.trans a1) a2 a3
theorem Jg {o i:Expr}{mo mi:Ev}{tpos:Pos}(he:zz X xr e m)(ho:zz X xr o mo)(hi:zz X xr i mi)
  (hs:swapsWithSole [.Subscript o i tpos] e pos.line X.env=pure false:=by rfl)(hw:swappedStores [.Subscript o i tpos] e X.env=pure none:=by rfl)
  (h1:(assignEach [.Subscript o i tpos] X.env).map (·.2)=[assign (.Subscript o i tpos) X.env]:=by rfl)
  (ha:∀v,assign (.Subscript o i tpos) X.env v=(do
   let ov <- holding [v] (eval o X.env)
   let iv <- holding [v,ov] (eval i X.env)
   standAt tpos
   holding [v,ov,iv] (setItem ov iv v)
   release [v,ov,iv] []):=by intro _;rfl):ka X xr (.Assign [.Subscript o i tpos] e pos) (kW yv m mo mi):=by
 (try simp only [zR] at *)
 exact Iq set_list R8 Rw he ho hi hs hw h1 ha
theorem My (f:Nat){body:List Stmt}(hp:PassesOwn (model X.prog X.w) X.A X.env X.xe)(hc:ym X xr c mc)(hb:y0 X xr body m1):ka X xr (.While c body [] pos) (Vr f mc m1):=by
 (try simp only [zR] at *)
 exact PS.imp (LF hp hc hb) λ D σ H ⟨φ,A,ρ,S,re,h⟩=>by
   refine ⟨λ f σ' H'=>∃φ2 A2 ρ2,Le X.K φ H φ2 H'/\zH X.K φ2 A2 H'/\RE X.K φ2 H' ρ2 σ'/\(Zt mc m1 f ρ2 A2).post (FB X.K φ2 H' D) (EB X.K φ2 H' xr),⟨f,φ,A,ρ,.refl,S,re,h⟩,?_⟩
   rintro f σ2 H2 ⟨φ2,A2,ρ2,l2,S2,re2,h2⟩
   cases f with
   | zero=>exact h2.elim
   | succ f=>
    unfold Zt at h2;refine tT.go S2 re2 (zY.mp h2) λ w A3 h3=>?_;cases w with
    | bl k=>
     refine ⟨k,rfl,λ φ3 H3 l3 S3=>?_⟩;cases k with
     | true=>
      rw [if_pos rfl];refine ⟨λ σ' H'=>∃φ2 A2 ρ2,Le X.K φ H φ2 H'/\zH X.K φ2 A2 H'/\RE X.K φ2 H' ρ2 σ'/\(Zt mc m1 f ρ2 A2).post (FB X.K φ2 H' D) (EB X.K φ2 H' xr),λ σ' H' z=>⟨f,lt_succ_self _,z⟩,?_⟩;refine ⟨φ3,A3,ρ2,S3,re2.mono l3,qp (zY.mp h3) (λ fl A4 h4=>?_) λ _ _ z=>z.mono l3⟩;cases fl with
      | nx ρ4=>exact λ φ4 H4 σ4 l4 S4 re4=>⟨φ4,A4,ρ4,(l2.trans l3).trans l4,S4,re4,qp h4 (λ _ _ z=>z.mono (l3.trans l4)) λ _ _ z=>z.mono (l3.trans l4)⟩
      | ct ρ4=>exact λ φ4 H4 σ4 l4 S4 re4=>⟨φ4,A4,ρ4,(l2.trans l3).trans l4,S4,re4,qp h4 (λ _ _ z=>z.mono (l3.trans l4)) λ _ _ z=>z.mono (l3.trans l4)⟩
      | bk ρ4=>exact λ φ4 H4 σ4 l4 S4 re4=>h4 φ4 H4 σ4 (l3.trans l4) S4 re4
      | rt w4=>exact λ φ4 H4 v4 l4 S4 q4=>h4 φ4 H4 v4 (l3.trans l4) S4 q4
     | false=>
      rw [if_neg Bool.false_ne_true];exact h3 φ3 H3 σ2 l3 S3 (re2.mono l3)
    | non=>cases h3
    | int _=>cases h3
    | str _=>cases h3
    | tup _=>cases h3
    | ref _=>cases h3
    | clo _ _ _=>cases h3
    | xc _=>cases h3
end
end Mi
set_option maxHeartbeats 400000
namespace Mi
open PySem L2
section
variable {ρ ρ1 ρ2:En}{A A1 A2 A3:Hx}{w x y z:W}{m ma mb mc:Ev}{m1 m2:Ex}{i n:Nat}{f:Fn}{ws:List W}{fl:Fl}
theorem zt (h:ρ[i]? =some (some w)):zc i ρ A=.ok w A:=by unfold zc;rw [h]
theorem qR:zi w ρ A=.ok w A:=rfl
theorem zN {g:W->W->Hx->R W}(h1:ma ρ A=.ok x A1)(h2:mb ρ A1=.ok y A2):zo g ma mb ρ A=g x y A2:=by unfold zo;rw [h1,zL,h2,zL]
theorem kh {k:Bool}(h:ma ρ A=.ok (.bl k) A1):jM ma ρ A=.ok (.bl (!k)) A1:=by unfold jM;rw [h,zL]
theorem Zn (h:ma ρ A=.ok (.bl true) A1):kq ma mb ρ A=mb ρ A1:=by unfold kq;rw [h,zL]
theorem Qq (h:ma ρ A=.ok (.bl false) A1):kq ma mb ρ A=.ok (.bl false) A1:=by unfold kq;rw [h,zL]
theorem Pn (h:ma ρ A=.ok (.bl true) A1):wF ma mb ρ A=.ok (.bl true) A1:=by unfold wF;rw [h,zL]
theorem Yn (h:ma ρ A=.ok (.bl false) A1):wF ma mb ρ A=mb ρ A1:=by unfold wF;rw [h,zL]
theorem zX {a:Ea}(h:a ρ A=.ok ws A1):zF f a ρ A=f ws A1:=by unfold zF;rw [h,zL]
theorem qa:zp ρ A=.ok [] A:=rfl
theorem zG {r:Ea}(h1:ma ρ A=.ok x A1)(h2:r ρ A1=.ok ws A2):zh ma r ρ A=.ok (x::ws) A2:=by unfold zh;rw [h1,zL,h2,zL]
theorem Vm {a:Ea}(h:a ρ A=.ok ws A1):zC a ρ A=.ok (.tup ws) A1:=by unfold zC;rw [h,zL]
theorem jU {a:Ea}(h:a ρ A=.ok ws A1):zV a ρ A=.ok (.ref A1.length) (A1++[.lst ws]):=by unfold zV;rw [h,zL]
theorem zI (h:m1 ρ A=.ok (.nx ρ1) A1):zq m1 m2 ρ A=m2 ρ1 A1:=by unfold zq;rw [h,zL]
theorem qu (h:m1 ρ A=.ok (.rt w) A1):zq m1 m2 ρ A=.ok (.rt w) A1:=by unfold zq;rw [h,zL]
theorem jD:zA ρ A=.ok (.nx ρ) A:=rfl
theorem qL (h:m ρ A=.ok w A1):zQ i m ρ A=.ok (.nx (ρ.set i (some w))) A1:=by unfold zQ;rw [h,zL]
theorem yV (h:m ρ A=.ok w A1):j0 m ρ A=.ok (.nx ρ) A1:=by unfold j0;rw [h,zL]
theorem jb (h:m ρ A=.ok w A1):qk m ρ A=.ok (.rt w) A1:=by unfold qk;rw [h,zL]
theorem kX (h:mc ρ A=.ok (.bl true) A1):qN mc m1 m2 ρ A=m1 ρ A1:=by unfold qN;rw [h,zL]
theorem yd (h:mc ρ A=.ok (.bl false) A1):qN mc m1 m2 ρ A=m2 ρ A1:=by unfold qN;rw [h,zL]
theorem wL {mi:Ei}{tw:Tg}{j:jx}(h:mi ρ A=.ok j A1):yI mi tw m1 ρ A=jW j (turn tw m1) j.len 0 ρ A1:=by unfold yI;rw [h,zL]
theorem wg {tw:Tg}(h:tw w ρ=some ρ1):turn tw m1 w ρ A=m1 ρ1 A:=by unfold turn;rw [h]
theorem Tf {j:jx}{st:W->Ex}(h:j.at_ A i=some none):jW j st n i ρ A=.ok (.nx ρ) A:=by
 cases n with
 | zero=>unfold jW;rw [h]
 | succ n=>unfold jW;rw [h]
theorem Su {j:jx}{st:W->Ex}(h:j.at_ A i=some (some w))(hs:st w ρ A=.ok (.nx ρ1) A1):jW j st (n+1) i ρ A=jW j st n (i+1) ρ1 A1:=by
 rw [jW,h];dsimp only;rw [hs,zL]
theorem Hc {j:jx}{st:W->Ex}(h:j.at_ A i=some (some w))(hs:st w ρ A=.ok (.rt x) A1):jW j st (n+1) i ρ A=.ok (.rt x) A1:=by
 rw [jW,h];dsimp only;rw [hs,zL]
theorem Zl {k:Int}(h:m ρ A=.ok (.int k) A1)(hk:jI k=true):qZ m ρ A=.ok (yO 0 k.toNat) A1:=by unfold qZ;rw [h,zL];dsimp only;rw [if_pos hk]
theorem gr {lo:Int}{k:Nat}(h:i<k):(yO lo k).at_ A i=some (some (.int (lo+i))):=by unfold yO;dsimp only;rw [if_pos h]
theorem gk {lo:Int}{k:Nat}(h:¬i<k):(yO lo k).at_ A i=some none:=by unfold yO;dsimp only;rw [if_neg h]
theorem ja (h:m1 (ws.map some++List.replicate (n - ws.length) none) A=.ok (.rt w) A1):qg n m1 ws A=.ok w A1:=by unfold qg;rw [h];rfl
theorem ZV {w:W}(hn:jk ws=true)(hw:w.nr=true)(h:f ws []=.ok w A1):iso f ws A=.ok w A:=by
 unfold iso;rw [if_pos hn,h];cases w with
 | ref k=>cases hw
 | _=>dsimp only;rw [if_pos hw]
end
end Mi
set_option maxHeartbeats 400000
namespace Mi
open PySem L2
theorem IG {j:jx}{ifs me:Ev}{c:En}{A:Hx}{N:Nat}{item g:Nat->W}{keep:Nat->Bool}(hat:∀i,i<N->j.at_ A i=some (some (item i)))(hend:j.at_ A N=some none)
  (hi:∀i,i<N->ifs (some (item i)::c) A=.ok (.bl (keep i)) A)(he:∀i,i<N->keep i=true->me (some (item i)::c) A=.ok (g i) A):
  ∀(n i:Nat) (x:Option W) (acc:List W),i+n=N->acc.length+n<=zZ->∃y,qI j (zJ 0) ifs (zM me) n i (x::c) acc A=.ok (y::c,acc++((List.range' i n).filter keep).map g) A:=by
 intro n
 induction n with
 | zero=>
  intro i x acc h _
  have:i=N:=by omega
  subst this;refine ⟨x,?_⟩;unfold qI;rw [hend];simp
 | succ n ih=>
  intro i x acc h hl;have hlt:i<N:=by omega
  rw [qI,hat i hlt];dsimp only [zJ,List.set];rw [hi i hlt,zL];rw [range'_succ];cases hk:keep i with
  | true=>
   dsimp only;obtain ⟨y,e⟩:=ih (i+1) (some (item i)) (acc++[g i]) (by omega) (by rw [length_append,length_singleton];omega)
   refine ⟨y,?_⟩;have ee:zM me (some (item i)::c) acc A=.ok (some (item i)::c,acc++[g i]) A:=by
    unfold zM;rw [he i hlt hk,zL,if_pos (by omega)]
   rw [ee,zL];dsimp only;rw [e,List.filter_cons_of_pos hk,map_cons,append_assoc]
   rfl
  | false=>
   dsimp only;obtain ⟨y,e⟩:=ih (i+1) (some (item i)) acc (by omega) (by omega)
   exact ⟨y,by rw [e,List.filter_cons_of_neg (by rw [hk];exact Bool.false_ne_true)]⟩
theorem Xm {cap:List Nat}{mi:Ei}{j:jx}{ifs me:Ev}{ρ:En}{A:Hx}{N:Nat}{item g:Nat->W}{keep:Nat->Bool}(hm:mi ρ A=.ok j A)(hj:j.len=N)(hN:N<=zZ)
  (hat:∀i,i<N->j.at_ A i=some (some (item i)))(hend:j.at_ A N=some none)(hi:∀i,i<N->ifs (some (item i)::cap.map λ i=>(ρ[i]?).join) A=.ok (.bl (keep i)) A)
  (he:∀i,i<N->keep i=true->me (some (item i)::cap.map λ i=>(ρ[i]?).join) A=.ok (g i) A):
  zU 1 cap mi (zJ 0) ifs (zM me) ρ A=.ok (((List.range N).filter keep).map g) A:=by
 obtain ⟨y,e⟩:=IG hat hend hi he N 0 none [] (Nat.zero_add N) (by simpa using hN)
 unfold zU;rw [hm,zL,hj];have hc:Zq 1 cap ρ=none::cap.map λ i=>(ρ[i]?).join:=rfl;rw [hc,e,nil_append,<- range_eq_range']
 rfl
theorem Q5 {cap:List Nat}{mi:Ei}{j:jx}{me:Ev}{ρ:En}{A:Hx}{N:Nat}{item g:Nat->W}(hm:mi ρ A=.ok j A)(hj:j.len=N)(hN:N<=zZ)
  (hat:∀i,i<N->j.at_ A i=some (some (item i)))(hend:j.at_ A N=some none)(he:∀i,i<N->me (some (item i)::cap.map λ i=>(ρ[i]?).join) A=.ok (g i) A):
  zU 1 cap mi (zJ 0) (zi (.bl true)) (zM me) ρ A=.ok ((List.range N).map g) A:=by
 have h:=Xm (ifs:=zi (.bl true)) (keep:=λ _=>true) hm hj hN hat hend (λ _ _=>rfl) λ i hi _=>he i hi;have f:(List.range N).filter (λ _=>true)=List.range N:=List.filter_eq_self.mpr λ _ _=>rfl;rw [f] at h;exact h
theorem kj {g:List W->Hx->R W}{q:jN}{ρ:En}{A A1:Hx}{ws:List W}(h:q ρ A=.ok ws A1):mQ g q ρ A=g ws A1:=by unfold mQ;rw [h,zL]
theorem gh {q:jN}{ρ:En}{A A1:Hx}{ws:List W}(h:q ρ A=.ok ws A1):qm q ρ A=.ok (.ref A1.length) (A1++[.lst ws]):=by unfold qm;rw [h,zL]
theorem wj {m:Ev}{ρ:En}{A A1:Hx}{w:W}{ws:List W}(h:m ρ A=.ok w A1)(hs:zO w A1=some ws):qb m ρ A=.ok ws A1:=by unfold qb;rw [h,zL,hs]
open PySem PySem.Spec PyProof.Rows L2
inductive CV (H:Hp)(h g:Heap)(e:Addr)(vs:Array Value):Prop
 | mk (T:Addr) (oT:Obj) (ts:Array Value) (h1:vs[1]? =some (.ref T)) (ne:T≠e) (ng:g.get? T=none) (nH:H T=none) (hT:h.get? T=some oT) (hd:oT.data=.fields ts) (h3:ts[3]? =some .none)
inductive wt (H:Hp)(h g:Heap)(e:Addr)(C:Value):Prop
 | mk (ng:g.get? e=none) (nH:H e=none) (oe:Obj) (vs:Array Value) (a0:Value) (he:h.get? e=some oe) (hc:oe.cls=C) (hd:oe.data=.fields vs) (h0:vs[0]? =some a0) (h1:vs[1]? =some .none∨CV H h g e vs)
inductive Tr (h:Heap)(e:Addr):Prop
 | mk (oe:Obj) (vs:Array Value) (T:Addr) (he:h.get? e=some oe) (hd:oe.data=.fields vs) (h1:vs[1]? =some (.ref T))
section
variable {M:Model}{A:Around}{E:Value->Shared->Prop}{s:Shared}{env:Env}{outer:List Env}{L e:Addr}{C:Value}{H:Hp}{g:Heap}
theorem frames_at {base base':Heap}:∀{l:List Env},s.heap.FunFrames base l->(∀b∈qt l,base'.get? b=none)->s.heap.FunFrames base' l
 | [],_,_=>trivial
 | en::r,⟨hk,⟨L,o,hf,hn,ho,hd⟩,hr⟩,h=>⟨hk,⟨L,o,hf,h L (by unfold qt;rw [filterMap_cons,hf];exact mem_cons_self ..),ho,hd⟩,frames_at hr λ b hb=>h b (by
   unfold qt;rw [filterMap_cons,hf];exact mem_cons_of_mem _ hb)⟩
theorem R9 {base:Heap}{Q:Unit->Shared->Prop}(hfr:A.frames=some (env::outer))(hf:env.frame=some L)(hl:s.heap.FunFrames base (env::outer))(x:wt H s.heap g e C)
  (tr:∀b u,H b=some u->∃o,s.heap.get? b=some o)(th:∀b o,g.get? b=some o->∃o',s.heap.get? b=some o')
  (hQ:∀h',(∀b o,s.heap.get? b=some o->b∉qt (env::outer)->((∃o',g.get? b=some o')∨∃u,H b=some u)->h'.get? b=some o)->(∀b o,s.heap.get? b=some o->b∈qt (env::outer)->∃sl,h'.get? b=some { o with slots:=sl })->
   wt H h' g e C->Tr h' e->Q () { s with heap:=h' }):wpAny M A (leaving env (.ref e)) Q E s:=by
 obtain ⟨hg,hH,oe,vs,a0,he,hc,hd,h0,h1⟩:=x;have fin:∀(hid:List Addr),(∀b∈qt (env::outer),b∈hid)->(∀b∈hid,b∉qt (env::outer)->g.get? b=none/\H b=none)->∀h',Heap.LeftW (PySem.W.hideAll s.heap hid) (env::outer) e C a0 s.heap h'->Q () { s with heap:=h' }:=by
  intro hid hi1 hi2 h' ⟨st,ff,tr',us⟩;refine hQ h' (λ b o hb nb hx=>?_) (λ b o hb mb=>?_) ?_ (by obtain ⟨oe',vs',T,oT,ts,he',_,hd',h1',_⟩:=tr';exact ⟨oe',vs',T,he',hd',h1'⟩)
  ·refine st b o (PySem.W.hideAll_get hid hb λ hm=>?_)
   obtain ⟨z1,z2⟩:=hi2 b hm nb;rcases hx with ⟨o',q⟩ | ⟨u,q⟩
   ·rw [z1] at q;cases q
   ·rw [z2] at q;cases q
  ·obtain ⟨_,o',ho',hnf⟩:=hl.mem mb
   rw [hb] at ho';cases ho';exact us b o hb hnf
  ·obtain ⟨oe',vs',T,oT,ts,he',⟨hc',h0'⟩,hd',h1',hT0,hTe,hT,hdT,h3⟩:=tr'
   have nT:T∉qt (env::outer):=λ hm=>by
    obtain ⟨_,o',ho',hnf⟩:=hl.mem hm;obtain ⟨sl,z⟩:=us T o' ho' hnf;rw [hT] at z;cases z;exact hnf ts hdT
   have both:g.get? T=none/\H T=none:=by
    cases q:s.heap.get? T with
    | some o=>
     by_cases hm:T∈hid
     ·exact hi2 T hm nT
     ·rw [PySem.W.hideAll_get hid q hm] at hT0;cases hT0
    | none=>
     constructor
     ·cases z:g.get? T with
      | none=>rfl
      | some o=>obtain ⟨o',z'⟩:=th T o z;rw [q] at z';cases z'
     ·cases z:H T with
      | none=>rfl
      | some u=>obtain ⟨o',z'⟩:=tr T u z;rw [q] at z';cases z'
   exact ⟨hg,hH,oe',vs',a0,he',hc',hd',h0',.inr ⟨T,oT,ts,h1',hTe,both.1,both.2,hT,hdT,h3⟩⟩
 have stay:∀hid:List Addr,(PySem.W.hideAll s.heap hid).StaysIn s.heap:=λ hid b o q=>PySem.W.of_hideAll hid q;rcases h1 with h1 | ⟨T,oT,ts,h1,hTe,hgT,hHT,hT,hdT,h3⟩
 ·have hn:∀b∈e::qt (env::outer),(PySem.W.hideAll s.heap (e::qt (env::outer))).get? b=none:=λ b hb=>PySem.W.hideAll_none _ hb
  refine wpAny_leaving_firstW (base:=PySem.W.hideAll s.heap (e::qt (env::outer))) hfr (frames_at hl λ b hb=>hn b (mem_cons_of_mem _ hb)) hf he (stay _) (hn e (mem_cons_self ..)) hd h1 h0 ?_;rw [hc];refine fin _ (λ b hb=>mem_cons_of_mem _ hb) λ b hb nb=>?_;rcases List.mem_cons.mp hb with rfl | hb
  ·exact ⟨hg,hH⟩
  ·exact absurd hb nb
 ·have hn:∀b∈e::T::qt (env::outer),(PySem.W.hideAll s.heap (e::T::qt (env::outer))).get? b=none:=λ b hb=>PySem.W.hideAll_none _ hb
  refine wpAny_leaving_nextW (base:=PySem.W.hideAll s.heap (e::T::qt (env::outer))) hfr (frames_at hl λ b hb=>hn b (mem_cons_of_mem _ (mem_cons_of_mem _ hb))) hf
   ⟨oe,vs,T,oT,ts,he,⟨hc,h0⟩,hd,h1,hn T (mem_cons_of_mem _ (mem_cons_self ..)),hTe,hT,hdT,h3⟩ (stay _) (hn e (mem_cons_self ..)) ?_
  refine fin _ (λ b hb=>mem_cons_of_mem _ (mem_cons_of_mem _ hb)) λ b hb nb=>?_;rcases List.mem_cons.mp hb with rfl | hb
  ·exact ⟨hg,hH⟩
  ·rcases List.mem_cons.mp hb with rfl | hb
   ·exact ⟨hgT,hHT⟩
   ·exact absurd hb nb
end
inductive MX (P:Program)(w:World)(outer:List Env)(H:Hp)(s:Shared)(E:XK)(e:Value)(s':Shared):Prop
 | mk (ea C:Addr) (H':Hp) (he:e=.ref ea) (os:s'.os=s.os) (b:AllBare s'.gens) (un:Un (qt outer) [] H H' s.heap s'.heap) (hk:jS P w H' s'.heap) (ly:wt H' s'.heap s.heap ea (.ref C)) (tr:Tr s'.heap ea) (q:E (.ref C) none H')
noncomputable def wZ (P:Program)(w:World):w6:=λ outer H s E e s'=>MX P w outer H s E e s'
theorem _root_.L2.jj.obj {P:Program}{w:World}{H:Hp}{h:Heap}{a:Addr}{o:HO}(x:jj P w H h a o):∃ob,h.get? a=some ob:=by
 cases o with
 | lst xs=>obtain ⟨_,_,_,_,e⟩:=x;exact ⟨_,e⟩
 | tup xs=>obtain ⟨_,_,_,o,e,_⟩:=x;exact ⟨o,e⟩
 | dK kvs=>obtain ⟨_,_,_,_,o,_,_,e,_⟩:=x;exact ⟨o,e⟩
 | dT kvs=>obtain ⟨_,_,_,_,o,_,_,e,_⟩:=x;exact ⟨o,e⟩
 | set S n=>obtain ⟨o,_,_,_,e,_⟩:=x;exact ⟨o,e⟩
 | ins C dx fs=>obtain ⟨_,_,_,e,_⟩:=x;exact ⟨_,e⟩
 | own y=>exact x
 | xd fs=>obtain ⟨_,⟨o,_,_,e,_⟩,_⟩:=x;exact ⟨o,e⟩
 | rng lo hi=>obtain ⟨_,_,_,e⟩:=x;exact ⟨_,e⟩
 | frz ob u=>exact ⟨ob,x.1⟩
 | tbl ps=>exact ⟨_,(show h.get? a=some _ from x)⟩
 | met f y=>exact ⟨_,(show h.get? a=some _ from x)⟩
 | ext φ=>exact x.2.1
theorem Lc {P:Program}{w:World}{K:Frag}{mg:Str->Option Value}{base:Heap}{N:List Str}{qual:Str}{scope:Scope}{f:Addr}{cd:Value}{A:Around}{outer:List Env}{s:Shared}{H:Hp}{E:XK}
  {pins:List (Addr × Obj)}{σ:St}{H':Hp}{s':Shared}{ea C:Addr}(I:Inv (kI (wZ P w) P w K mg base N qual scope f cd A outer s H E) pins σ H' s')(x:wt H' s'.heap s.heap ea (.ref C))(hE:E (.ref C) none H'):
  (kI (wZ P w) P w K mg base N qual scope f cd A outer s H E).xe (.ref ea) s':=by
 have bs:Un (qt outer) [] H H' s.heap s'.heap:=I.base;have stk:∀b∈qt (envOfC qual scope s.heap.objs.size f cd::outer),H' b=none:=I.stkFree;have hL:s.heap.get? s.heap.objs.size=none:=Heap.get?_none_of_le (le_refl _);have hfe:(envOfC qual scope s.heap.objs.size f cd).frame=some s.heap.objs.size:=rfl;have mem:∀b,b∈qt (envOfC qual scope s.heap.objs.size f cd::outer)↔b=s.heap.objs.size∨b∈qt outer:=λ b=>by
  unfold qt;rw [filterMap_cons,hfe];exact mem_cons
 show wpAny (model P w) (A.deeper (envOfC qual scope s.heap.objs.size f cd)) (leaving (envOfC qual scope s.heap.objs.size f cd) (.ref ea)) _ _ s';refine R9 (base:=base) (L:=s.heap.objs.size) I.ok.frames rfl I.stack x (λ b u e=>(I.hok b u e).obj) (λ b o e=>bs.there b o e (by simp)) λ h' k1 k2 x' tr'=>?_
 have nfr:∀b u,H' b=some u->b∉qt (envOfC qual scope s.heap.objs.size f cd::outer):=λ b u e hm=>by rw [stk b hm] at e;cases e
 refine ⟨ea,C,H',rfl,I.os,I.bare,⟨λ b o e n nb _=>?_,λ b o e n mb _=>?_,λ b o e n hx=>bs.free b o e n hx,λ b o e hx=>?_,bs.tups,bs.frzs,bs.tbls⟩,λ b u e=>?_,x',tr',hE⟩
 ·have nL:b≠s.heap.objs.size:=λ z=>by rw [z,hL] at e;cases e
  exact k1 b o (bs.keep b o e n nb (by simp)) (λ hm=>(mem b).mp hm |>.elim nL nb) (.inl ⟨o,e⟩)
 ·obtain ⟨sl,q⟩:=bs.slot b o e n mb (by simp)
  obtain ⟨sl',q'⟩:=k2 b _ q ((mem b).mpr (.inr mb));exact ⟨sl',q'⟩
 ·obtain ⟨o',q⟩:=bs.there b o e hx
  by_cases hm:b∈qt (envOfC qual scope s.heap.objs.size f cd::outer)
  ·obtain ⟨sl,z⟩:=k2 b o' q hm;exact ⟨_,z⟩
  ·exact ⟨o',k1 b o' q hm (.inl ⟨o,e⟩)⟩
 ·refine (I.hok b u e).stay (λ c v hc q=>?_) (λ _ q=>q) λ _ _ q=>q
  rcases hc with z | z
  ·rw [z] at q ⊢;exact k1 b v q (nfr b u e) (.inr ⟨u,e⟩)
  ·exact k1 c v q (nfr c _ z) (.inr ⟨_,z⟩)
theorem TZ {X:Cx}{pins:List (Addr × Obj)}{σ:St}{H:Hp}{s s':Shared}{E:XK}{e:Value}(I:Inv X pins σ H s)(h:wZ X.prog X.w X.stack H s E e s')(g:Heap)(hg:∀b o,g.get? b=some o->∃o',s.heap.get? b=some o'):
  ∃ea C H',e=.ref ea/\Inv X pins σ H' s'/\wt H' s'.heap g ea (.ref C)/\Tr s'.heap ea/\E (.ref C) none H':=by
 obtain ⟨ea,C,H',rfl,os,bare,un,hok,x,tr,hE⟩:=h;obtain ⟨hh,gg,d,t,os'⟩:=s';obtain rfl:os'=s.os:=os;refine ⟨ea,C,H',rfl,I.call (h':=hh) (g':=gg) (d':=d) (t':=t) (ch:=[]) un hok bare (λ b z=>absurd z (by simp)),?_,tr,hE⟩
 have up:∀b,s.heap.get? b=none->g.get? b=none:=λ b n=>by
  cases z:g.get? b with
  | none=>rfl
  | some o=>obtain ⟨o',q⟩:=hg b o z;rw [n] at q;cases q
 obtain ⟨a1,a2,oe,vs,a0,b1,b2,b3,b4,b5⟩:=x;refine ⟨up ea a1,a2,oe,vs,a0,b1,b2,b3,b4,?_⟩;rcases b5 with b5 | ⟨T,oT,ts,c1,c2,c3,c4,c5,c6,c7⟩
 ·exact .inl b5
 ·exact .inr ⟨T,oT,ts,c1,c2,up T c3,c4,c5,c6,c7⟩
noncomputable def gG (K:Frag)(E:XK):XR:=λ x H=>∀Ca:Addr,yD K x (.ref Ca)->E (.ref Ca) none H
inductive WJ (K:Frag)(n:Nat)(f:Fn)(vs:List V)(H:Hp)(Q:VK)(E:XK):Prop
 | mk (len:vs.length=n) (φ:List Addr) (A:Hx) (ws:List W) (S:zH K φ A H) (r:zD K φ H ws vs) (q:(f ws A).post (PB K φ H Q) (EB K φ H (gG K E)))
theorem WJ.len {K:Frag}{n:Nat}{f:Fn}{vs:List V}{H:Hp}{Q:VK}{E:XK}(h:WJ K n f vs H Q E):vs.length=n:=by cases h;assumption
inductive qB (P:Program)(w:World)(K:Frag)(mg:Str->Option Value)(base:Heap)(k:Nat)(x:Str)(n:Nat)(f:Fn):Prop
 | mk (fa:Addr) (fd:FuncData) (ps:List Str) (F:yk P w K mg base (wZ P w) k fa fd ps (WJ K n f)) (at_:mg x=some (.ref fa)) (kp:PySem.W.keepIn K (.ref fa)=true) (bi:Binds K fd ps [])
structure gz (X:Cx)(g:Heap)(xr:XR):Prop where
 th:∀pins σ H s,Inv X pins σ H s->∀b o,g.get? b=some o->∃o',s.heap.get? b=some o'
 out:∀pins σ H s ea C x,Inv X pins σ H s->wt H s.heap g ea (.ref C)->yD X.K x (.ref C)->xr x H->X.xe (.ref ea) s
theorem CQ {P:Program}{w:World}{K:Frag}{mg:Str->Option Value}{base:Heap}{N:List Str}{qual:Str}{scope:Scope}{f:Addr}{cd:Value}{A:Around}{outer:List Env}{s:Shared}{H:Hp}{E:XK}:
  gz (kI (wZ P w) P w K mg base N qual scope f cd A outer s H E) s.heap (gG K E) where
 th:=λ pins σ H' s' I b o e=>(show Un (qt outer) [] H H' s.heap s'.heap from I.base).there b o e (by simp)
 out:=λ pins σ H' s' ea C x I ly c hx=>Lc I ly (hx C c)
section
variable {X:Cx}{g:Heap}{xr:XR}{e a b c:Expr}{es:List Expr}{m ma mb mc:Ev}{m1 m2:Ex}{pos:Pos}{st:Stmt}
noncomputable def BG (K:Frag)(xr:XR):XK:=λ Cv _ H=>∃x Ca,Cv=.ref Ca/\yD K x (.ref Ca)/\xr x H
theorem gz.passes (x:gz X g xr):Passes (wZ X.prog X.w) X (BG X.K xr):=λ pins σ H s e s' I h=>by
 obtain ⟨ea,C,H',rfl,I',ly,_,nm,Ca,ec,c,hx⟩:=TZ I h g (x.th pins σ H s I);cases ec;exact x.out pins σ H' s' ea C nm I' ly c hx
end
noncomputable def yK (n:Nat)(m:Ex):Fn:=λ ws A=>(m (ws.map some++List.replicate (n - ws.length) none) A).bind λ fl A1=>match fl with
 | .rt w=>.ok w A1
 | .nx _=>.ok .non A1
 | _=>.bad
section
variable {P:Program}{w:World}{K:Frag}{mg:Str->Option Value}{base:Heap}
end
inductive VV (C:Addr)(bmB:List Value)(newId:String)(h:Heap):Prop
 | mk (tl N nm q bs hdct sn sub ab col dd k0 k1 k2 k3 k5 mN:_) (obj:h.get? C=some (excClassObj nm q C N bs tl hdct sn sub ab col dd k0 k1 k2 k3 k5 newId)) (ns:h.Ns N mN) (init:mN "__init__" = none) (tail:OwnTail h bmB tl)
noncomputable def Bg (d:Data):Option { c:ClassData // d=.cls c }:=match d with
 | .cls c=>some ⟨c,rfl⟩
 | _=>none
noncomputable def gy (K:Frag)(C:Addr)(bmB:List Value)(newId:String):Bool:=(K.lookup C).any λ o=>(Bg o.data).any λ c=>
 o.cls==.type "type" && c.1.mro==.ref C::c.1.mro.tail&&o.slots.toList==[o.slots.toList.getD 0 none,o.slots.toList.getD 1 none,o.slots.toList.getD 2 none,o.slots.toList.getD 3 none,some (.builtin newId),o.slots.toList.getD 5 none]
  && c.1.hasDel==false&&PySem.W.tailIn K bmB c.1.mro.tail&&PySem.W.nsOkIn K c.1.ns&&PySem.W.nsIn K c.1.ns "__init__" == some none
theorem VS {K:Frag}{h:Heap}{C:Addr}{bmB:List Value}{newId:String}(X:K.In h)(q:gy K C bmB newId=true):VV C bmB newId h:=by
 obtain ⟨⟨oc,dd,dat,⟨sl⟩⟩,ho,q⟩:=(any_eq_true _ _).mp q;obtain ⟨⟨⟨nm,bs,mro,ns,qn,hd,sn,sub,ab,col,del⟩,e0⟩,-,q⟩:=(any_eq_true _ _).mp q;simp only [and_eq_true,beq_iff_eq] at q;obtain ⟨⟨⟨⟨⟨⟨e1,e2⟩,e3⟩,e4⟩,e5⟩,e6⟩,e7⟩:=q;cases e0;cases e1;cases e4;exact ⟨mro.tail,ns,nm,qn,bs,hd,sn,sub,ab,col,dd,_,_,_,_,_,_,X _ _ (by rw [ho,e2,e3];rfl),.of_isNs (PySem.W.isNs_of_in X e6),PySem.W.nsMap_none_of_in X e6 e7,PySem.W.tail_of_in X e5⟩
noncomputable def Yi (x:Str)(mr:Ea):Ex:=λ ρ A=>(mr ρ A).bind λ _ A1=>.exc x A1
section
variable {X:Cx}{g:Heap}{xr:XR}{e:Expr}{es:List Expr}{mr:Ea}{x:Str}{np cpos pos:Pos}{C:Addr}{B newId initId:String}{bmB:List Value}{n:Nat}
theorem HN {pins:List (Addr × Obj)}{σ:St}{H:Hp}{s:Shared}{h':Heap}{ea:Addr}{vs:List Value}(xo:gz X g xr)(I:Inv X pins σ H s)(m:Heap.MadeExcOf s.heap h' ea (.ref C) vs):
  Inv X pins σ H { s with heap:=h' }/\wt H h' g ea (.ref C):=by
 have nH:∀b,s.heap.get? b=none->H b=none:=λ b z=>by
  cases q:H b with
  | none=>rfl
  | some u=>obtain ⟨o,k⟩:=(I.hok b u q).obj;rw [z] at k;cases k
 have ng:∀b,s.heap.get? b=none->g.get? b=none:=λ b z=>by
  cases q:g.get? b with
  | none=>rfl
  | some o=>obtain ⟨o',k⟩:=xo.th pins σ H s I b o q;rw [z] at k;cases k
 obtain ⟨t,he,ht,ht'⟩:=m.there;refine ⟨I.call' (s':={ s with heap:=h' }) (ch:=[]) rfl ⟨λ b o q _ _ _=>m.keeps b o q,λ b o q _ _ _=>⟨o.slots,m.keeps b o q⟩,λ b o q z _=>z,λ b o q _=>⟨o,m.keeps b o q⟩,λ _ _ q=>q,λ _ _ _ q=>q,λ b ps q=>⟨#[],by rw [Array.append_empty];exact q⟩⟩
  (λ b u q=>(I.hok b u q).stay (λ c v _ z=>m.keeps c v z) (λ _ z=>z) λ _ _ z=>z) I.bare (λ b z=>absurd z (by simp)),?_⟩
 exact ⟨ng ea m.new,nH ea m.new,_,_,_,he,rfl,rfl,rfl,.inl rfl⟩
theorem IJ (xo:gz X g xr)(hc:yD X.K x (.ref C))(ex:gy X.K C bmB newId=true)(FB:ExcBaseFacts B newId initId bmB)(ha:SA X xr (e::es) mr)(hl:g7 mr n)(hn:n<=sizeLine:=by decide)(hg:Gl X x:=by rfl)(hcalm:X.calm=true:=by rfl)
  (hdb:(x==("__debug__" : Str))=false:=by decide)(he:starEach (e::es) X.env=(false,eval e X.env)::starEach es X.env:=by rfl)(hpl:(backTo cpos (starEach es X.env)).any (·.1)=false:=by rfl):
  SS X xr (.Raise (some (.Call (.Name x np) (e::es) [] cpos)) none pos) (Yi x mr):=by
 intro pins s σ H D I ⟨φ,A,ρ,S,re,h⟩;have hm:X.mg x=some (.ref C):=PySem.W.mg_of I.mod.kin I.mod.glob hc;obtain ⟨tl,N,nm,q,bs,hdct,sn,sub,ab,col,dd,k0,k1,k2,k3,k5,mN,hC,hN,hni,T⟩:=VS I.mod.kin ex;refine wpAny_Raise_call_subT (C:=C) (nm:=nm) (q:=q) (N:=N) (bs:=bs) (bm:=tl) (hdct:=hdct) (sn:=sn) (sub:=sub) (ab:=ab) (col:=col) (dd:=dd) (k0:=k0) (k1:=k1) (k2:=k2) (k3:=k3) (k5:=k5)
  FB (mN:=mN) (T.hasType FB.hasBase) (I.ok.hd hcalm) (by rw [he];show (false || (backTo cpos (starEach es X.env)).any (·.1))=false;rw [hpl];rfl) hni (Jj I hg hm ⟨rfl,?_⟩ hdb)
 have h':=zY.mp h;have hA:=ha cpos pins s σ H (λ vs H1=>vs.length<=sizeLine/\xr x H1) I ⟨φ,A,ρ,S,re,?_⟩
 ·rw [he] at hA ⊢
  refine Calls.evalArgs_plain (wpAny_mono hA (λ us s2 h2=>?_) λ _ _ y=>y);obtain ⟨vs,H2,I2,rv,hlen,hx⟩:=h2;refine ⟨rfl,?_,I2.bk _ _ hC,hN.keeps I2.bk,T.keeps I2.bk,λ h3 ea m=>?_⟩
  ·rw [<- rv.length];exact hlen
  ·obtain ⟨I3,ly⟩:=HN xo I2 m
   exact xo.out pins σ H2 _ ea C x I3 ly hc hx
 ·cases er:mr ρ A with
  | ok ws A1=>
   rw [er] at h';intro φ1 H1 vs l1 S1 q1;refine ⟨?_,h' φ1 H1 l1 S1⟩;rw [<- q1.length,hl ρ A ws A1 er];exact hn
  | exc y A1=>rw [er] at h';exact h'
  | bad=>rw [er] at h';exact h'
end
noncomputable def mJ:List Ev->Str->Ev
 | [],acc=>λ _ A=>.ok (.str acc) A
 | m::ms,acc=>λ ρ A=>(m ρ A).bind λ w A1=>match w with
  | .str y=>if (acc++y).length<=sizeLine then mJ ms (acc++y) ρ A1 else .bad
  | _=>.bad
section
variable {X:Cx}{xr:XR}{e v₁ v₂:Expr}{es:List Expr}{m m₁ m₂:Ev}{ms:List Ev}{pos:Pos}
inductive SJ (X:Cx)(xr:XR):List Expr->List Ev->Prop where
 | nil:SJ X xr [] []
 | cons {e:Expr} {es:List Expr} {m:Ev} {ms:List Ev} (h:SE X xr e m) (r:SJ X xr es ms):SJ X xr (e::es) (m::ms)
end
section
variable {M:Model}{A:Around}{E:Value->Shared->Prop}{s:Shared}{e C D:Addr}{oe:Obj}{bmB bmD:List Value}{newId newD:String}{Q:Bool->Shared->Prop}
noncomputable def R6 (h:Heap)(C D:Addr):Prop:=∃oC cd,h.get? C=some oC/\oC.data=.cls cd/\cd.mro.contains (.ref D)=true
theorem N6 (lc:VV C bmB newId s.heap)(ld:VV D bmD newD s.heap)(hbD:bmD.contains (.type "BaseException")=true)(he:s.heap.get? e=some oe)(hcls:oe.cls=.ref C)(up:R6 s.heap C D)(hq:Q true s):
  wpAny M A (excMatches (.ref e) (.ref D)) Q E s:=by
 obtain ⟨h,g,d,t,os⟩:=s;obtain ⟨tl,N,nm,q,bs,hdct,sn,sub,ab,col,dd,k0,k1,k2,k3,k5,mN,hC,_,_,_⟩:=lc;obtain ⟨tl2,N2,nm2,q2,bs2,hdct2,sn2,sub2,ab2,col2,dd2,l0,l1,l2,l3,l5,mN2,hD,_,_,T2⟩:=ld;obtain ⟨oC,cd,hC',hd,hm⟩:=up;rw [hC] at hC';cases hC';have hdd:(excClassObj nm q C N bs tl hdct sn sub ab col dd k0 k1 k2 k3 k5 newId).data=.cls cd:=hd;unfold excClassObj at hdd;cases hdd;have hcB:(Value.ref D::tl2).contains (.type "BaseException")=true:=by rw [List.contains_cons,T2.hasType hbD,Bool.or_true]
 have hcC:(Value.ref C::tl).contains (.ref D)=true:=hm;have f:=tc_notTuple;unfold excMatches
 repeat (first | (with_reducible refine wpAny_loadPart_at he ?_;rw [hcls]) | with_reducible refine wpAny_loadPart_at hD ?_ | with_reducible refine wpAny_loadPart_at hC ?_ | (with_reducible refine wpAny_isSubtype_exc hD ?_;rw [hcB]) | (with_reducible refine wpAny_isSubtype_exc hC ?_;rw [hcC]) | wp_step)
 exact hq
end
section
variable {X:Cx}{pins:List (Addr × Obj)}{σ:St}{H0 H:Hp}{s0 s:Shared}{ea C L:Addr}{M:Model}{A:Around}{E:Value->Shared->Prop}
theorem landed {h':Heap}{T:Addr}{a0:Value}(I0:Inv X pins σ H0 s0)(I:Inv X pins σ H s)(x:wt H s.heap s0.heap ea (.ref C))(nT:s0.heap.get? T=none)(hT:H T=none)
  (th:∀b o,s0.heap.get? b=some o->∃o',s.heap.get? b=some o')
  (fl:Heap.FlyingW (PySem.W.hideAll s.heap (ea::T::qt X.stack)) X.stack ea (.ref C) a0 h')(us:s.heap.UpToSlots h'):
  Inv X pins σ H { s with heap:=h' }/\wt H h' s0.heap ea (.ref C)/\Tr h' ea/\∀b o,s0.heap.get? b=some o->∃o',h'.get? b=some o':=by
 obtain ⟨st,_,ff,oe,vs,T',oT,ts,he,⟨hcls,h0⟩,hd,h1,hnT,hTe,hT',hdT,h3⟩:=fl;have ng:s0.heap.get? ea=none:=by cases x;assumption
 have nH:H ea=none:=by cases x;assumption
 have kept:∀b o,s.heap.get? b=some o->b∉qt X.stack->b≠ea->b≠T->h'.get? b=some o:=λ b o q n1 n2 n3=>st b o (PySem.W.hideAll_get _ q λ hm=>by
  rcases List.mem_cons.mp hm with z | hm
  ·exact n2 z
  rcases List.mem_cons.mp hm with z | hm
  ·exact n3 z
  ·exact n1 hm)
 have slot:∀b o,s.heap.get? b=some o->b∈qt X.stack->∃sl,h'.get? b=some { o with slots:=sl }:=λ b o q hm=>by
  obtain ⟨_,o',ho',hnf⟩:=I.stack.mem hm;rw [q] at ho';cases ho';exact us b o q hnf
 have off:∀b u,H b=some u->b∉qt X.stack/\b≠ea/\b≠T:=λ b u q=>⟨λ hm=>(by rw [I.stkFree b hm] at q;cases q),λ z=>(by rw [z,nH] at q;cases q),λ z=>(by rw [z,hT] at q;cases q)⟩
 have ne:∀b o,s0.heap.get? b=some o->b≠ea/\b≠T:=λ b o q=>⟨λ z=>(by rw [z,ng] at q;cases q),λ z=>(by rw [z,nT] at q;cases q)⟩
 have any:∀b o o',s0.heap.get? b=some o'->s.heap.get? b=some o->∃sl,h'.get? b=some { o with slots:=sl }:=λ b o o' q0 q=>by
  by_cases hm:b∈qt X.stack
  ·exact slot b o q hm
  ·exact ⟨o.slots,kept b o q hm (ne b o' q0).1 (ne b o' q0).2⟩
 have cell:∀y c,X.env.cells.lookup y=some c->∀v,s.heap.IsCell c v->h'.IsCell c v:=λ y c e v ⟨o,ho,hd⟩=>by
  obtain ⟨_,o0,ho0,_⟩:=I0.cell y c e;obtain ⟨sl,z⟩:=any c o o0 ho0 ho;exact ⟨_,z,hd⟩
 have inv:Inv X pins σ H { s with heap:=h' }:=by
  refine ⟨I.ok,I.os,I.bare,⟨λ b o q n nf nx=>?_,λ b o q n hf nx=>?_,I.base.free,λ b o q nx=>?_,I.base.tups,I.base.frzs,I.base.tbls⟩,?_,λ y c e=>?_,I.free,I.freeC,λ p hp=>?_,λ b u q=>?_,I.len⟩
  ·have q1:=I.base.keep b o q n nf nx
   have q0:=I0.base.keep b o q n nf nx;refine kept b o q1 (λ hm=>?_) (ne b o q0).1 (ne b o q0).2;rcases List.mem_cons.mp (I.stkSub b hm) with z | z
   ·exact absurd (lt_of_lt_of_le (Heap.lt_size q) I.ok.above) (by rw [z];exact lt_irrefl _)
   ·exact nf z
  ·obtain ⟨sl,q1⟩:=I.base.slot b o q n hf nx
   obtain ⟨sl0,q0⟩:=I0.base.slot b o q n hf nx;obtain ⟨sl',z⟩:=any b _ _ q0 q1;exact ⟨sl',z⟩
  ·obtain ⟨o1,q1⟩:=I.base.there b o q nx
   obtain ⟨o0,q0⟩:=I0.base.there b o q nx;obtain ⟨sl,z⟩:=any b o1 o0 q0 q1;exact ⟨_,z⟩
  ·obtain ⟨m,⟨o,es,ep,ho,r⟩,k⟩:=I.loc
   obtain ⟨_,⟨o0,_,_,ho0,_⟩,_⟩:=I0.loc;obtain ⟨sl,z⟩:=any _ o o0 ho0 ho;refine ⟨m,⟨_,es,ep,z,r⟩,λ i y v e1 e2 e3=>?_⟩;obtain ⟨u,ru,lk⟩:=k i y v e1 e2 e3;refine ⟨u,ru,?_⟩;rcases lk with lk | ⟨lk,c,ec,hc⟩
   ·exact .inl lk
   ·exact .inr ⟨lk,c,ec,cell y c ec _ hc⟩
  ·obtain ⟨v,hv⟩:=I.cell y c e
   exact ⟨v,cell y c e v hv⟩
  ·obtain ⟨p1,p2,p3,p4,p5⟩:=I.pin p hp
   have p0:=(I0.pin p hp).1;refine ⟨kept _ _ p1 (λ hm=>?_) (ne _ _ p0).1 (ne _ _ p0).2,p2,p3,p4,p5⟩;rcases List.mem_cons.mp (I.stkSub _ hm) with z | z
   ·exact p3 z
   ·exact p4 z
  ·refine (I.hok b u q).stay (λ c v hc z=>?_) (λ _ z=>z) λ _ _ z=>z
   rcases hc with e | e
   ·obtain ⟨n1,n2,n3⟩:=off b u q
    rw [e] at z ⊢;exact kept b v z n1 n2 n3
   ·obtain ⟨n1,n2,n3⟩:=off c _ e
    exact kept c v z n1 n2 n3
 have both:s0.heap.get? T'=none/\H T'=none:=by
  cases q:s.heap.get? T' with
  | some o=>
   by_cases hm:T'∈ea::T::qt X.stack
   ·rcases List.mem_cons.mp hm with z | hm
    ·exact absurd z hTe
    rcases List.mem_cons.mp hm with z | hm
    ·rw [z];exact ⟨nT,hT⟩
    ·obtain ⟨sl,z⟩:=slot T' o q hm
     obtain ⟨_,o',ho',hnf⟩:=I.stack.mem hm;rw [q] at ho';cases ho';rw [hT'] at z;cases z;exact absurd hdT (hnf ts)
   ·rw [PySem.W.hideAll_get _ q hm] at hnT;cases hnT
  | none=>
   constructor
   ·cases z:s0.heap.get? T' with
    | none=>rfl
    | some o=>obtain ⟨o',k⟩:=th T' o z;rw [q] at k;cases k
   ·cases z:H T' with
    | none=>rfl
    | some u=>obtain ⟨o',k⟩:=(I.hok T' u z).obj;rw [q] at k;cases k
 exact ⟨inv,⟨ng,nH,oe,vs,a0,he,hcls,hd,h0,.inr ⟨T',oT,ts,h1,hTe,both.1,both.2,hT',hdT,h3⟩⟩,⟨oe,vs,T',he,hd,h1⟩,λ b o q=>by
  obtain ⟨o1,q1⟩:=th b o q;obtain ⟨sl,z⟩:=any b o1 o q q1;exact ⟨_,z⟩⟩
theorem flying (I:Inv X pins σ H s)(x:wt H s.heap s0.heap ea (.ref C))(tr:Tr s.heap ea):
  ∃T a0,s0.heap.get? T=none/\H T=none/\Heap.FlyingW (PySem.W.hideAll s.heap (ea::T::qt X.stack)) X.stack ea (.ref C) a0 s.heap:=by
 obtain ⟨hg,hH,oe,vs,a0,he,hc,hd,h0,h1⟩:=x;obtain ⟨oe',vs',T',he',hd',h1'⟩:=tr;rw [he] at he';cases he';rw [hd] at hd';cases hd';rcases h1 with h1 | ⟨T,oT,ts,h1,hTe,hgT,hHT,hT,hdT,h3⟩
 ·rw [h1] at h1';cases h1'
 ·have hn:∀b∈ea::T::qt X.stack,(PySem.W.hideAll s.heap (ea::T::qt X.stack)).get? b=none:=λ b hb=>PySem.W.hideAll_none _ hb
  exact ⟨T,a0,hgT,hHT,λ b o q=>PySem.W.of_hideAll _ q,hn ea (mem_cons_self ..),frames_at I.stack λ b hb=>hn b (mem_cons_of_mem _ (mem_cons_of_mem _ hb)),
   oe,vs,T,oT,ts,he,⟨hc,h0⟩,hd,h1,hn T (mem_cons_of_mem _ (mem_cons_self ..)),hTe,hT,hdT,h3⟩
end
noncomputable def YE (oe:Obj):HO:=.frz oe (.own 0)
noncomputable def QN (K:Frag)(C D:Addr):Bool:=match K.lookup C with
 | some ⟨_,_,.cls cd,_⟩=>cd.mro.contains (.ref D)
 | _=>false
theorem Cy {K:Frag}{h:Heap}{C D:Addr}(X:K.In h)(e:QN K C D=true):R6 h C D:=by
 unfold QN at e
 split at e
 ·rename_i ho
  exact ⟨_,_,X _ _ ho,rfl,e⟩
 ·cases e
section
variable {X:Cx}{pins:List (Addr × Obj)}{σ:St}{H0 H:Hp}{s0 s:Shared}{ea C L:Addr}
theorem Ju (I0:Inv X pins σ H0 s0)(I:Inv X pins σ H s)(x:wt H s.heap s0.heap ea (.ref C)):∃oe,oe.cls=.ref C/\H ea=none/\Inv X pins σ (upd H ea (YE oe)) s:=by
 obtain ⟨ng,nH,oe,vs,a0,he,hc,_⟩:=x;refine ⟨oe,hc,nH,?_⟩;have ne:∀b o,s0.heap.get? b=some o->b≠ea:=λ b o q z=>by rw [z,ng] at q;cases q
 have at_:∀b,b≠ea->upd H ea (YE oe) b=H b:=λ b n=>by unfold upd;exact if_neg n
 have nt:∀b u,H b=some u->upd H ea (YE oe) b=some u:=λ b u q=>by
  rw [at_ b λ z=>by rw [z,nH] at q;cases q];exact q
 refine ⟨I.ok,I.os,I.bare,⟨I.base.keep,I.base.slot,λ b o q n nx=>?_,I.base.there,λ b xs q=>nt _ _ (I.base.tups b xs q),λ b o u q=>nt _ _ (I.base.frzs b o u q),λ b ps q=>?_⟩,I.loc,I.cell,?_,λ y c e=>?_,λ p hp=>?_,λ b u q=>?_,I.len⟩
 ·obtain ⟨o0,q0⟩:=I0.base.there b o q nx
  rw [at_ b (ne b o0 q0)];exact I.base.free b o q n nx
 ·obtain ⟨more,z⟩:=I.base.tbls b ps q
  exact ⟨more,nt _ _ z⟩
 ·obtain ⟨m,⟨o0,_,_,ho0,_⟩,_⟩:=I0.loc
  rw [at_ _ (ne _ o0 ho0)];exact I.free
 ·obtain ⟨v,o0,ho0,_⟩:=I0.cell y c e
  rw [at_ _ (ne _ o0 ho0)];exact I.freeC y c e
 ·obtain ⟨p1,p2,p3⟩:=I.pin p hp
  refine ⟨p1,?_,p3⟩;rw [at_ _ (ne _ _ (I0.pin p hp).1)];exact p2
 ·by_cases z:b=ea
  ·subst z
   have:u=YE oe:=by
    unfold upd at q;rw [if_pos rfl] at q;exact (Option.some.inj q).symm
   subst this;exact ⟨he,⟨oe,he⟩⟩
  ·rw [at_ b z] at q
   exact (I.hok b u q).stay (λ _ _ _ z=>z) (λ c z=>nt c _ z) λ c xs z=>nt c _ z
noncomputable def E4 (X:Cx)(pins:List (Addr × Obj))(σ:St)(s0:Shared)(D:Addr)(k:Addr->Addr->Hp->Prop)(e:Value)(s:Shared):Prop:=
 ∃ea C H bmC newC,e=.ref ea/\Inv X pins σ H s/\wt H s.heap s0.heap ea (.ref C)/\Tr s.heap ea/\(∀b o,s0.heap.get? b=some o->∃o',s.heap.get? b=some o')/\Mi.gy X.K C bmC newC=true/\QN X.K C D=true/\∀oe,oe.cls=.ref C->H ea=none->k ea C (upd H ea (YE oe))
theorem DB {i:Nat}{xD n:Str}{D:Addr}{bmD:List Value}{newD:String}{body suite:List Stmt}{b₀:Stmt}{np hp pos:Pos}{Q:Flow->Shared->Prop}{k:Addr->Addr->Hp->Prop}
  (I0:Inv X pins σ H0 s0)(hst:X.stack=X.env::X.outer)(hL:X.env.frame=some L)(hD:yD X.K xD (.ref D))(exD:Mi.gy X.K D bmD newD=true)(hbD:bmD.contains (.type "BaseException")=true)
  (hN:X.N.Nodup)(hi:X.N[i]? =some n)(hx:Loc X.env.scope n)
  (hbody:wpAny (model X.prog X.w) X.A (execs body X.env) (λ f s1=>f=.next/\Q .next s1) (E4 X pins σ s0 D k) s0)
  (hsuite:∀ea C H s2,Inv X pins (σ.set i (some (.ref ea))) H s2->k ea C H->∀E',wpAny (model X.prog X.w) (X.A.mark (some (.ref ea))) (execs (b₀::suite) X.env)
   (λ f s4=>wpAny (model X.prog X.w) X.A (do bindName X.env n .none;unbindBehindTheSuite X.env n hp) (λ _ s5=>Q f s5) X.xe s4) E' s2)
  (hg:Gl X xD)(hdb:(xD==("__debug__" : Str))=false:=by decide)(hf:X.fn n=true∨X.env.scope.names.lookup n=some .local:=by first | exact .inl rfl | exact .inr rfl | assumption):
  wpAny (model X.prog X.w) X.A (exec (.Try body [.ExceptHandler (some (.Name xD np)) (some n) (b₀::suite) hp] [] [] pos) X.env) Q X.xe s0:=by
 refine wpAny_Try_except (wpAny_mono hbody (λ f s1 ⟨ef,q⟩=>?_) λ e s1 h=>?_)
 ·subst ef
  exact wpAny_execs_nil q
 obtain ⟨ea,C,H,bmC,newC,rfl,I,x,tr,th,exC,up,hk⟩:=h;have hm:X.mg xD=some (.ref D):=PySem.W.mg_of I.mod.kin I.mod.glob hD;obtain ⟨T,a0,nT,hT,fl⟩:=flying I x tr;have hfr:X.A.frames=some (X.env::X.outer):=by rw [<- hst];exact I.ok.frames
 refine wpAny_looks_onW hfr hL (by rw [<- hst];exact fl) λ h₄ hh₄ us₄=>?_
 refine wpAny_landsW hh₄ λ h₅ fl₅ us₅=>?_;obtain ⟨I5,x5,tr5,th5⟩:=landed I0 I x nT hT th (by rw [<- hst] at fl₅;exact fl₅) (us₄.trans us₅)
 obtain ⟨_,_,oe,_,_,he,hc,_⟩:=id x5;refine wpAny_handleBy_cons (codeAny_handlers_test (Calls.Name_function_global I5.ok.kind hg (Calls.loadGlobal_global (by rw [I5.ok.glob];exact I5.mod.glob.keeps I5.bk) hm ?_) hdb)) (by intro q;cases q)
 refine N6 (s:={ s1 with heap:=h₅ }) (VS I5.kIn exC) (VS I5.kIn exD) hbD he hc (Cy I5.kIn up) ?_
 refine codeAny_handlers_suite_as ?_;obtain ⟨T',a0',nT',hT',fl'⟩:=flying I5 x5 tr5;refine lands_againW fl' λ h₆ fl₆ us₆=>?_;obtain ⟨I6,x6,_,_⟩:=landed I0 I5 x5 nT' hT' th5 fl₆ us₆;obtain ⟨of,hof,nea,I7⟩:=Ju I0 I6 x6;exact KL (v:=.ref ea) I7 hN hi hx rfl (λ s7 I7=>hsuite ea C _ s7 I7 (hk of hof nea) _) hf
end
section
variable {X:Cx}{pins:List (Addr × Obj)}{σ:St}{H:Hp}{s:Shared}{M:Model}{A:Around}{E:Value->Shared->Prop}
theorem name_goes {i:Nat}{n:Str}{pos:Pos}{Q:Unit->Shared->Prop}(I:Inv X pins σ H s)(hN:X.N.Nodup)(hi:X.N[i]? =some n)(hk:X.env.scope.names.lookup n=some .local)
  (h:∀s',Inv X pins (σ.set i none) H s'->Q () s'):wpAny M A (do bindName X.env n .none;unbindBehindTheSuite X.env n pos) Q E s:=by
 obtain ⟨m,hn,hl⟩:=id I.loc;have hiσ:i < σ.length:=by rw [I.len];exact (List.getElem?_eq_some_iff.mp hi).1
 refine wpAny_nameGoes_keeps hk hn (by rw [I.ok.kind];rfl) λ h' v hn' hs=>h _ ?_
 have old:∀b o,b≠X.env.locals->s.heap.get? b=some o->h'.get? b=some o:=λ b o n q=>(hs.2 b n).trans q;have nl:∀{b:Addr} {u:HO},H b=some u->b≠X.env.locals:=λ q z=>by rw [z,I.free] at q;cases q
 have ab:∀{b:Addr} {k:Nat},b<k->k<=X.env.locals->b≠X.env.locals:=λ l g=>ne_of_lt (lt_of_lt_of_le l g);refine ⟨I.ok,I.os,I.bare,⟨λ b o e z hb hx=>?_,λ b o e z hb hx=>?_,I.base.free,λ b o e hx=>?_,I.base.tups,I.base.frzs,I.base.tbls⟩,⟨_,hn',λ j y v' e1 e2 e3=>?_⟩,λ y c e=>?_,I.free,I.freeC,λ p hp=>?_,λ b u q=>?_,by simpa using I.len⟩
 ·exact old b o (ab (Heap.lt_size e) I.ok.above) (I.base.keep b o e z hb hx)
 ·obtain ⟨sl,e1⟩:=I.base.slot b o e z hb hx
  exact ⟨sl,old b _ (ab (Heap.lt_size e) I.ok.above) e1⟩
 ·obtain ⟨o',e1⟩:=I.base.there b o e hx
  exact ⟨o',old b _ (ab (Heap.lt_size e) I.ok.above) e1⟩
 ·by_cases hj:j=i
  ·subst hj
   rw [getElem?_set_self hiσ] at e2;cases e2
  ·rw [getElem?_set_ne (Ne.symm hj)] at e2
   obtain ⟨u',r',q⟩:=hl j y v' e1 e2 e3;refine ⟨u',r',?_⟩;rcases q with ⟨k,e⟩ | ⟨k,c,e,z⟩
   ·have:y≠n:=λ e=>hj (XS hN e1 (e ▸ hi))
    exact .inl ⟨k,by simp [this,e]⟩
   ·exact .inr ⟨k,c,e,z.sameBut hs (I.cne y c e)⟩
 ·obtain ⟨w',z⟩:=I.cell y c e
  exact ⟨w',z.sameBut hs (I.cne y c e)⟩
 ·obtain ⟨e,z,ne,nf,d⟩:=I.pin p hp
  exact ⟨old _ _ ne e,z,ne,nf,d⟩
 ·refine (I.hok b u q).stay (λ c v hc z=>old c v ?_ z) (λ _ z=>z) λ _ _ z=>z
  rcases hc with e | e
  ·rw [e];exact nl q
  ·exact nl e
theorem N3 {i j:Nat}{n y:Str}{ea:Addr}{np yp ap hp:Pos}{Q:Flow->Shared->Prop}{E':Value->Shared->Prop}(I:Inv X pins (σ.set i (some (.ref ea))) H s)(hN:X.N.Nodup)(hi:X.N[i]? =some n)(hj:X.N[j]? =some y)
  (hk:X.env.scope.names.lookup n=some .local)(hy:Loc X.env.scope y)(hq:∀s',Inv X pins (((σ.set i (some (.ref ea))).set j (some (.ref ea))).set i none) H s'->Q .next s')
  (hs:swapsWith (.Name n np) (some (.Name y yp)) ap.line X.env=pure false)(hf:X.fn y=true∨X.env.scope.names.lookup y=some .local)
  (hdb:(n==("__debug__" : Str))=false:=by decide):
  wpAny (model X.prog X.w) A (execs [.Assign [.Name y yp] (.Name n np) ap] X.env) (λ f s4=>wpAny (model X.prog X.w) X.A (do bindName X.env n .none;unbindBehindTheSuite X.env n hp) (λ _ s5=>Q f s5) X.xe s4) E' s:=by
 obtain ⟨m,hn,hl⟩:=I.loc;have hiσ:i < σ.length:=by have:=I.len;rw [length_set] at this;rw [this];exact (List.getElem?_eq_some_iff.mp hi).1
 obtain ⟨u,r,l⟩:=hl i n (.ref ea) hi (getElem?_set_self hiσ) (.inl hk);obtain rfl:u=Value.ref ea:=r;have hm:m n=some (.ref ea):=by
  rcases l with ⟨_,e⟩ | ⟨k | k,_⟩
  ·exact e
  ·rw [show X.env.kindOf n=some .local from hk] at k;cases k
  ·rw [show X.env.kindOf n=some .local from hk] at k;cases k
 refine wpAny_execs_cons (wpAny_Assign_Name (wpAny_Name (wpAny_loadName_local I.ok.kind hk hn hm ?_) hdb) hs);exact KL (v:=.ref ea) I hN hj hy rfl (λ s5 I5=>wpAny_execs_nil (name_goes I5 hN hi hk hq)) hf
end
end Mi
namespace Mi
open PySem PySem.W PySem.Spec PySem.Calls PyProof.Rows Builtin Builtin.ObjectAttr Builtin.Getset_descriptor
section
variable {prog:Program}{w:World}{A:Around}{E:Value->Shared->Prop}{s:Shared}{K:Frag}{x D:Addr}{name:Str}
theorem Ey {M:Model}{h:Heap}{a g:Value}(X:K.In h)(ha:findIn K (.ref D) name=some (some a))(hn:specialIn K a "__get__" = some (some g))(htk:takesIn K a=some true):Looks M h (find (.ref x) (.ref D) name) (.bind g a):=
 (looks_findIn (M:=M) X ha).andThen ((show Looks M h (getOf (some a)) (some g) from looks_specialIn X hn).andThen
  ((show Looks M h (dataDescriptor? (some a) (some g)) (some (g,a)) from (looks_takesIn (M:=M) X htk).andThen .now).andThen (Looks.tag .now)))
theorem Hn {tp:Value}{R:Result->Shared->Prop}(X:K.In s.heap)(L0:Looks (model prog w) s.heap (typeOf (.ref x)) (.ref D))(hm:mroIn K D (.type "object")=some true)(h:R (.ok (.ret (.ref D))) s):
  codeAny (model prog w) A (.call (.builtin "getset_descriptor.__get__") ⟨[.builtin "object.__class__",.ref x,tp],[]⟩) R s:=by
 obtain ⟨h0,g0,d0,t0,o0⟩:=s;have Ls:=looks_mroIn (M:=model prog w) X hm;have sl:=KF.slot_gs;refine codeAny_call_builtin sl.plain KF.entry_gs (sl.check _ _ _ _ _ _ _ _ KF.type_class (KF.args_gs _ _ _) ?_);unfold «getset_descriptor.__get__» descrGet;rw [dga_obj];refine wpAny_bind (wpAny_pure ?_);unfold descrGetter descrCheckInstance isInstance descrNameAndClass;simp only [KF.owner_class]
 repeat lk
 refine And.intro (Code.quiet_builtin _ (by decide +kernel)) (codeAny_builtin KF.entry_class ?_)
 unfold «object.__class__» shownTypeOf
 repeat lk
 exact h
theorem NS {M:Model}{rest:List Value}{kw:List (Str × Value)}{Q:Unit->Shared->Prop}(X:K.In s.heap)(L0:Looks M s.heap (typeOf (.ref x)) (.ref D))(hm:mroIn K D (.type "BaseException")=some true)
  (ok:argsOk "BaseException.__getattribute__" ⟨.ref x::rest,kw⟩)(hQ:Q () s):wpAny M A (checkBuiltinCall "BaseException.__getattribute__" ⟨.ref x::rest,kw⟩) Q E s:=by
 have cut:splitId "BaseException.__getattribute__" = some ("BaseException", "__getattribute__"):=by first | rfl | decide +kernel
 have kinds:builtinKind "BaseException.__getattribute__" = some .slot∨builtinKind "BaseException.__getattribute__" = some .method:=by
  simp only [builtinKind,cut]
  first | exact .inl (by decide +kernel) | exact .inr (by decide +kernel)
 have Ls:=looks_mroIn (M:=M) X hm;have rest':wpAny M A (match Manifest.signature? "BaseException.__getattribute__" with | some sig=>Bind.checkArgs "BaseException.__getattribute__" sig ⟨.ref x::rest,kw⟩ | none=>pure ()) Q E s:=wpAny_of_eq ok hQ
 rcases kinds with kd | kd
 all_goals
  unfold checkBuiltinCall;rw [kd,cut];dsimp only;unfold isInstance;refine wpAny_bind (wpAny_bind (L0.at (Ls.at ?_)));exact rest'
theorem Nb {Q:Option Value->Shared->Prop}(hga:findIn K (.ref D) "__getattribute__" = some (some (.builtin "BaseException.__getattribute__")))(hgn:findIn K (.ref D) "__getattr__" = some none)
  (ha:findIn K (.ref D) "__class__" = some (some (.builtin "object.__class__")))
  (hn:specialIn K (.builtin "object.__class__") "__get__" = some (some (.builtin "getset_descriptor.__get__")))(htk:takesIn K (.builtin "object.__class__")=some true)(hm:mroIn K D (.type "object")=some true)(hm2:mroIn K D (.type "BaseException")=some true)
  (X:K.In s.heap)(L0:Looks (model prog w) s.heap (typeOf (.ref x)) (.ref D))(h:Q (some (.ref D)) { s with toks:=s.toks+1 }):wpAny (model prog w) A (getAttr? (.ref x) "__class__") Q E s:=by
 obtain ⟨hh,g,d,t,os⟩:=s;have Lg:=looks_findIn (M:=model prog w) X hga;have L2:=Ey (M:=model prog w) (x:=x) X ha hn htk;have L3:=looks_findIn (M:=model prog w) X hgn;unfold getAttr?;unfold getAttrBy?;unfold getAttrBy;refine wpAny_bind (wpAny_mkText (wpAny_bind (wpAny_attempt (wpAny_holding (wpAny_bind (L0.at (wpAny_bind (Lg.at ?_))))))));show wpAny _ _ (getAttrByItsOwn (.ref x) (.str "__class__" t) (.ref D) (.builtin "BaseException.__getattribute__") false false) _ _ _;unfold getAttrByItsOwn;refine wpAny_bind ?_;show wpAny _ _ (typeLookup (.ref D) "__getattr__") _ _ _;refine L3.at (wpAny_bind (wpAny_attempt (wpAny_holding ?_)));show wpAny _ _ (bindSpecial (.builtin "BaseException.__getattribute__") (.ref x) >>= _) _ _ _;refine wpAny_bind (wpAny_of_eq (F.excAttr_ValueError.ga.bind _) ?_);refine wpAny_call (codeAny_call_builtin F.excAttr_ValueError.ga.plain F.entry_bexc_ga (NS X L0 hm2 (F.args_bexc_ga _ _) ?_));unfold «object.__getattribute__»;refine wpAny_bind (wpAny_of_eq (show slotArgs "__getattribute__" 1 ⟨[.ref x]++[.str "__class__" t],[]⟩=pure (.ref x,[.str "__class__" t]) from rfl) ?_)
 refine wpAny_bind (wpAny_of_eq (show attrName (.str "__class__" t)=pure ("__class__" : Str) from rfl) (wpAny_bind (L0.at (wpAny_bind (L2.at ?_)))))
 show wpAny _ _ (holding [Value.builtin "object.__class__"] (call (.builtin "getset_descriptor.__get__") [.builtin "object.__class__",.ref x,.ref D]) >>= ret) _ _ _;refine wpAny_bind (wpAny_holding (wpAny_call (Hn (s:=⟨hh,g,d,t+1,os⟩) X L0 hm ?_)));refine wpAny_pure ?_;exact handed_on rfl (wpAny_pure h)
end
noncomputable def K5 (x D:Addr)(h:Heap):Prop:=∃o,h.get? x=some o/\o.cls=.ref D
theorem K5.ty {x D:Addr}{M:Model}{h:Heap}(p:K5 x D h):Looks M h (typeOf (.ref x)) (.ref D):=by
 obtain ⟨o,ho,hc⟩:=p;rw [<- hc];exact (Looks.ld ho).andThen .now
theorem ID {K:Frag}{x D:Addr}(hc:(clsIn K D).isSome=true)(hga:findIn K (.ref D) "__getattribute__" = some (some (.builtin "BaseException.__getattribute__")))(hgn:findIn K (.ref D) "__getattr__" = some none)(ha:findIn K (.ref D) "__class__" = some (some (.builtin "object.__class__")))
  (hn:specialIn K (.builtin "object.__class__") "__get__" = some (some (.builtin "getset_descriptor.__get__")))(htk:takesIn K (.builtin "object.__class__")=some true)(hm:mroIn K D (.type "object")=some true)(hm2:mroIn K D (.type "BaseException")=some true):
  KitX K (.ref x) (.ref D) (K5 x D) where
 ty:=λ _ _ _ p=>p.ty
 it:=λ _ _ X _=>by
  obtain ⟨cdD,hcD⟩:=Option.isSome_iff_exists.mp hc;unfold clsIn at hcD
  split at hcD
  ·rename_i c' d' cd' sl' ho
   intro A' Q' E' s' k q;unfold isType loadHead;exact wpAny_bind (wpAny_loadPart (k _ _ (X D _ ho)) (wpAny_pure q))
  ·cases hcD
 ne:=λ _ tp dd its n sl X ht=>by
  obtain ⟨cdD,hcD⟩:=Option.isSome_iff_exists.mp hc;rw [Bool.eq_false_iff];intro q;cases Value.ref.inj (beq_iff_eq.mp q);unfold clsIn at hcD
  split at hcD
  ·rename_i ho
   cases (X _ _ ho).symm.trans ht
  ·cases hcD
 ca:=λ X p k=>Nb hga hgn ha hn htk hm hm2 X p.ty k
end Mi
namespace Mi
open PySem PySem.Spec PyProof.Rows L2
noncomputable def Yf (K:Frag)(C:Addr):Bool:=(PySem.W.clsIn K C).isSome&&(PySem.W.findIn K (.ref C) "__getattribute__" == some (some (.builtin "BaseException.__getattribute__")))&&(PySem.W.findIn K (.ref C) "__getattr__" == some none)&&(PySem.W.findIn K (.ref C) "__class__" == some (some (.builtin "object.__class__")))&&
 (PySem.W.specialIn K (.builtin "object.__class__") "__get__" == some (some (.builtin "getset_descriptor.__get__")))&&(PySem.W.takesIn K (.builtin "object.__class__")==some true)&&(PySem.W.mroIn K C (.type "object")==some true)&&(PySem.W.mroIn K C (.type "BaseException")==some true)
section
variable {X:Cx}{pins:List (Addr × Obj)}{σ:St}{H:Hp}{s:Shared}{A:Around}{E:Value->Shared->Prop}{Q:Value->Shared->Prop}{c:Value}{b:Bool}{ea C:Addr}
theorem DT {oe:Obj}{uo:HO}(I:Inv X pins σ H s)(e:H ea=some (.frz oe uo))(hoe:oe.cls=.ref C)(k:Yf X.K C=true)(q:PySem.W.kitOne X.K (.ref C) c=some b)(h:∀tk,Q (.bool b) { s with toks:=tk }):
  wpAny (model X.prog X.w) A (call (.builtin "isinstance") [.ref ea,c]) Q E s:=by
 have p:K5 ea C s.heap:=⟨oe,(show jj X.prog X.w H s.heap ea (.frz oe uo) from I.hok ea _ e).1,hoe⟩
 unfold Yf at k;simp only [and_eq_true,beq_iff_eq] at k;obtain ⟨⟨⟨⟨⟨⟨⟨k1,k2⟩,k22⟩,k3⟩,k4⟩,k5⟩,k6⟩,k7⟩:=k;exact PySem.W.kia_one (ID k1 k2 k22 k3 k4 k5 k6 k7) I.kIn p q (λ z=>nomatch z) h
theorem Dh (I:Inv X pins σ H s)(q:PySem.W.kitOne X.K (.type "NoneType") c=some b)(h:∀tk,Q (.bool b) { s with toks:=tk }):wpAny (model X.prog X.w) A (call (.builtin "isinstance") [.none,c]) Q E s:=
 T4 I (x:=.non) rfl .non q h
end
noncomputable def Zb (P:Program)(w:World)(K:Frag)(mg:Str->Option Value)(base:Heap)(N:List Str)(qual:Str)(scope:Scope)(f:Addr)(cd:Value)(cl:List (Str × Addr))(A:Around)(outer:List Env)(s:Shared)(H:Hp)(E:XK):Cx where
 prog:=P
 w:=w
 K:=K
 mg:=mg
 base:=base
 A:=A.deeper (PySem.W.envX qual scope s.heap.objs.size f cd cl)
 N:=N
 s0:=s
 H0:=H
 env:=PySem.W.envX qual scope s.heap.objs.size f cd cl
 outer:=outer
 stack:=PySem.W.envX qual scope s.heap.objs.size f cd cl::outer
 ex:=[]
 calm:=true
 fn:=λ _=>false
 pn:=[]
 xe:=λ e s'=>wpAny (model P w) (A.deeper (PySem.W.envX qual scope s.heap.objs.size f cd cl)) (leaving (PySem.W.envX qual scope s.heap.objs.size f cd cl) e) (λ _ s''=>wZ P w outer H s E e s'') (λ e' s''=>wZ P w outer H s E e' s'') s'
section
variable {P:Program}{w:World}{K:Frag}{mg:Str->Option Value}{base:Heap}{N:List Str}{qual:Str}{scope:Scope}{f:Addr}{cd:Value}{cl:List (Str × Addr)}{A:Around}{outer:List Env}{s:Shared}{H:Hp}{E:XK}
theorem MP {pins:List (Addr × Obj)}{σ:St}{H':Hp}{s':Shared}{ea C:Addr}(I:Inv (Zb P w K mg base N qual scope f cd cl A outer s H E) pins σ H' s')(x:wt H' s'.heap s.heap ea (.ref C))(hE:E (.ref C) none H'):
  (Zb P w K mg base N qual scope f cd cl A outer s H E).xe (.ref ea) s':=by
 have bs:Un (qt outer) [] H H' s.heap s'.heap:=I.base;have stk:∀b∈qt (PySem.W.envX qual scope s.heap.objs.size f cd cl::outer),H' b=none:=I.stkFree;have hL:s.heap.get? s.heap.objs.size=none:=Heap.get?_none_of_le (le_refl _);have hfe:(PySem.W.envX qual scope s.heap.objs.size f cd cl).frame=some s.heap.objs.size:=rfl;have mem:∀b,b∈qt (PySem.W.envX qual scope s.heap.objs.size f cd cl::outer)↔b=s.heap.objs.size∨b∈qt outer:=λ b=>by
  unfold qt;rw [filterMap_cons,hfe];exact mem_cons
 show wpAny (model P w) (A.deeper (PySem.W.envX qual scope s.heap.objs.size f cd cl)) (leaving (PySem.W.envX qual scope s.heap.objs.size f cd cl) (.ref ea)) _ _ s';refine R9 (base:=base) (L:=s.heap.objs.size) I.ok.frames rfl I.stack x (λ b u e=>(I.hok b u e).obj) (λ b o e=>bs.there b o e (by simp)) λ h' k1 k2 x' tr'=>?_
 have nfr:∀b u,H' b=some u->b∉qt (PySem.W.envX qual scope s.heap.objs.size f cd cl::outer):=λ b u e hm=>by rw [stk b hm] at e;cases e
 refine ⟨ea,C,H',rfl,I.os,I.bare,⟨λ b o e n nb _=>?_,λ b o e n mb _=>?_,λ b o e n hx=>bs.free b o e n hx,λ b o e hx=>?_,bs.tups,bs.frzs,bs.tbls⟩,λ b u e=>?_,x',tr',hE⟩
 ·have nL:b≠s.heap.objs.size:=λ z=>by rw [z,hL] at e;cases e
  exact k1 b o (bs.keep b o e n nb (by simp)) (λ hm=>(mem b).mp hm |>.elim nL nb) (.inl ⟨o,e⟩)
 ·obtain ⟨sl,q⟩:=bs.slot b o e n mb (by simp)
  obtain ⟨sl',q'⟩:=k2 b _ q ((mem b).mpr (.inr mb));exact ⟨sl',q'⟩
 ·obtain ⟨o',q⟩:=bs.there b o e hx
  by_cases hm:b∈qt (PySem.W.envX qual scope s.heap.objs.size f cd cl::outer)
  ·obtain ⟨sl,z⟩:=k2 b o' q hm;exact ⟨_,z⟩
  ·exact ⟨o',k1 b o' q hm (.inl ⟨o,e⟩)⟩
 ·refine (I.hok b u e).stay (λ c v hc q=>?_) (λ _ q=>q) λ _ _ q=>q
  rcases hc with z | z
  ·rw [z] at q ⊢;exact k1 b v q (nfr b u e) (.inr ⟨u,e⟩)
  ·exact k1 c v q (nfr c _ z) (.inr ⟨_,z⟩)
theorem Ci:gz (Zb P w K mg base N qual scope f cd cl A outer s H E) s.heap (gG K E) where
 th:=λ pins σ H' s' I b o e=>(show Un (qt outer) [] H H' s.heap s'.heap from I.base).there b o e (by simp)
 out:=λ pins σ H' s' ea C x I ly c hx=>MP I ly (hx C c)
structure XQ (N:List Str)(sc:Scope):Prop where
 kind:sc.kind=.function
 co:sc.isCoroutine=false
 gen:sc.isGenerator=false
 nocell:∀y∈sc.names,y.2≠.cell
structure Kx (base:Heap)(N:List Str)(scope:Scope)(cl:List (Str × Addr))(vs:List V):Prop where
 len:vs.length=N.length
 inj:∀x y c,cl.lookup x=some c->cl.lookup y=some c->x=y
 has:∀x,scope.names.lookup x=some .free->∃c,cl.lookup x=some c
 cell:∀x c,cl.lookup x=some c->∃v,base.IsCell c v
 val:∀(i:Nat) (x:Str) (v:V),N[i]? =some x->vs[i]? =some v->∃c u,scope.names.lookup x=some .free/\cl.lookup x=some c/\base.IsCell c (some u)/\RelV v u
theorem FI {vs:List V}{h1:Heap}{tk:Tok}(S:XQ N scope)(hd:A.handled=none)(e0:QL P w K mg base A outer s H)(C:Kx base N scope cl vs)(hns:∃m,h1.Ns s.heap.objs.size m)(hk:∀b o,s.heap.get? b=some o->h1.get? b=some o):
  Inv (Zb P w K mg base N qual scope f cd cl A outer s H E) [] (L2.start N vs) H { s with heap:=h1,toks:=tk }:=by
 have kN:∀b:Addr,b∉(Zb P w K mg base N qual scope f cd cl A outer s H E).ex:=λ b z=>absurd (show b∈([]:List Addr) from z) (by simp)
 have bk:∀c v,base.IsCell c v->h1.IsCell c v/\H c=none:=λ c v ⟨o,ho,hd⟩=>⟨⟨o,hk _ _ (e0.bs _ _ ho).1,hd⟩,(e0.bs _ _ ho).2⟩;obtain ⟨m,hm⟩:=hns;refine ⟨⟨e0.mod,S.kind,rfl,rfl,le_refl _,C.inj,λ y hy=>?_,λ y c z _=>(nomatch z),λ _=>hd,Around.frames_deeper e0.frames,.inr ⟨rfl,rfl⟩,λ b z=>absurd z (kN b),e0.bs,e0.bsz,λ b _ _=>kN b,λ b z=>absurd z (kN b),e0.funs,e0.frf⟩,
  rfl,e0.bare,Un.kept hk,⟨m,hm,λ i y v h1 h2 h3=>?_⟩,λ y c h=>?_,e0.hok.fresh (le_refl _),λ y c h=>?_,λ p hp=>absurd (show p∈([]:List (Addr × Obj)) from hp) (by simp),e0.hok.kept hk,?_⟩
 ·have hy:scope.names.lookup y=some .cell∨scope.names.lookup y=some .free:=hy
  rcases hy with hy | hy
  ·exact absurd rfl (S.nocell _ (PySem.mem_of_lookup hy))
  ·exact C.has y hy
 ·have hi:i<vs.length:=by
   unfold L2.start at h2
   by_cases hi:i<vs.length
   ·exact hi
   ·rw [getElem?_append_right (by simpa using hi)] at h2
    rw [getElem?_replicate] at h2
    split at h2<;>cases h2
  have ha:vs[i]? =some v:=by
   unfold L2.start at h2;rw [getElem?_append_left (by simpa using hi),getElem?_map] at h2
   cases e:vs[i]? with
   | none=>rw [e] at h2;cases h2
   | some a=>rw [e] at h2;cases h2;rfl
  obtain ⟨c,u,k,e,z,r⟩:=C.val i y v h1 ha;exact ⟨u,r,.inr ⟨.inr k,c,e,(bk _ _ z).1⟩⟩
 ·obtain ⟨v,z⟩:=C.cell y c h
  exact ⟨v,(bk _ _ z).1⟩
 ·obtain ⟨v,z⟩:=C.cell y c h
  exact (bk _ _ z).2
 ·unfold L2.start
  show _=N.length;rw [length_append,length_map,length_replicate,C.len];omega
noncomputable def RT (oc:Obj)(q:Str):Prop:=∃vs t,oc.data=.fields vs/\vs[1]? =some (.str q t)
theorem Eb {k:Nat}{name:Str}{params:Arguments}{body:Expr}{pm ctv:Value}{a c:Addr}{oc:Obj}{u uc:HO}{vs:List V}{m:Ev}(S:XQ N scope)(C:Kx base N scope cl vs)(hoc:RT oc qual)
  (hbody:∀(A:Around) (outer:List Env) (s:Shared) (H:Hp) (E:XK),ju k (A.deeper (PySem.W.envX qual scope s.heap.objs.size a (.ref c) cl))->gz (Zb P w K mg base N qual scope a (.ref c) cl A outer s H E) s.heap (gG K E)->
   SE (Zb P w K mg base N qual scope a (.ref c) cl A outer s H E) (gG K E) body m):
  yk P w K mg base (wZ P w) (k+1) a (PySem.W.kla_fn name qual params body scope cl pm (.ref c) ctv) [] (λ us H Q E=>us=[]/\H a=some (.frz (PySem.W.kla_obj name qual params body scope cl pm c ctv) u)/\H c=some (.frz oc uc)/\
   ∃φ A ws,zH K φ A H/\zD K φ H ws vs/\(m (ws.map some) A).post (PB K φ H Q) (EB K φ H (gG K E))):=by
 refine ⟨λ us H Q E h=>by rw [h.1];rfl,λ A outer s H args us vs' Q E hr e0 hb r h=>?_⟩
 obtain ⟨rfl,h1,h2,φ,A1,ws,Sm,rv,hp⟩:=h;cases r;have ho:s.heap.get? a=some (PySem.W.kla_obj name qual params body scope cl pm c ctv):=(show jj P w H s.heap a (.frz _ u) from e0.hok a _ h1).1
 have hc:s.heap.get? c=some oc:=(show jj P w H s.heap c (.frz oc uc) from e0.hok c _ h2).1
 have lim:s.heap.NoLimit:=e0.mod.nolimit.keeps λ b o e=>(e0.bs b o e).1;obtain ⟨vc,tc,hd1,hd2⟩:=hoc;refine PySem.W.kla_callFunE hr.depth ho rfl S.co S.gen rfl ⟨c,oc,vc,tc,rfl,hc,hd1,hd2⟩ (hb _ _ _ _ ?_);refine wpAny_newFunctionEnv S.nocell (λ y hy=>absurd (show y∈([]:List (Str × Value)) from hy) (by simp)) (λ h₁ hns hsb=>⟨lim.fresh _ hsb,?_⟩) S.kind
 show codeAny _ _ (.expr body (PySem.W.envX qual scope s.heap.objs.size a (.ref c) cl)) _ _;have hk₁:∀b o,s.heap.get? b=some o->h₁.get? b=some o:=λ b o e=>hsb.extBut b o (ne_of_lt (Heap.lt_size e)) (Heap.get?_push_of_some _ e);have I:∀tk,Inv (Zb P w K mg base N qual scope a (.ref c) cl A outer s H E) [] (L2.start N vs) H { s with heap:=h₁,toks:=tk }:=λ tk=>FI S hr.hd e0 C ⟨_,hns⟩ hk₁
 refine PySem.W.kla_codeExpr (wpAny_mono (hbody A outer s H E (hr.deeper _) Ci [] _ (L2.start N vs) H Q (I _) ⟨φ,A1,_,Sm,RE.start (N:=N) rv,?_⟩) (λ v s' hv=>?_) λ _ _ y=>y)
 ·have:N.length - ws.length=0:=by rw [rv.length,C.len];omega
  rw [this,List.replicate_zero,append_nil];exact hp
 ·obtain ⟨x,H',J,rx,q⟩:=hv
  exact ⟨x,H',J.os,J.bare,J.base,J.hok,rx,q⟩
end
inductive DU (K:Frag)(a:Addr)(ob:Obj)(u:HO)(c:Addr)(oc:Obj)(uc:HO)(vs:List V)(g:Fn)(us:List V)(H:Hp)(Q:VK)(E:XK):Prop
 | mk (e:us=[]) (h1:H a=some (.frz ob u)) (h2:H c=some (.frz oc uc)) (φ:List Addr) (A:Hx) (ws:List W) (S:zH K φ A H) (r:zD K φ H ws vs) (q:(g ws A).post (PB K φ H Q) (EB K φ H (gG K E)))
noncomputable def gX (P:Program)(w:World)(K:Frag)(mg:Str->Option Value)(base:Heap)(j:Nat)(Pk:Obj->Addr->Obj->List V->Prop)(g:Fn):Prop:=
 ∀a ob u c oc uc vs,Pk ob c oc vs->(∃fd,ob.data=.func fd)/\∃fd,yk P w K mg base (wZ P w) j a fd [] (DU K a ob u c oc uc vs g)/\∀s,BindsTo s fd ⟨[],[]⟩ []
open Classical in
noncomputable def Wh (i:Nat)(PG:Nat->Obj->Addr->Obj->List V->Prop)(lam:Nat->Fn):Ev:=λ ρ A=>match ρ[i]? with
 | some (some (.clo k ws P))=>if P=PG k then lam k ws A else .bad
 | _=>.bad
noncomputable def YD (i j l:Nat)(cs:List Str)(PG:Nat->Obj->Addr->Obj->List V->Prop)(lam:Nat->Fn):Ex:=λ ρ A=>match Wh i PG lam ρ A with
 | .ok _ A1=>.ok (.nx ρ) A1
 | .exc x A1=>if cs.contains x then .ok (.nx (((ρ.set l (some (.xc x))).set j (some (.xc x))).set l none)) A1 else .bad
 | .bad=>.bad
section
variable {K:Frag}{φ:List Addr}{H:Hp}{ρ:En}{σ:St}
theorem RE.unset {i:Nat}(r:RE K φ H ρ σ):RE K φ H (ρ.set i none) (σ.set i none):=
 ⟨by simp [r.len],λ j u e=>by
  by_cases h:i=j
  ·subst h
   have hi:i < ρ.length:=by
    have:=(List.getElem?_eq_some_iff.mp e).1
    simpa using this
   rw [getElem?_set_self hi] at e;cases e
  ·rw [getElem?_set_ne h] at e
   obtain ⟨x,h1,h2⟩:=r.get j u e;exact ⟨x,by rw [getElem?_set_ne h];exact h1,h2⟩⟩
end
noncomputable def PH (K:Frag)(φ:List Addr)(H:Hp)(ρ:En)(j l:Nat)(D0:Ends)(xn:Str)(A':Hx):Prop:=∀φ2 H2 σ2,Le K φ H φ2 H2->zH K φ2 A' H2->RE K φ2 H2 (((ρ.set l (some (.xc xn))).set j (some (.xc xn))).set l none) σ2->D0.nx σ2 H2
inductive C9 (K:Frag)(φ:List Addr)(H:Hp)(ρ:En)(j l:Nat)(D0:Ends)(ea C:Addr)(H':Hp):Prop
 | mk (xn:Str) (φ':List Addr) (A':Hx) (le:Le K φ H φ' H') (S:zH K φ' A' H') (rv:RV K φ' H' (.xc xn) (.ref ea)) (n:PH K φ H ρ j l D0 xn A')
inductive Bi (K:Frag)(φ:List Addr)(H:Hp)(ρ:En)(j l:Nat)(D0:Ends)(cs:List Str)(Cv:Value)(d:Option Addr)(H1:Hp):Prop
 | mk (xn:Str) (Ca:Addr) (e:Cv=.ref Ca) (hC:yD K xn (.ref Ca)) (hc:cs.contains xn=true) (φ1:List Addr) (A1:Hx) (le:Le K φ H φ1 H1) (S:zH K φ1 A1 H1) (n:PH K φ H ρ j l D0 xn A1)
section
variable {X:Cx}{xr:XR}{L D:Addr}{i j l kk:Nat}{x n y xD:Str}{cs:List Str}{PG:Nat->Obj->Addr->Obj->List V->Prop}{lam:Nat->Fn}{bmD:List Value}{newD:String}{np cp ep dp yp np2 ap hp pos:Pos}
end
noncomputable def PU (K:Frag)(f:Str->Option Bool)(cv:V):List V->Hp->VK->Prop:=λ xs H Q=>∃x,xs=[x,cv]/\((x=.non/\Q (.bl false) H)∨∃a oe uo C nm b,x=.ref a/\H a=some (.frz oe uo)/\oe.cls=.ref C/\yD K nm (.ref C)/\f nm=some b/\Q (.bl b) H)
structure Yq (K:Frag)(f:Str->Option Bool)(c:Value):Prop where
 non:PySem.W.kitOne K (.type "NoneType") c=some false
 exc:∀nm C b,f nm=some b->yD K nm (.ref C)->Yf K C=true/\PySem.W.kitOne K (.ref C) c=some b
noncomputable def qV (f:Str->Option Bool)(m:Ev):Ev:=λ ρ A=>(m ρ A).bind λ w A1=>match w with
 | .non=>.ok (.bl false) A1
 | .xc nm=>(match f nm with
  | some b=>.ok (.bl b) A1
  | none=>.bad)
 | _=>.bad
section
variable {X:Cx}{xr:XR}{e:Expr}{m:Ev}{pos p p':Pos}{f:Str->Option Bool}{x:Str}
theorem Se {cv:V}{c:Value}(hc:Yq X.K f c)(rc:∀u,RelV cv u->u=c):jV X (.builtin "isinstance") (PU X.K f cv):=by
 intro pins s σ H xs us Q I r h;obtain ⟨x,rfl,h⟩:=h;obtain ⟨u,u',rfl,ru,ru'⟩:=vals2 r;cases rc _ ru';rcases h with ⟨rfl,q⟩ | ⟨a,oe,uo,C,nm,b,rfl,h1,h2,h3,h4,q⟩
 ·cases (show u=Value.none from ru)
  exact Dh I hc.non λ tk=>⟨.bl false,H,I.tok tk,rfl,q⟩
 ·cases (show u=Value.ref a from ru)
  obtain ⟨k1,k2⟩:=hc.exc nm C b h4 h3;exact DT I h1 h2 k1 k2 λ tk=>⟨.bl b,H,I.tok tk,rfl,q⟩
theorem qV.read {cv:V}{t2:TE}(h2:∀σ H Q,Q cv H->t2 σ H Q):∀σ H Q,tM X.K xr (qV f m) σ H Q->Wy (PU X.K f cv) (Wb (tM X.K xr m) (Wb t2 Um)) σ H Q:=by
 rintro σ H Q ⟨φ,A,ρ,S,re,h⟩
 refine tM.go S re (zY.mp h) λ w A1 φ1 H1 v h1 l1 S1 q1=>?_;refine h2 σ H1 _ ?_;cases w with
 | non=>
  obtain rfl:=q1;exact ⟨.non,rfl,.inl ⟨rfl,h1 φ1 H1 _ l1 S1 rfl⟩⟩
 | xc nm=>
  dsimp only at h1;cases ef:f nm with
  | none=>rw [ef] at h1;exact h1.elim
  | some b=>
   rw [ef] at h1;obtain ⟨a,oe,u,C,rfl,z1,z2,z3⟩:=q1;exact ⟨.ref a,rfl,.inr ⟨a,oe,u,C,nm,b,rfl,z1,z2,z3,ef,h1 φ1 H1 _ l1 S1 rfl⟩⟩
 | bl _=>exact h1.elim
 | int _=>exact h1.elim
 | str _=>exact h1.elim
 | tup _=>exact h1.elim
 | ref _=>exact h1.elim
 | clo _ _ _=>exact h1.elim
end
theorem OZ {pos:Pos}{a b:Int}{c cv:Value}(l:List Value)(h:TriplesOk l)(e:codeAmong pos (l++[rawInt a,rawInt b,c])=some cv):codeAmong pos l=some cv∨cv=c:=by
 fun_induction TriplesOk l with
 | case1=>
  right
  simp only [nil_append,codeAmong,rawInt] at e
  split at e
  ·exact (Option.some.inj e).symm
  ·cases e
 | case2 a' t b' u x rest ih=>
  simp only [List.cons_append,codeAmong] at e ⊢
  split at e
  ·rename_i hc;rw [if_pos hc];exact .inl e
  ·rename_i hc;rw [if_neg hc];exact ih h e
 | case3 l h1 h2=>exact h.elim
noncomputable def BMain (mg:Str->Option Value)(base:Heap):Prop:=∃bm o,mg "__builtins__" = some (.ref bm)/\bm≠builtinsNs/\bm≠mainGlobals/\base.get? bm=some o/\o.cls=.type "module" /\ o.dict=some builtinsNs/\o.data=.plain
noncomputable def Wu (q:Str)(params:Arguments)(body:Expr)(scope:Scope)(clos:List (Str × Addr)):Obj->Addr->Obj->List V->Prop:=λ ob c oc _=>(∃pm ctv,ob=PySem.W.kla_obj "<lambda>" q params body scope clos pm c ctv)/\RT oc q
noncomputable def yZ (n:Nat)(q:Str)(P:Addr)(k:Nat)(PF:Obj->Addr->Obj->List V->Prop):Ev:=λ _ A=>match A[n]? with
 | some (.tab q' P')=>if q'=q/\P'=P then .ok (.clo k [] PF) A else .bad
 | _=>.bad
section
variable {X:Cx}{xr:XR}{n k:Nat}{q:Str}{P c:Addr}{params:Arguments}{body:Expr}{scope:Scope}{clos:List (Str × Addr)}{pos:Pos}
theorem EO (hB:BMain X.mg X.base)(hcode:X.env.code=.ref c)(C:PySem.W.CodeHd X.base c P)(hcl:closureFor scope X.env=pure clos)(hq:X.env.qual ++ "<lambda>" = q)(hdef:defaultsOf params X.env=([],[]):=by rfl):
  SE X xr (.Lambda params body scope pos) (yZ n q P k (Wu q params body scope clos)):=by
 intro pins s σ H Q I ⟨φ,A,ρ,S,re,h⟩;unfold yZ at h;cases ei:A[n]? with
 | none=>rw [ei] at h;exact h.elim
 | some o=>
  rw [ei] at h;cases o with
  | tab q' P'=>
   dsimp only at h
   by_cases hc:q'=q/\P'=P
   ·rw [if_pos hc] at h
    obtain ⟨rfl,rfl⟩:=hc;obtain ⟨a,ha,eaP,ps,hH,tg⟩:=S.ob n _ ei;subst eaP;have hP:s.heap.get? a=some (PySem.W.tabObj ps):=(show jj X.prog X.w H s.heap a (.tbl ps) from I.hok a _ hH)
    have hg:s.heap.Ns mainGlobals X.mg:=I.mod.glob.keeps I.bk;have hgP:mainGlobals≠a:=λ z=>by
     obtain ⟨o,es,ep,e,hd,_⟩:=hg;rw [z,hP] at e;cases e;cases hd
    have hb:s.heap.BuiltinsAt X.mg a:=by
     obtain ⟨bm,o,b1,b2,b3,b4,b5⟩:=hB;refine ⟨bm,o,b1,b2,b3,λ z=>?_,I.bk _ _ b4,b5⟩
     have:=(I.bs _ _ b4).2
     rw [z,hH] at this;cases this
    refine PySem.W.kla_eval hdef ?_;rw [hq];have kN:∀b,s.heap.objs.size<=b->H b=none:=λ b hb=>I.hok.fresh hb;cases hf:codeAmong pos ps.toList with
    | none=>
     refine PySem.W.kla_makeFunction (mg:=X.mg) hcl I.ok.glob hg hcode (C.keeps I.bk) hP tg.1 hf hgP hb λ c' ctv h' tk hx hge hlt hrec htb=>?_;obtain ⟨c2,oc,vc,tc,ec,hoc,hd1,hd2⟩:=hrec;cases ec;generalize hob:PySem.W.kla_obj "<lambda>" q' params body scope clos ((X.mg "__name__").getD .none) c' ctv=ob;have hPc:a<s.heap.objs.size:=Heap.lt_size hP;have nPc:a≠c':=ne_of_lt (lt_of_lt_of_le hPc hge);have nPf:a≠h'.objs.size:=ne_of_lt (lt_trans (lt_of_lt_of_le hPc hge) hlt);have ncf:c'≠h'.objs.size:=ne_of_lt hlt;have hsf:s.heap.objs.size<=h'.objs.size:=le_trans hge (le_of_lt hlt);have H0c:H c'=none:=kN c' hge;have H0f:H h'.objs.size=none:=kN _ hsf;have H1f:upd H c' (.frz oc (.own 0)) h'.objs.size=none:=by rw [qj (Ne.symm ncf)];exact H0f
     generalize hps:ps++#[rawInt pos.line,rawInt pos.col,.ref c']=ps' at htb;have S1:=S.lay (u:=.frz oc (.own 0)) H0c;have S2:=S1.lay (u:=.frz ob (.own 0)) H1f;have fz:∀b o u,upd (upd H c' (.frz oc (.own 0))) h'.objs.size (.frz ob (.own 0)) b=some (.frz o u)->upd (upd (upd H c' (.frz oc (.own 0))) h'.objs.size (.frz ob (.own 0))) a (.tbl ps') b=some (.frz o u):=λ b o u e=>by
      rw [qj];exact e;intro z;rw [z,qj nPf,qj nPc,hH] at e;cases e
     have fz0:∀b o u,H b=some (.frz o u)->upd (upd H c' (.frz oc (.own 0))) h'.objs.size (.frz ob (.own 0)) b=some (.frz o u):=λ b o u e=>by
      rw [qj (kz e H0f),qj (kz e H0c)];exact e
     have tg':YC (upd (upd (upd H c' (.frz oc (.own 0))) h'.objs.size (.frz ob (.own 0))) a (.tbl ps')) q' ps':=by
      rw [<- hps];refine ⟨by rw [Array.toList_append];exact TriplesOk_snoc _ _ _ _ tg.1,λ pos' cv e=>?_⟩
      rw [Array.toList_append] at e;rcases OZ _ tg.1 e with e | e
      ·obtain ⟨c0,oc0,u0,vs0,t0,g1,g2,g3⟩:=tg.2 pos' cv e
       exact ⟨c0,oc0,u0,vs0,t0,g1,by rw [hps];exact fz _ _ _ (fz0 _ _ _ g2),g3⟩
      ·exact ⟨c',oc,.own 0,vc,tc,e,by rw [hps];exact fz _ _ _ (by rw [qj ncf,jy]),hd1,hd2⟩
     obtain ⟨l3,S3⟩:=S2.write (o:=.tab q' a) (o':=.tab q' a) ei rfl rfl ha (u:=.tbl ps') ⟨rfl,ps',jy,tg'⟩;have l03:Le X.K φ H φ _:=((Le.new H0c).trans (Le.new H1f)).trans l3;have set3:A.set n (.tab q' a)=A:=by
      apply ext_getElem?
      intro i
      by_cases hi:n=i
      ·subst hi
       rw [getElem?_set_self (List.getElem?_eq_some_iff.mp ei).1,ei]
      ·rw [getElem?_set_ne hi]
     rw [set3] at S3;have eP:upd (upd (upd H c' (.frz oc (.own 0))) h'.objs.size (.frz ob (.own 0))) a (.tbl ps') a=some (.tbl ps'):=jy;have ec:upd (upd (upd H c' (.frz oc (.own 0))) h'.objs.size (.frz ob (.own 0))) a (.tbl ps') c'=some (.frz oc (.own 0)):=by rw [qj (Ne.symm nPc),qj ncf,jy]
     have ef:upd (upd (upd H c' (.frz oc (.own 0))) h'.objs.size (.frz ob (.own 0))) a (.tbl ps') h'.objs.size=some (.frz ob (.own 0)):=by rw [qj (Ne.symm nPf),jy]
     have eo:∀b,b≠a->b≠c'->b≠h'.objs.size->upd (upd (upd H c' (.frz oc (.own 0))) h'.objs.size (.frz ob (.own 0))) a (.tbl ps') b=H b:=λ b n1 n2 n3=>by rw [qj n1,qj n3,qj n2]
     generalize upd (upd (upd H c' (.frz oc (.own 0))) h'.objs.size (.frz ob (.own 0))) a (.tbl ps')=H3 at S3 l03 eP ec ef eo;have kp:∀b o,b≠a->s.heap.get? b=some o->(h'.push ob).get? b=some o:=λ b o n e=>Heap.get?_push_of_some _ (hx b o n e);have old:∀b o,s.heap.get? b=some o->b≠c'/\b≠h'.objs.size:=λ b o e=>⟨ne_of_lt (lt_of_lt_of_le (Heap.lt_size e) hge),ne_of_lt (lt_of_lt_of_le (Heap.lt_size e) hsf)⟩;have nH:∀b u,H b=some u->b≠c'/\b≠h'.objs.size:=λ b u e=>⟨kz e H0c,kz e H0f⟩;have gP:(h'.push ob).get? a=some (PySem.W.tabObj ps'):=Heap.get?_push_of_some _ htb;have I3:Inv X pins σ H3 { s with heap:=h'.push ob,toks:=tk }:=by
      refine I.un ⟨λ b o e z hb _=>?_,λ b o e z hb _=>?_,λ b o e z _=>?_,λ b o e _=>?_,λ b xs e=>?_,λ b o u e=>?_,λ b qs e=>?_⟩ λ b u e=>?_
      ·exact kp b o (λ w=>by rw [w,hH] at z;cases z) e
      ·exact ⟨o.slots,kp b o (λ w=>by rw [w,hH] at z;cases z) e⟩
      ·rw [eo b (λ w=>by rw [w,hH] at z;cases z) (old b o e).1 (old b o e).2];exact z
      ·by_cases hb:b=a
       ·rw [hb];exact ⟨_,gP⟩
       ·exact ⟨o,kp b o hb e⟩
      ·rw [eo b (Yo e hH (by intro w;cases w)) (nH b _ e).1 (nH b _ e).2];exact e
      ·rw [eo b (Yo e hH (by intro w;cases w)) (nH b _ e).1 (nH b _ e).2];exact e
      ·by_cases hb:b=a
       ·subst hb
        rw [hH] at e;cases e;exact ⟨_,by rw [eP,<- hps]⟩
       ·exact ⟨#[],by rw [eo b hb (nH b _ e).1 (nH b _ e).2,e];simp⟩
      ·by_cases h1:b=a
       ·subst h1
        rw [eP] at e;cases e;exact gP
       ·by_cases h2:b=c'
        ·subst h2
         rw [ec] at e;cases e;exact ⟨Heap.get?_push_of_some _ hoc,⟨_,Heap.get?_push_of_some _ hoc⟩⟩
        ·by_cases h3:b=h'.objs.size
         ·subst h3
          rw [ef] at e;cases e;exact ⟨Heap.get?_push_size _ (by rw [<- hob];rfl),⟨_,Heap.get?_push_size _ (by rw [<- hob];rfl)⟩⟩
         ·rw [eo b h1 h2 h3] at e
          refine (I.hok b u e).stay (λ d v hd z=>kp d v ?_ z) (λ d z=>?_) λ d xs z=>?_
          ·rcases hd with w | w
           ·rw [w];exact h1
           ·exact Yo w hH (by intro w;cases w)
          ·rw [eo d (Yo z hH (by intro w;cases w)) (nH d _ z).1 (nH d _ z).2];exact z
          ·rw [eo d (Yo z hH (by intro w;cases w)) (nH d _ z).1 (nH d _ z).2];exact z
     exact ⟨.ref h'.objs.size,H3,I3,rfl,h φ H3 _ l03 S3 ⟨h'.objs.size,ob,.own 0,c',oc,.own 0,[],rfl,ef,ec,⟨⟨_,_,hob.symm⟩,vc,tc,hd1,hd2⟩,rfl⟩⟩
    | some cv=>
     obtain ⟨c',oc,u0,vc,tc,rfl,hHc,hd1,hd2⟩:=tg.2 pos cv hf;refine PySem.W.kla_makeFunctionHit (mg:=X.mg) hcl I.ok.glob hg hcode (C.keeps I.bk) hP tg.1 hf hb λ ctv h' tk hx hsz=>?_;generalize hob:({ cls:=.type "function",data:=.func (PySem.W.kla_fn "<lambda>" q' params body scope clos ((X.mg "__name__").getD .none) (.ref c') ctv) }:Obj)=ob;have H0f:H h'.objs.size=none:=kN _ hsz;have I3:Inv X pins σ (upd H h'.objs.size (.frz ob (.own 0))) { s with heap:=h'.push ob,toks:=tk }:=
      I.laid (λ b o e=>Heap.get?_push_of_some _ (hx b o e)) hsz ⟨Heap.get?_push_size _ (by rw [<- hob];rfl),⟨_,Heap.get?_push_size _ (by rw [<- hob];rfl)⟩⟩
     refine ⟨.ref h'.objs.size,_,I3,rfl,h φ _ _ (Le.new H0f) (S.lay H0f) ⟨h'.objs.size,ob,.own 0,c',oc,u0,[],rfl,jy,?_,⟨⟨_,_,hob.symm⟩,vc,tc,hd1,hd2⟩,rfl⟩⟩;rw [qj (kz hHc H0f)];exact hHc
   ·rw [if_neg hc] at h;exact h.elim
  | _=>exact h.elim
end
section
variable {K:Frag}{X:Cx}{pos:Pos}
theorem RE.monoW {φ φ':List Addr}{H H':Hp}{ρ:En}{σ:St}(r:RE K φ H ρ σ)(l:gB K φ H φ' H'):RE K φ' H' ρ σ:=⟨r.len,λ i w e=>let ⟨v,h1,h2⟩:=r.get i w e;⟨v,h1,h2.monoW l⟩⟩
inductive BK (G:List Addr->Hp->Prop)(K:Frag)(xr:XR)(m:Ev)(σ:St)(H:Hp)(Q:VK):Prop
 | mk (φ:List Addr) (A:Hx) (ρ:En) (S:zH K φ A H) (re:RE K φ H ρ σ) (g:G φ H) (h:(m ρ A).post (PB K φ H Q) (EB K φ H xr))
noncomputable def P0 (G:List Addr->Hp->Prop)(K:Frag)(xr:XR)(m:Ev):TE:=λ σ H Q=>BK G K xr m σ H Q
inductive BJ (G:List Addr->Hp->Prop)(K:Frag)(em:Em)(D:Addr)(σ:St)(H:Hp)(Q:St->Hp->Prop):Prop
 | mk (φ:List Addr) (A:Hx) (ρ:En) (acc:List W) (ys:List V) (S:zH K φ A H) (re:RE K φ H ρ σ) (g:G φ H) (hD:H D=some (.lst ys)) (nD:∀k:Nat,φ[k]?≠some D) (rv:zD K φ H acc ys)
  (h:(em ρ acc A).post (YJ K D φ H Q) wH)
noncomputable def UG (G:List Addr->Hp->Prop)(K:Frag)(em:Em):wa:=λ D σ H Q=>BJ G K em D σ H Q
theorem F1 {G:List Addr->Hp->Prop}{elt:Expr}{gens:List Comprehension}{sc:Scope}{d:Nat}{me:Ev}(hx:∀e s,X.xe e s->False)(he:PE X elt (P0 G X.K jT me))(hg:gens[d+1]? =none):ku X elt gens sc pos d (UG G X.K (zM me)):=
 ku.imp (Sw hx he hg) λ D σ H Q ⟨φ,A,ρ,acc,ys,S,re,g,hD,nD,ra,h⟩=>by
  refine ⟨φ,A,ρ,S,re,g,qp (JY (zY.mp h)) (λ w A1 h1 φ1 H1 v l1 S1 q1=>?_) λ _ _ z=>z⟩;obtain ⟨d1,n1⟩:=l1.off hD nD
  by_cases hz:acc.length<zZ
  ·rw [if_pos hz] at h1
   have hl:=ra.length;refine ⟨ys,d1,?_,?_⟩
   ·rw [<- hl]
    have:sizeLine=16777216:=sizeLine_eq
    unfold zZ at hz;omega
   ·exact h1 φ1 _ σ _ (l1.toD.trans (jZ.upd d1)) n1 (S1.off d1 n1) ⟨re.len,λ i w e=>let ⟨v,a,b⟩:=re.get i w e;⟨v,a,(b.mono l1).monoD (jZ.upd d1)⟩⟩ jy
     (((ra.mono l1).monoD (jZ.upd d1)).append (.one (q1.monoD (jZ.upd d1))))
  ·rw [if_neg hz] at h1;exact h1.elim
theorem qI.readG {G:List Addr->Hp->Prop}{tw:Tg}{ifs:Ev}{em:Em}{j:jx}{J:It}{K:Frag}{D:Addr}{φ:List Addr}{A:Hx}{H:Hp}{ρ:En}{σ:St}{acc:List W}{ys:List V}{Q:St->Hp->Prop}{f:Nat}
  (gm:∀φ H φ' H',gB K φ H φ' H'->G φ H->G φ' H')(g:G φ H)(jr:Zz K φ H j J)
  (S:zH K φ A H)(re:RE K φ H ρ σ)(hD:H D=some (.lst ys))(nD:∀k:Nat,φ[k]?≠some D)(ra:zD K φ H acc ys)
  (h:(qI j tw ifs em f 0 ρ acc A).post (YJ K D φ H Q) wH):
  Js J (tG K tw) (tT K jT ifs) (UG G K em) D σ H Q:=by
 refine ⟨λ i f σ' H'=>WC tw ifs em j K D φ H Q f i σ' H',
  ⟨f,φ,A,ρ,acc,ys,.refl,S,re,hD,nD,ra,h⟩,?_⟩
 rintro i f σ2 H2 ⟨φ2,A2,ρ2,acc2,ys2,l2,S2,re2,hD2,nD2,ra2,h2⟩
 obtain ⟨j1,j2⟩:=jr i φ2 H2 A2 ⟨l2.ex,l2.tp,l2.fz⟩ S2;cases ej:j.at_ A2 i with
 | none=>cases f<;>(unfold qI at h2;rw [ej] at h2;exact h2.elim)
 | some o=>
  cases o with
  | none=>
   left
   refine ⟨j2 ej,?_⟩;cases f<;>(unfold qI at h2;rw [ej] at h2;exact h2 φ2 H2 σ2 ys2 l2 nD2 S2 re2 hD2 ra2)
  | some w=>
   right
   obtain ⟨go,yl⟩:=j1 w ej;cases f with
   | zero=>unfold qI at h2;rw [ej] at h2;exact h2.elim
   | succ f=>
    unfold qI at h2;rw [ej] at h2;refine ⟨go,λ σ' H'=>WC tw ifs em j K D φ H Q f (i+1) σ' H',λ σ' H' z=>⟨f,lt_succ_self _,z⟩,λ x H3 y=>?_⟩;obtain ⟨l3,S3,q3⟩:=yl x H3 y;obtain ⟨hD3,nD3⟩:=l3.off hD2 nD2;dsimp only at h2;cases et:tw w ρ2 with
    | none=>rw [et] at h2;exact h2.elim
    | some ρ3=>
     rw [et] at h2;refine ⟨φ2,A2,ρ2,w,ρ3,S3,re2.mono l3,q3,et,λ σ3 re3=>?_⟩;refine tT.go S3 re3 (JY (zY.mp h2)) λ c A4 h4=>?_;cases c with
     | bl k=>
      refine ⟨k,rfl,λ φ4 H4 l4 S4=>?_⟩;obtain ⟨hD4,nD4⟩:=l4.off hD3 nD3;have l04:=(l2.trans (l3.trans l4).toD);cases k with
      | true=>
       rw [if_pos rfl];refine ⟨φ4,A4,ρ3,acc2,ys2,S4,re3.mono l4,gm _ _ _ _ ⟨l04.ex,l04.tp,l04.fz⟩ g,hD4,nD4,ra2.mono (l3.trans l4),qp (zY.mp h4) (λ p A5 h5 φ5 H5 σ5 zs l5 n5 S5 re5 d5 r5=>?_) λ _ _ z=>z⟩;exact ⟨φ5,A5,p.1,p.2,zs,l04.trans l5,S5,re5,d5,n5,r5,h5⟩
      | false=>
       rw [if_neg Bool.false_ne_true];exact ⟨φ4,A4,ρ3,acc2,ys2,l04,S4,re3.mono l4,hD4,nD4,ra2.mono (l3.trans l4),h4⟩
     | non=>cases h4
     | int _=>cases h4
     | str _=>cases h4
     | tup _=>cases h4
     | ref _=>cases h4
     | clo _ _ _=>cases h4
     | xc _=>cases h4
end
structure Lm where
 N:List Str
 idx:List Nat
 params:Arguments
 body:Expr
 scope:Scope
 m:Ev
noncomputable def ko:List Nat->En->Option (List W)
 | [],_=>some []
 | j::js,ρ=>match ρ[j]?,ko js ρ with
  | some (some w),some ws=>some (w::ws)
  | _,_=>none
noncomputable def Zx:List Nat->St->Option (List V)
 | [],_=>some []
 | j::js,σ=>match σ[j]?,Zx js σ with
  | some (some w),some ws=>some (w::ws)
  | _,_=>none
theorem XH {K:Frag}{φ:List Addr}{H:Hp}{ρ:En}{σ:St}(r:RE K φ H ρ σ):∀{js:List Nat} {ws:List W},ko js ρ=some ws->∃vs,Zx js σ=some vs/\zD K φ H ws vs
 | [],ws,e=>by cases e;exact ⟨[],rfl,.nil⟩
 | j::js,ws,e=>by
  unfold ko at e;cases ej:ρ[j]? with
  | none=>rw [ej] at e;cases e
  | some ow=>cases ow with
   | none=>rw [ej] at e;cases e
   | some w=>
    rw [ej] at e;cases er:ko js ρ with
    | none=>rw [er] at e;cases e
    | some ws'=>
     rw [er] at e;cases e;obtain ⟨v,h1,h2⟩:=r.get j w ej;obtain ⟨vs,h3,h4⟩:=XH r er;exact ⟨v::vs,by unfold Zx;rw [h1,h3],.cons h2 h4⟩
theorem SH {σ:St}:∀{js:List Nat} {vs:List V},Zx js σ=some vs->vs.length=js.length/\∀(i:Nat) (v:V),vs[i]? =some v->∃j,js[i]? =some j/\σ[j]? =some (some v)
 | [],vs,e=>by cases e;exact ⟨rfl,λ i v h=>by simp at h⟩
 | j::js,vs,e=>by
  unfold Zx at e;cases ej:σ[j]? with
  | none=>rw [ej] at e;cases e
  | some ow=>cases ow with
   | none=>rw [ej] at e;cases e
   | some w=>
    rw [ej] at e;cases er:Zx js σ with
    | none=>rw [er] at e;cases e
    | some ws'=>
     rw [er] at e;cases e;obtain ⟨h1,h2⟩:=SH er;refine ⟨by simp [h1],λ i v h=>?_⟩
     cases i with
     | zero=>simp at h;subst h;exact ⟨j,by simp,ej⟩
     | succ i=>simp at h;obtain ⟨j',a,b⟩:=h2 i v h;exact ⟨j',by simpa using a,b⟩
noncomputable def jK (ls:List Lm)(k:Nat):Fn:=λ ws A=>match ls[k]? with
 | some t=>t.m (ws.map some) A
 | none=>.bad
noncomputable def yM (env:Env)(q:Str)(ls:List Lm)(k:Nat):Obj->Addr->Obj->List V->Prop:=λ ob c oc vs=>∃t,ls[k]? =some t/\Wu q t.params t.body t.scope (yU env t.scope.names []) ob c oc vs
noncomputable def Zy (env:Env)(q:Str)(ls:List Lm)(σ:St)(k:Nat):Obj->Addr->Obj->List V->Prop:=λ ob c oc vs=>∃t,ls[k]? =some t/\Wu q t.params t.body t.scope (yU env t.scope.names []) ob c oc vs/\Zx t.idx σ=some vs
structure kK (P:Program)(w:World)(K:Frag)(mg:Str->Option Value)(j:Nat)(q:Str)(t:Lm):Prop where
 sc:XQ t.N t.scope
 bind:∀(cl:List (Str × Addr)) (pm cdv ctv:Value),bindArgs (PySem.W.kla_fn "<lambda>" q t.params t.body t.scope cl pm cdv ctv) ⟨[],[]⟩=pure []
 body:∀(base:Heap) (cl:List (Str × Addr)) (a c:Addr) (A:Around) (outer:List Env) (s:Shared) (H:Hp) (E:XK),ju j (A.deeper (PySem.W.envX q t.scope s.heap.objs.size a (.ref c) cl))->gz (Zb P w K mg base t.N q t.scope a (.ref c) cl A outer s H E) s.heap (gG K E)->
  SE (Zb P w K mg base t.N q t.scope a (.ref c) cl A outer s H E) (gG K E) t.body t.m
section
variable {P:Program}{w:World}{K:Frag}{mg:Str->Option Value}{base:Heap}{j:Nat}{q:Str}{ls:List Lm}{env:Env}{σ:St}
theorem RJ (hl:∀t∈ls,kK P w K mg j q t)(hc:∀t∈ls,∀vs,Zx t.idx σ=some vs->Kx base t.N t.scope (yU env t.scope.names []) vs)(k:Nat):gX P w K mg base (j+1) (Zy env q ls σ k) (jK ls k):=by
 rintro a ob u c oc uc vs ⟨t,ht,⟨⟨pm,ctv,rfl⟩,hoc⟩,hv⟩
 have mt:t∈ls:=mem_of_getElem? ht;have L:=hl t mt;refine ⟨⟨_,rfl⟩,_,((Eb (name := "<lambda>") (params:=t.params) (body:=t.body) (pm:=pm) (ctv:=ctv) (a:=a) (c:=c) (u:=u) (uc:=uc) (m:=t.m) L.sc (hc t mt vs hv) hoc λ A outer s H E hr xo=>L.body base _ a c A outer s H E hr xo)).imp λ us H Q E h=>?_,λ s=>.of_eq (L.bind _ _ _ _)⟩;obtain ⟨h1,h2,h3,φ,A,ws,S,r,h⟩:=h;refine ⟨h1,h2,h3,φ,A,ws,S,r,?_⟩;unfold jK at h;rw [ht] at h;exact h
end
noncomputable abbrev jA:=Nat->Obj->Addr->Obj->List V->Prop
open Classical in
noncomputable def wU (PG:jA)(RF:Nat->List W->Hx->R W):Fn:=λ us A=>match us with
 | [.clo k ws P]=>if P=PG k then RF k ws A else .bad
 | _=>.bad
open Classical in
noncomputable def ZG (i:Nat)(PF:jA)(ls:List Lm)(RF:Nat->List W->Hx->R W)(ρ0:En):Ev:=λ ρ A=>match ρ[i]? with
 | some (some (.clo k _ P))=>if P=PF k then (match ls[k]? with
  | some t=>(match ko t.idx ρ0 with
   | some ws=>RF k ws A
   | none=>.bad)
  | none=>.bad) else .bad
 | _=>.bad
structure Z3 (X:Cx)(t:Lm):Prop where
 len:t.idx.length=t.N.length
 nm:∀(i:Nat) (x:Str) (j:Nat),t.N[i]? =some x->t.idx[i]? =some j->X.N[j]? =some x/\t.scope.names.lookup x=some .free
 free:∀y∈t.scope.names,y.2=.free->X.env.kindOf y.1=some .cell∨X.env.kindOf y.1=some .free
section
variable {X:Cx}{pins:List (Addr × Obj)}{σ:St}{H:Hp}{s:Shared}
theorem KA (I:Inv X pins σ H s){t:Lm}(L:Z3 X t){x:Str}{c:Addr}(h:(yU X.env t.scope.names []).lookup x=some c):X.env.cells.lookup x=some c:=by
 rcases Qd _ _ (PySem.mem_of_lookup h) with z | ⟨z,e⟩
 ·cases z
 ·obtain ⟨c',hc⟩:=I.ok.has x (L.free _ z rfl)
  rw [hc] at e ⊢;exact congrArg some e.symm
theorem Sa (I:Inv X pins σ H s){base:Heap}(hb:∀x c v,X.env.cells.lookup x=some c->s.heap.IsCell c v->base.IsCell c v){t:Lm}(L:Z3 X t){vs:List V}(hv:Zx t.idx σ=some vs):Kx base t.N t.scope (yU X.env t.scope.names []) vs:=by
 obtain ⟨v1,v2⟩:=SH hv;refine ⟨v1.trans L.len,λ x y c h1 h2=>I.ok.inj x y c (KA I L h1) (KA I L h2),λ x h=>?_,λ x c h=>?_,λ i x v h1 h2=>?_⟩
 ·exact Option.isSome_iff_exists.mp (Kk _ _ (.inl (PySem.mem_of_lookup h)))
 ·have e:=KA I L h
  obtain ⟨v,z⟩:=I.cell x c e;exact ⟨v,hb x c v e z⟩
 ·obtain ⟨j,e1,e2⟩:=v2 i v h2
  obtain ⟨e3,e4⟩:=L.nm i x j h1 e1;have fr:=L.free _ (PySem.mem_of_lookup e4) rfl;obtain ⟨m,hn,hl⟩:=I.loc;obtain ⟨u,r,lk⟩:=hl j x v e3 e2 (.inr fr);obtain ⟨c,hc⟩:=Option.isSome_iff_exists.mp (Kk (env:=X.env) t.scope.names [] (.inl (PySem.mem_of_lookup e4)));have ec:=KA I L hc;rcases lk with ⟨z,_⟩ | ⟨_,c',hc',cell⟩
  ·exfalso
   rcases fr with k | k<;>(rw [k] at z;cases z)
  ·rw [ec] at hc'
   cases hc';exact ⟨c,u,e4,hc,hb x c _ ec cell,r⟩
theorem Vc (I:Inv X pins σ H s)(hfn:∀x,X.fn x=true){x:Str}{c:Addr}(e:X.env.cells.lookup x=some c):c∉qt X.stack:=λ hm=>by
 rcases List.mem_cons.mp (I.stkSub c hm) with z | z
 ·exact I.cne x c e z
 ·obtain ⟨_,o,ho,_⟩:=I.ok.funs.mem z
  exact absurd (lt_of_lt_of_le (Heap.lt_size ho) (I.ok.cab x c (hfn x) e)) (lt_irrefl _)
noncomputable def km (base h:Heap)(cells:List (Str × Addr)):Heap:=PySem.W.hideAll h ((List.range h.objs.size).filter λ b=>(base.get? b).isNone&&!(cells.any λ p=>cells.lookup p.1==some b))
theorem KC {base h:Heap}{cells:List (Str × Addr)}{b:Addr}{o:Obj}(e:(km base h cells).get? b=some o):h.get? b=some o/\((∃o',base.get? b=some o')∨∃x,cells.lookup x=some b):=by
 have e1:=PySem.W.of_hideAll _ e;refine ⟨e1,?_⟩
 by_cases hm:b∈(List.range h.objs.size).filter λ b=>(base.get? b).isNone&&!(cells.any λ p=>cells.lookup p.1==some b)
 ·unfold km at e
  rw [PySem.W.hideAll_none _ hm] at e;cases e
 ·rw [mem_filter] at hm
  have hb:b∈List.range h.objs.size:=List.mem_range.mpr (Heap.lt_size e1);cases hg:base.get? b with
  | some o'=>exact .inl ⟨o',rfl⟩
  | none=>
   right
   by_cases hc:(cells.any λ p=>cells.lookup p.1==some b)=true
   ·obtain ⟨p,_,hp⟩:=List.any_eq_true.mp hc
    exact ⟨p.1,beq_iff_eq.mp hp⟩
   ·exact absurd ⟨hb,by rw [hg];simpa using hc⟩ hm
theorem Td {base h:Heap}{cells:List (Str × Addr)}(k:∀b o,base.get? b=some o->h.get? b=some o){b:Addr}{o:Obj}(e:base.get? b=some o):(km base h cells).get? b=some o:=
 PySem.W.hideAll_get _ (k b o e) λ hm=>by
  rw [mem_filter,e] at hm;simp at hm
theorem Tu {base h:Heap}{cells:List (Str × Addr)}{x:Str}{c:Addr}{o:Obj}(l:cells.lookup x=some c)(e:h.get? c=some o):(km base h cells).get? c=some o:=
 PySem.W.hideAll_get _ e λ hm=>by
  rw [mem_filter,and_eq_true,Bool.not_eq_true'] at hm
  have:=hm.2.2
  rw [List.any_eq_false] at this;exact this _ (PySem.mem_of_lookup l) (by simpa using l)
variable {H3:Hp}{s3:Shared}{fp:List Addr}{N:List Str}{sc:Scope}{ls:List Lm}{j kk i:Nat}{q x f:Str}{ρ0:En}{RF:Nat->List W->Hx->R W}{p p2 pos:Pos}
theorem Rm (I3:Inv X pins σ H3 s3)(f3:∀b∈fp,yY X pins H3 b)(hfn:∀x,X.fn x=true)(hl:∀t∈ls,kK X.prog X.w X.K X.mg j q t)(hix:∀t∈ls,Z3 X t)
  {pins':List (Addr × Obj)}{σ':St}{H':Hp}{s':Shared}(I':Inv (jq X N sc s3 H3 fp jJ) pins' σ' H' s'):
  QL X.prog X.w X.K X.mg (km X.base s'.heap X.env.cells) X.A X.stack s' H'/\∀k,gX X.prog X.w X.K X.mg (km X.base s'.heap X.env.cells) (j+1) (Zy X.env q ls σ k) (jK ls k):=by
 have un:Un (qt X.stack) fp H3 H' s3.heap s'.heap:=I'.base;have bk:∀b o,X.base.get? b=some o->s'.heap.get? b=some o:=λ b o e=>(show _ from I'.bk b o e)
 have cellk:∀y cc,X.env.cells.lookup y=some cc->∀o,s3.heap.get? cc=some o->s'.heap.get? cc=some o/\H' cc=none:=λ y cc e o ho=>
  have nfp:cc∉fp:=λ z=>(f3 cc z).2.2.2.2.1 y cc e rfl
  ⟨un.keep cc o ho (I3.freeC y cc e) (Vc I3 hfn e) nfp,un.free cc o ho (I3.freeC y cc e) nfp⟩
 have kb:∀b o,X.base.get? b=some o->(km X.base s'.heap X.env.cells).get? b=some o:=λ b o e=>Td bk e;have md:Mod X.K X.mg (km X.base s'.heap X.env.cells):=by
  obtain ⟨mb,b1,b2⟩:=I3.mod.blt;exact ⟨I3.mod.kin.keeps kb,I3.mod.glob.keeps kb,⟨mb,b1.keeps kb,b2⟩,I3.mod.nolimit.keeps kb⟩
 have bs:∀b o,(km X.base s'.heap X.env.cells).get? b=some o->s'.heap.get? b=some o/\H' b=none:=λ b o e=>by
  obtain ⟨e1,e2⟩:=KC e;refine ⟨e1,?_⟩;rcases e2 with ⟨o',e2⟩ | ⟨y,e2⟩
  ·exact (I'.bs b o' e2).2
  ·obtain ⟨vv,oo,ho,_⟩:=I3.cell y b e2
   exact (cellk y b e2 oo ho).2
 refine ⟨⟨I'.ok.frames,md,bs,le_of_eq (PySem.W.hideAll_size _ _),frames_at (show s'.heap.FunFrames X.base X.stack from I'.stack) λ b hb=>?_,I'.stkFree,I'.hok,I'.bare⟩,
  λ k=>RJ hl (λ t ht vs hvs=>Sa I3 (λ y cc v e ⟨o,ho,hd⟩=>⟨o,Tu e (cellk y cc e o ho).1,hd⟩) (hix t ht) hvs) k⟩
 cases e:(km X.base s'.heap X.env.cells).get? b with
 | none=>rfl
 | some o=>
  exfalso;rcases (KC e).2 with ⟨o',e2⟩ | ⟨y,e2⟩
  ·have:=(I3.stack.mem hb).1
   rw [e2] at this;cases this
  ·exact Vc I3 hfn e2 hb
theorem FN (I3:Inv X pins σ H3 s3)(f3:∀b∈fp,yY X pins H3 b)(hfn:∀x,X.fn x=true)(hl:∀t∈ls,kK X.prog X.w X.K X.mg j q t)(hix:∀t∈ls,Z3 X t)
  (hR:∀base PG,(∀k,gX X.prog X.w X.K X.mg base (j+1) (PG k) (jK ls k))->zE X.prog X.w X.K X.mg base kk f 1 (wU PG RF))(hr:ju kk X.A)
  (hi:N[i]? =some x)(hv:JF (relabel sc X.env) x)(hg:Gl (jq X N sc s3 H3 fp jJ) f)(hdx:(x==("__debug__" : Str))=false:=by decide)(hcx:(x==("__classdict__" : Str))=false:=by decide)(hdf:(f==("__debug__" : Str))=false:=by decide)
  (he:starEach [.Name x p2] (jq X N sc s3 H3 fp jJ).env=(false,eval (.Name x p2) (jq X N sc s3 H3 fp jJ).env)::starEach [] (jq X N sc s3 H3 fp jJ).env:=by rfl)(hpl:(backTo pos (starEach [] (jq X N sc s3 H3 fp jJ).env)).any (·.1)=false:=by rfl):
  PE (jq X N sc s3 H3 fp jJ) (.Call (.Name f p) [.Name x p2] [] pos) (P0 (λ φ H=>RE X.K φ H ρ0 σ) X.K jT (ZG i (yM X.env q ls) ls RF ρ0)):=by
 intro pins' s' σ' H' Q I' ⟨φ,A,ρ,S,re,re0,h⟩;unfold ZG at h;cases ei:ρ[i]? with
 | none=>rw [ei] at h;exact h.elim
 | some ow=>cases ow with
  | none=>rw [ei] at h;exact h.elim
  | some w0=>
   rw [ei] at h;cases w0 with
   | clo k xs P=>
    dsimp only at h
    by_cases hP:P=yM X.env q ls k
    ·rw [if_pos hP] at h
     subst hP;cases et:ls[k]? with
     | none=>rw [et] at h;exact h.elim
     | some t=>
      rw [et] at h;dsimp only at h;cases ec:ko t.idx ρ0 with
      | none=>rw [ec] at h;exact h.elim
      | some ws=>
       rw [ec] at h;dsimp only at h;obtain ⟨v,hv1,a,ob,u,c,oc,uc,vs0,rfl,g1,g2,⟨t',et',gp⟩,_⟩:=re.get i _ ei;rw [et] at et';cases et';obtain ⟨vs,cv,rv⟩:=XH re0 ec;obtain ⟨fa,fd,ps,F,hm,hk,hb⟩:=hR _ _ (Rm I3 f3 hfn hl hix I').2;refine wpAny_Call_Name_kw (Jj I' hg hm ?_ hdf);refine PySem.W.callWith_K (h₀:=X.base) I3.mod.kin hk (zS (jv (RM (X:=jq X N sc s3 H3 fp jJ) hi hv hdx hcx) j4 he pos pins' s' σ' H' (λ vs' H1=>vs'=[.ref a]/\H1=H') I' ⟨.ref a,hv1,rfl,rfl⟩) λ us s1 ⟨vs',H1,I1,r1,ev,eh⟩=>⟨I1.kIn,?_⟩) he hpl;subst ev;subst eh;obtain ⟨e0,hL⟩:=Rm I3 f3 hfn hl hix I1;obtain ⟨fa',fd',ps',F',hm',hk',hb'⟩:=hR _ _ hL;rw [hm] at hm';cases hm';have hsp:gF X.K 1 (wU (Zy X.env q ls σ) RF) [.ref a] H1 Q E0:=by
        refine ⟨rfl,φ,A,[.clo k ws (Zy X.env q ls σ k)],S,.one ⟨a,ob,u,c,oc,uc,vs,rfl,g1,g2,⟨t,et,gp,cv⟩,rv⟩,?_⟩;unfold wU;dsimp only;rw [if_pos rfl];exact qp h (λ _ _ z=>z) λ y A2 z φ2 H2 l2 S2=>(z φ2 H2 l2 S2).elim
       have hln:=F'.len _ _ _ _ hsp;have hu:us.length=ps'.length:=by rw [<- r1.length];exact hln
       refine wpAny_call (codeAny_mono (F'.run X.A X.stack s1 H1 ⟨[]++us,[]⟩ us [.ref a] Q E0 hr e0 ?_ r1 hsp) λ r s2 hq=>?_)
       ·have:=hb' s1 us (show _ from I1.kIn) (by rw [append_nil];exact hu)
        rw [append_nil] at this;exact this
       ·cases r with
        | error e=>exact False.elim hq
        | ok fl=>
         cases fl with
         | ret u1=>exact I1.after hq
         | next=>exact False.elim hq
         | brk=>exact False.elim hq
         | cont=>exact False.elim hq
    ·rw [if_neg hP] at h;exact h.elim
   | _=>exact h.elim
end
noncomputable def Jw (nl:Nat)(mi:Ei)(tw:Tg)(i:Nat)(PF:jA)(ls:List Lm)(RF:Nat->List W->Hx->R W):jN:=λ ρ A=>zU nl [] mi tw (zi (.bl true)) (zM (ZG i PF ls RF ρ)) ρ A
section
variable {X:Cx}{xr:XR}{N:List Str}{sc:Scope}{ls:List Lm}{j kk i nl:Nat}{q x f:Str}{RF:Nat->List W->Hx->R W}{p p2 p3 p4 pos:Pos}{iter:Expr}{mi:Ei}{tw:Tg}
end
theorem Lh {P:Program}{w:World}{K:Frag}{mg mb:Str->Option Value}{k:Nat}{fa a Pt:Addr}{fd:FuncData}{x:Str}{sp:Sp}{s₁:Shared}{vs:List Value}{ns:List Int}
  (KX:K.In s₁.heap)(hns:s₁.heap.Ns mainGlobals mg)(hb:s₁.heap.Ns builtinsNs mb)(hbb:∀x:Str,x ≠ "__name__" -> mb x=bootBuiltins x)(hlim:s₁.heap.NoLimit)(hg:s₁.gens=#[])
  (ha:s₁.heap.get? a=some { cls:=.type "list",data:=.seq vs.toArray })(hi:IntsAre vs ns)(hl:ns.length<=sizeLine)(hr:ju k callerA)
  (hPt:s₁.heap.get? Pt=some (PySem.W.tabObj #[]))(hKP:K.lookup Pt=none)(hct:isCodeTable s₁.heap Pt)(hbm:BMain mg s₁.heap)
  (F:∀base:Heap,K.In base->base.Ns mainGlobals mg->BMain mg base->yk P w K mg base kO k fa fd [x] sp)(hbind:∀(s:Shared) (u:Value),BindsTo s fd ⟨[u],[]⟩ [(x,u)])
  (hsp:∀H:Hp,H Pt=some (.tbl #[])->JE K H a (ns.map V.int)->sp [.ref a] H (λ v _=>v=.bl true) λ _ _ _=>False):
  codeAny (model P w) callerA (.call (.ref fa) ⟨[.ref a],[]⟩) (λ r s'=>r=.ok (.ret (.bool true))/\OldK s₁.heap s'.heap/\s'.os=s₁.os/\AllBare s'.gens) s₁:=by
 have rv:=JU hi;have lenV:=hi.length;have naP:a≠Pt:=λ z=>by rw [z,hPt] at ha;cases ha
 have core:∀H:Hp,H Pt=some (.tbl #[])->JE K H a (ns.map V.int)->jS P w H s₁.heap->(∀b,H b≠none->b=a∨b=Pt)->(∀u,H a=some u->K.lookup a=none/\∃o xs,u=.frz o (.lst xs))->
   codeAny (model P w) callerA (.call (.ref fa) ⟨[.ref a],[]⟩) (λ r s'=>r=.ok (.ret (.bool true))/\OldK s₁.heap s'.heap/\s'.os=s₁.os/\AllBare s'.gens) s₁:=by
  intro H hO hS hok hA hK;have base_of:∀{b:Addr} {o:Obj},s₁.heap.get? b=some o->H b=none->(g8 s₁.heap H).get? b=some o:=λ e n=>LR e n;have kN:∀{b:Addr} {o:Obj} {es:Array DictEntry} {ep:Nat},s₁.heap.get? b=some o->o.data=.dict es ep->H b=none:=λ {b o es ep} e d=>by
   cases q:H b with
   | none=>rfl
   | some u=>
    rcases hA b (by rw [q];simp) with z | z
    ·subst z
     rw [ha] at e;cases e;have d':Data.seq vs.toArray _=Data.dict es ep:=d;cases d'
    ·subst z
     rw [hPt] at e;cases e;cases d
  have nsK:∀{b:Addr} {m:Str->Option Value},s₁.heap.Ns b m->(g8 s₁.heap H).Ns b m:=λ {b m} ⟨o,es,ep,e,d,r⟩=>⟨o,es,ep,base_of e (kN e d),d,r⟩;have hKb:K.In (g8 s₁.heap H):=λ b o e=>base_of (KX b o e) (by
   cases q:H b with
   | none=>rfl
   | some u=>
    rcases hA b (by rw [q];simp) with z | z
    ·subst z
     rw [(hK u q).1] at e;cases e
    ·subst z
     rw [hKP] at e;cases e)
  have hBb:BMain mg (g8 s₁.heap H):=by
   obtain ⟨bm,o,b1,b2,b3,b4,b5,b6,b7⟩:=hbm;refine ⟨bm,o,b1,b2,b3,base_of b4 ?_,b5,b6,b7⟩;cases q:H bm with
   | none=>rfl
   | some u=>
    rcases hA bm (by rw [q];simp) with z | z
    ·subst z
     rw [ha] at b4;cases b4;exact absurd b5 (by intro q;injection q with q;exact absurd q (by decide))
    ·subst z
     rw [hPt] at b4;cases b4;cases b5
  have hM:Mod K mg (g8 s₁.heap H):=⟨hKb,nsK hns,⟨mb,nsK hb,hbb⟩,let ⟨mc,h1,h2⟩:=hlim;⟨mc,nsK h1,h2⟩⟩
  have e0:QL P w K mg (g8 s₁.heap H) callerA [] s₁ H:=⟨rfl,hM,λ b o e=>Fm e,le_of_eq (M9 _ _),trivial,λ b hb=>absurd (show b∈([]:List Addr) from hb) (by simp),hok,.of_eq hg⟩
  refine codeAny_mono ((F _ hKb (nsK hns) hBb).run callerA [] s₁ H ⟨[.ref a],[]⟩ [.ref a] [.ref a] _ _ hr e0 (hbind s₁ (.ref a)) (.cons rfl .nil) (hsp H hO hS)) λ r s' h=>?_;cases r with
  | error e=>exact False.elim h
  | ok fl=>
   cases fl with
   | next=>exact False.elim h
   | brk=>exact False.elim h
   | cont=>exact False.elim h
   | ret u=>
    obtain ⟨v,H',os,bare,un,hok',r',q⟩:=h;have q':v=.bl true:=q;subst q';obtain rfl:u=Value.bool true:=r';refine ⟨rfl,⟨λ b o e=>?_,λ b o e=>un.there b o e (by simp)⟩,os,bare⟩
    cases q:H b with
    | none=>exact .inl (un.keep b o e q (by intro z;exact absurd (show b∈([]:List Addr) from z) (by simp)) (by simp))
    | some u=>
     rcases hA b (by rw [q];simp) with z | z
     ·subst z
      obtain ⟨ob,xs,rfl⟩:=(hK u q).2;have z2:=un.frzs _ ob _ q;obtain ⟨e1,_⟩:=hok _ _ q;obtain ⟨e2,_⟩:=hok' _ _ z2;rw [e] at e1;cases e1;exact .inl e2
     ·subst z
      rw [hPt] at e;cases e;obtain ⟨more,z2⟩:=un.tbls _ _ hO;exact .inr (.inl ⟨hct,rfl,#[],more,rfl,hok' _ _ z2⟩)
 cases hk:K.lookup a with
 | some o=>
  have e:=KX a o hk;rw [ha] at e;cases e;refine core (λ b=>if b=Pt then some (.tbl #[]) else none) (if_pos rfl) (.inr ⟨_,vs.toArray,_,hk,rfl,rfl,rfl,by rw [size_toArray,lenV];exact hl,by simpa using rv⟩) (λ b u z=>?_) (λ b z=>?_) λ u z=>?_
  ·by_cases hb:b=Pt
   ·have z':=(if_pos hb).symm.trans z
    cases z';rw [hb];exact hPt
   ·have z':=(if_neg hb).symm.trans z
    cases z'
  ·by_cases hb:b=Pt
   ·exact .inr hb
   ·exact absurd (if_neg hb) z
  ·have z':=(if_neg naP).symm.trans z
   cases z'
 | none=>
  refine core (λ b=>if b=Pt then some (.tbl #[]) else if b=a then some (.frz { cls:=.type "list",data:=.seq vs.toArray } (.lst (ns.map V.int))) else none) (if_pos rfl)
   (.inl ⟨{ cls:=.type "list",data:=.seq vs.toArray },(if_neg naP).trans (if_pos rfl)⟩) (λ b u z=>?_) (λ b z=>?_) λ u z=>?_
  ·by_cases hb:b=Pt
   ·have z':=(if_pos hb).symm.trans z
    cases z';rw [hb];exact hPt
   ·have z':=(if_neg hb).symm.trans z
    by_cases hb2:b=a
    ·have z2:=(if_pos hb2).symm.trans z'
     cases z2;subst hb2;exact ⟨ha,by rw [length_map];exact hl,vs,_,rv,ha⟩
    ·have z2:=(if_neg hb2).symm.trans z'
     cases z2
  ·by_cases hb:b=Pt
   ·exact .inr hb
   ·by_cases hb2:b=a
    ·exact .inl hb2
    ·exact absurd ((if_neg hb).trans (if_neg hb2)) z
  ·have z':=((if_neg naP).trans (if_pos rfl)).symm.trans z
   cases z';exact ⟨hk,_,_,rfl⟩
inductive spT (K:Frag)(n:Nat)(fs:jA->Fn)(vs:List V)(H:Hp)(Q:VK)(E:XK):Prop
 | mk (len:vs.length=n) (φ:List Addr) (A:Hx) (ws:List W) (S:zH K φ A H) (r:zD K φ H ws vs) (q:∀PF,(fs PF ws A).post (PB K φ H Q) (EB K φ H (XE K E)))
theorem spT.len {K:Frag}{n:Nat}{fs:jA->Fn}{vs:List V}{H:Hp}{Q:VK}{E:XK}(h:spT K n fs vs H Q E):vs.length=n:=by cases h;assumption
theorem Md {K:Frag}{H:Hp}{a Pt:Addr}{q:Str}{ns:List Int}(hP:H Pt=some (.tbl #[]))(hS:JE K H a (ns.map V.int)):zH K [a,Pt] [.ro (ns.map W.int),.tab q Pt] H:=by
 refine ⟨rfl,λ i j b o o' h1 h2 h3 h4 m1 m2=>?_,λ n o h=>?_⟩
 ·match i,j,h3,h4 with
  | 0,_,h3,_=>simp at h3;subst h3;cases m1
  | _,0,_,h4=>simp at h4;subst h4;cases m2
  | 1,1,_,_=>rfl
  | i+2,_,h3,_=>simp at h3
  | _,j+2,_,h4=>simp at h4
 ·match n,h with
  | 0,h=>simp at h;subst h;exact ⟨a,rfl,ns.map V.int,hS,zD.ints.mpr rfl⟩
  | 1,h=>simp at h;subst h;exact ⟨Pt,rfl,rfl,#[],hP,trivial,λ pos cv e=>nomatch e⟩
  | n+2,h=>simp at h
section
variable {P:Program}{w:World}{K:Frag}{mg:Str->Option Value}{base:Heap}
theorem IX {x:Str}{f c Pt:Addr}{oc:Value}{od:Option Addr}{fd:FuncData}{osl:Array (Option Value)}(hn:PySem.W.nsIn K mainGlobals x=some (some (.ref f)))(lk:K.lookup f=some ⟨oc,od,.func fd,osl⟩)(ht:PySem.W.tabIn K x=some (c,Pt)):fd.code=.ref c:=by
 unfold PySem.W.tabIn at ht;rw [hn] at ht;dsimp only at ht;rw [lk] at ht;dsimp only at ht
 split at ht
 ·rename_i c2 hc
  split at ht
  ·split at ht
   ·cases ht;exact hc
   ·cases ht
  ·cases ht
 ·cases ht
theorem BF {x q:Str}{st:Stmt}{f c Pt:Addr}{fd:FuncData}{N ps:List Str}{k:Nat}{ls:List Lm}{m:jA->Ex}(F:qO K x x st f fd)(hn:PySem.W.nsIn K mainGlobals x=some (some (.ref f)))(ht:PySem.W.tabIn K x=some (c,Pt))(S:q9 N ps (qf st))
  (hbody:∀(A:Around) (outer:List Env) (s:Shared) (H:Hp) (E:XK),ju k (A.deeper (envOfC x (qf st) s.heap.objs.size f (.ref c)))->
   YI (kI kO P w K mg base N x (qf st) f (.ref c) A outer s H E).nox jT (yc st) (m (yM (envOfC x (qf st) s.heap.objs.size f (.ref c)) q ls))):
  yk P w K mg base kO (k+1) f fd ps (spT K ps.length λ PF=>qg N.length (m PF)):=by
 obtain ⟨oc,od,kV,doc,pm,an,cdv,ct,osl,rfl,lk,hcd⟩:=F.ex;have hcv:cdv=.ref c:=IX hn lk ht;subst hcv;refine VM lk hcd S (λ vs H Q E h=>h.len) λ A outer s H vs Q E hr ⟨hl,φ,A1,ws,Sm,r,h⟩=>⟨_,yn.nox (hbody A outer s H E hr),?_⟩;refine ⟨φ,A1,ws.map some++List.replicate (N.length - ws.length) none,Sm,RE.start r,?_⟩;have h':=zY.mp (h (yM (envOfC x (qf st) s.heap.objs.size f (.ref c)) q ls));show R.post _ (FB K φ H _) _;cases er:m (yM (envOfC x (qf st) s.heap.objs.size f (.ref c)) q ls) (ws.map some++List.replicate (N.length - ws.length) none) A1 with
 | ok fl A2=>
  rw [er] at h';cases fl with
  | rt w=>exact h'
  | nx ρ=>exact λ φ' H' σ' l S' _=>h' φ' H' .non l S' rfl
  | bk ρ=>exact h'.elim
  | ct ρ=>exact h'.elim
 | exc y A2=>rw [er] at h';exact h'.elim
 | bad=>rw [er] at h';exact h'.elim
end
noncomputable def Vp (K:Frag)(x:Str)(Pt:Addr):Bool:=match PySem.W.tabIn K x with
 | some (c,P)=>P==Pt&&PySem.W.codeHdIn K c Pt
 | none=>false
theorem TN {K:Frag}{x:Str}{Pt:Addr}(h:Vp K x Pt=true):∃c,PySem.W.tabIn K x=some (c,Pt)/\PySem.W.codeHdIn K c Pt=true:=by
 unfold Vp at h
 split at h
 ·rename_i c P e
  rw [and_eq_true,beq_iff_eq] at h;obtain ⟨rfl,h2⟩:=h;exact ⟨c,e,h2⟩
 ·cases h
theorem qB.m {P:Program}{w:World}{K:Frag}{mg:Str->Option Value}{base:Heap}{k n:Nat}{x:Str}{f:Fn}(F:qB P w K mg base k x n f):zE P w K mg base k x n λ ws A=>(f ws A).nox:=by
 obtain ⟨fa,fd,ps,F,hm,hk,hb⟩:=F;have up:∀vs H Q E,gF K n (λ ws A=>(f ws A).nox) vs H Q E->WJ K n f vs H Q (λ _ _ _=>False):=λ vs H Q E ⟨hl,φ,A,ws,S,r,h⟩=>⟨hl,φ,A,ws,S,r,by
  cases er:f ws A with
  | ok u A1=>(try dsimp only at h);rw [er] at h;exact h
  | exc y A1=>(try dsimp only at h);rw [er] at h;exact h.elim
  | bad=>(try dsimp only at h);rw [er] at h;exact h.elim⟩
 refine ⟨fa,fd,ps,⟨λ vs H Q E h=>F.len vs H Q _ (up vs H Q E h),λ A outer s H args us vs Q E hr he hbt hv h=>?_⟩,hm,hk,hb⟩;refine codeAny_mono (F.run A outer s H args us vs Q _ hr he hbt hv (up vs H Q E h)) λ r s' h'=>?_;cases r with
 | error e=>
  unfold CR at h';obtain ⟨_,_,_,_,_,_,_,_,_,_,z⟩:=h';exact z.elim
 | ok fl=>cases fl<;>exact h'
theorem qB.mono {P:Program}{w:World}{K:Frag}{mg:Str->Option Value}{base:Heap}{j k n:Nat}{x:Str}{f:Fn}(F:qB P w K mg base j x n f)(h:j<=k):qB P w K mg base k x n f:=by cases F with | mk fa fd ps F a b c=>exact ⟨fa,fd,ps,F.mono h,a,b,c⟩
noncomputable abbrev WD:List Value:=[.type "ValueError",.type "Exception",.type "BaseException",.type "object"]
noncomputable abbrev Wj:String := "ValueError.__new__"
section
variable {K:Frag}{cs:List Str}{top x nm:Str}
noncomputable def clsAt (K:Frag)(x:Str):Addr:=match PySem.W.nsIn K mainGlobals x with
 | some (some (.ref C))=>C
 | _=>0
noncomputable def isAt (K:Frag)(x:Str):Bool:=PySem.W.nsIn K mainGlobals x==some (some (.ref (clsAt K x)))
noncomputable def jm (cs:List Str)(x:Str):Str->Option Bool:=λ nm=>if cs.contains nm then some (nm==x) else none
noncomputable def Uw (cs:List Str):Str->Option Bool:=λ nm=>if cs.contains nm then some true else none
noncomputable def jh (K:Frag)(cs:List Str)(x:Str):Bool:=isAt K x&&PySem.W.kitOne K (.type "NoneType") (.ref (clsAt K x))==some false&&cs.all λ nm=>PySem.W.kitOne K (.ref (clsAt K nm)) (.ref (clsAt K x))==some (nm==x)
noncomputable def K7 (K:Frag)(top nm:Str):Bool:=isAt K nm&&Yf K (clsAt K nm)&&Mi.gy K (clsAt K nm) WD Wj&&QN K (clsAt K nm) (clsAt K top)&&PySem.W.kitOne K (.ref (clsAt K nm)) (.type "ValueError")==some true
noncomputable def VC (K:Frag)(top:Str):Bool:=isAt K top&&Mi.gy K (clsAt K top) WD Wj&&PySem.W.kitOne K (.type "NoneType") (.type "ValueError")==some false
theorem Vd (h:isAt K x=true):yD K x (.ref (clsAt K x)):=beq_iff_eq.mp h
theorem X3 {C:Addr}(h:yD K x (.ref C)):C=clsAt K x:=by
 unfold clsAt;unfold yD at h;rw [h]
structure X1 (K:Frag)(top nm:Str):Prop where
 at_:yD K nm (.ref (clsAt K nm))
 kit:Yf K (clsAt K nm)=true
 exc:Mi.gy K (clsAt K nm) WD Wj=true
 up:QN K (clsAt K nm) (clsAt K top)=true
 val:PySem.W.kitOne K (.ref (clsAt K nm)) (.type "ValueError")=some true
theorem EJ (h:K7 K top nm=true):X1 K top nm:=by
 unfold K7 at h;simp only [and_eq_true,beq_iff_eq] at h;obtain ⟨⟨⟨⟨h1,h2⟩,h3⟩,h4⟩,h5⟩:=h;exact ⟨Vd h1,h2,h3,h4,h5⟩
structure yL (K:Frag)(cs:List Str)(top:Str):Prop where
 exc:∀nm,cs.contains nm=true->X1 K top nm
 top_at:yD K top (.ref (clsAt K top))
 top_exc:Mi.gy K (clsAt K top) WD Wj=true
 non:PySem.W.kitOne K (.type "NoneType") (.type "ValueError")=some false
theorem Er (h:cs.all (K7 K top ·)=true)(t:VC K top=true):yL K cs top:=by
 unfold VC at t;simp only [and_eq_true,beq_iff_eq] at t;obtain ⟨⟨t1,t2⟩,t3⟩:=t;exact ⟨λ nm e=>EJ (List.all_eq_true.mp h nm (List.contains_iff_mem.mp e)),Vd t1,t2,t3⟩
theorem yL.isx (c:yL K cs top)(h:jh K cs x=true):Yq K (jm cs x) (.ref (clsAt K x)):=by
 unfold jh at h;simp only [and_eq_true,beq_iff_eq] at h;obtain ⟨⟨h1,h2⟩,h3⟩:=h;refine ⟨h2,λ nm C b e hc=>?_⟩;unfold jm at e
 by_cases hm:cs.contains nm=true
 ·rw [if_pos hm] at e
  cases e;cases X3 hc;exact ⟨(c.exc nm hm).kit,beq_iff_eq.mp (List.all_eq_true.mp h3 nm (List.contains_iff_mem.mp hm))⟩
 ·rw [if_neg hm] at e;cases e
theorem kF (h:jh K cs x=true):yD K x (.ref (clsAt K x)):=by
 unfold jh at h;simp only [and_eq_true,beq_iff_eq] at h;exact Vd h.1.1
theorem yL.isv (c:yL K cs top):Yq K (Uw cs) (.type "ValueError"):=by
 refine ⟨c.non,λ nm C b e hc=>?_⟩;unfold Uw at e
 by_cases hm:cs.contains nm=true
 ·rw [if_pos hm] at e
  cases e;cases X3 hc;exact ⟨(c.exc nm hm).kit,(c.exc nm hm).val⟩
 ·rw [if_neg hm] at e;cases e
theorem yL.under (c:yL K cs top):∀nm,cs.contains nm=true->∀C,yD K nm (.ref C)->∃bmC newC,Mi.gy K C bmC newC=true/\QN K C (clsAt K top)=true:=λ nm hm C hc=>by
 cases X3 hc;exact ⟨_,_,(c.exc nm hm).exc,(c.exc nm hm).up⟩
end
section
variable {X:Cx}{g:Heap}{xr:XR}{e:Expr}{es:List Expr}{mr:Ea}{x top:Str}{np cpos pos:Pos}{n:Nat}
end
section
variable {X:Cx}{xr:XR}{e:Expr}{es:List Expr}{m:Ev}{ms:List Ev}
end
noncomputable def V8 (M:List Str)(sc:Scope)(t:Lm):Bool:=t.idx.length==t.N.length&&((List.range t.N.length).all λ i=>match t.N[i]?,t.idx[i]? with
 | some x,some j=>M[j]?==some x&&t.scope.names.lookup x==some .free
 | _,_=>false)&&t.scope.names.all λ y=>!(y.2==.free) || (sc.names.lookup y.1==some .cell || sc.names.lookup y.1==some .free)
theorem yb {X:Cx}{t:Lm}(h:V8 X.N X.env.scope t=true):Z3 X t:=by
 unfold V8 at h;rw [and_eq_true,and_eq_true] at h;obtain ⟨⟨h1,h2⟩,h3⟩:=h;refine ⟨beq_iff_eq.mp h1,λ i x j e1 e2=>?_,λ y hy e=>?_⟩
 ·have hi:i<t.N.length:=(List.getElem?_eq_some_iff.mp e1).1
  have q:=List.all_eq_true.mp h2 i (List.mem_range.mpr hi);rw [e1,e2] at q;dsimp only at q;rw [and_eq_true] at q;exact ⟨beq_iff_eq.mp q.1,beq_iff_eq.mp q.2⟩
 ·have q:=List.all_eq_true.mp h3 y hy
  rw [e] at q;rw [or_eq_true,or_eq_true] at q;rcases q with q | q | q
  ·cases q
  ·exact .inl (beq_iff_eq.mp q)
  ·exact .inr (beq_iff_eq.mp q)
theorem all_nil {α:Type}{p:α->Prop}:∀t∈([]:List α),p t:=λ _ h=>nomatch h
theorem all_cons {α:Type}{p:α->Prop}{a:α}{l:List α}(h:p a)(r:∀t∈l,p t):∀t∈a::l,p t:=λ t ht=>by
 rcases List.mem_cons.mp ht with e | e
 ·rw [e];exact h
 ·exact r t e
theorem El {env:Env}{q:Str}{ls:List Lm}{k:Nat}{t:Lm}(ht:ls[k]? =some t):yM env q ls k=Wu q t.params t.body t.scope (yU env t.scope.names []):=by
 funext ob c oc vs
 refine propext ⟨λ ⟨t',e,h⟩=>?_,λ h=>⟨t,ht,h⟩⟩;rw [ht] at e;cases e;exact h
section
variable {X:Cx}{xr:XR}{n k:Nat}{q:Str}{Pt c:Addr}{ls:List Lm}{t:Lm}{pos:Pos}
end
noncomputable def Qt:Stmt:=.Pass ⟨0,0,0,0⟩
noncomputable def Qv:Expr:=.Constant .none 0 ⟨0,0,0,0⟩
noncomputable def QJ (s:Stmt):Expr:=match s with
 | .Assign _ v _=>v
 | .Expr v _=>v
 | .Return (some v) _=>v
 | _=>Qv
noncomputable def QC (e:Expr)(i:Nat):Expr:=match e with
 | .Call _ a _ _=>a.getD i Qv
 | .List es _=>es.getD i Qv
 | .Tuple es _ _=>es.getD i Qv
 | .BinOp a _ b _=>if i=0 then a else b
 | _=>Qv
noncomputable def Bo (e:Expr):Arguments:=match e with
 | .Lambda a _ _ _=>a
 | _=>{ posonlyargs:=[],args:=[],vararg:=none,kwonlyargs:=[],kw_defaults:=[],kwarg:=none,defaults:=[] }
noncomputable def C0 (e:Expr):Expr:=match e with
 | .Lambda _ b _ _=>b
 | _=>Qv
noncomputable def Bk (e:Expr):Scope:=match e with
 | .Lambda _ _ s _=>s
 | _=>{ kind:=.function,names:=[],isGenerator:=false,isCoroutine:=false }
noncomputable def k9 (e:Expr)(N:List Str)(idx:List Nat)(m:Ev):Lm:=⟨N,idx,Bo e,C0 e,Bk e,m⟩
theorem Cc {P:Program}{w:World}{K:Frag}{mg:Str->Option Value}{base:Heap}{x:Str}{st:Stmt}{f:Addr}{fd:FuncData}{ps:List Str}{k:Nat}(F:qO K x x st f fd)(hm:mg x=some (.ref f))
  (hb:∀(kV doc pm:Value) (an:Option Addr) (cdv ct:Value) (us:List Value),us.length=ps.length->bindArgs (PySem.W.fnOf x x (Zm st) (yc st) (qf st) .none kV doc pm an cdv ct) ⟨us,[]⟩=pure (ps.zip us)):zE P w K mg base k x ps.length (λ _ _=>.bad):=
 ⟨f,fd,ps,⟨λ vs H Q E h=>h.1,λ A outer s H args us vs Q E _ _ _ _ h=>by obtain ⟨_,_,_,_,_,_,z⟩:=h;exact z.elim⟩,hm,F.kp,F.binds hb⟩
theorem FX {K:Frag}(t a b:Ty):PySem.W.kitAny K (.type t.nm) [.type a.nm,.type b.nm]=some (yH t a || yH t b):=by
 unfold PySem.W.kitAny;rw [K4];cases yH t a with
 | true=>rfl
 | false=>
  dsimp only;unfold PySem.W.kitAny;rw [K4];cases yH t b<;>rfl
section
variable {X:Cx}{xr:XR}{e a b:Expr}{m ma mb:Ev}{pos p p1 p2 pt:Pos}{x x1 x2:Str}{kt:Nat}
theorem QO.kitx {pins:List (Addr × Obj)}{σ:St}{H:Hp}{s:Shared}{x:V}{u:Value}{t:Ty}(I:Inv X pins σ H s)(r:RelV x u)(h:QO X.K H x t):∃Hq:Heap->Prop,PySem.W.KitX X.K u (.type t.nm) Hq/\Hq s.heap/\u≠.builtin "__main__.__loader__#opaque" := by
 rcases h with h | ⟨a,xs,rfl,h,rfl⟩
 ·generalize hT:Value.type t.nm=T at h
  cases h with
  | non=>cases (show u=Value.none from r);exact ⟨_,PySem.W.kitx_none,True.intro,λ z=>nomatch z⟩
  | bl y=>cases (show u=Value.bool y from r);exact ⟨_,PySem.W.kitx_bool,True.intro,λ z=>nomatch z⟩
  | int i=>obtain ⟨t,q⟩:=(show ∃t,u=Value.int i t from r);cases q;exact ⟨_,PySem.W.kitx_int,True.intro,λ z=>nomatch z⟩
  | str y=>obtain ⟨t,q⟩:=(show ∃t,u=Value.str y t from r);cases q;exact ⟨_,PySem.W.kitx_str,True.intro,λ z=>nomatch z⟩
  | flt y=>obtain ⟨t,q⟩:=(show ∃t,u=Value.float y t from r);cases q;exact ⟨_,PySem.W.kitx_float,True.intro,λ z=>nomatch z⟩
  | @lst a xs ea=>
   cases (show u=Value.ref a from r)
   obtain ⟨_,_,n,_,h1⟩:=(show jj X.prog X.w H s.heap a (.lst xs) from I.hok a _ ea)
   exact ⟨_,PySem.W.kitx_list,⟨_,h1,rfl⟩,λ z=>nomatch z⟩
  | @frz a ob xs ea=>
   cases (show u=Value.ref a from r)
   obtain ⟨_,_,_,n,_,h1⟩:=(show jj X.prog X.w H s.heap a (.frz ob (.lst xs)) from I.hok a _ ea)
   exact ⟨_,PySem.W.kitx_list,⟨_,h1,rfl⟩,λ z=>nomatch z⟩
  | @tup a xs ea=>
   cases (show u=Value.ref a from r)
   obtain ⟨_,_,_,p⟩:=(show jj X.prog X.w H s.heap a (.tup xs) from I.hok a _ ea)
   obtain ⟨o,h1,h2,_⟩:=p;exact ⟨_,PySem.W.kitx_tuple,⟨o,h1,h2.1⟩,λ z=>nomatch z⟩
  | @dK a kvs ea=>
   cases (show u=Value.ref a from r)
   obtain ⟨_,_,_,_,o,_,_,h1,h2,_⟩:=(show jj X.prog X.w H s.heap a (.dK kvs) from I.hok a _ ea)
   exact ⟨_,PySem.W.kitx_dict,⟨o,h1,h2.1⟩,λ z=>nomatch z⟩
  | @dT a kvs ea=>
   cases (show u=Value.ref a from r)
   obtain ⟨_,_,_,_,o,_,_,h1,h2,_⟩:=(show jj X.prog X.w H s.heap a (.dT kvs) from I.hok a _ ea)
   exact ⟨_,PySem.W.kitx_dict,⟨o,h1,h2.1⟩,λ z=>nomatch z⟩
  | ins=>cases hT
 ·cases (show u=Value.ref a from r)
  obtain ⟨its,_,⟨o,h1,h2,_⟩,_⟩:=I.tuple h;exact ⟨_,PySem.W.kitx_tuple,⟨o,h1,h2⟩,λ z=>nomatch z⟩
noncomputable def C7 (K:Frag)(a b:Ty):List V->Hp->VK->Prop:=λ xs H Q=>∃x t l,xs=[x,.ref l]/\qG K H l [.ty (Ty.nm a),.ty (Ty.nm b)]/\QO K H x t/\Q (.bl (yH t a || yH t b)) H
theorem Hf {a b:Ty}:jV X (.builtin "isinstance") (C7 X.K a b):=by
 intro pins s σ H xs us Q I r h;obtain ⟨x,t,l,rfl,hs,ht,q⟩:=h;obtain ⟨u,u',rfl,ru,ru'⟩:=vals2 r;cases (show u'=Value.ref l from ru')
 obtain ⟨its,rv,⟨o,h1,h2,k,h3⟩,_⟩:=I.tuple hs;obtain ⟨u1,u2,rfl,r1,r2⟩:=vals2 rv;cases (show u1=Value.type a.nm from r1)
 cases (show u2=Value.type b.nm from r2)
 obtain ⟨Hq,Z,hz,ne⟩:=ht.kitx I ru;obtain ⟨o1,o2,o3,o4⟩:=o;cases (show o1=_ from h2)
 cases (show o3=_ from h3)
 exact PySem.W.kia_tup Z I.kIn hz h1 (FX t a b) ne λ tk=>⟨.bl (yH t a || yH t b),H,I.tok tk,rfl,q⟩
noncomputable def Wx (t t2:Ty)(m:Ev):Ev:=λ ρ A=>(m ρ A).bind λ w A1=>match qX w A1 with
 | some t'=>.ok (.bl (yH t' t || yH t' t2)) A1
 | none=>.bad
noncomputable def QE (m:Ev)(tw:Tg):Ex:=λ ρ A=>(m ρ A).bind λ w A1=>match tw w ρ with
 | some ρ'=>.ok (.nx ρ') A1
 | none=>.bad
end
section
variable {X:Cx}{xr:XR}{i kk:Nat}{x:Str}{PG:jA}{lam:Nat->Fn}{np cp:Pos}
end
noncomputable def Wf (PG:jA):W->W
 | .clo k ws _=>.clo k ws (PG k)
 | w=>w
open Classical in
noncomputable def YA (ls:List Lm)(PF:jA)(ρ:En):W->Option W
 | .clo k [] P=>if P=PF k then (match ls[k]? with
  | some t=>(ko t.idx ρ).map λ ws=>.clo k ws P
  | none=>none) else none
 | .clo _ _ _=>none
 | w=>some w
noncomputable def gY (ls:List Lm)(PF:jA)(ρ:En):List W->Option (List W)
 | []=>some []
 | w::r=>match YA ls PF ρ w,gY ls PF ρ r with
  | some u,some us=>some (u::us)
  | _,_=>none
noncomputable def Yh (ls:List Lm)(PF:jA)(f:Fn)(a:Ea):Ev:=λ ρ A=>(a ρ A).bind λ ws A1=>match gY ls PF ρ ws with
 | some us=>f us A1
 | none=>.bad
section
variable {X:Cx}{pins:List (Addr × Obj)}{σ:St}{H:Hp}{s:Shared}{ls:List Lm}{j kk n:Nat}{q x:Str}{e:Expr}{es:List Expr}{p pos:Pos}{mr:Ea}{f0:Fn}{fG:jA->Fn}
theorem T7 (I:Inv X pins σ H s)(hfn:∀x,X.fn x=true)(hl:∀t∈ls,kK X.prog X.w X.K X.mg j q t)(hix:∀t∈ls,Z3 X t):
  QL X.prog X.w X.K X.mg (km X.base s.heap X.env.cells) X.A X.stack s H/\∀k,gX X.prog X.w X.K X.mg (km X.base s.heap X.env.cells) (j+1) (Zy X.env q ls σ k) (jK ls k):=by
 have kb:∀b o,X.base.get? b=some o->(km X.base s.heap X.env.cells).get? b=some o:=λ b o e=>Td I.bk e;have md:Mod X.K X.mg (km X.base s.heap X.env.cells):=by
  obtain ⟨mb,b1,b2⟩:=I.mod.blt;exact ⟨I.mod.kin.keeps kb,I.mod.glob.keeps kb,⟨mb,b1.keeps kb,b2⟩,I.mod.nolimit.keeps kb⟩
 have bs:∀b o,(km X.base s.heap X.env.cells).get? b=some o->s.heap.get? b=some o/\H b=none:=λ b o e=>by
  obtain ⟨e1,e2⟩:=KC e;refine ⟨e1,?_⟩;rcases e2 with ⟨o',e2⟩ | ⟨y,e2⟩
  ·exact (I.bs b o' e2).2
  ·exact I.freeC y b e2
 refine ⟨⟨I.ok.frames,md,bs,le_of_eq (PySem.W.hideAll_size _ _),frames_at I.stack λ b hb=>?_,I.stkFree,I.hok,I.bare⟩,
  λ k=>RJ hl (λ t ht vs hvs=>Sa I (λ y cc v e ⟨o,ho,hd⟩=>⟨o,Tu e ho,hd⟩) (hix t ht) hvs) k⟩
 cases e:(km X.base s.heap X.env.cells).get? b with
 | none=>rfl
 | some o=>
  exfalso;rcases (KC e).2 with ⟨o',e2⟩ | ⟨y,e2⟩
  ·have:=(I.stack.mem hb).1
   rw [e2] at this;cases this
  ·exact Vc I hfn e2 hb
theorem Ts {K:Frag}{φ:List Addr}{env:Env}{ρ:En}(re:RE K φ H ρ σ):∀{ws us:List W} {vs:List V},gY ls (yM env q ls) ρ ws=some us->zD K φ H ws vs->zD K φ H (us.map (Wf (Zy env q ls σ))) vs
 | [],us,vs,e,r=>by cases e;exact r
 | w::r,us,vs,e,⟨v,r',ev,hv,hr⟩=>by
  subst ev;unfold gY at e;cases e1:YA ls (yM env q ls) ρ w with
  | none=>rw [e1] at e;cases e
  | some u=>
   cases e2:gY ls (yM env q ls) ρ r with
   | none=>rw [e1,e2] at e;cases e
   | some us'=>
    rw [e1,e2] at e;cases e;rw [map_cons];refine .cons ?_ (Ts re e2 hr);cases w with
    | clo k xs P=>
     cases xs with
     | cons x xs=>unfold YA at e1;cases e1
     | nil=>
      unfold YA at e1;dsimp only at e1
      by_cases hP:P=yM env q ls k
      ·rw [if_pos hP] at e1
       subst hP;cases et:ls[k]? with
       | none=>rw [et] at e1;cases e1
       | some t=>
        rw [et] at e1;dsimp only at e1;cases ec:ko t.idx ρ with
        | none=>rw [ec] at e1;cases e1
        | some ws'=>
         rw [ec] at e1;cases e1;obtain ⟨a,ob,u0,c,oc,uc,vs0,rfl,g1,g2,⟨t',et',gp⟩,_⟩:=hv;rw [et] at et';cases et';obtain ⟨vs1,cv,rv⟩:=XH re ec;exact ⟨a,ob,u0,c,oc,uc,vs1,rfl,g1,g2,⟨t,et,gp,cv⟩,rv⟩
      ·rw [if_neg hP] at e1;cases e1
    | _=>cases e1;exact hv
end
section
variable {X:Cx}{xr:XR}{a b c:Expr}{ma mb mc:Ev}{pos:Pos}
end
section
variable {prog:Program}{w:World}{A:Around}{E:Value->Shared->Prop}{s:Shared}
noncomputable abbrev wz (led:Bool):Obj:={ cls:=.type "set",dict:=none,data:=.set #[] 0 (.fresh 0 0 led) }
end
theorem intsAre_of:∀{ns:List Int} {its:List Value},Vals (ns.map V.int) its->IntsAre its ns:=by
 intro ns
 induction ns with
 | nil=>intro its h;cases h;exact .nil
 | cons n ns ih=>
  intro its h;cases h with
  | cons r t=>obtain ⟨tk,rfl⟩:=r;exact .cons n tk (ih t)
section
variable {X:Cx}{xr:XR}{e:Expr}{m:Ev}{pos:Pos}
end
section
variable {X:Cx}{xr:XR}{a b:Expr}{ma mb:Ev}{pos:Pos}
end
section
variable {X:Cx}{xr:XR}{e:Expr}{m:Ev}{pos:Pos}
end
section
variable {X:Cx}{xr:XR}{K:Frag}{a b:Expr}{ma mb:Ev}{pos:Pos}
end
section
open PySem.SeqAt
open PySem.AutoSeq1 (wpAny_loadPart')
open PySem.MeetsSeq PySem.MeetsSeq2 PySem.MeetsSeq3
end
section
variable {prog:Program}{w:World}{A:Around}{E:Value->Shared->Prop}{s:Shared}
end
section
variable {prog:Program}{w:World}{A:Around}{I S:Addr}{fp wr:List Addr}{n:Nat}{P:Nat->Value->Prop}{St:Nat->Heap->Prop}
end
section
variable {X:Cx}{xr:XR}{K:Frag}{e:Expr}{pos:Pos}{pins:List (Addr × Obj)}{σ:St}{H:Hp}{s:Shared}{φ:List Addr}
end
section
variable {X:Cx}{xr:XR}{K:Frag}{a b e:Expr}{ma mb:Ev}{pos:Pos}
theorem He {A:Hx}{w:W}{ds:List PyData}(h:ql A 8 w=some (.list ds)):PyData.canLayAll0 ds=true/\PyData.depthAll ds<=8:=by
 obtain ⟨h1,h2⟩:=XC 8 w _ h;simp only [PyData.canLay0,PyData.depth] at h1 h2;exact ⟨h1,by omega⟩
noncomputable def BR:W->W->Hx->R W:=λ x y A=>match ql A 8 x,ql A 8 y with
 | some d,some (.list ds)=>.ok (.bl (ds.any λ z=>PyData.eqv z d)) A
 | _,_=>.bad
noncomputable def gZ (p:PyData->Bool):List PyData->Option Nat
 | []=>none
 | d::ds=>if p d then some 0 else (gZ p ds).map (· + 1)
theorem Sd {p:PyData->Bool}:∀{ds:List PyData} {j:Nat},gZ p ds=some j->∃h:j<ds.length,p ds[j]=true/\∀m (hm:m<ds.length),m<j->p ds[m]=false
 | [],_,e=>by cases e
 | d::ds,j,e=>by
  unfold gZ at e
  by_cases hd:p d=true
  ·rw [if_pos hd] at e
   cases e;exact ⟨Nat.zero_lt_succ _,hd,λ m _ z=>absurd z (not_lt_zero _)⟩
  ·rw [if_neg hd] at e
   cases e1:gZ p ds with
   | none=>rw [e1] at e;cases e
   | some j'=>
    rw [e1] at e;cases e;obtain ⟨h1,h2,h3⟩:=Sd e1;refine ⟨Nat.succ_lt_succ h1,h2,λ m hm z=>?_⟩;cases m with
    | zero=>exact Bool.eq_false_iff.mpr hd
    | succ m=>exact h3 m (Nat.lt_of_succ_lt_succ hm) (Nat.lt_of_succ_lt_succ z)
noncomputable def Fw (K:Frag):V->List V->Hp->VK->Prop:=λ x vs H Q=>∃φ A u v y d ds j,vs=[y]/\zH K φ A H/\RV K φ H u x/\RV K φ H v y/\ql A 8 u=some (.list ds)/\ql A 8 v=some d/\gZ (λ z=>PyData.eqv z d) ds=some j/\j<1000000/\Q (.int j) H
theorem Ld (hu:X.A.units+64<cLine):Ux X "list.index" (Fw X.K):=by
 intro pins s σ H x vs v us Q I rx rv h;obtain ⟨φ,A,w1,w2,y,d,ds,j,rfl,S,q1,q2,e1,e2,ej,hj,q⟩:=h;obtain ⟨u,rfl,ru⟩:=rv.one;obtain ⟨as,h1⟩:=Jd I S 8 w1 x v _ q1 rx e1;obtain ⟨bs,h2⟩:=Jd I S 8 w2 y u d q2 ru e2;obtain ⟨g1,g2⟩:=XC 8 w2 d e2;obtain ⟨g3,g4⟩:=He e1;obtain ⟨f1,f2,f3⟩:=Sd ej;cases h1 with
 | list a1 a2 a3 a4=>
  rename_i l o items n as'
  obtain ⟨cls,dd,data,sl⟩:=o;simp only at a2 a3;subst a2 a3;have hm:=SeqAt.readsAll_map _ _ _ g3 a4;have hlen:items.size=ds.length:=by rw [<- hm];simp
  have at_:∀m (h:m<items.size) (h':m<ds.length),SeqAt.readOf s.heap items[m]=ds[m]:=λ m h h'=>by
   have e:(items.toList.map (SeqAt.readOf s.heap))[m]? =ds[m]?:=by rw [hm]
   rw [getElem?_map,getElem?_eq_getElem h',getElem?_toList,Array.getElem?_eq_getElem h] at e;exact Option.some.inj e
  refine call_meets F.slot_list_index ⟨_,a1,rfl⟩ F.entry_list_index (F.args_list_index_2 _ _)
   (SeqAt.list_indexAt l items n dd sl u (λ z=>PyData.eqv (SeqAt.readOf s.heap z) d) j (by omega) (by omega) (by rw [at_ j (by omega) f1];exact f2) (λ m h z=>by rw [at_ m h (by omega)];exact f3 m (by omega) z)) ⟨a1,SeqAt.items_eqAt a4 h2 g3 g1 (by omega),?_⟩
  exact ⟨.int j,H,I.tok _,⟨_,rfl⟩,q⟩
noncomputable def gT:W->W->Hx->R W:=λ x y A=>match ql A 8 x,ql A 8 y with
 | some (.list ds),some d=>(match gZ (λ z=>PyData.eqv z d) ds with
  | some j=>if j<1000000 then .ok (.int j) A else .bad
  | none=>.bad)
 | _,_=>.bad
theorem IB:∀x y A,qM (gT x y A):=λ x y A=>by
 unfold gT
 split
 ·split
  ·exact Zo j6 jc
  ·exact jc
 ·exact jc
end
section
variable {X:Cx}{xr:XR}{K:Frag}{e:Expr}{m:Ev}{pos:Pos}
end
end Mi
namespace Mi
open PySem
noncomputable def zT (n:Nat):List Nat:=(List.range 8).filter λ i=>n.testBit i
noncomputable def qW (led:Bool)(n:Nat):SetTable:=if (zT n).length<5 then ⟨7,(zT n).toArray,#[],0,led,0,true⟩ else ⟨31,(zT n).toArray,#[],0,led,1,true⟩
noncomputable def jo (n v:Nat):Nat:=n ||| (1 <<< v)
noncomputable def gx (n v:Nat):Nat:=((zT n).filter λ i=>decide (i<v)).length
noncomputable def kr (led:Bool)(n v:Nat):SetTable:={ qW led n with place:=(zT (jo n v)).toArray }
noncomputable def We (led:Bool)(n v:Nat):Bool:=n.testBit v || (((qW led n).freeSlot (v:Int)==some (v,false))&&((qW led n).put v==(kr led n v,gx n v))&&(zT (jo n v)==(zT n).take (gx n v)++v::(zT n).drop (gx n v))&&
 (kr led n v).fits (zT (jo n v)).length&&((kr led n v).tooFull==((zT (jo n v)).length==5))&&
 (if (zT (jo n v)).length==5 then (kr led n v).relaid ((zT (jo n v)).map λ (i:Nat)=>(i:Int)).toArray 20==some (qW led (jo n v),#[0,1,2,3,4]) else qW led (jo n v)==kr led n v)&&
 (qW led (jo n v)).fits (zT (jo n v)).length&&decide (jo n v<256))
theorem HK:((List.range 256).all λ n=>(List.range 8).all λ v=>We true n v&&We false n v)=true:=by decide +kernel
open PySem PySem.Spec PyProof.Rows
inductive jl:List (Int × Value)->List Nat->Prop
 | nil:jl [] []
 | cons {es:List (Int × Value)} {vs:List Nat} (v:Nat) (tk:Tok) (h:jl es vs):jl (((v:Int),.int (v:Int) tk)::es) (v::vs)
theorem jl.length {es:List (Int × Value)}{vs:List Nat}(h:jl es vs):es.length=vs.length:=by
 induction h with
 | nil=>rfl
 | cons v tk h ih=>simp [ih]
theorem jl.map1 {es:List (Int × Value)}{vs:List Nat}(h:jl es vs):es.map (·.1)=vs.map λ (i:Nat)=>(i:Int):=by
 induction h with
 | nil=>rfl
 | cons v tk h ih=>simp [ih]
theorem jl.take {es:List (Int × Value)}{vs:List Nat}(h:jl es vs):∀k,jl (es.take k) (vs.take k):=by
 induction h with
 | nil=>intro k;simp;exact .nil
 | cons v tk h ih=>
  intro k;cases k with
  | zero=>exact .nil
  | succ k=>exact .cons v tk (ih k)
theorem jl.drop {es:List (Int × Value)}{vs:List Nat}(h:jl es vs):∀k,jl (es.drop k) (vs.drop k):=by
 induction h with
 | nil=>intro k;simp;exact .nil
 | cons v tk h ih=>
  intro k;cases k with
  | zero=>exact .cons v tk h
  | succ k=>exact ih k
theorem jl.app {es es':List (Int × Value)}{vs vs':List Nat}(h:jl es vs)(h':jl es' vs'):jl (es++es') (vs++vs'):=by
 induction h with
 | nil=>exact h'
 | cons v tk h ih=>exact .cons v tk ih
theorem Ta:∀v,v<8->hashInt ((v:Nat):Int)=(v:Int):=by decide
section
variable {prog:Program}{w:World}
theorem jl.elems {es:List (Int × Value)}{vs:List Nat}(h:jl es vs)(hv:∀v∈vs,v<8):ElemsOf (intKind prog w) es:=by
 induction h with
 | nil=>intro e he;cases he
 | cons v tk h ih=>
  intro e he;rcases List.mem_cons.mp he with rfl | he
  ·exact ⟨⟨(v:Int),intKind_is _ _ _ _,(Ta v (hv v (mem_cons_self ..))).symm⟩,rfl⟩
  ·exact ih (λ u hu=>hv u (mem_cons_of_mem _ hu)) e he
theorem jl.find {es:List (Int × Value)}{vs:List Nat}(h:jl es vs)(v:Nat):(es.findIdx? λ e=>(intKind prog w).is (v:Int) e.2)=vs.findIdx? λ u=>decide (u=v):=by
 induction h with
 | nil=>rfl
 | cons u tk h ih=>
  rw [List.findIdx?_cons,List.findIdx?_cons,ih]
  have:(intKind prog w).is (v:Int) (Value.int (u:Int) tk)=decide (u=v):=by
   show Value.isInt (v:Int) (Value.int (u:Int) tk)=_;unfold Value.isInt;rw [Bool.eq_iff_iff];simp;omega
  rw [this]
end
theorem Vx {n v:Nat}:v∈zT n↔v<8/\n.testBit v=true:=by
 unfold zT;rw [mem_filter,List.mem_range]
noncomputable def yi (h:Heap)(a:Addr)(led:Bool)(n:Nat):Prop:=∃o es ep,h.get? a=some o/\o.ExactSet/\o.data=.set es ep (qW led n)/\jl es.toList (zT n)/\n<256
theorem yi.keep {h h':Heap}{a:Addr}{led:Bool}{n:Nat}(x:yi h a led n)(k:∀o,h.get? a=some o->h'.get? a=some o):yi h' a led n:=
 let ⟨o,es,ep,ho,r⟩:=x;⟨o,es,ep,k o ho,r⟩
theorem L7 {n v:Nat}(hn:n<256)(hv:v<8)(led:Bool):We led n v=true:=by
 have h:=List.all_eq_true.mp (List.all_eq_true.mp HK n (List.mem_range.mpr hn)) v (List.mem_range.mpr hv);rw [and_eq_true] at h;cases led
 ·exact h.2
 ·exact h.1
theorem LV:((List.range 256).all λ n=>(qW true n).fits (zT n).length&&(qW false n).fits (zT n).length)=true:=by decide +kernel
theorem XB (led:Bool)(n:Nat):(qW led n).plain=true:=by unfold qW;split<;>rfl
theorem HE (led:Bool)(n:Nat):(qW led n).led=led:=by unfold qW;split<;>rfl
theorem TV (led:Bool)(n:Nat):(qW led n).place=(zT n).toArray:=by unfold qW;split<;>rfl
theorem fits_of {n:Nat}(hn:n<256)(led:Bool):(qW led n).fits (zT n).length=true:=by
 have h:=List.all_eq_true.mp LV n (List.mem_range.mpr hn);rw [and_eq_true] at h;cases led
 ·exact h.2
 ·exact h.1
theorem Jq (n:Nat):(zT n).length<=8:=by
 unfold zT;exact le_trans (length_filter_le _ _) (by simp)
structure Ws (led:Bool)(n v:Nat):Prop where
 free:(qW led n).freeSlot (v:Int)=some (v,false)
 put:(qW led n).put v=(kr led n v,gx n v)
 vs:zT (jo n v)=(zT n).take (gx n v)++v::(zT n).drop (gx n v)
 fits:(kr led n v).fits (zT (jo n v)).length=true
 full:(kr led n v).tooFull=((zT (jo n v)).length==5)
 Uo:(zT (jo n v)).length=5->(kr led n v).relaid ((zT (jo n v)).map λ (i:Nat)=>(i:Int)).toArray 20=some (qW led (jo n v),#[0,1,2,3,4])
 less:(zT (jo n v)).length≠5->qW led (jo n v)=kr led n v
 lt:jo n v<256
theorem M4 {n v:Nat}(hn:n<256)(hv:v<8)(led:Bool)(hb:n.testBit v=false):Ws led n v:=by
 have h:=L7 hn hv led;unfold We at h;rw [hb,Bool.false_or] at h;simp only [and_eq_true,beq_iff_eq,decide_eq_true_iff] at h;obtain ⟨⟨⟨⟨⟨⟨⟨h1,h2⟩,h3⟩,h4⟩,h5⟩,h6⟩,h7⟩,h8⟩:=h;refine ⟨h1,h2,h3,h4,h5,λ e=>?_,λ e=>?_,h8⟩
 ·rw [if_pos e] at h6;exact of_decide_eq_true (by simpa using h6)
 ·rw [if_neg e] at h6;simpa using h6
noncomputable def yj (n v:Nat):Nat:=if n.testBit v then n else jo n v
section
variable {prog:Program}{w:World}{A:Around}{E:Value->Shared->Prop}{s:Shared}
theorem LY {es:Array (Int × Value)}{n v:Nat}{led:Bool}{x:Value}(f:Ws led n v)(he:jl es.toList (zT n)):layNew (qW led n) es (v:Int) x=(SetTable.insertAt es (gx n v) ((v:Int),x),kr led n v,false,false):=by
 have hsz:(SetTable.insertAt es (gx n v) ((v:Int),x)).size=(zT (jo n v)).length:=by
  rw [<- length_toList,SetTable.toList_insertAt,f.vs,length_append,length_append,length_cons,length_cons,length_take,length_take,List.length_drop,List.length_drop,he.length]
 unfold layNew;rw [f.free];dsimp only;rw [f.put];dsimp only;rw [hsz];unfold SetTable.orStandIn;rw [if_pos f.fits,f.fits]
 rfl
theorem Fo {es:Array (Int × Value)}{n v:Nat}{led:Bool}(f:Ws led n v)(h5:(zT (jo n v)).length=5)(he:jl es.toList (zT (jo n v))):relayAll (kr led n v) es 20=(es,qW led (jo n v),false):=by
 have hm:es.map (·.1)=((zT (jo n v)).map λ (i:Nat)=>(i:Int)).toArray:=by
  apply Array.toList_inj.mp
  rw [Array.toList_map,he.map1]
 have hsz:es.size=5:=by rw [<- length_toList,he.length,h5]
 have hfm:(#[0,1,2,3,4]:Array Nat).filterMap (es[·]?)=es:=by
  apply Array.toList_inj.mp
  rw [Array.toList_filterMap];have h0:es.toList.length=5:=by rw [length_toList];exact hsz
  have hg:∀i,es[i]? =es.toList[i]?:=λ i=>by rw [getElem?_toList]
  simp only [hg];generalize es.toList=l at h0;obtain ⟨a,b,c,d,e,rfl⟩:∃a b c d e,l=[a,b,c,d,e]:=by
   match l,h0 with
   | [a,b,c,d,e],_=>exact ⟨a,b,c,d,e,rfl⟩
  rfl
 unfold relayAll;rw [hm,f.Uo h5];dsimp only;rw [hfm];have hc:coversAll #[0,1,2,3,4] es.size=true:=by rw [hsz];decide +kernel
 have hf:(qW led (jo n v)).fits es.size=true:=by rw [hsz,<- h5];exact fits_of f.lt led
 rw [hc,hf]
 rfl
theorem jl.insert {es:Array (Int × Value)}{n v:Nat}{led:Bool}{tk:Tok}(f:Ws led n v)(he:jl es.toList (zT n)):jl (SetTable.insertAt es (gx n v) ((v:Int),.int (v:Int) tk)).toList (zT (jo n v)):=by
 rw [SetTable.toList_insertAt,f.vs];exact (he.take _).app (.cons v tk (he.drop _))
theorem Th {h:Heap}{a:Addr}{o:Obj}{es es':Array (Int × Value)}{ep:Nat}{t:SetTable}{t':SetTable}(ho:h.get? a=some o)(hd:o.data=.set es ep t):(h.update a (Obj.putSet es' t')).get? a=some { o with data:=.set es' (ep+1) t' }:=by
 have:=Heap.get?_update_self (Obj.putSet es' t') ho (by rw [putSet_of es' t' hd];rfl)
 rw [putSet_of es' t' hd] at this;exact this
theorem N5 {a:Addr}{led:Bool}{n v:Nat}{tk:Tok}{Q:Bool->Shared->Prop}(hS:yi s.heap a led n)(hv:v<8)
  (h:∀h' b,Heap.SameBut a s.heap h'->yi h' a led (yj n v)->Q b { s with heap:=h' }):
  wpAny (model prog w) A (setAddHashed a (.int (v:Int) tk) ((intKind prog w).hash (v:Int))) Q E s:=by
 obtain ⟨o,es,ep,ho,hex,hd,he,hn⟩:=hS;have hlen:es.size=(zT n).length:=by rw [<- length_toList,he.length]
 have hf:(qW led n).fits es.size=true:=by rw [hlen];exact fits_of hn led
 have hel:ElemsOf (intKind prog w) es.toList:=he.elems λ u hu=>(Vx.mp hu).1;have hb:es.size<scanBound:=by rw [hlen];have:=Jq n;unfold scanBound;omega
 unfold setAddHashed setAddHashedIn;refine wpAny_holding (wpAny_bind (wpAny_setState_of ho hd hf ?_));dsimp only;rw [byScan_of (x:=.int (v:Int) tk) rfl hb hel];simp only [↓reduceIte];unfold setAddByScan;refine wpAny_bind ?_;refine wpAny_bind (wpAny_rule ?_);refine wpAny_bind (wpAny_setScan_of (knd:=intKind prog w) (intKind_is _ _ _ _) ho hd hf hel ?_);rw [he.find];cases hr:(zT n).findIdx? λ u=>decide (u=v) with
 | some j=>
  dsimp only;have hb:n.testBit v=true:=by
   obtain ⟨hj,hpj,_⟩:=List.findIdx?_eq_some_iff_getElem.mp hr
   have:=of_decide_eq_true hpj
   exact (Vx.mp (this ▸ getElem_mem hj)).2
  refine wpAny_pure (wpAny_pure ?_);have e:s={ s with heap:=s.heap }:=by cases s;rfl
  rw [e];refine h s.heap false (Heap.SameBut.refl a s.heap) ?_;unfold yj;rw [if_pos hb];exact ⟨o,es,ep,ho,hex,hd,he,hn⟩
 | none=>
  dsimp only;have hb:n.testBit v=false:=by
   cases hk:n.testBit v with
   | false=>rfl
   | true=>
    have:=List.findIdx?_eq_none_iff.mp hr v (Vx.mpr ⟨hv,hk⟩)
    simp at this
  have f:=M4 hn hv led hb;have hh:(intKind prog w).hash (v:Int)=(v:Int):=Ta v hv;rw [hh];rw [LY f he];have he1:=he.insert (tk:=tk) f;have hl1:(SetTable.insertAt es (gx n v) ((v:Int),Value.int (v:Int) tk)).size=(zT (jo n v)).length:=by rw [<- length_toList,he1.length]
  generalize SetTable.insertAt es (gx n v) ((v:Int),Value.int (v:Int) tk)=es1 at he1 hl1;dsimp only;refine wpAny_bind (wpAny_pure ?_);have hp:(kr led n v).plain=true:=by unfold kr;exact XB led n
  rw [hp];simp only [↓reduceIte];refine wpAny_bind ?_;rw [hashByValue_scannable 8 (x:=.int (v:Int) tk) rfl];refine wpAny_pure ?_;have hpk:plainKind (.int (v:Int) tk)=true:=rfl;rw [hpk];simp only [↓reduceIte];have hz1:es1.size<=sizeLine:=by rw [hl1,sizeLine_eq];have:=Jq (jo n v);omega
  refine wpAny_bind (wpAny_storeSet_of ho hd ?_ hz1);have ho1:=Th (es':=es1) (t':=kr led n v) ho hd;have hsb1:=Heap.SameBut.update s.heap a (Obj.putSet es1 (kr led n v));rw [f.full]
  by_cases h5:(zT (jo n v)).length=5
  ·have hg:SetTable.grown es1.size=20:=by rw [hl1,h5];rfl
   rw [hg,Fo f h5 he1,h5];simp only [Bool.not_false,Bool.true_and,beq_self_eq_true,↓reduceIte];refine wpAny_bind (wpAny_pure ?_);refine wpAny_bind (wpAny_storeSet_of ho1 rfl ?_ hz1);refine wpAny_pure ?_;dsimp only;refine wpAny_pure ?_;have ho2:=Th (es':=es1) (t':=qW led (jo n v)) ho1 rfl;refine h _ true (hsb1.trans (Heap.SameBut.update _ a _)) ?_;unfold yj;rw [hb];exact ⟨_,es1,ep+1+1,ho2,hex,rfl,he1,f.lt⟩
  ·have hq:((zT (jo n v)).length==5)=false:=by simpa using h5
   rw [hq];simp only [Bool.not_false,Bool.and_false,false_eq_true,↓reduceIte];refine wpAny_pure ?_;dsimp only;refine wpAny_pure ?_;refine h _ true hsb1 ?_;unfold yj;rw [hb,if_neg Bool.false_ne_true,];refine ⟨_,es1,ep+1,ho1,hex,?_,he1,f.lt⟩;rw [f.less h5]
end
noncomputable abbrev jC (w:World):Bool:=!w.params.followText "set-order"
noncomputable def Zs (val:Nat->Nat)(i:Nat):Nat:=((List.range i).map val).foldl yj 0
theorem MW (val:Nat->Nat)(i:Nat):Zs val (i+1)=yj (Zs val i) (val i):=by
 unfold Zs;rw [range_succ,map_append,List.foldl_append]
 rfl
section
variable {prog:Program}{w:World}{A:Around}{E:Value->Shared->Prop}{s:Shared}
theorem O6 (a:Value){Q1:Value->Shared->Prop}(h:Q1 (.ref s.heap.objs.size) { s with heap:=s.heap.push (wz (jC w)) }):
  codeAny (model prog w) A (.call (.builtin "set.__new__") ⟨[.type "set",a],[]⟩) (wants Q1 E) s:=by
 refine codeAny_of_tree ?_;show wpAny _ A.in1 (do checkBuiltinCall "set.__new__" ⟨[.type "set",a],[]⟩;again (.builtin "set.__new__" ⟨[.type "set",a],[]⟩)) _ _ s
 refine wpAny_bind (wpAny_of_eq (F.newCall_set_1 a) (wpAny_pure ⟨plainId_quiet F.plain_set_new _,codeAny_builtin F.entry_set_new ?_⟩));rw [Around.under_plainId F.plain_set_new _];unfold Builtin.«set.__new__» Builtin.Frozenset.newClass;have hsub:=sub_set_self;obtain ⟨hp,g,d,tk,os⟩:=s;dsimp only
 wp_walk
 refine wpAny_askSetting (wpAny_pure ?_);dsimp only;simp only [newObj];refine wpAny_bind (wpAny_alloc (wpAny_pure ?_));exact wpAny_pure h
end
section
variable {prog:Program}{w:World}{A:Around}{R:Result->Shared->Prop}{I:Addr}{fp wr:List Addr}{G:Array GenState->Array GenState->Prop}{n:Nat}{P:Nat->Value->Prop}{St:Nat->Shared->Prop}
theorem M3 (W:WalksS prog w A.in1 I fp wr G n P St)(S:Addr)(hSf:S∉fp)(led:Bool)(val:Nat->Nat)(hval:∀i v,P i v->∃t,v=.int ((val i:Nat):Int) t)(h8:∀i,i<n->val i<8):
  ∀(k i:Nat) (s:Shared),n - i=k->i<=n->St i s->yi s.heap S led (Zs val i)->
   (∀s',Moved (S::wr) G s s'->yi s'.heap S led (Zs val n)->R (.ok (.ret .none)) s')->
   codeAny (model prog w) A (.builtin "set.update.loop" ⟨[.ref S,.ref I],[]⟩) R s:=by
 have hSw:S∉wr:=λ h=>hSf (W.sub _ h);have hsub:∀b∈wr,b∈S::wr:=λ b hb=>mem_cons_of_mem _ hb;intro k
 induction k with
 | zero=>
  intro i s hk hi hst hS hR;have hin:i=n:=by omega
  subst hin;refine codeAny_builtin F.entry_set_update_loop ?_;rw [Around.under_plainId F.plain_set_update_loop _];show wpAny _ A.in1 (pyNext (.ref I) >>= _) _ _ s;refine wpAny_bind (W.done s _ _ hst λ s' hm=>?_);show wpAny _ A.in1 (ret Value.none) _ _ s';exact wpAny_pure (hR s' (hm.mono hsub) (hS.keep λ o ho=>hm.heap S _ hSw ho))
 | succ k ih=>
  intro i s hk hi hst hS hR;have hlt:i<n:=by omega
  refine codeAny_builtin F.entry_set_update_loop ?_;rw [Around.under_plainId F.plain_set_update_loop _];show wpAny _ A.in1 (pyNext (.ref I) >>= _) _ _ s;refine wpAny_bind (W.item i s _ _ hlt hst λ v s' hP hst' hm=>?_);obtain ⟨t,rfl⟩:=hval i v hP;have hS':yi s'.heap S led (Zs val i):=hS.keep λ o ho=>hm.heap S _ hSw ho;show wpAny _ A.in1 (holding [Value.int ((val i:Nat):Int) t] (setAdd S (.int ((val i:Nat):Int) t)) >>= _) _ _ s';refine wpAny_bind (wpAny_holding ?_);unfold setAdd;refine wpAny_holding ?_;refine wpAny_bind ((intKind prog w).pyHash (k:=((val i:Nat):Int)) (intKind_is _ _ _ _) ?_);refine N5 (s:={ s' with toks:=s'.toks+1 }) hS' (h8 i hlt) λ h' b hsb hS2=>?_
  have hSi:yi h' S led (Zs val (i+1)):=by rw [MW];exact hS2
  refine wpAny_pure ⟨plainId_quiet F.plain_set_update_loop _,ih (i+1) _ (by omega) hlt (W.frame _ s' _ _ hst' (le_succ _) λ b hb o e=>?_) hSi λ s'' hm'' hS''=>?_⟩
  ·rw [hsb.2 b (λ h:b=S=>hSf (by rw [<- h];exact hb))];exact e
  ·refine hR s'' (Moved.trans W.gtrans ((hm.mono hsub).then_heap (le_succ _) λ b o hb e=>?_) hm'') hS''
   rw [hsb.2 b (λ h:b=S=>hb (by rw [h];exact mem_cons_self))];exact e
end
section
variable {prog:Program}{w:World}{A:Around}{E:Value->Shared->Prop}{s:Shared}
theorem DE (led:Bool){h:Heap}{a:Addr}(g:h.get? a=some (wz led)):yi h a led 0:=
 ⟨_,#[],0,g,⟨rfl,rfl,rfl⟩,(by cases led<;>rfl),.nil,by decide⟩
theorem OQ {led:Bool}{l:Addr}{its:List Value}{vs:List Nat}{Q:Value->Shared->Prop}(hh:A.handled=none)(ht:s.heap.IsList l its.toArray)(hv:IntsAre its (vs.map λ (v:Nat)=>(v:Int)))(h8:∀v∈vs,v<8)
  (h:∀(h':Heap) (tk:Nat),yi h' s.heap.objs.size led (vs.foldl yj 0)->
   (∀b o,b<s.heap.objs.size->s.heap.get? b=some o->h'.get? b=some o)->Q .none { s with heap:=h',toks:=tk }):
  codeAny (model prog w) A (.call (.builtin "set.__init__") ⟨[.ref s.heap.objs.size,.ref l],[]⟩) (wants Q E) { s with heap:=s.heap.push (wz led) }:=by
 have hlen:its.length=vs.length:=by
  have:∀{its:List Value} {ns:List Int},IntsAre its ns->its.length=ns.length:=λ h=>by
   induction h with
   | nil=>rfl
   | cons _ _ _ ih=>simp [ih]
  rw [this hv,length_map]
 have gS:(s.heap.push (wz led)).get? s.heap.objs.size=some (wz led):=Heap.get?_push_size _ rfl;refine codeAny_call_builtin F.called_set.init.plain F.entry_set_init (check_set_init_1 ⟨_,gS,rfl⟩ ?_);obtain ⟨ob,h1,h2,n,h3⟩:=ht;obtain ⟨oc,od,odt,osl⟩:=ob;dsimp only at h2 h3;cases h2;cases h3;have g1:=Heap.get?_push_of_some (wz led) h1;have n1:=F.sub_list_set;have n2:=F.sub_list_frozenset;have n3:(Value.type "list" == Value.type "dict")=false:=by decide
 have T1:(s.heap.push (wz led)).IsList l its.toArray:=⟨_,g1,rfl,n,rfl⟩;unfold Builtin.«set.__init__» noKeywords Builtin.Frozenset.updateFrom;generalize hp:pyIter=PI
 wp_walk
 subst hp;refine wpAny_pyIter_list T1 (wpAny_bind (wpAny_runValue ?_));have lt:l<s.heap.objs.size:=Heap.lt_size h1;have sz:(s.heap.push (wz led)).objs.size=s.heap.objs.size+1:=Heap.size_push ..;have ne:l≠(s.heap.push (wz led)).objs.size:=by rw [sz];exact ne_of_lt (lt_succ_of_lt lt)
 have W:=(Walks.list (prog:=prog) (w:=w) (A:=A.in1.in1) (by simp [hh]) (s.heap.push (wz led)).objs.size l ne its.toArray).toS
 have esz:its.toArray.size=vs.length:=by rw [size_toArray];exact hlen
 rw [esz] at W;have off:s.heap.objs.size∉[(s.heap.push (wz led)).objs.size,l]:=by
  rw [sz];intro hm;rcases List.mem_cons.mp hm with z | hm
  ·exact ne_of_lt (lt_succ_self _) z
  ·exact ne_of_gt lt (List.mem_singleton.mp hm)
 have hacc:Zs (λ i=>vs.getD i 0) vs.length=vs.foldl yj 0:=by
  unfold Zs
  congr 1
  apply ext_getElem
  ·simp
  ·intro i h1 h2
   have hi:i<vs.length:=by simpa using h2
   simp [getD_eq_getElem?_getD,getElem?_eq_getElem hi]
 refine M3 W s.heap.objs.size off led (λ i=>vs.getD i 0) (λ i v e=>?_) (λ i hi=>?_) vs.length 0 _ rfl (zero_le _) ⟨⟨_,Heap.get?_push_size _ rfl,rfl,rfl⟩,T1.push _⟩ ?_ ?_
 ·obtain ⟨t,e2⟩:=IntsAre.int_at hv i v (by simpa using e)
  refine ⟨t,e2.trans ?_⟩;have hi:i<vs.length:=by
   have:=(List.getElem?_eq_some_iff.mp (show its[i]? =some v by simpa using e)).1
   omega
  congr 1
  simp [getD_eq_getElem?_getD,getElem?_map,getElem?_eq_getElem hi]
 ·rw [getD_eq_getElem?_getD,getElem?_eq_getElem hi]
  exact h8 _ (getElem_mem hi)
 ·exact DE led (Heap.get?_push_of_some _ gS)
 ·intro s' mv S'
  rw [hacc] at S';obtain ⟨h',g',d',tk',os'⟩:=s';have e1:g'=s.gens:=mv.gens;have e2:d'=s.drawn:=mv.drawn;have e3:os'=s.os:=mv.os;subst e1 e2 e3;refine wpAny_pure ?_;show wpAny _ _ (ret Value.none) _ _ _;refine wpAny_pure (h h' tk' S' λ b o lb e=>mv.heap b o (λ hm=>?_) (Heap.get?_push_of_some _ (Heap.get?_push_of_some _ e)));rcases List.mem_cons.mp hm with z | hm
  ·exact ne_of_lt lb z
  ·exact ne_of_lt (lt_succ_of_lt lb) ((List.mem_singleton.mp hm).trans sz)
theorem OS {l:Addr}{its:List Value}{vs:List Nat}{Q:Value->Shared->Prop}(hh:A.handled=none)(ht:s.heap.IsList l its.toArray)(hv:IntsAre its (vs.map λ (v:Nat)=>(v:Int)))(h8:∀v∈vs,v<8)
  (h:∀(h':Heap) (tk:Nat),yi h' s.heap.objs.size (jC w) (vs.foldl yj 0)->
   (∀b o,b<s.heap.objs.size->s.heap.get? b=some o->h'.get? b=some o)->Q (.ref s.heap.objs.size) { s with heap:=h',toks:=tk }):
  wpAny (model prog w) A (call (.type "set") [.ref l]) Q E s:=by
 obtain ⟨c,tl,hmro⟩:=F.called_set.mro;have a1:=F.called_set.made;have a2:=F.called_set.sub;have a3:=F.called_set.notType;have a4:=F.called_set.canCreate;have a5:=F.typeCall_set_1 (.ref l);refine wpAny_call (codeAny_of_tree ?_);show wpAny _ _ (callAny (.type "set") _) _ _ _;refine wpAny_pure ⟨Code.quiet_builtin _ (by decide +kernel),codeAny_builtin F.entry_type_call ?_⟩
 rw [Around.under_plain (weight_type_call_type "set" [.ref l] []) rfl]
 repeat (any_goals (first | assumption | wp_step))
 refine codeAny_mono (O6 (.ref l) (E:=E) (Q1:=λ u s1=>u=.ref s.heap.objs.size/\s1={ s with heap:=s.heap.push (wz (jC w)) }) ⟨rfl,rfl⟩) λ r s1 hr=>?_
 cases r with
 | error e=>exact hr
 | ok fl=>
  cases fl with
  | ret u=>
   obtain ⟨rfl,rfl⟩:=hr;have T:Shared.TypeIs { s with heap:=s.heap.push (wz (jC w)) } (.ref s.heap.objs.size) "set" := ⟨_,Heap.get?_push_size _ rfl,rfl⟩
   have b1:=F.called_set.init.lookup;have b2:=F.called_set.init.bind (.ref s.heap.objs.size)
   repeat (any_goals (first | assumption | wp_step))
   refine codeAny_mono (OQ (E:=E) (Q:=λ v s2=>v=.none/\∃h' tk,s2={ s with heap:=h',toks:=tk }/\yi h' s.heap.objs.size (jC w) (vs.foldl yj 0)/\
    ∀b o,b<s.heap.objs.size->s.heap.get? b=some o->h'.get? b=some o) (by simp [hh]) ht hv h8 λ h' tk S' k'=>⟨rfl,h',tk,rfl,S',k'⟩) λ r2 s2 hr2=>?_
   cases r2 with
   | error e=>exact hr2
   | ok fl2=>
    cases fl2 with
    | ret v=>
     obtain ⟨rfl,h',tk,rfl,S',k'⟩:=hr2
     repeat (any_goals (first | assumption | wp_step))
     exact h _ _ S' k'
    | _=>exact hr2.elim
  | _=>exact hr.elim
end
theorem Tj {α:Type}:∀{l:List α} {k:Nat} {w:α},l[k]? =some w->l.Perm (w::l.eraseIdx k)
 | [],_,_,h=>by simp at h
 | x::l,0,w,h=>by
  simp at h;subst h;simp
 | x::l,k+1,w,h=>by
  rw [List.getElem?_cons_succ] at h;rw [List.eraseIdx_cons_succ];exact ((Tj h).cons x).trans (List.Perm.swap w x _)
theorem HW {α:Type}(next:Nat->Nat):∀(f k:Nat) (left:List α) (out:Array α),left.length=f->(pickOrder.go next f k left out).toList.Perm (out.toList++left):=by
 intro f
 induction f with
 | zero=>
  intro k left out h
  have:left=[]:=List.length_eq_zero_iff.mp h
  subst this;unfold pickOrder.go;simp
 | succ f ih=>
  intro k left out h;have hlt:next k % left.length<left.length:=Nat.mod_lt _ (by omega)
  unfold pickOrder.go;rw [getElem?_eq_getElem hlt];dsimp only;refine (ih (k+1) _ _ (by rw [List.length_eraseIdx_of_lt hlt];omega)).trans ?_
  rw [Array.toList_push,append_assoc];exact List.Perm.append_left _ (Tj (getElem?_eq_getElem hlt)).symm
theorem Mt {α:Type}(next:Nat->Nat)(xs:Array α):(pickOrder next xs).toList.Perm xs.toList:=by
 unfold pickOrder
 have:=HW next xs.size 0 xs.toList #[] (by simp)
 simpa using this
namespace F
theorem OX:entryFor table "set.__iter__" = some Builtin.«frozenset.__iter__»:=entryFor_alias (id' := "frozenset.__iter__") (by kernel_rfl) rfl (by decide +kernel) (by kernel_rfl)
theorem Od:entryFor table "set_iterator.__iter__" = some Builtin.«dict_keyiterator.__iter__»:=entryFor_alias (id' := "dict_keyiterator.__iter__") (by kernel_rfl) rfl (by decide +kernel) (by kernel_rfl)
theorem UN:Manifest.owners.lookup (String.ofList ['r','o','t','a','r','e','t','i','_','t','e','s'].reverse)=some Manifest.sig_set_iterator:=by kernel_rfl
theorem QT:Slot "set_iterator" "__next__" "set_iterator.__next__" :=
 .of (owner := "set_iterator") (n := "__next__") (by rw [typeLookup_type,builtinLookup_eq_fast];kernel_rfl) (by decide +kernel) (by decide +kernel) (by decide +kernel)
  (by first | exact .inl (by decide +kernel) | exact .inr (by decide +kernel)) (by rw [isSubtype_type];kernel_rfl)
theorem UJ:entryFor table "set_iterator.__next__" = some Builtin.«set_iterator.__next__»:=entryFor_of_tree (by kernel_rfl)
theorem UI (a:Value):argsOk "set_iterator.__next__" ⟨[a],[]⟩:=by
 unfold argsOk;rw [signature?_of (id := "set_iterator.__next__") (n:=['_','_','t','x','e','n','_','_']) (o:=['r','o','t','a','r','e','t','i','_','t','e','s']) (by kernel_rfl) UN];kernel_rfl
theorem Oc (a:Value):argsOk "set_iterator.__iter__" ⟨[a],[]⟩:=by
 unfold argsOk;rw [signature?_of (id := "set_iterator.__iter__") (n:=['_','_','r','e','t','i','_','_']) (o:=['r','o','t','a','r','e','t','i','_','t','e','s']) (by kernel_rfl) UN];kernel_rfl
theorem UK:Slot "set_iterator" "__iter__" "set_iterator.__iter__" :=
 .of (owner := "set_iterator") (n := "__iter__") (by rw [typeLookup_type,builtinLookup_eq_fast];kernel_rfl) (by decide +kernel) (by decide +kernel) (by decide +kernel)
  (by first | exact .inl (by decide +kernel) | exact .inr (by decide +kernel)) (by rw [isSubtype_type];kernel_rfl)
end F
noncomputable def Ym (n i:Nat):Nat:=match i with
 | 0=>0
 | i+1=>(zT n).getD i 0+1
noncomputable def RB (n i:Nat):Bool:=decide ((zT n).length<i) || (SetTable.below (zT n).toArray (Ym n i)==i)
theorem LP:((List.range 256).all λ n=>(List.range 9).all λ i=>RB n i)=true:=by decide +kernel
theorem IP {n i:Nat}(hn:n<256)(hi:i<=(zT n).length):SetTable.below (zT n).toArray (Ym n i)=i:=by
 have h8:=Jq n;have h:=List.all_eq_true.mp (List.all_eq_true.mp LP n (List.mem_range.mpr hn)) i (List.mem_range.mpr (by omega))
 unfold RB at h;rw [decide_eq_false (by omega),Bool.false_or,beq_iff_eq] at h
 exact h
noncomputable def Qf (h:Heap)(I S:Addr)(slot i n ep:Nat):Prop:=∃o,h.get? I=some o/\o.cls=.type "set_iterator" /\ o.data=.fields #[.int slot 0,.int i 0,.ref S,.int n 0,.int ep 0]
noncomputable def yJ (w:World)(a:Addr)(ep:Nat)(es:Array (Int × Value)):Array (Int × Value):=if w.params.followText "set-order" then pickOrder (w.params.setOrder a ep) es else es
theorem JW (w:World)(a:Addr)(ep:Nat)(es:Array (Int × Value)):(yJ w a ep es).toList.Perm es.toList:=by
 unfold yJ
 split
 ·exact Mt _ _
 ·exact List.Perm.refl _
noncomputable def kZ (w:World)(n i:Nat):Nat:=if w.params.followText "set-order" then 0 else Ym n i
section
variable {prog:Program}{w:World}{A:Around}{E:Value->Shared->Prop}{s:Shared}{a:Addr}{o:Obj}{es:Array (Int × Value)}{ep n:Nat}
theorem GF {Q:Bool->Shared->Prop}(h:Q (w.params.followText "set-order") s):wpAny (model prog w) A setsByText Q E s:=by
 unfold setsByText;exact wpAny_bind (wpAny_askSetting (wpAny_pure h))
theorem Ow {Q:Value->Shared->Prop}(ho:s.heap.get? a=some o)(hex:o.ExactSet)(hd:o.data=.set es ep (qW (jC w) n))(he:jl es.toList (zT n))(hn:n<256)
  (hQ:Q (.ref s.heap.objs.size) { s with heap:=s.heap.push { cls:=.type "set_iterator",data:=.fields #[.int 0 0,.int 0 0,.ref a,.int es.size 0,.int ep 0] } }):
  wpAny (model prog w) A (pyIter (.ref a)) Q E s:=by
 have hT:s.TypeIs (.ref a) "set" := ⟨o,ho,hex.1⟩;have hlen:es.size=(zT n).length:=by rw [<- length_toList,he.length]
 have hf:(qW (jC w) n).fits es.size=true:=by rw [hlen];exact fits_of hn _
 refine wpAny_pyIter_slot hT PySem.F.slot_set_iter (wpAny_call_entry PySem.F.slot_set_iter hT F.OX ?_ (PySem.F.args_set_iter_1 _));unfold Builtin.«frozenset.__iter__»;show wpAny _ _ (Builtin.Frozenset.sizeOf a >>= _) _ _ s;unfold Builtin.Frozenset.sizeOf;refine wpAny_bind (wpAny_bind (wpAny_setEntries_of ho hd hf (wpAny_pure ?_)));unfold setDrawn;refine wpAny_bind (wpAny_bind (wpAny_setState_of ho hd hf ?_));dsimp only;refine wpAny_bind (GF (wpAny_pure ?_));rw [if_neg (λ h=>by
  have h2:(!w.params.followText "set-order" && (!(qW (jC w) n).plain&&decide (es.size > 1)))=true:=h;rw [XB] at h2;simp at h2)]
 refine wpAny_bind (wpAny_pure ?_);refine wpAny_bind (wpAny_setEpoch_of ho hd hf ?_);exact wpAny_bind (wpAny_newObj_type (wpAny_pure ⟨_,rfl, "set_iterator",_,⟨_,Heap.get?_push_size _ rfl,rfl⟩,F.QT.lookup,hQ⟩))
theorem UU {i:Nat}{Q:Option (Value × Nat)->Shared->Prop}(ho:s.heap.get? a=some o)(hd:o.data=.set es ep (qW (jC w) n))(he:jl es.toList (zT n))(hn:n<256)(hi:i<=es.size)
  (h:Q (((yJ w a ep es)[i]?).map λ e=>(e.2,kZ w n (i+1))) s):wpAny (model prog w) A (setNext a (kZ w n i) i ep) Q E s:=by
 have hlen:es.size=(zT n).length:=by rw [<- length_toList,he.length]
 have hf:(qW (jC w) n).fits es.size=true:=by rw [hlen];exact fits_of hn _
 unfold setNext;refine wpAny_bind (wpAny_setState_of ho hd hf ?_);dsimp only;refine wpAny_bind (GF ?_);unfold yJ kZ at h;cases ht:w.params.followText "set-order" with
 | true=>
  rw [ht] at h;simp only [↓reduceIte] at h ⊢;have hep:¬((ep != ep)=true):=by simp
  rw [if_neg hep];unfold setWalk;refine wpAny_bind (wpAny_bind (wpAny_setState_of ho hd hf ?_));dsimp only;refine wpAny_bind (GF ?_);rw [ht];simp only [↓reduceIte];refine wpAny_bind (wpAny_askSetting (wpAny_pure (wpAny_pure ?_)));unfold kZ;rw [ht];exact h
 | false=>
  rw [ht] at h;simp only [false_eq_true,↓reduceIte] at h ⊢;rw [if_neg (λ h=>by
   have h2:(!(qW (jC w) n).plain&&decide (es.size > 1))=true:=h;rw [XB] at h2;simp at h2)]
  have hled:(qW (jC w) n).led=true:=by rw [HE];unfold jC;rw [ht];rfl
  refine wpAny_bind ?_;show wpAny _ _ (if (!(qW (jC w) n).led&&!es.isEmpty)=true then unsupported "set:maker-not-led" else pure ()) _ _ _;rw [hled];simp only [Bool.not_true,Bool.false_and,false_eq_true,↓reduceIte];refine wpAny_pure ?_;have hb:SetTable.below (qW (jC w) n).place (kZ w n i)=i:=by
   rw [TV];unfold kZ;rw [ht];exact IP hn (by omega)
  rw [hb,TV];refine wpAny_pure ?_
  by_cases hlt:i<es.size
  ·have hv:(zT n)[i]? =some ((zT n)[i]'(by omega)):=getElem?_eq_getElem (by omega)
   have hp:(zT n).toArray[i]? =some ((zT n)[i]'(by omega)):=by rw [List.getElem?_toArray];exact hv
   have hee:es[i]? =some es[i]:=Array.getElem?_eq_getElem hlt;rw [hee] at h;rw [hee,hp];dsimp only;have hs:Ym n (i+1)=(zT n)[i]'(by omega)+1:=by
    show (zT n).getD i 0+1=_;rw [getD_eq_getElem?_getD,hv]
    rfl
   rw [hs] at h;exact h
  ·have hee:es[i]? =none:=Array.getElem?_eq_none (by omega)
   rw [hee] at h;rw [hee];exact h
theorem Oe {I:Addr}{i:Nat}{e:Int × Value}{Q:Option Value->Shared->Prop}(hit:Qf s.heap I a (kZ w n i) i es.size ep)(ho:s.heap.get? a=some o)(hex:o.ExactSet)(hd:o.data=.set es ep (qW (jC w) n))(he:jl es.toList (zT n))(hn:n<256)(hx:(yJ w a ep es)[i]? =some e)
  (hQ:∀h',Qf h' I a (kZ w n (i+1)) (i+1) es.size ep->Heap.SameBut I s.heap h'->Q (some e.2) { s with heap:=h' }):
  wpAny (model prog w) A (pyNext (.ref I)) Q E s:=by
 obtain ⟨oi,hoi,hc,hdi⟩:=id hit;have hT:s.TypeIs (.ref I) "set_iterator" := ⟨oi,hoi,hc⟩;have hlen:es.size=(zT n).length:=by rw [<- length_toList,he.length]
 have hf:(qW (jC w) n).fits es.size=true:=by rw [hlen];exact fits_of hn _
 unfold pyNext;refine wpAny_bind (wpAny_attempt (wpAny_callSpecial?_slot (name:=Str.ofString "__next__") hT F.QT
  (wpAny_call_entry F.QT hT F.UJ ?_ (F.UI _))))
 unfold Builtin.«set_iterator.__next__»;show wpAny _ _ (fieldsOf (.ref I) >>= _) _ _ s;refine wpAny_bind (wpAny_fieldsOf hoi hdi ?_);dsimp only;refine wpAny_bind (wpAny_setEntries_of ho hd hf ?_);rw [if_neg (by simp)]
 have hi:i<es.size:=by
  have h1:=(Array.getElem?_eq_some_iff.mp hx).1;have h2:=(JW w a ep es).length_eq;simp at h2;omega
 simp only [toNat_natCast];refine wpAny_bind (UU ho hd he hn (le_of_lt hi) ?_);rw [hx];dsimp only [Option.map_some];refine wpAny_bind (wpAny_setField hoi hdi (by simp) ?_)
 have h1:(s.heap.update I (Obj.mapFields (·.setIfInBounds 0 (rawInt (kZ w n (i+1)))))).get? I=some (Obj.mapFields (·.setIfInBounds 0 (rawInt (kZ w n (i+1)))) oi):=Heap.get?_update_self _ hoi (Obj.isFreed_of_fields (Obj.data_mapFields hdi _));refine wpAny_bind (wpAny_setField h1 (Obj.data_mapFields hdi _) (by simp) ?_)
 refine wpAny_pure ⟨e.2,rfl,wpAny_pure (hQ _ ?_ ((Heap.SameBut.update ..).trans (Heap.SameBut.update ..)))⟩;refine ⟨_,Heap.get?_update_self _ h1 (Obj.isFreed_of_fields (Obj.data_mapFields (Obj.data_mapFields hdi _) _)),(Obj.cls_mapFields ..).trans ((Obj.cls_mapFields ..).trans hc),?_⟩;rw [Obj.data_mapFields (Obj.data_mapFields hdi _)];simp [rawInt]
theorem Og {I:Addr}{Q:Option Value->Shared->Prop}(hh:A.handled=none)(hit:Qf s.heap I a (kZ w n es.size) es.size es.size ep)(ho:s.heap.get? a=some o)(hex:o.ExactSet)(hd:o.data=.set es ep (qW (jC w) n))(he:jl es.toList (zT n))(hn:n<256)
  (hQ:∀h',Heap.ExtBut I s.heap h'->Q none { s with heap:=h' }):wpAny (model prog w) A (pyNext (.ref I)) Q E s:=by
 obtain ⟨oi,hoi,hc,hdi⟩:=id hit;have hT:s.TypeIs (.ref I) "set_iterator" := ⟨oi,hoi,hc⟩;have hlen:es.size=(zT n).length:=by rw [<- length_toList,he.length]
 have hf:(qW (jC w) n).fits es.size=true:=by rw [hlen];exact fits_of hn _
 unfold pyNext;refine wpAny_bind (wpAny_attempt (wpAny_callSpecial?_slot (name:=Str.ofString "__next__") hT F.QT
  (wpAny_call_entry F.QT hT F.UJ ?_ (F.UI _))))
 unfold Builtin.«set_iterator.__next__»;show wpAny _ _ (fieldsOf (.ref I) >>= _) _ _ s;refine wpAny_bind (wpAny_fieldsOf hoi hdi ?_);dsimp only;refine wpAny_bind (wpAny_setEntries_of ho hd hf ?_);rw [if_neg (by simp)]
 simp only [toNat_natCast];refine wpAny_bind (UU ho hd he hn (le_refl _) ?_);have hx:(yJ w a ep es)[es.size]? =none:=Array.getElem?_eq_none (by
  have h2:=(JW w a ep es).length_eq;simp at h2;omega)
 rw [hx];dsimp only [Option.map_none];refine wpAny_bind (wpAny_setField hoi hdi (by simp) ?_)
 show wpAny _ _ (newExc (.type "StopIteration") [] >>= _) _ _ _;refine wpAny_bind ?_;simp only [newExc,newTuple];refine wpAny_bind (wpAny_newObj_type ?_ (by size_fits))
 refine wpAny_bind (m:=firstArgMember _ _) (wpAny_of_eq (a:=Value.none) (by first | rfl | (simp only [firstArgMember];rfl)) ?_)
 refine wpAny_newObj_type ?_ (by size_fits)
 simp only [raiseNew];refine wpAny_bind (wpAny_handled ?_)
 first | rw [show A.in1.handled=none from hh] | rw [hh]
 refine wpAny_bind (wpAny_pure (wpAny_throw ?_));refine wpAny_bind (wpAny_isInstance (T := "StopIteration") (b:=true) ⟨_,Heap.get?_push_size _ rfl,rfl⟩ isSubtype_stop ?_);exact wpAny_pure (hQ _ (((Heap.SameBut.update ..).extBut.push _).push _))
end
theorem Qf.typeIs {s:Shared}{I S:Addr}{slot i n ep:Nat}(h:Qf s.heap I S slot i n ep):s.TypeIs (.ref I) "set_iterator" := let ⟨o,ho,hc,_⟩:=h;⟨o,ho,hc⟩
section
variable {prog:Program}{w:World}{A:Around}{E:Value->Shared->Prop}{s:Shared}{a:Addr}{o:Obj}{es:Array (Int × Value)}{ep n:Nat}
theorem Oj {I S:Addr}{slot i m e:Nat}{Q:Value->Shared->Prop}(hit:Qf s.heap I S slot i m e)(h:Q (.ref I) s):wpAny (model prog w) A (pyIter (.ref I)) Q E s:=by
 refine wpAny_pyIter_slot hit.typeIs F.UK (wpAny_call_entry F.UK hit.typeIs F.Od ?_ (F.Oc _));show wpAny _ _ (ret (.ref I)) _ _ s;exact wpAny_pure ⟨_,rfl, "set_iterator",_,hit.typeIs,F.QT.lookup,h⟩
theorem Walks.setP (hh:A.handled=none)(I a:Addr)(hne:a≠I)(hex:o.ExactSet)(hd:o.data=.set es ep (qW (jC w) n))(he:jl es.toList (zT n))(hn:n<256):
  Walks prog w A I [I,a] [I] es.size (λ i v=>∃e,(yJ w a ep es)[i]? =some e/\v=e.2) (λ i h=>Qf h I a (kZ w n i) i es.size ep/\h.get? a=some o) where
 sub:=λ b hb=>by simp at hb;simp [hb]
 frame:=λ _ _ _ st hk=>⟨let ⟨x,h1,h2⟩:=st.1;⟨x,hk I (by simp) x h1,h2⟩,hk a (by simp) o st.2⟩
 item:=λ i s Q E hi st hQ=>by
  have hsz:(yJ w a ep es).size=es.size:=by have:=(JW w a ep es).length_eq;simpa using this
  have hx:(yJ w a ep es)[i]? =some ((yJ w a ep es)[i]'(by omega)):=Array.getElem?_eq_getElem (by omega)
  refine Oe st.1 st.2 hex hd he hn hx λ h' hit' hs'=>?_;refine hQ _ h' s.toks ⟨_,hx,rfl⟩ ⟨hit',?_⟩ λ b o hb e=>hs'.extBut b o (λ h=>hb (by simp [h])) e
  exact hs'.extBut a o hne st.2
 done:=λ s Q E st hQ=>Og hh st.1 st.2 hex hd he hn λ h' he'=>hQ h' s.toks λ b o hb e=>he' b o (λ h=>hb (by simp [h])) e
 self:=λ _ _ _ _ st hQ=>Oj st.1 hQ
theorem NZ:typeLookup (.type "set") "__len__" = pure (some (.builtin "set.__len__")):=by rw [typeLookup_type,builtinLookup_eq_fast];kernel_rfl
theorem Oo {Q:List Value->Shared->Prop}(hh:A.handled=none)(ho:s.heap.get? a=some o)(hex:o.ExactSet)(hd:o.data=.set es ep (qW (jC w) n))(he:jl es.toList (zT n))(hn:n<256)
  (hQ:∀(h':Heap) (tk:Nat),(∀b o,b<s.heap.objs.size->s.heap.get? b=some o->h'.get? b=some o)->s.heap.objs.size<=h'.objs.size->Q ((yJ w a ep es).toList.map (·.2)) { s with heap:=h',toks:=tk }):
  wpAny (model prog w) A (collect (.ref a)) Q E s:=by
 have hT0:s.TypeIs (.ref a) "set" := ⟨o,ho,hex.1⟩;have hlt:a<s.heap.objs.size:=Heap.lt_size ho;unfold collect;refine wpAny_bind (wpAny_runValue (codeAny_builtin PySem.F.entry_proto_collect ?_));rw [Around.under_plainId PySem.F.plain_proto_collect _];show wpAny _ A.in1 (newList [] >>= λ l=>again (.builtin "list.__iadd__" ⟨[l,.ref a],[]⟩)) _ _ s;refine wpAny_bind (wpAny_newObj_type ?_);refine wpAny_pure ⟨plainId_quiet PySem.F.plain_list_iadd _,codeAny_builtin PySem.F.entry_list_iadd ?_⟩;rw [Around.under_plainId PySem.F.plain_list_iadd _];show wpAny _ A.in1 (Builtin.List.listExtendWith (.ref s.heap.objs.size) (.ref a) (.ref s.heap.objs.size)) _ _ _;have ho1:(s.heap.push { cls:=.type "list",data:=.seq ([]:List Value).toArray }).get? a=some o:=Heap.get?_push_of_some _ ho;have hT:Shared.TypeIs { s with heap:=s.heap.push { cls:=.type "list",data:=.seq ([]:List Value).toArray } } (.ref a) "set" := ⟨o,ho1,hex.1⟩
 unfold Builtin.List.listExtendWith;refine wpAny_bind (wpAny_typeOf hT ?_);have h1:Builtin.List.listSameRef (.ref s.heap.objs.size) (.ref a)=false:=by simp [Builtin.List.listSameRef];exact ne_of_gt hlt
 have h2:(Value.type "set" == Value.type "list")=false:=by decide
 have h3:(Value.type "set" == Value.type "tuple")=false:=by decide
 simp only [h1,h2,h3,Bool.or_false,false_eq_true,if_false];refine wpAny_bind (Ow ho1 hex hd he hn ?_);refine wpAny_bind (wpAny_holding ?_);unfold Builtin.List.listLengthHint;generalize hH:s.heap.push { cls:=.type "list",data:=.seq ([]:List Value).toArray }=H;have hHs:H.objs.size=s.heap.objs.size+1:=by rw [<- hH,Heap.size_push]
 have hoH:H.get? a=some o:=by rw [<- hH];exact ho1
 have hLH:H.get? s.heap.objs.size=some { cls:=.type "list",data:=.seq ([]:List Value).toArray }:=by rw [<- hH];exact Heap.get?_push_size _ rfl
 generalize hIo:({ cls:=.type "set_iterator",data:=.fields #[.int 0 0,.int 0 0,.ref a,.int es.size 0,.int ep 0] }:Obj)=io;have hT2:Shared.TypeIs { s with heap:=H.push io } (.ref a) "set" := ⟨o,Heap.get?_push_of_some _ hoH,hex.1⟩
 have hio:(H.push io).get? H.objs.size=some io:=Heap.get?_push_size _ (by rw [<- hIo];rfl)
 refine wpAny_bind (wpAny_specialOf hT2 NZ ?_)
 wp_delta
 refine wpAny_bind (wpAny_isInstance (b:=true) hT2 (by rw [isSubtype_type];kernel_rfl) ?_)
 show wpAny _ A.in1 (typeOf (Value.ref a) >>= _) _ _ _;refine wpAny_bind (wpAny_typeOf hT2 ?_);refine wpAny_pure ?_;show wpAny _ A.in1 (rule "list.extend.makes-room" >>= λ _=>Builtin.List.listTouch (.ref s.heap.objs.size) >>= λ _=>
  again (.builtin "list.extend.loop" ⟨[.ref s.heap.objs.size,.ref H.objs.size,.ref s.heap.objs.size],[]⟩)) _ _ _
 refine wpAny_bind (wpAny_rule ?_);have hS1:(H.push io).get? s.heap.objs.size=some { cls:=.type "list",data:=.seq ([]:List Value).toArray }:=Heap.get?_push_of_some _ hLH;refine wpAny_bind ?_;show wpAny _ A.in1 (updateSeq s.heap.objs.size (·.push .none) >>= λ _=>updateSeq s.heap.objs.size (·.pop)) _ _ _;refine wpAny_bind (wpAny_updateSeq hS1 rfl ?_);have hS2:=Heap.get?_update_self (Obj.mapSeq (·.push Value.none)) hS1 rfl;refine wpAny_updateSeq hS2 rfl ?_;have hS3:=Heap.get?_update_self (Obj.mapSeq (·.pop)) hS2 rfl;have oth:∀b o,b≠s.heap.objs.size->(H.push io).get? b=some o->(((H.push io).update s.heap.objs.size (Obj.mapSeq (·.push Value.none))).update s.heap.objs.size (Obj.mapSeq (·.pop))).get? b=some o:=
  λ b o hb e=>(Heap.get?_update_other _ _ (Ne.symm hb)).trans ((Heap.get?_update_other _ _ (Ne.symm hb)).trans e)
 have hne:a≠H.objs.size:=by rw [hHs];exact ne_of_lt (lt_succ_of_lt hlt)
 have hIS:H.objs.size≠s.heap.objs.size:=by rw [hHs];exact Nat.succ_ne_self _
 have haS:a≠s.heap.objs.size:=ne_of_lt hlt;have W:=(Walks.setP (prog:=prog) (w:=w) (A:=A.in1) (by simp [hh]) H.objs.size a hne hex hd he hn).toS
 have hSf:s.heap.objs.size∉[H.objs.size,a]:=λ hm=>by
  rcases List.mem_cons.mp hm with z | hm
  ·exact hIS z.symm
  ·exact haS (List.mem_singleton.mp hm).symm
 have hlen:es.size=(zT n).length:=by rw [<- length_toList,he.length]
 have h8:=Jq n;refine wpAny_pure ⟨plainId_quiet PySem.F.plain_extend_loop _,codeAny_extend_loopS W (by rw [sizeLine_eq];omega) _ hSf _ es.size 0 _ _ _ rfl (zero_le _) ⟨?_,oth a o haS (Heap.get?_push_of_some _ hoH)⟩ hS3 (ItemsOf.nil _) λ s' acc' c' hm hS' hacc=>?_⟩
 ·refine ⟨io,oth _ _ hIS hio,by rw [<- hIo],?_⟩
  rw [<- hIo]
  have:kZ w n 0=0:=by unfold kZ Ym;split<;>rfl
  rw [this]
  rfl
 show wpAny _ A (load s.heap.objs.size >>= _) _ _ s';refine wpAny_bind (wpAny_load hS' ?_);have hl:acc'.toList=(yJ w a ep es).toList.map (·.2):=by
  have hsz:(yJ w a ep es).size=es.size:=by have:=(JW w a ep es).length_eq;simpa using this
  apply ext_getElem?
  intro j
  by_cases hj:j<es.size
  ·have h1:acc'[j]? =some (acc'[j]'(by rw [hacc.1];exact hj)):=Array.getElem?_eq_getElem (by rw [hacc.1];exact hj)
   obtain ⟨e,h2,h3⟩:=hacc.2 j _ h1;rw [getElem?_toList,h1,getElem?_map,getElem?_toList,h2,h3]
   rfl
  ·rw [getElem?_eq_none (by rw [length_toList,hacc.1];omega),getElem?_eq_none (by rw [length_map,length_toList,hsz];omega)]
 show wpAny _ A (pure acc'.toList) _ _ s';rw [hl];obtain ⟨h',g',d',tk',os'⟩:=s';have e1:g'=s.gens:=hm.gens;have e2:d'=s.drawn:=hm.drawn;have e3:os'=s.os:=hm.os;subst e1 e2 e3;refine wpAny_pure (hQ h' tk' (λ b ob hb e=>?_) ?_)
 ·refine hm.heap b ob (λ hm2=>?_) (oth b ob (ne_of_lt hb) (Heap.get?_push_of_some _ (by rw [<- hH];exact Heap.get?_push_of_some _ e)))
  rcases List.mem_cons.mp hm2 with z | z
  ·exact ne_of_lt hb z
  ·exact ne_of_lt (lt_succ_of_lt hb) ((List.mem_singleton.mp z).trans hHs)
 ·exact le_of_lt (Heap.lt_size (show h'.get? s.heap.objs.size=_ from hS'))
end
open PySem PySem.Spec PyProof.Rows L2
theorem TX:∀{a b:List Int},a.Perm b->a.Pairwise (·<=·)->b.Pairwise (·<=·)->a=b
 | [],b,p,_,_=>by rw [List.nil_perm.mp p]
 | x::a,[],p,_,_=>absurd p.length_eq (by simp)
 | x::a,y::b,p,ha,hb=>by
  have hx:x∈y::b:=p.mem_iff.mp (mem_cons_self ..);have hy:y∈x::a:=p.mem_iff.mpr (mem_cons_self ..);have e:x=y:=by
   rcases List.mem_cons.mp hx with e | e
   ·exact e
   ·rcases List.mem_cons.mp hy with e2 | e2
    ·exact e2.symm
    ·have h1:=(List.pairwise_cons.mp hb).1 x e
     have h2:=(List.pairwise_cons.mp ha).1 y e2;omega
  subst e;rw [TX (List.Perm.cons_inv p) (List.pairwise_cons.mp ha).2 (List.pairwise_cons.mp hb).2]
theorem Ff (n v i:Nat):(yj n v).testBit i=(n.testBit i || decide (i=v)):=by
 unfold yj
 by_cases h:n.testBit v=true
 ·rw [if_pos h]
  by_cases e:i=v
  ·subst e;simp [h]
  ·simp [e]
 ·rw [if_neg h]
  unfold jo;rw [Nat.testBit_or,Nat.one_shiftLeft,Nat.testBit_two_pow]
  congr 1
  by_cases e:v=i
  ·subst e;simp
  ·simp [e,Ne.symm e]
theorem Sn (i:Nat):∀(vs:List Nat) (n:Nat),(vs.foldl yj n).testBit i=(n.testBit i || decide (i∈vs))
 | [],n=>by simp
 | v::vs,n=>by
  rw [List.foldl_cons,Sn i vs,Ff]
  by_cases e:i=v
  ·simp [e]
  ·simp [e]
theorem Ms (vs:List Nat):zT (vs.foldl yj 0)=(List.range 8).filter λ i=>decide (i∈vs):=by
 unfold zT
 congr 1
 funext i
 rw [Sn];simp
theorem Lr (n:Nat):((zT n).map λ (i:Nat)=>(i:Int)).Pairwise (·<=·):=by
 rw [List.pairwise_map];unfold zT;refine List.Pairwise.imp ?_ (List.Pairwise.filter _ List.pairwise_lt_range);intro a b h;omega
theorem jl.snd {es:List (Int × Value)}{vs:List Nat}(h:jl es vs):∀e∈es,∃tk,e.2=.int e.1 tk:=by
 induction h with
 | nil=>intro e he;cases he
 | cons v tk h ih=>
  intro e he;rcases List.mem_cons.mp he with rfl | he
  ·exact ⟨tk,rfl⟩
  ·exact ih e he
theorem UZ:∀{l:List (Int × Value)},(∀e∈l,∃tk,e.2=.int e.1 tk)->IntsAre (l.map (·.2)) (l.map (·.1))
 | [],_=>.nil
 | e::l,h=>by
  obtain ⟨tk,he⟩:=h e (mem_cons_self ..);rw [map_cons,map_cons,he];exact .cons _ tk (UZ λ x hx=>h x (mem_cons_of_mem _ hx))
section
variable {prog:Program}{w:World}{A:Around}{E:Value->Shared->Prop}{s:Shared}{a:Addr}{o:Obj}{es:Array (Int × Value)}{ep n:Nat}
theorem NM {Q:Value->Shared->Prop}(hh:A.handled=none)(hS:yi s.heap a (jC w) n)
  (h:∀(h':Heap) (tk:Nat) (l:Addr) (its:List Value) (c:Nat),s.heap.objs.size<=l->h'.get? l=some { cls:=.type "list",data:=.seq its.toArray c }->IntsAre its ((zT n).map λ (i:Nat)=>(i:Int))->
   (∀b o,s.heap.get? b=some o->h'.get? b=some o)->Q (.ref l) { s with heap:=h',toks:=tk }):
  wpAny (model prog w) A (call (.builtin "sorted") [.ref a]) Q E s:=by
 obtain ⟨o,es,ep,ho,hex,hd,he,hn⟩:=hS;refine Calls.call_function_entry kind_sorted plain_sorted entry_sorted (args_sorted1 _) ?_;unfold Builtin.«sorted»;refine wpAny_bind (m:=checkCount "sorted" 1 1 _) (wpAny_pure ?_);refine wpAny_bind (Oo (by simp [hh]) ho hex hd he hn λ h1 tk kp hle=>?_)
 have hp:=JW w a ep es;have hI:IntsAre ((yJ w a ep es).toList.map (·.2)) ((yJ w a ep es).toList.map (·.1)):=UZ λ e hm=>he.snd e (hp.mem_iff.mp hm);have hperm:((yJ w a ep es).toList.map (·.1)).Perm ((zT n).map λ (i:Nat)=>(i:Int)):=by
  rw [<- he.map1];exact hp.map _
 have hlen:((yJ w a ep es).toList.map (·.2)).length<=8:=by
  rw [length_map,hp.length_eq,he.length];exact Jq n
 generalize (yJ w a ep es).toList.map (·.2)=vs at hI hlen;generalize (yJ w a ep es).toList.map (·.1)=ns at hI hperm;refine wpAny_bind (wpAny_newList ?_);have hoL:(h1.push (seqObj "list" vs.toArray 0)).get? h1.objs.size=some (seqObj "list" vs.toArray 0):=Heap.get?_push_size _ rfl;show wpAny _ _ _ _ _ { s with heap:=h1.push (seqObj "list" vs.toArray 0),toks:=tk }
 refine wpAny_bind (wpAny_holding (wpAny_call_entry slot_list_sort ⟨_,hoL,rfl⟩ entry_list_sort (list_sort_tree hoL hI (by omega) λ out ns' a1 a2 a3=>⟨_,rfl,?_⟩) (args_list_sort _)))
 have hns:ns'=(zT n).map λ (i:Nat)=>(i:Int):=TX (a2.trans hperm) a3 (Lr n);subst hns;refine wpAny_pure ⟨_,rfl,?_⟩;have e1:=get?_update_seq hoL (λ _=>(#[]:Array Value));have e2:=Heap.get?_push_of_some (seqObj "list" #[] 0) (Heap.get?_push_of_some (seqObj "tuple" vs.toArray 0) e1);obtain ⟨c,e3⟩:∃c,(sortedHeap (h1.push (seqObj "list" vs.toArray 0)) h1.objs.size vs out).get? h1.objs.size=some (seqObj "list" out c):=⟨_,get?_update_seq e2 (λ _=>out)⟩;refine h _ tk h1.objs.size out.toList c hle ?_ a1 λ b ob e=>?_
 ·rw [Array.toArray_toList]
  exact e3
 ·have lb:b<s.heap.objs.size:=Heap.lt_size e
  have k1:=kp b ob lb e;have nb:h1.objs.size≠b:=ne_of_gt (lt_of_lt_of_le lb hle);unfold sortedHeap;refine (Heap.get?_update_other _ _ nb).trans ?_;refine Heap.get?_push_of_some _ (Heap.get?_push_of_some _ ?_);exact (Heap.get?_update_other _ _ nb).trans (Heap.get?_push_of_some _ k1)
end
section
variable {X:Cx}{xr:XR}{e:Expr}{m:Ev}{pos:Pos}
noncomputable def D6 (K:Frag)(w:World):List V->Hp->VK->Prop:=λ xs H Q=>∃(p:Addr) (vs:List Nat),xs=[.ref p]/\je K H p (vs.map λ (v:Nat)=>V.int (v:Int))/\(∀v∈vs,v<8)/\∀l,H l=none->Q (.ref l) (upd H l (.ext λ h=>yi h l (jC w) (vs.foldl yj 0)))
theorem MR (hc:X.calm=true):jV X (.type "set") (D6 X.K X.w):=by
 intro pins s σ H xs us Q I r h;obtain ⟨p,vs,rfl,hq,h8,q⟩:=h;obtain ⟨u,rfl,ru⟩:=vals1 r;cases ru;obtain ⟨its,rv,⟨o,k,e1,e2,e3,e4⟩,_⟩:=I.list hq;have hv:Vals ((vs.map λ (v:Nat)=>(v:Int)).map V.int) its:=by rw [map_map];exact rv
 refine OS (I.ok.hd hc) ⟨o,e1,e2,k,e4⟩ (intsAre_of hv) h8 λ h' tk S' kp=>?_;refine ⟨.ref s.heap.objs.size,_,I.laid (t':=tk) (o:=.ext λ h=>yi h s.heap.objs.size (jC X.w) (vs.foldl yj 0)) (λ b o e=>kp b o (Heap.lt_size e) e) (le_refl _) ⟨S',?_,λ h1 h2 a b=>a.keep b⟩,rfl,q _ (I.hok.fresh (le_refl _))⟩;obtain ⟨o,es,ep,ho,_⟩:=S';exact ⟨o,ho⟩
theorem JU:∀{ns:List Int} {its:List Value},IntsAre its ns->Vals (ns.map V.int) its
 | _,_,.nil=>.nil
 | _,_,.cons n t h=>.cons ⟨t,rfl⟩ (JU h)
theorem NB (hc:X.calm=true):jV X (.builtin "sorted") (λ xs H Q=>∃(p:Addr) (n:Nat),xs=[.ref p]/\H p=some (.ext λ h=>yi h p (jC X.w) n)/\∀l,H l=none->Q (.ref l) (upd H l (.lst ((zT n).map λ (v:Nat)=>V.int (v:Int))))):=by
 intro pins s σ H xs us Q I r h;obtain ⟨p,n,rfl,hq,q⟩:=h;obtain ⟨u,rfl,ru⟩:=vals1 r;cases ru;have hS:yi s.heap p (jC X.w) n:=(show jj X.prog X.w H s.heap p (.ext λ h=>yi h p (jC X.w) n) from I.hok p _ hq).1
 refine NM (I.ok.hd hc) hS λ h' tk l its c hl hg hi kp=>?_;have hv:=JU hi;rw [map_map] at hv;refine ⟨.ref l,_,I.laid (t':=tk) (o:=.lst ((zT n).map λ (v:Nat)=>V.int (v:Int))) kp hl ⟨?_,its,c,hv,hg⟩,rfl,q _ (I.hok.fresh hl)⟩;rw [length_map,sizeLine_eq]
 have:=Jq n
 omega
noncomputable def ZS:List Int->Option (List Nat)
 | []=>some []
 | i::is=>if 0<=i/\i<8 then (ZS is).map (i.toNat::·) else none
theorem TC:∀{is:List Int} {vs:List Nat},ZS is=some vs->is=vs.map (λ (v:Nat)=>(v:Int))/\∀v∈vs,v<8
 | [],_,e=>by cases e;exact ⟨rfl,λ v hv=>by cases hv⟩
 | i::is,vs,e=>by
  unfold ZS at e
  by_cases h:0<=i/\i<8
  ·rw [if_pos h] at e
   cases e1:ZS is with
   | none=>rw [e1] at e;cases e
   | some us=>
    rw [e1] at e;cases e;obtain ⟨h1,h2⟩:=TC e1;refine ⟨?_,λ v hv=>?_⟩
    ·rw [map_cons,<- h1,toNat_of_nonneg h.1]
    ·rcases List.mem_cons.mp hv with rfl | hv
     ·omega
     ·exact h2 v hv
  ·rw [if_neg h] at e;cases e
noncomputable def XU:W->Hx->R W:=λ w A=>match w with
 | .ref n=>match A[n]? with
  | some (.lst ws)=>match intsOf ws with
   | some is=>match ZS is with
    | some vs=>.ok (.ref A.length) (A++[.lst (((List.range 8).filter λ i=>decide (i∈vs)).map λ (i:Nat)=>W.int (i:Int))])
    | none=>.bad
   | none=>.bad
  | _=>.bad
 | _=>.bad
noncomputable def KI (m:Ev):Ev:=λ ρ A=>(m ρ A).bind λ w A1=>XU w A1
end
theorem MN (a b:Value):argsOk "sum" ⟨[a,b],[]⟩:=by unfold argsOk;kernel_rfl
theorem sub_list_str:isSubtype (.type "list") (.type "str")=pure false:=by rw [isSubtype_type];kernel_rfl
theorem sub_list_bytes:isSubtype (.type "list") (.type "bytes")=pure false:=by rw [isSubtype_type];kernel_rfl
theorem sub_list_bytearray:isSubtype (.type "list") (.type "bytearray")=pure false:=by rw [isSubtype_type];kernel_rfl
noncomputable abbrev wD (xs:Array Value)(c:Nat):Obj:={ cls:=.type "list",dict:=none,data:=.seq xs c,slots:=#[] }
section
variable {prog:Program}{w:World}{A:Around}{R:Result->Shared->Prop}{I:Addr}{fp wr:List Addr}{G:Array GenState->Array GenState->Prop}{n:Nat}{P:Nat->Value->Prop}{St:Nat->Shared->Prop}
theorem Lp (W:WalksS prog w A.in1 I fp wr G n P St)(S B:Addr)(hSf:S∉fp)(hBS:B<=S)(ad:Nat->Addr)(its:Nat->List Value)(hval:∀i v,P i v->v=.ref (ad i))(had:∀i,i<n->ad i≠S/\ad i∉wr)(hwS:∀b∈wr,b<S):
  ∀(k i:Nat) (s:Shared) (T:Addr) (c cT:Nat) (acc:List Value),n - i=k->i<=n->St i s->s.heap.get? S=some (wD #[.ref T] c)->T≠S->T∉wr->s.heap.get? T=some (wD acc.toArray cT)->
   (∀j,i<=j->j<n->∃cj,s.heap.get? (ad j)=some (wD (its j).toArray cj))->(acc++(((List.range' i k).map its).flatten)).length<=sizeLine->
   (∀s' T' c',Moved (S::wr) G s s'->s'.heap.get? T'=some (wD (acc++(((List.range' i k).map its).flatten)).toArray c')->((k=0/\T'=T)∨B<=T')->R (.ok (.ret (.ref T'))) s')->
   codeAny (model prog w) A (.builtin "sum.loop" ⟨[.ref I,.ref S,rawInt 2,rawInt 0],[]⟩) R s:=by
 have hSw:S∉wr:=λ h=>hSf (W.sub _ h);have hsub:∀b∈wr,b∈S::wr:=λ b hb=>mem_cons_of_mem _ hb;intro k
 induction k with
 | zero=>
  intro i s T c cT acc hk hi hst hS hTS hTw hT hl hz hR;have hin:i=n:=by omega
  subst hin;refine codeAny_builtin PySem.F.entry_sum_loop ?_;rw [Around.under_plainId PySem.F.plain_sum_loop _];show wpAny _ A.in1 (seqItems? (.ref S) >>= _) _ _ s;refine wpAny_bind (wpAny_seqItems hS rfl ?_);show wpAny _ A.in1 (tryCatch (pyNext (.ref I)) _ >>= _) _ _ s;refine wpAny_bind (wpAny_tryCatch (W.done s _ _ hst λ s' hm=>?_));refine wpAny_pure (hR s' T cT (hm.mono hsub) ?_ (.inl ⟨rfl,rfl⟩))
  have:=hm.heap T _ hTw hT
  simpa using this
 | succ k ih=>
  intro i s T c cT acc hk hi hst hS hTS hTw hT hl hz hR;have hlt:i<n:=by omega
  refine codeAny_builtin PySem.F.entry_sum_loop ?_;rw [Around.under_plainId PySem.F.plain_sum_loop _];show wpAny _ A.in1 (seqItems? (.ref S) >>= _) _ _ s;refine wpAny_bind (wpAny_seqItems hS rfl ?_);show wpAny _ A.in1 (tryCatch (pyNext (.ref I)) _ >>= _) _ _ s;refine wpAny_bind (wpAny_tryCatch (W.item i s _ _ hlt hst λ v s' hP hst' hm=>?_));have hv:=hval i v hP;subst hv;have hS':=hm.heap S _ hSw hS;have hT':=hm.heap T _ hTw hT;obtain ⟨ci,hli⟩:=hl i (le_refl _) hlt;have hli':=hm.heap (ad i) _ (had i hlt).2 hli;rw [range'_succ,map_cons,flatten_cons,<- append_assoc] at hz hR;have hz1:(acc++its i).length<=sizeLine:=by rw [length_append] at hz;omega
  show wpAny _ A.in1 ((holding [Value.ref (ad i)] (binaryOp .Add (.ref T) (.ref (ad i)))).attempt >>= _) _ _ _;refine wpAny_bind (wpAny_attempt (wpAny_holding (PySem.P.add_list hT' hli' ?_ (by rw [size_toArray,size_toArray,<- length_append];exact hz1))))
  have ea:acc.toArray++(its i).toArray=(acc++its i).toArray:=by simp
  rw [ea];have ltS:S<s'.heap.objs.size:=Heap.lt_size hS';have hS1:=Heap.get?_push_of_some (wD (acc++its i).toArray 0) hS';have hN1:(s'.heap.push (wD (acc++its i).toArray 0)).get? s'.heap.objs.size=some (wD (acc++its i).toArray 0):=Heap.get?_push_size _ rfl;show wpAny _ A.in1 (updateSeq S (λ _=>#[.ref s'.heap.objs.size]) >>= _) _ _ _;refine wpAny_bind (wpAny_updateSeq hS1 rfl ?_);have hS2:=Heap.get?_update_self (Obj.mapSeq λ _=>#[Value.ref s'.heap.objs.size]) hS1 rfl;refine wpAny_bind (wpAny_letGo ?_);have neS:s'.heap.objs.size≠S:=ne_of_gt ltS;have oth:∀b o,b≠S->s'.heap.get? b=some o->(((s'.heap.push (wD (acc++its i).toArray 0)).update S (Obj.mapSeq λ _=>#[Value.ref s'.heap.objs.size])).update S (Obj.mapSeq λ _=>#[Value.ref s'.heap.objs.size])).get? b=some o:=
   λ b o hb e=>(Heap.get?_update_other _ _ (Ne.symm hb)).trans ((Heap.get?_update_other _ _ (Ne.symm hb)).trans (Heap.get?_push_of_some _ e))
  have nwr:s'.heap.objs.size∉wr:=λ hm2=>lt_irrefl _ (lt_trans (hwS _ hm2) ltS);refine wpAny_bind (wpAny_updateSeq hS2 rfl (wpAny_pure ⟨plainId_quiet PySem.F.plain_sum_loop _,ih (i+1) _ s'.heap.objs.size _ 0 (acc++its i) (by omega) hlt (W.frame _ s' _ _ hst' (by first | exact le_refl _ | exact le_succ _ | omega) λ b hb o e=>oth b o (λ h=>hSf (h ▸ hb)) e) (Heap.get?_update_self _ hS2 rfl) neS nwr ?_ ?_ hz λ s'' T'' c'' hm'' hT'' hor=>?_⟩))
  ·exact (Heap.get?_update_other _ _ (Ne.symm neS)).trans ((Heap.get?_update_other _ _ (Ne.symm neS)).trans hN1)
  ·intro j h1 h2
   obtain ⟨cj,hj⟩:=hl j (by omega) h2
   exact ⟨cj,oth _ _ (had j h2).1 (hm.heap _ _ (had j h2).2 hj)⟩
  ·refine hR s'' T'' c'' (Moved.trans W.gtrans ((hm.mono hsub).then_heap (by first | exact le_refl _ | exact le_succ _ | omega) λ b o hb e=>oth b o (λ h=>hb (by rw [h];exact mem_cons_self)) e) hm'') hT'' (.inr ?_)
   rcases hor with ⟨_,rfl⟩ | h
   ·exact le_of_lt (Nat.lt_of_le_of_lt hBS ltS)
   ·exact h
end
section
variable {prog:Program}{w:World}{A:Around}{E:Value->Shared->Prop}{s:Shared}
theorem Mh {p q:Addr}{cq:Nat}{ads:List Addr}{itss:List (List Value)}{Q:Value->Shared->Prop}(hh:A.handled=none)(hp:s.heap.IsList p (ads.map Value.ref).toArray)(hq:s.heap.get? q=some (wD #[] cq))
  (hlen:ads.length=itss.length)(hl:∀i,i<ads.length->∃c,s.heap.get? (ads.getD i 0)=some (wD (itss.getD i []).toArray c))(hne:ads≠[])(hz:itss.flatten.length<=sizeLine)
  (h:∀(h':Heap) (tk:Nat) (l:Addr) (c:Nat),s.heap.objs.size<=l->h'.get? l=some (wD itss.flatten.toArray c)->(∀b o,s.heap.get? b=some o->h'.get? b=some o)->Q (.ref l) { s with heap:=h',toks:=tk }):
  wpAny (model prog w) A (call (.builtin "sum") [.ref p,.ref q]) Q E s:=by
 refine call_function_tree PySem.F.kind_sum PySem.F.plain_sum PySem.F.entry_sum (MN _ _) ?_;unfold Builtin.«sum»;simp only [length_cons,length_nil];rw [if_neg (by decide)]
 refine wpAny_bind (wpAny_of_eq (show Builtin.Builtins.bindParams "sum" ["start"] 0 ⟨[.ref q],[]⟩=pure [some (.ref q)] from rfl) ?_)
 refine wpAny_bind (wpAny_pyIter_list hp ?_);refine wpAny_bind (wpAny_pure ?_);generalize hio:({ cls:=.type "list_iterator",data:=.fields #[.ref p,.int 0 0] }:Obj)=io;have hq1:(s.heap.push io).get? q=some (wD #[] cq):=Heap.get?_push_of_some _ hq;have hT:Shared.TypeIs { s with heap:=s.heap.push io } (.ref q) "list" := ⟨_,hq1,rfl⟩
 simp only [forIn_cons,forIn_nil];refine wpAny_bind (wpAny_bind (wpAny_bind (wpAny_isInstance (b:=false) hT sub_list_str ?_)));simp only [false_eq_true,if_false];refine wpAny_pure (wpAny_bind (wpAny_bind (wpAny_isInstance (b:=false) hT sub_list_bytes ?_)));simp only [false_eq_true,if_false];refine wpAny_pure (wpAny_bind (wpAny_bind (wpAny_isInstance (b:=false) hT sub_list_bytearray ?_)));simp only [false_eq_true,if_false];refine wpAny_pure (wpAny_pure ?_);refine wpAny_bind (wpAny_newObj_type ?_);have sz:(s.heap.push io).objs.size=s.heap.objs.size+1:=Heap.size_push ..;have ltp:p<s.heap.objs.size:=by obtain ⟨o,e,_⟩:=hp;exact Heap.lt_size e
 have ltq:q<s.heap.objs.size:=Heap.lt_size hq;have ltI:s.heap.objs.size<(s.heap.push io).objs.size:=by rw [sz];exact lt_succ_self _
 have ltS:∀b,b<s.heap.objs.size->b<(s.heap.push io).objs.size:=λ b hb=>lt_trans hb ltI;have W:=(Walks.list (prog:=prog) (w:=w) (A:=A.in1) (by simp [hh]) s.heap.objs.size p (ne_of_lt ltp) (ads.map Value.ref).toArray).toS
 have esz:(ads.map Value.ref).toArray.size=ads.length:=by simp
 rw [esz] at W;have hSf:(s.heap.push io).objs.size∉[s.heap.objs.size,p]:=λ hm=>by
  rcases List.mem_cons.mp hm with z | hm
  ·exact ne_of_gt ltI z
  ·exact ne_of_gt (ltS p ltp) (List.mem_singleton.mp hm)
 have hlt:∀i,i<ads.length->ads.getD i 0<s.heap.objs.size:=λ i hi=>by obtain ⟨c,e⟩:=hl i hi;exact Heap.lt_size e
 have gio:(s.heap.push io).get? s.heap.objs.size=some io:=Heap.get?_push_size _ (by rw [<- hio];rfl)
 have hcat:((List.range' 0 ads.length).map λ j=>itss.getD j []).flatten=itss.flatten:=by
  congr 1
  rw [hlen]
  apply ext_getElem
  ·simp
  ·intro i h1 h2
   simp [getD_eq_getElem?_getD,getElem?_eq_getElem h2]
 refine wpAny_pure ⟨plainId_quiet PySem.F.plain_sum_loop _,Lp W (s.heap.push io).objs.size s.heap.objs.size hSf (le_of_lt ltI) (λ i=>ads.getD i 0) (λ i=>itss.getD i []) (λ i v e=>?_) (λ i hi=>⟨ne_of_lt (ltS _ (hlt i hi)),λ hm=>?_⟩) (λ b hb=>?_)
  ads.length 0 _ q 0 cq [] (by omega) (zero_le _) ⟨⟨io,Heap.get?_push_of_some _ gio,by rw [<- hio],by rw [<- hio];rfl⟩,(hp.push _).push _⟩ (Heap.get?_push_size _ rfl) (ne_of_lt (ltS q ltq)) (λ hm=>?_) (Heap.get?_push_of_some _ hq1) (λ j _ hj=>?_) ?_ λ s' T' c' hm hT' hor=>?_⟩
 ·have hi:i<ads.length:=by
   have:=(Array.getElem?_eq_some_iff.mp e).1
   simpa using this
  have e2:(ads.map Value.ref)[i]? =some v:=by simpa using e
  rw [getElem?_map,getElem?_eq_getElem hi] at e2;rw [getD_eq_getElem?_getD,getElem?_eq_getElem hi];exact (Option.some.inj e2).symm
 ·exact ne_of_lt (hlt i hi) (List.mem_singleton.mp hm)
 ·rw [List.mem_singleton.mp hb];exact ltI
 ·exact ne_of_lt ltq (List.mem_singleton.mp hm)
 ·obtain ⟨c,e⟩:=hl j hj
  exact ⟨c,Heap.get?_push_of_some _ (Heap.get?_push_of_some _ e)⟩
 ·rw [nil_append,hcat];exact hz
 ·rw [nil_append,hcat] at hT'
  have hB:s.heap.objs.size<=T':=by
   rcases hor with ⟨h0,_⟩ | h0
   ·exact absurd (List.length_eq_zero_iff.mp h0) hne
   ·exact h0
  obtain ⟨h',g',d',tk',os'⟩:=s';have e1:g'=s.gens:=hm.gens;have e2:d'=s.drawn:=hm.drawn;have e3:os'=s.os:=hm.os;subst e1 e2 e3;refine h h' tk' T' c' hB hT' λ b o e=>hm.heap b o (λ hm2=>?_) (Heap.get?_push_of_some _ (Heap.get?_push_of_some _ e));have lb:b<s.heap.objs.size:=Heap.lt_size e;rcases List.mem_cons.mp hm2 with z | z
  ·exact ne_of_lt (ltS b lb) z
  ·exact ne_of_lt lb (List.mem_singleton.mp z)
end
section
variable {X:Cx}{xr:XR}{a b:Expr}{ma mb:Ev}{pos:Pos}{K:Frag}
noncomputable def Pq (K:Frag):List V->Hp->VK->Prop:=λ xs H Q=>∃(p q:Addr) (ls:List (Addr × List V)),xs=[.ref p,.ref q]/\H p=some (.lst (ls.map λ l=>V.ref l.1))/\H q=some (.lst [])/\(∀l∈ls,H l.1=some (.lst l.2))/\ls≠[]/\(ls.map (·.2)).flatten.length<=zZ/\
 ∀l,H l=none->Q (.ref l) (upd H l (.lst (ls.map (·.2)).flatten))
theorem TR:∀{ls:List (Addr × List V)} {us:List Value},Vals (ls.map λ l=>V.ref l.1) us->us=(ls.map (·.1)).map Value.ref
 | [],_,h=>by cases h;rfl
 | l::ls,_,h=>by
  cases h with
  | cons r t=>cases r;rw [TR t];rfl
theorem Mk (hc:X.calm=true):jV X (.builtin "sum") (Pq X.K):=by
 intro pins s σ H xs us Q I r h;obtain ⟨p,q,ls,rfl,hp,hq,hl,hne,hz,k⟩:=h;obtain ⟨u,v,rfl,ru,rv⟩:=Vals.two r;cases ru;cases rv;obtain ⟨_,itp,np,rp,_,ep⟩:=I.lstM hp;obtain ⟨_,itq,nq,rq,lq,eq⟩:=I.lstM hq;have hitq:itq=[]:=by cases rq;rfl
 subst hitq;have hitp:=TR rp;subst hitp;have hex:∀ls':List (Addr × List V),(∀l∈ls',H l.1=some (.lst l.2))->∃itss:List (List Value),itss.length=ls'.length/\(∀i,i<ls'.length->∃c,s.heap.get? ((ls'.map (·.1)).getD i 0)=some (wD (itss.getD i []).toArray c))/\Vals (ls'.map (·.2)).flatten itss.flatten:=by
  intro ls'
  induction ls' with
  | nil=>intro _;exact ⟨[],rfl,λ i hi=>absurd hi (not_lt_zero _),.nil⟩
  | cons l ls' ih=>
   intro hm;obtain ⟨itss,h1,h2,h3⟩:=ih λ x hx=>hm x (mem_cons_of_mem _ hx);obtain ⟨_,it,n,r1,_,e1⟩:=I.lstM (hm l (mem_cons_self ..));refine ⟨it::itss,by simp [h1],λ i hi=>?_,?_⟩
   ·cases i with
    | zero=>exact ⟨n,e1⟩
    | succ i=>exact h2 i (by simpa using hi)
   ·rw [map_cons,flatten_cons,flatten_cons]
    exact r1.append h3
 obtain ⟨itss,h1,h2,h3⟩:=hex ls hl;have hfl:itss.flatten.length=(ls.map (·.2)).flatten.length:=h3.length.symm;refine Mh (I.ok.hd hc) (itss:=itss) ⟨_,ep,rfl,np,rfl⟩ eq (by simp [h1]) (λ i hi=>h2 i (by simpa using hi)) (λ e=>hne (List.map_eq_nil_iff.mp e)) (by rw [hfl];exact Zk hz) λ h' tk l c hl' hg kp=>?_
 exact ⟨.ref l,_,I.laid (t':=tk) (o:=.lst (ls.map (·.2)).flatten) kp hl' ⟨Zk hz,itss.flatten,c,h3,hg⟩,rfl,k _ (I.hok.fresh hl')⟩
noncomputable def wM (A:Hx):List W->Option (List (List W))
 | []=>some []
 | .ref k::us=>match A[k]? with
  | some (.lst ws)=>(wM A us).map (ws::·)
  | _=>none
 | _::_=>none
noncomputable def Zp:W->W->Hx->R W:=λ x y A=>match x,y with
 | .ref n,.ref k=>match A[n]?,A[k]? with
  | some (.lst us),some (.lst [])=>match wM A us with
   | some wss=>if us≠[]/\wss.flatten.length<=zZ then .ok (.ref A.length) (A++[.lst wss.flatten]) else .bad
   | none=>.bad
  | _,_=>.bad
 | _,_=>.bad
theorem F0:∀x y A,qM (Zp x y A):=λ x y A=>by
 unfold Zp
 split
 ·split
  ·split
   ·exact Zo j6 jc
   ·exact jc
  ·exact jc
 ·exact jc
theorem zD.app {φ:List Addr}{H:Hp}:∀{ws us:List W} {xs ys:List V},zD K φ H ws xs->zD K φ H us ys->zD K φ H (ws++us) (xs++ys)
 | [],_,_,_,h,h2=>by cases h;exact h2
 | w::ws,_,_,_,⟨v,r,e,h,t⟩,h2=>by subst e;exact ⟨v,_,rfl,h,zD.app t h2⟩
theorem U5 {φ:List Addr}{A:Hx}{H:Hp}(S:zH K φ A H):∀{us:List W} {wss:List (List W)} {vs:List V},wM A us=some wss->zD K φ H us vs->∃ls:List (Addr × List V),vs=ls.map (λ l=>V.ref l.1)/\(∀l∈ls,H l.1=some (.lst l.2))/\zD K φ H wss.flatten (ls.map (·.2)).flatten/\ls.length=us.length
 | [],_,_,e,h=>by cases e;cases h;exact ⟨[],rfl,λ l hl=>(by cases hl),rfl,rfl⟩
 | u::us,wss,_,e,⟨v,r,e1,h,t⟩=>by
  subst e1;cases u with
  | ref k=>
   unfold wM at e;cases ek:A[k]? with
   | none=>rw [ek] at e;cases e
   | some o=>cases o with
    | lst ws=>
     rw [ek] at e;dsimp only at e;cases e2:wM A us with
     | none=>rw [e2] at e;cases e
     | some wss'=>
      rw [e2] at e;cases e;obtain ⟨p,xs,rfl,_,hp,rr⟩:=S.lst h ek;obtain ⟨ls,rfl,h2,h3,h4⟩:=U5 S e2 t;refine ⟨(p,xs)::ls,rfl,λ l hl=>?_,zD.app rr h3,by simp [h4]⟩
      rcases List.mem_cons.mp hl with rfl | hl
      ·exact hp
      ·exact h2 l hl
    | _=>rw [ek] at e;cases e
  | _=>cases e
theorem Lx:yf K (λ x y=>Pq K [x,y]) Zp:=λ φ A H x y u v Q S q1 q2 p=>by
 unfold Zp at p;cases u with
 | ref n=>cases v with
  | ref k=>
   dsimp only at p;cases en:A[n]? with
   | none=>rw [en] at p;exact p.elim
   | some o=>cases o with
    | lst us=>
     cases ek:A[k]? with
     | none=>rw [en,ek] at p;exact p.elim
     | some o2=>cases o2 with
      | lst zs=>cases zs with
       | nil=>
        rw [en,ek] at p;dsimp only at p;cases e3:wM A us with
        | none=>rw [e3] at p;exact p.elim
        | some wss=>
         rw [e3] at p;dsimp only at p
         by_cases hc:us≠[]/\wss.flatten.length<=zZ
         ·rw [if_pos hc] at p
          obtain ⟨pa,xs,rfl,_,hp,rr⟩:=S.lst q1 en;obtain ⟨pb,ys,rfl,_,hq,rr2⟩:=S.lst q2 ek;cases rr2;obtain ⟨ls,rfl,h2,h3,h4⟩:=U5 S e3 rr;refine ⟨pa,pb,ls,rfl,hp,hq,h2,λ e=>?_,by rw [<- h3.length];exact hc.2,λ l hl=>?_⟩
          ·rw [e] at h4
           exact hc.1 (List.length_eq_zero_iff.mp h4.symm)
          ·obtain ⟨a1,a2,a3⟩:=Qs S hl h3
           exact p _ _ _ a1 a2 a3
         ·rw [if_neg hc] at p;exact p.elim
       | cons _ _=>rw [en,ek] at p;exact p.elim
      | _=>rw [en,ek] at p;exact p.elim
    | _=>rw [en] at p;exact p.elim
  | _=>exact p.elim
 | _=>cases v<;>exact p.elim
end
section
variable {X:Cx}{xr:XR}{a b:Expr}{ma mb:Ev}{pos:Pos}
noncomputable def EX (ta:TA):TE:=λ σ H Q=>ta σ H λ vs H1=>∃i j:Int,vs=[.int i,.int j]/\∀p,H1 p=none->Q (.ref p) (upd H1 p (.rng i j))
theorem Io {ta:TA}{p:Pos}(hg:Gl X "range")(hm:X.mg "range" = none)(ha:PA X [a,b] ta)(hs:starEach [a,b] X.env=[(false,eval a X.env),(false,eval b X.env)])(hs2:starEach [b] X.env=[(false,eval b X.env)]):PE X (.Call (.Name "range" p) [a,b] [] pos) (EX ta):=by
 intro pins s σ H Q I h;refine Call_ (ZW I hg hm boot_range (PyProof.Rows.callWith_type1 (zS (ha pos pins s σ H _ I h) λ us s1 ⟨vs,H1,I1,r1,q1⟩=>?_) (by rw [hs,hs2]) (by rw [hs2];rfl)))
 obtain ⟨i,j,rfl,q⟩:=q1;obtain ⟨u,v,rfl,⟨t,rfl⟩,⟨t2,rfl⟩⟩:=Vals.two r1;refine call_range_2 ⟨.ref _,_,I1.laid (o:=.rng i j) (λ b o eo=>Heap.get?_push_of_some _ eo) (le_refl _) ?_,rfl,q _ (I1.hok.fresh (le_refl _))⟩;exact ⟨_,_,_,Heap.get?_push_size _ rfl⟩
noncomputable def Qx (lo:Int)(n:Nat):List V:=(List.range n).map λ (i:Nat)=>V.int (lo+i)
theorem NL (hc:X.calm=true):jV X (.type "list") (λ xs H Q=>∃(r:Addr) (i j:Int),xs=[.ref r]/\H r=some (.rng i j)/\(-(2 ^ 62)<=i/\i<2 ^ 62)/\(-(2 ^ 62)<=j/\j<2 ^ 62)/\(j - i).toNat<=sizeLine/\∀l,H l=none->Q (.ref l) (upd H l (.lst (Qx i (j - i).toNat)))):=by
 intro pins s σ H xs us Q I r h;obtain ⟨p,i,j,rfl,hp,⟨a1,a2⟩,⟨b1,b2⟩,hz,q⟩:=h;obtain ⟨u,rfl,ru⟩:=vals1 r;cases ru;obtain ⟨t1,t2,t3,ho⟩:=I.hok p _ hp;have hl:sizeLine=16777216:=sizeLine_eq;refine PySem.call_list_range (n:=(j - i).toNat) (I.ok.hd hc) (show IsRange s.heap p i j 1 t1 t2 t3 from ho) (small_one (by omega) (by omega) b1 b2) (by rw [rangeSize_one];split<;>omega) (by omega) λ h' tk acc c' kk hS ⟨hn,hat⟩=>?_
 refine ⟨.ref s.heap.objs.size,_,I.laid (t':=tk) (o:=.lst (Qx i (j - i).toNat)) kk (le_refl _) ?_,rfl,q _ (I.hok.fresh (le_refl _))⟩;refine ⟨by unfold Qx;simpa using hz,acc.toList,c',?_,by simpa using hS⟩
 have hv:∀(l:List Value) (k:Nat),(∀(m:Nat) v,l[m]? =some v->∃t,v=.int (i+((k+m:Nat):Int)) t)->Vals ((List.range' k l.length).map λ (m:Nat)=>V.int (i+(m:Int))) l:=by
  intro l
  induction l with
  | nil=>intro k _;exact .nil
  | cons v l ih=>
   intro k hk;rw [length_cons,range'_succ,map_cons];refine .cons ?_ (ih (k+1) λ m v' hv=>?_)
   ·obtain ⟨t,rfl⟩:=hk 0 v rfl
    exact ⟨t,rfl⟩
   ·obtain ⟨t,rfl⟩:=hk (m+1) v' (by simpa using hv)
    exact ⟨t,by first | rfl | (congr 1<;>omega) | (simp;omega)⟩
 have hl':acc.toList.length=(j - i).toNat:=by simpa using hn
 have:=hv acc.toList 0 λ m v hiv=>by
  obtain ⟨t,rfl⟩:=hat m v (by simpa using hiv)
  exact ⟨t,by first | rfl | (congr 1<;>omega) | (simp;omega)⟩
 rw [hl'] at this;unfold Qx;rw [range_eq_range'];exact this
noncomputable def J9 (ma mb:Ev):Ev:=λ ρ A=>(ma ρ A).bind λ x A1=>(mb ρ A1).bind λ y A2=>match x,y with
 | .int i,.int j=>if jI i&&(jI j&&decide ((j - i).toNat<=zZ)) then .ok (.ref A2.length) (A2++[.lst ((List.range (j - i).toNat).map λ (k:Nat)=>W.int (i+k))]) else .bad
 | _,_=>.bad
end
section
variable {prog:Program}{w:World}{A:Around}{E:Value->Shared->Prop}{s:Shared}
end
section
variable {X:Cx}{xr:XR}{e a b:Expr}{m ma mb:Ev}{pos p2:Pos}{lo hi:Option Expr}{K:Frag}
end
section
variable {prog:Program}{w:World}{A:Around}{E:Value->Shared->Prop}{s:Shared}
end
section
variable {X:Cx}{xr:XR}{e st:Expr}{m ms:Ev}{te:TE}{ts:TO}{pos p2:Pos}{K:Frag}
end
section
variable {prog:Program}{w:World}{A:Around}{E:Value->Shared->Prop}{s:Shared}{d:Addr}{kvs:List (Key × Value)}{ep:Nat}
end
section
variable {X:Cx}{xr:XR}{e:Expr}{m:Ev}{pos:Pos}
end
section
variable {X:Cx}{xr:XR}{e:Expr}{m:Ev}{pos:Pos}{K:Frag}
end
noncomputable def K9 (_ j:Int):Bool:=decide (0<j)&&decide (j<1152921504606846976)
noncomputable def Pw (i j:Int):Prop:=0<j/\j<1152921504606846976
theorem I9 (i j:Int)(h:K9 i j=true):Pw i j:=by
 unfold K9 at h;rw [and_eq_true] at h;exact ⟨of_decide_eq_true h.1,of_decide_eq_true h.2⟩
theorem L1 {X:Cx}:qQ X (binaryOp .FloorDiv) (rI Pw λ i j=>.int (i / j)):=WA λ i j _ _ _ _ _ hc q=>by
 have h1:(0:Int)<j:=hc.1;have h2:j<1152921504606846976:=hc.2;refine floordiv_int (by omega) (by rw [Int.fdiv_eq_ediv_of_nonneg i (by omega)];exact q) (.inl (PyProof.noPylong_of_log2 ?_))
 have h0:j.natAbs≠0:=by omega
 have:j.natAbs.log2<60:=(Nat.log2_lt h0).mpr (by omega)
 omega
noncomputable def gW:=ZE K9 λ i j=>.int (i / j)
section
variable {X:Cx}{xr:XR}{a b:Expr}{ma mb:Ev}{pos:Pos}
end
noncomputable def Yl (RF:Nat->List W->Hx->R W):Fn:=λ us A=>match us with
 | [.clo k ws _]=>RF k ws A
 | _=>.bad
theorem IA {RF:Nat->List W->Hx->R W}(PG:jA)(us:List W)(A:Hx):Yl RF us A=.bad∨wU PG RF (us.map (Wf PG)) A=Yl RF us A:=by
 cases us with
 | nil=>exact .inl rfl
 | cons u us=>
  cases us with
  | cons v us=>cases u<;>exact .inl rfl
  | nil=>
   cases u with
   | clo k ws P=>
    refine .inr ?_;show wU PG RF [.clo k ws (PG k)] A=RF k ws A;unfold wU;dsimp only;rw [if_pos rfl]
   | _=>exact .inl rfl
noncomputable def Bs (e:Expr):Expr:=match e with
 | .Compare l _ _ _=>l
 | _=>Qv
section
variable {X:Cx}{xr:XR}{K:Frag}{a b:Expr}{ma mb:Ev}{pos:Pos}
end
section
variable {P:Program}{w:World}{K:Frag}{mg:Str->Option Value}{base:Heap}
end
open Classical in
noncomputable def RP (q:Str)(fs:Addr->Fn):Prop:=∀ns:List Int,ns.length<=63->∀Pt,∃A,fs Pt [.ref 0] [.ro (ns.map W.int),.tab q Pt]=.ok (.bl true) A
theorem Ct {y:Str}{l:PySem.W.OpenLaw}{k:Nat}{q:Program}{loose:List Str}{XP:(Str->Option Value)->Heap->Prop}{YP:World->Heap->Prop}{d:DefRec}{Kp:Params->Frag}{x qn:Str}{fs:Addr->Fn}{Pt:Addr}(ok:RP qn fs)
  (hn:l.most=some 63)(hdf:d.params.defaults=[])(hr:ju k callerA)(hY:∀(w:World) (h:Heap),YP w h->(Kp w.params).In h)(hT:∀(w:World) (h:Heap),YP w h->h.get? Pt=some (PySem.W.tabObj #[]))(ht:∀p,Vp (Kp p) y Pt=true)(hKP:∀p,(Kp p).lookup Pt=none)
  (F:∀(w:World) (mg:Str->Option Value) (fa:Addr) (h:Heap),(Kp w.params).In h->h.Ns mainGlobals mg->mg d.name=some (.ref fa)->(∃c,PySem.W.tabIn (Kp w.params) y=some (c,Pt)/\PySem.W.codeHdIn (Kp w.params) c Pt=true)->
   ∃fd:FuncData,(∀(s:Shared) (u:Value),BindsTo s fd ⟨[u],[]⟩ [(x,u)])/\∀base:Heap,(Kp w.params).In base->base.Ns mainGlobals mg->BMain mg base->yk l.prog w (Kp w.params) mg base kO k fa fd [x] (gF (Kp w.params) 1 (fs Pt))):
  PySem.W.WalkO q loose XP YP l.row.toRowW d [] (λ f vs=>PySem.call f vs):=by
 refine Att.NI (n:=63) hn hdf λ w s₀ s₁ mg mb fa o pm cd doc a vs ns G Y ho hd hcd' hmg hobj hints hlen hg=>?_;have KX:=hY w _ Y;obtain ⟨fd,hb,hF⟩:=F w mg fa _ KX G.T.g hmg (TN (ht w.params));obtain ⟨c,_,hcd⟩:=TN (ht w.params);have hP:=hT w _ Y;have hc:isCodeTable s₁.heap Pt:=((PySem.W.codeHd_of_K KX hcd).tab hP).isCodeTable;have hbm:BMain mg s₁.heap:=by
  obtain ⟨bm,ob,b1,b2,b3,b4,b5,b6⟩:=G.T.bmain;refine ⟨bm,ob,b1,b2,λ z=>?_,b3,b4,b5,b6⟩;obtain ⟨o,es,ep,e,hd,_⟩:=G.T.g;rw [z,e] at b3;cases b3;rw [hd] at b6;cases b6
 refine Lh KX G.T.g G.T.b G.T.builtins G.T.nolimit hg hobj hints (le_trans hlen (by decide)) hr hP (hKP w.params) hc hbm hF hb λ H h1 h2=>?_
 refine ⟨rfl,[a,Pt],[.ro (ns.map W.int),.tab qn Pt],[.ref 0],Md h1 h2,.one ⟨a,rfl,rfl⟩,?_⟩;obtain ⟨A,e⟩:=ok ns hlen Pt;rw [e];exact λ φ' H' v _ _ r=>r
noncomputable def Wl (q:Str)(Pt:Addr)(g:jA->Fn)(us:List W)(A:Hx)(r:R W):Prop:=
 ∃n vs ws w ws2,us=.ref n::vs/\A[n]? =some (.lst ws)/\A[1]? =some (.tab q Pt)/\jk ws=true/\jk vs=true/\jk ws2=true/\w.nr=true/\r=.ok w (A.set n (.lst ws2))/\
  ∀PF,∃A1,g PF (.ref 0::vs) [.lst ws,.tab q Pt]=.ok w A1/\A1[0]? =some (.lst ws2)/\A1[1]? =some (.tab q Pt)
open Classical in
noncomputable def JA (q:Str)(Pt:Addr)(g:jA->Fn):Fn:=λ us A=>if h:∃r,Wl q Pt g us A r then h.choose else .bad
theorem SO {q:Str}{Pt:Addr}{g:jA->Fn}{us:List W}{A:Hx}{r:R W}(h:Wl q Pt g us A r):JA q Pt g us A=r:=by
 have hx:∃r,Wl q Pt g us A r:=⟨r,h⟩;unfold JA;rw [dif_pos hx];obtain ⟨n,vs,ws,w,ws2,e1,e2,e3,_,_,_,_,e4,e5⟩:=hx.choose_spec;obtain ⟨n',vs',ws',w',ws2',f1,f2,f3,_,_,_,_,f4,f5⟩:=h;rw [e1] at f1;cases f1;rw [e2] at f2;cases f2;obtain ⟨A1,g1,g2,g3⟩:=e5 λ _ _ _ _ _=>True;obtain ⟨A2,h1,h2,h3⟩:=f5 λ _ _ _ _ _=>True;rw [g1] at h1;cases h1;rw [g2] at h2;cases h2;rw [e4,f4]
section
variable {P:Program}{w:World}{K:Frag}{mg:Str->Option Value}{base:Heap}
end
open PySem PySem.Spec PyProof.Rows L2 Mi
@[irreducible] noncomputable def UA (X:Cx)(xr:XR)(es:List Expr)(ms:List Ev):Prop:=Mi.SJ X xr es ms
theorem Dr:@UA=@Mi.SJ:=by
 funext X xr es ms
 unfold UA
 rfl
section
theorem yC:@zz=@Mi.SE/\@wC=@Mi.SA/\@ym=@Mi.ST/\@gD=@Mi.SW/\@ka=@Mi.SS/\@y0=@Mi.YI/\@wG=@Mi.SI/\@w5=@Mi.SG/\@QS=@Mi.SF/\@gC=@Mi.SQ/\@Zu=@Mi.YG/\@ZF=@Mi.SM/\@UA=@Mi.SJ:=⟨Vw,Pc,Pd,RG,R7,Rx,R5,R3,RQ,R1,S6,R0,Dr⟩
theorem kU {X:Cx}{g:Heap}{xr:XR}{e:Expr}{es:List Expr}{pos:Pos}{k n:Nat}{x:Str}{p:Pos}{f:Fn}{mr:Ea}(xo:gz X g xr)(F:qB X.prog X.w X.K X.mg X.base k x n f)(hr:ju k X.A)(ha:wC X xr (e::es) mr)(hl:g7 mr n)(hg:Gl X x:=by rfl)
  (hdb:(x==("__debug__" : Str))=false:=by decide)(he:starEach (e::es) X.env=(false,eval e X.env)::starEach es X.env:=by rfl)(hpl:(backTo pos (starEach es X.env)).any (·.1)=false:=by rfl):
  zz X xr (.Call (.Name x p) (e::es) [] pos) (zF f mr):=by
 (try simp only [yC] at *)
 obtain ⟨fa,fd,ps,F,hm,hk,hb⟩:=F;refine PE.imp (Rv F hr hg hm hk hb .nil xo.passes ha hdb he hpl) λ σ H Q ⟨φ,A,ρ,S,re,h⟩=>?_;have h':=zY.mp h;refine ⟨φ,A,ρ,S,re,?_⟩;cases er:mr ρ A with
 | ok ws A1=>
  rw [er] at h';intro φ1 H1 vs l1 S1 q1;have hv:vs.length=n:=by rw [<- q1.length];exact hl ρ A ws A1 er
  rw [append_nil];refine ⟨hv,φ1,A1,ws,S1,q1,qp h' (λ _ _ z=>z.mono l1) λ y A2 z φ2 H2 l2 S2 Ca hC=>?_⟩;exact ⟨y,Ca,rfl,hC,z φ2 H2 (l1.trans l2) S2⟩
 | exc y A1=>rw [er] at h';exact h'
 | bad=>rw [er] at h';exact h'
theorem Vi {X:Cx}{xr:XR}{e:Expr}{m:Ev}(h:ym X.nox jT e m):ym X xr e λ ρ A=>(m ρ A).nox:=by
 (try simp only [yC] at *)
 refine PT.imp (PT.nox h) λ σ H Q ⟨φ,A,ρ,S,re,q⟩=>⟨φ,A,ρ,S,re,?_⟩;cases er:m ρ A with
 | ok w A1=>(try dsimp only at q);rw [er] at q;exact q
 | exc y A1=>(try dsimp only at q);rw [er] at q;exact q.elim
 | bad=>(try dsimp only at q);rw [er] at q;exact q.elim
theorem X0 {X:Cx}{xr:XR}{m1:Ex}{sts:List Stmt}(h:y0 X.nox jT sts m1):y0 X xr sts λ ρ A=>(m1 ρ A).nox:=by
 (try simp only [yC] at *)
 refine yn.imp (yn.nox h) λ D σ H ⟨φ,A,ρ,S,re,q⟩=>⟨φ,A,ρ,S,re,?_⟩;cases er:m1 ρ A with
 | ok w A1=>(try dsimp only at q);rw [er] at q;exact q
 | exc y A1=>(try dsimp only at q);rw [er] at q;exact q.elim
 | bad=>(try dsimp only at q);rw [er] at q;exact q.elim
theorem Xu {X:Cx}{g:Heap}{xr:XR}{e:Expr}{es:List Expr}{mr:Ea}{x:Str}{top:Str}{np:Pos}{cpos:Pos}{pos:Pos}{n:Nat}(xo:gz X g xr)(c:X1 X.K top x)(ha:wC X xr (e::es) mr)(hl:g7 mr n)(hn:n<=sizeLine:=by decide)(hg:Gl X x:=by rfl)(hcalm:X.calm=true:=by rfl)
  (hdb:(x==("__debug__" : Str))=false:=by decide)(he:starEach (e::es) X.env=(false,eval e X.env)::starEach es X.env:=by rfl)(hpl:(backTo cpos (starEach es X.env)).any (·.1)=false:=by rfl):
  ka X xr (.Raise (some (.Call (.Name x np) (e::es) [] cpos)) none pos) (Yi x mr):=by
 (try simp only [yC] at *)
 exact IJ xo c.at_ c.exc PySem.F.excBase_ValueError ha hl hn hg hcalm hdb he hpl
theorem Jz {P:Program}{w:World}{K:Frag}{mg:Str->Option Value}{base:Heap}{x:Str}{st:Stmt}{f:Addr}{fd:FuncData}{N ps:List Str}{k:Nat}{m:Ex}(F:qO K x x st f fd)(hm:mg x=some (.ref f))(S:q9 N ps (qf st))
  (hb:∀(kV doc pm:Value) (an:Option Addr) (cdv ct:Value) (us:List Value),us.length=ps.length->bindArgs (PySem.W.fnOf x x (Zm st) (yc st) (qf st) .none kV doc pm an cdv ct) ⟨us,[]⟩=pure (ps.zip us))
  (hbody:∀(cdv:Value) (A:Around) (outer:List Env) (s:Shared) (H:Hp) (E:XK),ju k (A.deeper (envOfC x (qf st) s.heap.objs.size f cdv))->
   gz (kI (wZ P w) P w K mg base N x (qf st) f cdv A outer s H E) s.heap (gG K E)->y0 (kI (wZ P w) P w K mg base N x (qf st) f cdv A outer s H E) (gG K E) (yc st) m):
  qB P w K mg base (k+1) x ps.length (yK N.length m):=by
 (try simp only [yC] at *)
 refine ⟨f,fd,ps,?_,hm,F.kp,F.binds hb⟩;obtain ⟨oc,od,kV,doc,pm,an,cdv,ct,osl,rfl,lk,hcd⟩:=F.ex;refine VM lk hcd S (λ vs H Q E h=>h.len) λ A outer s H vs Q E hr ⟨hl,φ,A1,ws,Sm,r,h⟩=>⟨_,hbody cdv A outer s H E hr CQ,?_⟩;refine ⟨φ,A1,ws.map some++List.replicate (N.length - ws.length) none,Sm,RE.start r,?_⟩;have h':=zY.mp h;show R.post _ (FB K φ H _) _;cases er:m (ws.map some++List.replicate (N.length - ws.length) none) A1 with
 | ok fl A2=>
  rw [er] at h';cases fl with
  | rt w=>exact h'
  | nx ρ=>exact λ φ' H' σ' l S' _=>h' φ' H' .non l S' rfl
  | bk ρ=>exact h'.elim
  | ct ρ=>exact h'.elim
 | exc y A2=>rw [er] at h';exact h'
 | bad=>rw [er] at h';exact h'.elim
theorem FK {X:Cx}{xr:XR}{L:Addr}{D:Addr}{i:Nat}{j:Nat}{l:Nat}{kk:Nat}{x:Str}{n:Str}{y:Str}{xD:Str}{cs:List Str}{PG:Nat->Obj->Addr->Obj->List V->Prop}{lam:Nat->Fn}{bmD:List Value}{newD:String}{np:Pos}{cp:Pos}{ep:Pos}{dp:Pos}{yp:Pos}{np2:Pos}{ap:Pos}{hp:Pos}{pos:Pos}(hL:∀k,gX X.prog X.w X.K X.mg X.base kk (PG k) (lam k))(hr:ju kk X.A)(hst:X.stack=X.env::X.outer)(hFr:X.env.frame=some L)(hD:yD X.K xD (.ref D))(exD:Mi.gy X.K D bmD newD=true)(hbD:bmD.contains (.type "BaseException")=true)
  (hcs:∀c,cs.contains c=true->∀C,yD X.K c (.ref C)->∃bmC newC,Mi.gy X.K C bmC newC=true/\QN X.K C D=true)
  (hN:X.N.Nodup)(hi:X.N[i]? =some x)(hx:X.env.scope.names.lookup x=some .local)(hl:X.N[l]? =some n)(hn:X.env.scope.names.lookup n=some .local)(hj:X.N[j]? =some y)(hy:X.env.scope.names.lookup y=some .local)
  (hg:Gl X xD)(hs1:swapsWith (.Call (.Name x np) [] [] cp) none ep.line X.env=pure false:=by rfl)(hs2:swapsWith (.Name n np2) (some (.Name y yp)) ap.line X.env=pure false:=by rfl)
  (hdx:(x==("__debug__" : Str))=false:=by decide)(hdn:(n==("__debug__" : Str))=false:=by decide)(hdD:(xD==("__debug__" : Str))=false:=by decide):
  ka X xr (.Try [.Expr (.Call (.Name x np) [] [] cp) ep] [.ExceptHandler (some (.Name xD dp)) (some n) [.Assign [.Name y yp] (.Name n np2) ap] hp] [] [] pos) (YD i j l cs PG lam):=by
 (try simp only [yC] at *)
 intro pins s σ H D0 I ⟨φ,A,ρ,S,re,h⟩;unfold YD Wh at h;cases ei:ρ[i]? with
 | none=>rw [ei] at h;exact h.elim
 | some ow=>
  cases ow with
  | none=>rw [ei] at h;exact h.elim
  | some w=>
   rw [ei] at h;cases w with
   | clo k ws P=>
    dsimp only at h
    by_cases hP:P=PG k
    ·rw [if_pos hP] at h
     subst hP;obtain ⟨v,hv,a,ob,u,c,oc,uc,vs,rfl,h1,h2,hp',rvs⟩:=re.get i _ ei;obtain ⟨⟨fd0,hfd⟩,fd,F,hb⟩:=hL k a ob u c oc uc vs hp';have ho:s.heap.get? a=some ob:=(show jj X.prog X.w H s.heap a (.frz ob u) from I.hok a _ h1).1
     refine DB (i:=l) (L:=L) (k:=C9 X.K φ H ρ j l D0)
      I hst hFr hD exD hbD hN hl (.inl hn) ?body ?suite hg hdD (.inr hn)
     case body=>
      refine wpAny_execs_cons (wpAny_Expr_any ?_ I.quiet hs1);obtain ⟨m,hns,hloc⟩:=I.loc;obtain ⟨u',r',lk⟩:=hloc i x (.ref a) hi hv (.inl hx);obtain rfl:u'=Value.ref a:=r';have hm:m x=some (.ref a):=by
       rcases lk with ⟨_,e⟩ | ⟨q | q,_⟩
       ·exact e
       ·rw [show X.env.kindOf x=some .local from hx] at q;cases q
       ·rw [show X.env.kindOf x=some .local from hx] at q;cases q
      refine wpAny_Call_Name_kw (wpAny_Name (wpAny_loadName_local I.ok.kind hx hns hm ?_) hdx);have hK:Frag.In [(a,ob)] s.heap:=λ b o e=>by
       rw [lookup_cons] at e
       by_cases hb:b=a
       ·subst hb;simp at e;subst e;exact ho
       ·have:(b==a)=false:=by simpa using hb
        rw [this] at e;cases e
      have hkp:PySem.W.keepIn [(a,ob)] (.ref a)=true:=by
       unfold PySem.W.keepIn;obtain ⟨o1,o2,o3,o4⟩:=ob;cases (show o3=_ from hfd)
       simp [lookup_cons]
      refine PySem.W.callWith_K0 (K:=[(a,ob)]) (first:=[]) hK hkp ?_;refine wpAny_call (codeAny_mono (F.run X.A X.stack s H ⟨[],[]⟩ [] [] (λ _ H1=>D0.nx σ H1)
       (Bi X.K φ H ρ j l D0 cs)
       hr I.env0 (hb s) .nil ⟨rfl,h1,h2,φ,A,ws,S,rvs,?_⟩) λ r s' hq=>?_)
      ·cases er:lam k ws A with
       | ok w1 A1=>
        rw [er] at h;exact λ φ' H' v' l' S' _=>h φ' H' σ l' S' (re.mono l')
       | exc xn A1=>
        rw [er] at h;dsimp only at h
        by_cases hc:cs.contains xn=true
        ·rw [if_pos hc] at h
         exact λ φ' H' l' S' Ca hCa=>⟨xn,Ca,rfl,hCa,hc,φ',A1,l',S',h⟩
        ·rw [if_neg hc] at h;exact h.elim
       | bad=>rw [er] at h;exact h.elim
      ·cases r with
       | error e=>
        unfold CR at hq;dsimp only at hq;have un:∀b o,s.heap.get? b=some o->∃o',s'.heap.get? b=some o':=by
         obtain ⟨_,_,_,_,_,_,un,_⟩:=hq;exact λ b o e=>un.there b o e (by simp)
        obtain ⟨ea,C,H',rfl,I',ly,tr,xn,Ca,ec,hCa,hc,φ1,A1,l1,S1,hn1⟩:=TZ I hq s.heap λ b o e=>⟨o,e⟩;cases ec;obtain ⟨bmC,newC,exC,up⟩:=hcs xn hc C hCa;exact ⟨ea,C,H',bmC,newC,rfl,I',ly,tr,un,exC,up,λ oe hoe nea=>⟨xn,φ1,A1,l1.trans (Le.new nea),S1.lay nea,⟨ea,oe,.own 0,C,rfl,jy,hoe,hCa⟩,hn1⟩⟩
       | ok fl=>
        cases fl with
        | ret u1=>
         obtain ⟨v1,H1,I1,_,q1⟩:=I.after hq;exact wpAny_execs_nil ⟨rfl,σ,H1,I1,q1⟩
        | next=>exact False.elim hq
        | brk=>exact False.elim hq
        | cont=>exact False.elim hq
     case suite=>
      rintro ea C H2 s2 I2 ⟨xn,φ',A',l',S',rx,hn'⟩ E'
      refine N3 (i:=l) (j:=j) I2 hN hl hj hn (.inl hy) (λ s' I'=>?_) hs2 (.inr hy) hdn;exact ⟨_,H2,I',hn' φ' H2 _ l' S' ((((re.mono l').set rx).set rx).unset)⟩
    ·rw [if_neg hP] at h;exact h.elim
   | _=>exact h.elim
theorem kD {X:Cx}{xr:XR}{e:Expr}{m:Ev}{pos:Pos}{p:Pos}{p':Pos}{f:Str->Option Bool}{x:Str}{C:Addr}(hx:Yq X.K f (.ref C))(hc:yD X.K x (.ref C))(hm:X.mg "isinstance" = none)(ha:zz X xr e m)(hg:Gl X "isinstance" := by rfl)(hg':Gl X x:=by rfl)(hd:(x==("__debug__" : Str))=false:=by decide)
  (h1:starEach [e,.Name x p'] X.env=(false,eval e X.env)::starEach [.Name x p'] X.env:=by rfl)(h2:(backTo pos (starEach [.Name x p'] X.env)).any (·.1)=false:=by rfl):
  zz X xr (.Call (.Name "isinstance" p) [e,.Name x p'] [] pos) (qV f m):=by
 (try simp only [yC] at *)
 have hp:PE X (.Name x p') (tC (.ref C)):=λ pins s σ H Q I h=>Jj I hg' (PySem.W.mg_of I.mod.kin I.mod.glob hc) ⟨.ref C,H,I,rfl,h⟩ hd;exact PE.imp (ZN (Se (cv:=.ref C) hx λ u r=>r) hg hm (by rfl) (jv ha (jv hp j4) h1) (by decide) (by decide) h1 h2) (qV.read λ σ H Q h=>h)
theorem Iv {X:Cx}{xr:XR}{e:Expr}{m:Ev}{pos:Pos}{p:Pos}{p':Pos}{f:Str->Option Bool}{x:Str}{T:String}(hx:Yq X.K f (.type T))(hm:X.mg "isinstance" = none)(hm':X.mg x=none)(hb:bootBuiltins x=some (.type T))(ha:zz X xr e m)(hg:Gl X "isinstance" := by rfl)(hg':Gl X x:=by rfl)(hn:x ≠ "__name__" := by decide)(hd:(x==("__debug__" : Str))=false:=by decide)
  (h1:starEach [e,.Name x p'] X.env=(false,eval e X.env)::starEach [.Name x p'] X.env:=by rfl)(h2:(backTo pos (starEach [.Name x p'] X.env)).any (·.1)=false:=by rfl):
  zz X xr (.Call (.Name "isinstance" p) [e,.Name x p'] [] pos) (qV f m):=by
 (try simp only [yC] at *)
 exact PE.imp (ZN (Se (cv:=.ty T) hx λ u r=>r) hg hm (by rfl) (jv ha (jv (KW hg' hm' hb (v:=.ty T) rfl hn hd) j4) h1) (by decide) (by decide) h1 h2) (qV.read λ σ H Q h=>h)
theorem Qk {X:Cx}{xr:XR}{n:Nat}{k:Nat}{q:Str}{Pt:Addr}{c:Addr}{ls:List Lm}{t:Lm}{pos:Pos}(ht:ls[k]? =some t)(L:V8 X.N X.env.scope t=true)(hB:BMain X.mg X.base)(hcode:X.env.code=.ref c)(C:PySem.W.CodeHd X.base c Pt)(hq:X.env.qual ++ "<lambda>" = q)(hdef:defaultsOf t.params X.env=([],[])):
  zz X xr (.Lambda t.params t.body t.scope pos) (yZ n q Pt k (yM X.env q ls k)):=by
 (try simp only [yC] at *)
 intro pins s σ H Q I h;rw [El ht] at h;exact EO hB hcode C (Te λ y hy e=>I.ok.has _ ((yb L).free y hy e)) hq hdef pins s σ H Q I h
theorem T6 {X:Cx}{xr:XR}{N:List Str}{sc:Scope}{ls:List Lm}{j:Nat}{kk:Nat}{i:Nat}{nl:Nat}{q:Str}{x:Str}{f:Str}{RF:Nat->List W->Hx->R W}{p:Pos}{p2:Pos}{p3:Pos}{p4:Pos}{pos:Pos}{iter:Expr}{mi:Ei}{tw:Tg}(hfn:∀x,X.fn x=true)(hl:∀t∈ls,kK X.prog X.w X.K X.mg j q t)(hix:∀t∈ls,Z3 X t)
  (hR:∀base PG,(∀k,gX X.prog X.w X.K X.mg base (j+1) (PG k) (jK ls k))->zE X.prog X.w X.K X.mg base kk f 1 (wU PG RF))(hr:ju kk X.A)(hc:X.calm=true)(S:gN X sc)(hcap:Z1 X.N N sc nl []=true)(hw:wG X xr (.Name x p4) iter mi)
  (hgt:∀s H fp,w5 (jq X N sc s H fp jJ) (.Name x p4) tw)(hi:N[i]? =some x)(hv:JF (relabel sc X.env) x)(hg:∀s H fp,Gl (jq X N sc s H fp jJ) f)(hdx:(x==("__debug__" : Str))=false:=by decide)(hcx:(x==("__classdict__" : Str))=false:=by decide)(hdf:(f==("__debug__" : Str))=false:=by decide)
  (he:∀env:Env,starEach [.Name x p2] env=(false,eval (.Name x p2) env)::starEach [] env:=by intro _;rfl)(hpl:∀env:Env,(backTo p3 (starEach [] env)).any (·.1)=false:=by intro _;rfl)
  (hs:∀x,foldedSetIterable iter X.env x=pure x:=by intro _;rfl):
  zz X xr (.ListComp (.Call (.Name f p) [.Name x p2] [] p3) [⟨.Name x p4,iter,[],0⟩] sc pos) (qm (Jw nl mi tw i (yM X.env q ls) ls RF)):=by
 (try simp only [yC] at *)
 intro pins s σ H Q I h;obtain ⟨φ,A,ρ,Sm,re,h⟩:=qm.read σ H Q h;rw [eval_ListComp];refine Vj (use:=none) (N:=N) (nl:=nl) (cap:=[]) (wi:=tI X.K xr mi) (g:=tG X.K tw) (ti:=tT X.K jT (zi (.bl true))) (tm:=UG (λ φ H=>RE X.K φ H ρ σ) X.K (zM (ZG i (yM X.env q ls) ls RF ρ))) hc S hcap (λ g' z=>by cases z) hw
  (λ s3 H3 fp I3 f3=>⟨hgt s3 H3 fp,Mi.Rl,F1 (λ _ _ z=>z) (FN I3 f3 hfn hl hix hR hr hi hv (hg s3 H3 fp) hdx hcx hdf (he _) (hpl _)) rfl⟩) I (Q:=Q) ?T (λ D C s' H' m I' q hn h1 h2 h3 h4 h5=>?_) hs
 case T=>
  refine ⟨φ,A,ρ,Sm,re,qp (zY.mp h) (λ jt A1 h1 φ1 H1 J l1 S1 jr D hD hK=>?_) λ _ _ z=>z⟩;have ln:Le X.K φ1 H1 φ1 (upd H1 D (.lst [])):=Le.new hD;have h1':=zY.mp h1;refine qI.readG (λ φ H φ' H' l g=>RE.monoW g l) (re.mono (l1.trans ln)) (jr.mono ⟨ln.ex,ln.tp,ln.fz⟩) (S1.lay hD) ((re.mono (l1.trans ln)).gA) jy (S1.notin hD hK) .nil ?_ (f:=jt.len) (acc:=[]);cases er:qI jt tw (zi (.bl true)) (zM (ZG i (yM X.env q ls) ls RF ρ)) jt.len 0 (Zq nl [] ρ) [] A1 with
  | ok p A2=>
   rw [er] at h1';intro φ2 H2 σ2 zs l2 n2 S2 re2 d2 r2;have l02:=l1.trans (Le.ofD hD l2);exact h1' φ2 H2 D zs l02 S2 (l1.st D hD) d2 n2 r2
  | exc x A2=>rw [er] at h1';exact h1'.elim
  | bad=>rw [er] at h1';exact h1'.elim
 ·exact ⟨m,hn,λ h' sb=>⟨.ref D,H',I'.turned (t':=s'.toks) (λ b o hb e=>(sb.2 b hb).trans e) h1 h2 (.inr h3) h4 h5,rfl,q⟩⟩
theorem F2 {X:Cx}{xr:XR}{e:Expr}{m:Ev}{pos:Pos}{p:Pos}{p1:Pos}{p2:Pos}{pt:Pos}{x1:Str}{x2:Str}{kt:Nat}(t t2:Ty)(hm:X.mg "isinstance" = none)(hm1:X.mg x1=none)(hm2:X.mg x2=none)(hx1:bootBuiltins x1=some (.type t.nm))(hx2:bootBuiltins x2=some (.type t2.nm))(ha:zz X xr e m)(hg:Gl X "isinstance" := by rfl)(hg1:Gl X x1:=by rfl)(hg2:Gl X x2:=by rfl)
  (hn1:x1 ≠ "__name__" := by decide)(hd1:(x1==("__debug__" : Str))=false:=by decide)(hn2:x2 ≠ "__name__" := by decide)(hd2:(x2==("__debug__" : Str))=false:=by decide)
  (h0:starEach [.Name x1 p1,.Name x2 p2] X.env=(false,eval (.Name x1 p1) X.env)::starEach [.Name x2 p2] X.env:=by rfl)(h00:starEach [.Name x2 p2] X.env=(false,eval (.Name x2 p2) X.env)::starEach [] X.env:=by rfl)
  (h1:starEach [e,.Tuple [.Name x1 p1,.Name x2 p2] kt pt] X.env=(false,eval e X.env)::starEach [.Tuple [.Name x1 p1,.Name x2 p2] kt pt] X.env:=by rfl)(h2:(backTo pos (starEach [.Tuple [.Name x1 p1,.Name x2 p2] kt pt] X.env)).any (·.1)=false:=by rfl):
  zz X xr (.Call (.Name "isinstance" p) [e,.Tuple [.Name x1 p1,.Name x2 p2] kt pt] [] pos) (Wx t t2 m):=by
 (try simp only [yC] at *)
 exact PE.imp (ZN Hf hg hm (by rfl) (jv ha (jv (RC (jv (KW hg1 hm1 hx1 (v:=.ty t.nm) rfl hn1 hd1) (jv (KW hg2 hm2 hx2 (v:=.ty t2.nm) rfl hn2 hd2) j4 h00) h0)) j4) h1) (by decide) (by decide) h1 h2) λ σ H Q ⟨φ,A,ρ,S,re,h⟩=>by
   refine tM.go S re (zY.mp h) λ w A1 φ1 H1 v h1 l1 S1 q1=>?_;cases et:qX w A1 with
   | none=>rw [et] at h1;exact h1.elim
   | some t'=>
    rw [et] at h1;refine ⟨by show 2<=sizeLine;decide,λ l hl=>⟨v,t',l,rfl,qG.of jy,?_,h1 φ1 _ _ (l1.trans (Le.new hl)) (S1.lay hl) rfl⟩⟩
    exact Sf (S1.lay hl) (q1.mono (Le.new hl)) et
theorem Rg {X:Cx}{xr:XR}{e:Expr}{m:Ev}{pos:Pos}{tg:Expr}{tw:Tg}(he:zz X xr e m)(hg:w5 X tg tw)(hs:swapsWithSole [tg] e pos.line X.env=pure false:=by rfl)(hw:swappedStores [tg] e X.env=pure none:=by rfl)(h1:(assignEach [tg] X.env).map (·.2)=[assign tg X.env]:=by rfl):ka X xr (.Assign [tg] e pos) (QE m tw):=by
 (try simp only [yC] at *)
 exact PS.imp (RO he hg hs hw h1) λ D σ H ⟨φ,A,ρ,S,re,h⟩=>by
   refine tM.go S re (zY.mp h) λ w A1 φ1 H1 v h1 l1 S1 q1=>?_;cases et:tw w ρ with
   | none=>rw [et] at h1;exact h1.elim
   | some ρ'=>
    rw [et] at h1;exact ⟨φ1,A1,ρ,w,ρ',S1,re.mono l1,q1,et,λ σ' re'=>h1 φ1 H1 σ' l1 S1 re'⟩
end
section
theorem MH {X:Cx}{ls:List Lm}{j:Nat}{kk:Nat}{n:Nat}{q:Str}{x:Str}{e:Expr}{es:List Expr}{p:Pos}{pos:Pos}{mr:Ea}{f0:Fn}{fG:jA->Fn}(hfn:∀x,X.fn x=true)(hl:∀t∈ls,kK X.prog X.w X.K X.mg j q t)(hix:∀t∈ls,Z3 X t)
  (hR:∀base PG,(∀k,gX X.prog X.w X.K X.mg base (j+1) (PG k) (jK ls k))->zE X.prog X.w X.K X.mg base kk x n (fG PG))(hF:∀PG us A,f0 us A=.bad∨fG PG (us.map (Wf PG)) A=f0 us A)(hr:ju kk X.A)
  (ha:wC X jT (e::es) mr)(hn:g7 mr n)(hg:Gl X x:=by rfl)(hdb:(x==("__debug__" : Str))=false:=by decide)
  (he:starEach (e::es) X.env=(false,eval e X.env)::starEach es X.env:=by rfl)(hpl:(backTo pos (starEach es X.env)).any (·.1)=false:=by rfl):
  zz X jT (.Call (.Name x p) (e::es) [] pos) (Yh ls (yM X.env q ls) f0 mr):=by
 (try simp only [yC] at *)
 intro pins s σ H Q I ⟨φ,A,ρ,S,re,h⟩;obtain ⟨fa,fd,ps,F,hm,hk,hb⟩:=hR _ _ (T7 I hfn hl hix).2;refine wpAny_Call_Name_kw (Jj I hg hm ?_ hdb);have h':=zY.mp h;refine PySem.W.callWith_K (h₀:=X.base) I.ok.mod.kin hk (zS (ha pos pins s σ H (λ vs H1=>∃φ1 A1 ws us,Le X.K φ H φ1 H1/\zH X.K φ1 A1 H1/\zD X.K φ1 H1 ws vs/\ws.length=n/\gY ls (yM X.env q ls) ρ ws=some us/\(f0 us A1).post (PB X.K φ1 H1 Q) (EB X.K φ1 H1 jT)) I ⟨φ,A,ρ,S,re,?_⟩) λ us s1 ⟨vs,H1,I1,r1,φ1,A1,ws,us',l1,S1,rv,hwn,hc,hp⟩=>⟨I1.kIn,?_⟩) he hpl
 ·cases er:mr ρ A with
  | ok ws A1=>
   rw [er] at h';intro φ1 H1 vs l1 S1 q1;have h':(match gY ls (yM X.env q ls) ρ ws with | some us=>f0 us A1 | none=>.bad).post (PB X.K φ H Q) (EB X.K φ H jT):=h'
   cases ec:gY ls (yM X.env q ls) ρ ws with
   | none=>rw [ec] at h';exact h'.elim
   | some us=>
    rw [ec] at h';refine ⟨φ1,A1,ws,us,l1,S1,q1,hn ρ A ws A1 er,ec,qp h' (λ _ _ z=>z.mono l1) λ y A2 z=>z.mono l1⟩
  | exc y A1=>rw [er] at h';exact h'
  | bad=>rw [er] at h';exact h'
 ·obtain ⟨e0,hL⟩:=T7 (q:=q) I1 hfn hl hix
  obtain ⟨fa',fd',ps',F',hm',hk',hb'⟩:=hR _ _ hL;rw [hm] at hm';cases hm';have hsp:gF X.K n (fG (Zy X.env q ls σ)) vs H1 Q E0:=by
   refine ⟨by rw [<- rv.length];exact hwn,φ1,A1,us'.map (Wf (Zy X.env q ls σ)),S1,Ts (re.mono l1) hc rv,?_⟩
   rcases hF (Zy X.env q ls σ) us' A1 with z | z
   ·rw [z] at hp;exact hp.elim
   ·rw [z]
    exact qp hp (λ _ _ z=>z) λ y A2 z φ2 H2 l2 S2=>(z φ2 H2 l2 S2).elim
  have hln:=F'.len _ _ _ _ hsp;have hu:us.length=ps'.length:=by rw [<- r1.length];exact hln
  refine wpAny_call (codeAny_mono (F'.run X.A X.stack s1 H1 ⟨[]++us,[]⟩ us vs Q E0 hr e0 ?_ r1 hsp) λ r s2 hq=>?_)
  ·have:=hb' s1 us I1.kIn (by rw [append_nil];exact hu)
   rw [append_nil] at this;exact this
  ·cases r with
   | error e=>exact False.elim hq
   | ok fl=>
    cases fl with
    | ret u1=>exact I1.after hq
    | next=>exact False.elim hq
    | brk=>exact False.elim hq
    | cont=>exact False.elim hq
end
theorem Mz {X:Cx}{xr:XR}{a:Expr}{b:Expr}{ma:Ev}{mb:Ev}{k:Nat}{apos cpos:Pos}(hr:ju k X.A)(ho:zz X xr a ma)(he:zz X xr b mb)(hs:starEach [b] X.env=(false,eval b X.env)::starEach [] X.env:=by rfl)
  (hbase:attributeBase a "index" X.env (eval a X.env)=eval a X.env:=by rfl)
  (hfew:((backTo cpos (starEach [b] X.env)).all (λ x=>!x.1)&&(backToKw cpos (keywordEach [] X.env)).all (λ x=>x.1.isSome)
   && decide ([b].length+([]:List Keyword).length+(if ([]:List Keyword).isEmpty then 0 else 1)<30))=true:=by rfl)(hline:(apos.endLine==cpos.line)=true:=by rfl):
  zz X xr (.Call (.Attribute a "index" apos) [b] [] cpos) (j5 gT ma mb):=by
 (try simp only [yC] at *)
 exact VL PySem.F.slot_list_index PySem.F.type_list_index (Ld hr.units) IB (λ φ A H x y u v Q S q1 q2 p=>by
   unfold gT at p;cases e1:ql A 8 u with
   | none=>rw [e1] at p;exact p.elim
   | some d1=>
    cases e2:ql A 8 v with
    | none=>
     rw [e1,e2] at p;cases d1<;>exact p.elim
    | some d=>
     rw [e1,e2] at p;cases d1 with
     | list ds=>
      dsimp only at p;cases e3:gZ (λ z=>PyData.eqv z d) ds with
      | none=>rw [e3] at p;exact p.elim
      | some j=>
       rw [e3] at p;dsimp only at p
       by_cases hj:j<1000000
       ·rw [if_pos hj] at p
        exact ⟨φ,A,u,v,y,d,ds,j,rfl,S,q1,q2,e1,e2,e3,hj,p φ H _ .refl S rfl⟩
       ·rw [if_neg hj] at p;exact p.elim
     | _=>exact p.elim) ho he hs hbase hfew hline
theorem NH {X:Cx}{xr:XR}{e:Expr}{m:Ev}{pos:Pos}{p p' pos':Pos}(hc:X.calm=true)(hm:X.mg "sorted" = none)(hm':X.mg "set" = none)(ha:zz X xr e m)(hg:Gl X "sorted" := by rfl)(hg':Gl X "set" := by rfl)(hs:starEach [e] X.env=(false,eval e X.env)::starEach [] X.env:=by rfl)
  (hs':starEach [.Call (.Name "set" p') [e] [] pos'] X.env=(false,eval (.Call (.Name "set" p') [e] [] pos') X.env)::starEach [] X.env:=by rfl):
  zz X xr (.Call (.Name "sorted" p) [.Call (.Name "set" p') [e] [] pos'] [] pos) (KI m):=by
 (try simp only [yC] at *)
 exact PE.imp (ZN (NB hc) hg hm (by rfl) (jv (Q9 (MR hc) hg' hm' (by rfl) (jv ha j4 hs) (by decide) (by decide) hs (by rfl)) j4 hs') (by decide) (by decide) hs' (by rfl)) λ σ H Q ⟨φ,A,ρ,S,re,h⟩=>by
   refine tM.go S re (zY.mp h) λ w A1 φ1 H1 v h1 l1 S1 q1=>?_;cases w with
   | ref n=>
    unfold XU at h1;dsimp only at h1;cases en:A1[n]? with
    | none=>rw [en] at h1;exact h1.elim
    | some u=>cases u with
     | lst ws=>
      rw [en] at h1;dsimp only at h1;obtain ⟨pl,ys,rfl,eφ,eH,rr⟩:=S1.lst q1 en;cases ei:intsOf ws with
      | none=>rw [ei] at h1;exact h1.elim
      | some is=>
       rw [ei] at h1;dsimp only at h1;have ew:=Xz ei;subst ew;have ev:=zD.ints.mp rr;subst ev;cases e2:ZS is with
       | none=>rw [e2] at h1;exact h1.elim
       | some vs=>
        rw [e2] at h1;dsimp only at h1;obtain ⟨e3,h8⟩:=TC e2;have eH':H1 pl=some (.lst (vs.map λ (v:Nat)=>V.int (v:Int))):=by rw [eH,e3,map_map];rfl
        refine ⟨pl,vs,rfl,je.of eH',h8,λ l hl=>⟨l,vs.foldl yj 0,rfl,jy,λ l2 hl2=>?_⟩⟩;have ln:Le X.K φ1 H1 φ1 (upd H1 l (.ext λ h=>yi h l (jC X.w) (vs.foldl yj 0))):=Le.new hl;have S2:=S1.lay (u:=.ext λ h=>yi h l (jC X.w) (vs.foldl yj 0)) hl;have rr2:∀(ψ:List Addr) (G:Hp),zD X.K ψ G (((List.range 8).filter λ i=>decide (i∈vs)).map λ (i:Nat)=>W.int (i:Int)) ((zT (vs.foldl yj 0)).map λ (v:Nat)=>V.int (v:Int)):=λ ψ G=>by
         rw [Ms];have e4:∀l:List Nat,zD X.K ψ G (l.map λ (i:Nat)=>W.int (i:Int)) (l.map λ (v:Nat)=>V.int (v:Int)):=λ l=>by
          induction l with
          | nil=>rfl
          | cons i l ih=>exact ⟨_,_,rfl,rfl,ih⟩
         exact e4 _
        obtain ⟨l3,S3⟩:=S2.alloc (o:=.lst (((List.range 8).filter λ i=>decide (i∈vs)).map λ (i:Nat)=>W.int (i:Int))) hl2 (u:=.lst ((zT (vs.foldl yj 0)).map λ (v:Nat)=>V.int (v:Int))) ⟨_,jy,rr2 _ _⟩;exact h1 _ _ _ (l1.trans (ln.trans l3)) S3 ⟨l2,rfl,by rw [<- S1.len];simp⟩
     | _=>rw [en] at h1;exact h1.elim
   | _=>exact h1.elim
theorem IQ {X:Cx}{xr:XR}{a:Expr}{b:Expr}{ma:Ev}{mb:Ev}{pos:Pos}{p:Pos}(hc:X.calm=true)(hm:X.mg "sum" = none)(ha:zz X xr a ma)(hb:zz X xr b mb)(hgl:Gl X "sum" := by rfl)(h1:starEach [a,b] X.env=(false,eval a X.env)::starEach [b] X.env:=by rfl)
  (h2:starEach [b] X.env=(false,eval b X.env)::starEach [] X.env:=by rfl)(hpl:(backTo pos (starEach [b] X.env)).any (·.1)=false:=by rfl):
  zz X xr (.Call (.Name "sum" p) [a,b] [] pos) (zo Zp ma mb):=by
 (try simp only [yC] at *)
 exact VN (Mk hc) F0 Lx hm (by rfl) ha hb hgl (by decide) (by decide) h1 h2 hpl
theorem N8 {X:Cx}{xr:XR}{a:Expr}{b:Expr}{ma:Ev}{mb:Ev}{pos:Pos}{p p' pos':Pos}(hc:X.calm=true)(hm:X.mg "list" = none)(hm':X.mg "range" = none)(ha:zz X xr a ma)(hb:zz X xr b mb)(hg:Gl X "list" := by rfl)(hg':Gl X "range" := by rfl)(hs:starEach [a,b] X.env=[(false,eval a X.env),(false,eval b X.env)]:=by rfl)(hs2:starEach [b] X.env=[(false,eval b X.env)]:=by rfl)
  (hs':starEach [.Call (.Name "range" p') [a,b] [] pos'] X.env=(false,eval (.Call (.Name "range" p') [a,b] [] pos') X.env)::starEach [] X.env:=by rfl):
  zz X xr (.Call (.Name "list" p) [.Call (.Name "range" p') [a,b] [] pos'] [] pos) (J9 ma mb):=by
 (try simp only [yC] at *)
 exact PE.imp (Q9 (NL hc) hg hm (by rfl) (jv (Io hg' hm' (jv ha (jv hb j4 (by rw [hs2];rfl)) (by rw [hs,hs2])) hs hs2) j4 hs') (by decide) (by decide) hs' (by rfl)) λ σ H Q ⟨φ,A,ρ,S,re,h⟩=>by
   refine tM.go S re (zY.mp h) λ w A1 φ1 H1 v h1 l1 S1 q1=>?_;refine tM.go S1 (re.mono l1) (qp (zY.mp h1) (λ _ _ z=>z) λ _ _ z=>z.mono l1) λ w2 A2 φ2 H2 v2 h2 l2 S2 q2=>?_;cases w with
   | int i=>
    obtain rfl:=q1;cases w2 with
    | int j=>
     obtain rfl:=q2;dsimp only at h2
     by_cases hj:(jI i&&(jI j&&decide ((j - i).toNat<=zZ)))=true
     ·rw [if_pos hj] at h2
      rw [and_eq_true,and_eq_true,decide_eq_true_iff] at hj;refine ⟨i,j,rfl,λ p hp=>⟨p,i,j,rfl,jy,Q6 hj.1,Q6 hj.2.1,Zk hj.2.2,λ l hl=>?_⟩⟩;have ln:Le X.K φ2 H2 φ2 (upd H2 p (.rng i j)):=Le.new hp;have rr:zD X.K φ2 (upd H2 p (.rng i j)) ((List.range (j - i).toNat).map λ (k:Nat)=>W.int (i+k)) (Qx i (j - i).toNat):=by
       have:=(zD.ints (K:=X.K) (φ:=φ2) (H:=upd H2 p (.rng i j)) (ns:=(List.range (j - i).toNat).map λ (k:Nat)=>(i+(k:Int))) (vs:=Qx i (j - i).toNat)).mpr (by unfold Qx;simp)
       rw [map_map] at this;exact this
      obtain ⟨b1,b2,b3⟩:=Qs (S2.lay hp) hl rr;exact h2 _ _ _ (((l1.trans l2).trans ln).trans b1) b2 b3
     ·rw [if_neg hj] at h2;exact h2.elim
    | _=>exact h2.elim
   | _=>exact h2.elim
theorem Je {X:Cx}{xr:XR}{a b:Expr}{ma mb:Ev}{pos:Pos}(ha:zz X xr a ma)(hb:zz X xr b mb):zz X xr (.BinOp a .FloorDiv b pos) (zo gW ma mb):=by
 (try simp only [yC] at *)
 exact Qp L1 Uc (VA I9 λ _ _ _ _=>rfl) ha hb
theorem Cj {P:Program}{w:World}{K:Frag}{mg:Str->Option Value}{base:Heap}{x q:Str}{st:Stmt}{f c Pt:Addr}{fd:FuncData}{N ps:List Str}{k:Nat}{ls:List Lm}{m:jA->Ex}(F:qO K x x st f fd)(hn:PySem.W.nsIn K mainGlobals x=some (some (.ref f)))(ht:PySem.W.tabIn K x=some (c,Pt))(hm:mg x=some (.ref f))(S:q9 N ps (qf st))
  (hb:∀(kV doc pm:Value) (an:Option Addr) (cdv ct:Value) (us:List Value),us.length=ps.length->bindArgs (PySem.W.fnOf x x (Zm st) (yc st) (qf st) .none kV doc pm an cdv ct) ⟨us,[]⟩=pure (ps.zip us))
  (hbody:∀(A:Around) (outer:List Env) (s:Shared) (H:Hp) (E:XK),ju k (A.deeper (envOfC x (qf st) s.heap.objs.size f (.ref c)))->
   y0 (kI kO P w K mg base N x (qf st) f (.ref c) A outer s H E).nox jT (yc st) (m (yM (envOfC x (qf st) s.heap.objs.size f (.ref c)) q ls))):
  zE P w K mg base (k+1) x ps.length (JA q Pt λ PF=>qg N.length (m PF)):=by
 (try simp only [yC] at *)
 refine ⟨f,fd,ps,(BF (q:=q) (ls:=ls) (m:=m) F hn ht S hbody).imp λ vs H Q E ⟨hl,φ,A,ws,S,r,q0⟩=>?_,hm,F.kp,F.binds hb⟩;have hx:∃r,Wl q Pt (λ PF=>qg N.length (m PF)) ws A r:=by
  apply Classical.byContradiction
  intro z;unfold JA at q0;rw [dif_neg z] at q0;exact q0.elim
 obtain ⟨r0,hr0⟩:=hx;rw [SO hr0] at q0;obtain ⟨n,us,xs,w0,zs,rfl,hA,hA1,nx,nu,nz,nw,rfl,hg⟩:=hr0;obtain ⟨v0,vr,rfl,q1,qr⟩:=r;obtain ⟨p,ys,rfl,f1,g1,r1⟩:=S.lst q1 hA;obtain ⟨pt,ft,rfl,pz,gt,rt⟩:=S.ob 1 _ hA1;have npt:p≠pt:=λ z=>by subst z;rw [g1] at gt;cases gt
 have S0:zH K [p,pt] [.lst xs,.tab q pt] H:=by
  refine ⟨rfl,λ i j a o o' h1 h2 h3 h4 _ _=>?_,λ m o e=>?_⟩
  ·have l1:=(List.getElem?_eq_some_iff.mp h1).1
   have l2:=(List.getElem?_eq_some_iff.mp h2).1;simp at l1 l2;have c1:i=0∨i=1:=by omega
   have c2:j=0∨j=1:=by omega
   rcases c1 with rfl | rfl<;>rcases c2 with rfl | rfl
   ·rfl
   ·simp at h1 h2;exact absurd (h1.trans h2.symm) npt
   ·simp at h1 h2;exact absurd (h2.trans h1.symm) npt
   ·rfl
  ·have l1:=(List.getElem?_eq_some_iff.mp e).1
   simp at l1;have c1:m=0∨m=1:=by omega
   rcases c1 with rfl | rfl
   ·simp at e;subst e;exact ⟨p,rfl,ys,g1,r1.nrm (λ _ _ t=>t) (λ _ _ _ t=>t) nx⟩
   ·simp at e;subst e;exact ⟨pt,rfl,rfl,pz,gt,rt⟩
 refine ⟨hl,[p,pt],[.lst xs,.tab q pt],.ref 0::us,S0,.cons ⟨p,rfl,rfl⟩ (qr.nrm (λ _ _ t=>t) (λ _ _ _ t=>t) nu),λ PF=>?_⟩;obtain ⟨A1,hf,h0,h1⟩:=hg PF;dsimp only at hf;rw [hf];intro φ1 H1 v l1 S1 qv;have apart:∀a o,a≠p->a≠pt->H a=some o->H1 a=some o:=λ a o ne ne2 h=>l1.fr a o h λ m e=>by
  have l:=(List.getElem?_eq_some_iff.mp e).1;simp at l;have c1:m=0∨m=1:=by omega
  rcases c1 with rfl | rfl
  ·simp at e;exact ne e.symm
  ·simp at e;exact ne2 e.symm
 have lf:Le K φ H φ H1:=⟨λ _ _ h=>h,l1.tp,λ a o h nn=>apart a o (λ e=>nn n (by rw [e];exact f1)) (λ e=>nn 1 (by rw [e];exact ft)) h,λ _ _ h=>.inl h,l1.st,l1.fz⟩
 have hp:φ1[0]? =some p:=l1.ex 0 p rfl;have hp1:φ1[1]? =some pt:=l1.ex 1 pt rfl;obtain ⟨p',e1,us',e2,r2⟩:=S1.ob 0 _ h0;rw [hp] at e1;cases e1;obtain ⟨p'',e1',_,qz,e2',r2'⟩:=S1.ob 1 _ h1;rw [hp1] at e1';cases e1';refine q0 φ H1 v lf ?_ (RV.nrm (λ _ _ t=>t) (λ _ _ _ t=>t) nw qv);have mt:∀(i:Nat) (w:O),(A.set n (.lst zs))[i]? =some w->w.mut=true->∃w',A[i]? =some w'/\w'.mut=true:=λ i w e mw=>by
  by_cases hi:i=n
  ·subst hi;exact ⟨_,hA,rfl⟩
  ·rw [getElem?_set_ne (Ne.symm hi)] at e;exact ⟨w,e,mw⟩
 refine ⟨by simp [S.len],λ i j a o1 o2 h1 h2 h3 h4 m1 m2=>?_,λ i w e=>?_⟩
 ·obtain ⟨w1,e1,k1⟩:=mt i o1 h3 m1
  obtain ⟨w2,e2,k2⟩:=mt j o2 h4 m2;exact S.inj i j a w1 w2 h1 h2 e1 e2 k1 k2
 ·by_cases hi:i=n
  ·subst hi
   have:i<A.length:=(List.getElem?_eq_some_iff.mp hA).1
   rw [getElem?_set_self this] at e;cases e;exact ⟨p,f1,us',e2,r2.nrm (λ _ _ t=>t) (λ _ _ _ t=>t) nz⟩
  ·rw [getElem?_set_ne (Ne.symm hi)] at e
   by_cases hi1:i=1
   ·subst hi1
    rw [hA1] at e;cases e;exact ⟨pt,ft,rfl,qz,e2',r2'⟩
   ·obtain ⟨a,e1,rr⟩:=S.ob i w e
    refine ⟨a,e1,?_⟩
    by_cases hm:w.mut=true
    ·have ne:a≠p:=λ z=>hi (S.inj i n a w _ e1 (by rw [z];exact f1) e hA hm rfl)
     have ne2:a≠pt:=λ z=>hi1 (S.inj i 1 a w _ e1 (by rw [z];exact ft) e hA1 hm rfl)
     exact rr.keep lf λ z hz=>apart a z ne ne2 hz
    ·cases w with
     | lst _=>exact absurd rfl hm
     | dct _=>exact absurd rfl hm
     | tab _ _=>exact absurd rfl hm
     | ro ws=>
      obtain ⟨vs,r1,r2⟩:=rr;refine ⟨vs,?_,r2.mono lf⟩;rcases r1 with ⟨ob,r1⟩ | r1
      ·refine .inl ⟨ob,apart a _ ?_ ?_ r1⟩
       ·intro z;subst z;rw [g1] at r1;cases r1
       ·intro z;subst z;rw [gt] at r1;cases r1
      ·exact .inr r1
end Mi
namespace G
open PySem L2 Mi
noncomputable def top (i:Nat):Stmt:=PySem.Challenge.pw_nearkinds_k02_places_near_and_shares.main.body.getD i (.Pass ⟨0,0,0,0⟩)
structure Bu (mg:Str->Option Value):Prop where
 Nm:mg "ValueError" = none
 V4:mg "abs" = none
 Yp:mg "all" = none
 Vs:mg "bool" = none
 Xc:mg "enumerate" = none
 Jt:mg "int" = none
 jG:mg "isinstance" = none
 yX:mg "len" = none
 ZT:mg "list" = none
 ZX:mg "max" = none
 VU:mg "min" = none
 jB:mg "range" = none
 Cu:mg "set" = none
 Ip:mg "sorted" = none
 CG:mg "sum" = none
 wm:mg "tuple" = none
 Pr:mg "zip" = none
 O2:∃t,mg "MOST_PLACES" = some (.int 8 t)
noncomputable abbrev zP:List Str:=["NoTable", "NoPlace", "NoKind"]
noncomputable abbrev yS:List Str:=["NoTable", "NotSteady", "NoPlace", "NoKind", "NoMix", "NoNumber", "NoLot", "NoKinds", "NoPaper", "NoParting", "NoClosed", "TooMany", "NoText", "NoLine", "NoDeed"]
theorem rw_NoTable {K:Frag}(R:yS.all (jh K zP)=true):jh K zP "NoTable" = true:=List.all_eq_true.mp R _ (by decide +kernel)
theorem rw_NotSteady {K:Frag}(R:yS.all (jh K zP)=true):jh K zP "NotSteady" = true:=List.all_eq_true.mp R _ (by decide +kernel)
theorem rw_NoPlace {K:Frag}(R:yS.all (jh K zP)=true):jh K zP "NoPlace" = true:=List.all_eq_true.mp R _ (by decide +kernel)
theorem rw_NoKind {K:Frag}(R:yS.all (jh K zP)=true):jh K zP "NoKind" = true:=List.all_eq_true.mp R _ (by decide +kernel)
theorem rw_NoMix {K:Frag}(R:yS.all (jh K zP)=true):jh K zP "NoMix" = true:=List.all_eq_true.mp R _ (by decide +kernel)
theorem rw_NoNumber {K:Frag}(R:yS.all (jh K zP)=true):jh K zP "NoNumber" = true:=List.all_eq_true.mp R _ (by decide +kernel)
theorem rw_NoLot {K:Frag}(R:yS.all (jh K zP)=true):jh K zP "NoLot" = true:=List.all_eq_true.mp R _ (by decide +kernel)
theorem rw_NoKinds {K:Frag}(R:yS.all (jh K zP)=true):jh K zP "NoKinds" = true:=List.all_eq_true.mp R _ (by decide +kernel)
theorem rw_NoPaper {K:Frag}(R:yS.all (jh K zP)=true):jh K zP "NoPaper" = true:=List.all_eq_true.mp R _ (by decide +kernel)
theorem rw_NoParting {K:Frag}(R:yS.all (jh K zP)=true):jh K zP "NoParting" = true:=List.all_eq_true.mp R _ (by decide +kernel)
theorem rw_NoClosed {K:Frag}(R:yS.all (jh K zP)=true):jh K zP "NoClosed" = true:=List.all_eq_true.mp R _ (by decide +kernel)
theorem rw_TooMany {K:Frag}(R:yS.all (jh K zP)=true):jh K zP "TooMany" = true:=List.all_eq_true.mp R _ (by decide +kernel)
theorem rw_NoText {K:Frag}(R:yS.all (jh K zP)=true):jh K zP "NoText" = true:=List.all_eq_true.mp R _ (by decide +kernel)
theorem rw_NoLine {K:Frag}(R:yS.all (jh K zP)=true):jh K zP "NoLine" = true:=List.all_eq_true.mp R _ (by decide +kernel)
theorem rw_NoDeed {K:Frag}(R:yS.all (jh K zP)=true):jh K zP "NoDeed" = true:=List.all_eq_true.mp R _ (by decide +kernel)
theorem Qe {l:List (Str × NameKind)}(h:(l.all λ y=>!(y.2==.cell))=true):∀y∈l,y.2≠.cell:=λ y hy e=>by
 have q:=List.all_eq_true.mp h y hy;rw [e] at q;cases q
theorem yE {X:Cx}{xr:XR}{e:Expr}{m:Ev}(h:zz X xr e m):SE X xr e m:=by rw [Vw] at h;exact h
noncomputable abbrev Xo:Stmt:=top 1
theorem NN:q9 ["thing"] ["thing"] (qf Xo):=⟨rfl,rfl,rfl,by decide +kernel,rfl,by decide +kernel,by decide +kernel⟩
noncomputable def Xj:Ex:=zq (qk (kq (yx .int (zc 0)) (jM (yx .bl (zc 0))))) (zA)
theorem NU {P:Program}{w:World}{K:Frag}{mg:Str->Option Value}{base:Heap}{k:Nat}(T:Bu mg){f:Addr}{fd:FuncData}(F:qO K "is_whole" "is_whole" Xo f fd)(hm:mg "is_whole" = some (.ref f)):zE P w K mg base (k+1) "is_whole" 1 (qg 1 (Xj)):=
 ye F hm NN (λ _ _ _ _ _ _ us hl=>(kJ hl).elim λ a q=>by subst q;rfl) λ cdv A outer s H E hr=>zu (qw (Qo (gR .int T.jG T.Jt (by rfl) (zj 0)) (Jl (Fv (gR .bl T.jG T.Vs (by rfl) (zj 0)))))) (zK)
noncomputable abbrev W2:Stmt:=top 2
theorem Ot:q9 ["thing", "limit"] ["thing", "limit"] (qf W2):=⟨rfl,rfl,rfl,by decide +kernel,rfl,by decide +kernel,by decide +kernel⟩
noncomputable def W7 (Zi:Fn):Ex:=zq (qk (kq (zF Zi (zh (zc 0) (zp))) (yB kM QR (zi (.int 0)) (zc 0) (zc 1)))) (zA)
theorem Ox {P:Program}{w:World}{K:Frag}{mg:Str->Option Value}{base:Heap}{k:Nat}(T:Bu mg){f:Addr}{fd:FuncData}(F:qO K "is_whole_below" "is_whole_below" W2 f fd)(hm:mg "is_whole_below" = some (.ref f)){Zi:Fn}(wd:zE P w K mg base k "is_whole" 1 Zi):zE P w K mg base (k+1) "is_whole_below" 2 (qg 2 (W7 Zi)):=
 ye F hm Ot (λ _ _ _ _ _ _ us hl=>(wW hl).elim λ a h=>h.elim λ b q=>by subst q;rfl) λ cdv A outer s H E hr=>zu (qw (Qo (qo wd hr (zl (zj 0) (zw)) (zm zx)) (Jl (RL Wr Ut (zr) (zj 0) (zj 1))))) (zK)
noncomputable abbrev Xg:Stmt:=top 3
theorem Ni:q9 ["thing", "many"] ["thing", "many"] (qf Xg):=⟨rfl,rfl,rfl,by decide +kernel,rfl,by decide +kernel,by decide +kernel⟩
noncomputable def Xd (Zi:Fn):Ex:=zq (qk (kq (yx .tup (zc 0)) (kq (zo jf (mQ qJ (qb (zc 0))) (zc 1)) (mQ Z5 (zU 1 [] (qE (zc 0)) (zJ 0) (zi (.bl true)) (zM (zF Zi (zh (zc 0) (zp))))))))) (zA)
theorem ND {P:Program}{w:World}{K:Frag}{mg:Str->Option Value}{base:Heap}{k:Nat}(T:Bu mg){f:Addr}{fd:FuncData}(F:qO K "is_wholes" "is_wholes" Xg f fd)(hm:mg "is_wholes" = some (.ref f)){Zi:Fn}(wd:zE P w K mg base k "is_whole" 1 Zi):zE P w K mg base (k+1) "is_wholes" 2 (qg 2 (Xd Zi)):=
 ye F hm Ni (λ _ _ _ _ _ _ us hl=>(wW hl).elim λ a h=>h.elim λ b q=>by subst q;rfl) λ cdv A outer s H E hr=>zu (qw (Qo (gR .tup T.jG T.wm (by rfl) (zj 0)) (Qo (gw (yF hr) (yT T.yX (jP (zj 0))) (zj 1)) (Jl (J3 rfl T.Yp (kG (ji (N:=["part"]) 1 [] rfl (cps (by kernel_rfl)) (by kernel_rfl) (yh (zj 0)) (λ _ _ _=>⟨qD 0 (by decide +kernel:(["part"]:List Str).Nodup),jg,qY (λ _ _ z=>z) (qo wd hr (zl (zj 0) (zw)) (zm zx)) rfl⟩)))))))) (zK)
noncomputable abbrev WX:Stmt:=top 4
theorem Om:q9 ["thing", "many", "limit"] ["thing", "many", "limit"] (qf WX):=⟨rfl,rfl,rfl,by decide +kernel,rfl,by decide +kernel,by decide +kernel⟩
noncomputable def WW (Kd:Fn):Ex:=zq (qk (kq (zF Kd (zh (zc 0) (zh (zc 1) (zp)))) (mQ Z5 (zU 1 [2] (qE (zc 0)) (zJ 0) (zi (.bl true)) (zM (yB kM QR (zi (.int 0)) (zc 0) (zc 1))))))) (zA)
theorem Ou {P:Program}{w:World}{K:Frag}{mg:Str->Option Value}{base:Heap}{k:Nat}(T:Bu mg){f:Addr}{fd:FuncData}(F:qO K "is_wholes_below" "is_wholes_below" WX f fd)(hm:mg "is_wholes_below" = some (.ref f)){Kd:Fn}(Qc:zE P w K mg base k "is_wholes" 2 Kd):zE P w K mg base (k+1) "is_wholes_below" 3 (qg 3 (WW Kd)):=
 ye F hm Om (λ _ _ _ _ _ _ us hl=>(Ys hl).elim λ a h=>h.elim λ b h=>h.elim λ c q=>by subst q;rfl) λ cdv A outer s H E hr=>zu (qw (Qo (qo Qc hr (zl (zj 0) (zl (zj 1) (zw))) (zm (zm zx))) (Jl (J3 rfl T.Yp (kG (ji (N:=["part", "limit"]) 1 [2] rfl (cps (by kernel_rfl)) (by kernel_rfl) (yh (zj 0)) (λ _ _ _=>⟨qD 0 (by decide +kernel:(["part", "limit"]:List Str).Nodup),jg,qY (λ _ _ z=>z) (RL Wr Ut (zr) (zj 0) (zj 1)) rfl⟩))))))) (zK)
noncomputable abbrev Xq:Stmt:=top 24
theorem U6:q9 ["thing", "many"] ["thing"] (qf Xq):=⟨rfl,rfl,rfl,by decide +kernel,rfl,by decide +kernel,by decide +kernel⟩
noncomputable def Xl (Kr:Fn)(YO:Fn)(YN:Fn):Ex:=zq (qN (wF (jM (yx .tup (zc 0))) (jM (yB kM kM (zi (.int 1)) (mQ qJ (qb (zc 0))) (zi (.int 8))))) (zq (qk (zi (.bl false))) (zA)) (zA)) (zq (zQ 1 (mQ qJ (qb (zc 0)))) (zq (qN (jM (mQ Z5 (zU 1 [1] (qE (zc 0)) (zJ 0) (zi (.bl true)) (zM (zF YO (zh (zc 0) (zh (zc 1) (zh (zc 1) (zp))))))))) (zq (qk (zi (.bl false))) (zA)) (zA)) (zq (qk (kq (zF Kr (zh (zc 0) (zp))) (zF YN (zh (zc 0) (zp))))) (zA))))
theorem NW {P:Program}{w:World}{K:Frag}{mg:Str->Option Value}{base:Heap}{k:Nat}(T:Bu mg){f:Addr}{fd:FuncData}(F:qO K "is_table" "is_table" Xq f fd)(hm:mg "is_table" = some (.ref f)){Kr:Fn}(JX:zE P w K mg base k "is_even" 1 Kr){YO:Fn}(Qa:zE P w K mg base k "is_wholes_below" 3 YO){YN:Fn}(JJ:zE P w K mg base k "leaves_no_kind_out" 1 YN):zE P w K mg base (k+1) "is_table" 1 (qg 2 (Xl Kr YO YN)):=
 ye F hm U6 (λ _ _ _ _ _ _ us hl=>(kJ hl).elim λ a q=>by subst q;rfl) λ cdv A outer s H E hr=>zu (jE (KJ (Vz (gq (wk (gR .tup T.jG T.wm (by rfl) (zj 0)))) (X8 (gq (DA Wr Wr (zr) (yT T.yX (jP (zj 0))) (Ih rfl T.O2.choose_spec)))))) (zu (qw (yr)) (zK)) (zK)) (zu (qx 1 U6.nd (yT T.yX (jP (zj 0)))) (zu (jE (gq (wk (J3 rfl T.Yp (kG (ji (N:=["row", "many"]) 1 [1] rfl (cps (by kernel_rfl)) (by kernel_rfl) (yh (zj 0)) (λ _ _ _=>⟨qD 0 (by decide +kernel:(["row", "many"]:List Str).Nodup),jg,qY (λ _ _ z=>z) (qo Qa hr (zl (zj 0) (zl (zj 1) (zl (zj 1) (zw)))) (zm (zm (zm zx)))) rfl⟩)))))) (zu (qw (yr)) (zK)) (zK)) (zu (qw (Qo (qo JX hr (zl (zj 0) (zw)) (zm zx)) (Jl (qo JJ hr (zl (zj 0) (zw)) (zm zx))))) (zK))))
noncomputable abbrev Xv:Stmt:=top 25
theorem Xt:q9 ["rows", "a", "row", "b", "kind"] ["rows"] (qf Xv):=⟨rfl,rfl,rfl,by decide +kernel,rfl,by decide +kernel,by decide +kernel⟩
noncomputable def Ks:Ex:=zq (yI (ZZ (zc 0)) (yW 1 2) (zq (yI (ZZ (zc 2)) (yW 3 4) (zq (qN (wF (zo jF (zo jf (zc 4) (zi (.int 0))) (zo jf (zc 1) (zc 3))) (zo jF (zo zB (zo zB (zc 0) (zc 3)) (zc 1)) (zc 4))) (zq (qk (zi (.bl false))) (zA)) (zA)) (zA))) (zA))) (zq (qk (zi (.bl true))) (zA))
theorem M6 {P:Program}{w:World}{K:Frag}{mg:Str->Option Value}{base:Heap}{k:Nat}(T:Bu mg){f:Addr}{fd:FuncData}(F:qO K "is_even" "is_even" Xv f fd)(hm:mg "is_even" = some (.ref f)):zE P w K mg base (k+1) "is_even" 1 (qg 5 (Ks)):=
 ye F hm Xt (λ _ _ _ _ _ _ us hl=>(kJ hl).elim λ a q=>by subst q;rfl) λ cdv A outer s H E hr=>zu (gn PassesOwn.never rfl (XN rfl T.Xc (zj 0)) (Qi 1 2 rfl Xt.nd) (zu (gn PassesOwn.never rfl (XN rfl T.Xc (zj 2)) (Qi 3 4 rfl Xt.nd) (zu (jE (KJ (Vz (j7 (wQ hr) (gw (yF hr) (zj 4) (zr)) (gw (yF hr) (zj 1) (zj 3))) (X8 (j7 (wQ hr) (qy (qy (zj 0) (zj 3)) (zj 1)) (zj 4))))) (zu (qw (yr)) (zK)) (zK)) (zK))) (zK))) (zu (qw (yr)) (zK))
noncomputable abbrev WT:Stmt:=top 26
theorem UL:q9 ["rows", "standing"] ["rows"] (qf WT):=⟨rfl,rfl,rfl,by decide +kernel,rfl,by decide +kernel,by decide +kernel⟩
noncomputable def WU:Ex:=zq (zQ 1 (qm (zU 2 [] (qE (zc 0)) (zJ 0) (zi (.bl true)) (Jv (qE (zc 0)) (zJ 1) (zi (.bl true)) (zM (zc 1)))))) (zq (qk (mQ Z5 (zU 1 [1] (qZ (mQ j9 (qb (zc 1)))) (zJ 0) (zi (.bl true)) (zM (zo Wz (zc 0) (zc 1)))))) (zA))
theorem Oi {P:Program}{w:World}{K:Frag}{mg:Str->Option Value}{base:Heap}{k:Nat}(T:Bu mg){f:Addr}{fd:FuncData}(F:qO K "leaves_no_kind_out" "leaves_no_kind_out" WT f fd)(hm:mg "leaves_no_kind_out" = some (.ref f)):zE P w K mg base (k+1) "leaves_no_kind_out" 1 (qg 2 (WU)):=
 ye F hm UL (λ _ _ _ _ _ _ us hl=>(kJ hl).elim λ a q=>by subst q;rfl) λ cdv A outer s H E hr=>zu (qx 1 UL.nd (yo (ji (N:=["row", "kind"]) 2 [] rfl (cps (by kernel_rfl)) (by kernel_rfl) (yh (zj 0)) (λ _ _ _=>⟨qD 0 (by decide +kernel:(["row", "kind"]:List Str).Nodup),jg,Hj (λ _ _ z=>z) rfl rfl (by intro _ h;cases h<;>rfl) (yh (zj 0)) (qD 1 (by decide +kernel:(["row", "kind"]:List Str).Nodup)) (jg) (qY (λ _ _ z=>z) (zj 1) rfl)⟩)))) (zu (qw (J3 rfl T.Yp (kG (ji (N:=["kind", "standing"]) 1 [1] rfl (cps (by kernel_rfl)) (by kernel_rfl) (jH rfl T.jB (Qj rfl T.ZX (jP (zj 1)))) (λ _ _ _=>⟨qD 0 (by decide +kernel:(["kind", "standing"]:List Str).Nodup),jg,qY (λ _ _ z=>z) (EC Py (zj 0) (zj 1)) rfl⟩))))) (zK))
noncomputable abbrev Ge:Stmt:=top 27
theorem Oz:q9 ["table"] ["table"] (qf Ge):=⟨rfl,rfl,rfl,by decide +kernel,rfl,by decide +kernel,by decide +kernel⟩
noncomputable def YS (Kj:Fn):Ex:=zq (qN ((λ ρ A=>((jM (zF Kj (zh (zc 0) (zp)))) ρ A).nox)) (zq (Yi "NoTable" (zh (zi (.str "this is no table")) (zp))) (zA)) (zA)) (zA)
theorem OF {P:Program}{w:World}{K:Frag}{mg:Str->Option Value}{base:Heap}{k:Nat}(T:Bu mg)(C:yL K zP "NearError"){f:Addr}{fd:FuncData}(F:qO K "require_table" "require_table" Ge f fd)(hm:mg "require_table" = some (.ref f)){Kj:Fn}(gL:zE P w K mg base k "is_table" 1 Kj):qB P w K mg base (k+1) "require_table" 1 (yK 1 (YS Kj)):=
 Jz F hm Oz (λ _ _ _ _ _ _ us hl=>(kJ hl).elim λ a q=>by subst q;rfl) λ cdv A outer s H E hr xo=>zu (jE (Vi (gq (wk (qo gL hr (zl (zj 0) (zw)) (zm zx))))) (zu (Xu xo (C.exc "NoTable" (by decide +kernel)) (zl (Ji) (zw)) (zm zx)) (zK)) (zK)) (zK)
noncomputable abbrev GD:Stmt:=top 28
theorem OY:q9 ["table"] ["table"] (qf GD):=⟨rfl,rfl,rfl,by decide +kernel,rfl,by decide +kernel,by decide +kernel⟩
noncomputable def GA:Ex:=zq (qk (zo qH (mQ j9 (zU 1 [] (qE (zc 0)) (zJ 0) (zi (.bl true)) (zM (mQ j9 (qb (zc 0)))))) (zi (.int 1)))) (zA)
theorem O0 {P:Program}{w:World}{K:Frag}{mg:Str->Option Value}{base:Heap}{k:Nat}(T:Bu mg){f:Addr}{fd:FuncData}(F:qO K "count_kinds" "count_kinds" GD f fd)(hm:mg "count_kinds" = some (.ref f)):zE P w K mg base (k+1) "count_kinds" 1 (qg 1 (GA)):=
 ye F hm OY (λ _ _ _ _ _ _ us hl=>(kJ hl).elim λ a q=>by subst q;rfl) λ cdv A outer s H E hr=>zu (qw (yg (Qj rfl T.ZX (kG (ji (N:=["row"]) 1 [] rfl (cps (by kernel_rfl)) (by kernel_rfl) (yh (zj 0)) (λ _ _ _=>⟨qD 0 (by decide +kernel:(["row"]:List Str).Nodup),jg,qY (λ _ _ z=>z) (Qj rfl T.ZX (jP (zj 0))) rfl⟩)))) (zr))) (zK)
noncomputable abbrev G0:Stmt:=top 29
theorem O5:q9 ["table"] ["table"] (qf G0):=⟨rfl,rfl,rfl,by decide +kernel,rfl,by decide +kernel,by decide +kernel⟩
noncomputable def Kb (kQ:Fn)(kP:Fn):Ex:=zq (j0 (zF kP (zh (zc 0) (zp)))) ((λ ρ A=>((zq (qk (zF kQ (zh (zc 0) (zp)))) (zA)) ρ A).nox))
theorem Nc {P:Program}{w:World}{K:Frag}{mg:Str->Option Value}{base:Heap}{k:Nat}(T:Bu mg)(C:yL K zP "NearError"){f:Addr}{fd:FuncData}(F:qO K "kinds_many" "kinds_many" G0 f fd)(hm:mg "kinds_many" = some (.ref f)){kQ:Fn}(gc:zE P w K mg base k "count_kinds" 1 kQ){kP:Fn}(JN:qB P w K mg base k "require_table" 1 kP):qB P w K mg base (k+1) "kinds_many" 1 (yK 1 (Kb kQ kP)):=
 Jz F hm O5 (λ _ _ _ _ _ _ us hl=>(kJ hl).elim λ a q=>by subst q;rfl) λ cdv A outer s H E hr xo=>zu (kA (kU xo JN hr (zl (zj 0) (zw)) (zm zx))) (X0 (zu (qw (qo gc hr (zl (zj 0) (zw)) (zm zx))) (zK)))
noncomputable abbrev Gb:Stmt:=top 30
theorem OA:q9 ["table", "place"] ["table", "place"] (qf Gb):=⟨rfl,rfl,rfl,by decide +kernel,rfl,by decide +kernel,by decide +kernel⟩
noncomputable def YT (Zc:Fn):Ex:=zq (qN ((λ ρ A=>((jM (zF Zc (zh (zc 1) (zh (mQ qJ (qb (zc 0))) (zp))))) ρ A).nox)) (zq (Yi "NoPlace" (zh (zi (.str "the table has no such place")) (zp))) (zA)) (zA)) (zA)
theorem OE {P:Program}{w:World}{K:Frag}{mg:Str->Option Value}{base:Heap}{k:Nat}(T:Bu mg)(C:yL K zP "NearError"){f:Addr}{fd:FuncData}(F:qO K "require_place" "require_place" Gb f fd)(hm:mg "require_place" = some (.ref f)){Zc:Fn}(Zd:zE P w K mg base k "is_whole_below" 2 Zc):qB P w K mg base (k+1) "require_place" 2 (yK 2 (YT Zc)):=
 Jz F hm OA (λ _ _ _ _ _ _ us hl=>(wW hl).elim λ a h=>h.elim λ b q=>by subst q;rfl) λ cdv A outer s H E hr xo=>zu (jE (Vi (gq (wk (qo Zd hr (zl (zj 1) (zl (yT T.yX (jP (zj 0))) (zw))) (zm (zm zx)))))) (zu (Xu xo (C.exc "NoPlace" (by decide +kernel)) (zl (Ji) (zw)) (zm zx)) (zK)) (zK)) (zK)
noncomputable abbrev Gn:Stmt:=top 31
theorem OG:q9 ["table", "kind"] ["table", "kind"] (qf Gn):=⟨rfl,rfl,rfl,by decide +kernel,rfl,by decide +kernel,by decide +kernel⟩
noncomputable def Y1 (kQ:Fn)(Zc:Fn):Ex:=zq (qN ((λ ρ A=>((jM (zF Zc (zh (zc 1) (zh (zF kQ (zh (zc 0) (zp))) (zp))))) ρ A).nox)) (zq (Yi "NoKind" (zh (zi (.str "the table has no such kind")) (zp))) (zA)) (zA)) (zA)
theorem ON {P:Program}{w:World}{K:Frag}{mg:Str->Option Value}{base:Heap}{k:Nat}(T:Bu mg)(C:yL K zP "NearError"){f:Addr}{fd:FuncData}(F:qO K "require_kind" "require_kind" Gn f fd)(hm:mg "require_kind" = some (.ref f)){kQ:Fn}(gc:zE P w K mg base k "count_kinds" 1 kQ){Zc:Fn}(Zd:zE P w K mg base k "is_whole_below" 2 Zc):qB P w K mg base (k+1) "require_kind" 2 (yK 2 (Y1 kQ Zc)):=
 Jz F hm OG (λ _ _ _ _ _ _ us hl=>(wW hl).elim λ a h=>h.elim λ b q=>by subst q;rfl) λ cdv A outer s H E hr xo=>zu (jE (Vi (gq (wk (qo Zd hr (zl (zj 1) (zl (qo gc hr (zl (zj 0) (zw)) (zm zx)) (zw))) (zm (zm zx)))))) (zu (Xu xo (C.exc "NoKind" (by decide +kernel)) (zl (Ji) (zw)) (zm zx)) (zK)) (zK)) (zK)
noncomputable abbrev XD:Stmt:=top 32
theorem NV:q9 ["table", "place", "kind"] ["table", "place", "kind"] (qf XD):=⟨rfl,rfl,rfl,by decide +kernel,rfl,by decide +kernel,by decide +kernel⟩
noncomputable def Q7 (YR:Fn)(gJ:Fn)(kP:Fn):Ex:=zq (j0 (zF kP (zh (zc 0) (zp)))) (zq (j0 (zF gJ (zh (zc 0) (zh (zc 1) (zp))))) (zq (j0 (zF YR (zh (zc 0) (zh (zc 2) (zp))))) ((λ ρ A=>((zq (qk (qm (zU 2 [2] (ZZ (zo zB (zc 0) (zc 1))) (yW 0 1) (zo jf (zc 1) (zc 2)) (zM (zc 0))))) (zA)) ρ A).nox))))
theorem MY {P:Program}{w:World}{K:Frag}{mg:Str->Option Value}{base:Heap}{k:Nat}(T:Bu mg)(C:yL K zP "NearError"){f:Addr}{fd:FuncData}(F:qO K "near_of" "near_of" XD f fd)(hm:mg "near_of" = some (.ref f)){YR:Fn}(OT:qB P w K mg base k "require_kind" 2 YR){gJ:Fn}(YV:qB P w K mg base k "require_place" 2 gJ){kP:Fn}(JN:qB P w K mg base k "require_table" 1 kP):qB P w K mg base (k+1) "near_of" 3 (yK 3 (Q7 YR gJ kP)):=
 Jz F hm NV (λ _ _ _ _ _ _ us hl=>(Ys hl).elim λ a h=>h.elim λ b h=>h.elim λ c q=>by subst q;rfl) λ cdv A outer s H E hr xo=>zu (kA (kU xo JN hr (zl (zj 0) (zw)) (zm zx))) (zu (kA (kU xo YV hr (zl (zj 0) (zl (zj 1) (zw))) (zm (zm zx)))) (zu (kA (kU xo OT hr (zl (zj 0) (zl (zj 2) (zw))) (zm (zm zx)))) (X0 (zu (qw (yo (ji (N:=["other", "by", "kind"]) 2 [2] rfl (cps (by kernel_rfl)) (by kernel_rfl) (XN rfl T.Xc (qy (zj 0) (zj 1))) (λ _ _ _=>⟨Qi 0 1 rfl (by decide +kernel:(["other", "by", "kind"]:List Str).Nodup),KH (j7 (yF hr) (zj 1) (zj 2)),qY (λ _ _ z=>z) (zj 0) rfl⟩)))) (zK)))))
noncomputable abbrev G8:Stmt:=top 33
theorem NC:q9 ["table", "one", "other"] ["table", "one", "other"] (qf G8):=⟨rfl,rfl,rfl,by decide +kernel,rfl,by decide +kernel,by decide +kernel⟩
noncomputable def Q3 (YX:Fn)(gJ:Fn)(kP:Fn):Ex:=zq (j0 (zF kP (zh (zc 0) (zp)))) (zq (j0 (zF gJ (zh (zc 0) (zh (zc 1) (zp))))) (zq (j0 (zF gJ (zh (zc 0) (zh (zc 2) (zp))))) ((λ ρ A=>((zq (qk (zF YX (zh (zc 0) (zh (zc 1) (zh (zc 2) (zp)))))) (zA)) ρ A).nox))))
theorem NF {P:Program}{w:World}{K:Frag}{mg:Str->Option Value}{base:Heap}{k:Nat}(T:Bu mg)(C:yL K zP "NearError"){f:Addr}{fd:FuncData}(F:qO K "shares_of" "shares_of" G8 f fd)(hm:mg "shares_of" = some (.ref f)){YX:Fn}(JO:zE P w K mg base k "count_shares" 3 YX){gJ:Fn}(YV:qB P w K mg base k "require_place" 2 gJ){kP:Fn}(JN:qB P w K mg base k "require_table" 1 kP):qB P w K mg base (k+1) "shares_of" 3 (yK 3 (Q3 YX gJ kP)):=
 Jz F hm NC (λ _ _ _ _ _ _ us hl=>(Ys hl).elim λ a h=>h.elim λ b h=>h.elim λ c q=>by subst q;rfl) λ cdv A outer s H E hr xo=>zu (kA (kU xo JN hr (zl (zj 0) (zw)) (zm zx))) (zu (kA (kU xo YV hr (zl (zj 0) (zl (zj 1) (zw))) (zm (zm zx)))) (zu (kA (kU xo YV hr (zl (zj 0) (zl (zj 2) (zw))) (zm (zm zx)))) (X0 (zu (qw (qo JO hr (zl (zj 0) (zl (zj 1) (zl (zj 2) (zw)))) (zm (zm (zm zx))))) (zK)))))
noncomputable abbrev Gi:Stmt:=top 34
theorem YW:q9 ["table", "one", "other", "many", "counts", "i", "j"] ["table", "one", "other"] (qf Gi):=⟨rfl,rfl,rfl,by decide +kernel,rfl,by decide +kernel,by decide +kernel⟩
noncomputable def Gj (kQ:Fn):Ex:=zq (zQ 3 (zF kQ (zh (zc 0) (zp)))) (zq (zQ 4 (qm (zU 1 [3] (qZ (zc 3)) (zJ 0) (zi (.bl true)) (zM (zo qP (zV (zh (zi (.int 0)) (zp))) (zc 1)))))) (zq (yI (QD (zo zB (zc 0) (zc 1)) (zo zB (zc 0) (zc 2))) (yW 5 6) (zq (QA (zo zB (zc 4) (zc 5)) (zc 6) (zi (.int 1))) (zA))) (zq (qk (mQ yP (zU 1 [] (qE (zc 4)) (zJ 0) (zi (.bl true)) (zM (mQ yP (qb (zc 0))))))) (zA))))
theorem OM {P:Program}{w:World}{K:Frag}{mg:Str->Option Value}{base:Heap}{k:Nat}(T:Bu mg){f:Addr}{fd:FuncData}(F:qO K "count_shares" "count_shares" Gi f fd)(hm:mg "count_shares" = some (.ref f)){kQ:Fn}(gc:zE P w K mg base k "count_kinds" 1 kQ):zE P w K mg base (k+1) "count_shares" 3 (qg 7 (Gj kQ)):=
 ye F hm YW (λ _ _ _ _ _ _ us hl=>(Ys hl).elim λ a h=>h.elim λ b h=>h.elim λ c q=>by subst q;rfl) λ cdv A outer s H E hr=>zu (qx 3 YW.nd (qo gc hr (zl (zj 0) (zw)) (zm zx))) (zu (Kf 4 (N:=["kind", "many"]) 1 [3] YW.nd rfl (cps (by kernel_rfl)) (by kernel_rfl) (jH rfl T.jB (zj 3)) (λ _ _ _=>⟨qD 0 (by decide +kernel:(["kind", "many"]:List Str).Nodup),jg,qY (λ _ _ z=>z) (ki (qT (zl (zr) (zw)) (zm zx)) (zj 1)) rfl⟩)) (zu (gn PassesOwn.never rfl (Ro rfl T.Pr (qy (zj 0) (zj 1)) (qy (zj 0) (zj 2))) (Qi 5 6 rfl YW.nd) (zu (Sr (qy (zj 4) (zj 5)) (zj 6) (zr)) (zK))) (zu (qw (ZM T.wm (kG (ji (N:=["row"]) 1 [] rfl (cps (by kernel_rfl)) (by kernel_rfl) (yh (zj 4)) (λ _ _ _=>⟨qD 0 (by decide +kernel:(["row"]:List Str).Nodup),jg,qY (λ _ _ z=>z) (ZM T.wm (jP (zj 0))) rfl⟩))))) (zK))))
noncomputable abbrev Gm:Stmt:=top 36
theorem OI:q9 ["_law_script", "_law_k"] ["_law_script", "_law_k"] (qf Gm):=⟨rfl,rfl,rfl,by decide +kernel,rfl,by decide +kernel,by decide +kernel⟩
noncomputable def YZ:Ex:=zq (qN (zo QR (zc 1) (mQ qJ (qb (zc 0)))) (zq (qk (zo zB (zc 0) (zc 1))) (zA)) (zA)) (zq (qk (zi (.int 0))) (zA))
theorem OW {P:Program}{w:World}{K:Frag}{mg:Str->Option Value}{base:Heap}{k:Nat}(T:Bu mg){f:Addr}{fd:FuncData}(F:qO K "_law_cell_at" "_law_cell_at" Gm f fd)(hm:mg "_law_cell_at" = some (.ref f)):zE P w K mg base (k+1) "_law_cell_at" 2 (qg 2 (YZ)):=
 ye F hm OI (λ _ _ _ _ _ _ us hl=>(wW hl).elim λ a h=>h.elim λ b q=>by subst q;rfl) λ cdv A outer s H E hr=>zu (jE (j7 Ut (zj 1) (yT T.yX (jP (zj 0)))) (zu (qw (qy (zj 0) (zj 1))) (zK)) (zK)) (zu (qw (zr)) (zK))
noncomputable abbrev GP:Stmt:=top 37
theorem UY:q9 ["_law_script", "_law_k", "_law_cell"] ["_law_script", "_law_k"] (qf GP):=⟨rfl,rfl,rfl,by decide +kernel,rfl,by decide +kernel,by decide +kernel⟩
noncomputable def Y6 (YY:Fn):Ex:=zq (zQ 2 (zF YY (zh (zc 0) (zh (zc 1) (zp))))) (zq (qN (zo UE (zc 2) (zo Z4 (zi (.int 10)) (zi (.int 18)))) (zq (qk (zV (zh (zo yG (zc 2) (zo Z4 (zi (.int 10)) (zi (.int 18)))) (zh (zi (.bl true)) (zp))))) (zA)) (zA)) (zq (qk (zV (zh (zo kH (zc 2) (zi (.int 2147483647))) (zh (zi (.bl false)) (zp))))) (zA)))
theorem Nf {P:Program}{w:World}{K:Frag}{mg:Str->Option Value}{base:Heap}{k:Nat}(T:Bu mg){f:Addr}{fd:FuncData}(F:qO K "_law_state" "_law_state" GP f fd)(hm:mg "_law_state" = some (.ref f)){YY:Fn}(QW:zE P w K mg base k "_law_cell_at" 2 YY):zE P w K mg base (k+1) "_law_state" 2 (qg 3 (Y6 YY)):=
 ye F hm UY (λ _ _ _ _ _ _ us hl=>(wW hl).elim λ a h=>h.elim λ b q=>by subst q;rfl) λ cdv A outer s H E hr=>zu (qx 2 UY.nd (qo QW hr (zl (zj 0) (zl (zj 1) (zw))) (zm (zm zx)))) (zu (jE (j7 CW (zj 2) (K1 (zr) (zr))) (zu (qw (qT (zl (gO (zj 2) (K1 (zr) (zr))) (zl (yr) (zw))) (zm (zm zx)))) (zK)) (zK)) (zu (qw (qT (zl (ZO (zj 2) (zr)) (zl (yr) (zw))) (zm (zm zx)))) (zK)))
noncomputable abbrev Xb:Stmt:=top 38
theorem Y8:q9 ["_law_state_here", "_law_many", "_law_found", "_law_stirred"] ["_law_state_here", "_law_many"] (qf Xb):=⟨rfl,rfl,rfl,by decide +kernel,rfl,by decide +kernel,by decide +kernel⟩
noncomputable def Ke:Ex:=zq (qN (zo zB (zc 0) (zi (.int 1))) (zq (zQ 2 (zo kH (zo zB (zc 0) (zi (.int 0))) (zc 1))) (zq (kW yv (zo gW (zo zB (zc 0) (zi (.int 0))) (zc 1)) (zc 0) (zi (.int 0))) (zq (qk (zc 2)) (zA)))) (zA)) (zq (kW yv (zo kH (zo qH (zo qP (zo zB (zc 0) (zi (.int 0))) (zi (.int 48271))) (zi (.int 29))) (zi (.int 2147483647))) (zc 0) (zi (.int 0))) (zq (zQ 3 (zo kH (zo qH (zo qH (zo qP (zo zB (zc 0) (zi (.int 0))) (zo zB (zc 0) (zi (.int 0)))) (zo qP (zi (.int 39373)) (zo zB (zc 0) (zi (.int 0))))) (zi (.int 7))) (zi (.int 2147483629)))) (zq (zQ 3 (zo kH (zo qH (zo qP (zc 3) (zc 3)) (zo qP (zi (.int 16807)) (zc 3))) (zi (.int 2147483587)))) (zq (qk (zo kH (zo gW (zc 3) (zi (.int 8))) (zc 1))) (zA)))))
theorem NJ {P:Program}{w:World}{K:Frag}{mg:Str->Option Value}{base:Heap}{k:Nat}(T:Bu mg){f:Addr}{fd:FuncData}(F:qO K "_law_take" "_law_take" Xb f fd)(hm:mg "_law_take" = some (.ref f)):zE P w K mg base (k+1) "_law_take" 2 (qg 4 (Ke)):=
 ye F hm Y8 (λ _ _ _ _ _ _ us hl=>(wW hl).elim λ a h=>h.elim λ b q=>by subst q;rfl) λ cdv A outer s H E hr=>zu (jE (wk (qy (zj 0) (zr))) (zu (qx 2 Y8.nd (ZO (qy (zj 0) (zr)) (zj 1))) (zu (Jg (Je (qy (zj 0) (zr)) (zj 1)) (zj 0) (zr)) (zu (qw (zj 2)) (zK)))) (zK)) (zu (Jg (ZO (yg (ki (qy (zj 0) (zr)) (zr)) (zr)) (zr)) (zj 0) (zr)) (zu (qx 3 Y8.nd (ZO (yg (yg (ki (qy (zj 0) (zr)) (qy (zj 0) (zr))) (ki (zr) (qy (zj 0) (zr)))) (zr)) (zr))) (zu (qx 3 Y8.nd (ZO (yg (ki (zj 3) (zj 3)) (ki (zr) (zj 3))) (zr))) (zu (qw (ZO (Je (zj 3) (zr)) (zj 1))) (zK)))))
noncomputable abbrev W4:Stmt:=top 39
theorem WV:q9 ["_law_state_here", "_law_things", "_law_left", "_law_found"] ["_law_state_here", "_law_things"] (qf W4):=⟨rfl,rfl,rfl,by decide +kernel,rfl,by decide +kernel,by decide +kernel⟩
noncomputable def W6 (qS:Fn):Ex:=zq (zQ 2 (qm (qb (zc 1)))) (zq (zQ 3 (zV (zp))) (zq (Vr 1000 (zo jF (zc 2) (zV (zp))) (zq (j0 (j5 yA (zc 3) (j5 gQ (zc 2) (zF qS (zh (zc 0) (zh (mQ qJ (qb (zc 2))) (zp))))))) (zA))) (zq (qk (zc 3)) (zA))))
theorem OB {P:Program}{w:World}{K:Frag}{mg:Str->Option Value}{base:Heap}{k:Nat}(T:Bu mg){f:Addr}{fd:FuncData}(F:qO K "_law_mixed_row" "_law_mixed_row" W4 f fd)(hm:mg "_law_mixed_row" = some (.ref f)){qS:Fn}(qC:zE P w K mg base k "_law_take" 2 qS):zE P w K mg base (k+1) "_law_mixed_row" 2 (qg 4 (W6 qS)):=
 ye F hm WV (λ _ _ _ _ _ _ us hl=>(wW hl).elim λ a h=>h.elim λ b q=>by subst q;rfl) λ cdv A outer s H E hr=>zu (qx 2 WV.nd (XT T.ZT (jP (zj 1)))) (zu (qx 3 WV.nd (qT (zw) (zx))) (zu (My 1000 PassesOwn.never (j7 (wQ hr) (zj 2) (qT (zw) (zx))) (zu (kA (ZL (zj 3) (M1 (zj 2) (qo qC hr (zl (zj 0) (zl (yT T.yX (jP (zj 2))) (zw))) (zm (zm zx)))))) (zK))) (zu (qw (zj 3)) (zK))))
noncomputable abbrev GY:Stmt:=top 40
theorem UX:q9 ["_law_rows", "_law_some"] ["_law_rows"] (qf GY):=⟨rfl,rfl,rfl,by decide +kernel,rfl,by decide +kernel,by decide +kernel⟩
noncomputable def GV:Ex:=zq (zQ 1 (KI (zo Zp (qm (zU 1 [] (qE (zc 0)) (zJ 0) (zi (.bl true)) (zM (qm (qb (zc 0)))))) (zV (zp))))) (zq (qk (mQ yP (zU 1 [1] (qE (zc 0)) (zJ 0) (zi (.bl true)) (zM (mQ yP (zU 1 [1] (qE (zc 0)) (zJ 0) (zi (.bl true)) (zM (j5 gT (zc 1) (zc 0))))))))) (zA))
theorem Nt {P:Program}{w:World}{K:Frag}{mg:Str->Option Value}{base:Heap}{k:Nat}(T:Bu mg){f:Addr}{fd:FuncData}(F:qO K "_law_named" "_law_named" GY f fd)(hm:mg "_law_named" = some (.ref f)):zE P w K mg base (k+1) "_law_named" 1 (qg 2 (GV)):=
 ye F hm UX (λ _ _ _ _ _ _ us hl=>(kJ hl).elim λ a q=>by subst q;rfl) λ cdv A outer s H E hr=>zu (qx 1 UX.nd (NH rfl T.Ip T.Cu (IQ rfl T.CG (yo (ji (N:=["_law_row"]) 1 [] rfl (cps (by kernel_rfl)) (by kernel_rfl) (yh (zj 0)) (λ _ _ _=>⟨qD 0 (by decide +kernel:(["_law_row"]:List Str).Nodup),jg,qY (λ _ _ z=>z) (XT T.ZT (jP (zj 0))) rfl⟩))) (qT (zw) (zx))))) (zu (qw (ZM T.wm (kG (ji (N:=["_law_row", "_law_some"]) 1 [1] rfl (cps (by kernel_rfl)) (by kernel_rfl) (yh (zj 0)) (λ _ _ _=>⟨qD 0 (by decide +kernel:(["_law_row", "_law_some"]:List Str).Nodup),jg,qY (λ _ _ z=>z) (ZM T.wm (kG (ji (N:=["_law_kind", "_law_some"]) 1 [1] rfl (cps (by kernel_rfl)) (by kernel_rfl) (yh (zj 0)) (λ _ _ _=>⟨qD 0 (by decide +kernel:(["_law_kind", "_law_some"]:List Str).Nodup),jg,qY (λ _ _ z=>z) (Mz hr (zj 1) (zj 0)) rfl⟩)))) rfl⟩))))) (zK))
noncomputable abbrev G2:Stmt:=top 41
theorem kR:q9 ["_law_state_here", "_law_way", "_law_many", "_law_wide", "_law_high", "_law_some", "_law_ring", "_law_rows", "_law_a", "_law_near", "_law_far"] ["_law_state_here"] (qf G2):=⟨rfl,rfl,rfl,by decide +kernel,rfl,by decide +kernel,by decide +kernel⟩
noncomputable def Y7 (qS:Fn):Ex:=zq (zQ 1 (zF qS (zh (zc 0) (zh (zi (.int 8)) (zp))))) (zq (zQ 2 (zo zB (zV (zh (zi (.int 8)) (zh (zi (.int 7)) (zh (zi (.int 6)) (zh (zi (.int 5)) (zh (zi (.int 4)) (zh (zi (.int 3)) (zh (zi (.int 2)) (zh (zi (.int 1)) (zp)))))))))) (zF qS (zh (zc 0) (zh (zi (.int 8)) (zp)))))) (zq (qN (zo jf (zc 1) (zi (.int 0))) (zq (qk (qm (zU 1 [2] (qZ (zc 2)) (zJ 0) (zi (.bl true)) (zM (qm (zU 1 [0,1] (qZ (zc 1)) (zJ 0) (zi (.bl true)) (zM (zo Z0 (jO Yz (zo yG (zc 1) (zc 0))) (zo yG (zc 2) (jO Yz (zo yG (zc 1) (zc 0)))))))))))) (zA)) (zA)) (zq (qN (zo jf (zc 1) (zi (.int 1))) (zq (zQ 2 (zo zB (zV (zh (zi (.int 8)) (zh (zi (.int 4)) (zh (zi (.int 2)) (zp))))) (zF qS (zh (zc 0) (zh (zi (.int 3)) (zp)))))) (zq (qk (qm (zU 1 [2] (qZ (zc 2)) (zJ 0) (zi (.bl true)) (zM (qm (zU 1 [0] (qZ (zc 1)) (zJ 0) (zi (.bl true)) (zM (zo zB (zV (zh (zi (.int 0)) (zh (zi (.int 1)) (zh (zi (.int 1)) (zh (zi (.int 2)) (zh (zi (.int 1)) (zh (zi (.int 2)) (zh (zi (.int 2)) (zh (zi (.int 3)) (zp)))))))))) (zo Ur (zc 1) (zc 0)))))))))) (zA))) (zA)) (zq (qN (zo jf (zc 1) (zi (.int 2))) (zq (qk (qm (zU 1 [2] (qZ (zc 2)) (zJ 0) (zi (.bl true)) (zM (qm (zU 1 [0] (qZ (zc 1)) (zJ 0) (zi (.bl true)) (zM (jO QI (zo jF (zc 1) (zc 0)))))))))) (zA)) (zA)) (zq (qN (zo jf (zc 1) (zi (.int 3))) (zq (QE (zo zB (zV (zh (zC (zh (zi (.int 2)) (zh (zi (.int 4)) (zp)))) (zh (zC (zh (zi (.int 4)) (zh (zi (.int 2)) (zp)))) (zh (zC (zh (zi (.int 2)) (zh (zi (.int 3)) (zp)))) (zh (zC (zh (zi (.int 3)) (zh (zi (.int 2)) (zp)))) (zh (zC (zh (zi (.int 2)) (zh (zi (.int 2)) (zp)))) (zp))))))) (zF qS (zh (zc 0) (zh (zi (.int 5)) (zp))))) (yW 3 4)) (zq (zQ 2 (zo qP (zc 3) (zc 4))) (zq (qk (qm (zU 1 [2,3] (qZ (zc 2)) (zJ 0) (zi (.bl true)) (zM (qm (zU 1 [0,2] (qZ (zc 1)) (zJ 0) (zi (.bl true)) (zM (zo qH (jO QI (zo jF (zc 1) (zc 0))) (jO QI (zo jF (zo gW (zc 1) (zc 2)) (zo gW (zc 0) (zc 2)))))))))))) (zA)))) (zA)) (zq (qN (zo jf (zc 1) (zi (.int 4))) (zq (zQ 5 (zV (zh (zC (zh (zi (.int 0)) (zh (zi (.int 1)) (zp)))) (zh (zC (zh (zi (.int 0)) (zh (zi (.int 2)) (zp)))) (zh (zC (zh (zi (.int 0)) (zh (zi (.int 3)) (zp)))) (zh (zC (zh (zi (.int 1)) (zh (zi (.int 2)) (zp)))) (zh (zC (zh (zi (.int 1)) (zh (zi (.int 3)) (zp)))) (zh (zC (zh (zi (.int 2)) (zh (zi (.int 3)) (zp)))) (zp))))))))) (zq (qk (qm (zU 1 [5] (qE (zc 5)) (zJ 0) (zi (.bl true)) (zM (qm (zU 1 [0] (qE (zc 1)) (zJ 0) (zi (.bl true)) (zM (zo yG (zi (.int 2)) (mQ qJ (zU 1 [0] (qE (zc 1)) (zJ 0) (zo Wz (zc 0) (zc 1)) (zM (zc 0)))))))))))) (zA))) (zA)) (zq (qN (zo jf (zc 1) (zi (.int 5))) (zq (zQ 2 (zo zB (zV (zh (zi (.int 4)) (zh (zi (.int 8)) (zh (zi (.int 2)) (zp))))) (zF qS (zh (zc 0) (zh (zi (.int 3)) (zp)))))) (zq (qk (qm (zU 1 [2] (qZ (zc 2)) (zJ 0) (zi (.bl true)) (zM (qm (zU 1 [0] (qZ (zc 1)) (zJ 0) (zi (.bl true)) (zM (zo Ur (zc 1) (zc 0))))))))) (zA))) (zA)) (zq (zQ 3 (zo zB (zV (zh (zi (.int 4)) (zh (zi (.int 3)) (zh (zi (.int 2)) (zp))))) (zF qS (zh (zc 0) (zh (zi (.int 3)) (zp)))))) (zq (zQ 6 (zV (zh (zi (.int 0)) (zh (zi (.int 1)) (zh (zo zB (zV (zh (zi (.int 2)) (zh (zi (.int 1)) (zp)))) (jO QI (zo jf (zc 3) (zi (.int 3))))) (zh (zi (.int 1)) (zp))))))) (zq (zQ 7 (zV (zp))) (zq (yI (qZ (zo qP (zi (.int 2)) (zc 3))) (zJ 8) (zq (zQ 9 (qm (zU 1 [3,6,8] (qZ (zo qP (zi (.int 2)) (zc 3))) (zJ 0) (zi (.bl true)) (zM (zo zB (zc 2) (zo kH (jO Yz (zo yG (zc 3) (zc 0))) (zc 1))))))) (zq (zQ 10 (qm (zU 1 [3,8] (qZ (zo qP (zi (.int 2)) (zc 3))) (zJ 0) (zi (.bl true)) (zM (jO QI (zo jF (zo gW (zc 2) (zc 1)) (zo gW (zc 0) (zc 1)))))))) (zq (qN (zo jf (zc 1) (zi (.int 6))) (zq (j0 (j5 yA (zc 7) (qm (zU 1 [9,10] (qZ (zo qP (zi (.int 2)) (zc 3))) (zJ 0) (zi (.bl true)) (zM (zo qH (zo qP (zi (.int 3)) (zo zB (zc 2) (zc 0))) (zo zB (zc 1) (zc 0)))))))) (zA)) (zq (j0 (j5 yA (zc 7) (qm (zU 1 [9,10] (qZ (zo qP (zi (.int 2)) (zc 3))) (zJ 0) (zi (.bl true)) (zM (P9 (zo jf (zo zB (zc 2) (zc 0)) (zi (.int 1))) (zi (.int 3)) (zo zB (zc 1) (zc 0)))))))) (zA))) (zA))))) (zq (qk (zc 7)) (zA)))))))))))))
theorem Nd {P:Program}{w:World}{K:Frag}{mg:Str->Option Value}{base:Heap}{k:Nat}(T:Bu mg){f:Addr}{fd:FuncData}(F:qO K "_law_plain" "_law_plain" G2 f fd)(hm:mg "_law_plain" = some (.ref f)){qS:Fn}(qC:zE P w K mg base k "_law_take" 2 qS):zE P w K mg base (k+1) "_law_plain" 1 (qg 11 (Y7 qS)):=
 ye F hm kR (λ _ _ _ _ _ _ us hl=>(kJ hl).elim λ a q=>by subst q;rfl) λ cdv A outer s H E hr=>zu (qx 1 kR.nd (qo qC hr (zl (zj 0) (zl (zr) (zw))) (zm (zm zx)))) (zu (qx 2 kR.nd (qy (qT (zl (zr) (zl (zr) (zl (zr) (zl (zr) (zl (zr) (zl (zr) (zl (zr) (zl (zr) (zw))))))))) (zm (zm (zm (zm (zm (zm (zm (zm zx))))))))) (qo qC hr (zl (zj 0) (zl (zr) (zw))) (zm (zm zx))))) (zu (jE (j7 (yF hr) (zj 1) (zr)) (zu (qw (yo (ji (N:=["_law_a", "_law_many"]) 1 [2] rfl (cps (by kernel_rfl)) (by kernel_rfl) (jH rfl T.jB (zj 2)) (λ _ _ _=>⟨qD 0 (by decide +kernel:(["_law_a", "_law_many"]:List Str).Nodup),jg,qY (λ _ _ z=>z) (yo (ji (N:=["_law_b", "_law_a", "_law_many"]) 1 [0,1] rfl (cps (by kernel_rfl)) (by kernel_rfl) (jH rfl T.jB (zj 1)) (λ _ _ _=>⟨qD 0 (by decide +kernel:(["_law_b", "_law_a", "_law_many"]:List Str).Nodup),jg,qY (λ _ _ z=>z) (XY rfl T.VU (Vk T.V4 (gO (zj 1) (zj 0))) (gO (zj 2) (Vk T.V4 (gO (zj 1) (zj 0))))) rfl⟩))) rfl⟩)))) (zK)) (zK)) (zu (jE (j7 (yF hr) (zj 1) (zr)) (zu (qx 2 kR.nd (qy (qT (zl (zr) (zl (zr) (zl (zr) (zw)))) (zm (zm (zm zx)))) (qo qC hr (zl (zj 0) (zl (zr) (zw))) (zm (zm zx))))) (zu (qw (yo (ji (N:=["_law_a", "_law_many"]) 1 [2] rfl (cps (by kernel_rfl)) (by kernel_rfl) (jH rfl T.jB (zj 2)) (λ _ _ _=>⟨qD 0 (by decide +kernel:(["_law_a", "_law_many"]:List Str).Nodup),jg,qY (λ _ _ z=>z) (yo (ji (N:=["_law_b", "_law_a"]) 1 [0] rfl (cps (by kernel_rfl)) (by kernel_rfl) (jH rfl T.jB (zj 1)) (λ _ _ _=>⟨qD 0 (by decide +kernel:(["_law_b", "_law_a"]:List Str).Nodup),jg,qY (λ _ _ z=>z) (qy (qT (zl (zr) (zl (zr) (zl (zr) (zl (zr) (zl (zr) (zl (zr) (zl (zr) (zl (zr) (zw))))))))) (zm (zm (zm (zm (zm (zm (zm (zm zx))))))))) (Rj (zj 1) (zj 0))) rfl⟩))) rfl⟩)))) (zK))) (zK)) (zu (jE (j7 (yF hr) (zj 1) (zr)) (zu (qw (yo (ji (N:=["_law_a", "_law_many"]) 1 [2] rfl (cps (by kernel_rfl)) (by kernel_rfl) (jH rfl T.jB (zj 2)) (λ _ _ _=>⟨qD 0 (by decide +kernel:(["_law_a", "_law_many"]:List Str).Nodup),jg,qY (λ _ _ z=>z) (yo (ji (N:=["_law_b", "_law_a"]) 1 [0] rfl (cps (by kernel_rfl)) (by kernel_rfl) (jH rfl T.jB (zj 1)) (λ _ _ _=>⟨qD 0 (by decide +kernel:(["_law_b", "_law_a"]:List Str).Nodup),jg,qY (λ _ _ z=>z) (JV T.Jt (gw (wQ hr) (zj 1) (zj 0))) rfl⟩))) rfl⟩)))) (zK)) (zK)) (zu (jE (j7 (yF hr) (zj 1) (zr)) (zu (Rg (qy (qT (zl (qi (zl (zr) (zl (zr) (zw))) (zm (zm zx))) (zl (qi (zl (zr) (zl (zr) (zw))) (zm (zm zx))) (zl (qi (zl (zr) (zl (zr) (zw))) (zm (zm zx))) (zl (qi (zl (zr) (zl (zr) (zw))) (zm (zm zx))) (zl (qi (zl (zr) (zl (zr) (zw))) (zm (zm zx))) (zw)))))) (zm (zm (zm (zm (zm zx)))))) (qo qC hr (zl (zj 0) (zl (zr) (zw))) (zm (zm zx)))) (Qi 3 4 rfl kR.nd)) (zu (qx 2 kR.nd (ki (zj 3) (zj 4))) (zu (qw (yo (ji (N:=["_law_a", "_law_many", "_law_wide"]) 1 [2,3] rfl (cps (by kernel_rfl)) (by kernel_rfl) (jH rfl T.jB (zj 2)) (λ _ _ _=>⟨qD 0 (by decide +kernel:(["_law_a", "_law_many", "_law_wide"]:List Str).Nodup),jg,qY (λ _ _ z=>z) (yo (ji (N:=["_law_b", "_law_a", "_law_wide"]) 1 [0,2] rfl (cps (by kernel_rfl)) (by kernel_rfl) (jH rfl T.jB (zj 1)) (λ _ _ _=>⟨qD 0 (by decide +kernel:(["_law_b", "_law_a", "_law_wide"]:List Str).Nodup),jg,qY (λ _ _ z=>z) (yg (JV T.Jt (gw (wQ hr) (zj 1) (zj 0))) (JV T.Jt (gw (wQ hr) (Je (zj 1) (zj 2)) (Je (zj 0) (zj 2))))) rfl⟩))) rfl⟩)))) (zK)))) (zK)) (zu (jE (j7 (yF hr) (zj 1) (zr)) (zu (qx 5 kR.nd (qT (zl (qi (zl (zr) (zl (zr) (zw))) (zm (zm zx))) (zl (qi (zl (zr) (zl (zr) (zw))) (zm (zm zx))) (zl (qi (zl (zr) (zl (zr) (zw))) (zm (zm zx))) (zl (qi (zl (zr) (zl (zr) (zw))) (zm (zm zx))) (zl (qi (zl (zr) (zl (zr) (zw))) (zm (zm zx))) (zl (qi (zl (zr) (zl (zr) (zw))) (zm (zm zx))) (zw))))))) (zm (zm (zm (zm (zm (zm zx)))))))) (zu (qw (yo (ji (N:=["_law_a", "_law_some"]) 1 [5] rfl (cps (by kernel_rfl)) (by kernel_rfl) (yh (zj 5)) (λ _ _ _=>⟨qD 0 (by decide +kernel:(["_law_a", "_law_some"]:List Str).Nodup),jg,qY (λ _ _ z=>z) (yo (ji (N:=["_law_b", "_law_a"]) 1 [0] rfl (cps (by kernel_rfl)) (by kernel_rfl) (yh (zj 1)) (λ _ _ _=>⟨qD 0 (by decide +kernel:(["_law_b", "_law_a"]:List Str).Nodup),jg,qY (λ _ _ z=>z) (gO (zr) (yT T.yX (kG (ji (N:=["_law_one", "_law_b"]) 1 [0] rfl (cps (by kernel_rfl)) (by kernel_rfl) (yh (zj 1)) (λ _ _ _=>⟨qD 0 (by decide +kernel:(["_law_one", "_law_b"]:List Str).Nodup),KH (E8 Py (zj 0) (zj 1)),qY (λ _ _ z=>z) (zj 0) rfl⟩))))) rfl⟩))) rfl⟩)))) (zK))) (zK)) (zu (jE (j7 (yF hr) (zj 1) (zr)) (zu (qx 2 kR.nd (qy (qT (zl (zr) (zl (zr) (zl (zr) (zw)))) (zm (zm (zm zx)))) (qo qC hr (zl (zj 0) (zl (zr) (zw))) (zm (zm zx))))) (zu (qw (yo (ji (N:=["_law_a", "_law_many"]) 1 [2] rfl (cps (by kernel_rfl)) (by kernel_rfl) (jH rfl T.jB (zj 2)) (λ _ _ _=>⟨qD 0 (by decide +kernel:(["_law_a", "_law_many"]:List Str).Nodup),jg,qY (λ _ _ z=>z) (yo (ji (N:=["_law_b", "_law_a"]) 1 [0] rfl (cps (by kernel_rfl)) (by kernel_rfl) (jH rfl T.jB (zj 1)) (λ _ _ _=>⟨qD 0 (by decide +kernel:(["_law_b", "_law_a"]:List Str).Nodup),jg,qY (λ _ _ z=>z) (Rj (zj 1) (zj 0)) rfl⟩))) rfl⟩)))) (zK))) (zK)) (zu (qx 3 kR.nd (qy (qT (zl (zr) (zl (zr) (zl (zr) (zw)))) (zm (zm (zm zx)))) (qo qC hr (zl (zj 0) (zl (zr) (zw))) (zm (zm zx))))) (zu (qx 6 kR.nd (qT (zl (zr) (zl (zr) (zl (qy (qT (zl (zr) (zl (zr) (zw))) (zm (zm zx))) (JV T.Jt (gw (yF hr) (zj 3) (zr)))) (zl (zr) (zw))))) (zm (zm (zm (zm zx)))))) (zu (qx 7 kR.nd (qT (zw) (zx))) (zu (gn PassesOwn.never rfl (jH rfl T.jB (ki (zr) (zj 3))) (qD 8 kR.nd) (zu (qx 9 kR.nd (yo (ji (N:=["_law_b", "_law_wide", "_law_ring", "_law_a"]) 1 [3,6,8] rfl (cps (by kernel_rfl)) (by kernel_rfl) (jH rfl T.jB (ki (zr) (zj 3))) (λ _ _ _=>⟨qD 0 (by decide +kernel:(["_law_b", "_law_wide", "_law_ring", "_law_a"]:List Str).Nodup),jg,qY (λ _ _ z=>z) (qy (zj 2) (ZO (Vk T.V4 (gO (zj 3) (zj 0))) (zj 1))) rfl⟩)))) (zu (qx 10 kR.nd (yo (ji (N:=["_law_b", "_law_wide", "_law_a"]) 1 [3,8] rfl (cps (by kernel_rfl)) (by kernel_rfl) (jH rfl T.jB (ki (zr) (zj 3))) (λ _ _ _=>⟨qD 0 (by decide +kernel:(["_law_b", "_law_wide", "_law_a"]:List Str).Nodup),jg,qY (λ _ _ z=>z) (JV T.Jt (gw (wQ hr) (Je (zj 2) (zj 1)) (Je (zj 0) (zj 1)))) rfl⟩)))) (zu (jE (j7 (yF hr) (zj 1) (zr)) (zu (kA (ZL (zj 7) (yo (ji (N:=["_law_b", "_law_near", "_law_far"]) 1 [9,10] rfl (cps (by kernel_rfl)) (by kernel_rfl) (jH rfl T.jB (ki (zr) (zj 3))) (λ _ _ _=>⟨qD 0 (by decide +kernel:(["_law_b", "_law_near", "_law_far"]:List Str).Nodup),jg,qY (λ _ _ z=>z) (yg (ki (zr) (qy (zj 2) (zj 0))) (qy (zj 1) (zj 0))) rfl⟩))))) (zK)) (zu (kA (ZL (zj 7) (yo (ji (N:=["_law_b", "_law_near", "_law_far"]) 1 [9,10] rfl (cps (by kernel_rfl)) (by kernel_rfl) (jH rfl T.jB (ki (zr) (zj 3))) (λ _ _ _=>⟨qD 0 (by decide +kernel:(["_law_b", "_law_near", "_law_far"]:List Str).Nodup),jg,qY (λ _ _ z=>z) (DK (j7 (yF hr) (qy (zj 2) (zj 0)) (zr)) (zr) (qy (zj 1) (zj 0))) rfl⟩))))) (zK))) (zK))))) (zu (qw (zj 7)) (zK)))))))))))))
noncomputable abbrev GR:Stmt:=top 42
theorem Y2:q9 ["_law_state_here", "_law_rows", "_law_order", "_law_kinds_here"] ["_law_state_here"] (qf GR):=⟨rfl,rfl,rfl,by decide +kernel,rfl,by decide +kernel,by decide +kernel⟩
noncomputable def GN (JM:Fn)(gK:Fn)(Y5:Fn):Ex:=zq (zQ 1 (zF gK (zh (zF Y5 (zh (zc 0) (zp))) (zp)))) (zq (zQ 2 (zF JM (zh (zc 0) (zh (J7 (mQ qJ (qb (zc 1)))) (zp))))) (zq (zQ 3 (zo qH (zV (zh (zi (.int 0)) (zp))) (zF JM (zh (zc 0) (zh (J9 (zi (.int 1)) (zo qH (zi (.int 1)) (mQ j9 (zU 1 [] (qE (zc 1)) (zJ 0) (zi (.bl true)) (zM (mQ j9 (qb (zc 0)))))))) (zp)))))) (zq (qk (mQ yP (zU 1 [1,2,3] (qE (zc 2)) (zJ 0) (zi (.bl true)) (zM (mQ yP (zU 1 [0,1,3] (qE (zc 2)) (zJ 0) (zi (.bl true)) (zM (zo zB (zc 3) (zo zB (zo zB (zc 2) (zc 1)) (zc 0)))))))))) (zA))))
theorem Nn {P:Program}{w:World}{K:Frag}{mg:Str->Option Value}{base:Heap}{k:Nat}(T:Bu mg){f:Addr}{fd:FuncData}(F:qO K "_law_known" "_law_known" GR f fd)(hm:mg "_law_known" = some (.ref f)){JM:Fn}(Ze:zE P w K mg base k "_law_mixed_row" 2 JM){gK:Fn}(wK:zE P w K mg base k "_law_named" 1 gK){Y5:Fn}(QY:zE P w K mg base k "_law_plain" 1 Y5):zE P w K mg base (k+1) "_law_known" 1 (qg 4 (GN JM gK Y5)):=
 ye F hm Y2 (λ _ _ _ _ _ _ us hl=>(kJ hl).elim λ a q=>by subst q;rfl) λ cdv A outer s H E hr=>zu (qx 1 Y2.nd (qo wK hr (zl (qo QY hr (zl (zj 0) (zw)) (zm zx)) (zw)) (zm zx))) (zu (qx 2 Y2.nd (qo Ze hr (zl (zj 0) (zl (N0 rfl T.ZT T.jB (yT T.yX (jP (zj 1)))) (zw))) (zm (zm zx)))) (zu (qx 3 Y2.nd (yg (qT (zl (zr) (zw)) (zm zx)) (qo Ze hr (zl (zj 0) (zl (N8 rfl T.ZT T.jB (zr) (yg (zr) (Qj rfl T.ZX (kG (ji (N:=["_law_row"]) 1 [] rfl (cps (by kernel_rfl)) (by kernel_rfl) (yh (zj 1)) (λ _ _ _=>⟨qD 0 (by decide +kernel:(["_law_row"]:List Str).Nodup),jg,qY (λ _ _ z=>z) (Qj rfl T.ZX (jP (zj 0))) rfl⟩)))))) (zw))) (zm (zm zx))))) (zu (qw (ZM T.wm (kG (ji (N:=["_law_a", "_law_rows", "_law_order", "_law_kinds_here"]) 1 [1,2,3] rfl (cps (by kernel_rfl)) (by kernel_rfl) (yh (zj 2)) (λ _ _ _=>⟨qD 0 (by decide +kernel:(["_law_a", "_law_rows", "_law_order", "_law_kinds_here"]:List Str).Nodup),jg,qY (λ _ _ z=>z) (ZM T.wm (kG (ji (N:=["_law_b", "_law_a", "_law_rows", "_law_kinds_here"]) 1 [0,1,3] rfl (cps (by kernel_rfl)) (by kernel_rfl) (yh (zj 2)) (λ _ _ _=>⟨qD 0 (by decide +kernel:(["_law_b", "_law_a", "_law_rows", "_law_kinds_here"]:List Str).Nodup),jg,qY (λ _ _ z=>z) (qy (zj 3) (qy (qy (zj 2) (zj 1)) (zj 0))) rfl⟩)))) rfl⟩))))) (zK))))
noncomputable abbrev GG:Stmt:=top 43
theorem Zf:q9 ["_law_state_here", "_law_way", "_law_rows", "_law_many", "_law_a", "_law_b", "_law_far"] ["_law_state_here"] (qf GG):=⟨rfl,rfl,rfl,by decide +kernel,rfl,by decide +kernel,by decide +kernel⟩
noncomputable def GS (JR:Fn)(gK:Fn)(qS:Fn):Ex:=zq (zQ 1 (zF qS (zh (zc 0) (zh (zi (.int 3)) (zp))))) (zq (qN (zo jf (zc 1) (zi (.int 0))) (zq (qk (zF JR (zh (zc 0) (zp)))) (zA)) (zA)) (zq (zQ 2 (qm (zU 1 [] (qE (zF JR (zh (zc 0) (zp)))) (zJ 0) (zi (.bl true)) (zM (qm (qb (zc 0))))))) (zq (zQ 3 (mQ qJ (qb (zc 2)))) (zq (qN (kq (zo jf (zc 1) (zi (.int 1))) (zo UD (zc 3) (zi (.int 1)))) (zq (zQ 4 (zF qS (zh (zc 0) (zh (zc 3) (zp))))) (zq (zQ 5 (zo kH (zo qH (zo qH (zc 4) (zi (.int 1))) (zF qS (zh (zc 0) (zh (zo yG (zc 3) (zi (.int 1))) (zp))))) (zc 3))) (zq (kW yv (zo qH (zi (.int 1)) (zF qS (zh (zc 0) (zh (zo yG (zc 3) (zi (.int 1))) (zp))))) (zo zB (zc 2) (zc 4)) (zc 5)) (zq (kW yv (zo zB (zo zB (zc 2) (zc 4)) (zc 5)) (zo zB (zc 2) (zc 5)) (zc 4)) (zq (qk (zF gK (zh (zc 2) (zp)))) (zA)))))) (zA)) (zq (zQ 6 (zo zB (zV (zh (zi (.int 2)) (zh (zi (.int 3)) (zh (zi (.int 1)) (zp))))) (zF qS (zh (zc 0) (zh (zi (.int 3)) (zp)))))) (zq (yI (qZ (zc 3)) (zJ 4) (zq (yI (qZ (zc 4)) (zJ 5) (zq (kW yv (zo qH (zi (.int 1)) (zF qS (zh (zc 0) (zh (zo Z0 (zc 6) (zo yG (zc 3) (zi (.int 1)))) (zp))))) (zo zB (zc 2) (zc 4)) (zc 5)) (zq (kW yv (zo zB (zo zB (zc 2) (zc 4)) (zc 5)) (zo zB (zc 2) (zc 5)) (zc 4)) (zA)))) (zA))) (zq (qk (zF gK (zh (zc 2) (zp)))) (zA))))))))
theorem Na {P:Program}{w:World}{K:Frag}{mg:Str->Option Value}{base:Heap}{k:Nat}(T:Bu mg){f:Addr}{fd:FuncData}(F:qO K "_law_table" "_law_table" GG f fd)(hm:mg "_law_table" = some (.ref f)){JR:Fn}(Zg:zE P w K mg base k "_law_known" 1 JR){gK:Fn}(wK:zE P w K mg base k "_law_named" 1 gK){qS:Fn}(qC:zE P w K mg base k "_law_take" 2 qS):zE P w K mg base (k+1) "_law_table" 1 (qg 7 (GS JR gK qS)):=
 ye F hm Zf (λ _ _ _ _ _ _ us hl=>(kJ hl).elim λ a q=>by subst q;rfl) λ cdv A outer s H E hr=>zu (qx 1 Zf.nd (qo qC hr (zl (zj 0) (zl (zr) (zw))) (zm (zm zx)))) (zu (jE (j7 (yF hr) (zj 1) (zr)) (zu (qw (qo Zg hr (zl (zj 0) (zw)) (zm zx))) (zK)) (zK)) (zu (Kf 2 (N:=["_law_row"]) 1 [] Zf.nd rfl (cps (by kernel_rfl)) (by kernel_rfl) (yh (qo Zg hr (zl (zj 0) (zw)) (zm zx))) (λ _ _ _=>⟨qD 0 (by decide +kernel:(["_law_row"]:List Str).Nodup),jg,qY (λ _ _ z=>z) (XT T.ZT (jP (zj 0))) rfl⟩)) (zu (qx 3 Zf.nd (yT T.yX (jP (zj 2)))) (zu (jE (KJ (FP (j7 (yF hr) (zj 1) (zr)) (IC (j7 Bn (zj 3) (zr))))) (zu (qx 4 Zf.nd (qo qC hr (zl (zj 0) (zl (zj 3) (zw))) (zm (zm zx)))) (zu (qx 5 Zf.nd (ZO (yg (yg (zj 4) (zr)) (qo qC hr (zl (zj 0) (zl (gO (zj 3) (zr)) (zw))) (zm (zm zx)))) (zj 3))) (zu (Jg (yg (zr) (qo qC hr (zl (zj 0) (zl (gO (zj 3) (zr)) (zw))) (zm (zm zx)))) (qy (zj 2) (zj 4)) (zj 5)) (zu (Jg (qy (qy (zj 2) (zj 4)) (zj 5)) (qy (zj 2) (zj 5)) (zj 4)) (zu (qw (qo wK hr (zl (zj 2) (zw)) (zm zx))) (zK)))))) (zK)) (zu (qx 6 Zf.nd (qy (qT (zl (zr) (zl (zr) (zl (zr) (zw)))) (zm (zm (zm zx)))) (qo qC hr (zl (zj 0) (zl (zr) (zw))) (zm (zm zx))))) (zu (gn PassesOwn.never rfl (jH rfl T.jB (zj 3)) (qD 4 Zf.nd) (zu (gn PassesOwn.never rfl (jH rfl T.jB (zj 4)) (qD 5 Zf.nd) (zu (Jg (yg (zr) (qo qC hr (zl (zj 0) (zl (XY rfl T.VU (zj 6) (gO (zj 3) (zr))) (zw))) (zm (zm zx)))) (qy (zj 2) (zj 4)) (zj 5)) (zu (Jg (qy (qy (zj 2) (zj 4)) (zj 5)) (qy (zj 2) (zj 5)) (zj 4)) (zK)))) (zK))) (zu (qw (qo wK hr (zl (zj 2) (zw)) (zm zx))) (zK))))))))
noncomputable abbrev GW:Stmt:=top 44
theorem O7:q9 ["_law_table_here"] ["_law_table_here"] (qf GW):=⟨rfl,rfl,rfl,by decide +kernel,rfl,by decide +kernel,by decide +kernel⟩
noncomputable def GK:Ex:=zq (qk (zo qH (zi (.int 1)) (mQ j9 (zU 1 [] (qE (zc 0)) (zJ 0) (zi (.bl true)) (zM (mQ j9 (qb (zc 0)))))))) (zA)
theorem NA {P:Program}{w:World}{K:Frag}{mg:Str->Option Value}{base:Heap}{k:Nat}(T:Bu mg){f:Addr}{fd:FuncData}(F:qO K "_law_kinds" "_law_kinds" GW f fd)(hm:mg "_law_kinds" = some (.ref f)):zE P w K mg base (k+1) "_law_kinds" 1 (qg 1 (GK)):=
 ye F hm O7 (λ _ _ _ _ _ _ us hl=>(kJ hl).elim λ a q=>by subst q;rfl) λ cdv A outer s H E hr=>zu (qw (yg (zr) (Qj rfl T.ZX (kG (ji (N:=["_law_row"]) 1 [] rfl (cps (by kernel_rfl)) (by kernel_rfl) (yh (zj 0)) (λ _ _ _=>⟨qD 0 (by decide +kernel:(["_law_row"]:List Str).Nodup),jg,qY (λ _ _ z=>z) (Qj rfl T.ZX (jP (zj 0))) rfl⟩)))))) (zK)
noncomputable abbrev Gu:Stmt:=top 45
theorem Y0:q9 ["_law_table_here", "_law_a", "_law_b", "_law_many", "_law_found", "_law_c"] ["_law_table_here", "_law_a", "_law_b"] (qf Gu):=⟨rfl,rfl,rfl,by decide +kernel,rfl,by decide +kernel,by decide +kernel⟩
noncomputable def Gz (kS:Fn):Ex:=zq (zQ 3 (zF kS (zh (zc 0) (zp)))) (zq (zQ 4 (qm (zU 1 [3] (qZ (zc 3)) (zJ 0) (zi (.bl true)) (zM (zo qP (zV (zh (zi (.int 0)) (zp))) (zc 1)))))) (zq (yI (qZ (mQ qJ (qb (zc 0)))) (zJ 5) (zq (QA (zo zB (zc 4) (zo zB (zo zB (zc 0) (zc 1)) (zc 5))) (zo zB (zo zB (zc 0) (zc 2)) (zc 5)) (zi (.int 1))) (zA))) (zq (qk (mQ yP (zU 1 [] (qE (zc 4)) (zJ 0) (zi (.bl true)) (zM (mQ yP (qb (zc 0))))))) (zA))))
theorem O9 {P:Program}{w:World}{K:Frag}{mg:Str->Option Value}{base:Heap}{k:Nat}(T:Bu mg){f:Addr}{fd:FuncData}(F:qO K "_law_shares" "_law_shares" Gu f fd)(hm:mg "_law_shares" = some (.ref f)){kS:Fn}(wc:zE P w K mg base k "_law_kinds" 1 kS):zE P w K mg base (k+1) "_law_shares" 3 (qg 6 (Gz kS)):=
 ye F hm Y0 (λ _ _ _ _ _ _ us hl=>(Ys hl).elim λ a h=>h.elim λ b h=>h.elim λ c q=>by subst q;rfl) λ cdv A outer s H E hr=>zu (qx 3 Y0.nd (qo wc hr (zl (zj 0) (zw)) (zm zx))) (zu (Kf 4 (N:=["_law_kind", "_law_many"]) 1 [3] Y0.nd rfl (cps (by kernel_rfl)) (by kernel_rfl) (jH rfl T.jB (zj 3)) (λ _ _ _=>⟨qD 0 (by decide +kernel:(["_law_kind", "_law_many"]:List Str).Nodup),jg,qY (λ _ _ z=>z) (ki (qT (zl (zr) (zw)) (zm zx)) (zj 1)) rfl⟩)) (zu (gn PassesOwn.never rfl (jH rfl T.jB (yT T.yX (jP (zj 0)))) (qD 5 Y0.nd) (zu (Sr (qy (zj 4) (qy (qy (zj 0) (zj 1)) (zj 5))) (qy (qy (zj 0) (zj 2)) (zj 5)) (zr)) (zK))) (zu (qw (ZM T.wm (kG (ji (N:=["_law_row"]) 1 [] rfl (cps (by kernel_rfl)) (by kernel_rfl) (yh (zj 4)) (λ _ _ _=>⟨qD 0 (by decide +kernel:(["_law_row"]:List Str).Nodup),jg,qY (λ _ _ z=>z) (ZM T.wm (jP (zj 0))) rfl⟩))))) (zK))))
noncomputable abbrev WZ:Stmt:=top 46
theorem JK:q9 ["_law_state_here", "_law_some"] ["_law_state_here"] (qf WZ):=⟨rfl,rfl,rfl,by decide +kernel,rfl,by decide +kernel,by decide +kernel⟩
noncomputable def W9 (qS:Fn):Ex:=zq (zQ 1 (zV (zh (zi .non) (zh (zi (.int 0)) (zh (zC (zp)) (zh (zC (zh (zC (zp)) (zp))) (zh (zC (zh (zC (zh (zi (.int 1)) (zp))) (zp))) (zh (zV (zh (zV (zh (zi (.int 0)) (zp))) (zp))) (zh (zC (zh (zV (zh (zi (.int 0)) (zp))) (zp))) (zh (zC (zh (zC (zh (zi (.int 0)) (zp))) (zh (zC (zh (zi (.int 0)) (zp))) (zp)))) (zh (zC (zh (zC (zh (zi (.int 0)) (zh (zi (.int 1)) (zp)))) (zh (zC (zh (zi (.int 2)) (zh (zi (.int 0)) (zp)))) (zp)))) (zh (zC (zh (zC (zh (zi (.int 0)) (zh (zi (.int 2)) (zp)))) (zh (zC (zh (zi (.int 2)) (zh (zi (.int 0)) (zp)))) (zp)))) (zh (JB) (zp)))))))))))))) (zq (zQ 1 (zo qH (zc 1) (zV (zh (zC (zh (zC (zh (zi (.int 0)) (zh (zi (.int 1)) (zp)))) (zh (zC (zh (zi (.int 1)) (zh (zi (.int 1)) (zp)))) (zp)))) (zh (zC (zh (zC (zh (zi (.bl true)) (zp))) (zp))) (zh (zC (zh (zC (zh (zi (.int 0)) (zh (zi (.bl true)) (zp)))) (zh (zC (zh (zi (.bl true)) (zh (zi (.int 0)) (zp)))) (zp)))) (zh (zC (zh (zC (zh (zi (.int 0)) (zh (jO Zr (zi (.int 1))) (zp)))) (zh (zC (zh (jO Zr (zi (.int 1))) (zh (zi (.int 0)) (zp)))) (zp)))) (zh (zC (zh (zC (zh (zi (.int 0)) (zh (zi (.int 1)) (zp)))) (zh (zC (zh (zi (.int 1)) (zh (zi (.int 0)) (zp)))) (zh (zC (zh (zi (.int 1)) (zh (zi (.int 1)) (zp)))) (zp))))) (zp))))))))) (zq (zQ 1 (zo qH (zc 1) (zV (zh (zC (zh (zC (zh (zi (.int 0)) (zh (zi (.int 1)) (zh (zi (.int 2)) (zp))))) (zh (zC (zh (zi (.int 1)) (zh (zi (.int 0)) (zh (zi (.int 2)) (zp))))) (zh (zC (zh (zi (.int 2)) (zh (zi (.int 2)) (zh (zi (.int 1)) (zp))))) (zp))))) (zh (zi (.str "0")) (zh (zC (zh (zC (zh (zi (.int 0)) (zh (zi (.int 3)) (zh (zi (.int 3)) (zp))))) (zh (zC (zh (zi (.int 3)) (zh (zi (.int 0)) (zh (zi (.int 1)) (zp))))) (zh (zC (zh (zi (.int 3)) (zh (zi (.int 1)) (zh (zi (.int 0)) (zp))))) (zp))))) (zh (zC (zh (zC (zh (zi (.int 0)) (zp))) (zh (zC (zp)) (zp)))) (zh (zC (zh (zi (.int 0)) (zp))) (zp))))))))) (zq (zQ 1 (zo qH (zc 1) (zV (zh (zC (zh (zC (zh (zi .non) (zp))) (zp))) (zh (zC (zh (zC (zh (zi (.int 0)) (zh (zi (.int 0)) (zp)))) (zh (zC (zh (zi (.int 0)) (zh (zi (.int 0)) (zp)))) (zp)))) (zp)))))) (zq (qk (zo zB (zc 1) (zF qS (zh (zc 0) (zh (zi (.int 23)) (zp)))))) (zA)))))
theorem OD {P:Program}{w:World}{K:Frag}{mg:Str->Option Value}{base:Heap}{k:Nat}(T:Bu mg){f:Addr}{fd:FuncData}(F:qO K "_law_bad_table" "_law_bad_table" WZ f fd)(hm:mg "_law_bad_table" = some (.ref f)){qS:Fn}(qC:zE P w K mg base k "_law_take" 2 qS):zE P w K mg base (k+1) "_law_bad_table" 1 (qg 2 (W9 qS)):=
 ye F hm JK (λ _ _ _ _ _ _ us hl=>(kJ hl).elim λ a q=>by subst q;rfl) λ cdv A outer s H E hr=>zu (qx 1 JK.nd (qT (zl (Jk) (zl (zr) (zl (qi (zw) (zx)) (zl (qi (zl (qi (zw) (zx)) (zw)) (zm zx)) (zl (qi (zl (qi (zl (zr) (zw)) (zm zx)) (zw)) (zm zx)) (zl (qT (zl (qT (zl (zr) (zw)) (zm zx)) (zw)) (zm zx)) (zl (qi (zl (qT (zl (zr) (zw)) (zm zx)) (zw)) (zm zx)) (zl (qi (zl (qi (zl (zr) (zw)) (zm zx)) (zl (qi (zl (zr) (zw)) (zm zx)) (zw))) (zm (zm zx))) (zl (qi (zl (qi (zl (zr) (zl (zr) (zw))) (zm (zm zx))) (zl (qi (zl (zr) (zl (zr) (zw))) (zm (zm zx))) (zw))) (zm (zm zx))) (zl (qi (zl (qi (zl (zr) (zl (zr) (zw))) (zm (zm zx))) (zl (qi (zl (zr) (zl (zr) (zw))) (zm (zm zx))) (zw))) (zm (zm zx))) (zl (Hk) (zw)))))))))))) (zm (zm (zm (zm (zm (zm (zm (zm (zm (zm (zm zx))))))))))))) (zu (qx 1 JK.nd (yg (zj 1) (qT (zl (qi (zl (qi (zl (zr) (zl (zr) (zw))) (zm (zm zx))) (zl (qi (zl (zr) (zl (zr) (zw))) (zm (zm zx))) (zw))) (zm (zm zx))) (zl (qi (zl (qi (zl (yr) (zw)) (zm zx)) (zw)) (zm zx)) (zl (qi (zl (qi (zl (zr) (zl (yr) (zw))) (zm (zm zx))) (zl (qi (zl (yr) (zl (zr) (zw))) (zm (zm zx))) (zw))) (zm (zm zx))) (zl (qi (zl (qi (zl (zr) (zl (KS (zr)) (zw))) (zm (zm zx))) (zl (qi (zl (KS (zr)) (zl (zr) (zw))) (zm (zm zx))) (zw))) (zm (zm zx))) (zl (qi (zl (qi (zl (zr) (zl (zr) (zw))) (zm (zm zx))) (zl (qi (zl (zr) (zl (zr) (zw))) (zm (zm zx))) (zl (qi (zl (zr) (zl (zr) (zw))) (zm (zm zx))) (zw)))) (zm (zm (zm zx)))) (zw)))))) (zm (zm (zm (zm (zm zx)))))))) (zu (qx 1 JK.nd (yg (zj 1) (qT (zl (qi (zl (qi (zl (zr) (zl (zr) (zl (zr) (zw)))) (zm (zm (zm zx)))) (zl (qi (zl (zr) (zl (zr) (zl (zr) (zw)))) (zm (zm (zm zx)))) (zl (qi (zl (zr) (zl (zr) (zl (zr) (zw)))) (zm (zm (zm zx)))) (zw)))) (zm (zm (zm zx)))) (zl (Ji) (zl (qi (zl (qi (zl (zr) (zl (zr) (zl (zr) (zw)))) (zm (zm (zm zx)))) (zl (qi (zl (zr) (zl (zr) (zl (zr) (zw)))) (zm (zm (zm zx)))) (zl (qi (zl (zr) (zl (zr) (zl (zr) (zw)))) (zm (zm (zm zx)))) (zw)))) (zm (zm (zm zx)))) (zl (qi (zl (qi (zl (zr) (zw)) (zm zx)) (zl (qi (zw) (zx)) (zw))) (zm (zm zx))) (zl (qi (zl (zr) (zw)) (zm zx)) (zw)))))) (zm (zm (zm (zm (zm zx)))))))) (zu (qx 1 JK.nd (yg (zj 1) (qT (zl (qi (zl (qi (zl (Jk) (zw)) (zm zx)) (zw)) (zm zx)) (zl (qi (zl (qi (zl (zr) (zl (zr) (zw))) (zm (zm zx))) (zl (qi (zl (zr) (zl (zr) (zw))) (zm (zm zx))) (zw))) (zm (zm zx))) (zw))) (zm (zm zx))))) (zu (qw (qy (zj 1) (qo qC hr (zl (zj 0) (zl (zr) (zw))) (zm (zm zx))))) (zK)))))
noncomputable abbrev Xe:Stmt:=top 47
theorem Nl:q9 ["_law_found", "_law_due"] ["_law_found", "_law_due"] (qf Xe):=⟨rfl,rfl,rfl,by decide +kernel,rfl,by decide +kernel,by decide +kernel⟩
noncomputable def ZJ (gf:Fn):Ex:=zq (qN (Wx .tup .lst (zc 1)) (zq (qN (wF (zo jF (yx .tup (zc 0)) (yx .tup (zc 1))) (zo jF (yx .lst (zc 0)) (yx .lst (zc 1)))) (zq (qk (zi (.bl false))) (zA)) (zA)) (zq (qN (zo jF (mQ qJ (qb (zc 0))) (mQ qJ (qb (zc 1)))) (zq (qk (zi (.bl false))) (zA)) (zA)) (zq (qk (mQ Z5 (zU 2 [] (QD (zc 0) (zc 1)) (yW 0 1) (zi (.bl true)) (zM (zF gf (zh (zc 0) (zh (zc 1) (zp)))))))) (zA)))) (zA)) (zq (qk (kq (zo jf (zc 0) (zc 1)) (zo jf (yx .bl (zc 0)) (yx .bl (zc 1))))) (zA))
theorem Xa {P:Program}{w:World}{K:Frag}{mg:Str->Option Value}{base:Heap}{k:Nat}(T:Bu mg){f:Addr}{fd:FuncData}(F:qO K "_law_same" "_law_same" Xe f fd)(hm:mg "_law_same" = some (.ref f)){gf:Fn}(kT:zE P w K mg base k "_law_same" 2 gf):zE P w K mg base (k+1) "_law_same" 2 (qg 2 (ZJ gf)):=
 ye F hm Nl (λ _ _ _ _ _ _ us hl=>(wW hl).elim λ a h=>h.elim λ b q=>by subst q;rfl) λ cdv A outer s H E hr=>zu (jE (wk (F2 .tup .lst T.jG T.wm T.ZT (by rfl) (by rfl) (zj 1))) (zu (jE (KJ (Vz (j7 (wQ hr) (gR .tup T.jG T.wm (by rfl) (zj 0)) (gR .tup T.jG T.wm (by rfl) (zj 1))) (X8 (j7 (wQ hr) (gR .lst T.jG T.ZT (by rfl) (zj 0)) (gR .lst T.jG T.ZT (by rfl) (zj 1)))))) (zu (qw (yr)) (zK)) (zK)) (zu (jE (j7 (wQ hr) (yT T.yX (jP (zj 0))) (yT T.yX (jP (zj 1)))) (zu (qw (yr)) (zK)) (zK)) (zu (qw (J3 rfl T.Yp (kG (ji (N:=["_law_one", "_law_other"]) 2 [] rfl (cps (by kernel_rfl)) (by kernel_rfl) (Ro rfl T.Pr (zj 0) (zj 1)) (λ _ _ _=>⟨Qi 0 1 rfl (by decide +kernel:(["_law_one", "_law_other"]:List Str).Nodup),jg,qY (λ _ _ z=>z) (qo kT hr (zl (zj 0) (zl (zj 1) (zw))) (zm (zm zx))) rfl⟩))))) (zK)))) (zK)) (zu (qw (Qo (gw (yF hr) (zj 0) (zj 1)) (Jl (gw (yF hr) (gR .bl T.jG T.Vs (by rfl) (zj 0)) (gR .bl T.jG T.Vs (by rfl) (zj 1)))))) (zK))
noncomputable abbrev Gp:Stmt:=top 48
theorem ZI:q9 ["_law_call", "_law_error", "e", "_law_marks"] ["_law_call"] (qf Gp):=⟨rfl,rfl,rfl,by decide +kernel,rfl,by decide +kernel,by decide +kernel⟩
noncomputable def Gd:Ex:=zq (zQ 3 (zV (zh (qV (jm zP "NoTable") (zc 1)) (zh (qV (jm zP "NotSteady") (zc 1)) (zh (qV (jm zP "NoPlace") (zc 1)) (zp)))))) (zq (zQ 3 (zo qH (zc 3) (zV (zh (qV (jm zP "NoKind") (zc 1)) (zh (qV (jm zP "NoMix") (zc 1)) (zh (qV (jm zP "NoNumber") (zc 1)) (zp))))))) (zq (zQ 3 (zo qH (zc 3) (zV (zh (qV (jm zP "NoLot") (zc 1)) (zh (qV (jm zP "NoKinds") (zc 1)) (zh (qV (jm zP "NoPaper") (zc 1)) (zp))))))) (zq (zQ 3 (zo qH (zc 3) (zV (zh (qV (jm zP "NoParting") (zc 1)) (zh (qV (jm zP "NoClosed") (zc 1)) (zh (qV (jm zP "TooMany") (zc 1)) (zp))))))) (zq (zQ 3 (zo qH (zc 3) (zV (zh (qV (jm zP "NoText") (zc 1)) (zh (qV (jm zP "NoLine") (zc 1)) (zh (qV (jm zP "NoDeed") (zc 1)) (zp))))))) (zq (qN (jM (qV (Uw zP) (zc 1))) (zq (qk (zi .non)) (zA)) (zA)) (zq (qk (qm (zU 1 [3] (qZ (zi (.int 15))) (zJ 0) (zo zB (zc 1) (zc 0)) (zM (zc 0))))) (zA)))))))
noncomputable def JQ (PG:jA)(lam:Nat->Fn):Ex:=zq (zQ 1 (zi .non)) (zq (YD 0 1 2 zP PG lam) Gd)
theorem OU {P:Program}{w:World}{K:Frag}{mg:Str->Option Value}{base:Heap}{k:Nat}(T:Bu mg)(C:yL K zP "NearError")(R:yS.all (jh K zP)=true){f:Addr}{fd:FuncData}(F:qO K "_law_refused" "_law_refused" Gp f fd)(hm:mg "_law_refused" = some (.ref f)){PG:jA}{lam:Nat->Fn}{kk:Nat}(hkk:kk<=k)(hL:∀k,gX P w K mg base kk (PG k) (lam k)):zE P w K mg base (k+1) "_law_refused" 1 (qg 4 (JQ PG lam)):=
 ye F hm ZI (λ _ _ _ _ _ _ us hl=>(kJ hl).elim λ a q=>by subst q;rfl) λ cdv A outer s H E hr=>zu (qx 1 ZI.nd (Jk)) (zu (FK hL (hr.mono hkk) rfl rfl C.top_at C.top_exc (by decide +kernel) C.under ZI.nd rfl rfl rfl rfl rfl rfl rfl) (zu (qx 3 ZI.nd (qT (zl (kD (C.isx (rw_NoTable R)) (kF (rw_NoTable R)) T.jG (zj 1)) (zl (kD (C.isx (rw_NotSteady R)) (kF (rw_NotSteady R)) T.jG (zj 1)) (zl (kD (C.isx (rw_NoPlace R)) (kF (rw_NoPlace R)) T.jG (zj 1)) (zw)))) (zm (zm (zm zx))))) (zu (qx 3 ZI.nd (yg (zj 3) (qT (zl (kD (C.isx (rw_NoKind R)) (kF (rw_NoKind R)) T.jG (zj 1)) (zl (kD (C.isx (rw_NoMix R)) (kF (rw_NoMix R)) T.jG (zj 1)) (zl (kD (C.isx (rw_NoNumber R)) (kF (rw_NoNumber R)) T.jG (zj 1)) (zw)))) (zm (zm (zm zx)))))) (zu (qx 3 ZI.nd (yg (zj 3) (qT (zl (kD (C.isx (rw_NoLot R)) (kF (rw_NoLot R)) T.jG (zj 1)) (zl (kD (C.isx (rw_NoKinds R)) (kF (rw_NoKinds R)) T.jG (zj 1)) (zl (kD (C.isx (rw_NoPaper R)) (kF (rw_NoPaper R)) T.jG (zj 1)) (zw)))) (zm (zm (zm zx)))))) (zu (qx 3 ZI.nd (yg (zj 3) (qT (zl (kD (C.isx (rw_NoParting R)) (kF (rw_NoParting R)) T.jG (zj 1)) (zl (kD (C.isx (rw_NoClosed R)) (kF (rw_NoClosed R)) T.jG (zj 1)) (zl (kD (C.isx (rw_TooMany R)) (kF (rw_TooMany R)) T.jG (zj 1)) (zw)))) (zm (zm (zm zx)))))) (zu (qx 3 ZI.nd (yg (zj 3) (qT (zl (kD (C.isx (rw_NoText R)) (kF (rw_NoText R)) T.jG (zj 1)) (zl (kD (C.isx (rw_NoLine R)) (kF (rw_NoLine R)) T.jG (zj 1)) (zl (kD (C.isx (rw_NoDeed R)) (kF (rw_NoDeed R)) T.jG (zj 1)) (zw)))) (zm (zm (zm zx)))))) (zu (jE (gq (wk (Iv C.isv T.jG T.Nm (by rfl) (zj 1)))) (zu (qw (Jk)) (zK)) (zK)) (zu (qw (yo (ji (N:=["_law_k", "_law_marks"]) 1 [3] rfl (cps (by kernel_rfl)) (by kernel_rfl) (jH rfl T.jB (zr)) (λ _ _ _=>⟨qD 0 (by decide +kernel:(["_law_k", "_law_marks"]:List Str).Nodup),KH (wk (qy (zj 1) (zj 0))),qY (λ _ _ z=>z) (zj 0) rfl⟩)))) (zK)))))))))
noncomputable abbrev gI:Stmt:=top 49
theorem Z9:q9 ["_law_state_here", "_law_table_here", "_law_bad", "_law_many", "_law_kinds_here", "_law_none", "_law_odd", "_law_calls"] ["_law_state_here", "_law_table_here"] (qf gI):=⟨rfl,rfl,rfl,by decide +kernel,rfl,by decide +kernel,by decide +kernel⟩
noncomputable abbrev qF:Str:=(("_law_refusals_right" : Str)++(".<locals>." : Str))++("<lambda>" : Str)
noncomputable def J6 (qe:Fn)(qd:Fn)(qc:Fn):Lm:=k9 (QC (QJ ((yc gI).getD 4 Qt)) 0) ["_law_bad"] [2] (zF qe (zh (zc 0) (zp)))
noncomputable def J2 (qe:Fn)(qd:Fn)(qc:Fn):Lm:=k9 (QC (QJ ((yc gI).getD 5 Qt)) 0) ["_law_bad", "_law_none", "_law_odd"] [2,5,6] (zF qd (zh (zc 0) (zh (zc 1) (zh (zc 2) (zp)))))
noncomputable def J4 (qe:Fn)(qd:Fn)(qc:Fn):Lm:=k9 (QC (QJ ((yc gI).getD 6 Qt)) 0) ["_law_bad", "_law_none"] [2,5] (zF qc (zh (zc 0) (zh (zc 1) (zh (zc 1) (zp)))))
noncomputable def J8 (qe:Fn)(qd:Fn)(qc:Fn):Lm:=k9 (QC (QJ ((yc gI).getD 8 Qt)) 0) ["_law_table_here", "_law_none", "_law_odd"] [1,5,6] (zF qd (zh (zc 0) (zh (zc 1) (zh (zc 2) (zp)))))
noncomputable def Yb (qe:Fn)(qd:Fn)(qc:Fn):Lm:=k9 (QC (QJ ((yc gI).getD 9 Qt)) 0) ["_law_table_here", "_law_none"] [1,5] (zF qc (zh (zc 0) (zh (zc 1) (zh (zi (.int 0)) (zp)))))
noncomputable def J5 (qe:Fn)(qd:Fn)(qc:Fn):Lm:=k9 (QC (QJ ((yc gI).getD 10 Qt)) 0) ["_law_table_here", "_law_none"] [1,5] (zF qc (zh (zc 0) (zh (zi (.int 0)) (zh (zc 1) (zp)))))
noncomputable def Jf (qe:Fn)(qd:Fn)(qc:Fn):Lm:=k9 (QC (Bs (QJ ((yc gI).getD 12 Qt))) 0) ["_law_table_here", "_law_many", "_law_odd"] [1,3,6] (zF qd (zh (zc 0) (zh (zo yG (zc 1) (zi (.int 1))) (zh (zc 2) (zp)))))
noncomputable def kE (qe:Fn)(qd:Fn)(qc:Fn):List Lm:=[J6 qe qd qc,J2 qe qd qc,J4 qe qd qc,J8 qe qd qc,Yb qe qd qc,J5 qe qd qc,Jf qe qd qc]
theorem Hh {P:Program}{w:World}{K:Frag}{mg:Str->Option Value}{k:Nat}(T:Bu mg){qe:Fn}(kx:∀base,qB P w K mg base k "kinds_many" 1 qe){qd:Fn}(yR:∀base,qB P w K mg base k "near_of" 3 qd){qc:Fn}(yQ:∀base,qB P w K mg base k "shares_of" 3 qc):kK P w K mg k qF (J6 qe qd qc):=
 ⟨⟨rfl,rfl,rfl,Qe (by kernel_rfl)⟩,λ _ _ _ _=>rfl,λ base cl a c A outer s H E hr xo=>yE (kU xo (kx base) hr (zl (zj 0) (zw)) (zm zx))⟩
theorem Iz {P:Program}{w:World}{K:Frag}{mg:Str->Option Value}{k:Nat}(T:Bu mg){qe:Fn}(kx:∀base,qB P w K mg base k "kinds_many" 1 qe){qd:Fn}(yR:∀base,qB P w K mg base k "near_of" 3 qd){qc:Fn}(yQ:∀base,qB P w K mg base k "shares_of" 3 qc):kK P w K mg k qF (J2 qe qd qc):=
 ⟨⟨rfl,rfl,rfl,Qe (by kernel_rfl)⟩,λ _ _ _ _=>rfl,λ base cl a c A outer s H E hr xo=>yE (kU xo (yR base) hr (zl (zj 0) (zl (zj 1) (zl (zj 2) (zw)))) (zm (zm (zm zx))))⟩
theorem LZ {P:Program}{w:World}{K:Frag}{mg:Str->Option Value}{k:Nat}(T:Bu mg){qe:Fn}(kx:∀base,qB P w K mg base k "kinds_many" 1 qe){qd:Fn}(yR:∀base,qB P w K mg base k "near_of" 3 qd){qc:Fn}(yQ:∀base,qB P w K mg base k "shares_of" 3 qc):kK P w K mg k qF (J4 qe qd qc):=
 ⟨⟨rfl,rfl,rfl,Qe (by kernel_rfl)⟩,λ _ _ _ _=>rfl,λ base cl a c A outer s H E hr xo=>yE (kU xo (yQ base) hr (zl (zj 0) (zl (zj 1) (zl (zj 1) (zw)))) (zm (zm (zm zx))))⟩
theorem II {P:Program}{w:World}{K:Frag}{mg:Str->Option Value}{k:Nat}(T:Bu mg){qe:Fn}(kx:∀base,qB P w K mg base k "kinds_many" 1 qe){qd:Fn}(yR:∀base,qB P w K mg base k "near_of" 3 qd){qc:Fn}(yQ:∀base,qB P w K mg base k "shares_of" 3 qc):kK P w K mg k qF (J8 qe qd qc):=
 ⟨⟨rfl,rfl,rfl,Qe (by kernel_rfl)⟩,λ _ _ _ _=>rfl,λ base cl a c A outer s H E hr xo=>yE (kU xo (yR base) hr (zl (zj 0) (zl (zj 1) (zl (zj 2) (zw)))) (zm (zm (zm zx))))⟩
theorem Ii {P:Program}{w:World}{K:Frag}{mg:Str->Option Value}{k:Nat}(T:Bu mg){qe:Fn}(kx:∀base,qB P w K mg base k "kinds_many" 1 qe){qd:Fn}(yR:∀base,qB P w K mg base k "near_of" 3 qd){qc:Fn}(yQ:∀base,qB P w K mg base k "shares_of" 3 qc):kK P w K mg k qF (Yb qe qd qc):=
 ⟨⟨rfl,rfl,rfl,Qe (by kernel_rfl)⟩,λ _ _ _ _=>rfl,λ base cl a c A outer s H E hr xo=>yE (kU xo (yQ base) hr (zl (zj 0) (zl (zj 1) (zl (zr) (zw)))) (zm (zm (zm zx))))⟩
theorem LB {P:Program}{w:World}{K:Frag}{mg:Str->Option Value}{k:Nat}(T:Bu mg){qe:Fn}(kx:∀base,qB P w K mg base k "kinds_many" 1 qe){qd:Fn}(yR:∀base,qB P w K mg base k "near_of" 3 qd){qc:Fn}(yQ:∀base,qB P w K mg base k "shares_of" 3 qc):kK P w K mg k qF (J5 qe qd qc):=
 ⟨⟨rfl,rfl,rfl,Qe (by kernel_rfl)⟩,λ _ _ _ _=>rfl,λ base cl a c A outer s H E hr xo=>yE (kU xo (yQ base) hr (zl (zj 0) (zl (zr) (zl (zj 1) (zw)))) (zm (zm (zm zx))))⟩
theorem L4 {P:Program}{w:World}{K:Frag}{mg:Str->Option Value}{k:Nat}(T:Bu mg){qe:Fn}(kx:∀base,qB P w K mg base k "kinds_many" 1 qe){qd:Fn}(yR:∀base,qB P w K mg base k "near_of" 3 qd){qc:Fn}(yQ:∀base,qB P w K mg base k "shares_of" 3 qc):kK P w K mg k qF (Jf qe qd qc):=
 ⟨⟨rfl,rfl,rfl,Qe (by kernel_rfl)⟩,λ _ _ _ _=>rfl,λ base cl a c A outer s H E hr xo=>yE (kU xo (yR base) hr (zl (zj 0) (zl (gO (zj 1) (zr)) (zl (zj 2) (zw)))) (zm (zm (zm zx))))⟩
theorem Cz {P:Program}{w:World}{K:Frag}{mg:Str->Option Value}{k:Nat}(T:Bu mg){qe:Fn}(kx:∀base,qB P w K mg base k "kinds_many" 1 qe){qd:Fn}(yR:∀base,qB P w K mg base k "near_of" 3 qd){qc:Fn}(yQ:∀base,qB P w K mg base k "shares_of" 3 qc):∀t∈kE qe qd qc,kK P w K mg k qF t:=
 all_cons (Hh T kx yR yQ) (all_cons (Iz T kx yR yQ) (all_cons (LZ T kx yR yQ) (all_cons (II T kx yR yQ) (all_cons (Ii T kx yR yQ) (all_cons (LB T kx yR yQ) (all_cons (L4 T kx yR yQ) (all_nil)))))))
noncomputable def YL (YQ:Fn)(kS:Fn)(qS:Fn)(qe:Fn)(qd:Fn)(qc:Fn)(RF:Nat->List W->Hx->R W)(Pt:Addr)(PF:jA):Ex:=zq (QE (zC (zh (zF YQ (zh (zc 0) (zp))) (zh (mQ qJ (qb (zc 1))) (zp)))) (yW 2 3)) (zq (zQ 4 (zF kS (zh (zc 1) (zp)))) (zq (zQ 5 (zo zB (zV (zh (zc 3) (zh (jO Zr (zi (.int 1))) (zh (zi (.bl true)) (zh (zi .non) (zh (zi (.str "0")) (zh (zC (zh (zi (.int 0)) (zp))) (zh (zo Z4 (zi (.int 10)) (zi (.int 29))) (zp))))))))) (zF qS (zh (zc 0) (zh (zi (.int 7)) (zp)))))) (zq (zQ 6 (zo zB (zV (zh (zc 4) (zh (jO Zr (zi (.int 1))) (zh (zi (.bl true)) (zh (zi .non) (zh (zi (.str "0")) (zh (zC (zh (zi (.int 0)) (zp))) (zh (zo Z4 (zi (.int 10)) (zi (.int 29))) (zp))))))))) (zF qS (zh (zc 0) (zh (zi (.int 7)) (zp)))))) (zq (zQ 7 (zV (zh (yZ 1 qF Pt 0 (PF 0)) (zp)))) (zq (j0 (j5 yA (zc 7) (yZ 1 qF Pt 1 (PF 1)))) (zq (j0 (j5 yA (zc 7) (yZ 1 qF Pt 2 (PF 2)))) (zq (qN (zo jF (qm (Jw 1 (qE (zc 7)) (zJ 0) 0 PF (kE qe qd qc) RF)) (zo qP (zV (zh (zV (zh (zi (.int 0)) (zp))) (zp))) (zi (.int 3)))) (zq (qk (zi (.bl false))) (zA)) (zA)) (zq (zQ 7 (zV (zh (yZ 1 qF Pt 3 (PF 3)) (zp)))) (zq (j0 (j5 yA (zc 7) (yZ 1 qF Pt 4 (PF 4)))) (zq (j0 (j5 yA (zc 7) (yZ 1 qF Pt 5 (PF 5)))) (zq (qN (zo jF (qm (Jw 1 (qE (zc 7)) (zJ 0) 0 PF (kE qe qd qc) RF)) (zo qP (zV (zh (zV (zh (zi (.int 2)) (zp))) (zp))) (zi (.int 3)))) (zq (qk (zi (.bl false))) (zA)) (zA)) (zq (qk (zo jf (Yh (kE qe qd qc) PF (Yl RF) (zh (yZ 1 qF Pt 6 (PF 6)) (zp))) (zV (zh (zi (.int 3)) (zp))))) (zA)))))))))))))
theorem Oh {P:Program}{w:World}{K:Frag}{mg:Str->Option Value}{base:Heap}{k:Nat}(T:Bu mg){f c Pt:Addr}{fd:FuncData}(F:qO K "_law_refusals_right" "_law_refusals_right" gI f fd)(hn:PySem.W.nsIn K mainGlobals "_law_refusals_right" = some (some (.ref f)))(ht:PySem.W.tabIn K "_law_refusals_right" = some (c,Pt))(hm:mg "_law_refusals_right" = some (.ref f))(hB:BMain mg base)(hC:PySem.W.CodeHd base c Pt){YQ:Fn}(ZH:zE P w K mg base k "_law_bad_table" 1 YQ){kS:Fn}(wc:zE P w K mg base k "_law_kinds" 1 kS){qS:Fn}(qC:zE P w K mg base k "_law_take" 2 qS){qe:Fn}{qd:Fn}{qc:Fn}{RF:Nat->List W->Hx->R W}{j kk:Nat}(hkk:kk<=k)(hls:∀t∈kE qe qd qc,kK P w K mg j qF t)(hR:∀base PG,(∀k,gX P w K mg base (j+1) (PG k) (jK (kE qe qd qc) k))->zE P w K mg base kk "_law_refused" 1 (wU PG RF)):zE P w K mg base (k+1) "_law_refusals_right" 2 (JA qF Pt λ PF=>qg 8 (YL YQ kS qS qe qd qc RF Pt PF)):=
 Cj (ls:=kE qe qd qc) F hn ht hm Z9 (λ _ _ _ _ _ _ us hl=>(wW hl).elim λ a h=>h.elim λ b q=>by subst q;rfl) λ A outer s H E hr=>zu (Rg (qi (zl (qo ZH hr (zl (zj 0) (zw)) (zm zx)) (zl (yT T.yX (jP (zj 1))) (zw))) (zm (zm zx))) (Qi 2 3 rfl Z9.nd)) (zu (qx 4 Z9.nd (qo wc hr (zl (zj 1) (zw)) (zm zx))) (zu (qx 5 Z9.nd (qy (qT (zl (zj 3) (zl (KS (zr)) (zl (yr) (zl (Jk) (zl (Ji) (zl (qi (zl (zr) (zw)) (zm zx)) (zl (K1 (zr) (zr)) (zw)))))))) (zm (zm (zm (zm (zm (zm (zm zx)))))))) (qo qC hr (zl (zj 0) (zl (zr) (zw))) (zm (zm zx))))) (zu (qx 6 Z9.nd (qy (qT (zl (zj 4) (zl (KS (zr)) (zl (yr) (zl (Jk) (zl (Ji) (zl (qi (zl (zr) (zw)) (zm zx)) (zl (K1 (zr) (zr)) (zw)))))))) (zm (zm (zm (zm (zm (zm (zm zx)))))))) (qo qC hr (zl (zj 0) (zl (zr) (zw))) (zm (zm zx))))) (zu (qx 7 Z9.nd (qT (zl (Qk (ls:=kE qe qd qc) (t:=J6 qe qd qc) rfl (by kernel_rfl) hB rfl hC rfl rfl) (zw)) (zm zx))) (zu (kA (ZL (zj 7) (Qk (ls:=kE qe qd qc) (t:=J2 qe qd qc) rfl (by kernel_rfl) hB rfl hC rfl rfl))) (zu (kA (ZL (zj 7) (Qk (ls:=kE qe qd qc) (t:=J4 qe qd qc) rfl (by kernel_rfl) hB rfl hC rfl rfl))) (zu (jE (j7 (wQ hr) (T6 (N:=["_law_call"]) (q:=qF) (λ _=>rfl) hls (all_cons (yb (by kernel_rfl)) (all_cons (yb (by kernel_rfl)) (all_cons (yb (by kernel_rfl)) (all_cons (yb (by kernel_rfl)) (all_cons (yb (by kernel_rfl)) (all_cons (yb (by kernel_rfl)) (all_cons (yb (by kernel_rfl)) (all_nil)))))))) hR (hr.mono hkk) rfl (cps (by kernel_rfl)) (by kernel_rfl) (yh (zj 7)) (λ _ _ _=>qD 0 (by decide +kernel:(["_law_call"]:List Str).Nodup)) rfl (Or.inl rfl) (λ _ _ _=>rfl)) (ki (qT (zl (qT (zl (zr) (zw)) (zm zx)) (zw)) (zm zx)) (zr))) (zu (qw (yr)) (zK)) (zK)) (zu (qx 7 Z9.nd (qT (zl (Qk (ls:=kE qe qd qc) (t:=J8 qe qd qc) rfl (by kernel_rfl) hB rfl hC rfl rfl) (zw)) (zm zx))) (zu (kA (ZL (zj 7) (Qk (ls:=kE qe qd qc) (t:=Yb qe qd qc) rfl (by kernel_rfl) hB rfl hC rfl rfl))) (zu (kA (ZL (zj 7) (Qk (ls:=kE qe qd qc) (t:=J5 qe qd qc) rfl (by kernel_rfl) hB rfl hC rfl rfl))) (zu (jE (j7 (wQ hr) (T6 (N:=["_law_call"]) (q:=qF) (λ _=>rfl) hls (all_cons (yb (by kernel_rfl)) (all_cons (yb (by kernel_rfl)) (all_cons (yb (by kernel_rfl)) (all_cons (yb (by kernel_rfl)) (all_cons (yb (by kernel_rfl)) (all_cons (yb (by kernel_rfl)) (all_cons (yb (by kernel_rfl)) (all_nil)))))))) hR (hr.mono hkk) rfl (cps (by kernel_rfl)) (by kernel_rfl) (yh (zj 7)) (λ _ _ _=>qD 0 (by decide +kernel:(["_law_call"]:List Str).Nodup)) rfl (Or.inl rfl) (λ _ _ _=>rfl)) (ki (qT (zl (qT (zl (zr) (zw)) (zm zx)) (zw)) (zm zx)) (zr))) (zu (qw (yr)) (zK)) (zK)) (zu (qw (gw (yF hr) (MH (q:=qF) (λ _=>rfl) hls (all_cons (yb (by kernel_rfl)) (all_cons (yb (by kernel_rfl)) (all_cons (yb (by kernel_rfl)) (all_cons (yb (by kernel_rfl)) (all_cons (yb (by kernel_rfl)) (all_cons (yb (by kernel_rfl)) (all_cons (yb (by kernel_rfl)) (all_nil)))))))) hR IA (hr.mono hkk) (zl (Qk (ls:=kE qe qd qc) (t:=Jf qe qd qc) rfl (by kernel_rfl) hB rfl hC rfl rfl) (zw)) (zm zx)) (qT (zl (zr) (zw)) (zm zx)))) (zK)))))))))))))
noncomputable abbrev Wd:Stmt:=top 50
theorem gu:q9 ["_law_script", "_law_k", "_law_state_here", "_law_table_here", "_law_kinds_here", "_law_a", "_law_kind", "_law_due", "_law_turn", "_law_found", "_law_b"] ["_law_script"] (qf Wd):=⟨rfl,rfl,rfl,by decide +kernel,rfl,by decide +kernel,by decide +kernel⟩
noncomputable def VR (kS:Fn)(YM:Fn)(gf:Fn)(Y3:Fn)(Y9:Fn)(Ka:Fn)(qS:Fn)(Y4:Fn)(Kq:Fn)(Kc:Fn):Ex:=zq (yI (qZ (zo V5 (zi (.int 1)) (zo Z0 (mQ qJ (qb (zc 0))) (zi (.int 6))))) (zJ 1) (zq (zQ 2 (zF Y9 (zh (zc 0) (zh (zc 1) (zp))))) (zq (zQ 3 (zF Ka (zh (zc 2) (zp)))) (zq (zQ 4 (zF kS (zh (zc 3) (zp)))) (zq (qN (jM (zF gf (zh (zF Y4 (zh (zc 3) (zp))) (zh (zc 4) (zp))))) (zq (qk (zi (.bl false))) (zA)) (zA)) (zq (yI (qZ (mQ qJ (qb (zc 3)))) (zJ 5) (zq (yI (qZ (zc 4)) (zJ 6) (zq (zQ 7 (qm (zU 1 [3,5,6] (qZ (mQ qJ (qb (zc 3)))) (zJ 0) (zo jf (zo zB (zo zB (zc 1) (zc 2)) (zc 0)) (zc 3)) (zM (zc 0))))) (zq (yI (qZ (zi (.int 2))) (zJ 8) (zq (zQ 9 (zF Kq (zh (zc 3) (zh (zc 5) (zh (zc 6) (zp)))))) (zq (qN (jM (zF gf (zh (zc 9) (zh (zc 7) (zp))))) (zq (qk (zi (.bl false))) (zA)) (zA)) (zq (j0 (j5 yA (zc 9) (zi (.int 0)))) (zA))))) (zA)))) (zq (zQ 10 (zF qS (zh (zc 2) (zh (mQ qJ (qb (zc 3))) (zp))))) (zq (qN (jM (zF gf (zh (zF Kc (zh (zc 3) (zh (zc 5) (zh (zc 10) (zp))))) (zh (zF Y3 (zh (zc 3) (zh (zc 5) (zh (zc 10) (zp))))) (zp))))) (zq (qk (zi (.bl false))) (zA)) (zA)) (zA))))) (zq (qN (jM (zF YM (zh (zc 2) (zh (zc 3) (zp))))) (zq (qk (zi (.bl false))) (zA)) (zA)) (zA)))))))) (zq (qk (zi (.bl true))) (zA))
theorem o_law {P:Program}{w:World}{K:Frag}{mg:Str->Option Value}{base:Heap}{k:Nat}(T:Bu mg){f:Addr}{fd:FuncData}(F:qO K "law" "law" Wd f fd){kS:Fn}(wc:zE P w K mg base k "_law_kinds" 1 kS){YM:Fn}(Of:zE P w K mg base k "_law_refusals_right" 2 YM){gf:Fn}(kT:zE P w K mg base k "_law_same" 2 gf){Y3:Fn}(QX:zE P w K mg base k "_law_shares" 3 Y3){Y9:Fn}(Q0:zE P w K mg base k "_law_state" 2 Y9){Ka:Fn}(Qb:zE P w K mg base k "_law_table" 1 Ka){qS:Fn}(qC:zE P w K mg base k "_law_take" 2 qS){Y4:Fn}(QZ:zE P w K mg base k "kinds_many" 1 Y4){Kq:Fn}(Qg:zE P w K mg base k "near_of" 3 Kq){Kc:Fn}(Q2:zE P w K mg base k "shares_of" 3 Kc):yk P w K mg base kO (k+1) f fd ["_law_script"] (gF K 1 (qg 11 (VR kS YM gf Y3 Y9 Ka qS Y4 Kq Kc))):=
 Bh F gu λ cdv A outer s H E hr=>zu (gn PassesOwn.never rfl (jH rfl T.jB (LX rfl T.ZX (zr) (XY rfl T.VU (yT T.yX (jP (zj 0))) (zr)))) (qD 1 gu.nd) (zu (qx 2 gu.nd (qo Q0 hr (zl (zj 0) (zl (zj 1) (zw))) (zm (zm zx)))) (zu (qx 3 gu.nd (qo Qb hr (zl (zj 2) (zw)) (zm zx))) (zu (qx 4 gu.nd (qo wc hr (zl (zj 3) (zw)) (zm zx))) (zu (jE (gq (wk (qo kT hr (zl (qo QZ hr (zl (zj 3) (zw)) (zm zx)) (zl (zj 4) (zw))) (zm (zm zx))))) (zu (qw (yr)) (zK)) (zK)) (zu (gn PassesOwn.never rfl (jH rfl T.jB (yT T.yX (jP (zj 3)))) (qD 5 gu.nd) (zu (gn PassesOwn.never rfl (jH rfl T.jB (zj 4)) (qD 6 gu.nd) (zu (Kf 7 (N:=["_law_b", "_law_table_here", "_law_a", "_law_kind"]) 1 [3,5,6] gu.nd rfl (cps (by kernel_rfl)) (by kernel_rfl) (jH rfl T.jB (yT T.yX (jP (zj 3)))) (λ _ _ _=>⟨qD 0 (by decide +kernel:(["_law_b", "_law_table_here", "_law_a", "_law_kind"]:List Str).Nodup),KH (j7 (yF hr) (qy (qy (zj 1) (zj 2)) (zj 0)) (zj 3)),qY (λ _ _ z=>z) (zj 0) rfl⟩)) (zu (gn PassesOwn.never rfl (jH rfl T.jB (zr)) (qD 8 gu.nd) (zu (qx 9 gu.nd (qo Qg hr (zl (zj 3) (zl (zj 5) (zl (zj 6) (zw)))) (zm (zm (zm zx))))) (zu (jE (gq (wk (qo kT hr (zl (zj 9) (zl (zj 7) (zw))) (zm (zm zx))))) (zu (qw (yr)) (zK)) (zK)) (zu (kA (ZL (zj 9) (zr))) (zK))))) (zK)))) (zu (qx 10 gu.nd (qo qC hr (zl (zj 2) (zl (yT T.yX (jP (zj 3))) (zw))) (zm (zm zx)))) (zu (jE (gq (wk (qo kT hr (zl (qo Q2 hr (zl (zj 3) (zl (zj 5) (zl (zj 10) (zw)))) (zm (zm (zm zx)))) (zl (qo QX hr (zl (zj 3) (zl (zj 5) (zl (zj 10) (zw)))) (zm (zm (zm zx)))) (zw))) (zm (zm zx))))) (zu (qw (yr)) (zK)) (zK)) (zK))))) (zu (jE (gq (wk (qo Of hr (zl (zj 2) (zl (zj 3) (zw))) (zm (zm zx))))) (zu (qw (yr)) (zK)) (zK)) (zK)))))))) (zu (qw (yr)) (zK))
noncomputable def Xp:Fn:=qg 1 (Xj)
noncomputable def wd:Fn :=  Xp
noncomputable def TQ:Fn:=qg 5 (Ks)
noncomputable def JX:Fn:=iso TQ
noncomputable def UM:Fn:=qg 2 (WU)
noncomputable def JJ:Fn:=iso UM
noncomputable def O8:Fn:=qg 1 (GA)
noncomputable def gc:Fn:=iso O8
noncomputable def OL:Fn:=qg 2 (YZ)
noncomputable def QW:Fn :=  OL
noncomputable def Kg:Fn:=qg 4 (Ke)
noncomputable def qC:Fn:=wY Kg
noncomputable def U4:Fn:=qg 2 (GV)
noncomputable def wK:Fn :=  U4
noncomputable def Ny:Fn:=qg 1 (GK)
noncomputable def wc:Fn:=iso Ny
noncomputable def UR:Fn:=qg 2 (W7 wd)
noncomputable def Zd:Fn :=  UR
noncomputable def U7:Fn:=qg 2 (Xd wd)
noncomputable def Qc:Fn :=  U7
noncomputable def OP:Fn:=qg 7 (Gj gc)
noncomputable def JO:Fn:=iso OP
noncomputable def Nw:Fn:=qg 3 (Y6 QW)
noncomputable def Q0:Fn :=  Nw
noncomputable def UT:Fn:=qg 4 (W6 qC)
noncomputable def Ze:Fn :=  UT
noncomputable def U0:Fn:=qg 11 (Y7 qC)
noncomputable def QY:Fn :=  U0
noncomputable def O1:Fn:=qg 6 (Gz wc)
noncomputable def QX:Fn:=iso O1
noncomputable def UP:Fn:=qg 2 (W9 qC)
noncomputable def ZH:Fn :=  UP
noncomputable def UO:Fn:=qg 3 (WW Qc)
noncomputable def Qa:Fn :=  UO
noncomputable def JL:Fn:=yK 2 (YT Zd)
noncomputable def YU:Fn:=yK 2 (Y1 gc Zd)
noncomputable def GH:Fn:=qg 4 (GN Ze wK QY)
noncomputable def Zg:Fn:=wY GH
noncomputable def Np:Fn:=qg 2 (ZJ (λ _ _=>.bad))
noncomputable def U3:Fn :=  Np
noncomputable def Nh:Fn:=qg 2 (ZJ U3)
noncomputable def G6:Fn :=  Nh
noncomputable def NG:Fn:=qg 2 (ZJ G6)
noncomputable def kT:Fn :=  NG
noncomputable def Tc:Fn:=qg 2 (Xl JX Qa JJ)
noncomputable def gL:Fn :=  Tc
noncomputable def GL:Fn:=qg 7 (GS Zg wK qC)
noncomputable def Qb:Fn:=wY GL
noncomputable def QV:Fn:=yK 1 (YS gL)
noncomputable def kv:Fn:=yK 1 (Kb gc QV)
noncomputable def QZ:Fn:=iso (λ ws A=>(kv ws A).nox)
noncomputable def yz:Fn:=yK 3 (Q7 YU JL QV)
noncomputable def Qg:Fn:=iso (λ ws A=>(yz ws A).nox)
noncomputable def yy:Fn:=yK 3 (Q3 JO JL QV)
noncomputable def Q2:Fn:=iso (λ ws A=>(yy ws A).nox)
structure Tx (K:Frag):Prop where
 Xn:FD K "is_whole" Xo
 Xy:FD K "is_even" Xv
 WS:FD K "leaves_no_kind_out" WT
 GB:FD K "count_kinds" GD
 Gq:FD K "_law_cell_at" Gm
 G9:FD K "_law_take" Xb
 GQ:FD K "_law_named" GY
 G4:FD K "_law_kinds" GW
 W0:FD K "is_whole_below" W2
 Xi:FD K "is_wholes" Xg
 Gs:FD K "count_shares" Gi
 G3:FD K "_law_state" GP
 W5:FD K "_law_mixed_row" W4
 GI:FD K "_law_plain" G2
 Gy:FD K "_law_shares" Gu
 W3:FD K "_law_bad_table" WZ
 WY:FD K "is_wholes_below" WX
 Gf:FD K "require_place" Gb
 Gh:FD K "require_kind" Gn
 GU:FD K "_law_known" GR
 JS:FD K "_law_same" Xe
 Xr:FD K "is_table" Xq
 GJ:FD K "_law_table" GG
 Ga:FD K "require_table" Ge
 GZ:FD K "kinds_many" G0
 Xw:FD K "near_of" XD
 G7:FD K "shares_of" G8
 Gr:FD K "_law_refused" Gp
 WR:FD K "_law_refusals_right" gI
 Ua:FD K "law" Wd
 G1:PySem.W.nsIn K mainGlobals "ValueError" = some none
 V7:PySem.W.nsIn K mainGlobals "abs" = some none
 VG:PySem.W.nsIn K mainGlobals "all" = some none
 VD:PySem.W.nsIn K mainGlobals "bool" = some none
 Xf:PySem.W.nsIn K mainGlobals "enumerate" = some none
 V6:PySem.W.nsIn K mainGlobals "int" = some none
 G5:PySem.W.nsIn K mainGlobals "isinstance" = some none
 V0:PySem.W.nsIn K mainGlobals "len" = some none
 Vt:PySem.W.nsIn K mainGlobals "list" = some none
 VO:PySem.W.nsIn K mainGlobals "max" = some none
 VX:PySem.W.nsIn K mainGlobals "min" = some none
 Vo:PySem.W.nsIn K mainGlobals "range" = some none
 V9:PySem.W.nsIn K mainGlobals "set" = some none
 XO:PySem.W.nsIn K mainGlobals "sorted" = some none
 VJ:PySem.W.nsIn K mainGlobals "sum" = some none
 Vl:PySem.W.nsIn K mainGlobals "tuple" = some none
 VZ:PySem.W.nsIn K mainGlobals "zip" = some none
 Gw:CD K "MOST_PLACES" 8
 V3:zP.all (K7 K "NearError" ·)=true
 VQ:VC K "NearError" = true
 VY:yS.all (jh K zP)=true
section
variable {P:Program}{w:World}{K:Frag}{mg:Str->Option Value}{base h:Heap}
theorem bu (X:K.In h)(G:h.Ns mainGlobals mg)(T:Tx K):Bu mg:=⟨PySem.W.mg_none_of X G T.G1,PySem.W.mg_none_of X G T.V7,PySem.W.mg_none_of X G T.VG,PySem.W.mg_none_of X G T.VD,PySem.W.mg_none_of X G T.Xf,PySem.W.mg_none_of X G T.V6,PySem.W.mg_none_of X G T.G5,PySem.W.mg_none_of X G T.V0,PySem.W.mg_none_of X G T.Vt,PySem.W.mg_none_of X G T.VO,PySem.W.mg_none_of X G T.VX,PySem.W.mg_none_of X G T.Vo,PySem.W.mg_none_of X G T.V9,PySem.W.mg_none_of X G T.XO,PySem.W.mg_none_of X G T.VJ,PySem.W.mg_none_of X G T.Vl,PySem.W.mg_none_of X G T.VZ,(let ⟨t,e⟩:=T.Gw;⟨t,PySem.W.mg_of X G e⟩)⟩
theorem cl (T:Tx K):yL K zP "NearError" := Er T.V3 T.VQ
theorem Tp (X:K.In h)(G:h.Ns mainGlobals mg)(T:Tx K):zE P w K mg base 1 "is_whole" 1 wd:=by
 obtain ⟨f,fd,F,a⟩:=T.Xn;exact (NU (k:=0) (bu X G T) F (PySem.W.mg_of X G a))
theorem Mw (X:K.In h)(G:h.Ns mainGlobals mg)(T:Tx K):zE P w K mg base 1 "is_even" 1 JX:=by
 obtain ⟨f,fd,F,a⟩:=T.Xy;exact (M6 (k:=0) (bu X G T) F (PySem.W.mg_of X G a)).iso
theorem Ol (X:K.In h)(G:h.Ns mainGlobals mg)(T:Tx K):zE P w K mg base 1 "leaves_no_kind_out" 1 JJ:=by
 obtain ⟨f,fd,F,a⟩:=T.WS;exact (Oi (k:=0) (bu X G T) F (PySem.W.mg_of X G a)).iso
theorem Gv (X:K.In h)(G:h.Ns mainGlobals mg)(T:Tx K):zE P w K mg base 1 "count_kinds" 1 gc:=by
 obtain ⟨f,fd,F,a⟩:=T.GB;exact (O0 (k:=0) (bu X G T) F (PySem.W.mg_of X G a)).iso
theorem OO (X:K.In h)(G:h.Ns mainGlobals mg)(T:Tx K):zE P w K mg base 1 "_law_cell_at" 2 QW:=by
 obtain ⟨f,fd,F,a⟩:=T.Gq;exact (OW (k:=0) (bu X G T) F (PySem.W.mg_of X G a))
theorem Q4 (X:K.In h)(G:h.Ns mainGlobals mg)(T:Tx K):zE P w K mg base 1 "_law_take" 2 qC:=by
 obtain ⟨f,fd,F,a⟩:=T.G9;exact (NJ (k:=0) (bu X G T) F (PySem.W.mg_of X G a)).wY
theorem U1 (X:K.In h)(G:h.Ns mainGlobals mg)(T:Tx K):zE P w K mg base 1 "_law_named" 1 wK:=by
 obtain ⟨f,fd,F,a⟩:=T.GQ;exact (Nt (k:=0) (bu X G T) F (PySem.W.mg_of X G a))
theorem GO (X:K.In h)(G:h.Ns mainGlobals mg)(T:Tx K):zE P w K mg base 1 "_law_kinds" 1 wc:=by
 obtain ⟨f,fd,F,a⟩:=T.G4;exact (NA (k:=0) (bu X G T) F (PySem.W.mg_of X G a)).iso
theorem UQ (X:K.In h)(G:h.Ns mainGlobals mg)(T:Tx K):zE P w K mg base 2 "is_whole_below" 2 Zd:=by
 obtain ⟨f,fd,F,a⟩:=T.W0;exact (Ox (k:=1) (bu X G T) F (PySem.W.mg_of X G a) ((Tp X G T).mono (by decide)))
theorem NK (X:K.In h)(G:h.Ns mainGlobals mg)(T:Tx K):zE P w K mg base 2 "is_wholes" 2 Qc:=by
 obtain ⟨f,fd,F,a⟩:=T.Xi;exact (ND (k:=1) (bu X G T) F (PySem.W.mg_of X G a) ((Tp X G T).mono (by decide)))
theorem OV (X:K.In h)(G:h.Ns mainGlobals mg)(T:Tx K):zE P w K mg base 2 "count_shares" 3 JO:=by
 obtain ⟨f,fd,F,a⟩:=T.Gs;exact (OM (k:=1) (bu X G T) F (PySem.W.mg_of X G a) ((Gv X G T).mono (by decide))).iso
theorem Nk (X:K.In h)(G:h.Ns mainGlobals mg)(T:Tx K):zE P w K mg base 2 "_law_state" 2 Q0:=by
 obtain ⟨f,fd,F,a⟩:=T.G3;exact (Nf (k:=1) (bu X G T) F (PySem.W.mg_of X G a) ((OO X G T).mono (by decide)))
theorem OC (X:K.In h)(G:h.Ns mainGlobals mg)(T:Tx K):zE P w K mg base 2 "_law_mixed_row" 2 Ze:=by
 obtain ⟨f,fd,F,a⟩:=T.W5;exact (OB (k:=1) (bu X G T) F (PySem.W.mg_of X G a) ((Q4 X G T).mono (by decide)))
theorem Nz (X:K.In h)(G:h.Ns mainGlobals mg)(T:Tx K):zE P w K mg base 2 "_law_plain" 1 QY:=by
 obtain ⟨f,fd,F,a⟩:=T.GI;exact (Nd (k:=1) (bu X G T) F (PySem.W.mg_of X G a) ((Q4 X G T).mono (by decide)))
theorem O4 (X:K.In h)(G:h.Ns mainGlobals mg)(T:Tx K):zE P w K mg base 2 "_law_shares" 3 QX:=by
 obtain ⟨f,fd,F,a⟩:=T.Gy;exact (O9 (k:=1) (bu X G T) F (PySem.W.mg_of X G a) ((GO X G T).mono (by decide))).iso
theorem Oy (X:K.In h)(G:h.Ns mainGlobals mg)(T:Tx K):zE P w K mg base 2 "_law_bad_table" 1 ZH:=by
 obtain ⟨f,fd,F,a⟩:=T.W3;exact (OD (k:=1) (bu X G T) F (PySem.W.mg_of X G a) ((Q4 X G T).mono (by decide)))
theorem Oq (X:K.In h)(G:h.Ns mainGlobals mg)(T:Tx K):zE P w K mg base 3 "is_wholes_below" 3 Qa:=by
 obtain ⟨f,fd,F,a⟩:=T.WY;exact (Ou (k:=2) (bu X G T) F (PySem.W.mg_of X G a) ((NK X G T).mono (by decide)))
theorem US (X:K.In h)(G:h.Ns mainGlobals mg)(T:Tx K):qB P w K mg base 3 "require_place" 2 JL:=by
 obtain ⟨f,fd,F,a⟩:=T.Gf;exact OE (k:=2) (bu X G T) (cl T) F (PySem.W.mg_of X G a) ((UQ X G T).mono (by decide))
theorem OH (X:K.In h)(G:h.Ns mainGlobals mg)(T:Tx K):qB P w K mg base 3 "require_kind" 2 YU:=by
 obtain ⟨f,fd,F,a⟩:=T.Gh;exact ON (k:=2) (bu X G T) (cl T) F (PySem.W.mg_of X G a) ((Gv X G T).mono (by decide)) ((UQ X G T).mono (by decide))
theorem Nj (X:K.In h)(G:h.Ns mainGlobals mg)(T:Tx K):zE P w K mg base 3 "_law_known" 1 Zg:=by
 obtain ⟨f,fd,F,a⟩:=T.GU;exact (Nn (k:=2) (bu X G T) F (PySem.W.mg_of X G a) ((OC X G T).mono (by decide)) ((U1 X G T).mono (by decide)) ((Nz X G T).mono (by decide))).wY
theorem Nu (X:K.In h)(G:h.Ns mainGlobals mg)(T:Tx K):zE P w K mg base 1 "_law_same" 2 U3:=by
 obtain ⟨f,fd,F,a⟩:=T.JS;exact (Xa (k:=0) (bu X G T) F (PySem.W.mg_of X G a) (Cc (ps:=["_law_found", "_law_due"]) F (PySem.W.mg_of X G a) (λ _ _ _ _ _ _ us hl=>(wW hl).elim λ a h=>h.elim λ b q=>by subst q;rfl)))
theorem Nx (X:K.In h)(G:h.Ns mainGlobals mg)(T:Tx K):zE P w K mg base 2 "_law_same" 2 G6:=by
 obtain ⟨f,fd,F,a⟩:=T.JS;exact (Xa (k:=1) (bu X G T) F (PySem.W.mg_of X G a) (Nu X G T))
theorem NO (X:K.In h)(G:h.Ns mainGlobals mg)(T:Tx K):zE P w K mg base 3 "_law_same" 2 kT:=by
 obtain ⟨f,fd,F,a⟩:=T.JS;exact (Xa (k:=2) (bu X G T) F (PySem.W.mg_of X G a) (Nx X G T))
theorem Mb (X:K.In h)(G:h.Ns mainGlobals mg)(T:Tx K):zE P w K mg base 4 "is_table" 1 gL:=by
 obtain ⟨f,fd,F,a⟩:=T.Xr;exact (NW (k:=3) (bu X G T) F (PySem.W.mg_of X G a) ((Mw X G T).mono (by decide)) ((Oq X G T).mono (by decide)) ((Ol X G T).mono (by decide)))
theorem Nr (X:K.In h)(G:h.Ns mainGlobals mg)(T:Tx K):zE P w K mg base 4 "_law_table" 1 Qb:=by
 obtain ⟨f,fd,F,a⟩:=T.GJ;exact (Na (k:=3) (bu X G T) F (PySem.W.mg_of X G a) ((Nj X G T).mono (by decide)) ((U1 X G T).mono (by decide)) ((Q4 X G T).mono (by decide))).wY
theorem W8 (X:K.In h)(G:h.Ns mainGlobals mg)(T:Tx K):qB P w K mg base 5 "require_table" 1 QV:=by
 obtain ⟨f,fd,F,a⟩:=T.Ga;exact OF (k:=4) (bu X G T) (cl T) F (PySem.W.mg_of X G a) ((Mb X G T).mono (by decide))
theorem UW (X:K.In h)(G:h.Ns mainGlobals mg)(T:Tx K):qB P w K mg base 6 "kinds_many" 1 kv:=by
 obtain ⟨f,fd,F,a⟩:=T.GZ;exact Nc (k:=5) (bu X G T) (cl T) F (PySem.W.mg_of X G a) ((Gv X G T).mono (by decide)) ((W8 X G T).mono (by decide))
theorem Nv (X:K.In h)(G:h.Ns mainGlobals mg)(T:Tx K):zE P w K mg base 6 "kinds_many" 1 QZ:=(UW X G T).m.iso
theorem Tq (X:K.In h)(G:h.Ns mainGlobals mg)(T:Tx K):qB P w K mg base 6 "near_of" 3 yz:=by
 obtain ⟨f,fd,F,a⟩:=T.Xw;exact MY (k:=5) (bu X G T) (cl T) F (PySem.W.mg_of X G a) ((OH X G T).mono (by decide)) ((US X G T).mono (by decide)) ((W8 X G T).mono (by decide))
theorem MC (X:K.In h)(G:h.Ns mainGlobals mg)(T:Tx K):zE P w K mg base 6 "near_of" 3 Qg:=(Tq X G T).m.iso
theorem U2 (X:K.In h)(G:h.Ns mainGlobals mg)(T:Tx K):qB P w K mg base 6 "shares_of" 3 yy:=by
 obtain ⟨f,fd,F,a⟩:=T.G7;exact NF (k:=5) (bu X G T) (cl T) F (PySem.W.mg_of X G a) ((OV X G T).mono (by decide)) ((US X G T).mono (by decide)) ((W8 X G T).mono (by decide))
theorem NP (X:K.In h)(G:h.Ns mainGlobals mg)(T:Tx K):zE P w K mg base 6 "shares_of" 3 Q2:=(U2 X G T).m.iso
end
end G
namespace Mi
open PySem L2
section
variable {ws:List W}{m me:Ev}{ρ:En}{A A1:Hx}{cap:List Nat}
theorem Jh (h:m ρ A=.ok (.tup ws) A1):qE m ρ A=.ok ⟨λ A i=>(zO (.tup ws) A).map λ ws=>ws[i]?,ws.length⟩ A1:=by
 unfold qE Yt;rw [h,zL]
 rfl
theorem Sv (h:m ρ A=.ok (.tup ws) A)(hl:ws.length<=zZ){g:W->W}(he:∀w∈ws,me (some w::cap.map λ i=>(ρ[i]?).join) A=.ok (g w) A):
  zU 1 cap (qE m) (zJ 0) (zi (.bl true)) (zM me) ρ A=.ok (ws.map g) A:=by
 have e:=Q5 (cap:=cap) (me:=me) (ρ:=ρ) (A:=A) (N:=ws.length) (item:=λ i=>ws.getD i .non) (g:=λ i=>g (ws.getD i .non)) (Jh h) rfl hl
  (λ i hi=>by show some ws[i]? =_;rw [getElem?_eq_getElem hi,getD_eq_getElem?_getD,getElem?_eq_getElem hi];rfl)
  (by show some ws[ws.length]? =_;rw [getElem?_eq_none (le_refl _)])
  (λ i hi=>by
   have:ws.getD i .non=ws[i]:=by rw [getD_eq_getElem?_getD,getElem?_eq_getElem hi];rfl
   rw [this];exact he _ (getElem_mem hi))
 rw [e]
 congr 1
 apply ext_getElem
 ·simp
 ·intro i h1 h2
  have hi:i<ws.length:=by simpa using h2
  simp [getD_eq_getElem?_getD,getElem?_eq_getElem hi]
theorem Xx {α:Type}(p:α->Bool):∀l:List α,gv (l.map λ x=>W.bl (p x))=some (l.map p)
 | []=>rfl
 | x::l=>by
  show (match Yv (.bl (p x)),gv (l.map λ x=>W.bl (p x)) with | some k,some ks=>some (k::ks) | _,_=>none)=_
  rw [Xx p l];rfl
theorem HY {α:Type}{p:α->Bool}{l:List α}(h:∀x∈l,p x=true):Z5 (l.map λ x=>W.bl (p x)) A=.ok (.bl true) A:=by
 show Zv (λ ks=>ks.all id) _ A=_;unfold Zv;rw [Xx];dsimp only
 have:(l.map p).all id=true:=by
  rw [all_map];exact List.all_eq_true.mpr λ x hx=>h x hx
 rw [this]
theorem K3 {α:Type}{f:α->W}(h:∀x,(f x).nr=true):∀l:List α,jk (l.map f)=true
 | []=>rfl
 | x::l=>by
  show ((f x).nr&&jk (l.map f))=true;rw [h x,K3 h l];rfl
theorem Z7 (i j:Int)(A:Hx):jf (.int i) (.int j) A=.ok (.bl (decide (i=j))) A:=by
 show R.ok (W.bl (PyData.eqv (.int i) (.int j))) A=_;simp [PyData.eqv]
 rfl
theorem P6 (i j:Int)(A:Hx):jF (.int i) (.int j) A=.ok (.bl (!decide (i=j))) A:=by
 show R.ok (W.bl (!PyData.eqv (.int i) (.int j))) A=_;simp [PyData.eqv]
 rfl
theorem PX (i j:Bool)(A:Hx):jF (.bl i) (.bl j) A=.ok (.bl (!(i==j))) A:=by
 cases i<;>cases j<;>rfl
end
noncomputable def zW (r:List Int):W:=.tup (r.map W.int)
noncomputable def zy (t:List (List Int)):W:=.tup (t.map zW)
theorem HJ (r:List Int):(zW r).nr=true:=by
 show jk (r.map W.int)=true;exact K3 (λ _=>rfl) r
theorem kC (t:List (List Int)):(zy t).nr=true:=by
 show jk (t.map zW)=true;exact K3 HJ t
end Mi
namespace G
open PySem L2 Mi
end G
namespace Mi
open PySem L2
theorem JT {m:Ev}{ρ:En}{A A1:Hx}{ws:List W}(h:m ρ A=.ok (.tup ws) A1):ZZ m ρ A=.ok (wV (.tup ws) ws.length) A1:=by
 unfold ZZ;rw [h,zL]
 rfl
theorem VP {A:Hx}{ws:List W}{i:Nat}{w:W}(h:ws[i]? =some w):(wV (.tup ws) ws.length).at_ A i=some (some (.tup [.int i,w])):=by
 show atEnd ws i _=_;unfold atEnd;rw [h]
theorem Vv {A:Hx}{ws:List W}:(wV (.tup ws) ws.length).at_ A ws.length=some none:=by
 show atEnd ws _ _=_;unfold atEnd;rw [getElem?_eq_none (le_refl _)];exact if_pos rfl
noncomputable def at2 (t:List (List Int))(a b:Nat):Int:=(t.getD a []).getD b 0
structure qA (t:List (List Int)):Prop where
 n1:1<=t.length
 n8:t.length<=8
 sq:∀r∈t,r.length=t.length
 lo:∀r∈t,∀v∈r,0<=v/\v<(t.length:Int)
 dg:∀a b,a<t.length->b<t.length->(at2 t a b=0↔a=b)
 sy:∀a b,a<t.length->b<t.length->at2 t a b=at2 t b a
 fu:∀k:Nat,(∃v∈t.flatten,(k:Int)<v)->(k:Int)∈t.flatten
section
variable {t:List (List Int)}{A:Hx}{a b:Nat}
theorem VE (ha:a<t.length):(t.map zW)[a]? =some (zW (t.getD a [])):=by
 rw [getElem?_map,getD_eq_getElem?_getD,getElem?_eq_getElem ha];rfl
theorem yq (ha:a<t.length):t.getD a []∈t:=by
 rw [getD_eq_getElem?_getD,getElem?_eq_getElem ha];exact getElem_mem ha
theorem ZR (ha:a<t.length):zB (zy t) (.int a) A=.ok (zW (t.getD a [])) A:=by
 unfold zB;show (match wb (t.map zW) (a:Int) with | some w=>R.ok w A | none=>R.bad)=_
 rw [KP (VE ha)]
theorem int_at {r:List Int}(hb:b<r.length):(r.map W.int)[b]? =some (.int (r.getD b 0)):=by
 rw [getElem?_map,getD_eq_getElem?_getD,getElem?_eq_getElem hb];rfl
theorem Yd {r:List Int}(hb:b<r.length):zB (zW r) (.int b) A=.ok (.int (r.getD b 0)) A:=by
 unfold zB;show (match wb (r.map W.int) (b:Int) with | some w=>R.ok w A | none=>R.bad)=_
 rw [KP (v:=.int (r.getD b 0)) (by rw [getElem?_map,getD_eq_getElem?_getD,getElem?_eq_getElem hb];rfl)]
end
end Mi
namespace G
open PySem L2 Mi
end G
namespace Mi
open PySem L2
section
variable {t:List (List Int)}{A:Hx}
theorem LD {j:jx}{me:Ev}{ws:List W}{c:Option W}(hj:∀i,i<ws.length->j.at_ A i=some (some (ws.getD i .non)))(hend:j.at_ A ws.length=some none)(he:∀w,me [c,some w] A=.ok w A):
  ∀(f i:Nat) (x:Option W) (acc:List W),i+f=ws.length->acc.length+f<=zZ->∃y,qI j (zJ 1) (zi (.bl true)) (zM me) f i [c,x] acc A=.ok ([c,y],acc++ws.drop i) A:=by
 intro f
 induction f with
 | zero=>
  intro i x acc h hl
  have:i=ws.length:=by omega
  subst this;refine ⟨x,?_⟩;unfold qI;rw [hend,drop_length,append_nil]
 | succ f ih=>
  intro i x acc h hl;have hi:i<ws.length:=by omega
  have ew:ws.getD i .non=ws[i]:=by rw [getD_eq_getElem?_getD,getElem?_eq_getElem hi];rfl
  obtain ⟨y,e⟩:=ih (i+1) (some ws[i]) (acc++[ws[i]]) (by omega) (by rw [length_append,length_singleton];omega)
  refine ⟨y,?_⟩;rw [qI,hj i hi,ew];dsimp only [zJ,List.set,zi];rw [zL];dsimp only;have ee:zM me [c,some ws[i]] acc A=.ok ([c,some ws[i]],acc++[ws[i]]) A:=by
   unfold zM;rw [he,zL,if_pos (by omega)]
  rw [ee,zL];rw [e,append_assoc]
  congr 3
  rw [List.singleton_append,<- List.drop_eq_getElem_cons hi]
theorem Ln {j:jx}(hj:∀i,i<t.length->j.at_ A i=some (some (zW (t.getD i []))))(hend:j.at_ A t.length=some none):
  ∀(f i:Nat) (x y:Option W) (acc:List W),i+f=t.length->acc.length+(t.drop i).flatten.length<=zZ->
   ∃ρ,qI j (zJ 0) (zi (.bl true)) (Jv (qE (zc 0)) (zJ 1) (zi (.bl true)) (zM (zc 1))) f i [x,y] acc A=.ok (ρ,acc++(t.drop i).flatten.map W.int) A:=by
 intro f
 induction f with
 | zero=>
  intro i x y acc h hl
  have:i=t.length:=by omega
  subst this;refine ⟨[x,y],?_⟩;unfold qI;rw [hend,drop_length];simp
 | succ f ih=>
  intro i x y acc h hl;have hi:i<t.length:=by omega
  have er:t.getD i []=t[i]:=by rw [getD_eq_getElem?_getD,getElem?_eq_getElem hi];rfl
  have ed:t.drop i=t[i]::t.drop (i+1):=List.drop_eq_getElem_cons hi;rw [ed,flatten_cons,length_append] at hl;obtain ⟨z,e1⟩:=LD (A:=A) (j:=⟨λ A i_1=>(zO (zW t[i]) A).map λ ws=>ws[i_1]?,(t[i].map W.int).length⟩) (me:=zc 1) (ws:=t[i].map W.int) (c:=some (zW t[i]))
   (λ k hk=>by
    show some (t[i].map W.int)[k]? =_;rw [getD_eq_getElem?_getD,getElem?_eq_getElem hk];rfl)
   (by show some (t[i].map W.int)[(t[i].map W.int).length]? =_;rw [getElem?_eq_none (le_refl _)])
   (λ w=>zt rfl) (t[i].map W.int).length 0 y acc (by omega) (by rw [length_map];omega)
  rw [List.drop_zero] at e1;obtain ⟨ρ,e2⟩:=ih (i+1) (some (zW t[i])) z (acc++t[i].map W.int) (by omega) (by rw [length_append,length_map];omega)
  refine ⟨ρ,?_⟩;rw [qI,hj i hi,er];dsimp only [zJ,List.set,zi];rw [zL];dsimp only;have ee:Jv (qE (zc 0)) (zJ 1) (zi (.bl true)) (zM (zc 1)) [some (zW t[i]),y] acc A=.ok ([some (zW t[i]),z],acc++t[i].map W.int) A:=by
   unfold Jv;rw [Jh (ws:=t[i].map W.int) (A1:=A) (zt (i:=0) rfl),zL];exact e1
  rw [ee,zL];rw [e2,ed,flatten_cons,map_append,append_assoc]
theorem Fu {m:Ev}{ρ:En}(h:m ρ A=.ok (zy t) A)(hl:t.flatten.length<=zZ):
  zU 2 [] (qE m) (zJ 0) (zi (.bl true)) (Jv (qE (zc 0)) (zJ 1) (zi (.bl true)) (zM (zc 1))) ρ A=.ok (t.flatten.map W.int) A:=by
 have hlen:(t.map zW).length=t.length:=length_map ..;obtain ⟨ρ',e⟩:=Ln (t:=t) (A:=A) (j:=⟨λ A i=>(zO (zy t) A).map λ ws=>ws[i]?,(t.map zW).length⟩) (λ i hi=>by show some (t.map zW)[i]? =_;rw [VE hi])
  (by show some (t.map zW)[t.length]? =_;rw [getElem?_eq_none (by omega)]) t.length 0 none none [] (by omega) (by simpa using hl)
 unfold zU;rw [Jh (ws:=t.map zW) h,zL];show R.bind (R.nox (qI ⟨λ A i=>(zO (zy t) A).map λ ws=>ws[i]?,(t.map zW).length⟩ _ _ _ (t.map zW).length 0 [none,none] [] A)) _=_;rw [hlen] at e ⊢;rw [e];simp
 rfl
end
theorem Kh:∀l:List Int,intsOf (l.map W.int)=some l
 | []=>rfl
 | i::l=>by
  show (match intsOf (l.map W.int) with | some is=>some (i::is) | none=>none)=_
  rw [Kh l]
theorem XW:∀(l:List Int) (m:Int),jR l m=m∨jR l m∈l
 | [],_=>.inl rfl
 | i::l,m=>by
  show jR l (if i > m then i else m)=m∨jR l (if i > m then i else m)∈i::l;rcases XW l (if i > m then i else m) with e | e
  ·by_cases h:i > m
   ·rw [if_pos h] at e ⊢;exact .inr (by rw [e];exact mem_cons_self ..)
   ·rw [if_neg h] at e ⊢;exact .inl e
  ·exact .inr (mem_cons_of_mem _ e)
end Mi
namespace G
open PySem L2 Mi
end G
namespace Mi
open PySem L2
section
variable {A:Hx}{c:En}{me:Ev}{j jin:jx}{N M:Nat}{ot it:Nat->W}{u:Option W}
end
end Mi
namespace G
open PySem L2 Mi
section
variable {s t:List (List Int)}
theorem Zj {n:Nat}(h:n<1000000):jI (n:Int)=true:=by
 unfold jI;simp;omega
end
end G
namespace Mi
open PySem L2
theorem X4 {m:Ev}{ρ:En}{A A1:Hx}{n:Nat}{ws:List W}(h:m ρ A=.ok (.ref n) A1)(hA:A1[n]? =some (.lst ws)):qE m ρ A=.ok ⟨λ A i=>(zO (.ref n) A).map λ ws=>ws[i]?,ws.length⟩ A1:=by
 unfold qE Yt;rw [h,zL];have e:zO (.ref n) A1=some ws:=by unfold zO;dsimp only;rw [hA]
 rw [e]
theorem Jp {n i:Nat}{A:Hx}{ws:List W}(hA:A[n]? =some (.lst ws)):((zO (.ref n) A).map λ ws=>ws[i]?)=some ws[i]?:=by
 have e:zO (.ref n) A=some ws:=by unfold zO;dsimp only;rw [hA]
 rw [e];rfl
noncomputable def k8:List Int->Int
 | []=>0
 | i::is=>jR is i
theorem Rk {r:List Int}{A:Hx}(h:r≠[]):j9 (r.map W.int) A=.ok (.int (k8 r)) A:=by
 unfold j9;rw [Kh];cases r with
 | nil=>exact absurd rfl h
 | cons i is=>rfl
theorem Kz {r:List Int}(h:r≠[]):k8 r∈r:=by
 cases r with
 | nil=>exact absurd rfl h
 | cons i is=>
  rcases XW is i with e | e
  ·show jR is i∈_;rw [e];exact mem_cons_self ..
  ·exact mem_cons_of_mem _ e
noncomputable def jd (t:List (List Int)):Int:=k8 (t.map k8)+1
end Mi
namespace G
open PySem L2 Mi
section
variable {s t:List (List Int)}
theorem _root_.Mi.qA.row_ne (h:qA t){r:List Int}(hr:r∈t):r≠[]:=λ e=>by
 have h1:=h.sq r hr;have h2:=h.n1;rw [e,length_nil] at h1;omega
theorem _root_.Mi.qA.map_ne (h:qA t):t.map k8≠[]:=λ e=>by
 have:=h.n1
 rw [List.map_eq_nil_iff] at e;rw [e] at this;simp at this
theorem Qw (h:qA t):1<=jd t/\jd t<=8:=by
 obtain ⟨r,hr,e⟩:=List.mem_map.mp (Kz h.map_ne)
 have:=h.lo r hr _ (Kz (h.row_ne hr))
 have:=h.n8
 unfold jd;rw [<- e];omega
theorem Ud (h:qA t){a b:Nat}(ha:a<t.length)(hb:b<t.length):0<=at2 t a b/\at2 t a b<8:=by
 have hl:=h.sq _ (yq ha)
 have:(t.getD a []).getD b 0∈t.getD a []:=by
  rw [getD_eq_getElem?_getD (l:=t.getD a []),getElem?_eq_getElem (by omega)];exact getElem_mem _
 have h1:=h.lo _ (yq ha) _ this
 have:=h.n8
 unfold at2;omega
theorem Jn {q:jN}{ρ:En}{A A1:Hx}{ws:List W}(h:q ρ A=.ok ws A1):mQ yP q ρ A=.ok (.tup ws) A1:=(kj h).trans rfl
end
end G
namespace Mi
open PySem L2
theorem gj {n:Nat}{ws:List W}{w:W}{A:Hx}{s:Nat}(h:A[n]? =some (.lst ws))(hs:ws[s]? =some w):zB (.ref n) (.int (s:Int)) A=.ok w A:=by
 unfold zB;have e:zO (.ref n) A=some ws:=by unfold zO;dsimp only;rw [h]
 rw [e];dsimp only;rw [KP hs]
theorem yu {A:Hx}{o u:O}{n:Nat}(h:A[n]? =some o):(A++[u])[n]? =some o:=by
 have:=(List.getElem?_eq_some_iff.mp h).1
 rw [getElem?_append_left this];exact h
theorem qU {A:Hx}{u:O}:(A++[u])[A.length]? =some u:=by simp
theorem VB:∀(n:Nat) (ks:List Int),ks.Nodup->(∀r∈ks,0<=r/\r<(n:Int))->ks.length<=n
 | 0,ks,_,h=>by
  cases ks with
  | nil=>exact le_refl _
  | cons r l=>have:=h r (mem_cons_self ..);omega
 | n+1,ks,nd,h=>by
  by_cases hm:(n:Int)∈ks
  ·have h1:=VB n (ks.erase (n:Int)) (nd.erase _) λ r hr=>by
    have h2:=h r (List.mem_of_mem_erase hr);have h3:r≠(n:Int):=λ z=>(List.Nodup.mem_erase_iff nd).mp hr |>.1 z;omega
   rw [List.length_erase_of_mem hm] at h1;omega
  ·have:=VB n ks nd λ r hr=>by
    have h2:=h r hr;have h3:r≠(n:Int):=λ z=>hm (z ▸ hr);omega
   omega
noncomputable def kL (μ:Nat->Nat->Int)(a b:Nat)(k:Int):Nat->Nat->Int:=λ i j=>if i=a/\j=b then k else μ i j
structure Mu (n:Nat)(μ:Nat->Nat->Int)(c:Nat)(done:Nat->Nat->Prop):Prop where
 dg:∀i,μ i i=0
 sy:∀i j,μ i j=μ j i
 dn:∀i j,i<j->j<n->done i j->1<=μ i j/\μ i j<=(c:Int)
 un:∀i j,i<j->j<n->¬done i j->μ i j=0
 fu:∀k:Nat,1<=k->k<=c->∃i j,i<n/\j<n/\μ i j=(k:Int)
noncomputable def j8 (n:Nat)(μ:Nat->Nat->Int):List (List Int):=(List.range n).map λ i=>(List.range n).map (μ i)
theorem ZQ {n:Nat}{μ:Nat->Nat->Int}{i j:Nat}(hi:i<n)(hj:j<n):at2 (j8 n μ) i j=μ i j:=by
 unfold at2 j8;rw [getD_eq_getElem?_getD (l:=(List.range n).map λ i=>(List.range n).map (μ i)),getElem?_map,getElem?_range hi];show ((List.range n).map (μ i)).getD j 0=_;rw [getD_eq_getElem?_getD,getElem?_map,getElem?_range hj]
 rfl
theorem Mu.tab {n c:Nat}{μ:Nat->Nat->Int}{d:Nat->Nat->Prop}(h:Mu n μ c d)(all:∀i j,i<j->j<n->d i j)(n1:1<=n)(n8:n<=8)(hc:n=1∨c<n):qA (j8 n μ):=by
 have len:(j8 n μ).length=n:=by unfold j8;simp
 have val:∀i j,i<n->j<n->i≠j->1<=μ i j/\μ i j<=(c:Int):=λ i j hi hj ne=>by
  rcases Nat.lt_or_gt_of_ne ne with q | q
  ·exact h.dn i j q hj (all i j q hj)
  ·rw [h.sy];exact h.dn j i q hi (all j i q hi)
 have mem:∀r∈j8 n μ,∀v∈r,∃i j,i<n/\j<n/\v=μ i j:=λ r hr v hv=>by
  unfold j8 at hr;obtain ⟨i,hi,rfl⟩:=List.mem_map.mp hr;obtain ⟨j,hj,rfl⟩:=List.mem_map.mp hv;exact ⟨i,j,List.mem_range.mp hi,List.mem_range.mp hj,rfl⟩
 have inF:∀i j,i<n->j<n->μ i j∈(j8 n μ).flatten:=λ i j hi hj=>List.mem_flatten.mpr ⟨_,List.mem_map.mpr ⟨i,List.mem_range.mpr hi,rfl⟩,List.mem_map.mpr ⟨j,List.mem_range.mpr hj,rfl⟩⟩;refine ⟨by rw [len];exact n1,by rw [len];exact n8,λ r hr=>?_,λ r hr v hv=>?_,λ a b ha hb=>?_,λ a b ha hb=>?_,λ k hk=>?_⟩
 ·rw [len]
  unfold j8 at hr;obtain ⟨i,hi,rfl⟩:=List.mem_map.mp hr;simp
 ·rw [len]
  obtain ⟨i,j,hi,hj,rfl⟩:=mem r hr v hv
  by_cases q:i=j
  ·subst q;rw [h.dg];omega
  ·have:=val i j hi hj q
   omega
 ·rw [len] at ha hb
  rw [ZQ ha hb]
  constructor
  ·intro e
   by_cases q:a=b
   ·exact q
   ·have:=val a b ha hb q;omega
  ·intro e;subst e;exact h.dg a
 ·rw [len] at ha hb
  rw [ZQ ha hb,ZQ hb ha];exact h.sy a b
 ·obtain ⟨v,hv,hlt⟩:=hk
  obtain ⟨r,hr,hv'⟩:=List.mem_flatten.mp hv;obtain ⟨i,j,hi,hj,rfl⟩:=mem r hr v hv'
  by_cases k0:k=0
  ·subst k0
   have:=inF 0 0 (by omega) (by omega)
   rw [h.dg] at this;exact this
  ·by_cases q:i=j
   ·subst q;rw [h.dg] at hlt;omega
   ·have:=val i j hi hj q
    obtain ⟨i',j',hi',hj',e⟩:=h.fu k (by omega) (by omega)
    have:=inF i' j' hi' hj'
    rw [e] at this;exact this
end Mi
namespace G
open PySem L2 Mi
theorem Yg {i j:Int}{A:Hx}(h1:-(2 ^ 64)<i)(h2:i<2 ^ 64):qP (.int i) (.int j) A=.ok (.int (i * j)) A:=by
 unfold qP;dsimp only;rw [if_pos];unfold YF;rw [or_eq_true,and_eq_true,decide_eq_true_iff,decide_eq_true_iff];exact .inl ⟨h1,h2⟩
theorem Qu {i j:Int}{A:Hx}(h:0<j):kH (.int i) (.int j) A=.ok (.int (i % j)) A:=by
 unfold kH ZE;dsimp only;rw [if_pos];unfold Wg;exact decide_eq_true h
theorem RS {i j:Int}{A:Hx}(h:0<j)(h2:j<1152921504606846976):gW (.int i) (.int j) A=.ok (.int (i / j)) A:=by
 unfold gW ZE;dsimp only;rw [if_pos];unfold K9;rw [and_eq_true,decide_eq_true_iff,decide_eq_true_iff];exact ⟨h,h2⟩
theorem Ef {c m:Int}(h1:0<m)(h2:m<1000000000000000):Kg [.ref 0,.int m] [.lst [.int c,.bl true]]=.ok (.int (c % m)) [.lst [.int (c / m),.bl true]]:=by
 refine ja ?_;unfold Ke;refine qu (A1:=[.lst [.int (c / m),.bl true]]) ?_;refine (kX (A1:=[.lst [.int c,.bl true]]) rfl).trans ?_;refine (zI (ρ1:=[some (.ref 0),some (.int m),some (.int (c % m)),none]) (A1:=[.lst [.int c,.bl true]]) ?_).trans ?_
 ·refine (qL (w:=.int (c % m)) (A1:=[.lst [.int c,.bl true]]) ?_).trans rfl
  exact (zN (x:=.int c) (y:=.int m) (A1:=[.lst [.int c,.bl true]]) (A2:=[.lst [.int c,.bl true]]) rfl rfl).trans (Qu h1)
 ·refine (zI (ρ1:=[some (.ref 0),some (.int m),some (.int (c % m)),none]) (A1:=[.lst [.int (c / m),.bl true]]) ?_).trans rfl
  have e:zo gW (zo zB (zc 0) (zi (.int 0))) (zc 1) [some (.ref 0),some (.int m),some (.int (c % m)),none] [.lst [.int c,.bl true]]=.ok (.int (c / m)) [.lst [.int c,.bl true]]:=
   (zN (x:=.int c) (y:=.int m) (A1:=[.lst [.int c,.bl true]]) (A2:=[.lst [.int c,.bl true]]) rfl rfl).trans (RS h1 (by omega))
  unfold kW;rw [e,zL]
  rfl
noncomputable def Z8 (c:Int):Int:=(c * 48271+29) % 2147483647
noncomputable def wB (d:Int):Int:=(d * d+39373 * d+7) % 2147483629
noncomputable def w9 (e:Int):Int:=(e * e+16807 * e) % 2147483587
theorem VW (c:Int):0<=Z8 c/\Z8 c<2147483647:=⟨emod_nonneg _ (by decide),emod_lt_of_pos _ (by decide)⟩
theorem D8 (c:Int):0<=wB c/\wB c<2147483629:=⟨emod_nonneg _ (by decide),emod_lt_of_pos _ (by decide)⟩
theorem Eh {c m:Int}(hc:0<=c)(hc2:c<2147483647)(h1:0<m)(h2:m<1000000000000000):Kg [.ref 0,.int m] [.lst [.int c,.bl false]]=.ok (.int (w9 (wB (Z8 c)) / 8 % m)) [.lst [.int (Z8 c),.bl false]]:=by
 have b1:=VW c;refine ja ?_;unfold Ke;refine (zI (ρ1:=[some (.ref 0),some (.int m),none,none]) (A1:=[.lst [.int c,.bl false]]) ((yd (A1:=[.lst [.int c,.bl false]]) rfl).trans rfl)).trans ?_;have e1:zo kH (zo qH (zo qP (zo zB (zc 0) (zi (.int 0))) (zi (.int 48271))) (zi (.int 29))) (zi (.int 2147483647)) [some (.ref 0),some (.int m),none,none] [.lst [.int c,.bl false]]=.ok (.int (Z8 c)) [.lst [.int c,.bl false]]:=by
  have em:zo qP (zo zB (zc 0) (zi (.int 0))) (zi (.int 48271)) [some (.ref 0),some (.int m),none,none] [.lst [.int c,.bl false]]=.ok (.int (c * 48271)) [.lst [.int c,.bl false]]:=
   (zN (x:=.int c) (y:=.int 48271) (A1:=[.lst [.int c,.bl false]]) (A2:=[.lst [.int c,.bl false]]) rfl rfl).trans (Yg (by omega) (by omega))
  refine (zN (x:=.int (c * 48271+29)) (y:=.int 2147483647) (A1:=[.lst [.int c,.bl false]]) (A2:=[.lst [.int c,.bl false]]) ((zN em rfl).trans rfl) rfl).trans ?_;exact Qu (by decide)
 refine (zI (ρ1:=[some (.ref 0),some (.int m),none,none]) (A1:=[.lst [.int (Z8 c),.bl false]]) ?_).trans ?_
 ·unfold kW
  rw [e1,zL]
  rfl
 generalize Z8 c=d at *;have e2:zo kH (zo qH (zo qH (zo qP (zo zB (zc 0) (zi (.int 0))) (zo zB (zc 0) (zi (.int 0)))) (zo qP (zi (.int 39373)) (zo zB (zc 0) (zi (.int 0))))) (zi (.int 7))) (zi (.int 2147483629)) [some (.ref 0),some (.int m),none,none] [.lst [.int d,.bl false]]=
   .ok (.int (wB d)) [.lst [.int d,.bl false]]:=by
  have em:zo qP (zo zB (zc 0) (zi (.int 0))) (zo zB (zc 0) (zi (.int 0))) [some (.ref 0),some (.int m),none,none] [.lst [.int d,.bl false]]=.ok (.int (d * d)) [.lst [.int d,.bl false]]:=
   (zN (x:=.int d) (y:=.int d) (A1:=[.lst [.int d,.bl false]]) (A2:=[.lst [.int d,.bl false]]) rfl rfl).trans (Yg (by omega) (by omega))
  have en:zo qP (zi (.int 39373)) (zo zB (zc 0) (zi (.int 0))) [some (.ref 0),some (.int m),none,none] [.lst [.int d,.bl false]]=.ok (.int (39373 * d)) [.lst [.int d,.bl false]]:=
   (zN (x:=.int 39373) (y:=.int d) (A1:=[.lst [.int d,.bl false]]) (A2:=[.lst [.int d,.bl false]]) rfl rfl).trans (Yg (by decide) (by decide))
  have es:zo qH (zo qP (zo zB (zc 0) (zi (.int 0))) (zo zB (zc 0) (zi (.int 0)))) (zo qP (zi (.int 39373)) (zo zB (zc 0) (zi (.int 0)))) [some (.ref 0),some (.int m),none,none] [.lst [.int d,.bl false]]=.ok (.int (d * d+39373 * d)) [.lst [.int d,.bl false]]:=
   (zN em en).trans rfl
  refine (zN (x:=.int (d * d+39373 * d+7)) (y:=.int 2147483629) (A1:=[.lst [.int d,.bl false]]) (A2:=[.lst [.int d,.bl false]]) ((zN es rfl).trans rfl) rfl).trans ?_;exact Qu (by decide)
 refine (zI (ρ1:=[some (.ref 0),some (.int m),none,some (.int (wB d))]) (A1:=[.lst [.int d,.bl false]]) ((qL e2).trans rfl)).trans ?_;have b2:=D8 d;generalize wB d=e at *;have e3:zo kH (zo qH (zo qP (zc 3) (zc 3)) (zo qP (zi (.int 16807)) (zc 3))) (zi (.int 2147483587)) [some (.ref 0),some (.int m),none,some (.int e)] [.lst [.int d,.bl false]]=.ok (.int (w9 e)) [.lst [.int d,.bl false]]:=by
  have em:zo qP (zc 3) (zc 3) [some (.ref 0),some (.int m),none,some (.int e)] [.lst [.int d,.bl false]]=.ok (.int (e * e)) [.lst [.int d,.bl false]]:=
   (zN (x:=.int e) (y:=.int e) (A1:=[.lst [.int d,.bl false]]) (A2:=[.lst [.int d,.bl false]]) rfl rfl).trans (Yg (by omega) (by omega))
  have en:zo qP (zi (.int 16807)) (zc 3) [some (.ref 0),some (.int m),none,some (.int e)] [.lst [.int d,.bl false]]=.ok (.int (16807 * e)) [.lst [.int d,.bl false]]:=
   (zN (x:=.int 16807) (y:=.int e) (A1:=[.lst [.int d,.bl false]]) (A2:=[.lst [.int d,.bl false]]) rfl rfl).trans (Yg (by decide) (by decide))
  refine (zN (x:=.int (e * e+16807 * e)) (y:=.int 2147483587) (A1:=[.lst [.int d,.bl false]]) (A2:=[.lst [.int d,.bl false]]) ((zN em en).trans rfl) rfl).trans ?_;exact Qu (by decide)
 refine (zI (ρ1:=[some (.ref 0),some (.int m),none,some (.int (w9 e))]) (A1:=[.lst [.int d,.bl false]]) ((qL e3).trans rfl)).trans ?_;generalize w9 e=f at *;refine qu (jb ?_);refine (zN (x:=.int (f / 8)) (y:=.int m) (A1:=[.lst [.int d,.bl false]]) (A2:=[.lst [.int d,.bl false]]) ?_ rfl).trans (Qu h1);exact (zN (x:=.int f) (y:=.int 8) (A1:=[.lst [.int d,.bl false]]) (A2:=[.lst [.int d,.bl false]]) rfl rfl).trans (RS (by decide) (by decide))
noncomputable def qK (n:Nat)(A:Hx):Prop:=∃c b,A[n]? =some (.lst [.int c,.bl b])/\0<=c/\(b=false->c<2147483647)
theorem RY {n:Nat}{A:Hx}(h:qK n A){m:Int}(h1:0<m)(h2:m<1000000000000000):∃r o,qC [.ref n,.int m] A=.ok (.int r) (A.set n o)/\0<=r/\r<m/\qK n (A.set n o):=by
 obtain ⟨c,b,hA,hc,hb⟩:=h;have hn:n<A.length:=(List.getElem?_eq_some_iff.mp hA).1;have fin:∀(r c':Int),Kg [.ref 0,.int m] [.lst [.int c,.bl b]]=.ok (.int r) [.lst [.int c',.bl b]]->qC [.ref n,.int m] A=.ok (.int r) (A.set n (.lst [.int c',.bl b])):=λ r c' e=>by
  unfold qC wY;dsimp only;rw [hA];dsimp only;have hn1:(jk [W.int c,W.bl b]&&jk [W.int m])=true:=rfl;rw [if_pos hn1,e]
  rfl
 cases b with
 | true=>
  refine ⟨c % m,_,fin _ _ (Ef h1 h2),emod_nonneg _ (by omega),emod_lt_of_pos _ h1,c / m,true,getElem?_set_self hn,Int.ediv_nonneg hc (by omega),λ z=>nomatch z⟩
 | false=>
  exact ⟨_,_,fin _ _ (Eh hc (hb rfl) h1 h2),emod_nonneg _ (by omega),emod_lt_of_pos _ h1,Z8 c,false,getElem?_set_self hn,(VW c).1,λ _=>(VW c).2⟩
end G
namespace Mi
open PySem L2
theorem XZ {n k:Nat}{xs ys:List W}{A:Hx}(h:A[n]? =some (.lst xs))(h2:A[k]? =some (.lst ys))(hl:xs.length+ys.length<=zZ):qH (.ref n) (.ref k) A=.ok (.ref A.length) (A++[.lst (xs++ys)]):=by
 unfold qH;dsimp only;rw [h,h2];dsimp only;rw [if_pos hl]
noncomputable def Ext (A A':Hx):Prop:=∃l,A'=A++l
theorem Ext.refl {A:Hx}:Ext A A:=⟨[],by simp⟩
theorem Ext.trans {A B C:Hx}(a:Ext A B)(b:Ext B C):Ext A C:=let ⟨l,e⟩:=a;let ⟨k,f⟩:=b;⟨l++k,by rw [f,e,append_assoc]⟩
theorem Ext.one {A:Hx}{o:O}:Ext A (A++[o]):=⟨[o],rfl⟩
theorem Ext.at {A A':Hx}{n:Nat}{o:O}(x:Ext A A')(h:A[n]? =some o):A'[n]? =some o:=by
 obtain ⟨l,rfl⟩:=x
 have:=(List.getElem?_eq_some_iff.mp h).1
 rw [getElem?_append_left this];exact h
end Mi
namespace G
open PySem L2 Mi
end G
namespace Mi
open PySem L2
theorem L5 {j:jx}{tw:Tg}{ifs:Ev}{em:Em}{N:Nat}{I:Nat->En->List W->Hx->Prop}
  (hstep:∀i ρ acc A,i<N->I i ρ acc A->∃w ρ1,j.at_ A i=some (some w)/\tw w ρ=some ρ1/\((∃A1 ρ2 acc2 A2,ifs ρ1 A=.ok (.bl true) A1/\em ρ1 acc A1=.ok (ρ2,acc2) A2/\I (i+1) ρ2 acc2 A2)∨(∃A1,ifs ρ1 A=.ok (.bl false) A1/\I (i+1) ρ1 acc A1)))
  (hend:∀ρ acc A,I N ρ acc A->j.at_ A N=some none):
  ∀(f i:Nat) (ρ:En) (acc:List W) (A:Hx),i+f=N->I i ρ acc A->∃ρ' acc' A',qI j tw ifs em f i ρ acc A=.ok (ρ',acc') A'/\I N ρ' acc' A':=by
 intro f
 induction f with
 | zero=>
  intro i ρ acc A h hI
  have:i=N:=by omega
  subst this;refine ⟨ρ,acc,A,?_,hI⟩;unfold qI;rw [hend _ _ _ hI]
 | succ f ih=>
  intro i ρ acc A h hI;obtain ⟨w,ρ1,h1,h2,h3⟩:=hstep i ρ acc A (by omega) hI
  rw [qI,h1];dsimp only;rw [h2];dsimp only;rcases h3 with ⟨A1,ρ2,acc2,A2,e1,e2,e3⟩ | ⟨A1,e1,e3⟩
  ·rw [e1,zL]
   dsimp only;rw [e2,zL];exact ih (i+1) _ _ _ (by omega) e3
  ·rw [e1,zL]
   dsimp only;exact ih (i+1) _ _ _ (by omega) e3
theorem Km {nl:Nat}{cap:List Nat}{mi:Ei}{ρ:En}{A A1:Hx}{j:jx}{tw:Tg}{ifs:Ev}{em:Em}{N:Nat}{I:Nat->En->List W->Hx->Prop}(hm:mi ρ A=.ok j A1)(hj:j.len=N)
  (hstep:∀i ρ acc A,i<N->I i ρ acc A->∃w ρ1,j.at_ A i=some (some w)/\tw w ρ=some ρ1/\((∃A1 ρ2 acc2 A2,ifs ρ1 A=.ok (.bl true) A1/\em ρ1 acc A1=.ok (ρ2,acc2) A2/\I (i+1) ρ2 acc2 A2)∨(∃A1,ifs ρ1 A=.ok (.bl false) A1/\I (i+1) ρ1 acc A1)))
  (hend:∀ρ acc A,I N ρ acc A->j.at_ A N=some none)(h0:I 0 (Zq nl cap ρ) [] A1):∃ρ' acc' A',zU nl cap mi tw ifs em ρ A=.ok acc' A'/\I N ρ' acc' A':=by
 obtain ⟨ρ',acc',A',e,hI⟩:=L5 hstep hend N 0 _ _ _ (by omega) h0
 refine ⟨ρ',acc',A',?_,hI⟩;unfold zU;rw [hm,zL,hj,e]
 rfl
theorem ZK {j:jx}{st:W->Ex}{N:Nat}{I:Nat->En->Hx->Prop}
  (hstep:∀i ρ A,i<N->I i ρ A->∃w ρ1 A1,j.at_ A i=some (some w)/\st w ρ A=.ok (.nx ρ1) A1/\I (i+1) ρ1 A1)(hend:∀ρ A,I N ρ A->j.at_ A N=some none):
  ∀(f i:Nat) (ρ:En) (A:Hx),i+f=N->I i ρ A->∃ρ' A',jW j st f i ρ A=.ok (.nx ρ') A'/\I N ρ' A':=by
 intro f
 induction f with
 | zero=>
  intro i ρ A h hI
  have:i=N:=by omega
  subst this;exact ⟨ρ,A,Tf (hend _ _ hI),hI⟩
 | succ f ih=>
  intro i ρ A h hI;obtain ⟨w,ρ1,A1,h1,h2,h3⟩:=hstep i ρ A (by omega) hI
  rw [Su h1 h2];exact ih (i+1) _ _ (by omega) h3
theorem Kw {me:Ev}{ρ:En}{acc:List W}{A A1:Hx}{y:W}(h:me ρ A=.ok y A1)(hl:acc.length<zZ):zM me ρ acc A=.ok (ρ,acc++[y]) A1:=by
 unfold zM;rw [h,zL,if_pos hl]
theorem take_succ {α:Type}{l:List α}{i:Nat}(h:i<l.length):l.take (i+1)=l.take i++[l[i]]:=by
 rw [List.take_succ,getElem?_eq_getElem h];rfl
theorem Ext.app {A B:Hx}{l:Hx}(x:Ext A B):Ext A (B++l):=x.trans ⟨l,rfl⟩
theorem Ext.len {A B:Hx}(x:Ext A B):A.length<=B.length:=by obtain ⟨l,rfl⟩:=x;simp
theorem gi {A:Hx}{n:Nat}{o:O}(h:A[n]? =some o):n<A.length:=(List.getElem?_eq_some_iff.mp h).1
end Mi
namespace G
open PySem L2 Mi
end G
namespace Mi
open PySem L2
theorem Ya:∀(l:List Int) (m:Int),m<=jR l m/\∀x∈l,x<=jR l m
 | [],m=>⟨Int.le_refl _,λ x h=>by cases h⟩
 | y::l,m=>by
  unfold jR
  split
  ·rename_i hy
   obtain ⟨h1,h2⟩:=Ya l y;refine ⟨by omega,λ x hx=>?_⟩
   rcases List.mem_cons.mp hx with rfl | hx
   ·exact h1
   ·exact h2 x hx
  ·rename_i hy
   obtain ⟨h1,h2⟩:=Ya l m;refine ⟨h1,λ x hx=>?_⟩;rcases List.mem_cons.mp hx with rfl | hx
   ·omega
   ·exact h2 x hx
theorem Tb {α:Type}:∀{l:List α} {k:Nat} {w:α},l[k]? =some w->l.Perm (w::l.eraseIdx k)
 | [],_,_,h=>by simp at h
 | x::l,0,w,h=>by
  simp at h;subst h;simp
 | x::l,k+1,w,h=>by
  rw [List.getElem?_cons_succ] at h;rw [List.eraseIdx_cons_succ];exact ((Tb h).cons x).trans (List.Perm.swap w x _)
theorem N1 {A:Hx}{n k:Nat}{i:Int}{ws:List W}{w:W}(h:A[n]? =some (.lst ws))(hw:ws[k]? =some w)(hs:jI i=true)(e:seqIndex? i ws.length=some k):gQ (.ref n) (.int i) A=.ok w (A.set n (.lst (ws.eraseIdx k))):=by
 unfold gQ;dsimp only;rw [h];dsimp only;rw [if_pos hs,e];dsimp only;rw [hw]
theorem Dq {k n:Nat}(hl:k<n):seqIndex? (k:Int) n=some k:=by
 have:=PySem.StrLaws.seqIndex_nonneg (i:=(k:Int)) (n:=n) (by omega) (by omega)
 rw [toNat_natCast] at this;exact this
theorem Mj {A:Hx}{n k:Nat}{ws:List W}{w:W}(h:A[n]? =some (.lst ws))(hw:ws[k]? =some w)(hk:k<1000000):gQ (.ref n) (.int (k:Int)) A=.ok w (A.set n (.lst (ws.eraseIdx k))):=
 N1 h hw (G.Zj hk) (Dq (List.getElem?_eq_some_iff.mp hw).1)
theorem TJ {α β:Type}(f:α->β):∀(l:List α) (k:Nat),(l.map f).eraseIdx k=(l.eraseIdx k).map f
 | [],_=>rfl
 | _::_,0=>rfl
 | a::l,k+1=>by
  rw [map_cons,List.eraseIdx_cons_succ,List.eraseIdx_cons_succ,map_cons,TJ f l k]
theorem Jb {g:W->W->Hx->R W}{a b:Ev}{ρ:En}{A A1:Hx}{n:Nat}{ws:List W}{y:W}(ha:a ρ A=.ok (.ref n) A)(hA:A[n]? =some (.lst ws))(hb:b ρ A=.ok y A1):j5 g a b ρ A=g (.ref n) y A1:=by
 unfold j5;have hl:JI (.ref n) A=true:=by unfold JI;dsimp only;rw [hA]
 rw [ha,zL,if_pos hl,hb,zL]
theorem Kl {A:Hx}{n:Nat}{ws:List W}{y:W}(h:A[n]? =some (.lst ws))(hl:ws.length<1000):yA (.ref n) y A=.ok .non (A.set n (.lst (ws++[y]))):=by
 unfold yA;dsimp only;rw [h];dsimp only;rw [if_pos (by unfold zZ;omega)]
theorem Rf {f:Fn}{n:Nat}{us:List W}{A A1:Hx}{c c':Int}{b b':Bool}{w:W}(hA:A[n]? =some (.lst [.int c,.bl b]))(hu:jk us=true)(h:f (.ref 0::us) [.lst [.int c,.bl b]]=.ok w A1)(h1:A1[0]? =some (.lst [.int c',.bl b']))(hw:w.nr=true):wY f (.ref n::us) A=.ok w (A.set n (.lst [.int c',.bl b'])):=by
 unfold wY;dsimp only;rw [hA];dsimp only;have h2:(jk [W.int c,W.bl b]&&jk us)=true:=by rw [hu];rfl
 rw [if_pos h2,h];dsimp only;rw [List.head?_eq_getElem?,h1];dsimp only;have h3:(jk [W.int c',W.bl b']&&w.nr)=true:=by rw [hw];rfl
 rw [if_pos h3]
noncomputable abbrev iL (l:List Nat):List W:=l.map λ (a:Nat)=>W.int (a:Int)
end Mi
namespace G
open PySem L2 Mi
theorem MJ {m:Ev}{ρ:En}{A A1:Hx}{n:Nat}(h:m ρ A=.ok (.int (n:Int)) A1)(hn:n<=100):J7 m ρ A=.ok (.ref A1.length) (A1++[.lst (iL (List.range n))]):=by
 unfold J7;rw [h,zL];dsimp only;rw [Zj (by omega),toNat_natCast,decide_eq_true (by unfold zZ;omega)]
 rfl
end G
namespace Mi
open PySem L2
theorem T8 {α:Type}{m me:Ev}{ρ:En}{A:Hx}{cap:List Nat}{o:List α}{f:α->W}{G:α->W}(h:m ρ A=.ok (.tup (o.map f)) A)(hl:o.length<=zZ)(he:∀a∈o,me (some (f a)::cap.map λ i=>(ρ[i]?).join) A=.ok (G a) A):
  zU 1 cap (qE m) (zJ 0) (zi (.bl true)) (zM me) ρ A=.ok (o.map G) A:=by
 by_cases h0:o=[]
 ·subst h0
  have e:=Q5 (cap:=cap) (me:=me) (ρ:=ρ) (A:=A) (N:=0) (item:=λ _=>.non) (g:=λ _=>.non) (Jh h) rfl (by unfold zZ;omega) (λ i hi=>by omega) rfl (λ i hi=>by omega)
  exact e
 ·obtain ⟨x,hx⟩:∃x,x∈o:=List.exists_mem_of_ne_nil o h0
  have e:=Q5 (cap:=cap) (me:=me) (ρ:=ρ) (A:=A) (N:=o.length) (item:=λ i=>f (o.getD i x)) (g:=λ i=>G (o.getD i x)) (Jh h) (length_map ..) hl
   (λ i hi=>by show some (o.map f)[i]? =_;rw [getElem?_map,getElem?_eq_getElem hi,getD_eq_getElem?_getD,getElem?_eq_getElem hi];rfl)
   (by show some (o.map f)[o.length]? =_;rw [getElem?_eq_none (by rw [length_map];exact le_refl _)])
   (λ i hi=>by
    have:o.getD i x=o[i]:=by rw [getD_eq_getElem?_getD,getElem?_eq_getElem hi];rfl
    rw [this];exact he _ (getElem_mem hi))
  rw [e]
  congr 1
  apply ext_getElem
  ·simp
  ·intro i h1 h2
   have hi:i<o.length:=by simpa using h2
   simp [getD_eq_getElem?_getD,getElem?_eq_getElem hi]
theorem JP {α β:Type}(o:List α)(x:α)(f:α->β):o.map f=(List.range o.length).map λ i=>f (o.getD i x):=by
 apply ext_getElem
 ·simp
 ·intro i h1 h2
  have hi:i<o.length:=by simpa using h1
  simp [getD_eq_getElem?_getD,getElem?_eq_getElem hi]
theorem Qn {t:List (List Int)}(hq:∀r∈t,r.length=t.length){v:Int}(h:v∈t.flatten):∃a b,a<t.length/\b<t.length/\at2 t a b=v:=by
 obtain ⟨r,hr,hv⟩:=List.mem_flatten.mp h;obtain ⟨a,ha,e1⟩:=getElem_of_mem hr;obtain ⟨b,hb,e2⟩:=getElem_of_mem hv;refine ⟨a,b,ha,by rw [<- hq r hr];exact hb,?_⟩
 unfold at2;have e3:t.getD a []=r:=by rw [getD_eq_getElem?_getD,getElem?_eq_getElem ha];exact e1
 rw [e3,getD_eq_getElem?_getD,getElem?_eq_getElem hb];exact e2
theorem KR {t:List (List Int)}(hq:∀r∈t,r.length=t.length){a b:Nat}(ha:a<t.length)(hb:b<t.length):∃r∈t,at2 t a b∈r/\at2 t a b∈t.flatten:=by
 have h1:t.getD a []∈t:=yq ha;have h2:at2 t a b∈t.getD a []:=by
  unfold at2;have hb':b<(t.getD a []).length:=by rw [hq _ h1];exact hb
  rw [getD_eq_getElem?_getD (l:=t.getD a []),getElem?_eq_getElem hb'];exact getElem_mem _
 exact ⟨_,h1,h2,List.mem_flatten.mpr ⟨_,h1,h2⟩⟩
theorem S9 {r:List Int}{x:Int}(h:x∈r):x<=k8 r:=by
 cases r with
 | nil=>cases h
 | cons i is=>
  show x<=jR is i;rcases List.mem_cons.mp h with rfl | h
  ·exact (Ya is x).1
  ·exact (Ya is i).2 x h
end Mi
namespace G
open PySem L2 Mi
section
variable {t:List (List Int)}
theorem Vq (h:qA t){a b:Nat}(ha:a<t.length)(hb:b<t.length):at2 t a b<jd t:=by
 obtain ⟨r,hr,h1,_⟩:=KR h.sq ha hb;have e1:=S9 h1;have e2:=S9 (List.mem_map.mpr ⟨r,hr,rfl⟩:k8 r∈t.map k8);unfold jd;omega
theorem X6 (h:qA t):jd t - 1∈t.flatten:=by
 obtain ⟨r,hr,e⟩:=List.mem_map.mp (Kz h.map_ne)
 have:jd t - 1=k8 r:=by unfold jd;omega
 rw [this];exact List.mem_flatten.mpr ⟨r,hr,Kz (h.row_ne hr)⟩
theorem Ep (h:qA t):jd t<=(t.length:Int):=by
 obtain ⟨r,hr,hv⟩:=List.mem_flatten.mp (X6 h)
 have:=h.lo r hr _ hv
 omega
theorem Ez (h:qA t){v:Nat}(hv:(v:Int)<jd t):∃a b,a<t.length/\b<t.length/\at2 t a b=(v:Int):=by
 by_cases e:(v:Int)=jd t - 1
 ·rw [e];exact Qn h.sq (X6 h)
 ·exact Qn h.sq (h.fu v ⟨_,X6 h,by omega⟩)
noncomputable def jY (p:List Nat):List Int:=0::p.map λ (k:Nat)=>1+(k:Int)
noncomputable def Qy (t:List (List Int))(p o:List Nat):List (List Int):=o.map λ a=>o.map λ b=>(jY p).getD (at2 t a b).toNat 0
theorem SV {p:List Nat}{v:Nat}(h1:1<=v)(h2:v<=p.length):(jY p).getD v 0=1+((p[v - 1]'(by omega):Nat):Int):=by
 obtain ⟨v,rfl⟩:∃u,v=u+1:=⟨v - 1,by omega⟩
 unfold jY;rw [getD_eq_getElem?_getD,List.getElem?_cons_succ,getElem?_map,getElem?_eq_getElem (by omega)]
 rfl
theorem Ll (h:qA t){p o:List Nat}(hp:p.Perm (List.range (jd t - 1).toNat))(ho:o.Perm (List.range t.length)):qA (Qy t p o)/\(Qy t p o).length=t.length:=by
 have hol:o.length=t.length:=by rw [ho.length_eq,length_range]
 have kb:=Qw h;have kl:=Ep h;have hpl:p.length=(jd t - 1).toNat:=by rw [hp.length_eq,length_range]
 have n1:=h.n1;have hin:∀i,o.getD i 0<t.length:=λ i=>by
  by_cases hi:i<o.length
  ·rw [getD_eq_getElem?_getD,getElem?_eq_getElem hi]
   exact List.mem_range.mp (ho.mem_iff.mp (getElem_mem hi))
  ·rw [getD_eq_getElem?_getD,getElem?_eq_none (by omega)]
   exact n1
 have hnd:o.Nodup:=(ho.nodup_iff).mpr List.nodup_range;have hsur:∀a,a<t.length->∃i,i<t.length/\o.getD i 0=a:=λ a ha=>by
  obtain ⟨i,hi,e⟩:=getElem_of_mem (ho.mem_iff.mpr (List.mem_range.mpr ha));exact ⟨i,by omega,by rw [getD_eq_getElem?_getD,getElem?_eq_getElem hi];exact e⟩
 have hplt:∀q (hq:q<p.length),p[q]<p.length:=λ q hq=>by
  have:=List.mem_range.mp (hp.mem_iff.mp (getElem_mem hq))
  omega
 have hM:Mu t.length (λ i j=>(jY p).getD (at2 t (o.getD i 0) (o.getD j 0)).toNat 0) p.length (λ _ _=>True):=by
  refine ⟨λ i=>?_,λ i j=>?_,λ i j hij hj _=>?_,λ i j _ _ hn=>absurd trivial hn,λ k k1 kc=>?_⟩
  ·show (jY p).getD (at2 t (o.getD i 0) (o.getD i 0)).toNat 0=0
   rw [(h.dg _ _ (hin i) (hin i)).mpr rfl]
   rfl
  ·show (jY p).getD (at2 t (o.getD i 0) (o.getD j 0)).toNat 0=(jY p).getD (at2 t (o.getD j 0) (o.getD i 0)).toNat 0
   rw [h.sy _ _ (hin i) (hin j)]
  ·show 1<=(jY p).getD (at2 t (o.getD i 0) (o.getD j 0)).toNat 0/\(jY p).getD (at2 t (o.getD i 0) (o.getD j 0)).toNat 0<=(p.length:Int)
   have hne:o.getD i 0≠o.getD j 0:=by
    have hi':i<o.length:=by omega
    have hj':j<o.length:=by omega
    rw [getD_eq_getElem?_getD,getElem?_eq_getElem hi',getD_eq_getElem?_getD,getElem?_eq_getElem hj'];intro e;have e':o[i]=o[j]:=e
    have:=(List.getElem_inj hnd).mp e'
    omega
   have d:=h.dg _ _ (hin i) (hin j);have b0:=Ud h (hin i) (hin j);have b2:=Vq h (hin i) (hin j);have b3:at2 t (o.getD i 0) (o.getD j 0)≠0:=λ e=>hne (d.mp e);rw [SV (by omega) (by omega)]
   have:=hplt ((at2 t (o.getD i 0) (o.getD j 0)).toNat - 1) (by omega)
   omega
  ·obtain ⟨q,hq,e⟩:=getElem_of_mem (hp.mem_iff.mpr (List.mem_range.mpr (by omega:k - 1<(jd t - 1).toNat)))
   obtain ⟨a,b,ha,hb,e2⟩:=Ez h (v:=q+1) (by omega)
   obtain ⟨i,hi,e3⟩:=hsur a ha;obtain ⟨j,hj,e4⟩:=hsur b hb;refine ⟨i,j,hi,hj,?_⟩;show (jY p).getD (at2 t (o.getD i 0) (o.getD j 0)).toNat 0=(k:Int);rw [e3,e4,e2,toNat_natCast,SV (by omega) (by omega)]
   have:p[q+1 - 1]'(by omega)=k - 1:=e
   rw [this];omega
 have hT:Qy t p o=j8 t.length (λ i j=>(jY p).getD (at2 t (o.getD i 0) (o.getD j 0)).toNat 0):=by
  unfold Qy j8;rw [JP o 0,hol]
  congr 1
  funext i
  rw [JP o 0 (λ b=>(jY p).getD (at2 t (o.getD i 0) b).toNat 0),hol]
 refine ⟨?_,by unfold Qy;rw [length_map,hol]⟩
 rw [hT];exact hM.tab (λ _ _ _ _=>trivial) n1 h.n8 (.inr (by omega))
end
end G
namespace Mi
open PySem L2
theorem S8 {A:Hx}{r b:Nat}{ws:List W}{v:W}(h:A[r]? =some (.lst ws))(hb:b<ws.length):yv (.ref r) (.int (b:Int)) v A=.ok () (A.set r (.lst (ws.set b v))):=by
 have e:w8 ws.length (b:Int)=some b:=by unfold w8;rw [if_pos (by omega),if_pos (by omega),toNat_natCast]
 unfold yv;dsimp only;rw [h];dsimp only;rw [e]
structure Kp (n:Nat)(A B:Hx):Prop where
 len:A.length<=B.length
 at_:∀i,i<A.length->i≠n->B[i]? =A[i]?
section
variable {n:Nat}{A B C:Hx}
theorem Kp.refl:Kp n A A:=⟨le_refl _,λ _ _ _=>rfl⟩
theorem Kp.trans (a:Kp n A B)(b:Kp n B C):Kp n A C:=⟨le_trans a.len b.len,λ i h1 h2=>(b.at_ i (lt_of_lt_of_le h1 a.len) h2).trans (a.at_ i h1 h2)⟩
theorem Kp.set {o:O}:Kp n A (A.set n o):=⟨by rw [length_set];exact le_refl _,λ i _ h=>getElem?_set_ne (Ne.symm h)⟩
theorem Kp.ext (x:Ext A B):Kp n A B:=by
 obtain ⟨l,rfl⟩:=x;exact ⟨by simp,λ i h _=>getElem?_append_left h⟩
theorem Kp.put (a:Kp n A B){k:Nat}{o:O}(h:A.length<=k):Kp n A (B.set k o):=⟨by rw [length_set];exact a.len,λ i h1 h2=>by rw [getElem?_set_ne (by omega)];exact a.at_ i h1 h2⟩
theorem Kp.get (a:Kp n A B){i:Nat}{o:O}(h:A[i]? =some o)(hn:i≠n):B[i]? =some o:=by rw [a.at_ i (gi h) hn];exact h
end
theorem Jc {n:Nat}{μ:Nat->Nat->Int}:(j8 n μ).length=n:=by unfold j8;simp
theorem KZ {n:Nat}{μ:Nat->Nat->Int}:∀r∈j8 n μ,r.length=(j8 n μ).length:=λ r hr=>by
 obtain ⟨i,_,rfl⟩:=List.mem_map.mp hr;rw [Jc];simp
end Mi
namespace G
open PySem L2 Mi
section
variable {ns:List Int}{Pt:Addr}{n:Nat}{A:Hx}{t:List (List Int)}
end
end G
namespace Mi
open PySem L2
section
variable {t:List (List Int)}{o:List Nat}{p q:Nat}
end
end Mi
namespace G
open PySem L2 Mi
section
variable {t:List (List Int)}{o:List Nat}{w:W}{A:Hx}
noncomputable abbrev Sq (t:List (List Int)):Prop:=∀r∈t,r.length=t.length
end
end G
namespace Mi
open PySem L2
noncomputable def Uk (t:List (List Int)):Bool:=decide (1<=t.length)&&(decide (t.length<=8)&&((t.all λ r=>r.length==t.length&&r.all λ v=>decide (0<=v)&&decide (v<(t.length:Int)))&&
 (((List.range t.length).all λ a=>(List.range t.length).all λ b=>(decide (at2 t a b=0)==decide (a=b))&&decide (at2 t a b=at2 t b a))&&(List.range 8).all λ k=>!(t.flatten.any λ v=>decide ((k:Int)<v)) || t.flatten.contains (k:Int))))
theorem FC {t:List (List Int)}(h:Uk t=true):qA t:=by
 unfold Uk at h;rw [and_eq_true,and_eq_true,and_eq_true,and_eq_true,decide_eq_true_iff,decide_eq_true_iff] at h;obtain ⟨n1,n8,hr,hs,hf⟩:=h;have rw_:∀r∈t,r.length=t.length/\∀v∈r,0<=v/\v<(t.length:Int):=λ r hm=>by
  have:=List.all_eq_true.mp hr r hm
  rw [and_eq_true,beq_iff_eq] at this;refine ⟨this.1,λ v hv=>?_⟩
  have:=List.all_eq_true.mp this.2 v hv
  rw [and_eq_true,decide_eq_true_iff,decide_eq_true_iff] at this;exact this
 have at_:∀a b,a<t.length->b<t.length->(decide (at2 t a b=0)==decide (a=b))=true/\at2 t a b=at2 t b a:=λ a b ha hb=>by
  have:=List.all_eq_true.mp (List.all_eq_true.mp hs a (List.mem_range.mpr ha)) b (List.mem_range.mpr hb)
  rw [and_eq_true,decide_eq_true_iff] at this;exact this
 refine ⟨n1,n8,λ r hm=>(rw_ r hm).1,λ r hm=>(rw_ r hm).2,λ a b ha hb=>?_,λ a b ha hb=>(at_ a b ha hb).2,λ k hk=>?_⟩
 ·have:=beq_iff_eq.mp (at_ a b ha hb).1
  by_cases q:a=b
  ·rw [decide_eq_true q] at this;exact ⟨λ _=>q,λ _=>of_decide_eq_true this⟩
  ·rw [decide_eq_false q] at this;exact ⟨λ z=>absurd z (of_decide_eq_false this),λ z=>absurd z q⟩
 ·obtain ⟨v,hv,hlt⟩:=hk
  obtain ⟨r,hm,hv'⟩:=List.mem_flatten.mp hv
  have:=(rw_ r hm).2 v hv'
  have h8:=List.all_eq_true.mp hf k (List.mem_range.mpr (by omega))
  rw [or_eq_true] at h8;rcases h8 with z | z
  ·exfalso
   have:(t.flatten.any λ v=>decide ((k:Int)<v))=true:=List.any_eq_true.mpr ⟨v,hv,decide_eq_true hlt⟩
   rw [this] at z;cases z
  ·exact List.contains_iff_mem.mp z
end Mi
namespace G
open PySem L2 Mi
section
variable (A:Hx)
end
section
variable {ns:List Int}{Pt:Addr}{n:Nat}{A:Hx}{t:List (List Int)}
end
end G
namespace Mi
open PySem L2
structure Part (w:W):Prop where
 ty:∃ty,∀A,qX w A=some ty
 dt:∃d,∀A,ql A 7 w=some d
noncomputable def Za:W->Bool
 | .int _=>true
 | _=>false
inductive g9 (A:Hx)(w:W):Prop
 | tup (ws:List W) (e:w=.tup ws) (hl:ws.length<=100) (h:∀x∈ws,Part x)
 | oth (ty:Ty) (h:qX w A=some ty) (hn:ty≠.tup)
inductive Z6 (A:Hx)(w:W):Prop
 | tup (ws:List W) (e:w=.tup ws) (hl:ws.length<=100) (h:∀x∈ws,g9 A x)
 | oth (ty:Ty) (h:qX w A=some ty) (hn:ty≠.tup)
noncomputable def CH (n:Nat)(w:W):Prop:=∃r:List Int,w=zW r/\r.length=n
noncomputable def YB (n:Nat)(w:W):Prop:=∃r:List Int,w=zW r/\r.length=n/\∀v∈r,0<=v/\v<(n:Int)
theorem all_ints:∀{ws:List W},ws.all Za=true->∃r:List Int,ws=r.map W.int
 | [],_=>⟨[],rfl⟩
 | w::ws,h=>by
  rw [List.all_cons,and_eq_true] at h;obtain ⟨r,rfl⟩:=all_ints h.2;cases w with
  | int i=>exact ⟨i::r,rfl⟩
  | _=>cases h.1
theorem LA (r:List Int):(r.map W.int).all Za=true:=by
 rw [all_map];exact List.all_eq_true.mpr λ _ _=>rfl
theorem KQ {α:Type}{A:Hx}(p:α->Bool)(l:List α):Z5 (l.map λ x=>W.bl (p x)) A=.ok (.bl (l.all p)) A:=by
 show Zv (λ ks=>ks.all id) _ A=_;unfold Zv;rw [Xx];dsimp only;rw [all_map]
 rfl
theorem Sj {r s:List Int}(h:zW r=zW s):r=s:=by
 unfold zW at h;injection h with h
 induction r generalizing s with
 | nil=>cases s with
  | nil=>rfl
  | cons _ _=>cases h
 | cons a r ih=>cases s with
  | nil=>cases h
  | cons b s=>
   simp only [map_cons,List.cons.injEq] at h;injection h.1 with h1
   rw [h1,ih h.2]
theorem Tn {j:jx}{st:W->Ex}{N:Nat}{I:Nat->En->Hx->Prop}{p:Nat->Prop}{J:Hx->Prop}{w:W}
  (hs:∀i ρ A,i<N->I i ρ A->∃x,j.at_ A i=some (some x)/\((p i/\∃ρ' A',st x ρ A=.ok (.nx ρ') A'/\I (i+1) ρ' A')∨(¬p i/\∃A',st x ρ A=.ok (.rt w) A'/\J A')))
  (hend:∀ρ A,I N ρ A->j.at_ A N=some none):
  ∀(f i:Nat) (ρ:En) (A:Hx),i+f=N->I i ρ A->((∀k,i<=k->k<N->p k)/\∃ρ' A',jW j st f i ρ A=.ok (.nx ρ') A'/\I N ρ' A')∨((∃k,i<=k/\k<N/\¬p k)/\∃A',jW j st f i ρ A=.ok (.rt w) A'/\J A'):=by
 intro f
 induction f with
 | zero=>
  intro i ρ A h hI
  have:i=N:=by omega
  subst this;exact .inl ⟨λ k h1 h2=>by omega,ρ,A,Tf (hend _ _ hI),hI⟩
 | succ f ih=>
  intro i ρ A h hI;obtain ⟨x,h1,h2⟩:=hs i ρ A (by omega) hI
  rcases h2 with ⟨hp,ρ',A',e,hI'⟩ | ⟨hp,A',e,hJ⟩
  ·rw [Su h1 e]
   rcases ih (i+1) ρ' A' (by omega) hI' with ⟨q,r⟩ | ⟨⟨k,q1,q2,q3⟩,r⟩
   ·refine .inl ⟨λ k k1 k2=>?_,r⟩
    by_cases z:k=i
    ·rw [z];exact hp
    ·exact q k (by omega) k2
   ·exact .inr ⟨⟨k,by omega,q2,q3⟩,r⟩
  ·exact .inr ⟨⟨i,le_refl _,by omega,hp⟩,A',Hc h1 e,hJ⟩
noncomputable def WO (t:List (List Int)):Prop:=∀a,a<t.length->∀b,b<t.length->(at2 t a b=0↔a=b)/\at2 t a b=at2 t b a
noncomputable def WI (t:List (List Int)):Prop:=∀k:Nat,(∃v∈t.flatten,(k:Int)<v)->(k:Int)∈t.flatten
structure QK (t:List (List Int)):Prop where
 n1:1<=t.length
 n8:t.length<=8
 sq:∀r∈t,r.length=t.length
 lo:∀r∈t,∀v∈r,0<=v/\v<(t.length:Int)
noncomputable def IsT (w:W):Prop:=∃t,qA t/\w=zy t
theorem QK.tab {t:List (List Int)}(h:QK t)(e:WO t)(f:WI t):qA t:=⟨h.n1,h.n8,h.sq,h.lo,λ a b ha hb=>(e a ha b hb).1,λ a b ha hb=>(e a ha b hb).2,f⟩
theorem Ik {s t:List (List Int)}(h:zy s=zy t):s=t:=by
 unfold zy at h;injection h with h
 induction s generalizing t with
 | nil=>cases t with
  | nil=>rfl
  | cons _ _=>cases h
 | cons a r ih=>cases t with
  | nil=>cases h
  | cons b s=>
   simp only [map_cons,List.cons.injEq] at h;rw [Sj h.1,ih h.2]
theorem Hu {t:List (List Int)}(h:QK t):IsT (zy t)↔WO t/\WI t:=by
 constructor
 ·rintro ⟨s,hs,e⟩
  obtain rfl:=Ik e;exact ⟨λ a ha b hb=>⟨hs.dg a b ha hb,hs.sy a b ha hb⟩,hs.fu⟩
 ·rintro ⟨e,f⟩
  exact ⟨t,h.tab e f,rfl⟩
theorem Hy {ws:List W}(h1:1<=ws.length)(h8:ws.length<=8)(h:∀w∈ws,YB ws.length w):∃t,QK t/\ws=t.map zW:=by
 have:∀(n:Nat) (ws:List W),(∀w∈ws,YB n w)->∃t:List (List Int),ws=t.map zW/\∀r∈t,r.length=n/\∀v∈r,0<=v/\v<(n:Int):=by
  intro n ws
  induction ws with
  | nil=>intro _;exact ⟨[],rfl,λ _ h=>by cases h⟩
  | cons w ws ih=>
   intro h;obtain ⟨r,e,hl,hv⟩:=h w (mem_cons_self ..);obtain ⟨t,e2,ht⟩:=ih λ x hx=>h x (mem_cons_of_mem _ hx);refine ⟨r::t,by rw [e,e2];rfl,λ s hs=>?_⟩
   rcases List.mem_cons.mp hs with rfl | hs
   ·exact ⟨hl,hv⟩
   ·exact ht s hs
 obtain ⟨t,e,ht⟩:=this ws.length ws h;have hl:ws.length=t.length:=by rw [e,length_map]
 rw [hl] at h1 h8 ht;exact ⟨t,⟨h1,h8,λ r hr=>(ht r hr).1,λ r hr=>(ht r hr).2⟩,e⟩
theorem Kt {ws:List W}(h:IsT (.tup ws)):1<=ws.length/\ws.length<=8/\∀w∈ws,YB ws.length w:=by
 obtain ⟨t,ht,e⟩:=h;unfold zy at e;injection e with e
 subst e;rw [length_map];refine ⟨ht.n1,ht.n8,λ w hw=>?_⟩;obtain ⟨r,hr,rfl⟩:=List.mem_map.mp hw;exact ⟨r,rfl,ht.sq r hr,ht.lo r hr⟩
end Mi
namespace G
open PySem L2 Mi
theorem Ht {w:W}(h:Part w)(A:Hx):wd [w] A=.ok (.bl (Za w)) A:=by
 obtain ⟨ty,h⟩:=h.ty;unfold wd Xp;cases w with
 | ref n=>have:=h [];simp [qX] at this
 | clo _ _ _=>have:=h [];simp [qX] at this
 | xc _=>have:=h [];simp [qX] at this
 | _=>exact ja (A1:=A) rfl
theorem Pf {ty:Ty}(h:ty≠.tup):yH ty .tup=false:=by
 cases ty<;>first | rfl | exact absurd rfl h
theorem Qz {m:Ev}{ρ:En}{A A1:Hx}{w:W}{ty c:Ty}(h:m ρ A=.ok w A1)(ht:qX w A1=some ty):yx c m ρ A=.ok (.bl (yH ty c)) A1:=by
 unfold yx;rw [h,zL,ht]
theorem Yk {ws:List W}{ρ:En}{i:Nat}{A:Hx}(h:ρ[i]? =some (some (.tup ws))):mQ qJ (qb (zc i)) ρ A=.ok (.int ws.length) A:=by
 rw [kj (wj (w:=.tup ws) (A1:=A) (zt h) rfl)]
 rfl
theorem Ig {w:W}{A:Hx}(h:g9 A w)(n:Nat):∃b,Qc [w,.int n] A=.ok (.bl b) A/\(b=true↔CH n w):=by
 unfold Qc U7;unfold Xd;cases h with
 | oth ty ht hn=>
  refine ⟨false,ja (qu (jb (Qq ((Qz (A1:=A) (zt (i:=0) rfl) ht).trans (by rw [Pf hn]))))),?_⟩
  refine ⟨λ z=>(by cases z),?_⟩
  rintro ⟨r,rfl,_⟩
  simp [zW,qX] at ht;exact absurd ht.symm hn
 | tup ws e hl hp=>
  subst e;have el:=Yk (ws:=ws) (ρ:=[some (.tup ws),some (.int n)]) (i:=0) (A:=A) rfl;have e1:=(zN el (zt (ρ:=[some (.tup ws),some (.int n)]) (A:=A) (i:=1) rfl)).trans (Z7 _ _ _);have e0:yx .tup (zc 0) [some (.tup ws),some (.int n)] A=.ok (.bl true) A:=rfl
  by_cases q:ws.length=n
  ·have ec:=Sv (cap:=[]) (A:=A) (ρ:=[some (.tup ws),some (.int n)]) (ws:=ws) (me:=zF wd (zh (zc 0) (zp))) (g:=λ w=>.bl (Za w)) (zt (i:=0) rfl) (by unfold zZ;omega) (λ w hw=>(zX (ws:=[w]) (A1:=A) rfl).trans (Ht (hp w hw) A))
   refine ⟨ws.all Za,ja (qu (jb ((Zn e0).trans ((Zn (e1.trans (by rw [decide_eq_true (by omega)]))).trans ((kj ec).trans (KQ Za ws)))))),?_⟩
   constructor
   ·intro z
    obtain ⟨r,rfl⟩:=all_ints z;rw [length_map] at q;exact ⟨r,rfl,q⟩
   ·rintro ⟨r,e,_⟩
    unfold zW at e;injection e with e
    rw [e];exact LA r
  ·refine ⟨false,ja (qu (jb ((Zn e0).trans (Qq (e1.trans (by rw [decide_eq_false (by omega)])))))),?_⟩
   refine ⟨λ z=>(by cases z),?_⟩
   rintro ⟨r,e,hr⟩
   unfold zW at e;injection e with e
   rw [e,length_map] at q;exact absurd hr q
theorem Rn {ρ:En}{A:Hx}{me:Ev}{v n:Int}{i:Nat}(hi:ρ[i]? =some (some (.int v)))(hn:me ρ A=.ok (.int n) A):yB kM QR (zi (.int 0)) (zc i) me ρ A=.ok (.bl (decide (0<=v)&&decide (v<n))) A:=by
 unfold yB;rw [qR,zL,zt hi,zL];show R.bind (R.ok (W.bl (decide ((0:Int)<=v))) A) _=_
 by_cases h:0<=v
 ·rw [decide_eq_true h,zL]
  dsimp only;rw [hn,zL]
  rfl
 ·rw [decide_eq_false h,zL]
  rfl
theorem Hl {w:W}{A:Hx}(h:g9 A w)(n:Nat):∃b,Qa [w,.int n,.int n] A=.ok (.bl b) A/\(b=true↔YB n w):=by
 obtain ⟨b,e,hb⟩:=Ig h n;unfold Qa UO;unfold WW;have e0:zF Qc (zh (zc 0) (zh (zc 1) (zp))) [some w,some (.int n),some (.int n)] A=.ok (.bl b) A:=(zX (ws:=[w,.int n]) (A1:=A) rfl).trans e;cases b with
 | false=>
  refine ⟨false,ja (qu (jb (Qq e0))),λ z=>(by cases z),?_⟩
  rintro ⟨r,e1,e2,_⟩
  exact hb.mpr ⟨r,e1,e2⟩
 | true=>
  obtain ⟨r,rfl,hr⟩:=hb.mp rfl;have hl:r.length<=100:=by
   cases h with
   | tup ws e hl _=>unfold zW at e;injection e with e;rw [<- e,length_map] at hl;exact hl
   | oth ty ht hn=>simp [zW,qX] at ht;exact absurd ht.symm hn
  have ec:=T8 (cap:=[2]) (A:=A) (ρ:=[some (zW r),some (.int n),some (.int n)]) (o:=r) (f:=W.int) (m:=zc 0) (me:=yB kM QR (zi (.int 0)) (zc 0) (zc 1)) (G:=λ v=>.bl (decide (0<=v)&&decide (v<(n:Int)))) (zt (i:=0) rfl) (by unfold zZ;omega) (λ v hv=>Rn rfl (zt rfl))
  refine ⟨_,ja (qu (jb ((Zn e0).trans ((kj ec).trans (KQ (λ v=>decide (0<=v)&&decide (v<(n:Int))) r))))),?_⟩;rw [all_eq_true]
  constructor
  ·intro z
   exact ⟨r,rfl,hr,λ v hv=>by have:=z v hv;simp at this;exact this⟩
  ·rintro ⟨s,e,_,hs⟩ v hv
   obtain rfl:=Sj e
   have:=hs v hv
   simp;exact this
theorem HA {p q:Prop}{a b:Bool}(h1:a=true↔p)(h2:b=true↔q):(a&&b)=true↔p/\q:=by
 rw [and_eq_true,h1,h2]
theorem EY {t:List (List Int)}(h:QK t)(A:Hx):∃b,JX [zy t] A=.ok (.bl b) A/\(b=true↔WO t):=by
 suffices z:∃b A1,TQ [zy t] []=.ok (.bl b) A1/\(b=true↔WO t) by
  obtain ⟨b,A1,e,hb⟩:=z;exact ⟨b,ZV (by show ((zy t).nr&&true)=true;rw [kC];rfl) rfl e,hb⟩
 have hlen:(t.map zW).length=t.length:=length_map ..;rcases Tn (N:=t.length) (p:=λ a=>∀b,b<t.length->(at2 t a b=0↔a=b)/\at2 t a b=at2 t b a) (J:=λ _=>True) (w:=.bl false) (I:=λ _ ρ A=>A=[]/\∃y1 y2 y3 y4,ρ=[some (zy t),y1,y2,y3,y4])
  (j:=wV (zy t) (t.map zW).length) (st:=turn (yW 1 2) (zq (yI (ZZ (zc 2)) (yW 3 4) (zq (qN (wF (zo jF (zo jf (zc 4) (zi (.int 0))) (zo jf (zc 1) (zc 3))) (zo jF (zo zB (zo zB (zc 0) (zc 3)) (zc 1)) (zc 4))) (zq (qk (zi (.bl false))) (zA)) (zA)) (zA))) (zA)))
  (λ a ρ A ha ⟨hA,hρ⟩=>by
   subst hA;obtain ⟨y1,y2,y3,y4,rfl⟩:=hρ;have hrl:=h.sq _ (yq ha);have hl2:((t.getD a []).map W.int).length=t.length:=by rw [length_map,hrl]
   refine ⟨_,VP (VE ha),?_⟩;rcases Tn (N:=t.length) (p:=λ b=>(at2 t a b=0↔a=b)/\at2 t a b=at2 t b a) (J:=λ _=>True) (w:=.bl false) (I:=λ _ ρ A=>A=[]/\∃y3 y4,ρ=[some (zy t),some (.int a),some (zW (t.getD a [])),y3,y4])
    (j:=wV (zW (t.getD a [])) ((t.getD a []).map W.int).length) (st:=turn (yW 3 4) (zq (qN (wF (zo jF (zo jf (zc 4) (zi (.int 0))) (zo jf (zc 1) (zc 3))) (zo jF (zo zB (zo zB (zc 0) (zc 3)) (zc 1)) (zc 4))) (zq (qk (zi (.bl false))) (zA)) (zA)) (zA)))
    (λ b ρ A hb ⟨hA,hρ⟩=>by
     subst hA;obtain ⟨y3,y4,rfl⟩:=hρ;have hbl:=h.sq _ (yq hb);refine ⟨_,VP (int_at (by omega)),?_⟩
     have e1:zo jF (zo jf (zc 4) (zi (.int 0))) (zo jf (zc 1) (zc 3)) [some (zy t),some (.int a),some (zW (t.getD a [])),some (.int b),some (.int ((t.getD a []).getD b 0))] []=.ok (.bl (!(decide (at2 t a b=0)==decide ((a:Int)=b)))) []:=
      (zN ((zN (zt (i:=4) rfl) (qR (w:=.int 0))).trans (Z7 _ _ _)) ((zN (zt (i:=1) rfl) (zt (i:=3) rfl)).trans (Z7 _ _ _))).trans (PX _ _ _)
     have e2:zo jF (zo zB (zo zB (zc 0) (zc 3)) (zc 1)) (zc 4) [some (zy t),some (.int a),some (zW (t.getD a [])),some (.int b),some (.int ((t.getD a []).getD b 0))] []=.ok (.bl (!decide (at2 t b a=at2 t a b))) []:=
      (zN ((zN ((zN (zt (i:=0) rfl) (zt (i:=3) rfl)).trans (ZR hb)) (zt (i:=1) rfl)).trans (Yd (by omega))) (zt (i:=4) rfl)).trans (P6 _ _ _)
     by_cases q1:at2 t a b=0↔a=b
     ·have e1':(!(decide (at2 t a b=0)==decide ((a:Int)=b)))=false:=by
       have:decide (at2 t a b=0)=decide ((a:Int)=b):=decide_eq_decide.mpr (q1.trans ⟨λ z=>by omega,λ z=>by omega⟩)
       rw [this];simp
      rw [e1'] at e1
      by_cases q2:at2 t a b=at2 t b a
      ·have e2':(!decide (at2 t b a=at2 t a b))=false:=by rw [decide_eq_true q2.symm];rfl
       rw [e2'] at e2;exact .inl ⟨⟨q1,q2⟩,_,[],(wg rfl).trans ((zI ((yd (A1:=[]) ((Yn e1).trans e2)).trans jD)).trans jD),rfl,_,_,rfl⟩
      ·have e2':(!decide (at2 t b a=at2 t a b))=true:=by rw [decide_eq_false (λ z=>q2 z.symm)];rfl
       rw [e2'] at e2;exact .inr ⟨λ z=>q2 z.2,[],(wg rfl).trans (qu ((kX (A1:=[]) ((Yn e1).trans e2)).trans (qu (jb qR)))),trivial⟩
     ·have e1':(!(decide (at2 t a b=0)==decide ((a:Int)=b)))=true:=by
       have:decide (at2 t a b=0)≠decide ((a:Int)=b):=λ z=>q1 ((decide_eq_decide.mp z).trans ⟨λ z=>by omega,λ z=>by omega⟩)
       rw [Bool.not_eq_true',beq_eq_false_iff_ne];exact this
      rw [e1'] at e1;exact .inr ⟨λ z=>q1 z.1,[],(wg rfl).trans (qu ((kX (A1:=[]) (Pn e1)).trans (qu (jb qR)))),trivial⟩)
    (λ ρ A _=>by have:=Vv (A:=A) (ws:=(t.getD a []).map W.int);rw [hl2] at this ⊢;exact this) t.length 0 [some (zy t),some (.int a),some (zW (t.getD a [])),y3,y4] [] (by omega) ⟨rfl,_,_,rfl⟩ with ⟨q,ρ',A',e,rfl,z3,z4,hz⟩ | ⟨⟨k,_,k2,k3⟩,A',e,_⟩
   ·rw [hz] at e
    refine .inl ⟨λ b hb=>q b (zero_le _) hb,[some (zy t),some (.int a),some (zW (t.getD a [])),z3,z4],[],(wg rfl).trans ((zI ((wL (JT (zt (i:=2) rfl))).trans ?_)).trans jD),rfl,_,_,_,_,rfl⟩
    ·show jW (wV (zW (t.getD a [])) ((t.getD a []).map W.int).length) _ ((t.getD a []).map W.int).length 0 _ _=_
     rw [hl2] at e ⊢;exact e
   ·refine .inr ⟨λ z=>k3 (z k k2),A',(wg rfl).trans (qu ((wL (JT (zt (i:=2) rfl))).trans ?_)),trivial⟩
    show jW (wV (zW (t.getD a [])) ((t.getD a []).map W.int).length) _ ((t.getD a []).map W.int).length 0 _ _=_;rw [hl2] at e ⊢;exact e)
  (λ ρ A _=>by have:=Vv (A:=A) (ws:=t.map zW);rw [hlen] at this ⊢;exact this) t.length 0 [some (zy t),none,none,none,none] [] (by omega) ⟨rfl,_,_,_,_,rfl⟩ with ⟨q,ρ',A',e,_⟩ | ⟨⟨k,_,k2,k3⟩,A',e,_⟩
 ·refine ⟨true,A',ja ?_,λ _=>λ a ha=>q a (zero_le _) ha,λ _=>rfl⟩
  unfold Ks;refine (zI (ρ1:=ρ') (A1:=A') ((wL (JT (zt (i:=0) rfl))).trans ?_)).trans (qu (jb qR));show jW (wV (zy t) (t.map zW).length) _ (t.map zW).length 0 _ _=_;rw [hlen] at e ⊢;exact e
 ·refine ⟨false,A',ja ?_,λ z=>(by cases z),λ z=>absurd (z k k2) k3⟩
  unfold Ks;refine qu ((wL (JT (zt (i:=0) rfl))).trans ?_);show jW (wV (zy t) (t.map zW).length) _ (t.map zW).length 0 _ _=_;rw [hlen] at e ⊢;exact e
end G
namespace Mi
open PySem L2
theorem Xh:∀(l m:List Int),PyData.eqvAll (l.map PyData.int) (m.map PyData.int)=decide (l=m)
 | [],[]=>by simp [PyData.eqvAll]
 | [],_::_=>by simp [PyData.eqvAll]
 | _::_,[]=>by simp [PyData.eqvAll]
 | a::l,b::m=>by
  simp only [map_cons,PyData.eqvAll,Xh l m,PyData.eqv];rw [Bool.eq_iff_iff];simp
theorem XF {A:Hx}{n:Nat}:∀l:List Int,jX (ql A n) (l.map W.int)=some (l.map PyData.int)
 | []=>rfl
 | i::l=>by
  have:ql A n (.int i)=some (.int i):=by cases n<;>rfl
  show (match ql A n (.int i),jX (ql A n) (l.map W.int) with | some d,some ds=>some (d::ds) | _,_=>none)=_
  rw [this,XF l]
  rfl
theorem Yj {A:Hx}{r:Nat}{l:List Int}(h:A[r]? =some (.lst (l.map W.int))):ql A 8 (.ref r)=some (.list (l.map PyData.int)):=by
 show (match zO (.ref r) A with | some ws=>(jX (ql A 7) ws).map PyData.list | none=>none)=_
 have:zO (.ref r) A=some (l.map W.int):=by unfold zO;dsimp only;rw [h]
 rw [this];dsimp only;rw [XF]
 rfl
theorem BD {A:Hx}{r s:Nat}{l m:List Int}(h:A[r]? =some (.lst (l.map W.int)))(h2:A[s]? =some (.lst (m.map W.int))):jf (.ref r) (.ref s) A=.ok (.bl (decide (l=m))) A:=by
 show wX false _ _ A=_;unfold wX;rw [Yj h,Yj h2];dsimp only;rw [PyData.eqv,Xh]
 rfl
end Mi
namespace G
open PySem L2 Mi
theorem M5 {t:List (List Int)}(h:QK t):t.flatten.length<=64:=by
 have:∀l:List (List Int),(∀r∈l,r.length<=8)->l.flatten.length<=8 * l.length:=by
  intro l
  induction l with
  | nil=>intro _;simp
  | cons r l ih=>
   intro hr;have h1:=hr r (mem_cons_self ..);have h2:=ih λ r' hr'=>hr r' (mem_cons_of_mem _ hr');rw [flatten_cons,length_append,length_cons];omega
 have h8:=h.n8
 have:=this t λ r hr=>by rw [h.sq r hr];exact h.n8
 omega
theorem Fs {t:List (List Int)}(h:QK t)(A:Hx):∃b,JJ [zy t] A=.ok (.bl b) A/\(b=true↔WI t):=by
 have hfl:=M5 h;have hne:t.flatten≠[]:=by
  intro e;have h1:=h.n1;have hr:=h.sq _ (yq (t:=t) (a:=0) (by omega))
  have:t.getD 0 []=[]:=by
   have:=List.flatten_eq_nil_iff.mp e _ (yq (t:=t) (a:=0) (by omega))
   exact this
  rw [this] at hr;simp at hr;omega
 obtain ⟨v0,l0,el⟩:=List.exists_cons_of_ne_nil hne
 suffices z:∃b,UM [zy t] []=.ok (.bl b) [.lst (t.flatten.map W.int)]/\(b=true↔WI t) by
  obtain ⟨b,e,hb⟩:=z;exact ⟨b,ZV (by show ((zy t).nr&&true)=true;rw [kC];rfl) rfl e,hb⟩
 have hmax:jR l0 v0∈t.flatten:=by
  rw [el];rcases XW l0 v0 with e | e
  ·rw [e];exact mem_cons_self ..
  ·exact mem_cons_of_mem _ e
 have hge:∀v∈t.flatten,v<=jR l0 v0:=by
  rw [el];intro v hv
  have:=Ya l0 v0
  rcases List.mem_cons.mp hv with rfl | hv
  ·exact this.1
  ·exact this.2 v hv
 have hb:0<=jR l0 v0/\jR l0 v0<8:=by
  obtain ⟨r,hr,hv⟩:=List.mem_flatten.mp hmax
  have:=h.lo r hr _ hv
  have:=h.n8
  omega
 have em:mQ j9 (qb (zc 1)) [some (zy t),some (.ref 0)] [.lst (t.flatten.map W.int)]=.ok (.int (jR l0 v0)) [.lst (t.flatten.map W.int)]:=by
  rw [kj (wj (w:=.ref 0) (A1:=[.lst (t.flatten.map W.int)]) (ws:=t.flatten.map W.int) (zt rfl) rfl)];unfold j9;rw [Kh,el]
 generalize jR l0 v0=M at em hmax hb hge;obtain ⟨K,rfl⟩:=eq_ofNat_of_zero_le hb.1;have ec:=Q5 (cap:=[1]) (me:=zo Wz (zc 0) (zc 1)) (ρ:=[some (zy t),some (.ref 0)]) (A:=[.lst (t.flatten.map W.int)]) (N:=K) (j:=yO 0 K) (item:=λ i=>.int (0+i)) (g:=λ (i:Nat)=>.bl (decide ((i:Int)∈t.flatten)))
  ((Zl em (by unfold jI;simp;omega)).trans (by rw [toNat_natCast])) rfl (by unfold zZ;omega) (λ i hi=>gr hi) (gk (by omega))
  (λ i hi=>by
   refine (zN (zt (i:=0) (w:=.int (0+i)) rfl) (zt (i:=1) (w:=.ref 0) rfl)).trans ?_;show QH false _ _ _=_;unfold QH;have hs:zO (.ref 0) [O.lst (t.flatten.map W.int)]=some (t.flatten.map W.int):=rfl;rw [hs];dsimp only;have hf:(wR (.int (0+(i:Int)))&&(t.flatten.map W.int).all wR)=true:=by
    have:(t.flatten.map W.int).all wR=true:=List.all_eq_true.mpr λ w hw=>by obtain ⟨x,_,rfl⟩:=List.mem_map.mp hw;rfl
    rw [this];rfl
   rw [if_pos hf];have hin:JH (.int (0+(i:Int))) (t.flatten.map W.int)=decide ((i:Int)∈t.flatten):=by
    rw [Bool.eq_iff_iff,decide_eq_true_iff];unfold JH;rw [List.any_eq_true]
    constructor
    ·rintro ⟨w,hw,e⟩
     obtain ⟨x,hx,rfl⟩:=List.mem_map.mp hw
     have:(x==0+(i:Int))=true:=e
     have:x=0+(i:Int):=eq_of_beq this
     rw [zero_add] at this;exact this ▸ hx
    ·intro z
     refine ⟨.int i,List.mem_map.mpr ⟨(i:Int),z,rfl⟩,?_⟩;show ((i:Int)==0+(i:Int))=true;rw [zero_add];exact beq_self_eq_true _
   rw [hin]
   rfl)
 refine ⟨(List.range K).all λ (i:Nat)=>decide ((i:Int)∈t.flatten),ja ?_,?_⟩
 ·unfold WU
  refine (zI (ρ1:=[some (zy t),some (.ref 0)]) (A1:=[.lst (t.flatten.map W.int)]) ((qL (gh (Fu (zt rfl) (by unfold zZ;omega)))).trans rfl)).trans (qu (jb ?_))
  exact (kj ec).trans (KQ _ _)
 ·rw [all_eq_true]
  constructor
  ·rintro z k ⟨v,hv,hk⟩
   have:=hge v hv
   exact of_decide_eq_true (z k (List.mem_range.mpr (by omega)))
  ·intro z k hk
   have:=List.mem_range.mp hk
   exact decide_eq_true (z k ⟨_,hmax,by omega⟩)
theorem HP {ρ:En}{A:Hx}{me:Ev}{n:Nat}(hn:me ρ A=.ok (.int n) A):yB kM kM (zi (.int 1)) me (zi (.int 8)) ρ A=.ok (.bl (decide (1<=n)&&decide (n<=8))) A:=by
 unfold yB;rw [qR,zL,hn,zL];show R.bind (R.ok (W.bl (decide ((1:Int)<=n))) A) _=_
 by_cases h:1<=n
 ·rw [decide_eq_true (show (1:Int)<=n by omega),zL,decide_eq_true h]
  dsimp only;rw [qR,zL];show R.ok (W.bl (decide ((n:Int)<=8))) A=_;rw [Bool.true_and]
  congr 2
  exact decide_eq_decide.mpr ⟨λ z=>by omega,λ z=>by omega⟩
 ·rw [decide_eq_false (show ¬(1:Int)<=n by omega),zL,decide_eq_false h]
  rfl
theorem FV {w:W}{A:Hx}{ρ:En}(h:Z6 A w)(h0:ρ[0]? =some (some w)):(wF (jM (yx .tup (zc 0))) (jM (yB kM kM (zi (.int 1)) (mQ qJ (qb (zc 0))) (zi (.int 8)))) ρ A=.ok (.bl true) A/\¬IsT w)∨
  (∃ws,w=.tup ws/\1<=ws.length/\ws.length<=8/\(∀x∈ws,g9 A x)/\wF (jM (yx .tup (zc 0))) (jM (yB kM kM (zi (.int 1)) (mQ qJ (qb (zc 0))) (zi (.int 8)))) ρ A=.ok (.bl false) A):=by
 cases h with
 | oth ty ht hn=>
  refine .inl ⟨Pn (kh (k:=false) ((Qz (zt h0) ht).trans (by rw [Pf hn]))),?_⟩
  rintro ⟨t,_,rfl⟩
  simp [zy,qX] at ht;exact absurd ht.symm hn
 | tup ws e hl hr=>
  subst e;have e0:jM (yx .tup (zc 0)) ρ A=.ok (.bl false) A:=kh (k:=true) ((Qz (zt h0) rfl).trans rfl);have e1:=kh (HP (Yk (A:=A) h0))
  by_cases q:1<=ws.length/\ws.length<=8
  ·refine .inr ⟨ws,rfl,q.1,q.2,hr,(Yn e0).trans (e1.trans ?_)⟩
   rw [decide_eq_true q.1,decide_eq_true q.2];rfl
  ·refine .inl ⟨(Yn e0).trans (e1.trans ?_),λ z=>q ⟨(Kt z).1,(Kt z).2.1⟩⟩
   by_cases q1:1<=ws.length
   ·rw [decide_eq_true q1,decide_eq_false λ z=>q ⟨q1,z⟩];rfl
   ·rw [decide_eq_false q1];rfl
theorem pick {α:Type}{P:α->Bool->Prop}{l:List α}(h:∀x∈l,∃b,P x b):∃f:α->Bool,∀x∈l,P x (f x):=by
 classical
 refine ⟨λ x=>if hx:x∈l then (h x hx).choose else false,λ x hx=>?_⟩
 have:(if hx:x∈l then (h x hx).choose else false)=(h x hx).choose:=dif_pos hx
 show P x (if hx:x∈l then (h x hx).choose else false);rw [this];exact (h x hx).choose_spec
theorem X9 {w:W}{A:Hx}(h:Z6 A w):∃b,gL [w] A=.ok (.bl b) A/\(b=true↔IsT w):=by
 unfold gL Tc;unfold Xl;rcases FV (ρ:=[some w,none]) h rfl with ⟨e,hn⟩ | ⟨ws,rfl,h1,h8,hr,e⟩
 ·exact ⟨false,ja (qu ((kX e).trans (qu (jb qR)))),λ z=>(by cases z),λ z=>absurd z hn⟩
 ·obtain ⟨f,hf⟩:=pick λ x hx=>Hl (hr x hx) ws.length
  have ec:=Sv (cap:=[1]) (A:=A) (ρ:=[some (.tup ws),some (.int ws.length)]) (ws:=ws) (me:=zF Qa (zh (zc 0) (zh (zc 1) (zh (zc 1) (zp))))) (g:=λ x=>.bl (f x)) (zt (i:=0) rfl) (by unfold zZ;omega) (λ x hx=>(zX (ws:=[x,.int ws.length,.int ws.length]) (A1:=A) rfl).trans (hf x hx).1)
  have ea:=kh ((kj ec).trans (KQ f ws));have go:∀(m1 m2 m3:Ex) (c:Ev),zq (qN (wF (jM (yx .tup (zc 0))) (jM (yB kM kM (zi (.int 1)) (mQ qJ (qb (zc 0))) (zi (.int 8))))) m1 zA) (zq (zQ 1 (mQ qJ (qb (zc 0)))) m2) [some (.tup ws),none] A=m2 [some (.tup ws),some (.int ws.length)] A:=λ m1 m2 m3 c=>
   (zI ((yd e).trans jD)).trans (zI ((qL (Yk rfl)).trans rfl))
  by_cases q:ws.all f=true
  ·rw [q] at ea
   have hg:∀x∈ws,YB ws.length x:=λ x hx=>(hf x hx).2.mp (List.all_eq_true.mp q x hx);obtain ⟨t,gt,et⟩:=Hy h1 h8 hg;have ew:W.tup ws=zy t:=by rw [et];rfl
   obtain ⟨b1,e1,k1⟩:=EY gt A;obtain ⟨b2,e2,k2⟩:=Fs gt A;refine ⟨b1&&b2,ja ((go _ _ zA JB).trans ((zI ((yd ea).trans jD)).trans (qu (jb ?_)))),?_⟩
   ·rw [ew]
    cases b1 with
    | true=>exact (Zn ((zX (ws:=[zy t]) (A1:=A) rfl).trans e1)).trans ((zX (ws:=[zy t]) (A1:=A) rfl).trans e2)
    | false=>exact Qq ((zX (ws:=[zy t]) (A1:=A) rfl).trans e1)
   ·rw [ew,Hu gt]
    exact HA k1 k2
  ·have q':ws.all f=false:=by cases h:ws.all f<;>simp_all
   rw [q'] at ea;refine ⟨false,ja ((go _ _ zA JB).trans (qu ((kX ea).trans (qu (jb qR))))),λ z=>(by cases z),λ z=>?_⟩
   exact absurd (List.all_eq_true.mpr λ x hx=>(hf x hx).2.mpr ((Kt z).2.2 x hx)) q
end G
namespace Mi
open PySem L2
noncomputable def Ky (A B:Hx):Prop:=∀w ty,qX w A=some ty->qX w B=some ty
theorem Ext.ky {A B:Hx}(x:Ext A B):Ky A B:=λ w ty h=>by
 cases w with
 | ref n=>
  unfold qX at h ⊢;dsimp only at h ⊢;cases e:A[n]? with
  | none=>rw [e] at h;cases h
  | some o=>rw [e] at h;rw [x.at e];exact h
 | _=>exact h
theorem g9.mono {A B:Hx}{w:W}(k:Ky A B)(h:g9 A w):g9 B w:=by
 cases h with
 | tup ws e hl h=>exact .tup ws e hl h
 | oth ty h hn=>exact .oth ty (k _ _ h) hn
theorem Z6.mono {A B:Hx}{w:W}(k:Ky A B)(h:Z6 A w):Z6 B w:=by
 cases h with
 | tup ws e hl h=>exact .tup ws e hl λ x hx=>(h x hx).mono k
 | oth ty h hn=>exact .oth ty (k _ _ h) hn
end Mi
namespace G
open PySem L2 Mi
section
variable {t:List (List Int)}{A B:Hx}{D a b:Nat}
end
end G
namespace Mi
open PySem L2
theorem Sk (i:Int):Part (.int i):=⟨⟨.int,λ _=>rfl⟩,⟨.int i,λ _=>rfl⟩⟩
theorem L6 (r:List Int):Part (zW r):=⟨⟨.tup,λ _=>rfl⟩,⟨.tuple (r.map PyData.int),λ A=>by
 show (jX (ql A 6) (r.map W.int)).map PyData.tuple=_;rw [XF];rfl⟩⟩
theorem IU {A:Hx}{r:List Int}(h:r.length<=100):g9 A (zW r):=.tup (r.map W.int) rfl (by rw [length_map];exact h) λ x hx=>by
 obtain ⟨v,_,rfl⟩:=List.mem_map.mp hx;exact Sk v
noncomputable def Ub:W->Bool
 | .non=>true
 | .bl _=>true
 | .int _=>true
 | .str x=>PyData.strOk x
 | .tup ws=>ws.all Za
 | _=>false
theorem part_of {w:W}(h:Ub w=true):Part w:=by
 cases w with
 | non=>exact ⟨⟨_,λ _=>rfl⟩,⟨_,λ _=>rfl⟩⟩
 | bl b=>exact ⟨⟨_,λ _=>rfl⟩,⟨_,λ _=>rfl⟩⟩
 | int i=>exact Sk i
 | str x=>exact ⟨⟨_,λ _=>rfl⟩,⟨.str x,λ A=>by show (if PyData.strOk x then some (PyData.str x) else none)=_;have h:PyData.strOk x=true:=h;rw [if_pos h]⟩⟩
 | tup ws=>
  obtain ⟨r,rfl⟩:=all_ints h;exact L6 r
 | _=>cases h
noncomputable def Uu:W->Bool
 | .non=>true
 | .bl _=>true
 | .int _=>true
 | .str _=>true
 | .tup ws=>decide (ws.length<=100)&&ws.all Ub
 | _=>false
theorem Hm {A:Hx}{w:W}(h:Uu w=true):g9 A w:=by
 cases w with
 | tup ws=>
  have h:(decide (ws.length<=100)&&ws.all Ub)=true:=h;rw [and_eq_true] at h;exact .tup ws rfl (of_decide_eq_true h.1) λ x hx=>part_of (List.all_eq_true.mp h.2 x hx)
 | non=>exact .oth .non rfl (by decide)
 | bl b=>exact .oth .bl rfl (by decide)
 | int b=>exact .oth .int rfl (by decide)
 | str b=>exact .oth .str rfl (by decide)
 | _=>cases h
noncomputable def UC:W->Bool
 | .non=>true
 | .bl _=>true
 | .int _=>true
 | .str _=>true
 | .tup ws=>decide (ws.length<=100)&&ws.all Uu
 | _=>false
theorem RI {A:Hx}{w:W}(h:UC w=true):Z6 A w:=by
 cases w with
 | tup ws=>
  have h:(decide (ws.length<=100)&&ws.all Uu)=true:=h;rw [and_eq_true] at h;exact .tup ws rfl (of_decide_eq_true h.1) λ x hx=>Hm (List.all_eq_true.mp h.2 x hx)
 | non=>exact .oth .non rfl (by decide)
 | bl b=>exact .oth .bl rfl (by decide)
 | int b=>exact .oth .int rfl (by decide)
 | str b=>exact .oth .str rfl (by decide)
 | _=>cases h
section
variable {m:Ev}{a:Ea}{ρ:En}{k:Nat}{w:W}
theorem R4 {A:Hx}{ws:List W}:qX (.ref A.length) (A++[.lst ws])=some .lst:=by
 unfold qX;dsimp only;rw [qU]
end
structure Kn (n:Nat)(A B:Hx):Prop where
 kp:Kp n A B
 st:G.qK n B
theorem _root_.G.qK.ty {n:Nat}{A:Hx}(h:G.qK n A):qX (.ref n) A=some .lst:=by
 obtain ⟨c,b,e,_⟩:=h;unfold qX;dsimp only;rw [e]
theorem _root_.G.qK.lt {n:Nat}{A:Hx}(h:G.qK n A):n<A.length:=by
 obtain ⟨c,b,e,_⟩:=h;exact gi e
theorem _root_.G.qK.ext {n:Nat}{A B:Hx}(h:G.qK n A)(x:Ext A B):G.qK n B:=by
 obtain ⟨c,b,e,r⟩:=h;exact ⟨c,b,x.at e,r⟩
theorem _root_.G.qK.put {n k:Nat}{A:Hx}{o:O}(h:G.qK n A)(hk:k≠n):G.qK n (A.set k o):=by
 obtain ⟨c,b,e,r⟩:=h;exact ⟨c,b,by rw [getElem?_set_ne hk];exact e,r⟩
theorem Kn.ky {n:Nat}{A B:Hx}(s:G.qK n A)(k:Kn n A B):Ky A B:=λ w ty h=>by
 cases w with
 | ref i=>
  by_cases q:i=n
  ·subst q
   rw [s.ty] at h;rw [k.st.ty];exact h
  ·unfold qX at h ⊢
   dsimp only at h ⊢
   by_cases z:i<A.length
   ·rw [k.kp.at_ i z q];exact h
   ·rw [getElem?_eq_none (by omega)] at h;cases h
 | _=>exact h
theorem Kn.trans {n:Nat}{A B C:Hx}(a:Kn n A B)(b:Kn n B C):Kn n A C:=⟨a.kp.trans b.kp,b.st⟩
theorem Kn.ext {n:Nat}{A B:Hx}(s:G.qK n A)(x:Ext A B):Kn n A B:=⟨Kp.ext x,s.ext x⟩
end Mi
namespace G
open PySem L2 Mi
theorem RD {n:Nat}{A:Hx}(h:qK n A){m:Int}(h1:0<m)(h2:m<1000000000000000):∃(r:Nat) (B:Hx),qC [.ref n,.int m] A=.ok (.int r) B/\(r:Int)<m/\Kn n A B/\B.length=A.length:=by
 obtain ⟨r,o,e,a,b,s⟩:=RY h h1 h2;exact ⟨r.toNat,A.set n o,by rw [e,toNat_of_nonneg a],by omega,⟨Kp.set,s⟩,length_set ..⟩
theorem ZP {n:Nat}{A:Hx}{ρ:En}{m:Int}{me:Ev}(h:qK n A)(h0:ρ[0]? =some (some (.ref n)))(hm:me ρ A=.ok (.int m) A)(h1:0<m)(h2:m<1000000000000000):∃(r:Nat) (B:Hx),zF qC (zh (zc 0) (zh me (zp))) ρ A=.ok (.int r) B/\(r:Int)<m/\Kn n A B/\B.length=A.length:=by
 obtain ⟨r,B,e,a⟩:=RD h h1 h2;exact ⟨r,B,(zX (zG (zt h0) (zG hm qa))).trans e,a⟩
section
variable {n:Nat}{A:Hx}{ρ:En}{a:Ea}{k i:Nat}
end
end G
namespace Mi
open PySem L2
noncomputable def wA (A:Hx)(w:W):Prop:=Z6 A w/\¬IsT w
theorem wA.mono {A B:Hx}{w:W}(k:Ky A B)(h:wA A w):wA B w:=⟨h.1.mono k,h.2⟩
theorem RH {k:Nat}:¬IsT (.ref k):=by rintro ⟨t,_,e⟩;cases e
end Mi
namespace G
open PySem L2 Mi
theorem DH {w:W}(hk:UC w=true)(h:gL [w] []=.ok (.bl false) []):¬IsT w:=λ z=>by
 obtain ⟨b,e,hb⟩:=X9 (RI (A:=[]) hk);rw [h] at e
 have:=hb.mpr z
 subst this;cases e
noncomputable def ET (m:Ev)(ρ:En):Prop:=∀A,∃w A1,m ρ A=.ok w A1/\Ext A A1/\wA A1 w
noncomputable def AT (a:Ea)(ρ:En)(k:Nat):Prop:=∀A,∃ws A1,a ρ A=.ok ws A1/\Ext A A1/\ws.length=k/\∀w∈ws,wA A1 w
section
variable {m:Ev}{a:Ea}{ρ:En}{k:Nat}{w:W}
theorem K6:AT zp ρ 0:=λ A=>⟨[],A,rfl,Ext.refl,rfl,λ _ h=>by cases h⟩
theorem j3 (h:ET m ρ)(t:AT a ρ k):AT (zh m a) ρ (k+1):=λ A=>by
 obtain ⟨w,A1,e1,x1,h1⟩:=h A;obtain ⟨ws,A2,e2,x2,l2,h2⟩:=t A1;refine ⟨w::ws,A2,zG e1 e2,x1.trans x2,by rw [length_cons,l2],λ y hy=>?_⟩
 rcases List.mem_cons.mp hy with rfl | hy
 ·exact h1.mono x2.ky
 ·exact h2 y hy
theorem yt (h:∀A,m ρ A=.ok w A)(hw:UC w=true)(hf:gL [w] []=.ok (.bl false) []:=by kernel_rfl):ET m ρ:=λ A=>⟨w,A,h A,Ext.refl,RI hw,DH hw hf⟩
theorem DP:ET JB ρ:=λ A=>⟨.ref A.length,A++[.dct []],rfl,Ext.one,.oth .dct (by unfold qX;dsimp only;rw [qU]) (by decide),RH⟩
end
section
variable {n:Nat}{A:Hx}{ρ:En}{a:Ea}{k i:Nat}
structure TL (A:Hx)(r k:Nat)(B:Hx):Prop where
 at_:∃ws,B[r]? =some (.lst ws)/\ws.length=k/\∀w∈ws,wA B w
 nw:A.length<=r
 ext:Ext A B
theorem E5 (h:AT a ρ k)(A:Hx):∃r B,zV a ρ A=.ok (.ref r) B/\TL A r k B:=by
 obtain ⟨ws,A1,e,x,hl,hw⟩:=h A;exact ⟨_,_,jU e,⟨ws,qU,hl,λ w hw'=>(hw w hw').mono Ext.one.ky⟩,x.len,x.app⟩
theorem VF {r j:Nat}{B:Hx}(t:TL A r j B)(h:AT a ρ k)(hi:ρ[i]? =some (some (.ref r)))(hl:j+k<=100):∃r' C,zo qH (zc i) (zV a) ρ B=.ok (.ref r') C/\TL A r' (j+k) C:=by
 obtain ⟨ws,e,l,hw⟩:=t.at_;obtain ⟨us,B1,e1,x1,l1,hu⟩:=h B;have x2:Ext B (B1++[.lst us]):=x1.app;refine ⟨_,_,(zN (zt hi) (jU e1)).trans (XZ (x2.at e) qU (by unfold zZ;omega)),⟨ws++us,qU,by rw [length_append,l,l1],λ w hw'=>?_⟩,?_,(t.ext.trans x2).app⟩
 ·rcases List.mem_append.mp hw' with q | q
  ·exact (hw w q).mono (x2.app).ky
  ·exact (hu w q).mono (Ext.one.trans Ext.one).ky
 ·have:=t.ext.len
  have:=x2.len
  omega
theorem Fb {r:Nat}{B:Hx}{m:Int}{mm:Ev}(s:qK n A)(t:TL A r k B)(hi:ρ[i]? =some (some (.ref r)))(h0:ρ[0]? =some (some (.ref n)))(hm:∀A,mm ρ A=.ok (.int m) A)(hk:(k:Int)=m)(h1:0<m)(h2:m<1000):∃w C,zo zB (zc i) (zF qC (zh (zc 0) (zh mm (zp)))) ρ B=.ok w C/\wA C w/\Kn n A C:=by
 obtain ⟨ws,e,l,hw⟩:=t.at_;have sB:=s.ext t.ext;obtain ⟨j,C,ec,hj,kn,_⟩:=ZP sB h0 (hm B) h1 (by omega)
 have hjl:j<ws.length:=by omega
 have hr:r≠n:=by have:=s.lt;have:=t.nw;omega
 refine ⟨ws[j],C,(zN (zt hi) ec).trans (gj (kn.kp.get e hr) (getElem?_eq_getElem hjl)),(hw _ (getElem_mem hjl)).mono (kn.ky sB),(Kn.ext s t.ext).trans kn⟩
end
theorem DZ {n:Nat}{A:Hx}(s:qK n A):∃w B,ZH [.ref n] A=.ok w B/\wA B w/\Kn n A B:=by
 unfold ZH UP;unfold W9;have et1:∀ρ,ET (zV (zh (zV (zh (zi (.int 0)) (zp))) (zp))) ρ:=λ ρ A=>⟨_,_,jU (zG (jU (zG qR qa)) qa),Ext.one.app,.oth .lst R4 (by decide),RH⟩
 have et2:∀ρ,ET (zC (zh (zV (zh (zi (.int 0)) (zp))) (zp))) ρ:=λ ρ A=>⟨_,_,Vm (zG (jU (zG qR qa)) qa),Ext.one,.tup _ rfl (by simp) λ x hx=>(by
  rw [List.mem_singleton.mp hx];exact .oth .lst R4 (by decide)),λ z=>by
  obtain ⟨r,e,_⟩:=(Kt z).2.2 _ (List.mem_singleton.mpr rfl);cases e⟩
 obtain ⟨r1,B1,e1,t1⟩:=E5 (k:=11) (ρ:=[some (.ref n),none]) (a:=zh (zi .non) (zh (zi (.int 0)) (zh (zC (zp)) (zh (zC (zh (zC (zp)) (zp))) (zh (zC (zh (zC (zh (zi (.int 1)) (zp))) (zp))) (zh (zV (zh (zV (zh (zi (.int 0)) (zp))) (zp))) (zh (zC (zh (zV (zh (zi (.int 0)) (zp))) (zp))) (zh (zC (zh (zC (zh (zi (.int 0)) (zp))) (zh (zC (zh (zi (.int 0)) (zp))) (zp)))) (zh (zC (zh (zC (zh (zi (.int 0)) (zh (zi (.int 1)) (zp)))) (zh (zC (zh (zi (.int 2)) (zh (zi (.int 0)) (zp)))) (zp)))) (zh (zC (zh (zC (zh (zi (.int 0)) (zh (zi (.int 2)) (zp)))) (zh (zC (zh (zi (.int 2)) (zh (zi (.int 0)) (zp)))) (zp)))) (zh (JB) (zp)))))))))))) (j3 (yt (λ _=>rfl) rfl) (j3 (yt (λ _=>rfl) rfl) (j3 (yt (w:=.tup []) (λ _=>rfl) rfl) (j3 (yt (w:=.tup [.tup []]) (λ _=>rfl) rfl) (j3 (yt (w:=.tup [.tup [.int 1]]) (λ _=>rfl) rfl) (j3 (et1 _) (j3 (et2 _) (j3 (yt (w:=.tup [.tup [.int 0],.tup [.int 0]]) (λ _=>rfl) rfl)
  (j3 (yt (w:=.tup [.tup [.int 0,.int 1],.tup [.int 2,.int 0]]) (λ _=>rfl) rfl) (j3 (yt (w:=.tup [.tup [.int 0,.int 2],.tup [.int 2,.int 0]]) (λ _=>rfl) rfl) (j3 DP K6))))))))))) A
 obtain ⟨r2,B2,e2,t2⟩:=VF (k:=5) (i:=1) (ρ:=[some (.ref n),some (.ref r1)]) (a:=zh (zC (zh (zC (zh (zi (.int 0)) (zh (zi (.int 1)) (zp)))) (zh (zC (zh (zi (.int 1)) (zh (zi (.int 1)) (zp)))) (zp)))) (zh (zC (zh (zC (zh (zi (.bl true)) (zp))) (zp))) (zh (zC (zh (zC (zh (zi (.int 0)) (zh (zi (.bl true)) (zp)))) (zh (zC (zh (zi (.bl true)) (zh (zi (.int 0)) (zp)))) (zp)))) (zh (zC (zh (zC (zh (zi (.int 0)) (zh (jO Zr (zi (.int 1))) (zp)))) (zh (zC (zh (jO Zr (zi (.int 1))) (zh (zi (.int 0)) (zp)))) (zp)))) (zh (zC (zh (zC (zh (zi (.int 0)) (zh (zi (.int 1)) (zp)))) (zh (zC (zh (zi (.int 1)) (zh (zi (.int 0)) (zp)))) (zh (zC (zh (zi (.int 1)) (zh (zi (.int 1)) (zp)))) (zp))))) (zp)))))) t1 (j3 (yt (w:=.tup [.tup [.int 0,.int 1],.tup [.int 1,.int 1]]) (λ _=>rfl) rfl) (j3 (yt (w:=.tup [.tup [.bl true]]) (λ _=>rfl) rfl) (j3 (yt (w:=.tup [.tup [.int 0,.bl true],.tup [.bl true,.int 0]]) (λ _=>rfl) rfl)
  (j3 (yt (w:=.tup [.tup [.int 0,.int (-1)],.tup [.int (-1),.int 0]]) (λ _=>rfl) rfl) (j3 (yt (w:=.tup [.tup [.int 0,.int 1],.tup [.int 1,.int 0],.tup [.int 1,.int 1]]) (λ _=>rfl) rfl) K6))))) rfl (by omega)
 obtain ⟨r3,B3,e3,t3⟩:=VF (k:=5) (i:=1) (ρ:=[some (.ref n),some (.ref r2)]) (a:=zh (zC (zh (zC (zh (zi (.int 0)) (zh (zi (.int 1)) (zh (zi (.int 2)) (zp))))) (zh (zC (zh (zi (.int 1)) (zh (zi (.int 0)) (zh (zi (.int 2)) (zp))))) (zh (zC (zh (zi (.int 2)) (zh (zi (.int 2)) (zh (zi (.int 1)) (zp))))) (zp))))) (zh (zi (.str "0")) (zh (zC (zh (zC (zh (zi (.int 0)) (zh (zi (.int 3)) (zh (zi (.int 3)) (zp))))) (zh (zC (zh (zi (.int 3)) (zh (zi (.int 0)) (zh (zi (.int 1)) (zp))))) (zh (zC (zh (zi (.int 3)) (zh (zi (.int 1)) (zh (zi (.int 0)) (zp))))) (zp))))) (zh (zC (zh (zC (zh (zi (.int 0)) (zp))) (zh (zC (zp)) (zp)))) (zh (zC (zh (zi (.int 0)) (zp))) (zp)))))) t2 (j3 (yt (w:=.tup [.tup [.int 0,.int 1,.int 2],.tup [.int 1,.int 0,.int 2],.tup [.int 2,.int 2,.int 1]]) (λ _=>rfl) rfl) (j3 (yt (λ _=>rfl) rfl)
  (j3 (yt (w:=.tup [.tup [.int 0,.int 3,.int 3],.tup [.int 3,.int 0,.int 1],.tup [.int 3,.int 1,.int 0]]) (λ _=>rfl) rfl) (j3 (yt (w:=.tup [.tup [.int 0],.tup []]) (λ _=>rfl) rfl) (j3 (yt (w:=.tup [.int 0]) (λ _=>rfl) rfl) K6))))) rfl (by omega)
 obtain ⟨r4,B4,e4,t4⟩:=VF (k:=2) (i:=1) (ρ:=[some (.ref n),some (.ref r3)]) (a:=zh (zC (zh (zC (zh (zi .non) (zp))) (zp))) (zh (zC (zh (zC (zh (zi (.int 0)) (zh (zi (.int 0)) (zp)))) (zh (zC (zh (zi (.int 0)) (zh (zi (.int 0)) (zp)))) (zp)))) (zp))) t3 (j3 (yt (w:=.tup [.tup [.non]]) (λ _=>rfl) rfl) (j3 (yt (w:=.tup [.tup [.int 0,.int 0],.tup [.int 0,.int 0]]) (λ _=>rfl) rfl) K6)) rfl (by omega)
 obtain ⟨w,C,e5,hw,kn⟩:=Fb (i:=1) (ρ:=[some (.ref n),some (.ref r4)]) (mm:=zi (.int 23)) (m:=23) s t4 rfl rfl (λ _=>rfl) rfl (by decide) (by decide)
 refine ⟨w,C,ja ?_,hw,kn⟩;refine (zI ((qL e1).trans rfl)).trans ((zI ((qL e2).trans rfl)).trans ((zI ((qL e3).trans rfl)).trans ((zI ((qL e4).trans rfl)).trans (qu (jb e5)))))
end G
namespace Mi
open PySem L2
noncomputable def RA (ws:List W):Prop:=∀x∈ws,∀A,g9 A x
section
variable {m m':Ev}{ρ:En}{xs ys:List W}{pl pu:Po}{l u:Option Int}
end
end Mi
namespace G
open PySem L2 Mi
section
variable {t:List (List Int)}{n N a b:Nat}{A B:Hx}{ρ:En}
theorem N4 (h8:t.length<=8)(hq:Sq t){m:Ev}{B0:Hx}(h1:m ρ B0=.ok (zy t) B):qm (zU 1 [] (qE m) (zJ 0) (zi (.bl true)) (zM (qm (qb (zc 0))))) ρ B0=
  .ok (.ref (B.length+t.length)) (B++(t.map λ r=>O.lst (r.map W.int))++[O.lst ((List.range t.length).map λ i=>W.ref (B.length+i))]):=by
 obtain ⟨ρ',acc',B',e,⟨z,g1⟩,g2,g3⟩:=Km (nl:=1) (cap:=[]) (tw:=zJ 0) (ifs:=zi (.bl true)) (em:=zM (qm (qb (zc 0)))) (ρ:=ρ) (A:=B0) (N:=t.length)
  (I:=λ p ρ' a C=>(∃z,ρ'=[z])/\C=B++((t.take p).map λ r=>O.lst (r.map W.int))/\a=(List.range p).map λ i=>W.ref (B.length+i)) (Jh h1) (by simp)
  (λ p ρ' a C hp ⟨⟨z,f1⟩,f2,f3⟩=>by
   subst f1 f2 f3;refine ⟨zW t[p],[some (zW t[p])],?_,rfl,.inl ⟨_,_,_,_,rfl,Kw (gh (wj (w:=zW t[p]) (ws:=t[p].map W.int) (zt rfl) rfl)) ?_,⟨_,rfl⟩,?_,?_⟩⟩
   ·show some (t.map zW)[p]? =_
    rw [getElem?_map,getElem?_eq_getElem hp];rfl
   ·simp;unfold zZ;omega
   ·rw [take_succ hp,map_append,append_assoc];rfl
   ·rw [range_succ,map_append,length_append,length_map,length_take,Nat.min_eq_left (le_of_lt hp)];rfl)
  (λ ρ' a C _=>by show some (t.map zW)[t.length]? =_;rw [getElem?_eq_none (by simp)]) ⟨⟨none,rfl⟩,by simp,by simp⟩
 rw [gh e,g2,g3,List.take_length];simp
theorem Rp {i:Nat}(hi:i<t.length):(B++(t.map λ r=>O.lst (r.map W.int))++[O.lst ((List.range t.length).map λ i=>W.ref (B.length+i))])[B.length+i]? =some (.lst ((t.getD i []).map W.int)):=by
 rw [getElem?_append_left (by simp;omega),getElem?_append_right (by omega),show B.length+i - B.length=i by omega,getElem?_map,getD_eq_getElem?_getD,getElem?_eq_getElem hi]
 rfl
theorem Ss:(B++(t.map λ r=>O.lst (r.map W.int))++[O.lst ((List.range t.length).map λ i=>W.ref (B.length+i))])[B.length+t.length]? =some (.lst ((List.range t.length).map λ i=>W.ref (B.length+i))):=by
 have:B.length+t.length=(B++(t.map λ r=>O.lst (r.map W.int))).length:=by simp
 rw [this,qU]
theorem Dk (h:qA t):RA (t.map zW):=λ x hx A=>by
 obtain ⟨r,hr,rfl⟩:=List.mem_map.mp hx
 have:=h.sq r hr
 have:=h.n8
 exact IU (by omega)
end
end G
namespace Mi
open PySem L2
theorem YH {A:Hx}{r s:Nat}{l m:List Int}(h:A[r]? =some (.lst (l.map W.int)))(h2:A[s]? =some (.lst (m.map W.int))):jF (.ref r) (.ref s) A=.ok (.bl (!decide (l=m))) A:=by
 show wX true _ _ A=_;unfold wX;rw [Yj h,Yj h2];dsimp only;rw [PyData.eqv,Xh]
 rfl
end Mi
namespace G
open PySem L2 Mi
section
variable {n p f:Nat}{A:Hx}
theorem Iw {x:Option W}(hp:A.length<=p)(hf:A.length<=f)(hn:n<A.length)(hpf:p≠f):∀(k fu:Nat) (l fd:List Int) (B:Hx),l.length=k->k<fu->fd.length+l.length<=100->Kn n A B->B[p]? =some (.lst (l.map W.int))->B[f]? =some (.lst (fd.map W.int))->
  ∃(B':Hx) (fd':List Int),Zt (zo jF (zc 2) (zV (zp))) (zq (j0 (j5 yA (zc 3) (j5 gQ (zc 2) (zF qC (zh (zc 0) (zh (mQ qJ (qb (zc 2))) (zp))))))) (zA)) fu [some (.ref n),x,some (.ref p),some (.ref f)] B=.ok (.nx [some (.ref n),x,some (.ref p),some (.ref f)]) B'/\Kn n A B'/\B'[f]? =some (.lst (fd'.map W.int))/\fd'.Perm (fd++l):=by
 intro k
 induction k with
 | zero=>
  intro fu l fd B hl hfu _ kn h1 h2;obtain ⟨fu,rfl⟩:∃f',fu=f'+1:=⟨fu - 1,by omega⟩
  have:l=[]:=List.length_eq_zero_iff.mp hl
  subst this;refine ⟨B++[.lst []],fd,?_,kn.trans (Kn.ext kn.st Ext.one),yu h2,by simp⟩
  unfold Zt;have ec:zo jF (zc 2) (zV (zp)) [some (.ref n),x,some (.ref p),some (.ref f)] B=.ok (.bl false) (B++[.lst []]):=(zN (zt (i:=2) rfl) (jU qa)).trans (YH (l:=[]) (m:=[]) (yu h1) qU);rw [ec,zL]
 | succ k ih=>
  intro fu l fd B hl hfu hfl kn h1 h2;obtain ⟨fu,rfl⟩:∃f',fu=f'+1:=⟨fu - 1,by omega⟩
  have ec:zo jF (zc 2) (zV (zp)) [some (.ref n),x,some (.ref p),some (.ref f)] B=.ok (.bl true) (B++[.lst []]):=by
   refine (zN (zt (i:=2) rfl) (jU qa)).trans ((YH (m:=[]) (yu h1) qU).trans ?_);have hne:l≠[]:=λ e=>by rw [e] at hl;cases hl
   rw [decide_eq_false hne]
   rfl
  have kn1:=kn.trans (Kn.ext kn.st (Ext.one (o:=.lst [])));have g1:=yu (u:=.lst []) h1;have g2:=yu (u:=.lst []) h2;generalize B++[O.lst []]=B1 at ec kn1 g1 g2;have elen:mQ qJ (qb (zc 2)) [some (.ref n),x,some (.ref p),some (.ref f)] B1=.ok (.int (l.length:Int)) B1:=by
   rw [kj (wj (w:=.ref p) (A1:=B1) (ws:=l.map W.int) (zt rfl) (by unfold zO;dsimp only;rw [g1]))]
   unfold qJ;rw [length_map]
  obtain ⟨q,B2,e1,hq',k2,_⟩:=ZP (ρ:=[some (.ref n),x,some (.ref p),some (.ref f)]) kn1.st rfl elen (by omega) (by omega)
  have hq:q<l.length:=by omega
  have g1':=k2.kp.get g1 (by omega)
  have g2':=k2.kp.get g2 (by omega)
  have hw:(l.map W.int)[q]? =some (.int l[q]):=by rw [getElem?_map,getElem?_eq_getElem hq];rfl
  have e2:=(Jb (g:=gQ) (a:=zc 2) (zt rfl) g1 e1).trans (Mj g1' hw (by omega))
  rw [TJ] at e2;have g2'':(B2.set p (.lst ((l.eraseIdx q).map W.int)))[f]? =some (.lst (fd.map W.int)):=by rw [getElem?_set_ne hpf];exact g2'
  have e3:=(Jb (g:=yA) (a:=zc 3) (zt rfl) g2 e2).trans (Kl g2'' (by rw [length_map];omega))
  have hap:fd.map W.int++[.int l[q]]=(fd++[l[q]]).map W.int:=by rw [map_append];rfl
  rw [hap] at e3;have hlen:(l.eraseIdx q).length=k:=by rw [List.length_eraseIdx_of_lt hq];omega
  have kn3:Kn n A ((B2.set p (.lst ((l.eraseIdx q).map W.int))).set f (.lst ((fd++[l[q]]).map W.int))):=⟨((kn1.trans k2).kp.put hp).put hf,((k2.st).put (by omega)).put (by omega)⟩
  obtain ⟨B',fd',e4,s4,a4,p4⟩:=ih fu (l.eraseIdx q) (fd++[l[q]]) _ hlen (by omega) (by rw [length_append,length_singleton];omega) kn3
   (by rw [getElem?_set_ne (Ne.symm hpf),getElem?_set_self (gi g1')]) (by rw [getElem?_set_self (gi g2'')])
  refine ⟨B',fd',?_,s4,a4,p4.trans ?_⟩
  ·unfold Zt
   rw [ec,zL];dsimp only;have eb:=(zI (m2:=zA) (yV e3)).trans jD;rw [eb,zL];exact e4
  ·rw [append_assoc]
   exact List.Perm.append_left fd (Tb (getElem?_eq_getElem hq)).symm
theorem Ri {q:Nat}{l:List Int}(s:qK n A)(h:A[q]? =some (.lst (l.map W.int)))(hl:l.length<=100):∃(r:Nat) (B:Hx) (fd:List Int),Ze [.ref n,.ref q] A=.ok (.ref r) B/\B[r]? =some (.lst (fd.map W.int))/\fd.Perm l/\Kn n A B/\A.length<=r:=by
 unfold Ze UT;unfold W6;have e1:qm (qb (zc 1)) [some (.ref n),some (.ref q),none,none] A=.ok (.ref A.length) (A++[.lst (l.map W.int)]):=gh (wj (w:=.ref q) (zt rfl) (by unfold zO;dsimp only;rw [h]))
 have x0:Ext A (A++[.lst (l.map W.int)]++[.lst []]):=Ext.one.app;have hlen:(A++[O.lst (l.map W.int)]).length=A.length+1:=by simp
 have a2:(A++[.lst (l.map W.int)]++[.lst []])[A.length+1]? =some (.lst (([]:List Int).map W.int)):=by rw [<- hlen];exact qU
 obtain ⟨B,fd,e2,kn,ef,pf⟩:=Iw (A:=A) (p:=A.length) (f:=A.length+1) (x:=some (.ref q)) (le_refl _) (by omega) s.lt (by omega) l.length 1000 l [] _ rfl (by omega) (by simp;omega) (Kn.ext s x0) (yu qU) a2
 refine ⟨A.length+1,B,fd,ja ?_,ef,by simpa using pf,kn,by omega⟩
 refine (zI ((qL e1).trans rfl)).trans ((zI (ρ1:=[some (.ref n),some (.ref q),some (.ref A.length),some (.ref (A.length+1))]) (A1:=A++[.lst (l.map W.int)]++[.lst []]) ?_).trans ((zI (m1:=Vr 1000 _ _) e2).trans (qu (jb (zt rfl)))));refine (qL (jU qa)).trans ?_;rw [hlen]
 rfl
end
end G
namespace Mi
open PySem L2
noncomputable def dist (t:List (List Int)):List Nat:=(List.range 8).filter λ i=>decide ((i:Int)∈t.flatten)
noncomputable def wJ (t:List (List Int))(v:Int):Int:=((dist t).idxOf v.toNat:Nat)
noncomputable def yN (t:List (List Int)):List (List Int):=t.map λ r=>r.map (wJ t)
theorem JZ {t:List (List Int)}{i:Nat}:i∈dist t↔i<8/\(i:Int)∈t.flatten:=by
 unfold dist;rw [mem_filter,List.mem_range,decide_eq_true_iff]
theorem N9 (t:List (List Int)):(dist t).Nodup:=List.Pairwise.filter _ List.nodup_range
theorem TY:∀{l:List Int},(∀v∈l,0<=v/\v<8)->ZS l=some (l.map Int.toNat)
 | [],_=>rfl
 | v::l,h=>by
  unfold ZS;rw [if_pos (h v (mem_cons_self ..)),TY λ x hx=>h x (mem_cons_of_mem _ hx)]
  rfl
theorem TB {A:Hx}:∀{kws:List (Nat × List W)},(∀p∈kws,A[p.1]? =some (.lst p.2))->wM A (kws.map λ (p:Nat × List W)=>W.ref p.1)=some (kws.map (·.2))
 | [],_=>rfl
 | p::kws,h=>by
  show (match A[p.1]? with | some (.lst ws)=>(wM A (kws.map λ (p:Nat × List W)=>W.ref p.1)).map (ws::·) | _=>none)=_
  rw [h p (mem_cons_self ..)];dsimp only;rw [TB λ x hx=>h x (mem_cons_of_mem _ hx)]
  rfl
theorem SY (v:Nat):∀{l:List Nat},v∈l->gZ (λ z=>PyData.eqv z (.int (v:Int))) (l.map λ (i:Nat)=>PyData.int (i:Int))=some (l.idxOf v)
 | [],h=>by cases h
 | a::l,h=>by
  rw [map_cons,gZ,List.idxOf_cons]
  have:PyData.eqv (.int (a:Int)) (.int (v:Int))=(a==v):=by
   rw [PyData.eqv,Bool.eq_iff_iff];simp;omega
  rw [this]
  by_cases q:a=v
  ·subst q
   simp
  ·have q':(a==v)=false:=by simp [q]
   rw [q',if_neg (by simp)]
   rw [SY v ((List.mem_cons.mp h).resolve_left (Ne.symm q))]
   rfl
noncomputable def LL (t:List (List Int))(r:Nat)(B:Hx):Prop:=∃ks:List Nat,B[r]? =some (.lst (ks.map W.ref))/\ks.length=t.length/\∀i,i<t.length->B[ks.getD i 0]? =some (.lst ((t.getD i []).map W.int))
theorem Kv {ws:List W}{m me:Ev}{ρ:En}{A:Hx}{cap:List Nat}{k:Nat}(h:m ρ A=.ok (.ref k) A)(hA:A[k]? =some (.lst ws))(hl:ws.length<=zZ){g:W->W}(he:∀w∈ws,me (some w::cap.map λ i=>(ρ[i]?).join) A=.ok (g w) A):
  zU 1 cap (qE m) (zJ 0) (zi (.bl true)) (zM me) ρ A=.ok (ws.map g) A:=by
 have e:=Q5 (cap:=cap) (me:=me) (ρ:=ρ) (A:=A) (N:=ws.length) (item:=λ i=>ws.getD i .non) (g:=λ i=>g (ws.getD i .non)) (X4 h hA) rfl hl
  (λ i hi=>(Jp hA).trans (by rw [getElem?_eq_getElem hi,getD_eq_getElem?_getD,getElem?_eq_getElem hi];rfl))
  ((Jp hA).trans (by rw [getElem?_eq_none (le_refl _)]))
  (λ i hi=>by
   have:ws.getD i .non=ws[i]:=by rw [getD_eq_getElem?_getD,getElem?_eq_getElem hi];rfl
   rw [this];exact he _ (getElem_mem hi))
 rw [e]
 congr 1
 apply ext_getElem
 ·simp
 ·intro i h1 h2
  have hi:i<ws.length:=by simpa using h2
  simp [getD_eq_getElem?_getD,getElem?_eq_getElem hi]
noncomputable def P2 (f:Int->Int):W->W
 | .int v=>.int (f v)
 | w=>w
theorem HI (f:Int->Int)(l:List Int):(l.map W.int).map (P2 f)=(l.map f).map W.int:=by
 rw [map_map,map_map];rfl
end Mi
namespace G
open PySem L2 Mi
section
variable {t:List (List Int)}{r:Nat}{A:Hx}
theorem MD {ρ:En}{B:Hx}{i:Nat}(h8:t.length<=8)(hL:LL t r B)(h0:ρ[i]? =some (some (.ref r))):qm (zU 1 [] (qE (zc i)) (zJ 0) (zi (.bl true)) (zM (qm (qb (zc 0))))) ρ B=
  .ok (.ref (B.length+t.length)) (B++(t.map λ r=>O.lst (r.map W.int))++[O.lst ((List.range t.length).map λ i=>W.ref (B.length+i))]):=by
 obtain ⟨ks,e0,hk,hr⟩:=hL;obtain ⟨ρ',acc',B',e,⟨z,g1⟩,g2,g3⟩:=Km (nl:=1) (cap:=[]) (tw:=zJ 0) (ifs:=zi (.bl true)) (em:=zM (qm (qb (zc 0)))) (ρ:=ρ) (A:=B) (N:=t.length)
  (I:=λ p ρ' a C=>(∃z,ρ'=[z])/\C=B++((t.take p).map λ r=>O.lst (r.map W.int))/\a=(List.range p).map λ i=>W.ref (B.length+i)) (X4 (zt h0) e0) (by simp [hk])
  (λ p ρ' a C hp ⟨⟨z,f1⟩,f2,f3⟩=>by
   subst f1 f2 f3;have hx:Ext B (B++((t.take p).map λ r=>O.lst (r.map W.int))):=⟨_,rfl⟩;have hrow:=hx.at (hr p hp);have htp:t.getD p []=t[p]:=by rw [getD_eq_getElem?_getD,getElem?_eq_getElem hp];rfl
   rw [htp] at hrow;refine ⟨.ref (ks.getD p 0),[some (.ref (ks.getD p 0))],?_,rfl,.inl ⟨_,_,_,_,rfl,Kw (gh (wj (w:=.ref (ks.getD p 0)) (ws:=t[p].map W.int) (zt rfl) (by unfold zO;dsimp only;rw [hrow]))) ?_,⟨_,rfl⟩,?_,?_⟩⟩
   ·refine (Jp (hx.at e0)).trans ?_
    rw [getElem?_map,getD_eq_getElem?_getD,getElem?_eq_getElem (by omega)];rfl
   ·simp;unfold zZ;omega
   ·rw [take_succ hp,map_append,append_assoc];rfl
   ·rw [range_succ,map_append,length_append,length_map,length_take,Nat.min_eq_left (le_of_lt hp)];rfl)
  (λ ρ' a C ⟨_,f2,_⟩=>by
   subst f2;exact (Jp (Ext.at ⟨_,rfl⟩ e0)).trans (by rw [getElem?_eq_none (by simp [hk])])) ⟨⟨none,rfl⟩,by simp,by simp⟩
 rw [gh e,g2,g3,List.take_length];simp
theorem LL.mono {A B:Hx}(x:Ext A B)(h:LL t r A):LL t r B:=by
 obtain ⟨ks,e0,hk,hr⟩:=h;exact ⟨ks,x.at e0,hk,λ i hi=>x.at (hr i hi)⟩
theorem Ru (h1:1<=t.length)(h8:t.length<=8)(hq:Sq t)(hb:∀v∈t.flatten,0<=v/\v<8)(hL:LL t r A):∃B,wK [.ref r] A=.ok (zy (yN t)) B/\Ext A B:=by
 have hfl:t.flatten.length<=64:=by
  have:∀l:List (List Int),(∀r∈l,r.length<=8)->l.flatten.length<=8 * l.length:=by
   intro l
   induction l with
   | nil=>intro _;simp
   | cons r l ih=>
    intro hr;have h1:=hr r (mem_cons_self ..);have h2:=ih λ r' hr'=>hr r' (mem_cons_of_mem _ hr');rw [flatten_cons,length_append,length_cons];omega
  have:=this t λ r hr=>by rw [hq r hr];exact h8
  omega
 unfold wK U4;unfold GV;have e1:=MD (ρ:=[some (.ref r),none]) (i:=0) h8 hL rfl;have x1:Ext A (A++(t.map λ r=>O.lst (r.map W.int))++[O.lst ((List.range t.length).map λ i=>W.ref (A.length+i))]):=⟨(t.map λ r=>O.lst (r.map W.int))++[O.lst ((List.range t.length).map λ i=>W.ref (A.length+i))],by rw [append_assoc]⟩
 have hrow:∀i,i<t.length->_:=λ i hi=>Rp (B:=A) (t:=t) (i:=i) hi;have htop:=Ss (B:=A) (t:=t);generalize A++(t.map λ r=>O.lst (r.map W.int))++[O.lst ((List.range t.length).map λ i=>W.ref (A.length+i))]=B1 at e1 x1 hrow htop;have e2:zo Zp (qm (zU 1 [] (qE (zc 0)) (zJ 0) (zi (.bl true)) (zM (qm (qb (zc 0)))))) (zV (zp)) [some (.ref r),none] A=.ok (.ref (B1.length+1)) (B1++[.lst []]++[.lst (t.flatten.map W.int)]):=by
  refine (zN e1 (jU qa)).trans ?_;have hl:=TB (A:=B1++[.lst []]) (kws:=(List.range t.length).map λ i=>(A.length+i,(t.getD i []).map W.int)) (λ p hp=>by
   obtain ⟨i,hi,rfl⟩:=List.mem_map.mp hp;exact yu (hrow i (List.mem_range.mp hi)))
  rw [map_map,map_map] at hl;have hl1:((λ p:Nat × List W=>W.ref p.1) ∘ λ i=>(A.length+i,(t.getD i []).map W.int))=λ i=>W.ref (A.length+i):=rfl;have hl2:((λ p:Nat × List W=>p.2) ∘ λ i=>(A.length+i,(t.getD i []).map W.int))=λ i=>(t.getD i []).map W.int:=rfl;rw [hl1,hl2,<- JP t [] λ r=>r.map W.int] at hl;have hf:(t.map λ r=>r.map W.int).flatten=t.flatten.map W.int:=by rw [List.map_flatten]
  unfold Zp;dsimp only;rw [yu htop,qU];dsimp only;rw [hl];dsimp only;rw [if_pos ⟨λ z=>(by have:=congrArg List.length z;rw [length_map,length_range] at this;exact absurd this (by rw [length_nil];omega)),by rw [hf,length_map];unfold zZ;omega⟩,hf]
  simp
 have x2:Ext A (B1++[.lst []]++[.lst (t.flatten.map W.int)]):=x1.app.app;have hs2:(B1++[.lst []]++[.lst (t.flatten.map W.int)])[B1.length+1]? =some (.lst (t.flatten.map W.int)):=by
  have:B1.length+1=(B1++[O.lst []]).length:=by simp
  rw [this,qU]
 generalize B1++[.lst []]++[.lst (t.flatten.map W.int)]=B2 at e2 x2 hs2;have e3:KI (zo Zp (qm (zU 1 [] (qE (zc 0)) (zJ 0) (zi (.bl true)) (zM (qm (qb (zc 0)))))) (zV (zp))) [some (.ref r),none] A=.ok (.ref B2.length) (B2++[.lst (((dist t).map λ (i:Nat)=>(i:Int)).map W.int)]):=by
  unfold KI;rw [e2,zL];unfold XU;dsimp only;rw [hs2];dsimp only;rw [Kh];dsimp only;rw [TY hb];dsimp only
  have:((List.range 8).filter λ i=>decide (i∈t.flatten.map Int.toNat))=dist t:=by
   unfold dist
   apply List.filter_congr
   intro i _;rw [decide_eq_decide]
   constructor
   ·intro z
    obtain ⟨v,hv,rfl⟩:=List.mem_map.mp z;rw [toNat_of_nonneg (hb v hv).1];exact hv
   ·intro z
    exact List.mem_map.mpr ⟨_,z,rfl⟩
  rw [this,map_map]
  rfl
 have x3:=x2.app (l:=[.lst (((dist t).map λ (i:Nat)=>(i:Int)).map W.int)]);have hs3:(B2++[.lst (((dist t).map λ (i:Nat)=>(i:Int)).map W.int)])[B2.length]? =some (.lst (((dist t).map λ (i:Nat)=>(i:Int)).map W.int)):=qU;generalize B2++[.lst (((dist t).map λ (i:Nat)=>(i:Int)).map W.int)]=B3 at e3 x3 hs3;obtain ⟨ks,k0,hk,hr⟩:=LL.mono x3 hL;refine ⟨B3,ja ((zI ((qL e3).trans rfl)).trans (qu (jb ?_))),x3⟩;have idx:∀v,v∈t.flatten->gT (.ref B2.length) (.int v) B3=.ok (.int (wJ t v)) B3:=λ v hv=>by
  obtain ⟨u,rfl⟩:=eq_ofNat_of_zero_le (hb v hv).1;have hm:u∈dist t:=JZ.mpr ⟨by have:=hb _ hv;omega,hv⟩
  unfold gT;rw [Yj hs3];show (match gZ (λ z=>PyData.eqv z (.int (u:Int))) (((dist t).map λ (i:Nat)=>(i:Int)).map PyData.int) with | some j=>if j<1000000 then R.ok (W.int (j:Int)) B3 else .bad | none=>.bad)=_
  have:((dist t).map λ (i:Nat)=>(i:Int)).map PyData.int=(dist t).map λ (i:Nat)=>PyData.int (i:Int):=by rw [map_map];rfl
  rw [this,SY u hm];dsimp only;have hl:(dist t).idxOf u<(dist t).length:=List.idxOf_lt_length_of_mem hm;have hl8:(dist t).length<=8:=by unfold dist;exact le_trans (length_filter_le _ _) (by simp)
  rw [if_pos (by omega)]
  rfl
 have ec:=Q5 (cap:=[1]) (me:=mQ yP (zU 1 [1] (qE (zc 0)) (zJ 0) (zi (.bl true)) (zM (j5 gT (zc 1) (zc 0))))) (ρ:=[some (.ref r),some (.ref B2.length)]) (A:=B3) (N:=t.length) (item:=λ i=>.ref (ks.getD i 0)) (g:=λ i=>zW ((t.getD i []).map (wJ t))) (X4 (zt (i:=0) rfl) k0) (by simp [hk]) (by unfold zZ;omega)
  (λ j hj=>(Jp k0).trans (by rw [getElem?_map,getD_eq_getElem?_getD,getElem?_eq_getElem (by omega)];rfl)) ((Jp k0).trans (by rw [getElem?_eq_none (by simp [hk])]))
  (λ j hj=>by
   have:=Kv (cap:=[1]) (m:=zc 0) (me:=j5 gT (zc 1) (zc 0)) (ρ:=[some (.ref (ks.getD j 0)),some (.ref B2.length)]) (g:=P2 (wJ t)) (zt rfl) (hr j hj) (by rw [length_map,hq _ (yq hj)];unfold zZ;omega) (λ w hw=>by
    obtain ⟨v,hv,rfl⟩:=List.mem_map.mp hw;exact (Jb (g:=gT) (zt rfl) hs3 (zt (i:=0) rfl)).trans (idx v (List.mem_flatten.mpr ⟨_,yq hj,hv⟩)))
   rw [HI] at this;exact Jn this)
 refine (Jn ec).trans ?_;unfold zy yN;rw [map_map,JP t [] (zW ∘ λ r=>r.map (wJ t))]
 rfl
theorem Mm (h1:1<=t.length)(h8:t.length<=8)(hq:Sq t)(dg:∀a b,a<t.length->b<t.length->(at2 t a b=0↔a=b))(sy:∀a b,a<t.length->b<t.length->at2 t a b=at2 t b a)
  (lo:∀a b,a<t.length->b<t.length->0<=at2 t a b/\at2 t a b<(t.length:Int)):qA (yN t):=by
 have hb:∀v∈t.flatten,0<=v/\v<(t.length:Int):=λ v hv=>by
  obtain ⟨a,b,ha,hb,rfl⟩:=Qn hq hv;exact lo a b ha hb
 have hlen:(yN t).length=t.length:=by unfold yN;rw [length_map]
 have hsq:∀r∈yN t,r.length=t.length:=λ r hr=>by
  obtain ⟨s,hs,rfl⟩:=List.mem_map.mp hr;rw [length_map];exact hq s hs
 have hat:∀a b,a<t.length->b<t.length->at2 (yN t) a b=wJ t (at2 t a b):=λ a b ha hb=>by
  have hra:=hq _ (yq ha);unfold at2 yN;rw [getD_eq_getElem?_getD (l:=t.map _),getElem?_map,getElem?_eq_getElem ha];have e:t.getD a []=t[a]:=by rw [getD_eq_getElem?_getD,getElem?_eq_getElem ha];rfl
  rw [e] at hra ⊢;show (t[a].map (wJ t)).getD b 0=_;rw [getD_eq_getElem?_getD,getElem?_map,getD_eq_getElem?_getD,getElem?_eq_getElem (by omega)]
  rfl
 have mem:∀a b,a<t.length->b<t.length->(at2 t a b).toNat∈dist t:=λ a b ha hb'=>by
  obtain ⟨_,_,_,h4⟩:=KR hq ha hb'
  have:=hb _ h4
  rw [JZ,toNat_of_nonneg this.1];exact ⟨by omega,h4⟩
 have nd:=N9 t;have dl:(dist t).length<=t.length:=by
  have:=VB t.length ((dist t).map λ (i:Nat)=>(i:Int)) (by
   rw [List.nodup_iff_pairwise_ne,List.pairwise_map];exact nd.imp λ h=>by omega) (λ r hr=>by
   obtain ⟨i,hi,rfl⟩:=List.mem_map.mp hr
   have:=hb _ (JZ.mp hi).2
   exact this)
  rw [length_map] at this;exact this
 have z0:(0:Nat)∈dist t:=by
  have:=mem 0 0 (by omega) (by omega)
  rw [(dg 0 0 (by omega) (by omega)).mpr rfl] at this
  exact this
 have d0:∃l,dist t=0::l:=by
  have hr:List.range 8=0::[1,2,3,4,5,6,7]:=by decide
  have hz:=(JZ.mp z0).2;refine ⟨[1,2,3,4,5,6,7].filter λ i=>decide ((i:Int)∈t.flatten),?_⟩;unfold dist;rw [hr,List.filter_cons_of_pos (by exact decide_eq_true hz)]
 obtain ⟨l0,hd0⟩:=d0;have rlt:∀a b,a<t.length->b<t.length->0<=wJ t (at2 t a b)/\wJ t (at2 t a b)<(t.length:Int):=λ a b ha hb'=>by
  have:=List.idxOf_lt_length_of_mem (mem a b ha hb')
  unfold wJ;omega
 refine ⟨by omega,by omega,λ r hr=>by rw [hlen];exact hsq r hr,λ r hr v hv=>?_,λ a b ha hb'=>?_,λ a b ha hb'=>?_,λ k hk=>?_⟩
 ·have:v∈(yN t).flatten:=List.mem_flatten.mpr ⟨r,hr,hv⟩
  obtain ⟨a,b,ha,hb',e⟩:=Qn (λ r hr=>by rw [hlen];exact hsq r hr) this
  rw [hlen] at ha hb' ⊢;rw [<- e,hat a b ha hb'];exact rlt a b ha hb'
 ·rw [hlen] at ha hb'
  rw [hat a b ha hb',<- dg a b ha hb'];unfold wJ;have m:=mem a b ha hb';have hv:=lo a b ha hb'
  constructor
  ·intro e
   have e0:(dist t).idxOf (at2 t a b).toNat=0:=by omega
   have hl:=List.idxOf_lt_length_of_mem m
   have:=List.getElem_idxOf hl
   have h0:(dist t)[(dist t).idxOf (at2 t a b).toNat]? =some (at2 t a b).toNat:=by rw [getElem?_eq_getElem hl,this]
   rw [e0,hd0] at h0;simp at h0;omega
  ·intro e
   rw [e,hd0];simp
 ·rw [hlen] at ha hb'
  rw [hat a b ha hb',hat b a hb' ha,sy a b ha hb']
 ·obtain ⟨v,hv,hk⟩:=hk
  obtain ⟨a,b,ha,hb',e⟩:=Qn (λ r hr=>by rw [hlen];exact hsq r hr) hv
  rw [hlen] at ha hb';rw [hat a b ha hb'] at e;have hl:=List.idxOf_lt_length_of_mem (mem a b ha hb');have hkl:k<(dist t).length:=by unfold wJ at e;omega
  have hd:=JZ.mp (getElem_mem hkl);obtain ⟨c,d,hc,hd',e2⟩:=Qn hq hd.2;have e3:at2 (yN t) c d=(k:Int):=by
   rw [hat c d hc hd',e2];unfold wJ;rw [toNat_natCast,nd.idxOf_getElem k hkl]
  obtain ⟨_,_,_,h4⟩:=KR (t:=yN t) (λ r hr=>by rw [hlen];exact hsq r hr) (by omega:c<(yN t).length) (by omega:d<(yN t).length)
  rw [e3] at h4;exact h4
end
end G
namespace Mi
open PySem L2
noncomputable def wI:Nat->List (List Int)
 | 0=>[[0,1,2,3,4,3,2,1],[1,0,1,2,3,4,3,2],[2,1,0,1,2,3,4,3],[3,2,1,0,1,2,3,4],[4,3,2,1,0,1,2,3],[3,4,3,2,1,0,1,2],[2,3,4,3,2,1,0,1],[1,2,3,4,3,2,1,0]]
 | 1=>[[0,1,2,3,3,2,1],[1,0,1,2,3,3,2],[2,1,0,1,2,3,3],[3,2,1,0,1,2,3],[3,3,2,1,0,1,2],[2,3,3,2,1,0,1],[1,2,3,3,2,1,0]]
 | 2=>[[0,1,2,3,2,1],[1,0,1,2,3,2],[2,1,0,1,2,3],[3,2,1,0,1,2],[2,3,2,1,0,1],[1,2,3,2,1,0]]
 | 3=>[[0,1,2,2,1],[1,0,1,2,2],[2,1,0,1,2],[2,2,1,0,1],[1,2,2,1,0]]
 | 4=>[[0,1,2,1],[1,0,1,2],[2,1,0,1],[1,2,1,0]]
 | 5=>[[0,1,1],[1,0,1],[1,1,0]]
 | 6=>[[0,1],[1,0]]
 | 7=>[[0]]
 | 8=>[[0,1,1,2,1,2,2,3],[1,0,2,1,2,1,3,2],[1,2,0,1,2,3,1,2],[2,1,1,0,3,2,2,1],[1,2,2,3,0,1,1,2],[2,1,3,2,1,0,2,1],[2,3,1,2,1,2,0,1],[3,2,2,1,2,1,1,0]]
 | 9=>[[0,1,1,2],[1,0,2,1],[1,2,0,1],[2,1,1,0]]
 | 10=>[[0,1],[1,0]]
 | 11=>[[0,1,1,1,1,1,1,1],[1,0,1,1,1,1,1,1],[1,1,0,1,1,1,1,1],[1,1,1,0,1,1,1,1],[1,1,1,1,0,1,1,1],[1,1,1,1,1,0,1,1],[1,1,1,1,1,1,0,1],[1,1,1,1,1,1,1,0]]
 | 12=>[[0,1,1,1,1,1,1],[1,0,1,1,1,1,1],[1,1,0,1,1,1,1],[1,1,1,0,1,1,1],[1,1,1,1,0,1,1],[1,1,1,1,1,0,1],[1,1,1,1,1,1,0]]
 | 13=>[[0,1,1,1,1,1],[1,0,1,1,1,1],[1,1,0,1,1,1],[1,1,1,0,1,1],[1,1,1,1,0,1],[1,1,1,1,1,0]]
 | 14=>[[0,1,1,1,1],[1,0,1,1,1],[1,1,0,1,1],[1,1,1,0,1],[1,1,1,1,0]]
 | 15=>[[0,1,1,1],[1,0,1,1],[1,1,0,1],[1,1,1,0]]
 | 16=>[[0,1,1],[1,0,1],[1,1,0]]
 | 17=>[[0,1],[1,0]]
 | 18=>[[0]]
 | 19=>[[0,1,2,2,2,2,2,2],[1,0,2,2,2,2,2,2],[2,2,0,1,2,2,2,2],[2,2,1,0,2,2,2,2],[2,2,2,2,0,1,2,2],[2,2,2,2,1,0,2,2],[2,2,2,2,2,2,0,1],[2,2,2,2,2,2,1,0]]
 | 20=>[[0,1,1,1,2,2,2,2],[1,0,1,1,2,2,2,2],[1,1,0,1,2,2,2,2],[1,1,1,0,2,2,2,2],[2,2,2,2,0,1,1,1],[2,2,2,2,1,0,1,1],[2,2,2,2,1,1,0,1],[2,2,2,2,1,1,1,0]]
 | 21=>[[0,1,2,2,2,2],[1,0,2,2,2,2],[2,2,0,1,2,2],[2,2,1,0,2,2],[2,2,2,2,0,1],[2,2,2,2,1,0]]
 | 22=>[[0,1,1,2,2,2],[1,0,1,2,2,2],[1,1,0,2,2,2],[2,2,2,0,1,1],[2,2,2,1,0,1],[2,2,2,1,1,0]]
 | 23=>[[0,1,2,2],[1,0,2,2],[2,2,0,1],[2,2,1,0]]
 | 24=>[[0,1,1,1,1,2],[1,0,1,1,2,1],[1,1,0,2,1,1],[1,1,2,0,1,1],[1,2,1,1,0,1],[2,1,1,1,1,0]]
 | 25=>[[0,1,2,3],[1,0,3,2],[2,3,0,1],[3,2,1,0]]
 | 26=>[[0,1,2,3,4,5,6,7],[1,0,3,2,5,4,7,6],[2,3,0,1,6,7,4,5],[3,2,1,0,7,6,5,4],[4,5,6,7,0,1,2,3],[5,4,7,6,1,0,3,2],[6,7,4,5,2,3,0,1],[7,6,5,4,3,2,1,0]]
 | 27=>[[0,1],[1,0]]
 | 28=>[[0,1,2,1,3,4,5,4],[1,0,1,2,4,3,4,5],[2,1,0,1,5,4,3,4],[1,2,1,0,4,5,4,3],[3,4,5,4,0,1,2,1],[4,3,4,5,1,0,1,2],[5,4,3,4,2,1,0,1],[4,5,4,3,1,2,1,0]]
 | 29=>[[0,1,1,3,4,4],[1,0,1,4,3,4],[1,1,0,4,4,3],[3,4,4,0,1,1],[4,3,4,1,0,1],[4,4,3,1,1,0]]
 | 30=>[[0,1,3,4],[1,0,4,3],[3,4,0,1],[4,3,1,0]]
 | 31=>[[0,1,2,1,3,3,3,3],[1,0,1,2,3,3,3,3],[2,1,0,1,3,3,3,3],[1,2,1,0,3,3,3,3],[3,3,3,3,0,1,2,1],[3,3,3,3,1,0,1,2],[3,3,3,3,2,1,0,1],[3,3,3,3,1,2,1,0]]
 | 32=>[[0,1,1,3,3,3],[1,0,1,3,3,3],[1,1,0,3,3,3],[3,3,3,0,1,1],[3,3,3,1,0,1],[3,3,3,1,1,0]]
 | 33=>[[0,1,3,3],[1,0,3,3],[3,3,0,1],[3,3,1,0]]
 | _=>[]
theorem E1:((List.range 34).all λ i=>Uk (yN (wI i))&&((wI i).all λ r=>r.length==(wI i).length)&&((wI i).flatten.all λ v=>decide (0<=v)&&decide (v<8)))=true:=by decide +kernel
theorem HZ {i:Nat}(h:i<34):qA (yN (wI i))/\G.Sq (wI i)/\∀v∈(wI i).flatten,0<=v/\v<8:=by
 have:=List.all_eq_true.mp E1 i (List.mem_range.mpr h)
 rw [and_eq_true,and_eq_true] at this;refine ⟨FC this.1.1,λ r hr=>?_,λ v hv=>?_⟩
 ·exact eq_of_beq (List.all_eq_true.mp this.1.2 r hr)
 ·have:=List.all_eq_true.mp this.2 v hv
  rw [and_eq_true,decide_eq_true_iff,decide_eq_true_iff] at this;exact this
theorem SR {A:Hx}:∀{us:List W} {wss:List (List W)},wM A us=some wss->∃ks:List Nat,us=ks.map W.ref/\ks.length=wss.length/\∀i,i<wss.length->A[ks.getD i 0]? =some (.lst (wss.getD i []))
 | [],wss,e=>by
  cases e;exact ⟨[],rfl,rfl,λ i hi=>by cases hi⟩
 | .ref k::us,wss,e=>by
  unfold wM at e;cases h:A[k]? with
  | none=>rw [h] at e;cases e
  | some o=>
   rw [h] at e;cases o with
   | lst ws=>
    dsimp only at e;cases h2:wM A us with
    | none=>rw [h2] at e;cases e
    | some vss=>
     rw [h2] at e;cases e;obtain ⟨ks,rfl,hl,hk⟩:=SR h2;refine ⟨k::ks,rfl,by simp [hl],λ i hi=>?_⟩
     cases i with
     | zero=>exact h
     | succ i=>exact hk i (by simpa using hi)
   | _=>cases e
 | .non::_,_,e=>by cases e
 | .bl _::_,_,e=>by cases e
 | .int _::_,_,e=>by cases e
 | .str _::_,_,e=>by cases e
 | .tup _::_,_,e=>by cases e
 | .clo _ _ _::_,_,e=>by cases e
 | .xc _::_,_,e=>by cases e
noncomputable def Uq (x:R Fl):Option (Option O × Option (List (List W))):=match x with
 | .ok (.rt (.ref r)) B=>some (B[0]?,match B[r]? with
  | some (.lst us)=>wM B us
  | _=>none)
 | _=>none
theorem FG {x:R Fl}{o:O}{t:List (List Int)}(h:Uq x=some (some o,some (t.map λ r=>r.map W.int))):∃r B,x=.ok (.rt (.ref r)) B/\B[0]? =some o/\LL t r B:=by
 unfold Uq at h
 split at h
 ·rename_i r B
  injection h with h
  injection h with h1 h2
  cases h3:B[r]? with
  | none=>rw [h3] at h2;cases h2
  | some o'=>
   rw [h3] at h2;cases o' with
   | lst us=>
    dsimp only at h2;obtain ⟨ks,rfl,hl,hk⟩:=SR h2;rw [length_map] at hl hk;refine ⟨r,B,rfl,h1,ks,h3,hl,λ i hi=>(hk i hi).trans ?_⟩;rw [getD_eq_getElem?_getD,getElem?_map,getD_eq_getElem?_getD,getElem?_eq_getElem hi]
    rfl
   | _=>cases h2
 ·cases h
end Mi
namespace G
open PySem L2 Mi
noncomputable def Plain (X:Ex)(ρ:En)(A:Hx):Prop:=∃i,i<34/\∃r B,X ρ A=.ok (.rt (.ref r)) B/\qK 0 B/\LL (wI i) r B
section
variable {m1 m2:Ex}{ρ ρ1:En}{A A1 L:Hx}{c:Ev}{o:O}
theorem wO (h:m1 ρ A=.ok (.nx ρ1) A1)(q:Plain m2 ρ1 A1):Plain (zq m1 m2) ρ A:=by
 unfold Plain;rw [zI h];exact q
theorem Jx (q:Plain m1 ρ A):Plain (zq m1 m2) ρ A:=by
 obtain ⟨i,hi,r,B,e,s,l⟩:=q;exact ⟨i,hi,r,B,qu e,s,l⟩
theorem Jy (h:c ρ A=.ok (.bl true) A1)(q:Plain m1 ρ A1):Plain (qN c m1 m2) ρ A:=by
 unfold Plain;rw [kX h];exact q
theorem jL {m:Ex}(h:c ρ A=.ok (.bl false) A)(q:Plain m ρ A):Plain (zq (qN c m1 zA) m) ρ A:=wO ((yd h).trans jD) q
theorem DL {L':Hx}(s:qK 0 (o::L)):qK 0 (o::L'):=s
theorem jn (i:Nat)(hi:i<34)(s:qK 0 (o::L))(h:Uq (m1 ρ A)=some (some o,some ((wI i).map λ r=>r.map W.int))):Plain m1 ρ A:=by
 obtain ⟨r,B,e,h0,l⟩:=FG h;obtain ⟨c,b,e1,q⟩:=s;have e1':some o=some (O.lst [.int c,.bl b]):=e1;exact ⟨i,hi,r,B,e,⟨c,b,by rw [h0];exact e1',q⟩,l⟩
theorem take1 (s:qK 0 (o::L)){m:Int}(h1:0<m)(h2:m<1000000000000000):∃(r:Nat) (o':O),qC [.ref 0,.int m] (o::L)=.ok (.int (r:Int)) (o'::L)/\(r:Int)<m/\qK 0 (o'::L):=by
 obtain ⟨r,o',e,a,b,s'⟩:=RY s h1 h2;exact ⟨r.toNat,o',by rw [e,toNat_of_nonneg a];rfl,by omega,s'⟩
theorem Q8 {a:Ea}{vs:List W}{k:Nat}(s:qK 0 (o::L))(h0:ρ[0]? =some (some (.ref 0)))(ha:∀A,a ρ A=.ok vs A)(hk:vs.length=k)(k1:0<k)(k2:k<1000):∃(j:Nat) (w:W) (o':O),zo zB (zV a) (zF qC (zh (zc 0) (zh (zi (.int (k:Int))) (zp)))) ρ (o::L)=.ok w (o'::(L++[.lst vs]))/\j<k/\vs[j]? =some w/\qK 0 (o'::(L++[.lst vs])):=by
 obtain ⟨r,o',e,hr,s'⟩:=take1 (L:=L++[.lst vs]) (m:=(k:Int)) (DL s) (by omega) (by omega)
 have hrl:r<vs.length:=by omega
 refine ⟨r,vs[r],o',?_,by omega,getElem?_eq_getElem hrl,s'⟩
 refine (zN (jU (ha _)) ((zX (zG (zt h0) (zG qR qa))).trans e)).trans ?_;have hl:(o'::(L++[O.lst vs]))[(o::L).length]? =some (.lst vs):=by
  show (L++[O.lst vs])[L.length]? =_;exact qU
 exact gj hl (getElem?_eq_getElem hrl)
end
theorem three {j:Nat}(h:j<3):j=0∨j=1∨j=2:=by omega
theorem Uo {j:Nat}(h:j<5):j=0∨j=1∨j=2∨j=3∨j=4:=by omega
theorem VI {j:Nat}(h:j<8):j=0∨j=1∨j=2∨j=3∨j=4∨j=5∨j=6∨j=7:=by omega
theorem FL {o:O}(s:qK 0 [o]):Plain (Y7 qC) [some (.ref 0),none,none,none,none,none,none,none,none,none,none] [o]:=by
 unfold Y7;obtain ⟨way,o1,e1,hw,s1⟩:=take1 s (m:=8) (by decide) (by decide)
 refine wO (ρ1:=[some (.ref 0),some (.int (way:Int)),none,none,none,none,none,none,none,none,none]) (A1:=[o1]) ((qL ((zX (ws:=[.ref 0,.int 8]) (A1:=[o]) rfl).trans e1)).trans rfl) ?_;obtain ⟨j,w,o2,e2,hj,hjw,s2⟩:=Q8 (k:=8) (ρ:=[some (.ref 0),some (.int (way:Int)),none,none,none,none,none,none,none,none,none]) (a:=zh (zi (.int 8)) (zh (zi (.int 7)) (zh (zi (.int 6)) (zh (zi (.int 5)) (zh (zi (.int 4)) (zh (zi (.int 3)) (zh (zi (.int 2)) (zh (zi (.int 1)) (zp))))))))) (vs:=[.int 8,.int 7,.int 6,.int 5,.int 4,.int 3,.int 2,.int 1]) s1 rfl (λ _=>rfl) rfl (by decide) (by decide)
 refine wO (ρ1:=[some (.ref 0),some (.int (way:Int)),some w,none,none,none,none,none,none,none,none]) (A1:=[o2,.lst [.int 8,.int 7,.int 6,.int 5,.int 4,.int 3,.int 2,.int 1]]) ((qL e2).trans rfl) ?_;have hway:way<8:=by omega
 clear e1 e2 hw s s1;rcases VI hway with rfl | rfl | rfl | rfl | rfl | rfl | rfl | rfl
 ·refine Jx (Jy (A1:=[o2,.lst [.int 8,.int 7,.int 6,.int 5,.int 4,.int 3,.int 2,.int 1]]) (by kernel_rfl) ?_)
  rcases VI hj with rfl | rfl | rfl | rfl | rfl | rfl | rfl | rfl<;>cases hjw
  ·exact jn 0 (by decide) s2 (by kernel_rfl)
  ·exact jn 1 (by decide) s2 (by kernel_rfl)
  ·exact jn 2 (by decide) s2 (by kernel_rfl)
  ·exact jn 3 (by decide) s2 (by kernel_rfl)
  ·exact jn 4 (by decide) s2 (by kernel_rfl)
  ·exact jn 5 (by decide) s2 (by kernel_rfl)
  ·exact jn 6 (by decide) s2 (by kernel_rfl)
  ·exact jn 7 (by decide) s2 (by kernel_rfl)
 ·refine jL (by kernel_rfl) (Jx (Jy (A1:=[o2,.lst [.int 8,.int 7,.int 6,.int 5,.int 4,.int 3,.int 2,.int 1]]) (by kernel_rfl) ?_))
  obtain ⟨j',w',o3,e3,hj',hjw',s3⟩:=Q8 (k:=3) (ρ:=[some (.ref 0),some (.int ((1:Nat):Int)),some w,none,none,none,none,none,none,none,none]) (a:=zh (zi (.int 8)) (zh (zi (.int 4)) (zh (zi (.int 2)) (zp)))) (vs:=[.int 8,.int 4,.int 2]) s2 rfl (λ _=>rfl) rfl (by decide) (by decide)
  refine wO ((qL e3).trans rfl) ?_;rcases three hj' with rfl | rfl | rfl<;>cases hjw'
  ·exact jn 8 (by decide) s3 (by kernel_rfl)
  ·exact jn 9 (by decide) s3 (by kernel_rfl)
  ·exact jn 10 (by decide) s3 (by kernel_rfl)
 ·refine jL (by kernel_rfl) (jL (by kernel_rfl) (Jx (Jy (A1:=[o2,.lst [.int 8,.int 7,.int 6,.int 5,.int 4,.int 3,.int 2,.int 1]]) (by kernel_rfl) ?_)))
  rcases VI hj with rfl | rfl | rfl | rfl | rfl | rfl | rfl | rfl<;>cases hjw
  ·exact jn 11 (by decide) s2 (by kernel_rfl)
  ·exact jn 12 (by decide) s2 (by kernel_rfl)
  ·exact jn 13 (by decide) s2 (by kernel_rfl)
  ·exact jn 14 (by decide) s2 (by kernel_rfl)
  ·exact jn 15 (by decide) s2 (by kernel_rfl)
  ·exact jn 16 (by decide) s2 (by kernel_rfl)
  ·exact jn 17 (by decide) s2 (by kernel_rfl)
  ·exact jn 18 (by decide) s2 (by kernel_rfl)
 ·refine jL (by kernel_rfl) (jL (by kernel_rfl) (jL (by kernel_rfl) (Jx (Jy (A1:=[o2,.lst [.int 8,.int 7,.int 6,.int 5,.int 4,.int 3,.int 2,.int 1]]) (by kernel_rfl) ?_))))
  obtain ⟨j',w',o3,e3,hj',hjw',s3⟩:=Q8 (k:=5) (ρ:=[some (.ref 0),some (.int ((3:Nat):Int)),some w,none,none,none,none,none,none,none,none]) (a:=zh (zC (zh (zi (.int 2)) (zh (zi (.int 4)) (zp)))) (zh (zC (zh (zi (.int 4)) (zh (zi (.int 2)) (zp)))) (zh (zC (zh (zi (.int 2)) (zh (zi (.int 3)) (zp)))) (zh (zC (zh (zi (.int 3)) (zh (zi (.int 2)) (zp)))) (zh (zC (zh (zi (.int 2)) (zh (zi (.int 2)) (zp)))) (zp)))))) (vs:=[.tup [.int 2,.int 4],.tup [.int 4,.int 2],.tup [.int 2,.int 3],.tup [.int 3,.int 2],.tup [.int 2,.int 2]]) s2 rfl (λ _=>rfl) rfl (by decide) (by decide)
  have asg:∀{m:Ev} {tw:Tg} {ρ ρ':En} {A A1:Hx} {w:W},m ρ A=.ok w A1->tw w ρ=some ρ'->QE m tw ρ A=.ok (.nx ρ') A1:=λ h h'=>by
   unfold QE;rw [h,zL,h']
  rcases Uo hj' with rfl | rfl | rfl | rfl | rfl<;>cases hjw'
  ·exact wO (asg e3 rfl) (jn 19 (by decide) s3 (by kernel_rfl))
  ·exact wO (asg e3 rfl) (jn 20 (by decide) s3 (by kernel_rfl))
  ·exact wO (asg e3 rfl) (jn 21 (by decide) s3 (by kernel_rfl))
  ·exact wO (asg e3 rfl) (jn 22 (by decide) s3 (by kernel_rfl))
  ·exact wO (asg e3 rfl) (jn 23 (by decide) s3 (by kernel_rfl))
 ·exact jL (by kernel_rfl) (jL (by kernel_rfl) (jL (by kernel_rfl) (jL (by kernel_rfl) (Jx (Jy (A1:=[o2,.lst [.int 8,.int 7,.int 6,.int 5,.int 4,.int 3,.int 2,.int 1]]) (by kernel_rfl) (jn 24 (by decide) s2 (by kernel_rfl)))))))
 ·refine jL (by kernel_rfl) (jL (by kernel_rfl) (jL (by kernel_rfl) (jL (by kernel_rfl) (jL (by kernel_rfl) (Jx (Jy (A1:=[o2,.lst [.int 8,.int 7,.int 6,.int 5,.int 4,.int 3,.int 2,.int 1]]) (by kernel_rfl) ?_))))))
  obtain ⟨j',w',o3,e3,hj',hjw',s3⟩:=Q8 (k:=3) (ρ:=[some (.ref 0),some (.int ((5:Nat):Int)),some w,none,none,none,none,none,none,none,none]) (a:=zh (zi (.int 4)) (zh (zi (.int 8)) (zh (zi (.int 2)) (zp)))) (vs:=[.int 4,.int 8,.int 2]) s2 rfl (λ _=>rfl) rfl (by decide) (by decide)
  refine wO ((qL e3).trans rfl) ?_;rcases three hj' with rfl | rfl | rfl<;>cases hjw'
  ·exact jn 25 (by decide) s3 (by kernel_rfl)
  ·exact jn 26 (by decide) s3 (by kernel_rfl)
  ·exact jn 27 (by decide) s3 (by kernel_rfl)
 ·refine jL (by kernel_rfl) (jL (by kernel_rfl) (jL (by kernel_rfl) (jL (by kernel_rfl) (jL (by kernel_rfl) (jL (by kernel_rfl) ?_)))))
  obtain ⟨j',w',o3,e3,hj',hjw',s3⟩:=Q8 (k:=3) (ρ:=[some (.ref 0),some (.int ((6:Nat):Int)),some w,none,none,none,none,none,none,none,none]) (a:=zh (zi (.int 4)) (zh (zi (.int 3)) (zh (zi (.int 2)) (zp)))) (vs:=[.int 4,.int 3,.int 2]) s2 rfl (λ _=>rfl) rfl (by decide) (by decide)
  refine wO ((qL e3).trans rfl) ?_;rcases three hj' with rfl | rfl | rfl<;>cases hjw'
  ·exact jn 28 (by decide) s3 (by kernel_rfl)
  ·exact jn 29 (by decide) s3 (by kernel_rfl)
  ·exact jn 30 (by decide) s3 (by kernel_rfl)
 ·refine jL (by kernel_rfl) (jL (by kernel_rfl) (jL (by kernel_rfl) (jL (by kernel_rfl) (jL (by kernel_rfl) (jL (by kernel_rfl) ?_)))))
  obtain ⟨j',w',o3,e3,hj',hjw',s3⟩:=Q8 (k:=3) (ρ:=[some (.ref 0),some (.int ((7:Nat):Int)),some w,none,none,none,none,none,none,none,none]) (a:=zh (zi (.int 4)) (zh (zi (.int 3)) (zh (zi (.int 2)) (zp)))) (vs:=[.int 4,.int 3,.int 2]) s2 rfl (λ _=>rfl) rfl (by decide) (by decide)
  refine wO ((qL e3).trans rfl) ?_;rcases three hj' with rfl | rfl | rfl<;>cases hjw'
  ·exact jn 31 (by decide) s3 (by kernel_rfl)
  ·exact jn 32 (by decide) s3 (by kernel_rfl)
  ·exact jn 33 (by decide) s3 (by kernel_rfl)
theorem HM {o:O}(s:qK 0 [o]):∃i,i<34/\∃r B,QY [.ref 0] [o]=.ok (.ref r) B/\qK 0 B/\LL (wI i) r B:=by
 obtain ⟨i,hi,r,B,e,q⟩:=FL s;refine ⟨i,hi,r,B,?_,q⟩;unfold QY U0;exact ja e
end G
namespace Mi
open PySem L2
noncomputable def Uy (g:Nat->W):W->W
 | .int v=>g v.toNat
 | w=>w
theorem Rq (g:Nat->W)(o:List Nat):((o.map λ (a:Nat)=>(a:Int)).map W.int).map (Uy g)=o.map g:=by
 rw [map_map,map_map]
 apply map_congr_left
 intro a _;show g (Int.toNat (a:Int))=g a;rw [toNat_natCast]
theorem Sg {fd:List Int}{M:Nat}{s:Int}(h:fd.Perm ((List.range M).map λ (k:Nat)=>s+(k:Int))):∃p:List Nat,fd=p.map (λ (k:Nat)=>s+(k:Int))/\p.Perm (List.range M):=by
 refine ⟨fd.map λ v=>(v - s).toNat,?_,?_⟩
 ·rw [map_map]
  conv=>lhs;rw [<- map_id fd]
  apply map_congr_left
  intro v hv;obtain ⟨k,_,rfl⟩:=List.mem_map.mp (h.mem_iff.mp hv);show s+(k:Int)=s+(((s+(k:Int) - s).toNat:Nat):Int);omega
 ·have:=h.map λ v=>(v - s).toNat
  rw [map_map] at this;have e:(List.range M).map ((λ v:Int=>(v - s).toNat) ∘ λ (k:Nat)=>s+(k:Int))=List.range M:=by
   conv=>rhs;rw [<- map_id (List.range M)]
   apply map_congr_left
   intro k _;show (s+(k:Int) - s).toNat=k;omega
  rw [e] at this;exact this
end Mi
namespace G
open PySem L2 Mi
section
variable {t:List (List Int)}{A B:Hx}{ρ:En}{n:Nat}
theorem X7 (h:qA t){i:Nat}(hi:ρ[i]? =some (some (zy t))):mQ j9 (zU 1 [] (qE (zc i)) (zJ 0) (zi (.bl true)) (zM (mQ j9 (qb (zc 0))))) ρ A=.ok (.int (jd t - 1)) A:=by
 have n8:=h.n8;have ec:=T8 (cap:=[]) (A:=A) (ρ:=ρ) (o:=t) (f:=zW) (m:=zc i) (me:=mQ j9 (qb (zc 0))) (G:=λ r=>.int (k8 r)) (zt hi) (by unfold zZ;omega) (λ r hr=>(kj (wj (w:=zW r) (ws:=r.map W.int) (A1:=A) (zt rfl) rfl)).trans (Rk (h.row_ne hr)))
 have em:(t.map λ r=>W.int (k8 r))=(t.map k8).map W.int:=by rw [map_map];rfl
 rw [em] at ec;refine ((kj ec).trans (Rk h.map_ne)).trans ?_
 have:jd t - 1=k8 (t.map k8):=by unfold jd;omega
 rw [this]
theorem Mn {ma mb:Ev}{M:Nat}(ha:ma ρ A=.ok (.int 1) A)(hb:mb ρ A=.ok (.int (1+(M:Int))) A)(hM:M<=100):J9 ma mb ρ A=.ok (.ref A.length) (A++[.lst (((List.range M).map λ (k:Nat)=>1+(k:Int)).map W.int)]):=by
 unfold J9;rw [ha,zL,hb,zL];dsimp only;have e:(1+(M:Int) - 1).toNat=M:=by omega
 rw [if_pos (by
  have s1:jI 1=true:=by decide
  have s2:jI (1+(M:Int))=true:=by unfold jI;simp;omega
  rw [s1,s2,e,decide_eq_true (by unfold zZ;omega)];rfl),e,map_map]
 rfl
theorem FZ {o:O}(s:qK 0 [o]):∃t B,GH [.ref 0] [o]=.ok (zy t) B/\qK 0 B/\qA t:=by
 obtain ⟨i,hi,r,B0,e0,s0,l0⟩:=HM s;obtain ⟨tt,sq,hb⟩:=HZ hi;have hlen:(yN (wI i)).length=(wI i).length:=by unfold yN;rw [length_map]
 have m1:=tt.n1;have m8:=tt.n8;obtain ⟨B1,e1,x1⟩:=Ru (by omega) (by omega) sq hb l0
 have s1:=s0.ext x1;generalize hu:yN (wI i)=u at *;clear hu hlen l0;have n1:=tt.n1;have n8:=tt.n8;have kb:=Qw tt;obtain ⟨M,hM⟩:=eq_ofNat_of_zero_le (show 0<=jd u - 1 by omega)
 have el:=Yk (ws:=u.map zW) (ρ:=[some (.ref 0),some (zy u),none,none]) (i:=1) (A:=B1) rfl;rw [length_map] at el;have e2:=MJ el (by omega)
 have hil:iL (List.range u.length)=((List.range u.length).map λ (a:Nat)=>0+(a:Int)).map W.int:=by
  rw [map_map]
  apply map_congr_left
  intro a _;show W.int (a:Int)=W.int (0+(a:Int));rw [zero_add]
 rw [hil] at e2;have s2:=s1.ext (Ext.one (o:=.lst (((List.range u.length).map λ (a:Nat)=>0+(a:Int)).map W.int)));obtain ⟨r2,B2,fd,e3,h2,p2,k2,nw2⟩:=Ri s2 qU (by simp;omega)
 obtain ⟨od,rfl,po⟩:=Sg p2;have hod:(od.map λ (k:Nat)=>(0:Int)+(k:Int))=od.map λ (k:Nat)=>(k:Int):=map_congr_left λ a _=>by omega
 rw [hod] at h2;have es2:zF Ze (zh (zc 0) (zh (J7 (mQ qJ (qb (zc 1)))) (zp))) [some (.ref 0),some (zy u),none,none] B1=.ok (.ref r2) B2:=(zX (zG (zt (i:=0) rfl) (zG e2 qa))).trans e3;have hr20:0<r2:=by have:=s1.lt;simp at nw2;omega
 have e4:zV (zh (zi (.int 0)) (zp)) [some (.ref 0),some (zy u),some (.ref r2),none] B2=.ok (.ref B2.length) (B2++[.lst [.int 0]]):=jU (zG qR qa);have s3:=k2.st.ext (Ext.one (o:=.lst [.int 0]));have h2':=yu (u:=.lst [.int 0]) h2;have hz:(B2++[.lst [.int 0]])[B2.length]? =some (.lst [.int 0]):=qU;have h2l:=gi h2;have hB2:0<B2.length:=by omega
 generalize B2++[.lst [.int 0]]=B3 at e4 s3 h2' hz;have emx:=X7 tt (ρ:=[some (.ref 0),some (zy u),some (.ref r2),none]) (i:=1) (A:=B3) rfl;rw [hM] at emx;have e5:=Mn (ρ:=[some (.ref 0),some (zy u),some (.ref r2),none]) (A:=B3) (M:=M) (ma:=zi (.int 1)) (mb:=zo qH (zi (.int 1)) (mQ j9 (zU 1 [] (qE (zc 1)) (zJ 0) (zi (.bl true)) (zM (mQ j9 (qb (zc 0))))))) qR ((zN qR emx).trans rfl) (by omega)
 have s4:=s3.ext (Ext.one (o:=.lst (((List.range M).map λ (k:Nat)=>1+(k:Int)).map W.int)));obtain ⟨r3,B4,fd3,e6,h3,p3,k3,nw3⟩:=Ri s4 qU (by simp;omega)
 obtain ⟨pk,rfl,pp⟩:=Sg p3;have h2'':=k3.kp.get (yu h2') (by omega)
 have hz':=k3.kp.get (yu hz) (by omega)
 have es3:zo qH (zV (zh (zi (.int 0)) (zp))) (zF Ze (zh (zc 0) (zh (J9 (zi (.int 1)) (zo qH (zi (.int 1)) (mQ j9 (zU 1 [] (qE (zc 1)) (zJ 0) (zi (.bl true)) (zM (mQ j9 (qb (zc 0)))))))) (zp)))) [some (.ref 0),some (zy u),some (.ref r2),none] B2=.ok (.ref B4.length) (B4++[.lst ((jY pk).map W.int)]):=by
  refine (zN e4 ((zX (zG (zt (i:=0) rfl) (zG e5 qa))).trans e6)).trans ((XZ hz' h3 ?_).trans rfl)
  have:=pp.length_eq
  rw [length_range] at this;rw [length_map,length_map,this];unfold zZ;simp;omega
 have h5:=yu (u:=.lst ((jY pk).map W.int)) h2'';have h6:(B4++[.lst ((jY pk).map W.int)])[B4.length]? =some (.lst ((jY pk).map W.int)):=qU;have s5:=k3.st.ext (Ext.one (o:=.lst ((jY pk).map W.int)));generalize hB5:B4++[.lst ((jY pk).map W.int)]=B5 at es3 h5 h6 s5;have hol:od.length=u.length:=by rw [po.length_eq,length_range]
 have hom:∀a∈od,a<u.length:=λ a ha=>List.mem_range.mp (po.mem_iff.mp ha);have hpl:pk.length=M:=by rw [pp.length_eq,length_range]
 have hM':(jd u - 1).toNat=M:=by omega
 have res:=Ll tt (p:=pk) (o:=od) (by rw [hM'];exact pp) po
 refine ⟨Qy u pk od,B5,?_,s5,res.1⟩;unfold GH;refine ja ?_;unfold GN;refine (zI ((qL ((zX (zG ((zX (zG (zt (i:=0) rfl) qa)).trans e0) qa)).trans e1)).trans rfl)).trans ((zI ((qL es2).trans rfl)).trans ((zI ((qL es3).trans rfl)).trans (qu (jb ?_))));have inner:∀a,a∈od->∀b,b∈od->zo zB (zc 3) (zo zB (zo zB (zc 2) (zc 1)) (zc 0)) [some (.int (b:Int)),some (.int (a:Int)),some (zy u),some (.ref B4.length)] B5=.ok (.int ((jY pk).getD (at2 u a b).toNat 0)) B5:=λ a ha b hb=>by
  have la:=hom a ha;have lb:=hom b hb;have bd:=Ud tt la lb;have kg:=Vq tt la lb;obtain ⟨v,hv⟩:=eq_ofNat_of_zero_le bd.1;have e:zo zB (zo zB (zc 2) (zc 1)) (zc 0) [some (.int (b:Int)),some (.int (a:Int)),some (zy u),some (.ref B4.length)] B5=.ok (.int (v:Int)) B5:=by
   rw [<- hv];exact (zN ((zN (zt rfl) (zt rfl)).trans (ZR la)) (zt rfl)).trans (Yd (by rw [tt.sq _ (yq la)];exact lb))
  have hvl:v<(jY pk).length:=by
   show v<(pk.map _).length+1;rw [length_map];omega
  refine (zN (zt (i:=3) rfl) e).trans (gj h6 ?_);rw [hv,toNat_natCast,getElem?_map,getElem?_eq_getElem hvl,getD_eq_getElem?_getD,getElem?_eq_getElem hvl]
  rfl
 have ec:=Kv (cap:=[1,2,3]) (m:=zc 2) (me:=mQ yP (zU 1 [0,1,3] (qE (zc 2)) (zJ 0) (zi (.bl true)) (zM (zo zB (zc 3) (zo zB (zo zB (zc 2) (zc 1)) (zc 0)))))) (ρ:=[some (.ref 0),some (zy u),some (.ref r2),some (.ref B4.length)]) (A:=B5) (g:=Uy λ a=>zW (od.map λ b=>(jY pk).getD (at2 u a b).toNat 0)) (zt rfl) h5 (by simp;unfold zZ;omega) (λ w hw=>by
  obtain ⟨v,hv,rfl⟩:=List.mem_map.mp hw;obtain ⟨a,ha,rfl⟩:=List.mem_map.mp hv;have ei:=Kv (cap:=[0,1,3]) (m:=zc 2) (me:=zo zB (zc 3) (zo zB (zo zB (zc 2) (zc 1)) (zc 0))) (ρ:=[some (.int (a:Int)),some (zy u),some (.ref r2),some (.ref B4.length)]) (A:=B5) (g:=Uy λ b=>.int ((jY pk).getD (at2 u a b).toNat 0)) (zt rfl) h5 (by simp;unfold zZ;omega) (λ w hw=>by
   obtain ⟨v,hv,rfl⟩:=List.mem_map.mp hw;obtain ⟨b,hb,rfl⟩:=List.mem_map.mp hv;refine (inner a ha b hb).trans ?_;show _=R.ok (W.int ((jY pk).getD (at2 u a (Int.toNat (b:Int))).toNat 0)) B5;rw [toNat_natCast])
  rw [Rq] at ei;refine (Jn ei).trans ?_;show _=R.ok (zW (od.map λ b=>(jY pk).getD (at2 u (Int.toNat (a:Int)) b).toNat 0)) B5;rw [toNat_natCast];unfold zW;rw [map_map]
  rfl)
 rw [Rq] at ec;refine (Jn ec).trans ?_;unfold zy Qy;rw [map_map]
 rfl
theorem FU (s:qK n A):∃t B,Zg [.ref n] A=.ok (zy t) B/\qA t/\Kn n A B/\B.length=A.length:=by
 obtain ⟨c,b,hA,hc,hb⟩:=s;have hm:=gi hA;obtain ⟨t,A1,e,⟨c',b',e',hc',hb'⟩,tb⟩:=FZ (o:=.lst [.int c,.bl b]) ⟨c,b,rfl,hc,hb⟩;refine ⟨t,A.set n (.lst [.int c',.bl b']),?_,tb,⟨Kp.set,c',b',getElem?_set_self hm,hc',hb'⟩,length_set ..⟩;unfold Zg;exact Rf hA rfl e e' (kC t)
end
structure LM (N b0 r:Nat)(μ:Nat->Nat->Int)(C:Hx):Prop where
 top:C[r]? =some (.lst ((List.range N).map λ i=>W.ref (b0+i)))
 row:∀i,i<N->C[b0+i]? =some (.lst ((List.range N).map λ j=>W.int (μ i j)))
 lt:b0+N<=r
 pos:0<b0
 st:qK 0 C
structure Sy (N:Nat)(μ:Nat->Nat->Int):Prop where
 dg:∀a b,a<N->b<N->(μ a b=0↔a=b)
 sy:∀a b,a<N->b<N->μ a b=μ b a
 lo:∀a b,a<N->b<N->0<=μ a b/\μ a b<(N:Int)
section
variable {N b0 r a b:Nat}{μ:Nat->Nat->Int}{C:Hx}{t:List (List Int)}{ρ:En}
theorem Sy.step (h:Sy N μ)(ha:a<N)(hb:b<N)(hab:a≠b){k:Int}(k1:1<=k)(k2:k<(N:Int)):Sy N (kL (kL μ a b k) b a k):=by
 have at_:∀i j,kL (kL μ a b k) b a k i j=if (i=b/\j=a)∨(i=a/\j=b) then k else μ i j:=λ i j=>by
  unfold kL
  by_cases q1:i=b/\j=a
  ·rw [if_pos q1,if_pos (.inl q1)]
  ·rw [if_neg q1]
   by_cases q2:i=a/\j=b
   ·rw [if_pos q2,if_pos (.inr q2)]
   ·rw [if_neg q2,if_neg (by rintro (z | z);exact q1 z;exact q2 z)]
 refine ⟨λ i j hi hj=>?_,λ i j hi hj=>?_,λ i j hi hj=>?_⟩
 ·rw [at_]
  by_cases q:(i=b/\j=a)∨(i=a/\j=b)
  ·rw [if_pos q]
   constructor
   ·intro z;omega
   ·intro z;omega
  ·rw [if_neg q];exact h.dg i j hi hj
 ·rw [at_,at_]
  by_cases q:(i=b/\j=a)∨(i=a/\j=b)
  ·rw [if_pos q,if_pos (by rcases q with ⟨z1,z2⟩ | ⟨z1,z2⟩;exact .inr ⟨z2,z1⟩;exact .inl ⟨z2,z1⟩)]
  ·rw [if_neg q,if_neg (by rintro (⟨z1,z2⟩ | ⟨z1,z2⟩);exact q (.inr ⟨z2,z1⟩);exact q (.inl ⟨z2,z1⟩))]
   exact h.sy i j hi hj
 ·rw [at_]
  by_cases q:(i=b/\j=a)∨(i=a/\j=b)
  ·rw [if_pos q];omega
  ·rw [if_neg q];exact h.lo i j hi hj
theorem Rb {g:Nat->Int}{k:Int}(hb:b<N):((List.range N).map λ j=>W.int (g j)).set b (.int k)=(List.range N).map λ j=>W.int (if j=b then k else g j):=by
 apply ext_getElem?
 intro i
 by_cases hi:i<N
 ·by_cases q:b=i
  ·subst q
   rw [getElem?_set_self (by simpa using hi),getElem?_map,getElem?_range hi]
   simp
  ·rw [getElem?_set_ne q,getElem?_map,getElem?_map,getElem?_range hi]
   simp [Ne.symm q]
 ·rw [getElem?_eq_none (by simp;omega),getElem?_eq_none (by simp;omega)]
theorem LM.put (h:LM N b0 r μ C)(ha:a<N)(hb:b<N)(k:Int):∃C',yv (.ref (b0+a)) (.int (b:Int)) (.int k) C=.ok () C'/\LM N b0 r (kL μ a b k) C':=by
 have hr:=h.row a ha;have hlt:=gi hr;have h1:=h.lt;have h2:=h.pos;refine ⟨_,S8 hr (by simp;omega),?_,λ i hi=>?_,h1,h2,h.st.put (by omega)⟩
 ·rw [getElem?_set_ne (by omega)];exact h.top
 ·by_cases q:i=a
  ·subst q
   rw [getElem?_set_self hlt,Rb hb]
   congr 3
   funext j
   unfold kL
   by_cases z:j=b
   ·rw [if_pos z,if_pos ⟨rfl,z⟩]
   ·rw [if_neg z,if_neg (by rintro ⟨_,w⟩;exact z w)]
  ·rw [getElem?_set_ne (by omega),h.row i hi]
   congr 3
   funext j
   unfold kL;rw [if_neg (by rintro ⟨w,_⟩;exact q w)]
theorem LM.kn {C':Hx}(h:LM N b0 r μ C)(k:Kn 0 C C'):LM N b0 r μ C':=by
 have h1:=h.lt;have h2:=h.pos;exact ⟨k.kp.get h.top (by omega),λ i hi=>k.kp.get (h.row i hi) (by omega),h1,h2,k.st⟩
theorem LM.ix (h:LM N b0 r μ C){i:Nat}{m:Ev}(hm:m ρ C=.ok (.ref r) C)(hi:ρ[i]? =some (some (.int (a:Int))))(ha:a<N):zo zB m (zc i) ρ C=.ok (.ref (b0+a)) C:=
 (zN hm (zt hi)).trans (gj h.top (by rw [getElem?_map,getElem?_range ha];rfl))
theorem LM.ix2 (h:LM N b0 r μ C){i j:Nat}{m:Ev}(hm:m ρ C=.ok (.ref r) C)(hi:ρ[i]? =some (some (.int (a:Int))))(hj:ρ[j]? =some (some (.int (b:Int))))(ha:a<N)(hb:b<N):zo zB (zo zB m (zc i)) (zc j) ρ C=.ok (.int (μ a b)) C:=
 (zN (h.ix hm hi ha) (zt hj)).trans (gj (h.row a ha) (by rw [getElem?_map,getElem?_range hb];rfl))
noncomputable abbrev Uv (me:Ev)(rest:Ex):Ex:=zq (kW yv (zo qH (zi (.int 1)) (zF qC (zh (zc 0) (zh me (zp))))) (zo zB (zc 2) (zc 4)) (zc 5)) (zq (kW yv (zo zB (zo zB (zc 2) (zc 4)) (zc 5)) (zo zB (zc 2) (zc 5)) (zc 4)) rest)
theorem Ra (h:LM N b0 r μ C)(q:Sy N μ)(ha:a<N)(hb:b<N)(hab:a≠b)(h0:ρ[0]? =some (some (.ref 0)))(h2:ρ[2]? =some (some (.ref r)))(h4:ρ[4]? =some (some (.int (a:Int))))(h5:ρ[5]? =some (some (.int (b:Int)))){me:Ev}{m:Int}(hm:me ρ C=.ok (.int m) C)(m1:0<m)(m2:m<(N:Int))(hN:N<=8)(rest:Ex):
  ∃μ' C',Uv me rest ρ C=rest ρ C'/\LM N b0 r μ' C'/\Sy N μ':=by
 obtain ⟨k,C1,e1,hk,k1,_⟩:=ZP h.st h0 hm m1 (by omega)
 have l1:=h.kn k1;obtain ⟨C2,e2,l2⟩:=l1.put ha hb (1+(k:Int));obtain ⟨C3,e3,l3⟩:=l2.put hb ha (1+(k:Int));refine ⟨_,C3,?_,l3,q.step ha hb hab (by omega) (by omega)⟩
 refine (zI (ρ1:=ρ) (A1:=C2) ?_).trans (zI (ρ1:=ρ) (A1:=C3) ?_)
 ·unfold kW
  rw [(zN (qR (w:=.int 1)) e1).trans (show qH (.int 1) (.int (k:Int)) C1=.ok (.int (1+(k:Int))) C1 from rfl),zL,l1.ix (zt h2) h4 ha,zL,zt h5,zL,e2,zL]
 ·have ev:kL μ a b (1+(k:Int)) a b=1+(k:Int):=by unfold kL;rw [if_pos ⟨rfl,rfl⟩]
  unfold kW;rw [l2.ix2 (zt h2) h4 h5 ha hb,zL,l2.ix (zt h2) h5 hb,zL,zt h4,zL,ev,e3,zL]
theorem LM.ll (h:LM N b0 r μ C):LL (j8 N μ) r C:=by
 refine ⟨(List.range N).map λ i=>b0+i,by rw [h.top,map_map];rfl,by rw [Jc];simp,λ i hi=>?_⟩
 rw [Jc] at hi;have e1:((List.range N).map λ i=>b0+i).getD i 0=b0+i:=by rw [getD_eq_getElem?_getD,getElem?_map,getElem?_range hi];rfl
 have e2:(j8 N μ).getD i []=(List.range N).map (μ i):=by unfold j8;rw [getD_eq_getElem?_getD,getElem?_map,getElem?_range hi];rfl
 rw [e1,e2,h.row i hi,map_map]
 rfl
theorem LM.fin (h:LM N b0 r μ C)(q:Sy N μ)(n1:1<=N)(n8:N<=8)(h2:ρ[2]? =some (some (.ref r))):∃u B,zF wK (zh (zc 2) (zp)) ρ C=.ok (zy u) B/\qA u/\qK 0 B:=by
 have hl:=Jc (n:=N) (μ:=μ);have hb:∀v∈(j8 N μ).flatten,0<=v/\v<(N:Int):=λ v hv=>by
  obtain ⟨a,b,ha,hb,rfl⟩:=Qn KZ hv;rw [hl] at ha hb;rw [ZQ ha hb];exact q.lo a b ha hb
 obtain ⟨B,e,x⟩:=Ru (t:=j8 N μ) (by omega) (by omega) KZ (λ v hv=>by have:=hb v hv;omega) h.ll
 refine ⟨_,B,(zX (zG (zt h2) qa)).trans e,Mm (by omega) (by omega) KZ ?_ ?_ ?_,h.st.ext x⟩
 ·intro a b ha hb;rw [hl] at ha hb;rw [ZQ ha hb];exact q.dg a b ha hb
 ·intro a b ha hb;rw [hl] at ha hb;rw [ZQ ha hb,ZQ hb ha];exact q.sy a b ha hb
 ·intro a b ha hb;rw [hl] at ha hb ⊢;rw [ZQ ha hb];exact q.lo a b ha hb
theorem HD {B:Hx}(h:qA t)(s:qK 0 B):LM t.length B.length (B.length+t.length) (at2 t) (B++(t.map λ r=>O.lst (r.map W.int))++[O.lst ((List.range t.length).map λ i=>W.ref (B.length+i))])/\Sy t.length (at2 t):=by
 refine ⟨⟨Ss,λ i hi=>?_,le_refl _,s.lt,s.ext ⟨(t.map λ r=>O.lst (r.map W.int))++[O.lst ((List.range t.length).map λ i=>W.ref (B.length+i))],by rw [append_assoc]⟩⟩,h.dg,h.sy,λ a b ha hb=>?_⟩
 ·rw [Rp hi]
  congr 2
  have hr:=h.sq _ (yq hi)
  have:=JP (t.getD i []) 0 W.int
  rw [this,hr]
  rfl
 ·obtain ⟨rr,h1,h2,_⟩:=KR h.sq ha hb
  exact h.lo rr h1 _ h2
theorem Hw {o:O}(s:qK 0 [o]):∃t B,GL [.ref 0] [o]=.ok (zy t) B/\qK 0 B/\qA t:=by
 unfold GL;unfold GS;obtain ⟨way,B0,e0,hw,k0,_⟩:=ZP (ρ:=[some (.ref 0),none,none,none,none,none,none]) (me:=zi (.int 3)) s rfl qR (by decide:(0:Int)<3) (by decide)
 have go:∀m2:Ex,zq (zQ 1 (zF qC (zh (zc 0) (zh (zi (.int 3)) (zp))))) m2 [some (.ref 0),none,none,none,none,none,none] [o]=m2 [some (.ref 0),some (.int (way:Int)),none,none,none,none,none] B0:=λ m2=>zI ((qL e0).trans rfl);obtain ⟨t,B1,e1,ht,k1,_⟩:=FU k0.st;have n1:=ht.n1;have n8:=ht.n8;have ew:zo jf (zc 1) (zi (.int 0)) [some (.ref 0),some (.int (way:Int)),none,none,none,none,none] B0=.ok (.bl (decide ((way:Int)=0))) B0:=(zN (zt rfl) qR).trans (Z7 _ _ _);have ek:zF Zg (zh (zc 0) (zp)) [some (.ref 0),some (.int (way:Int)),none,none,none,none,none] B0=.ok (zy t) B1:=(zX (zG (zt rfl) qa)).trans e1
 by_cases q0:(way:Int)=0
 ·rw [decide_eq_true q0] at ew
  exact ⟨t,B1,ja ((go _).trans (qu ((kX ew).trans (qu (jb ek))))),k1.st,ht⟩
 ·rw [decide_eq_false q0] at ew
  have er:=N4 (B:=B1) n8 ht.sq ek;obtain ⟨lm,sy⟩:=HD ht k1.st;generalize B1++(t.map λ r=>O.lst (r.map W.int))++[O.lst ((List.range t.length).map λ i=>W.ref (B1.length+i))]=C at er lm;generalize B1.length+t.length=r at er lm;generalize B1.length=b0 at lm;generalize at2 t=μ at lm sy;generalize hN:t.length=N at lm sy n1 n8;have elen:mQ qJ (qb (zc 2)) [some (.ref 0),some (.int (way:Int)),some (.ref r),none,none,none,none] C=.ok (.int (N:Int)) C:=by
   rw [kj (wj (w:=.ref r) (A1:=C) (zt rfl) (by unfold zO;dsimp only;rw [lm.top]))]
   unfold qJ;simp
  have go2:∀m1 m2:Ex,zq (zQ 1 (zF qC (zh (zc 0) (zh (zi (.int 3)) (zp))))) (zq (qN (zo jf (zc 1) (zi (.int 0))) m1 zA) (zq (zQ 2 (qm (zU 1 [] (qE (zF Zg (zh (zc 0) (zp)))) (zJ 0) (zi (.bl true)) (zM (qm (qb (zc 0))))))) (zq (zQ 3 (mQ qJ (qb (zc 2)))) m2))) [some (.ref 0),none,none,none,none,none,none] [o]=m2 [some (.ref 0),some (.int (way:Int)),some (.ref r),some (.int (N:Int)),none,none,none] C:=λ m1 m2=>
   (go _).trans ((zI ((yd ew).trans jD)).trans ((zI ((qL er).trans rfl)).trans (zI ((qL elen).trans rfl))))
  have ec:kq (zo jf (zc 1) (zi (.int 1))) (zo UD (zc 3) (zi (.int 1))) [some (.ref 0),some (.int (way:Int)),some (.ref r),some (.int (N:Int)),none,none,none] C=.ok (.bl (decide ((way:Int)=1)&&decide ((1:Int)<(N:Int)))) C:=by
   have e:zo jf (zc 1) (zi (.int 1)) [some (.ref 0),some (.int (way:Int)),some (.ref r),some (.int (N:Int)),none,none,none] C=.ok (.bl (decide ((way:Int)=1))) C:=(zN (zt rfl) qR).trans (Z7 _ _ _)
   by_cases z:(way:Int)=1
   ·rw [decide_eq_true z] at e ⊢
    exact (Zn e).trans ((zN (zt rfl) qR).trans rfl)
   ·rw [decide_eq_false z] at e ⊢
    exact Qq e
  cases hd:(decide ((way:Int)=1)&&decide ((1:Int)<(N:Int))) with
  | true=>
   rw [hd] at ec;have hN2:2<=N:=by
    rw [and_eq_true,decide_eq_true_iff,decide_eq_true_iff] at hd;omega
   obtain ⟨a,C1,e2,ha,k2,_⟩:=ZP (ρ:=[some (.ref 0),some (.int (way:Int)),some (.ref r),some (.int (N:Int)),none,none,none]) (me:=zc 3) lm.st rfl (zt rfl) (by omega:(0:Int)<(N:Int)) (by omega)
   obtain ⟨q,C2,e3,hq,k3,_⟩:=ZP (ρ:=[some (.ref 0),some (.int (way:Int)),some (.ref r),some (.int (N:Int)),some (.int (a:Int)),none,none]) (me:=zo yG (zc 3) (zi (.int 1))) (m:=(N:Int) - 1) k2.st rfl ((zN (zt rfl) qR).trans rfl) (by omega) (by omega)
   have lm2:=(lm.kn k2).kn k3;have hb:(a+1+q) % N<N:=Nat.mod_lt _ (by omega)
   have hab:a≠(a+1+q) % N:=by
    intro z
    by_cases g:a+1+q<N
    ·rw [Nat.mod_eq_of_lt g] at z;omega
    ·rw [Nat.mod_eq_sub_mod (by omega),Nat.mod_eq_of_lt (by omega)] at z
     omega
   have e4:zo kH (zo qH (zo qH (zc 4) (zi (.int 1))) (zF qC (zh (zc 0) (zh (zo yG (zc 3) (zi (.int 1))) (zp))))) (zc 3) [some (.ref 0),some (.int (way:Int)),some (.ref r),some (.int (N:Int)),some (.int (a:Int)),none,none] C1=.ok (.int (((a+1+q) % N:Nat):Int)) C2:=by
    refine (zN ((zN ((zN (zt rfl) qR).trans (show qH (.int (a:Int)) (.int 1) C1=.ok (.int ((a:Int)+1)) C1 from rfl)) e3).trans (show qH (.int ((a:Int)+1)) (.int (q:Int)) C2=.ok (.int ((a:Int)+1+(q:Int))) C2 from rfl)) (zt (i:=3) rfl)).trans ((Qu (by omega)).trans ?_)
    congr 2
   obtain ⟨μ',C3,e5,lm3,sy3⟩:=Ra (ρ:=[some (.ref 0),some (.int (way:Int)),some (.ref r),some (.int (N:Int)),some (.int (a:Int)),some (.int (((a+1+q) % N:Nat):Int)),none]) (me:=zo yG (zc 3) (zi (.int 1))) (m:=(N:Int) - 1) lm2 sy (by omega) hb hab rfl rfl rfl rfl ((zN (zt rfl) qR).trans rfl) (by omega) (by omega) n8 (zq (qk (zF wK (zh (zc 2) (zp)))) (zA))
   obtain ⟨u,B,e6,hu,sB⟩:=lm3.fin sy3 n1 n8 (ρ:=[some (.ref 0),some (.int (way:Int)),some (.ref r),some (.int (N:Int)),some (.int (a:Int)),some (.int (((a+1+q) % N:Nat):Int)),none]) rfl;refine ⟨u,B,ja ((go2 _ _).trans (qu ((kX ec).trans ?_))),sB,hu⟩;exact (zI ((qL e2).trans rfl)).trans ((zI ((qL e4).trans rfl)).trans (e5.trans (qu (jb e6))))
  | false=>
   rw [hd] at ec;have xo:Ext C (C++[.lst [.int 2,.int 3,.int 1]]):=Ext.one;obtain ⟨j,C1,e2,hj,k2,_⟩:=ZP (ρ:=[some (.ref 0),some (.int (way:Int)),some (.ref r),some (.int (N:Int)),none,none,none]) (me:=zi (.int 3)) (lm.st.ext xo) rfl qR (by decide:(0:Int)<3) (by decide)
   have lm1:LM N b0 r μ C1:=(lm.kn (Kn.ext lm.st xo)).kn k2;obtain ⟨far,hf1,ef⟩:∃far:Int,1<=far/\zo zB (zV (zh (zi (.int 2)) (zh (zi (.int 3)) (zh (zi (.int 1)) (zp))))) (zF qC (zh (zc 0) (zh (zi (.int 3)) (zp)))) [some (.ref 0),some (.int (way:Int)),some (.ref r),some (.int (N:Int)),none,none,none] C=.ok (.int far) C1:=by
    have hat:=k2.kp.get (qU (A:=C)) (by have:=lm.st.lt;omega)
    have hj3:j<3:=by omega
    rcases three hj3 with rfl | rfl | rfl
    ·exact ⟨2,by decide,(zN (jU rfl) e2).trans (gj hat rfl)⟩
    ·exact ⟨3,by decide,(zN (jU rfl) e2).trans (gj hat rfl)⟩
    ·exact ⟨1,by decide,(zN (jU rfl) e2).trans (gj hat rfl)⟩
   have rng:∀(i:Nat) (ρ:En) (D:Hx) (k:Nat),k<=8->ρ[i]? =some (some (.int (k:Int)))->qZ (zc i) ρ D=.ok (yO 0 k) D:=λ i ρ D k hk h=>by
    have:=Zl (m:=zc i) (A:=D) (zt h) (Zj (n:=k) (by omega))
    rw [toNat_natCast] at this;exact this
   obtain ⟨ρ',D,e3,⟨μ',lm3,sy3⟩,y4,y5,hρ⟩:=ZK (j:=yO 0 N) (st:=turn (zJ 4) (zq (yI (qZ (zc 4)) (zJ 5) (Uv (zo Z0 (zc 6) (zo yG (zc 3) (zi (.int 1)))) zA)) (zA))) (N:=N)
    (I:=λ _ ρ D=>(∃μ,LM N b0 r μ D/\Sy N μ)/\∃y4 y5,ρ=[some (.ref 0),some (.int (way:Int)),some (.ref r),some (.int (N:Int)),y4,y5,some (.int far)])
    (λ a ρ D ha ⟨⟨μ,lm,sy⟩,y4,y5,hρ⟩=>by
     subst hρ;obtain ⟨ρ',D',e,⟨μ',lm',sy'⟩,y5',hρ'⟩:=ZK (j:=yO 0 a) (st:=turn (zJ 5) (Uv (zo Z0 (zc 6) (zo yG (zc 3) (zi (.int 1)))) zA)) (N:=a)
      (I:=λ _ ρ D=>(∃μ,LM N b0 r μ D/\Sy N μ)/\∃y5,ρ=[some (.ref 0),some (.int (way:Int)),some (.ref r),some (.int (N:Int)),some (.int (a:Int)),y5,some (.int far)])
      (λ b ρ D hb ⟨⟨μ,lm,sy⟩,y5,hρ⟩=>by
       subst hρ;have em:zo Z0 (zc 6) (zo yG (zc 3) (zi (.int 1))) [some (.ref 0),some (.int (way:Int)),some (.ref r),some (.int (N:Int)),some (.int (a:Int)),some (.int (b:Int)),some (.int far)] D=.ok (.int (if (N:Int) - 1<far then (N:Int) - 1 else far)) D:=(zN (zt rfl) ((zN (zt rfl) qR).trans rfl)).trans rfl;obtain ⟨μ',D',e,lm',sy'⟩:=Ra (ρ:=[some (.ref 0),some (.int (way:Int)),some (.ref r),some (.int (N:Int)),some (.int (a:Int)),some (.int (b:Int)),some (.int far)]) lm sy ha (by omega:b<N) (by omega) rfl rfl rfl rfl em (by split<;>omega) (by split<;>omega) n8 zA
       refine ⟨_,_,D',gr hb,(wg (ρ1:=[some (.ref 0),some (.int (way:Int)),some (.ref r),some (.int (N:Int)),some (.int (a:Int)),some (.int (b:Int)),some (.int far)]) ?_).trans e,⟨μ',lm',sy'⟩,_,rfl⟩;rw [zero_add];rfl)
      (λ ρ D _=>gk (by omega)) a 0 [some (.ref 0),some (.int (way:Int)),some (.ref r),some (.int (N:Int)),some (.int (a:Int)),y5,some (.int far)] D (by omega) ⟨⟨μ,lm,sy⟩,_,rfl⟩
     subst hρ';refine ⟨_,_,D',gr ha,(wg (ρ1:=[some (.ref 0),some (.int (way:Int)),some (.ref r),some (.int (N:Int)),some (.int (a:Int)),y5,some (.int far)]) ?_).trans ((zI ((wL (rng 4 _ D a (by omega) rfl)).trans e)).trans jD),⟨μ',lm',sy'⟩,_,_,rfl⟩
     rw [zero_add];rfl)
    (λ ρ D _=>gk (by omega)) N 0 [some (.ref 0),some (.int (way:Int)),some (.ref r),some (.int (N:Int)),none,none,some (.int far)] C1 (by omega) ⟨⟨μ,lm1,sy⟩,_,_,rfl⟩
   subst hρ;obtain ⟨u,B,e6,hu,sB⟩:=lm3.fin sy3 n1 n8 (ρ:=[some (.ref 0),some (.int (way:Int)),some (.ref r),some (.int (N:Int)),y4,y5,some (.int far)]) rfl;refine ⟨u,B,ja ((go2 _ _).trans ((zI ((yd ec).trans jD)).trans ((zI ((qL ef).trans rfl)).trans ((zI ((wL (rng 3 _ C1 N n8 rfl)).trans e3)).trans (qu (jb e6)))))),sB,hu⟩
theorem ER {n:Nat}{A:Hx}(s:qK n A):∃t B,Qb [.ref n] A=.ok (zy t) B/\qA t/\Kn n A B:=by
 obtain ⟨c,b,hA,hc,hb⟩:=s;have hm:=gi hA;obtain ⟨t,A1,e,⟨c',b',e',hc',hb'⟩,tb⟩:=Hw (o:=.lst [.int c,.bl b]) ⟨c,b,rfl,hc,hb⟩;refine ⟨t,A.set n (.lst [.int c',.bl b']),?_,tb,⟨Kp.set,c',b',getElem?_set_self hm,hc',hb'⟩⟩;unfold Qb;exact Rf hA rfl e e' (kC t)
end
end G
namespace Mi
open PySem L2
theorem Mr {A:Hx}{c:En}{me:Ev}{j:jx}{N:Nat}{u v g:Nat->W}(hat:∀i,i<N->j.at_ A i=some (some (.tup [u i,v i])))(hend:j.at_ A N=some none)(he:∀i,i<N->me (some (u i)::some (v i)::c) A=.ok (g i) A):
  ∀(f i:Nat) (x y:Option W) (acc:List W),i+f=N->acc.length+f<=zZ->∃ρ,qI j (yW 0 1) (zi (.bl true)) (zM me) f i (x::y::c) acc A=.ok (ρ,acc++(List.range' i f).map g) A:=by
 intro f
 induction f with
 | zero=>
  intro i x y acc h hl
  have:i=N:=by omega
  subst this;refine ⟨x::y::c,?_⟩;unfold qI;rw [hend];simp
 | succ f ih=>
  intro i x y acc h hl;obtain ⟨ρ,e⟩:=ih (i+1) (some (u i)) (some (v i)) (acc++[g i]) (by omega) (by rw [length_append,length_singleton];omega)
  refine ⟨ρ,?_⟩;rw [qI,hat i (by omega)]
  dsimp only;rw [show yW 0 1 (.tup [u i,v i]) (x::y::c)=some (some (u i)::some (v i)::c) from rfl]
  dsimp only [zi];rw [zL];dsimp only;have ee:zM me (some (u i)::some (v i)::c) acc A=.ok (some (u i)::some (v i)::c,acc++[g i]) A:=by
   unfold zM;rw [he i (by omega),zL,if_pos (by omega)]
  rw [ee,zL];rw [e,append_assoc,range'_succ,map_cons]
  rfl
theorem NQ {A:Hx}{cap:List Nat}{ρ:En}{me:Ev}{mi:Ei}{j:jx}{N:Nat}{u v g:Nat->W}(hm:mi ρ A=.ok j A)(hj:j.len=N)(hN:N<=1000)(hat:∀i,i<N->j.at_ A i=some (some (.tup [u i,v i])))(hend:j.at_ A N=some none)
  (he:∀i,i<N->me (some (u i)::some (v i)::cap.map λ i=>(ρ[i]?).join) A=.ok (g i) A):zU 2 cap mi (yW 0 1) (zi (.bl true)) (zM me) ρ A=.ok ((List.range N).map g) A:=by
 obtain ⟨ρ',e⟩:=Mr (A:=A) (c:=cap.map λ i=>(ρ[i]?).join) hat hend he N 0 none none [] (by omega) (by unfold zZ;simp;omega)
 unfold zU;rw [hm,zL,hj];show R.bind (R.nox (qI j _ _ _ N 0 (none::none::cap.map λ i=>(ρ[i]?).join) [] A)) _=_;rw [e,<- range_eq_range',nil_append]
 rfl
end Mi
namespace G
open PySem L2 Mi
section
variable {s t:List (List Int)}
end
theorem wN {α:Type}{r:R α}{a:α}{A:Hx}(h:r=.ok a A):r.nox=.ok a A:=by rw [h];rfl
theorem Ve {n:Nat}{m:Ex}{ws:List W}{w:W}{A A1:Hx}(h:m (ws.map some++List.replicate (n - ws.length) none) A=.ok (.rt w) A1):yK n m ws A=.ok w A1:=by unfold yK;rw [h];rfl
theorem Vn {n:Nat}{m:Ex}{ws:List W}{ρ:En}{A A1:Hx}(h:m (ws.map some++List.replicate (n - ws.length) none) A=.ok (.nx ρ) A1):yK n m ws A=.ok .non A1:=by unfold yK;rw [h];rfl
theorem we {m1 m2:Ex}{ρ:En}{A A1:Hx}{x:Str}(h:m1 ρ A=.exc x A1):zq m1 m2 ρ A=.exc x A1:=by unfold zq;rw [h,Sz]
theorem Ql {m:Ev}{ρ:En}{A A1:Hx}{x:Str}(h:m ρ A=.exc x A1):j0 m ρ A=.exc x A1:=by unfold j0;rw [h,Sz]
theorem gM {n:Nat}{m:Ex}{ws:List W}{x:Str}{A A1:Hx}(h:m (ws.map some++List.replicate (n - ws.length) none) A=.exc x A1):yK n m ws A=.exc x A1:=by unfold yK;rw [h];rfl
section
variable {s t:List (List Int)}
end
end G
namespace Mi
open PySem L2
theorem L8 {m m':Ev}{ρ:En}{A:Hx}{us vs:List W}(h:m ρ A=.ok (.tup us) A)(h':m' ρ A=.ok (.tup vs) A):QD m m' ρ A=.ok (QG (.tup us) (.tup vs) us.length) A:=by
 unfold QD;rw [h,zL,h',zL]
 rfl
end Mi
namespace G
open PySem L2 Mi
theorem Ma {a:Ea}{xs ys:List W}{A:Hx}{r:Nat}{u e:Option W}(hA:A[r]? =some (.lst xs))(ha:a [u,e,none,some (.ref r)] A=.ok ys A)(hl:xs.length+ys.length<=100):
  zQ 3 (zo qH (zc 3) (zV a)) [u,e,none,some (.ref r)] A=.ok (.nx [u,e,none,some (.ref (A.length+1))]) (A++[.lst ys]++[.lst (xs++ys)]):=by
 refine (qL ((zN (zt (i:=3) rfl) (jU ha)).trans (XZ (yu hA) qU (by unfold zZ;omega)))).trans ?_
 rw [length_append,length_singleton]
 rfl
theorem KG {a:Ea}{xs ys zs:List W}{A L:Hx}{j:Nat}{u e:Option W}(hL:L[j]? =some (.lst xs))(ha:∀m A,a [u,e,none,m] A=.ok ys A)(hl:xs.length+ys.length<=100)(hz:xs++ys=zs):
  zQ 3 (zo qH (zc 3) (zV a)) [u,e,none,some (.ref (A.length+j))] (A++L)=.ok (.nx [u,e,none,some (.ref (A.length+(L.length+1)))]) (A++(L++[.lst ys,.lst zs])):=by
 have hA:(A++L)[A.length+j]? =some (.lst xs):=by rw [getElem?_append_right (by omega),show A.length+j - A.length=j by omega];exact hL
 rw [Ma hA (ha _ _) hl,hz,length_append,append_assoc,append_assoc,Nat.add_assoc]
 rfl
noncomputable def qh (i a n:Nat):List W:=(List.range' a n).map λ k=>W.bl (decide (k=i))
end G
namespace Mi
open PySem L2
end Mi
namespace G
open PySem L2 Mi
theorem FJ {f:Fn}{us ws:List W}{A A1:Hx}{k:Nat}(hn:jk us=true)(h:f us []=.ok (.ref k) A1)(hk:A1[k]? =some (.lst ws))(hw:jk ws=true):iso f us A=.ok (.ref A.length) (A++[.lst ws]):=by
 unfold iso;rw [if_pos hn,h];dsimp only;rw [hk];dsimp only;rw [if_pos hw]
end G
namespace Mi
open PySem L2
section
variable {j:jx}{me:Ev}{c:En}{A A1:Hx}{f i:Nat}{x:Option W}{w y:W}{acc:List W}{ρ:En}{m:Ev}
theorem U9 {n:Nat}(h:n<1000000):jI (n:Int)=true:=by
 unfold jI;rw [and_eq_true,decide_eq_true_iff,decide_eq_true_iff];omega
theorem MK (h:j.at_ A i=some none):qI j (zJ 0) (zi (.bl true)) (zM me) f i ρ acc A=.ok (ρ,acc) A:=by
 cases f<;>(unfold qI;rw [h])
theorem Mf (h:j.at_ A i=some (some w))(he:me (some w::c) A=.ok y A1)(hl:acc.length<zZ):qI j (zJ 0) (zi (.bl true)) (zM me) (f+1) i (x::c) acc A=qI j (zJ 0) (zi (.bl true)) (zM me) f (i+1) (some w::c) (acc++[y]) A1:=by
 rw [qI,h];dsimp only [zJ,List.set,zi];rw [zL];dsimp only;have ee:zM me (some w::c) acc A=.ok (some w::c,acc++[y]) A1:=by
  unfold zM;rw [he,zL,if_pos hl]
 rw [ee,zL]
theorem Ec {n:Nat}{ws:List W}(h:m ρ A=.ok (.ref n) A1)(hA:A1[n]? =some (.lst ws)):qE m ρ A=.ok ⟨λ A i=>(zO (.ref n) A).map λ ws=>ws[i]?,ws.length⟩ A1:=by
 unfold qE Yt;rw [h,zL];have e:zO (.ref n) A1=some ws:=by unfold zO;dsimp only;rw [hA]
 rw [e]
theorem Pu {n i:Nat}{ws:List W}(hA:A[n]? =some (.lst ws)):((zO (.ref n) A).map λ ws=>ws[i]?)=some ws[i]?:=by
 have e:zO (.ref n) A=some ws:=by unfold zO;dsimp only;rw [hA]
 rw [e];rfl
theorem TF {g:W->Option PyData}{ws:List W}{d:PyData}{ds:List PyData}(h:g w=some d)(r:jX g ws=some ds):jX g (w::ws)=some (d::ds):=by
 unfold jX;rw [h,r]
theorem Tt {g:W->Option PyData}{f:Nat->W}{d:PyData}:∀(n:Nat) (s:Nat),(∀t,s<=t->t<s+n->g (f t)=some d)->jX g ((List.range' s n).map f)=some (List.replicate n d)
 | 0,_,_=>rfl
 | n+1,s,h=>by
  rw [range'_succ,map_cons,replicate_succ];exact TF (h s (by omega) (by omega)) (Tt n (s+1) λ t h1 h2=>h t (by omega) (by omega))
theorem Sb {g:W->Option PyData}{w:W}{d:PyData}(h:g w=some d):∀n:Nat,jX g (List.replicate n w)=some (List.replicate n d)
 | 0=>rfl
 | n+1=>by rw [replicate_succ,replicate_succ];exact TF h (Sb h n)
theorem Ry {n k:Nat}{v:Int}(h:A[n]? =some (.lst [.int v])):ql A (k+1) (.ref n)=some (.list [.int v]):=by
 unfold ql;have e:zO (.ref n) A=some [.int v]:=by unfold zO;dsimp only;rw [h]
 rw [e];cases k<;>rfl
theorem Sx {n k:Nat}{ws:List W}{ds:List PyData}(h:A[n]? =some (.lst ws))(hd:jX (ql A k) ws=some ds):ql A (k+1) (.ref n)=some (.list ds):=by
 unfold ql;have e:zO (.ref n) A=some ws:=by unfold zO;dsimp only;rw [h]
 rw [e];dsimp only;rw [hd]
 rfl
theorem CJ {a b:W}{d:PyData}(ha:ql A 8 a=some d)(hb:ql A 8 b=some d)(hr:PyData.eqv d d=true):jF a b A=.ok (.bl false) A:=by
 show wX true a b A=_;unfold wX;rw [ha,hb];dsimp only;rw [if_pos rfl,hr]
 rfl
end
end Mi
namespace G
open PySem L2 Mi
section
variable {ns:List Int}{Pt:Addr}{n:Nat}{A:Hx}
theorem De {ns:List Int}{A:Hx}(hA:A[0]? =some (.ro (ns.map W.int)))(k:Nat):∃x:Int,QW [.ref 0,.int k] A=.ok (.int x) A:=by
 have hs:zO (.ref 0) A=some (ns.map W.int):=by unfold zO;dsimp only;rw [hA]
 have hl:mQ qJ (qb (zc 0)) [some (.ref 0),some (.int k)] A=.ok (.int ns.length) A:=by
  rw [kj (wj (w:=.ref 0) (A1:=A) (zt rfl) hs)];unfold qJ;rw [length_map]
 have ec:zo QR (zc 1) (mQ qJ (qb (zc 0))) [some (.ref 0),some (.int k)] A=.ok (.bl (decide ((k:Int)<ns.length))) A:=(zN (zt (w:=.int k) rfl) hl).trans rfl
 by_cases h:k<ns.length
 ·refine ⟨ns[k],ja ?_⟩
  unfold YZ;rw [decide_eq_true (by omega)] at ec
  refine qu ((kX ec).trans (qu (jb ?_)));refine (zN (x:=.ref 0) (y:=.int k) (A1:=A) (A2:=A) (zt rfl) (zt rfl)).trans ?_;unfold zB;rw [hs];dsimp only;rw [KP (v:=.int ns[k]) (by rw [getElem?_map,getElem?_eq_getElem h];rfl)]
 ·refine ⟨0,ja ?_⟩
  unfold YZ;rw [decide_eq_false (by omega)] at ec
  exact (zI ((yd ec).trans rfl)).trans rfl
theorem F4 {ns:List Int}{A:Hx}(hA:A[0]? =some (.ro (ns.map W.int)))(k:Nat):∃o,Q0 [.ref 0,.int k] A=.ok (.ref A.length) (A++[o])/\qK A.length (A++[o]):=by
 obtain ⟨x,e⟩:=De hA k;have e1:zQ 2 (zF QW (zh (zc 0) (zh (zc 1) (zp)))) [some (.ref 0),some (.int k),none] A=.ok (.nx [some (.ref 0),some (.int k),some (.int x)]) A:=by
  refine (qL (w:=.int x) (A1:=A) ?_).trans rfl;rw [zX (ws:=[.ref 0,.int k]) (A1:=A) rfl];exact e
 have ec:zo UE (zc 2) (zo Z4 (zi (.int 10)) (zi (.int 18))) [some (.ref 0),some (.int k),some (.int x)] A=.ok (.bl (decide ((1000000000000000000:Int)<=x))) A:=(zN (x:=.int x) (y:=.int 1000000000000000000) (A1:=A) (A2:=A) (zt rfl) rfl).trans rfl
 by_cases h:(1000000000000000000:Int)<=x
 ·refine ⟨.lst [.int (x - 1000000000000000000),.bl true],ja ?_,x - 1000000000000000000,true,qU,by omega,λ z=>nomatch z⟩
  unfold Y6;rw [decide_eq_true h] at ec;refine (zI e1).trans (qu ((kX ec).trans (qu (jb (jU ?_)))))
  rfl
 ·refine ⟨.lst [.int (x % 2147483647),.bl false],ja ?_,x % 2147483647,false,qU,emod_nonneg _ (by decide),λ _=>emod_lt_of_pos _ (by decide)⟩
  unfold Y6;rw [decide_eq_false h] at ec;refine (zI e1).trans ((zI ((yd ec).trans rfl)).trans (qu (jb (jU ?_))));refine zG (A1:=A) (A2:=A) ((zN (x:=.int x) (y:=.int 2147483647) (A1:=A) (A2:=A) (zt rfl) rfl).trans (Qu (by decide))) rfl
end
section
variable {ns:List Int}{Pt:Addr}{m:Nat}{A A':Hx}{PF:jA}{ρ:En}{c n g:Nat}{ks:List Nat}
end
noncomputable def GX (i:Nat):Hx:=[.lst (qh i 0 3),.lst (qh i 3 3),.lst (qh i 0 6),.lst (qh i 6 3),.lst (qh i 0 9),.lst (qh i 9 3),.lst (qh i 0 12),.lst (qh i 12 3),.lst (qh i 0 15),.lst [.int i]]
noncomputable def wq (x:Str):Option Nat:=if x = "NoTable" then some 0 else if x = "NoPlace" then some 2 else if x = "NoKind" then some 3 else none
theorem Ti {x:Str}{i:Nat}(hx:wq x=some i):(x = "NoTable" /\ i=0)∨(x = "NoPlace" /\ i=2)∨(x = "NoKind" /\ i=3):=by
 unfold wq at hx
 by_cases h:x = "NoTable"
 ·rw [if_pos h] at hx;cases hx;exact .inl ⟨h,rfl⟩
 ·rw [if_neg h] at hx
  by_cases h':x = "NoPlace"
  ·rw [if_pos h'] at hx;cases hx;exact .inr (.inl ⟨h',rfl⟩)
  ·rw [if_neg h'] at hx
   by_cases h'':x = "NoKind"
   ·rw [if_pos h''] at hx;cases hx;exact .inr (.inr ⟨h'',rfl⟩)
   ·rw [if_neg h''] at hx;cases hx
theorem IH {x:Str}{i:Nat}(hx:wq x=some i)(u:W)(A:Hx):Gd [some u,some (.xc x),none,none] A=.ok (.rt (.ref (A.length+9))) (A++GX i):=by
 have two:=Ti hx;unfold Gd;have a0:∀(m:Option W) (A:Hx),(zh (qV (jm zP "NoTable") (zc 1)) (zh (qV (jm zP "NotSteady") (zc 1)) (zh (qV (jm zP "NoPlace") (zc 1)) (zp)))) [some u,some (.xc x),none,m] A=.ok (qh i 0 3) A:=λ m A=>by
  rcases two with ⟨rfl,rfl⟩ | ⟨rfl,rfl⟩ | ⟨rfl,rfl⟩<;>kernel_rfl
 have a1:∀(m:Option W) (A:Hx),(zh (qV (jm zP "NoKind") (zc 1)) (zh (qV (jm zP "NoMix") (zc 1)) (zh (qV (jm zP "NoNumber") (zc 1)) (zp)))) [some u,some (.xc x),none,m] A=.ok (qh i 3 3) A:=λ m A=>by
  rcases two with ⟨rfl,rfl⟩ | ⟨rfl,rfl⟩ | ⟨rfl,rfl⟩<;>kernel_rfl
 have a2:∀(m:Option W) (A:Hx),(zh (qV (jm zP "NoLot") (zc 1)) (zh (qV (jm zP "NoKinds") (zc 1)) (zh (qV (jm zP "NoPaper") (zc 1)) (zp)))) [some u,some (.xc x),none,m] A=.ok (qh i 6 3) A:=λ m A=>by
  rcases two with ⟨rfl,rfl⟩ | ⟨rfl,rfl⟩ | ⟨rfl,rfl⟩<;>kernel_rfl
 have a3:∀(m:Option W) (A:Hx),(zh (qV (jm zP "NoParting") (zc 1)) (zh (qV (jm zP "NoClosed") (zc 1)) (zh (qV (jm zP "TooMany") (zc 1)) (zp)))) [some u,some (.xc x),none,m] A=.ok (qh i 9 3) A:=λ m A=>by
  rcases two with ⟨rfl,rfl⟩ | ⟨rfl,rfl⟩ | ⟨rfl,rfl⟩<;>kernel_rfl
 have a4:∀(m:Option W) (A:Hx),(zh (qV (jm zP "NoText") (zc 1)) (zh (qV (jm zP "NoLine") (zc 1)) (zh (qV (jm zP "NoDeed") (zc 1)) (zp)))) [some u,some (.xc x),none,m] A=.ok (qh i 12 3) A:=λ m A=>by
  rcases two with ⟨rfl,rfl⟩ | ⟨rfl,rfl⟩ | ⟨rfl,rfl⟩<;>kernel_rfl
 have ap:∀n,qh i 0 n++qh i n 3=qh i 0 (n+3):=λ n=>by
  unfold qh;rw [<- map_append]
  congr 1
  have:=List.range'_append_1 (s:=0) (m:=n) (n:=3)
  rw [Nat.zero_add] at this;exact this
 have e0:zQ 3 (zV (zh (qV (jm zP "NoTable") (zc 1)) (zh (qV (jm zP "NotSteady") (zc 1)) (zh (qV (jm zP "NoPlace") (zc 1)) (zp))))) [some u,some (.xc x),none,none] A=.ok (.nx [some u,some (.xc x),none,some (.ref (A.length+0))]) (A++[.lst (qh i 0 3)]):=(qL (jU (a0 _ A))).trans rfl;refine (zI e0).trans ?_;refine (zI (KG (A:=A) (L:=[.lst (qh i 0 3)]) (j:=0) (xs:=qh i 0 3) (ys:=qh i 3 3) (zs:=qh i 0 6) rfl a1 (by simp [qh]) (ap 3))).trans ?_
 refine (zI (KG (A:=A) (L:=[.lst (qh i 0 3),.lst (qh i 3 3),.lst (qh i 0 6)]) (j:=2) (xs:=qh i 0 6) (ys:=qh i 6 3) (zs:=qh i 0 9) rfl a2 (by simp [qh]) (ap 6))).trans ?_
 refine (zI (KG (A:=A) (L:=[.lst (qh i 0 3),.lst (qh i 3 3),.lst (qh i 0 6),.lst (qh i 6 3),.lst (qh i 0 9)]) (j:=4) (xs:=qh i 0 9) (ys:=qh i 9 3) (zs:=qh i 0 12) rfl a3 (by simp [qh]) (ap 9))).trans ?_
 refine (zI (KG (A:=A) (L:=[.lst (qh i 0 3),.lst (qh i 3 3),.lst (qh i 0 6),.lst (qh i 6 3),.lst (qh i 0 9),.lst (qh i 9 3),.lst (qh i 0 12)]) (j:=6) (xs:=qh i 0 12) (ys:=qh i 12 3) (zs:=qh i 0 15) rfl a4 (by simp [qh]) (ap 12))).trans ?_
 generalize hB:A++([.lst (qh i 0 3),.lst (qh i 3 3),.lst (qh i 0 6),.lst (qh i 6 3),.lst (qh i 0 9),.lst (qh i 9 3),.lst (qh i 0 12)]++[.lst (qh i 12 3),.lst (qh i 0 15)])=B;have hl:B.length=A.length+9:=by rw [<- hB];simp
 have hm:B[A.length+8]? =some (.lst (qh i 0 15)):=by rw [<- hB,getElem?_append_right (by omega),show A.length+8 - A.length=8 by omega];rfl
 refine (zI (ρ1:=[some u,some (.xc x),none,some (.ref (A.length+8))]) (A1:=B) ((yd (A1:=B) (kh (k:=true) ?_)).trans rfl)).trans (qu (jb ?_))
 ·rcases two with ⟨rfl,rfl⟩ | ⟨rfl,rfl⟩ | ⟨rfl,rfl⟩<;>kernel_rfl
 have ec:=Xm (cap:=[3]) (mi:=qZ (zi (.int 15))) (j:=yO 0 15) (ifs:=zo zB (zc 1) (zc 0)) (me:=zc 0) (ρ:=[some u,some (.xc x),none,some (.ref (A.length+8))]) (A:=B) (N:=15) (item:=λ k=>.int (0+(k:Int))) (g:=λ k=>.int (0+(k:Int))) (keep:=λ k=>decide (k=i)) rfl rfl (by unfold zZ;omega) (λ k hk=>gr hk) (gk (by omega))
  (λ k hk=>by
   refine (zN (zt (i:=1) (w:=.ref (A.length+8)) rfl) (zt (i:=0) (w:=.int (0+(k:Int))) rfl)).trans ?_;rw [zero_add];refine gj hm ?_;unfold qh;rw [getElem?_map,List.getElem?_range' (by omega)]
   simp) (λ k hk _=>rfl)
 rw [gh ec,hl];have hf:((List.range 15).filter λ k=>decide (k=i)).map (λ k:Nat=>W.int (0+(k:Int)))=[.int i]:=by
  rcases two with ⟨rfl,rfl⟩ | ⟨rfl,rfl⟩ | ⟨rfl,rfl⟩<;>rfl
 rw [hf,<- hB,append_assoc]
 rfl
theorem Cr {x:Str}{i:Nat}(hx:wq x=some i):zP.contains x=true:=by
 rcases Ti hx with ⟨rfl,_⟩ | ⟨rfl,_⟩ | ⟨rfl,_⟩<;>decide +kernel
noncomputable abbrev LS:List Lm:=kE kv yz yy
noncomputable def RF (k:Nat)(ws:List W)(A:Hx):R W:=match jK LS k ws A with
 | .exc x A1=>(match wq x with
  | some i=>.ok (.ref (A1.length+9)) (A1++GX i)
  | none=>.bad)
 | _=>.bad
theorem HH {PG:jA}{k i:Nat}{ws:List W}{x:Str}{A A1:Hx}(hl:jK LS k ws A=.exc x A1)(hx:wq x=some i):
  qg 4 (JQ PG (jK LS)) [.clo k ws (PG k)] A=.ok (.ref (A1.length+9)) (A1++GX i):=by
 have ec:Wh 0 PG (jK LS) [some (.clo k ws (PG k)),some .non,none,none] A=.exc x A1:=by
  unfold Wh;refine (if_pos rfl).trans hl
 have et:YD 0 1 2 zP PG (jK LS) [some (.clo k ws (PG k)),some .non,none,none] A=.ok (.nx [some (.clo k ws (PG k)),some (.xc x),none,none]) A1:=by
  unfold YD;rw [ec];dsimp only;rw [if_pos (Cr hx)]
  rfl
 refine ja ?_;unfold JQ;refine (zI (ρ1:=[some (.clo k ws (PG k)),some .non,none,none]) (A1:=A) rfl).trans ?_;exact (zI et).trans (IH hx _ A1)
theorem V1 {k i:Nat}{ws:List W}{x:Str}{A A1:Hx}(hl:jK LS k ws A=.exc x A1)(hx:wq x=some i):RF k ws A=.ok (.ref (A1.length+9)) (A1++GX i):=by
 unfold RF;rw [hl];dsimp only;rw [hx]
theorem EK {PG:jA}(us:List W)(A:Hx):wU PG RF us A=.bad∨qg 4 (JQ PG (jK LS)) us A=wU PG RF us A:=by
 by_cases hb:wU PG RF us A=.bad
 ·exact .inl hb
 right
 unfold wU at hb ⊢
 split
 ·rename_i k ws P
  dsimp only at hb
  by_cases hP:P=PG k
  ·subst hP
   rw [if_pos rfl] at hb ⊢;cases e:jK LS k ws A with
   | exc x A1=>
    cases hm:wq x with
    | none=>exfalso;apply hb;unfold RF;rw [e];dsimp only;rw [hm]
    | some i=>rw [HH e hm,V1 e hm]
   | ok w A1=>exfalso;apply hb;unfold RF;rw [e]
   | bad=>exfalso;apply hb;unfold RF;rw [e]
  ·rw [if_neg hP] at hb;exact absurd rfl hb
 ·rename_i h
  exfalso
  apply hb
  split
  ·rename_i k ws P
   exact (h k ws P rfl).elim
  ·rfl
section
variable {PG:jA}{k:Nat}{ws:List W}{A:Hx}{d:W}
end
section
variable {ns:List Int}{Pt:Addr}{n:Nat}{A:Hx}
end
section
variable {ns:List Int}{Pt:Addr}{m:Nat}{A A':Hx}
end
section
variable {ns:List Int}{Pt:Addr}{n k:Nat}{A:Hx}{PF:jA}{ρ:En}{t:Lm}{ws:List W}{d:W}{mm:Ev}
end
section
variable {s t:List (List Int)}
end
section
variable {A:Hx}
theorem Qm {ls:List Lm}{k:Nat}{t:Lm}{ws:List W}(h:ls[k]? =some t):jK ls k ws A=t.m (ws.map some) A:=by unfold jK;rw [h]
end
section
variable {s t:List (List Int)}
end
theorem X2:wq "NoTable" = some 0:=by decide +kernel
theorem Xk:wq "NoPlace" = some 2:=by decide +kernel
theorem M8:wq "NoKind" = some 3:=by decide +kernel
section
variable {ns:List Int}{Pt:Addr}{A A0:Hx}{PF:jA}{ρ:En}{c n g:Nat}{ks:List Nat}
noncomputable def yw (g i:Nat):Hx:=(List.replicate i (GX g)).flatten
theorem KY (g i:Nat):(yw g i).length=10 * i:=by
 unfold yw;rw [len_rep];show i * 10=_;omega
theorem T5 (g i:Nat):yw g i++GX g=yw g (i+1):=by
 unfold yw;rw [List.replicate_succ',List.flatten_append];simp
theorem Pb (g:Nat):∀(i t:Nat),t<i->(yw g i)[10 * t+9]? =some (.lst [.int (g:Int)])
 | 0,_,h=>absurd h (not_lt_zero _)
 | i+1,t,h=>by
  rw [<- T5]
  by_cases ht:t<i
  ·rw [getElem?_append_left (by rw [KY];omega)]
   exact Pb g i t ht
  ·have:t=i:=by omega
   subst this;rw [getElem?_append_right (by rw [KY];omega),KY,show 10 * t+9 - 10 * t=9 by omega]
   rfl
noncomputable def Yx (g:Nat)(A0:Hx)(ρ:En)(ks:List Nat):Prop:=∀k∈ks,∃t ws,LS[k]? =some t/\ko t.idx ρ=some ws/\∀A,Ext A0 A->RF k ws A=.ok (.ref (A.length+9)) (A++GX g)
theorem Cs (h:Yx g A0 ρ ks)(b:Ext A0 A){k:Nat}(hk:k∈ks):ZG 0 PF LS RF ρ [some (.clo k [] (PF k))] A=.ok (.ref (A.length+9)) (A++GX g):=by
 obtain ⟨t,ws,h1,h2,h3⟩:=h k hk;unfold ZG;refine (if_pos rfl).trans ?_;rw [h1];dsimp only;rw [h2];exact h3 A b
theorem H9 (h:Yx g A0 ρ ks)(b:Ext A0 A)(hA:A[c]? =some (O.lst (ks.map λ k=>.clo k [] (PF k))))(hl:ks.length<=100):∀(f i:Nat) (x:Option W),i+f=ks.length->∃y,
  qI ⟨λ A i=>(zO (.ref c) A).map λ ws=>ws[i]?,ks.length⟩ (zJ 0) (zi (.bl true)) (zM (ZG 0 PF LS RF ρ)) f i [x] ((List.range' 0 i).map λ t=>W.ref (A.length+(10 * t+9))) (A++yw g i)=
   .ok ([y],(List.range' 0 ks.length).map λ t=>W.ref (A.length+(10 * t+9))) (A++yw g ks.length):=by
 intro f
 induction f with
 | zero=>
  intro i x hi
  have:i=ks.length:=by omega
  subst this;refine ⟨x,MK ?_⟩;have hc:=Ext.at (A':=A++yw g ks.length) ⟨_,rfl⟩ hA;show ((zO (.ref c) _).map λ ws=>ws[ks.length]?)=some none;rw [Pu hc,getElem?_eq_none (by simp)]
 | succ f ih=>
  intro i x hi;have hik:i<ks.length:=by omega
  obtain ⟨y,e⟩:=ih (i+1) (some (.clo ks[i] [] (PF ks[i]))) (by omega)
  refine ⟨y,?_⟩;have hc:=Ext.at (A':=A++yw g i) ⟨_,rfl⟩ hA;rw [Mf (w:=.clo ks[i] [] (PF ks[i])) (y:=.ref ((A++yw g i).length+9)) (A1:=A++yw g i++GX g) ?_ (Cs h (b.trans ⟨_,rfl⟩) (getElem_mem hik)) (by simp;unfold zZ;omega)]
  ·have e1:A++yw g i++GX g=A++yw g (i+1):=by rw [append_assoc,T5]
   have e2:((List.range' 0 i).map λ t=>W.ref (A.length+(10 * t+9)))++[W.ref ((A++yw g i).length+9)]=(List.range' 0 (i+1)).map λ t=>W.ref (A.length+(10 * t+9)):=by
    rw [List.range'_concat,map_append,List.map_singleton,length_append,KY]
    congr 3
    omega
   rw [e1,e2];exact e
  ·show ((zO (.ref c) _).map λ ws=>ws[i]?)=some (some _)
   rw [Pu hc,getElem?_map,getElem?_eq_getElem hik]
   rfl
theorem SU (h:Yx g A0 ρ ks)(b:Ext A0 A)(hA:A[c]? =some (O.lst (ks.map λ k=>.clo k [] (PF k))))(hρ:ρ[7]? =some (some (.ref c)))(hl:ks.length<=100)(hn:n=ks.length)
  (he:PyData.eqv (.list (List.replicate ks.length (.list [.int (g:Int)]))) (.list (List.replicate ks.length (.list [.int (g:Int)])))=true):
  ∃A',zo jF (qm (Jw 1 (qE (zc 7)) (zJ 0) 0 PF LS RF)) (zo qP (zV (zh (zV (zh (zi (.int (g:Int))) (zp))) (zp))) (zi (.int n))) ρ A=.ok (.bl false) A'/\Ext A A':=by
 subst hn;obtain ⟨y,e⟩:=H9 (PF:=PF) h b hA hl ks.length 0 none (by omega)
 have e1:Jw 1 (qE (zc 7)) (zJ 0) 0 PF LS RF ρ A=.ok ((List.range' 0 ks.length).map λ t=>W.ref (A.length+(10 * t+9))) (A++yw g ks.length):=by
  unfold Jw zU;rw [Ec (zt hρ) hA,zL];have hl2:(ks.map λ k=>W.clo k [] (PF k)).length=ks.length:=by simp
  dsimp only;rw [hl2];have e':qI ⟨λ A i=>(zO (.ref c) A).map λ ws=>ws[i]?,ks.length⟩ (zJ 0) (zi (.bl true)) (zM (ZG 0 PF LS RF ρ)) ks.length 0 (Zq 1 [] ρ) [] A=.ok ([y],(List.range' 0 ks.length).map λ t=>W.ref (A.length+(10 * t+9))) (A++yw g ks.length):=by
   have:=e
   rw [show yw g 0=[] from rfl,append_nil] at this
   exact this
  rw [e']
  rfl
 have hat:∀t,t<ks.length->(A++yw g ks.length)[A.length+(10 * t+9)]? =some (.lst [.int (g:Int)]):=λ t ht=>by
  rw [getElem?_append_right (by omega),show A.length+(10 * t+9) - A.length=10 * t+9 by omega]
  exact Pb _ _ _ ht
 generalize hB:A++yw g ks.length=B at e1 hat;have e2:=gh e1;generalize hacc:((List.range' 0 ks.length).map λ t=>W.ref (A.length+(10 * t+9)))=acc at e2;have e3:zo qP (zV (zh (zV (zh (zi (.int (g:Int))) (zp))) (zp))) (zi (.int ks.length)) ρ (B++[O.lst acc])=
   .ok (.ref (B++[O.lst acc]++[O.lst [.int (g:Int)]]++[O.lst [.ref (B++[O.lst acc]).length]]).length) (B++[O.lst acc]++[O.lst [.int (g:Int)]]++[O.lst [.ref (B++[O.lst acc]).length]]++[O.lst (List.replicate ks.length (.ref (B++[O.lst acc]).length))]):=by
  refine (zN (x:=.ref (B++[O.lst acc]++[O.lst [.int (g:Int)]]).length) (y:=.int ks.length) (A1:=B++[O.lst acc]++[O.lst [.int (g:Int)]]++[O.lst [.ref (B++[O.lst acc]).length]]) (jU (zG (jU (ws:=[.int (g:Int)]) (A1:=B++[O.lst acc]) rfl) rfl)) rfl).trans ?_;unfold qP;dsimp only;rw [qU];dsimp only;rw [if_pos ?_,toNat_natCast,List.flatten_replicate_singleton];rw [and_eq_true,decide_eq_true_iff,toNat_natCast];refine ⟨U9 (by omega),?_⟩
  show 1 * ks.length<=zZ;unfold zZ;omega
 generalize hC:B++[O.lst acc]++[O.lst [.int (g:Int)]]++[O.lst [.ref (B++[O.lst acc]).length]]=C at e3;have xB:Ext B (B++[O.lst acc]):=.one;have xC:Ext (B++[O.lst acc]++[O.lst [.int (g:Int)]]) (C++[O.lst (List.replicate ks.length (.ref (B++[O.lst acc]).length))]):=by rw [<- hC];exact Ext.one.trans .one
 have xA:Ext A (C++[O.lst (List.replicate ks.length (.ref (B++[O.lst acc]).length))]):=Ext.trans ⟨_,hB.symm⟩ (xB.trans (Ext.one.trans xC));have hall:∀D:Hx,(∀t,t<ks.length->D[A.length+(10 * t+9)]? =some (O.lst [.int (g:Int)]))->jX (ql D 7) acc=some (List.replicate ks.length (.list [.int (g:Int)])):=λ D hD=>by
  rw [<- hacc];exact Tt _ _ λ t _ ht=>Ry (hD t (by omega))
 refine ⟨_,(zN e2 e3).trans (CJ (d:=.list (List.replicate ks.length (.list [.int (g:Int)]))) ?_ ?_ he),xA⟩
 ·refine Sx (k:=7) ((Ext.one.trans xC).at qU) ?_
  exact hall _ λ t ht=>(xB.trans (Ext.one.trans xC)).at (hat t ht)
 ·refine Sx (k:=7) qU ?_
  exact Sb (Ry (xC.at qU)) _
end
section
variable {A:Hx}{ρ:En}{k g:Nat}{ws:List W}{t:Lm}{x:Str}{PF:jA}{Pt:Addr}
theorem KU (h1:A[1]? =some (.tab qF Pt))(k:Nat):yZ 1 qF Pt k (PF k) ρ A=.ok (.clo k [] (PF k)) A:=by
 unfold yZ;rw [h1];dsimp only;rw [if_pos ⟨rfl,rfl⟩]
theorem N7 (h1:A[1]? =some (.tab qF Pt))(ht:LS[k]? =some t)(hc:ko t.idx ρ=some ws)(hl:jK LS k ws A=.exc x A)(hx:wq x=some g):∃B,zo jf (Yh LS PF (Yl RF) (zh (yZ 1 qF Pt k (PF k)) (zp))) (zV (zh (zi (.int (g:Int))) (zp))) ρ A=.ok (.bl true) B/\Ext A B:=by
 have ec:Yh LS PF (Yl RF) (zh (yZ 1 qF Pt k (PF k)) (zp)) ρ A=.ok (.ref (A.length+9)) (A++GX g):=by
  unfold Yh;rw [zG (KU h1 k) qa,zL]
  have:gY LS PF ρ [.clo k [] (PF k)]=some [.clo k ws (PF k)]:=by
   unfold gY YA;dsimp only;rw [if_pos rfl,ht];dsimp only;rw [hc]
   rfl
  rw [this];exact V1 hl hx
 have x1:Ext A (A++GX g):=⟨_,rfl⟩;have hg:(A++GX g)[A.length+9]? =some (.lst [.int (g:Int)]):=by rw [getElem?_append_right (by omega),show A.length+9 - A.length=9 by omega];rfl
 refine ⟨A++GX g++[.lst [.int (g:Int)]],(zN ec (jU (zG qR qa))).trans ((BD (l:=[(g:Int)]) (m:=[(g:Int)]) (yu hg) qU).trans ?_),x1.app⟩;rw [decide_eq_true rfl]<;>rfl
end
section
variable {t:List (List Int)}{w:W}{A:Hx}
theorem HC (h:qA t)(A:Hx):Z6 A (zy t):=.tup (t.map zW) rfl (by rw [length_map];have:=h.n8;omega) λ x hx=>Dk h x hx A
theorem FT (h:qA t)(A:Hx):gL [zy t] A=.ok (.bl true) A:=by
 obtain ⟨b,e,hb⟩:=X9 (HC h A);rw [e,hb.mpr ⟨t,h,rfl⟩]
theorem HR (h:wA A w):gL [w] A=.ok (.bl false) A:=by
 obtain ⟨b,e,hb⟩:=X9 h.1;cases b with
 | false=>exact e
 | true=>exact absurd (hb.mp rfl) h.2
theorem Qh (h:qA t)(A:Hx):QV [zy t] A=.ok .non A:=by
 refine Vn (ρ:=[some (zy t)]) ?_;unfold YS;refine (zI (ρ1:=[some (zy t)]) (A1:=A) ((yd (A1:=A) ?_).trans rfl)).trans rfl;exact wN (kh (k:=true) ((zX (ws:=[zy t]) (A1:=A) rfl).trans (FT h A)))
theorem XA (h:wA A w):QV [w] A=.exc "NoTable" A:=by
 refine gM ?_;unfold YS;exact we ((kX (A1:=A) (wN (kh (k:=false) ((zX (ws:=[w]) (A1:=A) rfl).trans (HR h))))).trans (we rfl))
end
section
variable {n K a b k:Nat}{A B:Hx}{w x:W}{t:List (List Int)}
theorem EA {ty:Ty}(h:qX w A=some ty):(yH ty .int&&!yH ty .bl)=Za w:=by
 cases w with
 | ref k=>
  unfold qX at h;dsimp only at h
  split at h
  ·cases h;rfl
  ·cases h;rfl
  ·cases h
 | clo _ _ _=>cases h
 | xc _=>cases h
 | _=>cases h;rfl
theorem CF {a b:Ev}{ρ:En}{p q:Bool}(h1:a ρ A=.ok (.bl p) A)(h2:b ρ A=.ok (.bl q) A):kq a b ρ A=.ok (.bl (p&&q)) A:=by
 cases p with
 | true=>exact (Zn h1).trans h2
 | false=>exact Qq h1
theorem Fp {ty:Ty}(h:qX w A=some ty):wd [w] A=.ok (.bl (Za w)) A:=by
 unfold wd Xp Xj;refine ja (qu (jb ((CF (Qz (zt rfl) h) (kh (Qz (zt rfl) h))).trans ?_)));rw [EA h]
noncomputable def Ok (n:Nat)(x:W):Prop:=∃v:Nat,x=.int (v:Int)/\v<n
theorem Ku {ty:Ty}(h:qX x A=some ty)(n:Nat):∃b,Zd [x,.int (n:Int)] A=.ok (.bl b) A/\(b=true↔Ok n x):=by
 unfold Zd UR W7;have e1:zF wd (zh (zc 0) (zp)) [some x,some (.int (n:Int))] A=.ok (.bl (Za x)) A:=(zX (zG (zt rfl) qa)).trans (Fp h);cases x with
 | int v=>
  refine ⟨decide (0<=v)&&decide (v<(n:Int)),ja (qu (jb ((Zn e1).trans (Rn rfl (zt rfl))))),?_⟩;rw [and_eq_true,decide_eq_true_iff,decide_eq_true_iff]
  constructor
  ·rintro ⟨h1,h2⟩
   obtain ⟨u,rfl⟩:=eq_ofNat_of_zero_le h1;exact ⟨u,rfl,by omega⟩
  ·rintro ⟨u,e,hu⟩
   cases e;omega
 | _=>
  refine ⟨false,ja (qu (jb (Qq e1))),λ z=>(by cases z),?_⟩
  rintro ⟨u,e,_⟩
  cases e
theorem KO (h:qA t)(A:Hx):gc [zy t] A=.ok (.int (jd t)) A:=by
 refine ZV (A1:=[]) (by show ((zy t).nr&&true)=true;rw [kC];rfl) rfl (ja ?_)
 unfold GA;refine qu (jb ((zN (X7 h rfl) qR).trans ?_));show R.ok (W.int (jd t - 1+1)) []=_
 congr 2
 omega
theorem XM (h:qA t)(A:Hx):wc [zy t] A=.ok (.int (jd t)) A:=by
 refine ZV (A1:=[]) (by show ((zy t).nr&&true)=true;rw [kC];rfl) rfl (ja ?_)
 unfold GK;refine qu (jb ((zN qR (X7 h rfl)).trans ?_));show R.ok (W.int (1+(jd t - 1))) []=_
 congr 2
 omega
theorem len_tab {ρ:En}{i:Nat}(hi:ρ[i]? =some (some (zy t))):mQ qJ (qb (zc i)) ρ A=.ok (.int (t.length:Int)) A:=by
 have:=Yk (ws:=t.map zW) (A:=A) hi
 rw [length_map] at this;exact this
theorem J1 (h:Ok t.length x)(A:Hx):JL [zy t,x] A=.ok .non A:=by
 obtain ⟨v,rfl,hv⟩:=h;obtain ⟨b,e,hb⟩:=Ku (x:=.int (v:Int)) (A:=A) (ty:=.int) rfl t.length;rw [hb.mpr ⟨v,rfl,hv⟩] at e;refine Vn (ρ:=[some (zy t),some (.int (v:Int))]) ?_;unfold YT;exact (zI ((yd (wN (kh (k:=true) ((zX (zG (zt rfl) (zG (len_tab rfl) qa))).trans e)))).trans jD)).trans jD
theorem Va {ty:Ty}(hx:qX x A=some ty)(h:¬Ok t.length x):JL [zy t,x] A=.exc "NoPlace" A:=by
 obtain ⟨b,e,hb⟩:=Ku hx t.length
 have:b=false:=by cases b with
  | false=>rfl
  | true=>exact absurd (hb.mp rfl) h
 rw [this] at e;refine gM ?_;unfold YT;exact we ((kX (wN (kh (k:=false) ((zX (zG (zt rfl) (zG (len_tab rfl) qa))).trans e)))).trans (we rfl))
theorem E2 (ht:qA t)(hK:jd t=(K:Int))(h:Ok K x)(A:Hx):YU [zy t,x] A=.ok .non A:=by
 obtain ⟨v,rfl,hv⟩:=h;obtain ⟨b,e,hb⟩:=Ku (x:=.int (v:Int)) (A:=A) (ty:=.int) rfl K;rw [hb.mpr ⟨v,rfl,hv⟩,<- hK] at e;refine Vn (ρ:=[some (zy t),some (.int (v:Int))]) ?_;unfold Y1;exact (zI ((yd (wN (kh (k:=true) ((zX (zG (zt rfl) (zG ((zX (zG (zt rfl) qa)).trans (KO ht A)) qa))).trans e)))).trans jD)).trans jD
theorem Ed {ty:Ty}(ht:qA t)(hK:jd t=(K:Int))(hx:qX x A=some ty)(h:¬Ok K x):YU [zy t,x] A=.exc "NoKind" A:=by
 obtain ⟨b,e,hb⟩:=Ku hx K
 have:b=false:=by cases b with
  | false=>rfl
  | true=>exact absurd (hb.mp rfl) h
 rw [this,<- hK] at e;refine gM ?_;unfold Y1;exact we ((kX (wN (kh (k:=false) ((zX (zG (zt rfl) (zG ((zX (zG (zt rfl) qa)).trans (KO ht A)) qa))).trans e)))).trans (we rfl))
theorem Ek (h:qA t)(A:Hx):QZ [zy t] A=.ok (.int (jd t)) A:=by
 refine ZV (A1:=[]) (by show ((zy t).nr&&true)=true;rw [kC];rfl) rfl (wN (Ve ?_))
 unfold Kb;exact (zI (yV ((zX (zG (zt rfl) qa)).trans (Qh h [])))).trans (wN (qu (jb ((zX (zG (zt rfl) qa)).trans (KO h [])))))
theorem DC (h:wA A w):kv [w] A=.exc "NoTable" A:=by
 refine gM ?_;unfold Kb;exact we (Ql ((zX (zG (zt rfl) qa)).trans (XA h)))
theorem DS {y:W}(h:wA A w):yz [w,x,y] A=.exc "NoTable" A:=by
 refine gM ?_;unfold Q7;exact we (Ql ((zX (zG (zt rfl) qa)).trans (XA h)))
theorem EM {y:W}{ty:Ty}(ht:qA t)(hx:qX x A=some ty)(h:¬Ok t.length x):yz [zy t,x,y] A=.exc "NoPlace" A:=by
 refine gM ?_;unfold Q7;exact (zI (yV ((zX (zG (zt rfl) qa)).trans (Qh ht A)))).trans (we (Ql ((zX (zG (zt rfl) (zG (zt rfl) qa))).trans (Va hx h))))
theorem EG {y:W}{ty:Ty}(ht:qA t)(hK:jd t=(K:Int))(hx:Ok t.length x)(hy:qX y A=some ty)(h:¬Ok K y):yz [zy t,x,y] A=.exc "NoKind" A:=by
 refine gM ?_;unfold Q7;exact (zI (yV ((zX (zG (zt rfl) qa)).trans (Qh ht A)))).trans ((zI (yV ((zX (zG (zt rfl) (zG (zt rfl) qa))).trans (J1 hx A)))).trans (we (Ql ((zX (zG (zt rfl) (zG (zt rfl) qa))).trans (Ed ht hK hy h)))))
noncomputable def kY (t:List (List Int))(a k:Nat):List Int:=((List.range t.length).filter λ b=>decide (at2 t a b=(k:Int))).map λ (b:Nat)=>(b:Int)
theorem Ee (ht:qA t)(hK:jd t=(K:Int))(ha:a<t.length)(hk:k<K)(A:Hx):Qg [zy t,.int (a:Int),.int (k:Int)] A=.ok (.ref A.length) (A++[.lst ((kY t a k).map W.int)]):=by
 have n8:=ht.n8;have hrl:=ht.sq _ (yq ha);have hl2:((t.getD a []).map W.int).length=t.length:=by rw [length_map,hrl]
 obtain ⟨ρ',acc,B,e,⟨y1,y2,hρ⟩,hB,hacc⟩:=Km (nl:=2) (cap:=[2]) (mi:=ZZ (zo zB (zc 0) (zc 1))) (ρ:=[some (zy t),some (.int (a:Int)),some (.int (k:Int))]) (A:=[]) (tw:=yW 0 1) (ifs:=zo jf (zc 1) (zc 2)) (em:=zM (zc 0)) (N:=t.length)
  (I:=λ i ρ acc B=>(∃y1 y2,ρ=[y1,y2,some (.int (k:Int))])/\B=[]/\acc=((List.range i).filter λ b=>decide (at2 t a b=(k:Int))).map λ (b:Nat)=>W.int (b:Int)) (JT (ws:=(t.getD a []).map W.int) ((zN (zt rfl) (zt rfl)).trans (ZR ha))) hl2
  (λ i ρ acc B hi ⟨⟨y1,y2,hρ⟩,hB,hacc⟩=>by
   subst hρ hB hacc;have ec:zo jf (zc 1) (zc 2) [some (.int (i:Int)),some (.int ((t.getD a []).getD i 0)),some (.int (k:Int))] []=.ok (.bl (decide (at2 t a i=(k:Int)))) []:=(zN (zt rfl) (zt rfl)).trans (Z7 _ _ _);refine ⟨_,_,VP (int_at (by omega)),rfl,?_⟩
   by_cases q:at2 t a i=(k:Int)
   ·refine .inl ⟨[],_,_,[],ec.trans (by rw [decide_eq_true q]),Kw (zt rfl) ?_,⟨_,_,rfl⟩,rfl,?_⟩
    ·rw [length_map]
     have:=length_filter_le (λ b=>decide (at2 t a b=(k:Int))) (List.range i)
     rw [length_range] at this;unfold zZ;omega
    ·rw [range_succ,List.filter_append,map_append]
     congr 1
     rw [List.filter_cons_of_pos (by rw [decide_eq_true q])]
     rfl
   ·refine .inr ⟨[],ec.trans (by rw [decide_eq_false q]),⟨_,_,rfl⟩,rfl,?_⟩
    rw [range_succ,List.filter_append,map_append];rw [List.filter_cons_of_neg (l:=[]) (by rw [decide_eq_false q];simp)]
    simp)
  (λ ρ acc B _=>by have:=Vv (A:=B) (ws:=(t.getD a []).map W.int);rw [hl2] at this ⊢;exact this) ⟨⟨_,_,rfl⟩,rfl,rfl⟩
 subst hB hacc;have hm:((List.range t.length).filter λ b=>decide (at2 t a b=(k:Int))).map (λ (b:Nat)=>W.int (b:Int))=(kY t a k).map W.int:=by unfold kY;rw [map_map];rfl
 rw [hm] at e;unfold Qg;refine FJ (k:=0) (A1:=[.lst ((kY t a k).map W.int)]) (by show ((zy t).nr&&true)=true;rw [kC];rfl) (wN (Ve ?_)) rfl (K3 (λ _=>rfl) _)
 unfold Q7;exact (zI (yV ((zX (zG (zt rfl) qa)).trans (Qh ht [])))).trans ((zI (yV ((zX (zG (zt rfl) (zG (zt rfl) qa))).trans (J1 ⟨a,rfl,ha⟩ [])))).trans ((zI (yV ((zX (zG (zt rfl) (zG (zt rfl) qa))).trans (E2 ht hK ⟨k,rfl,hk⟩ [])))).trans (wN (qu (jb (gh e))))))
theorem Ia (ht:qA t)(ha:a<t.length){ρ:En}(h3:ρ[3]? =some (some (zy t)))(h5:ρ[5]? =some (some (.int (a:Int))))(h6:ρ[6]? =some (some (.int (k:Int))))(A:Hx):qm (zU 1 [3,5,6] (qZ (mQ qJ (qb (zc 3)))) (zJ 0) (zo jf (zo zB (zo zB (zc 1) (zc 2)) (zc 0)) (zc 3)) (zM (zc 0))) ρ A=.ok (.ref A.length) (A++[.lst ((kY t a k).map W.int)]):=by
 have n8:=ht.n8;have hm:=Zl (len_tab (A:=A) h3) (Zj (n:=t.length) (by omega))
 rw [toNat_natCast] at hm;have hc:([3,5,6].map λ i=>(ρ[i]?).join)=[some (zy t),some (.int (a:Int)),some (.int (k:Int))]:=by
  simp only [map_cons,map_nil,h3,h5,h6]
  rfl
 have ec:=Xm (cap:=[3,5,6]) (ρ:=ρ) (A:=A) (ifs:=zo jf (zo zB (zo zB (zc 1) (zc 2)) (zc 0)) (zc 3)) (me:=zc 0) (N:=t.length) (item:=λ i=>.int (0+(i:Int))) (g:=λ i=>.int (i:Int)) (keep:=λ b=>decide (at2 t a b=(k:Int))) hm rfl (by unfold zZ;omega) (λ i hi=>gr hi) (gk (by omega))
  (λ i hi=>by
   rw [hc,zero_add];refine (zN ((zN ((zN (zt rfl) (zt rfl)).trans (ZR ha)) (zt rfl)).trans (Yd (by rw [ht.sq _ (yq ha)];exact hi))) (zt rfl)).trans (Z7 _ _ _))
  (λ i hi _=>by rw [zero_add];exact zt rfl)
 rw [gh ec];unfold kY;rw [map_map]
 rfl
end
section
variable {f:Fn}{A:Hx}{ws us:List W}
theorem XJ (v:Int)(A:Hx):qg 2 (ZJ f) [.int v,.int v] A=.ok (.bl true) A:=by
 refine ja ?_;unfold ZJ;refine (zI (ρ1:=[some (.int v),some (.int v)]) (A1:=A) ((yd (A1:=A) rfl).trans rfl)).trans (qu (jb ?_));exact (Zn (A1:=A) ((zN (zt (i:=0) rfl) (zt (i:=1) rfl)).trans ((Z7 _ _ _).trans (by rw [decide_eq_true rfl])))).trans rfl
theorem XG {x y:W}{ty:Ty}(hx:zO x A=some ws)(hy:zO y A=some ws)(tx:qX x A=some ty)(ty':qX y A=some ty)(h2:ty=.tup∨ty=.lst)(hl:ws.length<=1000)(hf:∀w∈ws,f [w,w] A=.ok (.bl true) A):qg 2 (ZJ f) [x,y] A=.ok (.bl true) A:=by
 refine ja ?_;unfold ZJ;have el:mQ qJ (qb (zc 0)) [some x,some y] A=.ok (.int ws.length) A:=kj (wj (w:=x) (A1:=A) (zt rfl) hx);have el':mQ qJ (qb (zc 1)) [some x,some y] A=.ok (.int ws.length) A:=kj (wj (w:=y) (A1:=A) (zt rfl) hy);have i2:Wx .tup .lst (zc 1) [some x,some y] A=.ok (.bl true) A:=by
  unfold Wx;rw [zt (w:=y) rfl,zL,ty'];rcases h2 with rfl | rfl<;>rfl
 have n1:∀c,zo jF (yx c (zc 0)) (yx c (zc 1)) [some x,some y] A=.ok (.bl false) A:=λ c=>(zN (Qz (w:=x) (zt rfl) tx) (Qz (w:=y) (zt rfl) ty')).trans ((PX _ _ _).trans (by rw [beq_self_eq_true];rfl))
 refine qu ((kX (A1:=A) i2).trans ?_);refine (zI (ρ1:=[some x,some y]) (A1:=A) ((yd (A1:=A) ((Yn (A1:=A) (n1 .tup)).trans (n1 .lst))).trans jD)).trans ?_;refine (zI (ρ1:=[some x,some y]) (A1:=A) ((yd (A1:=A) ((zN el el').trans ((P6 _ _ _).trans (by rw [decide_eq_true rfl];rfl)))).trans jD)).trans (qu (jb ?_))
 have hz:QD (zc 0) (zc 1) [some x,some y] A=.ok (QG x y ws.length) A:=by
  unfold QD;rw [zt (w:=x) rfl,zL,zt (w:=y) rfl,zL,hx,hy]
 have ec:=NQ (A:=A) (cap:=[]) (ρ:=[some x,some y]) (me:=zF f (zh (zc 0) (zh (zc 1) (zp)))) (N:=ws.length) (u:=λ i=>ws.getD i .non) (v:=λ i=>ws.getD i .non) (g:=λ _=>.bl true) hz rfl hl
  (λ i hi=>by
   show (match zO x A,zO y A with | some us,some vs=>some (zip2 us[i]? vs[i]?) | _,_=>none)=_
   rw [hx,hy];show some (zip2 ws[i]? ws[i]?)=_;rw [getD_eq_getElem?_getD,getElem?_eq_getElem hi];rfl)
  (by
   show (match zO x A,zO y A with | some us,some vs=>some (zip2 us[ws.length]? vs[ws.length]?) | _,_=>none)=_
   rw [hx,hy];show some (zip2 ws[ws.length]? ws[ws.length]?)=_;rw [getElem?_eq_none (le_refl _)];rfl)
  (λ i hi=>by
   have e:ws.getD i .non=ws[i]:=by rw [getD_eq_getElem?_getD,getElem?_eq_getElem hi];rfl
   rw [e];exact (zX (ws:=[ws[i],ws[i]]) (A1:=A) rfl).trans (hf _ (getElem_mem hi)))
 exact (kj ec).trans (HY (p:=λ _=>true) λ _ _=>rfl)
theorem E6 (v:Int)(A:Hx):kT [.int v,.int v] A=.ok (.bl true) A:=XJ v A
theorem Lo {r:List Int}(h:r.length<=100)(A:Hx):G6 [zW r,zW r] A=.ok (.bl true) A:=
 XG (ws:=r.map W.int) (ty:=.tup) rfl rfl rfl rfl (.inl rfl) (by simp;omega) λ w hw=>by
  obtain ⟨v,_,rfl⟩:=List.mem_map.mp hw;exact XJ v A
theorem Hg {t:List (List Int)}(h:t.length<=100)(hr:∀r∈t,r.length<=100)(A:Hx):kT [zy t,zy t] A=.ok (.bl true) A:=
 XG (ws:=t.map zW) (ty:=.tup) rfl rfl rfl rfl (.inl rfl) (by simp;omega) λ w hw=>by
  obtain ⟨r,hr',rfl⟩:=List.mem_map.mp hw;exact Lo (hr r hr') A
theorem LW {p q:Nat}{l:List Int}(hp:A[p]? =some (.lst (l.map W.int)))(hq:A[q]? =some (.lst (l.map W.int)))(h:l.length<=100):kT [.ref p,.ref q] A=.ok (.bl true) A:=
 XG (ws:=l.map W.int) (ty:=.lst) (by unfold zO;dsimp only;rw [hp]) (by unfold zO;dsimp only;rw [hq]) (by unfold qX;dsimp only;rw [hp]) (by unfold qX;dsimp only;rw [hq]) (.inr rfl) (by simp;omega) λ w hw=>by
  obtain ⟨v,_,rfl⟩:=List.mem_map.mp hw;exact XJ v A
end
structure LC (K:Nat)(μ:Nat->Nat->Int)(C:Hx):Prop where
 top:C[2 * K]? =some (.lst ((List.range K).map λ i=>W.ref (2 * i+1)))
 row:∀i,i<K->C[2 * i+1]? =some (.lst ((List.range K).map λ j=>W.int (μ i j)))
section
variable {K a b i j:Nat}{μ:Nat->Nat->Int}{C:Hx}{t:List (List Int)}{ρ:En}
theorem LC.put (h:LC K μ C)(ha:i<K)(hb:j<K)(k:Int):∃C',yv (.ref (2 * i+1)) (.int (j:Int)) (.int k) C=.ok () C'/\LC K (kL μ i j k) C':=by
 have hr:=h.row i ha;have hlt:=gi hr;refine ⟨_,S8 hr (by simp;omega),?_,λ c hi=>?_⟩
 ·rw [getElem?_set_ne (by omega)];exact h.top
 ·by_cases q:c=i
  ·subst q
   rw [getElem?_set_self hlt,Rb hb]
   congr 3
   funext c'
   unfold kL
   by_cases z:c'=j
   ·rw [if_pos z,if_pos ⟨rfl,z⟩]
   ·rw [if_neg z,if_neg (by rintro ⟨_,w⟩;exact z w)]
  ·rw [getElem?_set_ne (by omega),h.row c hi]
   congr 3
   funext c'
   unfold kL;rw [if_neg (by rintro ⟨w,_⟩;exact q w)]
theorem LC.aug (h:LC K μ C){mo mi:Ev}(ho:mo ρ C=.ok (.ref (2 * i+1)) C)(hi:mi ρ C=.ok (.int (j:Int)) C)(ha:i<K)(hb:j<K):∃C',QA mo mi (zi (.int 1)) ρ C=.ok (.nx ρ) C'/\LC K (kL μ i j (μ i j+1)) C':=by
 obtain ⟨C',e,l⟩:=h.put ha hb (μ i j+1);refine ⟨C',?_,l⟩;unfold QA;rw [ho,zL,hi,zL];dsimp only;rw [if_pos (by omega),h.row i ha]
 dsimp only;rw [toNat_natCast,getElem?_map,getElem?_range hb];show R.bind (yv (.ref (2 * i+1)) (.int (j:Int)) (.int (μ i j+1)) C) _=_;rw [e,zL]
theorem LC.ix (h:LC K μ C){m mi:Ev}(hm:m ρ C=.ok (.ref (2 * K)) C)(hi:mi ρ C=.ok (.int (i:Int)) C)(ha:i<K):zo zB m mi ρ C=.ok (.ref (2 * i+1)) C:=
 (zN hm hi).trans (gj h.top (by rw [getElem?_map,getElem?_range ha];rfl))
theorem rep1 (w:W):∀n:Nat,(List.replicate n [w]).flatten=(List.range n).map λ _=>w:=λ n=>by
 rw [List.map_const',length_range]
 induction n with
 | zero=>rfl
 | succ n ih=>rw [replicate_succ,flatten_cons,ih];rfl
theorem T9 (h8:K<=8){x0 x1 x2 x4:Option W}{l:List (Option W)}:∃C,qm (zU 1 [3] (qZ (zc 3)) (zJ 0) (zi (.bl true)) (zM (zo qP (zV (zh (zi (.int 0)) (zp))) (zc 1)))) (x0::x1::x2::some (.int (K:Int))::x4::l) []=.ok (.ref (2 * K)) C/\LC K (λ _ _=>0) C:=by
 have hm:=Zl (m:=zc 3) (ρ:=x0::x1::x2::some (.int (K:Int))::x4::l) (A:=[]) (k:=(K:Int)) rfl (Zj (by omega))
 rw [toNat_natCast] at hm;obtain ⟨ρ',acc,B,e,_,hB,hacc⟩:=Km (nl:=1) (cap:=[3]) (tw:=zJ 0) (ifs:=zi (.bl true)) (em:=zM (zo qP (zV (zh (zi (.int 0)) (zp))) (zc 1))) (N:=K)
  (I:=λ i ρ acc B=>(∃y,ρ=[y,some (.int (K:Int))])/\(B.length=2 * i/\∀c,c<i->B[2 * c+1]? =some (.lst ((List.range K).map λ j=>W.int 0)))/\acc=(List.range i).map λ c=>W.ref (2 * c+1)) hm rfl
  (λ i ρ acc B hi ⟨⟨y,hρ⟩,⟨hl,hB⟩,hacc⟩=>by
   subst hρ hacc;refine ⟨_,_,gr hi,rfl,.inl ⟨B,_,_,B++[.lst [.int 0]]++[.lst ((List.range K).map λ j=>W.int 0)],rfl,Kw (y:=.ref (2 * i+1)) ?_ (by rw [length_map,length_range];unfold zZ;omega),⟨_,rfl⟩,⟨by simp;omega,λ c hc=>?_⟩,by rw [range_succ,map_append];rfl⟩⟩
   ·refine (zN (jU (zG qR qa)) (zt (i:=1) (w:=.int (K:Int)) rfl)).trans ?_
    unfold qP;dsimp only;rw [qU];dsimp only;rw [if_pos (by rw [Zj (by omega),toNat_natCast];simp;unfold zZ;omega),toNat_natCast,length_append,hl,rep1]
    rfl
   ·by_cases q:c=i
    ·subst q
     rw [getElem?_append_right (by simp;omega)]
     simp [hl]
    ·rw [getElem?_append_left (by simp;omega),getElem?_append_left (by omega)]
     exact hB c (by omega))
  (λ ρ acc B _=>gk (by omega)) ⟨⟨none,rfl⟩,⟨rfl,λ c hc=>absurd hc (not_lt_zero _)⟩,rfl⟩
 subst hacc;refine ⟨B++[.lst ((List.range K).map λ c=>W.ref (2 * c+1))],?_,?_,λ i hi=>?_⟩
 ·rw [gh e,hB.1]
 ·rw [<- hB.1];exact qU
 ·exact yu (hB.2 i hi)
theorem LC.tup (h:LC K μ C)(h8:K<=8){i:Nat}(hi:ρ[i]? =some (some (.ref (2 * K)))):mQ yP (zU 1 [] (qE (zc i)) (zJ 0) (zi (.bl true)) (zM (mQ yP (qb (zc 0))))) ρ C=.ok (zy (j8 K μ)) C:=by
 have e:=Kv (cap:=[]) (ws:=(List.range K).map λ i=>W.ref (2 * i+1)) (me:=mQ yP (qb (zc 0))) (zt hi) h.top (by simp;unfold zZ;omega) (g:=λ w=>match w with | .ref n=>(match C[n]? with | some (.lst ws)=>.tup ws | _=>.non) | _=>.non) (λ w hw=>by
  obtain ⟨c,hc,rfl⟩:=List.mem_map.mp hw;have hr:=h.row c (List.mem_range.mp hc);dsimp only;rw [hr];exact Jn (wj (w:=.ref (2 * c+1)) (A1:=C) (zt rfl) (by unfold zO;dsimp only;rw [hr])))
 rw [Jn e]
 congr 1
 unfold zy j8;rw [map_map,map_map]
 congr 1
 refine map_congr_left λ c hc=>?_;have hr:=h.row c (List.mem_range.mp hc);show (match C[2 * c+1]? with | some (.lst ws)=>W.tup ws | _=>.non)=zW ((List.range K).map (μ c))
 rw [hr];unfold zW;rw [map_map]
 rfl
noncomputable def shr (t:List (List Int))(a b:Nat):Nat->Nat->Nat->Int
 | 0=>λ _ _=>0
 | n+1=>kL (shr t a b n) (at2 t a n).toNat (at2 t b n).toNat (shr t a b n (at2 t a n).toNat (at2 t b n).toNat+1)
noncomputable def JG (t:List (List Int))(K a b:Nat):List (List Int):=j8 K (shr t a b t.length)
theorem K8 (ht:qA t)(hK:jd t=(K:Int))(ha:a<t.length)(hb:b<t.length):((at2 t a b).toNat:Int)=at2 t a b/\(at2 t a b).toNat<K:=by
 have h1:=Ud ht ha hb;have h2:=Vq ht ha hb;omega
theorem ML (ht:qA t)(hK:jd t=(K:Int))(ha:a<t.length)(hb:b<t.length)(A:Hx):JO [zy t,.int (a:Int),.int (b:Int)] A=.ok (zy (JG t K a b)) A:=by
 have n8:=ht.n8;have kb:=Qw ht;have hl1:((t.getD a []).map W.int).length=t.length:=by rw [length_map,ht.sq _ (yq ha)]
 have hl2:((t.getD b []).map W.int).length=t.length:=by rw [length_map,ht.sq _ (yq hb)]
 obtain ⟨C,e1,l1⟩:=T9 (K:=K) (by omega) (x0:=some (zy t)) (x1:=some (.int (a:Int))) (x2:=some (.int (b:Int))) (x4:=none) (l:=[none,none])
 obtain ⟨ρ',B,e2,l2,y5,y6,hρ⟩:=ZK (j:=QG (.tup ((t.getD a []).map W.int)) (.tup ((t.getD b []).map W.int)) ((t.getD a []).map W.int).length) (st:=turn (yW 5 6) (zq (QA (zo zB (zc 4) (zc 5)) (zc 6) (zi (.int 1))) (zA))) (N:=t.length)
  (I:=λ n ρ B=>LC K (shr t a b n) B/\∃y5 y6,ρ=[some (zy t),some (.int (a:Int)),some (.int (b:Int)),some (.int (K:Int)),some (.ref (2 * K)),y5,y6])
  (λ n ρ B hn ⟨l,y5,y6,hρ⟩=>by
   subst hρ;obtain ⟨q1,q2⟩:=K8 ht hK ha hn;obtain ⟨q3,q4⟩:=K8 ht hK hb hn;obtain ⟨B',e,l'⟩:=l.aug (ρ:=[some (zy t),some (.int (a:Int)),some (.int (b:Int)),some (.int (K:Int)),some (.ref (2 * K)),some (.int (at2 t a n)),some (.int (at2 t b n))]) (mo:=zo zB (zc 4) (zc 5)) (mi:=zc 6) (l.ix (zt rfl) (zt (by rw [q1];rfl)) q2) (zt (by rw [q3];rfl)) q2 q4
   refine ⟨.tup [.int (at2 t a n),.int (at2 t b n)],_,B',?_,(wg rfl).trans ((zI e).trans jD),l',_,_,rfl⟩;show some (zip2 ((t.getD a []).map W.int)[n]? ((t.getD b []).map W.int)[n]?)=_;rw [int_at (by rw [ht.sq _ (yq ha)];exact hn),int_at (by rw [ht.sq _ (yq hb)];exact hn)]
   rfl)
  (λ ρ B _=>by
   show some (zip2 ((t.getD a []).map W.int)[t.length]? ((t.getD b []).map W.int)[t.length]?)=_;rw [getElem?_eq_none (by omega),getElem?_eq_none (by omega)]
   rfl) t.length 0 [some (zy t),some (.int (a:Int)),some (.int (b:Int)),some (.int (K:Int)),some (.ref (2 * K)),none,none] C (by omega) ⟨l1,_,_,rfl⟩
 subst hρ;refine ZV (A1:=B) (by show ((zy t).nr&&true)=true;rw [kC];rfl) (kC _) (ja ?_)
 unfold Gj;refine (zI (ρ1:=[some (zy t),some (.int (a:Int)),some (.int (b:Int)),some (.int (K:Int)),none,none,none]) (A1:=[]) ((qL ((zX (zG (zt rfl) qa)).trans ((KO ht []).trans (by rw [hK])))).trans rfl)).trans ?_
 refine (zI (ρ1:=[some (zy t),some (.int (a:Int)),some (.int (b:Int)),some (.int (K:Int)),some (.ref (2 * K)),none,none]) (A1:=C) ((qL e1).trans rfl)).trans ?_;refine (zI (ρ1:=[some (zy t),some (.int (a:Int)),some (.int (b:Int)),some (.int (K:Int)),some (.ref (2 * K)),y5,y6]) (A1:=B) ((wL (L8 ((zN (zt rfl) (zt rfl)).trans (ZR ha)) ((zN (zt rfl) (zt rfl)).trans (ZR hb)))).trans ?_)).trans (qu (jb (l2.tup (by omega) rfl)))
 have:(QG (.tup ((t.getD a []).map W.int)) (.tup ((t.getD b []).map W.int)) ((t.getD a []).map W.int).length).len=t.length:=hl1
 rw [this];exact e2
theorem Mq (ht:qA t)(hK:jd t=(K:Int))(ha:a<t.length)(hb:b<t.length)(A:Hx):QX [zy t,.int (a:Int),.int (b:Int)] A=.ok (zy (JG t K a b)) A:=by
 have n8:=ht.n8;have kb:=Qw ht;obtain ⟨C,e1,l1⟩:=T9 (K:=K) (by omega) (x0:=some (zy t)) (x1:=some (.int (a:Int))) (x2:=some (.int (b:Int))) (x4:=none) (l:=[none])
 obtain ⟨ρ',B,e2,l2,y5,hρ⟩:=ZK (j:=yO 0 t.length) (st:=turn (zJ 5) (zq (QA (zo zB (zc 4) (zo zB (zo zB (zc 0) (zc 1)) (zc 5))) (zo zB (zo zB (zc 0) (zc 2)) (zc 5)) (zi (.int 1))) (zA))) (N:=t.length)
  (I:=λ n ρ B=>LC K (shr t a b n) B/\∃y5,ρ=[some (zy t),some (.int (a:Int)),some (.int (b:Int)),some (.int (K:Int)),some (.ref (2 * K)),y5])
  (λ n ρ B hn ⟨l,y5,hρ⟩=>by
   subst hρ;obtain ⟨q1,q2⟩:=K8 ht hK ha hn;obtain ⟨q3,q4⟩:=K8 ht hK hb hn;have x1:zo zB (zo zB (zc 0) (zc 1)) (zc 5) [some (zy t),some (.int (a:Int)),some (.int (b:Int)),some (.int (K:Int)),some (.ref (2 * K)),some (.int (n:Int))] B=.ok (.int ((at2 t a n).toNat:Int)) B:=by
    rw [q1];exact (zN ((zN (zt rfl) (zt rfl)).trans (ZR ha)) (zt rfl)).trans (Yd (by rw [ht.sq _ (yq ha)];exact hn))
   have x2:zo zB (zo zB (zc 0) (zc 2)) (zc 5) [some (zy t),some (.int (a:Int)),some (.int (b:Int)),some (.int (K:Int)),some (.ref (2 * K)),some (.int (n:Int))] B=.ok (.int ((at2 t b n).toNat:Int)) B:=by
    rw [q3];exact (zN ((zN (zt rfl) (zt rfl)).trans (ZR hb)) (zt rfl)).trans (Yd (by rw [ht.sq _ (yq hb)];exact hn))
   obtain ⟨B',e,l'⟩:=l.aug (mo:=zo zB (zc 4) (zo zB (zo zB (zc 0) (zc 1)) (zc 5))) (l.ix (zt rfl) x1 q2) x2 q2 q4;refine ⟨.int (0+(n:Int)),_,B',gr hn,(wg (ρ1:=[some (zy t),some (.int (a:Int)),some (.int (b:Int)),some (.int (K:Int)),some (.ref (2 * K)),some (.int (n:Int))]) (by rw [zero_add];rfl)).trans ((zI e).trans jD),l',_,rfl⟩)
  (λ ρ B _=>gk (by omega)) t.length 0 [some (zy t),some (.int (a:Int)),some (.int (b:Int)),some (.int (K:Int)),some (.ref (2 * K)),none] C (by omega) ⟨l1,_,rfl⟩
 subst hρ;refine ZV (A1:=B) (by show ((zy t).nr&&true)=true;rw [kC];rfl) (kC _) (ja ?_)
 unfold Gz;have hm:=Zl (len_tab (t:=t) (i:=0) (ρ:=[some (zy t),some (.int (a:Int)),some (.int (b:Int)),some (.int (K:Int)),some (.ref (2 * K)),none]) (A:=C) rfl) (Zj (n:=t.length) (by omega))
 rw [toNat_natCast] at hm;refine (zI (ρ1:=[some (zy t),some (.int (a:Int)),some (.int (b:Int)),some (.int (K:Int)),none,none]) (A1:=[]) ((qL ((zX (zG (zt rfl) qa)).trans ((XM ht []).trans (by rw [hK])))).trans rfl)).trans ?_
 refine (zI (ρ1:=[some (zy t),some (.int (a:Int)),some (.int (b:Int)),some (.int (K:Int)),some (.ref (2 * K)),none]) (A1:=C) ((qL e1).trans rfl)).trans ?_;exact (zI ((wL hm).trans e2)).trans (qu (jb (l2.tup (by omega) rfl)))
theorem LG (ht:qA t)(hK:jd t=(K:Int))(ha:a<t.length)(hb:b<t.length)(A:Hx):Q2 [zy t,.int (a:Int),.int (b:Int)] A=.ok (zy (JG t K a b)) A:=by
 refine ZV (A1:=[]) (by show ((zy t).nr&&true)=true;rw [kC];rfl) (kC _) (wN (Ve ?_))
 unfold Q3;exact (zI (yV ((zX (zG (zt rfl) qa)).trans (Qh ht [])))).trans ((zI (yV ((zX (zG (zt rfl) (zG (zt rfl) qa))).trans (J1 ⟨a,rfl,ha⟩ [])))).trans ((zI (yV ((zX (zG (zt rfl) (zG (zt rfl) qa))).trans (J1 ⟨b,rfl,hb⟩ [])))).trans (wN (qu (jb ((zX (zG (zt rfl) (zG (zt rfl) (zG (zt rfl) qa)))).trans (ML ht hK ha hb [])))))))
theorem LJ {w x y:W}{A:Hx}(h:wA A w):yy [w,x,y] A=.exc "NoTable" A:=by
 refine gM ?_;unfold Q3;exact we (Ql ((zX (zG (zt rfl) qa)).trans (XA h)))
theorem IF {x y:W}{ty:Ty}{A:Hx}(ht:qA t)(hx:qX x A=some ty)(h:¬Ok t.length x):yy [zy t,x,y] A=.exc "NoPlace" A:=by
 refine gM ?_;unfold Q3;exact (zI (yV ((zX (zG (zt rfl) qa)).trans (Qh ht A)))).trans (we (Ql ((zX (zG (zt rfl) (zG (zt rfl) qa))).trans (Va hx h))))
theorem Mp {x y:W}{ty:Ty}{A:Hx}(ht:qA t)(hx:Ok t.length x)(hy:qX y A=some ty)(h:¬Ok t.length y):yy [zy t,x,y] A=.exc "NoPlace" A:=by
 refine gM ?_;unfold Q3;exact (zI (yV ((zX (zG (zt rfl) qa)).trans (Qh ht A)))).trans ((zI (yV ((zX (zG (zt rfl) (zG (zt rfl) qa))).trans (J1 hx A)))).trans (we (Ql ((zX (zG (zt rfl) (zG (zt rfl) qa))).trans (Va hy h)))))
end
section
variable {n K N:Nat}{A B C A0:Hx}{w x y z bad:W}{t:List (List Int)}{Pt:Addr}{PF:jA}{ρ:En}{a:Ea}{vs:List W}{k:Nat}
theorem FR {m:Ev}{tw:Tg}{ρ ρ':En}{A A1:Hx}{w:W}(h:m ρ A=.ok w A1)(h':tw w ρ=some ρ'):QE m tw ρ A=.ok (.nx ρ') A1:=by
 unfold QE;rw [h,zL,h']
theorem RZ (s:qK n A)(h0:ρ[0]? =some (some (.ref n)))(ha:a ρ A=.ok vs A)(hk:vs.length=k)(k1:0<k)(k2:k<1000):∃(w:W) (B:Hx),zo zB (zV a) (zF qC (zh (zc 0) (zh (zi (.int (k:Int))) (zp)))) ρ A=.ok w B/\w∈vs/\Kn n A B:=by
 have e1:=jU ha;obtain ⟨j,B,e2,hj,kn,_⟩:=ZP (s.ext (Ext.one (o:=.lst vs))) h0 (qR (w:=.int (k:Int))) (by omega) (by omega)
 have hl:=s.lt;have hj':j<vs.length:=by omega
 exact ⟨vs[j],B,(zN e1 e2).trans (gj (kn.kp.get qU (by omega)) (getElem?_eq_getElem hj')),getElem_mem hj',(Kn.ext s Ext.one).trans kn⟩
noncomputable def By (N:Nat)(w:W):Prop:=(∃ty,∀A,qX w A=some ty)/\¬Ok N w
theorem SN (hN:N<=8):∀w∈([.int (N:Int),.int (-1),.bl true,.non,.str "0",.tup [.int 0],.int (10 ^ 29)]:List W),By N w:=λ w hw=>by
 simp only [mem_cons,not_mem_nil,or_false] at hw;rcases hw with rfl | rfl | rfl | rfl | rfl | rfl | rfl
 ·exact ⟨⟨.int,λ _=>rfl⟩,by rintro ⟨v,e,h⟩;cases e;omega⟩
 ·exact ⟨⟨.int,λ _=>rfl⟩,by rintro ⟨v,e,h⟩;injection e with e;omega⟩
 ·exact ⟨⟨.bl,λ _=>rfl⟩,by rintro ⟨v,e,h⟩;cases e⟩
 ·exact ⟨⟨.non,λ _=>rfl⟩,by rintro ⟨v,e,h⟩;cases e⟩
 ·exact ⟨⟨.str,λ _=>rfl⟩,by rintro ⟨v,e,h⟩;cases e⟩
 ·exact ⟨⟨.tup,λ _=>rfl⟩,by rintro ⟨v,e,h⟩;cases e⟩
 ·exact ⟨⟨.int,λ _=>rfl⟩,by rintro ⟨v,e,h⟩;injection e with e;omega⟩
theorem Bq (A:Hx):jK LS 0 [x] A=kv [x] A:=by
 rw [Qm (t:=J6 kv yz yy) rfl];unfold J6 k9;dsimp only;exact zX (ws:=[x]) (A1:=A) rfl
theorem Be (A:Hx):jK LS 1 [x,y,z] A=yz [x,y,z] A:=by
 rw [Qm (t:=J2 kv yz yy) rfl];unfold J2 k9;dsimp only;exact zX (ws:=[x,y,z]) (A1:=A) rfl
theorem Br (A:Hx):jK LS 2 [x,y] A=yy [x,y,y] A:=by
 rw [Qm (t:=J4 kv yz yy) rfl];unfold J4 k9;dsimp only;exact zX (ws:=[x,y,y]) (A1:=A) rfl
theorem Bx (A:Hx):jK LS 3 [x,y,z] A=yz [x,y,z] A:=by
 rw [Qm (t:=J8 kv yz yy) rfl];unfold J8 k9;dsimp only;exact zX (ws:=[x,y,z]) (A1:=A) rfl
theorem CS (A:Hx):jK LS 4 [x,y] A=yy [x,y,.int 0] A:=by
 rw [Qm (t:=Yb kv yz yy) rfl];unfold Yb k9;dsimp only;exact zX (ws:=[x,y,.int 0]) (A1:=A) rfl
theorem CT (A:Hx):jK LS 5 [x,y] A=yy [x,.int 0,y] A:=by
 rw [Qm (t:=J5 kv yz yy) rfl];unfold J5 k9;dsimp only;exact zX (ws:=[x,.int 0,y]) (A1:=A) rfl
theorem Bf {i:Int}(A:Hx):jK LS 6 [x,.int i,z] A=yz [x,.int (i - 1),z] A:=by
 rw [Qm (t:=Jf kv yz yy) rfl];unfold Jf k9;dsimp only;exact zX (ws:=[x,.int (i - 1),z]) (A1:=A) rfl
theorem PO {i:Nat}{a:W}(ha:ρ[i]? =some (some a)):ko [i] ρ=some [a]:=by
 unfold ko;rw [ha]
 rfl
theorem Wk {i j:Nat}{a b:W}(ha:ρ[i]? =some (some a))(hb:ρ[j]? =some (some b)):ko [i,j] ρ=some [a,b]:=by
 unfold ko;rw [ha,PO hb]
theorem Ui {i j l:Nat}{a b c:W}(ha:ρ[i]? =some (some a))(hb:ρ[j]? =some (some b))(hc:ρ[l]? =some (some c)):ko [i,j,l] ρ=some [a,b,c]:=by
 unfold ko;rw [ha,Wk hb hc]
theorem RX {i j l:Nat}{x0 x1 x2 x3 x4 x5 x6 x7:Option W}(h1:A[1]? =some (.tab qF Pt))(m:Ex):
  zq (zQ 7 (zV (zh (yZ 1 qF Pt i (PF i)) (zp)))) (zq (j0 (j5 yA (zc 7) (yZ 1 qF Pt j (PF j)))) (zq (j0 (j5 yA (zc 7) (yZ 1 qF Pt l (PF l)))) m)) [x0,x1,x2,x3,x4,x5,x6,x7] A=
   m [x0,x1,x2,x3,x4,x5,x6,some (.ref A.length)] (A++[.lst ([i,j,l].map λ k=>.clo k [] (PF k))]):=by
 have set_new:∀o o':O,(A++[o]).set A.length o'=A++[o']:=λ o o'=>by rw [List.set_append_right _ _ (le_refl _),Nat.sub_self];rfl
 refine (zI (ρ1:=[x0,x1,x2,x3,x4,x5,x6,some (.ref A.length)]) (A1:=A++[.lst [.clo i [] (PF i)]]) ((qL (jU (zG (KU h1 i) qa))).trans rfl)).trans ?_;refine (zI (ρ1:=[x0,x1,x2,x3,x4,x5,x6,some (.ref A.length)]) (A1:=A++[.lst [.clo i [] (PF i),.clo j [] (PF j)]]) (yV (w:=.non) ?_)).trans ?_
 ·exact (Jb (zt rfl) qU (KU (yu h1) j)).trans ((Kl qU (by simp)).trans (by rw [set_new];rfl))
 refine zI (yV (w:=.non) ?_);exact (Jb (zt rfl) qU (KU (yu h1) l)).trans ((Kl qU (by simp)).trans (by rw [set_new];rfl))
theorem JD {x:Str}{ws:List W}{g k:Nat}(hl:jK LS k ws A=.exc x A)(hx:wq x=some g):RF k ws A=.ok (.ref (A.length+9)) (A++GX g):=V1 hl hx
noncomputable abbrev BN (w:W):List W:=[w,.int (-1),.bl true,.non,.str "0",.tup [.int 0],.int (10 ^ 29)]
noncomputable abbrev kN (i:Nat):Ea:=zh (zc i) (zh (jO Zr (zi (.int 1))) (zh (zi (.bl true)) (zh (zi .non) (zh (zi (.str "0")) (zh (zC (zh (zi (.int 0)) (zp))) (zh (zo Z4 (zi (.int 10)) (zi (.int 29))) (zp)))))))
theorem CZ (A:Hx):zo Z4 (zi (.int 10)) (zi (.int 29)) ρ A=.ok (.int (10 ^ 29)) A:=(zN qR qR).trans (by kernel_rfl)
theorem Rz {i:Nat}(hi:ρ[i]? =some (some w))(A:Hx):kN i ρ A=.ok (BN w) A:=
 zG (zt hi) (zG (x:=.int (-1)) rfl (zG qR (zG qR (zG qR (zG (Vm (zG qR qa)) (zG (CZ A) qa))))))
theorem Fh {b:Bool}{c:Int}(s:qK 0 [.lst [.int c,.bl b],.tab qF Pt])(ht:qA t)(hK:jd t=(K:Int)):
  ∃(c':Int) (b':Bool),(0<=c'/\(b'=false->c'<2147483647))/\∀PF,∃B,qg 8 (YL ZH wc qC kv yz yy RF Pt PF) [.ref 0,zy t] [.lst [.int c,.bl b],.tab qF Pt]=.ok (.bl true) B/\B[0]? =some (.lst [.int c',.bl b'])/\B[1]? =some (.tab qF Pt):=by
 have n8:=ht.n8;have n1:=ht.n1;have kb:=Qw ht;obtain ⟨bad,A1,e1,hb,k1⟩:=DZ s;obtain ⟨no,A2,e2,m2,k2⟩:=RZ (k:=7) (ρ:=[some (.ref 0),some (zy t),some bad,some (.int (t.length:Int)),some (.int (K:Int)),none,none,none]) k1.st rfl (Rz (i:=3) (w:=.int (t.length:Int)) rfl A1) rfl (by decide) (by decide)
 obtain ⟨od,A3,e3,m3,k3⟩:=RZ (k:=7) (ρ:=[some (.ref 0),some (zy t),some bad,some (.int (t.length:Int)),some (.int (K:Int)),some no,none,none]) k2.st rfl (Rz (i:=4) (w:=.int (K:Int)) rfl A2) rfl (by decide) (by decide)
 obtain ⟨⟨ty2,h2⟩,g2⟩:=SN n8 no m2;obtain ⟨⟨ty3,h3⟩,g3⟩:=SN (N:=K) (by omega) od m3
 have k13:=(k1.trans k2).trans k3;have t3:A3[1]? =some (.tab qF Pt):=k13.kp.get (by rfl) (by decide)
 have b3:=hb.mono ((k2.trans k3).ky k1.st);obtain ⟨c',b',s3,g3'⟩:=k3.st;refine ⟨c',b',g3',λ PF=>?_⟩;generalize hρ:([some (.ref 0),some (zy t),some bad,some (.int (t.length:Int)),some (.int (K:Int)),some no,some od,some (.ref A3.length)]:En)=ρ4;generalize hA4:A3++[O.lst (([0,1,2]:List Nat).map λ k=>W.clo k [] (PF k))]=A4;have x34:Ext A3 A4:=⟨_,hA4.symm⟩;have r4:Yx 0 A3 ρ4 [0,1,2]:=λ k hk=>by
  simp only [mem_cons,not_mem_nil,or_false] at hk;rcases hk with rfl | rfl | rfl
  ·exact ⟨_,[bad],rfl,by rw [<- hρ];exact PO rfl,λ A x=>JD ((Bq A).trans (DC (b3.mono x.ky))) X2⟩
  ·exact ⟨_,[bad,no,od],rfl,by rw [<- hρ];exact Ui rfl rfl rfl,λ A x=>JD ((Be A).trans (DS (b3.mono x.ky))) X2⟩
  ·exact ⟨_,[bad,no],rfl,by rw [<- hρ];exact Wk rfl rfl,λ A x=>JD ((Br A).trans (LJ (b3.mono x.ky))) X2⟩
 obtain ⟨A5,e5,x5⟩:=SU (PF:=PF) (n:=3) (c:=A3.length) (g:=0) r4 x34 (by rw [<- hA4];exact qU) (by rw [<- hρ];rfl) (by simp) rfl (by decide +kernel)
 have t5:=x5.at (x34.at t3);have x35:=x34.trans x5;generalize hρ':([some (.ref 0),some (zy t),some bad,some (.int (t.length:Int)),some (.int (K:Int)),some no,some od,some (.ref A5.length)]:En)=ρ6;generalize hA6:A5++[O.lst (([3,4,5]:List Nat).map λ k=>W.clo k [] (PF k))]=A6;have x56:Ext A5 A6:=⟨_,hA6.symm⟩;have r6:Yx 2 A5 ρ6 [3,4,5]:=λ k hk=>by
  simp only [mem_cons,not_mem_nil,or_false] at hk;rcases hk with rfl | rfl | rfl
  ·exact ⟨_,[zy t,no,od],rfl,by rw [<- hρ'];exact Ui rfl rfl rfl,λ A x=>JD ((Bx A).trans (EM ht (h2 A) g2)) Xk⟩
  ·exact ⟨_,[zy t,no],rfl,by rw [<- hρ'];exact Wk rfl rfl,λ A x=>JD ((CS A).trans (IF ht (h2 A) g2)) Xk⟩
  ·exact ⟨_,[zy t,no],rfl,by rw [<- hρ'];exact Wk rfl rfl,λ A x=>JD ((CT A).trans (Mp ht ⟨0,rfl,n1⟩ (h2 A) g2)) Xk⟩
 obtain ⟨A7,e7,x7⟩:=SU (PF:=PF) (n:=3) (c:=A5.length) (g:=2) r6 x56 (by rw [<- hA6];exact qU) (by rw [<- hρ'];rfl) (by simp) rfl (by decide +kernel)
 have t7:=x7.at (x56.at t5);obtain ⟨A8,e8,x8⟩:=N7 (k:=6) (g:=3) (PF:=PF) (ρ:=ρ6) (A:=A7) (t:=Jf kv yz yy) (ws:=[zy t,.int (t.length:Int),od]) (x := "NoKind") t7 rfl (by rw [<- hρ'];exact Ui rfl rfl rfl)
  ((Bf A7).trans (EG ht hK ⟨t.length - 1,by congr 1;omega,by omega⟩ (h3 A7) g3)) M8
 have x38:=((x35.trans x56).trans x7).trans x8;refine ⟨A8,ja ?_,x38.at s3,x38.at t3⟩;unfold YL;have ea:zC (zh (zF ZH (zh (zc 0) (zp))) (zh (mQ qJ (qb (zc 1))) (zp))) [some (.ref 0),some (zy t),none,none,none,none,none,none] [.lst [.int c,.bl b],.tab qF Pt]=.ok (.tup [bad,.int (t.length:Int)]) A1:=Vm (zG ((zX (zG (zt rfl) qa)).trans e1) (zG (len_tab rfl) qa));refine (zI (ρ1:=[some (.ref 0),some (zy t),some bad,some (.int (t.length:Int)),none,none,none,none]) (A1:=A1) (FR ea rfl)).trans ?_;refine (zI (ρ1:=[some (.ref 0),some (zy t),some bad,some (.int (t.length:Int)),some (.int (K:Int)),none,none,none]) (A1:=A1) ((qL ((zX (zG (zt rfl) qa)).trans ((XM ht A1).trans (by rw [hK])))).trans rfl)).trans ?_
 refine (zI (ρ1:=[some (.ref 0),some (zy t),some bad,some (.int (t.length:Int)),some (.int (K:Int)),some no,none,none]) (A1:=A2) ((qL e2).trans rfl)).trans ?_;refine (zI (ρ1:=[some (.ref 0),some (zy t),some bad,some (.int (t.length:Int)),some (.int (K:Int)),some no,some od,none]) (A1:=A3) ((qL e3).trans rfl)).trans ?_;refine (RX t3 _).trans ?_;rw [hρ,hA4];refine (zI (ρ1:=ρ4) (A1:=A5) ((yd e5).trans jD)).trans ?_;rw [<- hρ];refine (RX t5 _).trans ?_;rw [hρ',hA6];refine (zI (ρ1:=ρ6) (A1:=A7) ((yd e7).trans jD)).trans ?_;exact qu (jb e8)
noncomputable def KN (Pt:Addr):Fn:=JA qF Pt λ PF=>qg 8 (YL ZH wc qC kv yz yy RF Pt PF)
theorem Fx (s:qK n A)(h1:A[1]? =some (.tab qF Pt))(ht:qA t)(hK:jd t=(K:Int)):∃B,KN Pt [.ref n,zy t] A=.ok (.bl true) B/\Kn n A B:=by
 obtain ⟨c,b,e,hc⟩:=s;have hl:=gi e;obtain ⟨c',b',g,h⟩:=Fh (Pt:=Pt) (b:=b) (c:=c) ⟨c,b,rfl,hc⟩ ht hK;refine ⟨A.set n (.lst [.int c',.bl b']),SO ⟨n,[zy t],[.int c,.bl b],.bl true,[.int c',.bl b'],rfl,e,h1,rfl,by show ((zy t).nr&&true)=true;rw [kC];rfl,rfl,rfl,rfl,h⟩,Kp.set,c',b',getElem?_set_self hl,g⟩
end
section
variable {n K a k:Nat}{A B C:Hx}{t:List (List Int)}{Pt:Addr}{ns:List Int}
theorem So (n8:t.length<=8):(kY t a k).length<=100:=by
 unfold kY;rw [length_map]
 have:=length_filter_le (λ b=>decide (at2 t a b=(k:Int))) (List.range t.length)
 rw [length_range] at this;omega
theorem FA {b:Nat}(h:K<=8):(JG t K a b).length<=100/\∀r∈JG t K a b,r.length<=100:=by
 unfold JG;refine ⟨by rw [Jc];omega,λ r hr=>?_⟩
 rw [KZ r hr,Jc];omega
noncomputable abbrev B3:Ex:=zq (zQ 9 (zF Qg (zh (zc 3) (zh (zc 5) (zh (zc 6) (zp)))))) (zq (qN (jM (zF kT (zh (zc 9) (zh (zc 7) (zp))))) (zq (qk (zi (.bl false))) (zA)) (zA)) (zq (j0 (j5 yA (zc 9) (zi (.int 0)))) (zA)))
theorem La {x0 x1 x2 x4 x8 x9 x10:Option W}{p:Nat}(ht:qA t)(hK:jd t=(K:Int))(ha:a<t.length)(hk:k<K)(hp:A[p]? =some (.lst ((kY t a k).map W.int))):
  ∃B y9,B3 [x0,x1,x2,some (zy t),x4,some (.int (a:Int)),some (.int (k:Int)),some (.ref p),x8,x9,x10] A=.ok (.nx [x0,x1,x2,some (zy t),x4,some (.int (a:Int)),some (.int (k:Int)),some (.ref p),x8,y9,x10]) B/\Ext A B:=by
 have h:=Ee ht hK ha hk A;have n8:=ht.n8;refine ⟨A++[.lst ((kY t a k).map W.int++[.int 0])],some (.ref A.length),?_,Ext.one⟩;refine (zI (ρ1:=[x0,x1,x2,some (zy t),x4,some (.int (a:Int)),some (.int (k:Int)),some (.ref p),x8,some (.ref A.length),x10]) (A1:=A++[.lst ((kY t a k).map W.int)]) ((qL ((zX (zG (zt rfl) (zG (zt rfl) (zG (zt rfl) qa)))).trans h)).trans rfl)).trans ?_;refine (zI ((yd (kh (k:=true) ((zX (zG (zt rfl) (zG (zt rfl) qa))).trans (LW qU (yu hp) (So n8))))).trans jD)).trans ?_;refine (zI (yV (w:=.non) ?_)).trans jD;refine (Jb (zt rfl) qU qR).trans ((Kl qU (by rw [length_map];have:=So (t:=t) (a:=a) (k:=k) n8;omega)).trans ?_)
 rw [List.set_append_right _ _ (le_refl _),Nat.sub_self]
 rfl
noncomputable abbrev B2:Ex:=zq (zQ 7 (qm (zU 1 [3,5,6] (qZ (mQ qJ (qb (zc 3)))) (zJ 0) (zo jf (zo zB (zo zB (zc 1) (zc 2)) (zc 0)) (zc 3)) (zM (zc 0))))) (zq (yI (qZ (zi (.int 2))) (zJ 8) B3) (zA))
theorem Fg {x0 x1 x2 x4 x7 x8 x9 x10:Option W}(ht:qA t)(hK:jd t=(K:Int))(ha:a<t.length)(hk:k<K):
  ∃B y7 y8 y9,B2 [x0,x1,x2,some (zy t),x4,some (.int (a:Int)),some (.int (k:Int)),x7,x8,x9,x10] A=.ok (.nx [x0,x1,x2,some (zy t),x4,some (.int (a:Int)),some (.int (k:Int)),y7,y8,y9,x10]) B/\Ext A B:=by
 have e1:=Ia (k:=k) (ρ:=[x0,x1,x2,some (zy t),x4,some (.int (a:Int)),some (.int (k:Int)),x7,x8,x9,x10]) ht ha rfl rfl rfl A;obtain ⟨ρ',B,e,x,y8,y9,hρ⟩:=ZK (j:=yO 0 2) (st:=turn (zJ 8) B3) (N:=2) (I:=λ _ ρ B=>Ext (A++[.lst ((kY t a k).map W.int)]) B/\∃y8 y9,ρ=[x0,x1,x2,some (zy t),x4,some (.int (a:Int)),some (.int (k:Int)),some (.ref A.length),y8,y9,x10])
  (λ i ρ B hi ⟨x,y8,y9,hρ⟩=>by
   subst hρ;obtain ⟨B',y9',e,x'⟩:=La (x0:=x0) (x1:=x1) (x2:=x2) (x4:=x4) (x8:=some (.int (0+(i:Int)))) (x9:=y9) (x10:=x10) (p:=A.length) ht hK ha hk (x.at qU);exact ⟨_,_,B',gr hi,(wg rfl).trans e,x.trans x',_,_,rfl⟩)
  (λ ρ B _=>gk (by omega)) 2 0 [x0,x1,x2,some (zy t),x4,some (.int (a:Int)),some (.int (k:Int)),some (.ref A.length),x8,x9,x10] (A++[.lst ((kY t a k).map W.int)]) (by omega) ⟨Ext.refl,_,_,rfl⟩
 subst hρ;refine ⟨B,some (.ref A.length),y8,y9,?_,Ext.one.trans x⟩;refine (zI (ρ1:=[x0,x1,x2,some (zy t),x4,some (.int (a:Int)),some (.int (k:Int)),some (.ref A.length),x8,x9,x10]) (A1:=A++[.lst ((kY t a k).map W.int)]) ((qL e1).trans rfl)).trans ?_;exact (zI ((wL (Zl (k:=2) qR (by decide))).trans e)).trans jD
noncomputable abbrev B1:Ex:=zq (yI (qZ (zc 4)) (zJ 6) B2) (zq (zQ 10 (zF qC (zh (zc 2) (zh (mQ qJ (qb (zc 3))) (zp))))) (zq (qN (jM (zF kT (zh (zF Q2 (zh (zc 3) (zh (zc 5) (zh (zc 10) (zp))))) (zh (zF QX (zh (zc 3) (zh (zc 5) (zh (zc 10) (zp))))) (zp))))) (zq (qk (zi (.bl false))) (zA)) (zA)) (zA)))
theorem Ie {x0 x1 x6 x7 x8 x9 x10:Option W}(s:qK n A)(ht:qA t)(hK:jd t=(K:Int))(ha:a<t.length):
  ∃B y6 y7 y8 y9 y10,B1 [x0,x1,some (.ref n),some (zy t),some (.int (K:Int)),some (.int (a:Int)),x6,x7,x8,x9,x10] A=.ok (.nx [x0,x1,some (.ref n),some (zy t),some (.int (K:Int)),some (.int (a:Int)),y6,y7,y8,y9,y10]) B/\Kn n A B:=by
 have n8:=ht.n8;have n1:=ht.n1;have kb:=Qw ht;obtain ⟨ρ',B,e,x,y6,y7,y8,y9,hρ⟩:=ZK (j:=yO 0 K) (st:=turn (zJ 6) B2) (N:=K) (I:=λ _ ρ B=>Ext A B/\∃y6 y7 y8 y9,ρ=[x0,x1,some (.ref n),some (zy t),some (.int (K:Int)),some (.int (a:Int)),y6,y7,y8,y9,x10])
  (λ i ρ B hi ⟨x,y6,y7,y8,y9,hρ⟩=>by
   subst hρ;obtain ⟨B',z7,z8,z9,e,x'⟩:=Fg (A:=B) (x0:=x0) (x1:=x1) (x2:=some (.ref n)) (x4:=some (.int (K:Int))) (x7:=y7) (x8:=y8) (x9:=y9) (x10:=x10) ht hK ha hi;exact ⟨_,_,B',gr hi,(wg (ρ1:=[x0,x1,some (.ref n),some (zy t),some (.int (K:Int)),some (.int (a:Int)),some (.int (i:Int)),y7,y8,y9,x10]) (by rw [zero_add];rfl)).trans e,x.trans x',_,_,_,_,rfl⟩)
  (λ ρ B _=>gk (by omega)) K 0 [x0,x1,some (.ref n),some (zy t),some (.int (K:Int)),some (.int (a:Int)),x6,x7,x8,x9,x10] A (by omega) ⟨Ext.refl,_,_,_,_,rfl⟩
 subst hρ;have kn:=Kn.ext s x;obtain ⟨b,B2,e2,hb,k2,_⟩:=RD kn.st (m:=(t.length:Int)) (by omega) (by omega)
 have hb':b<t.length:=by omega
 have hm:=Zl (m:=zc 4) (ρ:=[x0,x1,some (.ref n),some (zy t),some (.int (K:Int)),some (.int (a:Int)),x6,x7,x8,x9,x10]) (A:=A) (k:=(K:Int)) rfl (Zj (by omega))
 rw [toNat_natCast] at hm;refine ⟨B2,y6,y7,y8,y9,some (.int (b:Int)),?_,kn.trans k2⟩;refine (zI ((wL hm).trans e)).trans ?_;refine (zI (ρ1:=[x0,x1,some (.ref n),some (zy t),some (.int (K:Int)),some (.int (a:Int)),y6,y7,y8,y9,some (.int (b:Int))]) (A1:=B2) ((qL ((zX (zG (zt rfl) (zG (len_tab rfl) qa))).trans e2)).trans rfl)).trans ?_;have sl:=FA (t:=t) (a:=a) (b:=b) (K:=K) (by omega)
 exact (zI ((yd (kh (k:=true) ((zX (zG ((zX (zG (zt rfl) (zG (zt rfl) (zG (zt rfl) qa)))).trans (LG ht hK ha hb' B2)) (zG ((zX (zG (zt rfl) (zG (zt rfl) (zG (zt rfl) qa)))).trans (Mq ht hK ha hb' B2)) qa))).trans (Hg sl.1 sl.2 B2)))).trans jD)).trans jD
noncomputable abbrev BL (Pt:Addr):Ex:=zq (zQ 2 (zF Q0 (zh (zc 0) (zh (zc 1) (zp))))) (zq (zQ 3 (zF Qb (zh (zc 2) (zp)))) (zq (zQ 4 (zF wc (zh (zc 3) (zp)))) (zq (qN (jM (zF kT (zh (zF QZ (zh (zc 3) (zp))) (zh (zc 4) (zp))))) (zq (qk (zi (.bl false))) (zA)) (zA)) (zq (yI (qZ (mQ qJ (qb (zc 3)))) (zJ 5) B1) (zq (qN (jM (zF (KN Pt) (zh (zc 2) (zh (zc 3) (zp))))) (zq (qk (zi (.bl false))) (zA)) (zA)) (zA))))))
theorem FQ {i:Nat}{x2 x3 x4 x5 x6 x7 x8 x9 x10:Option W}(h0:A[0]? =some (.ro (ns.map W.int)))(h1:A[1]? =some (.tab qF Pt)):∃y2 y3 y4 y5 y6 y7 y8 y9 y10 B,BL Pt [some (.ref 0),some (.int (i:Int)),x2,x3,x4,x5,x6,x7,x8,x9,x10] A=.ok (.nx [some (.ref 0),some (.int (i:Int)),y2,y3,y4,y5,y6,y7,y8,y9,y10]) B/\B[0]? =some (.ro (ns.map W.int))/\B[1]? =some (.tab qF Pt):=by
 obtain ⟨o,eS,hS⟩:=F4 h0 i;have hA:=gi h1;have a0:=yu (u:=o) h0;have a1:=yu (u:=o) h1;generalize hn:A.length=n at *;generalize A++[o]=A1 at *;obtain ⟨t,A2,e2,ht,k2⟩:=ER hS;have kb:=Qw ht;have n8:=ht.n8;obtain ⟨K,hK⟩:=eq_ofNat_of_zero_le (show 0<=jd t by omega)
 obtain ⟨ρ',B,e5,kB,y5,y6,y7,y8,y9,y10,hρ⟩:=ZK (j:=yO 0 t.length) (st:=turn (zJ 5) B1) (N:=t.length) (I:=λ _ ρ B=>Kn n A2 B/\∃y5 y6 y7 y8 y9 y10,ρ=[some (.ref 0),some (.int (i:Int)),some (.ref n),some (zy t),some (.int (K:Int)),y5,y6,y7,y8,y9,y10])
  (λ a ρ B hi ⟨kn,y5,y6,y7,y8,y9,y10,hρ⟩=>by
   subst hρ;obtain ⟨B',z6,z7,z8,z9,z10,e,k'⟩:=Ie (a:=a) (x0:=some (.ref 0)) (x1:=some (.int (i:Int))) (x6:=y6) (x7:=y7) (x8:=y8) (x9:=y9) (x10:=y10) kn.st ht hK hi;exact ⟨_,_,B',gr hi,(wg (ρ1:=[some (.ref 0),some (.int (i:Int)),some (.ref n),some (zy t),some (.int (K:Int)),some (.int (a:Int)),y6,y7,y8,y9,y10]) (by rw [zero_add];rfl)).trans e,kn.trans k',_,_,_,_,_,_,rfl⟩)
  (λ ρ B _=>gk (by omega)) t.length 0 [some (.ref 0),some (.int (i:Int)),some (.ref n),some (zy t),some (.int (K:Int)),x5,x6,x7,x8,x9,x10] A2 (by omega) ⟨⟨Kp.refl,k2.st⟩,_,_,_,_,_,_,rfl⟩
 subst hρ;have k3:=k2.trans kB;have b0:=k3.kp.get a0 (by omega)
 have b1:=k3.kp.get a1 (by omega)
 obtain ⟨B',e6,k6⟩:=Fx k3.st b1 ht hK;refine ⟨some (.ref n),some (zy t),some (.int (K:Int)),y5,y6,y7,y8,y9,y10,B',?_,k6.kp.get b0 (by omega),k6.kp.get b1 (by omega)⟩
 have hm:=Zl (len_tab (t:=t) (i:=3) (ρ:=[some (.ref 0),some (.int (i:Int)),some (.ref n),some (zy t),some (.int (K:Int)),x5,x6,x7,x8,x9,x10]) (A:=A2) rfl) (Zj (n:=t.length) (by omega))
 rw [toNat_natCast] at hm;refine (zI (ρ1:=[some (.ref 0),some (.int (i:Int)),some (.ref n),x3,x4,x5,x6,x7,x8,x9,x10]) (A1:=A1) ((qL ((zX (ws:=[.ref 0,.int i]) (A1:=A) rfl).trans eS)).trans rfl)).trans ?_;refine (zI (ρ1:=[some (.ref 0),some (.int (i:Int)),some (.ref n),some (zy t),x4,x5,x6,x7,x8,x9,x10]) (A1:=A2) ((qL ((zX (ws:=[.ref n]) (A1:=A1) rfl).trans e2)).trans rfl)).trans ?_;refine (zI (ρ1:=[some (.ref 0),some (.int (i:Int)),some (.ref n),some (zy t),some (.int (K:Int)),x5,x6,x7,x8,x9,x10]) (A1:=A2) ((qL ((zX (zG (zt (i:=3) rfl) qa)).trans ((XM ht A2).trans (by rw [hK])))).trans rfl)).trans ?_
 refine (zI ((yd (kh (k:=true) ((zX (zG ((zX (zG (zt rfl) qa)).trans ((Ek ht A2).trans (by rw [hK]))) (zG (zt rfl) qa))).trans (E6 _ A2)))).trans jD)).trans ?_
 refine (zI ((wL hm).trans e5)).trans ?_;exact (zI ((yd (kh (k:=true) ((zX (zG (zt rfl) (zG (zt rfl) qa))).trans e6))).trans jD)).trans jD
end
noncomputable def VH (Pt:Addr):Fn:=qg 11 (VR wc (KN Pt) kT QX Q0 Qb qC QZ Qg Q2)
theorem Ib:RP qF VH:=λ ns hl Pt=>by
 have hs:zO (.ref 0) [.ro (ns.map W.int),.tab qF Pt]=some (ns.map W.int):=rfl;have el:mQ qJ (qb (zc 0)) [some (.ref 0),none,none,none,none,none,none,none,none,none,none] [.ro (ns.map W.int),.tab qF Pt]=.ok (.int ns.length) [.ro (ns.map W.int),.tab qF Pt]:=by
  rw [kj (wj (w:=.ref 0) (A1:=[.ro (ns.map W.int),.tab qF Pt]) (zt rfl) hs)];unfold qJ;rw [length_map]
 have em:zo V5 (zi (.int 1)) (zo Z0 (mQ qJ (qb (zc 0))) (zi (.int 6))) [some (.ref 0),none,none,none,none,none,none,none,none,none,none] [.ro (ns.map W.int),.tab qF Pt]=
   .ok (.int (if (if (6:Int)<ns.length then 6 else (ns.length:Int)) > 1 then (if (6:Int)<ns.length then 6 else (ns.length:Int)) else 1)) [.ro (ns.map W.int),.tab qF Pt]:=
  (zN (qR (w:=.int 1)) ((zN el (qR (w:=.int 6))).trans rfl)).trans rfl
 generalize hv:(if (if (6:Int)<ns.length then 6 else (ns.length:Int)) > 1 then (if (6:Int)<ns.length then 6 else (ns.length:Int)) else 1)=v at em;have hsm:jI v=true:=by
  have:0<=v/\v<1000:=by
   rw [<- hv]
   split<;>split<;>omega
  obtain ⟨k,rfl⟩:=eq_ofNat_of_zero_le this.1;exact U9 (by omega)
 obtain ⟨ρ',B,e,_⟩:=ZK (j:=yO 0 v.toNat) (st:=turn (zJ 1) (BL Pt)) (N:=v.toNat) (I:=λ _ ρ B=>B[0]? =some (.ro (ns.map W.int))/\B[1]? =some (.tab qF Pt)/\∃y1 y2 y3 y4 y5 y6 y7 y8 y9 y10,ρ=[some (.ref 0),y1,y2,y3,y4,y5,y6,y7,y8,y9,y10])
  (λ i ρ B hi ⟨h0,h1,y1,y2,y3,y4,y5,y6,y7,y8,y9,y10,hρ⟩=>by
   subst hρ;obtain ⟨z2,z3,z4,z5,z6,z7,z8,z9,z10,B',e,h0',h1'⟩:=FQ (i:=i) (x2:=y2) (x3:=y3) (x4:=y4) (x5:=y5) (x6:=y6) (x7:=y7) (x8:=y8) (x9:=y9) (x10:=y10) h0 h1;refine ⟨_,_,B',gr hi,(wg (ρ1:=[some (.ref 0),some (.int (i:Int)),y2,y3,y4,y5,y6,y7,y8,y9,y10]) ?_).trans e,h0',h1',_,_,_,_,_,_,_,_,_,_,rfl⟩;rw [zero_add];rfl)
  (λ ρ B _=>gk (by omega)) v.toNat 0 [some (.ref 0),none,none,none,none,none,none,none,none,none,none] [.ro (ns.map W.int),.tab qF Pt] (by omega) ⟨rfl,rfl,_,_,_,_,_,_,_,_,_,_,rfl⟩
 refine ⟨B,ja ?_⟩;unfold VR;exact (zI ((wL (Zl em hsm)).trans e)).trans (qu (jb qR))
section
variable {P:Program}{w:World}{K:Frag}{mg:Str->Option Value}{base h:Heap}
theorem OJ (X:K.In h)(G:h.Ns mainGlobals mg)(T:Tx K){PG:jA}{lam:Nat->Fn}(hL:∀k,gX P w K mg base 7 (PG k) (lam k)):zE P w K mg base 8 "_law_refused" 1 ((qg 4 (JQ PG lam))):=by
 obtain ⟨f,fd,F,a⟩:=T.Gr;exact (OU (k:=7) (bu X G T) (cl T) T.VY F (PySem.W.mg_of X G a) (le_refl _) hL)
theorem F8 (X:K.In h)(Gl:h.Ns mainGlobals mg)(T:Tx K){c Pt:Addr}(ht:PySem.W.tabIn K "_law_refusals_right" = some (c,Pt))(hB:BMain mg base)(hC:PySem.W.CodeHd base c Pt):zE P w K mg base 9 "_law_refusals_right" 2 (KN Pt):=by
 obtain ⟨f,fd,F,a⟩:=T.WR;exact Oh (k:=8) (j:=6) (kk:=8) (bu X Gl T) F a ht (PySem.W.mg_of X Gl a) hB hC ((Oy X Gl T).mono (by decide)) ((GO X Gl T).mono (by decide)) ((Q4 X Gl T).mono (by decide)) (by decide)
  (Cz (k:=6) (bu X Gl T) (λ base=>(UW X Gl T).mono (by decide)) (λ base=>(Tq X Gl T).mono (by decide)) (λ base=>(U2 X Gl T).mono (by decide))) (λ base PG hL=>(OJ X Gl T hL).imp λ us A _=>EK us A)
theorem Dd (X:K.In h)(Gl:h.Ns mainGlobals mg)(T:Tx K){f c Pt:Addr}{fd:FuncData}(F:qO K "law" "law" Wd f fd)(ht:PySem.W.tabIn K "_law_refusals_right" = some (c,Pt))(hB:BMain mg base)(hC:PySem.W.CodeHd base c Pt):yk P w K mg base kO 10 f fd ["_law_script"] (gF K 1 (VH Pt)):=
 o_law (k:=9) (bu X Gl T) F ((GO X Gl T).mono (by decide)) (F8 X Gl T ht hB hC) ((NO X Gl T).mono (by decide)) ((O4 X Gl T).mono (by decide)) ((Nk X Gl T).mono (by decide)) ((Nr X Gl T).mono (by decide)) ((Q4 X Gl T).mono (by decide)) ((Nv X Gl T).mono (by decide)) ((MC X Gl T).mono (by decide)) ((NP X Gl T).mono (by decide))
theorem all_mk {l:PySem.W.OpenLaw}{fa Pt:Addr}(X:K.In h)(Gl:h.Ns mainGlobals mg)(hfa:mg "law" = some (.ref fa))(T:Tx K)(ht:∃c,PySem.W.tabIn K "_law_refusals_right" = some (c,Pt)/\PySem.W.codeHdIn K c Pt=true):
  ∃fd:FuncData,(∀(s:Shared) (v:Value),BindsTo s fd ⟨[v],[]⟩ [("_law_script",v)])/\∀base:Heap,K.In base->base.Ns mainGlobals mg->BMain mg base->yk l.prog w K mg base kO 10 fa fd ["_law_script"] (gF K 1 (VH Pt)):=by
 obtain ⟨c,ht,hcd⟩:=ht;obtain ⟨f,fd,F,a⟩:=T.Ua;have e:=hfa.symm.trans (PySem.W.mg_of X Gl a);cases e;obtain ⟨oc,od,kV,doc,pm,an,cdv,ct,osl,rfl,lk,hcd'⟩:=id F.ex;exact ⟨_,λ s v=>.of_eq rfl,λ base kb nb hB=>Dd X Gl T F ht hB (PySem.W.codeHd_of_K kb hcd)⟩
end
end G
noncomputable def PySem.W.Fast.tw5963762310739522820:Nat:=0
noncomputable def PySem.W.Fast.tw2807166306947131154:Nat:=0
noncomputable def PySem.W.Fast.tw10297877923986330537:Nat:=0
noncomputable def PySem.W.Fast.tw5832546307198520206:Nat:=0
noncomputable def PySem.W.Fast.tw7991778446396634914:Nat:=0
noncomputable def PySem.W.Fast.tw6627842240884754174:Nat:=0
noncomputable def PySem.W.Fast.tw16689463922798377509:Nat:=0
noncomputable def PySem.W.Fast.tw14707443966078942591:Nat:=0
noncomputable def PySem.W.Fast.tw2226465812704710208:Nat:=0
noncomputable def PySem.W.Fast.tw13635224063223914671:Nat:=0
noncomputable def PySem.W.Fast.tw13306524135135858461:Nat:=0
noncomputable def PySem.W.Fast.tw5702189598294734962:Nat:=0
noncomputable def PySem.W.Fast.tw5909242500139769439:Nat:=0
noncomputable def PySem.W.Fast.tw4931660924770233119:Nat:=0
noncomputable def PySem.W.Fast.tw9873121213970543583:Nat:=0
noncomputable def PySem.W.Fast.tw16278691322079723909:Nat:=0
noncomputable def PySem.W.Fast.tw7793816098069960156:Nat:=0
noncomputable def PySem.W.Fast.tw2199308766903906364:Nat:=0
noncomputable def PySem.W.Fast.tw12377336273191920800:Nat:=0
noncomputable def PySem.W.Fast.tw8617847191889918508:Nat:=0
noncomputable def PySem.W.Fast.tw17631010008796862773:Nat:=0
noncomputable def PySem.W.Fast.tw1533858048630066652:Nat:=0
noncomputable def PySem.W.Fast.tw8510017120970276329:Nat:=0
noncomputable def PySem.W.Fast.tw8319573394483367058:Nat:=0
noncomputable def PySem.W.Fast.tw13303021771229613668:Nat:=0
noncomputable def PySem.W.Fast.tw12167513874596293409:Nat:=0
noncomputable def PySem.W.Fast.tw14469053449653134319:Nat:=0
noncomputable def PySem.W.Fast.tw7851436565648537350:Nat:=0
noncomputable def PySem.W.Fast.tw12404926709012485:Nat:=0
noncomputable def PySem.W.Fast.tw17436493541324744142:Nat:=0
noncomputable def PySem.W.Fast.tw7321289643538837628:Nat:=0
noncomputable def PySem.W.Fast.tw3391515556217880059:Nat:=0
noncomputable def PySem.W.Fast.tw2185982730437849343:Nat:=0
noncomputable def PySem.W.Fast.tw1224228679065885576:Nat:=0
noncomputable def PySem.W.Fast.tw4284824678072919005:Nat:=0
noncomputable def PySem.W.Fast.tw1501657616012629823:Nat:=0
noncomputable def PySem.W.Fast.tw4631880828971556452:Nat:=0
noncomputable def PySem.W.Fast.tw3668517726269004706:Nat:=0
noncomputable def PySem.W.Fast.tw10100166266455712280:Nat:=0
noncomputable def PySem.W.Fast.tw9806750208419909732:Nat:=0
noncomputable def PySem.W.Fast.tw5423959245624080238:Nat:=0
open PySem PySem.W PyProof.Rows
set_option maxRecDepth 100000 in
set_option maxHeartbeats 0 in
theorem PySem.Challenge.cw_nearkinds_k02_places_near_and_shares_holds : PySem.Challenge.rw_nearkinds_k02_places_near_and_shares.Holds := by
 w_on;o_law;k_head;(case hw=>w_witness2)
 k_fill
 refine' Mi.Ct (y := "_law_refusals_right") (l:=PySem.Challenge.rw_nearkinds_k02_places_near_and_shares) (k:=10) (x := "_law_script") G.Ib rfl rfl ⟨rfl,by decide,by decide⟩ (λ w h Y=>PySem.W.km_in_of Y) (λ w h Y=>PySem.W.km_tabs_of Y _ (mem_cons_self ..)) ?ht ?hKP ?F
 case ht=>exact λ p=>by kernel_rfl
 case hKP=>exact λ p=>by kernel_rfl
 case F=>
  intro w mg fa h KX Gl hmg ht;have T:G.Tx (L2.PZ KX):=by
   dsimp only [L2.PZ]
   refine' ⟨?Xn,?Xy,?WS,?GB,?Gq,?G9,?GQ,?G4,?W0,?Xi,?Gs,?G3,?W5,?GI,?Gy,?W3,?WY,?Gf,?Gh,?GU,?JS,?Xr,?GJ,?Ga,?GZ,?Xw,?G7,?Gr,?WR,?Ua,?G1,?V7,?VG,?VD,?Xf,?V6,?G5,?V0,?Vt,?VO,?VX,?Vo,?V9,?XO,?VJ,?Vl,?VZ,?Gw,?V3,?VQ,?VY⟩
   (case Xn=>(refine' Mi.jz ?a ?l ?c ?k;(case a=>k_is);(case l=>k_is);(case c=>k_is);(case k=>k_is)))
   (case Xy=>(refine' Mi.jz ?a ?l ?c ?k;(case a=>k_is);(case l=>k_is);(case c=>k_is);(case k=>k_is)))
   (case WS=>(refine' Mi.jz ?a ?l ?c ?k;(case a=>k_is);(case l=>k_is);(case c=>k_is);(case k=>k_is)))
   (case GB=>(refine' Mi.jz ?a ?l ?c ?k;(case a=>k_is);(case l=>k_is);(case c=>k_is);(case k=>k_is)))
   (case Gq=>(refine' Mi.jz ?a ?l ?c ?k;(case a=>k_is);(case l=>k_is);(case c=>k_is);(case k=>k_is)))
   (case G9=>(refine' Mi.jz ?a ?l ?c ?k;(case a=>k_is);(case l=>k_is);(case c=>k_is);(case k=>k_is)))
   (case GQ=>(refine' Mi.jz ?a ?l ?c ?k;(case a=>k_is);(case l=>k_is);(case c=>k_is);(case k=>k_is)))
   (case G4=>(refine' Mi.jz ?a ?l ?c ?k;(case a=>k_is);(case l=>k_is);(case c=>k_is);(case k=>k_is)))
   (case W0=>(refine' Mi.jz ?a ?l ?c ?k;(case a=>k_is);(case l=>k_is);(case c=>k_is);(case k=>k_is)))
   (case Xi=>(refine' Mi.jz ?a ?l ?c ?k;(case a=>k_is);(case l=>k_is);(case c=>k_is);(case k=>k_is)))
   (case Gs=>(refine' Mi.jz ?a ?l ?c ?k;(case a=>k_is);(case l=>k_is);(case c=>k_is);(case k=>k_is)))
   (case G3=>(refine' Mi.jz ?a ?l ?c ?k;(case a=>k_is);(case l=>k_is);(case c=>k_is);(case k=>k_is)))
   (case W5=>(refine' Mi.jz ?a ?l ?c ?k;(case a=>k_is);(case l=>k_is);(case c=>k_is);(case k=>k_is)))
   (case GI=>(refine' Mi.jz ?a ?l ?c ?k;(case a=>k_is);(case l=>k_is);(case c=>k_is);(case k=>k_is)))
   (case Gy=>(refine' Mi.jz ?a ?l ?c ?k;(case a=>k_is);(case l=>k_is);(case c=>k_is);(case k=>k_is)))
   (case W3=>(refine' Mi.jz ?a ?l ?c ?k;(case a=>k_is);(case l=>k_is);(case c=>k_is);(case k=>k_is)))
   (case WY=>(refine' Mi.jz ?a ?l ?c ?k;(case a=>k_is);(case l=>k_is);(case c=>k_is);(case k=>k_is)))
   (case Gf=>(refine' Mi.jz ?a ?l ?c ?k;(case a=>k_is);(case l=>k_is);(case c=>k_is);(case k=>k_is)))
   (case Gh=>(refine' Mi.jz ?a ?l ?c ?k;(case a=>k_is);(case l=>k_is);(case c=>k_is);(case k=>k_is)))
   (case GU=>(refine' Mi.jz ?a ?l ?c ?k;(case a=>k_is);(case l=>k_is);(case c=>k_is);(case k=>k_is)))
   (case JS=>(refine' Mi.jz ?a ?l ?c ?k;(case a=>k_is);(case l=>k_is);(case c=>k_is);(case k=>k_is)))
   (case Xr=>(refine' Mi.jz ?a ?l ?c ?k;(case a=>k_is);(case l=>k_is);(case c=>k_is);(case k=>k_is)))
   (case GJ=>(refine' Mi.jz ?a ?l ?c ?k;(case a=>k_is);(case l=>k_is);(case c=>k_is);(case k=>k_is)))
   (case Ga=>(refine' Mi.jz ?a ?l ?c ?k;(case a=>k_is);(case l=>k_is);(case c=>k_is);(case k=>k_is)))
   (case GZ=>(refine' Mi.jz ?a ?l ?c ?k;(case a=>k_is);(case l=>k_is);(case c=>k_is);(case k=>k_is)))
   (case Xw=>(refine' Mi.jz ?a ?l ?c ?k;(case a=>k_is);(case l=>k_is);(case c=>k_is);(case k=>k_is)))
   (case G7=>(refine' Mi.jz ?a ?l ?c ?k;(case a=>k_is);(case l=>k_is);(case c=>k_is);(case k=>k_is)))
   (case Gr=>(refine' Mi.jz ?a ?l ?c ?k;(case a=>k_is);(case l=>k_is);(case c=>k_is);(case k=>k_is)))
   (case WR=>(refine' Mi.jz ?a ?l ?c ?k;(case a=>k_is);(case l=>k_is);(case c=>k_is);(case k=>k_is)))
   (case Ua=>(refine' Mi.jz ?a ?l ?c ?k;(case a=>k_is);(case l=>k_is);(case c=>k_is);(case k=>k_is)))
   (case G1=>k_is)
   (case V7=>k_is)
   (case VG=>k_is)
   (case VD=>k_is)
   (case Xf=>k_is)
   (case V6=>k_is)
   (case G5=>k_is)
   (case V0=>k_is)
   (case Vt=>k_is)
   (case VO=>k_is)
   (case VX=>k_is)
   (case Vo=>k_is)
   (case V9=>k_is)
   (case XO=>k_is)
   (case VJ=>k_is)
   (case Vl=>k_is)
   (case VZ=>k_is)
   (case Gw=>(refine' Mi.D2 ?a;(case a=>k_is)))
   (case V3=>kernel_rfl)
   (case VQ=>kernel_rfl)
   (case VY=>kernel_rfl)
  exact G.all_mk KX Gl hmg T ht
