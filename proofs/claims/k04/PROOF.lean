import PyProof.Rows.All
import Wide.All
import OpenK.AllK
import Wide.FinOn
import Lean
import PyProof.EqAt
import PyProof.EqKinds
import PyProof.TupleCall
import OpenK.KOwn
import PyProof.Rows.FStr
import PyProof.FString
import PyProof.NsDelKeeps
import KE.KIsAll
import PyProof.ExcArgs
import KE.KLam
import KE.KNestM
import PyProof.Rows.SetFrom
import PyProof.ListMulRoad
import PyProof.FactsAll.set_1
import PyProof.FactsAll.set_2
import PyProof.CollectIter
import PyProof.TupleIter
import PyProof.CollectWalk
import PyProof.Rows.SortShell
import PyProof.SumAny
import PyProof.ListOps
import KE.KDictList
import PyProof.NoPylong
import KE.KUnpack
import PySem.Challenge.RW_nearkinds_k04_numbers_of_steady_tables
open PySem.W (Frag)
open List (all_eq_true any_cons append_assoc append_nil countP_cons drop_length ext_getElem ext_getElem? filterMap_cons find?_cons flatten_cons forIn_cons forIn_nil getD_eq_getElem?_getD getElem?_append_left getElem?_append_right getElem?_eq_getElem getElem?_eq_none getElem?_map getElem?_range getElem?_replicate getElem?_set_ne getElem?_set_self getElem_inj getElem_mem getElem_of_mem length_append length_cons length_map length_nil length_range length_replicate length_set length_singleton length_take lookup_cons map_append map_congr_left map_cons map_id map_map map_nil mem_append_right mem_cons mem_cons_of_mem mem_cons_self mem_filter mem_of_getElem? nil_append not_mem_nil of_mem_zip range'_succ range_eq_range' range_succ replicate_succ set_append_right size_toArray)
open Nat (le_add_right le_of_eq le_of_lt le_refl le_succ le_trans lt_irrefl lt_of_lt_of_le lt_succ_of_lt lt_succ_self lt_trans ne_of_gt ne_of_lt not_lt_zero sub_self zero_le)
open Int (emod_lt_of_pos emod_nonneg eq_ofNat_of_zero_le toNat_natCast zero_add)
open Bool (and_eq_true false_eq_true or_eq_true)
open Option (any_eq_true isSome_some)
open Array (getElem?_toList length_toList)
open PySem.W (CodeHd callWith_K cellsFrom_some codeHdIn codeHd_of_K codeIn envX fnOf hideAll hideAll_get hideAll_none hideAll_size instObj keepIn kia_one kitAny kitOne kitx_bool kitx_dict kitx_float kitx_int kitx_list kitx_none kitx_str kitx_tuple kla_fn kla_obj lookIn methodObj mg_none_of mg_of nsIn of_hideAll plainGet tabIn tabObj)
open PySem.F (args_tuple_add_2 entry_tuple_add plain_sum_loop slot_set_iter slot_tuple_add)
open PySem.Heap (get?_push_of_some get?_push_size get?_update_other get?_update_self lt_size size_push)
abbrev qa0:=@PySem.wpAny_bind
abbrev qa1:=@PySem.wpAny_pure
abbrev qa2:=@List.getElem?_eq_some_iff
abbrev qa3:=@List.mem_cons
abbrev qa4:=@List.all_eq_true
abbrev qa5:=@List.mem_range
abbrev qa6:=@List.mem_map
abbrev qa7:=@List.mem_singleton
set_option Elab.async false
set_option linter.all false
set_option maxRecDepth 1000000
set_option maxHeartbeats 4000000
variable {XP:(PySem.Str->Option PySem.Value)->PySem.Heap->Prop}{D Pt a b c f:PySem.Addr}{osl:Array (Option PySem.Value)}{led:Bool}{op:PySem.CmpOp}{env:PySem.Env}{e elt iter tg:PySem.Expr}{fd:PySem.FuncData}{base h:PySem.Heap}{pins:List (PySem.Addr × PySem.Obj)}{es:List (Int × PySem.Value)}{t:List (List Int)}{cells:List (PySem.Str × PySem.Addr)}{fp φ:List PySem.Addr}{gens gs:List PySem.Comprehension}{elts ifs:List PySem.Expr}{ns:List Int}{cap:List Nat}{body:List PySem.Stmt}{N ps:List PySem.Str}{its us:List PySem.Value}{M:PySem.Model}{i j kk n t':Nat}{μ:Nat->Nat->Int}{apos cpos p pos tpos:PySem.Pos}{P:PySem.Program}{sc scope:PySem.Scope}{s s':PySem.Shared}{qual x:PySem.Str}{mg:PySem.Str->Option PySem.Value}{α:Type}{u:PySem.Value}{E Q:PySem.Value->PySem.Shared->Prop}{w:PySem.World}
namespace L2
open PySem PySem.Spec PyProof.Rows
noncomputable abbrev Key:=Sum Int Str
noncomputable def QC:Key->Value->Bool
 | .inl k,v=>Value.isInt k v
 | .inr x,v=>Value.isStrOf x v
noncomputable def Aw (w:World):Key->Int
 | .inl k=>hashInt k
 | .inr x=>hashStr w x
theorem gL:∀{k:Key} {v:Value},QC k v=true->(∃i t,k=Sum.inl i/\v=Value.int i t)∨(∃x t,k=Sum.inr x/\v=Value.str x t)
 | .inl i,v,h=>by
  obtain ⟨t,e⟩:=Value.isInt_shape (k:=i) (v:=v) h;exact .inl ⟨i,t,rfl,e⟩
 | .inr x,v,h=>by
  obtain ⟨t,e⟩:=Value.isStrOf_shape (x:=x) (v:=v) h;exact .inr ⟨x,t,rfl,e⟩
theorem L4 (i:Int)(t:Tok):QC (.inl i) (.int i t)=true:=by simp [QC,Value.isInt]
theorem Lf (x:Str)(t:Tok):QC (.inr x) (.str x t)=true:=by simp [QC,Value.isStrOf]
theorem DX (a b:Int):decide ((Sum.inl a:Key)=Sum.inl b)=(a==b):=by
 by_cases e:a=b
 ·subst e;simp
 ·have h:¬(Sum.inl a:Key)=Sum.inl b:=λ q=>e (Sum.inl.inj q)
  rw [decide_eq_false h];exact (beq_eq_false_iff_ne.mpr e).symm
theorem D8 (a b:Str):decide ((Sum.inr a:Key)=Sum.inr b)=decide (a=b):=by
 by_cases e:a=b
 ·subst e;simp
 ·have h:¬(Sum.inr a:Key)=Sum.inr b:=λ q=>e (Sum.inr.inj q)
  rw [decide_eq_false h,decide_eq_false e]
theorem CF (a:Int)(b:Str):decide ((Sum.inl a:Key)=Sum.inr b)=false:=decide_eq_false (λ q=>nomatch q)
theorem Du (a:Str)(b:Int):decide ((Sum.inr a:Key)=Sum.inl b)=false:=decide_eq_false (λ q=>nomatch q)
noncomputable def yN (prog:Program)(w:World):PySem.KeyKind prog w Key where
 is:=QC
 hash:=Aw w
 inj:=λ v a b ha hb=>by
  rcases gL ha with ⟨i,t,rfl,rfl⟩ | ⟨x,t,rfl,rfl⟩
  ·rcases gL hb with ⟨j,u,rfl,e⟩ | ⟨y,u,rfl,e⟩
   ·injection e with e1 _;rw [e1]
   ·exact nomatch e
  ·rcases gL hb with ⟨j,u,rfl,e⟩ | ⟨y,u,rfl,e⟩
   ·exact nomatch e
   ·injection e with e1 _;rw [e1]
 byValue:=λ k v h=>by
  rcases gL h with ⟨i,t,rfl,rfl⟩ | ⟨x,t,rfl,rfl⟩<;>rfl
 pyHash:=λ hv h=>by
  rcases gL hv with ⟨i,t,rfl,rfl⟩ | ⟨x,t,rfl,rfl⟩
  ·exact wpAny_pyHash_int h
  ·exact wpAny_pyHash_str h
 eqBool:=λ hu hv h=>by
  rcases gL hu with ⟨i,t,rfl,rfl⟩ | ⟨x,t,rfl,rfl⟩
  ·rcases gL hv with ⟨j,u,rfl,rfl⟩ | ⟨y,u,rfl,rfl⟩
   ·rw [DX] at h;exact wpAny_eqBool_int h
   ·rw [CF] at h;exact SeqAt.EqAt.int_str i t y u _ _ _ _ h
  ·rcases gL hv with ⟨j,u,rfl,rfl⟩ | ⟨y,u,rfl,rfl⟩
   ·rw [Du] at h;exact SeqAt.EqAt.str_int x t j u _ _ _ _ h
   ·rw [D8] at h;exact wpAny_eqBool_str h
 «strs»:=λ k x t v h=>by
  rcases gL h with ⟨i,u,rfl,e⟩ | ⟨y,u,rfl,e⟩
  ·exact nomatch e
  ·injection e with e1 _
   subst e1;cases v<;>rfl
theorem MH (prog:Program)(w:World)(k:Key)(v:Value):(yN prog w).is k v=QC k v:=rfl
theorem Mo (prog:Program)(w:World)(i:Int)(t:Tok):(yN prog w).is (.inl i) (.int i t)=true:=L4 i t
theorem Mg (prog:Program)(w:World)(x:Str)(t:Tok):(yN prog w).is (.inr x) (.str x t)=true:=Lf x t
inductive V where
 | non | bl (b:Bool) | int (i:Int) | str (x:Str) | byt (b:Array UInt8) | flt (b:UInt64) | ref (a:Addr) | ty (n:String)
 deriving DecidableEq
noncomputable def RelV:V->Value->Prop
 | .non,u=>u=Value.none
 | .bl b,u=>u=Value.bool b
 | .int i,u=>∃t,u=Value.int i t
 | .str x,u=>∃t,u=Value.str x t
 | .byt b,u=>∃t,u=Value.bytes b t
 | .flt b,u=>∃t,u=Value.float b t
 | .ref a,u=>u=Value.ref a
 | .ty n,u=>u=Value.type n
noncomputable abbrev Vals:List V->List Value->Prop:=Paired RelV
theorem Vals.length {xs:List V}(r:Vals xs us):xs.length=us.length:=Paired.length r
theorem Vals.get:∀{xs:List V} {us:List Value} {i:Nat} {x:V},Vals xs us->xs[i]? =some x->∃u,us[i]? =some u/\RelV x u
 | _,_,_,_,.nil,e=>by simp at e
 | _,_,0,_,.cons r _,e=>by simp at e;subst e;exact ⟨_,rfl,r⟩
 | _,_,i+1,x,.cons _ t,e=>by
  obtain ⟨u,h1,h2⟩:=Vals.get (i:=i) (x:=x) t (by simpa using e)
  exact ⟨u,by simpa using h1,h2⟩
theorem Vals.set {x:V}(r:RelV x u):∀{xs:List V} {us:List Value} (i:Nat),Vals xs us->Vals (xs.set i x) (us.set i u)
 | _,_,_,.nil=>.nil
 | _,_,0,.cons _ t=>.cons r t
 | _,_,i+1,.cons q t=>.cons q (Vals.set r i t)
theorem Vals.append:∀{xs ys:List V} {us ws:List Value},Vals xs us->Vals ys ws->Vals (xs++ys) (us++ws)
 | _,_,_,_,.nil,s=>s
 | _,_,_,_,.cons r t,s=>.cons r (Vals.append t s)
theorem Vals.none_of:∀{xs:List V} {us:List Value} {i:Nat},Vals xs us->xs[i]? =none->us[i]? =none:=λ {xs us i} r e=>by
 have h1:=r.length;have h2:xs.length<=i:=List.getElem?_eq_none_iff.mp e;exact List.getElem?_eq_none_iff.mpr (by omega)
noncomputable def ZD:Option V->Option Value->Prop
 | some v,some u=>RelV v u
 | none,none=>True
 | _,_=>False
noncomputable def KV {κ:Type}:List (κ × V)->List (κ × Value)->Prop:=Paired λ (p:κ × V) (q:κ × Value)=>p.1=q.1/\RelV p.2 q.2
noncomputable def kV:Key->V
 | .inl i=>.int i
 | .inr x=>.str x
inductive HO where
 | lst (xs:List V)
 | tup (xs:List V)
 | dK (kvs:List (Key × V)) | dT (kvs:List (List Key × V))
 | set (S:Int->Bool) (n:Nat)
 | ins (C dx:Addr) (fs:List (Str × V))
 | own (x:Addr)
 | xd (fs:List (Str × V))
 | met (f x:Addr)
 | rng (lo hi:Int)
 | frz (o:Obj) (u:HO)
 | tbl (ps:Array Value)
 | ext (φ:Heap->Prop)
noncomputable abbrev Hp:=Addr->Option HO
noncomputable def upd (H:Hp)(a:Addr)(o:HO):Hp:=λ b=>if b=a then some o else H b
theorem jo {H:Hp}{o:HO}:upd H a o a=some o:=by unfold upd;rw [if_pos rfl]
theorem qf {H:Hp}{o:HO}(h:b≠a):upd H a o b=H b:=by unfold upd;rw [if_neg h]
theorem JE {H:Hp}{o u:HO}(h:H a=some o)(h':H b=some u)(d:o≠u):a≠b:=by
 intro e;subst e;rw [h] at h';exact d (Option.some.inj h')
theorem yU {H:Hp}{o:HO}(h:H a=some o)(h':H b=none):a≠b:=by
 intro e;subst e;rw [h] at h';cases h'
noncomputable def Qw (h:Heap)(a:Addr)(items:Array Value):Prop:=∃o,h.get? a=some o/\(o.cls=.type "tuple" /\ o.dict=none)/\∃n,o.data=.seq items n
theorem Qw.tup {h:Heap}{a:Addr}{items:Array Value}(x:Qw h a items):IsTup h a items:=let ⟨o,e,c,d⟩:=x;⟨o,e,c.1,d⟩
theorem Qw.new (h:Heap)(items:Array Value):Qw (h.push { cls:=.type "tuple",data:=.seq items }) h.objs.size items:=⟨_,get?_push_size h rfl,⟨rfl,rfl⟩,0,rfl⟩
section
variable (P:Program)(w:World)
noncomputable def qQ (H:Hp)(h:Heap)(a:Addr):HO->Prop
 | .lst xs=>xs.length<=sizeLine/\∃(its:List Value) (n:Nat),Vals xs its/\h.get? a=some { cls:=.type "list",data:=.seq its.toArray n }
 | .tup xs=>xs.length<=sizeLine/\∃its:List Value,Vals xs its/\Qw h a its.toArray
 | .dK kvs=>kvs.length<=sizeLine/\(a==sysModules)=false/\∃vs,KV kvs vs/\h.DictOf (yN P w) a vs
 | .dT kvs=>kvs.length<=sizeLine/\(a==sysModules)=false/\∃xs:List (List Key × Addr × Value),
   Paired (λ (p:List Key × V) (q:List Key × Addr × Value)=>p.1=q.1/\H q.2.1=some (.tup (p.1.map kV))/\RelV p.2 q.2.2) kvs xs/\
   ∃o es ep,h.get? a=some o/\o.ExactDict/\o.data=.dict es ep/\es.toList=xs.map (entryOfKey (tupleKind (yN P w)))/\(xs.map (·.1)).Nodup
 | .set S n=>h.SetOf (intKind P w) a S n
 | .ins C dx fs=>H dx=some (.own a)/\fs.length<=1000/\dx≠a/\h.get? a=some (instObj C dx)/\
   ∃mA,h.Ns1 dx mA/\(∀f,ZD (fs.lookup f) (mA f))/\PySem.Within mA (fs.map (·.1))
 | .own _=>∃o,h.get? a=some o
 | .xd fs=>∃mA,h.Ns1 a mA/\∀f,ZD (fs.lookup f) (mA f)
 | .rng lo hi=>∃t u v,h.get? a=some { cls:=.type "range",data:=.fields #[.int lo t,.int hi u,.int 1 v] }
 | .frz o u=>h.get? a=some o/\qQ H h a u
 | .tbl ps=>h.get? a=some { cls:=.none,data:=.fields ps }
 | .met f x=>h.get? a=some (methodObj (.ref f) (.ref x))
 | .ext φ=>φ h/\(∃o,h.get? a=some o)/\∀h1 h2:Heap,φ h1->(∀o,h1.get? a=some o->h2.get? a=some o)->φ h2
noncomputable def jD (H:Hp)(h:Heap):Prop:=∀a o,H a=some o->qQ P w H h a o
end
section
variable {H H':Hp}{h':Heap}{o:HO}
theorem qQ.lt (x:qQ P w H h a o):a<h.objs.size:=by
 cases o with
 | lst xs=>obtain ⟨_,_,_,_,e⟩:=x;exact lt_size e
 | tup xs=>obtain ⟨_,_,_,p⟩:=x;exact p.tup.lt
 | dK kvs=>obtain ⟨_,_,_,_,o,_,_,e,_⟩:=x;exact lt_size e
 | dT kvs=>obtain ⟨_,_,_,_,o,_,_,e,_⟩:=x;exact lt_size e
 | set S n=>obtain ⟨o,_,_,_,e,_⟩:=x;exact lt_size e
 | ins C dx fs=>obtain ⟨_,_,_,e,_⟩:=x;exact lt_size e
 | own y=>obtain ⟨_,e⟩:=x;exact lt_size e
 | xd fs=>obtain ⟨_,⟨_,_,_,e,_⟩,_⟩:=x;exact lt_size e
 | rng lo hi=>obtain ⟨_,_,_,e⟩:=x;exact lt_size e
 | frz ob u=>obtain ⟨e,_⟩:=x;exact lt_size e
 | tbl ps=>exact lt_size (show h.get? a=some _ from x)
 | met f y=>exact lt_size (show h.get? a=some _ from x)
 | ext φ=>obtain ⟨_,⟨_,e⟩,_⟩:=x;exact lt_size e
theorem Paired.mapP {β:Type}{F G:α->β->Prop}:∀{l₁:List α} {l₂:List β},Paired F l₁ l₂->(∀a b,F a b->G a b)->Paired G l₁ l₂
 | _,_,.nil,_=>.nil
 | _,_,.cons r t,f=>.cons (f _ _ r) (Paired.mapP t f)
theorem qQ.stay (x:qQ P w H h a o)(k:∀b u,(b=a∨H b=some (.own a))->h.get? b=some u->h'.get? b=some u)
  (ho:∀b,H b=some (.own a)->H' b=some (.own a))(ht:∀b xs,H b=some (.tup xs)->H' b=some (.tup xs)):qQ P w H' h' a o:=by
 induction o with
 | lst xs=>obtain ⟨z,its,n,r,e⟩:=x;exact ⟨z,its,n,r,k _ _ (.inl rfl) e⟩
 | tup xs=>obtain ⟨z,its,r,ob,e,c⟩:=x;exact ⟨z,its,r,ob,k _ _ (.inl rfl) e,c⟩
 | dK kvs=>obtain ⟨z,y,vs,r,ob,es,ep,e,c⟩:=x;exact ⟨z,y,vs,r,ob,es,ep,k _ _ (.inl rfl) e,c⟩
 | dT kvs=>
  obtain ⟨z,y,xs,r,ob,es,ep,e,c⟩:=x;exact ⟨z,y,xs,Paired.mapP r λ p q z=>⟨z.1,ht _ _ z.2.1,z.2.2⟩,ob,es,ep,k _ _ (.inl rfl) e,c⟩
 | set S n=>obtain ⟨ob,es,ep,t,e,c⟩:=x;exact ⟨ob,es,ep,t,k _ _ (.inl rfl) e,c⟩
 | ins C dx fs=>
  obtain ⟨d,z,ne,e,mA,⟨od,es,ep,e2,c⟩,r⟩:=x;exact ⟨ho _ d,z,ne,k _ _ (.inl rfl) e,mA,⟨od,es,ep,k _ _ (.inr d) e2,c⟩,r⟩
 | own y=>obtain ⟨ob,e⟩:=x;exact ⟨ob,k _ _ (.inl rfl) e⟩
 | xd fs=>obtain ⟨mA,⟨od,es,ep,e,c⟩,r⟩:=x;exact ⟨mA,⟨od,es,ep,k _ _ (.inl rfl) e,c⟩,r⟩
 | rng lo hi=>obtain ⟨t,u,v,e⟩:=x;exact ⟨t,u,v,k _ _ (.inl rfl) e⟩
 | frz ob u ih=>obtain ⟨e,q⟩:=x;exact ⟨k _ _ (.inl rfl) e,ih q⟩
 | tbl ps=>
  have e:h.get? a=some { cls:=.none,data:=.fields ps }:=x;show h'.get? a=some { cls:=.none,data:=.fields ps };exact k a _ (.inl rfl) e
 | met f y=>
  have e:h.get? a=some (methodObj (.ref f) (.ref y)):=x;show h'.get? a=some (methodObj (.ref f) (.ref y));exact k a _ (.inl rfl) e
 | ext φ=>obtain ⟨p,⟨o,e⟩,st⟩:=x;exact ⟨st _ _ p λ o q=>k _ _ (.inl rfl) q,⟨o,k _ _ (.inl rfl) e⟩,st⟩
theorem jD.lt (x:jD P w H h)(e:H a=some o):a<h.objs.size:=(x a o e).lt
theorem jD.fresh (x:jD P w H h)(e:h.objs.size<=a):H a=none:=by
 cases q:H a with
 | none=>rfl
 | some u=>exact absurd (lt_of_lt_of_le (x.lt q) e) (lt_irrefl _)
theorem jD.kept (x:jD P w H h)(k:∀b u,h.get? b=some u->h'.get? b=some u):jD P w H h':=λ a o e=>
 (x a o e).stay (λ b u _ q=>k b u q) (λ _ q=>q) λ _ _ q=>q
theorem jD.laid (x:jD P w H h)(k:∀b u,h.get? b=some u->h'.get? b=some u)(hp:h.objs.size<=a)(new:qQ P w (upd H a o) h' a o):jD P w (upd H a o) h':=λ b u e=>by
 have hn:=x.fresh hp
 by_cases hb:b=a
 ·subst hb;rw [jo] at e;cases e;exact new
 ·rw [qf hb] at e
  exact (x b u e).stay (λ c v _ q=>k c v q) (λ c q=>by rw [qf (yU q hn)];exact q) λ c xs q=>by rw [qf (yU q hn)];exact q
end
noncomputable def Rd (H:Hp)(a:Addr)(u:HO):Prop:=H a=some u∨∃o,H a=some (.frz o u)
theorem Rd.ok {H:Hp}{u:HO}(r:Rd H a u)(x:jD P w H h):qQ P w H h a u:=by
 rcases r with r | ⟨o,r⟩
 ·exact x a u r
 ·obtain ⟨_,q⟩:=x a _ r
  exact q
noncomputable def YX:Option HO->Prop
 | some (.lst _)=>True
 | some (.dK _)=>True
 | some (.dT _)=>True
 | some (.set _ _)=>True
 | some (.ins _ _ _)=>True
 | some (.ext _)=>True
 | _=>False
section
variable {H:Hp}{h':Heap}{x e:Addr}{o':HO}
theorem jD.write (ok:jD P w H h)(mu:YX (H x))(he:e=x∨H e=some (.own x))(k:∀b u,b≠e->h.get? b=some u->h'.get? b=some u)(heo:∃u,h'.get? e=some u)
  (new:qQ P w (upd H x o') h' x o'):jD P w (upd H x o') h':=λ b u q=>by
 have nown:∀c y,H c=some (.own y)->c≠x:=λ c y r z=>by subst z;rw [r] at mu;exact mu
 have ntup:∀c xs,H c=some (.tup xs)->c≠x:=λ c xs r z=>by subst z;rw [r] at mu;exact mu
 by_cases hb:b=x
 ·subst hb;rw [jo] at q;cases q;exact new
 ·rw [qf hb] at q
  by_cases hbe:b=e
  ·have q':H b=some (.own x):=by
    rcases he with z | z
    ·exact absurd (hbe.trans z) hb
    ·rw [hbe];exact z
   rw [q] at q';cases q';obtain ⟨v,hv⟩:=heo;exact ⟨v,by rw [hbe];exact hv⟩
  ·refine (ok b u q).stay (λ c v hc r=>k c v ?_ r) (λ c r=>by rw [qf (nown c b r)];exact r) λ c xs r=>by rw [qf (ntup c xs r)];exact r
   rcases hc with rfl | hc
   ·exact hbe
   ·rintro rfl
    rcases he with z | z
    ·exact nown c b hc z
    ·rw [hc] at z;cases z;exact hb rfl
end
structure Un (fs ex:List Addr)(H H':Hp)(h h':Heap):Prop where
 keep:∀b o,h.get? b=some o->H b=none->b∉fs->b∉ex->h'.get? b=some o
 slot:∀b o,h.get? b=some o->H b=none->b∈fs->b∉ex->∃sl,h'.get? b=some { o with slots:=sl }
 free:∀b o,h.get? b=some o->H b=none->b∉ex->H' b=none
 there:∀b o,h.get? b=some o->b∉ex->∃o',h'.get? b=some o'
 tups:∀b xs,H b=some (.tup xs)->H' b=some (.tup xs)
 frzs:∀b o u,H b=some (.frz o u)->H' b=some (.frz o u)
 tbls:∀b ps,H b=some (.tbl ps)->∃more,H' b=some (.tbl (ps++more))
section
variable {fs ex:List Addr}{H H1:Hp}{h1 h':Heap}{x e:Addr}{o:HO}
theorem Un.any (u:Un fs ex H H1 h h1){ob:Obj}(q:h.get? b=some ob)(n:H b=none)(hx:b∉ex):∃sl,h1.get? b=some { ob with slots:=sl }:=by
 by_cases hb:b∈fs
 ·exact u.slot b ob q n hb hx
 ·exact ⟨ob.slots,u.keep b ob q n hb hx⟩
theorem Un.kept (k:∀b u,h.get? b=some u->h'.get? b=some u):Un fs ex H H h h':=
 ⟨λ b ob q _ _ _=>k b ob q,λ b ob q _ _ _=>⟨ob.slots,k b ob q⟩,λ _ _ _ n _=>n,λ b ob q _=>⟨ob,k b ob q⟩,λ _ _ q=>q,λ _ _ _ q=>q,λ _ ps q=>⟨#[],by rw [q];simp⟩⟩
theorem Un.refl:Un fs ex H H h h:=Un.kept λ _ _ q=>q
theorem Un.laid (k:∀b u,h.get? b=some u->h'.get? b=some u)(hp:h.objs.size<=a)(hn:H a=none):Un fs ex H (upd H a o) h h' where
 keep:=λ b u q _ _ _=>k b u q
 slot:=λ b u q _ _ _=>⟨u.slots,k b u q⟩
 free:=λ b u q n _=>by rw [qf (ne_of_lt (lt_of_lt_of_le (lt_size q) hp))];exact n
 there:=λ b u q _=>⟨u,k b u q⟩
 tups:=λ b xs q=>by rw [qf (yU q hn)];exact q
 frzs:=λ b u xs q=>by rw [qf (yU q hn)];exact q
 tbls:=λ b ps q=>⟨#[],by rw [qf (yU q hn),q];simp⟩
theorem Un.write (mu:YX (H x))(he:e=x∨H e=some (.own x))(k:∀b u,b≠e->h.get? b=some u->h'.get? b=some u)(heo:∃u,h'.get? e=some u):Un fs ex H (upd H x o) h h':=by
 have hx:∀b,H b=none->b≠x:=λ b n z=>by subst z;rw [n] at mu;exact mu
 have hb:∀b,H b=none->b≠e:=λ b n z=>by
  subst z;rcases he with r | r
  ·exact hx b n r
  ·rw [n] at r;cases r
 have hm:∀b u,H b=some u->¬YX (some u)->b≠x:=λ b u q nm z=>by subst z;rw [q] at mu;exact nm mu
 refine ⟨λ b u q n _ _=>k b u (hb b n) q,λ b u q n _ _=>⟨u.slots,k b u (hb b n) q⟩,λ b u q n _=>by rw [qf (hx b n)];exact n,λ b u q _=>?_,
  λ b xs q=>by rw [qf (hm b _ q λ z=>z)];exact q,λ b u xs q=>by rw [qf (hm b _ q λ z=>z)];exact q,λ b ps q=>⟨#[],by rw [qf (hm b _ q λ z=>z),q];simp⟩⟩
 by_cases hbe:b=e
 ·subst hbe;exact heo
 ·exact ⟨u,k b u hbe q⟩
end
noncomputable def WZ (h:Heap)(H:Hp):List Addr:=(List.range h.objs.size).filter λ a=>(H a).isSome
noncomputable def g7 (h:Heap)(H:Hp):Heap:=hideAll h (WZ h H)
theorem LY (h:Heap)(H:Hp):(g7 h H).objs.size=h.objs.size:=hideAll_size _ _
theorem Ha {H:Hp}{o:Obj}(e:h.get? b=some o)(n:H b=none):(g7 h H).get? b=some o:=
 hideAll_get _ e λ hm=>by
  have q:(H b).isSome=true:=(List.mem_filter.mp hm).2;rw [n] at q;simp at q
theorem EF {H:Hp}{o:Obj}(e:(g7 h H).get? b=some o):h.get? b=some o/\H b=none:=by
 have e':h.get? b=some o:=of_hideAll (WZ h H) e;refine ⟨e',?_⟩;cases q:H b with
 | none=>rfl
 | some x=>
  have hm:b∈WZ h H:=List.mem_filter.mpr ⟨qa5.mpr (lt_size e'),by simp [q]⟩
  have z:(g7 h H).get? b=none:=hideAll_none (WZ h H) hm;rw [z] at e;cases e
structure Mod (K:Frag)(mg:Str->Option Value)(base:Heap):Prop where
 kin:K.In base
 glob:base.Ns mainGlobals mg
 blt:∃mb,base.Ns builtinsNs mb/\∀x:Str,x ≠ "__name__" -> mb x=bootBuiltins x
 nolimit:base.NoLimit
structure Cx where
 prog:Program
 w:World
 K:Frag
 mg:Str->Option Value
 base:Heap
 A:Around
 N:List Str
 s0:Shared
 H0:Hp
 env:Env
 outer:List Env
 stack:List Env
 ex:List Addr
 fn:Str->Bool
 calm:Bool
 pn:List (Addr × Obj)
 xe:Value->Shared->Prop
noncomputable def qp (l:List Env):List Addr:=l.filterMap (·.frame)
noncomputable abbrev Cx.fs (X:Cx):List Addr:=qp X.outer
noncomputable def JR (sc:Scope)(x:Str):Prop:=sc.names.lookup x=some .local∨sc.names.lookup x=some .cell∨sc.names.lookup x=some .free
noncomputable def Loc (sc:Scope)(x:Str):Prop:=sc.names.lookup x=some .local∨sc.names.lookup x=some .cell
noncomputable def Look (env:Env)(h:Heap)(m:Str->Option Value)(x:Str)(u:Value):Prop:=
 (env.kindOf x=some .local/\m x=some u)∨((env.kindOf x=some .cell∨env.kindOf x=some .free)/\∃c,env.cells.lookup x=some c/\h.IsCell c (some u))
structure Cx.Ok (X:Cx):Prop where
 mod:Mod X.K X.mg X.base
 kind:X.env.scope.kind=.function
 glob:X.env.globals=mainGlobals
 blt:X.env.builtins=builtinsNs
 above:X.s0.heap.objs.size<=X.env.locals
 inj:∀x y c,X.env.cells.lookup x=some c->X.env.cells.lookup y=some c->x=y
 has:∀x,(X.env.kindOf x=some .cell∨X.env.kindOf x=some .free)->∃c,X.env.cells.lookup x=some c
 cab:∀x c,X.fn x=true->X.env.cells.lookup x=some c->X.s0.heap.objs.size<=c
 hd:X.calm=true->X.A.handled=none
 frames:X.A.frames=some X.stack
 stk:X.stack=X.outer∨(X.stack=X.env::X.outer/\X.env.frame=some X.env.locals)
 exf:∀b∈X.ex,b≠X.env.locals/\∀x c,X.env.cells.lookup x=some c->c≠b
 bs:∀b o,X.base.get? b=some o->X.s0.heap.get? b=some o/\X.H0 b=none
 bsz:X.base.objs.size<=X.s0.heap.objs.size
 noex:∀b o,X.base.get? b=some o->b∉X.ex
 exfs:∀b∈X.ex,b∉X.fs
 funs:X.s0.heap.FunFrames X.base X.outer
 frf:∀b∈X.fs,X.H0 b=none
structure Inv (X:Cx)(pins:List (Addr × Obj))(σ:List (Option V))(H:Hp)(s:Shared):Prop where
 ok:X.Ok
 os:s.os=X.s0.os
 bare:AllBare s.gens
 base:Un X.fs X.ex X.H0 H X.s0.heap s.heap
 loc:∃m,s.heap.Ns X.env.locals m/\∀(i:Nat) (x:Str) (v:V),X.N[i]? =some x->σ[i]? =some (some v)->JR X.env.scope x->∃u,RelV v u/\Look X.env s.heap m x u
 cell:∀x c,X.env.cells.lookup x=some c->∃v,s.heap.IsCell c v
 free:H X.env.locals=none
 freeC:∀x c,X.env.cells.lookup x=some c->H c=none
 pin:∀p∈X.pn++pins,s.heap.get? p.1=some p.2/\H p.1=none/\p.1≠X.env.locals/\p.1∉X.fs/\∀v,p.2.data≠.cell v
 hok:jD X.prog X.w H s.heap
 len:σ.length=X.N.length
section
variable {X:Cx}{σ:List (Option V)}{H H':Hp}{h':Heap}
theorem Cx.Ok.nofr (ok:X.Ok){o:Obj}(e:X.base.get? b=some o):b∉X.fs:=λ hb=>by
 have:=(ok.funs.mem hb).1
 rw [e] at this;cases this
theorem Inv.bs (I:Inv X pins σ H s):∀b o,X.base.get? b=some o->s.heap.get? b=some o/\H b=none:=λ b o e=>
 ⟨I.base.keep b o (I.ok.bs b o e).1 (I.ok.bs b o e).2 (I.ok.nofr e) (I.ok.noex b o e),I.base.free b o (I.ok.bs b o e).1 (I.ok.bs b o e).2 (I.ok.noex b o e)⟩
theorem Inv.bk (I:Inv X pins σ H s):∀b o,X.base.get? b=some o->s.heap.get? b=some o:=λ b o e=>(I.bs b o e).1
theorem Inv.mod (I:Inv X pins σ H s):Mod X.K X.mg X.base:=I.ok.mod
theorem Inv.kIn (I:Inv X pins σ H s):X.K.In s.heap:=I.ok.mod.kin.keeps I.bk
theorem Inv.lt (I:Inv X pins σ H s):X.env.locals<s.heap.objs.size:=let ⟨_,hn,_⟩:=I.loc;hn.lt
theorem Inv.sz (I:Inv X pins σ H s):X.s0.heap.objs.size<=s.heap.objs.size:=le_trans I.ok.above (le_of_lt I.lt)
theorem Inv.nofs (I:Inv X pins σ H s)(h:s.heap.objs.size<=a):a∉X.fs:=λ hb=>by
 obtain ⟨_,o,ho,_⟩:=I.ok.funs.mem hb;exact absurd (lt_of_lt_of_le (lt_size ho) (le_trans I.sz h)) (lt_irrefl _)
theorem Inv.cne (I:Inv X pins σ H s):∀x c,X.env.cells.lookup x=some c->c≠X.env.locals:=λ x c e z=>by
 obtain ⟨v,o,ho,hd⟩:=I.cell x c e;obtain ⟨m,⟨o',es,ep,ho',hd',_⟩,_⟩:=I.loc;rw [z,ho'] at ho;cases ho;rw [hd'] at hd;cases hd
theorem Inv.funs (I:Inv X pins σ H s):s.heap.FunFrames X.base X.outer:=by
 have all:∀(l:List Env),(∀b∈qp l,b∈X.fs)->X.s0.heap.FunFrames X.base l->s.heap.FunFrames X.base l:=by
  intro l
  induction l with
  | nil=>intro _ _;trivial
  | cons env r ih=>
   intro hs hl;obtain ⟨hk,⟨L,o,hf,hn,ho,hd⟩,hr⟩:=hl;have hL:L∈X.fs:=hs L (by unfold qp;rw [filterMap_cons,hf];exact mem_cons_self)
   obtain ⟨sl,e⟩:=I.base.slot L o ho (I.ok.frf L hL) hL λ z=>I.ok.exfs L z hL;exact ⟨hk,⟨L,_,hf,hn,e,hd⟩,ih (λ b hb=>hs b (by unfold qp;rw [filterMap_cons,hf];exact mem_cons_of_mem _ hb)) hr⟩
 exact all X.outer (λ _ hb=>hb) I.ok.funs
theorem Inv.stack (I:Inv X pins σ H s):s.heap.FunFrames X.base X.stack:=by
 rcases I.ok.stk with e | ⟨e,hf⟩
 ·rw [e];exact I.funs
 ·rw [e]
  obtain ⟨m,hn,_⟩:=I.loc;refine .cons (by rw [I.ok.kind];decide) hf hn ?_ I.funs
  exact Heap.get?_none_of_le (le_trans I.ok.bsz I.ok.above)
theorem Inv.stkSub (I:Inv X pins σ H s):∀b∈qp X.stack,b∈X.env.locals::X.fs:=λ b hb=>by
 rcases I.ok.stk with e | ⟨e,hf⟩
 ·rw [e] at hb;exact mem_cons_of_mem _ hb
 ·rw [e] at hb
  unfold qp at hb;rw [filterMap_cons,hf] at hb;exact hb
theorem Inv.stkFree (I:Inv X pins σ H s):∀b∈qp X.stack,H b=none:=λ b hb=>by
 rcases qa3.mp (I.stkSub b hb) with e | hb
 ·rw [e];exact I.free
 ·obtain ⟨_,o,ho,_⟩:=I.ok.funs.mem hb
  exact I.base.free b o ho (I.ok.frf b hb) λ z=>I.ok.exfs b z hb
theorem Inv.step {g':Array GenState}{d':Drawn}{ch:List Addr}(I:Inv X pins σ H s)
  (hch:∀b∈ch,(b∈X.ex∨X.s0.heap.objs.size<=b)/\b≠X.env.locals/\(∀x c,X.env.cells.lookup x=some c->c≠b)/\∀p∈X.pn++pins,p.1≠b)
  (keep:∀b o,b≠X.env.locals->b∉X.fs->b∉ch->s.heap.get? b=some o->H b=none->h'.get? b=some o)
  (slot:∀b o,b≠X.env.locals->b∈X.fs->b∉ch->s.heap.get? b=some o->H b=none->∃sl,h'.get? b=some { o with slots:=sl })(free:∀b o,b∉ch->s.heap.get? b=some o->H b=none->H' b=none)
  (there:∀b o,b∉ch->s.heap.get? b=some o->∃o',h'.get? b=some o')
  (tups:∀b xs,H b=some (.tup xs)->H' b=some (.tup xs))(frzs:∀b o u,H b=some (.frz o u)->H' b=some (.frz o u))(tbls:∀b ps,H b=some (.tbl ps)->∃more,H' b=some (.tbl (ps++more)))
  (ns:∀m,s.heap.Ns X.env.locals m->h'.Ns X.env.locals m)(hok:jD X.prog X.w H' h')(hg:AllBare g'):
  Inv X pins σ H' { s with heap:=h',gens:=g',drawn:=d',toks:=t' }:=by
 have JO:∀b o,X.s0.heap.get? b=some o->b≠X.env.locals:=λ b o e=>ne_of_lt (lt_of_lt_of_le (lt_size e) I.ok.above);have neC:∀b o,X.s0.heap.get? b=some o->b∉X.ex->b∉ch:=λ b o e hx hb=>by
  rcases (hch b hb).1 with z | z
  ·exact hx z
  ·exact absurd (lt_of_lt_of_le (lt_size e) z) (lt_irrefl _)
 have cellK:∀x c,X.env.cells.lookup x=some c->∀v,s.heap.IsCell c v->h'.IsCell c v:=λ x c e v ⟨o,ho,hd⟩=>by
  have nch:c∉ch:=λ z=>(hch c z).2.2.1 x c e rfl
  by_cases hc:c∈X.fs
  ·obtain ⟨sl,q⟩:=slot c o (I.cne x c e) hc nch ho (I.freeC x c e)
   exact ⟨_,q,hd⟩
  ·exact ⟨o,keep c o (I.cne x c e) hc nch ho (I.freeC x c e),hd⟩
 refine ⟨I.ok,I.os,hg,⟨λ b o e n hb hx=>?_,λ b o e n hb hx=>?_,λ b o e n hx=>?_,λ b o e hx=>?_,λ b xs e=>tups b xs (I.base.tups b xs e),λ b o xs e=>frzs b o xs (I.base.frzs b o xs e),λ b ps e=>?_⟩,?_,λ x c e=>?_,?_,λ x c e=>?_,λ p hp=>?_,hok,I.len⟩
 ·exact keep b o (JO b o e) hb (neC b o e hx) (I.base.keep b o e n hb hx) (I.base.free b o e n hx)
 ·obtain ⟨sl,e1⟩:=I.base.slot b o e n hb hx
  obtain ⟨sl',e2⟩:=slot b _ (JO b o e) hb (neC b o e hx) e1 (I.base.free b o e n hx);exact ⟨sl',e2⟩
 ·obtain ⟨o',e1⟩:=I.base.there b o e hx
  exact free b o' (neC b o e hx) e1 (I.base.free b o e n hx)
 ·obtain ⟨o',e1⟩:=I.base.there b o e hx
  exact there b o' (neC b o e hx) e1
 ·obtain ⟨m1,e1⟩:=I.base.tbls b ps e
  obtain ⟨m2,e2⟩:=tbls b _ e1;exact ⟨m1++m2,by rw [e2,Array.append_assoc]⟩
 ·obtain ⟨m,hn,hl⟩:=I.loc
  refine ⟨m,ns m hn,λ i x v e1 e2 e3=>?_⟩;obtain ⟨u,r,l⟩:=hl i x v e1 e2 e3;refine ⟨u,r,?_⟩;rcases l with l | ⟨k,c,e,z⟩
  ·exact .inl l
  ·exact .inr ⟨k,c,e,cellK x c e _ z⟩
 ·obtain ⟨v,z⟩:=I.cell x c e
  exact ⟨v,cellK x c e v z⟩
 ·obtain ⟨m,⟨o,_,_,ho,_⟩,_⟩:=I.loc
  exact free _ o (λ z=>(hch _ z).2.1 rfl) ho I.free
 ·obtain ⟨v,o,ho,hd⟩:=I.cell x c e
  exact free c o (λ z=>(hch c z).2.2.1 x c e rfl) ho (I.freeC x c e)
 ·obtain ⟨e,n,ne,nf,d⟩:=I.pin p hp
  have nch:p.1∉ch:=λ z=>(hch p.1 z).2.2.2 p hp rfl;exact ⟨keep p.1 p.2 ne nf nch e n,free p.1 p.2 nch e n,ne,nf,d⟩
theorem Inv.un (I:Inv X pins σ H s)(u:Un X.fs [] H H' s.heap h')(hok:jD X.prog X.w H' h'):Inv X pins σ H' { s with heap:=h',toks:=t' }:=by
 obtain ⟨m,⟨o,es,ep,ho,r⟩,_⟩:=id I.loc;obtain ⟨sl,hL⟩:=u.any ho I.free (by simp)
 exact I.step (g':=s.gens) (d':=s.drawn) (ch:=[]) (λ _ z=>nomatch z) (λ b o _ hb _ e n=>u.keep b o e n hb (by simp)) (λ b o _ hb _ e n=>u.slot b o e n hb (by simp)) (λ b o _ e n=>u.free b o e n (by simp)) (λ b o _ e=>u.there b o e (by simp)) u.tups u.frzs u.tbls (λ m' hm=>by
  obtain ⟨o',es',ep',ho',r'⟩:=hm;rw [ho] at ho';cases ho';exact ⟨_,es',ep',hL,r'⟩) hok I.bare
theorem Inv.call {g':Array GenState}{d':Drawn}{ch:List Addr}(I:Inv X pins σ H s)(u:Un (qp X.stack) ch H H' s.heap h')(hok:jD X.prog X.w H' h')(hg:AllBare g')
  (hch:∀b∈ch,(b∈X.ex∨X.s0.heap.objs.size<=b)/\b≠X.env.locals/\(∀x c,X.env.cells.lookup x=some c->c≠b)/\∀p∈X.pn++pins,p.1≠b):
  Inv X pins σ H' { s with heap:=h',gens:=g',drawn:=d',toks:=t' }:=by
 obtain ⟨m,⟨o,es,ep,ho,r⟩,_⟩:=id I.loc;obtain ⟨sl,hL⟩:=u.any ho I.free λ z=>(hch _ z).2.1 rfl;exact I.step (ch:=ch) hch (λ b o hL hb hc e n=>u.keep b o e n (λ z=>(qa3.mp (I.stkSub b z)).elim hL hb) hc) (λ b o _ _ hc e n=>u.any e n hc) (λ b o hc e n=>u.free b o e n hc) (λ b o hc e=>u.there b o e hc) u.tups u.frzs u.tbls (λ m' hm=>by
  obtain ⟨o',es',ep',ho',r'⟩:=hm;rw [ho] at ho';cases ho';exact ⟨_,es',ep',hL,r'⟩) hok hg
theorem Inv.turned {it:Addr}(I:Inv X pins σ H s)(k:∀b o,b≠it->s.heap.get? b=some o->h'.get? b=some o)(hn:H it=none)(hL:it≠X.env.locals)
  (h1:it∈X.ex∨X.s0.heap.objs.size<=it)(h2:∀x c,X.env.cells.lookup x=some c->c≠it)(h3:∀p∈X.pn++pins,p.1≠it):Inv X pins σ H { s with heap:=h',toks:=t' }:=by
 have nit:∀b u,H b=some u->b≠it:=λ b u e z=>by rw [z,hn] at e;cases e
 refine I.step (g':=s.gens) (d':=s.drawn) (ch:=[it]) (λ b hb=>?_) (λ b o _ _ hc e _=>k b o (λ z=>hc (by simp [z])) e) (λ b o _ _ hc e _=>⟨o.slots,k b o (λ z=>hc (by simp [z])) e⟩) (λ _ _ _ _ n=>n)
  (λ b o hc e=>⟨o,k b o (λ z=>hc (by simp [z])) e⟩) (λ _ _ e=>e) (λ _ _ _ e=>e) (λ b ps e=>⟨#[],by rw [e];simp⟩) (λ m hm=>?_) (λ b u e=>?_) I.bare
 ·have e:b=it:=by simpa using hb
  subst e;exact ⟨h1,hL,h2,h3⟩
 ·obtain ⟨o,es,ep,ho,r⟩:=hm
  exact ⟨o,es,ep,k _ o (Ne.symm hL) ho,r⟩
 ·refine (I.hok b u e).stay (λ c v hc q=>k c v ?_ q) (λ _ q=>q) λ _ _ q=>q
  rcases hc with z | z
  ·rw [z];exact nit b u e
  ·exact nit c _ z
theorem Inv.tok (I:Inv X pins σ H s)(t:Nat):Inv X pins σ H { s with toks:=t }:=I.un (h':=s.heap) (t':=t) Un.refl I.hok
theorem Inv.kept (I:Inv X pins σ H s)(k:∀b u,s.heap.get? b=some u->h'.get? b=some u):Inv X pins σ H { s with heap:=h',toks:=t' }:=I.un (Un.kept k) (I.hok.kept k)
theorem Inv.laid {o:HO}(I:Inv X pins σ H s)(k:∀b u,s.heap.get? b=some u->h'.get? b=some u)(hp:s.heap.objs.size<=a)(new:qQ X.prog X.w (upd H a o) h' a o):
  Inv X pins σ (upd H a o) { s with heap:=h',toks:=t' }:=I.un (Un.laid k hp (I.hok.fresh hp)) (I.hok.laid k hp new)
theorem Inv.write {x e:Addr}{o:HO}(I:Inv X pins σ H s)(mu:YX (H x))(he:e=x∨H e=some (.own x))(k:∀b u,b≠e->s.heap.get? b=some u->h'.get? b=some u)(heo:∃u,h'.get? e=some u)
  (new:qQ X.prog X.w (upd H x o) h' x o):Inv X pins σ (upd H x o) { s with heap:=h',toks:=t' }:=I.un (Un.write mu he k heo) (I.hok.write mu he k heo new)
theorem Inv.pins_of {pins':List (Addr × Obj)}(I:Inv X pins σ H s)(h:∀p∈pins',s.heap.get? p.1=some p.2/\H p.1=none/\p.1≠X.env.locals/\p.1∉X.fs/\∀v,p.2.data≠.cell v):Inv X pins' σ H s:=
 ⟨I.ok,I.os,I.bare,I.base,I.loc,I.cell,I.free,I.freeC,λ p hp=>(List.mem_append.mp hp).elim (λ z=>I.pin p (List.mem_append_left _ z)) (h p),I.hok,I.len⟩
theorem G7 (hN:N.Nodup)(a:N[i]? =some x)(b:N[j]? =some x):i=j:=by
 obtain ⟨h1,e1⟩:=qa2.mp a;obtain ⟨h2,e2⟩:=qa2.mp b;exact (getElem_inj hN).mp (e1.trans e2.symm)
theorem To {A:Around}{v:V}{Q:Unit->Shared->Prop}(I:Inv X pins σ H s)(hN:X.N.Nodup)(hi:X.N[i]? =some x)(hx:Loc X.env.scope x)(r:RelV v u)
  (h:∀s',Inv X pins (σ.set i (some v)) H s'->(∃a,Heap.SameBut a s.heap s'.heap/\(a=X.env.locals∨X.env.cells.lookup x=some a))->Q () s')(hf:X.fn x=true∨X.env.scope.names.lookup x=some .local:=by first | exact .inl rfl | exact .inr rfl | assumption):wpAny M A (storeName X.env x u) Q E s:=by
 obtain ⟨m,hn,hl⟩:=id I.loc;have hcls:(X.env.scope.kind==.class || (X.env.scope.kind==.module&&X.env.locals != X.env.globals))=false:=by rw [I.ok.kind];rfl
 have hiσ:i < σ.length:=by rw [I.len];exact (qa2.mp hi).1
 have cne:=I.cne;have tracked:∀{a:Addr} {h':Heap},(∃o,s.heap.get? a=some o/\H a=none)->Heap.SameBut a s.heap h'->jD X.prog X.w H h':=λ {a h'} ha hs b ob e=>by
  obtain ⟨_,_,hfree⟩:=ha;refine (I.hok b ob e).stay (λ c w' hc q=>(hs.2 c ?_).trans q) (λ _ q=>q) λ _ _ q=>q
  rintro rfl
  rcases hc with rfl | hc
  ·rw [hfree] at e;cases e
  ·rw [hfree] at hc;cases hc
 rcases hx with hk | hk
 ·refine wpAny_storeName_local hk hn (λ h' hn' hs=>?_) hcls
  obtain ⟨oL,_,_,hoL,_⟩:=id hn;refine h _ ⟨I.ok,I.os,I.bare,⟨λ b o e n hb hx=>?_,λ b o e n hb hx=>?_,I.base.free,λ b o e hx=>?_,I.base.tups,I.base.frzs,I.base.tbls⟩,⟨_,hn',λ j y v' e1 e2 e3=>?_⟩,λ y c e=>?_,I.free,I.freeC,λ p hp=>?_,tracked ⟨oL,hoL,I.free⟩ hs,by simpa using I.len⟩ ⟨_,hs,.inl rfl⟩
  ·exact (hs.2 b (ne_of_lt (lt_of_lt_of_le (lt_size e) I.ok.above))).trans (I.base.keep b o e n hb hx)
  ·obtain ⟨sl,e1⟩:=I.base.slot b o e n hb hx
   exact ⟨sl,(hs.2 b (ne_of_lt (lt_of_lt_of_le (lt_size e) I.ok.above))).trans e1⟩
  ·obtain ⟨o',e1⟩:=I.base.there b o e hx
   exact ⟨o',(hs.2 b (ne_of_lt (lt_of_lt_of_le (lt_size e) I.ok.above))).trans e1⟩
  ·by_cases hj:j=i
   ·subst hj
    rw [hi] at e1;cases e1;rw [getElem?_set_self hiσ] at e2;cases e2;exact ⟨u,r,.inl ⟨hk,by simp⟩⟩
   ·rw [getElem?_set_ne (Ne.symm hj)] at e2
    obtain ⟨u',r',q⟩:=hl j y v' e1 e2 e3;refine ⟨u',r',?_⟩;rcases q with ⟨k,e⟩ | ⟨k,c,e,z⟩
    ·refine .inl ⟨k,?_⟩
     have:y≠x:=λ e=>hj (G7 hN e1 (e ▸ hi))
     simp [this,e]
    ·exact .inr ⟨k,c,e,z.sameBut hs (cne y c e)⟩
  ·obtain ⟨w',z⟩:=I.cell y c e
   exact ⟨w',z.sameBut hs (cne y c e)⟩
  ·obtain ⟨e,n,ne,nf,d⟩:=I.pin p hp
   exact ⟨(hs.2 p.1 ne).trans e,n,ne,nf,d⟩
 ·have hfn:X.fn x=true:=by
   rcases hf with z | z
   ·exact z
   ·rw [z] at hk;cases hk
  obtain ⟨c,hc⟩:=I.ok.has x (.inl hk);obtain ⟨w',z⟩:=I.cell x c hc;refine wpAny_storeName_cell I.ok.kind hk hc z (λ h' hc' hs=>?_);obtain ⟨oc,hoc,hocd⟩:=id z;refine h { s with heap:=h' } ⟨I.ok,I.os,I.bare,⟨λ b o e n hb hx=>?_,λ b o e n hb hx=>?_,I.base.free,λ b o e hx=>?_,I.base.tups,I.base.frzs,I.base.tbls⟩,⟨m,hn.sameBut hs (Ne.symm (cne x c hc)),λ j y v' e1 e2 e3=>?_⟩,λ y c' e=>?_,I.free,I.freeC,λ p hp=>?_,tracked ⟨oc,hoc,I.freeC x c hc⟩ hs,by simpa using I.len⟩ ⟨c,hs,.inr hc⟩
  ·exact (hs.2 b (ne_of_lt (lt_of_lt_of_le (lt_size e) (I.ok.cab x c hfn hc)))).trans (I.base.keep b o e n hb hx)
  ·obtain ⟨sl,e1⟩:=I.base.slot b o e n hb hx
   exact ⟨sl,(hs.2 b (ne_of_lt (lt_of_lt_of_le (lt_size e) (I.ok.cab x c hfn hc)))).trans e1⟩
  ·obtain ⟨o',e1⟩:=I.base.there b o e hx
   exact ⟨o',(hs.2 b (ne_of_lt (lt_of_lt_of_le (lt_size e) (I.ok.cab x c hfn hc)))).trans e1⟩
  ·by_cases hj:j=i
   ·subst hj
    rw [hi] at e1;cases e1;rw [getElem?_set_self hiσ] at e2;cases e2;exact ⟨u,r,.inr ⟨.inl hk,c,hc,hc'⟩⟩
   ·rw [getElem?_set_ne (Ne.symm hj)] at e2
    obtain ⟨u',r',q⟩:=hl j y v' e1 e2 e3;refine ⟨u',r',?_⟩;rcases q with q | ⟨k,c',e,z'⟩
    ·exact .inl q
    ·refine .inr ⟨k,c',e,z'.sameBut hs ?_⟩
     rintro rfl
     exact hj (G7 hN e1 (I.ok.inj _ _ _ e hc ▸ hi))
  ·by_cases hcc:c'=c
   ·subst hcc;exact ⟨_,hc'⟩
   ·obtain ⟨w2,z2⟩:=I.cell y c' e
    exact ⟨w2,z2.sameBut hs hcc⟩
  ·obtain ⟨e,n,ne,nf,d⟩:=I.pin p hp
   refine ⟨(hs.2 p.1 ?_).trans e,n,ne,nf,d⟩;intro q;rw [q,hoc] at e;have q':oc=p.2:=Option.some.inj e;exact d w' (by rw [<- q'];exact hocd)
theorem KN {A:Around}{v:V}{Q:Unit->Shared->Prop}(I:Inv X pins σ H s)(hN:X.N.Nodup)(hi:X.N[i]? =some x)(hx:Loc X.env.scope x)(r:RelV v u)
  (h:∀s',Inv X pins (σ.set i (some v)) H s'->Q () s')(hf:X.fn x=true∨X.env.scope.names.lookup x=some .local:=by first | exact .inl rfl | exact .inr rfl | assumption):wpAny M A (storeName X.env x u) Q E s:=
 To I hN hi hx r (λ s' I' _=>h s' I') hf
theorem Inv.call' {ch:List Addr}(I:Inv X pins σ H s)(ho:s'.os=s.os)(u:Un (qp X.stack) ch H H' s.heap s'.heap)(hok:jD X.prog X.w H' s'.heap)(hg:AllBare s'.gens)
  (hch:∀b∈ch,(b∈X.ex∨X.s0.heap.objs.size<=b)/\b≠X.env.locals/\(∀x c,X.env.cells.lookup x=some c->c≠b)/\∀p∈X.pn++pins,p.1≠b):Inv X pins σ H' s':=by
 obtain ⟨h',g',d',t',o'⟩:=s';have e:o'=s.os:=ho;subst e;exact I.call (g':=g') (t':=t') (d':=d') u hok hg hch
end
noncomputable abbrev XK:=Value->Option Addr->Hp->Prop
noncomputable abbrev St:=List (Option V)
noncomputable abbrev VK:=V->Hp->Prop
noncomputable abbrev TE:=St->Hp->VK->Prop
noncomputable abbrev TT:=St->Hp->(Bool->Hp->Prop)->Prop
noncomputable abbrev TA:=St->Hp->(List V->Hp->Prop)->Prop
structure Ends where
 nx:St->Hp->Prop
 rt:VK
 bk:St->Hp->Prop:=λ _ _=>False
 ct:St->Hp->Prop:=λ _ _=>False
noncomputable abbrev TS:=Ends->St->Hp->Prop
inductive EP (X:Cx)(pins:List (Addr × Obj))(σ:St)(Q:VK)(u:Value)(s':Shared):Prop
 | mk (v:V) (H':Hp) (I:Inv X pins σ H' s') (r:RelV v u) (q:Q v H')
noncomputable def TP (X:Cx)(pins:List (Addr × Obj))(σ:St)(Q:Bool->Hp->Prop)(b:Bool)(s':Shared):Prop:=∃H',Inv X pins σ H' s'/\Q b H'
inductive AP (X:Cx)(pins:List (Addr × Obj))(σ:St)(Q:List V->Hp->Prop)(us:List Value)(s':Shared):Prop
 | mk (vs:List V) (H':Hp) (I:Inv X pins σ H' s') (r:Vals vs us) (q:Q vs H')
noncomputable def SP (X:Cx)(pins:List (Addr × Obj))(D:Ends)(f:Flow)(s':Shared):Prop:=
 match f with
 | .next=>∃σ' H',Inv X pins σ' H' s'/\D.nx σ' H'
 | .brk=>∃σ' H',Inv X pins σ' H' s'/\D.bk σ' H'
 | .cont=>∃σ' H',Inv X pins σ' H' s'/\D.ct σ' H'
 | .ret u=>∃v σ' H',Inv X pins σ' H' s'/\RelV v u/\D.rt v H'
noncomputable def PE (X:Cx)(e:Expr)(t:TE):Prop:=
 ∀(pins:List (Addr × Obj)) (s:Shared) (σ:St) (H:Hp) (Q:VK),Inv X pins σ H s->t σ H Q->wpAny (model X.prog X.w) X.A (eval e X.env) (EP X pins σ Q) X.xe s
noncomputable def PT (X:Cx)(e:Expr)(t:TT):Prop:=
 ∀(pins:List (Addr × Obj)) (s:Shared) (σ:St) (H:Hp) (Q:Bool->Hp->Prop),Inv X pins σ H s->t σ H Q->wpAny (model X.prog X.w) X.A (isTrue e X.env (eval e X.env)) (TP X pins σ Q) X.xe s
noncomputable def PW (X:Cx)(e:Expr)(t:TT):Prop:=
 ∀(whole:Sem Value) (pins:List (Addr × Obj)) (s:Shared) (σ:St) (H:Hp) (Q:Bool->Hp->Prop),Inv X pins σ H s->t σ H Q->wpAny (model X.prog X.w) X.A (isTrue e X.env whole) (TP X pins σ Q) X.xe s
theorem PW.pt {X:Cx}{t:TT}(h:PW X e t):PT X e t:=h _
noncomputable def PA (X:Cx)(es:List Expr)(t:TA):Prop:=
 ∀(pos:Pos) (pins:List (Addr × Obj)) (s:Shared) (σ:St) (H:Hp) (Q:List V->Hp->Prop),Inv X pins σ H s->t σ H Q->wpAny (model X.prog X.w) X.A (spliced (backTo pos (starEach es X.env))) (AP X pins σ Q) X.xe s
noncomputable def PS (X:Cx)(st:Stmt)(t:TS):Prop:=
 ∀(pins:List (Addr × Obj)) (s:Shared) (σ:St) (H:Hp) (D:Ends),Inv X pins σ H s->t D σ H->wpAny (model X.prog X.w) X.A (exec st X.env) (SP X pins D) X.xe s
noncomputable def yq (X:Cx)(st:List Stmt)(t:TS):Prop:=
 ∀(pins:List (Addr × Obj)) (s:Shared) (σ:St) (H:Hp) (D:Ends),Inv X pins σ H s->t D σ H->wpAny (model X.prog X.w) X.A (execs st X.env) (SP X pins D) X.xe s
theorem zP {t:Sem α}{Q Q':α->Shared->Prop}{A:Around}(h:wpAny M A t Q E s)(hQ:∀a s,Q a s->Q' a s):wpAny M A t Q' E s:=wpAny_mono h hQ λ _ _ x=>x
section
variable {X:Cx}
noncomputable def AM (i:Nat):TE:=λ σ H Q=>∃v,σ[i]? =some (some v)/\Q v H
noncomputable def tC (v:V):TE:=λ _ H Q=>Q v H
theorem R5 (hN:X.N[i]? =some x)(hv:JR X.env.scope x)(hd:(x==("__debug__" : Str))=false:=by decide)(hcd:(x==("__classdict__" : Str))=false:=by decide):PE X (.Name x pos) (AM i):=by
 intro pins s σ H Q I h;obtain ⟨v,e,h⟩:=h;obtain ⟨m,hn,hl⟩:=I.loc;obtain ⟨u,r,l⟩:=hl i x v hN e hv;have fin:EP X pins σ Q u s:=⟨v,H,I,r,h⟩;rcases l with ⟨hk,hm⟩ | ⟨hk,c,hc,hcell⟩
 ·exact wpAny_Name (wpAny_loadName_local I.ok.kind hk hn hm fin) hd
 ·rcases hk with hk | hk
  ·exact wpAny_Name (wpAny_loadName_cell I.ok.kind hk hc hcell fin) hd
  ·exact wpAny_Name (wpAny_loadName_free I.ok.kind hk hc hcell fin hcd) hd
theorem CP {i j pos}:PE X (.Constant (.int i) j pos) (tC (.int i)):=λ _ _ _ H _ I h=>wpAny_Constant_int ⟨.int i,H,I.tok _,⟨_,rfl⟩,h⟩
theorem BH {b j pos}:PE X (.Constant (.bool b) j pos) (tC (.bl b)):=λ _ _ _ H _ I h=>Constant_bool ⟨.bl b,H,I,rfl,h⟩
theorem D7 {j pos}:PE X (.Constant .none j pos) (tC .non):=λ _ _ _ H _ I h=>Constant_none ⟨.non,H,I,rfl,h⟩
theorem Dq {x j pos}:PE X (.Constant (.str x) j pos) (tC (.str x)):=λ _ _ _ H _ I h=>Calls.Constant_str ⟨.str x,H,I.tok _,⟨_,rfl⟩,h⟩
noncomputable def Gl (X:Cx)(x:Str):Prop:=X.env.kindOf x=some .globalImplicit
theorem Jo {σ:St}{H:Hp}(I:Inv X pins σ H s)(hg:Gl X x)(hm:X.mg x=some u)(h:Q u s)
  (hd:(x==("__debug__" : Str))=false:=by decide):wpAny (model X.prog X.w) X.A (eval (.Name x pos) X.env) Q E s:=
 Calls.Name_function_global I.ok.kind hg (Calls.loadGlobal_global (by rw [I.ok.glob];exact I.mod.glob.keeps I.bk) hm h) hd
theorem Z1 {σ:St}{H:Hp}(I:Inv X pins σ H s)(hg:Gl X x)(hm:X.mg x=none)(hv:bootBuiltins x=some u)(h:Q u s)
  (hn:x ≠ "__name__" := by decide)(hd:(x==("__debug__" : Str))=false:=by decide):wpAny (model X.prog X.w) X.A (eval (.Name x pos) X.env) Q E s:=by
 obtain ⟨mb,h1,h2⟩:=I.mod.blt;exact Calls.Name_function_global I.ok.kind hg (Calls.loadGlobal_builtin (by rw [I.ok.glob];exact I.mod.glob.keeps I.bk) hm (by rw [I.ok.blt];exact h1.keeps I.bk) ((h2 x hn).trans hv) h) hd
theorem Eh {v:V}(hg:Gl X x)(hm:X.mg x=some u)(r:RelV v u)(hd:(x==("__debug__" : Str))=false:=by decide):PE X (.Name x pos) (tC v):=
 λ _ _ _ H _ I h=>Jo I hg hm ⟨v,H,I,r,h⟩ hd
theorem Wc {v:V}(hg:Gl X x)(hm:X.mg x=none)(hv:bootBuiltins x=some u)(r:RelV v u)(hn:x ≠ "__name__" := by decide)(hd:(x==("__debug__" : Str))=false:=by decide):PE X (.Name x pos) (tC v):=
 λ _ _ _ H _ I h=>Z1 I hg hm hv ⟨v,H,I,r,h⟩ hn hd
variable {a b:Expr}{ta tb:TE}
theorem Fh (b:Expr)(h:op≠.In)(h2:op≠.NotIn):behindInMarks op b=false:=by
 have e1:(op==CmpOp.In)=false:=by cases op<;>first | rfl | exact absurd rfl h
 have e2:(op==CmpOp.NotIn)=false:=by cases op<;>first | rfl | exact absurd rfl h2
 cases b<;>simp [behindInMarks,e1,e2]
noncomputable def tB (t:TE):TT:=λ σ H Q=>t σ H λ x H1=>∃c,x=.bl c/\Q c H1
theorem C6 {t:TE}(h:PE X e t)(he:∀whole,isTrue e X.env whole=(do let v <- whole;standAt e.pos;holding [v] (truthy v)):=by intro _;rfl):PT X e (tB t):=by
 intro pins s σ H Q I hw;refine isTrue_plain (zP (h pins s σ H _ I hw) λ v s1 ⟨x,H1,I1,r1,q1⟩=>?_) (he _);obtain ⟨d,rfl,q⟩:=q1;cases r1;exact wpAny_truthy_bool ⟨H1,I1,q⟩
variable {tA tB':TT}{rest:List Expr}
noncomputable def AQ (t u:TT):TT:=λ σ H Q=>t σ H λ c H1=>if c=true then u σ H1 Q else Q false H1
noncomputable def tOr (t u:TT):TT:=λ σ H Q=>t σ H λ c H1=>if c=true then Q true H1 else u σ H1 Q
noncomputable def AN (t:TT):TT:=λ σ H Q=>t σ H λ c H1=>Q (!c) H1
theorem pw_and1 (ha:PT X a tA):PW X (.BoolOp .And [a] pos) tA:=by
 intro wh pins s σ H Q I h;refine isTrue_and (zP (ha pins s σ H Q I h) λ c s1 e=>?_);cases c with
 | true=>exact isTrue_and_nil e
 | false=>exact e
theorem pw_or1 (ha:PT X a tA):PW X (.BoolOp .Or [a] pos) tA:=by
 intro wh pins s σ H Q I h;refine isTrue_or (zP (ha pins s σ H Q I h) λ c s1 e=>?_);cases c with
 | false=>exact isTrue_or_nil e
 | true=>exact e
theorem pw_and (ha:PT X a tA)(hb:PW X (.BoolOp .And (b::rest) pos) tB'):PW X (.BoolOp .And (a::b::rest) pos) (AQ tA tB'):=by
 intro wh pins s σ H Q I h;refine isTrue_and (zP (ha pins s σ H _ I h) λ c s1 ⟨H1,I1,q1⟩=>?_);cases c with
 | true=>exact hb wh pins s1 σ H1 Q I1 q1
 | false=>exact ⟨H1,I1,q1⟩
theorem pw_or (ha:PT X a tA)(hb:PW X (.BoolOp .Or (b::rest) pos) tB'):PW X (.BoolOp .Or (a::b::rest) pos) (tOr tA tB'):=by
 intro wh pins s σ H Q I h;refine isTrue_or (zP (ha pins s σ H _ I h) λ c s1 ⟨H1,I1,q1⟩=>?_);cases c with
 | true=>exact ⟨H1,I1,q1⟩
 | false=>exact hb wh pins s1 σ H1 Q I1 q1
theorem CQ (ha:PT X a tA):PT X (.UnaryOp .Not a pos) (AN tA):=by
 intro pins s σ H Q I h;exact isTrue_not (ha pins s σ H (λ c H1=>Q (!c) H1) I h)
noncomputable def Aj (ta tb:TE):TE:=λ σ H Q=>ta σ H λ x H1=>∃c,x=.bl c/\if c=true then tb σ H1 Q else Q (.bl false) H1
noncomputable def BQ (ta:TE):TE:=λ σ H Q=>ta σ H λ x H1=>∃c,x=.bl c/\Q (.bl (!c)) H1
theorem Cn {op}{t:TE}(h:PE X a t):PE X (.BoolOp op [a] pos) t:=λ pins s σ H Q I hw=>BoolOp_one (h pins s σ H Q I hw)
theorem Cb (ha:PE X a ta)(hb:PE X (.BoolOp .And (b::rest) pos) tb):PE X (.BoolOp .And (a::b::rest) pos) (Aj ta tb):=by
 intro pins s σ H Q I h;refine BoolOp_and (zP (ha pins s σ H _ I h) λ v s1 ⟨x,H1,I1,r1,q1⟩=>?_);obtain ⟨c,rfl,q1⟩:=q1;cases r1;refine wpAny_truthy_bool ?_;cases c with
 | true=>exact hb pins s1 σ H1 Q I1 q1
 | false=>exact ⟨.bl false,H1,I1,rfl,q1⟩
theorem C4 (ha:PE X a ta):PE X (.UnaryOp .Not a pos) (BQ ta):=by
 intro pins s σ H Q I h;refine UnaryOp_ (zP (ha pins s σ H _ I h) λ v s1 ⟨x,H1,I1,r1,q1⟩=>?_);obtain ⟨c,rfl,q1⟩:=q1;cases r1;exact not_of (wpAny_truthy_bool ⟨.bl (!c),H1,I1,rfl,q1⟩)
noncomputable def tIf (t:TT)(ta tb:TE):TE:=λ σ H Q=>t σ H λ c H1=>if c=true then ta σ H1 Q else tb σ H1 Q
theorem Hl {c:Expr}(hc:PT X c tA)(ha:PE X a ta)(hb:PE X b tb):PE X (.IfExp c a b pos) (tIf tA ta tb):=by
 intro pins s σ H Q I h;refine wpAny_IfExp (zP (hc pins s σ H _ I h) λ d s1 ⟨H1,I1,q1⟩=>?_);cases d with
 | true=>exact ha pins s1 σ H1 Q I1 q1
 | false=>exact hb pins s1 σ H1 Q I1 q1
end
noncomputable def qZ (K:Frag)(H:Hp)(a:Addr)(xs:List V):Prop:=
 Rd H a (.lst xs)∨
  ∃(o:Obj) (its:Array Value) (n:Nat),K.lookup a=some o/\o.cls=.type "list" /\ o.dict=none/\o.data=.seq its n/\its.size<=sizeLine/\Vals xs its.toList
noncomputable def qv (K:Frag)(H:Hp)(a:Addr)(xs:List V):Prop:=
 Rd H a (.tup xs)∨
  ∃(o:Obj) (its:Array Value) (n:Nat),K.lookup a=some o/\(o.cls=.type "tuple" /\ o.dict=none)/\o.data=.seq its n/\its.size<=sizeLine/\Vals xs its.toList
noncomputable def Ak:Value->Option V
 | .none=>some .non
 | .bool b=>some (.bl b)
 | .int i _=>some (.int i)
 | .str x _=>some (.str x)
 | .bytes b _=>some (.byt b)
 | .float b _=>some (.flt b)
 | .ref a=>some (.ref a)
 | .type n=>some (.ty n)
 | _=>none
theorem RelV.abs {x:V}(r:RelV x u):Ak u=some x:=by
 cases x with
 | non=>cases r;rfl
 | bl _=>cases r;rfl
 | int _=>obtain ⟨t,rfl⟩:=r;rfl
 | str _=>obtain ⟨t,rfl⟩:=r;rfl
 | byt _=>obtain ⟨t,rfl⟩:=r;rfl
 | flt _=>obtain ⟨t,rfl⟩:=r;rfl
 | ref _=>cases r;rfl
 | ty _=>cases r;rfl
theorem RelV.inj {x y:V}(r:RelV x u)(q:RelV y u):x=y:=Option.some.inj (r.abs.symm.trans q.abs)
theorem Vals.inj:∀{xs ys:List V} {us:List Value},Vals xs us->Vals ys us->xs=ys
 | _,_,_,.nil,.nil=>rfl
 | _,_,_,.cons r t,.cons r' t'=>by rw [r.inj r',Vals.inj t t']
section
variable {X:Cx}{σ:St}{H:Hp}{xs ys:List V}
theorem qZ.of {K:Frag}(h:H a=some (.lst xs)):qZ K H a xs:=.inl (.inl h)
theorem qv.of {K:Frag}(h:H a=some (.tup xs)):qv K H a xs:=.inl (.inl h)
theorem Inv.list (I:Inv X pins σ H s)(h:qZ X.K H a xs):∃its:List Value,Vals xs its/\PlainL s.heap a its.toArray/\xs.length<=sizeLine:=by
 rcases h with h | ⟨o,its,n,hk,hc,hd,hs,hz,r⟩
 ·obtain ⟨z,its,n,r,e⟩:=h.ok I.hok
  exact ⟨its,r,⟨_,n,e,rfl,rfl,rfl⟩,z⟩
 ·refine ⟨its.toList,r,⟨o,n,I.kIn a o hk,hc,hd,by simpa using hs⟩,?_⟩
  have e:=r.length;simp only [length_toList] at e;omega
theorem Inv.tuple (I:Inv X pins σ H s)(h:qv X.K H a xs):∃its:List Value,Vals xs its/\IsTup s.heap a its.toArray/\xs.length<=sizeLine:=by
 rcases h with h | ⟨o,its,n,hk,hc,hs,hz,r⟩
 ·obtain ⟨z,its,r,p⟩:=h.ok I.hok
  exact ⟨its,r,p.tup,z⟩
 ·refine ⟨its.toList,r,⟨o,I.kIn a o hk,hc.1,n,by simpa using hs⟩,?_⟩
  have e:=r.length;simp only [length_toList] at e;omega
theorem Inv.list_inj (I:Inv X pins σ H s)(h:qZ X.K H a xs)(h':qZ X.K H a ys):xs=ys:=by
 obtain ⟨its,r,⟨o,n,e,_,_,d⟩,_⟩:=I.list h;obtain ⟨its',r',⟨o',n',e',_,_,d'⟩,_⟩:=I.list h';rw [e] at e';cases e';rw [d] at d';injection d' with d1 _
 have:its=its':=by simpa using congrArg Array.toList d1
 subst this;exact r.inj r'
theorem Inv.tupleN (I:Inv X pins σ H s)(h:qv X.K H a xs):∃ob,s.heap.get? a=some ob/\ob.dict=none:=by
 rcases h with h | ⟨o,its,n,hk,hc,hs,hz,r⟩
 ·obtain ⟨z,its,r,o,e,c,_⟩:=h.ok I.hok
  exact ⟨o,e,c.2⟩
 ·exact ⟨o,I.kIn a o hk,hc.2⟩
theorem Inv.tuple_inj (I:Inv X pins σ H s)(h:qv X.K H a xs)(h':qv X.K H a ys):xs=ys:=by
 obtain ⟨its,r,⟨o,e,_,n,d⟩,_⟩:=I.tuple h;obtain ⟨its',r',⟨o',e',_,n',d'⟩,_⟩:=I.tuple h';rw [e] at e';cases e';rw [d] at d';injection d' with d1 _
 have:its=its':=by simpa using congrArg Array.toList d1
 subst this;exact r.inj r'
end
noncomputable abbrev Cx.wish (X:Cx)(E:Value->Shared->Prop):Cx:={ X with xe:=E }
noncomputable abbrev Cx.nox (X:Cx):Cx:=X.wish λ _ _=>False
theorem Cx.Ok.wish {X:Cx}(ok:X.Ok)(E:Value->Shared->Prop):(X.wish E).Ok:=
 ⟨ok.mod,ok.kind,ok.glob,ok.blt,ok.above,ok.inj,ok.has,ok.cab,ok.hd,ok.frames,ok.stk,ok.exf,ok.bs,ok.bsz,ok.noex,ok.exfs,ok.funs,ok.frf⟩
theorem Cx.Ok.unwish {X:Cx}(ok:(X.wish E).Ok):X.Ok:=
 ⟨ok.mod,ok.kind,ok.glob,ok.blt,ok.above,ok.inj,ok.has,ok.cab,ok.hd,ok.frames,ok.stk,ok.exf,ok.bs,ok.bsz,ok.noex,ok.exfs,ok.funs,ok.frf⟩
section
variable {X:Cx}{σ:St}{H:Hp}
theorem Inv.wish (I:Inv X pins σ H s)(E:Value->Shared->Prop):Inv (X.wish E) pins σ H s:=⟨I.ok.wish E,I.os,I.bare,I.base,I.loc,I.cell,I.free,I.freeC,I.pin,I.hok,I.len⟩
theorem Inv.unwish (I:Inv (X.wish E) pins σ H s):Inv X pins σ H s:=⟨I.ok.unwish,I.os,I.bare,I.base,I.loc,I.cell,I.free,I.freeC,I.pin,I.hok,I.len⟩
theorem SP.unwish {D:Ends}{f:Flow}(h:SP (X.wish E) pins D f s'):SP X pins D f s':=by
 cases f with
 | next=>obtain ⟨σ',H',I,q⟩:=h;exact ⟨σ',H',I.unwish,q⟩
 | brk=>obtain ⟨σ',H',I,q⟩:=h;exact ⟨σ',H',I.unwish,q⟩
 | cont=>obtain ⟨σ',H',I,q⟩:=h;exact ⟨σ',H',I.unwish,q⟩
 | ret u=>obtain ⟨v,σ',H',I,r,q⟩:=h;exact ⟨v,σ',H',I.unwish,r,q⟩
theorem PT.nox {t:TT}(h:PT X.nox e t):PT X e t:=λ pins s σ H Q I hw=>
 wpAny_mono (h pins s σ H Q (I.wish _) hw) (λ _ _ ⟨H',I',q⟩=>⟨H',I'.unwish,q⟩) λ _ _ z=>False.elim z
theorem yq.nox {st:List Stmt}{t:TS}(h:yq X.nox st t):yq X st t:=λ pins s σ H D I hw=>
 wpAny_mono (h pins s σ H D (I.wish _) hw) (λ _ _ q=>q.unwish) λ _ _ z=>False.elim z
end
section
variable {X:Cx}{st:Stmt}{rest:List Stmt}{t u:TS}{te:TE}
noncomputable def C9:TS:=λ D σ H=>D.nx σ H
noncomputable def Am (t u:TS):TS:=λ D σ H=>t { D with nx:=u D } σ H
theorem FU:yq X [] C9:=λ _ _ σ H _ I h=>wpAny_execs_nil ⟨σ,H,I,h⟩
theorem HN (h1:PS X st t)(h2:yq X rest u):yq X (st::rest) (Am t u):=by
 intro pins s σ H D I h;refine wpAny_execs_cons (zP (h1 pins s σ H { D with nx:=u D } I h) λ f s1 q=>?_)
 cases f with
 | next=>
  obtain ⟨σ',H',I',q⟩:=q;exact h2 pins s1 σ' H' D I' q
 | ret v=>exact q
 | brk=>exact q
 | cont=>exact q
theorem Inv.quiet {σ:St}{H:Hp}(I:Inv X pins σ H s):interactive X.env=false:=by simp [interactive,I.ok.kind]
noncomputable def BR (te:TE):TS:=λ D σ H=>te σ H λ _ H1=>D.nx σ H1
theorem EX (he:PE X e te)(hs:swapsWith e none pos.line X.env=pure false:=by rfl):PS X (.Expr e pos) (BR te):=by
 intro pins s σ H D I h;exact wpAny_Expr_any (zP (he pins s σ H _ I h) λ v s1 ⟨x,H1,I1,r1,q1⟩=>⟨σ,H1,I1,q1⟩) I.quiet hs
noncomputable def AD (te:TE):TS:=λ D σ H=>te σ H D.rt
theorem D2 (he:PE X e te):PS X (.Return (some e) pos) (AD te):=by
 intro pins s σ H D I h;exact wpAny_Return_some (zP (he pins s σ H _ I h) λ v s1 ⟨x,H1,I1,r1,q1⟩=>⟨x,σ,H1,I1,r1,q1⟩)
noncomputable def AA (c:TT)(t u:TS):TS:=λ D σ H=>c σ H λ b H1=>if b=true then t D σ H1 else u D σ H1
theorem Bz {c:Expr}{a b:List Stmt}{tc:TT}(hc:PT X c tc)(ha:yq X a t)(hb:yq X b u):PS X (.If c a b pos) (AA tc t u):=by
 intro pins s σ H D I h;refine wpAny_If (zP (hc pins s σ H _ I h) λ d s1 ⟨H1,I1,q1⟩=>?_);cases d with
 | true=>exact ha pins s1 σ H1 D I1 q1
 | false=>exact hb pins s1 σ H1 D I1 q1
end
noncomputable abbrev TG:=V->St->Hp->(St->Hp->Prop)->Prop
noncomputable abbrev ZJ:=List V->St->Hp->(St->Hp->Prop)->Prop
noncomputable def PG (X:Cx)(target:Expr)(t:TG):Prop:=
 ∀(pins:List (Addr × Obj)) (s:Shared) (σ:St) (H:Hp) (v:V) (u:Value) (Q:St->Hp->Prop),Inv X pins σ H s->RelV v u->t v σ H Q->
  wpAny (model X.prog X.w) X.A (assign target X.env u) (λ _ s'=>∃σ' H',Inv X pins σ' H' s'/\Q σ' H') X.xe s
noncomputable def Y1 (X:Cx)(ts:List Expr)(t:ZJ):Prop:=
 ∀(pins:List (Addr × Obj)) (s:Shared) (σ:St) (H:Hp) (vs:List V) (us:List Value) (Q:St->Hp->Prop),Inv X pins σ H s->Vals vs us->t vs σ H Q->
  wpAny (model X.prog X.w) X.A (assignInOrder ((assignEach ts X.env).map (·.2)) us) (λ _ s'=>∃σ' H',Inv X pins σ' H' s'/\Q σ' H') X.xe s
noncomputable abbrev QP:=V->V->V->Hp->(Hp->Prop)->Prop
noncomputable def WN (X:Cx)(t:QP):Prop:=
 ∀(pins:List (Addr × Obj)) (s:Shared) (σ:St) (H:Hp) (o i v:V) (ov iv u:Value) (Q:Hp->Prop),Inv X pins σ H s->RelV o ov->RelV i iv->RelV v u->t o i v H Q->
  wpAny (model X.prog X.w) X.A (setItem ov iv u) (λ _ s'=>∃H',Inv X pins σ H' s'/\Q H') X.xe s
noncomputable abbrev WX:=V->V->Hp->VK->Prop
noncomputable def Ob (X:Cx)(op:Operator)(t:WX):Prop:=
 ∀(pins:List (Addr × Obj)) (s:Shared) (σ:St) (H:Hp) (x y:V) (v u:Value) (Q:VK),Inv X pins σ H s->RelV x v->RelV y u->t x y H Q->
  wpAny (model X.prog X.w) X.A (inplaceOp op v u) (EP X pins σ Q) X.xe s
section
variable {X:Cx}
noncomputable def Wo (i:Nat):TG:=λ v σ H Q=>Q (σ.set i (some v)) H
theorem Zp (hN:X.N.Nodup)(hi:X.N[i]? =some x)(hx:Loc X.env.scope x)(hf:X.fn x=true∨X.env.scope.names.lookup x=some .local:=by first | exact .inl rfl | exact .inr rfl | assumption):PG X (.Name x pos) (Wo i):=by
 intro pins s σ H v u Q I r h;exact wpAny_assign_Name (KN I hN hi hx r (λ s' I'=>⟨_,H,I',h⟩) hf)
noncomputable def AZ:ZJ:=λ vs σ H Q=>vs=[]/\Q σ H
noncomputable def BB (t:TG)(u:ZJ):ZJ:=λ vs σ H Q=>∃v r,vs=v::r/\t v σ H λ σ' H'=>u r σ' H' Q
theorem K7:Y1 X [] AZ:=by
 intro pins s σ H vs us Q I r h;obtain ⟨e,h⟩:=h;subst e;cases r;exact assignInOrder_nil ⟨σ,H,I,h⟩
theorem Zm {es:List Expr}{t:TG}{u:ZJ}(h1:PG X e t)(h2:Y1 X es u)
  (hs:(assignEach (e::es) X.env).map (·.2)=assign e X.env::(assignEach es X.env).map (·.2):=by rfl):Y1 X (e::es) (BB t u):=by
 intro pins s σ H vs us Q I r h;obtain ⟨v,vr,e1,h⟩:=h;subst e1;cases r with
 | cons r rr=>
  rw [hs];refine assignInOrder_cons (zP (h1 pins s σ H _ _ _ I r h) λ _ s1 ⟨σ1,H1,I1,q1⟩=>?_);exact h2 pins s1 σ1 H1 _ _ Q I1 rr q1
noncomputable def yQ (K:Frag)(n:Nat)(t:ZJ):TG:=λ v σ H Q=>∃a xs,v=.ref a/\qv K H a xs/\xs.length=n/\t xs σ H Q
theorem XA {es:List Expr}{k:Nat}{t:ZJ}(hc:X.calm=true)(h:Y1 X es t)
  (hn:(assignEach es X.env).length=n:=by rfl)(hst:(assignEach es X.env).findIdx? (·.1)=none:=by rfl):PG X (.Tuple es k pos) (yQ X.K n t):=by
 intro pins s σ H v u Q I r hw;obtain ⟨a,xs,e1,hq,hl,hw⟩:=hw;subst e1;cases r;obtain ⟨its,rv,ht,hz⟩:=I.tuple hq;refine assign_Tuple_tuple (I.ok.hd hc) ht (by simp [hn,<- hl,rv.length]) hst λ h' hx=>?_
 have I1:Inv X pins σ H { s with heap:=h' }:=I.kept (t':=s.toks) λ b o e=>hx b o (ne_of_lt (lt_size e)) e
 exact h pins _ σ H xs _ Q I1 (by simpa using rv) hw
noncomputable def Zy (to ti:TE)(t:QP):TG:=λ v σ H Q=>to σ H λ o H1=>ti σ H1 λ i H2=>t o i v H2 λ H3=>Q σ H3
theorem Cc {o i:Expr}{to ti:TE}{t:QP}(ho:PE X o to)(hi:PE X i ti)(hs:WN X t)
  (ha:∀v,assign (.Subscript o i pos) X.env v=(do
   let ov <- holding [v] (eval o X.env)
   let iv <- holding [v,ov] (eval i X.env)
   standAt pos
   holding [v,ov,iv] (setItem ov iv v)
   release [v,ov,iv] []):=by intro _;rfl):PG X (.Subscript o i pos) (Zy to ti t):=by
 intro pins s σ H v u Q I r h;rw [ha];refine qa0 (wpAny_holding (zP (ho pins s σ H _ I h) λ ov s1 ⟨x,H1,I1,r1,q1⟩=>?_));refine qa0 (wpAny_holding (zP (hi pins s1 σ H1 _ I1 q1) λ iv s2 ⟨y,H2,I2,r2,q2⟩=>?_));refine qa0 (wpAny_standAt (qa0 (wpAny_holding (zP (hs pins s2 σ H2 x y v ov iv u _ I2 r1 r2 r q2) λ _ s3 ⟨H3,I3,q3⟩=>?_))));exact wpAny_release ⟨σ,H3,I3,q3⟩
noncomputable def WH (te:TE)(g:TG):TS:=λ D σ H=>te σ H λ x H1=>g x σ H1 D.nx
theorem XM {te:TE}{g:TG}(he:PE X e te)(hg:PG X tg g)(hs:swapsWithSole [tg] e pos.line X.env=pure false:=by rfl)(hw:swappedStores [tg] e X.env=pure none:=by rfl)
  (h1:(assignEach [tg] X.env).map (·.2)=[assign tg X.env]:=by rfl):PS X (.Assign [tg] e pos) (WH te g):=by
 intro pins s σ H D I h;refine wpAny_Assign_stores (zP (he pins s σ H _ I h) λ v s1 ⟨x,H1,I1,r1,q1⟩=>?_) hs hw;rw [h1];exact zP (hg pins s1 σ H1 x v _ I1 r1 q1) λ _ s2 q=>q
theorem D6 {te:TE}{pos':Pos}(hN:X.N.Nodup)(hi:X.N[i]? =some x)(hx:Loc X.env.scope x)(he:PE X e te)(hs:swapsWith e (some (.Name x pos')) pos.line X.env=pure false:=by rfl)(hf:X.fn x=true∨X.env.scope.names.lookup x=some .local:=by first | exact .inl rfl | exact .inr rfl | assumption):
  PS X (.Assign [.Name x pos'] e pos) (WH te (Wo i)):=by
 intro pins s σ H D I h;refine wpAny_Assign_Name (zP (he pins s σ H _ I h) λ v s1 ⟨y,H1,I1,r1,q1⟩=>?_) hs;exact KN I1 hN hi hx r1 (λ s2 I2=>⟨_,H1,I2,q1⟩) hf
noncomputable def Ag (to ti te:TE)(tget:V->V->Hp->VK->Prop)(tip:WX)(tset:QP):TS:=λ D σ H=>to σ H λ o H1=>ti σ H1 λ i H2=>tget o i H2 λ x H3=>te σ H3 λ y H4=>tip x y H4 λ z H5=>tset o i z H5 λ H6=>D.nx σ H6
noncomputable def PY (X:Cx)(t:V->V->Hp->VK->Prop):Prop:=
 ∀(pins:List (Addr × Obj)) (s:Shared) (σ:St) (H:Hp) (o i:V) (ov iv:Value) (Q:VK),Inv X pins σ H s->RelV o ov->RelV i iv->t o i H Q->
  wpAny (model X.prog X.w) X.A (getItem ov iv) (EP X pins σ Q) X.xe s
theorem FK {o i:Expr}{to ti te:TE}{tget:V->V->Hp->VK->Prop}{tip:WX}{tset:QP}{op:Operator}(ho:PE X o to)(hi:PE X i ti)(hg:PY X tget)(he:PE X e te)(hp:Ob X op tip)(hs:WN X tset)
  (ha:∀ov iv new,augStore i ov iv new=(do holding [new,ov,iv] (setItem ov iv new);release [new,ov,iv] [];pure .next):=by intros;rfl):PS X (.AugAssign (.Subscript o i tpos) op e pos) (Ag to ti te tget tip tset):=by
 intro pins s σ H D I h;refine wpAny_AugAssign_SubscriptAny (zP (ho pins s σ H _ I h) λ ov s1 ⟨x1,H1,I1,r1,q1⟩=>?_) ha;refine zP (hi pins s1 σ H1 _ I1 q1) λ iv s2 ⟨x2,H2,I2,r2,q2⟩=>?_;refine zP (hg pins s2 σ H2 x1 x2 ov iv _ I2 r1 r2 q2) λ old s3 ⟨x3,H3,I3,r3,q3⟩=>?_;refine zP (he pins s3 σ H3 _ I3 q3) λ v s4 ⟨x4,H4,I4,r4,q4⟩=>?_;refine zP (hp pins s4 σ H4 x3 x4 old v _ I4 r3 r4 q4) λ new s5 ⟨x5,H5,I5,r5,q5⟩=>?_;exact zP (hs pins s5 σ H5 x1 x2 x5 ov iv new _ I5 r1 r2 r5 q5) λ _ s6 ⟨H6,I6,q6⟩=>⟨σ,H6,I6,q6⟩
noncomputable def ipI (f:Int->Int->Int):WX:=λ x y H Q=>∃i j,x=.int i/\y=.int j/\Q (.int (f i j)) H
theorem Dv:Ob X .Add (ipI λ i j=>i+j):=by
 intro pins s σ H x y v u Q I r1 r2 h;obtain ⟨i,j,e1,e2,q⟩:=h;subst e1;subst e2;obtain ⟨t,rfl⟩:=r1;obtain ⟨t',rfl⟩:=r2;exact iadd_int ⟨.int _,H,I.tok _,⟨_,rfl⟩,q⟩
noncomputable def CU (c:TT)(tb:TS):TS:=λ D σ H=>∃W:Nat->St->Hp->Prop,(∃m,W m σ H)/\∀m σ H,W m σ H->
 c σ H λ b H1=>if b=true then ∃N:St->Hp->Prop,(∀σ' H',N σ' H'->∃m',m'<m/\W m' σ' H')/\tb { D with nx:=N,ct:=N,bk:=D.nx } σ H1 else D.nx σ H1
theorem IV {c:Expr}{tc:TT}{tb:TS}(hp:PassesOwn (model X.prog X.w) X.A X.env X.xe)(hc:PT X c tc)(hb:yq X body tb):PS X (.While c body [] pos) (CU tc tb):=by
 intro pins s σ H D I h;obtain ⟨W,⟨m0,w0⟩,turn⟩:=h;refine wpAny_While (codeAny_whileLoop (λ n s'=>∃σ' H',Inv X pins σ' H' s'/\W n σ' H') ?_ m0 ⟨σ,H,I,w0⟩)
 rintro n s1 ⟨σ1,H1,I1,w1⟩
 refine wpAny_passesOwn hp (zP (hc pins s1 σ1 H1 _ I1 (turn n σ1 H1 w1)) λ b s2 ⟨H2,I2,q2⟩=>?_);cases b with
 | true=>
  obtain ⟨N,hN,q2⟩:=q2;rw [if_pos rfl];refine wpAny_passesOwn hp (zP (hb pins s2 σ1 H2 _ I2 q2) λ f s3 q3=>?_);cases f with
  | next=>
   obtain ⟨σ3,H3,I3,n3⟩:=q3;obtain ⟨m',hm,w3⟩:=hN σ3 H3 n3;exact ⟨m',hm,σ3,H3,I3,w3⟩
  | cont=>
   obtain ⟨σ3,H3,I3,n3⟩:=q3;obtain ⟨m',hm,w3⟩:=hN σ3 H3 n3;exact ⟨m',hm,σ3,H3,I3,w3⟩
  | brk=>exact q3
  | ret v=>exact q3
 | false=>
  rw [if_neg Bool.false_ne_true];exact wpAny_execs_nil ⟨σ1,H2,I2,q2⟩
end
structure It where
 go:Nat->Hp->Prop
 yld:Nat->Hp->V->Hp->Prop
 stop:Nat->Hp->Prop
noncomputable def yZ (X:Cx)(pins:List (Addr × Obj))(H:Hp)(b:Addr):Prop:=
 H b=none/\b≠X.env.locals/\b∉X.fs/\(b∈X.ex∨X.s0.heap.objs.size<=b)/\(∀x c,X.env.cells.lookup x=some c->c≠b)/\∀p∈X.pn++pins,p.1≠b
theorem Inv.fpOk {X:Cx}{σ:St}{H H':Hp}(I:Inv X pins σ H s)(hb:s.heap.objs.size<=b)(hn:H' b=none):yZ X pins H' b:=by
 refine ⟨hn,ne_of_gt (lt_of_lt_of_le I.lt hb),I.nofs hb,.inr (le_trans I.sz hb),λ x c e z=>?_,λ p hp z=>?_⟩
 ·obtain ⟨v,q⟩:=I.cell x c e
  exact absurd (lt_of_lt_of_le q.lt (by rw [z];exact hb)) (lt_irrefl _)
 ·exact absurd (lt_of_lt_of_le (lt_size (I.pin p hp).1) (by rw [z];exact hb)) (lt_irrefl _)
structure Turn (P:Program)(w:World)(K:Frag)(tg:Expr)(J:It)(fp:List Addr)(it:Addr)(tn:Nat->Heap->Prop):Prop where
 mem:it∈fp
 obj:∀i h,tn i h->∀b∈fp,∃o,h.get? b=some o/\∀v,o.data≠.cell v
 keep:∀i h h',tn i h->(∀b∈fp,∀o,h.get? b=some o->h'.get? b=some o)->tn i h'
 item:∀(X:Cx),X.prog=P->X.w=w->X.K=K->X.calm=true->∀(i:Nat) (pins:List (Addr × Obj)) (s:Shared) (σ:St) (H:Hp) (E:Value->Shared->Prop),Inv X pins σ H s->(∀b∈fp,yZ X pins H b)->tn i s.heap->J.go i H->
  wpAny (model P w) X.A (pyNext (.ref it)) (λ r s1=>∃u,r=some u/\
   wpAny (model P w) X.A (letOwnedTupleGo tg (.ref it) u) (λ _ s2=>∃x H',Inv X pins σ H' s2/\RelV x u/\J.yld i H x H'/\tn (i+1) s2.heap/\∀b∈fp,H' b=none) E s1) E s
 done:∀(X:Cx),X.prog=P->X.w=w->X.K=K->X.calm=true->∀(i:Nat) (pins:List (Addr × Obj)) (s:Shared) (σ:St) (H:Hp) (E:Value->Shared->Prop),Inv X pins σ H s->(∀b∈fp,yZ X pins H b)->tn i s.heap->J.stop i H->
  wpAny (model P w) X.A (pyNext (.ref it)) (λ r s1=>r=none/\Inv X pins σ H s1) E s
 self:∀(A:Around) (i:Nat) (s:Shared) (Q:Value->Shared->Prop) (E:Value->Shared->Prop),tn i s.heap->Q (.ref it) s->wpAny (model P w) A (pyIter (.ref it)) Q E s
noncomputable abbrev TI:=St->Hp->(It->Hp->Prop)->Prop
inductive Oq (X:Cx)(pins:List (Addr × Obj))(σ:St)(tg:Expr)(R:It->Hp->Prop)(itv:Value)(s2:Shared):Prop
 | mk (it:Addr) (fp:List Addr) (tn:Nat->Heap->Prop) (J:It) (H':Hp) (e:itv=.ref it) (I:Inv X pins σ H' s2) (T:Turn X.prog X.w X.K tg J fp it tn) (t0:tn 0 s2.heap) (f:(∀b∈fp,yZ X pins H' b)) (q:R J H')
noncomputable def PI (X:Cx)(tg iter:Expr)(wi:TI):Prop:=
 ∀(pins:List (Addr × Obj)) (s:Shared) (σ:St) (H:Hp) (R:It->Hp->Prop),Inv X pins σ H s->wi σ H R->
  wpAny (model X.prog X.w) X.A (eval iter X.env) (λ v s1=>wpAny (model X.prog X.w) X.A (pyIter v) (Oq X pins σ tg R) X.xe s1) X.xe s
theorem X6 {A:Around}{it:Addr}{o:Obj}{n:String}{vs:Array Value}{Q:Unit->Shared->Prop}(ho:s.heap.get? it=some o)(hc:o.cls=.type n)(hd:o.data=.fields vs)
  (hn:["enumerate", "zip", "dict_itemiterator", "dict_reverseitemiterator", "odict_iterator", "itertools.zip_longest", "itertools.pairwise"].contains n=false)(hQ:Q () s):wpAny M A (letOwnedTupleGo tg (.ref it) u) Q E s:=by
 unfold letOwnedTupleGo;cases tg<;>first
  | exact qa1 hQ
  | (cases u<;>first
    | exact qa1 hQ
    | (
      refine qa0 (wpAny_load ho ?_);rw [hc,hd];show wpAny M A (if (["enumerate", "zip", "dict_itemiterator", "dict_reverseitemiterator", "odict_iterator", "itertools.zip_longest", "itertools.pairwise"].contains n&&vs[0]?==some (rawInt _))=true then _ else _) Q E s;rw [if_neg (by intro h;rw [hn,Bool.false_and] at h;cases h)]
      exact qa1 hQ))
noncomputable def Oj (K:Frag)(a:Addr):It:=
 ⟨λ i H=>∃xs x,qZ K H a xs/\xs[i]? =some x,λ i H x H'=>H'=H/\∀xs,qZ K H a xs->xs[i]? =some x,λ i H=>∃xs,qZ K H a xs/\xs.length<=i⟩
noncomputable def Og (K:Frag)(a:Addr):It:=
 ⟨λ i H=>∃xs x,qv K H a xs/\xs[i]? =some x,λ i H x H'=>H'=H/\∀xs,qv K H a xs->xs[i]? =some x,λ i H=>∃xs,qv K H a xs/\xs.length<=i⟩
noncomputable def W3 (lo:Int)(n:Nat):It:=⟨λ i _=>i<n,λ i H x H'=>H'=H/\x=.int (lo+i),λ i _=>n<=i⟩
theorem LN {K:Frag}(a it:Addr):Turn P w K tg (Oj K a) [it] it (λ i h=>h.IsListIter it a i) where
 mem:=by simp
 obj:=λ i h st b hb=>by
  have e:b=it:=by simpa using hb
  subst e;obtain ⟨o,e,c,d⟩:=st;exact ⟨o,e,λ v z=>by rw [d] at z;cases z⟩
 keep:=λ i h h' st k=>st.at λ o e=>k it (by simp) o e
 item:=by
  intro X hP hw hK hc i pins s σ H E I hf st hg;subst hP hw hK;obtain ⟨xs,x,hq,hx⟩:=hg;obtain ⟨its,rv,p,hz⟩:=I.list hq;obtain ⟨u,hu,ru⟩:=rv.get hx;obtain ⟨f0,f1,f2,f3,f4,f5⟩:=hf it (by simp)
  refine wpAny_pyNext_list_item st p.isList (x:=u) (by simpa using hu) λ h' st' sb=>?_
  have I1:Inv X pins σ H { s with heap:=h' }:=I.turned (t':=s.toks) (λ b o hb e=>(sb.2 b hb).trans e) f0 f1 f3 f4 f5
  obtain ⟨o,e,c,d⟩:=id st';exact ⟨u,rfl,X6 (s:={ s with heap:=h' }) e c d (by decide) ⟨x,H,I1,ru,⟨rfl,λ ys hy=>by rw [I.list_inj hy hq];exact hx⟩,st',λ b hb=>(hf b hb).1⟩⟩
 done:=by
  intro X hP hw hK hc i pins s σ H E I hf st hg;subst hP hw hK;obtain ⟨xs,hq,hx⟩:=hg;obtain ⟨its,rv,p,hz⟩:=I.list hq;obtain ⟨f0,f1,f2,f3,f4,f5⟩:=hf it (by simp)
  have hl:=rv.length;exact wpAny_pyNext_list_end (I.ok.hd hc) st p.isList (by simp;omega) λ h' eb=>⟨rfl,I.turned (t':=s.toks) (λ b o hb e=>eb b o hb e) f0 f1 f3 f4 f5⟩
 self:=λ _ _ _ _ _ st h=>wpAny_pyIter_listiter st h
theorem Mv {K:Frag}(a it:Addr):Turn P w K tg (Og K a) [it] it (λ i h=>h.IsTupleIter it a i) where
 mem:=by simp
 obj:=λ i h st b hb=>by
  have e:b=it:=by simpa using hb
  subst e;obtain ⟨o,e,c,d⟩:=st;exact ⟨o,e,λ v z=>by rw [d] at z;cases z⟩
 keep:=λ i h h' st k=>st.at λ o e=>k it (by simp) o e
 item:=by
  intro X hP hw hK hc i pins s σ H E I hf st hg;subst hP hw hK;obtain ⟨xs,x,hq,hx⟩:=hg;obtain ⟨its,rv,p,hz⟩:=I.tuple hq;obtain ⟨u,hu,ru⟩:=rv.get hx;obtain ⟨f0,f1,f2,f3,f4,f5⟩:=hf it (by simp)
  refine wpAny_pyNext_tuple_item st (show s.heap.IsTuple a its.toArray from p) (x:=u) (by simpa using hu) λ h' st' sb=>?_
  have I1:Inv X pins σ H { s with heap:=h' }:=I.turned (t':=s.toks) (λ b o hb e=>(sb.2 b hb).trans e) f0 f1 f3 f4 f5
  obtain ⟨o,e,c,d⟩:=id st';exact ⟨u,rfl,X6 (s:={ s with heap:=h' }) e c d (by decide) ⟨x,H,I1,ru,⟨rfl,λ ys hy=>by rw [I.tuple_inj hy hq];exact hx⟩,st',λ b hb=>(hf b hb).1⟩⟩
 done:=by
  intro X hP hw hK hc i pins s σ H E I hf st hg;subst hP hw hK;obtain ⟨xs,hq,hx⟩:=hg;obtain ⟨its,rv,p,hz⟩:=I.tuple hq;obtain ⟨f0,f1,f2,f3,f4,f5⟩:=hf it (by simp)
  have hl:=rv.length;exact wpAny_pyNext_tuple_end (I.ok.hd hc) st (show s.heap.IsTuple a its.toArray from p) (by simp;omega) λ h' eb=>⟨rfl,I.turned (t':=s.toks) (λ b o hb e=>eb b o hb e) f0 f1 f3 f4 f5⟩
 self:=λ _ _ _ _ _ st h=>wpAny_pyIter_tupleiter st h
theorem ML {K:Frag}(it:Addr)(lo:Int)(n:Nat):Turn P w K tg (W3 lo n) [it] it (λ i h=>IsRangeIter h it (lo+(i:Nat) * 1) ((n:Int) - (i:Nat)) 1) where
 mem:=by simp
 obj:=λ i h st b hb=>by
  have e:b=it:=by simpa using hb
  subst e;exact ⟨_,st,λ v z=>by
   have z':Data.fields _=Data.cell v:=z;cases z'⟩
 keep:=λ i h h' st k=>k it (by simp) _ st
 item:=by
  intro X hP hw hK hc i pins s σ H E I hf st hg;subst hP hw hK;obtain ⟨f0,f1,f2,f3,f4,f5⟩:=hf it (by simp)
  have W:=Walks.range (prog:=X.prog) (w:=X.w) (I.ok.hd hc) it lo 1 n;refine W.item i s _ _ hg st λ v h' tk hv st' kk=>?_;obtain ⟨t,rfl⟩:=hv;have I1:Inv X pins σ H { s with heap:=h',toks:=tk }:=I.turned (λ b o hb e=>kk b o (by simpa using hb) e) f0 f1 f3 f4 f5
  refine ⟨_,rfl,X6 (s:={ s with heap:=h',toks:=tk }) (n := "range_iterator") st' rfl rfl (by decide) ⟨.int (lo+i),H,I1,⟨t,?_⟩,⟨rfl,rfl⟩,st',λ b hb=>(hf b hb).1⟩⟩
  rw [Int.mul_one]
 done:=by
  intro X hP hw hK hc i pins s σ H E I hf st hg;subst hP hw hK;obtain ⟨f0,f1,f2,f3,f4,f5⟩:=hf it (by simp)
  exact wpAny_pyNext_range_end (I.ok.hd hc) st (by have:n<=i:=hg;omega) λ h' eb=>⟨rfl,I.turned (t':=s.toks) (λ b o hb e=>eb b o hb e) f0 f1 f3 f4 f5⟩
 self:=λ _ _ _ _ _ st h=>wpAny_pyIter_rangeiter st h
section
variable {X:Cx}
theorem Fg {σ:St}{H:Hp}{R:It->Hp->Prop}{lo hi:Int}{t u v:Tok}{tk:Nat}(I:Inv X pins σ H s)(h1:-(2 ^ 62)<=lo)(h2:lo<2 ^ 62)(h3:-(2 ^ 62)<=hi)(h4:hi<2 ^ 62)
  (q:R (W3 lo (hi - lo).toNat) H):wpAny (model X.prog X.w) X.A (pyIter (.ref s.heap.objs.size)) (Oq X pins σ tg R) E { s with heap:=s.heap.push { cls:=.type "range",data:=.fields #[.int lo t,.int hi u,.int 1 v] },toks:=tk }:=by
 refine wpAny_pyIter_range (IsRange.new ..) (small_one h1 h2 h3 h4) ?_;have I1:Inv X pins σ H { s with heap:=s.heap.push { cls:=.type "range",data:=.fields #[.int lo t,.int hi u,.int 1 v] },toks:=tk }:=I.kept λ b o e=>get?_push_of_some _ e
 refine ⟨(s.heap.push { cls:=.type "range",data:=.fields #[.int lo t,.int hi u,.int 1 v] }).objs.size,[(s.heap.push { cls:=.type "range",data:=.fields #[.int lo t,.int hi u,.int 1 v] }).objs.size],_,_,H,rfl,
  I1.kept (t':=tk) λ b o e=>get?_push_of_some _ e,ML _ lo (hi - lo).toNat,?_,λ b hb=>?_,q⟩
 ·have e1:lo+((0:Nat):Int) * 1=lo:=by simp
  have e2:(((hi - lo).toNat:Nat):Int) - ((0:Nat):Int)=Builtin.Range.rangeSize lo hi 1:=by rw [rangeSize_one];split<;>omega
  show IsRangeIter _ _ (lo+((0:Nat):Int) * 1) ((((hi - lo).toNat:Nat):Int) - ((0:Nat):Int)) 1;rw [e1,e2];exact get?_push_size _ rfl
 ·have e:b=(s.heap.push { cls:=.type "range",data:=.fields #[.int lo t,.int hi u,.int 1 v] }).objs.size:=by simpa using hb
  subst e;exact I1.fpOk (le_refl _) (I1.hok.fresh (le_refl _))
noncomputable def Bb (ta:TA):TI:=λ σ H R=>ta σ H λ vs H1=>∃j:Int,vs=[.int j]/\-(2 ^ 62)<=j/\j<2 ^ 62/\R (W3 0 j.toNat) H1
theorem Li {a:Expr}{ta:TA}(hg:Gl X "range")(hm:X.mg "range" = none)(ha:PA X [a] ta)(hs:starEach [a] X.env=[(false,eval a X.env)]:=by rfl):PI X tg (.Call (.Name "range" p) [a] [] pos) (Bb ta):=by
 intro pins s σ H R I h;refine Call_ (Z1 I hg hm boot_range (PyProof.Rows.callWith_type1 (zP (ha pos pins s σ H _ I h) λ us s1 ⟨vs,H1,I1,r1,q1⟩=>?_) hs rfl));obtain ⟨j,e,q1,q2,q⟩:=q1;subst e;cases r1 with
 | cons r rr=>
  cases rr;obtain ⟨t,rfl⟩:=r;exact call_range_1 (Fg I1 (by omega) (by omega) q1 q2 (by simpa using q))
noncomputable def Ay (wi:TI)(g:TG)(tb:TS):TS:=λ D σ H=>wi σ H λ J H1=>∃W:Nat->Nat->St->Hp->Prop,(∃m,W 0 m σ H1)/\∀i m σ H,W i m σ H->
 (J.stop i H/\D.nx σ H)∨(J.go i H/\∃N:St->Hp->Prop,(∀σ' H',N σ' H'->∃m',m'<m/\W (i+1) m' σ' H')/\∀x H',J.yld i H x H'->g x σ H' λ σ2 H2=>tb { D with nx:=N,ct:=N,bk:=D.nx } σ2 H2)
noncomputable def Yu (fp:List Addr)(h:Heap):List (Addr × Obj):=fp.filterMap λ b=>(h.get? b).map λ o=>(b,o)
theorem Kw {o:Obj}(hb:b∈fp)(e:h.get? b=some o):(b,o)∈Yu fp h:=List.mem_filterMap.mpr ⟨b,hb,by rw [e];rfl⟩
theorem LA {p:Addr × Obj}(hp:p∈Yu fp h):p.1∈fp/\h.get? p.1=some p.2:=by
 obtain ⟨b,hb,e⟩:=List.mem_filterMap.mp hp;cases q:h.get? b with
 | none=>rw [q] at e;cases e
 | some o=>
  rw [q] at e;have e':(b,o)=p:=Option.some.inj e;subst e';exact ⟨hb,q⟩
theorem Inv.pinned {σ:St}{H:Hp}(I:Inv X pins σ H s)(hf:∀b∈fp,yZ X pins H b)(ho:∀b∈fp,∃o,s.heap.get? b=some o/\∀v,o.data≠.cell v):Inv X (pins++Yu fp s.heap) σ H s:=
 I.pins_of λ p hp=>(List.mem_append.mp hp).elim (λ z=>I.pin p (mem_append_right _ z)) λ z=>by
  obtain ⟨hb,e⟩:=LA z;obtain ⟨f0,f1,f2,_⟩:=hf p.1 hb;obtain ⟨o,e',d⟩:=ho p.1 hb;rw [e] at e';cases e';exact ⟨e,f0,f1,f2,d⟩
theorem Inv.unpinned {pl:List (Addr × Obj)}{σ:St}{H:Hp}(I:Inv X (pins++pl) σ H s):Inv X pins σ H s:=I.pins_of λ p hp=>I.pin p (mem_append_right _ (List.mem_append_left _ hp))
theorem CB {wi:TI}{g:TG}{tb:TS}(hp:PassesOwn (model X.prog X.w) X.A X.env X.xe)(hc:X.calm=true)(hi:PI X tg iter wi)(hg:PG X tg g)(hb:yq X body tb)
  (hs:∀x,foldedSetIterable iter X.env x=pure x:=by intro _;rfl):PS X (.For tg iter body [] pos) (Ay wi g tb):=by
 intro pins s σ H D I h;refine wpAny_For (zP (hi pins s σ H _ I h) λ v s1 h1=>zP h1 λ itv s2 h2=>?_) hs;obtain ⟨it,fp,tn,J,H2,e,I2,T,wH,f2,W,⟨m0,w0⟩,turn⟩:=h2;subst e;have stat:∀{H':Hp},(∀b∈fp,H' b=none)->∀b∈fp,yZ X pins H' b:=λ hn b hb=>⟨hn b hb,(f2 b hb).2⟩;refine codeAny_forLoop_any (λ n s'=>∃i σ' H',Inv X pins σ' H' s'/\tn i s'.heap/\(∀b∈fp,H' b=none)/\W i n σ' H') ?_ m0 ⟨0,σ,H2,I2,wH,λ b hb=>(f2 b hb).1,w0⟩
 rintro n s3 ⟨i,σ3,H3,I3,wX,fr3,w3⟩
 rcases turn i n σ3 H3 w3 with ⟨stop,qn⟩ | ⟨go,N,hN,step⟩
 ·refine wpAny_passesOwn hp (zP (T.done X rfl rfl rfl hc i pins s3 σ3 H3 X.xe I3 (stat fr3) wX stop) λ r s4 ⟨hr,I4⟩=>?_)
  subst hr;exact wpAny_execs_nil ⟨σ3,H3,I4,qn⟩
 ·refine wpAny_passesOwn hp (zP (T.item X rfl rfl rfl hc i pins s3 σ3 H3 X.xe I3 (stat fr3) wX go) λ r s4 ⟨u,hr,h4⟩=>?_)
  subst hr;refine wpAny_passesOwn hp (zP h4 λ _ s5 ⟨x,H5,I5,r5,y5,st5,fr5⟩=>?_);have I5':=I5.pinned (stat fr5) (T.obj _ _ st5);refine wpAny_passesOwn hp (zP (hg _ s5 σ3 H5 x u _ I5' r5 (step x H5 y5)) λ _ s6 ⟨σ6,H6,I6,q6⟩=>?_);refine wpAny_passesOwn hp (zP (hb _ s6 σ6 H6 _ I6 q6) λ f s7 q7=>?_);have again:∀{σ7:St} {H7:Hp},Inv X (pins++Yu fp s5.heap) σ7 H7 s7->N σ7 H7->∃m,m<n/\∃i σ' H',Inv X pins σ' H' s7/\tn i s7.heap/\(∀b∈fp,H' b=none)/\W i m σ' H':=λ {σ7 H7} I7 n7=>by
   obtain ⟨m',hm,w7⟩:=hN σ7 H7 n7;refine ⟨m',hm,i+1,σ7,H7,I7.unpinned,T.keep _ _ _ st5 λ b hb o e=>(I7.pin (b,o) (mem_append_right _ (mem_append_right _ (Kw hb e)))).1,λ b hb=>?_,w7⟩;obtain ⟨o,e,d⟩:=T.obj _ _ st5 b hb;exact (I7.pin (b,o) (mem_append_right _ (mem_append_right _ (Kw hb e)))).2.1
  cases f with
  | next=>obtain ⟨σ7,H7,I7,n7⟩:=q7;exact again I7 n7
  | cont=>obtain ⟨σ7,H7,I7,n7⟩:=q7;exact again I7 n7
  | brk=>obtain ⟨σ7,H7,I7,q7⟩:=q7;exact ⟨σ7,H7,I7.unpinned,q7⟩
  | ret v=>obtain ⟨x7,σ7,H7,I7,r7,q7⟩:=q7;exact ⟨x7,σ7,H7,I7.unpinned,r7,q7⟩
end
noncomputable abbrev R2:=V->V->Hp->VK->Prop
noncomputable def qI (X:Cx)(f:Value->Value->Sem Value)(r:R2):Prop:=
 ∀(pins:List (Addr × Obj)) (s:Shared) (σ:St) (H:Hp) (x y:V) (v u:Value) (Q:VK),Inv X pins σ H s->RelV x v->RelV y u->r x y H Q->
  wpAny (model X.prog X.w) X.A (f v u) (EP X pins σ Q) X.xe s
noncomputable def WV (X:Cx)(f:Value->Sem Value)(r:V->Hp->VK->Prop):Prop:=
 ∀(pins:List (Addr × Obj)) (s:Shared) (σ:St) (H:Hp) (x:V) (v:Value) (Q:VK),Inv X pins σ H s->RelV x v->r x H Q->
  wpAny (model X.prog X.w) X.A (f v) (EP X pins σ Q) X.xe s
noncomputable def j3 (X:Cx)(f:Value)(r:List V->Hp->VK->Prop):Prop:=
 ∀(pins:List (Addr × Obj)) (s:Shared) (σ:St) (H:Hp) (xs:List V) (us:List Value) (Q:VK),Inv X pins σ H s->Vals xs us->r xs H Q->
  wpAny (model X.prog X.w) X.A (call f us) (EP X pins σ Q) X.xe s
noncomputable def Y5 (r:R2)(ta tb:TE):TE:=λ σ H Q=>ta σ H λ x H1=>tb σ H1 λ y H2=>r x y H2 Q
noncomputable def P9 (r:V->Hp->VK->Prop)(ta:TE):TE:=λ σ H Q=>ta σ H λ x H1=>r x H1 Q
noncomputable def rI (C:Int->Int->Prop)(g:Int->Int->V):R2:=λ x y H Q=>∃i j,x=.int i/\y=.int j/\C i j/\Q (g i j) H
noncomputable def Ze (g:Int->Int->V):R2:=λ x y H Q=>∃i j,x=.int i/\y=.int j/\Q (g i j) H
noncomputable def rU (g:Int->V):V->Hp->VK->Prop:=λ x H Q=>∃i,x=.int i/\Q (g i) H
section
variable {X:Cx}{a b:Expr}{ta tb:TE}
theorem Vf (ha:PE X a ta)(hb:PE X b tb){σ:St}{H:Hp}{R:V->V->Hp->Prop}(I:Inv X pins σ H s)
  (h:ta σ H λ x H1=>tb σ H1 λ y H2=>R x y H2){f:Value->Value->Sem Value}
  (hf:∀v u s2 x y H2,Inv X pins σ H2 s2->RelV x v->RelV y u->R x y H2->wpAny (model X.prog X.w) X.A (f v u) Q X.xe s2):
  wpAny (model X.prog X.w) X.A (eval a X.env) (λ v s₁=>wpAny (model X.prog X.w) X.A (eval b X.env) (λ u s₂=>wpAny (model X.prog X.w) X.A (f v u) Q X.xe s₂) X.xe s₁) X.xe s:=by
 refine zP (ha pins s σ H _ I h) λ v s1 ⟨x,H1,I1,r1,q1⟩=>?_;refine zP (hb pins s1 σ H1 _ I1 q1) λ u s2 ⟨y,H2,I2,r2,q2⟩=>?_;exact hf v u s2 x y H2 I2 r1 r2 q2
theorem Be {op:Operator}{r:R2}(ho:qI X (binaryOp op) r)(ha:PE X a ta)(hb:PE X b tb):PE X (.BinOp a op b pos) (Y5 r ta tb):=by
 intro pins s σ H Q I h;exact wpAny_BinOp (Vf ha hb I h λ v u s2 x y H2 I2 rx ry q=>ho pins s2 σ H2 x y v u Q I2 rx ry q)
theorem Bn {op:UnaryOp}{r:V->Hp->VK->Prop}(ho:WV X (unaryOp op) r)(ha:PE X a ta):PE X (.UnaryOp op a pos) (P9 r ta):=by
 intro pins s σ H Q I h;exact UnaryOp_ (zP (ha pins s σ H _ I h) λ v s1 ⟨x,H1,I1,r1,q1⟩=>ho pins s1 σ H1 x v Q I1 r1 q1)
theorem WY {f:Value->Value->Sem Value}{C:Int->Int->Prop}{g:Int->Int->Int}
  (rule:∀(i j:Int) (t u:Tok) (s:Shared) (Q:Value->Shared->Prop) (E:Value->Shared->Prop),C i j->Q (.int (g i j) s.toks) { s with toks:=s.toks+1 }->wpAny (model X.prog X.w) X.A (f (.int i t) (.int j u)) Q E s):
  qI X f (rI C λ i j=>.int (g i j)):=by
 intro pins s σ H x y v u Q I rx ry h;obtain ⟨i,j,rfl,rfl,hc,q⟩:=h;obtain ⟨t,rfl⟩:=rx;obtain ⟨t',rfl⟩:=ry;exact rule i j t t' s _ _ hc ⟨.int (g i j),H,I.tok _,⟨_,rfl⟩,q⟩
theorem Vm {f:Value->Value->Sem Value}{g:Int->Int->Int}
  (rule:∀(i j:Int) (t u:Tok) (s:Shared) (Q:Value->Shared->Prop) (E:Value->Shared->Prop),Q (.int (g i j) s.toks) { s with toks:=s.toks+1 }->wpAny (model X.prog X.w) X.A (f (.int i t) (.int j u)) Q E s):
  qI X f (Ze λ i j=>.int (g i j)):=by
 intro pins s σ H x y v u Q I rx ry h;obtain ⟨i,j,rfl,rfl,q⟩:=h;obtain ⟨t,rfl⟩:=rx;obtain ⟨t',rfl⟩:=ry;exact rule i j t t' s _ _ ⟨.int (g i j),H,I.tok _,⟨_,rfl⟩,q⟩
theorem Ve {f:Value->Value->Sem Value}{g:Int->Int->Bool}
  (rule:∀(i j:Int) (t u:Tok) (s:Shared) (Q:Value->Shared->Prop) (E:Value->Shared->Prop),Q (.bool (g i j)) s->wpAny (model X.prog X.w) X.A (f (.int i t) (.int j u)) Q E s):
  qI X f (Ze λ i j=>.bl (g i j)):=by
 intro pins s σ H x y v u Q I rx ry h;obtain ⟨i,j,rfl,rfl,q⟩:=h;obtain ⟨t,rfl⟩:=rx;obtain ⟨t',rfl⟩:=ry;exact rule i j t t' s _ _ ⟨.bl (g i j),H,I,rfl,q⟩
noncomputable def P1 (i j:Int):Prop:=0<=j/\j<=1000000/\i.natAbs<2 ^ 64
noncomputable def YI (i j:Int):Prop:=(-(2 ^ 64)<i/\i<2 ^ 64)∨(-(2 ^ 64)<j/\j<2 ^ 64)
theorem YI.ok {i j:Int}(h:YI i j):IntMulOk i j:=by
 rcases h with ⟨h1,h2⟩ | ⟨h1,h2⟩
 ·exact .of_left (intBits_le_64 h1 h2)
 ·exact .of_right (intBits_le_64 h1 h2)
theorem DV:qI X (binaryOp .Add) (Ze λ i j=>.int (i+j)):=Vm λ _ _ _ _ _ _ _ q=>add_int q
theorem DB:qI X (binaryOp .Sub) (Ze λ i j=>.int (i - j)):=Vm λ _ _ _ _ _ _ _ q=>sub_int q
theorem DT:qI X (binaryOp .Mult) (rI YI λ i j=>.int (i * j)):=WY λ _ _ _ _ _ _ _ hc q=>mul_int q hc.ok
theorem Dp:qI X (binaryOp .Mod) (rI (λ _ j=>0<j) λ i j=>.int (i % j)):=WY λ i j _ _ _ _ _ hc q=>by
 have h1:(0:Int)<j:=hc;exact mod_int' (by omega) (by rw [Int.fmod_eq_emod_of_nonneg i (by omega)];exact q)
theorem CW:qI X (binaryOp .Pow) (rI P1 λ i j=>.int (i ^ j.toNat)):=WY λ _ _ _ _ _ _ _ hc q=>pow_int_small hc.1 hc.2.1 hc.2.2 q
theorem Cd:qI X (binaryOp .BitXor) (Ze λ i j=>.int (Builtin.bitXor i j)):=Vm λ _ _ _ _ _ _ _ q=>xor_int q
theorem unI {f:Value->Sem Value}{g:Int->Int}
  (rule:∀(i:Int) (t:Tok) (s:Shared) (Q:Value->Shared->Prop) (E:Value->Shared->Prop),Q (.int (g i) s.toks) { s with toks:=s.toks+1 }->wpAny (model X.prog X.w) X.A (f (.int i t)) Q E s):
  WV X f (rU λ i=>.int (g i)):=by
 intro pins s σ H x v Q I rx h;obtain ⟨i,rfl,q⟩:=h;obtain ⟨t,rfl⟩:=rx;exact rule i t s _ _ ⟨.int (g i),H,I.tok _,⟨_,rfl⟩,q⟩
theorem Dz:WV X (unaryOp .USub) (rU λ i=>.int (-i)):=unI λ _ _ _ _ _ q=>neg_int q
variable {c:Expr}{tc:TE}
theorem DP {σ:St}{H:Hp}{Q:VK}{k k':Bool}(I:Inv X pins σ H s)(q:Q (.bl k) H)(e:k=k'):EP X pins σ Q (.bool k') s:=by
 subst e;exact ⟨.bl k,H,I,rfl,q⟩
theorem Bx:qI X (compareOp .Lt) (Ze λ i j=>.bl (decide (i<j))):=Ve λ _ _ _ _ _ _ _ q=>lt_int q
theorem Ae:qI X (compareOp .LtE) (Ze λ i j=>.bl (decide (i<=j))):=Ve λ _ _ _ _ _ _ _ q=>le_int q
theorem BC:qI X (compareOp .GtE) (Ze λ i j=>.bl (decide (j<=i))):=Ve λ _ _ _ _ _ _ _ q=>ge_int q
theorem Dm:qI X (compareOp .IsNot) (λ x y H Q=>y=.non/\Q (.bl (!decide (x=.non))) H):=by
 intro pins s σ H x y v u Q I rx ry h;obtain ⟨rfl,q⟩:=h;cases ry;refine isnot_none_gen (DP I q ?_);cases x<;>first
  | (cases rx;rfl)
  | (obtain ⟨t,rfl⟩:=rx;rfl)
theorem qI.or {f:Value->Value->Sem Value}{r r':R2}(h:qI X f r)(h':qI X f r'):qI X f (λ x y H Q=>r x y H Q∨r' x y H Q):=by
 intro pins s σ H x y v u Q I rx ry q;rcases q with q | q
 ·exact h pins s σ H x y v u Q I rx ry q
 ·exact h' pins s σ H x y v u Q I rx ry q
theorem EK {r:R2}(ho:qI X (compareOp op) r)(ha:PE X a ta)(hb:PE X b tb)(hm:behindInMarks op b=false):PE X (.Compare a [op] [b] pos) (Y5 r ta tb):=by
 intro pins s σ H Q I h;exact wpAny_Compare1 (Vf ha hb I h λ v u s2 x y H2 I2 rx ry q=>ho pins s2 σ H2 x y v u Q I2 rx ry q) hm
noncomputable def Pu (t:TE):TT:=λ σ H Q=>t σ H λ x H'=>∃k,x=.bl k/\Q k H'
theorem EJ {r:R2}(ho:qI X (compareOp op) r)(ha:PE X a ta)(hb:PE X b tb)(hm:behindInMarks op b=false):PT X (.Compare a [op] [b] pos) (Pu (Y5 r ta tb)):=by
 intro pins s σ H Q I h;refine wpAny_isTrue_Compare1 (zP (ha pins s σ H _ I h) λ v s1 ⟨x,H1,I1,r1,q1⟩=>zP (hb pins s1 σ H1 _ I1 q1) λ u s2 ⟨y,H2,I2,r2,q2⟩=>
  zP (ho pins s2 σ H2 x y v u _ I2 r1 r2 q2) λ c s3 ⟨z,H3,I3,r3,k,e,q3⟩=>?_) hm
 subst e;cases r3;exact wpAny_truthy_bool ⟨H3,I3,q3⟩
noncomputable def XD (r r':R2)(ta tb tc:TE):TE:=λ σ H Q=>ta σ H λ x H1=>tb σ H1 λ y H2=>r x y H2 λ z H3=>∃k,z=.bl k/\
 (if k=true then tc σ H3 λ w' H4=>r' y w' H4 Q else Q (.bl false) H3)
theorem IP {op':CmpOp}{r r':R2}(ho:qI X (compareOp op) r)(ho':qI X (compareOp op') r')(ha:PE X a ta)(hb:PE X b tb)(hc:PE X c tc)
  (hm:lastMarks [op,op'] [b,c]=false:=by with_unfolding_all rfl):PE X (.Compare a [op,op'] [b,c] pos) (XD r r' ta tb tc):=by
 intro pins s σ H Q I h;refine Compare_chain (zP (ha pins s σ H _ I h) λ v s1 ⟨x,H1,I1,r1,q1⟩=>chain_link (zP (hb pins s1 σ H1 _ I1 q1) λ u s2 ⟨y,H2,I2,r2,q2⟩=>
  zP (ho pins s2 σ H2 x y v u _ I2 r1 r2 q2) λ d s3 ⟨z,H3,I3,r3,k,e,q3⟩=>?_)) hm
 subst e;cases r3;refine wpAny_truthy_bool ?_;cases k with
 | false=>exact ite_ff ⟨.bl false,H3,I3,rfl,q3⟩
 | true=>exact ite_tt (chain_last (zP (hc pins s3 σ H3 _ I3 q3) λ w' s4 ⟨z',H4,I4,r4,q4⟩=>ho' pins s4 σ H4 y z' u w' Q I4 r2 r4 q4))
theorem HS {op':CmpOp}{r r':R2}(ho:qI X (compareOp op) r)(ho':qI X (compareOp op') r')(ha:PE X a ta)(hb:PE X b tb)(hc:PE X c tc)
  (hm:lastMarks [op,op'] [b,c]=false:=by with_unfolding_all rfl):PT X (.Compare a [op,op'] [b,c] pos) (Pu (XD r r' ta tb tc)):=by
 intro pins s σ H Q I h;refine isTrue_chain (zP (ha pins s σ H _ I h) λ v s1 ⟨x,H1,I1,r1,q1⟩=>test_link (zP (hb pins s1 σ H1 _ I1 q1) λ u s2 ⟨y,H2,I2,r2,q2⟩=>
  zP (ho pins s2 σ H2 x y v u _ I2 r1 r2 q2) λ d s3 ⟨z,H3,I3,r3,k,e,q3⟩=>?_)) hm
 subst e;cases r3;refine wpAny_truthy_bool ?_;cases k with
 | false=>
  obtain ⟨k',e',q'⟩:=q3;cases e';exact ite_ff ⟨H3,I3,q'⟩
 | true=>
  refine ite_tt (test_last (zP (hc pins s3 σ H3 _ I3 q3) λ w' s4 ⟨z',H4,I4,r4,q4⟩=>zP (ho' pins s4 σ H4 y z' u w' _ I4 r2 r4 q4) λ d' s5 ⟨z2,H5,I5,r5,k2,e2,q5⟩=>?_));subst e2;cases r5;exact wpAny_truthy_bool ⟨H5,I5,q5⟩
theorem Js:(sizeLine:Nat)<2 ^ 63:=by rw [sizeLine_eq];decide
theorem vals1 {x:V}(r:Vals [x] us):∃u,us=[u]/\RelV x u:=by
 cases r with
 | cons r1 r2=>cases r2;exact ⟨_,rfl,r1⟩
theorem vals2 {x y:V}(r:Vals [x,y] us):∃u w',us=[u,w']/\RelV x u/\RelV y w':=by
 cases r with
 | cons r1 r2=>
  cases r2 with
  | cons r3 r4=>cases r4;exact ⟨_,_,rfl,r1,r3⟩
theorem HR:j3 X (.builtin "abs") (λ xs H Q=>∃i,xs=[.int i]/\Q (.int (if i<0 then -i else i)) H):=by
 intro pins s σ H xs us Q I r h;obtain ⟨i,rfl,q⟩:=h;obtain ⟨u,rfl,t,rfl⟩:=vals1 r;exact call_abs_int λ u tk=>⟨.int (if i<0 then -i else i),H,I.tok _,⟨_,rfl⟩,q⟩
theorem L1 (hc:X.calm=true):j3 X (.builtin "max") (λ xs H Q=>∃i j,xs=[.int i,.int j]/\Q (.int (if j > i then j else i)) H):=by
 intro pins s σ H xs us Q I r h;obtain ⟨i,j,rfl,q⟩:=h;obtain ⟨u,w',rfl,⟨t,rfl⟩,⟨t',rfl⟩⟩:=vals2 r;refine max_two_ints (I.ok.hd hc) λ h' tk k=>⟨_,H,I.kept k,?_,q⟩
 by_cases hj:j > i
 ·rw [if_pos hj,if_pos hj];exact ⟨_,rfl⟩
 ·rw [if_neg hj,if_neg hj];exact ⟨_,rfl⟩
theorem Lk (hc:X.calm=true):j3 X (.builtin "min") (λ xs H Q=>∃i j,xs=[.int i,.int j]/\Q (.int (if j<i then j else i)) H):=by
 intro pins s σ H xs us Q I r h;obtain ⟨i,j,rfl,q⟩:=h;obtain ⟨u,w',rfl,⟨t,rfl⟩,⟨t',rfl⟩⟩:=vals2 r;refine min_two_ints (I.ok.hd hc) λ h' tk k=>⟨_,H,I.kept k,?_,q⟩
 by_cases hj:j<i
 ·rw [if_pos hj,if_pos hj];exact ⟨_,rfl⟩
 ·rw [if_neg hj,if_neg hj];exact ⟨_,rfl⟩
theorem Ly:j3 X (.type "int") (λ xs H Q=>(∃i,xs=[.int i]/\Q (.int i) H)∨∃k,xs=[.bl k]/\Q (.int (if k then 1 else 0)) H):=by
 intro pins s σ H xs us Q I r h;rcases h with ⟨i,rfl,q⟩ | ⟨k,rfl,q⟩
 ·obtain ⟨u,rfl,t,rfl⟩:=vals1 r
  exact call_int_int ⟨.int i,H,I,⟨_,rfl⟩,q⟩
 ·obtain ⟨u,rfl,r1⟩:=vals1 r
  cases r1;exact call_int_bool ⟨.int (if k then 1 else 0),H,I.tok _,⟨_,rfl⟩,q⟩
end
structure Vh (h:Heap)(x dx C:Addr)(mA:Str->Option Value):Prop where
 obj:h.get? x=some (instObj C dx)
 ns:h.Ns1 dx mA
 ne:dx≠x
theorem Lw {dx:Addr}{mA:Str->Option Value}(n:h.Ns1 dx mA):∃od,h.get? dx=some od/\∀name,lookIn name od=some (mA name):=by
 obtain ⟨o,es,ep,ho,hd,hk,_,hm⟩:=n;refine ⟨o,ho,λ name=>?_⟩;have e:=hm name;unfold nsFind findBy at e;rw [<- Array.find?_toList] at e;unfold lookIn;rw [hd];dsimp only
 split
 ·rename_i y q
  rw [q] at e;exact congrArg some e
 ·rename_i q
  rw [q] at e;have a:es.toList.any (·.refKey)=false:=by
   rw [List.any_eq_false];intro y hy;obtain ⟨z,t,hkey⟩:=hk y (Array.mem_toList_iff.mp hy);simp [DictEntry.refKey,hkey]
  have a':¬es.toList.any (·.refKey)=true:=by rw [a];exact Bool.false_ne_true
  rw [if_neg a'];exact congrArg some e
theorem Vh.look {x dx C:Addr}{mA:Str->Option Value}(I:Vh h x dx C mA):∃od,PySem.W.InstAt h x (instObj C dx) C (some od)/\∀name,lookIn name od=some (mA name):=
 let ⟨od,ho,hl⟩:=Lw I.ns
 ⟨od,⟨I.obj,rfl,rfl,ho⟩,hl⟩
theorem ZD.some_of {v:V}{o:Option Value}(r:ZD (some v) o):∃u,o=some u/\RelV v u:=by
 cases o with
 | none=>exact (show False from r).elim
 | some u=>exact ⟨u,rfl,r⟩
section
variable {H:Hp}{C dx:Addr}{fs:List (Str × V)}
theorem ER (hok:jD P w H h)(e:H a=some (.ins C dx fs)):∃mA,Vh h a dx C mA/\(∀f,ZD (fs.lookup f) (mA f))/\PySem.Within mA (fs.map (·.1))/\fs.length<=1000/\H dx=some (.own a):=by
 obtain ⟨d,z,ne,ob,mA,n,r,q⟩:=(show qQ P w H h a (.ins C dx fs) from hok a _ e)
 exact ⟨mA,⟨ob,n,ne⟩,r,q,z,d⟩
end
structure wd (K:Frag)(C:Addr):Prop where
 pg:plainGet K C Str.empty=true
 hd:PySem.W.hasDictIn K C=true
 po:PySem.W.plainOver K C=true
 sa:PySem.W.findIn K (.ref C) "__setattr__" = some (some (.builtin "object.__setattr__"))
theorem wd.get {K:Frag}{C:Addr}(c:wd K C)(f:Str):plainGet K C f=true:=c.pg
section
variable {X:Cx}{σ:St}{H:Hp}{A:Around}{c:Value}{b:Bool}
inductive wG (K:Frag)(H:Hp):V->Value->Prop where
 | non:wG K H .non (.type "NoneType")
 | bl (x:Bool):wG K H (.bl x) (.type "bool")
 | int (i:Int):wG K H (.int i) (.type "int")
 | str (x:Str):wG K H (.str x) (.type "str")
 | flt (x:UInt64):wG K H (.flt x) (.type "float")
 | lst {a:Addr} {xs:List V} (e:H a=some (.lst xs)):wG K H (.ref a) (.type "list")
 | frz {a:Addr} {o:Obj} {xs:List V} (e:H a=some (.frz o (.lst xs))):wG K H (.ref a) (.type "list")
 | tup {a:Addr} {xs:List V} (e:H a=some (.tup xs)):wG K H (.ref a) (.type "tuple")
 | dK {a:Addr} {kvs:List (Key × V)} (e:H a=some (.dK kvs)):wG K H (.ref a) (.type "dict")
 | dT {a:Addr} {kvs:List (List Key × V)} (e:H a=some (.dT kvs)):wG K H (.ref a) (.type "dict")
 | ins {a C dx:Addr} {fs:List (Str × V)} (e:H a=some (.ins C dx fs)) (cl:wd K C) (ha:PySem.W.findIn K (.ref C) "__class__" = some (some (.builtin "object.__class__")))
   (hn:PySem.W.specialIn K (.builtin "object.__class__") "__get__" = some (some (.builtin "getset_descriptor.__get__"))) (htk:PySem.W.takesIn K (.builtin "object.__class__")=some true)
   (hm:PySem.W.mroIn K C (.type "object")=some true):wG K H (.ref a) (.ref C)
theorem TH {x:V}{t:Value}(I:Inv X pins σ H s)(rx:RelV x u)(ty:wG X.K H x t)(e:kitOne X.K t c=some b)(h:∀tk,Q (.bool b) { s with toks:=tk }):
  wpAny (model X.prog X.w) A (call (.builtin "isinstance") [u,c]) Q E s:=by
 cases ty with
 | non=>cases (show u=Value.none from rx);exact kia_one kitx_none I.kIn True.intro e (λ z=>nomatch z) h
 | bl y=>cases (show u=Value.bool y from rx);exact kia_one kitx_bool I.kIn True.intro e (λ z=>nomatch z) h
 | int i=>obtain ⟨t,q⟩:=(show ∃t,u=Value.int i t from rx);cases q;exact kia_one kitx_int I.kIn True.intro e (λ z=>nomatch z) h
 | str y=>obtain ⟨t,q⟩:=(show ∃t,u=Value.str y t from rx);cases q;exact kia_one kitx_str I.kIn True.intro e (λ z=>nomatch z) h
 | flt y=>obtain ⟨t,q⟩:=(show ∃t,u=Value.float y t from rx);cases q;exact kia_one kitx_float I.kIn True.intro e (λ z=>nomatch z) h
 | @lst a xs ea=>
  cases (show u=Value.ref a from rx)
  obtain ⟨_,_,n,_,h1⟩:=(show qQ X.prog X.w H s.heap a (.lst xs) from I.hok a _ ea)
  exact kia_one kitx_list I.kIn ⟨_,h1,rfl⟩ e (λ z=>nomatch z) h
 | @frz a ob xs ea=>
  cases (show u=Value.ref a from rx)
  obtain ⟨_,_,_,n,_,h1⟩:=(show qQ X.prog X.w H s.heap a (.frz ob (.lst xs)) from I.hok a _ ea)
  exact kia_one kitx_list I.kIn ⟨_,h1,rfl⟩ e (λ z=>nomatch z) h
 | @tup a xs ea=>
  cases (show u=Value.ref a from rx)
  obtain ⟨_,_,_,p⟩:=(show qQ X.prog X.w H s.heap a (.tup xs) from I.hok a _ ea)
  obtain ⟨o,h1,h2,_⟩:=p;exact kia_one kitx_tuple I.kIn ⟨o,h1,h2.1⟩ e (λ z=>nomatch z) h
 | @dK a kvs ea=>
  cases (show u=Value.ref a from rx)
  obtain ⟨_,_,vs,_,p⟩:=(show qQ X.prog X.w H s.heap a (.dK kvs) from I.hok a _ ea)
  obtain ⟨o,es,ep,h1,h2,_⟩:=p;exact kia_one kitx_dict I.kIn ⟨o,h1,h2.1⟩ e (λ z=>nomatch z) h
 | @dT a kvs ea=>
  cases (show u=Value.ref a from rx)
  obtain ⟨_,_,xs,_,o,es,ep,h1,h2,_⟩:=(show qQ X.prog X.w H s.heap a (.dT kvs) from I.hok a _ ea)
  exact kia_one kitx_dict I.kIn ⟨o,h1,h2.1⟩ e (λ z=>nomatch z) h
 | @ins a C dx fs ea cl ha hn htk hm=>
  cases (show u=Value.ref a from rx)
  obtain ⟨mA,O,_⟩:=ER I.hok ea;obtain ⟨od,J,_⟩:=O.look;exact kia_one (PySem.W.kitx_own (cl.get _) cl.hd ha hn htk hm) I.kIn J e (λ z=>nomatch z) h
end
structure jm (k:Nat)(A:Around):Prop where
 hd:A.handled=none
 dp:A.depth+3 * k+5<recursionLimit
 un:A.units+16 * k+200<cLine
theorem jm.mono {k:Nat}{A:Around}(r:jm k A)(h:j<=k):jm j A:=⟨r.hd,by have:=r.dp;omega,by have:=r.un;omega⟩
theorem jm.deeper {k:Nat}{A:Around}(r:jm (k+1) A)(env:Env):jm k (A.deeper env):=
 ⟨r.hd,by have:=r.dp;show A.depth+1+3 * k+5<_;omega,by have:=r.un;show A.units+3+16 * k+200<_;omega⟩
theorem jm.depth {k:Nat}{A:Around}(r:jm k A):A.depth<recursionLimit:=by have:=r.dp;omega
theorem jm.units {k:Nat}{A:Around}(r:jm k A):A.units+64<cLine:=by have:=r.un;omega
noncomputable def Vd:TA:=λ _ H Q=>Q [] H
noncomputable def Wq (ta:TE)(tr:TA):TA:=λ σ H Q=>ta σ H λ x H1=>tr σ H1 λ xs H2=>Q (x::xs) H2
section
variable {X:Cx}{es:List Expr}{te:TE}{t:TA}
theorem jW:PA X [] Vd:=λ _ _ _ _ H Q I h=>Calls.spliced_nil ⟨[],H,I,.nil,h⟩
theorem jj (ha:PE X e te)(hr:PA X es t)(hs:starEach (e::es) X.env=(false,eval e X.env)::starEach es X.env:=by rfl):PA X (e::es) (Wq te t):=by
 intro pos pins s σ H Q I h;rw [hs];show wpAny _ _ (spliced ((false,eval e X.env)::backTo pos (starEach es X.env))) _ _ s;refine Calls.spliced_cons (zP (ha pins s σ H _ I h) λ u s1 ⟨x,H1,I1,r1,q1⟩=>?_);exact zP (hr pos pins s1 σ H1 _ I1 q1) λ us s2 ⟨xs,H2,I2,r2,q2⟩=>⟨x::xs,H2,I2,.cons r1 r2,q2⟩
noncomputable def AS (t:TA):TE:=λ σ H Q=>t σ H λ xs H1=>xs.length<=sizeLine/\∀p,H1 p=none->Q (.ref p) (upd H1 p (.tup xs))
noncomputable def AJ (t:TA):TE:=λ σ H Q=>t σ H λ xs H1=>xs.length<=sizeLine/\∀p,H1 p=none->Q (.ref p) (upd H1 p (.lst xs))
theorem Pb {x1}(h:PA X es t):PE X (.Tuple es x1 pos) (AS t):=by
 intro pins s σ H Q I hq;refine wpAny_Tuple_spliced (zP (h pos pins s σ H _ I hq) λ us s1 ⟨xs,H1,I1,r,z,q⟩=>⟨by rw [<- r.length];exact z,?_⟩)
 have hf:H1 s1.heap.objs.size=none:=I1.hok.fresh (le_refl _);refine ⟨.ref s1.heap.objs.size,upd H1 s1.heap.objs.size (.tup xs),I1.laid (t':=s1.toks) (λ b u e=>get?_push_of_some _ e) (le_refl _) ?_,rfl,q _ hf⟩;exact ⟨z,us,r,⟨_,get?_push_size _ rfl,⟨rfl,rfl⟩,_,rfl⟩⟩
theorem CK (h:PA X es t):PE X (.List es pos) (AJ t):=by
 intro pins s σ H Q I hq;refine wpAny_List_spliced (zP (h pos pins s σ H _ I hq) λ us s1 ⟨xs,H1,I1,r,z,q⟩=>⟨by rw [<- r.length];exact z,?_⟩)
 have hf:H1 s1.heap.objs.size=none:=I1.hok.fresh (le_refl _);refine ⟨.ref s1.heap.objs.size,upd H1 s1.heap.objs.size (.lst xs),I1.laid (t':=s1.toks) (λ b u e=>get?_push_of_some _ e) (le_refl _) ?_,rfl,q _ hf⟩;exact ⟨z,us,0,r,get?_push_size _ rfl⟩
end
noncomputable abbrev Sp:=List V->Hp->VK->XK->Prop
noncomputable abbrev w5:=List Env->Hp->Shared->XK->Value->Shared->Prop
structure QN (P:Program)(w:World)(K:Frag)(mg:Str->Option Value)(base:Heap)(A:Around)(outer:List Env)(s:Shared)(H:Hp):Prop where
 frames:A.frames=some outer
 mod:Mod K mg base
 bs:∀b o,base.get? b=some o->s.heap.get? b=some o/\H b=none
 bsz:base.objs.size<=s.heap.objs.size
 funs:s.heap.FunFrames base outer
 frf:∀b∈qp outer,H b=none
 hok:jD P w H s.heap
 bare:AllBare s.gens
inductive CE (outer:List Env)(P:Program)(w:World)(H:Hp)(s:Shared)(Q:VK)(u:Value)(s':Shared):Prop
 | mk (v:V) (H':Hp) (os:s'.os=s.os) (b:AllBare s'.gens) (un:Un (qp outer) [] H H' s.heap s'.heap) (hk:jD P w H' s'.heap) (r:RelV v u) (q:Q v H')
noncomputable def CR (CX:w5)(outer:List Env)(P:Program)(w:World)(H:Hp)(s:Shared)(Q:VK)(E:XK)(r:Result)(s':Shared):Prop:=
 match r with
 | .ok (.ret u)=>CE outer P w H s Q u s'
 | .ok _=>False
 | .error e=>CX outer H s E e s'
structure yy (P:Program)(w:World)(K:Frag)(mg:Str->Option Value)(base:Heap)(CX:w5)(k:Nat)(f:Addr)(fd:FuncData)(ps:List Str)(sp:Sp):Prop where
 len:∀vs H Q E,sp vs H Q E->vs.length=ps.length
 run:∀(A:Around) (outer:List Env) (s:Shared) (H:Hp) (args:Args) (us:List Value) (vs:List V) (Q:VK) (E:XK),jm k A->QN P w K mg base A outer s H->BindsTo s fd args (ps.zip us)->Vals vs us->sp vs H Q E->
  codeAny (model P w) A (.call (.ref f) args) (CR CX outer P w H s Q E) s
theorem yy.mono {K:Frag}{CX:w5}{k:Nat}{sp:Sp}(F:yy P w K mg base CX j f fd ps sp)(h:j<=k):
  yy P w K mg base CX k f fd ps sp:=⟨F.len,λ A outer s H args us vs Q E hr=>F.run A outer s H args us vs Q E (hr.mono h)⟩
theorem yy.imp {K:Frag}{CX:w5}{k:Nat}{sp sp':Sp}(F:yy P w K mg base CX k f fd ps sp)
  (h:∀vs H Q E,sp' vs H Q E->sp vs H Q E):yy P w K mg base CX k f fd ps sp':=
 ⟨λ vs H Q E q=>F.len vs H Q E (h _ _ _ _ q),λ A outer s H args us vs Q E hr he hb hv hs=>F.run A outer s H args us vs Q E hr he hb hv (h _ _ _ _ hs)⟩
section
variable {X:Cx}{σ:St}{H:Hp}
theorem Inv.env0 (I:Inv X pins σ H s):QN X.prog X.w X.K X.mg X.base X.A X.stack s H:=
 ⟨I.ok.frames,I.ok.mod,I.bs,le_trans I.ok.bsz I.sz,I.stack,I.stkFree,I.hok,I.bare⟩
theorem Inv.after {Q:VK}(I:Inv X pins σ H s)(h:CE X.stack X.prog X.w H s Q u s'):EP X pins σ Q u s':=by
 obtain ⟨v,H',os,bare,un,hok,r,q⟩:=h;obtain ⟨hh,g,d,t,os'⟩:=s';obtain rfl:os'=s.os:=os;exact ⟨v,H',I.call (h':=hh) (g':=g) (d':=d) (t':=t) (ch:=[]) un hok bare (λ b z=>absurd z (by simp)),r,q⟩
end
noncomputable def Ab (sp:Sp)(dvs:List V)(E:XK)(t:TA):TE:=λ σ H Q=>t σ H λ vs H1=>sp (vs++dvs) H1 Q E
noncomputable def Binds (K:Frag)(fd:FuncData)(ps:List Str)(ds:List Value):Prop:=
 ∀(s:Shared) (us:List Value),K.In s.heap->(us++ds).length=ps.length->BindsTo s fd ⟨us,[]⟩ (ps.zip (us++ds))
theorem Binds.all {K:Frag}(h:∀us:List Value,us.length=ps.length->bindArgs fd ⟨us,[]⟩=pure (ps.zip us)):Binds K fd ps []:=λ s us _ hl=>by
 rw [append_nil] at hl ⊢;exact .of_eq (h us hl)
noncomputable def Passes (CX:w5)(X:Cx)(E:XK):Prop:=∀(pins:List (Addr × Obj)) (σ:St) (H:Hp) (s:Shared) (e:Value) (s':Shared),Inv X pins σ H s->CX X.stack H s E e s'->X.xe e s'
section
variable {X:Cx}{CX:w5}{k:Nat}{sp:Sp}{dvs:List V}{ds:List Value}{E:XK}{es:List Expr}{t:TA}
theorem CC {σ:St}{H:Hp}{Q:VK}{vs:List V}(F:yy X.prog X.w X.K X.mg X.base CX k f fd ps sp)(hr:jm k X.A)(hb:Binds X.K fd ps ds)(hd:Vals dvs ds)(hx:Passes CX X E)
  (I:Inv X pins σ H s)(r:Vals vs us)(h:sp (vs++dvs) H Q E):wpAny (model X.prog X.w) X.A (call (.ref f) us) (EP X pins σ Q) X.xe s:=by
 have r2:Vals (vs++dvs) (us++ds):=r.append hd;have hl:(us++ds).length=ps.length:=by rw [<- r2.length];exact F.len _ _ _ _ h
 refine wpAny_call (codeAny_mono (F.run X.A X.stack s H ⟨us,[]⟩ (us++ds) (vs++dvs) Q E hr I.env0 (hb s us I.kIn hl) r2 h) λ r s' hq=>?_);cases r with
 | error e=>exact hx pins σ H s e s' I hq
 | ok fl=>
  cases fl with
  | ret u=>exact I.after hq
  | next=>exact False.elim hq
  | brk=>exact False.elim hq
  | cont=>exact False.elim hq
theorem Rm (F:yy X.prog X.w X.K X.mg X.base CX k f fd ps sp)(hr:jm k X.A)(hg:Gl X x)(hm:X.mg x=some (.ref f))(hk:keepIn X.K (.ref f)=true)(hb:Binds X.K fd ps ds)(hd:Vals dvs ds)(hx:Passes CX X E)
  (ha:PA X (e::es) t)(hdb:(x==("__debug__" : Str))=false:=by decide)(he:starEach (e::es) X.env=(false,eval e X.env)::starEach es X.env:=by rfl)(hpl:(backTo pos (starEach es X.env)).any (·.1)=false:=by rfl):
  PE X (.Call (.Name x p) (e::es) [] pos) (Ab sp dvs E t):=by
 intro pins s σ H Q I h;refine wpAny_Call_Name_kw (Jo I hg hm ?_ hdb);refine callWith_K (h₀:=X.base) I.ok.mod.kin hk (zP (ha pos pins s σ H _ I h) λ us s1 ⟨vs,H1,I1,r,q⟩=>⟨I1.kIn,?_⟩) he hpl;exact CC F hr hb hd hx I1 r q
end
structure qP (N P:List Str)(sc:Scope):Prop where
 kind:sc.kind=.function
 co:sc.isCoroutine=false
 gen:sc.isGenerator=false
 nd:N.Nodup
 pre:N.take P.length=P
 par:∀x∈P,sc.names.lookup x=some .local∨sc.names.lookup x=some .cell
 nofree:∀y∈sc.names,y.2≠.free
theorem T8 {kindOf:Str->Option NameKind}:∀{binds:List (Str × Value)} {m:Str->Option Value},(∀v,(x,v)∉binds)->bindL kindOf binds m x=m x
 | [],_,_=>rfl
 | (n,v)::r,m,h=>by
  unfold bindL;rw [T8 λ w hw=>h w (mem_cons_of_mem _ hw)]
  split
  ·have:x≠n:=by rintro rfl;exact h v mem_cons_self
   simp [this]
  ·rfl
theorem TQ {kindOf:Str->Option NameKind}:∀{binds:List (Str × Value)} {m:Str->Option Value},(∀v,(x,v)∉binds)->bindC kindOf binds m x=m x
 | [],_,_=>rfl
 | (n,v)::r,m,h=>by
  unfold bindC;rw [TQ λ w hw=>h w (mem_cons_of_mem _ hw)]
  split
  ·rfl
  ·have:x≠n:=by rintro rfl;exact h v mem_cons_self
   simp [this]
theorem Tq {kindOf:Str->Option NameKind}{v:Value}:∀{P:List Str} {vs:List Value} {i:Nat} {m:Str->Option Value},P.Nodup->P[i]? =some x->vs[i]? =some v->kindOf x=some .local->
  bindL kindOf (P.zip vs) m x=some v
 | [],_,_,_,_,h,_,_=>by simp at h
 | _::_,[],_,_,_,_,h,_=>by simp at h
 | p::P,w::vs,0,m,nd,h1,h2,hk=>by
  simp at h1 h2;subst h1;subst h2;show bindL kindOf ((p,w)::P.zip vs) m p=_;unfold bindL;rw [T8 λ v hv=>(List.nodup_cons.mp nd).1 (of_mem_zip hv).1,if_pos hk];simp
 | p::P,w::vs,i+1,m,nd,h1,h2,hk=>by
  show bindL kindOf ((p,w)::P.zip vs) m x=_;unfold bindL;exact Tq (i:=i) (List.nodup_cons.mp nd).2 (by simpa using h1) (by simpa using h2) hk
theorem Tw {kindOf:Str->Option NameKind}{v:Value}:∀{P:List Str} {vs:List Value} {i:Nat} {m:Str->Option Value},P.Nodup->P[i]? =some x->vs[i]? =some v->kindOf x≠some .local->
  bindC kindOf (P.zip vs) m x=some v
 | [],_,_,_,_,h,_,_=>by simp at h
 | _::_,[],_,_,_,_,h,_=>by simp at h
 | p::P,w::vs,0,m,nd,h1,h2,hk=>by
  simp at h1 h2;subst h1;subst h2;show bindC kindOf ((p,w)::P.zip vs) m p=_;unfold bindC;rw [TQ λ v hv=>(List.nodup_cons.mp nd).1 (of_mem_zip hv).1,if_neg hk];simp
 | p::P,w::vs,i+1,m,nd,h1,h2,hk=>by
  show bindC kindOf ((p,w)::P.zip vs) m x=_;unfold bindC;exact Tw (i:=i) (List.nodup_cons.mp nd).2 (by simpa using h1) (by simpa using h2) hk
noncomputable def start (N:List Str)(vs:List V):St:=vs.map some++List.replicate (N.length - vs.length) none
noncomputable def wF (CX:w5)(P:Program)(w:World)(K:Frag)(mg:Str->Option Value)(base:Heap)(N:List Str)(qual:Str)(scope:Scope)(f:Addr)(cd:Value)(A:Around)(outer:List Env)(s:Shared)(H:Hp)(E:XK):Cx where
 prog:=P
 w:=w
 K:=K
 mg:=mg
 base:=base
 A:=A.deeper (envOfC qual scope s.heap.objs.size f cd)
 N:=N
 s0:=s
 H0:=H
 env:=envOfC qual scope s.heap.objs.size f cd
 outer:=outer
 stack:=envOfC qual scope s.heap.objs.size f cd::outer
 ex:=[]
 calm:=true
 fn:=λ _=>true
 pn:=[]
 xe:=λ e s'=>wpAny (model P w) (A.deeper (envOfC qual scope s.heap.objs.size f cd)) (leaving (envOfC qual scope s.heap.objs.size f cd) e) (λ _ s''=>CX outer H s E e s'') (λ e' s''=>CX outer H s E e' s'') s'
theorem Ss (h:sc.names.lookup x=some .cell):∃c,(cellsFrom n sc.names []).lookup x=some c:=by
 have q:=cellsFrom_some sc.names n [] (.inl h);exact Option.isSome_iff_exists.mp q
theorem LX {CX:w5}{K:Frag}{cd:Value}{A:Around}{outer:List Env}{s1:Shared}{H:Hp}{E:XK}{vs:List V}
  (S:qP N ps scope)(hd:A.handled=none)(e0:QN P w K mg base A outer s H)(hl:vs.length=ps.length)(r:Vals vs us)
  (x:InCallC s s.heap.objs.size (bindL (envOfC qual scope s.heap.objs.size f cd).kindOf (ps.zip us) λ _=>none) (cellsFrom (s.heap.objs.size+1) scope.names []) (bindC (envOfC qual scope s.heap.objs.size f cd).kindOf (ps.zip us) λ _=>none) s1):
  Inv (wF CX P w K mg base N qual scope f cd A outer s H E) [] (start N vs) H s1:=by
 have hpl:ps.length<=N.length:=by have:=congrArg List.length S.pre;rw [length_take] at this;omega
 obtain ⟨h1,tk,rfl,hk⟩:=x.done;have kM:∀b:Addr,b∉(wF CX P w K mg base N qual scope f cd A outer s H E).ex:=λ b z=>absurd (show b∈([]:List Addr) from z) (by simp)
 refine ⟨⟨e0.mod,S.kind,rfl,rfl,le_refl _,λ y z c h1 h2=>?_,λ y hy=>?_,λ y c _ h=>?_,λ _=>hd,Around.frames_deeper e0.frames,.inr ⟨rfl,rfl⟩,λ b z=>absurd z (kM b),e0.bs,e0.bsz,λ b _ _=>kM b,λ b z=>absurd z (kM b),e0.funs,e0.frf⟩,
  rfl,e0.bare,Un.kept hk,⟨_,x.toInCall.ns,λ i y v h1 h2 h3=>?_⟩,λ y c h=>⟨_,x.cell y c h⟩,e0.hok.fresh (le_refl _),λ y c h=>?_,λ p hp=>absurd (show p∈([]:List (Addr × Obj)) from hp) (by simp),e0.hok.kept hk,?_⟩
 ·exact name_of_addr x.apart (PySem.mem_of_lookup h1) (PySem.mem_of_lookup h2)
 ·have hy:scope.names.lookup y=some .cell∨scope.names.lookup y=some .free:=hy
  rcases hy with hy | hy
  ·exact Ss hy
  ·exact absurd rfl (S.nofree _ (PySem.mem_of_lookup hy))
 ·exact le_of_lt (x.above y c (PySem.mem_of_lookup h))
 ·have hi:i<vs.length:=by
   unfold start at h2
   by_cases hi:i<vs.length
   ·exact hi
   ·rw [getElem?_append_right (by simpa using hi)] at h2
    rw [getElem?_replicate] at h2
    split at h2<;>cases h2
  have ha:vs[i]? =some v:=by
   unfold start at h2;rw [getElem?_append_left (by simpa using hi),getElem?_map] at h2
   cases e:vs[i]? with
   | none=>rw [e] at h2;cases h2
   | some a=>rw [e] at h2;cases h2;rfl
  obtain ⟨u,hu,rv⟩:=r.get ha;have hp:ps[i]? =some y:=by
   rw [<- S.pre,List.getElem?_take_of_lt (by omega)];exact h1
  have ndP:ps.Nodup:=by rw [<- S.pre];exact S.nd.sublist (List.take_sublist _ _)
  refine ⟨u,rv,?_⟩;rcases S.par y (mem_of_getElem? hp) with k | k
  ·exact .inl ⟨k,Tq ndP hp hu k⟩
  ·obtain ⟨c,e⟩:=Ss (n:=s.heap.objs.size+1) k
   refine .inr ⟨.inl k,c,e,?_⟩;have q:=x.cell y c e;rw [Tw ndP hp hu (by show scope.names.lookup y≠_;rw [k];decide)] at q
   exact q
 ·exact e0.hok.fresh (le_of_lt (x.above y c (PySem.mem_of_lookup h)))
 ·unfold start
  show _=N.length;rw [length_append,length_map,length_replicate];omega
theorem X1 {CX:w5}{K:Frag}{k:Nat}{name:Str}{params:Arguments}{dV kV doc pm cdv ct oc:Value}{an od:Option Addr}
  {sp:Sp}(lk:K.lookup f=some ⟨oc,od,.func (fnOf name qual params body scope dV kV doc pm an cdv ct),osl⟩)(hcd:codeIn K cdv qual=true)(S:qP N ps scope)
  (len:∀vs H Q E,sp vs H Q E->vs.length=ps.length)
  (hbody:∀(A:Around) (outer:List Env) (s:Shared) (H:Hp) (vs:List V) (Q:VK) (E:XK),jm k (A.deeper (envOfC qual scope s.heap.objs.size f cdv))->sp vs H Q E->
   ∃t,yq (wF CX P w K mg base N qual scope f cdv A outer s H E) body t/\t { nx:=λ _ H'=>Q .non H',rt:=Q } (start N vs) H):
  yy P w K mg base CX (k+1) f (fnOf name qual params body scope dV kV doc pm an cdv ct) ps sp:=by
 refine ⟨len,λ A outer s H args us vs Q E hr e0 hb r hsp=>?_⟩;have hl:=len _ _ _ _ hsp;have KX:K.In s.heap:=e0.mod.kin.keeps λ b o e=>(e0.bs b o e).1;have lim:s.heap.NoLimit:=e0.mod.nolimit.keeps λ b o e=>(e0.bs b o e).1;have hkind:∀y∈ps.zip us,scope.names.lookup y.1=some .local∨(scope.names.lookup y.1=some .cell/\((cellsFrom (s.heap.objs.size+1) scope.names []).lookup y.1).isSome=true):=λ ⟨n,v⟩ hy=>by
  rcases S.par n (of_mem_zip hy).1 with q | q
  ·exact .inl q
  ·exact .inr ⟨q,cellsFrom_some _ _ _ (.inl q)⟩
 refine codeAny_call_function hr.depth (KX _ _ lk) rfl S.co S.gen rfl (PySem.W.codeRec_of KX hcd) (hb _ _ _ _ ?_);refine wpAny_newFunctionEnv_cells S.kind hkind λ env he s1 x=>?_;subst he;refine ⟨lim.keeps x.toInCall.keep,codeAny_func ?_⟩;obtain ⟨t,ht,hq⟩:=hbody A outer s H vs Q E (hr.deeper _) hsp;have I:Inv (wF CX P w K mg base N qual scope f cdv A outer s H E) [] (start N vs) H s1:=LX S hr.hd e0 hl r x;refine wpAny_mono (ht [] s1 (start N vs) H _ I hq) (λ fl s' hs=>?_) λ e s' hs=>hs;have fin:∀{σ':St} {H':Hp} {v:V} {u:Value},Inv (wF CX P w K mg base N qual scope f cdv A outer s H E) [] σ' H' s'->RelV v u->Q v H'->CE outer P w H s Q u s':=
  λ {σ' H' v u} J rv q=>⟨v,H',J.os,J.bare,J.base,J.hok,rv,q⟩
 cases fl with
 | ret u=>
  obtain ⟨v,σ',H',J,rv,q⟩:=hs;exact fin J rv q
 | next=>
  obtain ⟨σ',H',J,q⟩:=hs;exact fin (v:=V.non) (u:=Value.none) J rfl q
 | brk=>
  obtain ⟨_,_,_,q⟩:=hs;exact False.elim q
 | cont=>
  obtain ⟨_,_,_,q⟩:=hs;exact False.elim q
section
variable {X:Cx}{es:List Expr}{t:TA}{id T:String}{r:List V->Hp->VK->Prop}
noncomputable def WU (r:List V->Hp->VK->Prop)(t:TA):TE:=λ σ H Q=>t σ H λ vs H1=>r vs H1 Q
theorem ZY (hc:j3 X (.builtin id) r)(hg:Gl X x)(hm:X.mg x=none)(hv:bootBuiltins x=some (.builtin id))(ha:PA X (e::es) t)(hn:x ≠ "__name__" := by decide)(hdb:(x==("__debug__" : Str))=false:=by decide)
  (he:starEach (e::es) X.env=(false,eval e X.env)::starEach es X.env:=by rfl)(hpl:(backTo pos (starEach es X.env)).any (·.1)=false:=by rfl):PE X (.Call (.Name x p) (e::es) [] pos) (WU r t):=by
 intro pins s σ H Q I h;refine wpAny_Call_Name_kw (Z1 I hg hm hv ?_ hn hdb);exact PyProof.Rows.callWith_builtin1 (zP (ha pos pins s σ H _ I h) λ us s1 ⟨vs,H1,I1,r1,q1⟩=>hc pins s1 σ H1 vs us Q I1 r1 q1) he hpl
theorem Q7 (hc:j3 X (.type T) r)(hg:Gl X x)(hm:X.mg x=none)(hv:bootBuiltins x=some (.type T))(ha:PA X (e::es) t)(hn:x ≠ "__name__" := by decide)(hdb:(x==("__debug__" : Str))=false:=by decide)
  (he:starEach (e::es) X.env=(false,eval e X.env)::starEach es X.env:=by rfl)(hpl:(backTo pos (starEach es X.env)).any (·.1)=false:=by rfl):PE X (.Call (.Name x p) (e::es) [] pos) (WU r t):=by
 intro pins s σ H Q I h;refine wpAny_Call_Name_kw (Z1 I hg hm hv ?_ hn hdb);exact PyProof.Rows.callWith_type1 (zP (ha pos pins s σ H _ I h) λ us s1 ⟨vs,H1,I1,r1,q1⟩=>hc pins s1 σ H1 vs us Q I1 r1 q1) he hpl
end
end L2
variable {X:L2.Cx}{H:L2.Hp}{kvs:List (L2.Key × L2.V)}{vs xs ys:List L2.V}{r:List L2.V->L2.Hp->L2.VK->Prop}{σ:L2.St}{v:L2.V}
namespace HT
open PySem PyProof.Rows
section
open PySem.SeqAt
open PySem.AutoSeq1 (wpAny_loadPart')
open PySem.MeetsSeq PySem.MeetsSeq2 PySem.MeetsSeq3
end
section
variable {prog:Program}{A:Around}
theorem EV {t:Addr}{vs ws:List Value}(ht:IsTup s.heap t vs.toArray)(hb:IsTup s.heap b ws.toArray)(hv:vs≠[])
  (h1:ws=[]->Q (.ref t) s)(h2:ws≠[]->Q (.ref s.heap.objs.size) { s with heap:=s.heap.push { cls:=.type "tuple",data:=.seq (vs++ws).toArray } })
  (hsz:vs.length+ws.length<=sizeLine):wpAny (model prog w) A (binaryOp .Add (.ref t) (.ref b)) Q E s:=by
 obtain ⟨⟨cls,dd,data,sl⟩,ho,hc,n,hd⟩:=id ht;obtain ⟨⟨cls2,dd2,data2,sl2⟩,ho2,hc2,n2,hd2⟩:=id hb;simp only at hc hd hc2 hd2;subst hc hd hc2 hd2;have e:vs.toArray++ws.toArray=(vs++ws).toArray:=by simp
 by_cases hw:ws=[]
 ·exact concat_meets ⟨_,ho,rfl⟩ ⟨_,ho2,rfl⟩ noFill_tuple_add seq_tuple_add slot_tuple_add entry_tuple_add (args_tuple_add_2 _ _)
   (tuple_addW1 t b vs.toArray ws.toArray n n2 dd dd2 sl sl2 (by simpa using hv) (by simp [hw])) ⟨ho,ho2,h1 hw⟩
 ·refine concat_meets ⟨_,ho,rfl⟩ ⟨_,ho2,rfl⟩ noFill_tuple_add seq_tuple_add slot_tuple_add entry_tuple_add (args_tuple_add_2 _ _)
   (tuple_addW2 t b vs.toArray ws.toArray n n2 dd dd2 sl sl2 (by simpa using hv) (by simpa using hw) (by rw [size_toArray,size_toArray];exact hsz)) ⟨ho,ho2,?_⟩
  rw [e];exact h2 hw
end
end HT
namespace L2
open PySem PySem.Spec PyProof.Rows
section
variable {p2:Pos}
noncomputable def PR (K:Frag):R2:=λ x y H Q=>∃a b xs ys,x=.ref a/\y=.ref b/\qv K H a xs/\qv K H b ys/\xs≠[]/\xs.length+ys.length<=sizeLine/\
 (ys=[]->Q (.ref a) H)/\(ys≠[]->∀p,H p=none->Q (.ref p) (upd H p (.tup (xs++ys))))
theorem Vals.nil_iff (r:Vals xs us):us=[]↔xs=[]:=by
 cases r with
 | nil=>simp
 | cons _ _=>simp
theorem E9:qI X (binaryOp .Add) (PR X.K):=by
 intro pins s σ H x y v u Q I rx ry h;obtain ⟨a,b,xs,ys,rfl,rfl,ha,hb,hx,hz,q1,q2⟩:=h;cases rx;cases ry;obtain ⟨its,r1,p1,_⟩:=I.tuple ha;obtain ⟨its2,r2,p2,_⟩:=I.tuple hb;refine HT.EV p1 p2 (λ z=>hx (r1.nil_iff.mp z)) (λ z=>⟨.ref a,H,I,rfl,q1 (r2.nil_iff.mp z)⟩) (λ z=>?_) (by rw [<- r1.length,<- r2.length];exact hz)
 refine ⟨.ref s.heap.objs.size,_,I.laid (t':=s.toks) (o:=.tup (xs++ys)) (λ b ob q=>get?_push_of_some _ q) (le_refl _) ?_,rfl,q2 (λ w=>z (r2.nil_iff.mpr w)) _ (I.hok.fresh (le_refl _))⟩;exact ⟨by rw [length_append];exact hz,_,r1.append r2,Qw.new _ _⟩
end
noncomputable def w6 (n:Nat)(i:Int):Option Nat:=if 0<=i then (if i<n then some i.toNat else none) else if -(n:Int)<=i then some (i+n).toNat else none
noncomputable def wc (xs:List α)(i:Int):Option α:=(w6 xs.length i).bind λ j=>xs[j]?
theorem RC {i:Int}(h:w6 n i=some j):seqIndex? i n=some j/\j<n/\-(n:Int)<=i/\i<n:=by
 unfold w6 at h
 by_cases h0:0<=i
 ·rw [if_pos h0] at h
  by_cases h1:i<n
  ·rw [if_pos h1] at h
   have e:i.toNat=j:=Option.some.inj h;exact ⟨by rw [seqIndex_of h0 h1,e],by omega,by omega,h1⟩
  ·rw [if_neg h1] at h;cases h
 ·rw [if_neg h0] at h
  by_cases h1:-(n:Int)<=i
  ·rw [if_pos h1] at h
   have e:(i+n).toNat=j:=Option.some.inj h;exact ⟨by rw [seqIndex_neg (by omega) h1,e],by omega,h1,by omega⟩
  ·rw [if_neg h1] at h;cases h
theorem Xk {xs:List α}{i:Int}{v:α}(h:wc xs i=some v):∃j,seqIndex? i xs.length=some j/\xs[j]? =some v/\j<xs.length/\-(xs.length:Int)<=i/\i<xs.length:=by
 unfold wc at h;cases e:w6 xs.length i with
 | none=>rw [e] at h;cases h
 | some j=>
  rw [e] at h;obtain ⟨h1,h2,h3,h4⟩:=RC e;exact ⟨j,h1,h,h2,h3,h4⟩
theorem Wd {xs:List α}{v:α}(h:xs[j]? =some v):wc xs (j:Int)=some v:=by
 have hj:j<xs.length:=(qa2.mp h).1;have e:w6 xs.length (j:Int)=some j:=by
  unfold w6;rw [if_pos (by omega),if_pos (by omega)];simp
 unfold wc;rw [e];exact h
noncomputable def RJ (b:Expr):Prop:=∀o i,subscripted b false o i=operate [o,i] (getItem o i)
noncomputable def ZK (X:Cx)(r:R2):Prop:=
 ∀(value slice:Expr) (pins:List (Addr × Obj)) (s:Shared) (σ:St) (H:Hp) (x y:V) (v u:Value) (Q:VK),Inv X pins σ H s->RelV x v->RelV y u->r x y H Q->
  subscripted slice false v u=operate [v,u] (getItem v u)->wpAny (model X.prog X.w) X.A (subscriptTail value slice v u) (EP X pins σ Q) X.xe s
noncomputable def YW (X:Cx)(id:String)(r:V->List V->Hp->VK->Prop):Prop:=
 ∀(pins:List (Addr × Obj)) (s:Shared) (σ:St) (H:Hp) (x:V) (xs:List V) (v:Value) (us:List Value) (Q:VK),Inv X pins σ H s->RelV x v->Vals xs us->r x xs H Q->
  wpAny (model X.prog X.w) X.A (call (.builtin id) (v::us)) (EP X pins σ Q) X.xe s
section
variable {a b:Expr}{ta tb:TE}
theorem ZK.or {r r':R2}(h:ZK X r)(h':ZK X r'):ZK X (λ x y H Q=>r x y H Q∨r' x y H Q):=by
 intro value slice pins s σ H x y v u Q I rx ry q hs;rcases q with q | q
 ·exact h value slice pins s σ H x y v u Q I rx ry q hs
 ·exact h' value slice pins s σ H x y v u Q I rx ry q hs
theorem Bi {r:R2}(hr:ZK X r)(ha:PE X a ta)(hb:PE X b tb)(hs:RJ b):PE X (.Subscript a b pos) (Y5 r ta tb):=by
 intro pins s σ H Q I h;exact Subscript_ (Vf ha hb I h λ v u s2 x y H2 I2 rx ry q=>hr a b pins s2 σ H2 x y v u Q I2 rx ry q (hs _ _))
noncomputable def P0 (K:Frag):R2:=λ x y H Q=>∃p xs i v,x=.ref p/\y=.int i/\qZ K H p xs/\wc xs i=some v/\Q v H
noncomputable def PU (K:Frag):R2:=λ x y H Q=>∃p xs i v,x=.ref p/\y=.int i/\qv K H p xs/\wc xs i=some v/\Q v H
noncomputable def PV:R2:=λ x y H Q=>∃z i c,x=.str z/\y=.int i/\z.length<=sizeLine/\wc z.cps.toList i=some c/\Q (.str ⟨#[c]⟩) H
theorem ED:ZK X (P0 X.K):=by
 intro value slice pins s σ H x y v u Q I rx ry h hs;obtain ⟨p,xs,i,z,rfl,rfl,hq,he,q⟩:=h;cases rx;obtain ⟨t,rfl⟩:=ry;obtain ⟨its,r,pl,hz⟩:=I.list hq;obtain ⟨j,h1,h2,h3,h4,h5⟩:=Xk he;obtain ⟨w,ew,rw'⟩:=r.get h2;have hl:=r.length;have hn:=Js;have fin:EP X pins σ Q w s:=⟨z,H,I,rw',q⟩
 by_cases h0:0<=i
 ·have hj:i.toNat=j:=by
   rw [seqIndex_of h0 h5] at h1;exact Option.some.inj h1
  exact item_listR pl.isList h0 (by omega) (by rw [hj];simpa using ew) fin hs
 ·have hj:(i+(its.toArray.size:Int)).toNat=j:=by
   rw [seqIndex_neg (by omega) h4] at h1
   rw [size_toArray,<- hl];exact Option.some.inj h1
  exact subscriptTail_builtinR (x:=w) pl.isList.typeIs slot_list_getitem.lookup
   (wpAny_getItem_list_neg (Q:=λ r s'=>r=w/\EP X pins σ Q r s') pl.isList (by omega) (by rw [size_toArray]<;>omega) (by omega) (by rw [hj];simpa using ew) ⟨rfl,fin⟩) hs
theorem DU:ZK X (PU X.K):=by
 intro value slice pins s σ H x y v u Q I rx ry h hs;obtain ⟨p,xs,i,z,rfl,rfl,hq,he,q⟩:=h;cases rx;obtain ⟨t,rfl⟩:=ry;obtain ⟨its,r,pl,hz⟩:=I.tuple hq;obtain ⟨j,h1,h2,h3,h4,h5⟩:=Xk he;obtain ⟨w,ew,rw'⟩:=r.get h2;have hl:=r.length;have hn:=Js;have fin:EP X pins σ Q w s:=⟨z,H,I,rw',q⟩;exact subscriptTail_builtinR (x:=w) pl.typeIs slot_tuple_getitem.lookup
  (getItem_tuple (j:=j) (Q:=λ r s'=>r=w/\EP X pins σ Q r s') pl (by omega) (by omega) (by rw [size_toArray,<- hl];exact h1) (by simpa using ew) ⟨rfl,fin⟩) hs
theorem Cj:ZK X PV:=by
 intro value slice pins s σ H x y v u Q I rx ry h hs;obtain ⟨z,i,c,rfl,rfl,hz,he,q⟩:=h;obtain ⟨t,rfl⟩:=rx;obtain ⟨t',rfl⟩:=ry;obtain ⟨j,h1,h2,h3,h4,h5⟩:=Xk he;have hl:z.cps.toList.length=z.length:=by simp [Str.length]
 rw [hl] at h1 h4 h5;have hn:=Js;exact tail_any (typeIs_str s z t) slot_str_getitem.lookup (getItem_str (c:=c) (by
  have e1:decide (i < -(2 ^ 63:Int))=false:=decide_eq_false (by omega)
  have e2:decide (i ≥ 2 ^ 63)=false:=decide_eq_false (by omega)
  rw [e1,e2,Bool.or_false]) (by rw [h1];simpa using h2) ⟨.str ⟨#[c]⟩,H,I.tok _,⟨_,rfl⟩,q⟩) hs
noncomputable def Oc (K:Frag):R2:=λ x y H Q=>P0 K x y H Q∨PU K x y H Q∨PV x y H Q
theorem CT:ZK X (Oc X.K):=ED.or (DU.or Cj)
theorem My (its:List Value)(n j:Nat)(u:Value):Obj.mapSeq (·.setIfInBounds j u) { cls:=.type "list",data:=.seq its.toArray n }={ cls:=.type "list",data:=.seq (its.set j u).toArray n }:=by
 simp [Obj.mapSeq]
theorem Inv.lst {pins:List (Addr × Obj)}{σ:St}{H:Hp}{s:Shared}{p:Addr}{xs:List V}(I:Inv X pins σ H s)(h:H p=some (.lst xs)):
  ∃(its:List Value) (n:Nat),Vals xs its/\s.heap.get? p=some { cls:=.type "list",data:=.seq its.toArray n }/\xs.length<=sizeLine:=by
 obtain ⟨z,its,n,r,e⟩:=I.hok p _ h;exact ⟨its,n,r,e,z⟩
theorem Inv.lstUpd {p:Addr}{its':List Value}{n':Nat}{f:Obj->Obj}(I:Inv X pins σ H s)(h:H p=some (.lst xs))
  (ho:s.heap.get? p=some { cls:=.type "list",data:=.seq its.toArray n })(hf:f { cls:=.type "list",data:=.seq its.toArray n }={ cls:=.type "list",data:=.seq its'.toArray n' })(r:Vals ys its')(hz:ys.length<=sizeLine)(t:Nat):
  Inv X pins σ (upd H p (.lst ys)) { s with heap:=s.heap.update p f,toks:=t }:=by
 have e:(s.heap.update p f).get? p=some { cls:=.type "list",data:=.seq its'.toArray n' }:=by
  rw [get?_update_self f ho (by rw [hf]<;>rfl),hf]
 refine I.write (x:=p) (e:=p) (by rw [h];trivial) (.inl rfl) (λ b u hb q=>(get?_update_other _ _ (Ne.symm hb)).trans q) ⟨_,e⟩ ?_
 exact ⟨hz,its',n',r,e⟩
noncomputable def PN:V->V->V->Hp->(Hp->Prop)->Prop:=λ o i v H Q=>∃p xs k j,o=.ref p/\i=.int k/\H p=some (.lst xs)/\w6 xs.length k=some j/\Q (upd H p (.lst (xs.set j v)))
theorem set_list:WN X PN:=by
 intro pins s σ H o i v ov iv u Q I ro ri rv h;obtain ⟨p,xs,k,j,rfl,rfl,hp,hj,q⟩:=h;cases ro;obtain ⟨t,rfl⟩:=ri;obtain ⟨its,n,r,ho,hz⟩:=I.lst hp;obtain ⟨h1,h2,h3,h4⟩:=RC hj;have hl:=r.length;have hn:=Js;have I':Inv X pins σ (upd H p (.lst (xs.set j v))) { s with heap:=s.heap.update p (Obj.mapSeq (·.setIfInBounds j u)) }:=
  I.lstUpd hp ho (My its n j u) (r.set rv j) (by rw [length_set];exact hz) s.toks
 by_cases h0:0<=k
 ·have hk:k.toNat=j:=by
   rw [seqIndex_of h0 h4] at h1;exact Option.some.inj h1
  exact PySem.W.ki_setAt ho h0 (by omega) (by rw [size_toArray,<- hl];exact h4) (by rw [hk];exact ⟨_,I',q⟩)
 ·have hk:(k+(its.toArray.size:Int)).toNat=j:=by
   rw [seqIndex_neg (by omega) h3] at h1
   rw [size_toArray,<- hl];exact Option.some.inj h1
  exact PySem.W.ki_setBack ho (by omega) (by rw [size_toArray,<- hl];exact h3) (by omega) (by rw [hk];exact ⟨_,I',q⟩)
noncomputable def kY:V->Bool
 | .non=>true
 | .bl _=>true
 | .int _=>true
 | .str _=>true
 | _=>false
noncomputable def wZ:V->V->Bool
 | .non,.non=>true
 | .bl a,.bl b=>a==b
 | .bl a,.int b=>(if a then 1 else 0)==b
 | .int a,.bl b=>a==(if b then 1 else 0)
 | .int a,.int b=>a==b
 | .str a,.str b=>a==b
 | _,_=>false
theorem CO {A:Around}{y x:V}{v:Value}(ry:RelV y u)(rx:RelV x v)(fy:kY y=true)(fx:kY x=true):SeqAt.EqAt A s u v (wZ y x):=by
 cases y with
 | non=>
  cases ry;cases x with
  | non=>cases rx;exact SeqAt.EqAt.same _
  | bl b=>cases rx;exact SeqAt.EqAt.none_bool b
  | int b=>obtain ⟨t,rfl⟩:=rx;exact SeqAt.EqAt.none_int b t
  | str b=>obtain ⟨t,rfl⟩:=rx;exact SeqAt.EqAt.none_str b t
  | _=>exact absurd (show false=true from fx) Bool.false_ne_true
 | bl a=>
  cases ry;cases x with
  | non=>cases rx;exact SeqAt.EqAt.bool_none a
  | bl b=>cases rx;exact SeqAt.EqAt.bool_bool a b
  | int b=>obtain ⟨t,rfl⟩:=rx;exact SeqAt.EqAt.bool_int a b t
  | str b=>obtain ⟨t,rfl⟩:=rx;exact SeqAt.EqAt.bool_str a b t
  | _=>exact absurd (show false=true from fx) Bool.false_ne_true
 | int a=>
  obtain ⟨t',rfl⟩:=ry;cases x with
  | non=>cases rx;exact SeqAt.EqAt.int_none a t'
  | bl b=>cases rx;exact SeqAt.EqAt.int_bool a t' b
  | int b=>obtain ⟨t,rfl⟩:=rx;exact SeqAt.EqAt.int_int a t' b t
  | str b=>obtain ⟨t,rfl⟩:=rx;exact SeqAt.EqAt.int_str a t' b t
  | _=>exact absurd (show false=true from fx) Bool.false_ne_true
 | str a=>
  obtain ⟨t',rfl⟩:=ry;cases x with
  | non=>cases rx;exact SeqAt.EqAt.str_none a t'
  | bl b=>cases rx;exact SeqAt.EqAt.str_bool a t' b
  | int b=>obtain ⟨t,rfl⟩:=rx;exact SeqAt.EqAt.str_int a t' b t
  | str b=>obtain ⟨t,rfl⟩:=rx;exact SeqAt.EqAt.str_str a t' b t
  | _=>exact absurd (show false=true from fx) Bool.false_ne_true
 | _=>exact absurd (show false=true from fy) Bool.false_ne_true
noncomputable def gG (x:V)(u:Value):Bool:=match u with
 | .none=>wZ .non x
 | .bool b=>wZ (.bl b) x
 | .int i _=>wZ (.int i) x
 | .str z _=>wZ (.str z) x
 | _=>false
theorem XC {x y:V}(r:RelV y u)(f:kY y=true):gG x u=wZ y x:=by
 cases y with
 | non=>cases r;rfl
 | bl b=>cases r;rfl
 | int i=>obtain ⟨t,rfl⟩:=r;rfl
 | str z=>obtain ⟨t,rfl⟩:=r;rfl
 | _=>exact absurd (show false=true from f) Bool.false_ne_true
theorem Xo {x:V}:∀{xs:List V} {us:List Value},Vals xs us->xs.all kY=true->us.any (gG x)=xs.any λ y=>wZ y x
 | _,_,.nil,_=>rfl
 | y::xs,u::us,.cons r t,f=>by
  rw [List.all_cons,and_eq_true] at f;rw [any_cons,any_cons,XC r f.1,Xo t f.2]
theorem KS {A:Around}{x:V}{v:Value}(rx:RelV x v)(fx:kY x=true):∀{xs:List V} {us:List Value},Vals xs us->xs.all kY=true->∀u∈us,SeqAt.EqAt A s u v (gG x u)
 | _,_,.nil,_=>λ u hu=>by cases hu
 | y::xs,u::us,.cons r t,f=>λ u' hu=>by
  rw [List.all_cons,and_eq_true] at f;rcases qa3.mp hu with rfl | hu
  ·rw [XC r f.1];exact CO r rx f.1 fx
  ·exact KS rx fx t f.2 u' hu
noncomputable def W2 (x:V)(xs:List V):Bool:=xs.any λ y=>wZ y x
noncomputable def Od (K:Frag)(neg:Bool):R2:=λ x y H Q=>∃p xs,y=.ref p/\(qZ K H p xs∨qv K H p xs)/\kY x=true/\xs.all kY=true/\Q (.bl (if neg then !W2 x xs else W2 x xs)) H
theorem L8:qI X (compareOp .In) (Od X.K false):=by
 intro pins s σ H x y v u Q I rx ry h;obtain ⟨p,xs,rfl,hq,fx,fs,q⟩:=h;cases ry;rcases hq with hq | hq
 ·obtain ⟨its,r,pl,hz⟩:=I.list hq
  refine SeqAt.in_listAt (gG x) pl.isList (λ w hw=>KS rx fx r fs w (by simpa using hw)) ⟨.bl _,H,I,rfl,?_⟩
  rw [show its.toArray.any (gG x)=its.any (gG x) by simp,Xo r fs]
  exact q
 ·obtain ⟨its,r,pl,hz⟩:=I.tuple hq
  refine SeqAt.in_tupleAt (gG x) pl (λ w hw=>KS rx fx r fs w (by simpa using hw)) ⟨.bl _,H,I,rfl,?_⟩
  rw [show its.toArray.any (gG x)=its.any (gG x) by simp,Xo r fs]
  exact q
theorem NK:j3 X (.builtin "len") (λ xs H Q=>∃p ys,xs=[.ref p]/\(qZ X.K H p ys∨qv X.K H p ys)/\Q (.int ys.length) H):=by
 intro pins s σ H xs us Q I r h;obtain ⟨p,ys,rfl,hq,q⟩:=h;obtain ⟨u,rfl,rx⟩:=vals1 r;cases rx;have hn:=Js;rcases hq with hq | hq
 ·obtain ⟨its,r',pl,hz⟩:=I.list hq
  have hlen:=r'.length;exact Calls.call_len_list pl.isList (by simp only [size_toArray]<;>omega) ⟨.int ys.length,H,I.tok _,⟨s.toks+1,by rw [size_toArray,hlen]⟩,q⟩
 ·obtain ⟨its,r',pl,hz⟩:=I.tuple hq
  have hlen:=r'.length;exact len_tuple pl (by simp only [size_toArray]<;>omega) ⟨.int ys.length,H,I.tok _,⟨s.toks+1,by rw [size_toArray,hlen]⟩,q⟩
theorem NT:j3 X (.type "list") (λ xs H Q=>∃p ys,xs=[.ref p]/\(qZ X.K H p ys∨qv X.K H p ys)/\∀l,H l=none->Q (.ref l) (upd H l (.lst ys))):=by
 intro pins s σ H xs us Q I r h;obtain ⟨p,ys,rfl,hq,q⟩:=h;obtain ⟨u,rfl,rx⟩:=vals1 r;cases rx;have fin:∀(its:List Value),Vals ys its->ys.length<=sizeLine->∀(h':Heap) (c':Nat),(∀b o',s.heap.get? b=some o'->h'.get? b=some o')->
   h'.get? s.heap.objs.size=some { cls:=.type "list",dict:=none,data:=.seq its.toArray c',slots:=#[] }->EP X pins σ Q (.ref s.heap.objs.size) { s with heap:=h' }:=λ its r' hz h' c' kp e=>
  ⟨.ref s.heap.objs.size,_,I.laid (t':=s.toks) kp (le_refl _) (show qQ X.prog X.w _ h' _ (.lst ys) from ⟨hz,its,c',r',e⟩),rfl,q _ (I.hok.fresh (le_refl _))⟩
 rcases hq with hq | hq
 ·obtain ⟨its,r',pl,hz⟩:=I.list hq
  have hlen:=r'.length;obtain ⟨o,ho,hc,n,hd⟩:=pl.isList;exact call_list_seq p (.inl rfl) ho hc hd (λ h' c' kp e=>fin its r' hz h' c' kp e) (by simp only [size_toArray]<;>omega)
 ·obtain ⟨its,r',pl,hz⟩:=I.tuple hq
  have hlen:=r'.length;obtain ⟨o,ho,hc,n,hd⟩:=pl;exact call_list_seq p (.inr rfl) ho hc hd (λ h' c' kp e=>fin its r' hz h' c' kp e) (by simp only [size_toArray]<;>omega)
theorem Nr:j3 X (.type "tuple") (λ xs H Q=>∃p ys,xs=[.ref p]/\((qZ X.K H p ys/\∀l,H l=none->Q (.ref l) (upd H l (.tup ys)))∨(qv X.K H p ys/\Q (.ref p) H))):=by
 intro pins s σ H xs us Q I r h;obtain ⟨p,ys,rfl,h⟩:=h;obtain ⟨u,rfl,rx⟩:=vals1 r;cases rx;rcases h with ⟨hq,q⟩ | ⟨hq,q⟩
 ·obtain ⟨its,r',pl,hz⟩:=I.list hq
  have hlen:=r'.length;refine call_tuple_list pl.isList (λ h' kp=>?_) (by simp only [size_toArray]<;>omega)
  have I1:Inv X pins σ H { s with heap:=h' }:=I.kept (t':=s.toks) kp
  have I2:Inv X pins σ (upd H h'.objs.size (.tup ys)) { s with heap:=h'.push { cls:=.type "tuple",data:=.seq its.toArray } }:=
   I1.laid (t':=s.toks) (λ b o e=>get?_push_of_some _ e) (le_refl _) (show qQ X.prog X.w _ _ _ (.tup ys) from ⟨hz,its,r',Qw.new _ _⟩)
  exact ⟨.ref h'.objs.size,_,I2,rfl,q _ (I1.hok.fresh (le_refl _))⟩
 ·obtain ⟨its,r',pl,hz⟩:=I.tuple hq
  exact call_tuple_same pl ⟨.ref p,H,I,rfl,q⟩
noncomputable def WR (K:Frag)(T:String)(x:V)(H:Hp):Prop:=match x with
 | .str _=>T = "str"
 | .int _=>T = "int"
 | .ref p=>(T = "list" /\ ∃xs,qZ K H p xs)∨(T = "tuple" /\ ∃o,K.lookup p=some o/\o.cls=.type "tuple" /\ o.dict=none)∨
   (T = "dict" /\ ((∃kvs,H p=some (.dK kvs))∨∃kvs,H p=some (.dT kvs)))∨(T = "set" /\ ∃S n,H p=some (.set S n))
 | _=>False
theorem CA {T:String}{x:V}{v:Value}(I:Inv X pins σ H s)(r:RelV x v)(ty:WR X.K T x H):
  s.TypeIs v T/\∀a,v=.ref a->∃ob,s.heap.get? a=some ob/\ob.dict=none:=by
 cases x with
 | str z=>
  obtain ⟨t,rfl⟩:=r;cases (show T = "str" from ty)
  exact ⟨typeIs_str s z t,λ _ e=>nomatch e⟩
 | int i=>
  obtain ⟨t,rfl⟩:=r;cases (show T = "int" from ty)
  exact ⟨typeIs_int s i t,λ _ e=>nomatch e⟩
 | ref p=>
  cases r;rcases ty with ⟨rfl,xs,hq⟩ | ⟨rfl,o,hk,hc,hd⟩ | ⟨rfl,hk⟩ | ⟨rfl,S,n,hk⟩
  ·obtain ⟨its,_,pl,_⟩:=I.list hq
   refine ⟨pl.isList.typeIs,λ a e=>?_⟩;cases e;obtain ⟨o,n,e,c,hd,_⟩:=pl;exact ⟨o,e,hd⟩
  ·refine ⟨⟨o,I.kIn p o hk,hc⟩,λ a e=>?_⟩
   cases e;exact ⟨o,I.kIn _ o hk,hd⟩
  ·have z:∃o,s.heap.get? p=some o/\o.ExactDict:=by
    rcases hk with ⟨kvs,hk⟩ | ⟨kvs,hk⟩
    ·obtain ⟨_,_,_,_,o,_,_,e,ex,_⟩:=I.hok p _ hk
     exact ⟨o,e,ex⟩
    ·obtain ⟨_,_,_,_,o,_,_,e,ex,_⟩:=I.hok p _ hk
     exact ⟨o,e,ex⟩
   obtain ⟨o,e,ex⟩:=z;refine ⟨⟨o,e,ex.1⟩,λ a e2=>?_⟩;cases e2;exact ⟨o,e,ex.2.1⟩
  ·obtain ⟨o,_,_,_,e,ex,_⟩:=I.hok p _ hk
   refine ⟨⟨o,e,ex.1⟩,λ a e2=>?_⟩;cases e2;exact ⟨o,e,ex.2.1⟩
 | _=>exact False.elim ty
noncomputable def tBM (K:Frag)(T:String)(r:V->List V->Hp->VK->Prop)(to:TE)(t:TA):TE:=λ σ H Q=>to σ H λ x H1=>WR K T x H1/\t σ H1 λ xs H2=>r x xs H2 Q
variable {o:Expr}{es:List Expr}{to:TE}{t:TA}{name:Str}{T id:String}{r:V->List V->Hp->VK->Prop}
theorem Pq (pa:PlainAttrs T)(slot:Slot T name id)(hty:typeOf (.builtin id)=pure (.type "method_descriptor"))(hm:YW X id r)(ho:PE X o to)(ha:PA X (e::es) t)
  (hbase:attributeBase o name X.env (eval o X.env)=eval o X.env:=by rfl)
  (hfew:((backTo cpos (starEach (e::es) X.env)).all (λ x=>!x.1)&&(backToKw cpos (keywordEach [] X.env)).all (λ x=>x.1.isSome)
   && decide ((e::es).length+([]:List Keyword).length+(if ([]:List Keyword).isEmpty then 0 else 1)<30))=true:=by rfl)
  (hline:(apos.endLine==cpos.line)=true:=by rfl)(hs:starEach (e::es) X.env=(false,eval e X.env)::starEach es X.env:=by rfl)(hplain:(backTo cpos (starEach es X.env)).any (·.1)=false:=by rfl):
  PE X (.Call (.Attribute o name apos) (e::es) [] cpos) (tBM X.K T r to t):=by
 intro pins s σ H Q I h;refine wpAny_Call_method_late hbase hfew hline rfl (zP (ho pins s σ H _ I h) λ v s1 ⟨x,H1,I1,r1,ty,q1⟩=>?_);obtain ⟨h1,h2⟩:=CA I1 r1 ty;refine ⟨T,id,pa,slot,hty,h1,h2,?_⟩;have hA:=ha cpos pins s1 σ H1 _ I1 q1;rw [hs] at hA ⊢;refine Calls.callWith_builtin (by show (false || (backTo cpos (starEach es X.env)).any (·.1))=false;rw [hplain]<;>rfl) (Calls.evalArgs_plain ?_)
 exact zP hA λ us s2 ⟨vs,H2,I2,r2,q2⟩=>hm pins s2 σ H2 x vs v us Q I2 r1 r2 q2
end
noncomputable def Vw (X:Cx)(id:String)(r:V->List V->Hp->VK->Prop):Prop:=
 ∀(pins:List (Addr × Obj)) (s:Shared) (σ:St) (H:Hp) (x:V) (xs:List V) (v:Value) (us:List Value) (Q:VK),Inv X pins σ H s->RelV x v->Vals xs us->r x xs H Q->
  wpAny (model X.prog X.w) X.A (call (.builtin id) (v::us)) (EP X pins σ Q) X.xe s
theorem Vals.one {x:V}(h:Vals [x] us):∃u,us=[u]/\RelV x u:=by
 cases h with
 | cons r t=>cases t;exact ⟨_,rfl,r⟩
theorem Vals.two {x y:V}(h:Vals [x,y] us):∃u v,us=[u,v]/\RelV x u/\RelV y v:=by
 cases h with
 | cons r t=>exact (Vals.one t).elim λ v e=>⟨_,v,by rw [e.1],r,e.2⟩
theorem Vals.eraseIdx:∀{xs:List V} {us:List Value} (i:Nat),Vals xs us->Vals (xs.eraseIdx i) (us.eraseIdx i)
 | _,_,_,.nil=>.nil
 | _,_,0,.cons _ t=>t
 | _,_,i+1,.cons r t=>.cons r (Vals.eraseIdx i t)
theorem Vals.rep (h:Vals xs us):∀k:Nat,Vals (List.replicate k xs).flatten (List.replicate k us).flatten
 | 0=>.nil
 | k+1=>by
  rw [replicate_succ,replicate_succ,flatten_cons,flatten_cons];exact Vals.append h (Vals.rep h k)
theorem TR :∀(l:List α) (i:Nat),(l.eraseIdx i).length<=l.length
 | [],_=>le_refl _
 | _::_,0=>le_succ _
 | _::r,i+1=>Nat.succ_le_succ (TR r i)
theorem foldl_rep (its:List Value):∀(k:Nat) (acc:List Value),
  List.foldl (λ x1 x2=>x1++x2) acc.toArray (List.replicate k its.toArray)=(acc++(List.replicate k its).flatten).toArray
 | 0,acc=>by simp
 | k+1,acc=>by
  have e:acc.toArray++its.toArray=(acc++its).toArray:=by simp
  have e2:(acc++its)++(List.replicate k its).flatten=acc++(List.replicate (k+1) its).flatten:=by
   rw [replicate_succ,flatten_cons,append_assoc]
  rw [<- e2,<- foldl_rep its k (acc++its),<- e,replicate_succ,List.foldl_cons]
section
variable {l:Addr}
theorem Inv.lset {its':List Value}{f:Array Value->Array Value}(I:Inv X pins σ H s)(hH:H l=some (.lst xs))
  (e:s.heap.get? l=some { cls:=.type "list",data:=.seq its.toArray n })(hf:f its.toArray=its'.toArray)(hv:Vals ys its')(hz:ys.length<=sizeLine):
  Inv X pins σ (upd H l (.lst ys)) { s with heap:=s.heap.update l (Obj.mapSeq f),toks:=t' }:=by
 have q:=PySem.IsL.update e f;rw [hf] at q;refine I.write (x:=l) (e:=l) (by rw [hH];exact trivial) (.inl rfl) (λ b' u hb hu=>(get?_update_other s.heap (Obj.mapSeq f) (Ne.symm hb)).trans hu) ⟨_,q⟩ ?_
 exact ⟨hz,its',_,hv,q⟩
theorem Inv.lnew (I:Inv X pins σ H s)(hv:Vals ys its)(hz:ys.length<=sizeLine):
  Inv X pins σ (upd H s.heap.objs.size (.lst ys)) { s with heap:=s.heap.push { cls:=.type "list",data:=.seq its.toArray },toks:=t' }:=
 I.laid (λ _ _ q=>get?_push_of_some _ q) (le_refl _) ⟨hz,its,0,hv,get?_push_size _ rfl⟩
theorem Inv.fresh (I:Inv X pins σ H s):H s.heap.objs.size=none:=I.hok.fresh (le_refl _)
theorem Inv.lstM (I:Inv X pins σ H s)(hH:H l=some (.lst xs)):xs.length<=sizeLine/\∃(its:List Value) (n:Nat),Vals xs its/\xs.length=its.length/\s.heap.get? l=some { cls:=.type "list",data:=.seq its.toArray n }:=by
 obtain ⟨z,its,n,r,e⟩:=I.hok l _ hH;exact ⟨z,its,n,r,r.length,e⟩
theorem Ft (h:n<=sizeLine):Builtin.List.listTooLong n=false:=by
 unfold Builtin.List.listTooLong;exact decide_eq_false (by omega)
end
section
noncomputable def Fv:V->List V->Hp->VK->Prop:=λ x vs H Q=>∃l xs y,x=.ref l/\vs=[y]/\H l=some (.lst xs)/\xs.length<sizeLine/\Q .non (upd H l (.lst (xs++[y])))
theorem TF:Vw X "list.append" Fv:=by
 intro pins s σ H x vs v us Q I rx rv h;obtain ⟨l,xs,y,rfl,rfl,hH,hz,q⟩:=h;cases rx;obtain ⟨u,rfl,ru⟩:=rv.one;obtain ⟨z,its,n,r,hl,e⟩:=I.lstM hH;refine call_meets F.slot_list_append ⟨_,e,rfl⟩ F.entry_list_append (F.args_list_append_2 _ _) (PySem.list_append l its.toArray n u (by rw [size_toArray];omega)) ⟨e,?_⟩
 refine ⟨.non,_,I.lset (its':=its++[u]) hH e (by simp) (r.append (.cons ru .nil)) ?_,rfl,q⟩
 rw [length_append,length_singleton];omega
noncomputable def Cg:V->List V->Hp->VK->Prop:=λ x vs H Q=>∃l xs i k y,x=.ref l/\vs=[.int i]/\H l=some (.lst xs)/\-(2 ^ 63)<=i/\i<2 ^ 63/\seqIndex? i xs.length=some k/\xs[k]? =some y/\Q y (upd H l (.lst (xs.eraseIdx k)))
theorem IL:Vw X "list.pop" Cg:=by
 intro pins s σ H x vs v us Q I rx rv h;obtain ⟨l,xs,i,k,y,rfl,rfl,hH,h1,h2,hk,hy,q⟩:=h;cases rx;obtain ⟨u,rfl,ru⟩:=rv.one;obtain ⟨t,rfl⟩:=ru;obtain ⟨z,its,n,r,hl,e⟩:=I.lstM hH;obtain ⟨w,hw,rw'⟩:=r.get hy;refine call_meets F.slot_list_pop ⟨_,e,rfl⟩ F.entry_list_pop (F.args_list_pop_2 _ _)
  (MeetsSeq.list_pop_at l its.toArray n i t k w (fitsIndex_both h1 h2) (by rw [size_toArray,<- hl];exact hk) (by rw [<- getElem?_toList];exact hw) (by rw [size_toArray];omega)) ⟨e,?_⟩
 refine ⟨y,_,I.lset (its':=its.eraseIdx k) hH e ?_ (r.eraseIdx k) ?_,rw',q⟩
 ·show its.toArray.eraseIdxIfInBounds k=(its.eraseIdx k).toArray
  rw [List.eraseIdxIfInBounds_toArray]
 ·have:=TR xs k
  omega
noncomputable def P7:R2:=λ x y H Q=>∃l b xs zs,x=.ref l/\y=.ref b/\H l=some (.lst xs)/\H b=some (.lst zs)/\xs.length+zs.length<=sizeLine/\∀p,H p=none->Q (.ref p) (upd H p (.lst (xs++zs)))
theorem Cq:qI X (binaryOp .Add) P7:=by
 intro pins s σ H x y v u Q I rx ry h;obtain ⟨l,b,xs,zs,rfl,rfl,hH,hB,hz,q⟩:=h;cases rx;cases ry;obtain ⟨z,its,n,r,hl,e⟩:=I.lstM hH;obtain ⟨z2,its2,n2,r2,hl2,e2⟩:=I.lstM hB;refine PySem.P.add_list e e2 ?_ (by rw [size_toArray,size_toArray];omega)
 have ea:its.toArray++its2.toArray=(its++its2).toArray:=by simp
 rw [ea];exact ⟨.ref _,_,I.lnew (t':=s.toks) (r.append r2) (by rw [length_append];omega),rfl,q _ I.fresh⟩
noncomputable def P8:R2:=λ x y H Q=>∃l k xs,x=.ref l/\y=.int k/\H l=some (.lst xs)/\-(2 ^ 63)<=k/\k<2 ^ 63/\xs.length * k.toNat<=sizeLine/\
 ∀p,H p=none->Q (.ref p) (upd H p (.lst (List.replicate k.toNat xs).flatten))
theorem len_rep (xs:List α)(k:Nat):(List.replicate k xs).flatten.length=k * xs.length:=by
 induction k with
 | zero=>simp
 | succ k ih=>rw [replicate_succ,flatten_cons,length_append,ih,Nat.succ_mul,Nat.add_comm]
theorem C1:qI X (binaryOp .Mult) P8:=by
 intro pins s σ H x y v u Q I rx ry h;obtain ⟨l,k,xs,rfl,rfl,hH,h1,h2,hz,q⟩:=h;cases rx;obtain ⟨t,rfl⟩:=ry;obtain ⟨z,its,n,r,hl,e⟩:=I.lstM hH;have hlen:its.toArray.size * k.toNat<=sizeLine:=by rw [size_toArray,<- hl];exact hz
 have hcap:¬its.toArray.size * k.toNat > (2 ^ 63 - 1) / 8:=by
  have:(sizeLine:Nat)<=(2 ^ 63 - 1) / 8:=by decide
  omega
 have hfit:¬(!Builtin.List.listFitsIndex k)=true:=by
  rw [fitsIndex_both h1 h2];exact Bool.false_ne_true
 have hlong:¬Builtin.List.listTooLong (its.toArray.size * k.toNat)=true:=by
  rw [Ft hlen];exact Bool.false_ne_true
 have hnew:List.foldl (λ x1 x2=>x1++x2) #[] (List.replicate (if its.toArray.isEmpty=true then 0 else k.toNat) its.toArray)=(List.replicate k.toNat its).flatten.toArray:=by
  have f0:∀m:Nat,List.foldl (λ x1 x2=>x1++x2) #[] (List.replicate m its.toArray)=(List.replicate m its).flatten.toArray:=λ m=>by
   have:=foldl_rep its m []
   rw [nil_append] at this;exact this
  rw [f0];cases its with
  | nil=>simp
  | cons a r'=>rw [if_neg (by simp)]
 refine wpAny_binaryOp_repeat_ref (T := "list") (U := "int") (by decide) ⟨_,e,rfl⟩ (λ s'=>typeIs_int s' k t) noFill_list_mul F.fills_int_mul F.slot_int_rmul repeat_list F.slot_int_index.lookup
  (call_meets F.slot_int_rmul (typeIs_int s k t) F.entry_int_rmul (F.args_int_rmul_2 _ _) (int___rmul___int_list k t l its.toArray n)
   ⟨e,rfl,⟨_,e,rfl⟩,call_meets F.slot_list_mul ⟨_,e,rfl⟩ F.entry_list_mul (F.args_list_mul_2 _ _) (AutoListH.list___mul___list_int_3 l its.toArray n k t hfit hcap hlong) ⟨e,?_⟩⟩)
 rw [hnew];exact ⟨.ref _,_,I.lnew (t':=s.toks) (r.rep k.toNat) (by rw [len_rep,Nat.mul_comm];exact hz),rfl,q _ I.fresh⟩
end
section
set_option maxRecDepth 100000 in
end
end L2
namespace Att
open PySem PySem.W PySem.Calls PyProof.Rows
theorem OZ {P:Params}:∀(ns:List Int) (vs:List Value),WellAll P h vs (ns.map WData.int)->IntsAre vs ns:=by
 intro ns
 induction ns with
 | nil=>
  intro vs w;rw [map_nil] at w;cases w;exact .nil
 | cons n ns ih=>
  intro vs w;rw [map_cons] at w;cases w with
  | cons a b=>
   cases a;exact .cons _ _ (ih _ b)
theorem L6 {l:OpenLaw}(hn:l.most=some n){P:Params}{args:List WData}{vals:List Value}
  (hpre:l.row.toRowW.claim.pre args=true)(hwl:WellAll P h vals args):
  ∃a vs ns,vals=[Value.ref a]/\args=[WData.list (ns.map WData.int)]/\h.get? a=some { cls:=.type "list",data:=.seq vs.toArray }/\IntsAre vs ns/\ns.length<=n:=by
 have hsh:WShape.hasAll [] args [.list .int]=true:=(pre_splitW hpre).1;have hc:l.pre.holds [] { args:=args }=true:=(pre_splitW hpre).2;obtain ⟨d,r,rfl,h1,h2⟩:=hasAllW_cons hsh;obtain rfl:=hasAllW_nil h2;obtain ⟨xs,rfl,h3⟩:=hasW_list h1;obtain ⟨ns,rfl⟩:=items_int h3;have hlen:ns.length<=n:=by
  unfold OpenLaw.pre at hc;have h4:(WTm.not (.lt (.lit (.int (n:Int))) (.len (.arg 0)))).holds [] { args:=[.list (ns.map .int)] }=true:=by
   have h4:=(holds_andW hc).1;rw [hn] at h4;exact h4
  have h5:=condW_of h4 (w_not (w_lt w_lit (w_len_list (w_arg rfl))));rw [length_map] at h5;refine Nat.le_of_not_lt λ q=>?_;have q':(n:Int)<((ns.length:Nat):Int):=by omega
  first
   | (rw [decide_eq_true q'] at h5;exact absurd h5 (by decide))
   | (simp at h5;omega)
 cases hwl with
 | cons w1 w2=>
  cases w2;cases w1 with
  | list ho hall=>exact ⟨_,_,ns,rfl,rfl,ho,OZ ns _ hall,hlen⟩
theorem LV (l:OpenLaw)(args:List WData):l.row.toRowW.claim.post args (.bool true) args=true:=
 postW_of (r:=l.row.toRowW) (X:=(true==true))
  (show WShape.has [] (.bool true) .bool=true by first | rfl | decide | simp [WShape.has,WShape.arms,WShape.armsAll])
  (show (WTm.eq .res (.lit (.bool true))).value [] { args:=args,res:=some (.bool true),after:=args }=some (.bool (true==true)) from w_eq_bool (w_res rfl) w_lit) rfl
theorem N7 {l:OpenLaw}{q:Program}{loose:List Str}{YP:World->Heap->Prop}{d:DefRec}
  (hn:l.most=some n)(hdf:d.params.defaults=[])
  (call:∀(w:World) (s₀ s₁:Shared) (mg mb:Str->Option Value) (fa:Addr) (o:Obj) (pm cd doc:Value) (a:Addr) (vs:List Value) (ns:List Int),
   Ground q loose [] XP w s₀ mg mb s₁.heap->YP w s₁.heap->
   s₁.heap.get? fa=some o->o.data=.func (docDef d.name d.params d.body d.scope pm cd doc)->s₁.heap.CodeRec cd d.name->mg d.name=some (.ref fa)->
   s₁.heap.get? a=some { cls:=.type "list",data:=.seq vs.toArray }->IntsAre vs ns->ns.length<=n->s₁.gens=#[]->
   codeAny (model l.prog w) callerA (.call (.ref fa) ⟨[.ref a],[]⟩) (λ r s'=>r=.ok (.ret (.bool true))/\OldK s₁.heap s'.heap/\s'.os=s₁.os/\AllBare s'.gens) s₁):
  WalkO q loose XP YP l.row.toRowW d [] (λ f vs=>PySem.call f vs):=by
 intro w s₀ s₁ mg mb G Y fa o pm cd doc dV kV ho hd hcd hD hmg hg args vals as hpre hlay hrd hwl hlo;obtain rfl:dV=.none:=Dflts.none hD hdf;obtain rfl:kV=.none:=Dflts.noKw hD;obtain ⟨a,vs,ns,rfl,rfl,hobj,hints,hlen⟩:=L6 hn hpre hwl;refine enter_call (codeAny_mono (call w s₀ s₁ mg mb fa o pm cd doc a vs ns G Y ho (fd_plain hd) hcd hmg hobj hints hlen hg) λ r s' hq=>?_);obtain ⟨rfl,h2,h3,h4⟩:=hq;exact ⟨.inl ⟨.bool true,.bool true,[],rfl,λ _=>rfl,.bool true,LV l _,λ _=>⟨List.Pairwise.nil,λ _ hm=>(nomatch hm)⟩⟩,h2,h3,h4⟩
end Att
namespace L2
open PySem PySem.Spec PyProof.Rows
theorem J6:∀{vs:List Value} {ns:List Int},IntsAre vs ns->Vals (ns.map V.int) vs
 | _,_,.nil=>.nil
 | _,_,.cons n t h=>.cons ⟨t,rfl⟩ (J6 h)
noncomputable abbrev Oh {K:Frag}(_:K.In h):Frag:=K
noncomputable def ZZ (s:Stmt):Arguments:=match s with
 | .FunctionDef _ a _ _ _ _ _ _ _ _=>a
 | _=>{ posonlyargs:=[],args:=[],vararg:=none,kwonlyargs:=[],kw_defaults:=[],kwarg:=none,defaults:=[] }
noncomputable def yC (s:Stmt):List Stmt:=match s with
 | .FunctionDef _ _ b _ _ _ _ _ _ _=>b
 | _=>[]
noncomputable def qi (s:Stmt):Scope:=match s with
 | .FunctionDef _ _ _ _ _ _ sc _ _ _=>sc
 | _=>{ kind:=.function,names:=[],isGenerator:=false,isCoroutine:=false }
noncomputable abbrev wY:w5:=λ _ _ _ _ _ _=>False
noncomputable abbrev E0:XK:=λ _ _ _=>False
theorem B7 :Passes wY X E0:=λ _ _ _ _ _ _ _ h=>h.elim
structure wg (K:Frag)(x qual:Str)(st:Stmt)(f:Addr)(fd:FuncData):Prop where
 ex:∃(oc:Value) (od:Option Addr) (kV doc pm:Value) (an:Option Addr) (cdv ct:Value) (osl:Array (Option Value)),
  fd=fnOf x qual (ZZ st) (yC st) (qi st) .none kV doc pm an cdv ct/\K.lookup f=some ⟨oc,od,.func fd,osl⟩/\codeIn K cdv qual=true
 kp:keepIn K (.ref f)=true
section
variable {K:Frag}
theorem wg.ok {st:Stmt}{k:Nat}{sp:Sp}(F:wg K x qual st f fd)(S:qP N ps (qi st))(len:∀vs H Q E,sp vs H Q E->vs.length=ps.length)
  (hbody:∀(cdv:Value) (A:Around) (outer:List Env) (s:Shared) (H:Hp) (vs:List V) (Q:VK) (E:XK),jm k (A.deeper (envOfC qual (qi st) s.heap.objs.size f cdv))->sp vs H Q E->
   ∃t,yq (wF wY P w K mg base N qual (qi st) f cdv A outer s H E).nox (yC st) t/\t { nx:=λ _ H'=>Q .non H',rt:=Q } (start N vs) H):yy P w K mg base wY (k+1) f fd ps sp:=by
 obtain ⟨oc,od,kV,doc,pm,an,cdv,ct,osl,rfl,lk,hcd⟩:=F.ex;refine X1 lk hcd S len λ A outer s H vs Q E hr hsp=>?_;obtain ⟨t,h,q⟩:=hbody cdv A outer s H vs Q E hr hsp;exact ⟨t,h.nox,q⟩
theorem wg.binds {st:Stmt}(F:wg K x qual st f fd)
  (h:∀(kV doc pm:Value) (an:Option Addr) (cdv ct:Value) (us:List Value),us.length=ps.length->bindArgs (fnOf x qual (ZZ st) (yC st) (qi st) .none kV doc pm an cdv ct) ⟨us,[]⟩=pure (ps.zip us)):Binds K fd ps []:=by
 obtain ⟨oc,od,kV,doc,pm,an,cdv,ct,osl,rfl,lk,hcd⟩:=F.ex;exact .all (h kV doc pm an cdv ct)
theorem CS {st:Stmt}{oc:Value}{od an:Option Addr}{kV doc pm cdv ct:Value}(l:K.lookup f=some ⟨oc,od,.func (fnOf x qual (ZZ st) (yC st) (qi st) .none kV doc pm an cdv ct),osl⟩)
  (c:codeIn K cdv qual=true)(k:keepIn K (.ref f)=true):wg K x qual st f (fnOf x qual (ZZ st) (yC st) (qi st) .none kV doc pm an cdv ct):=⟨⟨oc,od,kV,doc,pm,an,cdv,ct,osl,rfl,l,c⟩,k⟩
end
theorem BN {A:Around}{k:Nat}(hr:jm k A):A.units+1<cLine:=Nat.lt_of_le_of_lt (Nat.add_le_add_left (by decide:1<=64) _) hr.units
section
variable {κ:Type}[DecidableEq κ]
noncomputable def yR (kvs:List (κ × V))(k:κ):Option V:=(kvs.find? λ kv=>decide (kv.1=k)).map (·.2)
noncomputable def putK (kvs:List (κ × V))(k:κ)(v:V):List (κ × V):=
 if (kvs.any λ kv=>decide (kv.1=k))=true then kvs.map (λ kv=>if kv.1=k then (kv.1,v) else kv) else kvs++[(k,v)]
theorem KL {p:κ × V}{r:List (κ × V)}{k:κ}(e:p.1=k):yR (p::r) k=some p.2:=by simp [yR,find?_cons,e]
theorem KW {p:κ × V}{r:List (κ × V)}{k:κ}(e:¬p.1=k):yR (p::r) k=yR r k:=by simp [yR,find?_cons,e]
theorem S7 (k:κ):∀kvs:List (κ × V),(kvs.any λ kv=>decide (kv.1=k))=(yR kvs k).isSome
 | []=>rfl
 | p::r=>by
  rw [any_cons]
  by_cases e:p.1=k
  ·simp only [KL e,decide_eq_true e,Bool.true_or,isSome_some]
  ·rw [KW e,decide_eq_false e,Bool.false_or];exact S7 k r
theorem Mk (kvs:List (κ × V))(k:κ)(v:V):(putK kvs k v).length<=kvs.length+1:=by
 unfold putK
 split
 ·rw [length_map];omega
 ·rw [length_append,length_cons,length_nil];omega
theorem Fj {kvs:List (κ × V)}{k:κ}(v:V)(h:yR kvs k=none):putK kvs k v=kvs++[(k,v)]:=by
 unfold putK;rw [S7,h];exact if_neg (by decide)
theorem KV.val {kvs:List (κ × V)}{vs:List (κ × Value)}(r:KV kvs vs)(k:κ):ZD (yR kvs k) (valueAt vs k):=by
 unfold KV at r
 induction r with
 | nil=>exact True.intro
 | @cons p q ps qs h t ih=>
  obtain ⟨h1,h2⟩:=h
  by_cases e:p.1=k
  ·have e':q.1=k:=h1.symm.trans e
   have b:valueAt (q::qs) k=some q.2:=by simp [valueAt,find?_cons,e']
   rw [KL e,b];exact h2
  ·have e':¬q.1=k:=λ z=>e (h1.trans z)
   have b:valueAt (q::qs) k=valueAt qs k:=by simp [valueAt,find?_cons,e']
   rw [KW e,b];exact ih
theorem KV.any {kvs:List (κ × V)}{vs:List (κ × Value)}(r:KV kvs vs)(k:κ):(kvs.any λ kv=>decide (kv.1=k))=vs.any λ kv=>decide (kv.1=k):=by
 unfold KV at r
 induction r with
 | nil=>rfl
 | cons h t ih=>rw [any_cons,any_cons,ih,h.1]
theorem KV.repl {kvs:List (κ × V)}{vs:List (κ × Value)}(r:KV kvs vs)(k:κ){y:V}(ry:RelV y u):
  KV (kvs.map λ kv=>if kv.1=k then (kv.1,y) else kv) (vs.map λ kv=>if kv.1=k then (kv.1,u) else kv):=by
 unfold KV at r ⊢
 induction r with
 | nil=>exact .nil
 | @cons p q ps qs h t ih=>
  rw [map_cons,map_cons];refine .cons ?_ ih;obtain ⟨h1,h2⟩:=h
  by_cases e:p.1=k
  ·rw [if_pos e,if_pos (h1.symm.trans e)];exact ⟨h1,ry⟩
  ·rw [if_neg e,if_neg (λ z=>e (h1.trans z))];exact ⟨h1,h2⟩
theorem KV.put {kvs:List (κ × V)}{vs:List (κ × Value)}(r:KV kvs vs)(k:κ){y:V}(ry:RelV y u):KV (putK kvs k y) (stored vs k u):=by
 unfold putK stored;rw [r.any k]
 by_cases e:(vs.any λ kv=>decide (kv.1=k))=true
 ·rw [if_pos e,if_pos e];exact r.repl k ry
 ·rw [if_neg e,if_neg e];exact Paired.snoc r ⟨rfl,ry⟩
theorem KV.length {kvs:List (κ × V)}{vs:List (κ × Value)}(r:KV kvs vs):kvs.length=vs.length:=Paired.length r
end
theorem XT {k:Key}(r:RelV (kV k) u):(yN P w).is k u=true:=by
 cases k with
 | inl i=>obtain ⟨t,e⟩:=(show ∃t,u=Value.int i t from r);subst e;exact Mo P w i t
 | inr x=>obtain ⟨t,e⟩:=(show ∃t,u=Value.str x t from r);subst e;exact Mg P w x t
theorem TZ :∀{ks:List Key} {us:List Value},Vals (ks.map kV) us->ItemsAre (yN P w) ks us
 | [],_,r=>by rw [map_nil] at r;cases r;exact .nil
 | k::ks,_,r=>by
  rw [map_cons] at r;cases r with
  | cons h t=>exact .cons (XT h) (TZ t)
noncomputable abbrev KT (H:Hp):List (List Key × V)->List (List Key × Addr × Value)->Prop:=Paired λ p q=>p.1=q.1/\H q.2.1=some (.tup (p.1.map kV))/\RelV p.2 q.2.2
theorem KT.val {kvs:List (List Key × V)}{xs:List (List Key × Addr × Value)}(r:KT H kvs xs)(k:List Key):ZD (yR kvs k) ((atKey xs k).map (·.2)):=by
 induction r with
 | nil=>exact True.intro
 | @cons p q ps qs h t ih=>
  obtain ⟨h1,_,h2⟩:=h
  by_cases e:p.1=k
  ·have e':q.1=k:=h1.symm.trans e
   have b:atKey (q::qs) k=some q.2:=by simp [atKey,find?_cons,e']
   rw [KL e,b];exact h2
  ·have e':¬q.1=k:=λ z=>e (h1.trans z)
   have b:atKey (q::qs) k=atKey qs k:=by simp [atKey,find?_cons,e']
   rw [KW e,b];exact ih
section
theorem PD {u:HO}(ok:jD P w H h)(e:Rd H a u):qQ P w H h a u:=e.ok ok
theorem XW (ok:jD P w H h)(e:Rd H a (.dK kvs)):kvs.length<=sizeLine/\(a==sysModules)=false/\∃vs,KV kvs vs/\h.DictOf (yN P w) a vs:=
 show qQ P w H h a (.dK kvs) from PD ok e
theorem Pp (ok:jD P w H h)(e:H a=some (.dK kvs)):kvs.length<=sizeLine/\(a==sysModules)=false/\∃vs,KV kvs vs/\h.DictOf (yN P w) a vs:=XW ok (.inl e)
theorem R3 {ks:List Key}(ok:jD P w H h)(e:H a=some (.tup (ks.map kV))):(tupleKind (yN P w)).is h ks a:=by
 obtain ⟨_,its,r,o,h1,h2,n,h3⟩:=(show qQ P w H h a (.tup (ks.map kV)) from ok a _ e)
 exact ⟨o,its.toArray,n,h1,h2.1,h3,by simpa using TZ r⟩
theorem PJ {kvs:List (List Key × V)}(ok:jD P w H h)(e:Rd H a (.dT kvs)):kvs.length<=sizeLine/\(a==sysModules)=false/\
  ∃xs,KT H kvs xs/\h.DictOfH (tupleKind (yN P w)) a xs:=by
 obtain ⟨z,y,xs,r,o,es,ep,h1,h2,h3,h4,h5⟩:=(show qQ P w H h a (.dT kvs) from PD ok e)
 refine ⟨z,y,xs,r,o,es,ep,h1,h2,h3,h4,λ x hx=>?_,h5⟩;have all:∀{l:List (List Key × V)} {m:List (List Key × Addr × Value)},KT H l m->∀x∈m,(tupleKind (yN P w)).is h x.1 x.2.1:=by
  intro l m q
  induction q with
  | nil=>intro x hx;exact nomatch hx
  | @cons p q ps qs hq t ih=>
   intro x hx;rcases qa3.mp hx with e | hx
   ·subst e
    exact R3 ok (by rw [<- hq.1];exact hq.2.1)
   ·exact ih x hx
 exact all r x hx
end
noncomputable def JL (H:Hp)(a:Addr)(y:V)(r:Option V):Prop:=
 (∃kvs k,Rd H a (.dK kvs)/\y=kV k/\r=yR kvs k)∨∃kvs k b,Rd H a (.dT kvs)/\y=.ref b/\H b=some (.tup (k.map kV))/\r=yR kvs k
theorem JL.k {k:Key}(e:H a=some (.dK kvs)):JL H a (kV k) (yR kvs k):=.inl ⟨kvs,k,.inl e,rfl,rfl⟩
section
variable {y:V}{o:Option V}{A:Around}
theorem Inv.big (I:Inv X pins σ H s):sysModules<s.heap.objs.size:=by
 have h:mainGlobals<s.heap.objs.size:=(I.mod.glob.keeps I.bk).lt;exact lt_trans (by decide) h
theorem LZ (hu:A.units+1<cLine)(I:Inv X pins σ H s)(g:JL H a y (some v))(ry:RelV y u)(h:∀w' s',Inv X pins σ H s'->RelV v w'->Q w' s'):
  wpAny (model X.prog X.w) A (getItem (.ref a) u) Q E s:=by
 rcases g with ⟨kvs,k,e,ey,l⟩ | ⟨kvs,k,b,e,ey,eb,l⟩
 ·subst ey
  obtain ⟨z,hd,vs,rel,dd⟩:=XW I.hok e;obtain ⟨w',hw,rw'⟩:=ZD.some_of (v:=v) (o:=valueAt vs k) (by rw [l];exact rel.val k)
  exact wpAny_getItem_of (XT ry) dd.mapOf hw (h w' _ (I.tok _) rw')
 ·subst ey
  cases (show u=Value.ref b from ry)
  obtain ⟨z,hd,xs,rel,dd⟩:=PJ I.hok e;obtain ⟨w',hw,rw'⟩:=ZD.some_of (v:=v) (o:=(atKey xs k).map (·.2)) (by rw [l];exact rel.val k)
  obtain ⟨p,hp,hp2⟩:=Option.map_eq_some_iff.mp hw;refine wpAny_getItem_heap (tupleKind_room_in1 hu) (R3 I.hok eb) dd hp ?_;rw [hp2];exact h w' _ (I.tok _) rw'
theorem F8 {h':Heap}{ob:HO}(I:Inv X pins σ H s)(mu:YX (H a))(hs:Heap.SameBut a s.heap h')(he:∃q,h'.get? a=some q)(new:qQ X.prog X.w (upd H a ob) h' a ob):
  Inv X pins σ (upd H a ob) { s with heap:=h',toks:=t' }:=
 I.write (x:=a) (e:=a) mu (.inl rfl) (λ b q hb z=>(hs.2 b hb).trans z) he new
theorem DS {H':Hp}{h':Heap}{vs:List (Key × Value)}(z:kvs.length<=sizeLine)(hd:(a==sysModules)=false)(rel:KV kvs vs)(dd:h'.DictOf (yN P w) a vs):
  qQ P w H' h' a (.dK kvs):=⟨z,hd,vs,rel,dd⟩
end
noncomputable def Vc (i:Expr):Prop:=∀ov iv,subscripted i false ov iv=operate [ov,iv] (getItem ov iv)
theorem ES {prog:Program}{A:Around}{value slice:Expr}{T id:String}
  (hl:typeLookup (.type T) "__getitem__" = pure (some (.builtin id)))(hs:Vc slice)
  (h:wpAny (model prog w) A (eval value env) (λ o s₁=>wpAny (model prog w) A (eval slice env) (λ i s₂=>s₂.TypeIs o T/\wpAny (model prog w) A (getItem o i) Q E s₂) E s₁) E s):
  wpAny (model prog w) A (eval (.Subscript value slice pos) env) Q E s:=by
 refine Subscript_ (wpAny_mono h (λ o s₁ h₁=>wpAny_mono h₁ (λ i s₂ h₂=>?_) λ _ _ x=>x) λ _ _ x=>x);obtain ⟨hT,h₂⟩:=h₂;unfold subscriptTail;refine qa0 ?_;rw [getitemInPython_of_ne hT.not_modules];refine qa0 (wpAny_specialOf hT hl ?_);have fin:wpAny (model prog w) A (subscripted slice false o i) (λ r s₃=>wpAny (model prog w) A (letTemporaryGo value o r >>= λ _=>pure r) Q E s₃) E s₂:=by
  rw [hs o i];exact wpAny_operating (wpAny_mono h₂ (λ r s₃ h₃=>qa0 (wpAny_letTemporaryGo (qa1 h₃))) λ _ _ x=>x)
 first
  | exact qa1 (qa0 fin)
  | exact qa0 (qa1 (qa0 fin))
  | exact qa0 fin
theorem Ma {y:V}{o:Option V}(I:Inv X pins σ H s)(g:JL H a y o):s.TypeIs (.ref a) "dict" := by
 rcases g with ⟨kvs,k,e,_,_⟩ | ⟨kvs,k,b,e,_,_,_⟩
 ·obtain ⟨_,_,vs,_,dd⟩:=XW I.hok e
  exact dd.typeIs
 ·obtain ⟨_,_,xs,_,dd⟩:=PJ I.hok e
  exact dd.typeIs
noncomputable def Bd (td ty:TE):TE:=λ σ H Q=>td σ H λ x H1=>ty σ H1 λ y H2=>∃a v,x=.ref a/\JL H2 a y (some v)/\Q v H2
section
variable {o i:Expr}{td ty:TE}
theorem F3 (hu:X.A.units+1<cLine)(ho:PE X o td)(hi:PE X i ty)(hs:Vc i):PE X (.Subscript o i pos) (Bd td ty):=by
 intro pins s σ H Q I h;refine ES PySem.F.slot_dict_getitem.lookup hs (zP (ho pins s σ H _ I h) λ u s1 ⟨x,H1,I1,rx,q1⟩=>zP (hi pins s1 σ H1 _ I1 q1) λ iv s2 ⟨y,H2,I2,ry,a,v,ex,g,q2⟩=>?_);subst ex;obtain rfl:u=Value.ref a:=rx;exact ⟨Ma I2 g,LZ hu I2 g ry λ w' s3 I3 rw'=>⟨v,H2,I3,rw',q2⟩⟩
end
theorem HD (h:Heap)(hb:sysModules<h.objs.size):qQ P w H (h.push { cls:=.type "dict",data:=.dict #[] }) h.objs.size (.dK []):=
 ⟨zero_le _,beq_eq_false_iff_ne.mpr (Ne.symm (ne_of_lt hb)),[],.nil,Heap.DictOf.new h⟩
noncomputable def Ct:TE:=λ _ H Q=>∀p,H p=none->Q (.ref p) (upd H p (.dK []))
section
theorem IH:PE X (.Dict [] [] pos) Ct:=λ pins s σ H Q I h=>
 wpAny_Dict_empty ⟨.ref s.heap.objs.size,_,I.laid (a:=s.heap.objs.size) (o:=.dK []) (t':=s.toks) (λ _ _ q=>get?_push_of_some _ q) (le_refl _) (HD s.heap I.big),rfl,h _ (I.hok.fresh (le_refl _))⟩
end
noncomputable def yW (env:Env):List (Str × NameKind)->List (Str × Addr)->List (Str × Addr)
 | [],acc=>acc
 | (n,k)::r,acc=>yW env r (if k==.free then (n,(env.cells.lookup n).getD 0)::acc else acc)
theorem Iw (f:Str × NameKind->List (Str × Addr)->Sem (ForInStep (List (Str × Addr))))
  (hf:∀n k r,f (n,k) r=if (k==NameKind.free)=true then (do let c <- cellOf env n;pure (ForInStep.yield ((n,c)::r))) else pure (ForInStep.yield r)):
  ∀(names:List (Str × NameKind)) (acc:List (Str × Addr)),(∀y∈names,y.2=.free->∃c,env.cells.lookup y.1=some c)->(forIn names acc f:Sem (List (Str × Addr)))=pure (yW env names acc):=by
 intro names
 induction names with
 | nil=>intro acc _;rfl
 | cons y r ih=>
  intro acc hh;obtain ⟨n,k⟩:=y;rw [forIn_cons,hf];unfold yW;have hr:=ih (if k==.free then (n,(env.cells.lookup n).getD 0)::acc else acc) (λ y hy=>hh y (mem_cons_of_mem _ hy))
  by_cases hk:k=.free
  ·subst hk
   obtain ⟨c,hc⟩:=hh (n,.free) mem_cons_self rfl;have e:cellOf env n=pure c:=by unfold cellOf;rw [hc]
   have hc':List.lookup n env.cells=some c:=hc;simp only [e,hc',Option.getD_some,beq_self_eq_true,if_true] at hr ⊢;exact hr
  ·have hb:(k==NameKind.free)=false:=by simpa using hk
   simp only [hb,false_eq_true,if_false] at hr ⊢;exact hr
theorem Tc (h:∀y∈scope.names,y.2=.free->∃c,env.cells.lookup y.1=some c):closureFor scope env=pure (yW env scope.names []):=by
 unfold closureFor;dsimp only;rw [Iw _ (λ n k r=>rfl) scope.names [] h]
 rfl
theorem Qj {n:Str}:∀(names:List (Str × NameKind)) (acc:List (Str × Addr)),(n,c)∈yW env names acc->(n,c)∈acc∨((n,NameKind.free)∈names/\c=(env.cells.lookup n).getD 0)
 | [],acc,h=>.inl h
 | (x,k)::r,acc,h=>by
  unfold yW at h;rcases Qj r _ h with h | ⟨h1,h2⟩
  ·by_cases hk:k=.free
   ·subst hk
    simp only [beq_self_eq_true,if_true] at h;rcases qa3.mp h with e | h
    ·cases e;exact .inr ⟨mem_cons_self,rfl⟩
    ·exact .inl h
   ·have hb:(k==NameKind.free)=false:=by simpa using hk
    simp only [hb,false_eq_true,if_false] at h;exact .inl h
  ·exact .inr ⟨mem_cons_of_mem _ h1,h2⟩
theorem KC {n:Str}:∀(names:List (Str × NameKind)) (acc:List (Str × Addr)),((n,NameKind.free)∈names∨(acc.lookup n).isSome=true)->((yW env names acc).lookup n).isSome=true
 | [],acc,h=>by
  rcases h with h | h
  ·cases h
  ·exact h
 | (x,k)::r,acc,h=>by
  unfold yW;refine KC r _ ?_;rcases h with h | h
  ·rcases qa3.mp h with e | h
   ·cases e
    right
    simp
   ·exact .inl h
  ·right
   by_cases hk:(k==NameKind.free)=true
   ·rw [if_pos hk,lookup_cons]
    cases hx:n==x
    ·exact h
    ·rfl
   ·rw [if_neg hk];exact h
theorem Gy {n:Str}:∀(names:List (Str × NameKind)) (k:Nat) (acc:List (Str × Addr)),(n,c)∈cellsFrom k names acc->(n,c)∈acc∨(k<=c/\(n,NameKind.cell)∈names)
 | [],_,_,h=>.inl h
 | (x,q)::r,k,acc,h=>by
  unfold cellsFrom at h
  by_cases hq:(q==NameKind.cell)=true
  ·rw [if_pos hq] at h
   have hq':q=.cell:=by simpa using hq
   rcases Gy r _ _ h with h | ⟨h1,h2⟩
   ·rcases qa3.mp h with e | h
    ·cases e;subst hq';exact .inr ⟨le_refl _,mem_cons_self⟩
    ·exact .inl h
   ·exact .inr ⟨by omega,mem_cons_of_mem _ h2⟩
  ·rw [if_neg hq] at h
   rcases Gy r _ _ h with h | ⟨h1,h2⟩
   ·exact .inl h
   ·exact .inr ⟨h1,mem_cons_of_mem _ h2⟩
theorem GB:∀(names:List (Str × NameKind)) (k:Nat) (acc:List (Str × Addr)),(∀n c,(n,c)∈acc->c<k)->(∀n n' c,(n,c)∈acc->(n',c)∈acc->n=n')->∀n n' c,(n,c)∈cellsFrom k names acc->(n',c)∈cellsFrom k names acc->n=n'
 | [],_,_,_,hi,n,n',c,h,h'=>hi n n' c h h'
 | (x,q)::r,k,acc,hl,hi,n,n',c,h,h'=>by
  unfold cellsFrom at h h'
  by_cases hq:(q==NameKind.cell)=true
  ·rw [if_pos hq] at h h'
   refine GB r (k+1) ((x,k)::acc) (λ m d hm=>?_) (λ m m' d hm hm'=>?_) n n' c h h'
   ·rcases qa3.mp hm with e | hm
    ·cases e;exact lt_succ_self _
    ·exact lt_succ_of_lt (hl m d hm)
   ·rcases qa3.mp hm with e | hm
    ·rcases qa3.mp hm' with e' | hm'
     ·cases e;cases e';rfl
     ·cases e;exact absurd (hl m' _ hm') (lt_irrefl _)
    ·rcases qa3.mp hm' with e' | hm'
     ·cases e';exact absurd (hl m _ hm) (lt_irrefl _)
     ·exact hi m m' d hm hm'
  ·rw [if_neg hq] at h h'
   exact GB r k acc hl hi n n' c h h'
theorem Gn {n:Str}:∀(names:List (Str × NameKind)) (h:Heap) (acc:List (Str × Addr)),(n,c)∈cellsFrom h.objs.size names acc->(n,c)∈acc∨(pushCells h names).IsCell c none
 | [],_,_,q=>.inl q
 | (x,k)::r,h,acc,q=>by
  unfold cellsFrom at q;unfold pushCells
  by_cases hk:(k==NameKind.cell)=true
  ·rw [if_pos hk] at q ⊢
   have:=Gn r (h.push { cls:=.type "cell",data:=.cell none }) ((x,h.objs.size)::acc) (by rw [size_push];exact q)
   rcases this with z | z
   ·rcases qa3.mp z with e | z
    ·cases e
     exact .inr ⟨_,pushCells_keeps r _ _ _ (get?_push_size _ rfl),rfl⟩
    ·exact .inl z
   ·exact .inr z
  ·rw [if_neg hk] at q ⊢
   exact Gn r h acc q
theorem OG {A:Around}{globals:Addr}{cl:List (Str × Addr)}{Q:Env->Shared->Prop}
  (h:Q { scope,locals:=s.heap.objs.size,globals,cells:=cellsFrom (s.heap.objs.size+1) scope.names cl,qual,func:=none,code:=env.code,frame:=env.frame,builtins:=env.builtins }
   { s with heap:=pushCells (s.heap.push { cls:=.type "dict",data:=.dict #[] }) scope.names }):
  wpAny M A (newFunctionEnv scope globals cl [] qual none .none (some env)) Q E s:=by
 simp only [newFunctionEnv,isSome_some,if_true];refine qa0 (wpAny_alloc ?_);refine qa0 (wpAny_layCells _ (λ name kind cells=>by cases hkc:kind==NameKind.cell<;>simp [hkc]) _ _ _ _ ?_)
 rw [show ({ s with heap:=s.heap.push { cls:=.type "dict",data:=.dict #[] } }:Shared).heap.objs.size=s.heap.objs.size+1 from size_push ..]
 rw [forIn_nil];exact qa0 (qa1 (qa1 h))
noncomputable def jc (X:Cx)(N:List Str)(scope:Scope)(s:Shared)(H:Hp)(fp:List Addr)(xe:Value->Shared->Prop):Cx where
 prog:=X.prog
 w:=X.w
 K:=X.K
 mg:=X.mg
 base:=X.base
 A:=X.A
 N:=N
 s0:=s
 H0:=H
 env:={ scope:=relabel scope X.env,locals:=s.heap.objs.size,globals:=X.env.globals,cells:=cellsFrom (s.heap.objs.size+1) scope.names (yW X.env scope.names []),qual:=X.env.qual,func:=none,code:=X.env.code,frame:=X.env.frame,builtins:=X.env.builtins }
 outer:=X.stack
 stack:=X.stack
 ex:=fp
 fn:=λ x=>scope.names.lookup x==some .local || scope.names.lookup x==some .cell
 calm:=X.calm
 pn:=[]
 xe:=xe
structure gk (X:Cx)(scope:Scope):Prop where
 kind:scope.kind=.function
 nd:(scope.names.map (·.1)).Nodup
 free:∀y∈scope.names,y.2=.free->X.env.kindOf y.1=some .cell∨X.env.kindOf y.1=some .free
theorem QW {k:α}:∀{l:List (Str × α)},(l.map (·.1)).Nodup->(x,k)∈l->l.lookup x=some k
 | (y,q)::r,nd,h=>by
  rw [map_cons,List.nodup_cons] at nd;rw [lookup_cons];rcases qa3.mp h with e | h
  ·cases e;simp
  ·have ne:(x==y)=false:=by
    rw [beq_eq_false_iff_ne];intro e
    apply nd.1
    rw [<- e];exact List.mem_map_of_mem (f:=(·.1)) h
   rw [ne];exact QW nd.2 h
theorem Gm {k:NameKind}(h:(relabel scope env).names.lookup x=some k):scope.names.lookup x=some k∨(k=.cell/\scope.names.lookup x=some .free/\env.kindOf x=some .cell):=by
 unfold relabel at h;dsimp only at h;generalize scope.names=names at h ⊢
 induction names with
 | nil=>cases h
 | cons y r ih=>
  obtain ⟨n,q⟩:=y;rw [map_cons] at h;have split:(if (q==NameKind.free&&env.scope.kind==.function&&env.kindOf n==some .cell)=true then (n,NameKind.cell) else (n,q)).1=n:=by split<;>rfl
  rw [lookup_cons] at h ⊢;dsimp only at h;rw [split] at h;cases hx:x==n with
  | false=>rw [hx] at h;exact ih h
  | true=>
   rw [hx] at h;have e:x=n:=beq_iff_eq.mp hx;subst e
   by_cases hc:(q==NameKind.free&&env.scope.kind==.function&&env.kindOf x==some .cell)=true
   ·rw [if_pos hc] at h
    simp only [and_eq_true,beq_iff_eq] at hc;cases h
    right
    exact ⟨rfl,by rw [hc.1.1],hc.2⟩
   ·rw [if_neg hc] at h
    left
    exact h
section
theorem Inv.capt (I:Inv X pins σ H s)(S:gk X scope)(h:(x,NameKind.free)∈scope.names):∃c,X.env.cells.lookup x=some c:=I.ok.has x (S.free _ h rfl)
theorem Yb (I:Inv X pins σ H s)(S:gk X scope)(h:(x,c)∈cellsFrom (s.heap.objs.size+1) scope.names (yW X.env scope.names [])):
  ((x,NameKind.free)∈scope.names/\X.env.cells.lookup x=some c/\c<s.heap.objs.size)∨((x,NameKind.cell)∈scope.names/\s.heap.objs.size<c/\∀h0:Heap,h0.objs.size=s.heap.objs.size+1->(pushCells h0 scope.names).IsCell c none):=by
 rcases Gy _ _ _ h with h1 | ⟨h1,h2⟩
 ·left
  rcases Qj _ _ h1 with z | ⟨z,e⟩
  ·cases z
  ·obtain ⟨c',hc⟩:=I.capt S z
   rw [hc] at e;have e':c=c':=e;subst e';obtain ⟨v,q⟩:=I.cell x c hc;exact ⟨z,hc,q.lt⟩
 ·right
  refine ⟨h2,h1,λ h0 e0=>?_⟩;have h':=h;rw [<- e0] at h';rcases Gn _ h0 _ h' with z | z
  ·exfalso
   rcases Qj _ _ z with z | ⟨z,e⟩
   ·cases z
   ·obtain ⟨c',hc⟩:=I.capt S z
    rw [hc] at e;have e':c=c':=e;subst e';obtain ⟨v,q⟩:=I.cell x c hc;exact lt_irrefl _ (lt_of_lt_of_le (lt_succ_of_lt q.lt) h1)
  ·exact z
theorem Hi {xe:Value->Shared->Prop}{σ':St}(I:Inv X pins σ H s)(S:gk X scope)(hf:∀b∈fp,yZ X pins H b)(hfl:∀b∈fp,b<s.heap.objs.size)(hl:σ'.length=N.length)
  (hs:∀(j:Nat) (x:Str) (v:V),N[j]? =some x->σ'[j]? =some (some v)->(x,NameKind.free)∈scope.names/\∃i:Nat,X.N[i]? =some x/\σ[i]? =some (some v)):
  Inv (jc X N scope s H fp xe) [] σ' H { s with heap:=pushCells (s.heap.push { cls:=.type "dict",data:=.dict #[] }) scope.names }:=by
 have hk:∀b o,s.heap.get? b=some o->(pushCells (s.heap.push { cls:=.type "dict",data:=.dict #[] }) scope.names).get? b=some o:=λ b o e=>pushCells_keeps _ _ _ _ (get?_push_of_some _ e);have hsz:(s.heap.push { cls:=.type "dict",data:=.dict #[] }).objs.size=s.heap.objs.size+1:=size_push ..;have lkm:∀{x:Str} {c:Addr},(jc X N scope s H fp xe).env.cells.lookup x=some c->(x,c)∈cellsFrom (s.heap.objs.size+1) scope.names (yW X.env scope.names []):=λ h=>PySem.mem_of_lookup h;have lkc:∀{x:Str},((jc X N scope s H fp xe).env.kindOf x=some .cell∨(jc X N scope s H fp xe).env.kindOf x=some .free)->∃c,(jc X N scope s H fp xe).env.cells.lookup x=some c:=λ {x} h=>by
  refine Option.isSome_iff_exists.mp (cellsFrom_some _ _ _ ?_);have two:scope.names.lookup x=some .cell∨scope.names.lookup x=some .free:=by
   rcases h with h | h
   ·rcases Gm h with z | ⟨_,z,_⟩
    ·exact .inl z
    ·exact .inr z
   ·rcases Gm h with z | ⟨z,_⟩
    ·exact .inr z
    ·cases z
  rcases two with z | z
  ·exact .inl z
  ·exact .inr (KC _ _ (.inl (PySem.mem_of_lookup z)))
 have exP:∀b∈fp,∀x c,(jc X N scope s H fp xe).env.cells.lookup x=some c->c≠b:=λ b hb x c e=>by
  rcases Yb I S (lkm e) with ⟨_,q,_⟩ | ⟨_,q,_⟩
  ·exact (hf b hb).2.2.2.2.1 x c q
  ·intro z;subst z;exact lt_irrefl _ (lt_trans q (hfl _ hb))
 refine ⟨⟨I.ok.mod,S.kind,I.ok.glob,I.ok.blt,le_refl _,λ x y c h1 h2=>?_,λ x h=>lkc h,λ x c hx h=>?_,I.ok.hd,I.ok.frames,.inl rfl,λ b hb=>⟨?_,exP b hb⟩,I.bs,le_trans I.ok.bsz I.sz,λ b o e hb=>?_,λ b hb z=>?_,I.stack,I.stkFree⟩,
  rfl,I.bare,Un.kept hk,⟨λ _=>none,?_,λ j x v h1 h2 h3=>?_⟩,λ x c e=>?_,I.fresh,λ x c e=>?_,λ p hp=>?_,I.hok.kept hk,hl⟩
 ·refine GB _ _ _ (λ n c h=>?_) (λ n n' c h h'=>?_) x y c (lkm h1) (lkm h2)
  ·rcases Qj _ _ h with z | ⟨z,e⟩
   ·cases z
   ·obtain ⟨c',hc⟩:=I.capt S z
    rw [hc] at e;have e':c=c':=e;subst e';obtain ⟨v,q⟩:=I.cell n c hc;exact lt_succ_of_lt q.lt
  ·rcases Qj _ _ h with z | ⟨z,e⟩
   ·cases z
   ·rcases Qj _ _ h' with z' | ⟨z',e'⟩
    ·cases z'
    ·obtain ⟨d,hd⟩:=I.capt S z
     obtain ⟨d',hd'⟩:=I.capt S z';rw [hd] at e;rw [hd'] at e';have e1:c=d:=e;have e2:c=d':=e';subst e1;subst e2;exact I.ok.inj _ _ _ hd hd'
 ·rcases Yb I S (lkm h) with ⟨z,_,_⟩ | ⟨_,z,_⟩
  ·exfalso
   have e1:=QW S.nd z;have hx':(scope.names.lookup x==some .local || scope.names.lookup x==some .cell)=true:=hx;rw [e1] at hx';cases hx'
  ·exact le_of_lt z
 ·exact ne_of_lt (hfl b hb)
 ·obtain ⟨_,_,_,h4,_⟩:=hf b hb
  rcases h4 with h4 | h4
  ·exact I.ok.noex b o e h4
  ·exact absurd (lt_of_lt_of_le (lt_size e) (le_trans I.ok.bsz h4)) (lt_irrefl _)
 ·obtain ⟨_,h2,h3,_⟩:=hf b hb
  rcases qa3.mp (I.stkSub b z) with e | e
  ·exact h2 e
  ·exact h3 e
 ·exact (Heap.Ns.new s.heap (.type "dict")).keeps (pushCells_keeps _ _)
 ·obtain ⟨hx,i,e1,e2⟩:=hs j x v h1 h2
  obtain ⟨m,hn,hl'⟩:=I.loc;have vis:JR X.env.scope x:=.inr (S.free _ hx rfl);obtain ⟨u,r,lk⟩:=hl' i x v e1 e2 vis;refine ⟨u,r,.inr ?_⟩;have hkf:(jc X N scope s H fp xe).env.kindOf x=some .cell∨(jc X N scope s H fp xe).env.kindOf x=some .free:=by
   rcases h3 with z | z | z
   ·exfalso
    rcases Gm z with z' | ⟨z',_⟩
    ·rw [QW S.nd hx] at z';cases z'
    ·cases z'
   ·exact .inl z
   ·exact .inr z
  refine ⟨hkf,?_⟩;obtain ⟨c,hc⟩:=lkc hkf;refine ⟨c,hc,?_⟩;rcases Yb I S (lkm hc) with ⟨_,q,_⟩ | ⟨q,_,_⟩
  ·rcases lk with ⟨z,_⟩ | ⟨_,c',hc',cell⟩
   ·exfalso
    rcases S.free _ hx rfl with k | k<;>(rw [k] at z;cases z)
   ·rw [q] at hc';cases hc'
    exact cell.keeps hk
  ·exfalso
   have a1:=QW S.nd hx;have a2:=QW S.nd q;rw [a1] at a2;cases a2
 ·rcases Yb I S (lkm e) with ⟨_,q,_⟩ | ⟨_,_,q⟩
  ·obtain ⟨v,z⟩:=I.cell x c q
   exact ⟨v,z.keeps hk⟩
  ·exact ⟨_,q _ hsz⟩
 ·rcases Yb I S (lkm e) with ⟨_,q,_⟩ | ⟨_,q,_⟩
  ·exact I.freeC x c q
  ·exact I.hok.fresh (le_of_lt q)
 ·have hp':p∈([]:List (Addr × Obj)):=hp
  cases hp'
end
noncomputable abbrev wa:=Addr->St->Hp->(St->Hp->Prop)->Prop
noncomputable def YV (elt:Expr)(gens:List Comprehension)(sc:Scope)(pos:Pos)(d:Nat)(acc:Value)(env:Env)(k:Sem Fin):Sem Fin:=
 match gens[d+1]? with
 | some g'=>do
  let x <- eval g'.iter env
  standAt g'.iter.pos
  let x <- foldedSetIterable g'.iter env x
  let _ <- runOwn (.compStart (.ListComp elt gens sc pos) (d+1) (<- holding [x] (pyIter x)) acc env) env
  k
 | none=>do
  (do let _ <- call (.builtin "list.append") [acc,<- eval elt env])
  k
theorem F6 {d:Nat}{it acc:Value}(hg:gens[d]? =some ⟨tg,iter,ifs,0⟩)(ha:∀g',gens[d+1]? =some g'->g'.is_async=0):
  compTurn (.ListComp elt gens sc pos) d it acc env=(do
   standAt iter.pos
   match <- pyNext it with
   | none=>pure (.done .next)
   | some v=>
    letOwnedTupleGo tg it v
    assign tg env v
    let mut ok:=true
    for c in ifs do
     if ok then ok <- isTrue c env (eval c env)
    if ok then YV elt gens sc pos d acc env (again (.compLoop (.ListComp elt gens sc pos) d it acc env))
    else again (.compLoop (.ListComp elt gens sc pos) d it acc env)):=by
 unfold compTurn YV;dsimp only;rw [hg];cases hn:gens[d+1]? with
 | none=>rfl
 | some g'=>
  obtain ⟨t',i',f',a'⟩:=g';have e:a'=0:=ha _ hn;subst e
  rfl
noncomputable def ZC (X:Cx)(ifs:List Expr)(t:TT):Prop:=
 ∀(pins:List (Addr × Obj)) (s:Shared) (σ:St) (H:Hp) (Q:Bool->Hp->Prop),Inv X pins σ H s->t σ H Q->
  wpAny (model X.prog X.w) X.A (forIn ifs true λ c r=>if r=true then do let ok <- isTrue c X.env (eval c X.env);pure (ForInStep.yield ok) else pure (ForInStep.yield r)) (TP X pins σ Q) X.xe s
noncomputable def Bt:TT:=λ _ H Q=>Q true H
theorem HU :ZC X [] Bt:=λ pins s σ H Q I h=>wpAny_tests_nil ⟨H,I,h⟩
theorem IE {c:Expr}{t:TT}(h:PT X c t):ZC X [c] t:=λ pins s σ H Q I hw=>wpAny_tests_one (h pins s σ H Q I hw)
noncomputable def kB (X:Cx)(elt:Expr)(gens:List Comprehension)(sc:Scope)(pos:Pos)(d:Nat)(t:wa):Prop:=
 ∀(pins:List (Addr × Obj)) (s:Shared) (σ:St) (H:Hp) (D:Addr) (Q:St->Hp->Prop) (k:Sem Fin) (Q':Fin->Shared->Prop) (E:Value->Shared->Prop),Inv X pins σ H s->t D σ H Q->
  (∀s' σ' H',Inv X pins σ' H' s'->Q σ' H'->wpAny (model X.prog X.w) X.A k Q' E s')->wpAny (model X.prog X.w) X.A (YV elt gens sc pos d (.ref D) X.env k) Q' E s
noncomputable def Ai (te:TE):wa:=λ D σ H Q=>te σ H λ y H1=>∃ys,H1 D=some (.lst ys)/\ys.length<sizeLine/\Q σ (upd H1 D (.lst (ys++[y])))
noncomputable def JI (J:It)(g:TG)(ti:TT)(tm:wa):wa:=λ D σ H Q=>∃W:Nat->Nat->St->Hp->Prop,(∃m,W 0 m σ H)/\∀i m σ H,W i m σ H->
 (J.stop i H/\Q σ H)∨(J.go i H/\∃N:St->Hp->Prop,(∀σ' H',N σ' H'->∃m',m'<m/\W (i+1) m' σ' H')/\∀x H',J.yld i H x H'->g x σ H' λ σ1 H1=>ti σ1 H1 λ b Hb=>if b=true then tm D σ1 Hb N else N σ1 Hb)
noncomputable def BD (wi:TI)(g:TG)(ti:TT)(tm:wa):wa:=λ D σ H Q=>wi σ H λ J H1=>JI J g ti tm D σ H1 Q
section
variable {d:Nat}
theorem Jr (hx:∀e s,X.xe e s->False){t:Sem α}{Q':α->Shared->Prop}(hh:wpAny (model X.prog X.w) X.A t Q' X.xe s'):wpAny (model X.prog X.w) X.A t Q' E s':=
 wpAny_mono hh (λ _ _ z=>z) λ e s' z=>(hx e s' z).elim
theorem Sf {te:TE}(hx:∀e s,X.xe e s->False)(he:PE X elt te)(hg:gens[d+1]? =none):kB X elt gens sc pos d (Ai te):=by
 intro pins s σ H D Q k Q' E I h hk;unfold YV;rw [hg];refine qa0 (qa0 (Jr hx (zP (he pins s σ H _ I h) λ u s1 ⟨y,H1,I1,r1,ys,e1,z1,q1⟩=>?_)));refine qa0 (Jr hx (zP (TF pins s1 σ H1 (.ref D) [y] (.ref D) [u] (λ _ H'=>Q σ H') I1 rfl (.cons r1 .nil) ⟨D,ys,y,rfl,rfl,e1,z1,q1⟩) λ _ s2 ⟨_,H2,I2,_,q2⟩=>?_));exact qa1 (hk s2 σ H2 I2 q2)
theorem EI {g:TG}{ti:TT}{tm:wa}(hx:∀e s,X.xe e s->False)(hc:X.calm=true)(hg:gens[d]? =some ⟨tg,iter,ifs,0⟩)(ha:∀g',gens[d+1]? =some g'->g'.is_async=0)(hgt:PG X tg g)(hi:ZC X ifs ti)(hm:kB X elt gens sc pos d tm)
  {Q:St->Hp->Prop}{J:It}{it:Addr}{tn:Nat->Heap->Prop}(T:Turn X.prog X.w X.K tg J fp it tn)(I:Inv X pins σ H s)(st:tn 0 s.heap)(hf:∀b∈fp,yZ X pins H b)
  (h:JI J g ti tm D σ H Q){R:Result->Shared->Prop}(hR:∀s' σ' H',Inv X pins σ' H' s'->Q σ' H'->R (.ok .next) s'):
  codeAny (model X.prog X.w) X.A (.compLoop (.ListComp elt gens sc pos) d (.ref it) (.ref D) X.env) R s:=by
 obtain ⟨W,⟨m0,w0⟩,turn⟩:=h;have stat:∀{H':Hp},(∀b∈fp,H' b=none)->∀b∈fp,yZ X pins H' b:=λ hn b hb=>⟨hn b hb,(hf b hb).2⟩;refine codeAny_loop rfl (λ n s'=>∃i σ' H',Inv X pins σ' H' s'/\tn i s'.heap/\(∀b∈fp,H' b=none)/\W i n σ' H') (λ n s3 hI=>?_) m0 ⟨0,σ,H,I,st,λ b hb=>(hf b hb).1,w0⟩;show wpAny _ X.A ((compTurn (.ListComp elt gens sc pos) d (.ref it) (.ref D) X.env).onRaise (λ x=>do noteFrame x X.env;theTreesLotGoes x)) _ _ s3
 refine wpAny_noted ?_;rw [F6 hg ha];refine qa0 (wpAny_standAt ?_);obtain ⟨i,σ3,H3,I3,wX,fr3,w3⟩:=hI;rcases turn i n σ3 H3 w3 with ⟨stop,qn⟩ | ⟨go,N,hN,step⟩
 ·refine qa0 (zP (T.done X rfl rfl rfl hc i pins s3 σ3 H3 _ I3 (stat fr3) wX stop) λ r s4 ⟨hr,I4⟩=>?_)
  subst hr;exact qa1 (hR s4 σ3 H3 I4 qn)
 ·refine qa0 (zP (T.item X rfl rfl rfl hc i pins s3 σ3 H3 _ I3 (stat fr3) wX go) λ r s4 ⟨u,hr,h4⟩=>?_)
  subst hr;refine qa0 (zP h4 λ _ s5 ⟨x,H5,I5,r5,y5,st5,fr5⟩=>?_);have I5':=I5.pinned (stat fr5) (T.obj _ _ st5);have back:∀{σ7:St} {H7:Hp} {s7:Shared},Inv X (pins++Yu fp s5.heap) σ7 H7 s7->N σ7 H7->∃m,m<n/\∃i σ' H',Inv X pins σ' H' s7/\tn i s7.heap/\(∀b∈fp,H' b=none)/\W i m σ' H':=λ {σ7 H7 s7} I7 n7=>by
   obtain ⟨m',hm,w7⟩:=hN σ7 H7 n7;refine ⟨m',hm,i+1,σ7,H7,I7.unpinned,T.keep _ _ _ st5 λ b hb o e=>(I7.pin (b,o) (mem_append_right _ (mem_append_right _ (Kw hb e)))).1,λ b hb=>?_,w7⟩;obtain ⟨o,e,d⟩:=T.obj _ _ st5 b hb;exact (I7.pin (b,o) (mem_append_right _ (mem_append_right _ (Kw hb e)))).2.1
  refine qa0 (Jr hx (zP (hgt _ s5 σ3 H5 x u _ I5' r5 (step x H5 y5)) λ _ s6 ⟨σ6,H6,I6,q6⟩=>?_));refine qa0 (Jr hx (zP (hi _ s6 σ6 H6 _ I6 q6) λ ok s7 ⟨H7,I7,q7⟩=>?_));cases ok with
  | false=>exact qa1 ⟨rfl,back I7 q7⟩
  | true=>
   rw [if_pos rfl] at q7;exact hm _ s7 σ6 H7 D _ _ _ _ I7 q7 λ s8 σ8 H8 I8 q8=>qa1 ⟨rfl,back I8 q8⟩
theorem PM {g:TG}{ti:TT}{tm:wa}(hx:∀e s,X.xe e s->False)(hc:X.calm=true)(hg:gens[d]? =some ⟨tg,iter,ifs,0⟩)(ha:∀g',gens[d+1]? =some g'->g'.is_async=0)(hgt:PG X tg g)(hi:ZC X ifs ti)(hm:kB X elt gens sc pos d tm)
  {Q:St->Hp->Prop}{J:It}{it:Addr}{tn:Nat->Heap->Prop}(T:Turn X.prog X.w X.K tg J fp it tn)(I:Inv X pins σ H s)(st:tn 0 s.heap)(hf:∀b∈fp,yZ X pins H b)
  (h:JI J g ti tm D σ H Q){R:Result->Shared->Prop}(hR:∀s' σ' H',Inv X pins σ' H' s'->Q σ' H'->R (.ok .next) s'):
  codeAny (model X.prog X.w) X.A (.compStart (.ListComp elt gens sc pos) d (.ref it) (.ref D) X.env) R s:=by
 have loop:=EI hx hc hg ha hgt hi hm T I st hf h hR;refine codeAny_of_tree ?_;show wpAny _ _ ((compStart (.ListComp elt gens sc pos) d (.ref it) (.ref D) X.env).onRaise (λ x=>do noteFrame x X.env;standAt theWindowsPlace)) _ _ s
 refine wpAny_notedAt ?_;unfold compStart;have hcl:(clausesOf (.ListComp elt gens sc pos))[d]? =some ⟨tg,iter,ifs,0⟩:=hg;rw [hcl];show wpAny _ _ (ask >>= _) _ _ s;refine qa0 (wpAny_askSetting (wpAny_ite ?_))
 split
 ·first
   | exact qa0 (qa1 (qa1 (And.intro rfl loop)))
   | exact qa1 (And.intro rfl loop)
 ·first
   | exact qa0 (wpAny_rule (qa0 (wpAny_standAt (qa0 (T.self _ 0 s _ _ st (qa1 (And.intro rfl loop)))))))
   | (refine qa0 (wpAny_rule ?_);show wpAny _ _ (standAt iter.pos >>= _) _ _ s;exact qa0 (wpAny_standAt (qa0 (T.self _ 0 s _ _ st (qa1 (And.intro rfl loop))))))
theorem Iz {wi:TI}{g:TG}{ti:TT}{tm:wa}(hx:∀e s,X.xe e s->False)(hc:X.calm=true)(hg:gens[d+1]? =some ⟨tg,iter,ifs,0⟩)(ha:∀g',gens[d+2]? =some g'->g'.is_async=0)(hw:PI X tg iter wi)(hgt:PG X tg g)(hi:ZC X ifs ti)(hm:kB X elt gens sc pos (d+1) tm)
  (hs:∀x,foldedSetIterable iter X.env x=pure x:=by intro _;rfl):kB X elt gens sc pos d (BD wi g ti tm):=by
 intro pins s σ H D Q k Q' E I h hk;unfold YV;rw [hg];refine qa0 (Jr hx (zP (hw pins s σ H _ I h) λ v s1 h1=>?_));refine qa0 (wpAny_standAt (qa0 (wpAny_of_eq (hs v) ?_)));refine qa0 (wpAny_holding (Jr hx (zP h1 λ itv s2 h2=>?_)));obtain ⟨it,fp,tn,J,H2,e,I2,T,wH,f2,q2⟩:=h2;subst e;refine qa0 (wpAny_runOwn (PM hx hc hg ha hgt hi hm T I2 wH f2 q2 λ s' σ' H' I' q'=>?_));exact hk s' σ' H' I' q'
end
noncomputable def gz (nl:Nat)(cap:List Nat)(σ:St):St:=List.replicate nl none++cap.map λ i=>(σ[i]?).join
noncomputable def Zt (M N:List Str)(scope:Scope)(nl:Nat)(cap:List Nat):Bool:=
 N.length==nl+cap.length&&(List.range cap.length).all λ k=>match N[nl+k]?,M[cap.getD k 0]? with
  | some x,some y=>x==y&&scope.names.any λ z=>z.1==x&&z.2==NameKind.free
  | _,_=>false
theorem IG {M:List Str}{nl:Nat}(h:Zt M N scope nl cap=true):(gz nl cap σ).length=N.length/\
  ∀(j:Nat) (x:Str) (v:V),N[j]? =some x->(gz nl cap σ)[j]? =some (some v)->(x,NameKind.free)∈scope.names/\∃i:Nat,M[i]? =some x/\σ[i]? =some (some v):=by
 unfold Zt at h;rw [and_eq_true,beq_iff_eq] at h;obtain ⟨h1,h2⟩:=h;refine ⟨by unfold gz;simp [h1],λ j x v e1 e2=>?_⟩
 unfold gz at e2
 by_cases hj:j<nl
 ·rw [getElem?_append_left (by simpa using hj),getElem?_replicate] at e2
  split at e2<;>cases e2
 ·rw [getElem?_append_right (by simpa using hj),length_replicate,getElem?_map] at e2
  cases hc:cap[j - nl]? with
  | none=>rw [hc] at e2;cases e2
  | some i=>
   rw [hc] at e2;have e2':(σ[i]?).join=some v:=Option.some.inj e2;have hk:j - nl<cap.length:=(qa2.mp hc).1;have h3:=qa4.mp h2 (j - nl) (qa5.mpr hk);have ej:nl+(j - nl)=j:=by omega
   rw [ej,e1] at h3;have ec:cap.getD (j - nl) 0=i:=by rw [getD_eq_getElem?_getD,hc];rfl
   rw [ec] at h3;cases hm:M[i]? with
   | none=>rw [hm] at h3;cases h3
   | some y=>
    rw [hm] at h3;rw [and_eq_true,beq_iff_eq] at h3;obtain ⟨h4,h5⟩:=h3;subst h4;obtain ⟨z,hz,hz2⟩:=List.any_eq_true.mp h5;rw [and_eq_true,beq_iff_eq,beq_iff_eq] at hz2;refine ⟨?_,i,hm,?_⟩
    ·obtain ⟨z1,z2⟩:=z
     obtain ⟨a1,a2⟩:=hz2;cases a1;cases a2;exact hz
    ·cases hs:σ[i]? with
     | none=>rw [hs] at e2';cases e2'
     | some o=>rw [hs] at e2';cases o with
      | none=>cases e2'
      | some w=>cases e2';rfl
noncomputable abbrev jC:Value->Shared->Prop:=λ _ _=>False
noncomputable def Ws (K:Frag)(wi:TI)(g:TG)(ti:TT)(tm:wa)(nl:Nat)(cap:List Nat):TE:=λ σ H Q=>wi σ H λ J H2=>∀D,H2 D=none->K.lookup D=none->JI J g ti tm D (gz nl cap σ) (upd H2 D (.lst [])) λ _ H'=>Q (.ref D) H'
section
variable {wi:TI}{g:TG}{ti:TT}{tm:wa}{nl:Nat}
theorem Xu (hc:X.calm=true)(S:gk X sc)(hcap:Zt X.N N sc nl cap=true)(ha:∀g',gs[0]? =some g'->g'.is_async=0)(hw:PI X tg iter wi)
  
  (hin:∀s H fp,Inv X pins σ H s->(∀b∈fp,yZ X pins H b)->PG (jc X N sc s H fp jC) tg g/\ZC (jc X N sc s H fp jC) ifs ti/\kB (jc X N sc s H fp jC) elt (⟨tg,iter,ifs,0⟩::gs) sc pos 0 tm)
  {Q:VK}(I:Inv X pins σ H s)(h:Ws X.K wi g ti tm nl cap σ H Q)
  {use:Option (Value->Sem Unit)}{Q':Value->Shared->Prop}
  (hend:∀(D C:Addr) (s':Shared) (H':Hp) (m:Str->Option Value),Inv X pins σ H' s'->Q (.ref D) H'->s'.heap.Ns C m->H' C=none->C≠X.env.locals->X.s0.heap.objs.size<=C->(∀x c,X.env.cells.lookup x=some c->c≠C)->(∀q∈X.pn++pins,q.1≠C)->
   compPost (model X.prog X.w) X.A X.xe use Q' (.ref D) C (.ok .next) s')
  (hs:∀x,foldedSetIterable iter X.env x=pure x:=by intro _;rfl):
  wpAny (model X.prog X.w) X.A (comprehension (.ListComp elt (⟨tg,iter,ifs,0⟩::gs) sc pos) sc X.env p (newList []) false (eval iter X.env) use) Q' X.xe s:=by
 have hfree:∀y∈sc.names,y.2=.free->∃c,X.env.cells.lookup y.1=some c:=λ y hy e=>I.ok.has _ (S.free y hy e);refine wpAny_comprehension_free (use:=use) rfl hs (Tc hfree) S.kind (λ y hy e=>by
  obtain ⟨y1,y2⟩:=y;have e':y2=.local:=e;subst e';exact QW S.nd hy) ?_
 refine zP (hw pins s σ H _ I h) λ v s1 h1=>zP h1 λ itv s2 h2=>?_;obtain ⟨it,fp,tn,J,H2,e,I2,T,wH,f2,q2⟩:=h2;subst e;refine wpAny_newObj_type ?_;have hD:H2 s2.heap.objs.size=none:=I2.fresh;have hKD:X.K.lookup s2.heap.objs.size=none:=by
  cases ek:X.K.lookup s2.heap.objs.size with
  | none=>rfl
  | some o=>exact absurd (lt_size (I2.kIn _ _ ek)) (lt_irrefl _)
 have q3:=q2 _ hD hKD;generalize hs3:({ s2 with heap:=s2.heap.push { cls:=.type "list",data:=.seq ([]:List Value).toArray } }:Shared)=s3
 have hs3':s3={ s2 with heap:=s2.heap.push { cls:=.type "list",data:=.seq ([]:List Value).toArray } }:=hs3.symm
 have I3:Inv X pins σ (upd H2 s2.heap.objs.size (.lst [])) s3:=by
  rw [hs3'];exact I2.laid (t':=s2.toks) (λ b u e=>get?_push_of_some _ e) (le_refl _) ⟨by simp,[],0,.nil,get?_push_size _ rfl⟩
 have fpo:∀b∈fp,∃o,s2.heap.get? b=some o:=λ b hb=>let ⟨o,e,_⟩:=T.obj 0 _ wH b hb;⟨o,e⟩
 have sz3:s3.heap.objs.size=s2.heap.objs.size+1:=by rw [hs3'];exact size_push ..
 have wX:tn 0 s3.heap:=T.keep _ _ _ wH λ b hb o e=>by rw [hs3'];exact get?_push_of_some _ e
 have fl3:∀b∈fp,b<s3.heap.objs.size:=λ b hb=>by
  obtain ⟨o,e⟩:=fpo b hb;rw [sz3];exact lt_succ_of_lt (lt_size e)
 have f3:∀b∈fp,yZ X pins (upd H2 s2.heap.objs.size (.lst [])) b:=λ b hb=>by
  obtain ⟨o,e⟩:=fpo b hb;refine ⟨?_,(f2 b hb).2⟩;rw [qf (ne_of_lt (lt_size e))];exact (f2 b hb).1
 generalize upd H2 s2.heap.objs.size (.lst [])=H3 at I3 f3 q3;generalize s2.heap.objs.size=D at q3 ⊢;refine OG ?_;obtain ⟨cl,cs⟩:=IG hcap (σ:=σ);have I4:=Hi (xe:=jC) I3 S f3 fl3 cl cs;obtain ⟨hgt,hi,hm⟩:=hin s3 H3 fp I3 f3;refine PM (X:=jc X N sc s3 H3 fp jC) (gens:=⟨tg,iter,ifs,0⟩::gs) (d:=0) (λ _ _ z=>z) hc rfl ha hgt hi hm T I4 (T.keep _ _ _ wX λ b hb o e=>pushCells_keeps _ _ _ _ (get?_push_of_some _ e)) (λ b hb=>?_) q3 λ s' σ' H' I' q'=>?_
 ·obtain ⟨g1,g2,g3,g4,g5,g6⟩:=f3 b hb
  refine ⟨g1,ne_of_lt (fl3 b hb),λ z=>?_,.inl hb,(I4.ok.exf b hb).2,λ p hp=>absurd (show p∈([]:List (Addr × Obj)) from hp) (by simp)⟩
  rcases qa3.mp (I3.stkSub b z) with e | e
  ·exact g2 e
  ·exact g3 e
 ·have I5:Inv X pins σ H' s':=I3.call' I'.os I'.base I'.hok I'.bare λ b hb=>by
   obtain ⟨g1,g2,g3,g4,g5,g6⟩:=f3 b hb;exact ⟨g4,g2,g5,g6⟩
  obtain ⟨m,hn,_⟩:=I'.loc;refine hend D _ s' H' m I5 q' hn I'.free (ne_of_gt I3.lt) I3.sz (λ x c e z=>?_) λ q hq z=>?_
  ·obtain ⟨v,w⟩:=I3.cell x c e
   exact lt_irrefl _ (lt_of_lt_of_le w.lt (by rw [z];exact le_refl _))
  ·exact lt_irrefl _ (lt_of_lt_of_le (lt_size (I3.pin q hq).1) (by rw [z];exact le_refl _))
theorem FV (hc:X.calm=true)(S:gk X sc)(hcap:Zt X.N N sc nl cap=true)(ha:∀g',gs[0]? =some g'->g'.is_async=0)(hw:PI X tg iter wi)
  (hin:∀s H fp,PG (jc X N sc s H fp jC) tg g/\ZC (jc X N sc s H fp jC) ifs ti/\kB (jc X N sc s H fp jC) elt (⟨tg,iter,ifs,0⟩::gs) sc pos 0 tm)
  (hs:∀x,foldedSetIterable iter X.env x=pure x:=by intro _;rfl):PE X (.ListComp elt (⟨tg,iter,ifs,0⟩::gs) sc pos) (Ws X.K wi g ti tm nl cap):=by
 intro pins s σ H Q I h;rw [eval_ListComp];refine Xu (use:=none) hc S hcap ha hw (λ s H fp _ _=>hin s H fp) I h (λ D C s' H' m I' q hn h1 h2 h3 h4 h5=>?_) hs;exact ⟨m,hn,λ h' sb=>⟨.ref D,H',I'.turned (t':=s'.toks) (λ b o hb e=>(sb.2 b hb).trans e) h1 h2 (.inr h3) h4 h5,rfl,q⟩⟩
theorem MV {px:Pos}{spos:Pos}(hN:X.N.Nodup)(hi':X.N[i]? =some x)(hx:X.env.scope.names.lookup x=some .local)
  (hsw:swapsWith (.ListComp elt (⟨tg,iter,ifs,0⟩::gs) sc pos) (some (.Name x px)) spos.line X.env=pure true)
  (hc:X.calm=true)(S:gk X sc)(hcap:Zt X.N N sc nl cap=true)(ha:∀g',gs[0]? =some g'->g'.is_async=0)(hw:PI X tg iter wi)
  (hin:∀s H fp,PG (jc X N sc s H fp jC) tg g/\ZC (jc X N sc s H fp jC) ifs ti/\kB (jc X N sc s H fp jC) elt (⟨tg,iter,ifs,0⟩::gs) sc pos 0 tm)
  (hs:∀x,foldedSetIterable iter X.env x=pure x:=by intro _;rfl):PS X (.Assign [.Name x px] (.ListComp elt (⟨tg,iter,ifs,0⟩::gs) sc pos) spos) (WH (Ws X.K wi g ti tm nl cap) (Wo i)):=by
 intro pins s σ H D I h;rw [exec_Assign_Name_used _ _ _ _ hsw];refine qa0 (wpAny_standAt (qa0 ?_));show wpAny _ X.A (do let _ <- comprehension (.ListComp elt (⟨tg,iter,ifs,0⟩::gs) sc pos) sc X.env _ (newList []) false (eval iter X.env) (some (assign (.Name x px) X.env))) _ _ s
 refine qa0 (wpAny_mono (Xu (use:=some (assign (.Name x px) X.env)) (Q':=λ _ s'=>SP X pins D .next s') hc S hcap ha hw (λ s H fp _ _=>hin s H fp) I h (λ D' C s' H' m I' q hn h1 h2 h3 h4 h5=>?_) hs) (λ _ s' hq=>qa1 (qa1 hq)) λ _ _ e=>e);show wpAny _ X.A (assign (.Name x px) X.env (.ref D')) _ _ _;refine wpAny_assign_Name (To I' hN hi' (.inl hx) (v:=.ref D') rfl (λ s2 I2 ⟨a,sb,ea⟩=>?_) (.inr hx));have hCa:C≠a:=by
  rcases ea with e | e
  ·rw [e];exact h2
  ·exact λ z=>h4 x a e z.symm
 refine ⟨m,hn.sameBut sb hCa,λ h' sb'=>⟨_,H',I2.turned (t':=s2.toks) (λ b o hb e=>(sb'.2 b hb).trans e) h1 h2 (.inr h3) h4 h5,q⟩⟩
end
end L2
namespace Mi
open PySem PySem.Spec PyProof.Rows L2
inductive W where
 | non | bl (b:Bool) | int (i:Int) | str (x:Str) | tup (xs:List W) | ref (n:Nat)
 | clo (k:Nat) (xs:List W) (P:Obj->Addr->Obj->List V->Prop)
 | xc (x:Str)
inductive O where
 | lst (xs:List W) | ro (xs:List W) | dct (kvs:List (Key × W))
 | tab (q:Str) (P:Addr)
noncomputable def O.mut:O->Bool
 | .ro _=>false
 | _=>true
noncomputable abbrev Hx:=List O
noncomputable abbrev En:=List (Option W)
inductive R (α:Type) where
 | ok (a:α) (A:Hx) | exc (x:Str) (A:Hx) | bad
noncomputable def R.bind {β:Type}(r:R α)(f:α->Hx->R β):R β:=match r with
 | .ok a A=>f a A
 | .exc x A=>.exc x A
 | .bad=>.bad
noncomputable def R.post (r:R α)(P:α->Hx->Prop)(E:Str->Hx->Prop):Prop:=match r with
 | .ok a A=>P a A
 | .exc x A=>E x A
 | .bad=>False
noncomputable def R.nox (r:R α):R α:=match r with
 | .ok a A=>.ok a A
 | .exc _ _=>.bad
 | .bad=>.bad
section
variable {β:Type}{r:R α}{f:α->Hx->R β}{P Q:α->Hx->Prop}{P':β->Hx->Prop}{E F:Str->Hx->Prop}
theorem zL {a:α}{A:Hx}:(R.ok a A).bind f=f a A:=rfl
theorem So {A:Hx}:(R.exc x A:R α).bind f=.exc x A:=rfl
theorem zU:(r.bind f).post P' E↔r.post (λ a A=>(f a A).post P' E) E:=by cases r<;>exact Iff.rfl
theorem qj (h:r.post P E)(hP:∀a A,P a A->Q a A)(hE:∀x A,E x A->F x A):r.post Q F:=by
 cases r with
 | ok a A=>exact hP _ _ h
 | exc x A=>exact hE _ _ h
 | bad=>exact h
end
noncomputable abbrev Ev:=En->Hx->R W
inductive Ax (K:Frag)(H:Hp)(R:List V->Prop)(v:V):Prop
 | mk (a:Addr) (vs:List V) (e:v=.ref a) (h:qv K H a vs) (r:R vs)
inductive As (H:Hp)(P:Obj->Addr->Obj->List V->Prop)(R:List V->Prop)(v:V):Prop
 | mk (a:Addr) (ob:Obj) (u:HO) (c:Addr) (oc:Obj) (uc:HO) (vs:List V) (e:v=.ref a) (h1:H a=some (.frz ob u)) (h2:H c=some (.frz oc uc)) (p:P ob c oc vs) (r:R vs)
inductive AR (R:V->Prop)(Rs:List V->Prop)(vs:List V):Prop
 | mk (v:V) (r:List V) (e:vs=v::r) (h:R v) (t:Rs r)
mutual
noncomputable def RV (K:Frag)(φ:List Addr)(H:Hp):W->V->Prop
 | .non,v=>v=.non
 | .bl b,v=>v=.bl b
 | .int i,v=>v=.int i
 | .str x,v=>v=.str x
 | .tup ws,v=>Ax K H (zE K φ H ws) v
 | .ref n,v=>∃a,v=.ref a/\φ[n]? =some a
 | .clo _ ws P,v=>As H P (zE K φ H ws) v
 | .xc x,v=>∃a oe u C,v=.ref a/\H a=some (.frz oe u)/\oe.cls=.ref C/\nsIn K mainGlobals x=some (some (.ref C))
noncomputable def zE (K:Frag)(φ:List Addr)(H:Hp):List W->List V->Prop
 | [],vs=>vs=[]
 | w::ws,vs=>AR (RV K φ H w) (zE K φ H ws) vs
end
structure Le (K:Frag)(φ:List Addr)(H:Hp)(φ':List Addr)(H':Hp):Prop where
 ex:∀(n:Nat) (a:Addr),φ[n]? =some a->φ'[n]? =some a
 tp:∀a vs,qv K H a vs->qv K H' a vs
 fr:∀a o,H a=some o->(∀n:Nat,φ[n]?≠some a)->H' a=some o
 nw:∀(n:Nat) (a:Addr),φ'[n]? =some a->φ[n]? =some a∨H a=none
 st:∀a,H' a=none->H a=none
 fz:∀a o u,H a=some (.frz o u)->H' a=some (.frz o u)
theorem Le.refl {K φ H}:Le K φ H φ H:=⟨λ _ _ h=>h,λ _ _ h=>h,λ _ _ h _=>h,λ _ _ h=>.inl h,λ _ h=>h,λ _ _ _ h=>h⟩
theorem Le.trans {K φ H φ1 H1 φ2 H2}(a:Le K φ H φ1 H1)(b:Le K φ1 H1 φ2 H2):Le K φ H φ2 H2 where
 ex:=λ n x h=>b.ex n x (a.ex n x h)
 tp:=λ n x h=>b.tp n x (a.tp n x h)
 fr:=λ c o h n=>b.fr c o (a.fr c o h n) λ k e=>by
  rcases a.nw k c e with e | e
  ·exact n k e
  ·rw [h] at e;cases e
 nw:=λ n c e=>by
  rcases b.nw n c e with e | e
  ·exact a.nw n c e
  ·exact .inr (a.st c e)
 st:=λ c e=>a.st c (b.st c e)
 fz:=λ c o u h=>b.fz c o u (a.fz c o u h)
theorem Le.off {K φ H φ' H'}(l:Le K φ H φ' H'){o:HO}(h:H D=some o)(n:∀k:Nat,φ[k]?≠some D):H' D=some o/\∀k:Nat,φ'[k]?≠some D:=
 ⟨l.fr D o h n,λ k e=>by
  rcases l.nw k D e with e | e
  ·exact n k e
  ·rw [h] at e;cases e⟩
section
variable {K:Frag}{φ':List Addr}{H':Hp}
structure gE (K:Frag)(φ:List Addr)(H:Hp)(φ':List Addr)(H':Hp):Prop where
 ex:∀(n:Nat) (a:Addr),φ[n]? =some a->φ'[n]? =some a
 tp:∀a vs,qv K H a vs->qv K H' a vs
 fz:∀a o u,H a=some (.frz o u)->H' a=some (.frz o u)
mutual
theorem RV.monoW (l:gE K φ H φ' H'):∀{w:W} {v:V},RV K φ H w v->RV K φ' H' w v
 | .non,_,h=>h
 | .bl _,_,h=>h
 | .int _,_,h=>h
 | .str _,_,h=>h
 | .tup ws,_,⟨a,vs,e,t,r⟩=>⟨a,vs,e,l.tp _ _ t,zE.monoW l r⟩
 | .ref n,_,⟨a,e,f⟩=>⟨a,e,l.ex _ _ f⟩
 | .clo _ ws P,_,⟨a,ob,u,c,oc,uc,vs,e,h1,h2,h3,r⟩=>⟨a,ob,u,c,oc,uc,vs,e,l.fz _ _ _ h1,l.fz _ _ _ h2,h3,zE.monoW l r⟩
 | .xc x,_,⟨a,oe,u,C,e,h1,h2⟩=>⟨a,oe,u,C,e,l.fz _ _ _ h1,h2⟩
theorem zE.monoW (l:gE K φ H φ' H'):∀{ws:List W} {vs:List V},zE K φ H ws vs->zE K φ' H' ws vs
 | [],_,h=>h
 | w::ws,_,⟨v,r,e,h,t⟩=>⟨v,r,e,RV.monoW l h,zE.monoW l t⟩
end
theorem RV.mono {w:W}(h:RV K φ H w v)(l:Le K φ H φ' H'):RV K φ' H' w v:=RV.monoW ⟨l.ex,l.tp,l.fz⟩ h
theorem zE.mono {w:List W}{v:List V}(h:zE K φ H w v)(l:Le K φ H φ' H'):zE K φ' H' w v:=zE.monoW ⟨l.ex,l.tp,l.fz⟩ h
structure yb (K:Frag)(D:Addr)(φ:List Addr)(H:Hp)(φ':List Addr)(H':Hp):Prop where
 ex:∀(n:Nat) (a:Addr),φ[n]? =some a->φ'[n]? =some a
 tp:∀a vs,qv K H a vs->qv K H' a vs
 fr:∀a o,a≠D->H a=some o->(∀n:Nat,φ[n]?≠some a)->H' a=some o
 nw:∀(n:Nat) (a:Addr),φ'[n]? =some a->φ[n]? =some a∨H a=none
 st:∀a,H' a=none->H a=none
 fz:∀a o u,H a=some (.frz o u)->H' a=some (.frz o u)
theorem yb.refl {D}:yb K D φ H φ H:=⟨λ _ _ h=>h,λ _ _ h=>h,λ _ _ _ h _=>h,λ _ _ h=>.inl h,λ _ h=>h,λ _ _ _ h=>h⟩
theorem Le.toD {D}(l:Le K φ H φ' H'):yb K D φ H φ' H':=⟨l.ex,l.tp,λ a o _ h n=>l.fr a o h n,l.nw,l.st,l.fz⟩
theorem yb.trans {D φ1 H1 φ2 H2}(a:yb K D φ H φ1 H1)(b:yb K D φ1 H1 φ2 H2):yb K D φ H φ2 H2 where
 ex:=λ n x h=>b.ex n x (a.ex n x h)
 tp:=λ n x h=>b.tp n x (a.tp n x h)
 fr:=λ c o ne h n=>b.fr c o ne (a.fr c o ne h n) λ k e=>by
  rcases a.nw k c e with e | e
  ·exact n k e
  ·rw [h] at e;cases e
 nw:=λ n c e=>by
  rcases b.nw n c e with e | e
  ·exact a.nw n c e
  ·exact .inr (a.st c e)
 st:=λ c e=>a.st c (b.st c e)
 fz:=λ c o u h=>b.fz c o u (a.fz c o u h)
theorem RV.monoD {D}{w:W}(h:RV K φ H w v)(l:yb K D φ H φ' H'):RV K φ' H' w v:=RV.monoW ⟨l.ex,l.tp,l.fz⟩ h
theorem zE.monoD {D}{w:List W}{v:List V}(h:zE K φ H w v)(l:yb K D φ H φ' H'):zE K φ' H' w v:=zE.monoW ⟨l.ex,l.tp,l.fz⟩ h
theorem zE.length:∀{ws:List W} {vs:List V},zE K φ H ws vs->ws.length=vs.length
 | [],_,h=>by cases h;rfl
 | w::ws,_,⟨v,r,e,_,t⟩=>by subst e;simp [zE.length t]
theorem zE.get:∀{ws:List W} {vs:List V} {i:Nat} {w:W},zE K φ H ws vs->ws[i]? =some w->∃v,vs[i]? =some v/\RV K φ H w v
 | [],_,_,_,_,e=>by simp at e
 | w::ws,_,0,_,⟨v,r,e,h,t⟩,q=>by subst e;simp at q;subst q;exact ⟨v,by simp,h⟩
 | w::ws,_,i+1,x,⟨v,r,e,h,t⟩,q=>by
  subst e;obtain ⟨y,h1,h2⟩:=zE.get (i:=i) (w:=x) t (by simpa using q)
  exact ⟨y,by simpa using h1,h2⟩
theorem zE.append:∀{ws us:List W} {vs xs:List V},zE K φ H ws vs->zE K φ H us xs->zE K φ H (ws++us) (vs++xs)
 | [],_,_,_,h,t=>by cases h;exact t
 | w::ws,_,_,_,⟨v,r,e,h,t⟩,t2=>by subst e;exact ⟨v,r++_,rfl,h,zE.append t t2⟩
theorem zE.one {w:W}(h:RV K φ H w v):zE K φ H [w] [v]:=⟨v,[],rfl,h,rfl⟩
theorem zE.nil:zE K φ H [] []:=rfl
theorem zE.cons {w:W}{v:V}{ws:List W}{vs:List V}(h:RV K φ H w v)(t:zE K φ H ws vs):zE K φ H (w::ws) (v::vs):=⟨v,vs,rfl,h,t⟩
theorem zE.set {w:W}(q:RV K φ H w v):∀{ws:List W} {vs:List V} (i:Nat),zE K φ H ws vs->zE K φ H (ws.set i w) (vs.set i v)
 | [],_,_,h=>by cases h;exact rfl
 | _::_,_,0,⟨v',r,e,h,t⟩=>by subst e;exact ⟨v,r,rfl,q,t⟩
 | _::_,_,i+1,⟨v',r,e,h,t⟩=>by subst e;exact ⟨v',_,rfl,h,zE.set q i t⟩
theorem zE.erase:∀{ws:List W} {vs:List V} (n:Nat),zE K φ H ws vs->zE K φ H (ws.eraseIdx n) (vs.eraseIdx n)
 | [],_,n,h=>by cases h;rw [List.eraseIdx_nil,List.eraseIdx_nil];exact zE.nil
 | _::_,_,0,⟨v',r,e,h,t⟩=>by subst e;simpa using t
 | _::_,_,n+1,⟨v',r,e,h,t⟩=>by subst e;exact ⟨v',_,rfl,h,zE.erase n t⟩
theorem zE.ints:∀{ns:List Int} {vs:List V},zE K φ H (ns.map W.int) vs↔vs=ns.map V.int
 | [],vs=>Iff.rfl
 | n::ns,vs=>by
  constructor
  ·rintro ⟨v,r,e,h,t⟩
   rw [e,(show v=V.int n from h),zE.ints.mp t];rfl
  ·intro e
   exact ⟨V.int n,ns.map V.int,e,rfl,zE.ints.mpr rfl⟩
noncomputable def JT (K:Frag)(H:Hp)(a:Addr)(xs:List V):Prop:=
 (∃ob,H a=some (.frz ob (.lst xs)))∨
  ∃(o:Obj) (its:Array Value) (n:Nat),K.lookup a=some o/\o.cls=.type "list" /\ o.dict=none/\o.data=.seq its n/\its.size<=sizeLine/\Vals xs its.toList
theorem JT.sq (h:JT K H a xs):qZ K H a xs:=by
 rcases h with h | h
 ·exact .inl (.inr h)
 ·exact .inr h
inductive TabAt (H:Hp)(q:Str)(cv:Value):Prop
 | mk (c:Addr) (oc:Obj) (u:HO) (vs:Array Value) (t:Tok) (e:cv=.ref c) (h:H c=some (.frz oc u)) (d:oc.data=.fields vs/\vs[1]? =some (.str q t))
noncomputable def YJ (H:Hp)(q:Str)(ps:Array Value):Prop:=TriplesOk ps.toList/\∀pos cv,codeAmong pos ps.toList=some cv->TabAt H q cv
theorem YJ.mono {q:Str}{ps:Array Value}(h:YJ H q ps)(l:∀a o u,H a=some (.frz o u)->H' a=some (.frz o u)):YJ H' q ps:=
 ⟨h.1,λ pos cv e=>by obtain ⟨c,oc,u,vs,t,h1,h2,h3⟩:=h.2 pos cv e;exact ⟨c,oc,u,vs,t,h1,l _ _ _ h2,h3⟩⟩
noncomputable def OR (K:Frag)(φ:List Addr)(H:Hp)(a:Addr):O->Prop
 | .lst ws=>∃vs,H a=some (.lst vs)/\zE K φ H ws vs
 | .ro ws=>∃vs,JT K H a vs/\zE K φ H ws vs
 | .dct kvs=>∃us,H a=some (.dK us)/\us.map (·.1)=kvs.map (·.1)/\zE K φ H (kvs.map (·.2)) (us.map (·.2))
 | .tab q P=>a=P/\∃ps,H a=some (.tbl ps)/\YJ H q ps
structure zJ (K:Frag)(φ:List Addr)(A:Hx)(H:Hp):Prop where
 len:φ.length=A.length
 inj:∀(i j:Nat) (a:Addr) (o o':O),φ[i]? =some a->φ[j]? =some a->A[i]? =some o->A[j]? =some o'->o.mut=true->o'.mut=true->i=j
 ob:∀(n:Nat) (o:O),A[n]? =some o->∃a,φ[n]? =some a/\OR K φ H a o
variable {A:Hx}
theorem OR.there {o:O}(h:OR K φ H a o)(m:o.mut=true):∃u,H a=some u/\(∀xs,u≠.tup xs)/\(∀ob v,u≠.frz ob v):=by
 cases o with
 | lst ws=>obtain ⟨vs,e,_⟩:=h;exact ⟨_,e,λ _ z=>(by cases z),λ _ _ z=>(by cases z)⟩
 | ro ws=>cases m
 | dct kvs=>obtain ⟨vs,e,_⟩:=h;exact ⟨_,e,λ _ z=>(by cases z),λ _ _ z=>(by cases z)⟩
 | tab q P=>obtain ⟨_,vs,e,_⟩:=h;exact ⟨_,e,λ _ z=>(by cases z),λ _ _ z=>(by cases z)⟩
theorem Wg {o:HO}(h:qv K H a vs)(n:∀xs,H b≠some (.tup xs))(nf:∀ob u,H b≠some (.frz ob u)):qv K (upd H b o) a vs:=by
 rcases h with (h | ⟨ob,h⟩) | h
 ·exact .inl (.inl (by rw [qf];exact h;intro e;subst e;exact n _ h))
 ·exact .inl (.inr ⟨ob,by rw [qf];exact h;intro e;subst e;exact nf _ _ h⟩)
 ·exact .inr h
theorem Le.upd {o:HO}{k:Nat}(hb:φ[k]? =some b)(n:∀xs,H b≠some (.tup xs))(nf:∀ob u,H b≠some (.frz ob u)):Le K φ H φ (upd H b o) where
 ex:=λ _ _ h=>h
 tp:=λ _ _ h=>Wg h n nf
 fr:=λ a u h z=>by
  rw [qf];exact h;intro e;subst e;exact z k hb
 nw:=λ _ _ h=>.inl h
 st:=λ a h=>by
  by_cases e:a=b
  ·subst e;rw [jo] at h;cases h
  ·rw [qf e] at h;exact h
 fz:=λ a ob u h=>by
  rw [qf];exact h;intro e;subst e;exact nf _ _ h
theorem Le.new {p:Addr}{o:HO}(hp:H p=none):Le K φ H φ (L2.upd H p o) where
 ex:=λ _ _ h=>h
 tp:=λ _ _ h=>Wg h (λ xs z=>by rw [hp] at z;cases z) (λ _ _ z=>by rw [hp] at z;cases z)
 fr:=λ a u h z=>by
  rw [qf];exact h;intro e;subst e;rw [hp] at h;cases h
 nw:=λ _ _ h=>.inl h
 st:=λ a h=>by
  by_cases e:a=p
  ·subst e;rw [jo] at h;cases h
  ·rw [qf e] at h;exact h
 fz:=λ a ob u h=>by
  rw [qf];exact h;intro e;subst e;rw [hp] at h;cases h
theorem Le.alloc {p:Addr}{o:HO}(hp:H p=none):Le K φ H (φ++[p]) (L2.upd H p o) where
 ex:=λ n a h=>by
  have:=(qa2.mp h).1
  rw [getElem?_append_left this];exact h
 tp:=(Le.new (φ:=φ) hp).tp
 fr:=(Le.new (K:=K) (φ:=φ) hp).fr
 nw:=λ n a h=>by
  by_cases hn:n < φ.length
  ·rw [getElem?_append_left hn] at h;exact .inl h
  ·rw [getElem?_append_right (by omega)] at h
   have e:a=p:=by
    have:=mem_of_getElem? h
    simpa using this
   subst e;exact .inr hp
 st:=(Le.new (K:=K) (φ:=φ) hp).st
 fz:=(Le.new (K:=K) (φ:=φ) hp).fz
theorem Le.ofD {o:HO}(hD:H D=none)(l:yb K D φ (L2.upd H D o) φ' H'):Le K φ H φ' H' where
 ex:=l.ex
 tp:=λ a vs h=>l.tp a vs ((Le.new (K:=K) (φ:=φ) hD).tp a vs h)
 fr:=λ a u h n=>by
  have ne:a≠D:=by rintro rfl;rw [hD] at h;cases h
  exact l.fr a u ne (by rw [qf ne];exact h) n
 nw:=λ n a e=>by
  rcases l.nw n a e with e | e
  ·exact .inl e
  ·by_cases h:a=D
   ·subst h;rw [jo] at e;cases e
   ·rw [qf h] at e;exact .inr e
 st:=λ a e=>by
  have e':=l.st a e
  by_cases h:a=D
  ·subst h;rw [jo] at e';cases e'
  ·rw [qf h] at e';exact e'
 fz:=λ a ob u h=>l.fz a ob u (by rw [qf];exact h;rintro rfl;rw [hD] at h;cases h)
theorem yb.upd {o:HO}(hD:H D=some (.lst xs)):yb K D φ H φ (L2.upd H D o) where
 ex:=λ _ _ h=>h
 tp:=λ a vs h=>Wg h (λ xs z=>by rw [hD] at z;cases z) (λ _ _ z=>by rw [hD] at z;cases z)
 fr:=λ a u ne h n=>by rw [qf ne];exact h
 nw:=λ _ _ h=>.inl h
 st:=λ a e=>by
  by_cases h:a=D
  ·subst h;rw [jo] at e;cases e
  ·rw [qf h] at e;exact e
 fz:=λ a ob u h=>by
  rw [qf];exact h;intro e;subst e;rw [hD] at h;cases h
theorem OR.keep {o:O}(h:OR K φ H a o)(l:Le K φ H φ' H')(e:∀u,H a=some u->H' a=some u):OR K φ' H' a o:=by
 cases o with
 | lst ws=>obtain ⟨vs,q,r⟩:=h;exact ⟨vs,e _ q,r.mono l⟩
 | dct kvs=>obtain ⟨vs,q,k,r⟩:=h;exact ⟨vs,e _ q,k,r.mono l⟩
 | tab q P=>obtain ⟨k,ps,q,r⟩:=h;exact ⟨k,ps,e _ q,r.mono l.fz⟩
 | ro ws=>
  obtain ⟨vs,q,r⟩:=h;refine ⟨vs,?_,r.mono l⟩;rcases q with ⟨ob,q⟩ | q
  ·exact .inl ⟨ob,e _ q⟩
  ·exact .inr q
theorem zJ.alloc {p:Addr}{u:HO}{o:O}(S:zJ K φ A H)(hp:H p=none)(new:OR K (φ++[p]) (L2.upd H p u) p o):Le K φ H (φ++[p]) (L2.upd H p u)/\zJ K (φ++[p]) (A++[o]) (L2.upd H p u):=by
 have l:Le K φ H (φ++[p]) (L2.upd H p u):=Le.alloc hp;have old:∀(i:Nat) a,(φ++[p])[i]? =some a->i<A.length->φ[i]? =some a:=λ i a e hi=>by
  rw [getElem?_append_left (by rw [S.len];exact hi)] at e;exact e
 refine ⟨l,by simp [S.len],λ i j a o1 o2 h1 h2 h3 h4 m1 m2=>?_,λ n o' e=>?_⟩
 ·by_cases hi:i<A.length
  ·by_cases hj:j<A.length
   ·rw [getElem?_append_left hi] at h3
    rw [getElem?_append_left hj] at h4;exact S.inj i j a o1 o2 (old i a h1 hi) (old j a h2 hj) h3 h4 m1 m2
   ·exfalso
    rw [getElem?_append_left hi] at h3;have hj':j=A.length:=by have:=(qa2.mp h4).1;simp at this;omega
    subst hj';rw [getElem?_append_right (by rw [S.len];exact le_refl _),S.len] at h2
    simp at h2;obtain ⟨a',e1,q⟩:=S.ob i o1 h3;rw [old i a h1 hi] at e1;cases e1;obtain ⟨z,hz,_⟩:=q.there m1;rw [<- h2,hp] at hz;cases hz
  ·have hi':i=A.length:=by have:=(qa2.mp h3).1;simp at this;omega
   by_cases hj:j<A.length
   ·exfalso
    rw [getElem?_append_left hj] at h4;subst hi';rw [getElem?_append_right (by rw [S.len];exact le_refl _),S.len] at h1
    simp at h1;obtain ⟨a',e1,q⟩:=S.ob j o2 h4;rw [old j a h2 hj] at e1;cases e1;obtain ⟨z,hz,_⟩:=q.there m2;rw [<- h1,hp] at hz;cases hz
   ·have:=(qa2.mp h4).1;simp at this;omega
 ·by_cases hn:n<A.length
  ·rw [getElem?_append_left hn] at e
   obtain ⟨a,e1,q⟩:=S.ob n o' e;refine ⟨a,l.ex _ _ e1,q.keep l λ z hz=>?_⟩;rw [qf];exact hz;intro e2;subst e2;rw [hp] at hz;cases hz
  ·have hn':n=A.length:=by have:=(qa2.mp e).1;simp at this;omega
   subst hn';rw [getElem?_append_right (le_refl _)] at e;simp at e;subst e;exact ⟨p,by rw [getElem?_append_right (by rw [S.len];exact le_refl _),S.len];simp,new⟩
theorem zJ.write {p:Addr}{u:HO}{o o':O}(S:zJ K φ A H)(hn:A[n]? =some o)(m:o.mut=true)(m':o'.mut=true)(hp:φ[n]? =some p)(new:OR K φ (L2.upd H p u) p o'):
  Le K φ H φ (L2.upd H p u)/\zJ K φ (A.set n o') (L2.upd H p u):=by
 obtain ⟨p',e,q⟩:=S.ob n o hn;rw [hp] at e;cases e;obtain ⟨z,hz,nt,nf⟩:=q.there m;have l:Le K φ H φ (L2.upd H p u):=Le.upd hp (λ xs e=>by rw [hz] at e;exact nt xs (Option.some.inj e)) λ ob v e=>by rw [hz] at e;exact nf ob v (Option.some.inj e)
 have mt:∀(i:Nat) (w:O),(A.set n o')[i]? =some w->w.mut=true->∃w',A[i]? =some w'/\w'.mut=true:=λ i w e mw=>by
  by_cases hi:i=n
  ·subst hi;exact ⟨o,hn,m⟩
  ·rw [getElem?_set_ne (Ne.symm hi)] at e;exact ⟨w,e,mw⟩
 refine ⟨l,by simp [S.len],λ i j a o1 o2 h1 h2 h3 h4 m1 m2=>?_,λ i w e=>?_⟩
 ·obtain ⟨w1,e1,k1⟩:=mt i o1 h3 m1
  obtain ⟨w2,e2,k2⟩:=mt j o2 h4 m2;exact S.inj i j a w1 w2 h1 h2 e1 e2 k1 k2
 ·by_cases hi:i=n
  ·subst hi
   have:i<A.length:=(qa2.mp hn).1
   rw [getElem?_set_self this] at e;cases e;exact ⟨p,hp,new⟩
  ·rw [getElem?_set_ne (Ne.symm hi)] at e
   obtain ⟨a,e1,r⟩:=S.ob i w e;refine ⟨a,e1,?_⟩
   by_cases hm:w.mut=true
   ·have ne:a≠p:=λ z=>hi (S.inj i n a w o e1 (by rw [z];exact hp) e hn hm m)
    exact r.keep l λ z hz=>by rw [qf ne];exact hz
   ·cases w with
    | lst _=>exact absurd rfl hm
    | dct _=>exact absurd rfl hm
    | tab _ _=>exact absurd rfl hm
    | ro ws=>
     obtain ⟨vs,r1,r2⟩:=r;refine ⟨vs,?_,r2.mono l⟩;rcases r1 with ⟨ob,r1⟩ | r1
     ·refine .inl ⟨ob,?_⟩
      rw [qf];exact r1;intro z;subst z;rw [hz] at r1;exact nf _ _ (Option.some.inj r1)
     ·exact .inr r1
theorem zJ.lay {p:Addr}{u:HO}(S:zJ K φ A H)(hp:H p=none):zJ K φ A (L2.upd H p u):=
 ⟨S.len,S.inj,λ n o e=>by
  obtain ⟨a,e1,q⟩:=S.ob n o e;refine ⟨a,e1,q.keep (Le.new hp) λ z hz=>?_⟩;rw [qf];exact hz;intro e2;subst e2;rw [hp] at hz;cases hz⟩
theorem zJ.off {o:HO}(S:zJ K φ A H)(hD:H D=some (.lst xs))(n:∀k:Nat,φ[k]?≠some D):zJ K φ A (L2.upd H D o):=
 ⟨S.len,S.inj,λ k u e=>by
  obtain ⟨a,e1,q⟩:=S.ob k u e;have ne:a≠D:=λ z=>n k (by rw [<- z];exact e1)
  have l:yb K D φ H φ (L2.upd H D o):=yb.upd hD;refine ⟨a,e1,?_⟩;cases u with
  | lst ws=>obtain ⟨vs,q,r⟩:=q;exact ⟨vs,by rw [qf ne];exact q,r.monoD l⟩
  | dct kvs=>obtain ⟨vs,q,k,r⟩:=q;exact ⟨vs,by rw [qf ne];exact q,k,r.monoD l⟩
  | tab _ _=>obtain ⟨k,vs,q,r⟩:=q;exact ⟨k,vs,by rw [qf ne];exact q,r.mono l.fz⟩
  | ro ws=>
   obtain ⟨vs,q,r⟩:=q;refine ⟨vs,?_,r.monoD l⟩;rcases q with ⟨ob,q⟩ | q
   ·exact .inl ⟨ob,by rw [qf ne];exact q⟩
   ·exact .inr q⟩
theorem zJ.notin (S:zJ K φ A H)(hD:H D=none)(hK:K.lookup D=none):∀k:Nat,φ[k]?≠some D:=λ k e=>by
 have hk:k<A.length:=by rw [<- S.len];exact (qa2.mp e).1
 obtain ⟨a,e1,q⟩:=S.ob k A[k] (by simp [hk])
 rw [e] at e1;cases e1;cases ho:A[k] with
 | lst ws=>rw [ho] at q;obtain ⟨vs,z,_⟩:=q;rw [hD] at z;cases z
 | dct ws=>rw [ho] at q;obtain ⟨vs,z,_⟩:=q;rw [hD] at z;cases z
 | tab _ _=>rw [ho] at q;obtain ⟨_,vs,z,_⟩:=q;rw [hD] at z;cases z
 | ro ws=>
  rw [ho] at q;obtain ⟨vs,z,_⟩:=q;rcases z with ⟨ob,z⟩ | ⟨o,its,n,z,_⟩
  ·rw [hD] at z;cases z
  ·rw [hK] at z;cases z
theorem zJ.JF {u:HO}{o:O}(S:zJ K φ A H)(hD:H D=some u)(n:∀k:Nat,φ[k]?≠some D)(new:OR K (φ++[D]) H D o):zJ K (φ++[D]) (A++[o]) H:=by
 have l:gE K φ H (φ++[D]) H:=⟨λ n a h=>by
  have:=(qa2.mp h).1
  rw [getElem?_append_left this];exact h,λ _ _ h=>h,λ _ _ _ h=>h⟩
 have old:∀(i:Nat) a,(φ++[D])[i]? =some a->i<A.length->φ[i]? =some a:=λ i a e hi=>by
  rw [getElem?_append_left (by rw [S.len];exact hi)] at e;exact e
 have last:∀a,(φ++[D])[A.length]? =some a->a=D:=λ a e=>by
  rw [getElem?_append_right (by rw [S.len];exact le_refl _),S.len] at e
  simpa using e.symm
 refine ⟨by simp [S.len],λ i j a o1 o2 h1 h2 h3 h4 m1 m2=>?_,λ k o' e=>?_⟩
 ·by_cases hi:i<A.length
  ·by_cases hj:j<A.length
   ·rw [getElem?_append_left hi] at h3
    rw [getElem?_append_left hj] at h4;exact S.inj i j a o1 o2 (old i a h1 hi) (old j a h2 hj) h3 h4 m1 m2
   ·exfalso
    have hj':j=A.length:=by have:=(qa2.mp h4).1;simp at this;omega
    subst hj';exact n i (by rw [<- last a h2];exact old i a h1 hi)
  ·have hi':i=A.length:=by have:=(qa2.mp h3).1;simp at this;omega
   by_cases hj:j<A.length
   ·exfalso
    subst hi';exact n j (by rw [<- last a h1];exact old j a h2 hj)
   ·have:=(qa2.mp h4).1;simp at this;omega
 ·by_cases hn:k<A.length
  ·rw [getElem?_append_left hn] at e
   obtain ⟨a,e1,q⟩:=S.ob k o' e;refine ⟨a,l.ex _ _ e1,?_⟩;cases o' with
   | lst ws=>obtain ⟨vs,z,r⟩:=q;exact ⟨vs,z,r.monoW l⟩
   | dct ws=>obtain ⟨vs,z,z2,r⟩:=q;exact ⟨vs,z,z2,r.monoW l⟩
   | tab _ _=>exact q
   | ro ws=>obtain ⟨vs,z,r⟩:=q;exact ⟨vs,z,r.monoW l⟩
  ·have hn':k=A.length:=by have:=(qa2.mp e).1;simp at this;omega
   subst hn';rw [getElem?_append_right (le_refl _)] at e;simp at e;subst e;exact ⟨D,by rw [getElem?_append_right (by rw [S.len];exact le_refl _),S.len];simp,new⟩
theorem Le.JF {φ0:List Addr}{H0:Hp}(l:Le K φ0 H0 φ H)(h0:H0 D=none):Le K φ0 H0 (φ++[D]) H where
 ex:=λ n a h=>by
  have h':=l.ex n a h
  have:=(qa2.mp h').1
  rw [getElem?_append_left this];exact h'
 tp:=l.tp
 fr:=l.fr
 nw:=λ n a e=>by
  by_cases hn:n < φ.length
  ·rw [getElem?_append_left hn] at e;exact l.nw n a e
  ·rw [getElem?_append_right (by omega)] at e
   have e':a=D:=by
    have:=mem_of_getElem? e
    simpa using this
   subst e';exact .inr h0
 st:=l.st
 fz:=l.fz
end
noncomputable abbrev St:=L2.St
noncomputable abbrev XR:=Str->Hp->Prop
noncomputable def PB (K:Frag)(φ:List Addr)(H:Hp)(Q:VK):W->Hx->Prop:=λ w A=>∀φ' H' v,Le K φ H φ' H'->zJ K φ' A H'->RV K φ' H' w v->Q v H'
noncomputable def PBs (K:Frag)(φ:List Addr)(H:Hp)(Q:List V->Hp->Prop):List W->Hx->Prop:=λ w A=>∀φ' H' v,Le K φ H φ' H'->zJ K φ' A H'->zE K φ' H' w v->Q v H'
noncomputable def EB (K:Frag)(φ:List Addr)(H:Hp)(xr:XR):Str->Hx->Prop:=λ x A=>∀φ' H',Le K φ H φ' H'->zJ K φ' A H'->xr x H'
structure RE (K:Frag)(φ:List Addr)(H:Hp)(ρ:En)(σ:St):Prop where
 len:σ.length=ρ.length
 get:∀(i:Nat) (w:W),ρ[i]? =some (some w)->∃v,σ[i]? =some (some v)/\RV K φ H w v
section
variable {K:Frag}{φ1 φ':List Addr}{H1 H':Hp}{A:Hx}{ρ:En}{xr:XR}
theorem RE.mono (r:RE K φ H ρ σ)(l:Le K φ H φ' H'):RE K φ' H' ρ σ:=⟨r.len,λ i w e=>let ⟨v,h1,h2⟩:=r.get i w e;⟨v,h1,h2.mono l⟩⟩
theorem PB.mono {Q:VK}{w:W}(h:PB K φ H Q w A)(l:Le K φ H φ1 H1):PB K φ1 H1 Q w A:=λ φ' H' v l'=>h φ' H' v (l.trans l')
theorem EB.mono (h:EB K φ H xr x A)(l:Le K φ H φ1 H1):EB K φ1 H1 xr x A:=λ φ' H' l'=>h φ' H' (l.trans l')
theorem RE.set {w:W}(r:RE K φ H ρ σ)(q:RV K φ H w v):RE K φ H (ρ.set i (some w)) (σ.set i (some v)):=
 ⟨by simp [r.len],λ j u e=>by
  by_cases h:i=j
  ·subst h
   have hi:i < ρ.length:=by
    have:=(qa2.mp e).1
    simpa using this
   rw [getElem?_set_self hi] at e;cases e;exact ⟨v,by rw [getElem?_set_self (by rw [r.len];exact hi)],q⟩
  ·rw [getElem?_set_ne h] at e
   obtain ⟨x,h1,h2⟩:=r.get j u e;exact ⟨x,by rw [getElem?_set_ne h];exact h1,h2⟩⟩
end
inductive MM (K:Frag)(xr:XR)(m:Ev)(σ:St)(H:Hp)(Q:VK):Prop
 | mk (φ:List Addr) (A:Hx) (ρ:En) (S:zJ K φ A H) (re:RE K φ H ρ σ) (h:(m ρ A).post (PB K φ H Q) (EB K φ H xr))
noncomputable def tM (K:Frag)(xr:XR)(m:Ev):TE:=λ σ H Q=>MM K xr m σ H Q
inductive MT (K:Frag)(xr:XR)(m:Ev)(σ:St)(H:Hp)(Q:Bool->Hp->Prop):Prop
 | mk (φ:List Addr) (A:Hx) (ρ:En) (S:zJ K φ A H) (re:RE K φ H ρ σ) (h:(m ρ A).post (λ w A'=>∃b,w=.bl b/\∀φ' H',Le K φ H φ' H'->zJ K φ' A' H'->Q b H') (EB K φ H xr))
noncomputable def tT (K:Frag)(xr:XR)(m:Ev):TT:=λ σ H Q=>MT K xr m σ H Q
noncomputable abbrev Ea:=En->Hx->R (List W)
inductive MA (K:Frag)(xr:XR)(m:Ea)(σ:St)(H:Hp)(Q:List V->Hp->Prop):Prop
 | mk (φ:List Addr) (A:Hx) (ρ:En) (S:zJ K φ A H) (re:RE K φ H ρ σ) (h:(m ρ A).post (PBs K φ H Q) (EB K φ H xr))
noncomputable def W0 (K:Frag)(xr:XR)(m:Ea):TA:=λ σ H Q=>MA K xr m σ H Q
noncomputable def SE (X:Cx)(xr:XR)(e:Expr)(m:Ev):Prop:=PE X e (tM X.K xr m)
noncomputable def ST (X:Cx)(xr:XR)(e:Expr)(m:Ev):Prop:=PT X e (tT X.K xr m)
noncomputable def SW (X:Cx)(xr:XR)(e:Expr)(m:Ev):Prop:=PW X e (tT X.K xr m)
noncomputable def SA (X:Cx)(xr:XR)(es:List Expr)(m:Ea):Prop:=PA X es (W0 X.K xr m)
section
variable {xr:XR}{a b:Expr}{es:List Expr}{m ma mb mc:Ev}
theorem PE.imp {t t':TE}(h:PE X e t)(i:∀σ H Q,t' σ H Q->t σ H Q):PE X e t':=λ pins s σ H Q I hw=>h pins s σ H Q I (i σ H Q hw)
theorem PT.imp {t t':TT}(h:PT X e t)(i:∀σ H Q,t' σ H Q->t σ H Q):PT X e t':=λ pins s σ H Q I hw=>h pins s σ H Q I (i σ H Q hw)
theorem PW.imp {t t':TT}(h:PW X e t)(i:∀σ H Q,t' σ H Q->t σ H Q):PW X e t':=λ wh pins s σ H Q I hw=>h wh pins s σ H Q I (i σ H Q hw)
theorem PA.imp {t t':TA}(h:PA X es t)(i:∀σ H Q,t' σ H Q->t σ H Q):PA X es t':=λ p pins s σ H Q I hw=>h p pins s σ H Q I (i σ H Q hw)
theorem tM.go {K:Frag}{A:Hx}{ρ:En}{Q:VK}{G:W->Hx->Prop}(S:zJ K φ A H)(r:RE K φ H ρ σ)(h:(m ρ A).post G (EB K φ H xr))
  (k:∀w A1 φ1 H1 v,G w A1->Le K φ H φ1 H1->zJ K φ1 A1 H1->RV K φ1 H1 w v->Q v H1):tM K xr m σ H Q:=
 ⟨φ,A,ρ,S,r,qj h (λ w A1 g φ1 H1 v l s q=>k w A1 φ1 H1 v g l s q) λ _ _ z=>z⟩
theorem W0.go {K:Frag}{A:Hx}{ρ:En}{m:Ea}{Q:List V->Hp->Prop}{G:List W->Hx->Prop}(S:zJ K φ A H)(r:RE K φ H ρ σ)(h:(m ρ A).post G (EB K φ H xr))
  (k:∀w A1 φ1 H1 v,G w A1->Le K φ H φ1 H1->zJ K φ1 A1 H1->zE K φ1 H1 w v->Q v H1):W0 K xr m σ H Q:=
 ⟨φ,A,ρ,S,r,qj h (λ w A1 g φ1 H1 v l s q=>k w A1 φ1 H1 v g l s q) λ _ _ z=>z⟩
theorem tT.go {K:Frag}{A:Hx}{ρ:En}{Q:Bool->Hp->Prop}{G:W->Hx->Prop}(S:zJ K φ A H)(r:RE K φ H ρ σ)(h:(m ρ A).post G (EB K φ H xr))
  (k:∀w A1,G w A1->∃b,w=.bl b/\∀φ1 H1,Le K φ H φ1 H1->zJ K φ1 A1 H1->Q b H1):tT K xr m σ H Q:=
 ⟨φ,A,ρ,S,r,qj h (λ w A1 g=>k w A1 g) λ _ _ z=>z⟩
noncomputable def zc (i:Nat):Ev:=λ ρ A=>match ρ[i]? with
 | some (some w)=>.ok w A
 | _=>.bad
noncomputable def zi (w:W):Ev:=λ _ A=>.ok w A
noncomputable def zo (g:W->W->Hx->R W)(a b:Ev):Ev:=λ ρ A=>(a ρ A).bind λ x A1=>(b ρ A1).bind λ y A2=>g x y A2
noncomputable def jU (g:W->Hx->R W)(a:Ev):Ev:=λ ρ A=>(a ρ A).bind λ x A1=>g x A1
noncomputable abbrev wJ:Str->Hx->Prop:=λ _ _=>False
noncomputable def j9 (K:Frag)(r:R2)(g:W->W->Hx->R W):Prop:=∀φ A H x y u v Q,zJ K φ A H->RV K φ H u x->RV K φ H v y->(g u v A).post (PB K φ H Q) wJ->r x y H Q
noncomputable def W5 (K:Frag)(r:V->Hp->VK->Prop)(g:W->Hx->R W):Prop:=∀φ A H x u Q,zJ K φ A H->RV K φ H u x->(g u A).post (PB K φ H Q) wJ->r x H Q
noncomputable def qE (r:R α):Prop:=∀x A,r≠.exc x A
theorem Ja {r:R α}{P:α->Hx->Prop}{E:Str->Hx->Prop}(n:qE r)(h:r.post P E):r.post P wJ:=by
 cases r with
 | ok a A=>exact h
 | exc x A=>exact absurd rfl (n x A)
 | bad=>exact h
theorem zo.read {g:W->W->Hx->R W}{r:R2}(hn:∀x y A,qE (g x y A))(hg:j9 X.K r g):∀σ H Q,tM X.K xr (zo g ma mb) σ H Q->Y5 r (tM X.K xr ma) (tM X.K xr mb) σ H Q:=by
 rintro σ H Q ⟨φ,A,ρ,S,re,h⟩
 refine tM.go S re (zU.mp h) λ w A1 φ1 H1 v h1 l1 S1 q1=>?_;refine tM.go S1 (re.mono l1) (qj (zU.mp h1) (λ _ _ z=>z) λ _ _ z=>z.mono l1) λ w2 A2 φ2 H2 v2 h2 l2 S2 q2=>?_;exact hg φ2 A2 H2 v v2 w w2 Q S2 (q1.mono l2) q2 (qj (Ja (hn _ _ _) h2) (λ _ _ z=>z.mono (l1.trans l2)) λ _ _ z=>z)
theorem jU.read {g:W->Hx->R W}{r:V->Hp->VK->Prop}(hn:∀x A,qE (g x A))(hg:W5 X.K r g):∀σ H Q,tM X.K xr (jU g ma) σ H Q->P9 r (tM X.K xr ma) σ H Q:=by
 rintro σ H Q ⟨φ,A,ρ,S,re,h⟩
 refine tM.go S re (zU.mp h) λ w A1 φ1 H1 v h1 l1 S1 q1=>?_;exact hg φ1 A1 H1 v w Q S1 q1 (qj (Ja (hn _ _) h1) (λ _ _ z=>z.mono l1) λ _ _ z=>z)
theorem Qv {op:Operator}{r:R2}{g:W->W->Hx->R W}(ho:qI X (binaryOp op) r)(hn:∀x y A,qE (g x y A))(hg:j9 X.K r g)(ha:SE X xr a ma)(hb:SE X xr b mb):SE X xr (.BinOp a op b pos) (zo g ma mb):=
 PE.imp (Be ho ha hb) (zo.read hn hg)
theorem B6 {op:UnaryOp}{r:V->Hp->VK->Prop}{g:W->Hx->R W}(ho:WV X (unaryOp op) r)(hn:∀x A,qE (g x A))(hg:W5 X.K r g)(ha:SE X xr a ma):SE X xr (.UnaryOp op a pos) (jU g ma):=
 PE.imp (Bn ho ha) (jU.read hn hg)
theorem Ph {r:R2}{g:W->W->Hx->R W}(ho:qI X (compareOp op) r)(hn:∀x y A,qE (g x y A))(hg:j9 X.K r g)(ha:SE X xr a ma)(hb:SE X xr b mb)(hm:behindInMarks op b=false):SE X xr (.Compare a [op] [b] pos) (zo g ma mb):=
 PE.imp (EK ho ha hb hm) (zo.read hn hg)
theorem tT.toM {K:Frag}{Q:Bool->Hp->Prop}(h:tT K xr m σ H Q):tM K xr m σ H λ x H'=>∃k,x=.bl k/\Q k H':=by
 obtain ⟨φ,A,ρ,S,re,h⟩:=h;refine tM.go S re h λ w A1 φ1 H1 v ⟨b,e,q⟩ l1 S1 q1=>?_;subst e;exact ⟨b,q1,q φ1 H1 l1 S1⟩
theorem Pc {r:R2}{g:W->W->Hx->R W}(ho:qI X (compareOp op) r)(hn:∀x y A,qE (g x y A))(hg:j9 X.K r g)(ha:SE X xr a ma)(hb:SE X xr b mb)(hm:behindInMarks op b=false):ST X xr (.Compare a [op] [b] pos) (zo g ma mb):=
 PT.imp (EJ ho ha hb hm) λ σ H Q h=>zo.read hn hg σ H _ h.toM
noncomputable def yO (g g':W->W->Hx->R W)(a b c:Ev):Ev:=λ ρ A=>(a ρ A).bind λ x A1=>(b ρ A1).bind λ y A2=>(g x y A2).bind λ z A3=>match z with
 | .bl true=>(c ρ A3).bind λ w A4=>g' y w A4
 | .bl false=>.ok (.bl false) A3
 | _=>.bad
theorem yO.read {g g':W->W->Hx->R W}{r r':R2}(hn:∀x y A,qE (g x y A))(hg:j9 X.K r g)(hn':∀x y A,qE (g' x y A))(hg':j9 X.K r' g'):
  ∀σ H Q,tM X.K xr (yO g g' ma mb mc) σ H Q->XD r r' (tM X.K xr ma) (tM X.K xr mb) (tM X.K xr mc) σ H Q:=by
 rintro σ H Q ⟨φ,A,ρ,S,re,h⟩
 refine tM.go S re (zU.mp h) λ w A1 φ1 H1 v h1 l1 S1 q1=>?_;refine tM.go S1 (re.mono l1) (qj (zU.mp h1) (λ _ _ z=>z) λ _ _ z=>z.mono l1) λ w2 A2 φ2 H2 v2 h2 l2 S2 q2=>?_;have l02:=l1.trans l2;have h2':=zU.mp h2;have h3:(g w w2 A2).post (PB X.K φ2 H2 λ z H3=>∃k,z=.bl k/\if k=true then tM X.K xr mc σ H3 λ w' H4=>r' v2 w' H4 Q else Q (.bl false) H3) wJ:=by
  refine qj (Ja (hn _ _ _) h2') (λ z A3 h3 φ3 H3 zv l3 S3 q3=>?_) λ _ _ z=>z;have l03:=l02.trans l3;cases z with
  | bl k=>
   refine ⟨k,q3,?_⟩;cases k with
   | true=>
    rw [if_pos rfl];refine tM.go S3 (re.mono l03) (qj (zU.mp h3) (λ _ _ z=>z) λ _ _ z=>z.mono l03) λ w4 A4 φ4 H4 v4 h4 l4 S4 q4=>?_;exact hg' φ4 A4 H4 v2 v4 w2 w4 Q S4 ((q2.mono l3).mono l4) q4 (qj (Ja (hn' _ _ _) h4) (λ _ _ z=>z.mono (l03.trans l4)) λ _ _ z=>z)
   | false=>
    rw [if_neg Bool.false_ne_true];exact h3 φ3 H3 _ l03 S3 rfl
  | non=>cases h3
  | int _=>cases h3
  | str _=>cases h3
  | tup _=>cases h3
  | ref _=>cases h3
  | clo _ _ _=>cases h3
  | xc _=>cases h3
 exact hg φ2 A2 H2 v v2 w w2 _ S2 (q1.mono l2) q2 h3
theorem IF {c:Expr}{op':CmpOp}{r r':R2}{g g':W->W->Hx->R W}(ho:qI X (compareOp op) r)(hn:∀x y A,qE (g x y A))(hg:j9 X.K r g)(ho':qI X (compareOp op') r')(hn':∀x y A,qE (g' x y A))(hg':j9 X.K r' g')
  (ha:SE X xr a ma)(hb:SE X xr b mb)(hc:SE X xr c mc)(hm:lastMarks [op,op'] [b,c]=false:=by with_unfolding_all rfl):SE X xr (.Compare a [op,op'] [b,c] pos) (yO g g' ma mb mc):=
 PE.imp (IP ho ho' ha hb hc hm) (yO.read hn hg hn' hg')
theorem Hj {c:Expr}{op':CmpOp}{r r':R2}{g g':W->W->Hx->R W}(ho:qI X (compareOp op) r)(hn:∀x y A,qE (g x y A))(hg:j9 X.K r g)(ho':qI X (compareOp op') r')(hn':∀x y A,qE (g' x y A))(hg':j9 X.K r' g')
  (ha:SE X xr a ma)(hb:SE X xr b mb)(hc:SE X xr c mc)(hm:lastMarks [op,op'] [b,c]=false:=by with_unfolding_all rfl):ST X xr (.Compare a [op,op'] [b,c] pos) (yO g g' ma mb mc):=
 PT.imp (HS ho ho' ha hb hc hm) λ σ H Q h=>yO.read hn hg hn' hg' σ H _ h.toM
noncomputable def yL (a b:Ev):Ev:=λ ρ A=>(a ρ A).bind λ x A1=>match x with
 | .bl true=>b ρ A1
 | .bl false=>.ok (.bl false) A1
 | _=>.bad
noncomputable def Zf (a b:Ev):Ev:=λ ρ A=>(a ρ A).bind λ x A1=>match x with
 | .bl true=>.ok (.bl true) A1
 | .bl false=>b ρ A1
 | _=>.bad
noncomputable def yK (a:Ev):Ev:=λ ρ A=>(a ρ A).bind λ x A1=>match x with
 | .bl k=>.ok (.bl (!k)) A1
 | _=>.bad
noncomputable def Om (c a b:Ev):Ev:=λ ρ A=>(c ρ A).bind λ x A1=>match x with
 | .bl true=>a ρ A1
 | .bl false=>b ρ A1
 | _=>.bad
theorem tT.mono {K:Frag}{φ1:List Addr}{H1:Hp}{A1:Hx}{ρ:En}{Q:Bool->Hp->Prop}(S1:zJ K φ1 A1 H1)(l1:Le K φ H φ1 H1)(re:RE K φ H ρ σ)
  (h:(m ρ A1).post (λ w A'=>∃b,w=.bl b/\∀φ' H',Le K φ H φ' H'->zJ K φ' A' H'->Q b H') (EB K φ H xr)):tT K xr m σ H1 Q:=
 ⟨φ1,A1,ρ,S1,re.mono l1,qj h (λ w A' ⟨b,e,q⟩=>⟨b,e,λ φ' H' l s=>q φ' H' (l1.trans l) s⟩) λ _ _ z=>z.mono l1⟩
noncomputable def zm:Ea:=λ _ A=>.ok [] A
noncomputable def zh (a:Ev)(r:Ea):Ea:=λ ρ A=>(a ρ A).bind λ x A1=>(r ρ A1).bind λ xs A2=>.ok (x::xs) A2
noncomputable def zB (a:Ea):Ev:=λ ρ A=>(a ρ A).bind λ xs A1=>.ok (.tup xs) A1
noncomputable def zS (a:Ea):Ev:=λ ρ A=>(a ρ A).bind λ xs A1=>.ok (.ref A1.length) (A1++[.lst xs])
theorem Jx {K:Frag}{A:Hx}{p:Addr}{ws:List W}(S:zJ K φ A H)(hp:H p=none)(r:zE K φ H ws vs):
  Le K φ H φ (upd H p (.tup vs))/\zJ K φ A (upd H p (.tup vs))/\RV K φ (upd H p (.tup vs)) (.tup ws) (.ref p):=
 ⟨Le.new hp,S.lay hp,p,vs,rfl,qv.of jo,r.mono (Le.new hp)⟩
theorem Qs {K:Frag}{A:Hx}{p:Addr}{ws:List W}(S:zJ K φ A H)(hp:H p=none)(r:zE K φ H ws vs):
  Le K φ H (φ++[p]) (upd H p (.lst vs))/\zJ K (φ++[p]) (A++[.lst ws]) (upd H p (.lst vs))/\RV K (φ++[p]) (upd H p (.lst vs)) (.ref A.length) (.ref p):=by
 have l:Le K φ H (φ++[p]) (upd H p (.lst vs)):=Le.alloc hp;obtain ⟨h1,h2⟩:=S.alloc (o:=.lst ws) hp ⟨vs,jo,r.mono l⟩;exact ⟨h1,h2,p,rfl,by rw [<- S.len];simp⟩
theorem DN {mr:Ea}(h:SA X xr es mr)(hl:∀ρ A ws A',mr ρ A=.ok ws A'->ws.length<=sizeLine):SE X xr (.List es pos) (zS mr):=
 PE.imp (CK h) λ σ H Q ⟨φ,A,ρ,S,re,h⟩=>by
  have h':=zU.mp h;cases e:mr ρ A with
  | ok ws A'=>
   rw [e] at h';refine ⟨φ,A,ρ,S,re,?_⟩;rw [e];intro φ1 H1 vs l1 S1 q1;refine ⟨by rw [<- q1.length];exact hl ρ A ws A' e,λ p hp=>?_⟩
   obtain ⟨a1,a2,a3⟩:=Qs S1 hp q1;exact h' _ _ _ (l1.trans a1) a2 a3
  | exc x A'=>rw [e] at h';refine ⟨φ,A,ρ,S,re,?_⟩;rw [e];exact h'
  | bad=>rw [e] at h';exact h'.elim
end
inductive Fl where
 | nx (ρ:En) | rt (w:W) | bk (ρ:En) | ct (ρ:En)
noncomputable abbrev Ex:=En->Hx->R Fl
noncomputable def FB (K:Frag)(φ:List Addr)(H:Hp)(D:Ends):Fl->Hx->Prop
 | .nx ρ,A=>∀φ' H' σ',Le K φ H φ' H'->zJ K φ' A H'->RE K φ' H' ρ σ'->D.nx σ' H'
 | .rt w,A=>∀φ' H' v,Le K φ H φ' H'->zJ K φ' A H'->RV K φ' H' w v->D.rt v H'
 | .bk ρ,A=>∀φ' H' σ',Le K φ H φ' H'->zJ K φ' A H'->RE K φ' H' ρ σ'->D.bk σ' H'
 | .ct ρ,A=>∀φ' H' σ',Le K φ H φ' H'->zJ K φ' A H'->RE K φ' H' ρ σ'->D.ct σ' H'
theorem FB.mono {K:Frag}{φ1:List Addr}{H1:Hp}{D:Ends}{fl:Fl}{A:Hx}(h:FB K φ H D fl A)(l:Le K φ H φ1 H1):FB K φ1 H1 D fl A:=by
 cases fl with
 | nx ρ=>exact λ φ' H' v l'=>h φ' H' v (l.trans l')
 | rt ρ=>exact λ φ' H' v l'=>h φ' H' v (l.trans l')
 | bk ρ=>exact λ φ' H' v l'=>h φ' H' v (l.trans l')
 | ct ρ=>exact λ φ' H' v l'=>h φ' H' v (l.trans l')
inductive MS (K:Frag)(xr:XR)(m:Ex)(D:Ends)(σ:St)(H:Hp):Prop
 | mk (φ:List Addr) (A:Hx) (ρ:En) (S:zJ K φ A H) (re:RE K φ H ρ σ) (h:(m ρ A).post (FB K φ H D) (EB K φ H xr))
noncomputable def tS (K:Frag)(xr:XR)(m:Ex):TS:=λ D σ H=>MS K xr m D σ H
noncomputable def SS (X:Cx)(xr:XR)(st:Stmt)(m:Ex):Prop:=PS X st (tS X.K xr m)
noncomputable def WS (X:Cx)(xr:XR)(st:List Stmt)(m:Ex):Prop:=yq X st (tS X.K xr m)
section
variable {xr:XR}{a b c:Expr}{st:Stmt}{rest:List Stmt}{m:Ev}{m1 m2:Ex}
theorem PS.imp {t t':TS}(h:PS X st t)(i:∀D σ H,t' D σ H->t D σ H):PS X st t':=λ pins s σ H D I hw=>h pins s σ H D I (i D σ H hw)
theorem yq.imp {t t':TS}(h:yq X rest t)(i:∀D σ H,t' D σ H->t D σ H):yq X rest t':=λ pins s σ H D I hw=>h pins s σ H D I (i D σ H hw)
noncomputable def zy:Ex:=λ ρ A=>.ok (.nx ρ) A
noncomputable def zq (m1 m2:Ex):Ex:=λ ρ A=>(m1 ρ A).bind λ fl A1=>match fl with
 | .nx ρ1=>m2 ρ1 A1
 | f=>.ok f A1
noncomputable def jI (m:Ev):Ex:=λ ρ A=>(m ρ A).bind λ _ A1=>.ok (.nx ρ) A1
noncomputable def qc (m:Ev):Ex:=λ ρ A=>(m ρ A).bind λ w A1=>.ok (.rt w) A1
noncomputable def qw (c:Ev)(a b:Ex):Ex:=λ ρ A=>(c ρ A).bind λ x A1=>match x with
 | .bl true=>a ρ A1
 | .bl false=>b ρ A1
 | _=>.bad
noncomputable def zZ (i:Nat)(m:Ev):Ex:=λ ρ A=>(m ρ A).bind λ w A1=>.ok (.nx (ρ.set i (some w))) A1
theorem zZ.read :∀D σ H,tS X.K xr (zZ i m) D σ H->WH (tM X.K xr m) (Wo i) D σ H:=by
 rintro D σ H ⟨φ,A,ρ,S,re,h⟩
 exact tM.go S re (zU.mp h) λ w A1 φ1 H1 v h1 l1 S1 q1=>h1 φ1 H1 _ l1 S1 ((re.mono l1).set q1)
noncomputable def Jv (g:W->W->W->Hx->R Unit)(me mo mi:Ev):Ex:=λ ρ A=>(me ρ A).bind λ v A1=>(mo ρ A1).bind λ o A2=>(mi ρ A2).bind λ i A3=>(g o i v A3).bind λ _ A4=>.ok (.nx ρ) A4
noncomputable def Py (K:Frag)(t:QP)(g:W->W->W->Hx->R Unit):Prop:=∀φ A H o i v wo wi wv Q,zJ K φ A H->RV K φ H wo o->RV K φ H wi i->RV K φ H wv v->
 (g wo wi wv A).post (λ _ A'=>∀φ' H',Le K φ H φ' H'->zJ K φ' A' H'->Q H') wJ->t o i v H Q
theorem IY {o i:Expr}{mo mi:Ev}{t:QP}{g:W->W->W->Hx->R Unit}(ht:WN X t)(hn:∀o i v A,qE (g o i v A))(hg:Py X.K t g)(he:SE X xr e m)(ho:SE X xr o mo)(hi:SE X xr i mi)
  (hs:swapsWithSole [.Subscript o i tpos] e pos.line X.env=pure false:=by rfl)(hw:swappedStores [.Subscript o i tpos] e X.env=pure none:=by rfl)
  (h1:(assignEach [.Subscript o i tpos] X.env).map (·.2)=[assign (.Subscript o i tpos) X.env]:=by rfl)
  (ha:∀v,assign (.Subscript o i tpos) X.env v=(do
   let ov <- holding [v] (eval o X.env)
   let iv <- holding [v,ov] (eval i X.env)
   standAt tpos
   holding [v,ov,iv] (setItem ov iv v)
   release [v,ov,iv] []):=by intro _;rfl):SS X xr (.Assign [.Subscript o i tpos] e pos) (Jv g m mo mi):=
 PS.imp (XM he (Cc ho hi ht ha) hs hw h1) λ D σ H ⟨φ,A,ρ,S,re,h⟩=>by
  refine tM.go S re (zU.mp h) λ w1 A1 φ1 H1 v1 h1 l1 S1 q1=>?_;refine tM.go S1 (re.mono l1) (qj (zU.mp h1) (λ _ _ z=>z) λ _ _ z=>z.mono l1) λ w2 A2 φ2 H2 v2 h2 l2 S2 q2=>?_;have l02:=l1.trans l2;refine tM.go S2 (re.mono l02) (qj (zU.mp h2) (λ _ _ z=>z) λ _ _ z=>z.mono l02) λ w3 A3 φ3 H3 v3 h3 l3 S3 q3=>?_;have l03:=l02.trans l3;refine hg φ3 A3 H3 v2 v3 v1 w2 w3 w1 _ S3 (q2.mono l3) q3 (q1.mono (l2.trans l3)) ?_;cases hr:g w2 w3 w1 A3 with
  | ok u A4=>
   rw [hr] at h3;exact λ φ4 H4 l4 S4=>h3 φ4 H4 σ (l03.trans l4) S4 (re.mono (l03.trans l4))
  | exc x A4=>exact absurd hr (hn _ _ _ _ x A4)
  | bad=>rw [hr] at h3;exact h3.elim
structure jy where
 at_:Hx->Nat->Option (Option W)
 len:Nat
noncomputable def Zd (K:Frag)(φ:List Addr)(H:Hp)(j:jy)(J:It):Prop:=∀i φ' H' A',gE K φ H φ' H'->zJ K φ' A' H'->
 (∀w,j.at_ A' i=some (some w)->J.go i H'/\∀x H1,J.yld i H' x H1->Le K φ' H' φ' H1/\zJ K φ' A' H1/\RV K φ' H1 w x)/\(j.at_ A' i=some none->J.stop i H')
noncomputable abbrev Ei:=En->Hx->R jy
inductive MI (K:Frag)(xr:XR)(mi:Ei)(σ:St)(H:Hp)(Rr:It->Hp->Prop):Prop
 | mk (φ:List Addr) (A:Hx) (ρ:En) (S:zJ K φ A H) (re:RE K φ H ρ σ) (h:(mi ρ A).post (λ j A1=>∀φ1 H1 J,Le K φ H φ1 H1->zJ K φ1 A1 H1->Zd K φ1 H1 j J->Rr J H1) (EB K φ H xr))
noncomputable def tI (K:Frag)(xr:XR)(mi:Ei):TI:=λ σ H Rr=>MI K xr mi σ H Rr
noncomputable def SI (X:Cx)(xr:XR)(tg iter:Expr)(mi:Ei):Prop:=PI X tg iter (tI X.K xr mi)
theorem PI.imp {t t':TI}(h:PI X tg e t)(i:∀σ H Q,t' σ H Q->t σ H Q):PI X tg e t':=λ pins s σ H Q I hw=>h pins s σ H Q I (i σ H Q hw)
noncomputable abbrev Tg:=W->En->Option En
inductive MG (K:Frag)(tw:Tg)(v:V)(σ:St)(H:Hp)(Q:St->Hp->Prop):Prop
 | mk (φ:List Addr) (A:Hx) (ρ:En) (w:W) (ρ':En) (S:zJ K φ A H) (re:RE K φ H ρ σ) (rv:RV K φ H w v) (t:tw w ρ=some ρ') (q:∀σ',RE K φ H ρ' σ'->Q σ' H)
noncomputable def tG (K:Frag)(tw:Tg):TG:=λ v σ H Q=>MG K tw v σ H Q
noncomputable def SG (X:Cx)(tg:Expr)(tw:Tg):Prop:=PG X tg (tG X.K tw)
theorem PG.imp {t t':TG}(h:PG X tg t)(i:∀v σ H Q,t' v σ H Q->t v σ H Q):PG X tg t':=λ pins s σ H v u Q I r hw=>h pins s σ H v u Q I r (i v σ H Q hw)
noncomputable def zK (i:Nat):Tg:=λ w ρ=>some (ρ.set i (some w))
noncomputable def jG (i j:Nat):Tg:=λ w ρ=>match w with
 | .tup [x,y]=>some ((ρ.set i (some x)).set j (some y))
 | _=>none
noncomputable def yG (j:jy)(st:W->Ex):Nat->Nat->Ex
 | 0,i,ρ,A=>match j.at_ A i with
  | some none=>.ok (.nx ρ) A
  | _=>.bad
 | f+1,i,ρ,A=>match j.at_ A i with
  | some none=>.ok (.nx ρ) A
  | some (some w)=>(st w ρ A).bind λ fl A1=>match fl with
   | .nx ρ1=>yG j st f (i+1) ρ1 A1
   | .ct ρ1=>yG j st f (i+1) ρ1 A1
   | .bk ρ1=>.ok (.nx ρ1) A1
   | .rt w=>.ok (.rt w) A1
  | none=>.bad
noncomputable def turn (tw:Tg)(body:Ex)(w:W):Ex:=λ ρ A=>match tw w ρ with
 | some ρ1=>body ρ1 A
 | none=>.bad
noncomputable def jT (mi:Ei)(tw:Tg)(body:Ex):Ex:=λ ρ A=>(mi ρ A).bind λ j A1=>yG j (turn tw body) j.len 0 ρ A1
inductive Ol (K:Frag)(xr:XR)(j:jy)(t:W->Ex)(D:Ends)(φ1:List Addr)(H1:Hp)(f i:Nat)(σ':St)(H':Hp):Prop
 | mk (φ2:List Addr) (A2:Hx) (ρ2:En) (l:Le K φ1 H1 φ2 H') (S:zJ K φ2 A2 H') (re:RE K φ2 H' ρ2 σ') (h:(yG j t f i ρ2 A2).post (FB K φ2 H' D) (EB K φ2 H' xr))
noncomputable def ZA (c:Ev)(body:Ex):Nat->Ex
 | 0,ρ,A=>.bad
 | f+1,ρ,A=>(c ρ A).bind λ x A1=>match x with
  | .bl true=>(body ρ A1).bind λ fl A2=>match fl with
   | .nx ρ1=>ZA c body f ρ1 A2
   | .ct ρ1=>ZA c body f ρ1 A2
   | .bk ρ1=>.ok (.nx ρ1) A2
   | .rt w=>.ok (.rt w) A2
  | .bl false=>.ok (.nx ρ) A1
  | _=>.bad
noncomputable def XI (f:Nat)(c:Ev)(body:Ex):Ex:=ZA c body f
noncomputable def Zs (nl:Nat)(cap:List Nat)(ρ:En):En:=List.replicate nl none++cap.map λ i=>(ρ[i]?).join
theorem RE.gz {K:Frag}{ρ:En}{nl:Nat}(r:RE K φ H ρ σ):RE K φ H (Zs nl cap ρ) (L2.gz nl cap σ):=by
 refine ⟨by simp [Zs,L2.gz],λ i w e=>?_⟩
 unfold Zs at e;unfold L2.gz
 by_cases hi:i<nl
 ·rw [getElem?_append_left (by simpa using hi),getElem?_replicate] at e
  split at e<;>cases e
 ·rw [getElem?_append_right (by simpa using hi),length_replicate,getElem?_map] at e
  rw [getElem?_append_right (by simpa using hi),length_replicate,getElem?_map]
  cases hc:cap[i - nl]? with
  | none=>rw [hc] at e;cases e
  | some k=>
   rw [hc] at e;have e2:(ρ[k]?).join=some w:=Option.some.inj e;cases hk:ρ[k]? with
   | none=>rw [hk] at e2;cases e2
   | some o=>cases o with
    | none=>rw [hk] at e2;cases e2
    | some w'=>
     rw [hk] at e2;cases e2;obtain ⟨v,h1,h2⟩:=r.get k w hk;exact ⟨v,by simp [h1],h2⟩
noncomputable abbrev Em:=En->List W->Hx->R (En × List W)
noncomputable def zY:Nat:=100000
noncomputable def zM (elt:Ev):Em:=λ ρ acc A=>(elt ρ A).bind λ y A1=>if acc.length<zY then .ok (ρ,acc++[y]) A1 else .bad
noncomputable def qC (j:jy)(tw:Tg)(ifs:Ev)(em:Em):Nat->Nat->Em
 | 0,i,ρ,acc,A=>match j.at_ A i with
  | some none=>.ok (ρ,acc) A
  | _=>.bad
 | f+1,i,ρ,acc,A=>match j.at_ A i with
  | some none=>.ok (ρ,acc) A
  | some (some w)=>match tw w ρ with
   | some ρ1=>(ifs ρ1 A).bind λ c A1=>match c with
    | .bl true=>(em ρ1 acc A1).bind λ p A2=>qC j tw ifs em f (i+1) p.1 p.2 A2
    | .bl false=>qC j tw ifs em f (i+1) ρ1 acc A1
    | _=>.bad
   | none=>.bad
  | none=>.bad
noncomputable def JH (mi:Ei)(tw:Tg)(ifs:Ev)(em:Em):Em:=λ ρ acc A=>(mi ρ A).bind λ j A1=>qC j tw ifs em j.len 0 ρ acc A1
noncomputable abbrev jR:=En->Hx->R (List W)
noncomputable def zV (nl:Nat)(cap:List Nat)(mi:Ei)(tw:Tg)(ifs:Ev)(em:Em):jR:=λ ρ A=>(mi ρ A).bind λ j A1=>(qC j tw ifs em j.len 0 (Zs nl cap ρ) [] A1).nox.bind λ p A2=>.ok p.2 A2
noncomputable def Y4 (K:Frag)(D:Addr)(φ:List Addr)(H:Hp)(Q:St->Hp->Prop)(p:En × List W)(A1:Hx):Prop:=∀φ1 H1 σ1 zs,yb K D φ H φ1 H1->(∀k:Nat,φ1[k]?≠some D)->zJ K φ1 A1 H1->RE K φ1 H1 p.1 σ1->H1 D=some (.lst zs)->zE K φ1 H1 p.2 zs->Q σ1 H1
inductive ME (K:Frag)(em:Em)(D:Addr)(σ:St)(H:Hp)(Q:St->Hp->Prop):Prop
 | mk (φ:List Addr) (A:Hx) (ρ:En) (acc:List W) (ys:List V) (S:zJ K φ A H) (re:RE K φ H ρ σ) (hD:H D=some (.lst ys)) (nD:∀k:Nat,φ[k]?≠some D) (rv:zE K φ H acc ys)
  (h:(em ρ acc A).post (Y4 K D φ H Q) wJ)
noncomputable def tE (K:Frag)(em:Em):wa:=λ D σ H Q=>ME K em D σ H Q
noncomputable abbrev j8:XR:=λ _ _=>False
noncomputable def SM (X:Cx)(elt:Expr)(gens:List Comprehension)(sc:Scope)(cpos:Pos)(d:Nat)(em:Em):Prop:=kB X elt gens sc cpos d (tE X.K em)
theorem kB.imp {d:Nat}{t t':wa}(h:kB X elt gens sc pos d t)(i:∀D σ H Q,t' D σ H Q->t D σ H Q):kB X elt gens sc pos d t':=
 λ pins s σ H D Q k Q' E I hw hk=>h pins s σ H D Q k Q' E I (i D σ H Q hw) hk
theorem Ye {K:Frag}{r:R α}{P:α->Hx->Prop}(h:r.post P wJ):r.post P (EB K φ H j8):=qj h (λ _ _ z=>z) λ _ _ z=>z.elim
noncomputable def YZ (X:Cx)(ifs:List Expr)(m:Ev):Prop:=ZC X ifs (tT X.K j8 m)
theorem Ro:YZ X [] (zi (.bl true)):=λ pins s σ H Q I ⟨φ,A,ρ,S,re,h⟩=>HU pins s σ H Q I (by
 obtain ⟨b,e,q⟩:=h;cases e;exact q φ H .refl S)
inductive W4 (tw:Tg)(ifs:Ev)(em:Em)(j:jy)(K:Frag)(D:Addr)(φ:List Addr)(H:Hp)(Q:St->Hp->Prop)(f i:Nat)(σ':St)(H':Hp):Prop
 | mk (φ2:List Addr) (A2:Hx) (ρ2:En) (acc2:List W) (ys2:List V) (l:yb K D φ H φ2 H') (S:zJ K φ2 A2 H') (re:RE K φ2 H' ρ2 σ') (hD:H' D=some (.lst ys2)) (nD:∀k:Nat,φ2[k]?≠some D) (ra:zE K φ2 H' acc2 ys2) (h:(qC j tw ifs em f i ρ2 acc2 A2).post (Y4 K D φ H Q) wJ)
theorem qC.read {tw:Tg}{ifs:Ev}{em:Em}{j:jy}{J:It}{K:Frag}{A:Hx}{ρ:En}{acc:List W}{Q:St->Hp->Prop}{f:Nat}
  (jr:Zd K φ H j J)
  (S:zJ K φ A H)(re:RE K φ H ρ σ)(hD:H D=some (.lst ys))(nD:∀k:Nat,φ[k]?≠some D)(ra:zE K φ H acc ys)
  (h:(qC j tw ifs em f 0 ρ acc A).post (Y4 K D φ H Q) wJ):
  JI J (tG K tw) (tT K j8 ifs) (tE K em) D σ H Q:=by
 refine ⟨λ i f σ' H'=>W4 tw ifs em j K D φ H Q f i σ' H',
  ⟨f,φ,A,ρ,acc,ys,.refl,S,re,hD,nD,ra,h⟩,?_⟩
 rintro i f σ2 H2 ⟨φ2,A2,ρ2,acc2,ys2,l2,S2,re2,hD2,nD2,ra2,h2⟩
 obtain ⟨j1,j2⟩:=jr i φ2 H2 A2 ⟨l2.ex,l2.tp,l2.fz⟩ S2;cases ej:j.at_ A2 i with
 | none=>cases f<;>(unfold qC at h2;rw [ej] at h2;exact h2.elim)
 | some o=>
  cases o with
  | none=>
   left
   refine ⟨j2 ej,?_⟩;cases f<;>(unfold qC at h2;rw [ej] at h2;exact h2 φ2 H2 σ2 ys2 l2 nD2 S2 re2 hD2 ra2)
  | some w=>
   right
   obtain ⟨go,yl⟩:=j1 w ej;cases f with
   | zero=>unfold qC at h2;rw [ej] at h2;exact h2.elim
   | succ f=>
    unfold qC at h2;rw [ej] at h2;refine ⟨go,λ σ' H'=>W4 tw ifs em j K D φ H Q f (i+1) σ' H',λ σ' H' z=>⟨f,lt_succ_self _,z⟩,λ x H3 y=>?_⟩;obtain ⟨l3,S3,q3⟩:=yl x H3 y;obtain ⟨hD3,nD3⟩:=l3.off hD2 nD2;dsimp only at h2;cases et:tw w ρ2 with
    | none=>rw [et] at h2;exact h2.elim
    | some ρ3=>
     rw [et] at h2;refine ⟨φ2,A2,ρ2,w,ρ3,S3,re2.mono l3,q3,et,λ σ3 re3=>?_⟩;refine tT.go S3 re3 (Ye (zU.mp h2)) λ c A4 h4=>?_;cases c with
     | bl k=>
      refine ⟨k,rfl,λ φ4 H4 l4 S4=>?_⟩;obtain ⟨hD4,nD4⟩:=l4.off hD3 nD3;have l04:=(l2.trans (l3.trans l4).toD);cases k with
      | true=>
       rw [if_pos rfl];refine ⟨φ4,A4,ρ3,acc2,ys2,S4,re3.mono l4,hD4,nD4,ra2.mono (l3.trans l4),qj (zU.mp h4) (λ p A5 h5 φ5 H5 σ5 zs l5 n5 S5 re5 d5 r5=>?_) λ _ _ z=>z⟩;exact ⟨φ5,A5,p.1,p.2,zs,l04.trans l5,S5,re5,d5,n5,r5,h5⟩
      | false=>
       rw [if_neg Bool.false_ne_true];exact ⟨φ4,A4,ρ3,acc2,ys2,l04,S4,re3.mono l4,hD4,nD4,ra2.mono (l3.trans l4),h4⟩
     | non=>cases h4
     | int _=>cases h4
     | str _=>cases h4
     | tup _=>cases h4
     | ref _=>cases h4
     | clo _ _ _=>cases h4
     | xc _=>cases h4
theorem Zd.mono {K:Frag}{φ1:List Addr}{H1:Hp}{j:jy}{J:It}(h:Zd K φ H j J)(l:gE K φ H φ1 H1):Zd K φ1 H1 j J:=
 λ i φ' H' A' l'=>h i φ' H' A' ⟨λ n a e=>l'.ex n a (l.ex n a e),λ a vs e=>l'.tp a vs (l.tp a vs e),λ a o u e=>l'.fz a o u (l.fz a o u e)⟩
inductive MF (K:Frag)(xr:XR)(mq:jR)(σ:St)(H:Hp)(Q:VK):Prop
 | mk (φ:List Addr) (A:Hx) (ρ:En) (S:zJ K φ A H) (re:RE K φ H ρ σ) (h:(mq ρ A).post (λ ws A1=>∀φ1 H1 D ys,Le K φ H φ1 H1->zJ K φ1 A1 H1->H D=none->H1 D=some (.lst ys)->(∀k:Nat,φ1[k]?≠some D)->zE K φ1 H1 ws ys->Q (.ref D) H1) (EB K φ H xr))
noncomputable def tF (K:Frag)(xr:XR)(mq:jR):TE:=λ σ H Q=>MF K xr mq σ H Q
noncomputable def SF (X:Cx)(xr:XR)(e:Expr)(mq:jR):Prop:=PE X e (tF X.K xr mq)
theorem zV.read {mi:Ei}{tw:Tg}{mf:Ev}{em:Em}{nl:Nat}:∀σ H Q,tF X.K xr (zV nl cap mi tw mf em) σ H Q->Ws X.K (tI X.K xr mi) (tG X.K tw) (tT X.K j8 mf) (tE X.K em) nl cap σ H Q:=by
 rintro σ H Q ⟨φ,A,ρ,S,re,h⟩
 refine ⟨φ,A,ρ,S,re,qj (zU.mp h) (λ j A1 h1 φ1 H1 J l1 S1 jr D hD hK=>?_) λ _ _ z=>z⟩;have ln:Le X.K φ1 H1 φ1 (upd H1 D (.lst [])):=Le.new hD;have h1':=zU.mp h1;refine qC.read (jr.mono ⟨ln.ex,ln.tp,ln.fz⟩) (S1.lay hD) ((re.mono (l1.trans ln)).gz) jo (S1.notin hD hK) .nil ?_ (f:=j.len) (acc:=[]);cases er:qC j tw mf em j.len 0 (Zs nl cap ρ) [] A1 with
 | ok p A2=>
  rw [er] at h1';intro φ2 H2 σ2 zs l2 n2 S2 re2 d2 r2;have l02:=l1.trans (Le.ofD hD l2);exact h1' φ2 H2 D zs l02 S2 (l1.st D hD) d2 n2 r2
 | exc x A2=>rw [er] at h1';exact h1'.elim
 | bad=>rw [er] at h1';exact h1'.elim
noncomputable def ql (q:jR):Ev:=λ ρ A=>(q ρ A).bind λ ws A1=>.ok (.ref A1.length) (A1++[.lst ws])
theorem ql.read {q:jR}{K:Frag}:∀σ H Q,tM K xr (ql q) σ H Q->tF K xr q σ H Q:=by
 rintro σ H Q ⟨φ,A,ρ,S,re,h⟩
 refine ⟨φ,A,ρ,S,re,qj (zU.mp h) (λ ws A1 h1 φ1 H1 D ys l1 S1 h0 hD nD r=>?_) λ _ _ z=>z⟩;have ll:Le K φ H (φ1++[D]) H1:=l1.JF h0;have lw:gE K φ1 H1 (φ1++[D]) H1:=⟨λ n a h=>by
  have:=(qa2.mp h).1
  rw [getElem?_append_left this];exact h,λ _ _ h=>h,λ _ _ _ h=>h⟩
 refine h1 _ _ _ ll (S1.JF (o:=.lst ws) hD nD ⟨ys,hD,r.monoW lw⟩) ⟨D,rfl,?_⟩;rw [<- S1.len];simp
inductive MQ (K:Frag)(xr:XR)(mq:jR)(σ:St)(H:Hp)(Q:VK):Prop
 | mk (φ:List Addr) (A:Hx) (ρ:En) (S:zJ K φ A H) (re:RE K φ H ρ σ) (h:(mq ρ A).post (λ ws A1=>∀φ1 H1 a ys,Le K φ H φ1 H1->zJ K φ1 A1 H1->(qZ K H1 a ys∨qv K H1 a ys)->zE K φ1 H1 ws ys->Q (.ref a) H1) (EB K φ H xr))
noncomputable def tQ (K:Frag)(xr:XR)(mq:jR):TE:=λ σ H Q=>MQ K xr mq σ H Q
noncomputable def SQ (X:Cx)(xr:XR)(e:Expr)(mq:jR):Prop:=PE X e (tQ X.K xr mq)
noncomputable def zO (w:W)(A:Hx):Option (List W):=match w with
 | .tup ws=>some ws
 | .ref n=>match A[n]? with
  | some (.lst ws)=>some ws
  | some (.ro ws)=>some ws
  | _=>none
 | _=>none
theorem Kx {K:Frag}{A:Hx}{w:W}{ws:List W}(S:zJ K φ A H)(q:RV K φ H w v)(e:zO w A=some ws):∃a ys,v=.ref a/\(qZ K H a ys∨qv K H a ys)/\zE K φ H ws ys:=by
 unfold zO at e;cases w with
 | tup xs=>cases e;obtain ⟨a,ys,e1,e2,e3⟩:=q;exact ⟨a,ys,e1,.inr e2,e3⟩
 | ref n=>
  obtain ⟨a,e1,e2⟩:=q;dsimp only at e;cases ea:A[n]? with
  | none=>rw [ea] at e;cases e
  | some o=>
   rw [ea] at e;obtain ⟨a',e3,r⟩:=S.ob n o ea;rw [e2] at e3;cases e3;cases o with
   | lst xs=>cases e;obtain ⟨ys,h1,h2⟩:=r;exact ⟨a,ys,e1,.inl (qZ.of h1),h2⟩
   | ro xs=>cases e;obtain ⟨ys,h1,h2⟩:=r;exact ⟨a,ys,e1,.inl h1.sq,h2⟩
   | dct xs=>cases e
   | tab _ _=>cases e
 | non=>cases e
 | bl _=>cases e
 | clo _ _ _=>cases e
 | xc _=>cases e
 | int _=>cases e
 | str _=>cases e
noncomputable def qm (m:Ev):jR:=λ ρ A=>(m ρ A).bind λ w A1=>match zO w A1 with
 | some ws=>.ok ws A1
 | none=>.bad
noncomputable def YN (w:W)(A:Hx):Option jy:=match zO w A with
 | some ws=>some ⟨λ A i=>(zO w A).map λ ws=>ws[i]?,ws.length⟩
 | none=>none
noncomputable def qz (m:Ev):Ei:=λ ρ A=>(m ρ A).bind λ w A1=>match YN w A1 with
 | some j=>.ok j A1
 | none=>.bad
noncomputable def AG (K:Frag)(tl:TE):TI:=λ σ H Rr=>tl σ H λ x H1=>∃a,x=.ref a/\(((∃xs,qZ K H1 a xs)/\Rr (Oj K a) H1)∨((∃xs,qv K H1 a xs)/\Rr (Og K a) H1))
theorem DZ {l:Expr}{tl:TE}(hl:PE X l tl):PI X tg l (AG X.K tl):=by
 intro pins s σ H Rr I h;refine zP (hl pins s σ H _ I h) λ v s1 ⟨x,H1,I1,r1,q1⟩=>?_;obtain ⟨a,e,q⟩:=q1;subst e;cases r1;have fpo:∀b∈[s1.heap.objs.size],yZ X pins H1 b:=λ b hb=>by
  have e:b=s1.heap.objs.size:=by simpa using hb
  subst e;exact I1.fpOk (le_refl _) (I1.hok.fresh (le_refl _))
 rcases q with ⟨⟨xs,hq⟩,q⟩ | ⟨⟨xs,hq⟩,q⟩
 ·obtain ⟨its,rv,p,hz⟩:=I1.list hq
  refine wpAny_pyIter_list p.isList ?_;exact ⟨s1.heap.objs.size,[s1.heap.objs.size],_,_,H1,rfl,I1.kept (t':=s1.toks) λ b o e=>get?_push_of_some _ e,LN a _,⟨_,get?_push_size _ rfl,rfl,rfl⟩,fpo,q⟩
 ·obtain ⟨its,rv,p,hz⟩:=I1.tuple hq
  refine wpAny_pyIter_tuple (show s1.heap.IsTuple a its.toArray from p) ?_
  exact ⟨s1.heap.objs.size,[s1.heap.objs.size],_,_,H1,rfl,I1.kept (t':=s1.toks) λ b o e=>get?_push_of_some _ e,Mv a _,⟨_,get?_push_size _ rfl,rfl,rfl⟩,fpo,q⟩
noncomputable def yY (lo:Int)(n:Nat):jy:=⟨λ _ i=>if i<n then some (some (.int (lo+i))) else some none,n⟩
theorem D5 {K:Frag}{lo:Int}:Zd K φ H (yY lo n) (W3 lo n):=λ i φ' H' A' lw S'=>by
 unfold yY;dsimp only
 by_cases hi:i<n
 ·rw [if_pos hi]
  refine ⟨λ w e=>?_,λ e=>by cases e⟩
  cases e;exact ⟨hi,λ x H1 ⟨e1,e2⟩=>by subst e1;exact ⟨.refl,S',e2⟩⟩
 ·rw [if_neg hi]
  exact ⟨λ w e=>(by cases e),λ _=>Nat.le_of_not_lt hi⟩
noncomputable def jN (i:Int):Bool:=decide (-(2 ^ 62)<=i)&&decide (i<2 ^ 62)
theorem Q5 {i:Int}(h:jN i=true):-(2 ^ 62)<=i/\i<2 ^ 62:=by
 unfold jN at h;rw [and_eq_true,decide_eq_true_iff,decide_eq_true_iff] at h;exact h
noncomputable def qR (m:Ev):Ei:=λ ρ A=>(m ρ A).bind λ w A1=>match w with
 | .int j=>if jN j then .ok (yY 0 j.toNat) A1 else .bad
 | _=>.bad
end
noncomputable abbrev Fn:=List W->Hx->R W
noncomputable def yF (K:Frag)(x:Str)(C:Value):Prop:=nsIn K mainGlobals x=some (some C)
noncomputable def XE (K:Frag)(E:XK)(x:Str)(H:Hp):Prop:=∀C d,yF K x C->E C d H
inductive JP (K:Frag)(n:Nat)(f:Fn)(vs:List V)(H:Hp)(Q:VK)(E:XK):Prop
 | mk (len:vs.length=n) (φ:List Addr) (A:Hx) (ws:List W) (S:zJ K φ A H) (r:zE K φ H ws vs) (q:(f ws A).post (PB K φ H Q) (EB K φ H (XE K E)))
theorem JP.len {K:Frag}{f:Fn}{Q:VK}{E:XK}(h:JP K n f vs H Q E):vs.length=n:=by cases h;assumption
inductive zN (P:Program)(w:World)(K:Frag)(mg:Str->Option Value)(base:Heap)(k:Nat)(x:Str)(n:Nat)(f:Fn):Prop
 | mk (fa:Addr) (fd:FuncData) (ps:List Str) (F:yy P w K mg base wY k fa fd ps (JP K n f)) (at_:mg x=some (.ref fa)) (kp:keepIn K (.ref fa)=true) (bi:Binds K fd ps [])
noncomputable def zF (f:Fn)(a:Ea):Ev:=λ ρ A=>(a ρ A).bind λ ws A1=>f ws A1
section
variable {m ma:Ev}
noncomputable def Za (m:Ea)(n:Nat):Prop:=∀ρ A ws A',m ρ A=.ok ws A'->ws.length=n
theorem zD:Za zm 0:=λ _ _ _ _ h=>by unfold zm at h;cases h;rfl
theorem zp {mr:Ea}(h:Za mr n):Za (zh ma mr) (n+1):=λ ρ A ws A' e=>by
 unfold zh at e;cases h1:ma ρ A with
 | ok x A1=>
  rw [h1,zL] at e;cases h2:mr ρ A1 with
  | ok xs A2=>rw [h2,zL] at e;cases e;simp [h ρ A1 xs _ h2]
  | exc x A2=>rw [h2] at e;cases e
  | bad=>rw [h2] at e;cases e
 | exc x A1=>rw [h1] at e;cases e
 | bad=>rw [h1] at e;cases e
end
noncomputable def qN (n:Nat)(m:Ex):Fn:=λ ws A=>(m (ws.map some++List.replicate (n - ws.length) none) A).nox.bind λ fl A1=>match fl with
 | .rt w=>.ok w A1
 | .nx _=>.ok .non A1
 | _=>.bad
theorem RE.start {K:Frag}{ws:List W}(h:zE K φ H ws vs):RE K φ H (ws.map some++List.replicate (N.length - ws.length) none) (L2.start N vs):=by
 unfold L2.start;refine ⟨by simp [h.length],λ i w e=>?_⟩
 by_cases hi:i<ws.length
 ·rw [getElem?_append_left (by simpa using hi),getElem?_map] at e
  cases hw:ws[i]? with
  | none=>rw [hw] at e;cases e
  | some w'=>
   rw [hw] at e;cases e;obtain ⟨v,h1,h2⟩:=h.get hw;refine ⟨v,?_,h2⟩;rw [getElem?_append_left (by rw [length_map,<- h.length];exact hi),getElem?_map,h1];rfl
 ·rw [getElem?_append_right (by simpa using hi),getElem?_replicate] at e
  split at e<;>cases e
section
variable {K:Frag}
theorem zN.mono {k:Nat}{f:Fn}(F:zN P w K mg base j x n f)(h:j<=k):zN P w K mg base k x n f:=by cases F with | mk fa fd ps F a b c=>exact ⟨fa,fd,ps,F.mono h,a,b,c⟩
theorem zN.imp {k:Nat}{f g:Fn}(F:zN P w K mg base k x n f)(h:∀ws A,ws.length=n->g ws A=.bad∨f ws A=g ws A):zN P w K mg base k x n g:=by
 obtain ⟨fa,fd,ps,F,a,b,c⟩:=F;refine ⟨fa,fd,ps,F.imp λ vs H Q E ⟨hl,φ,A,ws,S,r,q⟩=>⟨hl,φ,A,ws,S,r,?_⟩,a,b,c⟩;rcases h ws A (by rw [r.length];exact hl) with e | e
 ·rw [e] at q;exact q.elim
 ·rw [e];exact q
end
section
variable {K:Frag}
theorem jS {a:α}{A:Hx}:qE (R.ok a A):=λ _ _ h=>by cases h
theorem qU :qE (R.bad:R α):=λ _ _ h=>by cases h
theorem Zq {c:Prop} [Decidable c] {a b:R α}(h1:qE a)(h2:qE b):qE (if c then a else b):=by split<;>assumption
noncomputable def Zc (f:Int->Int->W):W->W->Hx->R W
 | .int i,.int j,A=>.ok (f i j) A
 | _,_,_=>.bad
theorem QA {f:Int->Int->W}:∀x y A,qE (Zc f x y A):=λ x y A=>by
 unfold Zc;split
 ·exact jS
 ·exact qU
noncomputable def ZI (c:Int->Int->Bool)(f:Int->Int->W):W->W->Hx->R W
 | .int i,.int j,A=>if c i j then .ok (f i j) A else .bad
 | _,_,_=>.bad
theorem X4 {c:Int->Int->Bool}{f:Int->Int->W}:∀x y A,qE (ZI c f x y A):=λ x y A=>by
 unfold ZI;split
 ·exact Zq jS qU
 ·exact qU
theorem Qx {f:Int->Int->W}{g:Int->Int->V}(h:∀i j φ H,RV K φ H (f i j) (g i j)):j9 K (Ze g) (Zc f):=λ φ A H x y u v Q S q1 q2 p=>by
 cases u with
 | int i=>cases v with
  | int j=>obtain rfl:=q1;obtain rfl:=q2;exact ⟨i,j,rfl,rfl,p φ H _ .refl S (h i j φ H)⟩
  | _=>exact p.elim
 | _=>exact p.elim
theorem XJ {c:Int->Int->Bool}{C:Int->Int->Prop}{f:Int->Int->W}{g:Int->Int->V}(hc:∀i j,c i j=true->C i j)(h:∀i j φ H,RV K φ H (f i j) (g i j)):j9 K (rI C g) (ZI c f):=λ φ A H x y u v Q S q1 q2 p=>by
 cases u with
 | int i=>cases v with
  | int j=>
   obtain rfl:=q1;obtain rfl:=q2;unfold ZI at p;dsimp only at p
   by_cases hh:c i j=true
   ·rw [if_pos hh] at p;exact ⟨i,j,rfl,rfl,hc i j hh,p φ H _ .refl S (h i j φ H)⟩
   ·rw [if_neg hh] at p;exact p.elim
  | _=>exact p.elim
 | _=>exact p.elim
noncomputable def YK (i j:Int):Bool:=(decide (-(2 ^ 64)<i)&&decide (i<2 ^ 64)) || (decide (-(2 ^ 64)<j)&&decide (j<2 ^ 64))
noncomputable def WL (_ j:Int):Bool:=decide (0<j)
theorem F0 (i j:Int)(h:YK i j=true):YI i j:=by
 unfold YK at h;simp only [or_eq_true,and_eq_true,decide_eq_true_eq] at h;exact h
theorem FR (i j:Int)(h:WL i j=true):(λ _ j=>0<j) i j:=by
 unfold WL at h;simpa using h
noncomputable def Zy:=Zc λ i j=>.int (i - j)
noncomputable def wA:=ZI WL λ i j=>.int (i % j)
noncomputable def Vi:=Zc λ i j=>.int (Builtin.bitXor i j)
noncomputable def QS:=Zc λ i j=>.bl (decide (i<j))
noncomputable def gB:=Zc λ i j=>.bl (decide (i<=j))
noncomputable def Vx:=Zc λ i j=>.bl (decide (j<=i))
noncomputable def Vs (i j:Int):Bool:=decide (0<=j)&&decide (j<=1000000)&&decide (i.natAbs<2 ^ 64)
theorem FX (i j:Int)(h:Vs i j=true):P1 i j:=by
 unfold Vs at h;simp only [and_eq_true,decide_eq_true_eq] at h;exact ⟨h.1.1,h.1.2,h.2⟩
noncomputable def Qa:=ZI Vs λ i j=>.int (i ^ j.toNat)
variable {a b c:Expr}
noncomputable def Zv:W->Hx->R W
 | .int i,A=>.ok (.int (-i)) A
 | _,_=>.bad
structure wB (X:Cx)(op:CmpOp)(g:W->W->Hx->R W):Prop where
 ex:∃r:R2,qI X (compareOp op) r/\(∀x y A,qE (g x y A))/\j9 X.K r g
 mks:∀b,op≠.In->op≠.NotIn->behindInMarks op b=false
theorem Jw {r:R2}{g:W->W->Hx->R W}(h1:qI X (compareOp op) r)(h2:∀x y A,qE (g x y A))(h3:j9 X.K r g):wB X op g:=⟨⟨r,h1,h2,h3⟩,λ b a1 a2=>Fh b a1 a2⟩
theorem Vl:wB X .Lt QS:=Jw Bx QA (Qx λ _ _ _ _=>rfl)
theorem Wy:wB X .LtE gB:=Jw Ae QA (Qx λ _ _ _ _=>rfl)
theorem AO:wB X .GtE Vx:=Jw BC QA (Qx λ _ _ _ _=>rfl)
end
inductive Ty where
 | non | bl | int | str | tup | lst | dct
 deriving DecidableEq
noncomputable def Ty.nm:Ty->String
 | .non => "NoneType" | .bl => "bool" | .int => "int" | .str => "str" | .tup => "tuple" | .lst => "list" | .dct => "dict"
noncomputable def jz (w:W)(A:Hx):Option Ty:=match w with
 | .non=>some .non
 | .bl _=>some .bl
 | .int _=>some .int
 | .str _=>some .str
 | .tup _=>some .tup
 | .ref n=>match A[n]? with
  | some (.lst _)=>some .lst
  | some (.dct _)=>some .dct
  | _=>none
 | _=>none
noncomputable def yH (a b:Ty):Bool:=a==b || (a==.bl&&b==.int)
theorem Wf {K:Frag}(a b:Ty):kitOne K (.type a.nm) (.type b.nm)=some (yH a b):=by
 cases a<;>cases b<;>rfl
section
variable {xr:XR}{K:Frag}{a c:Expr}{es:List Expr}{m:Ev}
noncomputable def QT (K:Frag)(H:Hp)(x:V)(t:Ty):Prop:=wG K H x (.type t.nm)∨∃a xs,x=.ref a/\qv K H a xs/\t=.tup
theorem Sw {A:Hx}{w:W}{t:Ty}(S:zJ K φ A H)(q:RV K φ H w v)(e:jz w A=some t):QT K H v t:=by
 cases w with
 | non=>cases e;obtain rfl:=q;exact .inl .non
 | bl k=>cases e;obtain rfl:=q;exact .inl (.bl k)
 | clo _ _ _=>cases e
 | xc _=>cases e
 | int k=>cases e;obtain rfl:=q;exact .inl (.int k)
 | str k=>cases e;obtain rfl:=q;exact .inl (.str k)
 | tup ws=>cases e;obtain ⟨a,vs,rfl,h,_⟩:=q;exact .inr ⟨a,vs,rfl,h,rfl⟩
 | ref n=>
  obtain ⟨a,rfl,h1⟩:=q;unfold jz at e;dsimp only at e;cases eo:A[n]? with
  | none=>rw [eo] at e;cases e
  | some o=>
   rw [eo] at e;obtain ⟨a',h2,r⟩:=S.ob n o eo;rw [h1] at h2;cases h2;cases o with
   | lst ws=>cases e;obtain ⟨vs,z,_⟩:=r;exact .inl (.lst z)
   | dct ws=>cases e;obtain ⟨vs,z,_⟩:=r;exact .inl (.dK z)
   | tab _ _=>cases e
   | ro ws=>cases e
theorem QT.kit {x:V}{t:Ty}(I:Inv X pins σ H s)(r:RelV x u)(h:QT X.K H x t):
  (∀{Q:Value->Shared->Prop} {E:Value->Shared->Prop} {A:Around} {c:Ty},(∀tk,Q (.bool (yH t c)) { s with toks:=tk })->wpAny (model X.prog X.w) A (call (.builtin "isinstance") [u,.type c.nm]) Q E s):=by
 intro Q E A c hq;rcases h with h | ⟨a,xs,rfl,h,rfl⟩
 ·exact TH I r h (Wf t c) hq
 ·cases (show u=Value.ref a from r)
  obtain ⟨its,_,⟨o,h1,h2,_⟩,_⟩:=I.tuple h;exact kia_one kitx_tuple I.kIn ⟨o,h1,h2⟩ (Wf .tup c) (λ z=>nomatch z) hq
noncomputable def rIs (K:Frag):List V->Hp->VK->Prop:=λ xs H Q=>∃x t c,xs=[x,.ty (Ty.nm c)]/\QT K H x t/\Q (.bl (yH t c)) H
theorem Ep:j3 X (.builtin "isinstance") (rIs X.K):=by
 intro pins s σ H xs us Q I r h;obtain ⟨x,t,c,rfl,ht,q⟩:=h;obtain ⟨u,u',rfl,ru,ru'⟩:=vals2 r;cases (show u'=Value.type c.nm from ru')
 exact ht.kit I ru λ tk=>⟨.bl (yH t c),H,I.tok tk,rfl,q⟩
noncomputable def ka (t:Ty)(m:Ev):Ev:=λ ρ A=>(m ρ A).bind λ w A1=>match jz w A1 with
 | some t'=>.ok (.bl (yH t' t)) A1
 | none=>.bad
noncomputable def zC:W->W->Hx->R W:=λ x y A=>match zO x A,y with
 | some ws,.int i=>match wc ws i with
  | some w=>.ok w A
  | none=>.bad
 | _,_=>.bad
theorem B8:∀x y A,qE (zC x y A):=λ x y A=>by
 unfold zC;split
 ·split
  ·exact jS
  ·exact qU
 ·exact qU
theorem Fm {ws:List W}{i:Int}{w:W}(r:zE K φ H ws ys)(e:wc ws i=some w):∃y,wc ys i=some y/\RV K φ H w y:=by
 unfold wc at e ⊢;rw [<- r.length];cases h:w6 ws.length i with
 | none=>rw [h] at e;cases e
 | some j=>
  rw [h] at e;obtain ⟨y,h1,h2⟩:=r.get (i:=j) e;exact ⟨y,h1,h2⟩
theorem CG:j9 K (Oc K) zC:=λ φ A H x y u v Q S q1 q2 p=>by
 unfold zC at p;cases es:zO u A with
 | none=>rw [es] at p;exact p.elim
 | some ws=>
  rw [es] at p;cases v with
  | int i=>
   obtain rfl:=q2;dsimp only at p;cases ei:wc ws i with
   | none=>rw [ei] at p;exact p.elim
   | some w=>
    rw [ei] at p;obtain ⟨a,ys,rfl,z,r⟩:=Kx S q1 es;obtain ⟨y',h1,h2⟩:=Fm r ei;rcases z with z | z
    ·exact .inl ⟨a,ys,i,y',rfl,rfl,z,h1,p φ H _ .refl S h2⟩
    ·exact .inr (.inl ⟨a,ys,i,y',rfl,rfl,z,h1,p φ H _ .refl S h2⟩)
  | non=>exact p.elim
  | bl _=>exact p.elim
  | str _=>exact p.elim
  | tup _=>exact p.elim
  | ref _=>exact p.elim
  | clo _ _ _=>exact p.elim
  | xc _=>exact p.elim
noncomputable def QU (K:Frag)(r:List V->Hp->VK->Prop)(g:List W->Hx->R W):Prop:=∀φ A H a ys ws Q,zJ K φ A H->(qZ K H a ys∨qv K H a ys)->zE K φ H ws ys->(g ws A).post (PB K φ H Q) wJ->r [.ref a] H Q
noncomputable def mQ (g:List W->Hx->R W)(q:jR):Ev:=λ ρ A=>(q ρ A).bind λ ws A1=>g ws A1
theorem mQ.read {g:List W->Hx->R W}{q:jR}(hn:∀ws A,qE (g ws A))(hq:QU X.K r g):∀σ H Q,tM X.K xr (mQ g q) σ H Q->WU r (Wq (tQ X.K xr q) Vd) σ H Q:=by
 rintro σ H Q ⟨φ,A,ρ,S,re,h⟩
 refine ⟨φ,A,ρ,S,re,qj (zU.mp h) (λ ws A1 h1 φ1 H1 a ys l1 S1 z r=>?_) λ _ _ z=>z⟩;exact hq φ1 A1 H1 a ys ws Q S1 z r (qj (Ja (hn _ _) h1) (λ _ _ z=>z.mono l1) λ _ _ z=>z)
theorem X7 {id:String}{g:List W->Hx->R W}{q:jR}(hc:j3 X (.builtin id) r)(hn:∀ws A,qE (g ws A))(hq:QU X.K r g)(hm:X.mg x=none)(hv:bootBuiltins x=some (.builtin id))(ha:SQ X xr e q)(hg:Gl X x:=by rfl)
  (hn':x ≠ "__name__" := by decide)(hdb:(x==("__debug__" : Str))=false:=by decide)(he:starEach [e] X.env=(false,eval e X.env)::starEach [] X.env:=by rfl)(hpl:(backTo pos (starEach [] X.env)).any (·.1)=false:=by rfl):
  SE X xr (.Call (.Name x p) [e] [] pos) (mQ g q):=PE.imp (ZY hc hg hm hv (jj ha jW he) hn' hdb he hpl) (mQ.read hn hq)
theorem Ac {id:String}{g:List W->Hx->R W}{q:jR}(hc:j3 X (.type id) r)(hn:∀ws A,qE (g ws A))(hq:QU X.K r g)(hm:X.mg x=none)(hv:bootBuiltins x=some (.type id))(ha:SQ X xr e q)(hg:Gl X x:=by rfl)
  (hn':x ≠ "__name__" := by decide)(hdb:(x==("__debug__" : Str))=false:=by decide)(he:starEach [e] X.env=(false,eval e X.env)::starEach [] X.env:=by rfl)(hpl:(backTo pos (starEach [] X.env)).any (·.1)=false:=by rfl):
  SE X xr (.Call (.Name x p) [e] [] pos) (mQ g q):=PE.imp (Q7 hc hg hm hv (jj ha jW he) hn' hdb he hpl) (mQ.read hn hq)
noncomputable def jb:List W->Hx->R W:=λ ws A=>.ok (.int ws.length) A
theorem Fx:QU K (λ xs H Q=>∃p ys,xs=[.ref p]/\(qZ K H p ys∨qv K H p ys)/\Q (.int ys.length) H) jb:=λ φ A H a ys ws Q S z r p=>
 ⟨a,ys,rfl,z,by rw [<- r.length];exact p φ H _ .refl S rfl⟩
noncomputable def yQ:List W->Hx->R W:=λ ws A=>.ok (.tup ws) A
theorem FQ:QU K (λ xs H Q=>∃p ys,xs=[.ref p]/\((qZ K H p ys/\∀l,H l=none->Q (.ref l) (upd H l (.tup ys)))∨(qv K H p ys/\Q (.ref p) H))) yQ:=λ φ A H a ys ws Q S z r p=>by
 refine ⟨a,ys,rfl,?_⟩;rcases z with z | z
 ·refine .inl ⟨z,λ l hl=>?_⟩
  obtain ⟨a1,a2,a3⟩:=Jx S hl r;exact p _ _ _ a1 a2 a3
 ·exact .inr ⟨z,p φ H _ .refl S ⟨a,ys,rfl,z,r⟩⟩
variable {b:Expr}
theorem S6 {a:Addr}(I:Inv X pins σ H s)(hc:X.calm=true)(z:qZ X.K H a ys∨qv X.K H a ys)
  (h:∀(its:List Value) (I':Addr) (fp wr:List Addr) (St':Nat->Heap->Prop) (s2:Shared),Vals ys its->ys.length<=sizeLine->Walks X.prog X.w X.A.in1 I' fp wr its.length (λ i v=>its[i]? =some v) St'->St' 0 s2.heap->(∀b∈fp,b<s2.heap.objs.size)->
   (∀(h':Heap) (tk:Nat),(∀b o,b∉wr->s2.heap.get? b=some o->h'.get? b=some o)->Inv X pins σ H { s2 with heap:=h',toks:=tk })->Q (.ref I') s2):
  wpAny (model X.prog X.w) X.A.in1 (pyIter (.ref a)) Q E s:=by
 have hh:X.A.in1.handled=none:=I.ok.hd hc;have keep:∀(o:Obj) (h':Heap) (tk:Nat),(∀b u,b∉[s.heap.objs.size]->(s.heap.push o).get? b=some u->h'.get? b=some u)->Inv X pins σ H { s with heap:=h',toks:=tk }:=λ o h' tk k=>I.kept λ b u e=>k b u (by
  intro hm;have e1:b=s.heap.objs.size:=by simpa using hm
  exact absurd (e1 ▸ lt_size e) (lt_irrefl _)) (get?_push_of_some _ e)
 rcases z with z | z
 ·obtain ⟨its,rv,p,hz⟩:=I.list z
  have hlt:a<s.heap.objs.size:=by obtain ⟨o,n,e,_⟩:=p;exact lt_size e
  refine wpAny_pyIter_list p.isList ?_;have W:=Walks.list (prog:=X.prog) (w:=X.w) hh s.heap.objs.size a (ne_of_lt hlt) its.toArray;rw [size_toArray] at W;simp only [List.getElem?_toArray] at W;refine h its s.heap.objs.size _ _ _ _ rv hz W ⟨⟨_,get?_push_size _ rfl,rfl,rfl⟩,p.isList.at λ o e=>get?_push_of_some _ e⟩ (λ b hb=>?_) λ h' tk k=>keep _ h' tk k;show b<(s.heap.push _).objs.size;rw [size_push];rcases qa3.mp hb with e | hb
  ·rw [e];exact lt_succ_self _
  ·have e:b=a:=by simpa using hb
   rw [e];exact lt_succ_of_lt hlt
 ·obtain ⟨its,rv,p,hz⟩:=I.tuple z
  have hlt:a<s.heap.objs.size:=p.lt;have p':s.heap.IsTuple a its.toArray:=p;refine wpAny_pyIter_tuple p' ?_;have W:=Walks.tuple (prog:=X.prog) (w:=X.w) hh s.heap.objs.size a (ne_of_lt hlt) its.toArray;rw [size_toArray] at W;simp only [List.getElem?_toArray] at W;refine h its s.heap.objs.size _ _ _ _ rv hz W ⟨⟨_,get?_push_size _ rfl,rfl,rfl⟩,p'.at λ o e=>get?_push_of_some _ e⟩ (λ b hb=>?_) λ h' tk k=>keep _ h' tk k;show b<(s.heap.push _).objs.size;rw [size_push];rcases qa3.mp hb with e | hb
  ·rw [e];exact lt_succ_self _
  ·have e:b=a:=by simpa using hb
   rw [e];exact lt_succ_of_lt hlt
noncomputable def YM:V->Option Bool
 | .bl b=>some b
 | .int i=>some (i != 0)
 | .non=>some false
 | _=>none
noncomputable def YH:W->Option Bool
 | .bl b=>some b
 | .int i=>some (i != 0)
 | .non=>some false
 | _=>none
theorem HM {w:W}{k:Bool}(q:RV K φ H w v)(e:YH w=some k):YM v=some k:=by
 cases w<;>first
  | (cases e;done)
  | (obtain rfl:=q;exact e)
theorem Lr {A:Around}{k:Bool}{Q:Bool->Shared->Prop}(r:RelV v u)(e:YM v=some k)(h:Q k s):wpAny (model X.prog X.w) A (truthy u) Q E s:=by
 cases v with
 | bl b=>cases e;cases r;exact wpAny_truthy_bool h
 | int i=>
  cases e;obtain ⟨t,rfl⟩:=r;exact PySem.P.truthy_int h
 | non=>cases e;cases r;exact λ _ _ _=>h
 | _=>cases e
noncomputable def gr:List W->Option (List Bool)
 | []=>some []
 | w::ws=>match YH w,gr ws with
  | some k,some ks=>some (k::ks)
  | _,_=>none
theorem UZ :∀{ws:List W} {ys:List V} {ks:List Bool},zE K φ H ws ys->gr ws=some ks->∀(i:Nat) (y:V),ys[i]? =some y->∃k,ks[i]? =some k/\YM y=some k
 | [],_,_,r,e,i,y,h=>by cases r;simp at h
 | w::ws,_,ks,⟨v,r,e1,q,t⟩,e,i,y,h=>by
  subst e1;unfold gr at e;cases e2:YH w with
  | none=>rw [e2] at e;cases e
  | some k=>
   cases e3:gr ws with
   | none=>rw [e2,e3] at e;cases e
   | some ks'=>
    rw [e2,e3] at e;cases e;cases i with
    | zero=>simp at h;subst h;exact ⟨k,by simp,HM q e2⟩
    | succ i=>simp at h;obtain ⟨k',h1,h2⟩:=UZ t e3 i y h;exact ⟨k',by simpa using h1,h2⟩
theorem U1:∀{ws:List W} {ks:List Bool},gr ws=some ks->ks.length=ws.length
 | [],_,e=>by cases e;rfl
 | w::ws,ks,e=>by
  unfold gr at e;cases e2:YH w with
  | none=>rw [e2] at e;cases e
  | some k=>
   cases e3:gr ws with
   | none=>rw [e2,e3] at e;cases e
   | some ks'=>rw [e2,e3] at e;cases e;simp [U1 e3]
theorem range_all (ks:List Bool):(List.range ks.length).all (λ i=>ks.getD i false)=ks.all id:=by
 rw [Bool.eq_iff_iff,all_eq_true,all_eq_true]
 constructor
 ·intro h x hx
  obtain ⟨i,hi,rfl⟩:=getElem_of_mem hx
  have:=h i (qa5.mpr hi)
  rw [getD_eq_getElem?_getD,getElem?_eq_getElem hi] at this;exact this
 ·intro h i hi
  have hi':=qa5.mp hi;rw [getD_eq_getElem?_getD,getElem?_eq_getElem hi'];exact h _ (getElem_mem hi')
noncomputable def P4 (K:Frag)(f:List Bool->Bool):List V->Hp->VK->Prop:=λ xs H Q=>∃a ys ks,xs=[.ref a]/\(qZ K H a ys∨qv K H a ys)/\ks.length=ys.length/\(∀(i:Nat) (y:V),ys[i]? =some y->∃k,ks[i]? =some k/\YM y=some k)/\Q (.bl (f ks)) H
theorem I9 {ks:List Bool}{A:Around}(rv:Vals ys its)(hl:ks.length=ys.length)(ht:∀(i:Nat) (y:V),ys[i]? =some y->∃k,ks[i]? =some k/\YM y=some k):TruthOf X.prog X.w A (λ i v=>its[i]? =some v) λ i=>ks.getD i false:=by
 intro i v s Q E hP hQ;have hi:i<its.length:=(qa2.mp hP).1;have hi':i<ys.length:=by rw [rv.length];exact hi
 obtain ⟨u,h1,h2⟩:=rv.get (i:=i) (x:=ys[i]) (by simp [hi'])
 rw [hP] at h1;cases h1;obtain ⟨k,h3,h4⟩:=ht i ys[i] (by simp [hi'])
 dsimp only at hQ;rw [getD_eq_getElem?_getD,h3] at hQ;exact Lr h2 h4 hQ
theorem Fd (hc:X.calm=true):j3 X (.builtin "all") (P4 X.K λ ks=>ks.all id):=by
 intro pins s σ H xs us Q I r h;obtain ⟨a,ys,ks,rfl,z,hl,ht,q⟩:=h;obtain ⟨u,rfl,ru⟩:=vals1 r;cases ru;refine call_all_walk (S6 I hc z λ its I' fp wr St' s2 rv hz W st hfp back=>?_);refine ⟨I',fp,wr,_,_,St',λ i=>ks.getD i false,rfl,W,st,I9 rv hl ht,λ h' tk k=>?_⟩;have e:its.length=ks.length:=by rw [hl,rv.length]
 rw [e,range_all];exact ⟨.bl _,H,back h' tk k,rfl,q⟩
noncomputable def QR (f:List Bool->Bool):List W->Hx->R W:=λ ws A=>match gr ws with
 | some ks=>.ok (.bl (f ks)) A
 | none=>.bad
theorem Ce {f:List Bool->Bool}:∀ws A,qE (QR f ws A):=λ ws A=>by
 unfold QR;split
 ·exact jS
 ·exact qU
theorem EO {f:List Bool->Bool}:QU K (P4 K f) (QR f):=λ φ A H a ys ws Q S z r p=>by
 unfold QR at p;cases e:gr ws with
 | none=>rw [e] at p;exact p.elim
 | some ks=>
  rw [e] at p;exact ⟨a,ys,ks,rfl,z,by rw [U1 e,r.length],UZ r e,p φ H _ .refl S rfl⟩
noncomputable abbrev QM:=QR λ ks=>ks.all id
theorem LW:qI X (compareOp .IsNot) (λ x y H Q=>∃i j,x=.bl i/\y=.bl j/\Q (.bl (!(i==j))) H):=by
 intro pins s σ H x y v u Q I rx ry h;obtain ⟨i,j,rfl,rfl,q⟩:=h;cases rx;cases ry;exact isnot_bool ⟨.bl _,H,I,rfl,q⟩
noncomputable def XY:W->Bool
 | .non=>true
 | _=>false
theorem Mt {w:W}(q:RV K φ H w v):decide (v=.non)=XY w:=by
 cases w with
 | non=>obtain rfl:=q;rfl
 | bl b=>obtain rfl:=q;rfl
 | clo _ _ _=>obtain ⟨a,_,_,_,_,_,_,rfl,_⟩:=q;rfl
 | xc _=>obtain ⟨a,_,_,_,rfl,_⟩:=q;rfl
 | int b=>obtain rfl:=q;rfl
 | str b=>obtain rfl:=q;rfl
 | tup ws=>obtain ⟨a,vs,rfl,_⟩:=q;rfl
 | ref n=>obtain ⟨a,rfl,_⟩:=q;rfl
noncomputable def Y2 (neg:Bool):W->W->Hx->R W:=λ x y A=>match x,y with
 | .bl i,.bl j=>.ok (.bl (if neg then !(i==j) else i==j)) A
 | w,.non=>.ok (.bl (if neg then !XY w else XY w)) A
 | _,_=>.bad
theorem CY {n:Bool}:∀x y A,qE (Y2 n x y A):=λ x y A=>by
 unfold Y2;split
 ·exact jS
 ·exact jS
 ·exact qU
theorem Ic:j9 K (λ x y H Q=>(y=.non/\Q (.bl (!decide (x=.non))) H)∨∃i j,x=.bl i/\y=.bl j/\Q (.bl (!(i==j))) H) (Y2 true):=λ φ A H x y u v Q S q1 q2 p=>by
 cases v with
 | non=>
  have q2':y=.non:=q2;refine .inl ⟨q2',?_⟩;rw [Mt q1];cases u<;>exact p φ H _ .refl S rfl
 | bl j=>
  cases u with
  | bl i=>obtain rfl:=q1;obtain rfl:=q2;exact .inr ⟨i,j,rfl,rfl,p φ H _ .refl S rfl⟩
  | _=>exact p.elim
 | _=>cases u<;>exact p.elim
theorem F9:wB X .IsNot (Y2 true):=Jw (Dm.or LW) CY Ic
end
noncomputable def P5 (outer sc:Scope):Bool:=sc.kind==.function&&decide ((sc.names.map (·.1)).Nodup)&&sc.names.all λ y=>y.2 != .free || (outer.names.lookup y.1==some .cell || outer.names.lookup y.1==some .free)
theorem cps (h:P5 X.env.scope sc=true):gk X sc:=by
 unfold P5 at h;rw [and_eq_true,and_eq_true,decide_eq_true_iff,beq_iff_eq,all_eq_true] at h;refine ⟨h.1.1,h.1.2,λ y hy e=>?_⟩
 have:=h.2 y hy
 rw [e] at this;simp only [bne_self_eq_false,Bool.false_or,or_eq_true,beq_iff_eq] at this;exact this
section
variable {xr:XR}{K:Frag}{a b:Expr}{ma mb:Ev}
theorem zJ.lst {φ:List Addr}{A:Hx}{H:Hp}{n:Nat}{ws:List W}{v:V}(S:zJ K φ A H)(q:RV K φ H (.ref n) v)(e:A[n]? =some (.lst ws)):∃p vs,v=.ref p/\φ[n]? =some p/\H p=some (.lst vs)/\zE K φ H ws vs:=by
 obtain ⟨p,rfl,h1⟩:=q;obtain ⟨p',h2,vs,h3,h4⟩:=S.ob n _ e;rw [h1] at h2;cases h2;exact ⟨p,vs,rfl,h1,h3,h4⟩
theorem HA {prog:Program}{A:Around}{t b:Addr}{ws:List Value}(ht:IsTup s.heap t ([]:List Value).toArray)(hb:IsTup s.heap b ws.toArray)(h0:Q (.ref b) s):
  wpAny (model prog w) A (binaryOp .Add (.ref t) (.ref b)) Q E s:=by
 obtain ⟨⟨cls,dd,data,sl⟩,ho,hc,n,hd⟩:=id ht;obtain ⟨⟨cls2,dd2,data2,sl2⟩,ho2,hc2,n2,hd2⟩:=id hb;simp only at hc hd hc2 hd2;subst hc hd hc2 hd2;exact concat_meets ⟨_,ho,rfl⟩ ⟨_,ho2,rfl⟩ noFill_tuple_add seq_tuple_add slot_tuple_add entry_tuple_add (args_tuple_add_2 _ _)
   (tuple_addW0 t b ([]:List Value).toArray ws.toArray n n2 dd dd2 sl sl2 (by simp)) ⟨ho,ho2,h0⟩
noncomputable def R4 (K:Frag):R2:=λ x y H Q=>∃a b ys,x=.ref a/\y=.ref b/\qv K H a []/\qv K H b ys/\Q (.ref b) H
theorem HL:qI X (binaryOp .Add) (R4 X.K):=by
 intro pins s σ H x y v u Q I rx ry h;obtain ⟨a,b,ys,rfl,rfl,ha,hb,q⟩:=h;cases rx;cases ry;obtain ⟨its,r1,p1,_⟩:=I.tuple ha;obtain ⟨its2,r2,p2,_⟩:=I.tuple hb;cases r1;exact HA p1 p2 ⟨.ref b,H,I,rfl,q⟩
noncomputable def je:W->W->Hx->R W:=λ x y A=>match x,y with
 | .int i,.int j=>.ok (.int (i+j)) A
 | .tup xs,.tup ys=>if xs.length+ys.length<=zY then .ok (.tup (xs++ys)) A else .bad
 | .ref n,.ref k=>match A[n]?,A[k]? with
  | some (.lst xs),some (.lst ys)=>if xs.length+ys.length<=zY then .ok (.ref A.length) (A++[.lst (xs++ys)]) else .bad
  | _,_=>.bad
 | _,_=>.bad
theorem Co:∀x y A,qE (je x y A):=λ x y A=>by
 unfold je
 split
 ·exact jS
 ·exact Zq jS qU
 ·split
  ·exact Zq jS qU
  ·exact qU
 ·exact qU
theorem Zk (h:n<=zY):n<=sizeLine:=by
 have:sizeLine=16777216:=sizeLine_eq
 unfold zY at h;omega
theorem FH:j9 K (λ x y H Q=>Ze (λ i j=>.int (i+j)) x y H Q∨PR K x y H Q∨R4 K x y H Q∨P7 x y H Q) je:=λ φ A H x y u v Q S q1 q2 p=>by
 cases u with
 | int i=>cases v with
  | int j=>obtain rfl:=q1;obtain rfl:=q2;exact .inl ⟨i,j,rfl,rfl,p φ H _ .refl S rfl⟩
  | _=>exact p.elim
 | tup xs=>cases v with
  | tup ys=>
   obtain ⟨a1,vs1,rfl,t1,r1⟩:=q1;obtain ⟨a2,vs2,rfl,t2,r2⟩:=q2;unfold je at p;dsimp only at p
   by_cases hz:xs.length+ys.length<=zY
   ·rw [if_pos hz] at p
    by_cases hx:vs1=[]
    ·subst hx
     have e0:xs=[]:=by
      have:=r1.length
      simpa using this
     subst e0;exact .inr (.inr (.inl ⟨a1,a2,vs2,rfl,rfl,t1,t2,p φ H _ .refl S ⟨a2,vs2,rfl,t2,r2⟩⟩))
    ·refine .inr (.inl ⟨a1,a2,vs1,vs2,rfl,rfl,t1,t2,hx,by rw [<- r1.length,<- r2.length];exact Zk hz,λ e=>?_,λ ne l hl=>?_⟩)
     ·subst e
      have e0:ys=[]:=by
       have:=r2.length
       simpa using this
      subst e0;rw [append_nil] at p;exact p φ H _ .refl S ⟨a1,vs1,rfl,t1,r1⟩
     ·obtain ⟨b1,b2,b3⟩:=Jx S hl (r1.append r2)
      exact p _ _ _ b1 b2 b3
   ·rw [if_neg hz] at p;exact p.elim
  | _=>exact p.elim
 | ref n=>cases v with
  | ref k=>
   unfold je at p;dsimp only at p;cases e1:A[n]? with
   | none=>rw [e1] at p;exact p.elim
   | some o1=>cases o1 with
    | lst xs=>
     cases e2:A[k]? with
     | none=>rw [e1,e2] at p;exact p.elim
     | some o2=>cases o2 with
      | lst ys=>
       rw [e1,e2] at p;dsimp only at p;obtain ⟨p1,v1,rfl,f1,g1,r1⟩:=S.lst q1 e1;obtain ⟨p2,v2,rfl,f2,g2,r2⟩:=S.lst q2 e2
       by_cases hz:xs.length+ys.length<=zY
       ·rw [if_pos hz] at p
        refine .inr (.inr (.inr ⟨p1,p2,v1,v2,rfl,rfl,g1,g2,by rw [<- r1.length,<- r2.length];exact Zk hz,λ l hl=>?_⟩))
        obtain ⟨b1,b2,b3⟩:=Qs S hl (r1.append r2);exact p _ _ _ b1 b2 b3
       ·rw [if_neg hz] at p;exact p.elim
      | _=>rw [e1,e2] at p;exact p.elim
    | _=>rw [e1] at p;exact p.elim
  | _=>exact p.elim
 | _=>cases v<;>exact p.elim
noncomputable def qO:W->W->Hx->R W:=λ x y A=>match x,y with
 | .int i,.int j=>if YK i j then .ok (.int (i * j)) A else .bad
 | .ref n,.int k=>match A[n]? with
  | some (.lst xs)=>if jN k&&decide (xs.length * k.toNat<=zY) then .ok (.ref A.length) (A++[.lst (List.replicate k.toNat xs).flatten]) else .bad
  | _=>.bad
 | _,_=>.bad
theorem DL:∀x y A,qE (qO x y A):=λ x y A=>by
 unfold qO
 split
 ·exact Zq jS qU
 ·split
  ·exact Zq jS qU
  ·exact qU
 ·exact qU
theorem zE.rep {ws:List W}(r:zE K φ H ws vs):∀n:Nat,zE K φ H (List.replicate n ws).flatten (List.replicate n vs).flatten
 | 0=>.nil
 | n+1=>by rw [replicate_succ,replicate_succ,flatten_cons,flatten_cons];exact r.append (zE.rep r n)
theorem F5:j9 K (λ x y H Q=>rI YI (λ i j=>.int (i * j)) x y H Q∨P8 x y H Q) qO:=λ φ A H x y u v Q S q1 q2 p=>by
 cases v with
 | int j=>cases u with
  | int i=>
   obtain rfl:=q1;obtain rfl:=q2;unfold qO at p;dsimp only at p
   by_cases hc:YK i j=true
   ·rw [if_pos hc] at p;exact .inl ⟨i,j,rfl,rfl,F0 i j hc,p φ H _ .refl S rfl⟩
   ·rw [if_neg hc] at p;exact p.elim
  | ref n=>
   obtain rfl:=q2;unfold qO at p;dsimp only at p;cases e1:A[n]? with
   | none=>rw [e1] at p;exact p.elim
   | some o1=>cases o1 with
    | lst xs=>
     rw [e1] at p;dsimp only at p;obtain ⟨p1,v1,rfl,f1,g1,r1⟩:=S.lst q1 e1
     by_cases hz:(jN j&&decide (xs.length * j.toNat<=zY))=true
     ·rw [if_pos hz] at p
      rw [and_eq_true,decide_eq_true_iff] at hz;obtain ⟨b1,b2⟩:=Q5 hz.1;refine .inr ⟨p1,j,v1,rfl,rfl,g1,by omega,by omega,by rw [<- r1.length];exact Zk hz.2,λ l hl=>?_⟩
      obtain ⟨c1,c2,c3⟩:=Qs S hl (r1.rep j.toNat);exact p _ _ _ c1 c2 c3
     ·rw [if_neg hz] at p;exact p.elim
    | _=>rw [e1] at p;exact p.elim
  | _=>exact p.elim
 | _=>cases u<;>exact p.elim
noncomputable def yd:W->W->Hx->R W:=λ x y A=>match x with
 | .ref n=>match A[n]? with
  | some (.lst ws)=>if ws.length<zY then .ok .non (A.set n (.lst (ws++[y]))) else .bad
  | _=>.bad
 | _=>.bad
noncomputable def JN (x:W)(A:Hx):Bool:=match x with
 | .ref n=>match A[n]? with
  | some (.lst _)=>true
  | _=>false
 | _=>false
theorem HC {A:Hx}{w:W}(S:zJ K φ A H)(q:RV K φ H w v)(e:JN w A=true):WR K "list" v H:=by
 unfold JN at e;cases w with
 | ref n=>
  dsimp only at e;cases e1:A[n]? with
  | none=>rw [e1] at e;cases e
  | some o=>cases o with
   | lst ws=>obtain ⟨p,vs,rfl,_,h,_⟩:=S.lst q e1;exact .inl ⟨rfl,_,qZ.of h⟩
   | _=>rw [e1] at e;cases e
 | _=>cases e
noncomputable def jO (g:W->W->Hx->R W)(a b:Ev):Ev:=λ ρ A=>(a ρ A).bind λ x A1=>if JN x A1 then (b ρ A1).bind λ y A2=>g x y A2 else .bad
theorem X0 {nm:Str}{id:String}{r:V->List V->Hp->VK->Prop}{g:W->W->Hx->R W}(slot:Slot "list" nm id)(hty:typeOf (.builtin id)=pure (.type "method_descriptor"))(hm:YW X id r)(hn:∀x y A,qE (g x y A))
  (hg:∀φ A H x y u v Q,zJ X.K φ A H->RV X.K φ H u x->RV X.K φ H v y->(g u v A).post (PB X.K φ H Q) wJ->r x [y] H Q)(ho:SE X xr a ma)(he:SE X xr b mb)
  (hs:starEach [b] X.env=(false,eval b X.env)::starEach [] X.env)(hbase:attributeBase a nm X.env (eval a X.env)=eval a X.env)
  (hfew:((backTo cpos (starEach [b] X.env)).all (λ x=>!x.1)&&(backToKw cpos (keywordEach [] X.env)).all (λ x=>x.1.isSome)
   && decide ([b].length+([]:List Keyword).length+(if ([]:List Keyword).isEmpty then 0 else 1)<30))=true)(hline:(apos.endLine==cpos.line)=true):
  SE X xr (.Call (.Attribute a nm apos) [b] [] cpos) (jO g ma mb):=
 PE.imp (Pq PySem.F.plainAttrs_list slot hty hm ho (jj he jW hs) hbase hfew hline hs (by rfl)) λ σ H Q ⟨φ,A,ρ,S,re,h⟩=>by
  refine tM.go S re (zU.mp h) λ w A1 φ1 H1 v h1 l1 S1 q1=>?_
  by_cases hl:JN w A1=true
  ·rw [if_pos hl] at h1
   refine ⟨HC S1 q1 hl,?_⟩;refine tM.go S1 (re.mono l1) (qj (zU.mp h1) (λ _ _ z=>z) λ _ _ z=>z.mono l1) λ w2 A2 φ2 H2 v2 h2 l2 S2 q2=>?_;exact hg φ2 A2 H2 v v2 w w2 Q S2 (q1.mono l2) q2 (qj (Ja (hn _ _ _) h2) (λ _ _ z=>z.mono (l1.trans l2)) λ _ _ z=>z)
  ·rw [if_neg hl] at h1;exact h1.elim
theorem M9:∀x y A,qE (yd x y A):=λ x y A=>by
 unfold yd
 split
 ·split
  ·exact Zq jS qU
  ·exact qU
 ·exact qU
noncomputable def gR:W->W->Hx->R W:=λ x y A=>match x,y with
 | .ref n,.int i=>match A[n]? with
  | some (.lst ws)=>match (if jN i then seqIndex? i ws.length else none) with
   | some k=>match ws[k]? with
    | some w=>.ok w (A.set n (.lst (ws.eraseIdx k)))
    | none=>.bad
   | none=>.bad
  | _=>.bad
 | _,_=>.bad
theorem Fs:∀x y A,qE (gR x y A):=λ x y A=>by
 unfold gR
 split
 ·split
  ·split
   ·split
    ·exact jS
    ·exact qU
   ·exact qU
  ·exact qU
 ·exact qU
noncomputable def wD:W->W->W->Hx->R Unit:=λ o i v A=>match o,i with
 | .ref n,.int k=>match A[n]? with
  | some (.lst ws)=>match w6 ws.length k with
   | some j=>.ok () (A.set n (.lst (ws.set j v)))
   | none=>.bad
  | _=>.bad
 | _,_=>.bad
theorem Pg:∀o i v A,qE (wD o i v A):=λ o i v A=>by
 unfold wD
 split
 ·split
  ·split
   ·exact jS
   ·exact qU
  ·exact qU
 ·exact qU
theorem Ra:Py K PN wD:=λ φ A H o i v wo wi wv Q S q1 q2 q3 p=>by
 unfold wD at p;cases wo with
 | ref n=>cases wi with
  | int k=>
   obtain rfl:=q2;dsimp only at p;cases e1:A[n]? with
   | none=>rw [e1] at p;exact p.elim
   | some o1=>cases o1 with
    | lst ws=>
     rw [e1] at p;dsimp only at p;cases e2:w6 ws.length k with
     | none=>rw [e2] at p;exact p.elim
     | some j=>
      rw [e2] at p;obtain ⟨l,vs,rfl,f1,g1,r1⟩:=S.lst q1 e1;have ln:Le K φ H φ (upd H l (.lst (vs.set j v))):=Le.upd f1 (λ xs z=>by rw [g1] at z;cases z) (λ _ _ z=>by rw [g1] at z;cases z)
      obtain ⟨w1,w2⟩:=S.write (o:=.lst ws) (o':=.lst (ws.set j wv)) e1 rfl rfl f1 ⟨_,jo,(r1.mono ln).set (q3.mono ln) j⟩;exact ⟨l,vs,k,j,rfl,rfl,g1,by rw [<- r1.length];exact e2,p _ _ w1 w2⟩
    | _=>rw [e1] at p;exact p.elim
  | _=>exact p.elim
 | _=>cases wi<;>exact p.elim
variable {es:List Expr}{m:Ev}
theorem BU {id:String}{g:W->Hx->R W}(hc:j3 X (.builtin id) r)(hn:∀w A,qE (g w A))(hg:W5 X.K (λ v=>r [v]) g)(hm:X.mg x=none)(hv:bootBuiltins x=some (.builtin id))(ha:SE X xr e m)(hgl:Gl X x:=by rfl)
  (hn':x ≠ "__name__" := by decide)(hdb:(x==("__debug__" : Str))=false:=by decide)(he:starEach [e] X.env=(false,eval e X.env)::starEach [] X.env:=by rfl)(hpl:(backTo pos (starEach [] X.env)).any (·.1)=false:=by rfl):
  SE X xr (.Call (.Name x p) [e] [] pos) (jU g m):=PE.imp (ZY hc hgl hm hv (jj ha jW he) hn' hdb he hpl) λ σ H Q h=>jU.read (r:=λ v=>r [v]) hn hg σ H Q h
theorem Dt {id:String}{g:W->Hx->R W}(hc:j3 X (.type id) r)(hn:∀w A,qE (g w A))(hg:W5 X.K (λ v=>r [v]) g)(hm:X.mg x=none)(hv:bootBuiltins x=some (.type id))(ha:SE X xr e m)(hgl:Gl X x:=by rfl)
  (hn':x ≠ "__name__" := by decide)(hdb:(x==("__debug__" : Str))=false:=by decide)(he:starEach [e] X.env=(false,eval e X.env)::starEach [] X.env:=by rfl)(hpl:(backTo pos (starEach [] X.env)).any (·.1)=false:=by rfl):
  SE X xr (.Call (.Name x p) [e] [] pos) (jU g m):=PE.imp (Q7 hc hgl hm hv (jj ha jW he) hn' hdb he hpl) λ σ H Q h=>jU.read (r:=λ v=>r [v]) hn hg σ H Q h
theorem XZ {id:String}{g:W->W->Hx->R W}(hc:j3 X (.builtin id) r)(hn:∀w w' A,qE (g w w' A))(hg:j9 X.K (λ v v'=>r [v,v']) g)(hm:X.mg x=none)(hv:bootBuiltins x=some (.builtin id))(ha:SE X xr a ma)(hb:SE X xr b mb)(hgl:Gl X x)
  (hn':x ≠ "__name__")(hdb:(x==("__debug__" : Str))=false)(h1:starEach [a,b] X.env=(false,eval a X.env)::starEach [b] X.env)(h2:starEach [b] X.env=(false,eval b X.env)::starEach [] X.env)(hpl:(backTo pos (starEach [b] X.env)).any (·.1)=false):
  SE X xr (.Call (.Name x p) [a,b] [] pos) (zo g ma mb):=PE.imp (ZY hc hgl hm hv (jj ha (jj hb jW h2) h1) hn' hdb h1 hpl) λ σ H Q h=>zo.read (r:=λ v v'=>r [v,v']) hn hg σ H Q h
noncomputable def YF:W->Hx->R W
 | .int i,A=>.ok (.int (if i<0 then -i else i)) A
 | _,_=>.bad
noncomputable def QG:W->Hx->R W
 | .int i,A=>.ok (.int i) A
 | .bl k,A=>.ok (.int (if k then 1 else 0)) A
 | _,_=>.bad
noncomputable def XS:=Zc λ i j=>.int (if j > i then j else i)
noncomputable def Wr:=Zc λ i j=>.int (if j<i then j else i)
noncomputable def yD:W->Bool
 | .tup _=>false
 | .ref _=>false
 | .clo _ _ _=>false
 | .xc _=>false
 | _=>true
noncomputable def JM:W->W->Bool
 | .non,.non=>true
 | .bl a,.bl b=>a==b
 | .bl a,.int b=>(if a then 1 else 0)==b
 | .int a,.bl b=>a==(if b then 1 else 0)
 | .int a,.int b=>a==b
 | .str a,.str b=>a==b
 | _,_=>false
noncomputable def JQ (x:W)(xs:List W):Bool:=xs.any λ y=>JM y x
theorem KG {w:W}(q:RV K φ H w v)(e:yD w=true):kY v=true:=by
 cases w<;>first
  | (cases e;done)
  | (obtain rfl:=q;rfl)
theorem T4 {w w':W}{v':V}(q:RV K φ H w v)(q':RV K φ H w' v')(e:yD w=true)(e':yD w'=true):wZ v v'=JM w w':=by
 cases w<;>cases w'<;>first
  | (cases e;done)
  | (cases e';done)
  | (obtain rfl:=q;obtain rfl:=q';rfl)
theorem SR {x:W}(q:RV K φ H x v)(e:yD x=true):∀{xs:List W} {vs:List V},zE K φ H xs vs->xs.all yD=true->vs.all kY=true/\W2 v vs=JQ x xs
 | [],_,r,_=>by cases r;exact ⟨rfl,rfl⟩
 | w::ws,_,⟨y,r,e1,h,t⟩,h2=>by
  subst e1;rw [List.all_cons,and_eq_true] at h2;obtain ⟨i1,i2⟩:=SR q e t h2.2;refine ⟨by rw [List.all_cons,KG h h2.1,i1];rfl,?_⟩
  unfold W2 JQ at i2 ⊢;rw [any_cons,any_cons,i2,T4 h q h2.1 e]
noncomputable def QE (neg:Bool):W->W->Hx->R W:=λ x y A=>match zO y A with
 | some ws=>if yD x&&ws.all yD then .ok (.bl (if neg then !JQ x ws else JQ x ws)) A else .bad
 | none=>.bad
noncomputable abbrev WT:=QE false
theorem DQ {n:Bool}:∀x y A,qE (QE n x y A):=λ x y A=>by
 unfold QE
 split
 ·exact Zq jS qU
 ·exact qU
theorem C2 {n:Bool}:j9 K (Od K n) (QE n):=λ φ A H x y u v Q S q1 q2 p=>by
 unfold QE at p;cases es:zO v A with
 | none=>rw [es] at p;exact p.elim
 | some ws=>
  rw [es] at p;dsimp only at p
  by_cases hf:(yD u&&ws.all yD)=true
  ·rw [if_pos hf] at p
   rw [and_eq_true] at hf;obtain ⟨a,ys,rfl,z,r⟩:=Kx S q2 es;obtain ⟨i1,i2⟩:=SR q1 hf.1 r hf.2;exact ⟨a,ys,rfl,z,KG q1 hf.1,i1,by rw [i2];exact p φ H _ .refl S rfl⟩
  ·rw [if_neg hf] at p;exact p.elim
structure Wz (X:Cx)(op:CmpOp)(g:W->W->Hx->R W):Prop where
 ex:∃r:R2,qI X (compareOp op) r/\(∀x y A,qE (g x y A))/\j9 X.K r g
theorem P2:Wz X .In WT:=⟨_,L8,DQ,C2⟩
end
noncomputable def jJ (f:W->Option PyData):List W->Option (List PyData)
 | []=>some []
 | w::ws=>match f w,jJ f ws with
  | some d,some ds=>some (d::ds)
  | _,_=>none
noncomputable def qd (A:Hx):Nat->W->Option PyData
 | _,.non=>some .none
 | _,.bl b=>some (.bool b)
 | _,.int i=>some (.int i)
 | _,.str x=>if PyData.strOk x then some (.str x) else none
 | _,.clo _ _ _=>none
 | _,.xc _=>none
 | 0,.tup _=>none
 | 0,.ref _=>none
 | n+1,.tup ws=>(jJ (qd A n) ws).map .tuple
 | n+1,.ref k=>match zO (.ref k) A with
  | some ws=>(jJ (qd A n) ws).map .list
  | none=>none
theorem HI {K:Frag}{A:Hx}{us:List W}(S:zJ K φ A H)(q:RV K φ H (.ref n) v)(es:zO (.ref n) A=some us):∃a ys,v=.ref a/\qZ K H a ys/\zE K φ H us ys:=by
 obtain ⟨a,rfl,e2⟩:=q;unfold zO at es;dsimp only at es;cases ec:A[n]? with
 | none=>rw [ec] at es;cases es
 | some o=>
  rw [ec] at es;obtain ⟨a',e3,r⟩:=S.ob n o ec;rw [e2] at e3;cases e3;cases o with
  | lst xs=>cases es;obtain ⟨ys,h1,h2⟩:=r;exact ⟨a,ys,rfl,qZ.of h1,h2⟩
  | ro xs=>cases es;obtain ⟨ys,h1,h2⟩:=r;exact ⟨a,ys,rfl,h1.sq,h2⟩
  | dct xs=>cases es
  | tab _ _=>cases es
section
variable {a:Expr}
theorem GW {K:Frag}{f:W->Option PyData}(hf:∀w v u d,RV K φ H w v->RelV v u->f w=some d->∃as,Reads h u d as):
  ∀{ws:List W} {vs:List V} {us:List Value} {ds:List PyData},zE K φ H ws vs->Vals vs us->jJ f ws=some ds->∃as,ReadsAll h us ds as
 | [],_,_,_,r,rv,e=>by cases r;cases rv;cases e;exact ⟨[],.nil⟩
 | w::ws,_,_,ds,⟨v,r,e1,q,t⟩,rv,e=>by
  subst e1;cases rv with
  | cons r1 r2=>
   unfold jJ at e;cases e2:f w with
   | none=>rw [e2] at e;cases e
   | some d=>
    cases e3:jJ f ws with
    | none=>rw [e2,e3] at e;cases e
    | some ds'=>
     rw [e2,e3] at e;cases e;obtain ⟨as,h1⟩:=hf w v _ d q r1 e2;obtain ⟨bs,h2⟩:=GW hf t r2 e3;exact ⟨_,.cons h1 h2⟩
theorem ZX {A:Hx}(I:Inv X pins σ H s)(S:zJ X.K φ A H):∀(n:Nat) (w:W) (v:V) (u:Value) (d:PyData),RV X.K φ H w v->RelV v u->qd A n w=some d->∃as,Reads s.heap u d as:=by
 intro n
 induction n with
 | zero=>
  intro w v u d q r e;cases w with
  | non=>obtain rfl:=q;cases r;cases e;exact ⟨_,.none⟩
  | bl k=>obtain rfl:=q;cases r;cases e;exact ⟨_,.bool k⟩
  | int k=>obtain rfl:=q;obtain ⟨t,rfl⟩:=r;cases e;exact ⟨_,.int k t⟩
  | str k=>
   obtain rfl:=q;obtain ⟨t,rfl⟩:=r;unfold qd at e
   split at e
   ·cases e;exact ⟨_,.str k t⟩
   ·cases e
  | tup _=>cases e
  | ref _=>cases e
  | clo _ _ _=>unfold qd at e;cases e
  | xc _=>unfold qd at e;cases e
 | succ n ih=>
  intro w v u d q r e;cases w with
  | non=>obtain rfl:=q;cases r;cases e;exact ⟨_,.none⟩
  | bl k=>obtain rfl:=q;cases r;cases e;exact ⟨_,.bool k⟩
  | clo _ _ _=>unfold qd at e;cases e
  | xc _=>unfold qd at e;cases e
  | int k=>obtain rfl:=q;obtain ⟨t,rfl⟩:=r;cases e;exact ⟨_,.int k t⟩
  | str k=>
   obtain rfl:=q;obtain ⟨t,rfl⟩:=r;unfold qd at e
   split at e
   ·cases e;exact ⟨_,.str k t⟩
   ·cases e
  | tup ws=>
   obtain ⟨a,vs,rfl,hs,hr⟩:=q;cases r;unfold qd at e;cases e1:jJ (qd A n) ws with
   | none=>rw [e1] at e;cases e
   | some ds=>
    rw [e1] at e;cases e;obtain ⟨its,rv,⟨o,h1,h2,k,h3⟩,_⟩:=I.tuple hs;obtain ⟨as,h4⟩:=GW ih hr rv e1;exact ⟨_,.tuple h1 h2 h3 (by simpa using h4)⟩
  | ref k=>
   unfold qd at e;cases e1:zO (.ref k) A with
   | none=>rw [e1] at e;cases e
   | some ws=>
    rw [e1] at e;dsimp only at e;obtain ⟨a,ys,rfl,hs,hr⟩:=HI S q e1;cases r;cases e2:jJ (qd A n) ws with
    | none=>rw [e2] at e;cases e
    | some ds=>
     rw [e2] at e;cases e;obtain ⟨its,rv,⟨o,k',h1,h2,_,h3⟩,_⟩:=I.list hs;obtain ⟨as,h4⟩:=GW ih hr rv e2;exact ⟨_,.list h1 h2 h3 (by simpa using h4)⟩
theorem J9 {A:Hx}:∀(n:Nat) (w:W) (d:PyData),qd A n w=some d->d.canLay0=true/\d.depth<=n:=by
 intro n;have lst:∀{n:Nat},(∀(w:W) (d:PyData),qd A n w=some d->d.canLay0=true/\d.depth<=n)->∀(ws:List W) (ds:List PyData),jJ (qd A n) ws=some ds->PyData.canLayAll0 ds=true/\PyData.depthAll ds<=n:=by
  intro n ih ws
  induction ws with
  | nil=>intro ds e;cases e;exact ⟨by simp [PyData.canLayAll0],by simp [PyData.depthAll]⟩
  | cons w ws ihw=>
   intro ds e;unfold jJ at e;cases e2:qd A n w with
   | none=>rw [e2] at e;cases e
   | some d=>
    cases e3:jJ (qd A n) ws with
    | none=>rw [e2,e3] at e;cases e
    | some ds'=>
     rw [e2,e3] at e;cases e;obtain ⟨h1,h2⟩:=ih w d e2;obtain ⟨h3,h4⟩:=ihw ds' e3;refine ⟨by simp [PyData.canLayAll0,h1,h3],?_⟩
     simp only [PyData.depthAll];omega
 induction n with
 | zero=>
  intro w d e;cases w with
  | tup _=>cases e
  | ref _=>cases e
  | clo _ _ _=>unfold qd at e;cases e
  | xc _=>unfold qd at e;cases e
  | str x=>
   unfold qd at e
   split at e
   ·rename_i hx;cases e;exact ⟨by simp [PyData.canLay0,hx],by simp [PyData.depth]⟩
   ·cases e
  | _=>cases e;exact ⟨by simp [PyData.canLay0],by simp [PyData.depth]⟩
 | succ n ih=>
  intro w d e;cases w with
  | clo _ _ _=>unfold qd at e;cases e
  | xc _=>unfold qd at e;cases e
  | tup ws=>
   unfold qd at e;cases e1:jJ (qd A n) ws with
   | none=>rw [e1] at e;cases e
   | some ds=>
    rw [e1] at e;cases e;obtain ⟨h1,h2⟩:=lst ih ws ds e1;refine ⟨by simp [PyData.canLay0,h1],?_⟩
    simp only [PyData.depth];omega
  | ref k=>
   unfold qd at e;cases e1:zO (.ref k) A with
   | none=>rw [e1] at e;cases e
   | some ws=>
    rw [e1] at e;dsimp only at e;cases e2:jJ (qd A n) ws with
    | none=>rw [e2] at e;cases e
    | some ds=>
     rw [e2] at e;cases e;obtain ⟨h1,h2⟩:=lst ih ws ds e2;refine ⟨by simp [PyData.canLay0,h1],?_⟩
     simp only [PyData.depth];omega
  | str x=>
   unfold qd at e
   split at e
   ·rename_i hx;cases e;exact ⟨by simp [PyData.canLay0,hx],by simp [PyData.depth]⟩
   ·cases e
  | _=>cases e;exact ⟨by simp [PyData.canLay0],by simp [PyData.depth]⟩
noncomputable def g9 (neg:Bool):W->W->Hx->R W:=λ x y A=>match qd A 8 x,qd A 8 y with
 | some d,some d'=>.ok (.bl (if neg then !PyData.eqv d d' else PyData.eqv d d')) A
 | _,_=>.bad
noncomputable abbrev jL:=g9 false
noncomputable abbrev qK:=g9 true
theorem R8 {n:Bool}:∀x y A,qE (g9 n x y A):=λ x y A=>by
 unfold g9
 split
 ·exact jS
 ·exact qU
noncomputable def Vp (K:Frag)(neg:Bool):R2:=λ x y H Q=>∃φ A u v d d',zJ K φ A H/\RV K φ H u x/\RV K φ H v y/\qd A 8 u=some d/\qd A 8 v=some d'/\Q (.bl (if neg then !PyData.eqv d d' else PyData.eqv d d')) H
theorem K5 {A:Hx}{w:W}{d:PyData}(h:qd A 8 w=some d):SeqAt.shaped d=true:=by
 obtain ⟨h1,h2⟩:=J9 8 w d h;unfold SeqAt.shaped;rw [h1,Bool.true_and,decide_eq_true_iff];omega
theorem D9 (hu:X.A.units+64<cLine):qI X (compareOp .Eq) (Vp X.K false):=by
 intro pins s σ H x y v u Q I rx ry h;obtain ⟨φ,A,w1,w2,d,d',S,q1,q2,e1,e2,q⟩:=h;obtain ⟨as,h1⟩:=ZX I S 8 w1 x v d q1 rx e1;obtain ⟨bs,h2⟩:=ZX I S 8 w2 y u d' q2 ry e2;exact eq_dataH h1 h2 (K5 e1) (K5 e2) hu ⟨.bl _,H,I,rfl,q⟩
theorem DF (hu:X.A.units+64<cLine):qI X (compareOp .NotEq) (Vp X.K true):=by
 intro pins s σ H x y v u Q I rx ry h;obtain ⟨φ,A,w1,w2,d,d',S,q1,q2,e1,e2,q⟩:=h;obtain ⟨as,h1⟩:=ZX I S 8 w1 x v d q1 rx e1;obtain ⟨bs,h2⟩:=ZX I S 8 w2 y u d' q2 ry e2;exact ne_dataH h1 h2 (K5 e1) (K5 e2) hu ⟨.bl _,H,I,rfl,q⟩
theorem Rt {K:Frag}{n:Bool}:j9 K (Vp K n) (g9 n):=λ φ A H x y u v Q S q1 q2 p=>by
 unfold g9 at p;cases e1:qd A 8 u with
 | none=>rw [e1] at p;exact p.elim
 | some d=>
  cases e2:qd A 8 v with
  | none=>rw [e1,e2] at p;exact p.elim
  | some d'=>
   rw [e1,e2] at p;exact ⟨φ,A,u,v,d,d',S,q1,q2,e1,e2,p φ H _ .refl S rfl⟩
theorem kj {k:Nat}(hr:jm k X.A):wB X .Eq jL:=Jw (D9 hr.units) R8 Rt
theorem ki {k:Nat}(hr:jm k X.A):wB X .NotEq qK:=Jw (DF hr.units) R8 Rt
end
mutual
noncomputable def W.nr:W->Bool
 | .tup ws=>qS ws
 | .ref _=>false
 | .clo _ ws _=>qS ws
 | _=>true
noncomputable def qS:List W->Bool
 | []=>true
 | w::ws=>w.nr&&qS ws
end
noncomputable def iso (f:Fn):Fn:=λ us A=>if qS us then (match f us [] with
 | .ok w A1=>(match w with
  | .ref n=>(match A1[n]? with
   | some (.lst ws)=>if qS ws then .ok (.ref A.length) (A++[.lst ws]) else .bad
   | some (.dct kvs)=>if qS (kvs.map (·.2)) then .ok (.ref A.length) (A++[.dct kvs]) else .bad
   | _=>.bad)
  | w=>if w.nr then .ok w A else .bad)
 | _=>.bad) else .bad
noncomputable def Zb (f:Fn):Fn:=λ us A=>match us with
 | .ref n::us=>(match A[n]? with
  | some (.lst ws)=>if qS ws&&qS us then (match f (.ref 0::us) [.lst ws] with
   | .ok w A1=>(match (List.head? A1:Option O) with
    | some (.lst ws2)=>if qS ws2&&w.nr then .ok w (A.set n (.lst ws2)) else .bad
    | _=>.bad)
   | _=>.bad) else .bad
  | _=>.bad)
 | _=>.bad
section
variable {K:Frag}{φ' φ1:List Addr}{H' H1:Hp}{A A1:Hx}
mutual
theorem RV.nrm (tp:∀a vs,qv K H a vs->qv K H' a vs)(fz:∀a o u,H a=some (.frz o u)->H' a=some (.frz o u)):∀{w:W} {v:V},w.nr=true->RV K φ H w v->RV K φ' H' w v
 | .non,_,_,h=>h
 | .bl _,_,_,h=>h
 | .int _,_,_,h=>h
 | .str _,_,_,h=>h
 | .tup ws,_,n,⟨a,vs,e,t,r⟩=>⟨a,vs,e,tp _ _ t,zE.nrm tp fz n r⟩
 | .ref _,_,n,_=>nomatch n
 | .clo _ ws P,_,n,⟨a,ob,u,c,oc,uc,vs,e,h1,h2,h3,r⟩=>⟨a,ob,u,c,oc,uc,vs,e,fz _ _ _ h1,fz _ _ _ h2,h3,zE.nrm tp fz n r⟩
 | .xc _,_,_,⟨a,oe,u,C,e,h1,h2⟩=>⟨a,oe,u,C,e,fz _ _ _ h1,h2⟩
theorem zE.nrm (tp:∀a vs,qv K H a vs->qv K H' a vs)(fz:∀a o u,H a=some (.frz o u)->H' a=some (.frz o u)):∀{ws:List W} {vs:List V},qS ws=true->zE K φ H ws vs->zE K φ' H' ws vs
 | [],_,_,h=>h
 | w::ws,_,n,⟨v,r,e,h,t⟩=>by
  have n':(w.nr&&qS ws)=true:=n;rw [and_eq_true] at n';exact ⟨v,r,e,RV.nrm tp fz n'.1 h,zE.nrm tp fz n'.2 t⟩
end
theorem zJ.none:zJ K [] [] H:=⟨rfl,λ i j a o o' _ _ h=>by simp at h,λ n o h=>by simp at h⟩
theorem zJ.frame (S:zJ K φ A H)(k:∀a o,H a=some o->H1 a=some o)(l:Le K φ H φ H1):zJ K φ A H1:=
 ⟨S.len,S.inj,λ n o e=>let ⟨a,h1,q⟩:=S.ob n o e;⟨a,h1,q.keep l λ u hu=>k a u hu⟩⟩
theorem Le.apart (l:Le K [] H φ1 H1):Le K φ H φ H1/\∀a o,H a=some o->H1 a=some o:=
 have k:∀a o,H a=some o->H1 a=some o:=λ a o h=>l.fr a o h λ n e=>by simp at e
 ⟨⟨λ _ _ h=>h,l.tp,λ a o h _=>k a o h,λ _ _ h=>.inl h,l.st,l.fz⟩,k⟩
theorem zJ.trackN {u:HO}{o:O}(S:zJ K φ A H)(hD:H D=some u)(n:∀(k:Nat) (q:O),φ[k]? =some D->A[k]? =some q->q.mut=false)(new:OR K (φ++[D]) H D o):zJ K (φ++[D]) (A++[o]) H:=by
 have l:gE K φ H (φ++[D]) H:=⟨λ n a h=>by
  have:=(qa2.mp h).1
  rw [getElem?_append_left this];exact h,λ _ _ h=>h,λ _ _ _ h=>h⟩
 have old:∀(i:Nat) a,(φ++[D])[i]? =some a->i<A.length->φ[i]? =some a:=λ i a e hi=>by
  rw [getElem?_append_left (by rw [S.len];exact hi)] at e;exact e
 have last:∀a,(φ++[D])[A.length]? =some a->a=D:=λ a e=>by
  rw [getElem?_append_right (by rw [S.len];exact le_refl _),S.len] at e
  simpa using e.symm
 refine ⟨by simp [S.len],λ i j a o1 o2 h1 h2 h3 h4 m1 m2=>?_,λ k o' e=>?_⟩
 ·by_cases hi:i<A.length
  ·rw [getElem?_append_left hi] at h3
   by_cases hj:j<A.length
   ·rw [getElem?_append_left hj] at h4
    exact S.inj i j a o1 o2 (old i a h1 hi) (old j a h2 hj) h3 h4 m1 m2
   ·exfalso
    have hj':j=A.length:=by have:=(qa2.mp h4).1;simp at this;omega
    subst hj';have z:=n i o1 (by rw [<- last a h2];exact old i a h1 hi) h3
    rw [m1] at z;cases z
  ·have hi':i=A.length:=by have:=(qa2.mp h3).1;simp at this;omega
   by_cases hj:j<A.length
   ·exfalso
    rw [getElem?_append_left hj] at h4;subst hi';have z:=n j o2 (by rw [<- last a h1];exact old j a h2 hj) h4
    rw [m2] at z;cases z
   ·have:=(qa2.mp h4).1;simp at this;omega
 ·by_cases hn:k<A.length
  ·rw [getElem?_append_left hn] at e
   obtain ⟨a,e1,q⟩:=S.ob k o' e;refine ⟨a,l.ex _ _ e1,?_⟩;cases o' with
   | lst ws=>obtain ⟨vs,z,r⟩:=q;exact ⟨vs,z,r.monoW l⟩
   | dct ws=>obtain ⟨vs,z,z2,r⟩:=q;exact ⟨vs,z,z2,r.monoW l⟩
   | tab _ _=>exact q
   | ro ws=>obtain ⟨vs,z,r⟩:=q;exact ⟨vs,z,r.monoW l⟩
  ·have hn':k=A.length:=by have:=(qa2.mp e).1;simp at this;omega
   subst hn';rw [getElem?_append_right (le_refl _)] at e;simp at e;subst e;exact ⟨D,by rw [getElem?_append_right (by rw [S.len];exact le_refl _),S.len];simp,new⟩
theorem zJ.adopt {o:O}(S:zJ K φ A H)(l:Le K [] H φ1 H1)(h1:φ1[n]? =some a)(m:∃u,H1 a=some u)(new:OR K (φ++[a]) H1 a o):
  Le K φ H (φ++[a]) H1/\zJ K (φ++[a]) (A++[o]) H1/\RV K (φ++[a]) H1 (.ref A.length) (.ref a):=by
 obtain ⟨la,k⟩:=l.apart (φ:=φ);have h0:H a=Option.none:=by
  rcases l.nw n a h1 with e | e
  ·simp at e
  ·exact e
 obtain ⟨u,hu⟩:=m;have S1:=S.frame k la;refine ⟨la.JF h0,S1.trackN hu (λ k q e1 e2=>?_) new,a,rfl,by rw [<- S.len];simp⟩
 cases hq:q.mut with
 | false=>rfl
 | true=>
  obtain ⟨a',e3,r⟩:=S.ob k q e2;rw [e1] at e3;cases e3;obtain ⟨z,hz,_⟩:=r.there hq;rw [h0] at hz;cases hz
theorem OR.nrL {ws:List W}(h:OR K φ H a (.lst ws))(n:qS ws=true):OR K φ' H a (.lst ws):=let ⟨vs,e,r⟩:=h;⟨vs,e,r.nrm (λ _ _ t=>t) (λ _ _ _ t=>t) n⟩
theorem OR.nrD {kvs:List (Key × W)}(h:OR K φ H a (.dct kvs))(n:qS (kvs.map (·.2))=true):OR K φ' H a (.dct kvs):=let ⟨vs,e,e2,r⟩:=h;⟨vs,e,e2,r.nrm (λ _ _ t=>t) (λ _ _ _ t=>t) n⟩
theorem zN.iso {k:Nat}{f:Fn}(F:zN P w K mg base k x n f):zN P w K mg base k x n (iso f):=by
 obtain ⟨fa,fd,ps,F,a,b,c⟩:=F;refine ⟨fa,fd,ps,F.imp λ vs H Q E ⟨hl,φ,A,ws,S,r,q⟩=>?_,a,b,c⟩;unfold Mi.iso at q
 by_cases hn:qS ws=true
 ·rw [if_pos hn] at q
  refine ⟨hl,[],[],ws,zJ.none,r.nrm (λ _ _ t=>t) (λ _ _ _ t=>t) hn,?_⟩;cases hf:f ws [] with
  | ok w A1=>
   rw [hf] at q;dsimp only at q;intro φ1 H1 v l1 S1 q1;cases w with
   | ref m=>
    dsimp only at q;cases hm:A1[m]? with
    | none=>rw [hm] at q;exact q.elim
    | some o=>
     rw [hm] at q;obtain ⟨a',ea,hr⟩:=S1.ob m o hm;obtain ⟨a2,rfl,ea2⟩:=q1;rw [ea] at ea2;cases ea2;cases o with
     | lst us=>
      dsimp only at q
      by_cases hu:qS us=true
      ·rw [if_pos hu] at q
       obtain ⟨t,ht,_⟩:=hr.there rfl;obtain ⟨b1,b2,b3⟩:=S.adopt l1 ea ⟨t,ht⟩ (o:=.lst us) (hr.nrL hu);exact q _ _ _ b1 b2 b3
      ·rw [if_neg hu] at q;exact q.elim
     | dct us=>
      dsimp only at q
      by_cases hu:qS (us.map (·.2))=true
      ·rw [if_pos hu] at q
       obtain ⟨t,ht,_⟩:=hr.there rfl;obtain ⟨b1,b2,b3⟩:=S.adopt l1 ea ⟨t,ht⟩ (o:=.dct us) (hr.nrD hu);exact q _ _ _ b1 b2 b3
      ·rw [if_neg hu] at q;exact q.elim
     | ro us=>exact q.elim
     | tab _ _=>exact q.elim
   | _=>
    all_goals
     dsimp only at q;obtain ⟨la,kk⟩:=l1.apart (φ:=φ)
     first
      | exact q φ H1 v la (S.frame kk la) q1
      | (
        split at q
        ·rename_i hw
         exact q φ H1 v la (S.frame kk la) (RV.nrm (λ _ _ t=>t) (λ _ _ _ t=>t) hw q1)
        ·exact q.elim)
  | exc y A1=>rw [hf] at q;exact q.elim
  | bad=>rw [hf] at q;exact q.elim
 ·rw [if_neg hn] at q;exact q.elim
theorem zN.Zb {k:Nat}{f:Fn}(F:zN P w K mg base k x n f):zN P w K mg base k x n (Zb f):=by
 obtain ⟨fa,fd,ps,F,a,b,c⟩:=F;refine ⟨fa,fd,ps,F.imp λ vs H Q E ⟨hl,φ,A,ws,S,r,q⟩=>?_,a,b,c⟩;unfold Mi.Zb at q;cases ws with
 | nil=>exact q.elim
 | cons w0 us=>cases w0 with
  | ref n=>
   dsimp only at q;cases hA:A[n]? with
   | none=>rw [hA] at q;exact q.elim
   | some o=>cases o with
    | lst xs=>
     rw [hA] at q;dsimp only at q
     by_cases hn:(qS xs&&qS us)=true
     ·rw [if_pos hn] at q
      rw [and_eq_true] at hn;obtain ⟨v0,vr,rfl,q0,qr⟩:=r;obtain ⟨p,ys,rfl,f1,g1,r1⟩:=S.lst q0 hA;have S0:zJ K [p] [.lst xs] H:=by
       refine ⟨rfl,λ i j a o o' h1 h2 h3 h4 _ _=>?_,λ m o e=>?_⟩
       ·have:=(qa2.mp h1).1
        have:=(qa2.mp h2).1
        simp at *;omega
       ·have:m=0:=by have:=(qa2.mp e).1;simp at this;omega
        subst this;simp at e;subst e;exact ⟨p,rfl,ys,g1,r1.nrm (λ _ _ t=>t) (λ _ _ _ t=>t) hn.1⟩
      refine ⟨hl,[p],[.lst xs],.ref 0::us,S0,.cons ⟨p,rfl,rfl⟩ (qr.nrm (λ _ _ t=>t) (λ _ _ _ t=>t) hn.2),?_⟩;cases hf:f (.ref 0::us) [.lst xs] with
      | ok w A1=>
       rw [hf] at q;dsimp only at q;intro φ1 H1 v l1 S1 q1;cases h0:List.head? A1 with
       | none=>rw [h0] at q;exact q.elim
       | some o=>cases o with
        | lst zs=>
         rw [h0] at q;dsimp only at q
         by_cases hw:(qS zs&&w.nr)=true
         ·rw [if_pos hw] at q
          rw [and_eq_true] at hw;have apart:∀a o,a≠p->H a=some o->H1 a=some o:=λ a o ne h=>l1.fr a o h λ m e=>by
           have:m=0:=by have:=(qa2.mp e).1;simp at this;omega
           subst this;simp at e;exact ne e.symm
          have lf:Le K φ H φ H1:=⟨λ _ _ h=>h,l1.tp,λ a o h nn=>apart a o (λ e=>nn n (by rw [e];exact f1)) h,λ _ _ h=>.inl h,l1.st,l1.fz⟩
          have hp:φ1[0]? =some p:=l1.ex 0 p rfl;obtain ⟨p',e1,us',e2,r2⟩:=S1.ob 0 _ (by rw [<- List.head?_eq_getElem?];exact h0)
          rw [hp] at e1;cases e1;refine q φ H1 v lf ?_ (RV.nrm (λ _ _ t=>t) (λ _ _ _ t=>t) hw.2 q1);have mt:∀(i:Nat) (w:O),(A.set n (.lst zs))[i]? =some w->w.mut=true->∃w',A[i]? =some w'/\w'.mut=true:=λ i w e mw=>by
           by_cases hi:i=n
           ·subst hi;exact ⟨_,hA,rfl⟩
           ·rw [getElem?_set_ne (Ne.symm hi)] at e;exact ⟨w,e,mw⟩
          refine ⟨by simp [S.len],λ i j a o1 o2 h1 h2 h3 h4 m1 m2=>?_,λ i w e=>?_⟩
          ·obtain ⟨w1,e1,k1⟩:=mt i o1 h3 m1
           obtain ⟨w2,e2,k2⟩:=mt j o2 h4 m2;exact S.inj i j a w1 w2 h1 h2 e1 e2 k1 k2
          ·by_cases hi:i=n
           ·subst hi
            have:i<A.length:=(qa2.mp hA).1
            rw [getElem?_set_self this] at e;cases e;exact ⟨p,f1,us',e2,r2.nrm (λ _ _ t=>t) (λ _ _ _ t=>t) hw.1⟩
           ·rw [getElem?_set_ne (Ne.symm hi)] at e
            obtain ⟨a,e1,rr⟩:=S.ob i w e;refine ⟨a,e1,?_⟩
            by_cases hm:w.mut=true
            ·have ne:a≠p:=λ z=>hi (S.inj i n a w _ e1 (by rw [z];exact f1) e hA hm rfl)
             exact rr.keep lf λ z hz=>apart a z ne hz
            ·cases w with
             | lst _=>exact absurd rfl hm
             | dct _=>exact absurd rfl hm
             | tab _ _=>exact absurd rfl hm
             | ro ws=>
              obtain ⟨vs,r1,r2⟩:=rr;refine ⟨vs,?_,r2.mono lf⟩;rcases r1 with ⟨ob,r1⟩ | r1
              ·refine .inl ⟨ob,apart a _ ?_ r1⟩
               intro z;subst z;rw [g1] at r1;cases r1
              ·exact .inr r1
         ·rw [if_neg hw] at q;exact q.elim
        | _=>rw [h0] at q;exact q.elim
      | exc y A1=>rw [hf] at q;exact q.elim
      | bad=>rw [hf] at q;exact q.elim
     ·rw [if_neg hn] at q;exact q.elim
    | _=>rw [hA] at q;exact q.elim
  | _=>exact q.elim
end
section
variable {K:Frag}{a b:Expr}{es:List Expr}{m:Ev}{st:Stmt}
noncomputable def intsOf:List W->Option (List Int)
 | []=>some []
 | w::ws=>match w with
  | .int i=>match intsOf ws with
   | some is=>some (i::is)
   | none=>none
  | _=>none
theorem G3:∀{ws:List W} {ns:List Int},intsOf ws=some ns->ws=ns.map W.int
 | [],_,e=>by cases e;rfl
 | w::ws,ns,e=>by
  unfold intsOf at e;cases w with
  | int i=>
   dsimp only at e;cases e2:intsOf ws with
   | none=>rw [e2] at e;cases e
   | some is=>rw [e2] at e;cases e;rw [G3 e2];rfl
  | _=>cases e
noncomputable def j5:List Int->Int->Int
 | [],m=>m
 | i::is,m=>j5 is (if i > m then i else m)
theorem Ib (ns:List Int):∀(k:Nat) (hk:k<ns.length),j5 (ns.drop (k+1)) (ns.getD (argBest (λ i j=>decide (ns.getD i 0 > ns.getD j 0)) k) 0)=j5 ns.tail (ns.getD 0 0):=by
 intro k
 induction k with
 | zero=>intro _;rw [show argBest _ 0=0 from rfl,List.drop_one]
 | succ k ih=>
  intro hk;have hk':k<ns.length:=by omega
  rw [<- ih hk'];have e:ns.drop (k+1)=ns[k+1]::ns.drop (k+1+1):=List.drop_eq_getElem_cons hk;rw [e];have e3:ns.getD (k+1) 0=ns[k+1]:=by rw [getD_eq_getElem?_getD,getElem?_eq_getElem hk];rfl
  show j5 _ (ns.getD (if decide (ns.getD (k+1) 0 > ns.getD (argBest _ k) 0)=true then k+1 else argBest _ k) 0)=j5 _ (if ns[k+1] > ns.getD (argBest _ k) 0 then ns[k+1] else ns.getD (argBest _ k) 0);rw [e3]
  by_cases h:ns[k+1] > ns.getD (argBest (λ i j=>decide (ns.getD i 0 > ns.getD j 0)) k) 0
  ·rw [if_pos (by rw [decide_eq_true_iff];exact h),if_pos h,e3]
  ·rw [if_neg (by rw [decide_eq_true_iff];exact h),if_neg h]
noncomputable def PC (K:Frag)(C:List Int->Prop)(f:List Int->Int):List V->Hp->VK->Prop:=λ xs H Q=>∃a ns,xs=[.ref a]/\(qZ K H a (ns.map V.int)∨qv K H a (ns.map V.int))/\C ns/\Q (.int (f ns)) H
theorem Xf (rv:Vals (ns.map V.int) its){v:Value}(h:its[i]? =some v):∃t,v=.int (ns.getD i 0) t:=by
 have hi:i<its.length:=(qa2.mp h).1;have hi':i<ns.length:=by have:=rv.length;rw [length_map] at this;omega
 obtain ⟨u,h1,h2⟩:=rv.get (i:=i) (x:=V.int ns[i]) (by simp [hi'])
 rw [h] at h1;cases h1;obtain ⟨t,rfl⟩:=h2;exact ⟨t,by rw [getD_eq_getElem?_getD,getElem?_eq_getElem hi'];rfl⟩
theorem Ll (hc:X.calm=true):j3 X (.builtin "max") (PC X.K (λ ns=>ns≠[]) λ ns=>j5 ns.tail (ns.getD 0 0)):=by
 intro pins s σ H xs us Q I r h;obtain ⟨a,ns,rfl,z,hne,q⟩:=h;obtain ⟨u,rfl,ru⟩:=vals1 r;cases ru;have hp:0<ns.length:=List.length_pos_iff.mpr hne;refine call_max_walk (S6 I hc z λ its I' fp wr St' s2 rv hz W st hfp back=>?_);have e:its.length=ns.length:=by have:=rv.length;rw [length_map] at this;omega
 refine ⟨I',fp,wr,_,_,St',λ i j=>decide (ns.getD i 0 > ns.getD j 0),rfl,W,st,hfp,by omega,?_,λ v h' tk hv k=>?_⟩
 ·intro i j vi vj s' Q' E' h1 h2 hQ
  obtain ⟨t1,rfl⟩:=Xf rv h1;obtain ⟨t2,rfl⟩:=Xf rv h2;exact (PyProof.Rows.gt_int hQ:wpAny (model X.prog X.w) X.A.in1 (compareOp .Gt (.int (ns.getD i 0) t1) (.int (ns.getD j 0) t2)) Q' E' s')
 ·obtain ⟨t,rfl⟩:=Xf rv hv
  rw [e];have b:=Ib ns (ns.length - 1) (by omega)
  rw [show ns.length - 1+1=ns.length by omega,drop_length] at b
  have b':ns.getD (argBest (λ i j=>decide (ns.getD i 0 > ns.getD j 0)) (ns.length - 1)) 0=j5 ns.tail (ns.getD 0 0):=b;rw [b'];exact ⟨.int _,H,back h' tk k,⟨_,rfl⟩,q⟩
noncomputable def j7:List W->Hx->R W:=λ ws A=>match intsOf ws with
 | some (i::is)=>.ok (.int (j5 is i)) A
 | _=>.bad
theorem DJ:∀ws A,qE (j7 ws A):=λ ws A=>by
 unfold j7;split
 ·exact jS
 ·exact qU
theorem LI {ws:List W}{a:Addr}(z:qZ K H a ys∨qv K H a ys)(r:zE K φ H ws ys)(e:intsOf ws=some ns):qZ K H a (ns.map V.int)∨qv K H a (ns.map V.int):=by
 rw [G3 e] at r;rw [<- zE.ints.mp r];exact z
theorem FO:QU K (PC K (λ ns=>ns≠[]) λ ns=>j5 ns.tail (ns.getD 0 0)) j7:=λ φ A H a ys ws Q S z r p=>by
 unfold j7 at p;cases e:intsOf ws with
 | none=>rw [e] at p;exact p.elim
 | some ns=>cases ns with
  | nil=>rw [e] at p;exact p.elim
  | cons i is=>rw [e] at p;exact ⟨a,i::is,rfl,LI z r e,(by intro z;cases z),p φ H _ .refl S rfl⟩
noncomputable def QO (y:W):List W->Nat->Nat
 | [],n=>n
 | w::ws,n=>QO y ws (if JM w y then n+1 else n)
theorem RH (y:W):∀(ws:List W) (n:Nat),QO y ws n=n+ws.countP λ w=>JM w y
 | [],n=>by simp [QO]
 | w::ws,n=>by
  show QO y ws _=_;rw [RH y ws,countP_cons]
  by_cases h:JM w y=true
  ·rw [if_pos h,if_pos h];omega
  ·rw [if_neg h,if_neg h];omega
noncomputable def Z3:W->W->Hx->R W:=λ x y A=>match x with
 | .tup ws=>if yD y&&ws.all yD then .ok (.int (QO y ws 0)) A else .bad
 | _=>.bad
noncomputable def Dn (K:Frag):V->List V->Hp->VK->Prop:=λ x vs H Q=>∃a xs y,x=.ref a/\vs=[y]/\qv K H a xs/\kY y=true/\xs.all kY=true/\Q (.int (xs.countP λ z=>wZ z y)) H
theorem U6 {y:V}:∀{xs:List V} {us:List Value},Vals xs us->xs.all kY=true->us.countP (gG y)=xs.countP λ z=>wZ z y
 | _,_,.nil,_=>rfl
 | _,_,.cons r t,h=>by
  rw [List.all_cons,and_eq_true] at h;rw [countP_cons,countP_cons,U6 t h.2,XC r h.1]
theorem H9:YW X "tuple.count" (Dn X.K):=by
 intro pins s σ H x vs v us Q I rx rv h;obtain ⟨a,xs,y,rfl,rfl,ht,fy,fx,q⟩:=h;cases rx;obtain ⟨u,rfl,ru⟩:=rv.one;obtain ⟨its,r,pp,_⟩:=I.tuple ht;obtain ⟨⟨cls,dd,data,sl⟩,ho,hc,n,hd⟩:=id pp;simp only at hc hd;subst hc hd;refine call_meets F.slot_tuple_count ⟨_,ho,rfl⟩ F.entry_tuple_count (F.args_tuple_count_2 _ _) (SeqAt.tuple_countAt a its.toArray n dd sl u (gG y)) ⟨ho,λ z hz=>KS ru fy r fx z (by simpa using hz),?_⟩
 refine ⟨.int _,H,I.tok _,⟨_,rfl⟩,?_⟩;rw [<- U6 r fx] at q;simpa using q
noncomputable def Qy (g:W->W->Hx->R W)(a b:Ev):Ev:=λ ρ A=>(a ρ A).bind λ x A1=>match x with
 | .tup ws=>(b ρ A1).bind λ y A2=>g (.tup ws) y A2
 | _=>.bad
noncomputable def tBT (K:Frag)(r:V->List V->Hp->VK->Prop)(to:TE)(t:TA):TE:=λ σ H Q=>to σ H λ x H1=>∃p ys,x=.ref p/\qv K H1 p ys/\t σ H1 λ xs H2=>r x xs H2 Q
theorem Bf {o:Expr}{to:TE}{t:TA}{name:Str}{id:String}{r:V->List V->Hp->VK->Prop}(slot:Slot "tuple" name id)(hty:typeOf (.builtin id)=pure (.type "method_descriptor"))(hm:YW X id r)(ho:PE X o to)(ha:PA X (e::es) t)
  (hbase:attributeBase o name X.env (eval o X.env)=eval o X.env)
  (hfew:((backTo cpos (starEach (e::es) X.env)).all (λ x=>!x.1)&&(backToKw cpos (keywordEach [] X.env)).all (λ x=>x.1.isSome)
   && decide ((e::es).length+([]:List Keyword).length+(if ([]:List Keyword).isEmpty then 0 else 1)<30))=true)
  (hline:(apos.endLine==cpos.line)=true)(hs:starEach (e::es) X.env=(false,eval e X.env)::starEach es X.env)(hplain:(backTo cpos (starEach es X.env)).any (·.1)=false):
  PE X (.Call (.Attribute o name apos) (e::es) [] cpos) (tBT X.K r to t):=by
 intro pins s σ H Q I h;refine wpAny_Call_method_late hbase hfew hline rfl (zP (ho pins s σ H _ I h) λ v s1 ⟨x,H1,I1,r1,p,ys,ep,ty,q1⟩=>?_);subst ep;cases r1;obtain ⟨its,_,pp,_⟩:=I1.tuple ty;refine ⟨"tuple",id,PySem.F.plainAttrs_tuple,slot,hty,pp.typeIs,λ a ea=>by cases ea;exact I1.tupleN ty,?_⟩
 have hA:=ha cpos pins s1 σ H1 _ I1 q1;rw [hs] at hA ⊢;refine Calls.callWith_builtin (by show (false || (backTo cpos (starEach es X.env)).any (·.1))=false;rw [hplain];rfl) (Calls.evalArgs_plain ?_)
 exact zP hA λ us s2 ⟨vs,H2,I2,r2,q2⟩=>hm pins s2 σ H2 (.ref p) vs (.ref p) us Q I2 rfl r2 q2
theorem UY {x:W}(q:RV K φ H x v)(e:yD x=true):∀{xs:List W} {vs:List V},zE K φ H xs vs->xs.all yD=true->vs.all kY=true/\(vs.countP λ z=>wZ z v)=xs.countP λ z=>JM z x
 | [],_,r,_=>by cases r;exact ⟨rfl,rfl⟩
 | w::ws,_,⟨y,r,e1,h,t⟩,h2=>by
  subst e1;rw [List.all_cons,and_eq_true] at h2;obtain ⟨i1,i2⟩:=UY q e t h2.2;refine ⟨by rw [List.all_cons,KG h h2.1,i1];rfl,?_⟩
  rw [countP_cons,countP_cons,i2,T4 h q h2.1 e]
noncomputable def Itc (lo d:Int)(n:Nat):It:=⟨λ i _=>i<n,λ i H x H'=>H'=H/\x=.int (lo+i * d),λ i _=>n<=i⟩
noncomputable def zab (ta:TA):TI:=λ σ H R=>ta σ H λ vs H1=>∃i j:Int,vs=[.int i,.int j,.int (-1)]/\(-(2 ^ 62)<=i/\i<2 ^ 62/\-(2 ^ 62)<=j/\j<2 ^ 62)/\R (Itc i (-1) (i - j).toNat) H1
noncomputable def AB (hi:Int)(n:Nat):jy:=⟨λ _ i=>if i<n then some (some (.int (hi - i))) else some none,n⟩
noncomputable def zaa (m m':Ev):Ei:=λ ρ A=>(m ρ A).bind λ w A1=>(m' ρ A1).bind λ w' A2=>match w,w' with
 | .int i,.int j=>if jN i&&jN j then .ok (AB i (i - j).toNat) A2 else .bad
 | _,_=>.bad
noncomputable def Br (ta:TA):TE:=λ σ H Q=>ta σ H λ vs H1=>∃j:Int,vs=[.int j]/\∀p,H1 p=none->Q (.ref p) (upd H1 p (.rng 0 j))
theorem FE {ta:TA}(hg:Gl X "range")(hm:X.mg "range" = none)(ha:PA X [a] ta)(hs:starEach [a] X.env=[(false,eval a X.env)]):PE X (.Call (.Name "range" p) [a] [] pos) (Br ta):=by
 intro pins s σ H Q I h;refine Call_ (Z1 I hg hm boot_range (PyProof.Rows.callWith_type1 (zP (ha pos pins s σ H _ I h) λ us s1 ⟨vs,H1,I1,r1,q1⟩=>?_) hs rfl));obtain ⟨j,rfl,q⟩:=q1;obtain ⟨u,rfl,⟨t,rfl⟩⟩:=r1.one;refine call_range_1 ⟨.ref _,_,I1.laid (o:=.rng 0 j) (λ b o eo=>get?_push_of_some _ eo) (le_refl _) ?_,rfl,q _ (I1.hok.fresh (le_refl _))⟩;exact ⟨_,_,_,get?_push_size _ rfl⟩
noncomputable def QQ (n:Nat):List V:=(List.range n).map λ (i:Nat)=>V.int i
theorem MB (hc:X.calm=true):j3 X (.type "list") (λ xs H Q=>∃(r:Addr) (j:Int),xs=[.ref r]/\H r=some (.rng 0 j)/\(-(2 ^ 62)<=j/\j<2 ^ 62)/\j.toNat<=sizeLine/\∀l,H l=none->Q (.ref l) (upd H l (.lst (QQ j.toNat)))):=by
 intro pins s σ H xs us Q I r h;obtain ⟨p,j,rfl,hp,⟨b1,b2⟩,hz,q⟩:=h;obtain ⟨u,rfl,ru⟩:=vals1 r;cases ru;obtain ⟨t1,t2,t3,ho⟩:=I.hok p _ hp;have hl:sizeLine=16777216:=sizeLine_eq;refine PySem.call_list_range (n:=j.toNat) (I.ok.hd hc) (show IsRange s.heap p 0 j 1 t1 t2 t3 from ho) (small_one (by omega) (by omega) b1 b2) (by rw [rangeSize_one];split<;>omega) (by omega) λ h' tk acc c' kk hS ⟨hn,hat⟩=>?_
 refine ⟨.ref s.heap.objs.size,_,I.laid (t':=tk) (o:=.lst (QQ j.toNat)) kk (le_refl _) ?_,rfl,q _ (I.hok.fresh (le_refl _))⟩;refine ⟨by unfold QQ;simpa using hz,acc.toList,c',?_,by simpa using hS⟩
 have hv:∀(l:List Value) (k:Nat),(∀(i:Nat) v,l[i]? =some v->∃t,v=.int ((k+i:Nat):Int) t)->Vals ((List.range' k l.length).map λ (i:Nat)=>V.int i) l:=by
  intro l
  induction l with
  | nil=>intro k _;exact .nil
  | cons v l ih=>
   intro k hk;rw [length_cons,range'_succ,map_cons];refine .cons ?_ (ih (k+1) λ i v' hv=>?_)
   ·obtain ⟨t,rfl⟩:=hk 0 v rfl
    exact ⟨t,rfl⟩
   ·obtain ⟨t,rfl⟩:=hk (i+1) v' (by simpa using hv)
    exact ⟨t,by congr 1;omega⟩
 have hl':acc.toList.length=j.toNat:=by simpa using hn
 have:=hv acc.toList 0 λ i v hiv=>by
  obtain ⟨t,rfl⟩:=hat i v (by simpa using hiv)
  exact ⟨t,by congr 1;omega⟩
 rw [hl'] at this;unfold QQ;rw [range_eq_range'];exact this
noncomputable def Yo (m:Ev):Ev:=λ ρ A=>(m ρ A).bind λ w A1=>match w with
 | .int j=>if jN j&&decide (j.toNat<=zY) then .ok (.ref A1.length) (A1++[.lst ((List.range j.toNat).map λ (i:Nat)=>W.int i)]) else .bad
 | _=>.bad
noncomputable def zad (i:Nat)(m:Ev):Ex:=λ ρ A=>match ρ[i]? with
 | some (some (.int x))=>(m ρ A).bind λ w A1=>match w with
  | .int y=>.ok (.nx (ρ.set i (some (.int (x+y))))) A1
  | _=>.bad
 | _=>.bad
noncomputable def Bw:V->V->Hp->VK->Prop:=λ o i H Q=>∃p xs k v,o=.ref p/\i=.int k/\0<=k/\H p=some (.lst xs)/\xs[k.toNat]? =some v/\Q v H
theorem Hg:PY X Bw:=by
 intro pins s σ H o i ov iv Q I ro ri h;obtain ⟨p,xs,k,v,rfl,rfl,h0,hp,hv,q⟩:=h;cases ro;obtain ⟨t,rfl⟩:=ri;obtain ⟨its,r,pl,hz⟩:=I.list (qZ.of hp);obtain ⟨u,hu,ru⟩:=r.get hv;have hn:=Js;have hl:=r.length;have hk:k.toNat<its.length:=(qa2.mp hu).1;exact wpAny_getItem_list pl.isList h0 (by omega) (by simpa using hu) ⟨v,H,I,ru,q⟩
noncomputable def QD (mo mi me:Ev):Ex:=λ ρ A=>(mo ρ A).bind λ o A1=>(mi ρ A1).bind λ i A2=>match o,i with
 | .ref n,.int k=>if 0<=k then (match (A2[n]?:Option O) with
  | some (.lst ws)=>match ws[k.toNat]? with
   | some (.int x)=>(me ρ A2).bind λ y A3=>match y with
    | .int y=>(wD (.ref n) (.int k) (.int (x+y)) A3).bind λ _ A4=>.ok (.nx ρ) A4
    | _=>.bad
   | _=>.bad
  | _=>.bad) else .bad
 | _,_=>.bad
noncomputable def Wk (i j k:Nat):Tg:=λ w ρ=>match w with
 | .tup [x,.tup [y,z]]=>some (((ρ.set i (some x)).set j (some y)).set k (some z))
 | _=>none
end
noncomputable def jx (k:Bool)(h:Heap)(it a:Addr)(i:Nat):Prop:=if k=true then h.IsListIter it a i else h.IsTupleIter it a i
noncomputable def jX (k:Bool)(h:Heap)(a:Addr)(items:Array Value):Prop:=if k=true then h.IsList a items else h.IsTuple a items
noncomputable def kf (k:Bool)(K:Frag)(H:Hp)(a:Addr)(xs:List V):Prop:=if k=true then qZ K H a xs else qv K H a xs
noncomputable def QB (k:Bool):String:=if k then "list_iterator" else "tuple_iterator"
theorem jx.ob {k:Bool}{it:Addr}(x:jx k h it a i):∃o,h.get? it=some o/\o.cls=.type (QB k)/\o.data=.fields #[.ref a,.int i 0]:=by
 cases k<;>exact x
theorem jx.mk {k:Bool}{it:Addr}(x:∃o,h.get? it=some o/\o.cls=.type (QB k)/\o.data=.fields #[.ref a,.int i 0]):jx k h it a i:=by
 cases k<;>exact x
theorem jx.to {k:Bool}{h':Heap}{it:Addr}(x:jx k h it a i)(e:∀o,h.get? it=some o->h'.get? it=some o):jx k h' it a i:=let ⟨o,h1,r⟩:=x.ob;.mk ⟨o,e o h1,r⟩
theorem jX.ob {k:Bool}{items:Array Value}(x:jX k h a items):∃o,h.get? a=some o/\o.cls=.type (if k then "list" else "tuple")/\∃n,o.data=.seq items n:=by
 cases k<;>exact x
theorem jX.to {k:Bool}{h':Heap}{items:Array Value}(x:jX k h a items)(e:∀o,h.get? a=some o->h'.get? a=some o):jX k h' a items:=by
 cases k with
 | false=>exact let ⟨o,h1,r⟩:=x.ob;⟨o,e o h1,r⟩
 | true=>exact let ⟨o,h1,r⟩:=x.ob;⟨o,e o h1,r⟩
section
variable {prog:Program}{A:Around}{k:Bool}{it:Addr}{items:Array Value}
theorem RG (hl:jX k s.heap a items)(hQ:Q (.ref s.heap.objs.size) { s with heap:=s.heap.push { cls:=.type (QB k),data:=.fields #[.ref a,.int 0 0] } }):wpAny (model prog w) A (pyIter (.ref a)) Q E s:=by
 cases k with
 | true=>exact wpAny_pyIter_list hl hQ
 | false=>exact wpAny_pyIter_tuple hl hQ
theorem K6 {x:Value}(hit:jx k s.heap it a i)(hl:jX k s.heap a items)(hx:items[i]? =some x)
  (hQ:∀h',jx k h' it a (i+1)->Heap.SameBut it s.heap h'->Q x { s with heap:=h' }):wpAny (model prog w) A (Builtin.SmallTypes.nextOf (.ref it)) Q E s:=by
 cases k with
 | true=>exact wpAny_nextOf_list_item hit hl hx hQ
 | false=>
  have hit':s.heap.IsTupleIter it a i:=hit;obtain ⟨oi,hoi,hci,hdi⟩:=id hit';obtain ⟨oa,hoa,_,na,hda⟩:s.heap.IsTuple a items:=hl;unfold Builtin.SmallTypes.nextOf;refine qa0 (wpAny_callSpecial?_slot (name:=Str.ofString "__next__") hit'.typeIs F.slot_tuple_iterator_next (wpAny_call_entry F.slot_tuple_iterator_next hit'.typeIs F.entry_tuple_iterator_next ?_ (F.args_tuple_iterator_next_1 _)));show wpAny _ _ (field (.ref it) 0 >>= _) _ _ s;refine qa0 (wpAny_field hoi hdi (x:=.ref a) rfl ?_);show wpAny _ _ (if (Value.ref a==Value.none)=true then _ else _) _ _ s;rw [if_neg (show ¬((Value.ref a==Value.none)=true) from Bool.false_ne_true)]
  show wpAny _ _ (field (.ref it) 1 >>= _) _ _ s;refine qa0 (wpAny_field hoi hdi (x:=.int i 0) rfl ?_);show wpAny _ _ (seqItems? (.ref a) >>= _) _ _ s;refine qa0 (wpAny_seqItems hoa hda ?_);simp only [toNat_natCast,hx];refine qa0 (wpAny_setField hoi hdi (by simp) (qa1 ⟨x,rfl,qa1 (hQ _ (.mk ?_) (Heap.SameBut.update ..))⟩))
  exact ⟨_,get?_update_self _ hoi (Obj.isFreed_of_fields (Obj.data_mapFields hdi _)),(Obj.cls_mapFields ..).trans hci,by rw [Obj.data_mapFields hdi];simp [rawInt]⟩
theorem XQ (hh:A.handled=none)(hit:jx k s.heap it a i)(hl:jX k s.heap a items)(hx:items[i]? =none)
  (hE:∀h' e,Heap.ExtBut it s.heap h'->(∃o,h'.get? e=some o/\o.cls=.type "StopIteration")->E (.ref e) { s with heap:=h' }):wpAny (model prog w) A (Builtin.SmallTypes.nextOf (.ref it)) Q E s:=by
 cases k with
 | true=>exact wpAny_nextOf_list_end hh hit hl hx hE
 | false=>
  have hit':s.heap.IsTupleIter it a i:=hit;obtain ⟨oi,hoi,hci,hdi⟩:=id hit';obtain ⟨oa,hoa,_,na,hda⟩:s.heap.IsTuple a items:=hl;unfold Builtin.SmallTypes.nextOf;refine qa0 (wpAny_callSpecial?_slot (name:=Str.ofString "__next__") hit'.typeIs F.slot_tuple_iterator_next (wpAny_call_entry F.slot_tuple_iterator_next hit'.typeIs F.entry_tuple_iterator_next ?_ (F.args_tuple_iterator_next_1 _)));show wpAny _ _ (field (.ref it) 0 >>= _) _ _ s;refine qa0 (wpAny_field hoi hdi (x:=.ref a) rfl ?_);show wpAny _ _ (if (Value.ref a==Value.none)=true then _ else _) _ _ s;rw [if_neg (show ¬((Value.ref a==Value.none)=true) from Bool.false_ne_true)]
  show wpAny _ _ (field (.ref it) 1 >>= _) _ _ s;refine qa0 (wpAny_field hoi hdi (x:=.int i 0) rfl ?_);show wpAny _ _ (seqItems? (.ref a) >>= _) _ _ s;refine qa0 (wpAny_seqItems hoa hda ?_);simp only [toNat_natCast,hx];refine qa0 (wpAny_rule (qa0 (wpAny_setField hoi hdi (by simp) ?_)))
  show wpAny _ _ (newExc (.type "StopIteration") [] >>= _) _ _ _;refine qa0 ?_;simp only [newExc,newTuple];refine qa0 (wpAny_newObj_type ?_ (by size_fits))
  refine qa0 (m:=firstArgMember _ _) (wpAny_of_eq (a:=Value.none) (by first | rfl | (simp only [firstArgMember];rfl)) ?_);refine wpAny_newObj_type ?_ (by size_fits)
  simp only [raiseNew];refine qa0 (wpAny_handled ?_)
  first | rw [show A.in1.handled=none from hh] | rw [hh]
  refine qa0 (qa1 (wpAny_throw ?_));exact hE _ _ (((Heap.SameBut.update ..).extBut.push _).push _) ⟨_,get?_push_size _ rfl,rfl⟩
theorem SK (hh:A.handled=none)(hne:a≠it):Draws prog w A it [it,a] items.size (λ i v=>items[i]? =some v) (λ i h=>jx k h it a i/\jX k h a items) where
 live:=λ _ _ st=>let ⟨o,ho,_⟩:=st.1.ob;⟨o,ho⟩
 frame:=λ _ _ _ st hk=>⟨st.1.to λ o e=>hk it (by simp) o e,st.2.to λ o e=>hk a (by simp) o e⟩
 item:=λ i s Q E hi st hQ=>K6 st.1 st.2 (x:=items[i]) (by simp [hi]) λ h' hit' hs'=>hQ _ h' s.toks (by simp [hi]) ⟨hit',st.2.to λ o e=>hs'.extBut a o hne e⟩ hs'
 done:=λ s Q E st hE=>XQ hh st.1 st.2 (by simp) hE
end
section
variable {h':Heap}
theorem _root_.L2.Inv.spun {T:Addr}{o:HO}(I:Inv X pins σ H s)(k:∀b u,b∉fp->s.heap.get? b=some u->h'.get? b=some u)(hf:∀b∈fp,yZ X pins H b)(hT:s.heap.objs.size<=T)
  (new:qQ X.prog X.w (upd H T o) h' T o):Inv X pins σ (upd H T o) { s with heap:=h',toks:=t' }:=by
 have hn:H T=none:=I.hok.fresh hT;have lt:∀b u,s.heap.get? b=some u->b≠T:=λ b u e=>ne_of_lt (lt_of_lt_of_le (lt_size e) hT);have nf:∀b u,H b=some u->b∉fp:=λ b u e z=>by rw [(hf b z).1] at e;cases e
 refine I.step (g':=s.gens) (d':=s.drawn) (ch:=fp) (λ b hb=>let ⟨_,f1,_,f3,f4,f5⟩:=hf b hb;⟨f3,f1,f4,f5⟩) (λ b o _ _ hc e _=>k b o hc e) (λ b o _ _ hc e _=>⟨o.slots,k b o hc e⟩)
  (λ b o _ e n=>by rw [qf (lt b o e)];exact n) (λ b o hc e=>⟨o,k b o hc e⟩) (λ b xs e=>by rw [qf (yU e hn)];exact e) (λ b u xs e=>by rw [qf (yU e hn)];exact e)
  (λ b ps e=>⟨#[],by rw [qf (yU e hn),e];simp⟩) (λ m hm=>?_) (λ b u e=>?_) I.bare
 ·obtain ⟨o,es,ep,ho,r⟩:=hm
  exact ⟨o,es,ep,k _ o (λ z=>(hf _ z).2.1 rfl) ho,r⟩
 ·by_cases hb:b=T
  ·subst hb;rw [jo] at e;cases e;exact new
  ·rw [qf hb] at e
   refine (I.hok b u e).stay (λ c v hc q=>k c v ?_ q) (λ c q=>by rw [qf (yU q hn)];exact q) λ c xs q=>by rw [qf (yU q hn)];exact q
   rcases hc with z | z
   ·rw [z];exact nf b u e
   ·exact nf c _ z
theorem _root_.L2.Inv.spun0 (I:Inv X pins σ H s)(k:∀b u,b∉fp->s.heap.get? b=some u->h'.get? b=some u)(hf:∀b∈fp,yZ X pins H b):Inv X pins σ H { s with heap:=h',toks:=t' }:=by
 have nf:∀b u,H b=some u->b∉fp:=λ b u e z=>by rw [(hf b z).1] at e;cases e
 refine I.step (g':=s.gens) (d':=s.drawn) (ch:=fp) (λ b hb=>let ⟨_,f1,_,f3,f4,f5⟩:=hf b hb;⟨f3,f1,f4,f5⟩) (λ b o _ _ hc e _=>k b o hc e) (λ b o _ _ hc e _=>⟨o.slots,k b o hc e⟩)
  (λ b o _ e n=>n) (λ b o hc e=>⟨o,k b o hc e⟩) (λ b xs e=>e) (λ b u xs e=>e) (λ b ps e=>⟨#[],by rw [e];simp⟩) (λ m hm=>?_) (λ b u e=>?_) I.bare
 ·obtain ⟨o,es,ep,ho,r⟩:=hm
  exact ⟨o,es,ep,k _ o (λ z=>(hf _ z).2.1 rfl) ho,r⟩
 ·refine (I.hok b u e).stay (λ c v hc q=>k c v ?_ q) (λ c q=>q) λ c xs q=>q
  rcases hc with z | z
  ·rw [z];exact nf b u e
  ·exact nf c _ z
theorem _root_.L2.Inv.sq {k:Bool}(I:Inv X pins σ H s)(h:kf k X.K H a xs):∃its:List Value,Vals xs its/\jX k s.heap a its.toArray/\xs.length<=sizeLine:=by
 cases k with
 | true=>obtain ⟨its,r,p,z⟩:=I.list h;exact ⟨its,r,p.isList,z⟩
 | false=>obtain ⟨its,r,p,z⟩:=I.tuple h;exact ⟨its,r,(show s.heap.IsTuple a its.toArray from p),z⟩
theorem _root_.L2.Inv.sq_inj {k:Bool}(I:Inv X pins σ H s)(h:kf k X.K H a xs)(h':kf k X.K H a ys):xs=ys:=by
 cases k with
 | true=>exact I.list_inj h h'
 | false=>exact I.tuple_inj h h'
end
noncomputable def Vy (k:Bool)(K:Frag)(a:Addr):It:=
 ⟨λ i H=>∃xs x,kf k K H a xs/\xs[i]? =some x,λ i H x H'=>∃p y,(∀xs,kf k K H a xs->xs[i]? =some y)/\H p=none/\x=.ref p/\H'=upd H p (.tup [.int i,y]),λ i H=>∃xs,kf k K H a xs/\xs.length=i⟩
theorem Lo {K:Frag}(k:Bool)(a en it:Addr):Turn P w K (.Tuple elts kk tpos) (Vy k K a) [en,it] en (λ i h=>(∃old,IsEnum h en it i old)/\jx k h it a i/\en≠it) where
 mem:=by simp
 obj:=λ i h st b hb=>by
  obtain ⟨⟨old,he⟩,hi,_⟩:=st;rcases qa3.mp hb with rfl | hb
  ·exact ⟨_,he,λ v z=>nomatch z⟩
  ·rw [qa7.mp hb]
   obtain ⟨o,ho,_,hd⟩:=hi.ob;exact ⟨o,ho,λ v z=>by rw [hd] at z;cases z⟩
 keep:=λ i h h' ⟨⟨old,he⟩,hi,ne⟩ kp=>⟨⟨old,kp en (by simp) _ he⟩,hi.to λ o eo=>kp it (by simp) o eo,ne⟩
 item:=by
  intro X hP hw hK hc i pins s σ H E I hf st hg;subst hP hw hK;obtain ⟨⟨old,he⟩,hi,ne⟩:=st;obtain ⟨xs,x,hq,hx⟩:=hg;obtain ⟨its,rv,hs,hz⟩:=I.sq hq;obtain ⟨u,hu,ru⟩:=rv.get hx;have hlt:i<its.toArray.size:=by simpa using (qa2.mp hu).1
  obtain ⟨oa,hoa,hca,na,hda⟩:=hs.ob;have ani:a≠it:=λ z=>by
   obtain ⟨oi,hoi,hci,hdi⟩:=hi.ob;rw [<- z,hoa] at hoi;cases hoi;rw [hdi] at hda;cases hda
  have ane:en≠a:=λ z=>by
   have he':s.heap.get? a=_:=z ▸ he;rw [hoa] at he';cases he';cases hda
  refine wpAny_pyNext_enum_itemD (SK (k:=k) (items:=its.toArray) (I.ok.hd hc) ani) he ⟨hi,hs⟩ hlt ne (by simp [ne,ane]) λ y h1 tk hy ho hst hT hsz hk=>?_
  have ey:y=u:=by
   have:its[i]? =some y:=by simpa using hy
   rw [hu] at this;exact (Option.some.inj this).symm
  subst ey;refine ⟨_,rfl,wpAny_letOwnedTupleGo_enum ho λ h2 he2 hs2=>?_⟩;have ltE:en<s.heap.objs.size:=lt_size he;have hT2:h2.get? s.heap.objs.size=some { cls:=.type "tuple",data:=.seq #[.int i tk,y] }:=hs2.extBut _ _ (ne_of_gt ltE) hT;refine ⟨.ref s.heap.objs.size,upd H s.heap.objs.size (.tup [.int i,x]),?_,rfl,⟨s.heap.objs.size,x,λ ys hy=>by rw [I.sq_inj hy hq];exact hx,I.hok.fresh (le_refl _),rfl,rfl⟩,⟨⟨_,by simpa using he2⟩,?_,ne⟩,λ b hb=>?_⟩
  ·refine I.spun (fp:=[en,it]) (t':=tk+1) (λ b o hb eo=>?_) hf (le_refl _) ?_
   ·exact hs2.extBut _ _ (λ z=>hb (by simp [z])) (hk b o (λ z=>hb (by simp [z])) (λ z=>hb (by simp [z])) eo)
   ·exact ⟨by show 2<=sizeLine;decide,[.int i tk,y],.cons ⟨tk,rfl⟩ (.cons ru .nil),_,hT2,⟨rfl,rfl⟩,0,rfl⟩
  ·exact hst.1.to λ o eo=>hs2.extBut _ _ (λ z=>ne z.symm) eo
  ·have bn:b≠s.heap.objs.size:=λ z=>by
    rcases qa3.mp hb with q | q
    ·exact absurd ltE (by rw [<- q,z];exact lt_irrefl _)
    ·obtain ⟨oi,hoi,_⟩:=hi.ob
     exact absurd (lt_size hoi) (by rw [<- qa7.mp q,z];exact lt_irrefl _)
   show upd H s.heap.objs.size _ b=none;rw [qf bn];exact (hf b hb).1
 done:=by
  intro X hP hw hK hc i pins s σ H E I hf st hg;subst hP hw hK;obtain ⟨⟨old,he⟩,hi,ne⟩:=st;obtain ⟨xs,hq,hx⟩:=hg;obtain ⟨its,rv,hs,hz⟩:=I.sq hq;have en':its.toArray.size=i:=by rw [size_toArray,<- rv.length];exact hx
  obtain ⟨oa,hoa,hca,na,hda⟩:=hs.ob;have ani:a≠it:=λ z=>by
   obtain ⟨oi,hoi,hci,hdi⟩:=hi.ob;rw [<- z,hoa] at hoi;cases hoi;rw [hdi] at hda;cases hda
  refine wpAny_pyNext_enum_endD (SK (k:=k) (items:=its.toArray) (I.ok.hd hc) ani) he ⟨by rw [en'];exact hi,hs⟩ λ h1 hx1=>⟨rfl,?_⟩
  exact I.spun0 (fp:=[en,it]) (t':=s.toks) (λ b o hb eo=>hx1 b o (λ z=>hb (by simp [z])) eo) hf
 self:=λ _ _ _ _ _ ⟨⟨_,he⟩,_⟩ h=>wpAny_pyIter_enum he h
open AutoSeq1 (wpAny_loadPart')
noncomputable abbrev WJ (h:Heap)(k:Bool)(a:Addr):Heap:=h.push { cls:=.type (QB k),data:=.fields #[.ref a,.int 0 0] }
noncomputable abbrev PX (h:Heap)(k:Bool)(a:Addr):Heap:=(WJ h k a).push { cls:=.type "enumerate",data:=.fields #[.none,.bool false,.ref h.objs.size,rawInt 0,.none,.none] }
theorem Mb (a:Addr)(items:Array Value)(n:Nat)(dd:Option Addr)(sl:Array (Option Value)):
  Meets (Builtin.«enumerate.__new__» ⟨[.type "enumerate",.ref a],[]⟩) (λ _ R s=>s.heap.get? a=some { cls:=.type "tuple",dict:=dd,data:=.seq items n,slots:=sl }/\R (.ok (.ret (.ref (WJ s.heap false a).objs.size))) { s with heap:=PX s.heap false a }):=
 .of_wp λ prog w A R s h=>by
  obtain ⟨hp,g,d,tk,os⟩:=s;obtain ⟨ha,h⟩:=h;have hsub:=sub_enumerate;have hT:Heap.IsTuple (Shared.heap ⟨hp,g,d,tk,os⟩) a items:=⟨_,ha,rfl,n,rfl⟩
  wp_walk using wpAny_loadPart' ha
  refine wpAny_stack_any λ st=>qa1 ?_;split
  ·rename_i c _ _ _ _ _
   cases (c==Value.type "enumerate")<;>(wp_walk using wpAny_loadPart' ha,wpAny_pyIter_tuple hT;exact ⟨_,rfl,h⟩)
  ·wp_walk using wpAny_loadPart' ha,wpAny_pyIter_tuple hT
   exact ⟨_,rfl,h⟩
section
variable {prog:Program}{A:Around}
theorem Ig {k:Bool}{items:Array Value}(hl:jX k s.heap a items)
  (h:∀h',IsEnum h' (s.heap.objs.size+1) s.heap.objs.size 0 .none->jx k h' s.heap.objs.size a 0->(∀b o,s.heap.get? b=some o->h'.get? b=some o)->Q (.ref (s.heap.objs.size+1)) { s with heap:=h' }):
  wpAny (model prog w) A (call (.type "enumerate") [.ref a]) Q E s:=by
 cases k with
 | true=>exact call_enumerate_list hl λ h' e1 e2 _ e4=>h h' e1 e2 e4
 | false=>
  obtain ⟨⟨c,dd,dt,sl⟩,ha,hc,n,hd⟩:=(show s.heap.IsTuple a items from hl)
  replace hc:c=.type "tuple" := hc
  replace hd:dt=.seq items n:=hd
  subst hc hd;refine callType_new F.called_enumerate (by decide) (F.typeCall_enumerate_1 _) (F.newCall_enumerate_1 _) (λ obj=>F.args_object_init_2 obj _) F.entry_enumerate_new (Mb a items n dd sl) ⟨ha,?_⟩
  have hz:(WJ s.heap false a).objs.size=s.heap.objs.size+1:=size_push ..;have he:IsEnum (PX s.heap false a) (WJ s.heap false a).objs.size s.heap.objs.size 0 .none:=get?_push_size _ rfl;show _/\_;rw [hz] at he ⊢;exact ⟨⟨_,he,rfl⟩,h _ he (.mk ⟨_,get?_push_of_some _ (get?_push_size _ rfl),rfl,rfl⟩) λ b o x=>get?_push_of_some _ (get?_push_of_some _ x)⟩
end
section
variable {a b:Expr}{m:Ev}
noncomputable def Bg (K:Frag)(ta:TA):TI:=λ σ H R=>ta σ H λ vs H1=>∃p k xs,vs=[.ref p]/\kf k K H1 p xs/\R (Vy k K p) H1
theorem boot_enumerate:bootBuiltins "enumerate" = some (.type "enumerate"):=by rfl
theorem boot_zip:bootBuiltins "zip" = some (.type "zip"):=by rfl
theorem Ee {ta:TA}(hg:Gl X "enumerate")(hm:X.mg "enumerate" = none)(ha:PA X [a] ta)(hs:starEach [a] X.env=[(false,eval a X.env)]):
  PI X (.Tuple elts kk tpos) (.Call (.Name "enumerate" p) [a] [] pos) (Bg X.K ta):=by
 intro pins s σ H R I h;refine Call_ (Z1 I hg hm boot_enumerate (PyProof.Rows.callWith_type1 (zP (ha pos pins s σ H _ I h) λ us s1 ⟨vs,H1,I1,r1,q1⟩=>?_) hs rfl));obtain ⟨p,k,xs,rfl,hq,q⟩:=q1;obtain ⟨u,rfl,ru⟩:=r1.one;cases ru;obtain ⟨its,rv,sq,hz⟩:=I1.sq hq;refine Ig sq λ h' e1 e2 e3=>wpAny_pyIter_enum e1 ?_;refine ⟨s1.heap.objs.size+1,[s1.heap.objs.size+1,s1.heap.objs.size],_,_,H1,rfl,I1.kept (t':=s1.toks) e3,Lo k p _ _,⟨⟨_,by simpa using e1⟩,e2,Nat.succ_ne_self _⟩,λ b hb=>?_,q⟩
 have hb':s1.heap.objs.size<=b:=by
  rcases qa3.mp hb with z | z
  ·rw [z];exact le_succ _
  ·rw [qa7.mp z];exact le_refl _
 exact I1.fpOk hb' (I1.hok.fresh hb')
noncomputable def atEnd (ws:List W)(i:Nat)(f:W->W):Option (Option W):=match ws[i]? with
 | some x=>some (some (f x))
 | none=>if ws.length=i then some none else none
noncomputable def yP (w:W)(n:Nat):jy:=⟨λ A i=>match zO w A with
 | some ws=>atEnd ws i λ x=>.tup [.int i,x]
 | none=>none,n⟩
noncomputable def Z7 (w:W):Bool:=match w with
 | .tup _=>false
 | _=>true
theorem KQ {K:Frag}{A:Hx}{w:W}{ws:List W}(S:zJ K φ A H)(q:RV K φ H w v)(e:zO w A=some ws):∃p ys,v=.ref p/\kf (Z7 w) K H p ys/\zE K φ H ws ys:=by
 cases w with
 | tup us=>cases e;obtain ⟨a,vs,ea,t,r⟩:=q;exact ⟨a,vs,ea,t,r⟩
 | ref n=>
  obtain ⟨a,ea,f⟩:=q;unfold zO at e;dsimp only at e;cases ec:A[n]? with
  | none=>rw [ec] at e;cases e
  | some o=>
   rw [ec] at e;obtain ⟨a',e3,r⟩:=S.ob n o ec;rw [f] at e3;cases e3;cases o with
   | lst xs=>cases e;obtain ⟨ys',h1,h2⟩:=r;exact ⟨a,ys',ea,qZ.of h1,h2⟩
   | ro xs=>cases e;obtain ⟨ys',h1,h2⟩:=r;exact ⟨a,ys',ea,h1.sq,h2⟩
   | dct xs=>cases e
   | tab _ _=>cases e
 | non=>cases e
 | bl _=>cases e
 | clo _ _ _=>cases e
 | xc _=>cases e
 | int _=>cases e
 | str _=>cases e
theorem GR {K:Frag}{φ':List Addr}{A':Hx}{H':Hp}{w:W}{ws':List W}{p:Addr}(q:RV K φ H w (.ref p))(lw:gE K φ H φ' H')(S':zJ K φ' A' H')(e':zO w A'=some ws'):∃ys',kf (Z7 w) K H' p ys'/\zE K φ' H' ws' ys':=by
 obtain ⟨p',ys,ep,h1,h2⟩:=KQ S' (RV.monoW lw q) e';cases ep;exact ⟨ys,h1,h2⟩
theorem BJ {K:Frag}{w:W}{p:Addr}(q:RV K φ H w (.ref p)):Zd K φ H (yP w n) (Vy (Z7 w) K p):=λ i φ' H' A' lw S'=>by
 unfold yP;dsimp only;cases es:zO w A' with
 | none=>exact ⟨λ _ z=>(by cases z),λ z=>(by cases z)⟩
 | some ws=>
  dsimp only;obtain ⟨ys,h1,h2⟩:=GR q lw S' es;unfold atEnd;cases ei:ws[i]? with
  | none=>
   dsimp only
   by_cases hl:ws.length=i
   ·rw [if_pos hl]
    exact ⟨λ _ z=>(by cases z),λ _=>⟨ys,h1,by rw [<- h2.length];exact hl⟩⟩
   ·rw [if_neg hl]
    exact ⟨λ _ z=>(by cases z),λ z=>(by cases z)⟩
  | some x=>
   dsimp only;refine ⟨λ u z=>?_,λ z=>(by cases z)⟩
   cases z;obtain ⟨y,e1,e2⟩:=h2.get ei;refine ⟨⟨ys,y,h1,e1⟩,λ xv H1 ⟨t,y',hy,ht,ex,eH⟩=>?_⟩;subst ex eH
   have:=hy ys h1
   rw [e1] at this;cases this;obtain ⟨a1,a2,a3⟩:=Jx S' ht (.cons (w:=.int i) (v:=.int i) rfl (.one e2));exact ⟨a1,a2,a3⟩
noncomputable def ko (m:Ev):Ei:=λ ρ A=>(m ρ A).bind λ w A1=>match zO w A1 with
 | some ws=>.ok (yP w ws.length) A1
 | none=>.bad
end
section
variable {prog:Program}{A:Around}{z TI TO i1 i2 l1 l2:Addr}{n1 n2:Nat}{c1 c2:Bool}{xs ys:Array Value}{x y a b:Value}
theorem Eo (D:ZipApart z TI TO i1 i2 l1 l2)(hz:IsZip s.heap z TI TO .none)(hTI:IsPair s.heap TI (.ref i1) (.ref i2))(hTO:IsPair s.heap TO a b)
  (g1:jx c1 s.heap i1 l1 n1)(g2:jx c2 s.heap i2 l2 n2)(s1:jX c1 s.heap l1 xs)(s2:jX c2 s.heap l2 ys)(hx:xs[n1]? =some x)(hy:ys[n2]? =some y)
  (hQ:∀h',IsZip h' z TI TO (rawInt s.heap.objs.size)->IsPair h' TI (.ref i1) (.ref i2)->IsPair h' TO x y->jx c1 h' i1 l1 (n1+1)->jx c2 h' i2 l2 (n2+1)->IsPair h' s.heap.objs.size x y->
   (∀c o,c≠z->c≠TO->c≠i1->c≠i2->s.heap.get? c=some o->h'.get? c=some o)->Q (.ref s.heap.objs.size) { s with heap:=h' }):
  wpAny (model prog w) A (Builtin.«zip.__next__» ⟨[.ref z],[]⟩) (λ fin s'=>∃v,fin=.done (.ret v)/\Q v s') E s:=by
 show wpAny _ _ (field (.ref z) 2 >>= _) _ _ _;refine qa0 (wpAny_field hz rfl (x:=.bool false) rfl ?_);show wpAny _ _ (field (.ref z) 3 >>= _) _ _ _;refine qa0 (wpAny_field hz rfl (x:=.ref TI) rfl (qa0 (wpAny_seqItems hTI rfl ?_)));show wpAny _ _ (Builtin.SmallTypes.ownedTupleIsFree (.ref z) >>= _) _ _ _;refine qa0 ?_;unfold Builtin.SmallTypes.ownedTupleIsFree;refine qa0 (wpAny_field hz rfl (x:=.none) rfl (qa1 ?_));simp only [if_true];refine qa0 (wpAny_rule (qa0 (wpAny_field hz rfl (x:=.ref TO) rfl ?_)));refine qa0 (wpAny_setField_rec hz (by simp) λ ha za sa=>?_);replace za:IsZip ha z TI TO .ellipsis:=za
 refine qa0 ?_;simp only [List.zipIdx_cons,List.zipIdx_nil,forIn_cons,forIn_nil];refine qa0 (qa0 (wpAny_onRaise ?_));show wpAny _ _ (Builtin.SmallTypes.nextOf (.ref i1) >>= _) _ _ _;refine qa0 (K6 (g1.to λ o e=>sa.extBut _ _ D.i1z e) (s1.to λ o e=>sa.extBut _ _ D.l1z e) hx λ hb gb sb=>qa1 ?_);have tb:IsPair hb TO a b:=sb.extBut _ _ D.TOi1 (sa.extBut _ _ D.TOz hTO);refine qa0 (wpAny_seqItems tb rfl (qa0 (wpAny_updateSeq_pair tb λ hc tc sc=>qa0 (wpAny_letGo (qa1 ?_)))));replace tc:IsPair hc TO x b:=tc;refine qa0 (qa0 (wpAny_onRaise ?_));show wpAny _ _ (Builtin.SmallTypes.nextOf (.ref i2) >>= _) _ _ _;have up:∀c o,c≠z->c≠i1->c≠TO->s.heap.get? c=some o->hc.get? c=some o:=λ c o q1 q2 q3 e=>sc.extBut _ _ q3 (sb.extBut _ _ q2 (sa.extBut _ _ q1 e));refine qa0 (K6 (g2.to λ o e=>up _ o D.i2z D.i12.symm D.TOi2.symm e) (s2.to λ o e=>up _ o D.l2z D.l2i1 D.l2TO e) hy λ hd gd sd=>qa1 ?_);have td:IsPair hd TO x b:=sd.extBut _ _ D.TOi2 tc;refine qa0 (wpAny_seqItems td rfl (qa0 (wpAny_updateSeq_pair td λ he te se=>qa0 (wpAny_letGo (qa1 (qa1 ?_))))));replace te:IsPair he TO x y:=te;refine qa0 (wpAny_seqItems te rfl (qa0 (wpAny_newTuple ?_)));have hsz:he.objs.size=s.heap.objs.size:=by rw [se.1,sd.1,sc.1,sb.1,sa.1]
 have ze:IsZip he z TI TO .ellipsis:=se.extBut _ _ D.TOz.symm (sd.extBut _ _ D.i2z.symm (sc.extBut _ _ D.TOz.symm (sb.extBut _ _ D.i1z.symm za)));have ke:∀c o,c≠z->c≠TO->c≠i1->c≠i2->s.heap.get? c=some o->he.get? c=some o:=λ c o q1 q2 q3 q4 e=>se.extBut _ _ q2 (sd.extBut _ _ q4 (up c o q1 q3 q2 e));have ge1:jx c1 he i1 l1 (n1+1):=((gb.to λ o e=>sc.extBut _ _ D.TOi1.symm e).to λ o e=>sd.extBut _ _ D.i12 e).to λ o e=>se.extBut _ _ D.TOi1.symm e;have ge2:jx c2 he i2 l2 (n2+1):=gd.to λ o e=>se.extBut _ _ D.TOi2.symm e;have zlt:z<he.objs.size:=lt_size ze;show wpAny _ _ (Builtin.SmallTypes.ownedTupleHandOut (.ref z) (.ref he.objs.size) >>= _) _ _ _;refine qa0 ?_;unfold Builtin.SmallTypes.ownedTupleHandOut;have zf:IsZip (he.push { cls:=.type "tuple",data:=.seq #[x,y] }) z TI TO .ellipsis:=get?_push_of_some _ ze;refine qa0 (wpAny_setField_rec zf (by simp) λ hg zg sg=>?_);replace zg:IsZip hg z TI TO (rawInt he.objs.size):=zg
 refine wpAny_setField_rec zg (by simp) λ hk zk sk=>?_;replace zk:IsZip hk z TI TO (rawInt he.objs.size):=zk
 have fin:∀c o,c≠z->he.get? c=some o->hk.get? c=some o:=λ c o q e=>sk.extBut _ _ q (sg.extBut _ _ q (get?_push_of_some _ e));have tk:IsPair hk he.objs.size x y:=sk.extBut _ _ (ne_of_gt zlt) (sg.extBut _ _ (ne_of_gt zlt) (get?_push_size _ rfl));rw [hsz] at zk tk;refine qa1 ⟨_,rfl,?_⟩;show Q (.ref he.objs.size) _;rw [hsz];exact hQ hk zk (fin _ _ D.TIz (ke _ _ D.TIz D.TITO D.TIi1 D.TIi2 hTI)) (fin _ _ D.TOz te) (ge1.to λ o e=>fin _ o D.i1z e) (ge2.to λ o e=>fin _ o D.i2z e) tk λ c o q1 q2 q3 q4 e=>fin c o q1 (ke c o q1 q2 q3 q4 e)
theorem Dw {Q:Fin->Shared->Prop}(hh:A.handled=none)(D:ZipApart z TI TO i1 i2 l1 l2)(hz:IsZip s.heap z TI TO .none)(hTI:IsPair s.heap TI (.ref i1) (.ref i2))(hTO:IsPair s.heap TO a b)
  (g1:jx c1 s.heap i1 l1 n1)(g2:jx c2 s.heap i2 l2 n2)(s1:jX c1 s.heap l1 xs)(s2:jX c2 s.heap l2 ys)(hend:xs[n1]? =none∨ys[n2]? =none)
  (hE:∀h' e,(∀c o,c≠z->c≠TO->c≠i1->c≠i2->s.heap.get? c=some o->h'.get? c=some o)->(∃o,h'.get? e=some o/\o.cls=.type "StopIteration")->E (.ref e) { s with heap:=h' }):
  wpAny (model prog w) A (Builtin.«zip.__next__» ⟨[.ref z],[]⟩) Q E s:=by
 show wpAny _ _ (field (.ref z) 2 >>= _) _ _ _;refine qa0 (wpAny_field hz rfl (x:=.bool false) rfl ?_);show wpAny _ _ (field (.ref z) 3 >>= _) _ _ _;refine qa0 (wpAny_field hz rfl (x:=.ref TI) rfl (qa0 (wpAny_seqItems hTI rfl ?_)));show wpAny _ _ (Builtin.SmallTypes.ownedTupleIsFree (.ref z) >>= _) _ _ _;refine qa0 ?_;unfold Builtin.SmallTypes.ownedTupleIsFree;refine qa0 (wpAny_field hz rfl (x:=.none) rfl (qa1 ?_));simp only [if_true];refine qa0 (wpAny_rule (qa0 (wpAny_field hz rfl (x:=.ref TO) rfl ?_)));refine qa0 (wpAny_setField_rec hz (by simp) λ ha za sa=>?_);replace za:IsZip ha z TI TO .ellipsis:=za
 refine qa0 ?_;simp only [List.zipIdx_cons,List.zipIdx_nil,forIn_cons,forIn_nil];refine qa0 (qa0 (wpAny_onRaise ?_));show wpAny _ _ (Builtin.SmallTypes.nextOf (.ref i1) >>= _) _ _ _;have ga:=g1.to (h':=ha) λ o e=>sa.extBut _ _ D.i1z e;have ya:=s1.to (h':=ha) λ o e=>sa.extBut _ _ D.l1z e;cases hx:xs[n1]? with
 | none=>
  refine qa0 (XQ hh ga ya hx λ hb e sb he=>?_);obtain ⟨oe,hoe,hce⟩:=he;have zb:IsZip hb z TI TO .ellipsis:=sb _ _ D.i1z.symm za;have hez:e≠z:=λ q=>by subst q;rw [zb] at hoe;cases hoe;simp at hce
  exact wpAny_setField_rec zb (by simp) λ hc _ sc=>hE hc e (λ c o q1 _ q3 _ q=>sc.extBut _ _ q1 (sb _ _ q3 (sa.extBut _ _ q1 q))) ⟨oe,sc.extBut _ _ hez hoe,hce⟩
 | some x=>
  have hy:ys[n2]? =none:=by
   rcases hend with q | q
   ·rw [hx] at q;cases q
   ·exact q
  refine qa0 (K6 ga ya hx λ hb gb sb=>qa1 ?_);have tb:IsPair hb TO a b:=sb.extBut _ _ D.TOi1 (sa.extBut _ _ D.TOz hTO);refine qa0 (wpAny_seqItems tb rfl (qa0 (wpAny_updateSeq_pair tb λ hc tc sc=>qa0 (wpAny_letGo (qa1 ?_)))));refine qa0 (qa0 (wpAny_onRaise ?_));show wpAny _ _ (Builtin.SmallTypes.nextOf (.ref i2) >>= _) _ _ _;have up:∀c o,c≠z->c≠i1->c≠TO->s.heap.get? c=some o->hc.get? c=some o:=λ c o q1 q2 q3 e=>sc.extBut _ _ q3 (sb.extBut _ _ q2 (sa.extBut _ _ q1 e));refine qa0 (XQ hh (g2.to λ o e=>up _ o D.i2z D.i12.symm D.TOi2.symm e) (s2.to λ o e=>up _ o D.l2z D.l2i1 D.l2TO e) hy λ hd e sd he=>?_);obtain ⟨oe,hoe,hce⟩:=he;have zd:IsZip hd z TI TO .ellipsis:=sd _ _ D.i2z.symm (sc.extBut _ _ D.TOz.symm (sb.extBut _ _ D.i1z.symm za));have hez:e≠z:=λ q=>by subst q;rw [zd] at hoe;cases hoe;simp at hce
  exact wpAny_setField_rec zd (by simp) λ hf _ sf=>hE hf e (λ c o q1 q2 q3 q4 q=>sf.extBut _ _ q1 (sd _ _ q4 (up c o q1 q3 q2 q))) ⟨oe,sf.extBut _ _ hez hoe,hce⟩
theorem EE {Q:Option Value->Shared->Prop}(D:ZipApart z TI TO i1 i2 l1 l2)(hz:IsZip s.heap z TI TO .none)(hTI:IsPair s.heap TI (.ref i1) (.ref i2))(hTO:IsPair s.heap TO a b)
  (g1:jx c1 s.heap i1 l1 n1)(g2:jx c2 s.heap i2 l2 n2)(s1:jX c1 s.heap l1 xs)(s2:jX c2 s.heap l2 ys)(hx:xs[n1]? =some x)(hy:ys[n2]? =some y)
  (hQ:∀h',IsZip h' z TI TO (rawInt s.heap.objs.size)->IsPair h' TI (.ref i1) (.ref i2)->IsPair h' TO x y->jx c1 h' i1 l1 (n1+1)->jx c2 h' i2 l2 (n2+1)->IsPair h' s.heap.objs.size x y->
   (∀c o,c≠z->c≠TO->c≠i1->c≠i2->s.heap.get? c=some o->h'.get? c=some o)->Q (some (.ref s.heap.objs.size)) { s with heap:=h' }):wpAny (model prog w) A (pyNext (.ref z)) Q E s:=by
 have hT:s.TypeIs (.ref z) "zip" := ⟨_,hz,rfl⟩;unfold pyNext;exact qa0 (wpAny_attempt (wpAny_callSpecial?_slot (name:=Str.ofString "__next__") hT F.slot_zip_next (wpAny_call_entry F.slot_zip_next hT F.entry_zip_next
  (Eo D hz hTI hTO g1 g2 s1 s2 hx hy λ h' q1 q2 q3 q4 q5 q6 q7=>qa1 (hQ h' q1 q2 q3 q4 q5 q6 q7)) (F.args_zip_next_1 _))))
theorem EA {Q:Option Value->Shared->Prop}(hh:A.handled=none)(D:ZipApart z TI TO i1 i2 l1 l2)(hz:IsZip s.heap z TI TO .none)(hTI:IsPair s.heap TI (.ref i1) (.ref i2))(hTO:IsPair s.heap TO a b)
  (g1:jx c1 s.heap i1 l1 n1)(g2:jx c2 s.heap i2 l2 n2)(s1:jX c1 s.heap l1 xs)(s2:jX c2 s.heap l2 ys)(hend:xs[n1]? =none∨ys[n2]? =none)
  (hQ:∀h',(∀c o,c≠z->c≠TO->c≠i1->c≠i2->s.heap.get? c=some o->h'.get? c=some o)->Q none { s with heap:=h' }):wpAny (model prog w) A (pyNext (.ref z)) Q E s:=by
 have hT:s.TypeIs (.ref z) "zip" := ⟨_,hz,rfl⟩;unfold pyNext;refine qa0 (wpAny_attempt (wpAny_callSpecial?_slot (name:=Str.ofString "__next__") hT F.slot_zip_next (wpAny_call_entry F.slot_zip_next hT F.entry_zip_next (Dw hh D hz hTI hTO g1 g2 s1 s2 hend λ h' e hk he=>?_) (F.args_zip_next_1 _))));obtain ⟨o,ho,hc⟩:=he;exact qa0 (wpAny_isInstance (T := "StopIteration") (b:=true) ⟨o,ho,hc⟩ isSubtype_stop (qa1 (hQ _ hk)))
end
noncomputable abbrev WA (h:Heap)(c1:Bool)(l1:Addr):Heap:=h.push { cls:=.type (QB c1),data:=.fields #[.ref l1,.int 0 0] }
noncomputable abbrev WG (h:Heap)(c1 c2:Bool)(l1 l2:Addr):Heap:=(WA h c1 l1).push { cls:=.type (QB c2),data:=.fields #[.ref l2,.int 0 0] }
noncomputable abbrev WD (h:Heap)(c1 c2:Bool)(l1 l2:Addr):Heap:=(WG h c1 c2 l1 l2).push { cls:=.type "tuple",data:=.seq #[.ref h.objs.size,.ref (WA h c1 l1).objs.size] }
noncomputable abbrev WM (h:Heap)(c1 c2:Bool)(l1 l2:Addr):Heap:=(WD h c1 c2 l1 l2).push { cls:=.type "tuple",data:=.seq #[.none,.none] }
noncomputable abbrev JJ (h:Heap)(c1 c2:Bool)(l1 l2:Addr):Heap:=(WM h c1 c2 l1 l2).push { cls:=.type "zip",data:=.fields #[.none,.bool false,.bool false,.ref (WG h c1 c2 l1 l2).objs.size,.ref (WD h c1 c2 l1 l2).objs.size] }
theorem M3 (c1 c2:Bool)(l1 l2:Addr)(xs ys:Array Value):
  Meets (Builtin.«zip.__new__» ⟨[.type "zip",.ref l1,.ref l2],[]⟩) (λ _ R s=>jX c1 s.heap l1 xs/\jX c2 s.heap l2 ys/\R (.ok (.ret (.ref (WM s.heap c1 c2 l1 l2).objs.size))) { s with heap:=JJ s.heap c1 c2 l1 l2 }):=
 .of_wp λ prog w A R s h=>by
  obtain ⟨hp,g,d,tk,os⟩:=s;obtain ⟨q1,q2,h⟩:=h;have hsub:=sub_zip;have k1:jX c1 (Shared.heap ⟨hp,g,d,tk,os⟩) l1 xs:=q1;have k2:jX c2 (Shared.heap ⟨hp.push { cls:=.type (QB c1),data:=.fields #[.ref l1,.int 0 0] },g,d,tk,os⟩) l2 ys:=q2.to λ o e=>get?_push_of_some _ e
  wp_walk using RG k1,RG k2
  exact ⟨_,rfl,h⟩
section
variable {prog:Program}{A:Around}{c1 c2:Bool}{l1 l2:Addr}{xs ys:Array Value}
theorem Io (s1:jX c1 s.heap l1 xs)(s2:jX c2 s.heap l2 ys)
  (h:∀h' n,n=s.heap.objs.size->IsZip h' (n+4) (n+2) (n+3) .none->IsPair h' (n+2) (.ref n) (.ref (n+1))->IsPair h' (n+3) .none .none->jx c1 h' n l1 0->jx c2 h' (n+1) l2 0->
   (∀c o,s.heap.get? c=some o->h'.get? c=some o)->Q (.ref (n+4)) { s with heap:=h' }):wpAny (model prog w) A (call (.type "zip") [.ref l1,.ref l2]) Q E s:=by
 refine callType_new F.called_zip (by decide) (F.typeCall_zip_2 _ _) (F.newCall_zip_2 _ _) (λ obj=>F.args_object_init_3 obj _ _) F.entry_zip_new (M3 c1 c2 l1 l2 xs ys) ⟨s1,s2,?_⟩
 have z1:(WA s.heap c1 l1).objs.size=s.heap.objs.size+1:=size_push ..;have z2:(WG s.heap c1 c2 l1 l2).objs.size=s.heap.objs.size+2:=by rw [size_push,z1]
 have z3:(WD s.heap c1 c2 l1 l2).objs.size=s.heap.objs.size+3:=by rw [size_push,z2]
 have z4:(WM s.heap c1 c2 l1 l2).objs.size=s.heap.objs.size+4:=by rw [size_push,z3]
 have y5:(JJ s.heap c1 c2 l1 l2).get? (WM s.heap c1 c2 l1 l2).objs.size=some _:=get?_push_size _ rfl;have y4:(JJ s.heap c1 c2 l1 l2).get? (WD s.heap c1 c2 l1 l2).objs.size=some _:=get?_push_of_some _ (get?_push_size _ rfl);have y3:(JJ s.heap c1 c2 l1 l2).get? (WG s.heap c1 c2 l1 l2).objs.size=some _:=get?_push_of_some _ (get?_push_of_some _ (get?_push_size _ rfl));have y2:(JJ s.heap c1 c2 l1 l2).get? (WA s.heap c1 l1).objs.size=some _:=get?_push_of_some _ (get?_push_of_some _ (get?_push_of_some _ (get?_push_size _ rfl)));have y1:(JJ s.heap c1 c2 l1 l2).get? s.heap.objs.size=some _:=get?_push_of_some _ (get?_push_of_some _ (get?_push_of_some _ (get?_push_of_some _ (get?_push_size _ rfl))));show _/\_;rw [z2,z3,z4] at y5;rw [z1,z2] at y3;rw [z3] at y4;rw [z1] at y2;rw [z4];exact ⟨⟨_,y5,rfl⟩,h _ _ rfl y5 y3 y4 (.mk ⟨_,y1,rfl,rfl⟩) (.mk ⟨_,y2,rfl,rfl⟩) λ c o q=>
  get?_push_of_some _ (get?_push_of_some _ (get?_push_of_some _ (get?_push_of_some _ (get?_push_of_some _ q))))⟩
end
noncomputable def VD (c1 c2:Bool)(K:Frag)(p q:Addr):It:=
 ⟨λ i H=>∃xs ys x y,kf c1 K H p xs/\kf c2 K H q ys/\xs[i]? =some x/\ys[i]? =some y,
  λ i H v H'=>∃t x y,(∀xs,kf c1 K H p xs->xs[i]? =some x)/\(∀ys,kf c2 K H q ys->ys[i]? =some y)/\H t=none/\v=.ref t/\H'=upd H t (.tup [x,y]),
  λ i H=>∃xs ys,kf c1 K H p xs/\kf c2 K H q ys/\(xs[i]? =none∨ys[i]? =none)⟩
theorem Hn {K:Frag}(c1 c2:Bool)(p q z TI TO i1 i2:Addr)(D:ZipApart z TI TO i1 i2 p q):
  Turn P w K (.Tuple elts kk tpos) (VD c1 c2 K p q) [z,TI,TO,i1,i2] z (λ i h=>IsZip h z TI TO .none/\IsPair h TI (.ref i1) (.ref i2)/\(∃a b,IsPair h TO a b)/\jx c1 h i1 p i/\jx c2 h i2 q i) where
 mem:=by simp
 obj:=λ i h st b hb=>by
  obtain ⟨hz,hTI,⟨a',b',hTO⟩,g1,g2⟩:=st;simp only [mem_cons,not_mem_nil,or_false] at hb;rcases hb with rfl | rfl | rfl | rfl | rfl
  ·exact ⟨_,hz,λ v e=>nomatch e⟩
  ·exact ⟨_,hTI,λ v e=>nomatch e⟩
  ·exact ⟨_,hTO,λ v e=>nomatch e⟩
  ·obtain ⟨o,ho,_,hd⟩:=g1.ob;exact ⟨o,ho,λ v e=>by rw [hd] at e;cases e⟩
  ·obtain ⟨o,ho,_,hd⟩:=g2.ob;exact ⟨o,ho,λ v e=>by rw [hd] at e;cases e⟩
 keep:=λ i h h' ⟨hz,hTI,⟨a',b',hTO⟩,g1,g2⟩ k=>⟨k z (by simp) _ hz,k TI (by simp) _ hTI,⟨a',b',k TO (by simp) _ hTO⟩,g1.to λ o e=>k i1 (by simp) o e,g2.to λ o e=>k i2 (by simp) o e⟩
 item:=by
  intro X hP hw hK hc i pins s σ H E I hf st hg;subst hP hw hK;obtain ⟨hz,hTI,⟨a',b',hTO⟩,g1,g2⟩:=st;obtain ⟨xs,ys,x,y,h1,h2,ex,ey⟩:=hg;obtain ⟨its1,r1,sq1,_⟩:=I.sq h1;obtain ⟨its2,r2,sq2,_⟩:=I.sq h2;obtain ⟨u1,eu1,ru1⟩:=r1.get ex;obtain ⟨u2,eu2,ru2⟩:=r2.get ey;refine EE D hz hTI hTO g1 g2 sq1 sq2 (x:=u1) (y:=u2) (by simpa using eu1) (by simpa using eu2) λ hh z1 z2 z3 z4 z5 z6 kp=>?_
  refine ⟨_,rfl,wpAny_letOwnedTupleGo_zip z1 λ hk zk sk=>?_⟩;have lt:∀{c o},s.heap.get? c=some o->c≠s.heap.objs.size:=λ e=>ne_of_lt (lt_size e);have T2:IsPair hk s.heap.objs.size u1 u2:=sk.extBut _ _ (lt hz).symm z6;have fre:∀b∈[z,TI,TO,i1,i2],b≠s.heap.objs.size:=λ b hb=>by
   simp only [mem_cons,not_mem_nil,or_false] at hb;rcases hb with rfl | rfl | rfl | rfl | rfl
   ·exact lt hz
   ·exact lt hTI
   ·exact lt hTO
   ·obtain ⟨o,ho,_⟩:=g1.ob;exact lt ho
   ·obtain ⟨o,ho,_⟩:=g2.ob;exact lt ho
  refine ⟨.ref s.heap.objs.size,upd H s.heap.objs.size (.tup [x,y]),?_,rfl,⟨s.heap.objs.size,x,y,λ zs hzs=>by rw [I.sq_inj hzs h1];exact ex,λ zs hzs=>by rw [I.sq_inj hzs h2];exact ey,I.hok.fresh (le_refl _),rfl,rfl⟩,
   ⟨zk,sk.extBut _ _ D.TIz z2,⟨_,_,sk.extBut _ _ D.TOz z3⟩,z4.to λ o e=>sk.extBut _ _ D.i1z e,z5.to λ o e=>sk.extBut _ _ D.i2z e⟩,λ b hb=>?_⟩
  ·refine I.spun (fp:=[z,TI,TO,i1,i2]) (t':=s.toks) (λ b o hb eo=>?_) hf (le_refl _) ?_
   ·exact sk.extBut _ _ (λ e=>hb (by simp [e])) (kp b o (λ e=>hb (by simp [e])) (λ e=>hb (by simp [e])) (λ e=>hb (by simp [e])) (λ e=>hb (by simp [e])) eo)
   ·exact ⟨by show 2<=sizeLine;decide,[u1,u2],.cons ru1 (.cons ru2 .nil),_,T2,⟨rfl,rfl⟩,0,rfl⟩
  ·show upd H s.heap.objs.size _ b=none
   rw [qf (fre b hb)];exact (hf b hb).1
 done:=by
  intro X hP hw hK hc i pins s σ H E I hf st hg;subst hP hw hK;obtain ⟨hz,hTI,⟨a',b',hTO⟩,g1,g2⟩:=st;obtain ⟨xs,ys,h1,h2,hend⟩:=hg;obtain ⟨its1,r1,sq1,_⟩:=I.sq h1;obtain ⟨its2,r2,sq2,_⟩:=I.sq h2;have hend':its1.toArray[i]? =none∨its2.toArray[i]? =none:=by
   rcases hend with e | e
   ·exact .inl (by simpa using r1.none_of e)
   ·exact .inr (by simpa using r2.none_of e)
  exact EA (I.ok.hd hc) D hz hTI hTO g1 g2 sq1 sq2 hend' λ hh kp=>⟨rfl,I.spun0 (fp:=[z,TI,TO,i1,i2]) (t':=s.toks) (λ b o hb eo=>kp b o (λ e=>hb (by simp [e])) (λ e=>hb (by simp [e])) (λ e=>hb (by simp [e])) (λ e=>hb (by simp [e])) eo) hf⟩
 self:=λ _ _ _ _ _ st h=>wpAny_pyIter_zip st.1 h
section
variable {a b:Expr}{m:Ev}
noncomputable def AL (K:Frag)(ta:TA):TI:=λ σ H R=>ta σ H λ vs H1=>∃p q c1 c2 xs ys,vs=[.ref p,.ref q]/\kf c1 K H1 p xs/\kf c2 K H1 q ys/\R (VD c1 c2 K p q) H1
theorem Dr {ta:TA}(hg:Gl X "zip")(hm:X.mg "zip" = none)(ha:PA X [a,b] ta)(hs:starEach [a,b] X.env=(false,eval a X.env)::starEach [b] X.env)(hp:(backTo pos (starEach [b] X.env)).any (·.1)=false):
  PI X (.Tuple elts kk tpos) (.Call (.Name "zip" p) [a,b] [] pos) (AL X.K ta):=by
 intro pins s σ H R I h;refine Call_ (Z1 I hg hm boot_zip (PyProof.Rows.callWith_type1 (zP (ha pos pins s σ H _ I h) λ us s1 ⟨vs,H1,I1,r1,q1⟩=>?_) hs hp));obtain ⟨p,q,c1,c2,xs,ys,rfl,h1,h2,hR⟩:=q1;obtain ⟨u1,u2,rfl,ru1,ru2⟩:=r1.two;cases ru1;cases ru2;obtain ⟨its1,rv1,sq1,_⟩:=I1.sq h1;obtain ⟨its2,rv2,sq2,_⟩:=I1.sq h2;obtain ⟨op,hop,_⟩:=sq1.ob;obtain ⟨oq,hoq,_⟩:=sq2.ob;have lp:p<s1.heap.objs.size:=lt_size hop;have lq:q<s1.heap.objs.size:=lt_size hoq;refine Io sq1 sq2 λ h' n en z1 z2 z3 z4 z5 kp=>wpAny_pyIter_zip z1 ?_;rw [<- en] at lp lq;have ne1:∀(i j:Nat),i≠j->n+i≠n+j:=λ i j h e=>h (Nat.add_left_cancel e);have ne2:∀(c:Nat) (i:Nat),c<n->c≠n+i:=λ c i h e=>absurd h (by rw [e];exact Nat.not_lt.mpr (le_add_right n i))
 have D:ZipApart (n+4) (n+2) (n+3) (n+0) (n+1) p q:=⟨ne1 2 4 (by decide),ne1 3 4 (by decide),ne1 0 4 (by decide),ne1 1 4 (by decide),ne1 2 3 (by decide),ne1 2 0 (by decide),ne1 2 1 (by decide),ne1 3 0 (by decide),ne1 3 1 (by decide),ne1 0 1 (by decide),
  ne2 p 4 lp,ne2 p 3 lp,ne2 p 0 lp,ne2 p 1 lp,ne2 q 4 lq,ne2 q 3 lq,ne2 q 0 lq,ne2 q 1 lq⟩
 refine ⟨n+4,[n+4,n+2,n+3,n,n+1],_,_,H1,rfl,I1.kept (t':=s1.toks) kp,Hn c1 c2 p q _ _ _ _ _ D,⟨z1,z2,⟨_,_,z3⟩,z4,z5⟩,λ c hc=>?_,hR⟩;have hc':s1.heap.objs.size<=c:=by
  rw [<- en];simp only [mem_cons,not_mem_nil,or_false] at hc;rcases hc with rfl | rfl | rfl | rfl | rfl
  ·exact le_add_right _ _
  ·exact le_add_right _ _
  ·exact le_add_right _ _
  ·exact le_refl _
  ·exact le_add_right _ _
 exact I1.fpOk hc' (I1.hok.fresh hc')
noncomputable def zip2:Option W->Option W->Option W
 | some x,some y=>some (.tup [x,y])
 | _,_=>none
noncomputable def QK (w w':W)(n:Nat):jy:=⟨λ A i=>match zO w A,zO w' A with
 | some us,some vs=>some (zip2 us[i]? vs[i]?)
 | _,_=>none,n⟩
theorem Ba {K:Frag}{w w':W}{p p':Addr}(q:RV K φ H w (.ref p))(q':RV K φ H w' (.ref p')):Zd K φ H (QK w w' n) (VD (Z7 w) (Z7 w') K p p'):=λ i φ' H' A' lw S'=>by
 unfold QK;dsimp only;cases es:zO w A' with
 | none=>exact ⟨λ _ z=>(by cases z),λ z=>(by cases z)⟩
 | some us=>
  cases es':zO w' A' with
  | none=>exact ⟨λ _ z=>(by cases z),λ z=>(by cases z)⟩
  | some vs=>
   dsimp only;obtain ⟨xs,h1,h2⟩:=GR q lw S' es;obtain ⟨ys,h3,h4⟩:=GR q' lw S' es';have non:∀{us:List W} {xs:List V},zE K φ' H' us xs->us[i]? =none->xs[i]? =none:=λ r e=>by
    rw [List.getElem?_eq_none_iff] at e ⊢;rw [<- r.length];exact e
   cases e1:us[i]? with
   | none=>exact ⟨λ _ z=>(by cases z),λ _=>⟨xs,ys,h1,h3,.inl (non h2 e1)⟩⟩
   | some x=>
    cases e2:vs[i]? with
    | none=>exact ⟨λ _ z=>(by cases z),λ _=>⟨xs,ys,h1,h3,.inr (non h4 e2)⟩⟩
    | some y=>
     refine ⟨λ u z=>?_,λ z=>(by cases z)⟩
     cases z;obtain ⟨vx,f1,f2⟩:=h2.get e1;obtain ⟨vy,f3,f4⟩:=h4.get e2;refine ⟨⟨xs,ys,vx,vy,h1,h3,f1,f3⟩,λ xv H1 ⟨t,x',y',hx,hy,ht,ex,eH⟩=>?_⟩;subst ex eH;have g1:=hx xs h1;have g2:=hy ys h3;rw [f1] at g1;cases g1;rw [f3] at g2;cases g2;obtain ⟨a1,a2,a3⟩:=Jx S' ht (.cons f2 (.one f4));exact ⟨a1,a2,a3⟩
noncomputable def QH (m m':Ev):Ei:=λ ρ A=>(m ρ A).bind λ w A1=>(m' ρ A1).bind λ w' A2=>match zO w A2,zO w' A2 with
 | some us,some _=>.ok (QK w w' us.length) A2
 | _,_=>.bad
variable {K:Frag}{c:Expr}
noncomputable def YU:Ev:=λ _ A=>.ok (.ref A.length) (A++[.dct []])
noncomputable def WO:W->Option Key
 | .int i=>some (.inl i)
 | _=>none
noncomputable def jY (k:Key):List (Key × W)->Option W
 | []=>none
 | (j,w)::r=>if j=k then some w else jY k r
theorem G0 (k:Key):∀{kvs:List (Key × W)} {us:List (Key × V)},us.map (·.1)=kvs.map (·.1)->zE K φ H (kvs.map (·.2)) (us.map (·.2))->
  (∀w,jY k kvs=some w->∃v,yR us k=some v/\RV K φ H w v)/\(jY k kvs=none->yR us k=none)
 | [],[],_,_=>⟨λ w h=>(by cases h),λ _=>rfl⟩
 | [],_::_,h,_=>by simp at h
 | _::_,[],h,_=>by simp at h
 | (j,w)::kvs,(j',v)::us,h,r=>by
  simp only [map_cons,List.cons.injEq] at h;obtain ⟨v',rr,e,h1,h2⟩:=r;simp only [map_cons,List.cons.injEq] at e;obtain ⟨rfl,rfl⟩:=e;have ih:=G0 k h.2 h2;have hj:j'=j:=h.1;subst hj
  by_cases hk:j'=k
  ·refine ⟨λ w' hw=>⟨v,KL hk,?_⟩,λ hn=>?_⟩
   ·unfold jY at hw;rw [if_pos hk] at hw;cases hw;exact h1
   ·unfold jY at hn;rw [if_pos hk] at hn;cases hn
  ·unfold jY
   rw [if_neg hk,KW (p:=(j',v)) hk];exact ih
theorem zJ.dct {A:Hx}{kvs:List (Key × W)}(S:zJ K φ A H)(q:RV K φ H (.ref n) v)(e:A[n]? =some (.dct kvs)):∃p us,v=.ref p/\φ[n]? =some p/\H p=some (.dK us)/\us.map (·.1)=kvs.map (·.1)/\zE K φ H (kvs.map (·.2)) (us.map (·.2)):=by
 obtain ⟨p,rfl,h1⟩:=q;obtain ⟨p',h2,us,h3,h4,h5⟩:=S.ob n _ e;rw [h1] at h2;cases h2;exact ⟨p,us,rfl,h1,h3,h4,h5⟩
noncomputable def Wu:W->W->Hx->R W:=λ d k A=>match d,WO k with
 | .ref n,some k=>match A[n]? with
  | some (.dct kvs)=>match jY k kvs with
   | some w=>.ok w A
   | none=>.bad
  | _=>.bad
 | _,_=>.bad
noncomputable def FN:V->List V->Hp->VK->Prop:=λ x vs H Q=>∃p us k d,x=.ref p/\vs=[kV k,d]/\H p=some (.dK us)/\us.length<sizeLine/\(∀v,yR us k=some v->Q v H)/\(yR us k=none->Q d (upd H p (.dK (putK us k d))))
theorem Lb:YW X "dict.setdefault" FN:=by
 intro pins s σ H x vs v us Q I rx rv h;obtain ⟨p,kvs,k,d,rfl,rfl,hp,hl,q1,q2⟩:=h;cases rx;obtain ⟨u1,u2,rfl,r1,r2⟩:=rv.two;obtain ⟨z,hd,ws,rel,dd⟩:=Pp I.hok hp;refine call_meetsIn PySem.F.slot_dict_setdefault dd.typeIs PySem.F.entry_dict_setdefault (PySem.F.args_dict_setdefault_3 _ _ _) (kt_meets_setdefault (yN X.prog X.w) p (XT r1) hd u2) ⟨ws,dd,by rw [<- rel.length];exact z,λ v hv=>?_,λ hn h' dd' hs=>?_⟩
 ·have rr:=rel.val k
  rw [hv] at rr;cases e:yR kvs k with
  | none=>rw [e] at rr;exact rr.elim
  | some v'=>rw [e] at rr;exact ⟨v',H,I.tok _,rr,q1 v' e⟩
 ·have rr:=rel.val k
  rw [hn] at rr;cases e:yR kvs k with
  | some v'=>rw [e] at rr;exact rr.elim
  | none=>
   have hl':(putK kvs k d).length<=sizeLine:=by have:=Mk kvs k d;omega
   have he:∃q,h'.get? p=some q:=let ⟨q,_,_,hq,_⟩:=dd';⟨q,hq⟩
   exact ⟨d,_,F8 I (by rw [hp];exact True.intro) hs he (DS hl' hd (rel.put k r2) dd'),r2,q2 e⟩
noncomputable def W6 (x:W)(A:Hx):Bool:=match x with
 | .ref n=>match A[n]? with
  | some (.dct _)=>true
  | _=>false
 | _=>false
noncomputable def Zn:W->W->W->Hx->R W:=λ d k v A=>match d,WO k with
 | .ref n,some k=>match A[n]? with
  | some (.dct kvs)=>if kvs.length<zY then (match jY k kvs with
   | some w=>.ok w A
   | none=>.ok v (A.set n (.dct (kvs++[(k,v)])))) else .bad
  | _=>.bad
 | _,_=>.bad
noncomputable def Jq (g:W->W->W->Hx->R W)(a b c:Ev):Ev:=λ ρ A=>(a ρ A).bind λ x A1=>if W6 x A1 then (b ρ A1).bind λ y A2=>(c ρ A2).bind λ z A3=>g x y z A3 else .bad
theorem Hm {A:Hx}{w:W}(S:zJ K φ A H)(q:RV K φ H w v)(e:W6 w A=true):WR K "dict" v H:=by
 unfold W6 at e;cases w with
 | ref n=>
  dsimp only at e;cases e1:A[n]? with
  | none=>rw [e1] at e;cases e
  | some o=>cases o with
   | dct ws=>obtain ⟨p,us,rfl,_,h,_⟩:=S.dct q e1;exact .inr (.inr (.inl ⟨rfl,.inl ⟨us,h⟩⟩))
   | _=>rw [e1] at e;cases e
 | _=>cases e
end
noncomputable def VE (d:Addr)(o:Obj)(us:List (Key × V)):It:=
 ⟨λ i H=>H d=some (.frz o (.dK us))/\i<us.length,λ i H x H'=>∃t p,us[i]? =some p/\H t=none/\x=.ref t/\H'=upd H t (.tup [kV p.1,p.2]),λ i H=>H d=some (.frz o (.dK us))/\us[i]? =none⟩
theorem DR {k:Key}(h:(yN P w).is k u=true):RelV (kV k) u:=by
 rw [MH] at h;rcases gL h with ⟨i,t,rfl,rfl⟩ | ⟨x,t,rfl,rfl⟩
 ·exact ⟨t,rfl⟩
 ·exact ⟨t,rfl⟩
theorem KV.at:∀{us:List (Key × V)} {vs:List (Key × Value)} {i:Nat} {p:Key × V},KV us vs->us[i]? =some p->∃u,vs[i]? =some (p.1,u)/\RelV p.2 u
 | [],_,_,_,_,e=>by simp at e
 | q::us,_,0,p,.cons (b:=b) r t,e=>by
  simp at e;subst e;exact ⟨b.2,by simp only [List.getElem?_cons_zero];rw [r.1],r.2⟩
 | q::us,_,i+1,p,.cons r t,e=>by
  obtain ⟨u,h1,h2⟩:=KV.at (i:=i) (p:=p) t (by simpa using e)
  exact ⟨u,by simpa using h1,h2⟩
section
theorem _root_.L2.Inv.frzD {d:Addr}{o:Obj}{us:List (Key × V)}{ep:Nat}(I:Inv X pins σ H s)(h:H d=some (.frz o (.dK us)))(hep:∃es,o.data=.dict es ep):∃vs,KV us vs/\s.heap.DictAt (yN X.prog X.w) d vs ep:=by
 obtain ⟨ho,z,hd,vs,rel,dd⟩:=I.hok d _ h;obtain ⟨ep',o',es',h1,h2,h3,r⟩:=dd.dictAt;rw [ho] at h1;cases h1;obtain ⟨es,he⟩:=hep;have h4:=h3;rw [he] at h4;injection h4 with e1 e2
 subst e2;exact ⟨vs,rel,o,es',ho,h2,h3,r⟩
end
theorem IW:entryFor table "dict_itemiterator.__iter__" = some Builtin.«dict_keyiterator.__iter__»:=entryFor_alias (id' := "dict_keyiterator.__iter__") (by kernel_rfl)
 (by first | rfl | decide +kernel | (unfold String.splitOn;simp +decide [String.splitOnAux])) (by decide +kernel) (by kernel_rfl)
theorem Mq {K:Frag}(d it:Addr)(o:Obj)(us:List (Key × V))(ep:Nat)(hep:∃es,o.data=.dict es ep):
  Turn P w K (.Tuple elts kk tpos) (VE d o us) [it] it (λ i h=>∃ok ov,IsItemIter h it d i us.length ep ok ov) where
 mem:=by simp
 obj:=λ i h ⟨ok,ov,st⟩ b hb=>by
  rw [qa7.mp hb];exact ⟨_,st,λ v e=>nomatch e⟩
 keep:=λ i h h' ⟨ok,ov,st⟩ k=>⟨ok,ov,k it (by simp) _ st⟩
 item:=by
  intro X hP hw hK hc i pins s σ H E I hf st hg;subst hP hw hK;obtain ⟨ok,ov,st⟩:=st;obtain ⟨hd,hi⟩:=hg;obtain ⟨vs,rel,da⟩:=I.frzD hd hep;obtain ⟨u,hu,ru⟩:=KV.at rel (i:=i) (p:=us[i]) (by simp [hi])
  have st':IsItemIter s.heap it d i vs.length ep ok ov:=by rw [<- rel.length];exact st
  refine wpAny_pyNext_items_item st' da hu λ key h1 hkey ho hT hsz kp=>⟨_,rfl,wpAny_letOwnedTupleGo_items ho λ h2 he2 hs2=>?_⟩;have lt:it<s.heap.objs.size:=lt_size st;have T2:h2.get? s.heap.objs.size=some { cls:=.type "tuple",data:=.seq #[key,u] }:=hs2.extBut _ _ (ne_of_gt lt) hT;refine ⟨.ref s.heap.objs.size,upd H s.heap.objs.size (.tup [kV us[i].1,us[i].2]),?_,rfl,⟨s.heap.objs.size,us[i],by simp [hi],I.hok.fresh (le_refl _),rfl,rfl⟩,⟨_,_,by rw [rel.length];exact he2⟩,λ b hb=>?_⟩
  ·refine I.spun (fp:=[it]) (t':=s.toks) (λ b ob hb eo=>?_) hf (le_refl _) ?_
   ·exact hs2.extBut _ _ (λ z=>hb (by simp [z])) (kp b ob (λ z=>hb (by simp [z])) eo)
   ·exact ⟨by show 2<=sizeLine;decide,[key,u],.cons (DR hkey) (.cons ru .nil),_,T2,⟨rfl,rfl⟩,0,rfl⟩
  ·show upd H s.heap.objs.size _ b=none
   have bn:b≠s.heap.objs.size:=λ z=>by rw [qa7.mp hb] at z;exact absurd lt (by rw [z];exact lt_irrefl _)
   rw [qf bn];exact (hf b hb).1
 done:=by
  intro X hP hw hK hc i pins s σ H E I hf st hg;subst hP hw hK;obtain ⟨ok,ov,st⟩:=st;obtain ⟨hd,hi⟩:=hg;obtain ⟨vs,rel,da⟩:=I.frzD hd hep;have st':IsItemIter s.heap it d i vs.length ep ok ov:=by rw [<- rel.length];exact st
  have hn:vs[i]? =none:=by
   rw [List.getElem?_eq_none_iff] at hi ⊢;rw [<- rel.length];exact hi
  exact wpAny_pyNext_items_end (I.ok.hd hc) st' da hn λ h1 hx=>⟨rfl,I.spun0 (fp:=[it]) (t':=s.toks) (λ b ob hb eo=>hx b ob (λ z=>hb (by simp [z])) eo) hf⟩
 self:=λ A i s Q E ⟨ok,ov,st⟩ h=>by
  have hT:s.TypeIs (.ref it) "dict_itemiterator" := ⟨_,st,rfl⟩;refine wpAny_pyIter_slot hT F.slot_dict_itemiterator_iter (wpAny_call_entry F.slot_dict_itemiterator_iter hT IW ?_ (F.args_dict_itemiterator_iter_1 _));show wpAny _ _ (ret (.ref it)) _ _ s;exact qa1 ⟨_,rfl, "dict_itemiterator",_,hT,F.slot_dict_itemiterator_next.lookup,h⟩
section
variable {a b:Expr}{m:Ev}
noncomputable def C5 (td:TE):TI:=λ σ H R=>td σ H λ x H1=>∃d us,x=.ref d/\H1 d=some (.dK us)/\∀o,R (VE d o us) (upd H1 d (.frz o (.dK us)))
theorem Ip {td:TE}(ho:PE X a td)(hbase:attributeBase a "items" X.env (eval a X.env)=eval a X.env)(hline:(apos.endLine==cpos.line)=true):
  PI X (.Tuple elts kk tpos) (.Call (.Attribute a "items" apos) [] [] cpos) (C5 td):=by
 intro pins s σ H R I h;refine wpAny_Call_method0_late hbase hline (zP (ho pins s σ H _ I h) λ v s1 ⟨x,H1,I1,r1,d,us,ex,hd,q⟩=>?_);subst ex;cases r1;obtain ⟨z,hsys,vs,rel,dd⟩:=Pp I1.hok hd;obtain ⟨o,es,ep,hod,hex,hdat,r⟩:=id dd;refine ⟨"dict", "dict.items",PySem.F.plainAttrs_dict,PySem.F.slot_dict_items,PySem.F.type_dict_items,dd.typeIs,λ b eb=>by cases eb;exact ⟨o,hod,hex.2.1⟩,Calls.callWith_builtin rfl (PySem.evalArgs_none ?_)⟩
 refine call_meetsIn PySem.F.slot_dict_items dd.typeIs PySem.F.entry_dict_items (PySem.F.args_dict_items_1 _) (meets_dict_items (yN X.prog X.w) d hsys) ⟨⟨vs,dd⟩,?_⟩;have I2:Inv X pins σ (upd H1 d (.frz o (.dK us))) { s1 with heap:=s1.heap,toks:=s1.toks }:=I1.write (x:=d) (e:=d) (o:=.frz o (.dK us)) (t':=s1.toks) (h':=s1.heap) (by rw [hd];exact True.intro) (.inl rfl) (λ _ _ _ q=>q) ⟨o,hod⟩ ⟨hod,z,hsys,vs,rel,dd⟩
 have I3:Inv X pins σ (upd H1 d (.frz o (.dK us))) { s1 with heap:=s1.heap.push { cls:=.type "dict_items",data:=.fields #[.ref d] } }:=I2.kept (t':=s1.toks) λ b ob q=>get?_push_of_some _ q
 have da:(s1.heap.push { cls:=.type "dict_items",data:=.fields #[.ref d] }).DictAt (yN X.prog X.w) d vs ep:=⟨o,es,get?_push_of_some _ hod,hex,hdat,r⟩;refine wpAny_pyIter_items (s:={ s1 with heap:=s1.heap.push { cls:=.type "dict_items",data:=.fields #[.ref d] } }) ⟨_,get?_push_size _ rfl,rfl,rfl⟩ da ?_
 refine ⟨_,[_],_,_,_,rfl,I3.kept (t':=s1.toks) λ b ob q=>get?_push_of_some _ q,Mq d _ o us ep ⟨es,hdat⟩,⟨.none,.none,?_⟩,λ b hb=>?_,q o⟩
 ·rw [rel.length];exact get?_push_size _ rfl
 ·have eb:=qa7.mp hb
  subst eb;exact I3.fpOk (le_refl _) (I3.hok.fresh (le_refl _))
noncomputable def kW:Key->W
 | .inl i=>.int i
 | .inr x=>.str x
noncomputable def YS (kvs:List (Key × W)):jy:=⟨λ _ i=>some (kvs[i]?.map λ p=>.tup [kW p.1,p.2]),kvs.length⟩
noncomputable def Yw (m:Ev):Ei:=λ ρ A=>match A with
 | []=>(m ρ []).bind λ w A1=>match w,A1 with
  | .ref 0,[.dct kvs]=>if qS (kvs.map (·.2)) then .ok (YS kvs) [] else .bad
  | _,_=>.bad
 | _=>.bad
theorem BY {K:Frag}{d:Addr}{o:Obj}{us:List (Key × V)}{kvs:List (Key × W)}(hd:H d=some (.frz o (.dK us)))(e1:us.map (·.1)=kvs.map (·.1))(e2:zE K φ H (kvs.map (·.2)) (us.map (·.2)))(n:qS (kvs.map (·.2))=true):
  Zd K φ H (YS kvs) (VE d o us):=λ i φ' H' A' lw S'=>by
 unfold YS;dsimp only;have hd':=lw.fz d o _ hd;have e2':zE K φ' H' (kvs.map (·.2)) (us.map (·.2)):=e2.nrm lw.tp lw.fz n;have hl:us.length=kvs.length:=by have:=congrArg List.length e1;simpa using this
 cases ei:kvs[i]? with
 | none=>
  refine ⟨λ _ z=>(by cases z),λ _=>⟨hd',?_⟩⟩
  rw [List.getElem?_eq_none_iff] at ei ⊢;rw [hl];exact ei
 | some p=>
  have hi:i<kvs.length:=(qa2.mp ei).1;refine ⟨λ u z=>?_,λ z=>(by cases z)⟩
  cases z;refine ⟨⟨hd',by rw [hl];exact hi⟩,λ x H1 ⟨t,q,hq,ht,ex,eH⟩=>?_⟩
  subst ex eH;have k1:q.1=p.1:=by
   have a1:(us.map (·.1))[i]? =some q.1:=by simp [hq]
   rw [e1] at a1;simp [ei] at a1;exact a1.symm
  have a2:(kvs.map (·.2))[i]? =some p.2:=by simp [ei]
  obtain ⟨v,h1,h2⟩:=e2'.get a2;have h3:v=q.2:=by simp [hq] at h1;exact h1.symm
  subst h3;rw [k1];have kr:RV K φ' H' (kW p.1) (kV p.1):=by cases p.1<;>rfl
  obtain ⟨b1,b2,b3⟩:=Jx S' ht (.cons kr (.one h2));exact ⟨b1,b2,b3⟩
end
mutual
noncomputable def W.beq:W->W->Bool
 | .non,.non=>true
 | .bl a,.bl b=>a==b
 | .int a,.int b=>decide (a=b)
 | .str a,.str b=>decide (a=b)
 | .tup a,.tup b=>YG a b
 | _,_=>false
noncomputable def YG:List W->List W->Bool
 | [],[]=>true
 | a::as,b::bs=>a.beq b&&YG as bs
 | _,_=>false
end
mutual
theorem W.eq_of:∀{a b:W},a.beq b=true->a=b
 | .non,.non,_=>rfl
 | .bl a,.bl b,h=>by have h':(a==b)=true:=h;rw [beq_iff_eq] at h';rw [h']
 | .int a,.int b,h=>by have h':decide (a=b)=true:=h;rw [decide_eq_true_iff] at h';rw [h']
 | .str a,.str b,h=>by have h':decide (a=b)=true:=h;rw [decide_eq_true_iff] at h';rw [h']
 | .tup a,.tup b,h=>by have h':YG a b=true:=h;rw [R9 h']
 | .non,.bl _,h=>nomatch h | .non,.int _,h=>nomatch h | .non,.str _,h=>nomatch h | .non,.tup _,h=>nomatch h | .non,.ref _,h=>nomatch h
 | .bl _,.non,h=>nomatch h | .bl _,.int _,h=>nomatch h | .bl _,.str _,h=>nomatch h | .bl _,.tup _,h=>nomatch h | .bl _,.ref _,h=>nomatch h
 | .int _,.non,h=>nomatch h | .int _,.bl _,h=>nomatch h | .int _,.str _,h=>nomatch h | .int _,.tup _,h=>nomatch h | .int _,.ref _,h=>nomatch h
 | .str _,.non,h=>nomatch h | .str _,.bl _,h=>nomatch h | .str _,.int _,h=>nomatch h | .str _,.tup _,h=>nomatch h | .str _,.ref _,h=>nomatch h
 | .tup _,.non,h=>nomatch h | .tup _,.bl _,h=>nomatch h | .tup _,.int _,h=>nomatch h | .tup _,.str _,h=>nomatch h | .tup _,.ref _,h=>nomatch h
 | .ref _,.non,h=>nomatch h | .ref _,.bl _,h=>nomatch h | .ref _,.int _,h=>nomatch h | .ref _,.str _,h=>nomatch h | .ref _,.tup _,h=>nomatch h | .ref _,.ref _,h=>nomatch h
theorem R9:∀{a b:List W},YG a b=true->a=b
 | [],[],_=>rfl
 | a::as,b::bs,h=>by
  have h':(a.beq b&&YG as bs)=true:=h;rw [and_eq_true] at h';rw [W.eq_of h'.1,R9 h'.2]
 | [],_::_,h=>nomatch h
 | _::_,[],h=>nomatch h
end
section
variable {K:Frag}
noncomputable def FD (K:Frag)(x:Str)(st:Stmt):Prop:=∃f fd,wg K x x st f fd/\nsIn K mainGlobals x=some (some (.ref f))
theorem BS {st:Stmt}{oc:Value}{od an:Option Addr}{kV doc pm cdv ct:Value}(a:nsIn K mainGlobals x=some (some (.ref f)))
  (l:K.lookup f=some ⟨oc,od,.func (fnOf x x (ZZ st) (yC st) (qi st) .none kV doc pm an cdv ct),osl⟩)(c:codeIn K cdv x=true)(k:keepIn K (.ref f)=true):FD K x st:=⟨f,_,CS l c k,a⟩
noncomputable def CD (K:Frag)(x:Str)(i:Int):Prop:=∃t,nsIn K mainGlobals x=some (some (.int i t))
theorem B9 {i:Int}{t:Tok}(a:nsIn K mainGlobals x=some (some (.int i t))):CD K x i:=⟨t,a⟩
end
open PySem PySem.Spec PyProof.Rows L2 Mi
@[irreducible] noncomputable def zA (X:Cx)(xr:XR)(e:Expr)(m:Ev):Prop:=Mi.SE X xr e m
theorem XO:@zA=@Mi.SE:=by
 funext X xr e m
 unfold zA
 rfl
@[irreducible] noncomputable def wI (X:Cx)(xr:XR)(es:List Expr)(m:Ea):Prop:=Mi.SA X xr es m
theorem R0:@wI=@Mi.SA:=by
 funext X xr es m
 unfold wI
 rfl
@[irreducible] noncomputable def yr (X:Cx)(xr:XR)(e:Expr)(m:Ev):Prop:=Mi.ST X xr e m
theorem RU:@yr=@Mi.ST:=by
 funext X xr e m
 unfold yr
 rfl
@[irreducible] noncomputable def gC (X:Cx)(xr:XR)(e:Expr)(m:Ev):Prop:=Mi.SW X xr e m
theorem RS:@gC=@Mi.SW:=by
 funext X xr e m
 unfold gC
 rfl
@[irreducible] noncomputable def yS (X:Cx)(xr:XR)(st:Stmt)(m:Ex):Prop:=Mi.SS X xr st m
theorem RO:@yS=@Mi.SS:=by
 funext X xr st m
 unfold yS
 rfl
@[irreducible] noncomputable def kA (X:Cx)(xr:XR)(st:List Stmt)(m:Ex):Prop:=Mi.WS X xr st m
theorem Ri:@kA=@Mi.WS:=by
 funext X xr st m
 unfold kA
 rfl
@[irreducible] noncomputable def kK (X:Cx)(xr:XR)(tg e:Expr)(m:Ei):Prop:=Mi.SI X xr tg e m
theorem Pa:@kK=@Mi.SI:=by
 funext X xr tg e m
 unfold kK
 rfl
@[irreducible] noncomputable def wb (X:Cx)(tg:Expr)(m:Tg):Prop:=Mi.SG X tg m
theorem RX:@wb=@Mi.SG:=by
 funext X tg m
 unfold wb
 rfl
@[irreducible] noncomputable def Qe (X:Cx)(xr:XR)(e:Expr)(m:jR):Prop:=Mi.SF X xr e m
theorem RQ:@Qe=@Mi.SF:=by
 funext X xr e m
 unfold Qe
 rfl
@[irreducible] noncomputable def gD (X:Cx)(xr:XR)(e:Expr)(m:jR):Prop:=Mi.SQ X xr e m
theorem Pj:@gD=@Mi.SQ:=by
 funext X xr e m
 unfold gD
 rfl
@[irreducible] noncomputable def g8 (X:Cx)(es:List Expr)(m:Ev):Prop:=Mi.YZ X es m
theorem RK:@g8=@Mi.YZ:=by
 funext X es m
 unfold g8
 rfl
@[irreducible] noncomputable def gF (X:Cx)(elt:Expr)(gens:List Comprehension)(sc:Scope)(cpos:Pos)(d:Nat)(em:Em):Prop:=Mi.SM X elt gens sc cpos d em
theorem Pd:@gF=@Mi.SM:=by
 funext X elt gens sc cpos d em
 unfold gF
 rfl
section
variable {xr:XR}{K:Frag}{a b c:Expr}{es:List Expr}{m ma mb mc:Ev}{m1 m2:Ex}{st:Stmt}{rest:List Stmt}
theorem zR:@zA=@Mi.SE/\@wI=@Mi.SA/\@yr=@Mi.ST/\@gC=@Mi.SW/\@yS=@Mi.SS/\@kA=@Mi.WS/\@kK=@Mi.SI/\@wb=@Mi.SG/\@Qe=@Mi.SF/\@gD=@Mi.SQ/\@g8=@Mi.YZ/\@gF=@Mi.SM:=⟨XO,R0,RU,RS,RO,Ri,Pa,RX,RQ,Pj,RK,Pd⟩
theorem zj {mr:Ea}(ha:zA X xr e ma)(hr:wI X xr es mr)(hs:starEach (e::es) X.env=(false,eval e X.env)::starEach es X.env:=by rfl):wI X xr (e::es) (zh ma mr):=by
 (try simp only [zR] at *)
 exact PA.imp (jj ha hr hs) λ σ H Q ⟨φ,A,ρ,S,re,h⟩=>by
   refine tM.go S re (zU.mp h) λ w A1 φ1 H1 v h1 l1 S1 q1=>?_;refine W0.go S1 (re.mono l1) (qj (zU.mp h1) (λ _ _ z=>z) λ _ _ z=>z.mono l1) λ w2 A2 φ2 H2 v2 h2 l2 S2 q2=>?_;exact h2 φ2 H2 _ (l1.trans l2) S2 (.cons (q1.mono l2) q2)
theorem zw:wI X xr [] zm:=by
 (try simp only [zR] at *)
 exact PA.imp jW λ σ H Q ⟨φ,A,ρ,S,re,h⟩=>h φ H [] .refl S .nil
theorem yV (ha:zA X xr a ma)(hb:zA X xr b mb):zA X xr (.BinOp a .Add b pos) (zo je ma mb):=by
 (try simp only [zR] at *)
 exact Qv (DV.or (E9.or (HL.or Cq))) Co FH ha hb
theorem Yh {q:jR}(hc:X.calm=true)(hm:X.mg "all" = none)(ha:gD X xr e q)(hg:Gl X "all" := by rfl)(he:starEach [e] X.env=(false,eval e X.env)::starEach [] X.env:=by rfl):
  zA X xr (.Call (.Name "all" p) [e] [] pos) (mQ QM q):=by
 (try simp only [zR] at *)
 exact X7 (Fd hc) Ce EO hm (by rfl) ha hg (by decide) (by decide) he (by rfl)
theorem Qp {rest:List Expr}(ha:zA X xr a ma)(hb:zA X xr (.BoolOp .And (b::rest) pos) mb):zA X xr (.BoolOp .And (a::b::rest) pos) (yL ma mb):=by
 (try simp only [zR] at *)
 exact PE.imp (Cb ha hb) λ σ H Q ⟨φ,A,ρ,S,re,h⟩=>by
   refine tM.go S re (zU.mp h) λ w A1 φ1 H1 v h1 l1 S1 q1=>?_;cases w with
   | bl k=>
    refine ⟨k,q1,?_⟩;cases k with
    | true=>rw [if_pos rfl];exact ⟨φ1,A1,ρ,S1,re.mono l1,qj h1 (λ _ _ z=>z.mono l1) λ _ _ z=>z.mono l1⟩
    | false=>rw [if_neg Bool.false_ne_true];exact h1 φ1 H1 _ l1 S1 rfl
   | non=>cases h1
   | int _=>cases h1
   | str _=>cases h1
   | tup _=>cases h1
   | ref _=>cases h1
   | clo _ _ _=>cases h1
   | xc _=>cases h1
theorem yj {i j}:zA X xr (.Constant (.bool i) j pos) (zi (.bl i)):=by
 (try simp only [zR] at *)
 exact PE.imp BH λ σ H Q ⟨φ,A,ρ,S,r,h⟩=>h φ H _ .refl S rfl
theorem gv {g:W->W->Hx->R W}(h:wB X op g)(ha:zA X xr a ma)(hb:zA X xr b mb)(h1:op≠.In:=by decide)(h2:op≠.NotIn:=by decide):zA X xr (.Compare a [op] [b] pos) (zo g ma mb):=by
 (try simp only [zR] at *)
 exact let ⟨r,a1,a2,a3⟩:=h.ex;Ph a1 a2 a3 ha hb (h.mks b h1 h2)
theorem RL {op':CmpOp}{g g':W->W->Hx->R W}(h:wB X op g)(h':wB X op' g')(ha:zA X xr a ma)(hb:zA X xr b mb)(hc:zA X xr c mc)(hm:lastMarks [op,op'] [b,c]=false:=by with_unfolding_all rfl):
  zA X xr (.Compare a [op,op'] [b,c] pos) (yO g g' ma mb mc):=by
 (try simp only [zR] at *)
 exact let ⟨r,a1,a2,a3⟩:=h.ex;let ⟨r',b1,b2,b3⟩:=h'.ex;IF a1 a2 a3 b1 b2 b3 ha hb hc hm
theorem qt {k:Nat}{f:Fn}{mr:Ea}(F:zN X.prog X.w X.K X.mg X.base k x n f)(hr:jm k X.A)(ha:wI X j8 (e::es) mr)(hl:Za mr n:=by repeat' (first | exact zD | refine zp ?_))(hg:Gl X x:=by rfl)
  (hdb:(x==("__debug__" : Str))=false:=by decide)(he:starEach (e::es) X.env=(false,eval e X.env)::starEach es X.env:=by rfl)(hpl:(backTo pos (starEach es X.env)).any (·.1)=false:=by rfl):
  zA X j8 (.Call (.Name x p) (e::es) [] pos) (zF f mr):=by
 (try simp only [zR] at *)
 obtain ⟨fa,fd,ps,F,hm,hk,hb⟩:=F;refine PE.imp (Rm F hr hg hm hk hb .nil B7 ha hdb he hpl) λ σ H Q ⟨φ,A,ρ,S,re,h⟩=>?_;have h':=zU.mp h;refine ⟨φ,A,ρ,S,re,?_⟩;cases er:mr ρ A with
 | ok ws A1=>
  rw [er] at h';intro φ1 H1 vs l1 S1 q1;have hv:vs.length=n:=by rw [<- q1.length];exact hl ρ A ws A1 er
  rw [append_nil];exact ⟨hv,φ1,A1,ws,S1,q1,qj h' (λ _ _ z=>z.mono l1) λ x A2 z φ2 H2 l2 S2=>(z φ2 H2 (l1.trans l2) S2).elim⟩
 | exc x A1=>rw [er] at h';exact h'
 | bad=>rw [er] at h';exact h'
theorem DM {g:W->W->Hx->R W}(h:Wz X op g)(ha:zA X xr a ma)(hb:zA X xr b mb)(hm:behindInMarks op b=false:=by rfl):zA X xr (.Compare a [op] [b] pos) (zo g ma mb):=by
 (try simp only [zR] at *)
 exact let ⟨r,a1,a2,a3⟩:=h.ex;Ph a1 a2 a3 ha hb hm
theorem TY (ho:zA X xr a ma)(he:zA X xr b mb)(hs:starEach [b] X.env=(false,eval b X.env)::starEach [] X.env:=by rfl)
  (hbase:attributeBase a "count" X.env (eval a X.env)=eval a X.env:=by rfl)
  (hfew:((backTo cpos (starEach [b] X.env)).all (λ x=>!x.1)&&(backToKw cpos (keywordEach [] X.env)).all (λ x=>x.1.isSome)
   && decide ([b].length+([]:List Keyword).length+(if ([]:List Keyword).isEmpty then 0 else 1)<30))=true:=by rfl)(hline:(apos.endLine==cpos.line)=true:=by rfl):
  zA X xr (.Call (.Attribute a "count" apos) [b] [] cpos) (Qy Z3 ma mb):=by
 (try simp only [zR] at *)
 exact PE.imp (Bf PySem.F.slot_tuple_count PySem.F.type_tuple_count H9 ho (jj he jW hs) hbase hfew hline hs (by rfl)) λ σ H Q ⟨φ,A,ρ,S,re,h⟩=>by
   refine tM.go S re (zU.mp h) λ w A1 φ1 H1 v h1 l1 S1 q1=>?_;cases w with
   | tup ws=>
    obtain ⟨p,vs,rfl,t1,r1⟩:=q1;refine ⟨p,vs,rfl,t1,?_⟩;refine tM.go S1 (re.mono l1) (qj (zU.mp h1) (λ _ _ z=>z) λ _ _ z=>z.mono l1) λ w2 A2 φ2 H2 v2 h2 l2 S2 q2=>?_;unfold Z3 at h2;dsimp only at h2
    by_cases hf:(yD w2&&ws.all yD)=true
    ·rw [if_pos hf] at h2
     rw [and_eq_true] at hf;obtain ⟨i1,i2⟩:=UY q2 hf.1 (r1.mono l2) hf.2;refine ⟨p,vs,v2,rfl,rfl,l2.tp _ _ t1,KG q2 hf.1,i1,?_⟩;rw [i2];rw [RH] at h2;exact h2 φ2 H2 _ (l1.trans l2) S2 (by simp [RV])
    ·rw [if_neg hf] at h2;exact h2.elim
   | _=>exact h1.elim
theorem Rh:zA X xr (.Dict [] [] pos) YU:=by
 (try simp only [zR] at *)
 exact PE.imp IH λ σ H Q ⟨φ,A,ρ,S,re,h⟩ p hp=>by
  obtain ⟨l,S'⟩:=S.alloc (o:=.dct []) hp (u:=.dK []) ⟨[],jo,rfl,.nil⟩;exact h _ _ _ l S' ⟨p,rfl,by rw [<- S.len];simp⟩
theorem LP {k:Nat}(hr:jm k X.A)(ha:zA X xr a ma)(hb:zA X xr b mb)(hs:Vc b:=by intro _ _;rfl):zA X xr (.Subscript a b pos) (zo Wu ma mb):=by
 (try simp only [zR] at *)
 exact PE.imp (F3 (BN hr) ha hb hs) λ σ H Q ⟨φ,A,ρ,S,re,h⟩=>by
   refine tM.go S re (zU.mp h) λ w A1 φ1 H1 v h1 l1 S1 q1=>?_;refine tM.go S1 (re.mono l1) (qj (zU.mp h1) (λ _ _ z=>z) λ _ _ z=>z.mono l1) λ w2 A2 φ2 H2 v2 h2 l2 S2 q2=>?_;unfold Wu at h2;cases w with
   | ref n=>
    cases w2 with
    | int i=>
     obtain rfl:=q2;dsimp only [WO] at h2;cases e1:A2[n]? with
     | none=>rw [e1] at h2;exact h2.elim
     | some o=>cases o with
      | dct kvs=>
       rw [e1] at h2;dsimp only at h2;obtain ⟨p,us,rfl,f1,g1,g2,g3⟩:=S2.dct (q1.mono l2) e1;cases e2:jY (.inl i) kvs with
       | none=>rw [e2] at h2;exact h2.elim
       | some w=>
        rw [e2] at h2;obtain ⟨v,hv,rv⟩:=(G0 (.inl i) g2 g3).1 w e2;refine ⟨p,v,rfl,?_,h2 φ2 H2 v (l1.trans l2) S2 rv⟩;rw [<- hv];exact JL.k (k:=.inl i) g1
      | _=>rw [e1] at h2;exact h2.elim
    | _=>exact h2.elim
   | _=>exact h2.elim
theorem Ir {i:Int}{t:Tok}(hg:Gl X x)(hm:X.mg x=some (.int i t))(hd:(x==("__debug__" : Str))=false:=by decide):zA X xr (.Name x pos) (zi (.int i)):=by
 (try simp only [zR] at *)
 exact PE.imp (Eh hg hm (v:=.int i) ⟨t,rfl⟩ hd) λ σ H Q ⟨φ,A,ρ,S,r,h⟩=>h φ H _ .refl S rfl
theorem Cy {c:Expr}(hc:yr X xr c mc)(ha:zA X xr a ma)(hb:zA X xr b mb):zA X xr (.IfExp c a b pos) (Om mc ma mb):=by
 (try simp only [zR] at *)
 exact PE.imp (Hl hc ha hb) λ σ H Q ⟨φ,A,ρ,S,re,h⟩=>by
   refine tT.go S re (zU.mp h) λ w A1 h1=>?_;cases w with
   | bl k=>
    refine ⟨k,rfl,λ φ1 H1 l1 S1=>?_⟩;cases k with
    | true=>rw [if_pos rfl];exact ⟨φ1,A1,ρ,S1,re.mono l1,qj h1 (λ _ _ z=>z.mono l1) λ _ _ z=>z.mono l1⟩
    | false=>rw [if_neg Bool.false_ne_true];exact ⟨φ1,A1,ρ,S1,re.mono l1,qj h1 (λ _ _ z=>z.mono l1) λ _ _ z=>z.mono l1⟩
   | non=>cases h1
   | int _=>cases h1
   | str _=>cases h1
   | tup _=>cases h1
   | ref _=>cases h1
   | clo _ _ _=>cases h1
   | xc _=>cases h1
theorem zt {i j}:zA X xr (.Constant (.int i) j pos) (zi (.int i)):=by
 (try simp only [zR] at *)
 exact PE.imp CP λ σ H Q ⟨φ,A,ρ,S,r,h⟩=>h φ H _ .refl S rfl
theorem gQ (t:Ty){p':Pos}(hm:X.mg "isinstance" = none)(hm':X.mg x=none)(hx:bootBuiltins x=some (.type t.nm))(ha:zA X xr e m)(hg:Gl X "isinstance" := by rfl)(hg':Gl X x:=by rfl)
  (hn:x ≠ "__name__" := by decide)(hd:(x==("__debug__" : Str))=false:=by decide)
  (h1:starEach [e,.Name x p'] X.env=(false,eval e X.env)::starEach [.Name x p'] X.env:=by rfl)(h2:(backTo pos (starEach [.Name x p'] X.env)).any (·.1)=false:=by rfl):
  zA X xr (.Call (.Name "isinstance" p) [e,.Name x p'] [] pos) (ka t m):=by
 (try simp only [zR] at *)
 exact PE.imp (ZY Ep hg hm (by rfl) (jj ha (jj (Wc hg' hm' hx (v:=.ty t.nm) rfl hn hd) jW) h1) (by decide) (by decide) h1 h2) λ σ H Q ⟨φ,A,ρ,S,re,h⟩=>by
   refine tM.go S re (zU.mp h) λ w A1 φ1 H1 v h1 l1 S1 q1=>?_;cases et:jz w A1 with
   | none=>rw [et] at h1;exact h1.elim
   | some t'=>
    rw [et] at h1;exact ⟨v,t',t,rfl,Sw S1 q1 et,h1 φ1 H1 _ l1 S1 rfl⟩
theorem qu (ha:zA X xr a ma)(hb:zA X xr b mb)(hs:RJ b:=by intro _ _;rfl):zA X xr (.Subscript a b pos) (zo zC ma mb):=by
 (try simp only [zR] at *)
 exact PE.imp (Bi CT ha hb hs) (zo.read B8 CG)
theorem kQ {q:jR}(hm:X.mg "len" = none)(ha:gD X xr e q)(hg:Gl X "len" := by rfl)(he:starEach [e] X.env=(false,eval e X.env)::starEach [] X.env:=by rfl):
  zA X xr (.Call (.Name "len" p) [e] [] pos) (mQ jb q):=by
 (try simp only [zR] at *)
 exact X7 NK (λ _ _=>jS) Fx hm (by rfl) ha hg (by decide) (by decide) he (by rfl)
theorem ye {q:jR}(h:Qe X xr e q):zA X xr e (ql q):=by
 (try simp only [zR] at *)
 exact PE.imp h ql.read
theorem Mz {p' pos':Pos}(hc:X.calm=true)(hm:X.mg "list" = none)(hm':X.mg "range" = none)(ha:zA X xr a ma)(hg:Gl X "list" := by rfl)(hg':Gl X "range" := by rfl)(hs:starEach [a] X.env=[(false,eval a X.env)]:=by rfl)
  (hs':starEach [.Call (.Name "range" p') [a] [] pos'] X.env=(false,eval (.Call (.Name "range" p') [a] [] pos') X.env)::starEach [] X.env:=by rfl):
  zA X xr (.Call (.Name "list" p) [.Call (.Name "range" p') [a] [] pos'] [] pos) (Yo ma):=by
 (try simp only [zR] at *)
 exact PE.imp (Q7 (MB hc) hg hm (by rfl) (jj (FE hg' hm' (jj ha jW (by rw [hs];rfl)) hs) jW hs') (by decide) (by decide) hs' (by rfl)) λ σ H Q ⟨φ,A,ρ,S,re,h⟩=>by
   refine tM.go S re (zU.mp h) λ w A1 φ1 H1 v h1 l1 S1 q1=>?_;cases w with
   | int j=>
    obtain rfl:=q1;dsimp only at h1
    by_cases hj:(jN j&&decide (j.toNat<=zY))=true
    ·rw [if_pos hj] at h1
     rw [and_eq_true,decide_eq_true_iff] at hj;refine ⟨j,rfl,λ p hp=>⟨p,j,rfl,jo,Q5 hj.1,Zk hj.2,λ l hl=>?_⟩⟩;have ln:Le X.K φ1 H1 φ1 (upd H1 p (.rng 0 j)):=Le.new hp;have rr:zE X.K φ1 (upd H1 p (.rng 0 j)) ((List.range j.toNat).map λ (i:Nat)=>W.int i) (QQ j.toNat):=by
      have:=(zE.ints (K:=X.K) (φ:=φ1) (H:=upd H1 p (.rng 0 j)) (ns:=(List.range j.toNat).map λ (i:Nat)=>(i:Int)) (vs:=QQ j.toNat)).mpr (by unfold QQ;simp)
      rw [map_map] at this;exact this
     obtain ⟨b1,b2,b3⟩:=Qs (S1.lay hp) hl rr;exact h1 _ _ _ ((l1.trans ln).trans b1) b2 b3
    ·rw [if_neg hj] at h1;exact h1.elim
   | _=>exact h1.elim
theorem qT {mr:Ea}(h:wI X xr es mr)(hl:Za mr n)(hn:n<=zY:=by decide):zA X xr (.List es pos) (zS mr):=by
 (try simp only [zR] at *)
 exact DN h λ ρ A ws A' e=>by rw [hl ρ A ws A' e];exact Zk hn
theorem ZW {q:jR}(hc:X.calm=true)(hm:X.mg "max" = none)(ha:gD X xr e q)(hg:Gl X "max" := by rfl)(he:starEach [e] X.env=(false,eval e X.env)::starEach [] X.env:=by rfl):
  zA X xr (.Call (.Name "max" p) [e] [] pos) (mQ j7 q):=by
 (try simp only [zR] at *)
 exact X7 (Ll hc) DJ FO hm (by rfl) ha hg (by decide) (by decide) he (by rfl)
theorem Si (hc:X.calm=true)(hm:X.mg "min" = none)(ha:zA X xr a ma)(hb:zA X xr b mb)(hgl:Gl X "min" := by rfl)(h1:starEach [a,b] X.env=(false,eval a X.env)::starEach [b] X.env:=by rfl)(h2:starEach [b] X.env=(false,eval b X.env)::starEach [] X.env:=by rfl)(hpl:(backTo pos (starEach [b] X.env)).any (·.1)=false:=by rfl):
  zA X xr (.Call (.Name "min" p) [a,b] [] pos) (zo Wr ma mb):=by
 (try simp only [zR] at *)
 exact XZ (Lk hc) QA (λ φ A H x y u v Q S q1 q2 p=>by
   obtain ⟨i,j,e1,e2,q⟩:=Qx (K:=X.K) (f:=λ i j=>.int (if j<i then j else i)) (g:=λ i j=>.int (if j<i then j else i)) (λ _ _ _ _=>rfl) φ A H x y u v Q S q1 q2 p;subst e1;subst e2;exact ⟨i,j,rfl,q⟩) hm (by rfl) ha hb hgl (by decide) (by decide) h1 h2 hpl
theorem Qq (ha:zA X xr a ma)(hb:zA X xr b mb):zA X xr (.BinOp a .Mod b pos) (zo wA ma mb):=by
 (try simp only [zR] at *)
 exact Qv Dp X4 (XJ FR λ _ _ _ _=>rfl) ha hb
theorem kF (ha:zA X xr a ma)(hb:zA X xr b mb):zA X xr (.BinOp a .Mult b pos) (zo qO ma mb):=by
 (try simp only [zR] at *)
 exact Qv (DT.or C1) DL F5 ha hb
theorem Xi (ha:zA X xr a ma):zA X xr (.UnaryOp .USub a pos) (jU Zv ma):=by
 (try simp only [zR] at *)
 exact B6 Dz (λ x A=>by unfold Zv;split;exact jS;exact qU) (λ φ A H x u Q S q p=>by
  cases u with
  | int i=>obtain rfl:=q;exact ⟨i,rfl,p φ H _ .refl S rfl⟩
  | _=>exact p.elim) ha
theorem Qr {j}:zA X xr (.Constant .none j pos) (zi .non):=by
 (try simp only [zR] at *)
 exact PE.imp D7 λ σ H Q ⟨φ,A,ρ,S,r,h⟩=>h φ H _ .refl S rfl
theorem Dl (ha:zA X xr a ma):zA X xr (.UnaryOp .Not a pos) (yK ma):=by
 (try simp only [zR] at *)
 exact PE.imp (C4 ha) λ σ H Q ⟨φ,A,ρ,S,re,h⟩=>by
   refine tM.go S re (zU.mp h) λ w A1 φ1 H1 v h1 l1 S1 q1=>?_;cases w with
   | bl k=>exact ⟨k,q1,h1 φ1 H1 _ l1 S1 rfl⟩
   | non=>cases h1
   | int _=>cases h1
   | str _=>cases h1
   | tup _=>cases h1
   | ref _=>cases h1
   | clo _ _ _=>cases h1
   | xc _=>cases h1
theorem Ji {op}(h:zA X xr a ma):zA X xr (.BoolOp op [a] pos) ma:=by
 (try simp only [zR] at *)
 exact Cn h
theorem MZ (ho:zA X xr a ma)(he:zA X xr b mb)(hf:zA X xr c mc)(h1:starEach [b,c] X.env=(false,eval b X.env)::starEach [c] X.env:=by rfl)(h2:starEach [c] X.env=(false,eval c X.env)::starEach [] X.env:=by rfl)
  (hbase:attributeBase a "setdefault" X.env (eval a X.env)=eval a X.env:=by rfl)
  (hfew:((backTo cpos (starEach [b,c] X.env)).all (λ x=>!x.1)&&(backToKw cpos (keywordEach [] X.env)).all (λ x=>x.1.isSome)
   && decide ([b,c].length+([]:List Keyword).length+(if ([]:List Keyword).isEmpty then 0 else 1)<30))=true:=by rfl)(hline:(apos.endLine==cpos.line)=true:=by rfl)(hpl:(backTo cpos (starEach [c] X.env)).any (·.1)=false:=by rfl):
  zA X xr (.Call (.Attribute a "setdefault" apos) [b,c] [] cpos) (Jq Zn ma mb mc):=by
 (try simp only [zR] at *)
 exact PE.imp (Pq PySem.F.plainAttrs_dict PySem.F.slot_dict_setdefault PySem.F.type_dict_setdefault Lb ho (jj he (jj hf jW h2) h1) hbase hfew hline h1 hpl) λ σ H Q ⟨φ,A,ρ,S,re,h⟩=>by
   refine tM.go S re (zU.mp h) λ w A1 φ1 H1 v h1 l1 S1 q1=>?_
   by_cases hd:W6 w A1=true
   ·rw [if_pos hd] at h1
    refine ⟨Hm S1 q1 hd,?_⟩;refine tM.go S1 (re.mono l1) (qj (zU.mp h1) (λ _ _ z=>z) λ _ _ z=>z.mono l1) λ w2 A2 φ2 H2 v2 h2 l2 S2 q2=>?_;have l02:=l1.trans l2;refine tM.go S2 (re.mono l02) (qj (zU.mp h2) (λ _ _ z=>z) λ _ _ z=>z.mono l02) λ w3 A3 φ3 H3 v3 h3 l3 S3 q3=>?_;have l03:=l02.trans l3;unfold Zn at h3;cases w with
    | ref n=>cases w2 with
     | int i=>
      obtain rfl:=q2;dsimp only [WO] at h3;cases e1:A3[n]? with
      | none=>rw [e1] at h3;exact h3.elim
      | some o=>cases o with
       | dct kvs=>
        rw [e1] at h3;dsimp only at h3;obtain ⟨p,us,rfl,f1,g1,g2,g3⟩:=S3.dct ((q1.mono l2).mono l3) e1;have hlen:us.length=kvs.length:=by have:=congrArg List.length g2;simpa using this
        by_cases hz:kvs.length<zY
        ·rw [if_pos hz] at h3
         have rd:=G0 (.inl i) g2 g3;refine ⟨p,us,.inl i,v3,rfl,rfl,g1,?_,λ v' hv=>?_,λ hn=>?_⟩
         ·rw [hlen]
          have:sizeLine=16777216:=sizeLine_eq
          unfold zY at hz;omega
         ·cases e2:jY (.inl i) kvs with
          | none=>rw [rd.2 e2] at hv;cases hv
          | some w'=>
           rw [e2] at h3;obtain ⟨v'',hv2,rv⟩:=rd.1 w' e2;rw [hv] at hv2;cases hv2;exact h3 φ3 H3 _ l03 S3 rv
         ·cases e2:jY (.inl i) kvs with
          | some w'=>obtain ⟨v'',hv2,rv⟩:=rd.1 w' e2;rw [hn] at hv2;cases hv2
          | none=>
           rw [e2] at h3;dsimp only at h3;rw [Fj v3 hn];have ln:Le X.K φ3 H3 φ3 (upd H3 p (.dK (us++[(.inl i,v3)]))):=Le.upd f1 (λ xs z=>by rw [g1] at z;cases z) (λ _ _ z=>by rw [g1] at z;cases z)
           obtain ⟨w1,w2⟩:=S3.write (o:=.dct kvs) (o':=.dct (kvs++[(.inl i,w3)])) e1 rfl rfl f1 (u:=.dK (us++[(.inl i,v3)])) ⟨us++[(.inl i,v3)],jo,by simp [g2],by
            rw [map_append,map_append];exact (g3.mono ln).append (.one (q3.mono ln))⟩
           exact h3 _ _ _ (l03.trans w1) w2 (q3.mono w1)
        ·rw [if_neg hz] at h3;exact h3.elim
       | _=>rw [e1] at h3;exact h3.elim
     | _=>exact h3.elim
    | _=>exact h3.elim
   ·rw [if_neg hd] at h1;exact h1.elim
theorem Jn (ha:zA X xr a ma)(hb:zA X xr b mb):zA X xr (.BinOp a .Sub b pos) (zo Zy ma mb):=by
 (try simp only [zR] at *)
 exact Qv DB QA (Qx λ _ _ _ _=>rfl) ha hb
theorem zW {x1}{mr:Ea}(h:wI X xr es mr)(hl:Za mr n)(hn:n<=zY:=by decide):zA X xr (.Tuple es x1 pos) (zB mr):=by
 (try simp only [zR] at *)
 exact PE.imp (Pb h) λ σ H Q ⟨φ,A,ρ,S,re,h⟩=>by
   have h':=zU.mp h;cases e:mr ρ A with
   | ok ws A'=>
    rw [e] at h';refine ⟨φ,A,ρ,S,re,?_⟩;rw [e];intro φ1 H1 vs l1 S1 q1;refine ⟨by rw [<- q1.length,hl ρ A ws A' e];exact Zk hn,λ p hp=>?_⟩
    obtain ⟨a1,a2,a3⟩:=Jx S1 hp q1;exact h' _ _ _ (l1.trans a1) a2 a3
   | exc x A'=>rw [e] at h';refine ⟨φ,A,ρ,S,re,?_⟩;rw [e];exact h'
   | bad=>rw [e] at h';exact h'.elim
theorem ZU {q:jR}(hm:X.mg "tuple" = none)(ha:gD X xr e q)(hg:Gl X "tuple" := by rfl)(he:starEach [e] X.env=(false,eval e X.env)::starEach [] X.env:=by rfl):
  zA X xr (.Call (.Name "tuple" p) [e] [] pos) (mQ yQ q):=by
 (try simp only [zR] at *)
 exact Ac Nr (λ _ _=>jS) FQ hm (by rfl) ha hg (by decide) (by decide) he (by rfl)
theorem zl (i:Nat)(hN:X.N[i]? =some x:=by rfl)(hv:JR X.env.scope x:=by first | exact Or.inl rfl | exact Or.inr (Or.inl rfl) | exact Or.inr (Or.inr rfl))(hd:(x==("__debug__" : Str))=false:=by decide)
  (hcd:(x==("__classdict__" : Str))=false:=by decide):zA X xr (.Name x pos) (zc i):=by
 (try simp only [zR] at *)
 exact PE.imp (R5 hN hv hd hcd) λ σ H Q ⟨φ,A,ρ,S,r,h⟩=>by
  unfold zc at h;cases e:ρ[i]? with
  | none=>rw [e] at h;cases h
  | some o=>cases o with
   | none=>rw [e] at h;cases h
   | some w=>
    rw [e] at h;obtain ⟨v,h1,h2⟩:=r.get i w e;exact ⟨v,h1,h φ H v .refl S h2⟩
theorem Ht {mi:Ei}{tw:Tg}{mf:Ev}{em:Em}(nl:Nat)(cap:List Nat)(hc:X.calm=true)(S:gk X sc)(hcap:Zt X.N N sc nl cap=true)(hw:kK X xr tg iter mi)
  (hin:∀s H fp,wb (jc X N sc s H fp jC) tg tw/\g8 (jc X N sc s H fp jC) ifs mf/\gF (jc X N sc s H fp jC) elt (⟨tg,iter,ifs,0⟩::gs) sc pos 0 em)
  (ha:∀g',gs[0]? =some g'->g'.is_async=0:=by intro _ h;cases h<;>rfl)
  (hs:∀x,foldedSetIterable iter X.env x=pure x:=by intro _;rfl):Qe X xr (.ListComp elt (⟨tg,iter,ifs,0⟩::gs) sc pos) (zV nl cap mi tw mf em):=by
 (try simp only [zR] at *)
 exact PE.imp (FV (g:=tG X.K tw) (ti:=tT X.K j8 mf) (tm:=tE X.K em) hc S hcap ha hw hin hs) zV.read
theorem gc (i j:Nat){y:Str}{q:Pos}{k:Nat}(hc:X.calm=true)(hN:X.N.Nodup)(hi:X.N[i]? =some x:=by rfl)(hx:Loc X.env.scope x:=by first | exact Or.inl rfl | exact Or.inr rfl)(hf:X.fn x=true∨X.env.scope.names.lookup x=some .local:=by first | exact .inl rfl | exact .inr rfl)
  (hj:X.N[j]? =some y:=by rfl)(hy:Loc X.env.scope y:=by first | exact Or.inl rfl | exact Or.inr rfl)(hg:X.fn y=true∨X.env.scope.names.lookup y=some .local:=by first | exact .inl rfl | exact .inr rfl):wb X (.Tuple [.Name x p,.Name y q] k pos) (jG i j):=by
 (try simp only [zR] at *)
 exact PG.imp (XA hc (Zm (Zp hN hi hx hf) (Zm (Zp hN hj hy hg) K7))) λ v σ H Q ⟨φ,A,ρ,w,ρ',S,re,qq,e,kk⟩=>by
   unfold jG at e
   split at e
   ·rename_i x1 y1
    have e':=Option.some.inj e;subst e';obtain ⟨a,vs,rfl,hs,rs⟩:=qq;obtain ⟨v1,r1,rfl,h1,v2,r2,rfl,h2,rfl⟩:=rs;exact ⟨a,[v1,v2],rfl,hs,rfl,v1,[v2],rfl,v2,[],rfl,rfl,kk _ ((re.set h1).set h2)⟩
   ·cases e
theorem M5 (i j k:Nat){y z:Str}{q r pp:Pos}{n':Nat}(hc:X.calm=true)(hN:X.N.Nodup)(hi:X.N[i]? =some x:=by rfl)(hx:Loc X.env.scope x:=by first | exact Or.inl rfl | exact Or.inr rfl)(hf:X.fn x=true∨X.env.scope.names.lookup x=some .local:=by first | exact .inl rfl | exact .inr rfl)
  (hj:X.N[j]? =some y:=by rfl)(hy:Loc X.env.scope y:=by first | exact Or.inl rfl | exact Or.inr rfl)(hg:X.fn y=true∨X.env.scope.names.lookup y=some .local:=by first | exact .inl rfl | exact .inr rfl)
  (hk:X.N[k]? =some z:=by rfl)(hz:Loc X.env.scope z:=by first | exact Or.inl rfl | exact Or.inr rfl)(hh:X.fn z=true∨X.env.scope.names.lookup z=some .local:=by first | exact .inl rfl | exact .inr rfl):
  wb X (.Tuple [.Name x p,.Tuple [.Name y q,.Name z r] n' pp] n pos) (Wk i j k):=by
 (try simp only [zR] at *)
 exact PG.imp (XA hc (Zm (Zp hN hi hx hf) (Zm (XA hc (Zm (Zp hN hj hy hg) (Zm (Zp hN hk hz hh) K7))) K7))) λ v σ H Q ⟨φ,A,ρ,w,ρ',S,re,qq,e,kk⟩=>by
   unfold Wk at e
   split at e
   ·rename_i x1 y1 z1
    have e':=Option.some.inj e;subst e';obtain ⟨a,vs,rfl,hs,rs⟩:=qq;obtain ⟨v1,r1,rfl,h1,v2,r2,rfl,h2,rfl⟩:=rs;obtain ⟨a2,vs2,rfl,hs2,rs2⟩:=h2;obtain ⟨v3,r3,rfl,h3,v4,r4,rfl,h4,rfl⟩:=rs2;exact ⟨a,[v1,.ref a2],rfl,hs,rfl,v1,[.ref a2],rfl,.ref a2,[],rfl,a2,[v3,v4],rfl,hs2,rfl,v3,[v4],rfl,v4,[],rfl,rfl,rfl,kk _ (((re.set h1).set h3).set h4)⟩
   ·cases e
theorem qx (i:Nat)(hN:X.N.Nodup)(hi:X.N[i]? =some x:=by rfl)(hx:Loc X.env.scope x:=by first | exact Or.inl rfl | exact Or.inr rfl)(hf:X.fn x=true∨X.env.scope.names.lookup x=some .local:=by first | exact .inl rfl | exact .inr rfl):wb X (.Name x pos) (zK i):=by
 (try simp only [zR] at *)
 exact PG.imp (Zp hN hi hx hf) λ v σ H Q ⟨φ,A,ρ,w,ρ',S,re,q,e,k⟩=>by
   have e':ρ.set i (some w)=ρ':=Option.some.inj e;subst e';exact k _ (re.set q)
theorem yk (h:zA X xr e m):kK X xr tg e (qz m):=by
 (try simp only [zR] at *)
 exact PI.imp (DZ h) λ σ H Rr ⟨φ,A,ρ,S,re,h⟩=>by
  refine tM.go S re (zU.mp h) λ w A1 φ1 H1 v h1 l1 S1 q1=>?_;unfold YN at h1;cases e:zO w A1 with
  | none=>rw [e] at h1;exact h1.elim
  | some ws=>
   rw [e] at h1;dsimp only at h1;cases w with
   | tup us=>
    obtain ⟨a,ys,rfl,e2,e3⟩:=q1;refine ⟨a,rfl,.inr ⟨⟨ys,e2⟩,h1 φ1 H1 _ l1 S1 λ i φ' H' A' lw S'=>⟨λ w' ew=>?_,λ ew=>?_⟩⟩⟩
    ·have ew':us[i]? =some w':=Option.some.inj ew
     obtain ⟨y,h3,h4⟩:=(e3.monoW lw).get ew';refine ⟨⟨ys,y,lw.tp _ _ e2,h3⟩,λ x H3 yl=>?_⟩;obtain ⟨e5,e6⟩:=yl;subst e5;have e7:=e6 ys (lw.tp _ _ e2);rw [h3] at e7;cases e7;exact ⟨.refl,S',h4⟩
    ·have ew':us[i]? =none:=Option.some.inj ew
     refine ⟨ys,lw.tp _ _ e2,?_⟩;rw [<- e3.length];exact List.getElem?_eq_none_iff.mp ew'
   | ref n=>
    obtain ⟨a,rfl,e2⟩:=q1;have read:∀{φ' H' A' us},gE X.K φ1 H1 φ' H'->zJ X.K φ' A' H'->zO (.ref n) A'=some us->∃ys,qZ X.K H' a ys/\zE X.K φ' H' us ys:=λ {φ' H' A' us} lw S' es=>by
     obtain ⟨a',ys,ea,z,r⟩:=Kx (w:=.ref n) (v:=.ref a) S' ⟨a,rfl,lw.ex _ _ e2⟩ es;cases ea;unfold zO at es;dsimp only at es;cases ec:A'[n]? with
     | none=>rw [ec] at es;cases es
     | some o=>
      rw [ec] at es;obtain ⟨a',e3,r⟩:=S'.ob n o ec;rw [lw.ex _ _ e2] at e3;cases e3;cases o with
      | lst xs=>cases es;obtain ⟨ys,h1,h2⟩:=r;exact ⟨ys,qZ.of h1,h2⟩
      | ro xs=>cases es;obtain ⟨ys,h1,h2⟩:=r;exact ⟨ys,h1.sq,h2⟩
      | dct xs=>cases es
      | tab _ _=>cases es
    obtain ⟨ys0,hq0,_⟩:=read ⟨λ _ _ h=>h,λ _ _ h=>h,λ _ _ _ h=>h⟩ S1 e;refine ⟨a,rfl,.inl ⟨⟨ys0,hq0⟩,h1 φ1 H1 _ l1 S1 λ i φ' H' A' lw S'=>⟨λ w' ew=>?_,λ ew=>?_⟩⟩⟩
    ·dsimp only at ew
     cases es:zO (.ref n) A' with
     | none=>rw [es] at ew;cases ew
     | some us=>
      rw [es] at ew;have ew':us[i]? =some w':=Option.some.inj ew;obtain ⟨ys,hq,r⟩:=read lw S' es;obtain ⟨y,h3,h4⟩:=r.get ew';refine ⟨⟨ys,y,hq,h3⟩,λ x H3 yl=>?_⟩;obtain ⟨e5,e6⟩:=yl;subst e5;have e7:=e6 ys hq;rw [h3] at e7;cases e7;exact ⟨.refl,S',h4⟩
    ·dsimp only at ew
     cases es:zO (.ref n) A' with
     | none=>rw [es] at ew;cases ew
     | some us=>
      rw [es] at ew;have ew':us[i]? =none:=Option.some.inj ew;obtain ⟨ys,hq,r⟩:=read lw S' es;refine ⟨ys,hq,?_⟩;rw [<- r.length];exact List.getElem?_eq_none_iff.mp ew'
   | non=>cases e
   | bl _=>cases e
   | clo _ _ _=>cases e
   | xc _=>cases e
   | int _=>cases e
   | str _=>cases e
theorem Jd (hg:Gl X "enumerate")(hm:X.mg "enumerate" = none)(ha:zA X xr a ma)(hs:starEach [a] X.env=[(false,eval a X.env)]:=by rfl):kK X xr (.Tuple elts kk tpos) (.Call (.Name "enumerate" p) [a] [] pos) (ko ma):=by
 (try simp only [zR] at *)
 exact PI.imp (Ee hg hm (jj ha jW (by rw [hs];rfl)) hs) λ σ H Rr ⟨φ,A,ρ,S,re,h⟩=>by
   refine tM.go S re (zU.mp h) λ w A1 φ1 H1 v h1 l1 S1 q1=>?_;cases es:zO w A1 with
   | none=>rw [es] at h1;exact h1.elim
   | some ws=>
    rw [es] at h1;obtain ⟨p,ys,rfl,z1,z2⟩:=KQ S1 q1 es;exact ⟨p,Z7 w,ys,rfl,z1,h1 φ1 H1 _ l1 S1 (BJ q1)⟩
theorem Lz (ha:zA X xr a ma)(hbase:attributeBase a "items" X.env (eval a X.env)=eval a X.env:=by rfl)(hline:(apos.endLine==cpos.line)=true:=by rfl):
  kK X xr (.Tuple elts kk tpos) (.Call (.Attribute a "items" apos) [] [] cpos) (Yw ma):=by
 (try simp only [zR] at *)
 exact PI.imp (Ip ha hbase hline) λ σ H Rr ⟨φ,A,ρ,S,re,h⟩=>by
   unfold Yw at h;cases A with
   | cons o A=>exact h.elim
   | nil=>
    dsimp only at h;have hφ:φ=[]:=by have:=S.len;simpa using this
    subst hφ;refine tM.go S re (zU.mp h) λ w A1 φ1 H1 v h1 l1 S1 q1=>?_
    split at h1
    ·rename_i kvs
     by_cases hn:qS (kvs.map (·.2))=true
     ·rw [if_pos hn] at h1
      obtain ⟨p,us,rfl,f1,g1,g2,g3⟩:=S1.dct q1 (kvs:=kvs) rfl;have h0:H p=none:=by
       rcases l1.nw 0 p f1 with z | z
       ·simp at z
       ·exact z
      refine ⟨p,us,rfl,g1,λ o=>?_⟩;have tp:∀c vs,qv X.K H1 c vs->qv X.K (upd H1 p (.frz o (.dK us))) c vs:=λ c vs t=>Wg t (λ xs z=>by rw [g1] at z;cases z) (λ _ _ z=>by rw [g1] at z;cases z)
      have le:Le X.K [] H [] (upd H1 p (.frz o (.dK us))):=by
       refine ⟨λ n c z=>z,λ c vs t=>tp c vs (l1.tp c vs t),λ c u hc nn=>?_,λ n c z=>.inl z,λ c z=>?_,λ c u u' hc=>?_⟩
       ·rw [qf (yU hc h0)];exact l1.fr c u hc nn
       ·by_cases hcp:c=p
        ·rw [hcp];exact h0
        ·rw [qf hcp] at z;exact l1.st c z
       ·rw [qf (yU hc h0)];exact l1.fz c u u' hc
      exact h1 [] _ _ le zJ.none (BY (o:=o) jo g2 (g3.nrm tp (λ c u u' hc=>by rw [qf (JE hc g1 (by intro z;cases z))];exact hc) hn) hn)
     ·rw [if_neg hn] at h1;exact h1.elim
    ·exact h1.elim
theorem jA (hg:Gl X "range")(hm:X.mg "range" = none)(ha:zA X xr a ma)(hs:starEach [a] X.env=[(false,eval a X.env)]:=by rfl):kK X xr tg (.Call (.Name "range" p) [a] [] pos) (qR ma):=by
 (try simp only [zR] at *)
 exact PI.imp (Li hg hm (jj ha jW (by rw [hs];rfl)) hs) λ σ H Rr ⟨φ,A,ρ,S,re,h⟩=>by
   refine tM.go S re (zU.mp h) λ w A1 φ1 H1 v h1 l1 S1 q1=>?_;cases w with
   | int j=>
    obtain rfl:=q1;dsimp only at h1
    by_cases hj:jN j=true
    ·rw [if_pos hj] at h1
     obtain ⟨b1,b2⟩:=Q5 hj;exact ⟨j,rfl,b1,b2,h1 φ1 H1 _ l1 S1 D5⟩
    ·rw [if_neg hj] at h1;exact h1.elim
   | non=>exact h1.elim
   | bl _=>exact h1.elim
   | str _=>exact h1.elim
   | tup _=>exact h1.elim
   | ref _=>exact h1.elim
   | clo _ _ _=>exact h1.elim
   | xc _=>exact h1.elim
theorem Rn (hg:Gl X "zip")(hm:X.mg "zip" = none)(ha:zA X xr a ma)(hb:zA X xr b mb)(hs:starEach [a,b] X.env=(false,eval a X.env)::starEach [b] X.env:=by rfl)(hs2:starEach [b] X.env=(false,eval b X.env)::starEach [] X.env:=by rfl)(hp:(backTo pos (starEach [b] X.env)).any (·.1)=false:=by rfl):
  kK X xr (.Tuple elts kk tpos) (.Call (.Name "zip" p) [a,b] [] pos) (QH ma mb):=by
 (try simp only [zR] at *)
 exact PI.imp (Dr hg hm (jj ha (jj hb jW hs2) hs) hs hp) λ σ H Rr ⟨φ,A,ρ,S,re,h⟩=>by
   refine tM.go S re (zU.mp h) λ w A1 φ1 H1 v h1 l1 S1 q1=>?_;refine tM.go S1 (re.mono l1) (qj (zU.mp h1) (λ _ _ z=>z) λ _ _ z=>z.mono l1) λ w2 A2 φ2 H2 v2 h2 l2 S2 q2=>?_;cases es:zO w A2 with
   | none=>rw [es] at h2;exact h2.elim
   | some us=>
    cases es':zO w2 A2 with
    | none=>rw [es,es'] at h2;exact h2.elim
    | some vs=>
     rw [es,es'] at h2;have q1':=q1.mono l2;obtain ⟨p,xs,rfl,z1,z2⟩:=KQ S2 q1' es;obtain ⟨p',ys,rfl,z3,z4⟩:=KQ S2 q2 es';exact ⟨p,p',Z7 w,Z7 w2,xs,ys,rfl,z1,z3,h2 φ2 H2 _ (l1.trans l2) S2 (Ba q1' q2)⟩
theorem E7 {d:Nat}{me:Ev}(hx:∀e s,X.xe e s->False)(he:zA X j8 elt me)(hg:gens[d+1]? =none):gF X elt gens sc pos d (zM me):=by
 (try simp only [zR] at *)
 exact kB.imp (Sf hx he hg) λ D σ H Q ⟨φ,A,ρ,acc,ys,S,re,hD,nD,ra,h⟩=>by
   refine tM.go S re (Ye (zU.mp h)) λ w A1 φ1 H1 v h1 l1 S1 q1=>?_;obtain ⟨d1,n1⟩:=l1.off hD nD
   by_cases hz:acc.length<zY
   ·rw [if_pos hz] at h1
    have hl:=ra.length;refine ⟨ys,d1,?_,?_⟩
    ·rw [<- hl]
     have:sizeLine=16777216:=sizeLine_eq
     unfold zY at hz;omega
    ·exact h1 φ1 _ σ _ (l1.toD.trans (yb.upd d1)) n1 (S1.off d1 n1) ⟨re.len,λ i w e=>let ⟨v,a,b⟩:=re.get i w e;⟨v,a,(b.mono l1).monoD (yb.upd d1)⟩⟩ jo
      (((ra.mono l1).monoD (yb.upd d1)).append (.one (q1.monoD (yb.upd d1))))
   ·rw [if_neg hz] at h1;exact h1.elim
theorem EG {d:Nat}{mi:Ei}{tw:Tg}{mf:Ev}{em:Em}(hx:∀e s,X.xe e s->False)(hc:X.calm=true)(hg:gens[d+1]? =some ⟨tg,iter,ifs,0⟩)(ha:∀g',gens[d+2]? =some g'->g'.is_async=0)
  (hw:kK X j8 tg iter mi)(hgt:wb X tg tw)(hi:g8 X ifs mf)(hm:gF X elt gens sc pos (d+1) em)(hs:∀x,foldedSetIterable iter X.env x=pure x:=by intro _;rfl):gF X elt gens sc pos d (JH mi tw mf em):=by
 (try simp only [zR] at *)
 exact kB.imp (Iz hx hc hg ha hw hgt hi hm hs) λ D σ H Q ⟨φ,A,ρ,acc,ys,S,re,hD,nD,ra,h⟩=>by
   refine ⟨φ,A,ρ,S,re,qj (Ye (zU.mp h)) (λ j A1 h1 φ1 H1 J l1 S1 jr=>?_) λ _ _ z=>z⟩;obtain ⟨d1,n1⟩:=l1.off hD nD;exact qC.read jr S1 (re.mono l1) d1 n1 (ra.mono l1) (qj h1 (λ p A2 h2 φ2 H2 σ2 zs l2 n2 S2 re2 d2 r2=>h2 φ2 H2 σ2 zs (l1.toD.trans l2) n2 S2 re2 d2 r2) λ _ _ z=>z)
theorem ym (h:zA X xr e m):gD X xr e (qm m):=by
 (try simp only [zR] at *)
 exact PE.imp h λ σ H Q ⟨φ,A,ρ,S,re,h⟩=>by
  refine tM.go S re (zU.mp h) λ w A1 φ1 H1 v h1 l1 S1 q1=>?_;cases e:zO w A1 with
  | none=>rw [e] at h1;exact h1.elim
  | some ws=>
   rw [e] at h1;obtain ⟨a,ys,rfl,e2,e3⟩:=Kx S1 q1 e;exact h1 φ1 H1 a ys l1 S1 e2 e3
theorem km {q:jR}(h:Qe X xr e q):gD X xr e q:=by
 (try simp only [zR] at *)
 exact PE.imp h λ σ H Q ⟨φ,A,ρ,S,re,h⟩=>
  ⟨φ,A,ρ,S,re,qj h (λ ws A1 h1 φ1 H1 D ys l1 S1 h0 hD nD r=>h1 φ1 H1 D ys l1 S1 (.inl (qZ.of hD)) r) λ _ _ z=>z⟩
theorem Sr {o i:Expr}{mo mi:Ev}(ho:zA X xr o mo)(hi:zA X xr i mi)(he:zA X xr e m)
  (ha:∀ov iv new,augStore i ov iv new=(do holding [new,ov,iv] (setItem ov iv new);release [new,ov,iv] [];pure .next):=by intros;rfl):yS X xr (.AugAssign (.Subscript o i tpos) .Add e pos) (QD mo mi m):=by
 (try simp only [zR] at *)
 exact PS.imp (FK ho hi Hg he Dv set_list ha) λ D σ H ⟨φ,A,ρ,S,re,h⟩=>by
   refine tM.go S re (zU.mp h) λ w1 A1 φ1 H1 v1 h1 l1 S1 q1=>?_;refine tM.go S1 (re.mono l1) (qj (zU.mp h1) (λ _ _ z=>z) λ _ _ z=>z.mono l1) λ w2 A2 φ2 H2 v2 h2 l2 S2 q2=>?_;have l02:=l1.trans l2;cases w1 with
   | ref n=>cases w2 with
    | int k=>
     obtain rfl:=q2;dsimp only at h2
     by_cases h0:0<=k
     ·rw [if_pos h0] at h2
      cases e1:(A2[n]?:Option O) with
      | none=>rw [e1] at h2;exact h2.elim
      | some ob=>cases ob with
       | lst ws=>
        rw [e1] at h2;dsimp only at h2;obtain ⟨p,vs,rfl,f1,g1,r1⟩:=S2.lst (q1.mono l2) e1;cases e2:ws[k.toNat]? with
        | none=>rw [e2] at h2;exact h2.elim
        | some wx=>cases wx with
         | int x=>
          rw [e2] at h2;dsimp only at h2;obtain ⟨v,hv,rv⟩:=r1.get e2;obtain rfl:=rv;refine ⟨p,vs,k,_,rfl,rfl,h0,g1,hv,?_⟩;refine tM.go S2 (re.mono l02) (qj (zU.mp h2) (λ _ _ z=>z) λ _ _ z=>z.mono l02) λ w3 A3 φ3 H3 v3 h3 l3 S3 q3=>?_;have l03:=l02.trans l3;cases w3 with
          | int y=>
           obtain rfl:=q3;dsimp only at h3;refine ⟨x,y,rfl,rfl,?_⟩;refine Ra (K:=X.K) φ3 A3 H3 (.ref p) (.int k) (.int (x+y)) (.ref n) (.int k) (.int (x+y)) _ S3 ((q1.mono l2).mono l3) rfl rfl ?_;cases hr:wD (.ref n) (.int k) (.int (x+y)) A3 with
           | ok u A4=>
            rw [hr] at h3;exact λ φ4 H4 l4 S4=>h3 φ4 H4 σ (l03.trans l4) S4 (re.mono (l03.trans l4))
           | exc z A4=>exact absurd hr (Pg _ _ _ _ z A4)
           | bad=>rw [hr] at h3;exact h3.elim
          | _=>exact h3.elim
         | _=>rw [e2] at h2;exact h2.elim
       | _=>rw [e1] at h2;exact h2.elim
     ·rw [if_neg h0] at h2;exact h2.elim
    | _=>exact h2.elim
   | _=>cases w2<;>exact h2.elim
theorem zx (h1:yS X xr st m1)(h2:kA X xr rest m2):kA X xr (st::rest) (zq m1 m2):=by
 (try simp only [zR] at *)
 exact yq.imp (HN h1 h2) λ D σ H ⟨φ,A,ρ,S,re,h⟩=>by
   refine ⟨φ,A,ρ,S,re,qj (zU.mp h) (λ fl A1 h1=>?_) λ _ _ z=>z⟩;cases fl with
   | nx ρ1=>exact λ φ' H' σ' l S' r'=>⟨φ',A1,ρ1,S',r',qj h1 (λ _ _ z=>z.mono l) λ _ _ z=>z.mono l⟩
   | rt w=>exact h1
   | bk ρ1=>exact h1
   | ct ρ1=>exact h1
theorem kC (he:zA X xr e m)(hs:swapsWith e none pos.line X.env=pure false:=by rfl):yS X xr (.Expr e pos) (jI m):=by
 (try simp only [zR] at *)
 exact PS.imp (EX he hs) λ D σ H ⟨φ,A,ρ,S,re,h⟩=>tM.go S re (zU.mp h) λ w A1 φ1 H1 v h1 l1 S1 q1=>h1 φ1 H1 σ l1 S1 (re.mono l1)
theorem kD {mi:Ei}{tw:Tg}(hp:PassesOwn (model X.prog X.w) X.A X.env X.xe)(hc:X.calm=true)(hi:kK X xr tg iter mi)(hg:wb X tg tw)(hb:kA X xr body m1)
  (hs:∀x,foldedSetIterable iter X.env x=pure x:=by intro _;rfl):yS X xr (.For tg iter body [] pos) (jT mi tw m1):=by
 (try simp only [zR] at *)
 exact PS.imp (CB hp hc hi hg hb hs) λ D σ H ⟨φ,A,ρ,S,re,h⟩=>by
   refine ⟨φ,A,ρ,S,re,qj (zU.mp h) (λ j A1 h1 φ1 H1 J l1 S1 jr=>?_) λ _ _ z=>z⟩;refine ⟨λ i f σ' H'=>Ol X.K xr j (turn tw m1) D φ1 H1 f i σ' H',
    ⟨j.len,φ1,A1,ρ,.refl,S1,re.mono l1,qj h1 (λ _ _ z=>z.mono l1) λ _ _ z=>z.mono l1⟩,?_⟩
   rintro i f σ2 H2 ⟨φ2,A2,ρ2,l2,S2,re2,h2⟩
   obtain ⟨j1,j2⟩:=jr i φ2 H2 A2 ⟨l2.ex,l2.tp,l2.fz⟩ S2;cases ej:j.at_ A2 i with
   | none=>cases f<;>(unfold yG at h2;rw [ej] at h2;exact h2.elim)
   | some o=>
    cases o with
    | none=>
     left
     refine ⟨j2 ej,?_⟩;cases f<;>(unfold yG at h2;rw [ej] at h2;exact h2 φ2 H2 σ2 .refl S2 re2)
    | some w=>
     right
     obtain ⟨go,yl⟩:=j1 w ej;cases f with
     | zero=>unfold yG at h2;rw [ej] at h2;exact h2.elim
     | succ f=>
      unfold yG at h2;rw [ej] at h2;refine ⟨go,λ σ' H'=>Ol X.K xr j (turn tw m1) D φ1 H1 f (i+1) σ' H',λ σ' H' z=>⟨f,lt_succ_self _,z⟩,λ x H3 y=>?_⟩;obtain ⟨l3,S3,q3⟩:=yl x H3 y;have h3:=zU.mp h2;unfold turn at h3;cases et:tw w ρ2 with
      | none=>rw [et] at h3;exact h3.elim
      | some ρ3=>
       rw [et] at h3;refine ⟨φ2,A2,ρ2,w,ρ3,S3,re2.mono l3,q3,et,λ σ3 re3=>?_⟩;refine ⟨φ2,A2,ρ3,S3,re3,qj h3 (λ fl A4 h4=>?_) λ _ _ z=>z.mono l3⟩;cases fl with
       | nx ρ4=>exact λ φ4 H4 σ4 l4 S4 re4=>⟨φ4,A4,ρ4,(l2.trans l3).trans l4,S4,re4,qj h4 (λ _ _ z=>z.mono (l3.trans l4)) λ _ _ z=>z.mono (l3.trans l4)⟩
       | ct ρ4=>exact λ φ4 H4 σ4 l4 S4 re4=>⟨φ4,A4,ρ4,(l2.trans l3).trans l4,S4,re4,qj h4 (λ _ _ z=>z.mono (l3.trans l4)) λ _ _ z=>z.mono (l3.trans l4)⟩
       | bk ρ4=>exact λ φ4 H4 σ4 l4 S4 re4=>h4 φ4 H4 σ4 (l3.trans l4) S4 re4
       | rt w4=>exact λ φ4 H4 v4 l4 S4 q4=>h4 φ4 H4 v4 (l3.trans l4) S4 q4
theorem jB {sa sb:List Stmt}(hc:yr X xr c mc)(ha:kA X xr sa m1)(hb:kA X xr sb m2):yS X xr (.If c sa sb pos) (qw mc m1 m2):=by
 (try simp only [zR] at *)
 exact PS.imp (Bz hc ha hb) λ D σ H ⟨φ,A,ρ,S,re,h⟩=>by
   refine tT.go S re (zU.mp h) λ w A1 h1=>?_;cases w with
   | bl k=>
    refine ⟨k,rfl,λ φ1 H1 l1 S1=>?_⟩;cases k with
    | true=>rw [if_pos rfl];exact ⟨φ1,A1,ρ,S1,re.mono l1,qj h1 (λ _ _ z=>z.mono l1) λ _ _ z=>z.mono l1⟩
    | false=>rw [if_neg Bool.false_ne_true];exact ⟨φ1,A1,ρ,S1,re.mono l1,qj h1 (λ _ _ z=>z.mono l1) λ _ _ z=>z.mono l1⟩
   | non=>cases h1
   | int _=>cases h1
   | str _=>cases h1
   | tup _=>cases h1
   | ref _=>cases h1
   | clo _ _ _=>cases h1
   | xc _=>cases h1
theorem zI:kA X xr [] zy:=by
 (try simp only [zR] at *)
 exact yq.imp FU λ D σ H ⟨φ,A,ρ,S,re,h⟩=>h φ H σ .refl S re
theorem qk (he:zA X xr e m):yS X xr (.Return (some e) pos) (qc m):=by
 (try simp only [zR] at *)
 exact PS.imp (D2 he) λ D σ H ⟨φ,A,ρ,S,re,h⟩=>tM.go S re (zU.mp h) λ w A1 φ1 H1 v h1 l1 S1 q1=>h1 φ1 H1 v l1 S1 q1
theorem qA (i:Nat){pos':Pos}(hN:X.N.Nodup)(he:zA X xr e m)(hi:X.N[i]? =some x:=by rfl)(hx:Loc X.env.scope x:=by first | exact Or.inl rfl | exact Or.inr rfl)(hs:swapsWith e (some (.Name x pos')) pos.line X.env=pure false:=by rfl)
  (hf:X.fn x=true∨X.env.scope.names.lookup x=some .local:=by first | exact .inl rfl | exact .inr rfl):yS X xr (.Assign [.Name x pos'] e pos) (zZ i m):=by
 (try simp only [zR] at *)
 exact PS.imp (D6 hN hi hx he hs hf) zZ.read
theorem J2 (i:Nat){mi:Ei}{tw:Tg}{mf:Ev}{em:Em}{px spos:Pos}(nl:Nat)(cap:List Nat)(hN:X.N.Nodup)
  (hc:X.calm=true)(S:gk X sc)(hcap:Zt X.N N sc nl cap=true)(hw:kK X xr tg iter mi)
  (hin:∀s H fp,wb (jc X N sc s H fp jC) tg tw/\g8 (jc X N sc s H fp jC) ifs mf/\gF (jc X N sc s H fp jC) elt (⟨tg,iter,ifs,0⟩::gs) sc pos 0 em)
  (hi':X.N[i]? =some x:=by rfl)(hx:X.env.scope.names.lookup x=some .local:=by rfl)
  (hsw:swapsWith (.ListComp elt (⟨tg,iter,ifs,0⟩::gs) sc pos) (some (.Name x px)) spos.line X.env=pure true:=by rfl)
  (ha:∀g',gs[0]? =some g'->g'.is_async=0:=by intro _ h;cases h<;>rfl)
  (hs:∀x,foldedSetIterable iter X.env x=pure x:=by intro _;rfl):yS X xr (.Assign [.Name x px] (.ListComp elt (⟨tg,iter,ifs,0⟩::gs) sc pos) spos) (zZ i (ql (zV nl cap mi tw mf em))):=by
 (try simp only [zR] at *)
 exact PS.imp (L2.MV (g:=tG X.K tw) (ti:=tT X.K j8 mf) (tm:=tE X.K em) hN hi' hx hsw hc S hcap ha hw hin hs) λ D σ H h=>zV.read σ H _ (ql.read σ H _ (zZ.read D σ H h))
theorem KP (h:gC X xr e m):yr X xr e m:=by
 (try simp only [zR] at *)
 exact PW.pt h
theorem j0 {g:W->W->Hx->R W}(h:wB X op g)(ha:zA X xr a ma)(hb:zA X xr b mb)(h1:op≠.In:=by decide)(h2:op≠.NotIn:=by decide):yr X xr (.Compare a [op] [b] pos) (zo g ma mb):=by
 (try simp only [zR] at *)
 exact let ⟨r,a1,a2,a3⟩:=h.ex;Pc a1 a2 a3 ha hb (h.mks b h1 h2)
theorem DO {op':CmpOp}{g g':W->W->Hx->R W}(h:wB X op g)(h':wB X op' g')(ha:zA X xr a ma)(hb:zA X xr b mb)(hc:zA X xr c mc)(hm:lastMarks [op,op'] [b,c]=false:=by with_unfolding_all rfl):
  yr X xr (.Compare a [op,op'] [b,c] pos) (yO g g' ma mb mc):=by
 (try simp only [zR] at *)
 exact let ⟨r,a1,a2,a3⟩:=h.ex;let ⟨r',b1,b2,b3⟩:=h'.ex;Hj a1 a2 a3 b1 b2 b3 ha hb hc hm
theorem Pf {g:W->W->Hx->R W}(h:Wz X op g)(ha:zA X xr a ma)(hb:zA X xr b mb)(hm:behindInMarks op b=false:=by rfl):yr X xr (.Compare a [op] [b] pos) (zo g ma mb):=by
 (try simp only [zR] at *)
 exact let ⟨r,a1,a2,a3⟩:=h.ex;Pc a1 a2 a3 ha hb hm
theorem Zo (ha:yr X xr a ma):yr X xr (.UnaryOp .Not a pos) (yK ma):=by
 (try simp only [zR] at *)
 exact PT.imp (CQ ha) λ σ H Q ⟨φ,A,ρ,S,re,h⟩=>by
   refine tT.go S re (zU.mp h) λ w A1 h1=>?_;cases w with
   | bl k=>obtain ⟨b,e,q⟩:=h1;cases e;exact ⟨k,rfl,λ φ1 H1 l1 S1=>q φ1 H1 l1 S1⟩
   | non=>cases h1
   | int _=>cases h1
   | str _=>cases h1
   | tup _=>cases h1
   | ref _=>cases h1
   | clo _ _ _=>cases h1
   | xc _=>cases h1
theorem gi (h:zA X xr e m)(he:∀whole,isTrue e X.env whole=(do let v <- whole;standAt e.pos;holding [v] (truthy v)):=by intro _;rfl):yr X xr e m:=by
 (try simp only [zR] at *)
 exact PT.imp (C6 h he) λ σ H Q h=>h.toM
theorem qL:g8 X [] (zi (.bl true)):=by
 (try simp only [zR] at *)
 exact Mi.Ro
theorem SD (h:yr X j8 c mc):g8 X [c] mc:=by
 (try simp only [zR] at *)
 exact IE h
theorem EW {rest:List Expr}(ha:yr X xr a ma)(hb:gC X xr (.BoolOp .And (b::rest) pos) mb):gC X xr (.BoolOp .And (a::b::rest) pos) (yL ma mb):=by
 (try simp only [zR] at *)
 exact PW.imp (pw_and ha hb) λ σ H Q ⟨φ,A,ρ,S,re,h⟩=>by
   refine tT.go S re (zU.mp h) λ w A1 h1=>?_;cases w with
   | bl k=>
    refine ⟨k,rfl,λ φ1 H1 l1 S1=>?_⟩;cases k with
    | true=>rw [if_pos rfl];exact tT.mono S1 l1 re h1
    | false=>rw [if_neg Bool.false_ne_true];obtain ⟨b,e,q⟩:=h1;cases e;exact q φ1 H1 l1 S1
   | non=>cases h1
   | int _=>cases h1
   | str _=>cases h1
   | tup _=>cases h1
   | ref _=>cases h1
   | clo _ _ _=>cases h1
   | xc _=>cases h1
theorem HY (ha:yr X xr a ma):gC X xr (.BoolOp .And [a] pos) ma:=by
 (try simp only [zR] at *)
 exact pw_and1 ha
theorem Xx {rest:List Expr}(ha:yr X xr a ma)(hb:gC X xr (.BoolOp .Or (b::rest) pos) mb):gC X xr (.BoolOp .Or (a::b::rest) pos) (Zf ma mb):=by
 (try simp only [zR] at *)
 exact PW.imp (pw_or ha hb) λ σ H Q ⟨φ,A,ρ,S,re,h⟩=>by
   refine tT.go S re (zU.mp h) λ w A1 h1=>?_;cases w with
   | bl k=>
    refine ⟨k,rfl,λ φ1 H1 l1 S1=>?_⟩;cases k with
    | false=>rw [if_neg Bool.false_ne_true];exact tT.mono S1 l1 re h1
    | true=>rw [if_pos rfl];obtain ⟨b,e,q⟩:=h1;cases e;exact q φ1 H1 l1 S1
   | non=>cases h1
   | int _=>cases h1
   | str _=>cases h1
   | tup _=>cases h1
   | ref _=>cases h1
   | clo _ _ _=>cases h1
   | xc _=>cases h1
theorem Xt (ha:yr X xr a ma):gC X xr (.BoolOp .Or [a] pos) ma:=by
 (try simp only [zR] at *)
 exact pw_or1 ha
theorem jK {K:Frag}{st:Stmt}{k:Nat}{m:Ex}(F:wg K x x st f fd)(hm:mg x=some (.ref f))(S:qP N ps (qi st))
  (hb:∀(kV doc pm:Value) (an:Option Addr) (cdv ct:Value) (us:List Value),us.length=ps.length->bindArgs (fnOf x x (ZZ st) (yC st) (qi st) .none kV doc pm an cdv ct) ⟨us,[]⟩=pure (ps.zip us))
  (hbody:∀(cdv:Value) (A:Around) (outer:List Env) (s:Shared) (H:Hp) (E:XK),jm k (A.deeper (envOfC x (qi st) s.heap.objs.size f cdv))->kA (wF wY P w K mg base N x (qi st) f cdv A outer s H E).nox j8 (yC st) m):
  zN P w K mg base (k+1) x ps.length (qN N.length m):=by
 (try simp only [zR] at *)
 refine ⟨f,fd,ps,?_,hm,F.kp,F.binds hb⟩;refine F.ok S (λ vs H Q E h=>h.len) λ cdv A outer s H vs Q E hr ⟨hl,φ,A1,ws,Sm,r,h⟩=>⟨_,hbody cdv A outer s H E hr,?_⟩;refine ⟨φ,A1,ws.map some++List.replicate (N.length - ws.length) none,Sm,RE.start r,?_⟩;have h':=zU.mp h;show R.post _ (FB K φ H _) _;cases er:m (ws.map some++List.replicate (N.length - ws.length) none) A1 with
 | ok fl A2=>
  rw [er] at h';cases fl with
  | rt w=>exact h'
  | nx ρ=>exact λ φ' H' σ' l S' _=>h' φ' H' .non l S' rfl
  | bk ρ=>exact h'.elim
  | ct ρ=>exact h'.elim
 | exc y A2=>
  rw [er] at h';exact h'.elim
 | bad=>rw [er] at h';exact h'.elim
theorem Xr (hm:X.mg "abs" = none)(ha:zA X xr e m)(hgl:Gl X "abs" := by rfl)(he:starEach [e] X.env=(false,eval e X.env)::starEach [] X.env:=by rfl):zA X xr (.Call (.Name "abs" p) [e] [] pos) (jU YF m):=by
 (try simp only [zR] at *)
 exact BU HR (λ w A=>by unfold YF;split;exact jS;exact qU) (λ φ A H x u Q S q p=>by
   cases u with
   | int i=>obtain rfl:=q;exact ⟨i,rfl,p φ H _ .refl S rfl⟩
   | _=>exact p.elim) hm (by rfl) ha hgl (by decide) (by decide) he (by rfl)
theorem ZT (ho:zA X xr a ma)(he:zA X xr b mb)(hs:starEach [b] X.env=(false,eval b X.env)::starEach [] X.env:=by rfl)
  (hbase:attributeBase a "append" X.env (eval a X.env)=eval a X.env:=by rfl)
  (hfew:((backTo cpos (starEach [b] X.env)).all (λ x=>!x.1)&&(backToKw cpos (keywordEach [] X.env)).all (λ x=>x.1.isSome)
   && decide ([b].length+([]:List Keyword).length+(if ([]:List Keyword).isEmpty then 0 else 1)<30))=true:=by rfl)(hline:(apos.endLine==cpos.line)=true:=by rfl):
  zA X xr (.Call (.Attribute a "append" apos) [b] [] cpos) (jO yd ma mb):=by
 (try simp only [zR] at *)
 exact X0 PySem.F.slot_list_append PySem.F.type_list_append TF M9 (λ φ A H x y u v Q S q1 q2 p=>by
   unfold yd at p;cases u with
   | ref n=>
    dsimp only at p;cases e1:A[n]? with
    | none=>rw [e1] at p;exact p.elim
    | some o=>cases o with
     | lst ws=>
      rw [e1] at p;dsimp only at p
      by_cases hz:ws.length<zY
      ·rw [if_pos hz] at p
       obtain ⟨l,vs,rfl,f1,g1,r1⟩:=S.lst q1 e1;refine ⟨l,vs,y,rfl,rfl,g1,?_,?_⟩
       ·rw [<- r1.length]
        have:sizeLine=16777216:=sizeLine_eq
        unfold zY at hz;omega
       ·have ln:Le X.K φ H φ (upd H l (.lst (vs++[y]))):=Le.upd f1 (λ xs z=>by rw [g1] at z;cases z) (λ _ _ z=>by rw [g1] at z;cases z)
        obtain ⟨w1,w2⟩:=S.write (o:=.lst ws) (o':=.lst (ws++[v])) e1 rfl rfl f1 ⟨_,jo,(r1.mono ln).append (.one (q2.mono ln))⟩;exact p _ _ _ w1 w2 rfl
      ·rw [if_neg hz] at p;exact p.elim
     | _=>rw [e1] at p;exact p.elim
   | _=>exact p.elim) ho he hs hbase hfew hline
theorem J8 (hm:X.mg "int" = none)(ha:zA X xr e m)(hgl:Gl X "int" := by rfl)(he:starEach [e] X.env=(false,eval e X.env)::starEach [] X.env:=by rfl):zA X xr (.Call (.Name "int" p) [e] [] pos) (jU QG m):=by
 (try simp only [zR] at *)
 exact Dt Ly (λ w A=>by unfold QG;split;exact jS;exact jS;exact qU) (λ φ A H x u Q S q p=>by
   cases u with
   | int i=>obtain rfl:=q;exact .inl ⟨i,rfl,p φ H _ .refl S rfl⟩
   | bl k=>obtain rfl:=q;exact .inr ⟨k,rfl,p φ H _ .refl S rfl⟩
   | _=>exact p.elim) hm (by rfl) ha hgl (by decide) (by decide) he (by rfl)
theorem IT (hc:X.calm=true)(hm:X.mg "max" = none)(ha:zA X xr a ma)(hb:zA X xr b mb)(hgl:Gl X "max" := by rfl)(h1:starEach [a,b] X.env=(false,eval a X.env)::starEach [b] X.env:=by rfl)(h2:starEach [b] X.env=(false,eval b X.env)::starEach [] X.env:=by rfl)(hpl:(backTo pos (starEach [b] X.env)).any (·.1)=false:=by rfl):
  zA X xr (.Call (.Name "max" p) [a,b] [] pos) (zo XS ma mb):=by
 (try simp only [zR] at *)
 exact XZ (L1 hc) QA (λ φ A H x y u v Q S q1 q2 p=>by
   obtain ⟨i,j,e1,e2,q⟩:=Qx (K:=X.K) (f:=λ i j=>.int (if j > i then j else i)) (g:=λ i j=>.int (if j > i then j else i)) (λ _ _ _ _=>rfl) φ A H x y u v Q S q1 q2 p;subst e1;subst e2;exact ⟨i,j,rfl,q⟩) hm (by rfl) ha hb hgl (by decide) (by decide) h1 h2 hpl
theorem Ia (ho:zA X xr a ma)(he:zA X xr b mb)(hs:starEach [b] X.env=(false,eval b X.env)::starEach [] X.env:=by rfl)
  (hbase:attributeBase a "pop" X.env (eval a X.env)=eval a X.env:=by rfl)
  (hfew:((backTo cpos (starEach [b] X.env)).all (λ x=>!x.1)&&(backToKw cpos (keywordEach [] X.env)).all (λ x=>x.1.isSome)
   && decide ([b].length+([]:List Keyword).length+(if ([]:List Keyword).isEmpty then 0 else 1)<30))=true:=by rfl)(hline:(apos.endLine==cpos.line)=true:=by rfl):
  zA X xr (.Call (.Attribute a "pop" apos) [b] [] cpos) (jO gR ma mb):=by
 (try simp only [zR] at *)
 exact X0 PySem.F.slot_list_pop PySem.F.type_list_pop IL Fs (λ φ A H x y u v Q S q1 q2 p=>by
   unfold gR at p;cases u with
   | ref n=>cases v with
    | int i=>
     obtain rfl:=q2;dsimp only at p;cases e1:A[n]? with
     | none=>rw [e1] at p;exact p.elim
     | some o=>cases o with
      | lst ws=>
       rw [e1] at p;dsimp only at p
       by_cases hz:jN i=true
       ·rw [if_pos hz] at p
        obtain ⟨b1,b2⟩:=Q5 hz;cases e2:seqIndex? i ws.length with
        | none=>rw [e2] at p;exact p.elim
        | some k=>
         rw [e2] at p;dsimp only at p;cases e3:ws[k]? with
         | none=>rw [e3] at p;exact p.elim
         | some w=>
          rw [e3] at p;obtain ⟨l,vs,rfl,f1,g1,r1⟩:=S.lst q1 e1;obtain ⟨y,h1,h2⟩:=r1.get e3;have ln:Le X.K φ H φ (upd H l (.lst (vs.eraseIdx k))):=Le.upd f1 (λ xs z=>by rw [g1] at z;cases z) (λ _ _ z=>by rw [g1] at z;cases z)
          obtain ⟨w1,w2⟩:=S.write (o:=.lst ws) (o':=.lst (ws.eraseIdx k)) e1 rfl rfl f1 ⟨_,jo,(r1.erase k).mono ln⟩;exact ⟨l,vs,i,k,y,rfl,rfl,g1,by omega,by omega,by rw [<- r1.length];exact e2,h1,p _ _ _ w1 w2 (h2.mono w1)⟩
       ·rw [if_neg hz] at p;exact p.elim
      | _=>rw [e1] at p;exact p.elim
    | _=>exact p.elim
   | _=>cases v<;>exact p.elim) ho he hs hbase hfew hline
theorem Xq (ha:zA X xr a ma)(hb:zA X xr b mb):zA X xr (.BinOp a .Pow b pos) (zo Qa ma mb):=by
 (try simp only [zR] at *)
 exact Qv CW X4 (XJ FX λ _ _ _ _=>rfl) ha hb
theorem Yi {x j}:zA X xr (.Constant (.str x) j pos) (zi (.str x)):=by
 (try simp only [zR] at *)
 exact PE.imp Dq λ σ H Q ⟨φ,A,ρ,S,r,h⟩=>h φ H _ .refl S rfl
theorem RB (ha:zA X xr a ma)(hb:zA X xr b mb):zA X xr (.BinOp a .BitXor b pos) (zo Vi ma mb):=by
 (try simp only [zR] at *)
 exact Qv Cd QA (Qx λ _ _ _ _=>rfl) ha hb
theorem Sj {q:jR}(hm:X.mg "list" = none)(ha:gD X xr e q)(hg:Gl X "list" := by rfl)(he:starEach [e] X.env=(false,eval e X.env)::starEach [] X.env:=by rfl):
  zA X xr (.Call (.Name "list" p) [e] [] pos) (ql q):=by
 (try simp only [zR] at *)
 exact PE.imp (Q7 NT hg hm (by rfl) (jj ha jW he) (by decide) (by decide) he (by rfl)) λ σ H Q ⟨φ,A,ρ,S,re,h⟩=>by
   refine ⟨φ,A,ρ,S,re,qj (zU.mp h) (λ ws A1 h1 φ1 H1 a ys l1 S1 z r=>?_) λ _ _ z=>z⟩;refine ⟨a,ys,rfl,z,λ l hl=>?_⟩;obtain ⟨a1,a2,a3⟩:=Qs S1 hl r;exact h1 _ _ _ (l1.trans a1) a2 a3
theorem Ru {o i:Expr}{mo mi:Ev}(he:zA X xr e m)(ho:zA X xr o mo)(hi:zA X xr i mi)
  (hs:swapsWithSole [.Subscript o i tpos] e pos.line X.env=pure false:=by rfl)(hw:swappedStores [.Subscript o i tpos] e X.env=pure none:=by rfl)
  (h1:(assignEach [.Subscript o i tpos] X.env).map (·.2)=[assign (.Subscript o i tpos) X.env]:=by rfl)
  (ha:∀v,assign (.Subscript o i tpos) X.env v=(do
   let ov <- holding [v] (eval o X.env)
   let iv <- holding [v,ov] (eval i X.env)
   standAt tpos
   holding [v,ov,iv] (setItem ov iv v)
   release [v,ov,iv] []):=by intro _;rfl):yS X xr (.Assign [.Subscript o i tpos] e pos) (Jv wD m mo mi):=by
 (try simp only [zR] at *)
 exact IY set_list Pg Ra he ho hi hs hw h1 ha
theorem M8 (f:Nat)(hp:PassesOwn (model X.prog X.w) X.A X.env X.xe)(hc:yr X xr c mc)(hb:kA X xr body m1):yS X xr (.While c body [] pos) (XI f mc m1):=by
 (try simp only [zR] at *)
 exact PS.imp (IV hp hc hb) λ D σ H ⟨φ,A,ρ,S,re,h⟩=>by
   refine ⟨λ f σ' H'=>∃φ2 A2 ρ2,Le X.K φ H φ2 H'/\zJ X.K φ2 A2 H'/\RE X.K φ2 H' ρ2 σ'/\(ZA mc m1 f ρ2 A2).post (FB X.K φ2 H' D) (EB X.K φ2 H' xr),⟨f,φ,A,ρ,.refl,S,re,h⟩,?_⟩
   rintro f σ2 H2 ⟨φ2,A2,ρ2,l2,S2,re2,h2⟩
   cases f with
   | zero=>exact h2.elim
   | succ f=>
    unfold ZA at h2;refine tT.go S2 re2 (zU.mp h2) λ w A3 h3=>?_;cases w with
    | bl k=>
     refine ⟨k,rfl,λ φ3 H3 l3 S3=>?_⟩;cases k with
     | true=>
      rw [if_pos rfl];refine ⟨λ σ' H'=>∃φ2 A2 ρ2,Le X.K φ H φ2 H'/\zJ X.K φ2 A2 H'/\RE X.K φ2 H' ρ2 σ'/\(ZA mc m1 f ρ2 A2).post (FB X.K φ2 H' D) (EB X.K φ2 H' xr),λ σ' H' z=>⟨f,lt_succ_self _,z⟩,?_⟩;refine ⟨φ3,A3,ρ2,S3,re2.mono l3,qj (zU.mp h3) (λ fl A4 h4=>?_) λ _ _ z=>z.mono l3⟩;cases fl with
      | nx ρ4=>exact λ φ4 H4 σ4 l4 S4 re4=>⟨φ4,A4,ρ4,(l2.trans l3).trans l4,S4,re4,qj h4 (λ _ _ z=>z.mono (l3.trans l4)) λ _ _ z=>z.mono (l3.trans l4)⟩
      | ct ρ4=>exact λ φ4 H4 σ4 l4 S4 re4=>⟨φ4,A4,ρ4,(l2.trans l3).trans l4,S4,re4,qj h4 (λ _ _ z=>z.mono (l3.trans l4)) λ _ _ z=>z.mono (l3.trans l4)⟩
      | bk ρ4=>exact λ φ4 H4 σ4 l4 S4 re4=>h4 φ4 H4 σ4 (l3.trans l4) S4 re4
      | rt w4=>exact λ φ4 H4 v4 l4 S4 q4=>h4 φ4 H4 v4 (l3.trans l4) S4 q4
     | false=>
      rw [if_neg Bool.false_ne_true];exact h3 φ3 H3 σ2 l3 S3 (re2.mono l3)
    | non=>cases h3
    | int _=>cases h3
    | str _=>cases h3
    | tup _=>cases h3
    | ref _=>cases h3
    | clo _ _ _=>cases h3
    | xc _=>cases h3
end
end Mi
variable {mr:Mi.Ea}{mi:Mi.Ei}{em:Mi.Em}{ρ:Mi.En}{me:Mi.Ev}{qe qg:Mi.Fn}{A A1 B:Mi.Hx}{ws:List Mi.W}{o:Mi.O}{tw:Mi.Tg}{g:Mi.W->Mi.W->Mi.Hx->Mi.R Mi.W}{xr:Mi.XR}{q:Mi.jR}
set_option maxHeartbeats 400000
namespace Mi
open PySem L2
section
variable {ρ1:En}{A2:Hx}{w x y:W}{m ma mb mc:Ev}{m1 m2:Ex}{f:Fn}
theorem zu (h:ρ[i]? =some (some w)):zc i ρ A=.ok w A:=by unfold zc;rw [h]
theorem q9:zi w ρ A=.ok w A:=rfl
theorem zQ (h1:ma ρ A=.ok x A1)(h2:mb ρ A1=.ok y A2):zo g ma mb ρ A=g x y A2:=by unfold zo;rw [h1,zL,h2,zL]
theorem wm {k:Bool}(h:ma ρ A=.ok (.bl k) A1):yK ma ρ A=.ok (.bl (!k)) A1:=by unfold yK;rw [h,zL]
theorem Z2 (h:ma ρ A=.ok (.bl true) A1):yL ma mb ρ A=mb ρ A1:=by unfold yL;rw [h,zL]
theorem Yt (h:ma ρ A=.ok (.bl false) A1):yL ma mb ρ A=.ok (.bl false) A1:=by unfold yL;rw [h,zL]
theorem X3 (h:ma ρ A=.ok (.bl false) A1):Zf ma mb ρ A=mb ρ A1:=by unfold Zf;rw [h,zL]
theorem zT {a:Ea}(h:a ρ A=.ok ws A1):zF f a ρ A=f ws A1:=by unfold zF;rw [h,zL]
theorem zX:zm ρ A=.ok [] A:=rfl
theorem zH {r:Ea}(h1:ma ρ A=.ok x A1)(h2:r ρ A1=.ok ws A2):zh ma r ρ A=.ok (x::ws) A2:=by unfold zh;rw [h1,zL,h2,zL]
theorem Xg {a:Ea}(h:a ρ A=.ok ws A1):zB a ρ A=.ok (.tup ws) A1:=by unfold zB;rw [h,zL]
theorem yf {a:Ea}(h:a ρ A=.ok ws A1):zS a ρ A=.ok (.ref A1.length) (A1++[.lst ws]):=by unfold zS;rw [h,zL]
theorem zG (h:m1 ρ A=.ok (.nx ρ1) A1):zq m1 m2 ρ A=m2 ρ1 A1:=by unfold zq;rw [h,zL]
theorem qG (h:m1 ρ A=.ok (.rt w) A1):zq m1 m2 ρ A=.ok (.rt w) A1:=by unfold zq;rw [h,zL]
theorem jq:zy ρ A=.ok (.nx ρ) A:=rfl
theorem qM (h:m ρ A=.ok w A1):zZ i m ρ A=.ok (.nx (ρ.set i (some w))) A1:=by unfold zZ;rw [h,zL]
theorem yu (h:m ρ A=.ok w A1):jI m ρ A=.ok (.nx ρ) A1:=by unfold jI;rw [h,zL]
theorem jd (h:m ρ A=.ok w A1):qc m ρ A=.ok (.rt w) A1:=by unfold qc;rw [h,zL]
theorem gw (h:mc ρ A=.ok (.bl true) A1):qw mc m1 m2 ρ A=m1 ρ A1:=by unfold qw;rw [h,zL]
theorem j4 (h:mc ρ A=.ok (.bl false) A1):qw mc m1 m2 ρ A=m2 ρ A1:=by unfold qw;rw [h,zL]
theorem kP {j:jy}(h:mi ρ A=.ok j A1):jT mi tw m1 ρ A=yG j (turn tw m1) j.len 0 ρ A1:=by unfold jT;rw [h,zL]
theorem kS (h:tw w ρ=some ρ1):turn tw m1 w ρ A=m1 ρ1 A:=by unfold turn;rw [h]
theorem U5 {j:jy}{st:W->Ex}(h:j.at_ A i=some none):yG j st n i ρ A=.ok (.nx ρ) A:=by
 cases n with
 | zero=>unfold yG;rw [h]
 | succ n=>unfold yG;rw [h]
theorem Sh {j:jy}{st:W->Ex}(h:j.at_ A i=some (some w))(hs:st w ρ A=.ok (.nx ρ1) A1):yG j st (n+1) i ρ A=yG j st n (i+1) ρ1 A1:=by
 rw [yG,h];dsimp only;rw [hs,zL]
theorem wk {k:Int}(h:m ρ A=.ok (.int k) A1)(hk:jN k=true):qR m ρ A=.ok (yY 0 k.toNat) A1:=by unfold qR;rw [h,zL];dsimp only;rw [if_pos hk]
theorem wy {lo:Int}{k:Nat}(h:i<k):(yY lo k).at_ A i=some (some (.int (lo+i))):=by unfold yY;dsimp only;rw [if_pos h]
theorem wt {lo:Int}{k:Nat}(h:¬i<k):(yY lo k).at_ A i=some none:=by unfold yY;dsimp only;rw [if_neg h]
theorem qY (h:m1 (ws.map some++List.replicate (n - ws.length) none) A=.ok (.rt w) A1):qN n m1 ws A=.ok w A1:=by unfold qN;rw [h];rfl
theorem gU {w:W}(hn:qS ws=true)(hw:w.nr=true)(h:f ws []=.ok w A1):iso f ws A=.ok w A:=by
 unfold iso;rw [if_pos hn,h];cases w with
 | ref k=>cases hw
 | _=>dsimp only;rw [if_pos hw]
end
end Mi
set_option maxHeartbeats 400000
namespace Mi
open PySem L2
theorem HV {j:jy}{ifs:Ev}{c:En}{N:Nat}{item g:Nat->W}{keep:Nat->Bool}(hat:∀i,i<N->j.at_ A i=some (some (item i)))(hend:j.at_ A N=some none)
  (hi:∀i,i<N->ifs (some (item i)::c) A=.ok (.bl (keep i)) A)(he:∀i,i<N->keep i=true->me (some (item i)::c) A=.ok (g i) A):
  ∀(n i:Nat) (x:Option W) (acc:List W),i+n=N->acc.length+n<=zY->∃y,qC j (zK 0) ifs (zM me) n i (x::c) acc A=.ok (y::c,acc++((List.range' i n).filter keep).map g) A:=by
 intro n
 induction n with
 | zero=>
  intro i x acc h _
  have:i=N:=by omega
  subst this;refine ⟨x,?_⟩;unfold qC;rw [hend];simp
 | succ n ih=>
  intro i x acc h hl;have hlt:i<N:=by omega
  rw [qC,hat i hlt];dsimp only [zK,List.set];rw [hi i hlt,zL];rw [range'_succ];cases hk:keep i with
  | true=>
   dsimp only;obtain ⟨y,e⟩:=ih (i+1) (some (item i)) (acc++[g i]) (by omega) (by rw [length_append,length_singleton];omega)
   refine ⟨y,?_⟩;have ee:zM me (some (item i)::c) acc A=.ok (some (item i)::c,acc++[g i]) A:=by
    unfold zM;rw [he i hlt hk,zL,if_pos (by omega)]
   rw [ee,zL];dsimp only;rw [e,List.filter_cons_of_pos hk,map_cons,append_assoc]
   rfl
  | false=>
   dsimp only;obtain ⟨y,e⟩:=ih (i+1) (some (item i)) acc (by omega) (by omega)
   exact ⟨y,by rw [e,List.filter_cons_of_neg (by rw [hk];exact Bool.false_ne_true)]⟩
theorem U7 {j:jy}{ifs:Ev}{N:Nat}{item g:Nat->W}{keep:Nat->Bool}(hm:mi ρ A=.ok j A)(hj:j.len=N)(hN:N<=zY)
  (hat:∀i,i<N->j.at_ A i=some (some (item i)))(hend:j.at_ A N=some none)(hi:∀i,i<N->ifs (some (item i)::cap.map λ i=>(ρ[i]?).join) A=.ok (.bl (keep i)) A)
  (he:∀i,i<N->keep i=true->me (some (item i)::cap.map λ i=>(ρ[i]?).join) A=.ok (g i) A):
  zV 1 cap mi (zK 0) ifs (zM me) ρ A=.ok (((List.range N).filter keep).map g) A:=by
 obtain ⟨y,e⟩:=HV hat hend hi he N 0 none [] (Nat.zero_add N) (by simpa using hN)
 unfold zV;rw [hm,zL,hj];have hc:Zs 1 cap ρ=none::cap.map λ i=>(ρ[i]?).join:=rfl;rw [hc,e,nil_append,<- range_eq_range']
 rfl
theorem ZS {j:jy}{N:Nat}{item g:Nat->W}(hm:mi ρ A=.ok j A)(hj:j.len=N)(hN:N<=zY)
  (hat:∀i,i<N->j.at_ A i=some (some (item i)))(hend:j.at_ A N=some none)(he:∀i,i<N->me (some (item i)::cap.map λ i=>(ρ[i]?).join) A=.ok (g i) A):
  zV 1 cap mi (zK 0) (zi (.bl true)) (zM me) ρ A=.ok ((List.range N).map g) A:=by
 have h:=U7 (ifs:=zi (.bl true)) (keep:=λ _=>true) hm hj hN hat hend (λ _ _=>rfl) λ i hi _=>he i hi;have f:(List.range N).filter (λ _=>true)=List.range N:=List.filter_eq_self.mpr λ _ _=>rfl;rw [f] at h;exact h
theorem yx {g:List W->Hx->R W}(h:q ρ A=.ok ws A1):mQ g q ρ A=g ws A1:=by unfold mQ;rw [h,zL]
theorem wM (h:q ρ A=.ok ws A1):ql q ρ A=.ok (.ref A1.length) (A1++[.lst ws]):=by unfold ql;rw [h,zL]
theorem kR {m:Ev}{w:W}(h:m ρ A=.ok w A1)(hs:zO w A1=some ws):qm m ρ A=.ok ws A1:=by unfold qm;rw [h,zL,hs]
open PySem PySem.Spec PyProof.Rows L2
inductive AF (H:Hp)(h g:Heap)(e:Addr)(vs:Array Value):Prop
 | mk (T:Addr) (oT:Obj) (ts:Array Value) (h1:vs[1]? =some (.ref T)) (ne:T≠e) (ng:g.get? T=none) (nH:H T=none) (hT:h.get? T=some oT) (hd:oT.data=.fields ts) (h3:ts[3]? =some .none)
inductive wz (H:Hp)(h g:Heap)(e:Addr)(C:Value):Prop
 | mk (ng:g.get? e=none) (nH:H e=none) (oe:Obj) (vs:Array Value) (a0:Value) (he:h.get? e=some oe) (hc:oe.cls=C) (hd:oe.data=.fields vs) (h0:vs[0]? =some a0) (h1:vs[1]? =some .none∨AF H h g e vs)
inductive Tr (h:Heap)(e:Addr):Prop
 | mk (oe:Obj) (vs:Array Value) (T:Addr) (he:h.get? e=some oe) (hd:oe.data=.fields vs) (h1:vs[1]? =some (.ref T))
section
variable {A:Around}{outer:List Env}{L e:Addr}{C:Value}{g:Heap}
theorem frames_at {base':Heap}:∀{l:List Env},s.heap.FunFrames base l->(∀b∈qp l,base'.get? b=none)->s.heap.FunFrames base' l
 | [],_,_=>trivial
 | en::r,⟨hk,⟨L,o,hf,hn,ho,hd⟩,hr⟩,h=>⟨hk,⟨L,o,hf,h L (by unfold qp;rw [filterMap_cons,hf];exact mem_cons_self ..),ho,hd⟩,frames_at hr λ b hb=>h b (by
   unfold qp;rw [filterMap_cons,hf];exact mem_cons_of_mem _ hb)⟩
theorem Pm {Q:Unit->Shared->Prop}(hfr:A.frames=some (env::outer))(hf:env.frame=some L)(hl:s.heap.FunFrames base (env::outer))(x:wz H s.heap g e C)
  (tr:∀b u,H b=some u->∃o,s.heap.get? b=some o)(th:∀b o,g.get? b=some o->∃o',s.heap.get? b=some o')
  (hQ:∀h',(∀b o,s.heap.get? b=some o->b∉qp (env::outer)->((∃o',g.get? b=some o')∨∃u,H b=some u)->h'.get? b=some o)->(∀b o,s.heap.get? b=some o->b∈qp (env::outer)->∃sl,h'.get? b=some { o with slots:=sl })->
   wz H h' g e C->Tr h' e->Q () { s with heap:=h' }):wpAny M A (leaving env (.ref e)) Q E s:=by
 obtain ⟨hg,hH,oe,vs,a0,he,hc,hd,h0,h1⟩:=x;have fin:∀(hid:List Addr),(∀b∈qp (env::outer),b∈hid)->(∀b∈hid,b∉qp (env::outer)->g.get? b=none/\H b=none)->∀h',Heap.LeftW (hideAll s.heap hid) (env::outer) e C a0 s.heap h'->Q () { s with heap:=h' }:=by
  intro hid hi1 hi2 h' ⟨st,ff,tr',us⟩;refine hQ h' (λ b o hb nb hx=>?_) (λ b o hb mb=>?_) ?_ (by obtain ⟨oe',vs',T,oT,ts,he',_,hd',h1',_⟩:=tr';exact ⟨oe',vs',T,he',hd',h1'⟩)
  ·refine st b o (hideAll_get hid hb λ hm=>?_)
   obtain ⟨z1,z2⟩:=hi2 b hm nb;rcases hx with ⟨o',q⟩ | ⟨u,q⟩
   ·rw [z1] at q;cases q
   ·rw [z2] at q;cases q
  ·obtain ⟨_,o',ho',hnf⟩:=hl.mem mb
   rw [hb] at ho';cases ho';exact us b o hb hnf
  ·obtain ⟨oe',vs',T,oT,ts,he',⟨hc',h0'⟩,hd',h1',hT0,hTe,hT,hdT,h3⟩:=tr'
   have nT:T∉qp (env::outer):=λ hm=>by
    obtain ⟨_,o',ho',hnf⟩:=hl.mem hm;obtain ⟨sl,z⟩:=us T o' ho' hnf;rw [hT] at z;cases z;exact hnf ts hdT
   have both:g.get? T=none/\H T=none:=by
    cases q:s.heap.get? T with
    | some o=>
     by_cases hm:T∈hid
     ·exact hi2 T hm nT
     ·rw [hideAll_get hid q hm] at hT0;cases hT0
    | none=>
     constructor
     ·cases z:g.get? T with
      | none=>rfl
      | some o=>obtain ⟨o',z'⟩:=th T o z;rw [q] at z';cases z'
     ·cases z:H T with
      | none=>rfl
      | some u=>obtain ⟨o',z'⟩:=tr T u z;rw [q] at z';cases z'
   exact ⟨hg,hH,oe',vs',a0,he',hc',hd',h0',.inr ⟨T,oT,ts,h1',hTe,both.1,both.2,hT,hdT,h3⟩⟩
 have stay:∀hid:List Addr,(hideAll s.heap hid).StaysIn s.heap:=λ hid b o q=>of_hideAll hid q;rcases h1 with h1 | ⟨T,oT,ts,h1,hTe,hgT,hHT,hT,hdT,h3⟩
 ·have hn:∀b∈e::qp (env::outer),(hideAll s.heap (e::qp (env::outer))).get? b=none:=λ b hb=>hideAll_none _ hb
  refine wpAny_leaving_firstW (base:=hideAll s.heap (e::qp (env::outer))) hfr (frames_at hl λ b hb=>hn b (mem_cons_of_mem _ hb)) hf he (stay _) (hn e (mem_cons_self ..)) hd h1 h0 ?_;rw [hc];refine fin _ (λ b hb=>mem_cons_of_mem _ hb) λ b hb nb=>?_;rcases qa3.mp hb with rfl | hb
  ·exact ⟨hg,hH⟩
  ·exact absurd hb nb
 ·have hn:∀b∈e::T::qp (env::outer),(hideAll s.heap (e::T::qp (env::outer))).get? b=none:=λ b hb=>hideAll_none _ hb
  refine wpAny_leaving_nextW (base:=hideAll s.heap (e::T::qp (env::outer))) hfr (frames_at hl λ b hb=>hn b (mem_cons_of_mem _ (mem_cons_of_mem _ hb))) hf
   ⟨oe,vs,T,oT,ts,he,⟨hc,h0⟩,hd,h1,hn T (mem_cons_of_mem _ (mem_cons_self ..)),hTe,hT,hdT,h3⟩ (stay _) (hn e (mem_cons_self ..)) ?_
  refine fin _ (λ b hb=>mem_cons_of_mem _ (mem_cons_of_mem _ hb)) λ b hb nb=>?_;rcases qa3.mp hb with rfl | hb
  ·exact ⟨hg,hH⟩
  ·rcases qa3.mp hb with rfl | hb
   ·exact ⟨hgT,hHT⟩
   ·exact absurd hb nb
end
inductive MX (P:Program)(w:World)(outer:List Env)(H:Hp)(s:Shared)(E:XK)(e:Value)(s':Shared):Prop
 | mk (ea C:Addr) (H':Hp) (he:e=.ref ea) (os:s'.os=s.os) (b:AllBare s'.gens) (un:Un (qp outer) [] H H' s.heap s'.heap) (hk:jD P w H' s'.heap) (ly:wz H' s'.heap s.heap ea (.ref C)) (tr:Tr s'.heap ea) (q:E (.ref C) none H')
noncomputable def wW (P:Program)(w:World):w5:=λ outer H s E e s'=>MX P w outer H s E e s'
theorem _root_.L2.qQ.obj {o:HO}(x:qQ P w H h a o):∃ob,h.get? a=some ob:=by
 cases o with
 | lst xs=>obtain ⟨_,_,_,_,e⟩:=x;exact ⟨_,e⟩
 | tup xs=>obtain ⟨_,_,_,o,e,_⟩:=x;exact ⟨o,e⟩
 | dK kvs=>obtain ⟨_,_,_,_,o,_,_,e,_⟩:=x;exact ⟨o,e⟩
 | dT kvs=>obtain ⟨_,_,_,_,o,_,_,e,_⟩:=x;exact ⟨o,e⟩
 | set S n=>obtain ⟨o,_,_,_,e,_⟩:=x;exact ⟨o,e⟩
 | ins C dx fs=>obtain ⟨_,_,_,e,_⟩:=x;exact ⟨_,e⟩
 | own y=>exact x
 | xd fs=>obtain ⟨_,⟨o,_,_,e,_⟩,_⟩:=x;exact ⟨o,e⟩
 | rng lo hi=>obtain ⟨_,_,_,e⟩:=x;exact ⟨_,e⟩
 | frz ob u=>exact ⟨ob,x.1⟩
 | tbl ps=>exact ⟨_,(show h.get? a=some _ from x)⟩
 | met f y=>exact ⟨_,(show h.get? a=some _ from x)⟩
 | ext φ=>exact x.2.1
theorem Ld {K:Frag}{cd:Value}{A:Around}{outer:List Env}{E:XK}
  {H':Hp}{ea C:Addr}(I:Inv (wF (wW P w) P w K mg base N qual scope f cd A outer s H E) pins σ H' s')(x:wz H' s'.heap s.heap ea (.ref C))(hE:E (.ref C) none H'):
  (wF (wW P w) P w K mg base N qual scope f cd A outer s H E).xe (.ref ea) s':=by
 have bs:Un (qp outer) [] H H' s.heap s'.heap:=I.base;have stk:∀b∈qp (envOfC qual scope s.heap.objs.size f cd::outer),H' b=none:=I.stkFree;have hL:s.heap.get? s.heap.objs.size=none:=Heap.get?_none_of_le (le_refl _);have hfe:(envOfC qual scope s.heap.objs.size f cd).frame=some s.heap.objs.size:=rfl;have mem:∀b,b∈qp (envOfC qual scope s.heap.objs.size f cd::outer)↔b=s.heap.objs.size∨b∈qp outer:=λ b=>by
  unfold qp;rw [filterMap_cons,hfe];exact mem_cons
 show wpAny (model P w) (A.deeper (envOfC qual scope s.heap.objs.size f cd)) (leaving (envOfC qual scope s.heap.objs.size f cd) (.ref ea)) _ _ s';refine Pm (base:=base) (L:=s.heap.objs.size) I.ok.frames rfl I.stack x (λ b u e=>(I.hok b u e).obj) (λ b o e=>bs.there b o e (by simp)) λ h' k1 k2 x' tr'=>?_
 have nfr:∀b u,H' b=some u->b∉qp (envOfC qual scope s.heap.objs.size f cd::outer):=λ b u e hm=>by rw [stk b hm] at e;cases e
 refine ⟨ea,C,H',rfl,I.os,I.bare,⟨λ b o e n nb _=>?_,λ b o e n mb _=>?_,λ b o e n hx=>bs.free b o e n hx,λ b o e hx=>?_,bs.tups,bs.frzs,bs.tbls⟩,λ b u e=>?_,x',tr',hE⟩
 ·have nL:b≠s.heap.objs.size:=λ z=>by rw [z,hL] at e;cases e
  exact k1 b o (bs.keep b o e n nb (by simp)) (λ hm=>(mem b).mp hm |>.elim nL nb) (.inl ⟨o,e⟩)
 ·obtain ⟨sl,q⟩:=bs.slot b o e n mb (by simp)
  obtain ⟨sl',q'⟩:=k2 b _ q ((mem b).mpr (.inr mb));exact ⟨sl',q'⟩
 ·obtain ⟨o',q⟩:=bs.there b o e hx
  by_cases hm:b∈qp (envOfC qual scope s.heap.objs.size f cd::outer)
  ·obtain ⟨sl,z⟩:=k2 b o' q hm;exact ⟨_,z⟩
  ·exact ⟨o',k1 b o' q hm (.inl ⟨o,e⟩)⟩
 ·refine (I.hok b u e).stay (λ c v hc q=>?_) (λ _ q=>q) λ _ _ q=>q
  rcases hc with z | z
  ·rw [z] at q ⊢;exact k1 b v q (nfr b u e) (.inr ⟨u,e⟩)
  ·exact k1 c v q (nfr c _ z) (.inr ⟨_,z⟩)
theorem Tn {E:XK}{e:Value}(I:Inv X pins σ H s)(h:wW X.prog X.w X.stack H s E e s')(g:Heap)(hg:∀b o,g.get? b=some o->∃o',s.heap.get? b=some o'):
  ∃ea C H',e=.ref ea/\Inv X pins σ H' s'/\wz H' s'.heap g ea (.ref C)/\Tr s'.heap ea/\E (.ref C) none H':=by
 obtain ⟨ea,C,H',rfl,os,bare,un,hok,x,tr,hE⟩:=h;obtain ⟨hh,gg,d,t,os'⟩:=s';obtain rfl:os'=s.os:=os;refine ⟨ea,C,H',rfl,I.call (h':=hh) (g':=gg) (d':=d) (t':=t) (ch:=[]) un hok bare (λ b z=>absurd z (by simp)),?_,tr,hE⟩
 have up:∀b,s.heap.get? b=none->g.get? b=none:=λ b n=>by
  cases z:g.get? b with
  | none=>rfl
  | some o=>obtain ⟨o',q⟩:=hg b o z;rw [n] at q;cases q
 obtain ⟨a1,a2,oe,vs,a0,b1,b2,b3,b4,b5⟩:=x;refine ⟨up ea a1,a2,oe,vs,a0,b1,b2,b3,b4,?_⟩;rcases b5 with b5 | ⟨T,oT,ts,c1,c2,c3,c4,c5,c6,c7⟩
 ·exact .inl b5
 ·exact .inr ⟨T,oT,ts,c1,c2,up T c3,c4,c5,c6,c7⟩
noncomputable def gH (K:Frag)(E:XK):XR:=λ x H=>∀Ca:Addr,yF K x (.ref Ca)->E (.ref Ca) none H
inductive W7 (K:Frag)(n:Nat)(f:Fn)(vs:List V)(H:Hp)(Q:VK)(E:XK):Prop
 | mk (len:vs.length=n) (φ:List Addr) (A:Hx) (ws:List W) (S:zJ K φ A H) (r:zE K φ H ws vs) (q:(f ws A).post (PB K φ H Q) (EB K φ H (gH K E)))
theorem W7.len {K:Frag}{f:Fn}{Q:VK}{E:XK}(h:W7 K n f vs H Q E):vs.length=n:=by cases h;assumption
inductive jg (P:Program)(w:World)(K:Frag)(mg:Str->Option Value)(base:Heap)(k:Nat)(x:Str)(n:Nat)(f:Fn):Prop
 | mk (fa:Addr) (fd:FuncData) (ps:List Str) (F:yy P w K mg base (wW P w) k fa fd ps (W7 K n f)) (at_:mg x=some (.ref fa)) (kp:keepIn K (.ref fa)=true) (bi:Binds K fd ps [])
structure gy (X:Cx)(g:Heap)(xr:XR):Prop where
 th:∀pins σ H s,Inv X pins σ H s->∀b o,g.get? b=some o->∃o',s.heap.get? b=some o'
 out:∀pins σ H s ea C x,Inv X pins σ H s->wz H s.heap g ea (.ref C)->yF X.K x (.ref C)->xr x H->X.xe (.ref ea) s
theorem AV {K:Frag}{cd:Value}{A:Around}{outer:List Env}{E:XK}:
  gy (wF (wW P w) P w K mg base N qual scope f cd A outer s H E) s.heap (gH K E) where
 th:=λ pins σ H' s' I b o e=>(show Un (qp outer) [] H H' s.heap s'.heap from I.base).there b o e (by simp)
 out:=λ pins σ H' s' ea C x I ly c hx=>Ld I ly (hx C c)
section
variable {g:Heap}{c:Expr}
noncomputable def Eup (K:Frag)(xr:XR):XK:=λ Cv _ H=>∃x Ca,Cv=.ref Ca/\yF K x (.ref Ca)/\xr x H
theorem gy.passes (x:gy X g xr):Passes (wW X.prog X.w) X (Eup X.K xr):=λ pins σ H s e s' I h=>by
 obtain ⟨ea,C,H',rfl,I',ly,_,nm,Ca,ec,c,hx⟩:=Tn I h g (x.th pins σ H s I);cases ec;exact x.out pins σ H' s' ea C nm I' ly c hx
end
noncomputable def wU (n:Nat)(m:Ex):Fn:=λ ws A=>(m (ws.map some++List.replicate (n - ws.length) none) A).bind λ fl A1=>match fl with
 | .rt w=>.ok w A1
 | .nx _=>.ok .non A1
 | _=>.bad
inductive Va (C:Addr)(bmB:List Value)(newId:String)(h:Heap):Prop
 | mk (tl N nm q bs hdct sn sub ab col dd k0 k1 k2 k3 k5 mN:_) (obj:h.get? C=some (excClassObj nm q C N bs tl hdct sn sub ab col dd k0 k1 k2 k3 k5 newId)) (ns:h.Ns N mN) (init:mN "__init__" = none) (tail:OwnTail h bmB tl)
noncomputable def AI (d:Data):Option { c:ClassData // d=.cls c }:=match d with
 | .cls c=>some ⟨c,rfl⟩
 | _=>none
noncomputable def gA (K:Frag)(C:Addr)(bmB:List Value)(newId:String):Bool:=(K.lookup C).any λ o=>(AI o.data).any λ c=>
 o.cls==.type "type" && c.1.mro==.ref C::c.1.mro.tail&&o.slots.toList==[o.slots.toList.getD 0 none,o.slots.toList.getD 1 none,o.slots.toList.getD 2 none,o.slots.toList.getD 3 none,some (.builtin newId),o.slots.toList.getD 5 none]
  && c.1.hasDel==false&&PySem.W.tailIn K bmB c.1.mro.tail&&PySem.W.nsOkIn K c.1.ns&&nsIn K c.1.ns "__init__" == some none
theorem Vb {K:Frag}{C:Addr}{bmB:List Value}{newId:String}(X:K.In h)(q:gA K C bmB newId=true):Va C bmB newId h:=by
 obtain ⟨⟨oc,dd,dat,⟨sl⟩⟩,ho,q⟩:=(any_eq_true _ _).mp q;obtain ⟨⟨⟨nm,bs,mro,ns,qn,hd,sn,sub,ab,col,del⟩,e0⟩,-,q⟩:=(any_eq_true _ _).mp q;simp only [and_eq_true,beq_iff_eq] at q;obtain ⟨⟨⟨⟨⟨⟨e1,e2⟩,e3⟩,e4⟩,e5⟩,e6⟩,e7⟩:=q;cases e0;cases e1;cases e4;exact ⟨mro.tail,ns,nm,qn,bs,hd,sn,sub,ab,col,dd,_,_,_,_,_,_,X _ _ (by rw [ho,e2,e3];rfl),.of_isNs (PySem.W.isNs_of_in X e6),PySem.W.nsMap_none_of_in X e6 e7,PySem.W.tail_of_in X e5⟩
noncomputable def Ys (x:Str)(mr:Ea):Ex:=λ ρ A=>(mr ρ A).bind λ _ A1=>.exc x A1
section
variable {g:Heap}{es:List Expr}{np:Pos}{C:Addr}{B newId initId:String}{bmB:List Value}
theorem Ey {h':Heap}{ea:Addr}{vs:List Value}(xo:gy X g xr)(I:Inv X pins σ H s)(m:Heap.MadeExcOf s.heap h' ea (.ref C) vs):
  Inv X pins σ H { s with heap:=h' }/\wz H h' g ea (.ref C):=by
 have nH:∀b,s.heap.get? b=none->H b=none:=λ b z=>by
  cases q:H b with
  | none=>rfl
  | some u=>obtain ⟨o,k⟩:=(I.hok b u q).obj;rw [z] at k;cases k
 have ng:∀b,s.heap.get? b=none->g.get? b=none:=λ b z=>by
  cases q:g.get? b with
  | none=>rfl
  | some o=>obtain ⟨o',k⟩:=xo.th pins σ H s I b o q;rw [z] at k;cases k
 obtain ⟨t,he,ht,ht'⟩:=m.there;refine ⟨I.call' (s':={ s with heap:=h' }) (ch:=[]) rfl ⟨λ b o q _ _ _=>m.keeps b o q,λ b o q _ _ _=>⟨o.slots,m.keeps b o q⟩,λ b o q z _=>z,λ b o q _=>⟨o,m.keeps b o q⟩,λ _ _ q=>q,λ _ _ _ q=>q,λ b ps q=>⟨#[],by rw [Array.append_empty];exact q⟩⟩
  (λ b u q=>(I.hok b u q).stay (λ c v _ z=>m.keeps c v z) (λ _ z=>z) λ _ _ z=>z) I.bare (λ b z=>absurd z (by simp)),?_⟩
 exact ⟨ng ea m.new,nH ea m.new,_,_,_,he,rfl,rfl,rfl,.inl rfl⟩
theorem IX (xo:gy X g xr)(hc:yF X.K x (.ref C))(ex:gA X.K C bmB newId=true)(FB:ExcBaseFacts B newId initId bmB)(ha:SA X xr (e::es) mr)(hl:Za mr n)(hn:n<=sizeLine:=by decide)(hg:Gl X x:=by rfl)(hcalm:X.calm=true:=by rfl)
  (hdb:(x==("__debug__" : Str))=false:=by decide)(he:starEach (e::es) X.env=(false,eval e X.env)::starEach es X.env:=by rfl)(hpl:(backTo cpos (starEach es X.env)).any (·.1)=false:=by rfl):
  SS X xr (.Raise (some (.Call (.Name x np) (e::es) [] cpos)) none pos) (Ys x mr):=by
 intro pins s σ H D I ⟨φ,A,ρ,S,re,h⟩;have hm:X.mg x=some (.ref C):=mg_of I.mod.kin I.mod.glob hc;obtain ⟨tl,N,nm,q,bs,hdct,sn,sub,ab,col,dd,k0,k1,k2,k3,k5,mN,hC,hN,hni,T⟩:=Vb I.mod.kin ex;refine wpAny_Raise_call_subT (C:=C) (nm:=nm) (q:=q) (N:=N) (bs:=bs) (bm:=tl) (hdct:=hdct) (sn:=sn) (sub:=sub) (ab:=ab) (col:=col) (dd:=dd) (k0:=k0) (k1:=k1) (k2:=k2) (k3:=k3) (k5:=k5)
  FB (mN:=mN) (T.hasType FB.hasBase) (I.ok.hd hcalm) (by rw [he];show (false || (backTo cpos (starEach es X.env)).any (·.1))=false;rw [hpl];rfl) hni (Jo I hg hm ⟨rfl,?_⟩ hdb)
 have h':=zU.mp h;have hA:=ha cpos pins s σ H (λ vs H1=>vs.length<=sizeLine/\xr x H1) I ⟨φ,A,ρ,S,re,?_⟩
 ·rw [he] at hA ⊢
  refine Calls.evalArgs_plain (wpAny_mono hA (λ us s2 h2=>?_) λ _ _ y=>y);obtain ⟨vs,H2,I2,rv,hlen,hx⟩:=h2;refine ⟨rfl,?_,I2.bk _ _ hC,hN.keeps I2.bk,T.keeps I2.bk,λ h3 ea m=>?_⟩
  ·rw [<- rv.length];exact hlen
  ·obtain ⟨I3,ly⟩:=Ey xo I2 m
   exact xo.out pins σ H2 _ ea C x I3 ly hc hx
 ·cases er:mr ρ A with
  | ok ws A1=>
   rw [er] at h';intro φ1 H1 vs l1 S1 q1;refine ⟨?_,h' φ1 H1 l1 S1⟩;rw [<- q1.length,hl ρ A ws A1 er];exact hn
  | exc y A1=>rw [er] at h';exact h'
  | bad=>rw [er] at h';exact h'
end
noncomputable def mJ:List Ev->Str->Ev
 | [],acc=>λ _ A=>.ok (.str acc) A
 | m::ms,acc=>λ ρ A=>(m ρ A).bind λ w A1=>match w with
  | .str y=>if (acc++y).length<=sizeLine then mJ ms (acc++y) ρ A1 else .bad
  | _=>.bad
section
variable {es:List Expr}{m:Ev}{ms:List Ev}
inductive SJ (X:Cx)(xr:XR):List Expr->List Ev->Prop where
 | nil:SJ X xr [] []
 | cons {e:Expr} {es:List Expr} {m:Ev} {ms:List Ev} (h:SE X xr e m) (r:SJ X xr es ms):SJ X xr (e::es) (m::ms)
end
section
variable {A:Around}{e C:Addr}{oe:Obj}{bmB bmD:List Value}{newId newD:String}{Q:Bool->Shared->Prop}
noncomputable def RN (h:Heap)(C D:Addr):Prop:=∃oC cd,h.get? C=some oC/\oC.data=.cls cd/\cd.mro.contains (.ref D)=true
theorem MR (lc:Va C bmB newId s.heap)(ld:Va D bmD newD s.heap)(hbD:bmD.contains (.type "BaseException")=true)(he:s.heap.get? e=some oe)(hcls:oe.cls=.ref C)(up:RN s.heap C D)(hq:Q true s):
  wpAny M A (excMatches (.ref e) (.ref D)) Q E s:=by
 obtain ⟨h,g,d,t,os⟩:=s;obtain ⟨tl,N,nm,q,bs,hdct,sn,sub,ab,col,dd,k0,k1,k2,k3,k5,mN,hC,_,_,_⟩:=lc;obtain ⟨tl2,N2,nm2,q2,bs2,hdct2,sn2,sub2,ab2,col2,dd2,l0,l1,l2,l3,l5,mN2,hD,_,_,T2⟩:=ld;obtain ⟨oC,cd,hC',hd,hm⟩:=up;rw [hC] at hC';cases hC';have hdd:(excClassObj nm q C N bs tl hdct sn sub ab col dd k0 k1 k2 k3 k5 newId).data=.cls cd:=hd;unfold excClassObj at hdd;cases hdd;have hcB:(Value.ref D::tl2).contains (.type "BaseException")=true:=by rw [List.contains_cons,T2.hasType hbD,Bool.or_true]
 have hcC:(Value.ref C::tl).contains (.ref D)=true:=hm;have f:=tc_notTuple;unfold excMatches
 repeat (first | (with_reducible refine wpAny_loadPart_at he ?_;rw [hcls]) | with_reducible refine wpAny_loadPart_at hD ?_ | with_reducible refine wpAny_loadPart_at hC ?_ | (with_reducible refine wpAny_isSubtype_exc hD ?_;rw [hcB]) | (with_reducible refine wpAny_isSubtype_exc hC ?_;rw [hcC]) | wp_step)
 exact hq
end
section
variable {H0:Hp}{s0:Shared}{ea C:Addr}
theorem landed {h':Heap}{T:Addr}{a0:Value}(I0:Inv X pins σ H0 s0)(I:Inv X pins σ H s)(x:wz H s.heap s0.heap ea (.ref C))(nT:s0.heap.get? T=none)(hT:H T=none)
  (th:∀b o,s0.heap.get? b=some o->∃o',s.heap.get? b=some o')
  (fl:Heap.FlyingW (hideAll s.heap (ea::T::qp X.stack)) X.stack ea (.ref C) a0 h')(us:s.heap.UpToSlots h'):
  Inv X pins σ H { s with heap:=h' }/\wz H h' s0.heap ea (.ref C)/\Tr h' ea/\∀b o,s0.heap.get? b=some o->∃o',h'.get? b=some o':=by
 obtain ⟨st,_,ff,oe,vs,T',oT,ts,he,⟨hcls,h0⟩,hd,h1,hnT,hTe,hT',hdT,h3⟩:=fl;have ng:s0.heap.get? ea=none:=by cases x;assumption
 have nH:H ea=none:=by cases x;assumption
 have kept:∀b o,s.heap.get? b=some o->b∉qp X.stack->b≠ea->b≠T->h'.get? b=some o:=λ b o q n1 n2 n3=>st b o (hideAll_get _ q λ hm=>by
  rcases qa3.mp hm with z | hm
  ·exact n2 z
  rcases qa3.mp hm with z | hm
  ·exact n3 z
  ·exact n1 hm)
 have slot:∀b o,s.heap.get? b=some o->b∈qp X.stack->∃sl,h'.get? b=some { o with slots:=sl }:=λ b o q hm=>by
  obtain ⟨_,o',ho',hnf⟩:=I.stack.mem hm;rw [q] at ho';cases ho';exact us b o q hnf
 have off:∀b u,H b=some u->b∉qp X.stack/\b≠ea/\b≠T:=λ b u q=>⟨λ hm=>(by rw [I.stkFree b hm] at q;cases q),λ z=>(by rw [z,nH] at q;cases q),λ z=>(by rw [z,hT] at q;cases q)⟩
 have ne:∀b o,s0.heap.get? b=some o->b≠ea/\b≠T:=λ b o q=>⟨λ z=>(by rw [z,ng] at q;cases q),λ z=>(by rw [z,nT] at q;cases q)⟩
 have any:∀b o o',s0.heap.get? b=some o'->s.heap.get? b=some o->∃sl,h'.get? b=some { o with slots:=sl }:=λ b o o' q0 q=>by
  by_cases hm:b∈qp X.stack
  ·exact slot b o q hm
  ·exact ⟨o.slots,kept b o q hm (ne b o' q0).1 (ne b o' q0).2⟩
 have cell:∀y c,X.env.cells.lookup y=some c->∀v,s.heap.IsCell c v->h'.IsCell c v:=λ y c e v ⟨o,ho,hd⟩=>by
  obtain ⟨_,o0,ho0,_⟩:=I0.cell y c e;obtain ⟨sl,z⟩:=any c o o0 ho0 ho;exact ⟨_,z,hd⟩
 have inv:Inv X pins σ H { s with heap:=h' }:=by
  refine ⟨I.ok,I.os,I.bare,⟨λ b o q n nf nx=>?_,λ b o q n hf nx=>?_,I.base.free,λ b o q nx=>?_,I.base.tups,I.base.frzs,I.base.tbls⟩,?_,λ y c e=>?_,I.free,I.freeC,λ p hp=>?_,λ b u q=>?_,I.len⟩
  ·have q1:=I.base.keep b o q n nf nx
   have q0:=I0.base.keep b o q n nf nx;refine kept b o q1 (λ hm=>?_) (ne b o q0).1 (ne b o q0).2;rcases qa3.mp (I.stkSub b hm) with z | z
   ·exact absurd (lt_of_lt_of_le (lt_size q) I.ok.above) (by rw [z];exact lt_irrefl _)
   ·exact nf z
  ·obtain ⟨sl,q1⟩:=I.base.slot b o q n hf nx
   obtain ⟨sl0,q0⟩:=I0.base.slot b o q n hf nx;obtain ⟨sl',z⟩:=any b _ _ q0 q1;exact ⟨sl',z⟩
  ·obtain ⟨o1,q1⟩:=I.base.there b o q nx
   obtain ⟨o0,q0⟩:=I0.base.there b o q nx;obtain ⟨sl,z⟩:=any b o1 o0 q0 q1;exact ⟨_,z⟩
  ·obtain ⟨m,⟨o,es,ep,ho,r⟩,k⟩:=I.loc
   obtain ⟨_,⟨o0,_,_,ho0,_⟩,_⟩:=I0.loc;obtain ⟨sl,z⟩:=any _ o o0 ho0 ho;refine ⟨m,⟨_,es,ep,z,r⟩,λ i y v e1 e2 e3=>?_⟩;obtain ⟨u,ru,lk⟩:=k i y v e1 e2 e3;refine ⟨u,ru,?_⟩;rcases lk with lk | ⟨lk,c,ec,hc⟩
   ·exact .inl lk
   ·exact .inr ⟨lk,c,ec,cell y c ec _ hc⟩
  ·obtain ⟨v,hv⟩:=I.cell y c e
   exact ⟨v,cell y c e v hv⟩
  ·obtain ⟨p1,p2,p3,p4,p5⟩:=I.pin p hp
   have p0:=(I0.pin p hp).1;refine ⟨kept _ _ p1 (λ hm=>?_) (ne _ _ p0).1 (ne _ _ p0).2,p2,p3,p4,p5⟩;rcases qa3.mp (I.stkSub _ hm) with z | z
   ·exact p3 z
   ·exact p4 z
  ·refine (I.hok b u q).stay (λ c v hc z=>?_) (λ _ z=>z) λ _ _ z=>z
   rcases hc with e | e
   ·obtain ⟨n1,n2,n3⟩:=off b u q
    rw [e] at z ⊢;exact kept b v z n1 n2 n3
   ·obtain ⟨n1,n2,n3⟩:=off c _ e
    exact kept c v z n1 n2 n3
 have both:s0.heap.get? T'=none/\H T'=none:=by
  cases q:s.heap.get? T' with
  | some o=>
   by_cases hm:T'∈ea::T::qp X.stack
   ·rcases qa3.mp hm with z | hm
    ·exact absurd z hTe
    rcases qa3.mp hm with z | hm
    ·rw [z];exact ⟨nT,hT⟩
    ·obtain ⟨sl,z⟩:=slot T' o q hm
     obtain ⟨_,o',ho',hnf⟩:=I.stack.mem hm;rw [q] at ho';cases ho';rw [hT'] at z;cases z;exact absurd hdT (hnf ts)
   ·rw [hideAll_get _ q hm] at hnT;cases hnT
  | none=>
   constructor
   ·cases z:s0.heap.get? T' with
    | none=>rfl
    | some o=>obtain ⟨o',k⟩:=th T' o z;rw [q] at k;cases k
   ·cases z:H T' with
    | none=>rfl
    | some u=>obtain ⟨o',k⟩:=(I.hok T' u z).obj;rw [q] at k;cases k
 exact ⟨inv,⟨ng,nH,oe,vs,a0,he,hcls,hd,h0,.inr ⟨T',oT,ts,h1,hTe,both.1,both.2,hT',hdT,h3⟩⟩,⟨oe,vs,T',he,hd,h1⟩,λ b o q=>by
  obtain ⟨o1,q1⟩:=th b o q;obtain ⟨sl,z⟩:=any b o1 o q q1;exact ⟨_,z⟩⟩
theorem flying (I:Inv X pins σ H s)(x:wz H s.heap s0.heap ea (.ref C))(tr:Tr s.heap ea):
  ∃T a0,s0.heap.get? T=none/\H T=none/\Heap.FlyingW (hideAll s.heap (ea::T::qp X.stack)) X.stack ea (.ref C) a0 s.heap:=by
 obtain ⟨hg,hH,oe,vs,a0,he,hc,hd,h0,h1⟩:=x;obtain ⟨oe',vs',T',he',hd',h1'⟩:=tr;rw [he] at he';cases he';rw [hd] at hd';cases hd';rcases h1 with h1 | ⟨T,oT,ts,h1,hTe,hgT,hHT,hT,hdT,h3⟩
 ·rw [h1] at h1';cases h1'
 ·have hn:∀b∈ea::T::qp X.stack,(hideAll s.heap (ea::T::qp X.stack)).get? b=none:=λ b hb=>hideAll_none _ hb
  exact ⟨T,a0,hgT,hHT,λ b o q=>of_hideAll _ q,hn ea (mem_cons_self ..),frames_at I.stack λ b hb=>hn b (mem_cons_of_mem _ (mem_cons_of_mem _ hb)),
   oe,vs,T,oT,ts,he,⟨hc,h0⟩,hd,h1,hn T (mem_cons_of_mem _ (mem_cons_self ..)),hTe,hT,hdT,h3⟩
end
noncomputable def YT (oe:Obj):HO:=.frz oe (.own 0)
noncomputable def QJ (K:Frag)(C D:Addr):Bool:=match K.lookup C with
 | some ⟨_,_,.cls cd,_⟩=>cd.mro.contains (.ref D)
 | _=>false
theorem Bk {K:Frag}{C:Addr}(X:K.In h)(e:QJ K C D=true):RN h C D:=by
 unfold QJ at e
 split at e
 ·rename_i ho
  exact ⟨_,_,X _ _ ho,rfl,e⟩
 ·cases e
section
variable {H0:Hp}{s0:Shared}{ea C L:Addr}
theorem JF (I0:Inv X pins σ H0 s0)(I:Inv X pins σ H s)(x:wz H s.heap s0.heap ea (.ref C)):∃oe,oe.cls=.ref C/\H ea=none/\Inv X pins σ (upd H ea (YT oe)) s:=by
 obtain ⟨ng,nH,oe,vs,a0,he,hc,_⟩:=x;refine ⟨oe,hc,nH,?_⟩;have ne:∀b o,s0.heap.get? b=some o->b≠ea:=λ b o q z=>by rw [z,ng] at q;cases q
 have at_:∀b,b≠ea->upd H ea (YT oe) b=H b:=λ b n=>by unfold upd;exact if_neg n
 have nt:∀b u,H b=some u->upd H ea (YT oe) b=some u:=λ b u q=>by
  rw [at_ b λ z=>by rw [z,nH] at q;cases q];exact q
 refine ⟨I.ok,I.os,I.bare,⟨I.base.keep,I.base.slot,λ b o q n nx=>?_,I.base.there,λ b xs q=>nt _ _ (I.base.tups b xs q),λ b o u q=>nt _ _ (I.base.frzs b o u q),λ b ps q=>?_⟩,I.loc,I.cell,?_,λ y c e=>?_,λ p hp=>?_,λ b u q=>?_,I.len⟩
 ·obtain ⟨o0,q0⟩:=I0.base.there b o q nx
  rw [at_ b (ne b o0 q0)];exact I.base.free b o q n nx
 ·obtain ⟨more,z⟩:=I.base.tbls b ps q
  exact ⟨more,nt _ _ z⟩
 ·obtain ⟨m,⟨o0,_,_,ho0,_⟩,_⟩:=I0.loc
  rw [at_ _ (ne _ o0 ho0)];exact I.free
 ·obtain ⟨v,o0,ho0,_⟩:=I0.cell y c e
  rw [at_ _ (ne _ o0 ho0)];exact I.freeC y c e
 ·obtain ⟨p1,p2,p3⟩:=I.pin p hp
  refine ⟨p1,?_,p3⟩;rw [at_ _ (ne _ _ (I0.pin p hp).1)];exact p2
 ·by_cases z:b=ea
  ·subst z
   have:u=YT oe:=by
    unfold upd at q;rw [if_pos rfl] at q;exact (Option.some.inj q).symm
   subst this;exact ⟨he,⟨oe,he⟩⟩
  ·rw [at_ b z] at q
   exact (I.hok b u q).stay (λ _ _ _ z=>z) (λ c z=>nt c _ z) λ c xs z=>nt c _ z
noncomputable def CM (X:Cx)(pins:List (Addr × Obj))(σ:St)(s0:Shared)(D:Addr)(k:Addr->Addr->Hp->Prop)(e:Value)(s:Shared):Prop:=
 ∃ea C H bmC newC,e=.ref ea/\Inv X pins σ H s/\wz H s.heap s0.heap ea (.ref C)/\Tr s.heap ea/\(∀b o,s0.heap.get? b=some o->∃o',s.heap.get? b=some o')/\Mi.gA X.K C bmC newC=true/\QJ X.K C D=true/\∀oe,oe.cls=.ref C->H ea=none->k ea C (upd H ea (YT oe))
theorem Cp {xD n:Str}{bmD:List Value}{newD:String}{suite:List Stmt}{b₀:Stmt}{np hp:Pos}{Q:Flow->Shared->Prop}{k:Addr->Addr->Hp->Prop}
  (I0:Inv X pins σ H0 s0)(hst:X.stack=X.env::X.outer)(hL:X.env.frame=some L)(hD:yF X.K xD (.ref D))(exD:Mi.gA X.K D bmD newD=true)(hbD:bmD.contains (.type "BaseException")=true)
  (hN:X.N.Nodup)(hi:X.N[i]? =some n)(hx:Loc X.env.scope n)
  (hbody:wpAny (model X.prog X.w) X.A (execs body X.env) (λ f s1=>f=.next/\Q .next s1) (CM X pins σ s0 D k) s0)
  (hsuite:∀ea C H s2,Inv X pins (σ.set i (some (.ref ea))) H s2->k ea C H->∀E',wpAny (model X.prog X.w) (X.A.mark (some (.ref ea))) (execs (b₀::suite) X.env)
   (λ f s4=>wpAny (model X.prog X.w) X.A (do bindName X.env n .none;unbindBehindTheSuite X.env n hp) (λ _ s5=>Q f s5) X.xe s4) E' s2)
  (hg:Gl X xD)(hdb:(xD==("__debug__" : Str))=false:=by decide)(hf:X.fn n=true∨X.env.scope.names.lookup n=some .local:=by first | exact .inl rfl | exact .inr rfl | assumption):
  wpAny (model X.prog X.w) X.A (exec (.Try body [.ExceptHandler (some (.Name xD np)) (some n) (b₀::suite) hp] [] [] pos) X.env) Q X.xe s0:=by
 refine wpAny_Try_except (wpAny_mono hbody (λ f s1 ⟨ef,q⟩=>?_) λ e s1 h=>?_)
 ·subst ef
  exact wpAny_execs_nil q
 obtain ⟨ea,C,H,bmC,newC,rfl,I,x,tr,th,exC,up,hk⟩:=h;have hm:X.mg xD=some (.ref D):=mg_of I.mod.kin I.mod.glob hD;obtain ⟨T,a0,nT,hT,fl⟩:=flying I x tr;have hfr:X.A.frames=some (X.env::X.outer):=by rw [<- hst];exact I.ok.frames
 refine wpAny_looks_onW hfr hL (by rw [<- hst];exact fl) λ h₄ hh₄ us₄=>?_
 refine wpAny_landsW hh₄ λ h₅ fl₅ us₅=>?_;obtain ⟨I5,x5,tr5,th5⟩:=landed I0 I x nT hT th (by rw [<- hst] at fl₅;exact fl₅) (us₄.trans us₅)
 obtain ⟨_,_,oe,_,_,he,hc,_⟩:=id x5;refine wpAny_handleBy_cons (codeAny_handlers_test (Calls.Name_function_global I5.ok.kind hg (Calls.loadGlobal_global (by rw [I5.ok.glob];exact I5.mod.glob.keeps I5.bk) hm ?_) hdb)) (by intro q;cases q)
 refine MR (s:={ s1 with heap:=h₅ }) (Vb I5.kIn exC) (Vb I5.kIn exD) hbD he hc (Bk I5.kIn up) ?_
 refine codeAny_handlers_suite_as ?_;obtain ⟨T',a0',nT',hT',fl'⟩:=flying I5 x5 tr5;refine lands_againW fl' λ h₆ fl₆ us₆=>?_;obtain ⟨I6,x6,_,_⟩:=landed I0 I5 x5 nT' hT' th5 fl₆ us₆;obtain ⟨of,hof,nea,I7⟩:=JF I0 I6 x6;exact KN (v:=.ref ea) I7 hN hi hx rfl (λ s7 I7=>hsuite ea C _ s7 I7 (hk of hof nea) _) hf
end
section
variable {A:Around}
theorem name_goes {n:Str}{Q:Unit->Shared->Prop}(I:Inv X pins σ H s)(hN:X.N.Nodup)(hi:X.N[i]? =some n)(hk:X.env.scope.names.lookup n=some .local)
  (h:∀s',Inv X pins (σ.set i none) H s'->Q () s'):wpAny M A (do bindName X.env n .none;unbindBehindTheSuite X.env n pos) Q E s:=by
 obtain ⟨m,hn,hl⟩:=id I.loc;have hiσ:i < σ.length:=by rw [I.len];exact (qa2.mp hi).1
 refine wpAny_nameGoes_keeps hk hn (by rw [I.ok.kind];rfl) λ h' v hn' hs=>h _ ?_
 have old:∀b o,b≠X.env.locals->s.heap.get? b=some o->h'.get? b=some o:=λ b o n q=>(hs.2 b n).trans q;have nl:∀{b:Addr} {u:HO},H b=some u->b≠X.env.locals:=λ q z=>by rw [z,I.free] at q;cases q
 have ab:∀{b:Addr} {k:Nat},b<k->k<=X.env.locals->b≠X.env.locals:=λ l g=>ne_of_lt (lt_of_lt_of_le l g);refine ⟨I.ok,I.os,I.bare,⟨λ b o e z hb hx=>?_,λ b o e z hb hx=>?_,I.base.free,λ b o e hx=>?_,I.base.tups,I.base.frzs,I.base.tbls⟩,⟨_,hn',λ j y v' e1 e2 e3=>?_⟩,λ y c e=>?_,I.free,I.freeC,λ p hp=>?_,λ b u q=>?_,by simpa using I.len⟩
 ·exact old b o (ab (lt_size e) I.ok.above) (I.base.keep b o e z hb hx)
 ·obtain ⟨sl,e1⟩:=I.base.slot b o e z hb hx
  exact ⟨sl,old b _ (ab (lt_size e) I.ok.above) e1⟩
 ·obtain ⟨o',e1⟩:=I.base.there b o e hx
  exact ⟨o',old b _ (ab (lt_size e) I.ok.above) e1⟩
 ·by_cases hj:j=i
  ·subst hj
   rw [getElem?_set_self hiσ] at e2;cases e2
  ·rw [getElem?_set_ne (Ne.symm hj)] at e2
   obtain ⟨u',r',q⟩:=hl j y v' e1 e2 e3;refine ⟨u',r',?_⟩;rcases q with ⟨k,e⟩ | ⟨k,c,e,z⟩
   ·have:y≠n:=λ e=>hj (G7 hN e1 (e ▸ hi))
    exact .inl ⟨k,by simp [this,e]⟩
   ·exact .inr ⟨k,c,e,z.sameBut hs (I.cne y c e)⟩
 ·obtain ⟨w',z⟩:=I.cell y c e
  exact ⟨w',z.sameBut hs (I.cne y c e)⟩
 ·obtain ⟨e,z,ne,nf,d⟩:=I.pin p hp
  exact ⟨old _ _ ne e,z,ne,nf,d⟩
 ·refine (I.hok b u q).stay (λ c v hc z=>old c v ?_ z) (λ _ z=>z) λ _ _ z=>z
  rcases hc with e | e
  ·rw [e];exact nl q
  ·exact nl e
theorem Mp {n y:Str}{ea:Addr}{np yp ap hp:Pos}{Q:Flow->Shared->Prop}{E':Value->Shared->Prop}(I:Inv X pins (σ.set i (some (.ref ea))) H s)(hN:X.N.Nodup)(hi:X.N[i]? =some n)(hj:X.N[j]? =some y)
  (hk:X.env.scope.names.lookup n=some .local)(hy:Loc X.env.scope y)(hq:∀s',Inv X pins (((σ.set i (some (.ref ea))).set j (some (.ref ea))).set i none) H s'->Q .next s')
  (hs:swapsWith (.Name n np) (some (.Name y yp)) ap.line X.env=pure false)(hf:X.fn y=true∨X.env.scope.names.lookup y=some .local)
  (hdb:(n==("__debug__" : Str))=false:=by decide):
  wpAny (model X.prog X.w) A (execs [.Assign [.Name y yp] (.Name n np) ap] X.env) (λ f s4=>wpAny (model X.prog X.w) X.A (do bindName X.env n .none;unbindBehindTheSuite X.env n hp) (λ _ s5=>Q f s5) X.xe s4) E' s:=by
 obtain ⟨m,hn,hl⟩:=I.loc;have hiσ:i < σ.length:=by have:=I.len;rw [length_set] at this;rw [this];exact (qa2.mp hi).1
 obtain ⟨u,r,l⟩:=hl i n (.ref ea) hi (getElem?_set_self hiσ) (.inl hk);obtain rfl:u=Value.ref ea:=r;have hm:m n=some (.ref ea):=by
  rcases l with ⟨_,e⟩ | ⟨k | k,_⟩
  ·exact e
  ·rw [show X.env.kindOf n=some .local from hk] at k;cases k
  ·rw [show X.env.kindOf n=some .local from hk] at k;cases k
 refine wpAny_execs_cons (wpAny_Assign_Name (wpAny_Name (wpAny_loadName_local I.ok.kind hk hn hm ?_) hdb) hs);exact KN (v:=.ref ea) I hN hj hy rfl (λ s5 I5=>wpAny_execs_nil (name_goes I5 hN hi hk hq)) hf
end
end Mi
namespace Mi
open PySem PySem.W PySem.Spec PySem.Calls PyProof.Rows Builtin Builtin.ObjectAttr Builtin.Getset_descriptor
section
variable {prog:Program}{A:Around}{K:Frag}{x:Addr}{name:Str}
theorem DG {a g:Value}(X:K.In h)(ha:findIn K (.ref D) name=some (some a))(hn:specialIn K a "__get__" = some (some g))(htk:takesIn K a=some true):Looks M h (find (.ref x) (.ref D) name) (.bind g a):=
 (looks_findIn (M:=M) X ha).andThen ((show Looks M h (getOf (some a)) (some g) from looks_specialIn X hn).andThen
  ((show Looks M h (dataDescriptor? (some a) (some g)) (some (g,a)) from (looks_takesIn (M:=M) X htk).andThen .now).andThen (Looks.tag .now)))
theorem Ez {tp:Value}{R:Result->Shared->Prop}(X:K.In s.heap)(L0:Looks (model prog w) s.heap (typeOf (.ref x)) (.ref D))(hm:mroIn K D (.type "object")=some true)(h:R (.ok (.ret (.ref D))) s):
  codeAny (model prog w) A (.call (.builtin "getset_descriptor.__get__") ⟨[.builtin "object.__class__",.ref x,tp],[]⟩) R s:=by
 obtain ⟨h0,g0,d0,t0,o0⟩:=s;have Ls:=looks_mroIn (M:=model prog w) X hm;have sl:=KF.slot_gs;refine codeAny_call_builtin sl.plain KF.entry_gs (sl.check _ _ _ _ _ _ _ _ KF.type_class (KF.args_gs _ _ _) ?_);unfold «getset_descriptor.__get__» descrGet;rw [dga_obj];refine qa0 (qa1 ?_);unfold descrGetter descrCheckInstance isInstance descrNameAndClass;simp only [KF.owner_class]
 repeat lk
 refine And.intro (Code.quiet_builtin _ (by decide +kernel)) (codeAny_builtin KF.entry_class ?_)
 unfold «object.__class__» shownTypeOf
 repeat lk
 exact h
theorem MW {rest:List Value}{kw:List (Str × Value)}{Q:Unit->Shared->Prop}(X:K.In s.heap)(L0:Looks M s.heap (typeOf (.ref x)) (.ref D))(hm:mroIn K D (.type "BaseException")=some true)
  (ok:argsOk "BaseException.__getattribute__" ⟨.ref x::rest,kw⟩)(hQ:Q () s):wpAny M A (checkBuiltinCall "BaseException.__getattribute__" ⟨.ref x::rest,kw⟩) Q E s:=by
 have cut:splitId "BaseException.__getattribute__" = some ("BaseException", "__getattribute__"):=by first | rfl | decide +kernel
 have kinds:builtinKind "BaseException.__getattribute__" = some .slot∨builtinKind "BaseException.__getattribute__" = some .method:=by
  simp only [builtinKind,cut]
  first | exact .inl (by decide +kernel) | exact .inr (by decide +kernel)
 have Ls:=looks_mroIn (M:=M) X hm;have rest':wpAny M A (match Manifest.signature? "BaseException.__getattribute__" with | some sig=>Bind.checkArgs "BaseException.__getattribute__" sig ⟨.ref x::rest,kw⟩ | none=>pure ()) Q E s:=wpAny_of_eq ok hQ
 rcases kinds with kd | kd
 all_goals
  unfold checkBuiltinCall;rw [kd,cut];dsimp only;unfold isInstance;refine qa0 (qa0 (L0.at (Ls.at ?_)));exact rest'
theorem NI {Q:Option Value->Shared->Prop}(hga:findIn K (.ref D) "__getattribute__" = some (some (.builtin "BaseException.__getattribute__")))(hgn:findIn K (.ref D) "__getattr__" = some none)
  (ha:findIn K (.ref D) "__class__" = some (some (.builtin "object.__class__")))
  (hn:specialIn K (.builtin "object.__class__") "__get__" = some (some (.builtin "getset_descriptor.__get__")))(htk:takesIn K (.builtin "object.__class__")=some true)(hm:mroIn K D (.type "object")=some true)(hm2:mroIn K D (.type "BaseException")=some true)
  (X:K.In s.heap)(L0:Looks (model prog w) s.heap (typeOf (.ref x)) (.ref D))(h:Q (some (.ref D)) { s with toks:=s.toks+1 }):wpAny (model prog w) A (getAttr? (.ref x) "__class__") Q E s:=by
 obtain ⟨hh,g,d,t,os⟩:=s;have Lg:=looks_findIn (M:=model prog w) X hga;have L2:=DG (M:=model prog w) (x:=x) X ha hn htk;have L3:=looks_findIn (M:=model prog w) X hgn;unfold getAttr?;unfold getAttrBy?;unfold getAttrBy;refine qa0 (wpAny_mkText (qa0 (wpAny_attempt (wpAny_holding (qa0 (L0.at (qa0 (Lg.at ?_))))))));show wpAny _ _ (getAttrByItsOwn (.ref x) (.str "__class__" t) (.ref D) (.builtin "BaseException.__getattribute__") false false) _ _ _;unfold getAttrByItsOwn;refine qa0 ?_;show wpAny _ _ (typeLookup (.ref D) "__getattr__") _ _ _;refine L3.at (qa0 (wpAny_attempt (wpAny_holding ?_)));show wpAny _ _ (bindSpecial (.builtin "BaseException.__getattribute__") (.ref x) >>= _) _ _ _;refine qa0 (wpAny_of_eq (F.excAttr_ValueError.ga.bind _) ?_);refine wpAny_call (codeAny_call_builtin F.excAttr_ValueError.ga.plain F.entry_bexc_ga (MW X L0 hm2 (F.args_bexc_ga _ _) ?_));unfold «object.__getattribute__»;refine qa0 (wpAny_of_eq (show slotArgs "__getattribute__" 1 ⟨[.ref x]++[.str "__class__" t],[]⟩=pure (.ref x,[.str "__class__" t]) from rfl) ?_)
 refine qa0 (wpAny_of_eq (show attrName (.str "__class__" t)=pure ("__class__" : Str) from rfl) (qa0 (L0.at (qa0 (L2.at ?_)))))
 show wpAny _ _ (holding [Value.builtin "object.__class__"] (call (.builtin "getset_descriptor.__get__") [.builtin "object.__class__",.ref x,.ref D]) >>= ret) _ _ _;refine qa0 (wpAny_holding (wpAny_call (Ez (s:=⟨hh,g,d,t+1,os⟩) X L0 hm ?_)));refine qa1 ?_;exact handed_on rfl (qa1 h)
end
noncomputable def Wh (x D:Addr)(h:Heap):Prop:=∃o,h.get? x=some o/\o.cls=.ref D
theorem Wh.ty {x:Addr}(p:Wh x D h):Looks M h (typeOf (.ref x)) (.ref D):=by
 obtain ⟨o,ho,hc⟩:=p;rw [<- hc];exact (Looks.ld ho).andThen .now
theorem Fp {K:Frag}{x:Addr}(hc:(clsIn K D).isSome=true)(hga:findIn K (.ref D) "__getattribute__" = some (some (.builtin "BaseException.__getattribute__")))(hgn:findIn K (.ref D) "__getattr__" = some none)(ha:findIn K (.ref D) "__class__" = some (some (.builtin "object.__class__")))
  (hn:specialIn K (.builtin "object.__class__") "__get__" = some (some (.builtin "getset_descriptor.__get__")))(htk:takesIn K (.builtin "object.__class__")=some true)(hm:mroIn K D (.type "object")=some true)(hm2:mroIn K D (.type "BaseException")=some true):
  KitX K (.ref x) (.ref D) (Wh x D) where
 ty:=λ _ _ _ p=>p.ty
 it:=λ _ _ X _=>by
  obtain ⟨cdD,hcD⟩:=Option.isSome_iff_exists.mp hc;unfold clsIn at hcD
  split at hcD
  ·rename_i c' d' cd' sl' ho
   intro A' Q' E' s' k q;unfold isType loadHead;exact qa0 (wpAny_loadPart (k _ _ (X D _ ho)) (qa1 q))
  ·cases hcD
 ne:=λ _ tp dd its n sl X ht=>by
  obtain ⟨cdD,hcD⟩:=Option.isSome_iff_exists.mp hc;rw [Bool.eq_false_iff];intro q;cases Value.ref.inj (beq_iff_eq.mp q);unfold clsIn at hcD
  split at hcD
  ·rename_i ho
   cases (X _ _ ho).symm.trans ht
  ·cases hcD
 ca:=λ X p k=>NI hga hgn ha hn htk hm hm2 X p.ty k
end Mi
namespace Mi
open PySem PySem.Spec PyProof.Rows L2
noncomputable def Yr (K:Frag)(C:Addr):Bool:=(PySem.W.clsIn K C).isSome&&(PySem.W.findIn K (.ref C) "__getattribute__" == some (some (.builtin "BaseException.__getattribute__")))&&(PySem.W.findIn K (.ref C) "__getattr__" == some none)&&(PySem.W.findIn K (.ref C) "__class__" == some (some (.builtin "object.__class__")))&&
 (PySem.W.specialIn K (.builtin "object.__class__") "__get__" == some (some (.builtin "getset_descriptor.__get__")))&&(PySem.W.takesIn K (.builtin "object.__class__")==some true)&&(PySem.W.mroIn K C (.type "object")==some true)&&(PySem.W.mroIn K C (.type "BaseException")==some true)
section
variable {A:Around}{c:Value}{b:Bool}{ea C:Addr}
theorem D1 {oe:Obj}{uo:HO}(I:Inv X pins σ H s)(e:H ea=some (.frz oe uo))(hoe:oe.cls=.ref C)(k:Yr X.K C=true)(q:kitOne X.K (.ref C) c=some b)(h:∀tk,Q (.bool b) { s with toks:=tk }):
  wpAny (model X.prog X.w) A (call (.builtin "isinstance") [.ref ea,c]) Q E s:=by
 have p:Wh ea C s.heap:=⟨oe,(show qQ X.prog X.w H s.heap ea (.frz oe uo) from I.hok ea _ e).1,hoe⟩
 unfold Yr at k;simp only [and_eq_true,beq_iff_eq] at k;obtain ⟨⟨⟨⟨⟨⟨⟨k1,k2⟩,k22⟩,k3⟩,k4⟩,k5⟩,k6⟩,k7⟩:=k;exact kia_one (Fp k1 k2 k22 k3 k4 k5 k6 k7) I.kIn p q (λ z=>nomatch z) h
theorem DA (I:Inv X pins σ H s)(q:kitOne X.K (.type "NoneType") c=some b)(h:∀tk,Q (.bool b) { s with toks:=tk }):wpAny (model X.prog X.w) A (call (.builtin "isinstance") [.none,c]) Q E s:=
 TH I (x:=.non) rfl .non q h
end
noncomputable def Zg (P:Program)(w:World)(K:Frag)(mg:Str->Option Value)(base:Heap)(N:List Str)(qual:Str)(scope:Scope)(f:Addr)(cd:Value)(cl:List (Str × Addr))(A:Around)(outer:List Env)(s:Shared)(H:Hp)(E:XK):Cx where
 prog:=P
 w:=w
 K:=K
 mg:=mg
 base:=base
 A:=A.deeper (envX qual scope s.heap.objs.size f cd cl)
 N:=N
 s0:=s
 H0:=H
 env:=envX qual scope s.heap.objs.size f cd cl
 outer:=outer
 stack:=envX qual scope s.heap.objs.size f cd cl::outer
 ex:=[]
 calm:=true
 fn:=λ _=>false
 pn:=[]
 xe:=λ e s'=>wpAny (model P w) (A.deeper (envX qual scope s.heap.objs.size f cd cl)) (leaving (envX qual scope s.heap.objs.size f cd cl) e) (λ _ s''=>wW P w outer H s E e s'') (λ e' s''=>wW P w outer H s E e' s'') s'
section
variable {K:Frag}{cd:Value}{cl:List (Str × Addr)}{A:Around}{outer:List Env}{E:XK}
theorem LH {H':Hp}{ea C:Addr}(I:Inv (Zg P w K mg base N qual scope f cd cl A outer s H E) pins σ H' s')(x:wz H' s'.heap s.heap ea (.ref C))(hE:E (.ref C) none H'):
  (Zg P w K mg base N qual scope f cd cl A outer s H E).xe (.ref ea) s':=by
 have bs:Un (qp outer) [] H H' s.heap s'.heap:=I.base;have stk:∀b∈qp (envX qual scope s.heap.objs.size f cd cl::outer),H' b=none:=I.stkFree;have hL:s.heap.get? s.heap.objs.size=none:=Heap.get?_none_of_le (le_refl _);have hfe:(envX qual scope s.heap.objs.size f cd cl).frame=some s.heap.objs.size:=rfl;have mem:∀b,b∈qp (envX qual scope s.heap.objs.size f cd cl::outer)↔b=s.heap.objs.size∨b∈qp outer:=λ b=>by
  unfold qp;rw [filterMap_cons,hfe];exact mem_cons
 show wpAny (model P w) (A.deeper (envX qual scope s.heap.objs.size f cd cl)) (leaving (envX qual scope s.heap.objs.size f cd cl) (.ref ea)) _ _ s';refine Pm (base:=base) (L:=s.heap.objs.size) I.ok.frames rfl I.stack x (λ b u e=>(I.hok b u e).obj) (λ b o e=>bs.there b o e (by simp)) λ h' k1 k2 x' tr'=>?_
 have nfr:∀b u,H' b=some u->b∉qp (envX qual scope s.heap.objs.size f cd cl::outer):=λ b u e hm=>by rw [stk b hm] at e;cases e
 refine ⟨ea,C,H',rfl,I.os,I.bare,⟨λ b o e n nb _=>?_,λ b o e n mb _=>?_,λ b o e n hx=>bs.free b o e n hx,λ b o e hx=>?_,bs.tups,bs.frzs,bs.tbls⟩,λ b u e=>?_,x',tr',hE⟩
 ·have nL:b≠s.heap.objs.size:=λ z=>by rw [z,hL] at e;cases e
  exact k1 b o (bs.keep b o e n nb (by simp)) (λ hm=>(mem b).mp hm |>.elim nL nb) (.inl ⟨o,e⟩)
 ·obtain ⟨sl,q⟩:=bs.slot b o e n mb (by simp)
  obtain ⟨sl',q'⟩:=k2 b _ q ((mem b).mpr (.inr mb));exact ⟨sl',q'⟩
 ·obtain ⟨o',q⟩:=bs.there b o e hx
  by_cases hm:b∈qp (envX qual scope s.heap.objs.size f cd cl::outer)
  ·obtain ⟨sl,z⟩:=k2 b o' q hm;exact ⟨_,z⟩
  ·exact ⟨o',k1 b o' q hm (.inl ⟨o,e⟩)⟩
 ·refine (I.hok b u e).stay (λ c v hc q=>?_) (λ _ q=>q) λ _ _ q=>q
  rcases hc with z | z
  ·rw [z] at q ⊢;exact k1 b v q (nfr b u e) (.inr ⟨u,e⟩)
  ·exact k1 c v q (nfr c _ z) (.inr ⟨_,z⟩)
theorem BG:gy (Zg P w K mg base N qual scope f cd cl A outer s H E) s.heap (gH K E) where
 th:=λ pins σ H' s' I b o e=>(show Un (qp outer) [] H H' s.heap s'.heap from I.base).there b o e (by simp)
 out:=λ pins σ H' s' ea C x I ly c hx=>LH I ly (hx C c)
structure Xb (N:List Str)(sc:Scope):Prop where
 kind:sc.kind=.function
 co:sc.isCoroutine=false
 gen:sc.isGenerator=false
 nocell:∀y∈sc.names,y.2≠.cell
structure KI (base:Heap)(N:List Str)(scope:Scope)(cl:List (Str × Addr))(vs:List V):Prop where
 len:vs.length=N.length
 inj:∀x y c,cl.lookup x=some c->cl.lookup y=some c->x=y
 has:∀x,scope.names.lookup x=some .free->∃c,cl.lookup x=some c
 cell:∀x c,cl.lookup x=some c->∃v,base.IsCell c v
 val:∀(i:Nat) (x:Str) (v:V),N[i]? =some x->vs[i]? =some v->∃c u,scope.names.lookup x=some .free/\cl.lookup x=some c/\base.IsCell c (some u)/\RelV v u
theorem F7 {h1:Heap}{tk:Tok}(S:Xb N scope)(hd:A.handled=none)(e0:QN P w K mg base A outer s H)(C:KI base N scope cl vs)(hns:∃m,h1.Ns s.heap.objs.size m)(hk:∀b o,s.heap.get? b=some o->h1.get? b=some o):
  Inv (Zg P w K mg base N qual scope f cd cl A outer s H E) [] (L2.start N vs) H { s with heap:=h1,toks:=tk }:=by
 have kM:∀b:Addr,b∉(Zg P w K mg base N qual scope f cd cl A outer s H E).ex:=λ b z=>absurd (show b∈([]:List Addr) from z) (by simp)
 have bk:∀c v,base.IsCell c v->h1.IsCell c v/\H c=none:=λ c v ⟨o,ho,hd⟩=>⟨⟨o,hk _ _ (e0.bs _ _ ho).1,hd⟩,(e0.bs _ _ ho).2⟩;obtain ⟨m,hm⟩:=hns;refine ⟨⟨e0.mod,S.kind,rfl,rfl,le_refl _,C.inj,λ y hy=>?_,λ y c z _=>(nomatch z),λ _=>hd,Around.frames_deeper e0.frames,.inr ⟨rfl,rfl⟩,λ b z=>absurd z (kM b),e0.bs,e0.bsz,λ b _ _=>kM b,λ b z=>absurd z (kM b),e0.funs,e0.frf⟩,
  rfl,e0.bare,Un.kept hk,⟨m,hm,λ i y v h1 h2 h3=>?_⟩,λ y c h=>?_,e0.hok.fresh (le_refl _),λ y c h=>?_,λ p hp=>absurd (show p∈([]:List (Addr × Obj)) from hp) (by simp),e0.hok.kept hk,?_⟩
 ·have hy:scope.names.lookup y=some .cell∨scope.names.lookup y=some .free:=hy
  rcases hy with hy | hy
  ·exact absurd rfl (S.nocell _ (PySem.mem_of_lookup hy))
  ·exact C.has y hy
 ·have hi:i<vs.length:=by
   unfold L2.start at h2
   by_cases hi:i<vs.length
   ·exact hi
   ·rw [getElem?_append_right (by simpa using hi)] at h2
    rw [getElem?_replicate] at h2
    split at h2<;>cases h2
  have ha:vs[i]? =some v:=by
   unfold L2.start at h2;rw [getElem?_append_left (by simpa using hi),getElem?_map] at h2
   cases e:vs[i]? with
   | none=>rw [e] at h2;cases h2
   | some a=>rw [e] at h2;cases h2;rfl
  obtain ⟨c,u,k,e,z,r⟩:=C.val i y v h1 ha;exact ⟨u,r,.inr ⟨.inr k,c,e,(bk _ _ z).1⟩⟩
 ·obtain ⟨v,z⟩:=C.cell y c h
  exact ⟨v,(bk _ _ z).1⟩
 ·obtain ⟨v,z⟩:=C.cell y c h
  exact (bk _ _ z).2
 ·unfold L2.start
  show _=N.length;rw [length_append,length_map,length_replicate,C.len];omega
noncomputable def Pe (oc:Obj)(q:Str):Prop:=∃vs t,oc.data=.fields vs/\vs[1]? =some (.str q t)
theorem CV {k:Nat}{name:Str}{params:Arguments}{body:Expr}{pm ctv:Value}{oc:Obj}{u uc:HO}{m:Ev}(S:Xb N scope)(C:KI base N scope cl vs)(hoc:Pe oc qual)
  (hbody:∀(A:Around) (outer:List Env) (s:Shared) (H:Hp) (E:XK),jm k (A.deeper (envX qual scope s.heap.objs.size a (.ref c) cl))->gy (Zg P w K mg base N qual scope a (.ref c) cl A outer s H E) s.heap (gH K E)->
   SE (Zg P w K mg base N qual scope a (.ref c) cl A outer s H E) (gH K E) body m):
  yy P w K mg base (wW P w) (k+1) a (kla_fn name qual params body scope cl pm (.ref c) ctv) [] (λ us H Q E=>us=[]/\H a=some (.frz (kla_obj name qual params body scope cl pm c ctv) u)/\H c=some (.frz oc uc)/\
   ∃φ A ws,zJ K φ A H/\zE K φ H ws vs/\(m (ws.map some) A).post (PB K φ H Q) (EB K φ H (gH K E))):=by
 refine ⟨λ us H Q E h=>by rw [h.1];rfl,λ A outer s H args us vs' Q E hr e0 hb r h=>?_⟩
 obtain ⟨rfl,h1,h2,φ,A1,ws,Sm,rv,hp⟩:=h;cases r;have ho:s.heap.get? a=some (kla_obj name qual params body scope cl pm c ctv):=(show qQ P w H s.heap a (.frz _ u) from e0.hok a _ h1).1
 have hc:s.heap.get? c=some oc:=(show qQ P w H s.heap c (.frz oc uc) from e0.hok c _ h2).1
 have lim:s.heap.NoLimit:=e0.mod.nolimit.keeps λ b o e=>(e0.bs b o e).1;obtain ⟨vc,tc,hd1,hd2⟩:=hoc;refine PySem.W.kla_callFunE hr.depth ho rfl S.co S.gen rfl ⟨c,oc,vc,tc,rfl,hc,hd1,hd2⟩ (hb _ _ _ _ ?_);refine wpAny_newFunctionEnv S.nocell (λ y hy=>absurd (show y∈([]:List (Str × Value)) from hy) (by simp)) (λ h₁ hns hsb=>⟨lim.fresh _ hsb,?_⟩) S.kind
 show codeAny _ _ (.expr body (envX qual scope s.heap.objs.size a (.ref c) cl)) _ _;have hk₁:∀b o,s.heap.get? b=some o->h₁.get? b=some o:=λ b o e=>hsb.extBut b o (ne_of_lt (lt_size e)) (get?_push_of_some _ e);have I:∀tk,Inv (Zg P w K mg base N qual scope a (.ref c) cl A outer s H E) [] (L2.start N vs) H { s with heap:=h₁,toks:=tk }:=λ tk=>F7 S hr.hd e0 C ⟨_,hns⟩ hk₁
 refine PySem.W.kla_codeExpr (wpAny_mono (hbody A outer s H E (hr.deeper _) BG [] _ (L2.start N vs) H Q (I _) ⟨φ,A1,_,Sm,RE.start (N:=N) rv,?_⟩) (λ v s' hv=>?_) λ _ _ y=>y)
 ·have:N.length - ws.length=0:=by rw [rv.length,C.len];omega
  rw [this,List.replicate_zero,append_nil];exact hp
 ·obtain ⟨x,H',J,rx,q⟩:=hv
  exact ⟨x,H',J.os,J.bare,J.base,J.hok,rx,q⟩
end
inductive Ad (K:Frag)(a:Addr)(ob:Obj)(u:HO)(c:Addr)(oc:Obj)(uc:HO)(vs:List V)(g:Fn)(us:List V)(H:Hp)(Q:VK)(E:XK):Prop
 | mk (e:us=[]) (h1:H a=some (.frz ob u)) (h2:H c=some (.frz oc uc)) (φ:List Addr) (A:Hx) (ws:List W) (S:zJ K φ A H) (r:zE K φ H ws vs) (q:(g ws A).post (PB K φ H Q) (EB K φ H (gH K E)))
noncomputable def gY (P:Program)(w:World)(K:Frag)(mg:Str->Option Value)(base:Heap)(j:Nat)(Pk:Obj->Addr->Obj->List V->Prop)(g:Fn):Prop:=
 ∀a ob u c oc uc vs,Pk ob c oc vs->(∃fd,ob.data=.func fd)/\∃fd,yy P w K mg base (wW P w) j a fd [] (Ad K a ob u c oc uc vs g)/\∀s,BindsTo s fd ⟨[],[]⟩ []
open Classical in
noncomputable def WC (i:Nat)(PG:Nat->Obj->Addr->Obj->List V->Prop)(lam:Nat->Fn):Ev:=λ ρ A=>match ρ[i]? with
 | some (some (.clo k ws P))=>if P=PG k then lam k ws A else .bad
 | _=>.bad
noncomputable def YR (i j l:Nat)(cs:List Str)(PG:Nat->Obj->Addr->Obj->List V->Prop)(lam:Nat->Fn):Ex:=λ ρ A=>match WC i PG lam ρ A with
 | .ok _ A1=>.ok (.nx ρ) A1
 | .exc x A1=>if cs.contains x then .ok (.nx (((ρ.set l (some (.xc x))).set j (some (.xc x))).set l none)) A1 else .bad
 | .bad=>.bad
section
variable {K:Frag}
theorem RE.unset (r:RE K φ H ρ σ):RE K φ H (ρ.set i none) (σ.set i none):=
 ⟨by simp [r.len],λ j u e=>by
  by_cases h:i=j
  ·subst h
   have hi:i < ρ.length:=by
    have:=(qa2.mp e).1
    simpa using this
   rw [getElem?_set_self hi] at e;cases e
  ·rw [getElem?_set_ne h] at e
   obtain ⟨x,h1,h2⟩:=r.get j u e;exact ⟨x,by rw [getElem?_set_ne h];exact h1,h2⟩⟩
end
noncomputable def PZ (K:Frag)(φ:List Addr)(H:Hp)(ρ:En)(j l:Nat)(D0:Ends)(xn:Str)(A':Hx):Prop:=∀φ2 H2 σ2,Le K φ H φ2 H2->zJ K φ2 A' H2->RE K φ2 H2 (((ρ.set l (some (.xc xn))).set j (some (.xc xn))).set l none) σ2->D0.nx σ2 H2
inductive AE (K:Frag)(φ:List Addr)(H:Hp)(ρ:En)(j l:Nat)(D0:Ends)(ea C:Addr)(H':Hp):Prop
 | mk (xn:Str) (φ':List Addr) (A':Hx) (le:Le K φ H φ' H') (S:zJ K φ' A' H') (rv:RV K φ' H' (.xc xn) (.ref ea)) (n:PZ K φ H ρ j l D0 xn A')
inductive Ao (K:Frag)(φ:List Addr)(H:Hp)(ρ:En)(j l:Nat)(D0:Ends)(cs:List Str)(Cv:Value)(d:Option Addr)(H1:Hp):Prop
 | mk (xn:Str) (Ca:Addr) (e:Cv=.ref Ca) (hC:yF K xn (.ref Ca)) (hc:cs.contains xn=true) (φ1:List Addr) (A1:Hx) (le:Le K φ H φ1 H1) (S:zJ K φ1 A1 H1) (n:PZ K φ H ρ j l D0 xn A1)
noncomputable def P6 (K:Frag)(f:Str->Option Bool)(cv:V):List V->Hp->VK->Prop:=λ xs H Q=>∃x,xs=[x,cv]/\((x=.non/\Q (.bl false) H)∨∃a oe uo C nm b,x=.ref a/\H a=some (.frz oe uo)/\oe.cls=.ref C/\yF K nm (.ref C)/\f nm=some b/\Q (.bl b) H)
structure YD (K:Frag)(f:Str->Option Bool)(c:Value):Prop where
 non:kitOne K (.type "NoneType") c=some false
 exc:∀nm C b,f nm=some b->yF K nm (.ref C)->Yr K C=true/\kitOne K (.ref C) c=some b
noncomputable def qV (f:Str->Option Bool)(m:Ev):Ev:=λ ρ A=>(m ρ A).bind λ w A1=>match w with
 | .non=>.ok (.bl false) A1
 | .xc nm=>(match f nm with
  | some b=>.ok (.bl b) A1
  | none=>.bad)
 | _=>.bad
section
variable {m:Ev}{f:Str->Option Bool}
theorem SH {cv:V}{c:Value}(hc:YD X.K f c)(rc:∀u,RelV cv u->u=c):j3 X (.builtin "isinstance") (P6 X.K f cv):=by
 intro pins s σ H xs us Q I r h;obtain ⟨x,rfl,h⟩:=h;obtain ⟨u,u',rfl,ru,ru'⟩:=vals2 r;cases rc _ ru';rcases h with ⟨rfl,q⟩ | ⟨a,oe,uo,C,nm,b,rfl,h1,h2,h3,h4,q⟩
 ·cases (show u=Value.none from ru)
  exact DA I hc.non λ tk=>⟨.bl false,H,I.tok tk,rfl,q⟩
 ·cases (show u=Value.ref a from ru)
  obtain ⟨k1,k2⟩:=hc.exc nm C b h4 h3;exact D1 I h1 h2 k1 k2 λ tk=>⟨.bl b,H,I.tok tk,rfl,q⟩
theorem qV.read {cv:V}{t2:TE}(h2:∀σ H Q,Q cv H->t2 σ H Q):∀σ H Q,tM X.K xr (qV f m) σ H Q->WU (P6 X.K f cv) (Wq (tM X.K xr m) (Wq t2 Vd)) σ H Q:=by
 rintro σ H Q ⟨φ,A,ρ,S,re,h⟩
 refine tM.go S re (zU.mp h) λ w A1 φ1 H1 v h1 l1 S1 q1=>?_;refine h2 σ H1 _ ?_;cases w with
 | non=>
  obtain rfl:=q1;exact ⟨.non,rfl,.inl ⟨rfl,h1 φ1 H1 _ l1 S1 rfl⟩⟩
 | xc nm=>
  dsimp only at h1;cases ef:f nm with
  | none=>rw [ef] at h1;exact h1.elim
  | some b=>
   rw [ef] at h1;obtain ⟨a,oe,u,C,rfl,z1,z2,z3⟩:=q1;exact ⟨.ref a,rfl,.inr ⟨a,oe,u,C,nm,b,rfl,z1,z2,z3,ef,h1 φ1 H1 _ l1 S1 rfl⟩⟩
 | bl _=>exact h1.elim
 | int _=>exact h1.elim
 | str _=>exact h1.elim
 | tup _=>exact h1.elim
 | ref _=>exact h1.elim
 | clo _ _ _=>exact h1.elim
end
theorem NA {a b:Int}{c cv:Value}(l:List Value)(h:TriplesOk l)(e:codeAmong pos (l++[rawInt a,rawInt b,c])=some cv):codeAmong pos l=some cv∨cv=c:=by
 fun_induction TriplesOk l with
 | case1=>
  right
  simp only [nil_append,codeAmong,rawInt] at e
  split at e
  ·exact (Option.some.inj e).symm
  ·cases e
 | case2 a' t b' u x rest ih=>
  simp only [List.cons_append,codeAmong] at e ⊢
  split at e
  ·rename_i hc;rw [if_pos hc];exact .inl e
  ·rename_i hc;rw [if_neg hc];exact ih h e
 | case3 l h1 h2=>exact h.elim
noncomputable def BMain (mg:Str->Option Value)(base:Heap):Prop:=∃bm o,mg "__builtins__" = some (.ref bm)/\bm≠builtinsNs/\bm≠mainGlobals/\base.get? bm=some o/\o.cls=.type "module" /\ o.dict=some builtinsNs/\o.data=.plain
noncomputable def WK (q:Str)(params:Arguments)(body:Expr)(scope:Scope)(clos:List (Str × Addr)):Obj->Addr->Obj->List V->Prop:=λ ob c oc _=>(∃pm ctv,ob=kla_obj "<lambda>" q params body scope clos pm c ctv)/\Pe oc q
noncomputable def j6 (n:Nat)(q:Str)(P:Addr)(k:Nat)(PF:Obj->Addr->Obj->List V->Prop):Ev:=λ _ A=>match A[n]? with
 | some (.tab q' P')=>if q'=q/\P'=P then .ok (.clo k [] PF) A else .bad
 | _=>.bad
section
variable {k:Nat}{q:Str}{P:Addr}{params:Arguments}{body:Expr}{clos:List (Str × Addr)}
theorem CH (hB:BMain X.mg X.base)(hcode:X.env.code=.ref c)(C:CodeHd X.base c P)(hcl:closureFor scope X.env=pure clos)(hq:X.env.qual ++ "<lambda>" = q)(hdef:defaultsOf params X.env=([],[]):=by rfl):
  SE X xr (.Lambda params body scope pos) (j6 n q P k (WK q params body scope clos)):=by
 intro pins s σ H Q I ⟨φ,A,ρ,S,re,h⟩;unfold j6 at h;cases ei:A[n]? with
 | none=>rw [ei] at h;exact h.elim
 | some o=>
  rw [ei] at h;cases o with
  | tab q' P'=>
   dsimp only at h
   by_cases hc:q'=q/\P'=P
   ·rw [if_pos hc] at h
    obtain ⟨rfl,rfl⟩:=hc;obtain ⟨a,ha,eaP,ps,hH,tg⟩:=S.ob n _ ei;subst eaP;have hP:s.heap.get? a=some (tabObj ps):=(show qQ X.prog X.w H s.heap a (.tbl ps) from I.hok a _ hH)
    have hg:s.heap.Ns mainGlobals X.mg:=I.mod.glob.keeps I.bk;have hgP:mainGlobals≠a:=λ z=>by
     obtain ⟨o,es,ep,e,hd,_⟩:=hg;rw [z,hP] at e;cases e;cases hd
    have hb:s.heap.BuiltinsAt X.mg a:=by
     obtain ⟨bm,o,b1,b2,b3,b4,b5⟩:=hB;refine ⟨bm,o,b1,b2,b3,λ z=>?_,I.bk _ _ b4,b5⟩
     have:=(I.bs _ _ b4).2
     rw [z,hH] at this;cases this
    refine PySem.W.kla_eval hdef ?_;rw [hq];have kM:∀b,s.heap.objs.size<=b->H b=none:=λ b hb=>I.hok.fresh hb;cases hf:codeAmong pos ps.toList with
    | none=>
     refine PySem.W.kla_makeFunction (mg:=X.mg) hcl I.ok.glob hg hcode (C.keeps I.bk) hP tg.1 hf hgP hb λ c' ctv h' tk hx hge hlt hrec htb=>?_;obtain ⟨c2,oc,vc,tc,ec,hoc,hd1,hd2⟩:=hrec;cases ec;generalize hob:kla_obj "<lambda>" q' params body scope clos ((X.mg "__name__").getD .none) c' ctv=ob;have hPc:a<s.heap.objs.size:=lt_size hP;have nPc:a≠c':=ne_of_lt (lt_of_lt_of_le hPc hge);have nPf:a≠h'.objs.size:=ne_of_lt (lt_trans (lt_of_lt_of_le hPc hge) hlt);have ncf:c'≠h'.objs.size:=ne_of_lt hlt;have hsf:s.heap.objs.size<=h'.objs.size:=le_trans hge (le_of_lt hlt);have H0c:H c'=none:=kM c' hge;have H0f:H h'.objs.size=none:=kM _ hsf;have H1f:upd H c' (.frz oc (.own 0)) h'.objs.size=none:=by rw [qf (Ne.symm ncf)];exact H0f
     generalize hps:ps++#[rawInt pos.line,rawInt pos.col,.ref c']=ps' at htb;have S1:=S.lay (u:=.frz oc (.own 0)) H0c;have S2:=S1.lay (u:=.frz ob (.own 0)) H1f;have fz:∀b o u,upd (upd H c' (.frz oc (.own 0))) h'.objs.size (.frz ob (.own 0)) b=some (.frz o u)->upd (upd (upd H c' (.frz oc (.own 0))) h'.objs.size (.frz ob (.own 0))) a (.tbl ps') b=some (.frz o u):=λ b o u e=>by
      rw [qf];exact e;intro z;rw [z,qf nPf,qf nPc,hH] at e;cases e
     have fz0:∀b o u,H b=some (.frz o u)->upd (upd H c' (.frz oc (.own 0))) h'.objs.size (.frz ob (.own 0)) b=some (.frz o u):=λ b o u e=>by
      rw [qf (yU e H0f),qf (yU e H0c)];exact e
     have tg':YJ (upd (upd (upd H c' (.frz oc (.own 0))) h'.objs.size (.frz ob (.own 0))) a (.tbl ps')) q' ps':=by
      rw [<- hps];refine ⟨by rw [Array.toList_append];exact TriplesOk_snoc _ _ _ _ tg.1,λ pos' cv e=>?_⟩
      rw [Array.toList_append] at e;rcases NA _ tg.1 e with e | e
      ·obtain ⟨c0,oc0,u0,vs0,t0,g1,g2,g3⟩:=tg.2 pos' cv e
       exact ⟨c0,oc0,u0,vs0,t0,g1,by rw [hps];exact fz _ _ _ (fz0 _ _ _ g2),g3⟩
      ·exact ⟨c',oc,.own 0,vc,tc,e,by rw [hps];exact fz _ _ _ (by rw [qf ncf,jo]),hd1,hd2⟩
     obtain ⟨l3,S3⟩:=S2.write (o:=.tab q' a) (o':=.tab q' a) ei rfl rfl ha (u:=.tbl ps') ⟨rfl,ps',jo,tg'⟩;have l03:Le X.K φ H φ _:=((Le.new H0c).trans (Le.new H1f)).trans l3;have set3:A.set n (.tab q' a)=A:=by
      apply ext_getElem?
      intro i
      by_cases hi:n=i
      ·subst hi
       rw [getElem?_set_self (qa2.mp ei).1,ei]
      ·rw [getElem?_set_ne hi]
     rw [set3] at S3;have eP:upd (upd (upd H c' (.frz oc (.own 0))) h'.objs.size (.frz ob (.own 0))) a (.tbl ps') a=some (.tbl ps'):=jo;have ec:upd (upd (upd H c' (.frz oc (.own 0))) h'.objs.size (.frz ob (.own 0))) a (.tbl ps') c'=some (.frz oc (.own 0)):=by rw [qf (Ne.symm nPc),qf ncf,jo]
     have ef:upd (upd (upd H c' (.frz oc (.own 0))) h'.objs.size (.frz ob (.own 0))) a (.tbl ps') h'.objs.size=some (.frz ob (.own 0)):=by rw [qf (Ne.symm nPf),jo]
     have eo:∀b,b≠a->b≠c'->b≠h'.objs.size->upd (upd (upd H c' (.frz oc (.own 0))) h'.objs.size (.frz ob (.own 0))) a (.tbl ps') b=H b:=λ b n1 n2 n3=>by rw [qf n1,qf n3,qf n2]
     generalize upd (upd (upd H c' (.frz oc (.own 0))) h'.objs.size (.frz ob (.own 0))) a (.tbl ps')=H3 at S3 l03 eP ec ef eo;have kp:∀b o,b≠a->s.heap.get? b=some o->(h'.push ob).get? b=some o:=λ b o n e=>get?_push_of_some _ (hx b o n e);have old:∀b o,s.heap.get? b=some o->b≠c'/\b≠h'.objs.size:=λ b o e=>⟨ne_of_lt (lt_of_lt_of_le (lt_size e) hge),ne_of_lt (lt_of_lt_of_le (lt_size e) hsf)⟩;have nH:∀b u,H b=some u->b≠c'/\b≠h'.objs.size:=λ b u e=>⟨yU e H0c,yU e H0f⟩;have gP:(h'.push ob).get? a=some (tabObj ps'):=get?_push_of_some _ htb;have I3:Inv X pins σ H3 { s with heap:=h'.push ob,toks:=tk }:=by
      refine I.un ⟨λ b o e z hb _=>?_,λ b o e z hb _=>?_,λ b o e z _=>?_,λ b o e _=>?_,λ b xs e=>?_,λ b o u e=>?_,λ b qs e=>?_⟩ λ b u e=>?_
      ·exact kp b o (λ w=>by rw [w,hH] at z;cases z) e
      ·exact ⟨o.slots,kp b o (λ w=>by rw [w,hH] at z;cases z) e⟩
      ·rw [eo b (λ w=>by rw [w,hH] at z;cases z) (old b o e).1 (old b o e).2];exact z
      ·by_cases hb:b=a
       ·rw [hb];exact ⟨_,gP⟩
       ·exact ⟨o,kp b o hb e⟩
      ·rw [eo b (JE e hH (by intro w;cases w)) (nH b _ e).1 (nH b _ e).2];exact e
      ·rw [eo b (JE e hH (by intro w;cases w)) (nH b _ e).1 (nH b _ e).2];exact e
      ·by_cases hb:b=a
       ·subst hb
        rw [hH] at e;cases e;exact ⟨_,by rw [eP,<- hps]⟩
       ·exact ⟨#[],by rw [eo b hb (nH b _ e).1 (nH b _ e).2,e];simp⟩
      ·by_cases h1:b=a
       ·subst h1
        rw [eP] at e;cases e;exact gP
       ·by_cases h2:b=c'
        ·subst h2
         rw [ec] at e;cases e;exact ⟨get?_push_of_some _ hoc,⟨_,get?_push_of_some _ hoc⟩⟩
        ·by_cases h3:b=h'.objs.size
         ·subst h3
          rw [ef] at e;cases e;exact ⟨get?_push_size _ (by rw [<- hob];rfl),⟨_,get?_push_size _ (by rw [<- hob];rfl)⟩⟩
         ·rw [eo b h1 h2 h3] at e
          refine (I.hok b u e).stay (λ d v hd z=>kp d v ?_ z) (λ d z=>?_) λ d xs z=>?_
          ·rcases hd with w | w
           ·rw [w];exact h1
           ·exact JE w hH (by intro w;cases w)
          ·rw [eo d (JE z hH (by intro w;cases w)) (nH d _ z).1 (nH d _ z).2];exact z
          ·rw [eo d (JE z hH (by intro w;cases w)) (nH d _ z).1 (nH d _ z).2];exact z
     exact ⟨.ref h'.objs.size,H3,I3,rfl,h φ H3 _ l03 S3 ⟨h'.objs.size,ob,.own 0,c',oc,.own 0,[],rfl,ef,ec,⟨⟨_,_,hob.symm⟩,vc,tc,hd1,hd2⟩,rfl⟩⟩
    | some cv=>
     obtain ⟨c',oc,u0,vc,tc,rfl,hHc,hd1,hd2⟩:=tg.2 pos cv hf;refine PySem.W.kla_makeFunctionHit (mg:=X.mg) hcl I.ok.glob hg hcode (C.keeps I.bk) hP tg.1 hf hb λ ctv h' tk hx hsz=>?_;generalize hob:({ cls:=.type "function",data:=.func (kla_fn "<lambda>" q' params body scope clos ((X.mg "__name__").getD .none) (.ref c') ctv) }:Obj)=ob;have H0f:H h'.objs.size=none:=kM _ hsz;have I3:Inv X pins σ (upd H h'.objs.size (.frz ob (.own 0))) { s with heap:=h'.push ob,toks:=tk }:=
      I.laid (λ b o e=>get?_push_of_some _ (hx b o e)) hsz ⟨get?_push_size _ (by rw [<- hob];rfl),⟨_,get?_push_size _ (by rw [<- hob];rfl)⟩⟩
     refine ⟨.ref h'.objs.size,_,I3,rfl,h φ _ _ (Le.new H0f) (S.lay H0f) ⟨h'.objs.size,ob,.own 0,c',oc,u0,[],rfl,jo,?_,⟨⟨_,_,hob.symm⟩,vc,tc,hd1,hd2⟩,rfl⟩⟩;rw [qf (yU hHc H0f)];exact hHc
   ·rw [if_neg hc] at h;exact h.elim
  | _=>exact h.elim
end
section
variable {K:Frag}
theorem RE.monoW {φ':List Addr}{H':Hp}(r:RE K φ H ρ σ)(l:gE K φ H φ' H'):RE K φ' H' ρ σ:=⟨r.len,λ i w e=>let ⟨v,h1,h2⟩:=r.get i w e;⟨v,h1,h2.monoW l⟩⟩
inductive MMg (G:List Addr->Hp->Prop)(K:Frag)(xr:XR)(m:Ev)(σ:St)(H:Hp)(Q:VK):Prop
 | mk (φ:List Addr) (A:Hx) (ρ:En) (S:zJ K φ A H) (re:RE K φ H ρ σ) (g:G φ H) (h:(m ρ A).post (PB K φ H Q) (EB K φ H xr))
noncomputable def Oi (G:List Addr->Hp->Prop)(K:Frag)(xr:XR)(m:Ev):TE:=λ σ H Q=>MMg G K xr m σ H Q
inductive MEg (G:List Addr->Hp->Prop)(K:Frag)(em:Em)(D:Addr)(σ:St)(H:Hp)(Q:St->Hp->Prop):Prop
 | mk (φ:List Addr) (A:Hx) (ρ:En) (acc:List W) (ys:List V) (S:zJ K φ A H) (re:RE K φ H ρ σ) (g:G φ H) (hD:H D=some (.lst ys)) (nD:∀k:Nat,φ[k]?≠some D) (rv:zE K φ H acc ys)
  (h:(em ρ acc A).post (Y4 K D φ H Q) wJ)
noncomputable def Vu (G:List Addr->Hp->Prop)(K:Frag)(em:Em):wa:=λ D σ H Q=>MEg G K em D σ H Q
theorem Ej {G:List Addr->Hp->Prop}{d:Nat}(hx:∀e s,X.xe e s->False)(he:PE X elt (Oi G X.K j8 me))(hg:gens[d+1]? =none):kB X elt gens sc pos d (Vu G X.K (zM me)):=
 kB.imp (Sf hx he hg) λ D σ H Q ⟨φ,A,ρ,acc,ys,S,re,g,hD,nD,ra,h⟩=>by
  refine ⟨φ,A,ρ,S,re,g,qj (Ye (zU.mp h)) (λ w A1 h1 φ1 H1 v l1 S1 q1=>?_) λ _ _ z=>z⟩;obtain ⟨d1,n1⟩:=l1.off hD nD
  by_cases hz:acc.length<zY
  ·rw [if_pos hz] at h1
   have hl:=ra.length;refine ⟨ys,d1,?_,?_⟩
   ·rw [<- hl]
    have:sizeLine=16777216:=sizeLine_eq
    unfold zY at hz;omega
   ·exact h1 φ1 _ σ _ (l1.toD.trans (yb.upd d1)) n1 (S1.off d1 n1) ⟨re.len,λ i w e=>let ⟨v,a,b⟩:=re.get i w e;⟨v,a,(b.mono l1).monoD (yb.upd d1)⟩⟩ jo
     (((ra.mono l1).monoD (yb.upd d1)).append (.one (q1.monoD (yb.upd d1))))
  ·rw [if_neg hz] at h1;exact h1.elim
theorem qC.readG {G:List Addr->Hp->Prop}{ifs:Ev}{j:jy}{J:It}{K:Frag}{acc:List W}{Q:St->Hp->Prop}{f:Nat}
  (gm:∀φ H φ' H',gE K φ H φ' H'->G φ H->G φ' H')(g:G φ H)(jr:Zd K φ H j J)
  (S:zJ K φ A H)(re:RE K φ H ρ σ)(hD:H D=some (.lst ys))(nD:∀k:Nat,φ[k]?≠some D)(ra:zE K φ H acc ys)
  (h:(qC j tw ifs em f 0 ρ acc A).post (Y4 K D φ H Q) wJ):
  JI J (tG K tw) (tT K j8 ifs) (Vu G K em) D σ H Q:=by
 refine ⟨λ i f σ' H'=>W4 tw ifs em j K D φ H Q f i σ' H',
  ⟨f,φ,A,ρ,acc,ys,.refl,S,re,hD,nD,ra,h⟩,?_⟩
 rintro i f σ2 H2 ⟨φ2,A2,ρ2,acc2,ys2,l2,S2,re2,hD2,nD2,ra2,h2⟩
 obtain ⟨j1,j2⟩:=jr i φ2 H2 A2 ⟨l2.ex,l2.tp,l2.fz⟩ S2;cases ej:j.at_ A2 i with
 | none=>cases f<;>(unfold qC at h2;rw [ej] at h2;exact h2.elim)
 | some o=>
  cases o with
  | none=>
   left
   refine ⟨j2 ej,?_⟩;cases f<;>(unfold qC at h2;rw [ej] at h2;exact h2 φ2 H2 σ2 ys2 l2 nD2 S2 re2 hD2 ra2)
  | some w=>
   right
   obtain ⟨go,yl⟩:=j1 w ej;cases f with
   | zero=>unfold qC at h2;rw [ej] at h2;exact h2.elim
   | succ f=>
    unfold qC at h2;rw [ej] at h2;refine ⟨go,λ σ' H'=>W4 tw ifs em j K D φ H Q f (i+1) σ' H',λ σ' H' z=>⟨f,lt_succ_self _,z⟩,λ x H3 y=>?_⟩;obtain ⟨l3,S3,q3⟩:=yl x H3 y;obtain ⟨hD3,nD3⟩:=l3.off hD2 nD2;dsimp only at h2;cases et:tw w ρ2 with
    | none=>rw [et] at h2;exact h2.elim
    | some ρ3=>
     rw [et] at h2;refine ⟨φ2,A2,ρ2,w,ρ3,S3,re2.mono l3,q3,et,λ σ3 re3=>?_⟩;refine tT.go S3 re3 (Ye (zU.mp h2)) λ c A4 h4=>?_;cases c with
     | bl k=>
      refine ⟨k,rfl,λ φ4 H4 l4 S4=>?_⟩;obtain ⟨hD4,nD4⟩:=l4.off hD3 nD3;have l04:=(l2.trans (l3.trans l4).toD);cases k with
      | true=>
       rw [if_pos rfl];refine ⟨φ4,A4,ρ3,acc2,ys2,S4,re3.mono l4,gm _ _ _ _ ⟨l04.ex,l04.tp,l04.fz⟩ g,hD4,nD4,ra2.mono (l3.trans l4),qj (zU.mp h4) (λ p A5 h5 φ5 H5 σ5 zs l5 n5 S5 re5 d5 r5=>?_) λ _ _ z=>z⟩;exact ⟨φ5,A5,p.1,p.2,zs,l04.trans l5,S5,re5,d5,n5,r5,h5⟩
      | false=>
       rw [if_neg Bool.false_ne_true];exact ⟨φ4,A4,ρ3,acc2,ys2,l04,S4,re3.mono l4,hD4,nD4,ra2.mono (l3.trans l4),h4⟩
     | non=>cases h4
     | int _=>cases h4
     | str _=>cases h4
     | tup _=>cases h4
     | ref _=>cases h4
     | clo _ _ _=>cases h4
     | xc _=>cases h4
end
structure Lm where
 N:List Str
 idx:List Nat
 params:Arguments
 body:Expr
 scope:Scope
 m:Ev
noncomputable def k9:List Nat->En->Option (List W)
 | [],_=>some []
 | j::js,ρ=>match ρ[j]?,k9 js ρ with
  | some (some w),some ws=>some (w::ws)
  | _,_=>none
noncomputable def Zw:List Nat->St->Option (List V)
 | [],_=>some []
 | j::js,σ=>match σ[j]?,Zw js σ with
  | some (some w),some ws=>some (w::ws)
  | _,_=>none
theorem GV {K:Frag}(r:RE K φ H ρ σ):∀{js:List Nat} {ws:List W},k9 js ρ=some ws->∃vs,Zw js σ=some vs/\zE K φ H ws vs
 | [],ws,e=>by cases e;exact ⟨[],rfl,.nil⟩
 | j::js,ws,e=>by
  unfold k9 at e;cases ej:ρ[j]? with
  | none=>rw [ej] at e;cases e
  | some ow=>cases ow with
   | none=>rw [ej] at e;cases e
   | some w=>
    rw [ej] at e;cases er:k9 js ρ with
    | none=>rw [er] at e;cases e
    | some ws'=>
     rw [er] at e;cases e;obtain ⟨v,h1,h2⟩:=r.get j w ej;obtain ⟨vs,h3,h4⟩:=GV r er;exact ⟨v::vs,by unfold Zw;rw [h1,h3],.cons h2 h4⟩
theorem SO :∀{js:List Nat} {vs:List V},Zw js σ=some vs->vs.length=js.length/\∀(i:Nat) (v:V),vs[i]? =some v->∃j,js[i]? =some j/\σ[j]? =some (some v)
 | [],vs,e=>by cases e;exact ⟨rfl,λ i v h=>by simp at h⟩
 | j::js,vs,e=>by
  unfold Zw at e;cases ej:σ[j]? with
  | none=>rw [ej] at e;cases e
  | some ow=>cases ow with
   | none=>rw [ej] at e;cases e
   | some w=>
    rw [ej] at e;cases er:Zw js σ with
    | none=>rw [er] at e;cases e
    | some ws'=>
     rw [er] at e;cases e;obtain ⟨h1,h2⟩:=SO er;refine ⟨by simp [h1],λ i v h=>?_⟩
     cases i with
     | zero=>simp at h;subst h;exact ⟨j,by simp,ej⟩
     | succ i=>simp at h;obtain ⟨j',a,b⟩:=h2 i v h;exact ⟨j',by simpa using a,b⟩
noncomputable def jQ (ls:List Lm)(k:Nat):Fn:=λ ws A=>match ls[k]? with
 | some t=>t.m (ws.map some) A
 | none=>.bad
noncomputable def yT (env:Env)(q:Str)(ls:List Lm)(k:Nat):Obj->Addr->Obj->List V->Prop:=λ ob c oc vs=>∃t,ls[k]? =some t/\WK q t.params t.body t.scope (yW env t.scope.names []) ob c oc vs
noncomputable def ZF (env:Env)(q:Str)(ls:List Lm)(σ:St)(k:Nat):Obj->Addr->Obj->List V->Prop:=λ ob c oc vs=>∃t,ls[k]? =some t/\WK q t.params t.body t.scope (yW env t.scope.names []) ob c oc vs/\Zw t.idx σ=some vs
structure kI (P:Program)(w:World)(K:Frag)(mg:Str->Option Value)(j:Nat)(q:Str)(t:Lm):Prop where
 sc:Xb t.N t.scope
 bind:∀(cl:List (Str × Addr)) (pm cdv ctv:Value),bindArgs (kla_fn "<lambda>" q t.params t.body t.scope cl pm cdv ctv) ⟨[],[]⟩=pure []
 body:∀(base:Heap) (cl:List (Str × Addr)) (a c:Addr) (A:Around) (outer:List Env) (s:Shared) (H:Hp) (E:XK),jm j (A.deeper (envX q t.scope s.heap.objs.size a (.ref c) cl))->gy (Zg P w K mg base t.N q t.scope a (.ref c) cl A outer s H E) s.heap (gH K E)->
  SE (Zg P w K mg base t.N q t.scope a (.ref c) cl A outer s H E) (gH K E) t.body t.m
section
variable {K:Frag}{q:Str}{ls:List Lm}
theorem R7 (hl:∀t∈ls,kI P w K mg j q t)(hc:∀t∈ls,∀vs,Zw t.idx σ=some vs->KI base t.N t.scope (yW env t.scope.names []) vs)(k:Nat):gY P w K mg base (j+1) (ZF env q ls σ k) (jQ ls k):=by
 rintro a ob u c oc uc vs ⟨t,ht,⟨⟨pm,ctv,rfl⟩,hoc⟩,hv⟩
 have mt:t∈ls:=mem_of_getElem? ht;have L:=hl t mt;refine ⟨⟨_,rfl⟩,_,((CV (name := "<lambda>") (params:=t.params) (body:=t.body) (pm:=pm) (ctv:=ctv) (a:=a) (c:=c) (u:=u) (uc:=uc) (m:=t.m) L.sc (hc t mt vs hv) hoc λ A outer s H E hr xo=>L.body base _ a c A outer s H E hr xo)).imp λ us H Q E h=>?_,λ s=>.of_eq (L.bind _ _ _ _)⟩;obtain ⟨h1,h2,h3,φ,A,ws,S,r,h⟩:=h;refine ⟨h1,h2,h3,φ,A,ws,S,r,?_⟩;unfold jQ at h;rw [ht] at h;exact h
end
noncomputable abbrev jv:=Nat->Obj->Addr->Obj->List V->Prop
open Classical in
noncomputable def wV (PG:jv)(RF:Nat->List W->Hx->R W):Fn:=λ us A=>match us with
 | [.clo k ws P]=>if P=PG k then RF k ws A else .bad
 | _=>.bad
open Classical in
noncomputable def ZG (i:Nat)(PF:jv)(ls:List Lm)(RF:Nat->List W->Hx->R W)(ρ0:En):Ev:=λ ρ A=>match ρ[i]? with
 | some (some (.clo k _ P))=>if P=PF k then (match ls[k]? with
  | some t=>(match k9 t.idx ρ0 with
   | some ws=>RF k ws A
   | none=>.bad)
  | none=>.bad) else .bad
 | _=>.bad
structure ZE (X:Cx)(t:Lm):Prop where
 len:t.idx.length=t.N.length
 nm:∀(i:Nat) (x:Str) (j:Nat),t.N[i]? =some x->t.idx[i]? =some j->X.N[j]? =some x/\t.scope.names.lookup x=some .free
 free:∀y∈t.scope.names,y.2=.free->X.env.kindOf y.1=some .cell∨X.env.kindOf y.1=some .free
section
theorem K1 (I:Inv X pins σ H s){t:Lm}(L:ZE X t)(h:(yW X.env t.scope.names []).lookup x=some c):X.env.cells.lookup x=some c:=by
 rcases Qj _ _ (PySem.mem_of_lookup h) with z | ⟨z,e⟩
 ·cases z
 ·obtain ⟨c',hc⟩:=I.ok.has x (L.free _ z rfl)
  rw [hc] at e ⊢;exact congrArg some e.symm
theorem Sl (I:Inv X pins σ H s)(hb:∀x c v,X.env.cells.lookup x=some c->s.heap.IsCell c v->base.IsCell c v){t:Lm}(L:ZE X t)(hv:Zw t.idx σ=some vs):KI base t.N t.scope (yW X.env t.scope.names []) vs:=by
 obtain ⟨v1,v2⟩:=SO hv;refine ⟨v1.trans L.len,λ x y c h1 h2=>I.ok.inj x y c (K1 I L h1) (K1 I L h2),λ x h=>?_,λ x c h=>?_,λ i x v h1 h2=>?_⟩
 ·exact Option.isSome_iff_exists.mp (KC _ _ (.inl (PySem.mem_of_lookup h)))
 ·have e:=K1 I L h
  obtain ⟨v,z⟩:=I.cell x c e;exact ⟨v,hb x c v e z⟩
 ·obtain ⟨j,e1,e2⟩:=v2 i v h2
  obtain ⟨e3,e4⟩:=L.nm i x j h1 e1;have fr:=L.free _ (PySem.mem_of_lookup e4) rfl;obtain ⟨m,hn,hl⟩:=I.loc;obtain ⟨u,r,lk⟩:=hl j x v e3 e2 (.inr fr);obtain ⟨c,hc⟩:=Option.isSome_iff_exists.mp (KC (env:=X.env) t.scope.names [] (.inl (PySem.mem_of_lookup e4)));have ec:=K1 I L hc;rcases lk with ⟨z,_⟩ | ⟨_,c',hc',cell⟩
  ·exfalso
   rcases fr with k | k<;>(rw [k] at z;cases z)
  ·rw [ec] at hc'
   cases hc';exact ⟨c,u,e4,hc,hb x c _ ec cell,r⟩
theorem Xl (I:Inv X pins σ H s)(hfn:∀x,X.fn x=true)(e:X.env.cells.lookup x=some c):c∉qp X.stack:=λ hm=>by
 rcases qa3.mp (I.stkSub c hm) with z | z
 ·exact I.cne x c e z
 ·obtain ⟨_,o,ho,_⟩:=I.ok.funs.mem z
  exact absurd (lt_of_lt_of_le (lt_size ho) (I.ok.cab x c (hfn x) e)) (lt_irrefl _)
noncomputable def ku (base h:Heap)(cells:List (Str × Addr)):Heap:=hideAll h ((List.range h.objs.size).filter λ b=>(base.get? b).isNone&&!(cells.any λ p=>cells.lookup p.1==some b))
theorem KY {o:Obj}(e:(ku base h cells).get? b=some o):h.get? b=some o/\((∃o',base.get? b=some o')∨∃x,cells.lookup x=some b):=by
 have e1:=of_hideAll _ e;refine ⟨e1,?_⟩
 by_cases hm:b∈(List.range h.objs.size).filter λ b=>(base.get? b).isNone&&!(cells.any λ p=>cells.lookup p.1==some b)
 ·unfold ku at e
  rw [hideAll_none _ hm] at e;cases e
 ·rw [mem_filter] at hm
  have hb:b∈List.range h.objs.size:=qa5.mpr (lt_size e1);cases hg:base.get? b with
  | some o'=>exact .inl ⟨o',rfl⟩
  | none=>
   right
   by_cases hc:(cells.any λ p=>cells.lookup p.1==some b)=true
   ·obtain ⟨p,_,hp⟩:=List.any_eq_true.mp hc
    exact ⟨p.1,beq_iff_eq.mp hp⟩
   ·exact absurd ⟨hb,by rw [hg];simpa using hc⟩ hm
theorem Th (k:∀b o,base.get? b=some o->h.get? b=some o){o:Obj}(e:base.get? b=some o):(ku base h cells).get? b=some o:=
 hideAll_get _ (k b o e) λ hm=>by
  rw [mem_filter,e] at hm;simp at hm
theorem Tf {o:Obj}(l:cells.lookup x=some c)(e:h.get? c=some o):(ku base h cells).get? c=some o:=
 hideAll_get _ e λ hm=>by
  rw [mem_filter,and_eq_true,Bool.not_eq_true'] at hm
  have:=hm.2.2
  rw [List.any_eq_false] at this;exact this _ (PySem.mem_of_lookup l) (by simpa using l)
variable {H3:Hp}{s3:Shared}{ls:List Lm}{q f:Str}{ρ0:En}{RF:Nat->List W->Hx->R W}{p2:Pos}
theorem Rz (I3:Inv X pins σ H3 s3)(f3:∀b∈fp,yZ X pins H3 b)(hfn:∀x,X.fn x=true)(hl:∀t∈ls,kI X.prog X.w X.K X.mg j q t)(hix:∀t∈ls,ZE X t)
  {pins':List (Addr × Obj)}{σ':St}{H':Hp}(I':Inv (jc X N sc s3 H3 fp jC) pins' σ' H' s'):
  QN X.prog X.w X.K X.mg (ku X.base s'.heap X.env.cells) X.A X.stack s' H'/\∀k,gY X.prog X.w X.K X.mg (ku X.base s'.heap X.env.cells) (j+1) (ZF X.env q ls σ k) (jQ ls k):=by
 have un:Un (qp X.stack) fp H3 H' s3.heap s'.heap:=I'.base;have bk:∀b o,X.base.get? b=some o->s'.heap.get? b=some o:=λ b o e=>(show _ from I'.bk b o e)
 have cellk:∀y cc,X.env.cells.lookup y=some cc->∀o,s3.heap.get? cc=some o->s'.heap.get? cc=some o/\H' cc=none:=λ y cc e o ho=>
  have nfp:cc∉fp:=λ z=>(f3 cc z).2.2.2.2.1 y cc e rfl
  ⟨un.keep cc o ho (I3.freeC y cc e) (Xl I3 hfn e) nfp,un.free cc o ho (I3.freeC y cc e) nfp⟩
 have kb:∀b o,X.base.get? b=some o->(ku X.base s'.heap X.env.cells).get? b=some o:=λ b o e=>Th bk e;have md:Mod X.K X.mg (ku X.base s'.heap X.env.cells):=by
  obtain ⟨mb,b1,b2⟩:=I3.mod.blt;exact ⟨I3.mod.kin.keeps kb,I3.mod.glob.keeps kb,⟨mb,b1.keeps kb,b2⟩,I3.mod.nolimit.keeps kb⟩
 have bs:∀b o,(ku X.base s'.heap X.env.cells).get? b=some o->s'.heap.get? b=some o/\H' b=none:=λ b o e=>by
  obtain ⟨e1,e2⟩:=KY e;refine ⟨e1,?_⟩;rcases e2 with ⟨o',e2⟩ | ⟨y,e2⟩
  ·exact (I'.bs b o' e2).2
  ·obtain ⟨vv,oo,ho,_⟩:=I3.cell y b e2
   exact (cellk y b e2 oo ho).2
 refine ⟨⟨I'.ok.frames,md,bs,le_of_eq (hideAll_size _ _),frames_at (show s'.heap.FunFrames X.base X.stack from I'.stack) λ b hb=>?_,I'.stkFree,I'.hok,I'.bare⟩,
  λ k=>R7 hl (λ t ht vs hvs=>Sl I3 (λ y cc v e ⟨o,ho,hd⟩=>⟨o,Tf e (cellk y cc e o ho).1,hd⟩) (hix t ht) hvs) k⟩
 cases e:(ku X.base s'.heap X.env.cells).get? b with
 | none=>rfl
 | some o=>
  exfalso;rcases (KY e).2 with ⟨o',e2⟩ | ⟨y,e2⟩
  ·have:=(I3.stack.mem hb).1
   rw [e2] at this;cases this
  ·exact Xl I3 hfn e2 hb
theorem EN (I3:Inv X pins σ H3 s3)(f3:∀b∈fp,yZ X pins H3 b)(hfn:∀x,X.fn x=true)(hl:∀t∈ls,kI X.prog X.w X.K X.mg j q t)(hix:∀t∈ls,ZE X t)
  (hR:∀base PG,(∀k,gY X.prog X.w X.K X.mg base (j+1) (PG k) (jQ ls k))->zN X.prog X.w X.K X.mg base kk f 1 (wV PG RF))(hr:jm kk X.A)
  (hi:N[i]? =some x)(hv:JR (relabel sc X.env) x)(hg:Gl (jc X N sc s3 H3 fp jC) f)(hdx:(x==("__debug__" : Str))=false:=by decide)(hcx:(x==("__classdict__" : Str))=false:=by decide)(hdf:(f==("__debug__" : Str))=false:=by decide)
  (he:starEach [.Name x p2] (jc X N sc s3 H3 fp jC).env=(false,eval (.Name x p2) (jc X N sc s3 H3 fp jC).env)::starEach [] (jc X N sc s3 H3 fp jC).env:=by rfl)(hpl:(backTo pos (starEach [] (jc X N sc s3 H3 fp jC).env)).any (·.1)=false:=by rfl):
  PE (jc X N sc s3 H3 fp jC) (.Call (.Name f p) [.Name x p2] [] pos) (Oi (λ φ H=>RE X.K φ H ρ0 σ) X.K j8 (ZG i (yT X.env q ls) ls RF ρ0)):=by
 intro pins' s' σ' H' Q I' ⟨φ,A,ρ,S,re,re0,h⟩;unfold ZG at h;cases ei:ρ[i]? with
 | none=>rw [ei] at h;exact h.elim
 | some ow=>cases ow with
  | none=>rw [ei] at h;exact h.elim
  | some w0=>
   rw [ei] at h;cases w0 with
   | clo k xs P=>
    dsimp only at h
    by_cases hP:P=yT X.env q ls k
    ·rw [if_pos hP] at h
     subst hP;cases et:ls[k]? with
     | none=>rw [et] at h;exact h.elim
     | some t=>
      rw [et] at h;dsimp only at h;cases ec:k9 t.idx ρ0 with
      | none=>rw [ec] at h;exact h.elim
      | some ws=>
       rw [ec] at h;dsimp only at h;obtain ⟨v,hv1,a,ob,u,c,oc,uc,vs0,rfl,g1,g2,⟨t',et',gp⟩,_⟩:=re.get i _ ei;rw [et] at et';cases et';obtain ⟨vs,cv,rv⟩:=GV re0 ec;obtain ⟨fa,fd,ps,F,hm,hk,hb⟩:=hR _ _ (Rz I3 f3 hfn hl hix I').2;refine wpAny_Call_Name_kw (Jo I' hg hm ?_ hdf);refine callWith_K (h₀:=X.base) I3.mod.kin hk (zP (jj (R5 (X:=jc X N sc s3 H3 fp jC) hi hv hdx hcx) jW he pos pins' s' σ' H' (λ vs' H1=>vs'=[.ref a]/\H1=H') I' ⟨.ref a,hv1,rfl,rfl⟩) λ us s1 ⟨vs',H1,I1,r1,ev,eh⟩=>⟨I1.kIn,?_⟩) he hpl;subst ev;subst eh;obtain ⟨e0,hL⟩:=Rz I3 f3 hfn hl hix I1;obtain ⟨fa',fd',ps',F',hm',hk',hb'⟩:=hR _ _ hL;rw [hm] at hm';cases hm';have hsp:JP X.K 1 (wV (ZF X.env q ls σ) RF) [.ref a] H1 Q E0:=by
        refine ⟨rfl,φ,A,[.clo k ws (ZF X.env q ls σ k)],S,.one ⟨a,ob,u,c,oc,uc,vs,rfl,g1,g2,⟨t,et,gp,cv⟩,rv⟩,?_⟩;unfold wV;dsimp only;rw [if_pos rfl];exact qj h (λ _ _ z=>z) λ y A2 z φ2 H2 l2 S2=>(z φ2 H2 l2 S2).elim
       have hln:=F'.len _ _ _ _ hsp;have hu:us.length=ps'.length:=by rw [<- r1.length];exact hln
       refine wpAny_call (codeAny_mono (F'.run X.A X.stack s1 H1 ⟨[]++us,[]⟩ us [.ref a] Q E0 hr e0 ?_ r1 hsp) λ r s2 hq=>?_)
       ·have:=hb' s1 us (show _ from I1.kIn) (by rw [append_nil];exact hu)
        rw [append_nil] at this;exact this
       ·cases r with
        | error e=>exact False.elim hq
        | ok fl=>
         cases fl with
         | ret u1=>exact I1.after hq
         | next=>exact False.elim hq
         | brk=>exact False.elim hq
         | cont=>exact False.elim hq
    ·rw [if_neg hP] at h;exact h.elim
   | _=>exact h.elim
end
noncomputable def JB (nl:Nat)(mi:Ei)(tw:Tg)(i:Nat)(PF:jv)(ls:List Lm)(RF:Nat->List W->Hx->R W):jR:=λ ρ A=>zV nl [] mi tw (zi (.bl true)) (zM (ZG i PF ls RF ρ)) ρ A
theorem Lx {K:Frag}{mb:Str->Option Value}{k:Nat}{fa:Addr}{sp:Sp}{s₁:Shared}{vs:List Value}
  (KX:K.In s₁.heap)(hns:s₁.heap.Ns mainGlobals mg)(hb:s₁.heap.Ns builtinsNs mb)(hbb:∀x:Str,x ≠ "__name__" -> mb x=bootBuiltins x)(hlim:s₁.heap.NoLimit)(hg:s₁.gens=#[])
  (ha:s₁.heap.get? a=some { cls:=.type "list",data:=.seq vs.toArray })(hi:IntsAre vs ns)(hl:ns.length<=sizeLine)(hr:jm k callerA)
  (hPt:s₁.heap.get? Pt=some (tabObj #[]))(hKP:K.lookup Pt=none)(hct:isCodeTable s₁.heap Pt)(hbm:BMain mg s₁.heap)
  (F:∀base:Heap,K.In base->base.Ns mainGlobals mg->BMain mg base->yy P w K mg base wY k fa fd [x] sp)(hbind:∀(s:Shared) (u:Value),BindsTo s fd ⟨[u],[]⟩ [(x,u)])
  (hsp:∀H:Hp,H Pt=some (.tbl #[])->JT K H a (ns.map V.int)->sp [.ref a] H (λ v _=>v=.bl true) λ _ _ _=>False):
  codeAny (model P w) callerA (.call (.ref fa) ⟨[.ref a],[]⟩) (λ r s'=>r=.ok (.ret (.bool true))/\OldK s₁.heap s'.heap/\s'.os=s₁.os/\AllBare s'.gens) s₁:=by
 have rv:=J6 hi;have lenV:=hi.length;have naP:a≠Pt:=λ z=>by rw [z,hPt] at ha;cases ha
 have core:∀H:Hp,H Pt=some (.tbl #[])->JT K H a (ns.map V.int)->jD P w H s₁.heap->(∀b,H b≠none->b=a∨b=Pt)->(∀u,H a=some u->K.lookup a=none/\∃o xs,u=.frz o (.lst xs))->
   codeAny (model P w) callerA (.call (.ref fa) ⟨[.ref a],[]⟩) (λ r s'=>r=.ok (.ret (.bool true))/\OldK s₁.heap s'.heap/\s'.os=s₁.os/\AllBare s'.gens) s₁:=by
  intro H hO hS hok hA hK;have base_of:∀{b:Addr} {o:Obj},s₁.heap.get? b=some o->H b=none->(g7 s₁.heap H).get? b=some o:=λ e n=>Ha e n;have kM:∀{b:Addr} {o:Obj} {es:Array DictEntry} {ep:Nat},s₁.heap.get? b=some o->o.data=.dict es ep->H b=none:=λ {b o es ep} e d=>by
   cases q:H b with
   | none=>rfl
   | some u=>
    rcases hA b (by rw [q];simp) with z | z
    ·subst z
     rw [ha] at e;cases e;have d':Data.seq vs.toArray _=Data.dict es ep:=d;cases d'
    ·subst z
     rw [hPt] at e;cases e;cases d
  have nsK:∀{b:Addr} {m:Str->Option Value},s₁.heap.Ns b m->(g7 s₁.heap H).Ns b m:=λ {b m} ⟨o,es,ep,e,d,r⟩=>⟨o,es,ep,base_of e (kM e d),d,r⟩;have hKb:K.In (g7 s₁.heap H):=λ b o e=>base_of (KX b o e) (by
   cases q:H b with
   | none=>rfl
   | some u=>
    rcases hA b (by rw [q];simp) with z | z
    ·subst z
     rw [(hK u q).1] at e;cases e
    ·subst z
     rw [hKP] at e;cases e)
  have hBb:BMain mg (g7 s₁.heap H):=by
   obtain ⟨bm,o,b1,b2,b3,b4,b5,b6,b7⟩:=hbm;refine ⟨bm,o,b1,b2,b3,base_of b4 ?_,b5,b6,b7⟩;cases q:H bm with
   | none=>rfl
   | some u=>
    rcases hA bm (by rw [q];simp) with z | z
    ·subst z
     rw [ha] at b4;cases b4;exact absurd b5 (by intro q;injection q with q;exact absurd q (by decide))
    ·subst z
     rw [hPt] at b4;cases b4;cases b5
  have hM:Mod K mg (g7 s₁.heap H):=⟨hKb,nsK hns,⟨mb,nsK hb,hbb⟩,let ⟨mc,h1,h2⟩:=hlim;⟨mc,nsK h1,h2⟩⟩
  have e0:QN P w K mg (g7 s₁.heap H) callerA [] s₁ H:=⟨rfl,hM,λ b o e=>EF e,le_of_eq (LY _ _),trivial,λ b hb=>absurd (show b∈([]:List Addr) from hb) (by simp),hok,.of_eq hg⟩
  refine codeAny_mono ((F _ hKb (nsK hns) hBb).run callerA [] s₁ H ⟨[.ref a],[]⟩ [.ref a] [.ref a] _ _ hr e0 (hbind s₁ (.ref a)) (.cons rfl .nil) (hsp H hO hS)) λ r s' h=>?_;cases r with
  | error e=>exact False.elim h
  | ok fl=>
   cases fl with
   | next=>exact False.elim h
   | brk=>exact False.elim h
   | cont=>exact False.elim h
   | ret u=>
    obtain ⟨v,H',os,bare,un,hok',r',q⟩:=h;have q':v=.bl true:=q;subst q';obtain rfl:u=Value.bool true:=r';refine ⟨rfl,⟨λ b o e=>?_,λ b o e=>un.there b o e (by simp)⟩,os,bare⟩
    cases q:H b with
    | none=>exact .inl (un.keep b o e q (by intro z;exact absurd (show b∈([]:List Addr) from z) (by simp)) (by simp))
    | some u=>
     rcases hA b (by rw [q];simp) with z | z
     ·subst z
      obtain ⟨ob,xs,rfl⟩:=(hK u q).2;have z2:=un.frzs _ ob _ q;obtain ⟨e1,_⟩:=hok _ _ q;obtain ⟨e2,_⟩:=hok' _ _ z2;rw [e] at e1;cases e1;exact .inl e2
     ·subst z
      rw [hPt] at e;cases e;obtain ⟨more,z2⟩:=un.tbls _ _ hO;exact .inr (.inl ⟨hct,rfl,#[],more,rfl,hok' _ _ z2⟩)
 cases hk:K.lookup a with
 | some o=>
  have e:=KX a o hk;rw [ha] at e;cases e;refine core (λ b=>if b=Pt then some (.tbl #[]) else none) (if_pos rfl) (.inr ⟨_,vs.toArray,_,hk,rfl,rfl,rfl,by rw [size_toArray,lenV];exact hl,by simpa using rv⟩) (λ b u z=>?_) (λ b z=>?_) λ u z=>?_
  ·by_cases hb:b=Pt
   ·have z':=(if_pos hb).symm.trans z
    cases z';rw [hb];exact hPt
   ·have z':=(if_neg hb).symm.trans z
    cases z'
  ·by_cases hb:b=Pt
   ·exact .inr hb
   ·exact absurd (if_neg hb) z
  ·have z':=(if_neg naP).symm.trans z
   cases z'
 | none=>
  refine core (λ b=>if b=Pt then some (.tbl #[]) else if b=a then some (.frz { cls:=.type "list",data:=.seq vs.toArray } (.lst (ns.map V.int))) else none) (if_pos rfl)
   (.inl ⟨{ cls:=.type "list",data:=.seq vs.toArray },(if_neg naP).trans (if_pos rfl)⟩) (λ b u z=>?_) (λ b z=>?_) λ u z=>?_
  ·by_cases hb:b=Pt
   ·have z':=(if_pos hb).symm.trans z
    cases z';rw [hb];exact hPt
   ·have z':=(if_neg hb).symm.trans z
    by_cases hb2:b=a
    ·have z2:=(if_pos hb2).symm.trans z'
     cases z2;subst hb2;exact ⟨ha,by rw [length_map];exact hl,vs,_,rv,ha⟩
    ·have z2:=(if_neg hb2).symm.trans z'
     cases z2
  ·by_cases hb:b=Pt
   ·exact .inr hb
   ·by_cases hb2:b=a
    ·exact .inl hb2
    ·exact absurd ((if_neg hb).trans (if_neg hb2)) z
  ·have z':=((if_neg naP).trans (if_pos rfl)).symm.trans z
   cases z';exact ⟨hk,_,_,rfl⟩
inductive spT (K:Frag)(n:Nat)(fs:jv->Fn)(vs:List V)(H:Hp)(Q:VK)(E:XK):Prop
 | mk (len:vs.length=n) (φ:List Addr) (A:Hx) (ws:List W) (S:zJ K φ A H) (r:zE K φ H ws vs) (q:∀PF,(fs PF ws A).post (PB K φ H Q) (EB K φ H (XE K E)))
theorem spT.len {K:Frag}{fs:jv->Fn}{Q:VK}{E:XK}(h:spT K n fs vs H Q E):vs.length=n:=by cases h;assumption
noncomputable def RZ (q:Str)(fs:Addr->jv->Fn):Prop:=∀ns:List Int,ns.length<=63->∀Pt PF,∃A,fs Pt PF [.ref 0] [.ro (ns.map W.int),.tab q Pt]=.ok (.bl true) A
theorem MJ {K:Frag}{q:Str}(hP:H Pt=some (.tbl #[]))(hS:JT K H a (ns.map V.int)):zJ K [a,Pt] [.ro (ns.map W.int),.tab q Pt] H:=by
 refine ⟨rfl,λ i j b o o' h1 h2 h3 h4 m1 m2=>?_,λ n o h=>?_⟩
 ·match i,j,h3,h4 with
  | 0,_,h3,_=>simp at h3;subst h3;cases m1
  | _,0,_,h4=>simp at h4;subst h4;cases m2
  | 1,1,_,_=>rfl
  | i+2,_,h3,_=>simp at h3
  | _,j+2,_,h4=>simp at h4
 ·match n,h with
  | 0,h=>simp at h;subst h;exact ⟨a,rfl,ns.map V.int,hS,zE.ints.mpr rfl⟩
  | 1,h=>simp at h;subst h;exact ⟨Pt,rfl,rfl,#[],hP,trivial,λ pos cv e=>nomatch e⟩
  | n+2,h=>simp at h
section
variable {K:Frag}
theorem HF {oc:Value}{od:Option Addr}(hn:nsIn K mainGlobals x=some (some (.ref f)))(lk:K.lookup f=some ⟨oc,od,.func fd,osl⟩)(ht:tabIn K x=some (c,Pt)):fd.code=.ref c:=by
 unfold tabIn at ht;rw [hn] at ht;dsimp only at ht;rw [lk] at ht;dsimp only at ht
 split at ht
 ·rename_i c2 hc
  split at ht
  ·split at ht
   ·cases ht;exact hc
   ·cases ht
  ·cases ht
 ·cases ht
end
noncomputable def XN (K:Frag)(x:Str)(Pt:Addr):Bool:=match tabIn K x with
 | some (c,P)=>P==Pt&&codeHdIn K c Pt
 | none=>false
theorem T6 {K:Frag}(h:XN K x Pt=true):∃c,tabIn K x=some (c,Pt)/\codeHdIn K c Pt=true:=by
 unfold XN at h
 split at h
 ·rename_i c P e
  rw [and_eq_true,beq_iff_eq] at h;obtain ⟨rfl,h2⟩:=h;exact ⟨c,e,h2⟩
 ·cases h
theorem BW {l:PySem.W.OpenLaw}{k:Nat}{q:Program}{loose:List Str}{YP:World->Heap->Prop}{d:DefRec}{Kp:Params->Frag}{qn:Str}{fs:Addr->jv->Fn}(ok:RZ qn fs)
  (hn:l.most=some 63)(hdf:d.params.defaults=[])(hr:jm k callerA)(hY:∀(w:World) (h:Heap),YP w h->(Kp w.params).In h)(hT:∀(w:World) (h:Heap),YP w h->h.get? Pt=some (tabObj #[]))(ht:∀p,XN (Kp p) d.name Pt=true)(hKP:∀p,(Kp p).lookup Pt=none)
  (F:∀(w:World) (mg:Str->Option Value) (fa:Addr) (h:Heap),(Kp w.params).In h->h.Ns mainGlobals mg->mg d.name=some (.ref fa)->(∃c,tabIn (Kp w.params) d.name=some (c,Pt)/\codeHdIn (Kp w.params) c Pt=true)->
   ∃fd:FuncData,(∀(s:Shared) (u:Value),BindsTo s fd ⟨[u],[]⟩ [(x,u)])/\∀base:Heap,(Kp w.params).In base->base.Ns mainGlobals mg->BMain mg base->yy l.prog w (Kp w.params) mg base wY k fa fd [x] (spT (Kp w.params) 1 (fs Pt))):
  PySem.W.WalkO q loose XP YP l.row.toRowW d [] (λ f vs=>PySem.call f vs):=by
 refine Att.N7 (n:=63) hn hdf λ w s₀ s₁ mg mb fa o pm cd doc a vs ns G Y ho hd hcd' hmg hobj hints hlen hg=>?_;have KX:=hY w _ Y;obtain ⟨fd,hb,hF⟩:=F w mg fa _ KX G.T.g hmg (T6 (ht w.params));obtain ⟨c,_,hcd⟩:=T6 (ht w.params);have hP:=hT w _ Y;have hc:isCodeTable s₁.heap Pt:=((codeHd_of_K KX hcd).tab hP).isCodeTable;have hbm:BMain mg s₁.heap:=by
  obtain ⟨bm,ob,b1,b2,b3,b4,b5,b6⟩:=G.T.bmain;refine ⟨bm,ob,b1,b2,λ z=>?_,b3,b4,b5,b6⟩;obtain ⟨o,es,ep,e,hd,_⟩:=G.T.g;rw [z,e] at b3;cases b3;rw [hd] at b6;cases b6
 refine Lx KX G.T.g G.T.b G.T.builtins G.T.nolimit hg hobj hints (le_trans hlen (by decide)) hr hP (hKP w.params) hc hbm hF hb λ H h1 h2=>?_
 refine ⟨rfl,[a,Pt],[.ro (ns.map W.int),.tab qn Pt],[.ref 0],MJ h1 h2,.one ⟨a,rfl,rfl⟩,λ PF=>?_⟩;obtain ⟨A,e⟩:=ok ns hlen Pt PF;rw [e];exact λ φ' H' v _ _ r=>r
theorem jg.m {K:Frag}{k:Nat}{f:Fn}(F:jg P w K mg base k x n f):zN P w K mg base k x n λ ws A=>(f ws A).nox:=by
 obtain ⟨fa,fd,ps,F,hm,hk,hb⟩:=F;have up:∀vs H Q E,JP K n (λ ws A=>(f ws A).nox) vs H Q E->W7 K n f vs H Q (λ _ _ _=>False):=λ vs H Q E ⟨hl,φ,A,ws,S,r,h⟩=>⟨hl,φ,A,ws,S,r,by
  cases er:f ws A with
  | ok u A1=>(try dsimp only at h);rw [er] at h;exact h
  | exc y A1=>(try dsimp only at h);rw [er] at h;exact h.elim
  | bad=>(try dsimp only at h);rw [er] at h;exact h.elim⟩
 refine ⟨fa,fd,ps,⟨λ vs H Q E h=>F.len vs H Q _ (up vs H Q E h),λ A outer s H args us vs Q E hr he hbt hv h=>?_⟩,hm,hk,hb⟩;refine codeAny_mono (F.run A outer s H args us vs Q _ hr he hbt hv (up vs H Q E h)) λ r s' h'=>?_;cases r with
 | error e=>
  unfold CR at h';obtain ⟨_,_,_,_,_,_,_,_,_,_,z⟩:=h';exact z.elim
 | ok fl=>cases fl<;>exact h'
theorem jg.mono {K:Frag}{k:Nat}{f:Fn}(F:jg P w K mg base j x n f)(h:j<=k):jg P w K mg base k x n f:=by cases F with | mk fa fd ps F a b c=>exact ⟨fa,fd,ps,F.mono h,a,b,c⟩
noncomputable abbrev WW:List Value:=[.type "ValueError",.type "Exception",.type "BaseException",.type "object"]
noncomputable abbrev WI:String := "ValueError.__new__"
section
variable {K:Frag}{cs:List Str}{top nm:Str}
noncomputable def clsAt (K:Frag)(x:Str):Addr:=match nsIn K mainGlobals x with
 | some (some (.ref C))=>C
 | _=>0
noncomputable def isAt (K:Frag)(x:Str):Bool:=nsIn K mainGlobals x==some (some (.ref (clsAt K x)))
noncomputable def jh (cs:List Str)(x:Str):Str->Option Bool:=λ nm=>if cs.contains nm then some (nm==x) else none
noncomputable def VC (cs:List Str):Str->Option Bool:=λ nm=>if cs.contains nm then some true else none
noncomputable def Z6 (K:Frag)(cs:List Str)(x:Str):Bool:=isAt K x&&kitOne K (.type "NoneType") (.ref (clsAt K x))==some false&&cs.all λ nm=>kitOne K (.ref (clsAt K nm)) (.ref (clsAt K x))==some (nm==x)
noncomputable def Wi (K:Frag)(top nm:Str):Bool:=isAt K nm&&Yr K (clsAt K nm)&&Mi.gA K (clsAt K nm) WW WI&&QJ K (clsAt K nm) (clsAt K top)&&kitOne K (.ref (clsAt K nm)) (.type "ValueError")==some true
noncomputable def XB (K:Frag)(top:Str):Bool:=isAt K top&&Mi.gA K (clsAt K top) WW WI&&kitOne K (.type "NoneType") (.type "ValueError")==some false
theorem Xc (h:isAt K x=true):yF K x (.ref (clsAt K x)):=beq_iff_eq.mp h
theorem G5 {C:Addr}(h:yF K x (.ref C)):C=clsAt K x:=by
 unfold clsAt;unfold yF at h;rw [h]
structure G8 (K:Frag)(top nm:Str):Prop where
 at_:yF K nm (.ref (clsAt K nm))
 kit:Yr K (clsAt K nm)=true
 exc:Mi.gA K (clsAt K nm) WW WI=true
 up:QJ K (clsAt K nm) (clsAt K top)=true
 val:kitOne K (.ref (clsAt K nm)) (.type "ValueError")=some true
theorem CJ (h:Wi K top nm=true):G8 K top nm:=by
 unfold Wi at h;simp only [and_eq_true,beq_iff_eq] at h;obtain ⟨⟨⟨⟨h1,h2⟩,h3⟩,h4⟩,h5⟩:=h;exact ⟨Xc h1,h2,h3,h4,h5⟩
structure wd (K:Frag)(cs:List Str)(top:Str):Prop where
 exc:∀nm,cs.contains nm=true->G8 K top nm
 top_at:yF K top (.ref (clsAt K top))
 top_exc:Mi.gA K (clsAt K top) WW WI=true
 non:kitOne K (.type "NoneType") (.type "ValueError")=some false
theorem DK (h:cs.all (Wi K top ·)=true)(t:XB K top=true):wd K cs top:=by
 unfold XB at t;simp only [and_eq_true,beq_iff_eq] at t;obtain ⟨⟨t1,t2⟩,t3⟩:=t;exact ⟨λ nm e=>CJ (qa4.mp h nm (List.contains_iff_mem.mp e)),Xc t1,t2,t3⟩
theorem wd.isx (c:wd K cs top)(h:Z6 K cs x=true):YD K (jh cs x) (.ref (clsAt K x)):=by
 unfold Z6 at h;simp only [and_eq_true,beq_iff_eq] at h;obtain ⟨⟨h1,h2⟩,h3⟩:=h;refine ⟨h2,λ nm C b e hc=>?_⟩;unfold jh at e
 by_cases hm:cs.contains nm=true
 ·rw [if_pos hm] at e
  cases e;cases G5 hc;exact ⟨(c.exc nm hm).kit,beq_iff_eq.mp (qa4.mp h3 nm (List.contains_iff_mem.mp hm))⟩
 ·rw [if_neg hm] at e;cases e
theorem kG (h:Z6 K cs x=true):yF K x (.ref (clsAt K x)):=by
 unfold Z6 at h;simp only [and_eq_true,beq_iff_eq] at h;exact Xc h.1.1
theorem wd.isv (c:wd K cs top):YD K (VC cs) (.type "ValueError"):=by
 refine ⟨c.non,λ nm C b e hc=>?_⟩;unfold VC at e
 by_cases hm:cs.contains nm=true
 ·rw [if_pos hm] at e
  cases e;cases G5 hc;exact ⟨(c.exc nm hm).kit,(c.exc nm hm).val⟩
 ·rw [if_neg hm] at e;cases e
theorem wd.under (c:wd K cs top):∀nm,cs.contains nm=true->∀C,yF K nm (.ref C)->∃bmC newC,Mi.gA K C bmC newC=true/\QJ K C (clsAt K top)=true:=λ nm hm C hc=>by
 cases G5 hc;exact ⟨_,_,(c.exc nm hm).exc,(c.exc nm hm).up⟩
end
noncomputable def Wn (M:List Str)(sc:Scope)(t:Lm):Bool:=t.idx.length==t.N.length&&((List.range t.N.length).all λ i=>match t.N[i]?,t.idx[i]? with
 | some x,some j=>M[j]?==some x&&t.scope.names.lookup x==some .free
 | _,_=>false)&&t.scope.names.all λ y=>!(y.2==.free) || (sc.names.lookup y.1==some .cell || sc.names.lookup y.1==some .free)
theorem Rv {t:Lm}(h:Wn X.N X.env.scope t=true):ZE X t:=by
 unfold Wn at h;rw [and_eq_true,and_eq_true] at h;obtain ⟨⟨h1,h2⟩,h3⟩:=h;refine ⟨beq_iff_eq.mp h1,λ i x j e1 e2=>?_,λ y hy e=>?_⟩
 ·have hi:i<t.N.length:=(qa2.mp e1).1
  have q:=qa4.mp h2 i (qa5.mpr hi);rw [e1,e2] at q;dsimp only at q;rw [and_eq_true] at q;exact ⟨beq_iff_eq.mp q.1,beq_iff_eq.mp q.2⟩
 ·have q:=qa4.mp h3 y hy
  rw [e] at q;rw [or_eq_true,or_eq_true] at q;rcases q with q | q | q
  ·cases q
  ·exact .inl (beq_iff_eq.mp q)
  ·exact .inr (beq_iff_eq.mp q)
theorem all_nil {p:α->Prop}:∀t∈([]:List α),p t:=λ _ h=>nomatch h
theorem all_cons {p:α->Prop}{a:α}{l:List α}(h:p a)(r:∀t∈l,p t):∀t∈a::l,p t:=λ t ht=>by
 rcases qa3.mp ht with e | e
 ·rw [e];exact h
 ·exact r t e
theorem C3 {q:Str}{ls:List Lm}{k:Nat}{t:Lm}(ht:ls[k]? =some t):yT env q ls k=WK q t.params t.body t.scope (yW env t.scope.names []):=by
 funext ob c oc vs
 refine propext ⟨λ ⟨t',e,h⟩=>?_,λ h=>⟨t,ht,h⟩⟩;rw [ht] at e;cases e;exact h
noncomputable def gq:Stmt:=.Pass ⟨0,0,0,0⟩
noncomputable def Z9:Expr:=.Constant .none 0 ⟨0,0,0,0⟩
noncomputable def QF (s:Stmt)(i:Nat):Stmt:=match s with
 | .For _ _ b _ _=>b.getD i gq
 | .If _ b _ _=>b.getD i gq
 | .While _ b _ _=>b.getD i gq
 | _=>gq
noncomputable def Vn (s:Stmt):Expr:=match s with
 | .Assign _ v _=>v
 | .Expr v _=>v
 | .Return (some v) _=>v
 | _=>Z9
noncomputable def QI (e:Expr)(i:Nat):Expr:=match e with
 | .Call _ a _ _=>a.getD i Z9
 | .List es _=>es.getD i Z9
 | .Tuple es _ _=>es.getD i Z9
 | .BinOp a _ b _=>if i=0 then a else b
 | _=>Z9
noncomputable def AK (e:Expr):Arguments:=match e with
 | .Lambda a _ _ _=>a
 | _=>{ posonlyargs:=[],args:=[],vararg:=none,kwonlyargs:=[],kw_defaults:=[],kwarg:=none,defaults:=[] }
noncomputable def Az (e:Expr):Expr:=match e with
 | .Lambda _ b _ _=>b
 | _=>Z9
noncomputable def AW (e:Expr):Scope:=match e with
 | .Lambda _ _ s _=>s
 | _=>{ kind:=.function,names:=[],isGenerator:=false,isCoroutine:=false }
noncomputable def k8 (e:Expr)(N:List Str)(idx:List Nat)(m:Ev):Lm:=⟨N,idx,AK e,Az e,AW e,m⟩
theorem C8 {K:Frag}{st:Stmt}{k:Nat}(F:wg K x x st f fd)(hm:mg x=some (.ref f))
  (hb:∀(kV doc pm:Value) (an:Option Addr) (cdv ct:Value) (us:List Value),us.length=ps.length->bindArgs (fnOf x x (ZZ st) (yC st) (qi st) .none kV doc pm an cdv ct) ⟨us,[]⟩=pure (ps.zip us)):zN P w K mg base k x ps.length (λ _ _=>.bad):=
 ⟨f,fd,ps,⟨λ vs H Q E h=>h.1,λ A outer s H args us vs Q E _ _ _ _ h=>by obtain ⟨_,_,_,_,_,_,z⟩:=h;exact z.elim⟩,hm,F.kp,F.binds hb⟩
theorem Dk {K:Frag}(t a b:Ty):kitAny K (.type t.nm) [.type a.nm,.type b.nm]=some (yH t a || yH t b):=by
 unfold kitAny;rw [Wf];cases yH t a with
 | true=>rfl
 | false=>
  dsimp only;unfold kitAny;rw [Wf];cases yH t b<;>rfl
section
variable {a b:Expr}{m:Ev}
theorem QT.kitx {x:V}{t:Ty}(I:Inv X pins σ H s)(r:RelV x u)(h:QT X.K H x t):∃Hq:Heap->Prop,PySem.W.KitX X.K u (.type t.nm) Hq/\Hq s.heap/\u≠.builtin "__main__.__loader__#opaque" := by
 rcases h with h | ⟨a,xs,rfl,h,rfl⟩
 ·generalize hT:Value.type t.nm=T at h
  cases h with
  | non=>cases (show u=Value.none from r);exact ⟨_,kitx_none,True.intro,λ z=>nomatch z⟩
  | bl y=>cases (show u=Value.bool y from r);exact ⟨_,kitx_bool,True.intro,λ z=>nomatch z⟩
  | int i=>obtain ⟨t,q⟩:=(show ∃t,u=Value.int i t from r);cases q;exact ⟨_,kitx_int,True.intro,λ z=>nomatch z⟩
  | str y=>obtain ⟨t,q⟩:=(show ∃t,u=Value.str y t from r);cases q;exact ⟨_,kitx_str,True.intro,λ z=>nomatch z⟩
  | flt y=>obtain ⟨t,q⟩:=(show ∃t,u=Value.float y t from r);cases q;exact ⟨_,kitx_float,True.intro,λ z=>nomatch z⟩
  | @lst a xs ea=>
   cases (show u=Value.ref a from r)
   obtain ⟨_,_,n,_,h1⟩:=(show qQ X.prog X.w H s.heap a (.lst xs) from I.hok a _ ea)
   exact ⟨_,kitx_list,⟨_,h1,rfl⟩,λ z=>nomatch z⟩
  | @frz a ob xs ea=>
   cases (show u=Value.ref a from r)
   obtain ⟨_,_,_,n,_,h1⟩:=(show qQ X.prog X.w H s.heap a (.frz ob (.lst xs)) from I.hok a _ ea)
   exact ⟨_,kitx_list,⟨_,h1,rfl⟩,λ z=>nomatch z⟩
  | @tup a xs ea=>
   cases (show u=Value.ref a from r)
   obtain ⟨_,_,_,p⟩:=(show qQ X.prog X.w H s.heap a (.tup xs) from I.hok a _ ea)
   obtain ⟨o,h1,h2,_⟩:=p;exact ⟨_,kitx_tuple,⟨o,h1,h2.1⟩,λ z=>nomatch z⟩
  | @dK a kvs ea=>
   cases (show u=Value.ref a from r)
   obtain ⟨_,_,_,_,o,_,_,h1,h2,_⟩:=(show qQ X.prog X.w H s.heap a (.dK kvs) from I.hok a _ ea)
   exact ⟨_,kitx_dict,⟨o,h1,h2.1⟩,λ z=>nomatch z⟩
  | @dT a kvs ea=>
   cases (show u=Value.ref a from r)
   obtain ⟨_,_,_,_,o,_,_,h1,h2,_⟩:=(show qQ X.prog X.w H s.heap a (.dT kvs) from I.hok a _ ea)
   exact ⟨_,kitx_dict,⟨o,h1,h2.1⟩,λ z=>nomatch z⟩
  | ins=>cases hT
 ·cases (show u=Value.ref a from r)
  obtain ⟨its,_,⟨o,h1,h2,_⟩,_⟩:=I.tuple h;exact ⟨_,kitx_tuple,⟨o,h1,h2⟩,λ z=>nomatch z⟩
noncomputable def Ap (K:Frag)(a b:Ty):List V->Hp->VK->Prop:=λ xs H Q=>∃x t l,xs=[x,.ref l]/\qv K H l [.ty (Ty.nm a),.ty (Ty.nm b)]/\QT K H x t/\Q (.bl (yH t a || yH t b)) H
theorem Fq {a b:Ty}:j3 X (.builtin "isinstance") (Ap X.K a b):=by
 intro pins s σ H xs us Q I r h;obtain ⟨x,t,l,rfl,hs,ht,q⟩:=h;obtain ⟨u,u',rfl,ru,ru'⟩:=vals2 r;cases (show u'=Value.ref l from ru')
 obtain ⟨its,rv,⟨o,h1,h2,k,h3⟩,_⟩:=I.tuple hs;obtain ⟨u1,u2,rfl,r1,r2⟩:=vals2 rv;cases (show u1=Value.type a.nm from r1)
 cases (show u2=Value.type b.nm from r2)
 obtain ⟨Hq,Z,hz,ne⟩:=ht.kitx I ru;obtain ⟨o1,o2,o3,o4⟩:=o;cases (show o1=_ from h2)
 cases (show o3=_ from h3)
 exact PySem.W.kia_tup Z I.kIn hz h1 (Dk t a b) ne λ tk=>⟨.bl (yH t a || yH t b),H,I.tok tk,rfl,q⟩
noncomputable def Wx (t t2:Ty)(m:Ev):Ev:=λ ρ A=>(m ρ A).bind λ w A1=>match jz w A1 with
 | some t'=>.ok (.bl (yH t' t || yH t' t2)) A1
 | none=>.bad
noncomputable def Qb (m:Ev)(tw:Tg):Ex:=λ ρ A=>(m ρ A).bind λ w A1=>match tw w ρ with
 | some ρ'=>.ok (.nx ρ') A1
 | none=>.bad
end
noncomputable def Wv (PG:jv):W->W
 | .clo k ws _=>.clo k ws (PG k)
 | w=>w
open Classical in
noncomputable def YO (ls:List Lm)(PF:jv)(ρ:En):W->Option W
 | .clo k [] P=>if P=PF k then (match ls[k]? with
  | some t=>(k9 t.idx ρ).map λ ws=>.clo k ws P
  | none=>none) else none
 | .clo _ _ _=>none
 | w=>some w
noncomputable def gW (ls:List Lm)(PF:jv)(ρ:En):List W->Option (List W)
 | []=>some []
 | w::r=>match YO ls PF ρ w,gW ls PF ρ r with
  | some u,some us=>some (u::us)
  | _,_=>none
noncomputable def wN (ls:List Lm)(PF:jv)(f:Fn)(a:Ea):Ev:=λ ρ A=>(a ρ A).bind λ ws A1=>match gW ls PF ρ ws with
 | some us=>f us A1
 | none=>.bad
section
variable {ls:List Lm}{q:Str}
theorem Sg (I:Inv X pins σ H s)(hfn:∀x,X.fn x=true)(hl:∀t∈ls,kI X.prog X.w X.K X.mg j q t)(hix:∀t∈ls,ZE X t):
  QN X.prog X.w X.K X.mg (ku X.base s.heap X.env.cells) X.A X.stack s H/\∀k,gY X.prog X.w X.K X.mg (ku X.base s.heap X.env.cells) (j+1) (ZF X.env q ls σ k) (jQ ls k):=by
 have kb:∀b o,X.base.get? b=some o->(ku X.base s.heap X.env.cells).get? b=some o:=λ b o e=>Th I.bk e;have md:Mod X.K X.mg (ku X.base s.heap X.env.cells):=by
  obtain ⟨mb,b1,b2⟩:=I.mod.blt;exact ⟨I.mod.kin.keeps kb,I.mod.glob.keeps kb,⟨mb,b1.keeps kb,b2⟩,I.mod.nolimit.keeps kb⟩
 have bs:∀b o,(ku X.base s.heap X.env.cells).get? b=some o->s.heap.get? b=some o/\H b=none:=λ b o e=>by
  obtain ⟨e1,e2⟩:=KY e;refine ⟨e1,?_⟩;rcases e2 with ⟨o',e2⟩ | ⟨y,e2⟩
  ·exact (I.bs b o' e2).2
  ·exact I.freeC y b e2
 refine ⟨⟨I.ok.frames,md,bs,le_of_eq (hideAll_size _ _),frames_at I.stack λ b hb=>?_,I.stkFree,I.hok,I.bare⟩,
  λ k=>R7 hl (λ t ht vs hvs=>Sl I (λ y cc v e ⟨o,ho,hd⟩=>⟨o,Tf e ho,hd⟩) (hix t ht) hvs) k⟩
 cases e:(ku X.base s.heap X.env.cells).get? b with
 | none=>rfl
 | some o=>
  exfalso;rcases (KY e).2 with ⟨o',e2⟩ | ⟨y,e2⟩
  ·have:=(I.stack.mem hb).1
   rw [e2] at this;cases this
  ·exact Xl I hfn e2 hb
theorem U8 {K:Frag}(re:RE K φ H ρ σ):∀{ws us:List W} {vs:List V},gW ls (yT env q ls) ρ ws=some us->zE K φ H ws vs->zE K φ H (us.map (Wv (ZF env q ls σ))) vs
 | [],us,vs,e,r=>by cases e;exact r
 | w::r,us,vs,e,⟨v,r',ev,hv,hr⟩=>by
  subst ev;unfold gW at e;cases e1:YO ls (yT env q ls) ρ w with
  | none=>rw [e1] at e;cases e
  | some u=>
   cases e2:gW ls (yT env q ls) ρ r with
   | none=>rw [e1,e2] at e;cases e
   | some us'=>
    rw [e1,e2] at e;cases e;rw [map_cons];refine .cons ?_ (U8 re e2 hr);cases w with
    | clo k xs P=>
     cases xs with
     | cons x xs=>unfold YO at e1;cases e1
     | nil=>
      unfold YO at e1;dsimp only at e1
      by_cases hP:P=yT env q ls k
      ·rw [if_pos hP] at e1
       subst hP;cases et:ls[k]? with
       | none=>rw [et] at e1;cases e1
       | some t=>
        rw [et] at e1;dsimp only at e1;cases ec:k9 t.idx ρ with
        | none=>rw [ec] at e1;cases e1
        | some ws'=>
         rw [ec] at e1;cases e1;obtain ⟨a,ob,u0,c,oc,uc,vs0,rfl,g1,g2,⟨t',et',gp⟩,_⟩:=hv;rw [et] at et';cases et';obtain ⟨vs1,cv,rv⟩:=GV re ec;exact ⟨a,ob,u0,c,oc,uc,vs1,rfl,g1,g2,⟨t,et,gp,cv⟩,rv⟩
      ·rw [if_neg hP] at e1;cases e1
    | _=>cases e1;exact hv
end
section
noncomputable abbrev wC (led:Bool):Obj:={ cls:=.type "set",dict:=none,data:=.set #[] 0 (.fresh 0 0 led) }
end
theorem intsAre_of:∀{ns:List Int} {its:List Value},Vals (ns.map V.int) its->IntsAre its ns:=by
 intro ns
 induction ns with
 | nil=>intro its h;cases h;exact .nil
 | cons n ns ih=>
  intro its h;cases h with
  | cons r t=>obtain ⟨tk,rfl⟩:=r;exact .cons n tk (ih t)
noncomputable def WQ (s:Stmt):Expr:=match s with
 | .If t _ _ _=>t
 | _=>Z9
section
open PySem.SeqAt
open PySem.AutoSeq1 (wpAny_loadPart')
open PySem.MeetsSeq PySem.MeetsSeq2 PySem.MeetsSeq3
end
section
variable {K:Frag}
theorem SY {w:W}{ds:List PyData}(h:qd A 8 w=some (.list ds)):PyData.canLayAll0 ds=true/\PyData.depthAll ds<=8:=by
 obtain ⟨h1,h2⟩:=J9 8 w _ h;simp only [PyData.canLay0,PyData.depth] at h1 h2;exact ⟨h1,by omega⟩
noncomputable def zac:W->W->Hx->R W:=λ x y A=>match qd A 8 x,qd A 8 y with
 | some d,some (.list ds)=>.ok (.bl (ds.any λ z=>PyData.eqv z d)) A
 | _,_=>.bad
noncomputable def gX (p:PyData->Bool):List PyData->Option Nat
 | []=>none
 | d::ds=>if p d then some 0 else (gX p ds).map (· + 1)
theorem SX {p:PyData->Bool}:∀{ds:List PyData} {j:Nat},gX p ds=some j->∃h:j<ds.length,p ds[j]=true/\∀m (hm:m<ds.length),m<j->p ds[m]=false
 | [],_,e=>by cases e
 | d::ds,j,e=>by
  unfold gX at e
  by_cases hd:p d=true
  ·rw [if_pos hd] at e
   cases e;exact ⟨Nat.zero_lt_succ _,hd,λ m _ z=>absurd z (not_lt_zero _)⟩
  ·rw [if_neg hd] at e
   cases e1:gX p ds with
   | none=>rw [e1] at e;cases e
   | some j'=>
    rw [e1] at e;cases e;obtain ⟨h1,h2,h3⟩:=SX e1;refine ⟨Nat.succ_lt_succ h1,h2,λ m hm z=>?_⟩;cases m with
    | zero=>exact Bool.eq_false_iff.mpr hd
    | succ m=>exact h3 m (Nat.lt_of_succ_lt_succ hm) (Nat.lt_of_succ_lt_succ z)
noncomputable def EL (K:Frag):V->List V->Hp->VK->Prop:=λ x vs H Q=>∃φ A u v y d ds j,vs=[y]/\zJ K φ A H/\RV K φ H u x/\RV K φ H v y/\qd A 8 u=some (.list ds)/\qd A 8 v=some d/\gX (λ z=>PyData.eqv z d) ds=some j/\j<1000000/\Q (.int j) H
theorem Ie (hu:X.A.units+64<cLine):Vw X "list.index" (EL X.K):=by
 intro pins s σ H x vs v us Q I rx rv h;obtain ⟨φ,A,w1,w2,y,d,ds,j,rfl,S,q1,q2,e1,e2,ej,hj,q⟩:=h;obtain ⟨u,rfl,ru⟩:=rv.one;obtain ⟨as,h1⟩:=ZX I S 8 w1 x v _ q1 rx e1;obtain ⟨bs,h2⟩:=ZX I S 8 w2 y u d q2 ru e2;obtain ⟨g1,g2⟩:=J9 8 w2 d e2;obtain ⟨g3,g4⟩:=SY e1;obtain ⟨f1,f2,f3⟩:=SX ej;cases h1 with
 | list a1 a2 a3 a4=>
  rename_i l o items n as'
  obtain ⟨cls,dd,data,sl⟩:=o;simp only at a2 a3;subst a2 a3;have hm:=SeqAt.readsAll_map _ _ _ g3 a4;have hlen:items.size=ds.length:=by rw [<- hm];simp
  have at_:∀m (h:m<items.size) (h':m<ds.length),SeqAt.readOf s.heap items[m]=ds[m]:=λ m h h'=>by
   have e:(items.toList.map (SeqAt.readOf s.heap))[m]? =ds[m]?:=by rw [hm]
   rw [getElem?_map,getElem?_eq_getElem h',getElem?_toList,Array.getElem?_eq_getElem h] at e;exact Option.some.inj e
  refine call_meets F.slot_list_index ⟨_,a1,rfl⟩ F.entry_list_index (F.args_list_index_2 _ _)
   (SeqAt.list_indexAt l items n dd sl u (λ z=>PyData.eqv (SeqAt.readOf s.heap z) d) j (by omega) (by omega) (by rw [at_ j (by omega) f1];exact f2) (λ m h z=>by rw [at_ m h (by omega)];exact f3 m (by omega) z)) ⟨a1,SeqAt.items_eqAt a4 h2 g3 g1 (by omega),?_⟩
  exact ⟨.int j,H,I.tok _,⟨_,rfl⟩,q⟩
noncomputable def gT:W->W->Hx->R W:=λ x y A=>match qd A 8 x,qd A 8 y with
 | some (.list ds),some d=>(match gX (λ z=>PyData.eqv z d) ds with
  | some j=>if j<1000000 then .ok (.int j) A else .bad
  | none=>.bad)
 | _,_=>.bad
theorem IB:∀x y A,qE (gT x y A):=λ x y A=>by
 unfold gT
 split
 ·split
  ·exact Zq jS qU
  ·exact qU
 ·exact qU
end
end Mi
variable {ls:List Mi.Lm}
namespace Mi
open PySem
noncomputable def qb (n:Nat):List Nat:=(List.range 8).filter λ i=>n.testBit i
noncomputable def qX (led:Bool)(n:Nat):SetTable:=if (qb n).length<5 then ⟨7,(qb n).toArray,#[],0,led,0,true⟩ else ⟨31,(qb n).toArray,#[],0,led,1,true⟩
noncomputable def jl (n v:Nat):Nat:=n ||| (1 <<< v)
noncomputable def gx (n v:Nat):Nat:=((qb n).filter λ i=>decide (i<v)).length
noncomputable def kz (led:Bool)(n v:Nat):SetTable:={ qX led n with place:=(qb (jl n v)).toArray }
noncomputable def Wt (led:Bool)(n v:Nat):Bool:=n.testBit v || (((qX led n).freeSlot (v:Int)==some (v,false))&&((qX led n).put v==(kz led n v,gx n v))&&(qb (jl n v)==(qb n).take (gx n v)++v::(qb n).drop (gx n v))&&
 (kz led n v).fits (qb (jl n v)).length&&((kz led n v).tooFull==((qb (jl n v)).length==5))&&
 (if (qb (jl n v)).length==5 then (kz led n v).relaid ((qb (jl n v)).map λ (i:Nat)=>(i:Int)).toArray 20==some (qX led (jl n v),#[0,1,2,3,4]) else qX led (jl n v)==kz led n v)&&
 (qX led (jl n v)).fits (qb (jl n v)).length&&decide (jl n v<256))
theorem EM:((List.range 256).all λ n=>(List.range 8).all λ v=>Wt true n v&&Wt false n v)=true:=by decide +kernel
open PySem PySem.Spec PyProof.Rows
inductive ji:List (Int × Value)->List Nat->Prop
 | nil:ji [] []
 | cons {es:List (Int × Value)} {vs:List Nat} (v:Nat) (tk:Tok) (h:ji es vs):ji (((v:Int),.int (v:Int) tk)::es) (v::vs)
theorem ji.length {vs:List Nat}(h:ji es vs):es.length=vs.length:=by
 induction h with
 | nil=>rfl
 | cons v tk h ih=>simp [ih]
theorem ji.map1 {vs:List Nat}(h:ji es vs):es.map (·.1)=vs.map λ (i:Nat)=>(i:Int):=by
 induction h with
 | nil=>rfl
 | cons v tk h ih=>simp [ih]
theorem ji.take {vs:List Nat}(h:ji es vs):∀k,ji (es.take k) (vs.take k):=by
 induction h with
 | nil=>intro k;simp;exact .nil
 | cons v tk h ih=>
  intro k;cases k with
  | zero=>exact .nil
  | succ k=>exact .cons v tk (ih k)
theorem ji.drop {vs:List Nat}(h:ji es vs):∀k,ji (es.drop k) (vs.drop k):=by
 induction h with
 | nil=>intro k;simp;exact .nil
 | cons v tk h ih=>
  intro k;cases k with
  | zero=>exact .cons v tk h
  | succ k=>exact ih k
theorem ji.app {es':List (Int × Value)}{vs vs':List Nat}(h:ji es vs)(h':ji es' vs'):ji (es++es') (vs++vs'):=by
 induction h with
 | nil=>exact h'
 | cons v tk h ih=>exact .cons v tk ih
theorem Te:∀v,v<8->hashInt ((v:Nat):Int)=(v:Int):=by decide
section
variable {prog:Program}
theorem ji.elems {vs:List Nat}(h:ji es vs)(hv:∀v∈vs,v<8):ElemsOf (intKind prog w) es:=by
 induction h with
 | nil=>intro e he;cases he
 | cons v tk h ih=>
  intro e he;rcases qa3.mp he with rfl | he
  ·exact ⟨⟨(v:Int),intKind_is _ _ _ _,(Te v (hv v (mem_cons_self ..))).symm⟩,rfl⟩
  ·exact ih (λ u hu=>hv u (mem_cons_of_mem _ hu)) e he
theorem ji.find {vs:List Nat}(h:ji es vs)(v:Nat):(es.findIdx? λ e=>(intKind prog w).is (v:Int) e.2)=vs.findIdx? λ u=>decide (u=v):=by
 induction h with
 | nil=>rfl
 | cons u tk h ih=>
  rw [List.findIdx?_cons,List.findIdx?_cons,ih]
  have:(intKind prog w).is (v:Int) (Value.int (u:Int) tk)=decide (u=v):=by
   show Value.isInt (v:Int) (Value.int (u:Int) tk)=_;unfold Value.isInt;rw [Bool.eq_iff_iff];simp;omega
  rw [this]
end
theorem XF {v:Nat}:v∈qb n↔v<8/\n.testBit v=true:=by
 unfold qb;rw [mem_filter,List.mem_range]
noncomputable def yn (h:Heap)(a:Addr)(led:Bool)(n:Nat):Prop:=∃o es ep,h.get? a=some o/\o.ExactSet/\o.data=.set es ep (qX led n)/\ji es.toList (qb n)/\n<256
theorem yn.keep {h':Heap}(x:yn h a led n)(k:∀o,h.get? a=some o->h'.get? a=some o):yn h' a led n:=
 let ⟨o,es,ep,ho,r⟩:=x;⟨o,es,ep,k o ho,r⟩
theorem Hs {v:Nat}(hn:n<256)(hv:v<8)(led:Bool):Wt led n v=true:=by
 have h:=qa4.mp (qa4.mp EM n (qa5.mpr hn)) v (qa5.mpr hv);rw [and_eq_true] at h;cases led
 ·exact h.2
 ·exact h.1
theorem Hr:((List.range 256).all λ n=>(qX true n).fits (qb n).length&&(qX false n).fits (qb n).length)=true:=by decide +kernel
theorem G1 (led:Bool)(n:Nat):(qX led n).plain=true:=by unfold qX;split<;>rfl
theorem F2 (led:Bool)(n:Nat):(qX led n).led=led:=by unfold qX;split<;>rfl
theorem Ts (led:Bool)(n:Nat):(qX led n).place=(qb n).toArray:=by unfold qX;split<;>rfl
theorem fits_of (hn:n<256)(led:Bool):(qX led n).fits (qb n).length=true:=by
 have h:=qa4.mp Hr n (qa5.mpr hn);rw [and_eq_true] at h;cases led
 ·exact h.2
 ·exact h.1
theorem Ju (n:Nat):(qb n).length<=8:=by
 unfold qb;exact le_trans (List.length_filter_le _ _) (by simp)
structure WB (led:Bool)(n v:Nat):Prop where
 free:(qX led n).freeSlot (v:Int)=some (v,false)
 put:(qX led n).put v=(kz led n v,gx n v)
 vs:qb (jl n v)=(qb n).take (gx n v)++v::(qb n).drop (gx n v)
 fits:(kz led n v).fits (qb (jl n v)).length=true
 full:(kz led n v).tooFull=((qb (jl n v)).length==5)
 Vr:(qb (jl n v)).length=5->(kz led n v).relaid ((qb (jl n v)).map λ (i:Nat)=>(i:Int)).toArray 20=some (qX led (jl n v),#[0,1,2,3,4])
 less:(qb (jl n v)).length≠5->qX led (jl n v)=kz led n v
 lt:jl n v<256
theorem M1 {v:Nat}(hn:n<256)(hv:v<8)(led:Bool)(hb:n.testBit v=false):WB led n v:=by
 have h:=Hs hn hv led;unfold Wt at h;rw [hb,Bool.false_or] at h;simp only [and_eq_true,beq_iff_eq,decide_eq_true_iff] at h;obtain ⟨⟨⟨⟨⟨⟨⟨h1,h2⟩,h3⟩,h4⟩,h5⟩,h6⟩,h7⟩,h8⟩:=h;refine ⟨h1,h2,h3,h4,h5,λ e=>?_,λ e=>?_,h8⟩
 ·rw [if_pos e] at h6;exact of_decide_eq_true (by simpa using h6)
 ·rw [if_neg e] at h6;simpa using h6
noncomputable def yo (n v:Nat):Nat:=if n.testBit v then n else jl n v
section
variable {prog:Program}{A:Around}
theorem Hd {es:Array (Int × Value)}{v:Nat}{x:Value}(f:WB led n v)(he:ji es.toList (qb n)):layNew (qX led n) es (v:Int) x=(SetTable.insertAt es (gx n v) ((v:Int),x),kz led n v,false,false):=by
 have hsz:(SetTable.insertAt es (gx n v) ((v:Int),x)).size=(qb (jl n v)).length:=by
  rw [<- length_toList,SetTable.toList_insertAt,f.vs,length_append,length_append,length_cons,length_cons,length_take,length_take,List.length_drop,List.length_drop,he.length]
 unfold layNew;rw [f.free];dsimp only;rw [f.put];dsimp only;rw [hsz];unfold SetTable.orStandIn;rw [if_pos f.fits,f.fits]
 rfl
theorem El {es:Array (Int × Value)}{v:Nat}(f:WB led n v)(h5:(qb (jl n v)).length=5)(he:ji es.toList (qb (jl n v))):relayAll (kz led n v) es 20=(es,qX led (jl n v),false):=by
 have hm:es.map (·.1)=((qb (jl n v)).map λ (i:Nat)=>(i:Int)).toArray:=by
  apply Array.toList_inj.mp
  rw [Array.toList_map,he.map1]
 have hsz:es.size=5:=by rw [<- length_toList,he.length,h5]
 have hfm:(#[0,1,2,3,4]:Array Nat).filterMap (es[·]?)=es:=by
  apply Array.toList_inj.mp
  rw [Array.toList_filterMap];have h0:es.toList.length=5:=by rw [length_toList];exact hsz
  have hg:∀i,es[i]? =es.toList[i]?:=λ i=>by rw [getElem?_toList]
  simp only [hg];generalize es.toList=l at h0;obtain ⟨a,b,c,d,e,rfl⟩:∃a b c d e,l=[a,b,c,d,e]:=by
   match l,h0 with
   | [a,b,c,d,e],_=>exact ⟨a,b,c,d,e,rfl⟩
  rfl
 unfold relayAll;rw [hm,f.Vr h5];dsimp only;rw [hfm];have hc:coversAll #[0,1,2,3,4] es.size=true:=by rw [hsz];decide +kernel
 have hf:(qX led (jl n v)).fits es.size=true:=by rw [hsz,<- h5];exact fits_of f.lt led
 rw [hc,hf]
 rfl
theorem ji.insert {es:Array (Int × Value)}{v:Nat}{tk:Tok}(f:WB led n v)(he:ji es.toList (qb n)):ji (SetTable.insertAt es (gx n v) ((v:Int),.int (v:Int) tk)).toList (qb (jl n v)):=by
 rw [SetTable.toList_insertAt,f.vs];exact (he.take _).app (.cons v tk (he.drop _))
theorem Ti {o:Obj}{es es':Array (Int × Value)}{ep:Nat}{t:SetTable}{t':SetTable}(ho:h.get? a=some o)(hd:o.data=.set es ep t):(h.update a (Obj.putSet es' t')).get? a=some { o with data:=.set es' (ep+1) t' }:=by
 have:=get?_update_self (Obj.putSet es' t') ho (by rw [putSet_of es' t' hd];rfl)
 rw [putSet_of es' t' hd] at this;exact this
theorem Mr {v:Nat}{tk:Tok}{Q:Bool->Shared->Prop}(hS:yn s.heap a led n)(hv:v<8)
  (h:∀h' b,Heap.SameBut a s.heap h'->yn h' a led (yo n v)->Q b { s with heap:=h' }):
  wpAny (model prog w) A (setAddHashed a (.int (v:Int) tk) ((intKind prog w).hash (v:Int))) Q E s:=by
 obtain ⟨o,es,ep,ho,hex,hd,he,hn⟩:=hS;have hlen:es.size=(qb n).length:=by rw [<- length_toList,he.length]
 have hf:(qX led n).fits es.size=true:=by rw [hlen];exact fits_of hn led
 have hel:ElemsOf (intKind prog w) es.toList:=he.elems λ u hu=>(XF.mp hu).1;have hb:es.size<scanBound:=by rw [hlen];have:=Ju n;unfold scanBound;omega
 unfold setAddHashed setAddHashedIn;refine wpAny_holding (qa0 (wpAny_setState_of ho hd hf ?_));dsimp only;rw [byScan_of (x:=.int (v:Int) tk) rfl hb hel];simp only [↓reduceIte];unfold setAddByScan;refine qa0 ?_;refine qa0 (wpAny_rule ?_);refine qa0 (wpAny_setScan_of (knd:=intKind prog w) (intKind_is _ _ _ _) ho hd hf hel ?_);rw [he.find];cases hr:(qb n).findIdx? λ u=>decide (u=v) with
 | some j=>
  dsimp only;have hb:n.testBit v=true:=by
   obtain ⟨hj,hpj,_⟩:=List.findIdx?_eq_some_iff_getElem.mp hr
   have:=of_decide_eq_true hpj
   exact (XF.mp (this ▸ getElem_mem hj)).2
  refine qa1 (qa1 ?_);have e:s={ s with heap:=s.heap }:=by cases s;rfl
  rw [e];refine h s.heap false (Heap.SameBut.refl a s.heap) ?_;unfold yo;rw [if_pos hb];exact ⟨o,es,ep,ho,hex,hd,he,hn⟩
 | none=>
  dsimp only;have hb:n.testBit v=false:=by
   cases hk:n.testBit v with
   | false=>rfl
   | true=>
    have:=List.findIdx?_eq_none_iff.mp hr v (XF.mpr ⟨hv,hk⟩)
    simp at this
  have f:=M1 hn hv led hb;have hh:(intKind prog w).hash (v:Int)=(v:Int):=Te v hv;rw [hh];rw [Hd f he];have he1:=he.insert (tk:=tk) f;have hl1:(SetTable.insertAt es (gx n v) ((v:Int),Value.int (v:Int) tk)).size=(qb (jl n v)).length:=by rw [<- length_toList,he1.length]
  generalize SetTable.insertAt es (gx n v) ((v:Int),Value.int (v:Int) tk)=es1 at he1 hl1;dsimp only;refine qa0 (qa1 ?_);have hp:(kz led n v).plain=true:=by unfold kz;exact G1 led n
  rw [hp];simp only [↓reduceIte];refine qa0 ?_;rw [hashByValue_scannable 8 (x:=.int (v:Int) tk) rfl];refine qa1 ?_;have hpk:plainKind (.int (v:Int) tk)=true:=rfl;rw [hpk];simp only [↓reduceIte];have hz1:es1.size<=sizeLine:=by rw [hl1,sizeLine_eq];have:=Ju (jl n v);omega
  refine qa0 (wpAny_storeSet_of ho hd ?_ hz1);have ho1:=Ti (es':=es1) (t':=kz led n v) ho hd;have hsb1:=Heap.SameBut.update s.heap a (Obj.putSet es1 (kz led n v));rw [f.full]
  by_cases h5:(qb (jl n v)).length=5
  ·have hg:SetTable.grown es1.size=20:=by rw [hl1,h5];rfl
   rw [hg,El f h5 he1,h5];simp only [Bool.not_false,Bool.true_and,beq_self_eq_true,↓reduceIte];refine qa0 (qa1 ?_);refine qa0 (wpAny_storeSet_of ho1 rfl ?_ hz1);refine qa1 ?_;dsimp only;refine qa1 ?_;have ho2:=Ti (es':=es1) (t':=qX led (jl n v)) ho1 rfl;refine h _ true (hsb1.trans (Heap.SameBut.update _ a _)) ?_;unfold yo;rw [hb];exact ⟨_,es1,ep+1+1,ho2,hex,rfl,he1,f.lt⟩
  ·have hq:((qb (jl n v)).length==5)=false:=by simpa using h5
   rw [hq];simp only [Bool.not_false,Bool.and_false,false_eq_true,↓reduceIte];refine qa1 ?_;dsimp only;refine qa1 ?_;refine h _ true hsb1 ?_;unfold yo;rw [hb,if_neg Bool.false_ne_true,];refine ⟨_,es1,ep+1,ho1,hex,?_,he1,f.lt⟩;rw [f.less h5]
end
noncomputable abbrev jH (w:World):Bool:=!w.params.followText "set-order"
noncomputable def Zx (val:Nat->Nat)(i:Nat):Nat:=((List.range i).map val).foldl yo 0
theorem LG (val:Nat->Nat)(i:Nat):Zx val (i+1)=yo (Zx val i) (val i):=by
 unfold Zx;rw [range_succ,map_append,List.foldl_append]
 rfl
section
variable {prog:Program}{A:Around}
theorem ND (a:Value){Q1:Value->Shared->Prop}(h:Q1 (.ref s.heap.objs.size) { s with heap:=s.heap.push (wC (jH w)) }):
  codeAny (model prog w) A (.call (.builtin "set.__new__") ⟨[.type "set",a],[]⟩) (wants Q1 E) s:=by
 refine codeAny_of_tree ?_;show wpAny _ A.in1 (do checkBuiltinCall "set.__new__" ⟨[.type "set",a],[]⟩;again (.builtin "set.__new__" ⟨[.type "set",a],[]⟩)) _ _ s
 refine qa0 (wpAny_of_eq (F.newCall_set_1 a) (qa1 ⟨plainId_quiet F.plain_set_new _,codeAny_builtin F.entry_set_new ?_⟩));rw [Around.under_plainId F.plain_set_new _];unfold Builtin.«set.__new__» Builtin.Frozenset.newClass;have hsub:=sub_set_self;obtain ⟨hp,g,d,tk,os⟩:=s;dsimp only
 wp_walk
 refine wpAny_askSetting (qa1 ?_);dsimp only;simp only [newObj];refine qa0 (wpAny_alloc (qa1 ?_));exact qa1 h
end
section
variable {prog:Program}{A:Around}{R:Result->Shared->Prop}{I:Addr}{wr:List Addr}{G:Array GenState->Array GenState->Prop}{P:Nat->Value->Prop}{St:Nat->Shared->Prop}
theorem LK (W:WalksS prog w A.in1 I fp wr G n P St)(S:Addr)(hSf:S∉fp)(led:Bool)(val:Nat->Nat)(hval:∀i v,P i v->∃t,v=.int ((val i:Nat):Int) t)(h8:∀i,i<n->val i<8):
  ∀(k i:Nat) (s:Shared),n - i=k->i<=n->St i s->yn s.heap S led (Zx val i)->
   (∀s',Moved (S::wr) G s s'->yn s'.heap S led (Zx val n)->R (.ok (.ret .none)) s')->
   codeAny (model prog w) A (.builtin "set.update.loop" ⟨[.ref S,.ref I],[]⟩) R s:=by
 have hSw:S∉wr:=λ h=>hSf (W.sub _ h);have hsub:∀b∈wr,b∈S::wr:=λ b hb=>mem_cons_of_mem _ hb;intro k
 induction k with
 | zero=>
  intro i s hk hi hst hS hR;have hin:i=n:=by omega
  subst hin;refine codeAny_builtin F.entry_set_update_loop ?_;rw [Around.under_plainId F.plain_set_update_loop _];show wpAny _ A.in1 (pyNext (.ref I) >>= _) _ _ s;refine qa0 (W.done s _ _ hst λ s' hm=>?_);show wpAny _ A.in1 (ret Value.none) _ _ s';exact qa1 (hR s' (hm.mono hsub) (hS.keep λ o ho=>hm.heap S _ hSw ho))
 | succ k ih=>
  intro i s hk hi hst hS hR;have hlt:i<n:=by omega
  refine codeAny_builtin F.entry_set_update_loop ?_;rw [Around.under_plainId F.plain_set_update_loop _];show wpAny _ A.in1 (pyNext (.ref I) >>= _) _ _ s;refine qa0 (W.item i s _ _ hlt hst λ v s' hP hst' hm=>?_);obtain ⟨t,rfl⟩:=hval i v hP;have hS':yn s'.heap S led (Zx val i):=hS.keep λ o ho=>hm.heap S _ hSw ho;show wpAny _ A.in1 (holding [Value.int ((val i:Nat):Int) t] (setAdd S (.int ((val i:Nat):Int) t)) >>= _) _ _ s';refine qa0 (wpAny_holding ?_);unfold setAdd;refine wpAny_holding ?_;refine qa0 ((intKind prog w).pyHash (k:=((val i:Nat):Int)) (intKind_is _ _ _ _) ?_);refine Mr (s:={ s' with toks:=s'.toks+1 }) hS' (h8 i hlt) λ h' b hsb hS2=>?_
  have hSi:yn h' S led (Zx val (i+1)):=by rw [LG];exact hS2
  refine qa1 ⟨plainId_quiet F.plain_set_update_loop _,ih (i+1) _ (by omega) hlt (W.frame _ s' _ _ hst' (le_succ _) λ b hb o e=>?_) hSi λ s'' hm'' hS''=>?_⟩
  ·rw [hsb.2 b (λ h:b=S=>hSf (by rw [<- h];exact hb))];exact e
  ·refine hR s'' (Moved.trans W.gtrans ((hm.mono hsub).then_heap (le_succ _) λ b o hb e=>?_) hm'') hS''
   rw [hsb.2 b (λ h:b=S=>hb (by rw [h];exact mem_cons_self))];exact e
end
section
variable {prog:Program}{A:Around}
theorem Cr (led:Bool)(g:h.get? a=some (wC led)):yn h a led 0:=
 ⟨_,#[],0,g,⟨rfl,rfl,rfl⟩,(by cases led<;>rfl),.nil,by decide⟩
theorem Nj {l:Addr}{vs:List Nat}(hh:A.handled=none)(ht:s.heap.IsList l its.toArray)(hv:IntsAre its (vs.map λ (v:Nat)=>(v:Int)))(h8:∀v∈vs,v<8)
  (h:∀(h':Heap) (tk:Nat),yn h' s.heap.objs.size led (vs.foldl yo 0)->
   (∀b o,b<s.heap.objs.size->s.heap.get? b=some o->h'.get? b=some o)->Q .none { s with heap:=h',toks:=tk }):
  codeAny (model prog w) A (.call (.builtin "set.__init__") ⟨[.ref s.heap.objs.size,.ref l],[]⟩) (wants Q E) { s with heap:=s.heap.push (wC led) }:=by
 have hlen:its.length=vs.length:=by
  have:∀{its:List Value} {ns:List Int},IntsAre its ns->its.length=ns.length:=λ h=>by
   induction h with
   | nil=>rfl
   | cons _ _ _ ih=>simp [ih]
  rw [this hv,length_map]
 have gS:(s.heap.push (wC led)).get? s.heap.objs.size=some (wC led):=get?_push_size _ rfl;refine codeAny_call_builtin F.called_set.init.plain F.entry_set_init (check_set_init_1 ⟨_,gS,rfl⟩ ?_);obtain ⟨ob,h1,h2,n,h3⟩:=ht;obtain ⟨oc,od,odt,osl⟩:=ob;dsimp only at h2 h3;cases h2;cases h3;have g1:=get?_push_of_some (wC led) h1;have n1:=F.sub_list_set;have n2:=F.sub_list_frozenset;have n3:(Value.type "list" == Value.type "dict")=false:=by decide
 have T1:(s.heap.push (wC led)).IsList l its.toArray:=⟨_,g1,rfl,n,rfl⟩;unfold Builtin.«set.__init__» noKeywords Builtin.Frozenset.updateFrom;generalize hp:pyIter=PI
 wp_walk
 subst hp;refine wpAny_pyIter_list T1 (qa0 (wpAny_runValue ?_));have lt:l<s.heap.objs.size:=lt_size h1;have sz:(s.heap.push (wC led)).objs.size=s.heap.objs.size+1:=size_push ..;have ne:l≠(s.heap.push (wC led)).objs.size:=by rw [sz];exact ne_of_lt (lt_succ_of_lt lt)
 have W:=(Walks.list (prog:=prog) (w:=w) (A:=A.in1.in1) (by simp [hh]) (s.heap.push (wC led)).objs.size l ne its.toArray).toS
 have esz:its.toArray.size=vs.length:=by rw [size_toArray];exact hlen
 rw [esz] at W;have off:s.heap.objs.size∉[(s.heap.push (wC led)).objs.size,l]:=by
  rw [sz];intro hm;rcases qa3.mp hm with z | hm
  ·exact ne_of_lt (lt_succ_self _) z
  ·exact ne_of_gt lt (qa7.mp hm)
 have hacc:Zx (λ i=>vs.getD i 0) vs.length=vs.foldl yo 0:=by
  unfold Zx
  congr 1
  apply ext_getElem
  ·simp
  ·intro i h1 h2
   have hi:i<vs.length:=by simpa using h2
   simp [getD_eq_getElem?_getD,getElem?_eq_getElem hi]
 refine LK W s.heap.objs.size off led (λ i=>vs.getD i 0) (λ i v e=>?_) (λ i hi=>?_) vs.length 0 _ rfl (zero_le _) ⟨⟨_,get?_push_size _ rfl,rfl,rfl⟩,T1.push _⟩ ?_ ?_
 ·obtain ⟨t,e2⟩:=IntsAre.int_at hv i v (by simpa using e)
  refine ⟨t,e2.trans ?_⟩;have hi:i<vs.length:=by
   have:=(qa2.mp (show its[i]? =some v by simpa using e)).1
   omega
  congr 1
  simp [getD_eq_getElem?_getD,getElem?_map,getElem?_eq_getElem hi]
 ·rw [getD_eq_getElem?_getD,getElem?_eq_getElem hi]
  exact h8 _ (getElem_mem hi)
 ·exact Cr led (get?_push_of_some _ gS)
 ·intro s' mv S'
  rw [hacc] at S';obtain ⟨h',g',d',tk',os'⟩:=s';have e1:g'=s.gens:=mv.gens;have e2:d'=s.drawn:=mv.drawn;have e3:os'=s.os:=mv.os;subst e1 e2 e3;refine qa1 ?_;show wpAny _ _ (ret Value.none) _ _ _;refine qa1 (h h' tk' S' λ b o lb e=>mv.heap b o (λ hm=>?_) (get?_push_of_some _ (get?_push_of_some _ e)));rcases qa3.mp hm with z | hm
  ·exact ne_of_lt lb z
  ·exact ne_of_lt (lt_succ_of_lt lb) ((qa7.mp hm).trans sz)
theorem O4 {l:Addr}{vs:List Nat}(hh:A.handled=none)(ht:s.heap.IsList l its.toArray)(hv:IntsAre its (vs.map λ (v:Nat)=>(v:Int)))(h8:∀v∈vs,v<8)
  (h:∀(h':Heap) (tk:Nat),yn h' s.heap.objs.size (jH w) (vs.foldl yo 0)->
   (∀b o,b<s.heap.objs.size->s.heap.get? b=some o->h'.get? b=some o)->Q (.ref s.heap.objs.size) { s with heap:=h',toks:=tk }):
  wpAny (model prog w) A (call (.type "set") [.ref l]) Q E s:=by
 obtain ⟨c,tl,hmro⟩:=F.called_set.mro;have a1:=F.called_set.made;have a2:=F.called_set.sub;have a3:=F.called_set.notType;have a4:=F.called_set.canCreate;have a5:=F.typeCall_set_1 (.ref l);refine wpAny_call (codeAny_of_tree ?_);show wpAny _ _ (callAny (.type "set") _) _ _ _;refine qa1 ⟨Code.quiet_builtin _ (by decide +kernel),codeAny_builtin F.entry_type_call ?_⟩
 rw [Around.under_plain (weight_type_call_type "set" [.ref l] []) rfl]
 repeat (any_goals (first | assumption | wp_step))
 refine codeAny_mono (ND (.ref l) (E:=E) (Q1:=λ u s1=>u=.ref s.heap.objs.size/\s1={ s with heap:=s.heap.push (wC (jH w)) }) ⟨rfl,rfl⟩) λ r s1 hr=>?_
 cases r with
 | error e=>exact hr
 | ok fl=>
  cases fl with
  | ret u=>
   obtain ⟨rfl,rfl⟩:=hr;have T:Shared.TypeIs { s with heap:=s.heap.push (wC (jH w)) } (.ref s.heap.objs.size) "set" := ⟨_,get?_push_size _ rfl,rfl⟩
   have b1:=F.called_set.init.lookup;have b2:=F.called_set.init.bind (.ref s.heap.objs.size)
   repeat (any_goals (first | assumption | wp_step))
   refine codeAny_mono (Nj (E:=E) (Q:=λ v s2=>v=.none/\∃h' tk,s2={ s with heap:=h',toks:=tk }/\yn h' s.heap.objs.size (jH w) (vs.foldl yo 0)/\
    ∀b o,b<s.heap.objs.size->s.heap.get? b=some o->h'.get? b=some o) (by simp [hh]) ht hv h8 λ h' tk S' k'=>⟨rfl,h',tk,rfl,S',k'⟩) λ r2 s2 hr2=>?_
   cases r2 with
   | error e=>exact hr2
   | ok fl2=>
    cases fl2 with
    | ret v=>
     obtain ⟨rfl,h',tk,rfl,S',k'⟩:=hr2
     repeat (any_goals (first | assumption | wp_step))
     exact h _ _ S' k'
    | _=>exact hr2.elim
  | _=>exact hr.elim
end
theorem Ta :∀{l:List α} {k:Nat} {w:α},l[k]? =some w->l.Perm (w::l.eraseIdx k)
 | [],_,_,h=>by simp at h
 | x::l,0,w,h=>by
  simp at h;subst h;simp
 | x::l,k+1,w,h=>by
  rw [List.getElem?_cons_succ] at h;rw [List.eraseIdx_cons_succ];exact ((Ta h).cons x).trans (List.Perm.swap w x _)
theorem EY (next:Nat->Nat):∀(f k:Nat) (left:List α) (out:Array α),left.length=f->(pickOrder.go next f k left out).toList.Perm (out.toList++left):=by
 intro f
 induction f with
 | zero=>
  intro k left out h
  have:left=[]:=List.length_eq_zero_iff.mp h
  subst this;unfold pickOrder.go;simp
 | succ f ih=>
  intro k left out h;have hlt:next k % left.length<left.length:=Nat.mod_lt _ (by omega)
  unfold pickOrder.go;rw [getElem?_eq_getElem hlt];dsimp only;refine (ih (k+1) _ _ (by rw [List.length_eraseIdx_of_lt hlt];omega)).trans ?_
  rw [Array.toList_push,append_assoc];exact List.Perm.append_left _ (Ta (getElem?_eq_getElem hlt)).symm
theorem LU (next:Nat->Nat)(xs:Array α):(pickOrder next xs).toList.Perm xs.toList:=by
 unfold pickOrder
 have:=EY next xs.size 0 xs.toList #[] (by simp)
 simpa using this
namespace F
theorem O6:entryFor table "set.__iter__" = some Builtin.«frozenset.__iter__»:=entryFor_alias (id' := "frozenset.__iter__") (by kernel_rfl) rfl (by decide +kernel) (by kernel_rfl)
theorem Ou:entryFor table "set_iterator.__iter__" = some Builtin.«dict_keyiterator.__iter__»:=entryFor_alias (id' := "dict_keyiterator.__iter__") (by kernel_rfl) rfl (by decide +kernel) (by kernel_rfl)
theorem VN:Manifest.owners.lookup (String.ofList ['r','o','t','a','r','e','t','i','_','t','e','s'].reverse)=some Manifest.sig_set_iterator:=by kernel_rfl
theorem QV:Slot "set_iterator" "__next__" "set_iterator.__next__" :=
 .of (owner := "set_iterator") (n := "__next__") (by rw [typeLookup_type,builtinLookup_eq_fast];kernel_rfl) (by decide +kernel) (by decide +kernel) (by decide +kernel)
  (by first | exact .inl (by decide +kernel) | exact .inr (by decide +kernel)) (by rw [isSubtype_type];kernel_rfl)
theorem VG:entryFor table "set_iterator.__next__" = some Builtin.«set_iterator.__next__»:=entryFor_of_tree (by kernel_rfl)
theorem VF (a:Value):argsOk "set_iterator.__next__" ⟨[a],[]⟩:=by
 unfold argsOk;rw [signature?_of (id := "set_iterator.__next__") (n:=['_','_','t','x','e','n','_','_']) (o:=['r','o','t','a','r','e','t','i','_','t','e','s']) (by kernel_rfl) VN];kernel_rfl
theorem Ot (a:Value):argsOk "set_iterator.__iter__" ⟨[a],[]⟩:=by
 unfold argsOk;rw [signature?_of (id := "set_iterator.__iter__") (n:=['_','_','r','e','t','i','_','_']) (o:=['r','o','t','a','r','e','t','i','_','t','e','s']) (by kernel_rfl) VN];kernel_rfl
theorem VH:Slot "set_iterator" "__iter__" "set_iterator.__iter__" :=
 .of (owner := "set_iterator") (n := "__iter__") (by rw [typeLookup_type,builtinLookup_eq_fast];kernel_rfl) (by decide +kernel) (by decide +kernel) (by decide +kernel)
  (by first | exact .inl (by decide +kernel) | exact .inr (by decide +kernel)) (by rw [isSubtype_type];kernel_rfl)
end F
noncomputable def YB (n i:Nat):Nat:=match i with
 | 0=>0
 | i+1=>(qb n).getD i 0+1
noncomputable def Pn (n i:Nat):Bool:=decide ((qb n).length<i) || (SetTable.below (qb n).toArray (YB n i)==i)
theorem Fo:((List.range 256).all λ n=>(List.range 9).all λ i=>Pn n i)=true:=by decide +kernel
theorem IZ (hn:n<256)(hi:i<=(qb n).length):SetTable.below (qb n).toArray (YB n i)=i:=by
 have h8:=Ju n;have h:=qa4.mp (qa4.mp Fo n (qa5.mpr hn)) i (qa5.mpr (by omega))
 unfold Pn at h;rw [decide_eq_false (by omega),Bool.false_or,beq_iff_eq] at h
 exact h
noncomputable def Ql (h:Heap)(I S:Addr)(slot i n ep:Nat):Prop:=∃o,h.get? I=some o/\o.cls=.type "set_iterator" /\ o.data=.fields #[.int slot 0,.int i 0,.ref S,.int n 0,.int ep 0]
noncomputable def yJ (w:World)(a:Addr)(ep:Nat)(es:Array (Int × Value)):Array (Int × Value):=if w.params.followText "set-order" then pickOrder (w.params.setOrder a ep) es else es
theorem J7 (w:World)(a:Addr)(ep:Nat)(es:Array (Int × Value)):(yJ w a ep es).toList.Perm es.toList:=by
 unfold yJ
 split
 ·exact LU _ _
 ·exact List.Perm.refl _
noncomputable def kU (w:World)(n i:Nat):Nat:=if w.params.followText "set-order" then 0 else YB n i
section
variable {prog:Program}{A:Around}{o:Obj}{es:Array (Int × Value)}{ep:Nat}
theorem GC {Q:Bool->Shared->Prop}(h:Q (w.params.followText "set-order") s):wpAny (model prog w) A setsByText Q E s:=by
 unfold setsByText;exact qa0 (wpAny_askSetting (qa1 h))
theorem OE (ho:s.heap.get? a=some o)(hex:o.ExactSet)(hd:o.data=.set es ep (qX (jH w) n))(he:ji es.toList (qb n))(hn:n<256)
  (hQ:Q (.ref s.heap.objs.size) { s with heap:=s.heap.push { cls:=.type "set_iterator",data:=.fields #[.int 0 0,.int 0 0,.ref a,.int es.size 0,.int ep 0] } }):
  wpAny (model prog w) A (pyIter (.ref a)) Q E s:=by
 have hT:s.TypeIs (.ref a) "set" := ⟨o,ho,hex.1⟩;have hlen:es.size=(qb n).length:=by rw [<- length_toList,he.length]
 have hf:(qX (jH w) n).fits es.size=true:=by rw [hlen];exact fits_of hn _
 refine wpAny_pyIter_slot hT slot_set_iter (wpAny_call_entry slot_set_iter hT F.O6 ?_ (PySem.F.args_set_iter_1 _));unfold Builtin.«frozenset.__iter__»;show wpAny _ _ (Builtin.Frozenset.sizeOf a >>= _) _ _ s;unfold Builtin.Frozenset.sizeOf;refine qa0 (qa0 (wpAny_setEntries_of ho hd hf (qa1 ?_)));unfold setDrawn;refine qa0 (qa0 (wpAny_setState_of ho hd hf ?_));dsimp only;refine qa0 (GC (qa1 ?_));rw [if_neg (λ h=>by
  have h2:(!w.params.followText "set-order" && (!(qX (jH w) n).plain&&decide (es.size > 1)))=true:=h;rw [G1] at h2;simp at h2)]
 refine qa0 (qa1 ?_);refine qa0 (wpAny_setEpoch_of ho hd hf ?_);exact qa0 (wpAny_newObj_type (qa1 ⟨_,rfl, "set_iterator",_,⟨_,get?_push_size _ rfl,rfl⟩,F.QV.lookup,hQ⟩))
theorem V9 {Q:Option (Value × Nat)->Shared->Prop}(ho:s.heap.get? a=some o)(hd:o.data=.set es ep (qX (jH w) n))(he:ji es.toList (qb n))(hn:n<256)(hi:i<=es.size)
  (h:Q (((yJ w a ep es)[i]?).map λ e=>(e.2,kU w n (i+1))) s):wpAny (model prog w) A (setNext a (kU w n i) i ep) Q E s:=by
 have hlen:es.size=(qb n).length:=by rw [<- length_toList,he.length]
 have hf:(qX (jH w) n).fits es.size=true:=by rw [hlen];exact fits_of hn _
 unfold setNext;refine qa0 (wpAny_setState_of ho hd hf ?_);dsimp only;refine qa0 (GC ?_);unfold yJ kU at h;cases ht:w.params.followText "set-order" with
 | true=>
  rw [ht] at h;simp only [↓reduceIte] at h ⊢;have hep:¬((ep != ep)=true):=by simp
  rw [if_neg hep];unfold setWalk;refine qa0 (qa0 (wpAny_setState_of ho hd hf ?_));dsimp only;refine qa0 (GC ?_);rw [ht];simp only [↓reduceIte];refine qa0 (wpAny_askSetting (qa1 (qa1 ?_)));unfold kU;rw [ht];exact h
 | false=>
  rw [ht] at h;simp only [false_eq_true,↓reduceIte] at h ⊢;rw [if_neg (λ h=>by
   have h2:(!(qX (jH w) n).plain&&decide (es.size > 1))=true:=h;rw [G1] at h2;simp at h2)]
  have hled:(qX (jH w) n).led=true:=by rw [F2];unfold jH;rw [ht];rfl
  refine qa0 ?_;show wpAny _ _ (if (!(qX (jH w) n).led&&!es.isEmpty)=true then unsupported "set:maker-not-led" else pure ()) _ _ _;rw [hled];simp only [Bool.not_true,Bool.false_and,false_eq_true,↓reduceIte];refine qa1 ?_;have hb:SetTable.below (qX (jH w) n).place (kU w n i)=i:=by
   rw [Ts];unfold kU;rw [ht];exact IZ hn (by omega)
  rw [hb,Ts];refine qa1 ?_
  by_cases hlt:i<es.size
  ·have hv:(qb n)[i]? =some ((qb n)[i]'(by omega)):=getElem?_eq_getElem (by omega)
   have hp:(qb n).toArray[i]? =some ((qb n)[i]'(by omega)):=by rw [List.getElem?_toArray];exact hv
   have hee:es[i]? =some es[i]:=Array.getElem?_eq_getElem hlt;rw [hee] at h;rw [hee,hp];dsimp only;have hs:YB n (i+1)=(qb n)[i]'(by omega)+1:=by
    show (qb n).getD i 0+1=_;rw [getD_eq_getElem?_getD,hv]
    rfl
   rw [hs] at h;exact h
  ·have hee:es[i]? =none:=Array.getElem?_eq_none (by omega)
   rw [hee] at h;rw [hee];exact h
theorem Ov {I:Addr}{e:Int × Value}{Q:Option Value->Shared->Prop}(hit:Ql s.heap I a (kU w n i) i es.size ep)(ho:s.heap.get? a=some o)(hex:o.ExactSet)(hd:o.data=.set es ep (qX (jH w) n))(he:ji es.toList (qb n))(hn:n<256)(hx:(yJ w a ep es)[i]? =some e)
  (hQ:∀h',Ql h' I a (kU w n (i+1)) (i+1) es.size ep->Heap.SameBut I s.heap h'->Q (some e.2) { s with heap:=h' }):
  wpAny (model prog w) A (pyNext (.ref I)) Q E s:=by
 obtain ⟨oi,hoi,hc,hdi⟩:=id hit;have hT:s.TypeIs (.ref I) "set_iterator" := ⟨oi,hoi,hc⟩;have hlen:es.size=(qb n).length:=by rw [<- length_toList,he.length]
 have hf:(qX (jH w) n).fits es.size=true:=by rw [hlen];exact fits_of hn _
 unfold pyNext;refine qa0 (wpAny_attempt (wpAny_callSpecial?_slot (name:=Str.ofString "__next__") hT F.QV
  (wpAny_call_entry F.QV hT F.VG ?_ (F.VF _))))
 unfold Builtin.«set_iterator.__next__»;show wpAny _ _ (fieldsOf (.ref I) >>= _) _ _ s;refine qa0 (wpAny_fieldsOf hoi hdi ?_);dsimp only;refine qa0 (wpAny_setEntries_of ho hd hf ?_);rw [if_neg (by simp)]
 have hi:i<es.size:=by
  have h1:=(Array.getElem?_eq_some_iff.mp hx).1;have h2:=(J7 w a ep es).length_eq;simp at h2;omega
 simp only [toNat_natCast];refine qa0 (V9 ho hd he hn (le_of_lt hi) ?_);rw [hx];dsimp only [Option.map_some];refine qa0 (wpAny_setField hoi hdi (by simp) ?_)
 have h1:(s.heap.update I (Obj.mapFields (·.setIfInBounds 0 (rawInt (kU w n (i+1)))))).get? I=some (Obj.mapFields (·.setIfInBounds 0 (rawInt (kU w n (i+1)))) oi):=get?_update_self _ hoi (Obj.isFreed_of_fields (Obj.data_mapFields hdi _));refine qa0 (wpAny_setField h1 (Obj.data_mapFields hdi _) (by simp) ?_)
 refine qa1 ⟨e.2,rfl,qa1 (hQ _ ?_ ((Heap.SameBut.update ..).trans (Heap.SameBut.update ..)))⟩;refine ⟨_,get?_update_self _ h1 (Obj.isFreed_of_fields (Obj.data_mapFields (Obj.data_mapFields hdi _) _)),(Obj.cls_mapFields ..).trans ((Obj.cls_mapFields ..).trans hc),?_⟩;rw [Obj.data_mapFields (Obj.data_mapFields hdi _)];simp [rawInt]
theorem Ow {I:Addr}{Q:Option Value->Shared->Prop}(hh:A.handled=none)(hit:Ql s.heap I a (kU w n es.size) es.size es.size ep)(ho:s.heap.get? a=some o)(hex:o.ExactSet)(hd:o.data=.set es ep (qX (jH w) n))(he:ji es.toList (qb n))(hn:n<256)
  (hQ:∀h',Heap.ExtBut I s.heap h'->Q none { s with heap:=h' }):wpAny (model prog w) A (pyNext (.ref I)) Q E s:=by
 obtain ⟨oi,hoi,hc,hdi⟩:=id hit;have hT:s.TypeIs (.ref I) "set_iterator" := ⟨oi,hoi,hc⟩;have hlen:es.size=(qb n).length:=by rw [<- length_toList,he.length]
 have hf:(qX (jH w) n).fits es.size=true:=by rw [hlen];exact fits_of hn _
 unfold pyNext;refine qa0 (wpAny_attempt (wpAny_callSpecial?_slot (name:=Str.ofString "__next__") hT F.QV
  (wpAny_call_entry F.QV hT F.VG ?_ (F.VF _))))
 unfold Builtin.«set_iterator.__next__»;show wpAny _ _ (fieldsOf (.ref I) >>= _) _ _ s;refine qa0 (wpAny_fieldsOf hoi hdi ?_);dsimp only;refine qa0 (wpAny_setEntries_of ho hd hf ?_);rw [if_neg (by simp)]
 simp only [toNat_natCast];refine qa0 (V9 ho hd he hn (le_refl _) ?_);have hx:(yJ w a ep es)[es.size]? =none:=Array.getElem?_eq_none (by
  have h2:=(J7 w a ep es).length_eq;simp at h2;omega)
 rw [hx];dsimp only [Option.map_none];refine qa0 (wpAny_setField hoi hdi (by simp) ?_)
 show wpAny _ _ (newExc (.type "StopIteration") [] >>= _) _ _ _;refine qa0 ?_;simp only [newExc,newTuple];refine qa0 (wpAny_newObj_type ?_ (by size_fits))
 refine qa0 (m:=firstArgMember _ _) (wpAny_of_eq (a:=Value.none) (by first | rfl | (simp only [firstArgMember];rfl)) ?_)
 refine wpAny_newObj_type ?_ (by size_fits)
 simp only [raiseNew];refine qa0 (wpAny_handled ?_)
 first | rw [show A.in1.handled=none from hh] | rw [hh]
 refine qa0 (qa1 (wpAny_throw ?_));refine qa0 (wpAny_isInstance (T := "StopIteration") (b:=true) ⟨_,get?_push_size _ rfl,rfl⟩ isSubtype_stop ?_);exact qa1 (hQ _ (((Heap.SameBut.update ..).extBut.push _).push _))
end
theorem Ql.typeIs {I S:Addr}{slot ep:Nat}(h:Ql s.heap I S slot i n ep):s.TypeIs (.ref I) "set_iterator" := let ⟨o,ho,hc,_⟩:=h;⟨o,ho,hc⟩
section
variable {prog:Program}{A:Around}{o:Obj}{es:Array (Int × Value)}{ep:Nat}
theorem Ox {I S:Addr}{slot m e:Nat}(hit:Ql s.heap I S slot i m e)(h:Q (.ref I) s):wpAny (model prog w) A (pyIter (.ref I)) Q E s:=by
 refine wpAny_pyIter_slot hit.typeIs F.VH (wpAny_call_entry F.VH hit.typeIs F.Ou ?_ (F.Ot _));show wpAny _ _ (ret (.ref I)) _ _ s;exact qa1 ⟨_,rfl, "set_iterator",_,hit.typeIs,F.QV.lookup,h⟩
theorem Walks.setP (hh:A.handled=none)(I a:Addr)(hne:a≠I)(hex:o.ExactSet)(hd:o.data=.set es ep (qX (jH w) n))(he:ji es.toList (qb n))(hn:n<256):
  Walks prog w A I [I,a] [I] es.size (λ i v=>∃e,(yJ w a ep es)[i]? =some e/\v=e.2) (λ i h=>Ql h I a (kU w n i) i es.size ep/\h.get? a=some o) where
 sub:=λ b hb=>by simp at hb;simp [hb]
 frame:=λ _ _ _ st hk=>⟨let ⟨x,h1,h2⟩:=st.1;⟨x,hk I (by simp) x h1,h2⟩,hk a (by simp) o st.2⟩
 item:=λ i s Q E hi st hQ=>by
  have hsz:(yJ w a ep es).size=es.size:=by have:=(J7 w a ep es).length_eq;simpa using this
  have hx:(yJ w a ep es)[i]? =some ((yJ w a ep es)[i]'(by omega)):=Array.getElem?_eq_getElem (by omega)
  refine Ov st.1 st.2 hex hd he hn hx λ h' hit' hs'=>?_;refine hQ _ h' s.toks ⟨_,hx,rfl⟩ ⟨hit',?_⟩ λ b o hb e=>hs'.extBut b o (λ h=>hb (by simp [h])) e
  exact hs'.extBut a o hne st.2
 done:=λ s Q E st hQ=>Ow hh st.1 st.2 hex hd he hn λ h' he'=>hQ h' s.toks λ b o hb e=>he' b o (λ h=>hb (by simp [h])) e
 self:=λ _ _ _ _ st hQ=>Ox st.1 hQ
theorem MC:typeLookup (.type "set") "__len__" = pure (some (.builtin "set.__len__")):=by rw [typeLookup_type,builtinLookup_eq_fast];kernel_rfl
theorem OB {Q:List Value->Shared->Prop}(hh:A.handled=none)(ho:s.heap.get? a=some o)(hex:o.ExactSet)(hd:o.data=.set es ep (qX (jH w) n))(he:ji es.toList (qb n))(hn:n<256)
  (hQ:∀(h':Heap) (tk:Nat),(∀b o,b<s.heap.objs.size->s.heap.get? b=some o->h'.get? b=some o)->s.heap.objs.size<=h'.objs.size->Q ((yJ w a ep es).toList.map (·.2)) { s with heap:=h',toks:=tk }):
  wpAny (model prog w) A (collect (.ref a)) Q E s:=by
 have hT0:s.TypeIs (.ref a) "set" := ⟨o,ho,hex.1⟩;have hlt:a<s.heap.objs.size:=lt_size ho;unfold collect;refine qa0 (wpAny_runValue (codeAny_builtin PySem.F.entry_proto_collect ?_));rw [Around.under_plainId PySem.F.plain_proto_collect _];show wpAny _ A.in1 (newList [] >>= λ l=>again (.builtin "list.__iadd__" ⟨[l,.ref a],[]⟩)) _ _ s;refine qa0 (wpAny_newObj_type ?_);refine qa1 ⟨plainId_quiet PySem.F.plain_list_iadd _,codeAny_builtin PySem.F.entry_list_iadd ?_⟩;rw [Around.under_plainId PySem.F.plain_list_iadd _];show wpAny _ A.in1 (Builtin.List.listExtendWith (.ref s.heap.objs.size) (.ref a) (.ref s.heap.objs.size)) _ _ _;have ho1:(s.heap.push { cls:=.type "list",data:=.seq ([]:List Value).toArray }).get? a=some o:=get?_push_of_some _ ho;have hT:Shared.TypeIs { s with heap:=s.heap.push { cls:=.type "list",data:=.seq ([]:List Value).toArray } } (.ref a) "set" := ⟨o,ho1,hex.1⟩
 unfold Builtin.List.listExtendWith;refine qa0 (wpAny_typeOf hT ?_);have h1:Builtin.List.listSameRef (.ref s.heap.objs.size) (.ref a)=false:=by simp [Builtin.List.listSameRef];exact ne_of_gt hlt
 have h2:(Value.type "set" == Value.type "list")=false:=by decide
 have h3:(Value.type "set" == Value.type "tuple")=false:=by decide
 simp only [h1,h2,h3,Bool.or_false,false_eq_true,if_false];refine qa0 (OE ho1 hex hd he hn ?_);refine qa0 (wpAny_holding ?_);unfold Builtin.List.listLengthHint;generalize hH:s.heap.push { cls:=.type "list",data:=.seq ([]:List Value).toArray }=H;have hHs:H.objs.size=s.heap.objs.size+1:=by rw [<- hH,size_push]
 have hoH:H.get? a=some o:=by rw [<- hH];exact ho1
 have hLH:H.get? s.heap.objs.size=some { cls:=.type "list",data:=.seq ([]:List Value).toArray }:=by rw [<- hH];exact get?_push_size _ rfl
 generalize hIo:({ cls:=.type "set_iterator",data:=.fields #[.int 0 0,.int 0 0,.ref a,.int es.size 0,.int ep 0] }:Obj)=io;have hT2:Shared.TypeIs { s with heap:=H.push io } (.ref a) "set" := ⟨o,get?_push_of_some _ hoH,hex.1⟩
 have hio:(H.push io).get? H.objs.size=some io:=get?_push_size _ (by rw [<- hIo];rfl)
 refine qa0 (wpAny_specialOf hT2 MC ?_)
 wp_delta
 refine qa0 (wpAny_isInstance (b:=true) hT2 (by rw [isSubtype_type];kernel_rfl) ?_)
 show wpAny _ A.in1 (typeOf (Value.ref a) >>= _) _ _ _;refine qa0 (wpAny_typeOf hT2 ?_);refine qa1 ?_;show wpAny _ A.in1 (rule "list.extend.makes-room" >>= λ _=>Builtin.List.listTouch (.ref s.heap.objs.size) >>= λ _=>
  again (.builtin "list.extend.loop" ⟨[.ref s.heap.objs.size,.ref H.objs.size,.ref s.heap.objs.size],[]⟩)) _ _ _
 refine qa0 (wpAny_rule ?_);have hS1:(H.push io).get? s.heap.objs.size=some { cls:=.type "list",data:=.seq ([]:List Value).toArray }:=get?_push_of_some _ hLH;refine qa0 ?_;show wpAny _ A.in1 (updateSeq s.heap.objs.size (·.push .none) >>= λ _=>updateSeq s.heap.objs.size (·.pop)) _ _ _;refine qa0 (wpAny_updateSeq hS1 rfl ?_);have hS2:=get?_update_self (Obj.mapSeq (·.push Value.none)) hS1 rfl;refine wpAny_updateSeq hS2 rfl ?_;have hS3:=get?_update_self (Obj.mapSeq (·.pop)) hS2 rfl;have oth:∀b o,b≠s.heap.objs.size->(H.push io).get? b=some o->(((H.push io).update s.heap.objs.size (Obj.mapSeq (·.push Value.none))).update s.heap.objs.size (Obj.mapSeq (·.pop))).get? b=some o:=
  λ b o hb e=>(get?_update_other _ _ (Ne.symm hb)).trans ((get?_update_other _ _ (Ne.symm hb)).trans e)
 have hne:a≠H.objs.size:=by rw [hHs];exact ne_of_lt (lt_succ_of_lt hlt)
 have hIS:H.objs.size≠s.heap.objs.size:=by rw [hHs];exact Nat.succ_ne_self _
 have haS:a≠s.heap.objs.size:=ne_of_lt hlt;have W:=(Walks.setP (prog:=prog) (w:=w) (A:=A.in1) (by simp [hh]) H.objs.size a hne hex hd he hn).toS
 have hSf:s.heap.objs.size∉[H.objs.size,a]:=λ hm=>by
  rcases qa3.mp hm with z | hm
  ·exact hIS z.symm
  ·exact haS (qa7.mp hm).symm
 have hlen:es.size=(qb n).length:=by rw [<- length_toList,he.length]
 have h8:=Ju n;refine qa1 ⟨plainId_quiet PySem.F.plain_extend_loop _,codeAny_extend_loopS W (by rw [sizeLine_eq];omega) _ hSf _ es.size 0 _ _ _ rfl (zero_le _) ⟨?_,oth a o haS (get?_push_of_some _ hoH)⟩ hS3 (ItemsOf.nil _) λ s' acc' c' hm hS' hacc=>?_⟩
 ·refine ⟨io,oth _ _ hIS hio,by rw [<- hIo],?_⟩
  rw [<- hIo]
  have:kU w n 0=0:=by unfold kU YB;split<;>rfl
  rw [this]
  rfl
 show wpAny _ A (load s.heap.objs.size >>= _) _ _ s';refine qa0 (wpAny_load hS' ?_);have hl:acc'.toList=(yJ w a ep es).toList.map (·.2):=by
  have hsz:(yJ w a ep es).size=es.size:=by have:=(J7 w a ep es).length_eq;simpa using this
  apply ext_getElem?
  intro j
  by_cases hj:j<es.size
  ·have h1:acc'[j]? =some (acc'[j]'(by rw [hacc.1];exact hj)):=Array.getElem?_eq_getElem (by rw [hacc.1];exact hj)
   obtain ⟨e,h2,h3⟩:=hacc.2 j _ h1;rw [getElem?_toList,h1,getElem?_map,getElem?_toList,h2,h3]
   rfl
  ·rw [getElem?_eq_none (by rw [length_toList,hacc.1];omega),getElem?_eq_none (by rw [length_map,length_toList,hsz];omega)]
 show wpAny _ A (pure acc'.toList) _ _ s';rw [hl];obtain ⟨h',g',d',tk',os'⟩:=s';have e1:g'=s.gens:=hm.gens;have e2:d'=s.drawn:=hm.drawn;have e3:os'=s.os:=hm.os;subst e1 e2 e3;refine qa1 (hQ h' tk' (λ b ob hb e=>?_) ?_)
 ·refine hm.heap b ob (λ hm2=>?_) (oth b ob (ne_of_lt hb) (get?_push_of_some _ (by rw [<- hH];exact get?_push_of_some _ e)))
  rcases qa3.mp hm2 with z | z
  ·exact ne_of_lt hb z
  ·exact ne_of_lt (lt_succ_of_lt hb) ((qa7.mp z).trans hHs)
 ·exact le_of_lt (lt_size (show h'.get? s.heap.objs.size=_ from hS'))
end
open PySem PySem.Spec PyProof.Rows L2
theorem TM:∀{a b:List Int},a.Perm b->a.Pairwise (·<=·)->b.Pairwise (·<=·)->a=b
 | [],b,p,_,_=>by rw [List.nil_perm.mp p]
 | x::a,[],p,_,_=>absurd p.length_eq (by simp)
 | x::a,y::b,p,ha,hb=>by
  have hx:x∈y::b:=p.mem_iff.mp (mem_cons_self ..);have hy:y∈x::a:=p.mem_iff.mpr (mem_cons_self ..);have e:x=y:=by
   rcases qa3.mp hx with e | e
   ·exact e
   ·rcases qa3.mp hy with e2 | e2
    ·exact e2.symm
    ·have h1:=(List.pairwise_cons.mp hb).1 x e
     have h2:=(List.pairwise_cons.mp ha).1 y e2;omega
  subst e;rw [TM (List.Perm.cons_inv p) (List.pairwise_cons.mp ha).2 (List.pairwise_cons.mp hb).2]
theorem FF (n v i:Nat):(yo n v).testBit i=(n.testBit i || decide (i=v)):=by
 unfold yo
 by_cases h:n.testBit v=true
 ·rw [if_pos h]
  by_cases e:i=v
  ·subst e;simp [h]
  ·simp [e]
 ·rw [if_neg h]
  unfold jl;rw [Nat.testBit_or,Nat.one_shiftLeft,Nat.testBit_two_pow]
  congr 1
  by_cases e:v=i
  ·subst e;simp
  ·simp [e,Ne.symm e]
theorem SU (i:Nat):∀(vs:List Nat) (n:Nat),(vs.foldl yo n).testBit i=(n.testBit i || decide (i∈vs))
 | [],n=>by simp
 | v::vs,n=>by
  rw [List.foldl_cons,SU i vs,FF]
  by_cases e:i=v
  ·simp [e]
  ·simp [e]
theorem La (vs:List Nat):qb (vs.foldl yo 0)=(List.range 8).filter λ i=>decide (i∈vs):=by
 unfold qb
 congr 1
 funext i
 rw [SU];simp
theorem L7 (n:Nat):((qb n).map λ (i:Nat)=>(i:Int)).Pairwise (·<=·):=by
 rw [List.pairwise_map];unfold qb;refine List.Pairwise.imp ?_ (List.Pairwise.filter _ List.pairwise_lt_range);intro a b h;omega
theorem ji.snd {vs:List Nat}(h:ji es vs):∀e∈es,∃tk,e.2=.int e.1 tk:=by
 induction h with
 | nil=>intro e he;cases he
 | cons v tk h ih=>
  intro e he;rcases qa3.mp he with rfl | he
  ·exact ⟨tk,rfl⟩
  ·exact ih e he
theorem Uy:∀{l:List (Int × Value)},(∀e∈l,∃tk,e.2=.int e.1 tk)->IntsAre (l.map (·.2)) (l.map (·.1))
 | [],_=>.nil
 | e::l,h=>by
  obtain ⟨tk,he⟩:=h e (mem_cons_self ..);rw [map_cons,map_cons,he];exact .cons _ tk (Uy λ x hx=>h x (mem_cons_of_mem _ hx))
section
variable {prog:Program}{A:Around}{o:Obj}{es:Array (Int × Value)}{ep:Nat}
theorem Mh (hh:A.handled=none)(hS:yn s.heap a (jH w) n)
  (h:∀(h':Heap) (tk:Nat) (l:Addr) (its:List Value) (c:Nat),s.heap.objs.size<=l->h'.get? l=some { cls:=.type "list",data:=.seq its.toArray c }->IntsAre its ((qb n).map λ (i:Nat)=>(i:Int))->
   (∀b o,s.heap.get? b=some o->h'.get? b=some o)->Q (.ref l) { s with heap:=h',toks:=tk }):
  wpAny (model prog w) A (call (.builtin "sorted") [.ref a]) Q E s:=by
 obtain ⟨o,es,ep,ho,hex,hd,he,hn⟩:=hS;refine Calls.call_function_entry kind_sorted plain_sorted entry_sorted (args_sorted1 _) ?_;unfold Builtin.«sorted»;refine qa0 (m:=checkCount "sorted" 1 1 _) (qa1 ?_);refine qa0 (OB (by simp [hh]) ho hex hd he hn λ h1 tk kp hle=>?_)
 have hp:=J7 w a ep es;have hI:IntsAre ((yJ w a ep es).toList.map (·.2)) ((yJ w a ep es).toList.map (·.1)):=Uy λ e hm=>he.snd e (hp.mem_iff.mp hm);have hperm:((yJ w a ep es).toList.map (·.1)).Perm ((qb n).map λ (i:Nat)=>(i:Int)):=by
  rw [<- he.map1];exact hp.map _
 have hlen:((yJ w a ep es).toList.map (·.2)).length<=8:=by
  rw [length_map,hp.length_eq,he.length];exact Ju n
 generalize (yJ w a ep es).toList.map (·.2)=vs at hI hlen;generalize (yJ w a ep es).toList.map (·.1)=ns at hI hperm;refine qa0 (wpAny_newList ?_);have hoL:(h1.push (seqObj "list" vs.toArray 0)).get? h1.objs.size=some (seqObj "list" vs.toArray 0):=get?_push_size _ rfl;show wpAny _ _ _ _ _ { s with heap:=h1.push (seqObj "list" vs.toArray 0),toks:=tk }
 refine qa0 (wpAny_holding (wpAny_call_entry slot_list_sort ⟨_,hoL,rfl⟩ entry_list_sort (list_sort_tree hoL hI (by omega) λ out ns' a1 a2 a3=>⟨_,rfl,?_⟩) (args_list_sort _)))
 have hns:ns'=(qb n).map λ (i:Nat)=>(i:Int):=TM (a2.trans hperm) a3 (L7 n);subst hns;refine qa1 ⟨_,rfl,?_⟩;have e1:=get?_update_seq hoL (λ _=>(#[]:Array Value));have e2:=get?_push_of_some (seqObj "list" #[] 0) (get?_push_of_some (seqObj "tuple" vs.toArray 0) e1);obtain ⟨c,e3⟩:∃c,(sortedHeap (h1.push (seqObj "list" vs.toArray 0)) h1.objs.size vs out).get? h1.objs.size=some (seqObj "list" out c):=⟨_,get?_update_seq e2 (λ _=>out)⟩;refine h _ tk h1.objs.size out.toList c hle ?_ a1 λ b ob e=>?_
 ·rw [Array.toArray_toList]
  exact e3
 ·have lb:b<s.heap.objs.size:=lt_size e
  have k1:=kp b ob lb e;have nb:h1.objs.size≠b:=ne_of_gt (lt_of_lt_of_le lb hle);unfold sortedHeap;refine (get?_update_other _ _ nb).trans ?_;refine get?_push_of_some _ (get?_push_of_some _ ?_);exact (get?_update_other _ _ nb).trans (get?_push_of_some _ k1)
end
section
variable {m:Ev}
noncomputable def Bh (K:Frag)(w:World):List V->Hp->VK->Prop:=λ xs H Q=>∃(p:Addr) (vs:List Nat),xs=[.ref p]/\qZ K H p (vs.map λ (v:Nat)=>V.int (v:Int))/\(∀v∈vs,v<8)/\∀l,H l=none->Q (.ref l) (upd H l (.ext λ h=>yn h l (jH w) (vs.foldl yo 0)))
theorem Lp (hc:X.calm=true):j3 X (.type "set") (Bh X.K X.w):=by
 intro pins s σ H xs us Q I r h;obtain ⟨p,vs,rfl,hq,h8,q⟩:=h;obtain ⟨u,rfl,ru⟩:=vals1 r;cases ru;obtain ⟨its,rv,⟨o,k,e1,e2,e3,e4⟩,_⟩:=I.list hq;have hv:Vals ((vs.map λ (v:Nat)=>(v:Int)).map V.int) its:=by rw [map_map];exact rv
 refine O4 (I.ok.hd hc) ⟨o,e1,e2,k,e4⟩ (intsAre_of hv) h8 λ h' tk S' kp=>?_;refine ⟨.ref s.heap.objs.size,_,I.laid (t':=tk) (o:=.ext λ h=>yn h s.heap.objs.size (jH X.w) (vs.foldl yo 0)) (λ b o e=>kp b o (lt_size e) e) (le_refl _) ⟨S',?_,λ h1 h2 a b=>a.keep b⟩,rfl,q _ (I.hok.fresh (le_refl _))⟩;obtain ⟨o,es,ep,ho,_⟩:=S';exact ⟨o,ho⟩
theorem J6:∀{ns:List Int} {its:List Value},IntsAre its ns->Vals (ns.map V.int) its
 | _,_,.nil=>.nil
 | _,_,.cons n t h=>.cons ⟨t,rfl⟩ (J6 h)
theorem NQ (hc:X.calm=true):j3 X (.builtin "sorted") (λ xs H Q=>∃(p:Addr) (n:Nat),xs=[.ref p]/\H p=some (.ext λ h=>yn h p (jH X.w) n)/\∀l,H l=none->Q (.ref l) (upd H l (.lst ((qb n).map λ (v:Nat)=>V.int (v:Int))))):=by
 intro pins s σ H xs us Q I r h;obtain ⟨p,n,rfl,hq,q⟩:=h;obtain ⟨u,rfl,ru⟩:=vals1 r;cases ru;have hS:yn s.heap p (jH X.w) n:=(show qQ X.prog X.w H s.heap p (.ext λ h=>yn h p (jH X.w) n) from I.hok p _ hq).1
 refine Mh (I.ok.hd hc) hS λ h' tk l its c hl hg hi kp=>?_;have hv:=J6 hi;rw [map_map] at hv;refine ⟨.ref l,_,I.laid (t':=tk) (o:=.lst ((qb n).map λ (v:Nat)=>V.int (v:Int))) kp hl ⟨?_,its,c,hv,hg⟩,rfl,q _ (I.hok.fresh hl)⟩;rw [length_map,sizeLine_eq]
 have:=Ju n
 omega
noncomputable def Z5:List Int->Option (List Nat)
 | []=>some []
 | i::is=>if 0<=i/\i<8 then (Z5 is).map (i.toNat::·) else none
theorem T7:∀{is:List Int} {vs:List Nat},Z5 is=some vs->is=vs.map (λ (v:Nat)=>(v:Int))/\∀v∈vs,v<8
 | [],_,e=>by cases e;exact ⟨rfl,λ v hv=>by cases hv⟩
 | i::is,vs,e=>by
  unfold Z5 at e
  by_cases h:0<=i/\i<8
  ·rw [if_pos h] at e
   cases e1:Z5 is with
   | none=>rw [e1] at e;cases e
   | some us=>
    rw [e1] at e;cases e;obtain ⟨h1,h2⟩:=T7 e1;refine ⟨?_,λ v hv=>?_⟩
    ·rw [map_cons,<- h1,Int.toNat_of_nonneg h.1]
    ·rcases qa3.mp hv with rfl | hv
     ·omega
     ·exact h2 v hv
  ·rw [if_neg h] at e;cases e
noncomputable def G6:W->Hx->R W:=λ w A=>match w with
 | .ref n=>match A[n]? with
  | some (.lst ws)=>match intsOf ws with
   | some is=>match Z5 is with
    | some vs=>.ok (.ref A.length) (A++[.lst (((List.range 8).filter λ i=>decide (i∈vs)).map λ (i:Nat)=>W.int (i:Int))])
    | none=>.bad
   | none=>.bad
  | _=>.bad
 | _=>.bad
noncomputable def KJ (m:Ev):Ev:=λ ρ A=>(m ρ A).bind λ w A1=>G6 w A1
end
theorem Ih (a b:Value):argsOk "sum" ⟨[a,b],[]⟩:=by unfold argsOk;kernel_rfl
theorem sub_list_str:isSubtype (.type "list") (.type "str")=pure false:=by rw [isSubtype_type];kernel_rfl
theorem sub_list_bytes:isSubtype (.type "list") (.type "bytes")=pure false:=by rw [isSubtype_type];kernel_rfl
theorem sub_list_bytearray:isSubtype (.type "list") (.type "bytearray")=pure false:=by rw [isSubtype_type];kernel_rfl
noncomputable abbrev wK (xs:Array Value)(c:Nat):Obj:={ cls:=.type "list",dict:=none,data:=.seq xs c,slots:=#[] }
section
variable {prog:Program}{A:Around}{R:Result->Shared->Prop}{I:Addr}{wr:List Addr}{G:Array GenState->Array GenState->Prop}{P:Nat->Value->Prop}{St:Nat->Shared->Prop}
theorem Lu (W:WalksS prog w A.in1 I fp wr G n P St)(S B:Addr)(hSf:S∉fp)(hBS:B<=S)(ad:Nat->Addr)(its:Nat->List Value)(hval:∀i v,P i v->v=.ref (ad i))(had:∀i,i<n->ad i≠S/\ad i∉wr)(hwS:∀b∈wr,b<S):
  ∀(k i:Nat) (s:Shared) (T:Addr) (c cT:Nat) (acc:List Value),n - i=k->i<=n->St i s->s.heap.get? S=some (wK #[.ref T] c)->T≠S->T∉wr->s.heap.get? T=some (wK acc.toArray cT)->
   (∀j,i<=j->j<n->∃cj,s.heap.get? (ad j)=some (wK (its j).toArray cj))->(acc++(((List.range' i k).map its).flatten)).length<=sizeLine->
   (∀s' T' c',Moved (S::wr) G s s'->s'.heap.get? T'=some (wK (acc++(((List.range' i k).map its).flatten)).toArray c')->((k=0/\T'=T)∨B<=T')->R (.ok (.ret (.ref T'))) s')->
   codeAny (model prog w) A (.builtin "sum.loop" ⟨[.ref I,.ref S,rawInt 2,rawInt 0],[]⟩) R s:=by
 have hSw:S∉wr:=λ h=>hSf (W.sub _ h);have hsub:∀b∈wr,b∈S::wr:=λ b hb=>mem_cons_of_mem _ hb;intro k
 induction k with
 | zero=>
  intro i s T c cT acc hk hi hst hS hTS hTw hT hl hz hR;have hin:i=n:=by omega
  subst hin;refine codeAny_builtin PySem.F.entry_sum_loop ?_;rw [Around.under_plainId plain_sum_loop _];show wpAny _ A.in1 (seqItems? (.ref S) >>= _) _ _ s;refine qa0 (wpAny_seqItems hS rfl ?_);show wpAny _ A.in1 (tryCatch (pyNext (.ref I)) _ >>= _) _ _ s;refine qa0 (wpAny_tryCatch (W.done s _ _ hst λ s' hm=>?_));refine qa1 (hR s' T cT (hm.mono hsub) ?_ (.inl ⟨rfl,rfl⟩))
  have:=hm.heap T _ hTw hT
  simpa using this
 | succ k ih=>
  intro i s T c cT acc hk hi hst hS hTS hTw hT hl hz hR;have hlt:i<n:=by omega
  refine codeAny_builtin PySem.F.entry_sum_loop ?_;rw [Around.under_plainId plain_sum_loop _];show wpAny _ A.in1 (seqItems? (.ref S) >>= _) _ _ s;refine qa0 (wpAny_seqItems hS rfl ?_);show wpAny _ A.in1 (tryCatch (pyNext (.ref I)) _ >>= _) _ _ s;refine qa0 (wpAny_tryCatch (W.item i s _ _ hlt hst λ v s' hP hst' hm=>?_));have hv:=hval i v hP;subst hv;have hS':=hm.heap S _ hSw hS;have hT':=hm.heap T _ hTw hT;obtain ⟨ci,hli⟩:=hl i (le_refl _) hlt;have hli':=hm.heap (ad i) _ (had i hlt).2 hli;rw [range'_succ,map_cons,flatten_cons,<- append_assoc] at hz hR;have hz1:(acc++its i).length<=sizeLine:=by rw [length_append] at hz;omega
  show wpAny _ A.in1 ((holding [Value.ref (ad i)] (binaryOp .Add (.ref T) (.ref (ad i)))).attempt >>= _) _ _ _;refine qa0 (wpAny_attempt (wpAny_holding (PySem.P.add_list hT' hli' ?_ (by rw [size_toArray,size_toArray,<- length_append];exact hz1))))
  have ea:acc.toArray++(its i).toArray=(acc++its i).toArray:=by simp
  rw [ea];have ltS:S<s'.heap.objs.size:=lt_size hS';have hS1:=get?_push_of_some (wK (acc++its i).toArray 0) hS';have hN1:(s'.heap.push (wK (acc++its i).toArray 0)).get? s'.heap.objs.size=some (wK (acc++its i).toArray 0):=get?_push_size _ rfl;show wpAny _ A.in1 (updateSeq S (λ _=>#[.ref s'.heap.objs.size]) >>= _) _ _ _;refine qa0 (wpAny_updateSeq hS1 rfl ?_);have hS2:=get?_update_self (Obj.mapSeq λ _=>#[Value.ref s'.heap.objs.size]) hS1 rfl;refine qa0 (wpAny_letGo ?_);have neS:s'.heap.objs.size≠S:=ne_of_gt ltS;have oth:∀b o,b≠S->s'.heap.get? b=some o->(((s'.heap.push (wK (acc++its i).toArray 0)).update S (Obj.mapSeq λ _=>#[Value.ref s'.heap.objs.size])).update S (Obj.mapSeq λ _=>#[Value.ref s'.heap.objs.size])).get? b=some o:=
   λ b o hb e=>(get?_update_other _ _ (Ne.symm hb)).trans ((get?_update_other _ _ (Ne.symm hb)).trans (get?_push_of_some _ e))
  have nwr:s'.heap.objs.size∉wr:=λ hm2=>lt_irrefl _ (lt_trans (hwS _ hm2) ltS);refine qa0 (wpAny_updateSeq hS2 rfl (qa1 ⟨plainId_quiet plain_sum_loop _,ih (i+1) _ s'.heap.objs.size _ 0 (acc++its i) (by omega) hlt (W.frame _ s' _ _ hst' (by first | exact le_refl _ | exact le_succ _ | omega) λ b hb o e=>oth b o (λ h=>hSf (h ▸ hb)) e) (get?_update_self _ hS2 rfl) neS nwr ?_ ?_ hz λ s'' T'' c'' hm'' hT'' hor=>?_⟩))
  ·exact (get?_update_other _ _ (Ne.symm neS)).trans ((get?_update_other _ _ (Ne.symm neS)).trans hN1)
  ·intro j h1 h2
   obtain ⟨cj,hj⟩:=hl j (by omega) h2
   exact ⟨cj,oth _ _ (had j h2).1 (hm.heap _ _ (had j h2).2 hj)⟩
  ·refine hR s'' T'' c'' (Moved.trans W.gtrans ((hm.mono hsub).then_heap (by first | exact le_refl _ | exact le_succ _ | omega) λ b o hb e=>oth b o (λ h=>hb (by rw [h];exact mem_cons_self)) e) hm'') hT'' (.inr ?_)
   rcases hor with ⟨_,rfl⟩ | h
   ·exact le_of_lt (Nat.lt_of_le_of_lt hBS ltS)
   ·exact h
theorem M6 {p q:Addr}{cq:Nat}{ads:List Addr}{itss:List (List Value)}(hh:A.handled=none)(hp:s.heap.IsList p (ads.map Value.ref).toArray)(hq:s.heap.get? q=some (wK #[] cq))
  (hlen:ads.length=itss.length)(hl:∀i,i<ads.length->∃c,s.heap.get? (ads.getD i 0)=some (wK (itss.getD i []).toArray c))(hne:ads≠[])(hz:itss.flatten.length<=sizeLine)
  (h:∀(h':Heap) (tk:Nat) (l:Addr) (c:Nat),s.heap.objs.size<=l->h'.get? l=some (wK itss.flatten.toArray c)->(∀b o,s.heap.get? b=some o->h'.get? b=some o)->Q (.ref l) { s with heap:=h',toks:=tk }):
  wpAny (model prog w) A (call (.builtin "sum") [.ref p,.ref q]) Q E s:=by
 refine call_function_tree PySem.F.kind_sum PySem.F.plain_sum PySem.F.entry_sum (Ih _ _) ?_;unfold Builtin.«sum»;simp only [length_cons,length_nil];rw [if_neg (by decide)]
 refine qa0 (wpAny_of_eq (show Builtin.Builtins.bindParams "sum" ["start"] 0 ⟨[.ref q],[]⟩=pure [some (.ref q)] from rfl) ?_)
 refine qa0 (wpAny_pyIter_list hp ?_);refine qa0 (qa1 ?_);generalize hio:({ cls:=.type "list_iterator",data:=.fields #[.ref p,.int 0 0] }:Obj)=io;have hq1:(s.heap.push io).get? q=some (wK #[] cq):=get?_push_of_some _ hq;have hT:Shared.TypeIs { s with heap:=s.heap.push io } (.ref q) "list" := ⟨_,hq1,rfl⟩
 simp only [forIn_cons,forIn_nil];refine qa0 (qa0 (qa0 (wpAny_isInstance (b:=false) hT sub_list_str ?_)));simp only [false_eq_true,if_false];refine qa1 (qa0 (qa0 (wpAny_isInstance (b:=false) hT sub_list_bytes ?_)));simp only [false_eq_true,if_false];refine qa1 (qa0 (qa0 (wpAny_isInstance (b:=false) hT sub_list_bytearray ?_)));simp only [false_eq_true,if_false];refine qa1 (qa1 ?_);refine qa0 (wpAny_newObj_type ?_);have sz:(s.heap.push io).objs.size=s.heap.objs.size+1:=size_push ..;have ltp:p<s.heap.objs.size:=by obtain ⟨o,e,_⟩:=hp;exact lt_size e
 have ltq:q<s.heap.objs.size:=lt_size hq;have ltI:s.heap.objs.size<(s.heap.push io).objs.size:=by rw [sz];exact lt_succ_self _
 have ltS:∀b,b<s.heap.objs.size->b<(s.heap.push io).objs.size:=λ b hb=>lt_trans hb ltI;have W:=(Walks.list (prog:=prog) (w:=w) (A:=A.in1) (by simp [hh]) s.heap.objs.size p (ne_of_lt ltp) (ads.map Value.ref).toArray).toS
 have esz:(ads.map Value.ref).toArray.size=ads.length:=by simp
 rw [esz] at W;have hSf:(s.heap.push io).objs.size∉[s.heap.objs.size,p]:=λ hm=>by
  rcases qa3.mp hm with z | hm
  ·exact ne_of_gt ltI z
  ·exact ne_of_gt (ltS p ltp) (qa7.mp hm)
 have hlt:∀i,i<ads.length->ads.getD i 0<s.heap.objs.size:=λ i hi=>by obtain ⟨c,e⟩:=hl i hi;exact lt_size e
 have gio:(s.heap.push io).get? s.heap.objs.size=some io:=get?_push_size _ (by rw [<- hio];rfl)
 have hcat:((List.range' 0 ads.length).map λ j=>itss.getD j []).flatten=itss.flatten:=by
  congr 1
  rw [hlen]
  apply ext_getElem
  ·simp
  ·intro i h1 h2
   simp [getD_eq_getElem?_getD,getElem?_eq_getElem h2]
 refine qa1 ⟨plainId_quiet plain_sum_loop _,Lu W (s.heap.push io).objs.size s.heap.objs.size hSf (le_of_lt ltI) (λ i=>ads.getD i 0) (λ i=>itss.getD i []) (λ i v e=>?_) (λ i hi=>⟨ne_of_lt (ltS _ (hlt i hi)),λ hm=>?_⟩) (λ b hb=>?_)
  ads.length 0 _ q 0 cq [] (by omega) (zero_le _) ⟨⟨io,get?_push_of_some _ gio,by rw [<- hio],by rw [<- hio];rfl⟩,(hp.push _).push _⟩ (get?_push_size _ rfl) (ne_of_lt (ltS q ltq)) (λ hm=>?_) (get?_push_of_some _ hq1) (λ j _ hj=>?_) ?_ λ s' T' c' hm hT' hor=>?_⟩
 ·have hi:i<ads.length:=by
   have:=(Array.getElem?_eq_some_iff.mp e).1
   simpa using this
  have e2:(ads.map Value.ref)[i]? =some v:=by simpa using e
  rw [getElem?_map,getElem?_eq_getElem hi] at e2;rw [getD_eq_getElem?_getD,getElem?_eq_getElem hi];exact (Option.some.inj e2).symm
 ·exact ne_of_lt (hlt i hi) (qa7.mp hm)
 ·rw [qa7.mp hb];exact ltI
 ·exact ne_of_lt ltq (qa7.mp hm)
 ·obtain ⟨c,e⟩:=hl j hj
  exact ⟨c,get?_push_of_some _ (get?_push_of_some _ e)⟩
 ·rw [nil_append,hcat];exact hz
 ·rw [nil_append,hcat] at hT'
  have hB:s.heap.objs.size<=T':=by
   rcases hor with ⟨h0,_⟩ | h0
   ·exact absurd (List.length_eq_zero_iff.mp h0) hne
   ·exact h0
  obtain ⟨h',g',d',tk',os'⟩:=s';have e1:g'=s.gens:=hm.gens;have e2:d'=s.drawn:=hm.drawn;have e3:os'=s.os:=hm.os;subst e1 e2 e3;refine h h' tk' T' c' hB hT' λ b o e=>hm.heap b o (λ hm2=>?_) (get?_push_of_some _ (get?_push_of_some _ e));have lb:b<s.heap.objs.size:=lt_size e;rcases qa3.mp hm2 with z | z
  ·exact ne_of_lt (ltS b lb) z
  ·exact ne_of_lt lb (qa7.mp z)
end
section
variable {K:Frag}
noncomputable def PL (K:Frag):List V->Hp->VK->Prop:=λ xs H Q=>∃(p q:Addr) (ls:List (Addr × List V)),xs=[.ref p,.ref q]/\H p=some (.lst (ls.map λ l=>V.ref l.1))/\H q=some (.lst [])/\(∀l∈ls,H l.1=some (.lst l.2))/\ls≠[]/\(ls.map (·.2)).flatten.length<=zY/\
 ∀l,H l=none->Q (.ref l) (upd H l (.lst (ls.map (·.2)).flatten))
theorem Tu:∀{ls:List (Addr × List V)} {us:List Value},Vals (ls.map λ l=>V.ref l.1) us->us=(ls.map (·.1)).map Value.ref
 | [],_,h=>by cases h;rfl
 | l::ls,_,h=>by
  cases h with
  | cons r t=>cases r;rw [Tu t];rfl
theorem Lh (hc:X.calm=true):j3 X (.builtin "sum") (PL X.K):=by
 intro pins s σ H xs us Q I r h;obtain ⟨p,q,ls,rfl,hp,hq,hl,hne,hz,k⟩:=h;obtain ⟨u,v,rfl,ru,rv⟩:=Vals.two r;cases ru;cases rv;obtain ⟨_,itp,np,rp,_,ep⟩:=I.lstM hp;obtain ⟨_,itq,nq,rq,lq,eq⟩:=I.lstM hq;have hitq:itq=[]:=by cases rq;rfl
 subst hitq;have hitp:=Tu rp;subst hitp;have hex:∀ls':List (Addr × List V),(∀l∈ls',H l.1=some (.lst l.2))->∃itss:List (List Value),itss.length=ls'.length/\(∀i,i<ls'.length->∃c,s.heap.get? ((ls'.map (·.1)).getD i 0)=some (wK (itss.getD i []).toArray c))/\Vals (ls'.map (·.2)).flatten itss.flatten:=by
  intro ls'
  induction ls' with
  | nil=>intro _;exact ⟨[],rfl,λ i hi=>absurd hi (not_lt_zero _),.nil⟩
  | cons l ls' ih=>
   intro hm;obtain ⟨itss,h1,h2,h3⟩:=ih λ x hx=>hm x (mem_cons_of_mem _ hx);obtain ⟨_,it,n,r1,_,e1⟩:=I.lstM (hm l (mem_cons_self ..));refine ⟨it::itss,by simp [h1],λ i hi=>?_,?_⟩
   ·cases i with
    | zero=>exact ⟨n,e1⟩
    | succ i=>exact h2 i (by simpa using hi)
   ·rw [map_cons,flatten_cons,flatten_cons]
    exact r1.append h3
 obtain ⟨itss,h1,h2,h3⟩:=hex ls hl;have hfl:itss.flatten.length=(ls.map (·.2)).flatten.length:=h3.length.symm;refine M6 (I.ok.hd hc) (itss:=itss) ⟨_,ep,rfl,np,rfl⟩ eq (by simp [h1]) (λ i hi=>h2 i (by simpa using hi)) (λ e=>hne (List.map_eq_nil_iff.mp e)) (by rw [hfl];exact Zk hz) λ h' tk l c hl' hg kp=>?_
 exact ⟨.ref l,_,I.laid (t':=tk) (o:=.lst (ls.map (·.2)).flatten) kp hl' ⟨Zk hz,itss.flatten,c,h3,hg⟩,rfl,k _ (I.hok.fresh hl')⟩
noncomputable def wO (A:Hx):List W->Option (List (List W))
 | []=>some []
 | .ref k::us=>match A[k]? with
  | some (.lst ws)=>(wO A us).map (ws::·)
  | _=>none
 | _::_=>none
noncomputable def Zr:W->W->Hx->R W:=λ x y A=>match x,y with
 | .ref n,.ref k=>match A[n]?,A[k]? with
  | some (.lst us),some (.lst [])=>match wO A us with
   | some wss=>if us≠[]/\wss.flatten.length<=zY then .ok (.ref A.length) (A++[.lst wss.flatten]) else .bad
   | none=>.bad
  | _,_=>.bad
 | _,_=>.bad
theorem Df:∀x y A,qE (Zr x y A):=λ x y A=>by
 unfold Zr
 split
 ·split
  ·split
   ·exact Zq jS qU
   ·exact qU
  ·exact qU
 ·exact qU
theorem zE.app :∀{ws us:List W} {xs ys:List V},zE K φ H ws xs->zE K φ H us ys->zE K φ H (ws++us) (xs++ys)
 | [],_,_,_,h,h2=>by cases h;exact h2
 | w::ws,_,_,_,⟨v,r,e,h,t⟩,h2=>by subst e;exact ⟨v,_,rfl,h,zE.app t h2⟩
theorem UT (S:zJ K φ A H):∀{us:List W} {wss:List (List W)} {vs:List V},wO A us=some wss->zE K φ H us vs->∃ls:List (Addr × List V),vs=ls.map (λ l=>V.ref l.1)/\(∀l∈ls,H l.1=some (.lst l.2))/\zE K φ H wss.flatten (ls.map (·.2)).flatten/\ls.length=us.length
 | [],_,_,e,h=>by cases e;cases h;exact ⟨[],rfl,λ l hl=>(by cases hl),rfl,rfl⟩
 | u::us,wss,_,e,⟨v,r,e1,h,t⟩=>by
  subst e1;cases u with
  | ref k=>
   unfold wO at e;cases ek:A[k]? with
   | none=>rw [ek] at e;cases e
   | some o=>cases o with
    | lst ws=>
     rw [ek] at e;dsimp only at e;cases e2:wO A us with
     | none=>rw [e2] at e;cases e
     | some wss'=>
      rw [e2] at e;cases e;obtain ⟨p,xs,rfl,_,hp,rr⟩:=S.lst h ek;obtain ⟨ls,rfl,h2,h3,h4⟩:=UT S e2 t;refine ⟨(p,xs)::ls,rfl,λ l hl=>?_,zE.app rr h3,by simp [h4]⟩
      rcases qa3.mp hl with rfl | hl
      ·exact hp
      ·exact h2 l hl
    | _=>rw [ek] at e;cases e
  | _=>cases e
theorem Ho:j9 K (λ x y=>PL K [x,y]) Zr:=λ φ A H x y u v Q S q1 q2 p=>by
 unfold Zr at p;cases u with
 | ref n=>cases v with
  | ref k=>
   dsimp only at p;cases en:A[n]? with
   | none=>rw [en] at p;exact p.elim
   | some o=>cases o with
    | lst us=>
     cases ek:A[k]? with
     | none=>rw [en,ek] at p;exact p.elim
     | some o2=>cases o2 with
      | lst zs=>cases zs with
       | nil=>
        rw [en,ek] at p;dsimp only at p;cases e3:wO A us with
        | none=>rw [e3] at p;exact p.elim
        | some wss=>
         rw [e3] at p;dsimp only at p
         by_cases hc:us≠[]/\wss.flatten.length<=zY
         ·rw [if_pos hc] at p
          obtain ⟨pa,xs,rfl,_,hp,rr⟩:=S.lst q1 en;obtain ⟨pb,ys,rfl,_,hq,rr2⟩:=S.lst q2 ek;cases rr2;obtain ⟨ls,rfl,h2,h3,h4⟩:=UT S e3 rr;refine ⟨pa,pb,ls,rfl,hp,hq,h2,λ e=>?_,by rw [<- h3.length];exact hc.2,λ l hl=>?_⟩
          ·rw [e] at h4
           exact hc.1 (List.length_eq_zero_iff.mp h4.symm)
          ·obtain ⟨a1,a2,a3⟩:=Qs S hl h3
           exact p _ _ _ a1 a2 a3
         ·rw [if_neg hc] at p;exact p.elim
       | cons _ _=>rw [en,ek] at p;exact p.elim
      | _=>rw [en,ek] at p;exact p.elim
    | _=>rw [en] at p;exact p.elim
  | _=>exact p.elim
 | _=>cases v<;>exact p.elim
variable {a b:Expr}{ma mb:Ev}
noncomputable def CN (ta:TA):TE:=λ σ H Q=>ta σ H λ vs H1=>∃i j:Int,vs=[.int i,.int j]/\∀p,H1 p=none->Q (.ref p) (upd H1 p (.rng i j))
theorem HZ {ta:TA}(hg:Gl X "range")(hm:X.mg "range" = none)(ha:PA X [a,b] ta)(hs:starEach [a,b] X.env=[(false,eval a X.env),(false,eval b X.env)])(hs2:starEach [b] X.env=[(false,eval b X.env)]):PE X (.Call (.Name "range" p) [a,b] [] pos) (CN ta):=by
 intro pins s σ H Q I h;refine Call_ (Z1 I hg hm boot_range (PyProof.Rows.callWith_type1 (zP (ha pos pins s σ H _ I h) λ us s1 ⟨vs,H1,I1,r1,q1⟩=>?_) (by rw [hs,hs2]) (by rw [hs2];rfl)))
 obtain ⟨i,j,rfl,q⟩:=q1;obtain ⟨u,v,rfl,⟨t,rfl⟩,⟨t2,rfl⟩⟩:=Vals.two r1;refine call_range_2 ⟨.ref _,_,I1.laid (o:=.rng i j) (λ b o eo=>get?_push_of_some _ eo) (le_refl _) ?_,rfl,q _ (I1.hok.fresh (le_refl _))⟩;exact ⟨_,_,_,get?_push_size _ rfl⟩
noncomputable def Qz (lo:Int)(n:Nat):List V:=(List.range n).map λ (i:Nat)=>V.int (lo+i)
theorem Mj (hc:X.calm=true):j3 X (.type "list") (λ xs H Q=>∃(r:Addr) (i j:Int),xs=[.ref r]/\H r=some (.rng i j)/\(-(2 ^ 62)<=i/\i<2 ^ 62)/\(-(2 ^ 62)<=j/\j<2 ^ 62)/\(j - i).toNat<=sizeLine/\∀l,H l=none->Q (.ref l) (upd H l (.lst (Qz i (j - i).toNat)))):=by
 intro pins s σ H xs us Q I r h;obtain ⟨p,i,j,rfl,hp,⟨a1,a2⟩,⟨b1,b2⟩,hz,q⟩:=h;obtain ⟨u,rfl,ru⟩:=vals1 r;cases ru;obtain ⟨t1,t2,t3,ho⟩:=I.hok p _ hp;have hl:sizeLine=16777216:=sizeLine_eq;refine PySem.call_list_range (n:=(j - i).toNat) (I.ok.hd hc) (show IsRange s.heap p i j 1 t1 t2 t3 from ho) (small_one (by omega) (by omega) b1 b2) (by rw [rangeSize_one];split<;>omega) (by omega) λ h' tk acc c' kk hS ⟨hn,hat⟩=>?_
 refine ⟨.ref s.heap.objs.size,_,I.laid (t':=tk) (o:=.lst (Qz i (j - i).toNat)) kk (le_refl _) ?_,rfl,q _ (I.hok.fresh (le_refl _))⟩;refine ⟨by unfold Qz;simpa using hz,acc.toList,c',?_,by simpa using hS⟩
 have hv:∀(l:List Value) (k:Nat),(∀(m:Nat) v,l[m]? =some v->∃t,v=.int (i+((k+m:Nat):Int)) t)->Vals ((List.range' k l.length).map λ (m:Nat)=>V.int (i+(m:Int))) l:=by
  intro l
  induction l with
  | nil=>intro k _;exact .nil
  | cons v l ih=>
   intro k hk;rw [length_cons,range'_succ,map_cons];refine .cons ?_ (ih (k+1) λ m v' hv=>?_)
   ·obtain ⟨t,rfl⟩:=hk 0 v rfl
    exact ⟨t,rfl⟩
   ·obtain ⟨t,rfl⟩:=hk (m+1) v' (by simpa using hv)
    exact ⟨t,by first | rfl | (congr 1<;>omega) | (simp;omega)⟩
 have hl':acc.toList.length=(j - i).toNat:=by simpa using hn
 have:=hv acc.toList 0 λ m v hiv=>by
  obtain ⟨t,rfl⟩:=hat m v (by simpa using hiv)
  exact ⟨t,by first | rfl | (congr 1<;>omega) | (simp;omega)⟩
 rw [hl'] at this;unfold Qz;rw [range_eq_range'];exact this
noncomputable def Yq (ma mb:Ev):Ev:=λ ρ A=>(ma ρ A).bind λ x A1=>(mb ρ A1).bind λ y A2=>match x,y with
 | .int i,.int j=>if jN i&&(jN j&&decide ((j - i).toNat<=zY)) then .ok (.ref A2.length) (A2++[.lst ((List.range (j - i).toNat).map λ (k:Nat)=>W.int (i+k))]) else .bad
 | _,_=>.bad
end
noncomputable def Wm (_ j:Int):Bool:=decide (0<j)&&decide (j<1152921504606846976)
noncomputable def PO (i j:Int):Prop:=0<j/\j<1152921504606846976
theorem IC (i j:Int)(h:Wm i j=true):PO i j:=by
 unfold Wm at h;rw [and_eq_true] at h;exact ⟨of_decide_eq_true h.1,of_decide_eq_true h.2⟩
theorem He :qI X (binaryOp .FloorDiv) (rI PO λ i j=>.int (i / j)):=WY λ i j _ _ _ _ _ hc q=>by
 have h1:(0:Int)<j:=hc.1;have h2:j<1152921504606846976:=hc.2;refine floordiv_int (by omega) (by rw [Int.fdiv_eq_ediv_of_nonneg i (by omega)];exact q) (.inl (PyProof.noPylong_of_log2 ?_))
 have h0:j.natAbs≠0:=by omega
 have:j.natAbs.log2<60:=(Nat.log2_lt h0).mpr (by omega)
 omega
noncomputable def gZ:=ZI Wm λ i j=>.int (i / j)
noncomputable def wR (RF:Nat->List W->Hx->R W):Fn:=λ us A=>match us with
 | [.clo k ws _]=>RF k ws A
 | _=>.bad
theorem K0 {RF:Nat->List W->Hx->R W}(PG:jv)(us:List W)(A:Hx):wR RF us A=.bad∨wV PG RF (us.map (Wv PG)) A=wR RF us A:=by
 cases us with
 | nil=>exact .inl rfl
 | cons u us=>
  cases us with
  | cons v us=>cases u<;>exact .inl rfl
  | nil=>
   cases u with
   | clo k ws P=>
    refine .inr ?_;show wV PG RF [.clo k ws (PG k)] A=RF k ws A;unfold wV;dsimp only;rw [if_pos rfl]
   | _=>exact .inl rfl
noncomputable def Ww (e:Expr):Expr:=match e with
 | .Compare l _ _ _=>l
 | _=>Z9
open Classical in
open Classical in
noncomputable def BI (K:Frag)(n:Nat)(t:ZJ):TG:=λ v σ H Q=>∃a xs,v=.ref a/\qZ K H a xs/\xs.length=n/\t xs σ H Q
section
variable {m:Ev}
theorem DE {es:List Expr}{k:Nat}{t:ZJ}(hc:X.calm=true)(h:Y1 X es t)
  (hn:(assignEach es X.env).length=n:=by rfl)(hst:(assignEach es X.env).findIdx? (·.1)=none:=by rfl):PG X (.Tuple es k pos) (BI X.K n t):=by
 intro pins s σ H v u Q I r hw;obtain ⟨a,xs,e1,hq,hl,hw⟩:=hw;subst e1;cases r;obtain ⟨its,rv,pl,hz⟩:=I.list hq;rw [assign_Tuple];refine qa0 (wpAny_standAt ?_);unfold unpack;have hsz:(assignEach es X.env).length=its.toArray.size:=by simp [hn,<- hl,rv.length]
 rw [hsz,hst];refine qa0 (wpAny_holding (PySem.W.kun_itemsOf (I.ok.hd hc) pl.isList λ h' hx=>?_));have I1:Inv X pins σ H { s with heap:=h' }:=I.kept (t':=s.toks) λ b o e=>hx b o (ne_of_lt (lt_size e)) e
 exact h pins _ σ H xs _ Q I1 (by simpa using rv) hw
noncomputable def YL (i j k:Nat)(m:Ev):Ex:=λ ρ A=>(m ρ A).bind λ w A1=>match w with
 | .ref n=>match A1[n]? with
  | some (.lst [x,y,z])=>.ok (.nx (((ρ.set i (some x)).set j (some y)).set k (some z))) A1
  | _=>.bad
 | _=>.bad
theorem E3 {k:Nat}{x y z:W}(h:m ρ A=.ok (.ref n) A1)(hn:A1[n]? =some (.lst [x,y,z])):YL i j k m ρ A=.ok (.nx (((ρ.set i (some x)).set j (some y)).set k (some z))) A1:=by
 unfold YL;rw [h,zL];dsimp only;rw [hn]
variable {K:Frag}
noncomputable def RA (K:Frag):R2:=λ x y H Q=>∃φ A u v d ds,zJ K φ A H/\RV K φ H u x/\RV K φ H v y/\qd A 8 u=some d/\qd A 8 v=some (.list ds)/\Q (.bl (!(ds.any λ z=>PyData.eqv z d))) H
theorem LR (hu:X.A.units+64<cLine):qI X (compareOp .NotIn) (RA X.K):=by
 intro pins s σ H x y v u Q I rx ry h;obtain ⟨φ,A,w1,w2,d,ds,S,q1,q2,e1,e2,q⟩:=h;obtain ⟨as,h1⟩:=ZX I S 8 w1 x v d q1 rx e1;obtain ⟨bs,h2⟩:=ZX I S 8 w2 y u _ q2 ry e2;obtain ⟨g1,g2⟩:=J9 8 w1 d e1;obtain ⟨g3,g4⟩:=SY e2;exact SeqAt.notIn_list_reads h2 h1 g3 g1 (by omega) ⟨.bl _,H,I,rfl,q⟩
noncomputable def gh:W->W->Hx->R W:=λ x y A=>match qd A 8 x,qd A 8 y with
 | some d,some (.list ds)=>.ok (.bl (!(ds.any λ z=>PyData.eqv z d))) A
 | _,_=>.bad
theorem Lc:∀x y A,qE (gh x y A):=λ x y A=>by
 unfold gh
 split
 ·exact jS
 ·exact qU
theorem MK:j9 K (RA K) gh:=λ φ A H x y u v Q S q1 q2 p=>by
 unfold gh at p;cases e1:qd A 8 u with
 | none=>rw [e1] at p;exact p.elim
 | some d=>
  cases e2:qd A 8 v with
  | none=>rw [e1,e2] at p;exact p.elim
  | some d2=>
   rw [e1,e2] at p;cases d2 with
   | list ds=>exact ⟨φ,A,u,v,d,ds,S,q1,q2,e1,e2,p φ H _ .refl S rfl⟩
   | _=>exact p.elim
theorem Iq {k:Nat}(hr:jm k X.A):Wz X .NotIn gh:=⟨_,LR hr.units,Lc,MK⟩
end
open PySem PySem.Spec PyProof.Rows L2 Mi
@[irreducible] noncomputable def Vv (X:Cx)(xr:XR)(es:List Expr)(ms:List Ev):Prop:=Mi.SJ X xr es ms
theorem Cz:@Vv=@Mi.SJ:=by
 funext X xr es ms
 unfold Vv
 rfl
section
theorem yw:@zA=@Mi.SE/\@wI=@Mi.SA/\@yr=@Mi.ST/\@gC=@Mi.SW/\@yS=@Mi.SS/\@kA=@Mi.WS/\@kK=@Mi.SI/\@wb=@Mi.SG/\@Qe=@Mi.SF/\@gD=@Mi.SQ/\@g8=@Mi.YZ/\@gF=@Mi.SM/\@Vv=@Mi.SJ:=⟨XO,R0,RU,RS,RO,Ri,Pa,RX,RQ,Pj,RK,Pd,Cz⟩
theorem wj {g:Heap}{es:List Expr}{k:Nat}{f:Fn}(xo:gy X g xr)(F:jg X.prog X.w X.K X.mg X.base k x n f)(hr:jm k X.A)(ha:wI X xr (e::es) mr)(hl:Za mr n:=by repeat' (first | exact zD | refine zp ?_))(hg:Gl X x:=by rfl)
  (hdb:(x==("__debug__" : Str))=false:=by decide)(he:starEach (e::es) X.env=(false,eval e X.env)::starEach es X.env:=by rfl)(hpl:(backTo pos (starEach es X.env)).any (·.1)=false:=by rfl):
  zA X xr (.Call (.Name x p) (e::es) [] pos) (zF f mr):=by
 (try simp only [yw] at *)
 obtain ⟨fa,fd,ps,F,hm,hk,hb⟩:=F;refine PE.imp (Rm F hr hg hm hk hb .nil xo.passes ha hdb he hpl) λ σ H Q ⟨φ,A,ρ,S,re,h⟩=>?_;have h':=zU.mp h;refine ⟨φ,A,ρ,S,re,?_⟩;cases er:mr ρ A with
 | ok ws A1=>
  rw [er] at h';intro φ1 H1 vs l1 S1 q1;have hv:vs.length=n:=by rw [<- q1.length];exact hl ρ A ws A1 er
  rw [append_nil];refine ⟨hv,φ1,A1,ws,S1,q1,qj h' (λ _ _ z=>z.mono l1) λ y A2 z φ2 H2 l2 S2 Ca hC=>?_⟩;exact ⟨y,Ca,rfl,hC,z φ2 H2 (l1.trans l2) S2⟩
 | exc y A1=>rw [er] at h';exact h'
 | bad=>rw [er] at h';exact h'
theorem Xe {m:Ev}(h:yr X.nox j8 e m):yr X xr e λ ρ A=>(m ρ A).nox:=by
 (try simp only [yw] at *)
 refine PT.imp (PT.nox h) λ σ H Q ⟨φ,A,ρ,S,re,q⟩=>⟨φ,A,ρ,S,re,?_⟩;cases er:m ρ A with
 | ok w A1=>(try dsimp only at q);rw [er] at q;exact q
 | exc y A1=>(try dsimp only at q);rw [er] at q;exact q.elim
 | bad=>(try dsimp only at q);rw [er] at q;exact q.elim
theorem Sz {m1:Ex}{sts:List Stmt}(h:kA X.nox j8 sts m1):kA X xr sts λ ρ A=>(m1 ρ A).nox:=by
 (try simp only [yw] at *)
 refine yq.imp (yq.nox h) λ D σ H ⟨φ,A,ρ,S,re,q⟩=>⟨φ,A,ρ,S,re,?_⟩;cases er:m1 ρ A with
 | ok w A1=>(try dsimp only at q);rw [er] at q;exact q
 | exc y A1=>(try dsimp only at q);rw [er] at q;exact q.elim
 | bad=>(try dsimp only at q);rw [er] at q;exact q.elim
theorem GU {g:Heap}{es:List Expr}{top:Str}{np:Pos}(xo:gy X g xr)(c:G8 X.K top x)(ha:wI X xr (e::es) mr)(hl:Za mr n:=by repeat' (first | exact zD | refine zp ?_))(hn:n<=sizeLine:=by decide)(hg:Gl X x:=by rfl)(hcalm:X.calm=true:=by rfl)
  (hdb:(x==("__debug__" : Str))=false:=by decide)(he:starEach (e::es) X.env=(false,eval e X.env)::starEach es X.env:=by rfl)(hpl:(backTo cpos (starEach es X.env)).any (·.1)=false:=by rfl):
  yS X xr (.Raise (some (.Call (.Name x np) (e::es) [] cpos)) none pos) (Ys x mr):=by
 (try simp only [yw] at *)
 exact IX xo c.at_ c.exc PySem.F.excBase_ValueError ha hl hn hg hcalm hdb he hpl
theorem YE {K:Frag}{st:Stmt}{k:Nat}{m:Ex}(F:wg K x x st f fd)(hm:mg x=some (.ref f))(S:qP N ps (qi st))
  (hb:∀(kV doc pm:Value) (an:Option Addr) (cdv ct:Value) (us:List Value),us.length=ps.length->bindArgs (fnOf x x (ZZ st) (yC st) (qi st) .none kV doc pm an cdv ct) ⟨us,[]⟩=pure (ps.zip us))
  (hbody:∀(cdv:Value) (A:Around) (outer:List Env) (s:Shared) (H:Hp) (E:XK),jm k (A.deeper (envOfC x (qi st) s.heap.objs.size f cdv))->
   gy (wF (wW P w) P w K mg base N x (qi st) f cdv A outer s H E) s.heap (gH K E)->kA (wF (wW P w) P w K mg base N x (qi st) f cdv A outer s H E) (gH K E) (yC st) m):
  jg P w K mg base (k+1) x ps.length (wU N.length m):=by
 (try simp only [yw] at *)
 refine ⟨f,fd,ps,?_,hm,F.kp,F.binds hb⟩;obtain ⟨oc,od,kV,doc,pm,an,cdv,ct,osl,rfl,lk,hcd⟩:=F.ex;refine X1 lk hcd S (λ vs H Q E h=>h.len) λ A outer s H vs Q E hr ⟨hl,φ,A1,ws,Sm,r,h⟩=>⟨_,hbody cdv A outer s H E hr AV,?_⟩;refine ⟨φ,A1,ws.map some++List.replicate (N.length - ws.length) none,Sm,RE.start r,?_⟩;have h':=zU.mp h;show R.post _ (FB K φ H _) _;cases er:m (ws.map some++List.replicate (N.length - ws.length) none) A1 with
 | ok fl A2=>
  rw [er] at h';cases fl with
  | rt w=>exact h'
  | nx ρ=>exact λ φ' H' σ' l S' _=>h' φ' H' .non l S' rfl
  | bk ρ=>exact h'.elim
  | ct ρ=>exact h'.elim
 | exc y A2=>rw [er] at h';exact h'
 | bad=>rw [er] at h';exact h'.elim
theorem E1 {L:Addr}{l:Nat}{n:Str}{y:Str}{xD:Str}{cs:List Str}{PG:Nat->Obj->Addr->Obj->List V->Prop}{lam:Nat->Fn}{bmD:List Value}{newD:String}{np:Pos}{cp:Pos}{ep:Pos}{dp:Pos}{yp:Pos}{np2:Pos}{ap:Pos}{hp:Pos}(hL:∀k,gY X.prog X.w X.K X.mg X.base kk (PG k) (lam k))(hr:jm kk X.A)(hst:X.stack=X.env::X.outer)(hFr:X.env.frame=some L)(hD:yF X.K xD (.ref D))(exD:Mi.gA X.K D bmD newD=true)(hbD:bmD.contains (.type "BaseException")=true)
  (hcs:∀c,cs.contains c=true->∀C,yF X.K c (.ref C)->∃bmC newC,Mi.gA X.K C bmC newC=true/\QJ X.K C D=true)
  (hN:X.N.Nodup)(hi:X.N[i]? =some x)(hx:X.env.scope.names.lookup x=some .local)(hl:X.N[l]? =some n)(hn:X.env.scope.names.lookup n=some .local)(hj:X.N[j]? =some y)(hy:X.env.scope.names.lookup y=some .local)
  (hg:Gl X xD)(hs1:swapsWith (.Call (.Name x np) [] [] cp) none ep.line X.env=pure false:=by rfl)(hs2:swapsWith (.Name n np2) (some (.Name y yp)) ap.line X.env=pure false:=by rfl)
  (hdx:(x==("__debug__" : Str))=false:=by decide)(hdn:(n==("__debug__" : Str))=false:=by decide)(hdD:(xD==("__debug__" : Str))=false:=by decide):
  yS X xr (.Try [.Expr (.Call (.Name x np) [] [] cp) ep] [.ExceptHandler (some (.Name xD dp)) (some n) [.Assign [.Name y yp] (.Name n np2) ap] hp] [] [] pos) (YR i j l cs PG lam):=by
 (try simp only [yw] at *)
 intro pins s σ H D0 I ⟨φ,A,ρ,S,re,h⟩;unfold YR WC at h;cases ei:ρ[i]? with
 | none=>rw [ei] at h;exact h.elim
 | some ow=>
  cases ow with
  | none=>rw [ei] at h;exact h.elim
  | some w=>
   rw [ei] at h;cases w with
   | clo k ws P=>
    dsimp only at h
    by_cases hP:P=PG k
    ·rw [if_pos hP] at h
     subst hP;obtain ⟨v,hv,a,ob,u,c,oc,uc,vs,rfl,h1,h2,hp',rvs⟩:=re.get i _ ei;obtain ⟨⟨fd0,hfd⟩,fd,F,hb⟩:=hL k a ob u c oc uc vs hp';have ho:s.heap.get? a=some ob:=(show qQ X.prog X.w H s.heap a (.frz ob u) from I.hok a _ h1).1
     refine Cp (i:=l) (L:=L) (k:=AE X.K φ H ρ j l D0)
      I hst hFr hD exD hbD hN hl (.inl hn) ?body ?suite hg hdD (.inr hn)
     case body=>
      refine wpAny_execs_cons (wpAny_Expr_any ?_ I.quiet hs1);obtain ⟨m,hns,hloc⟩:=I.loc;obtain ⟨u',r',lk⟩:=hloc i x (.ref a) hi hv (.inl hx);obtain rfl:u'=Value.ref a:=r';have hm:m x=some (.ref a):=by
       rcases lk with ⟨_,e⟩ | ⟨q | q,_⟩
       ·exact e
       ·rw [show X.env.kindOf x=some .local from hx] at q;cases q
       ·rw [show X.env.kindOf x=some .local from hx] at q;cases q
      refine wpAny_Call_Name_kw (wpAny_Name (wpAny_loadName_local I.ok.kind hx hns hm ?_) hdx);have hK:Frag.In [(a,ob)] s.heap:=λ b o e=>by
       rw [lookup_cons] at e
       by_cases hb:b=a
       ·subst hb;simp at e;subst e;exact ho
       ·have:(b==a)=false:=by simpa using hb
        rw [this] at e;cases e
      have hkp:keepIn [(a,ob)] (.ref a)=true:=by
       unfold keepIn;obtain ⟨o1,o2,o3,o4⟩:=ob;cases (show o3=_ from hfd)
       simp [lookup_cons]
      refine PySem.W.callWith_K0 (K:=[(a,ob)]) (first:=[]) hK hkp ?_;refine wpAny_call (codeAny_mono (F.run X.A X.stack s H ⟨[],[]⟩ [] [] (λ _ H1=>D0.nx σ H1)
       (Ao X.K φ H ρ j l D0 cs)
       hr I.env0 (hb s) .nil ⟨rfl,h1,h2,φ,A,ws,S,rvs,?_⟩) λ r s' hq=>?_)
      ·cases er:lam k ws A with
       | ok w1 A1=>
        rw [er] at h;exact λ φ' H' v' l' S' _=>h φ' H' σ l' S' (re.mono l')
       | exc xn A1=>
        rw [er] at h;dsimp only at h
        by_cases hc:cs.contains xn=true
        ·rw [if_pos hc] at h
         exact λ φ' H' l' S' Ca hCa=>⟨xn,Ca,rfl,hCa,hc,φ',A1,l',S',h⟩
        ·rw [if_neg hc] at h;exact h.elim
       | bad=>rw [er] at h;exact h.elim
      ·cases r with
       | error e=>
        unfold CR at hq;dsimp only at hq;have un:∀b o,s.heap.get? b=some o->∃o',s'.heap.get? b=some o':=by
         obtain ⟨_,_,_,_,_,_,un,_⟩:=hq;exact λ b o e=>un.there b o e (by simp)
        obtain ⟨ea,C,H',rfl,I',ly,tr,xn,Ca,ec,hCa,hc,φ1,A1,l1,S1,hn1⟩:=Tn I hq s.heap λ b o e=>⟨o,e⟩;cases ec;obtain ⟨bmC,newC,exC,up⟩:=hcs xn hc C hCa;exact ⟨ea,C,H',bmC,newC,rfl,I',ly,tr,un,exC,up,λ oe hoe nea=>⟨xn,φ1,A1,l1.trans (Le.new nea),S1.lay nea,⟨ea,oe,.own 0,C,rfl,jo,hoe,hCa⟩,hn1⟩⟩
       | ok fl=>
        cases fl with
        | ret u1=>
         obtain ⟨v1,H1,I1,_,q1⟩:=I.after hq;exact wpAny_execs_nil ⟨rfl,σ,H1,I1,q1⟩
        | next=>exact False.elim hq
        | brk=>exact False.elim hq
        | cont=>exact False.elim hq
     case suite=>
      rintro ea C H2 s2 I2 ⟨xn,φ',A',l',S',rx,hn'⟩ E'
      refine Mp (i:=l) (j:=j) I2 hN hl hj hn (.inl hy) (λ s' I'=>?_) hs2 (.inr hy) hdn;exact ⟨_,H2,I',hn' φ' H2 _ l' S' ((((re.mono l').set rx).set rx).unset)⟩
    ·rw [if_neg hP] at h;exact h.elim
   | _=>exact h.elim
theorem kE {m:Ev}{p':Pos}{f:Str->Option Bool}{C:Addr}(hx:YD X.K f (.ref C))(hc:yF X.K x (.ref C))(hm:X.mg "isinstance" = none)(ha:zA X xr e m)(hg:Gl X "isinstance" := by rfl)(hg':Gl X x:=by rfl)(hd:(x==("__debug__" : Str))=false:=by decide)
  (h1:starEach [e,.Name x p'] X.env=(false,eval e X.env)::starEach [.Name x p'] X.env:=by rfl)(h2:(backTo pos (starEach [.Name x p'] X.env)).any (·.1)=false:=by rfl):
  zA X xr (.Call (.Name "isinstance" p) [e,.Name x p'] [] pos) (qV f m):=by
 (try simp only [yw] at *)
 have hp:PE X (.Name x p') (tC (.ref C)):=λ pins s σ H Q I h=>Jo I hg' (mg_of I.mod.kin I.mod.glob hc) ⟨.ref C,H,I,rfl,h⟩ hd;exact PE.imp (ZY (SH (cv:=.ref C) hx λ u r=>r) hg hm (by rfl) (jj ha (jj hp jW) h1) (by decide) (by decide) h1 h2) (qV.read λ σ H Q h=>h)
theorem HG {m:Ev}{p':Pos}{f:Str->Option Bool}{T:String}(hx:YD X.K f (.type T))(hm:X.mg "isinstance" = none)(hm':X.mg x=none)(hb:bootBuiltins x=some (.type T))(ha:zA X xr e m)(hg:Gl X "isinstance" := by rfl)(hg':Gl X x:=by rfl)(hn:x ≠ "__name__" := by decide)(hd:(x==("__debug__" : Str))=false:=by decide)
  (h1:starEach [e,.Name x p'] X.env=(false,eval e X.env)::starEach [.Name x p'] X.env:=by rfl)(h2:(backTo pos (starEach [.Name x p'] X.env)).any (·.1)=false:=by rfl):
  zA X xr (.Call (.Name "isinstance" p) [e,.Name x p'] [] pos) (qV f m):=by
 (try simp only [yw] at *)
 exact PE.imp (ZY (SH (cv:=.ty T) hx λ u r=>r) hg hm (by rfl) (jj ha (jj (Wc hg' hm' hb (v:=.ty T) rfl hn hd) jW) h1) (by decide) (by decide) h1 h2) (qV.read λ σ H Q h=>h)
theorem Qm {k:Nat}{q:Str}{t:Lm}(ht:ls[k]? =some t)(L:Wn X.N X.env.scope t=true)(hB:BMain X.mg X.base)(hcode:X.env.code=.ref c)(C:CodeHd X.base c Pt)(hq:X.env.qual ++ "<lambda>" = q)(hdef:defaultsOf t.params X.env=([],[])):
  zA X xr (.Lambda t.params t.body t.scope pos) (j6 n q Pt k (yT X.env q ls k)):=by
 (try simp only [yw] at *)
 intro pins s σ H Q I h;rw [C3 ht] at h;exact CH hB hcode C (Tc λ y hy e=>I.ok.has _ ((Rv L).free y hy e)) hq hdef pins s σ H Q I h
theorem HJ {nl:Nat}{q:Str}{f:Str}{RF:Nat->List W->Hx->R W}{p2:Pos}{p3:Pos}{p4:Pos}(hfn:∀x,X.fn x=true)(hl:∀t∈ls,kI X.prog X.w X.K X.mg j q t)(hix:∀t∈ls,ZE X t)
  (hR:∀base PG,(∀k,gY X.prog X.w X.K X.mg base (j+1) (PG k) (jQ ls k))->zN X.prog X.w X.K X.mg base kk f 1 (wV PG RF))(hr:jm kk X.A)(hc:X.calm=true)(S:gk X sc)(hcap:Zt X.N N sc nl []=true)(hw:kK X xr (.Name x p4) iter mi)
  (hgt:∀s H fp,wb (jc X N sc s H fp jC) (.Name x p4) tw)(hi:N[i]? =some x)(hv:JR (relabel sc X.env) x)(hg:∀s H fp,Gl (jc X N sc s H fp jC) f)(hdx:(x==("__debug__" : Str))=false:=by decide)(hcx:(x==("__classdict__" : Str))=false:=by decide)(hdf:(f==("__debug__" : Str))=false:=by decide)
  (he:∀env:Env,starEach [.Name x p2] env=(false,eval (.Name x p2) env)::starEach [] env:=by intro _;rfl)(hpl:∀env:Env,(backTo p3 (starEach [] env)).any (·.1)=false:=by intro _;rfl)
  (hs:∀x,foldedSetIterable iter X.env x=pure x:=by intro _;rfl):
  zA X xr (.ListComp (.Call (.Name f p) [.Name x p2] [] p3) [⟨.Name x p4,iter,[],0⟩] sc pos) (ql (JB nl mi tw i (yT X.env q ls) ls RF)):=by
 (try simp only [yw] at *)
 intro pins s σ H Q I h;obtain ⟨φ,A,ρ,Sm,re,h⟩:=ql.read σ H Q h;rw [eval_ListComp];refine Xu (use:=none) (N:=N) (nl:=nl) (cap:=[]) (wi:=tI X.K xr mi) (g:=tG X.K tw) (ti:=tT X.K j8 (zi (.bl true))) (tm:=Vu (λ φ H=>RE X.K φ H ρ σ) X.K (zM (ZG i (yT X.env q ls) ls RF ρ))) hc S hcap (λ g' z=>by cases z) hw
  (λ s3 H3 fp I3 f3=>⟨hgt s3 H3 fp,Mi.Ro,Ej (λ _ _ z=>z) (EN I3 f3 hfn hl hix hR hr hi hv (hg s3 H3 fp) hdx hcx hdf (he _) (hpl _)) rfl⟩) I (Q:=Q) ?T (λ D C s' H' m I' q hn h1 h2 h3 h4 h5=>?_) hs
 case T=>
  refine ⟨φ,A,ρ,Sm,re,qj (zU.mp h) (λ jt A1 h1 φ1 H1 J l1 S1 jr D hD hK=>?_) λ _ _ z=>z⟩;have ln:Le X.K φ1 H1 φ1 (upd H1 D (.lst [])):=Le.new hD;have h1':=zU.mp h1;refine qC.readG (λ φ H φ' H' l g=>RE.monoW g l) (re.mono (l1.trans ln)) (jr.mono ⟨ln.ex,ln.tp,ln.fz⟩) (S1.lay hD) ((re.mono (l1.trans ln)).gz) jo (S1.notin hD hK) .nil ?_ (f:=jt.len) (acc:=[]);cases er:qC jt tw (zi (.bl true)) (zM (ZG i (yT X.env q ls) ls RF ρ)) jt.len 0 (Zs nl [] ρ) [] A1 with
  | ok p A2=>
   rw [er] at h1';intro φ2 H2 σ2 zs l2 n2 S2 re2 d2 r2;have l02:=l1.trans (Le.ofD hD l2);exact h1' φ2 H2 D zs l02 S2 (l1.st D hD) d2 n2 r2
  | exc x A2=>rw [er] at h1';exact h1'.elim
  | bad=>rw [er] at h1';exact h1'.elim
 ·exact ⟨m,hn,λ h' sb=>⟨.ref D,H',I'.turned (t':=s'.toks) (λ b o hb e=>(sb.2 b hb).trans e) h1 h2 (.inr h3) h4 h5,rfl,q⟩⟩
theorem Au {K:Frag}{q:Str}{st:Stmt}{k:Nat}{m:jv->Ex}(F:wg K x x st f fd)(hn:nsIn K mainGlobals x=some (some (.ref f)))(ht:tabIn K x=some (c,Pt))(S:qP N ps (qi st))
  (hbody:∀(A:Around) (outer:List Env) (s:Shared) (H:Hp) (E:XK),jm k (A.deeper (envOfC x (qi st) s.heap.objs.size f (.ref c)))->
   kA (wF wY P w K mg base N x (qi st) f (.ref c) A outer s H E).nox j8 (yC st) (m (yT (envOfC x (qi st) s.heap.objs.size f (.ref c)) q ls))):
  yy P w K mg base wY (k+1) f fd ps (spT K ps.length λ PF=>qN N.length (m PF)):=by
 (try simp only [yw] at *)
 obtain ⟨oc,od,kV,doc,pm,an,cdv,ct,osl,rfl,lk,hcd⟩:=F.ex;have hcv:cdv=.ref c:=HF hn lk ht;subst hcv;refine X1 lk hcd S (λ vs H Q E h=>h.len) λ A outer s H vs Q E hr ⟨hl,φ,A1,ws,Sm,r,h⟩=>⟨_,yq.nox (hbody A outer s H E hr),?_⟩;refine ⟨φ,A1,ws.map some++List.replicate (N.length - ws.length) none,Sm,RE.start r,?_⟩;have h':=zU.mp (h (yT (envOfC x (qi st) s.heap.objs.size f (.ref c)) q ls));show R.post _ (FB K φ H _) _;cases er:m (yT (envOfC x (qi st) s.heap.objs.size f (.ref c)) q ls) (ws.map some++List.replicate (N.length - ws.length) none) A1 with
 | ok fl A2=>
  rw [er] at h';cases fl with
  | rt w=>exact h'
  | nx ρ=>exact λ φ' H' σ' l S' _=>h' φ' H' .non l S' rfl
  | bk ρ=>exact h'.elim
  | ct ρ=>exact h'.elim
 | exc y A2=>rw [er] at h';exact h'.elim
 | bad=>rw [er] at h';exact h'.elim
theorem EZ {m:Ev}{p1:Pos}{p2:Pos}{pt:Pos}{x1:Str}{x2:Str}{kt:Nat}(t t2:Ty)(hm:X.mg "isinstance" = none)(hm1:X.mg x1=none)(hm2:X.mg x2=none)(hx1:bootBuiltins x1=some (.type t.nm))(hx2:bootBuiltins x2=some (.type t2.nm))(ha:zA X xr e m)(hg:Gl X "isinstance" := by rfl)(hg1:Gl X x1:=by rfl)(hg2:Gl X x2:=by rfl)
  (hn1:x1 ≠ "__name__" := by decide)(hd1:(x1==("__debug__" : Str))=false:=by decide)(hn2:x2 ≠ "__name__" := by decide)(hd2:(x2==("__debug__" : Str))=false:=by decide)
  (h0:starEach [.Name x1 p1,.Name x2 p2] X.env=(false,eval (.Name x1 p1) X.env)::starEach [.Name x2 p2] X.env:=by rfl)(h00:starEach [.Name x2 p2] X.env=(false,eval (.Name x2 p2) X.env)::starEach [] X.env:=by rfl)
  (h1:starEach [e,.Tuple [.Name x1 p1,.Name x2 p2] kt pt] X.env=(false,eval e X.env)::starEach [.Tuple [.Name x1 p1,.Name x2 p2] kt pt] X.env:=by rfl)(h2:(backTo pos (starEach [.Tuple [.Name x1 p1,.Name x2 p2] kt pt] X.env)).any (·.1)=false:=by rfl):
  zA X xr (.Call (.Name "isinstance" p) [e,.Tuple [.Name x1 p1,.Name x2 p2] kt pt] [] pos) (Wx t t2 m):=by
 (try simp only [yw] at *)
 exact PE.imp (ZY Fq hg hm (by rfl) (jj ha (jj (Pb (jj (Wc hg1 hm1 hx1 (v:=.ty t.nm) rfl hn1 hd1) (jj (Wc hg2 hm2 hx2 (v:=.ty t2.nm) rfl hn2 hd2) jW h00) h0)) jW) h1) (by decide) (by decide) h1 h2) λ σ H Q ⟨φ,A,ρ,S,re,h⟩=>by
   refine tM.go S re (zU.mp h) λ w A1 φ1 H1 v h1 l1 S1 q1=>?_;cases et:jz w A1 with
   | none=>rw [et] at h1;exact h1.elim
   | some t'=>
    rw [et] at h1;refine ⟨by show 2<=sizeLine;decide,λ l hl=>⟨v,t',l,rfl,qv.of jo,?_,h1 φ1 _ _ (l1.trans (Le.new hl)) (S1.lay hl) rfl⟩⟩
    exact Sw (S1.lay hl) (q1.mono (Le.new hl)) et
theorem Rx {m:Ev}(he:zA X xr e m)(hg:wb X tg tw)(hs:swapsWithSole [tg] e pos.line X.env=pure false:=by rfl)(hw:swappedStores [tg] e X.env=pure none:=by rfl)(h1:(assignEach [tg] X.env).map (·.2)=[assign tg X.env]:=by rfl):yS X xr (.Assign [tg] e pos) (Qb m tw):=by
 (try simp only [yw] at *)
 exact PS.imp (XM he hg hs hw h1) λ D σ H ⟨φ,A,ρ,S,re,h⟩=>by
   refine tM.go S re (zU.mp h) λ w A1 φ1 H1 v h1 l1 S1 q1=>?_;cases et:tw w ρ with
   | none=>rw [et] at h1;exact h1.elim
   | some ρ'=>
    rw [et] at h1;exact ⟨φ1,A1,ρ,w,ρ',S1,re.mono l1,q1,et,λ σ' re'=>h1 φ1 H1 σ' l1 S1 re'⟩
end
section
theorem KD {q:Str}{es:List Expr}{f0:Fn}{fG:jv->Fn}(hfn:∀x,X.fn x=true)(hl:∀t∈ls,kI X.prog X.w X.K X.mg j q t)(hix:∀t∈ls,ZE X t)
  (hR:∀base PG,(∀k,gY X.prog X.w X.K X.mg base (j+1) (PG k) (jQ ls k))->zN X.prog X.w X.K X.mg base kk x n (fG PG))(hF:∀PG us A,f0 us A=.bad∨fG PG (us.map (Wv PG)) A=f0 us A)(hr:jm kk X.A)
  (ha:wI X j8 (e::es) mr)(hn:Za mr n:=by repeat' (first | exact zD | refine zp ?_))(hg:Gl X x:=by rfl)(hdb:(x==("__debug__" : Str))=false:=by decide)
  (he:starEach (e::es) X.env=(false,eval e X.env)::starEach es X.env:=by rfl)(hpl:(backTo pos (starEach es X.env)).any (·.1)=false:=by rfl):
  zA X j8 (.Call (.Name x p) (e::es) [] pos) (wN ls (yT X.env q ls) f0 mr):=by
 (try simp only [yw] at *)
 intro pins s σ H Q I ⟨φ,A,ρ,S,re,h⟩;obtain ⟨fa,fd,ps,F,hm,hk,hb⟩:=hR _ _ (Sg I hfn hl hix).2;refine wpAny_Call_Name_kw (Jo I hg hm ?_ hdb);have h':=zU.mp h;refine callWith_K (h₀:=X.base) I.ok.mod.kin hk (zP (ha pos pins s σ H (λ vs H1=>∃φ1 A1 ws us,Le X.K φ H φ1 H1/\zJ X.K φ1 A1 H1/\zE X.K φ1 H1 ws vs/\ws.length=n/\gW ls (yT X.env q ls) ρ ws=some us/\(f0 us A1).post (PB X.K φ1 H1 Q) (EB X.K φ1 H1 j8)) I ⟨φ,A,ρ,S,re,?_⟩) λ us s1 ⟨vs,H1,I1,r1,φ1,A1,ws,us',l1,S1,rv,hwn,hc,hp⟩=>⟨I1.kIn,?_⟩) he hpl
 ·cases er:mr ρ A with
  | ok ws A1=>
   rw [er] at h';intro φ1 H1 vs l1 S1 q1;have h':(match gW ls (yT X.env q ls) ρ ws with | some us=>f0 us A1 | none=>.bad).post (PB X.K φ H Q) (EB X.K φ H j8):=h'
   cases ec:gW ls (yT X.env q ls) ρ ws with
   | none=>rw [ec] at h';exact h'.elim
   | some us=>
    rw [ec] at h';refine ⟨φ1,A1,ws,us,l1,S1,q1,hn ρ A ws A1 er,ec,qj h' (λ _ _ z=>z.mono l1) λ y A2 z=>z.mono l1⟩
  | exc y A1=>rw [er] at h';exact h'
  | bad=>rw [er] at h';exact h'
 ·obtain ⟨e0,hL⟩:=Sg (q:=q) I1 hfn hl hix
  obtain ⟨fa',fd',ps',F',hm',hk',hb'⟩:=hR _ _ hL;rw [hm] at hm';cases hm';have hsp:JP X.K n (fG (ZF X.env q ls σ)) vs H1 Q E0:=by
   refine ⟨by rw [<- rv.length];exact hwn,φ1,A1,us'.map (Wv (ZF X.env q ls σ)),S1,U8 (re.mono l1) hc rv,?_⟩
   rcases hF (ZF X.env q ls σ) us' A1 with z | z
   ·rw [z] at hp;exact hp.elim
   ·rw [z]
    exact qj hp (λ _ _ z=>z) λ y A2 z φ2 H2 l2 S2=>(z φ2 H2 l2 S2).elim
  have hln:=F'.len _ _ _ _ hsp;have hu:us.length=ps'.length:=by rw [<- r1.length];exact hln
  refine wpAny_call (codeAny_mono (F'.run X.A X.stack s1 H1 ⟨[]++us,[]⟩ us vs Q E0 hr e0 ?_ r1 hsp) λ r s2 hq=>?_)
  ·have:=hb' s1 us I1.kIn (by rw [append_nil];exact hu)
   rw [append_nil] at this;exact this
  ·cases r with
   | error e=>exact False.elim hq
   | ok fl=>
    cases fl with
    | ret u1=>exact I1.after hq
    | next=>exact False.elim hq
    | brk=>exact False.elim hq
    | cont=>exact False.elim hq
end
theorem LM {a:Expr}{b:Expr}{ma:Ev}{mb:Ev}{k:Nat}(hr:jm k X.A)(ho:zA X xr a ma)(he:zA X xr b mb)(hs:starEach [b] X.env=(false,eval b X.env)::starEach [] X.env:=by rfl)
  (hbase:attributeBase a "index" X.env (eval a X.env)=eval a X.env:=by rfl)
  (hfew:((backTo cpos (starEach [b] X.env)).all (λ x=>!x.1)&&(backToKw cpos (keywordEach [] X.env)).all (λ x=>x.1.isSome)
   && decide ([b].length+([]:List Keyword).length+(if ([]:List Keyword).isEmpty then 0 else 1)<30))=true:=by rfl)(hline:(apos.endLine==cpos.line)=true:=by rfl):
  zA X xr (.Call (.Attribute a "index" apos) [b] [] cpos) (jO gT ma mb):=by
 (try simp only [yw] at *)
 exact X0 PySem.F.slot_list_index PySem.F.type_list_index (Ie hr.units) IB (λ φ A H x y u v Q S q1 q2 p=>by
   unfold gT at p;cases e1:qd A 8 u with
   | none=>rw [e1] at p;exact p.elim
   | some d1=>
    cases e2:qd A 8 v with
    | none=>
     rw [e1,e2] at p;cases d1<;>exact p.elim
    | some d=>
     rw [e1,e2] at p;cases d1 with
     | list ds=>
      dsimp only at p;cases e3:gX (λ z=>PyData.eqv z d) ds with
      | none=>rw [e3] at p;exact p.elim
      | some j=>
       rw [e3] at p;dsimp only at p
       by_cases hj:j<1000000
       ·rw [if_pos hj] at p
        exact ⟨φ,A,u,v,y,d,ds,j,rfl,S,q1,q2,e1,e2,e3,hj,p φ H _ .refl S rfl⟩
       ·rw [if_neg hj] at p;exact p.elim
     | _=>exact p.elim) ho he hs hbase hfew hline
theorem Mc {m:Ev}{p' pos':Pos}(hc:X.calm=true)(hm:X.mg "sorted" = none)(hm':X.mg "set" = none)(ha:zA X xr e m)(hg:Gl X "sorted" := by rfl)(hg':Gl X "set" := by rfl)(hs:starEach [e] X.env=(false,eval e X.env)::starEach [] X.env:=by rfl)
  (hs':starEach [.Call (.Name "set" p') [e] [] pos'] X.env=(false,eval (.Call (.Name "set" p') [e] [] pos') X.env)::starEach [] X.env:=by rfl):
  zA X xr (.Call (.Name "sorted" p) [.Call (.Name "set" p') [e] [] pos'] [] pos) (KJ m):=by
 (try simp only [yw] at *)
 exact PE.imp (ZY (NQ hc) hg hm (by rfl) (jj (Q7 (Lp hc) hg' hm' (by rfl) (jj ha jW hs) (by decide) (by decide) hs (by rfl)) jW hs') (by decide) (by decide) hs' (by rfl)) λ σ H Q ⟨φ,A,ρ,S,re,h⟩=>by
   refine tM.go S re (zU.mp h) λ w A1 φ1 H1 v h1 l1 S1 q1=>?_;cases w with
   | ref n=>
    unfold G6 at h1;dsimp only at h1;cases en:A1[n]? with
    | none=>rw [en] at h1;exact h1.elim
    | some u=>cases u with
     | lst ws=>
      rw [en] at h1;dsimp only at h1;obtain ⟨pl,ys,rfl,eφ,eH,rr⟩:=S1.lst q1 en;cases ei:intsOf ws with
      | none=>rw [ei] at h1;exact h1.elim
      | some is=>
       rw [ei] at h1;dsimp only at h1;have ew:=G3 ei;subst ew;have ev:=zE.ints.mp rr;subst ev;cases e2:Z5 is with
       | none=>rw [e2] at h1;exact h1.elim
       | some vs=>
        rw [e2] at h1;dsimp only at h1;obtain ⟨e3,h8⟩:=T7 e2;have eH':H1 pl=some (.lst (vs.map λ (v:Nat)=>V.int (v:Int))):=by rw [eH,e3,map_map];rfl
        refine ⟨pl,vs,rfl,qZ.of eH',h8,λ l hl=>⟨l,vs.foldl yo 0,rfl,jo,λ l2 hl2=>?_⟩⟩;have ln:Le X.K φ1 H1 φ1 (upd H1 l (.ext λ h=>yn h l (jH X.w) (vs.foldl yo 0))):=Le.new hl;have S2:=S1.lay (u:=.ext λ h=>yn h l (jH X.w) (vs.foldl yo 0)) hl;have rr2:∀(ψ:List Addr) (G:Hp),zE X.K ψ G (((List.range 8).filter λ i=>decide (i∈vs)).map λ (i:Nat)=>W.int (i:Int)) ((qb (vs.foldl yo 0)).map λ (v:Nat)=>V.int (v:Int)):=λ ψ G=>by
         rw [La];have e4:∀l:List Nat,zE X.K ψ G (l.map λ (i:Nat)=>W.int (i:Int)) (l.map λ (v:Nat)=>V.int (v:Int)):=λ l=>by
          induction l with
          | nil=>rfl
          | cons i l ih=>exact ⟨_,_,rfl,rfl,ih⟩
         exact e4 _
        obtain ⟨l3,S3⟩:=S2.alloc (o:=.lst (((List.range 8).filter λ i=>decide (i∈vs)).map λ (i:Nat)=>W.int (i:Int))) hl2 (u:=.lst ((qb (vs.foldl yo 0)).map λ (v:Nat)=>V.int (v:Int))) ⟨_,jo,rr2 _ _⟩;exact h1 _ _ _ (l1.trans (ln.trans l3)) S3 ⟨l2,rfl,by rw [<- S1.len];simp⟩
     | _=>rw [en] at h1;exact h1.elim
   | _=>exact h1.elim
theorem Iu {a:Expr}{b:Expr}{ma:Ev}{mb:Ev}(hc:X.calm=true)(hm:X.mg "sum" = none)(ha:zA X xr a ma)(hb:zA X xr b mb)(hgl:Gl X "sum" := by rfl)(h1:starEach [a,b] X.env=(false,eval a X.env)::starEach [b] X.env:=by rfl)
  (h2:starEach [b] X.env=(false,eval b X.env)::starEach [] X.env:=by rfl)(hpl:(backTo pos (starEach [b] X.env)).any (·.1)=false:=by rfl):
  zA X xr (.Call (.Name "sum" p) [a,b] [] pos) (zo Zr ma mb):=by
 (try simp only [yw] at *)
 exact XZ (Lh hc) Df Ho hm (by rfl) ha hb hgl (by decide) (by decide) h1 h2 hpl
theorem MP {a:Expr}{b:Expr}{ma:Ev}{mb:Ev}{p' pos':Pos}(hc:X.calm=true)(hm:X.mg "list" = none)(hm':X.mg "range" = none)(ha:zA X xr a ma)(hb:zA X xr b mb)(hg:Gl X "list" := by rfl)(hg':Gl X "range" := by rfl)(hs:starEach [a,b] X.env=[(false,eval a X.env),(false,eval b X.env)]:=by rfl)(hs2:starEach [b] X.env=[(false,eval b X.env)]:=by rfl)
  (hs':starEach [.Call (.Name "range" p') [a,b] [] pos'] X.env=(false,eval (.Call (.Name "range" p') [a,b] [] pos') X.env)::starEach [] X.env:=by rfl):
  zA X xr (.Call (.Name "list" p) [.Call (.Name "range" p') [a,b] [] pos'] [] pos) (Yq ma mb):=by
 (try simp only [yw] at *)
 exact PE.imp (Q7 (Mj hc) hg hm (by rfl) (jj (HZ hg' hm' (jj ha (jj hb jW (by rw [hs2];rfl)) (by rw [hs,hs2])) hs hs2) jW hs') (by decide) (by decide) hs' (by rfl)) λ σ H Q ⟨φ,A,ρ,S,re,h⟩=>by
   refine tM.go S re (zU.mp h) λ w A1 φ1 H1 v h1 l1 S1 q1=>?_;refine tM.go S1 (re.mono l1) (qj (zU.mp h1) (λ _ _ z=>z) λ _ _ z=>z.mono l1) λ w2 A2 φ2 H2 v2 h2 l2 S2 q2=>?_;cases w with
   | int i=>
    obtain rfl:=q1;cases w2 with
    | int j=>
     obtain rfl:=q2;dsimp only at h2
     by_cases hj:(jN i&&(jN j&&decide ((j - i).toNat<=zY)))=true
     ·rw [if_pos hj] at h2
      rw [and_eq_true,and_eq_true,decide_eq_true_iff] at hj;refine ⟨i,j,rfl,λ p hp=>⟨p,i,j,rfl,jo,Q5 hj.1,Q5 hj.2.1,Zk hj.2.2,λ l hl=>?_⟩⟩;have ln:Le X.K φ2 H2 φ2 (upd H2 p (.rng i j)):=Le.new hp;have rr:zE X.K φ2 (upd H2 p (.rng i j)) ((List.range (j - i).toNat).map λ (k:Nat)=>W.int (i+k)) (Qz i (j - i).toNat):=by
       have:=(zE.ints (K:=X.K) (φ:=φ2) (H:=upd H2 p (.rng i j)) (ns:=(List.range (j - i).toNat).map λ (k:Nat)=>(i+(k:Int))) (vs:=Qz i (j - i).toNat)).mpr (by unfold Qz;simp)
       rw [map_map] at this;exact this
      obtain ⟨b1,b2,b3⟩:=Qs (S2.lay hp) hl rr;exact h2 _ _ _ (((l1.trans l2).trans ln).trans b1) b2 b3
     ·rw [if_neg hj] at h2;exact h2.elim
    | _=>exact h2.elim
   | _=>exact h2.elim
theorem Jc {a b:Expr}{ma mb:Ev}(ha:zA X xr a ma)(hb:zA X xr b mb):zA X xr (.BinOp a .FloorDiv b pos) (zo gZ ma mb):=by
 (try simp only [yw] at *)
 exact Qv He X4 (XJ IC λ _ _ _ _=>rfl) ha hb
theorem FT {m:Ev}(i j k:Nat){y z:Str}{q r pp:Pos}(hc:X.calm=true)(hN:X.N.Nodup)(he:zA X xr e m)(hi:X.N[i]? =some x:=by rfl)(hx:Loc X.env.scope x:=by first | exact Or.inl rfl | exact Or.inr rfl)(hf:X.fn x=true∨X.env.scope.names.lookup x=some .local:=by first | exact .inl rfl | exact .inr rfl)
  (hj:X.N[j]? =some y:=by rfl)(hy:Loc X.env.scope y:=by first | exact Or.inl rfl | exact Or.inr rfl)(hg:X.fn y=true∨X.env.scope.names.lookup y=some .local:=by first | exact .inl rfl | exact .inr rfl)
  (hk:X.N[k]? =some z:=by rfl)(hz:Loc X.env.scope z:=by first | exact Or.inl rfl | exact Or.inr rfl)(hh:X.fn z=true∨X.env.scope.names.lookup z=some .local:=by first | exact .inl rfl | exact .inr rfl)
  (hs:swapsWithSole [.Tuple [.Name x p,.Name y q,.Name z r] n pp] e pos.line X.env=pure false:=by rfl)(hw:swappedStores [.Tuple [.Name x p,.Name y q,.Name z r] n pp] e X.env=pure none:=by rfl)
  (h1:(assignEach [.Tuple [.Name x p,.Name y q,.Name z r] n pp] X.env).map (·.2)=[assign (.Tuple [.Name x p,.Name y q,.Name z r] n pp) X.env]:=by rfl):
  yS X xr (.Assign [.Tuple [.Name x p,.Name y q,.Name z r] n pp] e pos) (YL i j k m):=by
 (try simp only [yw] at *)
 exact PS.imp (XM he (DE hc (Zm (Zp hN hi hx hf) (Zm (Zp hN hj hy hg) (Zm (Zp hN hk hz hh) K7)))) hs hw h1) λ D σ H ⟨φ,A,ρ,S,re,h⟩=>by
   refine tM.go S re (zU.mp h) λ w A1 φ1 H1 v h1 l1 S1 q1=>?_;cases w with
   | ref n=>
    dsimp only at h1;cases e1:A1[n]? with
    | none=>rw [e1] at h1;exact h1.elim
    | some o=>
     rw [e1] at h1
     split at h1
     ·rename_i o' a b c eo
      cases eo;obtain ⟨l,xs,rfl,f1,g1,r1⟩:=S1.lst q1 e1;obtain ⟨v1,r',rfl,h1',v2,r2,rfl,h2',v3,r3,rfl,h3',rfl⟩:=r1;exact ⟨l,[v1,v2,v3],rfl,.of g1,rfl,v1,[v2,v3],rfl,v2,[v3],rfl,v3,[],rfl,rfl,h1 φ1 H1 _ l1 S1 ((((re.mono l1).set h1').set h2').set h3')⟩
     ·exact h1.elim
   | _=>exact h1.elim
end Mi
namespace Mi
open PySem PySem.Spec PyProof.Rows L2
theorem zN.up {K:Frag}{k:Nat}{f:Fn}(F:zN P w K mg base j x n f)(h:j<=k:=by decide):zN P w K mg base k x n f:=F.mono h
theorem jg.up {K:Frag}{k:Nat}{f:Fn}(F:jg P w K mg base j x n f)(h:j<=k:=by decide):jg P w K mg base k x n f:=F.mono h
section
variable {C:List Value->Prop}
theorem yt (h:∀a,C [a]):∀us:List Value,us.length=1->C us
 | [a],_=>h a
theorem ZH (h:∀a b,C [a,b]):∀us:List Value,us.length=2->C us
 | [a,b],_=>h a b
theorem Vt (h:∀a b c,C [a,b,c]):∀us:List Value,us.length=3->C us
 | [a,b,c],_=>h a b c
theorem bd4 (h:∀a b c d,C [a,b,c,d]):∀us:List Value,us.length=4->C us
 | [a,b,c,d],_=>h a b c d
end
theorem qF {l:List Str}(h:decide l.Nodup=true):l.Nodup:=of_decide_eq_true h
noncomputable def Oe (N P:List Str)(sc:Scope):Bool:=decide (sc.kind=.function)&&(!sc.isCoroutine&&(!sc.isGenerator&&(decide N.Nodup&&(decide (N.take P.length=P)&&(P.all (λ x=>decide (sc.names.lookup x=some .local) || decide (sc.names.lookup x=some .cell))&&sc.names.all λ y=>!decide (y.2=.free))))))
theorem jn {P:List Str}(h:Oe N P sc=true):qP N P sc:=by
 unfold Oe at h;simp only [and_eq_true,decide_eq_true_iff,Bool.not_eq_true',all_eq_true,or_eq_true,decide_eq_false_iff_not] at h;obtain ⟨h1,h2,h3,h4,h5,h6,h7⟩:=h;exact ⟨h1,h2,h3,h4,h5,h6,λ y hy=>h7 y hy⟩
section
theorem Y0 (h:(ls.all λ t=>Wn X.N X.env.scope t)=true):∀t∈ls,ZE X t:=λ t ht=>Rv (qa4.mp h t ht)
theorem ja {mf:Ev}(nl:Nat)(cap:List Nat)(hw:kK X xr tg iter mi)
  (hin:∀s H fp,wb (jc X N sc s H fp jC) tg tw/\g8 (jc X N sc s H fp jC) ifs mf/\gF (jc X N sc s H fp jC) elt (⟨tg,iter,ifs,0⟩::gs) sc pos 0 em)
  (hc:X.calm=true:=by rfl)(S:gk X sc:=by exact cps (by kernel_rfl))(hcap:Zt X.N N sc nl cap=true:=by kernel_rfl)
  (ha:∀g',gs[0]? =some g'->g'.is_async=0:=by intro _ h;cases h<;>rfl)
  (hs:∀x,foldedSetIterable iter X.env x=pure x:=by intro _;rfl):Qe X xr (.ListComp elt (⟨tg,iter,ifs,0⟩::gs) sc pos) (zV nl cap mi tw mf em):=Ht nl cap hc S hcap hw hin ha hs
theorem qJ {d:Nat}(he:zA X j8 elt me)(hx:∀e s,X.xe e s->False:=by exact λ _ _ z=>z)(hg:gens[d+1]? =none:=by rfl):gF X elt gens sc pos d (zM me):=E7 hx he hg
end
end Mi
namespace G
open PySem L2 Mi
noncomputable def top (i:Nat):Stmt:=PySem.Challenge.pw_nearkinds_k04_numbers_of_steady_tables.main.body.getD i (.Pass ⟨0,0,0,0⟩)
structure Bu (mg:Str->Option Value):Prop where
 NW:mg "ValueError" = none
 XX:mg "abs" = none
 YC:mg "all" = none
 XG:mg "bool" = none
 Q3:mg "enumerate" = none
 JA:mg "int" = none
 jM:mg "isinstance" = none
 kX:mg "len" = none
 Qu:mg "list" = none
 Zu:mg "max" = none
 Pz:mg "min" = none
 ju:mg "range" = none
 BK:mg "set" = none
 Hy:mg "sorted" = none
 Bl:mg "sum" = none
 wq:mg "tuple" = none
 PK:mg "zip" = none
 NB:∃t,mg "MOST_PLACES" = some (.int 8 t)
noncomputable abbrev qD:List Str:=["NoTable", "NoKind", "NotSteady"]
noncomputable abbrev KH:List Str:=["NoTable", "NotSteady", "NoPlace", "NoKind", "NoMix", "NoNumber", "NoLot", "NoKinds", "NoPaper", "NoParting", "NoClosed", "TooMany", "NoText", "NoLine", "NoDeed"]
theorem jE {K:Frag}(R:KH.all (Z6 K qD)=true)(h:KH.contains x=true:=by decide +kernel):Z6 K qD x=true:=qa4.mp R x (List.contains_iff_mem.mp h)
theorem Qk {l:List (Str × NameKind)}(h:(l.all λ y=>!(y.2==.cell))=true):∀y∈l,y.2≠.cell:=λ y hy e=>by
 have q:=qa4.mp h y hy;rw [e] at q;cases q
theorem yE {m:Ev}(h:zA X xr e m):SE X xr e m:=by rw [XO] at h;exact h
noncomputable abbrev U3:Stmt:=top 1
theorem N6:qP ["thing"] ["thing"] (qi U3):=jn (by kernel_rfl)
noncomputable def Tb:Ex:=zq (qc (yL (ka .int (zc 0)) (yK (ka .bl (zc 0))))) (zy)
noncomputable abbrev VT:Stmt:=top 2
theorem OI:qP ["thing", "limit"] ["thing", "limit"] (qi VT):=jn (by kernel_rfl)
noncomputable def VR (GQ:Fn):Ex:=zq (qc (yL (zF GQ (zh (zc 0) (zm))) (yO gB QS (zi (.int 0)) (zc 0) (zc 1)))) (zy)
noncomputable abbrev UU:Stmt:=top 3
theorem NM:qP ["thing", "many"] ["thing", "many"] (qi UU):=jn (by kernel_rfl)
noncomputable def GP (GQ:Fn):Ex:=zq (qc (yL (ka .tup (zc 0)) (yL (zo jL (mQ jb (qm (zc 0))) (zc 1)) (mQ QM (zV 1 [] (qz (zc 0)) (zK 0) (zi (.bl true)) (zM (zF GQ (zh (zc 0) (zm))))))))) (zy)
noncomputable abbrev VO:Stmt:=top 4
theorem OC:qP ["thing", "many", "limit"] ["thing", "many", "limit"] (qi VO):=jn (by kernel_rfl)
noncomputable def W9 (Me:Fn):Ex:=zq (qc (yL (zF Me (zh (zc 0) (zh (zc 1) (zm)))) (mQ QM (zV 1 [2] (qz (zc 0)) (zK 0) (zi (.bl true)) (zM (yO gB QS (zi (.int 0)) (zc 0) (zc 1))))))) (zy)
noncomputable abbrev U4:Stmt:=top 24
theorem UX:qP ["thing", "many"] ["thing"] (qi U4):=jn (by kernel_rfl)
noncomputable def KA (LD:Fn)(OF:Fn)(Oy:Fn):Ex:=zq (qw (Zf (yK (ka .tup (zc 0))) (yK (yO gB gB (zi (.int 1)) (mQ jb (qm (zc 0))) (zi (.int 8))))) (zq (qc (zi (.bl false))) (zy)) (zy)) (zq (zZ 1 (mQ jb (qm (zc 0)))) (zq (qw (yK (mQ QM (zV 1 [1] (qz (zc 0)) (zK 0) (zi (.bl true)) (zM (zF OF (zh (zc 0) (zh (zc 1) (zh (zc 1) (zm))))))))) (zq (qc (zi (.bl false))) (zy)) (zy)) (zq (qc (yL (zF LD (zh (zc 0) (zm))) (zF Oy (zh (zc 0) (zm))))) (zy))))
noncomputable abbrev T3:Stmt:=top 25
theorem GS:qP ["rows", "a", "row", "b", "kind"] ["rows"] (qi T3):=jn (by kernel_rfl)
noncomputable def TV:Ex:=zq (jT (ko (zc 0)) (jG 1 2) (zq (jT (ko (zc 2)) (jG 3 4) (zq (qw (Zf (zo qK (zo jL (zc 4) (zi (.int 0))) (zo jL (zc 1) (zc 3))) (zo qK (zo zC (zo zC (zc 0) (zc 3)) (zc 1)) (zc 4))) (zq (qc (zi (.bl false))) (zy)) (zy)) (zy))) (zy))) (zq (qc (zi (.bl true))) (zy))
noncomputable abbrev VL:Stmt:=top 26
theorem VI:qP ["rows", "standing"] ["rows"] (qi VL):=jn (by kernel_rfl)
noncomputable def VJ:Ex:=zq (zZ 1 (ql (zV 2 [] (qz (zc 0)) (zK 0) (zi (.bl true)) (JH (qz (zc 0)) (zK 1) (zi (.bl true)) (zM (zc 1)))))) (zq (qc (mQ QM (zV 1 [1] (qR (mQ j7 (qm (zc 1)))) (zK 0) (zi (.bl true)) (zM (zo WT (zc 0) (zc 1)))))) (zy))
noncomputable abbrev V1:Stmt:=top 27
theorem OM:qP ["table"] ["table"] (qi V1):=jn (by kernel_rfl)
noncomputable def Gi (MU:Fn):Ex:=zq (qw ((λ ρ A=>((yK (zF MU (zh (zc 0) (zm)))) ρ A).nox)) (zq (Ys "NoTable" (zh (zi (.str "this is no table")) (zm))) (zy)) (zy)) (zy)
noncomputable abbrev Uq:Stmt:=top 28
theorem O7:qP ["table"] ["table"] (qi Uq):=jn (by kernel_rfl)
noncomputable def Ul:Ex:=zq (qc (zo je (mQ j7 (zV 1 [] (qz (zc 0)) (zK 0) (zi (.bl true)) (zM (mQ j7 (qm (zc 0)))))) (zi (.int 1)))) (zy)
noncomputable abbrev Ub:Stmt:=top 29
theorem OY:qP ["table", "kind"] ["table", "kind"] (qi Ub):=jn (by kernel_rfl)
noncomputable def Gu (Qh:Fn)(OK:Fn):Ex:=zq (qw ((λ ρ A=>((yK (zF OK (zh (zc 1) (zh (zF Qh (zh (zc 0) (zm))) (zm))))) ρ A).nox)) (zq (Ys "NoKind" (zh (zi (.str "the table has no such kind")) (zm))) (zy)) (zy)) (zy)
noncomputable abbrev V8:Stmt:=top 30
theorem Kb:qP ["table", "one", "other", "many", "counts", "i", "j"] ["table", "one", "other"] (qi V8):=jn (by kernel_rfl)
noncomputable def V6 (Qh:Fn):Ex:=zq (zZ 3 (zF Qh (zh (zc 0) (zm)))) (zq (zZ 4 (ql (zV 1 [3] (qR (zc 3)) (zK 0) (zi (.bl true)) (zM (zo qO (zS (zh (zi (.int 0)) (zm))) (zc 1)))))) (zq (jT (QH (zo zC (zc 0) (zc 1)) (zo zC (zc 0) (zc 2))) (jG 5 6) (zq (QD (zo zC (zc 4) (zc 5)) (zc 6) (zi (.int 1))) (zy))) (zq (qc (mQ yQ (zV 1 [] (qz (zc 4)) (zK 0) (zi (.bl true)) (zM (mQ yQ (qm (zc 0))))))) (zy))))
noncomputable abbrev UB:Stmt:=top 31
theorem Kg:qP ["table", "firsts", "a", "row", "b", "kind"] ["table"] (qi UB):=jn (by kernel_rfl)
noncomputable def Uz:Ex:=zq (zZ 1 (YU)) (zq (jT (ko (zc 0)) (jG 2 3) (zq (jT (ko (zc 3)) (jG 4 5) (zq (jI (Jq Zn (zc 1) (zc 5) (zB (zh (zc 2) (zh (zc 4) (zm)))))) (zy))) (zy))) (zq (qc (zc 1)) (zy)))
noncomputable abbrev Uk:Stmt:=top 32
theorem Gv:qP ["table", "firsts", "pairs"] ["table"] (qi Uk):=jn (by kernel_rfl)
noncomputable def Uj (Qh:Fn)(Kc:Fn)(Gx:Fn):Ex:=zq (zZ 1 (zF Gx (zh (zc 0) (zm)))) (zq (zZ 2 (ql (zV 1 [1] (qR (zF Qh (zh (zc 0) (zm)))) (zK 0) (zi (.bl true)) (zM (zo Wu (zc 1) (zc 0)))))) (zq (qc (ql (zV 2 [0] (qz (zc 2)) (jG 0 1) (zi (.bl true)) (zM (zF Kc (zh (zc 2) (zh (zc 0) (zh (zc 1) (zm))))))))) (zy)))
noncomputable abbrev Ue:Stmt:=top 33
theorem JY:qP ["table", "kind", "a", "b", "shares", "c", "row", "e", "by"] ["table"] (qi Ue):=jn (by kernel_rfl)
noncomputable def Uc (Kc:Fn)(Gx:Fn):Ex:=zq (jT (Yw (zF Gx (zh (zc 0) (zm)))) (Wk 1 2 3) (zq (zZ 4 (zF Kc (zh (zc 0) (zh (zc 2) (zh (zc 3) (zm)))))) (zq (jT (ko (zc 0)) (jG 5 6) (zq (jT (ko (zc 6)) (jG 7 8) (zq (qw (yL (zo jL (zc 8) (zc 1)) (zo qK (zF Kc (zh (zc 0) (zh (zc 5) (zh (zc 7) (zm))))) (zc 4))) (zq (qc (zB (zh (zc 2) (zh (zc 3) (zh (zc 5) (zh (zc 7) (zm))))))) (zy)) (zy)) (zy))) (zy))) (zy)))) (zq (qc (zi .non)) (zy))
noncomputable abbrev VZ:Stmt:=top 34
theorem OD:qP ["table"] ["table"] (qi VZ):=jn (by kernel_rfl)
noncomputable def Y8 (O9:Fn)(OO:Fn):Ex:=zq (jI (zF OO (zh (zc 0) (zm)))) (zq (qw ((λ ρ A=>((zo (Y2 true) (zF O9 (zh (zc 0) (zm))) (zi .non)) ρ A).nox)) (zq (Ys "NotSteady" (zh (zi (.str "the table is not steady")) (zm))) (zy)) (zy)) (zy))
noncomputable abbrev S8:Stmt:=top 36
theorem Lj:qP ["table", "i", "j", "k"] ["table", "i", "j", "k"] (qi S8):=jn (by kernel_rfl)
noncomputable def Qn (Nu:Fn)(Gh:Fn)(Gb:Fn):Ex:=zq (jI (zF Gb (zh (zc 0) (zm)))) (zq (jI (zF Gh (zh (zc 0) (zh (zc 1) (zm))))) (zq (jI (zF Gh (zh (zc 0) (zh (zc 2) (zm))))) (zq (jI (zF Gh (zh (zc 0) (zh (zc 3) (zm))))) ((λ ρ A=>((zq (qc (zo zC (zo zC (zo zC (zF Nu (zh (zc 0) (zm))) (zc 3)) (zc 1)) (zc 2))) (zy)) ρ A).nox)))))
noncomputable abbrev UC:Stmt:=top 37
theorem O2:qP ["table"] ["table"] (qi UC):=jn (by kernel_rfl)
noncomputable def Ut (Qh:Fn):Ex:=zq (qc (ql (zV 1 [0] (qR (zF Qh (zh (zc 0) (zm)))) (zK 0) (zi (.bl true)) (zM (Qy Z3 (zo zC (zc 1) (zi (.int 0))) (zc 0)))))) (zy)
noncomputable abbrev Rf:Stmt:=top 38
theorem Hz:qP ["table"] ["table"] (qi Rf):=jn (by kernel_rfl)
noncomputable def K9 (Nz:Fn)(Gb:Fn):Ex:=zq (jI (zF Gb (zh (zc 0) (zm)))) ((λ ρ A=>((zq (qc (zF Nz (zh (zc 0) (zm)))) (zy)) ρ A).nox))
noncomputable abbrev Ud:Stmt:=top 40
theorem OV:qP ["_law_script", "_law_k"] ["_law_script", "_law_k"] (qi Ud):=jn (by kernel_rfl)
noncomputable def Gr:Ex:=zq (qw (zo QS (zc 1) (mQ jb (qm (zc 0)))) (zq (qc (zo zC (zc 0) (zc 1))) (zy)) (zy)) (zq (qc (zi (.int 0))) (zy))
noncomputable abbrev UN:Stmt:=top 41
theorem Up:qP ["_law_script", "_law_k", "_law_cell"] ["_law_script", "_law_k"] (qi UN):=jn (by kernel_rfl)
noncomputable def GD (Ni:Fn):Ex:=zq (zZ 2 (zF Ni (zh (zc 0) (zh (zc 1) (zm))))) (zq (qw (zo Vx (zc 2) (zo Qa (zi (.int 10)) (zi (.int 18)))) (zq (qc (zS (zh (zo Zy (zc 2) (zo Qa (zi (.int 10)) (zi (.int 18)))) (zh (zi (.bl true)) (zm))))) (zy)) (zy)) (zq (qc (zS (zh (zo wA (zc 2) (zi (.int 2147483647))) (zh (zi (.bl false)) (zm))))) (zy)))
noncomputable abbrev U0:Stmt:=top 42
theorem Ks:qP ["_law_state_here", "_law_many", "_law_found", "_law_stirred"] ["_law_state_here", "_law_many"] (qi U0):=jn (by kernel_rfl)
noncomputable def GJ:Ex:=zq (qw (zo zC (zc 0) (zi (.int 1))) (zq (zZ 2 (zo wA (zo zC (zc 0) (zi (.int 0))) (zc 1))) (zq (Jv wD (zo gZ (zo zC (zc 0) (zi (.int 0))) (zc 1)) (zc 0) (zi (.int 0))) (zq (qc (zc 2)) (zy)))) (zy)) (zq (Jv wD (zo wA (zo je (zo qO (zo zC (zc 0) (zi (.int 0))) (zi (.int 48271))) (zi (.int 29))) (zi (.int 2147483647))) (zc 0) (zi (.int 0))) (zq (zZ 3 (zo wA (zo je (zo je (zo qO (zo zC (zc 0) (zi (.int 0))) (zo zC (zc 0) (zi (.int 0)))) (zo qO (zi (.int 39373)) (zo zC (zc 0) (zi (.int 0))))) (zi (.int 7))) (zi (.int 2147483629)))) (zq (zZ 3 (zo wA (zo je (zo qO (zc 3) (zc 3)) (zo qO (zi (.int 16807)) (zc 3))) (zi (.int 2147483587)))) (zq (qc (zo wA (zo gZ (zc 3) (zi (.int 8))) (zc 1))) (zy)))))
noncomputable abbrev VV:Stmt:=top 43
theorem Ga:qP ["_law_state_here", "_law_things", "_law_left", "_law_found"] ["_law_state_here", "_law_things"] (qi VV):=jn (by kernel_rfl)
noncomputable def VU (yM:Fn):Ex:=zq (zZ 2 (ql (qm (zc 1)))) (zq (zZ 3 (zS (zm))) (zq (XI 1000 (zo qK (zc 2) (zS (zm))) (zq (jI (jO yd (zc 3) (jO gR (zc 2) (zF yM (zh (zc 0) (zh (mQ jb (qm (zc 2))) (zm))))))) (zy))) (zq (qc (zc 3)) (zy))))
noncomputable abbrev UK:Stmt:=top 44
theorem UA:qP ["_law_rows", "_law_some"] ["_law_rows"] (qi UK):=jn (by kernel_rfl)
noncomputable def UD:Ex:=zq (zZ 1 (KJ (zo Zr (ql (zV 1 [] (qz (zc 0)) (zK 0) (zi (.bl true)) (zM (ql (qm (zc 0)))))) (zS (zm))))) (zq (qc (mQ yQ (zV 1 [1] (qz (zc 0)) (zK 0) (zi (.bl true)) (zM (mQ yQ (zV 1 [1] (qz (zc 0)) (zK 0) (zi (.bl true)) (zM (jO gT (zc 1) (zc 0))))))))) (zy))
noncomputable abbrev UG:Stmt:=top 45
theorem kN:qP ["_law_state_here", "_law_way", "_law_many", "_law_wide", "_law_high", "_law_some", "_law_ring", "_law_rows", "_law_a", "_law_near", "_law_far"] ["_law_state_here"] (qi UG):=jn (by kernel_rfl)
noncomputable def GF (yM:Fn):Ex:=zq (zZ 1 (zF yM (zh (zc 0) (zh (zi (.int 8)) (zm))))) (zq (zZ 2 (zo zC (zS (zh (zi (.int 8)) (zh (zi (.int 7)) (zh (zi (.int 6)) (zh (zi (.int 5)) (zh (zi (.int 4)) (zh (zi (.int 3)) (zh (zi (.int 2)) (zh (zi (.int 1)) (zm)))))))))) (zF yM (zh (zc 0) (zh (zi (.int 8)) (zm)))))) (zq (qw (zo jL (zc 1) (zi (.int 0))) (zq (qc (ql (zV 1 [2] (qR (zc 2)) (zK 0) (zi (.bl true)) (zM (ql (zV 1 [0,1] (qR (zc 1)) (zK 0) (zi (.bl true)) (zM (zo Wr (jU YF (zo Zy (zc 1) (zc 0))) (zo Zy (zc 2) (jU YF (zo Zy (zc 1) (zc 0)))))))))))) (zy)) (zy)) (zq (qw (zo jL (zc 1) (zi (.int 1))) (zq (zZ 2 (zo zC (zS (zh (zi (.int 8)) (zh (zi (.int 4)) (zh (zi (.int 2)) (zm))))) (zF yM (zh (zc 0) (zh (zi (.int 3)) (zm)))))) (zq (qc (ql (zV 1 [2] (qR (zc 2)) (zK 0) (zi (.bl true)) (zM (ql (zV 1 [0] (qR (zc 1)) (zK 0) (zi (.bl true)) (zM (zo zC (zS (zh (zi (.int 0)) (zh (zi (.int 1)) (zh (zi (.int 1)) (zh (zi (.int 2)) (zh (zi (.int 1)) (zh (zi (.int 2)) (zh (zi (.int 2)) (zh (zi (.int 3)) (zm)))))))))) (zo Vi (zc 1) (zc 0)))))))))) (zy))) (zy)) (zq (qw (zo jL (zc 1) (zi (.int 2))) (zq (qc (ql (zV 1 [2] (qR (zc 2)) (zK 0) (zi (.bl true)) (zM (ql (zV 1 [0] (qR (zc 1)) (zK 0) (zi (.bl true)) (zM (jU QG (zo qK (zc 1) (zc 0)))))))))) (zy)) (zy)) (zq (qw (zo jL (zc 1) (zi (.int 3))) (zq (Qb (zo zC (zS (zh (zB (zh (zi (.int 2)) (zh (zi (.int 4)) (zm)))) (zh (zB (zh (zi (.int 4)) (zh (zi (.int 2)) (zm)))) (zh (zB (zh (zi (.int 2)) (zh (zi (.int 3)) (zm)))) (zh (zB (zh (zi (.int 3)) (zh (zi (.int 2)) (zm)))) (zh (zB (zh (zi (.int 2)) (zh (zi (.int 2)) (zm)))) (zm))))))) (zF yM (zh (zc 0) (zh (zi (.int 5)) (zm))))) (jG 3 4)) (zq (zZ 2 (zo qO (zc 3) (zc 4))) (zq (qc (ql (zV 1 [2,3] (qR (zc 2)) (zK 0) (zi (.bl true)) (zM (ql (zV 1 [0,2] (qR (zc 1)) (zK 0) (zi (.bl true)) (zM (zo je (jU QG (zo qK (zc 1) (zc 0))) (jU QG (zo qK (zo gZ (zc 1) (zc 2)) (zo gZ (zc 0) (zc 2)))))))))))) (zy)))) (zy)) (zq (qw (zo jL (zc 1) (zi (.int 4))) (zq (zZ 5 (zS (zh (zB (zh (zi (.int 0)) (zh (zi (.int 1)) (zm)))) (zh (zB (zh (zi (.int 0)) (zh (zi (.int 2)) (zm)))) (zh (zB (zh (zi (.int 0)) (zh (zi (.int 3)) (zm)))) (zh (zB (zh (zi (.int 1)) (zh (zi (.int 2)) (zm)))) (zh (zB (zh (zi (.int 1)) (zh (zi (.int 3)) (zm)))) (zh (zB (zh (zi (.int 2)) (zh (zi (.int 3)) (zm)))) (zm))))))))) (zq (qc (ql (zV 1 [5] (qz (zc 5)) (zK 0) (zi (.bl true)) (zM (ql (zV 1 [0] (qz (zc 1)) (zK 0) (zi (.bl true)) (zM (zo Zy (zi (.int 2)) (mQ jb (zV 1 [0] (qz (zc 1)) (zK 0) (zo WT (zc 0) (zc 1)) (zM (zc 0)))))))))))) (zy))) (zy)) (zq (qw (zo jL (zc 1) (zi (.int 5))) (zq (zZ 2 (zo zC (zS (zh (zi (.int 4)) (zh (zi (.int 8)) (zh (zi (.int 2)) (zm))))) (zF yM (zh (zc 0) (zh (zi (.int 3)) (zm)))))) (zq (qc (ql (zV 1 [2] (qR (zc 2)) (zK 0) (zi (.bl true)) (zM (ql (zV 1 [0] (qR (zc 1)) (zK 0) (zi (.bl true)) (zM (zo Vi (zc 1) (zc 0))))))))) (zy))) (zy)) (zq (zZ 3 (zo zC (zS (zh (zi (.int 4)) (zh (zi (.int 3)) (zh (zi (.int 2)) (zm))))) (zF yM (zh (zc 0) (zh (zi (.int 3)) (zm)))))) (zq (zZ 6 (zS (zh (zi (.int 0)) (zh (zi (.int 1)) (zh (zo zC (zS (zh (zi (.int 2)) (zh (zi (.int 1)) (zm)))) (jU QG (zo jL (zc 3) (zi (.int 3))))) (zh (zi (.int 1)) (zm))))))) (zq (zZ 7 (zS (zm))) (zq (jT (qR (zo qO (zi (.int 2)) (zc 3))) (zK 8) (zq (zZ 9 (ql (zV 1 [3,6,8] (qR (zo qO (zi (.int 2)) (zc 3))) (zK 0) (zi (.bl true)) (zM (zo zC (zc 2) (zo wA (jU YF (zo Zy (zc 3) (zc 0))) (zc 1))))))) (zq (zZ 10 (ql (zV 1 [3,8] (qR (zo qO (zi (.int 2)) (zc 3))) (zK 0) (zi (.bl true)) (zM (jU QG (zo qK (zo gZ (zc 2) (zc 1)) (zo gZ (zc 0) (zc 1)))))))) (zq (qw (zo jL (zc 1) (zi (.int 6))) (zq (jI (jO yd (zc 7) (ql (zV 1 [9,10] (qR (zo qO (zi (.int 2)) (zc 3))) (zK 0) (zi (.bl true)) (zM (zo je (zo qO (zi (.int 3)) (zo zC (zc 2) (zc 0))) (zo zC (zc 1) (zc 0)))))))) (zy)) (zq (jI (jO yd (zc 7) (ql (zV 1 [9,10] (qR (zo qO (zi (.int 2)) (zc 3))) (zK 0) (zi (.bl true)) (zM (Om (zo jL (zo zC (zc 2) (zc 0)) (zi (.int 1))) (zi (.int 3)) (zo zC (zc 1) (zc 0)))))))) (zy))) (zy))))) (zq (qc (zc 7)) (zy)))))))))))))
noncomputable abbrev UP:Stmt:=top 46
theorem Ki:qP ["_law_state_here", "_law_rows", "_law_order", "_law_kinds_here"] ["_law_state_here"] (qi UP):=jn (by kernel_rfl)
noncomputable def UO (VS:Fn)(NR:Fn)(NH:Fn):Ex:=zq (zZ 1 (zF NR (zh (zF NH (zh (zc 0) (zm))) (zm)))) (zq (zZ 2 (zF VS (zh (zc 0) (zh (Yo (mQ jb (qm (zc 1)))) (zm))))) (zq (zZ 3 (zo je (zS (zh (zi (.int 0)) (zm))) (zF VS (zh (zc 0) (zh (Yq (zi (.int 1)) (zo je (zi (.int 1)) (mQ j7 (zV 1 [] (qz (zc 1)) (zK 0) (zi (.bl true)) (zM (mQ j7 (qm (zc 0)))))))) (zm)))))) (zq (qc (mQ yQ (zV 1 [1,2,3] (qz (zc 2)) (zK 0) (zi (.bl true)) (zM (mQ yQ (zV 1 [0,1,3] (qz (zc 2)) (zK 0) (zi (.bl true)) (zM (zo zC (zc 3) (zo zC (zo zC (zc 2) (zc 1)) (zc 0)))))))))) (zy))))
noncomputable abbrev UM:Stmt:=top 47
theorem Nx:qP ["_law_table"] ["_law_table"] (qi UM):=jn (by kernel_rfl)
noncomputable def UI:Ex:=zq (qc (zo je (zi (.int 1)) (mQ j7 (zV 1 [] (qz (zc 0)) (zK 0) (zi (.bl true)) (zM (mQ j7 (qm (zc 0)))))))) (zy)
noncomputable abbrev Um:Stmt:=top 48
theorem Ke:qP ["_law_table", "_law_a", "_law_b", "_law_many", "_law_found", "_law_c"] ["_law_table", "_law_a", "_law_b"] (qi Um):=jn (by kernel_rfl)
noncomputable def Uh (ZQ:Fn):Ex:=zq (zZ 3 (zF ZQ (zh (zc 0) (zm)))) (zq (zZ 4 (ql (zV 1 [3] (qR (zc 3)) (zK 0) (zi (.bl true)) (zM (zo qO (zS (zh (zi (.int 0)) (zm))) (zc 1)))))) (zq (jT (qR (mQ jb (qm (zc 0)))) (zK 5) (zq (QD (zo zC (zc 4) (zo zC (zo zC (zc 0) (zc 1)) (zc 5))) (zo zC (zo zC (zc 0) (zc 2)) (zc 5)) (zi (.int 1))) (zy))) (zq (qc (mQ yQ (zV 1 [] (qz (zc 4)) (zK 0) (zi (.bl true)) (zM (mQ yQ (qm (zc 0))))))) (zy))))
noncomputable abbrev V4:Stmt:=top 49
theorem JX:qP ["_law_table", "_law_found", "_law_a", "_law_b", "_law_shares_here"] ["_law_table"] (qi V4):=jn (by kernel_rfl)
noncomputable def V3 (ZQ:Fn)(NC:Fn):Ex:=zq (zZ 1 (ql (zV 1 [] (qR (zF ZQ (zh (zc 0) (zm)))) (zK 0) (zi (.bl true)) (zM (zS (zm)))))) (zq (jT (qR (mQ jb (qm (zc 0)))) (zK 2) (zq (jT (qR (mQ jb (qm (zc 0)))) (zK 3) (zq (zZ 4 (zF NC (zh (zc 0) (zh (zc 2) (zh (zc 3) (zm)))))) (zq (qw (zo gh (zc 4) (zo zC (zc 1) (zo zC (zo zC (zc 0) (zc 2)) (zc 3)))) (zq (jI (jO yd (zo zC (zc 1) (zo zC (zo zC (zc 0) (zc 2)) (zc 3))) (zc 4))) (zy)) (zy)) (zy)))) (zy))) (zq (qc (zc 1)) (zy)))
noncomputable abbrev Uw:Stmt:=top 50
theorem O5:qP ["_law_table"] ["_law_table"] (qi Uw):=jn (by kernel_rfl)
noncomputable def Ui (QY:Fn):Ex:=zq (qc (zo jL (mQ j7 (zV 1 [] (qz (zF QY (zh (zc 0) (zm)))) (zK 0) (zi (.bl true)) (zM (mQ jb (qm (zc 0)))))) (zi (.int 1)))) (zy)
noncomputable abbrev V2:Stmt:=top 51
theorem VY:qP ["_law_state_here", "_law_some"] ["_law_state_here"] (qi V2):=jn (by kernel_rfl)
noncomputable def V0 (yM:Fn):Ex:=zq (zZ 1 (zS (zh (zB (zh (zB (zh (zi (.int 0)) (zh (zi (.int 1)) (zh (zi (.int 2)) (zm))))) (zh (zB (zh (zi (.int 1)) (zh (zi (.int 0)) (zh (zi (.int 1)) (zm))))) (zh (zB (zh (zi (.int 2)) (zh (zi (.int 1)) (zh (zi (.int 0)) (zm))))) (zm))))) (zh (zB (zh (zB (zh (zi (.int 0)) (zh (zi (.int 1)) (zh (zi (.int 2)) (zh (zi (.int 2)) (zm)))))) (zh (zB (zh (zi (.int 1)) (zh (zi (.int 0)) (zh (zi (.int 1)) (zh (zi (.int 2)) (zm)))))) (zh (zB (zh (zi (.int 2)) (zh (zi (.int 1)) (zh (zi (.int 0)) (zh (zi (.int 1)) (zm)))))) (zh (zB (zh (zi (.int 2)) (zh (zi (.int 2)) (zh (zi (.int 1)) (zh (zi (.int 0)) (zm)))))) (zm)))))) (zm))))) (zq (jI (jO yd (zc 1) (zB (zh (zB (zh (zi (.int 0)) (zh (zi (.int 1)) (zh (zi (.int 1)) (zh (zi (.int 2)) (zm)))))) (zh (zB (zh (zi (.int 1)) (zh (zi (.int 0)) (zh (zi (.int 2)) (zh (zi (.int 2)) (zm)))))) (zh (zB (zh (zi (.int 1)) (zh (zi (.int 2)) (zh (zi (.int 0)) (zh (zi (.int 2)) (zm)))))) (zh (zB (zh (zi (.int 2)) (zh (zi (.int 2)) (zh (zi (.int 2)) (zh (zi (.int 0)) (zm)))))) (zm)))))))) (zq (qc (zo zC (zc 1) (zF yM (zh (zc 0) (zh (zi (.int 3)) (zm)))))) (zy)))
noncomputable abbrev VW:Stmt:=top 52
theorem JU:qP ["_law_state_here", "_law_some"] ["_law_state_here"] (qi VW):=jn (by kernel_rfl)
noncomputable def VX (yM:Fn):Ex:=zq (zZ 1 (zS (zh (zi .non) (zh (zi (.int 0)) (zh (zB (zm)) (zh (zB (zh (zB (zm)) (zm))) (zh (zB (zh (zB (zh (zi (.int 1)) (zm))) (zm))) (zh (zS (zh (zS (zh (zi (.int 0)) (zm))) (zm))) (zh (zB (zh (zS (zh (zi (.int 0)) (zm))) (zm))) (zh (zB (zh (zB (zh (zi (.int 0)) (zm))) (zh (zB (zh (zi (.int 0)) (zm))) (zm)))) (zh (zB (zh (zB (zh (zi (.int 0)) (zh (zi (.int 1)) (zm)))) (zh (zB (zh (zi (.int 2)) (zh (zi (.int 0)) (zm)))) (zm)))) (zh (zB (zh (zB (zh (zi (.int 0)) (zh (zi (.int 2)) (zm)))) (zh (zB (zh (zi (.int 2)) (zh (zi (.int 0)) (zm)))) (zm)))) (zh (YU) (zm)))))))))))))) (zq (zZ 1 (zo je (zc 1) (zS (zh (zB (zh (zB (zh (zi (.int 0)) (zh (zi (.int 1)) (zm)))) (zh (zB (zh (zi (.int 1)) (zh (zi (.int 1)) (zm)))) (zm)))) (zh (zB (zh (zB (zh (zi (.bl true)) (zm))) (zm))) (zh (zB (zh (zB (zh (zi (.int 0)) (zh (zi (.bl true)) (zm)))) (zh (zB (zh (zi (.bl true)) (zh (zi (.int 0)) (zm)))) (zm)))) (zh (zB (zh (zB (zh (zi (.int 0)) (zh (jU Zv (zi (.int 1))) (zm)))) (zh (zB (zh (jU Zv (zi (.int 1))) (zh (zi (.int 0)) (zm)))) (zm)))) (zh (zB (zh (zB (zh (zi (.int 0)) (zh (zi (.int 1)) (zm)))) (zh (zB (zh (zi (.int 1)) (zh (zi (.int 0)) (zm)))) (zh (zB (zh (zi (.int 1)) (zh (zi (.int 1)) (zm)))) (zm))))) (zm))))))))) (zq (zZ 1 (zo je (zc 1) (zS (zh (zB (zh (zB (zh (zi (.int 0)) (zh (zi (.int 1)) (zh (zi (.int 2)) (zm))))) (zh (zB (zh (zi (.int 1)) (zh (zi (.int 0)) (zh (zi (.int 2)) (zm))))) (zh (zB (zh (zi (.int 2)) (zh (zi (.int 2)) (zh (zi (.int 1)) (zm))))) (zm))))) (zh (zi (.str "0")) (zh (zB (zh (zB (zh (zi (.int 0)) (zh (zi (.int 3)) (zh (zi (.int 3)) (zm))))) (zh (zB (zh (zi (.int 3)) (zh (zi (.int 0)) (zh (zi (.int 1)) (zm))))) (zh (zB (zh (zi (.int 3)) (zh (zi (.int 1)) (zh (zi (.int 0)) (zm))))) (zm))))) (zh (zB (zh (zB (zh (zi (.int 0)) (zm))) (zh (zB (zm)) (zm)))) (zh (zB (zh (zi (.int 0)) (zm))) (zm))))))))) (zq (zZ 1 (zo je (zc 1) (zS (zh (zB (zh (zB (zh (zi .non) (zm))) (zm))) (zh (zB (zh (zB (zh (zi (.int 0)) (zh (zi (.int 0)) (zm)))) (zh (zB (zh (zi (.int 0)) (zh (zi (.int 0)) (zm)))) (zm)))) (zm)))))) (zq (qc (zo zC (zc 1) (zF yM (zh (zc 0) (zh (zi (.int 23)) (zm)))))) (zy)))))
noncomputable abbrev GO:Stmt:=top 53
theorem NS:qP ["_law_found", "_law_due"] ["_law_found", "_law_due"] (qi GO):=jn (by kernel_rfl)
noncomputable def ZR (gJ:Fn):Ex:=zq (qw (Wx .tup .lst (zc 1)) (zq (qw (Zf (zo qK (ka .tup (zc 0)) (ka .tup (zc 1))) (zo qK (ka .lst (zc 0)) (ka .lst (zc 1)))) (zq (qc (zi (.bl false))) (zy)) (zy)) (zq (qw (zo qK (mQ jb (qm (zc 0))) (mQ jb (qm (zc 1)))) (zq (qc (zi (.bl false))) (zy)) (zy)) (zq (qc (mQ QM (zV 2 [] (QH (zc 0) (zc 1)) (jG 0 1) (zi (.bl true)) (zM (zF gJ (zh (zc 0) (zh (zc 1) (zm)))))))) (zy)))) (zy)) (zq (qc (yL (zo jL (zc 0) (zc 1)) (zo jL (ka .bl (zc 0)) (ka .bl (zc 1))))) (zy))
theorem GK {K:Frag}{k:Nat}(T:Bu mg)(F:wg K "_law_same" "_law_same" GO f fd)(hm:mg "_law_same" = some (.ref f)){gJ:Fn}(w8:zN P w K mg base k "_law_same" 2 gJ):zN P w K mg base (k+1) "_law_same" 2 (qN 2 (ZR gJ)):=
 jK F hm NS (λ _ _ _ _ _ _=>ZH λ _ _=>rfl) λ cdv A outer s H E hr=>zx (jB (gi (EZ .tup .lst T.jM T.wq T.Qu (by rfl) (by rfl) (zl 1))) (zx (jB (KP (Xx (j0 (ki hr) (gQ .tup T.jM T.wq (by rfl) (zl 0)) (gQ .tup T.jM T.wq (by rfl) (zl 1))) (Xt (j0 (ki hr) (gQ .lst T.jM T.Qu (by rfl) (zl 0)) (gQ .lst T.jM T.Qu (by rfl) (zl 1)))))) (zx (qk (yj)) (zI)) (zI)) (zx (jB (j0 (ki hr) (kQ T.kX (ym (zl 0))) (kQ T.kX (ym (zl 1)))) (zx (qk (yj)) (zI)) (zI)) (zx (qk (Yh rfl T.YC (km (ja (N:=["_law_one", "_law_other"]) 2 [] (Rn rfl T.PK (zl 0) (zl 1)) (λ _ _ _=>⟨gc 0 1 rfl (qF (by kernel_rfl)),qL,qJ (qt w8 hr (zj (zl 0) (zj (zl 1) (zw))))⟩))))) (zI)))) (zI)) (zx (qk (Qp (gv (kj hr) (zl 0) (zl 1)) (Ji (gv (kj hr) (gQ .bl T.jM T.XG (by rfl) (zl 0)) (gQ .bl T.jM T.XG (by rfl) (zl 1)))))) (zI))
noncomputable abbrev Gp:Stmt:=top 54
theorem ZO:qP ["_law_call", "_law_error", "e", "_law_marks"] ["_law_call"] (qi Gp):=jn (by kernel_rfl)
noncomputable def Gg:Ex:=zq (zZ 3 (zS (zh (qV (jh qD "NoTable") (zc 1)) (zh (qV (jh qD "NotSteady") (zc 1)) (zh (qV (jh qD "NoPlace") (zc 1)) (zm)))))) (zq (zZ 3 (zo je (zc 3) (zS (zh (qV (jh qD "NoKind") (zc 1)) (zh (qV (jh qD "NoMix") (zc 1)) (zh (qV (jh qD "NoNumber") (zc 1)) (zm))))))) (zq (zZ 3 (zo je (zc 3) (zS (zh (qV (jh qD "NoLot") (zc 1)) (zh (qV (jh qD "NoKinds") (zc 1)) (zh (qV (jh qD "NoPaper") (zc 1)) (zm))))))) (zq (zZ 3 (zo je (zc 3) (zS (zh (qV (jh qD "NoParting") (zc 1)) (zh (qV (jh qD "NoClosed") (zc 1)) (zh (qV (jh qD "TooMany") (zc 1)) (zm))))))) (zq (zZ 3 (zo je (zc 3) (zS (zh (qV (jh qD "NoText") (zc 1)) (zh (qV (jh qD "NoLine") (zc 1)) (zh (qV (jh qD "NoDeed") (zc 1)) (zm))))))) (zq (qw (yK (qV (VC qD) (zc 1))) (zq (qc (zi .non)) (zy)) (zy)) (zq (qc (ql (zV 1 [3] (qR (zi (.int 15))) (zK 0) (zo zC (zc 1) (zc 0)) (zM (zc 0))))) (zy)))))))
noncomputable def JZ (PG:jv)(lam:Nat->Fn):Ex:=zq (zZ 1 (zi .non)) (zq (YR 0 1 2 qD PG lam) Gg)
theorem Nf {K:Frag}{k:Nat}(T:Bu mg)(C:wd K qD "NearError")(R:KH.all (Z6 K qD)=true)(F:wg K "_law_refused" "_law_refused" Gp f fd)(hm:mg "_law_refused" = some (.ref f)){PG:jv}{lam:Nat->Fn}(hkk:kk<=k)(hL:∀k,gY P w K mg base kk (PG k) (lam k)):zN P w K mg base (k+1) "_law_refused" 1 (qN 4 (JZ PG lam)):=
 jK F hm ZO (λ _ _ _ _ _ _=>yt λ _=>rfl) λ cdv A outer s H E hr=>zx (qA 1 ZO.nd (Qr)) (zx (E1 hL (hr.mono hkk) rfl rfl C.top_at C.top_exc (by decide +kernel) C.under ZO.nd rfl rfl rfl rfl rfl rfl rfl) (zx (qA 3 ZO.nd (qT (zj (kE (C.isx (jE R)) (kG (jE R)) T.jM (zl 1)) (zj (kE (C.isx (jE R)) (kG (jE R)) T.jM (zl 1)) (zj (kE (C.isx (jE R)) (kG (jE R)) T.jM (zl 1)) (zw)))) (zp (zp (zp zD))))) (zx (qA 3 ZO.nd (yV (zl 3) (qT (zj (kE (C.isx (jE R)) (kG (jE R)) T.jM (zl 1)) (zj (kE (C.isx (jE R)) (kG (jE R)) T.jM (zl 1)) (zj (kE (C.isx (jE R)) (kG (jE R)) T.jM (zl 1)) (zw)))) (zp (zp (zp zD)))))) (zx (qA 3 ZO.nd (yV (zl 3) (qT (zj (kE (C.isx (jE R)) (kG (jE R)) T.jM (zl 1)) (zj (kE (C.isx (jE R)) (kG (jE R)) T.jM (zl 1)) (zj (kE (C.isx (jE R)) (kG (jE R)) T.jM (zl 1)) (zw)))) (zp (zp (zp zD)))))) (zx (qA 3 ZO.nd (yV (zl 3) (qT (zj (kE (C.isx (jE R)) (kG (jE R)) T.jM (zl 1)) (zj (kE (C.isx (jE R)) (kG (jE R)) T.jM (zl 1)) (zj (kE (C.isx (jE R)) (kG (jE R)) T.jM (zl 1)) (zw)))) (zp (zp (zp zD)))))) (zx (qA 3 ZO.nd (yV (zl 3) (qT (zj (kE (C.isx (jE R)) (kG (jE R)) T.jM (zl 1)) (zj (kE (C.isx (jE R)) (kG (jE R)) T.jM (zl 1)) (zj (kE (C.isx (jE R)) (kG (jE R)) T.jM (zl 1)) (zw)))) (zp (zp (zp zD)))))) (zx (jB (Zo (gi (HG C.isv T.jM T.NW (by rfl) (zl 1)))) (zx (qk (Qr)) (zI)) (zI)) (zx (qk (ye (ja (N:=["_law_k", "_law_marks"]) 1 [3] (jA rfl T.ju (zt)) (λ _ _ _=>⟨qx 0 (qF (by kernel_rfl)),SD (gi (qu (zl 1) (zl 0))),qJ (zl 0)⟩)))) (zI)))))))))
noncomputable abbrev gu:Stmt:=top 55
theorem kT:qP ["_law_script", "_law_k", "_law_state_here", "_law_table", "_law_some", "_law_kinds_here", "_law_turn", "_law_i", "_law_j", "_law_kind", "_law_due", "_law_found", "_law_bad", "_law_none", "_law_odd", "_law_calls"] ["_law_script"] (qi gu):=jn (by kernel_rfl)
noncomputable abbrev qy:Str:=(("law" : Str)++(".<locals>." : Str))++("<lambda>" : Str)
noncomputable def Ym (qe:Fn)(qg:Fn):Lm:=k8 (QI (Vn (QF ((yC gu).getD 0 gq) 10)) 0) ["_law_table", "_law_odd"] [3,14] (zF qe (zh (zc 0) (zh (zc 1) (zh (zc 1) (zh (zi (.int 0)) (zm))))))
noncomputable def Yl (qe:Fn)(qg:Fn):Lm:=k8 (QI (Vn (QF ((yC gu).getD 0 gq) 11)) 0) ["_law_table", "_law_odd"] [3,14] (zF qe (zh (zc 0) (zh (zi (.int 0)) (zh (zc 1) (zh (zc 1) (zm))))))
noncomputable def Yk (qe:Fn)(qg:Fn):Lm:=k8 (QI (Vn (QF ((yC gu).getD 0 gq) 12)) 0) ["_law_table", "_law_odd"] [3,14] (zF qe (zh (zc 0) (zh (zi (.int 0)) (zh (zi (.int 0)) (zh (zc 1) (zm))))))
noncomputable def Jk (qe:Fn)(qg:Fn):Lm:=k8 (QI (Ww (WQ (QF ((yC gu).getD 0 gq) 14))) 0) ["_law_none", "_law_odd"] [13,14] (zF qe (zh (zc 0) (zh (zc 1) (zh (zc 1) (zh (zc 1) (zm))))))
noncomputable def Jm (qe:Fn)(qg:Fn):Lm:=k8 (QI (Ww (WQ (QF ((yC gu).getD 0 gq) 15))) 0) ["_law_bad", "_law_odd"] [12,14] (zF qe (zh (zc 0) (zh (zc 1) (zh (zc 1) (zh (zc 1) (zm))))))
noncomputable def Jh (qe:Fn)(qg:Fn):Lm:=k8 (QI (Ww (WQ (QF ((yC gu).getD 0 gq) 16))) 0) ["_law_none"] [13] (zF qg (zh (zc 0) (zm)))
noncomputable def Jg (qe:Fn)(qg:Fn):Lm:=k8 (QI (Ww (WQ (QF ((yC gu).getD 0 gq) 17))) 0) ["_law_bad"] [12] (zF qg (zh (zc 0) (zm)))
noncomputable def yh (qe:Fn)(qg:Fn):List Lm:=[Ym qe qg,Yl qe qg,Yk qe qg,Jk qe qg,Jm qe qg,Jh qe qg,Jg qe qg]
theorem HX {K:Frag}{k:Nat}(T:Bu mg)(yB:∀base,jg P w K mg base k "number" 4 qe)(kh:∀base,jg P w K mg base k "sizes" 1 qg):kI P w K mg k qy (Ym qe qg):=
 ⟨⟨rfl,rfl,rfl,Qk (by kernel_rfl)⟩,λ _ _ _ _=>rfl,λ base cl a c A outer s H E hr xo=>yE (wj xo (yB base) hr (zj (zl 0) (zj (zl 1) (zj (zl 1) (zj (zt) (zw))))))⟩
theorem IU {K:Frag}{k:Nat}(T:Bu mg)(yB:∀base,jg P w K mg base k "number" 4 qe)(kh:∀base,jg P w K mg base k "sizes" 1 qg):kI P w K mg k qy (Yl qe qg):=
 ⟨⟨rfl,rfl,rfl,Qk (by kernel_rfl)⟩,λ _ _ _ _=>rfl,λ base cl a c A outer s H E hr xo=>yE (wj xo (yB base) hr (zj (zl 0) (zj (zt) (zj (zl 1) (zj (zl 1) (zw))))))⟩
theorem II {K:Frag}{k:Nat}(T:Bu mg)(yB:∀base,jg P w K mg base k "number" 4 qe)(kh:∀base,jg P w K mg base k "sizes" 1 qg):kI P w K mg k qy (Yk qe qg):=
 ⟨⟨rfl,rfl,rfl,Qk (by kernel_rfl)⟩,λ _ _ _ _=>rfl,λ base cl a c A outer s H E hr xo=>yE (wj xo (yB base) hr (zj (zl 0) (zj (zt) (zj (zt) (zj (zl 1) (zw))))))⟩
theorem Hh {K:Frag}{k:Nat}(T:Bu mg)(yB:∀base,jg P w K mg base k "number" 4 qe)(kh:∀base,jg P w K mg base k "sizes" 1 qg):kI P w K mg k qy (Jk qe qg):=
 ⟨⟨rfl,rfl,rfl,Qk (by kernel_rfl)⟩,λ _ _ _ _=>rfl,λ base cl a c A outer s H E hr xo=>yE (wj xo (yB base) hr (zj (zl 0) (zj (zl 1) (zj (zl 1) (zj (zl 1) (zw))))))⟩
theorem Hw {K:Frag}{k:Nat}(T:Bu mg)(yB:∀base,jg P w K mg base k "number" 4 qe)(kh:∀base,jg P w K mg base k "sizes" 1 qg):kI P w K mg k qy (Jm qe qg):=
 ⟨⟨rfl,rfl,rfl,Qk (by kernel_rfl)⟩,λ _ _ _ _=>rfl,λ base cl a c A outer s H E hr xo=>yE (wj xo (yB base) hr (zj (zl 0) (zj (zl 1) (zj (zl 1) (zj (zl 1) (zw))))))⟩
theorem IK {K:Frag}{k:Nat}(T:Bu mg)(yB:∀base,jg P w K mg base k "number" 4 qe)(kh:∀base,jg P w K mg base k "sizes" 1 qg):kI P w K mg k qy (Jh qe qg):=
 ⟨⟨rfl,rfl,rfl,Qk (by kernel_rfl)⟩,λ _ _ _ _=>rfl,λ base cl a c A outer s H E hr xo=>yE (wj xo (kh base) hr (zj (zl 0) (zw)))⟩
theorem HP {K:Frag}{k:Nat}(T:Bu mg)(yB:∀base,jg P w K mg base k "number" 4 qe)(kh:∀base,jg P w K mg base k "sizes" 1 qg):kI P w K mg k qy (Jg qe qg):=
 ⟨⟨rfl,rfl,rfl,Qk (by kernel_rfl)⟩,λ _ _ _ _=>rfl,λ base cl a c A outer s H E hr xo=>yE (wj xo (kh base) hr (zj (zl 0) (zw)))⟩
theorem Bs {K:Frag}{k:Nat}(T:Bu mg)(yB:∀base,jg P w K mg base k "number" 4 qe)(kh:∀base,jg P w K mg base k "sizes" 1 qg):∀t∈yh qe qg,kI P w K mg k qy t:=
 all_cons (HX T yB kh) (all_cons (IU T yB kh) (all_cons (II T yB kh) (all_cons (Hh T yB kh) (all_cons (Hw T yB kh) (all_cons (IK T yB kh) (all_cons (HP T yB kh) (all_nil)))))))
noncomputable def X9 (Y7:Fn)(QY:Fn)(ZQ:Fn)(Kl:Fn)(gJ:Fn)(Ko:Fn)(Kj:Fn)(yM:Fn)(Ka:Fn)(KU:Fn)(We:Fn)(qe:Fn)(qg:Fn)(RF:Nat->List W->Hx->R W)(Pt:Addr)(PF:jv):Ex:=zq (jT (qR (zo XS (zi (.int 1)) (zo Wr (mQ jb (qm (zc 0))) (zi (.int 6))))) (zK 1) (zq (zZ 2 (zF Ko (zh (zc 0) (zh (zc 1) (zm))))) (zq (zZ 3 (zF Kl (zh (zc 2) (zm)))) (zq (zZ 4 (zF QY (zh (zc 3) (zm)))) (zq (qw (yK (zF Kj (zh (zc 3) (zm)))) (zq (qc (zi (.bl false))) (zy)) (zy)) (zq (zZ 5 (zF ZQ (zh (zc 3) (zm)))) (zq (jT (qR (zi (.int 12))) (zK 6) (zq (YL 7 8 9 (ql (zV 1 [2,5] (qR (zi (.int 3))) (zK 0) (zi (.bl true)) (zM (zF yM (zh (zc 1) (zh (zc 2) (zm)))))))) (zq (qw (yK (zF gJ (zh (zF KU (zh (zc 3) (zh (zc 7) (zh (zc 8) (zh (zc 9) (zm)))))) (zh (zo zC (zo zC (zo zC (zo zC (zc 4) (zc 9)) (zi (.int 0))) (zc 7)) (zc 8)) (zm))))) (zq (qc (zi (.bl false))) (zy)) (zy)) (zy)))) (zq (zZ 10 (ql (zV 1 [3] (qR (zc 5)) (zK 0) (zi (.bl true)) (zM (Qy Z3 (zo zC (zc 1) (zi (.int 0))) (zc 0)))))) (zq (jT (qR (zi (.int 2))) (zK 6) (zq (zZ 11 (zF We (zh (zc 3) (zm)))) (zq (qw (yK (zF gJ (zh (zc 11) (zh (zc 10) (zm))))) (zq (qc (zi (.bl false))) (zy)) (zy)) (zq (jI (jO yd (zc 11) (zi (.int 0)))) (zy))))) (zq (Qb (zB (zh (zF Y7 (zh (zc 2) (zm))) (zh (zF Ka (zh (zc 2) (zm))) (zm)))) (jG 12 13)) (zq (zZ 14 (zo zC (zS (zh (zc 5) (zh (jU Zv (zi (.int 1))) (zh (zi (.bl true)) (zh (zi .non) (zh (zi (.str "0")) (zh (zB (zh (zi (.int 0)) (zm))) (zh (zo Qa (zi (.int 10)) (zi (.int 29))) (zm))))))))) (zF yM (zh (zc 2) (zh (zi (.int 7)) (zm)))))) (zq (zZ 15 (zS (zh (j6 1 qy Pt 0 (PF 0)) (zm)))) (zq (jI (jO yd (zc 15) (j6 1 qy Pt 1 (PF 1)))) (zq (jI (jO yd (zc 15) (j6 1 qy Pt 2 (PF 2)))) (zq (qw (zo qK (ql (JB 1 (qz (zc 15)) (zK 0) 0 PF (yh qe qg) RF)) (zo qO (zS (zh (zS (zh (zi (.int 3)) (zm))) (zm))) (zi (.int 3)))) (zq (qc (zi (.bl false))) (zy)) (zy)) (zq (qw (zo qK (wN (yh qe qg) PF (wR RF) (zh (j6 1 qy Pt 3 (PF 3)) (zm))) (zS (zh (zi (.int 1)) (zm)))) (zq (qc (zi (.bl false))) (zy)) (zy)) (zq (qw (zo qK (wN (yh qe qg) PF (wR RF) (zh (j6 1 qy Pt 4 (PF 4)) (zm))) (zS (zh (zi (.int 0)) (zm)))) (zq (qc (zi (.bl false))) (zy)) (zy)) (zq (qw (zo qK (wN (yh qe qg) PF (wR RF) (zh (j6 1 qy Pt 5 (PF 5)) (zm))) (zS (zh (zi (.int 1)) (zm)))) (zq (qc (zi (.bl false))) (zy)) (zy)) (zq (qw (zo qK (wN (yh qe qg) PF (wR RF) (zh (j6 1 qy Pt 6 (PF 6)) (zm))) (zS (zh (zi (.int 0)) (zm)))) (zq (qc (zi (.bl false))) (zy)) (zy)) (zy)))))))))))))))))))) (zq (qc (zi (.bl true))) (zy))
theorem o_law {K:Frag}{k:Nat}(T:Bu mg)(F:wg K "law" "law" gu f fd)(hn:nsIn K mainGlobals "law" = some (some (.ref f)))(ht:tabIn K "law" = some (c,Pt))(hB:BMain mg base)(hC:CodeHd base c Pt){Y7:Fn}(ZM:zN P w K mg base k "_law_bad_table" 1 Y7){QY:Fn}(Zh:zN P w K mg base k "_law_by_kind" 1 QY){ZQ:Fn}(Zi:zN P w K mg base k "_law_kinds" 1 ZQ){Kl:Fn}(Qi:zN P w K mg base k "_law_known" 1 Kl){gJ:Fn}(w8:zN P w K mg base k "_law_same" 2 gJ){Ko:Fn}(Q2:zN P w K mg base k "_law_state" 2 Ko){Kj:Fn}(Q0:zN P w K mg base k "_law_steady" 1 Kj){yM:Fn}(jZ:zN P w K mg base k "_law_take" 2 yM){Ka:Fn}(ZN:zN P w K mg base k "_law_unsteady" 1 Ka){KU:Fn}(Jb:zN P w K mg base k "number" 4 KU){We:Fn}(Jf:zN P w K mg base k "sizes" 1 We){RF:Nat->List W->Hx->R W}(hkk:kk<=k)(hls:∀t∈yh qe qg,kI P w K mg j qy t)(hR:∀base PG,(∀k,gY P w K mg base (j+1) (PG k) (jQ (yh qe qg) k))->zN P w K mg base kk "_law_refused" 1 (wV PG RF)):yy P w K mg base wY (k+1) f fd ["_law_script"] (spT K 1 λ PF=>qN 16 (X9 Y7 QY ZQ Kl gJ Ko Kj yM Ka KU We qe qg RF Pt PF)):=
 Au (ls:=yh qe qg) F hn ht kT λ A outer s H E hr=>zx (kD PassesOwn.never rfl (jA rfl T.ju (IT rfl T.Zu (zt) (Si rfl T.Pz (kQ T.kX (ym (zl 0))) (zt)))) (qx 1 kT.nd) (zx (qA 2 kT.nd (qt Q2 hr (zj (zl 0) (zj (zl 1) (zw))))) (zx (qA 3 kT.nd (qt Qi hr (zj (zl 2) (zw)))) (zx (qA 4 kT.nd (qt Zh hr (zj (zl 3) (zw)))) (zx (jB (Zo (gi (qt Q0 hr (zj (zl 3) (zw))))) (zx (qk (yj)) (zI)) (zI)) (zx (qA 5 kT.nd (qt Zi hr (zj (zl 3) (zw)))) (zx (kD PassesOwn.never rfl (jA rfl T.ju (zt)) (qx 6 kT.nd) (zx (FT 7 8 9 rfl kT.nd (ye (ja (N:=["_law_lap", "_law_state_here", "_law_kinds_here"]) 1 [2,5] (jA rfl T.ju (zt)) (λ _ _ _=>⟨qx 0 (qF (by kernel_rfl)),qL,qJ (qt jZ hr (zj (zl 1) (zj (zl 2) (zw))))⟩)))) (zx (jB (Zo (gi (qt w8 hr (zj (qt Jb hr (zj (zl 3) (zj (zl 7) (zj (zl 8) (zj (zl 9) (zw)))))) (zj (qu (qu (qu (qu (zl 4) (zl 9)) (zt)) (zl 7)) (zl 8)) (zw)))))) (zx (qk (yj)) (zI)) (zI)) (zI)))) (zx (J2 10 (N:=["_law_kind", "_law_table"]) 1 [3] kT.nd rfl (cps (by kernel_rfl)) (by kernel_rfl) (jA rfl T.ju (zl 5)) (λ _ _ _=>⟨qx 0 (qF (by kernel_rfl)),qL,qJ (TY (qu (zl 1) (zt)) (zl 0))⟩)) (zx (kD PassesOwn.never rfl (jA rfl T.ju (zt)) (qx 6 kT.nd) (zx (qA 11 kT.nd (qt Jf hr (zj (zl 3) (zw)))) (zx (jB (Zo (gi (qt w8 hr (zj (zl 11) (zj (zl 10) (zw)))))) (zx (qk (yj)) (zI)) (zI)) (zx (kC (ZT (zl 11) (zt))) (zI))))) (zx (Rx (zW (zj (qt ZM hr (zj (zl 2) (zw))) (zj (qt ZN hr (zj (zl 2) (zw))) (zw))) (zp (zp zD))) (gc 12 13 rfl kT.nd)) (zx (qA 14 kT.nd (qu (qT (zj (zl 5) (zj (Xi (zt)) (zj (yj) (zj (Qr) (zj (Yi) (zj (zW (zj (zt) (zw)) (zp zD)) (zj (Xq (zt) (zt)) (zw)))))))) (zp (zp (zp (zp (zp (zp (zp zD)))))))) (qt jZ hr (zj (zl 2) (zj (zt) (zw)))))) (zx (qA 15 kT.nd (qT (zj (Qm (ls:=yh qe qg) (t:=Ym qe qg) rfl (by kernel_rfl) hB rfl hC rfl rfl) (zw)) (zp zD))) (zx (kC (ZT (zl 15) (Qm (ls:=yh qe qg) (t:=Yl qe qg) rfl (by kernel_rfl) hB rfl hC rfl rfl))) (zx (kC (ZT (zl 15) (Qm (ls:=yh qe qg) (t:=Yk qe qg) rfl (by kernel_rfl) hB rfl hC rfl rfl))) (zx (jB (j0 (ki hr) (HJ (N:=["_law_call"]) (q:=qy) (λ _=>rfl) hls (Y0 (by kernel_rfl)) hR (hr.mono hkk) rfl (cps (by kernel_rfl)) (by kernel_rfl) (yk (zl 15)) (λ _ _ _=>qx 0 (qF (by kernel_rfl))) rfl (Or.inl rfl) (λ _ _ _=>rfl)) (kF (qT (zj (qT (zj (zt) (zw)) (zp zD)) (zw)) (zp zD)) (zt))) (zx (qk (yj)) (zI)) (zI)) (zx (jB (j0 (ki hr) (KD (q:=qy) (λ _=>rfl) hls (Y0 (by kernel_rfl)) hR K0 (hr.mono hkk) (zj (Qm (ls:=yh qe qg) (t:=Jk qe qg) rfl (by kernel_rfl) hB rfl hC rfl rfl) (zw)) (zp zD)) (qT (zj (zt) (zw)) (zp zD))) (zx (qk (yj)) (zI)) (zI)) (zx (jB (j0 (ki hr) (KD (q:=qy) (λ _=>rfl) hls (Y0 (by kernel_rfl)) hR K0 (hr.mono hkk) (zj (Qm (ls:=yh qe qg) (t:=Jm qe qg) rfl (by kernel_rfl) hB rfl hC rfl rfl) (zw)) (zp zD)) (qT (zj (zt) (zw)) (zp zD))) (zx (qk (yj)) (zI)) (zI)) (zx (jB (j0 (ki hr) (KD (q:=qy) (λ _=>rfl) hls (Y0 (by kernel_rfl)) hR K0 (hr.mono hkk) (zj (Qm (ls:=yh qe qg) (t:=Jh qe qg) rfl (by kernel_rfl) hB rfl hC rfl rfl) (zw)) (zp zD)) (qT (zj (zt) (zw)) (zp zD))) (zx (qk (yj)) (zI)) (zI)) (zx (jB (j0 (ki hr) (KD (q:=qy) (λ _=>rfl) hls (Y0 (by kernel_rfl)) hR K0 (hr.mono hkk) (zj (Qm (ls:=yh qe qg) (t:=Jg qe qg) rfl (by kernel_rfl) hB rfl hC rfl rfl) (zw)) (zp zD)) (qT (zj (zt) (zw)) (zp zD))) (zx (qk (yj)) (zI)) (zI)) (zI)))))))))))))))))))) (zx (qk (yj)) (zI))
noncomputable def Kz:Fn:=qN 1 (Tb)
noncomputable def Zj:Fn :=  Kz
noncomputable def Tz:Fn:=qN 5 (TV)
noncomputable def GY:Fn:=iso Tz
noncomputable def VM:Fn:=qN 2 (VJ)
noncomputable def W8:Fn:=iso VM
noncomputable def Ur:Fn:=qN 1 (Ul)
noncomputable def ZP:Fn:=iso Ur
noncomputable def Gz:Fn:=qN 6 (Uz)
noncomputable def QZ:Fn:=iso Gz
noncomputable def V5:Fn:=qN 2 (Gr)
noncomputable def Kd:Fn :=  V5
noncomputable def J3:Fn:=qN 4 (GJ)
noncomputable def jZ:Fn:=Zb J3
noncomputable def GG:Fn:=qN 2 (UD)
noncomputable def Kr:Fn :=  GG
noncomputable def UJ:Fn:=qN 1 (UI)
noncomputable def Zi:Fn:=iso UJ
noncomputable def Gf:Fn:=qN 2 (VR Zj)
noncomputable def Y9:Fn :=  Gf
noncomputable def Kt:Fn:=qN 2 (GP Zj)
noncomputable def Q4:Fn :=  Kt
noncomputable def Ug:Fn:=qN 7 (V6 ZP)
noncomputable def gI:Fn:=iso Ug
noncomputable def Uv:Fn:=qN 1 (Ut ZP)
noncomputable def GA:Fn:=iso Uv
noncomputable def UQ:Fn:=qN 3 (GD Kd)
noncomputable def Q2:Fn :=  UQ
noncomputable def Ge:Fn:=qN 4 (VU jZ)
noncomputable def QX:Fn :=  Ge
noncomputable def GI:Fn:=qN 11 (GF jZ)
noncomputable def Km:Fn :=  GI
noncomputable def Us:Fn:=qN 6 (Uh Zi)
noncomputable def J1:Fn:=iso Us
noncomputable def Gk:Fn:=qN 2 (V0 jZ)
noncomputable def ZN:Fn :=  Gk
noncomputable def Gd:Fn:=qN 2 (VX jZ)
noncomputable def ZM:Fn :=  Gd
noncomputable def Y6:Fn:=qN 3 (W9 Q4)
noncomputable def ZL:Fn :=  Y6
noncomputable def JW:Fn:=wU 2 (Gu ZP Y9)
noncomputable def Ux:Fn:=qN 3 (Uj ZP gI QZ)
noncomputable def Kh:Fn:=iso Ux
noncomputable def Gs:Fn:=qN 9 (Uc gI QZ)
noncomputable def Kf:Fn:=iso Gs
noncomputable def Kq:Fn:=qN 4 (UO QX Kr Km)
noncomputable def Qi:Fn:=Zb Kq
noncomputable def Gq:Fn:=qN 5 (V3 Zi J1)
noncomputable def Zh:Fn :=  Gq
noncomputable def N5:Fn:=qN 2 (ZR (λ _ _=>.bad))
noncomputable def UH:Fn :=  N5
noncomputable def NO:Fn:=qN 2 (ZR UH)
noncomputable def UE:Fn :=  NO
noncomputable def N8:Fn:=qN 2 (ZR UE)
noncomputable def w8:Fn :=  N8
noncomputable def J4:Fn:=qN 2 (KA GY ZL W8)
noncomputable def gM:Fn :=  J4
noncomputable def Uo:Fn:=qN 1 (Ui Zh)
noncomputable def Q0:Fn:=iso Uo
noncomputable def JV:Fn:=wU 1 (Gi gM)
noncomputable def Qg:Fn:=wU 1 (Y8 Kf JV)
noncomputable def jw:Fn:=wU 4 (Qn Kh JW Qg)
noncomputable def Jb:Fn:=iso (λ ws A=>(jw ws A).nox)
noncomputable def jV:Fn:=wU 1 (K9 GA Qg)
noncomputable def Jf:Fn:=iso (λ ws A=>(jV ws A).nox)
structure Tx (K:Frag):Prop where
 MY:FD K "is_whole" U3
 Il:FD K "is_even" T3
 OA:FD K "leaves_no_kind_out" VL
 Nl:FD K "count_kinds" Uq
 Nw:FD K "first_pairs" UB
 Nh:FD K "_law_cell_at" Ud
 Md:FD K "_law_take" U0
 NN:FD K "_law_named" UK
 NV:FD K "_law_kinds" UM
 ON:FD K "is_whole_below" VT
 Mn:FD K "is_wholes" UU
 O8:FD K "count_shares" V8
 NF:FD K "count_sizes" UC
 N3:FD K "_law_state" UN
 OT:FD K "_law_mixed_row" VV
 N0:FD K "_law_plain" UG
 Nq:FD K "_law_shares" Um
 OW:FD K "_law_unsteady" V2
 OS:FD K "_law_bad_table" VW
 OJ:FD K "is_wholes_below" VO
 Na:FD K "require_kind" Ub
 Np:FD K "kind_shares" Uk
 Nd:FD K "search_break" Ue
 NU:FD K "_law_known" UP
 O3:FD K "_law_by_kind" V4
 GN:FD K "_law_same" GO
 MO:FD K "is_table" U4
 Ny:FD K "_law_steady" Uw
 O1:FD K "require_table" V1
 OP:FD K "require_steady" VZ
 Iv:FD K "number" S8
 Es:FD K "sizes" Rf
 Nc:FD K "_law_refused" Gp
 BA:FD K "law" gu
 NZ:nsIn K mainGlobals "ValueError" = some none
 BZ:nsIn K mainGlobals "abs" = some none
 Bc:nsIn K mainGlobals "all" = some none
 DY:nsIn K mainGlobals "bool" = some none
 Ml:nsIn K mainGlobals "enumerate" = some none
 Bp:nsIn K mainGlobals "int" = some none
 N4:nsIn K mainGlobals "isinstance" = some none
 BX:nsIn K mainGlobals "len" = some none
 DH:nsIn K mainGlobals "list" = some none
 BF:nsIn K mainGlobals "max" = some none
 Af:nsIn K mainGlobals "min" = some none
 Ef:nsIn K mainGlobals "range" = some none
 Bq:nsIn K mainGlobals "set" = some none
 Fu:nsIn K mainGlobals "sorted" = some none
 BP:nsIn K mainGlobals "sum" = some none
 Ec:nsIn K mainGlobals "tuple" = some none
 BE:nsIn K mainGlobals "zip" = some none
 Nt:CD K "MOST_PLACES" 8
 Bo:qD.all (Wi K "NearError" ·)=true
 Bv:XB K "NearError" = true
 Bm:KH.all (Z6 K qD)=true
section
variable {K:Frag}
theorem bu (X:K.In h)(G:h.Ns mainGlobals mg)(T:Tx K):Bu mg:=⟨mg_none_of X G T.NZ,mg_none_of X G T.BZ,mg_none_of X G T.Bc,mg_none_of X G T.DY,mg_none_of X G T.Ml,mg_none_of X G T.Bp,mg_none_of X G T.N4,mg_none_of X G T.BX,mg_none_of X G T.DH,mg_none_of X G T.BF,mg_none_of X G T.Af,mg_none_of X G T.Ef,mg_none_of X G T.Bq,mg_none_of X G T.Fu,mg_none_of X G T.BP,mg_none_of X G T.Ec,mg_none_of X G T.BE,(let ⟨t,e⟩:=T.Nt;⟨t,mg_of X G e⟩)⟩
theorem cl (T:Tx K):wd K qD "NearError" := DK T.Bo T.Bv
structure Zz (K:Frag)(h:Heap)(mg:Str->Option Value):Prop where
 X:K.In h
 G:h.Ns mainGlobals mg
 T:Tx K
 B:Bu mg
 C:wd K qD "NearError"
theorem zz (X:K.In h)(G:h.Ns mainGlobals mg)(T:Tx K):Zz K h mg:=⟨X,G,T,bu X G T,cl T⟩
theorem U2 (Z:Zz K h mg):zN P w K mg base 1 "is_whole" 1 Zj:=by
 obtain ⟨f,fd,F,a⟩:=Z.T.MY;exact (jK F (mg_of Z.X Z.G a) N6 (λ _ _ _ _ _ _=>yt λ _=>rfl) λ cdv A outer s H E hr=>zx (qk (Qp (gQ .int Z.B.jM Z.B.JA (by rfl) (zl 0)) (Ji (Dl (gQ .bl Z.B.jM Z.B.XG (by rfl) (zl 0)))))) (zI):zN P w K mg base 1 "is_whole" 1 Kz)
theorem Ln (Z:Zz K h mg):zN P w K mg base 1 "is_even" 1 GY:=by
 obtain ⟨f,fd,F,a⟩:=Z.T.Il;exact (jK F (mg_of Z.X Z.G a) GS (λ _ _ _ _ _ _=>yt λ _=>rfl) λ cdv A outer s H E hr=>zx (kD PassesOwn.never rfl (Jd rfl Z.B.Q3 (zl 0)) (gc 1 2 rfl GS.nd) (zx (kD PassesOwn.never rfl (Jd rfl Z.B.Q3 (zl 2)) (gc 3 4 rfl GS.nd) (zx (jB (KP (Xx (j0 (ki hr) (gv (kj hr) (zl 4) (zt)) (gv (kj hr) (zl 1) (zl 3))) (Xt (j0 (ki hr) (qu (qu (zl 0) (zl 3)) (zl 1)) (zl 4))))) (zx (qk (yj)) (zI)) (zI)) (zI))) (zI))) (zx (qk (yj)) (zI)):zN P w K mg base 1 "is_even" 1 Tz).iso
theorem Oz (Z:Zz K h mg):zN P w K mg base 1 "leaves_no_kind_out" 1 W8:=by
 obtain ⟨f,fd,F,a⟩:=Z.T.OA;exact (jK F (mg_of Z.X Z.G a) VI (λ _ _ _ _ _ _=>yt λ _=>rfl) λ cdv A outer s H E hr=>zx (qA 1 VI.nd (ye (ja (N:=["row", "kind"]) 2 [] (yk (zl 0)) (λ _ _ _=>⟨qx 0 (qF (by kernel_rfl)),qL,EG (λ _ _ z=>z) rfl rfl (by intro _ h;cases h<;>rfl) (yk (zl 0)) (qx 1 (qF (by kernel_rfl))) (qL) (qJ (zl 1))⟩)))) (zx (qk (Yh rfl Z.B.YC (km (ja (N:=["kind", "standing"]) 1 [1] (jA rfl Z.B.ju (ZW rfl Z.B.Zu (ym (zl 1)))) (λ _ _ _=>⟨qx 0 (qF (by kernel_rfl)),qL,qJ (DM P2 (zl 0) (zl 1))⟩))))) (zI)):zN P w K mg base 1 "leaves_no_kind_out" 1 VM).iso
theorem Kk (Z:Zz K h mg):zN P w K mg base 1 "count_kinds" 1 ZP:=by
 obtain ⟨f,fd,F,a⟩:=Z.T.Nl;exact (jK F (mg_of Z.X Z.G a) O7 (λ _ _ _ _ _ _=>yt λ _=>rfl) λ cdv A outer s H E hr=>zx (qk (yV (ZW rfl Z.B.Zu (km (ja (N:=["row"]) 1 [] (yk (zl 0)) (λ _ _ _=>⟨qx 0 (qF (by kernel_rfl)),qL,qJ (ZW rfl Z.B.Zu (ym (zl 0)))⟩)))) (zt))) (zI):zN P w K mg base 1 "count_kinds" 1 Ur).iso
theorem Uu (Z:Zz K h mg):zN P w K mg base 1 "first_pairs" 1 QZ:=by
 obtain ⟨f,fd,F,a⟩:=Z.T.Nw;exact (jK F (mg_of Z.X Z.G a) Kg (λ _ _ _ _ _ _=>yt λ _=>rfl) λ cdv A outer s H E hr=>zx (qA 1 Kg.nd (Rh)) (zx (kD PassesOwn.never rfl (Jd rfl Z.B.Q3 (zl 0)) (gc 2 3 rfl Kg.nd) (zx (kD PassesOwn.never rfl (Jd rfl Z.B.Q3 (zl 3)) (gc 4 5 rfl Kg.nd) (zx (kC (MZ (zl 1) (zl 5) (zW (zj (zl 2) (zj (zl 4) (zw))) (zp (zp zD))))) (zI))) (zI))) (zx (qk (zl 1)) (zI))):zN P w K mg base 1 "first_pairs" 1 Gz).iso
theorem Nb (Z:Zz K h mg):zN P w K mg base 1 "_law_cell_at" 2 Kd:=by
 obtain ⟨f,fd,F,a⟩:=Z.T.Nh;exact (jK F (mg_of Z.X Z.G a) OV (λ _ _ _ _ _ _=>ZH λ _ _=>rfl) λ cdv A outer s H E hr=>zx (jB (j0 Vl (zl 1) (kQ Z.B.kX (ym (zl 0)))) (zx (qk (qu (zl 0) (zl 1))) (zI)) (zI)) (zx (qk (zt)) (zI)):zN P w K mg base 1 "_law_cell_at" 2 V5)
theorem gK (Z:Zz K h mg):zN P w K mg base 1 "_law_take" 2 jZ:=by
 obtain ⟨f,fd,F,a⟩:=Z.T.Md;exact (jK F (mg_of Z.X Z.G a) Ks (λ _ _ _ _ _ _=>ZH λ _ _=>rfl) λ cdv A outer s H E hr=>zx (jB (gi (qu (zl 0) (zt))) (zx (qA 2 Ks.nd (Qq (qu (zl 0) (zt)) (zl 1))) (zx (Ru (Jc (qu (zl 0) (zt)) (zl 1)) (zl 0) (zt)) (zx (qk (zl 2)) (zI)))) (zI)) (zx (Ru (Qq (yV (kF (qu (zl 0) (zt)) (zt)) (zt)) (zt)) (zl 0) (zt)) (zx (qA 3 Ks.nd (Qq (yV (yV (kF (qu (zl 0) (zt)) (qu (zl 0) (zt))) (kF (zt) (qu (zl 0) (zt)))) (zt)) (zt))) (zx (qA 3 Ks.nd (Qq (yV (kF (zl 3) (zl 3)) (kF (zt) (zl 3))) (zt))) (zx (qk (Qq (Jc (zl 3) (zt)) (zl 1))) (zI))))):zN P w K mg base 1 "_law_take" 2 J3).Zb
theorem NG (Z:Zz K h mg):zN P w K mg base 1 "_law_named" 1 Kr:=by
 obtain ⟨f,fd,F,a⟩:=Z.T.NN;exact (jK F (mg_of Z.X Z.G a) UA (λ _ _ _ _ _ _=>yt λ _=>rfl) λ cdv A outer s H E hr=>zx (qA 1 UA.nd (Mc rfl Z.B.Hy Z.B.BK (Iu rfl Z.B.Bl (ye (ja (N:=["_law_row"]) 1 [] (yk (zl 0)) (λ _ _ _=>⟨qx 0 (qF (by kernel_rfl)),qL,qJ (Sj Z.B.Qu (ym (zl 0)))⟩))) (qT (zw) (zD))))) (zx (qk (ZU Z.B.wq (km (ja (N:=["_law_row", "_law_some"]) 1 [1] (yk (zl 0)) (λ _ _ _=>⟨qx 0 (qF (by kernel_rfl)),qL,qJ (ZU Z.B.wq (km (ja (N:=["_law_kind", "_law_some"]) 1 [1] (yk (zl 0)) (λ _ _ _=>⟨qx 0 (qF (by kernel_rfl)),qL,qJ (LM hr (zl 1) (zl 0))⟩))))⟩))))) (zI)):zN P w K mg base 1 "_law_named" 1 GG)
theorem GH (Z:Zz K h mg):zN P w K mg base 1 "_law_kinds" 1 Zi:=by
 obtain ⟨f,fd,F,a⟩:=Z.T.NV;exact (jK F (mg_of Z.X Z.G a) Nx (λ _ _ _ _ _ _=>yt λ _=>rfl) λ cdv A outer s H E hr=>zx (qk (yV (zt) (ZW rfl Z.B.Zu (km (ja (N:=["_law_row"]) 1 [] (yk (zl 0)) (λ _ _ _=>⟨qx 0 (qF (by kernel_rfl)),qL,qJ (ZW rfl Z.B.Zu (ym (zl 0)))⟩)))))) (zI):zN P w K mg base 1 "_law_kinds" 1 UJ).iso
theorem OU (Z:Zz K h mg):zN P w K mg base 2 "is_whole_below" 2 Y9:=by
 obtain ⟨f,fd,F,a⟩:=Z.T.ON;exact (jK F (mg_of Z.X Z.G a) OI (λ _ _ _ _ _ _=>ZH λ _ _=>rfl) λ cdv A outer s H E hr=>zx (qk (Qp (qt (U2 Z).up hr (zj (zl 0) (zw))) (Ji (RL Wy Vl (zt) (zl 0) (zl 1))))) (zI):zN P w K mg base 2 "is_whole_below" 2 Gf)
theorem Mm (Z:Zz K h mg):zN P w K mg base 2 "is_wholes" 2 Q4:=by
 obtain ⟨f,fd,F,a⟩:=Z.T.Mn;exact (jK F (mg_of Z.X Z.G a) NM (λ _ _ _ _ _ _=>ZH λ _ _=>rfl) λ cdv A outer s H E hr=>zx (qk (Qp (gQ .tup Z.B.jM Z.B.wq (by rfl) (zl 0)) (Qp (gv (kj hr) (kQ Z.B.kX (ym (zl 0))) (zl 1)) (Ji (Yh rfl Z.B.YC (km (ja (N:=["part"]) 1 [] (yk (zl 0)) (λ _ _ _=>⟨qx 0 (qF (by kernel_rfl)),qL,qJ (qt (U2 Z).up hr (zj (zl 0) (zw)))⟩)))))))) (zI):zN P w K mg base 2 "is_wholes" 2 Kt)
theorem Gw (Z:Zz K h mg):zN P w K mg base 2 "count_shares" 3 gI:=by
 obtain ⟨f,fd,F,a⟩:=Z.T.O8;exact (jK F (mg_of Z.X Z.G a) Kb (λ _ _ _ _ _ _=>Vt λ _ _ _=>rfl) λ cdv A outer s H E hr=>zx (qA 3 Kb.nd (qt (Kk Z).up hr (zj (zl 0) (zw)))) (zx (J2 4 (N:=["kind", "many"]) 1 [3] Kb.nd rfl (cps (by kernel_rfl)) (by kernel_rfl) (jA rfl Z.B.ju (zl 3)) (λ _ _ _=>⟨qx 0 (qF (by kernel_rfl)),qL,qJ (kF (qT (zj (zt) (zw)) (zp zD)) (zl 1))⟩)) (zx (kD PassesOwn.never rfl (Rn rfl Z.B.PK (qu (zl 0) (zl 1)) (qu (zl 0) (zl 2))) (gc 5 6 rfl Kb.nd) (zx (Sr (qu (zl 4) (zl 5)) (zl 6) (zt)) (zI))) (zx (qk (ZU Z.B.wq (km (ja (N:=["row"]) 1 [] (yk (zl 4)) (λ _ _ _=>⟨qx 0 (qF (by kernel_rfl)),qL,qJ (ZU Z.B.wq (ym (zl 0)))⟩))))) (zI)))):zN P w K mg base 2 "count_shares" 3 Ug).iso
theorem Nv (Z:Zz K h mg):zN P w K mg base 2 "count_sizes" 1 GA:=by
 obtain ⟨f,fd,F,a⟩:=Z.T.NF;exact (jK F (mg_of Z.X Z.G a) O2 (λ _ _ _ _ _ _=>yt λ _=>rfl) λ cdv A outer s H E hr=>zx (qk (ye (ja (N:=["kind", "table"]) 1 [0] (jA rfl Z.B.ju (qt (Kk Z).up hr (zj (zl 0) (zw)))) (λ _ _ _=>⟨qx 0 (qF (by kernel_rfl)),qL,qJ (TY (qu (zl 1) (zt)) (zl 0))⟩)))) (zI):zN P w K mg base 2 "count_sizes" 1 Uv).iso
theorem NJ (Z:Zz K h mg):zN P w K mg base 2 "_law_state" 2 Q2:=by
 obtain ⟨f,fd,F,a⟩:=Z.T.N3;exact (jK F (mg_of Z.X Z.G a) Up (λ _ _ _ _ _ _=>ZH λ _ _=>rfl) λ cdv A outer s H E hr=>zx (qA 2 Up.nd (qt (Nb Z).up hr (zj (zl 0) (zj (zl 1) (zw))))) (zx (jB (j0 AO (zl 2) (Xq (zt) (zt))) (zx (qk (qT (zj (Jn (zl 2) (Xq (zt) (zt))) (zj (yj) (zw))) (zp (zp zD)))) (zI)) (zI)) (zx (qk (qT (zj (Qq (zl 2) (zt)) (zj (yj) (zw))) (zp (zp zD)))) (zI))):zN P w K mg base 2 "_law_state" 2 UQ)
theorem VQ (Z:Zz K h mg):zN P w K mg base 2 "_law_mixed_row" 2 QX:=by
 obtain ⟨f,fd,F,a⟩:=Z.T.OT;exact (jK F (mg_of Z.X Z.G a) Ga (λ _ _ _ _ _ _=>ZH λ _ _=>rfl) λ cdv A outer s H E hr=>zx (qA 2 Ga.nd (Sj Z.B.Qu (ym (zl 1)))) (zx (qA 3 Ga.nd (qT (zw) (zD))) (zx (M8 1000 PassesOwn.never (j0 (ki hr) (zl 2) (qT (zw) (zD))) (zx (kC (ZT (zl 3) (Ia (zl 2) (qt (gK Z).up hr (zj (zl 0) (zj (kQ Z.B.kX (ym (zl 2))) (zw))))))) (zI))) (zx (qk (zl 3)) (zI)))):zN P w K mg base 2 "_law_mixed_row" 2 Ge)
theorem NX (Z:Zz K h mg):zN P w K mg base 2 "_law_plain" 1 Km:=by
 obtain ⟨f,fd,F,a⟩:=Z.T.N0;exact (jK F (mg_of Z.X Z.G a) kN (λ _ _ _ _ _ _=>yt λ _=>rfl) λ cdv A outer s H E hr=>zx (qA 1 kN.nd (qt (gK Z).up hr (zj (zl 0) (zj (zt) (zw))))) (zx (qA 2 kN.nd (qu (qT (zj (zt) (zj (zt) (zj (zt) (zj (zt) (zj (zt) (zj (zt) (zj (zt) (zj (zt) (zw))))))))) (zp (zp (zp (zp (zp (zp (zp (zp zD))))))))) (qt (gK Z).up hr (zj (zl 0) (zj (zt) (zw)))))) (zx (jB (j0 (kj hr) (zl 1) (zt)) (zx (qk (ye (ja (N:=["_law_a", "_law_many"]) 1 [2] (jA rfl Z.B.ju (zl 2)) (λ _ _ _=>⟨qx 0 (qF (by kernel_rfl)),qL,qJ (ye (ja (N:=["_law_b", "_law_a", "_law_many"]) 1 [0,1] (jA rfl Z.B.ju (zl 1)) (λ _ _ _=>⟨qx 0 (qF (by kernel_rfl)),qL,qJ (Si rfl Z.B.Pz (Xr Z.B.XX (Jn (zl 1) (zl 0))) (Jn (zl 2) (Xr Z.B.XX (Jn (zl 1) (zl 0)))))⟩)))⟩)))) (zI)) (zI)) (zx (jB (j0 (kj hr) (zl 1) (zt)) (zx (qA 2 kN.nd (qu (qT (zj (zt) (zj (zt) (zj (zt) (zw)))) (zp (zp (zp zD)))) (qt (gK Z).up hr (zj (zl 0) (zj (zt) (zw)))))) (zx (qk (ye (ja (N:=["_law_a", "_law_many"]) 1 [2] (jA rfl Z.B.ju (zl 2)) (λ _ _ _=>⟨qx 0 (qF (by kernel_rfl)),qL,qJ (ye (ja (N:=["_law_b", "_law_a"]) 1 [0] (jA rfl Z.B.ju (zl 1)) (λ _ _ _=>⟨qx 0 (qF (by kernel_rfl)),qL,qJ (qu (qT (zj (zt) (zj (zt) (zj (zt) (zj (zt) (zj (zt) (zj (zt) (zj (zt) (zj (zt) (zw))))))))) (zp (zp (zp (zp (zp (zp (zp (zp zD))))))))) (RB (zl 1) (zl 0)))⟩)))⟩)))) (zI))) (zI)) (zx (jB (j0 (kj hr) (zl 1) (zt)) (zx (qk (ye (ja (N:=["_law_a", "_law_many"]) 1 [2] (jA rfl Z.B.ju (zl 2)) (λ _ _ _=>⟨qx 0 (qF (by kernel_rfl)),qL,qJ (ye (ja (N:=["_law_b", "_law_a"]) 1 [0] (jA rfl Z.B.ju (zl 1)) (λ _ _ _=>⟨qx 0 (qF (by kernel_rfl)),qL,qJ (J8 Z.B.JA (gv (ki hr) (zl 1) (zl 0)))⟩)))⟩)))) (zI)) (zI)) (zx (jB (j0 (kj hr) (zl 1) (zt)) (zx (Rx (qu (qT (zj (zW (zj (zt) (zj (zt) (zw))) (zp (zp zD))) (zj (zW (zj (zt) (zj (zt) (zw))) (zp (zp zD))) (zj (zW (zj (zt) (zj (zt) (zw))) (zp (zp zD))) (zj (zW (zj (zt) (zj (zt) (zw))) (zp (zp zD))) (zj (zW (zj (zt) (zj (zt) (zw))) (zp (zp zD))) (zw)))))) (zp (zp (zp (zp (zp zD)))))) (qt (gK Z).up hr (zj (zl 0) (zj (zt) (zw))))) (gc 3 4 rfl kN.nd)) (zx (qA 2 kN.nd (kF (zl 3) (zl 4))) (zx (qk (ye (ja (N:=["_law_a", "_law_many", "_law_wide"]) 1 [2,3] (jA rfl Z.B.ju (zl 2)) (λ _ _ _=>⟨qx 0 (qF (by kernel_rfl)),qL,qJ (ye (ja (N:=["_law_b", "_law_a", "_law_wide"]) 1 [0,2] (jA rfl Z.B.ju (zl 1)) (λ _ _ _=>⟨qx 0 (qF (by kernel_rfl)),qL,qJ (yV (J8 Z.B.JA (gv (ki hr) (zl 1) (zl 0))) (J8 Z.B.JA (gv (ki hr) (Jc (zl 1) (zl 2)) (Jc (zl 0) (zl 2)))))⟩)))⟩)))) (zI)))) (zI)) (zx (jB (j0 (kj hr) (zl 1) (zt)) (zx (qA 5 kN.nd (qT (zj (zW (zj (zt) (zj (zt) (zw))) (zp (zp zD))) (zj (zW (zj (zt) (zj (zt) (zw))) (zp (zp zD))) (zj (zW (zj (zt) (zj (zt) (zw))) (zp (zp zD))) (zj (zW (zj (zt) (zj (zt) (zw))) (zp (zp zD))) (zj (zW (zj (zt) (zj (zt) (zw))) (zp (zp zD))) (zj (zW (zj (zt) (zj (zt) (zw))) (zp (zp zD))) (zw))))))) (zp (zp (zp (zp (zp (zp zD)))))))) (zx (qk (ye (ja (N:=["_law_a", "_law_some"]) 1 [5] (yk (zl 5)) (λ _ _ _=>⟨qx 0 (qF (by kernel_rfl)),qL,qJ (ye (ja (N:=["_law_b", "_law_a"]) 1 [0] (yk (zl 1)) (λ _ _ _=>⟨qx 0 (qF (by kernel_rfl)),qL,qJ (Jn (zt) (kQ Z.B.kX (km (ja (N:=["_law_one", "_law_b"]) 1 [0] (yk (zl 1)) (λ _ _ _=>⟨qx 0 (qF (by kernel_rfl)),SD (Pf P2 (zl 0) (zl 1)),qJ (zl 0)⟩)))))⟩)))⟩)))) (zI))) (zI)) (zx (jB (j0 (kj hr) (zl 1) (zt)) (zx (qA 2 kN.nd (qu (qT (zj (zt) (zj (zt) (zj (zt) (zw)))) (zp (zp (zp zD)))) (qt (gK Z).up hr (zj (zl 0) (zj (zt) (zw)))))) (zx (qk (ye (ja (N:=["_law_a", "_law_many"]) 1 [2] (jA rfl Z.B.ju (zl 2)) (λ _ _ _=>⟨qx 0 (qF (by kernel_rfl)),qL,qJ (ye (ja (N:=["_law_b", "_law_a"]) 1 [0] (jA rfl Z.B.ju (zl 1)) (λ _ _ _=>⟨qx 0 (qF (by kernel_rfl)),qL,qJ (RB (zl 1) (zl 0))⟩)))⟩)))) (zI))) (zI)) (zx (qA 3 kN.nd (qu (qT (zj (zt) (zj (zt) (zj (zt) (zw)))) (zp (zp (zp zD)))) (qt (gK Z).up hr (zj (zl 0) (zj (zt) (zw)))))) (zx (qA 6 kN.nd (qT (zj (zt) (zj (zt) (zj (qu (qT (zj (zt) (zj (zt) (zw))) (zp (zp zD))) (J8 Z.B.JA (gv (kj hr) (zl 3) (zt)))) (zj (zt) (zw))))) (zp (zp (zp (zp zD)))))) (zx (qA 7 kN.nd (qT (zw) (zD))) (zx (kD PassesOwn.never rfl (jA rfl Z.B.ju (kF (zt) (zl 3))) (qx 8 kN.nd) (zx (qA 9 kN.nd (ye (ja (N:=["_law_b", "_law_wide", "_law_ring", "_law_a"]) 1 [3,6,8] (jA rfl Z.B.ju (kF (zt) (zl 3))) (λ _ _ _=>⟨qx 0 (qF (by kernel_rfl)),qL,qJ (qu (zl 2) (Qq (Xr Z.B.XX (Jn (zl 3) (zl 0))) (zl 1)))⟩)))) (zx (qA 10 kN.nd (ye (ja (N:=["_law_b", "_law_wide", "_law_a"]) 1 [3,8] (jA rfl Z.B.ju (kF (zt) (zl 3))) (λ _ _ _=>⟨qx 0 (qF (by kernel_rfl)),qL,qJ (J8 Z.B.JA (gv (ki hr) (Jc (zl 2) (zl 1)) (Jc (zl 0) (zl 1))))⟩)))) (zx (jB (j0 (kj hr) (zl 1) (zt)) (zx (kC (ZT (zl 7) (ye (ja (N:=["_law_b", "_law_near", "_law_far"]) 1 [9,10] (jA rfl Z.B.ju (kF (zt) (zl 3))) (λ _ _ _=>⟨qx 0 (qF (by kernel_rfl)),qL,qJ (yV (kF (zt) (qu (zl 2) (zl 0))) (qu (zl 1) (zl 0)))⟩))))) (zI)) (zx (kC (ZT (zl 7) (ye (ja (N:=["_law_b", "_law_near", "_law_far"]) 1 [9,10] (jA rfl Z.B.ju (kF (zt) (zl 3))) (λ _ _ _=>⟨qx 0 (qF (by kernel_rfl)),qL,qJ (Cy (j0 (kj hr) (qu (zl 2) (zl 0)) (zt)) (zt) (qu (zl 1) (zl 0)))⟩))))) (zI))) (zI))))) (zx (qk (zl 7)) (zI))))))))))))):zN P w K mg base 2 "_law_plain" 1 GI)
theorem Nn (Z:Zz K h mg):zN P w K mg base 2 "_law_shares" 3 J1:=by
 obtain ⟨f,fd,F,a⟩:=Z.T.Nq;exact (jK F (mg_of Z.X Z.G a) Ke (λ _ _ _ _ _ _=>Vt λ _ _ _=>rfl) λ cdv A outer s H E hr=>zx (qA 3 Ke.nd (qt (GH Z).up hr (zj (zl 0) (zw)))) (zx (J2 4 (N:=["_law_kind", "_law_many"]) 1 [3] Ke.nd rfl (cps (by kernel_rfl)) (by kernel_rfl) (jA rfl Z.B.ju (zl 3)) (λ _ _ _=>⟨qx 0 (qF (by kernel_rfl)),qL,qJ (kF (qT (zj (zt) (zw)) (zp zD)) (zl 1))⟩)) (zx (kD PassesOwn.never rfl (jA rfl Z.B.ju (kQ Z.B.kX (ym (zl 0)))) (qx 5 Ke.nd) (zx (Sr (qu (zl 4) (qu (qu (zl 0) (zl 1)) (zl 5))) (qu (qu (zl 0) (zl 2)) (zl 5)) (zt)) (zI))) (zx (qk (ZU Z.B.wq (km (ja (N:=["_law_row"]) 1 [] (yk (zl 4)) (λ _ _ _=>⟨qx 0 (qF (by kernel_rfl)),qL,qJ (ZU Z.B.wq (ym (zl 0)))⟩))))) (zI)))):zN P w K mg base 2 "_law_shares" 3 Us).iso
theorem OX (Z:Zz K h mg):zN P w K mg base 2 "_law_unsteady" 1 ZN:=by
 obtain ⟨f,fd,F,a⟩:=Z.T.OW;exact (jK F (mg_of Z.X Z.G a) VY (λ _ _ _ _ _ _=>yt λ _=>rfl) λ cdv A outer s H E hr=>zx (qA 1 VY.nd (qT (zj (zW (zj (zW (zj (zt) (zj (zt) (zj (zt) (zw)))) (zp (zp (zp zD)))) (zj (zW (zj (zt) (zj (zt) (zj (zt) (zw)))) (zp (zp (zp zD)))) (zj (zW (zj (zt) (zj (zt) (zj (zt) (zw)))) (zp (zp (zp zD)))) (zw)))) (zp (zp (zp zD)))) (zj (zW (zj (zW (zj (zt) (zj (zt) (zj (zt) (zj (zt) (zw))))) (zp (zp (zp (zp zD))))) (zj (zW (zj (zt) (zj (zt) (zj (zt) (zj (zt) (zw))))) (zp (zp (zp (zp zD))))) (zj (zW (zj (zt) (zj (zt) (zj (zt) (zj (zt) (zw))))) (zp (zp (zp (zp zD))))) (zj (zW (zj (zt) (zj (zt) (zj (zt) (zj (zt) (zw))))) (zp (zp (zp (zp zD))))) (zw))))) (zp (zp (zp (zp zD))))) (zw))) (zp (zp zD)))) (zx (kC (ZT (zl 1) (zW (zj (zW (zj (zt) (zj (zt) (zj (zt) (zj (zt) (zw))))) (zp (zp (zp (zp zD))))) (zj (zW (zj (zt) (zj (zt) (zj (zt) (zj (zt) (zw))))) (zp (zp (zp (zp zD))))) (zj (zW (zj (zt) (zj (zt) (zj (zt) (zj (zt) (zw))))) (zp (zp (zp (zp zD))))) (zj (zW (zj (zt) (zj (zt) (zj (zt) (zj (zt) (zw))))) (zp (zp (zp (zp zD))))) (zw))))) (zp (zp (zp (zp zD))))))) (zx (qk (qu (zl 1) (qt (gK Z).up hr (zj (zl 0) (zj (zt) (zw)))))) (zI))):zN P w K mg base 2 "_law_unsteady" 1 Gk)
theorem OQ (Z:Zz K h mg):zN P w K mg base 2 "_law_bad_table" 1 ZM:=by
 obtain ⟨f,fd,F,a⟩:=Z.T.OS;exact (jK F (mg_of Z.X Z.G a) JU (λ _ _ _ _ _ _=>yt λ _=>rfl) λ cdv A outer s H E hr=>zx (qA 1 JU.nd (qT (zj (Qr) (zj (zt) (zj (zW (zw) (zD)) (zj (zW (zj (zW (zw) (zD)) (zw)) (zp zD)) (zj (zW (zj (zW (zj (zt) (zw)) (zp zD)) (zw)) (zp zD)) (zj (qT (zj (qT (zj (zt) (zw)) (zp zD)) (zw)) (zp zD)) (zj (zW (zj (qT (zj (zt) (zw)) (zp zD)) (zw)) (zp zD)) (zj (zW (zj (zW (zj (zt) (zw)) (zp zD)) (zj (zW (zj (zt) (zw)) (zp zD)) (zw))) (zp (zp zD))) (zj (zW (zj (zW (zj (zt) (zj (zt) (zw))) (zp (zp zD))) (zj (zW (zj (zt) (zj (zt) (zw))) (zp (zp zD))) (zw))) (zp (zp zD))) (zj (zW (zj (zW (zj (zt) (zj (zt) (zw))) (zp (zp zD))) (zj (zW (zj (zt) (zj (zt) (zw))) (zp (zp zD))) (zw))) (zp (zp zD))) (zj (Rh) (zw)))))))))))) (zp (zp (zp (zp (zp (zp (zp (zp (zp (zp (zp zD))))))))))))) (zx (qA 1 JU.nd (yV (zl 1) (qT (zj (zW (zj (zW (zj (zt) (zj (zt) (zw))) (zp (zp zD))) (zj (zW (zj (zt) (zj (zt) (zw))) (zp (zp zD))) (zw))) (zp (zp zD))) (zj (zW (zj (zW (zj (yj) (zw)) (zp zD)) (zw)) (zp zD)) (zj (zW (zj (zW (zj (zt) (zj (yj) (zw))) (zp (zp zD))) (zj (zW (zj (yj) (zj (zt) (zw))) (zp (zp zD))) (zw))) (zp (zp zD))) (zj (zW (zj (zW (zj (zt) (zj (Xi (zt)) (zw))) (zp (zp zD))) (zj (zW (zj (Xi (zt)) (zj (zt) (zw))) (zp (zp zD))) (zw))) (zp (zp zD))) (zj (zW (zj (zW (zj (zt) (zj (zt) (zw))) (zp (zp zD))) (zj (zW (zj (zt) (zj (zt) (zw))) (zp (zp zD))) (zj (zW (zj (zt) (zj (zt) (zw))) (zp (zp zD))) (zw)))) (zp (zp (zp zD)))) (zw)))))) (zp (zp (zp (zp (zp zD)))))))) (zx (qA 1 JU.nd (yV (zl 1) (qT (zj (zW (zj (zW (zj (zt) (zj (zt) (zj (zt) (zw)))) (zp (zp (zp zD)))) (zj (zW (zj (zt) (zj (zt) (zj (zt) (zw)))) (zp (zp (zp zD)))) (zj (zW (zj (zt) (zj (zt) (zj (zt) (zw)))) (zp (zp (zp zD)))) (zw)))) (zp (zp (zp zD)))) (zj (Yi) (zj (zW (zj (zW (zj (zt) (zj (zt) (zj (zt) (zw)))) (zp (zp (zp zD)))) (zj (zW (zj (zt) (zj (zt) (zj (zt) (zw)))) (zp (zp (zp zD)))) (zj (zW (zj (zt) (zj (zt) (zj (zt) (zw)))) (zp (zp (zp zD)))) (zw)))) (zp (zp (zp zD)))) (zj (zW (zj (zW (zj (zt) (zw)) (zp zD)) (zj (zW (zw) (zD)) (zw))) (zp (zp zD))) (zj (zW (zj (zt) (zw)) (zp zD)) (zw)))))) (zp (zp (zp (zp (zp zD)))))))) (zx (qA 1 JU.nd (yV (zl 1) (qT (zj (zW (zj (zW (zj (Qr) (zw)) (zp zD)) (zw)) (zp zD)) (zj (zW (zj (zW (zj (zt) (zj (zt) (zw))) (zp (zp zD))) (zj (zW (zj (zt) (zj (zt) (zw))) (zp (zp zD))) (zw))) (zp (zp zD))) (zw))) (zp (zp zD))))) (zx (qk (qu (zl 1) (qt (gK Z).up hr (zj (zl 0) (zj (zt) (zw)))))) (zI))))):zN P w K mg base 2 "_law_bad_table" 1 Gd)
theorem OH (Z:Zz K h mg):zN P w K mg base 3 "is_wholes_below" 3 ZL:=by
 obtain ⟨f,fd,F,a⟩:=Z.T.OJ;exact (jK F (mg_of Z.X Z.G a) OC (λ _ _ _ _ _ _=>Vt λ _ _ _=>rfl) λ cdv A outer s H E hr=>zx (qk (Qp (qt (Mm Z).up hr (zj (zl 0) (zj (zl 1) (zw)))) (Ji (Yh rfl Z.B.YC (km (ja (N:=["part", "limit"]) 1 [2] (yk (zl 0)) (λ _ _ _=>⟨qx 0 (qF (by kernel_rfl)),qL,qJ (RL Wy Vl (zt) (zl 0) (zl 1))⟩))))))) (zI):zN P w K mg base 3 "is_wholes_below" 3 Y6)
theorem Gj (Z:Zz K h mg):jg P w K mg base 3 "require_kind" 2 JW:=by
 obtain ⟨f,fd,F,a⟩:=Z.T.Na;exact (YE F (mg_of Z.X Z.G a) OY (λ _ _ _ _ _ _=>ZH λ _ _=>rfl) λ cdv A outer s H E hr xo=>zx (jB (Xe (Zo (gi (qt (OU Z).up hr (zj (zl 1) (zj (qt (Kk Z).up hr (zj (zl 0) (zw))) (zw))))))) (zx (GU xo (Z.C.exc "NoKind" (by decide +kernel)) (zj (Yi) (zw)) (zp zD)) (zI)) (zI)) (zI):jg P w K mg base 3 "require_kind" 2 JW)
theorem Nk (Z:Zz K h mg):zN P w K mg base 3 "kind_shares" 1 Kh:=by
 obtain ⟨f,fd,F,a⟩:=Z.T.Np;exact (jK F (mg_of Z.X Z.G a) Gv (λ _ _ _ _ _ _=>yt λ _=>rfl) λ cdv A outer s H E hr=>zx (qA 1 Gv.nd (qt (Uu Z).up hr (zj (zl 0) (zw)))) (zx (J2 2 (N:=["kind", "firsts"]) 1 [1] Gv.nd rfl (cps (by kernel_rfl)) (by kernel_rfl) (jA rfl Z.B.ju (qt (Kk Z).up hr (zj (zl 0) (zw)))) (λ _ _ _=>⟨qx 0 (qF (by kernel_rfl)),qL,qJ (LP hr (zl 1) (zl 0))⟩)) (zx (qk (ye (ja (N:=["a", "b", "table"]) 2 [0] (yk (zl 2)) (λ _ _ _=>⟨gc 0 1 rfl (qF (by kernel_rfl)),qL,qJ (qt (Gw Z).up hr (zj (zl 2) (zj (zl 0) (zj (zl 1) (zw)))))⟩)))) (zI))):zN P w K mg base 3 "kind_shares" 1 Ux).iso
theorem Ng (Z:Zz K h mg):zN P w K mg base 3 "search_break" 1 Kf:=by
 obtain ⟨f,fd,F,a⟩:=Z.T.Nd;exact (jK F (mg_of Z.X Z.G a) JY (λ _ _ _ _ _ _=>yt λ _=>rfl) λ cdv A outer s H E hr=>zx (kD PassesOwn.never rfl (Lz (qt (Uu Z).up hr (zj (zl 0) (zw)))) (M5 1 2 3 rfl JY.nd) (zx (qA 4 JY.nd (qt (Gw Z).up hr (zj (zl 0) (zj (zl 2) (zj (zl 3) (zw)))))) (zx (kD PassesOwn.never rfl (Jd rfl Z.B.Q3 (zl 0)) (gc 5 6 rfl JY.nd) (zx (kD PassesOwn.never rfl (Jd rfl Z.B.Q3 (zl 6)) (gc 7 8 rfl JY.nd) (zx (jB (KP (EW (j0 (kj hr) (zl 8) (zl 1)) (HY (j0 (ki hr) (qt (Gw Z).up hr (zj (zl 0) (zj (zl 5) (zj (zl 7) (zw))))) (zl 4))))) (zx (qk (zW (zj (zl 2) (zj (zl 3) (zj (zl 5) (zj (zl 7) (zw))))) (zp (zp (zp (zp zD)))))) (zI)) (zI)) (zI))) (zI))) (zI)))) (zx (qk (Qr)) (zI)):zN P w K mg base 3 "search_break" 1 Gs).iso
theorem NY (Z:Zz K h mg):zN P w K mg base 3 "_law_known" 1 Qi:=by
 obtain ⟨f,fd,F,a⟩:=Z.T.NU;exact (jK F (mg_of Z.X Z.G a) Ki (λ _ _ _ _ _ _=>yt λ _=>rfl) λ cdv A outer s H E hr=>zx (qA 1 Ki.nd (qt (NG Z).up hr (zj (qt (NX Z).up hr (zj (zl 0) (zw))) (zw)))) (zx (qA 2 Ki.nd (qt (VQ Z).up hr (zj (zl 0) (zj (Mz rfl Z.B.Qu Z.B.ju (kQ Z.B.kX (ym (zl 1)))) (zw))))) (zx (qA 3 Ki.nd (yV (qT (zj (zt) (zw)) (zp zD)) (qt (VQ Z).up hr (zj (zl 0) (zj (MP rfl Z.B.Qu Z.B.ju (zt) (yV (zt) (ZW rfl Z.B.Zu (km (ja (N:=["_law_row"]) 1 [] (yk (zl 1)) (λ _ _ _=>⟨qx 0 (qF (by kernel_rfl)),qL,qJ (ZW rfl Z.B.Zu (ym (zl 0)))⟩)))))) (zw)))))) (zx (qk (ZU Z.B.wq (km (ja (N:=["_law_a", "_law_rows", "_law_order", "_law_kinds_here"]) 1 [1,2,3] (yk (zl 2)) (λ _ _ _=>⟨qx 0 (qF (by kernel_rfl)),qL,qJ (ZU Z.B.wq (km (ja (N:=["_law_b", "_law_a", "_law_rows", "_law_kinds_here"]) 1 [0,1,3] (yk (zl 2)) (λ _ _ _=>⟨qx 0 (qF (by kernel_rfl)),qL,qJ (qu (zl 3) (qu (qu (zl 2) (zl 1)) (zl 0)))⟩))))⟩))))) (zI)))):zN P w K mg base 3 "_law_known" 1 Kq).Zb
theorem V7 (Z:Zz K h mg):zN P w K mg base 3 "_law_by_kind" 1 Zh:=by
 obtain ⟨f,fd,F,a⟩:=Z.T.O3;exact (jK F (mg_of Z.X Z.G a) JX (λ _ _ _ _ _ _=>yt λ _=>rfl) λ cdv A outer s H E hr=>zx (J2 1 (N:=["_law_kind"]) 1 [] JX.nd rfl (cps (by kernel_rfl)) (by kernel_rfl) (jA rfl Z.B.ju (qt (GH Z).up hr (zj (zl 0) (zw)))) (λ _ _ _=>⟨qx 0 (qF (by kernel_rfl)),qL,qJ (qT (zw) (zD))⟩)) (zx (kD PassesOwn.never rfl (jA rfl Z.B.ju (kQ Z.B.kX (ym (zl 0)))) (qx 2 JX.nd) (zx (kD PassesOwn.never rfl (jA rfl Z.B.ju (kQ Z.B.kX (ym (zl 0)))) (qx 3 JX.nd) (zx (qA 4 JX.nd (qt (Nn Z).up hr (zj (zl 0) (zj (zl 2) (zj (zl 3) (zw)))))) (zx (jB (Pf (Iq hr) (zl 4) (qu (zl 1) (qu (qu (zl 0) (zl 2)) (zl 3)))) (zx (kC (ZT (qu (zl 1) (qu (qu (zl 0) (zl 2)) (zl 3))) (zl 4))) (zI)) (zI)) (zI)))) (zI))) (zx (qk (zl 1)) (zI))):zN P w K mg base 3 "_law_by_kind" 1 Gq)
theorem N1 (Z:Zz K h mg):zN P w K mg base 1 "_law_same" 2 UH:=by
 obtain ⟨f,fd,F,a⟩:=Z.T.GN;exact (GK (k:=0) Z.B F (mg_of Z.X Z.G a) (C8 (ps:=["_law_found", "_law_due"]) F (mg_of Z.X Z.G a) (λ _ _ _ _ _ _=>ZH λ _ _=>rfl)))
theorem NP (Z:Zz K h mg):zN P w K mg base 2 "_law_same" 2 UE:=by
 obtain ⟨f,fd,F,a⟩:=Z.T.GN;exact (GK (k:=1) Z.B F (mg_of Z.X Z.G a) (N1 Z))
theorem N9 (Z:Zz K h mg):zN P w K mg base 3 "_law_same" 2 w8:=by
 obtain ⟨f,fd,F,a⟩:=Z.T.GN;exact (GK (k:=2) Z.B F (mg_of Z.X Z.G a) (NP Z))
theorem MN (Z:Zz K h mg):zN P w K mg base 4 "is_table" 1 gM:=by
 obtain ⟨f,fd,F,a⟩:=Z.T.MO;exact (jK F (mg_of Z.X Z.G a) UX (λ _ _ _ _ _ _=>yt λ _=>rfl) λ cdv A outer s H E hr=>zx (jB (KP (Xx (Zo (gi (gQ .tup Z.B.jM Z.B.wq (by rfl) (zl 0)))) (Xt (Zo (DO Wy Wy (zt) (kQ Z.B.kX (ym (zl 0))) (Ir rfl Z.B.NB.choose_spec)))))) (zx (qk (yj)) (zI)) (zI)) (zx (qA 1 UX.nd (kQ Z.B.kX (ym (zl 0)))) (zx (jB (Zo (gi (Yh rfl Z.B.YC (km (ja (N:=["row", "many"]) 1 [1] (yk (zl 0)) (λ _ _ _=>⟨qx 0 (qF (by kernel_rfl)),qL,qJ (qt (OH Z).up hr (zj (zl 0) (zj (zl 1) (zj (zl 1) (zw)))))⟩)))))) (zx (qk (yj)) (zI)) (zI)) (zx (qk (Qp (qt (Ln Z).up hr (zj (zl 0) (zw))) (Ji (qt (Oz Z).up hr (zj (zl 0) (zw)))))) (zI)))):zN P w K mg base 4 "is_table" 1 J4)
theorem Nm (Z:Zz K h mg):zN P w K mg base 4 "_law_steady" 1 Q0:=by
 obtain ⟨f,fd,F,a⟩:=Z.T.Ny;exact (jK F (mg_of Z.X Z.G a) O5 (λ _ _ _ _ _ _=>yt λ _=>rfl) λ cdv A outer s H E hr=>zx (qk (gv (kj hr) (ZW rfl Z.B.Zu (km (ja (N:=["_law_some"]) 1 [] (yk (qt (V7 Z).up hr (zj (zl 0) (zw)))) (λ _ _ _=>⟨qx 0 (qF (by kernel_rfl)),qL,qJ (kQ Z.B.kX (ym (zl 0)))⟩)))) (zt))) (zI):zN P w K mg base 4 "_law_steady" 1 Uo).iso
theorem OL (Z:Zz K h mg):jg P w K mg base 5 "require_table" 1 JV:=by
 obtain ⟨f,fd,F,a⟩:=Z.T.O1;exact (YE F (mg_of Z.X Z.G a) OM (λ _ _ _ _ _ _=>yt λ _=>rfl) λ cdv A outer s H E hr xo=>zx (jB (Xe (Zo (gi (qt (MN Z).up hr (zj (zl 0) (zw)))))) (zx (GU xo (Z.C.exc "NoTable" (by decide +kernel)) (zj (Yi) (zw)) (zp zD)) (zI)) (zI)) (zI):jg P w K mg base 5 "require_table" 1 JV)
theorem VP (Z:Zz K h mg):jg P w K mg base 6 "require_steady" 1 Qg:=by
 obtain ⟨f,fd,F,a⟩:=Z.T.OP;exact (YE F (mg_of Z.X Z.G a) OD (λ _ _ _ _ _ _=>yt λ _=>rfl) λ cdv A outer s H E hr xo=>zx (kC (wj xo (OL Z).up hr (zj (zl 0) (zw)))) (zx (jB (Xe (j0 F9 (qt (Ng Z).up hr (zj (zl 0) (zw))) (Qr))) (zx (GU xo (Z.C.exc "NotSteady" (by decide +kernel)) (zj (Yi) (zw)) (zp zD)) (zI)) (zI)) (zI)):jg P w K mg base 6 "require_steady" 1 Qg)
theorem TU (Z:Zz K h mg):jg P w K mg base 7 "number" 4 jw:=by
 obtain ⟨f,fd,F,a⟩:=Z.T.Iv;exact (YE F (mg_of Z.X Z.G a) Lj (λ _ _ _ _ _ _=>bd4 λ _ _ _ _=>rfl) λ cdv A outer s H E hr xo=>zx (kC (wj xo (VP Z).up hr (zj (zl 0) (zw)))) (zx (kC (wj xo (Gj Z).up hr (zj (zl 0) (zj (zl 1) (zw))))) (zx (kC (wj xo (Gj Z).up hr (zj (zl 0) (zj (zl 2) (zw))))) (zx (kC (wj xo (Gj Z).up hr (zj (zl 0) (zj (zl 3) (zw))))) (Sz (zx (qk (qu (qu (qu (qt (Nk Z).up hr (zj (zl 0) (zw))) (zl 3)) (zl 1)) (zl 2))) (zI)))))):jg P w K mg base 7 "number" 4 jw)
theorem IQ (Z:Zz K h mg):zN P w K mg base 7 "number" 4 Jb:=(TU Z).m.iso
theorem SV (Z:Zz K h mg):jg P w K mg base 7 "sizes" 1 jV:=by
 obtain ⟨f,fd,F,a⟩:=Z.T.Es;exact (YE F (mg_of Z.X Z.G a) Hz (λ _ _ _ _ _ _=>yt λ _=>rfl) λ cdv A outer s H E hr xo=>zx (kC (wj xo (VP Z).up hr (zj (zl 0) (zw)))) (Sz (zx (qk (qt (Nv Z).up hr (zj (zl 0) (zw)))) (zI))):jg P w K mg base 7 "sizes" 1 jV)
theorem Ek (Z:Zz K h mg):zN P w K mg base 7 "sizes" 1 Jf:=(SV Z).m.iso
end
end G
namespace Mi
open PySem L2
section
variable {m:Ev}
theorem Yp (h:m ρ A=.ok (.tup ws) A1):qz m ρ A=.ok ⟨λ A i=>(zO (.tup ws) A).map λ ws=>ws[i]?,ws.length⟩ A1:=by
 unfold qz YN;rw [h,zL]
 rfl
theorem KO (h:m ρ A=.ok (.tup ws) A)(hl:ws.length<=zY){g:W->W}(he:∀w∈ws,me (some w::cap.map λ i=>(ρ[i]?).join) A=.ok (g w) A):
  zV 1 cap (qz m) (zK 0) (zi (.bl true)) (zM me) ρ A=.ok (ws.map g) A:=by
 have e:=ZS (cap:=cap) (me:=me) (ρ:=ρ) (A:=A) (N:=ws.length) (item:=λ i=>ws.getD i .non) (g:=λ i=>g (ws.getD i .non)) (Yp h) rfl hl
  (λ i hi=>by show some ws[i]? =_;rw [getElem?_eq_getElem hi,getD_eq_getElem?_getD,getElem?_eq_getElem hi];rfl)
  (by show some ws[ws.length]? =_;rw [getElem?_eq_none (le_refl _)])
  (λ i hi=>by
   have:ws.getD i .non=ws[i]:=by rw [getD_eq_getElem?_getD,getElem?_eq_getElem hi];rfl
   rw [this];exact he _ (getElem_mem hi))
 rw [e]
 congr 1
 apply ext_getElem
 ·simp
 ·intro i h1 h2
  have hi:i<ws.length:=by simpa using h2
  simp [getD_eq_getElem?_getD,getElem?_eq_getElem hi]
theorem Tp (p:α->Bool):∀l:List α,gr (l.map λ x=>W.bl (p x))=some (l.map p)
 | []=>rfl
 | x::l=>by
  show (match YH (.bl (p x)),gr (l.map λ x=>W.bl (p x)) with | some k,some ks=>some (k::ks) | _,_=>none)=_
  rw [Tp p l];rfl
theorem Yg {p:α->Bool}{l:List α}(h:∀x∈l,p x=true):QM (l.map λ x=>W.bl (p x)) A=.ok (.bl true) A:=by
 show QR (λ ks=>ks.all id) _ A=_;unfold QR;rw [Tp];dsimp only
 have:(l.map p).all id=true:=by
  rw [List.all_map];exact qa4.mpr λ x hx=>h x hx
 rw [this]
theorem Jj {f:α->W}(h:∀x,(f x).nr=true):∀l:List α,qS (l.map f)=true
 | []=>rfl
 | x::l=>by
  show ((f x).nr&&qS (l.map f))=true;rw [h x,Jj h l];rfl
theorem JS (i j:Int)(A:Hx):jL (.int i) (.int j) A=.ok (.bl (decide (i=j))) A:=by
 show R.ok (W.bl (PyData.eqv (.int i) (.int j))) A=_;simp [PyData.eqv]
 rfl
theorem Of (i j:Int)(A:Hx):qK (.int i) (.int j) A=.ok (.bl (!decide (i=j))) A:=by
 show R.ok (W.bl (!PyData.eqv (.int i) (.int j))) A=_;simp [PyData.eqv]
 rfl
theorem Oo (i j:Bool)(A:Hx):qK (.bl i) (.bl j) A=.ok (.bl (!(i==j))) A:=by
 cases i<;>cases j<;>rfl
end
noncomputable def qa (r:List Int):W:=.tup (r.map W.int)
noncomputable def zr (t:List (List Int)):W:=.tup (t.map qa)
theorem Dc (r:List Int):(qa r).nr=true:=by
 show qS (r.map W.int)=true;exact Jj (λ _=>rfl) r
theorem Yj (t:List (List Int)):(zr t).nr=true:=by
 show qS (t.map qa)=true;exact Jj Dc t
end Mi
namespace G
open PySem L2 Mi
end G
namespace Mi
open PySem L2
theorem TB {j:jy}{st:W->Ex}{N:Nat}{item:Nat->W}{I:En->Prop}(hat:∀i,i<N->j.at_ A i=some (some (item i)))(hend:j.at_ A N=some none)
  (hs:∀i,i<N->∀ρ,I ρ->∃ρ',st (item i) ρ A=.ok (.nx ρ') A/\I ρ'):∀(n i:Nat) (ρ:En),i+n=N->I ρ->∃ρ',yG j st n i ρ A=.ok (.nx ρ') A/\I ρ':=by
 intro n
 induction n with
 | zero=>
  intro i ρ h I0
  have:i=N:=by omega
  subst this;exact ⟨ρ,U5 hend,I0⟩
 | succ n ih=>
  intro i ρ h I0;obtain ⟨ρ1,e1,I1⟩:=hs i (by omega) ρ I0
  obtain ⟨ρ2,e2,I2⟩:=ih (i+1) ρ1 (by omega) I1
  exact ⟨ρ2,(Sh (hat i (by omega)) e1).trans e2,I2⟩
theorem Q9 {m:Ev}(h:m ρ A=.ok (.tup ws) A1):ko m ρ A=.ok (yP (.tup ws) ws.length) A1:=by
 unfold ko;rw [h,zL]
 rfl
theorem JC {w:W}(h:ws[i]? =some w):(yP (.tup ws) ws.length).at_ A i=some (some (.tup [.int i,w])):=by
 show atEnd ws i _=_;unfold atEnd;rw [h]
theorem Jt :(yP (.tup ws) ws.length).at_ A ws.length=some none:=by
 show atEnd ws _ _=_;unfold atEnd;rw [getElem?_eq_none (le_refl _)];exact if_pos rfl
noncomputable def at2 (t:List (List Int))(a b:Nat):Int:=(t.getD a []).getD b 0
structure qo (t:List (List Int)):Prop where
 n1:1<=t.length
 n8:t.length<=8
 sq:∀r∈t,r.length=t.length
 lo:∀r∈t,∀v∈r,0<=v/\v<(t.length:Int)
 dg:∀a b,a<t.length->b<t.length->(at2 t a b=0↔a=b)
 sy:∀a b,a<t.length->b<t.length->at2 t a b=at2 t b a
 fu:∀k:Nat,(∃v∈t.flatten,(k:Int)<v)->(k:Int)∈t.flatten
section
variable {a b:Nat}
theorem Yx (ha:a<t.length):(t.map qa)[a]? =some (qa (t.getD a [])):=by
 rw [getElem?_map,getD_eq_getElem?_getD,getElem?_eq_getElem ha];rfl
theorem yi (ha:a<t.length):t.getD a []∈t:=by
 rw [getD_eq_getElem?_getD,getElem?_eq_getElem ha];exact getElem_mem ha
theorem gN (ha:a<t.length):zC (zr t) (.int a) A=.ok (qa (t.getD a [])) A:=by
 unfold zC;show (match wc (t.map qa) (a:Int) with | some w=>R.ok w A | none=>R.bad)=_
 rw [Wd (Yx ha)]
theorem int_at {r:List Int}(hb:b<r.length):(r.map W.int)[b]? =some (.int (r.getD b 0)):=by
 rw [getElem?_map,getD_eq_getElem?_getD,getElem?_eq_getElem hb];rfl
theorem Qt {r:List Int}(hb:b<r.length):zC (qa r) (.int b) A=.ok (.int (r.getD b 0)) A:=by
 unfold zC;show (match wc (r.map W.int) (b:Int) with | some w=>R.ok w A | none=>R.bad)=_
 rw [Wd (v:=.int (r.getD b 0)) (by rw [getElem?_map,getD_eq_getElem?_getD,getElem?_eq_getElem hb];rfl)]
end
end Mi
namespace G
open PySem L2 Mi
end G
namespace Mi
open PySem L2
section
theorem HB {j:jy}{c:Option W}(hj:∀i,i<ws.length->j.at_ A i=some (some (ws.getD i .non)))(hend:j.at_ A ws.length=some none)(he:∀w,me [c,some w] A=.ok w A):
  ∀(f i:Nat) (x:Option W) (acc:List W),i+f=ws.length->acc.length+f<=zY->∃y,qC j (zK 1) (zi (.bl true)) (zM me) f i [c,x] acc A=.ok ([c,y],acc++ws.drop i) A:=by
 intro f
 induction f with
 | zero=>
  intro i x acc h hl
  have:i=ws.length:=by omega
  subst this;refine ⟨x,?_⟩;unfold qC;rw [hend,drop_length,append_nil]
 | succ f ih=>
  intro i x acc h hl;have hi:i<ws.length:=by omega
  have ew:ws.getD i .non=ws[i]:=by rw [getD_eq_getElem?_getD,getElem?_eq_getElem hi];rfl
  obtain ⟨y,e⟩:=ih (i+1) (some ws[i]) (acc++[ws[i]]) (by omega) (by rw [length_append,length_singleton];omega)
  refine ⟨y,?_⟩;rw [qC,hj i hi,ew];dsimp only [zK,List.set,zi];rw [zL];dsimp only;have ee:zM me [c,some ws[i]] acc A=.ok ([c,some ws[i]],acc++[ws[i]]) A:=by
   unfold zM;rw [he,zL,if_pos (by omega)]
  rw [ee,zL];rw [e,append_assoc]
  congr 3
  rw [List.singleton_append,<- List.drop_eq_getElem_cons hi]
theorem Ij {j:jy}(hj:∀i,i<t.length->j.at_ A i=some (some (qa (t.getD i []))))(hend:j.at_ A t.length=some none):
  ∀(f i:Nat) (x y:Option W) (acc:List W),i+f=t.length->acc.length+(t.drop i).flatten.length<=zY->
   ∃ρ,qC j (zK 0) (zi (.bl true)) (JH (qz (zc 0)) (zK 1) (zi (.bl true)) (zM (zc 1))) f i [x,y] acc A=.ok (ρ,acc++(t.drop i).flatten.map W.int) A:=by
 intro f
 induction f with
 | zero=>
  intro i x y acc h hl
  have:i=t.length:=by omega
  subst this;refine ⟨[x,y],?_⟩;unfold qC;rw [hend,drop_length];simp
 | succ f ih=>
  intro i x y acc h hl;have hi:i<t.length:=by omega
  have er:t.getD i []=t[i]:=by rw [getD_eq_getElem?_getD,getElem?_eq_getElem hi];rfl
  have ed:t.drop i=t[i]::t.drop (i+1):=List.drop_eq_getElem_cons hi;rw [ed,flatten_cons,length_append] at hl;obtain ⟨z,e1⟩:=HB (A:=A) (j:=⟨λ A i_1=>(zO (qa t[i]) A).map λ ws=>ws[i_1]?,(t[i].map W.int).length⟩) (me:=zc 1) (ws:=t[i].map W.int) (c:=some (qa t[i]))
   (λ k hk=>by
    show some (t[i].map W.int)[k]? =_;rw [getD_eq_getElem?_getD,getElem?_eq_getElem hk];rfl)
   (by show some (t[i].map W.int)[(t[i].map W.int).length]? =_;rw [getElem?_eq_none (le_refl _)])
   (λ w=>zu rfl) (t[i].map W.int).length 0 y acc (by omega) (by rw [length_map];omega)
  rw [List.drop_zero] at e1;obtain ⟨ρ,e2⟩:=ih (i+1) (some (qa t[i])) z (acc++t[i].map W.int) (by omega) (by rw [length_append,length_map];omega)
  refine ⟨ρ,?_⟩;rw [qC,hj i hi,er];dsimp only [zK,List.set,zi];rw [zL];dsimp only;have ee:JH (qz (zc 0)) (zK 1) (zi (.bl true)) (zM (zc 1)) [some (qa t[i]),y] acc A=.ok ([some (qa t[i]),z],acc++t[i].map W.int) A:=by
   unfold JH;rw [Yp (ws:=t[i].map W.int) (A1:=A) (zu (i:=0) rfl),zL];exact e1
  rw [ee,zL];rw [e2,ed,flatten_cons,map_append,append_assoc]
theorem FL {m:Ev}(h:m ρ A=.ok (zr t) A)(hl:t.flatten.length<=zY):
  zV 2 [] (qz m) (zK 0) (zi (.bl true)) (JH (qz (zc 0)) (zK 1) (zi (.bl true)) (zM (zc 1))) ρ A=.ok (t.flatten.map W.int) A:=by
 have hlen:(t.map qa).length=t.length:=length_map ..;obtain ⟨ρ',e⟩:=Ij (t:=t) (A:=A) (j:=⟨λ A i=>(zO (zr t) A).map λ ws=>ws[i]?,(t.map qa).length⟩) (λ i hi=>by show some (t.map qa)[i]? =_;rw [Yx hi])
  (by show some (t.map qa)[t.length]? =_;rw [getElem?_eq_none (by omega)]) t.length 0 none none [] (by omega) (by simpa using hl)
 unfold zV;rw [Yp (ws:=t.map qa) h,zL];show R.bind (R.nox (qC ⟨λ A i=>(zO (zr t) A).map λ ws=>ws[i]?,(t.map qa).length⟩ _ _ _ (t.map qa).length 0 [none,none] [] A)) _=_;rw [hlen] at e ⊢;rw [e];simp
 rfl
end
theorem Ku:∀l:List Int,intsOf (l.map W.int)=some l
 | []=>rfl
 | i::l=>by
  show (match intsOf (l.map W.int) with | some is=>some (i::is) | none=>none)=_
  rw [Ku l]
theorem G9:∀(l:List Int) (m:Int),j5 l m=m∨j5 l m∈l
 | [],_=>.inl rfl
 | i::l,m=>by
  show j5 l (if i > m then i else m)=m∨j5 l (if i > m then i else m)∈i::l;rcases G9 l (if i > m then i else m) with e | e
  ·by_cases h:i > m
   ·rw [if_pos h] at e ⊢;exact .inr (by rw [e];exact mem_cons_self ..)
   ·rw [if_neg h] at e ⊢;exact .inl e
  ·exact .inr (mem_cons_of_mem _ e)
end Mi
namespace G
open PySem L2 Mi
theorem Hc (h:qo t):t.flatten.length<=64:=by
 have:∀l:List (List Int),(∀r∈l,r.length<=8)->l.flatten.length<=8 * l.length:=by
  intro l
  induction l with
  | nil=>intro _;simp
  | cons r l ih=>
   intro hr;have h1:=hr r (mem_cons_self ..);have h2:=ih λ r' hr'=>hr r' (mem_cons_of_mem _ hr');rw [flatten_cons,length_append,length_cons];omega
 have h8:=h.n8
 have:=this t λ r hr=>by rw [h.sq r hr];exact h.n8
 omega
end G
namespace Mi
open PySem L2
end Mi
namespace G
open PySem L2 Mi
section
theorem w9 (h:n<1000000):jN (n:Int)=true:=by
 unfold jN;simp;omega
end
end G
namespace Mi
open PySem L2
theorem Yf {m:Ev}(h:m ρ A=.ok (.ref n) A1)(hA:A1[n]? =some (.lst ws)):qz m ρ A=.ok ⟨λ A i=>(zO (.ref n) A).map λ ws=>ws[i]?,ws.length⟩ A1:=by
 unfold qz YN;rw [h,zL];have e:zO (.ref n) A1=some ws:=by unfold zO;dsimp only;rw [hA]
 rw [e]
theorem Z4 (hA:A[n]? =some (.lst ws)):((zO (.ref n) A).map λ ws=>ws[i]?)=some ws[i]?:=by
 have e:zO (.ref n) A=some ws:=by unfold zO;dsimp only;rw [hA]
 rw [e];rfl
noncomputable def kH:List Int->Int
 | []=>0
 | i::is=>j5 is i
theorem Xn {r:List Int}(h:r≠[]):j7 (r.map W.int) A=.ok (.int (kH r)) A:=by
 unfold j7;rw [Ku];cases r with
 | nil=>exact absurd rfl h
 | cons i is=>rfl
theorem Ya {r:List Int}(h:r≠[]):kH r∈r:=by
 cases r with
 | nil=>exact absurd rfl h
 | cons i is=>
  rcases G9 is i with e | e
  ·show j5 is i∈_;rw [e];exact mem_cons_self ..
  ·exact mem_cons_of_mem _ e
noncomputable def qB (t:List (List Int)):Int:=kH (t.map kH)+1
end Mi
namespace G
open PySem L2 Mi
section
theorem _root_.Mi.qo.row_ne (h:qo t){r:List Int}(hr:r∈t):r≠[]:=λ e=>by
 have h1:=h.sq r hr;have h2:=h.n1;rw [e,length_nil] at h1;omega
theorem _root_.Mi.qo.map_ne (h:qo t):t.map kH≠[]:=λ e=>by
 have:=h.n1
 rw [List.map_eq_nil_iff] at e;rw [e] at this;simp at this
theorem kx (h:qo t):1<=qB t/\qB t<=8:=by
 obtain ⟨r,hr,e⟩:=qa6.mp (Ya h.map_ne)
 have:=h.lo r hr _ (Ya (h.row_ne hr))
 have:=h.n8
 unfold qB;rw [<- e];omega
theorem Z8 (h:qo t){a b:Nat}(ha:a<t.length)(hb:b<t.length):0<=at2 t a b/\at2 t a b<8:=by
 have hl:=h.sq _ (yi ha)
 have:(t.getD a []).getD b 0∈t.getD a []:=by
  rw [getD_eq_getElem?_getD (l:=t.getD a []),getElem?_eq_getElem (by omega)];exact getElem_mem _
 have h1:=h.lo _ (yi ha) _ this
 have:=h.n8
 unfold at2;omega
theorem Jy (h:q ρ A=.ok ws A1):mQ yQ q ρ A=.ok (.tup ws) A1:=(yx h).trans rfl
end
end G
namespace Mi
open PySem L2
theorem gj {w:W}{s:Nat}(h:A[n]? =some (.lst ws))(hs:ws[s]? =some w):zC (.ref n) (.int (s:Int)) A=.ok w A:=by
 unfold zC;have e:zO (.ref n) A=some ws:=by unfold zO;dsimp only;rw [h]
 rw [e];dsimp only;rw [Wd hs]
theorem yg {u:O}(h:A[n]? =some o):(A++[u])[n]? =some o:=by
 have:=(qa2.mp h).1
 rw [getElem?_append_left this];exact h
theorem qH {u:O}:(A++[u])[A.length]? =some u:=by simp
noncomputable def QL (μ:Nat->Nat->Int)(a b:Nat)(k:Int):Nat->Nat->Int:=λ i j=>if i=a/\j=b then k else μ i j
structure Mu (n:Nat)(μ:Nat->Nat->Int)(c:Nat)(done:Nat->Nat->Prop):Prop where
 dg:∀i,μ i i=0
 sy:∀i j,μ i j=μ j i
 dn:∀i j,i<j->j<n->done i j->1<=μ i j/\μ i j<=(c:Int)
 un:∀i j,i<j->j<n->¬done i j->μ i j=0
 fu:∀k:Nat,1<=k->k<=c->∃i j,i<n/\j<n/\μ i j=(k:Int)
noncomputable def yI (n:Nat)(μ:Nat->Nat->Int):List (List Int):=(List.range n).map λ i=>(List.range n).map (μ i)
theorem Xj (hi:i<n)(hj:j<n):at2 (yI n μ) i j=μ i j:=by
 unfold at2 yI;rw [getD_eq_getElem?_getD (l:=(List.range n).map λ i=>(List.range n).map (μ i)),getElem?_map,getElem?_range hi];show ((List.range n).map (μ i)).getD j 0=_;rw [getD_eq_getElem?_getD,getElem?_map,getElem?_range hj]
 rfl
theorem Mu.tab {c:Nat}{d:Nat->Nat->Prop}(h:Mu n μ c d)(all:∀i j,i<j->j<n->d i j)(n1:1<=n)(n8:n<=8)(hc:n=1∨c<n):qo (yI n μ):=by
 have len:(yI n μ).length=n:=by unfold yI;simp
 have val:∀i j,i<n->j<n->i≠j->1<=μ i j/\μ i j<=(c:Int):=λ i j hi hj ne=>by
  rcases Nat.lt_or_gt_of_ne ne with q | q
  ·exact h.dn i j q hj (all i j q hj)
  ·rw [h.sy];exact h.dn j i q hi (all j i q hi)
 have mem:∀r∈yI n μ,∀v∈r,∃i j,i<n/\j<n/\v=μ i j:=λ r hr v hv=>by
  unfold yI at hr;obtain ⟨i,hi,rfl⟩:=qa6.mp hr;obtain ⟨j,hj,rfl⟩:=qa6.mp hv;exact ⟨i,j,qa5.mp hi,qa5.mp hj,rfl⟩
 have inF:∀i j,i<n->j<n->μ i j∈(yI n μ).flatten:=λ i j hi hj=>List.mem_flatten.mpr ⟨_,qa6.mpr ⟨i,qa5.mpr hi,rfl⟩,qa6.mpr ⟨j,qa5.mpr hj,rfl⟩⟩;refine ⟨by rw [len];exact n1,by rw [len];exact n8,λ r hr=>?_,λ r hr v hv=>?_,λ a b ha hb=>?_,λ a b ha hb=>?_,λ k hk=>?_⟩
 ·rw [len]
  unfold yI at hr;obtain ⟨i,hi,rfl⟩:=qa6.mp hr;simp
 ·rw [len]
  obtain ⟨i,j,hi,hj,rfl⟩:=mem r hr v hv
  by_cases q:i=j
  ·subst q;rw [h.dg];omega
  ·have:=val i j hi hj q
   omega
 ·rw [len] at ha hb
  rw [Xj ha hb]
  constructor
  ·intro e
   by_cases q:a=b
   ·exact q
   ·have:=val a b ha hb q;omega
  ·intro e;subst e;exact h.dg a
 ·rw [len] at ha hb
  rw [Xj ha hb,Xj hb ha];exact h.sy a b
 ·obtain ⟨v,hv,hlt⟩:=hk
  obtain ⟨r,hr,hv'⟩:=List.mem_flatten.mp hv;obtain ⟨i,j,hi,hj,rfl⟩:=mem r hr v hv'
  by_cases k0:k=0
  ·subst k0
   have:=inF 0 0 (by omega) (by omega)
   rw [h.dg] at this;exact this
  ·by_cases q:i=j
   ·subst q;rw [h.dg] at hlt;omega
   ·have:=val i j hi hj q
    obtain ⟨i',j',hi',hj',e⟩:=h.fu k (by omega) (by omega)
    have:=inF i' j' hi' hj'
    rw [e] at this;exact this
end Mi
namespace G
open PySem L2 Mi
theorem YA {i j:Int}(h1:-(2 ^ 64)<i)(h2:i<2 ^ 64):qO (.int i) (.int j) A=.ok (.int (i * j)) A:=by
 unfold qO;dsimp only;rw [if_pos];unfold YK;rw [or_eq_true,and_eq_true,decide_eq_true_iff,decide_eq_true_iff];exact .inl ⟨h1,h2⟩
theorem Jz {i j:Int}(h:0<j):wA (.int i) (.int j) A=.ok (.int (i % j)) A:=by
 unfold wA ZI;dsimp only;rw [if_pos];unfold WL;exact decide_eq_true h
theorem RR {i j:Int}(h:0<j)(h2:j<1152921504606846976):gZ (.int i) (.int j) A=.ok (.int (i / j)) A:=by
 unfold gZ ZI;dsimp only;rw [if_pos];unfold Wm;rw [and_eq_true,decide_eq_true_iff,decide_eq_true_iff];exact ⟨h,h2⟩
theorem Cm {c m:Int}(h1:0<m)(h2:m<1000000000000000):J3 [.ref 0,.int m] [.lst [.int c,.bl true]]=.ok (.int (c % m)) [.lst [.int (c / m),.bl true]]:=by
 refine qY ?_;unfold GJ;refine qG (A1:=[.lst [.int (c / m),.bl true]]) ?_;refine (gw (A1:=[.lst [.int c,.bl true]]) rfl).trans ?_;refine (zG (ρ1:=[some (.ref 0),some (.int m),some (.int (c % m)),none]) (A1:=[.lst [.int c,.bl true]]) ?_).trans ?_
 ·refine (qM (w:=.int (c % m)) (A1:=[.lst [.int c,.bl true]]) ?_).trans rfl
  exact (zQ (x:=.int c) (y:=.int m) (A1:=[.lst [.int c,.bl true]]) (A2:=[.lst [.int c,.bl true]]) rfl rfl).trans (Jz h1)
 ·refine (zG (ρ1:=[some (.ref 0),some (.int m),some (.int (c % m)),none]) (A1:=[.lst [.int (c / m),.bl true]]) ?_).trans rfl
  have e:zo gZ (zo zC (zc 0) (zi (.int 0))) (zc 1) [some (.ref 0),some (.int m),some (.int (c % m)),none] [.lst [.int c,.bl true]]=.ok (.int (c / m)) [.lst [.int c,.bl true]]:=
   (zQ (x:=.int c) (y:=.int m) (A1:=[.lst [.int c,.bl true]]) (A2:=[.lst [.int c,.bl true]]) rfl rfl).trans (RR h1 (by omega))
  unfold Jv;rw [e,zL]
  rfl
noncomputable def Qf (c:Int):Int:=(c * 48271+29) % 2147483647
noncomputable def wH (d:Int):Int:=(d * d+39373 * d+7) % 2147483629
noncomputable def wX (e:Int):Int:=(e * e+16807 * e) % 2147483587
theorem X5 (c:Int):0<=Qf c/\Qf c<2147483647:=⟨emod_nonneg _ (by decide),emod_lt_of_pos _ (by decide)⟩
theorem Bj (c:Int):0<=wH c/\wH c<2147483629:=⟨emod_nonneg _ (by decide),emod_lt_of_pos _ (by decide)⟩
theorem DW {c m:Int}(hc:0<=c)(hc2:c<2147483647)(h1:0<m)(h2:m<1000000000000000):J3 [.ref 0,.int m] [.lst [.int c,.bl false]]=.ok (.int (wX (wH (Qf c)) / 8 % m)) [.lst [.int (Qf c),.bl false]]:=by
 have b1:=X5 c;refine qY ?_;unfold GJ;refine (zG (ρ1:=[some (.ref 0),some (.int m),none,none]) (A1:=[.lst [.int c,.bl false]]) ((j4 (A1:=[.lst [.int c,.bl false]]) rfl).trans rfl)).trans ?_;have e1:zo wA (zo je (zo qO (zo zC (zc 0) (zi (.int 0))) (zi (.int 48271))) (zi (.int 29))) (zi (.int 2147483647)) [some (.ref 0),some (.int m),none,none] [.lst [.int c,.bl false]]=.ok (.int (Qf c)) [.lst [.int c,.bl false]]:=by
  have em:zo qO (zo zC (zc 0) (zi (.int 0))) (zi (.int 48271)) [some (.ref 0),some (.int m),none,none] [.lst [.int c,.bl false]]=.ok (.int (c * 48271)) [.lst [.int c,.bl false]]:=
   (zQ (x:=.int c) (y:=.int 48271) (A1:=[.lst [.int c,.bl false]]) (A2:=[.lst [.int c,.bl false]]) rfl rfl).trans (YA (by omega) (by omega))
  refine (zQ (x:=.int (c * 48271+29)) (y:=.int 2147483647) (A1:=[.lst [.int c,.bl false]]) (A2:=[.lst [.int c,.bl false]]) ((zQ em rfl).trans rfl) rfl).trans ?_;exact Jz (by decide)
 refine (zG (ρ1:=[some (.ref 0),some (.int m),none,none]) (A1:=[.lst [.int (Qf c),.bl false]]) ?_).trans ?_
 ·unfold Jv
  rw [e1,zL]
  rfl
 generalize Qf c=d at *;have e2:zo wA (zo je (zo je (zo qO (zo zC (zc 0) (zi (.int 0))) (zo zC (zc 0) (zi (.int 0)))) (zo qO (zi (.int 39373)) (zo zC (zc 0) (zi (.int 0))))) (zi (.int 7))) (zi (.int 2147483629)) [some (.ref 0),some (.int m),none,none] [.lst [.int d,.bl false]]=
   .ok (.int (wH d)) [.lst [.int d,.bl false]]:=by
  have em:zo qO (zo zC (zc 0) (zi (.int 0))) (zo zC (zc 0) (zi (.int 0))) [some (.ref 0),some (.int m),none,none] [.lst [.int d,.bl false]]=.ok (.int (d * d)) [.lst [.int d,.bl false]]:=
   (zQ (x:=.int d) (y:=.int d) (A1:=[.lst [.int d,.bl false]]) (A2:=[.lst [.int d,.bl false]]) rfl rfl).trans (YA (by omega) (by omega))
  have en:zo qO (zi (.int 39373)) (zo zC (zc 0) (zi (.int 0))) [some (.ref 0),some (.int m),none,none] [.lst [.int d,.bl false]]=.ok (.int (39373 * d)) [.lst [.int d,.bl false]]:=
   (zQ (x:=.int 39373) (y:=.int d) (A1:=[.lst [.int d,.bl false]]) (A2:=[.lst [.int d,.bl false]]) rfl rfl).trans (YA (by decide) (by decide))
  have es:zo je (zo qO (zo zC (zc 0) (zi (.int 0))) (zo zC (zc 0) (zi (.int 0)))) (zo qO (zi (.int 39373)) (zo zC (zc 0) (zi (.int 0)))) [some (.ref 0),some (.int m),none,none] [.lst [.int d,.bl false]]=.ok (.int (d * d+39373 * d)) [.lst [.int d,.bl false]]:=
   (zQ em en).trans rfl
  refine (zQ (x:=.int (d * d+39373 * d+7)) (y:=.int 2147483629) (A1:=[.lst [.int d,.bl false]]) (A2:=[.lst [.int d,.bl false]]) ((zQ es rfl).trans rfl) rfl).trans ?_;exact Jz (by decide)
 refine (zG (ρ1:=[some (.ref 0),some (.int m),none,some (.int (wH d))]) (A1:=[.lst [.int d,.bl false]]) ((qM e2).trans rfl)).trans ?_;have b2:=Bj d;generalize wH d=e at *;have e3:zo wA (zo je (zo qO (zc 3) (zc 3)) (zo qO (zi (.int 16807)) (zc 3))) (zi (.int 2147483587)) [some (.ref 0),some (.int m),none,some (.int e)] [.lst [.int d,.bl false]]=.ok (.int (wX e)) [.lst [.int d,.bl false]]:=by
  have em:zo qO (zc 3) (zc 3) [some (.ref 0),some (.int m),none,some (.int e)] [.lst [.int d,.bl false]]=.ok (.int (e * e)) [.lst [.int d,.bl false]]:=
   (zQ (x:=.int e) (y:=.int e) (A1:=[.lst [.int d,.bl false]]) (A2:=[.lst [.int d,.bl false]]) rfl rfl).trans (YA (by omega) (by omega))
  have en:zo qO (zi (.int 16807)) (zc 3) [some (.ref 0),some (.int m),none,some (.int e)] [.lst [.int d,.bl false]]=.ok (.int (16807 * e)) [.lst [.int d,.bl false]]:=
   (zQ (x:=.int 16807) (y:=.int e) (A1:=[.lst [.int d,.bl false]]) (A2:=[.lst [.int d,.bl false]]) rfl rfl).trans (YA (by decide) (by decide))
  refine (zQ (x:=.int (e * e+16807 * e)) (y:=.int 2147483587) (A1:=[.lst [.int d,.bl false]]) (A2:=[.lst [.int d,.bl false]]) ((zQ em en).trans rfl) rfl).trans ?_;exact Jz (by decide)
 refine (zG (ρ1:=[some (.ref 0),some (.int m),none,some (.int (wX e))]) (A1:=[.lst [.int d,.bl false]]) ((qM e3).trans rfl)).trans ?_;generalize wX e=f at *;refine qG (jd ?_);refine (zQ (x:=.int (f / 8)) (y:=.int m) (A1:=[.lst [.int d,.bl false]]) (A2:=[.lst [.int d,.bl false]]) ?_ rfl).trans (Jz h1);exact (zQ (x:=.int f) (y:=.int 8) (A1:=[.lst [.int d,.bl false]]) (A2:=[.lst [.int d,.bl false]]) rfl rfl).trans (RR (by decide) (by decide))
noncomputable def qW (n:Nat)(A:Hx):Prop:=∃c b,A[n]? =some (.lst [.int c,.bl b])/\0<=c/\(b=false->c<2147483647)
theorem RW (h:qW n A){m:Int}(h1:0<m)(h2:m<1000000000000000):∃r o,jZ [.ref n,.int m] A=.ok (.int r) (A.set n o)/\0<=r/\r<m/\qW n (A.set n o):=by
 obtain ⟨c,b,hA,hc,hb⟩:=h;have hn:n<A.length:=(qa2.mp hA).1;have fin:∀(r c':Int),J3 [.ref 0,.int m] [.lst [.int c,.bl b]]=.ok (.int r) [.lst [.int c',.bl b]]->jZ [.ref n,.int m] A=.ok (.int r) (A.set n (.lst [.int c',.bl b])):=λ r c' e=>by
  unfold jZ Zb;dsimp only;rw [hA];dsimp only;have hn1:(qS [W.int c,W.bl b]&&qS [W.int m])=true:=rfl;rw [if_pos hn1,e]
  rfl
 cases b with
 | true=>
  refine ⟨c % m,_,fin _ _ (Cm h1 h2),emod_nonneg _ (by omega),emod_lt_of_pos _ h1,c / m,true,getElem?_set_self hn,Int.ediv_nonneg hc (by omega),λ z=>nomatch z⟩
 | false=>
  exact ⟨_,_,fin _ _ (DW hc (hb rfl) h1 h2),emod_nonneg _ (by omega),emod_lt_of_pos _ h1,Qf c,false,getElem?_set_self hn,(X5 c).1,λ _=>(X5 c).2⟩
end G
namespace Mi
open PySem L2
theorem Xa {k:Nat}{xs ys:List W}(h:A[n]? =some (.lst xs))(h2:A[k]? =some (.lst ys))(hl:xs.length+ys.length<=zY):je (.ref n) (.ref k) A=.ok (.ref A.length) (A++[.lst (xs++ys)]):=by
 unfold je;dsimp only;rw [h,h2];dsimp only;rw [if_pos hl]
noncomputable def Ext (A A':Hx):Prop:=∃l,A'=A++l
theorem Ext.refl :Ext A A:=⟨[],by simp⟩
theorem Ext.trans {C:Hx}(a:Ext A B)(b:Ext B C):Ext A C:=let ⟨l,e⟩:=a;let ⟨k,f⟩:=b;⟨l++k,by rw [f,e,append_assoc]⟩
theorem Ext.one :Ext A (A++[o]):=⟨[o],rfl⟩
theorem Ext.at {A':Hx}(x:Ext A A')(h:A[n]? =some o):A'[n]? =some o:=by
 obtain ⟨l,rfl⟩:=x
 have:=(qa2.mp h).1
 rw [getElem?_append_left this];exact h
end Mi
namespace G
open PySem L2 Mi
end G
namespace Mi
open PySem L2
theorem Hk {j:jy}{ifs:Ev}{N:Nat}{I:Nat->En->List W->Hx->Prop}
  (hstep:∀i ρ acc A,i<N->I i ρ acc A->∃w ρ1,j.at_ A i=some (some w)/\tw w ρ=some ρ1/\((∃A1 ρ2 acc2 A2,ifs ρ1 A=.ok (.bl true) A1/\em ρ1 acc A1=.ok (ρ2,acc2) A2/\I (i+1) ρ2 acc2 A2)∨(∃A1,ifs ρ1 A=.ok (.bl false) A1/\I (i+1) ρ1 acc A1)))
  (hend:∀ρ acc A,I N ρ acc A->j.at_ A N=some none):
  ∀(f i:Nat) (ρ:En) (acc:List W) (A:Hx),i+f=N->I i ρ acc A->∃ρ' acc' A',qC j tw ifs em f i ρ acc A=.ok (ρ',acc') A'/\I N ρ' acc' A':=by
 intro f
 induction f with
 | zero=>
  intro i ρ acc A h hI
  have:i=N:=by omega
  subst this;refine ⟨ρ,acc,A,?_,hI⟩;unfold qC;rw [hend _ _ _ hI]
 | succ f ih=>
  intro i ρ acc A h hI;obtain ⟨w,ρ1,h1,h2,h3⟩:=hstep i ρ acc A (by omega) hI
  rw [qC,h1];dsimp only;rw [h2];dsimp only;rcases h3 with ⟨A1,ρ2,acc2,A2,e1,e2,e3⟩ | ⟨A1,e1,e3⟩
  ·rw [e1,zL]
   dsimp only;rw [e2,zL];exact ih (i+1) _ _ _ (by omega) e3
  ·rw [e1,zL]
   dsimp only;exact ih (i+1) _ _ _ (by omega) e3
theorem J5 {nl:Nat}{j:jy}{ifs:Ev}{N:Nat}{I:Nat->En->List W->Hx->Prop}(hm:mi ρ A=.ok j A1)(hj:j.len=N)
  (hstep:∀i ρ acc A,i<N->I i ρ acc A->∃w ρ1,j.at_ A i=some (some w)/\tw w ρ=some ρ1/\((∃A1 ρ2 acc2 A2,ifs ρ1 A=.ok (.bl true) A1/\em ρ1 acc A1=.ok (ρ2,acc2) A2/\I (i+1) ρ2 acc2 A2)∨(∃A1,ifs ρ1 A=.ok (.bl false) A1/\I (i+1) ρ1 acc A1)))
  (hend:∀ρ acc A,I N ρ acc A->j.at_ A N=some none)(h0:I 0 (Zs nl cap ρ) [] A1):∃ρ' acc' A',zV nl cap mi tw ifs em ρ A=.ok acc' A'/\I N ρ' acc' A':=by
 obtain ⟨ρ',acc',A',e,hI⟩:=Hk hstep hend N 0 _ _ _ (by omega) h0
 refine ⟨ρ',acc',A',?_,hI⟩;unfold zV;rw [hm,zL,hj,e]
 rfl
theorem wL {j:jy}{st:W->Ex}{N:Nat}{I:Nat->En->Hx->Prop}
  (hstep:∀i ρ A,i<N->I i ρ A->∃w ρ1 A1,j.at_ A i=some (some w)/\st w ρ A=.ok (.nx ρ1) A1/\I (i+1) ρ1 A1)(hend:∀ρ A,I N ρ A->j.at_ A N=some none):
  ∀(f i:Nat) (ρ:En) (A:Hx),i+f=N->I i ρ A->∃ρ' A',yG j st f i ρ A=.ok (.nx ρ') A'/\I N ρ' A':=by
 intro f
 induction f with
 | zero=>
  intro i ρ A h hI
  have:i=N:=by omega
  subst this;exact ⟨ρ,A,U5 (hend _ _ hI),hI⟩
 | succ f ih=>
  intro i ρ A h hI;obtain ⟨w,ρ1,A1,h1,h2,h3⟩:=hstep i ρ A (by omega) hI
  rw [Sh h1 h2];exact ih (i+1) _ _ (by omega) h3
theorem Yd {acc:List W}{y:W}(h:me ρ A=.ok y A1)(hl:acc.length<zY):zM me ρ acc A=.ok (ρ,acc++[y]) A1:=by
 unfold zM;rw [h,zL,if_pos hl]
theorem take_succ {l:List α}(h:i<l.length):l.take (i+1)=l.take i++[l[i]]:=by
 rw [List.take_succ,getElem?_eq_getElem h];rfl
theorem Ext.set (x:Ext A B)(h:A.length<=n):Ext A (B.set n o):=by
 obtain ⟨l,rfl⟩:=x;exact ⟨l.set (n - A.length) o,by rw [set_append_right _ _ h]⟩
theorem Ext.app {l:Hx}(x:Ext A B):Ext A (B++l):=x.trans ⟨l,rfl⟩
theorem Ext.len (x:Ext A B):A.length<=B.length:=by obtain ⟨l,rfl⟩:=x;simp
theorem Zl (h:A[n]? =some o):n<A.length:=(qa2.mp h).1
end Mi
namespace G
open PySem L2 Mi
theorem RP {w:W}(hA:A[n]? =some (.lst ws))(h:ws[i]? =some w):((zO (.ref n) A).map λ ws=>ws[i]?)=some (some w):=by
 rw [Z4 hA,h]
theorem Pl (hA:A[n]? =some (.lst ws))(h:ws.length<=i):((zO (.ref n) A).map λ ws=>ws[i]?)=some none:=by
 rw [Z4 hA,getElem?_eq_none h]
end G
namespace Mi
open PySem L2
theorem K8:∀(l:List Int) (m:Int),m<=j5 l m/\∀x∈l,x<=j5 l m
 | [],m=>⟨Int.le_refl _,λ x h=>by cases h⟩
 | y::l,m=>by
  unfold j5
  split
  ·rename_i hy
   obtain ⟨h1,h2⟩:=K8 l y;refine ⟨by omega,λ x hx=>?_⟩
   rcases qa3.mp hx with rfl | hx
   ·exact h1
   ·exact h2 x hx
  ·rename_i hy
   obtain ⟨h1,h2⟩:=K8 l m;refine ⟨h1,λ x hx=>?_⟩;rcases qa3.mp hx with rfl | hx
   ·omega
   ·exact h2 x hx
theorem Td :∀{l:List α} {k:Nat} {w:α},l[k]? =some w->l.Perm (w::l.eraseIdx k)
 | [],_,_,h=>by simp at h
 | x::l,0,w,h=>by
  simp at h;subst h;simp
 | x::l,k+1,w,h=>by
  rw [List.getElem?_cons_succ] at h;rw [List.eraseIdx_cons_succ];exact ((Td h).cons x).trans (List.Perm.swap w x _)
theorem MD {k:Nat}{i:Int}{w:W}(h:A[n]? =some (.lst ws))(hw:ws[k]? =some w)(hs:jN i=true)(e:seqIndex? i ws.length=some k):gR (.ref n) (.int i) A=.ok w (A.set n (.lst (ws.eraseIdx k))):=by
 unfold gR;dsimp only;rw [h];dsimp only;rw [if_pos hs,e];dsimp only;rw [hw]
theorem CL {k:Nat}(hl:k<n):seqIndex? (k:Int) n=some k:=by
 have:=PySem.StrLaws.seqIndex_nonneg (i:=(k:Int)) (n:=n) (by omega) (by omega)
 rw [toNat_natCast] at this;exact this
theorem LJ {k:Nat}{w:W}(h:A[n]? =some (.lst ws))(hw:ws[k]? =some w)(hk:k<1000000):gR (.ref n) (.int (k:Int)) A=.ok w (A.set n (.lst (ws.eraseIdx k))):=
 MD h hw (G.w9 hk) (CL (qa2.mp hw).1)
theorem TX {β:Type}(f:α->β):∀(l:List α) (k:Nat),(l.map f).eraseIdx k=(l.eraseIdx k).map f
 | [],_=>rfl
 | _::_,0=>rfl
 | a::l,k+1=>by
  rw [map_cons,List.eraseIdx_cons_succ,List.eraseIdx_cons_succ,map_cons,TX f l k]
theorem ZV {a b:Ev}{y:W}(ha:a ρ A=.ok (.ref n) A)(hA:A[n]? =some (.lst ws))(hb:b ρ A=.ok y A1):jO g a b ρ A=g (.ref n) y A1:=by
 unfold jO;have hl:JN (.ref n) A=true:=by unfold JN;dsimp only;rw [hA]
 rw [ha,zL,if_pos hl,hb,zL]
theorem Q6 {y:W}(h:A[n]? =some (.lst ws))(hl:ws.length<1000):yd (.ref n) y A=.ok .non (A.set n (.lst (ws++[y]))):=by
 unfold yd;dsimp only;rw [h];dsimp only;rw [if_pos (by unfold zY;omega)]
theorem EH {f:Fn}{us:List W}{c c':Int}{b b':Bool}{w:W}(hA:A[n]? =some (.lst [.int c,.bl b]))(hu:qS us=true)(h:f (.ref 0::us) [.lst [.int c,.bl b]]=.ok w A1)(h1:A1[0]? =some (.lst [.int c',.bl b']))(hw:w.nr=true):Zb f (.ref n::us) A=.ok w (A.set n (.lst [.int c',.bl b'])):=by
 unfold Zb;dsimp only;rw [hA];dsimp only;have h2:(qS [W.int c,W.bl b]&&qS us)=true:=by rw [hu];rfl
 rw [if_pos h2,h];dsimp only;rw [List.head?_eq_getElem?,h1];dsimp only;have h3:(qS [W.int c',W.bl b']&&w.nr)=true:=by rw [hw];rfl
 rw [if_pos h3]
noncomputable abbrev iL (l:List Nat):List W:=l.map λ (a:Nat)=>W.int (a:Int)
end Mi
namespace G
open PySem L2 Mi
theorem Ik {m:Ev}(h:m ρ A=.ok (.int (n:Int)) A1)(hn:n<=100):Yo m ρ A=.ok (.ref A1.length) (A1++[.lst (iL (List.range n))]):=by
 unfold Yo;rw [h,zL];dsimp only;rw [w9 (by omega),toNat_natCast,decide_eq_true (by unfold zY;omega)]
 rfl
end G
namespace Mi
open PySem L2
theorem Fc {m:Ev}{o:List α}{f:α->W}{G:α->W}(h:m ρ A=.ok (.tup (o.map f)) A)(hl:o.length<=zY)(he:∀a∈o,me (some (f a)::cap.map λ i=>(ρ[i]?).join) A=.ok (G a) A):
  zV 1 cap (qz m) (zK 0) (zi (.bl true)) (zM me) ρ A=.ok (o.map G) A:=by
 by_cases h0:o=[]
 ·subst h0
  have e:=ZS (cap:=cap) (me:=me) (ρ:=ρ) (A:=A) (N:=0) (item:=λ _=>.non) (g:=λ _=>.non) (Yp h) rfl (by unfold zY;omega) (λ i hi=>by omega) rfl (λ i hi=>by omega)
  exact e
 ·obtain ⟨x,hx⟩:∃x,x∈o:=List.exists_mem_of_ne_nil o h0
  have e:=ZS (cap:=cap) (me:=me) (ρ:=ρ) (A:=A) (N:=o.length) (item:=λ i=>f (o.getD i x)) (g:=λ i=>G (o.getD i x)) (Yp h) (length_map ..) hl
   (λ i hi=>by show some (o.map f)[i]? =_;rw [getElem?_map,getElem?_eq_getElem hi,getD_eq_getElem?_getD,getElem?_eq_getElem hi];rfl)
   (by show some (o.map f)[o.length]? =_;rw [getElem?_eq_none (by rw [length_map];exact le_refl _)])
   (λ i hi=>by
    have:o.getD i x=o[i]:=by rw [getD_eq_getElem?_getD,getElem?_eq_getElem hi];rfl
    rw [this];exact he _ (getElem_mem hi))
  rw [e]
  congr 1
  apply ext_getElem
  ·simp
  ·intro i h1 h2
   have hi:i<o.length:=by simpa using h2
   simp [getD_eq_getElem?_getD,getElem?_eq_getElem hi]
theorem J0 {β:Type}(o:List α)(x:α)(f:α->β):o.map f=(List.range o.length).map λ i=>f (o.getD i x):=by
 apply ext_getElem
 ·simp
 ·intro i h1 h2
  have hi:i<o.length:=by simpa using h1
  simp [getD_eq_getElem?_getD,getElem?_eq_getElem hi]
theorem Ry (hq:∀r∈t,r.length=t.length){v:Int}(h:v∈t.flatten):∃a b,a<t.length/\b<t.length/\at2 t a b=v:=by
 obtain ⟨r,hr,hv⟩:=List.mem_flatten.mp h;obtain ⟨a,ha,e1⟩:=getElem_of_mem hr;obtain ⟨b,hb,e2⟩:=getElem_of_mem hv;refine ⟨a,b,ha,by rw [<- hq r hr];exact hb,?_⟩
 unfold at2;have e3:t.getD a []=r:=by rw [getD_eq_getElem?_getD,getElem?_eq_getElem ha];exact e1
 rw [e3,getD_eq_getElem?_getD,getElem?_eq_getElem hb];exact e2
theorem Er (hq:∀r∈t,r.length=t.length){a b:Nat}(ha:a<t.length)(hb:b<t.length):∃r∈t,at2 t a b∈r/\at2 t a b∈t.flatten:=by
 have h1:t.getD a []∈t:=yi ha;have h2:at2 t a b∈t.getD a []:=by
  unfold at2;have hb':b<(t.getD a []).length:=by rw [hq _ h1];exact hb
  rw [getD_eq_getElem?_getD (l:=t.getD a []),getElem?_eq_getElem hb'];exact getElem_mem _
 exact ⟨_,h1,h2,List.mem_flatten.mpr ⟨_,h1,h2⟩⟩
theorem RD {r:List Int}{x:Int}(h:x∈r):x<=kH r:=by
 cases r with
 | nil=>cases h
 | cons i is=>
  show x<=j5 is i;rcases qa3.mp h with rfl | h
  ·exact (K8 is x).1
  ·exact (K8 is i).2 x h
end Mi
namespace G
open PySem L2 Mi
section
theorem Wl (h:qo t){a b:Nat}(ha:a<t.length)(hb:b<t.length):at2 t a b<qB t:=by
 obtain ⟨r,hr,h1,_⟩:=Er h.sq ha hb;have e1:=RD h1;have e2:=RD (qa6.mpr ⟨r,hr,rfl⟩:kH r∈t.map kH);unfold qB;omega
theorem Xm (h:qo t):qB t - 1∈t.flatten:=by
 obtain ⟨r,hr,e⟩:=qa6.mp (Ya h.map_ne)
 have:qB t - 1=kH r:=by unfold qB;omega
 rw [this];exact List.mem_flatten.mpr ⟨r,hr,Ya (h.row_ne hr)⟩
theorem Dy (h:qo t):qB t<=(t.length:Int):=by
 obtain ⟨r,hr,hv⟩:=List.mem_flatten.mp (Xm h)
 have:=h.lo r hr _ hv
 omega
theorem Yz (h:qo t){v:Nat}(hv:(v:Int)<qB t):∃a b,a<t.length/\b<t.length/\at2 t a b=(v:Int):=by
 by_cases e:(v:Int)=qB t - 1
 ·rw [e];exact Ry h.sq (Xm h)
 ·exact Ry h.sq (h.fu v ⟨_,Xm h,by omega⟩)
noncomputable def jf (p:List Nat):List Int:=0::p.map λ (k:Nat)=>1+(k:Int)
noncomputable def kZ (t:List (List Int))(p o:List Nat):List (List Int):=o.map λ a=>o.map λ b=>(jf p).getD (at2 t a b).toNat 0
theorem Je {p:List Nat}{v:Nat}(h1:1<=v)(h2:v<=p.length):(jf p).getD v 0=1+((p[v - 1]'(by omega):Nat):Int):=by
 obtain ⟨v,rfl⟩:∃u,v=u+1:=⟨v - 1,by omega⟩
 unfold jf;rw [getD_eq_getElem?_getD,List.getElem?_cons_succ,getElem?_map,getElem?_eq_getElem (by omega)]
 rfl
theorem Tt (h:qo t){p o:List Nat}(hp:p.Perm (List.range (qB t - 1).toNat))(ho:o.Perm (List.range t.length)):qo (kZ t p o)/\(kZ t p o).length=t.length:=by
 have hol:o.length=t.length:=by rw [ho.length_eq,length_range]
 have kb:=kx h;have kl:=Dy h;have hpl:p.length=(qB t - 1).toNat:=by rw [hp.length_eq,length_range]
 have n1:=h.n1;have hin:∀i,o.getD i 0<t.length:=λ i=>by
  by_cases hi:i<o.length
  ·rw [getD_eq_getElem?_getD,getElem?_eq_getElem hi]
   exact qa5.mp (ho.mem_iff.mp (getElem_mem hi))
  ·rw [getD_eq_getElem?_getD,getElem?_eq_none (by omega)]
   exact n1
 have hnd:o.Nodup:=(ho.nodup_iff).mpr List.nodup_range;have hsur:∀a,a<t.length->∃i,i<t.length/\o.getD i 0=a:=λ a ha=>by
  obtain ⟨i,hi,e⟩:=getElem_of_mem (ho.mem_iff.mpr (qa5.mpr ha));exact ⟨i,by omega,by rw [getD_eq_getElem?_getD,getElem?_eq_getElem hi];exact e⟩
 have hplt:∀q (hq:q<p.length),p[q]<p.length:=λ q hq=>by
  have:=qa5.mp (hp.mem_iff.mp (getElem_mem hq))
  omega
 have hM:Mu t.length (λ i j=>(jf p).getD (at2 t (o.getD i 0) (o.getD j 0)).toNat 0) p.length (λ _ _=>True):=by
  refine ⟨λ i=>?_,λ i j=>?_,λ i j hij hj _=>?_,λ i j _ _ hn=>absurd trivial hn,λ k k1 kc=>?_⟩
  ·show (jf p).getD (at2 t (o.getD i 0) (o.getD i 0)).toNat 0=0
   rw [(h.dg _ _ (hin i) (hin i)).mpr rfl]
   rfl
  ·show (jf p).getD (at2 t (o.getD i 0) (o.getD j 0)).toNat 0=(jf p).getD (at2 t (o.getD j 0) (o.getD i 0)).toNat 0
   rw [h.sy _ _ (hin i) (hin j)]
  ·show 1<=(jf p).getD (at2 t (o.getD i 0) (o.getD j 0)).toNat 0/\(jf p).getD (at2 t (o.getD i 0) (o.getD j 0)).toNat 0<=(p.length:Int)
   have hne:o.getD i 0≠o.getD j 0:=by
    have hi':i<o.length:=by omega
    have hj':j<o.length:=by omega
    rw [getD_eq_getElem?_getD,getElem?_eq_getElem hi',getD_eq_getElem?_getD,getElem?_eq_getElem hj'];intro e;have e':o[i]=o[j]:=e
    have:=(getElem_inj hnd).mp e'
    omega
   have d:=h.dg _ _ (hin i) (hin j);have b0:=Z8 h (hin i) (hin j);have b2:=Wl h (hin i) (hin j);have b3:at2 t (o.getD i 0) (o.getD j 0)≠0:=λ e=>hne (d.mp e);rw [Je (by omega) (by omega)]
   have:=hplt ((at2 t (o.getD i 0) (o.getD j 0)).toNat - 1) (by omega)
   omega
  ·obtain ⟨q,hq,e⟩:=getElem_of_mem (hp.mem_iff.mpr (qa5.mpr (by omega:k - 1<(qB t - 1).toNat)))
   obtain ⟨a,b,ha,hb,e2⟩:=Yz h (v:=q+1) (by omega)
   obtain ⟨i,hi,e3⟩:=hsur a ha;obtain ⟨j,hj,e4⟩:=hsur b hb;refine ⟨i,j,hi,hj,?_⟩;show (jf p).getD (at2 t (o.getD i 0) (o.getD j 0)).toNat 0=(k:Int);rw [e3,e4,e2,toNat_natCast,Je (by omega) (by omega)]
   have:p[q+1 - 1]'(by omega)=k - 1:=e
   rw [this];omega
 have hT:kZ t p o=yI t.length (λ i j=>(jf p).getD (at2 t (o.getD i 0) (o.getD j 0)).toNat 0):=by
  unfold kZ yI;rw [J0 o 0,hol]
  congr 1
  funext i
  rw [J0 o 0 (λ b=>(jf p).getD (at2 t (o.getD i 0) b).toNat 0),hol]
 refine ⟨?_,by unfold kZ;rw [length_map,hol]⟩
 rw [hT];exact hM.tab (λ _ _ _ _=>trivial) n1 h.n8 (.inr (by omega))
end
end G
namespace Mi
open PySem L2
theorem FJ {r b:Nat}{v:W}(h:A[r]? =some (.lst ws))(hb:b<ws.length):wD (.ref r) (.int (b:Int)) v A=.ok () (A.set r (.lst (ws.set b v))):=by
 have e:w6 ws.length (b:Int)=some b:=by unfold w6;rw [if_pos (by omega),if_pos (by omega),toNat_natCast]
 unfold wD;dsimp only;rw [h];dsimp only;rw [e]
structure Kp (n:Nat)(A B:Hx):Prop where
 len:A.length<=B.length
 at_:∀i,i<A.length->i≠n->B[i]? =A[i]?
section
variable {C:Hx}
theorem Kp.refl:Kp n A A:=⟨le_refl _,λ _ _ _=>rfl⟩
theorem Kp.trans (a:Kp n A B)(b:Kp n B C):Kp n A C:=⟨le_trans a.len b.len,λ i h1 h2=>(b.at_ i (lt_of_lt_of_le h1 a.len) h2).trans (a.at_ i h1 h2)⟩
theorem Kp.set :Kp n A (A.set n o):=⟨by rw [length_set];exact le_refl _,λ i _ h=>getElem?_set_ne (Ne.symm h)⟩
theorem Kp.ext (x:Ext A B):Kp n A B:=by
 obtain ⟨l,rfl⟩:=x;exact ⟨by simp,λ i h _=>getElem?_append_left h⟩
theorem Kp.put (a:Kp n A B){k:Nat}(h:A.length<=k):Kp n A (B.set k o):=⟨by rw [length_set];exact a.len,λ i h1 h2=>by rw [getElem?_set_ne (by omega)];exact a.at_ i h1 h2⟩
theorem Kp.get (a:Kp n A B)(h:A[i]? =some o)(hn:i≠n):B[i]? =some o:=by rw [a.at_ i (Zl h) hn];exact h
end
theorem Yc :(yI n μ).length=n:=by unfold yI;simp
theorem Rg :∀r∈yI n μ,r.length=(yI n μ).length:=λ r hr=>by
 obtain ⟨i,_,rfl⟩:=qa6.mp hr;rw [Yc];simp
end Mi
namespace G
open PySem L2 Mi
end G
namespace Mi
open PySem L2
end Mi
namespace G
open PySem L2 Mi
section
noncomputable abbrev Sq (t:List (List Int)):Prop:=∀r∈t,r.length=t.length
end
end G
namespace Mi
open PySem L2
noncomputable def Vj (t:List (List Int)):Bool:=decide (1<=t.length)&&(decide (t.length<=8)&&((t.all λ r=>r.length==t.length&&r.all λ v=>decide (0<=v)&&decide (v<(t.length:Int)))&&
 (((List.range t.length).all λ a=>(List.range t.length).all λ b=>(decide (at2 t a b=0)==decide (a=b))&&decide (at2 t a b=at2 t b a))&&(List.range 8).all λ k=>!(t.flatten.any λ v=>decide ((k:Int)<v)) || t.flatten.contains (k:Int))))
theorem Wa (h:Vj t=true):qo t:=by
 unfold Vj at h;rw [and_eq_true,and_eq_true,and_eq_true,and_eq_true,decide_eq_true_iff,decide_eq_true_iff] at h;obtain ⟨n1,n8,hr,hs,hf⟩:=h;have rw_:∀r∈t,r.length=t.length/\∀v∈r,0<=v/\v<(t.length:Int):=λ r hm=>by
  have:=qa4.mp hr r hm
  rw [and_eq_true,beq_iff_eq] at this;refine ⟨this.1,λ v hv=>?_⟩
  have:=qa4.mp this.2 v hv
  rw [and_eq_true,decide_eq_true_iff,decide_eq_true_iff] at this;exact this
 have at_:∀a b,a<t.length->b<t.length->(decide (at2 t a b=0)==decide (a=b))=true/\at2 t a b=at2 t b a:=λ a b ha hb=>by
  have:=qa4.mp (qa4.mp hs a (qa5.mpr ha)) b (qa5.mpr hb)
  rw [and_eq_true,decide_eq_true_iff] at this;exact this
 refine ⟨n1,n8,λ r hm=>(rw_ r hm).1,λ r hm=>(rw_ r hm).2,λ a b ha hb=>?_,λ a b ha hb=>(at_ a b ha hb).2,λ k hk=>?_⟩
 ·have:=beq_iff_eq.mp (at_ a b ha hb).1
  by_cases q:a=b
  ·rw [decide_eq_true q] at this;exact ⟨λ _=>q,λ _=>of_decide_eq_true this⟩
  ·rw [decide_eq_false q] at this;exact ⟨λ z=>absurd z (of_decide_eq_false this),λ z=>absurd z q⟩
 ·obtain ⟨v,hv,hlt⟩:=hk
  obtain ⟨r,hm,hv'⟩:=List.mem_flatten.mp hv
  have:=(rw_ r hm).2 v hv'
  have h8:=qa4.mp hf k (qa5.mpr (by omega))
  rw [or_eq_true] at h8;rcases h8 with z | z
  ·exfalso
   have:(t.flatten.any λ v=>decide ((k:Int)<v))=true:=List.any_eq_true.mpr ⟨v,hv,decide_eq_true hlt⟩
   rw [this] at z;cases z
  ·exact List.contains_iff_mem.mp z
end Mi
namespace G
open PySem L2 Mi
theorem kL (t:List (List Int)):((zr t).nr&&true)=true:=by rw [Yj];rfl
end G
namespace Mi
open PySem L2
noncomputable def Vz:W->Bool
 | .int _=>true
 | _=>false
end Mi
namespace G
open PySem L2 Mi
theorem JG {m:Ev}{w:W}{ty c:Ty}(h:m ρ A=.ok w A1)(ht:jz w A1=some ty):ka c m ρ A=.ok (.bl (yH ty c)) A1:=by
 unfold ka;rw [h,zL,ht]
theorem PH (h:ρ[i]? =some (some (.tup ws))):mQ jb (qm (zc i)) ρ A=.ok (.int ws.length) A:=by
 rw [yx (kR (w:=.tup ws) (A1:=A) (zu h) rfl)]
 rfl
theorem E8 {v n:Int}(hi:ρ[i]? =some (some (.int v)))(hn:me ρ A=.ok (.int n) A):yO gB QS (zi (.int 0)) (zc i) me ρ A=.ok (.bl (decide (0<=v)&&decide (v<n))) A:=by
 unfold yO;rw [q9,zL,zu hi,zL];show R.bind (R.ok (W.bl (decide ((0:Int)<=v))) A) _=_
 by_cases h:0<=v
 ·rw [decide_eq_true h,zL]
  dsimp only;rw [hn,zL]
  rfl
 ·rw [decide_eq_false h,zL]
  rfl
end G
namespace Mi
open PySem L2
end Mi
namespace G
open PySem L2 Mi
theorem Mx (i:Int)(A:Hx):Zj [.int i] A=.ok (.bl true) A:=by
 unfold Zj Kz;exact qY (w:=.bl true) (A1:=A) rfl
theorem HH {r:List Int}(hl:r.length<=8)(A:Hx):Q4 [qa r,.int r.length] A=.ok (.bl true) A:=by
 unfold Q4 Kt;refine qY ?_;unfold GP;refine qG (jd ?_);refine (Z2 (A1:=A) rfl).trans ?_;have el:mQ jb (qm (zc 0)) [some (qa r),some (.int r.length)] A=.ok (.int r.length) A:=by
  rw [yx (kR (w:=qa r) (A1:=A) (zu rfl) rfl)];unfold jb;rw [length_map]
 refine (Z2 (A1:=A) ((zQ el (zu (i:=1) rfl)).trans ((JS _ _ _).trans (by rw [decide_eq_true rfl])))).trans ?_
 have ec:=KO (cap:=[]) (A:=A) (ρ:=[some (qa r),some (.int r.length)]) (ws:=r.map W.int) (me:=zF Zj (zh (zc 0) (zm))) (g:=λ _=>.bl true) (zu (i:=0) rfl) (by rw [length_map];unfold zY;omega) (λ w hw=>by
  obtain ⟨i,_,rfl⟩:=qa6.mp hw;exact (zT (ws:=[.int i]) (A1:=A) rfl).trans (Mx i A))
 exact (yx ec).trans (Yg (p:=λ _=>true) λ _ _=>rfl)
theorem F4 {r:List Int}(hl:r.length<=8)(hr:∀v∈r,0<=v/\v<r.length)(A:Hx):ZL [qa r,.int r.length,.int r.length] A=.ok (.bl true) A:=by
 unfold ZL Y6;refine qY ?_;unfold W9;refine qG (jd ?_);refine (Z2 (A1:=A) ((zT (ws:=[qa r,.int r.length]) (A1:=A) rfl).trans (HH hl A))).trans ?_;have ec:=KO (cap:=[2]) (A:=A) (ρ:=[some (qa r),some (.int r.length),some (.int r.length)]) (ws:=r.map W.int) (me:=yO gB QS (zi (.int 0)) (zc 0) (zc 1)) (g:=λ _=>.bl true) (zu (i:=0) rfl) (by rw [length_map];unfold zY;omega) (λ w hw=>by
  obtain ⟨v,hv,rfl⟩:=qa6.mp hw;obtain ⟨h1,h2⟩:=hr v hv;unfold yO;rw [q9,zL,zu (i:=0) (w:=.int v) rfl,zL];show R.bind (R.ok (W.bl (decide ((0:Int)<=v))) A) _=_;rw [decide_eq_true h1,zL];dsimp only;rw [zu (i:=1) (w:=.int r.length) rfl,zL];show R.ok (W.bl (decide (v<(r.length:Int)))) A=_;rw [decide_eq_true h2])
 exact (yx ec).trans (Yg (p:=λ _=>true) λ _ _=>rfl)
end G
namespace Mi
open PySem L2
end Mi
namespace G
open PySem L2 Mi
theorem Cw (h:qo t)(A:Hx):GY [zr t] A=.ok (.bl true) A:=by
 refine gU (A1:=[]) (kL t) rfl (qY ?_);unfold TV;obtain ⟨ρ',e,_⟩:=TB (A:=[]) (N:=t.length) (item:=λ i=>.tup [.int i,qa (t.getD i [])]) (I:=λ ρ=>∃y1 y2 y3 y4,ρ=[some (zr t),y1,y2,y3,y4])
  (j:=yP (zr t) (t.map qa).length) (st:=turn (jG 1 2) (zq (jT (ko (zc 2)) (jG 3 4) (zq (qw (Zf (zo qK (zo jL (zc 4) (zi (.int 0))) (zo jL (zc 1) (zc 3))) (zo qK (zo zC (zo zC (zc 0) (zc 3)) (zc 1)) (zc 4))) (zq (qc (zi (.bl false))) (zy)) (zy)) (zy))) (zy)))
  (λ i hi=>JC (Yx hi)) (by have:=Jt (A:=[]) (ws:=t.map qa);rw [length_map] at this;rw [length_map];exact this) (λ a ha ρ hρ=>by
   obtain ⟨y1,y2,y3,y4,rfl⟩:=hρ;have hrl:=h.sq _ (yi ha);obtain ⟨ρ2,e2,z3,z4,hz⟩:=TB (A:=[]) (N:=t.length) (item:=λ i=>.tup [.int i,.int ((t.getD a []).getD i 0)]) (I:=λ ρ=>∃y3 y4,ρ=[some (zr t),some (.int a),some (qa (t.getD a [])),y3,y4])
    (j:=yP (qa (t.getD a [])) ((t.getD a []).map W.int).length) (st:=turn (jG 3 4) (zq (qw (Zf (zo qK (zo jL (zc 4) (zi (.int 0))) (zo jL (zc 1) (zc 3))) (zo qK (zo zC (zo zC (zc 0) (zc 3)) (zc 1)) (zc 4))) (zq (qc (zi (.bl false))) (zy)) (zy)) (zy)))
    (λ i hi=>JC (int_at (by omega)))
    (by have:=Jt (A:=[]) (ws:=(t.getD a []).map W.int);rw [length_map,hrl] at this;rw [length_map,hrl];exact this)
    (λ b hb ρ hρ=>by
     obtain ⟨y3,y4,rfl⟩:=hρ;refine ⟨[some (zr t),some (.int a),some (qa (t.getD a [])),some (.int b),some (.int ((t.getD a []).getD b 0))],?_,_,_,rfl⟩;refine (kS rfl).trans ?_;refine (zG ((j4 (A1:=[]) ?_).trans rfl)).trans rfl;have e1:zo qK (zo jL (zc 4) (zi (.int 0))) (zo jL (zc 1) (zc 3)) [some (zr t),some (.int a),some (qa (t.getD a [])),some (.int b),some (.int ((t.getD a []).getD b 0))] []=.ok (.bl false) []:=by
      refine (zQ ((zQ (zu (i:=4) rfl) (q9 (w:=.int 0))).trans (JS _ _ _)) ((zQ (zu (i:=1) rfl) (zu (i:=3) rfl)).trans (JS _ _ _))).trans ((Oo _ _ _).trans ?_);have hd:(t.getD a []).getD b 0=0↔a=b:=h.dg a b ha hb
      have:decide ((t.getD a []).getD b 0=0)=decide ((a:Int)=(b:Int)):=by
       by_cases q:a=b
       ·rw [decide_eq_true (hd.mpr q),decide_eq_true (by omega)]
       ·rw [decide_eq_false (λ z=>q (hd.mp z)),decide_eq_false (by omega)]
      rw [this];simp
     have e2:zo qK (zo zC (zo zC (zc 0) (zc 3)) (zc 1)) (zc 4) [some (zr t),some (.int a),some (qa (t.getD a [])),some (.int b),some (.int ((t.getD a []).getD b 0))] []=.ok (.bl false) []:=by
      have hbl:=h.sq _ (yi hb);refine (zQ ((zQ ((zQ (zu (i:=0) rfl) (zu (i:=3) rfl)).trans (gN hb)) (zu (i:=1) rfl)).trans (Qt (by omega))) (zu (i:=4) rfl)).trans ((Of _ _ _).trans ?_)
      have hs:(t.getD b []).getD a 0=(t.getD a []).getD b 0:=(h.sy a b ha hb).symm;rw [hs,decide_eq_true rfl]
      rfl
     exact (X3 e1).trans e2) t.length 0 [some (zr t),some (.int a),some (qa (t.getD a [])),y3,y4] (by omega) ⟨_,_,rfl⟩
   refine ⟨[some (zr t),some (.int a),some (qa (t.getD a [])),z3,z4],?_,_,_,_,_,rfl⟩;refine (kS rfl).trans ?_;rw [hz] at e2;have hlen:((t.getD a []).map W.int).length=t.length:=by rw [length_map,hrl]
   refine (zG ((kP (Q9 (zu (i:=2) rfl))).trans ?_)).trans rfl;show yG (yP (qa (t.getD a [])) ((t.getD a []).map W.int).length) _ ((t.getD a []).map W.int).length 0 _ _=_;rw [hlen] at e2 ⊢;exact e2) t.length 0 [some (zr t),none,none,none,none] (by omega) ⟨_,_,_,_,rfl⟩
 refine (zG (ρ1:=ρ') (A1:=[]) ((kP (Q9 (zu (i:=0) rfl))).trans ?_)).trans (qG rfl);show yG (yP (zr t) (t.map qa).length) _ (t.map qa).length 0 _ _=_;have hlen:(t.map qa).length=t.length:=length_map ..;rw [hlen] at e ⊢;exact e
end G
namespace Mi
open PySem L2
end Mi
namespace G
open PySem L2 Mi
theorem FI (h:qo t)(A:Hx):W8 [zr t] A=.ok (.bl true) A:=by
 have hfl:=Hc h;have hne:t.flatten≠[]:=by
  intro e;have h1:=h.n1;have hr:=h.sq _ (yi (t:=t) (a:=0) (by omega))
  have:t.getD 0 []=[]:=by
   have:=List.flatten_eq_nil_iff.mp e _ (yi (t:=t) (a:=0) (by omega))
   exact this
  rw [this] at hr;simp at hr;omega
 obtain ⟨v0,l0,el⟩:=List.exists_cons_of_ne_nil hne;refine gU (A1:=[.lst (t.flatten.map W.int)]) (kL t) rfl (qY ?_);unfold VJ;refine (zG (ρ1:=[some (zr t),some (.ref 0)]) (A1:=[.lst (t.flatten.map W.int)]) ((qM (wM (FL (zu rfl) (by unfold zY;omega)))).trans rfl)).trans (qG (jd ?_))
 generalize hB:[O.lst (t.flatten.map W.int)]=B;have hs:zO (.ref 0) B=some (t.flatten.map W.int):=by rw [<- hB];rfl
 have em:mQ j7 (qm (zc 1)) [some (zr t),some (.ref 0)] B=.ok (.int (j5 l0 v0)) B:=by
  rw [yx (kR (w:=.ref 0) (A1:=B) (zu rfl) hs)];unfold j7;rw [Ku,el]
 have hmax:j5 l0 v0∈t.flatten:=by
  rw [el];rcases G9 l0 v0 with e | e
  ·rw [e];exact mem_cons_self ..
  ·exact mem_cons_of_mem _ e
 have hb:0<=j5 l0 v0/\j5 l0 v0<8:=by
  obtain ⟨r,hr,hv⟩:=List.mem_flatten.mp hmax
  have:=h.lo r hr _ hv
  have:=h.n8
  omega
 generalize j5 l0 v0=M at em hmax hb;obtain ⟨K,rfl⟩:=eq_ofNat_of_zero_le hb.1;have ec:=ZS (cap:=[1]) (me:=zo WT (zc 0) (zc 1)) (ρ:=[some (zr t),some (.ref 0)]) (A:=B) (N:=K) (j:=yY 0 K) (item:=λ i=>.int (0+i)) (g:=λ _=>.bl true)
  ((wk em (by unfold jN;simp;omega)).trans (by rw [toNat_natCast])) rfl (by unfold zY;omega) (λ i hi=>wy hi) (wt (by omega))
  (λ i hi=>by
   refine (zQ (zu (i:=0) (w:=.int (0+i)) rfl) (zu (i:=1) (w:=.ref 0) rfl)).trans ?_;show QE false _ _ _=_;unfold QE;rw [hs];dsimp only;have hf:(yD (.int (0+(i:Int)))&&(t.flatten.map W.int).all yD)=true:=by
    have:(t.flatten.map W.int).all yD=true:=qa4.mpr λ w hw=>by obtain ⟨x,_,rfl⟩:=qa6.mp hw;rfl
    rw [this];rfl
   rw [if_pos hf];have hin:JQ (.int (0+(i:Int))) (t.flatten.map W.int)=true:=by
    unfold JQ;refine List.any_eq_true.mpr ⟨.int i,qa6.mpr ⟨(i:Int),h.fu i ⟨_,hmax,by omega⟩,rfl⟩,?_⟩
    show ((i:Int)==0+(i:Int))=true;rw [zero_add];exact beq_self_eq_true _
   rw [hin]
   rfl)
 refine (yx ec).trans ?_;exact Yg (p:=λ _=>true) λ _ _=>rfl
theorem Dd (h:qo t)(A:Hx):gM [zr t] A=.ok (.bl true) A:=by
 have n1:=h.n1;have n8:=h.n8;unfold gM J4;refine qY ?_;unfold KA;have el:∀ρ:En,mQ jb (qm (zc 0)) (some (zr t)::ρ) A=.ok (.int t.length) A:=λ ρ=>by
  rw [yx (kR (w:=zr t) (A1:=A) (zu rfl) rfl)];unfold jb;rw [length_map]
 refine (zG (ρ1:=[some (zr t),none]) (A1:=A) ((j4 (A1:=A) ?_).trans rfl)).trans ?_
 ·refine (X3 (A1:=A) rfl).trans ?_
  refine wm (k:=true) ?_;show yO gB gB (zi (.int 1)) (mQ jb (qm (zc 0))) (zi (.int 8)) [some (zr t),none] A=_;unfold yO;rw [q9,zL,el,zL];show R.bind (R.ok (W.bl (decide ((1:Int)<=t.length))) A) _=_;rw [decide_eq_true (by omega),zL]
  dsimp only;rw [q9,zL];show R.ok (W.bl (decide ((t.length:Int)<=8))) A=_;rw [decide_eq_true (by omega)]
 refine (zG (ρ1:=[some (zr t),some (.int t.length)]) (A1:=A) ((qM (el _)).trans rfl)).trans ?_;have ec:=KO (cap:=[1]) (A:=A) (ρ:=[some (zr t),some (.int t.length)]) (ws:=t.map qa) (me:=zF ZL (zh (zc 0) (zh (zc 1) (zh (zc 1) (zm))))) (g:=λ _=>.bl true) (zu (i:=0) rfl) (by rw [length_map];unfold zY;omega) (λ w hw=>by
  obtain ⟨r,hr,rfl⟩:=qa6.mp hw;have hl:=h.sq r hr;refine (zT (ws:=[qa r,.int t.length,.int t.length]) (A1:=A) rfl).trans ?_;rw [<- hl];exact F4 (by omega) (λ v hv=>by have:=h.lo r hr v hv;omega) A)
 refine (zG (ρ1:=[some (zr t),some (.int t.length)]) (A1:=A) ((j4 (A1:=A) (wm (k:=true) ((yx ec).trans (Yg (p:=λ _=>true) λ _ _=>rfl)))).trans rfl)).trans (qG (jd ?_));refine (Z2 (A1:=A) ((zT (ws:=[zr t]) (A1:=A) rfl).trans (Cw h A))).trans ?_;exact (zT (ws:=[zr t]) (A1:=A) rfl).trans (FI h A)
end G
namespace Mi
open PySem L2
theorem UR:∀(l m:List Int),PyData.eqvAll (l.map PyData.int) (m.map PyData.int)=decide (l=m)
 | [],[]=>by simp [PyData.eqvAll]
 | [],_::_=>by simp [PyData.eqvAll]
 | _::_,[]=>by simp [PyData.eqvAll]
 | a::l,b::m=>by
  simp only [map_cons,PyData.eqvAll,UR l m,PyData.eqv];rw [Bool.eq_iff_iff];simp
theorem TK :∀l:List Int,jJ (qd A n) (l.map W.int)=some (l.map PyData.int)
 | []=>rfl
 | i::l=>by
  have:qd A n (.int i)=some (.int i):=by cases n<;>rfl
  show (match qd A n (.int i),jJ (qd A n) (l.map W.int) with | some d,some ds=>some (d::ds) | _,_=>none)=_
  rw [this,TK l]
  rfl
theorem Xw {r:Nat}{l:List Int}(h:A[r]? =some (.lst (l.map W.int))):qd A 8 (.ref r)=some (.list (l.map PyData.int)):=by
 show (match zO (.ref r) A with | some ws=>(jJ (qd A 7) ws).map PyData.list | none=>none)=_
 have:zO (.ref r) A=some (l.map W.int):=by unfold zO;dsimp only;rw [h]
 rw [this];dsimp only;rw [TK]
 rfl
end Mi
namespace G
open PySem L2 Mi
end G
namespace Mi
open PySem L2
noncomputable def Ky (A B:Hx):Prop:=∀w ty,jz w A=some ty->jz w B=some ty
theorem Ext.ky (x:Ext A B):Ky A B:=λ w ty h=>by
 cases w with
 | ref n=>
  unfold jz at h ⊢;dsimp only at h ⊢;cases e:A[n]? with
  | none=>rw [e] at h;cases h
  | some o=>rw [e] at h;rw [x.at e];exact h
 | _=>exact h
theorem Ky.trans {C:Hx}(a:Ky A B)(b:Ky B C):Ky A C:=λ w ty h=>b w ty (a w ty h)
end Mi
namespace G
open PySem L2 Mi
end G
namespace Mi
open PySem L2
section
theorem R6 :jz (.ref A.length) (A++[.lst ws])=some .lst:=by
 unfold jz;dsimp only;rw [qH]
end
structure Kn (n:Nat)(A B:Hx):Prop where
 kp:Kp n A B
 st:G.qW n B
theorem _root_.G.qW.ty (h:G.qW n A):jz (.ref n) A=some .lst:=by
 obtain ⟨c,b,e,_⟩:=h;unfold jz;dsimp only;rw [e]
theorem _root_.G.qW.lt (h:G.qW n A):n<A.length:=by
 obtain ⟨c,b,e,_⟩:=h;exact Zl e
theorem _root_.G.qW.ext (h:G.qW n A)(x:Ext A B):G.qW n B:=by
 obtain ⟨c,b,e,r⟩:=h;exact ⟨c,b,x.at e,r⟩
theorem _root_.G.qW.put {k:Nat}(h:G.qW n A)(hk:k≠n):G.qW n (A.set k o):=by
 obtain ⟨c,b,e,r⟩:=h;exact ⟨c,b,by rw [getElem?_set_ne hk];exact e,r⟩
theorem Kn.ky (s:G.qW n A)(k:Kn n A B):Ky A B:=λ w ty h=>by
 cases w with
 | ref i=>
  by_cases q:i=n
  ·subst q
   rw [s.ty] at h;rw [k.st.ty];exact h
  ·unfold jz at h ⊢
   dsimp only at h ⊢
   by_cases z:i<A.length
   ·rw [k.kp.at_ i z q];exact h
   ·rw [getElem?_eq_none (by omega)] at h;cases h
 | _=>exact h
theorem Kn.trans {C:Hx}(a:Kn n A B)(b:Kn n B C):Kn n A C:=⟨a.kp.trans b.kp,b.st⟩
theorem Kn.ext (s:G.qW n A)(x:Ext A B):Kn n A B:=⟨Kp.ext x,s.ext x⟩
end Mi
namespace G
open PySem L2 Mi
theorem Xy (h:qW n A){m:Int}(h1:0<m)(h2:m<1000000000000000):∃(r:Nat) (B:Hx),jZ [.ref n,.int m] A=.ok (.int r) B/\(r:Int)<m/\Kn n A B/\B.length=A.length:=by
 obtain ⟨r,o,e,a,b,s⟩:=RW h h1 h2;exact ⟨r.toNat,A.set n o,by rw [e,Int.toNat_of_nonneg a],by omega,⟨Kp.set,s⟩,length_set ..⟩
theorem Xd {m:Int}(h:qW n A)(h0:ρ[0]? =some (some (.ref n)))(hm:me ρ A=.ok (.int m) A)(h1:0<m)(h2:m<1000000000000000):∃(r:Nat) (B:Hx),zF jZ (zh (zc 0) (zh me (zm))) ρ A=.ok (.int r) B/\(r:Int)<m/\Kn n A B/\B.length=A.length:=by
 obtain ⟨r,B,e,a⟩:=Xy h h1 h2;exact ⟨r,B,(zT (zH (zu h0) (zH hm zX))).trans e,a⟩
end G
namespace Mi
open PySem L2
end Mi
namespace G
open PySem L2 Mi
theorem Ah {ty:Ty}(h:ty≠.tup):yH ty .tup=false:=by
 cases ty<;>first | rfl | exact absurd rfl h
noncomputable def kJ (A:Hx)(w:W):Prop:=∀B,Ky A B->gM [w] B=.ok (.bl false) B
theorem kJ.mono {w:W}(k:Ky A B)(h:kJ A w):kJ B w:=λ C q=>h C (k.trans q)
theorem Px {w:W}{ty:Ty}(h:jz w A=some ty)(hn:ty≠.tup):kJ A w:=λ B k=>by
 unfold gM J4;refine qY ?_;unfold KA;have e:ka .tup (zc 0) [some w,none] B=.ok (.bl false) B:=(JG (zu rfl) (k _ _ h)).trans (by rw [Ah hn])
 have e2:Zf (yK (ka .tup (zc 0))) (yK (yO gB gB (zi (.int 1)) (mQ jb (qm (zc 0))) (zi (.int 8)))) [some w,none] B=.ok (.bl true) B:=by
  unfold Zf;rw [wm e,zL]
  rfl
 exact qG ((gw e2).trans (qG (jd q9)))
theorem Aa (h:jz (.ref j) A=some .lst):kJ A (.tup [.ref j]):=λ B k=>by
 unfold gM J4;refine qY ?_;unfold KA;have hj:=k _ _ h;have ew:Q4 [.ref j,.int 1] B=.ok (.bl false) B:=by
  unfold Q4 Kt;refine qY ?_;unfold GP;exact qG (jd (Yt ((JG (zu rfl) hj).trans rfl)))
 have eb:ZL [.ref j,.int 1,.int 1] B=.ok (.bl false) B:=by
  unfold ZL Y6;refine qY ?_;unfold W9;exact qG (jd (Yt ((zT (ws:=[.ref j,.int 1]) (A1:=B) rfl).trans ew)))
 have ec:=KO (cap:=[1]) (A:=B) (ρ:=[some (.tup [.ref j]),some (.int 1)]) (ws:=[.ref j]) (me:=zF ZL (zh (zc 0) (zh (zc 1) (zh (zc 1) (zm))))) (g:=λ _=>.bl false) (zu (i:=0) rfl) (by simp [zY]) (λ w hw=>by
  rw [qa7.mp hw];exact (zT (ws:=[.ref j,.int 1,.int 1]) (A1:=B) rfl).trans eb)
 refine (zG (ρ1:=[some (.tup [.ref j]),none]) (A1:=B) rfl).trans ((zG (ρ1:=[some (.tup [.ref j]),some (.int 1)]) (A1:=B) rfl).trans ?_);exact qG ((gw (wm (k:=false) ((yx ec).trans rfl))).trans (qG (jd q9)))
end G
namespace Mi
open PySem L2
end Mi
namespace G
open PySem L2 Mi
end G
namespace Mi
open PySem L2
end Mi
namespace G
open PySem L2 Mi
noncomputable def ET (m:Ev)(ρ:En):Prop:=∀A,∃w A1,m ρ A=.ok w A1/\Ext A A1/\kJ A1 w
noncomputable def AT (a:Ea)(ρ:En)(k:Nat):Prop:=∀A,∃ws A1,a ρ A=.ok ws A1/\Ext A A1/\ws.length=k/\∀w∈ws,kJ A1 w
section
variable {m:Ev}{a:Ea}{k:Nat}{w:W}
theorem Wj:AT zm ρ 0:=λ A=>⟨[],A,rfl,Ext.refl,rfl,λ _ h=>by cases h⟩
theorem yc (h:ET m ρ)(t:AT a ρ k):AT (zh m a) ρ (k+1):=λ A=>by
 obtain ⟨w,A1,e1,x1,h1⟩:=h A;obtain ⟨ws,A2,e2,x2,l2,h2⟩:=t A1;refine ⟨w::ws,A2,zH e1 e2,x1.trans x2,by rw [length_cons,l2],λ y hy=>?_⟩
 rcases qa3.mp hy with rfl | hy
 ·exact h1.mono x2.ky
 ·exact h2 y hy
theorem yv (h:∀A,m ρ A=.ok w A)(hf:∀B,gM [w] B=.ok (.bl false) B:=by intro B;kernel_rfl):ET m ρ:=λ A=>⟨w,A,h A,Ext.refl,λ B _=>hf B⟩
theorem D3:ET YU ρ:=λ A=>⟨.ref A.length,A++[.dct []],rfl,Ext.one,Px (ty:=.dct) (by unfold jz;dsimp only;rw [qH]) (by decide)⟩
end
section
variable {a:Ea}{k:Nat}
structure TL (A:Hx)(r k:Nat)(B:Hx):Prop where
 at_:∃ws,B[r]? =some (.lst ws)/\ws.length=k/\∀w∈ws,kJ B w
 nw:A.length<=r
 ext:Ext A B
theorem CZ (h:AT a ρ k)(A:Hx):∃r B,zS a ρ A=.ok (.ref r) B/\TL A r k B:=by
 obtain ⟨ws,A1,e,x,hl,hw⟩:=h A;exact ⟨_,_,yf e,⟨ws,qH,hl,λ w hw'=>(hw w hw').mono Ext.one.ky⟩,x.len,x.app⟩
theorem XH {r:Nat}(t:TL A r j B)(h:AT a ρ k)(hi:ρ[i]? =some (some (.ref r)))(hl:j+k<=100):∃r' C,zo je (zc i) (zS a) ρ B=.ok (.ref r') C/\TL A r' (j+k) C:=by
 obtain ⟨ws,e,l,hw⟩:=t.at_;obtain ⟨us,B1,e1,x1,l1,hu⟩:=h B;have x2:Ext B (B1++[.lst us]):=x1.app;refine ⟨_,_,(zQ (zu hi) (yf e1)).trans (Xa (x2.at e) qH (by unfold zY;omega)),⟨ws++us,qH,by rw [length_append,l,l1],λ w hw'=>?_⟩,?_,(t.ext.trans x2).app⟩
 ·rcases List.mem_append.mp hw' with q | q
  ·exact (hw w q).mono (x2.app).ky
  ·exact (hu w q).mono (Ext.one.trans Ext.one).ky
 ·have:=t.ext.len
  have:=x2.len
  omega
theorem Ew {r:Nat}{m:Int}{mm:Ev}(s:qW n A)(t:TL A r k B)(hi:ρ[i]? =some (some (.ref r)))(h0:ρ[0]? =some (some (.ref n)))(hm:∀A,mm ρ A=.ok (.int m) A)(hk:(k:Int)=m)(h1:0<m)(h2:m<1000):∃w C,zo zC (zc i) (zF jZ (zh (zc 0) (zh mm (zm)))) ρ B=.ok w C/\kJ C w/\Kn n A C:=by
 obtain ⟨ws,e,l,hw⟩:=t.at_;have sB:=s.ext t.ext;obtain ⟨j,C,ec,hj,kn,_⟩:=Xd sB h0 (hm B) h1 (by omega)
 have hjl:j<ws.length:=by omega
 have hr:r≠n:=by have:=s.lt;have:=t.nw;omega
 refine ⟨ws[j],C,(zQ (zu hi) ec).trans (gj (kn.kp.get e hr) (getElem?_eq_getElem hjl)),(hw _ (getElem_mem hjl)).mono (kn.ky sB),(Kn.ext s t.ext).trans kn⟩
end
theorem By (s:qW n A):∃w B,ZM [.ref n] A=.ok w B/\kJ B w/\Kn n A B:=by
 unfold ZM Gd;unfold VX;have et1:∀ρ,ET (zS (zh (zS (zh (zi (.int 0)) (zm))) (zm))) ρ:=λ ρ A=>⟨_,_,yf (zH (yf (zH q9 zX)) zX),Ext.one.app,Px R6 (by decide)⟩
 have et2:∀ρ,ET (zB (zh (zS (zh (zi (.int 0)) (zm))) (zm))) ρ:=λ ρ A=>⟨_,_,Xg (zH (yf (zH q9 zX)) zX),Ext.one,Aa R6⟩;obtain ⟨r1,B1,e1,t1⟩:=CZ (k:=11) (ρ:=[some (.ref n),none]) (a:=zh (zi .non) (zh (zi (.int 0)) (zh (zB (zm)) (zh (zB (zh (zB (zm)) (zm))) (zh (zB (zh (zB (zh (zi (.int 1)) (zm))) (zm))) (zh (zS (zh (zS (zh (zi (.int 0)) (zm))) (zm))) (zh (zB (zh (zS (zh (zi (.int 0)) (zm))) (zm))) (zh (zB (zh (zB (zh (zi (.int 0)) (zm))) (zh (zB (zh (zi (.int 0)) (zm))) (zm)))) (zh (zB (zh (zB (zh (zi (.int 0)) (zh (zi (.int 1)) (zm)))) (zh (zB (zh (zi (.int 2)) (zh (zi (.int 0)) (zm)))) (zm)))) (zh (zB (zh (zB (zh (zi (.int 0)) (zh (zi (.int 2)) (zm)))) (zh (zB (zh (zi (.int 2)) (zh (zi (.int 0)) (zm)))) (zm)))) (zh (YU) (zm)))))))))))) (yc (yv (λ _=>rfl)) (yc (yv (λ _=>rfl)) (yc (yv (w:=.tup []) (λ _=>rfl)) (yc (yv (w:=.tup [.tup []]) (λ _=>rfl)) (yc (yv (w:=.tup [.tup [.int 1]]) (λ _=>rfl)) (yc (et1 _) (yc (et2 _) (yc (yv (w:=.tup [.tup [.int 0],.tup [.int 0]]) (λ _=>rfl))
  (yc (yv (w:=.tup [.tup [.int 0,.int 1],.tup [.int 2,.int 0]]) (λ _=>rfl)) (yc (yv (w:=.tup [.tup [.int 0,.int 2],.tup [.int 2,.int 0]]) (λ _=>rfl)) (yc D3 Wj))))))))))) A
 obtain ⟨r2,B2,e2,t2⟩:=XH (k:=5) (i:=1) (ρ:=[some (.ref n),some (.ref r1)]) (a:=zh (zB (zh (zB (zh (zi (.int 0)) (zh (zi (.int 1)) (zm)))) (zh (zB (zh (zi (.int 1)) (zh (zi (.int 1)) (zm)))) (zm)))) (zh (zB (zh (zB (zh (zi (.bl true)) (zm))) (zm))) (zh (zB (zh (zB (zh (zi (.int 0)) (zh (zi (.bl true)) (zm)))) (zh (zB (zh (zi (.bl true)) (zh (zi (.int 0)) (zm)))) (zm)))) (zh (zB (zh (zB (zh (zi (.int 0)) (zh (jU Zv (zi (.int 1))) (zm)))) (zh (zB (zh (jU Zv (zi (.int 1))) (zh (zi (.int 0)) (zm)))) (zm)))) (zh (zB (zh (zB (zh (zi (.int 0)) (zh (zi (.int 1)) (zm)))) (zh (zB (zh (zi (.int 1)) (zh (zi (.int 0)) (zm)))) (zh (zB (zh (zi (.int 1)) (zh (zi (.int 1)) (zm)))) (zm))))) (zm)))))) t1 (yc (yv (w:=.tup [.tup [.int 0,.int 1],.tup [.int 1,.int 1]]) (λ _=>rfl)) (yc (yv (w:=.tup [.tup [.bl true]]) (λ _=>rfl)) (yc (yv (w:=.tup [.tup [.int 0,.bl true],.tup [.bl true,.int 0]]) (λ _=>rfl))
  (yc (yv (w:=.tup [.tup [.int 0,.int (-1)],.tup [.int (-1),.int 0]]) (λ _=>rfl)) (yc (yv (w:=.tup [.tup [.int 0,.int 1],.tup [.int 1,.int 0],.tup [.int 1,.int 1]]) (λ _=>rfl)) Wj))))) rfl (by omega)
 obtain ⟨r3,B3,e3,t3⟩:=XH (k:=5) (i:=1) (ρ:=[some (.ref n),some (.ref r2)]) (a:=zh (zB (zh (zB (zh (zi (.int 0)) (zh (zi (.int 1)) (zh (zi (.int 2)) (zm))))) (zh (zB (zh (zi (.int 1)) (zh (zi (.int 0)) (zh (zi (.int 2)) (zm))))) (zh (zB (zh (zi (.int 2)) (zh (zi (.int 2)) (zh (zi (.int 1)) (zm))))) (zm))))) (zh (zi (.str "0")) (zh (zB (zh (zB (zh (zi (.int 0)) (zh (zi (.int 3)) (zh (zi (.int 3)) (zm))))) (zh (zB (zh (zi (.int 3)) (zh (zi (.int 0)) (zh (zi (.int 1)) (zm))))) (zh (zB (zh (zi (.int 3)) (zh (zi (.int 1)) (zh (zi (.int 0)) (zm))))) (zm))))) (zh (zB (zh (zB (zh (zi (.int 0)) (zm))) (zh (zB (zm)) (zm)))) (zh (zB (zh (zi (.int 0)) (zm))) (zm)))))) t2 (yc (yv (w:=.tup [.tup [.int 0,.int 1,.int 2],.tup [.int 1,.int 0,.int 2],.tup [.int 2,.int 2,.int 1]]) (λ _=>rfl)) (yc (yv (λ _=>rfl))
  (yc (yv (w:=.tup [.tup [.int 0,.int 3,.int 3],.tup [.int 3,.int 0,.int 1],.tup [.int 3,.int 1,.int 0]]) (λ _=>rfl)) (yc (yv (w:=.tup [.tup [.int 0],.tup []]) (λ _=>rfl)) (yc (yv (w:=.tup [.int 0]) (λ _=>rfl)) Wj))))) rfl (by omega)
 obtain ⟨r4,B4,e4,t4⟩:=XH (k:=2) (i:=1) (ρ:=[some (.ref n),some (.ref r3)]) (a:=zh (zB (zh (zB (zh (zi .non) (zm))) (zm))) (zh (zB (zh (zB (zh (zi (.int 0)) (zh (zi (.int 0)) (zm)))) (zh (zB (zh (zi (.int 0)) (zh (zi (.int 0)) (zm)))) (zm)))) (zm))) t3 (yc (yv (w:=.tup [.tup [.non]]) (λ _=>rfl)) (yc (yv (w:=.tup [.tup [.int 0,.int 0],.tup [.int 0,.int 0]]) (λ _=>rfl)) Wj)) rfl (by omega)
 obtain ⟨w,C,e5,hw,kn⟩:=Ew (i:=1) (ρ:=[some (.ref n),some (.ref r4)]) (mm:=zi (.int 23)) (m:=23) s t4 rfl rfl (λ _=>rfl) rfl (by decide) (by decide)
 refine ⟨w,C,qY ?_,hw,kn⟩;refine (zG ((qM e1).trans rfl)).trans ((zG ((qM e2).trans rfl)).trans ((zG ((qM e3).trans rfl)).trans ((zG ((qM e4).trans rfl)).trans (qG (jd e5)))))
end G
namespace Mi
open PySem L2
end Mi
namespace G
open PySem L2 Mi
section
theorem FZ (hi:i<t.length):(B++(t.map λ r=>O.lst (r.map W.int))++[O.lst ((List.range t.length).map λ i=>W.ref (B.length+i))])[B.length+i]? =some (.lst ((t.getD i []).map W.int)):=by
 rw [getElem?_append_left (by simp;omega),getElem?_append_right (by omega),show B.length+i - B.length=i by omega,getElem?_map,getD_eq_getElem?_getD,getElem?_eq_getElem hi]
 rfl
theorem IA:(B++(t.map λ r=>O.lst (r.map W.int))++[O.lst ((List.range t.length).map λ i=>W.ref (B.length+i))])[B.length+t.length]? =some (.lst ((List.range t.length).map λ i=>W.ref (B.length+i))):=by
 have:B.length+t.length=(B++(t.map λ r=>O.lst (r.map W.int))).length:=by simp
 rw [this,qH]
end
end G
namespace Mi
open PySem L2
theorem JO {r s:Nat}{l m:List Int}(h:A[r]? =some (.lst (l.map W.int)))(h2:A[s]? =some (.lst (m.map W.int))):qK (.ref r) (.ref s) A=.ok (.bl (!decide (l=m))) A:=by
 show g9 true _ _ A=_;unfold g9;rw [Xw h,Xw h2];dsimp only;rw [PyData.eqv,UR]
 rfl
end Mi
namespace G
open PySem L2 Mi
section
variable {p f:Nat}
theorem Fe {x:Option W}(hp:A.length<=p)(hf:A.length<=f)(hn:n<A.length)(hpf:p≠f):∀(k fu:Nat) (l fd:List Int) (B:Hx),l.length=k->k<fu->fd.length+l.length<=100->Kn n A B->B[p]? =some (.lst (l.map W.int))->B[f]? =some (.lst (fd.map W.int))->
  ∃(B':Hx) (fd':List Int),ZA (zo qK (zc 2) (zS (zm))) (zq (jI (jO yd (zc 3) (jO gR (zc 2) (zF jZ (zh (zc 0) (zh (mQ jb (qm (zc 2))) (zm))))))) (zy)) fu [some (.ref n),x,some (.ref p),some (.ref f)] B=.ok (.nx [some (.ref n),x,some (.ref p),some (.ref f)]) B'/\Kn n A B'/\B'[f]? =some (.lst (fd'.map W.int))/\fd'.Perm (fd++l):=by
 intro k
 induction k with
 | zero=>
  intro fu l fd B hl hfu _ kn h1 h2;obtain ⟨fu,rfl⟩:∃f',fu=f'+1:=⟨fu - 1,by omega⟩
  have:l=[]:=List.length_eq_zero_iff.mp hl
  subst this;refine ⟨B++[.lst []],fd,?_,kn.trans (Kn.ext kn.st Ext.one),yg h2,by simp⟩
  unfold ZA;have ec:zo qK (zc 2) (zS (zm)) [some (.ref n),x,some (.ref p),some (.ref f)] B=.ok (.bl false) (B++[.lst []]):=(zQ (zu (i:=2) rfl) (yf zX)).trans (JO (l:=[]) (m:=[]) (yg h1) qH);rw [ec,zL]
 | succ k ih=>
  intro fu l fd B hl hfu hfl kn h1 h2;obtain ⟨fu,rfl⟩:∃f',fu=f'+1:=⟨fu - 1,by omega⟩
  have ec:zo qK (zc 2) (zS (zm)) [some (.ref n),x,some (.ref p),some (.ref f)] B=.ok (.bl true) (B++[.lst []]):=by
   refine (zQ (zu (i:=2) rfl) (yf zX)).trans ((JO (m:=[]) (yg h1) qH).trans ?_);have hne:l≠[]:=λ e=>by rw [e] at hl;cases hl
   rw [decide_eq_false hne]
   rfl
  have kn1:=kn.trans (Kn.ext kn.st (Ext.one (o:=.lst [])));have g1:=yg (u:=.lst []) h1;have g2:=yg (u:=.lst []) h2;generalize B++[O.lst []]=B1 at ec kn1 g1 g2;have elen:mQ jb (qm (zc 2)) [some (.ref n),x,some (.ref p),some (.ref f)] B1=.ok (.int (l.length:Int)) B1:=by
   rw [yx (kR (w:=.ref p) (A1:=B1) (ws:=l.map W.int) (zu rfl) (by unfold zO;dsimp only;rw [g1]))]
   unfold jb;rw [length_map]
  obtain ⟨q,B2,e1,hq',k2,_⟩:=Xd (ρ:=[some (.ref n),x,some (.ref p),some (.ref f)]) kn1.st rfl elen (by omega) (by omega)
  have hq:q<l.length:=by omega
  have g1':=k2.kp.get g1 (by omega)
  have g2':=k2.kp.get g2 (by omega)
  have hw:(l.map W.int)[q]? =some (.int l[q]):=by rw [getElem?_map,getElem?_eq_getElem hq];rfl
  have e2:=(ZV (g:=gR) (a:=zc 2) (zu rfl) g1 e1).trans (LJ g1' hw (by omega))
  rw [TX] at e2;have g2'':(B2.set p (.lst ((l.eraseIdx q).map W.int)))[f]? =some (.lst (fd.map W.int)):=by rw [getElem?_set_ne hpf];exact g2'
  have e3:=(ZV (g:=yd) (a:=zc 3) (zu rfl) g2 e2).trans (Q6 g2'' (by rw [length_map];omega))
  have hap:fd.map W.int++[.int l[q]]=(fd++[l[q]]).map W.int:=by rw [map_append];rfl
  rw [hap] at e3;have hlen:(l.eraseIdx q).length=k:=by rw [List.length_eraseIdx_of_lt hq];omega
  have kn3:Kn n A ((B2.set p (.lst ((l.eraseIdx q).map W.int))).set f (.lst ((fd++[l[q]]).map W.int))):=⟨((kn1.trans k2).kp.put hp).put hf,((k2.st).put (by omega)).put (by omega)⟩
  obtain ⟨B',fd',e4,s4,a4,p4⟩:=ih fu (l.eraseIdx q) (fd++[l[q]]) _ hlen (by omega) (by rw [length_append,length_singleton];omega) kn3
   (by rw [getElem?_set_ne (Ne.symm hpf),getElem?_set_self (Zl g1')]) (by rw [getElem?_set_self (Zl g2'')])
  refine ⟨B',fd',?_,s4,a4,p4.trans ?_⟩
  ·unfold ZA
   rw [ec,zL];dsimp only;have eb:=(zG (m2:=zy) (yu e3)).trans jq;rw [eb,zL];exact e4
  ·rw [append_assoc]
   exact List.Perm.append_left fd (Td (getElem?_eq_getElem hq)).symm
theorem RI {q:Nat}{l:List Int}(s:qW n A)(h:A[q]? =some (.lst (l.map W.int)))(hl:l.length<=100):∃(r:Nat) (B:Hx) (fd:List Int),QX [.ref n,.ref q] A=.ok (.ref r) B/\B[r]? =some (.lst (fd.map W.int))/\fd.Perm l/\Kn n A B/\A.length<=r:=by
 unfold QX Ge;unfold VU;have e1:ql (qm (zc 1)) [some (.ref n),some (.ref q),none,none] A=.ok (.ref A.length) (A++[.lst (l.map W.int)]):=wM (kR (w:=.ref q) (zu rfl) (by unfold zO;dsimp only;rw [h]))
 have x0:Ext A (A++[.lst (l.map W.int)]++[.lst []]):=Ext.one.app;have hlen:(A++[O.lst (l.map W.int)]).length=A.length+1:=by simp
 have a2:(A++[.lst (l.map W.int)]++[.lst []])[A.length+1]? =some (.lst (([]:List Int).map W.int)):=by rw [<- hlen];exact qH
 obtain ⟨B,fd,e2,kn,ef,pf⟩:=Fe (A:=A) (p:=A.length) (f:=A.length+1) (x:=some (.ref q)) (le_refl _) (by omega) s.lt (by omega) l.length 1000 l [] _ rfl (by omega) (by simp;omega) (Kn.ext s x0) (yg qH) a2
 refine ⟨A.length+1,B,fd,qY ?_,ef,by simpa using pf,kn,by omega⟩
 refine (zG ((qM e1).trans rfl)).trans ((zG (ρ1:=[some (.ref n),some (.ref q),some (.ref A.length),some (.ref (A.length+1))]) (A1:=A++[.lst (l.map W.int)]++[.lst []]) ?_).trans ((zG (m1:=XI 1000 _ _) e2).trans (qG (jd (zu rfl)))));refine (qM (yf zX)).trans ?_;rw [hlen]
 rfl
end
end G
namespace Mi
open PySem L2
noncomputable def dist (t:List (List Int)):List Nat:=(List.range 8).filter λ i=>decide ((i:Int)∈t.flatten)
noncomputable def YY (t:List (List Int))(v:Int):Int:=((dist t).idxOf v.toNat:Nat)
noncomputable def gn (t:List (List Int)):List (List Int):=t.map λ r=>r.map (YY t)
theorem HW :i∈dist t↔i<8/\(i:Int)∈t.flatten:=by
 unfold dist;rw [mem_filter,List.mem_range,decide_eq_true_iff]
theorem TJ:∀{l:List Int},(∀v∈l,0<=v/\v<8)->Z5 l=some (l.map Int.toNat)
 | [],_=>rfl
 | v::l,h=>by
  unfold Z5;rw [if_pos (h v (mem_cons_self ..)),TJ λ x hx=>h x (mem_cons_of_mem _ hx)]
  rfl
theorem TC :∀{kws:List (Nat × List W)},(∀p∈kws,A[p.1]? =some (.lst p.2))->wO A (kws.map λ (p:Nat × List W)=>W.ref p.1)=some (kws.map (·.2))
 | [],_=>rfl
 | p::kws,h=>by
  show (match A[p.1]? with | some (.lst ws)=>(wO A (kws.map λ (p:Nat × List W)=>W.ref p.1)).map (ws::·) | _=>none)=_
  rw [h p (mem_cons_self ..)];dsimp only;rw [TC λ x hx=>h x (mem_cons_of_mem _ hx)]
  rfl
theorem Rw (v:Nat):∀{l:List Nat},v∈l->gX (λ z=>PyData.eqv z (.int (v:Int))) (l.map λ (i:Nat)=>PyData.int (i:Int))=some (l.idxOf v)
 | [],h=>by cases h
 | a::l,h=>by
  rw [map_cons,gX,List.idxOf_cons]
  have:PyData.eqv (.int (a:Int)) (.int (v:Int))=(a==v):=by
   rw [PyData.eqv,Bool.eq_iff_iff];simp;omega
  rw [this]
  by_cases q:a=v
  ·subst q
   simp
  ·have q':(a==v)=false:=by simp [q]
   rw [q',if_neg (by simp)]
   rw [Rw v ((qa3.mp h).resolve_left (Ne.symm q))]
   rfl
noncomputable def LL (t:List (List Int))(r:Nat)(B:Hx):Prop:=∃ks:List Nat,B[r]? =some (.lst (ks.map W.ref))/\ks.length=t.length/\∀i,i<t.length->B[ks.getD i 0]? =some (.lst ((t.getD i []).map W.int))
theorem KR {m:Ev}{k:Nat}(h:m ρ A=.ok (.ref k) A)(hA:A[k]? =some (.lst ws))(hl:ws.length<=zY){g:W->W}(he:∀w∈ws,me (some w::cap.map λ i=>(ρ[i]?).join) A=.ok (g w) A):
  zV 1 cap (qz m) (zK 0) (zi (.bl true)) (zM me) ρ A=.ok (ws.map g) A:=by
 have e:=ZS (cap:=cap) (me:=me) (ρ:=ρ) (A:=A) (N:=ws.length) (item:=λ i=>ws.getD i .non) (g:=λ i=>g (ws.getD i .non)) (Yf h hA) rfl hl
  (λ i hi=>(Z4 hA).trans (by rw [getElem?_eq_getElem hi,getD_eq_getElem?_getD,getElem?_eq_getElem hi];rfl))
  ((Z4 hA).trans (by rw [getElem?_eq_none (le_refl _)]))
  (λ i hi=>by
   have:ws.getD i .non=ws[i]:=by rw [getD_eq_getElem?_getD,getElem?_eq_getElem hi];rfl
   rw [this];exact he _ (getElem_mem hi))
 rw [e]
 congr 1
 apply ext_getElem
 ·simp
 ·intro i h1 h2
  have hi:i<ws.length:=by simpa using h2
  simp [getD_eq_getElem?_getD,getElem?_eq_getElem hi]
noncomputable def Oa (f:Int->Int):W->W
 | .int v=>.int (f v)
 | w=>w
theorem Eu (f:Int->Int)(l:List Int):(l.map W.int).map (Oa f)=(l.map f).map W.int:=by
 rw [map_map,map_map];rfl
end Mi
namespace G
open PySem L2 Mi
section
variable {r:Nat}
theorem Ii (h8:t.length<=8)(hL:LL t r B)(h0:ρ[i]? =some (some (.ref r))):ql (zV 1 [] (qz (zc i)) (zK 0) (zi (.bl true)) (zM (ql (qm (zc 0))))) ρ B=
  .ok (.ref (B.length+t.length)) (B++(t.map λ r=>O.lst (r.map W.int))++[O.lst ((List.range t.length).map λ i=>W.ref (B.length+i))]):=by
 obtain ⟨ks,e0,hk,hr⟩:=hL;obtain ⟨ρ',acc',B',e,⟨z,g1⟩,g2,g3⟩:=J5 (nl:=1) (cap:=[]) (tw:=zK 0) (ifs:=zi (.bl true)) (em:=zM (ql (qm (zc 0)))) (ρ:=ρ) (A:=B) (N:=t.length)
  (I:=λ p ρ' a C=>(∃z,ρ'=[z])/\C=B++((t.take p).map λ r=>O.lst (r.map W.int))/\a=(List.range p).map λ i=>W.ref (B.length+i)) (Yf (zu h0) e0) (by simp [hk])
  (λ p ρ' a C hp ⟨⟨z,f1⟩,f2,f3⟩=>by
   subst f1 f2 f3;have hx:Ext B (B++((t.take p).map λ r=>O.lst (r.map W.int))):=⟨_,rfl⟩;have hrow:=hx.at (hr p hp);have htp:t.getD p []=t[p]:=by rw [getD_eq_getElem?_getD,getElem?_eq_getElem hp];rfl
   rw [htp] at hrow;refine ⟨.ref (ks.getD p 0),[some (.ref (ks.getD p 0))],?_,rfl,.inl ⟨_,_,_,_,rfl,Yd (wM (kR (w:=.ref (ks.getD p 0)) (ws:=t[p].map W.int) (zu rfl) (by unfold zO;dsimp only;rw [hrow]))) ?_,⟨_,rfl⟩,?_,?_⟩⟩
   ·refine (Z4 (hx.at e0)).trans ?_
    rw [getElem?_map,getD_eq_getElem?_getD,getElem?_eq_getElem (by omega)];rfl
   ·simp;unfold zY;omega
   ·rw [take_succ hp,map_append,append_assoc];rfl
   ·rw [range_succ,map_append,length_append,length_map,length_take,Nat.min_eq_left (le_of_lt hp)];rfl)
  (λ ρ' a C ⟨_,f2,_⟩=>by
   subst f2;exact (Z4 (Ext.at ⟨_,rfl⟩ e0)).trans (by rw [getElem?_eq_none (by simp [hk])])) ⟨⟨none,rfl⟩,by simp,by simp⟩
 rw [wM e,g2,g3,List.take_length];simp
theorem LL.mono (x:Ext A B)(h:LL t r A):LL t r B:=by
 obtain ⟨ks,e0,hk,hr⟩:=h;exact ⟨ks,x.at e0,hk,λ i hi=>x.at (hr i hi)⟩
theorem FW (h1:1<=t.length)(h8:t.length<=8)(hq:Sq t)(hb:∀v∈t.flatten,0<=v/\v<8)(hL:LL t r A):∃B,Kr [.ref r] A=.ok (zr (gn t)) B/\Ext A B:=by
 have hfl:t.flatten.length<=64:=by
  have:∀l:List (List Int),(∀r∈l,r.length<=8)->l.flatten.length<=8 * l.length:=by
   intro l
   induction l with
   | nil=>intro _;simp
   | cons r l ih=>
    intro hr;have h1:=hr r (mem_cons_self ..);have h2:=ih λ r' hr'=>hr r' (mem_cons_of_mem _ hr');rw [flatten_cons,length_append,length_cons];omega
  have:=this t λ r hr=>by rw [hq r hr];exact h8
  omega
 unfold Kr GG;unfold UD;have e1:=Ii (ρ:=[some (.ref r),none]) (i:=0) h8 hL rfl;have x1:Ext A (A++(t.map λ r=>O.lst (r.map W.int))++[O.lst ((List.range t.length).map λ i=>W.ref (A.length+i))]):=⟨(t.map λ r=>O.lst (r.map W.int))++[O.lst ((List.range t.length).map λ i=>W.ref (A.length+i))],by rw [append_assoc]⟩
 have hrow:∀i,i<t.length->_:=λ i hi=>FZ (B:=A) (t:=t) (i:=i) hi;have htop:=IA (B:=A) (t:=t);generalize A++(t.map λ r=>O.lst (r.map W.int))++[O.lst ((List.range t.length).map λ i=>W.ref (A.length+i))]=B1 at e1 x1 hrow htop;have e2:zo Zr (ql (zV 1 [] (qz (zc 0)) (zK 0) (zi (.bl true)) (zM (ql (qm (zc 0)))))) (zS (zm)) [some (.ref r),none] A=.ok (.ref (B1.length+1)) (B1++[.lst []]++[.lst (t.flatten.map W.int)]):=by
  refine (zQ e1 (yf zX)).trans ?_;have hl:=TC (A:=B1++[.lst []]) (kws:=(List.range t.length).map λ i=>(A.length+i,(t.getD i []).map W.int)) (λ p hp=>by
   obtain ⟨i,hi,rfl⟩:=qa6.mp hp;exact yg (hrow i (qa5.mp hi)))
  rw [map_map,map_map] at hl;have hl1:((λ p:Nat × List W=>W.ref p.1) ∘ λ i=>(A.length+i,(t.getD i []).map W.int))=λ i=>W.ref (A.length+i):=rfl;have hl2:((λ p:Nat × List W=>p.2) ∘ λ i=>(A.length+i,(t.getD i []).map W.int))=λ i=>(t.getD i []).map W.int:=rfl;rw [hl1,hl2,<- J0 t [] λ r=>r.map W.int] at hl;have hf:(t.map λ r=>r.map W.int).flatten=t.flatten.map W.int:=by rw [List.map_flatten]
  unfold Zr;dsimp only;rw [yg htop,qH];dsimp only;rw [hl];dsimp only;rw [if_pos ⟨λ z=>(by have:=congrArg List.length z;rw [length_map,length_range] at this;exact absurd this (by rw [length_nil];omega)),by rw [hf,length_map];unfold zY;omega⟩,hf]
  simp
 have x2:Ext A (B1++[.lst []]++[.lst (t.flatten.map W.int)]):=x1.app.app;have hs2:(B1++[.lst []]++[.lst (t.flatten.map W.int)])[B1.length+1]? =some (.lst (t.flatten.map W.int)):=by
  have:B1.length+1=(B1++[O.lst []]).length:=by simp
  rw [this,qH]
 generalize B1++[.lst []]++[.lst (t.flatten.map W.int)]=B2 at e2 x2 hs2;have e3:KJ (zo Zr (ql (zV 1 [] (qz (zc 0)) (zK 0) (zi (.bl true)) (zM (ql (qm (zc 0)))))) (zS (zm))) [some (.ref r),none] A=.ok (.ref B2.length) (B2++[.lst (((dist t).map λ (i:Nat)=>(i:Int)).map W.int)]):=by
  unfold KJ;rw [e2,zL];unfold G6;dsimp only;rw [hs2];dsimp only;rw [Ku];dsimp only;rw [TJ hb];dsimp only
  have:((List.range 8).filter λ i=>decide (i∈t.flatten.map Int.toNat))=dist t:=by
   unfold dist
   apply List.filter_congr
   intro i _;rw [decide_eq_decide]
   constructor
   ·intro z
    obtain ⟨v,hv,rfl⟩:=qa6.mp z;rw [Int.toNat_of_nonneg (hb v hv).1];exact hv
   ·intro z
    exact qa6.mpr ⟨_,z,rfl⟩
  rw [this,map_map]
  rfl
 have x3:=x2.app (l:=[.lst (((dist t).map λ (i:Nat)=>(i:Int)).map W.int)]);have hs3:(B2++[.lst (((dist t).map λ (i:Nat)=>(i:Int)).map W.int)])[B2.length]? =some (.lst (((dist t).map λ (i:Nat)=>(i:Int)).map W.int)):=qH;generalize B2++[.lst (((dist t).map λ (i:Nat)=>(i:Int)).map W.int)]=B3 at e3 x3 hs3;obtain ⟨ks,k0,hk,hr⟩:=LL.mono x3 hL;refine ⟨B3,qY ((zG ((qM e3).trans rfl)).trans (qG (jd ?_))),x3⟩;have idx:∀v,v∈t.flatten->gT (.ref B2.length) (.int v) B3=.ok (.int (YY t v)) B3:=λ v hv=>by
  obtain ⟨u,rfl⟩:=eq_ofNat_of_zero_le (hb v hv).1;have hm:u∈dist t:=HW.mpr ⟨by have:=hb _ hv;omega,hv⟩
  unfold gT;rw [Xw hs3];show (match gX (λ z=>PyData.eqv z (.int (u:Int))) (((dist t).map λ (i:Nat)=>(i:Int)).map PyData.int) with | some j=>if j<1000000 then R.ok (W.int (j:Int)) B3 else .bad | none=>.bad)=_
  have:((dist t).map λ (i:Nat)=>(i:Int)).map PyData.int=(dist t).map λ (i:Nat)=>PyData.int (i:Int):=by rw [map_map];rfl
  rw [this,Rw u hm];dsimp only;have hl:(dist t).idxOf u<(dist t).length:=List.idxOf_lt_length_of_mem hm;have hl8:(dist t).length<=8:=by unfold dist;exact le_trans (List.length_filter_le _ _) (by simp)
  rw [if_pos (by omega)]
  rfl
 have ec:=ZS (cap:=[1]) (me:=mQ yQ (zV 1 [1] (qz (zc 0)) (zK 0) (zi (.bl true)) (zM (jO gT (zc 1) (zc 0))))) (ρ:=[some (.ref r),some (.ref B2.length)]) (A:=B3) (N:=t.length) (item:=λ i=>.ref (ks.getD i 0)) (g:=λ i=>qa ((t.getD i []).map (YY t))) (Yf (zu (i:=0) rfl) k0) (by simp [hk]) (by unfold zY;omega)
  (λ j hj=>(Z4 k0).trans (by rw [getElem?_map,getD_eq_getElem?_getD,getElem?_eq_getElem (by omega)];rfl)) ((Z4 k0).trans (by rw [getElem?_eq_none (by simp [hk])]))
  (λ j hj=>by
   have:=KR (cap:=[1]) (m:=zc 0) (me:=jO gT (zc 1) (zc 0)) (ρ:=[some (.ref (ks.getD j 0)),some (.ref B2.length)]) (g:=Oa (YY t)) (zu rfl) (hr j hj) (by rw [length_map,hq _ (yi hj)];unfold zY;omega) (λ w hw=>by
    obtain ⟨v,hv,rfl⟩:=qa6.mp hw;exact (ZV (g:=gT) (zu rfl) hs3 (zu (i:=0) rfl)).trans (idx v (List.mem_flatten.mpr ⟨_,yi hj,hv⟩)))
   rw [Eu] at this;exact Jy this)
 refine (Jy ec).trans ?_;unfold zr gn;rw [map_map,J0 t [] (qa ∘ λ r=>r.map (YY t))]
 rfl
end
end G
namespace Mi
open PySem L2
noncomputable def y0:Nat->List (List Int)
 | 0=>[[0,1,2,3,4,3,2,1],[1,0,1,2,3,4,3,2],[2,1,0,1,2,3,4,3],[3,2,1,0,1,2,3,4],[4,3,2,1,0,1,2,3],[3,4,3,2,1,0,1,2],[2,3,4,3,2,1,0,1],[1,2,3,4,3,2,1,0]]
 | 1=>[[0,1,2,3,3,2,1],[1,0,1,2,3,3,2],[2,1,0,1,2,3,3],[3,2,1,0,1,2,3],[3,3,2,1,0,1,2],[2,3,3,2,1,0,1],[1,2,3,3,2,1,0]]
 | 2=>[[0,1,2,3,2,1],[1,0,1,2,3,2],[2,1,0,1,2,3],[3,2,1,0,1,2],[2,3,2,1,0,1],[1,2,3,2,1,0]]
 | 3=>[[0,1,2,2,1],[1,0,1,2,2],[2,1,0,1,2],[2,2,1,0,1],[1,2,2,1,0]]
 | 4=>[[0,1,2,1],[1,0,1,2],[2,1,0,1],[1,2,1,0]]
 | 5=>[[0,1,1],[1,0,1],[1,1,0]]
 | 6=>[[0,1],[1,0]]
 | 7=>[[0]]
 | 8=>[[0,1,1,2,1,2,2,3],[1,0,2,1,2,1,3,2],[1,2,0,1,2,3,1,2],[2,1,1,0,3,2,2,1],[1,2,2,3,0,1,1,2],[2,1,3,2,1,0,2,1],[2,3,1,2,1,2,0,1],[3,2,2,1,2,1,1,0]]
 | 9=>[[0,1,1,2],[1,0,2,1],[1,2,0,1],[2,1,1,0]]
 | 10=>[[0,1],[1,0]]
 | 11=>[[0,1,1,1,1,1,1,1],[1,0,1,1,1,1,1,1],[1,1,0,1,1,1,1,1],[1,1,1,0,1,1,1,1],[1,1,1,1,0,1,1,1],[1,1,1,1,1,0,1,1],[1,1,1,1,1,1,0,1],[1,1,1,1,1,1,1,0]]
 | 12=>[[0,1,1,1,1,1,1],[1,0,1,1,1,1,1],[1,1,0,1,1,1,1],[1,1,1,0,1,1,1],[1,1,1,1,0,1,1],[1,1,1,1,1,0,1],[1,1,1,1,1,1,0]]
 | 13=>[[0,1,1,1,1,1],[1,0,1,1,1,1],[1,1,0,1,1,1],[1,1,1,0,1,1],[1,1,1,1,0,1],[1,1,1,1,1,0]]
 | 14=>[[0,1,1,1,1],[1,0,1,1,1],[1,1,0,1,1],[1,1,1,0,1],[1,1,1,1,0]]
 | 15=>[[0,1,1,1],[1,0,1,1],[1,1,0,1],[1,1,1,0]]
 | 16=>[[0,1,1],[1,0,1],[1,1,0]]
 | 17=>[[0,1],[1,0]]
 | 18=>[[0]]
 | 19=>[[0,1,2,2,2,2,2,2],[1,0,2,2,2,2,2,2],[2,2,0,1,2,2,2,2],[2,2,1,0,2,2,2,2],[2,2,2,2,0,1,2,2],[2,2,2,2,1,0,2,2],[2,2,2,2,2,2,0,1],[2,2,2,2,2,2,1,0]]
 | 20=>[[0,1,1,1,2,2,2,2],[1,0,1,1,2,2,2,2],[1,1,0,1,2,2,2,2],[1,1,1,0,2,2,2,2],[2,2,2,2,0,1,1,1],[2,2,2,2,1,0,1,1],[2,2,2,2,1,1,0,1],[2,2,2,2,1,1,1,0]]
 | 21=>[[0,1,2,2,2,2],[1,0,2,2,2,2],[2,2,0,1,2,2],[2,2,1,0,2,2],[2,2,2,2,0,1],[2,2,2,2,1,0]]
 | 22=>[[0,1,1,2,2,2],[1,0,1,2,2,2],[1,1,0,2,2,2],[2,2,2,0,1,1],[2,2,2,1,0,1],[2,2,2,1,1,0]]
 | 23=>[[0,1,2,2],[1,0,2,2],[2,2,0,1],[2,2,1,0]]
 | 24=>[[0,1,1,1,1,2],[1,0,1,1,2,1],[1,1,0,2,1,1],[1,1,2,0,1,1],[1,2,1,1,0,1],[2,1,1,1,1,0]]
 | 25=>[[0,1,2,3],[1,0,3,2],[2,3,0,1],[3,2,1,0]]
 | 26=>[[0,1,2,3,4,5,6,7],[1,0,3,2,5,4,7,6],[2,3,0,1,6,7,4,5],[3,2,1,0,7,6,5,4],[4,5,6,7,0,1,2,3],[5,4,7,6,1,0,3,2],[6,7,4,5,2,3,0,1],[7,6,5,4,3,2,1,0]]
 | 27=>[[0,1],[1,0]]
 | 28=>[[0,1,2,1,3,4,5,4],[1,0,1,2,4,3,4,5],[2,1,0,1,5,4,3,4],[1,2,1,0,4,5,4,3],[3,4,5,4,0,1,2,1],[4,3,4,5,1,0,1,2],[5,4,3,4,2,1,0,1],[4,5,4,3,1,2,1,0]]
 | 29=>[[0,1,1,3,4,4],[1,0,1,4,3,4],[1,1,0,4,4,3],[3,4,4,0,1,1],[4,3,4,1,0,1],[4,4,3,1,1,0]]
 | 30=>[[0,1,3,4],[1,0,4,3],[3,4,0,1],[4,3,1,0]]
 | 31=>[[0,1,2,1,3,3,3,3],[1,0,1,2,3,3,3,3],[2,1,0,1,3,3,3,3],[1,2,1,0,3,3,3,3],[3,3,3,3,0,1,2,1],[3,3,3,3,1,0,1,2],[3,3,3,3,2,1,0,1],[3,3,3,3,1,2,1,0]]
 | 32=>[[0,1,1,3,3,3],[1,0,1,3,3,3],[1,1,0,3,3,3],[3,3,3,0,1,1],[3,3,3,1,0,1],[3,3,3,1,1,0]]
 | 33=>[[0,1,3,3],[1,0,3,3],[3,3,0,1],[3,3,1,0]]
 | _=>[]
theorem DD:((List.range 34).all λ i=>Vj (gn (y0 i))&&((y0 i).all λ r=>r.length==(y0 i).length)&&((y0 i).flatten.all λ v=>decide (0<=v)&&decide (v<8)))=true:=by decide +kernel
theorem Rk (h:i<34):qo (gn (y0 i))/\G.Sq (y0 i)/\∀v∈(y0 i).flatten,0<=v/\v<8:=by
 have:=qa4.mp DD i (qa5.mpr h)
 rw [and_eq_true,and_eq_true] at this;refine ⟨Wa this.1.1,λ r hr=>?_,λ v hv=>?_⟩
 ·exact eq_of_beq (qa4.mp this.1.2 r hr)
 ·have:=qa4.mp this.2 v hv
  rw [and_eq_true,decide_eq_true_iff,decide_eq_true_iff] at this;exact this
theorem Rc :∀{us:List W} {wss:List (List W)},wO A us=some wss->∃ks:List Nat,us=ks.map W.ref/\ks.length=wss.length/\∀i,i<wss.length->A[ks.getD i 0]? =some (.lst (wss.getD i []))
 | [],wss,e=>by
  cases e;exact ⟨[],rfl,rfl,λ i hi=>by cases hi⟩
 | .ref k::us,wss,e=>by
  unfold wO at e;cases h:A[k]? with
  | none=>rw [h] at e;cases e
  | some o=>
   rw [h] at e;cases o with
   | lst ws=>
    dsimp only at e;cases h2:wO A us with
    | none=>rw [h2] at e;cases e
    | some vss=>
     rw [h2] at e;cases e;obtain ⟨ks,rfl,hl,hk⟩:=Rc h2;refine ⟨k::ks,rfl,by simp [hl],λ i hi=>?_⟩
     cases i with
     | zero=>exact h
     | succ i=>exact hk i (by simpa using hi)
   | _=>cases e
 | .non::_,_,e=>by cases e
 | .bl _::_,_,e=>by cases e
 | .int _::_,_,e=>by cases e
 | .str _::_,_,e=>by cases e
 | .tup _::_,_,e=>by cases e
 | .clo _ _ _::_,_,e=>by cases e
 | .xc _::_,_,e=>by cases e
noncomputable def Vg (x:R Fl):Option (Option O × Option (List (List W))):=match x with
 | .ok (.rt (.ref r)) B=>some (B[0]?,match B[r]? with
  | some (.lst us)=>wO B us
  | _=>none)
 | _=>none
theorem Fz {x:R Fl}(h:Vg x=some (some o,some (t.map λ r=>r.map W.int))):∃r B,x=.ok (.rt (.ref r)) B/\B[0]? =some o/\LL t r B:=by
 unfold Vg at h
 split at h
 ·rename_i r B
  injection h with h
  injection h with h1 h2
  cases h3:B[r]? with
  | none=>rw [h3] at h2;cases h2
  | some o'=>
   rw [h3] at h2;cases o' with
   | lst us=>
    dsimp only at h2;obtain ⟨ks,rfl,hl,hk⟩:=Rc h2;rw [length_map] at hl hk;refine ⟨r,B,rfl,h1,ks,h3,hl,λ i hi=>(hk i hi).trans ?_⟩;rw [getD_eq_getElem?_getD,getElem?_map,getD_eq_getElem?_getD,getElem?_eq_getElem hi]
    rfl
   | _=>cases h2
 ·cases h
end Mi
namespace G
open PySem L2 Mi
noncomputable def Plain (X:Ex)(ρ:En)(A:Hx):Prop:=∃i,i<34/\∃r B,X ρ A=.ok (.rt (.ref r)) B/\qW 0 B/\LL (y0 i) r B
section
variable {m1 m2:Ex}{ρ1:En}{L:Hx}{c:Ev}
theorem wQ (h:m1 ρ A=.ok (.nx ρ1) A1)(q:Plain m2 ρ1 A1):Plain (zq m1 m2) ρ A:=by
 unfold Plain;rw [zG h];exact q
theorem JD (q:Plain m1 ρ A):Plain (zq m1 m2) ρ A:=by
 obtain ⟨i,hi,r,B,e,s,l⟩:=q;exact ⟨i,hi,r,B,qG e,s,l⟩
theorem JK (h:c ρ A=.ok (.bl true) A1)(q:Plain m1 ρ A1):Plain (qw c m1 m2) ρ A:=by
 unfold Plain;rw [gw h];exact q
theorem jP {m:Ex}(h:c ρ A=.ok (.bl false) A)(q:Plain m ρ A):Plain (zq (qw c m1 zy) m) ρ A:=wQ ((j4 h).trans jq) q
theorem Ds {L':Hx}(s:qW 0 (o::L)):qW 0 (o::L'):=s
theorem jk (i:Nat)(hi:i<34)(s:qW 0 (o::L))(h:Vg (m1 ρ A)=some (some o,some ((y0 i).map λ r=>r.map W.int))):Plain m1 ρ A:=by
 obtain ⟨r,B,e,h0,l⟩:=Fz h;obtain ⟨c,b,e1,q⟩:=s;have e1':some o=some (O.lst [.int c,.bl b]):=e1;exact ⟨i,hi,r,B,e,⟨c,b,by rw [h0];exact e1',q⟩,l⟩
theorem take1 (s:qW 0 (o::L)){m:Int}(h1:0<m)(h2:m<1000000000000000):∃(r:Nat) (o':O),jZ [.ref 0,.int m] (o::L)=.ok (.int (r:Int)) (o'::L)/\(r:Int)<m/\qW 0 (o'::L):=by
 obtain ⟨r,o',e,a,b,s'⟩:=RW s h1 h2;exact ⟨r.toNat,o',by rw [e,Int.toNat_of_nonneg a];rfl,by omega,s'⟩
theorem Q8 {a:Ea}{vs:List W}{k:Nat}(s:qW 0 (o::L))(h0:ρ[0]? =some (some (.ref 0)))(ha:∀A,a ρ A=.ok vs A)(hk:vs.length=k)(k1:0<k)(k2:k<1000):∃(j:Nat) (w:W) (o':O),zo zC (zS a) (zF jZ (zh (zc 0) (zh (zi (.int (k:Int))) (zm)))) ρ (o::L)=.ok w (o'::(L++[.lst vs]))/\j<k/\vs[j]? =some w/\qW 0 (o'::(L++[.lst vs])):=by
 obtain ⟨r,o',e,hr,s'⟩:=take1 (L:=L++[.lst vs]) (m:=(k:Int)) (Ds s) (by omega) (by omega)
 have hrl:r<vs.length:=by omega
 refine ⟨r,vs[r],o',?_,by omega,getElem?_eq_getElem hrl,s'⟩
 refine (zQ (yf (ha _)) ((zT (zH (zu h0) (zH q9 zX))).trans e)).trans ?_;have hl:(o'::(L++[O.lst vs]))[(o::L).length]? =some (.lst vs):=by
  show (L++[O.lst vs])[L.length]? =_;exact qH
 exact gj hl (getElem?_eq_getElem hrl)
end
theorem three (h:j<3):j=0∨j=1∨j=2:=by omega
theorem Vr (h:j<5):j=0∨j=1∨j=2∨j=3∨j=4:=by omega
theorem X8 (h:j<8):j=0∨j=1∨j=2∨j=3∨j=4∨j=5∨j=6∨j=7:=by omega
theorem E5 (s:qW 0 [o]):Plain (GF jZ) [some (.ref 0),none,none,none,none,none,none,none,none,none,none] [o]:=by
 unfold GF;obtain ⟨way,o1,e1,hw,s1⟩:=take1 s (m:=8) (by decide) (by decide)
 refine wQ (ρ1:=[some (.ref 0),some (.int (way:Int)),none,none,none,none,none,none,none,none,none]) (A1:=[o1]) ((qM ((zT (ws:=[.ref 0,.int 8]) (A1:=[o]) rfl).trans e1)).trans rfl) ?_;obtain ⟨j,w,o2,e2,hj,hjw,s2⟩:=Q8 (k:=8) (ρ:=[some (.ref 0),some (.int (way:Int)),none,none,none,none,none,none,none,none,none]) (a:=zh (zi (.int 8)) (zh (zi (.int 7)) (zh (zi (.int 6)) (zh (zi (.int 5)) (zh (zi (.int 4)) (zh (zi (.int 3)) (zh (zi (.int 2)) (zh (zi (.int 1)) (zm))))))))) (vs:=[.int 8,.int 7,.int 6,.int 5,.int 4,.int 3,.int 2,.int 1]) s1 rfl (λ _=>rfl) rfl (by decide) (by decide)
 refine wQ (ρ1:=[some (.ref 0),some (.int (way:Int)),some w,none,none,none,none,none,none,none,none]) (A1:=[o2,.lst [.int 8,.int 7,.int 6,.int 5,.int 4,.int 3,.int 2,.int 1]]) ((qM e2).trans rfl) ?_;have hway:way<8:=by omega
 clear e1 e2 hw s s1;rcases X8 hway with rfl | rfl | rfl | rfl | rfl | rfl | rfl | rfl
 ·refine JD (JK (A1:=[o2,.lst [.int 8,.int 7,.int 6,.int 5,.int 4,.int 3,.int 2,.int 1]]) (by kernel_rfl) ?_)
  rcases X8 hj with rfl | rfl | rfl | rfl | rfl | rfl | rfl | rfl<;>cases hjw
  ·exact jk 0 (by decide) s2 (by kernel_rfl)
  ·exact jk 1 (by decide) s2 (by kernel_rfl)
  ·exact jk 2 (by decide) s2 (by kernel_rfl)
  ·exact jk 3 (by decide) s2 (by kernel_rfl)
  ·exact jk 4 (by decide) s2 (by kernel_rfl)
  ·exact jk 5 (by decide) s2 (by kernel_rfl)
  ·exact jk 6 (by decide) s2 (by kernel_rfl)
  ·exact jk 7 (by decide) s2 (by kernel_rfl)
 ·refine jP (by kernel_rfl) (JD (JK (A1:=[o2,.lst [.int 8,.int 7,.int 6,.int 5,.int 4,.int 3,.int 2,.int 1]]) (by kernel_rfl) ?_))
  obtain ⟨j',w',o3,e3,hj',hjw',s3⟩:=Q8 (k:=3) (ρ:=[some (.ref 0),some (.int ((1:Nat):Int)),some w,none,none,none,none,none,none,none,none]) (a:=zh (zi (.int 8)) (zh (zi (.int 4)) (zh (zi (.int 2)) (zm)))) (vs:=[.int 8,.int 4,.int 2]) s2 rfl (λ _=>rfl) rfl (by decide) (by decide)
  refine wQ ((qM e3).trans rfl) ?_;rcases three hj' with rfl | rfl | rfl<;>cases hjw'
  ·exact jk 8 (by decide) s3 (by kernel_rfl)
  ·exact jk 9 (by decide) s3 (by kernel_rfl)
  ·exact jk 10 (by decide) s3 (by kernel_rfl)
 ·refine jP (by kernel_rfl) (jP (by kernel_rfl) (JD (JK (A1:=[o2,.lst [.int 8,.int 7,.int 6,.int 5,.int 4,.int 3,.int 2,.int 1]]) (by kernel_rfl) ?_)))
  rcases X8 hj with rfl | rfl | rfl | rfl | rfl | rfl | rfl | rfl<;>cases hjw
  ·exact jk 11 (by decide) s2 (by kernel_rfl)
  ·exact jk 12 (by decide) s2 (by kernel_rfl)
  ·exact jk 13 (by decide) s2 (by kernel_rfl)
  ·exact jk 14 (by decide) s2 (by kernel_rfl)
  ·exact jk 15 (by decide) s2 (by kernel_rfl)
  ·exact jk 16 (by decide) s2 (by kernel_rfl)
  ·exact jk 17 (by decide) s2 (by kernel_rfl)
  ·exact jk 18 (by decide) s2 (by kernel_rfl)
 ·refine jP (by kernel_rfl) (jP (by kernel_rfl) (jP (by kernel_rfl) (JD (JK (A1:=[o2,.lst [.int 8,.int 7,.int 6,.int 5,.int 4,.int 3,.int 2,.int 1]]) (by kernel_rfl) ?_))))
  obtain ⟨j',w',o3,e3,hj',hjw',s3⟩:=Q8 (k:=5) (ρ:=[some (.ref 0),some (.int ((3:Nat):Int)),some w,none,none,none,none,none,none,none,none]) (a:=zh (zB (zh (zi (.int 2)) (zh (zi (.int 4)) (zm)))) (zh (zB (zh (zi (.int 4)) (zh (zi (.int 2)) (zm)))) (zh (zB (zh (zi (.int 2)) (zh (zi (.int 3)) (zm)))) (zh (zB (zh (zi (.int 3)) (zh (zi (.int 2)) (zm)))) (zh (zB (zh (zi (.int 2)) (zh (zi (.int 2)) (zm)))) (zm)))))) (vs:=[.tup [.int 2,.int 4],.tup [.int 4,.int 2],.tup [.int 2,.int 3],.tup [.int 3,.int 2],.tup [.int 2,.int 2]]) s2 rfl (λ _=>rfl) rfl (by decide) (by decide)
  have asg:∀{m:Ev} {tw:Tg} {ρ ρ':En} {A A1:Hx} {w:W},m ρ A=.ok w A1->tw w ρ=some ρ'->Qb m tw ρ A=.ok (.nx ρ') A1:=λ h h'=>by
   unfold Qb;rw [h,zL,h']
  rcases Vr hj' with rfl | rfl | rfl | rfl | rfl<;>cases hjw'
  ·exact wQ (asg e3 rfl) (jk 19 (by decide) s3 (by kernel_rfl))
  ·exact wQ (asg e3 rfl) (jk 20 (by decide) s3 (by kernel_rfl))
  ·exact wQ (asg e3 rfl) (jk 21 (by decide) s3 (by kernel_rfl))
  ·exact wQ (asg e3 rfl) (jk 22 (by decide) s3 (by kernel_rfl))
  ·exact wQ (asg e3 rfl) (jk 23 (by decide) s3 (by kernel_rfl))
 ·exact jP (by kernel_rfl) (jP (by kernel_rfl) (jP (by kernel_rfl) (jP (by kernel_rfl) (JD (JK (A1:=[o2,.lst [.int 8,.int 7,.int 6,.int 5,.int 4,.int 3,.int 2,.int 1]]) (by kernel_rfl) (jk 24 (by decide) s2 (by kernel_rfl)))))))
 ·refine jP (by kernel_rfl) (jP (by kernel_rfl) (jP (by kernel_rfl) (jP (by kernel_rfl) (jP (by kernel_rfl) (JD (JK (A1:=[o2,.lst [.int 8,.int 7,.int 6,.int 5,.int 4,.int 3,.int 2,.int 1]]) (by kernel_rfl) ?_))))))
  obtain ⟨j',w',o3,e3,hj',hjw',s3⟩:=Q8 (k:=3) (ρ:=[some (.ref 0),some (.int ((5:Nat):Int)),some w,none,none,none,none,none,none,none,none]) (a:=zh (zi (.int 4)) (zh (zi (.int 8)) (zh (zi (.int 2)) (zm)))) (vs:=[.int 4,.int 8,.int 2]) s2 rfl (λ _=>rfl) rfl (by decide) (by decide)
  refine wQ ((qM e3).trans rfl) ?_;rcases three hj' with rfl | rfl | rfl<;>cases hjw'
  ·exact jk 25 (by decide) s3 (by kernel_rfl)
  ·exact jk 26 (by decide) s3 (by kernel_rfl)
  ·exact jk 27 (by decide) s3 (by kernel_rfl)
 ·refine jP (by kernel_rfl) (jP (by kernel_rfl) (jP (by kernel_rfl) (jP (by kernel_rfl) (jP (by kernel_rfl) (jP (by kernel_rfl) ?_)))))
  obtain ⟨j',w',o3,e3,hj',hjw',s3⟩:=Q8 (k:=3) (ρ:=[some (.ref 0),some (.int ((6:Nat):Int)),some w,none,none,none,none,none,none,none,none]) (a:=zh (zi (.int 4)) (zh (zi (.int 3)) (zh (zi (.int 2)) (zm)))) (vs:=[.int 4,.int 3,.int 2]) s2 rfl (λ _=>rfl) rfl (by decide) (by decide)
  refine wQ ((qM e3).trans rfl) ?_;rcases three hj' with rfl | rfl | rfl<;>cases hjw'
  ·exact jk 28 (by decide) s3 (by kernel_rfl)
  ·exact jk 29 (by decide) s3 (by kernel_rfl)
  ·exact jk 30 (by decide) s3 (by kernel_rfl)
 ·refine jP (by kernel_rfl) (jP (by kernel_rfl) (jP (by kernel_rfl) (jP (by kernel_rfl) (jP (by kernel_rfl) (jP (by kernel_rfl) ?_)))))
  obtain ⟨j',w',o3,e3,hj',hjw',s3⟩:=Q8 (k:=3) (ρ:=[some (.ref 0),some (.int ((7:Nat):Int)),some w,none,none,none,none,none,none,none,none]) (a:=zh (zi (.int 4)) (zh (zi (.int 3)) (zh (zi (.int 2)) (zm)))) (vs:=[.int 4,.int 3,.int 2]) s2 rfl (λ _=>rfl) rfl (by decide) (by decide)
  refine wQ ((qM e3).trans rfl) ?_;rcases three hj' with rfl | rfl | rfl<;>cases hjw'
  ·exact jk 31 (by decide) s3 (by kernel_rfl)
  ·exact jk 32 (by decide) s3 (by kernel_rfl)
  ·exact jk 33 (by decide) s3 (by kernel_rfl)
theorem EU (s:qW 0 [o]):∃i,i<34/\∃r B,Km [.ref 0] [o]=.ok (.ref r) B/\qW 0 B/\LL (y0 i) r B:=by
 obtain ⟨i,hi,r,B,e,q⟩:=E5 s;refine ⟨i,hi,r,B,?_,q⟩;unfold Km GI;exact qY e
end G
namespace Mi
open PySem L2
noncomputable def VA (g:Nat->W):W->W
 | .int v=>g v.toNat
 | w=>w
theorem Rl (g:Nat->W)(o:List Nat):((o.map λ (a:Nat)=>(a:Int)).map W.int).map (VA g)=o.map g:=by
 rw [map_map,map_map]
 apply map_congr_left
 intro a _;show g (Int.toNat (a:Int))=g a;rw [toNat_natCast]
theorem Sv {fd:List Int}{M:Nat}{s:Int}(h:fd.Perm ((List.range M).map λ (k:Nat)=>s+(k:Int))):∃p:List Nat,fd=p.map (λ (k:Nat)=>s+(k:Int))/\p.Perm (List.range M):=by
 refine ⟨fd.map λ v=>(v - s).toNat,?_,?_⟩
 ·rw [map_map]
  conv=>lhs;rw [<- map_id fd]
  apply map_congr_left
  intro v hv;obtain ⟨k,_,rfl⟩:=qa6.mp (h.mem_iff.mp hv);show s+(k:Int)=s+(((s+(k:Int) - s).toNat:Nat):Int);omega
 ·have:=h.map λ v=>(v - s).toNat
  rw [map_map] at this;have e:(List.range M).map ((λ v:Int=>(v - s).toNat) ∘ λ (k:Nat)=>s+(k:Int))=List.range M:=by
   conv=>rhs;rw [<- map_id (List.range M)]
   apply map_congr_left
   intro k _;show (s+(k:Int) - s).toNat=k;omega
  rw [e] at this;exact this
end Mi
namespace G
open PySem L2 Mi
section
theorem Xh (h:qo t)(hi:ρ[i]? =some (some (zr t))):mQ j7 (zV 1 [] (qz (zc i)) (zK 0) (zi (.bl true)) (zM (mQ j7 (qm (zc 0))))) ρ A=.ok (.int (qB t - 1)) A:=by
 have n8:=h.n8;have ec:=Fc (cap:=[]) (A:=A) (ρ:=ρ) (o:=t) (f:=qa) (m:=zc i) (me:=mQ j7 (qm (zc 0))) (G:=λ r=>.int (kH r)) (zu hi) (by unfold zY;omega) (λ r hr=>(yx (kR (w:=qa r) (ws:=r.map W.int) (A1:=A) (zu rfl) rfl)).trans (Xn (h.row_ne hr)))
 have em:(t.map λ r=>W.int (kH r))=(t.map kH).map W.int:=by rw [map_map];rfl
 rw [em] at ec;refine ((yx ec).trans (Xn h.map_ne)).trans ?_
 have:qB t - 1=kH (t.map kH):=by unfold qB;omega
 rw [this]
theorem L9 {ma mb:Ev}{M:Nat}(ha:ma ρ A=.ok (.int 1) A)(hb:mb ρ A=.ok (.int (1+(M:Int))) A)(hM:M<=100):Yq ma mb ρ A=.ok (.ref A.length) (A++[.lst (((List.range M).map λ (k:Nat)=>1+(k:Int)).map W.int)]):=by
 unfold Yq;rw [ha,zL,hb,zL];dsimp only;have e:(1+(M:Int) - 1).toNat=M:=by omega
 rw [if_pos (by
  have s1:jN 1=true:=by decide
  have s2:jN (1+(M:Int))=true:=by unfold jN;simp;omega
  rw [s1,s2,e,decide_eq_true (by unfold zY;omega)];rfl),e,map_map]
 rfl
noncomputable def Known (t:List (List Int)):Prop:=∃i p o,i<34/\p.Perm (List.range (qB (gn (y0 i)) - 1).toNat)/\o.Perm (List.range (gn (y0 i)).length)/\t=kZ (gn (y0 i)) p o
theorem E2 (s:qW 0 [o]):∃t B,Kq [.ref 0] [o]=.ok (zr t) B/\qW 0 B/\qo t/\Known t:=by
 obtain ⟨i,hi,r,B0,e0,s0,l0⟩:=EU s;obtain ⟨tt,sq,hb⟩:=Rk hi;have hlen:(gn (y0 i)).length=(y0 i).length:=by unfold gn;rw [length_map]
 have m1:=tt.n1;have m8:=tt.n8;obtain ⟨B1,e1,x1⟩:=FW (by omega) (by omega) sq hb l0
 have s1:=s0.ext x1;generalize hu:gn (y0 i)=u at *;clear hlen l0;have n1:=tt.n1;have n8:=tt.n8;have kb:=kx tt;obtain ⟨M,hM⟩:=eq_ofNat_of_zero_le (show 0<=qB u - 1 by omega)
 have el:=PH (ws:=u.map qa) (ρ:=[some (.ref 0),some (zr u),none,none]) (i:=1) (A:=B1) rfl;rw [length_map] at el;have e2:=Ik el (by omega)
 have hil:iL (List.range u.length)=((List.range u.length).map λ (a:Nat)=>0+(a:Int)).map W.int:=by
  rw [map_map]
  apply map_congr_left
  intro a _;show W.int (a:Int)=W.int (0+(a:Int));rw [zero_add]
 rw [hil] at e2;have s2:=s1.ext (Ext.one (o:=.lst (((List.range u.length).map λ (a:Nat)=>0+(a:Int)).map W.int)));obtain ⟨r2,B2,fd,e3,h2,p2,k2,nw2⟩:=RI s2 qH (by simp;omega)
 obtain ⟨od,rfl,po⟩:=Sv p2;have hod:(od.map λ (k:Nat)=>(0:Int)+(k:Int))=od.map λ (k:Nat)=>(k:Int):=map_congr_left λ a _=>by omega
 rw [hod] at h2;have es2:zF QX (zh (zc 0) (zh (Yo (mQ jb (qm (zc 1)))) (zm))) [some (.ref 0),some (zr u),none,none] B1=.ok (.ref r2) B2:=(zT (zH (zu (i:=0) rfl) (zH e2 zX))).trans e3;have hr20:0<r2:=by have:=s1.lt;simp at nw2;omega
 have e4:zS (zh (zi (.int 0)) (zm)) [some (.ref 0),some (zr u),some (.ref r2),none] B2=.ok (.ref B2.length) (B2++[.lst [.int 0]]):=yf (zH q9 zX);have s3:=k2.st.ext (Ext.one (o:=.lst [.int 0]));have h2':=yg (u:=.lst [.int 0]) h2;have hz:(B2++[.lst [.int 0]])[B2.length]? =some (.lst [.int 0]):=qH;have h2l:=Zl h2;have hB2:0<B2.length:=by omega
 generalize B2++[.lst [.int 0]]=B3 at e4 s3 h2' hz;have emx:=Xh tt (ρ:=[some (.ref 0),some (zr u),some (.ref r2),none]) (i:=1) (A:=B3) rfl;rw [hM] at emx;have e5:=L9 (ρ:=[some (.ref 0),some (zr u),some (.ref r2),none]) (A:=B3) (M:=M) (ma:=zi (.int 1)) (mb:=zo je (zi (.int 1)) (mQ j7 (zV 1 [] (qz (zc 1)) (zK 0) (zi (.bl true)) (zM (mQ j7 (qm (zc 0))))))) q9 ((zQ q9 emx).trans rfl) (by omega)
 have s4:=s3.ext (Ext.one (o:=.lst (((List.range M).map λ (k:Nat)=>1+(k:Int)).map W.int)));obtain ⟨r3,B4,fd3,e6,h3,p3,k3,nw3⟩:=RI s4 qH (by simp;omega)
 obtain ⟨pk,rfl,pp⟩:=Sv p3;have h2'':=k3.kp.get (yg h2') (by omega)
 have hz':=k3.kp.get (yg hz) (by omega)
 have es3:zo je (zS (zh (zi (.int 0)) (zm))) (zF QX (zh (zc 0) (zh (Yq (zi (.int 1)) (zo je (zi (.int 1)) (mQ j7 (zV 1 [] (qz (zc 1)) (zK 0) (zi (.bl true)) (zM (mQ j7 (qm (zc 0)))))))) (zm)))) [some (.ref 0),some (zr u),some (.ref r2),none] B2=.ok (.ref B4.length) (B4++[.lst ((jf pk).map W.int)]):=by
  refine (zQ e4 ((zT (zH (zu (i:=0) rfl) (zH e5 zX))).trans e6)).trans ((Xa hz' h3 ?_).trans rfl)
  have:=pp.length_eq
  rw [length_range] at this;rw [length_map,length_map,this];unfold zY;simp;omega
 have h5:=yg (u:=.lst ((jf pk).map W.int)) h2'';have h6:(B4++[.lst ((jf pk).map W.int)])[B4.length]? =some (.lst ((jf pk).map W.int)):=qH;have s5:=k3.st.ext (Ext.one (o:=.lst ((jf pk).map W.int)));generalize hB5:B4++[.lst ((jf pk).map W.int)]=B5 at es3 h5 h6 s5;have hol:od.length=u.length:=by rw [po.length_eq,length_range]
 have hom:∀a∈od,a<u.length:=λ a ha=>qa5.mp (po.mem_iff.mp ha);have hpl:pk.length=M:=by rw [pp.length_eq,length_range]
 have hM':(qB u - 1).toNat=M:=by omega
 have res:=Tt tt (p:=pk) (o:=od) (by rw [hM'];exact pp) po
 refine ⟨kZ u pk od,B5,?_,s5,res.1,i,pk,od,hi,by rw [hu,hM'];exact pp,by rw [hu];exact po,by rw [hu]⟩
 unfold Kq;refine qY ?_;unfold UO;refine (zG ((qM ((zT (zH ((zT (zH (zu (i:=0) rfl) zX)).trans e0) zX)).trans e1)).trans rfl)).trans ((zG ((qM es2).trans rfl)).trans ((zG ((qM es3).trans rfl)).trans (qG (jd ?_))));have inner:∀a,a∈od->∀b,b∈od->zo zC (zc 3) (zo zC (zo zC (zc 2) (zc 1)) (zc 0)) [some (.int (b:Int)),some (.int (a:Int)),some (zr u),some (.ref B4.length)] B5=.ok (.int ((jf pk).getD (at2 u a b).toNat 0)) B5:=λ a ha b hb=>by
  have la:=hom a ha;have lb:=hom b hb;have bd:=Z8 tt la lb;have kg:=Wl tt la lb;obtain ⟨v,hv⟩:=eq_ofNat_of_zero_le bd.1;have e:zo zC (zo zC (zc 2) (zc 1)) (zc 0) [some (.int (b:Int)),some (.int (a:Int)),some (zr u),some (.ref B4.length)] B5=.ok (.int (v:Int)) B5:=by
   rw [<- hv];exact (zQ ((zQ (zu rfl) (zu rfl)).trans (gN la)) (zu rfl)).trans (Qt (by rw [tt.sq _ (yi la)];exact lb))
  have hvl:v<(jf pk).length:=by
   show v<(pk.map _).length+1;rw [length_map];omega
  refine (zQ (zu (i:=3) rfl) e).trans (gj h6 ?_);rw [hv,toNat_natCast,getElem?_map,getElem?_eq_getElem hvl,getD_eq_getElem?_getD,getElem?_eq_getElem hvl]
  rfl
 have ec:=KR (cap:=[1,2,3]) (m:=zc 2) (me:=mQ yQ (zV 1 [0,1,3] (qz (zc 2)) (zK 0) (zi (.bl true)) (zM (zo zC (zc 3) (zo zC (zo zC (zc 2) (zc 1)) (zc 0)))))) (ρ:=[some (.ref 0),some (zr u),some (.ref r2),some (.ref B4.length)]) (A:=B5) (g:=VA λ a=>qa (od.map λ b=>(jf pk).getD (at2 u a b).toNat 0)) (zu rfl) h5 (by simp;unfold zY;omega) (λ w hw=>by
  obtain ⟨v,hv,rfl⟩:=qa6.mp hw;obtain ⟨a,ha,rfl⟩:=qa6.mp hv;have ei:=KR (cap:=[0,1,3]) (m:=zc 2) (me:=zo zC (zc 3) (zo zC (zo zC (zc 2) (zc 1)) (zc 0))) (ρ:=[some (.int (a:Int)),some (zr u),some (.ref r2),some (.ref B4.length)]) (A:=B5) (g:=VA λ b=>.int ((jf pk).getD (at2 u a b).toNat 0)) (zu rfl) h5 (by simp;unfold zY;omega) (λ w hw=>by
   obtain ⟨v,hv,rfl⟩:=qa6.mp hw;obtain ⟨b,hb,rfl⟩:=qa6.mp hv;refine (inner a ha b hb).trans ?_;show _=R.ok (W.int ((jf pk).getD (at2 u a (Int.toNat (b:Int))).toNat 0)) B5;rw [toNat_natCast])
  rw [Rl] at ei;refine (Jy ei).trans ?_;show _=R.ok (qa (od.map λ b=>(jf pk).getD (at2 u (Int.toNat (a:Int)) b).toNat 0)) B5;rw [toNat_natCast];unfold qa;rw [map_map]
  rfl)
 rw [Rl] at ec;refine (Jy ec).trans ?_;unfold zr kZ;rw [map_map]
 rfl
theorem FG (s:qW n A):∃t B,Qi [.ref n] A=.ok (zr t) B/\qo t/\Known t/\Kn n A B/\B.length=A.length:=by
 obtain ⟨c,b,hA,hc,hb⟩:=s;have hm:=Zl hA;obtain ⟨t,A1,e,⟨c',b',e',hc',hb'⟩,tb,kn⟩:=E2 (o:=.lst [.int c,.bl b]) ⟨c,b,rfl,hc,hb⟩;refine ⟨t,A.set n (.lst [.int c',.bl b']),?_,tb,kn,⟨Kp.set,c',b',getElem?_set_self hm,hc',hb'⟩,length_set ..⟩;unfold Qi;exact EH hA rfl e e' (Yj t)
end
end G
namespace Mi
open PySem L2
theorem M7 {c:En}{j:jy}{N:Nat}{u v g:Nat->W}(hat:∀i,i<N->j.at_ A i=some (some (.tup [u i,v i])))(hend:j.at_ A N=some none)(he:∀i,i<N->me (some (u i)::some (v i)::c) A=.ok (g i) A):
  ∀(f i:Nat) (x y:Option W) (acc:List W),i+f=N->acc.length+f<=zY->∃ρ,qC j (jG 0 1) (zi (.bl true)) (zM me) f i (x::y::c) acc A=.ok (ρ,acc++(List.range' i f).map g) A:=by
 intro f
 induction f with
 | zero=>
  intro i x y acc h hl
  have:i=N:=by omega
  subst this;refine ⟨x::y::c,?_⟩;unfold qC;rw [hend];simp
 | succ f ih=>
  intro i x y acc h hl;obtain ⟨ρ,e⟩:=ih (i+1) (some (u i)) (some (v i)) (acc++[g i]) (by omega) (by rw [length_append,length_singleton];omega)
  refine ⟨ρ,?_⟩;rw [qC,hat i (by omega)]
  dsimp only;rw [show jG 0 1 (.tup [u i,v i]) (x::y::c)=some (some (u i)::some (v i)::c) from rfl]
  dsimp only [zi];rw [zL];dsimp only;have ee:zM me (some (u i)::some (v i)::c) acc A=.ok (some (u i)::some (v i)::c,acc++[g i]) A:=by
   unfold zM;rw [he i (by omega),zL,if_pos (by omega)]
  rw [ee,zL];rw [e,append_assoc,range'_succ,map_cons]
  rfl
theorem US {j:jy}{N:Nat}{u v g:Nat->W}(hm:mi ρ A=.ok j A)(hj:j.len=N)(hN:N<=1000)(hat:∀i,i<N->j.at_ A i=some (some (.tup [u i,v i])))(hend:j.at_ A N=some none)
  (he:∀i,i<N->me (some (u i)::some (v i)::cap.map λ i=>(ρ[i]?).join) A=.ok (g i) A):zV 2 cap mi (jG 0 1) (zi (.bl true)) (zM me) ρ A=.ok ((List.range N).map g) A:=by
 obtain ⟨ρ',e⟩:=M7 (A:=A) (c:=cap.map λ i=>(ρ[i]?).join) hat hend he N 0 none none [] (by omega) (by unfold zY;simp;omega)
 unfold zV;rw [hm,zL,hj];show R.bind (R.nox (qC j _ _ _ N 0 (none::none::cap.map λ i=>(ρ[i]?).join) [] A)) _=_;rw [e,<- range_eq_range',nil_append]
 rfl
end Mi
namespace G
open PySem L2 Mi
theorem gO {r:R α}{a:α}(h:r=.ok a A):r.nox=.ok a A:=by rw [h];rfl
theorem Rp {m:Ex}{w:W}(h:m (ws.map some++List.replicate (n - ws.length) none) A=.ok (.rt w) A1):wU n m ws A=.ok w A1:=by unfold wU;rw [h];rfl
theorem Xp {m:Ex}(h:m (ws.map some++List.replicate (n - ws.length) none) A=.ok (.nx ρ) A1):wU n m ws A=.ok .non A1:=by unfold wU;rw [h];rfl
theorem kO {m1 m2:Ex}(h:m1 ρ A=.exc x A1):zq m1 m2 ρ A=.exc x A1:=by unfold zq;rw [h,So]
theorem Z0 {m:Ev}(h:m ρ A=.exc x A1):jI m ρ A=.exc x A1:=by unfold jI;rw [h,So]
theorem gf {m:Ex}(h:m (ws.map some++List.replicate (n - ws.length) none) A=.exc x A1):wU n m ws A=.exc x A1:=by unfold wU;rw [h];rfl
end G
namespace Mi
open PySem L2
theorem IS {m m':Ev}{us vs:List W}(h:m ρ A=.ok (.tup us) A)(h':m' ρ A=.ok (.tup vs) A):QH m m' ρ A=.ok (QK (.tup us) (.tup vs) us.length) A:=by
 unfold QH;rw [h,zL,h',zL]
 rfl
end Mi
namespace G
open PySem L2 Mi
theorem Ms {a:Ea}{xs ys:List W}{r:Nat}{u e:Option W}(hA:A[r]? =some (.lst xs))(ha:a [u,e,none,some (.ref r)] A=.ok ys A)(hl:xs.length+ys.length<=100):
  zZ 3 (zo je (zc 3) (zS a)) [u,e,none,some (.ref r)] A=.ok (.nx [u,e,none,some (.ref (A.length+1))]) (A++[.lst ys]++[.lst (xs++ys)]):=by
 refine (qM ((zQ (zu (i:=3) rfl) (yf ha)).trans (Xa (yg hA) qH (by unfold zY;omega)))).trans ?_
 rw [length_append,length_singleton]
 rfl
theorem K2 {a:Ea}{xs ys zs:List W}{L:Hx}{u e:Option W}(hL:L[j]? =some (.lst xs))(ha:∀m A,a [u,e,none,m] A=.ok ys A)(hl:xs.length+ys.length<=100)(hz:xs++ys=zs):
  zZ 3 (zo je (zc 3) (zS a)) [u,e,none,some (.ref (A.length+j))] (A++L)=.ok (.nx [u,e,none,some (.ref (A.length+(L.length+1)))]) (A++(L++[.lst ys,.lst zs])):=by
 have hA:(A++L)[A.length+j]? =some (.lst xs):=by rw [getElem?_append_right (by omega),show A.length+j - A.length=j by omega];exact hL
 rw [Ms hA (ha _ _) hl,hz,length_append,append_assoc,append_assoc,Nat.add_assoc]
 rfl
noncomputable def qh (i a n:Nat):List W:=(List.range' a n).map λ k=>W.bl (decide (k=i))
end G
namespace Mi
open PySem L2
end Mi
namespace G
open PySem L2 Mi
theorem Xs {f:Fn}{us:List W}{k:Nat}(hn:qS us=true)(h:f us []=.ok (.ref k) A1)(hk:A1[k]? =some (.lst ws))(hw:qS ws=true):iso f us A=.ok (.ref A.length) (A++[.lst ws]):=by
 unfold iso;rw [if_pos hn,h];dsimp only;rw [hk];dsimp only;rw [if_pos hw]
end G
namespace Mi
open PySem L2
section
variable {j:jy}{c:En}{f:Nat}{x:Option W}{w y:W}{acc:List W}{m:Ev}
theorem UW (h:n<1000000):jN (n:Int)=true:=by
 unfold jN;rw [and_eq_true,decide_eq_true_iff,decide_eq_true_iff];omega
theorem M4 (h:j.at_ A i=some none):qC j (zK 0) (zi (.bl true)) (zM me) f i ρ acc A=.ok (ρ,acc) A:=by
 cases f<;>(unfold qC;rw [h])
theorem LO (h:j.at_ A i=some (some w))(he:me (some w::c) A=.ok y A1)(hl:acc.length<zY):qC j (zK 0) (zi (.bl true)) (zM me) (f+1) i (x::c) acc A=qC j (zK 0) (zi (.bl true)) (zM me) f (i+1) (some w::c) (acc++[y]) A1:=by
 rw [qC,h];dsimp only [zK,List.set,zi];rw [zL];dsimp only;have ee:zM me (some w::c) acc A=.ok (some w::c,acc++[y]) A1:=by
  unfold zM;rw [he,zL,if_pos hl]
 rw [ee,zL]
theorem DI (h:m ρ A=.ok (.ref n) A1)(hA:A1[n]? =some (.lst ws)):qz m ρ A=.ok ⟨λ A i=>(zO (.ref n) A).map λ ws=>ws[i]?,ws.length⟩ A1:=by
 unfold qz YN;rw [h,zL];have e:zO (.ref n) A1=some ws:=by unfold zO;dsimp only;rw [hA]
 rw [e]
theorem PQ (hA:A[n]? =some (.lst ws)):((zO (.ref n) A).map λ ws=>ws[i]?)=some ws[i]?:=by
 have e:zO (.ref n) A=some ws:=by unfold zO;dsimp only;rw [hA]
 rw [e];rfl
theorem TN {g:W->Option PyData}{d:PyData}{ds:List PyData}(h:g w=some d)(r:jJ g ws=some ds):jJ g (w::ws)=some (d::ds):=by
 unfold jJ;rw [h,r]
theorem U9 {g:W->Option PyData}{f:Nat->W}{d:PyData}:∀(n:Nat) (s:Nat),(∀t,s<=t->t<s+n->g (f t)=some d)->jJ g ((List.range' s n).map f)=some (List.replicate n d)
 | 0,_,_=>rfl
 | n+1,s,h=>by
  rw [range'_succ,map_cons,replicate_succ];exact TN (h s (by omega) (by omega)) (U9 n (s+1) λ t h1 h2=>h t (by omega) (by omega))
theorem Sb {g:W->Option PyData}{w:W}{d:PyData}(h:g w=some d):∀n:Nat,jJ g (List.replicate n w)=some (List.replicate n d)
 | 0=>rfl
 | n+1=>by rw [replicate_succ,replicate_succ];exact TN h (Sb h n)
theorem Rq {k:Nat}{v:Int}(h:A[n]? =some (.lst [.int v])):qd A (k+1) (.ref n)=some (.list [.int v]):=by
 unfold qd;have e:zO (.ref n) A=some [.int v]:=by unfold zO;dsimp only;rw [h]
 rw [e];cases k<;>rfl
theorem Sd {k:Nat}{ds:List PyData}(h:A[n]? =some (.lst ws))(hd:jJ (qd A k) ws=some ds):qd A (k+1) (.ref n)=some (.list ds):=by
 unfold qd;have e:zO (.ref n) A=some ws:=by unfold zO;dsimp only;rw [h]
 rw [e];dsimp only;rw [hd]
 rfl
theorem Pw {a b:W}{d:PyData}(ha:qd A 8 a=some d)(hb:qd A 8 b=some d)(hr:PyData.eqv d d=true):qK a b A=.ok (.bl false) A:=by
 show g9 true a b A=_;unfold g9;rw [ha,hb];dsimp only;rw [if_pos rfl,hr]
 rfl
end
end Mi
namespace G
open PySem L2 Mi
section
theorem Cu (hA:A[0]? =some (.ro (ns.map W.int)))(k:Nat):∃x:Int,Kd [.ref 0,.int k] A=.ok (.int x) A:=by
 have hs:zO (.ref 0) A=some (ns.map W.int):=by unfold zO;dsimp only;rw [hA]
 have hl:mQ jb (qm (zc 0)) [some (.ref 0),some (.int k)] A=.ok (.int ns.length) A:=by
  rw [yx (kR (w:=.ref 0) (A1:=A) (zu rfl) hs)];unfold jb;rw [length_map]
 have ec:zo QS (zc 1) (mQ jb (qm (zc 0))) [some (.ref 0),some (.int k)] A=.ok (.bl (decide ((k:Int)<ns.length))) A:=(zQ (zu (w:=.int k) rfl) hl).trans rfl
 by_cases h:k<ns.length
 ·refine ⟨ns[k],qY ?_⟩
  unfold Gr;rw [decide_eq_true (by omega)] at ec
  refine qG ((gw ec).trans (qG (jd ?_)));refine (zQ (x:=.ref 0) (y:=.int k) (A1:=A) (A2:=A) (zu rfl) (zu rfl)).trans ?_;unfold zC;rw [hs];dsimp only;rw [Wd (v:=.int ns[k]) (by rw [getElem?_map,getElem?_eq_getElem h];rfl)]
 ·refine ⟨0,qY ?_⟩
  unfold Gr;rw [decide_eq_false (by omega)] at ec
  exact (zG ((j4 ec).trans rfl)).trans rfl
theorem EC (hA:A[0]? =some (.ro (ns.map W.int)))(k:Nat):∃o,Q2 [.ref 0,.int k] A=.ok (.ref A.length) (A++[o])/\qW A.length (A++[o]):=by
 obtain ⟨x,e⟩:=Cu hA k;have e1:zZ 2 (zF Kd (zh (zc 0) (zh (zc 1) (zm)))) [some (.ref 0),some (.int k),none] A=.ok (.nx [some (.ref 0),some (.int k),some (.int x)]) A:=by
  refine (qM (w:=.int x) (A1:=A) ?_).trans rfl;rw [zT (ws:=[.ref 0,.int k]) (A1:=A) rfl];exact e
 have ec:zo Vx (zc 2) (zo Qa (zi (.int 10)) (zi (.int 18))) [some (.ref 0),some (.int k),some (.int x)] A=.ok (.bl (decide ((1000000000000000000:Int)<=x))) A:=(zQ (x:=.int x) (y:=.int 1000000000000000000) (A1:=A) (A2:=A) (zu rfl) rfl).trans rfl
 by_cases h:(1000000000000000000:Int)<=x
 ·refine ⟨.lst [.int (x - 1000000000000000000),.bl true],qY ?_,x - 1000000000000000000,true,qH,by omega,λ z=>nomatch z⟩
  unfold GD;rw [decide_eq_true h] at ec;refine (zG e1).trans (qG ((gw ec).trans (qG (jd (yf ?_)))))
  rfl
 ·refine ⟨.lst [.int (x % 2147483647),.bl false],qY ?_,x % 2147483647,false,qH,emod_nonneg _ (by decide),λ _=>emod_lt_of_pos _ (by decide)⟩
  unfold GD;rw [decide_eq_false h] at ec;refine (zG e1).trans ((zG ((j4 ec).trans rfl)).trans (qG (jd (yf ?_))));refine zH (A1:=A) (A2:=A) ((zQ (x:=.int x) (y:=.int 2147483647) (A1:=A) (A2:=A) (zu rfl) rfl).trans (Jz (by decide))) rfl
end
noncomputable def GX (i:Nat):Hx:=[.lst (qh i 0 3),.lst (qh i 3 3),.lst (qh i 0 6),.lst (qh i 6 3),.lst (qh i 0 9),.lst (qh i 9 3),.lst (qh i 0 12),.lst (qh i 12 3),.lst (qh i 0 15),.lst [.int i]]
noncomputable def wu (x:Str):Option Nat:=if x = "NoTable" then some 0 else if x = "NotSteady" then some 1 else if x = "NoKind" then some 3 else none
theorem Tj (hx:wu x=some i):(x = "NoTable" /\ i=0)∨(x = "NotSteady" /\ i=1)∨(x = "NoKind" /\ i=3):=by
 unfold wu at hx
 by_cases h0:x = "NoTable"
 ·rw [if_pos h0] at hx;cases hx;exact .inl ⟨h0,rfl⟩
 ·rw [if_neg h0] at hx
  by_cases h1:x = "NotSteady"
  ·rw [if_pos h1] at hx;cases hx;exact .inr (.inl ⟨h1,rfl⟩)
  ·rw [if_neg h1] at hx
   by_cases h2:x = "NoKind"
   ·rw [if_pos h2] at hx;cases hx;exact .inr (.inr (⟨h2,rfl⟩))
   ·rw [if_neg h2] at hx;cases hx
theorem Fb (hx:wu x=some i)(u:W)(A:Hx):Gg [some u,some (.xc x),none,none] A=.ok (.rt (.ref (A.length+9))) (A++GX i):=by
 have two:=Tj hx;unfold Gg;have a0:∀(m:Option W) (A:Hx),(zh (qV (jh qD "NoTable") (zc 1)) (zh (qV (jh qD "NotSteady") (zc 1)) (zh (qV (jh qD "NoPlace") (zc 1)) (zm)))) [some u,some (.xc x),none,m] A=.ok (qh i 0 3) A:=λ m A=>by
  rcases two with ⟨rfl,rfl⟩ | ⟨rfl,rfl⟩ | ⟨rfl,rfl⟩<;>kernel_rfl
 have a1:∀(m:Option W) (A:Hx),(zh (qV (jh qD "NoKind") (zc 1)) (zh (qV (jh qD "NoMix") (zc 1)) (zh (qV (jh qD "NoNumber") (zc 1)) (zm)))) [some u,some (.xc x),none,m] A=.ok (qh i 3 3) A:=λ m A=>by
  rcases two with ⟨rfl,rfl⟩ | ⟨rfl,rfl⟩ | ⟨rfl,rfl⟩<;>kernel_rfl
 have a2:∀(m:Option W) (A:Hx),(zh (qV (jh qD "NoLot") (zc 1)) (zh (qV (jh qD "NoKinds") (zc 1)) (zh (qV (jh qD "NoPaper") (zc 1)) (zm)))) [some u,some (.xc x),none,m] A=.ok (qh i 6 3) A:=λ m A=>by
  rcases two with ⟨rfl,rfl⟩ | ⟨rfl,rfl⟩ | ⟨rfl,rfl⟩<;>kernel_rfl
 have a3:∀(m:Option W) (A:Hx),(zh (qV (jh qD "NoParting") (zc 1)) (zh (qV (jh qD "NoClosed") (zc 1)) (zh (qV (jh qD "TooMany") (zc 1)) (zm)))) [some u,some (.xc x),none,m] A=.ok (qh i 9 3) A:=λ m A=>by
  rcases two with ⟨rfl,rfl⟩ | ⟨rfl,rfl⟩ | ⟨rfl,rfl⟩<;>kernel_rfl
 have a4:∀(m:Option W) (A:Hx),(zh (qV (jh qD "NoText") (zc 1)) (zh (qV (jh qD "NoLine") (zc 1)) (zh (qV (jh qD "NoDeed") (zc 1)) (zm)))) [some u,some (.xc x),none,m] A=.ok (qh i 12 3) A:=λ m A=>by
  rcases two with ⟨rfl,rfl⟩ | ⟨rfl,rfl⟩ | ⟨rfl,rfl⟩<;>kernel_rfl
 have ap:∀n,qh i 0 n++qh i n 3=qh i 0 (n+3):=λ n=>by
  unfold qh;rw [<- map_append]
  congr 1
  have:=List.range'_append_1 (s:=0) (m:=n) (n:=3)
  rw [Nat.zero_add] at this;exact this
 have e0:zZ 3 (zS (zh (qV (jh qD "NoTable") (zc 1)) (zh (qV (jh qD "NotSteady") (zc 1)) (zh (qV (jh qD "NoPlace") (zc 1)) (zm))))) [some u,some (.xc x),none,none] A=.ok (.nx [some u,some (.xc x),none,some (.ref (A.length+0))]) (A++[.lst (qh i 0 3)]):=(qM (yf (a0 _ A))).trans rfl;refine (zG e0).trans ?_;refine (zG (K2 (A:=A) (L:=[.lst (qh i 0 3)]) (j:=0) (xs:=qh i 0 3) (ys:=qh i 3 3) (zs:=qh i 0 6) rfl a1 (by simp [qh]) (ap 3))).trans ?_
 refine (zG (K2 (A:=A) (L:=[.lst (qh i 0 3),.lst (qh i 3 3),.lst (qh i 0 6)]) (j:=2) (xs:=qh i 0 6) (ys:=qh i 6 3) (zs:=qh i 0 9) rfl a2 (by simp [qh]) (ap 6))).trans ?_
 refine (zG (K2 (A:=A) (L:=[.lst (qh i 0 3),.lst (qh i 3 3),.lst (qh i 0 6),.lst (qh i 6 3),.lst (qh i 0 9)]) (j:=4) (xs:=qh i 0 9) (ys:=qh i 9 3) (zs:=qh i 0 12) rfl a3 (by simp [qh]) (ap 9))).trans ?_
 refine (zG (K2 (A:=A) (L:=[.lst (qh i 0 3),.lst (qh i 3 3),.lst (qh i 0 6),.lst (qh i 6 3),.lst (qh i 0 9),.lst (qh i 9 3),.lst (qh i 0 12)]) (j:=6) (xs:=qh i 0 12) (ys:=qh i 12 3) (zs:=qh i 0 15) rfl a4 (by simp [qh]) (ap 12))).trans ?_
 generalize hB:A++([.lst (qh i 0 3),.lst (qh i 3 3),.lst (qh i 0 6),.lst (qh i 6 3),.lst (qh i 0 9),.lst (qh i 9 3),.lst (qh i 0 12)]++[.lst (qh i 12 3),.lst (qh i 0 15)])=B;have hl:B.length=A.length+9:=by rw [<- hB];simp
 have hm:B[A.length+8]? =some (.lst (qh i 0 15)):=by rw [<- hB,getElem?_append_right (by omega),show A.length+8 - A.length=8 by omega];rfl
 refine (zG (ρ1:=[some u,some (.xc x),none,some (.ref (A.length+8))]) (A1:=B) ((j4 (A1:=B) (wm (k:=true) ?_)).trans rfl)).trans (qG (jd ?_))
 ·rcases two with ⟨rfl,rfl⟩ | ⟨rfl,rfl⟩ | ⟨rfl,rfl⟩<;>kernel_rfl
 have ec:=U7 (cap:=[3]) (mi:=qR (zi (.int 15))) (j:=yY 0 15) (ifs:=zo zC (zc 1) (zc 0)) (me:=zc 0) (ρ:=[some u,some (.xc x),none,some (.ref (A.length+8))]) (A:=B) (N:=15) (item:=λ k=>.int (0+(k:Int))) (g:=λ k=>.int (0+(k:Int))) (keep:=λ k=>decide (k=i)) rfl rfl (by unfold zY;omega) (λ k hk=>wy hk) (wt (by omega))
  (λ k hk=>by
   refine (zQ (zu (i:=1) (w:=.ref (A.length+8)) rfl) (zu (i:=0) (w:=.int (0+(k:Int))) rfl)).trans ?_;rw [zero_add];refine gj hm ?_;unfold qh;rw [getElem?_map,List.getElem?_range' (by omega)]
   simp) (λ k hk _=>rfl)
 rw [wM ec,hl];have hf:((List.range 15).filter λ k=>decide (k=i)).map (λ k:Nat=>W.int (0+(k:Int)))=[.int i]:=by
  rcases two with ⟨rfl,rfl⟩ | ⟨rfl,rfl⟩ | ⟨rfl,rfl⟩<;>rfl
 rw [hf,<- hB,append_assoc]
 rfl
theorem BV (hx:wu x=some i):qD.contains x=true:=by
 rcases Tj hx with ⟨rfl,_⟩ | ⟨rfl,_⟩ | ⟨rfl,_⟩<;>decide +kernel
noncomputable abbrev LS:List Lm:=yh jw jV
noncomputable def RF (k:Nat)(ws:List W)(A:Hx):R W:=match jQ LS k ws A with
 | .exc x A1=>(match wu x with
  | some i=>.ok (.ref (A1.length+9)) (A1++GX i)
  | none=>.bad)
 | _=>.bad
theorem FY {PG:jv}{k:Nat}(hl:jQ LS k ws A=.exc x A1)(hx:wu x=some i):
  qN 4 (JZ PG (jQ LS)) [.clo k ws (PG k)] A=.ok (.ref (A1.length+9)) (A1++GX i):=by
 have ec:WC 0 PG (jQ LS) [some (.clo k ws (PG k)),some .non,none,none] A=.exc x A1:=by
  unfold WC;refine (if_pos rfl).trans hl
 have et:YR 0 1 2 qD PG (jQ LS) [some (.clo k ws (PG k)),some .non,none,none] A=.ok (.nx [some (.clo k ws (PG k)),some (.xc x),none,none]) A1:=by
  unfold YR;rw [ec];dsimp only;rw [if_pos (BV hx)]
  rfl
 refine qY ?_;unfold JZ;refine (zG (ρ1:=[some (.clo k ws (PG k)),some .non,none,none]) (A1:=A) rfl).trans ?_;exact (zG et).trans (Fb hx _ A1)
theorem X2 {k:Nat}(hl:jQ LS k ws A=.exc x A1)(hx:wu x=some i):RF k ws A=.ok (.ref (A1.length+9)) (A1++GX i):=by
 unfold RF;rw [hl];dsimp only;rw [hx]
theorem Ck {PG:jv}(us:List W)(A:Hx):wV PG RF us A=.bad∨qN 4 (JZ PG (jQ LS)) us A=wV PG RF us A:=by
 by_cases hb:wV PG RF us A=.bad
 ·exact .inl hb
 right
 unfold wV at hb ⊢
 split
 ·rename_i k ws P
  dsimp only at hb
  by_cases hP:P=PG k
  ·subst hP
   rw [if_pos rfl] at hb ⊢;cases e:jQ LS k ws A with
   | exc x A1=>
    cases hm:wu x with
    | none=>exfalso;apply hb;unfold RF;rw [e];dsimp only;rw [hm]
    | some i=>rw [FY e hm,X2 e hm]
   | ok w A1=>exfalso;apply hb;unfold RF;rw [e]
   | bad=>exfalso;apply hb;unfold RF;rw [e]
  ·rw [if_neg hP] at hb;exact absurd rfl hb
 ·rename_i h
  exfalso
  apply hb
  split
  ·rename_i k ws P
   exact (h k ws P rfl).elim
  ·rfl
section
theorem Qo {k:Nat}{t:Lm}(h:ls[k]? =some t):jQ ls k ws A=t.m (ws.map some) A:=by unfold jQ;rw [h]
end
theorem UL:wu "NoTable" = some 0:=by decide +kernel
theorem Ua:wu "NotSteady" = some 1:=by decide +kernel
theorem GL:wu "NoKind" = some 3:=by decide +kernel
section
variable {A0:Hx}{PF:jv}{c g:Nat}{ks:List Nat}
noncomputable def yz (g i:Nat):Hx:=(List.replicate i (GX g)).flatten
theorem Wb (g i:Nat):(yz g i).length=10 * i:=by
 unfold yz;rw [len_rep];show i * 10=_;omega
theorem S9 (g i:Nat):yz g i++GX g=yz g (i+1):=by
 unfold yz;rw [List.replicate_succ',List.flatten_append];simp
theorem RT (g:Nat):∀(i t:Nat),t<i->(yz g i)[10 * t+9]? =some (.lst [.int (g:Int)])
 | 0,_,h=>absurd h (not_lt_zero _)
 | i+1,t,h=>by
  rw [<- S9]
  by_cases ht:t<i
  ·rw [getElem?_append_left (by rw [Wb];omega)]
   exact RT g i t ht
  ·have:t=i:=by omega
   subst this;rw [getElem?_append_right (by rw [Wb];omega),Wb,show 10 * t+9 - 10 * t=9 by omega]
   rfl
noncomputable def WE (g:Nat)(A0:Hx)(ρ:En)(ks:List Nat):Prop:=∀k∈ks,∃t ws,LS[k]? =some t/\k9 t.idx ρ=some ws/\∀A,Ext A0 A->RF k ws A=.ok (.ref (A.length+9)) (A++GX g)
theorem C7 (h:WE g A0 ρ ks)(b:Ext A0 A){k:Nat}(hk:k∈ks):ZG 0 PF LS RF ρ [some (.clo k [] (PF k))] A=.ok (.ref (A.length+9)) (A++GX g):=by
 obtain ⟨t,ws,h1,h2,h3⟩:=h k hk;unfold ZG;refine (if_pos rfl).trans ?_;rw [h1];dsimp only;rw [h2];exact h3 A b
theorem FC (h:WE g A0 ρ ks)(b:Ext A0 A)(hA:A[c]? =some (O.lst (ks.map λ k=>.clo k [] (PF k))))(hl:ks.length<=100):∀(f i:Nat) (x:Option W),i+f=ks.length->∃y,
  qC ⟨λ A i=>(zO (.ref c) A).map λ ws=>ws[i]?,ks.length⟩ (zK 0) (zi (.bl true)) (zM (ZG 0 PF LS RF ρ)) f i [x] ((List.range' 0 i).map λ t=>W.ref (A.length+(10 * t+9))) (A++yz g i)=
   .ok ([y],(List.range' 0 ks.length).map λ t=>W.ref (A.length+(10 * t+9))) (A++yz g ks.length):=by
 intro f
 induction f with
 | zero=>
  intro i x hi
  have:i=ks.length:=by omega
  subst this;refine ⟨x,M4 ?_⟩;have hc:=Ext.at (A':=A++yz g ks.length) ⟨_,rfl⟩ hA;show ((zO (.ref c) _).map λ ws=>ws[ks.length]?)=some none;rw [PQ hc,getElem?_eq_none (by simp)]
 | succ f ih=>
  intro i x hi;have hik:i<ks.length:=by omega
  obtain ⟨y,e⟩:=ih (i+1) (some (.clo ks[i] [] (PF ks[i]))) (by omega)
  refine ⟨y,?_⟩;have hc:=Ext.at (A':=A++yz g i) ⟨_,rfl⟩ hA;rw [LO (w:=.clo ks[i] [] (PF ks[i])) (y:=.ref ((A++yz g i).length+9)) (A1:=A++yz g i++GX g) ?_ (C7 h (b.trans ⟨_,rfl⟩) (getElem_mem hik)) (by simp;unfold zY;omega)]
  ·have e1:A++yz g i++GX g=A++yz g (i+1):=by rw [append_assoc,S9]
   have e2:((List.range' 0 i).map λ t=>W.ref (A.length+(10 * t+9)))++[W.ref ((A++yz g i).length+9)]=(List.range' 0 (i+1)).map λ t=>W.ref (A.length+(10 * t+9)):=by
    rw [List.range'_concat,map_append,List.map_singleton,length_append,Wb]
    congr 3
    omega
   rw [e1,e2];exact e
  ·show ((zO (.ref c) _).map λ ws=>ws[i]?)=some (some _)
   rw [PQ hc,getElem?_map,getElem?_eq_getElem hik]
   rfl
theorem Fw (h:WE g A0 ρ ks)(b:Ext A0 A)(hA:A[c]? =some (O.lst (ks.map λ k=>.clo k [] (PF k))))(hρ:ρ[15]? =some (some (.ref c)))(hl:ks.length<=100)(hn:n=ks.length)
  (he:PyData.eqv (.list (List.replicate ks.length (.list [.int (g:Int)]))) (.list (List.replicate ks.length (.list [.int (g:Int)])))=true):
  ∃A',zo qK (ql (JB 1 (qz (zc 15)) (zK 0) 0 PF LS RF)) (zo qO (zS (zh (zS (zh (zi (.int (g:Int))) (zm))) (zm))) (zi (.int n))) ρ A=.ok (.bl false) A'/\Ext A A':=by
 subst hn;obtain ⟨y,e⟩:=FC (PF:=PF) h b hA hl ks.length 0 none (by omega)
 have e1:JB 1 (qz (zc 15)) (zK 0) 0 PF LS RF ρ A=.ok ((List.range' 0 ks.length).map λ t=>W.ref (A.length+(10 * t+9))) (A++yz g ks.length):=by
  unfold JB zV;rw [DI (zu hρ) hA,zL];have hl2:(ks.map λ k=>W.clo k [] (PF k)).length=ks.length:=by simp
  dsimp only;rw [hl2];have e':qC ⟨λ A i=>(zO (.ref c) A).map λ ws=>ws[i]?,ks.length⟩ (zK 0) (zi (.bl true)) (zM (ZG 0 PF LS RF ρ)) ks.length 0 (Zs 1 [] ρ) [] A=.ok ([y],(List.range' 0 ks.length).map λ t=>W.ref (A.length+(10 * t+9))) (A++yz g ks.length):=by
   have:=e
   rw [show yz g 0=[] from rfl,append_nil] at this
   exact this
  rw [e']
  rfl
 have hat:∀t,t<ks.length->(A++yz g ks.length)[A.length+(10 * t+9)]? =some (.lst [.int (g:Int)]):=λ t ht=>by
  rw [getElem?_append_right (by omega),show A.length+(10 * t+9) - A.length=10 * t+9 by omega]
  exact RT _ _ _ ht
 generalize hB:A++yz g ks.length=B at e1 hat;have e2:=wM e1;generalize hacc:((List.range' 0 ks.length).map λ t=>W.ref (A.length+(10 * t+9)))=acc at e2;have e3:zo qO (zS (zh (zS (zh (zi (.int (g:Int))) (zm))) (zm))) (zi (.int ks.length)) ρ (B++[O.lst acc])=
   .ok (.ref (B++[O.lst acc]++[O.lst [.int (g:Int)]]++[O.lst [.ref (B++[O.lst acc]).length]]).length) (B++[O.lst acc]++[O.lst [.int (g:Int)]]++[O.lst [.ref (B++[O.lst acc]).length]]++[O.lst (List.replicate ks.length (.ref (B++[O.lst acc]).length))]):=by
  refine (zQ (x:=.ref (B++[O.lst acc]++[O.lst [.int (g:Int)]]).length) (y:=.int ks.length) (A1:=B++[O.lst acc]++[O.lst [.int (g:Int)]]++[O.lst [.ref (B++[O.lst acc]).length]]) (yf (zH (yf (ws:=[.int (g:Int)]) (A1:=B++[O.lst acc]) rfl) rfl)) rfl).trans ?_;unfold qO;dsimp only;rw [qH];dsimp only;rw [if_pos ?_,toNat_natCast,List.flatten_replicate_singleton];rw [and_eq_true,decide_eq_true_iff,toNat_natCast];refine ⟨UW (by omega),?_⟩
  show 1 * ks.length<=zY;unfold zY;omega
 generalize hC:B++[O.lst acc]++[O.lst [.int (g:Int)]]++[O.lst [.ref (B++[O.lst acc]).length]]=C at e3;have xB:Ext B (B++[O.lst acc]):=.one;have xC:Ext (B++[O.lst acc]++[O.lst [.int (g:Int)]]) (C++[O.lst (List.replicate ks.length (.ref (B++[O.lst acc]).length))]):=by rw [<- hC];exact Ext.one.trans .one
 have xA:Ext A (C++[O.lst (List.replicate ks.length (.ref (B++[O.lst acc]).length))]):=Ext.trans ⟨_,hB.symm⟩ (xB.trans (Ext.one.trans xC));have hall:∀D:Hx,(∀t,t<ks.length->D[A.length+(10 * t+9)]? =some (O.lst [.int (g:Int)]))->jJ (qd D 7) acc=some (List.replicate ks.length (.list [.int (g:Int)])):=λ D hD=>by
  rw [<- hacc];exact U9 _ _ λ t _ ht=>Rq (hD t (by omega))
 refine ⟨_,(zQ e2 e3).trans (Pw (d:=.list (List.replicate ks.length (.list [.int (g:Int)]))) ?_ ?_ he),xA⟩
 ·refine Sd (k:=7) ((Ext.one.trans xC).at qH) ?_
  exact hall _ λ t ht=>(xB.trans (Ext.one.trans xC)).at (hat t ht)
 ·refine Sd (k:=7) qH ?_
  exact Sb (Rq (xC.at qH)) _
variable {k:Nat}{t:Lm}
theorem K4 (h1:A[1]? =some (.tab qy Pt))(k:Nat):j6 1 qy Pt k (PF k) ρ A=.ok (.clo k [] (PF k)) A:=by
 unfold j6;rw [h1];dsimp only;rw [if_pos ⟨rfl,rfl⟩]
theorem Kv (h1:A[1]? =some (.tab qy Pt))(ht:LS[k]? =some t)(hc:k9 t.idx ρ=some ws)(hl:jQ LS k ws A=.exc x A)(hx:wu x=some g):∃B,zo qK (wN LS PF (wR RF) (zh (j6 1 qy Pt k (PF k)) (zm))) (zS (zh (zi (.int (g:Int))) (zm))) ρ A=.ok (.bl false) B/\Ext A B:=by
 have ec:wN LS PF (wR RF) (zh (j6 1 qy Pt k (PF k)) (zm)) ρ A=.ok (.ref (A.length+9)) (A++GX g):=by
  unfold wN;rw [zH (K4 h1 k) zX,zL]
  have:gW LS PF ρ [.clo k [] (PF k)]=some [.clo k ws (PF k)]:=by
   unfold gW YO;dsimp only;rw [if_pos rfl,ht];dsimp only;rw [hc]
   rfl
  rw [this];exact X2 hl hx
 have x1:Ext A (A++GX g):=⟨_,rfl⟩;have hg:(A++GX g)[A.length+9]? =some (.lst [.int (g:Int)]):=by rw [getElem?_append_right (by omega),show A.length+9 - A.length=9 by omega];rfl
 refine ⟨A++GX g++[.lst [.int (g:Int)]],(zQ ec (yf (zH q9 zX))).trans ((JO (l:=[(g:Int)]) (m:=[(g:Int)]) (yg hg) qH).trans ?_),x1.app⟩;rw [decide_eq_true rfl]<;>rfl
end
section
variable {w:W}
theorem Ed (h:qo t)(A:Hx):gM [zr t] A=.ok (.bl true) A:=Dd h A
theorem Eb (h:kJ A w):gM [w] A=.ok (.bl false) A:=h A λ _ _ z=>z
theorem Tv (h:qo t)(A:Hx):JV [zr t] A=.ok .non A:=by
 refine Xp (ρ:=[some (zr t)]) ?_;unfold Gi;refine (zG (ρ1:=[some (zr t)]) (A1:=A) ((j4 (A1:=A) ?_).trans rfl)).trans rfl;exact gO (wm (k:=true) ((zT (ws:=[zr t]) (A1:=A) rfl).trans (Ed h A)))
theorem LF (h:kJ A w):JV [w] A=.exc "NoTable" A:=by
 refine gf ?_;unfold Gi;exact kO ((gw (A1:=A) (gO (wm (k:=false) ((zT (ws:=[w]) (A1:=A) rfl).trans (Eb h))))).trans (kO rfl))
variable {K a b k:Nat}{x:W}
theorem CI {ty:Ty}(h:jz w A=some ty):(yH ty .int&&!yH ty .bl)=Vz w:=by
 cases w with
 | ref k=>
  unfold jz at h;dsimp only at h
  split at h
  ·cases h;rfl
  ·cases h;rfl
  ·cases h
 | clo _ _ _=>cases h
 | xc _=>cases h
 | _=>cases h;rfl
theorem BO {a b:Ev}{p q:Bool}(h1:a ρ A=.ok (.bl p) A)(h2:b ρ A=.ok (.bl q) A):yL a b ρ A=.ok (.bl (p&&q)) A:=by
 cases p with
 | true=>exact (Z2 h1).trans h2
 | false=>exact Yt h1
theorem FA {ty:Ty}(h:jz w A=some ty):Zj [w] A=.ok (.bl (Vz w)) A:=by
 unfold Zj Kz Tb;refine qY (qG (jd ((BO (JG (zu rfl) h) (wm (JG (zu rfl) h))).trans ?_)));rw [CI h]
noncomputable def Ok (n:Nat)(x:W):Prop:=∃v:Nat,x=.int (v:Int)/\v<n
theorem Sa {ty:Ty}(h:jz x A=some ty)(n:Nat):∃b,Y9 [x,.int (n:Int)] A=.ok (.bl b) A/\(b=true↔Ok n x):=by
 unfold Y9 Gf VR;have e1:zF Zj (zh (zc 0) (zm)) [some x,some (.int (n:Int))] A=.ok (.bl (Vz x)) A:=(zT (zH (zu rfl) zX)).trans (FA h);cases x with
 | int v=>
  refine ⟨decide (0<=v)&&decide (v<(n:Int)),qY (qG (jd ((Z2 e1).trans (E8 rfl (zu rfl))))),?_⟩;rw [and_eq_true,decide_eq_true_iff,decide_eq_true_iff]
  constructor
  ·rintro ⟨h1,h2⟩
   obtain ⟨u,rfl⟩:=eq_ofNat_of_zero_le h1;exact ⟨u,rfl,by omega⟩
  ·rintro ⟨u,e,hu⟩
   cases e;omega
 | _=>
  refine ⟨false,qY (qG (jd (Yt e1))),λ z=>(by cases z),?_⟩
  rintro ⟨u,e,_⟩
  cases e
theorem Yn (h:qo t)(A:Hx):ZP [zr t] A=.ok (.int (qB t)) A:=by
 refine gU (A1:=[]) (kL t) rfl (qY ?_);unfold Ul;refine qG (jd ((zQ (Xh h rfl) q9).trans ?_));show R.ok (W.int (qB t - 1+1)) []=_
 congr 2
 omega
theorem G4 (h:qo t)(A:Hx):Zi [zr t] A=.ok (.int (qB t)) A:=by
 refine gU (A1:=[]) (kL t) rfl (qY ?_);unfold UI;refine qG (jd ((zQ q9 (Xh h rfl)).trans ?_));show R.ok (W.int (1+(qB t - 1))) []=_
 congr 2
 omega
theorem len_tab (hi:ρ[i]? =some (some (zr t))):mQ jb (qm (zc i)) ρ A=.ok (.int (t.length:Int)) A:=by
 have:=PH (ws:=t.map qa) (A:=A) hi
 rw [length_map] at this;exact this
theorem Jp (ht:qo t)(hK:qB t=(K:Int))(h:Ok K x)(A:Hx):JW [zr t,x] A=.ok .non A:=by
 obtain ⟨v,rfl,hv⟩:=h;obtain ⟨b,e,hb⟩:=Sa (x:=.int (v:Int)) (A:=A) (ty:=.int) rfl K;rw [hb.mpr ⟨v,rfl,hv⟩,<- hK] at e;refine Xp (ρ:=[some (zr t),some (.int (v:Int))]) ?_;unfold Gu;exact (zG ((j4 (gO (wm (k:=true) ((zT (zH (zu rfl) (zH ((zT (zH (zu rfl) zX)).trans (Yn ht A)) zX))).trans e)))).trans jq)).trans jq
theorem Xz {ty:Ty}(ht:qo t)(hK:qB t=(K:Int))(hx:jz x A=some ty)(h:¬Ok K x):JW [zr t,x] A=.exc "NoKind" A:=by
 obtain ⟨b,e,hb⟩:=Sa hx K
 have:b=false:=by cases b with
  | false=>rfl
  | true=>exact absurd (hb.mp rfl) h
 rw [this,<- hK] at e;refine gf ?_;unfold Gu;exact kO ((gw (gO (wm (k:=false) ((zT (zH (zu rfl) (zH ((zT (zH (zu rfl) zX)).trans (Yn ht A)) zX))).trans e)))).trans (kO rfl))
end
section
variable {N b:Nat}
theorem Eg {g:Nat->Int}{k:Int}(hb:b<N):((List.range N).map λ j=>W.int (g j)).set b (.int k)=(List.range N).map λ j=>W.int (if j=b then k else g j):=by
 apply ext_getElem?
 intro i
 by_cases hi:i<N
 ·by_cases q:b=i
  ·subst q
   rw [getElem?_set_self (by simpa using hi),getElem?_map,getElem?_range hi]
   simp
  ·rw [getElem?_set_ne q,getElem?_map,getElem?_map,getElem?_range hi]
   simp [Ne.symm q]
 ·rw [getElem?_eq_none (by simp;omega),getElem?_eq_none (by simp;omega)]
end
section
variable {f:Fn}{us:List W}
theorem T5 (v:Int)(A:Hx):qN 2 (ZR f) [.int v,.int v] A=.ok (.bl true) A:=by
 refine qY ?_;unfold ZR;refine (zG (ρ1:=[some (.int v),some (.int v)]) (A1:=A) ((j4 (A1:=A) rfl).trans rfl)).trans (qG (jd ?_));exact (Z2 (A1:=A) ((zQ (zu (i:=0) rfl) (zu (i:=1) rfl)).trans ((JS _ _ _).trans (by rw [decide_eq_true rfl])))).trans rfl
theorem Lq {x y:W}{ty:Ty}(hx:zO x A=some ws)(hy:zO y A=some ws)(tx:jz x A=some ty)(ty':jz y A=some ty)(h2:ty=.tup∨ty=.lst)(hl:ws.length<=1000)(hf:∀w∈ws,f [w,w] A=.ok (.bl true) A):qN 2 (ZR f) [x,y] A=.ok (.bl true) A:=by
 refine qY ?_;unfold ZR;have el:mQ jb (qm (zc 0)) [some x,some y] A=.ok (.int ws.length) A:=yx (kR (w:=x) (A1:=A) (zu rfl) hx);have el':mQ jb (qm (zc 1)) [some x,some y] A=.ok (.int ws.length) A:=yx (kR (w:=y) (A1:=A) (zu rfl) hy);have i2:Wx .tup .lst (zc 1) [some x,some y] A=.ok (.bl true) A:=by
  unfold Wx;rw [zu (w:=y) rfl,zL,ty'];rcases h2 with rfl | rfl<;>rfl
 have n1:∀c,zo qK (ka c (zc 0)) (ka c (zc 1)) [some x,some y] A=.ok (.bl false) A:=λ c=>(zQ (JG (w:=x) (zu rfl) tx) (JG (w:=y) (zu rfl) ty')).trans ((Oo _ _ _).trans (by rw [beq_self_eq_true];rfl))
 refine qG ((gw (A1:=A) i2).trans ?_);refine (zG (ρ1:=[some x,some y]) (A1:=A) ((j4 (A1:=A) ((X3 (A1:=A) (n1 .tup)).trans (n1 .lst))).trans jq)).trans ?_;refine (zG (ρ1:=[some x,some y]) (A1:=A) ((j4 (A1:=A) ((zQ el el').trans ((Of _ _ _).trans (by rw [decide_eq_true rfl];rfl)))).trans jq)).trans (qG (jd ?_))
 have hz:QH (zc 0) (zc 1) [some x,some y] A=.ok (QK x y ws.length) A:=by
  unfold QH;rw [zu (w:=x) rfl,zL,zu (w:=y) rfl,zL,hx,hy]
 have ec:=US (A:=A) (cap:=[]) (ρ:=[some x,some y]) (me:=zF f (zh (zc 0) (zh (zc 1) (zm)))) (N:=ws.length) (u:=λ i=>ws.getD i .non) (v:=λ i=>ws.getD i .non) (g:=λ _=>.bl true) hz rfl hl
  (λ i hi=>by
   show (match zO x A,zO y A with | some us,some vs=>some (zip2 us[i]? vs[i]?) | _,_=>none)=_
   rw [hx,hy];show some (zip2 ws[i]? ws[i]?)=_;rw [getD_eq_getElem?_getD,getElem?_eq_getElem hi];rfl)
  (by
   show (match zO x A,zO y A with | some us,some vs=>some (zip2 us[ws.length]? vs[ws.length]?) | _,_=>none)=_
   rw [hx,hy];show some (zip2 ws[ws.length]? ws[ws.length]?)=_;rw [getElem?_eq_none (le_refl _)];rfl)
  (λ i hi=>by
   have e:ws.getD i .non=ws[i]:=by rw [getD_eq_getElem?_getD,getElem?_eq_getElem hi];rfl
   rw [e];exact (zT (ws:=[ws[i],ws[i]]) (A1:=A) rfl).trans (hf _ (getElem_mem hi)))
 exact (yx ec).trans (Yg (p:=λ _=>true) λ _ _=>rfl)
theorem D4 (v:Int)(A:Hx):w8 [.int v,.int v] A=.ok (.bl true) A:=T5 v A
theorem HE {p q:Nat}{l:List Int}(hp:A[p]? =some (.lst (l.map W.int)))(hq:A[q]? =some (.lst (l.map W.int)))(h:l.length<=100):w8 [.ref p,.ref q] A=.ok (.bl true) A:=
 Lq (ws:=l.map W.int) (ty:=.lst) (by unfold zO;dsimp only;rw [hp]) (by unfold zO;dsimp only;rw [hq]) (by unfold jz;dsimp only;rw [hp]) (by unfold jz;dsimp only;rw [hq]) (.inr rfl) (by simp;omega) λ w hw=>by
  obtain ⟨v,_,rfl⟩:=qa6.mp hw;exact T5 v A
end
structure LC (K:Nat)(μ:Nat->Nat->Int)(C:Hx):Prop where
 top:C[2 * K]? =some (.lst ((List.range K).map λ i=>W.ref (2 * i+1)))
 row:∀i,i<K->C[2 * i+1]? =some (.lst ((List.range K).map λ j=>W.int (μ i j)))
section
variable {K a b:Nat}{C:Hx}
theorem LC.put (h:LC K μ C)(ha:i<K)(hb:j<K)(k:Int):∃C',wD (.ref (2 * i+1)) (.int (j:Int)) (.int k) C=.ok () C'/\LC K (QL μ i j k) C':=by
 have hr:=h.row i ha;have hlt:=Zl hr;refine ⟨_,FJ hr (by simp;omega),?_,λ c hi=>?_⟩
 ·rw [getElem?_set_ne (by omega)];exact h.top
 ·by_cases q:c=i
  ·subst q
   rw [getElem?_set_self hlt,Eg hb]
   congr 3
   funext c'
   unfold QL
   by_cases z:c'=j
   ·rw [if_pos z,if_pos ⟨rfl,z⟩]
   ·rw [if_neg z,if_neg (by rintro ⟨_,w⟩;exact z w)]
  ·rw [getElem?_set_ne (by omega),h.row c hi]
   congr 3
   funext c'
   unfold QL;rw [if_neg (by rintro ⟨w,_⟩;exact q w)]
theorem LC.aug (h:LC K μ C){mo mi:Ev}(ho:mo ρ C=.ok (.ref (2 * i+1)) C)(hi:mi ρ C=.ok (.int (j:Int)) C)(ha:i<K)(hb:j<K):∃C',QD mo mi (zi (.int 1)) ρ C=.ok (.nx ρ) C'/\LC K (QL μ i j (μ i j+1)) C':=by
 obtain ⟨C',e,l⟩:=h.put ha hb (μ i j+1);refine ⟨C',?_,l⟩;unfold QD;rw [ho,zL,hi,zL];dsimp only;rw [if_pos (by omega),h.row i ha]
 dsimp only;rw [toNat_natCast,getElem?_map,getElem?_range hb];show R.bind (wD (.ref (2 * i+1)) (.int (j:Int)) (.int (μ i j+1)) C) _=_;rw [e,zL]
theorem LC.ix (h:LC K μ C){m mi:Ev}(hm:m ρ C=.ok (.ref (2 * K)) C)(hi:mi ρ C=.ok (.int (i:Int)) C)(ha:i<K):zo zC m mi ρ C=.ok (.ref (2 * i+1)) C:=
 (zQ hm hi).trans (gj h.top (by rw [getElem?_map,getElem?_range ha];rfl))
theorem rep1 (w:W):∀n:Nat,(List.replicate n [w]).flatten=(List.range n).map λ _=>w:=λ n=>by
 rw [List.map_const',length_range]
 induction n with
 | zero=>rfl
 | succ n ih=>rw [replicate_succ,flatten_cons,ih];rfl
theorem T9 (h8:K<=8){x0 x1 x2 x4:Option W}{l:List (Option W)}:∃C,ql (zV 1 [3] (qR (zc 3)) (zK 0) (zi (.bl true)) (zM (zo qO (zS (zh (zi (.int 0)) (zm))) (zc 1)))) (x0::x1::x2::some (.int (K:Int))::x4::l) []=.ok (.ref (2 * K)) C/\LC K (λ _ _=>0) C:=by
 have hm:=wk (m:=zc 3) (ρ:=x0::x1::x2::some (.int (K:Int))::x4::l) (A:=[]) (k:=(K:Int)) rfl (w9 (by omega))
 rw [toNat_natCast] at hm;obtain ⟨ρ',acc,B,e,_,hB,hacc⟩:=J5 (nl:=1) (cap:=[3]) (tw:=zK 0) (ifs:=zi (.bl true)) (em:=zM (zo qO (zS (zh (zi (.int 0)) (zm))) (zc 1))) (N:=K)
  (I:=λ i ρ acc B=>(∃y,ρ=[y,some (.int (K:Int))])/\(B.length=2 * i/\∀c,c<i->B[2 * c+1]? =some (.lst ((List.range K).map λ j=>W.int 0)))/\acc=(List.range i).map λ c=>W.ref (2 * c+1)) hm rfl
  (λ i ρ acc B hi ⟨⟨y,hρ⟩,⟨hl,hB⟩,hacc⟩=>by
   subst hρ hacc;refine ⟨_,_,wy hi,rfl,.inl ⟨B,_,_,B++[.lst [.int 0]]++[.lst ((List.range K).map λ j=>W.int 0)],rfl,Yd (y:=.ref (2 * i+1)) ?_ (by rw [length_map,length_range];unfold zY;omega),⟨_,rfl⟩,⟨by simp;omega,λ c hc=>?_⟩,by rw [range_succ,map_append];rfl⟩⟩
   ·refine (zQ (yf (zH q9 zX)) (zu (i:=1) (w:=.int (K:Int)) rfl)).trans ?_
    unfold qO;dsimp only;rw [qH];dsimp only;rw [if_pos (by rw [w9 (by omega),toNat_natCast];simp;unfold zY;omega),toNat_natCast,length_append,hl,rep1]
    rfl
   ·by_cases q:c=i
    ·subst q
     rw [getElem?_append_right (by simp;omega)]
     simp [hl]
    ·rw [getElem?_append_left (by simp;omega),getElem?_append_left (by omega)]
     exact hB c (by omega))
  (λ ρ acc B _=>wt (by omega)) ⟨⟨none,rfl⟩,⟨rfl,λ c hc=>absurd hc (not_lt_zero _)⟩,rfl⟩
 subst hacc;refine ⟨B++[.lst ((List.range K).map λ c=>W.ref (2 * c+1))],?_,?_,λ i hi=>?_⟩
 ·rw [wM e,hB.1]
 ·rw [<- hB.1];exact qH
 ·exact yg (hB.2 i hi)
theorem LC.tup (h:LC K μ C)(h8:K<=8){i:Nat}(hi:ρ[i]? =some (some (.ref (2 * K)))):mQ yQ (zV 1 [] (qz (zc i)) (zK 0) (zi (.bl true)) (zM (mQ yQ (qm (zc 0))))) ρ C=.ok (zr (yI K μ)) C:=by
 have e:=KR (cap:=[]) (ws:=(List.range K).map λ i=>W.ref (2 * i+1)) (me:=mQ yQ (qm (zc 0))) (zu hi) h.top (by simp;unfold zY;omega) (g:=λ w=>match w with | .ref n=>(match C[n]? with | some (.lst ws)=>.tup ws | _=>.non) | _=>.non) (λ w hw=>by
  obtain ⟨c,hc,rfl⟩:=qa6.mp hw;have hr:=h.row c (qa5.mp hc);dsimp only;rw [hr];exact Jy (kR (w:=.ref (2 * c+1)) (A1:=C) (zu rfl) (by unfold zO;dsimp only;rw [hr])))
 rw [Jy e]
 congr 1
 unfold zr yI;rw [map_map,map_map]
 congr 1
 refine map_congr_left λ c hc=>?_;have hr:=h.row c (qa5.mp hc);show (match C[2 * c+1]? with | some (.lst ws)=>W.tup ws | _=>.non)=qa ((List.range K).map (μ c))
 rw [hr];unfold qa;rw [map_map]
 rfl
noncomputable def shr (t:List (List Int))(a b:Nat):Nat->Nat->Nat->Int
 | 0=>λ _ _=>0
 | n+1=>QL (shr t a b n) (at2 t a n).toNat (at2 t b n).toNat (shr t a b n (at2 t a n).toNat (at2 t b n).toNat+1)
noncomputable def jF (t:List (List Int))(K a b:Nat):List (List Int):=yI K (shr t a b t.length)
theorem Yy (ht:qo t)(hK:qB t=(K:Int))(ha:a<t.length)(hb:b<t.length):((at2 t a b).toNat:Int)=at2 t a b/\(at2 t a b).toNat<K:=by
 have h1:=Z8 ht ha hb;have h2:=Wl ht ha hb;omega
theorem G2 (ht:qo t)(hK:qB t=(K:Int))(ha:a<t.length)(hb:b<t.length)(A:Hx):gI [zr t,.int (a:Int),.int (b:Int)] A=.ok (zr (jF t K a b)) A:=by
 have n8:=ht.n8;have kb:=kx ht;have hl1:((t.getD a []).map W.int).length=t.length:=by rw [length_map,ht.sq _ (yi ha)]
 have hl2:((t.getD b []).map W.int).length=t.length:=by rw [length_map,ht.sq _ (yi hb)]
 obtain ⟨C,e1,l1⟩:=T9 (K:=K) (by omega) (x0:=some (zr t)) (x1:=some (.int (a:Int))) (x2:=some (.int (b:Int))) (x4:=none) (l:=[none,none])
 obtain ⟨ρ',B,e2,l2,y5,y6,hρ⟩:=wL (j:=QK (.tup ((t.getD a []).map W.int)) (.tup ((t.getD b []).map W.int)) ((t.getD a []).map W.int).length) (st:=turn (jG 5 6) (zq (QD (zo zC (zc 4) (zc 5)) (zc 6) (zi (.int 1))) (zy))) (N:=t.length)
  (I:=λ n ρ B=>LC K (shr t a b n) B/\∃y5 y6,ρ=[some (zr t),some (.int (a:Int)),some (.int (b:Int)),some (.int (K:Int)),some (.ref (2 * K)),y5,y6])
  (λ n ρ B hn ⟨l,y5,y6,hρ⟩=>by
   subst hρ;obtain ⟨q1,q2⟩:=Yy ht hK ha hn;obtain ⟨q3,q4⟩:=Yy ht hK hb hn;obtain ⟨B',e,l'⟩:=l.aug (ρ:=[some (zr t),some (.int (a:Int)),some (.int (b:Int)),some (.int (K:Int)),some (.ref (2 * K)),some (.int (at2 t a n)),some (.int (at2 t b n))]) (mo:=zo zC (zc 4) (zc 5)) (mi:=zc 6) (l.ix (zu rfl) (zu (by rw [q1];rfl)) q2) (zu (by rw [q3];rfl)) q2 q4
   refine ⟨.tup [.int (at2 t a n),.int (at2 t b n)],_,B',?_,(kS rfl).trans ((zG e).trans jq),l',_,_,rfl⟩;show some (zip2 ((t.getD a []).map W.int)[n]? ((t.getD b []).map W.int)[n]?)=_;rw [int_at (by rw [ht.sq _ (yi ha)];exact hn),int_at (by rw [ht.sq _ (yi hb)];exact hn)]
   rfl)
  (λ ρ B _=>by
   show some (zip2 ((t.getD a []).map W.int)[t.length]? ((t.getD b []).map W.int)[t.length]?)=_;rw [getElem?_eq_none (by omega),getElem?_eq_none (by omega)]
   rfl) t.length 0 [some (zr t),some (.int (a:Int)),some (.int (b:Int)),some (.int (K:Int)),some (.ref (2 * K)),none,none] C (by omega) ⟨l1,_,_,rfl⟩
 subst hρ;refine gU (A1:=B) (kL t) (Yj _) (qY ?_);unfold V6;refine (zG (ρ1:=[some (zr t),some (.int (a:Int)),some (.int (b:Int)),some (.int (K:Int)),none,none,none]) (A1:=[]) ((qM ((zT (zH (zu rfl) zX)).trans ((Yn ht []).trans (by rw [hK])))).trans rfl)).trans ?_
 refine (zG (ρ1:=[some (zr t),some (.int (a:Int)),some (.int (b:Int)),some (.int (K:Int)),some (.ref (2 * K)),none,none]) (A1:=C) ((qM e1).trans rfl)).trans ?_;refine (zG (ρ1:=[some (zr t),some (.int (a:Int)),some (.int (b:Int)),some (.int (K:Int)),some (.ref (2 * K)),y5,y6]) (A1:=B) ((kP (IS ((zQ (zu rfl) (zu rfl)).trans (gN ha)) ((zQ (zu rfl) (zu rfl)).trans (gN hb)))).trans ?_)).trans (qG (jd (l2.tup (by omega) rfl)))
 have:(QK (.tup ((t.getD a []).map W.int)) (.tup ((t.getD b []).map W.int)) ((t.getD a []).map W.int).length).len=t.length:=hl1
 rw [this];exact e2
theorem LQ (ht:qo t)(hK:qB t=(K:Int))(ha:a<t.length)(hb:b<t.length)(A:Hx):J1 [zr t,.int (a:Int),.int (b:Int)] A=.ok (zr (jF t K a b)) A:=by
 have n8:=ht.n8;have kb:=kx ht;obtain ⟨C,e1,l1⟩:=T9 (K:=K) (by omega) (x0:=some (zr t)) (x1:=some (.int (a:Int))) (x2:=some (.int (b:Int))) (x4:=none) (l:=[none])
 obtain ⟨ρ',B,e2,l2,y5,hρ⟩:=wL (j:=yY 0 t.length) (st:=turn (zK 5) (zq (QD (zo zC (zc 4) (zo zC (zo zC (zc 0) (zc 1)) (zc 5))) (zo zC (zo zC (zc 0) (zc 2)) (zc 5)) (zi (.int 1))) (zy))) (N:=t.length)
  (I:=λ n ρ B=>LC K (shr t a b n) B/\∃y5,ρ=[some (zr t),some (.int (a:Int)),some (.int (b:Int)),some (.int (K:Int)),some (.ref (2 * K)),y5])
  (λ n ρ B hn ⟨l,y5,hρ⟩=>by
   subst hρ;obtain ⟨q1,q2⟩:=Yy ht hK ha hn;obtain ⟨q3,q4⟩:=Yy ht hK hb hn;have x1:zo zC (zo zC (zc 0) (zc 1)) (zc 5) [some (zr t),some (.int (a:Int)),some (.int (b:Int)),some (.int (K:Int)),some (.ref (2 * K)),some (.int (n:Int))] B=.ok (.int ((at2 t a n).toNat:Int)) B:=by
    rw [q1];exact (zQ ((zQ (zu rfl) (zu rfl)).trans (gN ha)) (zu rfl)).trans (Qt (by rw [ht.sq _ (yi ha)];exact hn))
   have x2:zo zC (zo zC (zc 0) (zc 2)) (zc 5) [some (zr t),some (.int (a:Int)),some (.int (b:Int)),some (.int (K:Int)),some (.ref (2 * K)),some (.int (n:Int))] B=.ok (.int ((at2 t b n).toNat:Int)) B:=by
    rw [q3];exact (zQ ((zQ (zu rfl) (zu rfl)).trans (gN hb)) (zu rfl)).trans (Qt (by rw [ht.sq _ (yi hb)];exact hn))
   obtain ⟨B',e,l'⟩:=l.aug (mo:=zo zC (zc 4) (zo zC (zo zC (zc 0) (zc 1)) (zc 5))) (l.ix (zu rfl) x1 q2) x2 q2 q4;refine ⟨.int (0+(n:Int)),_,B',wy hn,(kS (ρ1:=[some (zr t),some (.int (a:Int)),some (.int (b:Int)),some (.int (K:Int)),some (.ref (2 * K)),some (.int (n:Int))]) (by rw [zero_add];rfl)).trans ((zG e).trans jq),l',_,rfl⟩)
  (λ ρ B _=>wt (by omega)) t.length 0 [some (zr t),some (.int (a:Int)),some (.int (b:Int)),some (.int (K:Int)),some (.ref (2 * K)),none] C (by omega) ⟨l1,_,rfl⟩
 subst hρ;refine gU (A1:=B) (kL t) (Yj _) (qY ?_);unfold Uh;have hm:=wk (len_tab (t:=t) (i:=0) (ρ:=[some (zr t),some (.int (a:Int)),some (.int (b:Int)),some (.int (K:Int)),some (.ref (2 * K)),none]) (A:=C) rfl) (w9 (n:=t.length) (by omega))
 rw [toNat_natCast] at hm;refine (zG (ρ1:=[some (zr t),some (.int (a:Int)),some (.int (b:Int)),some (.int (K:Int)),none,none]) (A1:=[]) ((qM ((zT (zH (zu rfl) zX)).trans ((G4 ht []).trans (by rw [hK])))).trans rfl)).trans ?_
 refine (zG (ρ1:=[some (zr t),some (.int (a:Int)),some (.int (b:Int)),some (.int (K:Int)),some (.ref (2 * K)),none]) (A1:=C) ((qM e1).trans rfl)).trans ?_;exact (zG ((kP hm).trans e2)).trans (qG (jd (l2.tup (by omega) rfl)))
end
section
variable {N:Nat}{w x:W}{a:Ea}{k:Nat}
theorem Dg {m:Ev}{ρ':En}{w:W}(h:m ρ A=.ok w A1)(h':tw w ρ=some ρ'):Qb m tw ρ A=.ok (.nx ρ') A1:=by
 unfold Qb;rw [h,zL,h']
noncomputable def NoN (N:Nat)(w:W):Prop:=(∃ty,∀A,jz w A=some ty)/\¬Ok N w
theorem Et (hN:N<=8):∀w∈([.int (N:Int),.int (-1),.bl true,.non,.str "0",.tup [.int 0],.int (10 ^ 29)]:List W),NoN N w:=λ w hw=>by
 simp only [mem_cons,not_mem_nil,or_false] at hw;rcases hw with rfl | rfl | rfl | rfl | rfl | rfl | rfl
 ·exact ⟨⟨.int,λ _=>rfl⟩,by rintro ⟨v,e,h⟩;cases e;omega⟩
 ·exact ⟨⟨.int,λ _=>rfl⟩,by rintro ⟨v,e,h⟩;injection e with e;omega⟩
 ·exact ⟨⟨.bl,λ _=>rfl⟩,by rintro ⟨v,e,h⟩;cases e⟩
 ·exact ⟨⟨.non,λ _=>rfl⟩,by rintro ⟨v,e,h⟩;cases e⟩
 ·exact ⟨⟨.str,λ _=>rfl⟩,by rintro ⟨v,e,h⟩;cases e⟩
 ·exact ⟨⟨.tup,λ _=>rfl⟩,by rintro ⟨v,e,h⟩;cases e⟩
 ·exact ⟨⟨.int,λ _=>rfl⟩,by rintro ⟨v,e,h⟩;injection e with e;omega⟩
theorem Vq {a:W}(ha:ρ[i]? =some (some a)):k9 [i] ρ=some [a]:=by
 unfold k9;rw [ha]
 rfl
theorem YQ {a b:W}(ha:ρ[i]? =some (some a))(hb:ρ[j]? =some (some b)):k9 [i,j] ρ=some [a,b]:=by
 unfold k9;rw [ha,Vq hb]
theorem Vo {x:Str}{g k:Nat}(hl:jQ LS k ws A=.exc x A)(hx:wu x=some g):RF k ws A=.ok (.ref (A.length+9)) (A++GX g):=X2 hl hx
noncomputable abbrev noL (w:W):List W:=[w,.int (-1),.bl true,.non,.str "0",.tup [.int 0],.int (10 ^ 29)]
noncomputable abbrev kM (i:Nat):Ea:=zh (zc i) (zh (jU Zv (zi (.int 1))) (zh (zi (.bl true)) (zh (zi .non) (zh (zi (.str "0")) (zh (zB (zh (zi (.int 0)) (zm))) (zh (zo Qa (zi (.int 10)) (zi (.int 29))) (zm)))))))
theorem Av (A:Hx):zo Qa (zi (.int 10)) (zi (.int 29)) ρ A=.ok (.int (10 ^ 29)) A:=(zQ q9 q9).trans (by kernel_rfl)
theorem Cs (hi:ρ[i]? =some (some w))(A:Hx):kM i ρ A=.ok (noL w) A:=
 zH (zu hi) (zH (x:=.int (-1)) rfl (zH q9 (zH q9 (zH q9 (zH (Xg (zH q9 zX)) (zH (Av A) zX))))))
end
noncomputable def Qd (t:List (List Int))(a b:Nat):List (Int × Int):=(List.range t.length).map λ c=>(at2 t a c,at2 t b c)
noncomputable def yX (t:List (List Int)):Prop:=∀a b c e,a<t.length->b<t.length->c<t.length->e<t.length->at2 t a b=at2 t c e->(Qd t a b).Perm (Qd t c e)
noncomputable def Ar (t:List (List Int))(k:Int):Nat:=((List.range (t.length * t.length)).find? λ m=>decide (at2 t (m / t.length) (m % t.length)=k)).getD 0
noncomputable def Xv (t:List (List Int)):Bool:=(List.range t.length).all λ a=>(List.range t.length).all λ b=>let m:=Ar t (at2 t a b);(Qd t a b).isPerm (Qd t (m / t.length) (m % t.length))
theorem M0 (h:Xv t=true):yX t:=λ a b c e ha hb hc he hk=>by
 unfold Xv at h;rw [all_eq_true] at h;have h1:=h a (qa5.mpr ha);rw [all_eq_true] at h1;have h2:=List.isPerm_iff.mp (h1 b (qa5.mpr hb));have h3:=h c (qa5.mpr hc);rw [all_eq_true] at h3;have h4:=List.isPerm_iff.mp (h3 e (qa5.mpr he));rw [<- hk] at h4;exact h2.trans h4.symm
theorem Mw:((List.range 34).all λ i=>Xv (gn (y0 i)))=true:=by decide +kernel
theorem E6 {p:List Nat}(hp:p.Nodup){u v:Nat}(hu:u<=p.length)(hv:v<=p.length)(e:(jf p).getD u 0=(jf p).getD v 0):u=v:=by
 by_cases h1:u=0
 ·by_cases h2:v=0
  ·omega
  ·exfalso
   subst h1;rw [Je (v:=v) (by omega) hv] at e
   have:(jf p).getD 0 0=0:=rfl
   omega
 ·by_cases h2:v=0
  ·exfalso
   subst h2;rw [Je (v:=u) (by omega) hu] at e
   have:(jf p).getD 0 0=0:=rfl
   omega
  ·rw [Je (by omega) hu,Je (by omega) hv] at e
   have e':p[u - 1]'(by omega)=p[v - 1]'(by omega):=by omega
   have:=(getElem_inj hp).mp e'
   omega
section
variable {p o:List Nat}
theorem KZ (ho:o.Perm (List.range t.length)){a b:Nat}(ha:a<t.length)(hb:b<t.length):at2 (kZ t p o) a b=(jf p).getD (at2 t (o.getD a 0) (o.getD b 0)).toNat 0:=by
 have hol:o.length=t.length:=by rw [ho.length_eq,length_range]
 unfold at2 kZ;rw [getD_eq_getElem?_getD (l:=List.map _ o),getElem?_map,getElem?_eq_getElem (by omega)]
 show (List.map _ o).getD b 0=_;rw [getD_eq_getElem?_getD,getElem?_map,getElem?_eq_getElem (by omega)]
 show (jf p).getD (at2 t _ _).toNat 0=_;unfold at2;rw [getD_eq_getElem?_getD (l:=o) (i:=a),getElem?_eq_getElem (by omega),getD_eq_getElem?_getD (l:=o) (i:=b),getElem?_eq_getElem (by omega)]
 rfl
theorem Mf (h:qo t)(hp:p.Perm (List.range (qB t - 1).toNat))(ho:o.Perm (List.range t.length))(s:yX t):yX (kZ t p o):=by
 have hlen:=(Tt h hp ho).2;have hol:o.length=t.length:=by rw [ho.length_eq,length_range]
 have hpl:p.length=(qB t - 1).toNat:=by rw [hp.length_eq,length_range]
 have kb:=kx h;have hpn:p.Nodup:=(hp.nodup_iff).mpr List.nodup_range;have hin:∀i,i<t.length->o.getD i 0<t.length:=λ i hi=>by
  rw [getD_eq_getElem?_getD,getElem?_eq_getElem (by omega)]
  exact qa5.mp (ho.mem_iff.mp (getElem_mem _))
 have hk:∀a b,a<t.length->b<t.length->(at2 t a b).toNat<=p.length/\((at2 t a b).toNat:Int)=at2 t a b:=λ a b ha hb=>by
  have:=Z8 h ha hb
  have:=Wl h ha hb
  omega
 have hpr:∀a b,a<t.length->b<t.length->(Qd (kZ t p o) a b).Perm ((Qd t (o.getD a 0) (o.getD b 0)).map λ q=>((jf p).getD q.1.toNat 0,(jf p).getD q.2.toNat 0)):=λ a b ha hb=>by
  unfold Qd;rw [hlen,map_map];have e1:(List.range t.length).map (λ c=>(at2 (kZ t p o) a c,at2 (kZ t p o) b c))=(List.range t.length).map λ c=>((jf p).getD (at2 t (o.getD a 0) (o.getD c 0)).toNat 0,(jf p).getD (at2 t (o.getD b 0) (o.getD c 0)).toNat 0):=map_congr_left λ c hc=>by
   rw [KZ ho ha (qa5.mp hc),KZ ho hb (qa5.mp hc)]
  rw [e1];have e2:=J0 o 0 λ c=>((jf p).getD (at2 t (o.getD a 0) c).toNat 0,(jf p).getD (at2 t (o.getD b 0) c).toNat 0);rw [hol] at e2;rw [<- e2];exact ho.map _
 intro a b c e ha hb hc he q;rw [hlen] at ha hb hc he;rw [KZ ho ha hb,KZ ho hc he] at q;have k1:=hk _ _ (hin a ha) (hin b hb);have k2:=hk _ _ (hin c hc) (hin e he);have q':=E6 hpn k1.1 k2.1 q
 have:=s _ _ _ _ (hin a ha) (hin b hb) (hin c hc) (hin e he) (by omega)
 exact (hpr a b ha hb).trans ((this.map _).trans (hpr c e hc he).symm)
theorem NL (h:Known t):yX t:=by
 obtain ⟨i,p,o,hi,hp,ho,rfl⟩:=h;have hs:=qa4.mp Mw i (qa5.mpr hi);exact Mf (Rk hi).1 hp ho (M0 hs)
variable {a b c e K:Nat}
theorem GZ (ht:qo t)(ha:a<t.length)(hb:b<t.length):∀n,n<=t.length->∀i j:Nat,shr t a b n i j=((((List.range n).map λ c=>(at2 t a c,at2 t b c)).count ((i:Int),(j:Int)):Nat):Int)
 | 0,_,i,j=>rfl
 | n+1,hn,i,j=>by
  have ih:=GZ ht ha hb n (by omega)
  have k1:=(Z8 ht ha (show n<t.length by omega)).1
  have k2:=(Z8 ht hb (show n<t.length by omega)).1
  rw [range_succ,map_append,List.count_append,List.map_singleton,List.count_singleton];show QL (shr t a b n) (at2 t a n).toNat (at2 t b n).toNat (shr t a b n (at2 t a n).toNat (at2 t b n).toNat+1) i j=_;unfold QL
  by_cases q:i=(at2 t a n).toNat/\j=(at2 t b n).toNat
  ·rw [if_pos q,<- q.1,<- q.2,ih,if_pos (by rw [beq_iff_eq];ext<;>simp<;>omega)]
   omega
  ·rw [if_neg q,ih,if_neg (by
    rw [beq_iff_eq];intro z;injection z with z1 z2
    exact q ⟨by omega,by omega⟩)]
   omega
theorem Sy (ht:qo t)(s:yX t)(ha:a<t.length)(hb:b<t.length)(hc:c<t.length)(he:e<t.length)(q:at2 t a b=at2 t c e):jF t K a b=jF t K c e:=by
 unfold jF yI;refine map_congr_left λ i _=>map_congr_left λ j _=>?_;rw [GZ ht ha hb _ (le_refl _),GZ ht hc he _ (le_refl _)]
 have:=(s a b c e ha hb hc he q).count_eq ((i:Int),(j:Int))
 unfold Qd at this;rw [this]
end
end G
namespace Mi
open PySem L2
noncomputable def Vk (r:List Int):PyData:=.tuple (r.map .int)
noncomputable def Qc (t:List (List Int)):PyData:=.tuple (t.map Vk)
theorem K3 {f:W->Option PyData}{g:α->W}{h:α->PyData}(e:∀a,f (g a)=some (h a)):∀l:List α,jJ f (l.map g)=some (l.map h)
 | []=>rfl
 | a::l=>by
  rw [map_cons,jJ,e a,K3 e l]
  rfl
theorem Di (A:Hx)(n:Nat)(r:List Int):qd A (n+1) (qa r)=some (Vk r):=by
 show (jJ (qd A n) (r.map W.int)).map PyData.tuple=_;rw [K3 (h:=PyData.int) (λ i=>by cases n<;>rfl)]
 rfl
theorem Jl (A:Hx)(n:Nat)(t:List (List Int)):qd A (n+2) (zr t)=some (Qc t):=by
 show (jJ (qd A (n+1)) (t.map qa)).map PyData.tuple=_;rw [K3 (h:=Vk) (Di A n)]
 rfl
theorem Sk {r:Nat}{ts:List (List (List Int))}(h:A[r]? =some (.lst (ts.map zr))):qd A 8 (.ref r)=some (.list (ts.map Qc)):=by
 show (match zO (.ref r) A with | some ws=>(jJ (qd A 7) ws).map PyData.list | none=>none)=_
 have:zO (.ref r) A=some (ts.map zr):=by unfold zO;dsimp only;rw [h]
 rw [this];dsimp only;rw [K3 (h:=Qc) (Jl A 5)]
 rfl
end Mi
namespace G
open PySem L2 Mi
section
variable {a b c e k K:Nat}{w:W}{kvs:List (Key × W)}
theorem SN (t:List (List Int)):PyData.eqv (Qc t) (Qc t)=true:=SeqAt.eqv_refl _ (J9 8 _ _ (Jl [] 6 t)).1
theorem neT (t:List (List Int))(A:Hx):qK (zr t) (zr t) A=.ok (.bl false) A:=Pw (Jl A 6 t) (Jl A 6 t) (SN t)
theorem Sn (ht:qo t)(s:yX t)(K:Nat):∃S:Nat->List (List Int),∀a b,a<t.length->b<t.length->jF t K a b=S (at2 t a b).toNat:=by
 classical
 refine ⟨λ k=>if h:∃q:Nat × Nat,q.1<t.length/\q.2<t.length/\(at2 t q.1 q.2).toNat=k then jF t K h.choose.1 h.choose.2 else [],λ a b ha hb=>?_⟩;have hx:∃q:Nat × Nat,q.1<t.length/\q.2<t.length/\(at2 t q.1 q.2).toNat=(at2 t a b).toNat:=⟨(a,b),ha,hb,rfl⟩;dsimp only;rw [dif_pos hx];obtain ⟨h1,h2,h3⟩:=hx.choose_spec;have b1:=Z8 ht ha hb;have b2:=Z8 ht h1 h2;exact Sy ht s ha hb h1 h2 (by omega)
theorem Se {k:Key}:∀{kvs l:List (Key × W)},jY k (kvs++l)=match jY k kvs with | some w=>some w | none=>jY k l
 | [],l=>rfl
 | (j,w)::r,l=>by
  show (if j=k then some w else jY k (r++l))=match (if j=k then some w else jY k r) with | some w=>some w | none=>jY k l
  by_cases h:j=k
  ·rw [if_pos h,if_pos h]
  ·rw [if_neg h,if_neg h];exact Se
theorem Su {k:Key}{w:W}:∀{kvs:List (Key × W)},jY k kvs=some w->(k,w)∈kvs
 | [],h=>by cases h
 | (j,u)::r,h=>by
  have h:(if j=k then some u else jY k r)=some w:=h
  by_cases q:j=k
  ·rw [if_pos q] at h;cases h;subst q;exact mem_cons_self ..
  ·rw [if_neg q] at h;exact mem_cons_of_mem _ (Su h)
structure FP (t:List (List Int))(done:Nat->Nat->Prop)(m:Nat)(kvs:List (Key × W)):Prop where
 all:∀p∈kvs,∃a b:Nat,a<t.length/\b<t.length/\p=(.inl (at2 t a b),.tup [.int (a:Int),.int (b:Int)])
 seen:∀a b,a<t.length->b<t.length->done a b->∃w,jY (.inl (at2 t a b)) kvs=some w
 len:kvs.length<=m
theorem FP.step {d d':Nat->Nat->Prop}{m:Nat}{x3:Option W}(h:FP t d m kvs)(ha:a<t.length)(hb:b<t.length)(hd:∀x y,d' x y->d x y∨(x=a/\y=b))(hm:m<100):
  ∃w kvs',Jq Zn (zc 1) (zc 5) (zB (zh (zc 2) (zh (zc 4) (zm)))) [some (zr t),some (.ref 0),some (.int (a:Int)),x3,some (.int (b:Int)),some (.int (at2 t a b))] [.dct kvs]=.ok w [.dct kvs']/\FP t d' (m+1) kvs':=by
 have hl:=h.len;have e0:Jq Zn (zc 1) (zc 5) (zB (zh (zc 2) (zh (zc 4) (zm)))) [some (zr t),some (.ref 0),some (.int (a:Int)),x3,some (.int (b:Int)),some (.int (at2 t a b))] [.dct kvs]=Zn (.ref 0) (.int (at2 t a b)) (.tup [.int (a:Int),.int (b:Int)]) [.dct kvs]:=rfl;rw [e0];unfold Zn;show ∃w kvs',(if kvs.length<zY then (match jY (.inl (at2 t a b)) kvs with | some w=>R.ok w [.dct kvs] | none=>.ok (.tup [.int (a:Int),.int (b:Int)]) [O.dct (kvs++[((Sum.inl (at2 t a b):Key),W.tup [.int (a:Int),.int (b:Int)])])]) else .bad)=.ok w [.dct kvs']/\FP t d' (m+1) kvs'
 rw [if_pos (by unfold zY;omega)]
 cases hv:jY (.inl (at2 t a b)) kvs with
 | some w=>
  refine ⟨w,kvs,rfl,h.all,λ x y hx hy hxy=>?_,by omega⟩
  rcases hd x y hxy with z | ⟨rfl,rfl⟩
  ·exact h.seen x y hx hy z
  ·exact ⟨w,hv⟩
 | none=>
  refine ⟨_,_,rfl,λ p hp=>?_,λ x y hx hy hxy=>?_,by rw [length_append,length_singleton];omega⟩
  ·rcases List.mem_append.mp hp with hp | hp
   ·exact h.all p hp
   ·rw [qa7.mp hp];exact ⟨a,b,ha,hb,rfl⟩
  ·rw [Se]
   rcases hd x y hxy with z | ⟨rfl,rfl⟩
   ·obtain ⟨w,hw⟩:=h.seen x y hx hy z
    rw [hw];exact ⟨w,rfl⟩
   ·rw [hv];exact ⟨.tup [.int (x:Int),.int (y:Int)],by show (if _ then _ else _)=_;rw [if_pos rfl]⟩
theorem Rj {f:Fn}{us:List W}{k:Nat}(hn:qS us=true)(h:f us []=.ok (.ref k) A1)(hk:A1[k]? =some (.dct kvs))(hw:qS (kvs.map (·.2))=true):iso f us A=.ok (.ref A.length) (A++[.dct kvs]):=by
 unfold iso;rw [if_pos hn,h];dsimp only;rw [hk];dsimp only;rw [if_pos hw]
theorem Rb (ht:qo t):∃kvs,Gz [zr t] []=.ok (.ref 0) [.dct kvs]/\FP t (λ _ _=>True) 64 kvs:=by
 have n8:=ht.n8;have hlt:(t.map qa).length=t.length:=length_map ..;obtain ⟨ρ',B,e,kvs,hB,hf,y2,y3,y4,y5,hρ⟩:=wL (j:=yP (zr t) t.length) (st:=turn (jG 2 3) (zq (jT (ko (zc 3)) (jG 4 5) (zq (jI (Jq Zn (zc 1) (zc 5) (zB (zh (zc 2) (zh (zc 4) (zm)))))) (zy))) (zy))) (N:=t.length)
  (I:=λ a ρ B=>∃kvs,B=[.dct kvs]/\FP t (λ x _=>x<a) (a * 8) kvs/\∃y2 y3 y4 y5,ρ=[some (zr t),some (.ref 0),y2,y3,y4,y5])
  (λ a ρ B ha ⟨kvs,hB,hf,y2,y3,y4,y5,hρ⟩=>by
   subst hB hρ;have hrl:=ht.sq _ (yi ha);have hl2:((t.getD a []).map W.int).length=t.length:=by rw [length_map,hrl]
   obtain ⟨ρ',B,e,kvs',hB,hf',y4',y5',hρ⟩:=wL (j:=yP (.tup ((t.getD a []).map W.int)) ((t.getD a []).map W.int).length) (st:=turn (jG 4 5) (zq (jI (Jq Zn (zc 1) (zc 5) (zB (zh (zc 2) (zh (zc 4) (zm)))))) (zy))) (N:=t.length)
    (I:=λ b ρ B=>∃kvs,B=[.dct kvs]/\FP t (λ x y=>x<a∨(x=a/\y<b)) (a * 8+b) kvs/\∃y4 y5,ρ=[some (zr t),some (.ref 0),some (.int (a:Int)),some (qa (t.getD a [])),y4,y5])
    (λ b ρ B hb ⟨kvs,hB,hf,y4,y5,hρ⟩=>by
     subst hB hρ;obtain ⟨w,kvs',e,hf'⟩:=hf.step (a:=a) (b:=b) (d':=λ x y=>x<a∨(x=a/\y<b+1)) (x3:=some (qa (t.getD a []))) ha hb (λ x y h=>by omega) (by omega)
     exact ⟨_,_,[.dct kvs'],JC (int_at (by omega)),(kS rfl).trans ((zG (yu e)).trans jq),kvs',rfl,hf',_,_,rfl⟩)
    (λ ρ B _=>by have:=Jt (A:=B) (ws:=(t.getD a []).map W.int);rw [hl2] at this ⊢;exact this) t.length 0 [some (zr t),some (.ref 0),some (.int (a:Int)),some (qa (t.getD a [])),y4,y5] [.dct kvs] (by omega)
    ⟨kvs,rfl,⟨hf.all,λ x y hx hy h=>hf.seen x y hx hy (by omega),by have:=hf.len;omega⟩,_,_,rfl⟩
   subst hB hρ;refine ⟨.tup [.int (a:Int),qa (t.getD a [])],[some (zr t),some (.ref 0),some (.int (a:Int)),some (qa (t.getD a [])),y4',y5'],[.dct kvs'],?_,(kS (ρ1:=[some (zr t),some (.ref 0),some (.int (a:Int)),some (qa (t.getD a [])),y4,y5]) rfl).trans ((zG ((kP (Q9 (zu rfl))).trans ?_)).trans jq),kvs',rfl,⟨hf'.all,λ x y hx hy h=>hf'.seen x y hx hy (by omega),by have:=hf'.len;omega⟩,_,_,_,_,rfl⟩
   ·have:=JC (A:=[O.dct kvs]) (Yx ha)
    rw [hlt] at this;exact this
   ·have:(yP (.tup ((t.getD a []).map W.int)) ((t.getD a []).map W.int).length).len=t.length:=hl2
    rw [this];exact e)
  (λ ρ B _=>by have:=Jt (A:=B) (ws:=t.map qa);rw [hlt] at this;exact this) t.length 0 [some (zr t),some (.ref 0),none,none,none,none] [.dct []] (by omega)
  ⟨[],rfl,⟨λ p hp=>(by cases hp),λ x y _ _ h=>absurd h (not_lt_zero _),zero_le _⟩,_,_,_,_,rfl⟩
 subst hB hρ;refine ⟨kvs,qY ?_,hf.all,λ x y hx hy _=>hf.seen x y hx hy hx,by have:=hf.len;omega⟩
 unfold Uz;refine (zG (ρ1:=[some (zr t),some (.ref 0),none,none,none,none]) (A1:=[.dct []]) ((qM (w:=.ref 0) (A1:=[.dct []]) rfl).trans rfl)).trans ?_;have hm:ko (zc 0) [some (zr t),some (.ref 0),none,none,none,none] [.dct []]=.ok (yP (zr t) t.length) [.dct []]:=by
  have:=Q9 (m:=zc 0) (ρ:=[some (zr t),some (.ref 0),none,none,none,none]) (A:=[.dct []]) (A1:=[.dct []]) (ws:=t.map qa) (zu rfl)
  rw [hlt] at this;exact this
 exact (zG ((kP hm).trans e)).trans (qG (jd (zu rfl)))
theorem FP.nr {d:Nat->Nat->Prop}{m:Nat}(h:FP t d m kvs):qS (kvs.map (·.2))=true:=by
 have:∀l:List (Key × W),(∀p∈l,p.2.nr=true)->qS (l.map (·.2))=true:=by
  intro l
  induction l with
  | nil=>intro _;rfl
  | cons p l ih=>
   intro hp;show (p.2.nr&&qS (l.map (·.2)))=true;rw [hp p (mem_cons_self ..),ih λ q hq=>hp q (mem_cons_of_mem _ hq)]
   rfl
 refine this kvs λ p hp=>?_;obtain ⟨a,b,_,_,rfl⟩:=h.all p hp
 rfl
theorem FP.get {m:Nat}(h:FP t (λ _ _=>True) m kvs)(ht:qo t)(hK:qB t=(K:Int))(hk:k<K):∃a b:Nat,a<t.length/\b<t.length/\at2 t a b=(k:Int)/\jY (.inl (k:Int)) kvs=some (.tup [.int (a:Int),.int (b:Int)]):=by
 obtain ⟨a,b,ha,hb,e⟩:=Yz ht (v:=k) (by omega)
 obtain ⟨w,hw⟩:=h.seen a b ha hb trivial;rw [e] at hw;obtain ⟨a',b',ha',hb',e'⟩:=h.all _ (Su hw);injection e' with e1 e2
 injection e1 with e1
 exact ⟨a',b',ha',hb',e1.symm,by rw [hw,e2]⟩
theorem Fi (ht:qo t)(s:yX t)(A:Hx):Kf [zr t] A=.ok .non A:=by
 have n8:=ht.n8;have kb:=kx ht;have hlt:(t.map qa).length=t.length:=length_map ..;obtain ⟨K,hK⟩:=eq_ofNat_of_zero_le (show 0<=qB t by omega)
 obtain ⟨kvs,ef,hf⟩:=Rb ht;obtain ⟨ρ',B,e,hB,y1,y2,y3,y4,y5,y6,y7,y8,hρ⟩:=wL (j:=YS kvs) (st:=turn (Wk 1 2 3) (zq (zZ 4 (zF gI (zh (zc 0) (zh (zc 2) (zh (zc 3) (zm)))))) (zq (jT (ko (zc 0)) (jG 5 6) (zq (jT (ko (zc 6)) (jG 7 8) (zq (qw (yL (zo jL (zc 8) (zc 1)) (zo qK (zF gI (zh (zc 0) (zh (zc 5) (zh (zc 7) (zm))))) (zc 4))) (zq (qc (zB (zh (zc 2) (zh (zc 3) (zh (zc 5) (zh (zc 7) (zm))))))) (zy)) (zy)) (zy))) (zy))) (zy)))) (N:=kvs.length)
  (I:=λ _ ρ B=>B=[]/\∃y1 y2 y3 y4 y5 y6 y7 y8,ρ=[some (zr t),y1,y2,y3,y4,y5,y6,y7,y8])
  (λ i ρ B hi ⟨hB,y1,y2,y3,y4,y5,y6,y7,y8,hρ⟩=>by
   subst hB hρ;obtain ⟨a,b,ha,hb,ep⟩:=hf.all kvs[i] (getElem_mem hi);obtain ⟨ρ',B,e,hB,y5',y6',y7',y8',hρ⟩:=wL (j:=yP (zr t) t.length) (st:=turn (jG 5 6) (zq (jT (ko (zc 6)) (jG 7 8) (zq (qw (yL (zo jL (zc 8) (zc 1)) (zo qK (zF gI (zh (zc 0) (zh (zc 5) (zh (zc 7) (zm))))) (zc 4))) (zq (qc (zB (zh (zc 2) (zh (zc 3) (zh (zc 5) (zh (zc 7) (zm))))))) (zy)) (zy)) (zy))) (zy))) (N:=t.length)
    (I:=λ _ ρ B=>B=[]/\∃y5 y6 y7 y8,ρ=[some (zr t),some (.int (at2 t a b)),some (.int (a:Int)),some (.int (b:Int)),some (zr (jF t K a b)),y5,y6,y7,y8])
    (λ c ρ B hc ⟨hB,y5,y6,y7,y8,hρ⟩=>by
     subst hB hρ;have hrl:=ht.sq _ (yi hc);have hl2:((t.getD c []).map W.int).length=t.length:=by rw [length_map,hrl]
     obtain ⟨ρ',B,e,hB,y7',y8',hρ⟩:=wL (j:=yP (.tup ((t.getD c []).map W.int)) ((t.getD c []).map W.int).length) (st:=turn (jG 7 8) (zq (qw (yL (zo jL (zc 8) (zc 1)) (zo qK (zF gI (zh (zc 0) (zh (zc 5) (zh (zc 7) (zm))))) (zc 4))) (zq (qc (zB (zh (zc 2) (zh (zc 3) (zh (zc 5) (zh (zc 7) (zm))))))) (zy)) (zy)) (zy))) (N:=t.length)
      (I:=λ _ ρ B=>B=[]/\∃y7 y8,ρ=[some (zr t),some (.int (at2 t a b)),some (.int (a:Int)),some (.int (b:Int)),some (zr (jF t K a b)),some (.int (c:Int)),some (qa (t.getD c [])),y7,y8])
      (λ e ρ B he ⟨hB,y7,y8,hρ⟩=>by
       subst hB hρ;have eq:=(zQ (ρ:=[some (zr t),some (.int (at2 t a b)),some (.int (a:Int)),some (.int (b:Int)),some (zr (jF t K a b)),some (.int (c:Int)),some (qa (t.getD c [])),some (.int (e:Int)),some (.int (at2 t c e))]) (A:=[]) (zu (i:=8) rfl) (zu (i:=1) rfl)).trans (JS (at2 t c e) (at2 t a b) []);have test:yL (zo jL (zc 8) (zc 1)) (zo qK (zF gI (zh (zc 0) (zh (zc 5) (zh (zc 7) (zm))))) (zc 4)) [some (zr t),some (.int (at2 t a b)),some (.int (a:Int)),some (.int (b:Int)),some (zr (jF t K a b)),some (.int (c:Int)),some (qa (t.getD c [])),some (.int (e:Int)),some (.int (at2 t c e))] []=.ok (.bl false) []:=by
        by_cases q:at2 t c e=at2 t a b
        ·rw [decide_eq_true q] at eq
         refine (Z2 eq).trans ((zQ ((zT (zH (zu rfl) (zH (zu rfl) (zH (zu rfl) zX)))).trans (G2 ht hK hc he [])) (zu rfl)).trans ?_);rw [Sy (K:=K) ht s hc he ha hb q];exact neT _ _
        ·rw [decide_eq_false q] at eq
         exact Yt eq
       exact ⟨_,_,[],JC (int_at (by omega)),(kS rfl).trans ((zG ((j4 test).trans jq)).trans jq),rfl,_,_,rfl⟩)
      (λ ρ B _=>by have:=Jt (A:=B) (ws:=(t.getD c []).map W.int);rw [hl2] at this ⊢;exact this) t.length 0 [some (zr t),some (.int (at2 t a b)),some (.int (a:Int)),some (.int (b:Int)),some (zr (jF t K a b)),some (.int (c:Int)),some (qa (t.getD c [])),y7,y8] [] (by omega) ⟨rfl,_,_,rfl⟩
     subst hB hρ;refine ⟨.tup [.int (c:Int),qa (t.getD c [])],[some (zr t),some (.int (at2 t a b)),some (.int (a:Int)),some (.int (b:Int)),some (zr (jF t K a b)),some (.int (c:Int)),some (qa (t.getD c [])),y7',y8'],[],?_,(kS (ρ1:=[some (zr t),some (.int (at2 t a b)),some (.int (a:Int)),some (.int (b:Int)),some (zr (jF t K a b)),some (.int (c:Int)),some (qa (t.getD c [])),y7,y8]) rfl).trans ((zG ((kP (Q9 (zu rfl))).trans ?_)).trans jq),rfl,_,_,_,_,rfl⟩
     ·have:=JC (A:=[]) (Yx hc)
      rw [hlt] at this;exact this
     ·have:(yP (.tup ((t.getD c []).map W.int)) ((t.getD c []).map W.int).length).len=t.length:=hl2
      rw [this];exact e)
    (λ ρ B _=>by have:=Jt (A:=B) (ws:=t.map qa);rw [hlt] at this;exact this) t.length 0 [some (zr t),some (.int (at2 t a b)),some (.int (a:Int)),some (.int (b:Int)),some (zr (jF t K a b)),y5,y6,y7,y8] [] (by omega) ⟨rfl,_,_,_,_,rfl⟩
   subst hB hρ;have hm:ko (zc 0) [some (zr t),some (.int (at2 t a b)),some (.int (a:Int)),some (.int (b:Int)),some (zr (jF t K a b)),y5,y6,y7,y8] []=.ok (yP (zr t) t.length) []:=by
    have:=Q9 (m:=zc 0) (ρ:=[some (zr t),some (.int (at2 t a b)),some (.int (a:Int)),some (.int (b:Int)),some (zr (jF t K a b)),y5,y6,y7,y8]) (A:=[]) (A1:=[]) (ws:=t.map qa) (zu rfl)
    rw [hlt] at this;exact this
   refine ⟨.tup [.int (at2 t a b),.tup [.int (a:Int),.int (b:Int)]],[some (zr t),some (.int (at2 t a b)),some (.int (a:Int)),some (.int (b:Int)),some (zr (jF t K a b)),y5',y6',y7',y8'],[],?_,(kS (ρ1:=[some (zr t),some (.int (at2 t a b)),some (.int (a:Int)),some (.int (b:Int)),y4,y5,y6,y7,y8]) rfl).trans ?_,rfl,_,_,_,_,_,_,_,_,rfl⟩
   ·show some (kvs[i]?.map λ p=>W.tup [kW p.1,p.2])=_
    rw [getElem?_eq_getElem hi,ep]
    rfl
   ·exact (zG (ρ1:=[some (zr t),some (.int (at2 t a b)),some (.int (a:Int)),some (.int (b:Int)),some (zr (jF t K a b)),y5,y6,y7,y8]) (A1:=[]) ((qM ((zT (zH (zu rfl) (zH (zu rfl) (zH (zu rfl) zX)))).trans (G2 ht hK ha hb []))).trans rfl)).trans ((zG ((kP hm).trans e)).trans jq))
  (λ ρ B _=>by
   show some (kvs[kvs.length]?.map λ p=>W.tup [kW p.1,p.2])=_;rw [getElem?_eq_none (le_refl _)]
   rfl) kvs.length 0 [some (zr t),none,none,none,none,none,none,none,none] [] (by omega) ⟨rfl,_,_,_,_,_,_,_,_,rfl⟩
 subst hB hρ;refine gU (A1:=[]) (kL t) rfl (qY ?_);unfold Uc;have hit:Yw (zF QZ (zh (zc 0) (zm))) [some (zr t),none,none,none,none,none,none,none,none] []=.ok (YS kvs) []:=by
  unfold Yw;dsimp only;have ec:zF QZ (zh (zc 0) (zm)) [some (zr t),none,none,none,none,none,none,none,none] []=.ok (.ref 0) [.dct kvs]:=(zT (zH (zu rfl) zX)).trans (Rj (kL t) ef rfl hf.nr);rw [ec,zL];exact if_pos hf.nr
 exact (zG ((kP hit).trans e)).trans (qG (jd q9))
theorem Lv {S:Nat->List (List Int)}(ht:qo t)(hK:qB t=(K:Int))(hS:∀a b,a<t.length->b<t.length->jF t K a b=S (at2 t a b).toNat)(A:Hx):Kh [zr t] A=.ok (.ref A.length) (A++[.lst ((List.range K).map λ k=>zr (S k))]):=by
 have n8:=ht.n8;have kb:=kx ht;obtain ⟨kvs,ef,hf⟩:=Rb ht;have ch:∀k:Nat,∃q:Nat × Nat,k<K->q.1<t.length/\q.2<t.length/\at2 t q.1 q.2=(k:Int)/\jY (.inl (k:Int)) kvs=some (.tup [.int (q.1:Int),.int (q.2:Int)]):=λ k=>by
  by_cases hk:k<K
  ·obtain ⟨a,b,h1,h2,h3,h4⟩:=hf.get ht hK hk
   exact ⟨(a,b),λ _=>⟨h1,h2,h3,h4⟩⟩
  ·exact ⟨(0,0),λ z=>absurd z hk⟩
 obtain ⟨fp,hfp⟩:=Classical.axiomOfChoice ch;have e1:zF QZ (zh (zc 0) (zm)) [some (zr t),none,none] []=.ok (.ref 0) [.dct kvs]:=(zT (zH (zu rfl) zX)).trans (Rj (kL t) ef rfl hf.nr);have hm:=wk (m:=zF ZP (zh (zc 0) (zm))) (ρ:=[some (zr t),some (.ref 0),none]) (A:=[.dct kvs]) (A1:=[.dct kvs]) (k:=(K:Int)) ((zT (zH (zu rfl) zX)).trans ((Yn ht _).trans (by rw [hK]))) (w9 (by omega))
 rw [toNat_natCast] at hm;have e2:=ZS (cap:=[1]) (me:=zo Wu (zc 1) (zc 0)) (ρ:=[some (zr t),some (.ref 0),none]) (A:=[.dct kvs]) (N:=K) (item:=λ i=>.int (0+(i:Int))) (g:=λ k=>.tup [.int ((fp k).1:Int),.int ((fp k).2:Int)]) hm rfl (by unfold zY;omega) (λ i hi=>wy hi) (wt (by omega)) (λ i hi=>by
  refine (zQ (zu (i:=1) (w:=.ref 0) rfl) (zu (i:=0) (w:=.int (0+(i:Int))) rfl)).trans ?_;rw [zero_add];show (match jY (.inl (i:Int)) kvs with | some w=>R.ok w [.dct kvs] | none=>.bad)=_
  rw [(hfp i hi).2.2.2])
 have e2':=wM e2;have e3:=US (A:=[.dct kvs]++[.lst ((List.range K).map λ k=>.tup [.int ((fp k).1:Int),.int ((fp k).2:Int)])]) (cap:=[0]) (ρ:=[some (zr t),some (.ref 0),some (.ref 1)]) (me:=zF gI (zh (zc 2) (zh (zc 0) (zh (zc 1) (zm))))) (mi:=qz (zc 2)) (N:=K) (u:=λ k=>.int ((fp k).1:Int)) (v:=λ k=>.int ((fp k).2:Int)) (g:=λ k=>zr (S k)) (Yf (n:=1) (zu rfl) rfl) (by show ((List.range K).map _).length=K;rw [length_map,length_range]) (by omega)
  (λ i hi=>RP (n:=1) rfl (by rw [getElem?_map,getElem?_range hi];rfl))
  (Pl (n:=1) rfl (by rw [length_map,length_range];exact le_refl _))
  (λ i hi=>by
   obtain ⟨h1,h2,h3,_⟩:=hfp i hi;refine (zT (ws:=[zr t,.int ((fp i).1:Int),.int ((fp i).2:Int)]) (zH (zu rfl) (zH (zu rfl) (zH (zu rfl) zX)))).trans ((G2 ht hK h1 h2 _).trans ?_);rw [hS _ _ h1 h2,h3,toNat_natCast])
 refine Xs (k:=2) (A1:=[.dct kvs]++[.lst ((List.range K).map λ k=>.tup [.int ((fp k).1:Int),.int ((fp k).2:Int)])]++[.lst ((List.range K).map λ k=>zr (S k))]) (kL t) (qY ?_) rfl (Jj (λ _=>Yj _) _);unfold Uj;refine (zG (ρ1:=[some (zr t),some (.ref 0),none]) (A1:=[.dct kvs]) ((qM e1).trans rfl)).trans ?_;refine (zG (ρ1:=[some (zr t),some (.ref 0),some (.ref 1)]) (A1:=[.dct kvs]++[.lst ((List.range K).map λ k=>.tup [.int ((fp k).1:Int),.int ((fp k).2:Int)])]) ((qM e2').trans rfl)).trans ?_;exact qG (jd (wM e3))
variable {C:Hx}{x y z:W}{S:Nat->List (List Int)}
theorem Yv (ht:qo t)(s:yX t)(A:Hx):Qg [zr t] A=.ok .non A:=by
 refine Xp (ρ:=[some (zr t)]) ?_;unfold Y8;exact (zG (yu ((zT (zH (zu rfl) zX)).trans (Tv ht A)))).trans ((zG ((j4 (gO ((zQ ((zT (zH (zu rfl) zX)).trans (Fi ht s A)) q9).trans rfl))).trans jq)).trans jq)
theorem RM (h:kJ A w):Qg [w] A=.exc "NoTable" A:=by
 refine gf ?_;unfold Y8;exact kO (Z0 ((zT (zH (zu rfl) zX)).trans (LF h)))
noncomputable def Y3 (t:List (List Int)):Prop:=qo t/\∃ws,Gs [zr t] []=.ok (.tup ws) []/\qS ws=true
theorem R1 (h:Y3 t)(A:Hx):Qg [zr t] A=.exc "NotSteady" A:=by
 obtain ⟨ht,ws,e,hn⟩:=h;have es:Kf [zr t] A=.ok (.tup ws) A:=gU (A1:=[]) (kL t) hn e;refine gf ?_;unfold Y8;exact (zG (yu ((zT (zH (zu rfl) zX)).trans (Tv ht A)))).trans (kO ((gw (gO ((zQ ((zT (zH (zu rfl) zX)).trans es) q9).trans rfl))).trans (kO rfl)))
theorem Iy (ht:qo t)(s:yX t)(hK:qB t=(K:Int))(hS:∀a b,a<t.length->b<t.length->jF t K a b=S (at2 t a b).toNat)(hi:i<K)(hj:j<K)(hk:k<K)(A:Hx):Jb [zr t,.int (i:Int),.int (j:Int),.int (k:Int)] A=.ok (.int (at2 (S k) i j)) A:=by
 have kb:=kx ht;obtain ⟨a,b,ha,hb,e⟩:=Yz ht (v:=k) (by omega)
 have hSk:S k=jF t K a b:=by rw [hS a b ha hb,e,toNat_natCast]
 have hl:(S k).length=K:=by rw [hSk];unfold jF;exact Yc
 have hr:∀r∈S k,r.length=K:=by rw [hSk];unfold jF;intro r hr;rw [Rg r hr,Yc]
 refine gU (A1:=[.lst ((List.range K).map λ k=>zr (S k))]) (kL t) rfl (gO (Rp ?_));unfold Qn;refine (zG (yu ((zT (zH (zu rfl) zX)).trans (Yv ht s [])))).trans ?_;refine (zG (yu ((zT (zH (zu rfl) (zH (zu rfl) zX))).trans (Jp ht hK ⟨i,rfl,hi⟩ [])))).trans ?_;refine (zG (yu ((zT (zH (zu rfl) (zH (zu rfl) zX))).trans (Jp ht hK ⟨j,rfl,hj⟩ [])))).trans ?_;refine (zG (yu ((zT (zH (zu rfl) (zH (zu rfl) zX))).trans (Jp ht hK ⟨k,rfl,hk⟩ [])))).trans (gO (qG (jd ?_)));have e1:zF Kh (zh (zc 0) (zm)) [some (zr t),some (.int (i:Int)),some (.int (j:Int)),some (.int (k:Int))] []=.ok (.ref 0) [.lst ((List.range K).map λ k=>zr (S k))]:=(zT (zH (zu rfl) zX)).trans (Lv ht hK hS []);refine (zQ ((zQ ((zQ e1 (zu rfl)).trans (gj (n:=0) rfl (by rw [getElem?_map,getElem?_range hk];rfl))) (zu rfl)).trans (gN (by omega))) (zu rfl)).trans (Qt ?_)
 rw [hr _ (yi (by omega))]
 exact hj
theorem IM (h:kJ A w):jw [w,x,y,z] A=.exc "NoTable" A:=by
 refine gf ?_;unfold Qn;exact kO (Z0 ((zT (zH (zu rfl) zX)).trans (RM h)))
theorem Ff (h:Y3 t)(A:Hx):jw [zr t,x,y,z] A=.exc "NotSteady" A:=by
 refine gf ?_;unfold Qn;exact kO (Z0 ((zT (zH (zu rfl) zX)).trans (R1 h A)))
theorem HQ {ty:Ty}(ht:qo t)(s:yX t)(hK:qB t=(K:Int))(hx:jz x A=some ty)(h:¬Ok K x):jw [zr t,x,y,z] A=.exc "NoKind" A:=by
 refine gf ?_;unfold Qn;exact (zG (yu ((zT (zH (zu rfl) zX)).trans (Yv ht s A)))).trans (kO (Z0 ((zT (zH (zu rfl) (zH (zu rfl) zX))).trans (Xz ht hK hx h))))
theorem Hf {ty:Ty}(ht:qo t)(s:yX t)(hK:qB t=(K:Int))(h1:Ok K x)(hx:jz y A=some ty)(h:¬Ok K y):jw [zr t,x,y,z] A=.exc "NoKind" A:=by
 refine gf ?_;unfold Qn;exact (zG (yu ((zT (zH (zu rfl) zX)).trans (Yv ht s A)))).trans ((zG (yu ((zT (zH (zu rfl) (zH (zu rfl) zX))).trans (Jp ht hK h1 A)))).trans (kO (Z0 ((zT (zH (zu rfl) (zH (zu rfl) zX))).trans (Xz ht hK hx h)))))
theorem HK {ty:Ty}(ht:qo t)(s:yX t)(hK:qB t=(K:Int))(h1:Ok K x)(h2:Ok K y)(hx:jz z A=some ty)(h:¬Ok K z):jw [zr t,x,y,z] A=.exc "NoKind" A:=by
 refine gf ?_;unfold Qn;exact (zG (yu ((zT (zH (zu rfl) zX)).trans (Yv ht s A)))).trans ((zG (yu ((zT (zH (zu rfl) (zH (zu rfl) zX))).trans (Jp ht hK h1 A)))).trans ((zG (yu ((zT (zH (zu rfl) (zH (zu rfl) zX))).trans (Jp ht hK h2 A)))).trans (kO (Z0 ((zT (zH (zu rfl) (zH (zu rfl) zX))).trans (Xz ht hK hx h))))))
noncomputable def we (t:List (List Int))(K:Nat):List Int:=(List.range K).map λ (k:Nat)=>((QO (.int (k:Int)) ((t.getD 0 []).map W.int) 0:Nat):Int)
theorem Pr {m:Ei}{q:Nat}(ht:qo t)(hK:qB t=(K:Int))(hm:m ρ A=.ok (yY 0 K) A)(hq:ρ[q]? =some (some (zr t))):ql (zV 1 [q] m (zK 0) (zi (.bl true)) (zM (Qy Z3 (zo zC (zc 1) (zi (.int 0))) (zc 0)))) ρ A=.ok (.ref A.length) (A++[.lst ((we t K).map W.int)]):=by
 have kb:=kx ht;have n1:=ht.n1;have ec:=ZS (cap:=[q]) (me:=Qy Z3 (zo zC (zc 1) (zi (.int 0))) (zc 0)) (ρ:=ρ) (A:=A) (N:=K) (item:=λ i=>.int (0+(i:Int))) (g:=λ k=>.int ((QO (.int (k:Int)) ((t.getD 0 []).map W.int) 0:Nat):Int)) hm rfl (by unfold zY;omega) (λ i hi=>wy hi) (wt (by omega)) (λ i hi=>by
  have e1:zo zC (zc 1) (zi (.int 0)) (some (W.int (0+(i:Int)))::[q].map λ i=>(ρ[i]?).join) A=.ok (.tup ((t.getD 0 []).map W.int)) A:=(zQ (zu (w:=zr t) (by show some ((ρ[q]?).join)=_;rw [hq];rfl)) q9).trans (gN (a:=0) n1)
  unfold Qy;rw [e1,zL];dsimp only;rw [zu (w:=.int (0+(i:Int))) rfl,zL,zero_add];unfold Z3;dsimp only;rw [if_pos];show (true&&((t.getD 0 []).map W.int).all yD)=true;rw [Bool.true_and,all_eq_true];intro w hw;obtain ⟨v,_,rfl⟩:=qa6.mp hw
  rfl)
 rw [wM ec];unfold we;rw [map_map]
 rfl
theorem Dh (ht:qo t)(s:yX t)(hK:qB t=(K:Int))(A:Hx):Jf [zr t] A=.ok (.ref A.length) (A++[.lst ((we t K).map W.int)]):=by
 have kb:=kx ht;have hm:=wk (m:=zF ZP (zh (zc 0) (zm))) (ρ:=[some (zr t)]) (A:=[]) (A1:=[]) (k:=(K:Int)) ((zT (zH (zu rfl) zX)).trans ((Yn ht _).trans (by rw [hK]))) (w9 (by omega))
 rw [toNat_natCast] at hm;have e1:GA [zr t] []=.ok (.ref 0) [.lst ((we t K).map W.int)]:=Xs (A:=[]) (k:=0) (A1:=[.lst ((we t K).map W.int)]) (kL t) (qY (by unfold Ut;exact qG (jd (Pr ht hK hm rfl)))) rfl (Jj (λ _=>rfl) _)
 refine Xs (k:=0) (A1:=[.lst ((we t K).map W.int)]) (kL t) (gO (Rp ?_)) rfl (Jj (λ _=>rfl) _);unfold K9;exact (zG (yu ((zT (zH (zu rfl) zX)).trans (Yv ht s [])))).trans (gO (qG (jd ((zT (zH (zu rfl) zX)).trans e1))))
theorem Dj (h:kJ A w):jV [w] A=.exc "NoTable" A:=by
 refine gf ?_;unfold K9;exact kO (Z0 ((zT (zH (zu rfl) zX)).trans (RM h)))
theorem F1 (h:Y3 t)(A:Hx):jV [zr t] A=.exc "NotSteady" A:=by
 refine gf ?_;unfold K9;exact kO (Z0 ((zT (zH (zu rfl) zX)).trans (R1 h A)))
structure LB (b0 K:Nat)(S:Nat->List (List Int))(f:Nat->Bool)(C:Hx):Prop where
 top:C[b0+K]? =some (.lst ((List.range K).map λ i=>W.ref (b0+i)))
 row:∀i,i<K->C[b0+i]? =some (.lst (if f i then [zr (S i)] else []))
theorem ID {r:Nat}(h:C[r]? =some (.lst [zr t])):qd C 8 (.ref r)=some (.list [Qc t]):=Sk (ts:=[t]) h
theorem Hv {r:Nat}(h:C[r]? =some (.lst [])):qd C 8 (.ref r)=some (.list []):=Sk (ts:=[]) h
noncomputable abbrev VB:Ex:=zq (zZ 4 (zF J1 (zh (zc 0) (zh (zc 2) (zh (zc 3) (zm)))))) (zq (qw (zo gh (zc 4) (zo zC (zc 1) (zo zC (zo zC (zc 0) (zc 2)) (zc 3)))) (zq (jI (jO yd (zo zC (zc 1) (zo zC (zo zC (zc 0) (zc 2)) (zc 3))) (zc 4))) (zy)) (zy)) (zy))
theorem Fy {b0:Nat}{f:Nat->Bool}{x4:Option W}(ht:qo t)(hK:qB t=(K:Int))(hS:∀a b,a<t.length->b<t.length->jF t K a b=S (at2 t a b).toNat)(h:LB b0 K S f C)(ha:a<t.length)(hb:b<t.length):
  ∃C' y4,VB [some (zr t),some (.ref (b0+K)),some (.int (a:Int)),some (.int (b:Int)),x4] C=.ok (.nx [some (zr t),some (.ref (b0+K)),some (.int (a:Int)),some (.int (b:Int)),y4]) C'/\LB b0 K S (λ i=>f i || decide (i=(at2 t a b).toNat)) C'/\∀A,A.length=b0->Ext A C->Ext A C':=by
 obtain ⟨q1,q2⟩:=Yy ht hK ha hb;have e1:zo zC (zc 1) (zo zC (zo zC (zc 0) (zc 2)) (zc 3)) [some (zr t),some (.ref (b0+K)),some (.int (a:Int)),some (.int (b:Int)),some (zr (S (at2 t a b).toNat))] C=.ok (.ref (b0+(at2 t a b).toNat)) C:=by
  refine (zQ (zu rfl) ((zQ ((zQ (zu rfl) (zu rfl)).trans (gN ha)) (zu rfl)).trans (Qt (by rw [ht.sq _ (yi ha)];exact hb)))).trans ?_
  show zC (.ref (b0+K)) (.int (at2 t a b)) C=_
  have:=gj (s:=(at2 t a b).toNat) (w:=.ref (b0+(at2 t a b).toNat)) h.top (by rw [getElem?_map,getElem?_range q2];rfl)
  rw [q1] at this;exact this
 have hr:=h.row _ q2;have hlt:=Zl hr;have es:zZ 4 (zF J1 (zh (zc 0) (zh (zc 2) (zh (zc 3) (zm))))) [some (zr t),some (.ref (b0+K)),some (.int (a:Int)),some (.int (b:Int)),x4] C=.ok (.nx [some (zr t),some (.ref (b0+K)),some (.int (a:Int)),some (.int (b:Int)),some (zr (S (at2 t a b).toNat))]) C:=by
  rw [<- hS a b ha hb];exact (qM ((zT (zH (zu rfl) (zH (zu rfl) (zH (zu rfl) zX)))).trans (LQ ht hK ha hb C))).trans rfl
 generalize hv:(at2 t a b).toNat=v at *;cases hf:f v with
 | true=>
  rw [hf,if_pos rfl] at hr;have et:zo gh (zc 4) (zo zC (zc 1) (zo zC (zo zC (zc 0) (zc 2)) (zc 3))) [some (zr t),some (.ref (b0+K)),some (.int (a:Int)),some (.int (b:Int)),some (zr (S v))] C=.ok (.bl false) C:=by
   refine (zQ (zu rfl) e1).trans ?_;unfold gh;rw [Jl C 6,ID hr];show R.ok (W.bl (!(PyData.eqv (Qc (S v)) (Qc (S v)) || false))) C=_;rw [SN]
   rfl
  refine ⟨C,_,(zG es).trans ((zG ((j4 et).trans jq)).trans jq),⟨h.top,λ i hi=>?_⟩,λ A _ x=>x⟩;rw [h.row i hi]
  by_cases q:i=v
  ·subst q;rw [hf];rfl
  ·rw [decide_eq_false q,Bool.or_false]
 | false=>
  rw [hf,if_neg (by simp)] at hr
  have et:zo gh (zc 4) (zo zC (zc 1) (zo zC (zo zC (zc 0) (zc 2)) (zc 3))) [some (zr t),some (.ref (b0+K)),some (.int (a:Int)),some (.int (b:Int)),some (zr (S v))] C=.ok (.bl true) C:=by
   refine (zQ (zu rfl) e1).trans ?_;unfold gh;rw [Jl C 6,Hv hr]
   rfl
  have ea:jO yd (zo zC (zc 1) (zo zC (zo zC (zc 0) (zc 2)) (zc 3))) (zc 4) [some (zr t),some (.ref (b0+K)),some (.int (a:Int)),some (.int (b:Int)),some (zr (S v))] C=.ok .non (C.set (b0+v) (.lst [zr (S v)])):=(ZV e1 hr (zu rfl)).trans (Q6 hr (by simp))
  refine ⟨_,_,(zG es).trans ((zG ((gw et).trans ((zG (yu ea)).trans jq))).trans jq),⟨?_,λ i hi=>?_⟩,λ A hA x=>x.set (by omega)⟩
  ·rw [getElem?_set_ne (by omega)];exact h.top
  ·by_cases q:i=v
   ·subst q;rw [getElem?_set_self hlt,decide_eq_true rfl,Bool.or_true];rfl
   ·rw [getElem?_set_ne (by omega),h.row i hi,decide_eq_false q,Bool.or_false]
theorem Sx (ht:qo t)(hK:qB t=(K:Int))(hS:∀a b,a<t.length->b<t.length->jF t K a b=S (at2 t a b).toNat)(A:Hx):
  ∃B,Zh [zr t] A=.ok (.ref (A.length+K)) B/\LB A.length K S (λ _=>true) B/\Ext A B:=by
 have n8:=ht.n8;have kb:=kx ht;have hm:=wk (m:=zF Zi (zh (zc 0) (zm))) (ρ:=[some (zr t),none,none,none,none]) (A:=A) (A1:=A) (k:=(K:Int)) ((zT (zH (zu rfl) zX)).trans ((G4 ht A).trans (by rw [hK]))) (w9 (by omega))
 rw [toNat_natCast] at hm;obtain ⟨ρ',acc,B0,e0,hρ,⟨hB,hl⟩,hacc⟩:=J5 (nl:=1) (cap:=[]) (tw:=zK 0) (ifs:=zi (.bl true)) (em:=zM (zS zm)) (N:=K)
  (I:=λ i ρ acc B=>(∃y,ρ=[y])/\(B.length=A.length+i/\Ext A B/\∀c,c<i->B[A.length+c]? =some (.lst []))/\acc=(List.range i).map λ c=>W.ref (A.length+c)) hm rfl
  (λ i ρ acc B hi ⟨⟨y,hρ⟩,⟨hl,hx,hB⟩,hacc⟩=>by
   subst hρ hacc;refine ⟨_,_,wy hi,rfl,.inl ⟨B,_,_,B++[.lst []],rfl,Yd (y:=.ref (A.length+i)) (by rw [<- hl];exact yf zX) (by rw [length_map,length_range];unfold zY;omega),⟨_,rfl⟩,⟨by rw [length_append,hl];rfl,hx.app,λ c hc=>?_⟩,by rw [range_succ,map_append];rfl⟩⟩
   by_cases q:c=i
   ·subst q;rw [<- hl];exact qH
   ·exact yg (hB c (by omega)))
  (λ ρ acc B _=>wt (by omega)) ⟨⟨none,rfl⟩,⟨rfl,Ext.refl,λ c hc=>absurd hc (not_lt_zero _)⟩,rfl⟩
 subst hacc;have e1:=wM e0;rw [hB] at e1;have l0:LB A.length K S (λ _=>false) (B0++[.lst ((List.range K).map λ c=>W.ref (A.length+c))]):=⟨by rw [<- hB];exact qH,λ i hi=>yg (hl.2 i hi)⟩
 have x0:Ext A (B0++[.lst ((List.range K).map λ c=>W.ref (A.length+c))]):=hl.1.app;generalize B0++[.lst ((List.range K).map λ c=>W.ref (A.length+c))]=C0 at e1 l0 x0;obtain ⟨ρ',B,e2,⟨f,l2,hf⟩,x2,y2,y3,y4,hρ⟩:=wL (j:=yY 0 t.length) (st:=turn (zK 2) (zq (jT (qR (mQ jb (qm (zc 0)))) (zK 3) VB) (zy))) (N:=t.length)
  (I:=λ m ρ C=>(∃f,LB A.length K S f C/\∀a b,a<m->b<t.length->f (at2 t a b).toNat=true)/\Ext A C/\∃y2 y3 y4,ρ=[some (zr t),some (.ref (A.length+K)),y2,y3,y4])
  (λ a ρ C ha ⟨⟨f,l,hf⟩,x,y2,y3,y4,hρ⟩=>by
   subst hρ;obtain ⟨ρ',B,e2,⟨f',l2,hf'⟩,x2,y3',y4',hρ⟩:=wL (j:=yY 0 t.length) (st:=turn (zK 3) VB) (N:=t.length)
    (I:=λ m ρ C=>(∃f,LB A.length K S f C/\∀a' b,(a'<a∨(a'=a/\b<m))->b<t.length->f (at2 t a' b).toNat=true)/\Ext A C/\∃y3 y4,ρ=[some (zr t),some (.ref (A.length+K)),some (.int (a:Int)),y3,y4])
    (λ b ρ C hb ⟨⟨f,l,hf⟩,x,y3,y4,hρ⟩=>by
     subst hρ;obtain ⟨C',y4',e,l',hx⟩:=Fy (x4:=y4) ht hK hS l ha hb;refine ⟨_,_,C',wy hb,(kS (ρ1:=[some (zr t),some (.ref (A.length+K)),some (.int (a:Int)),some (.int (b:Int)),y4]) (by rw [zero_add];rfl)).trans e,⟨_,l',λ a' b' h hb'=>?_⟩,hx A rfl x,_,_,rfl⟩
     by_cases q:a'=a/\b'=b
     ·rw [q.1,q.2];simp
     ·have:=hf a' b' (by omega) hb'
      simp [this])
    (λ ρ B _=>wt (by omega)) t.length 0 [some (zr t),some (.ref (A.length+K)),some (.int (a:Int)),y3,y4] C (by omega) ⟨⟨f,l,λ a' b h hb=>hf a' b (by omega) hb⟩,x,_,_,rfl⟩
   subst hρ;have hm2:=wk (len_tab (t:=t) (i:=0) (ρ:=[some (zr t),some (.ref (A.length+K)),some (.int (a:Int)),y3,y4]) (A:=C) rfl) (w9 (n:=t.length) (by omega))
   rw [toNat_natCast] at hm2;exact ⟨_,_,B,wy ha,(kS (ρ1:=[some (zr t),some (.ref (A.length+K)),some (.int (a:Int)),y3,y4]) (by rw [zero_add];rfl)).trans ((zG ((kP hm2).trans e2)).trans jq),⟨f',l2,λ a' b h hb=>hf' a' b (by omega) hb⟩,x2,_,_,_,rfl⟩)
  (λ ρ B _=>wt (by omega)) t.length 0 [some (zr t),some (.ref (A.length+K)),none,none,none] C0 (by omega) ⟨⟨_,l0,λ a b h=>absurd h (not_lt_zero _)⟩,x0,_,_,_,rfl⟩
 subst hρ;have hm3:=wk (len_tab (t:=t) (i:=0) (ρ:=[some (zr t),some (.ref (A.length+K)),none,none,none]) (A:=C0) rfl) (w9 (n:=t.length) (by omega))
 rw [toNat_natCast] at hm3;refine ⟨B,?_,⟨l2.top,λ i hi=>?_⟩,x2⟩
 ·unfold Zh Gq
  refine qY ?_;unfold V3;refine (zG (ρ1:=[some (zr t),some (.ref (A.length+K)),none,none,none]) (A1:=C0) ((qM e1).trans rfl)).trans ?_;exact (zG ((kP hm3).trans e2)).trans (qG (jd (zu rfl)))
 ·obtain ⟨a,b,ha,hb,e⟩:=Yz ht (v:=i) (by omega)
  have:=hf a b ha hb
  rw [e,toNat_natCast] at this;rw [l2.row i hi,this]
theorem L5 (ht:qo t)(s:yX t)(A:Hx):Q0 [zr t] A=.ok (.bl true) A:=by
 have kb:=kx ht;obtain ⟨K,hK⟩:=eq_ofNat_of_zero_le (show 0<=qB t by omega)
 obtain ⟨S,hS⟩:=Sn ht s K;obtain ⟨B,e,l,_⟩:=Sx ht hK hS [];refine gU (A1:=B) (kL t) rfl (qY ?_);unfold Ui;have hit:qz (zF Zh (zh (zc 0) (zm))) [some (zr t)] []=.ok ⟨λ A i=>(zO (.ref (0+K)) A).map λ ws=>ws[i]?,((List.range K).map λ i=>W.ref (0+i)).length⟩ B:=Yf ((zT (zH (zu rfl) zX)).trans e) l.top;obtain ⟨ρ',acc,B',e2,hB,hacc,_⟩:=J5 (nl:=1) (cap:=[]) (tw:=zK 0) (ifs:=zi (.bl true)) (em:=zM (mQ jb (qm (zc 0)))) (N:=K)
  (I:=λ i ρ acc C=>C=B/\acc=(List.replicate i (1:Int)).map W.int/\∃y,ρ=[y]) hit (by show ((List.range K).map _).length=K;rw [length_map,length_range])
  (λ i ρ acc C hi ⟨hC,hacc,y,hρ⟩=>by
   subst hC hacc hρ;have hr:=l.row i hi;refine ⟨.ref (0+i),[some (.ref (0+i))],RP l.top (by rw [getElem?_map,getElem?_range hi];rfl),rfl,.inl ⟨_,_,_,_,rfl,Yd (y:=.int 1) ?_ (by rw [length_map,length_replicate];unfold zY;omega),rfl,?_,_,rfl⟩⟩
   ·exact (yx (kR (w:=.ref (0+i)) (zu rfl) (by unfold zO;dsimp only;rw [show (0:Nat)+i=([]:Hx).length+i from rfl,hr]))).trans rfl
   ·rw [List.replicate_succ',map_append];rfl)
  (λ ρ acc C ⟨hC,_⟩=>by subst hC;exact Pl l.top (by rw [length_map,length_range];exact le_refl _)) ⟨rfl,rfl,_,rfl⟩
 subst hB hacc;have hne:List.replicate K (1:Int)≠[]:=by intro z;have:=congrArg List.length z;rw [length_replicate] at this;simp at this;omega
 have h1:kH (List.replicate K (1:Int))=1:=List.eq_of_mem_replicate (Ya hne);refine qG (jd ((zQ ((yx e2).trans (Xn hne)) q9).trans ?_));rw [h1];exact (JS 1 1 _).trans (by rw [decide_eq_true rfl])
noncomputable def yA:Nat->List (List Int)
 | 0=>[[0,1,2],[1,0,1],[2,1,0]]
 | 1=>[[0,1,2,2],[1,0,1,2],[2,1,0,1],[2,2,1,0]]
 | _=>[[0,1,1,2],[1,0,2,2],[1,2,0,2],[2,2,2,0]]
theorem RY (i:Nat):Y3 (yA i):=by
 have h:∀i,i<3->Y3 (yA i):=λ i hi=>by
  have c:i=0∨i=1∨i=2:=by omega
  rcases c with rfl | rfl | rfl
  ·exact ⟨Wa (by decide +kernel),[.int 0,.int 0,.int 1,.int 1],by kernel_rfl,rfl⟩
  ·exact ⟨Wa (by decide +kernel),[.int 0,.int 0,.int 1,.int 1],by kernel_rfl,rfl⟩
  ·exact ⟨Wa (by decide +kernel),[.int 0,.int 0,.int 1,.int 1],by kernel_rfl,rfl⟩
 match i with
 | 0=>exact h 0 (by decide)
 | 1=>exact h 1 (by decide)
 | n+2=>exact h 2 (by decide)
theorem Dx (s:qW n A):∃i B,ZN [.ref n] A=.ok (zr (yA i)) B/\Kn n A B:=by
 have hl:=s.lt;unfold ZN Gk;have s1:=s.ext (Ext.one (o:=.lst [zr (yA 0),zr (yA 1),zr (yA 2)]));obtain ⟨j,B,e2,hj,kn,_⟩:=Xd (ρ:=[some (.ref n),some (.ref A.length)]) s1 rfl (q9 (w:=.int 3)) (by omega) (by omega)
 have hj3:j<3:=by omega
 refine ⟨j,B,qY ?_,(Kn.ext s Ext.one).trans kn⟩;unfold V0;refine (zG (ρ1:=[some (.ref n),some (.ref A.length)]) (A1:=A++[.lst [zr (yA 0),zr (yA 1)]]) rfl).trans ?_;refine (zG (ρ1:=[some (.ref n),some (.ref A.length)]) (A1:=A++[.lst [zr (yA 0),zr (yA 1),zr (yA 2)]]) (yu (w:=.non) ?_)).trans ?_
 ·refine (ZV (y:=zr (yA 2)) (zu rfl) qH rfl).trans ((Q6 qH (by simp)).trans ?_)
  rw [set_append_right _ _ (le_refl _),sub_self]
  rfl
 refine qG (jd ((zQ (zu rfl) e2).trans (gj (kn.kp.get qH (by omega)) ?_)))
 have c:j=0∨j=1∨j=2:=by omega
 rcases c with rfl | rfl | rfl<;>rfl
end
section
variable {K a k b0:Nat}{C:Hx}{PF:jv}{S:Nat->List (List Int)}{f:Nat->Bool}{x y w:W}
theorem AX (A:Hx):jQ LS 0 [x,y] A=jw [x,y,y,.int 0] A:=by
 rw [Qo (t:=Ym jw jV) rfl];unfold Ym k8;dsimp only;exact zT (ws:=[x,y,y,.int 0]) (A1:=A) rfl
theorem AY (A:Hx):jQ LS 1 [x,y] A=jw [x,.int 0,y,y] A:=by
 rw [Qo (t:=Yl jw jV) rfl];unfold Yl k8;dsimp only;exact zT (ws:=[x,.int 0,y,y]) (A1:=A) rfl
theorem AH (A:Hx):jQ LS 2 [x,y] A=jw [x,.int 0,.int 0,y] A:=by
 rw [Qo (t:=Yk jw jV) rfl];unfold Yk k8;dsimp only;exact zT (ws:=[x,.int 0,.int 0,y]) (A1:=A) rfl
theorem Aq (A:Hx):jQ LS 3 [x,y] A=jw [x,y,y,y] A:=by
 rw [Qo (t:=Jk jw jV) rfl];unfold Jk k8;dsimp only;exact zT (ws:=[x,y,y,y]) (A1:=A) rfl
theorem An (A:Hx):jQ LS 4 [x,y] A=jw [x,y,y,y] A:=by
 rw [Qo (t:=Jm jw jV) rfl];unfold Jm k8;dsimp only;exact zT (ws:=[x,y,y,y]) (A1:=A) rfl
theorem Al (A:Hx):jQ LS 5 [x] A=jV [x] A:=by
 rw [Qo (t:=Jh jw jV) rfl];unfold Jh k8;dsimp only;exact zT (ws:=[x]) (A1:=A) rfl
theorem AU (A:Hx):jQ LS 6 [x] A=jV [x] A:=by
 rw [Qo (t:=Jg jw jV) rfl];unfold Jg k8;dsimp only;exact zT (ws:=[x]) (A1:=A) rfl
theorem DC {x0 x1 x2 x3 x4 x5 x6 x7 x8 x9 x10 x11 x12 x13 x14 x15:Option W}{l:Nat}(h1:A[1]? =some (.tab qy Pt))(m:Ex):
  zq (zZ 15 (zS (zh (j6 1 qy Pt i (PF i)) (zm)))) (zq (jI (jO yd (zc 15) (j6 1 qy Pt j (PF j)))) (zq (jI (jO yd (zc 15) (j6 1 qy Pt l (PF l)))) m)) [x0,x1,x2,x3,x4,x5,x6,x7,x8,x9,x10,x11,x12,x13,x14,x15] A=
   m [x0,x1,x2,x3,x4,x5,x6,x7,x8,x9,x10,x11,x12,x13,x14,some (.ref A.length)] (A++[.lst ([i,j,l].map λ k=>.clo k [] (PF k))]):=by
 have set_new:∀o o':O,(A++[o]).set A.length o'=A++[o']:=λ o o'=>by rw [set_append_right _ _ (le_refl _),sub_self];rfl
 refine (zG (ρ1:=[x0,x1,x2,x3,x4,x5,x6,x7,x8,x9,x10,x11,x12,x13,x14,some (.ref A.length)]) (A1:=A++[.lst [.clo i [] (PF i)]]) ((qM (yf (zH (K4 h1 i) zX))).trans rfl)).trans ?_;refine (zG (ρ1:=[x0,x1,x2,x3,x4,x5,x6,x7,x8,x9,x10,x11,x12,x13,x14,some (.ref A.length)]) (A1:=A++[.lst [.clo i [] (PF i),.clo j [] (PF j)]]) (yu (w:=.non) ?_)).trans ?_
 ·exact (ZV (zu rfl) qH (K4 (yg h1) j)).trans ((Q6 qH (by simp)).trans (by rw [set_new];rfl))
 refine zG (yu (w:=.non) ?_);exact (ZV (zu rfl) qH (K4 (yg h1) l)).trans ((Q6 qH (by simp)).trans (by rw [set_new];rfl))
theorem LB.kn (h:LB b0 K S f A)(k:Kn n A B)(hn:n<b0):LB b0 K S f B:=⟨k.kp.get h.top (by omega),λ i hi=>k.kp.get (h.row i hi) (by omega)⟩
theorem BM (s:qW n A)(h2:ρ[2]? =some (some (.ref n)))(h5:ρ[5]? =some (some (.int (K:Int))))(hK:0<K)(hK8:K<=8):
  ∃(i j k:Nat) (B:Hx) (p:Nat),ql (zV 1 [2,5] (qR (zi (.int 3))) (zK 0) (zi (.bl true)) (zM (zF jZ (zh (zc 1) (zh (zc 2) (zm)))))) ρ A=.ok (.ref p) B/\B[p]? =some (.lst [.int (i:Int),.int (j:Int),.int (k:Int)])/\i<K/\j<K/\k<K/\Kn n A B:=by
 have hm:=wk (m:=zi (.int 3)) (ρ:=ρ) (A:=A) (A1:=A) (k:=3) q9 (by decide)
 have hc:([2,5].map λ i=>(ρ[i]?).join)=[some (.ref n),some (.int (K:Int))]:=by
  simp only [map_cons,map_nil,h2,h5]
  rfl
 obtain ⟨ρ',acc,B,e,_,⟨l,hacc,hl,hb⟩,kn⟩:=J5 (nl:=1) (cap:=[2,5]) (tw:=zK 0) (ifs:=zi (.bl true)) (em:=zM (zF jZ (zh (zc 1) (zh (zc 2) (zm))))) (N:=3)
  (I:=λ i ρ acc C=>(∃y,ρ=[y,some (.ref n),some (.int (K:Int))])/\(∃l:List Nat,acc=l.map (λ (v:Nat)=>W.int (v:Int))/\l.length=i/\∀v∈l,v<K)/\Kn n A C) hm rfl
  (λ i ρ acc C hi ⟨⟨y,hρ⟩,⟨l,hacc,hl,hb⟩,kn⟩=>by
   subst hρ hacc;obtain ⟨q,C',e,hq,k',_⟩:=Xy kn.st (m:=(K:Int)) (by omega) (by omega)
   refine ⟨_,_,wy hi,rfl,.inl ⟨C,_,_,C',rfl,Yd ((zT (zH (zu rfl) (zH (zu rfl) zX))).trans e) (by rw [length_map];unfold zY;omega),⟨_,rfl⟩,⟨l++[q],by rw [map_append];rfl,by rw [length_append,hl];rfl,λ v hv=>?_⟩,kn.trans k'⟩⟩
   rcases List.mem_append.mp hv with hv | hv
   ·exact hb v hv
   ·rw [qa7.mp hv];omega)
  (λ ρ acc C _=>wt (by omega)) (by
   show (∃y,none::([2,5].map λ i=>(ρ[i]?).join)=[y,some (.ref n),some (.int (K:Int))])/\_;rw [hc];exact ⟨⟨_,rfl⟩,⟨[],rfl,rfl,λ v hv=>by cases hv⟩,⟨Kp.refl,s⟩⟩)
 subst hacc;obtain ⟨i,j,k,rfl⟩:∃i j k,l=[i,j,k]:=by
  match l,hl with
  | [i,j,k],_=>exact ⟨i,j,k,rfl⟩
 exact ⟨i,j,k,_,B.length,wM e,qH,hb i (by simp),hb j (by simp),hb k (by simp),kn.trans (Kn.ext kn.st Ext.one)⟩
noncomputable abbrev B1:Ex:=zq (YL 7 8 9 (ql (zV 1 [2,5] (qR (zi (.int 3))) (zK 0) (zi (.bl true)) (zM (zF jZ (zh (zc 1) (zh (zc 2) (zm)))))))) (zq (qw (yK (zF w8 (zh (zF Jb (zh (zc 3) (zh (zc 7) (zh (zc 8) (zh (zc 9) (zm)))))) (zh (zo zC (zo zC (zo zC (zo zC (zc 4) (zc 9)) (zi (.int 0))) (zc 7)) (zc 8)) (zm))))) (zq (qc (zi (.bl false))) (zy)) (zy)) (zy))
theorem IJ {x0 x1 x6 x7 x8 x9 x10 x11 x12 x13 x14 x15:Option W}(s:qW n A)(ht:qo t)(st:yX t)(hK:qB t=(K:Int))(hS:∀a b,a<t.length->b<t.length->jF t K a b=S (at2 t a b).toNat)(l:LB b0 K S (λ _=>true) A)(hn:n<b0):
  ∃B y7 y8 y9,B1 [x0,x1,some (.ref n),some (zr t),some (.ref (b0+K)),some (.int (K:Int)),x6,x7,x8,x9,x10,x11,x12,x13,x14,x15] A=.ok (.nx [x0,x1,some (.ref n),some (zr t),some (.ref (b0+K)),some (.int (K:Int)),x6,y7,y8,y9,x10,x11,x12,x13,x14,x15]) B/\Kn n A B:=by
 have kb:=kx ht;obtain ⟨i,j,k,B,p,e,hp,hi,hj,hk,kn⟩:=BM (ρ:=[x0,x1,some (.ref n),some (zr t),some (.ref (b0+K)),some (.int (K:Int)),x6,x7,x8,x9,x10,x11,x12,x13,x14,x15]) s rfl rfl (by omega) (by omega)
 have lB:=l.kn kn hn;obtain ⟨a,b,ha,hb,ek⟩:=Yz ht (v:=k) (by omega)
 have hSk:S k=jF t K a b:=by rw [hS a b ha hb,ek,toNat_natCast]
 have hl:(S k).length=K:=by rw [hSk];unfold jF;exact Yc
 have hr:∀r∈S k,r.length=K:=by rw [hSk];unfold jF;intro r hr;rw [Rg r hr,Yc]
 refine ⟨B,some (.int (i:Int)),some (.int (j:Int)),some (.int (k:Int)),?_,kn⟩;refine (zG (ρ1:=[x0,x1,some (.ref n),some (zr t),some (.ref (b0+K)),some (.int (K:Int)),x6,some (.int (i:Int)),some (.int (j:Int)),some (.int (k:Int)),x10,x11,x12,x13,x14,x15]) (A1:=B) (E3 e hp)).trans ?_;have ix1:zo zC (zo zC (zc 4) (zc 9)) (zi (.int 0)) [x0,x1,some (.ref n),some (zr t),some (.ref (b0+K)),some (.int (K:Int)),x6,some (.int (i:Int)),some (.int (j:Int)),some (.int (k:Int)),x10,x11,x12,x13,x14,x15] B=.ok (zr (S k)) B:=by
  have e1:=(zQ (ρ:=[x0,x1,some (.ref n),some (zr t),some (.ref (b0+K)),some (.int (K:Int)),x6,some (.int (i:Int)),some (.int (j:Int)),some (.int (k:Int)),x10,x11,x12,x13,x14,x15]) (A:=B) (zu (i:=4) rfl) (zu (i:=9) rfl)).trans (gj (s:=k) lB.top (by rw [getElem?_map,getElem?_range hk];rfl))
  exact (zQ e1 (q9 (w:=.int 0))).trans (gj (s:=0) (lB.row k hk) rfl)
 have e2:=(zQ ((zQ ix1 (zu (i:=7) rfl)).trans (gN (by omega))) (zu (i:=8) rfl)).trans (Qt (A:=B) (by rw [hr _ (yi (by omega))];exact hj))
 exact (zG ((j4 (wm (k:=true) ((zT (zH ((zT (zH (zu rfl) (zH (zu rfl) (zH (zu rfl) (zH (zu rfl) zX))))).trans (Iy ht st hK hS hi hj hk B)) (zH e2 zX))).trans (D4 _ B)))).trans jq)).trans jq
noncomputable abbrev B2:Ex:=zq (zZ 11 (zF Jf (zh (zc 3) (zm)))) (zq (qw (yK (zF w8 (zh (zc 11) (zh (zc 10) (zm))))) (zq (qc (zi (.bl false))) (zy)) (zy)) (zq (jI (jO yd (zc 11) (zi (.int 0)))) (zy)))
theorem Im {x0 x1 x2 x4 x5 x6 x7 x8 x9 x11 x12 x13 x14 x15:Option W}{p:Nat}(ht:qo t)(st:yX t)(hK:qB t=(K:Int))(hp:A[p]? =some (.lst ((we t K).map W.int))):
  ∃B y11,B2 [x0,x1,x2,some (zr t),x4,x5,x6,x7,x8,x9,some (.ref p),x11,x12,x13,x14,x15] A=.ok (.nx [x0,x1,x2,some (zr t),x4,x5,x6,x7,x8,x9,some (.ref p),y11,x12,x13,x14,x15]) B/\Ext A B:=by
 have kb:=kx ht;have hl:(we t K).length=K:=by unfold we;rw [length_map,length_range]
 refine ⟨A++[.lst ((we t K).map W.int++[.int 0])],some (.ref A.length),?_,Ext.one⟩;refine (zG (ρ1:=[x0,x1,x2,some (zr t),x4,x5,x6,x7,x8,x9,some (.ref p),some (.ref A.length),x12,x13,x14,x15]) (A1:=A++[.lst ((we t K).map W.int)]) ((qM ((zT (zH (zu rfl) zX)).trans (Dh ht st hK A))).trans rfl)).trans ?_;refine (zG ((j4 (wm (k:=true) ((zT (zH (zu rfl) (zH (zu rfl) zX))).trans (HE qH (yg hp) (by omega))))).trans jq)).trans ?_
 refine (zG (yu (w:=.non) ?_)).trans jq;refine (ZV (zu rfl) qH q9).trans ((Q6 qH (by rw [length_map];omega)).trans ?_)
 rw [set_append_right _ _ (le_refl _),sub_self]
 rfl
noncomputable abbrev BT (Pt:Addr)(PF:jv):Ex:=zq (Qb (zB (zh (zF ZM (zh (zc 2) (zm))) (zh (zF ZN (zh (zc 2) (zm))) (zm)))) (jG 12 13)) (zq (zZ 14 (zo zC (zS (zh (zc 5) (zh (jU Zv (zi (.int 1))) (zh (zi (.bl true)) (zh (zi .non) (zh (zi (.str "0")) (zh (zB (zh (zi (.int 0)) (zm))) (zh (zo Qa (zi (.int 10)) (zi (.int 29))) (zm))))))))) (zF jZ (zh (zc 2) (zh (zi (.int 7)) (zm)))))) (zq (zZ 15 (zS (zh (j6 1 qy Pt 0 (PF 0)) (zm)))) (zq (jI (jO yd (zc 15) (j6 1 qy Pt 1 (PF 1)))) (zq (jI (jO yd (zc 15) (j6 1 qy Pt 2 (PF 2)))) (zq (qw (zo qK (ql (JB 1 (qz (zc 15)) (zK 0) 0 PF (yh jw jV) RF)) (zo qO (zS (zh (zS (zh (zi (.int 3)) (zm))) (zm))) (zi (.int 3)))) (zq (qc (zi (.bl false))) (zy)) (zy)) (zq (qw (zo qK (wN (yh jw jV) PF (wR RF) (zh (j6 1 qy Pt 3 (PF 3)) (zm))) (zS (zh (zi (.int 1)) (zm)))) (zq (qc (zi (.bl false))) (zy)) (zy)) (zq (qw (zo qK (wN (yh jw jV) PF (wR RF) (zh (j6 1 qy Pt 4 (PF 4)) (zm))) (zS (zh (zi (.int 0)) (zm)))) (zq (qc (zi (.bl false))) (zy)) (zy)) (zq (qw (zo qK (wN (yh jw jV) PF (wR RF) (zh (j6 1 qy Pt 5 (PF 5)) (zm))) (zS (zh (zi (.int 1)) (zm)))) (zq (qc (zi (.bl false))) (zy)) (zy)) (zq (qw (zo qK (wN (yh jw jV) PF (wR RF) (zh (j6 1 qy Pt 6 (PF 6)) (zm))) (zS (zh (zi (.int 0)) (zm)))) (zq (qc (zi (.bl false))) (zy)) (zy)) (zy))))))))))
theorem Cf {a:Ea}{vs:List W}{k:Nat}(s:qW n A)(h0:ρ[2]? =some (some (.ref n)))(ha:a ρ A=.ok vs A)(hk:vs.length=k)(k1:0<k)(k2:k<1000):∃(w:W) (B:Hx),zo zC (zS a) (zF jZ (zh (zc 2) (zh (zi (.int (k:Int))) (zm)))) ρ A=.ok w B/\w∈vs/\Kn n A B:=by
 have e1:=yf ha;obtain ⟨j,B,e2,hj,kn,_⟩:=Xy (s.ext (Ext.one (o:=.lst vs))) (m:=(k:Int)) (by omega) (by omega)
 have hl:=s.lt;have hj':j<vs.length:=by omega
 exact ⟨vs[j],B,(zQ e1 ((zT (zH (zu h0) (zH q9 zX))).trans e2)).trans (gj (kn.kp.get qH (by omega)) (getElem?_eq_getElem hj')),getElem_mem hj',(Kn.ext s Ext.one).trans kn⟩
theorem De {x0 x1 x4 x6 x7 x8 x9 x10 x11 x12 x13 x14 x15:Option W}(s:qW n A)(h1:A[1]? =some (.tab qy Pt))(hn:1<n)(ht:qo t)(st:yX t)(hK:qB t=(K:Int)):
  ∃B y12 y13 y14 y15,BT Pt PF [x0,x1,some (.ref n),some (zr t),x4,some (.int (K:Int)),x6,x7,x8,x9,x10,x11,x12,x13,x14,x15] A=.ok (.nx [x0,x1,some (.ref n),some (zr t),x4,some (.int (K:Int)),x6,x7,x8,x9,x10,x11,y12,y13,y14,y15]) B/\Kn n A B:=by
 have kb:=kx ht;obtain ⟨bad,A1,e1,hb,k1⟩:=By s;obtain ⟨ui,A2,e2,k2⟩:=Dx k1.st;obtain ⟨od,A3,e3,m3,k3⟩:=Cf (k:=7) (ρ:=[x0,x1,some (.ref n),some (zr t),x4,some (.int (K:Int)),x6,x7,x8,x9,x10,x11,some bad,some (zr (yA ui)),x14,x15]) k2.st rfl (Cs (i:=5) (w:=.int (K:Int)) rfl A2) rfl (by decide) (by decide)
 obtain ⟨⟨ty3,h3⟩,g3⟩:=Et (N:=K) (by omega) od m3
 have k13:=(k1.trans k2).trans k3;have t3:A3[1]? =some (.tab qy Pt):=k13.kp.get h1 (by omega)
 have b3:=hb.mono ((k2.trans k3).ky k1.st);generalize hρ:([x0,x1,some (.ref n),some (zr t),x4,some (.int (K:Int)),x6,x7,x8,x9,x10,x11,some bad,some (zr (yA ui)),some od,some (.ref A3.length)]:En)=ρ4;generalize hA4:A3++[O.lst (([0,1,2]:List Nat).map λ k=>W.clo k [] (PF k))]=A4;have x34:Ext A3 A4:=⟨_,hA4.symm⟩;have z0:Ok K (.int 0):=⟨0,rfl,by omega⟩
 have r4:WE 3 A3 ρ4 [0,1,2]:=λ k hk=>by
  simp only [mem_cons,not_mem_nil,or_false] at hk;rcases hk with rfl | rfl | rfl
  ·exact ⟨_,[zr t,od],rfl,by rw [<- hρ];exact YQ rfl rfl,λ A x=>Vo ((AX A).trans (HQ ht st hK (h3 A) g3)) GL⟩
  ·exact ⟨_,[zr t,od],rfl,by rw [<- hρ];exact YQ rfl rfl,λ A x=>Vo ((AY A).trans (Hf ht st hK z0 (h3 A) g3)) GL⟩
  ·exact ⟨_,[zr t,od],rfl,by rw [<- hρ];exact YQ rfl rfl,λ A x=>Vo ((AH A).trans (HK ht st hK z0 z0 (h3 A) g3)) GL⟩
 obtain ⟨A5,e5,x5⟩:=Fw (PF:=PF) (n:=3) (c:=A3.length) (g:=3) r4 x34 (by rw [<- hA4];exact qH) (by rw [<- hρ];rfl) (by simp) rfl (by decide +kernel)
 have t5:=x5.at (x34.at t3);have x35:=x34.trans x5;obtain ⟨A6,e6,x6'⟩:=Kv (k:=3) (g:=1) (PF:=PF) (ρ:=ρ4) (A:=A5) (t:=Jk jw jV) (ws:=[zr (yA ui),od]) (x := "NotSteady") t5 rfl (by rw [<- hρ];exact YQ rfl rfl) ((Aq A5).trans (Ff (RY ui) A5)) Ua
 have x36:=x35.trans x6';obtain ⟨A7,e7,x7'⟩:=Kv (k:=4) (g:=0) (PF:=PF) (ρ:=ρ4) (A:=A6) (t:=Jm jw jV) (ws:=[bad,od]) (x := "NoTable") (x6'.at t5) rfl (by rw [<- hρ];exact YQ rfl rfl) ((An A6).trans (IM (b3.mono x36.ky))) UL
 have x37:=x36.trans x7';obtain ⟨A8,e8,x8'⟩:=Kv (k:=5) (g:=1) (PF:=PF) (ρ:=ρ4) (A:=A7) (t:=Jh jw jV) (ws:=[zr (yA ui)]) (x := "NotSteady") (x37.at t3) rfl (by rw [<- hρ];exact Vq rfl) ((Al A7).trans (F1 (RY ui) A7)) Ua
 have x38:=x37.trans x8';obtain ⟨A9,e9,x9'⟩:=Kv (k:=6) (g:=0) (PF:=PF) (ρ:=ρ4) (A:=A8) (t:=Jg jw jV) (ws:=[bad]) (x := "NoTable") (x38.at t3) rfl (by rw [<- hρ];exact Vq rfl) ((AU A8).trans (Dj (b3.mono x38.ky))) UL
 have x39:=x38.trans x9';refine ⟨A9,some bad,some (zr (yA ui)),some od,some (.ref A3.length),?_,k13.trans (Kn.ext k3.st x39)⟩;have ea:zB (zh (zF ZM (zh (zc 2) (zm))) (zh (zF ZN (zh (zc 2) (zm))) (zm))) [x0,x1,some (.ref n),some (zr t),x4,some (.int (K:Int)),x6,x7,x8,x9,x10,x11,x12,x13,x14,x15] A=.ok (.tup [bad,zr (yA ui)]) A2:=Xg (zH ((zT (zH (zu rfl) zX)).trans e1) (zH ((zT (zH (zu rfl) zX)).trans e2) zX));refine (zG (ρ1:=[x0,x1,some (.ref n),some (zr t),x4,some (.int (K:Int)),x6,x7,x8,x9,x10,x11,some bad,some (zr (yA ui)),x14,x15]) (A1:=A2) (Dg ea rfl)).trans ?_;refine (zG (ρ1:=[x0,x1,some (.ref n),some (zr t),x4,some (.int (K:Int)),x6,x7,x8,x9,x10,x11,some bad,some (zr (yA ui)),some od,x15]) (A1:=A3) ((qM e3).trans rfl)).trans ?_;refine (DC t3 _).trans ?_;rw [hρ,hA4];exact (zG ((j4 e5).trans jq)).trans ((zG ((j4 e6).trans jq)).trans ((zG ((j4 e7).trans jq)).trans ((zG ((j4 e8).trans jq)).trans ((zG ((j4 e9).trans jq)).trans jq))))
noncomputable abbrev BL (Pt:Addr)(PF:jv):Ex:=zq (zZ 2 (zF Q2 (zh (zc 0) (zh (zc 1) (zm))))) (zq (zZ 3 (zF Qi (zh (zc 2) (zm)))) (zq (zZ 4 (zF Zh (zh (zc 3) (zm)))) (zq (qw (yK (zF Q0 (zh (zc 3) (zm)))) (zq (qc (zi (.bl false))) (zy)) (zy)) (zq (zZ 5 (zF Zi (zh (zc 3) (zm)))) (zq (jT (qR (zi (.int 12))) (zK 6) B1) (zq (zZ 10 (ql (zV 1 [3] (qR (zc 5)) (zK 0) (zi (.bl true)) (zM (Qy Z3 (zo zC (zc 1) (zi (.int 0))) (zc 0)))))) (zq (jT (qR (zi (.int 2))) (zK 6) B2) (BT Pt PF))))))))
theorem E4 {x2 x3 x4 x5 x6 x7 x8 x9 x10 x11 x12 x13 x14 x15:Option W}(h0:A[0]? =some (.ro (ns.map W.int)))(h1:A[1]? =some (.tab qy Pt)):∃y2 y3 y4 y5 y6 y7 y8 y9 y10 y11 y12 y13 y14 y15 B,BL Pt PF [some (.ref 0),some (.int (i:Int)),x2,x3,x4,x5,x6,x7,x8,x9,x10,x11,x12,x13,x14,x15] A=.ok (.nx [some (.ref 0),some (.int (i:Int)),y2,y3,y4,y5,y6,y7,y8,y9,y10,y11,y12,y13,y14,y15]) B/\B[0]? =some (.ro (ns.map W.int))/\B[1]? =some (.tab qy Pt):=by
 obtain ⟨o,eS,hS0⟩:=EC h0 i;have hA:=Zl h1;have a0:=yg (u:=o) h0;have a1:=yg (u:=o) h1;generalize hn:A.length=n at *;generalize A++[o]=A1 at *;obtain ⟨t,A2,e2,ht,kn,k2,_⟩:=FG hS0;have st:=NL kn;have kb:=kx ht;obtain ⟨K,hK⟩:=eq_ofNat_of_zero_le (show 0<=qB t by omega)
 obtain ⟨S,hS⟩:=Sn ht st K;obtain ⟨A3,e3,l3,x3'⟩:=Sx ht hK hS A2;have hn2:=k2.st.lt;have k3:=k2.trans (Kn.ext k2.st x3');obtain ⟨ρ',A4,e4,k4,y6,y7,y8,y9,hρ⟩:=wL (j:=yY 0 12) (st:=turn (zK 6) B1) (N:=12) (I:=λ _ ρ B=>Kn n A3 B/\∃y6 y7 y8 y9,ρ=[some (.ref 0),some (.int (i:Int)),some (.ref n),some (zr t),some (.ref (A2.length+K)),some (.int (K:Int)),y6,y7,y8,y9,x10,x11,x12,x13,x14,x15])
  (λ q ρ B hi ⟨kq,y6,y7,y8,y9,hρ⟩=>by
   subst hρ;obtain ⟨B',z7,z8,z9,e,k'⟩:=IJ (x0:=some (.ref 0)) (x1:=some (.int (i:Int))) (x6:=some (.int (0+(q:Int)))) (x7:=y7) (x8:=y8) (x9:=y9) (x10:=x10) (x11:=x11) (x12:=x12) (x13:=x13) (x14:=x14) (x15:=x15) kq.st ht st hK hS (l3.kn kq hn2) hn2;exact ⟨_,_,B',wy hi,(kS rfl).trans e,kq.trans k',_,_,_,_,rfl⟩)
  (λ ρ B _=>wt (by omega)) 12 0 [some (.ref 0),some (.int (i:Int)),some (.ref n),some (zr t),some (.ref (A2.length+K)),some (.int (K:Int)),x6,x7,x8,x9,x10,x11,x12,x13,x14,x15] A3 (by omega) ⟨⟨Kp.refl,k3.st⟩,_,_,_,_,rfl⟩
 subst hρ;have k04:=k3.trans k4;have hm:=wk (m:=zc 5) (ρ:=[some (.ref 0),some (.int (i:Int)),some (.ref n),some (zr t),some (.ref (A2.length+K)),some (.int (K:Int)),y6,y7,y8,y9,x10,x11,x12,x13,x14,x15]) (A:=A4) (A1:=A4) (k:=(K:Int)) rfl (w9 (by omega))
 rw [toNat_natCast] at hm;have e5:=Pr (q:=3) ht hK hm rfl;obtain ⟨ρ',A6,e6,x6',y6',y11,hρ⟩:=wL (j:=yY 0 2) (st:=turn (zK 6) B2) (N:=2) (I:=λ _ ρ B=>Ext (A4++[.lst ((we t K).map W.int)]) B/\∃y6 y11,ρ=[some (.ref 0),some (.int (i:Int)),some (.ref n),some (zr t),some (.ref (A2.length+K)),some (.int (K:Int)),y6,y7,y8,y9,some (.ref A4.length),y11,x12,x13,x14,x15])
  (λ q ρ B hi ⟨x,y6,y11,hρ⟩=>by
   subst hρ;obtain ⟨B',z11,e,x'⟩:=Im (x0:=some (.ref 0)) (x1:=some (.int (i:Int))) (x2:=some (.ref n)) (x4:=some (.ref (A2.length+K))) (x5:=some (.int (K:Int))) (x6:=some (.int (0+(q:Int)))) (x7:=y7) (x8:=y8) (x9:=y9) (x11:=y11) (x12:=x12) (x13:=x13) (x14:=x14) (x15:=x15) (p:=A4.length) ht st hK (x.at qH);exact ⟨_,_,B',wy hi,(kS rfl).trans e,x.trans x',_,_,rfl⟩)
  (λ ρ B _=>wt (by omega)) 2 0 [some (.ref 0),some (.int (i:Int)),some (.ref n),some (zr t),some (.ref (A2.length+K)),some (.int (K:Int)),y6,y7,y8,y9,some (.ref A4.length),x11,x12,x13,x14,x15] (A4++[.lst ((we t K).map W.int)]) (by omega) ⟨Ext.refl,_,_,rfl⟩
 subst hρ;have k06:=k04.trans (Kn.ext k04.st (Ext.one.trans x6'));have b1:=k06.kp.get a1 (by omega)
 obtain ⟨A7,y12,y13,y14,y15,e7,k7⟩:=De (PF:=PF) (x0:=some (.ref 0)) (x1:=some (.int (i:Int))) (x4:=some (.ref (A2.length+K))) (x6:=y6') (x7:=y7) (x8:=y8) (x9:=y9) (x10:=some (.ref A4.length)) (x11:=y11) (x12:=x12) (x13:=x13) (x14:=x14) (x15:=x15) k06.st b1 (by omega) ht st hK
 have k07:=k06.trans k7;refine ⟨some (.ref n),some (zr t),some (.ref (A2.length+K)),some (.int (K:Int)),y6',y7,y8,y9,some (.ref A4.length),y11,y12,y13,y14,y15,A7,?_,k07.kp.get a0 (by omega),k07.kp.get a1 (by omega)⟩
 refine (zG (ρ1:=[some (.ref 0),some (.int (i:Int)),some (.ref n),x3,x4,x5,x6,x7,x8,x9,x10,x11,x12,x13,x14,x15]) (A1:=A1) ((qM ((zT (ws:=[.ref 0,.int i]) (A1:=A) rfl).trans eS)).trans rfl)).trans ?_;refine (zG (ρ1:=[some (.ref 0),some (.int (i:Int)),some (.ref n),some (zr t),x4,x5,x6,x7,x8,x9,x10,x11,x12,x13,x14,x15]) (A1:=A2) ((qM ((zT (ws:=[.ref n]) (A1:=A1) rfl).trans e2)).trans rfl)).trans ?_;refine (zG (ρ1:=[some (.ref 0),some (.int (i:Int)),some (.ref n),some (zr t),some (.ref (A2.length+K)),x5,x6,x7,x8,x9,x10,x11,x12,x13,x14,x15]) (A1:=A3) ((qM ((zT (zH (zu (i:=3) rfl) zX)).trans e3)).trans rfl)).trans ?_;refine (zG ((j4 (wm (k:=true) ((zT (zH (zu (i:=3) rfl) zX)).trans (L5 ht st A3)))).trans jq)).trans ?_;refine (zG (ρ1:=[some (.ref 0),some (.int (i:Int)),some (.ref n),some (zr t),some (.ref (A2.length+K)),some (.int (K:Int)),x6,x7,x8,x9,x10,x11,x12,x13,x14,x15]) (A1:=A3) ((qM ((zT (zH (zu (i:=3) rfl) zX)).trans ((G4 ht A3).trans (by rw [hK])))).trans rfl)).trans ?_
 refine (zG ((kP (wk (k:=12) q9 (by decide))).trans e4)).trans ?_
 refine (zG (ρ1:=[some (.ref 0),some (.int (i:Int)),some (.ref n),some (zr t),some (.ref (A2.length+K)),some (.int (K:Int)),y6,y7,y8,y9,some (.ref A4.length),x11,x12,x13,x14,x15]) (A1:=A4++[.lst ((we t K).map W.int)]) ((qM e5).trans rfl)).trans ?_;exact (zG ((kP (wk (k:=2) q9 (by decide))).trans e6)).trans e7
end
noncomputable def XU (Pt:Addr)(PF:jv):Fn:=qN 16 (X9 ZM Zh Zi Qi w8 Q2 Q0 jZ ZN Jb Jf jw jV RF Pt PF)
theorem Hu:RZ qy XU:=λ ns hl Pt PF=>by
 have hs:zO (.ref 0) [.ro (ns.map W.int),.tab qy Pt]=some (ns.map W.int):=rfl;have el:mQ jb (qm (zc 0)) [some (.ref 0),none,none,none,none,none,none,none,none,none,none,none,none,none,none,none] [.ro (ns.map W.int),.tab qy Pt]=.ok (.int ns.length) [.ro (ns.map W.int),.tab qy Pt]:=by
  rw [yx (kR (w:=.ref 0) (A1:=[.ro (ns.map W.int),.tab qy Pt]) (zu rfl) hs)];unfold jb;rw [length_map]
 have em:zo XS (zi (.int 1)) (zo Wr (mQ jb (qm (zc 0))) (zi (.int 6))) [some (.ref 0),none,none,none,none,none,none,none,none,none,none,none,none,none,none,none] [.ro (ns.map W.int),.tab qy Pt]=
   .ok (.int (if (if (6:Int)<ns.length then 6 else (ns.length:Int)) > 1 then (if (6:Int)<ns.length then 6 else (ns.length:Int)) else 1)) [.ro (ns.map W.int),.tab qy Pt]:=
  (zQ (q9 (w:=.int 1)) ((zQ el (q9 (w:=.int 6))).trans rfl)).trans rfl
 generalize hv:(if (if (6:Int)<ns.length then 6 else (ns.length:Int)) > 1 then (if (6:Int)<ns.length then 6 else (ns.length:Int)) else 1)=v at em;have hsm:jN v=true:=by
  have:0<=v/\v<1000:=by
   rw [<- hv]
   split<;>split<;>omega
  obtain ⟨k,rfl⟩:=eq_ofNat_of_zero_le this.1;exact UW (by omega)
 obtain ⟨ρ',B,e,_⟩:=wL (j:=yY 0 v.toNat) (st:=turn (zK 1) (BL Pt PF)) (N:=v.toNat) (I:=λ _ ρ B=>B[0]? =some (.ro (ns.map W.int))/\B[1]? =some (.tab qy Pt)/\∃y1 y2 y3 y4 y5 y6 y7 y8 y9 y10 y11 y12 y13 y14 y15,ρ=[some (.ref 0),y1,y2,y3,y4,y5,y6,y7,y8,y9,y10,y11,y12,y13,y14,y15])
  (λ i ρ B hi ⟨h0,h1,y1,y2,y3,y4,y5,y6,y7,y8,y9,y10,y11,y12,y13,y14,y15,hρ⟩=>by
   subst hρ;obtain ⟨z2,z3,z4,z5,z6,z7,z8,z9,z10,z11,z12,z13,z14,z15,B',e,h0',h1'⟩:=E4 (PF:=PF) (i:=i) (x2:=y2) (x3:=y3) (x4:=y4) (x5:=y5) (x6:=y6) (x7:=y7) (x8:=y8) (x9:=y9) (x10:=y10) (x11:=y11) (x12:=y12) (x13:=y13) (x14:=y14) (x15:=y15) h0 h1;refine ⟨_,_,B',wy hi,(kS (ρ1:=[some (.ref 0),some (.int (i:Int)),y2,y3,y4,y5,y6,y7,y8,y9,y10,y11,y12,y13,y14,y15]) ?_).trans e,h0',h1',_,_,_,_,_,_,_,_,_,_,_,_,_,_,_,rfl⟩;rw [zero_add];rfl)
  (λ ρ B _=>wt (by omega)) v.toNat 0 [some (.ref 0),none,none,none,none,none,none,none,none,none,none,none,none,none,none,none] [.ro (ns.map W.int),.tab qy Pt] (by omega) ⟨rfl,rfl,_,_,_,_,_,_,_,_,_,_,_,_,_,_,_,rfl⟩
 refine ⟨B,qY ?_⟩;unfold X9;exact (zG ((kP (wk em hsm)).trans e)).trans (qG (jd q9))
section
variable {K:Frag}
theorem O0 (Z:Zz K h mg){PG:jv}{lam:Nat->Fn}(hL:∀k,gY P w K mg base 8 (PG k) (lam k)):zN P w K mg base 9 "_law_refused" 1 ((qN 4 (JZ PG lam))):=by
 obtain ⟨f,fd,F,a⟩:=Z.T.Nc;exact (Nf (k:=8) Z.B Z.C Z.T.Bm F (mg_of Z.X Z.G a) (le_refl _) hL)
theorem Ci (Z:Zz K h mg)(F:wg K "law" "law" gu f fd)(hn:nsIn K mainGlobals "law" = some (some (.ref f)))(ht:tabIn K "law" = some (c,Pt))(hB:BMain mg base)(hC:CodeHd base c Pt):yy P w K mg base wY 10 f fd ["_law_script"] (spT K 1 (XU Pt)):=
 o_law (k:=9) (j:=7) (kk:=9) Z.B F hn ht hB hC (OQ Z).up (V7 Z).up (GH Z).up (NY Z).up (N9 Z).up (NJ Z).up (Nm Z).up (gK Z).up (OX Z).up (IQ Z).up (Ek Z).up (by decide)
  (Bs (k:=7) Z.B (λ base=>(TU Z).up) (λ base=>(SV Z).up)) (λ base PG hL=>(O0 Z hL).imp λ us A _=>Ck us A)
theorem all_mk {l:PySem.W.OpenLaw}{fa:Addr}(X:K.In h)(Gl:h.Ns mainGlobals mg)(hfa:mg "law" = some (.ref fa))(T:Tx K)(ht:∃c,tabIn K "law" = some (c,Pt)/\codeHdIn K c Pt=true):
  ∃fd:FuncData,(∀(s:Shared) (v:Value),BindsTo s fd ⟨[v],[]⟩ [("_law_script",v)])/\∀base:Heap,K.In base->base.Ns mainGlobals mg->BMain mg base->yy l.prog w K mg base wY 10 fa fd ["_law_script"] (spT K 1 (XU Pt)):=by
 obtain ⟨c,ht,hcd⟩:=ht;obtain ⟨f,fd,F,a⟩:=T.BA;have e:=hfa.symm.trans (mg_of X Gl a);cases e;obtain ⟨oc,od,kV,doc,pm,an,cdv,ct,osl,rfl,lk,hcd'⟩:=id F.ex;exact ⟨_,λ s v=>.of_eq rfl,λ base kb nb hB=>Ci (zz X Gl T) F a ht hB (codeHd_of_K kb hcd)⟩
end
end G
namespace PySem.W.Fast
def tw2682815088964223764:Nat:=0
def tw6805996898960572596:Nat:=0
def tw18106243362761370234:Nat:=0
def tw9953405499993240912:Nat:=0
def tw2713516239858249040:Nat:=0
def tw12003119113973534829:Nat:=0
def tw14498894560215268401:Nat:=0
def tw2326491884529445618:Nat:=0
def tw18388848495099294545:Nat:=0
def tw17471008256380211309:Nat:=0
def tw11795254883746614476:Nat:=0
def tw17802050468694209264:Nat:=0
def tw5143914235765776306:Nat:=0
def tw9176529473010944619:Nat:=0
def tw941151042139397035:Nat:=0
def tw5144749201671996126:Nat:=0
def tw17801909443660550674:Nat:=0
def tw8247257537115105886:Nat:=0
def tw10295356877877694958:Nat:=0
def tw6104070150970732171:Nat:=0
def tw16684591014936074696:Nat:=0
def tw4869541154774678325:Nat:=0
def tw12330597050481719566:Nat:=0
def tw16992553888271383161:Nat:=0
def tw8040279427036762368:Nat:=0
def tw14777447514514619387:Nat:=0
def tw10251682789669502604:Nat:=0
def tw17152573667797819579:Nat:=0
def tw1541204273363852497:Nat:=0
def tw3678703479920250797:Nat:=0
def tw16596229857683474340:Nat:=0
def tw4869672048763017949:Nat:=0
def tw4572922519184527304:Nat:=0
def tw6922604798044921776:Nat:=0
def tw1285656905011362738:Nat:=0
def tw6234949302814038824:Nat:=0
def tw11266748502843360914:Nat:=0
def tw3661444381143928633:Nat:=0
def tw3163108642061519304:Nat:=0
def tw15817182865943213743:Nat:=0
def tw3804448290546402836:Nat:=0
end PySem.W.Fast
open PySem PySem.W PyProof.Rows
set_option maxRecDepth 100000 in
set_option maxHeartbeats 0 in
theorem PySem.Challenge.cw_nearkinds_k04_numbers_of_steady_tables_holds : PySem.Challenge.rw_nearkinds_k04_numbers_of_steady_tables.Holds := by
 w_on;o_law;k_head;(case hw=>w_witness2)
 k_fill
 refine' Mi.BW (l:=PySem.Challenge.rw_nearkinds_k04_numbers_of_steady_tables) (k:=10) (x := "_law_script") G.Hu rfl rfl ⟨rfl,by decide,by decide⟩ (λ w h Y=>PySem.W.km_in_of Y) (λ w h Y=>PySem.W.km_tabs_of Y _ (mem_cons_self ..)) ?ht ?hKP ?F
 case ht=>exact λ p=>by kernel_rfl
 case hKP=>exact λ p=>by kernel_rfl
 case F=>
  intro w mg fa h KX Gl hmg ht;have T:G.Tx (L2.Oh KX):=by
   dsimp only [L2.Oh]
   apply G.Tx.mk<;>first | (refine' Mi.BS ?a ?l ?c ?k;(case a=>k_is);(case l=>k_is);(case c=>k_is);(case k=>k_is)) | (refine' Mi.B9 ?a;(case a=>k_is)) | k_is | kernel_rfl
  exact G.all_mk KX Gl hmg T ht
