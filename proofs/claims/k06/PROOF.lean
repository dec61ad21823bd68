import PyProof.Rows.All
import Wide.All
import OpenK.AllK
import Wide.FinOn
import Lean
import PyProof.EqAt
import PyProof.EqKinds
import PyProof.TupleCall
import OpenK.KOwn
import PyProof.Rows.FStr
import PyProof.FString
import PyProof.NsDelKeeps
import KE.KIsAll
import PyProof.ExcArgs
import KE.KLam
import KE.KNestM
import PyProof.Rows.SetFrom
import PyProof.ListMulRoad
import PyProof.FactsAll.set_1
import PyProof.FactsAll.set_2
import PyProof.CollectIter
import PyProof.TupleIter
import PyProof.CollectWalk
import PyProof.Rows.SortShell
import PyProof.SumAny
import PyProof.ListOps
import KE.KDictList
import PyProof.NoPylong
import KE.KUnpack
import PySem.Challenge.RW_nearkinds_k06_products_of_mixes
noncomputable section
open PySem.W (Frag)
open List (all_map any_cons drop_length ext_getElem? find?_cons forIn_cons forIn_nil getElem_inj length_nil length_set lookup_cons map_id map_nil mem_cons mem_filter mem_of_getElem? nil_append not_mem_nil of_mem_zip range_eq_range' set_append_right)
open Nat (le_add_right le_of_eq le_succ lt_trans sub_self succ_lt_succ zero_le zero_lt_succ)
open Int (emod_nonneg)
open Option (any_eq_true isSome_some)
open PySem.W (CodeHd callWith_K cellsFrom_some codeHdIn codeHd_of_K codeIn envX fnOf hideAll hideAll_none hideAll_size instObj keepIn kitAny kitOne kitx_bool kitx_dict kitx_float kitx_int kitx_list kitx_none kitx_str kitx_tuple kla_fn kla_obj lookIn methodObj nsIn of_hideAll plainGet tabIn tabObj)
open PySem.F (args_tuple_add_2 entry_tuple_add plain_sum_loop slot_set_iter slot_tuple_add)
abbrev aa:=@List.getD_eq_getElem?_getD
abbrev ae:=@List.getElem?_eq_getElem
abbrev af:=@PySem.Heap.get?_push_of_some
abbrev ag:=@if_pos
abbrev ah:=@List.getElem?_append_left
abbrev ai:=@List.length_map
abbrev aj:=@Bool.and_eq_true
abbrev ak:=@if_neg
abbrev ao:=@decide_eq_true_iff
abbrev aq:=@List.getElem?_append_right
abbrev ar:=@List.getElem?_map
abbrev au:=@PySem.Heap.get?_push_size
abbrev aw:=@Nat.le_refl
abbrev ax:=@List.mem_cons_of_mem
abbrev ay:=@List.length_append
abbrev az:=@Int.toNat_natCast
abbrev aA:=@Bool.false_ne_true
abbrev aB:=@Option.some.inj
abbrev aC:=@List.getElem?_eq_none
abbrev aD:=@Nat.lt_of_lt_of_le
abbrev aE:=@List.mem_cons_self
abbrev aF:=@List.size_toArray
abbrev aG:=@List.getElem?_set_self
abbrev aH:=@List.getElem?_set_ne
abbrev aI:=@PySem.Heap.lt_size
abbrev aJ:=@decide_eq_true
abbrev aK:=@decide_eq_false
abbrev aL:=@beq_iff_eq
abbrev aM:=@Nat.ne_of_lt
abbrev aN:=@List.length_range
abbrev aO:=@List.getElem?_range
abbrev aP:=@List.getElem_mem
abbrev aQ:=@List.map_map
abbrev aR:=@List.length_singleton
abbrev aS:=@Int.eq_ofNat_of_zero_le
abbrev aT:=@Array.length_toList
abbrev aU:=@List.map_append
abbrev aV:=@List.map_cons
abbrev aW:=@List.append_assoc
abbrev aX:=@PySem.W.mg_of
abbrev aY:=@Nat.lt_irrefl
abbrev aZ:=@List.map_congr_left
abbrev a3:=@List.flatten_cons
abbrev a5:=@PySem.Heap.get?_update_other
abbrev a6:=@List.mem_append_right
abbrev a7:=@PySem.W.mg_none_of
abbrev a8:=@List.replicate_succ
abbrev a9:=@PySem.Heap.get?_update_self
abbrev ba:=@Nat.lt_succ_of_lt
abbrev bb:=@List.length_cons
abbrev bc:=@Bool.false_eq_true
abbrev bf:=@PySem.Heap.size_push
abbrev bg:=@Nat.lt_succ_self
abbrev bh:=@Nat.lt_of_succ_lt_succ
abbrev bj:=@List.getElem?_replicate
abbrev bo:=@List.append_nil
abbrev bp:=@beq_self_eq_true
abbrev bq:=@Nat.not_lt_zero
abbrev br:=@Nat.le_trans
abbrev bt:=@List.length_take
abbrev bw:=@List.filterMap_cons
abbrev bx:=@List.length_replicate
abbrev bz:=@Int.zero_add
abbrev bA:=@Nat.ne_of_gt
abbrev bB:=@List.range_succ
abbrev bC:=@List.all_eq_true
abbrev bD:=@Nat.le_of_lt
abbrev bE:=@List.getElem_of_mem
abbrev bF:=@PySem.W.kia_one
abbrev bG:=@Bool.or_eq_true
abbrev bH:=@List.range'_succ
abbrev bI:=@PySem.W.hideAll_get
abbrev bJ:=@Array.getElem?_toList
abbrev bK:=@Int.emod_lt_of_pos
abbrev bL:=@List.length_drop
abbrev bM:=@List.ext_getElem
abbrev qa0:=@PySem.wpAny_bind
abbrev qa1:=@PySem.wpAny_pure
abbrev qa2:=@List.getElem?_eq_some_iff
abbrev qa3:=@List.mem_cons
abbrev qa4:=@List.all_eq_true
abbrev qa5:=@List.mem_range
abbrev qa6:=@List.mem_map
abbrev qa7:=@List.mem_singleton
abbrev qa8:=@List.mem_append
set_option Elab.async false
set_option linter.all false
set_option maxRecDepth 1000000
set_option maxHeartbeats 4000000
variable {XP:(PySem.Str->Option PySem.Value)->PySem.Heap->Prop}{D Pt a b c f:PySem.Addr}{osl:Array (Option PySem.Value)}{items:Array PySem.Value}{led:Bool}{op:PySem.CmpOp}{env:PySem.Env}{e elt iter tg:PySem.Expr}{fd:PySem.FuncData}{base h:PySem.Heap}{pins:List (PySem.Addr×PySem.Obj)}{es:List (Int×PySem.Value)}{t:List (List Int)}{cells:List (PySem.Str×PySem.Addr)}{fp φ:List PySem.Addr}{gens gs:List PySem.Comprehension}{elts ifs:List PySem.Expr}{ns:List Int}{cap:List Nat}{body:List PySem.Stmt}{N ps:List PySem.Str}{its us:List PySem.Value}{M:PySem.Model}{i j kk n t':Nat}{μ:Nat->Nat->Int}{apos cpos p pos tpos:PySem.Pos}{P:PySem.Program}{sc scope:PySem.Scope}{s s':PySem.Shared}{qual x:PySem.Str}{mg:PySem.Str->Option PySem.Value}{α:Type}{u:PySem.Value}{E Q:PySem.Value->PySem.Shared->Prop}{w:PySem.World}
namespace L2
open PySem PySem.Spec PyProof.Rows
noncomputable abbrev Key:=Sum Int Str
noncomputable def Je:Key->Value->Bool
 |.inl k,v=>Value.isInt k v|.inr x,v=>Value.isStrOf x v
noncomputable def zcc (w:World):Key->Int
 |.inl k=>hashInt k|.inr x=>hashStr w x
theorem Zu:∀{k:Key}{v:Value},Je k v=true->(∃i t,k=Sum.inl i/\v=Value.int i t)∨(∃x t,k=Sum.inr x/\v=Value.str x t)
 |.inl i,v,h=>by
  obtain⟨t,e⟩:=Value.isInt_shape (k:=i) (v:=v) h;exact .inl ⟨i,t,rfl,e⟩
 |.inr x,v,h=>by
  obtain⟨t,e⟩:=Value.isStrOf_shape (x:=x) (v:=v) h;exact .inr ⟨x,t,rfl,e⟩
theorem FJ (i:Int)(t:Tok):Je (.inl i) (.int i t)=true:=by simp[Je,Value.isInt]
theorem Fz (x:Str)(t:Tok):Je (.inr x) (.str x t)=true:=by simp[Je,Value.isStrOf]
theorem BC (a b:Int):decide ((Sum.inl a:Key)=Sum.inl b)=(a==b):=by
 by_cases e:a=b
 ·subst e;simp
 ·have h:¬(Sum.inl a:Key)=Sum.inl b:=λ q=>e (Sum.inl.inj q)
  rw[aK h];exact(beq_eq_false_iff_ne.mpr e).symm
theorem zal (a b:Str):decide ((Sum.inr a:Key)=Sum.inr b)=decide (a=b):=by
 by_cases e:a=b
 ·subst e;simp
 ·have h:¬(Sum.inr a:Key)=Sum.inr b:=λ q=>e (Sum.inr.inj q)
  rw[aK h,aK e]
theorem zas (a:Int)(b:Str):decide ((Sum.inl a:Key)=Sum.inr b)=false:=aK (λ q=>nomatch q)
theorem BV (a:Str)(b:Int):decide ((Sum.inr a:Key)=Sum.inl b)=false:=aK (λ q=>nomatch q)
def kj (prog:Program)(w:World):PySem.KeyKind prog w Key where
 is:=Je
 hash:=zcc w
 inj:=λ v a b f c=>by
  rcases Zu f with ⟨i,t,rfl,rfl⟩|⟨x,t,rfl,rfl⟩
  ·rcases Zu c with ⟨j,u,rfl,e⟩|⟨y,u,rfl,e⟩
   ·injection e with E _;rw[E]
   ·exact nomatch e
  ·rcases Zu c with ⟨j,u,rfl,e⟩|⟨y,u,rfl,e⟩
   ·exact nomatch e
   ·injection e with E _;rw[E]
 byValue:=λ k v h=>by
  rcases Zu h with ⟨i,t,rfl,rfl⟩|⟨x,t,rfl,rfl⟩<;>rfl
 pyHash:=λ H h=>by
  rcases Zu H with ⟨i,t,rfl,rfl⟩|⟨x,t,rfl,rfl⟩
  ·exact wpAny_pyHash_int h
  ·exact wpAny_pyHash_str h
 eqBool:=λ d H h=>by
  rcases Zu d with ⟨i,t,rfl,rfl⟩|⟨x,t,rfl,rfl⟩
  ·rcases Zu H with ⟨j,u,rfl,rfl⟩|⟨y,u,rfl,rfl⟩
   ·rw[BC]at h;exact wpAny_eqBool_int h
   ·rw[zas]at h;exact SeqAt.EqAt.int_str i t y u _ _ _ _ h
  ·rcases Zu H with ⟨j,u,rfl,rfl⟩|⟨y,u,rfl,rfl⟩
   ·rw[BV]at h;exact SeqAt.EqAt.str_int x t j u _ _ _ _ h
   ·rw[zal]at h;exact wpAny_eqBool_str h
 «strs»:=λ k x t v h=>by
  rcases Zu h with ⟨i,u,rfl,e⟩|⟨y,u,rfl,e⟩
  ·exact nomatch e
  ·injection e with E _
   subst E;cases v<;>rfl
theorem Ht (prog:Program)(w:World)(k:Key)(v:Value):(kj prog w).is k v=Je k v:=rfl
theorem Iq (prog:Program)(w:World)(i:Int)(t:Tok):(kj prog w).is (.inl i) (.int i t)=true:=FJ i t
theorem Io (prog:Program)(w:World)(x:Str)(t:Tok):(kj prog w).is (.inr x) (.str x t)=true:=Fz x t
inductive V where
 |non|bl (b:Bool) | int (i:Int) | str (x:Str) | byt (b:Array UInt8) | flt (b:UInt64) | ref (a:Addr) | ty (n:String)
 deriving DecidableEq
noncomputable def RelV:V->Value->Prop
 |.non,u=>u=Value.none|.bl b,u=>u=Value.bool b|.int i,u=>∃t,u=Value.int i t|.str x,u=>∃t,u=Value.str x t|.byt b,u=>∃t,u=Value.bytes b t|.flt b,u=>∃t,u=Value.float b t|.ref a,u=>u=Value.ref a|.ty n,u=>u=Value.type n
abbrev Vals:List V->List Value->Prop:=Paired RelV
theorem Vals.length {xs:List V}(r:Vals xs us):xs.length=us.length:=Paired.length r
theorem Vals.get:∀{xs:List V}{us:List Value}{i:Nat}{x:V},Vals xs us->xs[i]? =some x->∃u,us[i]? =some u/\RelV x u
 |_,_,_,_,.nil,e=>by simp at e|_,_,0,_,.cons r _,e=>by simp at e;subst e;exact⟨_,rfl,r⟩|_,_,i+1,x,.cons _ t,e=>by
  obtain⟨u,H,h⟩:=Vals.get (i:=i) (x:=x) t (by simpa using e)
  exact⟨u,by simpa using H,h⟩
theorem Vals.set {x:V}(r:RelV x u):∀{xs:List V}{us:List Value}(i:Nat),Vals xs us->Vals (xs.set i x) (us.set i u)
 |_,_,_,.nil=>.nil|_,_,0,.cons _ t=>.cons r t|_,_,i+1,.cons q t=>.cons q (Vals.set r i t)
theorem Vals.append:∀{xs ys:List V}{us ws:List Value},Vals xs us->Vals ys ws->Vals (xs++ys) (us++ws)
 |_,_,_,_,.nil,s=>s|_,_,_,_,.cons r t,s=>.cons r (Vals.append t s)
theorem Vals.take:∀{xs:List V}{us:List Value}(n:Nat),Vals xs us->Vals (xs.take n) (us.take n)
 |_,_,0,_=>.nil|_,_,_+1,.nil=>.nil|_,_,n+1,.cons r t=>.cons r (Vals.take n t)
theorem Vals.drop:∀{xs:List V}{us:List Value}(n:Nat),Vals xs us->Vals (xs.drop n) (us.drop n)
 |_,_,0,r=>r|_,_,_+1,.nil=>.nil|_,_,n+1,.cons _ t=>Vals.drop n t
theorem Vals.none_of:∀{xs:List V}{us:List Value}{i:Nat},Vals xs us->xs[i]? =none->us[i]? =none:=λ {xs us i} r e=>by
 have H:=r.length;have h:xs.length<=i:=List.getElem?_eq_none_iff.mp e;exact List.getElem?_eq_none_iff.mpr (by omega)
def Qb:Option V->Option Value->Prop
 |some v,some u=>RelV v u|none,none=>True|_,_=>False
def KV {κ:Type}:List (κ×V)->List (κ×Value)->Prop:=Paired λ (p:κ×V) (q:κ×Value)=>p.1=q.1/\RelV p.2 q.2
noncomputable def kV:Key->V
 |.inl i=>.int i|.inr x=>.str x
inductive HO where
 |lst (xs:List V)
 |tup (xs:List V)
 |dK (kvs:List (Key×V)) | dT (kvs:List (List Key×V))
 |set (S:Int->Bool) (n:Nat)
 |ins (C dx:Addr) (fs:List (Str×V))
 |own (x:Addr)
 |xd (fs:List (Str×V))
 |met (f x:Addr)
 |rng (lo hi:Int)
 |frz (o:Obj) (u:HO)
 |tbl (ps:Array Value)
 |ext (φ:Heap->Prop)
noncomputable abbrev Hp:=Addr->Option HO
noncomputable def upd (H:Hp)(a:Addr)(o:HO):Hp:=λ b=>if b=a then some o else H b
theorem jD {H:Hp}{o:HO}:upd H a o a=some o:=by unfold upd;rw[ag rfl]
theorem qj {H:Hp}{o:HO}(h:b≠a):upd H a o b=H b:=by unfold upd;rw[ak h]
theorem Yi {H:Hp}{o u:HO}(h:H a=some o)(h':H b=some u)(d:o≠u):a≠b:=by
 intro e;subst e;rw[h]at h';exact d (aB h')
theorem kC {H:Hp}{o:HO}(h:H a=some o)(h':H b=none):a≠b:=by
 intro e;subst e;rw[h]at h';cases h'
def Qz (h:Heap)(a:Addr)(items:Array Value):Prop:=∃o,h.get? a=some o/\(o.cls=.type "tuple" /\ o.dict=none)/\∃n,o.data=.seq items n
theorem Qz.tup {h:Heap}{a:Addr}{items:Array Value}(x:Qz h a items):IsTup h a items:=let ⟨o,e,c,d⟩:=x;⟨o,e,c.1,d⟩
theorem Qz.new (h:Heap)(items:Array Value):Qz (h.push { cls:=.type "tuple",data:=.seq items }) h.objs.size items:=⟨_,au h rfl,⟨rfl,rfl⟩,0,rfl⟩
section
variable (P:Program)(w:World)
def jd (H:Hp)(h:Heap)(a:Addr):HO->Prop
 |.lst xs=>xs.length<=sizeLine/\∃(its:List Value) (n:Nat),Vals xs its/\h.get? a=some { cls:=.type "list",data:=.seq its.toArray n }
 |.tup xs=>xs.length<=sizeLine/\∃its:List Value,Vals xs its/\Qz h a its.toArray|.dK kvs=>kvs.length<=sizeLine/\(a==sysModules)=false/\∃vs,KV kvs vs/\h.DictOf (kj P w) a vs|.dT kvs=>kvs.length<=sizeLine/\(a==sysModules)=false/\∃xs:List (List Key×Addr×Value),
   Paired (λ (p:List Key×V) (q:List Key×Addr×Value)=>p.1=q.1/\H q.2.1=some (.tup (p.1.map kV))/\RelV p.2 q.2.2) kvs xs/\
   ∃o e E,h.get? a=some o/\o.ExactDict/\o.data=.dict e E/\e.toList=xs.map (entryOfKey (tupleKind (kj P w)))/\(xs.map (·.1)).Nodup
 |.set S n=>h.SetOf (intKind P w) a S n|.ins C d fs=>H d=some (.own a)/\fs.length<=1000/\d≠a/\h.get? a=some (instObj C d)/\
   ∃M,h.Ns1 d M/\(∀f,Qb (fs.lookup f) (M f))/\PySem.Within M (fs.map (·.1))
 |.own _=>∃o,h.get? a=some o|.xd fs=>∃M,h.Ns1 a M/\∀f,Qb (fs.lookup f) (M f)|.rng lo i=>∃t u v,h.get? a=some { cls:=.type "range",data:=.fields #[.int lo t,.int i u,.int 1 v] }
 |.frz o u=>h.get? a=some o/\jd H h a u|.tbl ps=>h.get? a=some { cls:=.none,data:=.fields ps }|.met f x=>h.get? a=some (methodObj (.ref f) (.ref x))|.ext φ=>φ h/\(∃o,h.get? a=some o)/\∀c b:Heap,φ c->(∀o,c.get? a=some o->b.get? a=some o)->φ b
def jU (H:Hp)(h:Heap):Prop:=∀a o,H a=some o->jd P w H h a o
end
section
variable {H H':Hp}{h':Heap}{o:HO}
theorem jd.lt (x:jd P w H h a o):a<h.objs.size:=by
 cases o with
 |lst xs=>obtain⟨_,_,_,_,e⟩:=x;exact aI e|tup xs=>obtain⟨_,_,_,p⟩:=x;exact p.tup.lt|dK kvs=>obtain⟨_,_,_,_,o,_,_,e,_⟩:=x;exact aI e|dT kvs=>obtain⟨_,_,_,_,o,_,_,e,_⟩:=x;exact aI e|set S n=>obtain⟨o,_,_,_,e,_⟩:=x;exact aI e|ins C d fs=>obtain⟨_,_,_,e,_⟩:=x;exact aI e|own y=>obtain⟨_,e⟩:=x;exact aI e|xd fs=>obtain⟨_,⟨_,_,_,e,_⟩,_⟩:=x;exact aI e|rng lo i=>obtain⟨_,_,_,e⟩:=x;exact aI e|frz ob u=>obtain⟨e,_⟩:=x;exact aI e|tbl ps=>exact aI (show h.get? a=some _ from x)|met f y=>exact aI (show h.get? a=some _ from x)|ext φ=>obtain⟨_,⟨_,e⟩,_⟩:=x;exact aI e
theorem Paired.mapP {β:Type}{F G:α->β->Prop}:∀{L:List α}{l:List β},Paired F L l->(∀a b,F a b->G a b)->Paired G L l
 |_,_,.nil,_=>.nil|_,_,.cons r t,f=>.cons (f _ _ r) (Paired.mapP t f)
theorem jd.stay (x:jd P w H h a o)(k:∀b u,(b=a∨H b=some (.own a))->h.get? b=some u->h'.get? b=some u)
  (l:∀b,H b=some (.own a)->H' b=some (.own a))(j:∀b xs,H b=some (.tup xs)->H' b=some (.tup xs)):jd P w H' h' a o:=by
 induction o with
 |lst xs=>obtain⟨z,i,n,r,e⟩:=x;exact⟨z,i,n,r,k _ _ (.inl rfl) e⟩|tup xs=>obtain⟨z,i,r,ob,e,c⟩:=x;exact⟨z,i,r,ob,k _ _ (.inl rfl) e,c⟩|dK kvs=>obtain⟨z,y,vs,r,ob,E,g,e,c⟩:=x;exact⟨z,y,vs,r,ob,E,g,k _ _ (.inl rfl) e,c⟩|dT kvs=>
  obtain⟨z,y,xs,r,ob,E,g,e,c⟩:=x;exact⟨z,y,xs,Paired.mapP r λ p q z=>⟨z.1,j _ _ z.2.1,z.2.2⟩,ob,E,g,k _ _ (.inl rfl) e,c⟩
 |set S n=>obtain⟨ob,E,g,t,e,c⟩:=x;exact⟨ob,E,g,t,k _ _ (.inl rfl) e,c⟩|ins C D fs=>
  obtain⟨d,z,ne,e,M,⟨od,E,g,s,c⟩,r⟩:=x;exact⟨l _ d,z,ne,k _ _ (.inl rfl) e,M,⟨od,E,g,k _ _ (.inr d) s,c⟩,r⟩
 |own y=>obtain⟨ob,e⟩:=x;exact⟨ob,k _ _ (.inl rfl) e⟩|xd fs=>obtain⟨M,⟨od,E,g,e,c⟩,r⟩:=x;exact⟨M,⟨od,E,g,k _ _ (.inl rfl) e,c⟩,r⟩|rng lo A=>obtain⟨t,u,v,e⟩:=x;exact⟨t,u,v,k _ _ (.inl rfl) e⟩|frz ob u I=>obtain⟨e,q⟩:=x;exact⟨k _ _ (.inl rfl) e,I q⟩|tbl ps=>
  have e:h.get? a=some { cls:=.none,data:=.fields ps }:=x;show h'.get? a=some { cls:=.none,data:=.fields ps };exact k a _ (.inl rfl) e
 |met f y=>
  have e:h.get? a=some (methodObj (.ref f) (.ref y)):=x;show h'.get? a=some (methodObj (.ref f) (.ref y));exact k a _ (.inl rfl) e
 |ext φ=>obtain⟨p,⟨o,e⟩,st⟩:=x;exact⟨st _ _ p λ o q=>k _ _ (.inl rfl) q,⟨o,k _ _ (.inl rfl) e⟩,st⟩
theorem jU.lt (x:jU P w H h)(e:H a=some o):a<h.objs.size:=(x a o e).lt
theorem jU.fresh (x:jU P w H h)(e:h.objs.size<=a):H a=none:=by
 cases q:H a with
 |none=>rfl|some u=>exact absurd (aD (x.lt q) e) (aY _)
theorem jU.kept (x:jU P w H h)(k:∀b u,h.get? b=some u->h'.get? b=some u):jU P w H h':=λ a o e=>
 (x a o e).stay (λ b u _ q=>k b u q) (λ _ q=>q) λ _ _ q=>q
theorem jU.laid (x:jU P w H h)(k:∀b u,h.get? b=some u->h'.get? b=some u)(p:h.objs.size<=a)(new:jd P w (upd H a o) h' a o):jU P w (upd H a o) h':=λ b u e=>by
 have hn:=x.fresh p
 by_cases d:b=a
 ·subst d;rw[jD]at e;cases e;exact new
 ·rw[qj d]at e
  exact(x b u e).stay (λ c v _ q=>k c v q) (λ c q=>by rw[qj (kC q hn)];exact q) λ c xs q=>by rw[qj (kC q hn)];exact q
end
def Rd (H:Hp)(a:Addr)(u:HO):Prop:=H a=some u∨∃o,H a=some (.frz o u)
theorem Rd.ok {H:Hp}{u:HO}(r:Rd H a u)(x:jU P w H h):jd P w H h a u:=by
 rcases r with r|⟨o,r⟩
 ·exact x a u r
 ·obtain⟨_,q⟩:=x a _ r
  exact q
noncomputable def KY:Option HO->Prop
 |some (.lst _)=>True|some (.dK _)=>True|some (.dT _)=>True|some (.set _ _)=>True|some (.ins _ _ _)=>True|some (.ext _)=>True|_=>False
section
variable {H:Hp}{h':Heap}{x e:Addr}{o':HO}
theorem jU.write (ok:jU P w H h)(M:KY (H x))(he:e=x∨H e=some (.own x))(k:∀b u,b≠e->h.get? b=some u->h'.get? b=some u)(o:∃u,h'.get? e=some u)
  (new:jd P w (upd H x o') h' x o'):jU P w (upd H x o') h':=λ b u q=>by
 have n:∀c y,H c=some (.own y)->c≠x:=λ c y r z=>by subst z;rw[r]at M;exact M
 have N:∀c xs,H c=some (.tup xs)->c≠x:=λ c xs r z=>by subst z;rw[r]at M;exact M
 by_cases f:b=x
 ·subst f;rw[jD]at q;cases q;exact new
 ·rw[qj f]at q
  by_cases a:b=e
  ·have Q:H b=some (.own x):=by
    rcases he with z|z
    ·exact absurd (a.trans z) f
    ·rw[a];exact z
   rw[q]at Q;cases Q;obtain⟨v,g⟩:=o;exact⟨v,by rw[a];exact g⟩
  ·refine(ok b u q).stay (λ c v d r=>k c v ?_ r) (λ c r=>by rw[qj (n c b r)];exact r) λ c xs r=>by rw[qj (N c xs r)];exact r
   rcases d with rfl|d
   ·exact a
   ·rintro rfl
    rcases he with z|z
    ·exact n c b d z
    ·rw[d]at z;cases z;exact f rfl
end
structure Un (fs ex:List Addr)(H H':Hp)(h h':Heap):Prop where
 keep:∀b o,h.get? b=some o->H b=none->b∉fs->b∉ex->h'.get? b=some o
 slot:∀b o,h.get? b=some o->H b=none->b∈fs->b∉ex->∃sl,h'.get? b=some { o with slots:=sl }
 free:∀b o,h.get? b=some o->H b=none->b∉ex->H' b=none
 there:∀b o,h.get? b=some o->b∉ex->∃o',h'.get? b=some o'
 tups:∀b xs,H b=some (.tup xs)->H' b=some (.tup xs)
 frzs:∀b o u,H b=some (.frz o u)->H' b=some (.frz o u)
 tbls:∀b ps,H b=some (.tbl ps)->∃more,H' b=some (.tbl (ps++more))
section
variable {fs ex:List Addr}{H H1:Hp}{h1 h':Heap}{x e:Addr}{o:HO}
theorem Un.any (u:Un fs ex H H1 h h1){ob:Obj}(q:h.get? b=some ob)(n:H b=none)(x:b∉ex):∃s,h1.get? b=some { ob with slots:=s }:=by
 by_cases a:b∈fs
 ·exact u.slot b ob q n a x
 ·exact⟨ob.slots,u.keep b ob q n a x⟩
theorem Un.kept (k:∀b u,h.get? b=some u->h'.get? b=some u):Un fs ex H H h h':=
 ⟨λ b ob q _ _ _=>k b ob q,λ b ob q _ _ _=>⟨ob.slots,k b ob q⟩,λ _ _ _ n _=>n,λ b ob q _=>⟨ob,k b ob q⟩,λ _ _ q=>q,λ _ _ _ q=>q,λ _ ps q=>⟨#[],by rw[q];simp⟩⟩
theorem Un.refl:Un fs ex H H h h:=Un.kept λ _ _ q=>q
theorem Un.laid (k:∀b u,h.get? b=some u->h'.get? b=some u)(p:h.objs.size<=a)(hn:H a=none):Un fs ex H (upd H a o) h h' where
 keep:=λ b u q _ _ _=>k b u q
 slot:=λ b u q _ _ _=>⟨u.slots,k b u q⟩
 free:=λ b u q n _=>by rw[qj (aM (aD (aI q) p))];exact n
 there:=λ b u q _=>⟨u,k b u q⟩
 tups:=λ b xs q=>by rw[qj (kC q hn)];exact q
 frzs:=λ b u xs q=>by rw[qj (kC q hn)];exact q
 tbls:=λ b ps q=>⟨#[],by rw[qj (kC q hn),q];simp⟩
theorem Un.write (M:KY (H x))(he:e=x∨H e=some (.own x))(k:∀b u,b≠e->h.get? b=some u->h'.get? b=some u)(c:∃u,h'.get? e=some u):Un fs ex H (upd H x o) h h':=by
 have d:∀b,H b=none->b≠x:=λ b n z=>by subst z;rw[n]at M;exact M
 have f:∀b,H b=none->b≠e:=λ b n z=>by
  subst z;rcases he with r|r
  ·exact d b n r
  ·rw[n]at r;cases r
 have hm:∀b u,H b=some u->¬KY (some u)->b≠x:=λ b u q nm z=>by subst z;rw[q]at M;exact nm M
 refine⟨λ b u q n _ _=>k b u (f b n) q,λ b u q n _ _=>⟨u.slots,k b u (f b n) q⟩,λ b u q n _=>by rw[qj (d b n)];exact n,λ b u q _=>?_,
  λ b xs q=>by rw[qj (hm b _ q λ z=>z)];exact q,λ b u xs q=>by rw[qj (hm b _ q λ z=>z)];exact q,λ b ps q=>⟨#[],by rw[qj (hm b _ q λ z=>z),q];simp⟩⟩
 by_cases a:b=e
 ·subst a;exact c
 ·exact⟨u,k b u a q⟩
end
noncomputable def Xb (h:Heap)(H:Hp):List Addr:=(List.range h.objs.size).filter λ a=>(H a).isSome
def ZG (h:Heap)(H:Hp):Heap:=hideAll h (Xb h H)
theorem HS (h:Heap)(H:Hp):(ZG h H).objs.size=h.objs.size:=hideAll_size _ _
theorem Ej {H:Hp}{o:Obj}(e:h.get? b=some o)(n:H b=none):(ZG h H).get? b=some o:=
 bI _ e λ hm=>by
  have q:(H b).isSome=true:=(List.mem_filter.mp hm).2;rw[n]at q;simp at q
theorem Cb {H:Hp}{o:Obj}(e:(ZG h H).get? b=some o):h.get? b=some o/\H b=none:=by
 have E:h.get? b=some o:=of_hideAll (Xb h H) e;refine⟨E,?_⟩;cases q:H b with
 |none=>rfl|some x=>
  have hm:b∈Xb h H:=List.mem_filter.mpr ⟨qa5.mpr (aI E),by simp[q]⟩
  have z:(ZG h H).get? b=none:=hideAll_none (Xb h H) hm;rw[z]at e;cases e
structure Mod (K:Frag)(mg:Str->Option Value)(base:Heap):Prop where
 kin:K.In base
 glob:base.Ns mainGlobals mg
 blt:∃mb,base.Ns builtinsNs mb/\∀x:Str,x ≠ "__name__" -> mb x=bootBuiltins x
 nolimit:base.NoLimit
structure Cx where
 prog:Program
 w:World
 K:Frag
 mg:Str->Option Value
 base:Heap
 A:Around
 N:List Str
 s0:Shared
 H0:Hp
 env:Env
 outer:List Env
 stack:List Env
 ex:List Addr
 fn:Str->Bool
 calm:Bool
 pn:List (Addr×Obj)
 xe:Value->Shared->Prop
noncomputable def qE (l:List Env):List Addr:=l.filterMap (·.frame)
abbrev Cx.fs (X:Cx):List Addr:=qE X.outer
def YE (sc:Scope)(x:Str):Prop:=sc.names.lookup x=some .local∨sc.names.lookup x=some .cell∨sc.names.lookup x=some .free
def Loc (sc:Scope)(x:Str):Prop:=sc.names.lookup x=some .local∨sc.names.lookup x=some .cell
def Look (env:Env)(h:Heap)(m:Str->Option Value)(x:Str)(u:Value):Prop:=
 (env.kindOf x=some .local/\m x=some u)∨((env.kindOf x=some .cell∨env.kindOf x=some .free)/\∃c,env.cells.lookup x=some c/\h.IsCell c (some u))
structure Cx.Ok (X:Cx):Prop where
 mod:Mod X.K X.mg X.base
 kind:X.env.scope.kind=.function
 glob:X.env.globals=mainGlobals
 blt:X.env.builtins=builtinsNs
 above:X.s0.heap.objs.size<=X.env.locals
 inj:∀x y c,X.env.cells.lookup x=some c->X.env.cells.lookup y=some c->x=y
 has:∀x,(X.env.kindOf x=some .cell∨X.env.kindOf x=some .free)->∃c,X.env.cells.lookup x=some c
 cab:∀x c,X.fn x=true->X.env.cells.lookup x=some c->X.s0.heap.objs.size<=c
 hd:X.calm=true->X.A.handled=none
 frames:X.A.frames=some X.stack
 stk:X.stack=X.outer∨(X.stack=X.env::X.outer/\X.env.frame=some X.env.locals)
 exf:∀b∈X.ex,b≠X.env.locals/\∀x c,X.env.cells.lookup x=some c->c≠b
 bs:∀b o,X.base.get? b=some o->X.s0.heap.get? b=some o/\X.H0 b=none
 bsz:X.base.objs.size<=X.s0.heap.objs.size
 noex:∀b o,X.base.get? b=some o->b∉X.ex
 exfs:∀b∈X.ex,b∉X.fs
 funs:X.s0.heap.FunFrames X.base X.outer
 frf:∀b∈X.fs,X.H0 b=none
structure Inv (X:Cx)(pins:List (Addr×Obj))(σ:List (Option V))(H:Hp)(s:Shared):Prop where
 ok:X.Ok
 os:s.os=X.s0.os
 bare:AllBare s.gens
 base:Un X.fs X.ex X.H0 H X.s0.heap s.heap
 loc:∃m,s.heap.Ns X.env.locals m/\∀(i:Nat)(x:Str)(v:V),X.N[i]? =some x->σ[i]? =some (some v)->YE X.env.scope x->∃u,RelV v u/\Look X.env s.heap m x u
 cell:∀x c,X.env.cells.lookup x=some c->∃v,s.heap.IsCell c v
 free:H X.env.locals=none
 freeC:∀x c,X.env.cells.lookup x=some c->H c=none
 pin:∀p∈X.pn++pins,s.heap.get? p.1=some p.2/\H p.1=none/\p.1≠X.env.locals/\p.1∉X.fs/\∀v,p.2.data≠.cell v
 hok:jU X.prog X.w H s.heap
 len:σ.length=X.N.length
section
variable {X:Cx}{σ:List (Option V)}{H H':Hp}{h':Heap}
theorem Cx.Ok.nofr (ok:X.Ok){o:Obj}(e:X.base.get? b=some o):b∉X.fs:=λ h=>by
 have:=(ok.funs.mem h).1
 rw[e]at this;cases this
theorem Inv.bs (I:Inv X pins σ H s):∀b o,X.base.get? b=some o->s.heap.get? b=some o/\H b=none:=λ b o e=>
 ⟨I.base.keep b o (I.ok.bs b o e).1 (I.ok.bs b o e).2 (I.ok.nofr e) (I.ok.noex b o e),I.base.free b o (I.ok.bs b o e).1 (I.ok.bs b o e).2 (I.ok.noex b o e)⟩
theorem Inv.bk (I:Inv X pins σ H s):∀b o,X.base.get? b=some o->s.heap.get? b=some o:=λ b o e=>(I.bs b o e).1
theorem Inv.mod (I:Inv X pins σ H s):Mod X.K X.mg X.base:=I.ok.mod
theorem Inv.kIn (I:Inv X pins σ H s):X.K.In s.heap:=I.ok.mod.kin.keeps I.bk
theorem Inv.lt (I:Inv X pins σ H s):X.env.locals<s.heap.objs.size:=let ⟨_,hn,_⟩:=I.loc;hn.lt
theorem Inv.sz (I:Inv X pins σ H s):X.s0.heap.objs.size<=s.heap.objs.size:=br I.ok.above (bD I.lt)
theorem Inv.nofs (I:Inv X pins σ H s)(h:s.heap.objs.size<=a):a∉X.fs:=λ c=>by
 obtain⟨_,o,b,_⟩:=I.ok.funs.mem c;exact absurd (aD (aI b) (br I.sz h)) (aY _)
theorem Inv.cne (I:Inv X pins σ H s):∀x c,X.env.cells.lookup x=some c->c≠X.env.locals:=λ x c e z=>by
 obtain⟨v,o,b,hd⟩:=I.cell x c e;obtain⟨m,⟨o',E,p,h,a,_⟩,_⟩:=I.loc;rw[z,h]at b;cases b;rw[a]at hd;cases hd
theorem Inv.funs (I:Inv X pins σ H s):s.heap.FunFrames X.base X.outer:=by
 have all:∀(l:List Env),(∀b∈qE l,b∈X.fs)->X.s0.heap.FunFrames X.base l->s.heap.FunFrames X.base l:=by
  intro l
  induction l with
  |nil=>intro _ _;trivial|cons env r i=>
   intro c g;obtain⟨j,⟨L,o,hf,hn,f,hd⟩,d⟩:=g;have a:L∈X.fs:=c L (by unfold qE;rw[bw,hf];exact aE)
   obtain⟨S,e⟩:=I.base.slot L o f (I.ok.frf L a) a λ z=>I.ok.exfs L z a;exact⟨j,⟨L,_,hf,hn,e,hd⟩,i (λ b h=>c b (by unfold qE;rw[bw,hf];exact ax _ h)) d⟩
 exact all X.outer (λ _ h=>h) I.ok.funs
theorem Inv.stack (I:Inv X pins σ H s):s.heap.FunFrames X.base X.stack:=by
 rcases I.ok.stk with e|⟨e,hf⟩
 ·rw[e];exact I.funs
 ·rw[e]
  obtain⟨m,hn,_⟩:=I.loc;refine .cons (by rw[I.ok.kind];decide) hf hn ?_ I.funs
  exact Heap.get?_none_of_le (br I.ok.bsz I.ok.above)
theorem Inv.stkSub (I:Inv X pins σ H s):∀b∈qE X.stack,b∈X.env.locals::X.fs:=λ b h=>by
 rcases I.ok.stk with e|⟨e,hf⟩
 ·rw[e]at h;exact ax _ h
 ·rw[e]at h
  unfold qE at h;rw[bw,hf]at h;exact h
theorem Inv.stkFree (I:Inv X pins σ H s):∀b∈qE X.stack,H b=none:=λ b h=>by
 rcases qa3.mp (I.stkSub b h) with e|h
 ·rw[e];exact I.free
 ·obtain⟨_,o,a,_⟩:=I.ok.funs.mem h
  exact I.base.free b o a (I.ok.frf b h) λ z=>I.ok.exfs b z h
theorem Inv.step {g':Array GenState}{d':Drawn}{ch:List Addr}(I:Inv X pins σ H s)
  (a:∀b∈ch,(b∈X.ex∨X.s0.heap.objs.size<=b)/\b≠X.env.locals/\(∀x c,X.env.cells.lookup x=some c->c≠b)/\∀p∈X.pn++pins,p.1≠b)
  (keep:∀b o,b≠X.env.locals->b∉X.fs->b∉ch->s.heap.get? b=some o->H b=none->h'.get? b=some o)
  (slot:∀b o,b≠X.env.locals->b∈X.fs->b∉ch->s.heap.get? b=some o->H b=none->∃t,h'.get? b=some { o with slots:=t })(free:∀b o,b∉ch->s.heap.get? b=some o->H b=none->H' b=none)
  (there:∀b o,b∉ch->s.heap.get? b=some o->∃o',h'.get? b=some o')
  (tups:∀b xs,H b=some (.tup xs)->H' b=some (.tup xs))(frzs:∀b o u,H b=some (.frz o u)->H' b=some (.frz o u))(tbls:∀b ps,H b=some (.tbl ps)->∃more,H' b=some (.tbl (ps++more)))
  (ns:∀m,s.heap.Ns X.env.locals m->h'.Ns X.env.locals m)(hok:jU X.prog X.w H' h')(J:AllBare g'):
  Inv X pins σ H' { s with heap:=h',gens:=g',drawn:=d',toks:=t' }:=by
 have YB:∀b o,X.s0.heap.get? b=some o->b≠X.env.locals:=λ b o e=>aM (aD (aI e) I.ok.above);have C:∀b o,X.s0.heap.get? b=some o->b∉X.ex->b∉ch:=λ b o e h f=>by
  rcases(a b f).1 with z|z
  ·exact h z
  ·exact absurd (aD (aI e) z) (aY _)
 have cellK:∀x c,X.env.cells.lookup x=some c->∀v,s.heap.IsCell c v->h'.IsCell c v:=λ x c e v ⟨o,g,hd⟩=>by
  have N:c∉ch:=λ z=>(a c z).2.2.1 x c e rfl
  by_cases B:c∈X.fs
  ·obtain⟨t,q⟩:=slot c o (I.cne x c e) B N g (I.freeC x c e)
   exact⟨_,q,hd⟩
  ·exact⟨o,keep c o (I.cne x c e) B N g (I.freeC x c e),hd⟩
 refine⟨I.ok,I.os,J,⟨λ b o e n f h=>?_,λ b o e n f h=>?_,λ b o e n h=>?_,λ b o e h=>?_,λ b xs e=>tups b xs (I.base.tups b xs e),λ b o xs e=>frzs b o xs (I.base.frzs b o xs e),λ b ps e=>?_⟩,?_,λ x c e=>?_,?_,λ x c e=>?_,λ p A=>?_,hok,I.len⟩
 ·exact keep b o (YB b o e) f (C b o e h) (I.base.keep b o e n f h) (I.base.free b o e n h)
 ·obtain⟨t,E⟩:=I.base.slot b o e n f h
  obtain⟨S,j⟩:=slot b _ (YB b o e) f (C b o e h) E (I.base.free b o e n h);exact⟨S,j⟩
 ·obtain⟨o',E⟩:=I.base.there b o e h
  exact free b o' (C b o e h) E (I.base.free b o e n h)
 ·obtain⟨o',E⟩:=I.base.there b o e h
  exact there b o' (C b o e h) E
 ·obtain⟨m1,E⟩:=I.base.tbls b ps e
  obtain⟨m2,j⟩:=tbls b _ E;exact⟨m1++m2,by rw[j,Array.append_assoc]⟩
 ·obtain⟨m,hn,D⟩:=I.loc
  refine⟨m,ns m hn,λ i x v E j K=>?_⟩;obtain⟨u,r,l⟩:=D i x v E j K;refine⟨u,r,?_⟩;rcases l with l|⟨k,c,e,z⟩
  ·exact .inl l
  ·exact .inr ⟨k,c,e,cellK x c e _ z⟩
 ·obtain⟨v,z⟩:=I.cell x c e
  exact⟨v,cellK x c e v z⟩
 ·obtain⟨m,⟨o,_,_,g,_⟩,_⟩:=I.loc
  exact free _ o (λ z=>(a _ z).2.1 rfl) g I.free
 ·obtain⟨v,o,g,hd⟩:=I.cell x c e
  exact free c o (λ z=>(a c z).2.2.1 x c e rfl) g (I.freeC x c e)
 ·obtain⟨e,n,ne,y,d⟩:=I.pin p A
  have N:p.1∉ch:=λ z=>(a p.1 z).2.2.2 p A rfl;exact⟨keep p.1 p.2 ne y N e n,free p.1 p.2 N e n,ne,y,d⟩
theorem Inv.un (I:Inv X pins σ H s)(u:Un X.fs [] H H' s.heap h')(hok:jU X.prog X.w H' h'):Inv X pins σ H' { s with heap:=h',toks:=t' }:=by
 obtain⟨m,⟨o,f,p,c,r⟩,_⟩:=id I.loc;obtain⟨S,L⟩:=u.any c I.free (by simp)
 exact I.step (g':=s.gens) (d':=s.drawn) (ch:=[]) (λ _ z=>nomatch z) (λ b o _ a _ e n=>u.keep b o e n a (by simp)) (λ b o _ a _ e n=>u.slot b o e n a (by simp)) (λ b o _ e n=>u.free b o e n (by simp)) (λ b o _ e=>u.there b o e (by simp)) u.tups u.frzs u.tbls (λ M hm=>by
  obtain⟨o',es',E,h,d⟩:=hm;rw[c]at h;cases h;exact⟨_,es',E,L,d⟩) hok I.bare
theorem Inv.call {g':Array GenState}{d':Drawn}{ch:List Addr}(I:Inv X pins σ H s)(u:Un (qE X.stack) ch H H' s.heap h')(hok:jU X.prog X.w H' h')(i:AllBare g')
  (d:∀b∈ch,(b∈X.ex∨X.s0.heap.objs.size<=b)/\b≠X.env.locals/\(∀x c,X.env.cells.lookup x=some c->c≠b)/\∀p∈X.pn++pins,p.1≠b):
  Inv X pins σ H' { s with heap:=h',gens:=g',drawn:=d',toks:=t' }:=by
 obtain⟨m,⟨o,l,q,f,r⟩,_⟩:=id I.loc;obtain⟨S,L⟩:=u.any f I.free λ z=>(d _ z).2.1 rfl;exact I.step (ch:=ch) d (λ b o L j h e n=>u.keep b o e n (λ z=>(qa3.mp (I.stkSub b z)).elim L j) h) (λ b o _ _ h e n=>u.any e n h) (λ b o h e n=>u.free b o e n h) (λ b o h e=>u.there b o e h) u.tups u.frzs u.tbls (λ M hm=>by
  obtain⟨o',es',E,a,g⟩:=hm;rw[f]at a;cases a;exact⟨_,es',E,L,g⟩) hok i
theorem Inv.turned {it:Addr}(I:Inv X pins σ H s)(k:∀b o,b≠it->s.heap.get? b=some o->h'.get? b=some o)(hn:H it=none)(L:it≠X.env.locals)
  (i:it∈X.ex∨X.s0.heap.objs.size<=it)(g:∀x c,X.env.cells.lookup x=some c->c≠it)(f:∀p∈X.pn++pins,p.1≠it):Inv X pins σ H { s with heap:=h',toks:=t' }:=by
 have N:∀b u,H b=some u->b≠it:=λ b u e z=>by rw[z,hn]at e;cases e
 refine I.step (g':=s.gens) (d':=s.drawn) (ch:=[it]) (λ b d=>?_) (λ b o _ _ h e _=>k b o (λ z=>h (by simp[z])) e) (λ b o _ _ h e _=>⟨o.slots,k b o (λ z=>h (by simp[z])) e⟩) (λ _ _ _ _ n=>n)
  (λ b o h e=>⟨o,k b o (λ z=>h (by simp[z])) e⟩) (λ _ _ e=>e) (λ _ _ _ e=>e) (λ b ps e=>⟨#[],by rw[e];simp⟩) (λ m hm=>?_) (λ b u e=>?_) I.bare
 ·have e:b=it:=by simpa using d
  subst e;exact⟨i,L,g,f⟩
 ·obtain⟨o,E,j,a,r⟩:=hm
  exact⟨o,E,j,k _ o (Ne.symm L) a,r⟩
 ·refine(I.hok b u e).stay (λ c v h q=>k c v ?_ q) (λ _ q=>q) λ _ _ q=>q
  rcases h with z|z
  ·rw[z];exact N b u e
  ·exact N c _ z
theorem Inv.tok (I:Inv X pins σ H s)(t:Nat):Inv X pins σ H { s with toks:=t }:=I.un (h':=s.heap) (t':=t) Un.refl I.hok
theorem Inv.kept (I:Inv X pins σ H s)(k:∀b u,s.heap.get? b=some u->h'.get? b=some u):Inv X pins σ H { s with heap:=h',toks:=t' }:=I.un (Un.kept k) (I.hok.kept k)
theorem Inv.laid {o:HO}(I:Inv X pins σ H s)(k:∀b u,s.heap.get? b=some u->h'.get? b=some u)(h:s.heap.objs.size<=a)(new:jd X.prog X.w (upd H a o) h' a o):
  Inv X pins σ (upd H a o) { s with heap:=h',toks:=t' }:=I.un (Un.laid k h (I.hok.fresh h)) (I.hok.laid k h new)
theorem Inv.write {x e:Addr}{o:HO}(I:Inv X pins σ H s)(M:KY (H x))(he:e=x∨H e=some (.own x))(k:∀b u,b≠e->s.heap.get? b=some u->h'.get? b=some u)(h:∃u,h'.get? e=some u)
  (new:jd X.prog X.w (upd H x o) h' x o):Inv X pins σ (upd H x o) { s with heap:=h',toks:=t' }:=I.un (Un.write M he k h) (I.hok.write M he k h new)
theorem Inv.pins_of {P:List (Addr×Obj)}(I:Inv X pins σ H s)(h:∀p∈P,s.heap.get? p.1=some p.2/\H p.1=none/\p.1≠X.env.locals/\p.1∉X.fs/\∀v,p.2.data≠.cell v):Inv X P σ H s:=
 ⟨I.ok,I.os,I.bare,I.base,I.loc,I.cell,I.free,I.freeC,λ p a=>(qa8.mp a).elim (λ z=>I.pin p (List.mem_append_left _ z)) (h p),I.hok,I.len⟩
theorem VE (h:N.Nodup)(a:N[i]? =some x)(b:N[j]? =some x):i=j:=by
 obtain⟨c,E⟩:=qa2.mp a;obtain⟨H,e⟩:=qa2.mp b;exact(getElem_inj h).mp (E.trans e.symm)
theorem Pe {A:Around}{v:V}{Q:Unit->Shared->Prop}(I:Inv X pins σ H s)(hN:X.N.Nodup)(U:X.N[i]? =some x)(t:Loc X.env.scope x)(r:RelV v u)
  (h:∀s',Inv X pins (σ.set i (some v)) H s'->(∃a,Heap.SameBut a s.heap s'.heap/\(a=X.env.locals∨X.env.cells.lookup x=some a))->Q () s')(hf:X.fn x=true∨X.env.scope.names.lookup x=some .local:=by first|exact .inl rfl|exact .inr rfl|assumption):wpAny M A (storeName X.env x u) Q E s:=by
 obtain⟨m,hn,hl⟩:=id I.loc;have Y:(X.env.scope.kind==.class || (X.env.scope.kind==.module&&X.env.locals != X.env.globals))=false:=by rw[I.ok.kind];rfl
 have J:i < σ.length:=by rw[I.len];exact(qa2.mp U).1
 have cne:=I.cne;have tracked:∀{a:Addr}{h':Heap},(∃o,s.heap.get? a=some o/\H a=none)->Heap.SameBut a s.heap h'->jU X.prog X.w H h':=λ {a h'} ha f b ob e=>by
  obtain⟨_,_,B⟩:=ha;refine(I.hok b ob e).stay (λ c w' l q=>(f.2 c ?_).trans q) (λ _ q=>q) λ _ _ q=>q
  rintro rfl
  rcases l with rfl|l
  ·rw[B]at e;cases e
  ·rw[B]at l;cases l
 rcases t with D|D
 ·refine wpAny_storeName_local D hn (λ h' hn' f=>?_) Y
  obtain⟨oL,_,_,hoL,_⟩:=id hn;refine h _ ⟨I.ok,I.os,I.bare,⟨λ b o e n P t=>?_,λ b o e n P t=>?_,I.base.free,λ b o e t=>?_,I.base.tups,I.base.frzs,I.base.tbls⟩,⟨_,hn',λ j y v' g C e3=>?_⟩,λ y c e=>?_,I.free,I.freeC,λ p hp=>?_,tracked ⟨oL,hoL,I.free⟩ f,by simpa using I.len⟩ ⟨_,f,.inl rfl⟩
  ·exact(f.2 b (aM (aD (aI e) I.ok.above))).trans (I.base.keep b o e n P t)
  ·obtain⟨sl,g⟩:=I.base.slot b o e n P t
   exact⟨sl,(f.2 b (aM (aD (aI e) I.ok.above))).trans g⟩
  ·obtain⟨o',g⟩:=I.base.there b o e t
   exact⟨o',(f.2 b (aM (aD (aI e) I.ok.above))).trans g⟩
  ·by_cases K:j=i
   ·subst K
    rw[U]at g;cases g;rw[aG J]at C;cases C;exact⟨u,r,.inl ⟨D,by simp⟩⟩
   ·rw[aH (Ne.symm K)]at C
    obtain⟨u',r',q⟩:=hl j y v' g C e3;refine⟨u',r',?_⟩;rcases q with ⟨k,e⟩|⟨k,c,e,z⟩
    ·refine .inl ⟨k,?_⟩
     have:y≠x:=λ e=>K (VE hN g (e ▸ U))
     simp[this,e]
    ·exact .inr ⟨k,c,e,z.sameBut f (cne y c e)⟩
  ·obtain⟨w',z⟩:=I.cell y c e
   exact⟨w',z.sameBut f (cne y c e)⟩
  ·obtain⟨e,n,ne,nf,d⟩:=I.pin p hp
   exact⟨(f.2 p.1 ne).trans e,n,ne,nf,d⟩
 ·have L:X.fn x=true:=by
   rcases hf with z|z
   ·exact z
   ·rw[z]at D;cases D
  obtain⟨c,l⟩:=I.ok.has x (.inl D);obtain⟨w',z⟩:=I.cell x c l;refine wpAny_storeName_cell I.ok.kind D l z (λ h' hc' f=>?_);obtain⟨oc,T,S⟩:=id z;refine h { s with heap:=h' } ⟨I.ok,I.os,I.bare,⟨λ b o e n P t=>?_,λ b o e n P t=>?_,I.base.free,λ b o e t=>?_,I.base.tups,I.base.frzs,I.base.tbls⟩,⟨m,hn.sameBut f (Ne.symm (cne x c l)),λ j y v' g C e3=>?_⟩,λ y c' e=>?_,I.free,I.freeC,λ p hp=>?_,tracked ⟨oc,T,I.freeC x c l⟩ f,by simpa using I.len⟩ ⟨c,f,.inr l⟩
  ·exact(f.2 b (aM (aD (aI e) (I.ok.cab x c L l)))).trans (I.base.keep b o e n P t)
  ·obtain⟨sl,g⟩:=I.base.slot b o e n P t
   exact⟨sl,(f.2 b (aM (aD (aI e) (I.ok.cab x c L l)))).trans g⟩
  ·obtain⟨o',g⟩:=I.base.there b o e t
   exact⟨o',(f.2 b (aM (aD (aI e) (I.ok.cab x c L l)))).trans g⟩
  ·by_cases K:j=i
   ·subst K
    rw[U]at g;cases g;rw[aG J]at C;cases C;exact⟨u,r,.inr ⟨.inl D,c,l,hc'⟩⟩
   ·rw[aH (Ne.symm K)]at C
    obtain⟨u',r',q⟩:=hl j y v' g C e3;refine⟨u',r',?_⟩;rcases q with q|⟨k,c',e,z'⟩
    ·exact .inl q
    ·refine .inr ⟨k,c',e,z'.sameBut f ?_⟩
     rintro rfl
     exact K (VE hN g (I.ok.inj _ _ _ e l ▸ U))
  ·by_cases Z:c'=c
   ·subst Z;exact⟨_,hc'⟩
   ·obtain⟨w2,z2⟩:=I.cell y c' e
    exact⟨w2,z2.sameBut f Z⟩
  ·obtain⟨e,n,ne,nf,d⟩:=I.pin p hp
   refine⟨(f.2 p.1 ?_).trans e,n,ne,nf,d⟩;intro q;rw[q,T]at e;have q':oc=p.2:=aB e;exact d w' (by rw[<- q'];exact S)
theorem JP {A:Around}{v:V}{Q:Unit->Shared->Prop}(I:Inv X pins σ H s)(c:X.N.Nodup)(b:X.N[i]? =some x)(a:Loc X.env.scope x)(r:RelV v u)
  (h:∀s',Inv X pins (σ.set i (some v)) H s'->Q () s')(hf:X.fn x=true∨X.env.scope.names.lookup x=some .local:=by first|exact .inl rfl|exact .inr rfl|assumption):wpAny M A (storeName X.env x u) Q E s:=
 Pe I c b a r (λ s' d _=>h s' d) hf
theorem Inv.call' {ch:List Addr}(I:Inv X pins σ H s)(o:s'.os=s.os)(u:Un (qE X.stack) ch H H' s.heap s'.heap)(hok:jU X.prog X.w H' s'.heap)(g:AllBare s'.gens)
  (h:∀b∈ch,(b∈X.ex∨X.s0.heap.objs.size<=b)/\b≠X.env.locals/\(∀x c,X.env.cells.lookup x=some c->c≠b)/\∀p∈X.pn++pins,p.1≠b):Inv X pins σ H' s':=by
 obtain⟨h',g',d',t',o'⟩:=s';have e:o'=s.os:=o;subst e;exact I.call (g':=g') (t':=t') (d':=d') u hok g h
end
abbrev XK:=Value->Option Addr->Hp->Prop
noncomputable abbrev St:=List (Option V)
abbrev VK:=V->Hp->Prop
abbrev TE:=St->Hp->VK->Prop
abbrev TT:=St->Hp->(Bool->Hp->Prop)->Prop
abbrev TA:=St->Hp->(List V->Hp->Prop)->Prop
structure Ends where
 nx:St->Hp->Prop
 rt:VK
 bk:St->Hp->Prop:=λ _ _=>False
 ct:St->Hp->Prop:=λ _ _=>False
abbrev TS:=Ends->St->Hp->Prop
inductive EP (X:Cx)(pins:List (Addr×Obj))(σ:St)(Q:VK)(u:Value)(s':Shared):Prop
 |mk (v:V) (H':Hp) (I:Inv X pins σ H' s') (r:RelV v u) (q:Q v H')
def TP (X:Cx)(pins:List (Addr×Obj))(σ:St)(Q:Bool->Hp->Prop)(b:Bool)(s':Shared):Prop:=∃H,Inv X pins σ H s'/\Q b H
inductive AP (X:Cx)(pins:List (Addr×Obj))(σ:St)(Q:List V->Hp->Prop)(us:List Value)(s':Shared):Prop
 |mk (vs:List V) (H':Hp) (I:Inv X pins σ H' s') (r:Vals vs us) (q:Q vs H')
def SP (X:Cx)(pins:List (Addr×Obj))(D:Ends)(f:Flow)(s':Shared):Prop:=
 match f with
 |.next=>∃a H,Inv X pins a H s'/\D.nx a H|.brk=>∃a H,Inv X pins a H s'/\D.bk a H|.cont=>∃a H,Inv X pins a H s'/\D.ct a H|.ret u=>∃v a H,Inv X pins a H s'/\RelV v u/\D.rt v H
def PE (X:Cx)(e:Expr)(t:TE):Prop:=
 ∀(pins:List (Addr×Obj))(s:Shared)(σ:St)(H:Hp)(Q:VK),Inv X pins σ H s->t σ H Q->wpAny (model X.prog X.w) X.A (eval e X.env) (EP X pins σ Q) X.xe s
def PT (X:Cx)(e:Expr)(t:TT):Prop:=
 ∀(pins:List (Addr×Obj))(s:Shared)(σ:St)(H:Hp)(Q:Bool->Hp->Prop),Inv X pins σ H s->t σ H Q->wpAny (model X.prog X.w) X.A (isTrue e X.env (eval e X.env)) (TP X pins σ Q) X.xe s
def PW (X:Cx)(e:Expr)(t:TT):Prop:=
 ∀(whole:Sem Value)(pins:List (Addr×Obj))(s:Shared)(σ:St)(H:Hp)(Q:Bool->Hp->Prop),Inv X pins σ H s->t σ H Q->wpAny (model X.prog X.w) X.A (isTrue e X.env whole) (TP X pins σ Q) X.xe s
theorem PW.pt {X:Cx}{t:TT}(h:PW X e t):PT X e t:=h _
def PA (X:Cx)(e:List Expr)(t:TA):Prop:=
 ∀(pos:Pos)(pins:List (Addr×Obj))(s:Shared)(σ:St)(H:Hp)(Q:List V->Hp->Prop),Inv X pins σ H s->t σ H Q->wpAny (model X.prog X.w) X.A (spliced (backTo pos (starEach e X.env))) (AP X pins σ Q) X.xe s
def PS (X:Cx)(st:Stmt)(t:TS):Prop:=
 ∀(pins:List (Addr×Obj))(s:Shared)(σ:St)(H:Hp)(D:Ends),Inv X pins σ H s->t D σ H->wpAny (model X.prog X.w) X.A (exec st X.env) (SP X pins D) X.xe s
def yQ (X:Cx)(st:List Stmt)(t:TS):Prop:=
 ∀(pins:List (Addr×Obj))(s:Shared)(σ:St)(H:Hp)(D:Ends),Inv X pins σ H s->t D σ H->wpAny (model X.prog X.w) X.A (execs st X.env) (SP X pins D) X.xe s
theorem zV {t:Sem α}{Q Q':α->Shared->Prop}{A:Around}(h:wpAny M A t Q E s)(H:∀a s,Q a s->Q' a s):wpAny M A t Q' E s:=wpAny_mono h H λ _ _ x=>x
section
variable {X:Cx}
noncomputable def zcy (i:Nat):TE:=λ σ H Q=>∃v,σ[i]? =some (some v)/\Q v H
noncomputable def tC (v:V):TE:=λ _ H Q=>Q v H
theorem Nd (n:X.N[i]? =some x)(g:YE X.env.scope x)(hd:(x==("__debug__" : Str))=false:=by decide)(d:(x==("__classdict__" : Str))=false:=by decide):PE X (.Name x pos) (zcy i):=by
 intro pins s σ H Q I h;obtain⟨v,e,h⟩:=h;obtain⟨m,hn,j⟩:=I.loc;obtain⟨u,r,l⟩:=j i x v n e g;have fin:EP X pins σ Q u s:=⟨v,H,I,r,h⟩;rcases l with ⟨b,hm⟩|⟨b,c,f,a⟩
 ·exact wpAny_Name (wpAny_loadName_local I.ok.kind b hn hm fin) hd
 ·rcases b with b|b
  ·exact wpAny_Name (wpAny_loadName_cell I.ok.kind b f a fin) hd
  ·exact wpAny_Name (wpAny_loadName_free I.ok.kind b f a fin d) hd
theorem zac {i j pos}:PE X (.Constant (.int i) j pos) (tC (.int i)):=λ _ _ _ H _ I h=>wpAny_Constant_int ⟨.int i,H,I.tok _,⟨_,rfl⟩,h⟩
theorem zbl {b j pos}:PE X (.Constant (.bool b) j pos) (tC (.bl b)):=λ _ _ _ H _ I h=>Constant_bool ⟨.bl b,H,I,rfl,h⟩
theorem Ak {j pos}:PE X (.Constant .none j pos) (tC .non):=λ _ _ _ H _ I h=>Constant_none ⟨.non,H,I,rfl,h⟩
theorem AY {x j pos}:PE X (.Constant (.str x) j pos) (tC (.str x)):=λ _ _ _ H _ I h=>Calls.Constant_str ⟨.str x,H,I.tok _,⟨_,rfl⟩,h⟩
def Gl (X:Cx)(x:Str):Prop:=X.env.kindOf x=some .globalImplicit
theorem J3 {σ:St}{H:Hp}(I:Inv X pins σ H s)(g:Gl X x)(hm:X.mg x=some u)(h:Q u s)
  (hd:(x==("__debug__" : Str))=false:=by decide):wpAny (model X.prog X.w) X.A (eval (.Name x pos) X.env) Q E s:=
 Calls.Name_function_global I.ok.kind g (Calls.loadGlobal_global (by rw[I.ok.glob];exact I.mod.glob.keeps I.bk) hm h) hd
theorem Qy {σ:St}{H:Hp}(I:Inv X pins σ H s)(g:Gl X x)(hm:X.mg x=none)(v:bootBuiltins x=some u)(h:Q u s)
  (hn:x ≠ "__name__" := by decide)(hd:(x==("__debug__" : Str))=false:=by decide):wpAny (model X.prog X.w) X.A (eval (.Name x pos) X.env) Q E s:=by
 obtain⟨mb,b,a⟩:=I.mod.blt;exact Calls.Name_function_global I.ok.kind g (Calls.loadGlobal_builtin (by rw[I.ok.glob];exact I.mod.glob.keeps I.bk) hm (by rw[I.ok.blt];exact b.keeps I.bk) ((a x hn).trans v) h) hd
theorem C6 {v:V}(g:Gl X x)(hm:X.mg x=some u)(r:RelV v u)(hd:(x==("__debug__" : Str))=false:=by decide):PE X (.Name x pos) (tC v):=
 λ _ _ _ H _ I h=>J3 I g hm ⟨v,H,I,r,h⟩ hd
theorem WU {v:V}(g:Gl X x)(hm:X.mg x=none)(a:bootBuiltins x=some u)(r:RelV v u)(hn:x ≠ "__name__" := by decide)(hd:(x==("__debug__" : Str))=false:=by decide):PE X (.Name x pos) (tC v):=
 λ _ _ _ H _ I h=>Qy I g hm a ⟨v,H,I,r,h⟩ hn hd
variable {a b:Expr}{ta tb:TE}
theorem F9 (b:Expr)(h:op≠.In)(H:op≠.NotIn):behindInMarks op b=false:=by
 have E:(op==CmpOp.In)=false:=by cases op<;>first|rfl|exact absurd rfl h
 have e:(op==CmpOp.NotIn)=false:=by cases op<;>first|rfl|exact absurd rfl H
 cases b<;>simp[behindInMarks,E,e]
noncomputable def tB (t:TE):TT:=λ σ H Q=>t σ H λ x H1=>∃c,x=.bl c/\Q c H1
theorem Aj {t:TE}(h:PE X e t)(he:∀whole,isTrue e X.env whole=(do let v <- whole;standAt e.pos;holding [v] (truthy v)):=by intro _;rfl):PT X e (tB t):=by
 intro pins s σ H Q I hw;refine isTrue_plain (zV (h pins s σ H _ I hw) λ v s1 ⟨x,H1,i,r,a⟩=>?_) (he _);obtain⟨d,rfl,q⟩:=a;cases r;exact wpAny_truthy_bool ⟨H1,i,q⟩
variable {tA tB':TT}{rest:List Expr}
noncomputable def zcq (t u:TT):TT:=λ σ H Q=>t σ H λ c H1=>if c=true then u σ H1 Q else Q false H1
noncomputable def tOr (t u:TT):TT:=λ σ H Q=>t σ H λ c H1=>if c=true then Q true H1 else u σ H1 Q
noncomputable def zb9 (t:TT):TT:=λ σ H Q=>t σ H λ c H1=>Q (!c) H1
theorem pw_and1 (b:PT X a tA):PW X (.BoolOp .And [a] pos) tA:=by
 intro w pins s σ H Q I h;refine isTrue_and (zV (b pins s σ H Q I h) λ c s1 e=>?_);cases c with
 |true=>exact isTrue_and_nil e|false=>exact e
theorem pw_or1 (b:PT X a tA):PW X (.BoolOp .Or [a] pos) tA:=by
 intro w pins s σ H Q I h;refine isTrue_or (zV (b pins s σ H Q I h) λ c s1 e=>?_);cases c with
 |false=>exact isTrue_or_nil e|true=>exact e
theorem pw_and (e:PT X a tA)(d:PW X (.BoolOp .And (b::rest) pos) tB'):PW X (.BoolOp .And (a::b::rest) pos) (zcq tA tB'):=by
 intro w pins s σ H Q I h;refine isTrue_and (zV (e pins s σ H _ I h) λ c s1 ⟨H1,i,q⟩=>?_);cases c with
 |true=>exact d w pins s1 σ H1 Q i q|false=>exact⟨H1,i,q⟩
theorem pw_or (e:PT X a tA)(d:PW X (.BoolOp .Or (b::rest) pos) tB'):PW X (.BoolOp .Or (a::b::rest) pos) (tOr tA tB'):=by
 intro w pins s σ H Q I h;refine isTrue_or (zV (e pins s σ H _ I h) λ c s1 ⟨H1,i,q⟩=>?_);cases c with
 |true=>exact⟨H1,i,q⟩|false=>exact d w pins s1 σ H1 Q i q
theorem Az (b:PT X a tA):PT X (.UnaryOp .Not a pos) (zb9 tA):=by
 intro pins s σ H Q I h;exact isTrue_not (b pins s σ H (λ c H1=>Q (!c) H1) I h)
noncomputable def za6 (T t:TE):TE:=λ σ H Q=>T σ H λ x H1=>∃c,x=.bl c/\if c=true then t σ H1 Q else Q (.bl false) H1
noncomputable def zbh (t:TE):TE:=λ σ H Q=>t σ H λ x H1=>∃c,x=.bl c/\Q (.bl (!c)) H1
theorem AH {op}{t:TE}(h:PE X a t):PE X (.BoolOp op [a] pos) t:=λ pins s σ H Q I hw=>BoolOp_one (h pins s σ H Q I hw)
theorem AB (e:PE X a ta)(d:PE X (.BoolOp .And (b::rest) pos) tb):PE X (.BoolOp .And (a::b::rest) pos) (za6 ta tb):=by
 intro pins s σ H Q I h;refine BoolOp_and (zV (e pins s σ H _ I h) λ v s1 ⟨x,H1,i,r,q⟩=>?_);obtain⟨c,rfl,q⟩:=q;cases r;refine wpAny_truthy_bool ?_;cases c with
 |true=>exact d pins s1 σ H1 Q i q|false=>exact⟨.bl false,H1,i,rfl,q⟩
theorem AE (b:PE X a ta):PE X (.UnaryOp .Not a pos) (zbh ta):=by
 intro pins s σ H Q I h;refine UnaryOp_ (zV (b pins s σ H _ I h) λ v s1 ⟨x,H1,i,r,q⟩=>?_);obtain⟨c,rfl,q⟩:=q;cases r;exact not_of (wpAny_truthy_bool ⟨.bl (!c),H1,i,rfl,q⟩)
noncomputable def tIf (t:TT)(a T:TE):TE:=λ σ H Q=>t σ H λ c H1=>if c=true then a σ H1 Q else T σ H1 Q
theorem Df {c:Expr}(e:PT X c tA)(g:PE X a ta)(f:PE X b tb):PE X (.IfExp c a b pos) (tIf tA ta tb):=by
 intro pins s σ H Q I h;refine wpAny_IfExp (zV (e pins s σ H _ I h) λ d s1 ⟨H1,i,q⟩=>?_);cases d with
 |true=>exact g pins s1 σ H1 Q i q|false=>exact f pins s1 σ H1 Q i q
end
def ji (K:Frag)(H:Hp)(a:Addr)(xs:List V):Prop:=
 Rd H a (.lst xs)∨
  ∃(o:Obj) (its:Array Value) (n:Nat),K.lookup a=some o/\o.cls=.type "list" /\ o.dict=none/\o.data=.seq its n/\its.size<=sizeLine/\Vals xs its.toList
def qD (K:Frag)(H:Hp)(a:Addr)(xs:List V):Prop:=
 Rd H a (.tup xs)∨
  ∃(o:Obj) (its:Array Value) (n:Nat),K.lookup a=some o/\(o.cls=.type "tuple" /\ o.dict=none)/\o.data=.seq its n/\its.size<=sizeLine/\Vals xs its.toList
noncomputable def zb1:Value->Option V
 |.none=>some .non|.bool b=>some (.bl b)|.int i _=>some (.int i)|.str x _=>some (.str x)|.bytes b _=>some (.byt b)|.float b _=>some (.flt b)|.ref a=>some (.ref a)|.type n=>some (.ty n)|_=>none
theorem RelV.abs {x:V}(r:RelV x u):zb1 u=some x:=by
 cases x with
 |non=>cases r;rfl|bl _=>cases r;rfl|int _=>obtain⟨t,rfl⟩:=r;rfl|str _=>obtain⟨t,rfl⟩:=r;rfl|byt _=>obtain⟨t,rfl⟩:=r;rfl|flt _=>obtain⟨t,rfl⟩:=r;rfl|ref _=>cases r;rfl|ty _=>cases r;rfl
theorem RelV.inj {x y:V}(r:RelV x u)(q:RelV y u):x=y:=aB (r.abs.symm.trans q.abs)
theorem Vals.inj:∀{xs ys:List V}{us:List Value},Vals xs us->Vals ys us->xs=ys
 |_,_,_,.nil,.nil=>rfl|_,_,_,.cons r t,.cons a t'=>by rw[r.inj a,Vals.inj t t']
section
variable {X:Cx}{σ:St}{H:Hp}{xs ys:List V}
theorem ji.of {K:Frag}(h:H a=some (.lst xs)):ji K H a xs:=.inl (.inl h)
theorem qD.of {K:Frag}(h:H a=some (.tup xs)):qD K H a xs:=.inl (.inl h)
theorem Inv.list (I:Inv X pins σ H s)(h:ji X.K H a xs):∃i:List Value,Vals xs i/\PlainL s.heap a i.toArray/\xs.length<=sizeLine:=by
 rcases h with h|⟨o,i,n,c,d,hd,b,f,r⟩
 ·obtain⟨z,i,n,r,e⟩:=h.ok I.hok
  exact⟨i,r,⟨_,n,e,rfl,rfl,rfl⟩,z⟩
 ·refine⟨i.toList,r,⟨o,n,I.kIn a o c,d,hd,by simpa using b⟩,?_⟩
  have e:=r.length;simp only[aT]at e;omega
theorem Inv.tuple (I:Inv X pins σ H s)(h:qD X.K H a xs):∃i:List Value,Vals xs i/\IsTup s.heap a i.toArray/\xs.length<=sizeLine:=by
 rcases h with h|⟨o,i,n,c,d,b,f,r⟩
 ·obtain⟨z,i,r,p⟩:=h.ok I.hok
  exact⟨i,r,p.tup,z⟩
 ·refine⟨i.toList,r,⟨o,I.kIn a o c,d.1,n,by simpa using b⟩,?_⟩
  have e:=r.length;simp only[aT]at e;omega
theorem Inv.list_inj (I:Inv X pins σ H s)(h:ji X.K H a xs)(h':ji X.K H a ys):xs=ys:=by
 obtain⟨i,r,⟨o,n,e,_,_,d⟩,_⟩:=I.list h;obtain⟨its',b,⟨o',N,E,_,_,d'⟩,_⟩:=I.list h';rw[e]at E;cases E;rw[d]at d';injection d' with D _
 have:i=its':=by simpa using congrArg Array.toList D
 subst this;exact r.inj b
theorem Inv.tupleN (I:Inv X pins σ H s)(h:qD X.K H a xs):∃ob,s.heap.get? a=some ob/\ob.dict=none:=by
 rcases h with h|⟨o,i,n,b,d,g,f,r⟩
 ·obtain⟨z,i,r,o,e,c,_⟩:=h.ok I.hok
  exact⟨o,e,c.2⟩
 ·exact⟨o,I.kIn a o b,d.2⟩
theorem Inv.tuple_inj (I:Inv X pins σ H s)(h:qD X.K H a xs)(h':qD X.K H a ys):xs=ys:=by
 obtain⟨i,r,⟨o,e,_,n,d⟩,_⟩:=I.tuple h;obtain⟨its',b,⟨o',E,_,N,d'⟩,_⟩:=I.tuple h';rw[e]at E;cases E;rw[d]at d';injection d' with D _
 have:i=its':=by simpa using congrArg Array.toList D
 subst this;exact r.inj b
end
noncomputable abbrev Cx.wish (X:Cx)(E:Value->Shared->Prop):Cx:={ X with xe:=E }
noncomputable abbrev Cx.nox (X:Cx):Cx:=X.wish λ _ _=>False
theorem Cx.Ok.wish {X:Cx}(ok:X.Ok)(E:Value->Shared->Prop):(X.wish E).Ok:=
 ⟨ok.mod,ok.kind,ok.glob,ok.blt,ok.above,ok.inj,ok.has,ok.cab,ok.hd,ok.frames,ok.stk,ok.exf,ok.bs,ok.bsz,ok.noex,ok.exfs,ok.funs,ok.frf⟩
theorem Cx.Ok.unwish {X:Cx}(ok:(X.wish E).Ok):X.Ok:=
 ⟨ok.mod,ok.kind,ok.glob,ok.blt,ok.above,ok.inj,ok.has,ok.cab,ok.hd,ok.frames,ok.stk,ok.exf,ok.bs,ok.bsz,ok.noex,ok.exfs,ok.funs,ok.frf⟩
section
variable {X:Cx}{σ:St}{H:Hp}
theorem Inv.wish (I:Inv X pins σ H s)(E:Value->Shared->Prop):Inv (X.wish E) pins σ H s:=⟨I.ok.wish E,I.os,I.bare,I.base,I.loc,I.cell,I.free,I.freeC,I.pin,I.hok,I.len⟩
theorem Inv.unwish (I:Inv (X.wish E) pins σ H s):Inv X pins σ H s:=⟨I.ok.unwish,I.os,I.bare,I.base,I.loc,I.cell,I.free,I.freeC,I.pin,I.hok,I.len⟩
theorem SP.unwish {D:Ends}{f:Flow}(h:SP (X.wish E) pins D f s'):SP X pins D f s':=by
 cases f with
 |next=>obtain⟨a,H,I,q⟩:=h;exact⟨a,H,I.unwish,q⟩|brk=>obtain⟨a,H,I,q⟩:=h;exact⟨a,H,I.unwish,q⟩|cont=>obtain⟨a,H,I,q⟩:=h;exact⟨a,H,I.unwish,q⟩|ret u=>obtain⟨v,a,H,I,r,q⟩:=h;exact⟨v,a,H,I.unwish,r,q⟩
theorem PT.nox {t:TT}(h:PT X.nox e t):PT X e t:=λ pins s σ H Q I hw=>
 wpAny_mono (h pins s σ H Q (I.wish _) hw) (λ _ _ ⟨a,i,q⟩=>⟨a,i.unwish,q⟩) λ _ _ z=>False.elim z
theorem yQ.nox {st:List Stmt}{t:TS}(h:yQ X.nox st t):yQ X st t:=λ pins s σ H D I hw=>
 wpAny_mono (h pins s σ H D (I.wish _) hw) (λ _ _ q=>q.unwish) λ _ _ z=>False.elim z
end
section
variable {X:Cx}{st:Stmt}{rest:List Stmt}{t u:TS}{te:TE}
noncomputable def zbJ:TS:=λ D σ H=>D.nx σ H
noncomputable def zbY (t u:TS):TS:=λ D σ H=>t { D with nx:=u D } σ H
theorem Cm:yQ X [] zbJ:=λ _ _ σ H _ I h=>wpAny_execs_nil ⟨σ,H,I,h⟩
theorem Dy (c:PS X st t)(b:yQ X rest u):yQ X (st::rest) (zbY t u):=by
 intro pins s σ H D I h;refine wpAny_execs_cons (zV (c pins s σ H { D with nx:=u D } I h) λ f s1 q=>?_)
 cases f with
 |next=>
  obtain⟨a,d,i,q⟩:=q;exact b pins s1 a d D i q
 |ret v=>exact q|brk=>exact q|cont=>exact q
theorem Inv.quiet {σ:St}{H:Hp}(I:Inv X pins σ H s):interactive X.env=false:=by simp[interactive,I.ok.kind]
noncomputable def zbQ (t:TE):TS:=λ D σ H=>t σ H λ _ H1=>D.nx σ H1
theorem CJ (he:PE X e te)(a:swapsWith e none pos.line X.env=pure false:=by rfl):PS X (.Expr e pos) (zbQ te):=by
 intro pins s σ H D I h;exact wpAny_Expr_any (zV (he pins s σ H _ I h) λ v s1 ⟨x,H1,i,r,q⟩=>⟨σ,H1,i,q⟩) I.quiet a
noncomputable def zb0 (t:TE):TS:=λ D σ H=>t σ H D.rt
theorem AU (he:PE X e te):PS X (.Return (some e) pos) (zb0 te):=by
 intro pins s σ H D I h;exact wpAny_Return_some (zV (he pins s σ H _ I h) λ v s1 ⟨x,H1,i,r,q⟩=>⟨x,σ,H1,i,r,q⟩)
noncomputable def zcD (c:TT)(t u:TS):TS:=λ D σ H=>c σ H λ b H1=>if b=true then t D σ H1 else u D σ H1
theorem zbF {c:Expr}{a b:List Stmt}{T:TT}(e:PT X c T)(g:yQ X a t)(f:yQ X b u):PS X (.If c a b pos) (zcD T t u):=by
 intro pins s σ H D I h;refine wpAny_If (zV (e pins s σ H _ I h) λ d s1 ⟨H1,i,q⟩=>?_);cases d with
 |true=>exact g pins s1 σ H1 D i q|false=>exact f pins s1 σ H1 D i q
end
abbrev TG:=V->St->Hp->(St->Hp->Prop)->Prop
abbrev Ju:=List V->St->Hp->(St->Hp->Prop)->Prop
def PG (X:Cx)(target:Expr)(t:TG):Prop:=
 ∀(pins:List (Addr×Obj))(s:Shared)(σ:St)(H:Hp)(v:V)(u:Value)(Q:St->Hp->Prop),Inv X pins σ H s->RelV v u->t v σ H Q->
  wpAny (model X.prog X.w) X.A (assign target X.env u) (λ _ s'=>∃a h,Inv X pins a h s'/\Q a h) X.xe s
def Xj (X:Cx)(T:List Expr)(t:Ju):Prop:=
 ∀(pins:List (Addr×Obj))(s:Shared)(σ:St)(H:Hp)(vs:List V)(us:List Value)(Q:St->Hp->Prop),Inv X pins σ H s->Vals vs us->t vs σ H Q->
  wpAny (model X.prog X.w) X.A (assignInOrder ((assignEach T X.env).map (·.2)) us) (λ _ s'=>∃a h,Inv X pins a h s'/\Q a h) X.xe s
abbrev Jn:=V->V->V->Hp->(Hp->Prop)->Prop
def GY (X:Cx)(t:Jn):Prop:=
 ∀(pins:List (Addr×Obj))(s:Shared)(σ:St)(H:Hp)(o i v:V)(a I u:Value)(Q:Hp->Prop),Inv X pins σ H s->RelV o a->RelV i I->RelV v u->t o i v H Q->
  wpAny (model X.prog X.w) X.A (setItem a I u) (λ _ s'=>∃h,Inv X pins σ h s'/\Q h) X.xe s
abbrev Xf:=V->V->Hp->VK->Prop
def N5 (X:Cx)(op:Operator)(t:Xf):Prop:=
 ∀(pins:List (Addr×Obj))(s:Shared)(σ:St)(H:Hp)(x y:V)(v u:Value)(Q:VK),Inv X pins σ H s->RelV x v->RelV y u->t x y H Q->
  wpAny (model X.prog X.w) X.A (inplaceOp op v u) (EP X pins σ Q) X.xe s
section
variable {X:Cx}
noncomputable def GN (i:Nat):TG:=λ v σ H Q=>Q (σ.set i (some v)) H
theorem JS (c:X.N.Nodup)(b:X.N[i]? =some x)(a:Loc X.env.scope x)(hf:X.fn x=true∨X.env.scope.names.lookup x=some .local:=by first|exact .inl rfl|exact .inr rfl|assumption):PG X (.Name x pos) (GN i):=by
 intro pins s σ H v u Q I r h;exact wpAny_assign_Name (JP I c b a r (λ s' d=>⟨_,H,d,h⟩) hf)
noncomputable def zbX:Ju:=λ vs σ H Q=>vs=[]/\Q σ H
noncomputable def zaZ (t:TG)(u:Ju):Ju:=λ vs σ H Q=>∃v r,vs=v::r/\t v σ H λ a h=>u r a h Q
theorem VL:Xj X [] zbX:=by
 intro pins s σ H vs us Q I r h;obtain⟨e,h⟩:=h;subst e;cases r;exact assignInOrder_nil ⟨σ,H,I,h⟩
theorem JO {E:List Expr}{t:TG}{u:Ju}(f:PG X e t)(d:Xj X E u)
  (c:(assignEach (e::E) X.env).map (·.2)=assign e X.env::(assignEach E X.env).map (·.2):=by rfl):Xj X (e::E) (zaZ t u):=by
 intro pins s σ H vs us Q I r h;obtain⟨v,j,g,h⟩:=h;subst g;cases r with
 |cons r b=>
  rw[c];refine assignInOrder_cons (zV (f pins s σ H _ _ _ I r h) λ _ s1 ⟨a,H1,i,q⟩=>?_);exact d pins s1 a H1 _ _ Q i b q
noncomputable def yi (K:Frag)(n:Nat)(t:Ju):TG:=λ v σ H Q=>∃a xs,v=.ref a/\qD K H a xs/\xs.length=n/\t xs σ H Q
theorem V1 {E:List Expr}{k:Nat}{t:Ju}(g:X.calm=true)(h:Xj X E t)
  (hn:(assignEach E X.env).length=n:=by rfl)(c:(assignEach E X.env).findIdx? (·.1)=none:=by rfl):PG X (.Tuple E k pos) (yi X.K n t):=by
 intro pins s σ H v u Q I r hw;obtain⟨a,xs,j,q,l,hw⟩:=hw;subst j;cases r;obtain⟨i,d,f,z⟩:=I.tuple q;refine assign_Tuple_tuple (I.ok.hd g) f (by simp[hn,<- l,d.length]) c λ h' x=>?_
 have p:Inv X pins σ H { s with heap:=h' }:=I.kept (t':=s.toks) λ b o e=>x b o (aM (aI e)) e
 exact h pins _ σ H xs _ Q p (by simpa using d) hw
noncomputable def wy (to ti:TE)(t:Jn):TG:=λ v σ H Q=>to σ H λ o H1=>ti σ H1 λ i a=>t o i v a λ h=>Q σ h
theorem AZ {o i:Expr}{to ti:TE}{t:Jn}(f:PE X o to)(g:PE X i ti)(e:GY X t)
  (j:∀v,assign (.Subscript o i pos) X.env v=(do
   let ov <- holding [v] (eval o X.env)
   let iv <- holding [v,ov] (eval i X.env)
   standAt pos
   holding [v,ov,iv] (setItem ov iv v)
   release [v,ov,iv] []):=by intro _;rfl):PG X (.Subscript o i pos) (wy to ti t):=by
 intro pins s σ H v u Q I r h;rw[j];refine qa0 (wpAny_holding (zV (f pins s σ H _ I h) λ ov s1 ⟨x,H1,p,b,d⟩=>?_));refine qa0 (wpAny_holding (zV (g pins s1 σ H1 _ p d) λ iv s2 ⟨y,z,n,a,c⟩=>?_));refine qa0 (wpAny_standAt (qa0 (wpAny_holding (zV (e pins s2 σ z x y v ov iv u _ n b a r c) λ _ s3 ⟨w,l,q⟩=>?_))));exact wpAny_release ⟨σ,w,l,q⟩
noncomputable def GW (t:TE)(g:TG):TS:=λ D σ H=>t σ H λ x H1=>g x σ H1 D.nx
theorem O1 {t:TE}{g:TG}(he:PE X e t)(b:PG X tg g)(a:swapsWithSole [tg] e pos.line X.env=pure false:=by rfl)(hw:swappedStores [tg] e X.env=pure none:=by rfl)
  (c:(assignEach [tg] X.env).map (·.2)=[assign tg X.env]:=by rfl):PS X (.Assign [tg] e pos) (GW t g):=by
 intro pins s σ H D I h;refine wpAny_Assign_stores (zV (he pins s σ H _ I h) λ v s1 ⟨x,H1,i,r,Q⟩=>?_) a hw;rw[c];exact zV (b pins s1 σ H1 x v _ i r Q) λ _ s2 q=>q
theorem zaz {t:TE}{pos':Pos}(d:X.N.Nodup)(c:X.N[i]? =some x)(a:Loc X.env.scope x)(he:PE X e t)(b:swapsWith e (some (.Name x pos')) pos.line X.env=pure false:=by rfl)(hf:X.fn x=true∨X.env.scope.names.lookup x=some .local:=by first|exact .inl rfl|exact .inr rfl|assumption):
  PS X (.Assign [.Name x pos'] e pos) (GW t (GN i)):=by
 intro pins s σ H D I h;refine wpAny_Assign_Name (zV (he pins s σ H _ I h) λ v s1 ⟨y,H1,g,r,q⟩=>?_) b;exact JP g d c a r (λ s2 f=>⟨_,H1,f,q⟩) hf
noncomputable def zbW (i j:Nat)(t:TA):TS:=λ D σ H=>t σ H λ vs H1=>∃v w,vs=[v,w]/\D.nx ((σ.set i (some v)).set j (some w)) H1
theorem AV {y:Str}{a b:Expr}{t:TA}{P py pt:Pos}{kt k2 pt2}(M:X.calm=true)(l:X.N.Nodup)(L:X.N[i]? =some x)(K:X.N[j]? =some y)(d:i≠j)
  (g:X.env.scope.names.lookup x=some .local)(f:X.env.scope.names.lookup y=some .local)(S:PA X [a,b] t)
  (hw:swappedStores [.Tuple [.Name x P,.Name y py] kt pt] (.Tuple [a,b] k2 pt2) X.env=pure (some [x,y]))
  (J:swapsWithSole [.Tuple [.Name x P,.Name y py] kt pt] (.Tuple [a,b] k2 pt2) pos.line X.env=pure false:=by rfl):
  PS X (.Assign [.Tuple [.Name x P,.Name y py] kt pt] (.Tuple [a,b] k2 pt2) pos) (zbW i j t):=by
 intro pins s σ H D I h;rw[exec_Assign_arm];refine qa0 (wpAny_standAt ?_);rw[J];refine qa0 (qa1 ?_);rw[ak (by decide)]
 refine qa0 (Tuple_ (zV (S _ pins s σ H _ I h) λ us s1 ⟨vs,H1,I1,B,Q⟩=>?_));obtain⟨v,w,T,Q⟩:=Q;subst T;obtain⟨U,u,rfl,z,r⟩:∃U u,us=[U,u]/\RelV v U/\RelV w u:=by
  cases B with
  |cons p q=>
   cases q with
   |cons E C=>
    cases C;exact⟨_,_,rfl,p,E⟩
 refine wpAny_newObj_type ?_ (by show 2<=sizeLine;decide)
 have I2:Inv X pins σ H1 { s1 with heap:=s1.heap.push { cls:=.type "tuple",data:=.seq [U,u].toArray } }:=I1.kept (t':=s1.toks) λ b o e=>af _ e
 rw[hw];refine qa0 (qa1 ?_);show wpAny (model X.prog X.w) X.A (do rule "assign.swapped-stores";let items <- unpackItems (.ref s1.heap.objs.size) 2 none;assignInOrder [λ v=>bindName X.env y v,λ v=>bindName X.env x v] items.reverse;pure Flow.next) _ _ _
 refine qa0 (wpAny_rule (qa0 (unpackItems_tuple (items:=#[U,u]) (I.ok.hd M) (IsTup.new s1.heap _) λ h' c=>?_)));have Z:=I2.kept (h':=h') (t':=s1.toks) λ b o e=>c b o (aM (aI e)) e;show wpAny _ _ (assignInOrder [λ v=>bindName X.env y v,λ v=>bindName X.env x v] [u,U] >>= λ _=>pure Flow.next) _ _ _;refine qa0 (assignInOrder_cons (wpAny_bindName (JP Z l K (.inl f) r (λ s2 Y=>?_) (.inr f))));refine assignInOrder_cons (wpAny_bindName (JP Y l L (.inl g) z (λ s3 n=>assignInOrder_nil (qa1 ?_)) (.inr g)));rw[List.set_comm _ _ (Ne.symm d)]at n;exact⟨_,H1,n,Q⟩
noncomputable def zbc (to ti e:TE)(T:V->V->Hp->VK->Prop)(p:Xf)(t:Jn):TS:=λ D σ H=>to σ H λ o H1=>ti σ H1 λ i d=>T o i d λ x c=>e σ c λ y b=>p x y b λ z a=>t o i z a λ h=>D.nx σ h
def NT (X:Cx)(t:V->V->Hp->VK->Prop):Prop:=
 ∀(pins:List (Addr×Obj))(s:Shared)(σ:St)(H:Hp)(o i:V)(v I:Value)(Q:VK),Inv X pins σ H s->RelV o v->RelV i I->t o i H Q->
  wpAny (model X.prog X.w) X.A (getItem v I) (EP X pins σ Q) X.xe s
theorem C1 {o i:Expr}{to ti c:TE}{T:V->V->Hp->VK->Prop}{p:Xf}{t:Jn}{op:Operator}(z:PE X o to)(A:PE X i ti)(B:NT X T)(he:PE X e c)(y:N5 X op p)(x:GY X t)
  (C:∀a b new,augStore i a b new=(do holding [new,a,b] (setItem a b new);release [new,a,b] [];pure .next):=by intros;rfl):PS X (.AugAssign (.Subscript o i tpos) op e pos) (zbc to ti c T p t):=by
 intro pins s σ H D I h;refine wpAny_AugAssign_SubscriptAny (zV (z pins s σ H _ I h) λ a s1 ⟨x1,H1,N,d,w⟩=>?_) C;refine zV (A pins s1 σ H1 _ N w) λ b s2 ⟨x2,Z,M,r,u⟩=>?_;refine zV (B pins s2 σ Z x1 x2 a b _ M d r u) λ old s3 ⟨x3,Y,L,j,n⟩=>?_;refine zV (he pins s3 σ Y _ L n) λ v s4 ⟨x4,U,K,g,l⟩=>?_;refine zV (y pins s4 σ U x3 x4 old v _ K j g l) λ new s5 ⟨x5,S,J,f,Q⟩=>?_;exact zV (x pins s5 σ S x1 x2 x5 a b new _ J d r f Q) λ _ s6 ⟨P,E,q⟩=>⟨σ,P,E,q⟩
noncomputable def ipI (f:Int->Int->Int):Xf:=λ x y H Q=>∃i j,x=.int i/\y=.int j/\Q (.int (f i j)) H
theorem Am:N5 X .Add (ipI λ i j=>i+j):=by
 intro pins s σ H x y v u Q I a r h;obtain⟨i,j,E,e,q⟩:=h;subst E;subst e;obtain⟨t,rfl⟩:=a;obtain⟨t',rfl⟩:=r;exact iadd_int ⟨.int _,H,I.tok _,⟨_,rfl⟩,q⟩
def BZ (c:TT)(t:TS):TS:=λ D σ H=>∃W:Nat->St->Hp->Prop,(∃m,W m σ H)/\∀m σ H,W m σ H->
 c σ H λ b H1=>if b=true then ∃N:St->Hp->Prop,(∀a h,N a h->∃M,M<m/\W M a h)/\t { D with nx:=N,ct:=N,bk:=D.nx } σ H1 else D.nx σ H1
theorem EG {c:Expr}{t:TT}{T:TS}(p:PassesOwn (model X.prog X.w) X.A X.env X.xe)(B:PT X c t)(C:yQ X body T):PS X (.While c body [] pos) (BZ t T):=by
 intro pins s σ H D I h;obtain⟨W,⟨m0,z⟩,turn⟩:=h;refine wpAny_While (codeAny_whileLoop (λ n s'=>∃e x,Inv X pins e x s'/\W n e x) ?_ m0 ⟨σ,H,I,z⟩)
 rintro n s1 ⟨d,H1,E,y⟩
 refine wpAny_passesOwn p (zV (B pins s1 d H1 _ E (turn n d H1 y)) λ b s2 ⟨u,r,Q⟩=>?_);cases b with
 |true=>
  obtain⟨N,o,Q⟩:=Q;rw[ag rfl];refine wpAny_passesOwn p (zV (C pins s2 d u _ r Q) λ f s3 q=>?_);cases f with
  |next=>
   obtain⟨a,g,l,j⟩:=q;obtain⟨M,hm,i⟩:=o a g j;exact⟨M,hm,a,g,l,i⟩
  |cont=>
   obtain⟨a,g,l,j⟩:=q;obtain⟨M,hm,i⟩:=o a g j;exact⟨M,hm,a,g,l,i⟩
  |brk=>exact q|ret v=>exact q
 |false=>
  rw[ak aA];exact wpAny_execs_nil ⟨d,u,r,Q⟩
end
structure It where
 go:Nat->Hp->Prop
 yld:Nat->Hp->V->Hp->Prop
 stop:Nat->Hp->Prop
def kJ (X:Cx)(pins:List (Addr×Obj))(H:Hp)(b:Addr):Prop:=
 H b=none/\b≠X.env.locals/\b∉X.fs/\(b∈X.ex∨X.s0.heap.objs.size<=b)/\(∀x c,X.env.cells.lookup x=some c->c≠b)/\∀p∈X.pn++pins,p.1≠b
theorem Inv.fpOk {X:Cx}{σ:St}{H a:Hp}(I:Inv X pins σ H s)(h:s.heap.objs.size<=b)(hn:a b=none):kJ X pins a b:=by
 refine⟨hn,bA (aD I.lt h),I.nofs h,.inr (br I.sz h),λ x c e z=>?_,λ p d z=>?_⟩
 ·obtain⟨v,q⟩:=I.cell x c e
  exact absurd (aD q.lt (by rw[z];exact h)) (aY _)
 ·exact absurd (aD (aI (I.pin p d).1) (by rw[z];exact h)) (aY _)
structure Turn (P:Program)(w:World)(K:Frag)(tg:Expr)(J:It)(fp:List Addr)(it:Addr)(tn:Nat->Heap->Prop):Prop where
 mem:it∈fp
 obj:∀i h,tn i h->∀b∈fp,∃o,h.get? b=some o/\∀v,o.data≠.cell v
 keep:∀i h h',tn i h->(∀b∈fp,∀o,h.get? b=some o->h'.get? b=some o)->tn i h'
 item:∀(X:Cx),X.prog=P->X.w=w->X.K=K->X.calm=true->∀(i:Nat)(pins:List (Addr×Obj))(s:Shared)(σ:St)(H:Hp)(E:Value->Shared->Prop),Inv X pins σ H s->(∀b∈fp,kJ X pins H b)->tn i s.heap->J.go i H->
  wpAny (model P w) X.A (pyNext (.ref it)) (λ r s1=>∃u,r=some u/\
   wpAny (model P w) X.A (letOwnedTupleGo tg (.ref it) u) (λ _ s2=>∃x H',Inv X pins σ H' s2/\RelV x u/\J.yld i H x H'/\tn (i+1) s2.heap/\∀b∈fp,H' b=none) E s1) E s
 done:∀(X:Cx),X.prog=P->X.w=w->X.K=K->X.calm=true->∀(i:Nat)(pins:List (Addr×Obj))(s:Shared)(σ:St)(H:Hp)(E:Value->Shared->Prop),Inv X pins σ H s->(∀b∈fp,kJ X pins H b)->tn i s.heap->J.stop i H->
  wpAny (model P w) X.A (pyNext (.ref it)) (λ r s1=>r=none/\Inv X pins σ H s1) E s
 self:∀(A:Around)(i:Nat)(s:Shared)(Q:Value->Shared->Prop)(E:Value->Shared->Prop),tn i s.heap->Q (.ref it) s->wpAny (model P w) A (pyIter (.ref it)) Q E s
abbrev TI:=St->Hp->(It->Hp->Prop)->Prop
inductive Mc (X:Cx)(pins:List (Addr×Obj))(σ:St)(tg:Expr)(R:It->Hp->Prop)(itv:Value)(s2:Shared):Prop
 |mk (it:Addr) (fp:List Addr) (tn:Nat->Heap->Prop) (J:It) (H':Hp) (e:itv=.ref it) (I:Inv X pins σ H' s2) (T:Turn X.prog X.w X.K tg J fp it tn) (t0:tn 0 s2.heap) (f:(∀b∈fp,kJ X pins H' b)) (q:R J H')
def PI (X:Cx)(t iter:Expr)(wi:TI):Prop:=
 ∀(pins:List (Addr×Obj))(s:Shared)(σ:St)(H:Hp)(R:It->Hp->Prop),Inv X pins σ H s->wi σ H R->
  wpAny (model X.prog X.w) X.A (eval iter X.env) (λ v s1=>wpAny (model X.prog X.w) X.A (pyIter v) (Mc X pins σ t R) X.xe s1) X.xe s
theorem UN {A:Around}{it:Addr}{o:Obj}{n:String}{vs:Array Value}{Q:Unit->Shared->Prop}(a:s.heap.get? it=some o)(c:o.cls=.type n)(hd:o.data=.fields vs)
  (hn:["enumerate","zip","dict_itemiterator","dict_reverseitemiterator","odict_iterator","itertools.zip_longest","itertools.pairwise"].contains n=false)(H:Q () s):wpAny M A (letOwnedTupleGo tg (.ref it) u) Q E s:=by
 unfold letOwnedTupleGo;cases tg<;>first
  |exact qa1 H
  |(cases u<;>first
    |exact qa1 H
    |(
      refine qa0 (wpAny_load a ?_);rw[c,hd];show wpAny M A (if (["enumerate","zip","dict_itemiterator","dict_reverseitemiterator","odict_iterator","itertools.zip_longest","itertools.pairwise"].contains n&&vs[0]?==some (rawInt _))=true then _ else _) Q E s;rw[ak (by intro h;rw[hn,Bool.false_and]at h;cases h)]
      exact qa1 H))
noncomputable def Mb (K:Frag)(a:Addr):It:=
 ⟨λ i H=>∃xs x,ji K H a xs/\xs[i]? =some x,λ i H x h=>h=H/\∀xs,ji K H a xs->xs[i]? =some x,λ i H=>∃xs,ji K H a xs/\xs.length<=i⟩
noncomputable def N3 (K:Frag)(a:Addr):It:=
 ⟨λ i H=>∃xs x,qD K H a xs/\xs[i]? =some x,λ i H x h=>h=H/\∀xs,qD K H a xs->xs[i]? =some x,λ i H=>∃xs,qD K H a xs/\xs.length<=i⟩
noncomputable def Xm (lo:Int)(n:Nat):It:=⟨λ i _=>i<n,λ i H x h=>h=H/\x=.int (lo+i),λ i _=>n<=i⟩
theorem Fg {K:Frag}(a it:Addr):Turn P w K tg (Mb K a) [it] it (λ i h=>h.IsListIter it a i) where
 mem:=by simp
 obj:=λ i h st b f=>by
  have e:b=it:=by simpa using f
  subst e;obtain⟨o,e,c,d⟩:=st;exact⟨o,e,λ v z=>by rw[d]at z;cases z⟩
 keep:=λ i h h' st k=>st.at λ o e=>k it (by simp) o e
 item:=by
  intro X n hw t B i pins s σ H E I hf st l;subst n hw t;obtain⟨xs,x,q,j⟩:=l;obtain⟨g,r,p,J⟩:=I.list q;obtain⟨u,M,D⟩:=r.get j;obtain⟨f0,f1,f2,A,f4,y⟩:=hf it (by simp)
  refine wpAny_pyNext_list_item st p.isList (x:=u) (by simpa using M) λ h' S C=>?_
  have Q:Inv X pins σ H { s with heap:=h' }:=I.turned (t':=s.toks) (λ b o f e=>(C.2 b f).trans e) f0 f1 A f4 y
  obtain⟨o,e,c,d⟩:=id S;exact⟨u,rfl,UN (s:={ s with heap:=h' }) e c d (by decide) ⟨x,H,Q,D,⟨rfl,λ ys L=>by rw[I.list_inj L q];exact j⟩,S,λ b f=>(hf b f).1⟩⟩
 done:=by
  intro X n hw t B i pins s σ H E I hf st l;subst n hw t;obtain⟨xs,q,j⟩:=l;obtain⟨g,r,p,J⟩:=I.list q;obtain⟨f0,f1,f2,A,f4,y⟩:=hf it (by simp)
  have T:=r.length;exact wpAny_pyNext_list_end (I.ok.hd B) st p.isList (by simp;omega) λ h' N=>⟨rfl,I.turned (t':=s.toks) (λ b o f e=>N b o f e) f0 f1 A f4 y⟩
 self:=λ _ _ _ _ _ st h=>wpAny_pyIter_listiter st h
theorem Hs {K:Frag}(a it:Addr):Turn P w K tg (N3 K a) [it] it (λ i h=>h.IsTupleIter it a i) where
 mem:=by simp
 obj:=λ i h st b g=>by
  have e:b=it:=by simpa using g
  subst e;obtain⟨o,e,c,d⟩:=st;exact⟨o,e,λ v z=>by rw[d]at z;cases z⟩
 keep:=λ i h h' st k=>st.at λ o e=>k it (by simp) o e
 item:=by
  intro X n hw t B i pins s σ H E I hf st l;subst n hw t;obtain⟨xs,x,q,j⟩:=l;obtain⟨f,r,p,J⟩:=I.tuple q;obtain⟨u,M,D⟩:=r.get j;obtain⟨f0,f1,f2,A,f4,y⟩:=hf it (by simp)
  refine wpAny_pyNext_tuple_item st (show s.heap.IsTuple a f.toArray from p) (x:=u) (by simpa using M) λ h' S C=>?_
  have Q:Inv X pins σ H { s with heap:=h' }:=I.turned (t':=s.toks) (λ b o g e=>(C.2 b g).trans e) f0 f1 A f4 y
  obtain⟨o,e,c,d⟩:=id S;exact⟨u,rfl,UN (s:={ s with heap:=h' }) e c d (by decide) ⟨x,H,Q,D,⟨rfl,λ ys L=>by rw[I.tuple_inj L q];exact j⟩,S,λ b g=>(hf b g).1⟩⟩
 done:=by
  intro X n hw t B i pins s σ H E I hf st l;subst n hw t;obtain⟨xs,q,j⟩:=l;obtain⟨f,r,p,J⟩:=I.tuple q;obtain⟨f0,f1,f2,A,f4,y⟩:=hf it (by simp)
  have T:=r.length;exact wpAny_pyNext_tuple_end (I.ok.hd B) st (show s.heap.IsTuple a f.toArray from p) (by simp;omega) λ h' N=>⟨rfl,I.turned (t':=s.toks) (λ b o g e=>N b o g e) f0 f1 A f4 y⟩
 self:=λ _ _ _ _ _ st h=>wpAny_pyIter_tupleiter st h
theorem IQ {K:Frag}(it:Addr)(lo:Int)(n:Nat):Turn P w K tg (Xm lo n) [it] it (λ i h=>IsRangeIter h it (lo+(i:Nat) * 1) ((n:Int) - (i:Nat)) 1) where
 mem:=by simp
 obj:=λ i h st b a=>by
  have e:b=it:=by simpa using a
  subst e;exact⟨_,st,λ v z=>by
   have Z:Data.fields _=Data.cell v:=z;cases Z⟩
 keep:=λ i h h' st k=>k it (by simp) _ st
 item:=by
  intro X d hw f c i pins s σ H E I hf st g;subst d hw f;obtain⟨f0,f1,f2,l,f4,j⟩:=hf it (by simp)
  have W:=Walks.range (prog:=X.prog) (w:=X.w) (I.ok.hd c) it lo 1 n;refine W.item i s _ _ g st λ v h' tk p S kk=>?_;obtain⟨t,rfl⟩:=p;have r:Inv X pins σ H { s with heap:=h',toks:=tk }:=I.turned (λ b o a e=>kk b o (by simpa using a) e) f0 f1 l f4 j
  refine⟨_,rfl,UN (s:={ s with heap:=h',toks:=tk }) (n := "range_iterator") S rfl rfl (by decide) ⟨.int (lo+i),H,r,⟨t,?_⟩,⟨rfl,rfl⟩,S,λ b a=>(hf b a).1⟩⟩
  rw[Int.mul_one]
 done:=by
  intro X d hw f c i pins s σ H E I hf st g;subst d hw f;obtain⟨f0,f1,f2,l,f4,j⟩:=hf it (by simp)
  exact wpAny_pyNext_range_end (I.ok.hd c) st (by have:n<=i:=g;omega) λ h' q=>⟨rfl,I.turned (t':=s.toks) (λ b o a e=>q b o a e) f0 f1 l f4 j⟩
 self:=λ _ _ _ _ _ st h=>wpAny_pyIter_rangeiter st h
section
variable {X:Cx}
theorem EZ {σ:St}{H:Hp}{R:It->Hp->Prop}{lo h:Int}{t u v:Tok}{tk:Nat}(I:Inv X pins σ H s)(g:-(2 ^ 62)<=lo)(f:lo<2 ^ 62)(d:-(2 ^ 62)<=h)(c:h<2 ^ 62)
  (q:R (Xm lo (h - lo).toNat) H):wpAny (model X.prog X.w) X.A (pyIter (.ref s.heap.objs.size)) (Mc X pins σ tg R) E { s with heap:=s.heap.push { cls:=.type "range",data:=.fields #[.int lo t,.int h u,.int 1 v] },toks:=tk }:=by
 refine wpAny_pyIter_range (IsRange.new ..) (small_one g f d c) ?_;have i:Inv X pins σ H { s with heap:=s.heap.push { cls:=.type "range",data:=.fields #[.int lo t,.int h u,.int 1 v] },toks:=tk }:=I.kept λ b o e=>af _ e
 refine⟨(s.heap.push { cls:=.type "range",data:=.fields #[.int lo t,.int h u,.int 1 v] }).objs.size,[(s.heap.push { cls:=.type "range",data:=.fields #[.int lo t,.int h u,.int 1 v] }).objs.size],_,_,H,rfl,
  i.kept (t':=tk) λ b o e=>af _ e,IQ _ lo (h - lo).toNat,?_,λ b a=>?_,q⟩
 ·have l:lo+((0:Nat):Int) * 1=lo:=by simp
  have j:(((h - lo).toNat:Nat):Int) - ((0:Nat):Int)=Builtin.Range.rangeSize lo h 1:=by rw[rangeSize_one];split<;>omega
  show IsRangeIter _ _ (lo+((0:Nat):Int) * 1) ((((h - lo).toNat:Nat):Int) - ((0:Nat):Int)) 1;rw[l,j];exact au _ rfl
 ·have e:b=(s.heap.push { cls:=.type "range",data:=.fields #[.int lo t,.int h u,.int 1 v] }).objs.size:=by simpa using a
  subst e;exact i.fpOk (aw _) (i.hok.fresh (aw _))
def za3 (t:TA):TI:=λ σ H R=>t σ H λ vs H1=>∃j:Int,vs=[.int j]/\-(2 ^ 62)<=j/\j<2 ^ 62/\R (Xm 0 j.toNat) H1
theorem Fw {a:Expr}{T:TA}(g:Gl X "range")(hm:X.mg "range" = none)(i:PA X [a] T)(f:starEach [a] X.env=[(false,eval a X.env)]:=by rfl):PI X tg (.Call (.Name "range" p) [a] [] pos) (za3 T):=by
 intro pins s σ H R I h;refine Call_ (Qy I g hm boot_range (PyProof.Rows.callWith_type1 (zV (i pos pins s σ H _ I h) λ us s1 ⟨vs,H1,l,c,Q⟩=>?_) f rfl));obtain⟨j,e,Q,d,q⟩:=Q;subst e;cases c with
 |cons r b=>
  cases b;obtain⟨t,rfl⟩:=r;exact call_range_1 (EZ l (by omega) (by omega) Q d (by simpa using q))
def zcx (wi:TI)(g:TG)(t:TS):TS:=λ D σ H=>wi σ H λ J H1=>∃W:Nat->Nat->St->Hp->Prop,(∃m,W 0 m σ H1)/\∀i m σ H,W i m σ H->
 (J.stop i H/\D.nx σ H)∨(J.go i H/\∃N:St->Hp->Prop,(∀a h,N a h->∃M,M<m/\W (i+1) M a h)/\∀x h,J.yld i H x h->g x σ h λ b c=>t { D with nx:=N,ct:=N,bk:=D.nx } b c)
noncomputable def Kl (fp:List Addr)(h:Heap):List (Addr×Obj):=fp.filterMap λ b=>(h.get? b).map λ o=>(b,o)
theorem Wt {o:Obj}(H:b∈fp)(e:h.get? b=some o):(b,o)∈Kl fp h:=List.mem_filterMap.mpr ⟨b,H,by rw[e];rfl⟩
theorem FW {p:Addr×Obj}(H:p∈Kl fp h):p.1∈fp/\h.get? p.1=some p.2:=by
 obtain⟨b,a,e⟩:=List.mem_filterMap.mp H;cases q:h.get? b with
 |none=>rw[q]at e;cases e|some o=>
  rw[q]at e;have E:(b,o)=p:=aB e;subst E;exact⟨a,q⟩
theorem Inv.pinned {σ:St}{H:Hp}(I:Inv X pins σ H s)(hf:∀b∈fp,kJ X pins H b)(c:∀b∈fp,∃o,s.heap.get? b=some o/\∀v,o.data≠.cell v):Inv X (pins++Kl fp s.heap) σ H s:=
 I.pins_of λ p a=>(qa8.mp a).elim (λ z=>I.pin p (a6 _ z)) λ z=>by
  obtain⟨h,e⟩:=FW z;obtain⟨f0,f1,f2,_⟩:=hf p.1 h;obtain⟨o,E,d⟩:=c p.1 h;rw[e]at E;cases E;exact⟨e,f0,f1,f2,d⟩
theorem Inv.unpinned {P:List (Addr×Obj)}{σ:St}{H:Hp}(I:Inv X (pins++P) σ H s):Inv X pins σ H s:=I.pins_of λ p h=>I.pin p (a6 _ (List.mem_append_left _ h))
theorem BU {wi:TI}{g:TG}{Y:TS}(z:PassesOwn (model X.prog X.w) X.A X.env X.xe)(Z:X.calm=true)(hi:PI X tg iter wi)(hg:PG X tg g)(l:yQ X body Y)
  (hs:∀x,foldedSetIterable iter X.env x=pure x:=by intro _;rfl):PS X (.For tg iter body [] pos) (zcx wi g Y):=by
 intro pins s σ H D I h;refine wpAny_For (zV (hi pins s σ H _ I h) λ v s1 h1=>zV h1 λ itv s2 h2=>?_) hs;obtain⟨it,fp,U,J,H2,e,I2,T,gw,f2,W,⟨m0,w0⟩,turn⟩:=h2;subst e;have S:∀{H':Hp},(∀b∈fp,H' b=none)->∀b∈fp,kJ X pins H' b:=λ hn b l=>⟨hn b l,(f2 b l).2⟩;refine codeAny_forLoop_any (λ n s'=>∃i j H',Inv X pins j H' s'/\U i s'.heap/\(∀b∈fp,H' b=none)/\W i n j H') ?_ m0 ⟨0,σ,H2,I2,gw,λ b l=>(f2 b l).1,w0⟩
 rintro n s3 ⟨i,c,C,I3,gX,B,w3⟩
 rcases turn i n c C w3 with ⟨stop,qn⟩|⟨go,N,hN,step⟩
 ·refine wpAny_passesOwn z (zV (T.done X rfl rfl rfl Z i pins s3 c C X.xe I3 (S B) gX stop) λ r s4 ⟨L,I4⟩=>?_)
  subst L;exact wpAny_execs_nil ⟨c,C,I4,qn⟩
 ·refine wpAny_passesOwn z (zV (T.item X rfl rfl rfl Z i pins s3 c C X.xe I3 (S B) gX go) λ r s4 ⟨u,L,h4⟩=>?_)
  subst L;refine wpAny_passesOwn z (zV h4 λ _ s5 ⟨x,H5,I5,r5,y5,t,M⟩=>?_);have P:=I5.pinned (S M) (T.obj _ _ t);refine wpAny_passesOwn z (zV (hg _ s5 c H5 x u _ P r5 (step x H5 y5)) λ _ s6 ⟨E,H6,I6,q6⟩=>?_);refine wpAny_passesOwn z (zV (l _ s6 E H6 _ I6 q6) λ f K Q=>?_);have again:∀{a:St}{q:Hp},Inv X (pins++Kl fp s5.heap) a q K->N a q->∃m,m<n/\∃i j H',Inv X pins j H' K/\U i K.heap/\(∀b∈fp,H' b=none)/\W i m j H':=λ {a q} p y=>by
   obtain⟨m',hm,w7⟩:=hN a q y;refine⟨m',hm,i+1,a,q,p.unpinned,T.keep _ _ _ t λ b l o e=>(p.pin (b,o) (a6 _ (a6 _ (Wt l e)))).1,λ b l=>?_,w7⟩;obtain⟨o,e,d⟩:=T.obj _ _ t b l;exact(p.pin (b,o) (a6 _ (a6 _ (Wt l e)))).2.1
  cases f with
  |next=>obtain⟨a,q,p,y⟩:=Q;exact again p y|cont=>obtain⟨a,q,p,y⟩:=Q;exact again p y|brk=>obtain⟨a,q,p,Q⟩:=Q;exact⟨a,q,p.unpinned,Q⟩|ret v=>obtain⟨x7,a,q,p,r7,Q⟩:=Q;exact⟨x7,a,q,p.unpinned,r7,Q⟩
end
abbrev R2:=V->V->Hp->VK->Prop
def ja (X:Cx)(f:Value->Value->Sem Value)(r:R2):Prop:=
 ∀(pins:List (Addr×Obj))(s:Shared)(σ:St)(H:Hp)(x y:V)(v u:Value)(Q:VK),Inv X pins σ H s->RelV x v->RelV y u->r x y H Q->
  wpAny (model X.prog X.w) X.A (f v u) (EP X pins σ Q) X.xe s
def Xd (X:Cx)(f:Value->Sem Value)(r:V->Hp->VK->Prop):Prop:=
 ∀(pins:List (Addr×Obj))(s:Shared)(σ:St)(H:Hp)(x:V)(v:Value)(Q:VK),Inv X pins σ H s->RelV x v->r x H Q->
  wpAny (model X.prog X.w) X.A (f v) (EP X pins σ Q) X.xe s
def ye (X:Cx)(f:Value)(r:List V->Hp->VK->Prop):Prop:=
 ∀(pins:List (Addr×Obj))(s:Shared)(σ:St)(H:Hp)(xs:List V)(us:List Value)(Q:VK),Inv X pins σ H s->Vals xs us->r xs H Q->
  wpAny (model X.prog X.w) X.A (call f us) (EP X pins σ Q) X.xe s
noncomputable def K1 (r:R2)(T t:TE):TE:=λ σ H Q=>T σ H λ x H1=>t σ H1 λ y h=>r x y h Q
noncomputable def N8 (r:V->Hp->VK->Prop)(t:TE):TE:=λ σ H Q=>t σ H λ x H1=>r x H1 Q
noncomputable def rI (C:Int->Int->Prop)(g:Int->Int->V):R2:=λ x y H Q=>∃i j,x=.int i/\y=.int j/\C i j/\Q (g i j) H
noncomputable def ZN (g:Int->Int->V):R2:=λ x y H Q=>∃i j,x=.int i/\y=.int j/\Q (g i j) H
noncomputable def rU (g:Int->V):V->Hp->VK->Prop:=λ x H Q=>∃i,x=.int i/\Q (g i) H
section
variable {X:Cx}{a b:Expr}{ta tb:TE}
theorem UY (j:PE X a ta)(i:PE X b tb){σ:St}{H:Hp}{R:V->V->Hp->Prop}(I:Inv X pins σ H s)
  (h:ta σ H λ x H1=>tb σ H1 λ y c=>R x y c){f:Value->Value->Sem Value}
  (hf:∀v u s2 x y c,Inv X pins σ c s2->RelV x v->RelV y u->R x y c->wpAny (model X.prog X.w) X.A (f v u) Q X.xe s2):
  wpAny (model X.prog X.w) X.A (eval a X.env) (λ v d=>wpAny (model X.prog X.w) X.A (eval b X.env) (λ u S=>wpAny (model X.prog X.w) X.A (f v u) Q X.xe S) X.xe d) X.xe s:=by
 refine zV (j pins s σ H _ I h) λ v s1 ⟨x,H1,n,e,g⟩=>?_;refine zV (i pins s1 σ H1 _ n g) λ u s2 ⟨y,c,l,r,q⟩=>?_;exact hf v u s2 x y c l e r q
theorem zbj {op:Operator}{r:R2}(o:ja X (binaryOp op) r)(f:PE X a ta)(e:PE X b tb):PE X (.BinOp a op b pos) (K1 r ta tb):=by
 intro pins s σ H Q I h;exact wpAny_BinOp (UY f e I h λ v u s2 x y g i d c q=>o pins s2 σ g x y v u Q i d c q)
theorem zbK {op:UnaryOp}{r:V->Hp->VK->Prop}(o:Xd X (unaryOp op) r)(c:PE X a ta):PE X (.UnaryOp op a pos) (N8 r ta):=by
 intro pins s σ H Q I h;exact UnaryOp_ (zV (c pins s σ H _ I h) λ v s1 ⟨x,H1,i,b,q⟩=>o pins s1 σ H1 x v Q i b q)
theorem Xo {f:Value->Value->Sem Value}{C:Int->Int->Prop}{g:Int->Int->Int}
  (rule:∀(i j:Int)(t u:Tok)(s:Shared)(Q:Value->Shared->Prop)(E:Value->Shared->Prop),C i j->Q (.int (g i j) s.toks) { s with toks:=s.toks+1 }->wpAny (model X.prog X.w) X.A (f (.int i t) (.int j u)) Q E s):
  ja X f (rI C λ i j=>.int (g i j)):=by
 intro pins s σ H x y v u Q I a r h;obtain⟨i,j,rfl,rfl,c,q⟩:=h;obtain⟨t,rfl⟩:=a;obtain⟨t',rfl⟩:=r;exact rule i j t t' s _ _ c ⟨.int (g i j),H,I.tok _,⟨_,rfl⟩,q⟩
theorem Tb {f:Value->Value->Sem Value}{g:Int->Int->Int}
  (rule:∀(i j:Int)(t u:Tok)(s:Shared)(Q:Value->Shared->Prop)(E:Value->Shared->Prop),Q (.int (g i j) s.toks) { s with toks:=s.toks+1 }->wpAny (model X.prog X.w) X.A (f (.int i t) (.int j u)) Q E s):
  ja X f (ZN λ i j=>.int (g i j)):=by
 intro pins s σ H x y v u Q I a r h;obtain⟨i,j,rfl,rfl,q⟩:=h;obtain⟨t,rfl⟩:=a;obtain⟨t',rfl⟩:=r;exact rule i j t t' s _ _ ⟨.int (g i j),H,I.tok _,⟨_,rfl⟩,q⟩
theorem UT {f:Value->Value->Sem Value}{g:Int->Int->Bool}
  (rule:∀(i j:Int)(t u:Tok)(s:Shared)(Q:Value->Shared->Prop)(E:Value->Shared->Prop),Q (.bool (g i j)) s->wpAny (model X.prog X.w) X.A (f (.int i t) (.int j u)) Q E s):
  ja X f (ZN λ i j=>.bl (g i j)):=by
 intro pins s σ H x y v u Q I a r h;obtain⟨i,j,rfl,rfl,q⟩:=h;obtain⟨t,rfl⟩:=a;obtain⟨t',rfl⟩:=r;exact rule i j t t' s _ _ ⟨.bl (g i j),H,I,rfl,q⟩
def NJ (i j:Int):Prop:=0<=j/\j<=1000000/\i.natAbs<2 ^ 64
def KD (i j:Int):Prop:=(-(2 ^ 64)<i/\i<2 ^ 64)∨(-(2 ^ 64)<j/\j<2 ^ 64)
theorem KD.ok {i j:Int}(h:KD i j):IntMulOk i j:=by
 rcases h with ⟨a,H⟩|⟨a,H⟩
 ·exact .of_left (intBits_le_64 a H)
 ·exact .of_right (intBits_le_64 a H)
theorem BE:ja X (binaryOp .Add) (ZN λ i j=>.int (i+j)):=Tb λ _ _ _ _ _ _ _ q=>add_int q
theorem zao:ja X (binaryOp .Sub) (ZN λ i j=>.int (i - j)):=Tb λ _ _ _ _ _ _ _ q=>sub_int q
theorem B8:ja X (binaryOp .Mult) (rI KD λ i j=>.int (i * j)):=Xo λ _ _ _ _ _ _ _ h q=>mul_int q h.ok
theorem zab:ja X (binaryOp .Mod) (rI (λ _ j=>0<j) λ i j=>.int (i % j)):=Xo λ i j _ _ _ _ _ h q=>by
 have H:(0:Int)<j:=h;exact mod_int' (by omega) (by rw[Int.fmod_eq_emod_of_nonneg i (by omega)];exact q)
theorem zah:ja X (binaryOp .Pow) (rI NJ λ i j=>.int (i ^ j.toNat)):=Xo λ _ _ _ _ _ _ _ h q=>pow_int_small h.1 h.2.1 h.2.2 q
theorem Bx:ja X (binaryOp .BitXor) (ZN λ i j=>.int (Builtin.bitXor i j)):=Tb λ _ _ _ _ _ _ _ q=>xor_int q
theorem unI {f:Value->Sem Value}{g:Int->Int}
  (rule:∀(i:Int)(t:Tok)(s:Shared)(Q:Value->Shared->Prop)(E:Value->Shared->Prop),Q (.int (g i) s.toks) { s with toks:=s.toks+1 }->wpAny (model X.prog X.w) X.A (f (.int i t)) Q E s):
  Xd X f (rU λ i=>.int (g i)):=by
 intro pins s σ H x v Q I r h;obtain⟨i,rfl,q⟩:=h;obtain⟨t,rfl⟩:=r;exact rule i t s _ _ ⟨.int (g i),H,I.tok _,⟨_,rfl⟩,q⟩
theorem BG:Xd X (unaryOp .USub) (rU λ i=>.int (-i)):=unI λ _ _ _ _ _ q=>neg_int q
variable {c:Expr}{tc:TE}
theorem zau {σ:St}{H:Hp}{Q:VK}{k K:Bool}(I:Inv X pins σ H s)(q:Q (.bl k) H)(e:k=K):EP X pins σ Q (.bool K) s:=by
 subst e;exact⟨.bl k,H,I,rfl,q⟩
theorem zbI:ja X (compareOp .Lt) (ZN λ i j=>.bl (decide (i<j))):=UT λ _ _ _ _ _ _ _ q=>lt_int q
theorem zaQ:ja X (compareOp .LtE) (ZN λ i j=>.bl (decide (i<=j))):=UT λ _ _ _ _ _ _ _ q=>le_int q
theorem zbs:ja X (compareOp .GtE) (ZN λ i j=>.bl (decide (j<=i))):=UT λ _ _ _ _ _ _ _ q=>ge_int q
theorem CN:ja X (compareOp .IsNot) (λ x y H Q=>y=.non/\Q (.bl (!decide (x=.non))) H):=by
 intro pins s σ H x y v u Q I r a h;obtain⟨rfl,q⟩:=h;cases a;refine isnot_none_gen (zau I q ?_);cases x<;>first
  |(cases r;rfl)
  |(obtain⟨t,rfl⟩:=r;rfl)
theorem ja.or {f:Value->Value->Sem Value}{r c:R2}(h:ja X f r)(h':ja X f c):ja X f (λ x y H Q=>r x y H Q∨c x y H Q):=by
 intro pins s σ H x y v u Q I b a q;rcases q with q|q
 ·exact h pins s σ H x y v u Q I b a q
 ·exact h' pins s σ H x y v u Q I b a q
theorem CT {r:R2}(o:ja X (compareOp op) r)(f:PE X a ta)(e:PE X b tb)(hm:behindInMarks op b=false):PE X (.Compare a [op] [b] pos) (K1 r ta tb):=by
 intro pins s σ H Q I h;exact wpAny_Compare1 (UY f e I h λ v u s2 x y g i d c q=>o pins s2 σ g x y v u Q i d c q) hm
noncomputable def NF (t:TE):TT:=λ σ H Q=>t σ H λ x h=>∃k,x=.bl k/\Q k h
theorem Co {r:R2}(o:ja X (compareOp op) r)(n:PE X a ta)(l:PE X b tb)(hm:behindInMarks op b=false):PT X (.Compare a [op] [b] pos) (NF (K1 r ta tb)):=by
 intro pins s σ H Q I h;refine wpAny_isTrue_Compare1 (zV (n pins s σ H _ I h) λ v s1 ⟨x,H1,w,g,j⟩=>zV (l pins s1 σ H1 _ w j) λ u s2 ⟨y,B,t,f,i⟩=>
  zV (o pins s2 σ B x y v u _ t g f i) λ c s3 ⟨z,A,p,d,k,e,q⟩=>?_) hm
 subst e;cases d;exact wpAny_truthy_bool ⟨A,p,q⟩
noncomputable def Uk (r b:R2)(a T t:TE):TE:=λ σ H Q=>a σ H λ x H1=>T σ H1 λ y d=>r x y d λ z h=>∃k,z=.bl k/\
 (if k=true then t σ h λ w c=>b y w c Q else Q (.bl false) h)
theorem F4 {o:CmpOp}{r i:R2}(D:ja X (compareOp op) r)(f:ja X (compareOp o) i)(K:PE X a ta)(J:PE X b tb)(E:PE X c tc)
  (hm:lastMarks [op,o] [b,c]=false:=by with_unfolding_all rfl):PE X (.Compare a [op,o] [b,c] pos) (Uk r i ta tb tc):=by
 intro pins s σ H Q I h;refine Compare_chain (zV (K pins s σ H _ I h) λ v s1 ⟨x,H1,N,t,C⟩=>chain_link (zV (J pins s1 σ H1 _ N C) λ u s2 ⟨y,S,M,g,B⟩=>
  zV (D pins s2 σ S x y v u _ M t g B) λ d s3 ⟨z,l,j,p,k,e,q⟩=>?_)) hm
 subst e;cases p;refine wpAny_truthy_bool ?_;cases k with
 |false=>exact ite_ff ⟨.bl false,l,j,rfl,q⟩|true=>exact ite_tt (chain_last (zV (E pins s3 σ l _ j q) λ w s4 ⟨Z,P,L,n,A⟩=>f pins s4 σ P y Z u w Q L g n A))
theorem EI {o:CmpOp}{r i:R2}(K:ja X (compareOp op) r)(f:ja X (compareOp o) i)(N:PE X a ta)(M:PE X b tb)(L:PE X c tc)
  (hm:lastMarks [op,o] [b,c]=false:=by with_unfolding_all rfl):PT X (.Compare a [op,o] [b,c] pos) (NF (Uk r i ta tb tc)):=by
 intro pins s σ H Q I h;refine isTrue_chain (zV (N pins s σ H _ I h) λ v s1 ⟨x,H1,I1,A,E⟩=>test_link (zV (M pins s1 σ H1 _ I1 E) λ u s2 ⟨y,H2,Y,g,D⟩=>
  zV (K pins s2 σ H2 x y v u _ Y A g D) λ d s3 ⟨z,l,j,t,k,e,q⟩=>?_)) hm
 subst e;cases t;refine wpAny_truthy_bool ?_;cases k with
 |false=>
  obtain⟨k',S,J⟩:=q;cases S;exact ite_ff ⟨l,j,J⟩
 |true=>
  refine ite_tt (test_last (zV (L pins s3 σ l _ j q) λ w s4 ⟨Z,H4,U,p,C⟩=>zV (f pins s4 σ H4 y Z u w _ U g p C) λ d' s5 ⟨z2,H5,T,n,k2,P,B⟩=>?_));subst P;cases n;exact wpAny_truthy_bool ⟨H5,T,B⟩
theorem Ya:(sizeLine:Nat)<2 ^ 63:=by rw[sizeLine_eq];decide
theorem vals1 {x:V}(r:Vals [x] us):∃u,us=[u]/\RelV x u:=by
 cases r with
 |cons b a=>cases a;exact⟨_,rfl,b⟩
theorem vals2 {x y:V}(r:Vals [x,y] us):∃u w,us=[u,w]/\RelV x u/\RelV y w:=by
 cases r with
 |cons d c=>
  cases c with
  |cons b a=>cases a;exact⟨_,_,rfl,d,b⟩
theorem Dq:ye X (.builtin "abs") (λ xs H Q=>∃i,xs=[.int i]/\Q (.int (if i<0 then -i else i)) H):=by
 intro pins s σ H xs us Q I r h;obtain⟨i,rfl,q⟩:=h;obtain⟨u,rfl,t,rfl⟩:=vals1 r;exact call_abs_int λ u tk=>⟨.int (if i<0 then -i else i),H,I.tok _,⟨_,rfl⟩,q⟩
theorem FT (c:X.calm=true):ye X (.builtin "max") (λ xs H Q=>∃i j,xs=[.int i,.int j]/\Q (.int (if j > i then j else i)) H):=by
 intro pins s σ H xs us Q I r h;obtain⟨i,j,rfl,q⟩:=h;obtain⟨u,w,rfl,⟨t,rfl⟩,⟨t',rfl⟩⟩:=vals2 r;refine max_two_ints (I.ok.hd c) λ h' tk k=>⟨_,H,I.kept k,?_,q⟩
 by_cases a:j > i
 ·rw[ag a,ag a];exact⟨_,rfl⟩
 ·rw[ak a,ak a];exact⟨_,rfl⟩
theorem Fx (c:X.calm=true):ye X (.builtin "min") (λ xs H Q=>∃i j,xs=[.int i,.int j]/\Q (.int (if j<i then j else i)) H):=by
 intro pins s σ H xs us Q I r h;obtain⟨i,j,rfl,q⟩:=h;obtain⟨u,w,rfl,⟨t,rfl⟩,⟨t',rfl⟩⟩:=vals2 r;refine min_two_ints (I.ok.hd c) λ h' tk k=>⟨_,H,I.kept k,?_,q⟩
 by_cases a:j<i
 ·rw[ag a,ag a];exact⟨_,rfl⟩
 ·rw[ak a,ak a];exact⟨_,rfl⟩
theorem Fo:ye X (.type "int") (λ xs H Q=>(∃i,xs=[.int i]/\Q (.int i) H)∨∃k,xs=[.bl k]/\Q (.int (if k then 1 else 0)) H):=by
 intro pins s σ H xs us Q I r h;rcases h with ⟨i,rfl,q⟩|⟨k,rfl,q⟩
 ·obtain⟨u,rfl,t,rfl⟩:=vals1 r
  exact call_int_int ⟨.int i,H,I,⟨_,rfl⟩,q⟩
 ·obtain⟨u,rfl,a⟩:=vals1 r
  cases a;exact call_int_bool ⟨.int (if k then 1 else 0),H,I.tok _,⟨_,rfl⟩,q⟩
end
structure U9 (h:Heap)(x dx C:Addr)(mA:Str->Option Value):Prop where
 obj:h.get? x=some (instObj C dx)
 ns:h.Ns1 dx mA
 ne:dx≠x
theorem FQ {d:Addr}{M:Str->Option Value}(n:h.Ns1 d M):∃od,h.get? d=some od/\∀name,lookIn name od=some (M name):=by
 obtain⟨o,E,p,c,hd,f,_,hm⟩:=n;refine⟨o,c,λ name=>?_⟩;have e:=hm name;unfold nsFind findBy at e;rw[<- Array.find?_toList]at e;unfold lookIn;rw[hd];dsimp only
 split
 ·rename_i y q
  rw[q]at e;exact congrArg some e
 ·rename_i q
  rw[q]at e;have a:E.toList.any (·.refKey)=false:=by
   rw[List.any_eq_false];intro y b;obtain⟨z,t,H⟩:=f y (Array.mem_toList_iff.mp b);simp[DictEntry.refKey,H]
  have A:¬E.toList.any (·.refKey)=true:=by rw[a];exact aA
  rw[ak A];exact congrArg some e
theorem U9.look {x d C:Addr}{M:Str->Option Value}(I:U9 h x d C M):∃od,PySem.W.InstAt h x (instObj C d) C (some od)/\∀name,lookIn name od=some (M name):=
 let ⟨od,H,l⟩:=FQ I.ns
 ⟨od,⟨I.obj,rfl,rfl,H⟩,l⟩
theorem Qb.some_of {v:V}{o:Option Value}(r:Qb (some v) o):∃u,o=some u/\RelV v u:=by
 cases o with
 |none=>exact(show False from r).elim|some u=>exact⟨u,rfl,r⟩
section
variable {H:Hp}{C dx:Addr}{fs:List (Str×V)}
theorem Ct (hok:jU P w H h)(e:H a=some (.ins C dx fs)):∃M,U9 h a dx C M/\(∀f,Qb (fs.lookup f) (M f))/\PySem.Within M (fs.map (·.1))/\fs.length<=1000/\H dx=some (.own a):=by
 obtain⟨d,z,ne,ob,M,n,r,q⟩:=(show jd P w H h a (.ins C dx fs) from hok a _ e)
 exact⟨M,⟨ob,n,ne⟩,r,q,z,d⟩
end
structure wR (K:Frag)(C:Addr):Prop where
 pg:plainGet K C Str.empty=true
 hd:PySem.W.hasDictIn K C=true
 po:PySem.W.plainOver K C=true
 sa:PySem.W.findIn K (.ref C) "__setattr__" = some (some (.builtin "object.__setattr__"))
theorem wR.get {K:Frag}{C:Addr}(c:wR K C)(f:Str):plainGet K C f=true:=c.pg
section
variable {X:Cx}{σ:St}{H:Hp}{A:Around}{c:Value}{b:Bool}
inductive gj (K:Frag)(H:Hp):V->Value->Prop where
 |non:gj K H .non (.type "NoneType")
 |bl (x:Bool):gj K H (.bl x) (.type "bool")
 |int (i:Int):gj K H (.int i) (.type "int")
 |str (x:Str):gj K H (.str x) (.type "str")
 |flt (x:UInt64):gj K H (.flt x) (.type "float")
 |lst {a:Addr} {xs:List V} (e:H a=some (.lst xs)):gj K H (.ref a) (.type "list")
 |frz {a:Addr} {o:Obj} {xs:List V} (e:H a=some (.frz o (.lst xs))):gj K H (.ref a) (.type "list")
 |tup {a:Addr} {xs:List V} (e:H a=some (.tup xs)):gj K H (.ref a) (.type "tuple")
 |dK {a:Addr} {kvs:List (Key×V)} (e:H a=some (.dK kvs)):gj K H (.ref a) (.type "dict")
 |dT {a:Addr} {kvs:List (List Key×V)} (e:H a=some (.dT kvs)):gj K H (.ref a) (.type "dict")
 |ins {a C dx:Addr} {fs:List (Str×V)} (e:H a=some (.ins C dx fs)) (cl:wR K C) (ha:PySem.W.findIn K (.ref C) "__class__" = some (some (.builtin "object.__class__")))
   (hn:PySem.W.specialIn K (.builtin "object.__class__") "__get__" = some (some (.builtin "getset_descriptor.__get__"))) (htk:PySem.W.takesIn K (.builtin "object.__class__")=some true)
   (hm:PySem.W.mroIn K C (.type "object")=some true):gj K H (.ref a) (.ref C)
theorem R1 {x:V}{t:Value}(I:Inv X pins σ H s)(r:RelV x u)(ty:gj X.K H x t)(e:kitOne X.K t c=some b)(h:∀tk,Q (.bool b) { s with toks:=tk }):
  wpAny (model X.prog X.w) A (call (.builtin "isinstance") [u,c]) Q E s:=by
 cases ty with
 |non=>cases (show u=Value.none from r);exact bF kitx_none I.kIn True.intro e (λ z=>nomatch z) h
 |bl y=>cases (show u=Value.bool y from r);exact bF kitx_bool I.kIn True.intro e (λ z=>nomatch z) h
 |int i=>obtain⟨t,q⟩:=(show ∃t,u=Value.int i t from r);cases q;exact bF kitx_int I.kIn True.intro e (λ z=>nomatch z) h
 |str y=>obtain⟨t,q⟩:=(show ∃t,u=Value.str y t from r);cases q;exact bF kitx_str I.kIn True.intro e (λ z=>nomatch z) h
 |flt y=>obtain⟨t,q⟩:=(show ∃t,u=Value.float y t from r);cases q;exact bF kitx_float I.kIn True.intro e (λ z=>nomatch z) h
 |@lst a xs ea=>
  cases (show u=Value.ref a from r)
  obtain⟨_,_,n,_,d⟩:=(show jd X.prog X.w H s.heap a (.lst xs) from I.hok a _ ea)
  exact bF kitx_list I.kIn ⟨_,d,rfl⟩ e (λ z=>nomatch z) h
 |@frz a ob xs ea=>
  cases (show u=Value.ref a from r)
  obtain⟨_,_,_,n,_,d⟩:=(show jd X.prog X.w H s.heap a (.frz ob (.lst xs)) from I.hok a _ ea)
  exact bF kitx_list I.kIn ⟨_,d,rfl⟩ e (λ z=>nomatch z) h
 |@tup a xs ea=>
  cases (show u=Value.ref a from r)
  obtain⟨_,_,_,p⟩:=(show jd X.prog X.w H s.heap a (.tup xs) from I.hok a _ ea)
  obtain⟨o,d,f,_⟩:=p;exact bF kitx_tuple I.kIn ⟨o,d,f.1⟩ e (λ z=>nomatch z) h
 |@dK a kvs ea=>
  cases (show u=Value.ref a from r)
  obtain⟨_,_,vs,_,p⟩:=(show jd X.prog X.w H s.heap a (.dK kvs) from I.hok a _ ea)
  obtain⟨o,l,v,d,f,_⟩:=p;exact bF kitx_dict I.kIn ⟨o,d,f.1⟩ e (λ z=>nomatch z) h
 |@dT a kvs ea=>
  cases (show u=Value.ref a from r)
  obtain⟨_,_,xs,_,o,l,v,d,f,_⟩:=(show jd X.prog X.w H s.heap a (.dT kvs) from I.hok a _ ea)
  exact bF kitx_dict I.kIn ⟨o,d,f.1⟩ e (λ z=>nomatch z) h
 |@ins a C dx fs ea cl j hn g hm=>
  cases (show u=Value.ref a from r)
  obtain⟨M,O,_⟩:=Ct I.hok ea;obtain⟨od,J,_⟩:=O.look;exact bF (PySem.W.kitx_own (cl.get _) cl.hd j hn g hm) I.kIn J e (λ z=>nomatch z) h
end
structure ju (k:Nat)(A:Around):Prop where
 hd:A.handled=none
 dp:A.depth+3 * k+5<recursionLimit
 un:A.units+16 * k+200<cLine
theorem ju.mono {k:Nat}{A:Around}(r:ju k A)(h:j<=k):ju j A:=⟨r.hd,by have:=r.dp;omega,by have:=r.un;omega⟩
theorem ju.deeper {k:Nat}{A:Around}(r:ju (k+1) A)(env:Env):ju k (A.deeper env):=
 ⟨r.hd,by have:=r.dp;show A.depth+1+3 * k+5<_;omega,by have:=r.un;show A.units+3+16 * k+200<_;omega⟩
theorem ju.depth {k:Nat}{A:Around}(r:ju k A):A.depth<recursionLimit:=by have:=r.dp;omega
theorem ju.units {k:Nat}{A:Around}(r:ju k A):A.units+64<cLine:=by have:=r.un;omega
noncomputable def Ta:TA:=λ _ H Q=>Q [] H
noncomputable def GJ (T:TE)(t:TA):TA:=λ σ H Q=>T σ H λ x H1=>t σ H1 λ xs h=>Q (x::xs) h
section
variable {X:Cx}{es:List Expr}{te:TE}{t:TA}
theorem j9:PA X [] Ta:=λ _ _ _ _ H Q I h=>Calls.spliced_nil ⟨[],H,I,.nil,h⟩
theorem jm (f:PE X e te)(d:PA X es t)(c:starEach (e::es) X.env=(false,eval e X.env)::starEach es X.env:=by rfl):PA X (e::es) (GJ te t):=by
 intro pos pins s σ H Q I h;rw[c];show wpAny _ _ (spliced ((false,eval e X.env)::backTo pos (starEach es X.env))) _ _ s;refine Calls.spliced_cons (zV (f pins s σ H _ I h) λ u s1 ⟨x,H1,g,a,b⟩=>?_);exact zV (d pos pins s1 σ H1 _ g b) λ us s2 ⟨xs,j,i,r,q⟩=>⟨x::xs,j,i,.cons a r,q⟩
def zcb (t:TA):TE:=λ σ H Q=>t σ H λ xs H1=>xs.length<=sizeLine/\∀p,H1 p=none->Q (.ref p) (upd H1 p (.tup xs))
def zbV (t:TA):TE:=λ σ H Q=>t σ H λ xs H1=>xs.length<=sizeLine/\∀p,H1 p=none->Q (.ref p) (upd H1 p (.lst xs))
theorem Nb {x1}(h:PA X es t):PE X (.Tuple es x1 pos) (zcb t):=by
 intro pins s σ H Q I a;refine wpAny_Tuple_spliced (zV (h pos pins s σ H _ I a) λ us s1 ⟨xs,H1,i,r,z,q⟩=>⟨by rw[<- r.length];exact z,?_⟩)
 have hf:H1 s1.heap.objs.size=none:=i.hok.fresh (aw _);refine⟨.ref s1.heap.objs.size,upd H1 s1.heap.objs.size (.tup xs),i.laid (t':=s1.toks) (λ b u e=>af _ e) (aw _) ?_,rfl,q _ hf⟩;exact⟨z,us,r,⟨_,au _ rfl,⟨rfl,rfl⟩,_,rfl⟩⟩
theorem zap (h:PA X es t):PE X (.List es pos) (zbV t):=by
 intro pins s σ H Q I a;refine wpAny_List_spliced (zV (h pos pins s σ H _ I a) λ us s1 ⟨xs,H1,i,r,z,q⟩=>⟨by rw[<- r.length];exact z,?_⟩)
 have hf:H1 s1.heap.objs.size=none:=i.hok.fresh (aw _);refine⟨.ref s1.heap.objs.size,upd H1 s1.heap.objs.size (.lst xs),i.laid (t':=s1.toks) (λ b u e=>af _ e) (aw _) ?_,rfl,q _ hf⟩;exact⟨z,us,0,r,au _ rfl⟩
end
abbrev Sp:=List V->Hp->VK->XK->Prop
abbrev gY:=List Env->Hp->Shared->XK->Value->Shared->Prop
structure Jm (P:Program)(w:World)(K:Frag)(mg:Str->Option Value)(base:Heap)(A:Around)(outer:List Env)(s:Shared)(H:Hp):Prop where
 frames:A.frames=some outer
 mod:Mod K mg base
 bs:∀b o,base.get? b=some o->s.heap.get? b=some o/\H b=none
 bsz:base.objs.size<=s.heap.objs.size
 funs:s.heap.FunFrames base outer
 frf:∀b∈qE outer,H b=none
 hok:jU P w H s.heap
 bare:AllBare s.gens
inductive CE (outer:List Env)(P:Program)(w:World)(H:Hp)(s:Shared)(Q:VK)(u:Value)(s':Shared):Prop
 |mk (v:V) (H':Hp) (os:s'.os=s.os) (b:AllBare s'.gens) (un:Un (qE outer) [] H H' s.heap s'.heap) (hk:jU P w H' s'.heap) (r:RelV v u) (q:Q v H')
def CR (C:gY)(outer:List Env)(P:Program)(w:World)(H:Hp)(s:Shared)(Q:VK)(E:XK)(r:Result)(s':Shared):Prop:=
 match r with
 |.ok (.ret u)=>CE outer P w H s Q u s'|.ok _=>False|.error e=>C outer H s E e s'
structure yN (P:Program)(w:World)(K:Frag)(mg:Str->Option Value)(base:Heap)(CX:gY)(k:Nat)(f:Addr)(fd:FuncData)(ps:List Str)(sp:Sp):Prop where
 len:∀vs H Q E,sp vs H Q E->vs.length=ps.length
 run:∀(A:Around)(outer:List Env)(s:Shared)(H:Hp)(args:Args)(us:List Value)(vs:List V)(Q:VK)(E:XK),ju k A->Jm P w K mg base A outer s H->BindsTo s fd args (ps.zip us)->Vals vs us->sp vs H Q E->
  codeAny (model P w) A (.call (.ref f) args) (CR CX outer P w H s Q E) s
theorem yN.mono {K:Frag}{C:gY}{k:Nat}{sp:Sp}(F:yN P w K mg base C j f fd ps sp)(h:j<=k):
  yN P w K mg base C k f fd ps sp:=⟨F.len,λ A outer s H args us vs Q E r=>F.run A outer s H args us vs Q E (r.mono h)⟩
theorem yN.imp {K:Frag}{C:gY}{k:Nat}{sp S:Sp}(F:yN P w K mg base C k f fd ps sp)
  (h:∀vs H Q E,S vs H Q E->sp vs H Q E):yN P w K mg base C k f fd ps S:=
 ⟨λ vs H Q E q=>F.len vs H Q E (h _ _ _ _ q),λ A outer s H args us vs Q E r he b v a=>F.run A outer s H args us vs Q E r he b v (h _ _ _ _ a)⟩
section
variable {X:Cx}{σ:St}{H:Hp}
theorem Inv.env0 (I:Inv X pins σ H s):Jm X.prog X.w X.K X.mg X.base X.A X.stack s H:=
 ⟨I.ok.frames,I.ok.mod,I.bs,br I.ok.bsz I.sz,I.stack,I.stkFree,I.hok,I.bare⟩
theorem Inv.after {Q:VK}(I:Inv X pins σ H s)(h:CE X.stack X.prog X.w H s Q u s'):EP X pins σ Q u s':=by
 obtain⟨v,c,os,bare,un,hok,r,q⟩:=h;obtain⟨a,g,d,t,o⟩:=s';obtain rfl:o=s.os:=os;exact⟨v,c,I.call (h':=a) (g':=g) (d':=d) (t':=t) (ch:=[]) un hok bare (λ b z=>absurd z (by simp)),r,q⟩
end
noncomputable def zby (sp:Sp)(d:List V)(E:XK)(t:TA):TE:=λ σ H Q=>t σ H λ vs H1=>sp (vs++d) H1 Q E
def Binds (K:Frag)(fd:FuncData)(ps:List Str)(ds:List Value):Prop:=
 ∀(s:Shared)(us:List Value),K.In s.heap->(us++ds).length=ps.length->BindsTo s fd ⟨us,[]⟩ (ps.zip (us++ds))
theorem Binds.all {K:Frag}(h:∀us:List Value,us.length=ps.length->bindArgs fd ⟨us,[]⟩=pure (ps.zip us)):Binds K fd ps []:=λ s us _ H=>by
 rw[bo]at H ⊢;exact .of_eq (h us H)
def Passes (C:gY)(X:Cx)(E:XK):Prop:=∀(pins:List (Addr×Obj))(σ:St)(H:Hp)(s:Shared)(e:Value)(s':Shared),Inv X pins σ H s->C X.stack H s E e s'->X.xe e s'
section
variable {X:Cx}{CX:gY}{k:Nat}{sp:Sp}{dvs:List V}{ds:List Value}{E:XK}{es:List Expr}{t:TA}
theorem Bw {σ:St}{H:Hp}{Q:VK}{vs:List V}(F:yN X.prog X.w X.K X.mg X.base CX k f fd ps sp)(b:ju k X.A)(c:Binds X.K fd ps ds)(hd:Vals dvs ds)(x:Passes CX X E)
  (I:Inv X pins σ H s)(r:Vals vs us)(h:sp (vs++dvs) H Q E):wpAny (model X.prog X.w) X.A (call (.ref f) us) (EP X pins σ Q) X.xe s:=by
 have a:Vals (vs++dvs) (us++ds):=r.append hd;have l:(us++ds).length=ps.length:=by rw[<- a.length];exact F.len _ _ _ _ h
 refine wpAny_call (codeAny_mono (F.run X.A X.stack s H ⟨us,[]⟩ (us++ds) (vs++dvs) Q E b I.env0 (c s us I.kIn l) a h) λ r s' q=>?_);cases r with
 |error e=>exact x pins σ H s e s' I q|ok d=>
  cases d with
  |ret u=>exact I.after q|next=>exact False.elim q|brk=>exact False.elim q|cont=>exact False.elim q
theorem OO (F:yN X.prog X.w X.K X.mg X.base CX k f fd ps sp)(c:ju k X.A)(g:Gl X x)(hm:X.mg x=some (.ref f))(d:keepIn X.K (.ref f)=true)(j:Binds X.K fd ps ds)(hd:Vals dvs ds)(a:Passes CX X E)
  (n:PA X (e::es) t)(b:(x==("__debug__" : Str))=false:=by decide)(he:starEach (e::es) X.env=(false,eval e X.env)::starEach es X.env:=by rfl)(l:(backTo pos (starEach es X.env)).any (·.1)=false:=by rfl):
  PE X (.Call (.Name x p) (e::es) [] pos) (zby sp dvs E t):=by
 intro pins s σ H Q I h;refine wpAny_Call_Name_kw (J3 I g hm ?_ b);refine callWith_K (h₀:=X.base) I.ok.mod.kin d (zV (n pos pins s σ H _ I h) λ us s1 ⟨vs,H1,i,r,q⟩=>⟨i.kIn,?_⟩) he l;exact Bw F c j hd a i r q
end
structure qN (N P:List Str)(sc:Scope):Prop where
 kind:sc.kind=.function
 co:sc.isCoroutine=false
 gen:sc.isGenerator=false
 nd:N.Nodup
 pre:N.take P.length=P
 par:∀x∈P,sc.names.lookup x=some .local∨sc.names.lookup x=some .cell
 nofree:∀y∈sc.names,y.2≠.free
theorem Ph {kindOf:Str->Option NameKind}:∀{binds:List (Str×Value)}{m:Str->Option Value},(∀v,(x,v)∉binds)->bindL kindOf binds m x=m x
 |[],_,_=>rfl|(n,v)::r,m,h=>by
  unfold bindL;rw[Ph λ w hw=>h w (ax _ hw)]
  split
  ·have:x≠n:=by rintro rfl;exact h v aE
   simp[this]
  ·rfl
theorem Pc {kindOf:Str->Option NameKind}:∀{binds:List (Str×Value)}{m:Str->Option Value},(∀v,(x,v)∉binds)->bindC kindOf binds m x=m x
 |[],_,_=>rfl|(n,v)::r,m,h=>by
  unfold bindC;rw[Pc λ w hw=>h w (ax _ hw)]
  split
  ·rfl
  ·have:x≠n:=by rintro rfl;exact h v aE
   simp[this]
theorem RU {kindOf:Str->Option NameKind}{v:Value}:∀{P:List Str}{vs:List Value}{i:Nat}{m:Str->Option Value},P.Nodup->P[i]? =some x->vs[i]? =some v->kindOf x=some .local->
  bindL kindOf (P.zip vs) m x=some v
 |[],_,_,_,_,h,_,_=>by simp at h|_::_,[],_,_,_,_,h,_=>by simp at h|p::P,w::vs,0,m,nd,h1,H,a=>by
  simp at h1 H;subst h1;subst H;show bindL kindOf ((p,w)::P.zip vs) m p=_;unfold bindL;rw[Ph λ v b=>(List.nodup_cons.mp nd).1 (of_mem_zip b).1,ag a];simp
 |p::P,w::vs,i+1,m,nd,h1,H,a=>by
  show bindL kindOf ((p,w)::P.zip vs) m x=_;unfold bindL;exact RU (i:=i) (List.nodup_cons.mp nd).2 (by simpa using h1) (by simpa using H) a
theorem R4 {kindOf:Str->Option NameKind}{v:Value}:∀{P:List Str}{vs:List Value}{i:Nat}{m:Str->Option Value},P.Nodup->P[i]? =some x->vs[i]? =some v->kindOf x≠some .local->
  bindC kindOf (P.zip vs) m x=some v
 |[],_,_,_,_,h,_,_=>by simp at h|_::_,[],_,_,_,_,h,_=>by simp at h|p::P,w::vs,0,m,nd,h1,H,a=>by
  simp at h1 H;subst h1;subst H;show bindC kindOf ((p,w)::P.zip vs) m p=_;unfold bindC;rw[Pc λ v b=>(List.nodup_cons.mp nd).1 (of_mem_zip b).1,ak a];simp
 |p::P,w::vs,i+1,m,nd,h1,H,a=>by
  show bindC kindOf ((p,w)::P.zip vs) m x=_;unfold bindC;exact R4 (i:=i) (List.nodup_cons.mp nd).2 (by simpa using h1) (by simpa using H) a
noncomputable def start (N:List Str)(vs:List V):St:=vs.map some++List.replicate (N.length - vs.length) none
noncomputable def wt (C:gY)(P:Program)(w:World)(K:Frag)(mg:Str->Option Value)(base:Heap)(N:List Str)(qual:Str)(scope:Scope)(f:Addr)(cd:Value)(A:Around)(outer:List Env)(s:Shared)(H:Hp)(E:XK):Cx where
 prog:=P
 w:=w
 K:=K
 mg:=mg
 base:=base
 A:=A.deeper (envOfC qual scope s.heap.objs.size f cd)
 N:=N
 s0:=s
 H0:=H
 env:=envOfC qual scope s.heap.objs.size f cd
 outer:=outer
 stack:=envOfC qual scope s.heap.objs.size f cd::outer
 ex:=[]
 calm:=true
 fn:=λ _=>true
 pn:=[]
 xe:=λ e s'=>wpAny (model P w) (A.deeper (envOfC qual scope s.heap.objs.size f cd)) (leaving (envOfC qual scope s.heap.objs.size f cd) e) (λ _ S=>C outer H s E e S) (λ a S=>C outer H s E a S) s'
theorem PZ (h:sc.names.lookup x=some .cell):∃c,(cellsFrom n sc.names []).lookup x=some c:=by
 have q:=cellsFrom_some sc.names n [] (.inl h);exact Option.isSome_iff_exists.mp q
theorem Fb {X:gY}{K:Frag}{cd:Value}{A:Around}{outer:List Env}{s1:Shared}{H:Hp}{E:XK}{vs:List V}
  (S:qN N ps scope)(hd:A.handled=none)(e0:Jm P w K mg base A outer s H)(M:vs.length=ps.length)(r:Vals vs us)
  (x:InCallC s s.heap.objs.size (bindL (envOfC qual scope s.heap.objs.size f cd).kindOf (ps.zip us) λ _=>none) (cellsFrom (s.heap.objs.size+1) scope.names []) (bindC (envOfC qual scope s.heap.objs.size f cd).kindOf (ps.zip us) λ _=>none) s1):
  Inv (wt X P w K mg base N qual scope f cd A outer s H E) [] (start N vs) H s1:=by
 have J:ps.length<=N.length:=by have:=congrArg List.length S.pre;rw[bt]at this;omega
 obtain⟨B,tk,rfl,D⟩:=x.done;have g:∀b:Addr,b∉(wt X P w K mg base N qual scope f cd A outer s H E).ex:=λ b z=>absurd (show b∈([]:List Addr) from z) (by simp)
 refine⟨⟨e0.mod,S.kind,rfl,rfl,aw _,λ y z c B d=>?_,λ y j=>?_,λ y c _ h=>?_,λ _=>hd,Around.frames_deeper e0.frames,.inr ⟨rfl,rfl⟩,λ b z=>absurd z (g b),e0.bs,e0.bsz,λ b _ _=>g b,λ b z=>absurd z (g b),e0.funs,e0.frf⟩,
  rfl,e0.bare,Un.kept D,⟨_,x.toInCall.ns,λ i y v B d Q=>?_⟩,λ y c h=>⟨_,x.cell y c h⟩,e0.hok.fresh (aw _),λ y c h=>?_,λ p o=>absurd (show p∈([]:List (Addr×Obj)) from o) (by simp),e0.hok.kept D,?_⟩
 ·exact name_of_addr x.apart (PySem.mem_of_lookup B) (PySem.mem_of_lookup d)
 ·have j:scope.names.lookup y=some .cell∨scope.names.lookup y=some .free:=j
  rcases j with j|j
  ·exact PZ j
  ·exact absurd rfl (S.nofree _ (PySem.mem_of_lookup j))
 ·exact bD (x.above y c (PySem.mem_of_lookup h))
 ·have t:i<vs.length:=by
   unfold start at d
   by_cases t:i<vs.length
   ·exact t
   ·rw[aq (by simpa using t)]at d
    rw[bj]at d
    split at d<;>cases d
  have L:vs[i]? =some v:=by
   unfold start at d;rw[ah (by simpa using t),ar]at d
   cases e:vs[i]? with
   |none=>rw[e]at d;cases d|some a=>rw[e]at d;cases d;rfl
  obtain⟨u,C,I⟩:=r.get L;have o:ps[i]? =some y:=by
   rw[<- S.pre,List.getElem?_take_of_lt (by omega)];exact B
  have l:ps.Nodup:=by rw[<- S.pre];exact S.nd.sublist (List.take_sublist _ _)
  refine⟨u,I,?_⟩;rcases S.par y (mem_of_getElem? o) with k|k
  ·exact .inl ⟨k,RU l o C k⟩
  ·obtain⟨c,e⟩:=PZ (n:=s.heap.objs.size+1) k
   refine .inr ⟨.inl k,c,e,?_⟩;have q:=x.cell y c e;rw[R4 l o C (by show scope.names.lookup y≠_;rw[k];decide)]at q
   exact q
 ·exact e0.hok.fresh (bD (x.above y c (PySem.mem_of_lookup h)))
 ·unfold start
  show _=N.length;rw[ay,ai,bx];omega
theorem UI {C:gY}{K:Frag}{k:Nat}{name:Str}{params:Arguments}{D kV doc pm c ct B:Value}{an od:Option Addr}
  {sp:Sp}(lk:K.lookup f=some ⟨B,od,.func (fnOf name qual params body scope D kV doc pm an c ct),osl⟩)(z:codeIn K c qual=true)(S:qN N ps scope)
  (len:∀vs H Q E,sp vs H Q E->vs.length=ps.length)
  (g:∀(A:Around)(outer:List Env)(s:Shared)(H:Hp)(vs:List V)(Q:VK)(E:XK),ju k (A.deeper (envOfC qual scope s.heap.objs.size f c))->sp vs H Q E->
   ∃t,yQ (wt C P w K mg base N qual scope f c A outer s H E) body t/\t { nx:=λ _ h=>Q .non h,rt:=Q } (start N vs) H):
  yN P w K mg base C (k+1) f (fnOf name qual params body scope D kV doc pm an c ct) ps sp:=by
 refine⟨len,λ A outer s H args us vs Q E l e0 Y r p=>?_⟩;have U:=len _ _ _ _ p;have X:K.In s.heap:=e0.mod.kin.keeps λ b o e=>(e0.bs b o e).1;have lim:s.heap.NoLimit:=e0.mod.nolimit.keeps λ b o e=>(e0.bs b o e).1;have d:∀y∈ps.zip us,scope.names.lookup y.1=some .local∨(scope.names.lookup y.1=some .cell/\((cellsFrom (s.heap.objs.size+1) scope.names []).lookup y.1).isSome=true):=λ ⟨n,v⟩ L=>by
  rcases S.par n (of_mem_zip L).1 with q|q
  ·exact .inl q
  ·exact .inr ⟨q,cellsFrom_some _ _ _ (.inl q)⟩
 refine codeAny_call_function l.depth (X _ _ lk) rfl S.co S.gen rfl (PySem.W.codeRec_of X z) (Y _ _ _ _ ?_);refine wpAny_newFunctionEnv_cells S.kind d λ env he s1 x=>?_;subst he;refine⟨lim.keeps x.toInCall.keep,codeAny_func ?_⟩;obtain⟨t,M,T⟩:=g A outer s H vs Q E (l.deeper _) p;have I:Inv (wt C P w K mg base N qual scope f c A outer s H E) [] (start N vs) H s1:=Fb S l.hd e0 U r x;refine wpAny_mono (M [] s1 (start N vs) H _ I T) (λ Z s' i=>?_) λ e s' i=>i;have fin:∀{a:St}{h:Hp}{v:V}{u:Value},Inv (wt C P w K mg base N qual scope f c A outer s H E) [] a h s'->RelV v u->Q v h->CE outer P w H s Q u s':=
  λ {a h v u} J j q=>⟨v,h,J.os,J.bare,J.base,J.hok,j,q⟩
 cases Z with
 |ret u=>
  obtain⟨v,a,h,J,j,q⟩:=i;exact fin J j q
 |next=>
  obtain⟨a,h,J,q⟩:=i;exact fin (v:=V.non) (u:=Value.none) J rfl q
 |brk=>
  obtain⟨_,_,_,q⟩:=i;exact False.elim q
 |cont=>
  obtain⟨_,_,_,q⟩:=i;exact False.elim q
section
variable {X:Cx}{es:List Expr}{t:TA}{id T:String}{r:List V->Hp->VK->Prop}
noncomputable def Xg (r:List V->Hp->VK->Prop)(t:TA):TE:=λ σ H Q=>t σ H λ vs H1=>r vs H1 Q
theorem Qs (c:ye X (.builtin id) r)(g:Gl X x)(hm:X.mg x=none)(v:bootBuiltins x=some (.builtin id))(d:PA X (e::es) t)(hn:x ≠ "__name__" := by decide)(b:(x==("__debug__" : Str))=false:=by decide)
  (he:starEach (e::es) X.env=(false,eval e X.env)::starEach es X.env:=by rfl)(l:(backTo pos (starEach es X.env)).any (·.1)=false:=by rfl):PE X (.Call (.Name x p) (e::es) [] pos) (Xg r t):=by
 intro pins s σ H Q I h;refine wpAny_Call_Name_kw (Qy I g hm v ?_ hn b);exact PyProof.Rows.callWith_builtin1 (zV (d pos pins s σ H _ I h) λ us s1 ⟨vs,H1,i,a,q⟩=>c pins s1 σ H1 vs us Q i a q) he l
theorem JJ (c:ye X (.type T) r)(g:Gl X x)(hm:X.mg x=none)(v:bootBuiltins x=some (.type T))(d:PA X (e::es) t)(hn:x ≠ "__name__" := by decide)(b:(x==("__debug__" : Str))=false:=by decide)
  (he:starEach (e::es) X.env=(false,eval e X.env)::starEach es X.env:=by rfl)(l:(backTo pos (starEach es X.env)).any (·.1)=false:=by rfl):PE X (.Call (.Name x p) (e::es) [] pos) (Xg r t):=by
 intro pins s σ H Q I h;refine wpAny_Call_Name_kw (Qy I g hm v ?_ hn b);exact PyProof.Rows.callWith_type1 (zV (d pos pins s σ H _ I h) λ us s1 ⟨vs,H1,i,a,q⟩=>c pins s1 σ H1 vs us Q i a q) he l
end
end L2
variable {X:L2.Cx}{H:L2.Hp}{kvs:List (L2.Key×L2.V)}{vs xs ys:List L2.V}{r:List L2.V->L2.Hp->L2.VK->Prop}{σ:L2.St}{v:L2.V}
namespace HT
open PySem PyProof.Rows
section
open PySem.SeqAt
open PySem.AutoSeq1 (wpAny_loadPart')
open PySem.MeetsSeq PySem.MeetsSeq2 PySem.MeetsSeq3
end
section
variable {prog:Program}{A:Around}
theorem CV {t:Addr}{vs ws:List Value}(a:IsTup s.heap t vs.toArray)(f:IsTup s.heap b ws.toArray)(v:vs≠[])
  (i:ws=[]->Q (.ref t) s)(g:ws≠[]->Q (.ref s.heap.objs.size) { s with heap:=s.heap.push { cls:=.type "tuple",data:=.seq (vs++ws).toArray } })
  (z:vs.length+ws.length<=sizeLine):wpAny (model prog w) A (binaryOp .Add (.ref t) (.ref b)) Q E s:=by
 obtain⟨⟨cls,dd,data,l⟩,o,c,n,hd⟩:=id a;obtain⟨⟨C,d,data2,S⟩,h,H,N,hd2⟩:=id f;simp only at c hd H hd2;subst c hd H hd2;have e:vs.toArray++ws.toArray=(vs++ws).toArray:=by simp
 by_cases hw:ws=[]
 ·exact concat_meets ⟨_,o,rfl⟩ ⟨_,h,rfl⟩ noFill_tuple_add seq_tuple_add slot_tuple_add entry_tuple_add (args_tuple_add_2 _ _)
   (tuple_addW1 t b vs.toArray ws.toArray n N dd d l S (by simpa using v) (by simp[hw])) ⟨o,h,i hw⟩
 ·refine concat_meets ⟨_,o,rfl⟩ ⟨_,h,rfl⟩ noFill_tuple_add seq_tuple_add slot_tuple_add entry_tuple_add (args_tuple_add_2 _ _)
   (tuple_addW2 t b vs.toArray ws.toArray n N dd d l S (by simpa using v) (by simpa using hw) (by rw[aF,aF];exact z)) ⟨o,h,?_⟩
  rw[e];exact g hw
noncomputable def qA (n d:Nat):Option Int->Nat
 |none=>d|some v=>if v<0 then(v+(n:Int)).toNat else min v.toNat n
theorem AJ (n d:Nat)(hd:d<=n)(o:Option Int):qA n d o<=n:=by
 cases o with
 |none=>exact hd|some v=>
  show(if v<0 then(v+(n:Int)).toNat else min v.toNat n)<=n
  by_cases h:v<0
  ·rw[ag h];omega
  ·rw[ak h];exact Nat.min_le_right _ _
theorem Oz (v:Int)(n d:Nat):(if v<0 then max (v+(n:Int)) 0 else min v (n:Int))=((qA n d (some v):Nat):Int):=by
 show(if v<0 then max (v+(n:Int)) 0 else min v (n:Int))=(((if v<0 then(v+(n:Int)).toNat else min v.toNat n):Nat):Int)
 by_cases h:v<0
 ·simp only[ag h];omega
 ·simp only[ak h];omega
theorem Ha (lo h:Option Int)(n:Nat):Builtin.Slice.sliceAdjust lo h 1 (n:Int)=(((qA n 0 lo:Nat):Int),((qA n n h:Nat):Int)):=by
 have H:¬((1:Int)<0):=by omega
 unfold Builtin.Slice.sliceAdjust;simp only[H,if_false];refine Prod.ext ?_ ?_
 ·cases lo with
  |none=>rfl|some v=>exact Oz v n 0
 ·cases h with
  |none=>rfl|some v=>exact Oz v n n
theorem Hr (i j:Nat):Builtin.Slice.slicePlaces (i:Int) (j:Int) 1=j - i:=by
 unfold Builtin.Slice.slicePlaces;have h:(1:Int) > 0:=by omega
 simp only[h,if_true,Int.ediv_one]
 split<;>omega
theorem RJ {v:Value}{o:Option Int}{Q:Option Int->Shared->Prop}(p:IsPart v o)(h:Q o s):wpAny (model prog w) A (Builtin.Slice.slicePartIndex v) Q E s:=by
 cases p with
 |none=>exact slicePart_none h|int i t=>exact slicePart_int h
theorem TN {S:Addr}{l v:Value}{lo i:Option Int}{Q:Int×Int×Nat->Shared->Prop}(b:s.heap.IsSliceOf S l v .none)(p:IsPart l lo)(pu:IsPart v i)
  (h:Q (((qA n 0 lo:Nat):Int),1,qA n n i - qA n 0 lo) s):wpAny (model prog w) A (Builtin.Slice.sliceApplied (.ref S) (pure (n:Int))) Q E s:=by
 obtain⟨os,H,c,a⟩:=id b;unfold Builtin.Slice.sliceApplied Builtin.Slice.sliceFields;refine qa0 (qa0 (wpAny_field H a (x:=l) rfl (qa0 (wpAny_field H a (x:=v) rfl (qa0 (wpAny_field H a (x:=.none) rfl (qa1 ?_)))))));refine qa0 (slicePart_none ?_);show wpAny _ _ (if ((1:Int)==0)=true then _ else _) _ _ s;rw[ak (by decide)]
 refine qa0 (RJ p (qa0 (RJ pu (qa0 (qa1 ?_)))));show wpAny _ _ (match Builtin.Slice.sliceAdjust lo i 1 (n:Int) with | (lo,i)=>pure (lo,(1:Int),Builtin.Slice.slicePlaces lo i 1)) _ _ s
 rw[Ha lo i n];show wpAny _ _ (pure (((qA n 0 lo:Nat):Int),(1:Int),Builtin.Slice.slicePlaces ((qA n 0 lo:Nat):Int) ((qA n n i:Nat):Int) 1)) _ _ s;rw[Hr];exact qa1 h
theorem Dn (xs:Array Value)(i k:Nat):((List.range k).filterMap λ (m:Nat)=>xs[((i:Int)+(m:Int) * 1).toNat]?).toArray=((xs.toList.drop i).take k).toArray:=by
 have e:(λ (m:Nat)=>xs[((i:Int)+(m:Int) * 1).toNat]?)=λ m=>xs[i+m]?:=by
  funext m
  have:((i:Int)+(m:Int) * 1).toNat=i+m:=by omega
  rw[this]
 rw[e]
 have:=pick_run xs i k
 rw[List.filterMap_map]at this;have E:((λ x=>xs[x]?) ∘ λ x=>i+x)=λ m=>xs[i+m]?:=rfl;rw[E]at this;rw[this]
theorem My {t S:Addr}{l v:Value}{lo i:Option Int}(a:IsTup s.heap t items)(e:s.heap.IsSliceOf S l v .none)(p:IsPart l lo)(pu:IsPart v i)
  (hw:¬(qA items.size 0 lo=0/\qA items.size items.size i=items.size))
  (h:Q (.ref s.heap.objs.size) { s with heap:=s.heap.push { cls:=.type "tuple",data:=.seq ((items.toList.drop (qA items.size 0 lo)).take (qA items.size items.size i - qA items.size 0 lo)).toArray } })
  (z:items.size<=sizeLine):wpAny (model prog w) A (getItem (.ref t) (.ref S)) Q E s:=by
 have H:sizeOk (.seq ((items.toList.drop (qA items.size 0 lo)).take (qA items.size items.size i - qA items.size 0 lo)).toArray):=by
  show((items.toList.drop (qA items.size 0 lo)).take (qA items.size items.size i - qA items.size 0 lo)).toArray.size<=sizeLine;rw[aF,bt,bL,aT];omega
 have n:qA items.size items.size i<=items.size:=AJ _ _ (aw _) i;obtain⟨os,b,c,f⟩:=id e;have d:s.TypeIs (.ref S) "slice" := ⟨os,b,c⟩;unfold getItem
 try with_reducible refine wpAny_holding ?_
 first|refine qa0 (qa1 ?_) | skip
 refine qa0 (wpAny_sequenceKey a.typeIs (by decide) ?_)
 refine qa0 (wpAny_callSpecial?_slot (name:=Str.ofString "__getitem__") a.typeIs PyProof.Rows.slot_tuple_getitem
  (wpAny_call_entry PyProof.Rows.slot_tuple_getitem a.typeIs entry_tuple_getitem ?_ (args_tuple_getitem _ _)))
 show wpAny _ _ (Builtin.Tuple.tupleItemsOf (.ref t) >>= _) _ _ s;refine qa0 (tupleItemsOf_ a ?_);refine qa0 (wpAny_typeOf d ?_);rw[ag (by decide)]
 refine qa0 (TN e p pu ?_);have o:¬((((qA items.size 0 lo:Nat):Int)==0&&(1:Int)==1&&(qA items.size items.size i - qA items.size 0 lo)==items.size)=true):=by
  intro q;rw[aj,aj]at q;have j:((qA items.size 0 lo:Nat):Int)=0:=eq_of_beq q.1.1;have g:qA items.size items.size i - qA items.size 0 lo=items.size:=eq_of_beq q.2;exact hw ⟨by omega,by omega⟩
 show wpAny _ _ (if (((qA items.size 0 lo:Nat):Int)==0&&(1:Int)==1&&(qA items.size items.size i - qA items.size 0 lo)==items.size)=true then _ else _) _ _ s;rw[ak o,Dn]
 first
  |exact qa0 (m:=Builtin.Tuple.tupleExact _) (wpAny_newObj_type (qa1 ⟨_,rfl,qa1 h⟩) H)
  |exact qa0 (m:=Builtin.Tuple.tupleExact _) (wpAny_newObj_type (qa0 (qa1 (qa1 ⟨_,rfl,qa1 h⟩))) H)
  |exact qa0 (qa0 (m:=Builtin.Tuple.tupleExact _) (wpAny_newObj_type (qa1 (qa1 ⟨_,rfl,qa1 h⟩)) H))
  |exact qa0 (qa0 (m:=Builtin.Tuple.tupleExact _) (wpAny_newObj_type (qa1 ⟨_,rfl,qa1 h⟩) H))
end
end HT
namespace L2
open PySem PySem.Spec PyProof.Rows
abbrev TO:=St->Hp->(Option Int->Hp->Prop)->Prop
def PO (X:Cx)(e:Option Expr)(t:TO):Prop:=
 ∀(pins:List (Addr×Obj))(s:Shared)(σ:St)(H:Hp)(Q:Option Int->Hp->Prop),Inv X pins σ H s->t σ H Q->
  wpAny (model X.prog X.w) X.A (evalPart e X.env) (λ u s'=>∃o h,Inv X pins σ h s'/\IsPart u o/\Q o h) X.xe s
noncomputable def CZ:TO:=λ _ H Q=>Q none H
noncomputable def zbe (t:TE):TO:=λ σ H Q=>t σ H λ x H1=>∃i,x=.int i/\Q (some i) H1
section
variable {te:TE}{lo hi:Option Expr}{tl th:TO}{p2:Pos}
theorem Cz:PO X none CZ:=by
 intro pins s σ H Q I h;rw[evalPart_none];exact qa1 ⟨none,H,I,.none,h⟩
theorem Bo (h:PE X e te):PO X (some e) (zbe te):=by
 intro pins s σ H Q I hw;rw[evalPart_some];refine zV (h pins s σ H _ I hw) λ u s1 ⟨x,H1,b,r,a⟩=>?_;obtain⟨i,rfl,q⟩:=a;obtain⟨t,rfl⟩:=r;exact⟨some i,H1,b,.int i t,q⟩
def Te (X:Cx)(r:V->Option Int->Option Int->Hp->VK->Prop):Prop:=
 ∀(pins:List (Addr×Obj))(s:Shared)(σ:St)(H:Hp)(x:V)(v l u:Value)(lo hi:Option Int)(S:Addr)(Q:VK),Inv X pins σ H s->RelV x v->s.heap.IsSliceOf S l u .none->IsPart l lo->IsPart u hi->r x lo hi H Q->
  ∃T id,typeLookup (.type T) "__getitem__" = pure (some (.builtin id))/\s.TypeIs v T/\wpAny (model X.prog X.w) X.A (getItem v (.ref S)) (EP X pins σ Q) X.xe s
noncomputable def tSl (r:V->Option Int->Option Int->Hp->VK->Prop)(T:TE)(t th:TO):TE:=λ σ H Q=>T σ H λ x H1=>t σ H1 λ l a=>th σ a λ u h=>r x l u h Q
theorem F6 {r:V->Option Int->Option Int->Hp->VK->Prop}(o:Te X r)(he:PE X e te)(y:PO X lo tl)(n:PO X hi th):PE X (.Subscript e (.Slice lo hi none p2) pos) (tSl r te tl th):=by
 intro pins s σ H Q I h;refine Subscript_ (zV (he pins s σ H _ I h) λ v s1 ⟨x,H1,J,f,j⟩=>?_);refine wpAny_Slice (zV (y pins s1 σ H1 _ J j) λ c s2 ⟨l,K,E,p,i⟩=>zV (n pins s2 σ K _ E i) λ a s3 ⟨u,d,D,pu,g⟩=>?_);rw[evalPart_none];refine qa1 ?_;have C:Inv X pins σ d { s3 with heap:=s3.heap.push { cls:=.type "slice",data:=.fields #[c,a,.none] } }:=D.kept (t':=s3.toks) λ b ob q=>af _ q
 obtain⟨T,id,B,t,z⟩:=o pins { s3 with heap:=s3.heap.push { cls:=.type "slice",data:=.fields #[c,a,.none] } } σ d x v c a l u s3.heap.objs.size Q C f (Heap.IsSliceOf.new ..) p pu g
 show wpAny (model X.prog X.w) X.A (subscriptTail e (.Slice lo hi none p2) v (.ref s3.heap.objs.size)) (EP X pins σ Q) X.xe { s3 with heap:=s3.heap.push { cls:=.type "slice",data:=.fields #[c,a,.none] } }
 exact tail_any (ops:=[.ref s3.heap.objs.size,v]) t B z (by with_unfolding_all rfl)
noncomputable def Ji (xs:List V)(lo h:Option Int):List V:=(xs.drop (HT.qA xs.length 0 lo)).take (HT.qA xs.length xs.length h - HT.qA xs.length 0 lo)
theorem IA (xs:List V)(lo h:Option Int):(Ji xs lo h).length<=xs.length:=by
 unfold Ji;rw[bt,bL];omega
def zcf (K:Frag):V->Option Int->Option Int->Hp->VK->Prop:=λ x lo h H Q=>∃a xs,x=.ref a/\qD K H a xs/\
 ¬(HT.qA xs.length 0 lo=0/\HT.qA xs.length xs.length h=xs.length)/\∀p,H p=none->Q (.ref p) (upd H p (.tup (Ji xs lo h)))
theorem BR:Te X (zcf X.K):=by
 intro pins s σ H x v l u lo c S Q I d f p pu h;obtain⟨a,xs,rfl,e,hw,q⟩:=h;cases d;obtain⟨i,r,t,z⟩:=I.tuple e;have hlen:i.toArray.size=xs.length:=by rw[aF];exact r.length.symm
 refine⟨"tuple",_,PyProof.Rows.slot_tuple_getitem.lookup,t.typeIs,?_⟩;refine HT.My t f p pu (by rw[hlen];exact hw) ?_ (by rw[hlen];exact z)
 rw[hlen];refine⟨.ref s.heap.objs.size,_,I.laid (t':=s.toks) (o:=.tup (Ji xs lo c)) (λ b ob q=>af _ q) (aw _) ?_,rfl,q _ (I.hok.fresh (aw _))⟩;exact⟨br (IA xs lo c) z,_,(r.drop (HT.qA xs.length 0 lo)).take (HT.qA xs.length xs.length c - HT.qA xs.length 0 lo),Qz.new _ _⟩
def NA (K:Frag):R2:=λ x y H Q=>∃a b xs ys,x=.ref a/\y=.ref b/\qD K H a xs/\qD K H b ys/\xs≠[]/\xs.length+ys.length<=sizeLine/\
 (ys=[]->Q (.ref a) H)/\(ys≠[]->∀p,H p=none->Q (.ref p) (upd H p (.tup (xs++ys))))
theorem Vals.nil_iff (r:Vals xs us):us=[]↔xs=[]:=by
 cases r with
 |nil=>simp|cons _ _=>simp
theorem D9:ja X (binaryOp .Add) (NA X.K):=by
 intro pins s σ H x y v u Q I f e h;obtain⟨a,b,xs,ys,rfl,rfl,A,t,n,d,j,g⟩:=h;cases f;cases e;obtain⟨l,c,P,_⟩:=I.tuple A;obtain⟨i,r,p,_⟩:=I.tuple t;refine HT.CV P p (λ z=>n (c.nil_iff.mp z)) (λ z=>⟨.ref a,H,I,rfl,j (r.nil_iff.mp z)⟩) (λ z=>?_) (by rw[<- c.length,<- r.length];exact d)
 refine⟨.ref s.heap.objs.size,_,I.laid (t':=s.toks) (o:=.tup (xs++ys)) (λ b ob q=>af _ q) (aw _) ?_,rfl,g (λ w=>z (r.nil_iff.mpr w)) _ (I.hok.fresh (aw _))⟩;exact⟨by rw[ay];exact d,_,c.append r,Qz.new _ _⟩
end
noncomputable def gU (n:Nat)(i:Int):Option Nat:=if 0<=i then(if i<n then some i.toNat else none) else if -(n:Int)<=i then some (i+n).toNat else none
def wQ (xs:List α)(i:Int):Option α:=(gU xs.length i).bind λ j=>xs[j]?
theorem Ox {i:Int}(h:gU n i=some j):seqIndex? i n=some j/\j<n/\-(n:Int)<=i/\i<n:=by
 unfold gU at h
 by_cases h0:0<=i
 ·rw[ag h0]at h
  by_cases h1:i<n
  ·rw[ag h1]at h
   have e:i.toNat=j:=aB h;exact⟨by rw[seqIndex_of h0 h1,e],by omega,by omega,h1⟩
  ·rw[ak h1]at h;cases h
 ·rw[ak h0]at h
  by_cases h1:-(n:Int)<=i
  ·rw[ag h1]at h
   have e:(i+n).toNat=j:=aB h;exact⟨by rw[seqIndex_neg (by omega) h1,e],by omega,h1,by omega⟩
  ·rw[ak h1]at h;cases h
theorem VY {xs:List α}{i:Int}{v:α}(h:wQ xs i=some v):∃j,seqIndex? i xs.length=some j/\xs[j]? =some v/\j<xs.length/\-(xs.length:Int)<=i/\i<xs.length:=by
 unfold wQ at h;cases e:gU xs.length i with
 |none=>rw[e]at h;cases h|some j=>
  rw[e]at h;obtain⟨c,b,a,H⟩:=Ox e;exact⟨j,c,h,b,a,H⟩
theorem Ga {xs:List α}{v:α}(h:xs[j]? =some v):wQ xs (j:Int)=some v:=by
 have H:j<xs.length:=(qa2.mp h).1;have e:gU xs.length (j:Int)=some j:=by
  unfold gU;rw[ag (by omega),ag (by omega)];simp
 unfold wQ;rw[e];exact h
def OK (b:Expr):Prop:=∀o i,subscripted b false o i=operate [o,i] (getItem o i)
def Qk (X:Cx)(r:R2):Prop:=
 ∀(value slice:Expr)(pins:List (Addr×Obj))(s:Shared)(σ:St)(H:Hp)(x y:V)(v u:Value)(Q:VK),Inv X pins σ H s->RelV x v->RelV y u->r x y H Q->
  subscripted slice false v u=operate [v,u] (getItem v u)->wpAny (model X.prog X.w) X.A (subscriptTail value slice v u) (EP X pins σ Q) X.xe s
def K0 (X:Cx)(id:String)(r:V->List V->Hp->VK->Prop):Prop:=
 ∀(pins:List (Addr×Obj))(s:Shared)(σ:St)(H:Hp)(x:V)(xs:List V)(v:Value)(us:List Value)(Q:VK),Inv X pins σ H s->RelV x v->Vals xs us->r x xs H Q->
  wpAny (model X.prog X.w) X.A (call (.builtin id) (v::us)) (EP X pins σ Q) X.xe s
section
variable {a b:Expr}{ta tb:TE}
theorem Qk.or {r c:R2}(h:Qk X r)(h':Qk X c):Qk X (λ x y H Q=>r x y H Q∨c x y H Q):=by
 intro value slice pins s σ H x y v u Q I b a q d;rcases q with q|q
 ·exact h value slice pins s σ H x y v u Q I b a q d
 ·exact h' value slice pins s σ H x y v u Q I b a q d
theorem zaL {r:R2}(f:Qk X r)(i:PE X a ta)(g:PE X b tb)(e:OK b):PE X (.Subscript a b pos) (K1 r ta tb):=by
 intro pins s σ H Q I h;exact Subscript_ (UY i g I h λ v u s2 x y l j d c q=>f a b pins s2 σ l x y v u Q j d c q (e _ _))
def NU (K:Frag):R2:=λ x y H Q=>∃p xs i v,x=.ref p/\y=.int i/\ji K H p xs/\wQ xs i=some v/\Q v H
def NM (K:Frag):R2:=λ x y H Q=>∃p xs i v,x=.ref p/\y=.int i/\qD K H p xs/\wQ xs i=some v/\Q v H
def NN:R2:=λ x y H Q=>∃z i c,x=.str z/\y=.int i/\z.length<=sizeLine/\wQ z.cps.toList i=some c/\Q (.str ⟨#[c]⟩) H
theorem CH:Qk X (NU X.K):=by
 intro value slice pins s σ H x y v u Q I g f h e;obtain⟨p,xs,i,z,rfl,rfl,l,he,q⟩:=h;cases g;obtain⟨t,rfl⟩:=f;obtain⟨c,r,P,C⟩:=I.list l;obtain⟨j,a,B,D,A,o⟩:=VY he;obtain⟨w,E,b⟩:=r.get B;have n:=r.length;have hn:=Ya;have fin:EP X pins σ Q w s:=⟨z,H,I,b,q⟩
 by_cases h0:0<=i
 ·have d:i.toNat=j:=by
   rw[seqIndex_of h0 o]at a;exact aB a
  exact item_listR P.isList h0 (by omega) (by rw[d];simpa using E) fin e
 ·have d:(i+(c.toArray.size:Int)).toNat=j:=by
   rw[seqIndex_neg (by omega) A]at a
   rw[aF,<- n];exact aB a
  exact subscriptTail_builtinR (x:=w) P.isList.typeIs slot_list_getitem.lookup
   (wpAny_getItem_list_neg (Q:=λ r s'=>r=w/\EP X pins σ Q r s') P.isList (by omega) (by rw[aF]<;>omega) (by omega) (by rw[d];simpa using E) ⟨rfl,fin⟩) e
theorem BY:Qk X (NM X.K):=by
 intro value slice pins s σ H x y v u Q I c b h e;obtain⟨p,xs,i,z,rfl,rfl,f,he,q⟩:=h;cases c;obtain⟨t,rfl⟩:=b;obtain⟨d,r,P,o⟩:=I.tuple f;obtain⟨j,n,g,C,B,A⟩:=VY he;obtain⟨w,E,a⟩:=r.get g;have l:=r.length;have hn:=Ya;have fin:EP X pins σ Q w s:=⟨z,H,I,a,q⟩;exact subscriptTail_builtinR (x:=w) P.typeIs slot_tuple_getitem.lookup
  (getItem_tuple (j:=j) (Q:=λ r s'=>r=w/\EP X pins σ Q r s') P (by omega) (by omega) (by rw[aF,<- l];exact n) (by simpa using E) ⟨rfl,fin⟩) e
theorem AR:Qk X NN:=by
 intro value slice pins s σ H x y v u Q I b r h d;obtain⟨z,i,c,rfl,rfl,o,he,q⟩:=h;obtain⟨t,rfl⟩:=b;obtain⟨t',rfl⟩:=r;obtain⟨j,a,g,p,f,e⟩:=VY he;have l:z.cps.toList.length=z.length:=by simp[Str.length]
 rw[l]at a f e;have hn:=Ya;exact tail_any (typeIs_str s z t) slot_str_getitem.lookup (getItem_str (c:=c) (by
  have n:decide (i < -(2 ^ 63:Int))=false:=aK (by omega)
  have E:decide (i ≥ 2 ^ 63)=false:=aK (by omega)
  rw[n,E,Bool.or_false]) (by rw[a];simpa using g) ⟨.str ⟨#[c]⟩,H,I.tok _,⟨_,rfl⟩,q⟩) d
def N9 (K:Frag):R2:=λ x y H Q=>NU K x y H Q∨NM K x y H Q∨NN x y H Q
theorem AX:Qk X (N9 X.K):=CH.or (BY.or AR)
theorem Hf (i:List Value)(n j:Nat)(u:Value):Obj.mapSeq (·.setIfInBounds j u) { cls:=.type "list",data:=.seq i.toArray n }={ cls:=.type "list",data:=.seq (i.set j u).toArray n }:=by
 simp[Obj.mapSeq]
theorem Inv.lst {pins:List (Addr×Obj)}{σ:St}{H:Hp}{s:Shared}{p:Addr}{xs:List V}(I:Inv X pins σ H s)(h:H p=some (.lst xs)):
  ∃(i:List Value) (n:Nat),Vals xs i/\s.heap.get? p=some { cls:=.type "list",data:=.seq i.toArray n }/\xs.length<=sizeLine:=by
 obtain⟨z,i,n,r,e⟩:=I.hok p _ h;exact⟨i,n,r,e,z⟩
theorem Inv.lstUpd {p:Addr}{its':List Value}{N:Nat}{f:Obj->Obj}(I:Inv X pins σ H s)(h:H p=some (.lst xs))
  (o:s.heap.get? p=some { cls:=.type "list",data:=.seq its.toArray n })(hf:f { cls:=.type "list",data:=.seq its.toArray n }={ cls:=.type "list",data:=.seq its'.toArray N })(r:Vals ys its')(z:ys.length<=sizeLine)(t:Nat):
  Inv X pins σ (upd H p (.lst ys)) { s with heap:=s.heap.update p f,toks:=t }:=by
 have e:(s.heap.update p f).get? p=some { cls:=.type "list",data:=.seq its'.toArray N }:=by
  rw[a9 f o (by rw[hf]<;>rfl),hf]
 refine I.write (x:=p) (e:=p) (by rw[h];trivial) (.inl rfl) (λ b u a q=>(a5 _ _ (Ne.symm a)).trans q) ⟨_,e⟩ ?_
 exact⟨z,its',N,r,e⟩
def Nt:V->V->V->Hp->(Hp->Prop)->Prop:=λ o i v H Q=>∃p xs k j,o=.ref p/\i=.int k/\H p=some (.lst xs)/\gU xs.length k=some j/\Q (upd H p (.lst (xs.set j v)))
theorem set_list:GY X Nt:=by
 intro pins s σ H o i v B C u Q I ro y x h;obtain⟨p,xs,k,j,rfl,rfl,e,A,q⟩:=h;cases ro;obtain⟨t,rfl⟩:=y;obtain⟨a,n,r,c,z⟩:=I.lst e;obtain⟨b,D,g,f⟩:=Ox A;have l:=r.length;have hn:=Ya;have w:Inv X pins σ (upd H p (.lst (xs.set j v))) { s with heap:=s.heap.update p (Obj.mapSeq (·.setIfInBounds j u)) }:=
  I.lstUpd e c (Hf a n j u) (r.set x j) (by rw[length_set];exact z) s.toks
 by_cases h0:0<=k
 ·have d:k.toNat=j:=by
   rw[seqIndex_of h0 f]at b;exact aB b
  exact PySem.W.ki_setAt c h0 (by omega) (by rw[aF,<- l];exact f) (by rw[d];exact⟨_,w,q⟩)
 ·have d:(k+(a.toArray.size:Int)).toNat=j:=by
   rw[seqIndex_neg (by omega) g]at b
   rw[aF,<- l];exact aB b
  exact PySem.W.ki_setBack c (by omega) (by rw[aF,<- l];exact g) (by omega) (by rw[d];exact⟨_,w,q⟩)
noncomputable def kZ:V->Bool
 |.non=>true|.bl _=>true|.int _=>true|.str _=>true|_=>false
noncomputable def wD:V->V->Bool
 |.non,.non=>true|.bl a,.bl b=>a==b|.bl a,.int b=>(if a then 1 else 0)==b|.int a,.bl b=>a==(if b then 1 else 0)|.int a,.int b=>a==b|.str a,.str b=>a==b|_,_=>false
theorem AK {A:Around}{y x:V}{v:Value}(c:RelV y u)(r:RelV x v)(d:kZ y=true)(f:kZ x=true):SeqAt.EqAt A s u v (wD y x):=by
 cases y with
 |non=>
  cases c;cases x with
  |non=>cases r;exact SeqAt.EqAt.same _|bl b=>cases r;exact SeqAt.EqAt.none_bool b|int b=>obtain⟨t,rfl⟩:=r;exact SeqAt.EqAt.none_int b t|str b=>obtain⟨t,rfl⟩:=r;exact SeqAt.EqAt.none_str b t|_=>exact absurd (show false=true from f) aA
 |bl a=>
  cases c;cases x with
  |non=>cases r;exact SeqAt.EqAt.bool_none a|bl b=>cases r;exact SeqAt.EqAt.bool_bool a b|int b=>obtain⟨t,rfl⟩:=r;exact SeqAt.EqAt.bool_int a b t|str b=>obtain⟨t,rfl⟩:=r;exact SeqAt.EqAt.bool_str a b t|_=>exact absurd (show false=true from f) aA
 |int a=>
  obtain⟨t',rfl⟩:=c;cases x with
  |non=>cases r;exact SeqAt.EqAt.int_none a t'|bl b=>cases r;exact SeqAt.EqAt.int_bool a t' b|int b=>obtain⟨t,rfl⟩:=r;exact SeqAt.EqAt.int_int a t' b t|str b=>obtain⟨t,rfl⟩:=r;exact SeqAt.EqAt.int_str a t' b t|_=>exact absurd (show false=true from f) aA
 |str a=>
  obtain⟨t',rfl⟩:=c;cases x with
  |non=>cases r;exact SeqAt.EqAt.str_none a t'|bl b=>cases r;exact SeqAt.EqAt.str_bool a t' b|int b=>obtain⟨t,rfl⟩:=r;exact SeqAt.EqAt.str_int a t' b t|str b=>obtain⟨t,rfl⟩:=r;exact SeqAt.EqAt.str_str a t' b t|_=>exact absurd (show false=true from f) aA
 |_=>exact absurd (show false=true from d) aA
def Zp (x:V)(u:Value):Bool:=match u with
 |.none=>wD .non x|.bool b=>wD (.bl b) x|.int i _=>wD (.int i) x|.str z _=>wD (.str z) x|_=>false
theorem Up {x y:V}(r:RelV y u)(f:kZ y=true):Zp x u=wD y x:=by
 cases y with
 |non=>cases r;rfl|bl b=>cases r;rfl|int i=>obtain⟨t,rfl⟩:=r;rfl|str z=>obtain⟨t,rfl⟩:=r;rfl|_=>exact absurd (show false=true from f) aA
theorem VX {x:V}:∀{xs:List V}{us:List Value},Vals xs us->xs.all kZ=true->us.any (Zp x)=xs.any λ y=>wD y x
 |_,_,.nil,_=>rfl|y::xs,u::us,.cons r t,f=>by
  rw[List.all_cons,aj]at f;rw[any_cons,any_cons,Up r f.1,VX t f.2]
theorem WA {A:Around}{x:V}{v:Value}(a:RelV x v)(b:kZ x=true):∀{xs:List V}{us:List Value},Vals xs us->xs.all kZ=true->∀u∈us,SeqAt.EqAt A s u v (Zp x u)
 |_,_,.nil,_=>λ u h=>by cases h|y::xs,u::us,.cons r t,f=>λ U h=>by
  rw[List.all_cons,aj]at f;rcases qa3.mp h with rfl|h
  ·rw[Up r f.1];exact AK r a f.1 b
  ·exact WA a b t f.2 U h
def Xq (x:V)(xs:List V):Bool:=xs.any λ y=>wD y x
def NX (K:Frag)(neg:Bool):R2:=λ x y H Q=>∃p xs,y=.ref p/\(ji K H p xs∨qD K H p xs)/\kZ x=true/\xs.all kZ=true/\Q (.bl (if neg then !Xq x xs else Xq x xs)) H
theorem FE:ja X (compareOp .In) (NX X.K false):=by
 intro pins s σ H x y v u Q I b c h;obtain⟨p,xs,rfl,a,f,fs,q⟩:=h;cases c;rcases a with a|a
 ·obtain⟨i,r,P,z⟩:=I.list a
  refine SeqAt.in_listAt (Zp x) P.isList (λ w hw=>WA b f r fs w (by simpa using hw)) ⟨.bl _,H,I,rfl,?_⟩
  rw[show i.toArray.any (Zp x)=i.any (Zp x) by simp,VX r fs]
  exact q
 ·obtain⟨i,r,P,z⟩:=I.tuple a
  refine SeqAt.in_tupleAt (Zp x) P (λ w hw=>WA b f r fs w (by simpa using hw)) ⟨.bl _,H,I,rfl,?_⟩
  rw[show i.toArray.any (Zp x)=i.any (Zp x) by simp,VX r fs]
  exact q
theorem LQ:ye X (.builtin "len") (λ xs H Q=>∃p ys,xs=[.ref p]/\(ji X.K H p ys∨qD X.K H p ys)/\Q (.int ys.length) H):=by
 intro pins s σ H xs us Q I r h;obtain⟨p,ys,rfl,a,q⟩:=h;obtain⟨u,rfl,x⟩:=vals1 r;cases x;have hn:=Ya;rcases a with a|a
 ·obtain⟨i,b,P,z⟩:=I.list a
  have hlen:=b.length;exact Calls.call_len_list P.isList (by simp only[aF]<;>omega) ⟨.int ys.length,H,I.tok _,⟨s.toks+1,by rw[aF,hlen]⟩,q⟩
 ·obtain⟨i,b,P,z⟩:=I.tuple a
  have hlen:=b.length;exact len_tuple P (by simp only[aF]<;>omega) ⟨.int ys.length,H,I.tok _,⟨s.toks+1,by rw[aF,hlen]⟩,q⟩
theorem LP:ye X (.type "list") (λ xs H Q=>∃p ys,xs=[.ref p]/\(ji X.K H p ys∨qD X.K H p ys)/\∀l,H l=none->Q (.ref l) (upd H l (.lst ys))):=by
 intro pins s σ H xs us Q I r h;obtain⟨p,ys,rfl,d,q⟩:=h;obtain⟨u,rfl,x⟩:=vals1 r;cases x;have fin:∀(its:List Value),Vals ys its->ys.length<=sizeLine->∀(h':Heap)(c:Nat),(∀b o',s.heap.get? b=some o'->h'.get? b=some o')->
   h'.get? s.heap.objs.size=some { cls:=.type "list",dict:=none,data:=.seq its.toArray c,slots:=#[] }->EP X pins σ Q (.ref s.heap.objs.size) { s with heap:=h' }:=λ its a z h' c kp e=>
  ⟨.ref s.heap.objs.size,_,I.laid (t':=s.toks) kp (aw _) (show jd X.prog X.w _ h' _ (.lst ys) from ⟨z,its,c,a,e⟩),rfl,q _ (I.hok.fresh (aw _))⟩
 rcases d with d|d
 ·obtain⟨its,a,P,z⟩:=I.list d
  have hlen:=a.length;obtain⟨o,f,g,n,hd⟩:=P.isList;exact call_list_seq p (.inl rfl) f g hd (λ h' c kp e=>fin its a z h' c kp e) (by simp only[aF]<;>omega)
 ·obtain⟨its,a,P,z⟩:=I.tuple d
  have hlen:=a.length;obtain⟨o,f,g,n,hd⟩:=P;exact call_list_seq p (.inr rfl) f g hd (λ h' c kp e=>fin its a z h' c kp e) (by simp only[aF]<;>omega)
theorem LB:ye X (.type "tuple") (λ xs H Q=>∃p ys,xs=[.ref p]/\((ji X.K H p ys/\∀l,H l=none->Q (.ref l) (upd H l (.tup ys)))∨(qD X.K H p ys/\Q (.ref p) H))):=by
 intro pins s σ H xs us Q I r h;obtain⟨p,ys,rfl,h⟩:=h;obtain⟨u,rfl,x⟩:=vals1 r;cases x;rcases h with ⟨c,q⟩|⟨c,q⟩
 ·obtain⟨i,a,P,z⟩:=I.list c
  have hlen:=a.length;refine call_tuple_list P.isList (λ h' kp=>?_) (by simp only[aF]<;>omega)
  have d:Inv X pins σ H { s with heap:=h' }:=I.kept (t':=s.toks) kp
  have f:Inv X pins σ (upd H h'.objs.size (.tup ys)) { s with heap:=h'.push { cls:=.type "tuple",data:=.seq i.toArray } }:=
   d.laid (t':=s.toks) (λ b o e=>af _ e) (aw _) (show jd X.prog X.w _ _ _ (.tup ys) from ⟨z,i,a,Qz.new _ _⟩)
  exact⟨.ref h'.objs.size,_,f,rfl,q _ (d.hok.fresh (aw _))⟩
 ·obtain⟨i,a,P,z⟩:=I.tuple c
  exact call_tuple_same P ⟨.ref p,H,I,rfl,q⟩
def Xa (K:Frag)(T:String)(x:V)(H:Hp):Prop:=match x with
 |.str _=>T = "str"
 |.int _=>T = "int"
 |.ref p=>(T = "list" /\ ∃xs,ji K H p xs)∨(T = "tuple" /\ ∃o,K.lookup p=some o/\o.cls=.type "tuple" /\ o.dict=none)∨
   (T = "dict" /\ ((∃kvs,H p=some (.dK kvs))∨∃kvs,H p=some (.dT kvs)))∨(T = "set" /\ ∃S n,H p=some (.set S n))
 |_=>False
theorem BJ {T:String}{x:V}{v:Value}(I:Inv X pins σ H s)(r:RelV x v)(ty:Xa X.K T x H):
  s.TypeIs v T/\∀a,v=.ref a->∃ob,s.heap.get? a=some ob/\ob.dict=none:=by
 cases x with
 |str z=>
  obtain⟨t,rfl⟩:=r;cases (show T = "str" from ty)
  exact⟨typeIs_str s z t,λ _ e=>nomatch e⟩
 |int i=>
  obtain⟨t,rfl⟩:=r;cases (show T = "int" from ty)
  exact⟨typeIs_int s i t,λ _ e=>nomatch e⟩
 |ref p=>
  cases r;rcases ty with ⟨rfl,xs,q⟩|⟨rfl,o,h,d,hd⟩|⟨rfl,h⟩|⟨rfl,S,n,h⟩
  ·obtain⟨b,_,P,_⟩:=I.list q
   refine⟨P.isList.typeIs,λ a e=>?_⟩;cases e;obtain⟨o,n,e,c,hd,_⟩:=P;exact⟨o,e,hd⟩
  ·refine⟨⟨o,I.kIn p o h,d⟩,λ a e=>?_⟩
   cases e;exact⟨o,I.kIn _ o h,hd⟩
  ·have z:∃o,s.heap.get? p=some o/\o.ExactDict:=by
    rcases h with ⟨kvs,h⟩|⟨kvs,h⟩
    ·obtain⟨_,_,_,_,o,_,_,e,ex,_⟩:=I.hok p _ h
     exact⟨o,e,ex⟩
    ·obtain⟨_,_,_,_,o,_,_,e,ex,_⟩:=I.hok p _ h
     exact⟨o,e,ex⟩
   obtain⟨o,e,ex⟩:=z;refine⟨⟨o,e,ex.1⟩,λ a E=>?_⟩;cases E;exact⟨o,e,ex.2.1⟩
  ·obtain⟨o,_,_,_,e,ex,_⟩:=I.hok p _ h
   refine⟨⟨o,e,ex.1⟩,λ a E=>?_⟩;cases E;exact⟨o,e,ex.2.1⟩
 |_=>exact False.elim ty
noncomputable def tBM (K:Frag)(T:String)(r:V->List V->Hp->VK->Prop)(to:TE)(t:TA):TE:=λ σ H Q=>to σ H λ x H1=>Xa K T x H1/\t σ H1 λ xs h=>r x xs h Q
variable {o:Expr}{es:List Expr}{to:TE}{t:TA}{name:Str}{T id:String}{r:V->List V->Hp->VK->Prop}
theorem Nq (p:PlainAttrs T)(slot:Slot T name id)(y:typeOf (.builtin id)=pure (.type "method_descriptor"))(hm:K0 X id r)(j:PE X o to)(l:PA X (e::es) t)
  (b:attributeBase o name X.env (eval o X.env)=eval o X.env:=by rfl)
  (w:((backTo cpos (starEach (e::es) X.env)).all (λ x=>!x.1)&&(backToKw cpos (keywordEach [] X.env)).all (λ x=>x.1.isSome)
   && decide ((e::es).length+([]:List Keyword).length+(if ([]:List Keyword).isEmpty then 0 else 1)<30))=true:=by rfl)
  (a:(apos.endLine==cpos.line)=true:=by rfl)(g:starEach (e::es) X.env=(false,eval e X.env)::starEach es X.env:=by rfl)(n:(backTo cpos (starEach es X.env)).any (·.1)=false:=by rfl):
  PE X (.Call (.Attribute o name apos) (e::es) [] cpos) (tBM X.K T r to t):=by
 intro pins s σ H Q I h;refine wpAny_Call_method_late b w a rfl (zV (j pins s σ H _ I h) λ v s1 ⟨x,H1,i,c,ty,f⟩=>?_);obtain⟨z,u⟩:=BJ i c ty;refine⟨T,id,p,slot,y,z,u,?_⟩;have A:=l cpos pins s1 σ H1 _ i f;rw[g]at A ⊢;refine Calls.callWith_builtin (by show(false || (backTo cpos (starEach es X.env)).any (·.1))=false;rw[n]<;>rfl) (Calls.evalArgs_plain ?_)
 exact zV A λ us s2 ⟨vs,C,B,d,q⟩=>hm pins s2 σ C x vs v us Q B c d q
end
def To (X:Cx)(id:String)(r:V->List V->Hp->VK->Prop):Prop:=
 ∀(pins:List (Addr×Obj))(s:Shared)(σ:St)(H:Hp)(x:V)(xs:List V)(v:Value)(us:List Value)(Q:VK),Inv X pins σ H s->RelV x v->Vals xs us->r x xs H Q->
  wpAny (model X.prog X.w) X.A (call (.builtin id) (v::us)) (EP X pins σ Q) X.xe s
theorem Vals.one {x:V}(h:Vals [x] us):∃u,us=[u]/\RelV x u:=by
 cases h with
 |cons r t=>cases t;exact⟨_,rfl,r⟩
theorem Vals.two {x y:V}(h:Vals [x,y] us):∃u v,us=[u,v]/\RelV x u/\RelV y v:=by
 cases h with
 |cons r t=>exact(Vals.one t).elim λ v e=>⟨_,v,by rw[e.1],r,e.2⟩
theorem Vals.eraseIdx:∀{xs:List V}{us:List Value}(i:Nat),Vals xs us->Vals (xs.eraseIdx i) (us.eraseIdx i)
 |_,_,_,.nil=>.nil|_,_,0,.cons _ t=>t|_,_,i+1,.cons r t=>.cons r (Vals.eraseIdx i t)
theorem Vals.rep (h:Vals xs us):∀k:Nat,Vals (List.replicate k xs).flatten (List.replicate k us).flatten
 |0=>.nil|k+1=>by
  rw[a8,a8,a3,a3];exact Vals.append h (Vals.rep h k)
theorem Pr :∀(l:List α)(i:Nat),(l.eraseIdx i).length<=l.length
 |[],_=>aw _|_::_,0=>le_succ _|_::r,i+1=>Nat.succ_le_succ (Pr r i)
theorem foldl_rep (i:List Value):∀(k:Nat)(acc:List Value),
  List.foldl (λ x1 x2=>x1++x2) acc.toArray (List.replicate k i.toArray)=(acc++(List.replicate k i).flatten).toArray
 |0,acc=>by simp|k+1,acc=>by
  have e:acc.toArray++i.toArray=(acc++i).toArray:=by simp
  have E:(acc++i)++(List.replicate k i).flatten=acc++(List.replicate (k+1) i).flatten:=by
   rw[a8,a3,aW]
  rw[<- E,<- foldl_rep i k (acc++i),<- e,a8,List.foldl_cons]
section
variable {l:Addr}
theorem Inv.lset {its':List Value}{f:Array Value->Array Value}(I:Inv X pins σ H s)(c:H l=some (.lst xs))
  (e:s.heap.get? l=some { cls:=.type "list",data:=.seq its.toArray n })(hf:f its.toArray=its'.toArray)(v:Vals ys its')(h:ys.length<=sizeLine):
  Inv X pins σ (upd H l (.lst ys)) { s with heap:=s.heap.update l (Obj.mapSeq f),toks:=t' }:=by
 have q:=PySem.IsL.update e f;rw[hf]at q;refine I.write (x:=l) (e:=l) (by rw[c];exact trivial) (.inl rfl) (λ B u b a=>(a5 s.heap (Obj.mapSeq f) (Ne.symm b)).trans a) ⟨_,q⟩ ?_
 exact⟨h,its',_,v,q⟩
theorem Inv.lnew (I:Inv X pins σ H s)(v:Vals ys its)(h:ys.length<=sizeLine):
  Inv X pins σ (upd H s.heap.objs.size (.lst ys)) { s with heap:=s.heap.push { cls:=.type "list",data:=.seq its.toArray },toks:=t' }:=
 I.laid (λ _ _ q=>af _ q) (aw _) ⟨h,its,0,v,au _ rfl⟩
theorem Inv.fresh (I:Inv X pins σ H s):H s.heap.objs.size=none:=I.hok.fresh (aw _)
theorem Inv.lstM (I:Inv X pins σ H s)(h:H l=some (.lst xs)):xs.length<=sizeLine/\∃(i:List Value) (n:Nat),Vals xs i/\xs.length=i.length/\s.heap.get? l=some { cls:=.type "list",data:=.seq i.toArray n }:=by
 obtain⟨z,i,n,r,e⟩:=I.hok l _ h;exact⟨z,i,n,r,r.length,e⟩
theorem Er (h:n<=sizeLine):Builtin.List.listTooLong n=false:=by
 unfold Builtin.List.listTooLong;exact aK (by omega)
end
section
def CC:V->List V->Hp->VK->Prop:=λ x vs H Q=>∃l xs y,x=.ref l/\vs=[y]/\H l=some (.lst xs)/\xs.length<sizeLine/\Q .non (upd H l (.lst (xs++[y])))
theorem R7:To X "list.append" CC:=by
 intro pins s σ H x vs v us Q I b c h;obtain⟨l,xs,y,rfl,rfl,a,f,q⟩:=h;cases b;obtain⟨u,rfl,d⟩:=c.one;obtain⟨z,i,n,r,g,e⟩:=I.lstM a;refine call_meets F.slot_list_append ⟨_,e,rfl⟩ F.entry_list_append (F.args_list_append_2 _ _) (PySem.list_append l i.toArray n u (by rw[aF];omega)) ⟨e,?_⟩
 refine⟨.non,_,I.lset (its':=i++[u]) a e (by simp) (r.append (.cons d .nil)) ?_,rfl,q⟩
 rw[ay,aR];omega
def zav:V->List V->Hp->VK->Prop:=λ x vs H Q=>∃l xs i k y,x=.ref l/\vs=[.int i]/\H l=some (.lst xs)/\-(2 ^ 63)<=i/\i<2 ^ 63/\seqIndex? i xs.length=some k/\xs[k]? =some y/\Q y (upd H l (.lst (xs.eraseIdx k)))
theorem EW:To X "list.pop" zav:=by
 intro pins s σ H x vs v us Q I d f h;obtain⟨l,xs,i,k,y,rfl,rfl,c,B,A,p,j,q⟩:=h;cases d;obtain⟨u,rfl,g⟩:=f.one;obtain⟨t,rfl⟩:=g;obtain⟨z,a,n,r,o,e⟩:=I.lstM c;obtain⟨w,hw,b⟩:=r.get j;refine call_meets F.slot_list_pop ⟨_,e,rfl⟩ F.entry_list_pop (F.args_list_pop_2 _ _)
  (MeetsSeq.list_pop_at l a.toArray n i t k w (fitsIndex_both B A) (by rw[aF,<- o];exact p) (by rw[<- bJ];exact hw) (by rw[aF];omega)) ⟨e,?_⟩
 refine⟨y,_,I.lset (its':=a.eraseIdx k) c e ?_ (r.eraseIdx k) ?_,b,q⟩
 ·show a.toArray.eraseIdxIfInBounds k=(a.eraseIdx k).toArray
  rw[List.eraseIdxIfInBounds_toArray]
 ·have:=Pr xs k
  omega
def NS:R2:=λ x y H Q=>∃l b xs zs,x=.ref l/\y=.ref b/\H l=some (.lst xs)/\H b=some (.lst zs)/\xs.length+zs.length<=sizeLine/\∀p,H p=none->Q (.ref p) (upd H p (.lst (xs++zs)))
theorem BK:ja X (binaryOp .Add) NS:=by
 intro pins s σ H x y v u Q I d c h;obtain⟨l,b,xs,zs,rfl,rfl,j,B,p,q⟩:=h;cases d;cases c;obtain⟨z,a,n,r,t,e⟩:=I.lstM j;obtain⟨Z,i,N,f,g,o⟩:=I.lstM B;refine PySem.P.add_list e o ?_ (by rw[aF,aF];omega)
 have E:a.toArray++i.toArray=(a++i).toArray:=by simp
 rw[E];exact⟨.ref _,_,I.lnew (t':=s.toks) (r.append f) (by rw[ay];omega),rfl,q _ I.fresh⟩
def NO:R2:=λ x y H Q=>∃l k xs,x=.ref l/\y=.int k/\H l=some (.lst xs)/\-(2 ^ 63)<=k/\k<2 ^ 63/\xs.length * k.toNat<=sizeLine/\
 ∀p,H p=none->Q (.ref p) (upd H p (.lst (List.replicate k.toNat xs).flatten))
theorem len_rep (xs:List α)(k:Nat):(List.replicate k xs).flatten.length=k * xs.length:=by
 induction k with
 |zero=>simp|succ k i=>rw[a8,a3,ay,i,Nat.succ_mul,Nat.add_comm]
theorem An:ja X (binaryOp .Mult) NO:=by
 intro pins s σ H x y v u Q I f d h;obtain⟨l,k,xs,rfl,rfl,o,B,A,c,q⟩:=h;cases f;obtain⟨t,rfl⟩:=d;obtain⟨z,i,n,r,j,e⟩:=I.lstM o;have hlen:i.toArray.size * k.toNat<=sizeLine:=by rw[aF,<- j];exact c
 have p:¬i.toArray.size * k.toNat > (2 ^ 63 - 1) / 8:=by
  have:(sizeLine:Nat)<=(2 ^ 63 - 1) / 8:=by decide
  omega
 have b:¬(!Builtin.List.listFitsIndex k)=true:=by
  rw[fitsIndex_both B A];exact aA
 have g:¬Builtin.List.listTooLong (i.toArray.size * k.toNat)=true:=by
  rw[Er hlen];exact aA
 have w:List.foldl (λ x1 x2=>x1++x2) #[] (List.replicate (if i.toArray.isEmpty=true then 0 else k.toNat) i.toArray)=(List.replicate k.toNat i).flatten.toArray:=by
  have f0:∀m:Nat,List.foldl (λ x1 x2=>x1++x2) #[] (List.replicate m i.toArray)=(List.replicate m i).flatten.toArray:=λ m=>by
   have:=foldl_rep i m []
   rw[nil_append]at this;exact this
  rw[f0];cases i with
  |nil=>simp|cons a C=>rw[ak (by simp)]
 refine wpAny_binaryOp_repeat_ref (T := "list") (U := "int") (by decide) ⟨_,e,rfl⟩ (λ s'=>typeIs_int s' k t) noFill_list_mul F.fills_int_mul F.slot_int_rmul repeat_list F.slot_int_index.lookup
  (call_meets F.slot_int_rmul (typeIs_int s k t) F.entry_int_rmul (F.args_int_rmul_2 _ _) (int___rmul___int_list k t l i.toArray n)
   ⟨e,rfl,⟨_,e,rfl⟩,call_meets F.slot_list_mul ⟨_,e,rfl⟩ F.entry_list_mul (F.args_list_mul_2 _ _) (AutoListH.list___mul___list_int_3 l i.toArray n k t b p g) ⟨e,?_⟩⟩)
 rw[w];exact⟨.ref _,_,I.lnew (t':=s.toks) (r.rep k.toNat) (by rw[len_rep,Nat.mul_comm];exact c),rfl,q _ I.fresh⟩
end
section
set_option maxRecDepth 100000 in
end
end L2
namespace Att
open PySem PySem.W PySem.Calls PyProof.Rows
theorem MZ {P:Params}:∀(ns:List Int)(vs:List Value),WellAll P h vs (ns.map WData.int)->IntsAre vs ns:=by
 intro ns
 induction ns with
 |nil=>
  intro vs w;rw[map_nil]at w;cases w;exact .nil
 |cons n ns i=>
  intro vs w;rw[aV]at w;cases w with
  |cons a b=>
   cases a;exact .cons _ _ (i _ b)
theorem Fi {l:OpenLaw}(hn:l.most=some n){P:Params}{args:List WData}{vals:List Value}
  (H:l.row.toRowW.claim.pre args=true)(f:WellAll P h vals args):
  ∃a vs ns,vals=[Value.ref a]/\args=[WData.list (ns.map WData.int)]/\h.get? a=some { cls:=.type "list",data:=.seq vs.toArray }/\IntsAre vs ns/\ns.length<=n:=by
 have g:WShape.hasAll [] args [.list .int]=true:=(pre_splitW H).1;have i:l.pre.holds [] { args:=args }=true:=(pre_splitW H).2;obtain⟨d,r,rfl,t,s⟩:=hasAllW_cons g;obtain rfl:=hasAllW_nil s;obtain⟨xs,rfl,p⟩:=hasW_list t;obtain⟨ns,rfl⟩:=items_int p;have hlen:ns.length<=n:=by
  unfold OpenLaw.pre at i;have e:(WTm.not (.lt (.lit (.int (n:Int))) (.len (.arg 0)))).holds [] { args:=[.list (ns.map .int)] }=true:=by
   have e:=(holds_andW i).1;rw[hn]at e;exact e
  have c:=condW_of e (w_not (w_lt w_lit (w_len_list (w_arg rfl))));rw[ai]at c;refine Nat.le_of_not_lt λ q=>?_;have Q:(n:Int)<((ns.length:Nat):Int):=by omega
  first
   |(rw[aJ Q]at c;exact absurd c (by decide))
   |(simp at c;omega)
 cases f with
 |cons j w=>
  cases w;cases j with
  |list o b=>exact⟨_,_,ns,rfl,rfl,o,MZ ns _ b,hlen⟩
theorem HX (l:OpenLaw)(args:List WData):l.row.toRowW.claim.post args (.bool true) args=true:=
 postW_of (r:=l.row.toRowW) (X:=(true==true))
  (show WShape.has [] (.bool true) .bool=true by first|rfl|decide|simp[WShape.has,WShape.arms,WShape.armsAll])
  (show(WTm.eq .res (.lit (.bool true))).value [] { args:=args,res:=some (.bool true),after:=args }=some (.bool (true==true)) from w_eq_bool (w_res rfl) w_lit) rfl
theorem IB {l:OpenLaw}{q:Program}{loose:List Str}{P:World->Heap->Prop}{d:DefRec}
  (hn:l.most=some n)(e:d.params.defaults=[])
  (call:∀(w:World)(S s:Shared)(mg mb:Str->Option Value)(b:Addr)(o:Obj)(pm cd doc:Value)(a:Addr)(vs:List Value)(ns:List Int),
   Ground q loose [] XP w S mg mb s.heap->P w s.heap->
   s.heap.get? b=some o->o.data=.func (docDef d.name d.params d.body d.scope pm cd doc)->s.heap.CodeRec cd d.name->mg d.name=some (.ref b)->
   s.heap.get? a=some { cls:=.type "list",data:=.seq vs.toArray }->IntsAre vs ns->ns.length<=n->s.gens=#[]->
   codeAny (model l.prog w) callerA (.call (.ref b) ⟨[.ref a],[]⟩) (λ r s'=>r=.ok (.ret (.bool true))/\OldK s.heap s'.heap/\s'.os=s.os/\AllBare s'.gens) s):
  WalkO q loose XP P l.row.toRowW d [] (λ f vs=>PySem.call f vs):=by
 intro w S s mg mb G Y b o pm cd doc B kV t hd i D g v args vals as h y j c u;obtain rfl:B=.none:=Dflts.none D e;obtain rfl:kV=.none:=Dflts.noKw D;obtain⟨a,vs,ns,rfl,rfl,H,hints,hlen⟩:=Fi hn h c;refine enter_call (codeAny_mono (call w S s mg mb b o pm cd doc a vs ns G Y t (fd_plain hd) i g H hints hlen v) λ r s' p=>?_);obtain⟨rfl,A,z,x⟩:=p;exact⟨.inl ⟨.bool true,.bool true,[],rfl,λ _=>rfl,.bool true,HX l _,λ _=>⟨List.Pairwise.nil,λ _ hm=>(nomatch hm)⟩⟩,A,z,x⟩
end Att
namespace L2
open PySem PySem.Spec PyProof.Rows
theorem YX:∀{vs:List Value}{ns:List Int},IntsAre vs ns->Vals (ns.map V.int) vs
 |_,_,.nil=>.nil|_,_,.cons n t h=>.cons ⟨t,rfl⟩ (YX h)
noncomputable abbrev Ma {K:Frag}(_:K.In h):Frag:=K
noncomputable def ZY (s:Stmt):Arguments:=match s with
 |.FunctionDef _ a _ _ _ _ _ _ _ _=>a|_=>{ posonlyargs:=[],args:=[],vararg:=none,kwonlyargs:=[],kw_defaults:=[],kwarg:=none,defaults:=[] }
noncomputable def yn (s:Stmt):List Stmt:=match s with
 |.FunctionDef _ _ b _ _ _ _ _ _ _=>b|_=>[]
noncomputable def qg (s:Stmt):Scope:=match s with
 |.FunctionDef _ _ _ _ _ _ sc _ _ _=>sc|_=>{ kind:=.function,names:=[],isGenerator:=false,isCoroutine:=false }
noncomputable abbrev wC:gY:=λ _ _ _ _ _ _=>False
noncomputable abbrev E0:XK:=λ _ _ _=>False
theorem zbm :Passes wC X E0:=λ _ _ _ _ _ _ _ h=>h.elim
structure kN (K:Frag)(x qual:Str)(st:Stmt)(f:Addr)(fd:FuncData):Prop where
 ex:∃(oc:Value) (od:Option Addr) (kV doc pm:Value) (an:Option Addr) (cdv ct:Value) (osl:Array (Option Value)),
  fd=fnOf x qual (ZY st) (yn st) (qg st) .none kV doc pm an cdv ct/\K.lookup f=some ⟨oc,od,.func fd,osl⟩/\codeIn K cdv qual=true
 kp:keepIn K (.ref f)=true
section
variable {K:Frag}
theorem kN.ok {st:Stmt}{k:Nat}{sp:Sp}(F:kN K x qual st f fd)(S:qN N ps (qg st))(len:∀vs H Q E,sp vs H Q E->vs.length=ps.length)
  (y:∀(c:Value)(A:Around)(outer:List Env)(s:Shared)(H:Hp)(vs:List V)(Q:VK)(E:XK),ju k (A.deeper (envOfC qual (qg st) s.heap.objs.size f c))->sp vs H Q E->
   ∃t,yQ (wt wC P w K mg base N qual (qg st) f c A outer s H E).nox (yn st) t/\t { nx:=λ _ a=>Q .non a,rt:=Q } (start N vs) H):yN P w K mg base wC (k+1) f fd ps sp:=by
 obtain⟨b,od,kV,doc,pm,an,c,ct,o,rfl,lk,d⟩:=F.ex;refine UI lk d S len λ A outer s H vs Q E r p=>?_;obtain⟨t,h,q⟩:=y c A outer s H vs Q E r p;exact⟨t,h.nox,q⟩
theorem kN.binds {st:Stmt}(F:kN K x qual st f fd)
  (h:∀(kV doc pm:Value)(an:Option Addr)(c ct:Value)(us:List Value),us.length=ps.length->bindArgs (fnOf x qual (ZY st) (yn st) (qg st) .none kV doc pm an c ct) ⟨us,[]⟩=pure (ps.zip us)):Binds K fd ps []:=by
 obtain⟨a,od,kV,doc,pm,an,c,ct,o,rfl,lk,H⟩:=F.ex;exact .all (h kV doc pm an c ct)
theorem Ao {st:Stmt}{o:Value}{od an:Option Addr}{kV doc pm C ct:Value}(l:K.lookup f=some ⟨o,od,.func (fnOf x qual (ZY st) (yn st) (qg st) .none kV doc pm an C ct),osl⟩)
  (c:codeIn K C qual=true)(k:keepIn K (.ref f)=true):kN K x qual st f (fnOf x qual (ZY st) (yn st) (qg st) .none kV doc pm an C ct):=⟨⟨o,od,kV,doc,pm,an,C,ct,osl,rfl,l,c⟩,k⟩
end
theorem zbp {A:Around}{k:Nat}(h:ju k A):A.units+1<cLine:=Nat.lt_of_le_of_lt (Nat.add_le_add_left (by decide:1<=64) _) h.units
section
variable {κ:Type}[DecidableEq κ]
noncomputable def kz (kvs:List (κ×V))(k:κ):Option V:=(kvs.find? λ K=>decide (K.1=k)).map (·.2)
noncomputable def putK (kvs:List (κ×V))(k:κ)(v:V):List (κ×V):=
 if (kvs.any λ K=>decide (K.1=k))=true then kvs.map (λ K=>if K.1=k then(K.1,v) else K) else kvs++[(k,v)]
theorem WD {p:κ×V}{r:List (κ×V)}{k:κ}(e:p.1=k):kz (p::r) k=some p.2:=by simp[kz,find?_cons,e]
theorem WG {p:κ×V}{r:List (κ×V)}{k:κ}(e:¬p.1=k):kz (p::r) k=kz r k:=by simp[kz,find?_cons,e]
theorem Od (k:κ):∀kvs:List (κ×V),(kvs.any λ K=>decide (K.1=k))=(kz kvs k).isSome
 |[]=>rfl|p::r=>by
  rw[any_cons]
  by_cases e:p.1=k
  ·simp only[WD e,aJ e,Bool.true_or,isSome_some]
  ·rw[WG e,aK e,Bool.false_or];exact Od k r
theorem Iy (kvs:List (κ×V))(k:κ)(v:V):(putK kvs k v).length<=kvs.length+1:=by
 unfold putK
 split
 ·rw[ai];omega
 ·rw[ay,bb,length_nil];omega
theorem E7 {kvs:List (κ×V)}{k:κ}(v:V)(h:kz kvs k=none):putK kvs k v=kvs++[(k,v)]:=by
 unfold putK;rw[Od,h];exact ak (by decide)
theorem KV.val {kvs:List (κ×V)}{vs:List (κ×Value)}(r:KV kvs vs)(k:κ):Qb (kz kvs k) (valueAt vs k):=by
 unfold KV at r
 induction r with
 |nil=>exact True.intro|@cons p q ps Q h t i=>
  obtain⟨H,a⟩:=h
  by_cases e:p.1=k
  ·have E:q.1=k:=H.symm.trans e
   have b:valueAt (q::Q) k=some q.2:=by simp[valueAt,find?_cons,E]
   rw[WD e,b];exact a
  ·have E:¬q.1=k:=λ z=>e (H.trans z)
   have b:valueAt (q::Q) k=valueAt Q k:=by simp[valueAt,find?_cons,E]
   rw[WG e,b];exact i
theorem KV.any {kvs:List (κ×V)}{vs:List (κ×Value)}(r:KV kvs vs)(k:κ):(kvs.any λ K=>decide (K.1=k))=vs.any λ K=>decide (K.1=k):=by
 unfold KV at r
 induction r with
 |nil=>rfl|cons h t i=>rw[any_cons,any_cons,i,h.1]
theorem KV.repl {kvs:List (κ×V)}{vs:List (κ×Value)}(r:KV kvs vs)(k:κ){y:V}(a:RelV y u):
  KV (kvs.map λ K=>if K.1=k then(K.1,y) else K) (vs.map λ K=>if K.1=k then(K.1,u) else K):=by
 unfold KV at r ⊢
 induction r with
 |nil=>exact .nil|@cons p q ps Q h t i=>
  rw[aV,aV];refine .cons ?_ i;obtain⟨H,b⟩:=h
  by_cases e:p.1=k
  ·rw[ag e,ag (H.symm.trans e)];exact⟨H,a⟩
  ·rw[ak e,ak (λ z=>e (H.trans z))];exact⟨H,b⟩
theorem KV.put {kvs:List (κ×V)}{vs:List (κ×Value)}(r:KV kvs vs)(k:κ){y:V}(a:RelV y u):KV (putK kvs k y) (stored vs k u):=by
 unfold putK stored;rw[r.any k]
 by_cases e:(vs.any λ K=>decide (K.1=k))=true
 ·rw[ag e,ag e];exact r.repl k a
 ·rw[ak e,ak e];exact Paired.snoc r ⟨rfl,a⟩
theorem KV.length {kvs:List (κ×V)}{vs:List (κ×Value)}(r:KV kvs vs):kvs.length=vs.length:=Paired.length r
end
theorem UB {k:Key}(r:RelV (kV k) u):(kj P w).is k u=true:=by
 cases k with
 |inl i=>obtain⟨t,e⟩:=(show ∃t,u=Value.int i t from r);subst e;exact Iq P w i t|inr x=>obtain⟨t,e⟩:=(show ∃t,u=Value.str x t from r);subst e;exact Io P w x t
theorem Pd :∀{K:List Key}{us:List Value},Vals (K.map kV) us->ItemsAre (kj P w) K us
 |[],_,r=>by rw[map_nil]at r;cases r;exact .nil|k::K,_,r=>by
  rw[aV]at r;cases r with
  |cons h t=>exact .cons (UB h) (Pd t)
abbrev KT (H:Hp):List (List Key×V)->List (List Key×Addr×Value)->Prop:=Paired λ p q=>p.1=q.1/\H q.2.1=some (.tup (p.1.map kV))/\RelV p.2 q.2.2
theorem KT.val {kvs:List (List Key×V)}{xs:List (List Key×Addr×Value)}(r:KT H kvs xs)(k:List Key):Qb (kz kvs k) ((atKey xs k).map (·.2)):=by
 induction r with
 |nil=>exact True.intro|@cons p q ps Q h t i=>
  obtain⟨a,_,c⟩:=h
  by_cases e:p.1=k
  ·have E:q.1=k:=a.symm.trans e
   have b:atKey (q::Q) k=some q.2:=by simp[atKey,find?_cons,E]
   rw[WD e,b];exact c
  ·have E:¬q.1=k:=λ z=>e (a.trans z)
   have b:atKey (q::Q) k=atKey Q k:=by simp[atKey,find?_cons,E]
   rw[WG e,b];exact i
section
theorem Nx {u:HO}(ok:jU P w H h)(e:Rd H a u):jd P w H h a u:=e.ok ok
theorem UC (ok:jU P w H h)(e:Rd H a (.dK kvs)):kvs.length<=sizeLine/\(a==sysModules)=false/\∃vs,KV kvs vs/\h.DictOf (kj P w) a vs:=
 show jd P w H h a (.dK kvs) from Nx ok e
theorem Nr (ok:jU P w H h)(e:H a=some (.dK kvs)):kvs.length<=sizeLine/\(a==sysModules)=false/\∃vs,KV kvs vs/\h.DictOf (kj P w) a vs:=UC ok (.inl e)
theorem Na {K:List Key}(ok:jU P w H h)(e:H a=some (.tup (K.map kV))):(tupleKind (kj P w)).is h K a:=by
 obtain⟨_,i,r,o,d,c,n,b⟩:=(show jd P w H h a (.tup (K.map kV)) from ok a _ e)
 exact⟨o,i.toArray,n,d,c.1,b,by simpa using Pd r⟩
theorem Nu {kvs:List (List Key×V)}(ok:jU P w H h)(e:Rd H a (.dT kvs)):kvs.length<=sizeLine/\(a==sysModules)=false/\
  ∃xs,KT H kvs xs/\h.DictOfH (tupleKind (kj P w)) a xs:=by
 obtain⟨z,y,xs,r,o,E,s,n,j,g,f,d⟩:=(show jd P w H h a (.dT kvs) from Nx ok e)
 refine⟨z,y,xs,r,o,E,s,n,j,g,f,λ x b=>?_,d⟩;have all:∀{l:List (List Key×V)}{m:List (List Key×Addr×Value)},KT H l m->∀x∈m,(tupleKind (kj P w)).is h x.1 x.2.1:=by
  intro l m q
  induction q with
  |nil=>intro x b;exact nomatch b
  |@cons p q ps Q c t i=>
   intro x b;rcases qa3.mp b with e|b
   ·subst e
    exact Na ok (by rw[<- c.1];exact c.2.1)
   ·exact i x b
 exact all r x b
end
def Yr (H:Hp)(a:Addr)(y:V)(r:Option V):Prop:=
 (∃kvs k,Rd H a (.dK kvs)/\y=kV k/\r=kz kvs k)∨∃kvs k b,Rd H a (.dT kvs)/\y=.ref b/\H b=some (.tup (k.map kV))/\r=kz kvs k
theorem Yr.k {k:Key}(e:H a=some (.dK kvs)):Yr H a (kV k) (kz kvs k):=.inl ⟨kvs,k,.inl e,rfl,rfl⟩
section
variable {y:V}{o:Option V}{A:Around}
theorem Inv.big (I:Inv X pins σ H s):sysModules<s.heap.objs.size:=by
 have h:mainGlobals<s.heap.objs.size:=(I.mod.glob.keeps I.bk).lt;exact lt_trans (by decide) h
theorem FI (j:A.units+1<cLine)(I:Inv X pins σ H s)(g:Yr H a y (some v))(i:RelV y u)(h:∀c s',Inv X pins σ H s'->RelV v c->Q c s'):
  wpAny (model X.prog X.w) A (getItem (.ref a) u) Q E s:=by
 rcases g with ⟨kvs,k,e,f,l⟩|⟨kvs,k,b,e,f,q,l⟩
 ·subst f
  obtain⟨z,hd,vs,rel,dd⟩:=UC I.hok e;obtain⟨c,hw,r⟩:=Qb.some_of (v:=v) (o:=valueAt vs k) (by rw[l];exact rel.val k)
  exact wpAny_getItem_of (UB i) dd.mapOf hw (h c _ (I.tok _) r)
 ·subst f
  cases (show u=Value.ref b from i)
  obtain⟨z,hd,xs,rel,dd⟩:=Nu I.hok e;obtain⟨c,hw,r⟩:=Qb.some_of (v:=v) (o:=(atKey xs k).map (·.2)) (by rw[l];exact rel.val k)
  obtain⟨p,n,d⟩:=Option.map_eq_some_iff.mp hw;refine wpAny_getItem_heap (tupleKind_room_in1 j) (Na I.hok q) dd n ?_;rw[d];exact h c _ (I.tok _) r
theorem D4 {h':Heap}{ob:HO}(I:Inv X pins σ H s)(M:KY (H a))(h:Heap.SameBut a s.heap h')(he:∃q,h'.get? a=some q)(new:jd X.prog X.w (upd H a ob) h' a ob):
  Inv X pins σ (upd H a ob) { s with heap:=h',toks:=t' }:=
 I.write (x:=a) (e:=a) M (.inl rfl) (λ b q c z=>(h.2 b c).trans z) he new
theorem zar {H:Hp}{h':Heap}{vs:List (Key×Value)}(z:kvs.length<=sizeLine)(hd:(a==sysModules)=false)(rel:KV kvs vs)(dd:h'.DictOf (kj P w) a vs):
  jd P w H h' a (.dK kvs):=⟨z,hd,vs,rel,dd⟩
end
def Tc (i:Expr):Prop:=∀o I,subscripted i false o I=operate [o,I] (getItem o I)
theorem DY {prog:Program}{A:Around}{value slice:Expr}{T id:String}
  (l:typeLookup (.type T) "__getitem__" = pure (some (.builtin id)))(f:Tc slice)
  (h:wpAny (model prog w) A (eval value env) (λ o b=>wpAny (model prog w) A (eval slice env) (λ i S=>S.TypeIs o T/\wpAny (model prog w) A (getItem o i) Q E S) E b) E s):
  wpAny (model prog w) A (eval (.Subscript value slice pos) env) Q E s:=by
 refine Subscript_ (wpAny_mono h (λ o b d=>wpAny_mono d (λ i S H=>?_) λ _ _ x=>x) λ _ _ x=>x);obtain⟨e,H⟩:=H;unfold subscriptTail;refine qa0 ?_;rw[getitemInPython_of_ne e.not_modules];refine qa0 (wpAny_specialOf e l ?_);have fin:wpAny (model prog w) A (subscripted slice false o i) (λ r a=>wpAny (model prog w) A (letTemporaryGo value o r >>= λ _=>pure r) Q E a) E S:=by
  rw[f o i];exact wpAny_operating (wpAny_mono H (λ r a c=>qa0 (wpAny_letTemporaryGo (qa1 c))) λ _ _ x=>x)
 first
  |exact qa1 (qa0 fin)
  |exact qa0 (qa1 (qa0 fin))
  |exact qa0 fin
theorem IE {y:V}{o:Option V}(I:Inv X pins σ H s)(g:Yr H a y o):s.TypeIs (.ref a) "dict" := by
 rcases g with ⟨kvs,k,e,_,_⟩|⟨kvs,k,b,e,_,_,_⟩
 ·obtain⟨_,_,vs,_,dd⟩:=UC I.hok e
  exact dd.typeIs
 ·obtain⟨_,_,xs,_,dd⟩:=Nu I.hok e
  exact dd.typeIs
noncomputable def zbM (t ty:TE):TE:=λ σ H Q=>t σ H λ x H1=>ty σ H1 λ y h=>∃a v,x=.ref a/\Yr h a y (some v)/\Q v h
section
variable {o i:Expr}{td ty:TE}
theorem Bb (f:X.A.units+1<cLine)(l:PE X o td)(n:PE X i ty)(j:Tc i):PE X (.Subscript o i pos) (zbM td ty):=by
 intro pins s σ H Q I h;refine DY PySem.F.slot_dict_getitem.lookup j (zV (l pins s σ H _ I h) λ u s1 ⟨x,H1,t,d,e⟩=>zV (n pins s1 σ H1 _ t e) λ B s2 ⟨y,w,b,c,a,v,ex,g,q⟩=>?_);subst ex;obtain rfl:u=Value.ref a:=d;exact⟨IE b g,FI f b g c λ z s3 p r=>⟨v,w,p,r,q⟩⟩
end
theorem Dw (h:Heap)(b:sysModules<h.objs.size):jd P w H (h.push { cls:=.type "dict",data:=.dict #[] }) h.objs.size (.dK []):=
 ⟨zero_le _,beq_eq_false_iff_ne.mpr (Ne.symm (aM b)),[],.nil,Heap.DictOf.new h⟩
def AN:TE:=λ _ H Q=>∀p,H p=none->Q (.ref p) (upd H p (.dK []))
section
theorem F8:PE X (.Dict [] [] pos) AN:=λ pins s σ H Q I h=>
 wpAny_Dict_empty ⟨.ref s.heap.objs.size,_,I.laid (a:=s.heap.objs.size) (o:=.dK []) (t':=s.toks) (λ _ _ q=>af _ q) (aw _) (Dw s.heap I.big),rfl,h _ (I.hok.fresh (aw _))⟩
end
noncomputable def kF (env:Env):List (Str×NameKind)->List (Str×Addr)->List (Str×Addr)
 |[],acc=>acc|(n,k)::r,acc=>kF env r (if k==.free then(n,(env.cells.lookup n).getD 0)::acc else acc)
theorem EL (f:Str×NameKind->List (Str×Addr)->Sem (ForInStep (List (Str×Addr))))
  (hf:∀n k r,f (n,k) r=if (k==NameKind.free)=true then(do let c <- cellOf env n;pure (ForInStep.yield ((n,c)::r))) else pure (ForInStep.yield r)):
  ∀(names:List (Str×NameKind))(acc:List (Str×Addr)),(∀y∈names,y.2=.free->∃c,env.cells.lookup y.1=some c)->(forIn names acc f:Sem (List (Str×Addr)))=pure (kF env names acc):=by
 intro names
 induction names with
 |nil=>intro acc _;rfl|cons y r i=>
  intro acc b;obtain⟨n,k⟩:=y;rw[forIn_cons,hf];unfold kF;have h:=i (if k==.free then(n,(env.cells.lookup n).getD 0)::acc else acc) (λ y g=>b y (ax _ g))
  by_cases a:k=.free
  ·subst a
   obtain⟨c,d⟩:=b (n,.free) aE rfl;have e:cellOf env n=pure c:=by unfold cellOf;rw[d]
   have H:List.lookup n env.cells=some c:=d;simp only[e,H,Option.getD_some,bp,if_true]at h ⊢;exact h
  ·have j:(k==NameKind.free)=false:=by simpa using a
   simp only[j,bc,if_false]at h ⊢;exact h
theorem RO (h:∀y∈scope.names,y.2=.free->∃c,env.cells.lookup y.1=some c):closureFor scope env=pure (kF env scope.names []):=by
 unfold closureFor;dsimp only;rw[EL _ (λ n k r=>rfl) scope.names [] h]
 rfl
theorem QU {n:Str}:∀(names:List (Str×NameKind))(acc:List (Str×Addr)),(n,c)∈kF env names acc->(n,c)∈acc∨((n,NameKind.free)∈names/\c=(env.cells.lookup n).getD 0)
 |[],acc,h=>.inl h|(x,k)::r,acc,h=>by
  unfold kF at h;rcases QU r _ h with h|⟨d,a⟩
  ·by_cases H:k=.free
   ·subst H
    simp only[bp,if_true]at h;rcases qa3.mp h with e|h
    ·cases e;exact .inr ⟨aE,rfl⟩
    ·exact .inl h
   ·have b:(k==NameKind.free)=false:=by simpa using H
    simp only[b,bc,if_false]at h;exact .inl h
  ·exact .inr ⟨ax _ d,a⟩
theorem Wv {n:Str}:∀(names:List (Str×NameKind))(acc:List (Str×Addr)),((n,NameKind.free)∈names∨(acc.lookup n).isSome=true)->((kF env names acc).lookup n).isSome=true
 |[],acc,h=>by
  rcases h with h|h
  ·cases h
  ·exact h
 |(x,k)::r,acc,h=>by
  unfold kF;refine Wv r _ ?_;rcases h with h|h
  ·rcases qa3.mp h with e|h
   ·cases e
    right
    simp
   ·exact .inl h
  ·right
   by_cases H:(k==NameKind.free)=true
   ·rw[ag H,lookup_cons]
    cases a:n==x
    ·exact h
    ·rfl
   ·rw[ak H];exact h
theorem XM {n:Str}:∀(names:List (Str×NameKind))(k:Nat)(acc:List (Str×Addr)),(n,c)∈cellsFrom k names acc->(n,c)∈acc∨(k<=c/\(n,NameKind.cell)∈names)
 |[],_,_,h=>.inl h|(x,q)::r,k,acc,h=>by
  unfold cellsFrom at h
  by_cases a:(q==NameKind.cell)=true
  ·rw[ag a]at h
   have H:q=.cell:=by simpa using a
   rcases XM r _ _ h with h|⟨d,b⟩
   ·rcases qa3.mp h with e|h
    ·cases e;subst H;exact .inr ⟨aw _,aE⟩
    ·exact .inl h
   ·exact .inr ⟨by omega,ax _ b⟩
  ·rw[ak a]at h
   rcases XM r _ _ h with h|⟨d,b⟩
   ·exact .inl h
   ·exact .inr ⟨d,ax _ b⟩
theorem XT:∀(names:List (Str×NameKind))(k:Nat)(acc:List (Str×Addr)),(∀n c,(n,c)∈acc->c<k)->(∀n N c,(n,c)∈acc->(N,c)∈acc->n=N)->∀n N c,(n,c)∈cellsFrom k names acc->(N,c)∈cellsFrom k names acc->n=N
 |[],_,_,_,hi,n,N,c,h,h'=>hi n N c h h'|(x,q)::r,k,acc,l,hi,n,N,c,h,h'=>by
  unfold cellsFrom at h h'
  by_cases a:(q==NameKind.cell)=true
  ·rw[ag a]at h h'
   refine XT r (k+1) ((x,k)::acc) (λ m d hm=>?_) (λ m M d hm H=>?_) n N c h h'
   ·rcases qa3.mp hm with e|hm
    ·cases e;exact bg _
    ·exact ba (l m d hm)
   ·rcases qa3.mp hm with e|hm
    ·rcases qa3.mp H with E|H
     ·cases e;cases E;rfl
     ·cases e;exact absurd (l M _ H) (aY _)
    ·rcases qa3.mp H with E|H
     ·cases E;exact absurd (l m _ hm) (aY _)
     ·exact hi m M d hm H
  ·rw[ak a]at h h'
   exact XT r k acc l hi n N c h h'
theorem XC {n:Str}:∀(names:List (Str×NameKind))(h:Heap)(acc:List (Str×Addr)),(n,c)∈cellsFrom h.objs.size names acc->(n,c)∈acc∨(pushCells h names).IsCell c none
 |[],_,_,q=>.inl q|(x,k)::r,h,acc,q=>by
  unfold cellsFrom at q;unfold pushCells
  by_cases H:(k==NameKind.cell)=true
  ·rw[ag H]at q ⊢
   have:=XC r (h.push { cls:=.type "cell",data:=.cell none }) ((x,h.objs.size)::acc) (by rw[bf];exact q)
   rcases this with z|z
   ·rcases qa3.mp z with e|z
    ·cases e
     exact .inr ⟨_,pushCells_keeps r _ _ _ (au _ rfl),rfl⟩
    ·exact .inl z
   ·exact .inr z
  ·rw[ak H]at q ⊢
   exact XC r h acc q
theorem Mz {A:Around}{globals:Addr}{cl:List (Str×Addr)}{Q:Env->Shared->Prop}
  (h:Q { scope,locals:=s.heap.objs.size,globals,cells:=cellsFrom (s.heap.objs.size+1) scope.names cl,qual,func:=none,code:=env.code,frame:=env.frame,builtins:=env.builtins }
   { s with heap:=pushCells (s.heap.push { cls:=.type "dict",data:=.dict #[] }) scope.names }):
  wpAny M A (newFunctionEnv scope globals cl [] qual none .none (some env)) Q E s:=by
 simp only[newFunctionEnv,isSome_some,if_true];refine qa0 (wpAny_alloc ?_);refine qa0 (wpAny_layCells _ (λ name kind cells=>by cases H:kind==NameKind.cell<;>simp[H]) _ _ _ _ ?_)
 rw[show({ s with heap:=s.heap.push { cls:=.type "dict",data:=.dict #[] } }:Shared).heap.objs.size=s.heap.objs.size+1 from bf ..]
 rw[forIn_nil];exact qa0 (qa1 (qa1 h))
def jk (X:Cx)(N:List Str)(scope:Scope)(s:Shared)(H:Hp)(fp:List Addr)(xe:Value->Shared->Prop):Cx where
 prog:=X.prog
 w:=X.w
 K:=X.K
 mg:=X.mg
 base:=X.base
 A:=X.A
 N:=N
 s0:=s
 H0:=H
 env:={ scope:=relabel scope X.env,locals:=s.heap.objs.size,globals:=X.env.globals,cells:=cellsFrom (s.heap.objs.size+1) scope.names (kF X.env scope.names []),qual:=X.env.qual,func:=none,code:=X.env.code,frame:=X.env.frame,builtins:=X.env.builtins }
 outer:=X.stack
 stack:=X.stack
 ex:=fp
 fn:=λ x=>scope.names.lookup x==some .local || scope.names.lookup x==some .cell
 calm:=X.calm
 pn:=[]
 xe:=xe
structure Zb (X:Cx)(scope:Scope):Prop where
 kind:scope.kind=.function
 nd:(scope.names.map (·.1)).Nodup
 free:∀y∈scope.names,y.2=.free->X.env.kindOf y.1=some .cell∨X.env.kindOf y.1=some .free
theorem Jx {k:α}:∀{l:List (Str×α)},(l.map (·.1)).Nodup->(x,k)∈l->l.lookup x=some k
 |(y,q)::r,nd,h=>by
  rw[aV,List.nodup_cons]at nd;rw[lookup_cons];rcases qa3.mp h with e|h
  ·cases e;simp
  ·have ne:(x==y)=false:=by
    rw[beq_eq_false_iff_ne];intro e
    apply nd.1
    rw[<- e];exact List.mem_map_of_mem (f:=(·.1)) h
   rw[ne];exact Jx nd.2 h
theorem XJ {k:NameKind}(h:(relabel scope env).names.lookup x=some k):scope.names.lookup x=some k∨(k=.cell/\scope.names.lookup x=some .free/\env.kindOf x=some .cell):=by
 unfold relabel at h;dsimp only at h;generalize scope.names=names at h ⊢
 induction names with
 |nil=>cases h|cons y r i=>
  obtain⟨n,q⟩:=y;rw[aV]at h;have split:(if (q==NameKind.free&&env.scope.kind==.function&&env.kindOf n==some .cell)=true then(n,NameKind.cell) else(n,q)).1=n:=by split<;>rfl
  rw[lookup_cons]at h ⊢;dsimp only at h;rw[split]at h;cases a:x==n with
  |false=>rw[a]at h;exact i h|true=>
   rw[a]at h;have e:x=n:=aL.mp a;subst e
   by_cases H:(q==NameKind.free&&env.scope.kind==.function&&env.kindOf x==some .cell)=true
   ·rw[ag H]at h
    simp only[aj,aL]at H;cases h
    right
    exact⟨rfl,by rw[H.1.1],H.2⟩
   ·rw[ak H]at h
    left
    exact h
section
theorem Inv.capt (I:Inv X pins σ H s)(S:Zb X scope)(h:(x,NameKind.free)∈scope.names):∃c,X.env.cells.lookup x=some c:=I.ok.has x (S.free _ h rfl)
theorem Y1 (I:Inv X pins σ H s)(S:Zb X scope)(h:(x,c)∈cellsFrom (s.heap.objs.size+1) scope.names (kF X.env scope.names [])):
  ((x,NameKind.free)∈scope.names/\X.env.cells.lookup x=some c/\c<s.heap.objs.size)∨((x,NameKind.cell)∈scope.names/\s.heap.objs.size<c/\∀h0:Heap,h0.objs.size=s.heap.objs.size+1->(pushCells h0 scope.names).IsCell c none):=by
 rcases XM _ _ _ h with b|⟨b,d⟩
 ·left
  rcases QU _ _ b with z|⟨z,e⟩
  ·cases z
  ·obtain⟨C,a⟩:=I.capt S z
   rw[a]at e;have E:c=C:=e;subst E;obtain⟨v,q⟩:=I.cell x c a;exact⟨z,a,q.lt⟩
 ·right
  refine⟨d,b,λ h0 e0=>?_⟩;have h':=h;rw[<- e0]at h';rcases XC _ h0 _ h' with z|z
  ·exfalso
   rcases QU _ _ z with z|⟨z,e⟩
   ·cases z
   ·obtain⟨C,a⟩:=I.capt S z
    rw[a]at e;have E:c=C:=e;subst E;obtain⟨v,q⟩:=I.cell x c a;exact aY _ (aD (ba q.lt) b)
  ·exact z
theorem Dh {xe:Value->Shared->Prop}{f:St}(I:Inv X pins σ H s)(S:Zb X scope)(hf:∀b∈fp,kJ X pins H b)(A:∀b∈fp,b<s.heap.objs.size)(hl:f.length=N.length)
  (hs:∀(j:Nat)(x:Str)(v:V),N[j]? =some x->f[j]? =some (some v)->(x,NameKind.free)∈scope.names/\∃i:Nat,X.N[i]? =some x/\σ[i]? =some (some v)):
  Inv (jk X N scope s H fp xe) [] f H { s with heap:=pushCells (s.heap.push { cls:=.type "dict",data:=.dict #[] }) scope.names }:=by
 have M:∀b o,s.heap.get? b=some o->(pushCells (s.heap.push { cls:=.type "dict",data:=.dict #[] }) scope.names).get? b=some o:=λ b o e=>pushCells_keeps _ _ _ _ (af _ e);have T:(s.heap.push { cls:=.type "dict",data:=.dict #[] }).objs.size=s.heap.objs.size+1:=bf ..;have l:∀{x:Str}{c:Addr},(jk X N scope s H fp xe).env.cells.lookup x=some c->(x,c)∈cellsFrom (s.heap.objs.size+1) scope.names (kF X.env scope.names []):=λ h=>PySem.mem_of_lookup h;have L:∀{x:Str},((jk X N scope s H fp xe).env.kindOf x=some .cell∨(jk X N scope s H fp xe).env.kindOf x=some .free)->∃c,(jk X N scope s H fp xe).env.cells.lookup x=some c:=λ {x} h=>by
  refine Option.isSome_iff_exists.mp (cellsFrom_some _ _ _ ?_);have two:scope.names.lookup x=some .cell∨scope.names.lookup x=some .free:=by
   rcases h with h|h
   ·rcases XJ h with z|⟨_,z,_⟩
    ·exact .inl z
    ·exact .inr z
   ·rcases XJ h with z|⟨z,_⟩
    ·exact .inr z
    ·cases z
  rcases two with z|z
  ·exact .inl z
  ·exact .inr (Wv _ _ (.inl (PySem.mem_of_lookup z)))
 have exP:∀b∈fp,∀x c,(jk X N scope s H fp xe).env.cells.lookup x=some c->c≠b:=λ b a x c e=>by
  rcases Y1 I S (l e) with ⟨_,q,_⟩|⟨_,q,_⟩
  ·exact(hf b a).2.2.2.2.1 x c q
  ·intro z;subst z;exact aY _ (lt_trans q (A _ a))
 refine⟨⟨I.ok.mod,S.kind,I.ok.glob,I.ok.blt,aw _,λ x y c h1 J=>?_,λ x h=>L h,λ x c g h=>?_,I.ok.hd,I.ok.frames,.inl rfl,λ b a=>⟨?_,exP b a⟩,I.bs,br I.ok.bsz I.sz,λ b o e a=>?_,λ b a z=>?_,I.stack,I.stkFree⟩,
  rfl,I.bare,Un.kept M,⟨λ _=>none,?_,λ j x v h1 J h3=>?_⟩,λ x c e=>?_,I.fresh,λ x c e=>?_,λ p hp=>?_,I.hok.kept M,hl⟩
 ·refine XT _ _ _ (λ n c h=>?_) (λ n n' c h h'=>?_) x y c (l h1) (l J)
  ·rcases QU _ _ h with z|⟨z,e⟩
   ·cases z
   ·obtain⟨c',D⟩:=I.capt S z
    rw[D]at e;have P:c=c':=e;subst P;obtain⟨v,q⟩:=I.cell n c D;exact ba q.lt
  ·rcases QU _ _ h with z|⟨z,e⟩
   ·cases z
   ·rcases QU _ _ h' with Z|⟨Z,P⟩
    ·cases Z
    ·obtain⟨d,hd⟩:=I.capt S z
     obtain⟨d',B⟩:=I.capt S Z;rw[hd]at e;rw[B]at P;have K:c=d:=e;have e2:c=d':=P;subst K;subst e2;exact I.ok.inj _ _ _ hd B
 ·rcases Y1 I S (l h) with ⟨z,_,_⟩|⟨_,z,_⟩
  ·exfalso
   have K:=Jx S.nd z;have t:(scope.names.lookup x==some .local || scope.names.lookup x==some .cell)=true:=g;rw[K]at t;cases t
  ·exact bD z
 ·exact aM (A b a)
 ·obtain⟨_,_,_,E,_⟩:=hf b a
  rcases E with E|E
  ·exact I.ok.noex b o e E
  ·exact absurd (aD (aI e) (br I.ok.bsz E)) (aY _)
 ·obtain⟨_,J,h3,_⟩:=hf b a
  rcases qa3.mp (I.stkSub b z) with e|e
  ·exact J e
  ·exact h3 e
 ·exact(Heap.Ns.new s.heap (.type "dict")).keeps (pushCells_keeps _ _)
 ·obtain⟨g,i,K,e2⟩:=hs j x v h1 J
  obtain⟨m,hn,Y⟩:=I.loc;have Q:YE X.env.scope x:=.inr (S.free _ g rfl);obtain⟨u,r,lk⟩:=Y i x v K e2 Q;refine⟨u,r,.inr ?_⟩;have w:(jk X N scope s H fp xe).env.kindOf x=some .cell∨(jk X N scope s H fp xe).env.kindOf x=some .free:=by
   rcases h3 with z|z|z
   ·exfalso
    rcases XJ z with Z|⟨Z,_⟩
    ·rw[Jx S.nd g]at Z;cases Z
    ·cases Z
   ·exact .inl z
   ·exact .inr z
  refine⟨w,?_⟩;obtain⟨c,D⟩:=L w;refine⟨c,D,?_⟩;rcases Y1 I S (l D) with ⟨_,q,_⟩|⟨q,_,_⟩
  ·rcases lk with ⟨z,_⟩|⟨_,c',C,cell⟩
   ·exfalso
    rcases S.free _ g rfl with k|k<;>(rw[k]at z;cases z)
   ·rw[q]at C;cases C
    exact cell.keeps M
  ·exfalso
   have a1:=Jx S.nd g;have a2:=Jx S.nd q;rw[a1]at a2;cases a2
 ·rcases Y1 I S (l e) with ⟨_,q,_⟩|⟨_,_,q⟩
  ·obtain⟨v,z⟩:=I.cell x c q
   exact⟨v,z.keeps M⟩
  ·exact⟨_,q _ T⟩
 ·rcases Y1 I S (l e) with ⟨_,q,_⟩|⟨_,q,_⟩
  ·exact I.freeC x c q
  ·exact I.hok.fresh (bD q)
 ·have U:p∈([]:List (Addr×Obj)):=hp
  cases U
end
abbrev wV:=Addr->St->Hp->(St->Hp->Prop)->Prop
noncomputable def KI (elt:Expr)(gens:List Comprehension)(sc:Scope)(pos:Pos)(d:Nat)(acc:Value)(env:Env)(k:Sem Fin):Sem Fin:=
 match gens[d+1]? with
 |some g'=>do
  let x <- eval g'.iter env
  standAt g'.iter.pos
  let x <- foldedSetIterable g'.iter env x
  let _ <- runOwn (.compStart (.ListComp elt gens sc pos) (d+1) (<- holding [x] (pyIter x)) acc env) env
  k
 |none=>do
  (do let _ <- call (.builtin "list.append") [acc,<- eval elt env])
  k
theorem D1 {d:Nat}{it acc:Value}(h:gens[d]? =some ⟨tg,iter,ifs,0⟩)(H:∀g',gens[d+1]? =some g'->g'.is_async=0):
  compTurn (.ListComp elt gens sc pos) d it acc env=(do
   standAt iter.pos
   match <- pyNext it with
   |none=>pure (.done .next)|some v=>
    letOwnedTupleGo tg it v
    assign tg env v
    let mut ok:=true
    for c in ifs do
     if ok then ok <- isTrue c env (eval c env)
    if ok then KI elt gens sc pos d acc env (again (.compLoop (.ListComp elt gens sc pos) d it acc env))
    else again (.compLoop (.ListComp elt gens sc pos) d it acc env)):=by
 unfold compTurn KI;dsimp only;rw[h];cases hn:gens[d+1]? with
 |none=>rfl|some g'=>
  obtain⟨t',i,f,a⟩:=g';have e:a=0:=H _ hn;subst e
  rfl
def Qd (X:Cx)(ifs:List Expr)(t:TT):Prop:=
 ∀(pins:List (Addr×Obj))(s:Shared)(σ:St)(H:Hp)(Q:Bool->Hp->Prop),Inv X pins σ H s->t σ H Q->
  wpAny (model X.prog X.w) X.A (forIn ifs true λ c r=>if r=true then do let ok <- isTrue c X.env (eval c X.env);pure (ForInStep.yield ok) else pure (ForInStep.yield r)) (TP X pins σ Q) X.xe s
noncomputable def zbS:TT:=λ _ H Q=>Q true H
theorem DA :Qd X [] zbS:=λ pins s σ H Q I h=>wpAny_tests_nil ⟨H,I,h⟩
theorem Es {c:Expr}{t:TT}(h:PT X c t):Qd X [c] t:=λ pins s σ H Q I hw=>wpAny_tests_one (h pins s σ H Q I hw)
def wa (X:Cx)(elt:Expr)(gens:List Comprehension)(sc:Scope)(pos:Pos)(d:Nat)(t:wV):Prop:=
 ∀(pins:List (Addr×Obj))(s:Shared)(σ:St)(H:Hp)(D:Addr)(Q:St->Hp->Prop)(k:Sem Fin)(Q':Fin->Shared->Prop)(E:Value->Shared->Prop),Inv X pins σ H s->t D σ H Q->
  (∀s' a h,Inv X pins a h s'->Q a h->wpAny (model X.prog X.w) X.A k Q' E s')->wpAny (model X.prog X.w) X.A (KI elt gens sc pos d (.ref D) X.env k) Q' E s
def zaH (t:TE):wV:=λ D σ H Q=>t σ H λ y H1=>∃ys,H1 D=some (.lst ys)/\ys.length<sizeLine/\Q σ (upd H1 D (.lst (ys++[y])))
def Yn (J:It)(g:TG)(ti:TT)(tm:wV):wV:=λ D σ H Q=>∃W:Nat->Nat->St->Hp->Prop,(∃m,W 0 m σ H)/\∀i m σ H,W i m σ H->
 (J.stop i H/\Q σ H)∨(J.go i H/\∃N:St->Hp->Prop,(∀c h,N c h->∃M,M<m/\W (i+1) M c h)/\∀x h,J.yld i H x h->g x σ h λ a H1=>ti a H1 λ b d=>if b=true then tm D a d N else N a d)
def zbv (wi:TI)(g:TG)(ti:TT)(tm:wV):wV:=λ D σ H Q=>wi σ H λ J H1=>Yn J g ti tm D σ H1 Q
section
variable {d:Nat}
theorem J8 (h:∀e s,X.xe e s->False){t:Sem α}{Q':α->Shared->Prop}(H:wpAny (model X.prog X.w) X.A t Q' X.xe s'):wpAny (model X.prog X.w) X.A t Q' E s':=
 wpAny_mono H (λ _ _ z=>z) λ e s' z=>(h e s' z).elim
theorem PC {t:TE}(x:∀e s,X.xe e s->False)(he:PE X elt t)(g:gens[d+1]? =none):wa X elt gens sc pos d (zaH t):=by
 intro pins s σ H D Q k Q' E I h b;unfold KI;rw[g];refine qa0 (qa0 (J8 x (zV (he pins s σ H _ I h) λ u s1 ⟨y,H1,f,r,ys,c,z,a⟩=>?_)));refine qa0 (J8 x (zV (R7 pins s1 σ H1 (.ref D) [y] (.ref D) [u] (λ _ l=>Q σ l) f rfl (.cons r .nil) ⟨D,ys,y,rfl,rfl,c,z,a⟩) λ _ s2 ⟨_,j,i,_,q⟩=>?_));exact qa1 (b s2 σ j i q)
theorem DH {g:TG}{ti:TT}{tm:wV}(Y:∀e s,X.xe e s->False)(Z:X.calm=true)(hg:gens[d]? =some ⟨tg,iter,ifs,0⟩)(ha:∀g',gens[d+1]? =some g'->g'.is_async=0)(M:PG X tg g)(hi:Qd X ifs ti)(hm:wa X elt gens sc pos d tm)
  {Q:St->Hp->Prop}{J:It}{it:Addr}{B:Nat->Heap->Prop}(T:Turn X.prog X.w X.K tg J fp it B)(I:Inv X pins σ H s)(st:B 0 s.heap)(hf:∀b∈fp,kJ X pins H b)
  (h:Yn J g ti tm D σ H Q){R:Result->Shared->Prop}(hR:∀s' a c,Inv X pins a c s'->Q a c->R (.ok .next) s'):
  codeAny (model X.prog X.w) X.A (.compLoop (.ListComp elt gens sc pos) d (.ref it) (.ref D) X.env) R s:=by
 obtain⟨W,⟨m0,w0⟩,turn⟩:=h;have S:∀{c:Hp},(∀b∈fp,c b=none)->∀b∈fp,kJ X pins c b:=λ hn b l=>⟨hn b l,(hf b l).2⟩;refine codeAny_loop rfl (λ n s'=>∃i a c,Inv X pins a c s'/\B i s'.heap/\(∀b∈fp,c b=none)/\W i n a c) (λ n s3 hI=>?_) m0 ⟨0,σ,H,I,st,λ b l=>(hf b l).1,w0⟩;show wpAny _ X.A ((compTurn (.ListComp elt gens sc pos) d (.ref it) (.ref D) X.env).onRaise (λ x=>do noteFrame x X.env;theTreesLotGoes x)) _ _ s3
 refine wpAny_noted ?_;rw[D1 hg ha];refine qa0 (wpAny_standAt ?_);obtain⟨i,j,C,I3,gX,z,w3⟩:=hI;rcases turn i n j C w3 with ⟨stop,qn⟩|⟨go,N,hN,step⟩
 ·refine qa0 (zV (T.done X rfl rfl rfl Z i pins s3 j C _ I3 (S z) gX stop) λ r s4 ⟨L,I4⟩=>?_)
  subst L;exact qa1 (hR s4 j C I4 qn)
 ·refine qa0 (zV (T.item X rfl rfl rfl Z i pins s3 j C _ I3 (S z) gX go) λ r s4 ⟨u,L,h4⟩=>?_)
  subst L;refine qa0 (zV h4 λ _ s5 ⟨x,H5,I5,r5,y5,p,P⟩=>?_);have U:=I5.pinned (S P) (T.obj _ _ p);have back:∀{f:St}{q:Hp}{t:Shared},Inv X (pins++Kl fp s5.heap) f q t->N f q->∃m,m<n/\∃i a c,Inv X pins a c t/\B i t.heap/\(∀b∈fp,c b=none)/\W i m a c:=λ {f q t} v n7=>by
   obtain⟨m',hm,w7⟩:=hN f q n7;refine⟨m',hm,i+1,f,q,v.unpinned,T.keep _ _ _ p λ b l o e=>(v.pin (b,o) (a6 _ (a6 _ (Wt l e)))).1,λ b l=>?_,w7⟩;obtain⟨o,e,d⟩:=T.obj _ _ p b l;exact(v.pin (b,o) (a6 _ (a6 _ (Wt l e)))).2.1
  refine qa0 (J8 Y (zV (M _ s5 j H5 x u _ U r5 (step x H5 y5)) λ _ s6 ⟨y,H6,I6,q6⟩=>?_));refine qa0 (J8 Y (zV (hi _ s6 y H6 _ I6 q6) λ ok t ⟨q,v,E⟩=>?_));cases ok with
  |false=>exact qa1 ⟨rfl,back v E⟩|true=>
   rw[ag rfl]at E;exact hm _ t y q D _ _ _ _ v E λ s8 σ8 H8 I8 q8=>qa1 ⟨rfl,back I8 q8⟩
theorem ND {g:TG}{ti:TT}{tm:wV}(i:∀e s,X.xe e s->False)(o:X.calm=true)(c:gens[d]? =some ⟨tg,iter,ifs,0⟩)(p:∀g',gens[d+1]? =some g'->g'.is_async=0)(t:PG X tg g)(j:Qd X ifs ti)(hm:wa X elt gens sc pos d tm)
  {Q:St->Hp->Prop}{J:It}{it:Addr}{n:Nat->Heap->Prop}(T:Turn X.prog X.w X.K tg J fp it n)(I:Inv X pins σ H s)(st:n 0 s.heap)(hf:∀b∈fp,kJ X pins H b)
  (h:Yn J g ti tm D σ H Q){R:Result->Shared->Prop}(q:∀s' a f,Inv X pins a f s'->Q a f->R (.ok .next) s'):
  codeAny (model X.prog X.w) X.A (.compStart (.ListComp elt gens sc pos) d (.ref it) (.ref D) X.env) R s:=by
 have loop:=DH i o c p t j hm T I st hf h q;refine codeAny_of_tree ?_;show wpAny _ _ ((compStart (.ListComp elt gens sc pos) d (.ref it) (.ref D) X.env).onRaise (λ x=>do noteFrame x X.env;standAt theWindowsPlace)) _ _ s
 refine wpAny_notedAt ?_;unfold compStart;have l:(clausesOf (.ListComp elt gens sc pos))[d]? =some ⟨tg,iter,ifs,0⟩:=c;rw[l];show wpAny _ _ (ask >>= _) _ _ s;refine qa0 (wpAny_askSetting (wpAny_ite ?_))
 split
 ·first
   |exact qa0 (qa1 (qa1 (And.intro rfl loop)))
   |exact qa1 (And.intro rfl loop)
 ·first
   |exact qa0 (wpAny_rule (qa0 (wpAny_standAt (qa0 (T.self _ 0 s _ _ st (qa1 (And.intro rfl loop)))))))
   |(refine qa0 (wpAny_rule ?_);show wpAny _ _ (standAt iter.pos >>= _) _ _ s;exact qa0 (wpAny_standAt (qa0 (T.self _ 0 s _ _ st (qa1 (And.intro rfl loop))))))
theorem Ee {wi:TI}{g:TG}{ti:TT}{tm:wV}(b:∀e s,X.xe e s->False)(o:X.calm=true)(c:gens[d+1]? =some ⟨tg,iter,ifs,0⟩)(p:∀g',gens[d+2]? =some g'->g'.is_async=0)(hw:PI X tg iter wi)(t:PG X tg g)(n:Qd X ifs ti)(hm:wa X elt gens sc pos (d+1) tm)
  (j:∀x,foldedSetIterable iter X.env x=pure x:=by intro _;rfl):wa X elt gens sc pos d (zbv wi g ti tm):=by
 intro pins s σ H D Q k Q' E I h l;unfold KI;rw[c];refine qa0 (J8 b (zV (hw pins s σ H _ I h) λ v s1 u=>?_));refine qa0 (wpAny_standAt (qa0 (wpAny_of_eq (j v) ?_)));refine qa0 (wpAny_holding (J8 b (zV u λ i s2 r=>?_)));obtain⟨it,fp,A,J,B,e,w,T,gw,f2,q⟩:=r;subst e;refine qa0 (wpAny_runOwn (ND b o c p t n hm T w gw f2 q λ s' a z y f=>?_));exact l s' a z y f
end
noncomputable def Zk (nl:Nat)(cap:List Nat)(σ:St):St:=List.replicate nl none++cap.map λ i=>(σ[i]?).join
noncomputable def Z7 (M N:List Str)(scope:Scope)(nl:Nat)(cap:List Nat):Bool:=
 N.length==nl+cap.length&&(List.range cap.length).all λ k=>match N[nl+k]?,M[cap.getD k 0]? with
  |some x,some y=>x==y&&scope.names.any λ z=>z.1==x&&z.2==NameKind.free|_,_=>false
theorem Dg {M:List Str}{nl:Nat}(h:Z7 M N scope nl cap=true):(Zk nl cap σ).length=N.length/\
  ∀(j:Nat)(x:Str)(v:V),N[j]? =some x->(Zk nl cap σ)[j]? =some (some v)->(x,NameKind.free)∈scope.names/\∃i:Nat,M[i]? =some x/\σ[i]? =some (some v):=by
 unfold Z7 at h;rw[aj,aL]at h;obtain⟨p,n⟩:=h;refine⟨by unfold Zk;simp[p],λ j x v t E=>?_⟩
 unfold Zk at E
 by_cases b:j<nl
 ·rw[ah (by simpa using b),bj]at E
  split at E<;>cases E
 ·rw[aq (by simpa using b),bx,ar]at E
  cases c:cap[j - nl]? with
  |none=>rw[c]at E;cases E|some i=>
   rw[c]at E;have e:(σ[i]?).join=some v:=aB E;have f:j - nl<cap.length:=(qa2.mp c).1;have H:=qa4.mp n (j - nl) (qa5.mpr f);have q:nl+(j - nl)=j:=by omega
   rw[q,t]at H;have r:cap.getD (j - nl) 0=i:=by rw[aa,c];rfl
   rw[r]at H;cases hm:M[i]? with
   |none=>rw[hm]at H;cases H|some y=>
    rw[hm]at H;rw[aj,aL]at H;obtain⟨l,g⟩:=H;subst l;obtain⟨z,d,a⟩:=List.any_eq_true.mp g;rw[aj,aL,aL]at a;refine⟨?_,i,hm,?_⟩
    ·obtain⟨u,Z⟩:=z
     obtain⟨a1,a2⟩:=a;cases a1;cases a2;exact d
    ·cases s:σ[i]? with
     |none=>rw[s]at e;cases e|some o=>rw[s]at e;cases o with
      |none=>cases e|some w=>cases e;rfl
noncomputable abbrev jR:Value->Shared->Prop:=λ _ _=>False
def GA (K:Frag)(wi:TI)(g:TG)(ti:TT)(tm:wV)(nl:Nat)(cap:List Nat):TE:=λ σ H Q=>wi σ H λ J h=>∀D,h D=none->K.lookup D=none->Yn J g ti tm D (Zk nl cap σ) (upd h D (.lst [])) λ _ a=>Q (.ref D) a
section
variable {wi:TI}{g:TG}{ti:TT}{tm:wV}{nl:Nat}
theorem VZ (hc:X.calm=true)(S:Zb X sc)(t:Z7 X.N N sc nl cap=true)(ha:∀g',gs[0]? =some g'->g'.is_async=0)(hw:PI X tg iter wi)
  
  (hin:∀s H fp,Inv X pins σ H s->(∀b∈fp,kJ X pins H b)->PG (jk X N sc s H fp jR) tg g/\Qd (jk X N sc s H fp jR) ifs ti/\wa (jk X N sc s H fp jR) elt (⟨tg,iter,ifs,0⟩::gs) sc pos 0 tm)
  {Q:VK}(I:Inv X pins σ H s)(h:GA X.K wi g ti tm nl cap σ H Q)
  {use:Option (Value->Sem Unit)}{Q':Value->Shared->Prop}
  (r:∀(D C:Addr)(s':Shared)(n:Hp)(m:Str->Option Value),Inv X pins σ n s'->Q (.ref D) n->s'.heap.Ns C m->n C=none->C≠X.env.locals->X.s0.heap.objs.size<=C->(∀x c,X.env.cells.lookup x=some c->c≠C)->(∀q∈X.pn++pins,q.1≠C)->
   compPost (model X.prog X.w) X.A X.xe use Q' (.ref D) C (.ok .next) s')
  (hs:∀x,foldedSetIterable iter X.env x=pure x:=by intro _;rfl):
  wpAny (model X.prog X.w) X.A (comprehension (.ListComp elt (⟨tg,iter,ifs,0⟩::gs) sc pos) sc X.env p (newList []) false (eval iter X.env) use) Q' X.xe s:=by
 have j:∀y∈sc.names,y.2=.free->∃c,X.env.cells.lookup y.1=some c:=λ y Y e=>I.ok.has _ (S.free y Y e);refine wpAny_comprehension_free (use:=use) rfl hs (RO j) S.kind (λ y Y e=>by
  obtain⟨y1,y2⟩:=y;have e':y2=.local:=e;subst e';exact Jx S.nd Y) ?_
 refine zV (hw pins s σ H _ I h) λ v s1 h1=>zV h1 λ itv s2 h2=>?_;obtain⟨it,fp,tn,J,M,e,I2,T,gw,f2,q2⟩:=h2;subst e;refine wpAny_newObj_type ?_;have hD:M s2.heap.objs.size=none:=I2.fresh;have hKD:X.K.lookup s2.heap.objs.size=none:=by
  cases ek:X.K.lookup s2.heap.objs.size with
  |none=>rfl|some o=>exact absurd (aI (I2.kIn _ _ ek)) (aY _)
 have U:=q2 _ hD hKD;generalize Z:({ s2 with heap:=s2.heap.push { cls:=.type "list",data:=.seq ([]:List Value).toArray } }:Shared)=s3
 have f:s3={ s2 with heap:=s2.heap.push { cls:=.type "list",data:=.seq ([]:List Value).toArray } }:=Z.symm
 have i:Inv X pins σ (upd M s2.heap.objs.size (.lst [])) s3:=by
  rw[f];exact I2.laid (t':=s2.toks) (λ b u e=>af _ e) (aw _) ⟨by simp,[],0,.nil,au _ rfl⟩
 have B:∀b∈fp,∃o,s2.heap.get? b=some o:=λ b a=>let ⟨o,e,_⟩:=T.obj 0 _ gw b a;⟨o,e⟩
 have P:s3.heap.objs.size=s2.heap.objs.size+1:=by rw[f];exact bf ..
 have gX:tn 0 s3.heap:=T.keep _ _ _ gw λ b a o e=>by rw[f];exact af _ e
 have E:∀b∈fp,b<s3.heap.objs.size:=λ b a=>by
  obtain⟨o,e⟩:=B b a;rw[P];exact ba (aI e)
 have L:∀b∈fp,kJ X pins (upd M s2.heap.objs.size (.lst [])) b:=λ b a=>by
  obtain⟨o,e⟩:=B b a;refine⟨?_,(f2 b a).2⟩;rw[qj (aM (aI e))];exact(f2 b a).1
 generalize upd M s2.heap.objs.size (.lst [])=H3 at i L U;generalize s2.heap.objs.size=D at U ⊢;refine Mz ?_;obtain⟨cl,cs⟩:=Dg t (σ:=σ);have I4:=Dh (xe:=jR) i S L E cl cs;obtain⟨hgt,hi,hm⟩:=hin s3 H3 fp i L;refine ND (X:=jk X N sc s3 H3 fp jR) (gens:=⟨tg,iter,ifs,0⟩::gs) (d:=0) (λ _ _ z=>z) hc rfl ha hgt hi hm T I4 (T.keep _ _ _ gX λ b a o e=>pushCells_keeps _ _ _ _ (af _ e)) (λ b a=>?_) U λ s' σ' n l q'=>?_
 ·obtain⟨g1,g2,g3,g4,g5,g6⟩:=L b a
  refine⟨g1,aM (E b a),λ z=>?_,.inl a,(I4.ok.exf b a).2,λ p hp=>absurd (show p∈([]:List (Addr×Obj)) from hp) (by simp)⟩
  rcases qa3.mp (i.stkSub b z) with e|e
  ·exact g2 e
  ·exact g3 e
 ·have I5:Inv X pins σ n s':=i.call' l.os l.base l.hok l.bare λ b a=>by
   obtain⟨g1,g2,g3,g4,g5,g6⟩:=L b a;exact⟨g4,g2,g5,g6⟩
  obtain⟨m,hn,_⟩:=l.loc;refine r D _ s' n m I5 q' hn l.free (bA i.lt) i.sz (λ x c e z=>?_) λ q hq z=>?_
  ·obtain⟨v,w⟩:=i.cell x c e
   exact aY _ (aD w.lt (by rw[z];exact aw _))
  ·exact aY _ (aD (aI (i.pin q hq).1) (by rw[z];exact aw _))
theorem DZ (d:X.calm=true)(S:Zb X sc)(p:Z7 X.N N sc nl cap=true)(i:∀g',gs[0]? =some g'->g'.is_async=0)(hw:PI X tg iter wi)
  (n:∀s H fp,PG (jk X N sc s H fp jR) tg g/\Qd (jk X N sc s H fp jR) ifs ti/\wa (jk X N sc s H fp jR) elt (⟨tg,iter,ifs,0⟩::gs) sc pos 0 tm)
  (c:∀x,foldedSetIterable iter X.env x=pure x:=by intro _;rfl):PE X (.ListComp elt (⟨tg,iter,ifs,0⟩::gs) sc pos) (GA X.K wi g ti tm nl cap):=by
 intro pins s σ H Q I h;rw[eval_ListComp];refine VZ (use:=none) d S p i hw (λ s H fp _ _=>n s H fp) I h (λ D C s' w m v q hn u t r l j=>?_) c;exact⟨m,hn,λ h' a=>⟨.ref D,w,v.turned (t':=s'.toks) (λ b o f e=>(a.2 b f).trans e) u t (.inr r) l j,rfl,q⟩⟩
theorem Hj {p:Pos}{c:Pos}(Q:X.N.Nodup)(j:X.N[i]? =some x)(r:X.env.scope.names.lookup x=some .local)
  (w:swapsWith (.ListComp elt (⟨tg,iter,ifs,0⟩::gs) sc pos) (some (.Name x p)) c.line X.env=pure true)
  (L:X.calm=true)(S:Zb X sc)(d:Z7 X.N N sc nl cap=true)(P:∀g',gs[0]? =some g'->g'.is_async=0)(hw:PI X tg iter wi)
  (n:∀s H fp,PG (jk X N sc s H fp jR) tg g/\Qd (jk X N sc s H fp jR) ifs ti/\wa (jk X N sc s H fp jR) elt (⟨tg,iter,ifs,0⟩::gs) sc pos 0 tm)
  (E:∀x,foldedSetIterable iter X.env x=pure x:=by intro _;rfl):PS X (.Assign [.Name x p] (.ListComp elt (⟨tg,iter,ifs,0⟩::gs) sc pos) c) (GW (GA X.K wi g ti tm nl cap) (GN i)):=by
 intro pins s σ H D I h;rw[exec_Assign_Name_used _ _ _ _ w];refine qa0 (wpAny_standAt (qa0 ?_));show wpAny _ X.A (do let _ <- comprehension (.ListComp elt (⟨tg,iter,ifs,0⟩::gs) sc pos) sc X.env _ (newList []) false (eval iter X.env) (some (assign (.Name x p) X.env))) _ _ s
 refine qa0 (wpAny_mono (VZ (use:=some (assign (.Name x p) X.env)) (Q':=λ _ s'=>SP X pins D .next s') L S d P hw (λ s H fp _ _=>n s H fp) I h (λ y C s' H' m I' q hn Y u U t T=>?_) E) (λ _ s' J=>qa1 (qa1 J)) λ _ _ e=>e);show wpAny _ X.A (assign (.Name x p) X.env (.ref y)) _ _ _;refine wpAny_assign_Name (Pe I' Q j (.inl r) (v:=.ref y) rfl (λ s2 I2 ⟨a,B,Z⟩=>?_) (.inr r));have l:C≠a:=by
  rcases Z with e|e
  ·rw[e];exact u
  ·exactλ z=>t x a e z.symm
 refine⟨m,hn.sameBut B l,λ h' f=>⟨_,H',I2.turned (t':=s2.toks) (λ b o M e=>(f.2 b M).trans e) Y u (.inr U) t T,q⟩⟩
end
end L2
namespace Mi
open PySem PySem.Spec PyProof.Rows L2
inductive W where
 |non|bl (b:Bool) | int (i:Int) | str (x:Str) | tup (xs:List W) | ref (n:Nat)
 |clo (k:Nat) (xs:List W) (P:Obj->Addr->Obj->List V->Prop)
 |xc (x:Str)
inductive O where
 |lst (xs:List W) | ro (xs:List W) | dct (kvs:List (Key×W))
 |tab (q:Str) (P:Addr)
noncomputable def O.mut:O->Bool
 |.ro _=>false|_=>true
noncomputable abbrev Hx:=List O
noncomputable abbrev En:=List (Option W)
inductive R (α:Type) where
 |ok (a:α) (A:Hx) | exc (x:Str) (A:Hx) | bad
noncomputable def R.bind {β:Type}(r:R α)(f:α->Hx->R β):R β:=match r with
 |.ok a A=>f a A|.exc x A=>.exc x A|.bad=>.bad
def R.post (r:R α)(P:α->Hx->Prop)(E:Str->Hx->Prop):Prop:=match r with
 |.ok a A=>P a A|.exc x A=>E x A|.bad=>False
noncomputable def R.nox (r:R α):R α:=match r with
 |.ok a A=>.ok a A|.exc _ _=>.bad|.bad=>.bad
section
variable {β:Type}{r:R α}{f:α->Hx->R β}{P Q:α->Hx->Prop}{P':β->Hx->Prop}{E F:Str->Hx->Prop}
theorem zP {a:α}{A:Hx}:(R.ok a A).bind f=f a A:=rfl
theorem P0 {A:Hx}:(R.exc x A:R α).bind f=.exc x A:=rfl
theorem zW:(r.bind f).post P' E↔r.post (λ a A=>(f a A).post P' E) E:=by cases r<;>exact Iff.rfl
theorem qt (h:r.post P E)(H:∀a A,P a A->Q a A)(b:∀x A,E x A->F x A):r.post Q F:=by
 cases r with
 |ok a A=>exact H _ _ h|exc x A=>exact b _ _ h|bad=>exact h
end
abbrev Ev:=En->Hx->R W
inductive zb4 (K:Frag)(H:Hp)(R:List V->Prop)(v:V):Prop
 |mk (a:Addr) (vs:List V) (e:v=.ref a) (h:qD K H a vs) (r:R vs)
inductive zcj (H:Hp)(P:Obj->Addr->Obj->List V->Prop)(R:List V->Prop)(v:V):Prop
 |mk (a:Addr) (ob:Obj) (u:HO) (c:Addr) (oc:Obj) (uc:HO) (vs:List V) (e:v=.ref a) (h1:H a=some (.frz ob u)) (h2:H c=some (.frz oc uc)) (p:P ob c oc vs) (r:R vs)
inductive zcm (R:V->Prop)(Rs:List V->Prop)(vs:List V):Prop
 |mk (v:V) (r:List V) (e:vs=v::r) (h:R v) (t:Rs r)
mutual
noncomputable def RV (K:Frag)(φ:List Addr)(H:Hp):W->V->Prop
 |.non,v=>v=.non|.bl b,v=>v=.bl b|.int i,v=>v=.int i|.str x,v=>v=.str x|.tup ws,v=>zb4 K H (zG K φ H ws) v|.ref n,v=>∃a,v=.ref a/\φ[n]? =some a|.clo _ ws P,v=>zcj H P (zG K φ H ws) v|.xc x,v=>∃a o u C,v=.ref a/\H a=some (.frz o u)/\o.cls=.ref C/\nsIn K mainGlobals x=some (some (.ref C))
noncomputable def zG (K:Frag)(φ:List Addr)(H:Hp):List W->List V->Prop
 |[],vs=>vs=[]|w::ws,vs=>zcm (RV K φ H w) (zG K φ H ws) vs
end
structure Le (K:Frag)(φ:List Addr)(H:Hp)(φ':List Addr)(H':Hp):Prop where
 ex:∀(n:Nat)(a:Addr),φ[n]? =some a->φ'[n]? =some a
 tp:∀a vs,qD K H a vs->qD K H' a vs
 fr:∀a o,H a=some o->(∀n:Nat,φ[n]?≠some a)->H' a=some o
 nw:∀(n:Nat)(a:Addr),φ'[n]? =some a->φ[n]? =some a∨H a=none
 st:∀a,H' a=none->H a=none
 fz:∀a o u,H a=some (.frz o u)->H' a=some (.frz o u)
theorem Le.refl {K φ H}:Le K φ H φ H:=⟨λ _ _ h=>h,λ _ _ h=>h,λ _ _ h _=>h,λ _ _ h=>.inl h,λ _ h=>h,λ _ _ _ h=>h⟩
theorem Le.trans {K φ H φ1 H1 φ2 H2}(a:Le K φ H φ1 H1)(b:Le K φ1 H1 φ2 H2):Le K φ H φ2 H2 where
 ex:=λ n x h=>b.ex n x (a.ex n x h)
 tp:=λ n x h=>b.tp n x (a.tp n x h)
 fr:=λ c o h n=>b.fr c o (a.fr c o h n) λ k e=>by
  rcases a.nw k c e with e|e
  ·exact n k e
  ·rw[h]at e;cases e
 nw:=λ n c e=>by
  rcases b.nw n c e with e|e
  ·exact a.nw n c e
  ·exact .inr (a.st c e)
 st:=λ c e=>a.st c (b.st c e)
 fz:=λ c o u h=>b.fz c o u (a.fz c o u h)
theorem Le.off {K φ H φ' H'}(l:Le K φ H φ' H'){o:HO}(h:H D=some o)(n:∀k:Nat,φ[k]?≠some D):H' D=some o/\∀k:Nat,φ'[k]?≠some D:=
 ⟨l.fr D o h n,λ k e=>by
  rcases l.nw k D e with e|e
  ·exact n k e
  ·rw[h]at e;cases e⟩
section
variable {K:Frag}{φ':List Addr}{H':Hp}
structure Zq (K:Frag)(φ:List Addr)(H:Hp)(φ':List Addr)(H':Hp):Prop where
 ex:∀(n:Nat)(a:Addr),φ[n]? =some a->φ'[n]? =some a
 tp:∀a vs,qD K H a vs->qD K H' a vs
 fz:∀a o u,H a=some (.frz o u)->H' a=some (.frz o u)
mutual
theorem RV.monoW (l:Zq K φ H φ' H'):∀{w:W}{v:V},RV K φ H w v->RV K φ' H' w v
 |.non,_,h=>h|.bl _,_,h=>h|.int _,_,h=>h|.str _,_,h=>h|.tup ws,_,⟨a,vs,e,t,r⟩=>⟨a,vs,e,l.tp _ _ t,zG.monoW l r⟩|.ref n,_,⟨a,e,f⟩=>⟨a,e,l.ex _ _ f⟩|.clo _ ws P,_,⟨a,ob,u,c,g,uc,vs,e,d,b,i,r⟩=>⟨a,ob,u,c,g,uc,vs,e,l.fz _ _ _ d,l.fz _ _ _ b,i,zG.monoW l r⟩|.xc x,_,⟨a,o,u,C,e,d,b⟩=>⟨a,o,u,C,e,l.fz _ _ _ d,b⟩
theorem zG.monoW (l:Zq K φ H φ' H'):∀{ws:List W}{vs:List V},zG K φ H ws vs->zG K φ' H' ws vs
 |[],_,h=>h|w::ws,_,⟨v,r,e,h,t⟩=>⟨v,r,e,RV.monoW l h,zG.monoW l t⟩
end
theorem RV.mono {w:W}(h:RV K φ H w v)(l:Le K φ H φ' H'):RV K φ' H' w v:=RV.monoW ⟨l.ex,l.tp,l.fz⟩ h
theorem zG.mono {w:List W}{v:List V}(h:zG K φ H w v)(l:Le K φ H φ' H'):zG K φ' H' w v:=zG.monoW ⟨l.ex,l.tp,l.fz⟩ h
structure yw (K:Frag)(D:Addr)(φ:List Addr)(H:Hp)(φ':List Addr)(H':Hp):Prop where
 ex:∀(n:Nat)(a:Addr),φ[n]? =some a->φ'[n]? =some a
 tp:∀a vs,qD K H a vs->qD K H' a vs
 fr:∀a o,a≠D->H a=some o->(∀n:Nat,φ[n]?≠some a)->H' a=some o
 nw:∀(n:Nat)(a:Addr),φ'[n]? =some a->φ[n]? =some a∨H a=none
 st:∀a,H' a=none->H a=none
 fz:∀a o u,H a=some (.frz o u)->H' a=some (.frz o u)
theorem yw.refl {D}:yw K D φ H φ H:=⟨λ _ _ h=>h,λ _ _ h=>h,λ _ _ _ h _=>h,λ _ _ h=>.inl h,λ _ h=>h,λ _ _ _ h=>h⟩
theorem Le.toD {D}(l:Le K φ H φ' H'):yw K D φ H φ' H':=⟨l.ex,l.tp,λ a o _ h n=>l.fr a o h n,l.nw,l.st,l.fz⟩
theorem yw.trans {D φ1 H1 φ2 H2}(a:yw K D φ H φ1 H1)(b:yw K D φ1 H1 φ2 H2):yw K D φ H φ2 H2 where
 ex:=λ n x h=>b.ex n x (a.ex n x h)
 tp:=λ n x h=>b.tp n x (a.tp n x h)
 fr:=λ c o ne h n=>b.fr c o ne (a.fr c o ne h n) λ k e=>by
  rcases a.nw k c e with e|e
  ·exact n k e
  ·rw[h]at e;cases e
 nw:=λ n c e=>by
  rcases b.nw n c e with e|e
  ·exact a.nw n c e
  ·exact .inr (a.st c e)
 st:=λ c e=>a.st c (b.st c e)
 fz:=λ c o u h=>b.fz c o u (a.fz c o u h)
theorem RV.monoD {D}{w:W}(h:RV K φ H w v)(l:yw K D φ H φ' H'):RV K φ' H' w v:=RV.monoW ⟨l.ex,l.tp,l.fz⟩ h
theorem zG.monoD {D}{w:List W}{v:List V}(h:zG K φ H w v)(l:yw K D φ H φ' H'):zG K φ' H' w v:=zG.monoW ⟨l.ex,l.tp,l.fz⟩ h
theorem zG.length:∀{ws:List W}{vs:List V},zG K φ H ws vs->ws.length=vs.length
 |[],_,h=>by cases h;rfl|w::ws,_,⟨v,r,e,_,t⟩=>by subst e;simp[zG.length t]
theorem zG.get:∀{ws:List W}{vs:List V}{i:Nat}{w:W},zG K φ H ws vs->ws[i]? =some w->∃v,vs[i]? =some v/\RV K φ H w v
 |[],_,_,_,_,e=>by simp at e|w::ws,_,0,_,⟨v,r,e,h,t⟩,q=>by subst e;simp at q;subst q;exact⟨v,by simp,h⟩|w::ws,_,i+1,x,⟨v,r,e,h,t⟩,q=>by
  subst e;obtain⟨y,b,a⟩:=zG.get (i:=i) (w:=x) t (by simpa using q)
  exact⟨y,by simpa using b,a⟩
theorem zG.append:∀{ws us:List W}{vs xs:List V},zG K φ H ws vs->zG K φ H us xs->zG K φ H (ws++us) (vs++xs)
 |[],_,_,_,h,t=>by cases h;exact t|w::ws,_,_,_,⟨v,r,e,h,t⟩,T=>by subst e;exact⟨v,r++_,rfl,h,zG.append t T⟩
theorem zG.one {w:W}(h:RV K φ H w v):zG K φ H [w] [v]:=⟨v,[],rfl,h,rfl⟩
theorem zG.nil:zG K φ H [] []:=rfl
theorem zG.cons {w:W}{v:V}{ws:List W}{vs:List V}(h:RV K φ H w v)(t:zG K φ H ws vs):zG K φ H (w::ws) (v::vs):=⟨v,vs,rfl,h,t⟩
theorem zG.set {w:W}(q:RV K φ H w v):∀{ws:List W}{vs:List V}(i:Nat),zG K φ H ws vs->zG K φ H (ws.set i w) (vs.set i v)
 |[],_,_,h=>by cases h;exact rfl|_::_,_,0,⟨a,r,e,h,t⟩=>by subst e;exact⟨v,r,rfl,q,t⟩|_::_,_,i+1,⟨a,r,e,h,t⟩=>by subst e;exact⟨a,_,rfl,h,zG.set q i t⟩
theorem zG.drop:∀{ws:List W}{vs:List V}(n:Nat),zG K φ H ws vs->zG K φ H (ws.drop n) (vs.drop n)
 |[],_,n,h=>by cases h;rw[List.drop_nil,List.drop_nil];exact zG.nil|_::_,_,0,h=>by simpa using h|_::_,_,n+1,⟨v,r,e,h,t⟩=>by subst e;simpa using zG.drop n t
theorem zG.take:∀{ws:List W}{vs:List V}(n:Nat),zG K φ H ws vs->zG K φ H (ws.take n) (vs.take n)
 |[],_,n,h=>by cases h;rw[List.take_nil,List.take_nil];exact zG.nil|_::_,_,0,h=>by rw[List.take_zero,List.take_zero];exact zG.nil|_::_,_,n+1,⟨v,r,e,h,t⟩=>by subst e;exact⟨v,_,rfl,h,zG.take n t⟩
theorem zG.erase:∀{ws:List W}{vs:List V}(n:Nat),zG K φ H ws vs->zG K φ H (ws.eraseIdx n) (vs.eraseIdx n)
 |[],_,n,h=>by cases h;rw[List.eraseIdx_nil,List.eraseIdx_nil];exact zG.nil|_::_,_,0,⟨v,r,e,h,t⟩=>by subst e;simpa using t|_::_,_,n+1,⟨v,r,e,h,t⟩=>by subst e;exact⟨v,_,rfl,h,zG.erase n t⟩
theorem zG.ints:∀{ns:List Int}{vs:List V},zG K φ H (ns.map W.int) vs↔vs=ns.map V.int
 |[],vs=>Iff.rfl|n::ns,vs=>by
  constructor
  ·rintro⟨v,r,e,h,t⟩
   rw[e,(show v=V.int n from h),zG.ints.mp t];rfl
  ·intro e
   exact⟨V.int n,ns.map V.int,e,rfl,zG.ints.mpr rfl⟩
def Yz (K:Frag)(H:Hp)(a:Addr)(xs:List V):Prop:=
 (∃ob,H a=some (.frz ob (.lst xs)))∨
  ∃(o:Obj) (its:Array Value) (n:Nat),K.lookup a=some o/\o.cls=.type "list" /\ o.dict=none/\o.data=.seq its n/\its.size<=sizeLine/\Vals xs its.toList
theorem Yz.sq (h:Yz K H a xs):ji K H a xs:=by
 rcases h with h|h
 ·exact .inl (.inr h)
 ·exact .inr h
inductive TabAt (H:Hp)(q:Str)(cv:Value):Prop
 |mk (c:Addr) (oc:Obj) (u:HO) (vs:Array Value) (t:Tok) (e:cv=.ref c) (h:H c=some (.frz oc u)) (d:oc.data=.fields vs/\vs[1]? =some (.str q t))
def KR (H:Hp)(q:Str)(ps:Array Value):Prop:=TriplesOk ps.toList/\∀pos cv,codeAmong pos ps.toList=some cv->TabAt H q cv
theorem KR.mono {q:Str}{ps:Array Value}(h:KR H q ps)(l:∀a o u,H a=some (.frz o u)->H' a=some (.frz o u)):KR H' q ps:=
 ⟨h.1,λ pos cv e=>by obtain⟨c,b,u,vs,t,g,f,d⟩:=h.2 pos cv e;exact⟨c,b,u,vs,t,g,l _ _ _ f,d⟩⟩
def OR (K:Frag)(φ:List Addr)(H:Hp)(a:Addr):O->Prop
 |.lst ws=>∃vs,H a=some (.lst vs)/\zG K φ H ws vs|.ro ws=>∃vs,Yz K H a vs/\zG K φ H ws vs|.dct kvs=>∃us,H a=some (.dK us)/\us.map (·.1)=kvs.map (·.1)/\zG K φ H (kvs.map (·.2)) (us.map (·.2))|.tab q P=>a=P/\∃ps,H a=some (.tbl ps)/\KR H q ps
structure zM (K:Frag)(φ:List Addr)(A:Hx)(H:Hp):Prop where
 len:φ.length=A.length
 inj:∀(i j:Nat)(a:Addr)(o o':O),φ[i]? =some a->φ[j]? =some a->A[i]? =some o->A[j]? =some o'->o.mut=true->o'.mut=true->i=j
 ob:∀(n:Nat)(o:O),A[n]? =some o->∃a,φ[n]? =some a/\OR K φ H a o
variable {A:Hx}
theorem OR.there {o:O}(h:OR K φ H a o)(m:o.mut=true):∃u,H a=some u/\(∀xs,u≠.tup xs)/\(∀ob v,u≠.frz ob v):=by
 cases o with
 |lst ws=>obtain⟨vs,e,_⟩:=h;exact⟨_,e,λ _ z=>(by cases z),λ _ _ z=>(by cases z)⟩|ro ws=>cases m|dct kvs=>obtain⟨vs,e,_⟩:=h;exact⟨_,e,λ _ z=>(by cases z),λ _ _ z=>(by cases z)⟩|tab q P=>obtain⟨_,vs,e,_⟩:=h;exact⟨_,e,λ _ z=>(by cases z),λ _ _ z=>(by cases z)⟩
theorem Gh {o:HO}(h:qD K H a vs)(n:∀xs,H b≠some (.tup xs))(N:∀ob u,H b≠some (.frz ob u)):qD K (upd H b o) a vs:=by
 rcases h with (h|⟨ob,h⟩) | h
 ·exact .inl (.inl (by rw[qj];exact h;intro e;subst e;exact n _ h))
 ·exact .inl (.inr ⟨ob,by rw[qj];exact h;intro e;subst e;exact N _ _ h⟩)
 ·exact .inr h
theorem Le.upd {o:HO}{k:Nat}(c:φ[k]? =some b)(n:∀xs,H b≠some (.tup xs))(N:∀ob u,H b≠some (.frz ob u)):Le K φ H φ (upd H b o) where
 ex:=λ _ _ h=>h
 tp:=λ _ _ h=>Gh h n N
 fr:=λ a u h z=>by
  rw[qj];exact h;intro e;subst e;exact z k c
 nw:=λ _ _ h=>.inl h
 st:=λ a h=>by
  by_cases e:a=b
  ·subst e;rw[jD]at h;cases h
  ·rw[qj e]at h;exact h
 fz:=λ a ob u h=>by
  rw[qj];exact h;intro e;subst e;exact N _ _ h
theorem Le.new {p:Addr}{o:HO}(b:H p=none):Le K φ H φ (L2.upd H p o) where
 ex:=λ _ _ h=>h
 tp:=λ _ _ h=>Gh h (λ xs z=>by rw[b]at z;cases z) (λ _ _ z=>by rw[b]at z;cases z)
 fr:=λ a u h z=>by
  rw[qj];exact h;intro e;subst e;rw[b]at h;cases h
 nw:=λ _ _ h=>.inl h
 st:=λ a h=>by
  by_cases e:a=p
  ·subst e;rw[jD]at h;cases h
  ·rw[qj e]at h;exact h
 fz:=λ a ob u h=>by
  rw[qj];exact h;intro e;subst e;rw[b]at h;cases h
theorem Le.alloc {p:Addr}{o:HO}(b:H p=none):Le K φ H (φ++[p]) (L2.upd H p o) where
 ex:=λ n a h=>by
  have:=(qa2.mp h).1
  rw[ah this];exact h
 tp:=(Le.new (φ:=φ) b).tp
 fr:=(Le.new (K:=K) (φ:=φ) b).fr
 nw:=λ n a h=>by
  by_cases hn:n < φ.length
  ·rw[ah hn]at h;exact .inl h
  ·rw[aq (by omega)]at h
   have e:a=p:=by
    have:=mem_of_getElem? h
    simpa using this
   subst e;exact .inr b
 st:=(Le.new (K:=K) (φ:=φ) b).st
 fz:=(Le.new (K:=K) (φ:=φ) b).fz
theorem Le.ofD {o:HO}(b:H D=none)(l:yw K D φ (L2.upd H D o) φ' H'):Le K φ H φ' H' where
 ex:=l.ex
 tp:=λ a vs h=>l.tp a vs ((Le.new (K:=K) (φ:=φ) b).tp a vs h)
 fr:=λ a u h n=>by
  have ne:a≠D:=by rintro rfl;rw[b]at h;cases h
  exact l.fr a u ne (by rw[qj ne];exact h) n
 nw:=λ n a e=>by
  rcases l.nw n a e with e|e
  ·exact .inl e
  ·by_cases h:a=D
   ·subst h;rw[jD]at e;cases e
   ·rw[qj h]at e;exact .inr e
 st:=λ a e=>by
  have E:=l.st a e
  by_cases h:a=D
  ·subst h;rw[jD]at E;cases E
  ·rw[qj h]at E;exact E
 fz:=λ a ob u h=>l.fz a ob u (by rw[qj];exact h;rintro rfl;rw[b]at h;cases h)
theorem yw.upd {o:HO}(b:H D=some (.lst xs)):yw K D φ H φ (L2.upd H D o) where
 ex:=λ _ _ h=>h
 tp:=λ a vs h=>Gh h (λ xs z=>by rw[b]at z;cases z) (λ _ _ z=>by rw[b]at z;cases z)
 fr:=λ a u ne h n=>by rw[qj ne];exact h
 nw:=λ _ _ h=>.inl h
 st:=λ a e=>by
  by_cases h:a=D
  ·subst h;rw[jD]at e;cases e
  ·rw[qj h]at e;exact e
 fz:=λ a ob u h=>by
  rw[qj];exact h;intro e;subst e;rw[b]at h;cases h
theorem OR.keep {o:O}(h:OR K φ H a o)(l:Le K φ H φ' H')(e:∀u,H a=some u->H' a=some u):OR K φ' H' a o:=by
 cases o with
 |lst ws=>obtain⟨vs,q,r⟩:=h;exact⟨vs,e _ q,r.mono l⟩|dct kvs=>obtain⟨vs,q,k,r⟩:=h;exact⟨vs,e _ q,k,r.mono l⟩|tab q P=>obtain⟨k,ps,q,r⟩:=h;exact⟨k,ps,e _ q,r.mono l.fz⟩|ro ws=>
  obtain⟨vs,q,r⟩:=h;refine⟨vs,?_,r.mono l⟩;rcases q with ⟨ob,q⟩|q
  ·exact .inl ⟨ob,e _ q⟩
  ·exact .inr q
theorem zM.alloc {p:Addr}{u:HO}{o:O}(S:zM K φ A H)(s:H p=none)(new:OR K (φ++[p]) (L2.upd H p u) p o):Le K φ H (φ++[p]) (L2.upd H p u)/\zM K (φ++[p]) (A++[o]) (L2.upd H p u):=by
 have l:Le K φ H (φ++[p]) (L2.upd H p u):=Le.alloc s;have old:∀(i:Nat) a,(φ++[p])[i]? =some a->i<A.length->φ[i]? =some a:=λ i a e b=>by
  rw[ah (by rw[S.len];exact b)]at e;exact e
 refine⟨l,by simp[S.len],λ i j a y x r g f c m1 m2=>?_,λ n o' e=>?_⟩
 ·by_cases b:i<A.length
  ·by_cases d:j<A.length
   ·rw[ah b]at f
    rw[ah d]at c;exact S.inj i j a y x (old i a r b) (old j a g d) f c m1 m2
   ·exfalso
    rw[ah b]at f;have v:j=A.length:=by have:=(qa2.mp c).1;simp at this;omega
    subst v;rw[aq (by rw[S.len];exact aw _),S.len]at g
    simp at g;obtain⟨C,E,q⟩:=S.ob i y f;rw[old i a r b]at E;cases E;obtain⟨z,h,_⟩:=q.there m1;rw[<- g,s]at h;cases h
  ·have w:i=A.length:=by have:=(qa2.mp f).1;simp at this;omega
   by_cases d:j<A.length
   ·exfalso
    rw[ah d]at c;subst w;rw[aq (by rw[S.len];exact aw _),S.len]at r
    simp at r;obtain⟨C,E,q⟩:=S.ob j x c;rw[old j a g d]at E;cases E;obtain⟨z,h,_⟩:=q.there m2;rw[<- r,s]at h;cases h
   ·have:=(qa2.mp c).1;simp at this;omega
 ·by_cases hn:n<A.length
  ·rw[ah hn]at e
   obtain⟨a,E,q⟩:=S.ob n o' e;refine⟨a,l.ex _ _ E,q.keep l λ z h=>?_⟩;rw[qj];exact h;intro B;subst B;rw[s]at h;cases h
  ·have t:n=A.length:=by have:=(qa2.mp e).1;simp at this;omega
   subst t;rw[aq (aw _)]at e;simp at e;subst e;exact⟨p,by rw[aq (by rw[S.len];exact aw _),S.len];simp,new⟩
theorem zM.write {p:Addr}{u:HO}{o o':O}(S:zM K φ A H)(hn:A[n]? =some o)(m:o.mut=true)(L:o'.mut=true)(c:φ[n]? =some p)(new:OR K φ (L2.upd H p u) p o'):
  Le K φ H φ (L2.upd H p u)/\zM K φ (A.set n o') (L2.upd H p u):=by
 obtain⟨P,e,q⟩:=S.ob n o hn;rw[c]at e;cases e;obtain⟨z,h,y,N⟩:=q.there m;have l:Le K φ H φ (L2.upd H p u):=Le.upd c (λ xs e=>by rw[h]at e;exact y xs (aB e)) λ ob v e=>by rw[h]at e;exact N ob v (aB e)
 have mt:∀(i:Nat)(w:O),(A.set n o')[i]? =some w->w.mut=true->∃d,A[i]? =some d/\d.mut=true:=λ i w e M=>by
  by_cases hi:i=n
  ·subst hi;exact⟨o,hn,m⟩
  ·rw[aH (Ne.symm hi)]at e;exact⟨w,e,M⟩
 refine⟨l,by simp[S.len],λ i j a x t I D C B m1 m2=>?_,λ i w e=>?_⟩
 ·obtain⟨g,E,k1⟩:=mt i x C m1
  obtain⟨f,J,k2⟩:=mt j t B m2;exact S.inj i j a g f I D E J k1 k2
 ·by_cases hi:i=n
  ·subst hi
   have:i<A.length:=(qa2.mp hn).1
   rw[aG this]at e;cases e;exact⟨p,c,new⟩
  ·rw[aH (Ne.symm hi)]at e
   obtain⟨a,E,r⟩:=S.ob i w e;refine⟨a,E,?_⟩
   by_cases hm:w.mut=true
   ·have ne:a≠p:=λ z=>hi (S.inj i n a w o E (by rw[z];exact c) e hn hm m)
    exact r.keep l λ z h=>by rw[qj ne];exact h
   ·cases w with
    |lst _=>exact absurd rfl hm|dct _=>exact absurd rfl hm|tab _ _=>exact absurd rfl hm|ro ws=>
     obtain⟨vs,b,s⟩:=r;refine⟨vs,?_,s.mono l⟩;rcases b with ⟨ob,b⟩|b
     ·refine .inl ⟨ob,?_⟩
      rw[qj];exact b;intro z;subst z;rw[h]at b;exact N _ _ (aB b)
     ·exact .inr b
theorem zM.lay {p:Addr}{u:HO}(S:zM K φ A H)(b:H p=none):zM K φ A (L2.upd H p u):=
 ⟨S.len,S.inj,λ n o e=>by
  obtain⟨a,c,q⟩:=S.ob n o e;refine⟨a,c,q.keep (Le.new b) λ z h=>?_⟩;rw[qj];exact h;intro E;subst E;rw[b]at h;cases h⟩
theorem zM.off {o:HO}(S:zM K φ A H)(h:H D=some (.lst xs))(n:∀k:Nat,φ[k]?≠some D):zM K φ A (L2.upd H D o):=
 ⟨S.len,S.inj,λ k u e=>by
  obtain⟨a,E,q⟩:=S.ob k u e;have ne:a≠D:=λ z=>n k (by rw[<- z];exact E)
  have l:yw K D φ H φ (L2.upd H D o):=yw.upd h;refine⟨a,E,?_⟩;cases u with
  |lst ws=>obtain⟨vs,q,r⟩:=q;exact⟨vs,by rw[qj ne];exact q,r.monoD l⟩|dct kvs=>obtain⟨vs,q,k,r⟩:=q;exact⟨vs,by rw[qj ne];exact q,k,r.monoD l⟩|tab _ _=>obtain⟨k,vs,q,r⟩:=q;exact⟨k,vs,by rw[qj ne];exact q,r.mono l.fz⟩|ro ws=>
   obtain⟨vs,q,r⟩:=q;refine⟨vs,?_,r.monoD l⟩;rcases q with ⟨ob,q⟩|q
   ·exact .inl ⟨ob,by rw[qj ne];exact q⟩
   ·exact .inr q⟩
theorem zM.notin (S:zM K φ A H)(b:H D=none)(d:K.lookup D=none):∀k:Nat,φ[k]?≠some D:=λ k e=>by
 have c:k<A.length:=by rw[<- S.len];exact(qa2.mp e).1
 obtain⟨a,E,q⟩:=S.ob k A[k] (by simp[c])
 rw[e]at E;cases E;cases h:A[k] with
 |lst ws=>rw[h]at q;obtain⟨vs,z,_⟩:=q;rw[b]at z;cases z|dct ws=>rw[h]at q;obtain⟨vs,z,_⟩:=q;rw[b]at z;cases z|tab _ _=>rw[h]at q;obtain⟨_,vs,z,_⟩:=q;rw[b]at z;cases z|ro ws=>
  rw[h]at q;obtain⟨vs,z,_⟩:=q;rcases z with ⟨ob,z⟩|⟨o,i,n,z,_⟩
  ·rw[b]at z;cases z
  ·rw[d]at z;cases z
theorem zM.Yj {u:HO}{o:O}(S:zM K φ A H)(y:H D=some u)(n:∀k:Nat,φ[k]?≠some D)(new:OR K (φ++[D]) H D o):zM K (φ++[D]) (A++[o]) H:=by
 have l:Zq K φ H (φ++[D]) H:=⟨λ n a h=>by
  have:=(qa2.mp h).1
  rw[ah this];exact h,λ _ _ h=>h,λ _ _ _ h=>h⟩
 have old:∀(i:Nat) a,(φ++[D])[i]? =some a->i<A.length->φ[i]? =some a:=λ i a e b=>by
  rw[ah (by rw[S.len];exact b)]at e;exact e
 have last:∀a,(φ++[D])[A.length]? =some a->a=D:=λ a e=>by
  rw[aq (by rw[S.len];exact aw _),S.len]at e
  simpa using e.symm
 refine⟨by simp[S.len],λ i j a x w v t s d m1 m2=>?_,λ k o' e=>?_⟩
 ·by_cases b:i<A.length
  ·by_cases c:j<A.length
   ·rw[ah b]at s
    rw[ah c]at d;exact S.inj i j a x w (old i a v b) (old j a t c) s d m1 m2
   ·exfalso
    have g:j=A.length:=by have:=(qa2.mp d).1;simp at this;omega
    subst g;exact n i (by rw[<- last a t];exact old i a v b)
  ·have p:i=A.length:=by have:=(qa2.mp s).1;simp at this;omega
   by_cases c:j<A.length
   ·exfalso
    subst p;exact n j (by rw[<- last a v];exact old j a t c)
   ·have:=(qa2.mp d).1;simp at this;omega
 ·by_cases hn:k<A.length
  ·rw[ah hn]at e
   obtain⟨a,E,q⟩:=S.ob k o' e;refine⟨a,l.ex _ _ E,?_⟩;cases o' with
   |lst ws=>obtain⟨vs,z,r⟩:=q;exact⟨vs,z,r.monoW l⟩|dct ws=>obtain⟨vs,z,Z,r⟩:=q;exact⟨vs,z,Z,r.monoW l⟩|tab _ _=>exact q|ro ws=>obtain⟨vs,z,r⟩:=q;exact⟨vs,z,r.monoW l⟩
  ·have f:k=A.length:=by have:=(qa2.mp e).1;simp at this;omega
   subst f;rw[aq (aw _)]at e;simp at e;subst e;exact⟨D,by rw[aq (by rw[S.len];exact aw _),S.len];simp,new⟩
theorem Le.Yj {b:List Addr}{H0:Hp}(l:Le K b H0 φ H)(h0:H0 D=none):Le K b H0 (φ++[D]) H where
 ex:=λ n a h=>by
  have h':=l.ex n a h
  have:=(qa2.mp h').1
  rw[ah this];exact h'
 tp:=l.tp
 fr:=l.fr
 nw:=λ n a e=>by
  by_cases hn:n < φ.length
  ·rw[ah hn]at e;exact l.nw n a e
  ·rw[aq (by omega)]at e
   have E:a=D:=by
    have:=mem_of_getElem? e
    simpa using this
   subst E;exact .inr h0
 st:=l.st
 fz:=l.fz
end
noncomputable abbrev St:=L2.St
abbrev XR:=Str->Hp->Prop
def PB (K:Frag)(φ:List Addr)(H:Hp)(Q:VK):W->Hx->Prop:=λ w A=>∀a h v,Le K φ H a h->zM K a A h->RV K a h w v->Q v h
def PBs (K:Frag)(φ:List Addr)(H:Hp)(Q:List V->Hp->Prop):List W->Hx->Prop:=λ w A=>∀a h v,Le K φ H a h->zM K a A h->zG K a h w v->Q v h
noncomputable def EB (K:Frag)(φ:List Addr)(H:Hp)(X:XR):Str->Hx->Prop:=λ x A=>∀a h,Le K φ H a h->zM K a A h->X x h
structure RE (K:Frag)(φ:List Addr)(H:Hp)(ρ:En)(σ:St):Prop where
 len:σ.length=ρ.length
 get:∀(i:Nat)(w:W),ρ[i]? =some (some w)->∃v,σ[i]? =some (some v)/\RV K φ H w v
section
variable {K:Frag}{φ1 φ':List Addr}{H1 H':Hp}{A:Hx}{ρ:En}{xr:XR}
theorem RE.mono (r:RE K φ H ρ σ)(l:Le K φ H φ' H'):RE K φ' H' ρ σ:=⟨r.len,λ i w e=>let ⟨v,h1,h⟩:=r.get i w e;⟨v,h1,h.mono l⟩⟩
theorem PB.mono {Q:VK}{w:W}(h:PB K φ H Q w A)(l:Le K φ H φ1 H1):PB K φ1 H1 Q w A:=λ a b v L=>h a b v (l.trans L)
theorem EB.mono (h:EB K φ H xr x A)(l:Le K φ H φ1 H1):EB K φ1 H1 xr x A:=λ a b L=>h a b (l.trans L)
theorem RE.set {w:W}(r:RE K φ H ρ σ)(q:RV K φ H w v):RE K φ H (ρ.set i (some w)) (σ.set i (some v)):=
 ⟨by simp[r.len],λ j u e=>by
  by_cases h:i=j
  ·subst h
   have a:i < ρ.length:=by
    have:=(qa2.mp e).1
    simpa using this
   rw[aG a]at e;cases e;exact⟨v,by rw[aG (by rw[r.len];exact a)],q⟩
  ·rw[aH h]at e
   obtain⟨x,c,b⟩:=r.get j u e;exact⟨x,by rw[aH h];exact c,b⟩⟩
end
inductive MM (K:Frag)(xr:XR)(m:Ev)(σ:St)(H:Hp)(Q:VK):Prop
 |mk (φ:List Addr) (A:Hx) (ρ:En) (S:zM K φ A H) (re:RE K φ H ρ σ) (h:(m ρ A).post (PB K φ H Q) (EB K φ H xr))
noncomputable def tM (K:Frag)(x:XR)(m:Ev):TE:=λ σ H Q=>MM K x m σ H Q
inductive MT (K:Frag)(xr:XR)(m:Ev)(σ:St)(H:Hp)(Q:Bool->Hp->Prop):Prop
 |mk (φ:List Addr) (A:Hx) (ρ:En) (S:zM K φ A H) (re:RE K φ H ρ σ) (h:(m ρ A).post (λ w A'=>∃b,w=.bl b/\∀φ' H',Le K φ H φ' H'->zM K φ' A' H'->Q b H') (EB K φ H xr))
noncomputable def tT (K:Frag)(x:XR)(m:Ev):TT:=λ σ H Q=>MT K x m σ H Q
abbrev Ea:=En->Hx->R (List W)
inductive MA (K:Frag)(xr:XR)(m:Ea)(σ:St)(H:Hp)(Q:List V->Hp->Prop):Prop
 |mk (φ:List Addr) (A:Hx) (ρ:En) (S:zM K φ A H) (re:RE K φ H ρ σ) (h:(m ρ A).post (PBs K φ H Q) (EB K φ H xr))
noncomputable def Xp (K:Frag)(x:XR)(m:Ea):TA:=λ σ H Q=>MA K x m σ H Q
def SE (X:Cx)(x:XR)(e:Expr)(m:Ev):Prop:=PE X e (tM X.K x m)
def ST (X:Cx)(x:XR)(e:Expr)(m:Ev):Prop:=PT X e (tT X.K x m)
def SW (X:Cx)(x:XR)(e:Expr)(m:Ev):Prop:=PW X e (tT X.K x m)
def SA (X:Cx)(x:XR)(e:List Expr)(m:Ea):Prop:=PA X e (Xp X.K x m)
section
variable {xr:XR}{a b:Expr}{es:List Expr}{m ma mb mc:Ev}
theorem PE.imp {t t':TE}(h:PE X e t)(i:∀σ H Q,t' σ H Q->t σ H Q):PE X e t':=λ pins s σ H Q I hw=>h pins s σ H Q I (i σ H Q hw)
theorem PT.imp {t t':TT}(h:PT X e t)(i:∀σ H Q,t' σ H Q->t σ H Q):PT X e t':=λ pins s σ H Q I hw=>h pins s σ H Q I (i σ H Q hw)
theorem PW.imp {t t':TT}(h:PW X e t)(i:∀σ H Q,t' σ H Q->t σ H Q):PW X e t':=λ w pins s σ H Q I hw=>h w pins s σ H Q I (i σ H Q hw)
theorem PA.imp {t t':TA}(h:PA X es t)(i:∀σ H Q,t' σ H Q->t σ H Q):PA X es t':=λ p pins s σ H Q I hw=>h p pins s σ H Q I (i σ H Q hw)
theorem tM.go {K:Frag}{A:Hx}{ρ:En}{Q:VK}{G:W->Hx->Prop}(S:zM K φ A H)(r:RE K φ H ρ σ)(h:(m ρ A).post G (EB K φ H xr))
  (k:∀w A1 a H1 v,G w A1->Le K φ H a H1->zM K a A1 H1->RV K a H1 w v->Q v H1):tM K xr m σ H Q:=
 ⟨φ,A,ρ,S,r,qt h (λ w A1 g a H1 v l s q=>k w A1 a H1 v g l s q) λ _ _ z=>z⟩
theorem Xp.go {K:Frag}{A:Hx}{ρ:En}{m:Ea}{Q:List V->Hp->Prop}{G:List W->Hx->Prop}(S:zM K φ A H)(r:RE K φ H ρ σ)(h:(m ρ A).post G (EB K φ H xr))
  (k:∀w A1 a H1 v,G w A1->Le K φ H a H1->zM K a A1 H1->zG K a H1 w v->Q v H1):Xp K xr m σ H Q:=
 ⟨φ,A,ρ,S,r,qt h (λ w A1 g a H1 v l s q=>k w A1 a H1 v g l s q) λ _ _ z=>z⟩
theorem tT.go {K:Frag}{A:Hx}{ρ:En}{Q:Bool->Hp->Prop}{G:W->Hx->Prop}(S:zM K φ A H)(r:RE K φ H ρ σ)(h:(m ρ A).post G (EB K φ H xr))
  (k:∀w A1,G w A1->∃b,w=.bl b/\∀a H1,Le K φ H a H1->zM K a A1 H1->Q b H1):tT K xr m σ H Q:=
 ⟨φ,A,ρ,S,r,qt h (λ w A1 g=>k w A1 g) λ _ _ z=>z⟩
noncomputable def zc (i:Nat):Ev:=λ ρ A=>match ρ[i]? with
 |some (some w)=>.ok w A|_=>.bad
noncomputable def zi (w:W):Ev:=λ _ A=>.ok w A
noncomputable def zo (g:W->W->Hx->R W)(a b:Ev):Ev:=λ ρ A=>(a ρ A).bind λ x A1=>(b ρ A1).bind λ y A2=>g x y A2
noncomputable def jJ (g:W->Hx->R W)(a:Ev):Ev:=λ ρ A=>(a ρ A).bind λ x A1=>g x A1
noncomputable abbrev gv:Str->Hx->Prop:=λ _ _=>False
def yD (K:Frag)(r:R2)(g:W->W->Hx->R W):Prop:=∀φ A H x y u v Q,zM K φ A H->RV K φ H u x->RV K φ H v y->(g u v A).post (PB K φ H Q) gv->r x y H Q
def Xl (K:Frag)(r:V->Hp->VK->Prop)(g:W->Hx->R W):Prop:=∀φ A H x u Q,zM K φ A H->RV K φ H u x->(g u A).post (PB K φ H Q) gv->r x H Q
def qU (r:R α):Prop:=∀x A,r≠.exc x A
theorem JN {r:R α}{P:α->Hx->Prop}{E:Str->Hx->Prop}(n:qU r)(h:r.post P E):r.post P gv:=by
 cases r with
 |ok a A=>exact h|exc x A=>exact absurd rfl (n x A)|bad=>exact h
theorem zo.read {g:W->W->Hx->R W}{r:R2}(hn:∀x y A,qU (g x y A))(e:yD X.K r g):∀σ H Q,tM X.K xr (zo g ma mb) σ H Q->K1 r (tM X.K xr ma) (tM X.K xr mb) σ H Q:=by
 rintro σ H Q ⟨φ,A,ρ,S,re,h⟩
 refine tM.go S re (zW.mp h) λ w A1 b H1 v i l j d=>?_;refine tM.go j (re.mono l) (qt (zW.mp i) (λ _ _ z=>z) λ _ _ z=>z.mono l) λ c A2 a n v2 f L s q=>?_;exact e a A2 n v v2 w c Q s (d.mono L) q (qt (JN (hn _ _ _) f) (λ _ _ z=>z.mono (l.trans L)) λ _ _ z=>z)
theorem jJ.read {g:W->Hx->R W}{r:V->Hp->VK->Prop}(hn:∀x A,qU (g x A))(b:Xl X.K r g):∀σ H Q,tM X.K xr (jJ g ma) σ H Q->N8 r (tM X.K xr ma) σ H Q:=by
 rintro σ H Q ⟨φ,A,ρ,S,re,h⟩
 refine tM.go S re (zW.mp h) λ w A1 a H1 v c l s q=>?_;exact b a A1 H1 v w Q s q (qt (JN (hn _ _) c) (λ _ _ z=>z.mono l) λ _ _ z=>z)
theorem Ja {op:Operator}{r:R2}{g:W->W->Hx->R W}(h:ja X (binaryOp op) r)(hn:∀x y A,qU (g x y A))(H:yD X.K r g)(d:SE X xr a ma)(c:SE X xr b mb):SE X xr (.BinOp a op b pos) (zo g ma mb):=
 PE.imp (zbj h d c) (zo.read hn H)
theorem zaS {op:UnaryOp}{r:V->Hp->VK->Prop}{g:W->Hx->R W}(h:Xd X (unaryOp op) r)(hn:∀x A,qU (g x A))(H:Xl X.K r g)(b:SE X xr a ma):SE X xr (.UnaryOp op a pos) (jJ g ma):=
 PE.imp (zbK h b) (jJ.read hn H)
theorem O4 {r:R2}{g:W->W->Hx->R W}(h:ja X (compareOp op) r)(hn:∀x y A,qU (g x y A))(H:yD X.K r g)(d:SE X xr a ma)(c:SE X xr b mb)(hm:behindInMarks op b=false):SE X xr (.Compare a [op] [b] pos) (zo g ma mb):=
 PE.imp (CT h d c hm) (zo.read hn H)
theorem tT.toM {K:Frag}{Q:Bool->Hp->Prop}(h:tT K xr m σ H Q):tM K xr m σ H λ x d=>∃k,x=.bl k/\Q k d:=by
 obtain⟨φ,A,ρ,S,re,h⟩:=h;refine tM.go S re h λ w A1 a H1 v ⟨b,e,q⟩ l s c=>?_;subst e;exact⟨b,c,q a H1 l s⟩
theorem OW {r:R2}{g:W->W->Hx->R W}(o:ja X (compareOp op) r)(hn:∀x y A,qU (g x y A))(c:yD X.K r g)(e:SE X xr a ma)(d:SE X xr b mb)(hm:behindInMarks op b=false):ST X xr (.Compare a [op] [b] pos) (zo g ma mb):=
 PT.imp (Co o e d hm) λ σ H Q h=>zo.read hn c σ H _ h.toM
noncomputable def ku (g g':W->W->Hx->R W)(a b c:Ev):Ev:=λ ρ A=>(a ρ A).bind λ x A1=>(b ρ A1).bind λ y A2=>(g x y A2).bind λ z d=>match z with
 |.bl true=>(c ρ d).bind λ w e=>g' y w e|.bl false=>.ok (.bl false) d|_=>.bad
theorem ku.read {g g':W->W->Hx->R W}{r i:R2}(hn:∀x y A,qU (g x y A))(T:yD X.K r g)(n:∀x y A,qU (g' x y A))(o:yD X.K i g'):
  ∀σ H Q,tM X.K xr (ku g g' ma mb mc) σ H Q->Uk r i (tM X.K xr ma) (tM X.K xr mb) (tM X.K xr mc) σ H Q:=by
 rintro σ H Q ⟨φ,A,ρ,S,re,h⟩
 refine tM.go S re (zW.mp h) λ w A1 E H1 v Z L S1 P=>?_;refine tM.go S1 (re.mono L) (qt (zW.mp Z) (λ _ _ z=>z) λ _ _ z=>z.mono L) λ f A2 b D v2 Y B S2 s=>?_;have j:=L.trans B;have p:=zW.mp Y;have a:(g w f A2).post (PB X.K b D λ z c=>∃k,z=.bl k/\if k=true then tM X.K xr mc σ c λ J q=>i v2 J q Q else Q (.bl false) c) gv:=by
  refine qt (JN (hn _ _ _) p) (λ z A3 a e c zv u C N=>?_) λ _ _ z=>z;have l:=j.trans u;cases z with
  |bl k=>
   refine⟨k,N,?_⟩;cases k with
   |true=>
    rw[ag rfl];refine tM.go C (re.mono l) (qt (zW.mp a) (λ _ _ z=>z) λ _ _ z=>z.mono l) λ I A4 d q v4 U t S4 M=>?_;exact o d A4 q v2 v4 f I Q S4 ((s.mono u).mono t) M (qt (JN (n _ _ _) U) (λ _ _ z=>z.mono (l.trans t)) λ _ _ z=>z)
   |false=>
    rw[ak aA];exact a e c _ l C rfl
  |non=>cases a|int _=>cases a|str _=>cases a|tup _=>cases a|ref _=>cases a|clo _ _ _=>cases a|xc _=>cases a
 exact T b A2 D v v2 w f _ S2 (P.mono B) s a
theorem Du {c:Expr}{o:CmpOp}{r e:R2}{g g':W->W->Hx->R W}(f:ja X (compareOp op) r)(hn:∀x y A,qU (g x y A))(i:yD X.K r g)(h:ja X (compareOp o) e)(H:∀x y A,qU (g' x y A))(d:yD X.K e g')
  (n:SE X xr a ma)(l:SE X xr b mb)(j:SE X xr c mc)(hm:lastMarks [op,o] [b,c]=false:=by with_unfolding_all rfl):SE X xr (.Compare a [op,o] [b,c] pos) (ku g g' ma mb mc):=
 PE.imp (F4 f h n l j hm) (ku.read hn i H d)
theorem FY {c:Expr}{o:CmpOp}{r i:R2}{g g':W->W->Hx->R W}(j:ja X (compareOp op) r)(hn:∀x y A,qU (g x y A))(l:yD X.K r g)(d:ja X (compareOp o) i)(e:∀x y A,qU (g' x y A))(f:yD X.K i g')
  (q:SE X xr a ma)(p:SE X xr b mb)(n:SE X xr c mc)(hm:lastMarks [op,o] [b,c]=false:=by with_unfolding_all rfl):ST X xr (.Compare a [op,o] [b,c] pos) (ku g g' ma mb mc):=
 PT.imp (EI j d q p n hm) λ σ H Q h=>ku.read hn l e f σ H _ h.toM
noncomputable def ka (a b:Ev):Ev:=λ ρ A=>(a ρ A).bind λ x A1=>match x with
 |.bl true=>b ρ A1|.bl false=>.ok (.bl false) A1|_=>.bad
noncomputable def gW (a b:Ev):Ev:=λ ρ A=>(a ρ A).bind λ x A1=>match x with
 |.bl true=>.ok (.bl true) A1|.bl false=>b ρ A1|_=>.bad
noncomputable def yH (a:Ev):Ev:=λ ρ A=>(a ρ A).bind λ x A1=>match x with
 |.bl k=>.ok (.bl (!k)) A1|_=>.bad
noncomputable def N1 (c a b:Ev):Ev:=λ ρ A=>(c ρ A).bind λ x A1=>match x with
 |.bl true=>a ρ A1|.bl false=>b ρ A1|_=>.bad
theorem tT.mono {K:Frag}{c:List Addr}{H1:Hp}{A1:Hx}{ρ:En}{Q:Bool->Hp->Prop}(S:zM K c A1 H1)(L:Le K φ H c H1)(re:RE K φ H ρ σ)
  (h:(m ρ A1).post (λ w A'=>∃b,w=.bl b/\∀a d,Le K φ H a d->zM K a A' d->Q b d) (EB K φ H xr)):tT K xr m σ H1 Q:=
 ⟨c,A1,ρ,S,re.mono L,qt h (λ w A' ⟨b,e,q⟩=>⟨b,e,λ a d l s=>q a d (L.trans l) s⟩) λ _ _ z=>z.mono L⟩
noncomputable def zm:Ea:=λ _ A=>.ok [] A
noncomputable def zh (a:Ev)(r:Ea):Ea:=λ ρ A=>(a ρ A).bind λ x A1=>(r ρ A1).bind λ xs A2=>.ok (x::xs) A2
noncomputable def zC (a:Ea):Ev:=λ ρ A=>(a ρ A).bind λ xs A1=>.ok (.tup xs) A1
noncomputable def zU (a:Ea):Ev:=λ ρ A=>(a ρ A).bind λ xs A1=>.ok (.ref A1.length) (A1++[.lst xs])
theorem Q8 {K:Frag}{A:Hx}{p:Addr}{ws:List W}(S:zM K φ A H)(h:H p=none)(r:zG K φ H ws vs):
  Le K φ H φ (upd H p (.tup vs))/\zM K φ A (upd H p (.tup vs))/\RV K φ (upd H p (.tup vs)) (.tup ws) (.ref p):=
 ⟨Le.new h,S.lay h,p,vs,rfl,qD.of jD,r.mono (Le.new h)⟩
theorem Q9 {K:Frag}{A:Hx}{p:Addr}{ws:List W}(S:zM K φ A H)(h:H p=none)(r:zG K φ H ws vs):
  Le K φ H (φ++[p]) (upd H p (.lst vs))/\zM K (φ++[p]) (A++[.lst ws]) (upd H p (.lst vs))/\RV K (φ++[p]) (upd H p (.lst vs)) (.ref A.length) (.ref p):=by
 have l:Le K φ H (φ++[p]) (upd H p (.lst vs)):=Le.alloc h;obtain⟨b,a⟩:=S.alloc (o:=.lst ws) h ⟨vs,jD,r.mono l⟩;exact⟨b,a,p,rfl,by rw[<- S.len];simp⟩
theorem zay {M:Ea}(h:SA X xr es M)(c:∀ρ A ws A',M ρ A=.ok ws A'->ws.length<=sizeLine):SE X xr (.List es pos) (zU M):=
 PE.imp (zap h) λ σ H Q ⟨φ,A,ρ,S,re,h⟩=>by
  have h':=zW.mp h;cases e:M ρ A with
  |ok ws A'=>
   rw[e]at h';refine⟨φ,A,ρ,S,re,?_⟩;rw[e];intro a H1 vs l s q;refine⟨by rw[<- q.length];exact c ρ A ws A' e,λ p b=>?_⟩
   obtain⟨a1,a2,d⟩:=Q9 s b q;exact h' _ _ _ (l.trans a1) a2 d
  |exc x A'=>rw[e]at h';refine⟨φ,A,ρ,S,re,?_⟩;rw[e];exact h'|bad=>rw[e]at h';exact h'.elim
end
inductive Fl where
 |nx (ρ:En) | rt (w:W) | bk (ρ:En) | ct (ρ:En)
abbrev Ex:=En->Hx->R Fl
def FB (K:Frag)(φ:List Addr)(H:Hp)(D:Ends):Fl->Hx->Prop
 |.nx ρ,A=>∀a h b,Le K φ H a h->zM K a A h->RE K a h ρ b->D.nx b h|.rt w,A=>∀a h v,Le K φ H a h->zM K a A h->RV K a h w v->D.rt v h|.bk ρ,A=>∀a h b,Le K φ H a h->zM K a A h->RE K a h ρ b->D.bk b h|.ct ρ,A=>∀a h b,Le K φ H a h->zM K a A h->RE K a h ρ b->D.ct b h
theorem FB.mono {K:Frag}{c:List Addr}{H1:Hp}{D:Ends}{f:Fl}{A:Hx}(h:FB K φ H D f A)(l:Le K φ H c H1):FB K c H1 D f A:=by
 cases f with
 |nx ρ=>exactλ a b v L=>h a b v (l.trans L)|rt ρ=>exactλ a b v L=>h a b v (l.trans L)|bk ρ=>exactλ a b v L=>h a b v (l.trans L)|ct ρ=>exactλ a b v L=>h a b v (l.trans L)
inductive MS (K:Frag)(xr:XR)(m:Ex)(D:Ends)(σ:St)(H:Hp):Prop
 |mk (φ:List Addr) (A:Hx) (ρ:En) (S:zM K φ A H) (re:RE K φ H ρ σ) (h:(m ρ A).post (FB K φ H D) (EB K φ H xr))
noncomputable def tS (K:Frag)(x:XR)(m:Ex):TS:=λ D σ H=>MS K x m D σ H
def SS (X:Cx)(x:XR)(st:Stmt)(m:Ex):Prop:=PS X st (tS X.K x m)
def YC (X:Cx)(x:XR)(st:List Stmt)(m:Ex):Prop:=yQ X st (tS X.K x m)
section
variable {xr:XR}{a b c:Expr}{st:Stmt}{rest:List Stmt}{m:Ev}{m1 m2:Ex}
theorem PS.imp {t t':TS}(h:PS X st t)(i:∀D σ H,t' D σ H->t D σ H):PS X st t':=λ pins s σ H D I hw=>h pins s σ H D I (i D σ H hw)
theorem yQ.imp {t t':TS}(h:yQ X rest t)(i:∀D σ H,t' D σ H->t D σ H):yQ X rest t':=λ pins s σ H D I hw=>h pins s σ H D I (i D σ H hw)
noncomputable def zA:Ex:=λ ρ A=>.ok (.nx ρ) A
noncomputable def zr (m1 m2:Ex):Ex:=λ ρ A=>(m1 ρ A).bind λ l A1=>match l with
 |.nx ρ1=>m2 ρ1 A1|f=>.ok f A1
noncomputable def jx (m:Ev):Ex:=λ ρ A=>(m ρ A).bind λ _ A1=>.ok (.nx ρ) A1
noncomputable def qd (m:Ev):Ex:=λ ρ A=>(m ρ A).bind λ w A1=>.ok (.rt w) A1
noncomputable def qM (c:Ev)(a b:Ex):Ex:=λ ρ A=>(c ρ A).bind λ x A1=>match x with
 |.bl true=>a ρ A1|.bl false=>b ρ A1|_=>.bad
noncomputable def zY (i:Nat)(m:Ev):Ex:=λ ρ A=>(m ρ A).bind λ w A1=>.ok (.nx (ρ.set i (some w))) A1
theorem zY.read :∀D σ H,tS X.K xr (zY i m) D σ H->GW (tM X.K xr m) (GN i) D σ H:=by
 rintro D σ H ⟨φ,A,ρ,S,re,h⟩
 exact tM.go S re (zW.mp h) λ w A1 a H1 v b l s q=>b a H1 _ l s ((re.mono l).set q)
noncomputable def Yd (g:W->W->W->Hx->R Unit)(me mo mi:Ev):Ex:=λ ρ A=>(me ρ A).bind λ v A1=>(mo ρ A1).bind λ o A2=>(mi ρ A2).bind λ i b=>(g o i v b).bind λ _ a=>.ok (.nx ρ) a
def NG (K:Frag)(t:Jn)(g:W->W->W->Hx->R Unit):Prop:=∀φ A H o i v w wi wv Q,zM K φ A H->RV K φ H w o->RV K φ H wi i->RV K φ H wv v->
 (g w wi wv A).post (λ _ A'=>∀a h,Le K φ H a h->zM K a A' h->Q h) gv->t o i v H Q
theorem DE {o i:Expr}{mo mi:Ev}{t:Jn}{g:W->W->W->Hx->R Unit}(N:GY X t)(hn:∀o i v A,qU (g o i v A))(Y:NG X.K t g)(he:SE X xr e m)(T:SE X xr o mo)(U:SE X xr i mi)
  (P:swapsWithSole [.Subscript o i tpos] e pos.line X.env=pure false:=by rfl)(hw:swappedStores [.Subscript o i tpos] e X.env=pure none:=by rfl)
  (j:(assignEach [.Subscript o i tpos] X.env).map (·.2)=[assign (.Subscript o i tpos) X.env]:=by rfl)
  (Z:∀v,assign (.Subscript o i tpos) X.env v=(do
   let ov <- holding [v] (eval o X.env)
   let iv <- holding [v,ov] (eval i X.env)
   standAt tpos
   holding [v,ov,iv] (setItem ov iv v)
   release [v,ov,iv] []):=by intro _;rfl):SS X xr (.Assign [.Subscript o i tpos] e pos) (Yd g m mo mi):=
 PS.imp (O1 he (AZ T U N Z) P hw j) λ D σ H ⟨φ,A,ρ,S,re,h⟩=>by
  refine tM.go S re (zW.mp h) λ p A1 E H1 v1 j f S1 M=>?_;refine tM.go S1 (re.mono f) (qt (zW.mp j) (λ _ _ z=>z) λ _ _ z=>z.mono f) λ n A2 C H2 v2 h2 s S2 J=>?_;have l:=f.trans s;refine tM.go S2 (re.mono l) (qt (zW.mp h2) (λ _ _ z=>z) λ _ _ z=>z.mono l) λ w B c H3 I a d S3 Q=>?_;have L:=l.trans d;refine Y c B H3 v2 I v1 n w p _ S3 (J.mono d) Q (M.mono (s.trans d)) ?_;cases r:g n w p B with
  |ok u y=>
   rw[r]at a;exactλ b H4 q S4=>a b H4 σ (L.trans q) S4 (re.mono (L.trans q))
  |exc x y=>exact absurd r (hn _ _ _ _ x y)|bad=>rw[r]at a;exact a.elim
structure jF where
 at_:Hx->Nat->Option (Option W)
 len:Nat
def ZL (K:Frag)(φ:List Addr)(H:Hp)(j:jF)(J:It):Prop:=∀i a h A',Zq K φ H a h->zM K a A' h->
 (∀w,j.at_ A' i=some (some w)->J.go i h/\∀x H1,J.yld i h x H1->Le K a h a H1/\zM K a A' H1/\RV K a H1 w x)/\(j.at_ A' i=some none->J.stop i h)
abbrev Ei:=En->Hx->R jF
inductive MI (K:Frag)(xr:XR)(mi:Ei)(σ:St)(H:Hp)(Rr:It->Hp->Prop):Prop
 |mk (φ:List Addr) (A:Hx) (ρ:En) (S:zM K φ A H) (re:RE K φ H ρ σ) (h:(mi ρ A).post (λ j A1=>∀φ1 H1 J,Le K φ H φ1 H1->zM K φ1 A1 H1->ZL K φ1 H1 j J->Rr J H1) (EB K φ H xr))
noncomputable def tI (K:Frag)(x:XR)(mi:Ei):TI:=λ σ H r=>MI K x mi σ H r
def SI (X:Cx)(x:XR)(t iter:Expr)(mi:Ei):Prop:=PI X t iter (tI X.K x mi)
theorem PI.imp {t t':TI}(h:PI X tg e t)(i:∀σ H Q,t' σ H Q->t σ H Q):PI X tg e t':=λ pins s σ H Q I hw=>h pins s σ H Q I (i σ H Q hw)
abbrev Tg:=W->En->Option En
inductive MG (K:Frag)(tw:Tg)(v:V)(σ:St)(H:Hp)(Q:St->Hp->Prop):Prop
 |mk (φ:List Addr) (A:Hx) (ρ:En) (w:W) (ρ':En) (S:zM K φ A H) (re:RE K φ H ρ σ) (rv:RV K φ H w v) (t:tw w ρ=some ρ') (q:∀σ',RE K φ H ρ' σ'->Q σ' H)
noncomputable def tG (K:Frag)(tw:Tg):TG:=λ v σ H Q=>MG K tw v σ H Q
def SG (X:Cx)(t:Expr)(tw:Tg):Prop:=PG X t (tG X.K tw)
theorem PG.imp {t t':TG}(h:PG X tg t)(i:∀v σ H Q,t' v σ H Q->t v σ H Q):PG X tg t':=λ pins s σ H v u Q I r hw=>h pins s σ H v u Q I r (i v σ H Q hw)
noncomputable def zN (i:Nat):Tg:=λ w ρ=>some (ρ.set i (some w))
noncomputable def jj (i j:Nat):Tg:=λ w ρ=>match w with
 |.tup [x,y]=>some ((ρ.set i (some x)).set j (some y))|_=>none
noncomputable def yo (j:jF)(st:W->Ex):Nat->Nat->Ex
 |0,i,ρ,A=>match j.at_ A i with
  |some none=>.ok (.nx ρ) A|_=>.bad
 |f+1,i,ρ,A=>match j.at_ A i with
  |some none=>.ok (.nx ρ) A|some (some w)=>(st w ρ A).bind λ l A1=>match l with
   |.nx ρ1=>yo j st f (i+1) ρ1 A1|.ct ρ1=>yo j st f (i+1) ρ1 A1|.bk ρ1=>.ok (.nx ρ1) A1|.rt w=>.ok (.rt w) A1
  |none=>.bad
noncomputable def turn (tw:Tg)(body:Ex)(w:W):Ex:=λ ρ A=>match tw w ρ with
 |some ρ1=>body ρ1 A|none=>.bad
def yv (mi:Ei)(tw:Tg)(body:Ex):Ex:=λ ρ A=>(mi ρ A).bind λ j A1=>yo j (turn tw body) j.len 0 ρ A1
inductive NY (K:Frag)(xr:XR)(j:jF)(t:W->Ex)(D:Ends)(φ1:List Addr)(H1:Hp)(f i:Nat)(σ':St)(H':Hp):Prop
 |mk (φ2:List Addr) (A2:Hx) (ρ2:En) (l:Le K φ1 H1 φ2 H') (S:zM K φ2 A2 H') (re:RE K φ2 H' ρ2 σ') (h:(yo j t f i ρ2 A2).post (FB K φ2 H' D) (EB K φ2 H' xr))
noncomputable def Qg (c:Ev)(body:Ex):Nat->Ex
 |0,ρ,A=>.bad|f+1,ρ,A=>(c ρ A).bind λ x A1=>match x with
  |.bl true=>(body ρ A1).bind λ l A2=>match l with
   |.nx ρ1=>Qg c body f ρ1 A2|.ct ρ1=>Qg c body f ρ1 A2|.bk ρ1=>.ok (.nx ρ1) A2|.rt w=>.ok (.rt w) A2
  |.bl false=>.ok (.nx ρ) A1|_=>.bad
def V7 (f:Nat)(c:Ev)(body:Ex):Ex:=Qg c body f
noncomputable def Z6 (nl:Nat)(cap:List Nat)(ρ:En):En:=List.replicate nl none++cap.map λ i=>(ρ[i]?).join
theorem RE.Zk {K:Frag}{ρ:En}{nl:Nat}(r:RE K φ H ρ σ):RE K φ H (Z6 nl cap ρ) (L2.Zk nl cap σ):=by
 refine⟨by simp[Z6,L2.Zk],λ i w e=>?_⟩
 unfold Z6 at e;unfold L2.Zk
 by_cases hi:i<nl
 ·rw[ah (by simpa using hi),bj]at e
  split at e<;>cases e
 ·rw[aq (by simpa using hi),bx,ar]at e
  rw[aq (by simpa using hi),bx,ar]
  cases c:cap[i - nl]? with
  |none=>rw[c]at e;cases e|some k=>
   rw[c]at e;have E:(ρ[k]?).join=some w:=aB e;cases h:ρ[k]? with
   |none=>rw[h]at E;cases E|some o=>cases o with
    |none=>rw[h]at E;cases E|some d=>
     rw[h]at E;cases E;obtain⟨v,b,a⟩:=r.get k w h;exact⟨v,by simp[b],a⟩
abbrev Em:=En->List W->Hx->R (En×List W)
noncomputable def zX:Nat:=100000
def zK (elt:Ev):Em:=λ ρ acc A=>(elt ρ A).bind λ y A1=>if acc.length<zX then .ok (ρ,acc++[y]) A1 else .bad
noncomputable def qR (j:jF)(tw:Tg)(ifs:Ev)(em:Em):Nat->Nat->Em
 |0,i,ρ,acc,A=>match j.at_ A i with
  |some none=>.ok (ρ,acc) A|_=>.bad
 |f+1,i,ρ,acc,A=>match j.at_ A i with
  |some none=>.ok (ρ,acc) A|some (some w)=>match tw w ρ with
   |some ρ1=>(ifs ρ1 A).bind λ c A1=>match c with
    |.bl true=>(em ρ1 acc A1).bind λ p A2=>qR j tw ifs em f (i+1) p.1 p.2 A2|.bl false=>qR j tw ifs em f (i+1) ρ1 acc A1|_=>.bad
   |none=>.bad
  |none=>.bad
def Z3 (mi:Ei)(tw:Tg)(ifs:Ev)(em:Em):Em:=λ ρ acc A=>(mi ρ A).bind λ j A1=>qR j tw ifs em j.len 0 ρ acc A1
abbrev jY:=En->Hx->R (List W)
def zS (nl:Nat)(cap:List Nat)(mi:Ei)(tw:Tg)(ifs:Ev)(em:Em):jY:=λ ρ A=>(mi ρ A).bind λ j A1=>(qR j tw ifs em j.len 0 (Z6 nl cap ρ) [] A1).nox.bind λ p A2=>.ok p.2 A2
def KZ (K:Frag)(D:Addr)(φ:List Addr)(H:Hp)(Q:St->Hp->Prop)(p:En×List W)(A1:Hx):Prop:=∀a H1 b zs,yw K D φ H a H1->(∀k:Nat,a[k]?≠some D)->zM K a A1 H1->RE K a H1 p.1 b->H1 D=some (.lst zs)->zG K a H1 p.2 zs->Q b H1
inductive ME (K:Frag)(em:Em)(D:Addr)(σ:St)(H:Hp)(Q:St->Hp->Prop):Prop
 |mk (φ:List Addr) (A:Hx) (ρ:En) (acc:List W) (ys:List V) (S:zM K φ A H) (re:RE K φ H ρ σ) (hD:H D=some (.lst ys)) (nD:∀k:Nat,φ[k]?≠some D) (rv:zG K φ H acc ys)
  (h:(em ρ acc A).post (KZ K D φ H Q) gv)
noncomputable def tE (K:Frag)(em:Em):wV:=λ D σ H Q=>ME K em D σ H Q
noncomputable abbrev yc:XR:=λ _ _=>False
def SM (X:Cx)(elt:Expr)(gens:List Comprehension)(sc:Scope)(c:Pos)(d:Nat)(em:Em):Prop:=wa X elt gens sc c d (tE X.K em)
theorem wa.imp {d:Nat}{t t':wV}(h:wa X elt gens sc pos d t)(i:∀D σ H Q,t' D σ H Q->t D σ H Q):wa X elt gens sc pos d t':=
 λ pins s σ H D Q k Q' E I hw a=>h pins s σ H D Q k Q' E I (i D σ H Q hw) a
theorem Y2 {K:Frag}{r:R α}{P:α->Hx->Prop}(h:r.post P gv):r.post P (EB K φ H yc):=qt h (λ _ _ z=>z) λ _ _ z=>z.elim
def Yy (X:Cx)(ifs:List Expr)(m:Ev):Prop:=Qd X ifs (tT X.K yc m)
theorem OH:Yy X [] (zi (.bl true)):=λ pins s σ H Q I ⟨φ,A,ρ,S,re,h⟩=>DA pins s σ H Q I (by
 obtain⟨b,e,q⟩:=h;cases e;exact q φ H .refl S)
inductive Xc (tw:Tg)(ifs:Ev)(em:Em)(j:jF)(K:Frag)(D:Addr)(φ:List Addr)(H:Hp)(Q:St->Hp->Prop)(f i:Nat)(σ':St)(H':Hp):Prop
 |mk (φ2:List Addr) (A2:Hx) (ρ2:En) (acc2:List W) (ys2:List V) (l:yw K D φ H φ2 H') (S:zM K φ2 A2 H') (re:RE K φ2 H' ρ2 σ') (hD:H' D=some (.lst ys2)) (nD:∀k:Nat,φ2[k]?≠some D) (ra:zG K φ2 H' acc2 ys2) (h:(qR j tw ifs em f i ρ2 acc2 A2).post (KZ K D φ H Q) gv)
theorem qR.read {tw:Tg}{ifs:Ev}{em:Em}{j:jF}{J:It}{K:Frag}{A:Hx}{ρ:En}{acc:List W}{Q:St->Hp->Prop}{f:Nat}
  (jr:ZL K φ H j J)
  (S:zM K φ A H)(re:RE K φ H ρ σ)(hD:H D=some (.lst ys))(nD:∀k:Nat,φ[k]?≠some D)(ra:zG K φ H acc ys)
  (h:(qR j tw ifs em f 0 ρ acc A).post (KZ K D φ H Q) gv):
  Yn J (tG K tw) (tT K yc ifs) (tE K em) D σ H Q:=by
 refine⟨λ i f b P=>Xc tw ifs em j K D φ H Q f i b P,
  ⟨f,φ,A,ρ,acc,ys,.refl,S,re,hD,nD,ra,h⟩,?_⟩
 rintro i f U H2 ⟨g,A2,s,e,Y,B,S2,t,M,u,n,a⟩
 obtain⟨j1,j2⟩:=jr i g H2 A2 ⟨B.ex,B.tp,B.fz⟩ S2;cases E:j.at_ A2 i with
 |none=>cases f<;>(unfold qR at a;rw[E]at a;exact a.elim)|some o=>
  cases o with
  |none=>
   left
   refine⟨j2 E,?_⟩;cases f<;>(unfold qR at a;rw[E]at a;exact a g H2 U Y B u S2 t M n)
  |some w=>
   right
   obtain⟨go,yl⟩:=j1 w E;cases f with
   |zero=>unfold qR at a;rw[E]at a;exact a.elim|succ f=>
    unfold qR at a;rw[E]at a;refine⟨go,λ b P=>Xc tw ifs em j K D φ H Q f (i+1) b P,λ b P z=>⟨f,bg _,z⟩,λ x H3 y=>?_⟩;obtain⟨v,S3,q3⟩:=yl x H3 y;obtain⟨hD3,Z⟩:=v.off M u;dsimp only at a;cases et:tw w s with
    |none=>rw[et]at a;exact a.elim|some l=>
     rw[et]at a;refine⟨g,A2,s,w,l,S3,t.mono v,q3,et,λ σ3 r=>?_⟩;refine tT.go S3 r (Y2 (zW.mp a)) λ c A4 d=>?_;cases c with
     |bl k=>
      refine⟨k,rfl,λ q H4 L S4=>?_⟩;obtain⟨I,N⟩:=L.off hD3 Z;have C:=(B.trans (v.trans L).toD);cases k with
      |true=>
       rw[ag rfl];refine⟨q,A4,l,e,Y,S4,r.mono L,I,N,n.mono (v.trans L),qt (zW.mp d) (λ p A5 h5 T H5 σ5 zs l5 n5 S5 X d5 r5=>?_) λ _ _ z=>z⟩;exact⟨T,A5,p.1,p.2,zs,C.trans l5,S5,X,d5,n5,r5,h5⟩
      |false=>
       rw[ak aA];exact⟨q,A4,l,e,Y,C,S4,r.mono L,I,N,n.mono (v.trans L),d⟩
     |non=>cases d|int _=>cases d|str _=>cases d|tup _=>cases d|ref _=>cases d|clo _ _ _=>cases d|xc _=>cases d
theorem ZL.mono {K:Frag}{b:List Addr}{H1:Hp}{j:jF}{J:It}(h:ZL K φ H j J)(l:Zq K φ H b H1):ZL K b H1 j J:=
 λ i c d A' L=>h i c d A' ⟨λ n a e=>L.ex n a (l.ex n a e),λ a vs e=>L.tp a vs (l.tp a vs e),λ a o u e=>L.fz a o u (l.fz a o u e)⟩
inductive MF (K:Frag)(xr:XR)(mq:jY)(σ:St)(H:Hp)(Q:VK):Prop
 |mk (φ:List Addr) (A:Hx) (ρ:En) (S:zM K φ A H) (re:RE K φ H ρ σ) (h:(mq ρ A).post (λ ws A1=>∀φ1 H1 D ys,Le K φ H φ1 H1->zM K φ1 A1 H1->H D=none->H1 D=some (.lst ys)->(∀k:Nat,φ1[k]?≠some D)->zG K φ1 H1 ws ys->Q (.ref D) H1) (EB K φ H xr))
noncomputable def tF (K:Frag)(x:XR)(M:jY):TE:=λ σ H Q=>MF K x M σ H Q
def SF (X:Cx)(x:XR)(e:Expr)(M:jY):Prop:=PE X e (tF X.K x M)
theorem zS.read {mi:Ei}{tw:Tg}{M:Ev}{em:Em}{nl:Nat}:∀σ H Q,tF X.K xr (zS nl cap mi tw M em) σ H Q->GA X.K (tI X.K xr mi) (tG X.K tw) (tT X.K yc M) (tE X.K em) nl cap σ H Q:=by
 rintro σ H Q ⟨φ,A,ρ,S,re,h⟩
 refine⟨φ,A,ρ,S,re,qt (zW.mp h) (λ j A1 u b H1 J l s q D c t=>?_) λ _ _ z=>z⟩;have ln:Le X.K b H1 b (upd H1 D (.lst [])):=Le.new c;have a:=zW.mp u;refine qR.read (q.mono ⟨ln.ex,ln.tp,ln.fz⟩) (s.lay c) ((re.mono (l.trans ln)).Zk) jD (s.notin c t) .nil ?_ (f:=j.len) (acc:=[]);cases e:qR j tw M em j.len 0 (Z6 nl cap ρ) [] A1 with
 |ok p A2=>
  rw[e]at a;intro d y g zs o n w r v i;have L:=l.trans (Le.ofD c o);exact a d y D zs L w (l.st D c) v n i
 |exc x A2=>rw[e]at a;exact a.elim|bad=>rw[e]at a;exact a.elim
noncomputable def qp (q:jY):Ev:=λ ρ A=>(q ρ A).bind λ ws A1=>.ok (.ref A1.length) (A1++[.lst ws])
theorem qp.read {q:jY}{K:Frag}:∀σ H Q,tM K xr (qp q) σ H Q->tF K xr q σ H Q:=by
 rintro σ H Q ⟨φ,A,ρ,S,re,h⟩
 refine⟨φ,A,ρ,S,re,qt (zW.mp h) (λ ws A1 d b H1 D ys L s h0 c N r=>?_) λ _ _ z=>z⟩;have l:Le K φ H (b++[D]) H1:=L.Yj h0;have lw:Zq K b H1 (b++[D]) H1:=⟨λ n a h=>by
  have:=(qa2.mp h).1
  rw[ah this];exact h,λ _ _ h=>h,λ _ _ _ h=>h⟩
 refine d _ _ _ l (s.Yj (o:=.lst ws) c N ⟨ys,c,r.monoW lw⟩) ⟨D,rfl,?_⟩;rw[<- s.len];simp
inductive MQ (K:Frag)(xr:XR)(mq:jY)(σ:St)(H:Hp)(Q:VK):Prop
 |mk (φ:List Addr) (A:Hx) (ρ:En) (S:zM K φ A H) (re:RE K φ H ρ σ) (h:(mq ρ A).post (λ ws A1=>∀φ1 H1 a ys,Le K φ H φ1 H1->zM K φ1 A1 H1->(ji K H1 a ys∨qD K H1 a ys)->zG K φ1 H1 ws ys->Q (.ref a) H1) (EB K φ H xr))
noncomputable def tQ (K:Frag)(x:XR)(M:jY):TE:=λ σ H Q=>MQ K x M σ H Q
def SQ (X:Cx)(x:XR)(e:Expr)(M:jY):Prop:=PE X e (tQ X.K x M)
noncomputable def zR (w:W)(A:Hx):Option (List W):=match w with
 |.tup ws=>some ws|.ref n=>match A[n]? with
  |some (.lst ws)=>some ws|some (.ro ws)=>some ws|_=>none
 |_=>none
theorem Wq {K:Frag}{A:Hx}{w:W}{ws:List W}(S:zM K φ A H)(q:RV K φ H w v)(e:zR w A=some ws):∃a ys,v=.ref a/\(ji K H a ys∨qD K H a ys)/\zG K φ H ws ys:=by
 unfold zR at e;cases w with
 |tup xs=>cases e;obtain⟨a,ys,b,d,E⟩:=q;exact⟨a,ys,b,.inr d,E⟩|ref n=>
  obtain⟨a,b,d⟩:=q;dsimp only at e;cases ea:A[n]? with
  |none=>rw[ea]at e;cases e|some o=>
   rw[ea]at e;obtain⟨f,E,r⟩:=S.ob n o ea;rw[d]at E;cases E;cases o with
   |lst xs=>cases e;obtain⟨ys,c,h⟩:=r;exact⟨a,ys,b,.inl (ji.of c),h⟩|ro xs=>cases e;obtain⟨ys,c,h⟩:=r;exact⟨a,ys,b,.inl c.sq,h⟩|dct xs=>cases e|tab _ _=>cases e
 |non=>cases e|bl _=>cases e|clo _ _ _=>cases e|xc _=>cases e|int _=>cases e|str _=>cases e
def qf (m:Ev):jY:=λ ρ A=>(m ρ A).bind λ w A1=>match zR w A1 with
 |some ws=>.ok ws A1|none=>.bad
def KQ (w:W)(A:Hx):Option jF:=match zR w A with
 |some ws=>some ⟨λ A i=>(zR w A).map λ ws=>ws[i]?,ws.length⟩|none=>none
def qC (m:Ev):Ei:=λ ρ A=>(m ρ A).bind λ w A1=>match KQ w A1 with
 |some j=>.ok j A1|none=>.bad
def zct (K:Frag)(t:TE):TI:=λ σ H r=>t σ H λ x H1=>∃a,x=.ref a/\(((∃xs,ji K H1 a xs)/\r (Mb K a) H1)∨((∃xs,qD K H1 a xs)/\r (N3 K a) H1))
theorem zat {l:Expr}{t:TE}(j:PE X l t):PI X tg l (zct X.K t):=by
 intro pins s σ H u I h;refine zV (j pins s σ H _ I h) λ v s1 ⟨x,H1,i,g,Q⟩=>?_;obtain⟨a,e,q⟩:=Q;subst e;cases g;have f:∀b∈[s1.heap.objs.size],kJ X pins H1 b:=λ b n=>by
  have e:b=s1.heap.objs.size:=by simpa using n
  subst e;exact i.fpOk (aw _) (i.hok.fresh (aw _))
 rcases q with ⟨⟨xs,d⟩,q⟩|⟨⟨xs,d⟩,q⟩
 ·obtain⟨c,r,p,z⟩:=i.list d
  refine wpAny_pyIter_list p.isList ?_;exact⟨s1.heap.objs.size,[s1.heap.objs.size],_,_,H1,rfl,i.kept (t':=s1.toks) λ b o e=>af _ e,Fg a _,⟨_,au _ rfl,rfl,rfl⟩,f,q⟩
 ·obtain⟨c,r,p,z⟩:=i.tuple d
  refine wpAny_pyIter_tuple (show s1.heap.IsTuple a c.toArray from p) ?_
  exact⟨s1.heap.objs.size,[s1.heap.objs.size],_,_,H1,rfl,i.kept (t':=s1.toks) λ b o e=>af _ e,Hs a _,⟨_,au _ rfl,rfl,rfl⟩,f,q⟩
noncomputable def wq (lo:Int)(n:Nat):jF:=⟨λ _ i=>if i<n then some (some (.int (lo+i))) else some none,n⟩
theorem Ax {K:Frag}{lo:Int}:ZL K φ H (wq lo n) (Xm lo n):=λ i a h A' lw S=>by
 unfold wq;dsimp only
 by_cases hi:i<n
 ·rw[ag hi]
  refine⟨λ w e=>?_,λ e=>by cases e⟩
  cases e;exact⟨hi,λ x H1 ⟨b,E⟩=>by subst b;exact⟨.refl,S,E⟩⟩
 ·rw[ak hi]
  exact⟨λ w e=>(by cases e),λ _=>Nat.le_of_not_lt hi⟩
noncomputable def j0 (i:Int):Bool:=decide (-(2 ^ 62)<=i)&&decide (i<2 ^ 62)
theorem JH {i:Int}(h:j0 i=true):-(2 ^ 62)<=i/\i<2 ^ 62:=by
 unfold j0 at h;rw[aj,ao,ao]at h;exact h
def qW (m:Ev):Ei:=λ ρ A=>(m ρ A).bind λ w A1=>match w with
 |.int j=>if j0 j then .ok (wq 0 j.toNat) A1 else .bad|_=>.bad
end
abbrev Fn:=List W->Hx->R W
def yW (K:Frag)(x:Str)(C:Value):Prop:=nsIn K mainGlobals x=some (some C)
def XE (K:Frag)(E:XK)(x:Str)(H:Hp):Prop:=∀C d,yW K x C->E C d H
inductive Zr (K:Frag)(n:Nat)(f:Fn)(vs:List V)(H:Hp)(Q:VK)(E:XK):Prop
 |mk (len:vs.length=n) (φ:List Addr) (A:Hx) (ws:List W) (S:zM K φ A H) (r:zG K φ H ws vs) (q:(f ws A).post (PB K φ H Q) (EB K φ H (XE K E)))
theorem Zr.len {K:Frag}{f:Fn}{Q:VK}{E:XK}(h:Zr K n f vs H Q E):vs.length=n:=by cases h;assumption
inductive zL (P:Program)(w:World)(K:Frag)(mg:Str->Option Value)(base:Heap)(k:Nat)(x:Str)(n:Nat)(f:Fn):Prop
 |mk (fa:Addr) (fd:FuncData) (ps:List Str) (F:yN P w K mg base wC k fa fd ps (Zr K n f)) (at_:mg x=some (.ref fa)) (kp:keepIn K (.ref fa)=true) (bi:Binds K fd ps [])
noncomputable def zF (f:Fn)(a:Ea):Ev:=λ ρ A=>(a ρ A).bind λ ws A1=>f ws A1
section
variable {m ma:Ev}
def ZI (m:Ea)(n:Nat):Prop:=∀ρ A ws A',m ρ A=.ok ws A'->ws.length=n
theorem zE:ZI zm 0:=λ _ _ _ _ h=>by unfold zm at h;cases h;rfl
theorem zp {M:Ea}(h:ZI M n):ZI (zh ma M) (n+1):=λ ρ A ws A' e=>by
 unfold zh at e;cases h1:ma ρ A with
 |ok x A1=>
  rw[h1,zP]at e;cases H:M ρ A1 with
  |ok xs A2=>rw[H,zP]at e;cases e;simp[h ρ A1 xs _ H]|exc x A2=>rw[H]at e;cases e|bad=>rw[H]at e;cases e
 |exc x A1=>rw[h1]at e;cases e|bad=>rw[h1]at e;cases e
end
noncomputable def qH (n:Nat)(m:Ex):Fn:=λ ws A=>(m (ws.map some++List.replicate (n - ws.length) none) A).nox.bind λ f A1=>match f with
 |.rt w=>.ok w A1|.nx _=>.ok .non A1|_=>.bad
theorem RE.start {K:Frag}{ws:List W}(h:zG K φ H ws vs):RE K φ H (ws.map some++List.replicate (N.length - ws.length) none) (L2.start N vs):=by
 unfold L2.start;refine⟨by simp[h.length],λ i w e=>?_⟩
 by_cases hi:i<ws.length
 ·rw[ah (by simpa using hi),ar]at e
  cases hw:ws[i]? with
  |none=>rw[hw]at e;cases e|some c=>
   rw[hw]at e;cases e;obtain⟨v,b,a⟩:=h.get hw;refine⟨v,?_,a⟩;rw[ah (by rw[ai,<- h.length];exact hi),ar,b];rfl
 ·rw[aq (by simpa using hi),bj]at e
  split at e<;>cases e
section
variable {K:Frag}
theorem zL.mono {k:Nat}{f:Fn}(F:zL P w K mg base j x n f)(h:j<=k):zL P w K mg base k x n f:=by cases F with|mk d fd ps F a b c=>exact⟨d,fd,ps,F.mono h,a,b,c⟩
theorem zL.imp {k:Nat}{f g:Fn}(F:zL P w K mg base k x n f)(h:∀ws A,ws.length=n->g ws A=.bad∨f ws A=g ws A):zL P w K mg base k x n g:=by
 obtain⟨d,fd,ps,F,a,b,c⟩:=F;refine⟨d,fd,ps,F.imp λ vs H Q E ⟨l,φ,A,ws,S,r,q⟩=>⟨l,φ,A,ws,S,r,?_⟩,a,b,c⟩;rcases h ws A (by rw[r.length];exact l) with e|e
 ·rw[e]at q;exact q.elim
 ·rw[e];exact q
end
section
variable {K:Frag}
theorem yb {a:α}{A:Hx}:qU (R.ok a A):=λ _ _ h=>by cases h
theorem je :qU (R.bad:R α):=λ _ _ h=>by cases h
theorem Z1 {c:Prop} [Decidable c] {a b:R α}(H:qU a)(h:qU b):qU (if c then a else b):=by split<;>assumption
noncomputable def ZM (f:Int->Int->W):W->W->Hx->R W
 |.int i,.int j,A=>.ok (f i j) A|_,_,_=>.bad
theorem Jc {f:Int->Int->W}:∀x y A,qU (ZM f x y A):=λ x y A=>by
 unfold ZM;split
 ·exact yb
 ·exact je
noncomputable def Qj (c:Int->Int->Bool)(f:Int->Int->W):W->W->Hx->R W
 |.int i,.int j,A=>if c i j then .ok (f i j) A else .bad|_,_,_=>.bad
theorem UJ {c:Int->Int->Bool}{f:Int->Int->W}:∀x y A,qU (Qj c f x y A):=λ x y A=>by
 unfold Qj;split
 ·exact Z1 yb je
 ·exact je
theorem Jb {f:Int->Int->W}{g:Int->Int->V}(h:∀i j φ H,RV K φ H (f i j) (g i j)):yD K (ZN g) (ZM f):=λ φ A H x y u v Q S a q p=>by
 cases u with
 |int i=>cases v with
  |int j=>obtain rfl:=a;obtain rfl:=q;exact⟨i,j,rfl,rfl,p φ H _ .refl S (h i j φ H)⟩|_=>exact p.elim
 |_=>exact p.elim
theorem V0 {c:Int->Int->Bool}{C:Int->Int->Prop}{f:Int->Int->W}{g:Int->Int->V}(d:∀i j,c i j=true->C i j)(h:∀i j φ H,RV K φ H (f i j) (g i j)):yD K (rI C g) (Qj c f):=λ φ A H x y u v Q S b q p=>by
 cases u with
 |int i=>cases v with
  |int j=>
   obtain rfl:=b;obtain rfl:=q;unfold Qj at p;dsimp only at p
   by_cases a:c i j=true
   ·rw[ag a]at p;exact⟨i,j,rfl,rfl,d i j a,p φ H _ .refl S (h i j φ H)⟩
   ·rw[ak a]at p;exact p.elim
  |_=>exact p.elim
 |_=>exact p.elim
noncomputable def Yw (i j:Int):Bool:=(decide (-(2 ^ 64)<i)&&decide (i<2 ^ 64)) || (decide (-(2 ^ 64)<j)&&decide (j<2 ^ 64))
noncomputable def G4 (_ j:Int):Bool:=decide (0<j)
theorem DK (i j:Int)(h:Yw i j=true):KD i j:=by
 unfold Yw at h;simp only[bG,aj,decide_eq_true_eq]at h;exact h
theorem DW (i j:Int)(h:G4 i j=true):(λ _ j=>0<j) i j:=by
 unfold G4 at h;simpa using h
def wy:=ZM λ i j=>.int (i - j)
def gh:=Qj G4 λ i j=>.int (i % j)
def UX:=ZM λ i j=>.int (Builtin.bitXor i j)
def Jr:=ZM λ i j=>.bl (decide (i<j))
def Zo:=ZM λ i j=>.bl (decide (i<=j))
def Tj:=ZM λ i j=>.bl (decide (j<=i))
noncomputable def U5 (i j:Int):Bool:=decide (0<=j)&&decide (j<=1000000)&&decide (i.natAbs<2 ^ 64)
theorem Bc (i j:Int)(h:U5 i j=true):NJ i j:=by
 unfold U5 at h;simp only[aj,decide_eq_true_eq]at h;exact⟨h.1.1,h.1.2,h.2⟩
def Qa:=Qj U5 λ i j=>.int (i ^ j.toNat)
variable {a b c:Expr}
noncomputable def QG:W->Hx->R W
 |.int i,A=>.ok (.int (-i)) A|_,_=>.bad
structure gc (X:Cx)(op:CmpOp)(g:W->W->Hx->R W):Prop where
 ex:∃r:R2,ja X (compareOp op) r/\(∀x y A,qU (g x y A))/\yD X.K r g
 mks:∀b,op≠.In->op≠.NotIn->behindInMarks op b=false
theorem Yg {r:R2}{g:W->W->Hx->R W}(a:ja X (compareOp op) r)(H:∀x y A,qU (g x y A))(h:yD X.K r g):gc X op g:=⟨⟨r,a,H,h⟩,λ b a1 a2=>F9 b a1 a2⟩
theorem U0:gc X .Lt Jr:=Yg zbI Jc (Jb λ _ _ _ _=>rfl)
theorem G0:gc X .LtE Zo:=Yg zaQ Jc (Jb λ _ _ _ _=>rfl)
theorem zb7:gc X .GtE Tj:=Yg zbs Jc (Jb λ _ _ _ _=>rfl)
end
inductive Ty where
 |non|bl|int|str|tup|lst|dct
 deriving DecidableEq
noncomputable def Ty.nm:Ty->String
 |.non => "NoneType" | .bl => "bool" | .int => "int" | .str => "str" | .tup => "tuple" | .lst => "list" | .dct => "dict"
noncomputable def jw (w:W)(A:Hx):Option Ty:=match w with
 |.non=>some .non|.bl _=>some .bl|.int _=>some .int|.str _=>some .str|.tup _=>some .tup|.ref n=>match A[n]? with
  |some (.lst _)=>some .lst|some (.dct _)=>some .dct|_=>none
 |_=>none
noncomputable def yZ (a b:Ty):Bool:=a==b || (a==.bl&&b==.int)
theorem WT {K:Frag}(a b:Ty):kitOne K (.type a.nm) (.type b.nm)=some (yZ a b):=by
 cases a<;>cases b<;>rfl
section
variable {xr:XR}{K:Frag}{a c:Expr}{es:List Expr}{m:Ev}
def Js (K:Frag)(H:Hp)(x:V)(t:Ty):Prop:=gj K H x (.type t.nm)∨∃a xs,x=.ref a/\qD K H a xs/\t=.tup
theorem P4 {A:Hx}{w:W}{t:Ty}(S:zM K φ A H)(q:RV K φ H w v)(e:jw w A=some t):Js K H v t:=by
 cases w with
 |non=>cases e;obtain rfl:=q;exact .inl .non|bl k=>cases e;obtain rfl:=q;exact .inl (.bl k)|clo _ _ _=>cases e|xc _=>cases e|int k=>cases e;obtain rfl:=q;exact .inl (.int k)|str k=>cases e;obtain rfl:=q;exact .inl (.str k)|tup ws=>cases e;obtain⟨a,vs,rfl,h,_⟩:=q;exact .inr ⟨a,vs,rfl,h,rfl⟩|ref n=>
  obtain⟨a,rfl,c⟩:=q;unfold jw at e;dsimp only at e;cases E:A[n]? with
  |none=>rw[E]at e;cases e|some o=>
   rw[E]at e;obtain⟨d,b,r⟩:=S.ob n o E;rw[c]at b;cases b;cases o with
   |lst ws=>cases e;obtain⟨vs,z,_⟩:=r;exact .inl (.lst z)|dct ws=>cases e;obtain⟨vs,z,_⟩:=r;exact .inl (.dK z)|tab _ _=>cases e|ro ws=>cases e
theorem Js.kit {x:V}{t:Ty}(I:Inv X pins σ H s)(r:RelV x u)(h:Js X.K H x t):
  (∀{Q:Value->Shared->Prop}{E:Value->Shared->Prop}{A:Around}{c:Ty},(∀tk,Q (.bool (yZ t c)) { s with toks:=tk })->wpAny (model X.prog X.w) A (call (.builtin "isinstance") [u,.type c.nm]) Q E s):=by
 intro Q E A c q;rcases h with h|⟨a,xs,rfl,h,rfl⟩
 ·exact R1 I r h (WT t c) q
 ·cases (show u=Value.ref a from r)
  obtain⟨i,_,⟨o,d,b,_⟩,_⟩:=I.tuple h;exact bF kitx_tuple I.kIn ⟨o,d,b⟩ (WT .tup c) (λ z=>nomatch z) q
def rIs (K:Frag):List V->Hp->VK->Prop:=λ xs H Q=>∃x t c,xs=[x,.ty (Ty.nm c)]/\Js K H x t/\Q (.bl (yZ t c)) H
theorem DX:ye X (.builtin "isinstance") (rIs X.K):=by
 intro pins s σ H xs us Q I r h;obtain⟨x,t,c,rfl,d,q⟩:=h;obtain⟨u,U,rfl,b,a⟩:=vals2 r;cases (show U=Value.type c.nm from a)
 exact d.kit I b λ tk=>⟨.bl (yZ t c),H,I.tok tk,rfl,q⟩
def kL (t:Ty)(m:Ev):Ev:=λ ρ A=>(m ρ A).bind λ w A1=>match jw w A1 with
 |some t'=>.ok (.bl (yZ t' t)) A1|none=>.bad
def zI:W->W->Hx->R W:=λ x y A=>match zR x A,y with
 |some ws,.int i=>match wQ ws i with
  |some w=>.ok w A|none=>.bad
 |_,_=>.bad
theorem zbg:∀x y A,qU (zI x y A):=λ x y A=>by
 unfold zI;split
 ·split
  ·exact yb
  ·exact je
 ·exact je
theorem Ez {ws:List W}{i:Int}{w:W}(r:zG K φ H ws ys)(e:wQ ws i=some w):∃y,wQ ys i=some y/\RV K φ H w y:=by
 unfold wQ at e ⊢;rw[<- r.length];cases h:gU ws.length i with
 |none=>rw[h]at e;cases e|some j=>
  rw[h]at e;obtain⟨y,b,a⟩:=r.get (i:=j) e;exact⟨y,b,a⟩
theorem BI:yD K (N9 K) zI:=λ φ A H x y u v Q S c q p=>by
 unfold zI at p;cases es:zR u A with
 |none=>rw[es]at p;exact p.elim|some ws=>
  rw[es]at p;cases v with
  |int i=>
   obtain rfl:=q;dsimp only at p;cases e:wQ ws i with
   |none=>rw[e]at p;exact p.elim|some w=>
    rw[e]at p;obtain⟨a,ys,rfl,z,r⟩:=Wq S c es;obtain⟨Y,b,h⟩:=Ez r e;rcases z with z|z
    ·exact .inl ⟨a,ys,i,Y,rfl,rfl,z,b,p φ H _ .refl S h⟩
    ·exact .inr (.inl ⟨a,ys,i,Y,rfl,rfl,z,b,p φ H _ .refl S h⟩)
  |non=>exact p.elim|bl _=>exact p.elim|str _=>exact p.elim|tup _=>exact p.elim|ref _=>exact p.elim|clo _ _ _=>exact p.elim|xc _=>exact p.elim
def QM (K:Frag)(r:List V->Hp->VK->Prop)(g:List W->Hx->R W):Prop:=∀φ A H a ys ws Q,zM K φ A H->(ji K H a ys∨qD K H a ys)->zG K φ H ws ys->(g ws A).post (PB K φ H Q) gv->r [.ref a] H Q
noncomputable def mQ (g:List W->Hx->R W)(q:jY):Ev:=λ ρ A=>(q ρ A).bind λ ws A1=>g ws A1
theorem mQ.read {g:List W->Hx->R W}{q:jY}(hn:∀ws A,qU (g ws A))(c:QM X.K r g):∀σ H Q,tM X.K xr (mQ g q) σ H Q->Xg r (GJ (tQ X.K xr q) Ta) σ H Q:=by
 rintro σ H Q ⟨φ,A,ρ,S,re,h⟩
 refine⟨φ,A,ρ,S,re,qt (zW.mp h) (λ ws A1 d b H1 a ys l s z r=>?_) λ _ _ z=>z⟩;exact c b A1 H1 a ys ws Q s z r (qt (JN (hn _ _) d) (λ _ _ z=>z.mono l) λ _ _ z=>z)
theorem Gy {id:String}{g:List W->Hx->R W}{q:jY}(d:ye X (.builtin id) r)(hn:∀ws A,qU (g ws A))(a:QM X.K r g)(hm:X.mg x=none)(v:bootBuiltins x=some (.builtin id))(f:SQ X xr e q)(c:Gl X x:=by rfl)
  (H:x ≠ "__name__" := by decide)(b:(x==("__debug__" : Str))=false:=by decide)(he:starEach [e] X.env=(false,eval e X.env)::starEach [] X.env:=by rfl)(h:(backTo pos (starEach [] X.env)).any (·.1)=false:=by rfl):
  SE X xr (.Call (.Name x p) [e] [] pos) (mQ g q):=PE.imp (Qs d c hm v (jm f j9 he) H b he h) (mQ.read hn a)
theorem zbx {id:String}{g:List W->Hx->R W}{q:jY}(d:ye X (.type id) r)(hn:∀ws A,qU (g ws A))(a:QM X.K r g)(hm:X.mg x=none)(v:bootBuiltins x=some (.type id))(f:SQ X xr e q)(c:Gl X x:=by rfl)
  (H:x ≠ "__name__" := by decide)(b:(x==("__debug__" : Str))=false:=by decide)(he:starEach [e] X.env=(false,eval e X.env)::starEach [] X.env:=by rfl)(h:(backTo pos (starEach [] X.env)).any (·.1)=false:=by rfl):
  SE X xr (.Call (.Name x p) [e] [] pos) (mQ g q):=PE.imp (JJ d c hm v (jm f j9 he) H b he h) (mQ.read hn a)
noncomputable def qy:List W->Hx->R W:=λ ws A=>.ok (.int ws.length) A
theorem CG:QM K (λ xs H Q=>∃p ys,xs=[.ref p]/\(ji K H p ys∨qD K H p ys)/\Q (.int ys.length) H) qy:=λ φ A H a ys ws Q S z r p=>
 ⟨a,ys,rfl,z,by rw[<- r.length];exact p φ H _ .refl S rfl⟩
noncomputable def yi:List W->Hx->R W:=λ ws A=>.ok (.tup ws) A
theorem Cg:QM K (λ xs H Q=>∃p ys,xs=[.ref p]/\((ji K H p ys/\∀l,H l=none->Q (.ref l) (upd H l (.tup ys)))∨(qD K H p ys/\Q (.ref p) H))) yi:=λ φ A H a ys ws Q S z r p=>by
 refine⟨a,ys,rfl,?_⟩;rcases z with z|z
 ·refine .inl ⟨z,λ l h=>?_⟩
  obtain⟨a1,a2,b⟩:=Q8 S h r;exact p _ _ _ a1 a2 b
 ·exact .inr ⟨z,p φ H _ .refl S ⟨a,ys,rfl,z,r⟩⟩
variable {b:Expr}
theorem VC {a:Addr}(I:Inv X pins σ H s)(l:X.calm=true)(z:ji X.K H a ys∨qD X.K H a ys)
  (h:∀(c:List Value)(j:Addr)(fp wr:List Addr)(S:Nat->Heap->Prop)(s2:Shared),Vals ys c->ys.length<=sizeLine->Walks X.prog X.w X.A.in1 j fp wr c.length (λ i v=>c[i]? =some v) S->S 0 s2.heap->(∀b∈fp,b<s2.heap.objs.size)->
   (∀(h':Heap)(tk:Nat),(∀b o,b∉wr->s2.heap.get? b=some o->h'.get? b=some o)->Inv X pins σ H { s2 with heap:=h',toks:=tk })->Q (.ref j) s2):
  wpAny (model X.prog X.w) X.A.in1 (pyIter (.ref a)) Q E s:=by
 have g:X.A.in1.handled=none:=I.ok.hd l;have keep:∀(o:Obj)(h':Heap)(tk:Nat),(∀b u,b∉[s.heap.objs.size]->(s.heap.push o).get? b=some u->h'.get? b=some u)->Inv X pins σ H { s with heap:=h',toks:=tk }:=λ o h' tk k=>I.kept λ b u e=>k b u (by
  intro hm;have q:b=s.heap.objs.size:=by simpa using hm
  exact absurd (q ▸ aI e) (aY _)) (af _ e)
 rcases z with z|z
 ·obtain⟨c,r,p,f⟩:=I.list z
  have t:a<s.heap.objs.size:=by obtain⟨o,n,e,_⟩:=p;exact aI e
  refine wpAny_pyIter_list p.isList ?_;have W:=Walks.list (prog:=X.prog) (w:=X.w) g s.heap.objs.size a (aM t) c.toArray;rw[aF]at W;simp only[List.getElem?_toArray]at W;refine h c s.heap.objs.size _ _ _ _ r f W ⟨⟨_,au _ rfl,rfl,rfl⟩,p.isList.at λ o e=>af _ e⟩ (λ b d=>?_) λ h' tk k=>keep _ h' tk k;show b<(s.heap.push _).objs.size;rw[bf];rcases qa3.mp d with e|d
  ·rw[e];exact bg _
  ·have e:b=a:=by simpa using d
   rw[e];exact ba t
 ·obtain⟨c,r,p,f⟩:=I.tuple z
  have t:a<s.heap.objs.size:=p.lt;have P:s.heap.IsTuple a c.toArray:=p;refine wpAny_pyIter_tuple P ?_;have W:=Walks.tuple (prog:=X.prog) (w:=X.w) g s.heap.objs.size a (aM t) c.toArray;rw[aF]at W;simp only[List.getElem?_toArray]at W;refine h c s.heap.objs.size _ _ _ _ r f W ⟨⟨_,au _ rfl,rfl,rfl⟩,P.at λ o e=>af _ e⟩ (λ b d=>?_) λ h' tk k=>keep _ h' tk k;show b<(s.heap.push _).objs.size;rw[bf];rcases qa3.mp d with e|d
  ·rw[e];exact bg _
  ·have e:b=a:=by simpa using d
   rw[e];exact ba t
noncomputable def KG:V->Option Bool
 |.bl b=>some b|.int i=>some (i != 0)|.non=>some false|_=>none
noncomputable def KH:W->Option Bool
 |.bl b=>some b|.int i=>some (i != 0)|.non=>some false|_=>none
theorem EJ {w:W}{k:Bool}(q:RV K φ H w v)(e:KH w=some k):KG v=some k:=by
 cases w<;>first
  |(cases e;done)
  |(obtain rfl:=q;exact e)
theorem Fu {A:Around}{k:Bool}{Q:Bool->Shared->Prop}(r:RelV v u)(e:KG v=some k)(h:Q k s):wpAny (model X.prog X.w) A (truthy u) Q E s:=by
 cases v with
 |bl b=>cases e;cases r;exact wpAny_truthy_bool h|int i=>
  cases e;obtain⟨t,rfl⟩:=r;exact PySem.P.truthy_int h
 |non=>cases e;cases r;exactλ _ _ _=>h|_=>cases e
def Zd:List W->Option (List Bool)
 |[]=>some []|w::ws=>match KH w,Zd ws with
  |some k,some K=>some (k::K)|_,_=>none
theorem Rk :∀{ws:List W}{ys:List V}{s:List Bool},zG K φ H ws ys->Zd ws=some s->∀(i:Nat)(y:V),ys[i]? =some y->∃k,s[i]? =some k/\KG y=some k
 |[],_,_,r,e,i,y,h=>by cases r;simp at h|w::ws,_,s,⟨v,r,g,q,t⟩,e,i,y,h=>by
  subst g;unfold Zd at e;cases E:KH w with
  |none=>rw[E]at e;cases e|some k=>
   cases a:Zd ws with
   |none=>rw[E,a]at e;cases e|some b=>
    rw[E,a]at e;cases e;cases i with
    |zero=>simp at h;subst h;exact⟨k,by simp,EJ q E⟩|succ i=>simp at h;obtain⟨c,f,d⟩:=Rk t a i y h;exact⟨c,by simpa using f,d⟩
theorem RB:∀{ws:List W}{K:List Bool},Zd ws=some K->K.length=ws.length
 |[],_,e=>by cases e;rfl|w::ws,K,e=>by
  unfold Zd at e;cases a:KH w with
  |none=>rw[a]at e;cases e|some k=>
   cases E:Zd ws with
   |none=>rw[a,E]at e;cases e|some b=>rw[a,E]at e;cases e;simp[RB E]
theorem range_all (K:List Bool):(List.range K.length).all (λ i=>K.getD i false)=K.all id:=by
 rw[Bool.eq_iff_iff,bC,bC]
 constructor
 ·intro h x b
  obtain⟨i,a,rfl⟩:=bE b
  have:=h i (qa5.mpr a)
  rw[aa,ae a]at this;exact this
 ·intro h i a
  have H:=qa5.mp a;rw[aa,ae H];exact h _ (aP H)
def NK (K:Frag)(f:List Bool->Bool):List V->Hp->VK->Prop:=λ xs H Q=>∃a ys s,xs=[.ref a]/\(ji K H a ys∨qD K H a ys)/\s.length=ys.length/\(∀(i:Nat)(y:V),ys[i]? =some y->∃k,s[i]? =some k/\KG y=some k)/\Q (.bl (f s)) H
theorem E3 {K:List Bool}{A:Around}(r:Vals ys its)(l:K.length=ys.length)(t:∀(i:Nat)(y:V),ys[i]? =some y->∃k,K[i]? =some k/\KG y=some k):TruthOf X.prog X.w A (λ i v=>its[i]? =some v) λ i=>K.getD i false:=by
 intro i v s Q E P H;have b:i<its.length:=(qa2.mp P).1;have h:i<ys.length:=by rw[r.length];exact b
 obtain⟨u,a,e⟩:=r.get (i:=i) (x:=ys[i]) (by simp[h])
 rw[P]at a;cases a;obtain⟨k,d,c⟩:=t i ys[i] (by simp[h])
 dsimp only at H;rw[aa,d]at H;exact Fu e c H
theorem Dv (f:X.calm=true):ye X (.builtin "all") (NK X.K λ b=>b.all id):=by
 intro pins s σ H xs us Q I r h;obtain⟨a,ys,b,rfl,z,l,t,q⟩:=h;obtain⟨u,rfl,d⟩:=vals1 r;cases d;refine call_all_walk (VC I f z λ c g fp wr S s2 v j W st p back=>?_);refine⟨g,fp,wr,_,_,S,λ i=>b.getD i false,rfl,W,st,E3 v l t,λ h' tk k=>?_⟩;have e:c.length=b.length:=by rw[l,v.length]
 rw[e,range_all];exact⟨.bl _,H,back h' tk k,rfl,q⟩
def QH (f:List Bool->Bool):List W->Hx->R W:=λ ws A=>match Zd ws with
 |some K=>.ok (.bl (f K)) A|none=>.bad
theorem BH {f:List Bool->Bool}:∀ws A,qU (QH f ws A):=λ ws A=>by
 unfold QH;split
 ·exact yb
 ·exact je
theorem CO {f:List Bool->Bool}:QM K (NK K f) (QH f):=λ φ A H a ys ws Q S z r p=>by
 unfold QH at p;cases e:Zd ws with
 |none=>rw[e]at p;exact p.elim|some s=>
  rw[e]at p;exact⟨a,ys,s,rfl,z,by rw[RB e,r.length],Rk r e,p φ H _ .refl S rfl⟩
abbrev QJ:=QH λ K=>K.all id
theorem Fq:ja X (compareOp .IsNot) (λ x y H Q=>∃i j,x=.bl i/\y=.bl j/\Q (.bl (!(i==j))) H):=by
 intro pins s σ H x y v u Q I a r h;obtain⟨i,j,rfl,rfl,q⟩:=h;cases a;cases r;exact isnot_bool ⟨.bl _,H,I,rfl,q⟩
noncomputable def UQ:W->Bool
 |.non=>true|_=>false
theorem He {w:W}(q:RV K φ H w v):decide (v=.non)=UQ w:=by
 cases w with
 |non=>obtain rfl:=q;rfl|bl b=>obtain rfl:=q;rfl|clo _ _ _=>obtain⟨a,_,_,_,_,_,_,rfl,_⟩:=q;rfl|xc _=>obtain⟨a,_,_,_,rfl,_⟩:=q;rfl|int b=>obtain rfl:=q;rfl|str b=>obtain rfl:=q;rfl|tup ws=>obtain⟨a,vs,rfl,_⟩:=q;rfl|ref n=>obtain⟨a,rfl,_⟩:=q;rfl
def KS (neg:Bool):W->W->Hx->R W:=λ x y A=>match x,y with
 |.bl i,.bl j=>.ok (.bl (if neg then !(i==j) else i==j)) A|w,.non=>.ok (.bl (if neg then !UQ w else UQ w)) A|_,_=>.bad
theorem AD {n:Bool}:∀x y A,qU (KS n x y A):=λ x y A=>by
 unfold KS;split
 ·exact yb
 ·exact yb
 ·exact je
theorem FR:yD K (λ x y H Q=>(y=.non/\Q (.bl (!decide (x=.non))) H)∨∃i j,x=.bl i/\y=.bl j/\Q (.bl (!(i==j))) H) (KS true):=λ φ A H x y u v Q S b a p=>by
 cases v with
 |non=>
  have q:y=.non:=a;refine .inl ⟨q,?_⟩;rw[He b];cases u<;>exact p φ H _ .refl S rfl
 |bl j=>
  cases u with
  |bl i=>obtain rfl:=b;obtain rfl:=a;exact .inr ⟨i,j,rfl,rfl,p φ H _ .refl S rfl⟩|_=>exact p.elim
 |_=>cases u<;>exact p.elim
theorem Br:gc X .IsNot (KS true):=Yg (CN.or Fq) AD FR
end
noncomputable def NQ (outer sc:Scope):Bool:=sc.kind==.function&&decide ((sc.names.map (·.1)).Nodup)&&sc.names.all λ y=>y.2 != .free || (outer.names.lookup y.1==some .cell || outer.names.lookup y.1==some .free)
theorem cps (h:NQ X.env.scope sc=true):Zb X sc:=by
 unfold NQ at h;rw[aj,aj,ao,aL,bC]at h;refine⟨h.1.1,h.1.2,λ y H e=>?_⟩
 have:=h.2 y H
 rw[e]at this;simp only[bne_self_eq_false,Bool.false_or,bG,aL]at this;exact this
section
variable {xr:XR}{K:Frag}{a b:Expr}{ma mb:Ev}
theorem zM.lst {φ:List Addr}{A:Hx}{H:Hp}{n:Nat}{ws:List W}{v:V}(S:zM K φ A H)(q:RV K φ H (.ref n) v)(e:A[n]? =some (.lst ws)):∃p vs,v=.ref p/\φ[n]? =some p/\H p=some (.lst vs)/\zG K φ H ws vs:=by
 obtain⟨p,rfl,a⟩:=q;obtain⟨P,h,vs,c,b⟩:=S.ob n _ e;rw[a]at h;cases h;exact⟨p,vs,rfl,a,c,b⟩
theorem ES {prog:Program}{A:Around}{t b:Addr}{ws:List Value}(a:IsTup s.heap t ([]:List Value).toArray)(e:IsTup s.heap b ws.toArray)(h0:Q (.ref b) s):
  wpAny (model prog w) A (binaryOp .Add (.ref t) (.ref b)) Q E s:=by
 obtain⟨⟨cls,dd,data,l⟩,o,c,n,hd⟩:=id a;obtain⟨⟨C,d,data2,S⟩,h,H,N,hd2⟩:=id e;simp only at c hd H hd2;subst c hd H hd2;exact concat_meets ⟨_,o,rfl⟩ ⟨_,h,rfl⟩ noFill_tuple_add seq_tuple_add slot_tuple_add entry_tuple_add (args_tuple_add_2 _ _)
   (tuple_addW0 t b ([]:List Value).toArray ws.toArray n N dd d l S (by simp)) ⟨o,h,h0⟩
noncomputable def Ni (K:Frag):R2:=λ x y H Q=>∃a b ys,x=.ref a/\y=.ref b/\qD K H a []/\qD K H b ys/\Q (.ref b) H
theorem EH:ja X (binaryOp .Add) (Ni X.K):=by
 intro pins s σ H x y v u Q I c r h;obtain⟨a,b,ys,rfl,rfl,g,f,q⟩:=h;cases c;cases r;obtain⟨e,d,P,_⟩:=I.tuple g;obtain⟨i,j,p,_⟩:=I.tuple f;cases d;exact ES P p ⟨.ref b,H,I,rfl,q⟩
def qx:W->W->Hx->R W:=λ x y A=>match x,y with
 |.int i,.int j=>.ok (.int (i+j)) A|.tup xs,.tup ys=>if xs.length+ys.length<=zX then .ok (.tup (xs++ys)) A else .bad|.ref n,.ref k=>match A[n]?,A[k]? with
  |some (.lst xs),some (.lst ys)=>if xs.length+ys.length<=zX then .ok (.ref A.length) (A++[.lst (xs++ys)]) else .bad|_,_=>.bad
 |_,_=>.bad
theorem AL:∀x y A,qU (qx x y A):=λ x y A=>by
 unfold qx
 split
 ·exact yb
 ·exact Z1 yb je
 ·split
  ·exact Z1 yb je
  ·exact je
 ·exact je
theorem ZT (h:n<=zX):n<=sizeLine:=by
 have:sizeLine=16777216:=sizeLine_eq
 unfold zX at h;omega
theorem D5:yD K (λ x y H Q=>ZN (λ i j=>.int (i+j)) x y H Q∨NA K x y H Q∨Ni K x y H Q∨NS x y H Q) qx:=λ φ A H x y u v Q S f q p=>by
 cases u with
 |int i=>cases v with
  |int j=>obtain rfl:=f;obtain rfl:=q;exact .inl ⟨i,j,rfl,rfl,p φ H _ .refl S rfl⟩|_=>exact p.elim
 |tup xs=>cases v with
  |tup ys=>
   obtain⟨a1,b,rfl,t1,c⟩:=f;obtain⟨a2,a,rfl,t,r⟩:=q;unfold qx at p;dsimp only at p
   by_cases h:xs.length+ys.length<=zX
   ·rw[ag h]at p
    by_cases w:b=[]
    ·subst w
     have e0:xs=[]:=by
      have:=c.length
      simpa using this
     subst e0;exact .inr (.inr (.inl ⟨a1,a2,a,rfl,rfl,t1,t,p φ H _ .refl S ⟨a2,a,rfl,t,r⟩⟩))
    ·refine .inr (.inl ⟨a1,a2,b,a,rfl,rfl,t1,t,w,by rw[<- c.length,<- r.length];exact ZT h,λ e=>?_,λ ne l g=>?_⟩)
     ·subst e
      have e0:ys=[]:=by
       have:=r.length
       simpa using this
      subst e0;rw[bo]at p;exact p φ H _ .refl S ⟨a1,b,rfl,t1,c⟩
     ·obtain⟨s,o,B⟩:=Q8 S g (c.append r)
      exact p _ _ _ s o B
   ·rw[ak h]at p;exact p.elim
  |_=>exact p.elim
 |ref n=>cases v with
  |ref k=>
   unfold qx at p;dsimp only at p;cases E:A[n]? with
   |none=>rw[E]at p;exact p.elim|some D=>cases D with
    |lst xs=>
     cases d:A[k]? with
     |none=>rw[E,d]at p;exact p.elim|some C=>cases C with
      |lst ys=>
       rw[E,d]at p;dsimp only at p;obtain⟨z,v1,rfl,f1,g1,c⟩:=S.lst f E;obtain⟨P,v2,rfl,f2,g2,r⟩:=S.lst q d
       by_cases h:xs.length+ys.length<=zX
       ·rw[ag h]at p
        refine .inr (.inr (.inr ⟨z,P,v1,v2,rfl,rfl,g1,g2,by rw[<- c.length,<- r.length];exact ZT h,λ l g=>?_⟩))
        obtain⟨s,o,B⟩:=Q9 S g (c.append r);exact p _ _ _ s o B
       ·rw[ak h]at p;exact p.elim
      |_=>rw[E,d]at p;exact p.elim
    |_=>rw[E]at p;exact p.elim
  |_=>exact p.elim
 |_=>cases v<;>exact p.elim
def qu:W->W->Hx->R W:=λ x y A=>match x,y with
 |.int i,.int j=>if Yw i j then .ok (.int (i * j)) A else .bad|.ref n,.int k=>match A[n]? with
  |some (.lst xs)=>if j0 k&&decide (xs.length * k.toNat<=zX) then .ok (.ref A.length) (A++[.lst (List.replicate k.toNat xs).flatten]) else .bad|_=>.bad
 |_,_=>.bad
theorem zae:∀x y A,qU (qu x y A):=λ x y A=>by
 unfold qu
 split
 ·exact Z1 yb je
 ·split
  ·exact Z1 yb je
  ·exact je
 ·exact je
theorem zG.rep {ws:List W}(r:zG K φ H ws vs):∀n:Nat,zG K φ H (List.replicate n ws).flatten (List.replicate n vs).flatten
 |0=>.nil|n+1=>by rw[a8,a8,a3,a3];exact r.append (zG.rep r n)
theorem C5:yD K (λ x y H Q=>rI KD (λ i j=>.int (i * j)) x y H Q∨NO x y H Q) qu:=λ φ A H x y u v Q S a q p=>by
 cases v with
 |int j=>cases u with
  |int i=>
   obtain rfl:=a;obtain rfl:=q;unfold qu at p;dsimp only at p
   by_cases c:Yw i j=true
   ·rw[ag c]at p;exact .inl ⟨i,j,rfl,rfl,DK i j c,p φ H _ .refl S rfl⟩
   ·rw[ak c]at p;exact p.elim
  |ref n=>
   obtain rfl:=q;unfold qu at p;dsimp only at p;cases e:A[n]? with
   |none=>rw[e]at p;exact p.elim|some o=>cases o with
    |lst xs=>
     rw[e]at p;dsimp only at p;obtain⟨P,v1,rfl,f1,g1,r⟩:=S.lst a e
     by_cases h:(j0 j&&decide (xs.length * j.toNat<=zX))=true
     ·rw[ag h]at p
      rw[aj,ao]at h;obtain⟨g,B⟩:=JH h.1;refine .inr ⟨P,j,v1,rfl,rfl,g1,by omega,by omega,by rw[<- r.length];exact ZT h.2,λ l b=>?_⟩
      obtain⟨f,d,C⟩:=Q9 S b (r.rep j.toNat);exact p _ _ _ f d C
     ·rw[ak h]at p;exact p.elim
    |_=>rw[e]at p;exact p.elim
  |_=>exact p.elim
 |_=>cases u<;>exact p.elim
def j4:W->W->Hx->R W:=λ x y A=>match x with
 |.ref n=>match A[n]? with
  |some (.lst ws)=>if ws.length<zX then .ok .non (A.set n (.lst (ws++[y]))) else .bad|_=>.bad
 |_=>.bad
noncomputable def YA (x:W)(A:Hx):Bool:=match x with
 |.ref n=>match A[n]? with
  |some (.lst _)=>true|_=>false
 |_=>false
theorem EA {A:Hx}{w:W}(S:zM K φ A H)(q:RV K φ H w v)(e:YA w A=true):Xa K "list" v H:=by
 unfold YA at e;cases w with
 |ref n=>
  dsimp only at e;cases E:A[n]? with
  |none=>rw[E]at e;cases e|some o=>cases o with
   |lst ws=>obtain⟨p,vs,rfl,_,h,_⟩:=S.lst q E;exact .inl ⟨rfl,_,ji.of h⟩|_=>rw[E]at e;cases e
 |_=>cases e
def jQ (g:W->W->Hx->R W)(a b:Ev):Ev:=λ ρ A=>(a ρ A).bind λ x A1=>if YA x A1 then(b ρ A1).bind λ y A2=>g x y A2 else .bad
theorem UK {nm:Str}{id:String}{r:V->List V->Hp->VK->Prop}{g:W->W->Hx->R W}(slot:Slot "list" nm id)(j:typeOf (.builtin id)=pure (.type "method_descriptor"))(hm:K0 X id r)(hn:∀x y A,qU (g x y A))
  (D:∀φ A H x y u v Q,zM X.K φ A H->RV X.K φ H u x->RV X.K φ H v y->(g u v A).post (PB X.K φ H Q) gv->r x [y] H Q)(C:SE X xr a ma)(he:SE X xr b mb)
  (s:starEach [b] X.env=(false,eval b X.env)::starEach [] X.env)(c:attributeBase a nm X.env (eval a X.env)=eval a X.env)
  (d:((backTo cpos (starEach [b] X.env)).all (λ x=>!x.1)&&(backToKw cpos (keywordEach [] X.env)).all (λ x=>x.1.isSome)
   && decide ([b].length+([]:List Keyword).length+(if ([]:List Keyword).isEmpty then 0 else 1)<30))=true)(e:(apos.endLine==cpos.line)=true):
  SE X xr (.Call (.Attribute a nm apos) [b] [] cpos) (jQ g ma mb):=
 PE.imp (Nq PySem.F.plainAttrs_list slot j hm C (jm he j9 s) c d e s (by rfl)) λ σ H Q ⟨φ,A,ρ,S,re,h⟩=>by
  refine tM.go S re (zW.mp h) λ w A1 p H1 v f l o q=>?_
  by_cases n:YA w A1=true
  ·rw[ag n]at f
   refine⟨EA o q n,?_⟩;refine tM.go o (re.mono l) (qt (zW.mp f) (λ _ _ z=>z) λ _ _ z=>z.mono l) λ t A2 i J v2 E L I B=>?_;exact D i A2 J v v2 w t Q I (q.mono L) B (qt (JN (hn _ _ _) E) (λ _ _ z=>z.mono (l.trans L)) λ _ _ z=>z)
  ·rw[ak n]at f;exact f.elim
theorem Fj:∀x y A,qU (j4 x y A):=λ x y A=>by
 unfold j4
 split
 ·split
  ·exact Z1 yb je
  ·exact je
 ·exact je
def ZA:W->W->Hx->R W:=λ x y A=>match x,y with
 |.ref n,.int i=>match A[n]? with
  |some (.lst ws)=>match (if j0 i then seqIndex? i ws.length else none) with
   |some k=>match ws[k]? with
    |some w=>.ok w (A.set n (.lst (ws.eraseIdx k)))|none=>.bad
   |none=>.bad
  |_=>.bad
 |_,_=>.bad
theorem DC:∀x y A,qU (ZA x y A):=λ x y A=>by
 unfold ZA
 split
 ·split
  ·split
   ·split
    ·exact yb
    ·exact je
   ·exact je
  ·exact je
 ·exact je
def gn:W->W->W->Hx->R Unit:=λ o i v A=>match o,i with
 |.ref n,.int k=>match A[n]? with
  |some (.lst ws)=>match gU ws.length k with
   |some j=>.ok () (A.set n (.lst (ws.set j v)))|none=>.bad
  |_=>.bad
 |_,_=>.bad
theorem O8:∀o i v A,qU (gn o i v A):=λ o i v A=>by
 unfold gn
 split
 ·split
  ·split
   ·exact yb
   ·exact je
  ·exact je
 ·exact je
theorem Oj:NG K Nt gn:=λ φ A H o i v w wi wv Q S d c q p=>by
 unfold gn at p;cases w with
 |ref n=>cases wi with
  |int k=>
   obtain rfl:=c;dsimp only at p;cases e:A[n]? with
   |none=>rw[e]at p;exact p.elim|some f=>cases f with
    |lst ws=>
     rw[e]at p;dsimp only at p;cases E:gU ws.length k with
     |none=>rw[E]at p;exact p.elim|some j=>
      rw[E]at p;obtain⟨l,vs,rfl,f1,g1,r⟩:=S.lst d e;have ln:Le K φ H φ (upd H l (.lst (vs.set j v))):=Le.upd f1 (λ xs z=>by rw[g1]at z;cases z) (λ _ _ z=>by rw[g1]at z;cases z)
      obtain⟨b,a⟩:=S.write (o:=.lst ws) (o':=.lst (ws.set j wv)) e rfl rfl f1 ⟨_,jD,(r.mono ln).set (q.mono ln) j⟩;exact⟨l,vs,k,j,rfl,rfl,g1,by rw[<- r.length];exact E,p _ _ b a⟩
    |_=>rw[e]at p;exact p.elim
  |_=>exact p.elim
 |_=>cases wi<;>exact p.elim
variable {es:List Expr}{m:Ev}
theorem zbA {id:String}{g:W->Hx->R W}(i:ye X (.builtin id) r)(hn:∀w A,qU (g w A))(f:Xl X.K (λ v=>r [v]) g)(hm:X.mg x=none)(d:bootBuiltins x=some (.builtin id))(j:SE X xr e m)(b:Gl X x:=by rfl)
  (a:x ≠ "__name__" := by decide)(c:(x==("__debug__" : Str))=false:=by decide)(he:starEach [e] X.env=(false,eval e X.env)::starEach [] X.env:=by rfl)(l:(backTo pos (starEach [] X.env)).any (·.1)=false:=by rfl):
  SE X xr (.Call (.Name x p) [e] [] pos) (jJ g m):=PE.imp (Qs i b hm d (jm j j9 he) a c he l) λ σ H Q h=>jJ.read (r:=λ v=>r [v]) hn f σ H Q h
theorem Aa {id:String}{g:W->Hx->R W}(i:ye X (.type id) r)(hn:∀w A,qU (g w A))(f:Xl X.K (λ v=>r [v]) g)(hm:X.mg x=none)(d:bootBuiltins x=some (.type id))(j:SE X xr e m)(b:Gl X x:=by rfl)
  (a:x ≠ "__name__" := by decide)(c:(x==("__debug__" : Str))=false:=by decide)(he:starEach [e] X.env=(false,eval e X.env)::starEach [] X.env:=by rfl)(l:(backTo pos (starEach [] X.env)).any (·.1)=false:=by rfl):
  SE X xr (.Call (.Name x p) [e] [] pos) (jJ g m):=PE.imp (JJ i b hm d (jm j j9 he) a c he l) λ σ H Q h=>jJ.read (r:=λ v=>r [v]) hn f σ H Q h
theorem UA {id:String}{g:W->W->Hx->R W}(q:ye X (.builtin id) r)(hn:∀w j A,qU (g w j A))(o:yD X.K (λ v c=>r [v,c]) g)(hm:X.mg x=none)(n:bootBuiltins x=some (.builtin id))(t:SE X xr a ma)(s:SE X xr b mb)(e:Gl X x)
  (d:x ≠ "__name__")(f:(x==("__debug__" : Str))=false)(i:starEach [a,b] X.env=(false,eval a X.env)::starEach [b] X.env)(u:starEach [b] X.env=(false,eval b X.env)::starEach [] X.env)(l:(backTo pos (starEach [b] X.env)).any (·.1)=false):
  SE X xr (.Call (.Name x p) [a,b] [] pos) (zo g ma mb):=PE.imp (Qs q e hm n (jm t (jm s j9 u) i) d f i l) λ σ H Q h=>zo.read (r:=λ v c=>r [v,c]) hn o σ H Q h
noncomputable def Kz:W->Hx->R W
 |.int i,A=>.ok (.int (if i<0 then -i else i)) A|_,_=>.bad
noncomputable def Zj:W->Hx->R W
 |.int i,A=>.ok (.int i) A|.bl k,A=>.ok (.int (if k then 1 else 0)) A|_,_=>.bad
def UE:=ZM λ i j=>.int (if j > i then j else i)
def Gx:=ZM λ i j=>.int (if j<i then j else i)
noncomputable def yB:W->Bool
 |.tup _=>false|.ref _=>false|.clo _ _ _=>false|.xc _=>false|_=>true
noncomputable def Qf:W->W->Bool
 |.non,.non=>true|.bl a,.bl b=>a==b|.bl a,.int b=>(if a then 1 else 0)==b|.int a,.bl b=>a==(if b then 1 else 0)|.int a,.int b=>a==b|.str a,.str b=>a==b|_,_=>false
def Yx (x:W)(xs:List W):Bool:=xs.any λ y=>Qf y x
theorem YZ {w:W}(q:RV K φ H w v)(e:yB w=true):kZ v=true:=by
 cases w<;>first
  |(cases e;done)
  |(obtain rfl:=q;rfl)
theorem Vj {w a:W}{b:V}(q:RV K φ H w v)(Q:RV K φ H a b)(e:yB w=true)(E:yB a=true):wD v b=Qf w a:=by
 cases w<;>cases a<;>first
  |(cases e;done)
  |(cases E;done)
  |(obtain rfl:=q;obtain rfl:=Q;rfl)
theorem Pz {x:W}(q:RV K φ H x v)(e:yB x=true):∀{xs:List W}{vs:List V},zG K φ H xs vs->xs.all yB=true->vs.all kZ=true/\Xq v vs=Yx x xs
 |[],_,r,_=>by cases r;exact⟨rfl,rfl⟩|w::ws,_,⟨y,r,E,h,t⟩,a=>by
  subst E;rw[List.all_cons,aj]at a;obtain⟨I,i⟩:=Pz q e t a.2;refine⟨by rw[List.all_cons,YZ h a.1,I];rfl,?_⟩
  unfold Xq Yx at i ⊢;rw[any_cons,any_cons,i,Vj h q a.1 e]
def Jk (neg:Bool):W->W->Hx->R W:=λ x y A=>match zR y A with
 |some ws=>if yB x&&ws.all yB then .ok (.bl (if neg then !Yx x ws else Yx x ws)) A else .bad|none=>.bad
abbrev Xi:=Jk false
theorem As {n:Bool}:∀x y A,qU (Jk n x y A):=λ x y A=>by
 unfold Jk
 split
 ·exact Z1 yb je
 ·exact je
theorem BN {n:Bool}:yD K (NX K n) (Jk n):=λ φ A H x y u v Q S q b p=>by
 unfold Jk at p;cases es:zR v A with
 |none=>rw[es]at p;exact p.elim|some ws=>
  rw[es]at p;dsimp only at p
  by_cases hf:(yB u&&ws.all yB)=true
  ·rw[ag hf]at p
   rw[aj]at hf;obtain⟨a,ys,rfl,z,r⟩:=Wq S b es;obtain⟨I,i⟩:=Pz q hf.1 r hf.2;exact⟨a,ys,rfl,z,YZ q hf.1,I,by rw[i];exact p φ H _ .refl S rfl⟩
  ·rw[ak hf]at p;exact p.elim
structure U3 (X:Cx)(op:CmpOp)(g:W->W->Hx->R W):Prop where
 ex:∃r:R2,ja X (compareOp op) r/\(∀x y A,qU (g x y A))/\yD X.K r g
theorem NV:U3 X .In Xi:=⟨_,FE,As,BN⟩
end
noncomputable def jH (f:W->Option PyData):List W->Option (List PyData)
 |[]=>some []|w::ws=>match f w,jH f ws with
  |some d,some ds=>some (d::ds)|_,_=>none
def qh (A:Hx):Nat->W->Option PyData
 |_,.non=>some .none|_,.bl b=>some (.bool b)|_,.int i=>some (.int i)|_,.str x=>if PyData.strOk x then some (.str x) else none|_,.clo _ _ _=>none|_,.xc _=>none|0,.tup _=>none|0,.ref _=>none|n+1,.tup ws=>(jH (qh A n) ws).map .tuple|n+1,.ref k=>match zR (.ref k) A with
  |some ws=>(jH (qh A n) ws).map .list|none=>none
theorem El {K:Frag}{A:Hx}{us:List W}(S:zM K φ A H)(q:RV K φ H (.ref n) v)(e:zR (.ref n) A=some us):∃a ys,v=.ref a/\ji K H a ys/\zG K φ H us ys:=by
 obtain⟨a,rfl,d⟩:=q;unfold zR at e;dsimp only at e;cases E:A[n]? with
 |none=>rw[E]at e;cases e|some o=>
  rw[E]at e;obtain⟨f,c,r⟩:=S.ob n o E;rw[d]at c;cases c;cases o with
  |lst xs=>cases e;obtain⟨ys,b,h⟩:=r;exact⟨a,ys,rfl,ji.of b,h⟩|ro xs=>cases e;obtain⟨ys,b,h⟩:=r;exact⟨a,ys,rfl,b.sq,h⟩|dct xs=>cases e|tab _ _=>cases e
section
variable {a:Expr}
theorem Vq {K:Frag}{f:W->Option PyData}(hf:∀w v u d,RV K φ H w v->RelV v u->f w=some d->∃as,Reads h u d as):
  ∀{ws:List W}{vs:List V}{us:List Value}{ds:List PyData},zG K φ H ws vs->Vals vs us->jH f ws=some ds->∃as,ReadsAll h us ds as
 |[],_,_,_,r,a,e=>by cases r;cases a;cases e;exact⟨[],.nil⟩|w::ws,_,_,ds,⟨v,r,l,q,t⟩,a,e=>by
  subst l;cases a with
  |cons g c=>
   unfold jH at e;cases E:f w with
   |none=>rw[E]at e;cases e|some d=>
    cases b:jH f ws with
    |none=>rw[E,b]at e;cases e|some D=>
     rw[E,b]at e;cases e;obtain⟨as,j⟩:=hf w v _ d q g E;obtain⟨bs,i⟩:=Vq hf t c b;exact⟨_,.cons j i⟩
theorem JQ {A:Hx}(I:Inv X pins σ H s)(S:zM X.K φ A H):∀(n:Nat)(w:W)(v:V)(u:Value)(d:PyData),RV X.K φ H w v->RelV v u->qh A n w=some d->∃as,Reads s.heap u d as:=by
 intro n
 induction n with
 |zero=>
  intro w v u d q r e;cases w with
  |non=>obtain rfl:=q;cases r;cases e;exact⟨_,.none⟩|bl k=>obtain rfl:=q;cases r;cases e;exact⟨_,.bool k⟩|int k=>obtain rfl:=q;obtain⟨t,rfl⟩:=r;cases e;exact⟨_,.int k t⟩|str k=>
   obtain rfl:=q;obtain⟨t,rfl⟩:=r;unfold qh at e
   split at e
   ·cases e;exact⟨_,.str k t⟩
   ·cases e
  |tup _=>cases e|ref _=>cases e|clo _ _ _=>unfold qh at e;cases e|xc _=>unfold qh at e;cases e
 |succ n x=>
  intro w v u d q r e;cases w with
  |non=>obtain rfl:=q;cases r;cases e;exact⟨_,.none⟩|bl k=>obtain rfl:=q;cases r;cases e;exact⟨_,.bool k⟩|clo _ _ _=>unfold qh at e;cases e|xc _=>unfold qh at e;cases e|int k=>obtain rfl:=q;obtain⟨t,rfl⟩:=r;cases e;exact⟨_,.int k t⟩|str k=>
   obtain rfl:=q;obtain⟨t,rfl⟩:=r;unfold qh at e
   split at e
   ·cases e;exact⟨_,.str k t⟩
   ·cases e
  |tup ws=>
   obtain⟨a,vs,rfl,h,c⟩:=q;cases r;unfold qh at e;cases E:jH (qh A n) ws with
   |none=>rw[E]at e;cases e|some ds=>
    rw[E]at e;cases e;obtain⟨i,b,⟨o,l,j,k,g⟩,_⟩:=I.tuple h;obtain⟨as,f⟩:=Vq x c b E;exact⟨_,.tuple l j g (by simpa using f)⟩
  |ref k=>
   unfold qh at e;cases E:zR (.ref k) A with
   |none=>rw[E]at e;cases e|some ws=>
    rw[E]at e;dsimp only at e;obtain⟨a,ys,rfl,h,c⟩:=El S q E;cases r;cases p:jH (qh A n) ws with
    |none=>rw[p]at e;cases e|some ds=>
     rw[p]at e;cases e;obtain⟨i,b,⟨o,y,l,j,_,g⟩,_⟩:=I.list h;obtain⟨as,f⟩:=Vq x c b p;exact⟨_,.list l j g (by simpa using f)⟩
theorem Y0 {A:Hx}:∀(n:Nat)(w:W)(d:PyData),qh A n w=some d->d.canLay0=true/\d.depth<=n:=by
 intro n;have lst:∀{n:Nat},(∀(w:W)(d:PyData),qh A n w=some d->d.canLay0=true/\d.depth<=n)->∀(ws:List W)(ds:List PyData),jH (qh A n) ws=some ds->PyData.canLayAll0 ds=true/\PyData.depthAll ds<=n:=by
  intro n i ws
  induction ws with
  |nil=>intro ds e;cases e;exact⟨by simp[PyData.canLayAll0],by simp[PyData.depthAll]⟩|cons w ws I=>
   intro ds e;unfold jH at e;cases E:qh A n w with
   |none=>rw[E]at e;cases e|some d=>
    cases b:jH (qh A n) ws with
    |none=>rw[E,b]at e;cases e|some D=>
     rw[E,b]at e;cases e;obtain⟨h,c⟩:=i w d E;obtain⟨f,g⟩:=I D b;refine⟨by simp[PyData.canLayAll0,h,f],?_⟩
     simp only[PyData.depthAll];omega
 induction n with
 |zero=>
  intro w d e;cases w with
  |tup _=>cases e|ref _=>cases e|clo _ _ _=>unfold qh at e;cases e|xc _=>unfold qh at e;cases e|str x=>
   unfold qh at e
   split at e
   ·rename_i H;cases e;exact⟨by simp[PyData.canLay0,H],by simp[PyData.depth]⟩
   ·cases e
  |_=>cases e;exact⟨by simp[PyData.canLay0],by simp[PyData.depth]⟩
 |succ n i=>
  intro w d e;cases w with
  |clo _ _ _=>unfold qh at e;cases e|xc _=>unfold qh at e;cases e|tup ws=>
   unfold qh at e;cases a:jH (qh A n) ws with
   |none=>rw[a]at e;cases e|some ds=>
    rw[a]at e;cases e;obtain⟨h,c⟩:=lst i ws ds a;refine⟨by simp[PyData.canLay0,h],?_⟩
    simp only[PyData.depth];omega
  |ref k=>
   unfold qh at e;cases a:zR (.ref k) A with
   |none=>rw[a]at e;cases e|some ws=>
    rw[a]at e;dsimp only at e;cases E:jH (qh A n) ws with
    |none=>rw[E]at e;cases e|some ds=>
     rw[E]at e;cases e;obtain⟨h,c⟩:=lst i ws ds E;refine⟨by simp[PyData.canLay0,h],?_⟩
     simp only[PyData.depth];omega
  |str x=>
   unfold qh at e
   split at e
   ·rename_i H;cases e;exact⟨by simp[PyData.canLay0,H],by simp[PyData.depth]⟩
   ·cases e
  |_=>cases e;exact⟨by simp[PyData.canLay0],by simp[PyData.depth]⟩
def gM (neg:Bool):W->W->Hx->R W:=λ x y A=>match qh A 8 x,qh A 8 y with
 |some d,some d'=>.ok (.bl (if neg then !PyData.eqv d d' else PyData.eqv d d')) A|_,_=>.bad
abbrev jn:=gM false
abbrev q9:=gM true
theorem O6 {n:Bool}:∀x y A,qU (gM n x y A):=λ x y A=>by
 unfold gM
 split
 ·exact yb
 ·exact je
def UZ (K:Frag)(neg:Bool):R2:=λ x y H Q=>∃φ A u v d d',zM K φ A H/\RV K φ H u x/\RV K φ H v y/\qh A 8 u=some d/\qh A 8 v=some d'/\Q (.bl (if neg then !PyData.eqv d d' else PyData.eqv d d')) H
theorem W5 {A:Hx}{w:W}{d:PyData}(h:qh A 8 w=some d):SeqAt.shaped d=true:=by
 obtain⟨H,a⟩:=Y0 8 w d h;unfold SeqAt.shaped;rw[H,Bool.true_and,ao];omega
theorem AO (g:X.A.units+64<cLine):ja X (compareOp .Eq) (UZ X.K false):=by
 intro pins s σ H x y v u Q I b r h;obtain⟨φ,A,a,w,d,d',S,f,c,E,e,q⟩:=h;obtain⟨as,j⟩:=JQ I S 8 a x v d f b E;obtain⟨bs,i⟩:=JQ I S 8 w y u d' c r e;exact eq_dataH j i (W5 E) (W5 e) g ⟨.bl _,H,I,rfl,q⟩
theorem zai (g:X.A.units+64<cLine):ja X (compareOp .NotEq) (UZ X.K true):=by
 intro pins s σ H x y v u Q I b r h;obtain⟨φ,A,a,w,d,d',S,f,c,E,e,q⟩:=h;obtain⟨as,j⟩:=JQ I S 8 a x v d f b E;obtain⟨bs,i⟩:=JQ I S 8 w y u d' c r e;exact ne_dataH j i (W5 E) (W5 e) g ⟨.bl _,H,I,rfl,q⟩
theorem OS {K:Frag}{n:Bool}:yD K (UZ K n) (gM n):=λ φ A H x y u v Q S a q p=>by
 unfold gM at p;cases e:qh A 8 u with
 |none=>rw[e]at p;exact p.elim|some d=>
  cases E:qh A 8 v with
  |none=>rw[e,E]at p;exact p.elim|some d'=>
   rw[e,E]at p;exact⟨φ,A,u,v,d,d',S,a,q,e,E,p φ H _ .refl S rfl⟩
theorem kG {k:Nat}(h:ju k X.A):gc X .Eq jn:=Yg (AO h.units) O6 OS
theorem kX {k:Nat}(h:ju k X.A):gc X .NotEq q9:=Yg (zai h.units) O6 OS
end
mutual
noncomputable def W.nr:W->Bool
 |.tup ws=>qY ws|.ref _=>false|.clo _ ws _=>qY ws|_=>true
noncomputable def qY:List W->Bool
 |[]=>true|w::ws=>w.nr&&qY ws
end
def iso (f:Fn):Fn:=λ us A=>if qY us then(match f us [] with
 |.ok w A1=>(match w with
  |.ref n=>(match A1[n]? with
   |some (.lst ws)=>if qY ws then .ok (.ref A.length) (A++[.lst ws]) else .bad|some (.dct kvs)=>if qY (kvs.map (·.2)) then .ok (.ref A.length) (A++[.dct kvs]) else .bad|_=>.bad)
  |w=>if w.nr then .ok w A else .bad)
 |_=>.bad) else .bad
def gL (f:Fn):Fn:=λ us A=>match us with
 |.ref n::us=>(match A[n]? with
  |some (.lst ws)=>if qY ws&&qY us then(match f (.ref 0::us) [.lst ws] with
   |.ok w A1=>(match (List.head? A1:Option O) with
    |some (.lst a)=>if qY a&&w.nr then .ok w (A.set n (.lst a)) else .bad|_=>.bad)
   |_=>.bad) else .bad
  |_=>.bad)
 |_=>.bad
section
variable {K:Frag}{φ' φ1:List Addr}{H' H1:Hp}{A A1:Hx}
mutual
theorem RV.nrm (tp:∀a vs,qD K H a vs->qD K H' a vs)(fz:∀a o u,H a=some (.frz o u)->H' a=some (.frz o u)):∀{w:W}{v:V},w.nr=true->RV K φ H w v->RV K φ' H' w v
 |.non,_,_,h=>h|.bl _,_,_,h=>h|.int _,_,_,h=>h|.str _,_,_,h=>h|.tup ws,_,n,⟨a,vs,e,t,r⟩=>⟨a,vs,e,tp _ _ t,zG.nrm tp fz n r⟩|.ref _,_,n,_=>nomatch n
 |.clo _ ws P,_,n,⟨a,ob,u,c,g,uc,vs,e,d,b,i,r⟩=>⟨a,ob,u,c,g,uc,vs,e,fz _ _ _ d,fz _ _ _ b,i,zG.nrm tp fz n r⟩|.xc _,_,_,⟨a,f,u,C,e,d,b⟩=>⟨a,f,u,C,e,fz _ _ _ d,b⟩
theorem zG.nrm (tp:∀a vs,qD K H a vs->qD K H' a vs)(fz:∀a o u,H a=some (.frz o u)->H' a=some (.frz o u)):∀{ws:List W}{vs:List V},qY ws=true->zG K φ H ws vs->zG K φ' H' ws vs
 |[],_,_,h=>h|w::ws,_,n,⟨v,r,e,h,t⟩=>by
  have N:(w.nr&&qY ws)=true:=n;rw[aj]at N;exact⟨v,r,e,RV.nrm tp fz N.1 h,zG.nrm tp fz N.2 t⟩
end
theorem zM.none:zM K [] [] H:=⟨rfl,λ i j a o o' _ _ h=>by simp at h,λ n o h=>by simp at h⟩
theorem zM.frame (S:zM K φ A H)(k:∀a o,H a=some o->H1 a=some o)(l:Le K φ H φ H1):zM K φ A H1:=
 ⟨S.len,S.inj,λ n o e=>let ⟨a,h1,q⟩:=S.ob n o e;⟨a,h1,q.keep l λ u h=>k a u h⟩⟩
theorem Le.apart (l:Le K [] H φ1 H1):Le K φ H φ H1/\∀a o,H a=some o->H1 a=some o:=
 have k:∀a o,H a=some o->H1 a=some o:=λ a o h=>l.fr a o h λ n e=>by simp at e
 ⟨⟨λ _ _ h=>h,l.tp,λ a o h _=>k a o h,λ _ _ h=>.inl h,l.st,l.fz⟩,k⟩
theorem zM.trackN {u:HO}{o:O}(S:zM K φ A H)(y:H D=some u)(n:∀(k:Nat)(q:O),φ[k]? =some D->A[k]? =some q->q.mut=false)(new:OR K (φ++[D]) H D o):zM K (φ++[D]) (A++[o]) H:=by
 have l:Zq K φ H (φ++[D]) H:=⟨λ n a h=>by
  have:=(qa2.mp h).1
  rw[ah this];exact h,λ _ _ h=>h,λ _ _ _ h=>h⟩
 have old:∀(i:Nat) a,(φ++[D])[i]? =some a->i<A.length->φ[i]? =some a:=λ i a e d=>by
  rw[ah (by rw[S.len];exact d)]at e;exact e
 have last:∀a,(φ++[D])[A.length]? =some a->a=D:=λ a e=>by
  rw[aq (by rw[S.len];exact aw _),S.len]at e
  simpa using e.symm
 refine⟨by simp[S.len],λ i j a x w v t f b m1 m2=>?_,λ k o' e=>?_⟩
 ·by_cases d:i<A.length
  ·rw[ah d]at f
   by_cases c:j<A.length
   ·rw[ah c]at b
    exact S.inj i j a x w (old i a v d) (old j a t c) f b m1 m2
   ·exfalso
    have p:j=A.length:=by have:=(qa2.mp b).1;simp at this;omega
    subst p;have z:=n i x (by rw[<- last a t];exact old i a v d) f
    rw[m1]at z;cases z
  ·have s:i=A.length:=by have:=(qa2.mp f).1;simp at this;omega
   by_cases c:j<A.length
   ·exfalso
    rw[ah c]at b;subst s;have z:=n j w (by rw[<- last a v];exact old j a t c) b
    rw[m2]at z;cases z
   ·have:=(qa2.mp b).1;simp at this;omega
 ·by_cases hn:k<A.length
  ·rw[ah hn]at e
   obtain⟨a,E,q⟩:=S.ob k o' e;refine⟨a,l.ex _ _ E,?_⟩;cases o' with
   |lst ws=>obtain⟨vs,z,r⟩:=q;exact⟨vs,z,r.monoW l⟩|dct ws=>obtain⟨vs,z,Z,r⟩:=q;exact⟨vs,z,Z,r.monoW l⟩|tab _ _=>exact q|ro ws=>obtain⟨vs,z,r⟩:=q;exact⟨vs,z,r.monoW l⟩
  ·have g:k=A.length:=by have:=(qa2.mp e).1;simp at this;omega
   subst g;rw[aq (aw _)]at e;simp at e;subst e;exact⟨D,by rw[aq (by rw[S.len];exact aw _),S.len];simp,new⟩
theorem zM.adopt {o:O}(S:zM K φ A H)(l:Le K [] H φ1 H1)(d:φ1[n]? =some a)(m:∃u,H1 a=some u)(new:OR K (φ++[a]) H1 a o):
  Le K φ H (φ++[a]) H1/\zM K (φ++[a]) (A++[o]) H1/\RV K (φ++[a]) H1 (.ref A.length) (.ref a):=by
 obtain⟨L,k⟩:=l.apart (φ:=φ);have h0:H a=Option.none:=by
  rcases l.nw n a d with e|e
  ·simp at e
  ·exact e
 obtain⟨u,b⟩:=m;have s:=S.frame k L;refine⟨L.Yj h0,s.trackN b (λ k q g f=>?_) new,a,rfl,by rw[<- S.len];simp⟩
 cases c:q.mut with
 |false=>rfl|true=>
  obtain⟨i,E,r⟩:=S.ob k q f;rw[g]at E;cases E;obtain⟨z,h,_⟩:=r.there c;rw[h0]at h;cases h
theorem OR.nrL {ws:List W}(h:OR K φ H a (.lst ws))(n:qY ws=true):OR K φ' H a (.lst ws):=let ⟨vs,e,r⟩:=h;⟨vs,e,r.nrm (λ _ _ t=>t) (λ _ _ _ t=>t) n⟩
theorem OR.nrD {kvs:List (Key×W)}(h:OR K φ H a (.dct kvs))(n:qY (kvs.map (·.2))=true):OR K φ' H a (.dct kvs):=let ⟨vs,e,E,r⟩:=h;⟨vs,e,E,r.nrm (λ _ _ t=>t) (λ _ _ _ t=>t) n⟩
theorem zL.iso {k:Nat}{f:Fn}(F:zL P w K mg base k x n f):zL P w K mg base k x n (iso f):=by
 obtain⟨C,fd,ps,F,a,b,c⟩:=F;refine⟨C,fd,ps,F.imp λ vs H Q E ⟨z,φ,A,ws,S,r,q⟩=>?_,a,b,c⟩;unfold Mi.iso at q
 by_cases hn:qY ws=true
 ·rw[ag hn]at q
  refine⟨z,[],[],ws,zM.none,r.nrm (λ _ _ t=>t) (λ _ _ _ t=>t) hn,?_⟩;cases hf:f ws [] with
  |ok w A1=>
   rw[hf]at q;dsimp only at q;intro u H1 v L D g;cases w with
   |ref m=>
    dsimp only at q;cases hm:A1[m]? with
    |none=>rw[hm]at q;exact q.elim|some o=>
     rw[hm]at q;obtain⟨I,j,d⟩:=D.ob m o hm;obtain⟨a2,rfl,e⟩:=g;rw[j]at e;cases e;cases o with
     |lst us=>
      dsimp only at q
      by_cases h:qY us=true
      ·rw[ag h]at q
       obtain⟨t,i,_⟩:=d.there rfl;obtain⟨s,p,B⟩:=S.adopt L j ⟨t,i⟩ (o:=.lst us) (d.nrL h);exact q _ _ _ s p B
      ·rw[ak h]at q;exact q.elim
     |dct us=>
      dsimp only at q
      by_cases h:qY (us.map (·.2))=true
      ·rw[ag h]at q
       obtain⟨t,i,_⟩:=d.there rfl;obtain⟨s,p,B⟩:=S.adopt L j ⟨t,i⟩ (o:=.dct us) (d.nrD h);exact q _ _ _ s p B
      ·rw[ak h]at q;exact q.elim
     |ro us=>exact q.elim|tab _ _=>exact q.elim
   |_=>
    all_goals
     dsimp only at q;obtain⟨l,kk⟩:=L.apart (φ:=φ)
     first
      |exact q φ H1 v l (S.frame kk l) g
      |(
        split at q
        ·rename_i hw
         exact q φ H1 v l (S.frame kk l) (RV.nrm (λ _ _ t=>t) (λ _ _ _ t=>t) hw g)
        ·exact q.elim)
  |exc y A1=>rw[hf]at q;exact q.elim|bad=>rw[hf]at q;exact q.elim
 ·rw[ak hn]at q;exact q.elim
theorem zL.gL {k:Nat}{f:Fn}(F:zL P w K mg base k x n f):zL P w K mg base k x n (gL f):=by
 obtain⟨fa,fd,ps,F,a,b,c⟩:=F;refine⟨fa,fd,ps,F.imp λ vs H Q E ⟨hl,φ,A,ws,S,r,q⟩=>?_,a,b,c⟩;unfold Mi.gL at q;cases ws with
 |nil=>exact q.elim|cons Y us=>cases Y with
  |ref n=>
   dsimp only at q;cases g:A[n]? with
   |none=>rw[g]at q;exact q.elim|some o=>cases o with
    |lst xs=>
     rw[g]at q;dsimp only at q
     by_cases hn:(qY xs&&qY us)=true
     ·rw[ag hn]at q
      rw[aj]at hn;obtain⟨v0,vr,rfl,q0,Z⟩:=r;obtain⟨p,ys,rfl,f1,g1,d⟩:=S.lst q0 g;have S0:zM K [p] [.lst xs] H:=by
       refine⟨rfl,λ i j a o o' D C T N _ _=>?_,λ m o e=>?_⟩
       ·have:=(qa2.mp D).1
        have:=(qa2.mp C).1
        simp at*;omega
       ·have:m=0:=by have:=(qa2.mp e).1;simp at this;omega
        subst this;simp at e;subst e;exact⟨p,rfl,ys,g1,d.nrm (λ _ _ t=>t) (λ _ _ _ t=>t) hn.1⟩
      refine⟨hl,[p],[.lst xs],.ref 0::us,S0,.cons ⟨p,rfl,rfl⟩ (Z.nrm (λ _ _ t=>t) (λ _ _ _ t=>t) hn.2),?_⟩;cases hf:f (.ref 0::us) [.lst xs] with
      |ok w A1=>
       rw[hf]at q;dsimp only at q;intro s H1 v L S1 q1;cases h0:List.head? A1 with
       |none=>rw[h0]at q;exact q.elim|some o=>cases o with
        |lst zs=>
         rw[h0]at q;dsimp only at q
         by_cases hw:(qY zs&&w.nr)=true
         ·rw[ag hw]at q
          rw[aj]at hw;have apart:∀a o,a≠p->H a=some o->H1 a=some o:=λ a o ne h=>L.fr a o h λ m e=>by
           have:m=0:=by have:=(qa2.mp e).1;simp at this;omega
           subst this;simp at e;exact ne e.symm
          have lf:Le K φ H φ H1:=⟨λ _ _ h=>h,L.tp,λ a o h nn=>apart a o (λ e=>nn n (by rw[e];exact f1)) h,λ _ _ h=>.inl h,L.st,L.fz⟩
          have hp:s[0]? =some p:=L.ex 0 p rfl;obtain⟨p',l,u,I,B⟩:=S1.ob 0 _ (by rw[<- List.head?_eq_getElem?];exact h0)
          rw[hp]at l;cases l;refine q φ H1 v lf ?_ (RV.nrm (λ _ _ t=>t) (λ _ _ _ t=>t) hw.2 q1);have mt:∀(i:Nat)(w:O),(A.set n (.lst zs))[i]? =some w->w.mut=true->∃J,A[i]? =some J/\J.mut=true:=λ i w e mw=>by
           by_cases hi:i=n
           ·subst hi;exact⟨_,g,rfl⟩
           ·rw[aH (Ne.symm hi)]at e;exact⟨w,e,mw⟩
          refine⟨by simp[S.len],λ i j a o1 o2 D C T N m1 m2=>?_,λ i w e=>?_⟩
          ·obtain⟨X,l,k1⟩:=mt i o1 T m1
           obtain⟨U,I,k2⟩:=mt j o2 N m2;exact S.inj i j a X U D C l I k1 k2
          ·by_cases hi:i=n
           ·subst hi
            have:i<A.length:=(qa2.mp g).1
            rw[aG this]at e;cases e;exact⟨p,f1,u,I,B.nrm (λ _ _ t=>t) (λ _ _ _ t=>t) hw.1⟩
           ·rw[aH (Ne.symm hi)]at e
            obtain⟨a,l,M⟩:=S.ob i w e;refine⟨a,l,?_⟩
            by_cases hm:w.mut=true
            ·have ne:a≠p:=λ z=>hi (S.inj i n a w _ l (by rw[z];exact f1) e g hm rfl)
             exact M.keep lf λ z hz=>apart a z ne hz
            ·cases w with
             |lst _=>exact absurd rfl hm|dct _=>exact absurd rfl hm|tab _ _=>exact absurd rfl hm|ro ws=>
              obtain⟨vs,d,B⟩:=M;refine⟨vs,?_,B.mono lf⟩;rcases d with ⟨ob,d⟩|d
              ·refine .inl ⟨ob,apart a _ ?_ d⟩
               intro z;subst z;rw[g1]at d;cases d
              ·exact .inr d
         ·rw[ak hw]at q;exact q.elim
        |_=>rw[h0]at q;exact q.elim
      |exc y A1=>rw[hf]at q;exact q.elim|bad=>rw[hf]at q;exact q.elim
     ·rw[ak hn]at q;exact q.elim
    |_=>rw[g]at q;exact q.elim
  |_=>exact q.elim
end
section
variable {K:Frag}{a b:Expr}{es:List Expr}{m:Ev}{st:Stmt}
noncomputable def intsOf:List W->Option (List Int)
 |[]=>some []|w::ws=>match w with
  |.int i=>match intsOf ws with
   |some is=>some (i::is)|none=>none
  |_=>none
theorem Vn:∀{ws:List W}{ns:List Int},intsOf ws=some ns->ws=ns.map W.int
 |[],_,e=>by cases e;rfl|w::ws,ns,e=>by
  unfold intsOf at e;cases w with
  |int i=>
   dsimp only at e;cases E:intsOf ws with
   |none=>rw[E]at e;cases e|some is=>rw[E]at e;cases e;rw[Vn E];rfl
  |_=>cases e
noncomputable def yu:List Int->Int->Int
 |[],m=>m|i::is,m=>yu is (if i > m then i else m)
noncomputable def yY:List Int->Int->Int
 |[],m=>m|i::is,m=>yY is (m+i)
theorem preSum_eq (ns:List Int):∀k,preSum (λ i=>ns.getD i 0) k+yY (ns.drop k) 0=yY ns 0∨ns.length<k:=by
 have add:∀(l:List Int)(m:Int),yY l m=m+yY l 0:=λ l=>by
  induction l with
  |nil=>intro m;show m=m+0;omega|cons i is I=>intro m;show yY is (m+i)=m+yY is (0+i);rw[I (m+i),I (0+i)];omega
 intro k
 induction k with
 |zero=>left;show(0:Int)+yY ns 0=_;omega|succ k I=>
  rcases I with I|I
  ·by_cases h:k<ns.length
   ·left
    have e:ns.drop k=ns[k]::ns.drop (k+1):=List.drop_eq_getElem_cons h;rw[e]at I;have a:yY (ns[k]::ns.drop (k+1)) 0=ns[k]+yY (ns.drop (k+1)) 0:=by show yY (ns.drop (k+1)) (0+ns[k])=_;rw[add];omega
    rw[a]at I;show preSum _ k+ns.getD k 0+_=_;have E:ns.getD k 0=ns[k]:=by rw[aa,ae h];rfl
    rw[E];omega
   ·right;omega
  ·right;omega
theorem IU (ns:List Int):preSum (λ i=>ns.getD i 0) ns.length=yY ns 0:=by
 rcases preSum_eq ns ns.length with h|h
 ·rw[drop_length]at h
  have:yY [] 0=0:=rfl
  omega
 ·omega
theorem HJ (ns:List Int):∀(k:Nat)(a:k<ns.length),yu (ns.drop (k+1)) (ns.getD (argBest (λ i j=>decide (ns.getD i 0 > ns.getD j 0)) k) 0)=yu ns.tail (ns.getD 0 0):=by
 intro k
 induction k with
 |zero=>intro _;rw[show argBest _ 0=0 from rfl,List.drop_one]|succ k I=>
  intro a;have H:k<ns.length:=by omega
  rw[<- I H];have e:ns.drop (k+1)=ns[k+1]::ns.drop (k+1+1):=List.drop_eq_getElem_cons a;rw[e];have E:ns.getD (k+1) 0=ns[k+1]:=by rw[aa,ae a];rfl
  show yu _ (ns.getD (if decide (ns.getD (k+1) 0 > ns.getD (argBest _ k) 0)=true then k+1 else argBest _ k) 0)=yu _ (if ns[k+1] > ns.getD (argBest _ k) 0 then ns[k+1] else ns.getD (argBest _ k) 0);rw[E]
  by_cases h:ns[k+1] > ns.getD (argBest (λ i j=>decide (ns.getD i 0 > ns.getD j 0)) k) 0
  ·rw[ag (by rw[ao];exact h),ag h,E]
  ·rw[ak (by rw[ao];exact h),ak h]
noncomputable def GK (K:Frag)(C:List Int->Prop)(f:List Int->Int):List V->Hp->VK->Prop:=λ xs H Q=>∃a ns,xs=[.ref a]/\(ji K H a (ns.map V.int)∨qD K H a (ns.map V.int))/\C ns/\Q (.int (f ns)) H
theorem WX (r:Vals (ns.map V.int) its){v:Value}(h:its[i]? =some v):∃t,v=.int (ns.getD i 0) t:=by
 have c:i<its.length:=(qa2.mp h).1;have H:i<ns.length:=by have:=r.length;rw[ai]at this;omega
 obtain⟨u,a,b⟩:=r.get (i:=i) (x:=V.int ns[i]) (by simp[H])
 rw[h]at a;cases a;obtain⟨t,rfl⟩:=b;exact⟨t,by rw[aa,ae H];rfl⟩
theorem Fd (f:X.calm=true):ye X (.builtin "sum") (GK X.K (λ _=>True) λ ns=>yY ns 0):=by
 intro pins s σ H xs us Q I r h;obtain⟨a,ns,rfl,z,_,q⟩:=h;obtain⟨u,rfl,d⟩:=vals1 r;cases d;refine call_sum_walkG (VC I f z λ b g fp wr S s2 c j W st p back=>?_);refine⟨g,fp,wr,_,_,S,λ i=>ns.getD i 0,rfl,W,st,p,λ i v h=>WX c h,λ h' tk t' k=>?_⟩;have e:b.length=ns.length:=by have:=c.length;rw[ai]at this;omega
 rw[e,IU];exact⟨.int _,H,back h' tk k,⟨_,rfl⟩,q⟩
theorem HK (n:X.calm=true):ye X (.builtin "max") (GK X.K (λ ns=>ns≠[]) λ ns=>yu ns.tail (ns.getD 0 0)):=by
 intro pins s σ H xs us Q I r h;obtain⟨a,ns,rfl,z,f,q⟩:=h;obtain⟨u,rfl,g⟩:=vals1 r;cases g;have M:0<ns.length:=List.length_pos_iff.mpr f;refine call_max_walk (VC I n z λ d C fp wr S s2 c L W st p back=>?_);have e:d.length=ns.length:=by have:=c.length;rw[ai]at this;omega
 refine⟨C,fp,wr,_,_,S,λ i j=>decide (ns.getD i 0 > ns.getD j 0),rfl,W,st,p,by omega,?_,λ v h' tk l k=>?_⟩
 ·intro i j J D s' Q' E y x o
  obtain⟨t1,rfl⟩:=WX c y;obtain⟨T,rfl⟩:=WX c x;exact(PyProof.Rows.gt_int o:wpAny (model X.prog X.w) X.A.in1 (compareOp .Gt (.int (ns.getD i 0) t1) (.int (ns.getD j 0) T)) Q' E s')
 ·obtain⟨t,rfl⟩:=WX c l
  rw[e];have b:=HJ ns (ns.length - 1) (by omega)
  rw[show ns.length - 1+1=ns.length by omega,drop_length]at b
  have B:ns.getD (argBest (λ i j=>decide (ns.getD i 0 > ns.getD j 0)) (ns.length - 1)) 0=yu ns.tail (ns.getD 0 0):=b;rw[B];exact⟨.int _,H,back h' tk k,⟨_,rfl⟩,q⟩
def yC:List W->Hx->R W:=λ ws A=>match intsOf ws with
 |some (i::is)=>.ok (.int (yu is i)) A|_=>.bad
def gu:List W->Hx->R W:=λ ws A=>match intsOf ws with
 |some is=>.ok (.int (yY is 0)) A|none=>.bad
theorem zam:∀ws A,qU (yC ws A):=λ ws A=>by
 unfold yC;split
 ·exact yb
 ·exact je
theorem zaB:∀ws A,qU (gu ws A):=λ ws A=>by
 unfold gu;split
 ·exact yb
 ·exact je
theorem Pn {ws:List W}{a:Addr}(z:ji K H a ys∨qD K H a ys)(r:zG K φ H ws ys)(e:intsOf ws=some ns):ji K H a (ns.map V.int)∨qD K H a (ns.map V.int):=by
 rw[Vn e]at r;rw[<- zG.ints.mp r];exact z
theorem DR:QM K (GK K (λ ns=>ns≠[]) λ ns=>yu ns.tail (ns.getD 0 0)) yC:=λ φ A H a ys ws Q S z r p=>by
 unfold yC at p;cases e:intsOf ws with
 |none=>rw[e]at p;exact p.elim|some ns=>cases ns with
  |nil=>rw[e]at p;exact p.elim|cons i is=>rw[e]at p;exact⟨a,i::is,rfl,Pn z r e,(by intro z;cases z),p φ H _ .refl S rfl⟩
theorem Cf:QM K (GK K (λ _=>True) λ ns=>yY ns 0) gu:=λ φ A H a ys ws Q S z r p=>by
 unfold gu at p;cases e:intsOf ws with
 |none=>rw[e]at p;exact p.elim|some ns=>rw[e]at p;exact⟨a,ns,rfl,Pn z r e,trivial,p φ H _ .refl S rfl⟩
def NR (y:W):List W->Nat->Nat
 |[],n=>n|w::ws,n=>NR y ws (if Qf w y then n+1 else n)
def zcF:W->W->Hx->R W:=λ x y A=>match x with
 |.tup ws=>if yB y&&ws.all yB then .ok (.int (NR y ws 0)) A else .bad|_=>.bad
noncomputable def Yc (g:W->W->Hx->R W)(a b:Ev):Ev:=λ ρ A=>(a ρ A).bind λ x A1=>match x with
 |.tup ws=>(b ρ A1).bind λ y A2=>g (.tup ws) y A2|_=>.bad
noncomputable def tBT (K:Frag)(r:V->List V->Hp->VK->Prop)(to:TE)(t:TA):TE:=λ σ H Q=>to σ H λ x H1=>∃p ys,x=.ref p/\qD K H1 p ys/\t σ H1 λ xs h=>r x xs h Q
theorem zbi {o:Expr}{to:TE}{t:TA}{name:Str}{id:String}{r:V->List V->Hp->VK->Prop}(slot:Slot "tuple" name id)(y:typeOf (.builtin id)=pure (.type "method_descriptor"))(hm:K0 X id r)(u:PE X o to)(z:PA X (e::es) t)
  (c:attributeBase o name X.env (eval o X.env)=eval o X.env)
  (w:((backTo cpos (starEach (e::es) X.env)).all (λ x=>!x.1)&&(backToKw cpos (keywordEach [] X.env)).all (λ x=>x.1.isSome)
   && decide ((e::es).length+([]:List Keyword).length+(if ([]:List Keyword).isEmpty then 0 else 1)<30))=true)
  (b:(apos.endLine==cpos.line)=true)(l:starEach (e::es) X.env=(false,eval e X.env)::starEach es X.env)(n:(backTo cpos (starEach es X.env)).any (·.1)=false):
  PE X (.Call (.Attribute o name apos) (e::es) [] cpos) (tBT X.K r to t):=by
 intro pins s σ H Q I h;refine wpAny_Call_method_late c w b rfl (zV (u pins s σ H _ I h) λ v s1 ⟨x,H1,i,f,p,ys,E,ty,g⟩=>?_);subst E;cases f;obtain⟨j,_,pp,_⟩:=i.tuple ty;refine⟨"tuple",id,PySem.F.plainAttrs_tuple,slot,y,pp.typeIs,λ a B=>by cases B;exact i.tupleN ty,?_⟩
 have A:=z cpos pins s1 σ H1 _ i g;rw[l]at A ⊢;refine Calls.callWith_builtin (by show(false || (backTo cpos (starEach es X.env)).any (·.1))=false;rw[n];rfl) (Calls.evalArgs_plain ?_)
 exact zV A λ us s2 ⟨vs,D,C,d,q⟩=>hm pins s2 σ D (.ref p) vs (.ref p) us Q C rfl d q
theorem Rj {x:W}(q:RV K φ H x v)(e:yB x=true):∀{xs:List W}{vs:List V},zG K φ H xs vs->xs.all yB=true->vs.all kZ=true/\(vs.countP λ z=>wD z v)=xs.countP λ z=>Qf z x
 |[],_,r,_=>by cases r;exact⟨rfl,rfl⟩|w::ws,_,⟨y,r,E,h,t⟩,a=>by
  subst E;rw[List.all_cons,aj]at a;obtain⟨I,i⟩:=Rj q e t a.2;refine⟨by rw[List.all_cons,YZ h a.1,I];rfl,?_⟩
  rw[List.countP_cons,List.countP_cons,i,Vj h q a.1 e]
noncomputable def Itc (lo d:Int)(n:Nat):It:=⟨λ i _=>i<n,λ i H x h=>h=H/\x=.int (lo+i * d),λ i _=>n<=i⟩
def zcG (t:TA):TI:=λ σ H R=>t σ H λ vs H1=>∃i j:Int,vs=[.int i,.int j,.int (-1)]/\(-(2 ^ 62)<=i/\i<2 ^ 62/\-(2 ^ 62)<=j/\j<2 ^ 62)/\R (Itc i (-1) (i - j).toNat) H1
noncomputable def zb8 (h:Int)(n:Nat):jF:=⟨λ _ i=>if i<n then some (some (.int (h - i))) else some none,n⟩
def zcH (m M:Ev):Ei:=λ ρ A=>(m ρ A).bind λ w A1=>(M ρ A1).bind λ a A2=>match w,a with
 |.int i,.int j=>if j0 i&&j0 j then .ok (zb8 i (i - j).toNat) A2 else .bad|_,_=>.bad
def zaO (t:TA):TE:=λ σ H Q=>t σ H λ vs H1=>∃j:Int,vs=[.int j]/\∀p,H1 p=none->Q (.ref p) (upd H1 p (.rng 0 j))
theorem Bh {T:TA}(g:Gl X "range")(hm:X.mg "range" = none)(e:PA X [a] T)(d:starEach [a] X.env=[(false,eval a X.env)]):PE X (.Call (.Name "range" p) [a] [] pos) (zaO T):=by
 intro pins s σ H Q I h;refine Call_ (Qy I g hm boot_range (PyProof.Rows.callWith_type1 (zV (e pos pins s σ H _ I h) λ us s1 ⟨vs,H1,i,r,c⟩=>?_) d rfl));obtain⟨j,rfl,q⟩:=c;obtain⟨u,rfl,⟨t,rfl⟩⟩:=r.one;refine call_range_1 ⟨.ref _,_,i.laid (o:=.rng 0 j) (λ b o E=>af _ E) (aw _) ?_,rfl,q _ (i.hok.fresh (aw _))⟩;exact⟨_,_,_,au _ rfl⟩
noncomputable def Jp (n:Nat):List V:=(List.range n).map λ (i:Nat)=>V.int i
theorem Hi (A:X.calm=true):ye X (.type "list") (λ xs H Q=>∃(r:Addr) (j:Int),xs=[.ref r]/\H r=some (.rng 0 j)/\(-(2 ^ 62)<=j/\j<2 ^ 62)/\j.toNat<=sizeLine/\∀l,H l=none->Q (.ref l) (upd H l (.lst (Jp j.toNat)))):=by
 intro pins s σ H xs us Q I r h;obtain⟨p,j,rfl,x,⟨D,B⟩,z,q⟩:=h;obtain⟨u,rfl,g⟩:=vals1 r;cases g;obtain⟨t1,T,t3,y⟩:=I.hok p _ x;have E:sizeLine=16777216:=sizeLine_eq;refine PySem.call_list_range (n:=j.toNat) (I.ok.hd A) (show IsRange s.heap p 0 j 1 t1 T t3 from y) (small_one (by omega) (by omega) D B) (by rw[rangeSize_one];split<;>omega) (by omega) λ h' tk acc C kk S ⟨hn,d⟩=>?_
 refine⟨.ref s.heap.objs.size,_,I.laid (t':=tk) (o:=.lst (Jp j.toNat)) kk (aw _) ?_,rfl,q _ (I.hok.fresh (aw _))⟩;refine⟨by unfold Jp;simpa using z,acc.toList,C,?_,by simpa using S⟩
 have a:∀(l:List Value)(k:Nat),(∀(i:Nat) v,l[i]? =some v->∃t,v=.int ((k+i:Nat):Int) t)->Vals ((List.range' k l.length).map λ (i:Nat)=>V.int i) l:=by
  intro l
  induction l with
  |nil=>intro k _;exact .nil|cons v l w=>
   intro k e;rw[bb,bH,aV];refine .cons ?_ (w (k+1) λ i f a=>?_)
   ·obtain⟨t,rfl⟩:=e 0 v rfl
    exact⟨t,rfl⟩
   ·obtain⟨t,rfl⟩:=e (i+1) f (by simpa using a)
    exact⟨t,by congr 1;omega⟩
 have b:acc.toList.length=j.toNat:=by simpa using hn
 have:=a acc.toList 0 λ i v c=>by
  obtain⟨t,rfl⟩:=d i v (by simpa using c)
  exact⟨t,by congr 1;omega⟩
 rw[b]at this;unfold Jp;rw[range_eq_range'];exact this
def Y7 (m:Ev):Ev:=λ ρ A=>(m ρ A).bind λ w A1=>match w with
 |.int j=>if j0 j&&decide (j.toNat<=zX) then .ok (.ref A1.length) (A1++[.lst ((List.range j.toNat).map λ (i:Nat)=>W.int i)]) else .bad|_=>.bad
noncomputable def zcI (i:Nat)(m:Ev):Ex:=λ ρ A=>match ρ[i]? with
 |some (some (.int x))=>(m ρ A).bind λ w A1=>match w with
  |.int y=>.ok (.nx (ρ.set i (some (.int (x+y))))) A1|_=>.bad
 |_=>.bad
noncomputable def zbT:V->V->Hp->VK->Prop:=λ o i H Q=>∃p xs k v,o=.ref p/\i=.int k/\0<=k/\H p=some (.lst xs)/\xs[k.toNat]? =some v/\Q v H
theorem Dt:NT X zbT:=by
 intro pins s σ H o i g j Q I ro d h;obtain⟨p,xs,k,v,rfl,rfl,h0,f,e,q⟩:=h;cases ro;obtain⟨t,rfl⟩:=d;obtain⟨a,r,P,z⟩:=I.list (ji.of f);obtain⟨u,b,c⟩:=r.get e;have hn:=Ya;have l:=r.length;have n:k.toNat<a.length:=(qa2.mp b).1;exact wpAny_getItem_list P.isList h0 (by omega) (by simpa using b) ⟨v,H,I,c,q⟩
def Ks (mo mi me:Ev):Ex:=λ ρ A=>(mo ρ A).bind λ o A1=>(mi ρ A1).bind λ i A2=>match o,i with
 |.ref n,.int k=>if 0<=k then(match (A2[n]?:Option O) with
  |some (.lst ws)=>match ws[k.toNat]? with
   |some (.int x)=>(me ρ A2).bind λ y b=>match y with
    |.int y=>(gn (.ref n) (.int k) (.int (x+y)) b).bind λ _ a=>.ok (.nx ρ) a|_=>.bad
   |_=>.bad
  |_=>.bad) else .bad
 |_,_=>.bad
noncomputable def Gr (i j k:Nat):Tg:=λ w ρ=>match w with
 |.tup [x,.tup [y,z]]=>some (((ρ.set i (some x)).set j (some y)).set k (some z))|_=>none
end
def jG (k:Bool)(h:Heap)(it a:Addr)(i:Nat):Prop:=if k=true then h.IsListIter it a i else h.IsTupleIter it a i
def yg (k:Bool)(h:Heap)(a:Addr)(items:Array Value):Prop:=if k=true then h.IsList a items else h.IsTuple a items
def kM (k:Bool)(K:Frag)(H:Hp)(a:Addr)(xs:List V):Prop:=if k=true then ji K H a xs else qD K H a xs
noncomputable def Jd (k:Bool):String:=if k then "list_iterator" else "tuple_iterator"
theorem jG.ob {k:Bool}{it:Addr}(x:jG k h it a i):∃o,h.get? it=some o/\o.cls=.type (Jd k)/\o.data=.fields #[.ref a,.int i 0]:=by
 cases k<;>exact x
theorem jG.mk {k:Bool}{it:Addr}(x:∃o,h.get? it=some o/\o.cls=.type (Jd k)/\o.data=.fields #[.ref a,.int i 0]):jG k h it a i:=by
 cases k<;>exact x
theorem jG.to {k:Bool}{h':Heap}{it:Addr}(x:jG k h it a i)(e:∀o,h.get? it=some o->h'.get? it=some o):jG k h' it a i:=let ⟨o,h1,r⟩:=x.ob;.mk ⟨o,e o h1,r⟩
theorem yg.ob {k:Bool}(x:yg k h a items):∃o,h.get? a=some o/\o.cls=.type (if k then "list" else "tuple")/\∃n,o.data=.seq items n:=by
 cases k<;>exact x
theorem yg.to {k:Bool}{h':Heap}(x:yg k h a items)(e:∀o,h.get? a=some o->h'.get? a=some o):yg k h' a items:=by
 cases k with
 |false=>exact let ⟨o,h1,r⟩:=x.ob;⟨o,e o h1,r⟩|true=>exact let ⟨o,h1,r⟩:=x.ob;⟨o,e o h1,r⟩
section
variable {prog:Program}{A:Around}{k:Bool}{it:Addr}
theorem OI (h:yg k s.heap a items)(H:Q (.ref s.heap.objs.size) { s with heap:=s.heap.push { cls:=.type (Jd k),data:=.fields #[.ref a,.int 0 0] } }):wpAny (model prog w) A (pyIter (.ref a)) Q E s:=by
 cases k with
 |true=>exact wpAny_pyIter_list h H|false=>exact wpAny_pyIter_tuple h H
theorem W0 {x:Value}(hit:jG k s.heap it a i)(l:yg k s.heap a items)(f:items[i]? =some x)
  (g:∀h',jG k h' it a (i+1)->Heap.SameBut it s.heap h'->Q x { s with heap:=h' }):wpAny (model prog w) A (Builtin.SmallTypes.nextOf (.ref it)) Q E s:=by
 cases k with
 |true=>exact wpAny_nextOf_list_item hit l f g|false=>
  have h:s.heap.IsTupleIter it a i:=hit;obtain⟨o,b,e,H⟩:=id h;obtain⟨j,c,_,na,d⟩:s.heap.IsTuple a items:=l;unfold Builtin.SmallTypes.nextOf;refine qa0 (wpAny_callSpecial?_slot (name:=Str.ofString "__next__") h.typeIs F.slot_tuple_iterator_next (wpAny_call_entry F.slot_tuple_iterator_next h.typeIs F.entry_tuple_iterator_next ?_ (F.args_tuple_iterator_next_1 _)));show wpAny _ _ (field (.ref it) 0 >>= _) _ _ s;refine qa0 (wpAny_field b H (x:=.ref a) rfl ?_);show wpAny _ _ (if (Value.ref a==Value.none)=true then _ else _) _ _ s;rw[ak (show ¬((Value.ref a==Value.none)=true) from aA)]
  show wpAny _ _ (field (.ref it) 1 >>= _) _ _ s;refine qa0 (wpAny_field b H (x:=.int i 0) rfl ?_);show wpAny _ _ (seqItems? (.ref a) >>= _) _ _ s;refine qa0 (wpAny_seqItems c d ?_);simp only[az,f];refine qa0 (wpAny_setField b H (by simp) (qa1 ⟨x,rfl,qa1 (g _ (.mk ?_) (Heap.SameBut.update ..))⟩))
  exact⟨_,a9 _ b (Obj.isFreed_of_fields (Obj.data_mapFields H _)),(Obj.cls_mapFields ..).trans e,by rw[Obj.data_mapFields H];simp[rawInt]⟩
theorem Ua (d:A.handled=none)(hit:jG k s.heap it a i)(l:yg k s.heap a items)(g:items[i]? =none)
  (j:∀h' e,Heap.ExtBut it s.heap h'->(∃o,h'.get? e=some o/\o.cls=.type "StopIteration")->E (.ref e) { s with heap:=h' }):wpAny (model prog w) A (Builtin.SmallTypes.nextOf (.ref it)) Q E s:=by
 cases k with
 |true=>exact wpAny_nextOf_list_end d hit l g j|false=>
  have h:s.heap.IsTupleIter it a i:=hit;obtain⟨p,H,n,b⟩:=id h;obtain⟨q,c,_,na,f⟩:s.heap.IsTuple a items:=l;unfold Builtin.SmallTypes.nextOf;refine qa0 (wpAny_callSpecial?_slot (name:=Str.ofString "__next__") h.typeIs F.slot_tuple_iterator_next (wpAny_call_entry F.slot_tuple_iterator_next h.typeIs F.entry_tuple_iterator_next ?_ (F.args_tuple_iterator_next_1 _)));show wpAny _ _ (field (.ref it) 0 >>= _) _ _ s;refine qa0 (wpAny_field H b (x:=.ref a) rfl ?_);show wpAny _ _ (if (Value.ref a==Value.none)=true then _ else _) _ _ s;rw[ak (show ¬((Value.ref a==Value.none)=true) from aA)]
  show wpAny _ _ (field (.ref it) 1 >>= _) _ _ s;refine qa0 (wpAny_field H b (x:=.int i 0) rfl ?_);show wpAny _ _ (seqItems? (.ref a) >>= _) _ _ s;refine qa0 (wpAny_seqItems c f ?_);simp only[az,g];refine qa0 (wpAny_rule (qa0 (wpAny_setField H b (by simp) ?_)))
  show wpAny _ _ (newExc (.type "StopIteration") [] >>= _) _ _ _;refine qa0 ?_;simp only[newExc,newTuple];refine qa0 (wpAny_newObj_type ?_ (by size_fits))
  refine qa0 (m:=firstArgMember _ _) (wpAny_of_eq (a:=Value.none) (by first|rfl | (simp only[firstArgMember];rfl)) ?_);refine wpAny_newObj_type ?_ (by size_fits)
  simp only[raiseNew];refine qa0 (wpAny_handled ?_)
  first|rw[show A.in1.handled=none from d] | rw[d]
  refine qa0 (qa1 (wpAny_throw ?_));exact j _ _ (((Heap.SameBut.update ..).extBut.push _).push _) ⟨_,au _ rfl,rfl⟩
theorem Px (j:A.handled=none)(c:a≠it):Draws prog w A it [it,a] items.size (λ i v=>items[i]? =some v) (λ i h=>jG k h it a i/\yg k h a items) where
 live:=λ _ _ st=>let ⟨o,g,_⟩:=st.1.ob;⟨o,g⟩
 frame:=λ _ _ _ st d=>⟨st.1.to λ o e=>d it (by simp) o e,st.2.to λ o e=>d a (by simp) o e⟩
 item:=λ i s Q E f st l=>W0 st.1 st.2 (x:=items[i]) (by simp[f]) λ h' b H=>l _ h' s.toks (by simp[f]) ⟨b,st.2.to λ o e=>H.extBut a o c e⟩ H
 done:=λ s Q E st n=>Ua j st.1 st.2 (by simp) n
end
section
variable {h':Heap}
theorem _root_.L2.Inv.spun {T:Addr}{o:HO}(I:Inv X pins σ H s)(k:∀b u,b∉fp->s.heap.get? b=some u->h'.get? b=some u)(hf:∀b∈fp,kJ X pins H b)(d:s.heap.objs.size<=T)
  (new:jd X.prog X.w (upd H T o) h' T o):Inv X pins σ (upd H T o) { s with heap:=h',toks:=t' }:=by
 have hn:H T=none:=I.hok.fresh d;have lt:∀b u,s.heap.get? b=some u->b≠T:=λ b u e=>aM (aD (aI e) d);have N:∀b u,H b=some u->b∉fp:=λ b u e z=>by rw[(hf b z).1]at e;cases e
 refine I.step (g':=s.gens) (d':=s.drawn) (ch:=fp) (λ b a=>let ⟨_,f1,_,i,f4,g⟩:=hf b a;⟨i,f1,f4,g⟩) (λ b o _ _ h e _=>k b o h e) (λ b o _ _ h e _=>⟨o.slots,k b o h e⟩)
  (λ b o _ e n=>by rw[qj (lt b o e)];exact n) (λ b o h e=>⟨o,k b o h e⟩) (λ b xs e=>by rw[qj (kC e hn)];exact e) (λ b u xs e=>by rw[qj (kC e hn)];exact e)
  (λ b ps e=>⟨#[],by rw[qj (kC e hn),e];simp⟩) (λ m hm=>?_) (λ b u e=>?_) I.bare
 ·obtain⟨o,E,p,f,r⟩:=hm
  exact⟨o,E,p,k _ o (λ z=>(hf _ z).2.1 rfl) f,r⟩
 ·by_cases a:b=T
  ·subst a;rw[jD]at e;cases e;exact new
  ·rw[qj a]at e
   refine(I.hok b u e).stay (λ c v h q=>k c v ?_ q) (λ c q=>by rw[qj (kC q hn)];exact q) λ c xs q=>by rw[qj (kC q hn)];exact q
   rcases h with z|z
   ·rw[z];exact N b u e
   ·exact N c _ z
theorem _root_.L2.Inv.spun0 (I:Inv X pins σ H s)(k:∀b u,b∉fp->s.heap.get? b=some u->h'.get? b=some u)(hf:∀b∈fp,kJ X pins H b):Inv X pins σ H { s with heap:=h',toks:=t' }:=by
 have N:∀b u,H b=some u->b∉fp:=λ b u e z=>by rw[(hf b z).1]at e;cases e
 refine I.step (g':=s.gens) (d':=s.drawn) (ch:=fp) (λ b d=>let ⟨_,f1,_,g,f4,f⟩:=hf b d;⟨g,f1,f4,f⟩) (λ b o _ _ h e _=>k b o h e) (λ b o _ _ h e _=>⟨o.slots,k b o h e⟩)
  (λ b o _ e n=>n) (λ b o h e=>⟨o,k b o h e⟩) (λ b xs e=>e) (λ b u xs e=>e) (λ b ps e=>⟨#[],by rw[e];simp⟩) (λ m hm=>?_) (λ b u e=>?_) I.bare
 ·obtain⟨o,E,p,a,r⟩:=hm
  exact⟨o,E,p,k _ o (λ z=>(hf _ z).2.1 rfl) a,r⟩
 ·refine(I.hok b u e).stay (λ c v h q=>k c v ?_ q) (λ c q=>q) λ c xs q=>q
  rcases h with z|z
  ·rw[z];exact N b u e
  ·exact N c _ z
theorem _root_.L2.Inv.sq {k:Bool}(I:Inv X pins σ H s)(h:kM k X.K H a xs):∃i:List Value,Vals xs i/\yg k s.heap a i.toArray/\xs.length<=sizeLine:=by
 cases k with
 |true=>obtain⟨i,r,p,z⟩:=I.list h;exact⟨i,r,p.isList,z⟩|false=>obtain⟨i,r,p,z⟩:=I.tuple h;exact⟨i,r,(show s.heap.IsTuple a i.toArray from p),z⟩
theorem _root_.L2.Inv.sq_inj {k:Bool}(I:Inv X pins σ H s)(h:kM k X.K H a xs)(h':kM k X.K H a ys):xs=ys:=by
 cases k with
 |true=>exact I.list_inj h h'|false=>exact I.tuple_inj h h'
end
def Ti (k:Bool)(K:Frag)(a:Addr):It:=
 ⟨λ i H=>∃xs x,kM k K H a xs/\xs[i]? =some x,λ i H x h=>∃p y,(∀xs,kM k K H a xs->xs[i]? =some y)/\H p=none/\x=.ref p/\h=upd H p (.tup [.int i,y]),λ i H=>∃xs,kM k K H a xs/\xs.length=i⟩
theorem Fh {K:Frag}(k:Bool)(a n it:Addr):Turn P w K (.Tuple elts kk tpos) (Ti k K a) [n,it] n (λ i h=>(∃old,IsEnum h n it i old)/\jG k h it a i/\n≠it) where
 mem:=by simp
 obj:=λ i h st b f=>by
  obtain⟨⟨old,he⟩,g,_⟩:=st;rcases qa3.mp f with rfl|f
  ·exact⟨_,he,λ v z=>nomatch z⟩
  ·rw[qa7.mp f]
   obtain⟨o,S,_,hd⟩:=g.ob;exact⟨o,S,λ v z=>by rw[hd]at z;cases z⟩
 keep:=λ i h h' ⟨⟨old,he⟩,g,ne⟩ kp=>⟨⟨old,kp n (by simp) _ he⟩,g.to λ o r=>kp it (by simp) o r,ne⟩
 item:=by
  intro X hP hw hK hc i pins s σ H E I hf st U;subst hP hw hK;obtain⟨⟨old,he⟩,g,ne⟩:=st;obtain⟨xs,x,D,C⟩:=U;obtain⟨d,J,t,hz⟩:=I.sq D;obtain⟨u,hu,ru⟩:=J.get C;have T:i<d.toArray.size:=by simpa using (qa2.mp hu).1
  obtain⟨oa,j,hca,na,e⟩:=t.ob;have A:a≠it:=λ z=>by
   obtain⟨oi,c,Z,p⟩:=g.ob;rw[<- z,j]at c;cases c;rw[p]at e;cases e
  have ane:n≠a:=λ z=>by
   have B:s.heap.get? a=_:=z ▸ he;rw[j]at B;cases B;cases e
  refine wpAny_pyNext_enum_itemD (Px (k:=k) (items:=d.toArray) (I.ok.hd hc) A) he ⟨g,t⟩ T ne (by simp[ne,ane]) λ y h1 tk M S Q hT hsz hk=>?_
  have ey:y=u:=by
   have:d[i]? =some y:=by simpa using M
   rw[hu]at this;exact(aB this).symm
  subst ey;refine⟨_,rfl,wpAny_letOwnedTupleGo_enum S λ h2 Y l=>?_⟩;have L:n<s.heap.objs.size:=aI he;have hT2:h2.get? s.heap.objs.size=some { cls:=.type "tuple",data:=.seq #[.int i tk,y] }:=l.extBut _ _ (bA L) hT;refine⟨.ref s.heap.objs.size,upd H s.heap.objs.size (.tup [.int i,x]),?_,rfl,⟨s.heap.objs.size,x,λ ys M=>by rw[I.sq_inj M D];exact C,I.hok.fresh (aw _),rfl,rfl⟩,⟨⟨_,by simpa using Y⟩,?_,ne⟩,λ b f=>?_⟩
  ·refine I.spun (fp:=[n,it]) (t':=tk+1) (λ b o f r=>?_) hf (aw _) ?_
   ·exact l.extBut _ _ (λ z=>f (by simp[z])) (hk b o (λ z=>f (by simp[z])) (λ z=>f (by simp[z])) r)
   ·exact⟨by show 2<=sizeLine;decide,[.int i tk,y],.cons ⟨tk,rfl⟩ (.cons ru .nil),_,hT2,⟨rfl,rfl⟩,0,rfl⟩
  ·exact Q.1.to λ o r=>l.extBut _ _ (λ z=>ne z.symm) r
  ·have bn:b≠s.heap.objs.size:=λ z=>by
    rcases qa3.mp f with q|q
    ·exact absurd L (by rw[<- q,z];exact aY _)
    ·obtain⟨oi,c,_⟩:=g.ob
     exact absurd (aI c) (by rw[<- qa7.mp q,z];exact aY _)
   show upd H s.heap.objs.size _ b=none;rw[qj bn];exact(hf b f).1
 done:=by
  intro X hP hw hK hc i pins s σ H E I hf st U;subst hP hw hK;obtain⟨⟨old,he⟩,g,ne⟩:=st;obtain⟨xs,D,C⟩:=U;obtain⟨d,J,t,hz⟩:=I.sq D;have en':d.toArray.size=i:=by rw[aF,<- J.length];exact C
  obtain⟨oa,j,hca,na,e⟩:=t.ob;have A:a≠it:=λ z=>by
   obtain⟨oi,c,Z,p⟩:=g.ob;rw[<- z,j]at c;cases c;rw[p]at e;cases e
  refine wpAny_pyNext_enum_endD (Px (k:=k) (items:=d.toArray) (I.ok.hd hc) A) he ⟨by rw[en'];exact g,t⟩ λ h1 N=>⟨rfl,?_⟩
  exact I.spun0 (fp:=[n,it]) (t':=s.toks) (λ b o f r=>N b o (λ z=>f (by simp[z])) r) hf
 self:=λ _ _ _ _ _ ⟨⟨_,he⟩,_⟩ h=>wpAny_pyIter_enum he h
open AutoSeq1 (wpAny_loadPart')
abbrev GS (h:Heap)(k:Bool)(a:Addr):Heap:=h.push { cls:=.type (Jd k),data:=.fields #[.ref a,.int 0 0] }
abbrev NW (h:Heap)(k:Bool)(a:Addr):Heap:=(GS h k a).push { cls:=.type "enumerate",data:=.fields #[.none,.bool false,.ref h.objs.size,rawInt 0,.none,.none] }
theorem IH (a:Addr)(items:Array Value)(n:Nat)(dd:Option Addr)(S:Array (Option Value)):
  Meets (Builtin.«enumerate.__new__» ⟨[.type "enumerate",.ref a],[]⟩) (λ _ R s=>s.heap.get? a=some { cls:=.type "tuple",dict:=dd,data:=.seq items n,slots:=S }/\R (.ok (.ret (.ref (GS s.heap false a).objs.size))) { s with heap:=NW s.heap false a }):=
 .of_wp λ prog w A R s h=>by
  obtain⟨p,g,d,tk,os⟩:=s;obtain⟨H,h⟩:=h;have b:=sub_enumerate;have T:Heap.IsTuple (Shared.heap ⟨p,g,d,tk,os⟩) a items:=⟨_,H,rfl,n,rfl⟩
  wp_walk using wpAny_loadPart' H
  refine wpAny_stack_any λ st=>qa1 ?_;split
  ·rename_i c _ _ _ _ _
   cases (c==Value.type "enumerate")<;>(wp_walk using wpAny_loadPart' H,wpAny_pyIter_tuple T;exact⟨_,rfl,h⟩)
  ·wp_walk using wpAny_loadPart' H,wpAny_pyIter_tuple T
   exact⟨_,rfl,h⟩
section
variable {prog:Program}{A:Around}
theorem FC {k:Bool}(l:yg k s.heap a items)
  (h:∀h',IsEnum h' (s.heap.objs.size+1) s.heap.objs.size 0 .none->jG k h' s.heap.objs.size a 0->(∀b o,s.heap.get? b=some o->h'.get? b=some o)->Q (.ref (s.heap.objs.size+1)) { s with heap:=h' }):
  wpAny (model prog w) A (call (.type "enumerate") [.ref a]) Q E s:=by
 cases k with
 |true=>exact call_enumerate_list l λ h' g f _ e=>h h' g f e|false=>
  obtain⟨⟨c,dd,dt,S⟩,d,H,n,hd⟩:=(show s.heap.IsTuple a items from l)
  replace H:c=.type "tuple" := H
  replace hd:dt=.seq items n:=hd
  subst H hd;refine callType_new F.called_enumerate (by decide) (F.typeCall_enumerate_1 _) (F.newCall_enumerate_1 _) (λ obj=>F.args_object_init_2 obj _) F.entry_enumerate_new (IH a items n dd S) ⟨d,?_⟩
  have z:(GS s.heap false a).objs.size=s.heap.objs.size+1:=bf ..;have he:IsEnum (NW s.heap false a) (GS s.heap false a).objs.size s.heap.objs.size 0 .none:=au _ rfl;show _/\_;rw[z]at he ⊢;exact⟨⟨_,he,rfl⟩,h _ he (.mk ⟨_,af _ (au _ rfl),rfl,rfl⟩) λ b o x=>af _ (af _ x)⟩
end
section
variable {a b:Expr}{m:Ev}
def za4 (K:Frag)(t:TA):TI:=λ σ H R=>t σ H λ vs H1=>∃p k xs,vs=[.ref p]/\kM k K H1 p xs/\R (Ti k K p) H1
theorem boot_enumerate:bootBuiltins "enumerate" = some (.type "enumerate"):=by rfl
theorem boot_zip:bootBuiltins "zip" = some (.type "zip"):=by rfl
theorem CB {t:TA}(l:Gl X "enumerate")(hm:X.mg "enumerate" = none)(o:PA X [a] t)(g:starEach [a] X.env=[(false,eval a X.env)]):
  PI X (.Tuple elts kk tpos) (.Call (.Name "enumerate" p) [a] [] pos) (za4 X.K t):=by
 intro pins s σ H R I h;refine Call_ (Qy I l hm boot_enumerate (PyProof.Rows.callWith_type1 (zV (o pos pins s σ H _ I h) λ us s1 ⟨vs,H1,i,d,Q⟩=>?_) g rfl));obtain⟨p,k,xs,rfl,j,q⟩:=Q;obtain⟨u,rfl,r⟩:=d.one;cases r;obtain⟨f,w,sq,x⟩:=i.sq j;refine FC sq λ h' e v E=>wpAny_pyIter_enum e ?_;refine⟨s1.heap.objs.size+1,[s1.heap.objs.size+1,s1.heap.objs.size],_,_,H1,rfl,i.kept (t':=s1.toks) E,Fh k p _ _,⟨⟨_,by simpa using e⟩,v,Nat.succ_ne_self _⟩,λ b n=>?_,q⟩
 have c:s1.heap.objs.size<=b:=by
  rcases qa3.mp n with z|z
  ·rw[z];exact le_succ _
  ·rw[qa7.mp z];exact aw _
 exact i.fpOk c (i.hok.fresh c)
noncomputable def atEnd (ws:List W)(i:Nat)(f:W->W):Option (Option W):=match ws[i]? with
 |some x=>some (some (f x))|none=>if ws.length=i then some none else none
def kA (w:W)(n:Nat):jF:=⟨λ A i=>match zR w A with
 |some ws=>atEnd ws i λ x=>.tup [.int i,x]|none=>none,n⟩
noncomputable def QE (w:W):Bool:=match w with
 |.tup _=>false|_=>true
theorem WQ {K:Frag}{A:Hx}{w:W}{ws:List W}(S:zM K φ A H)(q:RV K φ H w v)(e:zR w A=some ws):∃p ys,v=.ref p/\kM (QE w) K H p ys/\zG K φ H ws ys:=by
 cases w with
 |tup us=>cases e;obtain⟨a,vs,E,t,r⟩:=q;exact⟨a,vs,E,t,r⟩|ref n=>
  obtain⟨a,E,f⟩:=q;unfold zR at e;dsimp only at e;cases c:A[n]? with
  |none=>rw[c]at e;cases e|some o=>
   rw[c]at e;obtain⟨g,d,r⟩:=S.ob n o c;rw[f]at d;cases d;cases o with
   |lst xs=>cases e;obtain⟨y,b,h⟩:=r;exact⟨a,y,E,ji.of b,h⟩|ro xs=>cases e;obtain⟨y,b,h⟩:=r;exact⟨a,y,E,b.sq,h⟩|dct xs=>cases e|tab _ _=>cases e
 |non=>cases e|bl _=>cases e|clo _ _ _=>cases e|xc _=>cases e|int _=>cases e|str _=>cases e
theorem Vg {K:Frag}{a:List Addr}{A':Hx}{h:Hp}{w:W}{b:List W}{p:Addr}(q:RV K φ H w (.ref p))(lw:Zq K φ H a h)(S:zM K a A' h)(E:zR w A'=some b):∃y,kM (QE w) K h p y/\zG K a h b y:=by
 obtain⟨P,ys,e,d,c⟩:=WQ S (RV.monoW lw q) E;cases e;exact⟨ys,d,c⟩
theorem zaR {K:Frag}{w:W}{p:Addr}(q:RV K φ H w (.ref p)):ZL K φ H (kA w n) (Ti (QE w) K p):=λ i c l A' lw S=>by
 unfold kA;dsimp only;cases es:zR w A' with
 |none=>exact⟨λ _ z=>(by cases z),λ z=>(by cases z)⟩|some ws=>
  dsimp only;obtain⟨ys,a,b⟩:=Vg q lw S es;unfold atEnd;cases E:ws[i]? with
  |none=>
   dsimp only
   by_cases h:ws.length=i
   ·rw[ag h]
    exact⟨λ _ z=>(by cases z),λ _=>⟨ys,a,by rw[<- b.length];exact h⟩⟩
   ·rw[ak h]
    exact⟨λ _ z=>(by cases z),λ z=>(by cases z)⟩
  |some x=>
   dsimp only;refine⟨λ u z=>?_,λ z=>(by cases z)⟩
   cases z;obtain⟨y,e,j⟩:=b.get E;refine⟨⟨ys,y,a,e⟩,λ X H1 ⟨t,Y,d,f,ex,g⟩=>?_⟩;subst ex g
   have:=d ys a
   rw[e]at this;cases this;obtain⟨a1,a2,A⟩:=Q8 S f (.cons (w:=.int i) (v:=.int i) rfl (.one j));exact⟨a1,a2,A⟩
def kT (m:Ev):Ei:=λ ρ A=>(m ρ A).bind λ w A1=>match zR w A1 with
 |some ws=>.ok (kA w ws.length) A1|none=>.bad
end
section
variable {prog:Program}{A:Around}{z TI TO i1 i2 l1 l2:Addr}{n1 n2:Nat}{c1 c2:Bool}{xs ys:Array Value}{x y a b:Value}
theorem Cn (D:ZipApart z TI TO i1 i2 l1 l2)(H:IsZip s.heap z TI TO .none)(I:IsPair s.heap TI (.ref i1) (.ref i2))(B:IsPair s.heap TO a b)
  (g1:jG c1 s.heap i1 l1 n1)(g2:jG c2 s.heap i2 l2 n2)(s1:yg c1 s.heap l1 xs)(s2:yg c2 s.heap l2 ys)(hx:xs[n1]? =some x)(Y:ys[n2]? =some y)
  (hQ:∀h',IsZip h' z TI TO (rawInt s.heap.objs.size)->IsPair h' TI (.ref i1) (.ref i2)->IsPair h' TO x y->jG c1 h' i1 l1 (n1+1)->jG c2 h' i2 l2 (n2+1)->IsPair h' s.heap.objs.size x y->
   (∀c o,c≠z->c≠TO->c≠i1->c≠i2->s.heap.get? c=some o->h'.get? c=some o)->Q (.ref s.heap.objs.size) { s with heap:=h' }):
  wpAny (model prog w) A (Builtin.«zip.__next__» ⟨[.ref z],[]⟩) (λ fin s'=>∃v,fin=.done (.ret v)/\Q v s') E s:=by
 show wpAny _ _ (field (.ref z) 2 >>= _) _ _ _;refine qa0 (wpAny_field H rfl (x:=.bool false) rfl ?_);show wpAny _ _ (field (.ref z) 3 >>= _) _ _ _;refine qa0 (wpAny_field H rfl (x:=.ref TI) rfl (qa0 (wpAny_seqItems I rfl ?_)));show wpAny _ _ (Builtin.SmallTypes.ownedTupleIsFree (.ref z) >>= _) _ _ _;refine qa0 ?_;unfold Builtin.SmallTypes.ownedTupleIsFree;refine qa0 (wpAny_field H rfl (x:=.none) rfl (qa1 ?_));simp only[if_true];refine qa0 (wpAny_rule (qa0 (wpAny_field H rfl (x:=.ref TO) rfl ?_)));refine qa0 (wpAny_setField_rec H (by simp) λ ha r sa=>?_);replace r:IsZip ha z TI TO .ellipsis:=r
 refine qa0 ?_;simp only[List.zipIdx_cons,List.zipIdx_nil,forIn_cons,forIn_nil];refine qa0 (qa0 (wpAny_onRaise ?_));show wpAny _ _ (Builtin.SmallTypes.nextOf (.ref i1) >>= _) _ _ _;refine qa0 (W0 (g1.to λ o e=>sa.extBut _ _ D.i1z e) (s1.to λ o e=>sa.extBut _ _ D.l1z e) hx λ hb gb l=>qa1 ?_);have L:IsPair hb TO a b:=l.extBut _ _ D.TOi1 (sa.extBut _ _ D.TOz B);refine qa0 (wpAny_seqItems L rfl (qa0 (wpAny_updateSeq_pair L λ U T sc=>qa0 (wpAny_letGo (qa1 ?_)))));replace T:IsPair U TO x b:=T;refine qa0 (qa0 (wpAny_onRaise ?_));show wpAny _ _ (Builtin.SmallTypes.nextOf (.ref i2) >>= _) _ _ _;have up:∀c o,c≠z->c≠i1->c≠TO->s.heap.get? c=some o->U.get? c=some o:=λ c o f d h e=>sc.extBut _ _ h (l.extBut _ _ d (sa.extBut _ _ f e));refine qa0 (W0 (g2.to λ o e=>up _ o D.i2z D.i12.symm D.TOi2.symm e) (s2.to λ o e=>up _ o D.l2z D.l2i1 D.l2TO e) Y λ hd gd g=>qa1 ?_);have K:IsPair hd TO x b:=g.extBut _ _ D.TOi2 T;refine qa0 (wpAny_seqItems K rfl (qa0 (wpAny_updateSeq_pair K λ he t S=>qa0 (wpAny_letGo (qa1 (qa1 ?_))))));replace t:IsPair he TO x y:=t;refine qa0 (wpAny_seqItems t rfl (qa0 (wpAny_newTuple ?_)));have i:he.objs.size=s.heap.objs.size:=by rw[S.1,g.1,sc.1,l.1,sa.1]
 have J:IsZip he z TI TO .ellipsis:=S.extBut _ _ D.TOz.symm (g.extBut _ _ D.i2z.symm (sc.extBut _ _ D.TOz.symm (l.extBut _ _ D.i1z.symm r)));have P:∀c o,c≠z->c≠TO->c≠i1->c≠i2->s.heap.get? c=some o->he.get? c=some o:=λ c o f d h u e=>S.extBut _ _ d (g.extBut _ _ u (up c o f h d e));have ge1:jG c1 he i1 l1 (n1+1):=((gb.to λ o e=>sc.extBut _ _ D.TOi1.symm e).to λ o e=>g.extBut _ _ D.i12 e).to λ o e=>S.extBut _ _ D.TOi1.symm e;have C:jG c2 he i2 l2 (n2+1):=gd.to λ o e=>S.extBut _ _ D.TOi2.symm e;have Z:z<he.objs.size:=aI J;show wpAny _ _ (Builtin.SmallTypes.ownedTupleHandOut (.ref z) (.ref he.objs.size) >>= _) _ _ _;refine qa0 ?_;unfold Builtin.SmallTypes.ownedTupleHandOut;have X:IsZip (he.push { cls:=.type "tuple",data:=.seq #[x,y] }) z TI TO .ellipsis:=af _ J;refine qa0 (wpAny_setField_rec X (by simp) λ hg p N=>?_);replace p:IsZip hg z TI TO (rawInt he.objs.size):=p
 refine wpAny_setField_rec p (by simp) λ n j M=>?_;replace j:IsZip n z TI TO (rawInt he.objs.size):=j
 have fin:∀c o,c≠z->he.get? c=some o->n.get? c=some o:=λ c o q e=>M.extBut _ _ q (N.extBut _ _ q (af _ e));have tk:IsPair n he.objs.size x y:=M.extBut _ _ (bA Z) (N.extBut _ _ (bA Z) (au _ rfl));rw[i]at j tk;refine qa1 ⟨_,rfl,?_⟩;show Q (.ref he.objs.size) _;rw[i];exact hQ n j (fin _ _ D.TIz (P _ _ D.TIz D.TITO D.TIi1 D.TIi2 I)) (fin _ _ D.TOz t) (ge1.to λ o e=>fin _ o D.i1z e) (C.to λ o e=>fin _ o D.i2z e) tk λ c o f d h u e=>fin c o f (P c o f d h u e)
theorem AA {Q:Fin->Shared->Prop}(K:A.handled=none)(D:ZipApart z TI TO i1 i2 l1 l2)(i:IsZip s.heap z TI TO .none)(I:IsPair s.heap TI (.ref i1) (.ref i2))(v:IsPair s.heap TO a b)
  (g1:jG c1 s.heap i1 l1 n1)(g2:jG c2 s.heap i2 l2 n2)(s1:yg c1 s.heap l1 xs)(s2:yg c2 s.heap l2 ys)(j:xs[n1]? =none∨ys[n2]? =none)
  (L:∀h' e,(∀c o,c≠z->c≠TO->c≠i1->c≠i2->s.heap.get? c=some o->h'.get? c=some o)->(∃o,h'.get? e=some o/\o.cls=.type "StopIteration")->E (.ref e) { s with heap:=h' }):
  wpAny (model prog w) A (Builtin.«zip.__next__» ⟨[.ref z],[]⟩) Q E s:=by
 show wpAny _ _ (field (.ref z) 2 >>= _) _ _ _;refine qa0 (wpAny_field i rfl (x:=.bool false) rfl ?_);show wpAny _ _ (field (.ref z) 3 >>= _) _ _ _;refine qa0 (wpAny_field i rfl (x:=.ref TI) rfl (qa0 (wpAny_seqItems I rfl ?_)));show wpAny _ _ (Builtin.SmallTypes.ownedTupleIsFree (.ref z) >>= _) _ _ _;refine qa0 ?_;unfold Builtin.SmallTypes.ownedTupleIsFree;refine qa0 (wpAny_field i rfl (x:=.none) rfl (qa1 ?_));simp only[if_true];refine qa0 (wpAny_rule (qa0 (wpAny_field i rfl (x:=.ref TO) rfl ?_)));refine qa0 (wpAny_setField_rec i (by simp) λ u Z sa=>?_);replace Z:IsZip u z TI TO .ellipsis:=Z
 refine qa0 ?_;simp only[List.zipIdx_cons,List.zipIdx_nil,forIn_cons,forIn_nil];refine qa0 (qa0 (wpAny_onRaise ?_));show wpAny _ _ (Builtin.SmallTypes.nextOf (.ref i1) >>= _) _ _ _;have ga:=g1.to (h':=u) λ o e=>sa.extBut _ _ D.i1z e;have Y:=s1.to (h':=u) λ o e=>sa.extBut _ _ D.l1z e;cases p:xs[n1]? with
 |none=>
  refine qa0 (Ua K ga Y p λ t e S he=>?_);obtain⟨n,h,H⟩:=he;have B:IsZip t z TI TO .ellipsis:=S _ _ D.i1z.symm Z;have f:e≠z:=λ q=>by subst q;rw[B]at h;cases h;simp at H
  exact wpAny_setField_rec B (by simp) λ r _ sc=>L r e (λ c o d _ g _ q=>sc.extBut _ _ d (S _ _ g (sa.extBut _ _ d q))) ⟨n,sc.extBut _ _ f h,H⟩
 |some x=>
  have N:ys[n2]? =none:=by
   rcases j with q|q
   ·rw[p]at q;cases q
   ·exact q
  refine qa0 (W0 ga Y p λ t U S=>qa1 ?_);have T:IsPair t TO a b:=S.extBut _ _ D.TOi1 (sa.extBut _ _ D.TOz v);refine qa0 (wpAny_seqItems T rfl (qa0 (wpAny_updateSeq_pair T λ r P sc=>qa0 (wpAny_letGo (qa1 ?_)))));refine qa0 (qa0 (wpAny_onRaise ?_));show wpAny _ _ (Builtin.SmallTypes.nextOf (.ref i2) >>= _) _ _ _;have up:∀c o,c≠z->c≠i1->c≠TO->s.heap.get? c=some o->r.get? c=some o:=λ c o d l g e=>sc.extBut _ _ g (S.extBut _ _ l (sa.extBut _ _ d e));refine qa0 (Ua K (g2.to λ o e=>up _ o D.i2z D.i12.symm D.TOi2.symm e) (s2.to λ o e=>up _ o D.l2z D.l2i1 D.l2TO e) N λ hd e J he=>?_);obtain⟨n,h,H⟩:=he;have y:IsZip hd z TI TO .ellipsis:=J _ _ D.i2z.symm (sc.extBut _ _ D.TOz.symm (S.extBut _ _ D.i1z.symm Z));have f:e≠z:=λ q=>by subst q;rw[y]at h;cases h;simp at H
  exact wpAny_setField_rec y (by simp) λ hf _ C=>L hf e (λ c o d l g M q=>C.extBut _ _ d (J _ _ M (up c o d g l q))) ⟨n,C.extBut _ _ f h,H⟩
theorem Bm {Q:Option Value->Shared->Prop}(D:ZipApart z TI TO i1 i2 l1 l2)(d:IsZip s.heap z TI TO .none)(H:IsPair s.heap TI (.ref i1) (.ref i2))(h:IsPair s.heap TO a b)
  (g1:jG c1 s.heap i1 l1 n1)(g2:jG c2 s.heap i2 l2 n2)(s1:yg c1 s.heap l1 xs)(s2:yg c2 s.heap l2 ys)(p:xs[n1]? =some x)(n:ys[n2]? =some y)
  (r:∀h',IsZip h' z TI TO (rawInt s.heap.objs.size)->IsPair h' TI (.ref i1) (.ref i2)->IsPair h' TO x y->jG c1 h' i1 l1 (n1+1)->jG c2 h' i2 l2 (n2+1)->IsPair h' s.heap.objs.size x y->
   (∀c o,c≠z->c≠TO->c≠i1->c≠i2->s.heap.get? c=some o->h'.get? c=some o)->Q (some (.ref s.heap.objs.size)) { s with heap:=h' }):wpAny (model prog w) A (pyNext (.ref z)) Q E s:=by
 have T:s.TypeIs (.ref z) "zip" := ⟨_,d,rfl⟩;unfold pyNext;exact qa0 (wpAny_attempt (wpAny_callSpecial?_slot (name:=Str.ofString "__next__") T F.slot_zip_next (wpAny_call_entry F.slot_zip_next T F.entry_zip_next
  (Cn D d H h g1 g2 s1 s2 p n λ h' l j i g f e q=>qa1 (r h' l j i g f e q)) (F.args_zip_next_1 _))))
theorem Cj {Q:Option Value->Shared->Prop}(j:A.handled=none)(D:ZipApart z TI TO i1 i2 l1 l2)(d:IsZip s.heap z TI TO .none)(I:IsPair s.heap TI (.ref i1) (.ref i2))(H:IsPair s.heap TO a b)
  (g1:jG c1 s.heap i1 l1 n1)(g2:jG c2 s.heap i2 l2 n2)(s1:yg c1 s.heap l1 xs)(s2:yg c2 s.heap l2 ys)(h:xs[n1]? =none∨ys[n2]? =none)
  (n:∀h',(∀c o,c≠z->c≠TO->c≠i1->c≠i2->s.heap.get? c=some o->h'.get? c=some o)->Q none { s with heap:=h' }):wpAny (model prog w) A (pyNext (.ref z)) Q E s:=by
 have f:s.TypeIs (.ref z) "zip" := ⟨_,d,rfl⟩;unfold pyNext;refine qa0 (wpAny_attempt (wpAny_callSpecial?_slot (name:=Str.ofString "__next__") f F.slot_zip_next (wpAny_call_entry F.slot_zip_next f F.entry_zip_next (AA j D d I H g1 g2 s1 s2 h λ h' e i he=>?_) (F.args_zip_next_1 _))));obtain⟨o,g,l⟩:=he;exact qa0 (wpAny_isInstance (T := "StopIteration") (b:=true) ⟨o,g,l⟩ isSubtype_stop (qa1 (n _ i)))
end
abbrev G6 (h:Heap)(c:Bool)(l:Addr):Heap:=h.push { cls:=.type (Jd c),data:=.fields #[.ref l,.int 0 0] }
abbrev GP (h:Heap)(C c:Bool)(L l:Addr):Heap:=(G6 h C L).push { cls:=.type (Jd c),data:=.fields #[.ref l,.int 0 0] }
abbrev GZ (h:Heap)(c C:Bool)(l L:Addr):Heap:=(GP h c C l L).push { cls:=.type "tuple",data:=.seq #[.ref h.objs.size,.ref (G6 h c l).objs.size] }
abbrev G3 (h:Heap)(C c:Bool)(L l:Addr):Heap:=(GZ h C c L l).push { cls:=.type "tuple",data:=.seq #[.none,.none] }
abbrev Yu (h:Heap)(C c:Bool)(L l:Addr):Heap:=(G3 h C c L l).push { cls:=.type "zip",data:=.fields #[.none,.bool false,.bool false,.ref (GP h C c L l).objs.size,.ref (GZ h C c L l).objs.size] }
theorem HL (c C:Bool)(l L:Addr)(xs ys:Array Value):
  Meets (Builtin.«zip.__new__» ⟨[.type "zip",.ref l,.ref L],[]⟩) (λ _ R s=>yg c s.heap l xs/\yg C s.heap L ys/\R (.ok (.ret (.ref (G3 s.heap c C l L).objs.size))) { s with heap:=Yu s.heap c C l L }):=
 .of_wp λ prog w A R s h=>by
  obtain⟨p,g,d,tk,os⟩:=s;obtain⟨Q,q,h⟩:=h;have H:=sub_zip;have k1:yg c (Shared.heap ⟨p,g,d,tk,os⟩) l xs:=Q;have k2:yg C (Shared.heap ⟨p.push { cls:=.type (Jd c),data:=.fields #[.ref l,.int 0 0] },g,d,tk,os⟩) L ys:=q.to λ o e=>af _ e
  wp_walk using OI k1,OI k2
  exact⟨_,rfl,h⟩
section
variable {prog:Program}{A:Around}{c1 c2:Bool}{l1 l2:Addr}{xs ys:Array Value}
theorem EK (s1:yg c1 s.heap l1 xs)(s2:yg c2 s.heap l2 ys)
  (h:∀h' n,n=s.heap.objs.size->IsZip h' (n+4) (n+2) (n+3) .none->IsPair h' (n+2) (.ref n) (.ref (n+1))->IsPair h' (n+3) .none .none->jG c1 h' n l1 0->jG c2 h' (n+1) l2 0->
   (∀c o,s.heap.get? c=some o->h'.get? c=some o)->Q (.ref (n+4)) { s with heap:=h' }):wpAny (model prog w) A (call (.type "zip") [.ref l1,.ref l2]) Q E s:=by
 refine callType_new F.called_zip (by decide) (F.typeCall_zip_2 _ _) (F.newCall_zip_2 _ _) (λ obj=>F.args_object_init_3 obj _ _) F.entry_zip_new (HL c1 c2 l1 l2 xs ys) ⟨s1,s2,?_⟩
 have a:(G6 s.heap c1 l1).objs.size=s.heap.objs.size+1:=bf ..;have Z:(GP s.heap c1 c2 l1 l2).objs.size=s.heap.objs.size+2:=by rw[bf,a]
 have z:(GZ s.heap c1 c2 l1 l2).objs.size=s.heap.objs.size+3:=by rw[bf,Z]
 have b:(G3 s.heap c1 c2 l1 l2).objs.size=s.heap.objs.size+4:=by rw[bf,z]
 have y:(Yu s.heap c1 c2 l1 l2).get? (G3 s.heap c1 c2 l1 l2).objs.size=some _:=au _ rfl;have Y:(Yu s.heap c1 c2 l1 l2).get? (GZ s.heap c1 c2 l1 l2).objs.size=some _:=af _ (au _ rfl);have d:(Yu s.heap c1 c2 l1 l2).get? (GP s.heap c1 c2 l1 l2).objs.size=some _:=af _ (af _ (au _ rfl));have e:(Yu s.heap c1 c2 l1 l2).get? (G6 s.heap c1 l1).objs.size=some _:=af _ (af _ (af _ (au _ rfl)));have f:(Yu s.heap c1 c2 l1 l2).get? s.heap.objs.size=some _:=af _ (af _ (af _ (af _ (au _ rfl))));show _/\_;rw[Z,z,b]at y;rw[a,Z]at d;rw[z]at Y;rw[a]at e;rw[b];exact⟨⟨_,y,rfl⟩,h _ _ rfl y d Y (.mk ⟨_,f,rfl,rfl⟩) (.mk ⟨_,e,rfl,rfl⟩) λ c o q=>
  af _ (af _ (af _ (af _ (af _ q))))⟩
end
def Tn (C c:Bool)(K:Frag)(p q:Addr):It:=
 ⟨λ i H=>∃xs ys x y,kM C K H p xs/\kM c K H q ys/\xs[i]? =some x/\ys[i]? =some y,
  λ i H v h=>∃t x y,(∀xs,kM C K H p xs->xs[i]? =some x)/\(∀ys,kM c K H q ys->ys[i]? =some y)/\H t=none/\v=.ref t/\h=upd H t (.tup [x,y]),
  λ i H=>∃xs ys,kM C K H p xs/\kM c K H q ys/\(xs[i]? =none∨ys[i]? =none)⟩
theorem E5 {K:Frag}(c1 c2:Bool)(p q z TI TO t r:Addr)(D:ZipApart z TI TO t r p q):
  Turn P w K (.Tuple elts kk tpos) (Tn c1 c2 K p q) [z,TI,TO,t,r] z (λ i h=>IsZip h z TI TO .none/\IsPair h TI (.ref t) (.ref r)/\(∃a b,IsPair h TO a b)/\jG c1 h t p i/\jG c2 h r q i) where
 mem:=by simp
 obj:=λ i h st b d=>by
  obtain⟨j,g,⟨T,Q,f⟩,g1,g2⟩:=st;simp only[mem_cons,not_mem_nil,or_false]at d;rcases d with rfl|rfl|rfl|rfl|rfl
  ·exact⟨_,j,λ v e=>nomatch e⟩
  ·exact⟨_,g,λ v e=>nomatch e⟩
  ·exact⟨_,f,λ v e=>nomatch e⟩
  ·obtain⟨o,B,_,hd⟩:=g1.ob;exact⟨o,B,λ v e=>by rw[hd]at e;cases e⟩
  ·obtain⟨o,B,_,hd⟩:=g2.ob;exact⟨o,B,λ v e=>by rw[hd]at e;cases e⟩
 keep:=λ i h h' ⟨j,g,⟨T,Q,f⟩,g1,g2⟩ k=>⟨k z (by simp) _ j,k TI (by simp) _ g,⟨T,Q,k TO (by simp) _ f⟩,g1.to λ o e=>k t (by simp) o e,g2.to λ o e=>k r (by simp) o e⟩
 item:=by
  intro X hP hw hK hc i pins s σ H E I hf st hg;subst hP hw hK;obtain⟨j,g,⟨T,Q,f⟩,g1,g2⟩:=st;obtain⟨xs,ys,x,y,N,M,ex,ey⟩:=hg;obtain⟨n,r1,u,_⟩:=I.sq N;obtain⟨l,r2,S,_⟩:=I.sq M;obtain⟨Y,eu1,ru1⟩:=r1.get ex;obtain⟨U,eu2,Z⟩:=r2.get ey;refine Bm D j g f g1 g2 u S (x:=Y) (y:=U) (by simpa using eu1) (by simpa using eu2) λ hh z1 z2 z3 z4 z5 z6 kp=>?_
  refine⟨_,rfl,wpAny_letOwnedTupleGo_zip z1 λ hk zk J=>?_⟩;have lt:∀{c o},s.heap.get? c=some o->c≠s.heap.objs.size:=λ e=>aM (aI e);have T2:IsPair hk s.heap.objs.size Y U:=J.extBut _ _ (lt j).symm z6;have fre:∀b∈[z,TI,TO,t,r],b≠s.heap.objs.size:=λ b d=>by
   simp only[mem_cons,not_mem_nil,or_false]at d;rcases d with rfl|rfl|rfl|rfl|rfl
   ·exact lt j
   ·exact lt g
   ·exact lt f
   ·obtain⟨o,B,_⟩:=g1.ob;exact lt B
   ·obtain⟨o,B,_⟩:=g2.ob;exact lt B
  refine⟨.ref s.heap.objs.size,upd H s.heap.objs.size (.tup [x,y]),?_,rfl,⟨s.heap.objs.size,x,y,λ zs A=>by rw[I.sq_inj A N];exact ex,λ zs A=>by rw[I.sq_inj A M];exact ey,I.hok.fresh (aw _),rfl,rfl⟩,
   ⟨zk,J.extBut _ _ D.TIz z2,⟨_,_,J.extBut _ _ D.TOz z3⟩,z4.to λ o e=>J.extBut _ _ D.i1z e,z5.to λ o e=>J.extBut _ _ D.i2z e⟩,λ b d=>?_⟩
  ·refine I.spun (fp:=[z,TI,TO,t,r]) (t':=s.toks) (λ b o d eo=>?_) hf (aw _) ?_
   ·exact J.extBut _ _ (λ e=>d (by simp[e])) (kp b o (λ e=>d (by simp[e])) (λ e=>d (by simp[e])) (λ e=>d (by simp[e])) (λ e=>d (by simp[e])) eo)
   ·exact⟨by show 2<=sizeLine;decide,[Y,U],.cons ru1 (.cons Z .nil),_,T2,⟨rfl,rfl⟩,0,rfl⟩
  ·show upd H s.heap.objs.size _ b=none
   rw[qj (fre b d)];exact(hf b d).1
 done:=by
  intro X hP hw hK hc i pins s σ H E I hf st hg;subst hP hw hK;obtain⟨j,g,⟨T,Q,f⟩,g1,g2⟩:=st;obtain⟨xs,ys,N,M,L⟩:=hg;obtain⟨n,r1,u,_⟩:=I.sq N;obtain⟨l,r2,S,_⟩:=I.sq M;have C:n.toArray[i]? =none∨l.toArray[i]? =none:=by
   rcases L with e|e
   ·exact .inl (by simpa using r1.none_of e)
   ·exact .inr (by simpa using r2.none_of e)
  exact Cj (I.ok.hd hc) D j g f g1 g2 u S C λ hh kp=>⟨rfl,I.spun0 (fp:=[z,TI,TO,t,r]) (t':=s.toks) (λ b o d eo=>kp b o (λ e=>d (by simp[e])) (λ e=>d (by simp[e])) (λ e=>d (by simp[e])) (λ e=>d (by simp[e])) eo) hf⟩
 self:=λ _ _ _ _ _ st h=>wpAny_pyIter_zip st.1 h
section
variable {a b:Expr}{m:Ev}
def zce (K:Frag)(t:TA):TI:=λ σ H R=>t σ H λ vs H1=>∃p q C c xs ys,vs=[.ref p,.ref q]/\kM C K H1 p xs/\kM c K H1 q ys/\R (Tn C c K p q) H1
theorem BS {T:TA}(U:Gl X "zip")(hm:X.mg "zip" = none)(Y:PA X [a,b] T)(N:starEach [a,b] X.env=(false,eval a X.env)::starEach [b] X.env)(P:(backTo pos (starEach [b] X.env)).any (·.1)=false):
  PI X (.Tuple elts kk tpos) (.Call (.Name "zip" p) [a,b] [] pos) (zce X.K T):=by
 intro pins s σ H R I h;refine Call_ (Qy I U hm boot_zip (PyProof.Rows.callWith_type1 (zV (Y pos pins s σ H _ I h) λ us s1 ⟨vs,H1,g,M,Q⟩=>?_) N P));obtain⟨p,q,c1,c2,xs,ys,rfl,h1,h2,hR⟩:=Q;obtain⟨u1,u2,rfl,o,r⟩:=M.two;cases o;cases r;obtain⟨w,J,d,_⟩:=g.sq h1;obtain⟨v,C,S,_⟩:=g.sq h2;obtain⟨op,u,_⟩:=d.ob;obtain⟨oq,t,_⟩:=S.ob;have L:p<s1.heap.objs.size:=aI u;have l:q<s1.heap.objs.size:=aI t;refine EK d S λ h' n E z B A y Z kp=>wpAny_pyIter_zip z ?_;rw[<- E]at L l;have ne1:∀(i j:Nat),i≠j->n+i≠n+j:=λ i j h e=>h (Nat.add_left_cancel e);have ne2:∀(c:Nat)(i:Nat),c<n->c≠n+i:=λ c i h e=>absurd h (by rw[e];exact Nat.not_lt.mpr (le_add_right n i))
 have D:ZipApart (n+4) (n+2) (n+3) (n+0) (n+1) p q:=⟨ne1 2 4 (by decide),ne1 3 4 (by decide),ne1 0 4 (by decide),ne1 1 4 (by decide),ne1 2 3 (by decide),ne1 2 0 (by decide),ne1 2 1 (by decide),ne1 3 0 (by decide),ne1 3 1 (by decide),ne1 0 1 (by decide),
  ne2 p 4 L,ne2 p 3 L,ne2 p 0 L,ne2 p 1 L,ne2 q 4 l,ne2 q 3 l,ne2 q 0 l,ne2 q 1 l⟩
 refine⟨n+4,[n+4,n+2,n+3,n,n+1],_,_,H1,rfl,g.kept (t':=s1.toks) kp,E5 c1 c2 p q _ _ _ _ _ D,⟨z,B,⟨_,_,A⟩,y,Z⟩,λ c x=>?_,hR⟩;have f:s1.heap.objs.size<=c:=by
  rw[<- E];simp only[mem_cons,not_mem_nil,or_false]at x;rcases x with rfl|rfl|rfl|rfl|rfl
  ·exact le_add_right _ _
  ·exact le_add_right _ _
  ·exact le_add_right _ _
  ·exact aw _
  ·exact le_add_right _ _
 exact g.fpOk f (g.hok.fresh f)
noncomputable def zip2:Option W->Option W->Option W
 |some x,some y=>some (.tup [x,y])|_,_=>none
def gq (w a:W)(n:Nat):jF:=⟨λ A i=>match zR w A,zR a A with
 |some us,some vs=>some (zip2 us[i]? vs[i]?)|_,_=>none,n⟩
theorem zbL {K:Frag}{w a:W}{p P:Addr}(q:RV K φ H w (.ref p))(Q:RV K φ H a (.ref P)):ZL K φ H (gq w a n) (Tn (QE w) (QE a) K p P):=λ i c D A' lw S=>by
 unfold gq;dsimp only;cases es:zR w A' with
 |none=>exact⟨λ _ z=>(by cases z),λ z=>(by cases z)⟩|some us=>
  cases es':zR a A' with
  |none=>exact⟨λ _ z=>(by cases z),λ z=>(by cases z)⟩|some vs=>
   dsimp only;obtain⟨xs,b,f⟩:=Vg q lw S es;obtain⟨ys,h,d⟩:=Vg Q lw S es';have non:∀{us:List W}{xs:List V},zG K c D us xs->us[i]? =none->xs[i]? =none:=λ r e=>by
    rw[List.getElem?_eq_none_iff]at e ⊢;rw[<- r.length];exact e
   cases j:us[i]? with
   |none=>exact⟨λ _ z=>(by cases z),λ _=>⟨xs,ys,b,h,.inl (non f j)⟩⟩|some x=>
    cases E:vs[i]? with
    |none=>exact⟨λ _ z=>(by cases z),λ _=>⟨xs,ys,b,h,.inr (non d E)⟩⟩|some y=>
     refine⟨λ u z=>?_,λ z=>(by cases z)⟩
     cases z;obtain⟨l,f1,f2⟩:=f.get j;obtain⟨v,g,f4⟩:=d.get E;refine⟨⟨xs,ys,l,v,b,h,f1,g⟩,λ X H1 ⟨t,I,Y,s,o,A,ex,B⟩=>?_⟩;subst ex B;have g1:=s xs b;have g2:=o ys h;rw[f1]at g1;cases g1;rw[g]at g2;cases g2;obtain⟨a1,a2,C⟩:=Q8 S A (.cons f2 (.one f4));exact⟨a1,a2,C⟩
def k9 (m M:Ev):Ei:=λ ρ A=>(m ρ A).bind λ w A1=>(M ρ A1).bind λ a A2=>match zR w A2,zR a A2 with
 |some us,some _=>.ok (gq w a us.length) A2|_,_=>.bad
variable {K:Frag}{c:Expr}
noncomputable def Jo:Ev:=λ _ A=>.ok (.ref A.length) (A++[.dct []])
noncomputable def GV:W->Option Key
 |.int i=>some (.inl i)|_=>none
noncomputable def yh (k:Key):List (Key×W)->Option W
 |[]=>none|(j,w)::r=>if j=k then some w else yh k r
theorem Vl (k:Key):∀{kvs:List (Key×W)}{us:List (Key×V)},us.map (·.1)=kvs.map (·.1)->zG K φ H (kvs.map (·.2)) (us.map (·.2))->
  (∀w,yh k kvs=some w->∃v,kz us k=some v/\RV K φ H w v)/\(yh k kvs=none->kz us k=none)
 |[],[],_,_=>⟨λ w h=>(by cases h),λ _=>rfl⟩|[],_::_,h,_=>by simp at h|_::_,[],h,_=>by simp at h|(j,w)::kvs,(J,v)::us,h,r=>by
  simp only[aV,List.cons.injEq]at h;obtain⟨g,l,e,d,c⟩:=r;simp only[aV,List.cons.injEq]at e;obtain⟨rfl,rfl⟩:=e;have i:=Vl k h.2 c;have b:J=j:=h.1;subst b
  by_cases a:J=k
  ·refine⟨λ f hw=>⟨v,WD a,?_⟩,λ hn=>?_⟩
   ·unfold yh at hw;rw[ag a]at hw;cases hw;exact d
   ·unfold yh at hn;rw[ag a]at hn;cases hn
  ·unfold yh
   rw[ak a,WG (p:=(J,v)) a];exact i
theorem zM.dct {A:Hx}{kvs:List (Key×W)}(S:zM K φ A H)(q:RV K φ H (.ref n) v)(e:A[n]? =some (.dct kvs)):∃p us,v=.ref p/\φ[n]? =some p/\H p=some (.dK us)/\us.map (·.1)=kvs.map (·.1)/\zG K φ H (kvs.map (·.2)) (us.map (·.2)):=by
 obtain⟨p,rfl,a⟩:=q;obtain⟨P,h,us,d,c,b⟩:=S.ob n _ e;rw[a]at h;cases h;exact⟨p,us,rfl,a,d,c,b⟩
def GI:W->W->Hx->R W:=λ d k A=>match d,GV k with
 |.ref n,some k=>match A[n]? with
  |some (.dct kvs)=>match yh k kvs with
   |some w=>.ok w A|none=>.bad
  |_=>.bad
 |_,_=>.bad
def DL:V->List V->Hp->VK->Prop:=λ x vs H Q=>∃p us k d,x=.ref p/\vs=[kV k,d]/\H p=some (.dK us)/\us.length<sizeLine/\(∀v,kz us k=some v->Q v H)/\(kz us k=none->Q d (upd H p (.dK (putK us k d))))
theorem HQ:K0 X "dict.setdefault" DL:=by
 intro pins s σ H x vs v us Q I g i h;obtain⟨p,kvs,k,d,rfl,rfl,f,A,n,l⟩:=h;cases g;obtain⟨U,u,rfl,j,c⟩:=i.two;obtain⟨z,hd,ws,rel,dd⟩:=Nr I.hok f;refine call_meetsIn PySem.F.slot_dict_setdefault dd.typeIs PySem.F.entry_dict_setdefault (PySem.F.args_dict_setdefault_3 _ _ _) (kt_meets_setdefault (kj X.prog X.w) p (UB j) hd u) ⟨ws,dd,by rw[<- rel.length];exact z,λ v o=>?_,λ hn h' D t=>?_⟩
 ·have r:=rel.val k
  rw[o]at r;cases e:kz kvs k with
  |none=>rw[e]at r;exact r.elim|some a=>rw[e]at r;exact⟨a,H,I.tok _,r,n a e⟩
 ·have r:=rel.val k
  rw[hn]at r;cases e:kz kvs k with
  |some a=>rw[e]at r;exact r.elim|none=>
   have b:(putK kvs k d).length<=sizeLine:=by have:=Iy kvs k d;omega
   have he:∃q,h'.get? p=some q:=let ⟨q,_,_,y,_⟩:=D;⟨q,y⟩
   exact⟨d,_,D4 I (by rw[f];exact True.intro) t he (zar b hd (rel.put k c) D),c,l e⟩
noncomputable def Xk (x:W)(A:Hx):Bool:=match x with
 |.ref n=>match A[n]? with
  |some (.dct _)=>true|_=>false
 |_=>false
def ZX:W->W->W->Hx->R W:=λ d k v A=>match d,GV k with
 |.ref n,some k=>match A[n]? with
  |some (.dct kvs)=>if kvs.length<zX then(match yh k kvs with
   |some w=>.ok w A|none=>.ok v (A.set n (.dct (kvs++[(k,v)])))) else .bad
  |_=>.bad
 |_,_=>.bad
def Yf (g:W->W->W->Hx->R W)(a b c:Ev):Ev:=λ ρ A=>(a ρ A).bind λ x A1=>if Xk x A1 then(b ρ A1).bind λ y A2=>(c ρ A2).bind λ z d=>g x y z d else .bad
theorem Ey {A:Hx}{w:W}(S:zM K φ A H)(q:RV K φ H w v)(e:Xk w A=true):Xa K "dict" v H:=by
 unfold Xk at e;cases w with
 |ref n=>
  dsimp only at e;cases E:A[n]? with
  |none=>rw[E]at e;cases e|some o=>cases o with
   |dct ws=>obtain⟨p,us,rfl,_,h,_⟩:=S.dct q E;exact .inr (.inr (.inl ⟨rfl,.inl ⟨us,h⟩⟩))|_=>rw[E]at e;cases e
 |_=>cases e
end
def Th (d:Addr)(o:Obj)(us:List (Key×V)):It:=
 ⟨λ i H=>H d=some (.frz o (.dK us))/\i<us.length,λ i H x h=>∃t p,us[i]? =some p/\H t=none/\x=.ref t/\h=upd H t (.tup [kV p.1,p.2]),λ i H=>H d=some (.frz o (.dK us))/\us[i]? =none⟩
theorem zaw {k:Key}(h:(kj P w).is k u=true):RelV (kV k) u:=by
 rw[Ht]at h;rcases Zu h with ⟨i,t,rfl,rfl⟩|⟨x,t,rfl,rfl⟩
 ·exact⟨t,rfl⟩
 ·exact⟨t,rfl⟩
theorem KV.at:∀{us:List (Key×V)}{vs:List (Key×Value)}{i:Nat}{p:Key×V},KV us vs->us[i]? =some p->∃u,vs[i]? =some (p.1,u)/\RelV p.2 u
 |[],_,_,_,_,e=>by simp at e|q::us,_,0,p,.cons (b:=b) r t,e=>by
  simp at e;subst e;exact⟨b.2,by simp only[List.getElem?_cons_zero];rw[r.1],r.2⟩
 |q::us,_,i+1,p,.cons r t,e=>by
  obtain⟨u,H,h⟩:=KV.at (i:=i) (p:=p) t (by simpa using e)
  exact⟨u,by simpa using H,h⟩
section
theorem _root_.L2.Inv.frzD {d:Addr}{o:Obj}{us:List (Key×V)}{f:Nat}(I:Inv X pins σ H s)(h:H d=some (.frz o (.dK us)))(p:∃E,o.data=.dict E f):∃vs,KV us vs/\s.heap.DictAt (kj X.prog X.w) d vs f:=by
 obtain⟨a,z,hd,vs,rel,dd⟩:=I.hok d _ h;obtain⟨i,o',es',e,g,c,r⟩:=dd.dictAt;rw[a]at e;cases e;obtain⟨E,he⟩:=p;have b:=c;rw[he]at b;injection b with l j
 subst j;exact⟨vs,rel,o,es',a,g,c,r⟩
end
theorem Eu:entryFor table "dict_itemiterator.__iter__" = some Builtin.«dict_keyiterator.__iter__»:=entryFor_alias (id' := "dict_keyiterator.__iter__") (by kernel_rfl)
 (by first|rfl|decide +kernel | (unfold String.splitOn;simp +decide [String.splitOnAux])) (by decide +kernel) (by kernel_rfl)
theorem IM {K:Frag}(d it:Addr)(o:Obj)(us:List (Key×V))(l:Nat)(j:∃Z,o.data=.dict Z l):
  Turn P w K (.Tuple elts kk tpos) (Th d o us) [it] it (λ i h=>∃ok a,IsItemIter h it d i us.length l ok a) where
 mem:=by simp
 obj:=λ i h ⟨ok,a,st⟩ b c=>by
  rw[qa7.mp c];exact⟨_,st,λ v e=>nomatch e⟩
 keep:=λ i h h' ⟨ok,a,st⟩ k=>⟨ok,a,k it (by simp) _ st⟩
 item:=by
  intro X r hw t B i pins s σ H E I hf st n;subst r hw t;obtain⟨ok,a,st⟩:=st;obtain⟨hd,g⟩:=n;obtain⟨vs,rel,D⟩:=I.frzD hd j;obtain⟨u,L,C⟩:=KV.at rel (i:=i) (p:=us[i]) (by simp[g])
  have S:IsItemIter s.heap it d i vs.length l ok a:=by rw[<- rel.length];exact st
  refine wpAny_pyNext_items_item S D L λ key Y y N T M kp=>⟨_,rfl,wpAny_letOwnedTupleGo_items N λ U q f=>?_⟩;have lt:it<s.heap.objs.size:=aI st;have T2:U.get? s.heap.objs.size=some { cls:=.type "tuple",data:=.seq #[key,u] }:=f.extBut _ _ (bA lt) T;refine⟨.ref s.heap.objs.size,upd H s.heap.objs.size (.tup [kV us[i].1,us[i].2]),?_,rfl,⟨s.heap.objs.size,us[i],by simp[g],I.hok.fresh (aw _),rfl,rfl⟩,⟨_,_,by rw[rel.length];exact q⟩,λ b c=>?_⟩
  ·refine I.spun (fp:=[it]) (t':=s.toks) (λ b ob c x=>?_) hf (aw _) ?_
   ·exact f.extBut _ _ (λ z=>c (by simp[z])) (kp b ob (λ z=>c (by simp[z])) x)
   ·exact⟨by show 2<=sizeLine;decide,[key,u],.cons (zaw y) (.cons C .nil),_,T2,⟨rfl,rfl⟩,0,rfl⟩
  ·show upd H s.heap.objs.size _ b=none
   have bn:b≠s.heap.objs.size:=λ z=>by rw[qa7.mp c]at z;exact absurd lt (by rw[z];exact aY _)
   rw[qj bn];exact(hf b c).1
 done:=by
  intro X r hw t B i pins s σ H E I hf st n;subst r hw t;obtain⟨ok,a,st⟩:=st;obtain⟨hd,g⟩:=n;obtain⟨vs,rel,D⟩:=I.frzD hd j;have S:IsItemIter s.heap it d i vs.length l ok a:=by rw[<- rel.length];exact st
  have hn:vs[i]? =none:=by
   rw[List.getElem?_eq_none_iff]at g ⊢;rw[<- rel.length];exact g
  exact wpAny_pyNext_items_end (I.ok.hd B) S D hn λ Y J=>⟨rfl,I.spun0 (fp:=[it]) (t':=s.toks) (λ b ob c x=>J b ob (λ z=>c (by simp[z])) x) hf⟩
 self:=λ A i s Q E ⟨ok,a,st⟩ h=>by
  have T:s.TypeIs (.ref it) "dict_itemiterator" := ⟨_,st,rfl⟩;refine wpAny_pyIter_slot T F.slot_dict_itemiterator_iter (wpAny_call_entry F.slot_dict_itemiterator_iter T Eu ?_ (F.args_dict_itemiterator_iter_1 _));show wpAny _ _ (ret (.ref it)) _ _ s;exact qa1 ⟨_,rfl,"dict_itemiterator",_,T,F.slot_dict_itemiterator_next.lookup,h⟩
section
variable {a b:Expr}{m:Ev}
def Ay (t:TE):TI:=λ σ H R=>t σ H λ x H1=>∃d us,x=.ref d/\H1 d=some (.dK us)/\∀o,R (Th d o us) (upd H1 d (.frz o (.dK us)))
theorem F0 {T:TE}(y:PE X a T)(i:attributeBase a "items" X.env (eval a X.env)=eval a X.env)(g:(apos.endLine==cpos.line)=true):
  PI X (.Tuple elts kk tpos) (.Call (.Attribute a "items" apos) [] [] cpos) (Ay T):=by
 intro pins s σ H R I h;refine wpAny_Call_method0_late i g (zV (y pins s σ H _ I h) λ v s1 ⟨x,H1,n,u,d,us,ex,hd,q⟩=>?_);subst ex;cases u;obtain⟨z,f,vs,rel,dd⟩:=Nr n.hok hd;obtain⟨o,l,p,c,hex,t,r⟩:=id dd;refine⟨"dict","dict.items",PySem.F.plainAttrs_dict,PySem.F.slot_dict_items,PySem.F.type_dict_items,dd.typeIs,λ b E=>by cases E;exact⟨o,c,hex.2.1⟩,Calls.callWith_builtin rfl (PySem.evalArgs_none ?_)⟩
 refine call_meetsIn PySem.F.slot_dict_items dd.typeIs PySem.F.entry_dict_items (PySem.F.args_dict_items_1 _) (meets_dict_items (kj X.prog X.w) d f) ⟨⟨vs,dd⟩,?_⟩;have B:Inv X pins σ (upd H1 d (.frz o (.dK us))) { s1 with heap:=s1.heap,toks:=s1.toks }:=n.write (x:=d) (e:=d) (o:=.frz o (.dK us)) (t':=s1.toks) (h':=s1.heap) (by rw[hd];exact True.intro) (.inl rfl) (λ _ _ _ q=>q) ⟨o,c⟩ ⟨c,z,f,vs,rel,dd⟩
 have j:Inv X pins σ (upd H1 d (.frz o (.dK us))) { s1 with heap:=s1.heap.push { cls:=.type "dict_items",data:=.fields #[.ref d] } }:=B.kept (t':=s1.toks) λ b ob q=>af _ q
 have D:(s1.heap.push { cls:=.type "dict_items",data:=.fields #[.ref d] }).DictAt (kj X.prog X.w) d vs p:=⟨o,l,af _ c,hex,t,r⟩;refine wpAny_pyIter_items (s:={ s1 with heap:=s1.heap.push { cls:=.type "dict_items",data:=.fields #[.ref d] } }) ⟨_,au _ rfl,rfl,rfl⟩ D ?_
 refine⟨_,[_],_,_,_,rfl,j.kept (t':=s1.toks) λ b ob q=>af _ q,IM d _ o us p ⟨l,t⟩,⟨.none,.none,?_⟩,λ b A=>?_,q o⟩
 ·rw[rel.length];exact au _ rfl
 ·have E:=qa7.mp A
  subst E;exact j.fpOk (aw _) (j.hok.fresh (aw _))
noncomputable def kW:Key->W
 |.inl i=>.int i|.inr x=>.str x
def KJ (kvs:List (Key×W)):jF:=⟨λ _ i=>some (kvs[i]?.map λ p=>.tup [kW p.1,p.2]),kvs.length⟩
def Ko (m:Ev):Ei:=λ ρ A=>match A with
 |[]=>(m ρ []).bind λ w A1=>match w,A1 with
  |.ref 0,[.dct kvs]=>if qY (kvs.map (·.2)) then .ok (KJ kvs) [] else .bad|_,_=>.bad
 |_=>.bad
theorem zbH {K:Frag}{d:Addr}{o:Obj}{us:List (Key×V)}{kvs:List (Key×W)}(hd:H d=some (.frz o (.dK us)))(f:us.map (·.1)=kvs.map (·.1))(B:zG K φ H (kvs.map (·.2)) (us.map (·.2)))(n:qY (kvs.map (·.2))=true):
  ZL K φ H (KJ kvs) (Th d o us):=λ i a g A' lw S=>by
 unfold KJ;dsimp only;have h:=lw.fz d o _ hd;have E:zG K a g (kvs.map (·.2)) (us.map (·.2)):=B.nrm lw.tp lw.fz n;have l:us.length=kvs.length:=by have:=congrArg List.length f;simpa using this
 cases e:kvs[i]? with
 |none=>
  refine⟨λ _ z=>(by cases z),λ _=>⟨h,?_⟩⟩
  rw[List.getElem?_eq_none_iff]at e ⊢;rw[l];exact e
 |some p=>
  have s:i<kvs.length:=(qa2.mp e).1;refine⟨λ u z=>?_,λ z=>(by cases z)⟩
  cases z;refine⟨⟨h,by rw[l];exact s⟩,λ x H1 ⟨t,q,b,j,ex,A⟩=>?_⟩
  subst ex A;have k1:q.1=p.1:=by
   have a1:(us.map (·.1))[i]? =some q.1:=by simp[b]
   rw[f]at a1;simp[e]at a1;exact a1.symm
  have a2:(kvs.map (·.2))[i]? =some p.2:=by simp[e]
  obtain⟨v,c,y⟩:=E.get a2;have w:v=q.2:=by simp[b]at c;exact c.symm
  subst w;rw[k1];have r:RV K a g (kW p.1) (kV p.1):=by cases p.1<;>rfl
  obtain⟨I,D,C⟩:=Q8 S j (.cons r (.one y));exact⟨I,D,C⟩
end
mutual
noncomputable def W.beq:W->W->Bool
 |.non,.non=>true|.bl a,.bl b=>a==b|.int a,.int b=>decide (a=b)|.str a,.str b=>decide (a=b)|.tup a,.tup b=>KN a b|_,_=>false
noncomputable def KN:List W->List W->Bool
 |[],[]=>true|a::as,b::bs=>a.beq b&&KN as bs|_,_=>false
end
mutual
theorem W.eq_of:∀{a b:W},a.beq b=true->a=b
 |.non,.non,_=>rfl|.bl a,.bl b,h=>by have h':(a==b)=true:=h;rw[aL]at h';rw[h']|.int a,.int b,h=>by have h':decide (a=b)=true:=h;rw[ao]at h';rw[h']|.str a,.str b,h=>by have h':decide (a=b)=true:=h;rw[ao]at h';rw[h']|.tup a,.tup b,h=>by have h':KN a b=true:=h;rw[Nf h']|.non,.bl _,h=>nomatch h | .non,.int _,h=>nomatch h | .non,.str _,h=>nomatch h | .non,.tup _,h=>nomatch h | .non,.ref _,h=>nomatch h
 |.bl _,.non,h=>nomatch h | .bl _,.int _,h=>nomatch h | .bl _,.str _,h=>nomatch h | .bl _,.tup _,h=>nomatch h | .bl _,.ref _,h=>nomatch h
 |.int _,.non,h=>nomatch h | .int _,.bl _,h=>nomatch h | .int _,.str _,h=>nomatch h | .int _,.tup _,h=>nomatch h | .int _,.ref _,h=>nomatch h
 |.str _,.non,h=>nomatch h | .str _,.bl _,h=>nomatch h | .str _,.int _,h=>nomatch h | .str _,.tup _,h=>nomatch h | .str _,.ref _,h=>nomatch h
 |.tup _,.non,h=>nomatch h | .tup _,.bl _,h=>nomatch h | .tup _,.int _,h=>nomatch h | .tup _,.str _,h=>nomatch h | .tup _,.ref _,h=>nomatch h
 |.ref _,.non,h=>nomatch h | .ref _,.bl _,h=>nomatch h | .ref _,.int _,h=>nomatch h | .ref _,.str _,h=>nomatch h | .ref _,.tup _,h=>nomatch h | .ref _,.ref _,h=>nomatch h
theorem Nf:∀{a b:List W},KN a b=true->a=b
 |[],[],_=>rfl|a::as,b::bs,h=>by
  have h':(a.beq b&&KN as bs)=true:=h;rw[aj]at h';rw[W.eq_of h'.1,Nf h'.2]
 |[],_::_,h=>nomatch h
 |_::_,[],h=>nomatch h
end
section
variable {K:Frag}
def FD (K:Frag)(x:Str)(st:Stmt):Prop:=∃f fd,kN K x x st f fd/\nsIn K mainGlobals x=some (some (.ref f))
theorem za1 {st:Stmt}{o:Value}{od an:Option Addr}{kV doc pm C ct:Value}(a:nsIn K mainGlobals x=some (some (.ref f)))
  (l:K.lookup f=some ⟨o,od,.func (fnOf x x (ZY st) (yn st) (qg st) .none kV doc pm an C ct),osl⟩)(c:codeIn K C x=true)(k:keepIn K (.ref f)=true):FD K x st:=⟨f,_,Ao l c k,a⟩
def CD (K:Frag)(x:Str)(i:Int):Prop:=∃t,nsIn K mainGlobals x=some (some (.int i t))
theorem zbn {i:Int}{t:Tok}(a:nsIn K mainGlobals x=some (some (.int i t))):CD K x i:=⟨t,a⟩
end
open PySem PySem.Spec PyProof.Rows L2 Mi
@[irreducible] noncomputable def zD (X:Cx)(x:XR)(e:Expr)(m:Ev):Prop:=Mi.SE X x e m
theorem Gs:@zD=@Mi.SE:=by
 funext X xr e m
 unfold zD
 rfl
@[irreducible] noncomputable def wU (X:Cx)(x:XR)(e:List Expr)(m:Ea):Prop:=Mi.SA X x e m
theorem V5:@wU=@Mi.SA:=by
 funext X xr es m
 unfold wU
 rfl
@[irreducible] noncomputable def yI (X:Cx)(x:XR)(e:Expr)(m:Ev):Prop:=Mi.ST X x e m
theorem Uu:@yI=@Mi.ST:=by
 funext X xr e m
 unfold yI
 rfl
@[irreducible] noncomputable def gR (X:Cx)(x:XR)(e:Expr)(m:Ev):Prop:=Mi.SW X x e m
theorem Uj:@gR=@Mi.SW:=by
 funext X xr e m
 unfold gR
 rfl
@[irreducible] noncomputable def kf (X:Cx)(x:XR)(st:Stmt)(m:Ex):Prop:=Mi.SS X x st m
theorem Us:@kf=@Mi.SS:=by
 funext X xr st m
 unfold kf
 rfl
@[irreducible] noncomputable def kx (X:Cx)(x:XR)(st:List Stmt)(m:Ex):Prop:=Mi.YC X x st m
theorem VT:@kx=@Mi.YC:=by
 funext X xr st m
 unfold kx
 rfl
@[irreducible] noncomputable def wb (X:Cx)(x:XR)(t e:Expr)(m:Ei):Prop:=Mi.SI X x t e m
theorem Uh:@wb=@Mi.SI:=by
 funext X xr tg e m
 unfold wb
 rfl
@[irreducible] noncomputable def wB (X:Cx)(t:Expr)(m:Tg):Prop:=Mi.SG X t m
theorem V3:@wB=@Mi.SG:=by
 funext X tg m
 unfold wB
 rfl
@[irreducible] noncomputable def Qi (X:Cx)(x:XR)(e:Expr)(m:jY):Prop:=Mi.SF X x e m
theorem Um:@Qi=@Mi.SF:=by
 funext X xr e m
 unfold Qi
 rfl
@[irreducible] noncomputable def gx (X:Cx)(x:XR)(e:Expr)(m:jY):Prop:=Mi.SQ X x e m
theorem Uo:@gx=@Mi.SQ:=by
 funext X xr e m
 unfold gx
 rfl
@[irreducible] noncomputable def Zh (X:Cx)(e:List Expr)(m:Ev):Prop:=Mi.Yy X e m
theorem VM:@Zh=@Mi.Yy:=by
 funext X es m
 unfold Zh
 rfl
@[irreducible] noncomputable def gQ (X:Cx)(elt:Expr)(gens:List Comprehension)(sc:Scope)(c:Pos)(d:Nat)(em:Em):Prop:=Mi.SM X elt gens sc c d em
theorem Ui:@gQ=@Mi.SM:=by
 funext X elt gens sc cpos d em
 unfold gQ
 rfl
section
variable {xr:XR}{K:Frag}{a b c:Expr}{es:List Expr}{m ma mb mc:Ev}{m1 m2:Ex}{st:Stmt}{rest:List Stmt}
theorem zZ:@zD=@Mi.SE/\@wU=@Mi.SA/\@yI=@Mi.ST/\@gR=@Mi.SW/\@kf=@Mi.SS/\@kx=@Mi.YC/\@wb=@Mi.SI/\@wB=@Mi.SG/\@Qi=@Mi.SF/\@gx=@Mi.SQ/\@Zh=@Mi.Yy/\@gQ=@Mi.SM:=⟨Gs,V5,Uu,Uj,Us,VT,Uh,V3,Um,Uo,VM,Ui⟩
theorem zj {M:Ea}(d:zD X xr e ma)(r:wU X xr es M)(s:starEach (e::es) X.env=(false,eval e X.env)::starEach es X.env:=by rfl):wU X xr (e::es) (zh ma M):=by
 try simp only[zZ]at*
 exact PA.imp (jm d r s) λ σ H Q ⟨φ,A,ρ,S,re,h⟩=>by
   refine tM.go S re (zW.mp h) λ w A1 b H1 v g l j c=>?_;refine Xp.go j (re.mono l) (qt (zW.mp g) (λ _ _ z=>z) λ _ _ z=>z.mono l) λ o A2 a n v2 f L i q=>?_;exact f a n _ (l.trans L) i (.cons (c.mono L) q)
theorem zx:wU X xr [] zm:=by
 try simp only[zZ]at*
 exact PA.imp j9 λ σ H Q ⟨φ,A,ρ,S,re,h⟩=>h φ H [] .refl S .nil
theorem j8 (H:zD X xr a ma)(h:zD X xr b mb):zD X xr (.BinOp a .Add b pos) (zo qx ma mb):=by
 try simp only[zZ]at*
 exact Ja (BE.or (D9.or (EH.or BK))) AL D5 H h
theorem Ka {q:jY}(H:X.calm=true)(hm:X.mg "all" = none)(a:gx X xr e q)(h:Gl X "all" := by rfl)(he:starEach [e] X.env=(false,eval e X.env)::starEach [] X.env:=by rfl):
  zD X xr (.Call (.Name "all" p) [e] [] pos) (mQ QJ q):=by
 try simp only[zZ]at*
 exact Gy (Dv H) BH CO hm (by rfl) a h (by decide) (by decide) he (by rfl)
theorem Q0 {rest:List Expr}(f:zD X xr a ma)(e:zD X xr (.BoolOp .And (b::rest) pos) mb):zD X xr (.BoolOp .And (a::b::rest) pos) (ka ma mb):=by
 try simp only[zZ]at*
 exact PE.imp (AB f e) λ σ H Q ⟨φ,A,ρ,S,re,h⟩=>by
   refine tM.go S re (zW.mp h) λ w A1 d H1 v c l s q=>?_;cases w with
   |bl k=>
    refine⟨k,q,?_⟩;cases k with
    |true=>rw[ag rfl];exact⟨d,A1,ρ,s,re.mono l,qt c (λ _ _ z=>z.mono l) λ _ _ z=>z.mono l⟩|false=>rw[ak aA];exact c d H1 _ l s rfl
   |non=>cases c|int _=>cases c|str _=>cases c|tup _=>cases c|ref _=>cases c|clo _ _ _=>cases c|xc _=>cases c
theorem yz {i j}:zD X xr (.Constant (.bool i) j pos) (zi (.bl i)):=by
 try simp only[zZ]at*
 exact PE.imp zbl λ σ H Q ⟨φ,A,ρ,S,r,h⟩=>h φ H _ .refl S rfl
theorem gJ {g:W->W->Hx->R W}(h:gc X op g)(c:zD X xr a ma)(H:zD X xr b mb)(e:op≠.In:=by decide)(d:op≠.NotIn:=by decide):zD X xr (.Compare a [op] [b] pos) (zo g ma mb):=by
 try simp only[zZ]at*
 exact let ⟨r,a1,a2,A⟩:=h.ex;O4 a1 a2 A c H (h.mks b e d)
theorem O9 {o:CmpOp}{g g':W->W->Hx->R W}(h:gc X op g)(h':gc X o g')(e:zD X xr a ma)(d:zD X xr b mb)(H:zD X xr c mc)(hm:lastMarks [op,o] [b,c]=false:=by with_unfolding_all rfl):
  zD X xr (.Compare a [op,o] [b,c] pos) (ku g g' ma mb mc):=by
 try simp only[zZ]at*
 exact let ⟨r,a1,a2,A⟩:=h.ex;let ⟨j,i,f,B⟩:=h'.ex;Du a1 a2 A i f B e d H hm
theorem qi {k:Nat}{f:Fn}{M:Ea}(F:zL X.prog X.w X.K X.mg X.base k x n f)(r:ju k X.A)(s:wU X yc (e::es) M)(g:ZI M n:=by repeat' (first|exact zE|refine zp ?_))(j:Gl X x:=by rfl)
  (c:(x==("__debug__" : Str))=false:=by decide)(he:starEach (e::es) X.env=(false,eval e X.env)::starEach es X.env:=by rfl)(l:(backTo pos (starEach es X.env)).any (·.1)=false:=by rfl):
  zD X yc (.Call (.Name x p) (e::es) [] pos) (zF f M):=by
 try simp only[zZ]at*
 obtain⟨B,fd,ps,F,hm,i,o⟩:=F;refine PE.imp (OO F r j hm i o .nil zbm s c he l) λ σ H Q ⟨φ,A,ρ,S,re,h⟩=>?_;have h':=zW.mp h;refine⟨φ,A,ρ,S,re,?_⟩;cases E:M ρ A with
 |ok ws A1=>
  rw[E]at h';intro b H1 vs L u q;have v:vs.length=n:=by rw[<- q.length];exact g ρ A ws A1 E
  rw[bo];exact⟨v,b,A1,ws,u,q,qt h' (λ _ _ z=>z.mono L) λ x A2 z a y d t=>(z a y (L.trans d) t).elim⟩
 |exc x A1=>rw[E]at h';exact h'|bad=>rw[E]at h';exact h'
theorem AQ {g:W->W->Hx->R W}(h:U3 X op g)(c:zD X xr a ma)(H:zD X xr b mb)(hm:behindInMarks op b=false:=by rfl):zD X xr (.Compare a [op] [b] pos) (zo g ma mb):=by
 try simp only[zZ]at*
 exact let ⟨r,a1,a2,A⟩:=h.ex;O4 a1 a2 A c H hm
theorem VU:zD X xr (.Dict [] [] pos) Jo:=by
 try simp only[zZ]at*
 exact PE.imp F8 λ σ H Q ⟨φ,A,ρ,S,re,h⟩ p a=>by
  obtain⟨l,s⟩:=S.alloc (o:=.dct []) a (u:=.dK []) ⟨[],jD,rfl,.nil⟩;exact h _ _ _ l s ⟨p,rfl,by rw[<- S.len];simp⟩
theorem HR {k:Nat}(x:ju k X.A)(B:zD X xr a ma)(y:zD X xr b mb)(u:Tc b:=by intro _ _;rfl):zD X xr (.Subscript a b pos) (zo GI ma mb):=by
 try simp only[zZ]at*
 exact PE.imp (Bb (zbp x) B y u) λ σ H Q ⟨φ,A,ρ,S,re,h⟩=>by
   refine tM.go S re (zW.mp h) λ w A1 f H1 v C l D j=>?_;refine tM.go D (re.mono l) (qt (zW.mp C) (λ _ _ z=>z) λ _ _ z=>z.mono l) λ g A2 d I v2 c L s q=>?_;unfold GI at c;cases w with
   |ref n=>
    cases g with
    |int i=>
     obtain rfl:=q;dsimp only[GV]at c;cases e:A2[n]? with
     |none=>rw[e]at c;exact c.elim|some o=>cases o with
      |dct kvs=>
       rw[e]at c;dsimp only at c;obtain⟨p,us,rfl,f1,g1,g2,g3⟩:=s.dct (j.mono L) e;cases E:yh (.inl i) kvs with
       |none=>rw[E]at c;exact c.elim|some w=>
        rw[E]at c;obtain⟨v,t,r⟩:=(Vl (.inl i) g2 g3).1 w E;refine⟨p,v,rfl,?_,c d I v (l.trans L) s r⟩;rw[<- t];exact Yr.k (k:=.inl i) g1
      |_=>rw[e]at c;exact c.elim
    |_=>exact c.elim
   |_=>exact c.elim
theorem P6 {i:Int}{t:Tok}(g:Gl X x)(hm:X.mg x=some (.int i t))(hd:(x==("__debug__" : Str))=false:=by decide):zD X xr (.Name x pos) (zi (.int i)):=by
 try simp only[zZ]at*
 exact PE.imp (C6 g hm (v:=.int i) ⟨t,rfl⟩ hd) λ σ H Q ⟨φ,A,ρ,S,r,h⟩=>h φ H _ .refl S rfl
theorem Ap {c:Expr}(f:yI X xr c mc)(i:zD X xr a ma)(g:zD X xr b mb):zD X xr (.IfExp c a b pos) (N1 mc ma mb):=by
 try simp only[zZ]at*
 exact PE.imp (Df f i g) λ σ H Q ⟨φ,A,ρ,S,re,h⟩=>by
   refine tT.go S re (zW.mp h) λ w A1 d=>?_;cases w with
   |bl k=>
    refine⟨k,rfl,λ e H1 l s=>?_⟩;cases k with
    |true=>rw[ag rfl];exact⟨e,A1,ρ,s,re.mono l,qt d (λ _ _ z=>z.mono l) λ _ _ z=>z.mono l⟩|false=>rw[ak aA];exact⟨e,A1,ρ,s,re.mono l,qt d (λ _ _ z=>z.mono l) λ _ _ z=>z.mono l⟩
   |non=>cases d|int _=>cases d|str _=>cases d|tup _=>cases d|ref _=>cases d|clo _ _ _=>cases d|xc _=>cases d
theorem zu {i j}:zD X xr (.Constant (.int i) j pos) (zi (.int i)):=by
 try simp only[zZ]at*
 exact PE.imp zac λ σ H Q ⟨φ,A,ρ,S,r,h⟩=>h φ H _ .refl S rfl
theorem ZD (t:Ty){P:Pos}(hm:X.mg "isinstance" = none)(c:X.mg x=none)(f:bootBuiltins x=some (.type t.nm))(i:zD X xr e m)(g:Gl X "isinstance" := by rfl)(d:Gl X x:=by rfl)
  (hn:x ≠ "__name__" := by decide)(hd:(x==("__debug__" : Str))=false:=by decide)
  (a:starEach [e,.Name x P] X.env=(false,eval e X.env)::starEach [.Name x P] X.env:=by rfl)(j:(backTo pos (starEach [.Name x P] X.env)).any (·.1)=false:=by rfl):
  zD X xr (.Call (.Name "isinstance" p) [e,.Name x P] [] pos) (kL t m):=by
 try simp only[zZ]at*
 exact PE.imp (Qs DX g hm (by rfl) (jm i (jm (WU d c f (v:=.ty t.nm) rfl hn hd) j9) a) (by decide) (by decide) a j) λ σ H Q ⟨φ,A,ρ,S,re,h⟩=>by
   refine tM.go S re (zW.mp h) λ w A1 b H1 v a l s q=>?_;cases E:jw w A1 with
   |none=>rw[E]at a;exact a.elim|some t'=>
    rw[E]at a;exact⟨v,t',t,rfl,P4 s q E,a b H1 _ l s rfl⟩
theorem jc (c:zD X xr a ma)(H:zD X xr b mb)(h:OK b:=by intro _ _;rfl):zD X xr (.Subscript a b pos) (zo zI ma mb):=by
 try simp only[zZ]at*
 exact PE.imp (zaL AX c H h) (zo.read zbg BI)
theorem kQ {q:jY}(hm:X.mg "len" = none)(H:gx X xr e q)(h:Gl X "len" := by rfl)(he:starEach [e] X.env=(false,eval e X.env)::starEach [] X.env:=by rfl):
  zD X xr (.Call (.Name "len" p) [e] [] pos) (mQ qy q):=by
 try simp only[zZ]at*
 exact Gy LQ (λ _ _=>yb) CG hm (by rfl) H h (by decide) (by decide) he (by rfl)
theorem ym {q:jY}(h:Qi X xr e q):zD X xr e (qp q):=by
 try simp only[zZ]at*
 exact PE.imp h qp.read
theorem Hd {P pos':Pos}(u:X.calm=true)(hm:X.mg "list" = none)(f:X.mg "range" = none)(x:zD X xr a ma)(t:Gl X "list" := by rfl)(g:Gl X "range" := by rfl)(s:starEach [a] X.env=[(false,eval a X.env)]:=by rfl)
  (d:starEach [.Call (.Name "range" P) [a] [] pos'] X.env=(false,eval (.Call (.Name "range" P) [a] [] pos') X.env)::starEach [] X.env:=by rfl):
  zD X xr (.Call (.Name "list" p) [.Call (.Name "range" P) [a] [] pos'] [] pos) (Y7 ma):=by
 try simp only[zZ]at*
 exact PE.imp (JJ (Hi u) t hm (by rfl) (jm (Bh g f (jm x j9 (by rw[s];rfl)) s) j9 d) (by decide) (by decide) d (by rfl)) λ σ H Q ⟨φ,A,ρ,S,re,h⟩=>by
   refine tM.go S re (zW.mp h) λ w A1 b H1 v c L C q=>?_;cases w with
   |int j=>
    obtain rfl:=q;dsimp only at c
    by_cases e:(j0 j&&decide (j.toNat<=zX))=true
    ·rw[ag e]at c
     rw[aj,ao]at e;refine⟨j,rfl,λ p n=>⟨p,j,rfl,jD,JH e.1,ZT e.2,λ l o=>?_⟩⟩;have ln:Le X.K b H1 b (upd H1 p (.rng 0 j)):=Le.new n;have r:zG X.K b (upd H1 p (.rng 0 j)) ((List.range j.toNat).map λ (i:Nat)=>W.int i) (Jp j.toNat):=by
      have:=(zG.ints (K:=X.K) (φ:=b) (H:=upd H1 p (.rng 0 j)) (ns:=(List.range j.toNat).map λ (i:Nat)=>(i:Int)) (vs:=Jp j.toNat)).mpr (by unfold Jp;simp)
      rw[aQ]at this;exact this
     obtain⟨z,y,B⟩:=Q9 (C.lay n) o r;exact c _ _ _ ((L.trans ln).trans z) y B
    ·rw[ak e]at c;exact c.elim
   |_=>exact c.elim
theorem qQ {M:Ea}(h:wU X xr es M)(H:ZI M n)(hn:n<=zX:=by decide):zD X xr (.List es pos) (zU M):=by
 try simp only[zZ]at*
 exact zay h λ ρ A ws A' e=>by rw[H ρ A ws A' e];exact ZT hn
theorem QZ {q:jY}(H:X.calm=true)(hm:X.mg "max" = none)(a:gx X xr e q)(h:Gl X "max" := by rfl)(he:starEach [e] X.env=(false,eval e X.env)::starEach [] X.env:=by rfl):
  zD X xr (.Call (.Name "max" p) [e] [] pos) (mQ yC q):=by
 try simp only[zZ]at*
 exact Gy (HK H) zam DR hm (by rfl) a h (by decide) (by decide) he (by rfl)
theorem PJ (e:X.calm=true)(hm:X.mg "min" = none)(o:zD X xr a ma)(n:zD X xr b mb)(l:Gl X "min" := by rfl)(s:starEach [a,b] X.env=(false,eval a X.env)::starEach [b] X.env:=by rfl)(r:starEach [b] X.env=(false,eval b X.env)::starEach [] X.env:=by rfl)(h:(backTo pos (starEach [b] X.env)).any (·.1)=false:=by rfl):
  zD X xr (.Call (.Name "min" p) [a,b] [] pos) (zo Gx ma mb):=by
 try simp only[zZ]at*
 exact UA (Fx e) Jc (λ φ A H x y u v Q S d c p=>by
   obtain⟨i,j,t,E,q⟩:=Jb (K:=X.K) (f:=λ i j=>.int (if j<i then j else i)) (g:=λ i j=>.int (if j<i then j else i)) (λ _ _ _ _=>rfl) φ A H x y u v Q S d c p;subst t;subst E;exact⟨i,j,rfl,q⟩) hm (by rfl) o n l (by decide) (by decide) s r h
theorem Q6 (H:zD X xr a ma)(h:zD X xr b mb):zD X xr (.BinOp a .Mod b pos) (zo gh ma mb):=by
 try simp only[zZ]at*
 exact Ja zab UJ (V0 DW λ _ _ _ _=>rfl) H h
theorem kq (H:zD X xr a ma)(h:zD X xr b mb):zD X xr (.BinOp a .Mult b pos) (zo qu ma mb):=by
 try simp only[zZ]at*
 exact Ja (B8.or An) zae C5 H h
theorem VO (h:zD X xr a ma):zD X xr (.UnaryOp .USub a pos) (jJ QG ma):=by
 try simp only[zZ]at*
 exact zaS BG (λ x A=>by unfold QG;split;exact yb;exact je) (λ φ A H x u Q S q p=>by
  cases u with
  |int i=>obtain rfl:=q;exact⟨i,rfl,p φ H _ .refl S rfl⟩|_=>exact p.elim) h
theorem Z0 {j}:zD X xr (.Constant .none j pos) (zi .non):=by
 try simp only[zZ]at*
 exact PE.imp Ak λ σ H Q ⟨φ,A,ρ,S,r,h⟩=>h φ H _ .refl S rfl
theorem Cq (d:zD X xr a ma):zD X xr (.UnaryOp .Not a pos) (yH ma):=by
 try simp only[zZ]at*
 exact PE.imp (AE d) λ σ H Q ⟨φ,A,ρ,S,re,h⟩=>by
   refine tM.go S re (zW.mp h) λ w A1 c H1 v b l s q=>?_;cases w with
   |bl k=>exact⟨k,q,b c H1 _ l s rfl⟩|non=>cases b|int _=>cases b|str _=>cases b|tup _=>cases b|ref _=>cases b|clo _ _ _=>cases b|xc _=>cases b
theorem J1 {op}(h:zD X xr a ma):zD X xr (.BoolOp op [a] pos) ma:=by
 try simp only[zZ]at*
 exact AH h
theorem Hv (ho:zD X xr a ma)(he:zD X xr b mb)(hf:zD X xr c mc)(q:starEach [b,c] X.env=(false,eval b X.env)::starEach [c] X.env:=by rfl)(P:starEach [c] X.env=(false,eval c X.env)::starEach [] X.env:=by rfl)
  (j:attributeBase a "setdefault" X.env (eval a X.env)=eval a X.env:=by rfl)
  (s:((backTo cpos (starEach [b,c] X.env)).all (λ x=>!x.1)&&(backToKw cpos (keywordEach [] X.env)).all (λ x=>x.1.isSome)
   && decide ([b,c].length+([]:List Keyword).length+(if ([]:List Keyword).isEmpty then 0 else 1)<30))=true:=by rfl)(g:(apos.endLine==cpos.line)=true:=by rfl)(N:(backTo cpos (starEach [c] X.env)).any (·.1)=false:=by rfl):
  zD X xr (.Call (.Attribute a "setdefault" apos) [b,c] [] cpos) (Yf ZX ma mb mc):=by
 try simp only[zZ]at*
 exact PE.imp (Nq PySem.F.plainAttrs_dict PySem.F.slot_dict_setdefault PySem.F.type_dict_setdefault HQ ho (jm he (jm hf j9 P) q) j s g q N) λ σ H Q ⟨φ,A,ρ,S,re,h⟩=>by
   refine tM.go S re (zW.mp h) λ w A1 φ1 H1 v q I S1 q1=>?_
   by_cases hd:Xk w A1=true
   ·rw[ag hd]at q
    refine⟨Ey S1 q1 hd,?_⟩;refine tM.go S1 (re.mono I) (qt (zW.mp q) (λ _ _ z=>z) λ _ _ z=>z.mono I) λ y A2 φ2 H2 v2 P l2 S2 q2=>?_;have l:=I.trans l2;refine tM.go S2 (re.mono l) (qt (zW.mp P) (λ _ _ z=>z) λ _ _ z=>z.mono l) λ w3 A3 f U r d l3 T q3=>?_;have L:=l.trans l3;unfold ZX at d;cases w with
    |ref n=>cases y with
     |int i=>
      obtain rfl:=q2;dsimp only[GV]at d;cases t:A3[n]? with
      |none=>rw[t]at d;exact d.elim|some o=>cases o with
       |dct kvs=>
        rw[t]at d;dsimp only at d;obtain⟨p,us,rfl,f1,g1,g2,g3⟩:=T.dct ((q1.mono l2).mono l3) t;have hlen:us.length=kvs.length:=by have:=congrArg List.length g2;simpa using this
        by_cases J:kvs.length<zX
        ·rw[ag J]at d
         have D:=Vl (.inl i) g2 g3;refine⟨p,us,.inl i,r,rfl,rfl,g1,?_,λ v' M=>?_,λ hn=>?_⟩
         ·rw[hlen]
          have:sizeLine=16777216:=sizeLine_eq
          unfold zX at J;omega
         ·cases E:yh (.inl i) kvs with
          |none=>rw[D.2 E]at M;cases M|some B=>
           rw[E]at d;obtain⟨C,e,Z⟩:=D.1 B E;rw[M]at e;cases e;exact d f U _ L T Z
         ·cases E:yh (.inl i) kvs with
          |some B=>obtain⟨C,e,Z⟩:=D.1 B E;rw[hn]at e;cases e|none=>
           rw[E]at d;dsimp only at d;rw[E7 r hn];have ln:Le X.K f U f (upd U p (.dK (us++[(.inl i,r)]))):=Le.upd f1 (λ xs z=>by rw[g1]at z;cases z) (λ _ _ z=>by rw[g1]at z;cases z)
           obtain⟨Y,y⟩:=T.write (o:=.dct kvs) (o':=.dct (kvs++[(.inl i,w3)])) t rfl rfl f1 (u:=.dK (us++[(.inl i,r)])) ⟨us++[(.inl i,r)],jD,by simp[g2],by
            rw[aU,aU];exact(g3.mono ln).append (.one (q3.mono ln))⟩
           exact d _ _ _ (L.trans Y) y (q3.mono Y)
        ·rw[ak J]at d;exact d.elim
       |_=>rw[t]at d;exact d.elim
     |_=>exact d.elim
    |_=>exact d.elim
   ·rw[ak hd]at q;exact q.elim
theorem Qv (H:zD X xr a ma)(h:zD X xr b mb):zD X xr (.BinOp a .Sub b pos) (zo wy ma mb):=by
 try simp only[zZ]at*
 exact Ja zao Jc (Jb λ _ _ _ _=>rfl) H h
theorem OE {q:jY}(H:X.calm=true)(hm:X.mg "sum" = none)(a:gx X xr e q)(h:Gl X "sum" := by rfl)(he:starEach [e] X.env=(false,eval e X.env)::starEach [] X.env:=by rfl):
  zD X xr (.Call (.Name "sum" p) [e] [] pos) (mQ gu q):=by
 try simp only[zZ]at*
 exact Gy (Fd H) zaB Cf hm (by rfl) a h (by decide) (by decide) he (by rfl)
theorem z0 {x1}{M:Ea}(h:wU X xr es M)(c:ZI M n)(hn:n<=zX:=by decide):zD X xr (.Tuple es x1 pos) (zC M):=by
 try simp only[zZ]at*
 exact PE.imp (Nb h) λ σ H Q ⟨φ,A,ρ,S,re,h⟩=>by
   have h':=zW.mp h;cases e:M ρ A with
   |ok ws A'=>
    rw[e]at h';refine⟨φ,A,ρ,S,re,?_⟩;rw[e];intro a H1 vs l s q;refine⟨by rw[<- q.length,c ρ A ws A' e];exact ZT hn,λ p b=>?_⟩
    obtain⟨a1,a2,d⟩:=Q8 s b q;exact h' _ _ _ (l.trans a1) a2 d
   |exc x A'=>rw[e]at h';refine⟨φ,A,ρ,S,re,?_⟩;rw[e];exact h'|bad=>rw[e]at h';exact h'.elim
theorem gC {q:jY}(hm:X.mg "tuple" = none)(H:gx X xr e q)(h:Gl X "tuple" := by rfl)(he:starEach [e] X.env=(false,eval e X.env)::starEach [] X.env:=by rfl):
  zD X xr (.Call (.Name "tuple" p) [e] [] pos) (mQ yi q):=by
 try simp only[zZ]at*
 exact zbx LB (λ _ _=>yb) Cg hm (by rfl) H h (by decide) (by decide) he (by rfl)
theorem zl (i:Nat)(b:X.N[i]? =some x:=by rfl)(a:YE X.env.scope x:=by first|exact Or.inl rfl|exact Or.inr (Or.inl rfl) | exact Or.inr (Or.inr rfl))(hd:(x==("__debug__" : Str))=false:=by decide)
  (d:(x==("__classdict__" : Str))=false:=by decide):zD X xr (.Name x pos) (zc i):=by
 try simp only[zZ]at*
 exact PE.imp (Nd b a hd d) λ σ H Q ⟨φ,A,ρ,S,r,h⟩=>by
  unfold zc at h;cases e:ρ[i]? with
  |none=>rw[e]at h;cases h|some o=>cases o with
   |none=>rw[e]at h;cases h|some w=>
    rw[e]at h;obtain⟨v,f,c⟩:=r.get i w e;exact⟨v,f,h φ H v .refl S c⟩
theorem F5 {mi:Ei}{tw:Tg}{M:Ev}{em:Em}(nl:Nat)(cap:List Nat)(c:X.calm=true)(S:Zb X sc)(p:Z7 X.N N sc nl cap=true)(hw:wb X xr tg iter mi)
  (n:∀s H fp,wB (jk X N sc s H fp jR) tg tw/\Zh (jk X N sc s H fp jR) ifs M/\gQ (jk X N sc s H fp jR) elt (⟨tg,iter,ifs,0⟩::gs) sc pos 0 em)
  (b:∀g',gs[0]? =some g'->g'.is_async=0:=by intro _ h;cases h<;>rfl)
  (a:∀x,foldedSetIterable iter X.env x=pure x:=by intro _;rfl):Qi X xr (.ListComp elt (⟨tg,iter,ifs,0⟩::gs) sc pos) (zS nl cap mi tw M em):=by
 try simp only[zZ]at*
 exact PE.imp (DZ (g:=tG X.K tw) (ti:=tT X.K yc M) (tm:=tE X.K em) c S p b hw n a) zS.read
theorem we (i j:Nat){y:Str}{q:Pos}{k:Nat}(o:X.calm=true)(h:X.N.Nodup)(l:X.N[i]? =some x:=by rfl)(f:Loc X.env.scope x:=by first|exact Or.inl rfl|exact Or.inr rfl)(hf:X.fn x=true∨X.env.scope.names.lookup x=some .local:=by first|exact .inl rfl|exact .inr rfl)
  (g:X.N[j]? =some y:=by rfl)(d:Loc X.env.scope y:=by first|exact Or.inl rfl|exact Or.inr rfl)(n:X.fn y=true∨X.env.scope.names.lookup y=some .local:=by first|exact .inl rfl|exact .inr rfl):wB X (.Tuple [.Name x p,.Name y q] k pos) (jj i j):=by
 try simp only[zZ]at*
 exact PG.imp (V1 o (JO (JS h l f hf) (JO (JS h g d n) VL))) λ v σ H Q ⟨φ,A,ρ,w,b,S,re,c,e,kk⟩=>by
   unfold jj at e
   split at e
   ·rename_i x1 Y
    have E:=aB e;subst E;obtain⟨a,vs,rfl,s,rs⟩:=c;obtain⟨v1,z,rfl,t,v2,u,rfl,r,rfl⟩:=rs;exact⟨a,[v1,v2],rfl,s,rfl,v1,[v2],rfl,v2,[],rfl,rfl,kk _ ((re.set t).set r)⟩
   ·cases e
theorem FN (i j k:Nat){y z:Str}{q r pp:Pos}{s:Nat}(f:X.calm=true)(c:X.N.Nodup)(I:X.N[i]? =some x:=by rfl)(B:Loc X.env.scope x:=by first|exact Or.inl rfl|exact Or.inr rfl)(hf:X.fn x=true∨X.env.scope.names.lookup x=some .local:=by first|exact .inl rfl|exact .inr rfl)
  (E:X.N[j]? =some y:=by rfl)(u:Loc X.env.scope y:=by first|exact Or.inl rfl|exact Or.inr rfl)(K:X.fn y=true∨X.env.scope.names.lookup y=some .local:=by first|exact .inl rfl|exact .inr rfl)
  (D:X.N[k]? =some z:=by rfl)(t:Loc X.env.scope z:=by first|exact Or.inl rfl|exact Or.inr rfl)(J:X.fn z=true∨X.env.scope.names.lookup z=some .local:=by first|exact .inl rfl|exact .inr rfl):
  wB X (.Tuple [.Name x p,.Tuple [.Name y q,.Name z r] s pp] n pos) (Gr i j k):=by
 try simp only[zZ]at*
 exact PG.imp (V1 f (JO (JS c I B hf) (JO (V1 f (JO (JS c E u K) (JO (JS c D t J) VL))) VL))) λ v σ H Q ⟨φ,A,ρ,w,g,S,re,o,e,kk⟩=>by
   unfold Gr at e
   split at e
   ·rename_i x1 Y Z
    have U:=aB e;subst U;obtain⟨a,vs,rfl,C,rs⟩:=o;obtain⟨v1,r1,rfl,T,v2,r2,rfl,P,rfl⟩:=rs;obtain⟨a2,l,rfl,h,b⟩:=P;obtain⟨d,r3,rfl,M,v4,r4,rfl,L,rfl⟩:=b;exact⟨a,[v1,.ref a2],rfl,C,rfl,v1,[.ref a2],rfl,.ref a2,[],rfl,a2,[d,v4],rfl,h,rfl,d,[v4],rfl,v4,[],rfl,rfl,rfl,kk _ (((re.set T).set M).set L)⟩
   ·cases e
theorem qI (i:Nat)(c:X.N.Nodup)(b:X.N[i]? =some x:=by rfl)(h:Loc X.env.scope x:=by first|exact Or.inl rfl|exact Or.inr rfl)(hf:X.fn x=true∨X.env.scope.names.lookup x=some .local:=by first|exact .inl rfl|exact .inr rfl):wB X (.Name x pos) (zN i):=by
 try simp only[zZ]at*
 exact PG.imp (JS c b h hf) λ v σ H Q ⟨φ,A,ρ,w,a,S,re,q,e,k⟩=>by
   have E:ρ.set i (some w)=a:=aB e;subst E;exact k _ (re.set q)
theorem yq (h:zD X xr e m):wb X xr tg e (qC m):=by
 try simp only[zZ]at*
 exact PI.imp (zat h) λ σ H Rr ⟨φ,A,ρ,S,re,h⟩=>by
  refine tM.go S re (zW.mp h) λ w A1 f H1 v d P N Q=>?_;unfold KQ at d;cases e:zR w A1 with
  |none=>rw[e]at d;exact d.elim|some ws=>
   rw[e]at d;dsimp only at d;cases w with
   |tup us=>
    obtain⟨a,ys,rfl,g,q⟩:=Q;refine⟨a,rfl,.inr ⟨⟨ys,g⟩,d f H1 _ P N λ i c j A' lw s=>⟨λ B b=>?_,λ b=>?_⟩⟩⟩
    ·have E:us[i]? =some B:=aB b
     obtain⟨y,l,D⟩:=(q.monoW lw).get E;refine⟨⟨ys,y,lw.tp _ _ g,l⟩,λ x Z u=>?_⟩;obtain⟨M,L⟩:=u;subst M;have p:=L ys (lw.tp _ _ g);rw[l]at p;cases p;exact⟨.refl,s,D⟩
    ·have E:us[i]? =none:=aB b
     refine⟨ys,lw.tp _ _ g,?_⟩;rw[<- q.length];exact List.getElem?_eq_none_iff.mp E
   |ref n=>
    obtain⟨a,rfl,g⟩:=Q;have read:∀{c j A' us},Zq X.K f H1 c j->zM X.K c A' j->zR (.ref n) A'=some us->∃ys,ji X.K j a ys/\zG X.K c j us ys:=λ {c j A' us} lw s es=>by
     obtain⟨U,ys,T,z,r⟩:=Wq (w:=.ref n) (v:=.ref a) s ⟨a,rfl,lw.ex _ _ g⟩ es;cases T;unfold zR at es;dsimp only at es;cases J:A'[n]? with
     |none=>rw[J]at es;cases es|some o=>
      rw[J]at es;obtain⟨U,q,r⟩:=s.ob n o J;rw[lw.ex _ _ g]at q;cases q;cases o with
      |lst xs=>cases es;obtain⟨ys,d,I⟩:=r;exact⟨ys,ji.of d,I⟩|ro xs=>cases es;obtain⟨ys,d,I⟩:=r;exact⟨ys,d.sq,I⟩|dct xs=>cases es|tab _ _=>cases es
    obtain⟨Y,C,_⟩:=read ⟨λ _ _ h=>h,λ _ _ h=>h,λ _ _ _ h=>h⟩ N e;refine⟨a,rfl,.inl ⟨⟨Y,C⟩,d f H1 _ P N λ i c j A' lw s=>⟨λ B b=>?_,λ b=>?_⟩⟩⟩
    ·dsimp only at b
     cases es:zR (.ref n) A' with
     |none=>rw[es]at b;cases b|some us=>
      rw[es]at b;have E:us[i]? =some B:=aB b;obtain⟨ys,t,r⟩:=read lw s es;obtain⟨y,l,D⟩:=r.get E;refine⟨⟨ys,y,t,l⟩,λ x Z u=>?_⟩;obtain⟨M,L⟩:=u;subst M;have p:=L ys t;rw[l]at p;cases p;exact⟨.refl,s,D⟩
    ·dsimp only at b
     cases es:zR (.ref n) A' with
     |none=>rw[es]at b;cases b|some us=>
      rw[es]at b;have E:us[i]? =none:=aB b;obtain⟨ys,t,r⟩:=read lw s es;refine⟨ys,t,?_⟩;rw[<- r.length];exact List.getElem?_eq_none_iff.mp E
   |non=>cases e|bl _=>cases e|clo _ _ _=>cases e|xc _=>cases e|int _=>cases e|str _=>cases e
theorem JR (g:Gl X "enumerate")(hm:X.mg "enumerate" = none)(e:zD X xr a ma)(s:starEach [a] X.env=[(false,eval a X.env)]:=by rfl):wb X xr (.Tuple elts kk tpos) (.Call (.Name "enumerate" p) [a] [] pos) (kT ma):=by
 try simp only[zZ]at*
 exact PI.imp (CB g hm (jm e j9 (by rw[s];rfl)) s) λ σ H r ⟨φ,A,ρ,S,re,h⟩=>by
   refine tM.go S re (zW.mp h) λ w A1 c H1 v b l d q=>?_;cases es:zR w A1 with
   |none=>rw[es]at b;exact b.elim|some ws=>
    rw[es]at b;obtain⟨p,ys,rfl,z,Z⟩:=WQ d q es;exact⟨p,QE w,ys,rfl,z,b c H1 _ l d (zaR q)⟩
theorem HY (r:zD X xr a ma)(d:attributeBase a "items" X.env (eval a X.env)=eval a X.env:=by rfl)(e:(apos.endLine==cpos.line)=true:=by rfl):
  wb X xr (.Tuple elts kk tpos) (.Call (.Attribute a "items" apos) [] [] cpos) (Ko ma):=by
 try simp only[zZ]at*
 exact PI.imp (F0 r d e) λ σ H x ⟨φ,A,ρ,S,re,h⟩=>by
   unfold Ko at h;cases A with
   |cons o A=>exact h.elim|nil=>
    dsimp only at h;have i:φ=[]:=by have:=S.len;simpa using this
    subst i;refine tM.go S re (zW.mp h) λ w A1 j H1 v f l s q=>?_
    split at f
    ·rename_i kvs
     by_cases hn:qY (kvs.map (·.2))=true
     ·rw[ag hn]at f
      obtain⟨p,us,rfl,f1,g1,g2,g3⟩:=s.dct q (kvs:=kvs) rfl;have h0:H p=none:=by
       rcases l.nw 0 p f1 with z|z
       ·simp at z
       ·exact z
      refine⟨p,us,rfl,g1,λ o=>?_⟩;have tp:∀c vs,qD X.K H1 c vs->qD X.K (upd H1 p (.frz o (.dK us))) c vs:=λ c vs t=>Gh t (λ xs z=>by rw[g1]at z;cases z) (λ _ _ z=>by rw[g1]at z;cases z)
      have le:Le X.K [] H [] (upd H1 p (.frz o (.dK us))):=by
       refine⟨λ n c z=>z,λ c vs t=>tp c vs (l.tp c vs t),λ c u b nn=>?_,λ n c z=>.inl z,λ c z=>?_,λ c u U b=>?_⟩
       ·rw[qj (kC b h0)];exact l.fr c u b nn
       ·by_cases g:c=p
        ·rw[g];exact h0
        ·rw[qj g]at z;exact l.st c z
       ·rw[qj (kC b h0)];exact l.fz c u U b
      exact f [] _ _ le zM.none (zbH (o:=o) jD g2 (g3.nrm tp (λ c u U b=>by rw[qj (Yi b g1 (by intro z;cases z))];exact b) hn) hn)
     ·rw[ak hn]at f;exact f.elim
    ·exact f.elim
theorem jW (g:Gl X "range")(hm:X.mg "range" = none)(e:zD X xr a ma)(s:starEach [a] X.env=[(false,eval a X.env)]:=by rfl):wb X xr tg (.Call (.Name "range" p) [a] [] pos) (qW ma):=by
 try simp only[zZ]at*
 exact PI.imp (Fw g hm (jm e j9 (by rw[s];rfl)) s) λ σ H r ⟨φ,A,ρ,S,re,h⟩=>by
   refine tM.go S re (zW.mp h) λ w A1 c H1 v b l i q=>?_;cases w with
   |int j=>
    obtain rfl:=q;dsimp only at b
    by_cases d:j0 j=true
    ·rw[ag d]at b
     obtain⟨f,B⟩:=JH d;exact⟨j,rfl,f,B,b c H1 _ l i Ax⟩
    ·rw[ak d]at b;exact b.elim
   |non=>exact b.elim|bl _=>exact b.elim|str _=>exact b.elim|tup _=>exact b.elim|ref _=>exact b.elim|clo _ _ _=>exact b.elim|xc _=>exact b.elim
theorem JT (r:Gl X "zip")(hm:X.mg "zip" = none)(u:zD X xr a ma)(t:zD X xr b mb)(g:starEach [a,b] X.env=(false,eval a X.env)::starEach [b] X.env:=by rfl)(e:starEach [b] X.env=(false,eval b X.env)::starEach [] X.env:=by rfl)(o:(backTo pos (starEach [b] X.env)).any (·.1)=false:=by rfl):
  wb X xr (.Tuple elts kk tpos) (.Call (.Name "zip" p) [a,b] [] pos) (k9 ma mb):=by
 try simp only[zZ]at*
 exact PI.imp (BS r hm (jm u (jm t j9 e) g) g o) λ σ H E ⟨φ,A,ρ,S,re,h⟩=>by
   refine tM.go S re (zW.mp h) λ w A1 i H1 v x l y n=>?_;refine tM.go y (re.mono l) (qt (zW.mp x) (λ _ _ z=>z) λ _ _ z=>z.mono l) λ f A2 d B v2 c L s Q=>?_;cases es:zR w A2 with
   |none=>rw[es]at c;exact c.elim|some us=>
    cases es':zR f A2 with
    |none=>rw[es,es']at c;exact c.elim|some vs=>
     rw[es,es']at c;have q:=n.mono L;obtain⟨p,xs,rfl,j,D⟩:=WQ s q es;obtain⟨P,ys,rfl,Z,C⟩:=WQ s Q es';exact⟨p,P,QE w,QE f,xs,ys,rfl,j,Z,c d B _ (l.trans L) s (zbL q Q)⟩
theorem D2 {d:Nat}{me:Ev}(x:∀e s,X.xe e s->False)(he:zD X yc elt me)(o:gens[d+1]? =none):gQ X elt gens sc pos d (zK me):=by
 try simp only[zZ]at*
 exact wa.imp (PC x he o) λ D σ H Q ⟨φ,A,ρ,acc,ys,S,re,p,n,r,h⟩=>by
   refine tM.go S re (Y2 (zW.mp h)) λ w A1 g H1 v f l t q=>?_;obtain⟨c,n1⟩:=l.off p n
   by_cases z:acc.length<zX
   ·rw[ag z]at f
    have j:=r.length;refine⟨ys,c,?_,?_⟩
    ·rw[<- j]
     have:sizeLine=16777216:=sizeLine_eq
     unfold zX at z;omega
    ·exact f g _ σ _ (l.toD.trans (yw.upd c)) n1 (t.off c n1) ⟨re.len,λ i w e=>let ⟨v,a,b⟩:=re.get i w e;⟨v,a,(b.mono l).monoD (yw.upd c)⟩⟩ jD
      (((r.mono l).monoD (yw.upd c)).append (.one (q.monoD (yw.upd c))))
   ·rw[ak z]at f;exact f.elim
theorem OM {d:Nat}{mi:Ei}{tw:Tg}{M:Ev}{em:Em}(o:∀e s,X.xe e s->False)(w:X.calm=true)(v:gens[d+1]? =some ⟨tg,iter,ifs,0⟩)(y:∀g',gens[d+2]? =some g'->g'.is_async=0)
  (hw:wb X yc tg iter mi)(t:wB X tg tw)(u:Zh X ifs M)(hm:gQ X elt gens sc pos (d+1) em)(q:∀x,foldedSetIterable iter X.env x=pure x:=by intro _;rfl):gQ X elt gens sc pos d (Z3 mi tw M em):=by
 try simp only[zZ]at*
 exact wa.imp (Ee o w v y hw t u hm q) λ D σ H Q ⟨φ,A,ρ,acc,ys,S,re,B,n,f,h⟩=>by
   refine⟨φ,A,ρ,S,re,qt (Y2 (zW.mp h)) (λ j A1 E c H1 J l T i=>?_) λ _ _ z=>z⟩;obtain⟨K,n1⟩:=l.off B n;exact qR.read i T (re.mono l) K n1 (f.mono l) (qt E (λ p A2 C a U b zs L N P r I g=>C a U b zs (l.toD.trans L) N P r I g) λ _ _ z=>z)
theorem yf (h:zD X xr e m):gx X xr e (qf m):=by
 try simp only[zZ]at*
 exact PE.imp h λ σ H Q ⟨φ,A,ρ,S,re,h⟩=>by
  refine tM.go S re (zW.mp h) λ w A1 c H1 v b l s q=>?_;cases e:zR w A1 with
  |none=>rw[e]at b;exact b.elim|some ws=>
   rw[e]at b;obtain⟨a,ys,rfl,d,E⟩:=Wq s q e;exact b c H1 a ys l s d E
theorem yU {q:jY}(h:Qi X xr e q):gx X xr e q:=by
 try simp only[zZ]at*
 exact PE.imp h λ σ H Q ⟨φ,A,ρ,S,re,h⟩=>
  ⟨φ,A,ρ,S,re,qt h (λ ws A1 c a H1 D ys l s h0 b n r=>c a H1 D ys l s (.inl (ji.of b)) r) λ _ _ z=>z⟩
theorem Ef {o i:Expr}{mo mi:Ev}(ho:zD X xr o mo)(hi:zD X xr i mi)(he:zD X xr e m)
  (ha:∀c I new,augStore i c I new=(do holding [new,c,I] (setItem c I new);release [new,c,I] [];pure .next):=by intros;rfl):kf X xr (.AugAssign (.Subscript o i tpos) .Add e pos) (Ks mo mi m):=by
 try simp only[zZ]at*
 exact PS.imp (C1 ho hi Dt he Am set_list ha) λ D σ H ⟨φ,A,ρ,S,re,h⟩=>by
   refine tM.go S re (zW.mp h) λ U A1 N H1 v1 h1 q S1 Q=>?_;refine tM.go S1 (re.mono q) (qt (zW.mp h1) (λ _ _ z=>z) λ _ _ z=>z.mono q) λ w A2 M H2 v2 a j B q2=>?_;have l:=q.trans j;cases U with
   |ref n=>cases w with
    |int k=>
     obtain rfl:=q2;dsimp only at a
     by_cases h0:0<=k
     ·rw[ag h0]at a
      cases d:(A2[n]?:Option O) with
      |none=>rw[d]at a;exact a.elim|some ob=>cases ob with
       |lst ws=>
        rw[d]at a;dsimp only at a;obtain⟨p,vs,rfl,f1,g1,Z⟩:=B.lst (Q.mono j) d;cases E:ws[k.toNat]? with
        |none=>rw[E]at a;exact a.elim|some P=>cases P with
         |int x=>
          rw[E]at a;dsimp only at a;obtain⟨v,hv,Y⟩:=Z.get E;obtain rfl:=Y;refine⟨p,vs,k,_,rfl,rfl,h0,g1,hv,?_⟩;refine tM.go B (re.mono l) (qt (zW.mp a) (λ _ _ z=>z) λ _ _ z=>z.mono l) λ T J g H3 v3 b t S3 q3=>?_;have L:=l.trans t;cases T with
          |int y=>
           obtain rfl:=q3;dsimp only at b;refine⟨x,y,rfl,rfl,?_⟩;refine Oj (K:=X.K) g J H3 (.ref p) (.int k) (.int (x+y)) (.ref n) (.int k) (.int (x+y)) _ S3 ((Q.mono j).mono t) rfl rfl ?_;cases r:gn (.ref n) (.int k) (.int (x+y)) J with
           |ok u C=>
            rw[r]at b;exactλ f H4 s S4=>b f H4 σ (L.trans s) S4 (re.mono (L.trans s))
           |exc z C=>exact absurd r (O8 _ _ _ _ z C)|bad=>rw[r]at b;exact b.elim
          |_=>exact b.elim
         |_=>rw[E]at a;exact a.elim
       |_=>rw[d]at a;exact a.elim
     ·rw[ak h0]at a;exact a.elim
    |_=>exact a.elim
   |_=>cases w<;>exact a.elim
theorem zy (a:kf X xr st m1)(d:kx X xr rest m2):kx X xr (st::rest) (zr m1 m2):=by
 try simp only[zZ]at*
 exact yQ.imp (Dy a d) λ D σ H ⟨φ,A,ρ,S,re,h⟩=>by
   refine⟨φ,A,ρ,S,re,qt (zW.mp h) (λ f A1 a=>?_) λ _ _ z=>z⟩;cases f with
   |nx ρ1=>exactλ b e c l s r=>⟨b,A1,ρ1,s,r,qt a (λ _ _ z=>z.mono l) λ _ _ z=>z.mono l⟩|rt w=>exact a|bk ρ1=>exact a|ct ρ1=>exact a
theorem yS (he:zD X xr e m)(s:swapsWith e none pos.line X.env=pure false:=by rfl):kf X xr (.Expr e pos) (jx m):=by
 try simp only[zZ]at*
 exact PS.imp (CJ he s) λ D σ H ⟨φ,A,ρ,S,re,h⟩=>tM.go S re (zW.mp h) λ w A1 a H1 v b l c q=>b a H1 σ l c (re.mono l)
theorem wj {mi:Ei}{tw:Tg}(hp:PassesOwn (model X.prog X.w) X.A X.env X.xe)(hc:X.calm=true)(hi:wb X xr tg iter mi)(hg:wB X tg tw)(hb:kx X xr body m1)
  (hs:∀x,foldedSetIterable iter X.env x=pure x:=by intro _;rfl):kf X xr (.For tg iter body [] pos) (yv mi tw m1):=by
 try simp only[zZ]at*
 exact PS.imp (BU hp hc hi hg hb hs) λ D σ H ⟨φ,A,ρ,S,re,h⟩=>by
   refine⟨φ,A,ρ,S,re,qt (zW.mp h) (λ j A1 h1 g H1 J P S1 jr=>?_) λ _ _ z=>z⟩;refine⟨λ i f d I=>NY X.K xr j (turn tw m1) D g H1 f i d I,
    ⟨j.len,g,A1,ρ,.refl,S1,re.mono P,qt h1 (λ _ _ z=>z.mono P) λ _ _ z=>z.mono P⟩,?_⟩
   rintro i f M Y ⟨c,A2,q,u,U,t,b⟩
   obtain⟨j1,j2⟩:=jr i c Y A2 ⟨u.ex,u.tp,u.fz⟩ U;cases E:j.at_ A2 i with
   |none=>cases f<;>(unfold yo at b;rw[E]at b;exact b.elim)|some o=>
    cases o with
    |none=>
     left
     refine⟨j2 E,?_⟩;cases f<;>(unfold yo at b;rw[E]at b;exact b c Y M .refl U t)
    |some w=>
     right
     obtain⟨go,yl⟩:=j1 w E;cases f with
     |zero=>unfold yo at b;rw[E]at b;exact b.elim|succ f=>
      unfold yo at b;rw[E]at b;refine⟨go,λ d I=>NY X.K xr j (turn tw m1) D g H1 f (i+1) d I,λ d I z=>⟨f,bg _,z⟩,λ x H3 y=>?_⟩;obtain⟨L,T,q3⟩:=yl x H3 y;have v:=zW.mp b;unfold turn at v;cases Q:tw w q with
      |none=>rw[Q]at v;exact v.elim|some p=>
       rw[Q]at v;refine⟨c,A2,q,w,p,T,t.mono L,q3,Q,λ σ3 N=>?_⟩;refine⟨c,A2,p,T,N,qt v (λ fl Z C=>?_) λ _ _ z=>z.mono L⟩;cases fl with
       |nx e=>exactλ a B n l s r=>⟨a,Z,e,(u.trans L).trans l,s,r,qt C (λ _ _ z=>z.mono (L.trans l)) λ _ _ z=>z.mono (L.trans l)⟩|ct e=>exactλ a B n l s r=>⟨a,Z,e,(u.trans L).trans l,s,r,qt C (λ _ _ z=>z.mono (L.trans l)) λ _ _ z=>z.mono (L.trans l)⟩|bk e=>exactλ a B n l s r=>C a B n (L.trans l) s r|rt w4=>exactλ a B v4 l s q4=>C a B v4 (L.trans l) s q4
theorem jP {sa s:List Stmt}(e:yI X xr c mc)(g:kx X xr sa m1)(f:kx X xr s m2):kf X xr (.If c sa s pos) (qM mc m1 m2):=by
 try simp only[zZ]at*
 exact PS.imp (zbF e g f) λ D σ H ⟨φ,A,ρ,S,re,h⟩=>by
   refine tT.go S re (zW.mp h) λ w A1 a=>?_;cases w with
   |bl k=>
    refine⟨k,rfl,λ b H1 l d=>?_⟩;cases k with
    |true=>rw[ag rfl];exact⟨b,A1,ρ,d,re.mono l,qt a (λ _ _ z=>z.mono l) λ _ _ z=>z.mono l⟩|false=>rw[ak aA];exact⟨b,A1,ρ,d,re.mono l,qt a (λ _ _ z=>z.mono l) λ _ _ z=>z.mono l⟩
   |non=>cases a|int _=>cases a|str _=>cases a|tup _=>cases a|ref _=>cases a|clo _ _ _=>cases a|xc _=>cases a
theorem zJ:kx X xr [] zA:=by
 try simp only[zZ]at*
 exact yQ.imp Cm λ D σ H ⟨φ,A,ρ,S,re,h⟩=>h φ H σ .refl S re
theorem qo (he:zD X xr e m):kf X xr (.Return (some e) pos) (qd m):=by
 try simp only[zZ]at*
 exact PS.imp (AU he) λ D σ H ⟨φ,A,ρ,S,re,h⟩=>tM.go S re (zW.mp h) λ w A1 a H1 v b l s q=>b a H1 v l s q
theorem qw (i:Nat){pos':Pos}(b:X.N.Nodup)(he:zD X xr e m)(a:X.N[i]? =some x:=by rfl)(h:Loc X.env.scope x:=by first|exact Or.inl rfl|exact Or.inr rfl)(H:swapsWith e (some (.Name x pos')) pos.line X.env=pure false:=by rfl)
  (hf:X.fn x=true∨X.env.scope.names.lookup x=some .local:=by first|exact .inl rfl|exact .inr rfl):kf X xr (.Assign [.Name x pos'] e pos) (zY i m):=by
 try simp only[zZ]at*
 exact PS.imp (zaz b a h he H hf) zY.read
theorem X6 (i:Nat){mi:Ei}{tw:Tg}{M:Ev}{em:Em}{P a:Pos}(nl:Nat)(cap:List Nat)(j:X.N.Nodup)
  (e:X.calm=true)(S:Zb X sc)(p:Z7 X.N N sc nl cap=true)(hw:wb X xr tg iter mi)
  (n:∀s H fp,wB (jk X N sc s H fp jR) tg tw/\Zh (jk X N sc s H fp jR) ifs M/\gQ (jk X N sc s H fp jR) elt (⟨tg,iter,ifs,0⟩::gs) sc pos 0 em)
  (b:X.N[i]? =some x:=by rfl)(c:X.env.scope.names.lookup x=some .local:=by rfl)
  (w:swapsWith (.ListComp elt (⟨tg,iter,ifs,0⟩::gs) sc pos) (some (.Name x P)) a.line X.env=pure true:=by rfl)
  (f:∀g',gs[0]? =some g'->g'.is_async=0:=by intro _ h;cases h<;>rfl)
  (d:∀x,foldedSetIterable iter X.env x=pure x:=by intro _;rfl):kf X xr (.Assign [.Name x P] (.ListComp elt (⟨tg,iter,ifs,0⟩::gs) sc pos) a) (zY i (qp (zS nl cap mi tw M em))):=by
 try simp only[zZ]at*
 exact PS.imp (L2.Hj (g:=tG X.K tw) (ti:=tT X.K yc M) (tm:=tE X.K em) j b c w e S p f hw n d) λ D σ H h=>zS.read σ H _ (qp.read σ H _ (zY.read D σ H h))
theorem Y6 (h:gR X xr e m):yI X xr e m:=by
 try simp only[zZ]at*
 exact PW.pt h
theorem yt {g:W->W->Hx->R W}(h:gc X op g)(c:zD X xr a ma)(H:zD X xr b mb)(e:op≠.In:=by decide)(d:op≠.NotIn:=by decide):yI X xr (.Compare a [op] [b] pos) (zo g ma mb):=by
 try simp only[zZ]at*
 exact let ⟨r,a1,a2,A⟩:=h.ex;OW a1 a2 A c H (h.mks b e d)
theorem BO {o:CmpOp}{g g':W->W->Hx->R W}(h:gc X op g)(h':gc X o g')(e:zD X xr a ma)(d:zD X xr b mb)(H:zD X xr c mc)(hm:lastMarks [op,o] [b,c]=false:=by with_unfolding_all rfl):
  yI X xr (.Compare a [op,o] [b,c] pos) (ku g g' ma mb mc):=by
 try simp only[zZ]at*
 exact let ⟨r,a1,a2,A⟩:=h.ex;let ⟨j,i,f,B⟩:=h'.ex;FY a1 a2 A i f B e d H hm
theorem zaa {g:W->W->Hx->R W}(h:U3 X op g)(c:zD X xr a ma)(H:zD X xr b mb)(hm:behindInMarks op b=false:=by rfl):yI X xr (.Compare a [op] [b] pos) (zo g ma mb):=by
 try simp only[zZ]at*
 exact let ⟨r,a1,a2,A⟩:=h.ex;OW a1 a2 A c H hm
theorem Za (f:yI X xr a ma):yI X xr (.UnaryOp .Not a pos) (yH ma):=by
 try simp only[zZ]at*
 exact PT.imp (Az f) λ σ H Q ⟨φ,A,ρ,S,re,h⟩=>by
   refine tT.go S re (zW.mp h) λ w A1 c=>?_;cases w with
   |bl k=>obtain⟨b,e,q⟩:=c;cases e;exact⟨k,rfl,λ d H1 l s=>q d H1 l s⟩|non=>cases c|int _=>cases c|str _=>cases c|tup _=>cases c|ref _=>cases c|clo _ _ _=>cases c|xc _=>cases c
theorem w6 (h:zD X xr e m)(he:∀whole,isTrue e X.env whole=(do let v <- whole;standAt e.pos;holding [v] (truthy v)):=by intro _;rfl):yI X xr e m:=by
 try simp only[zZ]at*
 exact PT.imp (Aj h he) λ σ H Q h=>h.toM
theorem qO:Zh X [] (zi (.bl true)):=by
 try simp only[zZ]at*
 exact Mi.OH
theorem PR (h:yI X yc c mc):Zh X [c] mc:=by
 try simp only[zZ]at*
 exact Es h
theorem CP {rest:List Expr}(g:yI X xr a ma)(f:gR X xr (.BoolOp .And (b::rest) pos) mb):gR X xr (.BoolOp .And (a::b::rest) pos) (ka ma mb):=by
 try simp only[zZ]at*
 exact PW.imp (pw_and g f) λ σ H Q ⟨φ,A,ρ,S,re,h⟩=>by
   refine tT.go S re (zW.mp h) λ w A1 c=>?_;cases w with
   |bl k=>
    refine⟨k,rfl,λ d H1 l s=>?_⟩;cases k with
    |true=>rw[ag rfl];exact tT.mono s l re c|false=>rw[ak aA];obtain⟨b,e,q⟩:=c;cases e;exact q d H1 l s
   |non=>cases c|int _=>cases c|str _=>cases c|tup _=>cases c|ref _=>cases c|clo _ _ _=>cases c|xc _=>cases c
theorem Dm (h:yI X xr a ma):gR X xr (.BoolOp .And [a] pos) ma:=by
 try simp only[zZ]at*
 exact pw_and1 h
theorem Gq {rest:List Expr}(g:yI X xr a ma)(f:gR X xr (.BoolOp .Or (b::rest) pos) mb):gR X xr (.BoolOp .Or (a::b::rest) pos) (gW ma mb):=by
 try simp only[zZ]at*
 exact PW.imp (pw_or g f) λ σ H Q ⟨φ,A,ρ,S,re,h⟩=>by
   refine tT.go S re (zW.mp h) λ w A1 c=>?_;cases w with
   |bl k=>
    refine⟨k,rfl,λ d H1 l s=>?_⟩;cases k with
    |false=>rw[ak aA];exact tT.mono s l re c|true=>rw[ag rfl];obtain⟨b,e,q⟩:=c;cases e;exact q d H1 l s
   |non=>cases c|int _=>cases c|str _=>cases c|tup _=>cases c|ref _=>cases c|clo _ _ _=>cases c|xc _=>cases c
theorem W9 (h:yI X xr a ma):gR X xr (.BoolOp .Or [a] pos) ma:=by
 try simp only[zZ]at*
 exact pw_or1 h
theorem jI {K:Frag}{st:Stmt}{k:Nat}{m:Ex}(F:kN K x x st f fd)(hm:mg x=some (.ref f))(S:qN N ps (qg st))
  (i:∀(kV doc pm:Value)(an:Option Addr)(c ct:Value)(us:List Value),us.length=ps.length->bindArgs (fnOf x x (ZY st) (yn st) (qg st) .none kV doc pm an c ct) ⟨us,[]⟩=pure (ps.zip us))
  (a:∀(c:Value)(A:Around)(outer:List Env)(s:Shared)(H:Hp)(E:XK),ju k (A.deeper (envOfC x (qg st) s.heap.objs.size f c))->kx (wt wC P w K mg base N x (qg st) f c A outer s H E).nox yc (yn st) m):
  zL P w K mg base (k+1) x ps.length (qH N.length m):=by
 try simp only[zZ]at*
 refine⟨f,fd,ps,?_,hm,F.kp,F.binds i⟩;refine F.ok S (λ vs H Q E h=>h.len) λ c A outer s H vs Q E g ⟨p,φ,A1,ws,Sm,r,h⟩=>⟨_,a c A outer s H E g,?_⟩;refine⟨φ,A1,ws.map some++List.replicate (N.length - ws.length) none,Sm,RE.start r,?_⟩;have h':=zW.mp h;show R.post _ (FB K φ H _) _;cases e:m (ws.map some++List.replicate (N.length - ws.length) none) A1 with
 |ok j A2=>
  rw[e]at h';cases j with
  |rt w=>exact h'|nx ρ=>exactλ b o d l n _=>h' b o .non l n rfl|bk ρ=>exact h'.elim|ct ρ=>exact h'.elim
 |exc y A2=>
  rw[e]at h';exact h'.elim
 |bad=>rw[e]at h';exact h'.elim
theorem zcA {K:Frag}{st:Stmt}{k:Nat}{m:Ex}(F:kN K x x st f fd)(S:qN N ps (qg st))
  (a:∀(c:Value)(A:Around)(outer:List Env)(s:Shared)(H:Hp)(E:XK),ju k (A.deeper (envOfC x (qg st) s.heap.objs.size f c))->kx (wt wC P w K mg base N x (qg st) f c A outer s H E).nox yc (yn st) m):
  yN P w K mg base wC (k+1) f fd ps (Zr K ps.length (qH N.length m)):=by
 try simp only[zZ]at*
 refine F.ok S (λ vs H Q E h=>h.len) λ c A outer s H vs Q E g ⟨o,φ,A1,ws,Sm,r,h⟩=>⟨_,a c A outer s H E g,?_⟩;refine⟨φ,A1,ws.map some++List.replicate (N.length - ws.length) none,Sm,RE.start r,?_⟩;have h':=zW.mp h;show R.post _ (FB K φ H _) _;cases e:m (ws.map some++List.replicate (N.length - ws.length) none) A1 with
 |ok i A2=>
  rw[e]at h';cases i with
  |rt w=>exact h'|nx ρ=>exactλ b n d l j _=>h' b n .non l j rfl|bk ρ=>exact h'.elim|ct ρ=>exact h'.elim
 |exc y A2=>rw[e]at h';exact h'.elim|bad=>rw[e]at h';exact h'.elim
theorem VS (hm:X.mg "abs" = none)(a:zD X xr e m)(h:Gl X "abs" := by rfl)(he:starEach [e] X.env=(false,eval e X.env)::starEach [] X.env:=by rfl):zD X xr (.Call (.Name "abs" p) [e] [] pos) (jJ Kz m):=by
 try simp only[zZ]at*
 exact zbA Dq (λ w A=>by unfold Kz;split;exact yb;exact je) (λ φ A H x u Q S q p=>by
   cases u with
   |int i=>obtain rfl:=q;exact⟨i,rfl,p φ H _ .refl S rfl⟩|_=>exact p.elim) hm (by rfl) a h (by decide) (by decide) he (by rfl)
theorem Zw (i:zD X xr a ma)(he:zD X xr b mb)(s:starEach [b] X.env=(false,eval b X.env)::starEach [] X.env:=by rfl)
  (e:attributeBase a "append" X.env (eval a X.env)=eval a X.env:=by rfl)
  (w:((backTo cpos (starEach [b] X.env)).all (λ x=>!x.1)&&(backToKw cpos (keywordEach [] X.env)).all (λ x=>x.1.isSome)
   && decide ([b].length+([]:List Keyword).length+(if ([]:List Keyword).isEmpty then 0 else 1)<30))=true:=by rfl)(h:(apos.endLine==cpos.line)=true:=by rfl):
  zD X xr (.Call (.Attribute a "append" apos) [b] [] cpos) (jQ j4 ma mb):=by
 try simp only[zZ]at*
 exact UK PySem.F.slot_list_append PySem.F.type_list_append R7 Fj (λ φ A H x y u v Q S g q p=>by
   unfold j4 at p;cases u with
   |ref n=>
    dsimp only at p;cases E:A[n]? with
    |none=>rw[E]at p;exact p.elim|some o=>cases o with
     |lst ws=>
      rw[E]at p;dsimp only at p
      by_cases c:ws.length<zX
      ·rw[ag c]at p
       obtain⟨l,vs,rfl,f1,g1,r⟩:=S.lst g E;refine⟨l,vs,y,rfl,rfl,g1,?_,?_⟩
       ·rw[<- r.length]
        have:sizeLine=16777216:=sizeLine_eq
        unfold zX at c;omega
       ·have ln:Le X.K φ H φ (upd H l (.lst (vs++[y]))):=Le.upd f1 (λ xs z=>by rw[g1]at z;cases z) (λ _ _ z=>by rw[g1]at z;cases z)
        obtain⟨f,d⟩:=S.write (o:=.lst ws) (o':=.lst (ws++[v])) E rfl rfl f1 ⟨_,jD,(r.mono ln).append (.one (q.mono ln))⟩;exact p _ _ _ f d rfl
      ·rw[ak c]at p;exact p.elim
     |_=>rw[E]at p;exact p.elim
   |_=>exact p.elim) i he s e w h
theorem JK (hm:X.mg "int" = none)(a:zD X xr e m)(h:Gl X "int" := by rfl)(he:starEach [e] X.env=(false,eval e X.env)::starEach [] X.env:=by rfl):zD X xr (.Call (.Name "int" p) [e] [] pos) (jJ Zj m):=by
 try simp only[zZ]at*
 exact Aa Fo (λ w A=>by unfold Zj;split;exact yb;exact yb;exact je) (λ φ A H x u Q S q p=>by
   cases u with
   |int i=>obtain rfl:=q;exact .inl ⟨i,rfl,p φ H _ .refl S rfl⟩|bl k=>obtain rfl:=q;exact .inr ⟨k,rfl,p φ H _ .refl S rfl⟩|_=>exact p.elim) hm (by rfl) a h (by decide) (by decide) he (by rfl)
theorem Dr (e:X.calm=true)(hm:X.mg "max" = none)(o:zD X xr a ma)(n:zD X xr b mb)(l:Gl X "max" := by rfl)(s:starEach [a,b] X.env=(false,eval a X.env)::starEach [b] X.env:=by rfl)(r:starEach [b] X.env=(false,eval b X.env)::starEach [] X.env:=by rfl)(h:(backTo pos (starEach [b] X.env)).any (·.1)=false:=by rfl):
  zD X xr (.Call (.Name "max" p) [a,b] [] pos) (zo UE ma mb):=by
 try simp only[zZ]at*
 exact UA (FT e) Jc (λ φ A H x y u v Q S d c p=>by
   obtain⟨i,j,t,E,q⟩:=Jb (K:=X.K) (f:=λ i j=>.int (if j > i then j else i)) (g:=λ i j=>.int (if j > i then j else i)) (λ _ _ _ _=>rfl) φ A H x y u v Q S d c p;subst t;subst E;exact⟨i,j,rfl,q⟩) hm (by rfl) o n l (by decide) (by decide) s r h
theorem FX (C:zD X xr a ma)(he:zD X xr b mb)(B:starEach [b] X.env=(false,eval b X.env)::starEach [] X.env:=by rfl)
  (e:attributeBase a "pop" X.env (eval a X.env)=eval a X.env:=by rfl)
  (c:((backTo cpos (starEach [b] X.env)).all (λ x=>!x.1)&&(backToKw cpos (keywordEach [] X.env)).all (λ x=>x.1.isSome)
   && decide ([b].length+([]:List Keyword).length+(if ([]:List Keyword).isEmpty then 0 else 1)<30))=true:=by rfl)(h:(apos.endLine==cpos.line)=true:=by rfl):
  zD X xr (.Call (.Attribute a "pop" apos) [b] [] cpos) (jQ ZA ma mb):=by
 try simp only[zZ]at*
 exact UK PySem.F.slot_list_pop PySem.F.type_list_pop EW DC (λ φ A H x y u v Q S t s p=>by
   unfold ZA at p;cases u with
   |ref n=>cases v with
    |int i=>
     obtain rfl:=s;dsimp only at p;cases E:A[n]? with
     |none=>rw[E]at p;exact p.elim|some o=>cases o with
      |lst ws=>
       rw[E]at p;dsimp only at p
       by_cases d:j0 i=true
       ·rw[ag d]at p
        obtain⟨L,J⟩:=JH d;cases g:seqIndex? i ws.length with
        |none=>rw[g]at p;exact p.elim|some k=>
         rw[g]at p;dsimp only at p;cases f:ws[k]? with
         |none=>rw[f]at p;exact p.elim|some w=>
          rw[f]at p;obtain⟨l,vs,rfl,f1,g1,r⟩:=S.lst t E;obtain⟨y,I,D⟩:=r.get f;have ln:Le X.K φ H φ (upd H l (.lst (vs.eraseIdx k))):=Le.upd f1 (λ xs z=>by rw[g1]at z;cases z) (λ _ _ z=>by rw[g1]at z;cases z)
          obtain⟨j,q⟩:=S.write (o:=.lst ws) (o':=.lst (ws.eraseIdx k)) E rfl rfl f1 ⟨_,jD,(r.erase k).mono ln⟩;exact⟨l,vs,i,k,y,rfl,rfl,g1,by omega,by omega,by rw[<- r.length];exact g,I,p _ _ _ j q (D.mono j)⟩
       ·rw[ak d]at p;exact p.elim
      |_=>rw[E]at p;exact p.elim
    |_=>exact p.elim
   |_=>cases v<;>exact p.elim) C he B e c h
theorem WW (H:zD X xr a ma)(h:zD X xr b mb):zD X xr (.BinOp a .Pow b pos) (zo Qa ma mb):=by
 try simp only[zZ]at*
 exact Ja zah UJ (V0 Bc λ _ _ _ _=>rfl) H h
theorem Q2 {x j}:zD X xr (.Constant (.str x) j pos) (zi (.str x)):=by
 try simp only[zZ]at*
 exact PE.imp AY λ σ H Q ⟨φ,A,ρ,S,r,h⟩=>h φ H _ .refl S rfl
theorem OF (H:zD X xr a ma)(h:zD X xr b mb):zD X xr (.BinOp a .BitXor b pos) (zo UX ma mb):=by
 try simp only[zZ]at*
 exact Ja Bx Jc (Jb λ _ _ _ _=>rfl) H h
theorem Vu {q:jY}(hm:X.mg "list" = none)(d:gx X xr e q)(g:Gl X "list" := by rfl)(he:starEach [e] X.env=(false,eval e X.env)::starEach [] X.env:=by rfl):
  zD X xr (.Call (.Name "list" p) [e] [] pos) (qp q):=by
 try simp only[zZ]at*
 exact PE.imp (JJ LP g hm (by rfl) (jm d j9 he) (by decide) (by decide) he (by rfl)) λ σ H Q ⟨φ,A,ρ,S,re,h⟩=>by
   refine⟨φ,A,ρ,S,re,qt (zW.mp h) (λ ws A1 f b H1 a ys L s z r=>?_) λ _ _ z=>z⟩;refine⟨a,ys,rfl,z,λ l c=>?_⟩;obtain⟨a1,a2,i⟩:=Q9 s c r;exact f _ _ _ (L.trans a1) a2 i
theorem OV {o i:Expr}{mo mi:Ev}(he:zD X xr e m)(H:zD X xr o mo)(a:zD X xr i mi)
  (h:swapsWithSole [.Subscript o i tpos] e pos.line X.env=pure false:=by rfl)(hw:swappedStores [.Subscript o i tpos] e X.env=pure none:=by rfl)
  (c:(assignEach [.Subscript o i tpos] X.env).map (·.2)=[assign (.Subscript o i tpos) X.env]:=by rfl)
  (b:∀v,assign (.Subscript o i tpos) X.env v=(do
   let ov <- holding [v] (eval o X.env)
   let iv <- holding [v,ov] (eval i X.env)
   standAt tpos
   holding [v,ov,iv] (setItem ov iv v)
   release [v,ov,iv] []):=by intro _;rfl):kf X xr (.Assign [.Subscript o i tpos] e pos) (Yd gn m mo mi):=by
 try simp only[zZ]at*
 exact DE set_list O8 Oj he H a h hw c b
theorem Fp (f:Nat)(C:PassesOwn (model X.prog X.w) X.A X.env X.xe)(E:yI X xr c mc)(I:kx X xr body m1):kf X xr (.While c body [] pos) (V7 f mc m1):=by
 try simp only[zZ]at*
 exact PS.imp (EG C E I) λ D σ H ⟨φ,A,ρ,S,re,h⟩=>by
   refine⟨λ f g e=>∃a A2 d,Le X.K φ H a e/\zM X.K a A2 e/\RE X.K a e d g/\(Qg mc m1 f d A2).post (FB X.K a e D) (EB X.K a e xr),⟨f,φ,A,ρ,.refl,S,re,h⟩,?_⟩
   rintro f u U ⟨a,A2,d,x,M,o,v⟩
   cases f with
   |zero=>exact v.elim|succ f=>
    unfold Qg at v;refine tT.go M o (zW.mp v) λ w P j=>?_;cases w with
    |bl k=>
     refine⟨k,rfl,λ p N l y=>?_⟩;cases k with
     |true=>
      rw[ag rfl];refine⟨λ g e=>∃a A2 d,Le X.K φ H a e/\zM X.K a A2 e/\RE X.K a e d g/\(Qg mc m1 f d A2).post (FB X.K a e D) (EB X.K a e xr),λ g e z=>⟨f,bg _,z⟩,?_⟩;refine⟨p,P,d,y,o.mono l,qt (zW.mp j) (λ J B t=>?_) λ _ _ z=>z.mono l⟩;cases J with
      |nx i=>exactλ b q n L s r=>⟨b,B,i,(x.trans l).trans L,s,r,qt t (λ _ _ z=>z.mono (l.trans L)) λ _ _ z=>z.mono (l.trans L)⟩|ct i=>exactλ b q n L s r=>⟨b,B,i,(x.trans l).trans L,s,r,qt t (λ _ _ z=>z.mono (l.trans L)) λ _ _ z=>z.mono (l.trans L)⟩|bk i=>exactλ b q n L s r=>t b q n (l.trans L) s r|rt T=>exactλ b q v4 L s Q=>t b q v4 (l.trans L) s Q
     |false=>
      rw[ak aA];exact j p N u l y (o.mono l)
    |non=>cases j|int _=>cases j|str _=>cases j|tup _=>cases j|ref _=>cases j|clo _ _ _=>cases j|xc _=>cases j
end
end Mi
variable {mr:Mi.Ea}{mi:Mi.Ei}{em:Mi.Em}{ρ:Mi.En}{me:Mi.Ev}{qa qb qc:Mi.Fn}{A A1 B:Mi.Hx}{ws:List Mi.W}{o:Mi.O}{tw:Mi.Tg}{g:Mi.W->Mi.W->Mi.Hx->Mi.R Mi.W}{xr:Mi.XR}{q:Mi.jY}
set_option maxHeartbeats 400000
namespace Mi
open PySem L2
section
variable {ρ1:En}{A2:Hx}{w x y:W}{m ma mb mc:Ev}{m1 m2:Ex}{f:Fn}
theorem zt (h:ρ[i]? =some (some w)):zc i ρ A=.ok w A:=by unfold zc;rw[h]
theorem jb:zi w ρ A=.ok w A:=rfl
theorem zT (H:ma ρ A=.ok x A1)(h:mb ρ A1=.ok y A2):zo g ma mb ρ A=g x y A2:=by unfold zo;rw[H,zP,h,zP]
theorem kR {k:Bool}(h:ma ρ A=.ok (.bl k) A1):yH ma ρ A=.ok (.bl (!k)) A1:=by unfold yH;rw[h,zP]
theorem Zy (h:ma ρ A=.ok (.bl true) A1):ka ma mb ρ A=mb ρ A1:=by unfold ka;rw[h,zP]
theorem Q7 (h:ma ρ A=.ok (.bl false) A1):ka ma mb ρ A=.ok (.bl false) A1:=by unfold ka;rw[h,zP]
theorem GC (h:ma ρ A=.ok (.bl false) A1):gW ma mb ρ A=mb ρ A1:=by unfold gW;rw[h,zP]
theorem zO {a:Ea}(h:a ρ A=.ok ws A1):zF f a ρ A=f ws A1:=by unfold zF;rw[h,zP]
theorem zQ:zm ρ A=.ok [] A:=rfl
theorem zB {r:Ea}(H:ma ρ A=.ok x A1)(h:r ρ A1=.ok ws A2):zh ma r ρ A=.ok (x::ws) A2:=by unfold zh;rw[H,zP,h,zP]
theorem Kg {a:Ea}(h:a ρ A=.ok ws A1):zC a ρ A=.ok (.tup ws) A1:=by unfold zC;rw[h,zP]
theorem jC {a:Ea}(h:a ρ A=.ok ws A1):zU a ρ A=.ok (.ref A1.length) (A1++[.lst ws]):=by unfold zU;rw[h,zP]
theorem zH (h:m1 ρ A=.ok (.nx ρ1) A1):zr m1 m2 ρ A=m2 ρ1 A1:=by unfold zr;rw[h,zP]
theorem qG (h:m1 ρ A=.ok (.rt w) A1):zr m1 m2 ρ A=.ok (.rt w) A1:=by unfold zr;rw[h,zP]
theorem jO:zA ρ A=.ok (.nx ρ) A:=rfl
theorem qJ (h:m ρ A=.ok w A1):zY i m ρ A=.ok (.nx (ρ.set i (some w))) A1:=by unfold zY;rw[h,zP]
theorem yd (h:m ρ A=.ok w A1):jx m ρ A=.ok (.nx ρ) A1:=by unfold jx;rw[h,zP]
theorem qZ (h:m ρ A=.ok w A1):qd m ρ A=.ok (.rt w) A1:=by unfold qd;rw[h,zP]
theorem Zg (h:mc ρ A=.ok (.bl true) A1):qM mc m1 m2 ρ A=m1 ρ A1:=by unfold qM;rw[h,zP]
theorem yr (h:mc ρ A=.ok (.bl false) A1):qM mc m1 m2 ρ A=m2 ρ A1:=by unfold qM;rw[h,zP]
theorem wH {j:jF}(h:mi ρ A=.ok j A1):yv mi tw m1 ρ A=yo j (turn tw m1) j.len 0 ρ A1:=by unfold yv;rw[h,zP]
theorem wk (h:tw w ρ=some ρ1):turn tw m1 w ρ A=m1 ρ1 A:=by unfold turn;rw[h]
theorem Rw {j:jF}{st:W->Ex}(h:j.at_ A i=some none):yo j st n i ρ A=.ok (.nx ρ) A:=by
 cases n with
 |zero=>unfold yo;rw[h]|succ n=>unfold yo;rw[h]
theorem Oc {j:jF}{st:W->Ex}(h:j.at_ A i=some (some w))(H:st w ρ A=.ok (.nx ρ1) A1):yo j st (n+1) i ρ A=yo j st n (i+1) ρ1 A1:=by
 rw[yo,h];dsimp only;rw[H,zP]
theorem gD {k:Int}(h:m ρ A=.ok (.int k) A1)(H:j0 k=true):qW m ρ A=.ok (wq 0 k.toNat) A1:=by unfold qW;rw[h,zP];dsimp only;rw[ag H]
theorem w9 {lo:Int}{k:Nat}(h:i<k):(wq lo k).at_ A i=some (some (.int (lo+i))):=by unfold wq;dsimp only;rw[ag h]
theorem wZ {lo:Int}{k:Nat}(h:¬i<k):(wq lo k).at_ A i=some none:=by unfold wq;dsimp only;rw[ak h]
theorem qS (h:m1 (ws.map some++List.replicate (n - ws.length) none) A=.ok (.rt w) A1):qH n m1 ws A=.ok w A1:=by unfold qH;rw[h];rfl
theorem Ze {w:W}(hn:qY ws=true)(hw:w.nr=true)(h:f ws []=.ok w A1):iso f ws A=.ok w A:=by
 unfold iso;rw[ag hn,h];cases w with
 |ref k=>cases hw|_=>dsimp only;rw[ag hw]
end
end Mi
set_option maxHeartbeats 400000
namespace Mi
open PySem L2
theorem F2 {j:jF}{ifs:Ev}{c:En}{N:Nat}{item g:Nat->W}{keep:Nat->Bool}(t:∀i,i<N->j.at_ A i=some (some (item i)))(d:j.at_ A N=some none)
  (b:∀i,i<N->ifs (some (item i)::c) A=.ok (.bl (keep i)) A)(he:∀i,i<N->keep i=true->me (some (item i)::c) A=.ok (g i) A):
  ∀(n i:Nat)(x:Option W)(acc:List W),i+n=N->acc.length+n<=zX->∃y,qR j (zN 0) ifs (zK me) n i (x::c) acc A=.ok (y::c,acc++((List.range' i n).filter keep).map g) A:=by
 intro n
 induction n with
 |zero=>
  intro i x acc h _
  have:i=N:=by omega
  subst this;refine⟨x,?_⟩;unfold qR;rw[d];simp
 |succ n I=>
  intro i x acc h l;have H:i<N:=by omega
  rw[qR,t i H];dsimp only[zN,List.set];rw[b i H,zP];rw[bH];cases a:keep i with
  |true=>
   dsimp only;obtain⟨y,e⟩:=I (i+1) (some (item i)) (acc++[g i]) (by omega) (by rw[ay,aR];omega)
   refine⟨y,?_⟩;have E:zK me (some (item i)::c) acc A=.ok (some (item i)::c,acc++[g i]) A:=by
    unfold zK;rw[he i H a,zP,ag (by omega)]
   rw[E,zP];dsimp only;rw[e,List.filter_cons_of_pos a,aV,aW]
   rfl
  |false=>
   dsimp only;obtain⟨y,e⟩:=I (i+1) (some (item i)) acc (by omega) (by omega)
   exact⟨y,by rw[e,List.filter_cons_of_neg (by rw[a];exact aA)]⟩
theorem Rx {j:jF}{ifs:Ev}{N:Nat}{item g:Nat->W}{keep:Nat->Bool}(hm:mi ρ A=.ok j A)(a:j.len=N)(d:N<=zX)
  (H:∀i,i<N->j.at_ A i=some (some (item i)))(h:j.at_ A N=some none)(b:∀i,i<N->ifs (some (item i)::cap.map λ i=>(ρ[i]?).join) A=.ok (.bl (keep i)) A)
  (he:∀i,i<N->keep i=true->me (some (item i)::cap.map λ i=>(ρ[i]?).join) A=.ok (g i) A):
  zS 1 cap mi (zN 0) ifs (zK me) ρ A=.ok (((List.range N).filter keep).map g) A:=by
 obtain⟨y,e⟩:=F2 H h b he N 0 none [] (Nat.zero_add N) (by simpa using d)
 unfold zS;rw[hm,zP,a];have c:Z6 1 cap ρ=none::cap.map λ i=>(ρ[i]?).join:=rfl;rw[c,e,nil_append,<- range_eq_range']
 rfl
theorem g9 {j:jF}{N:Nat}{item g:Nat->W}(hm:mi ρ A=.ok j A)(a:j.len=N)(c:N<=zX)
  (t:∀i,i<N->j.at_ A i=some (some (item i)))(H:j.at_ A N=some none)(he:∀i,i<N->me (some (item i)::cap.map λ i=>(ρ[i]?).join) A=.ok (g i) A):
  zS 1 cap mi (zN 0) (zi (.bl true)) (zK me) ρ A=.ok ((List.range N).map g) A:=by
 have h:=Rx (ifs:=zi (.bl true)) (keep:=λ _=>true) hm a c t H (λ _ _=>rfl) λ i b _=>he i b;have f:(List.range N).filter (λ _=>true)=List.range N:=List.filter_eq_self.mpr λ _ _=>rfl;rw[f]at h;exact h
theorem yA {g:List W->Hx->R W}(h:q ρ A=.ok ws A1):mQ g q ρ A=g ws A1:=by unfold mQ;rw[h,zP]
theorem wG (h:q ρ A=.ok ws A1):qp q ρ A=.ok (.ref A1.length) (A1++[.lst ws]):=by unfold qp;rw[h,zP]
theorem ko {m:Ev}{w:W}(h:m ρ A=.ok w A1)(H:zR w A1=some ws):qf m ρ A=.ok ws A1:=by unfold qf;rw[h,zP,H]
open PySem PySem.Spec PyProof.Rows L2
inductive zcs (H:Hp)(h g:Heap)(e:Addr)(vs:Array Value):Prop
 |mk (T:Addr) (oT:Obj) (ts:Array Value) (h1:vs[1]? =some (.ref T)) (ne:T≠e) (ng:g.get? T=none) (nH:H T=none) (hT:h.get? T=some oT) (hd:oT.data=.fields ts) (h3:ts[3]? =some .none)
inductive gi (H:Hp)(h g:Heap)(e:Addr)(C:Value):Prop
 |mk (ng:g.get? e=none) (nH:H e=none) (oe:Obj) (vs:Array Value) (a0:Value) (he:h.get? e=some oe) (hc:oe.cls=C) (hd:oe.data=.fields vs) (h0:vs[0]? =some a0) (h1:vs[1]? =some .none∨zcs H h g e vs)
inductive Tr (h:Heap)(e:Addr):Prop
 |mk (oe:Obj) (vs:Array Value) (T:Addr) (he:h.get? e=some oe) (hd:oe.data=.fields vs) (h1:vs[1]? =some (.ref T))
section
variable {A:Around}{outer:List Env}{L e:Addr}{C:Value}{g:Heap}
theorem frames_at {B:Heap}:∀{l:List Env},s.heap.FunFrames base l->(∀b∈qE l,B.get? b=none)->s.heap.FunFrames B l
 |[],_,_=>trivial|e::r,⟨c,⟨L,o,hf,hn,a,hd⟩,H⟩,h=>⟨c,⟨L,o,hf,h L (by unfold qE;rw[bw,hf];exact aE ..),a,hd⟩,frames_at H λ b d=>h b (by
   unfold qE;rw[bw,hf];exact ax _ d)⟩
theorem Ng {Q:Unit->Shared->Prop}(y:A.frames=some (env::outer))(hf:env.frame=some L)(J:s.heap.FunFrames base (env::outer))(x:gi H s.heap g e C)
  (tr:∀b u,H b=some u->∃o,s.heap.get? b=some o)(th:∀b o,g.get? b=some o->∃o',s.heap.get? b=some o')
  (hQ:∀h',(∀b o,s.heap.get? b=some o->b∉qE (env::outer)->((∃o',g.get? b=some o')∨∃u,H b=some u)->h'.get? b=some o)->(∀b o,s.heap.get? b=some o->b∈qE (env::outer)->∃sl,h'.get? b=some { o with slots:=sl })->
   gi H h' g e C->Tr h' e->Q () { s with heap:=h' }):wpAny M A (leaving env (.ref e)) Q E s:=by
 obtain⟨P,X,oe,vs,a0,he,hc,hd,h0,D⟩:=x;have fin:∀(d:List Addr),(∀b∈qE (env::outer),b∈d)->(∀b∈d,b∉qE (env::outer)->g.get? b=none/\H b=none)->∀h',Heap.LeftW (hideAll s.heap d) (env::outer) e C a0 s.heap h'->Q () { s with heap:=h' }:=by
  intro d hi1 w h' ⟨st,ff,r,us⟩;refine hQ h' (λ b o h nb hx=>?_) (λ b o h mb=>?_) ?_ (by obtain⟨i,v,T,I,t,j,_,l,p,_⟩:=r;exact⟨i,v,T,j,l,p⟩)
  ·refine st b o (bI d h λ hm=>?_)
   obtain⟨z1,z2⟩:=w b hm nb;rcases hx with ⟨o',q⟩|⟨u,q⟩
   ·rw[z1]at q;cases q
   ·rw[z2]at q;cases q
  ·obtain⟨_,o',a,f⟩:=J.mem mb
   rw[h]at a;cases a;exact us b o h f
  ·obtain⟨i,v,T,I,t,j,⟨S,h0'⟩,l,p,B,n,K,c,Y⟩:=r
   have nT:T∉qE (env::outer):=λ hm=>by
    obtain⟨_,o',a,f⟩:=J.mem hm;obtain⟨sl,z⟩:=us T o' a f;rw[K]at z;cases z;exact f t c
   have both:g.get? T=none/\H T=none:=by
    cases q:s.heap.get? T with
    |some o=>
     by_cases hm:T∈d
     ·exact w T hm nT
     ·rw[bI d q hm]at B;cases B
    |none=>
     constructor
     ·cases z:g.get? T with
      |none=>rfl|some o=>obtain⟨o',Z⟩:=th T o z;rw[q]at Z;cases Z
     ·cases z:H T with
      |none=>rfl|some u=>obtain⟨o',Z⟩:=tr T u z;rw[q]at Z;cases Z
   exact⟨P,X,i,v,a0,j,S,l,h0',.inr ⟨T,I,t,p,n,both.1,both.2,K,c,Y⟩⟩
 have stay:∀d:List Addr,(hideAll s.heap d).StaysIn s.heap:=λ d b o q=>of_hideAll d q;rcases D with D|⟨T,I,t,D,n,N,U,K,c,Y⟩
 ·have hn:∀b∈e::qE (env::outer),(hideAll s.heap (e::qE (env::outer))).get? b=none:=λ b h=>hideAll_none _ h
  refine wpAny_leaving_firstW (base:=hideAll s.heap (e::qE (env::outer))) y (frames_at J λ b h=>hn b (ax _ h)) hf he (stay _) (hn e (aE ..)) hd D h0 ?_;rw[hc];refine fin _ (λ b h=>ax _ h) λ b h nb=>?_;rcases qa3.mp h with rfl|h
  ·exact⟨P,X⟩
  ·exact absurd h nb
 ·have hn:∀b∈e::T::qE (env::outer),(hideAll s.heap (e::T::qE (env::outer))).get? b=none:=λ b h=>hideAll_none _ h
  refine wpAny_leaving_nextW (base:=hideAll s.heap (e::T::qE (env::outer))) y (frames_at J λ b h=>hn b (ax _ (ax _ h))) hf
   ⟨oe,vs,T,I,t,he,⟨hc,h0⟩,hd,D,hn T (ax _ (aE ..)),n,K,c,Y⟩ (stay _) (hn e (aE ..)) ?_
  refine fin _ (λ b h=>ax _ (ax _ h)) λ b h nb=>?_;rcases qa3.mp h with rfl|h
  ·exact⟨P,X⟩
  ·rcases qa3.mp h with rfl|h
   ·exact⟨N,U⟩
   ·exact absurd h nb
end
inductive MX (P:Program)(w:World)(outer:List Env)(H:Hp)(s:Shared)(E:XK)(e:Value)(s':Shared):Prop
 |mk (ea C:Addr) (H':Hp) (he:e=.ref ea) (os:s'.os=s.os) (b:AllBare s'.gens) (un:Un (qE outer) [] H H' s.heap s'.heap) (hk:jU P w H' s'.heap) (ly:gi H' s'.heap s.heap ea (.ref C)) (tr:Tr s'.heap ea) (q:E (.ref C) none H')
noncomputable def gT (P:Program)(w:World):gY:=λ outer H s E e s'=>MX P w outer H s E e s'
theorem _root_.L2.jd.obj {o:HO}(x:jd P w H h a o):∃ob,h.get? a=some ob:=by
 cases o with
 |lst xs=>obtain⟨_,_,_,_,e⟩:=x;exact⟨_,e⟩|tup xs=>obtain⟨_,_,_,o,e,_⟩:=x;exact⟨o,e⟩|dK kvs=>obtain⟨_,_,_,_,o,_,_,e,_⟩:=x;exact⟨o,e⟩|dT kvs=>obtain⟨_,_,_,_,o,_,_,e,_⟩:=x;exact⟨o,e⟩|set S n=>obtain⟨o,_,_,_,e,_⟩:=x;exact⟨o,e⟩|ins C d fs=>obtain⟨_,_,_,e,_⟩:=x;exact⟨_,e⟩|own y=>exact x|xd fs=>obtain⟨_,⟨o,_,_,e,_⟩,_⟩:=x;exact⟨o,e⟩|rng lo i=>obtain⟨_,_,_,e⟩:=x;exact⟨_,e⟩|frz ob u=>exact⟨ob,x.1⟩|tbl ps=>exact⟨_,(show h.get? a=some _ from x)⟩|met f y=>exact⟨_,(show h.get? a=some _ from x)⟩|ext φ=>exact x.2.1
theorem FV {K:Frag}{cd:Value}{A:Around}{outer:List Env}{E:XK}
  {h:Hp}{a C:Addr}(I:Inv (wt (gT P w) P w K mg base N qual scope f cd A outer s H E) pins σ h s')(x:gi h s'.heap s.heap a (.ref C))(y:E (.ref C) none h):
  (wt (gT P w) P w K mg base N qual scope f cd A outer s H E).xe (.ref a) s':=by
 have bs:Un (qE outer) [] H h s.heap s'.heap:=I.base;have stk:∀b∈qE (envOfC qual scope s.heap.objs.size f cd::outer),h b=none:=I.stkFree;have p:s.heap.get? s.heap.objs.size=none:=Heap.get?_none_of_le (aw _);have g:(envOfC qual scope s.heap.objs.size f cd).frame=some s.heap.objs.size:=rfl;have mem:∀b,b∈qE (envOfC qual scope s.heap.objs.size f cd::outer)↔b=s.heap.objs.size∨b∈qE outer:=λ b=>by
  unfold qE;rw[bw,g];exact mem_cons
 show wpAny (model P w) (A.deeper (envOfC qual scope s.heap.objs.size f cd)) (leaving (envOfC qual scope s.heap.objs.size f cd) (.ref a)) _ _ s';refine Ng (base:=base) (L:=s.heap.objs.size) I.ok.frames rfl I.stack x (λ b u e=>(I.hok b u e).obj) (λ b o e=>bs.there b o e (by simp)) λ h' k1 k2 X t=>?_
 have r:∀b u,h b=some u->b∉qE (envOfC qual scope s.heap.objs.size f cd::outer):=λ b u e hm=>by rw[stk b hm]at e;cases e
 refine⟨a,C,h,rfl,I.os,I.bare,⟨λ b o e n nb _=>?_,λ b o e n mb _=>?_,λ b o e n d=>bs.free b o e n d,λ b o e d=>?_,bs.tups,bs.frzs,bs.tbls⟩,λ b u e=>?_,X,t,y⟩
 ·have i:b≠s.heap.objs.size:=λ z=>by rw[z,p]at e;cases e
  exact k1 b o (bs.keep b o e n nb (by simp)) (λ hm=>(mem b).mp hm |>.elim i nb) (.inl ⟨o,e⟩)
 ·obtain⟨l,q⟩:=bs.slot b o e n mb (by simp)
  obtain⟨S,Q⟩:=k2 b _ q ((mem b).mpr (.inr mb));exact⟨S,Q⟩
 ·obtain⟨o',q⟩:=bs.there b o e d
  by_cases hm:b∈qE (envOfC qual scope s.heap.objs.size f cd::outer)
  ·obtain⟨l,z⟩:=k2 b o' q hm;exact⟨_,z⟩
  ·exact⟨o',k1 b o' q hm (.inl ⟨o,e⟩)⟩
 ·refine(I.hok b u e).stay (λ c v j q=>?_) (λ _ q=>q) λ _ _ q=>q
  rcases j with z|z
  ·rw[z]at q ⊢;exact k1 b v q (r b u e) (.inr ⟨u,e⟩)
  ·exact k1 c v q (r c _ z) (.inr ⟨_,z⟩)
theorem RY {E:XK}{e:Value}(I:Inv X pins σ H s)(h:gT X.prog X.w X.stack H s E e s')(g:Heap)(u:∀b o,g.get? b=some o->∃o',s.heap.get? b=some o'):
  ∃a C c,e=.ref a/\Inv X pins σ c s'/\gi c s'.heap g a (.ref C)/\Tr s'.heap a/\E (.ref C) none c:=by
 obtain⟨a,C,c,rfl,os,bare,un,hok,x,r,v⟩:=h;obtain⟨p,y,d,t,f⟩:=s';obtain rfl:f=s.os:=os;refine⟨a,C,c,rfl,I.call (h':=p) (g':=y) (d':=d) (t':=t) (ch:=[]) un hok bare (λ b z=>absurd z (by simp)),?_,r,v⟩
 have up:∀b,s.heap.get? b=none->g.get? b=none:=λ b n=>by
  cases z:g.get? b with
  |none=>rfl|some o=>obtain⟨o',q⟩:=u b o z;rw[n]at q;cases q
 obtain⟨a1,a2,j,vs,Y,U,S,Q,P,B⟩:=x;refine⟨up a a1,a2,j,vs,Y,U,S,Q,P,?_⟩;rcases B with B|⟨T,l,i,N,M,L,K,J,D,A⟩
 ·exact .inl B
 ·exact .inr ⟨T,l,i,N,M,up T L,K,J,D,A⟩
noncomputable def Zn (K:Frag)(E:XK):XR:=λ x H=>∀C:Addr,yW K x (.ref C)->E (.ref C) none H
inductive Xn (K:Frag)(n:Nat)(f:Fn)(vs:List V)(H:Hp)(Q:VK)(E:XK):Prop
 |mk (len:vs.length=n) (φ:List Addr) (A:Hx) (ws:List W) (S:zM K φ A H) (r:zG K φ H ws vs) (q:(f ws A).post (PB K φ H Q) (EB K φ H (Zn K E)))
theorem Xn.len {K:Frag}{f:Fn}{Q:VK}{E:XK}(h:Xn K n f vs H Q E):vs.length=n:=by cases h;assumption
inductive qF (P:Program)(w:World)(K:Frag)(mg:Str->Option Value)(base:Heap)(k:Nat)(x:Str)(n:Nat)(f:Fn):Prop
 |mk (fa:Addr) (fd:FuncData) (ps:List Str) (F:yN P w K mg base (gT P w) k fa fd ps (Xn K n f)) (at_:mg x=some (.ref fa)) (kp:keepIn K (.ref fa)=true) (bi:Binds K fd ps [])
structure Zi (X:Cx)(g:Heap)(xr:XR):Prop where
 th:∀pins σ H s,Inv X pins σ H s->∀b o,g.get? b=some o->∃o',s.heap.get? b=some o'
 out:∀pins σ H s ea C x,Inv X pins σ H s->gi H s.heap g ea (.ref C)->yW X.K x (.ref C)->xr x H->X.xe (.ref ea) s
theorem zcu {K:Frag}{cd:Value}{A:Around}{outer:List Env}{E:XK}:
  Zi (wt (gT P w) P w K mg base N qual scope f cd A outer s H E) s.heap (Zn K E) where
 th:=λ pins σ h s' I b o e=>(show Un (qE outer) [] H h s.heap s'.heap from I.base).there b o e (by simp)
 out:=λ pins σ h s' d C x I l c a=>FV I l (a C c)
section
variable {g:Heap}{c:Expr}
noncomputable def Eup (K:Frag)(X:XR):XK:=λ c _ H=>∃x C,c=.ref C/\yW K x (.ref C)/\X x H
theorem Zi.passes (x:Zi X g xr):Passes (gT X.prog X.w) X (Eup X.K xr):=λ pins σ H s e s' I h=>by
 obtain⟨b,C,d,rfl,i,l,_,nm,f,E,c,a⟩:=RY I h g (x.th pins σ H s I);cases E;exact x.out pins σ d s' b C nm i l c a
end
noncomputable def gk (n:Nat)(m:Ex):Fn:=λ ws A=>(m (ws.map some++List.replicate (n - ws.length) none) A).bind λ f A1=>match f with
 |.rt w=>.ok w A1|.nx _=>.ok .non A1|_=>.bad
inductive Uz (C:Addr)(bmB:List Value)(newId:String)(h:Heap):Prop
 |mk (tl N nm q bs hdct sn sub ab col dd k0 k1 k2 k3 k5 mN:_) (obj:h.get? C=some (excClassObj nm q C N bs tl hdct sn sub ab col dd k0 k1 k2 k3 k5 newId)) (ns:h.Ns N mN) (init:mN "__init__" = none) (tail:OwnTail h bmB tl)
noncomputable def zb2 (d:Data):Option { c:ClassData // d=.cls c }:=match d with
 |.cls c=>some ⟨c,rfl⟩|_=>none
def Zl (K:Frag)(C:Addr)(b:List Value)(newId:String):Bool:=(K.lookup C).any λ o=>(zb2 o.data).any λ c=>
 o.cls==.type "type" && c.1.mro==.ref C::c.1.mro.tail&&o.slots.toList==[o.slots.toList.getD 0 none,o.slots.toList.getD 1 none,o.slots.toList.getD 2 none,o.slots.toList.getD 3 none,some (.builtin newId),o.slots.toList.getD 5 none]
  && c.1.hasDel==false&&PySem.W.tailIn K b c.1.mro.tail&&PySem.W.nsOkIn K c.1.ns&&nsIn K c.1.ns "__init__" == some none
theorem UM {K:Frag}{C:Addr}{b:List Value}{newId:String}(X:K.In h)(q:Zl K C b newId=true):Uz C b newId h:=by
 obtain⟨⟨o,dd,dat,⟨s⟩⟩,H,q⟩:=(any_eq_true _ _).mp q;obtain⟨⟨⟨nm,bs,mro,ns,Q,hd,sn,sub,ab,col,del⟩,e0⟩,-,q⟩:=(any_eq_true _ _).mp q;simp only[aj,aL]at q;obtain⟨⟨⟨⟨⟨⟨g,f⟩,d⟩,c⟩,a⟩,e⟩,E⟩:=q;cases e0;cases g;cases c;exact⟨mro.tail,ns,nm,Q,bs,hd,sn,sub,ab,col,dd,_,_,_,_,_,_,X _ _ (by rw[H,f,d];rfl),.of_isNs (PySem.W.isNs_of_in X e),PySem.W.nsMap_none_of_in X e E,PySem.W.tail_of_in X a⟩
noncomputable def J9 (x:Str)(M:Ea):Ex:=λ ρ A=>(M ρ A).bind λ _ A1=>.exc x A1
section
variable {g:Heap}{es:List Expr}{np:Pos}{C:Addr}{B newId initId:String}{bmB:List Value}
theorem DG {h':Heap}{e:Addr}{vs:List Value}(x:Zi X g xr)(I:Inv X pins σ H s)(m:Heap.MadeExcOf s.heap h' e (.ref C) vs):
  Inv X pins σ H { s with heap:=h' }/\gi H h' g e (.ref C):=by
 have N:∀b,s.heap.get? b=none->H b=none:=λ b z=>by
  cases q:H b with
  |none=>rfl|some u=>obtain⟨o,k⟩:=(I.hok b u q).obj;rw[z]at k;cases k
 have n:∀b,s.heap.get? b=none->g.get? b=none:=λ b z=>by
  cases q:g.get? b with
  |none=>rfl|some o=>obtain⟨o',k⟩:=x.th pins σ H s I b o q;rw[z]at k;cases k
 obtain⟨t,he,a,h⟩:=m.there;refine⟨I.call' (s':={ s with heap:=h' }) (ch:=[]) rfl ⟨λ b o q _ _ _=>m.keeps b o q,λ b o q _ _ _=>⟨o.slots,m.keeps b o q⟩,λ b o q z _=>z,λ b o q _=>⟨o,m.keeps b o q⟩,λ _ _ q=>q,λ _ _ _ q=>q,λ b ps q=>⟨#[],by rw[Array.append_empty];exact q⟩⟩
  (λ b u q=>(I.hok b u q).stay (λ c v _ z=>m.keeps c v z) (λ _ z=>z) λ _ _ z=>z) I.bare (λ b z=>absurd z (by simp)),?_⟩
 exact⟨n e m.new,N e m.new,_,_,_,he,rfl,rfl,rfl,.inl rfl⟩
theorem Ew (o:Zi X g xr)(f:yW X.K x (.ref C))(ex:Zl X.K C bmB newId=true)(FB:ExcBaseFacts B newId initId bmB)(z:SA X xr (e::es) mr)(v:ZI mr n)(hn:n<=sizeLine:=by decide)(w:Gl X x:=by rfl)(a:X.calm=true:=by rfl)
  (d:(x==("__debug__" : Str))=false:=by decide)(he:starEach (e::es) X.env=(false,eval e X.env)::starEach es X.env:=by rfl)(l:(backTo cpos (starEach es X.env)).any (·.1)=false:=by rfl):
  SS X xr (.Raise (some (.Call (.Name x np) (e::es) [] cpos)) none pos) (J9 x mr):=by
 intro pins s σ H D I ⟨φ,A,ρ,S,re,h⟩;have hm:X.mg x=some (.ref C):=aX I.mod.kin I.mod.glob f;obtain⟨t,N,nm,q,bs,hdct,sn,sub,ab,col,dd,k0,k1,k2,k3,k5,mN,M,J,c,T⟩:=UM I.mod.kin ex;refine wpAny_Raise_call_subT (C:=C) (nm:=nm) (q:=q) (N:=N) (bs:=bs) (bm:=t) (hdct:=hdct) (sn:=sn) (sub:=sub) (ab:=ab) (col:=col) (dd:=dd) (k0:=k0) (k1:=k1) (k2:=k2) (k3:=k3) (k5:=k5)
  FB (mN:=mN) (T.hasType FB.hasBase) (I.ok.hd a) (by rw[he];show(false || (backTo cpos (starEach es X.env)).any (·.1))=false;rw[l];rfl) c (J3 I w hm ⟨rfl,?_⟩ d)
 have h':=zW.mp h;have j:=z cpos pins s σ H (λ vs H1=>vs.length<=sizeLine/\xr x H1) I ⟨φ,A,ρ,S,re,?_⟩
 ·rw[he]at j ⊢
  refine Calls.evalArgs_plain (wpAny_mono j (λ us s2 P=>?_) λ _ _ y=>y);obtain⟨vs,H2,i,r,hlen,u⟩:=P;refine⟨rfl,?_,i.bk _ _ M,J.keeps i.bk,T.keeps i.bk,λ h3 U m=>?_⟩
  ·rw[<- r.length];exact hlen
  ·obtain⟨Z,L⟩:=DG o i m
   exact o.out pins σ H2 _ U C x Z L f u
 ·cases E:mr ρ A with
  |ok ws A1=>
   rw[E]at h';intro b H1 vs p Y Q;refine⟨?_,h' b H1 p Y⟩;rw[<- Q.length,v ρ A ws A1 E];exact hn
  |exc y A1=>rw[E]at h';exact h'|bad=>rw[E]at h';exact h'
end
noncomputable def mJ:List Ev->Str->Ev
 |[],acc=>λ _ A=>.ok (.str acc) A|m::ms,acc=>λ ρ A=>(m ρ A).bind λ w A1=>match w with
  |.str y=>if (acc++y).length<=sizeLine then mJ ms (acc++y) ρ A1 else .bad|_=>.bad
section
variable {es:List Expr}{m:Ev}{ms:List Ev}
inductive SJ (X:Cx)(xr:XR):List Expr->List Ev->Prop where
 |nil:SJ X xr [] []
 |cons {e:Expr} {es:List Expr} {m:Ev} {ms:List Ev} (h:SE X xr e m) (r:SJ X xr es ms):SJ X xr (e::es) (m::ms)
end
section
variable {A:Around}{e C:Addr}{oe:Obj}{bmB bmD:List Value}{newId newD:String}{Q:Bool->Shared->Prop}
def Nl (h:Heap)(C D:Addr):Prop:=∃o cd,h.get? C=some o/\o.data=.cls cd/\cd.mro.contains (.ref D)=true
theorem Hg (lc:Uz C bmB newId s.heap)(ld:Uz D bmD newD s.heap)(j:bmD.contains (.type "BaseException")=true)(he:s.heap.get? e=some oe)(a:oe.cls=.ref C)(up:Nl s.heap C D)(w:Q true s):
  wpAny M A (excMatches (.ref e) (.ref D)) Q E s:=by
 obtain⟨h,g,d,t,os⟩:=s;obtain⟨n,N,nm,q,bs,hdct,sn,sub,ab,col,dd,k0,k1,k2,k3,k5,mN,l,_,_,_⟩:=lc;obtain⟨T,Z,u,J,y,c,r,S,z,p,x,Y,X,U,P,L,v,o,_,_,I⟩:=ld;obtain⟨K,cd,b,hd,hm⟩:=up;rw[l]at b;cases b;have H:(excClassObj nm q C N bs n hdct sn sub ab col dd k0 k1 k2 k3 k5 newId).data=.cls cd:=hd;unfold excClassObj at H;cases H;have B:(Value.ref D::T).contains (.type "BaseException")=true:=by rw[List.contains_cons,I.hasType j,Bool.or_true]
 have i:(Value.ref C::n).contains (.ref D)=true:=hm;have f:=tc_notTuple;unfold excMatches
 repeat (first | (with_reducible refine wpAny_loadPart_at he ?_;rw[a]) | with_reducible refine wpAny_loadPart_at o ?_|with_reducible refine wpAny_loadPart_at l ?_ | (with_reducible refine wpAny_isSubtype_exc o ?_;rw[B]) | (with_reducible refine wpAny_isSubtype_exc l ?_;rw[i]) | wp_step)
 exact w
end
section
variable {H0:Hp}{s0:Shared}{ea C:Addr}
theorem landed {h':Heap}{T:Addr}{a0:Value}(g:Inv X pins σ H0 s0)(I:Inv X pins σ H s)(x:gi H s.heap s0.heap ea (.ref C))(nT:s0.heap.get? T=none)(hT:H T=none)
  (th:∀b o,s0.heap.get? b=some o->∃o',s.heap.get? b=some o')
  (fl:Heap.FlyingW (hideAll s.heap (ea::T::qE X.stack)) X.stack ea (.ref C) a0 h')(us:s.heap.UpToSlots h'):
  Inv X pins σ H { s with heap:=h' }/\gi H h' s0.heap ea (.ref C)/\Tr h' ea/\∀b o,s0.heap.get? b=some o->∃o',h'.get? b=some o':=by
 obtain⟨st,_,ff,oe,vs,t,oT,P,he,⟨A,h0⟩,hd,h1,l,B,D,w,h3⟩:=fl;have ng:s0.heap.get? ea=none:=by cases x;assumption
 have nH:H ea=none:=by cases x;assumption
 have kept:∀b o,s.heap.get? b=some o->b∉qE X.stack->b≠ea->b≠T->h'.get? b=some o:=λ b o q n1 j N=>st b o (bI _ q λ hm=>by
  rcases qa3.mp hm with z|hm
  ·exact j z
  rcases qa3.mp hm with z|hm
  ·exact N z
  ·exact n1 hm)
 have slot:∀b o,s.heap.get? b=some o->b∈qE X.stack->∃S,h'.get? b=some { o with slots:=S }:=λ b o q hm=>by
  obtain⟨_,o',h,f⟩:=I.stack.mem hm;rw[q]at h;cases h;exact us b o q f
 have off:∀b u,H b=some u->b∉qE X.stack/\b≠ea/\b≠T:=λ b u q=>⟨λ hm=>(by rw[I.stkFree b hm]at q;cases q),λ z=>(by rw[z,nH]at q;cases q),λ z=>(by rw[z,hT]at q;cases q)⟩
 have ne:∀b o,s0.heap.get? b=some o->b≠ea/\b≠T:=λ b o q=>⟨λ z=>(by rw[z,ng]at q;cases q),λ z=>(by rw[z,nT]at q;cases q)⟩
 have any:∀b o o',s0.heap.get? b=some o'->s.heap.get? b=some o->∃S,h'.get? b=some { o with slots:=S }:=λ b o o' Q q=>by
  by_cases hm:b∈qE X.stack
  ·exact slot b o q hm
  ·exact⟨o.slots,kept b o q hm (ne b o' Q).1 (ne b o' Q).2⟩
 have cell:∀y c,X.env.cells.lookup y=some c->∀v,s.heap.IsCell c v->h'.IsCell c v:=λ y c e v ⟨o,L,hd⟩=>by
  obtain⟨_,o0,d,_⟩:=g.cell y c e;obtain⟨S,z⟩:=any c o o0 d L;exact⟨_,z,hd⟩
 have inv:Inv X pins σ H { s with heap:=h' }:=by
  refine⟨I.ok,I.os,I.bare,⟨λ b o q n K nx=>?_,λ b o q n hf nx=>?_,I.base.free,λ b o q nx=>?_,I.base.tups,I.base.frzs,I.base.tbls⟩,?_,λ y c e=>?_,I.free,I.freeC,λ p hp=>?_,λ b u q=>?_,I.len⟩
  ·have a:=I.base.keep b o q n K nx
   have Q:=g.base.keep b o q n K nx;refine kept b o a (λ hm=>?_) (ne b o Q).1 (ne b o Q).2;rcases qa3.mp (I.stkSub b hm) with z|z
   ·exact absurd (aD (aI q) I.ok.above) (by rw[z];exact aY _)
   ·exact K z
  ·obtain⟨S,a⟩:=I.base.slot b o q n hf nx
   obtain⟨sl0,Q⟩:=g.base.slot b o q n hf nx;obtain⟨E,z⟩:=any b _ _ Q a;exact⟨E,z⟩
  ·obtain⟨J,a⟩:=I.base.there b o q nx
   obtain⟨o0,Q⟩:=g.base.there b o q nx;obtain⟨S,z⟩:=any b J o0 Q a;exact⟨_,z⟩
  ·obtain⟨m,⟨o,es,ep,L,r⟩,k⟩:=I.loc
   obtain⟨_,⟨o0,_,_,d,_⟩,_⟩:=g.loc;obtain⟨S,z⟩:=any _ o o0 d L;refine⟨m,⟨_,es,ep,z,r⟩,λ i y v e1 e2 e3=>?_⟩;obtain⟨u,ru,lk⟩:=k i y v e1 e2 e3;refine⟨u,ru,?_⟩;rcases lk with lk|⟨lk,c,ec,M⟩
   ·exact .inl lk
   ·exact .inr ⟨lk,c,ec,cell y c ec _ M⟩
  ·obtain⟨v,hv⟩:=I.cell y c e
   exact⟨v,cell y c e v hv⟩
  ·obtain⟨p1,p2,Y,U,p5⟩:=I.pin p hp
   have Z:=(g.pin p hp).1;refine⟨kept _ _ p1 (λ hm=>?_) (ne _ _ Z).1 (ne _ _ Z).2,p2,Y,U,p5⟩;rcases qa3.mp (I.stkSub _ hm) with z|z
   ·exact Y z
   ·exact U z
  ·refine(I.hok b u q).stay (λ c v M z=>?_) (λ _ z=>z) λ _ _ z=>z
   rcases M with e|e
   ·obtain⟨n1,j,N⟩:=off b u q
    rw[e]at z ⊢;exact kept b v z n1 j N
   ·obtain⟨n1,j,N⟩:=off c _ e
    exact kept c v z n1 j N
 have both:s0.heap.get? t=none/\H t=none:=by
  cases q:s.heap.get? t with
  |some o=>
   by_cases hm:t∈ea::T::qE X.stack
   ·rcases qa3.mp hm with z|hm
    ·exact absurd z B
    rcases qa3.mp hm with z|hm
    ·rw[z];exact⟨nT,hT⟩
    ·obtain⟨S,z⟩:=slot t o q hm
     obtain⟨_,o',h,f⟩:=I.stack.mem hm;rw[q]at h;cases h;rw[D]at z;cases z;exact absurd w (f P)
   ·rw[bI _ q hm]at l;cases l
  |none=>
   constructor
   ·cases z:s0.heap.get? t with
    |none=>rfl|some o=>obtain⟨o',k⟩:=th t o z;rw[q]at k;cases k
   ·cases z:H t with
    |none=>rfl|some u=>obtain⟨o',k⟩:=(I.hok t u z).obj;rw[q]at k;cases k
 exact⟨inv,⟨ng,nH,oe,vs,a0,he,A,hd,h0,.inr ⟨t,oT,P,h1,B,both.1,both.2,D,w,h3⟩⟩,⟨oe,vs,t,he,hd,h1⟩,λ b o q=>by
  obtain⟨J,a⟩:=th b o q;obtain⟨S,z⟩:=any b J o q a;exact⟨_,z⟩⟩
theorem flying (I:Inv X pins σ H s)(x:gi H s.heap s0.heap ea (.ref C))(r:Tr s.heap ea):
  ∃T A,s0.heap.get? T=none/\H T=none/\Heap.FlyingW (hideAll s.heap (ea::T::qE X.stack)) X.stack ea (.ref C) A s.heap:=by
 obtain⟨z,B,n,vs,A,he,u,hd,h0,d⟩:=x;obtain⟨l,v,D,h,a,c⟩:=r;rw[he]at h;cases h;rw[hd]at a;cases a;rcases d with d|⟨T,p,t,d,i,e,j,w,f,y⟩
 ·rw[d]at c;cases c
 ·have hn:∀b∈ea::T::qE X.stack,(hideAll s.heap (ea::T::qE X.stack)).get? b=none:=λ b g=>hideAll_none _ g
  exact⟨T,A,e,j,λ b o q=>of_hideAll _ q,hn ea (aE ..),frames_at I.stack λ b g=>hn b (ax _ (ax _ g)),
   n,vs,T,p,t,he,⟨u,h0⟩,hd,d,hn T (ax _ (aE ..)),i,w,f,y⟩
end
noncomputable def KP (o:Obj):HO:=.frz o (.own 0)
noncomputable def Jl (K:Frag)(C D:Addr):Bool:=match K.lookup C with
 |some ⟨_,_,.cls cd,_⟩=>cd.mro.contains (.ref D)|_=>false
theorem za9 {K:Frag}{C:Addr}(X:K.In h)(e:Jl K C D=true):Nl h C D:=by
 unfold Jl at e
 split at e
 ·rename_i H
  exact⟨_,_,X _ _ H,rfl,e⟩
 ·cases e
section
variable {H0:Hp}{s0:Shared}{ea C L:Addr}
theorem Yj (i:Inv X pins σ H0 s0)(I:Inv X pins σ H s)(x:gi H s.heap s0.heap ea (.ref C)):∃a,a.cls=.ref C/\H ea=none/\Inv X pins σ (upd H ea (KP a)) s:=by
 obtain⟨l,d,a,vs,A,he,r,_⟩:=x;refine⟨a,r,d,?_⟩;have ne:∀b o,s0.heap.get? b=some o->b≠ea:=λ b o q z=>by rw[z,l]at q;cases q
 have at_:∀b,b≠ea->upd H ea (KP a) b=H b:=λ b n=>by unfold upd;exact ak n
 have N:∀b u,H b=some u->upd H ea (KP a) b=some u:=λ b u q=>by
  rw[at_ b λ z=>by rw[z,d]at q;cases q];exact q
 refine⟨I.ok,I.os,I.bare,⟨I.base.keep,I.base.slot,λ b o q n nx=>?_,I.base.there,λ b xs q=>N _ _ (I.base.tups b xs q),λ b o u q=>N _ _ (I.base.frzs b o u q),λ b ps q=>?_⟩,I.loc,I.cell,?_,λ y c e=>?_,λ p f=>?_,λ b u q=>?_,I.len⟩
 ·obtain⟨o0,Q⟩:=i.base.there b o q nx
  rw[at_ b (ne b o0 Q)];exact I.base.free b o q n nx
 ·obtain⟨more,z⟩:=I.base.tbls b ps q
  exact⟨more,N _ _ z⟩
 ·obtain⟨m,⟨o0,_,_,h,_⟩,_⟩:=i.loc
  rw[at_ _ (ne _ o0 h)];exact I.free
 ·obtain⟨v,o0,h,_⟩:=i.cell y c e
  rw[at_ _ (ne _ o0 h)];exact I.freeC y c e
 ·obtain⟨j,g,P⟩:=I.pin p f
  refine⟨j,?_,P⟩;rw[at_ _ (ne _ _ (i.pin p f).1)];exact g
 ·by_cases z:b=ea
  ·subst z
   have:u=KP a:=by
    unfold upd at q;rw[ag rfl]at q;exact(aB q).symm
   subst this;exact⟨he,⟨a,he⟩⟩
  ·rw[at_ b z]at q
   exact(I.hok b u q).stay (λ _ _ _ z=>z) (λ c z=>N c _ z) λ c xs z=>N c _ z
def zag (X:Cx)(pins:List (Addr×Obj))(σ:St)(s0:Shared)(D:Addr)(k:Addr->Addr->Hp->Prop)(e:Value)(s:Shared):Prop:=
 ∃E C H B n,e=.ref E/\Inv X pins σ H s/\gi H s.heap s0.heap E (.ref C)/\Tr s.heap E/\(∀b o,s0.heap.get? b=some o->∃o',s.heap.get? b=some o')/\Mi.Zl X.K C B n=true/\Jl X.K C D=true/\∀a,a.cls=.ref C->H E=none->k E C (upd H E (KP a))
theorem BM {l n:Str}{p:List Value}{newD:String}{S:List Stmt}{B:Stmt}{np hp:Pos}{Q:Flow->Shared->Prop}{k:Addr->Addr->Hp->Prop}
  (I0:Inv X pins σ H0 s0)(t:X.stack=X.env::X.outer)(hL:X.env.frame=some L)(hD:yW X.K l (.ref D))(exD:Mi.Zl X.K D p newD=true)(hbD:p.contains (.type "BaseException")=true)
  (hN:X.N.Nodup)(hi:X.N[i]? =some n)(hx:Loc X.env.scope n)
  (y:wpAny (model X.prog X.w) X.A (execs body X.env) (λ f s1=>f=.next/\Q .next s1) (zag X pins σ s0 D k) s0)
  (b:∀E C H s2,Inv X pins (σ.set i (some (.ref E))) H s2->k E C H->∀E',wpAny (model X.prog X.w) (X.A.mark (some (.ref E))) (execs (B::S) X.env)
   (λ f s4=>wpAny (model X.prog X.w) X.A (do bindName X.env n .none;unbindBehindTheSuite X.env n hp) (λ _ s5=>Q f s5) X.xe s4) E' s2)
  (hg:Gl X l)(Z:(l==("__debug__" : Str))=false:=by decide)(hf:X.fn n=true∨X.env.scope.names.lookup n=some .local:=by first|exact .inl rfl|exact .inr rfl|assumption):
  wpAny (model X.prog X.w) X.A (exec (.Try body [.ExceptHandler (some (.Name l np)) (some n) (B::S) hp] [] [] pos) X.env) Q X.xe s0:=by
 refine wpAny_Try_except (wpAny_mono y (λ f s1 ⟨ef,q⟩=>?_) λ e s1 h=>?_)
 ·subst ef
  exact wpAny_execs_nil q
 obtain⟨E,C,H,bmC,newC,rfl,I,x,tr,th,exC,up,hk⟩:=h;have hm:X.mg l=some (.ref D):=aX I.mod.kin I.mod.glob hD;obtain⟨T,a0,nT,hT,fl⟩:=flying I x tr;have Y:X.A.frames=some (X.env::X.outer):=by rw[<- t];exact I.ok.frames
 refine wpAny_looks_onW Y hL (by rw[<- t];exact fl) λ h₄ g d=>?_
 refine wpAny_landsW g λ o a U=>?_;obtain⟨c,x5,r,z⟩:=landed I0 I x nT hT th (by rw[<- t]at a;exact a) (d.trans U)
 obtain⟨_,_,oe,_,_,he,hc,_⟩:=id x5;refine wpAny_handleBy_cons (codeAny_handlers_test (Calls.Name_function_global c.ok.kind hg (Calls.loadGlobal_global (by rw[c.ok.glob];exact c.mod.glob.keeps c.bk) hm ?_) Z)) (by intro q;cases q)
 refine Hg (s:={ s1 with heap:=o }) (UM c.kIn exC) (UM c.kIn exD) hbD he hc (za9 c.kIn up) ?_
 refine codeAny_handlers_suite_as ?_;obtain⟨T',a0',M,hT',fl'⟩:=flying c x5 r;refine lands_againW fl' λ h₆ j u=>?_;obtain⟨I6,x6,_,_⟩:=landed I0 c x5 M hT' z j u;obtain⟨of,P,J,I7⟩:=Yj I0 I6 x6;exact JP (v:=.ref E) I7 hN hi hx rfl (λ s7 I7=>b E C _ s7 I7 (hk of P J) _) hf
end
section
variable {A:Around}
theorem name_goes {n:Str}{Q:Unit->Shared->Prop}(I:Inv X pins σ H s)(hN:X.N.Nodup)(D:X.N[i]? =some n)(Z:X.env.scope.names.lookup n=some .local)
  (h:∀s',Inv X pins (σ.set i none) H s'->Q () s'):wpAny M A (do bindName X.env n .none;unbindBehindTheSuite X.env n pos) Q E s:=by
 obtain⟨m,hn,Y⟩:=id I.loc;have f:i < σ.length:=by rw[I.len];exact(qa2.mp D).1
 refine wpAny_nameGoes_keeps Z hn (by rw[I.ok.kind];rfl) λ h' v w t=>h _ ?_
 have old:∀b o,b≠X.env.locals->s.heap.get? b=some o->h'.get? b=some o:=λ b o n q=>(t.2 b n).trans q;have nl:∀{b:Addr}{u:HO},H b=some u->b≠X.env.locals:=λ q z=>by rw[z,I.free]at q;cases q
 have ab:∀{b:Addr}{k:Nat},b<k->k<=X.env.locals->b≠X.env.locals:=λ l g=>aM (aD l g);refine⟨I.ok,I.os,I.bare,⟨λ b o e z C x=>?_,λ b o e z C x=>?_,I.base.free,λ b o e x=>?_,I.base.tups,I.base.frzs,I.base.tbls⟩,⟨_,w,λ j y K a r e3=>?_⟩,λ y c e=>?_,I.free,I.freeC,λ p T=>?_,λ b u q=>?_,by simpa using I.len⟩
 ·exact old b o (ab (aI e) I.ok.above) (I.base.keep b o e z C x)
 ·obtain⟨S,a⟩:=I.base.slot b o e z C x
  exact⟨S,old b _ (ab (aI e) I.ok.above) a⟩
 ·obtain⟨o',a⟩:=I.base.there b o e x
  exact⟨o',old b _ (ab (aI e) I.ok.above) a⟩
 ·by_cases B:j=i
  ·subst B
   rw[aG f]at r;cases r
  ·rw[aH (Ne.symm B)]at r
   obtain⟨U,L,q⟩:=Y j y K a r e3;refine⟨U,L,?_⟩;rcases q with ⟨k,e⟩|⟨k,c,e,z⟩
   ·have:y≠n:=λ e=>B (VE hN a (e ▸ D))
    exact .inl ⟨k,by simp[this,e]⟩
   ·exact .inr ⟨k,c,e,z.sameBut t (I.cne y c e)⟩
 ·obtain⟨J,z⟩:=I.cell y c e
  exact⟨J,z.sameBut t (I.cne y c e)⟩
 ·obtain⟨e,z,ne,P,d⟩:=I.pin p T
  exact⟨old _ _ ne e,z,ne,P,d⟩
 ·refine(I.hok b u q).stay (λ c v hc z=>old c v ?_ z) (λ _ z=>z) λ _ _ z=>z
  rcases hc with e|e
  ·rw[e];exact nl q
  ·exact nl e
theorem Ho {n y:Str}{E:Addr}{np Y ap p:Pos}{Q:Flow->Shared->Prop}{B:Value->Shared->Prop}(I:Inv X pins (σ.set i (some (.ref E))) H s)(d:X.N.Nodup)(b:X.N[i]? =some n)(x:X.N[j]? =some y)
  (h:X.env.scope.names.lookup n=some .local)(g:Loc X.env.scope y)(q:∀s',Inv X pins (((σ.set i (some (.ref E))).set j (some (.ref E))).set i none) H s'->Q .next s')
  (o:swapsWith (.Name n np) (some (.Name y Y)) ap.line X.env=pure false)(hf:X.fn y=true∨X.env.scope.names.lookup y=some .local)
  (c:(n==("__debug__" : Str))=false:=by decide):
  wpAny (model X.prog X.w) A (execs [.Assign [.Name y Y] (.Name n np) ap] X.env) (λ f s4=>wpAny (model X.prog X.w) X.A (do bindName X.env n .none;unbindBehindTheSuite X.env n p) (λ _ s5=>Q f s5) X.xe s4) B s:=by
 obtain⟨m,hn,t⟩:=I.loc;have a:i < σ.length:=by have:=I.len;rw[length_set]at this;rw[this];exact(qa2.mp b).1
 obtain⟨u,r,l⟩:=t i n (.ref E) b (aG a) (.inl h);obtain rfl:u=Value.ref E:=r;have hm:m n=some (.ref E):=by
  rcases l with ⟨_,e⟩|⟨k|k,_⟩
  ·exact e
  ·rw[show X.env.kindOf n=some .local from h]at k;cases k
  ·rw[show X.env.kindOf n=some .local from h]at k;cases k
 refine wpAny_execs_cons (wpAny_Assign_Name (wpAny_Name (wpAny_loadName_local I.ok.kind h hn hm ?_) c) o);exact JP (v:=.ref E) I d x g rfl (λ s5 z=>wpAny_execs_nil (name_goes z d b h q)) hf
end
end Mi
namespace Mi
open PySem PySem.W PySem.Spec PySem.Calls PyProof.Rows Builtin Builtin.ObjectAttr Builtin.Getset_descriptor
section
variable {prog:Program}{A:Around}{K:Frag}{x:Addr}{name:Str}
theorem BX {a g:Value}(X:K.In h)(b:findIn K (.ref D) name=some (some a))(hn:specialIn K a "__get__" = some (some g))(H:takesIn K a=some true):Looks M h (find (.ref x) (.ref D) name) (.bind g a):=
 (looks_findIn (M:=M) X b).andThen ((show Looks M h (getOf (some a)) (some g) from looks_specialIn X hn).andThen
  ((show Looks M h (dataDescriptor? (some a) (some g)) (some (g,a)) from (looks_takesIn (M:=M) X H).andThen .now).andThen (Looks.tag .now)))
theorem C8 {tp:Value}{R:Result->Shared->Prop}(X:K.In s.heap)(l:Looks (model prog w) s.heap (typeOf (.ref x)) (.ref D))(hm:mroIn K D (.type "object")=some true)(h:R (.ok (.ret (.ref D))) s):
  codeAny (model prog w) A (.call (.builtin "getset_descriptor.__get__") ⟨[.builtin "object.__class__",.ref x,tp],[]⟩) R s:=by
 obtain⟨h0,g,d,t0,o0⟩:=s;have L:=looks_mroIn (M:=model prog w) X hm;have S:=KF.slot_gs;refine codeAny_call_builtin S.plain KF.entry_gs (S.check _ _ _ _ _ _ _ _ KF.type_class (KF.args_gs _ _ _) ?_);unfold «getset_descriptor.__get__» descrGet;rw[dga_obj];refine qa0 (qa1 ?_);unfold descrGetter descrCheckInstance isInstance descrNameAndClass;simp only[KF.owner_class]
 repeat lk
 refine And.intro (Code.quiet_builtin _ (by decide +kernel)) (codeAny_builtin KF.entry_class ?_)
 unfold «object.__class__» shownTypeOf
 repeat lk
 exact h
theorem Hz {rest:List Value}{kw:List (Str×Value)}{Q:Unit->Shared->Prop}(X:K.In s.heap)(l:Looks M s.heap (typeOf (.ref x)) (.ref D))(hm:mroIn K D (.type "BaseException")=some true)
  (ok:argsOk "BaseException.__getattribute__" ⟨.ref x::rest,kw⟩)(h:Q () s):wpAny M A (checkBuiltinCall "BaseException.__getattribute__" ⟨.ref x::rest,kw⟩) Q E s:=by
 have cut:splitId "BaseException.__getattribute__" = some ("BaseException","__getattribute__"):=by first|rfl|decide +kernel
 have kinds:builtinKind "BaseException.__getattribute__" = some .slot∨builtinKind "BaseException.__getattribute__" = some .method:=by
  simp only[builtinKind,cut]
  first|exact .inl (by decide +kernel) | exact .inr (by decide +kernel)
 have L:=looks_mroIn (M:=M) X hm;have r:wpAny M A (match Manifest.signature? "BaseException.__getattribute__" with|some sig=>Bind.checkArgs "BaseException.__getattribute__" sig ⟨.ref x::rest,kw⟩|none=>pure ()) Q E s:=wpAny_of_eq ok h
 rcases kinds with d|d
 all_goals
  unfold checkBuiltinCall;rw[d,cut];dsimp only;unfold isInstance;refine qa0 (qa0 (l.at (L.at ?_)));exact r
theorem Il {Q:Option Value->Shared->Prop}(b:findIn K (.ref D) "__getattribute__" = some (some (.builtin "BaseException.__getattribute__")))(n:findIn K (.ref D) "__getattr__" = some none)
  (e:findIn K (.ref D) "__class__" = some (some (.builtin "object.__class__")))
  (hn:specialIn K (.builtin "object.__class__") "__get__" = some (some (.builtin "getset_descriptor.__get__")))(H:takesIn K (.builtin "object.__class__")=some true)(hm:mroIn K D (.type "object")=some true)(a:mroIn K D (.type "BaseException")=some true)
  (X:K.In s.heap)(L:Looks (model prog w) s.heap (typeOf (.ref x)) (.ref D))(h:Q (some (.ref D)) { s with toks:=s.toks+1 }):wpAny (model prog w) A (getAttr? (.ref x) "__class__") Q E s:=by
 obtain⟨c,g,d,t,os⟩:=s;have l:=looks_findIn (M:=model prog w) X b;have L2:=BX (M:=model prog w) (x:=x) X e hn H;have f:=looks_findIn (M:=model prog w) X n;unfold getAttr?;unfold getAttrBy?;unfold getAttrBy;refine qa0 (wpAny_mkText (qa0 (wpAny_attempt (wpAny_holding (qa0 (L.at (qa0 (l.at ?_))))))));show wpAny _ _ (getAttrByItsOwn (.ref x) (.str "__class__" t) (.ref D) (.builtin "BaseException.__getattribute__") false false) _ _ _;unfold getAttrByItsOwn;refine qa0 ?_;show wpAny _ _ (typeLookup (.ref D) "__getattr__") _ _ _;refine f.at (qa0 (wpAny_attempt (wpAny_holding ?_)));show wpAny _ _ (bindSpecial (.builtin "BaseException.__getattribute__") (.ref x) >>= _) _ _ _;refine qa0 (wpAny_of_eq (F.excAttr_ValueError.ga.bind _) ?_);refine wpAny_call (codeAny_call_builtin F.excAttr_ValueError.ga.plain F.entry_bexc_ga (Hz X L a (F.args_bexc_ga _ _) ?_));unfold «object.__getattribute__»;refine qa0 (wpAny_of_eq (show slotArgs "__getattribute__" 1 ⟨[.ref x]++[.str "__class__" t],[]⟩=pure (.ref x,[.str "__class__" t]) from rfl) ?_)
 refine qa0 (wpAny_of_eq (show attrName (.str "__class__" t)=pure ("__class__" : Str) from rfl) (qa0 (L.at (qa0 (L2.at ?_)))))
 show wpAny _ _ (holding [Value.builtin "object.__class__"] (call (.builtin "getset_descriptor.__get__") [.builtin "object.__class__",.ref x,.ref D]) >>= ret) _ _ _;refine qa0 (wpAny_holding (wpAny_call (C8 (s:=⟨c,g,d,t+1,os⟩) X L hm ?_)));refine qa1 ?_;exact handed_on rfl (qa1 h)
end
def Gi (x D:Addr)(h:Heap):Prop:=∃o,h.get? x=some o/\o.cls=.ref D
theorem Gi.ty {x:Addr}(p:Gi x D h):Looks M h (typeOf (.ref x)) (.ref D):=by
 obtain⟨o,H,c⟩:=p;rw[<- c];exact(Looks.ld H).andThen .now
theorem Ep {K:Frag}{x:Addr}(d:(clsIn K D).isSome=true)(c:findIn K (.ref D) "__getattribute__" = some (some (.builtin "BaseException.__getattribute__")))(b:findIn K (.ref D) "__getattr__" = some none)(e:findIn K (.ref D) "__class__" = some (some (.builtin "object.__class__")))
  (hn:specialIn K (.builtin "object.__class__") "__get__" = some (some (.builtin "getset_descriptor.__get__")))(H:takesIn K (.builtin "object.__class__")=some true)(hm:mroIn K D (.type "object")=some true)(a:mroIn K D (.type "BaseException")=some true):
  KitX K (.ref x) (.ref D) (Gi x D) where
 ty:=λ _ _ _ p=>p.ty
 it:=λ _ _ X _=>by
  obtain⟨C,h⟩:=Option.isSome_iff_exists.mp d;unfold clsIn at h
  split at h
  ·rename_i g d' f s o
   intro A' Q' E s' k q;unfold isType loadHead;exact qa0 (wpAny_loadPart (k _ _ (X D _ o)) (qa1 q))
  ·cases h
 ne:=λ _ tp dd i n S X t=>by
  obtain⟨C,h⟩:=Option.isSome_iff_exists.mp d;rw[Bool.eq_false_iff];intro q;cases Value.ref.inj (aL.mp q);unfold clsIn at h
  split at h
  ·rename_i o
   cases (X _ _ o).symm.trans t
  ·cases h
 ca:=λ X p k=>Il c b e hn H hm a X p.ty k
end Mi
namespace Mi
open PySem PySem.Spec PyProof.Rows L2
noncomputable def Kq (K:Frag)(C:Addr):Bool:=(PySem.W.clsIn K C).isSome&&(PySem.W.findIn K (.ref C) "__getattribute__" == some (some (.builtin "BaseException.__getattribute__")))&&(PySem.W.findIn K (.ref C) "__getattr__" == some none)&&(PySem.W.findIn K (.ref C) "__class__" == some (some (.builtin "object.__class__")))&&
 (PySem.W.specialIn K (.builtin "object.__class__") "__get__" == some (some (.builtin "getset_descriptor.__get__")))&&(PySem.W.takesIn K (.builtin "object.__class__")==some true)&&(PySem.W.mroIn K C (.type "object")==some true)&&(PySem.W.mroIn K C (.type "BaseException")==some true)
section
variable {A:Around}{c:Value}{b:Bool}{ea C:Addr}
theorem BD {o:Obj}{u:HO}(I:Inv X pins σ H s)(e:H ea=some (.frz o u))(d:o.cls=.ref C)(k:Kq X.K C=true)(q:kitOne X.K (.ref C) c=some b)(h:∀tk,Q (.bool b) { s with toks:=tk }):
  wpAny (model X.prog X.w) A (call (.builtin "isinstance") [.ref ea,c]) Q E s:=by
 have p:Gi ea C s.heap:=⟨o,(show jd X.prog X.w H s.heap ea (.frz o u) from I.hok ea _ e).1,d⟩
 unfold Kq at k;simp only[aj,aL]at k;obtain⟨⟨⟨⟨⟨⟨⟨k1,k2⟩,a⟩,k3⟩,i⟩,k5⟩,g⟩,f⟩:=k;exact bF (Ep k1 k2 a k3 i k5 g f) I.kIn p q (λ z=>nomatch z) h
theorem zaf (I:Inv X pins σ H s)(q:kitOne X.K (.type "NoneType") c=some b)(h:∀tk,Q (.bool b) { s with toks:=tk }):wpAny (model X.prog X.w) A (call (.builtin "isinstance") [.none,c]) Q E s:=
 R1 I (x:=.non) rfl .non q h
end
def ZQ (P:Program)(w:World)(K:Frag)(mg:Str->Option Value)(base:Heap)(N:List Str)(qual:Str)(scope:Scope)(f:Addr)(cd:Value)(cl:List (Str×Addr))(A:Around)(outer:List Env)(s:Shared)(H:Hp)(E:XK):Cx where
 prog:=P
 w:=w
 K:=K
 mg:=mg
 base:=base
 A:=A.deeper (envX qual scope s.heap.objs.size f cd cl)
 N:=N
 s0:=s
 H0:=H
 env:=envX qual scope s.heap.objs.size f cd cl
 outer:=outer
 stack:=envX qual scope s.heap.objs.size f cd cl::outer
 ex:=[]
 calm:=true
 fn:=λ _=>false
 pn:=[]
 xe:=λ e s'=>wpAny (model P w) (A.deeper (envX qual scope s.heap.objs.size f cd cl)) (leaving (envX qual scope s.heap.objs.size f cd cl) e) (λ _ S=>gT P w outer H s E e S) (λ a S=>gT P w outer H s E a S) s'
section
variable {K:Frag}{cd:Value}{cl:List (Str×Addr)}{A:Around}{outer:List Env}{E:XK}
theorem Fe {h:Hp}{a C:Addr}(I:Inv (ZQ P w K mg base N qual scope f cd cl A outer s H E) pins σ h s')(x:gi h s'.heap s.heap a (.ref C))(y:E (.ref C) none h):
  (ZQ P w K mg base N qual scope f cd cl A outer s H E).xe (.ref a) s':=by
 have bs:Un (qE outer) [] H h s.heap s'.heap:=I.base;have stk:∀b∈qE (envX qual scope s.heap.objs.size f cd cl::outer),h b=none:=I.stkFree;have p:s.heap.get? s.heap.objs.size=none:=Heap.get?_none_of_le (aw _);have g:(envX qual scope s.heap.objs.size f cd cl).frame=some s.heap.objs.size:=rfl;have mem:∀b,b∈qE (envX qual scope s.heap.objs.size f cd cl::outer)↔b=s.heap.objs.size∨b∈qE outer:=λ b=>by
  unfold qE;rw[bw,g];exact mem_cons
 show wpAny (model P w) (A.deeper (envX qual scope s.heap.objs.size f cd cl)) (leaving (envX qual scope s.heap.objs.size f cd cl) (.ref a)) _ _ s';refine Ng (base:=base) (L:=s.heap.objs.size) I.ok.frames rfl I.stack x (λ b u e=>(I.hok b u e).obj) (λ b o e=>bs.there b o e (by simp)) λ h' k1 k2 X t=>?_
 have r:∀b u,h b=some u->b∉qE (envX qual scope s.heap.objs.size f cd cl::outer):=λ b u e hm=>by rw[stk b hm]at e;cases e
 refine⟨a,C,h,rfl,I.os,I.bare,⟨λ b o e n nb _=>?_,λ b o e n mb _=>?_,λ b o e n d=>bs.free b o e n d,λ b o e d=>?_,bs.tups,bs.frzs,bs.tbls⟩,λ b u e=>?_,X,t,y⟩
 ·have i:b≠s.heap.objs.size:=λ z=>by rw[z,p]at e;cases e
  exact k1 b o (bs.keep b o e n nb (by simp)) (λ hm=>(mem b).mp hm |>.elim i nb) (.inl ⟨o,e⟩)
 ·obtain⟨l,q⟩:=bs.slot b o e n mb (by simp)
  obtain⟨S,Q⟩:=k2 b _ q ((mem b).mpr (.inr mb));exact⟨S,Q⟩
 ·obtain⟨o',q⟩:=bs.there b o e d
  by_cases hm:b∈qE (envX qual scope s.heap.objs.size f cd cl::outer)
  ·obtain⟨l,z⟩:=k2 b o' q hm;exact⟨_,z⟩
  ·exact⟨o',k1 b o' q hm (.inl ⟨o,e⟩)⟩
 ·refine(I.hok b u e).stay (λ c v j q=>?_) (λ _ q=>q) λ _ _ q=>q
  rcases j with z|z
  ·rw[z]at q ⊢;exact k1 b v q (r b u e) (.inr ⟨u,e⟩)
  ·exact k1 c v q (r c _ z) (.inr ⟨_,z⟩)
theorem za8:Zi (ZQ P w K mg base N qual scope f cd cl A outer s H E) s.heap (Zn K E) where
 th:=λ pins σ h s' I b o e=>(show Un (qE outer) [] H h s.heap s'.heap from I.base).there b o e (by simp)
 out:=λ pins σ h s' d C x I l c a=>Fe I l (a C c)
structure VD (N:List Str)(sc:Scope):Prop where
 kind:sc.kind=.function
 co:sc.isCoroutine=false
 gen:sc.isGenerator=false
 nocell:∀y∈sc.names,y.2≠.cell
structure WM (base:Heap)(N:List Str)(scope:Scope)(cl:List (Str×Addr))(vs:List V):Prop where
 len:vs.length=N.length
 inj:∀x y c,cl.lookup x=some c->cl.lookup y=some c->x=y
 has:∀x,scope.names.lookup x=some .free->∃c,cl.lookup x=some c
 cell:∀x c,cl.lookup x=some c->∃v,base.IsCell c v
 val:∀(i:Nat)(x:Str)(v:V),N[i]? =some x->vs[i]? =some v->∃c u,scope.names.lookup x=some .free/\cl.lookup x=some c/\base.IsCell c (some u)/\RelV v u
theorem Bn {j:Heap}{tk:Tok}(S:VD N scope)(hd:A.handled=none)(e0:Jm P w K mg base A outer s H)(C:WM base N scope cl vs)(q:∃m,j.Ns s.heap.objs.size m)(t:∀b o,s.heap.get? b=some o->j.get? b=some o):
  Inv (ZQ P w K mg base N qual scope f cd cl A outer s H E) [] (L2.start N vs) H { s with heap:=j,toks:=tk }:=by
 have n:∀b:Addr,b∉(ZQ P w K mg base N qual scope f cd cl A outer s H E).ex:=λ b z=>absurd (show b∈([]:List Addr) from z) (by simp)
 have bk:∀c v,base.IsCell c v->j.IsCell c v/\H c=none:=λ c v ⟨o,x,hd⟩=>⟨⟨o,t _ _ (e0.bs _ _ x).1,hd⟩,(e0.bs _ _ x).2⟩;obtain⟨m,hm⟩:=q;refine⟨⟨e0.mod,S.kind,rfl,rfl,aw _,C.inj,λ y g=>?_,λ y c z _=>(nomatch z),λ _=>hd,Around.frames_deeper e0.frames,.inr ⟨rfl,rfl⟩,λ b z=>absurd z (n b),e0.bs,e0.bsz,λ b _ _=>n b,λ b z=>absurd z (n b),e0.funs,e0.frf⟩,
  rfl,e0.bare,Un.kept t,⟨m,hm,λ i y v j d I=>?_⟩,λ y c h=>?_,e0.hok.fresh (aw _),λ y c h=>?_,λ p B=>absurd (show p∈([]:List (Addr×Obj)) from B) (by simp),e0.hok.kept t,?_⟩
 ·have g:scope.names.lookup y=some .cell∨scope.names.lookup y=some .free:=g
  rcases g with g|g
  ·exact absurd rfl (S.nocell _ (PySem.mem_of_lookup g))
  ·exact C.has y g
 ·have l:i<vs.length:=by
   unfold L2.start at d
   by_cases l:i<vs.length
   ·exact l
   ·rw[aq (by simpa using l)]at d
    rw[bj]at d
    split at d<;>cases d
  have D:vs[i]? =some v:=by
   unfold L2.start at d;rw[ah (by simpa using l),ar]at d
   cases e:vs[i]? with
   |none=>rw[e]at d;cases d|some a=>rw[e]at d;cases d;rfl
  obtain⟨c,u,k,e,z,r⟩:=C.val i y v j D;exact⟨u,r,.inr ⟨.inr k,c,e,(bk _ _ z).1⟩⟩
 ·obtain⟨v,z⟩:=C.cell y c h
  exact⟨v,(bk _ _ z).1⟩
 ·obtain⟨v,z⟩:=C.cell y c h
  exact(bk _ _ z).2
 ·unfold L2.start
  show _=N.length;rw[ay,ai,bx,C.len];omega
def OZ (o:Obj)(q:Str):Prop:=∃vs t,o.data=.fields vs/\vs[1]? =some (.str q t)
theorem AF {k:Nat}{name:Str}{params:Arguments}{body:Expr}{pm ctv:Value}{i:Obj}{u uc:HO}{m:Ev}(S:VD N scope)(C:WM base N scope cl vs)(n:OZ i qual)
  (g:∀(A:Around)(outer:List Env)(s:Shared)(H:Hp)(E:XK),ju k (A.deeper (envX qual scope s.heap.objs.size a (.ref c) cl))->Zi (ZQ P w K mg base N qual scope a (.ref c) cl A outer s H E) s.heap (Zn K E)->
   SE (ZQ P w K mg base N qual scope a (.ref c) cl A outer s H E) (Zn K E) body m):
  yN P w K mg base (gT P w) (k+1) a (kla_fn name qual params body scope cl pm (.ref c) ctv) [] (λ us H Q E=>us=[]/\H a=some (.frz (kla_obj name qual params body scope cl pm c ctv) u)/\H c=some (.frz i uc)/\
   ∃φ A ws,zM K φ A H/\zG K φ H ws vs/\(m (ws.map some) A).post (PB K φ H Q) (EB K φ H (Zn K E))):=by
 refine⟨λ us H Q E h=>by rw[h.1];rfl,λ A outer s H args us B Q E l e0 hb r h=>?_⟩
 obtain⟨rfl,h1,h2,φ,A1,ws,Sm,z,X⟩:=h;cases r;have Y:s.heap.get? a=some (kla_obj name qual params body scope cl pm c ctv):=(show jd P w H s.heap a (.frz _ u) from e0.hok a _ h1).1
 have Z:s.heap.get? c=some i:=(show jd P w H s.heap c (.frz i uc) from e0.hok c _ h2).1
 have lim:s.heap.NoLimit:=e0.mod.nolimit.keeps λ b o e=>(e0.bs b o e).1;obtain⟨D,T,t,hd2⟩:=n;refine PySem.W.kla_callFunE l.depth Y rfl S.co S.gen rfl ⟨c,i,D,T,rfl,Z,t,hd2⟩ (hb _ _ _ _ ?_);refine wpAny_newFunctionEnv S.nocell (λ y M=>absurd (show y∈([]:List (Str×Value)) from M) (by simp)) (λ d p j=>⟨lim.fresh _ j,?_⟩) S.kind
 show codeAny _ _ (.expr body (envX qual scope s.heap.objs.size a (.ref c) cl)) _ _;have f:∀b o,s.heap.get? b=some o->d.get? b=some o:=λ b o e=>j.extBut b o (aM (aI e)) (af _ e);have I:∀tk,Inv (ZQ P w K mg base N qual scope a (.ref c) cl A outer s H E) [] (L2.start N vs) H { s with heap:=d,toks:=tk }:=λ tk=>Bn S l.hd e0 C ⟨_,p⟩ f
 refine PySem.W.kla_codeExpr (wpAny_mono (g A outer s H E (l.deeper _) za8 [] _ (L2.start N vs) H Q (I _) ⟨φ,A1,_,Sm,RE.start (N:=N) z,?_⟩) (λ v s' U=>?_) λ _ _ y=>y)
 ·have:N.length - ws.length=0:=by rw[z.length,C.len];omega
  rw[this,List.replicate_zero,bo];exact X
 ·obtain⟨x,H',J,L,q⟩:=U
  exact⟨x,H',J.os,J.bare,J.base,J.hok,L,q⟩
end
inductive zaN (K:Frag)(a:Addr)(ob:Obj)(u:HO)(c:Addr)(oc:Obj)(uc:HO)(vs:List V)(g:Fn)(us:List V)(H:Hp)(Q:VK)(E:XK):Prop
 |mk (e:us=[]) (h1:H a=some (.frz ob u)) (h2:H c=some (.frz oc uc)) (φ:List Addr) (A:Hx) (ws:List W) (S:zM K φ A H) (r:zG K φ H ws vs) (q:(g ws A).post (PB K φ H Q) (EB K φ H (Zn K E)))
def ZF (P:Program)(w:World)(K:Frag)(mg:Str->Option Value)(base:Heap)(j:Nat)(p:Obj->Addr->Obj->List V->Prop)(g:Fn):Prop:=
 ∀a ob u c o uc vs,p ob c o vs->(∃fd,ob.data=.func fd)/\∃fd,yN P w K mg base (gT P w) j a fd [] (zaN K a ob u c o uc vs g)/\∀s,BindsTo s fd ⟨[],[]⟩ []
open Classical in
noncomputable def G2 (i:Nat)(PG:Nat->Obj->Addr->Obj->List V->Prop)(lam:Nat->Fn):Ev:=λ ρ A=>match ρ[i]? with
 |some (some (.clo k ws P))=>if P=PG k then lam k ws A else .bad|_=>.bad
def KA (i j l:Nat)(cs:List Str)(PG:Nat->Obj->Addr->Obj->List V->Prop)(lam:Nat->Fn):Ex:=λ ρ A=>match G2 i PG lam ρ A with
 |.ok _ A1=>.ok (.nx ρ) A1|.exc x A1=>if cs.contains x then .ok (.nx (((ρ.set l (some (.xc x))).set j (some (.xc x))).set l none)) A1 else .bad|.bad=>.bad
section
variable {K:Frag}
theorem RE.unset (r:RE K φ H ρ σ):RE K φ H (ρ.set i none) (σ.set i none):=
 ⟨by simp[r.len],λ j u e=>by
  by_cases h:i=j
  ·subst h
   have a:i < ρ.length:=by
    have:=(qa2.mp e).1
    simpa using this
   rw[aG a]at e;cases e
  ·rw[aH h]at e
   obtain⟨x,c,b⟩:=r.get j u e;exact⟨x,by rw[aH h];exact c,b⟩⟩
end
def NL (K:Frag)(φ:List Addr)(H:Hp)(ρ:En)(j l:Nat)(D:Ends)(x:Str)(A':Hx):Prop:=∀a h b,Le K φ H a h->zM K a A' h->RE K a h (((ρ.set l (some (.xc x))).set j (some (.xc x))).set l none) b->D.nx b h
inductive zcd (K:Frag)(φ:List Addr)(H:Hp)(ρ:En)(j l:Nat)(D0:Ends)(ea C:Addr)(H':Hp):Prop
 |mk (xn:Str) (φ':List Addr) (A':Hx) (le:Le K φ H φ' H') (S:zM K φ' A' H') (rv:RV K φ' H' (.xc xn) (.ref ea)) (n:NL K φ H ρ j l D0 xn A')
inductive zb5 (K:Frag)(φ:List Addr)(H:Hp)(ρ:En)(j l:Nat)(D0:Ends)(cs:List Str)(Cv:Value)(d:Option Addr)(H1:Hp):Prop
 |mk (xn:Str) (Ca:Addr) (e:Cv=.ref Ca) (hC:yW K xn (.ref Ca)) (hc:cs.contains xn=true) (φ1:List Addr) (A1:Hx) (le:Le K φ H φ1 H1) (S:zM K φ1 A1 H1) (n:NL K φ H ρ j l D0 xn A1)
def NP (K:Frag)(f:Str->Option Bool)(cv:V):List V->Hp->VK->Prop:=λ xs H Q=>∃x,xs=[x,cv]/\((x=.non/\Q (.bl false) H)∨∃a o u C nm b,x=.ref a/\H a=some (.frz o u)/\o.cls=.ref C/\yW K nm (.ref C)/\f nm=some b/\Q (.bl b) H)
structure Kt (K:Frag)(f:Str->Option Bool)(c:Value):Prop where
 non:kitOne K (.type "NoneType") c=some false
 exc:∀nm C b,f nm=some b->yW K nm (.ref C)->Kq K C=true/\kitOne K (.ref C) c=some b
def jf (f:Str->Option Bool)(m:Ev):Ev:=λ ρ A=>(m ρ A).bind λ w A1=>match w with
 |.non=>.ok (.bl false) A1|.xc nm=>(match f nm with
  |some b=>.ok (.bl b) A1|none=>.bad)
 |_=>.bad
section
variable {m:Ev}{f:Str->Option Bool}
theorem PK {cv:V}{c:Value}(g:Kt X.K f c)(rc:∀u,RelV cv u->u=c):ye X (.builtin "isinstance") (NP X.K f cv):=by
 intro pins s σ H xs us Q I r h;obtain⟨x,rfl,h⟩:=h;obtain⟨u,o,rfl,e,d⟩:=vals2 r;cases rc _ d;rcases h with ⟨rfl,q⟩|⟨a,p,U,C,nm,b,rfl,n,l,j,i,q⟩
 ·cases (show u=Value.none from e)
  exact zaf I g.non λ tk=>⟨.bl false,H,I.tok tk,rfl,q⟩
 ·cases (show u=Value.ref a from e)
  obtain⟨k1,k2⟩:=g.exc nm C b i j;exact BD I n l k1 k2 λ tk=>⟨.bl b,H,I.tok tk,rfl,q⟩
theorem jf.read {cv:V}{t:TE}(i:∀σ H Q,Q cv H->t σ H Q):∀σ H Q,tM X.K xr (jf f m) σ H Q->Xg (NP X.K f cv) (GJ (tM X.K xr m) (GJ t Ta)) σ H Q:=by
 rintro σ H Q ⟨φ,A,ρ,S,re,h⟩
 refine tM.go S re (zW.mp h) λ w A1 d H1 v c l s q=>?_;refine i σ H1 _ ?_;cases w with
 |non=>
  obtain rfl:=q;exact⟨.non,rfl,.inl ⟨rfl,c d H1 _ l s rfl⟩⟩
 |xc nm=>
  dsimp only at c;cases e:f nm with
  |none=>rw[e]at c;exact c.elim|some b=>
   rw[e]at c;obtain⟨a,o,u,C,rfl,g,Z,z⟩:=q;exact⟨.ref a,rfl,.inr ⟨a,o,u,C,nm,b,rfl,g,Z,z,e,c d H1 _ l s rfl⟩⟩
 |bl _=>exact c.elim|int _=>exact c.elim|str _=>exact c.elim|tup _=>exact c.elim|ref _=>exact c.elim|clo _ _ _=>exact c.elim
end
theorem Ly {a b:Int}{c cv:Value}(l:List Value)(h:TriplesOk l)(e:codeAmong pos (l++[rawInt a,rawInt b,c])=some cv):codeAmong pos l=some cv∨cv=c:=by
 fun_induction TriplesOk l with
 |case1=>
  right
  simp only[nil_append,codeAmong,rawInt]at e
  split at e
  ·exact(aB e).symm
  ·cases e
 |case2 A t B u x rest i=>
  simp only[List.cons_append,codeAmong]at e ⊢
  split at e
  ·rename_i H;rw[ag H];exact .inl e
  ·rename_i H;rw[ak H];exact i h e
 |case3 l f d=>exact h.elim
def BMain (mg:Str->Option Value)(base:Heap):Prop:=∃bm o,mg "__builtins__" = some (.ref bm)/\bm≠builtinsNs/\bm≠mainGlobals/\base.get? bm=some o/\o.cls=.type "module" /\ o.dict=some builtinsNs/\o.data=.plain
noncomputable def G8 (q:Str)(params:Arguments)(body:Expr)(scope:Scope)(C:List (Str×Addr)):Obj->Addr->Obj->List V->Prop:=λ ob c o _=>(∃pm ctv,ob=kla_obj "<lambda>" q params body scope C pm c ctv)/\OZ o q
noncomputable def j6 (n:Nat)(q:Str)(P:Addr)(k:Nat)(PF:Obj->Addr->Obj->List V->Prop):Ev:=λ _ A=>match A[n]? with
 |some (.tab Q P')=>if Q=q/\P'=P then .ok (.clo k [] PF) A else .bad|_=>.bad
section
variable {k:Nat}{q:Str}{P:Addr}{params:Arguments}{body:Expr}{clos:List (Str×Addr)}
theorem Aw (hB:BMain X.mg X.base)(y:X.env.code=.ref c)(C:CodeHd X.base c P)(hcl:closureFor scope X.env=pure clos)(hq:X.env.qual ++ "<lambda>" = q)(hdef:defaultsOf params X.env=([],[]):=by rfl):
  SE X xr (.Lambda params body scope pos) (j6 n q P k (G8 q params body scope clos)):=by
 intro pins s σ H Q I ⟨φ,A,ρ,S,re,h⟩;unfold j6 at h;cases Z:A[n]? with
 |none=>rw[Z]at h;exact h.elim|some o=>
  rw[Z]at h;cases o with
  |tab L P'=>
   dsimp only at h
   by_cases hc:L=q/\P'=P
   ·rw[ag hc]at h
    obtain⟨rfl,rfl⟩:=hc;obtain⟨a,ha,eaP,ps,t,Y⟩:=S.ob n _ Z;subst eaP;have hP:s.heap.get? a=some (tabObj ps):=(show jd X.prog X.w H s.heap a (.tbl ps) from I.hok a _ t)
    have hg:s.heap.Ns mainGlobals X.mg:=I.mod.glob.keeps I.bk;have hgP:mainGlobals≠a:=λ z=>by
     obtain⟨o,es,ep,e,hd,_⟩:=hg;rw[z,hP]at e;cases e;cases hd
    have r:s.heap.BuiltinsAt X.mg a:=by
     obtain⟨bm,o,b1,b2,b3,b4,b5⟩:=hB;refine⟨bm,o,b1,b2,b3,λ z=>?_,I.bk _ _ b4,b5⟩
     have:=(I.bs _ _ b4).2
     rw[z,t]at this;cases this
    refine PySem.W.kla_eval hdef ?_;rw[hq];have M:∀b,s.heap.objs.size<=b->H b=none:=λ b r=>I.hok.fresh r;cases hf:codeAmong pos ps.toList with
    |none=>
     refine PySem.W.kla_makeFunction (mg:=X.mg) hcl I.ok.glob hg y (C.keeps I.bk) hP Y.1 hf hgP r λ f ctv h' tk hx x U hrec htb=>?_;obtain⟨c2,g,vc,tc,ec,hoc,D,hd2⟩:=hrec;cases ec;generalize j:kla_obj "<lambda>" L params body scope clos ((X.mg "__name__").getD .none) f ctv=ob;have hPc:a<s.heap.objs.size:=aI hP;have nPc:a≠f:=aM (aD hPc x);have nPf:a≠h'.objs.size:=aM (lt_trans (aD hPc x) U);have T:f≠h'.objs.size:=aM U;have hsf:s.heap.objs.size<=h'.objs.size:=br x (bD U);have E:H f=none:=M f x;have l:H h'.objs.size=none:=M _ hsf;have H1f:upd H f (.frz g (.own 0)) h'.objs.size=none:=by rw[qj (Ne.symm T)];exact l
     generalize B:ps++#[rawInt pos.line,rawInt pos.col,.ref f]=p at htb;have S1:=S.lay (u:=.frz g (.own 0)) E;have S2:=S1.lay (u:=.frz ob (.own 0)) H1f;have fz:∀b o u,upd (upd H f (.frz g (.own 0))) h'.objs.size (.frz ob (.own 0)) b=some (.frz o u)->upd (upd (upd H f (.frz g (.own 0))) h'.objs.size (.frz ob (.own 0))) a (.tbl p) b=some (.frz o u):=λ b o u e=>by
      rw[qj];exact e;intro z;rw[z,qj nPf,qj nPc,t]at e;cases e
     have fz0:∀b o u,H b=some (.frz o u)->upd (upd H f (.frz g (.own 0))) h'.objs.size (.frz ob (.own 0)) b=some (.frz o u):=λ b o u e=>by
      rw[qj (kC e l),qj (kC e E)];exact e
     have tg':KR (upd (upd (upd H f (.frz g (.own 0))) h'.objs.size (.frz ob (.own 0))) a (.tbl p)) L p:=by
      rw[<- B];refine⟨by rw[Array.toList_append];exact TriplesOk_snoc _ _ _ _ Y.1,λ pos' cv e=>?_⟩
      rw[Array.toList_append]at e;rcases Ly _ Y.1 e with e|e
      ·obtain⟨c0,oc0,u0,vs0,t0,g1,g2,g3⟩:=Y.2 pos' cv e
       exact⟨c0,oc0,u0,vs0,t0,g1,by rw[B];exact fz _ _ _ (fz0 _ _ _ g2),g3⟩
      ·exact⟨f,g,.own 0,vc,tc,e,by rw[B];exact fz _ _ _ (by rw[qj T,jD]),D,hd2⟩
     obtain⟨l3,S3⟩:=S2.write (o:=.tab L a) (o':=.tab L a) Z rfl rfl ha (u:=.tbl p) ⟨rfl,p,jD,tg'⟩;have l03:Le X.K φ H φ _:=((Le.new E).trans (Le.new H1f)).trans l3;have set3:A.set n (.tab L a)=A:=by
      apply ext_getElem?
      intro i
      by_cases hi:n=i
      ·subst hi
       rw[aG (qa2.mp Z).1,Z]
      ·rw[aH hi]
     rw[set3]at S3;have eP:upd (upd (upd H f (.frz g (.own 0))) h'.objs.size (.frz ob (.own 0))) a (.tbl p) a=some (.tbl p):=jD;have ec:upd (upd (upd H f (.frz g (.own 0))) h'.objs.size (.frz ob (.own 0))) a (.tbl p) f=some (.frz g (.own 0)):=by rw[qj (Ne.symm nPc),qj T,jD]
     have ef:upd (upd (upd H f (.frz g (.own 0))) h'.objs.size (.frz ob (.own 0))) a (.tbl p) h'.objs.size=some (.frz ob (.own 0)):=by rw[qj (Ne.symm nPf),jD]
     have J:∀b,b≠a->b≠f->b≠h'.objs.size->upd (upd (upd H f (.frz g (.own 0))) h'.objs.size (.frz ob (.own 0))) a (.tbl p) b=H b:=λ b n1 n2 n3=>by rw[qj n1,qj n3,qj n2]
     generalize upd (upd (upd H f (.frz g (.own 0))) h'.objs.size (.frz ob (.own 0))) a (.tbl p)=H3 at S3 l03 eP ec ef J;have kp:∀b o,b≠a->s.heap.get? b=some o->(h'.push ob).get? b=some o:=λ b o n e=>af _ (hx b o n e);have old:∀b o,s.heap.get? b=some o->b≠f/\b≠h'.objs.size:=λ b o e=>⟨aM (aD (aI e) x),aM (aD (aI e) hsf)⟩;have N:∀b u,H b=some u->b≠f/\b≠h'.objs.size:=λ b u e=>⟨kC e E,kC e l⟩;have gP:(h'.push ob).get? a=some (tabObj p):=af _ htb;have I3:Inv X pins σ H3 { s with heap:=h'.push ob,toks:=tk }:=by
      refine I.un ⟨λ b o e z r _=>?_,λ b o e z r _=>?_,λ b o e z _=>?_,λ b o e _=>?_,λ b xs e=>?_,λ b o u e=>?_,λ b qs e=>?_⟩ λ b u e=>?_
      ·exact kp b o (λ w=>by rw[w,t]at z;cases z) e
      ·exact⟨o.slots,kp b o (λ w=>by rw[w,t]at z;cases z) e⟩
      ·rw[J b (λ w=>by rw[w,t]at z;cases z) (old b o e).1 (old b o e).2];exact z
      ·by_cases r:b=a
       ·rw[r];exact⟨_,gP⟩
       ·exact⟨o,kp b o r e⟩
      ·rw[J b (Yi e t (by intro w;cases w)) (N b _ e).1 (N b _ e).2];exact e
      ·rw[J b (Yi e t (by intro w;cases w)) (N b _ e).1 (N b _ e).2];exact e
      ·by_cases r:b=a
       ·subst r
        rw[t]at e;cases e;exact⟨_,by rw[eP,<- B]⟩
       ·exact⟨#[],by rw[J b r (N b _ e).1 (N b _ e).2,e];simp⟩
      ·by_cases h1:b=a
       ·subst h1
        rw[eP]at e;cases e;exact gP
       ·by_cases h2:b=f
        ·subst h2
         rw[ec]at e;cases e;exact⟨af _ hoc,⟨_,af _ hoc⟩⟩
        ·by_cases h3:b=h'.objs.size
         ·subst h3
          rw[ef]at e;cases e;exact⟨au _ (by rw[<- j];rfl),⟨_,au _ (by rw[<- j];rfl)⟩⟩
         ·rw[J b h1 h2 h3]at e
          refine(I.hok b u e).stay (λ d v hd z=>kp d v ?_ z) (λ d z=>?_) λ d xs z=>?_
          ·rcases hd with w|w
           ·rw[w];exact h1
           ·exact Yi w t (by intro w;cases w)
          ·rw[J d (Yi z t (by intro w;cases w)) (N d _ z).1 (N d _ z).2];exact z
          ·rw[J d (Yi z t (by intro w;cases w)) (N d _ z).1 (N d _ z).2];exact z
     exact⟨.ref h'.objs.size,H3,I3,rfl,h φ H3 _ l03 S3 ⟨h'.objs.size,ob,.own 0,f,g,.own 0,[],rfl,ef,ec,⟨⟨_,_,j.symm⟩,vc,tc,D,hd2⟩,rfl⟩⟩
    |some cv=>
     obtain⟨f,g,u0,vc,tc,rfl,hHc,D,hd2⟩:=Y.2 pos cv hf;refine PySem.W.kla_makeFunctionHit (mg:=X.mg) hcl I.ok.glob hg y (C.keeps I.bk) hP Y.1 hf r λ ctv h' tk hx hsz=>?_;generalize j:({ cls:=.type "function",data:=.func (kla_fn "<lambda>" L params body scope clos ((X.mg "__name__").getD .none) (.ref f) ctv) }:Obj)=ob;have l:H h'.objs.size=none:=M _ hsz;have I3:Inv X pins σ (upd H h'.objs.size (.frz ob (.own 0))) { s with heap:=h'.push ob,toks:=tk }:=
      I.laid (λ b o e=>af _ (hx b o e)) hsz ⟨au _ (by rw[<- j];rfl),⟨_,au _ (by rw[<- j];rfl)⟩⟩
     refine⟨.ref h'.objs.size,_,I3,rfl,h φ _ _ (Le.new l) (S.lay l) ⟨h'.objs.size,ob,.own 0,f,g,u0,[],rfl,jD,?_,⟨⟨_,_,j.symm⟩,vc,tc,D,hd2⟩,rfl⟩⟩;rw[qj (kC hHc l)];exact hHc
   ·rw[ak hc]at h;exact h.elim
  |_=>exact h.elim
end
section
variable {K:Frag}
theorem RE.monoW {a:List Addr}{h:Hp}(r:RE K φ H ρ σ)(l:Zq K φ H a h):RE K a h ρ σ:=⟨r.len,λ i w e=>let ⟨v,h1,b⟩:=r.get i w e;⟨v,h1,b.monoW l⟩⟩
inductive MMg (G:List Addr->Hp->Prop)(K:Frag)(xr:XR)(m:Ev)(σ:St)(H:Hp)(Q:VK):Prop
 |mk (φ:List Addr) (A:Hx) (ρ:En) (S:zM K φ A H) (re:RE K φ H ρ σ) (g:G φ H) (h:(m ρ A).post (PB K φ H Q) (EB K φ H xr))
noncomputable def N6 (G:List Addr->Hp->Prop)(K:Frag)(x:XR)(m:Ev):TE:=λ σ H Q=>MMg G K x m σ H Q
inductive MEg (G:List Addr->Hp->Prop)(K:Frag)(em:Em)(D:Addr)(σ:St)(H:Hp)(Q:St->Hp->Prop):Prop
 |mk (φ:List Addr) (A:Hx) (ρ:En) (acc:List W) (ys:List V) (S:zM K φ A H) (re:RE K φ H ρ σ) (g:G φ H) (hD:H D=some (.lst ys)) (nD:∀k:Nat,φ[k]?≠some D) (rv:zG K φ H acc ys)
  (h:(em ρ acc A).post (KZ K D φ H Q) gv)
noncomputable def Td (G:List Addr->Hp->Prop)(K:Frag)(em:Em):wV:=λ D σ H Q=>MEg G K em D σ H Q
theorem CI {G:List Addr->Hp->Prop}{d:Nat}(x:∀e s,X.xe e s->False)(he:PE X elt (N6 G X.K yc me))(p:gens[d+1]? =none):wa X elt gens sc pos d (Td G X.K (zK me)):=
 wa.imp (PC x he p) λ D σ H Q ⟨φ,A,ρ,acc,ys,S,re,g,t,N,r,h⟩=>by
  refine⟨φ,A,ρ,S,re,g,qt (Y2 (zW.mp h)) (λ w A1 f j H1 v l u q=>?_) λ _ _ z=>z⟩;obtain⟨c,n1⟩:=l.off t N
  by_cases n:acc.length<zX
  ·rw[ag n]at f
   have o:=r.length;refine⟨ys,c,?_,?_⟩
   ·rw[<- o]
    have:sizeLine=16777216:=sizeLine_eq
    unfold zX at n;omega
   ·exact f j _ σ _ (l.toD.trans (yw.upd c)) n1 (u.off c n1) ⟨re.len,λ i w e=>let ⟨v,a,b⟩:=re.get i w e;⟨v,a,(b.mono l).monoD (yw.upd c)⟩⟩ jD
     (((r.mono l).monoD (yw.upd c)).append (.one (q.monoD (yw.upd c))))
  ·rw[ak n]at f;exact f.elim
theorem qR.readG {G:List Addr->Hp->Prop}{ifs:Ev}{j:jF}{J:It}{K:Frag}{acc:List W}{Q:St->Hp->Prop}{f:Nat}
  (gm:∀φ H v t,Zq K φ H v t->G φ H->G v t)(g:G φ H)(jr:ZL K φ H j J)
  (S:zM K φ A H)(re:RE K φ H ρ σ)(hD:H D=some (.lst ys))(nD:∀k:Nat,φ[k]?≠some D)(ra:zG K φ H acc ys)
  (h:(qR j tw ifs em f 0 ρ acc A).post (KZ K D φ H Q) gv):
  Yn J (tG K tw) (tT K yc ifs) (Td G K em) D σ H Q:=by
 refine⟨λ i f b t=>Xc tw ifs em j K D φ H Q f i b t,
  ⟨f,φ,A,ρ,acc,ys,.refl,S,re,hD,nD,ra,h⟩,?_⟩
 rintro i f Z H2 ⟨n,A2,B,e,Y,P,S2,C,U,I,s,a⟩
 obtain⟨j1,j2⟩:=jr i n H2 A2 ⟨P.ex,P.tp,P.fz⟩ S2;cases E:j.at_ A2 i with
 |none=>cases f<;>(unfold qR at a;rw[E]at a;exact a.elim)|some o=>
  cases o with
  |none=>
   left
   refine⟨j2 E,?_⟩;cases f<;>(unfold qR at a;rw[E]at a;exact a n H2 Z Y P I S2 C U s)
  |some w=>
   right
   obtain⟨go,yl⟩:=j1 w E;cases f with
   |zero=>unfold qR at a;rw[E]at a;exact a.elim|succ f=>
    unfold qR at a;rw[E]at a;refine⟨go,λ b t=>Xc tw ifs em j K D φ H Q f (i+1) b t,λ b t z=>⟨f,bg _,z⟩,λ x H3 y=>?_⟩;obtain⟨M,S3,q3⟩:=yl x H3 y;obtain⟨hD3,nD3⟩:=M.off U I;dsimp only at a;cases et:tw w B with
    |none=>rw[et]at a;exact a.elim|some q=>
     rw[et]at a;refine⟨n,A2,B,w,q,S3,C.mono M,q3,et,λ σ3 r=>?_⟩;refine tT.go S3 r (Y2 (zW.mp a)) λ c A4 d=>?_;cases c with
     |bl k=>
      refine⟨k,rfl,λ u H4 L S4=>?_⟩;obtain⟨T,N⟩:=L.off hD3 nD3;have l:=(P.trans (M.trans L).toD);cases k with
      |true=>
       rw[ag rfl];refine⟨u,A4,q,e,Y,S4,r.mono L,gm _ _ _ _ ⟨l.ex,l.tp,l.fz⟩ g,T,N,s.mono (M.trans L),qt (zW.mp d) (λ p A5 h5 X H5 σ5 zs l5 n5 S5 re5 d5 r5=>?_) λ _ _ z=>z⟩;exact⟨X,A5,p.1,p.2,zs,l.trans l5,S5,re5,d5,n5,r5,h5⟩
      |false=>
       rw[ak aA];exact⟨u,A4,q,e,Y,l,S4,r.mono L,T,N,s.mono (M.trans L),d⟩
     |non=>cases d|int _=>cases d|str _=>cases d|tup _=>cases d|ref _=>cases d|clo _ _ _=>cases d|xc _=>cases d
end
structure Lm where
 N:List Str
 idx:List Nat
 params:Arguments
 body:Expr
 scope:Scope
 m:Ev
noncomputable def kH:List Nat->En->Option (List W)
 |[],_=>some []|j::J,ρ=>match ρ[j]?,kH J ρ with
  |some (some w),some ws=>some (w::ws)|_,_=>none
noncomputable def Z9:List Nat->St->Option (List V)
 |[],_=>some []|j::J,σ=>match σ[j]?,Z9 J σ with
  |some (some w),some ws=>some (w::ws)|_,_=>none
theorem Vo {K:Frag}(r:RE K φ H ρ σ):∀{J:List Nat}{ws:List W},kH J ρ=some ws->∃vs,Z9 J σ=some vs/\zG K φ H ws vs
 |[],ws,e=>by cases e;exact⟨[],rfl,.nil⟩|j::J,ws,e=>by
  unfold kH at e;cases E:ρ[j]? with
  |none=>rw[E]at e;cases e|some o=>cases o with
   |none=>rw[E]at e;cases e|some w=>
    rw[E]at e;cases a:kH J ρ with
    |none=>rw[a]at e;cases e|some b=>
     rw[a]at e;cases e;obtain⟨v,f,d⟩:=r.get j w E;obtain⟨vs,c,h⟩:=Vo r a;exact⟨v::vs,by unfold Z9;rw[f,c],.cons d h⟩
theorem PL :∀{J:List Nat}{vs:List V},Z9 J σ=some vs->vs.length=J.length/\∀(i:Nat)(v:V),vs[i]? =some v->∃j,J[i]? =some j/\σ[j]? =some (some v)
 |[],vs,e=>by cases e;exact⟨rfl,λ i v h=>by simp at h⟩|j::J,vs,e=>by
  unfold Z9 at e;cases E:σ[j]? with
  |none=>rw[E]at e;cases e|some o=>cases o with
   |none=>rw[E]at e;cases e|some w=>
    rw[E]at e;cases r:Z9 J σ with
    |none=>rw[r]at e;cases e|some c=>
     rw[r]at e;cases e;obtain⟨f,H⟩:=PL r;refine⟨by simp[f],λ i v h=>?_⟩
     cases i with
     |zero=>simp at h;subst h;exact⟨j,by simp,E⟩|succ i=>simp at h;obtain⟨d,a,b⟩:=H i v h;exact⟨d,by simpa using a,b⟩
noncomputable def jS (ls:List Lm)(k:Nat):Fn:=λ ws A=>match ls[k]? with
 |some t=>t.m (ws.map some) A|none=>.bad
def kh (env:Env)(q:Str)(ls:List Lm)(k:Nat):Obj->Addr->Obj->List V->Prop:=λ ob c o vs=>∃t,ls[k]? =some t/\G8 q t.params t.body t.scope (kF env t.scope.names []) ob c o vs
def Qh (env:Env)(q:Str)(ls:List Lm)(σ:St)(k:Nat):Obj->Addr->Obj->List V->Prop:=λ ob c o vs=>∃t,ls[k]? =some t/\G8 q t.params t.body t.scope (kF env t.scope.names []) ob c o vs/\Z9 t.idx σ=some vs
structure kI (P:Program)(w:World)(K:Frag)(mg:Str->Option Value)(j:Nat)(q:Str)(t:Lm):Prop where
 sc:VD t.N t.scope
 bind:∀(cl:List (Str×Addr))(pm cdv ctv:Value),bindArgs (kla_fn "<lambda>" q t.params t.body t.scope cl pm cdv ctv) ⟨[],[]⟩=pure []
 body:∀(base:Heap)(cl:List (Str×Addr))(a c:Addr)(A:Around)(outer:List Env)(s:Shared)(H:Hp)(E:XK),ju j (A.deeper (envX q t.scope s.heap.objs.size a (.ref c) cl))->Zi (ZQ P w K mg base t.N q t.scope a (.ref c) cl A outer s H E) s.heap (Zn K E)->
  SE (ZQ P w K mg base t.N q t.scope a (.ref c) cl A outer s H E) (Zn K E) t.body t.m
section
variable {K:Frag}{q:Str}{ls:List Lm}
theorem Nc (l:∀t∈ls,kI P w K mg j q t)(f:∀t∈ls,∀vs,Z9 t.idx σ=some vs->WM base t.N t.scope (kF env t.scope.names []) vs)(k:Nat):ZF P w K mg base (j+1) (Qh env q ls σ k) (jS ls k):=by
 rintro a ob u c o uc vs ⟨t,d,⟨⟨pm,ctv,rfl⟩,b⟩,v⟩
 have mt:t∈ls:=mem_of_getElem? d;have L:=l t mt;refine⟨⟨_,rfl⟩,_,((AF (name := "<lambda>") (params:=t.params) (body:=t.body) (pm:=pm) (ctv:=ctv) (a:=a) (c:=c) (u:=u) (uc:=uc) (m:=t.m) L.sc (f t mt vs v) b λ A outer s H E e x=>L.body base _ a c A outer s H E e x)).imp λ us H Q E h=>?_,λ s=>.of_eq (L.bind _ _ _ _)⟩;obtain⟨n,i,g,φ,A,ws,S,r,h⟩:=h;refine⟨n,i,g,φ,A,ws,S,r,?_⟩;unfold jS at h;rw[d]at h;exact h
end
noncomputable abbrev jE:=Nat->Obj->Addr->Obj->List V->Prop
open Classical in
noncomputable def gO (PG:jE)(RF:Nat->List W->Hx->R W):Fn:=λ us A=>match us with
 |[.clo k ws P]=>if P=PG k then RF k ws A else .bad|_=>.bad
open Classical in
def Ql (i:Nat)(PF:jE)(ls:List Lm)(RF:Nat->List W->Hx->R W)(a:En):Ev:=λ ρ A=>match ρ[i]? with
 |some (some (.clo k _ P))=>if P=PF k then(match ls[k]? with
  |some t=>(match kH t.idx a with
   |some ws=>RF k ws A|none=>.bad)
  |none=>.bad) else .bad
 |_=>.bad
structure Qe (X:Cx)(t:Lm):Prop where
 len:t.idx.length=t.N.length
 nm:∀(i:Nat)(x:Str)(j:Nat),t.N[i]? =some x->t.idx[i]? =some j->X.N[j]? =some x/\t.scope.names.lookup x=some .free
 free:∀y∈t.scope.names,y.2=.free->X.env.kindOf y.1=some .cell∨X.env.kindOf y.1=some .free
section
theorem WC (I:Inv X pins σ H s){t:Lm}(L:Qe X t)(h:(kF X.env t.scope.names []).lookup x=some c):X.env.cells.lookup x=some c:=by
 rcases QU _ _ (PySem.mem_of_lookup h) with z|⟨z,e⟩
 ·cases z
 ·obtain⟨C,a⟩:=I.ok.has x (L.free _ z rfl)
  rw[a]at e ⊢;exact congrArg some e.symm
theorem PY (I:Inv X pins σ H s)(g:∀x c v,X.env.cells.lookup x=some c->s.heap.IsCell c v->base.IsCell c v){t:Lm}(L:Qe X t)(n:Z9 t.idx σ=some vs):WM base t.N t.scope (kF X.env t.scope.names []) vs:=by
 obtain⟨v1,v2⟩:=PL n;refine⟨v1.trans L.len,λ x y c d b=>I.ok.inj x y c (WC I L d) (WC I L b),λ x h=>?_,λ x c h=>?_,λ i x v d b=>?_⟩
 ·exact Option.isSome_iff_exists.mp (Wv _ _ (.inl (PySem.mem_of_lookup h)))
 ·have e:=WC I L h
  obtain⟨v,z⟩:=I.cell x c e;exact⟨v,g x c v e z⟩
 ·obtain⟨j,w,q⟩:=v2 i v b
  obtain⟨p,E⟩:=L.nm i x j d w;have fr:=L.free _ (PySem.mem_of_lookup E) rfl;obtain⟨m,hn,o⟩:=I.loc;obtain⟨u,r,lk⟩:=o j x v p q (.inr fr);obtain⟨c,f⟩:=Option.isSome_iff_exists.mp (Wv (env:=X.env) t.scope.names [] (.inl (PySem.mem_of_lookup E)));have l:=WC I L f;rcases lk with ⟨z,_⟩|⟨_,C,a,cell⟩
  ·exfalso
   rcases fr with k|k<;>(rw[k]at z;cases z)
  ·rw[l]at a
   cases a;exact⟨c,u,E,f,g x c _ l cell,r⟩
theorem VV (I:Inv X pins σ H s)(h:∀x,X.fn x=true)(e:X.env.cells.lookup x=some c):c∉qE X.stack:=λ hm=>by
 rcases qa3.mp (I.stkSub c hm) with z|z
 ·exact I.cne x c e z
 ·obtain⟨_,o,a,_⟩:=I.ok.funs.mem z
  exact absurd (aD (aI a) (I.ok.cab x c (h x) e)) (aY _)
noncomputable def kU (base h:Heap)(cells:List (Str×Addr)):Heap:=hideAll h ((List.range h.objs.size).filter λ b=>(base.get? b).isNone&&!(cells.any λ p=>cells.lookup p.1==some b))
theorem WE {o:Obj}(e:(kU base h cells).get? b=some o):h.get? b=some o/\((∃o',base.get? b=some o')∨∃x,cells.lookup x=some b):=by
 have E:=of_hideAll _ e;refine⟨E,?_⟩
 by_cases hm:b∈(List.range h.objs.size).filter λ b=>(base.get? b).isNone&&!(cells.any λ p=>cells.lookup p.1==some b)
 ·unfold kU at e
  rw[hideAll_none _ hm]at e;cases e
 ·rw[mem_filter]at hm
  have c:b∈List.range h.objs.size:=qa5.mpr (aI E);cases g:base.get? b with
  |some o'=>exact .inl ⟨o',rfl⟩|none=>
   right
   by_cases H:(cells.any λ p=>cells.lookup p.1==some b)=true
   ·obtain⟨p,_,a⟩:=List.any_eq_true.mp H
    exact⟨p.1,aL.mp a⟩
   ·exact absurd ⟨c,by rw[g];simpa using H⟩ hm
theorem Ry (k:∀b o,base.get? b=some o->h.get? b=some o){o:Obj}(e:base.get? b=some o):(kU base h cells).get? b=some o:=
 bI _ (k b o e) λ hm=>by
  rw[mem_filter,e]at hm;simp at hm
theorem RT {o:Obj}(l:cells.lookup x=some c)(e:h.get? c=some o):(kU base h cells).get? c=some o:=
 bI _ e λ hm=>by
  rw[mem_filter,aj,Bool.not_eq_true']at hm
  have:=hm.2.2
  rw[List.any_eq_false]at this;exact this _ (PySem.mem_of_lookup l) (by simpa using l)
variable {H3:Hp}{s3:Shared}{ls:List Lm}{q f:Str}{ρ0:En}{RF:Nat->List W->Hx->R W}{p2:Pos}
theorem OL (I:Inv X pins σ H3 s3)(D:∀b∈fp,kJ X pins H3 b)(H:∀x,X.fn x=true)(B:∀t∈ls,kI X.prog X.w X.K X.mg j q t)(g:∀t∈ls,Qe X t)
  {p:List (Addr×Obj)}{f:St}{a:Hp}(i:Inv (jk X N sc s3 H3 fp jR) p f a s'):
  Jm X.prog X.w X.K X.mg (kU X.base s'.heap X.env.cells) X.A X.stack s' a/\∀k,ZF X.prog X.w X.K X.mg (kU X.base s'.heap X.env.cells) (j+1) (Qh X.env q ls σ k) (jS ls k):=by
 have un:Un (qE X.stack) fp H3 a s3.heap s'.heap:=i.base;have bk:∀b o,X.base.get? b=some o->s'.heap.get? b=some o:=λ b o e=>(show _ from i.bk b o e)
 have C:∀y c,X.env.cells.lookup y=some c->∀o,s3.heap.get? c=some o->s'.heap.get? c=some o/\a c=none:=λ y c e o h=>
  have n:c∉fp:=λ z=>(D c z).2.2.2.2.1 y c e rfl
  ⟨un.keep c o h (I.freeC y c e) (VV I H e) n,un.free c o h (I.freeC y c e) n⟩
 have d:∀b o,X.base.get? b=some o->(kU X.base s'.heap X.env.cells).get? b=some o:=λ b o e=>Ry bk e;have M:Mod X.K X.mg (kU X.base s'.heap X.env.cells):=by
  obtain⟨mb,P,L⟩:=I.mod.blt;exact⟨I.mod.kin.keeps d,I.mod.glob.keeps d,⟨mb,P.keeps d,L⟩,I.mod.nolimit.keeps d⟩
 have bs:∀b o,(kU X.base s'.heap X.env.cells).get? b=some o->s'.heap.get? b=some o/\a b=none:=λ b o e=>by
  obtain⟨J,E⟩:=WE e;refine⟨J,?_⟩;rcases E with ⟨o',E⟩|⟨y,E⟩
  ·exact(i.bs b o' E).2
  ·obtain⟨Q,r,h,_⟩:=I.cell y b E
   exact(C y b E r h).2
 refine⟨⟨i.ok.frames,M,bs,le_of_eq (hideAll_size _ _),frames_at (show s'.heap.FunFrames X.base X.stack from i.stack) λ b l=>?_,i.stkFree,i.hok,i.bare⟩,
  λ k=>Nc B (λ t u vs s=>PY I (λ y c v e ⟨o,h,hd⟩=>⟨o,RT e (C y c e o h).1,hd⟩) (g t u) s) k⟩
 cases e:(kU X.base s'.heap X.env.cells).get? b with
 |none=>rfl|some o=>
  exfalso;rcases(WE e).2 with ⟨o',E⟩|⟨y,E⟩
  ·have:=(I.stack.mem l).1
   rw[E]at this;cases this
  ·exact VV I H E l
theorem DQ (I3:Inv X pins σ H3 s3)(f3:∀b∈fp,kJ X pins H3 b)(B:∀x,X.fn x=true)(hl:∀t∈ls,kI X.prog X.w X.K X.mg j q t)(s:∀t∈ls,Qe X t)
  (hR:∀base PG,(∀k,ZF X.prog X.w X.K X.mg base (j+1) (PG k) (jS ls k))->zL X.prog X.w X.K X.mg base kk f 1 (gO PG RF))(hr:ju kk X.A)
  (hi:N[i]? =some x)(hv:YE (relabel sc X.env) x)(hg:Gl (jk X N sc s3 H3 fp jR) f)(hdx:(x==("__debug__" : Str))=false:=by decide)(hcx:(x==("__classdict__" : Str))=false:=by decide)(hdf:(f==("__debug__" : Str))=false:=by decide)
  (he:starEach [.Name x p2] (jk X N sc s3 H3 fp jR).env=(false,eval (.Name x p2) (jk X N sc s3 H3 fp jR).env)::starEach [] (jk X N sc s3 H3 fp jR).env:=by rfl)(Y:(backTo pos (starEach [] (jk X N sc s3 H3 fp jR).env)).any (·.1)=false:=by rfl):
  PE (jk X N sc s3 H3 fp jR) (.Call (.Name f p) [.Name x p2] [] pos) (N6 (λ φ H=>RE X.K φ H ρ0 σ) X.K yc (Ql i (kh X.env q ls) ls RF ρ0)):=by
 intro d s' L H' Q I' ⟨φ,A,ρ,S,re,M,h⟩;unfold Ql at h;cases D:ρ[i]? with
 |none=>rw[D]at h;exact h.elim|some ow=>cases ow with
  |none=>rw[D]at h;exact h.elim|some w0=>
   rw[D]at h;cases w0 with
   |clo k xs P=>
    dsimp only at h
    by_cases hP:P=kh X.env q ls k
    ·rw[ag hP]at h
     subst hP;cases C:ls[k]? with
     |none=>rw[C]at h;exact h.elim|some t=>
      rw[C]at h;dsimp only at h;cases ec:kH t.idx ρ0 with
      |none=>rw[ec]at h;exact h.elim|some ws=>
       rw[ec]at h;dsimp only at h;obtain⟨v,U,a,ob,u,c,oc,uc,vs0,rfl,g1,g2,⟨t',E,gp⟩,_⟩:=re.get i _ D;rw[C]at E;cases E;obtain⟨vs,cv,rv⟩:=Vo M ec;obtain⟨fa,fd,ps,F,hm,hk,hb⟩:=hR _ _ (OL I3 f3 B hl s I').2;refine wpAny_Call_Name_kw (J3 I' hg hm ?_ hdf);refine callWith_K (h₀:=X.base) I3.mod.kin hk (zV (jm (Nd (X:=jk X N sc s3 H3 fp jR) hi hv hdx hcx) j9 he pos d s' L H' (λ g H1=>g=[.ref a]/\H1=H') I' ⟨.ref a,U,rfl,rfl⟩) λ us s1 ⟨g,H1,I,r1,ev,eh⟩=>⟨I.kIn,?_⟩) he Y;subst ev;subst eh;obtain⟨e0,hL⟩:=OL I3 f3 B hl s I;obtain⟨fa',fd',T,F',o,hk',hb'⟩:=hR _ _ hL;rw[hm]at o;cases o;have l:Zr X.K 1 (gO (Qh X.env q ls σ) RF) [.ref a] H1 Q E0:=by
        refine⟨rfl,φ,A,[.clo k ws (Qh X.env q ls σ k)],S,.one ⟨a,ob,u,c,oc,uc,vs,rfl,g1,g2,⟨t,C,gp,cv⟩,rv⟩,?_⟩;unfold gO;dsimp only;rw[ag rfl];exact qt h (λ _ _ z=>z) λ y A2 z J H2 l2 S2=>(z J H2 l2 S2).elim
       have Z:=F'.len _ _ _ _ l;have hu:us.length=T.length:=by rw[<- r1.length];exact Z
       refine wpAny_call (codeAny_mono (F'.run X.A X.stack s1 H1 ⟨[]++us,[]⟩ us [.ref a] Q E0 hr e0 ?_ r1 l) λ r s2 n=>?_)
       ·have:=hb' s1 us (show _ from I.kIn) (by rw[bo];exact hu)
        rw[bo]at this;exact this
       ·cases r with
        |error e=>exact False.elim n|ok fl=>
         cases fl with
         |ret u1=>exact I.after n|next=>exact False.elim n|brk=>exact False.elim n|cont=>exact False.elim n
    ·rw[ak hP]at h;exact h.elim
   |_=>exact h.elim
end
def Kw (nl:Nat)(mi:Ei)(tw:Tg)(i:Nat)(PF:jE)(ls:List Lm)(RF:Nat->List W->Hx->R W):jY:=λ ρ A=>zS nl [] mi tw (zi (.bl true)) (zK (Ql i PF ls RF ρ)) ρ A
theorem HM {K:Frag}{mb:Str->Option Value}{k:Nat}{Y:Addr}{sp:Sp}{S:Shared}{vs:List Value}
  (KX:K.In S.heap)(y:S.heap.Ns mainGlobals mg)(c:S.heap.Ns builtinsNs mb)(T:∀x:Str,x ≠ "__name__" -> mb x=bootBuiltins x)(A:S.heap.NoLimit)(hg:S.gens=#[])
  (p:S.heap.get? a=some { cls:=.type "list",data:=.seq vs.toArray })(hi:IntsAre vs ns)(hl:ns.length<=sizeLine)(hr:ju k callerA)
  (t:S.heap.get? Pt=some (tabObj #[]))(U:K.lookup Pt=none)(M:isCodeTable S.heap Pt)(Q:BMain mg S.heap)
  (F:∀base:Heap,K.In base->base.Ns mainGlobals mg->BMain mg base->yN P w K mg base wC k Y fd [x] sp)(l:∀(s:Shared)(u:Value),BindsTo s fd ⟨[u],[]⟩ [(x,u)])
  (I:∀H:Hp,H Pt=some (.tbl #[])->Yz K H a (ns.map V.int)->sp [.ref a] H (λ v _=>v=.bl true) λ _ _ _=>False):
  codeAny (model P w) callerA (.call (.ref Y) ⟨[.ref a],[]⟩) (λ r s'=>r=.ok (.ret (.bool true))/\OldK S.heap s'.heap/\s'.os=S.os/\AllBare s'.gens) S:=by
 have rv:=YX hi;have L:=hi.length;have j:a≠Pt:=λ z=>by rw[z,t]at p;cases p
 have core:∀H:Hp,H Pt=some (.tbl #[])->Yz K H a (ns.map V.int)->jU P w H S.heap->(∀b,H b≠none->b=a∨b=Pt)->(∀u,H a=some u->K.lookup a=none/\∃o xs,u=.frz o (.lst xs))->
   codeAny (model P w) callerA (.call (.ref Y) ⟨[.ref a],[]⟩) (λ r s'=>r=.ok (.ret (.bool true))/\OldK S.heap s'.heap/\s'.os=S.os/\AllBare s'.gens) S:=by
  intro H hO hS hok D hK;have base_of:∀{b:Addr}{o:Obj},S.heap.get? b=some o->H b=none->(ZG S.heap H).get? b=some o:=λ e n=>Ej e n;have E:∀{b:Addr}{o:Obj}{es:Array DictEntry}{ep:Nat},S.heap.get? b=some o->o.data=.dict es ep->H b=none:=λ {b o es ep} e d=>by
   cases q:H b with
   |none=>rfl|some u=>
    rcases D b (by rw[q];simp) with z|z
    ·subst z
     rw[p]at e;cases e;have d':Data.seq vs.toArray _=Data.dict es ep:=d;cases d'
    ·subst z
     rw[t]at e;cases e;cases d
  have N:∀{b:Addr}{m:Str->Option Value},S.heap.Ns b m->(ZG S.heap H).Ns b m:=λ {b m} ⟨o,es,ep,e,d,r⟩=>⟨o,es,ep,base_of e (E e d),d,r⟩;have B:K.In (ZG S.heap H):=λ b o e=>base_of (KX b o e) (by
   cases q:H b with
   |none=>rfl|some u=>
    rcases D b (by rw[q];simp) with z|z
    ·subst z
     rw[(hK u q).1]at e;cases e
    ·subst z
     rw[U]at e;cases e)
  have X:BMain mg (ZG S.heap H):=by
   obtain⟨bm,o,b1,b2,b3,C,b5,b6,b7⟩:=Q;refine⟨bm,o,b1,b2,b3,base_of C ?_,b5,b6,b7⟩;cases q:H bm with
   |none=>rfl|some u=>
    rcases D bm (by rw[q];simp) with z|z
    ·subst z
     rw[p]at C;cases C;exact absurd b5 (by intro q;injection q with q;exact absurd q (by decide))
    ·subst z
     rw[t]at C;cases C;cases b5
  have hM:Mod K mg (ZG S.heap H):=⟨B,N y,⟨mb,N c,T⟩,let ⟨mc,h1,h2⟩:=A;⟨mc,N h1,h2⟩⟩
  have e0:Jm P w K mg (ZG S.heap H) callerA [] S H:=⟨rfl,hM,λ b o e=>Cb e,le_of_eq (HS _ _),trivial,λ b c=>absurd (show b∈([]:List Addr) from c) (by simp),hok,.of_eq hg⟩
  refine codeAny_mono ((F _ B (N y) X).run callerA [] S H ⟨[.ref a],[]⟩ [.ref a] [.ref a] _ _ hr e0 (l S (.ref a)) (.cons rfl .nil) (I H hO hS)) λ r s' h=>?_;cases r with
  |error e=>exact False.elim h|ok fl=>
   cases fl with
   |next=>exact False.elim h|brk=>exact False.elim h|cont=>exact False.elim h|ret u=>
    obtain⟨v,H',os,bare,un,g,r',q⟩:=h;have q':v=.bl true:=q;subst q';obtain rfl:u=Value.bool true:=r';refine⟨rfl,⟨λ b o e=>?_,λ b o e=>un.there b o e (by simp)⟩,os,bare⟩
    cases q:H b with
    |none=>exact .inl (un.keep b o e q (by intro z;exact absurd (show b∈([]:List Addr) from z) (by simp)) (by simp))|some u=>
     rcases D b (by rw[q];simp) with z|z
     ·subst z
      obtain⟨ob,xs,rfl⟩:=(hK u q).2;have i:=un.frzs _ ob _ q;obtain⟨e1,_⟩:=hok _ _ q;obtain⟨e2,_⟩:=g _ _ i;rw[e]at e1;cases e1;exact .inl e2
     ·subst z
      rw[t]at e;cases e;obtain⟨more,i⟩:=un.tbls _ _ hO;exact .inr (.inl ⟨M,rfl,#[],more,rfl,g _ _ i⟩)
 cases J:K.lookup a with
 |some o=>
  have e:=KX a o J;rw[p]at e;cases e;refine core (λ b=>if b=Pt then some (.tbl #[]) else none) (ag rfl) (.inr ⟨_,vs.toArray,_,J,rfl,rfl,rfl,by rw[aF,L];exact hl,by simpa using rv⟩) (λ b u z=>?_) (λ b z=>?_) λ u z=>?_
  ·by_cases c:b=Pt
   ·have Z:=(ag c).symm.trans z
    cases Z;rw[c];exact t
   ·have Z:=(ak c).symm.trans z
    cases Z
  ·by_cases c:b=Pt
   ·exact .inr c
   ·exact absurd (ak c) z
  ·have Z:=(ak j).symm.trans z
   cases Z
 |none=>
  refine core (λ b=>if b=Pt then some (.tbl #[]) else if b=a then some (.frz { cls:=.type "list",data:=.seq vs.toArray } (.lst (ns.map V.int))) else none) (ag rfl)
   (.inl ⟨{ cls:=.type "list",data:=.seq vs.toArray },(ak j).trans (ag rfl)⟩) (λ b u z=>?_) (λ b z=>?_) λ u z=>?_
  ·by_cases c:b=Pt
   ·have Z:=(ag c).symm.trans z
    cases Z;rw[c];exact t
   ·have Z:=(ak c).symm.trans z
    by_cases f:b=a
    ·have i:=(ag f).symm.trans Z
     cases i;subst f;exact⟨p,by rw[ai];exact hl,vs,_,rv,p⟩
    ·have i:=(ak f).symm.trans Z
     cases i
  ·by_cases c:b=Pt
   ·exact .inr c
   ·by_cases f:b=a
    ·exact .inl f
    ·exact absurd ((ak c).trans (ak f)) z
  ·have Z:=((ak j).trans (ag rfl)).symm.trans z
   cases Z;exact⟨J,_,_,rfl⟩
inductive spT (K:Frag)(n:Nat)(fs:jE->Fn)(vs:List V)(H:Hp)(Q:VK)(E:XK):Prop
 |mk (len:vs.length=n) (φ:List Addr) (A:Hx) (ws:List W) (S:zM K φ A H) (r:zG K φ H ws vs) (q:∀PF,(fs PF ws A).post (PB K φ H Q) (EB K φ H (XE K E)))
theorem spT.len {K:Frag}{fs:jE->Fn}{Q:VK}{E:XK}(h:spT K n fs vs H Q E):vs.length=n:=by cases h;assumption
theorem IY {K:Frag}{q:Str}(P:H Pt=some (.tbl #[]))(S:Yz K H a (ns.map V.int)):zM K [a,Pt] [.ro (ns.map W.int),.tab q Pt] H:=by
 refine⟨rfl,λ i j b o o' g f d c m1 m2=>?_,λ n o h=>?_⟩
 ·match i,j,d,c with
  |0,_,d,_=>simp at d;subst d;cases m1|_,0,_,c=>simp at c;subst c;cases m2|1,1,_,_=>rfl|i+2,_,d,_=>simp at d|_,j+2,_,c=>simp at c
 ·match n,h with
  |0,h=>simp at h;subst h;exact⟨a,rfl,ns.map V.int,S,zG.ints.mpr rfl⟩|1,h=>simp at h;subst h;exact⟨Pt,rfl,rfl,#[],P,trivial,λ pos cv e=>nomatch e⟩
  |n+2,h=>simp at h
section
variable {K:Frag}
theorem E1 {o:Value}{od:Option Addr}(hn:nsIn K mainGlobals x=some (some (.ref f)))(lk:K.lookup f=some ⟨o,od,.func fd,osl⟩)(h:tabIn K x=some (c,Pt)):fd.code=.ref c:=by
 unfold tabIn at h;rw[hn]at h;dsimp only at h;rw[lk]at h;dsimp only at h
 split at h
 ·rename_i C H
  split at h
  ·split at h
   ·cases h;exact H
   ·cases h
  ·cases h
 ·cases h
theorem fnT {q:Str}{st:Stmt}{k:Nat}{ls:List Lm}{m:jE->Ex}(F:kN K x x st f fd)(hn:nsIn K mainGlobals x=some (some (.ref f)))(t:tabIn K x=some (c,Pt))(S:qN N ps (qg st))
  (a:∀(A:Around)(outer:List Env)(s:Shared)(H:Hp)(E:XK),ju k (A.deeper (envOfC x (qg st) s.heap.objs.size f (.ref c)))->
   YC (wt wC P w K mg base N x (qg st) f (.ref c) A outer s H E).nox yc (yn st) (m (kh (envOfC x (qg st) s.heap.objs.size f (.ref c)) q ls))):
  yN P w K mg base wC (k+1) f fd ps (spT K ps.length λ PF=>qH N.length (m PF)):=by
 obtain⟨u,od,kV,doc,pm,an,C,ct,o,rfl,lk,d⟩:=F.ex;have v:C=.ref c:=E1 hn lk t;subst v;refine UI lk d S (λ vs H Q E h=>h.len) λ A outer s H vs Q E i ⟨z,φ,A1,ws,Sm,r,h⟩=>⟨_,yQ.nox (a A outer s H E i),?_⟩;refine⟨φ,A1,ws.map some++List.replicate (N.length - ws.length) none,Sm,RE.start r,?_⟩;have h':=zW.mp (h (kh (envOfC x (qg st) s.heap.objs.size f (.ref c)) q ls));show R.post _ (FB K φ H _) _;cases e:m (kh (envOfC x (qg st) s.heap.objs.size f (.ref c)) q ls) (ws.map some++List.replicate (N.length - ws.length) none) A1 with
 |ok j A2=>
  rw[e]at h';cases j with
  |rt w=>exact h'|nx ρ=>exactλ b p g l n _=>h' b p .non l n rfl|bk ρ=>exact h'.elim|ct ρ=>exact h'.elim
 |exc y A2=>rw[e]at h';exact h'.elim|bad=>rw[e]at h';exact h'.elim
end
noncomputable def Ub (K:Frag)(x:Str)(Pt:Addr):Bool:=match tabIn K x with
 |some (c,P)=>P==Pt&&codeHdIn K c Pt|none=>false
theorem Pp {K:Frag}(h:Ub K x Pt=true):∃c,tabIn K x=some (c,Pt)/\codeHdIn K c Pt=true:=by
 unfold Ub at h
 split at h
 ·rename_i c P e
  rw[aj,aL]at h;obtain⟨rfl,H⟩:=h;exact⟨c,e,H⟩
 ·cases h
theorem qF.m {K:Frag}{k:Nat}{f:Fn}(F:qF P w K mg base k x n f):zL P w K mg base k x n λ ws A=>(f ws A).nox:=by
 obtain⟨i,fd,ps,F,hm,c,d⟩:=F;have up:∀vs H Q E,Zr K n (λ ws A=>(f ws A).nox) vs H Q E->Xn K n f vs H Q (λ _ _ _=>False):=λ vs H Q E ⟨l,φ,A,ws,S,r,h⟩=>⟨l,φ,A,ws,S,r,by
  cases a:f ws A with
  |ok u A1=>(try dsimp only at h);rw[a]at h;exact h|exc y A1=>(try dsimp only at h);rw[a]at h;exact h.elim|bad=>(try dsimp only at h);rw[a]at h;exact h.elim⟩
 refine⟨i,fd,ps,⟨λ vs H Q E h=>F.len vs H Q _ (up vs H Q E h),λ A outer s H args us vs Q E b he t v h=>?_⟩,hm,c,d⟩;refine codeAny_mono (F.run A outer s H args us vs Q _ b he t v (up vs H Q E h)) λ r s' h'=>?_;cases r with
 |error e=>
  unfold CR at h';obtain⟨_,_,_,_,_,_,_,_,_,_,z⟩:=h';exact z.elim
 |ok g=>cases g<;>exact h'
theorem qF.mono {K:Frag}{k:Nat}{f:Fn}(F:qF P w K mg base j x n f)(h:j<=k):qF P w K mg base k x n f:=by cases F with|mk d fd ps F a b c=>exact⟨d,fd,ps,F.mono h,a,b,c⟩
noncomputable abbrev Xe:List Value:=[.type "ValueError",.type "Exception",.type "BaseException",.type "object"]
noncomputable abbrev GR:String := "ValueError.__new__"
section
variable {K:Frag}{cs:List Str}{top nm:Str}
noncomputable def clsAt (K:Frag)(x:Str):Addr:=match nsIn K mainGlobals x with
 |some (some (.ref C))=>C|_=>0
def isAt (K:Frag)(x:Str):Bool:=nsIn K mainGlobals x==some (some (.ref (clsAt K x)))
def jy (cs:List Str)(x:Str):Str->Option Bool:=λ nm=>if cs.contains nm then some (nm==x) else none
def Tf (cs:List Str):Str->Option Bool:=λ nm=>if cs.contains nm then some true else none
def QB (K:Frag)(cs:List Str)(x:Str):Bool:=isAt K x&&kitOne K (.type "NoneType") (.ref (clsAt K x))==some false&&cs.all λ nm=>kitOne K (.ref (clsAt K nm)) (.ref (clsAt K x))==some (nm==x)
def Gn (K:Frag)(top nm:Str):Bool:=isAt K nm&&Kq K (clsAt K nm)&&Mi.Zl K (clsAt K nm) Xe GR&&Jl K (clsAt K nm) (clsAt K top)&&kitOne K (.ref (clsAt K nm)) (.type "ValueError")==some true
def Ug (K:Frag)(top:Str):Bool:=isAt K top&&Mi.Zl K (clsAt K top) Xe GR&&kitOne K (.type "NoneType") (.type "ValueError")==some false
theorem VP (h:isAt K x=true):yW K x (.ref (clsAt K x)):=aL.mp h
theorem Vz {C:Addr}(h:yW K x (.ref C)):C=clsAt K x:=by
 unfold clsAt;unfold yW at h;rw[h]
structure Vx (K:Frag)(top nm:Str):Prop where
 at_:yW K nm (.ref (clsAt K nm))
 kit:Kq K (clsAt K nm)=true
 exc:Mi.Zl K (clsAt K nm) Xe GR=true
 up:Jl K (clsAt K nm) (clsAt K top)=true
 val:kitOne K (.ref (clsAt K nm)) (.type "ValueError")=some true
theorem zax (h:Gn K top nm=true):Vx K top nm:=by
 unfold Gn at h;simp only[aj,aL]at h;obtain⟨⟨⟨⟨d,c⟩,b⟩,a⟩,H⟩:=h;exact⟨VP d,c,b,a,H⟩
structure wR (K:Frag)(cs:List Str)(top:Str):Prop where
 exc:∀nm,cs.contains nm=true->Vx K top nm
 top_at:yW K top (.ref (clsAt K top))
 top_exc:Mi.Zl K (clsAt K top) Xe GR=true
 non:kitOne K (.type "NoneType") (.type "ValueError")=some false
theorem By (h:cs.all (Gn K top ·)=true)(t:Ug K top=true):wR K cs top:=by
 unfold Ug at t;simp only[aj,aL]at t;obtain⟨⟨t1,T⟩,t3⟩:=t;exact⟨λ nm e=>zax (qa4.mp h nm (List.contains_iff_mem.mp e)),VP t1,T,t3⟩
theorem wR.isx (c:wR K cs top)(h:QB K cs x=true):Kt K (jy cs x) (.ref (clsAt K x)):=by
 unfold QB at h;simp only[aj,aL]at h;obtain⟨⟨f,d⟩,a⟩:=h;refine⟨d,λ nm C b e H=>?_⟩;unfold jy at e
 by_cases hm:cs.contains nm=true
 ·rw[ag hm]at e
  cases e;cases Vz H;exact⟨(c.exc nm hm).kit,aL.mp (qa4.mp a nm (List.contains_iff_mem.mp hm))⟩
 ·rw[ak hm]at e;cases e
theorem wm (h:QB K cs x=true):yW K x (.ref (clsAt K x)):=by
 unfold QB at h;simp only[aj,aL]at h;exact VP h.1.1
theorem wR.isv (c:wR K cs top):Kt K (Tf cs) (.type "ValueError"):=by
 refine⟨c.non,λ nm C b e h=>?_⟩;unfold Tf at e
 by_cases hm:cs.contains nm=true
 ·rw[ag hm]at e
  cases e;cases Vz h;exact⟨(c.exc nm hm).kit,(c.exc nm hm).val⟩
 ·rw[ak hm]at e;cases e
theorem wR.under (c:wR K cs top):∀nm,cs.contains nm=true->∀C,yW K nm (.ref C)->∃b n,Mi.Zl K C b n=true/\Jl K C (clsAt K top)=true:=λ nm hm C h=>by
 cases Vz h;exact⟨_,_,(c.exc nm hm).exc,(c.exc nm hm).up⟩
end
noncomputable def GG (M:List Str)(sc:Scope)(t:Lm):Bool:=t.idx.length==t.N.length&&((List.range t.N.length).all λ i=>match t.N[i]?,t.idx[i]? with
 |some x,some j=>M[j]?==some x&&t.scope.names.lookup x==some .free|_,_=>false)&&t.scope.names.all λ y=>!(y.2==.free) || (sc.names.lookup y.1==some .cell || sc.names.lookup y.1==some .free)
theorem Oi {t:Lm}(h:GG X.N X.env.scope t=true):Qe X t:=by
 unfold GG at h;rw[aj,aj]at h;obtain⟨⟨d,c⟩,b⟩:=h;refine⟨aL.mp d,λ i x j E f=>?_,λ y H e=>?_⟩
 ·have a:i<t.N.length:=(qa2.mp E).1
  have q:=qa4.mp c i (qa5.mpr a);rw[E,f]at q;dsimp only at q;rw[aj]at q;exact⟨aL.mp q.1,aL.mp q.2⟩
 ·have q:=qa4.mp b y H
  rw[e]at q;rw[bG,bG]at q;rcases q with q|q|q
  ·cases q
  ·exact .inl (aL.mp q)
  ·exact .inr (aL.mp q)
theorem all_nil {p:α->Prop}:∀t∈([]:List α),p t:=λ _ h=>nomatch h
theorem all_cons {p:α->Prop}{a:α}{l:List α}(h:p a)(r:∀t∈l,p t):∀t∈a::l,p t:=λ t H=>by
 rcases qa3.mp H with e|e
 ·rw[e];exact h
 ·exact r t e
theorem BB {q:Str}{ls:List Lm}{k:Nat}{t:Lm}(H:ls[k]? =some t):kh env q ls k=G8 q t.params t.body t.scope (kF env t.scope.names []):=by
 funext ob c o vs
 refine propext ⟨λ ⟨t',e,h⟩=>?_,λ h=>⟨t,H,h⟩⟩;rw[H]at e;cases e;exact h
noncomputable def w8:Stmt:=.Pass ⟨0,0,0,0⟩
noncomputable def QD:Expr:=.Constant .none 0 ⟨0,0,0,0⟩
def UU (s:Stmt)(i:Nat):Stmt:=match s with
 |.For _ _ b _ _=>b.getD i w8|.If _ b _ _=>b.getD i w8|.While _ b _ _=>b.getD i w8|_=>w8
def Yq (s:Stmt):Expr:=match s with
 |.Assign _ v _=>v|.Expr v _=>v|.Return (some v) _=>v|_=>QD
def Qc (e:Expr)(i:Nat):Expr:=match e with
 |.Call _ a _ _=>a.getD i QD|.List E _=>E.getD i QD|.Tuple E _ _=>E.getD i QD|.BinOp a _ b _=>if i=0 then a else b|_=>QD
noncomputable def zch (e:Expr):Arguments:=match e with
 |.Lambda a _ _ _=>a|_=>{ posonlyargs:=[],args:=[],vararg:=none,kwonlyargs:=[],kw_defaults:=[],kwarg:=none,defaults:=[] }
def zcv (e:Expr):Expr:=match e with
 |.Lambda _ b _ _=>b|_=>QD
noncomputable def zcB (e:Expr):Scope:=match e with
 |.Lambda _ _ s _=>s|_=>{ kind:=.function,names:=[],isGenerator:=false,isCoroutine:=false }
def kB (e:Expr)(N:List Str)(idx:List Nat)(m:Ev):Lm:=⟨N,idx,zch e,zcv e,zcB e,m⟩
theorem za5 {K:Frag}{st:Stmt}{k:Nat}(F:kN K x x st f fd)(hm:mg x=some (.ref f))
  (b:∀(kV doc pm:Value)(an:Option Addr)(c ct:Value)(us:List Value),us.length=ps.length->bindArgs (fnOf x x (ZY st) (yn st) (qg st) .none kV doc pm an c ct) ⟨us,[]⟩=pure (ps.zip us)):zL P w K mg base k x ps.length (λ _ _=>.bad):=
 ⟨f,fd,ps,⟨λ vs H Q E h=>h.1,λ A outer s H args us vs Q E _ _ _ _ h=>by obtain⟨_,_,_,_,_,_,z⟩:=h;exact z.elim⟩,hm,F.kp,F.binds b⟩
theorem Cp {K:Frag}(t a b:Ty):kitAny K (.type t.nm) [.type a.nm,.type b.nm]=some (yZ t a || yZ t b):=by
 unfold kitAny;rw[WT];cases yZ t a with
 |true=>rfl|false=>
  dsimp only;unfold kitAny;rw[WT];cases yZ t b<;>rfl
section
variable {a b:Expr}{m ma mb:Ev}
theorem Js.kitx {x:V}{t:Ty}(I:Inv X pins σ H s)(r:RelV x u)(h:Js X.K H x t):∃d:Heap->Prop,PySem.W.KitX X.K u (.type t.nm) d/\d s.heap/\u≠.builtin "__main__.__loader__#opaque" := by
 rcases h with h|⟨a,xs,rfl,h,rfl⟩
 ·generalize f:Value.type t.nm=T at h
  cases h with
  |non=>cases (show u=Value.none from r);exact⟨_,kitx_none,True.intro,λ z=>nomatch z⟩
  |bl y=>cases (show u=Value.bool y from r);exact⟨_,kitx_bool,True.intro,λ z=>nomatch z⟩
  |int i=>obtain⟨t,q⟩:=(show ∃t,u=Value.int i t from r);cases q;exact⟨_,kitx_int,True.intro,λ z=>nomatch z⟩
  |str y=>obtain⟨t,q⟩:=(show ∃t,u=Value.str y t from r);cases q;exact⟨_,kitx_str,True.intro,λ z=>nomatch z⟩
  |flt y=>obtain⟨t,q⟩:=(show ∃t,u=Value.float y t from r);cases q;exact⟨_,kitx_float,True.intro,λ z=>nomatch z⟩
  |@lst a xs ea=>
   cases (show u=Value.ref a from r)
   obtain⟨_,_,n,_,b⟩:=(show jd X.prog X.w H s.heap a (.lst xs) from I.hok a _ ea)
   exact⟨_,kitx_list,⟨_,b,rfl⟩,λ z=>nomatch z⟩
  |@frz a ob xs ea=>
   cases (show u=Value.ref a from r)
   obtain⟨_,_,_,n,_,b⟩:=(show jd X.prog X.w H s.heap a (.frz ob (.lst xs)) from I.hok a _ ea)
   exact⟨_,kitx_list,⟨_,b,rfl⟩,λ z=>nomatch z⟩
  |@tup a xs ea=>
   cases (show u=Value.ref a from r)
   obtain⟨_,_,_,p⟩:=(show jd X.prog X.w H s.heap a (.tup xs) from I.hok a _ ea)
   obtain⟨o,b,c,_⟩:=p;exact⟨_,kitx_tuple,⟨o,b,c.1⟩,λ z=>nomatch z⟩
  |@dK a kvs ea=>
   cases (show u=Value.ref a from r)
   obtain⟨_,_,_,_,o,_,_,b,c,_⟩:=(show jd X.prog X.w H s.heap a (.dK kvs) from I.hok a _ ea)
   exact⟨_,kitx_dict,⟨o,b,c.1⟩,λ z=>nomatch z⟩
  |@dT a kvs ea=>
   cases (show u=Value.ref a from r)
   obtain⟨_,_,_,_,o,_,_,b,c,_⟩:=(show jd X.prog X.w H s.heap a (.dT kvs) from I.hok a _ ea)
   exact⟨_,kitx_dict,⟨o,b,c.1⟩,λ z=>nomatch z⟩
  |ins=>cases f
 ·cases (show u=Value.ref a from r)
  obtain⟨e,_,⟨o,b,c,_⟩,_⟩:=I.tuple h;exact⟨_,kitx_tuple,⟨o,b,c⟩,λ z=>nomatch z⟩
def zcg (K:Frag)(a b:Ty):List V->Hp->VK->Prop:=λ xs H Q=>∃x t l,xs=[x,.ref l]/\qD K H l [.ty (Ty.nm a),.ty (Ty.nm b)]/\Js K H x t/\Q (.bl (yZ t a || yZ t b)) H
theorem Dl {a b:Ty}:ye X (.builtin "isinstance") (zcg X.K a b):=by
 intro pins s σ H xs us Q I r h;obtain⟨x,t,l,rfl,y,w,q⟩:=h;obtain⟨u,e,rfl,f,c⟩:=vals2 r;cases (show e=Value.ref l from c)
 obtain⟨p,v,⟨o,C,B,k,A⟩,_⟩:=I.tuple y;obtain⟨d,U,rfl,i,g⟩:=vals2 v;cases (show d=Value.type a.nm from i)
 cases (show U=Value.type b.nm from g)
 obtain⟨J,Z,z,ne⟩:=w.kitx I f;obtain⟨n,E,j,D⟩:=o;cases (show n=_ from B)
 cases (show j=_ from A)
 exact PySem.W.kia_tup Z I.kIn z C (Cp t a b) ne λ tk=>⟨.bl (yZ t a || yZ t b),H,I.tok tk,rfl,q⟩
def G1 (t T:Ty)(m:Ev):Ev:=λ ρ A=>(m ρ A).bind λ w A1=>match jw w A1 with
 |some t'=>.ok (.bl (yZ t' t || yZ t' T)) A1
 |none=>.bad
noncomputable def GU (m:Ev)(tw:Tg):Ex:=λ ρ A=>(m ρ A).bind λ w A1=>match tw w ρ with
 |some a=>.ok (.nx a) A1|none=>.bad
noncomputable def Ys (i j:Nat)(ma mb:Ev):Ex:=λ ρ A=>(ma ρ A).bind λ x A1=>(mb ρ A1).bind λ y A2=>.ok (.nx ((ρ.set i (some x)).set j (some y))) A2
end
noncomputable def GH (PG:jE):W->W
 |.clo k ws _=>.clo k ws (PG k)|w=>w
open Classical in
def Yv (ls:List Lm)(PF:jE)(ρ:En):W->Option W
 |.clo k [] P=>if P=PF k then(match ls[k]? with
  |some t=>(kH t.idx ρ).map λ ws=>.clo k ws P|none=>none) else none
 |.clo _ _ _=>none|w=>some w
def gK (ls:List Lm)(PF:jE)(ρ:En):List W->Option (List W)
 |[]=>some []|w::r=>match Yv ls PF ρ w,gK ls PF ρ r with
  |some u,some us=>some (u::us)|_,_=>none
def wI (ls:List Lm)(PF:jE)(f:Fn)(a:Ea):Ev:=λ ρ A=>(a ρ A).bind λ ws A1=>match gK ls PF ρ ws with
 |some us=>f us A1|none=>.bad
section
variable {ls:List Lm}{q:Str}
theorem PQ (I:Inv X pins σ H s)(n:∀x,X.fn x=true)(l:∀t∈ls,kI X.prog X.w X.K X.mg j q t)(c:∀t∈ls,Qe X t):
  Jm X.prog X.w X.K X.mg (kU X.base s.heap X.env.cells) X.A X.stack s H/\∀k,ZF X.prog X.w X.K X.mg (kU X.base s.heap X.env.cells) (j+1) (Qh X.env q ls σ k) (jS ls k):=by
 have a:∀b o,X.base.get? b=some o->(kU X.base s.heap X.env.cells).get? b=some o:=λ b o e=>Ry I.bk e;have M:Mod X.K X.mg (kU X.base s.heap X.env.cells):=by
  obtain⟨mb,p,B⟩:=I.mod.blt;exact⟨I.mod.kin.keeps a,I.mod.glob.keeps a,⟨mb,p.keeps a,B⟩,I.mod.nolimit.keeps a⟩
 have bs:∀b o,(kU X.base s.heap X.env.cells).get? b=some o->s.heap.get? b=some o/\H b=none:=λ b o e=>by
  obtain⟨i,E⟩:=WE e;refine⟨i,?_⟩;rcases E with ⟨o',E⟩|⟨y,E⟩
  ·exact(I.bs b o' E).2
  ·exact I.freeC y b E
 refine⟨⟨I.ok.frames,M,bs,le_of_eq (hideAll_size _ _),frames_at I.stack λ b d=>?_,I.stkFree,I.hok,I.bare⟩,
  λ k=>Nc l (λ t f vs h=>PY I (λ y C v e ⟨o,g,hd⟩=>⟨o,RT e g,hd⟩) (c t f) h) k⟩
 cases e:(kU X.base s.heap X.env.cells).get? b with
 |none=>rfl|some o=>
  exfalso;rcases(WE e).2 with ⟨o',E⟩|⟨y,E⟩
  ·have:=(I.stack.mem d).1
   rw[E]at this;cases this
  ·exact VV I n E d
theorem RQ {K:Frag}(re:RE K φ H ρ σ):∀{ws us:List W}{vs:List V},gK ls (kh env q ls) ρ ws=some us->zG K φ H ws vs->zG K φ H (us.map (GH (Qh env q ls σ))) vs
 |[],us,vs,e,r=>by cases e;exact r|w::r,us,vs,e,⟨v,A,ev,j,y⟩=>by
  subst ev;unfold gK at e;cases E:Yv ls (kh env q ls) ρ w with
  |none=>rw[E]at e;cases e|some u=>
   cases i:gK ls (kh env q ls) ρ r with
   |none=>rw[E,i]at e;cases e|some U=>
    rw[E,i]at e;cases e;rw[aV];refine .cons ?_ (RQ re i y);cases w with
    |clo k xs P=>
     cases xs with
     |cons x xs=>unfold Yv at E;cases E|nil=>
      unfold Yv at E;dsimp only at E
      by_cases h:P=kh env q ls k
      ·rw[ag h]at E
       subst h;cases d:ls[k]? with
       |none=>rw[d]at E;cases E|some t=>
        rw[d]at E;dsimp only at E;cases g:kH t.idx ρ with
        |none=>rw[g]at E;cases E|some l=>
         rw[g]at E;cases E;obtain⟨a,ob,o,c,s,uc,n,rfl,g1,g2,⟨t',b,z⟩,_⟩:=j;rw[d]at b;cases b;obtain⟨f,cv,p⟩:=Vo re g;exact⟨a,ob,o,c,s,uc,f,rfl,g1,g2,⟨t,d,z,cv⟩,p⟩
      ·rw[ak h]at E;cases E
    |_=>cases E;exact j
end
section
noncomputable abbrev gr (led:Bool):Obj:={ cls:=.type "set",dict:=none,data:=.set #[] 0 (.fresh 0 0 led) }
end
theorem intsAre_of:∀{ns:List Int}{i:List Value},Vals (ns.map V.int) i->IntsAre i ns:=by
 intro ns
 induction ns with
 |nil=>intro i h;cases h;exact .nil|cons n ns I=>
  intro i h;cases h with
  |cons r t=>obtain⟨tk,rfl⟩:=r;exact .cons n tk (I t)
def U1 (s:Stmt):Expr:=match s with
 |.If t _ _ _=>t|_=>QD
section
open PySem.SeqAt
open PySem.AutoSeq1 (wpAny_loadPart')
open PySem.MeetsSeq PySem.MeetsSeq2 PySem.MeetsSeq3
end
section
variable {K:Frag}
theorem De {w:W}{ds:List PyData}(h:qh A 8 w=some (.list ds)):PyData.canLayAll0 ds=true/\PyData.depthAll ds<=8:=by
 obtain⟨H,a⟩:=Y0 8 w _ h;simp only[PyData.canLay0,PyData.depth]at H a;exact⟨H,by omega⟩
def zcJ:W->W->Hx->R W:=λ x y A=>match qh A 8 x,qh A 8 y with
 |some d,some (.list ds)=>.ok (.bl (ds.any λ z=>PyData.eqv z d)) A|_,_=>.bad
noncomputable def ZE (p:PyData->Bool):List PyData->Option Nat
 |[]=>none|d::ds=>if p d then some 0 else(ZE p ds).map (· + 1)
theorem Ob {p:PyData->Bool}:∀{ds:List PyData}{j:Nat},ZE p ds=some j->∃h:j<ds.length,p ds[j]=true/\∀m (hm:m<ds.length),m<j->p ds[m]=false
 |[],_,e=>by cases e|d::ds,j,e=>by
  unfold ZE at e
  by_cases hd:p d=true
  ·rw[ag hd]at e
   cases e;exact⟨zero_lt_succ _,hd,λ m _ z=>absurd z (bq _)⟩
  ·rw[ak hd]at e
   cases E:ZE p ds with
   |none=>rw[E]at e;cases e|some J=>
    rw[E]at e;cases e;obtain⟨b,a,H⟩:=Ob E;refine⟨succ_lt_succ b,a,λ m hm z=>?_⟩;cases m with
    |zero=>exact Bool.eq_false_iff.mpr hd|succ m=>exact H m (bh hm) (bh z)
def Bj (K:Frag):V->List V->Hp->VK->Prop:=λ x vs H Q=>∃φ A u v y d ds j,vs=[y]/\zM K φ A H/\RV K φ H u x/\RV K φ H v y/\qh A 8 u=some (.list ds)/\qh A 8 v=some d/\ZE (λ z=>PyData.eqv z d) ds=some j/\j<1000000/\Q (.int j) H
theorem Fs (N:X.A.units+64<cLine):To X "list.index" (Bj X.K):=by
 intro pins s σ H x vs v us Q I r i h;obtain⟨φ,A,f,w,y,d,ds,j,rfl,S,B,t,a,E,L,P,q⟩:=h;obtain⟨u,rfl,p⟩:=i.one;obtain⟨as,D⟩:=JQ I S 8 f x v _ B r a;obtain⟨bs,C⟩:=JQ I S 8 w y u d t p E;obtain⟨g1,g2⟩:=Y0 8 w d E;obtain⟨g3,T⟩:=De a;obtain⟨f1,f2,J⟩:=Ob L;cases D with
 |list a1 a2 c b=>
  rename_i l o items n M
  obtain⟨cls,dd,data,g⟩:=o;simp only at a2 c;subst a2 c;have hm:=SeqAt.readsAll_map _ _ _ g3 b;have hlen:items.size=ds.length:=by rw[<- hm];simp
  have at_:∀m (h:m<items.size) (h':m<ds.length),SeqAt.readOf s.heap items[m]=ds[m]:=λ m h h'=>by
   have e:(items.toList.map (SeqAt.readOf s.heap))[m]? =ds[m]?:=by rw[hm]
   rw[ar,ae h',bJ,Array.getElem?_eq_getElem h]at e;exact aB e
  refine call_meets F.slot_list_index ⟨_,a1,rfl⟩ F.entry_list_index (F.args_list_index_2 _ _)
   (SeqAt.list_indexAt l items n dd g u (λ z=>PyData.eqv (SeqAt.readOf s.heap z) d) j (by omega) (by omega) (by rw[at_ j (by omega) f1];exact f2) (λ m h z=>by rw[at_ m h (by omega)];exact J m (by omega) z)) ⟨a1,SeqAt.items_eqAt b C g3 g1 (by omega),?_⟩
  exact⟨.int j,H,I.tok _,⟨_,rfl⟩,q⟩
def ZC:W->W->Hx->R W:=λ x y A=>match qh A 8 x,qh A 8 y with
 |some (.list ds),some d=>(match ZE (λ z=>PyData.eqv z d) ds with
  |some j=>if j<1000000 then .ok (.int j) A else .bad|none=>.bad)
 |_,_=>.bad
theorem Dk:∀x y A,qU (ZC x y A):=λ x y A=>by
 unfold ZC
 split
 ·split
  ·exact Z1 yb je
  ·exact je
 ·exact je
end
end Mi
variable {ls:List Mi.Lm}
namespace Mi
open PySem
noncomputable def qe (n:Nat):List Nat:=(List.range 8).filter λ i=>n.testBit i
def jg (led:Bool)(n:Nat):SetTable:=if (qe n).length<5 then⟨7,(qe n).toArray,#[],0,led,0,true⟩ else⟨31,(qe n).toArray,#[],0,led,1,true⟩
noncomputable def jB (n v:Nat):Nat:=n ||| (1 <<< v)
def Zm (n v:Nat):Nat:=((qe n).filter λ i=>decide (i<v)).length
def k8 (led:Bool)(n v:Nat):SetTable:={ jg led n with place:=(qe (jB n v)).toArray }
def GL (led:Bool)(n v:Nat):Bool:=n.testBit v || (((jg led n).freeSlot (v:Int)==some (v,false))&&((jg led n).put v==(k8 led n v,Zm n v))&&(qe (jB n v)==(qe n).take (Zm n v)++v::(qe n).drop (Zm n v))&&
 (k8 led n v).fits (qe (jB n v)).length&&((k8 led n v).tooFull==((qe (jB n v)).length==5))&&
 (if (qe (jB n v)).length==5 then(k8 led n v).relaid ((qe (jB n v)).map λ (i:Nat)=>(i:Int)).toArray 20==some (jg led (jB n v),#[0,1,2,3,4]) else jg led (jB n v)==k8 led n v)&&
 (jg led (jB n v)).fits (qe (jB n v)).length&&decide (jB n v<256))
theorem Bk:((List.range 256).all λ n=>(List.range 8).all λ v=>GL true n v&&GL false n v)=true:=by decide +kernel
open PySem PySem.Spec PyProof.Rows
inductive jz:List (Int×Value)->List Nat->Prop
 |nil:jz [] []
 |cons {es:List (Int×Value)} {vs:List Nat} (v:Nat) (tk:Tok) (h:jz es vs):jz (((v:Int),.int (v:Int) tk)::es) (v::vs)
theorem jz.length {vs:List Nat}(h:jz es vs):es.length=vs.length:=by
 induction h with
 |nil=>rfl|cons v tk h i=>simp[i]
theorem jz.map1 {vs:List Nat}(h:jz es vs):es.map (·.1)=vs.map λ (i:Nat)=>(i:Int):=by
 induction h with
 |nil=>rfl|cons v tk h I=>simp[I]
theorem jz.take {vs:List Nat}(h:jz es vs):∀k,jz (es.take k) (vs.take k):=by
 induction h with
 |nil=>intro k;simp;exact .nil|cons v tk h i=>
  intro k;cases k with
  |zero=>exact .nil|succ k=>exact .cons v tk (i k)
theorem jz.drop {vs:List Nat}(h:jz es vs):∀k,jz (es.drop k) (vs.drop k):=by
 induction h with
 |nil=>intro k;simp;exact .nil|cons v tk h i=>
  intro k;cases k with
  |zero=>exact .cons v tk h|succ k=>exact i k
theorem jz.app {es':List (Int×Value)}{vs a:List Nat}(h:jz es vs)(h':jz es' a):jz (es++es') (vs++a):=by
 induction h with
 |nil=>exact h'|cons v tk h i=>exact .cons v tk i
theorem RG:∀v,v<8->hashInt ((v:Nat):Int)=(v:Int):=by decide
section
variable {prog:Program}
theorem jz.elems {vs:List Nat}(h:jz es vs)(H:∀v∈vs,v<8):ElemsOf (intKind prog w) es:=by
 induction h with
 |nil=>intro e he;cases he|cons v tk h i=>
  intro e he;rcases qa3.mp he with rfl|he
  ·exact⟨⟨(v:Int),intKind_is _ _ _ _,(RG v (H v (aE ..))).symm⟩,rfl⟩
  ·exact i (λ u a=>H u (ax _ a)) e he
theorem jz.find {vs:List Nat}(h:jz es vs)(v:Nat):(es.findIdx? λ e=>(intKind prog w).is (v:Int) e.2)=vs.findIdx? λ u=>decide (u=v):=by
 induction h with
 |nil=>rfl|cons u tk h i=>
  rw[List.findIdx?_cons,List.findIdx?_cons,i]
  have:(intKind prog w).is (v:Int) (Value.int (u:Int) tk)=decide (u=v):=by
   show Value.isInt (v:Int) (Value.int (u:Int) tk)=_;unfold Value.isInt;rw[Bool.eq_iff_iff];simp;omega
  rw[this]
end
theorem Ue {v:Nat}:v∈qe n↔v<8/\n.testBit v=true:=by
 unfold qe;rw[mem_filter,List.mem_range]
def yO (h:Heap)(a:Addr)(led:Bool)(n:Nat):Prop:=∃o e E,h.get? a=some o/\o.ExactSet/\o.data=.set e E (jg led n)/\jz e.toList (qe n)/\n<256
theorem yO.keep {h':Heap}(x:yO h a led n)(k:∀o,h.get? a=some o->h'.get? a=some o):yO h' a led n:=
 let ⟨o,es,ep,H,r⟩:=x;⟨o,es,ep,k o H,r⟩
theorem Eg {v:Nat}(hn:n<256)(H:v<8)(led:Bool):GL led n v=true:=by
 have h:=qa4.mp (qa4.mp Bk n (qa5.mpr hn)) v (qa5.mpr H);rw[aj]at h;cases led
 ·exact h.2
 ·exact h.1
theorem FZ:((List.range 256).all λ n=>(jg true n).fits (qe n).length&&(jg false n).fits (qe n).length)=true:=by decide +kernel
theorem Vm (led:Bool)(n:Nat):(jg led n).plain=true:=by unfold jg;split<;>rfl
theorem D8 (led:Bool)(n:Nat):(jg led n).led=led:=by unfold jg;split<;>rfl
theorem Pg (led:Bool)(n:Nat):(jg led n).place=(qe n).toArray:=by unfold jg;split<;>rfl
theorem fits_of (hn:n<256)(led:Bool):(jg led n).fits (qe n).length=true:=by
 have h:=qa4.mp FZ n (qa5.mpr hn);rw[aj]at h;cases led
 ·exact h.2
 ·exact h.1
theorem Ye (n:Nat):(qe n).length<=8:=by
 unfold qe;exact br (List.length_filter_le _ _) (by simp)
structure G9 (led:Bool)(n v:Nat):Prop where
 free:(jg led n).freeSlot (v:Int)=some (v,false)
 put:(jg led n).put v=(k8 led n v,Zm n v)
 vs:qe (jB n v)=(qe n).take (Zm n v)++v::(qe n).drop (Zm n v)
 fits:(k8 led n v).fits (qe (jB n v)).length=true
 full:(k8 led n v).tooFull=((qe (jB n v)).length==5)
 UW:(qe (jB n v)).length=5->(k8 led n v).relaid ((qe (jB n v)).map λ (i:Nat)=>(i:Int)).toArray 20=some (jg led (jB n v),#[0,1,2,3,4])
 less:(qe (jB n v)).length≠5->jg led (jB n v)=k8 led n v
 lt:jB n v<256
theorem HV {v:Nat}(hn:n<256)(a:v<8)(led:Bool)(b:n.testBit v=false):G9 led n v:=by
 have h:=Eg hn a led;unfold GL at h;rw[b,Bool.false_or]at h;simp only[aj,aL,ao]at h;obtain⟨⟨⟨⟨⟨⟨⟨j,i⟩,g⟩,f⟩,d⟩,H⟩,l⟩,c⟩:=h;refine⟨j,i,g,f,d,λ e=>?_,λ e=>?_,c⟩
 ·rw[ag e]at H;exact of_decide_eq_true (by simpa using H)
 ·rw[ak e]at H;simpa using H
def yP (n v:Nat):Nat:=if n.testBit v then n else jB n v
section
variable {prog:Program}{A:Around}
theorem Di {e:Array (Int×Value)}{v:Nat}{x:Value}(f:G9 led n v)(he:jz e.toList (qe n)):layNew (jg led n) e (v:Int) x=(SetTable.insertAt e (Zm n v) ((v:Int),x),k8 led n v,false,false):=by
 have h:(SetTable.insertAt e (Zm n v) ((v:Int),x)).size=(qe (jB n v)).length:=by
  rw[<- aT,SetTable.toList_insertAt,f.vs,ay,ay,bb,bb,bt,bt,bL,bL,he.length]
 unfold layNew;rw[f.free];dsimp only;rw[f.put];dsimp only;rw[h];unfold SetTable.orStandIn;rw[ag f.fits,f.fits]
 rfl
theorem CA {E:Array (Int×Value)}{v:Nat}(f:G9 led n v)(g:(qe (jB n v)).length=5)(he:jz E.toList (qe (jB n v))):relayAll (k8 led n v) E 20=(E,jg led (jB n v),false):=by
 have hm:E.map (·.1)=((qe (jB n v)).map λ (i:Nat)=>(i:Int)).toArray:=by
  apply Array.toList_inj.mp
  rw[Array.toList_map,he.map1]
 have h:E.size=5:=by rw[<- aT,he.length,g]
 have H:(#[0,1,2,3,4]:Array Nat).filterMap (E[·]?)=E:=by
  apply Array.toList_inj.mp
  rw[Array.toList_filterMap];have h0:E.toList.length=5:=by rw[aT];exact h
  have j:∀i,E[i]? =E.toList[i]?:=λ i=>by rw[bJ]
  simp only[j];generalize E.toList=l at h0;obtain⟨a,b,c,d,e,rfl⟩:∃a b c d e,l=[a,b,c,d,e]:=by
   match l,h0 with
   |[a,b,c,d,e],_=>exact⟨a,b,c,d,e,rfl⟩
  rfl
 unfold relayAll;rw[hm,f.UW g];dsimp only;rw[H];have o:coversAll #[0,1,2,3,4] E.size=true:=by rw[h];decide +kernel
 have hf:(jg led (jB n v)).fits E.size=true:=by rw[h,<- g];exact fits_of f.lt led
 rw[o,hf]
 rfl
theorem jz.insert {e:Array (Int×Value)}{v:Nat}{tk:Tok}(f:G9 led n v)(he:jz e.toList (qe n)):jz (SetTable.insertAt e (Zm n v) ((v:Int),.int (v:Int) tk)).toList (qe (jB n v)):=by
 rw[SetTable.toList_insertAt,f.vs];exact(he.take _).app (.cons v tk (he.drop _))
theorem Ru {o:Obj}{E es':Array (Int×Value)}{e:Nat}{t:SetTable}{t':SetTable}(H:h.get? a=some o)(hd:o.data=.set E e t):(h.update a (Obj.putSet es' t')).get? a=some { o with data:=.set es' (e+1) t' }:=by
 have:=a9 (Obj.putSet es' t') H (by rw[putSet_of es' t' hd];rfl)
 rw[putSet_of es' t' hd]at this;exact this
theorem Hn {v:Nat}{tk:Tok}{Q:Bool->Shared->Prop}(U:yO s.heap a led n)(z:v<8)
  (h:∀h' b,Heap.SameBut a s.heap h'->yO h' a led (yP n v)->Q b { s with heap:=h' }):
  wpAny (model prog w) A (setAddHashed a (.int (v:Int) tk) ((intKind prog w).hash (v:Int))) Q E s:=by
 obtain⟨o,p,I,r,hex,hd,he,hn⟩:=U;have hlen:p.size=(qe n).length:=by rw[<- aT,he.length]
 have hf:(jg led n).fits p.size=true:=by rw[hlen];exact fits_of hn led
 have t:ElemsOf (intKind prog w) p.toList:=he.elems λ u K=>(Ue.mp K).1;have l:p.size<scanBound:=by rw[hlen];have:=Ye n;unfold scanBound;omega
 unfold setAddHashed setAddHashedIn;refine wpAny_holding (qa0 (wpAny_setState_of r hd hf ?_));dsimp only;rw[byScan_of (x:=.int (v:Int) tk) rfl l t];simp only[↓reduceIte];unfold setAddByScan;refine qa0 ?_;refine qa0 (wpAny_rule ?_);refine qa0 (wpAny_setScan_of (knd:=intKind prog w) (intKind_is _ _ _ _) r hd hf t ?_);rw[he.find];cases J:(qe n).findIdx? λ u=>decide (u=v) with
 |some j=>
  dsimp only;have l:n.testBit v=true:=by
   obtain⟨P,C,_⟩:=List.findIdx?_eq_some_iff_getElem.mp J
   have:=of_decide_eq_true C
   exact(Ue.mp (this ▸ aP P)).2
  refine qa1 (qa1 ?_);have e:s={ s with heap:=s.heap }:=by cases s;rfl
  rw[e];refine h s.heap false (Heap.SameBut.refl a s.heap) ?_;unfold yP;rw[ag l];exact⟨o,p,I,r,hex,hd,he,hn⟩
 |none=>
  dsimp only;have l:n.testBit v=false:=by
   cases N:n.testBit v with
   |false=>rfl|true=>
    have:=List.findIdx?_eq_none_iff.mp J v (Ue.mpr ⟨z,N⟩)
    simp at this
  have f:=HV hn z led l;have S:(intKind prog w).hash (v:Int)=(v:Int):=RG v z;rw[S];rw[Di f he];have H:=he.insert (tk:=tk) f;have i:(SetTable.insertAt p (Zm n v) ((v:Int),Value.int (v:Int) tk)).size=(qe (jB n v)).length:=by rw[<- aT,H.length]
  generalize SetTable.insertAt p (Zm n v) ((v:Int),Value.int (v:Int) tk)=c at H i;dsimp only;refine qa0 (qa1 ?_);have M:(k8 led n v).plain=true:=by unfold k8;exact Vm led n
  rw[M];simp only[↓reduceIte];refine qa0 ?_;rw[hashByValue_scannable 8 (x:=.int (v:Int) tk) rfl];refine qa1 ?_;have B:plainKind (.int (v:Int) tk)=true:=rfl;rw[B];simp only[↓reduceIte];have q:c.size<=sizeLine:=by rw[i,sizeLine_eq];have:=Ye (jB n v);omega
  refine qa0 (wpAny_storeSet_of r hd ?_ q);have g:=Ru (es':=c) (t':=k8 led n v) r hd;have d:=Heap.SameBut.update s.heap a (Obj.putSet c (k8 led n v));rw[f.full]
  by_cases y:(qe (jB n v)).length=5
  ·have T:SetTable.grown c.size=20:=by rw[i,y];rfl
   rw[T,CA f y H,y];simp only[Bool.not_false,Bool.true_and,bp,↓reduceIte];refine qa0 (qa1 ?_);refine qa0 (wpAny_storeSet_of g rfl ?_ q);refine qa1 ?_;dsimp only;refine qa1 ?_;have D:=Ru (es':=c) (t':=jg led (jB n v)) g rfl;refine h _ true (d.trans (Heap.SameBut.update _ a _)) ?_;unfold yP;rw[l];exact⟨_,c,I+1+1,D,hex,rfl,H,f.lt⟩
  ·have L:((qe (jB n v)).length==5)=false:=by simpa using y
   rw[L];simp only[Bool.not_false,Bool.and_false,bc,↓reduceIte];refine qa1 ?_;dsimp only;refine qa1 ?_;refine h _ true d ?_;unfold yP;rw[l,ak aA,];refine⟨_,c,I+1,g,hex,?_,H,f.lt⟩;rw[f.less y]
end
noncomputable abbrev jV (w:World):Bool:=!w.params.followText "set-order"
def Z8 (val:Nat->Nat)(i:Nat):Nat:=((List.range i).map val).foldl yP 0
theorem Fy (val:Nat->Nat)(i:Nat):Z8 val (i+1)=yP (Z8 val i) (val i):=by
 unfold Z8;rw[bB,aU,List.foldl_append]
 rfl
section
variable {prog:Program}{A:Around}
theorem Lx (a:Value){Q1:Value->Shared->Prop}(h:Q1 (.ref s.heap.objs.size) { s with heap:=s.heap.push (gr (jV w)) }):
  codeAny (model prog w) A (.call (.builtin "set.__new__") ⟨[.type "set",a],[]⟩) (wants Q1 E) s:=by
 refine codeAny_of_tree ?_;show wpAny _ A.in1 (do checkBuiltinCall "set.__new__" ⟨[.type "set",a],[]⟩;again (.builtin "set.__new__" ⟨[.type "set",a],[]⟩)) _ _ s
 refine qa0 (wpAny_of_eq (F.newCall_set_1 a) (qa1 ⟨plainId_quiet F.plain_set_new _,codeAny_builtin F.entry_set_new ?_⟩));rw[Around.under_plainId F.plain_set_new _];unfold Builtin.«set.__new__» Builtin.Frozenset.newClass;have H:=sub_set_self;obtain⟨p,g,d,tk,os⟩:=s;dsimp only
 wp_walk
 refine wpAny_askSetting (qa1 ?_);dsimp only;simp only[newObj];refine qa0 (wpAny_alloc (qa1 ?_));exact qa1 h
end
section
variable {prog:Program}{A:Around}{R:Result->Shared->Prop}{I:Addr}{wr:List Addr}{G:Array GenState->Array GenState->Prop}{P:Nat->Value->Prop}{St:Nat->Shared->Prop}
theorem FL (W:WalksS prog w A.in1 I fp wr G n P St)(S:Addr)(q:S∉fp)(led:Bool)(val:Nat->Nat)(l:∀i v,P i v->∃t,v=.int ((val i:Nat):Int) t)(N:∀i,i<n->val i<8):
  ∀(k i:Nat)(s:Shared),n - i=k->i<=n->St i s->yO s.heap S led (Z8 val i)->
   (∀s',Moved (S::wr) G s s'->yO s'.heap S led (Z8 val n)->R (.ok (.ret .none)) s')->
   codeAny (model prog w) A (.builtin "set.update.loop" ⟨[.ref S,.ref I],[]⟩) R s:=by
 have p:S∉wr:=λ h=>q (W.sub _ h);have H:∀b∈wr,b∈S::wr:=λ b j=>ax _ j;intro k
 induction k with
 |zero=>
  intro i s K L a D E;have y:i=n:=by omega
  subst y;refine codeAny_builtin F.entry_set_update_loop ?_;rw[Around.under_plainId F.plain_set_update_loop _];show wpAny _ A.in1 (pyNext (.ref I) >>= _) _ _ s;refine qa0 (W.done s _ _ a λ s' hm=>?_);show wpAny _ A.in1 (ret Value.none) _ _ s';exact qa1 (E s' (hm.mono H) (D.keep λ o x=>hm.heap S _ p x))
 |succ k J=>
  intro i s K L a D E;have c:i<n:=by omega
  refine codeAny_builtin F.entry_set_update_loop ?_;rw[Around.under_plainId F.plain_set_update_loop _];show wpAny _ A.in1 (pyNext (.ref I) >>= _) _ _ s;refine qa0 (W.item i s _ _ c a λ v s' M d hm=>?_);obtain⟨t,rfl⟩:=l i v M;have C:yO s'.heap S led (Z8 val i):=D.keep λ o x=>hm.heap S _ p x;show wpAny _ A.in1 (holding [Value.int ((val i:Nat):Int) t] (setAdd S (.int ((val i:Nat):Int) t)) >>= _) _ _ s';refine qa0 (wpAny_holding ?_);unfold setAdd;refine wpAny_holding ?_;refine qa0 ((intKind prog w).pyHash (k:=((val i:Nat):Int)) (intKind_is _ _ _ _) ?_);refine Hn (s:={ s' with toks:=s'.toks+1 }) C (N i c) λ h' b f B=>?_
  have z:yO h' S led (Z8 val (i+1)):=by rw[Fy];exact B
  refine qa1 ⟨plainId_quiet F.plain_set_update_loop _,J (i+1) _ (by omega) c (W.frame _ s' _ _ d (le_succ _) λ b j o e=>?_) z λ u g r=>?_⟩
  ·rw[f.2 b (λ h:b=S=>q (by rw[<- h];exact j))];exact e
  ·refine E u (Moved.trans W.gtrans ((hm.mono H).then_heap (le_succ _) λ b o j e=>?_) g) r
   rw[f.2 b (λ h:b=S=>j (by rw[h];exact aE))];exact e
end
section
variable {prog:Program}{A:Around}
theorem zad (led:Bool)(g:h.get? a=some (gr led)):yO h a led 0:=
 ⟨_,#[],0,g,⟨rfl,rfl,rfl⟩,(by cases led<;>rfl),.nil,by decide⟩
theorem M8 {l:Addr}{vs:List Nat}(D:A.handled=none)(B:s.heap.IsList l its.toArray)(p:IntsAre its (vs.map λ (v:Nat)=>(v:Int)))(J:∀v∈vs,v<8)
  (h:∀(h':Heap)(tk:Nat),yO h' s.heap.objs.size led (vs.foldl yP 0)->
   (∀b o,b<s.heap.objs.size->s.heap.get? b=some o->h'.get? b=some o)->Q .none { s with heap:=h',toks:=tk }):
  codeAny (model prog w) A (.call (.builtin "set.__init__") ⟨[.ref s.heap.objs.size,.ref l],[]⟩) (wants Q E) { s with heap:=s.heap.push (gr led) }:=by
 have hlen:its.length=vs.length:=by
  have:∀{its:List Value}{ns:List Int},IntsAre its ns->its.length=ns.length:=λ h=>by
   induction h with
   |nil=>rfl|cons _ _ _ I=>simp[I]
  rw[this p,ai]
 have S:(s.heap.push (gr led)).get? s.heap.objs.size=some (gr led):=au _ rfl;refine codeAny_call_builtin F.called_set.init.plain F.entry_set_init (check_set_init_1 ⟨_,S,rfl⟩ ?_);obtain⟨ob,f,a,n,q⟩:=B;obtain⟨N,od,y,x⟩:=ob;dsimp only at a q;cases a;cases q;have g1:=af (gr led) f;have n1:=F.sub_list_set;have U:=F.sub_list_frozenset;have P:(Value.type "list" == Value.type "dict")=false:=by decide
 have r:(s.heap.push (gr led)).IsList l its.toArray:=⟨_,g1,rfl,n,rfl⟩;unfold Builtin.«set.__init__» noKeywords Builtin.Frozenset.updateFrom;generalize C:pyIter=PI
 wp_walk
 subst C;refine wpAny_pyIter_list r (qa0 (wpAny_runValue ?_));have lt:l<s.heap.objs.size:=aI f;have sz:(s.heap.push (gr led)).objs.size=s.heap.objs.size+1:=bf ..;have ne:l≠(s.heap.push (gr led)).objs.size:=by rw[sz];exact aM (ba lt)
 have W:=(Walks.list (prog:=prog) (w:=w) (A:=A.in1.in1) (by simp[D]) (s.heap.push (gr led)).objs.size l ne its.toArray).toS
 have g:its.toArray.size=vs.length:=by rw[aF];exact hlen
 rw[g]at W;have off:s.heap.objs.size∉[(s.heap.push (gr led)).objs.size,l]:=by
  rw[sz];intro hm;rcases qa3.mp hm with z|hm
  ·exact aM (bg _) z
  ·exact bA lt (qa7.mp hm)
 have c:Z8 (λ i=>vs.getD i 0) vs.length=vs.foldl yP 0:=by
  unfold Z8
  congr 1
  apply bM
  ·simp
  ·intro i f a
   have H:i<vs.length:=by simpa using a
   simp[aa,ae H]
 refine FL W s.heap.objs.size off led (λ i=>vs.getD i 0) (λ i v e=>?_) (λ i H=>?_) vs.length 0 _ rfl (zero_le _) ⟨⟨_,au _ rfl,rfl,rfl⟩,r.push _⟩ ?_ ?_
 ·obtain⟨t,j⟩:=IntsAre.int_at p i v (by simpa using e)
  refine⟨t,j.trans ?_⟩;have H:i<vs.length:=by
   have:=(qa2.mp (show its[i]? =some v by simpa using e)).1
   omega
  congr 1
  simp[aa,ar,ae H]
 ·rw[aa,ae H]
  exact J _ (aP H)
 ·exact zad led (af _ S)
 ·intro s' mv u
  rw[c]at u;obtain⟨h',g',d',T,d⟩:=s';have M:g'=s.gens:=mv.gens;have j:d'=s.drawn:=mv.drawn;have K:d=s.os:=mv.os;subst M j K;refine qa1 ?_;show wpAny _ _ (ret Value.none) _ _ _;refine qa1 (h h' T u λ b o L e=>mv.heap b o (λ hm=>?_) (af _ (af _ e)));rcases qa3.mp hm with z|hm
  ·exact aM L z
  ·exact aM (ba L) ((qa7.mp hm).trans sz)
theorem Lh {l:Addr}{vs:List Nat}(j:A.handled=none)(t:s.heap.IsList l its.toArray)(i:IntsAre its (vs.map λ (v:Nat)=>(v:Int)))(n:∀v∈vs,v<8)
  (h:∀(h':Heap)(tk:Nat),yO h' s.heap.objs.size (jV w) (vs.foldl yP 0)->
   (∀b o,b<s.heap.objs.size->s.heap.get? b=some o->h'.get? b=some o)->Q (.ref s.heap.objs.size) { s with heap:=h',toks:=tk }):
  wpAny (model prog w) A (call (.type "set") [.ref l]) Q E s:=by
 obtain⟨c,q,d⟩:=F.called_set.mro;have a1:=F.called_set.made;have a2:=F.called_set.sub;have C:=F.called_set.notType;have z:=F.called_set.canCreate;have y:=F.typeCall_set_1 (.ref l);refine wpAny_call (codeAny_of_tree ?_);show wpAny _ _ (callAny (.type "set") _) _ _ _;refine qa1 ⟨Code.quiet_builtin _ (by decide +kernel),codeAny_builtin F.entry_type_call ?_⟩
 rw[Around.under_plain (weight_type_call_type "set" [.ref l] []) rfl]
 repeat (any_goals (first|assumption|wp_step))
 refine codeAny_mono (Lx (.ref l) (E:=E) (Q1:=λ u s1=>u=.ref s.heap.objs.size/\s1={ s with heap:=s.heap.push (gr (jV w)) }) ⟨rfl,rfl⟩) λ r s1 a=>?_
 cases r with
 |error e=>exact a|ok p=>
  cases p with
  |ret u=>
   obtain⟨rfl,rfl⟩:=a;have T:Shared.TypeIs { s with heap:=s.heap.push (gr (jV w)) } (.ref s.heap.objs.size) "set" := ⟨_,au _ rfl,rfl⟩
   have x:=F.called_set.init.lookup;have B:=F.called_set.init.bind (.ref s.heap.objs.size)
   repeat (any_goals (first|assumption|wp_step))
   refine codeAny_mono (M8 (E:=E) (Q:=λ v s2=>v=.none/\∃h' tk,s2={ s with heap:=h',toks:=tk }/\yO h' s.heap.objs.size (jV w) (vs.foldl yP 0)/\
    ∀b o,b<s.heap.objs.size->s.heap.get? b=some o->h'.get? b=some o) (by simp[j]) t i n λ h' tk S K=>⟨rfl,h',tk,rfl,S,K⟩) λ g s2 H=>?_
   cases g with
   |error e=>exact H|ok f=>
    cases f with
    |ret v=>
     obtain⟨rfl,h',tk,rfl,S,K⟩:=H
     repeat (any_goals (first|assumption|wp_step))
     exact h _ _ S K
    |_=>exact H.elim
  |_=>exact a.elim
end
theorem RD :∀{l:List α}{k:Nat}{w:α},l[k]? =some w->l.Perm (w::l.eraseIdx k)
 |[],_,_,h=>by simp at h|x::l,0,w,h=>by
  simp at h;subst h;simp
 |x::l,k+1,w,h=>by
  rw[List.getElem?_cons_succ]at h;rw[List.eraseIdx_cons_succ];exact((RD h).cons x).trans (List.Perm.swap w x _)
theorem Bg (next:Nat->Nat):∀(f k:Nat)(left:List α)(out:Array α),left.length=f->(pickOrder.go next f k left out).toList.Perm (out.toList++left):=by
 intro f
 induction f with
 |zero=>
  intro k left out h
  have:left=[]:=List.length_eq_zero_iff.mp h
  subst this;unfold pickOrder.go;simp
 |succ f i=>
  intro k left out h;have H:next k % left.length<left.length:=Nat.mod_lt _ (by omega)
  unfold pickOrder.go;rw[ae H];dsimp only;refine(i (k+1) _ _ (by rw[List.length_eraseIdx_of_lt H];omega)).trans ?_
  rw[Array.toList_push,aW];exact List.Perm.append_left _ (RD (ae H)).symm
theorem FK (next:Nat->Nat)(xs:Array α):(pickOrder next xs).toList.Perm xs.toList:=by
 unfold pickOrder
 have:=Bg next xs.size 0 xs.toList #[] (by simp)
 simpa using this
namespace F
theorem Lk:entryFor table "set.__iter__" = some Builtin.«frozenset.__iter__»:=entryFor_alias (id' := "frozenset.__iter__") (by kernel_rfl) rfl (by decide +kernel) (by kernel_rfl)
theorem Me:entryFor table "set_iterator.__iter__" = some Builtin.«dict_keyiterator.__iter__»:=entryFor_alias (id' := "dict_keyiterator.__iter__") (by kernel_rfl) rfl (by decide +kernel) (by kernel_rfl)
theorem TC:Manifest.owners.lookup (String.ofList ['r','o','t','a','r','e','t','i','_','t','e','s'].reverse)=some Manifest.sig_set_iterator:=by kernel_rfl
theorem Jv:Slot "set_iterator" "__next__" "set_iterator.__next__" :=
 .of (owner := "set_iterator") (n := "__next__") (by rw[typeLookup_type,builtinLookup_eq_fast];kernel_rfl) (by decide +kernel) (by decide +kernel) (by decide +kernel)
  (by first|exact .inl (by decide +kernel) | exact .inr (by decide +kernel)) (by rw[isSubtype_type];kernel_rfl)
theorem Ts:entryFor table "set_iterator.__next__" = some Builtin.«set_iterator.__next__»:=entryFor_of_tree (by kernel_rfl)
theorem Tq (a:Value):argsOk "set_iterator.__next__" ⟨[a],[]⟩:=by
 unfold argsOk;rw[signature?_of (id := "set_iterator.__next__") (n:=['_','_','t','x','e','n','_','_']) (o:=['r','o','t','a','r','e','t','i','_','t','e','s']) (by kernel_rfl) TC];kernel_rfl
theorem Md (a:Value):argsOk "set_iterator.__iter__" ⟨[a],[]⟩:=by
 unfold argsOk;rw[signature?_of (id := "set_iterator.__iter__") (n:=['_','_','r','e','t','i','_','_']) (o:=['r','o','t','a','r','e','t','i','_','t','e','s']) (by kernel_rfl) TC];kernel_rfl
theorem Tt:Slot "set_iterator" "__iter__" "set_iterator.__iter__" :=
 .of (owner := "set_iterator") (n := "__iter__") (by rw[typeLookup_type,builtinLookup_eq_fast];kernel_rfl) (by decide +kernel) (by decide +kernel) (by decide +kernel)
  (by first|exact .inl (by decide +kernel) | exact .inr (by decide +kernel)) (by rw[isSubtype_type];kernel_rfl)
end F
def Kx (n i:Nat):Nat:=match i with
 |0=>0|i+1=>(qe n).getD i 0+1
def O0 (n i:Nat):Bool:=decide ((qe n).length<i) || (SetTable.below (qe n).toArray (Kx n i)==i)
theorem EU:((List.range 256).all λ n=>(List.range 9).all λ i=>O0 n i)=true:=by decide +kernel
theorem E9 (hn:n<256)(H:i<=(qe n).length):SetTable.below (qe n).toArray (Kx n i)=i:=by
 have a:=Ye n;have h:=qa4.mp (qa4.mp EU n (qa5.mpr hn)) i (qa5.mpr (by omega))
 unfold O0 at h;rw[aK (by omega),Bool.false_or,aL]at h
 exact h
def QW (h:Heap)(I S:Addr)(slot i n e:Nat):Prop:=∃o,h.get? I=some o/\o.cls=.type "set_iterator" /\ o.data=.fields #[.int slot 0,.int i 0,.ref S,.int n 0,.int e 0]
noncomputable def yX (w:World)(a:Addr)(E:Nat)(e:Array (Int×Value)):Array (Int×Value):=if w.params.followText "set-order" then pickOrder (w.params.setOrder a E) e else e
theorem YY (w:World)(a:Addr)(E:Nat)(e:Array (Int×Value)):(yX w a E e).toList.Perm e.toList:=by
 unfold yX
 split
 ·exact FK _ _
 ·exact List.Perm.refl _
def wK (w:World)(n i:Nat):Nat:=if w.params.followText "set-order" then 0 else Kx n i
section
variable {prog:Program}{A:Around}{o:Obj}{es:Array (Int×Value)}{ep:Nat}
theorem XY {Q:Bool->Shared->Prop}(h:Q (w.params.followText "set-order") s):wpAny (model prog w) A setsByText Q E s:=by
 unfold setsByText;exact qa0 (wpAny_askSetting (qa1 h))
theorem Ms (H:s.heap.get? a=some o)(hex:o.ExactSet)(hd:o.data=.set es ep (jg (jV w) n))(he:jz es.toList (qe n))(hn:n<256)
  (c:Q (.ref s.heap.objs.size) { s with heap:=s.heap.push { cls:=.type "set_iterator",data:=.fields #[.int 0 0,.int 0 0,.ref a,.int es.size 0,.int ep 0] } }):
  wpAny (model prog w) A (pyIter (.ref a)) Q E s:=by
 have T:s.TypeIs (.ref a) "set" := ⟨o,H,hex.1⟩;have hlen:es.size=(qe n).length:=by rw[<- aT,he.length]
 have hf:(jg (jV w) n).fits es.size=true:=by rw[hlen];exact fits_of hn _
 refine wpAny_pyIter_slot T slot_set_iter (wpAny_call_entry slot_set_iter T F.Lk ?_ (PySem.F.args_set_iter_1 _));unfold Builtin.«frozenset.__iter__»;show wpAny _ _ (Builtin.Frozenset.sizeOf a >>= _) _ _ s;unfold Builtin.Frozenset.sizeOf;refine qa0 (qa0 (wpAny_setEntries_of H hd hf (qa1 ?_)));unfold setDrawn;refine qa0 (qa0 (wpAny_setState_of H hd hf ?_));dsimp only;refine qa0 (XY (qa1 ?_));rw[ak (λ h=>by
  have b:(!w.params.followText "set-order" && (!(jg (jV w) n).plain&&decide (es.size > 1)))=true:=h;rw[Vm]at b;simp at b)]
 refine qa0 (qa1 ?_);refine qa0 (wpAny_setEpoch_of H hd hf ?_);exact qa0 (wpAny_newObj_type (qa1 ⟨_,rfl,"set_iterator",_,⟨_,au _ rfl,rfl⟩,F.Jv.lookup,c⟩))
theorem Sb {Q:Option (Value×Nat)->Shared->Prop}(c:s.heap.get? a=some o)(hd:o.data=.set es ep (jg (jV w) n))(he:jz es.toList (qe n))(hn:n<256)(q:i<=es.size)
  (h:Q (((yX w a ep es)[i]?).map λ e=>(e.2,wK w n (i+1))) s):wpAny (model prog w) A (setNext a (wK w n i) i ep) Q E s:=by
 have hlen:es.size=(qe n).length:=by rw[<- aT,he.length]
 have hf:(jg (jV w) n).fits es.size=true:=by rw[hlen];exact fits_of hn _
 unfold setNext;refine qa0 (wpAny_setState_of c hd hf ?_);dsimp only;refine qa0 (XY ?_);unfold yX wK at h;cases t:w.params.followText "set-order" with
 |true=>
  rw[t]at h;simp only[↓reduceIte]at h ⊢;have p:¬((ep != ep)=true):=by simp
  rw[ak p];unfold setWalk;refine qa0 (qa0 (wpAny_setState_of c hd hf ?_));dsimp only;refine qa0 (XY ?_);rw[t];simp only[↓reduceIte];refine qa0 (wpAny_askSetting (qa1 (qa1 ?_)));unfold wK;rw[t];exact h
 |false=>
  rw[t]at h;simp only[bc,↓reduceIte]at h ⊢;rw[ak (λ h=>by
   have f:(!(jg (jV w) n).plain&&decide (es.size > 1))=true:=h;rw[Vm]at f;simp at f)]
  have d:(jg (jV w) n).led=true:=by rw[D8];unfold jV;rw[t];rfl
  refine qa0 ?_;show wpAny _ _ (if (!(jg (jV w) n).led&&!es.isEmpty)=true then unsupported "set:maker-not-led" else pure ()) _ _ _;rw[d];simp only[Bool.not_true,Bool.false_and,bc,↓reduceIte];refine qa1 ?_;have l:SetTable.below (jg (jV w) n).place (wK w n i)=i:=by
   rw[Pg];unfold wK;rw[t];exact E9 hn (by omega)
  rw[l,Pg];refine qa1 ?_
  by_cases b:i<es.size
  ·have v:(qe n)[i]? =some ((qe n)[i]'(by omega)):=ae (by omega)
   have j:(qe n).toArray[i]? =some ((qe n)[i]'(by omega)):=by rw[List.getElem?_toArray];exact v
   have H:es[i]? =some es[i]:=Array.getElem?_eq_getElem b;rw[H]at h;rw[H,j];dsimp only;have g:Kx n (i+1)=(qe n)[i]'(by omega)+1:=by
    show(qe n).getD i 0+1=_;rw[aa,v]
    rfl
   rw[g]at h;exact h
  ·have H:es[i]? =none:=Array.getElem?_eq_none (by omega)
   rw[H]at h;rw[H];exact h
theorem Mf {I:Addr}{e:Int×Value}{Q:Option Value->Shared->Prop}(hit:QW s.heap I a (wK w n i) i es.size ep)(d:s.heap.get? a=some o)(hex:o.ExactSet)(hd:o.data=.set es ep (jg (jV w) n))(he:jz es.toList (qe n))(hn:n<256)(x:(yX w a ep es)[i]? =some e)
  (j:∀h',QW h' I a (wK w n (i+1)) (i+1) es.size ep->Heap.SameBut I s.heap h'->Q (some e.2) { s with heap:=h' }):
  wpAny (model prog w) A (pyNext (.ref I)) Q E s:=by
 obtain⟨c,H,f,h⟩:=id hit;have T:s.TypeIs (.ref I) "set_iterator" := ⟨c,H,f⟩;have hlen:es.size=(qe n).length:=by rw[<- aT,he.length]
 have hf:(jg (jV w) n).fits es.size=true:=by rw[hlen];exact fits_of hn _
 unfold pyNext;refine qa0 (wpAny_attempt (wpAny_callSpecial?_slot (name:=Str.ofString "__next__") T F.Jv
  (wpAny_call_entry F.Jv T F.Ts ?_ (F.Tq _))))
 unfold Builtin.«set_iterator.__next__»;show wpAny _ _ (fieldsOf (.ref I) >>= _) _ _ s;refine qa0 (wpAny_fieldsOf H h ?_);dsimp only;refine qa0 (wpAny_setEntries_of d hd hf ?_);rw[ak (by simp)]
 have g:i<es.size:=by
  have b:=(Array.getElem?_eq_some_iff.mp x).1;have l:=(YY w a ep es).length_eq;simp at l;omega
 simp only[az];refine qa0 (Sb d hd he hn (bD g) ?_);rw[x];dsimp only[Option.map_some];refine qa0 (wpAny_setField H h (by simp) ?_)
 have b:(s.heap.update I (Obj.mapFields (·.setIfInBounds 0 (rawInt (wK w n (i+1)))))).get? I=some (Obj.mapFields (·.setIfInBounds 0 (rawInt (wK w n (i+1)))) c):=a9 _ H (Obj.isFreed_of_fields (Obj.data_mapFields h _));refine qa0 (wpAny_setField b (Obj.data_mapFields h _) (by simp) ?_)
 refine qa1 ⟨e.2,rfl,qa1 (j _ ?_ ((Heap.SameBut.update ..).trans (Heap.SameBut.update ..)))⟩;refine⟨_,a9 _ b (Obj.isFreed_of_fields (Obj.data_mapFields (Obj.data_mapFields h _) _)),(Obj.cls_mapFields ..).trans ((Obj.cls_mapFields ..).trans f),?_⟩;rw[Obj.data_mapFields (Obj.data_mapFields h _)];simp[rawInt]
theorem Mj {I:Addr}{Q:Option Value->Shared->Prop}(d:A.handled=none)(hit:QW s.heap I a (wK w n es.size) es.size es.size ep)(c:s.heap.get? a=some o)(hex:o.ExactSet)(hd:o.data=.set es ep (jg (jV w) n))(he:jz es.toList (qe n))(hn:n<256)
  (g:∀h',Heap.ExtBut I s.heap h'->Q none { s with heap:=h' }):wpAny (model prog w) A (pyNext (.ref I)) Q E s:=by
 obtain⟨i,h,f,H⟩:=id hit;have e:s.TypeIs (.ref I) "set_iterator" := ⟨i,h,f⟩;have hlen:es.size=(qe n).length:=by rw[<- aT,he.length]
 have hf:(jg (jV w) n).fits es.size=true:=by rw[hlen];exact fits_of hn _
 unfold pyNext;refine qa0 (wpAny_attempt (wpAny_callSpecial?_slot (name:=Str.ofString "__next__") e F.Jv
  (wpAny_call_entry F.Jv e F.Ts ?_ (F.Tq _))))
 unfold Builtin.«set_iterator.__next__»;show wpAny _ _ (fieldsOf (.ref I) >>= _) _ _ s;refine qa0 (wpAny_fieldsOf h H ?_);dsimp only;refine qa0 (wpAny_setEntries_of c hd hf ?_);rw[ak (by simp)]
 simp only[az];refine qa0 (Sb c hd he hn (aw _) ?_);have x:(yX w a ep es)[es.size]? =none:=Array.getElem?_eq_none (by
  have j:=(YY w a ep es).length_eq;simp at j;omega)
 rw[x];dsimp only[Option.map_none];refine qa0 (wpAny_setField h H (by simp) ?_)
 show wpAny _ _ (newExc (.type "StopIteration") [] >>= _) _ _ _;refine qa0 ?_;simp only[newExc,newTuple];refine qa0 (wpAny_newObj_type ?_ (by size_fits))
 refine qa0 (m:=firstArgMember _ _) (wpAny_of_eq (a:=Value.none) (by first|rfl | (simp only[firstArgMember];rfl)) ?_)
 refine wpAny_newObj_type ?_ (by size_fits)
 simp only[raiseNew];refine qa0 (wpAny_handled ?_)
 first|rw[show A.in1.handled=none from d] | rw[d]
 refine qa0 (qa1 (wpAny_throw ?_));refine qa0 (wpAny_isInstance (T := "StopIteration") (b:=true) ⟨_,au _ rfl,rfl⟩ isSubtype_stop ?_);exact qa1 (g _ (((Heap.SameBut.update ..).extBut.push _).push _))
end
theorem QW.typeIs {I S:Addr}{slot e:Nat}(h:QW s.heap I S slot i n e):s.TypeIs (.ref I) "set_iterator" := let ⟨o,H,c,_⟩:=h;⟨o,H,c⟩
section
variable {prog:Program}{A:Around}{o:Obj}{es:Array (Int×Value)}{ep:Nat}
theorem Mo {I S:Addr}{slot m e:Nat}(hit:QW s.heap I S slot i m e)(h:Q (.ref I) s):wpAny (model prog w) A (pyIter (.ref I)) Q E s:=by
 refine wpAny_pyIter_slot hit.typeIs F.Tt (wpAny_call_entry F.Tt hit.typeIs F.Me ?_ (F.Md _));show wpAny _ _ (ret (.ref I)) _ _ s;exact qa1 ⟨_,rfl,"set_iterator",_,hit.typeIs,F.Jv.lookup,h⟩
theorem Walks.setP (q:A.handled=none)(I a:Addr)(g:a≠I)(hex:o.ExactSet)(hd:o.data=.set es ep (jg (jV w) n))(he:jz es.toList (qe n))(hn:n<256):
  Walks prog w A I [I,a] [I] es.size (λ i v=>∃e,(yX w a ep es)[i]? =some e/\v=e.2) (λ i h=>QW h I a (wK w n i) i es.size ep/\h.get? a=some o) where
 sub:=λ b H=>by simp at H;simp[H]
 frame:=λ _ _ _ st p=>⟨let ⟨x,h1,r⟩:=st.1;⟨x,p I (by simp) x h1,r⟩,p a (by simp) o st.2⟩
 item:=λ i s Q E t st f=>by
  have z:(yX w a ep es).size=es.size:=by have:=(YY w a ep es).length_eq;simpa using this
  have l:(yX w a ep es)[i]? =some ((yX w a ep es)[i]'(by omega)):=Array.getElem?_eq_getElem (by omega)
  refine Mf st.1 st.2 hex hd he hn l λ h' d c=>?_;refine f _ h' s.toks ⟨_,l,rfl⟩ ⟨d,?_⟩ λ b o H e=>c.extBut b o (λ h=>H (by simp[h])) e
  exact c.extBut a o g st.2
 done:=λ s Q E st f=>Mj q st.1 st.2 hex hd he hn λ h' j=>f h' s.toks λ b o H e=>j b o (λ h=>H (by simp[h])) e
 self:=λ _ _ _ _ st f=>Mo st.1 f
theorem Hc:typeLookup (.type "set") "__len__" = pure (some (.builtin "set.__len__")):=by rw[typeLookup_type,builtinLookup_eq_fast];kernel_rfl
theorem Mr {Q:List Value->Shared->Prop}(hh:A.handled=none)(J:s.heap.get? a=some o)(hex:o.ExactSet)(hd:o.data=.set es ep (jg (jV w) n))(he:jz es.toList (qe n))(hn:n<256)
  (hQ:∀(h':Heap)(tk:Nat),(∀b o,b<s.heap.objs.size->s.heap.get? b=some o->h'.get? b=some o)->s.heap.objs.size<=h'.objs.size->Q ((yX w a ep es).toList.map (·.2)) { s with heap:=h',toks:=tk }):
  wpAny (model prog w) A (collect (.ref a)) Q E s:=by
 have hT0:s.TypeIs (.ref a) "set" := ⟨o,J,hex.1⟩;have t:a<s.heap.objs.size:=aI J;unfold collect;refine qa0 (wpAny_runValue (codeAny_builtin PySem.F.entry_proto_collect ?_));rw[Around.under_plainId PySem.F.plain_proto_collect _];show wpAny _ A.in1 (newList [] >>= λ l=>again (.builtin "list.__iadd__" ⟨[l,.ref a],[]⟩)) _ _ s;refine qa0 (wpAny_newObj_type ?_);refine qa1 ⟨plainId_quiet PySem.F.plain_list_iadd _,codeAny_builtin PySem.F.entry_list_iadd ?_⟩;rw[Around.under_plainId PySem.F.plain_list_iadd _];show wpAny _ A.in1 (Builtin.List.listExtendWith (.ref s.heap.objs.size) (.ref a) (.ref s.heap.objs.size)) _ _ _;have f:(s.heap.push { cls:=.type "list",data:=.seq ([]:List Value).toArray }).get? a=some o:=af _ J;have hT:Shared.TypeIs { s with heap:=s.heap.push { cls:=.type "list",data:=.seq ([]:List Value).toArray } } (.ref a) "set" := ⟨o,f,hex.1⟩
 unfold Builtin.List.listExtendWith;refine qa0 (wpAny_typeOf hT ?_);have C:Builtin.List.listSameRef (.ref s.heap.objs.size) (.ref a)=false:=by simp[Builtin.List.listSameRef];exact bA t
 have Y:(Value.type "set" == Value.type "list")=false:=by decide
 have X:(Value.type "set" == Value.type "tuple")=false:=by decide
 simp only[C,Y,X,Bool.or_false,bc,if_false];refine qa0 (Ms f hex hd he hn ?_);refine qa0 (wpAny_holding ?_);unfold Builtin.List.listLengthHint;generalize B:s.heap.push { cls:=.type "list",data:=.seq ([]:List Value).toArray }=H;have p:H.objs.size=s.heap.objs.size+1:=by rw[<- B,bf]
 have r:H.get? a=some o:=by rw[<- B];exact f
 have U:H.get? s.heap.objs.size=some { cls:=.type "list",data:=.seq ([]:List Value).toArray }:=by rw[<- B];exact au _ rfl
 generalize i:({ cls:=.type "set_iterator",data:=.fields #[.int 0 0,.int 0 0,.ref a,.int es.size 0,.int ep 0] }:Obj)=io;have g:Shared.TypeIs { s with heap:=H.push io } (.ref a) "set" := ⟨o,af _ r,hex.1⟩
 have M:(H.push io).get? H.objs.size=some io:=au _ (by rw[<- i];rfl)
 refine qa0 (wpAny_specialOf g Hc ?_)
 wp_delta
 refine qa0 (wpAny_isInstance (b:=true) g (by rw[isSubtype_type];kernel_rfl) ?_)
 show wpAny _ A.in1 (typeOf (Value.ref a) >>= _) _ _ _;refine qa0 (wpAny_typeOf g ?_);refine qa1 ?_;show wpAny _ A.in1 (rule "list.extend.makes-room" >>= λ _=>Builtin.List.listTouch (.ref s.heap.objs.size) >>= λ _=>
  again (.builtin "list.extend.loop" ⟨[.ref s.heap.objs.size,.ref H.objs.size,.ref s.heap.objs.size],[]⟩)) _ _ _
 refine qa0 (wpAny_rule ?_);have v:(H.push io).get? s.heap.objs.size=some { cls:=.type "list",data:=.seq ([]:List Value).toArray }:=af _ U;refine qa0 ?_;show wpAny _ A.in1 (updateSeq s.heap.objs.size (·.push .none) >>= λ _=>updateSeq s.heap.objs.size (·.pop)) _ _ _;refine qa0 (wpAny_updateSeq v rfl ?_);have u:=a9 (Obj.mapSeq (·.push Value.none)) v rfl;refine wpAny_updateSeq u rfl ?_;have P:=a9 (Obj.mapSeq (·.pop)) u rfl;have d:∀b o,b≠s.heap.objs.size->(H.push io).get? b=some o->(((H.push io).update s.heap.objs.size (Obj.mapSeq (·.push Value.none))).update s.heap.objs.size (Obj.mapSeq (·.pop))).get? b=some o:=
  λ b o q e=>(a5 _ _ (Ne.symm q)).trans ((a5 _ _ (Ne.symm q)).trans e)
 have K:a≠H.objs.size:=by rw[p];exact aM (ba t)
 have y:H.objs.size≠s.heap.objs.size:=by rw[p];exact Nat.succ_ne_self _
 have S:a≠s.heap.objs.size:=aM t;have W:=(Walks.setP (prog:=prog) (w:=w) (A:=A.in1) (by simp[hh]) H.objs.size a K hex hd he hn).toS
 have N:s.heap.objs.size∉[H.objs.size,a]:=λ hm=>by
  rcases qa3.mp hm with z|hm
  ·exact y z.symm
  ·exact S (qa7.mp hm).symm
 have hlen:es.size=(qe n).length:=by rw[<- aT,he.length]
 have h8:=Ye n;refine qa1 ⟨plainId_quiet PySem.F.plain_extend_loop _,codeAny_extend_loopS W (by rw[sizeLine_eq];omega) _ N _ es.size 0 _ _ _ rfl (zero_le _) ⟨?_,d a o S (af _ r)⟩ P (ItemsOf.nil _) λ s' c c' hm x h=>?_⟩
 ·refine⟨io,d _ _ y M,by rw[<- i],?_⟩
  rw[<- i]
  have:wK w n 0=0:=by unfold wK Kx;split<;>rfl
  rw[this]
  rfl
 show wpAny _ A (load s.heap.objs.size >>= _) _ _ s';refine qa0 (wpAny_load x ?_);have hl:c.toList=(yX w a ep es).toList.map (·.2):=by
  have I:(yX w a ep es).size=es.size:=by have:=(YY w a ep es).length_eq;simpa using this
  apply ext_getElem?
  intro j
  by_cases Z:j<es.size
  ·have C:c[j]? =some (c[j]'(by rw[h.1];exact Z)):=Array.getElem?_eq_getElem (by rw[h.1];exact Z)
   obtain⟨e,Y,X⟩:=h.2 j _ C;rw[bJ,C,ar,bJ,Y,X]
   rfl
  ·rw[aC (by rw[aT,h.1];omega),aC (by rw[ai,aT,I];omega)]
 show wpAny _ A (pure c.toList) _ _ s';rw[hl];obtain⟨h',g',d',T,D⟩:=s';have e1:g'=s.gens:=hm.gens;have e2:d'=s.drawn:=hm.drawn;have e3:D=s.os:=hm.os;subst e1 e2 e3;refine qa1 (hQ h' T (λ b ob q e=>?_) ?_)
 ·refine hm.heap b ob (λ L=>?_) (d b ob (aM q) (af _ (by rw[<- B];exact af _ e)))
  rcases qa3.mp L with z|z
  ·exact aM q z
  ·exact aM (ba q) ((qa7.mp z).trans p)
 ·exact bD (aI (show h'.get? s.heap.objs.size=_ from x))
end
open PySem PySem.Spec PyProof.Rows L2
theorem Pa:∀{a b:List Int},a.Perm b->a.Pairwise (·<=·)->b.Pairwise (·<=·)->a=b
 |[],b,p,_,_=>by rw[List.nil_perm.mp p]|x::a,[],p,_,_=>absurd p.length_eq (by simp)|x::a,y::b,p,H,h=>by
  have d:x∈y::b:=p.mem_iff.mp (aE ..);have c:y∈x::a:=p.mem_iff.mpr (aE ..);have e:x=y:=by
   rcases qa3.mp d with e|e
   ·exact e
   ·rcases qa3.mp c with E|E
    ·exact E.symm
    ·have g:=(List.pairwise_cons.mp h).1 x e
     have f:=(List.pairwise_cons.mp H).1 y E;omega
  subst e;rw[Pa (List.Perm.cons_inv p) (List.pairwise_cons.mp H).2 (List.pairwise_cons.mp h).2]
theorem C4 (n v i:Nat):(yP n v).testBit i=(n.testBit i || decide (i=v)):=by
 unfold yP
 by_cases h:n.testBit v=true
 ·rw[ag h]
  by_cases e:i=v
  ·subst e;simp[h]
  ·simp[e]
 ·rw[ak h]
  unfold jB;rw[Nat.testBit_or,Nat.one_shiftLeft,Nat.testBit_two_pow]
  congr 1
  by_cases e:v=i
  ·subst e;simp
  ·simp[e,Ne.symm e]
theorem PN (i:Nat):∀(vs:List Nat)(n:Nat),(vs.foldl yP n).testBit i=(n.testBit i || decide (i∈vs))
 |[],n=>by simp|v::vs,n=>by
  rw[List.foldl_cons,PN i vs,C4]
  by_cases e:i=v
  ·simp[e]
  ·simp[e]
theorem FH (vs:List Nat):qe (vs.foldl yP 0)=(List.range 8).filter λ i=>decide (i∈vs):=by
 unfold qe
 congr 1
 funext i
 rw[PN];simp
theorem Ff (n:Nat):((qe n).map λ (i:Nat)=>(i:Int)).Pairwise (·<=·):=by
 rw[List.pairwise_map];unfold qe;refine List.Pairwise.imp ?_ (List.Pairwise.filter _ List.pairwise_lt_range);intro a b h;omega
theorem jz.snd {vs:List Nat}(h:jz es vs):∀e∈es,∃tk,e.2=.int e.1 tk:=by
 induction h with
 |nil=>intro e he;cases he|cons v tk h i=>
  intro e he;rcases qa3.mp he with rfl|he
  ·exact⟨tk,rfl⟩
  ·exact i e he
theorem Sj:∀{l:List (Int×Value)},(∀e∈l,∃tk,e.2=.int e.1 tk)->IntsAre (l.map (·.2)) (l.map (·.1))
 |[],_=>.nil|e::l,h=>by
  obtain⟨tk,he⟩:=h e (aE ..);rw[aV,aV,he];exact .cons _ tk (Sj λ x H=>h x (ax _ H))
section
variable {prog:Program}{A:Around}{o:Obj}{es:Array (Int×Value)}{ep:Nat}
theorem Ip (u:A.handled=none)(S:yO s.heap a (jV w) n)
  (h:∀(h':Heap)(tk:Nat)(l:Addr)(I:List Value)(c:Nat),s.heap.objs.size<=l->h'.get? l=some { cls:=.type "list",data:=.seq I.toArray c }->IntsAre I ((qe n).map λ (i:Nat)=>(i:Int))->
   (∀b o,s.heap.get? b=some o->h'.get? b=some o)->Q (.ref l) { s with heap:=h',toks:=tk }):
  wpAny (model prog w) A (call (.builtin "sorted") [.ref a]) Q E s:=by
 obtain⟨o,f,p,t,hex,hd,he,hn⟩:=S;refine Calls.call_function_entry kind_sorted plain_sorted entry_sorted (args_sorted1 _) ?_;unfold Builtin.«sorted»;refine qa0 (m:=checkCount "sorted" 1 1 _) (qa1 ?_);refine qa0 (Mr (by simp[u]) t hex hd he hn λ d tk kp hle=>?_)
 have g:=YY w a p f;have q:IntsAre ((yX w a p f).toList.map (·.2)) ((yX w a p f).toList.map (·.1)):=Sj λ e hm=>he.snd e (g.mem_iff.mp hm);have H:((yX w a p f).toList.map (·.1)).Perm ((qe n).map λ (i:Nat)=>(i:Int)):=by
  rw[<- he.map1];exact g.map _
 have hlen:((yX w a p f).toList.map (·.2)).length<=8:=by
  rw[ai,g.length_eq,he.length];exact Ye n
 generalize (yX w a p f).toList.map (·.2)=vs at q hlen;generalize (yX w a p f).toList.map (·.1)=ns at q H;refine qa0 (wpAny_newList ?_);have L:(d.push (seqObj "list" vs.toArray 0)).get? d.objs.size=some (seqObj "list" vs.toArray 0):=au _ rfl;show wpAny _ _ _ _ _ { s with heap:=d.push (seqObj "list" vs.toArray 0),toks:=tk }
 refine qa0 (wpAny_holding (wpAny_call_entry slot_list_sort ⟨_,L,rfl⟩ entry_list_sort (list_sort_tree L q (by omega) λ out N a1 a2 z=>⟨_,rfl,?_⟩) (args_list_sort _)))
 have j:N=(qe n).map λ (i:Nat)=>(i:Int):=Pa (a2.trans H) z (Ff n);subst j;refine qa1 ⟨_,rfl,?_⟩;have y:=get?_update_seq L (λ _=>(#[]:Array Value));have x:=af (seqObj "list" #[] 0) (af (seqObj "tuple" vs.toArray 0) y);obtain⟨c,v⟩:∃c,(sortedHeap (d.push (seqObj "list" vs.toArray 0)) d.objs.size vs out).get? d.objs.size=some (seqObj "list" out c):=⟨_,get?_update_seq x (λ _=>out)⟩;refine h _ tk d.objs.size out.toList c hle ?_ a1 λ b ob e=>?_
 ·rw[Array.toArray_toList]
  exact v
 ·have r:b<s.heap.objs.size:=aI e
  have k1:=kp b ob r e;have nb:d.objs.size≠b:=bA (aD r hle);unfold sortedHeap;refine(a5 _ _ nb).trans ?_;refine af _ (af _ ?_);exact(a5 _ _ nb).trans (af _ k1)
end
section
variable {m:Ev}
def zaF (K:Frag)(w:World):List V->Hp->VK->Prop:=λ xs H Q=>∃(p:Addr) (vs:List Nat),xs=[.ref p]/\ji K H p (vs.map λ (v:Nat)=>V.int (v:Int))/\(∀v∈vs,v<8)/\∀l,H l=none->Q (.ref l) (upd H l (.ext λ h=>yO h l (jV w) (vs.foldl yP 0)))
theorem FA (l:X.calm=true):ye X (.type "set") (zaF X.K X.w):=by
 intro pins s σ H xs us Q I r h;obtain⟨p,vs,rfl,g,n,q⟩:=h;obtain⟨u,rfl,d⟩:=vals1 r;cases d;obtain⟨i,c,⟨o,k,x,t,C,E⟩,_⟩:=I.list g;have f:Vals ((vs.map λ (v:Nat)=>(v:Int)).map V.int) i:=by rw[aQ];exact c
 refine Lh (I.ok.hd l) ⟨o,x,t,k,E⟩ (intsAre_of f) n λ h' tk S kp=>?_;refine⟨.ref s.heap.objs.size,_,I.laid (t':=tk) (o:=.ext λ h=>yO h s.heap.objs.size (jV X.w) (vs.foldl yP 0)) (λ b o e=>kp b o (aI e) e) (aw _) ⟨S,?_,λ z y a b=>a.keep b⟩,rfl,q _ (I.hok.fresh (aw _))⟩;obtain⟨o,A,B,j,_⟩:=S;exact⟨o,j⟩
theorem YX:∀{ns:List Int}{i:List Value},IntsAre i ns->Vals (ns.map V.int) i
 |_,_,.nil=>.nil|_,_,.cons n t h=>.cons ⟨t,rfl⟩ (YX h)
theorem Ia (j:X.calm=true):ye X (.builtin "sorted") (λ xs H Q=>∃(p:Addr) (n:Nat),xs=[.ref p]/\H p=some (.ext λ h=>yO h p (jV X.w) n)/\∀l,H l=none->Q (.ref l) (upd H l (.lst ((qe n).map λ (v:Nat)=>V.int (v:Int))))):=by
 intro pins s σ H xs us Q I r h;obtain⟨p,n,rfl,e,q⟩:=h;obtain⟨u,rfl,d⟩:=vals1 r;cases d;have S:yO s.heap p (jV X.w) n:=(show jd X.prog X.w H s.heap p (.ext λ h=>yO h p (jV X.w) n) from I.hok p _ e).1
 refine Ip (I.ok.hd j) S λ h' tk l i c b g f kp=>?_;have a:=YX f;rw[aQ]at a;refine⟨.ref l,_,I.laid (t':=tk) (o:=.lst ((qe n).map λ (v:Nat)=>V.int (v:Int))) kp b ⟨?_,i,c,a,g⟩,rfl,q _ (I.hok.fresh b)⟩;rw[ai,sizeLine_eq]
 have:=Ye n
 omega
noncomputable def Qx:List Int->Option (List Nat)
 |[]=>some []|i::is=>if 0<=i/\i<8 then(Qx is).map (i.toNat::·) else none
theorem Pm:∀{is:List Int}{vs:List Nat},Qx is=some vs->is=vs.map (λ (v:Nat)=>(v:Int))/\∀v∈vs,v<8
 |[],_,e=>by cases e;exact⟨rfl,λ v H=>by cases H⟩|i::is,vs,e=>by
  unfold Qx at e
  by_cases h:0<=i/\i<8
  ·rw[ag h]at e
   cases E:Qx is with
   |none=>rw[E]at e;cases e|some us=>
    rw[E]at e;cases e;obtain⟨b,a⟩:=Pm E;refine⟨?_,λ v H=>?_⟩
    ·rw[aV,<- b,Int.toNat_of_nonneg h.1]
    ·rcases qa3.mp H with rfl|H
     ·omega
     ·exact a v H
  ·rw[ak h]at e;cases e
def VF:W->Hx->R W:=λ w A=>match w with
 |.ref n=>match A[n]? with
  |some (.lst ws)=>match intsOf ws with
   |some is=>match Qx is with
    |some vs=>.ok (.ref A.length) (A++[.lst (((List.range 8).filter λ i=>decide (i∈vs)).map λ (i:Nat)=>W.int (i:Int))])|none=>.bad
   |none=>.bad
  |_=>.bad
 |_=>.bad
def WS (m:Ev):Ev:=λ ρ A=>(m ρ A).bind λ w A1=>VF w A1
end
theorem Ft (a b:Value):argsOk "sum" ⟨[a,b],[]⟩:=by unfold argsOk;kernel_rfl
theorem sub_list_str:isSubtype (.type "list") (.type "str")=pure false:=by rw[isSubtype_type];kernel_rfl
theorem sub_list_bytes:isSubtype (.type "list") (.type "bytes")=pure false:=by rw[isSubtype_type];kernel_rfl
theorem sub_list_bytearray:isSubtype (.type "list") (.type "bytearray")=pure false:=by rw[isSubtype_type];kernel_rfl
noncomputable abbrev gy (xs:Array Value)(c:Nat):Obj:={ cls:=.type "list",dict:=none,data:=.seq xs c,slots:=#[] }
section
variable {prog:Program}{A:Around}{R:Result->Shared->Prop}{I:Addr}{wr:List Addr}{G:Array GenState->Array GenState->Prop}{P:Nat->Value->Prop}{St:Nat->Shared->Prop}
theorem HU (W:WalksS prog w A.in1 I fp wr G n P St)(S B:Addr)(C:S∉fp)(hBS:B<=S)(ad:Nat->Addr)(a:Nat->List Value)(r:∀i v,P i v->v=.ref (ad i))(p:∀i,i<n->ad i≠S/\ad i∉wr)(hwS:∀b∈wr,b<S):
  ∀(k i:Nat)(s:Shared)(T:Addr)(c Q:Nat)(acc:List Value),n - i=k->i<=n->St i s->s.heap.get? S=some (gy #[.ref T] c)->T≠S->T∉wr->s.heap.get? T=some (gy acc.toArray Q)->
   (∀j,i<=j->j<n->∃cj,s.heap.get? (ad j)=some (gy (a j).toArray cj))->(acc++(((List.range' i k).map a).flatten)).length<=sizeLine->
   (∀s' U c',Moved (S::wr) G s s'->s'.heap.get? U=some (gy (acc++(((List.range' i k).map a).flatten)).toArray c')->((k=0/\U=T)∨B<=U)->R (.ok (.ret (.ref U))) s')->
   codeAny (model prog w) A (.builtin "sum.loop" ⟨[.ref I,.ref S,rawInt 2,rawInt 0],[]⟩) R s:=by
 have hSw:S∉wr:=λ h=>C (W.sub _ h);have d:∀b∈wr,b∈S::wr:=λ b f=>ax _ f;intro k
 induction k with
 |zero=>
  intro i s T c Q acc hk hi t L hTS q hT hl K M;have hin:i=n:=by omega
  subst hin;refine codeAny_builtin PySem.F.entry_sum_loop ?_;rw[Around.under_plainId plain_sum_loop _];show wpAny _ A.in1 (seqItems? (.ref S) >>= _) _ _ s;refine qa0 (wpAny_seqItems L rfl ?_);show wpAny _ A.in1 (tryCatch (pyNext (.ref I)) _ >>= _) _ _ s;refine qa0 (wpAny_tryCatch (W.done s _ _ t λ s' hm=>?_));refine qa1 (M s' T Q (hm.mono d) ?_ (.inl ⟨rfl,rfl⟩))
  have:=hm.heap T _ q hT
  simpa using this
 |succ k ih=>
  intro i s T c Q acc hk hi t L hTS q hT hl K M;have H:i<n:=by omega
  refine codeAny_builtin PySem.F.entry_sum_loop ?_;rw[Around.under_plainId plain_sum_loop _];show wpAny _ A.in1 (seqItems? (.ref S) >>= _) _ _ s;refine qa0 (wpAny_seqItems L rfl ?_);show wpAny _ A.in1 (tryCatch (pyNext (.ref I)) _ >>= _) _ _ s;refine qa0 (wpAny_tryCatch (W.item i s _ _ H t λ v s' hP u hm=>?_));have hv:=r i v hP;subst hv;have J:=hm.heap S _ hSw L;have hT':=hm.heap T _ q hT;obtain⟨ci,hli⟩:=hl i (aw _) H;have y:=hm.heap (ad i) _ (p i H).2 hli;rw[bH,aV,a3,<- aW]at K M;have Z:(acc++a i).length<=sizeLine:=by rw[ay]at K;omega
  show wpAny _ A.in1 ((holding [Value.ref (ad i)] (binaryOp .Add (.ref T) (.ref (ad i)))).attempt >>= _) _ _ _;refine qa0 (wpAny_attempt (wpAny_holding (PySem.P.add_list hT' y ?_ (by rw[aF,aF,<- ay];exact Z))))
  have ea:acc.toArray++(a i).toArray=(acc++a i).toArray:=by simp
  rw[ea];have l:S<s'.heap.objs.size:=aI J;have E:=af (gy (acc++a i).toArray 0) J;have hN1:(s'.heap.push (gy (acc++a i).toArray 0)).get? s'.heap.objs.size=some (gy (acc++a i).toArray 0):=au _ rfl;show wpAny _ A.in1 (updateSeq S (λ _=>#[.ref s'.heap.objs.size]) >>= _) _ _ _;refine qa0 (wpAny_updateSeq E rfl ?_);have D:=a9 (Obj.mapSeq λ _=>#[Value.ref s'.heap.objs.size]) E rfl;refine qa0 (wpAny_letGo ?_);have N:s'.heap.objs.size≠S:=bA l;have g:∀b o,b≠S->s'.heap.get? b=some o->(((s'.heap.push (gy (acc++a i).toArray 0)).update S (Obj.mapSeq λ _=>#[Value.ref s'.heap.objs.size])).update S (Obj.mapSeq λ _=>#[Value.ref s'.heap.objs.size])).get? b=some o:=
   λ b o f e=>(a5 _ _ (Ne.symm f)).trans ((a5 _ _ (Ne.symm f)).trans (af _ e))
  have Y:s'.heap.objs.size∉wr:=λ hm2=>aY _ (lt_trans (hwS _ hm2) l);refine qa0 (wpAny_updateSeq D rfl (qa1 ⟨plainId_quiet plain_sum_loop _,ih (i+1) _ s'.heap.objs.size _ 0 (acc++a i) (by omega) H (W.frame _ s' _ _ u (by first|exact aw _|exact le_succ _|omega) λ b f o e=>g b o (λ h=>C (h ▸ f)) e) (a9 _ D rfl) N Y ?_ ?_ K λ X T'' c'' x z hor=>?_⟩))
  ·exact(a5 _ _ (Ne.symm N)).trans ((a5 _ _ (Ne.symm N)).trans hN1)
  ·intro j h1 h2
   obtain⟨cj,hj⟩:=hl j (by omega) h2
   exact⟨cj,g _ _ (p j h2).1 (hm.heap _ _ (p j h2).2 hj)⟩
  ·refine M X T'' c'' (Moved.trans W.gtrans ((hm.mono d).then_heap (by first|exact aw _|exact le_succ _|omega) λ b o f e=>g b o (λ h=>f (by rw[h];exact aE)) e) x) z (.inr ?_)
   rcases hor with ⟨_,rfl⟩|h
   ·exact bD (Nat.lt_of_le_of_lt hBS l)
   ·exact h
theorem Fv {p q:Addr}{S:Nat}{a:List Addr}{itss:List (List Value)}(hh:A.handled=none)(B:s.heap.IsList p (a.map Value.ref).toArray)(X:s.heap.get? q=some (gy #[] S))
  (hlen:a.length=itss.length)(Y:∀i,i<a.length->∃c,s.heap.get? (a.getD i 0)=some (gy (itss.getD i []).toArray c))(D:a≠[])(hz:itss.flatten.length<=sizeLine)
  (h:∀(h':Heap)(tk:Nat)(l:Addr)(c:Nat),s.heap.objs.size<=l->h'.get? l=some (gy itss.flatten.toArray c)->(∀b o,s.heap.get? b=some o->h'.get? b=some o)->Q (.ref l) { s with heap:=h',toks:=tk }):
  wpAny (model prog w) A (call (.builtin "sum") [.ref p,.ref q]) Q E s:=by
 refine call_function_tree PySem.F.kind_sum PySem.F.plain_sum PySem.F.entry_sum (Ft _ _) ?_;unfold Builtin.«sum»;simp only[bb,length_nil];rw[ak (by decide)]
 refine qa0 (wpAny_of_eq (show Builtin.Builtins.bindParams "sum" ["start"] 0 ⟨[.ref q],[]⟩=pure [some (.ref q)] from rfl) ?_)
 refine qa0 (wpAny_pyIter_list B ?_);refine qa0 (qa1 ?_);generalize d:({ cls:=.type "list_iterator",data:=.fields #[.ref p,.int 0 0] }:Obj)=io;have r:(s.heap.push io).get? q=some (gy #[] S):=af _ X;have K:Shared.TypeIs { s with heap:=s.heap.push io } (.ref q) "list" := ⟨_,r,rfl⟩
 simp only[forIn_cons,forIn_nil];refine qa0 (qa0 (qa0 (wpAny_isInstance (b:=false) K sub_list_str ?_)));simp only[bc,if_false];refine qa1 (qa0 (qa0 (wpAny_isInstance (b:=false) K sub_list_bytes ?_)));simp only[bc,if_false];refine qa1 (qa0 (qa0 (wpAny_isInstance (b:=false) K sub_list_bytearray ?_)));simp only[bc,if_false];refine qa1 (qa1 ?_);refine qa0 (wpAny_newObj_type ?_);have sz:(s.heap.push io).objs.size=s.heap.objs.size+1:=bf ..;have n:p<s.heap.objs.size:=by obtain⟨o,e,_⟩:=B;exact aI e
 have g:q<s.heap.objs.size:=aI X;have ltI:s.heap.objs.size<(s.heap.push io).objs.size:=by rw[sz];exact bg _
 have L:∀b,b<s.heap.objs.size->b<(s.heap.push io).objs.size:=λ b J=>lt_trans J ltI;have W:=(Walks.list (prog:=prog) (w:=w) (A:=A.in1) (by simp[hh]) s.heap.objs.size p (aM n) (a.map Value.ref).toArray).toS
 have P:(a.map Value.ref).toArray.size=a.length:=by simp
 rw[P]at W;have M:(s.heap.push io).objs.size∉[s.heap.objs.size,p]:=λ hm=>by
  rcases qa3.mp hm with z|hm
  ·exact bA ltI z
  ·exact bA (L p n) (qa7.mp hm)
 have t:∀i,i<a.length->a.getD i 0<s.heap.objs.size:=λ i f=>by obtain⟨c,e⟩:=Y i f;exact aI e
 have N:(s.heap.push io).get? s.heap.objs.size=some io:=au _ (by rw[<- d];rfl)
 have H:((List.range' 0 a.length).map λ j=>itss.getD j []).flatten=itss.flatten:=by
  congr 1
  rw[hlen]
  apply bM
  ·simp
  ·intro i h1 h2
   simp[aa,ae h2]
 refine qa1 ⟨plainId_quiet plain_sum_loop _,HU W (s.heap.push io).objs.size s.heap.objs.size M (bD ltI) (λ i=>a.getD i 0) (λ i=>itss.getD i []) (λ i v e=>?_) (λ i f=>⟨aM (L _ (t i f)),λ hm=>?_⟩) (λ b J=>?_)
  a.length 0 _ q 0 S [] (by omega) (zero_le _) ⟨⟨io,af _ N,by rw[<- d],by rw[<- d];rfl⟩,(B.push _).push _⟩ (au _ rfl) (aM (L q g)) (λ hm=>?_) (af _ r) (λ j _ hj=>?_) ?_ λ s' Z c' hm u C=>?_⟩
 ·have f:i<a.length:=by
   have:=(Array.getElem?_eq_some_iff.mp e).1
   simpa using this
  have x:(a.map Value.ref)[i]? =some v:=by simpa using e
  rw[ar,ae f]at x;rw[aa,ae f];exact(aB x).symm
 ·exact aM (t i f) (qa7.mp hm)
 ·rw[qa7.mp J];exact ltI
 ·exact aM g (qa7.mp hm)
 ·obtain⟨c,e⟩:=Y j hj
  exact⟨c,af _ (af _ e)⟩
 ·rw[nil_append,H];exact hz
 ·rw[nil_append,H]at u
  have hB:s.heap.objs.size<=Z:=by
   rcases C with ⟨h0,_⟩|h0
   ·exact absurd (List.length_eq_zero_iff.mp h0) D
   ·exact h0
  obtain⟨h',g',d',T,y⟩:=s';have e1:g'=s.gens:=hm.gens;have x:d'=s.drawn:=hm.drawn;have e3:y=s.os:=hm.os;subst e1 x e3;refine h h' T Z c' hB u λ b o e=>hm.heap b o (λ I=>?_) (af _ (af _ e));have U:b<s.heap.objs.size:=aI e;rcases qa3.mp I with z|z
  ·exact aM (L b U) z
  ·exact aM U (qa7.mp z)
end
section
variable {K:Frag}
def Nz (K:Frag):List V->Hp->VK->Prop:=λ xs H Q=>∃(p q:Addr) (ls:List (Addr×List V)),xs=[.ref p,.ref q]/\H p=some (.lst (ls.map λ l=>V.ref l.1))/\H q=some (.lst [])/\(∀l∈ls,H l.1=some (.lst l.2))/\ls≠[]/\(ls.map (·.2)).flatten.length<=zX/\
 ∀l,H l=none->Q (.ref l) (upd H l (.lst (ls.map (·.2)).flatten))
theorem Pq:∀{ls:List (Addr×List V)}{us:List Value},Vals (ls.map λ l=>V.ref l.1) us->us=(ls.map (·.1)).map Value.ref
 |[],_,h=>by cases h;rfl|l::ls,_,h=>by
  cases h with
  |cons r t=>cases r;rw[Pq t];rfl
theorem FO (Z:X.calm=true):ye X (.builtin "sum") (Nz X.K):=by
 intro pins s σ H xs us Q I r h;obtain⟨p,q,ls,rfl,T,S,U,t,A,k⟩:=h;obtain⟨u,v,rfl,C,B⟩:=Vals.two r;cases C;cases B;obtain⟨_,M,np,E,_,ep⟩:=I.lstM T;obtain⟨_,j,nq,D,lq,eq⟩:=I.lstM S;have b:j=[]:=by cases D;rfl
 subst b;have d:=Pq E;subst d;have hex:∀L:List (Addr×List V),(∀l∈L,H l.1=some (.lst l.2))->∃itss:List (List Value),itss.length=L.length/\(∀i,i<L.length->∃c,s.heap.get? ((L.map (·.1)).getD i 0)=some (gy (itss.getD i []).toArray c))/\Vals (L.map (·.2)).flatten itss.flatten:=by
  intro L
  induction L with
  |nil=>intro _;exact⟨[],rfl,λ i f=>absurd f (bq _),.nil⟩|cons l L N=>
   intro hm;obtain⟨itss,z,y,g⟩:=N λ x P=>hm x (ax _ P);obtain⟨_,it,n,J,_,e1⟩:=I.lstM (hm l (aE ..));refine⟨it::itss,by simp[z],λ i f=>?_,?_⟩
   ·cases i with
    |zero=>exact⟨n,e1⟩|succ i=>exact y i (by simpa using f)
   ·rw[aV,a3,a3]
    exact J.append g
 obtain⟨itss,z,y,g⟩:=hex ls U;have w:itss.flatten.length=(ls.map (·.2)).flatten.length:=g.length.symm;refine Fv (I.ok.hd Z) (itss:=itss) ⟨_,ep,rfl,np,rfl⟩ eq (by simp[z]) (λ i f=>y i (by simpa using f)) (λ e=>t (List.map_eq_nil_iff.mp e)) (by rw[w];exact ZT A) λ h' tk l c a Y kp=>?_
 exact⟨.ref l,_,I.laid (t':=tk) (o:=.lst (ls.map (·.2)).flatten) kp a ⟨ZT A,itss.flatten,c,g,Y⟩,rfl,k _ (I.hok.fresh a)⟩
noncomputable def gG (A:Hx):List W->Option (List (List W))
 |[]=>some []|.ref k::us=>match A[k]? with
  |some (.lst ws)=>(gG A us).map (ws::·)|_=>none
 |_::_=>none
def Z4:W->W->Hx->R W:=λ x y A=>match x,y with
 |.ref n,.ref k=>match A[n]?,A[k]? with
  |some (.lst us),some (.lst [])=>match gG A us with
   |some w=>if us≠[]/\w.flatten.length<=zX then .ok (.ref A.length) (A++[.lst w.flatten]) else .bad|none=>.bad
  |_,_=>.bad
 |_,_=>.bad
theorem DS:∀x y A,qU (Z4 x y A):=λ x y A=>by
 unfold Z4
 split
 ·split
  ·split
   ·exact Z1 yb je
   ·exact je
  ·exact je
 ·exact je
theorem zG.app :∀{ws us:List W}{xs ys:List V},zG K φ H ws xs->zG K φ H us ys->zG K φ H (ws++us) (xs++ys)
 |[],_,_,_,h,a=>by cases h;exact a|w::ws,_,_,_,⟨v,r,e,h,t⟩,a=>by subst e;exact⟨v,_,rfl,h,zG.app t a⟩
theorem Rn (S:zM K φ A H):∀{us:List W}{w:List (List W)}{vs:List V},gG A us=some w->zG K φ H us vs->∃ls:List (Addr×List V),vs=ls.map (λ l=>V.ref l.1)/\(∀l∈ls,H l.1=some (.lst l.2))/\zG K φ H w.flatten (ls.map (·.2)).flatten/\ls.length=us.length
 |[],_,_,e,h=>by cases e;cases h;exact⟨[],rfl,λ l a=>(by cases a),rfl,rfl⟩|u::us,w,_,e,⟨v,r,n,h,t⟩=>by
  subst n;cases u with
  |ref k=>
   unfold gG at e;cases E:A[k]? with
   |none=>rw[E]at e;cases e|some o=>cases o with
    |lst ws=>
     rw[E]at e;dsimp only at e;cases b:gG A us with
     |none=>rw[b]at e;cases e|some c=>
      rw[b]at e;cases e;obtain⟨p,xs,rfl,_,f,d⟩:=S.lst h E;obtain⟨ls,rfl,j,i,g⟩:=Rn S b t;refine⟨(p,xs)::ls,rfl,λ l a=>?_,zG.app d i,by simp[g]⟩
      rcases qa3.mp a with rfl|a
      ·exact f
      ·exact j l a
    |_=>rw[E]at e;cases e
  |_=>cases e
theorem Dc:yD K (λ x y=>Nz K [x,y]) Z4:=λ φ A H x y u v Q S g q p=>by
 unfold Z4 at p;cases u with
 |ref n=>cases v with
  |ref k=>
   dsimp only at p;cases E:A[n]? with
   |none=>rw[E]at p;exact p.elim|some o=>cases o with
    |lst us=>
     cases a:A[k]? with
     |none=>rw[E,a]at p;exact p.elim|some j=>cases j with
      |lst zs=>cases zs with
       |nil=>
        rw[E,a]at p;dsimp only at p;cases b:gG A us with
        |none=>rw[b]at p;exact p.elim|some w=>
         rw[b]at p;dsimp only at p
         by_cases h:us≠[]/\w.flatten.length<=zX
         ·rw[ag h]at p
          obtain⟨i,xs,rfl,_,t,f⟩:=S.lst g E;obtain⟨P,ys,rfl,_,s,r⟩:=S.lst q a;cases r;obtain⟨ls,rfl,B,d,c⟩:=Rn S b f;refine⟨i,P,ls,rfl,t,s,B,λ e=>?_,by rw[<- d.length];exact h.2,λ l z=>?_⟩
          ·rw[e]at c
           exact h.1 (List.length_eq_zero_iff.mp c.symm)
          ·obtain⟨a1,a2,C⟩:=Q9 S z d
           exact p _ _ _ a1 a2 C
         ·rw[ak h]at p;exact p.elim
       |cons _ _=>rw[E,a]at p;exact p.elim
      |_=>rw[E,a]at p;exact p.elim
    |_=>rw[E]at p;exact p.elim
  |_=>exact p.elim
 |_=>cases v<;>exact p.elim
variable {a b:Expr}{ma mb:Ev}
def Bt (t:TA):TE:=λ σ H Q=>t σ H λ vs H1=>∃i j:Int,vs=[.int i,.int j]/\∀p,H1 p=none->Q (.ref p) (upd H1 p (.rng i j))
theorem Dd {T:TA}(g:Gl X "range")(hm:X.mg "range" = none)(l:PA X [a,b] T)(f:starEach [a,b] X.env=[(false,eval a X.env),(false,eval b X.env)])(c:starEach [b] X.env=[(false,eval b X.env)]):PE X (.Call (.Name "range" p) [a,b] [] pos) (Bt T):=by
 intro pins s σ H Q I h;refine Call_ (Qy I g hm boot_range (PyProof.Rows.callWith_type1 (zV (l pos pins s σ H _ I h) λ us s1 ⟨vs,H1,d,r,e⟩=>?_) (by rw[f,c]) (by rw[c];rfl)))
 obtain⟨i,j,rfl,q⟩:=e;obtain⟨u,v,rfl,⟨t,rfl⟩,⟨n,rfl⟩⟩:=Vals.two r;refine call_range_2 ⟨.ref _,_,d.laid (o:=.rng i j) (λ b o E=>af _ E) (aw _) ?_,rfl,q _ (d.hok.fresh (aw _))⟩;exact⟨_,_,_,au _ rfl⟩
noncomputable def Jg (lo:Int)(n:Nat):List V:=(List.range n).map λ (i:Nat)=>V.int (lo+i)
theorem II (A:X.calm=true):ye X (.type "list") (λ xs H Q=>∃(r:Addr) (i j:Int),xs=[.ref r]/\H r=some (.rng i j)/\(-(2 ^ 62)<=i/\i<2 ^ 62)/\(-(2 ^ 62)<=j/\j<2 ^ 62)/\(j - i).toNat<=sizeLine/\∀l,H l=none->Q (.ref l) (upd H l (.lst (Jg i (j - i).toNat)))):=by
 intro pins s σ H xs us Q I r h;obtain⟨p,i,j,rfl,x,⟨a1,a2⟩,⟨D,B⟩,z,q⟩:=h;obtain⟨u,rfl,g⟩:=vals1 r;cases g;obtain⟨t1,T,t3,y⟩:=I.hok p _ x;have E:sizeLine=16777216:=sizeLine_eq;refine PySem.call_list_range (n:=(j - i).toNat) (I.ok.hd A) (show IsRange s.heap p i j 1 t1 T t3 from y) (small_one (by omega) (by omega) D B) (by rw[rangeSize_one];split<;>omega) (by omega) λ h' tk acc C kk S ⟨hn,d⟩=>?_
 refine⟨.ref s.heap.objs.size,_,I.laid (t':=tk) (o:=.lst (Jg i (j - i).toNat)) kk (aw _) ?_,rfl,q _ (I.hok.fresh (aw _))⟩;refine⟨by unfold Jg;simpa using z,acc.toList,C,?_,by simpa using S⟩
 have a:∀(l:List Value)(k:Nat),(∀(m:Nat) v,l[m]? =some v->∃t,v=.int (i+((k+m:Nat):Int)) t)->Vals ((List.range' k l.length).map λ (m:Nat)=>V.int (i+(m:Int))) l:=by
  intro l
  induction l with
  |nil=>intro k _;exact .nil|cons v l w=>
   intro k e;rw[bb,bH,aV];refine .cons ?_ (w (k+1) λ m f a=>?_)
   ·obtain⟨t,rfl⟩:=e 0 v rfl
    exact⟨t,rfl⟩
   ·obtain⟨t,rfl⟩:=e (m+1) f (by simpa using a)
    exact⟨t,by first|rfl | (congr 1<;>omega) | (simp;omega)⟩
 have b:acc.toList.length=(j - i).toNat:=by simpa using hn
 have:=a acc.toList 0 λ m v c=>by
  obtain⟨t,rfl⟩:=d m v (by simpa using c)
  exact⟨t,by first|rfl | (congr 1<;>omega) | (simp;omega)⟩
 rw[b]at this;unfold Jg;rw[range_eq_range'];exact this
def Ke (ma mb:Ev):Ev:=λ ρ A=>(ma ρ A).bind λ x A1=>(mb ρ A1).bind λ y A2=>match x,y with
 |.int i,.int j=>if j0 i&&(j0 j&&decide ((j - i).toNat<=zX)) then .ok (.ref A2.length) (A2++[.lst ((List.range (j - i).toNat).map λ (k:Nat)=>W.int (i+k))]) else .bad|_,_=>.bad
variable {prog:Program}{A:Around}
theorem Mp {t S:Addr}{l v:Value}{lo i:Option Int}(H:IsTup s.heap t items)(d:s.heap.IsSliceOf S l v .none)(p:IsPart l lo)(pu:IsPart v i)
  (hw:HT.qA items.size 0 lo=0/\HT.qA items.size items.size i=items.size)(h:Q (.ref t) s):wpAny (model prog w) A (getItem (.ref t) (.ref S)) Q E s:=by
 obtain⟨os,a,b,e⟩:=id d;have c:s.TypeIs (.ref S) "slice" := ⟨os,a,b⟩;unfold getItem
 try with_reducible refine wpAny_holding ?_
 first|refine qa0 (qa1 ?_) | skip
 refine qa0 (wpAny_sequenceKey H.typeIs (by decide) ?_)
 refine qa0 (wpAny_callSpecial?_slot (name:=Str.ofString "__getitem__") H.typeIs PyProof.Rows.slot_tuple_getitem
  (wpAny_call_entry PyProof.Rows.slot_tuple_getitem H.typeIs PyProof.Rows.entry_tuple_getitem ?_ (PyProof.Rows.args_tuple_getitem _ _)))
 show wpAny _ _ (Builtin.Tuple.tupleItemsOf (.ref t) >>= _) _ _ s;refine qa0 (PyProof.Rows.tupleItemsOf_ H ?_);refine qa0 (wpAny_typeOf c ?_);rw[ag (by decide)]
 refine qa0 (HT.TN d p pu ?_);show wpAny _ _ (if (((HT.qA items.size 0 lo:Nat):Int)==0&&(1:Int)==1&&(HT.qA items.size items.size i - HT.qA items.size 0 lo)==items.size)=true then _ else _) _ _ s;rw[ag (by rw[hw.1,hw.2];simp)]
 unfold Builtin.Tuple.tupleIsExact;refine qa0 (qa0 (wpAny_typeOf H.typeIs (qa1 ?_)));rw[ag (by decide)]
 refine qa0 (wpAny_rule ?_)
 first
  |exact qa1 ⟨_,rfl,qa1 h⟩
  |exact qa0 (qa1 (qa1 ⟨_,rfl,qa1 h⟩))
end
section
variable {a:Expr}{m:Ev}{lo hi:Option Expr}{K:Frag}
def zcp (K:Frag):V->Option Int->Option Int->Hp->VK->Prop:=λ x lo h H Q=>∃a xs,x=.ref a/\qD K H a xs/\
 ((HT.qA xs.length 0 lo=0/\HT.qA xs.length xs.length h=xs.length)->Q (.ref a) H)/\
 (¬(HT.qA xs.length 0 lo=0/\HT.qA xs.length xs.length h=xs.length)->∀p,H p=none->Q (.ref p) (upd H p (.tup (Ji xs lo h))))
theorem Cr:Te X (zcp X.K):=by
 intro pins s σ H x v l u lo e S Q I b d p pu h;obtain⟨a,xs,rfl,c,f,q⟩:=h
 by_cases hw:HT.qA xs.length 0 lo=0/\HT.qA xs.length xs.length e=xs.length
 ·cases b
  obtain⟨i,r,t,z⟩:=I.tuple c;have hlen:i.toArray.size=xs.length:=by rw[aF];exact r.length.symm
  exact⟨"tuple",_,PyProof.Rows.slot_tuple_getitem.lookup,t.typeIs,Mp t d p pu (by rw[hlen];exact hw) ⟨.ref a,H,I,rfl,f hw⟩⟩
 ·exact BR pins s σ H _ v l u lo e S Q I b d p pu ⟨a,xs,rfl,c,hw,q hw⟩
abbrev Po:=En->Hx->R (Option Int)
noncomputable def gZ:Po:=λ _ A=>.ok none A
noncomputable def gN (m:Ev):Po:=λ ρ A=>(m ρ A).bind λ w A1=>match w with
 |.int i=>.ok (some i) A1|_=>.bad
noncomputable def wz (ws:List W)(lo h:Option Int):List W:=(ws.drop (HT.qA ws.length 0 lo)).take (HT.qA ws.length ws.length h - HT.qA ws.length 0 lo)
def wu (m:Ev)(p pu:Po):Ev:=λ ρ A=>(m ρ A).bind λ w A1=>(p ρ A1).bind λ l A2=>(pu ρ A2).bind λ u a=>match w with
 |.tup ws=>.ok (.tup (wz ws l u)) a|_=>.bad
inductive MP (K:Frag)(xr:XR)(p:Po)(σ:St)(H:Hp)(Q:Option Int->Hp->Prop):Prop
 |mk (φ:List Addr) (A:Hx) (ρ:En) (S:zM K φ A H) (re:RE K φ H ρ σ) (h:(p ρ A).post (λ o A1=>∀φ1 H1,Le K φ H φ1 H1->zM K φ1 A1 H1->Q o H1) (EB K φ H xr))
noncomputable def tP (K:Frag)(x:XR)(p:Po):TO:=λ σ H Q=>MP K x p σ H Q
def SP (X:Cx)(x:XR)(e:Option Expr)(p:Po):Prop:=PO X e (tP X.K x p)
theorem PO.imp {e:Option Expr}{t t':TO}(h:PO X e t)(i:∀σ H Q,t' σ H Q->t σ H Q):PO X e t':=λ pins s σ H Q I hw=>h pins s σ H Q I (i σ H Q hw)
end
noncomputable def GB (_ j:Int):Bool:=decide (0<j)&&decide (j<1152921504606846976)
def NC (i j:Int):Prop:=0<j/\j<1152921504606846976
theorem EY (i j:Int)(h:GB i j=true):NC i j:=by
 unfold GB at h;rw[aj]at h;exact⟨of_decide_eq_true h.1,of_decide_eq_true h.2⟩
theorem Dj :ja X (binaryOp .FloorDiv) (rI NC λ i j=>.int (i / j)):=Xo λ i j _ _ _ _ _ h q=>by
 have a:(0:Int)<j:=h.1;have H:j<1152921504606846976:=h.2;refine floordiv_int (by omega) (by rw[Int.fdiv_eq_ediv_of_nonneg i (by omega)];exact q) (.inl (PyProof.noPylong_of_log2 ?_))
 have h0:j.natAbs≠0:=by omega
 have:j.natAbs.log2<60:=(Nat.log2_lt h0).mpr (by omega)
 omega
def gH:=Qj GB λ i j=>.int (i / j)
noncomputable def gf (RF:Nat->List W->Hx->R W):Fn:=λ us A=>match us with
 |[.clo k ws _]=>RF k ws A|_=>.bad
theorem WR {RF:Nat->List W->Hx->R W}(PG:jE)(us:List W)(A:Hx):gf RF us A=.bad∨gO PG RF (us.map (GH PG)) A=gf RF us A:=by
 cases us with
 |nil=>exact .inl rfl|cons u us=>
  cases us with
  |cons v us=>cases u<;>exact .inl rfl|nil=>
   cases u with
   |clo k ws P=>
    refine .inr ?_;show gO PG RF [.clo k ws (PG k)] A=RF k ws A;unfold gO;dsimp only;rw[ag rfl]
   |_=>exact .inl rfl
def G7 (e:Expr):Expr:=match e with
 |.Compare l _ _ _=>l|_=>QD
open Classical in
def Nn (q:Str)(fs:Addr->Fn):Prop:=∀ns:List Int,ns.length<=63->∀Pt,∃A,fs Pt [.ref 0] [.ro (ns.map W.int),.tab q Pt]=.ok (.bl true) A
theorem zbR {y:Str}{l:PySem.W.OpenLaw}{k:Nat}{q:Program}{loose:List Str}{J:World->Heap->Prop}{d:DefRec}{Kp:Params->Frag}{Q:Str}{fs:Addr->Fn}(ok:Nn Q fs)
  (hn:l.most=some 63)(B:d.params.defaults=[])(Z:ju k callerA)(hY:∀(w:World)(h:Heap),J w h->(Kp w.params).In h)(hT:∀(w:World)(h:Heap),J w h->h.get? Pt=some (tabObj #[]))(M:∀p,Ub (Kp p) y Pt=true)(P:∀p,(Kp p).lookup Pt=none)
  (F:∀(w:World)(mg:Str->Option Value)(i:Addr)(h:Heap),(Kp w.params).In h->h.Ns mainGlobals mg->mg d.name=some (.ref i)->(∃c,tabIn (Kp w.params) y=some (c,Pt)/\codeHdIn (Kp w.params) c Pt=true)->
   ∃fd:FuncData,(∀(s:Shared)(u:Value),BindsTo s fd ⟨[u],[]⟩ [(x,u)])/\∀base:Heap,(Kp w.params).In base->base.Ns mainGlobals mg->BMain mg base->yN l.prog w (Kp w.params) mg base wC k i fd [x] (Zr (Kp w.params) 1 (fs Pt))):
  PySem.W.WalkO q loose XP J l.row.toRowW d [] (λ f vs=>PySem.call f vs):=by
 refine Att.IB (n:=63) hn B λ w L S mg mb i o pm cd doc a vs ns G Y ho hd N t j hints hlen hg=>?_;have K:=hY w _ Y;obtain⟨fd,hb,hF⟩:=F w mg i _ K G.T.g t (Pp (M w.params));obtain⟨c,_,C⟩:=Pp (M w.params);have U:=hT w _ Y;have hc:isCodeTable S.heap Pt:=((codeHd_of_K K C).tab U).isCodeTable;have D:BMain mg S.heap:=by
  obtain⟨bm,ob,b1,b2,I,b4,b5,E⟩:=G.T.bmain;refine⟨bm,ob,b1,b2,λ z=>?_,I,b4,b5,E⟩;obtain⟨o,es,ep,e,hd,_⟩:=G.T.g;rw[z,e]at I;cases I;rw[hd]at E;cases E
 refine HM K G.T.g G.T.b G.T.builtins G.T.nolimit hg j hints (br hlen (by decide)) Z U (P w.params) hc D hF hb λ H h1 h2=>?_
 refine⟨rfl,[a,Pt],[.ro (ns.map W.int),.tab Q Pt],[.ref 0],IY h1 h2,.one ⟨a,rfl,rfl⟩,?_⟩;obtain⟨A,e⟩:=ok ns hlen Pt;rw[e];exactλ X H' v _ _ r=>r
def G5 (q:Str)(Pt:Addr)(g:jE->Fn)(us:List W)(A:Hx)(r:R W):Prop:=
 ∃n vs ws w a,us=.ref n::vs/\A[n]? =some (.lst ws)/\A[1]? =some (.tab q Pt)/\qY ws=true/\qY vs=true/\qY a=true/\w.nr=true/\r=.ok w (A.set n (.lst a))/\
  ∀PF,∃A1,g PF (.ref 0::vs) [.lst ws,.tab q Pt]=.ok w A1/\A1[0]? =some (.lst a)/\A1[1]? =some (.tab q Pt)
open Classical in
noncomputable def Yp (q:Str)(Pt:Addr)(g:jE->Fn):Fn:=λ us A=>if h:∃r,G5 q Pt g us A r then h.choose else .bad
theorem Oq {q:Str}{g:jE->Fn}{us:List W}{r:R W}(h:G5 q Pt g us A r):Yp q Pt g us A=r:=by
 have H:∃r,G5 q Pt g us A r:=⟨r,h⟩;unfold Yp;rw[dif_pos H];obtain⟨n,vs,ws,w,d,l,j,t,_,_,_,_,i,E⟩:=H.choose_spec;obtain⟨N,v,e,o,a,f1,f2,s,_,_,_,_,f4,f⟩:=h;rw[l]at f1;cases f1;rw[j]at f2;cases f2;obtain⟨A1,g1,g2,g3⟩:=E λ _ _ _ _ _=>True;obtain⟨A2,c,b,p⟩:=f λ _ _ _ _ _=>True;rw[g1]at c;cases c;rw[g2]at b;cases b;rw[i,f4]
end Mi
namespace PySem.SeqAt
open PySem
theorem M5 {A:Around}{β:Type}(f:Nat->β->Sem (ForInStep β))(I:List Nat->β->Shared->Prop)(Q:β->Shared->Prop)
  (turn:∀x rest b s,I (x::rest) b s->wpAny M A (f x b) (λ r s'=>match r with | .yield b'=>I rest b' s' | .done b'=>Q b' s') E s)
  (fin:∀b s,I [] b s->Q b s)(r:Std.Legacy.Range)(b:β)(h:I (List.range' r.start r.size r.step) b s):wpAny M A (forIn r b f) Q E s:=by
 rw[Std.Legacy.Range.forIn_eq_forIn_range'];exact wpAny_forIn_list f I Q turn fin _ b h
theorem LJ (l:Addr)(items:Array Value)(n:Nat)(dd:Option Addr)(S:Array (Option Value))(x:Value)(e:Value->Bool)(j:Nat)(D:j<items.size)
  (hit:e items[j]=true)(o:∀m (hm:m<items.size),m<j->e items[m]=false):
  Meets (Builtin.«tuple.index» ⟨[.ref l,x],[]⟩)
   (λ A R s=>s.heap.get? l=some { cls:=.type "tuple",dict:=dd,data:=.seq items n,slots:=S }/\(∀y,y∈items->EqAt A.in1 s y x (e y))/\R (.ok (.ret (.int j s.toks))) { s with toks:=s.toks+1 }):=
 .of_wp λ prog w A R s h=>by
  obtain⟨p,g,d,tk,os⟩:=s;obtain⟨t,he,h⟩:=h
  wp_walk using wpAny_loadPart' t,M5 _ (λ rest b s'=>b.1=none/\s'=⟨p,g,d,tk,os⟩/\∃i,i<=j/\rest=List.range' i (items.size - i)) _
  case turn=>
   rintro i rest ⟨C,B⟩ s' ⟨z,rfl,k,u,r⟩
   have H:k<items.size:=by omega
   have f:items.size - k=(items.size - (k+1))+1:=by omega
   rw[f,bH]at r;injection r with c a
   subst c a;have v:items[i]? =some items[i]:=by simp[H]
   rw[v];refine qa0 (he _ (Array.getElem_mem H) prog w _ _ ?_)
   by_cases q:i=j
   ·subst q
    rw[hit]
    wp_walk
    exact⟨_,rfl,h⟩
   ·rw[o i H (by omega)]
    wp_walk
    exact⟨rfl,rfl,i+1,by omega,rfl⟩
  case fin=>
   rintro⟨C,B⟩ s' ⟨z,rfl,k,u,r⟩
   have:=congrArg List.length r
   simp at this;omega
  case h=>
   exact⟨rfl,rfl,0,zero_le _,by simp[Std.Legacy.Range.size]⟩
end PySem.SeqAt
namespace Mi
open PySem PySem.Spec PyProof.Rows L2
def QF (y:W):List W->Option Nat
 |[]=>none|w::ws=>if Qf w y then some 0 else(QF y ws).map (· + 1)
def Qt:W->W->Hx->R W:=λ x y A=>match x with
 |.tup ws=>if yB y&&ws.all yB then(match QF y ws with
  |some j=>.ok (.int (j:Int)) A|none=>.bad) else .bad
 |_=>.bad
section
variable {K:Frag}{a:Expr}
def KO (y:V)(xs:List V)(j:Nat):Prop:=∃h:j<xs.length,wD xs[j] y=true/\∀m (hm:m<xs.length),m<j->wD xs[m] y=false
theorem KO.succ {y x:V}(h:KO y xs j)(H:wD x y=false):KO y (x::xs) (j+1):=by
 obtain⟨c,b,a⟩:=h;refine⟨succ_lt_succ c,b,λ m hm z=>?_⟩;cases m with
 |zero=>exact H|succ m=>exact a m (bh hm) (bh z)
theorem R8 {x:W}(q:RV K φ H x v)(e:yB x=true):∀{xs:List W}{vs:List V}{j:Nat},zG K φ H xs vs->xs.all yB=true->QF x xs=some j->vs.all kZ=true/\KO v vs j
 |[],_,_,_,_,h=>by cases h|w::ws,_,j,⟨y,r,d,h,t⟩,b,a=>by
  subst d;rw[List.all_cons,aj]at b;have E:=Vj h q b.1 e;have hf:r.all kZ=true:=(Rj q e t b.2).1;have a:(if Qf w x then some 0 else(QF x ws).map (· + 1))=some j:=a;refine⟨by rw[List.all_cons,YZ h b.1,hf];rfl,?_⟩
  by_cases hw:Qf w x=true
  ·rw[ag hw]at a
   cases a;exact⟨zero_lt_succ _,by show wD y v=true;rw[E];exact hw,λ m _ z=>absurd z (bq _)⟩
  ·rw[ak hw]at a
   cases c:QF x ws with
   |none=>rw[c]at a;cases a|some k=>
    rw[c]at a;cases a;exact(R8 q e t b.2 c).2.succ (by rw[E];exact Bool.eq_false_iff.mpr hw)
def CM (K:Frag):V->List V->Hp->VK->Prop:=λ x vs H Q=>∃a xs y j,x=.ref a/\vs=[y]/\qD K H a xs/\kZ y=true/\xs.all kZ=true/\KO y xs j/\Q (.int j) H
theorem VN {y:V}:∀{xs:List V}{us:List Value},Vals xs us->xs.all kZ=true->∀m (h:m<xs.length) (h':m<us.length),Zp y us[m]=wD xs[m] y
 |_,_,.nil,_,m,h,_=>absurd h (bq _)|_,_,.cons r t,hf,m,h,h'=>by
  rw[List.all_cons,aj]at hf;cases m with
  |zero=>exact Up r hf.1|succ m=>exact VN t hf.2 m (bh h) (bh h')
theorem HF:K0 X "tuple.index" (CM X.K):=by
 intro pins s σ H x vs v us Q I b d h;obtain⟨a,xs,y,j,rfl,rfl,t,w,f,⟨l,g,J⟩,q⟩:=h;cases b;obtain⟨u,rfl,e⟩:=d.one;obtain⟨i,r,pp,_⟩:=I.tuple t;obtain⟨⟨cls,dd,data,S⟩,o,c,n,hd⟩:=id pp;simp only at c hd;subst c hd;have A:=r.length;refine call_meets F.slot_tuple_index ⟨_,o,rfl⟩ F.entry_tuple_index (F.args_tuple_index_2 _ _) (SeqAt.LJ a i.toArray n dd S u (Zp y) j (by simp;omega) ?_ ?_) ⟨o,λ z p=>WA e w r f z (by simpa using p),⟨.int _,H,I.tok _,⟨_,rfl⟩,q⟩⟩
 ·have:=VN (y:=y) r f j l (by omega)
  rw[g]at this;simpa using this
 ·intro m hm z
  have:=VN (y:=y) r f m (by simp at hm;omega) (by simpa using hm)
  rw[J m (by simp at hm;omega) z]at this
  simpa using this
end
open PySem PySem.Spec PyProof.Rows L2 Mi
@[irreducible] noncomputable def Xh (X:Cx)(x:XR)(e:List Expr)(ms:List Ev):Prop:=Mi.SJ X x e ms
theorem O2:@Xh=@Mi.SJ:=by
 funext X xr es ms
 unfold Xh
 rfl
section
theorem yM:@zD=@Mi.SE/\@wU=@Mi.SA/\@yI=@Mi.ST/\@gR=@Mi.SW/\@kf=@Mi.SS/\@kx=@Mi.YC/\@wb=@Mi.SI/\@wB=@Mi.SG/\@Qi=@Mi.SF/\@gx=@Mi.SQ/\@Zh=@Mi.Yy/\@gQ=@Mi.SM/\@Xh=@Mi.SJ:=⟨Gs,V5,Uu,Uj,Us,VT,Uh,V3,Um,Uo,VM,Ui,O2⟩
theorem ki {g:Heap}{E:List Expr}{k:Nat}{f:Fn}(o:Zi X g xr)(F:qF X.prog X.w X.K X.mg X.base k x n f)(i:ju k X.A)(B:wU X xr (e::E) mr)(j:ZI mr n:=by repeat' (first|exact zE|refine zp ?_))(t:Gl X x:=by rfl)
  (c:(x==("__debug__" : Str))=false:=by decide)(he:starEach (e::E) X.env=(false,eval e X.env)::starEach E X.env:=by rfl)(l:(backTo pos (starEach E X.env)).any (·.1)=false:=by rfl):
  zD X xr (.Call (.Name x p) (e::E) [] pos) (zF f mr):=by
 try simp only[yM]at*
 obtain⟨N,fd,ps,F,hm,s,u⟩:=F;refine PE.imp (OO F i t hm s u .nil o.passes B c he l) λ σ H Q ⟨φ,A,ρ,S,re,h⟩=>?_;have h':=zW.mp h;refine⟨φ,A,ρ,S,re,?_⟩;cases r:mr ρ A with
 |ok ws A1=>
  rw[r]at h';intro b H1 vs L I q;have v:vs.length=n:=by rw[<- q.length];exact j ρ A ws A1 r
  rw[bo];refine⟨v,b,A1,ws,I,q,qt h' (λ _ _ z=>z.mono L) λ y A2 z a J d D M C=>?_⟩;exact⟨y,M,rfl,C,z a J (L.trans d) D⟩
 |exc y A1=>rw[r]at h';exact h'|bad=>rw[r]at h';exact h'
theorem WY {m:Ev}(h:yI X.nox yc e m):yI X xr e λ ρ A=>(m ρ A).nox:=by
 try simp only[yM]at*
 refine PT.imp (PT.nox h) λ σ H Q ⟨φ,A,ρ,S,re,q⟩=>⟨φ,A,ρ,S,re,?_⟩;cases E:m ρ A with
 |ok w A1=>(try dsimp only at q);rw[E]at q;exact q|exc y A1=>(try dsimp only at q);rw[E]at q;exact q.elim|bad=>(try dsimp only at q);rw[E]at q;exact q.elim
theorem VB {m1:Ex}{s:List Stmt}(h:kx X.nox yc s m1):kx X xr s λ ρ A=>(m1 ρ A).nox:=by
 try simp only[yM]at*
 refine yQ.imp (yQ.nox h) λ D σ H ⟨φ,A,ρ,S,re,q⟩=>⟨φ,A,ρ,S,re,?_⟩;cases e:m1 ρ A with
 |ok w A1=>(try dsimp only at q);rw[e]at q;exact q|exc y A1=>(try dsimp only at q);rw[e]at q;exact q.elim|bad=>(try dsimp only at q);rw[e]at q;exact q.elim
theorem Wr {g:Heap}{E:List Expr}{top:Str}{np:Pos}(o:Zi X g xr)(c:Vx X.K top x)(d:wU X xr (e::E) mr)(l:ZI mr n:=by repeat' (first|exact zE|refine zp ?_))(hn:n<=sizeLine:=by decide)(a:Gl X x:=by rfl)(h:X.calm=true:=by rfl)
  (b:(x==("__debug__" : Str))=false:=by decide)(he:starEach (e::E) X.env=(false,eval e X.env)::starEach E X.env:=by rfl)(H:(backTo cpos (starEach E X.env)).any (·.1)=false:=by rfl):
  kf X xr (.Raise (some (.Call (.Name x np) (e::E) [] cpos)) none pos) (J9 x mr):=by
 try simp only[yM]at*
 exact Ew o c.at_ c.exc PySem.F.excBase_ValueError d l hn a h b he H
theorem Yt {K:Frag}{st:Stmt}{k:Nat}{m:Ex}(F:kN K x x st f fd)(hm:mg x=some (.ref f))(S:qN N ps (qg st))
  (j:∀(kV doc pm:Value)(an:Option Addr)(c ct:Value)(us:List Value),us.length=ps.length->bindArgs (fnOf x x (ZY st) (yn st) (qg st) .none kV doc pm an c ct) ⟨us,[]⟩=pure (ps.zip us))
  (a:∀(c:Value)(A:Around)(outer:List Env)(s:Shared)(H:Hp)(E:XK),ju k (A.deeper (envOfC x (qg st) s.heap.objs.size f c))->
   Zi (wt (gT P w) P w K mg base N x (qg st) f c A outer s H E) s.heap (Zn K E)->kx (wt (gT P w) P w K mg base N x (qg st) f c A outer s H E) (Zn K E) (yn st) m):
  qF P w K mg base (k+1) x ps.length (gk N.length m):=by
 try simp only[yM]at*
 refine⟨f,fd,ps,?_,hm,F.kp,F.binds j⟩;obtain⟨t,od,kV,doc,pm,an,c,ct,o,rfl,lk,d⟩:=F.ex;refine UI lk d S (λ vs H Q E h=>h.len) λ A outer s H vs Q E i ⟨u,φ,A1,ws,Sm,r,h⟩=>⟨_,a c A outer s H E i zcu,?_⟩;refine⟨φ,A1,ws.map some++List.replicate (N.length - ws.length) none,Sm,RE.start r,?_⟩;have h':=zW.mp h;show R.post _ (FB K φ H _) _;cases e:m (ws.map some++List.replicate (N.length - ws.length) none) A1 with
 |ok n A2=>
  rw[e]at h';cases n with
  |rt w=>exact h'|nx ρ=>exactλ b q g l p _=>h' b q .non l p rfl|bk ρ=>exact h'.elim|ct ρ=>exact h'.elim
 |exc y A2=>rw[e]at h';exact h'|bad=>rw[e]at h';exact h'.elim
theorem Bp {L:Addr}{l:Nat}{n:Str}{y:Str}{Z:Str}{cs:List Str}{PG:Nat->Obj->Addr->Obj->List V->Prop}{lam:Nat->Fn}{U:List Value}{newD:String}{np:Pos}{cp:Pos}{ep:Pos}{dp:Pos}{yp:Pos}{J:Pos}{ap:Pos}{hp:Pos}(hL:∀k,ZF X.prog X.w X.K X.mg X.base kk (PG k) (lam k))(hr:ju kk X.A)(hst:X.stack=X.env::X.outer)(hFr:X.env.frame=some L)(hD:yW X.K Z (.ref D))(exD:Mi.Zl X.K D U newD=true)(hbD:U.contains (.type "BaseException")=true)
  (hcs:∀c,cs.contains c=true->∀C,yW X.K c (.ref C)->∃B f,Mi.Zl X.K C B f=true/\Jl X.K C D=true)
  (hN:X.N.Nodup)(hi:X.N[i]? =some x)(hx:X.env.scope.names.lookup x=some .local)(hl:X.N[l]? =some n)(hn:X.env.scope.names.lookup n=some .local)(hj:X.N[j]? =some y)(hy:X.env.scope.names.lookup y=some .local)
  (hg:Gl X Z)(hs1:swapsWith (.Call (.Name x np) [] [] cp) none ep.line X.env=pure false:=by rfl)(hs2:swapsWith (.Name n J) (some (.Name y yp)) ap.line X.env=pure false:=by rfl)
  (hdx:(x==("__debug__" : Str))=false:=by decide)(hdn:(n==("__debug__" : Str))=false:=by decide)(hdD:(Z==("__debug__" : Str))=false:=by decide):
  kf X xr (.Try [.Expr (.Call (.Name x np) [] [] cp) ep] [.ExceptHandler (some (.Name Z dp)) (some n) [.Assign [.Name y yp] (.Name n J) ap] hp] [] [] pos) (KA i j l cs PG lam):=by
 try simp only[yM]at*
 intro pins s σ H D0 I ⟨φ,A,ρ,S,re,h⟩;unfold KA G2 at h;cases ei:ρ[i]? with
 |none=>rw[ei]at h;exact h.elim|some ow=>
  cases ow with
  |none=>rw[ei]at h;exact h.elim|some w=>
   rw[ei]at h;cases w with
   |clo k ws P=>
    dsimp only at h
    by_cases hP:P=PG k
    ·rw[ag hP]at h
     subst hP;obtain⟨v,hv,a,ob,u,c,oc,uc,vs,rfl,h1,h2,hp',rvs⟩:=re.get i _ ei;obtain⟨⟨fd0,hfd⟩,fd,F,hb⟩:=hL k a ob u c oc uc vs hp';have ho:s.heap.get? a=some ob:=(show jd X.prog X.w H s.heap a (.frz ob u) from I.hok a _ h1).1
     refine BM (i:=l) (L:=L) (k:=zcd X.K φ H ρ j l D0)
      I hst hFr hD exD hbD hN hl (.inl hn) ?body ?t hg hdD (.inr hn)
     case body=>
      refine wpAny_execs_cons (wpAny_Expr_any ?_ I.quiet hs1);obtain⟨m,hns,Q⟩:=I.loc;obtain⟨u',r',lk⟩:=Q i x (.ref a) hi hv (.inl hx);obtain rfl:u'=Value.ref a:=r';have hm:m x=some (.ref a):=by
       rcases lk with ⟨_,e⟩|⟨q|q,_⟩
       ·exact e
       ·rw[show X.env.kindOf x=some .local from hx]at q;cases q
       ·rw[show X.env.kindOf x=some .local from hx]at q;cases q
      refine wpAny_Call_Name_kw (wpAny_Name (wpAny_loadName_local I.ok.kind hx hns hm ?_) hdx);have hK:Frag.In [(a,ob)] s.heap:=λ b o e=>by
       rw[lookup_cons]at e
       by_cases hb:b=a
       ·subst hb;simp at e;subst e;exact ho
       ·have:(b==a)=false:=by simpa using hb
        rw[this]at e;cases e
      have hkp:keepIn [(a,ob)] (.ref a)=true:=by
       unfold keepIn;obtain⟨o1,o2,o3,o4⟩:=ob;cases (show o3=_ from hfd)
       simp[lookup_cons]
      refine PySem.W.callWith_K0 (K:=[(a,ob)]) (first:=[]) hK hkp ?_;refine wpAny_call (codeAny_mono (F.run X.A X.stack s H ⟨[],[]⟩ [] [] (λ _ H1=>D0.nx σ H1)
       (zb5 X.K φ H ρ j l D0 cs)
       hr I.env0 (hb s) .nil ⟨rfl,h1,h2,φ,A,ws,S,rvs,?_⟩) λ r s' p=>?_)
      ·cases er:lam k ws A with
       |ok w1 A1=>
        rw[er]at h;exactλ d H' v' z Y _=>h d H' σ z Y (re.mono z)
       |exc E A1=>
        rw[er]at h;dsimp only at h
        by_cases T:cs.contains E=true
        ·rw[ag T]at h
         exactλ d H' z Y Ca g=>⟨E,Ca,rfl,g,T,d,A1,z,Y,h⟩
        ·rw[ak T]at h;exact h.elim
       |bad=>rw[er]at h;exact h.elim
      ·cases r with
       |error e=>
        unfold CR at p;dsimp only at p;have un:∀b o,s.heap.get? b=some o->∃o',s'.heap.get? b=some o':=by
         obtain⟨_,_,_,_,_,_,un,_⟩:=p;exactλ b o e=>un.there b o e (by simp)
        obtain⟨ea,C,H',rfl,I',ly,tr,E,Ca,ec,g,T,φ1,A1,l1,S1,hn1⟩:=RY I p s.heap λ b o e=>⟨o,e⟩;cases ec;obtain⟨B,f,exC,up⟩:=hcs E T C g;exact⟨ea,C,H',B,f,rfl,I',ly,tr,un,exC,up,λ oe hoe M=>⟨E,φ1,A1,l1.trans (Le.new M),S1.lay M,⟨ea,oe,.own 0,C,rfl,jD,hoe,g⟩,hn1⟩⟩
       |ok fl=>
        cases fl with
        |ret u1=>
         obtain⟨v1,H1,I1,_,q1⟩:=I.after p;exact wpAny_execs_nil ⟨rfl,σ,H1,I1,q1⟩
        |next=>exact False.elim p|brk=>exact False.elim p|cont=>exact False.elim p
     case t=>
      rintro ea C H2 s2 I2 ⟨E,d,A',z,Y,rx,hn'⟩ E'
      refine Ho (i:=l) (j:=j) I2 hN hl hj hn (.inl hy) (λ s' I'=>?_) hs2 (.inr hy) hdn;exact⟨_,H2,I',hn' d H2 _ z Y ((((re.mono z).set rx).set rx).unset)⟩
    ·rw[ak hP]at h;exact h.elim
   |_=>exact h.elim
theorem wg {m:Ev}{P:Pos}{f:Str->Option Bool}{C:Addr}(c:Kt X.K f (.ref C))(i:yW X.K x (.ref C))(hm:X.mg "isinstance" = none)(j:zD X xr e m)(g:Gl X "isinstance" := by rfl)(a:Gl X x:=by rfl)(hd:(x==("__debug__" : Str))=false:=by decide)
  (b:starEach [e,.Name x P] X.env=(false,eval e X.env)::starEach [.Name x P] X.env:=by rfl)(l:(backTo pos (starEach [.Name x P] X.env)).any (·.1)=false:=by rfl):
  zD X xr (.Call (.Name "isinstance" p) [e,.Name x P] [] pos) (jf f m):=by
 try simp only[yM]at*
 have d:PE X (.Name x P) (tC (.ref C)):=λ pins s σ H Q I h=>J3 I a (aX I.mod.kin I.mod.glob i) ⟨.ref C,H,I,rfl,h⟩ hd;exact PE.imp (Qs (PK (cv:=.ref C) c λ u r=>r) g hm (by rfl) (jm j (jm d j9) b) (by decide) (by decide) b l) (jf.read λ σ H Q h=>h)
theorem Ed {m:Ev}{P:Pos}{f:Str->Option Bool}{T:String}(d:Kt X.K f (.type T))(hm:X.mg "isinstance" = none)(a:X.mg x=none)(i:bootBuiltins x=some (.type T))(j:zD X xr e m)(g:Gl X "isinstance" := by rfl)(b:Gl X x:=by rfl)(hn:x ≠ "__name__" := by decide)(hd:(x==("__debug__" : Str))=false:=by decide)
  (c:starEach [e,.Name x P] X.env=(false,eval e X.env)::starEach [.Name x P] X.env:=by rfl)(l:(backTo pos (starEach [.Name x P] X.env)).any (·.1)=false:=by rfl):
  zD X xr (.Call (.Name "isinstance" p) [e,.Name x P] [] pos) (jf f m):=by
 try simp only[yM]at*
 exact PE.imp (Qs (PK (cv:=.ty T) d λ u r=>r) g hm (by rfl) (jm j (jm (WU b a i (v:=.ty T) rfl hn hd) j9) c) (by decide) (by decide) c l) (jf.read λ σ H Q h=>h)
theorem ZV {k:Nat}{q:Str}{t:Lm}(d:ls[k]? =some t)(L:GG X.N X.env.scope t=true)(B:BMain X.mg X.base)(a:X.env.code=.ref c)(C:CodeHd X.base c Pt)(g:X.env.qual ++ "<lambda>" = q)(f:defaultsOf t.params X.env=([],[])):
  zD X xr (.Lambda t.params t.body t.scope pos) (j6 n q Pt k (kh X.env q ls k)):=by
 try simp only[yM]at*
 intro pins s σ H Q I h;rw[BB d]at h;exact Aw B a C (RO λ y b e=>I.ok.has _ ((Oi L).free y b e)) g f pins s σ H Q I h
theorem DD {nl:Nat}{q:Str}{f:Str}{RF:Nat->List W->Hx->R W}{u:Pos}{p3:Pos}{P:Pos}(M:∀x,X.fn x=true)(hl:∀t∈ls,kI X.prog X.w X.K X.mg j q t)(B:∀t∈ls,Qe X t)
  (hR:∀base PG,(∀k,ZF X.prog X.w X.K X.mg base (j+1) (PG k) (jS ls k))->zL X.prog X.w X.K X.mg base kk f 1 (gO PG RF))(hr:ju kk X.A)(hc:X.calm=true)(S:Zb X sc)(d:Z7 X.N N sc nl []=true)(hw:wb X xr (.Name x P) iter mi)
  (E:∀s H fp,wB (jk X N sc s H fp jR) (.Name x P) tw)(hi:N[i]? =some x)(hv:YE (relabel sc X.env) x)(hg:∀s H fp,Gl (jk X N sc s H fp jR) f)(U:(x==("__debug__" : Str))=false:=by decide)(Z:(x==("__classdict__" : Str))=false:=by decide)(Y:(f==("__debug__" : Str))=false:=by decide)
  (he:∀env:Env,starEach [.Name x u] env=(false,eval (.Name x u) env)::starEach [] env:=by intro _;rfl)(y:∀env:Env,(backTo p3 (starEach [] env)).any (·.1)=false:=by intro _;rfl)
  (hs:∀x,foldedSetIterable iter X.env x=pure x:=by intro _;rfl):
  zD X xr (.ListComp (.Call (.Name f p) [.Name x u] [] p3) [⟨.Name x P,iter,[],0⟩] sc pos) (qp (Kw nl mi tw i (kh X.env q ls) ls RF)):=by
 try simp only[yM]at*
 intro pins s σ H Q I h;obtain⟨φ,A,ρ,Sm,re,h⟩:=qp.read σ H Q h;rw[eval_ListComp];refine VZ (use:=none) (N:=N) (nl:=nl) (cap:=[]) (wi:=tI X.K xr mi) (g:=tG X.K tw) (ti:=tT X.K yc (zi (.bl true))) (tm:=Td (λ φ H=>RE X.K φ H ρ σ) X.K (zK (Ql i (kh X.env q ls) ls RF ρ))) hc S d (λ g' z=>by cases z) hw
  (λ s3 H3 fp I3 f3=>⟨E s3 H3 fp,Mi.OH,CI (λ _ _ z=>z) (DQ I3 f3 M hl B hR hr hi hv (hg s3 H3 fp) U Z Y (he _) (y _)) rfl⟩) I (Q:=Q) ?T (λ D C s' H' m I' q hn h1 h2 h3 h4 h5=>?_) hs
 case T=>
  refine⟨φ,A,ρ,Sm,re,qt (zW.mp h) (λ jt A1 h1 c H1 J L S1 jr D n hK=>?_) λ _ _ z=>z⟩;have ln:Le X.K c H1 c (upd H1 D (.lst [])):=Le.new n;have a:=zW.mp h1;refine qR.readG (λ φ H φ' H' l g=>RE.monoW g l) (re.mono (L.trans ln)) (jr.mono ⟨ln.ex,ln.tp,ln.fz⟩) (S1.lay n) ((re.mono (L.trans ln)).Zk) jD (S1.notin n hK) .nil ?_ (f:=jt.len) (acc:=[]);cases er:qR jt tw (zi (.bl true)) (zK (Ql i (kh X.env q ls) ls RF ρ)) jt.len 0 (Z6 nl [] ρ) [] A1 with
  |ok p A2=>
   rw[er]at a;intro r H2 σ2 zs l2 n2 S2 re2 d2 r2;have v:=L.trans (Le.ofD n l2);exact a r H2 D zs v S2 (L.st D n) d2 n2 r2
  |exc x A2=>rw[er]at a;exact a.elim|bad=>rw[er]at a;exact a.elim
 ·exact⟨m,hn,λ h' sb=>⟨.ref D,H',I'.turned (t':=s'.toks) (λ b o hb e=>(sb.2 b hb).trans e) h1 h2 (.inr h3) h4 h5,rfl,q⟩⟩
theorem DT {m:Ev}{b:Pos}{P:Pos}{pt:Pos}{x1:Str}{x2:Str}{kt:Nat}(t T:Ty)(hm:X.mg "isinstance" = none)(o:X.mg x1=none)(n:X.mg x2=none)(g:bootBuiltins x1=some (.type t.nm))(f:bootBuiltins x2=some (.type T.nm))(B:zD X xr e m)(z:Gl X "isinstance" := by rfl)(r:Gl X x1:=by rfl)(q:Gl X x2:=by rfl)
  (j:x1 ≠ "__name__" := by decide)(s:(x1==("__debug__" : Str))=false:=by decide)(i:x2 ≠ "__name__" := by decide)(hd2:(x2==("__debug__" : Str))=false:=by decide)
  (h0:starEach [.Name x1 b,.Name x2 P] X.env=(false,eval (.Name x1 b) X.env)::starEach [.Name x2 P] X.env:=by rfl)(u:starEach [.Name x2 P] X.env=(false,eval (.Name x2 P) X.env)::starEach [] X.env:=by rfl)
  (a:starEach [e,.Tuple [.Name x1 b,.Name x2 P] kt pt] X.env=(false,eval e X.env)::starEach [.Tuple [.Name x1 b,.Name x2 P] kt pt] X.env:=by rfl)(C:(backTo pos (starEach [.Tuple [.Name x1 b,.Name x2 P] kt pt] X.env)).any (·.1)=false:=by rfl):
  zD X xr (.Call (.Name "isinstance" p) [e,.Tuple [.Name x1 b,.Name x2 P] kt pt] [] pos) (G1 t T m):=by
 try simp only[yM]at*
 exact PE.imp (Qs Dl z hm (by rfl) (jm B (jm (Nb (jm (WU r o g (v:=.ty t.nm) rfl j s) (jm (WU q n f (v:=.ty T.nm) rfl i hd2) j9 u) h0)) j9) a) (by decide) (by decide) a C) λ σ H Q ⟨φ,A,ρ,S,re,h⟩=>by
   refine tM.go S re (zW.mp h) λ w A1 d H1 v a L x y=>?_;cases E:jw w A1 with
   |none=>rw[E]at a;exact a.elim|some t'=>
    rw[E]at a;refine⟨by show 2<=sizeLine;decide,λ l c=>⟨v,t',l,rfl,qD.of jD,?_,a d _ _ (L.trans (Le.new c)) (x.lay c) rfl⟩⟩
    exact P4 (x.lay c) (y.mono (Le.new c)) E
theorem C2 {m:Ev}(he:zD X xr e m)(g:wB X tg tw)(f:swapsWithSole [tg] e pos.line X.env=pure false:=by rfl)(hw:swappedStores [tg] e X.env=pure none:=by rfl)(a:(assignEach [tg] X.env).map (·.2)=[assign tg X.env]:=by rfl):kf X xr (.Assign [tg] e pos) (GU m tw):=by
 try simp only[yM]at*
 exact PS.imp (O1 he g f hw a) λ D σ H ⟨φ,A,ρ,S,re,h⟩=>by
   refine tM.go S re (zW.mp h) λ w A1 b H1 v a l s q=>?_;cases E:tw w ρ with
   |none=>rw[E]at a;exact a.elim|some d=>
    rw[E]at a;exact⟨b,A1,ρ,w,d,s,re.mono l,q,E,λ c r=>a b H1 c l s r⟩
theorem Oe {a:Expr}{b:Expr}{ma:Ev}{mb:Ev}{pt:Pos}{kt:Nat}(i j:Nat){y:Str}{P py p:Pos}{k2:Nat}(u:X.calm=true)(E:X.N.Nodup)(C:zD X xr a ma)(B:zD X xr b mb)(t:X.N[i]? =some x:=by rfl)(r:X.N[j]? =some y:=by rfl)(d:i≠j:=by decide)
  (o:X.env.scope.names.lookup x=some .local:=by rfl)(n:X.env.scope.names.lookup y=some .local:=by rfl)
  (hw:swappedStores [.Tuple [.Name x P,.Name y py] kt pt] (.Tuple [a,b] k2 p) X.env=pure (some [x,y]):=by rfl)
  (s:swapsWithSole [.Tuple [.Name x P,.Name y py] kt pt] (.Tuple [a,b] k2 p) pos.line X.env=pure false:=by rfl)
  (f:starEach [a,b] X.env=(false,eval a X.env)::starEach [b] X.env:=by rfl)(e:starEach [b] X.env=(false,eval b X.env)::starEach [] X.env:=by rfl):
  kf X xr (.Assign [.Tuple [.Name x P,.Name y py] kt pt] (.Tuple [a,b] k2 p) pos) (Ys i j ma mb):=by
 try simp only[yM]at*
 exact PS.imp (AV u E t r d o n (jm C (jm B j9 e) f) hw s) λ D σ H ⟨φ,A,ρ,S,re,h⟩=>by
   refine tM.go S re (zW.mp h) λ w A1 g H1 v f l J Q=>?_;refine tM.go J (re.mono l) (qt (zW.mp f) (λ _ _ z=>z) λ _ _ z=>z.mono l) λ M A2 c K v2 e L I q=>?_;exact⟨v,v2,rfl,e c K _ (l.trans L) I (((re.mono (l.trans L)).set (Q.mono L)).set q)⟩
end
section
theorem Wy {q:Str}{E:List Expr}{f0:Fn}{N:jE->Fn}(g:∀x,X.fn x=true)(hl:∀t∈ls,kI X.prog X.w X.K X.mg j q t)(f:∀t∈ls,Qe X t)
  (hR:∀base PG,(∀k,ZF X.prog X.w X.K X.mg base (j+1) (PG k) (jS ls k))->zL X.prog X.w X.K X.mg base kk x n (N PG))(hF:∀PG us A,f0 us A=.bad∨N PG (us.map (GH PG)) A=f0 us A)(hr:ju kk X.A)
  (ha:wU X yc (e::E) mr)(hn:ZI mr n:=by repeat' (first|exact zE|refine zp ?_))(hg:Gl X x:=by rfl)(L:(x==("__debug__" : Str))=false:=by decide)
  (he:starEach (e::E) X.env=(false,eval e X.env)::starEach E X.env:=by rfl)(C:(backTo pos (starEach E X.env)).any (·.1)=false:=by rfl):
  zD X yc (.Call (.Name x p) (e::E) [] pos) (wI ls (kh X.env q ls) f0 mr):=by
 try simp only[yM]at*
 intro pins s σ H Q I ⟨φ,A,ρ,S,re,h⟩;obtain⟨fa,fd,ps,F,hm,hk,hb⟩:=hR _ _ (PQ I g hl f).2;refine wpAny_Call_Name_kw (J3 I hg hm ?_ L);have h':=zW.mp h;refine callWith_K (h₀:=X.base) I.ok.mod.kin hk (zV (ha pos pins s σ H (λ vs H1=>∃a A1 ws us,Le X.K φ H a H1/\zM X.K a A1 H1/\zG X.K a H1 ws vs/\ws.length=n/\gK ls (kh X.env q ls) ρ ws=some us/\(f0 us A1).post (PB X.K a H1 Q) (EB X.K a H1 yc)) I ⟨φ,A,ρ,S,re,?_⟩) λ us s1 ⟨vs,H1,o,Z,a,A1,ws,u,l,U,Y,B,hc,D⟩=>⟨o.kIn,?_⟩) he C
 ·cases i:mr ρ A with
  |ok ws A1=>
   rw[i]at h';intro a H1 vs l U q1;have h':(match gK ls (kh X.env q ls) ρ ws with|some us=>f0 us A1|none=>.bad).post (PB X.K φ H Q) (EB X.K φ H yc):=h'
   cases T:gK ls (kh X.env q ls) ρ ws with
   |none=>rw[T]at h';exact h'.elim|some us=>
    rw[T]at h';refine⟨a,A1,ws,us,l,U,q1,hn ρ A ws A1 i,T,qt h' (λ _ _ z=>z.mono l) λ y A2 z=>z.mono l⟩
  |exc y A1=>rw[i]at h';exact h'|bad=>rw[i]at h';exact h'
 ·obtain⟨e0,hL⟩:=PQ (q:=q) o g hl f
  obtain⟨fa',fd',P,F',d,hk',M⟩:=hR _ _ hL;rw[hm]at d;cases d;have b:Zr X.K n (N (Qh X.env q ls σ)) vs H1 Q E0:=by
   refine⟨by rw[<- Y.length];exact B,a,A1,u.map (GH (Qh X.env q ls σ)),U,RQ (re.mono l) hc Y,?_⟩
   rcases hF (Qh X.env q ls σ) u A1 with z|z
   ·rw[z]at D;exact D.elim
   ·rw[z]
    exact qt D (λ _ _ z=>z) λ y A2 z v H2 l2 S2=>(z v H2 l2 S2).elim
  have J:=F'.len _ _ _ _ b;have hu:us.length=P.length:=by rw[<- Z.length];exact J
  refine wpAny_call (codeAny_mono (F'.run X.A X.stack s1 H1 ⟨[]++us,[]⟩ us vs Q E0 hr e0 ?_ Z b) λ r s2 c=>?_)
  ·have:=M s1 us o.kIn (by rw[bo];exact hu)
   rw[bo]at this;exact this
  ·cases r with
   |error e=>exact False.elim c|ok fl=>
    cases fl with
    |ret u1=>exact o.after c|next=>exact False.elim c|brk=>exact False.elim c|cont=>exact False.elim c
end
theorem HE {a:Expr}{b:Expr}{ma:Ev}{mb:Ev}{k:Nat}(r:ju k X.A)(o:zD X xr a ma)(he:zD X xr b mb)(s:starEach [b] X.env=(false,eval b X.env)::starEach [] X.env:=by rfl)
  (e:attributeBase a "index" X.env (eval a X.env)=eval a X.env:=by rfl)
  (w:((backTo cpos (starEach [b] X.env)).all (λ x=>!x.1)&&(backToKw cpos (keywordEach [] X.env)).all (λ x=>x.1.isSome)
   && decide ([b].length+([]:List Keyword).length+(if ([]:List Keyword).isEmpty then 0 else 1)<30))=true:=by rfl)(h:(apos.endLine==cpos.line)=true:=by rfl):
  zD X xr (.Call (.Attribute a "index" apos) [b] [] cpos) (jQ ZC ma mb):=by
 try simp only[yM]at*
 exact UK PySem.F.slot_list_index PySem.F.type_list_index (Fs r.units) Dk (λ φ A H x y u v Q S i q p=>by
   unfold ZC at p;cases E:qh A 8 u with
   |none=>rw[E]at p;exact p.elim|some D=>
    cases g:qh A 8 v with
    |none=>
     rw[E,g]at p;cases D<;>exact p.elim
    |some d=>
     rw[E,g]at p;cases D with
     |list ds=>
      dsimp only at p;cases f:ZE (λ z=>PyData.eqv z d) ds with
      |none=>rw[f]at p;exact p.elim|some j=>
       rw[f]at p;dsimp only at p
       by_cases c:j<1000000
       ·rw[ag c]at p
        exact⟨φ,A,u,v,y,d,ds,j,rfl,S,i,q,E,g,f,c,p φ H _ .refl S rfl⟩
       ·rw[ak c]at p;exact p.elim
     |_=>exact p.elim) o he s e w h
theorem IJ {m:Ev}{P pos':Pos}(B:X.calm=true)(hm:X.mg "sorted" = none)(d:X.mg "set" = none)(T:zD X xr e m)(N:Gl X "sorted" := by rfl)(g:Gl X "set" := by rfl)(y:starEach [e] X.env=(false,eval e X.env)::starEach [] X.env:=by rfl)
  (c:starEach [.Call (.Name "set" P) [e] [] pos'] X.env=(false,eval (.Call (.Name "set" P) [e] [] pos') X.env)::starEach [] X.env:=by rfl):
  zD X xr (.Call (.Name "sorted" p) [.Call (.Name "set" P) [e] [] pos'] [] pos) (WS m):=by
 try simp only[yM]at*
 exact PE.imp (Qs (Ia B) N hm (by rfl) (jm (JJ (FA B) g d (by rfl) (jm T j9 y) (by decide) (by decide) y (by rfl)) j9 c) (by decide) (by decide) c (by rfl)) λ σ H Q ⟨φ,A,ρ,S,re,h⟩=>by
   refine tM.go S re (zW.mp h) λ w A1 b H1 v a J t D=>?_;cases w with
   |ref n=>
    unfold VF at a;dsimp only at a;cases E:A1[n]? with
    |none=>rw[E]at a;exact a.elim|some u=>cases u with
     |lst ws=>
      rw[E]at a;dsimp only at a;obtain⟨x,ys,rfl,Y,eH,C⟩:=t.lst D E;cases j:intsOf ws with
      |none=>rw[j]at a;exact a.elim|some is=>
       rw[j]at a;dsimp only at a;have Z:=Vn j;subst Z;have ev:=zG.ints.mp C;subst ev;cases s:Qx is with
       |none=>rw[s]at a;exact a.elim|some vs=>
        rw[s]at a;dsimp only at a;obtain⟨e3,U⟩:=Pm s;have q:H1 x=some (.lst (vs.map λ (v:Nat)=>V.int (v:Int))):=by rw[eH,e3,aQ];rfl
        refine⟨x,vs,rfl,ji.of q,U,λ l z=>⟨l,vs.foldl yP 0,rfl,jD,λ I f=>?_⟩⟩;have ln:Le X.K b H1 b (upd H1 l (.ext λ h=>yO h l (jV X.w) (vs.foldl yP 0))):=Le.new z;have S2:=t.lay (u:=.ext λ h=>yO h l (jV X.w) (vs.foldl yP 0)) z;have r:∀(ψ:List Addr)(G:Hp),zG X.K ψ G (((List.range 8).filter λ i=>decide (i∈vs)).map λ (i:Nat)=>W.int (i:Int)) ((qe (vs.foldl yP 0)).map λ (v:Nat)=>V.int (v:Int)):=λ ψ G=>by
         rw[FH];have e4:∀l:List Nat,zG X.K ψ G (l.map λ (i:Nat)=>W.int (i:Int)) (l.map λ (v:Nat)=>V.int (v:Int)):=λ l=>by
          induction l with
          |nil=>rfl|cons i l M=>exact⟨_,_,rfl,rfl,M⟩
         exact e4 _
        obtain⟨L,S3⟩:=S2.alloc (o:=.lst (((List.range 8).filter λ i=>decide (i∈vs)).map λ (i:Nat)=>W.int (i:Int))) f (u:=.lst ((qe (vs.foldl yP 0)).map λ (v:Nat)=>V.int (v:Int))) ⟨_,jD,r _ _⟩;exact a _ _ _ (J.trans (ln.trans L)) S3 ⟨I,rfl,by rw[<- t.len];simp⟩
     |_=>rw[E]at a;exact a.elim
   |_=>exact a.elim
theorem Ds {a:Expr}{b:Expr}{ma:Ev}{mb:Ev}(c:X.calm=true)(hm:X.mg "sum" = none)(e:zD X xr a ma)(d:zD X xr b mb)(H:Gl X "sum" := by rfl)(g:starEach [a,b] X.env=(false,eval a X.env)::starEach [b] X.env:=by rfl)
  (f:starEach [b] X.env=(false,eval b X.env)::starEach [] X.env:=by rfl)(h:(backTo pos (starEach [b] X.env)).any (·.1)=false:=by rfl):
  zD X xr (.Call (.Name "sum" p) [a,b] [] pos) (zo Z4 ma mb):=by
 try simp only[yM]at*
 exact UA (FO c) DS Dc hm (by rfl) e d H (by decide) (by decide) g f h
theorem Hu {a:Expr}{b:Expr}{ma:Ev}{mb:Ev}{P pos':Pos}(I:X.calm=true)(hm:X.mg "list" = none)(o:X.mg "range" = none)(M:zD X xr a ma)(J:zD X xr b mb)(E:Gl X "list" := by rfl)(q:Gl X "range" := by rfl)(s:starEach [a,b] X.env=[(false,eval a X.env),(false,eval b X.env)]:=by rfl)(d:starEach [b] X.env=[(false,eval b X.env)]:=by rfl)
  (g:starEach [.Call (.Name "range" P) [a,b] [] pos'] X.env=(false,eval (.Call (.Name "range" P) [a,b] [] pos') X.env)::starEach [] X.env:=by rfl):
  zD X xr (.Call (.Name "list" p) [.Call (.Name "range" P) [a,b] [] pos'] [] pos) (Ke ma mb):=by
 try simp only[yM]at*
 exact PE.imp (JJ (II I) E hm (by rfl) (jm (Dd q o (jm M (jm J j9 (by rw[d];rfl)) (by rw[s,d])) s d) j9 g) (by decide) (by decide) g (by rfl)) λ σ H Q ⟨φ,A,ρ,S,re,h⟩=>by
   refine tM.go S re (zW.mp h) λ w A1 t H1 v N L S1 B=>?_;refine tM.go S1 (re.mono L) (qt (zW.mp N) (λ _ _ z=>z) λ _ _ z=>z.mono L) λ u A2 c n v2 e C Z y=>?_;cases w with
   |int i=>
    obtain rfl:=B;cases u with
    |int j=>
     obtain rfl:=y;dsimp only at e
     by_cases f:(j0 i&&(j0 j&&decide ((j - i).toNat<=zX)))=true
     ·rw[ag f]at e
      rw[aj,aj,ao]at f;refine⟨i,j,rfl,λ p r=>⟨p,i,j,rfl,jD,JH f.1,JH f.2.1,ZT f.2.2,λ l D=>?_⟩⟩;have ln:Le X.K c n c (upd n p (.rng i j)):=Le.new r;have x:zG X.K c (upd n p (.rng i j)) ((List.range (j - i).toNat).map λ (k:Nat)=>W.int (i+k)) (Jg i (j - i).toNat):=by
       have:=(zG.ints (K:=X.K) (φ:=c) (H:=upd n p (.rng i j)) (ns:=(List.range (j - i).toNat).map λ (k:Nat)=>(i+(k:Int))) (vs:=Jg i (j - i).toNat)).mpr (by unfold Jg;simp)
       rw[aQ]at this;exact this
      obtain⟨Y,U,T⟩:=Q9 (Z.lay r) D x;exact e _ _ _ (((L.trans C).trans ln).trans Y) U T
     ·rw[ak f]at e;exact e.elim
    |_=>exact e.elim
   |_=>exact e.elim
@[irreducible] noncomputable def Jq (X:Cx)(x:XR)(e:Option Expr)(p:Po):Prop:=Mi.SP X x e p
theorem zaq:@Jq=@Mi.SP:=by
 funext X xr e p
 unfold Jq
 rfl
theorem V6:@zD=@Mi.SE/\@wU=@Mi.SA/\@yI=@Mi.ST/\@gR=@Mi.SW/\@kf=@Mi.SS/\@kx=@Mi.YC/\@wb=@Mi.SI/\@wB=@Mi.SG/\@Qi=@Mi.SF/\@gx=@Mi.SQ/\@Zh=@Mi.Yy/\@gQ=@Mi.SM/\@Xh=@Mi.SJ/\@Jq=@Mi.SP:=⟨Gs,V5,Uu,Uj,Us,VT,Uh,V3,Um,Uo,VM,Ui,O2,zaq⟩
theorem Gj :Jq X xr none gZ:=by
 try simp only[V6]at*
 exact PO.imp Cz λ σ H Q ⟨φ,A,ρ,S,re,h⟩=>h φ H .refl S
theorem W3 {m:Ev}(c:zD X xr e m):Jq X xr (some e) (gN m):=by
 try simp only[V6]at*
 exact PO.imp (Bo c) λ σ H Q ⟨φ,A,ρ,S,re,h⟩=>by
  refine tM.go S re (zW.mp h) λ w A1 a H1 v b l s q=>?_;cases w with
  |int i=>obtain rfl:=q;exact⟨i,rfl,b a H1 l s⟩|_=>exact b.elim
theorem Gb {m:Ev}{lo n:Option Expr}{P pu:Po}{y:Pos}(he:zD X xr e m)(D:Jq X xr lo P)(B:Jq X xr n pu):zD X xr (.Subscript e (.Slice lo n none y) pos) (wu m P pu):=by
 try simp only[V6]at*
 exact PE.imp (F6 Cr he D B) λ σ H Q ⟨φ,A,ρ,S,re,h⟩=>by
   refine tM.go S re (zW.mp h) λ w A1 g H1 v I c N x=>?_;refine⟨g,A1,ρ,N,re.mono c,qt (zW.mp I) (λ l A2 E f T d M=>?_) λ _ _ z=>z.mono c⟩;refine⟨f,A2,ρ,M,(re.mono c).mono d,qt (zW.mp E) (λ u U i b o j s=>?_) λ _ _ z=>z.mono (c.trans d)⟩;have L:=(c.trans d).trans j;cases w with
   |tup ws=>
    obtain⟨a,vs,rfl,t,r⟩:=(x.mono d).mono j;have hlen:ws.length=vs.length:=r.length;refine⟨a,vs,rfl,t,λ hw=>?_,λ hw p C=>?_⟩
    ·refine i b o _ L s ⟨a,vs,rfl,t,?_⟩
     have:wz ws l u=ws:=by
      unfold wz;rw[hlen,hw.1,hw.2,Nat.sub_zero,List.drop_zero,<- hlen,List.take_length]
     rw[this];exact r
    ·have q:zG X.K b o (wz ws l u) (Ji vs l u):=by
      unfold wz Ji;rw[hlen];exact zG.take _ (zG.drop _ r)
     obtain⟨a1,a2,J⟩:=Q8 s C q;exact i _ _ _ (L.trans a1) a2 J
   |_=>exact i.elim
theorem QX {a b:Expr}{ma mb:Ev}(H:zD X xr a ma)(h:zD X xr b mb):zD X xr (.BinOp a .FloorDiv b pos) (zo gH ma mb):=by
 try simp only[yM]at*
 exact Ja Dj UJ (V0 EY λ _ _ _ _=>rfl) H h
theorem zaP {K:Frag}{q:Str}{st:Stmt}{k:Nat}{m:jE->Ex}(F:kN K x x st f fd)(hn:nsIn K mainGlobals x=some (some (.ref f)))(ht:tabIn K x=some (c,Pt))(hm:mg x=some (.ref f))(S:qN N ps (qg st))
  (hb:∀(kV doc pm:Value)(an:Option Addr)(cdv ct:Value)(us:List Value),us.length=ps.length->bindArgs (fnOf x x (ZY st) (yn st) (qg st) .none kV doc pm an cdv ct) ⟨us,[]⟩=pure (ps.zip us))
  (y:∀(A:Around)(outer:List Env)(s:Shared)(H:Hp)(E:XK),ju k (A.deeper (envOfC x (qg st) s.heap.objs.size f (.ref c)))->
   kx (wt wC P w K mg base N x (qg st) f (.ref c) A outer s H E).nox yc (yn st) (m (kh (envOfC x (qg st) s.heap.objs.size f (.ref c)) q ls))):
  zL P w K mg base (k+1) x ps.length (Yp q Pt λ PF=>qH N.length (m PF)):=by
 try simp only[yM]at*
 refine⟨f,fd,ps,(fnT (q:=q) (ls:=ls) (m:=m) F hn ht S y).imp λ vs H Q E ⟨hl,φ,A,ws,S,r,D⟩=>?_,hm,F.kp,F.binds hb⟩;have hx:∃r,G5 q Pt (λ PF=>qH N.length (m PF)) ws A r:=by
  apply Classical.byContradiction
  intro z;unfold Yp at D;rw[dif_neg z]at D;exact D.elim
 obtain⟨r0,J⟩:=hx;rw[Oq J]at D;obtain⟨n,us,xs,w0,zs,rfl,X,u,nx,nu,nz,nw,rfl,hg⟩:=J;obtain⟨v0,vr,rfl,q1,qr⟩:=r;obtain⟨p,ys,rfl,f1,g1,b⟩:=S.lst q1 X;obtain⟨pt,ft,rfl,pz,gt,rt⟩:=S.ob 1 _ u;have I:p≠pt:=λ z=>by subst z;rw[g1]at gt;cases gt
 have S0:zM K [p,pt] [.lst xs,.tab q pt] H:=by
  refine⟨rfl,λ i j a o o' d B h3 h4 _ _=>?_,λ m o e=>?_⟩
  ·have L:=(qa2.mp d).1
   have l2:=(qa2.mp B).1;simp at L l2;have U:i=0∨i=1:=by omega
   have c2:j=0∨j=1:=by omega
   rcases U with rfl|rfl<;>rcases c2 with rfl|rfl
   ·rfl
   ·simp at d B;exact absurd (d.trans B.symm) I
   ·simp at d B;exact absurd (B.trans d.symm) I
   ·rfl
  ·have L:=(qa2.mp e).1
   simp at L;have U:m=0∨m=1:=by omega
   rcases U with rfl|rfl
   ·simp at e;subst e;exact⟨p,rfl,ys,g1,b.nrm (λ _ _ t=>t) (λ _ _ _ t=>t) nx⟩
   ·simp at e;subst e;exact⟨pt,rfl,rfl,pz,gt,rt⟩
 refine⟨hl,[p,pt],[.lst xs,.tab q pt],.ref 0::us,S0,.cons ⟨p,rfl,rfl⟩ (qr.nrm (λ _ _ t=>t) (λ _ _ _ t=>t) nu),λ PF=>?_⟩;obtain⟨A1,hf,h0,d⟩:=hg PF;dsimp only at hf;rw[hf];intro C H1 v L S1 qv;have apart:∀a o,a≠p->a≠pt->H a=some o->H1 a=some o:=λ a o ne ne2 h=>L.fr a o h λ m e=>by
  have l:=(qa2.mp e).1;simp at l;have U:m=0∨m=1:=by omega
  rcases U with rfl|rfl
  ·simp at e;exact ne e.symm
  ·simp at e;exact ne2 e.symm
 have lf:Le K φ H φ H1:=⟨λ _ _ h=>h,L.tp,λ a o h nn=>apart a o (λ e=>nn n (by rw[e];exact f1)) (λ e=>nn 1 (by rw[e];exact ft)) h,λ _ _ h=>.inl h,L.st,L.fz⟩
 have hp:C[0]? =some p:=L.ex 0 p rfl;have hp1:C[1]? =some pt:=L.ex 1 pt rfl;obtain⟨p',g,Y,e2,r2⟩:=S1.ob 0 _ h0;rw[hp]at g;cases g;obtain⟨p'',T,_,qz,e2',Z⟩:=S1.ob 1 _ d;rw[hp1]at T;cases T;refine D φ H1 v lf ?_ (RV.nrm (λ _ _ t=>t) (λ _ _ _ t=>t) nw qv);have mt:∀(i:Nat)(w:O),(A.set n (.lst zs))[i]? =some w->w.mut=true->∃w',A[i]? =some w'/\w'.mut=true:=λ i w e mw=>by
  by_cases hi:i=n
  ·subst hi;exact⟨_,X,rfl⟩
  ·rw[aH (Ne.symm hi)]at e;exact⟨w,e,mw⟩
 refine⟨by simp[S.len],λ i j a o1 o2 d B h3 h4 m1 m2=>?_,λ i w e=>?_⟩
 ·obtain⟨w1,g,k1⟩:=mt i o1 h3 m1
  obtain⟨w2,e2,k2⟩:=mt j o2 h4 m2;exact S.inj i j a w1 w2 d B g e2 k1 k2
 ·by_cases hi:i=n
  ·subst hi
   have:i<A.length:=(qa2.mp X).1
   rw[aG this]at e;cases e;exact⟨p,f1,Y,e2,r2.nrm (λ _ _ t=>t) (λ _ _ _ t=>t) nz⟩
  ·rw[aH (Ne.symm hi)]at e
   by_cases M:i=1
   ·subst M
    rw[u]at e;cases e;exact⟨pt,ft,rfl,qz,e2',Z⟩
   ·obtain⟨a,g,rr⟩:=S.ob i w e
    refine⟨a,g,?_⟩
    by_cases hm:w.mut=true
    ·have ne:a≠p:=λ z=>hi (S.inj i n a w _ g (by rw[z];exact f1) e X hm rfl)
     have ne2:a≠pt:=λ z=>M (S.inj i 1 a w _ g (by rw[z];exact ft) e u hm rfl)
     exact rr.keep lf λ z hz=>apart a z ne ne2 hz
    ·cases w with
     |lst _=>exact absurd rfl hm|dct _=>exact absurd rfl hm|tab _ _=>exact absurd rfl hm|ro ws=>
      obtain⟨vs,b,r2⟩:=rr;refine⟨vs,?_,r2.mono lf⟩;rcases b with ⟨ob,b⟩|b
      ·refine .inl ⟨ob,apart a _ ?_ ?_ b⟩
       ·intro z;subst z;rw[g1]at b;cases b
       ·intro z;subst z;rw[gt]at b;cases b
      ·exact .inr b
theorem I9 {a b:Expr}{ma mb:Ev}(B:zD X xr a ma)(he:zD X xr b mb)(s:starEach [b] X.env=(false,eval b X.env)::starEach [] X.env:=by rfl)
  (d:attributeBase a "index" X.env (eval a X.env)=eval a X.env:=by rfl)
  (f:((backTo cpos (starEach [b] X.env)).all (λ x=>!x.1)&&(backToKw cpos (keywordEach [] X.env)).all (λ x=>x.1.isSome)
   && decide ([b].length+([]:List Keyword).length+(if ([]:List Keyword).isEmpty then 0 else 1)<30))=true:=by rfl)(e:(apos.endLine==cpos.line)=true:=by rfl):
  zD X xr (.Call (.Attribute a "index" apos) [b] [] cpos) (Yc Qt ma mb):=by
 try simp only[yM]at*
 exact PE.imp (zbi PySem.F.slot_tuple_index PySem.F.type_tuple_index HF B (jm he j9 s) d f e s (by rfl)) λ σ H Q ⟨φ,A,ρ,S,re,h⟩=>by
   refine tM.go S re (zW.mp h) λ w A1 r H1 v o L D u=>?_;cases w with
   |tup ws=>
    obtain⟨p,vs,rfl,t1,t⟩:=u;refine⟨p,vs,rfl,t1,?_⟩;refine tM.go D (re.mono L) (qt (zW.mp o) (λ _ _ z=>z) λ _ _ z=>z.mono L) λ n A2 g E v2 c l C q=>?_;unfold Qt at c;dsimp only at c
    by_cases hf:(yB n&&ws.all yB)=true
    ·rw[ag hf]at c
     rw[aj]at hf;cases i:QF n ws with
     |none=>rw[i]at c;exact c.elim|some j=>
      rw[i]at c;obtain⟨y,I⟩:=R8 q hf.1 (t.mono l) hf.2 i;exact⟨p,vs,v2,j,rfl,rfl,l.tp _ _ t1,YZ q hf.1,y,I,c g E _ (L.trans l) C rfl⟩
    ·rw[ak hf]at c;exact c.elim
   |_=>exact o.elim
end Mi
namespace Mi
open PySem PySem.Spec PyProof.Rows L2
theorem zL.up {K:Frag}{k:Nat}{f:Fn}(F:zL P w K mg base j x n f)(h:j<=k:=by decide):zL P w K mg base k x n f:=F.mono h
theorem qF.up {K:Frag}{k:Nat}{f:Fn}(F:qF P w K mg base j x n f)(h:j<=k:=by decide):qF P w K mg base k x n f:=F.mono h
section
variable {C:List Value->Prop}
theorem kO (h:∀a,C [a]):∀us:List Value,us.length=1->C us
 |[a],_=>h a
theorem wO (h:∀a b,C [a,b]):∀us:List Value,us.length=2->C us
 |[a,b],_=>h a b
theorem QK (h:∀a b c,C [a,b,c]):∀us:List Value,us.length=3->C us
 |[a,b,c],_=>h a b c
end
theorem qK {l:List Str}(h:decide l.Nodup=true):l.Nodup:=of_decide_eq_true h
noncomputable def N4 (N P:List Str)(sc:Scope):Bool:=decide (sc.kind=.function)&&(!sc.isCoroutine&&(!sc.isGenerator&&(decide N.Nodup&&(decide (N.take P.length=P)&&(P.all (λ x=>decide (sc.names.lookup x=some .local) || decide (sc.names.lookup x=some .cell))&&sc.names.all λ y=>!decide (y.2=.free))))))
theorem jh {P:List Str}(h:N4 N P sc=true):qN N P sc:=by
 unfold N4 at h;simp only[aj,ao,Bool.not_eq_true',bC,bG,decide_eq_false_iff_not]at h;obtain⟨g,f,e,d,c,b,a⟩:=h;exact⟨g,f,e,d,c,b,λ y H=>a y H⟩
section
theorem KW (h:(ls.all λ t=>GG X.N X.env.scope t)=true):∀t∈ls,Qe X t:=λ t H=>Oi (qa4.mp h t H)
theorem qV {M:Ev}(nl:Nat)(cap:List Nat)(hw:wb X xr tg iter mi)
  (n:∀s H fp,wB (jk X N sc s H fp jR) tg tw/\Zh (jk X N sc s H fp jR) ifs M/\gQ (jk X N sc s H fp jR) elt (⟨tg,iter,ifs,0⟩::gs) sc pos 0 em)
  (c:X.calm=true:=by rfl)(S:Zb X sc:=by exact cps (by kernel_rfl))(p:Z7 X.N N sc nl cap=true:=by kernel_rfl)
  (b:∀g',gs[0]? =some g'->g'.is_async=0:=by intro _ h;cases h<;>rfl)
  (a:∀x,foldedSetIterable iter X.env x=pure x:=by intro _;rfl):Qi X xr (.ListComp elt (⟨tg,iter,ifs,0⟩::gs) sc pos) (zS nl cap mi tw M em):=F5 nl cap c S p hw n b a
theorem qP {d:Nat}(he:zD X yc elt me)(h:∀e s,X.xe e s->False:=by exactλ _ _ z=>z)(H:gens[d+1]? =none:=by rfl):gQ X elt gens sc pos d (zK me):=D2 h he H
end
end Mi
namespace G
open PySem L2 Mi
noncomputable def top (i:Nat):Stmt:=PySem.Challenge.pw_nearkinds_k06_products_of_mixes.main.body.getD i (.Pass ⟨0,0,0,0⟩)
structure Bu (mg:Str->Option Value):Prop where
 LX:mg "ValueError" = none
 UL:mg "abs" = none
 Ku:mg "all" = none
 Uy:mg "bool" = none
 JF:mg "enumerate" = none
 Jh:mg "int" = none
 jZ:mg "isinstance" = none
 kY:mg "len" = none
 QA:mg "list" = none
 QC:mg "max" = none
 NH:mg "min" = none
 jN:mg "range" = none
 zbO:mg "set" = none
 ED:mg "sorted" = none
 UD:mg "sum" = none
 kD:mg "tuple" = none
 Ym:mg "zip" = none
 LG:∃t,mg "MOST_PLACES" = some (.int 8 t)
 Ij:∃t,mg "MOST_TIMES" = some (.int 8 t)
noncomputable abbrev qT:List Str:=["NoTable","NotSteady","NoMix","NoNumber"]
noncomputable abbrev WJ:List Str:=["NoTable","NotSteady","NoPlace","NoKind","NoMix","NoNumber","NoLot","NoKinds","NoPaper","NoParting","NoClosed","TooMany","NoText","NoLine","NoDeed"]
theorem jT {K:Frag}(R:WJ.all (QB K qT)=true)(h:WJ.contains x=true:=by decide +kernel):QB K qT x=true:=qa4.mp R x (List.contains_iff_mem.mp h)
theorem ZU {l:List (Str×NameKind)}(h:(l.all λ y=>!(y.2==.cell))=true):∀y∈l,y.2≠.cell:=λ y H e=>by
 have q:=qa4.mp h y H;rw[e]at q;cases q
theorem yE {m:Ev}(h:zD X xr e m):SE X xr e m:=by rw[Gs]at h;exact h
abbrev RP:Stmt:=top 1
theorem IK:qN ["thing"] ["thing"] (qg RP):=jh (by kernel_rfl)
def RC:Ex:=zr (qd (ka (kL .int (zc 0)) (yH (kL .bl (zc 0))))) zA
abbrev TY:Stmt:=top 2
theorem Mt:qN ["thing","limit"] ["thing","limit"] (qg TY):=jh (by kernel_rfl)
def TV (v:Fn):Ex:=zr (qd (ka (zF v (zh (zc 0) zm)) (ku Zo Jr (zi (.int 0)) (zc 0) (zc 1)))) zA
abbrev Rt:Stmt:=top 3
theorem LY:qN ["thing","many"] ["thing","many"] (qg Rt):=jh (by kernel_rfl)
def YR (v:Fn):Ex:=zr (qd (ka (kL .tup (zc 0)) (ka (zo jn (mQ qy (qf (zc 0))) (zc 1)) (mQ QJ (zS 1 [] (qC (zc 0)) (zN 0) (zi (.bl true)) (zK (zF v (zh (zc 0) zm)))))))) zA
abbrev TF:Stmt:=top 4
theorem Mq:qN ["thing","many","limit"] ["thing","many","limit"] (qg TF):=jh (by kernel_rfl)
def Xu (v:Fn):Ex:=zr (qd (ka (zF v (zh (zc 0) (zh (zc 1) zm))) (mQ QJ (zS 1 [2] (qC (zc 0)) (zN 0) (zi (.bl true)) (zK (ku Zo Jr (zi (.int 0)) (zc 0) (zc 1))))))) zA
abbrev Rv:Stmt:=top 24
theorem Rq:qN ["thing","many"] ["thing"] (qg Rv):=jh (by kernel_rfl)
def Wu (f:Fn)(M:Fn)(l:Fn):Ex:=zr (qM (gW (yH (kL .tup (zc 0))) (yH (ku Zo Zo (zi (.int 1)) (mQ qy (qf (zc 0))) (zi (.int 8))))) (zr (qd (zi (.bl false))) zA) zA) (zr (zY 1 (mQ qy (qf (zc 0)))) (zr (qM (yH (mQ QJ (zS 1 [1] (qC (zc 0)) (zN 0) (zi (.bl true)) (zK (zF M (zh (zc 0) (zh (zc 1) (zh (zc 1) zm)))))))) (zr (qd (zi (.bl false))) zA) zA) (zr (qd (ka (zF f (zh (zc 0) zm)) (zF l (zh (zc 0) zm)))) zA)))
abbrev R0:Stmt:=top 25
theorem Vf:qN ["rows","a","row","b","kind"] ["rows"] (qg R0):=jh (by kernel_rfl)
def RX:Ex:=zr (yv (kT (zc 0)) (jj 1 2) (zr (yv (kT (zc 2)) (jj 3 4) (zr (qM (gW (zo q9 (zo jn (zc 4) (zi (.int 0))) (zo jn (zc 1) (zc 3))) (zo q9 (zo zI (zo zI (zc 0) (zc 3)) (zc 1)) (zc 4))) (zr (qd (zi (.bl false))) zA) zA) zA)) zA)) (zr (qd (zi (.bl true))) zA)
abbrev Tw:Stmt:=top 26
theorem Tu:qN ["rows","standing"] ["rows"] (qg Tw):=jh (by kernel_rfl)
def Tz:Ex:=zr (zY 1 (qp (zS 2 [] (qC (zc 0)) (zN 0) (zi (.bl true)) (Z3 (qC (zc 0)) (zN 1) (zi (.bl true)) (zK (zc 1)))))) (zr (qd (mQ QJ (zS 1 [1] (qW (mQ yC (qf (zc 1)))) (zN 0) (zi (.bl true)) (zK (zo Xi (zc 0) (zc 1)))))) zA)
abbrev T3:Stmt:=top 27
theorem MR:qN ["table"] ["table"] (qg T3):=jh (by kernel_rfl)
def Xy (I:Fn):Ex:=zr (qM ((λ ρ A=>((yH (zF I (zh (zc 0) zm))) ρ A).nox)) (zr (J9 "NoTable" (zh (zi (.str "this is no table")) zm)) zA) zA) zA
abbrev Sy:Stmt:=top 28
theorem La:qN ["table"] ["table"] (qg Sy):=jh (by kernel_rfl)
def Si:Ex:=zr (qd (zo qx (mQ yC (zS 1 [] (qC (zc 0)) (zN 0) (zi (.bl true)) (zK (mQ yC (qf (zc 0)))))) (zi (.int 1)))) zA
abbrev Sf:Stmt:=top 29
theorem K9:qN ["table","one","other","many","counts","i","j"] ["table","one","other"] (qg Sf):=jh (by kernel_rfl)
def Sd (Y:Fn):Ex:=zr (zY 3 (zF Y (zh (zc 0) zm))) (zr (zY 4 (qp (zS 1 [3] (qW (zc 3)) (zN 0) (zi (.bl true)) (zK (zo qu (zU (zh (zi (.int 0)) zm)) (zc 1)))))) (zr (yv (k9 (zo zI (zc 0) (zc 1)) (zo zI (zc 0) (zc 2))) (jj 5 6) (zr (Ks (zo zI (zc 4) (zc 5)) (zc 6) (zi (.int 1))) zA)) (zr (qd (mQ yi (zS 1 [] (qC (zc 4)) (zN 0) (zi (.bl true)) (zK (mQ yi (qf (zc 0))))))) zA)))
abbrev SH:Stmt:=top 30
theorem Wc:qN ["table","firsts","a","row","b","kind"] ["table"] (qg SH):=jh (by kernel_rfl)
def SD:Ex:=zr (zY 1 Jo) (zr (yv (kT (zc 0)) (jj 2 3) (zr (yv (kT (zc 3)) (jj 4 5) (zr (jx (Yf ZX (zc 1) (zc 5) (zC (zh (zc 2) (zh (zc 4) zm))))) zA)) zA)) (zr (qd (zc 1)) zA))
abbrev Ss:Stmt:=top 31
theorem XH:qN ["table","firsts","pairs"] ["table"] (qg Ss):=jh (by kernel_rfl)
def Sw (Y:Fn)(w:Fn)(X:Fn):Ex:=zr (zY 1 (zF X (zh (zc 0) zm))) (zr (zY 2 (qp (zS 1 [1] (qW (zF Y (zh (zc 0) zm))) (zN 0) (zi (.bl true)) (zK (zo GI (zc 1) (zc 0)))))) (zr (qd (qp (zS 2 [0] (qC (zc 2)) (jj 0 1) (zi (.bl true)) (zK (zF w (zh (zc 2) (zh (zc 0) (zh (zc 1) zm)))))))) zA))
abbrev Se:Stmt:=top 32
theorem YI:qN ["table","kind","a","b","shares","c","row","e","by"] ["table"] (qg Se):=jh (by kernel_rfl)
def Sa (w:Fn)(X:Fn):Ex:=zr (yv (Ko (zF X (zh (zc 0) zm))) (Gr 1 2 3) (zr (zY 4 (zF w (zh (zc 0) (zh (zc 2) (zh (zc 3) zm))))) (zr (yv (kT (zc 0)) (jj 5 6) (zr (yv (kT (zc 6)) (jj 7 8) (zr (qM (ka (zo jn (zc 8) (zc 1)) (zo q9 (zF w (zh (zc 0) (zh (zc 5) (zh (zc 7) zm)))) (zc 4))) (zr (qd (zC (zh (zc 2) (zh (zc 3) (zh (zc 5) (zh (zc 7) zm)))))) zA) zA) zA)) zA)) zA))) (zr (qd (zi .non)) zA)
abbrev TR:Stmt:=top 33
theorem Mx:qN ["table"] ["table"] (qg TR):=jh (by kernel_rfl)
def K8 (a:Fn)(M:Fn):Ex:=zr (jx (zF M (zh (zc 0) zm))) (zr (qM ((λ ρ A=>((zo (KS true) (zF a (zh (zc 0) zm)) (zi .non)) ρ A).nox)) (zr (J9 "NotSteady" (zh (zi (.str "the table is not steady")) zm)) zA) zA) zA)
abbrev So:Stmt:=top 36
theorem Lp:qN ["table","mix"] ["table","mix"] (qg So):=jh (by kernel_rfl)
def XO (Y:Fn)(v:Fn):Ex:=zr (qM ((λ ρ A=>((yH (zF v (zh (zc 1) (zh (zF Y (zh (zc 0) zm)) zm)))) ρ A).nox)) (zr (J9 "NoMix" (zh (zi (.str "this is no mix of the table")) zm)) zA) zA) zA
abbrev RW:Stmt:=top 37
theorem Hw:qN ["table","one","other"] ["table","one","other"] (qg RW):=jh (by kernel_rfl)
def JM (X:Fn)(v:Fn)(Q:Fn)(Y:Fn):Ex:=zr (jx (zF Y (zh (zc 0) zm))) (zr (jx (zF Q (zh (zc 0) (zh (zc 1) zm)))) (zr (jx (zF Q (zh (zc 0) (zh (zc 2) zm)))) ((λ ρ A=>((zr (qd (zF v (zh (zF X (zh (zc 0) zm)) (zh (zc 1) (zh (zc 2) zm))))) zA) ρ A).nox))))
abbrev RR:Stmt:=top 38
theorem Iz:qN ["shares","one","other"] ["shares","one","other"] (qg RR):=jh (by kernel_rfl)
def RM (L:Fn):Ex:=zr (qd (mQ yi (zS 1 [1,2] (qC (zc 0)) (zN 0) (zi (.bl true)) (zK (zF L (zh (zc 0) (zh (zc 1) (zh (zc 2) zm)))))))) zA
abbrev SN:Stmt:=top 39
theorem Ld:qN ["by_kind","one","other"] ["by_kind","one","other"] (qg SN):=jh (by kernel_rfl)
def Su:Ex:=zr (qd (mQ gu (zS 4 [2] (k9 (zc 1) (zc 0)) (jj 0 1) (zi (.bl true)) (Z3 (k9 (zc 4) (zc 1)) (jj 2 3) (zi (.bl true)) (zK (zo qu (zo qu (zc 0) (zc 2)) (zc 3))))))) zA
abbrev OA:Stmt:=top 40
theorem Dz:qN ["table","one","other"] ["table","one","other"] (qg OA):=jh (by kernel_rfl)
def JU (Q:Fn)(Y:Fn):Ex:=zr (jx (zF Y (zh (zc 0) zm))) (zr (jx (zF Q (zh (zc 0) (zh (zc 1) zm)))) (zr (jx (zF Q (zh (zc 0) (zh (zc 2) zm)))) ((λ ρ A=>((zr (qd (mQ yi (zS 2 [] (k9 (zc 1) (zc 2)) (jj 0 1) (zi (.bl true)) (zK (zo qx (zc 0) (zc 1)))))) zA) ρ A).nox))))
abbrev Om:Stmt:=top 41
theorem Y3:qN ["table","mix","times","shares","result","turn"] ["table","mix","times"] (qg Om):=jh (by kernel_rfl)
def JX (M:Fn)(X:Fn)(v:Fn)(Q:Fn)(Y:Fn):Ex:=zr (jx (zF Y (zh (zc 0) zm))) (zr (jx (zF Q (zh (zc 0) (zh (zc 1) zm)))) (zr (qM ((λ ρ A=>((yH (zF M (zh (zc 2) (zh (zo qx (zi (.int 8)) (zi (.int 1))) zm)))) ρ A).nox)) (zr (J9 "NoNumber" (zh (zi (.str "a mix is taken by itself from 0 to 8 times")) zm)) zA) zA) ((λ ρ A=>((zr (zY 3 (zF X (zh (zc 0) zm))) (zr (zY 4 (mQ yi (qf (zo qx (zU (zh (zi (.int 1)) zm)) (zo qu (zU (zh (zi (.int 0)) zm)) (zo wy (mQ qy (qf (zc 1))) (zi (.int 1)))))))) (zr (yv (qW (zc 2)) (zN 5) (zr (zY 4 (zF v (zh (zc 3) (zh (zc 4) (zh (zc 1) zm))))) zA)) (zr (qd (zc 4)) zA)))) ρ A).nox))))
abbrev T9:Stmt:=top 43
theorem M3:qN ["_law_script","_law_k"] ["_law_script","_law_k"] (qg T9):=jh (by kernel_rfl)
def XF:Ex:=zr (qM (zo Jr (zc 1) (mQ qy (qf (zc 0)))) (zr (qd (zo zI (zc 0) (zc 1))) zA) zA) (zr (qd (zi (.int 0))) zA)
abbrev SV:Stmt:=top 44
theorem Sl:qN ["_law_script","_law_k","_law_cell"] ["_law_script","_law_k"] (qg SV):=jh (by kernel_rfl)
def X3 (L:Fn):Ex:=zr (zY 2 (zF L (zh (zc 0) (zh (zc 1) zm)))) (zr (qM (zo Tj (zc 2) (zo Qa (zi (.int 10)) (zi (.int 18)))) (zr (qd (zU (zh (zo wy (zc 2) (zo Qa (zi (.int 10)) (zi (.int 18)))) (zh (zi (.bl true)) zm)))) zA) zA) (zr (qd (zU (zh (zo gh (zc 2) (zi (.int 2147483647))) (zh (zi (.bl false)) zm)))) zA))
abbrev Rl:Stmt:=top 45
theorem Wn:qN ["_law_state_here","_law_many","_law_found","_law_stirred"] ["_law_state_here","_law_many"] (qg Rl):=jh (by kernel_rfl)
def Va:Ex:=zr (qM (zo zI (zc 0) (zi (.int 1))) (zr (zY 2 (zo gh (zo zI (zc 0) (zi (.int 0))) (zc 1))) (zr (Yd gn (zo gH (zo zI (zc 0) (zi (.int 0))) (zc 1)) (zc 0) (zi (.int 0))) (zr (qd (zc 2)) zA))) zA) (zr (Yd gn (zo gh (zo qx (zo qu (zo zI (zc 0) (zi (.int 0))) (zi (.int 48271))) (zi (.int 29))) (zi (.int 2147483647))) (zc 0) (zi (.int 0))) (zr (zY 3 (zo gh (zo qx (zo qx (zo qu (zo zI (zc 0) (zi (.int 0))) (zo zI (zc 0) (zi (.int 0)))) (zo qu (zi (.int 39373)) (zo zI (zc 0) (zi (.int 0))))) (zi (.int 7))) (zi (.int 2147483629)))) (zr (zY 3 (zo gh (zo qx (zo qu (zc 3) (zc 3)) (zo qu (zi (.int 16807)) (zc 3))) (zi (.int 2147483587)))) (zr (qd (zo gh (zo gH (zc 3) (zi (.int 8))) (zc 1))) zA))))
abbrev TJ:Stmt:=top 46
theorem Xs:qN ["_law_state_here","_law_things","_law_left","_law_found"] ["_law_state_here","_law_things"] (qg TJ):=jh (by kernel_rfl)
def TU (y:Fn):Ex:=zr (zY 2 (qp (qf (zc 1)))) (zr (zY 3 (zU zm)) (zr (V7 1000 (zo q9 (zc 2) (zU zm)) (zr (jx (jQ j4 (zc 3) (jQ ZA (zc 2) (zF y (zh (zc 0) (zh (mQ qy (qf (zc 2))) zm)))))) zA)) (zr (qd (zc 3)) zA)))
abbrev SO:Stmt:=top 47
theorem SK:qN ["_law_rows","_law_some"] ["_law_rows"] (qg SO):=jh (by kernel_rfl)
def Rg:Ex:=zr (zY 1 (WS (zo Z4 (qp (zS 1 [] (qC (zc 0)) (zN 0) (zi (.bl true)) (zK (qp (qf (zc 0)))))) (zU zm)))) (zr (qd (mQ yi (zS 1 [1] (qC (zc 0)) (zN 0) (zi (.bl true)) (zK (mQ yi (zS 1 [1] (qC (zc 0)) (zN 0) (zi (.bl true)) (zK (jQ ZC (zc 1) (zc 0))))))))) zA)
abbrev S8:Stmt:=top 48
theorem wF:qN ["_law_state_here","_law_way","_law_many","_law_wide","_law_high","_law_some","_law_ring","_law_rows","_law_a","_law_near","_law_far"] ["_law_state_here"] (qg S8):=jh (by kernel_rfl)
def X4 (y:Fn):Ex:=zr (zY 1 (zF y (zh (zc 0) (zh (zi (.int 8)) zm)))) (zr (zY 2 (zo zI (zU (zh (zi (.int 8)) (zh (zi (.int 7)) (zh (zi (.int 6)) (zh (zi (.int 5)) (zh (zi (.int 4)) (zh (zi (.int 3)) (zh (zi (.int 2)) (zh (zi (.int 1)) zm))))))))) (zF y (zh (zc 0) (zh (zi (.int 8)) zm))))) (zr (qM (zo jn (zc 1) (zi (.int 0))) (zr (qd (qp (zS 1 [2] (qW (zc 2)) (zN 0) (zi (.bl true)) (zK (qp (zS 1 [0,1] (qW (zc 1)) (zN 0) (zi (.bl true)) (zK (zo Gx (jJ Kz (zo wy (zc 1) (zc 0))) (zo wy (zc 2) (jJ Kz (zo wy (zc 1) (zc 0)))))))))))) zA) zA) (zr (qM (zo jn (zc 1) (zi (.int 1))) (zr (zY 2 (zo zI (zU (zh (zi (.int 8)) (zh (zi (.int 4)) (zh (zi (.int 2)) zm)))) (zF y (zh (zc 0) (zh (zi (.int 3)) zm))))) (zr (qd (qp (zS 1 [2] (qW (zc 2)) (zN 0) (zi (.bl true)) (zK (qp (zS 1 [0] (qW (zc 1)) (zN 0) (zi (.bl true)) (zK (zo zI (zU (zh (zi (.int 0)) (zh (zi (.int 1)) (zh (zi (.int 1)) (zh (zi (.int 2)) (zh (zi (.int 1)) (zh (zi (.int 2)) (zh (zi (.int 2)) (zh (zi (.int 3)) zm))))))))) (zo UX (zc 1) (zc 0)))))))))) zA)) zA) (zr (qM (zo jn (zc 1) (zi (.int 2))) (zr (qd (qp (zS 1 [2] (qW (zc 2)) (zN 0) (zi (.bl true)) (zK (qp (zS 1 [0] (qW (zc 1)) (zN 0) (zi (.bl true)) (zK (jJ Zj (zo q9 (zc 1) (zc 0)))))))))) zA) zA) (zr (qM (zo jn (zc 1) (zi (.int 3))) (zr (GU (zo zI (zU (zh (zC (zh (zi (.int 2)) (zh (zi (.int 4)) zm))) (zh (zC (zh (zi (.int 4)) (zh (zi (.int 2)) zm))) (zh (zC (zh (zi (.int 2)) (zh (zi (.int 3)) zm))) (zh (zC (zh (zi (.int 3)) (zh (zi (.int 2)) zm))) (zh (zC (zh (zi (.int 2)) (zh (zi (.int 2)) zm))) zm)))))) (zF y (zh (zc 0) (zh (zi (.int 5)) zm)))) (jj 3 4)) (zr (zY 2 (zo qu (zc 3) (zc 4))) (zr (qd (qp (zS 1 [2,3] (qW (zc 2)) (zN 0) (zi (.bl true)) (zK (qp (zS 1 [0,2] (qW (zc 1)) (zN 0) (zi (.bl true)) (zK (zo qx (jJ Zj (zo q9 (zc 1) (zc 0))) (jJ Zj (zo q9 (zo gH (zc 1) (zc 2)) (zo gH (zc 0) (zc 2)))))))))))) zA))) zA) (zr (qM (zo jn (zc 1) (zi (.int 4))) (zr (zY 5 (zU (zh (zC (zh (zi (.int 0)) (zh (zi (.int 1)) zm))) (zh (zC (zh (zi (.int 0)) (zh (zi (.int 2)) zm))) (zh (zC (zh (zi (.int 0)) (zh (zi (.int 3)) zm))) (zh (zC (zh (zi (.int 1)) (zh (zi (.int 2)) zm))) (zh (zC (zh (zi (.int 1)) (zh (zi (.int 3)) zm))) (zh (zC (zh (zi (.int 2)) (zh (zi (.int 3)) zm))) zm)))))))) (zr (qd (qp (zS 1 [5] (qC (zc 5)) (zN 0) (zi (.bl true)) (zK (qp (zS 1 [0] (qC (zc 1)) (zN 0) (zi (.bl true)) (zK (zo wy (zi (.int 2)) (mQ qy (zS 1 [0] (qC (zc 1)) (zN 0) (zo Xi (zc 0) (zc 1)) (zK (zc 0)))))))))))) zA)) zA) (zr (qM (zo jn (zc 1) (zi (.int 5))) (zr (zY 2 (zo zI (zU (zh (zi (.int 4)) (zh (zi (.int 8)) (zh (zi (.int 2)) zm)))) (zF y (zh (zc 0) (zh (zi (.int 3)) zm))))) (zr (qd (qp (zS 1 [2] (qW (zc 2)) (zN 0) (zi (.bl true)) (zK (qp (zS 1 [0] (qW (zc 1)) (zN 0) (zi (.bl true)) (zK (zo UX (zc 1) (zc 0))))))))) zA)) zA) (zr (zY 3 (zo zI (zU (zh (zi (.int 4)) (zh (zi (.int 3)) (zh (zi (.int 2)) zm)))) (zF y (zh (zc 0) (zh (zi (.int 3)) zm))))) (zr (zY 6 (zU (zh (zi (.int 0)) (zh (zi (.int 1)) (zh (zo zI (zU (zh (zi (.int 2)) (zh (zi (.int 1)) zm))) (jJ Zj (zo jn (zc 3) (zi (.int 3))))) (zh (zi (.int 1)) zm)))))) (zr (zY 7 (zU zm)) (zr (yv (qW (zo qu (zi (.int 2)) (zc 3))) (zN 8) (zr (zY 9 (qp (zS 1 [3,6,8] (qW (zo qu (zi (.int 2)) (zc 3))) (zN 0) (zi (.bl true)) (zK (zo zI (zc 2) (zo gh (jJ Kz (zo wy (zc 3) (zc 0))) (zc 1))))))) (zr (zY 10 (qp (zS 1 [3,8] (qW (zo qu (zi (.int 2)) (zc 3))) (zN 0) (zi (.bl true)) (zK (jJ Zj (zo q9 (zo gH (zc 2) (zc 1)) (zo gH (zc 0) (zc 1)))))))) (zr (qM (zo jn (zc 1) (zi (.int 6))) (zr (jx (jQ j4 (zc 7) (qp (zS 1 [9,10] (qW (zo qu (zi (.int 2)) (zc 3))) (zN 0) (zi (.bl true)) (zK (zo qx (zo qu (zi (.int 3)) (zo zI (zc 2) (zc 0))) (zo zI (zc 1) (zc 0)))))))) zA) (zr (jx (jQ j4 (zc 7) (qp (zS 1 [9,10] (qW (zo qu (zi (.int 2)) (zc 3))) (zN 0) (zi (.bl true)) (zK (N1 (zo jn (zo zI (zc 2) (zc 0)) (zi (.int 1))) (zi (.int 3)) (zo zI (zc 1) (zc 0)))))))) zA)) zA)))) (zr (qd (zc 7)) zA))))))))))))
abbrev S9:Stmt:=top 49
theorem Wg:qN ["_law_state_here","_law_rows","_law_order","_law_kinds_here"] ["_law_state_here"] (qg S9):=jh (by kernel_rfl)
def SR (T:Fn)(L:Fn)(I:Fn):Ex:=zr (zY 1 (zF L (zh (zF I (zh (zc 0) zm)) zm))) (zr (zY 2 (zF T (zh (zc 0) (zh (Y7 (mQ qy (qf (zc 1)))) zm)))) (zr (zY 3 (zo qx (zU (zh (zi (.int 0)) zm)) (zF T (zh (zc 0) (zh (Ke (zi (.int 1)) (zo qx (zi (.int 1)) (mQ yC (zS 1 [] (qC (zc 1)) (zN 0) (zi (.bl true)) (zK (mQ yC (qf (zc 0)))))))) zm))))) (zr (qd (mQ yi (zS 1 [1,2,3] (qC (zc 2)) (zN 0) (zi (.bl true)) (zK (mQ yi (zS 1 [0,1,3] (qC (zc 2)) (zN 0) (zi (.bl true)) (zK (zo zI (zc 3) (zo zI (zo zI (zc 2) (zc 1)) (zc 0)))))))))) zA)))
abbrev S7:Stmt:=top 50
theorem LH:qN ["_law_table"] ["_law_table"] (qg S7):=jh (by kernel_rfl)
def SX:Ex:=zr (qd (zo qx (zi (.int 1)) (mQ yC (zS 1 [] (qC (zc 0)) (zN 0) (zi (.bl true)) (zK (mQ yC (qf (zc 0)))))))) zA
abbrev RA:Stmt:=top 52
theorem Rp:qN ["_law_state_here","_law_kinds_here","_law_far"] ["_law_state_here","_law_kinds_here"] (qg RA):=jh (by kernel_rfl)
def RN (y:Fn):Ex:=zr (zY 2 (zo zI (zU (zh (zi (.int 3)) (zh (zi (.int 7)) (zh (zi (.int 2000)) (zh (zo Qa (zi (.int 10)) (zi (.int 12))) zm))))) (zF y (zh (zc 0) (zh (zi (.int 4)) zm))))) (zr (qd (mQ yi (zS 1 [0,2] (qW (zc 1)) (zN 0) (zi (.bl true)) (zK (zo wy (zF y (zh (zc 1) (zh (zc 2) zm))) (zo gH (zc 2) (zi (.int 2)))))))) zA)
abbrev Sg:Stmt:=top 53
theorem M7:qN ["_law_table","_law_mix_here"] ["_law_table","_law_mix_here"] (qg Sg):=jh (by kernel_rfl)
def Sr:Ex:=zr (qd (qp (zS 1 [1] (qC (zc 0)) (zN 0) (zi (.bl true)) (zK (qp (zS 1 [1] (qC (zc 0)) (zN 0) (zi (.bl true)) (zK (zo zI (zc 1) (zc 0))))))))) zA
abbrev SU:Stmt:=top 54
theorem XN:qN ["_law_one","_law_other","_law_found","_law_row"] ["_law_one","_law_other"] (qg SU):=jh (by kernel_rfl)
def S6:Ex:=zr (zY 2 (zU zm)) (zr (yv (qC (zc 0)) (zN 3) (zr (jx (jQ j4 (zc 2) (qp (zS 1 [1,3] (qW (mQ qy (qf (zc 3)))) (zN 0) (zi (.bl true)) (zK (mQ gu (zS 1 [0,1,2] (qW (mQ qy (qf (zc 2)))) (zN 0) (zi (.bl true)) (zK (zo qu (zo zI (zc 3) (zc 0)) (zo zI (zo zI (zc 2) (zc 0)) (zc 1))))))))))) zA)) (zr (qd (zc 2)) zA))
abbrev T4:Stmt:=top 55
theorem K6:qN ["_law_state_here","_law_mix_here","_law_at","_law_odd","_law_some"] ["_law_state_here","_law_mix_here"] (qg T4):=jh (by kernel_rfl)
def T6 (y:Fn):Ex:=zr (zY 2 (zF y (zh (zc 0) (zh (mQ qy (qf (zc 1))) zm)))) (zr (zY 3 (zo zI (zU (zh (zi (.bl true)) (zh (zi .non) (zh (zi (.str "1")) (zh (zC (zh (zi (.int 1)) zm)) (zh (zU (zh (zi (.int 1)) zm)) (zh (zi (.bl false)) zm))))))) (zF y (zh (zc 0) (zh (zi (.int 6)) zm))))) (zr (zY 4 (zU (zh (zo qx (zo qx (wu (zc 1) gZ (gN (zc 2))) (zC (zh (zc 3) zm))) (wu (zc 1) (gN (zo qx (zc 2) (zi (.int 1)))) gZ)) (zh (zo qx (zc 1) (zC (zh (zi (.int 0)) zm))) (zh (wu (zc 1) (gN (zi (.int 1))) gZ) (zh (qp (qf (zc 1))) (zh (zi .non) (zh Jo (zh (zi (.int 0)) (zh (zo qx (zC (zh (zc 1) zm)) (wu (zc 1) (gN (zi (.int 1))) gZ)) zm)))))))))) (zr (qd (zo zI (zc 4) (zF y (zh (zc 0) (zh (zi (.int 8)) zm))))) zA)))
abbrev T5:Stmt:=top 56
theorem TK:qN ["_law_state_here","_law_some"] ["_law_state_here"] (qg T5):=jh (by kernel_rfl)
def TZ (y:Fn):Ex:=zr (zY 1 (zU (zh (zC (zh (zC (zh (zi (.int 0)) (zh (zi (.int 1)) (zh (zi (.int 2)) zm)))) (zh (zC (zh (zi (.int 1)) (zh (zi (.int 0)) (zh (zi (.int 1)) zm)))) (zh (zC (zh (zi (.int 2)) (zh (zi (.int 1)) (zh (zi (.int 0)) zm)))) zm)))) (zh (zC (zh (zC (zh (zi (.int 0)) (zh (zi (.int 1)) (zh (zi (.int 2)) (zh (zi (.int 2)) zm))))) (zh (zC (zh (zi (.int 1)) (zh (zi (.int 0)) (zh (zi (.int 1)) (zh (zi (.int 2)) zm))))) (zh (zC (zh (zi (.int 2)) (zh (zi (.int 1)) (zh (zi (.int 0)) (zh (zi (.int 1)) zm))))) (zh (zC (zh (zi (.int 2)) (zh (zi (.int 2)) (zh (zi (.int 1)) (zh (zi (.int 0)) zm))))) zm))))) zm)))) (zr (jx (jQ j4 (zc 1) (zC (zh (zC (zh (zi (.int 0)) (zh (zi (.int 1)) (zh (zi (.int 1)) (zh (zi (.int 2)) zm))))) (zh (zC (zh (zi (.int 1)) (zh (zi (.int 0)) (zh (zi (.int 2)) (zh (zi (.int 2)) zm))))) (zh (zC (zh (zi (.int 1)) (zh (zi (.int 2)) (zh (zi (.int 0)) (zh (zi (.int 2)) zm))))) (zh (zC (zh (zi (.int 2)) (zh (zi (.int 2)) (zh (zi (.int 2)) (zh (zi (.int 0)) zm))))) zm))))))) (zr (qd (zo zI (zc 1) (zF y (zh (zc 0) (zh (zi (.int 3)) zm))))) zA))
abbrev TH:Stmt:=top 57
theorem YG:qN ["_law_state_here","_law_some"] ["_law_state_here"] (qg TH):=jh (by kernel_rfl)
def TM (y:Fn):Ex:=zr (zY 1 (zU (zh (zi .non) (zh (zi (.int 0)) (zh (zC zm) (zh (zC (zh (zC zm) zm)) (zh (zC (zh (zC (zh (zi (.int 1)) zm)) zm)) (zh (zU (zh (zU (zh (zi (.int 0)) zm)) zm)) (zh (zC (zh (zU (zh (zi (.int 0)) zm)) zm)) (zh (zC (zh (zC (zh (zi (.int 0)) zm)) (zh (zC (zh (zi (.int 0)) zm)) zm))) (zh (zC (zh (zC (zh (zi (.int 0)) (zh (zi (.int 1)) zm))) (zh (zC (zh (zi (.int 2)) (zh (zi (.int 0)) zm))) zm))) (zh (zC (zh (zC (zh (zi (.int 0)) (zh (zi (.int 2)) zm))) (zh (zC (zh (zi (.int 2)) (zh (zi (.int 0)) zm))) zm))) (zh Jo zm))))))))))))) (zr (zY 1 (zo qx (zc 1) (zU (zh (zC (zh (zC (zh (zi (.int 0)) (zh (zi (.int 1)) zm))) (zh (zC (zh (zi (.int 1)) (zh (zi (.int 1)) zm))) zm))) (zh (zC (zh (zC (zh (zi (.bl true)) zm)) zm)) (zh (zC (zh (zC (zh (zi (.int 0)) (zh (zi (.bl true)) zm))) (zh (zC (zh (zi (.bl true)) (zh (zi (.int 0)) zm))) zm))) (zh (zC (zh (zC (zh (zi (.int 0)) (zh (jJ QG (zi (.int 1))) zm))) (zh (zC (zh (jJ QG (zi (.int 1))) (zh (zi (.int 0)) zm))) zm))) (zh (zC (zh (zC (zh (zi (.int 0)) (zh (zi (.int 1)) zm))) (zh (zC (zh (zi (.int 1)) (zh (zi (.int 0)) zm))) (zh (zC (zh (zi (.int 1)) (zh (zi (.int 1)) zm))) zm)))) zm)))))))) (zr (zY 1 (zo qx (zc 1) (zU (zh (zC (zh (zC (zh (zi (.int 0)) (zh (zi (.int 1)) (zh (zi (.int 2)) zm)))) (zh (zC (zh (zi (.int 1)) (zh (zi (.int 0)) (zh (zi (.int 2)) zm)))) (zh (zC (zh (zi (.int 2)) (zh (zi (.int 2)) (zh (zi (.int 1)) zm)))) zm)))) (zh (zi (.str "0")) (zh (zC (zh (zC (zh (zi (.int 0)) (zh (zi (.int 3)) (zh (zi (.int 3)) zm)))) (zh (zC (zh (zi (.int 3)) (zh (zi (.int 0)) (zh (zi (.int 1)) zm)))) (zh (zC (zh (zi (.int 3)) (zh (zi (.int 1)) (zh (zi (.int 0)) zm)))) zm)))) (zh (zC (zh (zC (zh (zi (.int 0)) zm)) (zh (zC zm) zm))) (zh (zC (zh (zi (.int 0)) zm)) zm)))))))) (zr (zY 1 (zo qx (zc 1) (zU (zh (zC (zh (zC (zh (zi .non) zm)) zm)) (zh (zC (zh (zC (zh (zi (.int 0)) (zh (zi (.int 0)) zm))) (zh (zC (zh (zi (.int 0)) (zh (zi (.int 0)) zm))) zm))) zm))))) (zr (qd (zo zI (zc 1) (zF y (zh (zc 0) (zh (zi (.int 23)) zm))))) zA))))
abbrev X5:Stmt:=top 58
theorem LW:qN ["_law_found","_law_due"] ["_law_found","_law_due"] (qg X5):=jh (by kernel_rfl)
def Qq (g:Fn):Ex:=zr (qM (G1 .tup .lst (zc 1)) (zr (qM (gW (zo q9 (kL .tup (zc 0)) (kL .tup (zc 1))) (zo q9 (kL .lst (zc 0)) (kL .lst (zc 1)))) (zr (qd (zi (.bl false))) zA) zA) (zr (qM (zo q9 (mQ qy (qf (zc 0))) (mQ qy (qf (zc 1)))) (zr (qd (zi (.bl false))) zA) zA) (zr (qd (mQ QJ (zS 2 [] (k9 (zc 0) (zc 1)) (jj 0 1) (zi (.bl true)) (zK (zF g (zh (zc 0) (zh (zc 1) zm))))))) zA))) zA) (zr (qd (ka (zo jn (zc 0) (zc 1)) (zo jn (kL .bl (zc 0)) (kL .bl (zc 1))))) zA)
theorem Vc {K:Frag}{k:Nat}(T:Bu mg)(F:kN K "_law_same" "_law_same" X5 f fd)(hm:mg "_law_same" = some (.ref f)){g:Fn}(gA:zL P w K mg base k "_law_same" 2 g):zL P w K mg base (k+1) "_law_same" 2 (qH 2 (Qq g)):=
 jI F hm LW (λ _ _ _ _ _ _=>wO λ _ _=>rfl) λ c A outer s H E h=>zy (jP (w6 (DT .tup .lst T.jZ T.kD T.QA (by rfl) (by rfl) (zl 1))) (zy (jP (Y6 (Gq (yt (kX h) (ZD .tup T.jZ T.kD (by rfl) (zl 0)) (ZD .tup T.jZ T.kD (by rfl) (zl 1))) (W9 (yt (kX h) (ZD .lst T.jZ T.QA (by rfl) (zl 0)) (ZD .lst T.jZ T.QA (by rfl) (zl 1)))))) (zy (qo yz) zJ) zJ) (zy (jP (yt (kX h) (kQ T.kY (yf (zl 0))) (kQ T.kY (yf (zl 1)))) (zy (qo yz) zJ) zJ) (zy (qo (Ka rfl T.Ku (yU (qV (N:=["_law_one","_law_other"]) 2 [] (JT rfl T.Ym (zl 0) (zl 1)) (λ _ _ _=>⟨we 0 1 rfl (qK (by kernel_rfl)),qO,qP (qi gA h (zj (zl 0) (zj (zl 1) zx)))⟩))))) zJ))) zJ) (zy (qo (Q0 (gJ (kG h) (zl 0) (zl 1)) (J1 (gJ (kG h) (ZD .bl T.jZ T.Uy (by rfl) (zl 0)) (ZD .bl T.jZ T.Uy (by rfl) (zl 1)))))) zJ)
abbrev XI:Stmt:=top 59
theorem Qo:qN ["_law_call","_law_error","e","_law_marks"] ["_law_call"] (qg XI):=jh (by kernel_rfl)
def XA:Ex:=zr (zY 3 (zU (zh (jf (jy qT "NoTable") (zc 1)) (zh (jf (jy qT "NotSteady") (zc 1)) (zh (jf (jy qT "NoPlace") (zc 1)) zm))))) (zr (zY 3 (zo qx (zc 3) (zU (zh (jf (jy qT "NoKind") (zc 1)) (zh (jf (jy qT "NoMix") (zc 1)) (zh (jf (jy qT "NoNumber") (zc 1)) zm)))))) (zr (zY 3 (zo qx (zc 3) (zU (zh (jf (jy qT "NoLot") (zc 1)) (zh (jf (jy qT "NoKinds") (zc 1)) (zh (jf (jy qT "NoPaper") (zc 1)) zm)))))) (zr (zY 3 (zo qx (zc 3) (zU (zh (jf (jy qT "NoParting") (zc 1)) (zh (jf (jy qT "NoClosed") (zc 1)) (zh (jf (jy qT "TooMany") (zc 1)) zm)))))) (zr (zY 3 (zo qx (zc 3) (zU (zh (jf (jy qT "NoText") (zc 1)) (zh (jf (jy qT "NoLine") (zc 1)) (zh (jf (jy qT "NoDeed") (zc 1)) zm)))))) (zr (qM (yH (jf (Tf qT) (zc 1))) (zr (qd (zi .non)) zA) zA) (zr (qd (qp (zS 1 [3] (qW (zi (.int 15))) (zN 0) (zo zI (zc 1) (zc 0)) (zK (zc 0))))) zA))))))
def YJ (PG:jE)(lam:Nat->Fn):Ex:=zr (zY 1 (zi .non)) (zr (KA 0 1 2 qT PG lam) XA)
theorem Lb {K:Frag}{k:Nat}(T:Bu mg)(C:wR K qT "NearError")(R:WJ.all (QB K qT)=true)(F:kN K "_law_refused" "_law_refused" XI f fd)(hm:mg "_law_refused" = some (.ref f)){PG:jE}{lam:Nat->Fn}(h:kk<=k)(L:∀k,ZF P w K mg base kk (PG k) (lam k)):zL P w K mg base (k+1) "_law_refused" 1 (qH 4 (YJ PG lam)):=
 jI F hm Qo (λ _ _ _ _ _ _=>kO λ _=>rfl) λ c A outer s H E r=>zy (qw 1 Qo.nd Z0) (zy (Bp L (r.mono h) rfl rfl C.top_at C.top_exc (by decide +kernel) C.under Qo.nd rfl rfl rfl rfl rfl rfl rfl) (zy (qw 3 Qo.nd (qQ (zj (wg (C.isx (jT R)) (wm (jT R)) T.jZ (zl 1)) (zj (wg (C.isx (jT R)) (wm (jT R)) T.jZ (zl 1)) (zj (wg (C.isx (jT R)) (wm (jT R)) T.jZ (zl 1)) zx))) (zp (zp (zp zE))))) (zy (qw 3 Qo.nd (j8 (zl 3) (qQ (zj (wg (C.isx (jT R)) (wm (jT R)) T.jZ (zl 1)) (zj (wg (C.isx (jT R)) (wm (jT R)) T.jZ (zl 1)) (zj (wg (C.isx (jT R)) (wm (jT R)) T.jZ (zl 1)) zx))) (zp (zp (zp zE)))))) (zy (qw 3 Qo.nd (j8 (zl 3) (qQ (zj (wg (C.isx (jT R)) (wm (jT R)) T.jZ (zl 1)) (zj (wg (C.isx (jT R)) (wm (jT R)) T.jZ (zl 1)) (zj (wg (C.isx (jT R)) (wm (jT R)) T.jZ (zl 1)) zx))) (zp (zp (zp zE)))))) (zy (qw 3 Qo.nd (j8 (zl 3) (qQ (zj (wg (C.isx (jT R)) (wm (jT R)) T.jZ (zl 1)) (zj (wg (C.isx (jT R)) (wm (jT R)) T.jZ (zl 1)) (zj (wg (C.isx (jT R)) (wm (jT R)) T.jZ (zl 1)) zx))) (zp (zp (zp zE)))))) (zy (qw 3 Qo.nd (j8 (zl 3) (qQ (zj (wg (C.isx (jT R)) (wm (jT R)) T.jZ (zl 1)) (zj (wg (C.isx (jT R)) (wm (jT R)) T.jZ (zl 1)) (zj (wg (C.isx (jT R)) (wm (jT R)) T.jZ (zl 1)) zx))) (zp (zp (zp zE)))))) (zy (jP (Za (w6 (Ed C.isv T.jZ T.LX (by rfl) (zl 1)))) (zy (qo Z0) zJ) zJ) (zy (qo (ym (qV (N:=["_law_k","_law_marks"]) 1 [3] (jW rfl T.jN zu) (λ _ _ _=>⟨qI 0 (qK (by kernel_rfl)),PR (w6 (jc (zl 1) (zl 0))),qP (zl 0)⟩)))) zJ))))))))
abbrev Rh:Stmt:=top 60
theorem X0:qN ["_law_table","_law_rows","_law_found","_law_kind"] ["_law_table","_law_rows"] (qg Rh):=jh (by kernel_rfl)
def Rm (J:Fn):Ex:=zr (zY 2 (zU zm)) (zr (yv (qW (zF J (zh (zc 0) zm))) (zN 3) (zr (jx (jQ j4 (zc 2) (zo zI (zo zI (zc 1) (zi (.int 0))) (Yc Qt (zo zI (zc 0) (zi (.int 0))) (zc 3))))) zA)) (zr (qd (mQ yi (qf (zc 2)))) zA))
abbrev gz:Stmt:=top 61
theorem Jw:qN ["_law_state_here","_law_table","_law_mix_here","_law_bad","_law_none","_law_bent","_law_odd","_law_thing","_law_due","_law_calls"] ["_law_state_here","_law_table","_law_mix_here"] (qg gz):=jh (by kernel_rfl)
noncomputable abbrev ql:Str:=(("_law_refusals_right" : Str)++(".<locals>." : Str))++("<lambda>" : Str)
def JV (b:Fn)(Q:Fn)(q:Fn):Lm:=kB (Qc (G7 (U1 (UU ((yn gz).getD 3 w8) 0))) 0) ["_law_bent","_law_thing"] [5,7] (zF q (zh (zc 1) (zh (zc 0) (zh (zc 0) zm))))
def J4 (q:Fn)(Q:Fn)(a:Fn):Lm:=kB (Qc (G7 (U1 (UU ((yn gz).getD 3 w8) 1))) 0) ["_law_bent","_law_thing"] [5,7] (zF q (zh (zc 1) (zh (zc 0) (zh (zc 0) zm))))
def JY (Q:Fn)(q:Fn)(a:Fn):Lm:=kB (Qc (G7 (U1 (UU ((yn gz).getD 3 w8) 2))) 0) ["_law_bent","_law_odd","_law_thing"] [5,6,7] (zF q (zh (zc 2) (zh (zc 0) (zh (zc 1) zm))))
def Y8 (b:Fn)(Q:Fn)(q:Fn):Lm:=kB (Qc (Yq ((yn gz).getD 4 w8)) 0) ["_law_table","_law_mix_here","_law_bent"] [1,2,5] (zF q (zh (zc 0) (zh (zc 2) (zh (zc 1) zm))))
def Kb (b:Fn)(Q:Fn)(q:Fn):Lm:=kB (Qc (Yq ((yn gz).getD 5 w8)) 0) ["_law_table","_law_mix_here","_law_bent"] [1,2,5] (zF q (zh (zc 0) (zh (zc 1) (zh (zc 2) zm))))
def Kc (q:Fn)(Q:Fn)(a:Fn):Lm:=kB (Qc (Yq ((yn gz).getD 6 w8)) 0) ["_law_table","_law_mix_here","_law_bent"] [1,2,5] (zF q (zh (zc 0) (zh (zc 2) (zh (zc 1) zm))))
def Y9 (q:Fn)(Q:Fn)(a:Fn):Lm:=kB (Qc (Yq ((yn gz).getD 7 w8)) 0) ["_law_table","_law_mix_here","_law_bent"] [1,2,5] (zF q (zh (zc 0) (zh (zc 1) (zh (zc 2) zm))))
def Kd (Q:Fn)(q:Fn)(a:Fn):Lm:=kB (Qc (Yq ((yn gz).getD 8 w8)) 0) ["_law_table","_law_bent","_law_odd"] [1,5,6] (zF q (zh (zc 0) (zh (zc 1) (zh (zc 2) zm))))
def J6 (Q:Fn)(q:Fn)(a:Fn):Lm:=kB (Qc (G7 (Yq ((yn gz).getD 10 w8))) 0) ["_law_table","_law_mix_here","_law_odd"] [1,2,6] (zF q (zh (zc 0) (zh (zc 1) (zh (zc 2) zm))))
def yG (Q:Fn)(q:Fn)(a:Fn):List Lm:=[JV Q q a,J4 Q q a,JY Q q a,Y8 Q q a,Kb Q q a,Kc Q q a,Y9 Q q a,Kd Q q a,J6 Q q a]
theorem EN {K:Frag}{k:Nat}(T:Bu mg)(Y:∀base,qF P w K mg base k "added" 3 qb)(b:∀base,qF P w K mg base k "power" 3 qc)(y:∀base,qF P w K mg base k "product" 3 qa):kI P w K mg k ql (JV qb qc qa):=
 ⟨⟨rfl,rfl,rfl,ZU (by kernel_rfl)⟩,λ _ _ _ _=>rfl,λ base cl a c A outer s H E h x=>yE (ki x (y base) h (zj (zl 1) (zj (zl 0) (zj (zl 0) zx))))⟩
theorem F7 {K:Frag}{k:Nat}(T:Bu mg)(y:∀base,qF P w K mg base k "added" 3 qb)(Y:∀base,qF P w K mg base k "power" 3 qc)(J:∀base,qF P w K mg base k "product" 3 qa):kI P w K mg k ql (J4 qb qc qa):=
 ⟨⟨rfl,rfl,rfl,ZU (by kernel_rfl)⟩,λ _ _ _ _=>rfl,λ base cl a c A outer s H E h x=>yE (ki x (y base) h (zj (zl 1) (zj (zl 0) (zj (zl 0) zx))))⟩
theorem DF {K:Frag}{k:Nat}(T:Bu mg)(Y:∀base,qF P w K mg base k "added" 3 qb)(y:∀base,qF P w K mg base k "power" 3 qc)(J:∀base,qF P w K mg base k "product" 3 qa):kI P w K mg k ql (JY qb qc qa):=
 ⟨⟨rfl,rfl,rfl,ZU (by kernel_rfl)⟩,λ _ _ _ _=>rfl,λ base cl a c A outer s H E h x=>yE (ki x (y base) h (zj (zl 2) (zj (zl 0) (zj (zl 1) zx))))⟩
theorem DB {K:Frag}{k:Nat}(T:Bu mg)(Y:∀base,qF P w K mg base k "added" 3 qb)(b:∀base,qF P w K mg base k "power" 3 qc)(y:∀base,qF P w K mg base k "product" 3 qa):kI P w K mg k ql (Y8 qb qc qa):=
 ⟨⟨rfl,rfl,rfl,ZU (by kernel_rfl)⟩,λ _ _ _ _=>rfl,λ base cl a c A outer s H E h x=>yE (ki x (y base) h (zj (zl 0) (zj (zl 2) (zj (zl 1) zx))))⟩
theorem ER {K:Frag}{k:Nat}(T:Bu mg)(Y:∀base,qF P w K mg base k "added" 3 qb)(b:∀base,qF P w K mg base k "power" 3 qc)(y:∀base,qF P w K mg base k "product" 3 qa):kI P w K mg k ql (Kb qb qc qa):=
 ⟨⟨rfl,rfl,rfl,ZU (by kernel_rfl)⟩,λ _ _ _ _=>rfl,λ base cl a c A outer s H E h x=>yE (ki x (y base) h (zj (zl 0) (zj (zl 1) (zj (zl 2) zx))))⟩
theorem Ek {K:Frag}{k:Nat}(T:Bu mg)(y:∀base,qF P w K mg base k "added" 3 qb)(Y:∀base,qF P w K mg base k "power" 3 qc)(J:∀base,qF P w K mg base k "product" 3 qa):kI P w K mg k ql (Kc qb qc qa):=
 ⟨⟨rfl,rfl,rfl,ZU (by kernel_rfl)⟩,λ _ _ _ _=>rfl,λ base cl a c A outer s H E h x=>yE (ki x (y base) h (zj (zl 0) (zj (zl 2) (zj (zl 1) zx))))⟩
theorem E6 {K:Frag}{k:Nat}(T:Bu mg)(y:∀base,qF P w K mg base k "added" 3 qb)(Y:∀base,qF P w K mg base k "power" 3 qc)(J:∀base,qF P w K mg base k "product" 3 qa):kI P w K mg k ql (Y9 qb qc qa):=
 ⟨⟨rfl,rfl,rfl,ZU (by kernel_rfl)⟩,λ _ _ _ _=>rfl,λ base cl a c A outer s H E h x=>yE (ki x (y base) h (zj (zl 0) (zj (zl 1) (zj (zl 2) zx))))⟩
theorem EO {K:Frag}{k:Nat}(T:Bu mg)(Y:∀base,qF P w K mg base k "added" 3 qb)(y:∀base,qF P w K mg base k "power" 3 qc)(J:∀base,qF P w K mg base k "product" 3 qa):kI P w K mg k ql (Kd qb qc qa):=
 ⟨⟨rfl,rfl,rfl,ZU (by kernel_rfl)⟩,λ _ _ _ _=>rfl,λ base cl a c A outer s H E h x=>yE (ki x (y base) h (zj (zl 0) (zj (zl 1) (zj (zl 2) zx))))⟩
theorem Et {K:Frag}{k:Nat}(T:Bu mg)(Y:∀base,qF P w K mg base k "added" 3 qb)(y:∀base,qF P w K mg base k "power" 3 qc)(J:∀base,qF P w K mg base k "product" 3 qa):kI P w K mg k ql (J6 qb qc qa):=
 ⟨⟨rfl,rfl,rfl,ZU (by kernel_rfl)⟩,λ _ _ _ _=>rfl,λ base cl a c A outer s H E h x=>yE (ki x (y base) h (zj (zl 0) (zj (zl 1) (zj (zl 2) zx))))⟩
theorem zbd {K:Frag}{k:Nat}(T:Bu mg)(y:∀base,qF P w K mg base k "added" 3 qb)(Y:∀base,qF P w K mg base k "power" 3 qc)(J:∀base,qF P w K mg base k "product" 3 qa):∀t∈yG qb qc qa,kI P w K mg k ql t:=
 all_cons (EN T y Y J) (all_cons (F7 T y Y J) (all_cons (DF T y Y J) (all_cons (DB T y Y J) (all_cons (ER T y Y J) (all_cons (Ek T y Y J) (all_cons (E6 T y Y J) (all_cons (EO T y Y J) (all_cons (Et T y Y J) all_nil))))))))
def K3 (K:Fn)(b:Fn)(y:Fn)(w:Fn)(Q:Fn)(q:Fn)(a:Fn)(RF:Nat->List W->Hx->R W)(Pt:Addr)(PF:jE):Ex:=zr (Ys 3 4 (zF K (zh (zc 0) zm)) (zF w (zh (zc 0) zm))) (zr (zY 5 (zF b (zh (zc 0) (zh (zc 2) zm)))) (zr (zY 6 (zo zI (zU (zh (jJ QG (zi (.int 1))) (zh (zi (.int 9)) (zh (zi (.bl true)) (zh (zi .non) (zh (zi (.str "1")) (zh (zC (zh (zi (.int 1)) zm)) (zh (zo Qa (zi (.int 10)) (zi (.int 29))) zm)))))))) (zF y (zh (zc 0) (zh (zi (.int 7)) zm))))) (zr (yv (qC (zU (zh (zC (zh (zc 3) (zh (zU (zh (zi (.int 0)) zm)) zm))) (zh (zC (zh (zc 4) (zh (zU (zh (zi (.int 1)) zm)) zm))) zm)))) (jj 7 8) (zr (qM (zo q9 (wI (yG Q q a) PF (gf RF) (zh (j6 1 ql Pt 0 (PF 0)) zm)) (zc 8)) (zr (qd (zi (.bl false))) zA) zA) (zr (qM (zo q9 (wI (yG Q q a) PF (gf RF) (zh (j6 1 ql Pt 1 (PF 1)) zm)) (zc 8)) (zr (qd (zi (.bl false))) zA) zA) (zr (qM (zo q9 (wI (yG Q q a) PF (gf RF) (zh (j6 1 ql Pt 2 (PF 2)) zm)) (zc 8)) (zr (qd (zi (.bl false))) zA) zA) zA)))) (zr (zY 9 (zU (zh (j6 1 ql Pt 3 (PF 3)) zm))) (zr (jx (jQ j4 (zc 9) (j6 1 ql Pt 4 (PF 4)))) (zr (jx (jQ j4 (zc 9) (j6 1 ql Pt 5 (PF 5)))) (zr (jx (jQ j4 (zc 9) (j6 1 ql Pt 6 (PF 6)))) (zr (jx (jQ j4 (zc 9) (j6 1 ql Pt 7 (PF 7)))) (zr (qM (zo q9 (qp (Kw 1 (qC (zc 9)) (zN 0) 0 PF (yG Q q a) RF)) (zo qu (zU (zh (zU (zh (zi (.int 4)) zm)) zm)) (zi (.int 5)))) (zr (qd (zi (.bl false))) zA) zA) (zr (qd (zo jn (wI (yG Q q a) PF (gf RF) (zh (j6 1 ql Pt 8 (PF 8)) zm)) (zU (zh (zi (.int 5)) zm)))) zA))))))))))
theorem Mg {K:Frag}{k:Nat}(T:Bu mg)(F:kN K "_law_refusals_right" "_law_refusals_right" gz f fd)(hn:nsIn K mainGlobals "_law_refusals_right" = some (some (.ref f)))(l:tabIn K "_law_refusals_right" = some (c,Pt))(hm:mg "_law_refusals_right" = some (.ref f))(B:BMain mg base)(C:CodeHd base c Pt){i:Fn}(QN:zL P w K mg base k "_law_bad_table" 1 i){g:Fn}(QP:zL P w K mg base k "_law_bent_mix" 2 g){y:Fn}(yk:zL P w K mg base k "_law_take" 2 y){e:Fn}(QO:zL P w K mg base k "_law_unsteady" 1 e){RF:Nat->List W->Hx->R W}(b:kk<=k)(a:∀t∈yG qb qc qa,kI P w K mg j ql t)(d:∀base PG,(∀k,ZF P w K mg base (j+1) (PG k) (jS (yG qb qc qa) k))->zL P w K mg base kk "_law_refused" 1 (gO PG RF)):zL P w K mg base (k+1) "_law_refusals_right" 3 (Yp ql Pt λ PF=>qH 10 (K3 i g y e qb qc qa RF Pt PF)):=
 zaP (ls:=yG qb qc qa) F hn l hm Jw (λ _ _ _ _ _ _=>QK λ _ _ _=>rfl) λ A outer s H E h=>zy (Oe 3 4 rfl Jw.nd (qi QN h (zj (zl 0) zx)) (qi QO h (zj (zl 0) zx))) (zy (qw 5 Jw.nd (qi QP h (zj (zl 0) (zj (zl 2) zx)))) (zy (qw 6 Jw.nd (jc (qQ (zj (VO zu) (zj zu (zj yz (zj Z0 (zj Q2 (zj (z0 (zj zu zx) (zp zE)) (zj (WW zu zu) zx))))))) (zp (zp (zp (zp (zp (zp (zp zE)))))))) (qi yk h (zj (zl 0) (zj zu zx))))) (zy (wj PassesOwn.never rfl (yq (qQ (zj (z0 (zj (zl 3) (zj (qQ (zj zu zx) (zp zE)) zx)) (zp (zp zE))) (zj (z0 (zj (zl 4) (zj (qQ (zj zu zx) (zp zE)) zx)) (zp (zp zE))) zx)) (zp (zp zE)))) (we 7 8 rfl Jw.nd) (zy (jP (yt (kX h) (Wy (q:=ql) (λ _=>rfl) a (KW (by kernel_rfl)) d WR (h.mono b) (zj (ZV (ls:=yG qb qc qa) (t:=JV qb qc qa) rfl (by kernel_rfl) B rfl C rfl rfl) zx) (zp zE)) (zl 8)) (zy (qo yz) zJ) zJ) (zy (jP (yt (kX h) (Wy (q:=ql) (λ _=>rfl) a (KW (by kernel_rfl)) d WR (h.mono b) (zj (ZV (ls:=yG qb qc qa) (t:=J4 qb qc qa) rfl (by kernel_rfl) B rfl C rfl rfl) zx) (zp zE)) (zl 8)) (zy (qo yz) zJ) zJ) (zy (jP (yt (kX h) (Wy (q:=ql) (λ _=>rfl) a (KW (by kernel_rfl)) d WR (h.mono b) (zj (ZV (ls:=yG qb qc qa) (t:=JY qb qc qa) rfl (by kernel_rfl) B rfl C rfl rfl) zx) (zp zE)) (zl 8)) (zy (qo yz) zJ) zJ) zJ)))) (zy (qw 9 Jw.nd (qQ (zj (ZV (ls:=yG qb qc qa) (t:=Y8 qb qc qa) rfl (by kernel_rfl) B rfl C rfl rfl) zx) (zp zE))) (zy (yS (Zw (zl 9) (ZV (ls:=yG qb qc qa) (t:=Kb qb qc qa) rfl (by kernel_rfl) B rfl C rfl rfl))) (zy (yS (Zw (zl 9) (ZV (ls:=yG qb qc qa) (t:=Kc qb qc qa) rfl (by kernel_rfl) B rfl C rfl rfl))) (zy (yS (Zw (zl 9) (ZV (ls:=yG qb qc qa) (t:=Y9 qb qc qa) rfl (by kernel_rfl) B rfl C rfl rfl))) (zy (yS (Zw (zl 9) (ZV (ls:=yG qb qc qa) (t:=Kd qb qc qa) rfl (by kernel_rfl) B rfl C rfl rfl))) (zy (jP (yt (kX h) (DD (N:=["_law_call"]) (q:=ql) (λ _=>rfl) a (KW (by kernel_rfl)) d (h.mono b) rfl (cps (by kernel_rfl)) (by kernel_rfl) (yq (zl 9)) (λ _ _ _=>qI 0 (qK (by kernel_rfl))) rfl (Or.inl rfl) (λ _ _ _=>rfl)) (kq (qQ (zj (qQ (zj zu zx) (zp zE)) zx) (zp zE)) zu)) (zy (qo yz) zJ) zJ) (zy (qo (gJ (kG h) (Wy (q:=ql) (λ _=>rfl) a (KW (by kernel_rfl)) d WR (h.mono b) (zj (ZV (ls:=yG qb qc qa) (t:=J6 qb qc qa) rfl (by kernel_rfl) B rfl C rfl rfl) zx) (zp zE)) (qQ (zj zu zx) (zp zE)))) zJ))))))))))
abbrev Gz:Stmt:=top 62
theorem gF:qN ["_law_script","_law_k","_law_state_here","_law_table","_law_kinds_here","_law_one","_law_other","_law_due","_law_told","_law_both","_law_here","_law_times_here"] ["_law_script"] (qg Gz):=jh (by kernel_rfl)
def UG (y:Fn)(J:Fn)(a:Fn)(Y:Fn)(K:Fn)(g:Fn)(Q:Fn)(b:Fn)(M:Fn)(c:Fn)(d:Fn)(w:Fn):Ex:=zr (yv (qW (zo UE (zi (.int 1)) (zo Gx (mQ qy (qf (zc 0))) (zi (.int 5))))) (zN 1) (zr (zY 2 (zF b (zh (zc 0) (zh (zc 1) zm)))) (zr (zY 3 (zF a (zh (zc 2) zm))) (zr (zY 4 (zF J (zh (zc 3) zm))) (zr (Ys 5 6 (zF Y (zh (zc 2) (zh (zc 4) zm))) (zF Y (zh (zc 2) (zh (zc 4) zm)))) (zr (zY 7 (zF M (zh (zF Q (zh (zc 3) (zh (zc 5) zm))) (zh (zF Q (zh (zc 3) (zh (zc 6) zm))) zm)))) (zr (zY 8 (zF w (zh (zc 3) (zh (zc 5) (zh (zc 6) zm))))) (zr (qM (gW (yH (zF g (zh (zc 8) (zh (zF y (zh (zc 3) (zh (zc 7) zm))) zm)))) (zo q9 (zF Q (zh (zc 3) (zh (zc 8) zm))) (zc 7))) (zr (qd (zi (.bl false))) zA) zA) (zr (zY 9 (mQ yi (zS 2 [] (k9 (zc 5) (zc 6)) (jj 0 1) (zi (.bl true)) (zK (zo qx (zc 0) (zc 1)))))) (zr (qM (yH (zF g (zh (zF c (zh (zc 3) (zh (zc 5) (zh (zc 6) zm)))) (zh (zc 9) zm)))) (zr (qd (zi (.bl false))) zA) zA) (zr (zY 10 (qp (zS 1 [3] (qW (mQ qy (qf (zc 3)))) (zN 0) (zi (.bl true)) (zK (qp (zS 1 [0] (qW (mQ qy (qf (zc 1)))) (zN 0) (zi (.bl true)) (zK (jJ Zj (zo jn (zc 1) (zc 0)))))))))) (zr (yv (qW (zi (.int 9))) (zN 11) (zr (qM (yH (zF g (zh (zF d (zh (zc 3) (zh (zc 5) (zh (zc 11) zm)))) (zh (zF y (zh (zc 3) (zh (zc 10) zm))) zm)))) (zr (qd (zi (.bl false))) zA) zA) (zr (zY 10 (zF M (zh (zc 10) (zh (zF Q (zh (zc 3) (zh (zc 5) zm))) zm)))) zA))) (zr (qM (yH (zF K (zh (zc 2) (zh (zc 3) (zh (zc 5) zm))))) (zr (qd (zi (.bl false))) zA) zA) zA))))))))))))) (zr (qd (zi (.bl true))) zA)
theorem o_law {K:Frag}{k:Nat}(T:Bu mg)(F:kN K "law" "law" Gz f fd){y:Fn}(ZR:zL P w K mg base k "_law_back" 2 y){J:Fn}(Qp:zL P w K mg base k "_law_kinds" 1 J){a:Fn}(QT:zL P w K mg base k "_law_known" 1 a){Y:Fn}(ZS:zL P w K mg base k "_law_mix" 2 Y){e:Fn}(i:zL P w K mg base k "_law_refusals_right" 3 e){g:Fn}(gA:zL P w K mg base k "_law_same" 2 g){Q:Fn}(wW:zL P w K mg base k "_law_square" 2 Q){b:Fn}(JC:zL P w K mg base k "_law_state" 2 b){M:Fn}(Zt:zL P w K mg base k "_law_times" 2 M){c:Fn}(JW:zL P w K mg base k "added" 3 c){d:Fn}(J2:zL P w K mg base k "power" 3 d){z:Fn}(JI:zL P w K mg base k "product" 3 z):yN P w K mg base wC (k+1) f fd ["_law_script"] (Zr K 1 (qH 12 (UG y J a Y e g Q b M c d z))):=
 zcA F gF λ C A outer s H E h=>zy (wj PassesOwn.never rfl (jW rfl T.jN (Dr rfl T.QC zu (PJ rfl T.NH (kQ T.kY (yf (zl 0))) zu))) (qI 1 gF.nd) (zy (qw 2 gF.nd (qi JC h (zj (zl 0) (zj (zl 1) zx)))) (zy (qw 3 gF.nd (qi QT h (zj (zl 2) zx))) (zy (qw 4 gF.nd (qi Qp h (zj (zl 3) zx))) (zy (Oe 5 6 rfl gF.nd (qi ZS h (zj (zl 2) (zj (zl 4) zx))) (qi ZS h (zj (zl 2) (zj (zl 4) zx)))) (zy (qw 7 gF.nd (qi Zt h (zj (qi wW h (zj (zl 3) (zj (zl 5) zx))) (zj (qi wW h (zj (zl 3) (zj (zl 6) zx))) zx)))) (zy (qw 8 gF.nd (qi JI h (zj (zl 3) (zj (zl 5) (zj (zl 6) zx))))) (zy (jP (Y6 (Gq (Za (w6 (qi gA h (zj (zl 8) (zj (qi ZR h (zj (zl 3) (zj (zl 7) zx))) zx))))) (W9 (yt (kX h) (qi wW h (zj (zl 3) (zj (zl 8) zx))) (zl 7))))) (zy (qo yz) zJ) zJ) (zy (qw 9 gF.nd (gC T.kD (yU (qV (N:=["_law_a","_law_b"]) 2 [] (JT rfl T.Ym (zl 5) (zl 6)) (λ _ _ _=>⟨we 0 1 rfl (qK (by kernel_rfl)),qO,qP (j8 (zl 0) (zl 1))⟩))))) (zy (jP (Za (w6 (qi gA h (zj (qi JW h (zj (zl 3) (zj (zl 5) (zj (zl 6) zx)))) (zj (zl 9) zx))))) (zy (qo yz) zJ) zJ) (zy (X6 10 (N:=["_law_a","_law_table"]) 1 [3] gF.nd rfl (cps (by kernel_rfl)) (by kernel_rfl) (jW rfl T.jN (kQ T.kY (yf (zl 3)))) (λ _ _ _=>⟨qI 0 (qK (by kernel_rfl)),qO,qP (ym (qV (N:=["_law_b","_law_a"]) 1 [0] (jW rfl T.jN (kQ T.kY (yf (zl 1)))) (λ _ _ _=>⟨qI 0 (qK (by kernel_rfl)),qO,qP (JK T.Jh (gJ (kG h) (zl 1) (zl 0)))⟩)))⟩)) (zy (wj PassesOwn.never rfl (jW rfl T.jN zu) (qI 11 gF.nd) (zy (jP (Za (w6 (qi gA h (zj (qi J2 h (zj (zl 3) (zj (zl 5) (zj (zl 11) zx)))) (zj (qi ZR h (zj (zl 3) (zj (zl 10) zx))) zx))))) (zy (qo yz) zJ) zJ) (zy (qw 10 gF.nd (qi Zt h (zj (zl 10) (zj (qi wW h (zj (zl 3) (zj (zl 5) zx))) zx)))) zJ))) (zy (jP (Za (w6 (qi i h (zj (zl 2) (zj (zl 3) (zj (zl 5) zx)))))) (zy (qo yz) zJ) zJ) zJ))))))))))))) (zy (qo yz) zJ)
def Ws:Fn:=qH 1 RC
def Zv:Fn :=  Ws
def Pb:Fn:=qH 5 RX
def Vs:Fn:=iso Pb
def Tv:Fn:=qH 2 Tz
def Xr:Fn:=iso Tv
def Sz:Fn:=qH 1 Si
def JA:Fn:=iso Sz
def XX:Fn:=qH 6 SD
def JB:Fn:=iso XX
def Sh:Fn:=qH 3 Su
def Wh:Fn:=iso Sh
def T8:Fn:=qH 2 XF
def We:Fn :=  T8
def YN:Fn:=qH 4 Va
def yk:Fn:=gL YN
def X2:Fn:=qH 2 Rg
def Wo:Fn :=  X2
def Rc:Fn:=qH 1 SX
def Qp:Fn:=iso Rc
def XU:Fn:=qH 2 Sr
def wW:Fn :=  XU
def X1:Fn:=qH 4 S6
def Zt:Fn :=  X1
def Xx:Fn:=qH 2 (TV Zv)
def K5:Fn :=  Xx
def JE:Fn:=qH 2 (YR Zv)
def gB:Fn :=  JE
def T7:Fn:=qH 7 (Sd JA)
def Zs:Fn:=iso T7
def Vi:Fn:=qH 3 (RM Wh)
def JG:Fn :=  Vi
def Ra:Fn:=qH 3 (X3 We)
def JC:Fn :=  Ra
def Xw:Fn:=qH 4 (TU yk)
def Jy:Fn :=  Xw
def XZ:Fn:=qH 11 (X4 yk)
def Wj:Fn :=  XZ
def Ww:Fn:=qH 3 (RN yk)
def ZS:Fn:=gL Ww
def XB:Fn:=qH 5 (T6 yk)
def QP:Fn :=  XB
def Xz:Fn:=qH 2 (TZ yk)
def QO:Fn :=  Xz
def Xv:Fn:=qH 2 (TM yk)
def QN:Fn :=  Xv
def Vb:Fn:=qH 4 (Rm Qp)
def ZR:Fn :=  Vb
def K4:Fn:=qH 3 (Xu gB)
def Qm:Fn :=  K4
def Sn:Fn:=qH 3 (Sw JA Zs JB)
def Wi:Fn:=iso Sn
def XG:Fn:=qH 9 (Sa Zs JB)
def Wf:Fn:=iso XG
def QQ:Fn:=gk 2 (XO JA gB)
def Wl:Fn:=qH 4 (SR Jy Wo Wj)
def QT:Fn:=gL Wl
def Ie:Fn:=qH 2 (Qq (λ _ _=>.bad))
def Rb:Fn :=  Ie
def Ig:Fn:=qH 2 (Qq Rb)
def Rf:Fn :=  Ig
def Ir:Fn:=qH 2 (Qq Rf)
def gA:Fn :=  Ir
def YT:Fn:=qH 2 (Wu Vs Qm Xr)
def Zx:Fn :=  YT
def YH:Fn:=gk 1 (Xy Zx)
def Qn:Fn:=gk 1 (K8 Wf YH)
def jK:Fn:=gk 3 (JM Wi JG QQ Qn)
def JI:Fn:=iso (λ ws A=>(jK ws A).nox)
def jM:Fn:=gk 3 (JU QQ Qn)
def JW:Fn:=iso (λ ws A=>(jM ws A).nox)
def jL:Fn:=gk 6 (JX K5 Wi JG QQ Qn)
def J2:Fn:=iso (λ ws A=>(jL ws A).nox)
structure Tx (K:Frag):Prop where
 IZ:FD K "is_whole" RP
 HP:FD K "is_even" R0
 Mn:FD K "leaves_no_kind_out" Tw
 LI:FD K "count_kinds" Sy
 Lr:FD K "first_pairs" SH
 LF:FD K "multiply_at" SN
 Lo:FD K "_law_cell_at" T9
 IC:FD K "_law_take" Rl
 Im:FD K "_law_named" SO
 LN:FD K "_law_kinds" S7
 LD:FD K "_law_square" Sg
 Ib:FD K "_law_times" SU
 MD:FD K "is_whole_below" TY
 ID:FD K "is_wholes" Rt
 Lf:FD K "count_shares" Sf
 Hy:FD K "multiply" RR
 LU:FD K "_law_state" SV
 MJ:FD K "_law_mixed_row" TJ
 L4:FD K "_law_plain" S8
 IX:FD K "_law_mix" RA
 MV:FD K "_law_bent_mix" T4
 MW:FD K "_law_unsteady" T5
 MU:FD K "_law_bad_table" TH
 IF:FD K "_law_back" Rh
 MB:FD K "is_wholes_below" TF
 Lz:FD K "kind_shares" Ss
 Ll:FD K "search_break" Se
 Lw:FD K "require_mix" So
 L8:FD K "_law_known" S9
 X9:FD K "_law_same" X5
 IP:FD K "is_table" Rv
 M1:FD K "require_table" T3
 MO:FD K "require_steady" TR
 HD:FD K "product" RW
 Ba:FD K "added" OA
 Bq:FD K "power" Om
 Lc:FD K "_law_refused" XI
 Mk:FD K "_law_refusals_right" gz
 zaX:FD K "law" Gz
 L5:nsIn K mainGlobals "ValueError" = some none
 zbC:nsIn K mainGlobals "abs" = some none
 zaC:nsIn K mainGlobals "all" = some none
 Bz:nsIn K mainGlobals "bool" = some none
 IG:nsIn K mainGlobals "enumerate" = some none
 zbr:nsIn K mainGlobals "int" = some none
 Ih:nsIn K mainGlobals "isinstance" = some none
 zbt:nsIn K mainGlobals "len" = some none
 Ag:nsIn K mainGlobals "list" = some none
 zbN:nsIn K mainGlobals "max" = some none
 za2:nsIn K mainGlobals "min" = some none
 C7:nsIn K mainGlobals "range" = some none
 zbP:nsIn K mainGlobals "set" = some none
 E8:nsIn K mainGlobals "sorted" = some none
 zbf:nsIn K mainGlobals "sum" = some none
 Ck:nsIn K mainGlobals "tuple" = some none
 zbo:nsIn K mainGlobals "zip" = some none
 LK:CD K "MOST_PLACES" 8
 L6:CD K "MOST_TIMES" 8
 zaJ:qT.all (Gn K "NearError" ·)=true
 zbb:Ug K "NearError" = true
 zbu:WJ.all (QB K qT)=true
section
variable {K:Frag}
theorem bu (X:K.In h)(G:h.Ns mainGlobals mg)(T:Tx K):Bu mg:=⟨a7 X G T.L5,a7 X G T.zbC,a7 X G T.zaC,a7 X G T.Bz,a7 X G T.IG,a7 X G T.zbr,a7 X G T.Ih,a7 X G T.zbt,a7 X G T.Ag,a7 X G T.zbN,a7 X G T.za2,a7 X G T.C7,a7 X G T.zbP,a7 X G T.E8,a7 X G T.zbf,a7 X G T.Ck,a7 X G T.zbo,(let ⟨t,e⟩:=T.LK;⟨t,aX X G e⟩),(let ⟨t,e⟩:=T.L6;⟨t,aX X G e⟩)⟩
theorem cl (T:Tx K):wR K qT "NearError" := By T.zaJ T.zbb
structure Zz (K:Frag)(h:Heap)(mg:Str->Option Value):Prop where
 X:K.In h
 G:h.Ns mainGlobals mg
 T:Tx K
 B:Bu mg
 C:wR K qT "NearError"
theorem zz (X:K.In h)(G:h.Ns mainGlobals mg)(T:Tx K):Zz K h mg:=⟨X,G,T,bu X G T,cl T⟩
theorem RH (Z:Zz K h mg):zL P w K mg base 1 "is_whole" 1 Zv:=by
 obtain⟨f,fd,F,a⟩:=Z.T.IZ;exact(jI F (aX Z.X Z.G a) IK (λ _ _ _ _ _ _=>kO λ _=>rfl) λ c A outer s H E r=>zy (qo (Q0 (ZD .int Z.B.jZ Z.B.Jh (by rfl) (zl 0)) (J1 (Cq (ZD .bl Z.B.jZ Z.B.Uy (by rfl) (zl 0)))))) (zJ):zL P w K mg base 1 "is_whole" 1 Ws)
theorem Fc (Z:Zz K h mg):zL P w K mg base 1 "is_even" 1 Vs:=by
 obtain⟨f,fd,F,a⟩:=Z.T.HP;exact(jI F (aX Z.X Z.G a) Vf (λ _ _ _ _ _ _=>kO λ _=>rfl) λ c A outer s H E r=>zy (wj PassesOwn.never rfl (JR rfl Z.B.JF (zl 0)) (we 1 2 rfl Vf.nd) (zy (wj PassesOwn.never rfl (JR rfl Z.B.JF (zl 2)) (we 3 4 rfl Vf.nd) (zy (jP (Y6 (Gq (yt (kX r) (gJ (kG r) (zl 4) zu) (gJ (kG r) (zl 1) (zl 3))) (W9 (yt (kX r) (jc (jc (zl 0) (zl 3)) (zl 1)) (zl 4))))) (zy (qo yz) zJ) zJ) zJ)) zJ)) (zy (qo yz) zJ):zL P w K mg base 1 "is_even" 1 Pb).iso
theorem Mm (Z:Zz K h mg):zL P w K mg base 1 "leaves_no_kind_out" 1 Xr:=by
 obtain⟨f,fd,F,a⟩:=Z.T.Mn;exact(jI F (aX Z.X Z.G a) Tu (λ _ _ _ _ _ _=>kO λ _=>rfl) λ c A outer s H E r=>zy (qw 1 Tu.nd (ym (qV (N:=["row","kind"]) 2 [] (yq (zl 0)) (λ _ _ _=>⟨qI 0 (qK (by kernel_rfl)),qO,OM (λ _ _ z=>z) rfl rfl (by intro _ h;cases h<;>rfl) (yq (zl 0)) (qI 1 (qK (by kernel_rfl))) qO (qP (zl 1))⟩)))) (zy (qo (Ka rfl Z.B.Ku (yU (qV (N:=["kind","standing"]) 1 [1] (jW rfl Z.B.jN (QZ rfl Z.B.QC (yf (zl 1)))) (λ _ _ _=>⟨qI 0 (qK (by kernel_rfl)),qO,qP (AQ NV (zl 0) (zl 1))⟩))))) zJ):zL P w K mg base 1 "leaves_no_kind_out" 1 Tv).iso
theorem XS (Z:Zz K h mg):zL P w K mg base 1 "count_kinds" 1 JA:=by
 obtain⟨f,fd,F,a⟩:=Z.T.LI;exact(jI F (aX Z.X Z.G a) La (λ _ _ _ _ _ _=>kO λ _=>rfl) λ c A outer s H E r=>zy (qo (j8 (QZ rfl Z.B.QC (yU (qV (N:=["row"]) 1 [] (yq (zl 0)) (λ _ _ _=>⟨qI 0 (qK (by kernel_rfl)),qO,qP (QZ rfl Z.B.QC (yf (zl 0)))⟩)))) zu)) (zJ):zL P w K mg base 1 "count_kinds" 1 Sz).iso
theorem Sx (Z:Zz K h mg):zL P w K mg base 1 "first_pairs" 1 JB:=by
 obtain⟨f,fd,F,a⟩:=Z.T.Lr;exact(jI F (aX Z.X Z.G a) Wc (λ _ _ _ _ _ _=>kO λ _=>rfl) λ c A outer s H E r=>zy (qw 1 Wc.nd VU) (zy (wj PassesOwn.never rfl (JR rfl Z.B.JF (zl 0)) (we 2 3 rfl Wc.nd) (zy (wj PassesOwn.never rfl (JR rfl Z.B.JF (zl 3)) (we 4 5 rfl Wc.nd) (zy (yS (Hv (zl 1) (zl 5) (z0 (zj (zl 2) (zj (zl 4) zx)) (zp (zp zE))))) zJ)) zJ)) (zy (qo (zl 1)) zJ)):zL P w K mg base 1 "first_pairs" 1 XX).iso
theorem Lu (Z:Zz K h mg):zL P w K mg base 1 "multiply_at" 3 Wh:=by
 obtain⟨f,fd,F,a⟩:=Z.T.LF;exact(jI F (aX Z.X Z.G a) Ld (λ _ _ _ _ _ _=>QK λ _ _ _=>rfl) λ c A outer s H E r=>zy (qo (OE rfl Z.B.UD (yU (qV (N:=["first","row","second","many","other"]) 4 [2] (JT rfl Z.B.Ym (zl 1) (zl 0)) (λ _ _ _=>⟨we 0 1 rfl (qK (by kernel_rfl)),qO,OM (λ _ _ z=>z) rfl rfl (by intro _ h;cases h<;>rfl) (JT rfl Z.B.Ym (zl 4) (zl 1)) (we 2 3 rfl (qK (by kernel_rfl))) qO (qP (kq (kq (zl 0) (zl 2)) (zl 3)))⟩))))) (zJ):zL P w K mg base 1 "multiply_at" 3 Sh).iso
theorem Lj (Z:Zz K h mg):zL P w K mg base 1 "_law_cell_at" 2 We:=by
 obtain⟨f,fd,F,a⟩:=Z.T.Lo;exact(jI F (aX Z.X Z.G a) M3 (λ _ _ _ _ _ _=>wO λ _ _=>rfl) λ c A outer s H E r=>zy (jP (yt U0 (zl 1) (kQ Z.B.kY (yf (zl 0)))) (zy (qo (jc (zl 0) (zl 1))) zJ) zJ) (zy (qo zu) zJ):zL P w K mg base 1 "_law_cell_at" 2 T8)
theorem wd (Z:Zz K h mg):zL P w K mg base 1 "_law_take" 2 yk:=by
 obtain⟨f,fd,F,a⟩:=Z.T.IC;exact(jI F (aX Z.X Z.G a) Wn (λ _ _ _ _ _ _=>wO λ _ _=>rfl) λ c A outer s H E r=>zy (jP (w6 (jc (zl 0) zu)) (zy (qw 2 Wn.nd (Q6 (jc (zl 0) zu) (zl 1))) (zy (OV (QX (jc (zl 0) zu) (zl 1)) (zl 0) zu) (zy (qo (zl 2)) zJ))) zJ) (zy (OV (Q6 (j8 (kq (jc (zl 0) zu) zu) zu) zu) (zl 0) zu) (zy (qw 3 Wn.nd (Q6 (j8 (j8 (kq (jc (zl 0) zu) (jc (zl 0) zu)) (kq zu (jc (zl 0) zu))) zu) zu)) (zy (qw 3 Wn.nd (Q6 (j8 (kq (zl 3) (zl 3)) (kq zu (zl 3))) zu)) (zy (qo (Q6 (QX (zl 3) zu) (zl 1))) zJ)))):zL P w K mg base 1 "_law_take" 2 YN).gL
theorem L7 (Z:Zz K h mg):zL P w K mg base 1 "_law_named" 1 Wo:=by
 obtain⟨f,fd,F,a⟩:=Z.T.Im;exact(jI F (aX Z.X Z.G a) SK (λ _ _ _ _ _ _=>kO λ _=>rfl) λ c A outer s H E r=>zy (qw 1 SK.nd (IJ rfl Z.B.ED Z.B.zbO (Ds rfl Z.B.UD (ym (qV (N:=["_law_row"]) 1 [] (yq (zl 0)) (λ _ _ _=>⟨qI 0 (qK (by kernel_rfl)),qO,qP (Vu Z.B.QA (yf (zl 0)))⟩))) (qQ zx zE)))) (zy (qo (gC Z.B.kD (yU (qV (N:=["_law_row","_law_some"]) 1 [1] (yq (zl 0)) (λ _ _ _=>⟨qI 0 (qK (by kernel_rfl)),qO,qP (gC Z.B.kD (yU (qV (N:=["_law_kind","_law_some"]) 1 [1] (yq (zl 0)) (λ _ _ _=>⟨qI 0 (qK (by kernel_rfl)),qO,qP (HE r (zl 1) (zl 0))⟩))))⟩))))) zJ):zL P w K mg base 1 "_law_named" 1 X2)
theorem SY (Z:Zz K h mg):zL P w K mg base 1 "_law_kinds" 1 Qp:=by
 obtain⟨f,fd,F,a⟩:=Z.T.LN;exact(jI F (aX Z.X Z.G a) LH (λ _ _ _ _ _ _=>kO λ _=>rfl) λ c A outer s H E r=>zy (qo (j8 zu (QZ rfl Z.B.QC (yU (qV (N:=["_law_row"]) 1 [] (yq (zl 0)) (λ _ _ _=>⟨qI 0 (qK (by kernel_rfl)),qO,qP (QZ rfl Z.B.QC (yf (zl 0)))⟩)))))) (zJ):zL P w K mg base 1 "_law_kinds" 1 Rc).iso
theorem Lv (Z:Zz K h mg):zL P w K mg base 1 "_law_square" 2 wW:=by
 obtain⟨f,fd,F,a⟩:=Z.T.LD;exact(jI F (aX Z.X Z.G a) M7 (λ _ _ _ _ _ _=>wO λ _ _=>rfl) λ c A outer s H E r=>zy (qo (ym (qV (N:=["_law_row","_law_mix_here"]) 1 [1] (yq (zl 0)) (λ _ _ _=>⟨qI 0 (qK (by kernel_rfl)),qO,qP (ym (qV (N:=["_law_kind","_law_mix_here"]) 1 [1] (yq (zl 0)) (λ _ _ _=>⟨qI 0 (qK (by kernel_rfl)),qO,qP (jc (zl 1) (zl 0))⟩)))⟩)))) (zJ):zL P w K mg base 1 "_law_square" 2 XU)
theorem Ik (Z:Zz K h mg):zL P w K mg base 1 "_law_times" 2 Zt:=by
 obtain⟨f,fd,F,a⟩:=Z.T.Ib;exact(jI F (aX Z.X Z.G a) XN (λ _ _ _ _ _ _=>wO λ _ _=>rfl) λ c A outer s H E r=>zy (qw 2 XN.nd (qQ zx zE)) (zy (wj PassesOwn.never rfl (yq (zl 0)) (qI 3 XN.nd) (zy (yS (Zw (zl 2) (ym (qV (N:=["_law_b","_law_other","_law_row"]) 1 [1,3] (jW rfl Z.B.jN (kQ Z.B.kY (yf (zl 3)))) (λ _ _ _=>⟨qI 0 (qK (by kernel_rfl)),qO,qP (OE rfl Z.B.UD (yU (qV (N:=["_law_at","_law_b","_law_other","_law_row"]) 1 [0,1,2] (jW rfl Z.B.jN (kQ Z.B.kY (yf (zl 2)))) (λ _ _ _=>⟨qI 0 (qK (by kernel_rfl)),qO,qP (kq (jc (zl 3) (zl 0)) (jc (jc (zl 2) (zl 0)) (zl 1)))⟩))))⟩))))) zJ)) (zy (qo (zl 2)) zJ)):zL P w K mg base 1 "_law_times" 2 X1)
theorem MN (Z:Zz K h mg):zL P w K mg base 2 "is_whole_below" 2 K5:=by
 obtain⟨f,fd,F,a⟩:=Z.T.MD;exact(jI F (aX Z.X Z.G a) Mt (λ _ _ _ _ _ _=>wO λ _ _=>rfl) λ c A outer s H E r=>zy (qo (Q0 (qi (RH Z).up r (zj (zl 0) zx)) (J1 (O9 G0 U0 zu (zl 0) (zl 1))))) (zJ):zL P w K mg base 2 "is_whole_below" 2 Xx)
theorem Ri (Z:Zz K h mg):zL P w K mg base 2 "is_wholes" 2 gB:=by
 obtain⟨f,fd,F,a⟩:=Z.T.ID;exact(jI F (aX Z.X Z.G a) LY (λ _ _ _ _ _ _=>wO λ _ _=>rfl) λ c A outer s H E r=>zy (qo (Q0 (ZD .tup Z.B.jZ Z.B.kD (by rfl) (zl 0)) (Q0 (gJ (kG r) (kQ Z.B.kY (yf (zl 0))) (zl 1)) (J1 (Ka rfl Z.B.Ku (yU (qV (N:=["part"]) 1 [] (yq (zl 0)) (λ _ _ _=>⟨qI 0 (qK (by kernel_rfl)),qO,qP (qi (RH Z).up r (zj (zl 0) zx))⟩)))))))) (zJ):zL P w K mg base 2 "is_wholes" 2 JE)
theorem XD (Z:Zz K h mg):zL P w K mg base 2 "count_shares" 3 Zs:=by
 obtain⟨f,fd,F,a⟩:=Z.T.Lf;exact(jI F (aX Z.X Z.G a) K9 (λ _ _ _ _ _ _=>QK λ _ _ _=>rfl) λ c A outer s H E r=>zy (qw 3 K9.nd (qi (XS Z).up r (zj (zl 0) zx))) (zy (X6 4 (N:=["kind","many"]) 1 [3] K9.nd rfl (cps (by kernel_rfl)) (by kernel_rfl) (jW rfl Z.B.jN (zl 3)) (λ _ _ _=>⟨qI 0 (qK (by kernel_rfl)),qO,qP (kq (qQ (zj zu zx) (zp zE)) (zl 1))⟩)) (zy (wj PassesOwn.never rfl (JT rfl Z.B.Ym (jc (zl 0) (zl 1)) (jc (zl 0) (zl 2))) (we 5 6 rfl K9.nd) (zy (Ef (jc (zl 4) (zl 5)) (zl 6) zu) zJ)) (zy (qo (gC Z.B.kD (yU (qV (N:=["row"]) 1 [] (yq (zl 4)) (λ _ _ _=>⟨qI 0 (qK (by kernel_rfl)),qO,qP (gC Z.B.kD (yf (zl 0)))⟩))))) zJ))):zL P w K mg base 2 "count_shares" 3 T7).iso
theorem RI (Z:Zz K h mg):zL P w K mg base 2 "multiply" 3 JG:=by
 obtain⟨f,fd,F,a⟩:=Z.T.Hy;exact(jI F (aX Z.X Z.G a) Iz (λ _ _ _ _ _ _=>QK λ _ _ _=>rfl) λ c A outer s H E r=>zy (qo (gC Z.B.kD (yU (qV (N:=["by_kind","one","other"]) 1 [1,2] (yq (zl 0)) (λ _ _ _=>⟨qI 0 (qK (by kernel_rfl)),qO,qP (qi (Lu Z).up r (zj (zl 0) (zj (zl 1) (zj (zl 2) zx))))⟩))))) (zJ):zL P w K mg base 2 "multiply" 3 Vi)
theorem LZ (Z:Zz K h mg):zL P w K mg base 2 "_law_state" 2 JC:=by
 obtain⟨f,fd,F,a⟩:=Z.T.LU;exact(jI F (aX Z.X Z.G a) Sl (λ _ _ _ _ _ _=>wO λ _ _=>rfl) λ c A outer s H E r=>zy (qw 2 Sl.nd (qi (Lj Z).up r (zj (zl 0) (zj (zl 1) zx)))) (zy (jP (yt zb7 (zl 2) (WW zu zu)) (zy (qo (qQ (zj (Qv (zl 2) (WW zu zu)) (zj yz zx)) (zp (zp zE)))) zJ) zJ) (zy (qo (qQ (zj (Q6 (zl 2) zu) (zj yz zx)) (zp (zp zE)))) zJ)):zL P w K mg base 2 "_law_state" 2 Ra)
theorem TX (Z:Zz K h mg):zL P w K mg base 2 "_law_mixed_row" 2 Jy:=by
 obtain⟨f,fd,F,a⟩:=Z.T.MJ;exact(jI F (aX Z.X Z.G a) Xs (λ _ _ _ _ _ _=>wO λ _ _=>rfl) λ c A outer s H E r=>zy (qw 2 Xs.nd (Vu Z.B.QA (yf (zl 1)))) (zy (qw 3 Xs.nd (qQ zx zE)) (zy (Fp 1000 PassesOwn.never (yt (kX r) (zl 2) (qQ zx zE)) (zy (yS (Zw (zl 3) (FX (zl 2) (qi (wd Z).up r (zj (zl 0) (zj (kQ Z.B.kY (yf (zl 2))) zx)))))) zJ)) (zy (qo (zl 3)) zJ))):zL P w K mg base 2 "_law_mixed_row" 2 Xw)
theorem L9 (Z:Zz K h mg):zL P w K mg base 2 "_law_plain" 1 Wj:=by
 obtain⟨f,fd,F,a⟩:=Z.T.L4;exact(jI F (aX Z.X Z.G a) wF (λ _ _ _ _ _ _=>kO λ _=>rfl) λ c A outer s H E r=>zy (qw 1 wF.nd (qi (wd Z).up r (zj (zl 0) (zj zu zx)))) (zy (qw 2 wF.nd (jc (qQ (zj zu (zj zu (zj zu (zj zu (zj zu (zj zu (zj zu (zj zu zx)))))))) (zp (zp (zp (zp (zp (zp (zp (zp zE))))))))) (qi (wd Z).up r (zj (zl 0) (zj zu zx))))) (zy (jP (yt (kG r) (zl 1) zu) (zy (qo (ym (qV (N:=["_law_a","_law_many"]) 1 [2] (jW rfl Z.B.jN (zl 2)) (λ _ _ _=>⟨qI 0 (qK (by kernel_rfl)),qO,qP (ym (qV (N:=["_law_b","_law_a","_law_many"]) 1 [0,1] (jW rfl Z.B.jN (zl 1)) (λ _ _ _=>⟨qI 0 (qK (by kernel_rfl)),qO,qP (PJ rfl Z.B.NH (VS Z.B.UL (Qv (zl 1) (zl 0))) (Qv (zl 2) (VS Z.B.UL (Qv (zl 1) (zl 0)))))⟩)))⟩)))) zJ) zJ) (zy (jP (yt (kG r) (zl 1) zu) (zy (qw 2 wF.nd (jc (qQ (zj zu (zj zu (zj zu zx))) (zp (zp (zp zE)))) (qi (wd Z).up r (zj (zl 0) (zj zu zx))))) (zy (qo (ym (qV (N:=["_law_a","_law_many"]) 1 [2] (jW rfl Z.B.jN (zl 2)) (λ _ _ _=>⟨qI 0 (qK (by kernel_rfl)),qO,qP (ym (qV (N:=["_law_b","_law_a"]) 1 [0] (jW rfl Z.B.jN (zl 1)) (λ _ _ _=>⟨qI 0 (qK (by kernel_rfl)),qO,qP (jc (qQ (zj zu (zj zu (zj zu (zj zu (zj zu (zj zu (zj zu (zj zu zx)))))))) (zp (zp (zp (zp (zp (zp (zp (zp zE))))))))) (OF (zl 1) (zl 0)))⟩)))⟩)))) zJ)) zJ) (zy (jP (yt (kG r) (zl 1) zu) (zy (qo (ym (qV (N:=["_law_a","_law_many"]) 1 [2] (jW rfl Z.B.jN (zl 2)) (λ _ _ _=>⟨qI 0 (qK (by kernel_rfl)),qO,qP (ym (qV (N:=["_law_b","_law_a"]) 1 [0] (jW rfl Z.B.jN (zl 1)) (λ _ _ _=>⟨qI 0 (qK (by kernel_rfl)),qO,qP (JK Z.B.Jh (gJ (kX r) (zl 1) (zl 0)))⟩)))⟩)))) zJ) zJ) (zy (jP (yt (kG r) (zl 1) zu) (zy (C2 (jc (qQ (zj (z0 (zj zu (zj zu zx)) (zp (zp zE))) (zj (z0 (zj zu (zj zu zx)) (zp (zp zE))) (zj (z0 (zj zu (zj zu zx)) (zp (zp zE))) (zj (z0 (zj zu (zj zu zx)) (zp (zp zE))) (zj (z0 (zj zu (zj zu zx)) (zp (zp zE))) zx))))) (zp (zp (zp (zp (zp zE)))))) (qi (wd Z).up r (zj (zl 0) (zj zu zx)))) (we 3 4 rfl wF.nd)) (zy (qw 2 wF.nd (kq (zl 3) (zl 4))) (zy (qo (ym (qV (N:=["_law_a","_law_many","_law_wide"]) 1 [2,3] (jW rfl Z.B.jN (zl 2)) (λ _ _ _=>⟨qI 0 (qK (by kernel_rfl)),qO,qP (ym (qV (N:=["_law_b","_law_a","_law_wide"]) 1 [0,2] (jW rfl Z.B.jN (zl 1)) (λ _ _ _=>⟨qI 0 (qK (by kernel_rfl)),qO,qP (j8 (JK Z.B.Jh (gJ (kX r) (zl 1) (zl 0))) (JK Z.B.Jh (gJ (kX r) (QX (zl 1) (zl 2)) (QX (zl 0) (zl 2)))))⟩)))⟩)))) zJ))) zJ) (zy (jP (yt (kG r) (zl 1) zu) (zy (qw 5 wF.nd (qQ (zj (z0 (zj zu (zj zu zx)) (zp (zp zE))) (zj (z0 (zj zu (zj zu zx)) (zp (zp zE))) (zj (z0 (zj zu (zj zu zx)) (zp (zp zE))) (zj (z0 (zj zu (zj zu zx)) (zp (zp zE))) (zj (z0 (zj zu (zj zu zx)) (zp (zp zE))) (zj (z0 (zj zu (zj zu zx)) (zp (zp zE))) zx)))))) (zp (zp (zp (zp (zp (zp zE)))))))) (zy (qo (ym (qV (N:=["_law_a","_law_some"]) 1 [5] (yq (zl 5)) (λ _ _ _=>⟨qI 0 (qK (by kernel_rfl)),qO,qP (ym (qV (N:=["_law_b","_law_a"]) 1 [0] (yq (zl 1)) (λ _ _ _=>⟨qI 0 (qK (by kernel_rfl)),qO,qP (Qv zu (kQ Z.B.kY (yU (qV (N:=["_law_one","_law_b"]) 1 [0] (yq (zl 1)) (λ _ _ _=>⟨qI 0 (qK (by kernel_rfl)),PR (zaa NV (zl 0) (zl 1)),qP (zl 0)⟩)))))⟩)))⟩)))) zJ)) zJ) (zy (jP (yt (kG r) (zl 1) zu) (zy (qw 2 wF.nd (jc (qQ (zj zu (zj zu (zj zu zx))) (zp (zp (zp zE)))) (qi (wd Z).up r (zj (zl 0) (zj zu zx))))) (zy (qo (ym (qV (N:=["_law_a","_law_many"]) 1 [2] (jW rfl Z.B.jN (zl 2)) (λ _ _ _=>⟨qI 0 (qK (by kernel_rfl)),qO,qP (ym (qV (N:=["_law_b","_law_a"]) 1 [0] (jW rfl Z.B.jN (zl 1)) (λ _ _ _=>⟨qI 0 (qK (by kernel_rfl)),qO,qP (OF (zl 1) (zl 0))⟩)))⟩)))) zJ)) zJ) (zy (qw 3 wF.nd (jc (qQ (zj zu (zj zu (zj zu zx))) (zp (zp (zp zE)))) (qi (wd Z).up r (zj (zl 0) (zj zu zx))))) (zy (qw 6 wF.nd (qQ (zj zu (zj zu (zj (jc (qQ (zj zu (zj zu zx)) (zp (zp zE))) (JK Z.B.Jh (gJ (kG r) (zl 3) zu))) (zj zu zx)))) (zp (zp (zp (zp zE)))))) (zy (qw 7 wF.nd (qQ zx zE)) (zy (wj PassesOwn.never rfl (jW rfl Z.B.jN (kq zu (zl 3))) (qI 8 wF.nd) (zy (qw 9 wF.nd (ym (qV (N:=["_law_b","_law_wide","_law_ring","_law_a"]) 1 [3,6,8] (jW rfl Z.B.jN (kq zu (zl 3))) (λ _ _ _=>⟨qI 0 (qK (by kernel_rfl)),qO,qP (jc (zl 2) (Q6 (VS Z.B.UL (Qv (zl 3) (zl 0))) (zl 1)))⟩)))) (zy (qw 10 wF.nd (ym (qV (N:=["_law_b","_law_wide","_law_a"]) 1 [3,8] (jW rfl Z.B.jN (kq zu (zl 3))) (λ _ _ _=>⟨qI 0 (qK (by kernel_rfl)),qO,qP (JK Z.B.Jh (gJ (kX r) (QX (zl 2) (zl 1)) (QX (zl 0) (zl 1))))⟩)))) (zy (jP (yt (kG r) (zl 1) zu) (zy (yS (Zw (zl 7) (ym (qV (N:=["_law_b","_law_near","_law_far"]) 1 [9,10] (jW rfl Z.B.jN (kq zu (zl 3))) (λ _ _ _=>⟨qI 0 (qK (by kernel_rfl)),qO,qP (j8 (kq zu (jc (zl 2) (zl 0))) (jc (zl 1) (zl 0)))⟩))))) zJ) (zy (yS (Zw (zl 7) (ym (qV (N:=["_law_b","_law_near","_law_far"]) 1 [9,10] (jW rfl Z.B.jN (kq zu (zl 3))) (λ _ _ _=>⟨qI 0 (qK (by kernel_rfl)),qO,qP (Ap (yt (kG r) (jc (zl 2) (zl 0)) zu) zu (jc (zl 1) (zl 0)))⟩))))) zJ)) zJ)))) (zy (qo (zl 7)) zJ)))))))))))):zL P w K mg base 2 "_law_plain" 1 XZ)
theorem IT (Z:Zz K h mg):zL P w K mg base 2 "_law_mix" 2 ZS:=by
 obtain⟨f,fd,F,a⟩:=Z.T.IX;exact(jI F (aX Z.X Z.G a) Rp (λ _ _ _ _ _ _=>wO λ _ _=>rfl) λ c A outer s H E r=>zy (qw 2 Rp.nd (jc (qQ (zj zu (zj zu (zj zu (zj (WW zu zu) zx)))) (zp (zp (zp (zp zE))))) (qi (wd Z).up r (zj (zl 0) (zj zu zx))))) (zy (qo (gC Z.B.kD (yU (qV (N:=["_law_kind","_law_state_here","_law_far"]) 1 [0,2] (jW rfl Z.B.jN (zl 1)) (λ _ _ _=>⟨qI 0 (qK (by kernel_rfl)),qO,qP (Qv (qi (wd Z).up r (zj (zl 1) (zj (zl 2) zx))) (QX (zl 2) zu))⟩))))) zJ):zL P w K mg base 2 "_law_mix" 2 Ww).gL
theorem MY (Z:Zz K h mg):zL P w K mg base 2 "_law_bent_mix" 2 QP:=by
 obtain⟨f,fd,F,a⟩:=Z.T.MV;exact(jI F (aX Z.X Z.G a) K6 (λ _ _ _ _ _ _=>wO λ _ _=>rfl) λ c A outer s H E r=>zy (qw 2 K6.nd (qi (wd Z).up r (zj (zl 0) (zj (kQ Z.B.kY (yf (zl 1))) zx)))) (zy (qw 3 K6.nd (jc (qQ (zj yz (zj Z0 (zj Q2 (zj (z0 (zj zu zx) (zp zE)) (zj (qQ (zj zu zx) (zp zE)) (zj yz zx)))))) (zp (zp (zp (zp (zp (zp zE))))))) (qi (wd Z).up r (zj (zl 0) (zj zu zx))))) (zy (qw 4 K6.nd (qQ (zj (j8 (j8 (Gb (zl 1) Gj (W3 (zl 2))) (z0 (zj (zl 3) zx) (zp zE))) (Gb (zl 1) (W3 (j8 (zl 2) zu)) Gj)) (zj (j8 (zl 1) (z0 (zj zu zx) (zp zE))) (zj (Gb (zl 1) (W3 zu) Gj) (zj (Vu Z.B.QA (yf (zl 1))) (zj Z0 (zj VU (zj zu (zj (j8 (z0 (zj (zl 1) zx) (zp zE)) (Gb (zl 1) (W3 zu) Gj)) zx)))))))) (zp (zp (zp (zp (zp (zp (zp (zp zE)))))))))) (zy (qo (jc (zl 4) (qi (wd Z).up r (zj (zl 0) (zj zu zx))))) zJ))):zL P w K mg base 2 "_law_bent_mix" 2 XB)
theorem M0 (Z:Zz K h mg):zL P w K mg base 2 "_law_unsteady" 1 QO:=by
 obtain⟨f,fd,F,a⟩:=Z.T.MW;exact(jI F (aX Z.X Z.G a) TK (λ _ _ _ _ _ _=>kO λ _=>rfl) λ c A outer s H E r=>zy (qw 1 TK.nd (qQ (zj (z0 (zj (z0 (zj zu (zj zu (zj zu zx))) (zp (zp (zp zE)))) (zj (z0 (zj zu (zj zu (zj zu zx))) (zp (zp (zp zE)))) (zj (z0 (zj zu (zj zu (zj zu zx))) (zp (zp (zp zE)))) zx))) (zp (zp (zp zE)))) (zj (z0 (zj (z0 (zj zu (zj zu (zj zu (zj zu zx)))) (zp (zp (zp (zp zE))))) (zj (z0 (zj zu (zj zu (zj zu (zj zu zx)))) (zp (zp (zp (zp zE))))) (zj (z0 (zj zu (zj zu (zj zu (zj zu zx)))) (zp (zp (zp (zp zE))))) (zj (z0 (zj zu (zj zu (zj zu (zj zu zx)))) (zp (zp (zp (zp zE))))) zx)))) (zp (zp (zp (zp zE))))) zx)) (zp (zp zE)))) (zy (yS (Zw (zl 1) (z0 (zj (z0 (zj zu (zj zu (zj zu (zj zu zx)))) (zp (zp (zp (zp zE))))) (zj (z0 (zj zu (zj zu (zj zu (zj zu zx)))) (zp (zp (zp (zp zE))))) (zj (z0 (zj zu (zj zu (zj zu (zj zu zx)))) (zp (zp (zp (zp zE))))) (zj (z0 (zj zu (zj zu (zj zu (zj zu zx)))) (zp (zp (zp (zp zE))))) zx)))) (zp (zp (zp (zp zE))))))) (zy (qo (jc (zl 1) (qi (wd Z).up r (zj (zl 0) (zj zu zx))))) zJ)):zL P w K mg base 2 "_law_unsteady" 1 Xz)
theorem MK (Z:Zz K h mg):zL P w K mg base 2 "_law_bad_table" 1 QN:=by
 obtain⟨f,fd,F,a⟩:=Z.T.MU;exact(jI F (aX Z.X Z.G a) YG (λ _ _ _ _ _ _=>kO λ _=>rfl) λ c A outer s H E r=>zy (qw 1 YG.nd (qQ (zj Z0 (zj zu (zj (z0 zx zE) (zj (z0 (zj (z0 zx zE) zx) (zp zE)) (zj (z0 (zj (z0 (zj zu zx) (zp zE)) zx) (zp zE)) (zj (qQ (zj (qQ (zj zu zx) (zp zE)) zx) (zp zE)) (zj (z0 (zj (qQ (zj zu zx) (zp zE)) zx) (zp zE)) (zj (z0 (zj (z0 (zj zu zx) (zp zE)) (zj (z0 (zj zu zx) (zp zE)) zx)) (zp (zp zE))) (zj (z0 (zj (z0 (zj zu (zj zu zx)) (zp (zp zE))) (zj (z0 (zj zu (zj zu zx)) (zp (zp zE))) zx)) (zp (zp zE))) (zj (z0 (zj (z0 (zj zu (zj zu zx)) (zp (zp zE))) (zj (z0 (zj zu (zj zu zx)) (zp (zp zE))) zx)) (zp (zp zE))) (zj VU zx))))))))))) (zp (zp (zp (zp (zp (zp (zp (zp (zp (zp (zp zE))))))))))))) (zy (qw 1 YG.nd (j8 (zl 1) (qQ (zj (z0 (zj (z0 (zj zu (zj zu zx)) (zp (zp zE))) (zj (z0 (zj zu (zj zu zx)) (zp (zp zE))) zx)) (zp (zp zE))) (zj (z0 (zj (z0 (zj yz zx) (zp zE)) zx) (zp zE)) (zj (z0 (zj (z0 (zj zu (zj yz zx)) (zp (zp zE))) (zj (z0 (zj yz (zj zu zx)) (zp (zp zE))) zx)) (zp (zp zE))) (zj (z0 (zj (z0 (zj zu (zj (VO zu) zx)) (zp (zp zE))) (zj (z0 (zj (VO zu) (zj zu zx)) (zp (zp zE))) zx)) (zp (zp zE))) (zj (z0 (zj (z0 (zj zu (zj zu zx)) (zp (zp zE))) (zj (z0 (zj zu (zj zu zx)) (zp (zp zE))) (zj (z0 (zj zu (zj zu zx)) (zp (zp zE))) zx))) (zp (zp (zp zE)))) zx))))) (zp (zp (zp (zp (zp zE)))))))) (zy (qw 1 YG.nd (j8 (zl 1) (qQ (zj (z0 (zj (z0 (zj zu (zj zu (zj zu zx))) (zp (zp (zp zE)))) (zj (z0 (zj zu (zj zu (zj zu zx))) (zp (zp (zp zE)))) (zj (z0 (zj zu (zj zu (zj zu zx))) (zp (zp (zp zE)))) zx))) (zp (zp (zp zE)))) (zj Q2 (zj (z0 (zj (z0 (zj zu (zj zu (zj zu zx))) (zp (zp (zp zE)))) (zj (z0 (zj zu (zj zu (zj zu zx))) (zp (zp (zp zE)))) (zj (z0 (zj zu (zj zu (zj zu zx))) (zp (zp (zp zE)))) zx))) (zp (zp (zp zE)))) (zj (z0 (zj (z0 (zj zu zx) (zp zE)) (zj (z0 zx zE) zx)) (zp (zp zE))) (zj (z0 (zj zu zx) (zp zE)) zx))))) (zp (zp (zp (zp (zp zE)))))))) (zy (qw 1 YG.nd (j8 (zl 1) (qQ (zj (z0 (zj (z0 (zj Z0 zx) (zp zE)) zx) (zp zE)) (zj (z0 (zj (z0 (zj zu (zj zu zx)) (zp (zp zE))) (zj (z0 (zj zu (zj zu zx)) (zp (zp zE))) zx)) (zp (zp zE))) zx)) (zp (zp zE))))) (zy (qo (jc (zl 1) (qi (wd Z).up r (zj (zl 0) (zj zu zx))))) zJ)))):zL P w K mg base 2 "_law_bad_table" 1 Xv)
theorem Iw (Z:Zz K h mg):zL P w K mg base 2 "_law_back" 2 ZR:=by
 obtain⟨f,fd,F,a⟩:=Z.T.IF;exact(jI F (aX Z.X Z.G a) X0 (λ _ _ _ _ _ _=>wO λ _ _=>rfl) λ c A outer s H E r=>zy (qw 2 X0.nd (qQ zx zE)) (zy (wj PassesOwn.never rfl (jW rfl Z.B.jN (qi (SY Z).up r (zj (zl 0) zx))) (qI 3 X0.nd) (zy (yS (Zw (zl 2) (jc (jc (zl 1) zu) (I9 (jc (zl 0) zu) (zl 3))))) zJ)) (zy (qo (gC Z.B.kD (yf (zl 2)))) zJ)):zL P w K mg base 2 "_law_back" 2 Vb)
theorem Mw (Z:Zz K h mg):zL P w K mg base 3 "is_wholes_below" 3 Qm:=by
 obtain⟨f,fd,F,a⟩:=Z.T.MB;exact(jI F (aX Z.X Z.G a) Mq (λ _ _ _ _ _ _=>QK λ _ _ _=>rfl) λ c A outer s H E r=>zy (qo (Q0 (qi (Ri Z).up r (zj (zl 0) (zj (zl 1) zx))) (J1 (Ka rfl Z.B.Ku (yU (qV (N:=["part","limit"]) 1 [2] (yq (zl 0)) (λ _ _ _=>⟨qI 0 (qK (by kernel_rfl)),qO,qP (O9 G0 U0 zu (zl 0) (zl 1))⟩))))))) (zJ):zL P w K mg base 3 "is_wholes_below" 3 K4)
theorem Sv (Z:Zz K h mg):zL P w K mg base 3 "kind_shares" 1 Wi:=by
 obtain⟨f,fd,F,a⟩:=Z.T.Lz;exact(jI F (aX Z.X Z.G a) XH (λ _ _ _ _ _ _=>kO λ _=>rfl) λ c A outer s H E r=>zy (qw 1 XH.nd (qi (Sx Z).up r (zj (zl 0) zx))) (zy (X6 2 (N:=["kind","firsts"]) 1 [1] XH.nd rfl (cps (by kernel_rfl)) (by kernel_rfl) (jW rfl Z.B.jN (qi (XS Z).up r (zj (zl 0) zx))) (λ _ _ _=>⟨qI 0 (qK (by kernel_rfl)),qO,qP (HR r (zl 1) (zl 0))⟩)) (zy (qo (ym (qV (N:=["a","b","table"]) 2 [0] (yq (zl 2)) (λ _ _ _=>⟨we 0 1 rfl (qK (by kernel_rfl)),qO,qP (qi (XD Z).up r (zj (zl 2) (zj (zl 0) (zj (zl 1) zx))))⟩)))) zJ)):zL P w K mg base 3 "kind_shares" 1 Sn).iso
theorem M6 (Z:Zz K h mg):zL P w K mg base 3 "search_break" 1 Wf:=by
 obtain⟨f,fd,F,a⟩:=Z.T.Ll;exact(jI F (aX Z.X Z.G a) YI (λ _ _ _ _ _ _=>kO λ _=>rfl) λ c A outer s H E r=>zy (wj PassesOwn.never rfl (HY (qi (Sx Z).up r (zj (zl 0) zx))) (FN 1 2 3 rfl YI.nd) (zy (qw 4 YI.nd (qi (XD Z).up r (zj (zl 0) (zj (zl 2) (zj (zl 3) zx))))) (zy (wj PassesOwn.never rfl (JR rfl Z.B.JF (zl 0)) (we 5 6 rfl YI.nd) (zy (wj PassesOwn.never rfl (JR rfl Z.B.JF (zl 6)) (we 7 8 rfl YI.nd) (zy (jP (Y6 (CP (yt (kG r) (zl 8) (zl 1)) (Dm (yt (kX r) (qi (XD Z).up r (zj (zl 0) (zj (zl 5) (zj (zl 7) zx)))) (zl 4))))) (zy (qo (z0 (zj (zl 2) (zj (zl 3) (zj (zl 5) (zj (zl 7) zx)))) (zp (zp (zp (zp zE)))))) zJ) zJ) zJ)) zJ)) zJ))) (zy (qo Z0) zJ):zL P w K mg base 3 "search_break" 1 XG).iso
theorem YK (Z:Zz K h mg):qF P w K mg base 3 "require_mix" 2 QQ:=by
 obtain⟨f,fd,F,a⟩:=Z.T.Lw;exact(Yt F (aX Z.X Z.G a) Lp (λ _ _ _ _ _ _=>wO λ _ _=>rfl) λ c A outer s H E r x=>zy (jP (WY (Za (w6 (qi (Ri Z).up r (zj (zl 1) (zj (qi (XS Z).up r (zj (zl 0) zx)) zx)))))) (zy (Wr x (Z.C.exc "NoMix" (by decide +kernel)) (zj Q2 zx) (zp zE)) zJ) zJ) (zJ):qF P w K mg base 3 "require_mix" 2 QQ)
theorem LV (Z:Zz K h mg):zL P w K mg base 3 "_law_known" 1 QT:=by
 obtain⟨f,fd,F,a⟩:=Z.T.L8;exact(jI F (aX Z.X Z.G a) Wg (λ _ _ _ _ _ _=>kO λ _=>rfl) λ c A outer s H E r=>zy (qw 1 Wg.nd (qi (L7 Z).up r (zj (qi (L9 Z).up r (zj (zl 0) zx)) zx))) (zy (qw 2 Wg.nd (qi (TX Z).up r (zj (zl 0) (zj (Hd rfl Z.B.QA Z.B.jN (kQ Z.B.kY (yf (zl 1)))) zx)))) (zy (qw 3 Wg.nd (j8 (qQ (zj zu zx) (zp zE)) (qi (TX Z).up r (zj (zl 0) (zj (Hu rfl Z.B.QA Z.B.jN zu (j8 zu (QZ rfl Z.B.QC (yU (qV (N:=["_law_row"]) 1 [] (yq (zl 1)) (λ _ _ _=>⟨qI 0 (qK (by kernel_rfl)),qO,qP (QZ rfl Z.B.QC (yf (zl 0)))⟩)))))) zx))))) (zy (qo (gC Z.B.kD (yU (qV (N:=["_law_a","_law_rows","_law_order","_law_kinds_here"]) 1 [1,2,3] (yq (zl 2)) (λ _ _ _=>⟨qI 0 (qK (by kernel_rfl)),qO,qP (gC Z.B.kD (yU (qV (N:=["_law_b","_law_a","_law_rows","_law_kinds_here"]) 1 [0,1,3] (yq (zl 2)) (λ _ _ _=>⟨qI 0 (qK (by kernel_rfl)),qO,qP (jc (zl 3) (jc (jc (zl 2) (zl 1)) (zl 0)))⟩))))⟩))))) zJ))):zL P w K mg base 3 "_law_known" 1 Wl).gL
theorem Ic (Z:Zz K h mg):zL P w K mg base 1 "_law_same" 2 Rb:=by
 obtain⟨f,fd,F,a⟩:=Z.T.X9;exact(Vc (k:=0) Z.B F (aX Z.X Z.G a) (za5 (ps:=["_law_found","_law_due"]) F (aX Z.X Z.G a) (λ _ _ _ _ _ _=>wO λ _ _=>rfl)))
theorem LO (Z:Zz K h mg):zL P w K mg base 2 "_law_same" 2 Rf:=by
 obtain⟨f,fd,F,a⟩:=Z.T.X9;exact(Vc (k:=1) Z.B F (aX Z.X Z.G a) (Ic Z))
theorem Iv (Z:Zz K h mg):zL P w K mg base 3 "_law_same" 2 gA:=by
 obtain⟨f,fd,F,a⟩:=Z.T.X9;exact(Vc (k:=2) Z.B F (aX Z.X Z.G a) (LO Z))
theorem IW (Z:Zz K h mg):zL P w K mg base 4 "is_table" 1 Zx:=by
 obtain⟨f,fd,F,a⟩:=Z.T.IP;exact(jI F (aX Z.X Z.G a) Rq (λ _ _ _ _ _ _=>kO λ _=>rfl) λ c A outer s H E r=>zy (jP (Y6 (Gq (Za (w6 (ZD .tup Z.B.jZ Z.B.kD (by rfl) (zl 0)))) (W9 (Za (BO G0 G0 zu (kQ Z.B.kY (yf (zl 0))) (P6 rfl Z.B.LG.choose_spec)))))) (zy (qo yz) zJ) zJ) (zy (qw 1 Rq.nd (kQ Z.B.kY (yf (zl 0)))) (zy (jP (Za (w6 (Ka rfl Z.B.Ku (yU (qV (N:=["row","many"]) 1 [1] (yq (zl 0)) (λ _ _ _=>⟨qI 0 (qK (by kernel_rfl)),qO,qP (qi (Mw Z).up r (zj (zl 0) (zj (zl 1) (zj (zl 1) zx))))⟩)))))) (zy (qo yz) zJ) zJ) (zy (qo (Q0 (qi (Fc Z).up r (zj (zl 0) zx)) (J1 (qi (Mm Z).up r (zj (zl 0) zx))))) zJ))):zL P w K mg base 4 "is_table" 1 YT)
theorem MH (Z:Zz K h mg):qF P w K mg base 5 "require_table" 1 YH:=by
 obtain⟨f,fd,F,a⟩:=Z.T.M1;exact(Yt F (aX Z.X Z.G a) MR (λ _ _ _ _ _ _=>kO λ _=>rfl) λ c A outer s H E r x=>zy (jP (WY (Za (w6 (qi (IW Z).up r (zj (zl 0) zx))))) (zy (Wr x (Z.C.exc "NoTable" (by decide +kernel)) (zj Q2 zx) (zp zE)) zJ) zJ) (zJ):qF P w K mg base 5 "require_table" 1 YH)
theorem Xt (Z:Zz K h mg):qF P w K mg base 6 "require_steady" 1 Qn:=by
 obtain⟨f,fd,F,a⟩:=Z.T.MO;exact(Yt F (aX Z.X Z.G a) Mx (λ _ _ _ _ _ _=>kO λ _=>rfl) λ c A outer s H E r x=>zy (yS (ki x (MH Z).up r (zj (zl 0) zx))) (zy (jP (WY (yt Br (qi (M6 Z).up r (zj (zl 0) zx)) Z0)) (zy (Wr x (Z.C.exc "NotSteady" (by decide +kernel)) (zj Q2 zx) (zp zE)) zJ) zJ) zJ):qF P w K mg base 6 "require_steady" 1 Qn)
theorem RL (Z:Zz K h mg):qF P w K mg base 7 "product" 3 jK:=by
 obtain⟨f,fd,F,a⟩:=Z.T.HD;exact(Yt F (aX Z.X Z.G a) Hw (λ _ _ _ _ _ _=>QK λ _ _ _=>rfl) λ c A outer s H E r x=>zy (yS (ki x (Xt Z).up r (zj (zl 0) zx))) (zy (yS (ki x (YK Z).up r (zj (zl 0) (zj (zl 1) zx)))) (zy (yS (ki x (YK Z).up r (zj (zl 0) (zj (zl 2) zx)))) (VB (zy (qo (qi (RI Z).up r (zj (qi (Sv Z).up r (zj (zl 0) zx)) (zj (zl 1) (zj (zl 2) zx))))) zJ)))):qF P w K mg base 7 "product" 3 jK)
theorem HZ (Z:Zz K h mg):zL P w K mg base 7 "product" 3 JI:=(RL Z).m.iso
theorem PX (Z:Zz K h mg):qF P w K mg base 7 "added" 3 jM:=by
 obtain⟨f,fd,F,a⟩:=Z.T.Ba;exact(Yt F (aX Z.X Z.G a) Dz (λ _ _ _ _ _ _=>QK λ _ _ _=>rfl) λ c A outer s H E r x=>zy (yS (ki x (Xt Z).up r (zj (zl 0) zx))) (zy (yS (ki x (YK Z).up r (zj (zl 0) (zj (zl 1) zx)))) (zy (yS (ki x (YK Z).up r (zj (zl 0) (zj (zl 2) zx)))) (VB (zy (qo (gC Z.B.kD (yU (qV (N:=["first","second"]) 2 [] (JT rfl Z.B.Ym (zl 1) (zl 2)) (λ _ _ _=>⟨we 0 1 rfl (qK (by kernel_rfl)),qO,qP (j8 (zl 0) (zl 1))⟩))))) zJ)))):qF P w K mg base 7 "added" 3 jM)
theorem DM (Z:Zz K h mg):zL P w K mg base 7 "added" 3 JW:=(PX Z).m.iso
theorem Pu (Z:Zz K h mg):qF P w K mg base 7 "power" 3 jL:=by
 obtain⟨f,fd,F,a⟩:=Z.T.Bq;exact(Yt F (aX Z.X Z.G a) Y3 (λ _ _ _ _ _ _=>QK λ _ _ _=>rfl) λ c A outer s H E r x=>zy (yS (ki x (Xt Z).up r (zj (zl 0) zx))) (zy (yS (ki x (YK Z).up r (zj (zl 0) (zj (zl 1) zx)))) (zy (jP (WY (Za (w6 (qi (MN Z).up r (zj (zl 2) (zj (j8 (P6 rfl Z.B.Ij.choose_spec) zu) zx)))))) (zy (Wr x (Z.C.exc "NoNumber" (by decide +kernel)) (zj Q2 zx) (zp zE)) zJ) zJ) (VB (zy (qw 3 Y3.nd (qi (Sv Z).up r (zj (zl 0) zx))) (zy (qw 4 Y3.nd (gC Z.B.kD (yf (j8 (qQ (zj zu zx) (zp zE)) (kq (qQ (zj zu zx) (zp zE)) (Qv (kQ Z.B.kY (yf (zl 1))) zu)))))) (zy (wj PassesOwn.never rfl (jW rfl Z.B.jN (zl 2)) (qI 5 Y3.nd) (zy (qw 4 Y3.nd (qi (RI Z).up r (zj (zl 3) (zj (zl 4) (zj (zl 1) zx))))) zJ)) (zy (qo (zl 4)) zJ))))))):qF P w K mg base 7 "power" 3 jL)
theorem Ce (Z:Zz K h mg):zL P w K mg base 7 "power" 3 J2:=(Pu Z).m.iso
end
end G
namespace Mi
open PySem L2
section
variable {m:Ev}
theorem J0 (h:m ρ A=.ok (.tup ws) A1):qC m ρ A=.ok ⟨λ A i=>(zR (.tup ws) A).map λ ws=>ws[i]?,ws.length⟩ A1:=by
 unfold qC KQ;rw[h,zP]
 rfl
theorem Y4 (h:m ρ A=.ok (.tup ws) A)(l:ws.length<=zX){g:W->W}(he:∀w∈ws,me (some w::cap.map λ i=>(ρ[i]?).join) A=.ok (g w) A):
  zS 1 cap (qC m) (zN 0) (zi (.bl true)) (zK me) ρ A=.ok (ws.map g) A:=by
 have e:=g9 (cap:=cap) (me:=me) (ρ:=ρ) (A:=A) (N:=ws.length) (item:=λ i=>ws.getD i .non) (g:=λ i=>g (ws.getD i .non)) (J0 h) rfl l
  (λ i H=>by show some ws[i]? =_;rw[ae H,aa,ae H];rfl)
  (by show some ws[ws.length]? =_;rw[aC (aw _)])
  (λ i H=>by
   have:ws.getD i .non=ws[i]:=by rw[aa,ae H];rfl
   rw[this];exact he _ (aP H))
 rw[e]
 congr 1
 apply bM
 ·simp
 ·intro i b a
  have H:i<ws.length:=by simpa using a
  simp[aa,ae H]
theorem Vt (p:α->Bool):∀l:List α,Zd (l.map λ x=>W.bl (p x))=some (l.map p)
 |[]=>rfl|x::l=>by
  show(match KH (.bl (p x)),Zd (l.map λ x=>W.bl (p x)) with|some k,some K=>some (k::K) | _,_=>none)=_
  rw[Vt p l];rfl
theorem Kf {p:α->Bool}{l:List α}(h:∀x∈l,p x=true):QJ (l.map λ x=>W.bl (p x)) A=.ok (.bl true) A:=by
 show QH (λ K=>K.all id) _ A=_;unfold QH;rw[Vt];dsimp only
 have:(l.map p).all id=true:=by
  rw[all_map];exact qa4.mpr λ x H=>h x H
 rw[this]
theorem W8 {f:α->W}(h:∀x,(f x).nr=true):∀l:List α,qY (l.map f)=true
 |[]=>rfl|x::l=>by
  show((f x).nr&&qY (l.map f))=true;rw[h x,W8 h l];rfl
theorem Jt (i j:Int)(A:Hx):jn (.int i) (.int j) A=.ok (.bl (decide (i=j))) A:=by
 show R.ok (W.bl (PyData.eqv (.int i) (.int j))) A=_;simp[PyData.eqv]
 rfl
theorem N0 (i j:Int)(A:Hx):q9 (.int i) (.int j) A=.ok (.bl (!decide (i=j))) A:=by
 show R.ok (W.bl (!PyData.eqv (.int i) (.int j))) A=_;simp[PyData.eqv]
 rfl
theorem N7 (i j:Bool)(A:Hx):q9 (.bl i) (.bl j) A=.ok (.bl (!(i==j))) A:=by
 cases i<;>cases j<;>rfl
end
noncomputable def zw (r:List Int):W:=.tup (r.map W.int)
def zq (t:List (List Int)):W:=.tup (t.map zw)
theorem w5 (r:List Int):(zw r).nr=true:=by
 show qY (r.map W.int)=true;exact W8 (λ _=>rfl) r
theorem ZW (t:List (List Int)):(zq t).nr=true:=by
 show qY (t.map zw)=true;exact W8 w5 t
end Mi
namespace Mi
open PySem L2
theorem Pj {j:jF}{st:W->Ex}{N:Nat}{item:Nat->W}{I:En->Prop}(t:∀i,i<N->j.at_ A i=some (some (item i)))(H:j.at_ A N=some none)
  (s:∀i,i<N->∀ρ,I ρ->∃a,st (item i) ρ A=.ok (.nx a) A/\I a):∀(n i:Nat)(ρ:En),i+n=N->I ρ->∃a,yo j st n i ρ A=.ok (.nx a) A/\I a:=by
 intro n
 induction n with
 |zero=>
  intro i ρ h c
  have:i=N:=by omega
  subst this;exact⟨ρ,Rw H,c⟩
 |succ n d=>
  intro i ρ h c;obtain⟨ρ1,E,g⟩:=s i (by omega) ρ c
  obtain⟨b,e,f⟩:=d (i+1) ρ1 (by omega) g
  exact⟨b,(Oc (t i (by omega)) E).trans e,f⟩
theorem JL {m:Ev}(h:m ρ A=.ok (.tup ws) A1):kT m ρ A=.ok (kA (.tup ws) ws.length) A1:=by
 unfold kT;rw[h,zP]
 rfl
theorem Yl {w:W}(h:ws[i]? =some w):(kA (.tup ws) ws.length).at_ A i=some (some (.tup [.int i,w])):=by
 show atEnd ws i _=_;unfold atEnd;rw[h]
theorem Yb :(kA (.tup ws) ws.length).at_ A ws.length=some none:=by
 show atEnd ws _ _=_;unfold atEnd;rw[aC (aw _)];exact ag rfl
noncomputable def at2 (t:List (List Int))(a b:Nat):Int:=(t.getD a []).getD b 0
structure qk (t:List (List Int)):Prop where
 n1:1<=t.length
 n8:t.length<=8
 sq:∀r∈t,r.length=t.length
 lo:∀r∈t,∀v∈r,0<=v/\v<(t.length:Int)
 dg:∀a b,a<t.length->b<t.length->(at2 t a b=0↔a=b)
 sy:∀a b,a<t.length->b<t.length->at2 t a b=at2 t b a
 fu:∀k:Nat,(∃v∈t.flatten,(k:Int)<v)->(k:Int)∈t.flatten
section
variable {a b:Nat}
theorem Yh (h:a<t.length):(t.map zw)[a]? =some (zw (t.getD a [])):=by
 rw[ar,aa,ae h];rfl
theorem yx (h:a<t.length):t.getD a []∈t:=by
 rw[aa,ae h];exact aP h
theorem Kr (h:a<t.length):zI (zq t) (.int a) A=.ok (zw (t.getD a [])) A:=by
 unfold zI;show(match wQ (t.map zw) (a:Int) with|some w=>R.ok w A|none=>R.bad)=_
 rw[Ga (Yh h)]
theorem int_at {r:List Int}(h:b<r.length):(r.map W.int)[b]? =some (.int (r.getD b 0)):=by
 rw[ar,aa,ae h];rfl
theorem Uw {r:List Int}(h:b<r.length):zI (zw r) (.int b) A=.ok (.int (r.getD b 0)) A:=by
 unfold zI;show(match wQ (r.map W.int) (b:Int) with|some w=>R.ok w A|none=>R.bad)=_
 rw[Ga (v:=.int (r.getD b 0)) (by rw[ar,aa,ae h];rfl)]
end
end Mi
namespace Mi
open PySem L2
section
theorem Eo {j:jF}{c:Option W}(b:∀i,i<ws.length->j.at_ A i=some (some (ws.getD i .non)))(H:j.at_ A ws.length=some none)(he:∀w,me [c,some w] A=.ok w A):
  ∀(f i:Nat)(x:Option W)(acc:List W),i+f=ws.length->acc.length+f<=zX->∃y,qR j (zN 1) (zi (.bl true)) (zK me) f i [c,x] acc A=.ok ([c,y],acc++ws.drop i) A:=by
 intro f
 induction f with
 |zero=>
  intro i x acc h l
  have:i=ws.length:=by omega
  subst this;refine⟨x,?_⟩;unfold qR;rw[H,drop_length,bo]
 |succ f I=>
  intro i x acc h l;have a:i<ws.length:=by omega
  have E:ws.getD i .non=ws[i]:=by rw[aa,ae a];rfl
  obtain⟨y,e⟩:=I (i+1) (some ws[i]) (acc++[ws[i]]) (by omega) (by rw[ay,aR];omega)
  refine⟨y,?_⟩;rw[qR,b i a,E];dsimp only[zN,List.set,zi];rw[zP];dsimp only;have d:zK me [c,some ws[i]] acc A=.ok ([c,some ws[i]],acc++[ws[i]]) A:=by
   unfold zK;rw[he,zP,ag (by omega)]
  rw[d,zP];rw[e,aW]
  congr 3
  rw[List.singleton_append,<- List.drop_eq_getElem_cons a]
theorem FU {j:jF}(d:∀i,i<t.length->j.at_ A i=some (some (zw (t.getD i []))))(H:j.at_ A t.length=some none):
  ∀(f i:Nat)(x y:Option W)(acc:List W),i+f=t.length->acc.length+(t.drop i).flatten.length<=zX->
   ∃ρ,qR j (zN 0) (zi (.bl true)) (Z3 (qC (zc 0)) (zN 1) (zi (.bl true)) (zK (zc 1))) f i [x,y] acc A=.ok (ρ,acc++(t.drop i).flatten.map W.int) A:=by
 intro f
 induction f with
 |zero=>
  intro i x y acc h l
  have:i=t.length:=by omega
  subst this;refine⟨[x,y],?_⟩;unfold qR;rw[H,drop_length];simp
 |succ f I=>
  intro i x y acc h l;have a:i<t.length:=by omega
  have r:t.getD i []=t[i]:=by rw[aa,ae a];rfl
  have e:t.drop i=t[i]::t.drop (i+1):=List.drop_eq_getElem_cons a;rw[e,a3,ay]at l;obtain⟨z,E⟩:=Eo (A:=A) (j:=⟨λ A i_1=>(zR (zw t[i]) A).map λ ws=>ws[i_1]?,(t[i].map W.int).length⟩) (me:=zc 1) (ws:=t[i].map W.int) (c:=some (zw t[i]))
   (λ k b=>by
    show some (t[i].map W.int)[k]? =_;rw[aa,ae b];rfl)
   (by show some (t[i].map W.int)[(t[i].map W.int).length]? =_;rw[aC (aw _)])
   (λ w=>zt rfl) (t[i].map W.int).length 0 y acc (by omega) (by rw[ai];omega)
  rw[List.drop_zero]at E;obtain⟨ρ,n⟩:=I (i+1) (some (zw t[i])) z (acc++t[i].map W.int) (by omega) (by rw[ay,ai];omega)
  refine⟨ρ,?_⟩;rw[qR,d i a,r];dsimp only[zN,List.set,zi];rw[zP];dsimp only;have g:Z3 (qC (zc 0)) (zN 1) (zi (.bl true)) (zK (zc 1)) [some (zw t[i]),y] acc A=.ok ([some (zw t[i]),z],acc++t[i].map W.int) A:=by
   unfold Z3;rw[J0 (ws:=t[i].map W.int) (A1:=A) (zt (i:=0) rfl),zP];exact E
  rw[g,zP];rw[n,e,a3,aU,aW]
theorem Bd {m:Ev}(h:m ρ A=.ok (zq t) A)(H:t.flatten.length<=zX):
  zS 2 [] (qC m) (zN 0) (zi (.bl true)) (Z3 (qC (zc 0)) (zN 1) (zi (.bl true)) (zK (zc 1))) ρ A=.ok (t.flatten.map W.int) A:=by
 have hlen:(t.map zw).length=t.length:=ai ..;obtain⟨a,e⟩:=FU (t:=t) (A:=A) (j:=⟨λ A i=>(zR (zq t) A).map λ ws=>ws[i]?,(t.map zw).length⟩) (λ i b=>by show some (t.map zw)[i]? =_;rw[Yh b])
  (by show some (t.map zw)[t.length]? =_;rw[aC (by omega)]) t.length 0 none none [] (by omega) (by simpa using H)
 unfold zS;rw[J0 (ws:=t.map zw) h,zP];show R.bind (R.nox (qR ⟨λ A i=>(zR (zq t) A).map λ ws=>ws[i]?,(t.map zw).length⟩ _ _ _ (t.map zw).length 0 [none,none] [] A)) _=_;rw[hlen]at e ⊢;rw[e];simp
 rfl
end
theorem YQ:∀l:List Int,intsOf (l.map W.int)=some l
 |[]=>rfl|i::l=>by
  show(match intsOf (l.map W.int) with|some is=>some (i::is) | none=>none)=_
  rw[YQ l]
theorem Vv:∀(l:List Int)(m:Int),yu l m=m∨yu l m∈l
 |[],_=>.inl rfl|i::l,m=>by
  show yu l (if i > m then i else m)=m∨yu l (if i > m then i else m)∈i::l;rcases Vv l (if i > m then i else m) with e|e
  ·by_cases h:i > m
   ·rw[ag h]at e ⊢;exact .inr (by rw[e];exact aE ..)
   ·rw[ak h]at e ⊢;exact .inl e
  ·exact .inr (ax _ e)
end Mi
namespace G
open PySem L2 Mi
theorem Dp (h:qk t):t.flatten.length<=64:=by
 have:∀l:List (List Int),(∀r∈l,r.length<=8)->l.flatten.length<=8 * l.length:=by
  intro l
  induction l with
  |nil=>intro _;simp|cons r l i=>
   intro H;have e:=H r (aE ..);have d:=i λ b a=>H b (ax _ a);rw[a3,ay,bb];omega
 have c:=h.n8
 have:=this t λ r H=>by rw[h.sq r H];exact h.n8
 omega
section
theorem wX (h:n<1000000):j0 (n:Int)=true:=by
 unfold j0;simp;omega
end
theorem Q5 {m:Ev}(h:m ρ A=.ok (.ref n) A1)(H:A1[n]? =some (.lst ws)):qC m ρ A=.ok ⟨λ A i=>(zR (.ref n) A).map λ ws=>ws[i]?,ws.length⟩ A1:=by
 unfold qC KQ;rw[h,zP];have e:zR (.ref n) A1=some ws:=by unfold zR;dsimp only;rw[H]
 rw[e]
theorem Qw (h:A[n]? =some (.lst ws)):((zR (.ref n) A).map λ ws=>ws[i]?)=some ws[i]?:=by
 have e:zR (.ref n) A=some ws:=by unfold zR;dsimp only;rw[h]
 rw[e];rfl
def wN:List Int->Int
 |[]=>0|i::is=>yu is i
theorem OJ {r:List Int}(h:r≠[]):yC (r.map W.int) A=.ok (.int (wN r)) A:=by
 unfold yC;rw[YQ];cases r with
 |nil=>exact absurd rfl h|cons i is=>rfl
theorem WL {r:List Int}(h:r≠[]):wN r∈r:=by
 cases r with
 |nil=>exact absurd rfl h|cons i is=>
  rcases Vv is i with e|e
  ·show yu is i∈_;rw[e];exact aE ..
  ·exact ax _ e
def qB (t:List (List Int)):Int:=wN (t.map wN)+1
section
theorem _root_.Mi.qk.row_ne (h:qk t){r:List Int}(H:r∈t):r≠[]:=λ e=>by
 have a:=h.sq r H;have b:=h.n1;rw[e,length_nil]at a;omega
theorem _root_.Mi.qk.map_ne (h:qk t):t.map wN≠[]:=λ e=>by
 have:=h.n1
 rw[List.map_eq_nil_iff]at e;rw[e]at this;simp at this
theorem wL (h:qk t):1<=qB t/\qB t<=8:=by
 obtain⟨r,H,e⟩:=qa6.mp (WL h.map_ne)
 have:=h.lo r H _ (WL (h.row_ne H))
 have:=h.n8
 unfold qB;rw[<- e];omega
theorem Z5 (h:qk t){a b:Nat}(H:a<t.length)(d:b<t.length):0<=at2 t a b/\at2 t a b<8:=by
 have c:=h.sq _ (yx H)
 have:(t.getD a []).getD b 0∈t.getD a []:=by
  rw[aa (l:=t.getD a []),ae (by omega)];exact aP _
 have e:=h.lo _ (yx H) _ this
 have:=h.n8
 unfold at2;omega
theorem Zc (h:q ρ A=.ok ws A1):mQ yi q ρ A=.ok (.tup ws) A1:=(yA h).trans rfl
end
end G
namespace Mi
open PySem L2
theorem km {w:W}{s:Nat}(h:A[n]? =some (.lst ws))(H:ws[s]? =some w):zI (.ref n) (.int (s:Int)) A=.ok w A:=by
 unfold zI;have e:zR (.ref n) A=some ws:=by unfold zR;dsimp only;rw[h]
 rw[e];dsimp only;rw[Ga H]
theorem j5 {u:O}(h:A[n]? =some o):(A++[u])[n]? =some o:=by
 have:=(qa2.mp h).1
 rw[ah this];exact h
theorem qL {u:O}:(A++[u])[A.length]? =some u:=by simp
noncomputable def ZH (μ:Nat->Nat->Int)(a b:Nat)(k:Int):Nat->Nat->Int:=λ i j=>if i=a/\j=b then k else μ i j
structure Mu (n:Nat)(μ:Nat->Nat->Int)(c:Nat)(done:Nat->Nat->Prop):Prop where
 dg:∀i,μ i i=0
 sy:∀i j,μ i j=μ j i
 dn:∀i j,i<j->j<n->done i j->1<=μ i j/\μ i j<=(c:Int)
 un:∀i j,i<j->j<n->¬done i j->μ i j=0
 fu:∀k:Nat,1<=k->k<=c->∃i j,i<n/\j<n/\μ i j=(k:Int)
noncomputable def jv (n:Nat)(μ:Nat->Nat->Int):List (List Int):=(List.range n).map λ i=>(List.range n).map (μ i)
theorem JZ (H:i<n)(h:j<n):at2 (jv n μ) i j=μ i j:=by
 unfold at2 jv;rw[aa (l:=(List.range n).map λ i=>(List.range n).map (μ i)),ar,aO H];show((List.range n).map (μ i)).getD j 0=_;rw[aa,ar,aO h]
 rfl
theorem Mu.tab {c:Nat}{d:Nat->Nat->Prop}(h:Mu n μ c d)(all:∀i j,i<j->j<n->d i j)(n1:1<=n)(n8:n<=8)(z:n=1∨c<n):qk (jv n μ):=by
 have len:(jv n μ).length=n:=by unfold jv;simp
 have val:∀i j,i<n->j<n->i≠j->1<=μ i j/\μ i j<=(c:Int):=λ i j H f ne=>by
  rcases Nat.lt_or_gt_of_ne ne with q|q
  ·exact h.dn i j q f (all i j q f)
  ·rw[h.sy];exact h.dn j i q H (all j i q H)
 have mem:∀r∈jv n μ,∀v∈r,∃i j,i<n/\j<n/\v=μ i j:=λ r g v p=>by
  unfold jv at g;obtain⟨i,H,rfl⟩:=qa6.mp g;obtain⟨j,f,rfl⟩:=qa6.mp p;exact⟨i,j,qa5.mp H,qa5.mp f,rfl⟩
 have I:∀i j,i<n->j<n->μ i j∈(jv n μ).flatten:=λ i j H f=>List.mem_flatten.mpr ⟨_,qa6.mpr ⟨i,qa5.mpr H,rfl⟩,qa6.mpr ⟨j,qa5.mpr f,rfl⟩⟩;refine⟨by rw[len];exact n1,by rw[len];exact n8,λ r g=>?_,λ r g v p=>?_,λ a b o l=>?_,λ a b o l=>?_,λ k y=>?_⟩
 ·rw[len]
  unfold jv at g;obtain⟨i,H,rfl⟩:=qa6.mp g;simp
 ·rw[len]
  obtain⟨i,j,H,f,rfl⟩:=mem r g v p
  by_cases q:i=j
  ·subst q;rw[h.dg];omega
  ·have:=val i j H f q
   omega
 ·rw[len]at o l
  rw[JZ o l]
  constructor
  ·intro e
   by_cases q:a=b
   ·exact q
   ·have:=val a b o l q;omega
  ·intro e;subst e;exact h.dg a
 ·rw[len]at o l
  rw[JZ o l,JZ l o];exact h.sy a b
 ·obtain⟨v,p,t⟩:=y
  obtain⟨r,g,s⟩:=List.mem_flatten.mp p;obtain⟨i,j,H,f,rfl⟩:=mem r g v s
  by_cases k0:k=0
  ·subst k0
   have:=I 0 0 (by omega) (by omega)
   rw[h.dg]at this;exact this
  ·by_cases q:i=j
   ·subst q;rw[h.dg]at t;omega
   ·have:=val i j H f q
    obtain⟨x,J,w,u,e⟩:=h.fu k (by omega) (by omega)
    have:=I x J w u
    rw[e]at this;exact this
end Mi
namespace G
open PySem L2 Mi
theorem Kh {i j:Int}(H:-(2 ^ 64)<i)(h:i<2 ^ 64):qu (.int i) (.int j) A=.ok (.int (i * j)) A:=by
 unfold qu;dsimp only;rw[ag];unfold Yw;rw[bG,aj,ao,ao];exact .inl ⟨H,h⟩
theorem J7 {i j:Int}(h:0<j):gh (.int i) (.int j) A=.ok (.int (i % j)) A:=by
 unfold gh Qj;dsimp only;rw[ag];unfold G4;exact aJ h
theorem V8 {i j:Int}(h:0<j)(H:j<1152921504606846976):gH (.int i) (.int j) A=.ok (.int (i / j)) A:=by
 unfold gH Qj;dsimp only;rw[ag];unfold GB;rw[aj,ao,ao];exact⟨h,H⟩
theorem BA {c m:Int}(h:0<m)(H:m<1000000000000000):YN [.ref 0,.int m] [.lst [.int c,.bl true]]=.ok (.int (c % m)) [.lst [.int (c / m),.bl true]]:=by
 refine qS ?_;unfold Va;refine qG (A1:=[.lst [.int (c / m),.bl true]]) ?_;refine(Zg (A1:=[.lst [.int c,.bl true]]) rfl).trans ?_;refine(zH (ρ1:=[some (.ref 0),some (.int m),some (.int (c % m)),none]) (A1:=[.lst [.int c,.bl true]]) ?_).trans ?_
 ·refine(qJ (w:=.int (c % m)) (A1:=[.lst [.int c,.bl true]]) ?_).trans rfl
  exact(zT (x:=.int c) (y:=.int m) (A1:=[.lst [.int c,.bl true]]) (A2:=[.lst [.int c,.bl true]]) rfl rfl).trans (J7 h)
 ·refine(zH (ρ1:=[some (.ref 0),some (.int m),some (.int (c % m)),none]) (A1:=[.lst [.int (c / m),.bl true]]) ?_).trans rfl
  have e:zo gH (zo zI (zc 0) (zi (.int 0))) (zc 1) [some (.ref 0),some (.int m),some (.int (c % m)),none] [.lst [.int c,.bl true]]=.ok (.int (c / m)) [.lst [.int c,.bl true]]:=
   (zT (x:=.int c) (y:=.int m) (A1:=[.lst [.int c,.bl true]]) (A2:=[.lst [.int c,.bl true]]) rfl rfl).trans (V8 h (by omega))
  unfold Yd;rw[e,zP]
  rfl
noncomputable def QL (c:Int):Int:=(c * 48271+29) % 2147483647
noncomputable def gw (d:Int):Int:=(d * d+39373 * d+7) % 2147483629
noncomputable def gX (e:Int):Int:=(e * e+16807 * e) % 2147483587
theorem US (c:Int):0<=QL c/\QL c<2147483647:=⟨emod_nonneg _ (by decide),bK _ (by decide)⟩
theorem zaM (c:Int):0<=gw c/\gw c<2147483629:=⟨emod_nonneg _ (by decide),bK _ (by decide)⟩
theorem B6 {c m:Int}(i:0<=c)(h:c<2147483647)(H:0<m)(j:m<1000000000000000):YN [.ref 0,.int m] [.lst [.int c,.bl false]]=.ok (.int (gX (gw (QL c)) / 8 % m)) [.lst [.int (QL c),.bl false]]:=by
 have l:=US c;refine qS ?_;unfold Va;refine(zH (ρ1:=[some (.ref 0),some (.int m),none,none]) (A1:=[.lst [.int c,.bl false]]) ((yr (A1:=[.lst [.int c,.bl false]]) rfl).trans rfl)).trans ?_;have g:zo gh (zo qx (zo qu (zo zI (zc 0) (zi (.int 0))) (zi (.int 48271))) (zi (.int 29))) (zi (.int 2147483647)) [some (.ref 0),some (.int m),none,none] [.lst [.int c,.bl false]]=.ok (.int (QL c)) [.lst [.int c,.bl false]]:=by
  have em:zo qu (zo zI (zc 0) (zi (.int 0))) (zi (.int 48271)) [some (.ref 0),some (.int m),none,none] [.lst [.int c,.bl false]]=.ok (.int (c * 48271)) [.lst [.int c,.bl false]]:=
   (zT (x:=.int c) (y:=.int 48271) (A1:=[.lst [.int c,.bl false]]) (A2:=[.lst [.int c,.bl false]]) rfl rfl).trans (Kh (by omega) (by omega))
  refine(zT (x:=.int (c * 48271+29)) (y:=.int 2147483647) (A1:=[.lst [.int c,.bl false]]) (A2:=[.lst [.int c,.bl false]]) ((zT em rfl).trans rfl) rfl).trans ?_;exact J7 (by decide)
 refine(zH (ρ1:=[some (.ref 0),some (.int m),none,none]) (A1:=[.lst [.int (QL c),.bl false]]) ?_).trans ?_
 ·unfold Yd
  rw[g,zP]
  rfl
 generalize QL c=d at*;have b:zo gh (zo qx (zo qx (zo qu (zo zI (zc 0) (zi (.int 0))) (zo zI (zc 0) (zi (.int 0)))) (zo qu (zi (.int 39373)) (zo zI (zc 0) (zi (.int 0))))) (zi (.int 7))) (zi (.int 2147483629)) [some (.ref 0),some (.int m),none,none] [.lst [.int d,.bl false]]=
   .ok (.int (gw d)) [.lst [.int d,.bl false]]:=by
  have em:zo qu (zo zI (zc 0) (zi (.int 0))) (zo zI (zc 0) (zi (.int 0))) [some (.ref 0),some (.int m),none,none] [.lst [.int d,.bl false]]=.ok (.int (d * d)) [.lst [.int d,.bl false]]:=
   (zT (x:=.int d) (y:=.int d) (A1:=[.lst [.int d,.bl false]]) (A2:=[.lst [.int d,.bl false]]) rfl rfl).trans (Kh (by omega) (by omega))
  have E:zo qu (zi (.int 39373)) (zo zI (zc 0) (zi (.int 0))) [some (.ref 0),some (.int m),none,none] [.lst [.int d,.bl false]]=.ok (.int (39373 * d)) [.lst [.int d,.bl false]]:=
   (zT (x:=.int 39373) (y:=.int d) (A1:=[.lst [.int d,.bl false]]) (A2:=[.lst [.int d,.bl false]]) rfl rfl).trans (Kh (by decide) (by decide))
  have s:zo qx (zo qu (zo zI (zc 0) (zi (.int 0))) (zo zI (zc 0) (zi (.int 0)))) (zo qu (zi (.int 39373)) (zo zI (zc 0) (zi (.int 0)))) [some (.ref 0),some (.int m),none,none] [.lst [.int d,.bl false]]=.ok (.int (d * d+39373 * d)) [.lst [.int d,.bl false]]:=
   (zT em E).trans rfl
  refine(zT (x:=.int (d * d+39373 * d+7)) (y:=.int 2147483629) (A1:=[.lst [.int d,.bl false]]) (A2:=[.lst [.int d,.bl false]]) ((zT s rfl).trans rfl) rfl).trans ?_;exact J7 (by decide)
 refine(zH (ρ1:=[some (.ref 0),some (.int m),none,some (.int (gw d))]) (A1:=[.lst [.int d,.bl false]]) ((qJ b).trans rfl)).trans ?_;have B:=zaM d;generalize gw d=e at*;have a:zo gh (zo qx (zo qu (zc 3) (zc 3)) (zo qu (zi (.int 16807)) (zc 3))) (zi (.int 2147483587)) [some (.ref 0),some (.int m),none,some (.int e)] [.lst [.int d,.bl false]]=.ok (.int (gX e)) [.lst [.int d,.bl false]]:=by
  have em:zo qu (zc 3) (zc 3) [some (.ref 0),some (.int m),none,some (.int e)] [.lst [.int d,.bl false]]=.ok (.int (e * e)) [.lst [.int d,.bl false]]:=
   (zT (x:=.int e) (y:=.int e) (A1:=[.lst [.int d,.bl false]]) (A2:=[.lst [.int d,.bl false]]) rfl rfl).trans (Kh (by omega) (by omega))
  have E:zo qu (zi (.int 16807)) (zc 3) [some (.ref 0),some (.int m),none,some (.int e)] [.lst [.int d,.bl false]]=.ok (.int (16807 * e)) [.lst [.int d,.bl false]]:=
   (zT (x:=.int 16807) (y:=.int e) (A1:=[.lst [.int d,.bl false]]) (A2:=[.lst [.int d,.bl false]]) rfl rfl).trans (Kh (by decide) (by decide))
  refine(zT (x:=.int (e * e+16807 * e)) (y:=.int 2147483587) (A1:=[.lst [.int d,.bl false]]) (A2:=[.lst [.int d,.bl false]]) ((zT em E).trans rfl) rfl).trans ?_;exact J7 (by decide)
 refine(zH (ρ1:=[some (.ref 0),some (.int m),none,some (.int (gX e))]) (A1:=[.lst [.int d,.bl false]]) ((qJ a).trans rfl)).trans ?_;generalize gX e=f at*;refine qG (qZ ?_);refine(zT (x:=.int (f / 8)) (y:=.int m) (A1:=[.lst [.int d,.bl false]]) (A2:=[.lst [.int d,.bl false]]) ?_ rfl).trans (J7 H);exact(zT (x:=.int f) (y:=.int 8) (A1:=[.lst [.int d,.bl false]]) (A2:=[.lst [.int d,.bl false]]) rfl rfl).trans (V8 (by decide) (by decide))
def qX (n:Nat)(A:Hx):Prop:=∃c b,A[n]? =some (.lst [.int c,.bl b])/\0<=c/\(b=false->c<2147483647)
theorem O7 (h:qX n A){m:Int}(H:0<m)(g:m<1000000000000000):∃r o,yk [.ref n,.int m] A=.ok (.int r) (A.set n o)/\0<=r/\r<m/\qX n (A.set n o):=by
 obtain⟨c,b,f,d,i⟩:=h;have hn:n<A.length:=(qa2.mp f).1;have fin:∀(r C:Int),YN [.ref 0,.int m] [.lst [.int c,.bl b]]=.ok (.int r) [.lst [.int C,.bl b]]->yk [.ref n,.int m] A=.ok (.int r) (A.set n (.lst [.int C,.bl b])):=λ r C e=>by
  unfold yk gL;dsimp only;rw[f];dsimp only;have a:(qY [W.int c,W.bl b]&&qY [W.int m])=true:=rfl;rw[ag a,e]
  rfl
 cases b with
 |true=>
  refine⟨c % m,_,fin _ _ (BA H g),emod_nonneg _ (by omega),bK _ H,c / m,true,aG hn,Int.ediv_nonneg d (by omega),λ z=>nomatch z⟩
 |false=>
  exact⟨_,_,fin _ _ (B6 d (i rfl) H g),emod_nonneg _ (by omega),bK _ H,QL c,false,aG hn,(US c).1,λ _=>(US c).2⟩
end G
namespace Mi
open PySem L2
theorem WI {k:Nat}{xs ys:List W}(h:A[n]? =some (.lst xs))(a:A[k]? =some (.lst ys))(H:xs.length+ys.length<=zX):qx (.ref n) (.ref k) A=.ok (.ref A.length) (A++[.lst (xs++ys)]):=by
 unfold qx;dsimp only;rw[h,a];dsimp only;rw[ag H]
def Ext (A A':Hx):Prop:=∃l,A'=A++l
theorem Ext.refl :Ext A A:=⟨[],by simp⟩
theorem Ext.trans {C:Hx}(a:Ext A B)(b:Ext B C):Ext A C:=let ⟨l,e⟩:=a;let ⟨k,f⟩:=b;⟨l++k,by rw[f,e,aW]⟩
theorem Ext.one :Ext A (A++[o]):=⟨[o],rfl⟩
theorem Ext.at {A':Hx}(x:Ext A A')(h:A[n]? =some o):A'[n]? =some o:=by
 obtain⟨l,rfl⟩:=x
 have:=(qa2.mp h).1
 rw[ah this];exact h
end Mi
namespace Mi
open PySem L2
theorem Py {j:jF}{ifs:Ev}{N:Nat}{I:Nat->En->List W->Hx->Prop}
  (H:∀i ρ acc A,i<N->I i ρ acc A->∃w ρ1,j.at_ A i=some (some w)/\tw w ρ=some ρ1/\((∃A1 c a A2,ifs ρ1 A=.ok (.bl true) A1/\em ρ1 acc A1=.ok (c,a) A2/\I (i+1) c a A2)∨(∃A1,ifs ρ1 A=.ok (.bl false) A1/\I (i+1) ρ1 acc A1)))
  (e:∀ρ acc A,I N ρ acc A->j.at_ A N=some none):
  ∀(f i:Nat)(ρ:En)(acc:List W)(A:Hx),i+f=N->I i ρ acc A->∃d b A',qR j tw ifs em f i ρ acc A=.ok (d,b) A'/\I N d b A':=by
 intro f
 induction f with
 |zero=>
  intro i ρ acc A h g
  have:i=N:=by omega
  subst this;refine⟨ρ,acc,A,?_,g⟩;unfold qR;rw[e _ _ _ g]
 |succ f n=>
  intro i ρ acc A h g;obtain⟨w,ρ1,q,p,o⟩:=H i ρ acc A (by omega) g
  rw[qR,q];dsimp only;rw[p];dsimp only;rcases o with ⟨A1,c,a,A2,l,r,E⟩|⟨A1,l,E⟩
  ·rw[l,zP]
   dsimp only;rw[r,zP];exact n (i+1) _ _ _ (by omega) E
  ·rw[l,zP]
   dsimp only;exact n (i+1) _ _ _ (by omega) E
theorem YV {nl:Nat}{j:jF}{ifs:Ev}{N:Nat}{I:Nat->En->List W->Hx->Prop}(hm:mi ρ A=.ok j A1)(f:j.len=N)
  (h:∀i ρ acc A,i<N->I i ρ acc A->∃w ρ1,j.at_ A i=some (some w)/\tw w ρ=some ρ1/\((∃A1 d b A2,ifs ρ1 A=.ok (.bl true) A1/\em ρ1 acc A1=.ok (d,b) A2/\I (i+1) d b A2)∨(∃A1,ifs ρ1 A=.ok (.bl false) A1/\I (i+1) ρ1 acc A1)))
  (H:∀ρ acc A,I N ρ acc A->j.at_ A N=some none)(h0:I 0 (Z6 nl cap ρ) [] A1):∃c a A',zS nl cap mi tw ifs em ρ A=.ok a A'/\I N c a A':=by
 obtain⟨c,a,A',e,g⟩:=Py h H N 0 _ _ _ (by omega) h0
 refine⟨c,a,A',?_,g⟩;unfold zS;rw[hm,zP,f,e]
 rfl
theorem g8 {j:jF}{st:W->Ex}{N:Nat}{I:Nat->En->Hx->Prop}
  (H:∀i ρ A,i<N->I i ρ A->∃w ρ1 A1,j.at_ A i=some (some w)/\st w ρ A=.ok (.nx ρ1) A1/\I (i+1) ρ1 A1)(d:∀ρ A,I N ρ A->j.at_ A N=some none):
  ∀(f i:Nat)(ρ:En)(A:Hx),i+f=N->I i ρ A->∃a A',yo j st f i ρ A=.ok (.nx a) A'/\I N a A':=by
 intro f
 induction f with
 |zero=>
  intro i ρ A h b
  have:i=N:=by omega
  subst this;exact⟨ρ,A,Rw (d _ _ b),b⟩
 |succ f c=>
  intro i ρ A h b;obtain⟨w,ρ1,A1,l,g,e⟩:=H i ρ A (by omega) b
  rw[Oc l g];exact c (i+1) _ _ (by omega) e
theorem Y5 {acc:List W}{y:W}(h:me ρ A=.ok y A1)(H:acc.length<zX):zK me ρ acc A=.ok (ρ,acc++[y]) A1:=by
 unfold zK;rw[h,zP,ag H]
theorem take_succ {l:List α}(h:i<l.length):l.take (i+1)=l.take i++[l[i]]:=by
 rw[List.take_succ,ae h];rfl
theorem Ext.set (x:Ext A B)(h:A.length<=n):Ext A (B.set n o):=by
 obtain⟨l,rfl⟩:=x;exact⟨l.set (n - A.length) o,by rw[set_append_right _ _ h]⟩
theorem Ext.app {l:Hx}(x:Ext A B):Ext A (B++l):=x.trans ⟨l,rfl⟩
theorem Ext.len (x:Ext A B):A.length<=B.length:=by obtain⟨l,rfl⟩:=x;simp
theorem wY (h:A[n]? =some o):n<A.length:=(qa2.mp h).1
end Mi
namespace G
open PySem L2 Mi
theorem Kj {w:W}(H:A[n]? =some (.lst ws))(h:ws[i]? =some w):((zR (.ref n) A).map λ ws=>ws[i]?)=some (some w):=by
 rw[Qw H,h]
theorem Gv (H:A[n]? =some (.lst ws))(h:ws.length<=i):((zR (.ref n) A).map λ ws=>ws[i]?)=some none:=by
 rw[Qw H,aC h]
theorem WV:∀(l:List Int)(m:Int),m<=yu l m/\∀x∈l,x<=yu l m
 |[],m=>⟨Int.le_refl _,λ x h=>by cases h⟩|y::l,m=>by
  unfold yu
  split
  ·rename_i c
   obtain⟨b,a⟩:=WV l y;refine⟨by omega,λ x H=>?_⟩
   rcases qa3.mp H with rfl|H
   ·exact b
   ·exact a x H
  ·rename_i c
   obtain⟨b,a⟩:=WV l m;refine⟨b,λ x H=>?_⟩;rcases qa3.mp H with rfl|H
   ·omega
   ·exact a x H
theorem Rz :∀{l:List α}{k:Nat}{w:α},l[k]? =some w->l.Perm (w::l.eraseIdx k)
 |[],_,_,h=>by simp at h|x::l,0,w,h=>by
  simp at h;subst h;simp
 |x::l,k+1,w,h=>by
  rw[List.getElem?_cons_succ]at h;rw[List.eraseIdx_cons_succ];exact((Rz h).cons x).trans (List.Perm.swap w x _)
theorem IV {k:Nat}{i:Int}{w:W}(h:A[n]? =some (.lst ws))(hw:ws[k]? =some w)(H:j0 i=true)(e:seqIndex? i ws.length=some k):ZA (.ref n) (.int i) A=.ok w (A.set n (.lst (ws.eraseIdx k))):=by
 unfold ZA;dsimp only;rw[h];dsimp only;rw[ag H,e];dsimp only;rw[hw]
theorem BQ {k:Nat}(h:k<n):seqIndex? (k:Int) n=some k:=by
 have:=PySem.StrLaws.seqIndex_nonneg (i:=(k:Int)) (n:=n) (by omega) (by omega)
 rw[az]at this;exact this
theorem HA {k:Nat}{w:W}(h:A[n]? =some (.lst ws))(hw:ws[k]? =some w)(H:k<1000000):ZA (.ref n) (.int (k:Int)) A=.ok w (A.set n (.lst (ws.eraseIdx k))):=
 IV h hw (G.wX H) (BQ (qa2.mp hw).1)
theorem Pl {β:Type}(f:α->β):∀(l:List α)(k:Nat),(l.map f).eraseIdx k=(l.eraseIdx k).map f
 |[],_=>rfl|_::_,0=>rfl|a::l,k+1=>by
  rw[aV,List.eraseIdx_cons_succ,List.eraseIdx_cons_succ,aV,Pl f l k]
theorem QY {a b:Ev}{y:W}(c:a ρ A=.ok (.ref n) A)(d:A[n]? =some (.lst ws))(H:b ρ A=.ok y A1):jQ g a b ρ A=g (.ref n) y A1:=by
 unfold jQ;have h:YA (.ref n) A=true:=by unfold YA;dsimp only;rw[d]
 rw[c,zP,ag h,H,zP]
theorem YU {y:W}(h:A[n]? =some (.lst ws))(H:ws.length<1000):j4 (.ref n) y A=.ok .non (A.set n (.lst (ws++[y]))):=by
 unfold j4;dsimp only;rw[h];dsimp only;rw[ag (by unfold zX;omega)]
theorem OP {f:Fn}{us:List W}{c C:Int}{b B:Bool}{w:W}(a:A[n]? =some (.lst [.int c,.bl b]))(H:qY us=true)(h:f (.ref 0::us) [.lst [.int c,.bl b]]=.ok w A1)(g:A1[0]? =some (.lst [.int C,.bl B]))(hw:w.nr=true):gL f (.ref n::us) A=.ok w (A.set n (.lst [.int C,.bl B])):=by
 unfold gL;dsimp only;rw[a];dsimp only;have e:(qY [W.int c,W.bl b]&&qY us)=true:=by rw[H];rfl
 rw[ag e,h];dsimp only;rw[List.head?_eq_getElem?,g];dsimp only;have d:(qY [W.int C,W.bl B]&&w.nr)=true:=by rw[hw];rfl
 rw[ag d]
noncomputable abbrev iL (l:List Nat):List W:=l.map λ (a:Nat)=>W.int (a:Int)
theorem HH {m:Ev}(h:m ρ A=.ok (.int (n:Int)) A1)(hn:n<=100):Y7 m ρ A=.ok (.ref A1.length) (A1++[.lst (iL (List.range n))]):=by
 unfold Y7;rw[h,zP];dsimp only;rw[wX (by omega),az,aJ (by unfold zX;omega)]
 rfl
theorem P9 {m:Ev}{o:List α}{f:α->W}{G:α->W}(h:m ρ A=.ok (.tup (o.map f)) A)(l:o.length<=zX)(he:∀a∈o,me (some (f a)::cap.map λ i=>(ρ[i]?).join) A=.ok (G a) A):
  zS 1 cap (qC m) (zN 0) (zi (.bl true)) (zK me) ρ A=.ok (o.map G) A:=by
 by_cases h0:o=[]
 ·subst h0
  have e:=g9 (cap:=cap) (me:=me) (ρ:=ρ) (A:=A) (N:=0) (item:=λ _=>.non) (g:=λ _=>.non) (J0 h) rfl (by unfold zX;omega) (λ i H=>by omega) rfl (λ i H=>by omega)
  exact e
 ·obtain⟨x,c⟩:∃x,x∈o:=List.exists_mem_of_ne_nil o h0
  have e:=g9 (cap:=cap) (me:=me) (ρ:=ρ) (A:=A) (N:=o.length) (item:=λ i=>f (o.getD i x)) (g:=λ i=>G (o.getD i x)) (J0 h) (ai ..) l
   (λ i H=>by show some (o.map f)[i]? =_;rw[ar,ae H,aa,ae H];rfl)
   (by show some (o.map f)[o.length]? =_;rw[aC (by rw[ai];exact aw _)])
   (λ i H=>by
    have:o.getD i x=o[i]:=by rw[aa,ae H];rfl
    rw[this];exact he _ (aP H))
  rw[e]
  congr 1
  apply bM
  ·simp
  ·intro i d b
   have H:i<o.length:=by simpa using b
   simp[aa,ae H]
theorem Jz {β:Type}(o:List α)(x:α)(f:α->β):o.map f=(List.range o.length).map λ i=>f (o.getD i x):=by
 apply bM
 ·simp
 ·intro i H a
  have h:i<o.length:=by simpa using H
  simp[aa,ae h]
theorem Og (q:∀r∈t,r.length=t.length){v:Int}(h:v∈t.flatten):∃a b,a<t.length/\b<t.length/\at2 t a b=v:=by
 obtain⟨r,H,e⟩:=List.mem_flatten.mp h;obtain⟨a,d,g⟩:=bE H;obtain⟨b,c,f⟩:=bE e;refine⟨a,b,d,by rw[<- q r H];exact c,?_⟩
 unfold at2;have E:t.getD a []=r:=by rw[aa,ae d];exact g
 rw[E,aa,ae c];exact f
theorem CL (q:∀r∈t,r.length=t.length){a b:Nat}(e:a<t.length)(d:b<t.length):∃r∈t,at2 t a b∈r/\at2 t a b∈t.flatten:=by
 have H:t.getD a []∈t:=yx e;have c:at2 t a b∈t.getD a []:=by
  unfold at2;have h:b<(t.getD a []).length:=by rw[q _ H];exact d
  rw[aa (l:=t.getD a []),ae h];exact aP _
 exact⟨_,H,c,List.mem_flatten.mpr ⟨_,H,c⟩⟩
theorem OD {r:List Int}{x:Int}(h:x∈r):x<=wN r:=by
 cases r with
 |nil=>cases h|cons i is=>
  show x<=yu is i;rcases qa3.mp h with rfl|h
  ·exact(WV is x).1
  ·exact(WV is i).2 x h
section
theorem Kk (h:qk t){a b:Nat}(d:a<t.length)(c:b<t.length):at2 t a b<qB t:=by
 obtain⟨r,H,e,_⟩:=CL h.sq d c;have f:=OD e;have E:=OD (qa6.mpr ⟨r,H,rfl⟩:wN r∈t.map wN);unfold qB;omega
theorem VQ (h:qk t):qB t - 1∈t.flatten:=by
 obtain⟨r,H,e⟩:=qa6.mp (WL h.map_ne)
 have:qB t - 1=wN r:=by unfold qB;omega
 rw[this];exact List.mem_flatten.mpr ⟨r,H,WL (h.row_ne H)⟩
theorem B7 (h:qk t):qB t<=(t.length:Int):=by
 obtain⟨r,a,H⟩:=List.mem_flatten.mp (VQ h)
 have:=h.lo r a _ H
 omega
theorem Gu (h:qk t){v:Nat}(H:(v:Int)<qB t):∃a b,a<t.length/\b<t.length/\at2 t a b=(v:Int):=by
 by_cases e:(v:Int)=qB t - 1
 ·rw[e];exact Og h.sq (VQ h)
 ·exact Og h.sq (h.fu v ⟨_,VQ h,by omega⟩)
noncomputable def jo (p:List Nat):List Int:=0::p.map λ (k:Nat)=>1+(k:Int)
def wM (t:List (List Int))(p o:List Nat):List (List Int):=o.map λ a=>o.map λ b=>(jo p).getD (at2 t a b).toNat 0
theorem J5 {p:List Nat}{v:Nat}(H:1<=v)(h:v<=p.length):(jo p).getD v 0=1+((p[v - 1]'(by omega):Nat):Int):=by
 obtain⟨v,rfl⟩:∃u,v=u+1:=⟨v - 1,by omega⟩
 unfold jo;rw[aa,List.getElem?_cons_succ,ar,ae (by omega)]
 rfl
theorem RZ (h:qk t){p o:List Nat}(n:p.Perm (List.range (qB t - 1).toNat))(f:o.Perm (List.range t.length)):qk (wM t p o)/\(wM t p o).length=t.length:=by
 have l:o.length=t.length:=by rw[f.length_eq,aN]
 have N:=wL h;have K:=B7 h;have A:p.length=(qB t - 1).toNat:=by rw[n.length_eq,aN]
 have n1:=h.n1;have H:∀i,o.getD i 0<t.length:=λ i=>by
  by_cases hi:i<o.length
  ·rw[aa,ae hi]
   exact qa5.mp (f.mem_iff.mp (aP hi))
  ·rw[aa,aC (by omega)]
   exact n1
 have u:o.Nodup:=(f.nodup_iff).mpr List.nodup_range;have r:∀a,a<t.length->∃i,i<t.length/\o.getD i 0=a:=λ a y=>by
  obtain⟨i,hi,e⟩:=bE (f.mem_iff.mpr (qa5.mpr y));exact⟨i,by omega,by rw[aa,ae hi];exact e⟩
 have c:∀q (g:q<p.length),p[q]<p.length:=λ q g=>by
  have:=qa5.mp (n.mem_iff.mp (aP g))
  omega
 have M:Mu t.length (λ i j=>(jo p).getD (at2 t (o.getD i 0) (o.getD j 0)).toNat 0) p.length (λ _ _=>True):=by
  refine⟨λ i=>?_,λ i j=>?_,λ i j B z _=>?_,λ i j _ _ hn=>absurd trivial hn,λ k k1 L=>?_⟩
  ·show(jo p).getD (at2 t (o.getD i 0) (o.getD i 0)).toNat 0=0
   rw[(h.dg _ _ (H i) (H i)).mpr rfl]
   rfl
  ·show(jo p).getD (at2 t (o.getD i 0) (o.getD j 0)).toNat 0=(jo p).getD (at2 t (o.getD j 0) (o.getD i 0)).toNat 0
   rw[h.sy _ _ (H i) (H j)]
  ·show 1<=(jo p).getD (at2 t (o.getD i 0) (o.getD j 0)).toNat 0/\(jo p).getD (at2 t (o.getD i 0) (o.getD j 0)).toNat 0<=(p.length:Int)
   have s:o.getD i 0≠o.getD j 0:=by
    have x:i<o.length:=by omega
    have w:j<o.length:=by omega
    rw[aa,ae x,aa,ae w];intro e;have J:o[i]=o[j]:=e
    have:=(getElem_inj u).mp J
    omega
   have d:=h.dg _ _ (H i) (H j);have b0:=Z5 h (H i) (H j);have Q:=Kk h (H i) (H j);have P:at2 t (o.getD i 0) (o.getD j 0)≠0:=λ e=>s (d.mp e);rw[J5 (by omega) (by omega)]
   have:=c ((at2 t (o.getD i 0) (o.getD j 0)).toNat - 1) (by omega)
   omega
  ·obtain⟨q,g,e⟩:=bE (n.mem_iff.mpr (qa5.mpr (by omega:k - 1<(qB t - 1).toNat)))
   obtain⟨a,b,y,C,I⟩:=Gu h (v:=q+1) (by omega)
   obtain⟨i,hi,D⟩:=r a y;obtain⟨j,z,E⟩:=r b C;refine⟨i,j,hi,z,?_⟩;show(jo p).getD (at2 t (o.getD i 0) (o.getD j 0)).toNat 0=(k:Int);rw[D,E,I,az,J5 (by omega) (by omega)]
   have:p[q+1 - 1]'(by omega)=k - 1:=e
   rw[this];omega
 have T:wM t p o=jv t.length (λ i j=>(jo p).getD (at2 t (o.getD i 0) (o.getD j 0)).toNat 0):=by
  unfold wM jv;rw[Jz o 0,l]
  congr 1
  funext i
  rw[Jz o 0 (λ b=>(jo p).getD (at2 t (o.getD i 0) b).toNat 0),l]
 refine⟨?_,by unfold wM;rw[ai,l]⟩
 rw[T];exact M.tab (λ _ _ _ _=>trivial) n1 h.n8 (.inr (by omega))
end
end G
namespace Mi
open PySem L2
theorem Cc {r b:Nat}{v:W}(h:A[r]? =some (.lst ws))(H:b<ws.length):gn (.ref r) (.int (b:Int)) v A=.ok () (A.set r (.lst (ws.set b v))):=by
 have e:gU ws.length (b:Int)=some b:=by unfold gU;rw[ag (by omega),ag (by omega),az]
 unfold gn;dsimp only;rw[h];dsimp only;rw[e]
structure Kp (n:Nat)(A B:Hx):Prop where
 len:A.length<=B.length
 at_:∀i,i<A.length->i≠n->B[i]? =A[i]?
section
variable {C:Hx}
theorem Kp.trans (a:Kp n A B)(b:Kp n B C):Kp n A C:=⟨br a.len b.len,λ i H h=>(b.at_ i (aD H a.len) h).trans (a.at_ i H h)⟩
theorem Kp.set :Kp n A (A.set n o):=⟨by rw[length_set];exact aw _,λ i _ h=>aH (Ne.symm h)⟩
theorem Kp.ext (x:Ext A B):Kp n A B:=by
 obtain⟨l,rfl⟩:=x;exact⟨by simp,λ i h _=>ah h⟩
theorem Kp.put (a:Kp n A B){k:Nat}(h:A.length<=k):Kp n A (B.set k o):=⟨by rw[length_set];exact a.len,λ i b H=>by rw[aH (by omega)];exact a.at_ i b H⟩
theorem Kp.get (a:Kp n A B)(h:A[i]? =some o)(hn:i≠n):B[i]? =some o:=by rw[a.at_ i (wY h) hn];exact h
end
theorem VA :(jv n μ).length=n:=by unfold jv;simp
theorem Oy :∀r∈jv n μ,r.length=(jv n μ).length:=λ r h=>by
 obtain⟨i,_,rfl⟩:=qa6.mp h;rw[VA];simp
end Mi
namespace G
open PySem L2 Mi
section
abbrev Sq (t:List (List Int)):Prop:=∀r∈t,r.length=t.length
end
def U7 (t:List (List Int)):Bool:=decide (1<=t.length)&&(decide (t.length<=8)&&((t.all λ r=>r.length==t.length&&r.all λ v=>decide (0<=v)&&decide (v<(t.length:Int)))&&
 (((List.range t.length).all λ a=>(List.range t.length).all λ b=>(decide (at2 t a b=0)==decide (a=b))&&decide (at2 t a b=at2 t b a))&&(List.range 8).all λ k=>!(t.flatten.any λ v=>decide ((k:Int)<v)) || t.flatten.contains (k:Int))))
theorem Gg (h:U7 t=true):qk t:=by
 unfold U7 at h;rw[aj,aj,aj,aj,ao,ao]at h;obtain⟨n1,n8,i,s,hf⟩:=h;have rw_:∀r∈t,r.length=t.length/\∀v∈r,0<=v/\v<(t.length:Int):=λ r hm=>by
  have:=qa4.mp i r hm
  rw[aj,aL]at this;refine⟨this.1,λ v d=>?_⟩
  have:=qa4.mp this.2 v d
  rw[aj,ao,ao]at this;exact this
 have at_:∀a b,a<t.length->b<t.length->(decide (at2 t a b=0)==decide (a=b))=true/\at2 t a b=at2 t b a:=λ a b c H=>by
  have:=qa4.mp (qa4.mp s a (qa5.mpr c)) b (qa5.mpr H)
  rw[aj,ao]at this;exact this
 refine⟨n1,n8,λ r hm=>(rw_ r hm).1,λ r hm=>(rw_ r hm).2,λ a b c H=>?_,λ a b c H=>(at_ a b c H).2,λ k j=>?_⟩
 ·have:=aL.mp (at_ a b c H).1
  by_cases q:a=b
  ·rw[aJ q]at this;exact⟨λ _=>q,λ _=>of_decide_eq_true this⟩
  ·rw[aK q]at this;exact⟨λ z=>absurd z (of_decide_eq_false this),λ z=>absurd z q⟩
 ·obtain⟨v,d,f⟩:=j
  obtain⟨r,hm,e⟩:=List.mem_flatten.mp d
  have:=(rw_ r hm).2 v e
  have g:=qa4.mp hf k (qa5.mpr (by omega))
  rw[bG]at g;rcases g with z|z
  ·exfalso
   have:(t.flatten.any λ v=>decide ((k:Int)<v))=true:=List.any_eq_true.mpr ⟨v,d,aJ f⟩
   rw[this]at z;cases z
  ·exact List.contains_iff_mem.mp z
theorem ZJ (t:List (List Int)):((zq t).nr&&true)=true:=by rw[ZW];rfl
noncomputable def ZK:W->Bool
 |.int _=>true|_=>false
theorem Jf {m:Ev}{w:W}{ty c:Ty}(h:m ρ A=.ok w A1)(H:jw w A1=some ty):kL c m ρ A=.ok (.bl (yZ ty c)) A1:=by
 unfold kL;rw[h,zP,H]
theorem Kv (h:ρ[i]? =some (some (.tup ws))):mQ qy (qf (zc i)) ρ A=.ok (.int ws.length) A:=by
 rw[yA (ko (w:=.tup ws) (A1:=A) (zt h) rfl)]
 rfl
theorem DI {v n:Int}(H:ρ[i]? =some (some (.int v)))(hn:me ρ A=.ok (.int n) A):ku Zo Jr (zi (.int 0)) (zc i) me ρ A=.ok (.bl (decide (0<=v)&&decide (v<n))) A:=by
 unfold ku;rw[jb,zP,zt H,zP];show R.bind (R.ok (W.bl (decide ((0:Int)<=v))) A) _=_
 by_cases h:0<=v
 ·rw[aJ h,zP]
  dsimp only;rw[hn,zP]
  rfl
 ·rw[aK h,zP]
  rfl
theorem Hh (i:Int)(A:Hx):Zv [.int i] A=.ok (.bl true) A:=by
 unfold Zv Ws;exact qS (w:=.bl true) (A1:=A) rfl
theorem P7 {r:List Int}(h:r.length<=8)(A:Hx):gB [zw r,.int r.length] A=.ok (.bl true) A:=by
 unfold gB JE;refine qS ?_;unfold YR;refine qG (qZ ?_);refine(Zy (A1:=A) rfl).trans ?_;have e:mQ qy (qf (zc 0)) [some (zw r),some (.int r.length)] A=.ok (.int r.length) A:=by
  rw[yA (ko (w:=zw r) (A1:=A) (zt rfl) rfl)];unfold qy;rw[ai]
 refine(Zy (A1:=A) ((zT e (zt (i:=1) rfl)).trans ((Jt _ _ _).trans (by rw[aJ rfl])))).trans ?_
 have E:=Y4 (cap:=[]) (A:=A) (ρ:=[some (zw r),some (.int r.length)]) (ws:=r.map W.int) (me:=zF Zv (zh (zc 0) zm)) (g:=λ _=>.bl true) (zt (i:=0) rfl) (by rw[ai];unfold zX;omega) (λ w hw=>by
  obtain⟨i,_,rfl⟩:=qa6.mp hw;exact(zO (ws:=[.int i]) (A1:=A) rfl).trans (Hh i A))
 exact(yA E).trans (Kf (p:=λ _=>true) λ _ _=>rfl)
theorem Cs {r:List Int}(l:r.length<=8)(H:∀v∈r,0<=v/\v<r.length)(A:Hx):Qm [zw r,.int r.length,.int r.length] A=.ok (.bl true) A:=by
 unfold Qm K4;refine qS ?_;unfold Xu;refine qG (qZ ?_);refine(Zy (A1:=A) ((zO (ws:=[zw r,.int r.length]) (A1:=A) rfl).trans (P7 l A))).trans ?_;have e:=Y4 (cap:=[2]) (A:=A) (ρ:=[some (zw r),some (.int r.length),some (.int r.length)]) (ws:=r.map W.int) (me:=ku Zo Jr (zi (.int 0)) (zc 0) (zc 1)) (g:=λ _=>.bl true) (zt (i:=0) rfl) (by rw[ai];unfold zX;omega) (λ w hw=>by
  obtain⟨v,h,rfl⟩:=qa6.mp hw;obtain⟨b,a⟩:=H v h;unfold ku;rw[jb,zP,zt (i:=0) (w:=.int v) rfl,zP];show R.bind (R.ok (W.bl (decide ((0:Int)<=v))) A) _=_;rw[aJ b,zP];dsimp only;rw[zt (i:=1) (w:=.int r.length) rfl,zP];show R.ok (W.bl (decide (v<(r.length:Int)))) A=_;rw[aJ a])
 exact(yA e).trans (Kf (p:=λ _=>true) λ _ _=>rfl)
theorem Ah (h:qk t)(A:Hx):Vs [zq t] A=.ok (.bl true) A:=by
 refine Ze (A1:=[]) (ZJ t) rfl (qS ?_);unfold RX;obtain⟨d,e,_⟩:=Pj (A:=[]) (N:=t.length) (item:=λ i=>.tup [.int i,zw (t.getD i [])]) (I:=λ ρ=>∃n g Y y,ρ=[some (zq t),n,g,Y,y])
  (j:=kA (zq t) (t.map zw).length) (st:=turn (jj 1 2) (zr (yv (kT (zc 2)) (jj 3 4) (zr (qM (gW (zo q9 (zo jn (zc 4) (zi (.int 0))) (zo jn (zc 1) (zc 3))) (zo q9 (zo zI (zo zI (zc 0) (zc 3)) (zc 1)) (zc 4))) (zr (qd (zi (.bl false))) zA) zA) zA)) zA))
  (λ i o=>Yl (Yh o)) (by have:=Yb (A:=[]) (ws:=t.map zw);rw[ai]at this;rw[ai];exact this) (λ a f ρ H=>by
   obtain⟨n,g,Y,y,rfl⟩:=H;have l:=h.sq _ (yx f);obtain⟨p,E,r,Z,s⟩:=Pj (A:=[]) (N:=t.length) (item:=λ i=>.tup [.int i,.int ((t.getD a []).getD i 0)]) (I:=λ ρ=>∃Y y,ρ=[some (zq t),some (.int a),some (zw (t.getD a [])),Y,y])
    (j:=kA (zw (t.getD a [])) ((t.getD a []).map W.int).length) (st:=turn (jj 3 4) (zr (qM (gW (zo q9 (zo jn (zc 4) (zi (.int 0))) (zo jn (zc 1) (zc 3))) (zo q9 (zo zI (zo zI (zc 0) (zc 3)) (zc 1)) (zc 4))) (zr (qd (zi (.bl false))) zA) zA) zA))
    (λ i o=>Yl (int_at (by omega)))
    (by have:=Yb (A:=[]) (ws:=(t.getD a []).map W.int);rw[ai,l]at this;rw[ai,l];exact this)
    (λ b c ρ H=>by
     obtain⟨Y,y,rfl⟩:=H;refine⟨[some (zq t),some (.int a),some (zw (t.getD a [])),some (.int b),some (.int ((t.getD a []).getD b 0))],?_,_,_,rfl⟩;refine(wk rfl).trans ?_;refine(zH ((yr (A1:=[]) ?_).trans rfl)).trans rfl;have x:zo q9 (zo jn (zc 4) (zi (.int 0))) (zo jn (zc 1) (zc 3)) [some (zq t),some (.int a),some (zw (t.getD a [])),some (.int b),some (.int ((t.getD a []).getD b 0))] []=.ok (.bl false) []:=by
      refine(zT ((zT (zt (i:=4) rfl) (jb (w:=.int 0))).trans (Jt _ _ _)) ((zT (zt (i:=1) rfl) (zt (i:=3) rfl)).trans (Jt _ _ _))).trans ((N7 _ _ _).trans ?_);have hd:(t.getD a []).getD b 0=0↔a=b:=h.dg a b f c
      have:decide ((t.getD a []).getD b 0=0)=decide ((a:Int)=(b:Int)):=by
       by_cases q:a=b
       ·rw[aJ (hd.mpr q),aJ (by omega)]
       ·rw[aK (λ z=>q (hd.mp z)),aK (by omega)]
      rw[this];simp
     have E:zo q9 (zo zI (zo zI (zc 0) (zc 3)) (zc 1)) (zc 4) [some (zq t),some (.int a),some (zw (t.getD a [])),some (.int b),some (.int ((t.getD a []).getD b 0))] []=.ok (.bl false) []:=by
      have v:=h.sq _ (yx c);refine(zT ((zT ((zT (zt (i:=0) rfl) (zt (i:=3) rfl)).trans (Kr c)) (zt (i:=1) rfl)).trans (Uw (by omega))) (zt (i:=4) rfl)).trans ((N0 _ _ _).trans ?_)
      have u:(t.getD b []).getD a 0=(t.getD a []).getD b 0:=(h.sy a b f c).symm;rw[u,aJ rfl]
      rfl
     exact(GC x).trans E) t.length 0 [some (zq t),some (.int a),some (zw (t.getD a [])),Y,y] (by omega) ⟨_,_,rfl⟩
   refine⟨[some (zq t),some (.int a),some (zw (t.getD a [])),r,Z],?_,_,_,_,_,rfl⟩;refine(wk rfl).trans ?_;rw[s]at E;have hlen:((t.getD a []).map W.int).length=t.length:=by rw[ai,l]
   refine(zH ((wH (JL (zt (i:=2) rfl))).trans ?_)).trans rfl;show yo (kA (zw (t.getD a [])) ((t.getD a []).map W.int).length) _ ((t.getD a []).map W.int).length 0 _ _=_;rw[hlen]at E ⊢;exact E) t.length 0 [some (zq t),none,none,none,none] (by omega) ⟨_,_,_,_,rfl⟩
 refine(zH (ρ1:=d) (A1:=[]) ((wH (JL (zt (i:=0) rfl))).trans ?_)).trans (qG rfl);show yo (kA (zq t) (t.map zw).length) _ (t.map zw).length 0 _ _=_;have hlen:(t.map zw).length=t.length:=ai ..;rw[hlen]at e ⊢;exact e
theorem Bi (h:qk t)(A:Hx):Xr [zq t] A=.ok (.bl true) A:=by
 have o:=Dp h;have c:t.flatten≠[]:=by
  intro e;have y:=h.n1;have b:=h.sq _ (yx (t:=t) (a:=0) (by omega))
  have:t.getD 0 []=[]:=by
   have:=List.flatten_eq_nil_iff.mp e _ (yx (t:=t) (a:=0) (by omega))
   exact this
  rw[this]at b;simp at b;omega
 obtain⟨v0,l,E⟩:=List.exists_cons_of_ne_nil c;refine Ze (A1:=[.lst (t.flatten.map W.int)]) (ZJ t) rfl (qS ?_);unfold Tz;refine(zH (ρ1:=[some (zq t),some (.ref 0)]) (A1:=[.lst (t.flatten.map W.int)]) ((qJ (wG (Bd (zt rfl) (by unfold zX;omega)))).trans rfl)).trans (qG (qZ ?_))
 generalize q:[O.lst (t.flatten.map W.int)]=B;have s:zR (.ref 0) B=some (t.flatten.map W.int):=by rw[<- q];rfl
 have em:mQ yC (qf (zc 1)) [some (zq t),some (.ref 0)] B=.ok (.int (yu l v0)) B:=by
  rw[yA (ko (w:=.ref 0) (A1:=B) (zt rfl) s)];unfold yC;rw[YQ,E]
 have H:yu l v0∈t.flatten:=by
  rw[E];rcases Vv l v0 with e|e
  ·rw[e];exact aE ..
  ·exact ax _ e
 have f:0<=yu l v0/\yu l v0<8:=by
  obtain⟨r,b,v⟩:=List.mem_flatten.mp H
  have:=h.lo r b _ v
  have:=h.n8
  omega
 generalize yu l v0=M at em H f;obtain⟨K,rfl⟩:=aS f.1;have u:=g9 (cap:=[1]) (me:=zo Xi (zc 0) (zc 1)) (ρ:=[some (zq t),some (.ref 0)]) (A:=B) (N:=K) (j:=wq 0 K) (item:=λ i=>.int (0+i)) (g:=λ _=>.bl true)
  ((gD em (by unfold j0;simp;omega)).trans (by rw[az])) rfl (by unfold zX;omega) (λ i d=>w9 d) (wZ (by omega))
  (λ i d=>by
   refine(zT (zt (i:=0) (w:=.int (0+i)) rfl) (zt (i:=1) (w:=.ref 0) rfl)).trans ?_;show Jk false _ _ _=_;unfold Jk;rw[s];dsimp only;have hf:(yB (.int (0+(i:Int)))&&(t.flatten.map W.int).all yB)=true:=by
    have:(t.flatten.map W.int).all yB=true:=qa4.mpr λ w hw=>by obtain⟨x,_,rfl⟩:=qa6.mp hw;rfl
    rw[this];rfl
   rw[ag hf];have n:Yx (.int (0+(i:Int))) (t.flatten.map W.int)=true:=by
    unfold Yx;refine List.any_eq_true.mpr ⟨.int i,qa6.mpr ⟨(i:Int),h.fu i ⟨_,H,by omega⟩,rfl⟩,?_⟩
    show((i:Int)==0+(i:Int))=true;rw[bz];exact bp _
   rw[n]
   rfl)
 refine(yA u).trans ?_;exact Kf (p:=λ _=>true) λ _ _=>rfl
theorem Ci (h:qk t)(A:Hx):Zx [zq t] A=.ok (.bl true) A:=by
 have n1:=h.n1;have n8:=h.n8;unfold Zx YT;refine qS ?_;unfold Wu;have e:∀ρ:En,mQ qy (qf (zc 0)) (some (zq t)::ρ) A=.ok (.int t.length) A:=λ ρ=>by
  rw[yA (ko (w:=zq t) (A1:=A) (zt rfl) rfl)];unfold qy;rw[ai]
 refine(zH (ρ1:=[some (zq t),none]) (A1:=A) ((yr (A1:=A) ?_).trans rfl)).trans ?_
 ·refine(GC (A1:=A) rfl).trans ?_
  refine kR (k:=true) ?_;show ku Zo Zo (zi (.int 1)) (mQ qy (qf (zc 0))) (zi (.int 8)) [some (zq t),none] A=_;unfold ku;rw[jb,zP,e,zP];show R.bind (R.ok (W.bl (decide ((1:Int)<=t.length))) A) _=_;rw[aJ (by omega),zP]
  dsimp only;rw[jb,zP];show R.ok (W.bl (decide ((t.length:Int)<=8))) A=_;rw[aJ (by omega)]
 refine(zH (ρ1:=[some (zq t),some (.int t.length)]) (A1:=A) ((qJ (e _)).trans rfl)).trans ?_;have E:=Y4 (cap:=[1]) (A:=A) (ρ:=[some (zq t),some (.int t.length)]) (ws:=t.map zw) (me:=zF Qm (zh (zc 0) (zh (zc 1) (zh (zc 1) zm)))) (g:=λ _=>.bl true) (zt (i:=0) rfl) (by rw[ai];unfold zX;omega) (λ w hw=>by
  obtain⟨r,H,rfl⟩:=qa6.mp hw;have l:=h.sq r H;refine(zO (ws:=[zw r,.int t.length,.int t.length]) (A1:=A) rfl).trans ?_;rw[<- l];exact Cs (by omega) (λ v a=>by have:=h.lo r H v a;omega) A)
 refine(zH (ρ1:=[some (zq t),some (.int t.length)]) (A1:=A) ((yr (A1:=A) (kR (k:=true) ((yA E).trans (Kf (p:=λ _=>true) λ _ _=>rfl)))).trans rfl)).trans (qG (qZ ?_));refine(Zy (A1:=A) ((zO (ws:=[zq t]) (A1:=A) rfl).trans (Ah h A))).trans ?_;exact(zO (ws:=[zq t]) (A1:=A) rfl).trans (Bi h A)
end G
namespace Mi
open PySem L2
theorem X8:∀(l m:List Int),PyData.eqvAll (l.map PyData.int) (m.map PyData.int)=decide (l=m)
 |[],[]=>by simp[PyData.eqvAll]|[],_::_=>by simp[PyData.eqvAll]|_::_,[]=>by simp[PyData.eqvAll]|a::l,b::m=>by
  simp only[aV,PyData.eqvAll,X8 l m,PyData.eqv];rw[Bool.eq_iff_iff];simp
theorem Vr :∀l:List Int,jH (qh A n) (l.map W.int)=some (l.map PyData.int)
 |[]=>rfl|i::l=>by
  have:qh A n (.int i)=some (.int i):=by cases n<;>rfl
  show(match qh A n (.int i),jH (qh A n) (l.map W.int) with|some d,some ds=>some (d::ds) | _,_=>none)=_
  rw[this,Vr l]
  rfl
theorem Ki {r:Nat}{l:List Int}(h:A[r]? =some (.lst (l.map W.int))):qh A 8 (.ref r)=some (.list (l.map PyData.int)):=by
 show(match zR (.ref r) A with|some ws=>(jH (qh A 7) ws).map PyData.list|none=>none)=_
 have:zR (.ref r) A=some (l.map W.int):=by unfold zR;dsimp only;rw[h]
 rw[this];dsimp only;rw[Vr]
 rfl
theorem eqL {r s:Nat}{l m:List Int}(h:A[r]? =some (.lst (l.map W.int)))(H:A[s]? =some (.lst (m.map W.int))):jn (.ref r) (.ref s) A=.ok (.bl (decide (l=m))) A:=by
 show gM false _ _ A=_;unfold gM;rw[Ki h,Ki H];dsimp only;rw[PyData.eqv,X8]
 rfl
end Mi
namespace Mi
open PySem L2
def Ky (A B:Hx):Prop:=∀w ty,jw w A=some ty->jw w B=some ty
theorem Ext.ky (x:Ext A B):Ky A B:=λ w ty h=>by
 cases w with
 |ref n=>
  unfold jw at h ⊢;dsimp only at h ⊢;cases e:A[n]? with
  |none=>rw[e]at h;cases h|some o=>rw[e]at h;rw[x.at e];exact h
 |_=>exact h
theorem Ky.trans {C:Hx}(a:Ky A B)(b:Ky B C):Ky A C:=λ w ty h=>b w ty (a w ty h)
end Mi
namespace Mi
open PySem L2
section
theorem V2 :jw (.ref A.length) (A++[.lst ws])=some .lst:=by
 unfold jw;dsimp only;rw[qL]
end
structure Kn (n:Nat)(A B:Hx):Prop where
 kp:Kp n A B
 st:G.qX n B
theorem _root_.G.qX.ty (h:G.qX n A):jw (.ref n) A=some .lst:=by
 obtain⟨c,b,e,_⟩:=h;unfold jw;dsimp only;rw[e]
theorem _root_.G.qX.lt (h:G.qX n A):n<A.length:=by
 obtain⟨c,b,e,_⟩:=h;exact wY e
theorem _root_.G.qX.ext (h:G.qX n A)(x:Ext A B):G.qX n B:=by
 obtain⟨c,b,e,r⟩:=h;exact⟨c,b,x.at e,r⟩
theorem _root_.G.qX.put {k:Nat}(h:G.qX n A)(H:k≠n):G.qX n (A.set k o):=by
 obtain⟨c,b,e,r⟩:=h;exact⟨c,b,by rw[aH H];exact e,r⟩
theorem Kn.ky (s:G.qX n A)(k:Kn n A B):Ky A B:=λ w ty h=>by
 cases w with
 |ref i=>
  by_cases q:i=n
  ·subst q
   rw[s.ty]at h;rw[k.st.ty];exact h
  ·unfold jw at h ⊢
   dsimp only at h ⊢
   by_cases z:i<A.length
   ·rw[k.kp.at_ i z q];exact h
   ·rw[aC (by omega)]at h;cases h
 |_=>exact h
theorem Kn.trans {C:Hx}(a:Kn n A B)(b:Kn n B C):Kn n A C:=⟨a.kp.trans b.kp,b.st⟩
theorem Kn.ext (s:G.qX n A)(x:Ext A B):Kn n A B:=⟨Kp.ext x,s.ext x⟩
end Mi
namespace G
open PySem L2 Mi
theorem Nm (h:qX n A){m:Int}(c:0<m)(H:m<1000000000000000):∃(r:Nat) (B:Hx),yk [.ref n,.int m] A=.ok (.int r) B/\(r:Int)<m/\Kn n A B/\B.length=A.length:=by
 obtain⟨r,o,e,a,b,s⟩:=O7 h c H;exact⟨r.toNat,A.set n o,by rw[e,Int.toNat_of_nonneg a],by omega,⟨Kp.set,s⟩,length_set ..⟩
theorem Q3 {m:Int}(h:qX n A)(h0:ρ[0]? =some (some (.ref n)))(hm:me ρ A=.ok (.int m) A)(b:0<m)(H:m<1000000000000000):∃(r:Nat) (B:Hx),zF yk (zh (zc 0) (zh me zm)) ρ A=.ok (.int r) B/\(r:Int)<m/\Kn n A B/\B.length=A.length:=by
 obtain⟨r,B,e,a⟩:=Nm h b H;exact⟨r,B,(zO (zB (zt h0) (zB hm zQ))).trans e,a⟩
theorem Nv {ty:Ty}(h:ty≠.tup):yZ ty .tup=false:=by
 cases ty<;>first|rfl|exact absurd rfl h
def wc (A:Hx)(w:W):Prop:=∀B,Ky A B->Zx [w] B=.ok (.bl false) B
theorem wc.mono {w:W}(k:Ky A B)(h:wc A w):wc B w:=λ C q=>h C (k.trans q)
theorem Nw {w:W}{ty:Ty}(h:jw w A=some ty)(hn:ty≠.tup):wc A w:=λ B k=>by
 unfold Zx YT;refine qS ?_;unfold Wu;have e:kL .tup (zc 0) [some w,none] B=.ok (.bl false) B:=(Jf (zt rfl) (k _ _ h)).trans (by rw[Nv hn])
 have E:gW (yH (kL .tup (zc 0))) (yH (ku Zo Zo (zi (.int 1)) (mQ qy (qf (zc 0))) (zi (.int 8)))) [some w,none] B=.ok (.bl true) B:=by
  unfold gW;rw[kR e,zP]
  rfl
 exact qG ((Zg E).trans (qG (qZ jb)))
theorem zaU (h:jw (.ref j) A=some .lst):wc A (.tup [.ref j]):=λ B k=>by
 unfold Zx YT;refine qS ?_;unfold Wu;have H:=k _ _ h;have e:gB [.ref j,.int 1] B=.ok (.bl false) B:=by
  unfold gB JE;refine qS ?_;unfold YR;exact qG (qZ (Q7 ((Jf (zt rfl) H).trans rfl)))
 have b:Qm [.ref j,.int 1,.int 1] B=.ok (.bl false) B:=by
  unfold Qm K4;refine qS ?_;unfold Xu;exact qG (qZ (Q7 ((zO (ws:=[.ref j,.int 1]) (A1:=B) rfl).trans e)))
 have E:=Y4 (cap:=[1]) (A:=B) (ρ:=[some (.tup [.ref j]),some (.int 1)]) (ws:=[.ref j]) (me:=zF Qm (zh (zc 0) (zh (zc 1) (zh (zc 1) zm)))) (g:=λ _=>.bl false) (zt (i:=0) rfl) (by simp[zX]) (λ w hw=>by
  rw[qa7.mp hw];exact(zO (ws:=[.ref j,.int 1,.int 1]) (A1:=B) rfl).trans b)
 refine(zH (ρ1:=[some (.tup [.ref j]),none]) (A1:=B) rfl).trans ((zH (ρ1:=[some (.tup [.ref j]),some (.int 1)]) (A1:=B) rfl).trans ?_);exact qG ((Zg (kR (k:=false) ((yA E).trans rfl))).trans (qG (qZ jb)))
def ET (m:Ev)(ρ:En):Prop:=∀A,∃w A1,m ρ A=.ok w A1/\Ext A A1/\wc A1 w
def AT (a:Ea)(ρ:En)(k:Nat):Prop:=∀A,∃ws A1,a ρ A=.ok ws A1/\Ext A A1/\ws.length=k/\∀w∈ws,wc A1 w
section
variable {m:Ev}{a:Ea}{k:Nat}{w:W}
theorem Gk:AT zm ρ 0:=λ A=>⟨[],A,rfl,Ext.refl,rfl,λ _ h=>by cases h⟩
theorem yy (h:ET m ρ)(t:AT a ρ k):AT (zh m a) ρ (k+1):=λ A=>by
 obtain⟨w,A1,E,x1,c⟩:=h A;obtain⟨ws,A2,e,x2,l,b⟩:=t A1;refine⟨w::ws,A2,zB E e,x1.trans x2,by rw[bb,l],λ y H=>?_⟩
 rcases qa3.mp H with rfl|H
 ·exact c.mono x2.ky
 ·exact b y H
theorem yT (h:∀A,m ρ A=.ok w A)(hf:∀B,Zx [w] B=.ok (.bl false) B:=by intro B;kernel_rfl):ET m ρ:=λ A=>⟨w,A,h A,Ext.refl,λ B _=>hf B⟩
theorem Ad:ET Jo ρ:=λ A=>⟨.ref A.length,A++[.dct []],rfl,Ext.one,Nw (ty:=.dct) (by unfold jw;dsimp only;rw[qL]) (by decide)⟩
end
section
variable {a:Ea}{k:Nat}
structure TL (A:Hx)(r k:Nat)(B:Hx):Prop where
 at_:∃ws,B[r]? =some (.lst ws)/\ws.length=k/\∀w∈ws,wc B w
 nw:A.length<=r
 ext:Ext A B
theorem BW (h:AT a ρ k)(A:Hx):∃r B,zU a ρ A=.ok (.ref r) B/\TL A r k B:=by
 obtain⟨ws,A1,e,x,l,hw⟩:=h A;exact⟨_,_,jC e,⟨ws,qL,l,λ w H=>(hw w H).mono Ext.one.ky⟩,x.len,x.app⟩
theorem Uq {r:Nat}(t:TL A r j B)(h:AT a ρ k)(c:ρ[i]? =some (some (.ref r)))(f:j+k<=100):∃b C,zo qx (zc i) (zU a) ρ B=.ok (.ref b) C/\TL A b (j+k) C:=by
 obtain⟨ws,e,l,hw⟩:=t.at_;obtain⟨us,d,E,x1,L,u⟩:=h B;have x2:Ext B (d++[.lst us]):=x1.app;refine⟨_,_,(zT (zt c) (jC E)).trans (WI (x2.at e) qL (by unfold zX;omega)),⟨ws++us,qL,by rw[ay,l,L],λ w H=>?_⟩,?_,(t.ext.trans x2).app⟩
 ·rcases qa8.mp H with q|q
  ·exact(hw w q).mono (x2.app).ky
  ·exact(u w q).mono (Ext.one.trans Ext.one).ky
 ·have:=t.ext.len
  have:=x2.len
  omega
theorem Cd {r:Nat}{m:Int}{mm:Ev}(s:qX n A)(t:TL A r k B)(a:ρ[i]? =some (some (.ref r)))(h0:ρ[0]? =some (some (.ref n)))(hm:∀A,mm ρ A=.ok (.int m) A)(c:(k:Int)=m)(b:0<m)(f:m<1000):∃w C,zo zI (zc i) (zF yk (zh (zc 0) (zh mm zm))) ρ B=.ok w C/\wc C w/\Kn n A C:=by
 obtain⟨ws,e,l,hw⟩:=t.at_;have sB:=s.ext t.ext;obtain⟨j,C,E,d,K,_⟩:=Q3 sB h0 (hm B) b (by omega)
 have h:j<ws.length:=by omega
 have H:r≠n:=by have:=s.lt;have:=t.nw;omega
 refine⟨ws[j],C,(zT (zt a) E).trans (km (K.kp.get e H) (ae h)),(hw _ (aP h)).mono (K.ky sB),(Kn.ext s t.ext).trans K⟩
end
theorem zaD (s:qX n A):∃w B,QN [.ref n] A=.ok w B/\wc B w/\Kn n A B:=by
 unfold QN Xv;unfold TM;have E:∀ρ,ET (zU (zh (zU (zh (zi (.int 0)) zm)) zm)) ρ:=λ ρ A=>⟨_,_,jC (zB (jC (zB jb zQ)) zQ),Ext.one.app,Nw V2 (by decide)⟩
 have e:∀ρ,ET (zC (zh (zU (zh (zi (.int 0)) zm)) zm)) ρ:=λ ρ A=>⟨_,_,Kg (zB (jC (zB jb zQ)) zQ),Ext.one,zaU V2⟩;obtain⟨d,u,l,t1⟩:=BW (k:=11) (ρ:=[some (.ref n),none]) (a:=zh (zi .non) (zh (zi (.int 0)) (zh (zC zm) (zh (zC (zh (zC zm) zm)) (zh (zC (zh (zC (zh (zi (.int 1)) zm)) zm)) (zh (zU (zh (zU (zh (zi (.int 0)) zm)) zm)) (zh (zC (zh (zU (zh (zi (.int 0)) zm)) zm)) (zh (zC (zh (zC (zh (zi (.int 0)) zm)) (zh (zC (zh (zi (.int 0)) zm)) zm))) (zh (zC (zh (zC (zh (zi (.int 0)) (zh (zi (.int 1)) zm))) (zh (zC (zh (zi (.int 2)) (zh (zi (.int 0)) zm))) zm))) (zh (zC (zh (zC (zh (zi (.int 0)) (zh (zi (.int 2)) zm))) (zh (zC (zh (zi (.int 2)) (zh (zi (.int 0)) zm))) zm))) (zh Jo zm))))))))))) (yy (yT (λ _=>rfl)) (yy (yT (λ _=>rfl)) (yy (yT (w:=.tup []) (λ _=>rfl)) (yy (yT (w:=.tup [.tup []]) (λ _=>rfl)) (yy (yT (w:=.tup [.tup [.int 1]]) (λ _=>rfl)) (yy (E _) (yy (e _) (yy (yT (w:=.tup [.tup [.int 0],.tup [.int 0]]) (λ _=>rfl))
  (yy (yT (w:=.tup [.tup [.int 0,.int 1],.tup [.int 2,.int 0]]) (λ _=>rfl)) (yy (yT (w:=.tup [.tup [.int 0,.int 2],.tup [.int 2,.int 0]]) (λ _=>rfl)) (yy Ad Gk))))))))))) A
 obtain⟨c,q,j,T⟩:=Uq (k:=5) (i:=1) (ρ:=[some (.ref n),some (.ref d)]) (a:=zh (zC (zh (zC (zh (zi (.int 0)) (zh (zi (.int 1)) zm))) (zh (zC (zh (zi (.int 1)) (zh (zi (.int 1)) zm))) zm))) (zh (zC (zh (zC (zh (zi (.bl true)) zm)) zm)) (zh (zC (zh (zC (zh (zi (.int 0)) (zh (zi (.bl true)) zm))) (zh (zC (zh (zi (.bl true)) (zh (zi (.int 0)) zm))) zm))) (zh (zC (zh (zC (zh (zi (.int 0)) (zh (jJ QG (zi (.int 1))) zm))) (zh (zC (zh (jJ QG (zi (.int 1))) (zh (zi (.int 0)) zm))) zm))) (zh (zC (zh (zC (zh (zi (.int 0)) (zh (zi (.int 1)) zm))) (zh (zC (zh (zi (.int 1)) (zh (zi (.int 0)) zm))) (zh (zC (zh (zi (.int 1)) (zh (zi (.int 1)) zm))) zm)))) zm))))) t1 (yy (yT (w:=.tup [.tup [.int 0,.int 1],.tup [.int 1,.int 1]]) (λ _=>rfl)) (yy (yT (w:=.tup [.tup [.bl true]]) (λ _=>rfl)) (yy (yT (w:=.tup [.tup [.int 0,.bl true],.tup [.bl true,.int 0]]) (λ _=>rfl))
  (yy (yT (w:=.tup [.tup [.int 0,.int (-1)],.tup [.int (-1),.int 0]]) (λ _=>rfl)) (yy (yT (w:=.tup [.tup [.int 0,.int 1],.tup [.int 1,.int 0],.tup [.int 1,.int 1]]) (λ _=>rfl)) Gk))))) rfl (by omega)
 obtain⟨b,p,h,t3⟩:=Uq (k:=5) (i:=1) (ρ:=[some (.ref n),some (.ref c)]) (a:=zh (zC (zh (zC (zh (zi (.int 0)) (zh (zi (.int 1)) (zh (zi (.int 2)) zm)))) (zh (zC (zh (zi (.int 1)) (zh (zi (.int 0)) (zh (zi (.int 2)) zm)))) (zh (zC (zh (zi (.int 2)) (zh (zi (.int 2)) (zh (zi (.int 1)) zm)))) zm)))) (zh (zi (.str "0")) (zh (zC (zh (zC (zh (zi (.int 0)) (zh (zi (.int 3)) (zh (zi (.int 3)) zm)))) (zh (zC (zh (zi (.int 3)) (zh (zi (.int 0)) (zh (zi (.int 1)) zm)))) (zh (zC (zh (zi (.int 3)) (zh (zi (.int 1)) (zh (zi (.int 0)) zm)))) zm)))) (zh (zC (zh (zC (zh (zi (.int 0)) zm)) (zh (zC zm) zm))) (zh (zC (zh (zi (.int 0)) zm)) zm))))) T (yy (yT (w:=.tup [.tup [.int 0,.int 1,.int 2],.tup [.int 1,.int 0,.int 2],.tup [.int 2,.int 2,.int 1]]) (λ _=>rfl)) (yy (yT (λ _=>rfl))
  (yy (yT (w:=.tup [.tup [.int 0,.int 3,.int 3],.tup [.int 3,.int 0,.int 1],.tup [.int 3,.int 1,.int 0]]) (λ _=>rfl)) (yy (yT (w:=.tup [.tup [.int 0],.tup []]) (λ _=>rfl)) (yy (yT (w:=.tup [.int 0]) (λ _=>rfl)) Gk))))) rfl (by omega)
 obtain⟨r,o,g,t⟩:=Uq (k:=2) (i:=1) (ρ:=[some (.ref n),some (.ref b)]) (a:=zh (zC (zh (zC (zh (zi .non) zm)) zm)) (zh (zC (zh (zC (zh (zi (.int 0)) (zh (zi (.int 0)) zm))) (zh (zC (zh (zi (.int 0)) (zh (zi (.int 0)) zm))) zm))) zm)) t3 (yy (yT (w:=.tup [.tup [.non]]) (λ _=>rfl)) (yy (yT (w:=.tup [.tup [.int 0,.int 0],.tup [.int 0,.int 0]]) (λ _=>rfl)) Gk)) rfl (by omega)
 obtain⟨w,C,f,hw,K⟩:=Cd (i:=1) (ρ:=[some (.ref n),some (.ref r)]) (mm:=zi (.int 23)) (m:=23) s t rfl rfl (λ _=>rfl) rfl (by decide) (by decide)
 refine⟨w,C,qS ?_,hw,K⟩;refine(zH ((qJ l).trans rfl)).trans ((zH ((qJ j).trans rfl)).trans ((zH ((qJ h).trans rfl)).trans ((zH ((qJ g).trans rfl)).trans (qG (qZ f)))))
section
theorem D7 (h:i<t.length):(B++(t.map λ r=>O.lst (r.map W.int))++[O.lst ((List.range t.length).map λ i=>W.ref (B.length+i))])[B.length+i]? =some (.lst ((t.getD i []).map W.int)):=by
 rw[ah (by simp;omega),aq (by omega),show B.length+i - B.length=i by omega,ar,aa,ae h]
 rfl
theorem EF:(B++(t.map λ r=>O.lst (r.map W.int))++[O.lst ((List.range t.length).map λ i=>W.ref (B.length+i))])[B.length+t.length]? =some (.lst ((List.range t.length).map λ i=>W.ref (B.length+i))):=by
 have:B.length+t.length=(B++(t.map λ r=>O.lst (r.map W.int))).length:=by simp
 rw[this,qL]
end
theorem YB {r s:Nat}{l m:List Int}(h:A[r]? =some (.lst (l.map W.int)))(H:A[s]? =some (.lst (m.map W.int))):q9 (.ref r) (.ref s) A=.ok (.bl (!decide (l=m))) A:=by
 show gM true _ _ A=_;unfold gM;rw[Ki h,Ki H];dsimp only;rw[PyData.eqv,X8]
 rfl
section
variable {p f:Nat}
theorem EX {x:Option W}(X:A.length<=p)(hf:A.length<=f)(hn:n<A.length)(h:p≠f):∀(k fu:Nat)(l fd:List Int)(B:Hx),l.length=k->k<fu->fd.length+l.length<=100->Kn n A B->B[p]? =some (.lst (l.map W.int))->B[f]? =some (.lst (fd.map W.int))->
  ∃(r:Hx) (b:List Int),Qg (zo q9 (zc 2) (zU zm)) (zr (jx (jQ j4 (zc 3) (jQ ZA (zc 2) (zF yk (zh (zc 0) (zh (mQ qy (qf (zc 2))) zm)))))) zA) fu [some (.ref n),x,some (.ref p),some (.ref f)] B=.ok (.nx [some (.ref n),x,some (.ref p),some (.ref f)]) r/\Kn n A r/\r[f]? =some (.lst (b.map W.int))/\b.Perm (fd++l):=by
 intro k
 induction k with
 |zero=>
  intro fu l fd B H C _ d s I;obtain⟨fu,rfl⟩:∃L,fu=L+1:=⟨fu - 1,by omega⟩
  have:l=[]:=List.length_eq_zero_iff.mp H
  subst this;refine⟨B++[.lst []],fd,?_,d.trans (Kn.ext d.st Ext.one),j5 I,by simp⟩
  unfold Qg;have t:zo q9 (zc 2) (zU zm) [some (.ref n),x,some (.ref p),some (.ref f)] B=.ok (.bl false) (B++[.lst []]):=(zT (zt (i:=2) rfl) (jC zQ)).trans (YB (l:=[]) (m:=[]) (j5 s) qL);rw[t,zP]
 |succ k T=>
  intro fu l fd B H C Y d s I;obtain⟨fu,rfl⟩:∃L,fu=L+1:=⟨fu - 1,by omega⟩
  have t:zo q9 (zc 2) (zU zm) [some (.ref n),x,some (.ref p),some (.ref f)] B=.ok (.bl true) (B++[.lst []]):=by
   refine(zT (zt (i:=2) rfl) (jC zQ)).trans ((YB (m:=[]) (j5 s) qL).trans ?_);have z:l≠[]:=λ e=>by rw[e]at H;cases H
   rw[aK z]
   rfl
  have K:=d.trans (Kn.ext d.st (Ext.one (o:=.lst [])));have g1:=j5 (u:=.lst []) s;have g2:=j5 (u:=.lst []) I;generalize B++[O.lst []]=M at t K g1 g2;have E:mQ qy (qf (zc 2)) [some (.ref n),x,some (.ref p),some (.ref f)] M=.ok (.int (l.length:Int)) M:=by
   rw[yA (ko (w:=.ref p) (A1:=M) (ws:=l.map W.int) (zt rfl) (by unfold zR;dsimp only;rw[g1]))]
   unfold qy;rw[ai]
  obtain⟨q,Q,e1,U,k2,_⟩:=Q3 (ρ:=[some (.ref n),x,some (.ref p),some (.ref f)]) K.st rfl E (by omega) (by omega)
  have y:q<l.length:=by omega
  have j:=k2.kp.get g1 (by omega)
  have J:=k2.kp.get g2 (by omega)
  have hw:(l.map W.int)[q]? =some (.int l[q]):=by rw[ar,ae y];rfl
  have P:=(QY (g:=ZA) (a:=zc 2) (zt rfl) g1 e1).trans (HA j hw (by omega))
  rw[Pl]at P;have c:(Q.set p (.lst ((l.eraseIdx q).map W.int)))[f]? =some (.lst (fd.map W.int)):=by rw[aH h];exact J
  have N:=(QY (g:=j4) (a:=zc 3) (zt rfl) g2 P).trans (YU c (by rw[ai];omega))
  have D:fd.map W.int++[.int l[q]]=(fd++[l[q]]).map W.int:=by rw[aU];rfl
  rw[D]at N;have hlen:(l.eraseIdx q).length=k:=by rw[List.length_eraseIdx_of_lt y];omega
  have v:Kn n A ((Q.set p (.lst ((l.eraseIdx q).map W.int))).set f (.lst ((fd++[l[q]]).map W.int))):=⟨((K.trans k2).kp.put X).put hf,((k2.st).put (by omega)).put (by omega)⟩
  obtain⟨r,b,e4,s4,a4,S⟩:=T fu (l.eraseIdx q) (fd++[l[q]]) _ hlen (by omega) (by rw[ay,aR];omega) v
   (by rw[aH (Ne.symm h),aG (wY j)]) (by rw[aG (wY c)])
  refine⟨r,b,?_,s4,a4,S.trans ?_⟩
  ·unfold Qg
   rw[t,zP];dsimp only;have Z:=(zH (m2:=zA) (yd N)).trans jO;rw[Z,zP];exact e4
  ·rw[aW]
   exact List.Perm.append_left fd (Rz (ae y)).symm
theorem ON {q:Nat}{l:List Int}(s:qX n A)(h:A[q]? =some (.lst (l.map W.int)))(H:l.length<=100):∃(r:Nat) (B:Hx) (fd:List Int),Jy [.ref n,.ref q] A=.ok (.ref r) B/\B[r]? =some (.lst (fd.map W.int))/\fd.Perm l/\Kn n A B/\A.length<=r:=by
 unfold Jy Xw;unfold TU;have a:qp (qf (zc 1)) [some (.ref n),some (.ref q),none,none] A=.ok (.ref A.length) (A++[.lst (l.map W.int)]):=wG (ko (w:=.ref q) (zt rfl) (by unfold zR;dsimp only;rw[h]))
 have x0:Ext A (A++[.lst (l.map W.int)]++[.lst []]):=Ext.one.app;have hlen:(A++[O.lst (l.map W.int)]).length=A.length+1:=by simp
 have a2:(A++[.lst (l.map W.int)]++[.lst []])[A.length+1]? =some (.lst (([]:List Int).map W.int)):=by rw[<- hlen];exact qL
 obtain⟨B,fd,E,K,e,P⟩:=EX (A:=A) (p:=A.length) (f:=A.length+1) (x:=some (.ref q)) (aw _) (by omega) s.lt (by omega) l.length 1000 l [] _ rfl (by omega) (by simp;omega) (Kn.ext s x0) (j5 qL) a2
 refine⟨A.length+1,B,fd,qS ?_,e,by simpa using P,K,by omega⟩
 refine(zH ((qJ a).trans rfl)).trans ((zH (ρ1:=[some (.ref n),some (.ref q),some (.ref A.length),some (.ref (A.length+1))]) (A1:=A++[.lst (l.map W.int)]++[.lst []]) ?_).trans ((zH (m1:=V7 1000 _ _) E).trans (qG (qZ (zt rfl)))));refine(qJ (jC zQ)).trans ?_;rw[hlen]
 rfl
end
noncomputable def dist (t:List (List Int)):List Nat:=(List.range 8).filter λ i=>decide ((i:Int)∈t.flatten)
def KU (t:List (List Int))(v:Int):Int:=((dist t).idxOf v.toNat:Nat)
def Zf (t:List (List Int)):List (List Int):=t.map λ r=>r.map (KU t)
theorem EV :i∈dist t↔i<8/\(i:Int)∈t.flatten:=by
 unfold dist;rw[mem_filter,List.mem_range,ao]
theorem Pf:∀{l:List Int},(∀v∈l,0<=v/\v<8)->Qx l=some (l.map Int.toNat)
 |[],_=>rfl|v::l,h=>by
  unfold Qx;rw[ag (h v (aE ..)),Pf λ x H=>h x (ax _ H)]
  rfl
theorem R9 :∀{kws:List (Nat×List W)},(∀p∈kws,A[p.1]? =some (.lst p.2))->gG A (kws.map λ (p:Nat×List W)=>W.ref p.1)=some (kws.map (·.2))
 |[],_=>rfl|p::kws,h=>by
  show(match A[p.1]? with|some (.lst ws)=>(gG A (kws.map λ (p:Nat×List W)=>W.ref p.1)).map (ws::·) | _=>none)=_
  rw[h p (aE ..)];dsimp only;rw[R9 λ x H=>h x (ax _ H)]
  rfl
theorem Ot (v:Nat):∀{l:List Nat},v∈l->ZE (λ z=>PyData.eqv z (.int (v:Int))) (l.map λ (i:Nat)=>PyData.int (i:Int))=some (l.idxOf v)
 |[],h=>by cases h|a::l,h=>by
  rw[aV,ZE,List.idxOf_cons]
  have:PyData.eqv (.int (a:Int)) (.int (v:Int))=(a==v):=by
   rw[PyData.eqv,Bool.eq_iff_iff];simp;omega
  rw[this]
  by_cases q:a=v
  ·subst q
   simp
  ·have Q:(a==v)=false:=by simp[q]
   rw[Q,ak (by simp)]
   rw[Ot v ((qa3.mp h).resolve_left (Ne.symm q))]
   rfl
def LL (t:List (List Int))(r:Nat)(B:Hx):Prop:=∃K:List Nat,B[r]? =some (.lst (K.map W.ref))/\K.length=t.length/\∀i,i<t.length->B[K.getD i 0]? =some (.lst ((t.getD i []).map W.int))
theorem WK {m:Ev}{k:Nat}(h:m ρ A=.ok (.ref k) A)(a:A[k]? =some (.lst ws))(l:ws.length<=zX){g:W->W}(he:∀w∈ws,me (some w::cap.map λ i=>(ρ[i]?).join) A=.ok (g w) A):
  zS 1 cap (qC m) (zN 0) (zi (.bl true)) (zK me) ρ A=.ok (ws.map g) A:=by
 have e:=g9 (cap:=cap) (me:=me) (ρ:=ρ) (A:=A) (N:=ws.length) (item:=λ i=>ws.getD i .non) (g:=λ i=>g (ws.getD i .non)) (Q5 h a) rfl l
  (λ i H=>(Qw a).trans (by rw[ae H,aa,ae H];rfl))
  ((Qw a).trans (by rw[aC (aw _)]))
  (λ i H=>by
   have:ws.getD i .non=ws[i]:=by rw[aa,ae H];rfl
   rw[this];exact he _ (aP H))
 rw[e]
 congr 1
 apply bM
 ·simp
 ·intro i c b
  have H:i<ws.length:=by simpa using b
  simp[aa,ae H]
noncomputable def NZ (f:Int->Int):W->W
 |.int v=>.int (f v)|w=>w
theorem C9 (f:Int->Int)(l:List Int):(l.map W.int).map (NZ f)=(l.map f).map W.int:=by
 rw[aQ,aQ];rfl
section
variable {r:Nat}
theorem HW (l:t.length<=8)(L:LL t r B)(h0:ρ[i]? =some (some (.ref r))):qp (zS 1 [] (qC (zc i)) (zN 0) (zi (.bl true)) (zK (qp (qf (zc 0))))) ρ B=
  .ok (.ref (B.length+t.length)) (B++(t.map λ r=>O.lst (r.map W.int))++[O.lst ((List.range t.length).map λ i=>W.ref (B.length+i))]):=by
 obtain⟨K,e0,d,g⟩:=L;obtain⟨b,f,n,e,⟨z,g1⟩,g2,g3⟩:=YV (nl:=1) (cap:=[]) (tw:=zN 0) (ifs:=zi (.bl true)) (em:=zK (qp (qf (zc 0)))) (ρ:=ρ) (A:=B) (N:=t.length)
  (I:=λ p b a C=>(∃z,b=[z])/\C=B++((t.take p).map λ r=>O.lst (r.map W.int))/\a=(List.range p).map λ i=>W.ref (B.length+i)) (Q5 (zt h0) e0) (by simp[d])
  (λ p b a C H ⟨⟨z,f1⟩,f2,j⟩=>by
   subst f1 f2 j;have x:Ext B (B++((t.take p).map λ r=>O.lst (r.map W.int))):=⟨_,rfl⟩;have h:=x.at (g p H);have c:t.getD p []=t[p]:=by rw[aa,ae H];rfl
   rw[c]at h;refine⟨.ref (K.getD p 0),[some (.ref (K.getD p 0))],?_,rfl,.inl ⟨_,_,_,_,rfl,Y5 (wG (ko (w:=.ref (K.getD p 0)) (ws:=t[p].map W.int) (zt rfl) (by unfold zR;dsimp only;rw[h]))) ?_,⟨_,rfl⟩,?_,?_⟩⟩
   ·refine(Qw (x.at e0)).trans ?_
    rw[ar,aa,ae (by omega)];rfl
   ·simp;unfold zX;omega
   ·rw[take_succ H,aU,aW];rfl
   ·rw[bB,aU,ay,ai,bt,Nat.min_eq_left (bD H)];rfl)
  (λ b a C ⟨_,f2,_⟩=>by
   subst f2;exact(Qw (Ext.at ⟨_,rfl⟩ e0)).trans (by rw[aC (by simp[d])])) ⟨⟨none,rfl⟩,by simp,by simp⟩
 rw[wG e,g2,g3,List.take_length];simp
theorem LL.mono (x:Ext A B)(h:LL t r A):LL t r B:=by
 obtain⟨K,e0,a,H⟩:=h;exact⟨K,x.at e0,a,λ i b=>x.at (H i b)⟩
theorem C3 (Z:1<=t.length)(J:t.length<=8)(E:Sq t)(s:∀v∈t.flatten,0<=v/\v<8)(L:LL t r A):∃B,Wo [.ref r] A=.ok (zq (Zf t)) B/\Ext A B:=by
 have Y:t.flatten.length<=64:=by
  have:∀l:List (List Int),(∀r∈l,r.length<=8)->l.flatten.length<=8 * l.length:=by
   intro l
   induction l with
   |nil=>intro _;simp|cons r l T=>
    intro e;have Z:=e r (aE ..);have h2:=T λ S x=>e S (ax _ x);rw[a3,ay,bb];omega
  have:=this t λ r e=>by rw[E r e];exact J
  omega
 unfold Wo X2;unfold Rg;have Q:=HW (ρ:=[some (.ref r),none]) (i:=0) J L rfl;have x1:Ext A (A++(t.map λ r=>O.lst (r.map W.int))++[O.lst ((List.range t.length).map λ i=>W.ref (A.length+i))]):=⟨(t.map λ r=>O.lst (r.map W.int))++[O.lst ((List.range t.length).map λ i=>W.ref (A.length+i))],by rw[aW]⟩
 have a:∀i,i<t.length->_:=λ i D=>D7 (B:=A) (t:=t) (i:=i) D;have H:=EF (B:=A) (t:=t);generalize A++(t.map λ r=>O.lst (r.map W.int))++[O.lst ((List.range t.length).map λ i=>W.ref (A.length+i))]=b at Q x1 a H;have P:zo Z4 (qp (zS 1 [] (qC (zc 0)) (zN 0) (zi (.bl true)) (zK (qp (qf (zc 0)))))) (zU zm) [some (.ref r),none] A=.ok (.ref (b.length+1)) (b++[.lst []]++[.lst (t.flatten.map W.int)]):=by
  refine(zT Q (jC zQ)).trans ?_;have o:=R9 (A:=b++[.lst []]) (kws:=(List.range t.length).map λ i=>(A.length+i,(t.getD i []).map W.int)) (λ p U=>by
   obtain⟨i,D,rfl⟩:=qa6.mp U;exact j5 (a i (qa5.mp D)))
  rw[aQ,aQ]at o;have C:((λ p:Nat×List W=>W.ref p.1) ∘ λ i=>(A.length+i,(t.getD i []).map W.int))=λ i=>W.ref (A.length+i):=rfl;have y:((λ p:Nat×List W=>p.2) ∘ λ i=>(A.length+i,(t.getD i []).map W.int))=λ i=>(t.getD i []).map W.int:=rfl;rw[C,y,<- Jz t [] λ r=>r.map W.int]at o;have hf:(t.map λ r=>r.map W.int).flatten=t.flatten.map W.int:=by rw[List.map_flatten]
  unfold Z4;dsimp only;rw[j5 H,qL];dsimp only;rw[o];dsimp only;rw[ag ⟨λ z=>(by have:=congrArg List.length z;rw[ai,aN]at this;exact absurd this (by rw[length_nil];omega)),by rw[hf,ai];unfold zX;omega⟩,hf]
  simp
 have x2:Ext A (b++[.lst []]++[.lst (t.flatten.map W.int)]):=x1.app.app;have f:(b++[.lst []]++[.lst (t.flatten.map W.int)])[b.length+1]? =some (.lst (t.flatten.map W.int)):=by
  have:b.length+1=(b++[O.lst []]).length:=by simp
  rw[this,qL]
 generalize b++[.lst []]++[.lst (t.flatten.map W.int)]=c at P x2 f;have M:WS (zo Z4 (qp (zS 1 [] (qC (zc 0)) (zN 0) (zi (.bl true)) (zK (qp (qf (zc 0)))))) (zU zm)) [some (.ref r),none] A=.ok (.ref c.length) (c++[.lst (((dist t).map λ (i:Nat)=>(i:Int)).map W.int)]):=by
  unfold WS;rw[P,zP];unfold VF;dsimp only;rw[f];dsimp only;rw[YQ];dsimp only;rw[Pf s];dsimp only
  have:((List.range 8).filter λ i=>decide (i∈t.flatten.map Int.toNat))=dist t:=by
   unfold dist
   apply List.filter_congr
   intro i _;rw[decide_eq_decide]
   constructor
   ·intro z
    obtain⟨v,h,rfl⟩:=qa6.mp z;rw[Int.toNat_of_nonneg (s v h).1];exact h
   ·intro z
    exact qa6.mpr ⟨_,z,rfl⟩
  rw[this,aQ]
  rfl
 have x3:=x2.app (l:=[.lst (((dist t).map λ (i:Nat)=>(i:Int)).map W.int)]);have d:(c++[.lst (((dist t).map λ (i:Nat)=>(i:Int)).map W.int)])[c.length]? =some (.lst (((dist t).map λ (i:Nat)=>(i:Int)).map W.int)):=qL;generalize c++[.lst (((dist t).map λ (i:Nat)=>(i:Int)).map W.int)]=n at M x3 d;obtain⟨K,k0,I,e⟩:=LL.mono x3 L;refine⟨n,qS ((zH ((qJ M).trans rfl)).trans (qG (qZ ?_))),x3⟩;have idx:∀v,v∈t.flatten->ZC (.ref c.length) (.int v) n=.ok (.int (KU t v)) n:=λ v h=>by
  obtain⟨u,rfl⟩:=aS (s v h).1;have hm:u∈dist t:=EV.mpr ⟨by have:=s _ h;omega,h⟩
  unfold ZC;rw[Ki d];show(match ZE (λ z=>PyData.eqv z (.int (u:Int))) (((dist t).map λ (i:Nat)=>(i:Int)).map PyData.int) with|some j=>if j<1000000 then R.ok (W.int (j:Int)) n else .bad|none=>.bad)=_
  have:((dist t).map λ (i:Nat)=>(i:Int)).map PyData.int=(dist t).map λ (i:Nat)=>PyData.int (i:Int):=by rw[aQ];rfl
  rw[this,Ot u hm];dsimp only;have o:(dist t).idxOf u<(dist t).length:=List.idxOf_lt_length_of_mem hm;have X:(dist t).length<=8:=by unfold dist;exact br (List.length_filter_le _ _) (by simp)
  rw[ag (by omega)]
  rfl
 have ec:=g9 (cap:=[1]) (me:=mQ yi (zS 1 [1] (qC (zc 0)) (zN 0) (zi (.bl true)) (zK (jQ ZC (zc 1) (zc 0))))) (ρ:=[some (.ref r),some (.ref c.length)]) (A:=n) (N:=t.length) (item:=λ i=>.ref (K.getD i 0)) (g:=λ i=>zw ((t.getD i []).map (KU t))) (Q5 (zt (i:=0) rfl) k0) (by simp[I]) (by unfold zX;omega)
  (λ j q=>(Qw k0).trans (by rw[ar,aa,ae (by omega)];rfl)) ((Qw k0).trans (by rw[aC (by simp[I])]))
  (λ j q=>by
   have:=WK (cap:=[1]) (m:=zc 0) (me:=jQ ZC (zc 1) (zc 0)) (ρ:=[some (.ref (K.getD j 0)),some (.ref c.length)]) (g:=NZ (KU t)) (zt rfl) (e j q) (by rw[ai,E _ (yx q)];unfold zX;omega) (λ w hw=>by
    obtain⟨v,h,rfl⟩:=qa6.mp hw;exact(QY (g:=ZC) (zt rfl) d (zt (i:=0) rfl)).trans (idx v (List.mem_flatten.mpr ⟨_,yx q,h⟩)))
   rw[C9]at this;exact Zc this)
 refine(Zc ec).trans ?_;unfold zq Zf;rw[aQ,Jz t [] (zw ∘ λ r=>r.map (KU t))]
 rfl
end
noncomputable def kK:Nat->List (List Int)
 |0=>[[0,1,2,3,4,3,2,1],[1,0,1,2,3,4,3,2],[2,1,0,1,2,3,4,3],[3,2,1,0,1,2,3,4],[4,3,2,1,0,1,2,3],[3,4,3,2,1,0,1,2],[2,3,4,3,2,1,0,1],[1,2,3,4,3,2,1,0]]|1=>[[0,1,2,3,3,2,1],[1,0,1,2,3,3,2],[2,1,0,1,2,3,3],[3,2,1,0,1,2,3],[3,3,2,1,0,1,2],[2,3,3,2,1,0,1],[1,2,3,3,2,1,0]]|2=>[[0,1,2,3,2,1],[1,0,1,2,3,2],[2,1,0,1,2,3],[3,2,1,0,1,2],[2,3,2,1,0,1],[1,2,3,2,1,0]]|3=>[[0,1,2,2,1],[1,0,1,2,2],[2,1,0,1,2],[2,2,1,0,1],[1,2,2,1,0]]|4=>[[0,1,2,1],[1,0,1,2],[2,1,0,1],[1,2,1,0]]|5=>[[0,1,1],[1,0,1],[1,1,0]]|6=>[[0,1],[1,0]]|7=>[[0]]|8=>[[0,1,1,2,1,2,2,3],[1,0,2,1,2,1,3,2],[1,2,0,1,2,3,1,2],[2,1,1,0,3,2,2,1],[1,2,2,3,0,1,1,2],[2,1,3,2,1,0,2,1],[2,3,1,2,1,2,0,1],[3,2,2,1,2,1,1,0]]|9=>[[0,1,1,2],[1,0,2,1],[1,2,0,1],[2,1,1,0]]|10=>[[0,1],[1,0]]|11=>[[0,1,1,1,1,1,1,1],[1,0,1,1,1,1,1,1],[1,1,0,1,1,1,1,1],[1,1,1,0,1,1,1,1],[1,1,1,1,0,1,1,1],[1,1,1,1,1,0,1,1],[1,1,1,1,1,1,0,1],[1,1,1,1,1,1,1,0]]|12=>[[0,1,1,1,1,1,1],[1,0,1,1,1,1,1],[1,1,0,1,1,1,1],[1,1,1,0,1,1,1],[1,1,1,1,0,1,1],[1,1,1,1,1,0,1],[1,1,1,1,1,1,0]]|13=>[[0,1,1,1,1,1],[1,0,1,1,1,1],[1,1,0,1,1,1],[1,1,1,0,1,1],[1,1,1,1,0,1],[1,1,1,1,1,0]]|14=>[[0,1,1,1,1],[1,0,1,1,1],[1,1,0,1,1],[1,1,1,0,1],[1,1,1,1,0]]|15=>[[0,1,1,1],[1,0,1,1],[1,1,0,1],[1,1,1,0]]|16=>[[0,1,1],[1,0,1],[1,1,0]]|17=>[[0,1],[1,0]]|18=>[[0]]|19=>[[0,1,2,2,2,2,2,2],[1,0,2,2,2,2,2,2],[2,2,0,1,2,2,2,2],[2,2,1,0,2,2,2,2],[2,2,2,2,0,1,2,2],[2,2,2,2,1,0,2,2],[2,2,2,2,2,2,0,1],[2,2,2,2,2,2,1,0]]|20=>[[0,1,1,1,2,2,2,2],[1,0,1,1,2,2,2,2],[1,1,0,1,2,2,2,2],[1,1,1,0,2,2,2,2],[2,2,2,2,0,1,1,1],[2,2,2,2,1,0,1,1],[2,2,2,2,1,1,0,1],[2,2,2,2,1,1,1,0]]|21=>[[0,1,2,2,2,2],[1,0,2,2,2,2],[2,2,0,1,2,2],[2,2,1,0,2,2],[2,2,2,2,0,1],[2,2,2,2,1,0]]|22=>[[0,1,1,2,2,2],[1,0,1,2,2,2],[1,1,0,2,2,2],[2,2,2,0,1,1],[2,2,2,1,0,1],[2,2,2,1,1,0]]|23=>[[0,1,2,2],[1,0,2,2],[2,2,0,1],[2,2,1,0]]|24=>[[0,1,1,1,1,2],[1,0,1,1,2,1],[1,1,0,2,1,1],[1,1,2,0,1,1],[1,2,1,1,0,1],[2,1,1,1,1,0]]|25=>[[0,1,2,3],[1,0,3,2],[2,3,0,1],[3,2,1,0]]|26=>[[0,1,2,3,4,5,6,7],[1,0,3,2,5,4,7,6],[2,3,0,1,6,7,4,5],[3,2,1,0,7,6,5,4],[4,5,6,7,0,1,2,3],[5,4,7,6,1,0,3,2],[6,7,4,5,2,3,0,1],[7,6,5,4,3,2,1,0]]|27=>[[0,1],[1,0]]|28=>[[0,1,2,1,3,4,5,4],[1,0,1,2,4,3,4,5],[2,1,0,1,5,4,3,4],[1,2,1,0,4,5,4,3],[3,4,5,4,0,1,2,1],[4,3,4,5,1,0,1,2],[5,4,3,4,2,1,0,1],[4,5,4,3,1,2,1,0]]|29=>[[0,1,1,3,4,4],[1,0,1,4,3,4],[1,1,0,4,4,3],[3,4,4,0,1,1],[4,3,4,1,0,1],[4,4,3,1,1,0]]|30=>[[0,1,3,4],[1,0,4,3],[3,4,0,1],[4,3,1,0]]|31=>[[0,1,2,1,3,3,3,3],[1,0,1,2,3,3,3,3],[2,1,0,1,3,3,3,3],[1,2,1,0,3,3,3,3],[3,3,3,3,0,1,2,1],[3,3,3,3,1,0,1,2],[3,3,3,3,2,1,0,1],[3,3,3,3,1,2,1,0]]|32=>[[0,1,1,3,3,3],[1,0,1,3,3,3],[1,1,0,3,3,3],[3,3,3,0,1,1],[3,3,3,1,0,1],[3,3,3,1,1,0]]|33=>[[0,1,3,3],[1,0,3,3],[3,3,0,1],[3,3,1,0]]|_=>[]
theorem BP:((List.range 34).all λ i=>U7 (Zf (kK i))&&((kK i).all λ r=>r.length==(kK i).length)&&((kK i).flatten.all λ v=>decide (0<=v)&&decide (v<8)))=true:=by decide +kernel
theorem Oo (h:i<34):qk (Zf (kK i))/\G.Sq (kK i)/\∀v∈(kK i).flatten,0<=v/\v<8:=by
 have:=qa4.mp BP i (qa5.mpr h)
 rw[aj,aj]at this;refine⟨Gg this.1.1,λ r a=>?_,λ v H=>?_⟩
 ·exact eq_of_beq (qa4.mp this.1.2 r a)
 ·have:=qa4.mp this.2 v H
  rw[aj,ao,ao]at this;exact this
theorem OU :∀{us:List W}{w:List (List W)},gG A us=some w->∃K:List Nat,us=K.map W.ref/\K.length=w.length/\∀i,i<w.length->A[K.getD i 0]? =some (.lst (w.getD i []))
 |[],w,e=>by
  cases e;exact⟨[],rfl,rfl,λ i H=>by cases H⟩
 |.ref k::us,w,e=>by
  unfold gG at e;cases h:A[k]? with
  |none=>rw[h]at e;cases e|some o=>
   rw[h]at e;cases o with
   |lst ws=>
    dsimp only at e;cases a:gG A us with
    |none=>rw[a]at e;cases e|some v=>
     rw[a]at e;cases e;obtain⟨K,rfl,l,b⟩:=OU a;refine⟨k::K,rfl,by simp[l],λ i H=>?_⟩
     cases i with
     |zero=>exact h|succ i=>exact b i (by simpa using H)
   |_=>cases e
 |.non::_,_,e=>by cases e|.bl _::_,_,e=>by cases e|.int _::_,_,e=>by cases e|.str _::_,_,e=>by cases e|.tup _::_,_,e=>by cases e|.clo _ _ _::_,_,e=>by cases e|.xc _::_,_,e=>by cases e
def U6 (x:R Fl):Option (Option O×Option (List (List W))):=match x with
 |.ok (.rt (.ref r)) B=>some (B[0]?,match B[r]? with
  |some (.lst us)=>gG B us|_=>none)
 |_=>none
theorem CY {x:R Fl}(h:U6 x=some (some o,some (t.map λ r=>r.map W.int))):∃r B,x=.ok (.rt (.ref r)) B/\B[0]? =some o/\LL t r B:=by
 unfold U6 at h
 split at h
 ·rename_i r B
  injection h with h
  injection h with d H
  cases a:B[r]? with
  |none=>rw[a]at H;cases H|some o'=>
   rw[a]at H;cases o' with
   |lst us=>
    dsimp only at H;obtain⟨K,rfl,l,b⟩:=OU H;rw[ai]at l b;refine⟨r,B,rfl,d,K,a,l,λ i c=>(b i c).trans ?_⟩;rw[aa,ar,aa,ae c]
    rfl
   |_=>cases H
 ·cases h
def Plain (X:Ex)(ρ:En)(A:Hx):Prop:=∃i,i<34/\∃r B,X ρ A=.ok (.rt (.ref r)) B/\qX 0 B/\LL (kK i) r B
section
variable {m1 m2:Ex}{ρ1:En}{L:Hx}{c:Ev}
theorem gI (h:m1 ρ A=.ok (.nx ρ1) A1)(q:Plain m2 ρ1 A1):Plain (zr m1 m2) ρ A:=by
 unfold Plain;rw[zH h];exact q
theorem Yk (q:Plain m1 ρ A):Plain (zr m1 m2) ρ A:=by
 obtain⟨i,h,r,B,e,s,l⟩:=q;exact⟨i,h,r,B,qG e,s,l⟩
theorem Yo (h:c ρ A=.ok (.bl true) A1)(q:Plain m1 ρ A1):Plain (qM c m1 m2) ρ A:=by
 unfold Plain;rw[Zg h];exact q
theorem j7 {m:Ex}(h:c ρ A=.ok (.bl false) A)(q:Plain m ρ A):Plain (zr (qM c m1 zA) m) ρ A:=gI ((yr h).trans jO) q
theorem AI {l:Hx}(s:qX 0 (o::L)):qX 0 (o::l):=s
theorem jA (i:Nat)(H:i<34)(s:qX 0 (o::L))(h:U6 (m1 ρ A)=some (some o,some ((kK i).map λ r=>r.map W.int))):Plain m1 ρ A:=by
 obtain⟨r,B,e,h0,l⟩:=CY h;obtain⟨c,b,a,q⟩:=s;have E:some o=some (O.lst [.int c,.bl b]):=a;exact⟨i,H,r,B,e,⟨c,b,by rw[h0];exact E,q⟩,l⟩
theorem take1 (s:qX 0 (o::L)){m:Int}(H:0<m)(h:m<1000000000000000):∃(r:Nat) (o':O),yk [.ref 0,.int m] (o::L)=.ok (.int (r:Int)) (o'::L)/\(r:Int)<m/\qX 0 (o'::L):=by
 obtain⟨r,o',e,a,b,s'⟩:=O7 s H h;exact⟨r.toNat,o',by rw[e,Int.toNat_of_nonneg a];rfl,by omega,s'⟩
theorem QV {a:Ea}{vs:List W}{k:Nat}(s:qX 0 (o::L))(h0:ρ[0]? =some (some (.ref 0)))(b:∀A,a ρ A=.ok vs A)(d:vs.length=k)(k1:0<k)(k2:k<1000):∃(j:Nat) (w:W) (o':O),zo zI (zU a) (zF yk (zh (zc 0) (zh (zi (.int (k:Int))) zm))) ρ (o::L)=.ok w (o'::(L++[.lst vs]))/\j<k/\vs[j]? =some w/\qX 0 (o'::(L++[.lst vs])):=by
 obtain⟨r,o',e,c,s'⟩:=take1 (L:=L++[.lst vs]) (m:=(k:Int)) (AI s) (by omega) (by omega)
 have h:r<vs.length:=by omega
 refine⟨r,vs[r],o',?_,by omega,ae h,s'⟩
 refine(zT (jC (b _)) ((zO (zB (zt h0) (zB jb zQ))).trans e)).trans ?_;have H:(o'::(L++[O.lst vs]))[(o::L).length]? =some (.lst vs):=by
  show(L++[O.lst vs])[L.length]? =_;exact qL
 exact km H (ae h)
end
theorem three (h:j<3):j=0∨j=1∨j=2:=by omega
theorem UW (h:j<5):j=0∨j=1∨j=2∨j=3∨j=4:=by omega
theorem UR (h:j<8):j=0∨j=1∨j=2∨j=3∨j=4∨j=5∨j=6∨j=7:=by omega
theorem CS (s:qX 0 [o]):Plain (X4 yk) [some (.ref 0),none,none,none,none,none,none,none,none,none,none] [o]:=by
 unfold X4;obtain⟨way,p,n,hw,s1⟩:=take1 s (m:=8) (by decide) (by decide)
 refine gI (ρ1:=[some (.ref 0),some (.int (way:Int)),none,none,none,none,none,none,none,none,none]) (A1:=[p]) ((qJ ((zO (ws:=[.ref 0,.int 8]) (A1:=[o]) rfl).trans n)).trans rfl) ?_;obtain⟨j,w,c,E,l,f,s2⟩:=QV (k:=8) (ρ:=[some (.ref 0),some (.int (way:Int)),none,none,none,none,none,none,none,none,none]) (a:=zh (zi (.int 8)) (zh (zi (.int 7)) (zh (zi (.int 6)) (zh (zi (.int 5)) (zh (zi (.int 4)) (zh (zi (.int 3)) (zh (zi (.int 2)) (zh (zi (.int 1)) zm)))))))) (vs:=[.int 8,.int 7,.int 6,.int 5,.int 4,.int 3,.int 2,.int 1]) s1 rfl (λ _=>rfl) rfl (by decide) (by decide)
 refine gI (ρ1:=[some (.ref 0),some (.int (way:Int)),some w,none,none,none,none,none,none,none,none]) (A1:=[c,.lst [.int 8,.int 7,.int 6,.int 5,.int 4,.int 3,.int 2,.int 1]]) ((qJ E).trans rfl) ?_;have y:way<8:=by omega
 clear n E hw s s1;rcases UR y with rfl|rfl|rfl|rfl|rfl|rfl|rfl|rfl
 ·refine Yk (Yo (A1:=[c,.lst [.int 8,.int 7,.int 6,.int 5,.int 4,.int 3,.int 2,.int 1]]) (by kernel_rfl) ?_)
  rcases UR l with rfl|rfl|rfl|rfl|rfl|rfl|rfl|rfl<;>cases f
  ·exact jA 0 (by decide) s2 (by kernel_rfl)
  ·exact jA 1 (by decide) s2 (by kernel_rfl)
  ·exact jA 2 (by decide) s2 (by kernel_rfl)
  ·exact jA 3 (by decide) s2 (by kernel_rfl)
  ·exact jA 4 (by decide) s2 (by kernel_rfl)
  ·exact jA 5 (by decide) s2 (by kernel_rfl)
  ·exact jA 6 (by decide) s2 (by kernel_rfl)
  ·exact jA 7 (by decide) s2 (by kernel_rfl)
 ·refine j7 (by kernel_rfl) (Yk (Yo (A1:=[c,.lst [.int 8,.int 7,.int 6,.int 5,.int 4,.int 3,.int 2,.int 1]]) (by kernel_rfl) ?_))
  obtain⟨J,g,i,e,b,H,s3⟩:=QV (k:=3) (ρ:=[some (.ref 0),some (.int ((1:Nat):Int)),some w,none,none,none,none,none,none,none,none]) (a:=zh (zi (.int 8)) (zh (zi (.int 4)) (zh (zi (.int 2)) zm))) (vs:=[.int 8,.int 4,.int 2]) s2 rfl (λ _=>rfl) rfl (by decide) (by decide)
  refine gI ((qJ e).trans rfl) ?_;rcases three b with rfl|rfl|rfl<;>cases H
  ·exact jA 8 (by decide) s3 (by kernel_rfl)
  ·exact jA 9 (by decide) s3 (by kernel_rfl)
  ·exact jA 10 (by decide) s3 (by kernel_rfl)
 ·refine j7 (by kernel_rfl) (j7 (by kernel_rfl) (Yk (Yo (A1:=[c,.lst [.int 8,.int 7,.int 6,.int 5,.int 4,.int 3,.int 2,.int 1]]) (by kernel_rfl) ?_)))
  rcases UR l with rfl|rfl|rfl|rfl|rfl|rfl|rfl|rfl<;>cases f
  ·exact jA 11 (by decide) s2 (by kernel_rfl)
  ·exact jA 12 (by decide) s2 (by kernel_rfl)
  ·exact jA 13 (by decide) s2 (by kernel_rfl)
  ·exact jA 14 (by decide) s2 (by kernel_rfl)
  ·exact jA 15 (by decide) s2 (by kernel_rfl)
  ·exact jA 16 (by decide) s2 (by kernel_rfl)
  ·exact jA 17 (by decide) s2 (by kernel_rfl)
  ·exact jA 18 (by decide) s2 (by kernel_rfl)
 ·refine j7 (by kernel_rfl) (j7 (by kernel_rfl) (j7 (by kernel_rfl) (Yk (Yo (A1:=[c,.lst [.int 8,.int 7,.int 6,.int 5,.int 4,.int 3,.int 2,.int 1]]) (by kernel_rfl) ?_))))
  obtain⟨J,g,i,e,b,H,s3⟩:=QV (k:=5) (ρ:=[some (.ref 0),some (.int ((3:Nat):Int)),some w,none,none,none,none,none,none,none,none]) (a:=zh (zC (zh (zi (.int 2)) (zh (zi (.int 4)) zm))) (zh (zC (zh (zi (.int 4)) (zh (zi (.int 2)) zm))) (zh (zC (zh (zi (.int 2)) (zh (zi (.int 3)) zm))) (zh (zC (zh (zi (.int 3)) (zh (zi (.int 2)) zm))) (zh (zC (zh (zi (.int 2)) (zh (zi (.int 2)) zm))) zm))))) (vs:=[.tup [.int 2,.int 4],.tup [.int 4,.int 2],.tup [.int 2,.int 3],.tup [.int 3,.int 2],.tup [.int 2,.int 2]]) s2 rfl (λ _=>rfl) rfl (by decide) (by decide)
  have asg:∀{m:Ev}{tw:Tg}{ρ d:En}{A A1:Hx}{w:W},m ρ A=.ok w A1->tw w ρ=some d->GU m tw ρ A=.ok (.nx d) A1:=λ h h'=>by
   unfold GU;rw[h,zP,h']
  rcases UW b with rfl|rfl|rfl|rfl|rfl<;>cases H
  ·exact gI (asg e rfl) (jA 19 (by decide) s3 (by kernel_rfl))
  ·exact gI (asg e rfl) (jA 20 (by decide) s3 (by kernel_rfl))
  ·exact gI (asg e rfl) (jA 21 (by decide) s3 (by kernel_rfl))
  ·exact gI (asg e rfl) (jA 22 (by decide) s3 (by kernel_rfl))
  ·exact gI (asg e rfl) (jA 23 (by decide) s3 (by kernel_rfl))
 ·exact j7 (by kernel_rfl) (j7 (by kernel_rfl) (j7 (by kernel_rfl) (j7 (by kernel_rfl) (Yk (Yo (A1:=[c,.lst [.int 8,.int 7,.int 6,.int 5,.int 4,.int 3,.int 2,.int 1]]) (by kernel_rfl) (jA 24 (by decide) s2 (by kernel_rfl)))))))
 ·refine j7 (by kernel_rfl) (j7 (by kernel_rfl) (j7 (by kernel_rfl) (j7 (by kernel_rfl) (j7 (by kernel_rfl) (Yk (Yo (A1:=[c,.lst [.int 8,.int 7,.int 6,.int 5,.int 4,.int 3,.int 2,.int 1]]) (by kernel_rfl) ?_))))))
  obtain⟨J,g,i,e,b,H,s3⟩:=QV (k:=3) (ρ:=[some (.ref 0),some (.int ((5:Nat):Int)),some w,none,none,none,none,none,none,none,none]) (a:=zh (zi (.int 4)) (zh (zi (.int 8)) (zh (zi (.int 2)) zm))) (vs:=[.int 4,.int 8,.int 2]) s2 rfl (λ _=>rfl) rfl (by decide) (by decide)
  refine gI ((qJ e).trans rfl) ?_;rcases three b with rfl|rfl|rfl<;>cases H
  ·exact jA 25 (by decide) s3 (by kernel_rfl)
  ·exact jA 26 (by decide) s3 (by kernel_rfl)
  ·exact jA 27 (by decide) s3 (by kernel_rfl)
 ·refine j7 (by kernel_rfl) (j7 (by kernel_rfl) (j7 (by kernel_rfl) (j7 (by kernel_rfl) (j7 (by kernel_rfl) (j7 (by kernel_rfl) ?_)))))
  obtain⟨J,g,i,e,b,H,s3⟩:=QV (k:=3) (ρ:=[some (.ref 0),some (.int ((6:Nat):Int)),some w,none,none,none,none,none,none,none,none]) (a:=zh (zi (.int 4)) (zh (zi (.int 3)) (zh (zi (.int 2)) zm))) (vs:=[.int 4,.int 3,.int 2]) s2 rfl (λ _=>rfl) rfl (by decide) (by decide)
  refine gI ((qJ e).trans rfl) ?_;rcases three b with rfl|rfl|rfl<;>cases H
  ·exact jA 28 (by decide) s3 (by kernel_rfl)
  ·exact jA 29 (by decide) s3 (by kernel_rfl)
  ·exact jA 30 (by decide) s3 (by kernel_rfl)
 ·refine j7 (by kernel_rfl) (j7 (by kernel_rfl) (j7 (by kernel_rfl) (j7 (by kernel_rfl) (j7 (by kernel_rfl) (j7 (by kernel_rfl) ?_)))))
  obtain⟨J,g,i,e,b,H,s3⟩:=QV (k:=3) (ρ:=[some (.ref 0),some (.int ((7:Nat):Int)),some w,none,none,none,none,none,none,none,none]) (a:=zh (zi (.int 4)) (zh (zi (.int 3)) (zh (zi (.int 2)) zm))) (vs:=[.int 4,.int 3,.int 2]) s2 rfl (λ _=>rfl) rfl (by decide) (by decide)
  refine gI ((qJ e).trans rfl) ?_;rcases three b with rfl|rfl|rfl<;>cases H
  ·exact jA 31 (by decide) s3 (by kernel_rfl)
  ·exact jA 32 (by decide) s3 (by kernel_rfl)
  ·exact jA 33 (by decide) s3 (by kernel_rfl)
theorem DN (s:qX 0 [o]):∃i,i<34/\∃r B,Wj [.ref 0] [o]=.ok (.ref r) B/\qX 0 B/\LL (kK i) r B:=by
 obtain⟨i,h,r,B,e,q⟩:=CS s;refine⟨i,h,r,B,?_,q⟩;unfold Wj XZ;exact qS e
noncomputable def Tp (g:Nat->W):W->W
 |.int v=>g v.toNat|w=>w
theorem OT (g:Nat->W)(o:List Nat):((o.map λ (a:Nat)=>(a:Int)).map W.int).map (Tp g)=o.map g:=by
 rw[aQ,aQ]
 apply aZ
 intro a _;show g (Int.toNat (a:Int))=g a;rw[az]
theorem P8 {fd:List Int}{M:Nat}{s:Int}(h:fd.Perm ((List.range M).map λ (k:Nat)=>s+(k:Int))):∃p:List Nat,fd=p.map (λ (k:Nat)=>s+(k:Int))/\p.Perm (List.range M):=by
 refine⟨fd.map λ v=>(v - s).toNat,?_,?_⟩
 ·rw[aQ]
  conv=>lhs;rw[<- map_id fd]
  apply aZ
  intro v H;obtain⟨k,_,rfl⟩:=qa6.mp (h.mem_iff.mp H);show s+(k:Int)=s+(((s+(k:Int) - s).toNat:Nat):Int);omega
 ·have:=h.map λ v=>(v - s).toNat
  rw[aQ]at this;have e:(List.range M).map ((λ v:Int=>(v - s).toNat) ∘ λ (k:Nat)=>s+(k:Int))=List.range M:=by
   conv=>rhs;rw[<- map_id (List.range M)]
   apply aZ
   intro k _;show(s+(k:Int) - s).toNat=k;omega
  rw[e]at this;exact this
section
theorem VJ (h:qk t)(a:ρ[i]? =some (some (zq t))):mQ yC (zS 1 [] (qC (zc i)) (zN 0) (zi (.bl true)) (zK (mQ yC (qf (zc 0))))) ρ A=.ok (.int (qB t - 1)) A:=by
 have n8:=h.n8;have e:=P9 (cap:=[]) (A:=A) (ρ:=ρ) (o:=t) (f:=zw) (m:=zc i) (me:=mQ yC (qf (zc 0))) (G:=λ r=>.int (wN r)) (zt a) (by unfold zX;omega) (λ r H=>(yA (ko (w:=zw r) (ws:=r.map W.int) (A1:=A) (zt rfl) rfl)).trans (OJ (h.row_ne H)))
 have em:(t.map λ r=>W.int (wN r))=(t.map wN).map W.int:=by rw[aQ];rfl
 rw[em]at e;refine((yA e).trans (OJ h.map_ne)).trans ?_
 have:qB t - 1=wN (t.map wN):=by unfold qB;omega
 rw[this]
theorem Fm {ma mb:Ev}{M:Nat}(H:ma ρ A=.ok (.int 1) A)(h:mb ρ A=.ok (.int (1+(M:Int))) A)(a:M<=100):Ke ma mb ρ A=.ok (.ref A.length) (A++[.lst (((List.range M).map λ (k:Nat)=>1+(k:Int)).map W.int)]):=by
 unfold Ke;rw[H,zP,h,zP];dsimp only;have e:(1+(M:Int) - 1).toNat=M:=by omega
 rw[ag (by
  have s1:j0 1=true:=by decide
  have s2:j0 (1+(M:Int))=true:=by unfold j0;simp;omega
  rw[s1,s2,e,aJ (by unfold zX;omega)];rfl),e,aQ]
 rfl
def Known (t:List (List Int)):Prop:=∃i p o,i<34/\p.Perm (List.range (qB (Zf (kK i)) - 1).toNat)/\o.Perm (List.range (Zf (kK i)).length)/\t=wM (Zf (kK i)) p o
theorem DU (s:qX 0 [o]):∃t B,Wl [.ref 0] [o]=.ok (zq t) B/\qX 0 B/\qk t/\Known t:=by
 obtain⟨i,hi,r,B0,e0,s0,X⟩:=DN s;obtain⟨tt,sq,n⟩:=Oo hi;have hlen:(Zf (kK i)).length=(kK i).length:=by unfold Zf;rw[ai]
 have m1:=tt.n1;have m8:=tt.n8;obtain⟨B1,e1,x1⟩:=C3 (by omega) (by omega) sq n X
 have s1:=s0.ext x1;generalize J:Zf (kK i)=u at*;clear hlen X;have n1:=tt.n1;have n8:=tt.n8;have kb:=wL tt;obtain⟨M,hM⟩:=aS (show 0<=qB u - 1 by omega)
 have el:=Kv (ws:=u.map zw) (ρ:=[some (.ref 0),some (zq u),none,none]) (i:=1) (A:=B1) rfl;rw[ai]at el;have e2:=HH el (by omega)
 have Q:iL (List.range u.length)=((List.range u.length).map λ (a:Nat)=>0+(a:Int)).map W.int:=by
  rw[aQ]
  apply aZ
  intro a _;show W.int (a:Int)=W.int (0+(a:Int));rw[bz]
 rw[Q]at e2;have s2:=s1.ext (Ext.one (o:=.lst (((List.range u.length).map λ (a:Nat)=>0+(a:Int)).map W.int)));obtain⟨h,f,fd,e3,T,p2,k2,N⟩:=ON s2 qL (by simp;omega)
 obtain⟨od,rfl,po⟩:=P8 p2;have K:(od.map λ (k:Nat)=>(0:Int)+(k:Int))=od.map λ (k:Nat)=>(k:Int):=aZ λ a _=>by omega
 rw[K]at T;have U:zF Jy (zh (zc 0) (zh (Y7 (mQ qy (qf (zc 1)))) zm)) [some (.ref 0),some (zq u),none,none] B1=.ok (.ref h) f:=(zO (zB (zt (i:=0) rfl) (zB e2 zQ))).trans e3;have Z:0<h:=by have:=s1.lt;simp at N;omega
 have e4:zU (zh (zi (.int 0)) zm) [some (.ref 0),some (zq u),some (.ref h),none] f=.ok (.ref f.length) (f++[.lst [.int 0]]):=jC (zB jb zQ);have s3:=k2.st.ext (Ext.one (o:=.lst [.int 0]));have z:=j5 (u:=.lst [.int 0]) T;have Y:(f++[.lst [.int 0]])[f.length]? =some (.lst [.int 0]):=qL;have h2l:=wY T;have hB2:0<f.length:=by omega
 generalize f++[.lst [.int 0]]=B3 at e4 s3 z Y;have C:=VJ tt (ρ:=[some (.ref 0),some (zq u),some (.ref h),none]) (i:=1) (A:=B3) rfl;rw[hM]at C;have e5:=Fm (ρ:=[some (.ref 0),some (zq u),some (.ref h),none]) (A:=B3) (M:=M) (ma:=zi (.int 1)) (mb:=zo qx (zi (.int 1)) (mQ yC (zS 1 [] (qC (zc 1)) (zN 0) (zi (.bl true)) (zK (mQ yC (qf (zc 0))))))) jb ((zT jb C).trans rfl) (by omega)
 have s4:=s3.ext (Ext.one (o:=.lst (((List.range M).map λ (k:Nat)=>1+(k:Int)).map W.int)));obtain⟨r3,d,fd3,e6,h3,p3,k3,nw3⟩:=ON s4 qL (by simp;omega)
 obtain⟨P,rfl,pp⟩:=P8 p3;have y:=k3.kp.get (j5 z) (by omega)
 have I:=k3.kp.get (j5 Y) (by omega)
 have E:zo qx (zU (zh (zi (.int 0)) zm)) (zF Jy (zh (zc 0) (zh (Ke (zi (.int 1)) (zo qx (zi (.int 1)) (mQ yC (zS 1 [] (qC (zc 1)) (zN 0) (zi (.bl true)) (zK (mQ yC (qf (zc 0)))))))) zm))) [some (.ref 0),some (zq u),some (.ref h),none] f=.ok (.ref d.length) (d++[.lst ((jo P).map W.int)]):=by
  refine(zT e4 ((zO (zB (zt (i:=0) rfl) (zB e5 zQ))).trans e6)).trans ((WI I h3 ?_).trans rfl)
  have:=pp.length_eq
  rw[aN]at this;rw[ai,ai,this];unfold zX;simp;omega
 have S:=j5 (u:=.lst ((jo P).map W.int)) y;have h6:(d++[.lst ((jo P).map W.int)])[d.length]? =some (.lst ((jo P).map W.int)):=qL;have s5:=k3.st.ext (Ext.one (o:=.lst ((jo P).map W.int)));generalize hB5:d++[.lst ((jo P).map W.int)]=c at E S h6 s5;have hol:od.length=u.length:=by rw[po.length_eq,aN]
 have j:∀a∈od,a<u.length:=λ a q=>qa5.mp (po.mem_iff.mp q);have hpl:P.length=M:=by rw[pp.length_eq,aN]
 have x:(qB u - 1).toNat=M:=by omega
 have res:=RZ tt (p:=P) (o:=od) (by rw[x];exact pp) po
 refine⟨wM u P od,c,?_,s5,res.1,i,P,od,hi,by rw[J,x];exact pp,by rw[J];exact po,by rw[J]⟩
 unfold Wl;refine qS ?_;unfold SR;refine(zH ((qJ ((zO (zB ((zO (zB (zt (i:=0) rfl) zQ)).trans e0) zQ)).trans e1)).trans rfl)).trans ((zH ((qJ U).trans rfl)).trans ((zH ((qJ E).trans rfl)).trans (qG (qZ ?_))));have inner:∀a,a∈od->∀b,b∈od->zo zI (zc 3) (zo zI (zo zI (zc 2) (zc 1)) (zc 0)) [some (.int (b:Int)),some (.int (a:Int)),some (zq u),some (.ref d.length)] c=.ok (.int ((jo P).getD (at2 u a b).toNat 0)) c:=λ a q b n=>by
  have L:=j a q;have D:=j b n;have bd:=Z5 tt L D;have kg:=Kk tt L D;obtain⟨v,H⟩:=aS bd.1;have e:zo zI (zo zI (zc 2) (zc 1)) (zc 0) [some (.int (b:Int)),some (.int (a:Int)),some (zq u),some (.ref d.length)] c=.ok (.int (v:Int)) c:=by
   rw[<- H];exact(zT ((zT (zt rfl) (zt rfl)).trans (Kr L)) (zt rfl)).trans (Uw (by rw[tt.sq _ (yx L)];exact D))
  have l:v<(jo P).length:=by
   show v<(P.map _).length+1;rw[ai];omega
  refine(zT (zt (i:=3) rfl) e).trans (km h6 ?_);rw[H,az,ar,ae l,aa,ae l]
  rfl
 have ec:=WK (cap:=[1,2,3]) (m:=zc 2) (me:=mQ yi (zS 1 [0,1,3] (qC (zc 2)) (zN 0) (zi (.bl true)) (zK (zo zI (zc 3) (zo zI (zo zI (zc 2) (zc 1)) (zc 0)))))) (ρ:=[some (.ref 0),some (zq u),some (.ref h),some (.ref d.length)]) (A:=c) (g:=Tp λ a=>zw (od.map λ b=>(jo P).getD (at2 u a b).toNat 0)) (zt rfl) S (by simp;unfold zX;omega) (λ w hw=>by
  obtain⟨v,H,rfl⟩:=qa6.mp hw;obtain⟨a,q,rfl⟩:=qa6.mp H;have ei:=WK (cap:=[0,1,3]) (m:=zc 2) (me:=zo zI (zc 3) (zo zI (zo zI (zc 2) (zc 1)) (zc 0))) (ρ:=[some (.int (a:Int)),some (zq u),some (.ref h),some (.ref d.length)]) (A:=c) (g:=Tp λ b=>.int ((jo P).getD (at2 u a b).toNat 0)) (zt rfl) S (by simp;unfold zX;omega) (λ w hw=>by
   obtain⟨v,H,rfl⟩:=qa6.mp hw;obtain⟨b,n,rfl⟩:=qa6.mp H;refine(inner a q b n).trans ?_;show _=R.ok (W.int ((jo P).getD (at2 u a (Int.toNat (b:Int))).toNat 0)) c;rw[az])
  rw[OT]at ei;refine(Zc ei).trans ?_;show _=R.ok (zw (od.map λ b=>(jo P).getD (at2 u (Int.toNat (a:Int)) b).toNat 0)) c;rw[az];unfold zw;rw[aQ]
  rfl)
 rw[OT]at ec;refine(Zc ec).trans ?_;unfold zq wM;rw[aQ]
 rfl
theorem DP (s:qX n A):∃t B,QT [.ref n] A=.ok (zq t) B/\qk t/\Known t/\Kn n A B/\B.length=A.length:=by
 obtain⟨c,b,a,f,g⟩:=s;have hm:=wY a;obtain⟨t,A1,e,⟨C,d,E,h,H⟩,T,K⟩:=DU (o:=.lst [.int c,.bl b]) ⟨c,b,rfl,f,g⟩;refine⟨t,A.set n (.lst [.int C,.bl d]),?_,T,K,⟨Kp.set,C,d,aG hm,h,H⟩,length_set ..⟩;unfold QT;exact OP a rfl e E (ZW t)
end
theorem HB {c:En}{j:jF}{N:Nat}{u v g:Nat->W}(t:∀i,i<N->j.at_ A i=some (some (.tup [u i,v i])))(H:j.at_ A N=some none)(he:∀i,i<N->me (some (u i)::some (v i)::c) A=.ok (g i) A):
  ∀(f i:Nat)(x y:Option W)(acc:List W),i+f=N->acc.length+f<=zX->∃ρ,qR j (jj 0 1) (zi (.bl true)) (zK me) f i (x::y::c) acc A=.ok (ρ,acc++(List.range' i f).map g) A:=by
 intro f
 induction f with
 |zero=>
  intro i x y acc h l
  have:i=N:=by omega
  subst this;refine⟨x::y::c,?_⟩;unfold qR;rw[H];simp
 |succ f I=>
  intro i x y acc h l;obtain⟨ρ,e⟩:=I (i+1) (some (u i)) (some (v i)) (acc++[g i]) (by omega) (by rw[ay,aR];omega)
  refine⟨ρ,?_⟩;rw[qR,t i (by omega)]
  dsimp only;rw[show jj 0 1 (.tup [u i,v i]) (x::y::c)=some (some (u i)::some (v i)::c) from rfl]
  dsimp only[zi];rw[zP];dsimp only;have E:zK me (some (u i)::some (v i)::c) acc A=.ok (some (u i)::some (v i)::c,acc++[g i]) A:=by
   unfold zK;rw[he i (by omega),zP,ag (by omega)]
  rw[E,zP];rw[e,aW,bH,aV]
  rfl
theorem X7 {j:jF}{N:Nat}{u v g:Nat->W}(hm:mi ρ A=.ok j A)(b:j.len=N)(d:N<=1000)(H:∀i,i<N->j.at_ A i=some (some (.tup [u i,v i])))(h:j.at_ A N=some none)
  (he:∀i,i<N->me (some (u i)::some (v i)::cap.map λ i=>(ρ[i]?).join) A=.ok (g i) A):zS 2 cap mi (jj 0 1) (zi (.bl true)) (zK me) ρ A=.ok ((List.range N).map g) A:=by
 obtain⟨a,e⟩:=HB (A:=A) (c:=cap.map λ i=>(ρ[i]?).join) H h he N 0 none none [] (by omega) (by unfold zX;simp;omega)
 unfold zS;rw[hm,zP,b];show R.bind (R.nox (qR j _ _ _ N 0 (none::none::cap.map λ i=>(ρ[i]?).join) [] A)) _=_;rw[e,<- range_eq_range',nil_append]
 rfl
theorem wJ {r:R α}{a:α}(h:r=.ok a A):r.nox=.ok a A:=by rw[h];rfl
theorem VI {m:Ex}{w:W}(h:m (ws.map some++List.replicate (n - ws.length) none) A=.ok (.rt w) A1):gk n m ws A=.ok w A1:=by unfold gk;rw[h];rfl
theorem VW {m:Ex}(h:m (ws.map some++List.replicate (n - ws.length) none) A=.ok (.nx ρ) A1):gk n m ws A=.ok .non A1:=by unfold gk;rw[h];rfl
theorem yR {m1 m2:Ex}(h:m1 ρ A=.exc x A1):zr m1 m2 ρ A=.exc x A1:=by unfold zr;rw[h,P0]
theorem gE {m:Ev}(h:m ρ A=.exc x A1):jx m ρ A=.exc x A1:=by unfold jx;rw[h,P0]
theorem kP {m:Ex}(h:m (ws.map some++List.replicate (n - ws.length) none) A=.exc x A1):gk n m ws A=.exc x A1:=by unfold gk;rw[h];rfl
theorem WH {m M:Ev}{us vs:List W}(h:m ρ A=.ok (.tup us) A)(h':M ρ A=.ok (.tup vs) A):k9 m M ρ A=.ok (gq (.tup us) (.tup vs) us.length) A:=by
 unfold k9;rw[h,zP,h',zP]
 rfl
theorem Hl {a:Ea}{xs ys:List W}{r:Nat}{u e:Option W}(H:A[r]? =some (.lst xs))(h:a [u,e,none,some (.ref r)] A=.ok ys A)(l:xs.length+ys.length<=100):
  zY 3 (zo qx (zc 3) (zU a)) [u,e,none,some (.ref r)] A=.ok (.nx [u,e,none,some (.ref (A.length+1))]) (A++[.lst ys]++[.lst (xs++ys)]):=by
 refine(qJ ((zT (zt (i:=3) rfl) (jC h)).trans (WI (j5 H) qL (by unfold zX;omega)))).trans ?_
 rw[ay,aR]
 rfl
theorem WN {a:Ea}{xs ys zs:List W}{L:Hx}{u e:Option W}(c:L[j]? =some (.lst xs))(b:∀m A,a [u,e,none,m] A=.ok ys A)(H:xs.length+ys.length<=100)(h:xs++ys=zs):
  zY 3 (zo qx (zc 3) (zU a)) [u,e,none,some (.ref (A.length+j))] (A++L)=.ok (.nx [u,e,none,some (.ref (A.length+(L.length+1)))]) (A++(L++[.lst ys,.lst zs])):=by
 have d:(A++L)[A.length+j]? =some (.lst xs):=by rw[aq (by omega),show A.length+j - A.length=j by omega];exact c
 rw[Hl d (b _ _) H,h,ay,aW,aW,Nat.add_assoc]
 rfl
noncomputable def qm (i a n:Nat):List W:=(List.range' a n).map λ k=>W.bl (decide (k=i))
theorem Cu {f:Fn}{us:List W}{k:Nat}(hn:qY us=true)(h:f us []=.ok (.ref k) A1)(H:A1[k]? =some (.lst ws))(hw:qY ws=true):iso f us A=.ok (.ref A.length) (A++[.lst ws]):=by
 unfold iso;rw[ag hn,h];dsimp only;rw[H];dsimp only;rw[ag hw]
end G
namespace Mi
open PySem L2
section
variable {j:jF}{c:En}{f:Nat}{x:Option W}{w y:W}{acc:List W}{m:Ev}
theorem Ro (h:n<1000000):j0 (n:Int)=true:=by
 unfold j0;rw[aj,ao,ao];omega
theorem HN (h:j.at_ A i=some none):qR j (zN 0) (zi (.bl true)) (zK me) f i ρ acc A=.ok (ρ,acc) A:=by
 cases f<;>(unfold qR;rw[h])
theorem FF (h:j.at_ A i=some (some w))(he:me (some w::c) A=.ok y A1)(H:acc.length<zX):qR j (zN 0) (zi (.bl true)) (zK me) (f+1) i (x::c) acc A=qR j (zN 0) (zi (.bl true)) (zK me) f (i+1) (some w::c) (acc++[y]) A1:=by
 rw[qR,h];dsimp only[zN,List.set,zi];rw[zP];dsimp only;have e:zK me (some w::c) acc A=.ok (some w::c,acc++[y]) A1:=by
  unfold zK;rw[he,zP,ag H]
 rw[e,zP]
theorem zaA (h:m ρ A=.ok (.ref n) A1)(H:A1[n]? =some (.lst ws)):qC m ρ A=.ok ⟨λ A i=>(zR (.ref n) A).map λ ws=>ws[i]?,ws.length⟩ A1:=by
 unfold qC KQ;rw[h,zP];have e:zR (.ref n) A1=some ws:=by unfold zR;dsimp only;rw[H]
 rw[e]
theorem NB (h:A[n]? =some (.lst ws)):((zR (.ref n) A).map λ ws=>ws[i]?)=some ws[i]?:=by
 have e:zR (.ref n) A=some ws:=by unfold zR;dsimp only;rw[h]
 rw[e];rfl
theorem R5 {g:W->Option PyData}{d:PyData}{ds:List PyData}(h:g w=some d)(r:jH g ws=some ds):jH g (w::ws)=some (d::ds):=by
 unfold jH;rw[h,r]
theorem RS {g:W->Option PyData}{f:Nat->W}{d:PyData}:∀(n:Nat)(s:Nat),(∀t,s<=t->t<s+n->g (f t)=some d)->jH g ((List.range' s n).map f)=some (List.replicate n d)
 |0,_,_=>rfl|n+1,s,h=>by
  rw[bH,aV,a8];exact R5 (h s (by omega) (by omega)) (RS n (s+1) λ t a H=>h t (by omega) (by omega))
theorem PU {g:W->Option PyData}{w:W}{d:PyData}(h:g w=some d):∀n:Nat,jH g (List.replicate n w)=some (List.replicate n d)
 |0=>rfl|n+1=>by rw[a8,a8];exact R5 h (PU h n)
theorem OQ {k:Nat}{v:Int}(h:A[n]? =some (.lst [.int v])):qh A (k+1) (.ref n)=some (.list [.int v]):=by
 unfold qh;have e:zR (.ref n) A=some [.int v]:=by unfold zR;dsimp only;rw[h]
 rw[e];cases k<;>rfl
theorem P2 {k:Nat}{ds:List PyData}(h:A[n]? =some (.lst ws))(hd:jH (qh A k) ws=some ds):qh A (k+1) (.ref n)=some (.list ds):=by
 unfold qh;have e:zR (.ref n) A=some ws:=by unfold zR;dsimp only;rw[h]
 rw[e];dsimp only;rw[hd]
 rfl
theorem UO {a b:W}{d:PyData}(c:qh A 8 a=some d)(H:qh A 8 b=some d)(h:PyData.eqv d d=true):q9 a b A=.ok (.bl false) A:=by
 show gM true a b A=_;unfold gM;rw[c,H];dsimp only;rw[ag rfl,h]
 rfl
end
end Mi
namespace G
open PySem L2 Mi
section
theorem Au (a:A[0]? =some (.ro (ns.map W.int)))(k:Nat):∃x:Int,We [.ref 0,.int k] A=.ok (.int x) A:=by
 have H:zR (.ref 0) A=some (ns.map W.int):=by unfold zR;dsimp only;rw[a]
 have l:mQ qy (qf (zc 0)) [some (.ref 0),some (.int k)] A=.ok (.int ns.length) A:=by
  rw[yA (ko (w:=.ref 0) (A1:=A) (zt rfl) H)];unfold qy;rw[ai]
 have e:zo Jr (zc 1) (mQ qy (qf (zc 0))) [some (.ref 0),some (.int k)] A=.ok (.bl (decide ((k:Int)<ns.length))) A:=(zT (zt (w:=.int k) rfl) l).trans rfl
 by_cases h:k<ns.length
 ·refine⟨ns[k],qS ?_⟩
  unfold XF;rw[aJ (by omega)]at e
  refine qG ((Zg e).trans (qG (qZ ?_)));refine(zT (x:=.ref 0) (y:=.int k) (A1:=A) (A2:=A) (zt rfl) (zt rfl)).trans ?_;unfold zI;rw[H];dsimp only;rw[Ga (v:=.int ns[k]) (by rw[ar,ae h];rfl)]
 ·refine⟨0,qS ?_⟩
  unfold XF;rw[aK (by omega)]at e
  exact(zH ((yr e).trans rfl)).trans rfl
theorem CK (H:A[0]? =some (.ro (ns.map W.int)))(k:Nat):∃o,JC [.ref 0,.int k] A=.ok (.ref A.length) (A++[o])/\qX A.length (A++[o]):=by
 obtain⟨x,e⟩:=Au H k;have a:zY 2 (zF We (zh (zc 0) (zh (zc 1) zm))) [some (.ref 0),some (.int k),none] A=.ok (.nx [some (.ref 0),some (.int k),some (.int x)]) A:=by
  refine(qJ (w:=.int x) (A1:=A) ?_).trans rfl;rw[zO (ws:=[.ref 0,.int k]) (A1:=A) rfl];exact e
 have E:zo Tj (zc 2) (zo Qa (zi (.int 10)) (zi (.int 18))) [some (.ref 0),some (.int k),some (.int x)] A=.ok (.bl (decide ((1000000000000000000:Int)<=x))) A:=(zT (x:=.int x) (y:=.int 1000000000000000000) (A1:=A) (A2:=A) (zt rfl) rfl).trans rfl
 by_cases h:(1000000000000000000:Int)<=x
 ·refine⟨.lst [.int (x - 1000000000000000000),.bl true],qS ?_,x - 1000000000000000000,true,qL,by omega,λ z=>nomatch z⟩
  unfold X3;rw[aJ h]at E;refine(zH a).trans (qG ((Zg E).trans (qG (qZ (jC ?_)))))
  rfl
 ·refine⟨.lst [.int (x % 2147483647),.bl false],qS ?_,x % 2147483647,false,qL,emod_nonneg _ (by decide),λ _=>bK _ (by decide)⟩
  unfold X3;rw[aK h]at E;refine(zH a).trans ((zH ((yr E).trans rfl)).trans (qG (qZ (jC ?_))));refine zB (A1:=A) (A2:=A) ((zT (x:=.int x) (y:=.int 2147483647) (A1:=A) (A2:=A) (zt rfl) rfl).trans (J7 (by decide))) rfl
end
def GX (i:Nat):Hx:=[.lst (qm i 0 3),.lst (qm i 3 3),.lst (qm i 0 6),.lst (qm i 6 3),.lst (qm i 0 9),.lst (qm i 9 3),.lst (qm i 0 12),.lst (qm i 12 3),.lst (qm i 0 15),.lst [.int i]]
noncomputable def kS (x:Str):Option Nat:=if x = "NoTable" then some 0 else if x = "NotSteady" then some 1 else if x = "NoMix" then some 4 else if x = "NoNumber" then some 5 else none
theorem RK (h:kS x=some i):(x = "NoTable" /\ i=0)∨(x = "NotSteady" /\ i=1)∨(x = "NoMix" /\ i=4)∨(x = "NoNumber" /\ i=5):=by
 unfold kS at h
 by_cases h0:x = "NoTable"
 ·rw[ag h0]at h;cases h;exact .inl ⟨h0,rfl⟩
 ·rw[ak h0]at h
  by_cases h1:x = "NotSteady"
  ·rw[ag h1]at h;cases h;exact .inr (.inl ⟨h1,rfl⟩)
  ·rw[ak h1]at h
   by_cases a:x = "NoMix"
   ·rw[ag a]at h;cases h;exact .inr (.inr (.inl ⟨a,rfl⟩))
   ·rw[ak a]at h
    by_cases H:x = "NoNumber"
    ·rw[ag H]at h;cases h;exact .inr (.inr (.inr (⟨H,rfl⟩)))
    ·rw[ak H]at h;cases h
theorem F3 (a:kS x=some i)(u:W)(A:Hx):XA [some u,some (.xc x),none,none] A=.ok (.rt (.ref (A.length+9))) (A++GX i):=by
 have two:=RK a;unfold XA;have d:∀(m:Option W)(A:Hx),(zh (jf (jy qT "NoTable") (zc 1)) (zh (jf (jy qT "NotSteady") (zc 1)) (zh (jf (jy qT "NoPlace") (zc 1)) zm))) [some u,some (.xc x),none,m] A=.ok (qm i 0 3) A:=λ m A=>by
  rcases two with ⟨rfl,rfl⟩|⟨rfl,rfl⟩|⟨rfl,rfl⟩|⟨rfl,rfl⟩<;>kernel_rfl
 have a1:∀(m:Option W)(A:Hx),(zh (jf (jy qT "NoKind") (zc 1)) (zh (jf (jy qT "NoMix") (zc 1)) (zh (jf (jy qT "NoNumber") (zc 1)) zm))) [some u,some (.xc x),none,m] A=.ok (qm i 3 3) A:=λ m A=>by
  rcases two with ⟨rfl,rfl⟩|⟨rfl,rfl⟩|⟨rfl,rfl⟩|⟨rfl,rfl⟩<;>kernel_rfl
 have a2:∀(m:Option W)(A:Hx),(zh (jf (jy qT "NoLot") (zc 1)) (zh (jf (jy qT "NoKinds") (zc 1)) (zh (jf (jy qT "NoPaper") (zc 1)) zm))) [some u,some (.xc x),none,m] A=.ok (qm i 6 3) A:=λ m A=>by
  rcases two with ⟨rfl,rfl⟩|⟨rfl,rfl⟩|⟨rfl,rfl⟩|⟨rfl,rfl⟩<;>kernel_rfl
 have c:∀(m:Option W)(A:Hx),(zh (jf (jy qT "NoParting") (zc 1)) (zh (jf (jy qT "NoClosed") (zc 1)) (zh (jf (jy qT "TooMany") (zc 1)) zm))) [some u,some (.xc x),none,m] A=.ok (qm i 9 3) A:=λ m A=>by
  rcases two with ⟨rfl,rfl⟩|⟨rfl,rfl⟩|⟨rfl,rfl⟩|⟨rfl,rfl⟩<;>kernel_rfl
 have b:∀(m:Option W)(A:Hx),(zh (jf (jy qT "NoText") (zc 1)) (zh (jf (jy qT "NoLine") (zc 1)) (zh (jf (jy qT "NoDeed") (zc 1)) zm))) [some u,some (.xc x),none,m] A=.ok (qm i 12 3) A:=λ m A=>by
  rcases two with ⟨rfl,rfl⟩|⟨rfl,rfl⟩|⟨rfl,rfl⟩|⟨rfl,rfl⟩<;>kernel_rfl
 have ap:∀n,qm i 0 n++qm i n 3=qm i 0 (n+3):=λ n=>by
  unfold qm;rw[<- aU]
  congr 1
  have:=List.range'_append_1 (s:=0) (m:=n) (n:=3)
  rw[Nat.zero_add]at this;exact this
 have e0:zY 3 (zU (zh (jf (jy qT "NoTable") (zc 1)) (zh (jf (jy qT "NotSteady") (zc 1)) (zh (jf (jy qT "NoPlace") (zc 1)) zm)))) [some u,some (.xc x),none,none] A=.ok (.nx [some u,some (.xc x),none,some (.ref (A.length+0))]) (A++[.lst (qm i 0 3)]):=(qJ (jC (d _ A))).trans rfl;refine(zH e0).trans ?_;refine(zH (WN (A:=A) (L:=[.lst (qm i 0 3)]) (j:=0) (xs:=qm i 0 3) (ys:=qm i 3 3) (zs:=qm i 0 6) rfl a1 (by simp[qm]) (ap 3))).trans ?_
 refine(zH (WN (A:=A) (L:=[.lst (qm i 0 3),.lst (qm i 3 3),.lst (qm i 0 6)]) (j:=2) (xs:=qm i 0 6) (ys:=qm i 6 3) (zs:=qm i 0 9) rfl a2 (by simp[qm]) (ap 6))).trans ?_
 refine(zH (WN (A:=A) (L:=[.lst (qm i 0 3),.lst (qm i 3 3),.lst (qm i 0 6),.lst (qm i 6 3),.lst (qm i 0 9)]) (j:=4) (xs:=qm i 0 9) (ys:=qm i 9 3) (zs:=qm i 0 12) rfl c (by simp[qm]) (ap 9))).trans ?_
 refine(zH (WN (A:=A) (L:=[.lst (qm i 0 3),.lst (qm i 3 3),.lst (qm i 0 6),.lst (qm i 6 3),.lst (qm i 0 9),.lst (qm i 9 3),.lst (qm i 0 12)]) (j:=6) (xs:=qm i 0 12) (ys:=qm i 12 3) (zs:=qm i 0 15) rfl b (by simp[qm]) (ap 12))).trans ?_
 generalize H:A++([.lst (qm i 0 3),.lst (qm i 3 3),.lst (qm i 0 6),.lst (qm i 6 3),.lst (qm i 0 9),.lst (qm i 9 3),.lst (qm i 0 12)]++[.lst (qm i 12 3),.lst (qm i 0 15)])=B;have l:B.length=A.length+9:=by rw[<- H];simp
 have hm:B[A.length+8]? =some (.lst (qm i 0 15)):=by rw[<- H,aq (by omega),show A.length+8 - A.length=8 by omega];rfl
 refine(zH (ρ1:=[some u,some (.xc x),none,some (.ref (A.length+8))]) (A1:=B) ((yr (A1:=B) (kR (k:=true) ?_)).trans rfl)).trans (qG (qZ ?_))
 ·rcases two with ⟨rfl,rfl⟩|⟨rfl,rfl⟩|⟨rfl,rfl⟩|⟨rfl,rfl⟩<;>kernel_rfl
 have e:=Rx (cap:=[3]) (mi:=qW (zi (.int 15))) (j:=wq 0 15) (ifs:=zo zI (zc 1) (zc 0)) (me:=zc 0) (ρ:=[some u,some (.xc x),none,some (.ref (A.length+8))]) (A:=B) (N:=15) (item:=λ k=>.int (0+(k:Int))) (g:=λ k=>.int (0+(k:Int))) (keep:=λ k=>decide (k=i)) rfl rfl (by unfold zX;omega) (λ k h=>w9 h) (wZ (by omega))
  (λ k h=>by
   refine(zT (zt (i:=1) (w:=.ref (A.length+8)) rfl) (zt (i:=0) (w:=.int (0+(k:Int))) rfl)).trans ?_;rw[bz];refine km hm ?_;unfold qm;rw[ar,List.getElem?_range' (by omega)]
   simp) (λ k h _=>rfl)
 rw[wG e,l];have hf:((List.range 15).filter λ k=>decide (k=i)).map (λ k:Nat=>W.int (0+(k:Int)))=[.int i]:=by
  rcases two with ⟨rfl,rfl⟩|⟨rfl,rfl⟩|⟨rfl,rfl⟩|⟨rfl,rfl⟩<;>rfl
 rw[hf,<- H,aW]
 rfl
theorem zba (h:kS x=some i):qT.contains x=true:=by
 rcases RK h with ⟨rfl,_⟩|⟨rfl,_⟩|⟨rfl,_⟩|⟨rfl,_⟩<;>decide +kernel
abbrev LS:List Lm:=yG jM jL jK
def RF (k:Nat)(ws:List W)(A:Hx):R W:=match jS LS k ws A with
 |.exc x A1=>(match kS x with
  |some i=>.ok (.ref (A1.length+9)) (A1++GX i)|none=>.bad)
 |_=>.bad
theorem CF {PG:jE}{k:Nat}(H:jS LS k ws A=.exc x A1)(h:kS x=some i):
  qH 4 (YJ PG (jS LS)) [.clo k ws (PG k)] A=.ok (.ref (A1.length+9)) (A1++GX i):=by
 have E:G2 0 PG (jS LS) [some (.clo k ws (PG k)),some .non,none,none] A=.exc x A1:=by
  unfold G2;refine(ag rfl).trans H
 have e:KA 0 1 2 qT PG (jS LS) [some (.clo k ws (PG k)),some .non,none,none] A=.ok (.nx [some (.clo k ws (PG k)),some (.xc x),none,none]) A1:=by
  unfold KA;rw[E];dsimp only;rw[ag (zba h)]
  rfl
 refine qS ?_;unfold YJ;refine(zH (ρ1:=[some (.clo k ws (PG k)),some .non,none,none]) (A1:=A) rfl).trans ?_;exact(zH e).trans (F3 h _ A1)
theorem GO {k:Nat}(H:jS LS k ws A=.exc x A1)(h:kS x=some i):RF k ws A=.ok (.ref (A1.length+9)) (A1++GX i):=by
 unfold RF;rw[H];dsimp only;rw[h]
theorem AG {PG:jE}(us:List W)(A:Hx):gO PG RF us A=.bad∨qH 4 (YJ PG (jS LS)) us A=gO PG RF us A:=by
 by_cases H:gO PG RF us A=.bad
 ·exact .inl H
 right
 unfold gO at H ⊢
 split
 ·rename_i k ws P
  dsimp only at H
  by_cases a:P=PG k
  ·subst a
   rw[ag rfl]at H ⊢;cases e:jS LS k ws A with
   |exc x A1=>
    cases hm:kS x with
    |none=>exfalso;apply H;unfold RF;rw[e];dsimp only;rw[hm]|some i=>rw[CF e hm,GO e hm]
   |ok w A1=>exfalso;apply H;unfold RF;rw[e]|bad=>exfalso;apply H;unfold RF;rw[e]
  ·rw[ak a]at H;exact absurd rfl H
 ·rename_i h
  exfalso
  apply H
  split
  ·rename_i k ws P
   exact(h k ws P rfl).elim
  ·rfl
section
theorem ZZ {k:Nat}{t:Lm}(h:ls[k]? =some t):jS ls k ws A=t.m (ws.map some) A:=by unfold jS;rw[h]
end
theorem L1:kS "NoTable" = some 0:=by decide +kernel
theorem Ln:kS "NotSteady" = some 1:=by decide +kernel
theorem YW:kS "NoMix" = some 4:=by decide +kernel
theorem LA:kS "NoNumber" = some 5:=by decide +kernel
section
variable {A0:Hx}{PF:jE}{c g:Nat}{ks:List Nat}
def yV (g i:Nat):Hx:=(List.replicate i (GX g)).flatten
theorem Gd (g i:Nat):(yV g i).length=10 * i:=by
 unfold yV;rw[len_rep];show i * 10=_;omega
theorem PV (g i:Nat):yV g i++GX g=yV g (i+1):=by
 unfold yV;rw[List.replicate_succ',List.flatten_append];simp
theorem OY (g:Nat):∀(i t:Nat),t<i->(yV g i)[10 * t+9]? =some (.lst [.int (g:Int)])
 |0,_,h=>absurd h (bq _)|i+1,t,h=>by
  rw[<- PV]
  by_cases H:t<i
  ·rw[ah (by rw[Gd];omega)]
   exact OY g i t H
  ·have:t=i:=by omega
   subst this;rw[aq (by rw[Gd];omega),Gd,show 10 * t+9 - 10 * t=9 by omega]
   rfl
def GQ (g:Nat)(a:Hx)(ρ:En)(K:List Nat):Prop:=∀k∈K,∃t ws,LS[k]? =some t/\kH t.idx ρ=some ws/\∀A,Ext a A->RF k ws A=.ok (.ref (A.length+9)) (A++GX g)
theorem zaY (h:GQ g A0 ρ ks)(b:Ext A0 A){k:Nat}(H:k∈ks):Ql 0 PF LS RF ρ [some (.clo k [] (PF k))] A=.ok (.ref (A.length+9)) (A++GX g):=by
 obtain⟨t,ws,d,c,a⟩:=h k H;unfold Ql;refine(ag rfl).trans ?_;rw[d];dsimp only;rw[c];exact a A b
theorem CQ (h:GQ g A0 ρ ks)(b:Ext A0 A)(d:A[c]? =some (O.lst (ks.map λ k=>.clo k [] (PF k))))(n:ks.length<=100):∀(f i:Nat)(x:Option W),i+f=ks.length->∃y,
  qR ⟨λ A i=>(zR (.ref c) A).map λ ws=>ws[i]?,ks.length⟩ (zN 0) (zi (.bl true)) (zK (Ql 0 PF LS RF ρ)) f i [x] ((List.range' 0 i).map λ t=>W.ref (A.length+(10 * t+9))) (A++yV g i)=
   .ok ([y],(List.range' 0 ks.length).map λ t=>W.ref (A.length+(10 * t+9))) (A++yV g ks.length):=by
 intro f
 induction f with
 |zero=>
  intro i x j
  have:i=ks.length:=by omega
  subst this;refine⟨x,HN ?_⟩;have a:=Ext.at (A':=A++yV g ks.length) ⟨_,rfl⟩ d;show((zR (.ref c) _).map λ ws=>ws[ks.length]?)=some none;rw[NB a,aC (by simp)]
 |succ f I=>
  intro i x j;have H:i<ks.length:=by omega
  obtain⟨y,e⟩:=I (i+1) (some (.clo ks[i] [] (PF ks[i]))) (by omega)
  refine⟨y,?_⟩;have a:=Ext.at (A':=A++yV g i) ⟨_,rfl⟩ d;rw[FF (w:=.clo ks[i] [] (PF ks[i])) (y:=.ref ((A++yV g i).length+9)) (A1:=A++yV g i++GX g) ?_ (zaY h (b.trans ⟨_,rfl⟩) (aP H)) (by simp;unfold zX;omega)]
  ·have l:A++yV g i++GX g=A++yV g (i+1):=by rw[aW,PV]
   have E:((List.range' 0 i).map λ t=>W.ref (A.length+(10 * t+9)))++[W.ref ((A++yV g i).length+9)]=(List.range' 0 (i+1)).map λ t=>W.ref (A.length+(10 * t+9)):=by
    rw[List.range'_concat,aU,List.map_singleton,ay,Gd]
    congr 3
    omega
   rw[l,E];exact e
  ·show((zR (.ref c) _).map λ ws=>ws[i]?)=some (some _)
   rw[NB a,ar,ae H]
   rfl
theorem C0 (h:GQ g A0 ρ ks)(b:Ext A0 A)(q:A[c]? =some (O.lst (ks.map λ k=>.clo k [] (PF k))))(j:ρ[9]? =some (some (.ref c)))(v:ks.length<=100)(hn:n=ks.length)
  (he:PyData.eqv (.list (List.replicate ks.length (.list [.int (g:Int)]))) (.list (List.replicate ks.length (.list [.int (g:Int)])))=true):
  ∃A',zo q9 (qp (Kw 1 (qC (zc 9)) (zN 0) 0 PF LS RF)) (zo qu (zU (zh (zU (zh (zi (.int (g:Int))) zm)) zm)) (zi (.int n))) ρ A=.ok (.bl false) A'/\Ext A A':=by
 subst hn;obtain⟨y,e⟩:=CQ (PF:=PF) h b q v ks.length 0 none (by omega)
 have s:Kw 1 (qC (zc 9)) (zN 0) 0 PF LS RF ρ A=.ok ((List.range' 0 ks.length).map λ t=>W.ref (A.length+(10 * t+9))) (A++yV g ks.length):=by
  unfold Kw zS;rw[zaA (zt j) q,zP];have o:(ks.map λ k=>W.clo k [] (PF k)).length=ks.length:=by simp
  dsimp only;rw[o];have J:qR ⟨λ A i=>(zR (.ref c) A).map λ ws=>ws[i]?,ks.length⟩ (zN 0) (zi (.bl true)) (zK (Ql 0 PF LS RF ρ)) ks.length 0 (Z6 1 [] ρ) [] A=.ok ([y],(List.range' 0 ks.length).map λ t=>W.ref (A.length+(10 * t+9))) (A++yV g ks.length):=by
   have:=e
   rw[show yV g 0=[] from rfl,bo]at this
   exact this
  rw[J]
  rfl
 have H:∀t,t<ks.length->(A++yV g ks.length)[A.length+(10 * t+9)]? =some (.lst [.int (g:Int)]):=λ t f=>by
  rw[aq (by omega),show A.length+(10 * t+9) - A.length=10 * t+9 by omega]
  exact OY _ _ _ f
 generalize I:A++yV g ks.length=B at s H;have r:=wG s;generalize a:((List.range' 0 ks.length).map λ t=>W.ref (A.length+(10 * t+9)))=acc at r;have E:zo qu (zU (zh (zU (zh (zi (.int (g:Int))) zm)) zm)) (zi (.int ks.length)) ρ (B++[O.lst acc])=
   .ok (.ref (B++[O.lst acc]++[O.lst [.int (g:Int)]]++[O.lst [.ref (B++[O.lst acc]).length]]).length) (B++[O.lst acc]++[O.lst [.int (g:Int)]]++[O.lst [.ref (B++[O.lst acc]).length]]++[O.lst (List.replicate ks.length (.ref (B++[O.lst acc]).length))]):=by
  refine(zT (x:=.ref (B++[O.lst acc]++[O.lst [.int (g:Int)]]).length) (y:=.int ks.length) (A1:=B++[O.lst acc]++[O.lst [.int (g:Int)]]++[O.lst [.ref (B++[O.lst acc]).length]]) (jC (zB (jC (ws:=[.int (g:Int)]) (A1:=B++[O.lst acc]) rfl) rfl)) rfl).trans ?_;unfold qu;dsimp only;rw[qL];dsimp only;rw[ag ?_,az,List.flatten_replicate_singleton];rw[aj,ao,az];refine⟨Ro (by omega),?_⟩
  show 1 * ks.length<=zX;unfold zX;omega
 generalize z:B++[O.lst acc]++[O.lst [.int (g:Int)]]++[O.lst [.ref (B++[O.lst acc]).length]]=C at E;have p:Ext B (B++[O.lst acc]):=.one;have X:Ext (B++[O.lst acc]++[O.lst [.int (g:Int)]]) (C++[O.lst (List.replicate ks.length (.ref (B++[O.lst acc]).length))]):=by rw[<- z];exact Ext.one.trans .one
 have u:Ext A (C++[O.lst (List.replicate ks.length (.ref (B++[O.lst acc]).length))]):=Ext.trans ⟨_,I.symm⟩ (p.trans (Ext.one.trans X));have l:∀D:Hx,(∀t,t<ks.length->D[A.length+(10 * t+9)]? =some (O.lst [.int (g:Int)]))->jH (qh D 7) acc=some (List.replicate ks.length (.list [.int (g:Int)])):=λ D w=>by
  rw[<- a];exact RS _ _ λ t _ f=>OQ (w t (by omega))
 refine⟨_,(zT r E).trans (UO (d:=.list (List.replicate ks.length (.list [.int (g:Int)]))) ?_ ?_ he),u⟩
 ·refine P2 (k:=7) ((Ext.one.trans X).at qL) ?_
  exact l _ λ t f=>(p.trans (Ext.one.trans X)).at (H t f)
 ·refine P2 (k:=7) qL ?_
  exact PU (OQ (X.at qL)) _
variable {k:Nat}{t:Lm}
theorem WZ (h:A[1]? =some (.tab ql Pt))(k:Nat):j6 1 ql Pt k (PF k) ρ A=.ok (.clo k [] (PF k)) A:=by
 unfold j6;rw[h];dsimp only;rw[ag ⟨rfl,rfl⟩]
theorem Hm (d:A[1]? =some (.tab ql Pt))(H:LS[k]? =some t)(c:kH t.idx ρ=some ws)(a:jS LS k ws A=.exc x A)(h:kS x=some g):∃B,zo jn (wI LS PF (gf RF) (zh (j6 1 ql Pt k (PF k)) zm)) (zU (zh (zi (.int (g:Int))) zm)) ρ A=.ok (.bl true) B/\Ext A B:=by
 have e:wI LS PF (gf RF) (zh (j6 1 ql Pt k (PF k)) zm) ρ A=.ok (.ref (A.length+9)) (A++GX g):=by
  unfold wI;rw[zB (WZ d k) zQ,zP]
  have:gK LS PF ρ [.clo k [] (PF k)]=some [.clo k ws (PF k)]:=by
   unfold gK Yv;dsimp only;rw[ag rfl,H];dsimp only;rw[c]
   rfl
  rw[this];exact GO a h
 have x1:Ext A (A++GX g):=⟨_,rfl⟩;have b:(A++GX g)[A.length+9]? =some (.lst [.int (g:Int)]):=by rw[aq (by omega),show A.length+9 - A.length=9 by omega];rfl
 refine⟨A++GX g++[.lst [.int (g:Int)]],(zT e (jC (zB jb zQ))).trans ((eqL (l:=[(g:Int)]) (m:=[(g:Int)]) (j5 b) qL).trans ?_),x1.app⟩;rw[aJ rfl]<;>rfl
end
section
variable {w:W}
theorem DV (h:qk t)(A:Hx):Zx [zq t] A=.ok (.bl true) A:=Ci h A
theorem Cw (h:wc A w):Zx [w] A=.ok (.bl false) A:=h A λ _ _ z=>z
theorem R3 (h:qk t)(A:Hx):YH [zq t] A=.ok .non A:=by
 refine VW (ρ:=[some (zq t)]) ?_;unfold Xy;refine(zH (ρ1:=[some (zq t)]) (A1:=A) ((yr (A1:=A) ?_).trans rfl)).trans rfl;exact wJ (kR (k:=true) ((zO (ws:=[zq t]) (A1:=A) rfl).trans (DV h A)))
theorem H9 (h:wc A w):YH [w] A=.exc "NoTable" A:=by
 refine kP ?_;unfold Xy;exact yR ((Zg (A1:=A) (wJ (kR (k:=false) ((zO (ws:=[w]) (A1:=A) rfl).trans (Cw h))))).trans (yR rfl))
variable {a b k:Nat}{x:W}
theorem Ar {ty:Ty}(h:jw w A=some ty):(yZ ty .int&&!yZ ty .bl)=ZK w:=by
 cases w with
 |ref k=>
  unfold jw at h;dsimp only at h
  split at h
  ·cases h;rfl
  ·cases h;rfl
  ·cases h
 |clo _ _ _=>cases h|xc _=>cases h|_=>cases h;rfl
theorem zbE {a b:Ev}{p q:Bool}(h:a ρ A=.ok (.bl p) A)(H:b ρ A=.ok (.bl q) A):ka a b ρ A=.ok (.bl (p&&q)) A:=by
 cases p with
 |true=>exact(Zy h).trans H|false=>exact Q7 h
theorem Ov {ty:Ty}(h:jw w A=some ty):Zv [w] A=.ok (.bl (ZK w)) A:=by
 unfold Zv Ws RC;refine qS (qG (qZ ((zbE (Jf (zt rfl) h) (kR (Jf (zt rfl) h))).trans ?_)));rw[Ar h]
def Ok (n:Nat)(x:W):Prop:=∃v:Nat,x=.int (v:Int)/\v<n
theorem PD {ty:Ty}(h:jw x A=some ty)(n:Nat):∃b,K5 [x,.int (n:Int)] A=.ok (.bl b) A/\(b=true↔Ok n x):=by
 unfold K5 Xx TV;have E:zF Zv (zh (zc 0) zm) [some x,some (.int (n:Int))] A=.ok (.bl (ZK x)) A:=(zO (zB (zt rfl) zQ)).trans (Ov h);cases x with
 |int v=>
  refine⟨decide (0<=v)&&decide (v<(n:Int)),qS (qG (qZ ((Zy E).trans (DI rfl (zt rfl))))),?_⟩;rw[aj,ao,ao]
  constructor
  ·rintro⟨H,c⟩
   obtain⟨u,rfl⟩:=aS H;exact⟨u,rfl,by omega⟩
  ·rintro⟨u,e,a⟩
   cases e;omega
 |_=>
  refine⟨false,qS (qG (qZ (Q7 E))),λ z=>(by cases z),?_⟩
  rintro⟨u,e,_⟩
  cases e
theorem W7 (h:qk t)(A:Hx):JA [zq t] A=.ok (.int (qB t)) A:=by
 refine Ze (A1:=[]) (ZJ t) rfl (qS ?_);unfold Si;refine qG (qZ ((zT (VJ h rfl) jb).trans ?_));show R.ok (W.int (qB t - 1+1)) []=_
 congr 2
 omega
theorem Pw (h:qk t)(A:Hx):Qp [zq t] A=.ok (.int (qB t)) A:=by
 refine Ze (A1:=[]) (ZJ t) rfl (qS ?_);unfold SX;refine qG (qZ ((zT jb (VJ h rfl)).trans ?_));show R.ok (W.int (1+(qB t - 1))) []=_
 congr 2
 omega
theorem len_tab (h:ρ[i]? =some (some (zq t))):mQ qy (qf (zc i)) ρ A=.ok (.int (t.length:Int)) A:=by
 have:=Kv (ws:=t.map zw) (A:=A) h
 rw[ai]at this;exact this
end
section
variable {N b:Nat}
theorem D3 {g:Nat->Int}{k:Int}(h:b<N):((List.range N).map λ j=>W.int (g j)).set b (.int k)=(List.range N).map λ j=>W.int (if j=b then k else g j):=by
 apply ext_getElem?
 intro i
 by_cases hi:i<N
 ·by_cases q:b=i
  ·subst q
   rw[aG (by simpa using hi),ar,aO hi]
   simp
  ·rw[aH q,ar,ar,aO hi]
   simp[Ne.symm q]
 ·rw[aC (by simp;omega),aC (by simp;omega)]
end
section
variable {f:Fn}{us:List W}
theorem HC (v:Int)(A:Hx):qH 2 (Qq f) [.int v,.int v] A=.ok (.bl true) A:=by
 refine qS ?_;unfold Qq;refine(zH (ρ1:=[some (.int v),some (.int v)]) (A1:=A) ((yr (A1:=A) rfl).trans rfl)).trans (qG (qZ ?_));exact(Zy (A1:=A) ((zT (zt (i:=0) rfl) (zt (i:=1) rfl)).trans ((Jt _ _ _).trans (by rw[aJ rfl])))).trans rfl
theorem HG {x y:W}{ty:Ty}(H:zR x A=some ws)(h:zR y A=some ws)(T:jw x A=some ty)(t:jw y A=some ty)(b:ty=.tup∨ty=.lst)(l:ws.length<=1000)(hf:∀w∈ws,f [w,w] A=.ok (.bl true) A):qH 2 (Qq f) [x,y] A=.ok (.bl true) A:=by
 refine qS ?_;unfold Qq;have d:mQ qy (qf (zc 0)) [some x,some y] A=.ok (.int ws.length) A:=yA (ko (w:=x) (A1:=A) (zt rfl) H);have E:mQ qy (qf (zc 1)) [some x,some y] A=.ok (.int ws.length) A:=yA (ko (w:=y) (A1:=A) (zt rfl) h);have I:G1 .tup .lst (zc 1) [some x,some y] A=.ok (.bl true) A:=by
  unfold G1;rw[zt (w:=y) rfl,zP,t];rcases b with rfl|rfl<;>rfl
 have n1:∀c,zo q9 (kL c (zc 0)) (kL c (zc 1)) [some x,some y] A=.ok (.bl false) A:=λ c=>(zT (Jf (w:=x) (zt rfl) T) (Jf (w:=y) (zt rfl) t)).trans ((N7 _ _ _).trans (by rw[bp];rfl))
 refine qG ((Zg (A1:=A) I).trans ?_);refine(zH (ρ1:=[some x,some y]) (A1:=A) ((yr (A1:=A) ((GC (A1:=A) (n1 .tup)).trans (n1 .lst))).trans jO)).trans ?_;refine(zH (ρ1:=[some x,some y]) (A1:=A) ((yr (A1:=A) ((zT d E).trans ((N0 _ _ _).trans (by rw[aJ rfl];rfl)))).trans jO)).trans (qG (qZ ?_))
 have z:k9 (zc 0) (zc 1) [some x,some y] A=.ok (gq x y ws.length) A:=by
  unfold k9;rw[zt (w:=x) rfl,zP,zt (w:=y) rfl,zP,H,h]
 have j:=X7 (A:=A) (cap:=[]) (ρ:=[some x,some y]) (me:=zF f (zh (zc 0) (zh (zc 1) zm))) (N:=ws.length) (u:=λ i=>ws.getD i .non) (v:=λ i=>ws.getD i .non) (g:=λ _=>.bl true) z rfl l
  (λ i a=>by
   show(match zR x A,zR y A with|some us,some vs=>some (zip2 us[i]? vs[i]?) | _,_=>none)=_
   rw[H,h];show some (zip2 ws[i]? ws[i]?)=_;rw[aa,ae a];rfl)
  (by
   show(match zR x A,zR y A with|some us,some vs=>some (zip2 us[ws.length]? vs[ws.length]?) | _,_=>none)=_
   rw[H,h];show some (zip2 ws[ws.length]? ws[ws.length]?)=_;rw[aC (aw _)];rfl)
  (λ i a=>by
   have e:ws.getD i .non=ws[i]:=by rw[aa,ae a];rfl
   rw[e];exact(zO (ws:=[ws[i],ws[i]]) (A1:=A) rfl).trans (hf _ (aP a)))
 exact(yA j).trans (Kf (p:=λ _=>true) λ _ _=>rfl)
end
structure LC (K:Nat)(μ:Nat->Nat->Int)(C:Hx):Prop where
 top:C[2 * K]? =some (.lst ((List.range K).map λ i=>W.ref (2 * i+1)))
 row:∀i,i<K->C[2 * i+1]? =some (.lst ((List.range K).map λ j=>W.int (μ i j)))
section
variable {K a b:Nat}{C:Hx}
theorem LC.put (h:LC K μ C)(f:i<K)(e:j<K)(k:Int):∃b,gn (.ref (2 * i+1)) (.int (j:Int)) (.int k) C=.ok () b/\LC K (ZH μ i j k) b:=by
 have r:=h.row i f;have H:=wY r;refine⟨_,Cc r (by simp;omega),?_,λ c d=>?_⟩
 ·rw[aH (by omega)];exact h.top
 ·by_cases q:c=i
  ·subst q
   rw[aG H,D3 e]
   congr 3
   funext a
   unfold ZH
   by_cases z:a=j
   ·rw[ag z,ag ⟨rfl,z⟩]
   ·rw[ak z,ak (by rintro⟨_,w⟩;exact z w)]
  ·rw[aH (by omega),h.row c d]
   congr 3
   funext a
   unfold ZH;rw[ak (by rintro⟨w,_⟩;exact q w)]
theorem LC.aug (h:LC K μ C){mo mi:Ev}(o:mo ρ C=.ok (.ref (2 * i+1)) C)(b:mi ρ C=.ok (.int (j:Int)) C)(a:i<K)(H:j<K):∃c,Ks mo mi (zi (.int 1)) ρ C=.ok (.nx ρ) c/\LC K (ZH μ i j (μ i j+1)) c:=by
 obtain⟨c,e,l⟩:=h.put a H (μ i j+1);refine⟨c,?_,l⟩;unfold Ks;rw[o,zP,b,zP];dsimp only;rw[ag (by omega),h.row i a]
 dsimp only;rw[az,ar,aO H];show R.bind (gn (.ref (2 * i+1)) (.int (j:Int)) (.int (μ i j+1)) C) _=_;rw[e,zP]
theorem LC.ix (h:LC K μ C){m mi:Ev}(hm:m ρ C=.ok (.ref (2 * K)) C)(H:mi ρ C=.ok (.int (i:Int)) C)(a:i<K):zo zI m mi ρ C=.ok (.ref (2 * i+1)) C:=
 (zT hm H).trans (km h.top (by rw[ar,aO a];rfl))
theorem rep1 (w:W):∀n:Nat,(List.replicate n [w]).flatten=(List.range n).map λ _=>w:=λ n=>by
 rw[List.map_const',aN]
 induction n with
 |zero=>rfl|succ n i=>rw[a8,a3,i];rfl
theorem E4 (n:K<=8){x0 x1 x2 x4:Option W}{l:List (Option W)}:∃C,qp (zS 1 [3] (qW (zc 3)) (zN 0) (zi (.bl true)) (zK (zo qu (zU (zh (zi (.int 0)) zm)) (zc 1)))) (x0::x1::x2::some (.int (K:Int))::x4::l) []=.ok (.ref (2 * K)) C/\LC K (λ _ _=>0) C:=by
 have hm:=gD (m:=zc 3) (ρ:=x0::x1::x2::some (.int (K:Int))::x4::l) (A:=[]) (k:=(K:Int)) rfl (wX (by omega))
 rw[az]at hm;obtain⟨g,acc,B,e,_,H,h⟩:=YV (nl:=1) (cap:=[3]) (tw:=zN 0) (ifs:=zi (.bl true)) (em:=zK (zo qu (zU (zh (zi (.int 0)) zm)) (zc 1))) (N:=K)
  (I:=λ i ρ acc B=>(∃y,ρ=[y,some (.int (K:Int))])/\(B.length=2 * i/\∀c,c<i->B[2 * c+1]? =some (.lst ((List.range K).map λ j=>W.int 0)))/\acc=(List.range i).map λ c=>W.ref (2 * c+1)) hm rfl
  (λ i ρ acc B b ⟨⟨y,a⟩,⟨d,H⟩,h⟩=>by
   subst a h;refine⟨_,_,w9 b,rfl,.inl ⟨B,_,_,B++[.lst [.int 0]]++[.lst ((List.range K).map λ j=>W.int 0)],rfl,Y5 (y:=.ref (2 * i+1)) ?_ (by rw[ai,aN];unfold zX;omega),⟨_,rfl⟩,⟨by simp;omega,λ c f=>?_⟩,by rw[bB,aU];rfl⟩⟩
   ·refine(zT (jC (zB jb zQ)) (zt (i:=1) (w:=.int (K:Int)) rfl)).trans ?_
    unfold qu;dsimp only;rw[qL];dsimp only;rw[ag (by rw[wX (by omega),az];simp;unfold zX;omega),az,ay,d,rep1]
    rfl
   ·by_cases q:c=i
    ·subst q
     rw[aq (by simp;omega)]
     simp[d]
    ·rw[ah (by simp;omega),ah (by omega)]
     exact H c (by omega))
  (λ ρ acc B _=>wZ (by omega)) ⟨⟨none,rfl⟩,⟨rfl,λ c f=>absurd f (bq _)⟩,rfl⟩
 subst h;refine⟨B++[.lst ((List.range K).map λ c=>W.ref (2 * c+1))],?_,?_,λ i b=>?_⟩
 ·rw[wG e,H.1]
 ·rw[<- H.1];exact qL
 ·exact j5 (H.2 i b)
theorem LC.tup (h:LC K μ C)(d:K<=8){i:Nat}(b:ρ[i]? =some (some (.ref (2 * K)))):mQ yi (zS 1 [] (qC (zc i)) (zN 0) (zi (.bl true)) (zK (mQ yi (qf (zc 0))))) ρ C=.ok (zq (jv K μ)) C:=by
 have e:=WK (cap:=[]) (ws:=(List.range K).map λ i=>W.ref (2 * i+1)) (me:=mQ yi (qf (zc 0))) (zt b) h.top (by simp;unfold zX;omega) (g:=λ w=>match w with | .ref n=>(match C[n]? with|some (.lst ws)=>.tup ws|_=>.non) | _=>.non) (λ w hw=>by
  obtain⟨c,a,rfl⟩:=qa6.mp hw;have H:=h.row c (qa5.mp a);dsimp only;rw[H];exact Zc (ko (w:=.ref (2 * c+1)) (A1:=C) (zt rfl) (by unfold zR;dsimp only;rw[H])))
 rw[Zc e]
 congr 1
 unfold zq jv;rw[aQ,aQ]
 congr 1
 refine aZ λ c a=>?_;have H:=h.row c (qa5.mp a);show(match C[2 * c+1]? with|some (.lst ws)=>W.tup ws|_=>.non)=zw ((List.range K).map (μ c))
 rw[H];unfold zw;rw[aQ]
 rfl
def shr (t:List (List Int))(a b:Nat):Nat->Nat->Nat->Int
 |0=>λ _ _=>0|n+1=>ZH (shr t a b n) (at2 t a n).toNat (at2 t b n).toNat (shr t a b n (at2 t a n).toNat (at2 t b n).toNat+1)
def jX (t:List (List Int))(K a b:Nat):List (List Int):=jv K (shr t a b t.length)
theorem Km (h:qk t)(d:qB t=(K:Int))(c:a<t.length)(H:b<t.length):((at2 t a b).toNat:Int)=at2 t a b/\(at2 t a b).toNat<K:=by
 have f:=Z5 h c H;have e:=Kk h c H;omega
theorem Vk (h:qk t)(g:qB t=(K:Int))(d:a<t.length)(c:b<t.length)(A:Hx):Zs [zq t,.int (a:Int),.int (b:Int)] A=.ok (zq (jX t K a b)) A:=by
 have n8:=h.n8;have x:=wL h;have f:((t.getD a []).map W.int).length=t.length:=by rw[ai,h.sq _ (yx d)]
 have u:((t.getD b []).map W.int).length=t.length:=by rw[ai,h.sq _ (yx c)]
 obtain⟨C,v,r⟩:=E4 (K:=K) (by omega) (x0:=some (zq t)) (x1:=some (.int (a:Int))) (x2:=some (.int (b:Int))) (x4:=none) (l:=[none,none])
 obtain⟨i,B,E,L,Y,y,H⟩:=g8 (j:=gq (.tup ((t.getD a []).map W.int)) (.tup ((t.getD b []).map W.int)) ((t.getD a []).map W.int).length) (st:=turn (jj 5 6) (zr (Ks (zo zI (zc 4) (zc 5)) (zc 6) (zi (.int 1))) zA)) (N:=t.length)
  (I:=λ n ρ B=>LC K (shr t a b n) B/\∃Y y,ρ=[some (zq t),some (.int (a:Int)),some (.int (b:Int)),some (.int (K:Int)),some (.ref (2 * K)),Y,y])
  (λ n ρ B hn ⟨l,Y,y,H⟩=>by
   subst H;obtain⟨p,q⟩:=Km h g d hn;obtain⟨o,Q⟩:=Km h g c hn;obtain⟨w,e,s⟩:=l.aug (ρ:=[some (zq t),some (.int (a:Int)),some (.int (b:Int)),some (.int (K:Int)),some (.ref (2 * K)),some (.int (at2 t a n)),some (.int (at2 t b n))]) (mo:=zo zI (zc 4) (zc 5)) (mi:=zc 6) (l.ix (zt rfl) (zt (by rw[p];rfl)) q) (zt (by rw[o];rfl)) q Q
   refine⟨.tup [.int (at2 t a n),.int (at2 t b n)],_,w,?_,(wk rfl).trans ((zH e).trans jO),s,_,_,rfl⟩;show some (zip2 ((t.getD a []).map W.int)[n]? ((t.getD b []).map W.int)[n]?)=_;rw[int_at (by rw[h.sq _ (yx d)];exact hn),int_at (by rw[h.sq _ (yx c)];exact hn)]
   rfl)
  (λ ρ B _=>by
   show some (zip2 ((t.getD a []).map W.int)[t.length]? ((t.getD b []).map W.int)[t.length]?)=_;rw[aC (by omega),aC (by omega)]
   rfl) t.length 0 [some (zq t),some (.int (a:Int)),some (.int (b:Int)),some (.int (K:Int)),some (.ref (2 * K)),none,none] C (by omega) ⟨r,_,_,rfl⟩
 subst H;refine Ze (A1:=B) (ZJ t) (ZW _) (qS ?_);unfold Sd;refine(zH (ρ1:=[some (zq t),some (.int (a:Int)),some (.int (b:Int)),some (.int (K:Int)),none,none,none]) (A1:=[]) ((qJ ((zO (zB (zt rfl) zQ)).trans ((W7 h []).trans (by rw[g])))).trans rfl)).trans ?_
 refine(zH (ρ1:=[some (zq t),some (.int (a:Int)),some (.int (b:Int)),some (.int (K:Int)),some (.ref (2 * K)),none,none]) (A1:=C) ((qJ v).trans rfl)).trans ?_;refine(zH (ρ1:=[some (zq t),some (.int (a:Int)),some (.int (b:Int)),some (.int (K:Int)),some (.ref (2 * K)),Y,y]) (A1:=B) ((wH (WH ((zT (zt rfl) (zt rfl)).trans (Kr d)) ((zT (zt rfl) (zt rfl)).trans (Kr c)))).trans ?_)).trans (qG (qZ (L.tup (by omega) rfl)))
 have:(gq (.tup ((t.getD a []).map W.int)) (.tup ((t.getD b []).map W.int)) ((t.getD a []).map W.int).length).len=t.length:=f
 rw[this];exact E
end
section
variable {N:Nat}{w x:W}{a:Ea}{vs:List W}{k:Nat}
theorem AW (s:qX n A)(h0:ρ[0]? =some (some (.ref n)))(H:a ρ A=.ok vs A)(b:vs.length=k)(k1:0<k)(k2:k<1000):∃(w:W) (B:Hx),zo zI (zU a) (zF yk (zh (zc 0) (zh (zi (.int (k:Int))) zm))) ρ A=.ok w B/\w∈vs/\Kn n A B:=by
 have E:=jC H;obtain⟨j,B,e,c,K,_⟩:=Q3 (s.ext (Ext.one (o:=.lst vs))) h0 (jb (w:=.int (k:Int))) (by omega) (by omega)
 have l:=s.lt;have h:j<vs.length:=by omega
 exact⟨vs[j],B,(zT E e).trans (km (K.kp.get qL (by omega)) (ae h)),aP h,(Kn.ext s Ext.one).trans K⟩
def NoN (N:Nat)(w:W):Prop:=(∃ty,∀A,jw w A=some ty)/\¬Ok N w
theorem zcl {a:W}(h:ρ[i]? =some (some a)):kH [i] ρ=some [a]:=by
 unfold kH;rw[h]
 rfl
theorem U2 {a b:W}(H:ρ[i]? =some (some a))(h:ρ[j]? =some (some b)):kH [i,j] ρ=some [a,b]:=by
 unfold kH;rw[H,zcl h]
theorem Jj {l:Nat}{a b c:W}(d:ρ[i]? =some (some a))(H:ρ[j]? =some (some b))(h:ρ[l]? =some (some c)):kH [i,j,l] ρ=some [a,b,c]:=by
 unfold kH;rw[d,U2 H h]
theorem KC {x:Str}{g k:Nat}(H:jS LS k ws A=.exc x A)(h:kS x=some g):RF k ws A=.ok (.ref (A.length+9)) (A++GX g):=GO H h
theorem zcn (A:Hx):zo Qa (zi (.int 10)) (zi (.int 29)) ρ A=.ok (.int (10 ^ 29)) A:=(zT jb jb).trans (by kernel_rfl)
end
def ZO (t:List (List Int))(a b:Nat):List (Int×Int):=(List.range t.length).map λ c=>(at2 t a c,at2 t b c)
def yF (t:List (List Int)):Prop:=∀a b c e,a<t.length->b<t.length->c<t.length->e<t.length->at2 t a b=at2 t c e->(ZO t a b).Perm (ZO t c e)
def zcE (t:List (List Int))(k:Int):Nat:=((List.range (t.length * t.length)).find? λ m=>decide (at2 t (m / t.length) (m % t.length)=k)).getD 0
def VR (t:List (List Int)):Bool:=(List.range t.length).all λ a=>(List.range t.length).all λ b=>let m:=zcE t (at2 t a b);(ZO t a b).isPerm (ZO t (m / t.length) (m % t.length))
theorem Hk (h:VR t=true):yF t:=λ a b c e l j i he g=>by
 unfold VR at h;rw[bC]at h;have f:=h a (qa5.mpr l);rw[bC]at f;have n:=List.isPerm_iff.mp (f b (qa5.mpr j));have d:=h c (qa5.mpr i);rw[bC]at d;have H:=List.isPerm_iff.mp (d e (qa5.mpr he));rw[<- g]at H;exact n.trans H.symm
theorem IS:((List.range 34).all λ i=>VR (Zf (kK i)))=true:=by decide +kernel
theorem Bl {p:List Nat}(b:p.Nodup){u v:Nat}(H:u<=p.length)(h:v<=p.length)(e:(jo p).getD u 0=(jo p).getD v 0):u=v:=by
 by_cases h1:u=0
 ·by_cases a:v=0
  ·omega
  ·exfalso
   subst h1;rw[J5 (v:=v) (by omega) h]at e
   have:(jo p).getD 0 0=0:=rfl
   omega
 ·by_cases a:v=0
  ·exfalso
   subst a;rw[J5 (v:=u) (by omega) H]at e
   have:(jo p).getD 0 0=0:=rfl
   omega
  ·rw[J5 (by omega) H,J5 (by omega) h]at e
   have E:p[u - 1]'(by omega)=p[v - 1]'(by omega):=by omega
   have:=(getElem_inj b).mp E
   omega
section
variable {p o:List Nat}
theorem WO (H:o.Perm (List.range t.length)){a b:Nat}(d:a<t.length)(c:b<t.length):at2 (wM t p o) a b=(jo p).getD (at2 t (o.getD a 0) (o.getD b 0)).toNat 0:=by
 have h:o.length=t.length:=by rw[H.length_eq,aN]
 unfold at2 wM;rw[aa (l:=List.map _ o),ar,ae (by omega)]
 show(List.map _ o).getD b 0=_;rw[aa,ar,ae (by omega)]
 show(jo p).getD (at2 t _ _).toNat 0=_;unfold at2;rw[aa (l:=o) (i:=a),ae (by omega),aa (l:=o) (i:=b),ae (by omega)]
 rfl
theorem Iu (h:qk t)(l:p.Perm (List.range (qB t - 1).toNat))(g:o.Perm (List.range t.length))(s:yF t):yF (wM t p o):=by
 have hlen:=(RZ h l g).2;have u:o.length=t.length:=by rw[g.length_eq,aN]
 have w:p.length=(qB t - 1).toNat:=by rw[l.length_eq,aN]
 have K:=wL h;have n:p.Nodup:=(l.nodup_iff).mpr List.nodup_range;have H:∀i,i<t.length->o.getD i 0<t.length:=λ i y=>by
  rw[aa,ae (by omega)]
  exact qa5.mp (g.mem_iff.mp (aP _))
 have v:∀a b,a<t.length->b<t.length->(at2 t a b).toNat<=p.length/\((at2 t a b).toNat:Int)=at2 t a b:=λ a b f d=>by
  have:=Z5 h f d
  have:=Kk h f d
  omega
 have r:∀a b,a<t.length->b<t.length->(ZO (wM t p o) a b).Perm ((ZO t (o.getD a 0) (o.getD b 0)).map λ q=>((jo p).getD q.1.toNat 0,(jo p).getD q.2.toNat 0)):=λ a b f d=>by
  unfold ZO;rw[hlen,aQ];have x:(List.range t.length).map (λ c=>(at2 (wM t p o) a c,at2 (wM t p o) b c))=(List.range t.length).map λ c=>((jo p).getD (at2 t (o.getD a 0) (o.getD c 0)).toNat 0,(jo p).getD (at2 t (o.getD b 0) (o.getD c 0)).toNat 0):=aZ λ c j=>by
   rw[WO g f (qa5.mp j),WO g d (qa5.mp j)]
  rw[x];have E:=Jz o 0 λ c=>((jo p).getD (at2 t (o.getD a 0) c).toNat 0,(jo p).getD (at2 t (o.getD b 0) c).toNat 0);rw[u]at E;rw[<- E];exact g.map _
 intro a b c e f d j he q;rw[hlen]at f d j he;rw[WO g f d,WO g j he]at q;have k1:=v _ _ (H a f) (H b d);have k2:=v _ _ (H c j) (H e he);have Q:=Bl n k1.1 k2.1 q
 have:=s _ _ _ _ (H a f) (H b d) (H c j) (H e he) (by omega)
 exact(r a b f d).trans ((this.map _).trans (r c e j he).symm)
theorem LR (h:Known t):yF t:=by
 obtain⟨i,p,o,H,a,b,rfl⟩:=h;have s:=qa4.mp IS i (qa5.mpr H);exact Iu (Oo H).1 a b (Hk s)
variable {a b c e K:Nat}
theorem Wx (h:qk t)(d:a<t.length)(H:b<t.length):∀n,n<=t.length->∀i j:Nat,shr t a b n i j=((((List.range n).map λ c=>(at2 t a c,at2 t b c)).count ((i:Int),(j:Int)):Nat):Int)
 |0,_,i,j=>rfl|n+1,hn,i,j=>by
  have I:=Wx h d H n (by omega)
  have k1:=(Z5 h d (show n<t.length by omega)).1
  have k2:=(Z5 h H (show n<t.length by omega)).1
  rw[bB,aU,List.count_append,List.map_singleton,List.count_singleton];show ZH (shr t a b n) (at2 t a n).toNat (at2 t b n).toNat (shr t a b n (at2 t a n).toNat (at2 t b n).toNat+1) i j=_;unfold ZH
  by_cases q:i=(at2 t a n).toNat/\j=(at2 t b n).toNat
  ·rw[ag q,<- q.1,<- q.2,I,ag (by rw[aL];ext<;>simp<;>omega)]
   omega
  ·rw[ak q,I,ak (by
    rw[aL];intro z;injection z with e Z
    exact q ⟨by omega,by omega⟩)]
   omega
theorem P5 (h:qk t)(s:yF t)(f:a<t.length)(d:b<t.length)(H:c<t.length)(he:e<t.length)(q:at2 t a b=at2 t c e):jX t K a b=jX t K c e:=by
 unfold jX jv;refine aZ λ i _=>aZ λ j _=>?_;rw[Wx h f d _ (aw _),Wx h H he _ (aw _)]
 have:=(s a b c e f d H he q).count_eq ((i:Int),(j:Int))
 unfold ZO at this;rw[this]
end
noncomputable def U4 (r:List Int):PyData:=.tuple (r.map .int)
def U8 (t:List (List Int)):PyData:=.tuple (t.map U4)
theorem Vw {f:W->Option PyData}{g:α->W}{h:α->PyData}(e:∀a,f (g a)=some (h a)):∀l:List α,jH f (l.map g)=some (l.map h)
 |[]=>rfl|a::l=>by
  rw[aV,jH,e a,Vw e l]
  rfl
theorem Be (A:Hx)(n:Nat)(r:List Int):qh A (n+1) (zw r)=some (U4 r):=by
 show(jH (qh A n) (r.map W.int)).map PyData.tuple=_;rw[Vw (h:=PyData.int) (λ i=>by cases n<;>rfl)]
 rfl
theorem VG (A:Hx)(n:Nat)(t:List (List Int)):qh A (n+2) (zq t)=some (U8 t):=by
 show(jH (qh A (n+1)) (t.map zw)).map PyData.tuple=_;rw[Vw (h:=U4) (Be A n)]
 rfl
section
variable {a b c e k K:Nat}{w:W}{kvs:List (Key×W)}
theorem Eh (t:List (List Int)):PyData.eqv (U8 t) (U8 t)=true:=SeqAt.eqv_refl _ (Y0 8 _ _ (VG [] 6 t)).1
theorem neT (t:List (List Int))(A:Hx):q9 (zq t) (zq t) A=.ok (.bl false) A:=UO (VG A 6 t) (VG A 6 t) (Eh t)
theorem Ec (H:qk t)(s:yF t)(K:Nat):∃S:Nat->List (List Int),∀a b,a<t.length->b<t.length->jX t K a b=S (at2 t a b).toNat:=by
 classical
 refine⟨λ k=>if h:∃q:Nat×Nat,q.1<t.length/\q.2<t.length/\(at2 t q.1 q.2).toNat=k then jX t K h.choose.1 h.choose.2 else [],λ a b d c=>?_⟩;have x:∃q:Nat×Nat,q.1<t.length/\q.2<t.length/\(at2 t q.1 q.2).toNat=(at2 t a b).toNat:=⟨(a,b),d,c,rfl⟩;dsimp only;rw[dif_pos x];obtain⟨f,e,g⟩:=x.choose_spec;have i:=Z5 H d c;have B:=Z5 H f e;exact P5 H s d c f e (by omega)
theorem Oa {k:Key}:∀{kvs l:List (Key×W)},yh k (kvs++l)=match yh k kvs with|some w=>some w|none=>yh k l
 |[],l=>rfl|(j,w)::r,l=>by
  show(if j=k then some w else yh k (r++l))=match (if j=k then some w else yh k r) with|some w=>some w|none=>yh k l
  by_cases h:j=k
  ·rw[ag h,ag h]
  ·rw[ak h,ak h];exact Oa
theorem PH {k:Key}{w:W}:∀{kvs:List (Key×W)},yh k kvs=some w->(k,w)∈kvs
 |[],h=>by cases h|(j,u)::r,h=>by
  have h:(if j=k then some u else yh k r)=some w:=h
  by_cases q:j=k
  ·rw[ag q]at h;cases h;subst q;exact aE ..
  ·rw[ak q]at h;exact ax _ (PH h)
structure FP (t:List (List Int))(done:Nat->Nat->Prop)(m:Nat)(kvs:List (Key×W)):Prop where
 all:∀p∈kvs,∃a b:Nat,a<t.length/\b<t.length/\p=(.inl (at2 t a b),.tup [.int (a:Int),.int (b:Int)])
 seen:∀a b,a<t.length->b<t.length->done a b->∃w,yh (.inl (at2 t a b)) kvs=some w
 len:kvs.length<=m
theorem FP.step {d d':Nat->Nat->Prop}{m:Nat}{x3:Option W}(h:FP t d m kvs)(i:a<t.length)(g:b<t.length)(hd:∀x y,d' x y->d x y∨(x=a/\y=b))(hm:m<100):
  ∃w K,Yf ZX (zc 1) (zc 5) (zC (zh (zc 2) (zh (zc 4) zm))) [some (zq t),some (.ref 0),some (.int (a:Int)),x3,some (.int (b:Int)),some (.int (at2 t a b))] [.dct kvs]=.ok w [.dct K]/\FP t d' (m+1) K:=by
 have l:=h.len;have e0:Yf ZX (zc 1) (zc 5) (zC (zh (zc 2) (zh (zc 4) zm))) [some (zq t),some (.ref 0),some (.int (a:Int)),x3,some (.int (b:Int)),some (.int (at2 t a b))] [.dct kvs]=ZX (.ref 0) (.int (at2 t a b)) (.tup [.int (a:Int),.int (b:Int)]) [.dct kvs]:=rfl;rw[e0];unfold ZX;show ∃w K,(if kvs.length<zX then(match yh (.inl (at2 t a b)) kvs with|some w=>R.ok w [.dct kvs] | none=>.ok (.tup [.int (a:Int),.int (b:Int)]) [O.dct (kvs++[((Sum.inl (at2 t a b):Key),W.tup [.int (a:Int),.int (b:Int)])])]) else .bad)=.ok w [.dct K]/\FP t d' (m+1) K
 rw[ag (by unfold zX;omega)]
 cases v:yh (.inl (at2 t a b)) kvs with
 |some w=>
  refine⟨w,kvs,rfl,h.all,λ x y f e H=>?_,by omega⟩
  rcases hd x y H with z|⟨rfl,rfl⟩
  ·exact h.seen x y f e z
  ·exact⟨w,v⟩
 |none=>
  refine⟨_,_,rfl,λ p c=>?_,λ x y f e H=>?_,by rw[ay,aR];omega⟩
  ·rcases qa8.mp c with c|c
   ·exact h.all p c
   ·rw[qa7.mp c];exact⟨a,b,i,g,rfl⟩
  ·rw[Oa]
   rcases hd x y H with z|⟨rfl,rfl⟩
   ·obtain⟨w,hw⟩:=h.seen x y f e z
    rw[hw];exact⟨w,rfl⟩
   ·rw[v];exact⟨.tup [.int (x:Int),.int (y:Int)],by show(if _ then _ else _)=_;rw[ag rfl]⟩
theorem Ou {f:Fn}{us:List W}{k:Nat}(hn:qY us=true)(h:f us []=.ok (.ref k) A1)(H:A1[k]? =some (.dct kvs))(hw:qY (kvs.map (·.2))=true):iso f us A=.ok (.ref A.length) (A++[.dct kvs]):=by
 unfold iso;rw[ag hn,h];dsimp only;rw[H];dsimp only;rw[ag hw]
theorem Oh (C:qk t):∃kvs,XX [zq t] []=.ok (.ref 0) [.dct kvs]/\FP t (λ _ _=>True) 64 kvs:=by
 have n8:=C.n8;have f:(t.map zw).length=t.length:=ai ..;obtain⟨o,B,e,kvs,g,hf,u,s,d,Y,H⟩:=g8 (j:=kA (zq t) t.length) (st:=turn (jj 2 3) (zr (yv (kT (zc 3)) (jj 4 5) (zr (jx (Yf ZX (zc 1) (zc 5) (zC (zh (zc 2) (zh (zc 4) zm))))) zA)) zA)) (N:=t.length)
  (I:=λ a ρ B=>∃kvs,B=[.dct kvs]/\FP t (λ x _=>x<a) (a * 8) kvs/\∃u s d Y,ρ=[some (zq t),some (.ref 0),u,s,d,Y])
  (λ a ρ B z ⟨kvs,g,hf,u,s,d,Y,H⟩=>by
   subst g H;have v:=C.sq _ (yx z);have n:((t.getD a []).map W.int).length=t.length:=by rw[ai,v]
   obtain⟨o,B,e,K,g,c,r,q,H⟩:=g8 (j:=kA (.tup ((t.getD a []).map W.int)) ((t.getD a []).map W.int).length) (st:=turn (jj 4 5) (zr (jx (Yf ZX (zc 1) (zc 5) (zC (zh (zc 2) (zh (zc 4) zm))))) zA)) (N:=t.length)
    (I:=λ b ρ B=>∃kvs,B=[.dct kvs]/\FP t (λ x y=>x<a∨(x=a/\y<b)) (a * 8+b) kvs/\∃d Y,ρ=[some (zq t),some (.ref 0),some (.int (a:Int)),some (zw (t.getD a [])),d,Y])
    (λ b ρ B E ⟨kvs,g,hf,d,Y,H⟩=>by
     subst g H;obtain⟨w,K,e,c⟩:=hf.step (a:=a) (b:=b) (d':=λ x y=>x<a∨(x=a/\y<b+1)) (x3:=some (zw (t.getD a []))) z E (λ x y h=>by omega) (by omega)
     exact⟨_,_,[.dct K],Yl (int_at (by omega)),(wk rfl).trans ((zH (yd e)).trans jO),K,rfl,c,_,_,rfl⟩)
    (λ ρ B _=>by have:=Yb (A:=B) (ws:=(t.getD a []).map W.int);rw[n]at this ⊢;exact this) t.length 0 [some (zq t),some (.ref 0),some (.int (a:Int)),some (zw (t.getD a [])),d,Y] [.dct kvs] (by omega)
    ⟨kvs,rfl,⟨hf.all,λ x y i l h=>hf.seen x y i l (by omega),by have:=hf.len;omega⟩,_,_,rfl⟩
   subst g H;refine⟨.tup [.int (a:Int),zw (t.getD a [])],[some (zq t),some (.ref 0),some (.int (a:Int)),some (zw (t.getD a [])),r,q],[.dct K],?_,(wk (ρ1:=[some (zq t),some (.ref 0),some (.int (a:Int)),some (zw (t.getD a [])),d,Y]) rfl).trans ((zH ((wH (JL (zt rfl))).trans ?_)).trans jO),K,rfl,⟨c.all,λ x y i l h=>c.seen x y i l (by omega),by have:=c.len;omega⟩,_,_,_,_,rfl⟩
   ·have:=Yl (A:=[O.dct kvs]) (Yh z)
    rw[f]at this;exact this
   ·have:(kA (.tup ((t.getD a []).map W.int)) ((t.getD a []).map W.int).length).len=t.length:=n
    rw[this];exact e)
  (λ ρ B _=>by have:=Yb (A:=B) (ws:=t.map zw);rw[f]at this;exact this) t.length 0 [some (zq t),some (.ref 0),none,none,none,none] [.dct []] (by omega)
  ⟨[],rfl,⟨λ p D=>(by cases D),λ x y _ _ h=>absurd h (bq _),zero_le _⟩,_,_,_,_,rfl⟩
 subst g H;refine⟨kvs,qS ?_,hf.all,λ x y i l _=>hf.seen x y i l i,by have:=hf.len;omega⟩
 unfold SD;refine(zH (ρ1:=[some (zq t),some (.ref 0),none,none,none,none]) (A1:=[.dct []]) ((qJ (w:=.ref 0) (A1:=[.dct []]) rfl).trans rfl)).trans ?_;have hm:kT (zc 0) [some (zq t),some (.ref 0),none,none,none,none] [.dct []]=.ok (kA (zq t) t.length) [.dct []]:=by
  have:=JL (m:=zc 0) (ρ:=[some (zq t),some (.ref 0),none,none,none,none]) (A:=[.dct []]) (A1:=[.dct []]) (ws:=t.map zw) (zt rfl)
  rw[f]at this;exact this
 exact(zH ((wH hm).trans e)).trans (qG (qZ (zt rfl)))
theorem FP.nr {d:Nat->Nat->Prop}{m:Nat}(h:FP t d m kvs):qY (kvs.map (·.2))=true:=by
 have:∀l:List (Key×W),(∀p∈l,p.2.nr=true)->qY (l.map (·.2))=true:=by
  intro l
  induction l with
  |nil=>intro _;rfl|cons p l i=>
   intro H;show(p.2.nr&&qY (l.map (·.2)))=true;rw[H p (aE ..),i λ q c=>H q (ax _ c)]
   rfl
 refine this kvs λ p H=>?_;obtain⟨a,b,_,_,rfl⟩:=h.all p H
 rfl
theorem FP.get {m:Nat}(h:FP t (λ _ _=>True) m kvs)(d:qk t)(n:qB t=(K:Int))(l:k<K):∃a b:Nat,a<t.length/\b<t.length/\at2 t a b=(k:Int)/\yh (.inl (k:Int)) kvs=some (.tup [.int (a:Int),.int (b:Int)]):=by
 obtain⟨a,b,g,f,e⟩:=Gu d (v:=k) (by omega)
 obtain⟨w,hw⟩:=h.seen a b g f trivial;rw[e]at hw;obtain⟨A,B,c,H,j⟩:=h.all _ (PH hw);injection j with E i
 injection E with E
 exact⟨A,B,c,H,E.symm,by rw[hw,i]⟩
theorem Eb (n:qk t)(s:yF t)(A:Hx):Wf [zq t] A=.ok .non A:=by
 have n8:=n.n8;have X:=wL n;have o:(t.map zw).length=t.length:=ai ..;obtain⟨K,Q⟩:=aS (show 0<=qB t by omega)
 obtain⟨kvs,T,hf⟩:=Oh n;obtain⟨r,B,e,H,E,D,C,v,f,d,Y,y,h⟩:=g8 (j:=KJ kvs) (st:=turn (Gr 1 2 3) (zr (zY 4 (zF Zs (zh (zc 0) (zh (zc 2) (zh (zc 3) zm))))) (zr (yv (kT (zc 0)) (jj 5 6) (zr (yv (kT (zc 6)) (jj 7 8) (zr (qM (ka (zo jn (zc 8) (zc 1)) (zo q9 (zF Zs (zh (zc 0) (zh (zc 5) (zh (zc 7) zm)))) (zc 4))) (zr (qd (zC (zh (zc 2) (zh (zc 3) (zh (zc 5) (zh (zc 7) zm)))))) zA) zA) zA)) zA)) zA))) (N:=kvs.length)
  (I:=λ _ ρ B=>B=[]/\∃E D C v f d Y y,ρ=[some (zq t),E,D,C,v,f,d,Y,y])
  (λ i ρ B L ⟨H,E,D,C,v,f,d,Y,y,h⟩=>by
   subst H h;obtain⟨a,b,P,M,S⟩:=hf.all kvs[i] (aP L);obtain⟨r,B,e,H,z,x,l,g,h⟩:=g8 (j:=kA (zq t) t.length) (st:=turn (jj 5 6) (zr (yv (kT (zc 6)) (jj 7 8) (zr (qM (ka (zo jn (zc 8) (zc 1)) (zo q9 (zF Zs (zh (zc 0) (zh (zc 5) (zh (zc 7) zm)))) (zc 4))) (zr (qd (zC (zh (zc 2) (zh (zc 3) (zh (zc 5) (zh (zc 7) zm)))))) zA) zA) zA)) zA)) (N:=t.length)
    (I:=λ _ ρ B=>B=[]/\∃f d Y y,ρ=[some (zq t),some (.int (at2 t a b)),some (.int (a:Int)),some (.int (b:Int)),some (zq (jX t K a b)),f,d,Y,y])
    (λ c ρ B w ⟨H,f,d,Y,y,h⟩=>by
     subst H h;have J:=n.sq _ (yx w);have u:((t.getD c []).map W.int).length=t.length:=by rw[ai,J]
     obtain⟨r,B,e,H,l,g,h⟩:=g8 (j:=kA (.tup ((t.getD c []).map W.int)) ((t.getD c []).map W.int).length) (st:=turn (jj 7 8) (zr (qM (ka (zo jn (zc 8) (zc 1)) (zo q9 (zF Zs (zh (zc 0) (zh (zc 5) (zh (zc 7) zm)))) (zc 4))) (zr (qd (zC (zh (zc 2) (zh (zc 3) (zh (zc 5) (zh (zc 7) zm)))))) zA) zA) zA)) (N:=t.length)
      (I:=λ _ ρ B=>B=[]/\∃Y y,ρ=[some (zq t),some (.int (at2 t a b)),some (.int (a:Int)),some (.int (b:Int)),some (zq (jX t K a b)),some (.int (c:Int)),some (zw (t.getD c [])),Y,y])
      (λ e ρ B he ⟨H,Y,y,h⟩=>by
       subst H h;have eq:=(zT (ρ:=[some (zq t),some (.int (at2 t a b)),some (.int (a:Int)),some (.int (b:Int)),some (zq (jX t K a b)),some (.int (c:Int)),some (zw (t.getD c [])),some (.int (e:Int)),some (.int (at2 t c e))]) (A:=[]) (zt (i:=8) rfl) (zt (i:=1) rfl)).trans (Jt (at2 t c e) (at2 t a b) []);have test:ka (zo jn (zc 8) (zc 1)) (zo q9 (zF Zs (zh (zc 0) (zh (zc 5) (zh (zc 7) zm)))) (zc 4)) [some (zq t),some (.int (at2 t a b)),some (.int (a:Int)),some (.int (b:Int)),some (zq (jX t K a b)),some (.int (c:Int)),some (zw (t.getD c [])),some (.int (e:Int)),some (.int (at2 t c e))] []=.ok (.bl false) []:=by
        by_cases q:at2 t c e=at2 t a b
        ·rw[aJ q]at eq
         refine(Zy eq).trans ((zT ((zO (zB (zt rfl) (zB (zt rfl) (zB (zt rfl) zQ)))).trans (Vk n Q w he [])) (zt rfl)).trans ?_);rw[P5 (K:=K) n s w he P M q];exact neT _ _
        ·rw[aK q]at eq
         exact Q7 eq
       exact⟨_,_,[],Yl (int_at (by omega)),(wk rfl).trans ((zH ((yr test).trans jO)).trans jO),rfl,_,_,rfl⟩)
      (λ ρ B _=>by have:=Yb (A:=B) (ws:=(t.getD c []).map W.int);rw[u]at this ⊢;exact this) t.length 0 [some (zq t),some (.int (at2 t a b)),some (.int (a:Int)),some (.int (b:Int)),some (zq (jX t K a b)),some (.int (c:Int)),some (zw (t.getD c [])),Y,y] [] (by omega) ⟨rfl,_,_,rfl⟩
     subst H h;refine⟨.tup [.int (c:Int),zw (t.getD c [])],[some (zq t),some (.int (at2 t a b)),some (.int (a:Int)),some (.int (b:Int)),some (zq (jX t K a b)),some (.int (c:Int)),some (zw (t.getD c [])),l,g],[],?_,(wk (ρ1:=[some (zq t),some (.int (at2 t a b)),some (.int (a:Int)),some (.int (b:Int)),some (zq (jX t K a b)),some (.int (c:Int)),some (zw (t.getD c [])),Y,y]) rfl).trans ((zH ((wH (JL (zt rfl))).trans ?_)).trans jO),rfl,_,_,_,_,rfl⟩
     ·have:=Yl (A:=[]) (Yh w)
      rw[o]at this;exact this
     ·have:(kA (.tup ((t.getD c []).map W.int)) ((t.getD c []).map W.int).length).len=t.length:=u
      rw[this];exact e)
    (λ ρ B _=>by have:=Yb (A:=B) (ws:=t.map zw);rw[o]at this;exact this) t.length 0 [some (zq t),some (.int (at2 t a b)),some (.int (a:Int)),some (.int (b:Int)),some (zq (jX t K a b)),f,d,Y,y] [] (by omega) ⟨rfl,_,_,_,_,rfl⟩
   subst H h;have hm:kT (zc 0) [some (zq t),some (.int (at2 t a b)),some (.int (a:Int)),some (.int (b:Int)),some (zq (jX t K a b)),f,d,Y,y] []=.ok (kA (zq t) t.length) []:=by
    have:=JL (m:=zc 0) (ρ:=[some (zq t),some (.int (at2 t a b)),some (.int (a:Int)),some (.int (b:Int)),some (zq (jX t K a b)),f,d,Y,y]) (A:=[]) (A1:=[]) (ws:=t.map zw) (zt rfl)
    rw[o]at this;exact this
   refine⟨.tup [.int (at2 t a b),.tup [.int (a:Int),.int (b:Int)]],[some (zq t),some (.int (at2 t a b)),some (.int (a:Int)),some (.int (b:Int)),some (zq (jX t K a b)),z,x,l,g],[],?_,(wk (ρ1:=[some (zq t),some (.int (at2 t a b)),some (.int (a:Int)),some (.int (b:Int)),v,f,d,Y,y]) rfl).trans ?_,rfl,_,_,_,_,_,_,_,_,rfl⟩
   ·show some (kvs[i]?.map λ p=>W.tup [kW p.1,p.2])=_
    rw[ae L,S]
    rfl
   ·exact(zH (ρ1:=[some (zq t),some (.int (at2 t a b)),some (.int (a:Int)),some (.int (b:Int)),some (zq (jX t K a b)),f,d,Y,y]) (A1:=[]) ((qJ ((zO (zB (zt rfl) (zB (zt rfl) (zB (zt rfl) zQ)))).trans (Vk n Q P M []))).trans rfl)).trans ((zH ((wH hm).trans e)).trans jO))
  (λ ρ B _=>by
   show some (kvs[kvs.length]?.map λ p=>W.tup [kW p.1,p.2])=_;rw[aC (aw _)]
   rfl) kvs.length 0 [some (zq t),none,none,none,none,none,none,none,none] [] (by omega) ⟨rfl,_,_,_,_,_,_,_,_,rfl⟩
 subst H h;refine Ze (A1:=[]) (ZJ t) rfl (qS ?_);unfold Sa;have hit:Ko (zF JB (zh (zc 0) zm)) [some (zq t),none,none,none,none,none,none,none,none] []=.ok (KJ kvs) []:=by
  unfold Ko;dsimp only;have U:zF JB (zh (zc 0) zm) [some (zq t),none,none,none,none,none,none,none,none] []=.ok (.ref 0) [.dct kvs]:=(zO (zB (zt rfl) zQ)).trans (Ou (ZJ t) T rfl hf.nr);rw[U,zP];exact ag hf.nr
 exact(zH ((wH hit).trans e)).trans (qG (qZ jb))
theorem R6 {S:Nat->List (List Int)}(H:qk t)(e:qB t=(K:Int))(l:∀a b,a<t.length->b<t.length->jX t K a b=S (at2 t a b).toNat)(A:Hx):Wi [zq t] A=.ok (.ref A.length) (A++[.lst ((List.range K).map λ k=>zq (S k))]):=by
 have n8:=H.n8;have B:=wL H;obtain⟨kvs,r,hf⟩:=Oh H;have ch:∀k:Nat,∃q:Nat×Nat,k<K->q.1<t.length/\q.2<t.length/\at2 t q.1 q.2=(k:Int)/\yh (.inl (k:Int)) kvs=some (.tup [.int (q.1:Int),.int (q.2:Int)]):=λ k=>by
  by_cases j:k<K
  ·obtain⟨a,b,d,c,f,o⟩:=hf.get H e j
   exact⟨(a,b),λ _=>⟨d,c,f,o⟩⟩
  ·exact⟨(0,0),λ z=>absurd z j⟩
 obtain⟨fp,p⟩:=Classical.axiomOfChoice ch;have y:zF JB (zh (zc 0) zm) [some (zq t),none,none] []=.ok (.ref 0) [.dct kvs]:=(zO (zB (zt rfl) zQ)).trans (Ou (ZJ t) r rfl hf.nr);have hm:=gD (m:=zF JA (zh (zc 0) zm)) (ρ:=[some (zq t),some (.ref 0),none]) (A:=[.dct kvs]) (A1:=[.dct kvs]) (k:=(K:Int)) ((zO (zB (zt rfl) zQ)).trans ((W7 H _).trans (by rw[e]))) (wX (by omega))
 rw[az]at hm;have x:=g9 (cap:=[1]) (me:=zo GI (zc 1) (zc 0)) (ρ:=[some (zq t),some (.ref 0),none]) (A:=[.dct kvs]) (N:=K) (item:=λ i=>.int (0+(i:Int))) (g:=λ k=>.tup [.int ((fp k).1:Int),.int ((fp k).2:Int)]) hm rfl (by unfold zX;omega) (λ i h=>w9 h) (wZ (by omega)) (λ i h=>by
  refine(zT (zt (i:=1) (w:=.ref 0) rfl) (zt (i:=0) (w:=.int (0+(i:Int))) rfl)).trans ?_;rw[bz];show(match yh (.inl (i:Int)) kvs with|some w=>R.ok w [.dct kvs] | none=>.bad)=_
  rw[(p i h).2.2.2])
 have E:=wG x;have s:=X7 (A:=[.dct kvs]++[.lst ((List.range K).map λ k=>.tup [.int ((fp k).1:Int),.int ((fp k).2:Int)])]) (cap:=[0]) (ρ:=[some (zq t),some (.ref 0),some (.ref 1)]) (me:=zF Zs (zh (zc 2) (zh (zc 0) (zh (zc 1) zm)))) (mi:=qC (zc 2)) (N:=K) (u:=λ k=>.int ((fp k).1:Int)) (v:=λ k=>.int ((fp k).2:Int)) (g:=λ k=>zq (S k)) (Q5 (n:=1) (zt rfl) rfl) (by show((List.range K).map _).length=K;rw[ai,aN]) (by omega)
  (λ i h=>Kj (n:=1) rfl (by rw[ar,aO h];rfl))
  (Gv (n:=1) rfl (by rw[ai,aN];exact aw _))
  (λ i h=>by
   obtain⟨d,c,f,_⟩:=p i h;refine(zO (ws:=[zq t,.int ((fp i).1:Int),.int ((fp i).2:Int)]) (zB (zt rfl) (zB (zt rfl) (zB (zt rfl) zQ)))).trans ((Vk H e d c _).trans ?_);rw[l _ _ d c,f,az])
 refine Cu (k:=2) (A1:=[.dct kvs]++[.lst ((List.range K).map λ k=>.tup [.int ((fp k).1:Int),.int ((fp k).2:Int)])]++[.lst ((List.range K).map λ k=>zq (S k))]) (ZJ t) (qS ?_) rfl (W8 (λ _=>ZW _) _);unfold Sw;refine(zH (ρ1:=[some (zq t),some (.ref 0),none]) (A1:=[.dct kvs]) ((qJ y).trans rfl)).trans ?_;refine(zH (ρ1:=[some (zq t),some (.ref 0),some (.ref 1)]) (A1:=[.dct kvs]++[.lst ((List.range K).map λ k=>.tup [.int ((fp k).1:Int),.int ((fp k).2:Int)])]) ((qJ E).trans rfl)).trans ?_;exact qG (qZ (wG s))
variable {y:W}
theorem Z2 (h:qk t)(s:yF t)(A:Hx):Qn [zq t] A=.ok .non A:=by
 refine VW (ρ:=[some (zq t)]) ?_;unfold K8;exact(zH (yd ((zO (zB (zt rfl) zQ)).trans (R3 h A)))).trans ((zH ((yr (wJ ((zT ((zO (zB (zt rfl) zQ)).trans (Eb h s A)) jb).trans rfl))).trans jO)).trans jO)
theorem Ut (h:wc A w):Qn [w] A=.exc "NoTable" A:=by
 refine kP ?_;unfold K8;exact yR (gE ((zO (zB (zt rfl) zQ)).trans (H9 h)))
def YD (t:List (List Int)):Prop:=qk t/\∃ws,XG [zq t] []=.ok (.tup ws) []/\qY ws=true
theorem V9 (h:YD t)(A:Hx):Qn [zq t] A=.exc "NotSteady" A:=by
 obtain⟨H,ws,e,hn⟩:=h;have E:Wf [zq t] A=.ok (.tup ws) A:=Ze (A1:=[]) (ZJ t) hn e;refine kP ?_;unfold K8;exact(zH (yd ((zO (zB (zt rfl) zQ)).trans (R3 H A)))).trans (yR ((Zg (wJ ((zT ((zO (zB (zt rfl) zQ)).trans E) jb).trans rfl))).trans (yR rfl)))
noncomputable def jq:Nat->List (List Int)
 |0=>[[0,1,2],[1,0,1],[2,1,0]]|1=>[[0,1,2,2],[1,0,1,2],[2,1,0,1],[2,2,1,0]]|_=>[[0,1,1,2],[1,0,2,2],[1,2,0,2],[2,2,2,0]]
theorem V4 (i:Nat):YD (jq i):=by
 have h:∀i,i<3->YD (jq i):=λ i H=>by
  have c:i=0∨i=1∨i=2:=by omega
  rcases c with rfl|rfl|rfl
  ·exact⟨Gg (by decide +kernel),[.int 0,.int 0,.int 1,.int 1],by kernel_rfl,rfl⟩
  ·exact⟨Gg (by decide +kernel),[.int 0,.int 0,.int 1,.int 1],by kernel_rfl,rfl⟩
  ·exact⟨Gg (by decide +kernel),[.int 0,.int 0,.int 1,.int 1],by kernel_rfl,rfl⟩
 match i with
 |0=>exact h 0 (by decide)|1=>exact h 1 (by decide)|n+2=>exact h 2 (by decide)
theorem Af (s:qX n A):∃i B,QO [.ref n] A=.ok (zq (jq i)) B/\Kn n A B:=by
 have H:=s.lt;unfold QO Xz;have s1:=s.ext (Ext.one (o:=.lst [zq (jq 0),zq (jq 1),zq (jq 2)]));obtain⟨j,B,e,a,K,_⟩:=Q3 (ρ:=[some (.ref n),some (.ref A.length)]) s1 rfl (jb (w:=.int 3)) (by omega) (by omega)
 have h:j<3:=by omega
 refine⟨j,B,qS ?_,(Kn.ext s Ext.one).trans K⟩;unfold TZ;refine(zH (ρ1:=[some (.ref n),some (.ref A.length)]) (A1:=A++[.lst [zq (jq 0),zq (jq 1)]]) rfl).trans ?_;refine(zH (ρ1:=[some (.ref n),some (.ref A.length)]) (A1:=A++[.lst [zq (jq 0),zq (jq 1),zq (jq 2)]]) (yd (w:=.non) ?_)).trans ?_
 ·refine(QY (y:=zq (jq 2)) (zt rfl) qL rfl).trans ((YU qL (by simp)).trans ?_)
  rw[set_append_right _ _ (aw _),sub_self]
  rfl
 refine qG (qZ ((zT (zt rfl) e).trans (km (K.kp.get qL (by omega)) ?_)))
 have c:j=0∨j=1∨j=2:=by omega
 rcases c with rfl|rfl|rfl<;>rfl
end
end G
namespace Mi
open PySem L2
def TE (m:Ev)(ρ:En)(ws:List W):Prop:=∀A,m ρ A=.ok (.tup ws) A
section
variable {m m':Ev}{xs ys:List W}{pl pu:Po}{l u:Option Int}
theorem Gm (h:TE m ρ xs)(h':TE m' ρ ys)(H:xs.length+ys.length<=1000):TE (zo qx m m') ρ (xs++ys):=λ A=>(zT (h A) (h' A)).trans (by
 unfold qx;dsimp only;rw[ag (by unfold zX;omega)])
theorem zaj {A2 a:Hx}(h:m ρ A=.ok (.tup xs) A1)(b:pl ρ A1=.ok l A2)(H:pu ρ A2=.ok u a):wu m pl pu ρ A=.ok (.tup (wz xs l u)) a:=by
 unfold wu;rw[h,zP,b,zP,H,zP]
theorem Uc (h:TE m ρ xs)(a:∀A,pl ρ A=.ok l A)(H:∀A,pu ρ A=.ok u A):TE (wu m pl pu) ρ (wz xs l u):=λ A=>zaj (h A) (a A) (H A)
theorem Ux {w:W}(h:∀A,m ρ A=.ok w A):TE (zC (zh m zm)) ρ [w]:=λ A=>Kg (zB (h A) zQ)
theorem W4 {x:W}(h:x∈wz xs l u):x∈xs:=List.mem_of_mem_drop (List.mem_of_mem_take h)
theorem VH:(wz xs l u).length<=xs.length:=by
 unfold wz;rw[bt,bL];omega
end
end Mi
namespace G
open PySem L2 Mi
section
variable {K:Nat}{C:Hx}{w x z:W}{r:List Int}
theorem F1 (l:ws.length<=100)(hw:∀x∈ws,∃ty,jw x A=some ty):gB [.tup ws,.int (K:Int)] A=.ok (.bl (decide (ws.length=K)&&ws.all ZK)) A:=by
 unfold gB JE;refine qS ?_;unfold YR;refine qG (qZ ?_);refine(Zy (A1:=A) rfl).trans ?_;have e:=Kv (ws:=ws) (ρ:=[some (.tup ws),some (.int (K:Int))]) (i:=0) (A:=A) rfl;have eq:zo jn (mQ qy (qf (zc 0))) (zc 1) [some (.tup ws),some (.int (K:Int))] A=.ok (.bl (decide (ws.length=K))) A:=(zT e (zt (i:=1) rfl)).trans ((Jt _ _ _).trans (by congr 2;exact decide_eq_decide.mpr ⟨λ z=>by omega,λ z=>by omega⟩))
 by_cases q:ws.length=K
 ·rw[aJ q]at eq ⊢
  refine(Zy eq).trans ?_;have E:=Y4 (cap:=[]) (A:=A) (ρ:=[some (.tup ws),some (.int (K:Int))]) (ws:=ws) (me:=zF Zv (zh (zc 0) zm)) (g:=λ w=>.bl (ZK w)) (zt (i:=0) rfl) (by unfold zX;omega) (λ w H=>by
   obtain⟨ty,h⟩:=hw w H;exact(zO (ws:=[w]) (A1:=A) rfl).trans (Ov h))
  refine(yA E).trans ?_;rw[Bool.true_and];unfold QJ QH;rw[Vt];show R.ok (W.bl ((ws.map ZK).all id)) A=_;rw[all_map]
  rfl
 ·rw[aK q]at eq ⊢
  exact Q7 eq
theorem E2 (h:r.length<=8)(A:Hx):gB [zw r,.int (r.length:Int)] A=.ok (.bl true) A:=P7 h A
def wA (K:Nat)(A:Hx)(w:W):Prop:=∀B,Ky A B->gB [w,.int (K:Int)] B=.ok (.bl false) B
theorem wA.mono (k:Ky A B)(h:wA K A w):wA K B w:=λ C q=>h C (k.trans q)
theorem Vy {ty:Ty}(h:jw w A=some ty)(hn:ty≠.tup):wA K A w:=λ B k=>by
 unfold gB JE;refine qS ?_;unfold YR;exact qG (qZ (Q7 ((Jf (zt rfl) (k _ _ h)).trans (by rw[Nv hn]))))
theorem EC (l:ws.length<=100)(hw:∀x∈ws,∃ty,jw x A=some ty)(h:ws.length≠K∨∃x∈ws,ZK x=false):wA K A (.tup ws):=λ B k=>by
 rw[F1 l λ x H=>(hw x H).imp λ ty e=>k _ _ e]
 congr 2
 rcases h with h|⟨x,H,e⟩
 ·rw[aK h];rfl
 ·have:ws.all ZK=false:=by
   rw[List.all_eq_false];exact⟨x,H,by rw[e];simp⟩
  rw[this,Bool.and_false]
theorem QI (h:qk t)(H:qB t=(r.length:Int))(A:Hx):QQ [zq t,zw r] A=.ok .non A:=by
 have K:=wL h;refine VW (ρ:=[some (zq t),some (zw r)]) ?_;unfold XO;exact(zH ((yr (wJ (kR (k:=true) ((zO (zB (zt rfl) (zB ((zO (zB (zt rfl) zQ)).trans (W7 h A)) zQ))).trans (by rw[H];exact E2 (by omega) A))))).trans jO)).trans jO
theorem KL (H:qk t)(a:qB t=(K:Int))(h:wA K A w):QQ [zq t,w] A=.exc "NoMix" A:=by
 refine kP ?_;unfold XO;exact yR ((Zg (wJ (kR (k:=false) ((zO (zB (zt rfl) (zB ((zO (zB (zt rfl) zQ)).trans (W7 H A)) zQ))).trans (by rw[a];exact h A λ _ _ z=>z))))).trans (yR rfl))
def Sm (r:List Int):Prop:=∀v∈r,-1000000000000000<v/\v<1000000000000000
theorem za0 (s:qX 0 [o])(z:K<=8):∃r B,Ww [.ref 0,.int K] [o]=.ok (zw r) B/\qX 0 B/\r.length=K/\Sm r:=by
 unfold Ww;unfold RN;obtain⟨j,w,l,E,x,hw,s1⟩:=QV (k:=4) (ρ:=[some (.ref 0),some (.int (K:Int)),none]) (a:=zh (zi (.int 3)) (zh (zi (.int 7)) (zh (zi (.int 2000)) (zh (zo Qa (zi (.int 10)) (zi (.int 12))) zm)))) (vs:=[.int 3,.int 7,.int 2000,.int 1000000000000]) s rfl (λ _=>by kernel_rfl) rfl (by decide) (by decide)
 obtain⟨f,f1,f2,rfl⟩:∃f:Int,0<f/\f<1000000000000000/\w=.int f:=by
  have:j=0∨j=1∨j=2∨j=3:=by omega
  rcases this with rfl|rfl|rfl|rfl<;>cases hw
  ·exact⟨_,by decide,by decide,rfl⟩
  ·exact⟨_,by decide,by decide,rfl⟩
  ·exact⟨_,by decide,by decide,rfl⟩
  ·exact⟨_,by decide,by decide,rfl⟩
 have hm:=gD (m:=zc 1) (ρ:=[some (.ref 0),some (.int (K:Int)),some (.int f)]) (A:=l::([]++[.lst [.int 3,.int 7,.int 2000,.int 1000000000000]])) (k:=(K:Int)) rfl (wX (by omega))
 rw[az]at hm;obtain⟨g,acc,B,e,⟨y,H⟩,⟨r,d,c,b⟩,sB⟩:=YV (nl:=1) (cap:=[0,2]) (tw:=zN 0) (ifs:=zi (.bl true)) (em:=zK (zo wy (zF yk (zh (zc 1) (zh (zc 2) zm))) (zo gH (zc 2) (zi (.int 2))))) (N:=K)
  (I:=λ i ρ acc C=>(∃y,ρ=[y,some (.ref 0),some (.int f)])/\(∃r:List Int,acc=r.map W.int/\r.length=i/\Sm r)/\qX 0 C) hm rfl
  (λ i ρ acc C p ⟨⟨y,H⟩,⟨r,d,c,b⟩,S⟩=>by
   subst H d;obtain⟨q,t,e,u,n,_⟩:=Nm S f1 f2;refine⟨_,_,w9 p,rfl,.inl ⟨C,_,_,t,rfl,Y5 (y:=.int ((q:Int) - f / 2)) ?_ (by rw[ai];unfold zX;omega),⟨_,rfl⟩,⟨r++[(q:Int) - f / 2],by rw[aU];rfl,by rw[ay,c];rfl,λ v h=>by
    rcases qa8.mp h with h|h
    ·exact b v h
    ·rw[qa7.mp h];omega⟩,n.st⟩⟩
   exact(zT ((zO (zB (zt rfl) (zB (zt rfl) zQ))).trans e) ((zT (zt rfl) jb).trans (V8 (by decide) (by decide)))).trans rfl)
  (λ ρ acc C _=>wZ (by omega)) ⟨⟨none,rfl⟩,⟨[],rfl,rfl,λ v h=>(by cases h)⟩,s1⟩
 subst d;exact⟨r,B,qS ((zH ((qJ E).trans rfl)).trans (qG (qZ (Zc e)))),sB,c,b⟩
theorem Np (s:qX n A)(l:K<=8):∃r B,ZS [.ref n,.int K] A=.ok (zw r) B/\r.length=K/\Sm r/\Kn n A B:=by
 obtain⟨c,b,a,i,j⟩:=s;have hm:=wY a;obtain⟨r,A1,e,⟨C,d,E,h,H⟩,g,f⟩:=za0 (o:=.lst [.int c,.bl b]) (K:=K) ⟨c,b,rfl,i,j⟩ l;refine⟨r,A.set n (.lst [.int C,.bl d]),?_,g,f,⟨Kp.set,C,d,aG hm,h,H⟩⟩;unfold ZS;exact OP a rfl e E (w5 r)
end
section
variable {K:Nat}{C:Hx}{w:W}{r:List Int}
def EM (K:Nat)(C:Hx)(m:Ev)(ρ:En):Prop:=∀A,Ext C A->∃w A1,m ρ A=.ok w A1/\Ext A A1/\wA K A1 w
def AM (K:Nat)(C:Hx)(a:Ea)(ρ:En)(k:Nat):Prop:=∀A,Ext C A->∃ws A1,a ρ A=.ok ws A1/\Ext A A1/\ws.length=k/\∀w∈ws,wA K A1 w
theorem Bs :AM K C zm ρ 0:=λ A _=>⟨[],A,rfl,Ext.refl,rfl,λ _ h=>by cases h⟩
theorem Qu {m:Ev}{a:Ea}{k:Nat}(h:EM K C m ρ)(t:AM K C a ρ k):AM K C (zh m a) ρ (k+1):=λ A x=>by
 obtain⟨w,A1,E,x1,c⟩:=h A x;obtain⟨ws,A2,e,x2,l,b⟩:=t A1 (x.trans x1);refine⟨w::ws,A2,zB E e,x1.trans x2,by rw[bb,l],λ y H=>?_⟩
 rcases qa3.mp H with rfl|H
 ·exact c.mono x2.ky
 ·exact b y H
theorem O3 {m:Ev}{w:W}{ty:Ty}(h:∀A,m ρ A=.ok w A)(hw:∀A,jw w A=some ty)(hn:ty≠.tup):EM K C m ρ:=λ A _=>⟨w,A,h A,Ext.refl,Vy (hw A) hn⟩
theorem GF {m:Ev}(h:TE m ρ ws)(l:ws.length<=100)(p:∀x∈ws,∀A,Ext C A->∃ty,jw x A=some ty)(hn:ws.length≠K∨∃x∈ws,ZK x=false):EM K C m ρ:=λ A x=>⟨.tup ws,A,h A,Ext.refl,EC l (λ y H=>p y H A x) hn⟩
theorem Av (s:qX n A)(M:1<=r.length)(h8:r.length<=8):∃w B,QP [.ref n,zw r] A=.ok w B/\wA r.length B w/\Kn n A B:=by
 unfold QP XB;unfold T6;have N:=Kv (ws:=r.map W.int) (ρ:=[some (.ref n),some (zw r),none,none,none]) (i:=1) (A:=A) rfl;rw[ai]at N;obtain⟨a,c,e1,ha,k1,_⟩:=Q3 (ρ:=[some (.ref n),some (zw r),none,none,none]) s rfl N (by omega) (by omega)
 have e:(zh (zi (.bl true)) (zh (zi .non) (zh (zi (.str "1")) (zh (zC (zh (zi (.int 1)) zm)) (zh (zU (zh (zi (.int 1)) zm)) (zh (zi (.bl false)) zm))))):Ea) [some (.ref n),some (zw r),some (.int (a:Int)),none,none] c=.ok [.bl true,.non,.str "1",.tup [.int 1],.ref c.length,.bl false] (c++[.lst [.int 1]]):=rfl;have b:=Kn.ext k1.st (Ext.one (o:=.lst [.int 1]));have y:(c++[O.lst [.int 1]])[c.length]? =some (.lst [.int 1]):=qL;have U:=k1.st.lt;have D:n<(c++[O.lst [.int 1]]).length:=b.st.lt;generalize c++[O.lst [.int 1]]=L at e b y D;have x2:Ext L (L++[.lst [.bl true,.non,.str "1",.tup [.int 1],.ref c.length,.bl false]]):=Ext.one;obtain⟨j,d,E,hj,k3,_⟩:=Q3 (ρ:=[some (.ref n),some (zw r),some (.int (a:Int)),none,none]) (me:=zi (.int 6)) (b.st.ext x2) rfl jb (by decide:(0:Int)<6) (by decide)
 have t:=k3.kp.get (j5 y) (by omega)
 obtain⟨v,Q,T,ev⟩:∃v,(∀A,Ext d A->∃ty,jw v A=some ty)/\ZK v=false/\zo zI (zU (zh (zi (.bl true)) (zh (zi .non) (zh (zi (.str "1")) (zh (zC (zh (zi (.int 1)) zm)) (zh (zU (zh (zi (.int 1)) zm)) (zh (zi (.bl false)) zm))))))) (zF yk (zh (zc 0) (zh (zi (.int 6)) zm))) [some (.ref n),some (zw r),some (.int (a:Int)),none,none] c=.ok v d:=by
  have H:=k3.kp.get (qL (A:=L)) (by omega)
  have I:j=0∨j=1∨j=2∨j=3∨j=4∨j=5:=by omega
  rcases I with rfl|rfl|rfl|rfl|rfl|rfl
  ·exact⟨_,λ A _=>⟨_,rfl⟩,rfl,(zT (jC e) E).trans (km H rfl)⟩
  ·exact⟨_,λ A _=>⟨_,rfl⟩,rfl,(zT (jC e) E).trans (km H rfl)⟩
  ·exact⟨.str "1",λ A _=>⟨_,rfl⟩,rfl,(zT (jC e) E).trans (km H rfl)⟩
  ·exact⟨_,λ A _=>⟨_,rfl⟩,rfl,(zT (jC e) E).trans (km H rfl)⟩
  ·exact⟨.ref c.length,λ A x=>⟨.lst,by unfold jw;dsimp only;rw[x.at t]⟩,rfl,(zT (jC e) E).trans (km H rfl)⟩
  ·exact⟨_,λ A _=>⟨_,rfl⟩,rfl,(zT (jC e) E).trans (km H rfl)⟩
 have g:Kn n A d:=((k1.trans b).trans (Kn.ext b.st x2)).trans k3;have tt:TE (zc 1) [some (.ref n),some (zw r),some (.int (a:Int)),some v,none] (r.map W.int):=λ A=>rfl;have tl:(r.map W.int).length=r.length:=ai ..;have pi:∀x∈r.map W.int,∀A,Ext d A->∃ty,jw x A=some ty:=λ x h A _=>by
  obtain⟨v,_,rfl⟩:=qa6.mp h;exact⟨_,rfl⟩
 have c1:TE (wu (zc 1) gZ (gN (zc 2))) [some (.ref n),some (zw r),some (.int (a:Int)),some v,none] (wz (r.map W.int) none (some (a:Int))):=Uc tt (λ _=>rfl) (λ _=>rfl);have c2:TE (wu (zc 1) (gN (zo qx (zc 2) (zi (.int 1)))) gZ) [some (.ref n),some (zw r),some (.int (a:Int)),some v,none] (wz (r.map W.int) (some ((a:Int)+1)) none):=Uc tt (λ _=>rfl) (λ _=>rfl);have P:TE (wu (zc 1) (gN (zi (.int 1))) gZ) [some (.ref n),some (zw r),some (.int (a:Int)),some v,none] (wz (r.map W.int) (some 1) none):=Uc tt (λ _=>rfl) (λ _=>rfl);have z1:=VH (xs:=r.map W.int) (l:=none) (u:=some (a:Int));have z2:=VH (xs:=r.map W.int) (l:=some ((a:Int)+1)) (u:=none);have z3:=VH (xs:=r.map W.int) (l:=some 1) (u:=none);have Z:(wz (r.map W.int) (some 1) none).length≠r.length:=by
  obtain⟨v,l,rfl⟩:=List.exists_cons_of_ne_nil (show r≠[] by intro z;rw[z]at M;simp at M)
  unfold wz;rw[bt,bL];show min _ ((List.map W.int (v::l)).length - HT.qA ((v::l).map W.int).length 0 (some 1))≠_
  have:HT.qA ((v::l).map W.int).length 0 (some 1)=1:=by
   unfold HT.qA;simp
  rw[this];simp;omega
 have sB:=g.st;obtain⟨ws,J,e4,x4,l4,Y⟩:=Qu (m:=zo qx (zo qx (wu (zc 1) gZ (gN (zc 2))) (zC (zh (zc 3) zm))) (wu (zc 1) (gN (zo qx (zc 2) (zi (.int 1)))) gZ)) (ρ:=[some (.ref n),some (zw r),some (.int (a:Int)),some v,none]) (K:=r.length) (C:=d)
   (GF (Gm (Gm c1 (Ux (w:=v) λ A=>zt rfl) (by simp;omega)) c2 (by rw[ay,aR];omega)) (by rw[ay,ay,aR];omega) (λ x h A X=>by
    rcases qa8.mp h with h|h
    ·rcases qa8.mp h with h|h
     ·exact pi x (W4 h) A X
     ·rw[qa7.mp h];exact Q A X
    ·exact pi x (W4 h) A X) (.inr ⟨v,qa8.mpr (.inl (qa8.mpr (.inr (qa7.mpr rfl)))),T⟩))
  (Qu (m:=zo qx (zc 1) (zC (zh (zi (.int 0)) zm))) (GF (Gm tt (Ux (w:=.int 0) λ A=>jb) (by simp;omega)) (by rw[ay,aR];omega) (λ x h A X=>by
    rcases qa8.mp h with h|h
    ·exact pi x h A X
    ·rw[qa7.mp h];exact⟨_,rfl⟩) (.inl (by rw[ay,aR];omega)))
  (Qu (m:=wu (zc 1) (gN (zi (.int 1))) gZ) (GF P (by omega) (λ x h A X=>pi x (W4 h) A X) (.inl Z))
  (Qu (m:=qp (qf (zc 1))) (λ A _=>⟨_,_,wG (ko (tt A) rfl),Ext.one,Vy V2 (by decide)⟩)
  (Qu (m:=zi .non) (O3 (w:=.non) (ty:=.non) (λ _=>rfl) (λ _=>rfl) (by decide))
  (Qu (m:=Jo) (λ A _=>⟨.ref A.length,A++[.dct []],rfl,Ext.one,Vy (ty:=.dct) (by unfold jw;dsimp only;rw[qL]) (by decide)⟩)
  (Qu (m:=zi (.int 0)) (O3 (w:=.int 0) (ty:=.int) (λ _=>rfl) (λ _=>rfl) (by decide))
  (Qu (m:=zo qx (zC (zh (zc 1) zm)) (wu (zc 1) (gN (zi (.int 1))) gZ)) (GF (Gm (Ux (w:=zw r) λ A=>zt rfl) P (by simp;omega)) (by rw[ay,aR];omega) (λ x h A X=>by
    rcases qa8.mp h with h|h
    ·rw[qa7.mp h];exact⟨.tup,rfl⟩
    ·exact pi x (W4 h) A X) (.inr ⟨zw r,qa8.mpr (.inl (qa7.mpr rfl)),rfl⟩)) Bs))))))) d Ext.refl
 have s4:=sB.ext x4;have S:n<J.length:=s4.lt;obtain⟨q,B5,e5,hq,k5,_⟩:=Q3 (ρ:=[some (.ref n),some (zw r),some (.int (a:Int)),some v,some (.ref J.length)]) (me:=zi (.int 8)) (s4.ext (Ext.one (o:=.lst ws))) rfl jb (by decide:(0:Int)<8) (by decide)
 have p:q<ws.length:=by omega
 have H:=k5.kp.get (qL (A:=J)) (by omega)
 have f:=(Kn.ext s4 (Ext.one (o:=.lst ws))).trans k5;refine⟨ws[q],B5,qS ?_,(Y _ (aP p)).mono (f.ky s4),(g.trans (Kn.ext sB x4)).trans f⟩;exact(zH ((qJ e1).trans rfl)).trans ((zH ((qJ ev).trans rfl)).trans ((zH ((qJ (jC e4)).trans rfl)).trans (qG (qZ ((zT (zt (i:=4) rfl) e5).trans (km H (ae p)))))))
end
theorem OB:∀(l:List Int)(s:Int),yY l s=s+l.sum
 |[],s=>by simp[yY]|v::l,s=>by
  show yY l (s+v)=_;rw[OB l,List.sum_cons];omega
theorem Of (l:List Int):gu (l.map W.int) A=.ok (.int l.sum) A:=by
 unfold gu;rw[YQ];dsimp only;rw[OB,bz]
noncomputable def sm (n:Nat)(f:Nat->Int):Int:=((List.range n).map f).sum
theorem Q4 (n:Nat)(f:Nat->Int):sm (n+1) f=sm n f+f n:=by
 unfold sm;rw[bB,aU,List.sum_append];simp
theorem Qr {f g:Nat->Int}(h:∀i,i<n->f i=g i):sm n f=sm n g:=by
 unfold sm
 congr 1
 exact aZ λ i H=>h i (qa5.mp H)
theorem Gf (n:Nat):sm n (λ _=>0)=0:=by
 induction n with
 |zero=>rfl|succ n i=>rw[Q4,i];rfl
theorem Nj (n:Nat)(f g:Nat->Int):sm n (λ i=>f i+g i)=sm n f+sm n g:=by
 induction n with
 |zero=>rfl|succ n I=>rw[Q4,Q4,Q4,I];omega
theorem O5 {a:Nat}(b:a<n)(v:Int):sm n (λ i=>if i=a then v else 0)=v:=by
 induction n with
 |zero=>omega|succ n I=>
  rw[Q4]
  by_cases h:a=n
  ·subst h
   have:sm a (λ i=>if i=a then v else 0)=sm a λ _=>0:=Qr λ i H=>ak (by omega)
   rw[this,Gf,ag rfl];omega
  ·rw[I (by omega),ak (by omega)]
   omega
def ds (K:Nat)(f:Nat->Nat->Int):Int:=sm K λ i=>sm K (f i)
theorem WB {K:Nat}{f g:Nat->Nat->Int}(h:∀i j,i<K->j<K->f i j=g i j):ds K f=ds K g:=Qr λ i a=>Qr λ j H=>h i j a H
theorem DJ (K:Nat)(f:Nat->Nat->Int):((List.range K).flatMap λ i=>(List.range K).map (f i)).sum=ds K f:=by
 have:∀m,((List.range m).flatMap λ i=>(List.range K).map (f i)).sum=sm m λ i=>sm K (f i):=by
  intro m
  induction m with
  |zero=>rfl|succ m I=>
   rw[bB,List.flatMap_append,List.sum_append,I,Q4];simp[sm]
 exact this K
theorem BF {K a b:Nat}(c:a<K)(H:b<K)(f g:Nat->Int)(μ:Nat->Nat->Int):ds K (λ i j=>f i * g j * ZH μ a b (μ a b+1) i j)=ds K (λ i j=>f i * g j * μ i j)+f a * g b:=by
 have e:∀i j,f i * g j * ZH μ a b (μ a b+1) i j=f i * g j * μ i j+(if i=a then(if j=b then f a * g b else 0) else 0):=λ i j=>by
  unfold ZH
  by_cases h:i=a
  ·by_cases h':j=b
   ·subst h h'
    rw[ag ⟨rfl,rfl⟩,ag rfl,ag rfl,Int.mul_add,Int.mul_one]
   ·rw[ak (λ z=>h' z.2),ag h,ak h',Int.add_zero]
  ·rw[ak (λ z=>h z.1),ak h,Int.add_zero]
 rw[WB λ i j _ _=>e i j];unfold ds
 have:∀i,sm K (λ j=>f i * g j * μ i j+(if i=a then(if j=b then f a * g b else 0) else 0))=sm K (λ j=>f i * g j * μ i j)+(if i=a then f a * g b else 0):=λ i=>by
  rw[Nj]
  by_cases h:i=a
  ·rw[ag h]
   congr 1
   exact(Qr λ j _=>ag h).trans (O5 H (f a * g b))
  ·rw[ak h]
   congr 1
   exact(Qr λ j _=>ak h).trans (Gf K)
 rw[Qr λ i _=>this i,Nj,O5 c]
section
variable {x y:List Int}{a b c e k K:Nat}{S:Nat->List (List Int)}
noncomputable def mv (x:List Int)(v:Int):Int:=x.getD v.toNat 0
def dt (t:List (List Int))(x y:List Int)(a b:Nat):Int:=sm t.length λ c=>mv x (at2 t a c) * mv y (at2 t b c)
theorem Nk (h:qk t)(H:qB t=(K:Int))(e:a<t.length)(d:b<t.length):∀n,n<=t.length->ds K (λ i j=>x.getD i 0 * y.getD j 0 * shr t a b n i j)=sm n λ c=>mv x (at2 t a c) * mv y (at2 t b c)
 |0,_=>by
  have:ds K (λ i j=>x.getD i 0 * y.getD j 0 * shr t a b 0 i j)=ds K λ _ _=>0:=WB λ i j _ _=>Int.mul_zero _
  rw[this];unfold ds;rw[Qr λ i _=>Gf K,Gf]
  rfl
 |n+1,hn=>by
  rw[Q4,<- Nk h H e d n (by omega)]
  exact BF (Km h H e (show n<t.length by omega)).2 (Km h H d (show n<t.length by omega)).2 (λ i=>x.getD i 0) (λ j=>y.getD j 0) (shr t a b n)
def pv (K:Nat)(S:Nat->List (List Int))(x y:List Int):List Int:=(List.range K).map λ k=>ds K λ i j=>x.getD i 0 * y.getD j 0 * at2 (S k) i j
theorem Gp:(pv K S x y).length=K:=by unfold pv;rw[ai,aN]
theorem zbq (h:k<K):(pv K S x y).getD k 0=ds K λ i j=>x.getD i 0 * y.getD j 0 * at2 (S k) i j:=by
 unfold pv;rw[aa,ar,aO h]
 rfl
theorem zbw (c:qk t)(d:qB t=(K:Int))(g:∀a b,a<t.length->b<t.length->jX t K a b=S (at2 t a b).toNat)(H:a<t.length)(h:b<t.length):mv (pv K S x y) (at2 t a b)=dt t x y a b:=by
 unfold mv;rw[zbq (Km c d H h).2,<- g a b H h];unfold dt;rw[<- Nk c d H h t.length (aw _)];exact WB λ i j f e=>by unfold jX;rw[JZ f e]
def jl (t:List (List Int))(x:List Int):List (List Int):=jv t.length λ a b=>mv x (at2 t a b)
def ZP (M N:List (List Int)):List (List Int):=jv M.length λ a b=>sm M.length λ c=>at2 M a c * at2 N c b
theorem GD (H:a<t.length)(h:b<t.length):at2 (jl t x) a b=mv x (at2 t a b):=by unfold jl;exact JZ H h
theorem kE:(jl t x).length=t.length:=by unfold jl;exact VA
theorem zaT (f:qk t)(i:qB t=(K:Int))(g:∀a b,a<t.length->b<t.length->jX t K a b=S (at2 t a b).toNat):ZP (jl t x) (jl t y)=jl t (pv K S x y):=by
 have e:(jl t (pv K S x y))=jv t.length λ a b=>mv (pv K S x y) (at2 t a b):=rfl;rw[e];unfold ZP;rw[kE];unfold jv;refine aZ λ a H=>aZ λ b h=>?_;have H:=qa5.mp H;have h:=qa5.mp h;show(sm t.length λ c=>at2 (jl t x) a c * at2 (jl t y) c b)=mv (pv K S x y) (at2 t a b);rw[zbw f i g H h];exact Qr λ c d=>by rw[GD H d,GD d h,f.sy c b d h]
noncomputable def e0 (K:Nat):List Int:=1::List.replicate (K - 1) 0
theorem zaI (v:Int)(h:0<=v):mv (e0 K) v=if v=0 then 1 else 0:=by
 unfold mv e0;obtain⟨k,rfl⟩:=aS h;rw[az];cases k with
 |zero=>rfl|succ k=>
  rw[ak (by omega),aa,List.getElem?_cons_succ,bj]
  split<;>rfl
theorem zci (h:qk t)(s:yF t)(j:qB t=(K:Int))(i:k<K):∃b,b<t.length/\at2 t 0 b=(k:Int):=by
 obtain⟨a,b,H,f,e⟩:=Gu h (v:=k) (by omega)
 have n1:=h.n1;have D:at2 t 0 0=at2 t a a:=by rw[(h.dg 0 0 n1 n1).mpr rfl,(h.dg a a H H).mpr rfl]
 have p:=s 0 0 a a n1 n1 H H D;have hm:((k:Int),(k:Int))∈ZO t a a:=by
  unfold ZO;exact qa6.mpr ⟨b,qa5.mpr f,by rw[e]⟩
 obtain⟨c,d,E⟩:=qa6.mp (p.mem_iff.mpr hm);injection E with g _
 exact⟨c,qa5.mp d,g⟩
theorem zaG (h:qk t)(d:a<t.length)(H:b<t.length)(i j:Nat):0<=shr t a b t.length i j/\shr t a b t.length i j<=8:=by
 rw[Wx h d H _ (aw _)]
 have:=List.count_le_length (a:=((i:Int),(j:Int))) (l:=(List.range t.length).map λ c=>(at2 t a c,at2 t b c))
 rw[ai,aN]at this
 have:=h.n8
 omega
variable {N:List (List Int)}{r:Nat}{C:Hx}{w:W}
theorem Ul {i j:Int}(H:-1000000000000000<j)(h:j<1000000000000000):qu (.int i) (.int j) A=.ok (.int (i * j)) A:=by
 unfold qu;dsimp only;rw[ag];unfold Yw;rw[bG]
 right
 rw[aj,ao,ao];omega
theorem zak (h:A[n]? =some (.lst [w]))(H:k<=100):qu (.ref n) (.int (k:Int)) A=.ok (.ref A.length) (A++[.lst ((List.range k).map λ _=>w)]):=by
 unfold qu;dsimp only;rw[h];dsimp only;rw[ag (by rw[wX (by omega),az];simp;unfold zX;omega),az,rep1]
theorem OG (h:Sm x)(i:Nat):-1000000000000000<x.getD i 0/\x.getD i 0<1000000000000000:=by
 by_cases hi:i<x.length
 ·rw[aa,ae hi]
  exact h _ (aP hi)
 ·rw[aa,aC (by omega)]
  exact⟨by decide,by decide⟩
theorem zbB (h:Sm x)(v:Int):-1000000000000000<mv x v/\mv x v<1000000000000000:=OG h _
theorem UP {us vs:List W}{u v:W}(H:us[i]? =some u)(h:vs[i]? =some v):(gq (.tup us) (.tup vs) us.length).at_ A i=some (some (.tup [u,v])):=by
 show some (zip2 us[i]? vs[i]?)=_;rw[H,h]
 rfl
theorem Ud {us vs:List W}(h:us.length<=i):(gq (.tup us) (.tup vs) us.length).at_ A i=some none:=by
 show some (zip2 us[i]? vs[i]?)=_;rw[aC h]
 rfl
theorem Dx (h:i<K):((jv K μ).map zw)[i]? =some (zw ((List.range K).map (μ i))):=by
 unfold jv;rw[ar,ar,aO h]
 rfl
theorem D6 (s:x.length=K)(r:y.length=K)(sy:Sm y)(C:K<=8)(l:∀i j,0<=μ i j/\μ i j<=8)(A:Hx):Wh [zq (jv K μ),zw x,zw y] A=.ok (.int (ds K λ i j=>x.getD i 0 * y.getD j 0 * μ i j)) A:=by
 refine Ze (A1:=[]) (by show((zq (jv K μ)).nr&&((zw x).nr&&((zw y).nr&&true)))=true;rw[ZW,w5,w5];rfl) rfl (qS ?_)
 unfold Su;have hm:k9 (zc 1) (zc 0) [some (zq (jv K μ)),some (zw x),some (zw y)] []=.ok (gq (.tup (x.map W.int)) (.tup ((jv K μ).map zw)) (x.map W.int).length) []:=WH (zt rfl) (zt rfl);obtain⟨d,acc,B,e,_,b,h⟩:=YV (nl:=4) (cap:=[2]) (tw:=jj 0 1) (ifs:=zi (.bl true)) (em:=Z3 (k9 (zc 4) (zc 1)) (jj 2 3) (zi (.bl true)) (zK (zo qu (zo qu (zc 0) (zc 2)) (zc 3)))) (N:=K)
  (I:=λ i ρ acc B=>(∃p o a Y,ρ=[p,o,a,Y,some (zw y)])/\B=[]/\acc=(((List.range i).flatMap λ i=>(List.range K).map λ j=>x.getD i 0 * y.getD j 0 * μ i j)).map W.int) hm (by show(x.map W.int).length=K;rw[ai,s])
  (λ i ρ acc B w ⟨⟨p,o,a,Y,H⟩,b,h⟩=>by
   subst H b h;refine⟨_,[some (.int (x.getD i 0)),some (zw ((List.range K).map (μ i))),a,Y,some (zw y)],UP (int_at (by omega)) (Dx w),rfl,.inl ?_⟩
   obtain⟨d,acc,B,e,⟨g,f,H⟩,b,h⟩:=Py (j:=gq (.tup (y.map W.int)) (.tup (((List.range K).map (μ i)).map W.int)) (y.map W.int).length) (tw:=jj 2 3) (ifs:=zi (.bl true)) (em:=zK (zo qu (zo qu (zc 0) (zc 2)) (zc 3))) (N:=K)
    (I:=λ j ρ acc B=>(∃a Y,ρ=[some (.int (x.getD i 0)),some (zw ((List.range K).map (μ i))),a,Y,some (zw y)])/\B=[]/\acc=(((List.range i).flatMap λ i=>(List.range K).map λ j=>x.getD i 0 * y.getD j 0 * μ i j)++(List.range j).map λ j=>x.getD i 0 * y.getD j 0 * μ i j).map W.int)
    (λ j ρ acc B v ⟨⟨a,Y,H⟩,b,h⟩=>by
     subst H b h;have c:=OG sy j;have t:=l i j;refine⟨_,[some (.int (x.getD i 0)),some (zw ((List.range K).map (μ i))),some (.int (y.getD j 0)),some (.int (μ i j)),some (zw y)],UP (int_at (by omega)) (by rw[ar,ar,aO v];rfl),rfl,.inl ⟨[],_,_,[],rfl,Y5 (y:=.int (x.getD i 0 * y.getD j 0 * μ i j)) ?_ ?_,⟨_,_,rfl⟩,rfl,?_⟩⟩
     ·exact(zT ((zT (zt rfl) (zt rfl)).trans (Ul c.1 c.2)) (zt rfl)).trans (Ul (by omega) (by omega))
     ·rw[ai,ay,ai,aN,List.length_flatMap]
      have:((List.range i).map λ i=>((List.range K).map λ j=>x.getD i 0 * y.getD j 0 * μ i j).length).sum=i * K:=by
       have:((List.range i).map λ i=>((List.range K).map λ j=>x.getD i 0 * y.getD j 0 * μ i j).length)=List.replicate i K:=by
        refine List.eq_replicate_iff.mpr ⟨by simp,λ z n=>?_⟩
        obtain⟨q,_,rfl⟩:=qa6.mp n;simp
       rw[this,List.sum_replicate_nat]
      rw[this]
      have:i * K<=7 * 8:=Nat.mul_le_mul (by omega) (by omega)
      unfold zX;omega
     ·rw[bB,aU,aU,aU,aU,aW]
      rfl)
    (λ ρ acc B _=>Ud (by rw[ai];omega)) K 0 [some (.int (x.getD i 0)),some (zw ((List.range K).map (μ i))),a,Y,some (zw y)] ((((List.range i).flatMap λ i=>(List.range K).map λ j=>x.getD i 0 * y.getD j 0 * μ i j)).map W.int) [] (by omega) ⟨⟨_,_,rfl⟩,rfl,by simp⟩
   subst H b h;refine⟨[],[some (.int (x.getD i 0)),some (zw ((List.range K).map (μ i))),g,f,some (zw y)],(((List.range i).flatMap λ i=>(List.range K).map λ j=>x.getD i 0 * y.getD j 0 * μ i j)++(List.range K).map λ j=>x.getD i 0 * y.getD j 0 * μ i j).map W.int,[],rfl,?_,⟨_,_,_,_,rfl⟩,rfl,?_⟩
   ·unfold Z3
    have n:k9 (zc 4) (zc 1) [some (.int (x.getD i 0)),some (zw ((List.range K).map (μ i))),a,Y,some (zw y)] []=.ok (gq (.tup (y.map W.int)) (.tup (((List.range K).map (μ i)).map W.int)) (y.map W.int).length) []:=WH (zt rfl) (zt rfl);rw[n,zP];have u:(gq (.tup (y.map W.int)) (.tup (((List.range K).map (μ i)).map W.int)) (y.map W.int).length).len=K:=by show(y.map W.int).length=K;rw[ai,r]
    rw[u];exact e
   ·rw[bB,List.flatMap_append]
    simp)
  (λ ρ acc B _=>Ud (by rw[ai];omega)) ⟨⟨_,_,_,_,rfl⟩,rfl,rfl⟩
 subst b h;refine qG (qZ ((yA e).trans ?_));rw[Of,DJ]
theorem Sk (h:qk t)(g:qB t=(K:Int))(d:∀a b,a<t.length->b<t.length->jX t K a b=S (at2 t a b).toNat)(f:k<K):∃μ,S k=jv K μ/\∀i j,0<=μ i j/\μ i j<=8:=by
 obtain⟨a,b,c,H,e⟩:=Gu h (v:=k) (by omega)
 exact⟨shr t a b t.length,by have:=d a b c H;rw[e,az]at this;rw[<- this];rfl,λ i j=>zaG h c H i j⟩
theorem NI (d:qk t)(q:qB t=(K:Int))(p:∀a b,a<t.length->b<t.length->jX t K a b=S (at2 t a b).toNat)(l:x.length=K)(f:y.length=K)(sy:Sm y)(c:A[r]? =some (.lst ((List.range K).map λ k=>zq (S k)))):JG [.ref r,zw x,zw y] A=.ok (zw (pv K S x y)) A:=by
 have s:=wL d;unfold JG Vi;refine qS ?_;unfold RM;have e:=g9 (cap:=[1,2]) (mi:=qC (zc 0)) (me:=zF Wh (zh (zc 0) (zh (zc 1) (zh (zc 2) zm)))) (ρ:=[some (.ref r),some (zw x),some (zw y)]) (A:=A) (N:=K) (item:=λ k=>zq (S k)) (g:=λ k=>.int (ds K λ i j=>x.getD i 0 * y.getD j 0 * at2 (S k) i j)) (Q5 (zt rfl) c) (by show((List.range K).map _).length=K;rw[ai,aN]) (by unfold zX;omega)
  (λ i H=>Kj c (by rw[ar,aO H];rfl)) (Gv c (by rw[ai,aN];exact aw _))
  (λ k n=>by
   obtain⟨μ,E,h⟩:=Sk d q p n;refine(zO (ws:=[zq (S k),zw x,zw y]) (A1:=A) rfl).trans ?_;rw[E,D6 l f sy (by omega) h A]
   congr 2
   exact WB λ i j H o=>by rw[JZ H o])
 refine qG (qZ ((Zc e).trans ?_));unfold pv zw;rw[aQ]
 rfl
theorem zan (h:qk t)(s:yF t)(H:qB t=(K:Int))(e:∀a b,a<t.length->b<t.length->jX t K a b=S (at2 t a b).toNat)(d:x.length=K)(c:y.length=K)(sy:Sm y)(A:Hx):JI [zq t,zw x,zw y] A=.ok (zw (pv K S x y)) A:=by
 refine Ze (A1:=[.lst ((List.range K).map λ k=>zq (S k))]) (by show((zq t).nr&&((zw x).nr&&((zw y).nr&&true)))=true;rw[ZW,w5,w5];rfl) (w5 _) (wJ (VI ?_))
 unfold JM;refine(zH (yd ((zO (zB (zt rfl) zQ)).trans (Z2 h s [])))).trans ?_;refine(zH (yd ((zO (zB (zt rfl) (zB (zt rfl) zQ))).trans (QI h (by rw[H,d]) [])))).trans ?_
 refine(zH (yd ((zO (zB (zt rfl) (zB (zt rfl) zQ))).trans (QI h (by rw[H,c]) [])))).trans (wJ (qG (qZ ?_)))
 exact(zO (ws:=[.ref 0,zw x,zw y]) (A1:=[.lst ((List.range K).map λ k=>zq (S k))]) (zB ((zO (zB (zt rfl) zQ)).trans (R6 h H e [])) (zB (zt rfl) (zB (zt rfl) zQ)))).trans (NI h H e d c sy rfl)
noncomputable def av (x y:List Int):List Int:=(List.range x.length).map λ i=>x.getD i 0+y.getD i 0
theorem Nh {q p:Nat}(l:y.length=x.length)(b:x.length<=8)(H:ρ[q]? =some (some (zw x)))(a:ρ[p]? =some (some (zw y))):mQ yi (zS 2 [] (k9 (zc q) (zc p)) (jj 0 1) (zi (.bl true)) (zK (zo qx (zc 0) (zc 1)))) ρ A=.ok (zw (av x y)) A:=by
 have e:=X7 (A:=A) (cap:=[]) (ρ:=ρ) (me:=zo qx (zc 0) (zc 1)) (N:=x.length) (u:=λ i=>.int (x.getD i 0)) (v:=λ i=>.int (y.getD i 0)) (g:=λ i=>.int (x.getD i 0+y.getD i 0)) (WH (zt H) (zt a)) (by show(x.map W.int).length=_;rw[ai]) (by omega)
  (λ i h=>UP (int_at h) (int_at (by omega))) (Ud (by rw[ai];exact aw _)) (λ i h=>(zT (zt rfl) (zt rfl)).trans rfl)
 refine(Zc e).trans ?_;unfold av zw;rw[aQ]
 rfl
theorem DO (h:qk t)(s:yF t)(H:qB t=(K:Int))(b:x.length=K)(a:y.length=K)(A:Hx):JW [zq t,zw x,zw y] A=.ok (zw (av x y)) A:=by
 have c:=wL h;refine Ze (A1:=[]) (by show((zq t).nr&&((zw x).nr&&((zw y).nr&&true)))=true;rw[ZW,w5,w5];rfl) (w5 _) (wJ (VI ?_))
 unfold JU;refine(zH (yd ((zO (zB (zt rfl) zQ)).trans (Z2 h s [])))).trans ?_;refine(zH (yd ((zO (zB (zt rfl) (zB (zt rfl) zQ))).trans (QI h (by rw[H,b]) [])))).trans ?_
 exact(zH (yd ((zO (zB (zt rfl) (zB (zt rfl) zQ))).trans (QI h (by rw[H,a]) [])))).trans (wJ (qG (qZ (Nh (by omega) (by omega) rfl rfl))))
def pw (K:Nat)(S:Nat->List (List Int))(x:List Int):Nat->List Int
 |0=>e0 K|m+1=>pv K S (pw K S x m) x
theorem pw_len (h:1<=K)(m:Nat):(pw K S x m).length=K:=by
 cases m with
 |zero=>unfold pw e0;rw[bb,bx];omega|succ m=>exact Gp
theorem Bf {m:Nat}(H:qk t)(s:yF t)(f:qB t=(K:Int))(l:∀a b,a<t.length->b<t.length->jX t K a b=S (at2 t a b).toNat)(c:x.length=K)(p:Sm x)(hm:m<=8)(A:Hx):J2 [zq t,zw x,.int (m:Int)] A=.ok (zw (pw K S x m)) A:=by
 have T:=wL H;obtain⟨B,z,J⟩:∃B:Hx,B[0]? =some (.lst ((List.range K).map λ k=>zq (S k)))/\mQ yi (qf (zo qx (zU (zh (zi (.int 1)) zm)) (zo qu (zU (zh (zi (.int 0)) zm)) (zo wy (mQ qy (qf (zc 1))) (zi (.int 1)))))) [some (zq t),some (zw x),some (.int (m:Int)),some (.ref 0),none,none] [.lst ((List.range K).map λ k=>zq (S k))]=.ok (zw (e0 K)) B:=by
  have D:zo wy (mQ qy (qf (zc 1))) (zi (.int 1)) [some (zq t),some (zw x),some (.int (m:Int)),some (.ref 0),none,none] [.lst ((List.range K).map λ k=>zq (S k)),.lst [.int 1],.lst [.int 0]]=.ok (.int ((K - 1:Nat):Int)) [.lst ((List.range K).map λ k=>zq (S k)),.lst [.int 1],.lst [.int 0]]:=by
   have Q:=Kv (ws:=x.map W.int) (ρ:=[some (zq t),some (zw x),some (.int (m:Int)),some (.ref 0),none,none]) (i:=1) (A:=[.lst ((List.range K).map λ k=>zq (S k)),.lst [.int 1],.lst [.int 0]]) rfl;refine(zT Q jb).trans ?_;rw[ai,c];show R.ok (W.int ((K:Int) - 1)) _=_
   congr 2
   omega
  have P:zo qu (zU (zh (zi (.int 0)) zm)) (zo wy (mQ qy (qf (zc 1))) (zi (.int 1))) [some (zq t),some (zw x),some (.int (m:Int)),some (.ref 0),none,none] [.lst ((List.range K).map λ k=>zq (S k)),.lst [.int 1]]=.ok (.ref 3) [.lst ((List.range K).map λ k=>zq (S k)),.lst [.int 1],.lst [.int 0],.lst ((List.range (K - 1)).map λ _=>.int 0)]:=by
   refine(zT (x:=.ref 2) (A1:=[.lst ((List.range K).map λ k=>zq (S k)),.lst [.int 1],.lst [.int 0]]) rfl D).trans ?_;exact zak (n:=2) (w:=.int 0) rfl (by omega)
  have M:=(zT (x:=.ref 1) (A1:=[.lst ((List.range K).map λ k=>zq (S k)),.lst [.int 1]]) (ρ:=[some (zq t),some (zw x),some (.int (m:Int)),some (.ref 0),none,none]) (A:=[.lst ((List.range K).map λ k=>zq (S k))]) (ma:=zU (zh (zi (.int 1)) zm)) rfl P).trans (WI (n:=1) (k:=3) (xs:=[.int 1]) (ys:=(List.range (K - 1)).map λ _=>.int 0) rfl rfl (by rw[ai,aN];unfold zX;simp;omega))
  have L:=Zc (ko (w:=.ref 4) (ws:=[.int 1]++(List.range (K - 1)).map λ _=>.int 0) M rfl);have v:zw (e0 K)=.tup ([.int 1]++(List.range (K - 1)).map λ _=>.int 0):=by
   unfold e0 zw;rw[aV,List.map_replicate,List.map_const',aN]
   rfl
  rw[v];exact⟨_,rfl,L⟩
 have r:=gD (m:=zc 2) (ρ:=[some (zq t),some (zw x),some (.int (m:Int)),some (.ref 0),some (zw (e0 K)),none]) (A:=B) (A1:=B) (k:=(m:Int)) rfl (wX (by omega))
 rw[az]at r;obtain⟨o,C,e,g,y,h⟩:=g8 (j:=wq 0 m) (st:=turn (zN 5) (zr (zY 4 (zF JG (zh (zc 3) (zh (zc 4) (zh (zc 1) zm))))) zA)) (N:=m)
  (I:=λ q ρ C=>C=B/\∃y,ρ=[some (zq t),some (zw x),some (.int (m:Int)),some (.ref 0),some (zw (pw K S x q)),y])
  (λ q ρ C u ⟨g,y,h⟩=>by
   subst g h;refine⟨_,_,C,w9 u,(wk rfl).trans ((zH ((qJ ((zO (zB (zt rfl) (zB (zt rfl) (zB (zt rfl) zQ)))).trans (NI H f l (pw_len (by omega) q) c p z))).trans rfl)).trans jO),rfl,_,rfl⟩)
  (λ ρ C _=>wZ (by omega)) m 0 [some (zq t),some (zw x),some (.int (m:Int)),some (.ref 0),some (zw (e0 K)),none] B (by omega) ⟨rfl,_,rfl⟩
 subst g h;obtain⟨U,E,d⟩:=PD (x:=.int (m:Int)) (A:=[]) (ty:=.int) rfl 9;rw[d.mpr ⟨m,rfl,by omega⟩]at E
 refine Ze (A1:=C) (by show((zq t).nr&&((zw x).nr&&true))=true;rw[ZW,w5];rfl) (w5 _) (wJ (VI ?_))
 unfold JX;refine(zH (yd ((zO (zB (zt rfl) zQ)).trans (Z2 H s [])))).trans ?_;refine(zH (yd ((zO (zB (zt rfl) (zB (zt rfl) zQ))).trans (QI H (by rw[f,c]) [])))).trans ?_
 refine(zH ((yr (wJ (kR (k:=true) ((zO (ws:=[.int (m:Int),.int 9]) (A1:=[]) rfl).trans E)))).trans jO)).trans (wJ ?_);refine(zH (ρ1:=[some (zq t),some (zw x),some (.int (m:Int)),some (.ref 0),none,none]) (A1:=[.lst ((List.range K).map λ k=>zq (S k))]) ((qJ ((zO (zB (zt rfl) zQ)).trans (R6 H f l []))).trans rfl)).trans ?_;refine(zH (ρ1:=[some (zq t),some (zw x),some (.int (m:Int)),some (.ref 0),some (zw (e0 K)),none]) (A1:=C) ((qJ J).trans rfl)).trans ?_;exact(zH ((wH r).trans e)).trans (qG (qZ (zt rfl)))
variable {M:List (List Int)}{q:Nat}
theorem LL.at (h:LL M r A)(H:i<M.length):∃p,zI (.ref r) (.int (i:Int)) A=.ok (.ref p) A/\A[p]? =some (.lst ((M.getD i []).map W.int)):=by
 obtain⟨K,b,c,a⟩:=h;refine⟨K.getD i 0,km b ?_,a i H⟩;rw[ar,ae (by omega),aa,ae (by omega)]
 rfl
noncomputable def zaE (M:List (List Int)):PyData:=.list (M.map λ r=>.list (r.map .int))
theorem Ur (h:LL M r A):qh A 8 (.ref r)=some (zaE M):=by
 obtain⟨K,e,c,b⟩:=h;show(match zR (.ref r) A with|some ws=>(jH (qh A 7) ws).map PyData.list|none=>none)=_
 have:zR (.ref r) A=some (K.map W.ref):=by unfold zR;dsimp only;rw[e]
 rw[this];dsimp only;have key:∀(l:List Nat)(m:List (List Int)),l.length=m.length->(∀i,i<m.length->A[l.getD i 0]? =some (.lst ((m.getD i []).map W.int)))->jH (qh A 7) (l.map W.ref)=some (m.map λ r=>PyData.list (r.map .int)):=by
  intro l
  induction l with
  |nil=>intro m hm _;cases m with
   |nil=>rfl|cons _ _=>cases hm
  |cons p l I=>
   intro m hm H;cases m with
   |nil=>cases hm|cons v m=>
    have e0:A[p]? =some (.lst (v.map W.int)):=H 0 (zero_lt_succ _);have E:=I m (Nat.succ.inj hm) λ i a=>H (i+1) (succ_lt_succ a);have f:qh A 7 (.ref p)=some (.list (v.map .int)):=by
     show(match zR (.ref p) A with|some ws=>(jH (qh A 6) ws).map PyData.list|none=>none)=_
     have:zR (.ref p) A=some (v.map W.int):=by unfold zR;dsimp only;rw[e0]
     rw[this];dsimp only;rw[Vr]
     rfl
    show(match qh A 7 (.ref p),jH (qh A 7) (l.map W.ref) with|some d,some ds=>some (d::ds) | _,_=>none)=_
    rw[f,E]
    rfl
 rw[key K M c b]
 rfl
theorem zco (h:LL M r A)(h':LL M q A):q9 (.ref r) (.ref q) A=.ok (.bl false) A:=UO (Ur h) (Ur h') (SeqAt.eqv_refl _ (Y0 8 _ _ (Ur h)).1)
theorem LL.of_row {b0:Nat}(a:A[r]? =some (.lst ((List.range M.length).map λ i=>W.ref (b0+i))))(h:∀i,i<M.length->A[b0+i]? =some (.lst ((M.getD i []).map W.int))):LL M r A:=by
 refine⟨(List.range M.length).map λ i=>b0+i,by rw[a,aQ];rfl,by simp,λ i H=>?_⟩
 rw[aa,ar,aO H];exact h i H
theorem Ol {jt:jF}{item:Nat->W}(n8:M.length<=8)(hm:mi ρ A=.ok jt A)(n:jt.len=M.length)(t:∀B,Ext A B->∀i,i<M.length->jt.at_ B i=some (some (item i)))(d:∀B,Ext A B->jt.at_ B M.length=some none)
  (he:∀B,Ext A B->∀i,i<M.length->me (some (item i)::cap.map λ i=>(ρ[i]?).join) B=.ok (.ref B.length) (B++[.lst ((M.getD i []).map W.int)])):
  ∃r B,qp (zS 1 cap mi (zN 0) (zi (.bl true)) (zK me)) ρ A=.ok (.ref r) B/\LL M r B/\Ext A B:=by
 obtain⟨a,acc,B,e,_,⟨l,H,g⟩,h⟩:=YV (nl:=1) (cap:=cap) (tw:=zN 0) (ifs:=zi (.bl true)) (em:=zK me) (N:=M.length)
  (I:=λ i a acc B=>(∃y,a=y::cap.map λ i=>(ρ[i]?).join)/\(B.length=A.length+i/\Ext A B/\∀c,c<i->B[A.length+c]? =some (.lst ((M.getD c []).map W.int)))/\acc=(List.range i).map λ c=>W.ref (A.length+c)) hm n
  (λ i a acc B b ⟨⟨y,f⟩,⟨l,H,g⟩,h⟩=>by
   subst f h;refine⟨_,_,t B H i b,rfl,.inl ⟨B,_,_,B++[.lst ((M.getD i []).map W.int)],rfl,Y5 (y:=.ref (A.length+i)) (by rw[<- l];exact he B H i b) (by rw[ai,aN];unfold zX;omega),⟨_,rfl⟩,⟨by rw[ay,l];rfl,H.app,λ c j=>?_⟩,by rw[bB,aU];rfl⟩⟩
   by_cases z:c=i
   ·subst z;rw[<- l];exact qL
   ·exact j5 (g c (by omega)))
  (λ a acc B ⟨_,⟨_,H,_⟩,_⟩=>d B H) ⟨⟨none,rfl⟩,⟨rfl,Ext.refl,λ c j=>absurd j (bq _)⟩,rfl⟩
 subst h;refine⟨_,_,wG e,LL.of_row (b0:=A.length) qL λ i b=>j5 (g i b),H.app⟩
theorem Gw (a:qk t)(w:qB t=(K:Int))(q:x.length=K)(A:Hx):∃r B,wW [zq t,zw x] A=.ok (.ref r) B/\LL (jl t x) r B/\Ext A B:=by
 have n8:=a.n8;have c:(t.map zw).length=t.length:=ai ..;obtain⟨r,B,e,h,X⟩:=Ol (M:=jl t x) (ρ:=[some (zq t),some (zw x)]) (A:=A) (cap:=[1]) (mi:=qC (zc 0)) (jt:=⟨λ A i=>(zR (zq t) A).map λ ws=>ws[i]?,(t.map zw).length⟩) (item:=λ i=>zw (t.getD i [])) (me:=qp (zS 1 [1] (qC (zc 0)) (zN 0) (zi (.bl true)) (zK (zo zI (zc 1) (zc 0))))) (by rw[kE];exact n8) (J0 (zt rfl)) (by rw[kE];exact c)
  (λ B _ i H=>by rw[kE]at H;show some ((t.map zw)[i]?)=_;rw[Yh H]) (λ B _=>by rw[kE];show some ((t.map zw)[t.length]?)=_;rw[aC (by omega)])
  (λ B _ i H=>by
   rw[kE]at H;have j:=a.sq _ (yx H);have E:=P9 (cap:=[1]) (A:=B) (ρ:=[some (zw (t.getD i [])),some (zw x)]) (o:=t.getD i []) (f:=W.int) (m:=zc 0) (me:=zo zI (zc 1) (zc 0)) (G:=λ v=>.int (mv x v)) (zt rfl) (by unfold zX;omega) (λ v g=>by
    have d:=a.lo _ (yx H) v g;obtain⟨u,rfl⟩:=aS d.1;have s:u<K:=by
     obtain⟨b,n,p⟩:=bE g
     have:=Kk a H (show b<t.length by omega)
     unfold at2 at this;rw[aa (l:=t.getD i []),ae n,p]at this
     have:(u:Int)<qB t:=this
     omega
    refine(zT (zt (i:=1) rfl) (zt (i:=0) rfl)).trans ((Uw (by omega)).trans ?_)
    unfold mv;rw[az])
   refine(wG E).trans ?_
   congr 3
   have:(jl t x).getD i []=(List.range t.length).map λ b=>mv x (at2 t i b):=by
    unfold jl jv;rw[aa,ar,aO H]
    rfl
   rw[this,Jz (t.getD i []) 0,j,aQ]
   rfl)
 refine⟨r,B,?_,h,X⟩;unfold wW XU;refine qS ?_;unfold Sr;exact qG (qZ e)
theorem zaW (Q:∀r∈M,r.length=M.length)(hN:∀r∈N,r.length=N.length)(hl:N.length=M.length)(n8:M.length<=8)(L:∀c b,-1000000000000000<at2 N c b/\at2 N c b<1000000000000000)(h1:LL M r A)(h2:LL N q A):∃p B,Zt [.ref r,.ref q] A=.ok (.ref p) B/\LL (ZP M N) p B/\Ext A B:=by
 obtain⟨K,g1,g2,g3⟩:=id h1;have h:(K.map W.ref).length=M.length:=by rw[ai,g2]
 have Y:=wY g1;have num:∀(B:Hx)(p a b:Nat),Ext A B->B[p]? =some (.lst ((M.getD a []).map W.int))->a<M.length->b<M.length->
   mQ gu (zS 1 [0,1,2] (qW (mQ qy (qf (zc 2)))) (zN 0) (zi (.bl true)) (zK (zo qu (zo zI (zc 3) (zc 0)) (zo zI (zo zI (zc 2) (zc 0)) (zc 1))))) [some (.int (b:Int)),some (.ref q),some (.ref p)] B=.ok (.int (sm M.length λ c=>at2 M a c * at2 N c b)) B:=λ B p a b H s n P=>by
  have l:=Q _ (yx n);have hm:=gD (m:=mQ qy (qf (zc 2))) (ρ:=[some (.int (b:Int)),some (.ref q),some (.ref p)]) (A:=B) (A1:=B) (k:=(M.length:Int)) ((yA (ko (w:=.ref p) (zt rfl) (by unfold zR;dsimp only;rw[s]))).trans (by unfold qy;rw[ai,l])) (wX (by omega))
  rw[az]at hm;have E:=g9 (cap:=[0,1,2]) (me:=zo qu (zo zI (zc 3) (zc 0)) (zo zI (zo zI (zc 2) (zc 0)) (zc 1))) (ρ:=[some (.int (b:Int)),some (.ref q),some (.ref p)]) (A:=B) (N:=M.length) (item:=λ i=>.int (0+(i:Int))) (g:=λ c=>.int (at2 M a c * at2 N c b)) hm rfl (by unfold zX;omega) (λ i u=>w9 u) (wZ (by omega)) (λ c C=>by
   rw[bz];obtain⟨p2,e2,J⟩:=LL.at (LL.mono H h2) (i:=c) (by omega)
   have Z:=hN _ (yx (t:=N) (a:=c) (by omega))
   have d:zo zI (zc 3) (zc 0) (some (.int (c:Int))::[0,1,2].map λ i=>(([some (.int (b:Int)),some (.ref q),some (.ref p)]:En)[i]?).join) B=.ok (.int (at2 M a c)) B:=(zT (zt rfl) (zt rfl)).trans (km s (int_at (by omega)))
   have o:zo zI (zo zI (zc 2) (zc 0)) (zc 1) (some (.int (c:Int))::[0,1,2].map λ i=>(([some (.int (b:Int)),some (.ref q),some (.ref p)]:En)[i]?).join) B=.ok (.int (at2 N c b)) B:=(zT ((zT (zt rfl) (zt rfl)).trans e2) (zt rfl)).trans (km J (int_at (by omega)))
   exact(zT d o).trans (Ul (L c b).1 (L c b).2))
  have em:((List.range M.length).map λ c=>W.int (at2 M a c * at2 N c b))=((List.range M.length).map λ c=>at2 M a c * at2 N c b).map W.int:=by rw[aQ];rfl
  rw[em]at E;refine(yA E).trans ?_;rw[Of]
  rfl
 obtain⟨T,B,e,⟨ls,d,o,v⟩,H,y,f⟩:=g8 (j:=⟨λ A i=>(zR (.ref r) A).map λ ws=>ws[i]?,(K.map W.ref).length⟩) (st:=turn (zN 3) (zr (jx (jQ j4 (zc 2) (qp (zS 1 [1,3] (qW (mQ qy (qf (zc 3)))) (zN 0) (zi (.bl true)) (zK (mQ gu (zS 1 [0,1,2] (qW (mQ qy (qf (zc 2)))) (zN 0) (zi (.bl true)) (zK (zo qu (zo zI (zc 3) (zc 0)) (zo zI (zo zI (zc 2) (zc 0)) (zc 1))))))))))) zA)) (N:=M.length)
  (I:=λ i ρ B=>(∃ls:List Nat,B[A.length]? =some (.lst (ls.map W.ref))/\ls.length=i/\∀c,c<i->A.length<ls.getD c 0/\B[ls.getD c 0]? =some (.lst (((ZP M N).getD c []).map W.int)))/\Ext A B/\∃y,ρ=[some (.ref r),some (.ref q),some (.ref A.length),y])
  (λ a ρ B n ⟨⟨ls,d,o,v⟩,H,y,f⟩=>by
   subst f;have s:=H.at (g3 a n);have D:=wY d;have hk:K.getD a 0≠A.length:=by have:=wY (g3 a n);omega
   have l:=Q _ (yx n);have hm:=gD (m:=mQ qy (qf (zc 3))) (ρ:=[some (.ref r),some (.ref q),some (.ref A.length),some (.ref (K.getD a 0))]) (A:=B) (A1:=B) (k:=(M.length:Int)) ((yA (ko (w:=.ref (K.getD a 0)) (zt rfl) (by unfold zR;dsimp only;rw[s]))).trans (by unfold qy;rw[ai,l])) (wX (by omega))
   rw[az]at hm;have E:=g9 (cap:=[1,3]) (me:=mQ gu (zS 1 [0,1,2] (qW (mQ qy (qf (zc 2)))) (zN 0) (zi (.bl true)) (zK (zo qu (zo zI (zc 3) (zc 0)) (zo zI (zo zI (zc 2) (zc 0)) (zc 1)))))) (ρ:=[some (.ref r),some (.ref q),some (.ref A.length),some (.ref (K.getD a 0))]) (A:=B) (N:=M.length) (item:=λ i=>.int (0+(i:Int))) (g:=λ b=>.int (sm M.length λ c=>at2 M a c * at2 N c b)) hm rfl (by unfold zX;omega) (λ i u=>w9 u) (wZ (by omega)) (λ b P=>by
    rw[bz];exact num B (K.getD a 0) a b H s n P)
   have er:(ZP M N).getD a []=(List.range M.length).map λ b=>sm M.length λ c=>at2 M a c * at2 N c b:=by
    unfold ZP jv;rw[aa,ar,aO n]
    rfl
   have S:=wG E;have em:((List.range M.length).map λ b=>W.int (sm M.length λ c=>at2 M a c * at2 N c b))=((ZP M N).getD a []).map W.int:=by rw[er,aQ];rfl
   rw[em]at S;have ea:jQ j4 (zc 2) (qp (zS 1 [1,3] (qW (mQ qy (qf (zc 3)))) (zN 0) (zi (.bl true)) (zK (mQ gu (zS 1 [0,1,2] (qW (mQ qy (qf (zc 2)))) (zN 0) (zi (.bl true)) (zK (zo qu (zo zI (zc 3) (zc 0)) (zo zI (zo zI (zc 2) (zc 0)) (zc 1))))))))) [some (.ref r),some (.ref q),some (.ref A.length),some (.ref (K.getD a 0))] B=.ok .non (List.set (B++[O.lst (((ZP M N).getD a []).map W.int)]) A.length (O.lst (ls.map W.ref++[W.ref B.length]))):=(QY (zt rfl) d S).trans (YU (j5 d) (by rw[ai];omega))
   refine⟨.ref (K.getD a 0),_,_,Kj (H.at g1) (by rw[ar,ae (by omega),aa,ae (by omega)];rfl),(wk rfl).trans ((zH (yd ea)).trans jO),⟨ls++[B.length],?_,by rw[ay,o];rfl,λ c C=>?_⟩,(H.app).set (aw _),_,rfl⟩
   ·rw[aG (by rw[ay];omega),aU]
    rfl
   ·by_cases z:c=a
    ·subst z
     have:(ls++[B.length]).getD c 0=B.length:=by rw[aa,aq (by omega),o,sub_self];rfl
     rw[this,aH (by omega)]
     exact⟨D,qL⟩
    ·have:(ls++[B.length]).getD c 0=ls.getD c 0:=by rw[aa,ah (by omega),aa]
     obtain⟨X,U⟩:=v c (by omega)
     rw[this,aH (by omega)]
     exact⟨X,j5 U⟩)
  (λ ρ B ⟨_,H,_⟩=>Gv (H.at g1) (by rw[h];exact aw _)) M.length 0 [some (.ref r),some (.ref q),some (.ref A.length),none] (A++[.lst []]) (by omega) ⟨⟨[],qL,rfl,λ c C=>absurd C (bq _)⟩,Ext.one,_,rfl⟩
 subst f;have x:(ZP M N).length=M.length:=by unfold ZP;exact VA
 refine⟨A.length,B,?_,⟨ls,d,by rw[o,x],λ i u=>(v i (by omega)).2⟩,H⟩
 unfold Zt X1;refine qS ?_;unfold S6;refine(zH (ρ1:=[some (.ref r),some (.ref q),some (.ref A.length),none]) (A1:=A++[.lst []]) ((qJ (jC zQ)).trans rfl)).trans ?_;have hit:qC (zc 0) [some (.ref r),some (.ref q),some (.ref A.length),none] (A++[.lst []])=.ok ⟨λ A i=>(zR (.ref r) A).map λ ws=>ws[i]?,(K.map W.ref).length⟩ (A++[.lst []]):=Q5 (zt rfl) (j5 g1);refine(zH (ρ1:=[some (.ref r),some (.ref q),some (.ref A.length),y]) (A1:=B) ((wH hit).trans ?_)).trans (qG (qZ (zt (i:=2) (w:=.ref A.length) rfl)));show yo _ _ (K.map W.ref).length 0 _ _=_;rw[h];rw[h]at e;exact e
theorem Ow:∀{l:List Int}{v:Int},v∈l->∃j,QF (.int v) (l.map W.int)=some j/\j<l.length/\l.getD j 0=v
 |[],_,h=>by cases h|u::l,v,h=>by
  by_cases q:u=v
  ·subst q
   refine⟨0,?_,zero_lt_succ _,rfl⟩;show(if Qf (.int u) (.int u) then some 0 else _)=_;rw[ag (by show(u==u)=true;exact bp _)]
  ·obtain⟨j,e,a,H⟩:=Ow (l:=l) (v:=v) ((qa3.mp h).resolve_left (Ne.symm q))
   refine⟨j+1,?_,succ_lt_succ a,H⟩;show(if Qf (.int u) (.int v) then some 0 else(QF (.int v) (l.map W.int)).map (· + 1))=_;rw[ak (by show ¬((u==v)=true);rw[aL];exact q),e]
   rfl
theorem OX (c:qk t)(s:yF t)(q:qB t=(K:Int))(U:x.length=K)(h:LL (jl t x) r A):∃B,ZR [zq t,.ref r] A=.ok (zw x) B/\Ext A B:=by
 have T:=wL c;have n1:=c.n1;have hm:=gD (m:=zF Qp (zh (zc 0) zm)) (ρ:=[some (zq t),some (.ref r),some (.ref A.length),none]) (A:=A++[.lst []]) (A1:=A++[.lst []]) (k:=(K:Int)) ((zO (zB (zt rfl) zQ)).trans ((Pw c _).trans (by rw[q]))) (wX (by omega))
 rw[az]at hm;obtain⟨u,B,e,f,y,H⟩:=g8 (j:=wq 0 K) (st:=turn (zN 3) (zr (jx (jQ j4 (zc 2) (zo zI (zo zI (zc 1) (zi (.int 0))) (Yc Qt (zo zI (zc 0) (zi (.int 0))) (zc 3))))) zA)) (N:=K)
  (I:=λ k ρ B=>B=A++[.lst ((x.take k).map W.int)]/\∃y,ρ=[some (zq t),some (.ref r),some (.ref A.length),y])
  (λ k ρ B n ⟨f,y,H⟩=>by
   subst f H;obtain⟨b,Y,P⟩:=zci c s q n;have E:=c.sq _ (yx (t:=t) (a:=0) n1);have d:(k:Int)∈t.getD 0 []:=by
    rw[<- P];unfold at2;rw[aa (l:=t.getD 0 []),ae (by omega)]
    exact aP _
   obtain⟨j,M,X,C⟩:=Ow d;obtain⟨p,L,J⟩:=LL.at (LL.mono (Ext.one (o:=.lst ((x.take k).map W.int))) h) (i:=0) (by rw[kE];exact n1)
   have z:zo zI (zo zI (zc 1) (zi (.int 0))) (Yc Qt (zo zI (zc 0) (zi (.int 0))) (zc 3)) [some (zq t),some (.ref r),some (.ref A.length),some (.int (k:Int))] (A++[.lst ((x.take k).map W.int)])=.ok (.int (x.getD k 0)) (A++[.lst ((x.take k).map W.int)]):=by
    have e0:zo zI (zc 0) (zi (.int 0)) [some (zq t),some (.ref r),some (.ref A.length),some (.int (k:Int))] (A++[.lst ((x.take k).map W.int)])=.ok (zw (t.getD 0 [])) (A++[.lst ((x.take k).map W.int)]):=(zT (zt rfl) jb).trans (Kr (a:=0) n1);have S:Yc Qt (zo zI (zc 0) (zi (.int 0))) (zc 3) [some (zq t),some (.ref r),some (.ref A.length),some (.int (k:Int))] (A++[.lst ((x.take k).map W.int)])=.ok (.int (j:Int)) (A++[.lst ((x.take k).map W.int)]):=by
     unfold Yc;rw[e0,zP];show R.bind (zc 3 _ _) _=_;rw[zt (w:=.int (k:Int)) rfl,zP];show Qt (.tup ((t.getD 0 []).map W.int)) (.int (k:Int)) _=_;unfold Qt;dsimp only;rw[ag,M];show(true&&((t.getD 0 []).map W.int).all yB)=true;rw[Bool.true_and,bC];intro w hw;obtain⟨v,_,rfl⟩:=qa6.mp hw
     rfl
    refine(zT ((zT (zt rfl) (jb (w:=.int 0))).trans L) S).trans (km J ?_);have D:((jl t x).getD 0 []).length=t.length:=by rw[Oy _ (yx (t:=jl t x) (a:=0) (by rw[kE];exact n1))];exact kE
    rw[int_at (by omega)]
    congr 2
    show at2 (jl t x) 0 j=_;rw[GD n1 (by omega)]
    show mv x ((t.getD 0 []).getD j 0)=_;rw[C];unfold mv;rw[az]
   have Q:=(QY (g:=j4) (a:=zc 2) (zt (i:=2) (w:=.ref A.length) rfl) qL z).trans (YU qL (by rw[ai,bt];omega))
   refine⟨_,_,_,w9 n,(wk (ρ1:=[some (zq t),some (.ref r),some (.ref A.length),some (.int (k:Int))]) (by rw[bz];rfl)).trans ((zH (yd Q)).trans jO),?_,_,rfl⟩
   rw[set_append_right _ _ (aw _),sub_self,take_succ (by omega),aU]
   have:x.getD k 0=x[k]'(by omega):=by rw[aa,ae (by omega)];rfl
   rw[this]
   rfl)
  (λ ρ B _=>wZ (by omega)) K 0 [some (zq t),some (.ref r),some (.ref A.length),none] (A++[.lst []]) (by omega) ⟨rfl,_,rfl⟩
 subst f H;refine⟨A++[.lst ((x.take K).map W.int)],?_,Ext.one⟩
 ·unfold ZR Vb
  refine qS ?_;unfold Rm;refine(zH (ρ1:=[some (zq t),some (.ref r),some (.ref A.length),none]) (A1:=A++[.lst []]) ((qJ (jC zQ)).trans rfl)).trans ?_;refine(zH ((wH hm).trans e)).trans (qG (qZ ((Zc (ko (w:=.ref A.length) (ws:=(x.take K).map W.int) (zt rfl) (by unfold zR;dsimp only;rw[qL]))).trans ?_)))
  rw[List.take_of_length_le (by omega)]
  rfl
end
section
variable {x y:List Int}{k K p g:Nat}{w u v bad bent od:W}{PF:jE}{ty:Ty}{tm:Lm}{q:Str}
theorem Ab (h:wc A w):jK [w,u,v] A=.exc "NoTable" A:=by
 refine kP ?_;unfold JM;exact yR (gE ((zO (zB (zt rfl) zQ)).trans (Ut h)))
theorem AS (h:YD t)(A:Hx):jK [zq t,u,v] A=.exc "NotSteady" A:=by
 refine kP ?_;unfold JM;exact yR (gE ((zO (zB (zt rfl) zQ)).trans (V9 h A)))
theorem Ai (H:qk t)(s:yF t)(a:qB t=(K:Int))(h:wA K A u):jK [zq t,u,v] A=.exc "NoMix" A:=by
 refine kP ?_;unfold JM;exact(zH (yd ((zO (zB (zt rfl) zQ)).trans (Z2 H s A)))).trans (yR (gE ((zO (zB (zt rfl) (zB (zt rfl) zQ))).trans (KL H a h))))
theorem Aq (H:qk t)(s:yF t)(a:qB t=(K:Int))(b:x.length=K)(h:wA K A v):jK [zq t,zw x,v] A=.exc "NoMix" A:=by
 refine kP ?_;unfold JM;exact(zH (yd ((zO (zB (zt rfl) zQ)).trans (Z2 H s A)))).trans ((zH (yd ((zO (zB (zt rfl) (zB (zt rfl) zQ))).trans (QI H (by rw[a,b]) A)))).trans (yR (gE ((zO (zB (zt rfl) (zB (zt rfl) zQ))).trans (KL H a h)))))
theorem za7 (h:wc A w):jM [w,u,v] A=.exc "NoTable" A:=by
 refine kP ?_;unfold JU;exact yR (gE ((zO (zB (zt rfl) zQ)).trans (Ut h)))
theorem zbG (h:YD t)(A:Hx):jM [zq t,u,v] A=.exc "NotSteady" A:=by
 refine kP ?_;unfold JU;exact yR (gE ((zO (zB (zt rfl) zQ)).trans (V9 h A)))
theorem zbz (H:qk t)(s:yF t)(a:qB t=(K:Int))(h:wA K A u):jM [zq t,u,v] A=.exc "NoMix" A:=by
 refine kP ?_;unfold JU;exact(zH (yd ((zO (zB (zt rfl) zQ)).trans (Z2 H s A)))).trans (yR (gE ((zO (zB (zt rfl) (zB (zt rfl) zQ))).trans (KL H a h))))
theorem zbk (H:qk t)(s:yF t)(a:qB t=(K:Int))(b:x.length=K)(h:wA K A v):jM [zq t,zw x,v] A=.exc "NoMix" A:=by
 refine kP ?_;unfold JU;exact(zH (yd ((zO (zB (zt rfl) zQ)).trans (Z2 H s A)))).trans ((zH (yd ((zO (zB (zt rfl) (zB (zt rfl) zQ))).trans (QI H (by rw[a,b]) A)))).trans (yR (gE ((zO (zB (zt rfl) (zB (zt rfl) zQ))).trans (KL H a h)))))
theorem zbD (h:wc A w):jL [w,u,v] A=.exc "NoTable" A:=by
 refine kP ?_;unfold JX;exact yR (gE ((zO (zB (zt rfl) zQ)).trans (Ut h)))
theorem zaK (h:YD t)(A:Hx):jL [zq t,u,v] A=.exc "NotSteady" A:=by
 refine kP ?_;unfold JX;exact yR (gE ((zO (zB (zt rfl) zQ)).trans (V9 h A)))
theorem pow_1 (H:qk t)(s:yF t)(a:qB t=(K:Int))(h:wA K A u):jL [zq t,u,v] A=.exc "NoMix" A:=by
 refine kP ?_;unfold JX;exact(zH (yd ((zO (zB (zt rfl) zQ)).trans (Z2 H s A)))).trans (yR (gE ((zO (zB (zt rfl) (zB (zt rfl) zQ))).trans (KL H a h))))
theorem zaV (H:qk t)(s:yF t)(f:qB t=(K:Int))(a:x.length=K)(c:jw v A=some ty)(h:¬Ok 9 v):jL [zq t,zw x,v] A=.exc "NoNumber" A:=by
 obtain⟨b,e,d⟩:=PD c 9
 have:b=false:=by cases b with
  |false=>rfl|true=>exact absurd (d.mp rfl) h
 rw[this]at e;refine kP ?_;unfold JX;exact(zH (yd ((zO (zB (zt rfl) zQ)).trans (Z2 H s A)))).trans ((zH (yd ((zO (zB (zt rfl) (zB (zt rfl) zQ))).trans (QI H (by rw[f,a]) A)))).trans (yR ((Zg (wJ (kR (k:=false) ((zO (ws:=[v,.int 9]) (A1:=A) rfl).trans e)))).trans (yR rfl))))
theorem zb3 (A:Hx):jS LS 0 [u,w] A=jK [w,u,u] A:=by
 rw[ZZ (t:=JV jM jL jK) rfl];unfold JV kB;dsimp only;exact zO (ws:=[w,u,u]) (A1:=A) rfl
theorem zbZ (A:Hx):jS LS 1 [u,w] A=jM [w,u,u] A:=by
 rw[ZZ (t:=J4 jM jL jK) rfl];unfold J4 kB;dsimp only;exact zO (ws:=[w,u,u]) (A1:=A) rfl
theorem zck (A:Hx):jS LS 2 [u,v,w] A=jL [w,u,v] A:=by
 rw[ZZ (t:=JY jM jL jK) rfl];unfold JY kB;dsimp only;exact zO (ws:=[w,u,v]) (A1:=A) rfl
theorem zcz (A:Hx):jS LS 3 [w,u,v] A=jK [w,v,u] A:=by
 rw[ZZ (t:=Y8 jM jL jK) rfl];unfold Y8 kB;dsimp only;exact zO (ws:=[w,v,u]) (A1:=A) rfl
theorem zcC (A:Hx):jS LS 4 [w,u,v] A=jK [w,u,v] A:=by
 rw[ZZ (t:=Kb jM jL jK) rfl];unfold Kb kB;dsimp only;exact zO (ws:=[w,u,v]) (A1:=A) rfl
theorem zca (A:Hx):jS LS 5 [w,u,v] A=jM [w,v,u] A:=by
 rw[ZZ (t:=Kc jM jL jK) rfl];unfold Kc kB;dsimp only;exact zO (ws:=[w,v,u]) (A1:=A) rfl
theorem zb6 (A:Hx):jS LS 6 [w,u,v] A=jM [w,u,v] A:=by
 rw[ZZ (t:=Y9 jM jL jK) rfl];unfold Y9 kB;dsimp only;exact zO (ws:=[w,u,v]) (A1:=A) rfl
theorem zcw (A:Hx):jS LS 7 [w,u,v] A=jL [w,u,v] A:=by
 rw[ZZ (t:=Kd jM jL jK) rfl];unfold Kd kB;dsimp only;exact zO (ws:=[w,u,v]) (A1:=A) rfl
theorem zcr (A:Hx):jS LS 8 [w,u,v] A=jL [w,u,v] A:=by
 rw[ZZ (t:=J6 jM jL jK) rfl];unfold J6 kB;dsimp only;exact zO (ws:=[w,u,v]) (A1:=A) rfl
theorem Vp (e:A[1]? =some (.tab ql Pt))(t:LS[k]? =some tm)(d:kH tm.idx ρ=some ws)(b:jS LS k ws A=.exc q A)(h:kS q=some g)(H:ρ[8]? =some (some (.ref p)))(a:A[p]? =some (.lst [.int (g:Int)])):∃B,zo q9 (wI LS PF (gf RF) (zh (j6 1 ql Pt k (PF k)) zm)) (zc 8) ρ A=.ok (.bl false) B/\Ext A B:=by
 have E:wI LS PF (gf RF) (zh (j6 1 ql Pt k (PF k)) zm) ρ A=.ok (.ref (A.length+9)) (A++GX g):=by
  unfold wI;rw[zB (WZ e k) zQ,zP]
  have:gK LS PF ρ [.clo k [] (PF k)]=some [.clo k ws (PF k)]:=by
   unfold gK Yv;dsimp only;rw[ag rfl,t];dsimp only;rw[d]
   rfl
  rw[this];exact GO b h
 have x1:Ext A (A++GX g):=⟨_,rfl⟩;have c:(A++GX g)[A.length+9]? =some (.lst [.int (g:Int)]):=by rw[aq (by omega),show A.length+9 - A.length=9 by omega];rfl
 refine⟨A++GX g,(zT E (zt H)).trans ((YB (l:=[(g:Int)]) (m:=[(g:Int)]) c (x1.at a)).trans ?_),x1⟩;rw[aJ rfl]<;>rfl
theorem OC {ma mb:Ev}{A2:Hx}(H:ma ρ A=.ok u A1)(h:mb ρ A1=.ok v A2):Ys i j ma mb ρ A=.ok (.nx ((ρ.set i (some u)).set j (some v))) A2:=by
 unfold Ys;rw[H,zP,h,zP]
abbrev TB (Pt:Addr)(PF:jE):Ex:=zr (qM (zo q9 (wI (yG jM jL jK) PF (gf RF) (zh (j6 1 ql Pt 0 (PF 0)) zm)) (zc 8)) (zr (qd (zi (.bl false))) zA) zA) (zr (qM (zo q9 (wI (yG jM jL jK) PF (gf RF) (zh (j6 1 ql Pt 1 (PF 1)) zm)) (zc 8)) (zr (qd (zi (.bl false))) zA) zA) (zr (qM (zo q9 (wI (yG jM jL jK) PF (gf RF) (zh (j6 1 ql Pt 2 (PF 2)) zm)) (zc 8)) (zr (qd (zi (.bl false))) zA) zA) zA))
theorem P1 {x0 x1 x2 x3 x4 x9:Option W}(a:A[1]? =some (.tab ql Pt))(h:kS q=some g)(H:A[p]? =some (.lst [.int (g:Int)]))(n:∀B,Ext A B->jK [w,bent,bent] B=.exc q B)(f:∀B,Ext A B->jM [w,bent,bent] B=.exc q B)(L:∀B,Ext A B->jL [w,bent,od] B=.exc q B):
  ∃B,TB Pt PF [x0,x1,x2,x3,x4,some bent,some od,some w,some (.ref p),x9] A=.ok (.nx [x0,x1,x2,x3,x4,some bent,some od,some w,some (.ref p),x9]) B/\Ext A B:=by
 obtain⟨c,r,Y⟩:=Vp (k:=0) (PF:=PF) (ρ:=[x0,x1,x2,x3,x4,some bent,some od,some w,some (.ref p),x9]) (tm:=JV jM jL jK) a rfl (U2 (i:=5) (j:=7) rfl rfl) ((zb3 A).trans (n A Ext.refl)) h rfl H;obtain⟨b,o,e⟩:=Vp (k:=1) (PF:=PF) (ρ:=[x0,x1,x2,x3,x4,some bent,some od,some w,some (.ref p),x9]) (tm:=J4 jM jL jK) (Y.at a) rfl (U2 (i:=5) (j:=7) rfl rfl) ((zbZ c).trans (f c Y)) h rfl (Y.at H);have y:=Y.trans e;obtain⟨s,E,d⟩:=Vp (k:=2) (PF:=PF) (ρ:=[x0,x1,x2,x3,x4,some bent,some od,some w,some (.ref p),x9]) (tm:=JY jM jL jK) (y.at a) rfl (Jj (i:=5) (j:=6) (l:=7) rfl rfl rfl) ((zck b).trans (L b y)) h rfl (y.at H);exact⟨s,(zH ((yr r).trans jO)).trans ((zH ((yr o).trans jO)).trans ((zH ((yr E).trans jO)).trans jO)),y.trans d⟩
theorem Ae {x0 x1 x2 x3 x4 x5 x6 x7 x8 x9:Option W}(h:A[1]? =some (.tab ql Pt))(m:Ex):
  zr (zY 9 (zU (zh (j6 1 ql Pt 3 (PF 3)) zm))) (zr (jx (jQ j4 (zc 9) (j6 1 ql Pt 4 (PF 4)))) (zr (jx (jQ j4 (zc 9) (j6 1 ql Pt 5 (PF 5)))) (zr (jx (jQ j4 (zc 9) (j6 1 ql Pt 6 (PF 6)))) (zr (jx (jQ j4 (zc 9) (j6 1 ql Pt 7 (PF 7)))) m)))) [x0,x1,x2,x3,x4,x5,x6,x7,x8,x9] A=
   m [x0,x1,x2,x3,x4,x5,x6,x7,x8,some (.ref A.length)] (A++[.lst ([3,4,5,6,7].map λ k=>.clo k [] (PF k))]):=by
 have set_new:∀o o':O,(A++[o]).set A.length o'=A++[o']:=λ o o'=>by rw[set_append_right _ _ (aw _),sub_self];rfl
 have one:∀(l:List W)(k:Nat),l.length<100->jx (jQ j4 (zc 9) (j6 1 ql Pt k (PF k))) [x0,x1,x2,x3,x4,x5,x6,x7,x8,some (.ref A.length)] (A++[.lst l])=.ok (.nx [x0,x1,x2,x3,x4,x5,x6,x7,x8,some (.ref A.length)]) (A++[.lst (l++[.clo k [] (PF k)])]):=λ l k H=>
  yd (w:=.non) ((QY (zt rfl) qL (WZ (j5 h) k)).trans ((YU qL (by omega)).trans (by rw[set_new])))
 refine(zH (ρ1:=[x0,x1,x2,x3,x4,x5,x6,x7,x8,some (.ref A.length)]) (A1:=A++[.lst [.clo 3 [] (PF 3)]]) ((qJ (jC (zB (WZ h 3) zQ))).trans rfl)).trans ?_;exact(zH (one _ 4 (by simp))).trans ((zH (one _ 5 (by simp))).trans ((zH (one _ 6 (by simp))).trans ((zH (one _ 7 (by simp))).trans rfl)))
theorem no9:∀w∈([.int (-1),.int 9,.bl true,.non,.str "1",.tup [.int 1],.int (10 ^ 29)]:List W),NoN 9 w:=λ w hw=>by
 simp only[mem_cons,not_mem_nil,or_false]at hw;rcases hw with rfl|rfl|rfl|rfl|rfl|rfl|rfl
 ·exact⟨⟨.int,λ _=>rfl⟩,by rintro⟨v,e,h⟩;injection e with e;omega⟩
 ·exact⟨⟨.int,λ _=>rfl⟩,by rintro⟨v,e,h⟩;injection e with e;omega⟩
 ·exact⟨⟨.bl,λ _=>rfl⟩,by rintro⟨v,e,h⟩;cases e⟩
 ·exact⟨⟨.non,λ _=>rfl⟩,by rintro⟨v,e,h⟩;cases e⟩
 ·exact⟨⟨.str,λ _=>rfl⟩,by rintro⟨v,e,h⟩;cases e⟩
 ·exact⟨⟨.tup,λ _=>rfl⟩,by rintro⟨v,e,h⟩;cases e⟩
 ·exact⟨⟨.int,λ _=>rfl⟩,by rintro⟨v,e,h⟩;injection e with e;omega⟩
theorem Cy {b:Bool}{c:Int}(s:qX 0 [.lst [.int c,.bl b],.tab ql Pt])(j:qk t)(st:yF t)(p:qB t=(K:Int))(N:x.length=K):
  ∃(J:Int) (P:Bool),(0<=J/\(P=false->J<2147483647))/\∀PF,∃B,qH 10 (K3 QN QP yk QO jM jL jK RF Pt PF) [.ref 0,zq t,zw x] [.lst [.int c,.bl b],.tab ql Pt]=.ok (.bl true) B/\B[0]? =some (.lst [.int J,.bl P])/\B[1]? =some (.tab ql Pt):=by
 have kb:=wL j;obtain⟨bad,A1,e1,hb,k1⟩:=zaD s;obtain⟨U,A2,e2,k2⟩:=Af k1.st;obtain⟨bent,A3,e3,E,k3⟩:=Av (r:=x) k2.st (by omega) (by omega)
 rw[N]at E;obtain⟨od,d,e4,m4,M⟩:=AW (k:=7) (ρ:=[some (.ref 0),some (zq t),some (zw x),some bad,some (zq (jq U)),some bent,none,none,none,none]) (a:=zh (jJ QG (zi (.int 1))) (zh (zi (.int 9)) (zh (zi (.bl true)) (zh (zi .non) (zh (zi (.str "1")) (zh (zC (zh (zi (.int 1)) zm)) (zh (zo Qa (zi (.int 10)) (zi (.int 29))) zm))))))) (vs:=[.int (-1),.int 9,.bl true,.non,.str "1",.tup [.int 1],.int (10 ^ 29)]) k3.st rfl (zB (x:=.int (-1)) rfl (zB jb (zB jb (zB jb (zB jb (zB (Kg (zB jb zQ)) (zB (zcn A3) zQ))))))) rfl (by decide) (by decide)
 obtain⟨⟨ty,S⟩,Y⟩:=no9 od m4;have Q:=((k1.trans k2).trans k3).trans M;have T:d[1]? =some (.tab ql Pt):=Q.kp.get (by rfl) (by decide)
 have b4:=hb.mono (((k2.trans k3).trans M).ky k1.st);have bt4:=E.mono (M.ky k3.st);obtain⟨J,P,s4,g4⟩:=M.st;refine⟨J,P,g4,λ PF=>?_⟩;have h5a:(d++[O.lst [.int 0]]++[O.lst [.int 1]])[d.length]? =some (.lst [.int 0]):=j5 qL;have Z:(d++[O.lst [.int 0]]++[O.lst [.int 1]])[d.length+1]? =some (.lst [.int 1]):=by
  have:=qL (A:=d++[O.lst [.int 0]]) (u:=O.lst [.int 1])
  rw[ay]at this;exact this
 have el:zU (zh (zC (zh (zc 3) (zh (zU (zh (zi (.int 0)) zm)) zm))) (zh (zC (zh (zc 4) (zh (zU (zh (zi (.int 1)) zm)) zm))) zm)) [some (.ref 0),some (zq t),some (zw x),some bad,some (zq (jq U)),some bent,some od,none,none,none] d=.ok (.ref (d.length+2)) (d++[O.lst [.int 0]]++[O.lst [.int 1]]++[O.lst [.tup [bad,.ref d.length],.tup [zq (jq U),.ref (d.length+1)]]]):=by
  refine(jC (zB (x:=.tup [bad,.ref d.length]) (A1:=d++[O.lst [.int 0]]) (Kg (zB (zt rfl) (zB (jC (zB jb zQ)) zQ))) (zB (x:=.tup [zq (jq U),.ref (d++[O.lst [.int 0]]).length]) (Kg (zB (zt rfl) (zB (jC (zB jb zQ)) zQ))) zQ))).trans ?_;simp
 have x5:Ext d (d++[O.lst [.int 0]]++[O.lst [.int 1]]++[O.lst [.tup [bad,.ref d.length],.tup [zq (jq U),.ref (d.length+1)]]]):=(Ext.one.app).app;have I:(d++[O.lst [.int 0]]++[O.lst [.int 1]]++[O.lst [.tup [bad,.ref d.length],.tup [zq (jq U),.ref (d.length+1)]]])[d.length+2]? =some (.lst [.tup [bad,.ref d.length],.tup [zq (jq U),.ref (d.length+1)]]):=by
  have:=qL (A:=d++[O.lst [.int 0]]++[O.lst [.int 1]]) (u:=O.lst [.tup [bad,.ref d.length],.tup [zq (jq U),.ref (d.length+1)]])
  simpa using this
 have e:=j5 (u:=O.lst [.tup [bad,.ref d.length],.tup [zq (jq U),.ref (d.length+1)]]) h5a;have H:=j5 (u:=O.lst [.tup [bad,.ref d.length],.tup [zq (jq U),.ref (d.length+1)]]) Z;generalize d++[O.lst [.int 0]]++[O.lst [.int 1]]++[O.lst [.tup [bad,.ref d.length],.tup [zq (jq U),.ref (d.length+1)]]]=A5 at el x5 I e H;obtain⟨A6,e6,x6⟩:=P1 (PF:=PF) (x0:=some (.ref 0)) (x1:=some (zq t)) (x2:=some (zw x)) (x3:=some bad) (x4:=some (zq (jq U))) (x9:=none) (bent:=bent) (od:=od) (w:=bad) (g:=0) (q := "NoTable") (x5.at T) L1 e (λ B y=>Ab (b4.mono (x5.trans y).ky)) (λ B y=>za7 (b4.mono (x5.trans y).ky)) (λ B y=>zbD (b4.mono (x5.trans y).ky));have D:=x5.trans x6;obtain⟨o,e7,x7⟩:=P1 (PF:=PF) (x0:=some (.ref 0)) (x1:=some (zq t)) (x2:=some (zw x)) (x3:=some bad) (x4:=some (zq (jq U))) (x9:=none) (bent:=bent) (od:=od) (w:=zq (jq U)) (g:=1) (q := "NotSteady") (D.at T) Ln (x6.at H) (λ B y=>AS (V4 U) B) (λ B y=>zbG (V4 U) B) (λ B y=>zaK (V4 U) B);have f:=D.trans x7;have t7:=f.at T;generalize h:([some (.ref 0),some (zq t),some (zw x),some bad,some (zq (jq U)),some bent,some od,some (zq (jq U)),some (.ref (d.length+1)),some (.ref o.length)]:En)=v;generalize l:o++[O.lst (([3,4,5,6,7]:List Nat).map λ k=>W.clo k [] (PF k))]=A8;have C:Ext o A8:=⟨_,l.symm⟩;have L:∀B,Ext o B->wA K B bent:=λ B y=>bt4.mono (f.trans y).ky;have r8:GQ 4 o v [3,4,5,6,7]:=λ k hk=>by
  simp only[mem_cons,not_mem_nil,or_false]at hk;rcases hk with rfl|rfl|rfl|rfl|rfl
  ·exact⟨_,[zq t,zw x,bent],rfl,by rw[<- h];exact Jj rfl rfl rfl,λ A y=>KC ((zcz A).trans (Ai j st p (L A y))) YW⟩
  ·exact⟨_,[zq t,zw x,bent],rfl,by rw[<- h];exact Jj rfl rfl rfl,λ A y=>KC ((zcC A).trans (Aq j st p N (L A y))) YW⟩
  ·exact⟨_,[zq t,zw x,bent],rfl,by rw[<- h];exact Jj rfl rfl rfl,λ A y=>KC ((zca A).trans (zbz j st p (L A y))) YW⟩
  ·exact⟨_,[zq t,zw x,bent],rfl,by rw[<- h];exact Jj rfl rfl rfl,λ A y=>KC ((zb6 A).trans (zbk j st p N (L A y))) YW⟩
  ·exact⟨_,[zq t,bent,od],rfl,by rw[<- h];exact Jj rfl rfl rfl,λ A y=>KC ((zcw A).trans (pow_1 j st p (L A y))) YW⟩
 obtain⟨A9,e9,x9⟩:=C0 (PF:=PF) (n:=5) (c:=o.length) (g:=4) r8 C (by rw[<- l];exact qL) (by rw[<- h];rfl) (by simp) rfl (by decide +kernel)
 have z:=C.trans x9;obtain⟨A10,e10,x10⟩:=Hm (k:=8) (g:=5) (PF:=PF) (ρ:=v) (A:=A9) (t:=J6 jM jL jK) (ws:=[zq t,zw x,od]) (x := "NoNumber") (z.at t7) rfl (by rw[<- h];exact Jj rfl rfl rfl) ((zcr A9).trans (zaV j st p N (S A9) Y)) LA
 have X:=(f.trans z).trans x10;refine⟨A10,qS ?_,X.at s4,X.at T⟩;unfold K3;refine(zH (ρ1:=[some (.ref 0),some (zq t),some (zw x),some bad,some (zq (jq U)),none,none,none,none,none]) (A1:=A2) (OC ((zO (zB (zt rfl) zQ)).trans e1) ((zO (zB (zt rfl) zQ)).trans e2))).trans ?_;refine(zH (ρ1:=[some (.ref 0),some (zq t),some (zw x),some bad,some (zq (jq U)),some bent,none,none,none,none]) (A1:=A3) ((qJ ((zO (zB (zt rfl) (zB (zt rfl) zQ))).trans e3)).trans rfl)).trans ?_;refine(zH (ρ1:=[some (.ref 0),some (zq t),some (zw x),some bad,some (zq (jq U)),some bent,some od,none,none,none]) (A1:=d) ((qJ e4).trans rfl)).trans ?_;refine(zH (ρ1:=[some (.ref 0),some (zq t),some (zw x),some bad,some (zq (jq U)),some bent,some od,some (zq (jq U)),some (.ref (d.length+1)),none]) (A1:=o) ((wH (Q5 el I)).trans ?_)).trans ?_
 ·show yo _ _ 2 0 _ _=_
  rw[yo];have a0:=Kj (i:=0) I rfl;dsimp only;rw[a0];dsimp only;rw[(wk (ρ1:=[some (.ref 0),some (zq t),some (zw x),some bad,some (zq (jq U)),some bent,some od,some bad,some (.ref d.length),none]) rfl).trans e6,zP];dsimp only;rw[yo];have a1:=Kj (i:=1) (x6.at I) rfl;dsimp only;rw[a1];dsimp only;rw[(wk (ρ1:=[some (.ref 0),some (zq t),some (zw x),some bad,some (zq (jq U)),some bent,some od,some (zq (jq U)),some (.ref (d.length+1)),none]) rfl).trans e7,zP];dsimp only;rw[yo];have a2:=Gv (i:=2) ((x6.trans x7).at I) (aw _);dsimp only;rw[a2]
 refine(Ae t7 _).trans ?_;rw[h,l];exact(zH ((yr e9).trans jO)).trans (qG (qZ e10))
def Ge (Pt:Addr):Fn:=Yp ql Pt λ PF=>qH 10 (K3 QN QP yk QO jM jL jK RF Pt PF)
theorem CU (s:qX n A)(j:A[1]? =some (.tab ql Pt))(d:qk t)(st:yF t)(i:qB t=(K:Int))(H:x.length=K):∃B,Ge Pt [.ref n,zq t,zw x] A=.ok (.bl true) B/\Kn n A B:=by
 obtain⟨c,b,e,f⟩:=s;have l:=wY e;obtain⟨C,a,g,h⟩:=Cy (Pt:=Pt) (b:=b) (c:=c) (x:=x) ⟨c,b,rfl,f⟩ d st i H;refine⟨A.set n (.lst [.int C,.bl a]),Oq ⟨n,[zq t,zw x],[.int c,.bl b],.bl true,[.int C,.bl a],rfl,e,j,rfl,by show((zq t).nr&&((zw x).nr&&true))=true;rw[ZW,w5];rfl,rfl,rfl,rfl,h⟩,Kp.set,C,a,aG l,g⟩
end
section
variable {x y:List Int}{k K p q r:Nat}{w:W}{S:Nat->List (List Int)}
theorem Uv (h:x.length<=100)(A:Hx):gA [zw x,zw x] A=.ok (.bl true) A:=
 HG (ws:=x.map W.int) (ty:=.tup) rfl rfl rfl rfl (.inl rfl) (by simp;omega) λ w hw=>by
  obtain⟨v,_,rfl⟩:=qa6.mp hw;exact HC v A
theorem HI (s:Sm x)(c b:Nat):-1000000000000000<at2 (jl t x) c b/\at2 (jl t x) c b<1000000000000000:=by
 by_cases h:c<t.length
 ·by_cases H:b<t.length
  ·rw[GD h H];exact zbB s _
  ·have:at2 (jl t x) c b=0:=by
    unfold at2 jl jv;rw[aa (l:=List.map _ _) (i:=c),ar,aO h];show(List.map _ (List.range t.length)).getD b 0=0;rw[aa,aC (by simp;omega)]
    rfl
   rw[this];exact⟨by decide,by decide⟩
 ·have:at2 (jl t x) c b=0:=by
   unfold at2 jl jv;rw[aa (l:=List.map _ _) (i:=c),aC (by simp;omega)]
   rfl
  rw[this];exact⟨by decide,by decide⟩
theorem Ny:∀r∈jl t x,r.length=(jl t x).length:=Oy
theorem PM (H:qk t)(d:qB t=(K:Int))(c:∀a b,a<t.length->b<t.length->jX t K a b=S (at2 t a b).toNat)(sy:Sm y)(g:LL (jl t x) r A)(f:LL (jl t y) q A):∃p B,Zt [.ref r,.ref q] A=.ok (.ref p) B/\LL (jl t (pv K S x y)) p B/\Ext A B:=by
 have n8:=H.n8;obtain⟨p,B,e,h,X⟩:=zaW Ny Ny (by rw[kE,kE]) (by rw[kE];exact n8) (HI sy) g f
 rw[zaT H d c]at h;exact⟨p,B,e,h,X⟩
theorem Ac (d:qk t)(j:ρ[3]? =some (some (zq t)))(A:Hx):∃r B,qp (zS 1 [3] (qW (mQ qy (qf (zc 3)))) (zN 0) (zi (.bl true)) (zK (qp (zS 1 [0] (qW (mQ qy (qf (zc 1)))) (zN 0) (zi (.bl true)) (zK (jJ Zj (zo jn (zc 1) (zc 0)))))))) ρ A=.ok (.ref r) B/\LL (jl t (e0 K)) r B/\Ext A B:=by
 have n8:=d.n8;have hm:=gD (len_tab (A:=A) j) (wX (n:=t.length) (by omega))
 rw[az]at hm;have l:([3].map λ i=>(ρ[i]?).join)=[some (zq t)]:=by
  simp only[aV,map_nil,j]
  rfl
 refine Ol (M:=jl t (e0 K)) (jt:=wq 0 t.length) (item:=λ i=>.int (0+(i:Int))) (by rw[kE];exact n8) hm (by rw[kE];rfl) (λ B _ i H=>by rw[kE]at H;exact w9 H) (λ B _=>by rw[kE];exact wZ (by omega)) λ B _ a c=>?_
 rw[kE]at c;rw[l,bz];have h:=gD (len_tab (t:=t) (i:=1) (ρ:=[some (.int (a:Int)),some (zq t)]) (A:=B) rfl) (wX (n:=t.length) (by omega))
 rw[az]at h;have E:=g9 (cap:=[0]) (me:=jJ Zj (zo jn (zc 1) (zc 0))) (ρ:=[some (.int (a:Int)),some (zq t)]) (A:=B) (N:=t.length) (item:=λ i=>.int (0+(i:Int))) (g:=λ b=>.int (mv (e0 K) (at2 t a b))) h rfl (by unfold zX;omega) (λ i H=>w9 H) (wZ (by omega)) (λ b f=>by
  rw[bz];have e:zo jn (zc 1) (zc 0) (some (.int (b:Int))::[0].map λ i=>(([some (.int (a:Int)),some (zq t)]:En)[i]?).join) B=.ok (.bl (decide ((a:Int)=(b:Int)))) B:=(zT (zt rfl) (zt rfl)).trans (Jt _ _ _);rw[zaI _ (Z5 d c f).1];have hd:=d.dg a b c f
  by_cases z:a=b
  ·rw[aJ (by omega)]at e
   rw[ag (hd.mpr z)];unfold jJ;rw[e]
   rfl
  ·rw[aK (by omega)]at e
   rw[ak (λ v=>z (hd.mp v))];unfold jJ;rw[e]
   rfl)
 have o:(jl t (e0 K)).getD a []=(List.range t.length).map λ b=>mv (e0 K) (at2 t a b):=by
  unfold jl jv;rw[aa,ar,aO c]
  rfl
 have em:((List.range t.length).map λ b=>W.int (mv (e0 K) (at2 t a b)))=((jl t (e0 K)).getD a []).map W.int:=by rw[o,aQ];rfl
 rw[em]at E;exact wG E
abbrev B9:Ex:=zr (qM (yH (zF gA (zh (zF J2 (zh (zc 3) (zh (zc 5) (zh (zc 11) zm)))) (zh (zF ZR (zh (zc 3) (zh (zc 10) zm))) zm)))) (zr (qd (zi (.bl false))) zA) zA) (zr (zY 10 (zF Zt (zh (zc 10) (zh (zF wW (zh (zc 3) (zh (zc 5) zm))) zm)))) zA)
theorem zbU {m:Nat}{x0 x1 x2 x4 x6 x7 x8 x9:Option W}(H:qk t)(st:yF t)(e:qB t=(K:Int))(i:∀a b,a<t.length->b<t.length->jX t K a b=S (at2 t a b).toNat)(g:x.length=K)(s:Sm x)(hm:m<=8)(h:LL (jl t (pw K S x m)) r A):
  ∃B d,B9 [x0,x1,x2,some (zq t),x4,some (zw x),x6,x7,x8,x9,some (.ref r),some (.int (m:Int))] A=.ok (.nx [x0,x1,x2,some (zq t),x4,some (zw x),x6,x7,x8,x9,some (.ref d),some (.int (m:Int))]) B/\LL (jl t (pw K S x (m+1))) d B/\Ext A B:=by
 have v:=wL H;have l:=pw_len (K:=K) (S:=S) (x:=x) (by omega) m
 obtain⟨A1,p,c⟩:=OX H st e l h;obtain⟨q,A2,o,n,X⟩:=Gw H e g A1;obtain⟨d,u,E,j,f⟩:=PM H e i s (LL.mono (c.trans X) h) n;refine⟨u,d,?_,j,(c.trans X).trans f⟩;refine(zH ((yr (kR (k:=true) ((zO (zB ((zO (zB (zt rfl) (zB (zt rfl) (zB (zt rfl) zQ)))).trans (Bf H st e i g s hm A)) (zB ((zO (zB (zt rfl) (zB (zt rfl) zQ))).trans p) zQ))).trans (Uv (by omega) A1)))).trans jO)).trans ?_
 exact(zH ((qJ ((zO (zB (zt rfl) (zB ((zO (zB (zt rfl) (zB (zt rfl) zQ))).trans o) zQ))).trans E)).trans rfl)).trans jO
abbrev BL (Pt:Addr):Ex:=zr (zY 2 (zF JC (zh (zc 0) (zh (zc 1) zm)))) (zr (zY 3 (zF QT (zh (zc 2) zm))) (zr (zY 4 (zF Qp (zh (zc 3) zm))) (zr (Ys 5 6 (zF ZS (zh (zc 2) (zh (zc 4) zm))) (zF ZS (zh (zc 2) (zh (zc 4) zm)))) (zr (zY 7 (zF Zt (zh (zF wW (zh (zc 3) (zh (zc 5) zm))) (zh (zF wW (zh (zc 3) (zh (zc 6) zm))) zm)))) (zr (zY 8 (zF JI (zh (zc 3) (zh (zc 5) (zh (zc 6) zm))))) (zr (qM (gW (yH (zF gA (zh (zc 8) (zh (zF ZR (zh (zc 3) (zh (zc 7) zm))) zm)))) (zo q9 (zF wW (zh (zc 3) (zh (zc 8) zm))) (zc 7))) (zr (qd (zi (.bl false))) zA) zA) (zr (zY 9 (mQ yi (zS 2 [] (k9 (zc 5) (zc 6)) (jj 0 1) (zi (.bl true)) (zK (zo qx (zc 0) (zc 1)))))) (zr (qM (yH (zF gA (zh (zF JW (zh (zc 3) (zh (zc 5) (zh (zc 6) zm)))) (zh (zc 9) zm)))) (zr (qd (zi (.bl false))) zA) zA) (zr (zY 10 (qp (zS 1 [3] (qW (mQ qy (qf (zc 3)))) (zN 0) (zi (.bl true)) (zK (qp (zS 1 [0] (qW (mQ qy (qf (zc 1)))) (zN 0) (zi (.bl true)) (zK (jJ Zj (zo jn (zc 1) (zc 0)))))))))) (zr (yv (qW (zi (.int 9))) (zN 11) B9) (zr (qM (yH (zF (Ge Pt) (zh (zc 2) (zh (zc 3) (zh (zc 5) zm))))) (zr (qd (zi (.bl false))) zA) zA) zA)))))))))))
theorem CW {x2 x3 x4 x5 x6 x7 x8 x9 x10 x11:Option W}(h0:A[0]? =some (.ro (ns.map W.int)))(h1:A[1]? =some (.tab ql Pt)):∃y2 y3 y4 y5 y6 y7 y8 y9 L Y B,BL Pt [some (.ref 0),some (.int (i:Int)),x2,x3,x4,x5,x6,x7,x8,x9,x10,x11] A=.ok (.nx [some (.ref 0),some (.int (i:Int)),y2,y3,y4,y5,y6,y7,y8,y9,L,Y]) B/\B[0]? =some (.ro (ns.map W.int))/\B[1]? =some (.tab ql Pt):=by
 obtain⟨o,eS,Z⟩:=CK h0 i;have hA:=wY h1;have a0:=j5 (u:=o) h0;have a1:=j5 (u:=o) h1;generalize hn:A.length=n at*;generalize A++[o]=A1 at*;obtain⟨t,A2,e2,H,kn,k2,_⟩:=DP Z;have st:=LR kn;have kb:=wL H;obtain⟨K,b⟩:=aS (show 0<=qB t by omega)
 obtain⟨S,hS⟩:=Ec H st K;obtain⟨x,A3,e3,E,sx,k3⟩:=Np (K:=K) k2.st (by omega)
 obtain⟨y,A4,e4,U,sy,k4⟩:=Np (K:=K) k3.st (by omega)
 have C:=(k2.trans k3).trans k4;obtain⟨r1,A5,e5,h5,P⟩:=Gw H b E A4;obtain⟨r2,A6,e6,h6,v⟩:=Gw H b U A5;obtain⟨a,A7,e7,h7,M⟩:=PM H b hS sy (LL.mono v h5) h6;obtain⟨A8,e8,s⟩:=OX (x:=pv K S x y) H st b Gp h7;obtain⟨r9,J,e9,h9,l⟩:=Gw (x:=pv K S x y) H b Gp A8;have e9':=zco h9 (LL.mono (s.trans l) h7);have el9:=Nh (ρ:=[some (.ref 0),some (.int (i:Int)),some (.ref n),some (zq t),some (.int (K:Int)),some (zw x),some (zw y),some (.ref a),some (zw (pv K S x y)),x9,x10,x11]) (A:=J) (q:=5) (p:=6) (x:=x) (y:=y) (by omega) (by omega) rfl rfl
 obtain⟨c,g,e10,h10,z⟩:=Ac (K:=K) (ρ:=[some (.ref 0),some (.int (i:Int)),some (.ref n),some (zq t),some (.int (K:Int)),some (zw x),some (zw y),some (.ref a),some (zw (pv K S x y)),some (zw (av x y)),x10,x11]) H rfl J;obtain⟨ρ',A11,e11,⟨Q,h11,Y,f⟩,w⟩:=g8 (j:=wq 0 9) (st:=turn (zN 11) B9) (N:=9) (I:=λ m ρ B=>(∃r,LL (jl t (pw K S x m)) r B/\∃Y,ρ=[some (.ref 0),some (.int (i:Int)),some (.ref n),some (zq t),some (.int (K:Int)),some (zw x),some (zw y),some (.ref a),some (zw (pv K S x y)),some (zw (av x y)),some (.ref r),Y])/\Ext g B)
  (λ m ρ B hm ⟨⟨r,h,Y,f⟩,xB⟩=>by
   subst f;obtain⟨B',r',e,h',xx⟩:=zbU (x0:=some (.ref 0)) (x1:=some (.int (i:Int))) (x2:=some (.ref n)) (x4:=some (.int (K:Int))) (x6:=some (zw y)) (x7:=some (.ref a)) (x8:=some (zw (pv K S x y))) (x9:=some (zw (av x y))) H st b hS E sx (show m<=8 by omega) h
   exact⟨_,_,B',w9 hm,(wk (ρ1:=[some (.ref 0),some (.int (i:Int)),some (.ref n),some (zq t),some (.int (K:Int)),some (zw x),some (zw y),some (.ref a),some (zw (pv K S x y)),some (zw (av x y)),some (.ref r),some (.int (m:Int))]) (by rw[bz];rfl)).trans e,⟨r',h',_,rfl⟩,xB.trans xx⟩)
  (λ ρ B _=>wZ (by omega)) 9 0 [some (.ref 0),some (.int (i:Int)),some (.ref n),some (zq t),some (.int (K:Int)),some (zw x),some (zw y),some (.ref a),some (zw (pv K S x y)),some (zw (av x y)),some (.ref c),x11] g (by omega) ⟨⟨c,h10,_,rfl⟩,Ext.refl⟩
 subst f;have X:=((((((P.trans v).trans M).trans s).trans l).trans z).trans w);have d:=C.trans (Kn.ext C.st X);have b1:=d.kp.get a1 (by omega)
 obtain⟨A12,e12,T⟩:=CU (x:=x) d.st b1 H st b E;have D:=d.trans T;refine⟨some (.ref n),some (zq t),some (.int (K:Int)),some (zw x),some (zw y),some (.ref a),some (zw (pv K S x y)),some (zw (av x y)),some (.ref Q),Y,A12,?_,D.kp.get a0 (by omega),D.kp.get a1 (by omega)⟩
 refine(zH (ρ1:=[some (.ref 0),some (.int (i:Int)),some (.ref n),x3,x4,x5,x6,x7,x8,x9,x10,x11]) (A1:=A1) ((qJ ((zO (ws:=[.ref 0,.int i]) (A1:=A) rfl).trans eS)).trans rfl)).trans ?_;refine(zH (ρ1:=[some (.ref 0),some (.int (i:Int)),some (.ref n),some (zq t),x4,x5,x6,x7,x8,x9,x10,x11]) (A1:=A2) ((qJ ((zO (ws:=[.ref n]) (A1:=A1) rfl).trans e2)).trans rfl)).trans ?_;refine(zH (ρ1:=[some (.ref 0),some (.int (i:Int)),some (.ref n),some (zq t),some (.int (K:Int)),x5,x6,x7,x8,x9,x10,x11]) (A1:=A2) ((qJ ((zO (zB (zt (i:=3) rfl) zQ)).trans ((Pw H A2).trans (by rw[b])))).trans rfl)).trans ?_
 refine(zH (ρ1:=[some (.ref 0),some (.int (i:Int)),some (.ref n),some (zq t),some (.int (K:Int)),some (zw x),some (zw y),x7,x8,x9,x10,x11]) (A1:=A4) (OC ((zO (zB (zt (i:=2) rfl) (zB (zt (i:=4) rfl) zQ))).trans e3) ((zO (zB (zt (i:=2) rfl) (zB (zt (i:=4) rfl) zQ))).trans e4))).trans ?_;refine(zH (ρ1:=[some (.ref 0),some (.int (i:Int)),some (.ref n),some (zq t),some (.int (K:Int)),some (zw x),some (zw y),some (.ref a),x8,x9,x10,x11]) (A1:=A7) ((qJ ((zO (zB ((zO (zB (zt (i:=3) rfl) (zB (zt (i:=5) rfl) zQ))).trans e5) (zB ((zO (zB (zt (i:=3) rfl) (zB (zt (i:=6) rfl) zQ))).trans e6) zQ))).trans e7)).trans rfl)).trans ?_;refine(zH (ρ1:=[some (.ref 0),some (.int (i:Int)),some (.ref n),some (zq t),some (.int (K:Int)),some (zw x),some (zw y),some (.ref a),some (zw (pv K S x y)),x9,x10,x11]) (A1:=A7) ((qJ ((zO (zB (zt (i:=3) rfl) (zB (zt (i:=5) rfl) (zB (zt (i:=6) rfl) zQ)))).trans (zan H st b hS E U sy A7))).trans rfl)).trans ?_;refine(zH ((yr ((GC (kR (k:=true) ((zO (zB (zt (i:=8) rfl) (zB ((zO (zB (zt (i:=3) rfl) (zB (zt (i:=7) rfl) zQ))).trans e8) zQ))).trans (Uv (by rw[Gp];omega) A8)))).trans ((zT ((zO (zB (zt (i:=3) rfl) (zB (zt (i:=8) rfl) zQ))).trans e9) (zt (i:=7) rfl)).trans e9'))).trans jO)).trans ?_
 refine(zH (ρ1:=[some (.ref 0),some (.int (i:Int)),some (.ref n),some (zq t),some (.int (K:Int)),some (zw x),some (zw y),some (.ref a),some (zw (pv K S x y)),some (zw (av x y)),x10,x11]) (A1:=J) ((qJ el9).trans rfl)).trans ?_;refine(zH ((yr (kR (k:=true) ((zO (zB ((zO (zB (zt (i:=3) rfl) (zB (zt (i:=5) rfl) (zB (zt (i:=6) rfl) zQ)))).trans (DO H st b E U J)) (zB (zt (i:=9) rfl) zQ))).trans (Uv (by unfold av;rw[ai,aN];omega) J)))).trans jO)).trans ?_
 refine(zH (ρ1:=[some (.ref 0),some (.int (i:Int)),some (.ref n),some (zq t),some (.int (K:Int)),some (zw x),some (zw y),some (.ref a),some (zw (pv K S x y)),some (zw (av x y)),some (.ref c),x11]) (A1:=g) ((qJ e10).trans rfl)).trans ?_;refine(zH ((wH (gD (k:=9) jb (by decide))).trans e11)).trans ?_
 exact(zH ((yr (kR (k:=true) ((zO (zB (zt (i:=2) rfl) (zB (zt (i:=3) rfl) (zB (zt (i:=5) rfl) zQ)))).trans e12))).trans jO)).trans jO
end
def UH (Pt:Addr):Fn:=qH 12 (UG ZR Qp QT ZS (Ge Pt) gA wW JC Zt JW J2 JI)
theorem EE:Nn ql UH:=λ ns S Pt=>by
 have t:zR (.ref 0) [.ro (ns.map W.int),.tab ql Pt]=some (ns.map W.int):=rfl;have E:mQ qy (qf (zc 0)) [some (.ref 0),none,none,none,none,none,none,none,none,none,none,none] [.ro (ns.map W.int),.tab ql Pt]=.ok (.int ns.length) [.ro (ns.map W.int),.tab ql Pt]:=by
  rw[yA (ko (w:=.ref 0) (A1:=[.ro (ns.map W.int),.tab ql Pt]) (zt rfl) t)];unfold qy;rw[ai]
 have em:zo UE (zi (.int 1)) (zo Gx (mQ qy (qf (zc 0))) (zi (.int 5))) [some (.ref 0),none,none,none,none,none,none,none,none,none,none,none] [.ro (ns.map W.int),.tab ql Pt]=
   .ok (.int (if (if (5:Int)<ns.length then 5 else(ns.length:Int)) > 1 then(if (5:Int)<ns.length then 5 else(ns.length:Int)) else 1)) [.ro (ns.map W.int),.tab ql Pt]:=
  (zT (jb (w:=.int 1)) ((zT E (jb (w:=.int 5))).trans rfl)).trans rfl
 generalize s:(if (if (5:Int)<ns.length then 5 else(ns.length:Int)) > 1 then(if (5:Int)<ns.length then 5 else(ns.length:Int)) else 1)=v at em;have n:j0 v=true:=by
  have:0<=v/\v<1000:=by
   rw[<- s]
   split<;>split<;>omega
  obtain⟨k,rfl⟩:=aS this.1;exact Ro (by omega)
 obtain⟨r,B,e,_⟩:=g8 (j:=wq 0 v.toNat) (st:=turn (zN 1) (BL Pt)) (N:=v.toNat) (I:=λ _ ρ B=>B[0]? =some (.ro (ns.map W.int))/\B[1]? =some (.tab ql Pt)/\∃q l h g f d c b a Y y,ρ=[some (.ref 0),q,l,h,g,f,d,c,b,a,Y,y])
  (λ i ρ B u ⟨h0,x,q,l,h,g,f,d,c,b,a,Y,y,H⟩=>by
   subst H;obtain⟨Q,P,M,L,K,J,D,C,Z,z,A,e,p,o⟩:=CW (i:=i) (x2:=l) (x3:=h) (x4:=g) (x5:=f) (x6:=d) (x7:=c) (x8:=b) (x9:=a) (x10:=Y) (x11:=y) h0 x;refine⟨_,_,A,w9 u,(wk (ρ1:=[some (.ref 0),some (.int (i:Int)),l,h,g,f,d,c,b,a,Y,y]) ?_).trans e,p,o,_,_,_,_,_,_,_,_,_,_,_,rfl⟩;rw[bz];rfl)
  (λ ρ B _=>wZ (by omega)) v.toNat 0 [some (.ref 0),none,none,none,none,none,none,none,none,none,none,none] [.ro (ns.map W.int),.tab ql Pt] (by omega) ⟨rfl,rfl,_,_,_,_,_,_,_,_,_,_,_,rfl⟩
 refine⟨B,qS ?_⟩;unfold UG;exact(zH ((wH (gD em n)).trans e)).trans (qG (qZ jb))
section
variable {K:Frag}
theorem M4 (Z:Zz K h mg){PG:jE}{lam:Nat->Fn}(H:∀k,ZF P w K mg base 8 (PG k) (lam k)):zL P w K mg base 9 "_law_refused" 1 ((qH 4 (YJ PG lam))):=by
 obtain⟨f,fd,F,a⟩:=Z.T.Lc;exact(Lb (k:=8) Z.B Z.C Z.T.zbu F (aX Z.X Z.G a) (aw _) H)
theorem Bv (Z:Zz K h mg)(H:tabIn K "_law_refusals_right" = some (c,Pt))(b:BMain mg base)(C:CodeHd base c Pt):zL P w K mg base 10 "_law_refusals_right" 3 (Ge Pt):=by
 obtain⟨f,fd,F,a⟩:=Z.T.Mk;exact Mg (k:=9) (j:=7) (kk:=9) Z.B F a H (aX Z.X Z.G a) b C (MK Z).up (MY Z).up (wd Z).up (M0 Z).up (by decide)
  (zbd (k:=7) Z.B (λ base=>(PX Z).up) (λ base=>(Pu Z).up) (λ base=>(RL Z).up)) (λ base PG L=>(M4 Z L).imp λ us A _=>AG us A)
theorem Al (Z:Zz K h mg)(F:kN K "law" "law" Gz f fd)(H:tabIn K "_law_refusals_right" = some (c,Pt))(a:BMain mg base)(C:CodeHd base c Pt):yN P w K mg base wC 11 f fd ["_law_script"] (Zr K 1 (UH Pt)):=
 o_law (k:=10) Z.B F (Iw Z).up (SY Z).up (LV Z).up (IT Z).up (Bv Z H a C) (Iv Z).up (Lv Z).up (LZ Z).up (Ik Z).up (DM Z).up (Ce Z).up (HZ Z).up
theorem all_mk {l:PySem.W.OpenLaw}{i:Addr}(X:K.In h)(Gl:h.Ns mainGlobals mg)(b:mg "law" = some (.ref i))(T:Tx K)(H:∃c,tabIn K "_law_refusals_right" = some (c,Pt)/\codeHdIn K c Pt=true):
  ∃fd:FuncData,(∀(s:Shared)(v:Value),BindsTo s fd ⟨[v],[]⟩ [("_law_script",v)])/\∀base:Heap,K.In base->base.Ns mainGlobals mg->BMain mg base->yN l.prog w K mg base wC 11 i fd ["_law_script"] (Zr K 1 (UH Pt)):=by
 obtain⟨c,H,d⟩:=H;obtain⟨f,fd,F,a⟩:=T.zaX;have e:=b.symm.trans (aX X Gl a);cases e;obtain⟨n,od,kV,doc,pm,an,C,ct,o,rfl,lk,g⟩:=id F.ex;exact⟨_,λ s v=>.of_eq rfl,λ base j nb B=>Al (zz X Gl T) F H B (codeHd_of_K j d)⟩
end
end G
namespace PySem.W.Fast
def tw13452577885309272415:Nat:=0
def tw2316786787575243597:Nat:=0
def tw10110702525124995750:Nat:=0
def tw404826173798588009:Nat:=0
def tw17848809463793427000:Nat:=0
def tw12023066465146921298:Nat:=0
def tw667552565521554377:Nat:=0
def tw10493082064668547987:Nat:=0
def tw10802026552794650753:Nat:=0
def tw12626967877099140421:Nat:=0
def tw3159248851653150386:Nat:=0
def tw10739836077529689109:Nat:=0
def tw8786794862737606785:Nat:=0
def tw9008851631339726441:Nat:=0
def tw4025760825741931705:Nat:=0
def tw2704911735830195442:Nat:=0
def tw11329495289893454589:Nat:=0
def tw12973519764115727522:Nat:=0
def tw12215007549136562898:Nat:=0
def tw13714034615080853528:Nat:=0
def tw11560959021516356991:Nat:=0
def tw16563709469595235486:Nat:=0
def tw2537202865313066588:Nat:=0
def tw18105581181991757861:Nat:=0
def tw9762866437558707209:Nat:=0
def tw6028137646413468897:Nat:=0
def tw11811295883036328296:Nat:=0
def tw10212533876493729643:Nat:=0
def tw3607248429482533048:Nat:=0
def tw14424902488934624192:Nat:=0
def tw10011816508283002497:Nat:=0
def tw13554062114811729927:Nat:=0
def tw1142545632079547332:Nat:=0
def tw1280739114707289327:Nat:=0
def tw11866549079963437537:Nat:=0
def tw6826520006375661696:Nat:=0
def tw6487275650635699659:Nat:=0
def tw2146104875581079522:Nat:=0
def tw15983654453270200107:Nat:=0
def tw625683927753480619:Nat:=0
def tw11510969211299520519:Nat:=0
def tw9586308445817610607:Nat:=0
def tw15885684183669635228:Nat:=0
end PySem.W.Fast
open PySem PySem.W PyProof.Rows
set_option maxRecDepth 100000 in
set_option maxHeartbeats 0 in
theorem PySem.Challenge.cw_nearkinds_k06_products_of_mixes_holds : PySem.Challenge.rw_nearkinds_k06_products_of_mixes.Holds := by
 w_on;o_law;k_head;(case hw=>w_witness2)
 k_fill
 refine' Mi.zbR (y := "_law_refusals_right") (l:=PySem.Challenge.rw_nearkinds_k06_products_of_mixes) (k:=11) (x := "_law_script") G.EE rfl rfl ⟨rfl,by decide,by decide⟩ (λ w h Y=>PySem.W.km_in_of Y) (λ w h Y=>PySem.W.km_tabs_of Y _ (aE ..)) ?ht ?hKP ?F
 case ht=>exact λ p=>by kernel_rfl
 case hKP=>exact λ p=>by kernel_rfl
 case F=>
  intro w mg fa h KX Gl hmg ht;have T:G.Tx (L2.Ma KX):=by
   dsimp only [L2.Ma]
   apply G.Tx.mk<;>first | (refine' Mi.za1 ?a ?l ?c ?k;(case a=>k_is);(case l=>k_is);(case c=>k_is);(case k=>k_is)) | (refine' Mi.zbn ?a;(case a=>k_is)) | k_is|kernel_rfl
  exact G.all_mk KX Gl hmg T ht
