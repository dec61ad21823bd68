import PyProof.Rows.All
import Wide.All
import OpenK.AllK
import Wide.FinOn
import Lean
import PyProof.EqAt
import PyProof.EqKinds
import PyProof.TupleCall
import OpenK.KOwn
import PyProof.Rows.FStr
import PyProof.FString
import PyProof.NsDelKeeps
import KE.KIsAll
import PyProof.ExcArgs
import KE.KLam
import KE.KNestM
import PyProof.Rows.SetFrom
import PyProof.ListMulRoad
import PyProof.FactsAll.set_1
import PyProof.FactsAll.set_2
import PyProof.CollectIter
import PyProof.TupleIter
import PyProof.CollectWalk
import PyProof.Rows.SortShell
import PyProof.SumAny
import PyProof.ListOps
import KE.KDictList
import PyProof.NoPylong
import KE.KUnpack
import PySem.Challenge.RW_nearkinds_k07_whole_steady_tables
noncomputable section
open PySem.W (Frag)
open List (all_cons any_cons append_nil countP_cons drop_length find?_cons forIn_cons forIn_nil getElem_inj length_nil length_set length_take lookup_cons map_id map_nil mem_cons nodup_range not_mem_nil of_mem_zip range'_succ range_eq_range')
open Nat (le_add_right le_succ lt_trans not_lt_zero zero_le)
open Int (emod_nonneg mul_add mul_comm)
open Option (isSome_some)
open PySem.W (cellsFrom_some codeIn findIn fnOf instObj keepIn kitOne kitx_dict kitx_list kitx_tuple lookIn methodObj mroIn nsIn plainGet)
open PySem.F (args_tuple_add_2 entry_tuple_add plain_sum_loop slot_set_iter slot_tuple_add)
abbrev aa:=@List.getD_eq_getElem?_getD
abbrev ab:=@List.getElem?_eq_getElem
abbrev ae:=@PySem.Heap.get?_push_of_some
abbrev af:=@if_pos
abbrev ag:=@decide_eq_true_iff
abbrev ah:=@List.length_map
abbrev ai:=@List.getElem?_append_left
abbrev aj:=@if_neg
abbrev ak:=@List.getElem?_map
abbrev ao:=@Bool.and_eq_true
abbrev aq:=@decide_eq_true
abbrev ar:=@Nat.le_refl
abbrev au:=@PySem.Heap.get?_push_size
abbrev aw:=@Int.toNat_natCast
abbrev ax:=@List.getElem?_append_right
abbrev ay:=@Bool.false_ne_true
abbrev az:=@Option.some.inj
abbrev aA:=@decide_eq_false
abbrev aB:=@List.size_toArray
abbrev aC:=@List.getElem?_eq_none
abbrev aD:=@List.mem_cons_of_mem
abbrev aE:=@List.length_append
abbrev aF:=@List.getElem?_set_self
abbrev aG:=@List.mem_cons_self
abbrev aH:=@PySem.Heap.lt_size
abbrev aI:=@Nat.lt_of_lt_of_le
abbrev aJ:=@List.length_range
abbrev aK:=@List.getElem?_set_ne
abbrev aL:=@List.getElem?_range
abbrev aM:=@Nat.ne_of_lt
abbrev aN:=@Int.eq_ofNat_of_zero_le
abbrev aO:=@List.map_cons
abbrev aP:=@List.map_map
abbrev aQ:=@Array.length_toList
abbrev aR:=@List.map_append
abbrev aS:=@List.flatten_cons
abbrev aT:=@List.getElem_mem
abbrev aU:=@beq_iff_eq
abbrev aV:=@PySem.W.mg_of
abbrev aW:=@List.append_assoc
abbrev aX:=@PySem.Heap.get?_update_other
abbrev aY:=@List.mem_append_right
abbrev aZ:=@Nat.lt_irrefl
abbrev a0:=@PySem.W.mg_none_of
abbrev a3:=@List.map_congr_left
abbrev a5:=@PySem.Heap.get?_update_self
abbrev a6:=@Nat.lt_succ_of_lt
abbrev a7:=@List.replicate_succ
abbrev a8:=@List.range_succ
abbrev a9:=@Bool.false_eq_true
abbrev ba:=@PySem.Heap.size_push
abbrev bb:=@List.length_replicate
abbrev bc:=@List.length_cons
abbrev bf:=@List.ext_getElem
abbrev bg:=@Nat.lt_succ_self
abbrev bh:=@List.length_singleton
abbrev bj:=@Nat.ne_of_gt
abbrev bo:=@List.getElem?_replicate
abbrev bp:=@List.all_eq_true
abbrev bq:=@Nat.le_trans
abbrev br:=@Nat.le_of_lt
abbrev bt:=@Bool.or_eq_true
abbrev bw:=@Int.toNat_of_nonneg
abbrev bx:=@PySem.W.kia_one
abbrev bz:=@Array.getElem?_toList
abbrev bA:=@Int.zero_add
abbrev bB:=@Int.emod_lt_of_pos
abbrev bC:=@List.nil_append
abbrev bD:=@List.getElem_of_mem
abbrev bE:=@beq_self_eq_true
abbrev qa0:=@PySem.wpAny_bind
abbrev qa1:=@PySem.wpAny_pure
abbrev qa2:=@List.getElem?_eq_some_iff
abbrev qa3:=@List.mem_cons
abbrev qa4:=@List.all_eq_true
abbrev qa5:=@List.mem_range
abbrev qa6:=@List.mem_map
abbrev qa7:=@List.mem_singleton
set_option Elab.async false
set_option linter.all false
set_option maxRecDepth 1000000
set_option maxHeartbeats 4000000
variable {XP:(PySem.Str->Option PySem.Value)->PySem.Heap->Prop}{D a b:PySem.Addr}{osl:Array (Option PySem.Value)}{led:Bool}{op:PySem.CmpOp}{env:PySem.Env}{e elt tg:PySem.Expr}{fd:PySem.FuncData}{base h:PySem.Heap}{pins:List (PySem.Addr×PySem.Obj)}{es:List (Int×PySem.Value)}{t:List (List Int)}{fp φ:List PySem.Addr}{gens gs:List PySem.Comprehension}{elts ifs:List PySem.Expr}{ns:List Int}{cap vs:List Nat}{body:List PySem.Stmt}{N ps:List PySem.Str}{its us:List PySem.Value}{i kk n t':Nat}{μ:Nat->Nat->Int}{apos cpos p pos tpos:PySem.Pos}{P:PySem.Program}{sc scope:PySem.Scope}{s:PySem.Shared}{x:PySem.Str}{mg:PySem.Str->Option PySem.Value}{α:Type}{u:PySem.Value}{E Q:PySem.Value->PySem.Shared->Prop}{f:PySem.Value->PySem.Value->PySem.Sem PySem.Value}{w:PySem.World}{YP:PySem.World->PySem.Heap->Prop}
namespace L2
open PySem PySem.Spec PyProof.Rows
noncomputable abbrev Key:=Sum Int Str
noncomputable def Z7:Key->Value->Bool
 |.inl k,v=>Value.isInt k v|.inr x,v=>Value.isStrOf x v
noncomputable def C5 (w:World):Key->Int
 |.inl k=>hashInt k|.inr x=>hashStr w x
theorem wO:∀{k:Key}{v:Value},Z7 k v=true->(∃i t,k=Sum.inl i/\v=Value.int i t)∨(∃x t,k=Sum.inr x/\v=Value.str x t)
 |.inl i,v,h=>by
  obtain⟨t,e⟩:=Value.isInt_shape (k:=i) (v:=v) h;exact .inl ⟨i,t,rfl,e⟩
 |.inr x,v,h=>by
  obtain⟨t,e⟩:=Value.isStrOf_shape (x:=x) (v:=v) h;exact .inr ⟨x,t,rfl,e⟩
theorem Lb (i:Int)(t:Tok):Z7 (.inl i) (.int i t)=true:=by simp[Z7,Value.isInt]
theorem N2 (x:Str)(t:Tok):Z7 (.inr x) (.str x t)=true:=by simp[Z7,Value.isStrOf]
theorem EA (a b:Int):decide ((Sum.inl a:Key)=Sum.inl b)=(a==b):=by
 by_cases e:a=b
 ·subst e;simp
 ·have h:¬(Sum.inl a:Key)=Sum.inl b:=λ q=>e (Sum.inl.inj q)
  rw[aA h];exact(beq_eq_false_iff_ne.mpr e).symm
theorem EE (a b:Str):decide ((Sum.inr a:Key)=Sum.inr b)=decide (a=b):=by
 by_cases e:a=b
 ·subst e;simp
 ·have h:¬(Sum.inr a:Key)=Sum.inr b:=λ q=>e (Sum.inr.inj q)
  rw[aA h,aA e]
theorem ER (a:Int)(b:Str):decide ((Sum.inl a:Key)=Sum.inr b)=false:=aA (λ q=>nomatch q)
theorem Dj (a:Str)(b:Int):decide ((Sum.inr a:Key)=Sum.inl b)=false:=aA (λ q=>nomatch q)
def ym (prog:Program)(w:World):PySem.KeyKind prog w Key where
 is:=Z7
 hash:=C5 w
 inj:=λ v a b f c=>by
  rcases wO f with ⟨i,t,rfl,rfl⟩|⟨x,t,rfl,rfl⟩
  ·rcases wO c with ⟨j,u,rfl,e⟩|⟨y,u,rfl,e⟩
   ·injection e with E _;rw[E]
   ·exact nomatch e
  ·rcases wO c with ⟨j,u,rfl,e⟩|⟨y,u,rfl,e⟩
   ·exact nomatch e
   ·injection e with E _;rw[E]
 byValue:=λ k v h=>by
  rcases wO h with ⟨i,t,rfl,rfl⟩|⟨x,t,rfl,rfl⟩<;>rfl
 pyHash:=λ H h=>by
  rcases wO H with ⟨i,t,rfl,rfl⟩|⟨x,t,rfl,rfl⟩
  ·exact wpAny_pyHash_int h
  ·exact wpAny_pyHash_str h
 eqBool:=λ d H h=>by
  rcases wO d with ⟨i,t,rfl,rfl⟩|⟨x,t,rfl,rfl⟩
  ·rcases wO H with ⟨j,u,rfl,rfl⟩|⟨y,u,rfl,rfl⟩
   ·rw[EA]at h;exact wpAny_eqBool_int h
   ·rw[ER]at h;exact SeqAt.EqAt.int_str i t y u _ _ _ _ h
  ·rcases wO H with ⟨j,u,rfl,rfl⟩|⟨y,u,rfl,rfl⟩
   ·rw[Dj]at h;exact SeqAt.EqAt.str_int x t j u _ _ _ _ h
   ·rw[EE]at h;exact wpAny_eqBool_str h
 «strs»:=λ k x t v h=>by
  rcases wO h with ⟨i,u,rfl,e⟩|⟨y,u,rfl,e⟩
  ·exact nomatch e
  ·injection e with E _
   subst E;cases v<;>rfl
theorem Nt (prog:Program)(w:World)(k:Key)(v:Value):(ym prog w).is k v=Z7 k v:=rfl
theorem Nj (prog:Program)(w:World)(i:Int)(t:Tok):(ym prog w).is (.inl i) (.int i t)=true:=Lb i t
theorem Nl (prog:Program)(w:World)(x:Str)(t:Tok):(ym prog w).is (.inr x) (.str x t)=true:=N2 x t
inductive V where
 |non|bl (b:Bool) | int (i:Int) | str (x:Str) | byt (b:Array UInt8) | flt (b:UInt64) | ref (a:Addr) | ty (n:String)
 deriving DecidableEq
noncomputable def RelV:V->Value->Prop
 |.non,u=>u=Value.none|.bl b,u=>u=Value.bool b|.int i,u=>∃t,u=Value.int i t|.str x,u=>∃t,u=Value.str x t|.byt b,u=>∃t,u=Value.bytes b t|.flt b,u=>∃t,u=Value.float b t|.ref a,u=>u=Value.ref a|.ty n,u=>u=Value.type n
abbrev Vals:List V->List Value->Prop:=Paired RelV
theorem Vals.length {xs:List V}(r:Vals xs us):xs.length=us.length:=Paired.length r
theorem Vals.get:∀{xs:List V}{us:List Value}{i:Nat}{x:V},Vals xs us->xs[i]? =some x->∃u,us[i]? =some u/\RelV x u
 |_,_,_,_,.nil,e=>by simp at e|_,_,0,_,.cons r _,e=>by simp at e;subst e;exact⟨_,rfl,r⟩|_,_,i+1,x,.cons _ t,e=>by
  obtain⟨u,H,h⟩:=Vals.get (i:=i) (x:=x) t (by simpa using e)
  exact⟨u,by simpa using H,h⟩
theorem Vals.set {x:V}(r:RelV x u):∀{xs:List V}{us:List Value}(i:Nat),Vals xs us->Vals (xs.set i x) (us.set i u)
 |_,_,_,.nil=>.nil|_,_,0,.cons _ t=>.cons r t|_,_,i+1,.cons q t=>.cons q (Vals.set r i t)
theorem Vals.append:∀{xs ys:List V}{us ws:List Value},Vals xs us->Vals ys ws->Vals (xs++ys) (us++ws)
 |_,_,_,_,.nil,s=>s|_,_,_,_,.cons r t,s=>.cons r (Vals.append t s)
theorem Vals.none_of:∀{xs:List V}{us:List Value}{i:Nat},Vals xs us->xs[i]? =none->us[i]? =none:=λ {xs us i} r e=>by
 have H:=r.length;have h:xs.length<=i:=List.getElem?_eq_none_iff.mp e;exact List.getElem?_eq_none_iff.mpr (by omega)
def gL:Option V->Option Value->Prop
 |some v,some u=>RelV v u|none,none=>True|_,_=>False
def KV {κ:Type}:List (κ×V)->List (κ×Value)->Prop:=Paired λ (p:κ×V) (q:κ×Value)=>p.1=q.1/\RelV p.2 q.2
noncomputable def kV:Key->V
 |.inl i=>.int i|.inr x=>.str x
inductive HO where
 |lst (xs:List V)
 |tup (xs:List V)
 |dK (kvs:List (Key×V)) | dT (kvs:List (List Key×V))
 |set (S:Int->Bool) (n:Nat)
 |ins (C dx:Addr) (fs:List (Str×V))
 |own (x:Addr)
 |xd (fs:List (Str×V))
 |met (f x:Addr)
 |rng (lo hi:Int)
 |frz (o:Obj) (u:HO)
 |tbl (ps:Array Value)
 |ext (φ:Heap->Prop)
noncomputable abbrev Hp:=Addr->Option HO
noncomputable def upd (H:Hp)(a:Addr)(o:HO):Hp:=λ b=>if b=a then some o else H b
theorem jN {H:Hp}{o:HO}:upd H a o a=some o:=by unfold upd;rw[af rfl]
theorem qj {H:Hp}{o:HO}(h:b≠a):upd H a o b=H b:=by unfold upd;rw[aj h]
theorem Cu {H:Hp}{o u:HO}(h:H a=some o)(h':H b=some u)(d:o≠u):a≠b:=by
 intro e;subst e;rw[h]at h';exact d (az h')
theorem kN {H:Hp}{o:HO}(h:H a=some o)(h':H b=none):a≠b:=by
 intro e;subst e;rw[h]at h';cases h'
def gF (h:Heap)(a:Addr)(items:Array Value):Prop:=∃o,h.get? a=some o/\(o.cls=.type "tuple" /\ o.dict=none)/\∃n,o.data=.seq items n
theorem gF.tup {h:Heap}{a:Addr}{items:Array Value}(x:gF h a items):IsTup h a items:=let ⟨o,e,c,d⟩:=x;⟨o,e,c.1,d⟩
theorem gF.new (h:Heap)(items:Array Value):gF (h.push { cls:=.type "tuple",data:=.seq items }) h.objs.size items:=⟨_,au h rfl,⟨rfl,rfl⟩,0,rfl⟩
section
variable (P:Program)(w:World)
def jk (H:Hp)(h:Heap)(a:Addr):HO->Prop
 |.lst xs=>xs.length<=sizeLine/\∃(its:List Value) (n:Nat),Vals xs its/\h.get? a=some { cls:=.type "list",data:=.seq its.toArray n }
 |.tup xs=>xs.length<=sizeLine/\∃its:List Value,Vals xs its/\gF h a its.toArray|.dK kvs=>kvs.length<=sizeLine/\(a==sysModules)=false/\∃vs,KV kvs vs/\h.DictOf (ym P w) a vs|.dT kvs=>kvs.length<=sizeLine/\(a==sysModules)=false/\∃xs:List (List Key×Addr×Value),
   Paired (λ (p:List Key×V) (q:List Key×Addr×Value)=>p.1=q.1/\H q.2.1=some (.tup (p.1.map kV))/\RelV p.2 q.2.2) kvs xs/\
   ∃o e E,h.get? a=some o/\o.ExactDict/\o.data=.dict e E/\e.toList=xs.map (entryOfKey (tupleKind (ym P w)))/\(xs.map (·.1)).Nodup
 |.set S n=>h.SetOf (intKind P w) a S n|.ins C d fs=>H d=some (.own a)/\fs.length<=1000/\d≠a/\h.get? a=some (instObj C d)/\
   ∃m,h.Ns1 d m/\(∀f,gL (fs.lookup f) (m f))/\PySem.Within m (fs.map (·.1))
 |.own _=>∃o,h.get? a=some o|.xd fs=>∃m,h.Ns1 a m/\∀f,gL (fs.lookup f) (m f)|.rng lo i=>∃t u v,h.get? a=some { cls:=.type "range",data:=.fields #[.int lo t,.int i u,.int 1 v] }
 |.frz o u=>h.get? a=some o/\jk H h a u|.tbl s=>h.get? a=some { cls:=.none,data:=.fields s }|.met f x=>h.get? a=some (methodObj (.ref f) (.ref x))|.ext φ=>φ h/\(∃o,h.get? a=some o)/\∀c b:Heap,φ c->(∀o,c.get? a=some o->b.get? a=some o)->φ b
def jm (H:Hp)(h:Heap):Prop:=∀a o,H a=some o->jk P w H h a o
end
section
variable {H H':Hp}{h':Heap}{o:HO}
theorem jk.lt (x:jk P w H h a o):a<h.objs.size:=by
 cases o with
 |lst xs=>obtain⟨_,_,_,_,e⟩:=x;exact aH e|tup xs=>obtain⟨_,_,_,p⟩:=x;exact p.tup.lt|dK kvs=>obtain⟨_,_,_,_,o,_,_,e,_⟩:=x;exact aH e|dT kvs=>obtain⟨_,_,_,_,o,_,_,e,_⟩:=x;exact aH e|set S n=>obtain⟨o,_,_,_,e,_⟩:=x;exact aH e|ins C d fs=>obtain⟨_,_,_,e,_⟩:=x;exact aH e|own y=>obtain⟨_,e⟩:=x;exact aH e|xd fs=>obtain⟨_,⟨_,_,_,e,_⟩,_⟩:=x;exact aH e|rng lo i=>obtain⟨_,_,_,e⟩:=x;exact aH e|frz ob u=>obtain⟨e,_⟩:=x;exact aH e|tbl s=>exact aH (show h.get? a=some _ from x)|met f y=>exact aH (show h.get? a=some _ from x)|ext φ=>obtain⟨_,⟨_,e⟩,_⟩:=x;exact aH e
theorem Paired.mapP {β:Type}{F G:α->β->Prop}:∀{L:List α}{l:List β},Paired F L l->(∀a b,F a b->G a b)->Paired G L l
 |_,_,.nil,_=>.nil|_,_,.cons r t,f=>.cons (f _ _ r) (Paired.mapP t f)
theorem jk.stay (x:jk P w H h a o)(k:∀b u,(b=a∨H b=some (.own a))->h.get? b=some u->h'.get? b=some u)
  (A:∀b,H b=some (.own a)->H' b=some (.own a))(l:∀b xs,H b=some (.tup xs)->H' b=some (.tup xs)):jk P w H' h' a o:=by
 induction o with
 |lst xs=>obtain⟨z,i,n,r,e⟩:=x;exact⟨z,i,n,r,k _ _ (.inl rfl) e⟩|tup xs=>obtain⟨z,i,r,ob,e,c⟩:=x;exact⟨z,i,r,ob,k _ _ (.inl rfl) e,c⟩|dK kvs=>obtain⟨z,y,vs,r,ob,E,g,e,c⟩:=x;exact⟨z,y,vs,r,ob,E,g,k _ _ (.inl rfl) e,c⟩|dT kvs=>
  obtain⟨z,y,xs,r,ob,E,g,e,c⟩:=x;exact⟨z,y,xs,Paired.mapP r λ p q z=>⟨z.1,l _ _ z.2.1,z.2.2⟩,ob,E,g,k _ _ (.inl rfl) e,c⟩
 |set S n=>obtain⟨ob,E,g,t,e,c⟩:=x;exact⟨ob,E,g,t,k _ _ (.inl rfl) e,c⟩|ins C J fs=>
  obtain⟨d,z,ne,e,m,⟨j,E,g,B,c⟩,r⟩:=x;exact⟨A _ d,z,ne,k _ _ (.inl rfl) e,m,⟨j,E,g,k _ _ (.inr d) B,c⟩,r⟩
 |own y=>obtain⟨ob,e⟩:=x;exact⟨ob,k _ _ (.inl rfl) e⟩|xd fs=>obtain⟨m,⟨j,E,g,e,c⟩,r⟩:=x;exact⟨m,⟨j,E,g,k _ _ (.inl rfl) e,c⟩,r⟩|rng lo D=>obtain⟨t,u,v,e⟩:=x;exact⟨t,u,v,k _ _ (.inl rfl) e⟩|frz ob u I=>obtain⟨e,q⟩:=x;exact⟨k _ _ (.inl rfl) e,I q⟩|tbl s=>
  have e:h.get? a=some { cls:=.none,data:=.fields s }:=x;show h'.get? a=some { cls:=.none,data:=.fields s };exact k a _ (.inl rfl) e
 |met f y=>
  have e:h.get? a=some (methodObj (.ref f) (.ref y)):=x;show h'.get? a=some (methodObj (.ref f) (.ref y));exact k a _ (.inl rfl) e
 |ext φ=>obtain⟨p,⟨o,e⟩,st⟩:=x;exact⟨st _ _ p λ o q=>k _ _ (.inl rfl) q,⟨o,k _ _ (.inl rfl) e⟩,st⟩
theorem jm.lt (x:jm P w H h)(e:H a=some o):a<h.objs.size:=(x a o e).lt
theorem jm.fresh (x:jm P w H h)(e:h.objs.size<=a):H a=none:=by
 cases q:H a with
 |none=>rfl|some u=>exact absurd (aI (x.lt q) e) (aZ _)
theorem jm.kept (x:jm P w H h)(k:∀b u,h.get? b=some u->h'.get? b=some u):jm P w H h':=λ a o e=>
 (x a o e).stay (λ b u _ q=>k b u q) (λ _ q=>q) λ _ _ q=>q
theorem jm.laid (x:jm P w H h)(k:∀b u,h.get? b=some u->h'.get? b=some u)(p:h.objs.size<=a)(new:jk P w (upd H a o) h' a o):jm P w (upd H a o) h':=λ b u e=>by
 have hn:=x.fresh p
 by_cases d:b=a
 ·subst d;rw[jN]at e;cases e;exact new
 ·rw[qj d]at e
  exact(x b u e).stay (λ c v _ q=>k c v q) (λ c q=>by rw[qj (kN q hn)];exact q) λ c xs q=>by rw[qj (kN q hn)];exact q
end
def Rd (H:Hp)(a:Addr)(u:HO):Prop:=H a=some u∨∃o,H a=some (.frz o u)
theorem Rd.ok {H:Hp}{u:HO}(r:Rd H a u)(x:jm P w H h):jk P w H h a u:=by
 rcases r with r|⟨o,r⟩
 ·exact x a u r
 ·obtain⟨_,q⟩:=x a _ r
  exact q
noncomputable def J6:Option HO->Prop
 |some (.lst _)=>True|some (.dK _)=>True|some (.dT _)=>True|some (.set _ _)=>True|some (.ins _ _ _)=>True|some (.ext _)=>True|_=>False
section
variable {H:Hp}{h':Heap}{x e:Addr}{o':HO}
theorem jm.write (ok:jm P w H h)(m:J6 (H x))(he:e=x∨H e=some (.own x))(k:∀b u,b≠e->h.get? b=some u->h'.get? b=some u)(o:∃u,h'.get? e=some u)
  (new:jk P w (upd H x o') h' x o'):jm P w (upd H x o') h':=λ b u q=>by
 have n:∀c y,H c=some (.own y)->c≠x:=λ c y r z=>by subst z;rw[r]at m;exact m
 have N:∀c xs,H c=some (.tup xs)->c≠x:=λ c xs r z=>by subst z;rw[r]at m;exact m
 by_cases f:b=x
 ·subst f;rw[jN]at q;cases q;exact new
 ·rw[qj f]at q
  by_cases a:b=e
  ·have Q:H b=some (.own x):=by
    rcases he with z|z
    ·exact absurd (a.trans z) f
    ·rw[a];exact z
   rw[q]at Q;cases Q;obtain⟨v,g⟩:=o;exact⟨v,by rw[a];exact g⟩
  ·refine(ok b u q).stay (λ c v d r=>k c v ?_ r) (λ c r=>by rw[qj (n c b r)];exact r) λ c xs r=>by rw[qj (N c xs r)];exact r
   rcases d with rfl|d
   ·exact a
   ·rintro rfl
    rcases he with z|z
    ·exact n c b d z
    ·rw[d]at z;cases z;exact f rfl
end
structure Un (fs ex:List Addr)(H H':Hp)(h h':Heap):Prop where
 keep:∀b o,h.get? b=some o->H b=none->b∉fs->b∉ex->h'.get? b=some o
 slot:∀b o,h.get? b=some o->H b=none->b∈fs->b∉ex->∃sl,h'.get? b=some { o with slots:=sl }
 free:∀b o,h.get? b=some o->H b=none->b∉ex->H' b=none
 there:∀b o,h.get? b=some o->b∉ex->∃o',h'.get? b=some o'
 tups:∀b xs,H b=some (.tup xs)->H' b=some (.tup xs)
 frzs:∀b o u,H b=some (.frz o u)->H' b=some (.frz o u)
 tbls:∀b ps,H b=some (.tbl ps)->∃more,H' b=some (.tbl (ps++more))
section
variable {fs ex:List Addr}{H H1:Hp}{h1 h':Heap}{x e:Addr}{o:HO}
theorem Un.any (u:Un fs ex H H1 h h1){ob:Obj}(q:h.get? b=some ob)(n:H b=none)(x:b∉ex):∃s,h1.get? b=some { ob with slots:=s }:=by
 by_cases a:b∈fs
 ·exact u.slot b ob q n a x
 ·exact⟨ob.slots,u.keep b ob q n a x⟩
theorem Un.kept (k:∀b u,h.get? b=some u->h'.get? b=some u):Un fs ex H H h h':=
 ⟨λ b ob q _ _ _=>k b ob q,λ b ob q _ _ _=>⟨ob.slots,k b ob q⟩,λ _ _ _ n _=>n,λ b ob q _=>⟨ob,k b ob q⟩,λ _ _ q=>q,λ _ _ _ q=>q,λ _ p q=>⟨#[],by rw[q];simp⟩⟩
theorem Un.refl:Un fs ex H H h h:=Un.kept λ _ _ q=>q
theorem Un.laid (k:∀b u,h.get? b=some u->h'.get? b=some u)(p:h.objs.size<=a)(hn:H a=none):Un fs ex H (upd H a o) h h' where
 keep:=λ b u q _ _ _=>k b u q
 slot:=λ b u q _ _ _=>⟨u.slots,k b u q⟩
 free:=λ b u q n _=>by rw[qj (aM (aI (aH q) p))];exact n
 there:=λ b u q _=>⟨u,k b u q⟩
 tups:=λ b xs q=>by rw[qj (kN q hn)];exact q
 frzs:=λ b u xs q=>by rw[qj (kN q hn)];exact q
 tbls:=λ b P q=>⟨#[],by rw[qj (kN q hn),q];simp⟩
theorem Un.write (m:J6 (H x))(he:e=x∨H e=some (.own x))(k:∀b u,b≠e->h.get? b=some u->h'.get? b=some u)(c:∃u,h'.get? e=some u):Un fs ex H (upd H x o) h h':=by
 have d:∀b,H b=none->b≠x:=λ b n z=>by subst z;rw[n]at m;exact m
 have f:∀b,H b=none->b≠e:=λ b n z=>by
  subst z;rcases he with r|r
  ·exact d b n r
  ·rw[n]at r;cases r
 have hm:∀b u,H b=some u->¬J6 (some u)->b≠x:=λ b u q nm z=>by subst z;rw[q]at m;exact nm m
 refine⟨λ b u q n _ _=>k b u (f b n) q,λ b u q n _ _=>⟨u.slots,k b u (f b n) q⟩,λ b u q n _=>by rw[qj (d b n)];exact n,λ b u q _=>?_,
  λ b xs q=>by rw[qj (hm b _ q λ z=>z)];exact q,λ b u xs q=>by rw[qj (hm b _ q λ z=>z)];exact q,λ b p q=>⟨#[],by rw[qj (hm b _ q λ z=>z),q];simp⟩⟩
 by_cases a:b=e
 ·subst a;exact c
 ·exact⟨u,k b u a q⟩
end
noncomputable def KO (h:Heap)(H:Hp):List Addr:=(List.range h.objs.size).filter λ a=>(H a).isSome
def gM (h:Heap)(H:Hp):Heap:=PySem.W.hideAll h (KO h H)
theorem Md (h:Heap)(H:Hp):(gM h H).objs.size=h.objs.size:=PySem.W.hideAll_size _ _
theorem IE {H:Hp}{o:Obj}(e:h.get? b=some o)(n:H b=none):(gM h H).get? b=some o:=
 PySem.W.hideAll_get _ e λ hm=>by
  have q:(H b).isSome=true:=(List.mem_filter.mp hm).2;rw[n]at q;simp at q
theorem FA {H:Hp}{o:Obj}(e:(gM h H).get? b=some o):h.get? b=some o/\H b=none:=by
 have E:h.get? b=some o:=PySem.W.of_hideAll (KO h H) e;refine⟨E,?_⟩;cases q:H b with
 |none=>rfl|some x=>
  have hm:b∈KO h H:=List.mem_filter.mpr ⟨qa5.mpr (aH E),by simp[q]⟩
  have z:(gM h H).get? b=none:=PySem.W.hideAll_none (KO h H) hm;rw[z]at e;cases e
structure Mod (K:Frag)(mg:Str->Option Value)(base:Heap):Prop where
 kin:K.In base
 glob:base.Ns mainGlobals mg
 blt:∃mb,base.Ns builtinsNs mb/\∀x:Str,x ≠ "__name__" -> mb x=bootBuiltins x
 nolimit:base.NoLimit
structure Cx where
 prog:Program
 w:World
 K:Frag
 mg:Str->Option Value
 base:Heap
 A:Around
 N:List Str
 s0:Shared
 H0:Hp
 env:Env
 outer:List Env
 stack:List Env
 ex:List Addr
 fn:Str->Bool
 calm:Bool
 pn:List (Addr×Obj)
 xe:Value->Shared->Prop
noncomputable def wK (l:List Env):List Addr:=l.filterMap (·.frame)
abbrev Cx.fs (X:Cx):List Addr:=wK X.outer
def K1 (sc:Scope)(x:Str):Prop:=sc.names.lookup x=some .local∨sc.names.lookup x=some .cell∨sc.names.lookup x=some .free
def Loc (sc:Scope)(x:Str):Prop:=sc.names.lookup x=some .local∨sc.names.lookup x=some .cell
def Look (env:Env)(h:Heap)(m:Str->Option Value)(x:Str)(u:Value):Prop:=
 (env.kindOf x=some .local/\m x=some u)∨((env.kindOf x=some .cell∨env.kindOf x=some .free)/\∃c,env.cells.lookup x=some c/\h.IsCell c (some u))
structure Cx.Ok (X:Cx):Prop where
 mod:Mod X.K X.mg X.base
 kind:X.env.scope.kind=.function
 glob:X.env.globals=mainGlobals
 blt:X.env.builtins=builtinsNs
 above:X.s0.heap.objs.size<=X.env.locals
 inj:∀x y c,X.env.cells.lookup x=some c->X.env.cells.lookup y=some c->x=y
 has:∀x,(X.env.kindOf x=some .cell∨X.env.kindOf x=some .free)->∃c,X.env.cells.lookup x=some c
 cab:∀x c,X.fn x=true->X.env.cells.lookup x=some c->X.s0.heap.objs.size<=c
 hd:X.calm=true->X.A.handled=none
 frames:X.A.frames=some X.stack
 stk:X.stack=X.outer∨(X.stack=X.env::X.outer/\X.env.frame=some X.env.locals)
 exf:∀b∈X.ex,b≠X.env.locals/\∀x c,X.env.cells.lookup x=some c->c≠b
 bs:∀b o,X.base.get? b=some o->X.s0.heap.get? b=some o/\X.H0 b=none
 bsz:X.base.objs.size<=X.s0.heap.objs.size
 noex:∀b o,X.base.get? b=some o->b∉X.ex
 exfs:∀b∈X.ex,b∉X.fs
 funs:X.s0.heap.FunFrames X.base X.outer
 frf:∀b∈X.fs,X.H0 b=none
structure Inv (X:Cx)(pins:List (Addr×Obj))(σ:List (Option V))(H:Hp)(s:Shared):Prop where
 ok:X.Ok
 os:s.os=X.s0.os
 bare:AllBare s.gens
 base:Un X.fs X.ex X.H0 H X.s0.heap s.heap
 loc:∃m,s.heap.Ns X.env.locals m/\∀(i:Nat)(x:Str)(v:V),X.N[i]? =some x->σ[i]? =some (some v)->K1 X.env.scope x->∃u,RelV v u/\Look X.env s.heap m x u
 cell:∀x c,X.env.cells.lookup x=some c->∃v,s.heap.IsCell c v
 free:H X.env.locals=none
 freeC:∀x c,X.env.cells.lookup x=some c->H c=none
 pin:∀p∈X.pn++pins,s.heap.get? p.1=some p.2/\H p.1=none/\p.1≠X.env.locals/\p.1∉X.fs/\∀v,p.2.data≠.cell v
 hok:jm X.prog X.w H s.heap
 len:σ.length=X.N.length
section
variable {X:Cx}{σ:List (Option V)}{H H':Hp}{h':Heap}
theorem Cx.Ok.nofr (ok:X.Ok){o:Obj}(e:X.base.get? b=some o):b∉X.fs:=λ h=>by
 have:=(ok.funs.mem h).1
 rw[e]at this;cases this
theorem Inv.bs (I:Inv X pins σ H s):∀b o,X.base.get? b=some o->s.heap.get? b=some o/\H b=none:=λ b o e=>
 ⟨I.base.keep b o (I.ok.bs b o e).1 (I.ok.bs b o e).2 (I.ok.nofr e) (I.ok.noex b o e),I.base.free b o (I.ok.bs b o e).1 (I.ok.bs b o e).2 (I.ok.noex b o e)⟩
theorem Inv.bk (I:Inv X pins σ H s):∀b o,X.base.get? b=some o->s.heap.get? b=some o:=λ b o e=>(I.bs b o e).1
theorem Inv.mod (I:Inv X pins σ H s):Mod X.K X.mg X.base:=I.ok.mod
theorem Inv.kIn (I:Inv X pins σ H s):X.K.In s.heap:=I.ok.mod.kin.keeps I.bk
theorem Inv.lt (I:Inv X pins σ H s):X.env.locals<s.heap.objs.size:=let ⟨_,hn,_⟩:=I.loc;hn.lt
theorem Inv.sz (I:Inv X pins σ H s):X.s0.heap.objs.size<=s.heap.objs.size:=bq I.ok.above (br I.lt)
theorem Inv.nofs (I:Inv X pins σ H s)(h:s.heap.objs.size<=a):a∉X.fs:=λ c=>by
 obtain⟨_,o,b,_⟩:=I.ok.funs.mem c;exact absurd (aI (aH b) (bq I.sz h)) (aZ _)
theorem Inv.cne (I:Inv X pins σ H s):∀x c,X.env.cells.lookup x=some c->c≠X.env.locals:=λ x c e z=>by
 obtain⟨v,o,b,hd⟩:=I.cell x c e;obtain⟨m,⟨o',E,p,h,a,_⟩,_⟩:=I.loc;rw[z,h]at b;cases b;rw[a]at hd;cases hd
theorem Inv.funs (I:Inv X pins σ H s):s.heap.FunFrames X.base X.outer:=by
 have all:∀(l:List Env),(∀b∈wK l,b∈X.fs)->X.s0.heap.FunFrames X.base l->s.heap.FunFrames X.base l:=by
  intro l
  induction l with
  |nil=>intro _ _;trivial|cons env r i=>
   intro c g;obtain⟨j,⟨L,o,hf,hn,f,hd⟩,d⟩:=g;have a:L∈X.fs:=c L (by unfold wK;rw[List.filterMap_cons,hf];exact aG)
   obtain⟨S,e⟩:=I.base.slot L o f (I.ok.frf L a) a λ z=>I.ok.exfs L z a;exact⟨j,⟨L,_,hf,hn,e,hd⟩,i (λ b h=>c b (by unfold wK;rw[List.filterMap_cons,hf];exact aD _ h)) d⟩
 exact all X.outer (λ _ h=>h) I.ok.funs
theorem Inv.stack (I:Inv X pins σ H s):s.heap.FunFrames X.base X.stack:=by
 rcases I.ok.stk with e|⟨e,hf⟩
 ·rw[e];exact I.funs
 ·rw[e]
  obtain⟨m,hn,_⟩:=I.loc;refine .cons (by rw[I.ok.kind];decide) hf hn ?_ I.funs
  exact Heap.get?_none_of_le (bq I.ok.bsz I.ok.above)
theorem Inv.stkSub (I:Inv X pins σ H s):∀b∈wK X.stack,b∈X.env.locals::X.fs:=λ b h=>by
 rcases I.ok.stk with e|⟨e,hf⟩
 ·rw[e]at h;exact aD _ h
 ·rw[e]at h
  unfold wK at h;rw[List.filterMap_cons,hf]at h;exact h
theorem Inv.stkFree (I:Inv X pins σ H s):∀b∈wK X.stack,H b=none:=λ b h=>by
 rcases qa3.mp (I.stkSub b h) with e|h
 ·rw[e];exact I.free
 ·obtain⟨_,o,a,_⟩:=I.ok.funs.mem h
  exact I.base.free b o a (I.ok.frf b h) λ z=>I.ok.exfs b z h
theorem Inv.step {g':Array GenState}{d':Drawn}{ch:List Addr}(I:Inv X pins σ H s)
  (a:∀b∈ch,(b∈X.ex∨X.s0.heap.objs.size<=b)/\b≠X.env.locals/\(∀x c,X.env.cells.lookup x=some c->c≠b)/\∀p∈X.pn++pins,p.1≠b)
  (keep:∀b o,b≠X.env.locals->b∉X.fs->b∉ch->s.heap.get? b=some o->H b=none->h'.get? b=some o)
  (slot:∀b o,b≠X.env.locals->b∈X.fs->b∉ch->s.heap.get? b=some o->H b=none->∃t,h'.get? b=some { o with slots:=t })(free:∀b o,b∉ch->s.heap.get? b=some o->H b=none->H' b=none)
  (there:∀b o,b∉ch->s.heap.get? b=some o->∃o',h'.get? b=some o')
  (tups:∀b xs,H b=some (.tup xs)->H' b=some (.tup xs))(frzs:∀b o u,H b=some (.frz o u)->H' b=some (.frz o u))(tbls:∀b P,H b=some (.tbl P)->∃more,H' b=some (.tbl (P++more)))
  (ns:∀m,s.heap.Ns X.env.locals m->h'.Ns X.env.locals m)(hok:jm X.prog X.w H' h')(J:AllBare g'):
  Inv X pins σ H' { s with heap:=h',gens:=g',drawn:=d',toks:=t' }:=by
 have J5:∀b o,X.s0.heap.get? b=some o->b≠X.env.locals:=λ b o e=>aM (aI (aH e) I.ok.above);have C:∀b o,X.s0.heap.get? b=some o->b∉X.ex->b∉ch:=λ b o e h f=>by
  rcases(a b f).1 with z|z
  ·exact h z
  ·exact absurd (aI (aH e) z) (aZ _)
 have cellK:∀x c,X.env.cells.lookup x=some c->∀v,s.heap.IsCell c v->h'.IsCell c v:=λ x c e v ⟨o,g,hd⟩=>by
  have N:c∉ch:=λ z=>(a c z).2.2.1 x c e rfl
  by_cases B:c∈X.fs
  ·obtain⟨t,q⟩:=slot c o (I.cne x c e) B N g (I.freeC x c e)
   exact⟨_,q,hd⟩
  ·exact⟨o,keep c o (I.cne x c e) B N g (I.freeC x c e),hd⟩
 refine⟨I.ok,I.os,J,⟨λ b o e n f h=>?_,λ b o e n f h=>?_,λ b o e n h=>?_,λ b o e h=>?_,λ b xs e=>tups b xs (I.base.tups b xs e),λ b o xs e=>frzs b o xs (I.base.frzs b o xs e),λ b P e=>?_⟩,?_,λ x c e=>?_,?_,λ x c e=>?_,λ p A=>?_,hok,I.len⟩
 ·exact keep b o (J5 b o e) f (C b o e h) (I.base.keep b o e n f h) (I.base.free b o e n h)
 ·obtain⟨t,E⟩:=I.base.slot b o e n f h
  obtain⟨S,j⟩:=slot b _ (J5 b o e) f (C b o e h) E (I.base.free b o e n h);exact⟨S,j⟩
 ·obtain⟨o',E⟩:=I.base.there b o e h
  exact free b o' (C b o e h) E (I.base.free b o e n h)
 ·obtain⟨o',E⟩:=I.base.there b o e h
  exact there b o' (C b o e h) E
 ·obtain⟨m1,E⟩:=I.base.tbls b P e
  obtain⟨m2,j⟩:=tbls b _ E;exact⟨m1++m2,by rw[j,Array.append_assoc]⟩
 ·obtain⟨m,hn,D⟩:=I.loc
  refine⟨m,ns m hn,λ i x v E j K=>?_⟩;obtain⟨u,r,l⟩:=D i x v E j K;refine⟨u,r,?_⟩;rcases l with l|⟨k,c,e,z⟩
  ·exact .inl l
  ·exact .inr ⟨k,c,e,cellK x c e _ z⟩
 ·obtain⟨v,z⟩:=I.cell x c e
  exact⟨v,cellK x c e v z⟩
 ·obtain⟨m,⟨o,_,_,g,_⟩,_⟩:=I.loc
  exact free _ o (λ z=>(a _ z).2.1 rfl) g I.free
 ·obtain⟨v,o,g,hd⟩:=I.cell x c e
  exact free c o (λ z=>(a c z).2.2.1 x c e rfl) g (I.freeC x c e)
 ·obtain⟨e,n,ne,y,d⟩:=I.pin p A
  have N:p.1∉ch:=λ z=>(a p.1 z).2.2.2 p A rfl;exact⟨keep p.1 p.2 ne y N e n,free p.1 p.2 N e n,ne,y,d⟩
theorem Inv.un (I:Inv X pins σ H s)(u:Un X.fs [] H H' s.heap h')(hok:jm X.prog X.w H' h'):Inv X pins σ H' { s with heap:=h',toks:=t' }:=by
 obtain⟨m,⟨o,f,p,c,r⟩,_⟩:=id I.loc;obtain⟨S,L⟩:=u.any c I.free (by simp)
 exact I.step (g':=s.gens) (d':=s.drawn) (ch:=[]) (λ _ z=>nomatch z) (λ b o _ a _ e n=>u.keep b o e n a (by simp)) (λ b o _ a _ e n=>u.slot b o e n a (by simp)) (λ b o _ e n=>u.free b o e n (by simp)) (λ b o _ e=>u.there b o e (by simp)) u.tups u.frzs u.tbls (λ M hm=>by
  obtain⟨o',es',E,h,d⟩:=hm;rw[c]at h;cases h;exact⟨_,es',E,L,d⟩) hok I.bare
theorem Inv.call {g':Array GenState}{d':Drawn}{ch:List Addr}(I:Inv X pins σ H s)(u:Un (wK X.stack) ch H H' s.heap h')(hok:jm X.prog X.w H' h')(i:AllBare g')
  (d:∀b∈ch,(b∈X.ex∨X.s0.heap.objs.size<=b)/\b≠X.env.locals/\(∀x c,X.env.cells.lookup x=some c->c≠b)/\∀p∈X.pn++pins,p.1≠b):
  Inv X pins σ H' { s with heap:=h',gens:=g',drawn:=d',toks:=t' }:=by
 obtain⟨m,⟨o,l,q,f,r⟩,_⟩:=id I.loc;obtain⟨S,L⟩:=u.any f I.free λ z=>(d _ z).2.1 rfl;exact I.step (ch:=ch) d (λ b o L j h e n=>u.keep b o e n (λ z=>(qa3.mp (I.stkSub b z)).elim L j) h) (λ b o _ _ h e n=>u.any e n h) (λ b o h e n=>u.free b o e n h) (λ b o h e=>u.there b o e h) u.tups u.frzs u.tbls (λ M hm=>by
  obtain⟨o',es',E,a,g⟩:=hm;rw[f]at a;cases a;exact⟨_,es',E,L,g⟩) hok i
theorem Inv.turned {it:Addr}(I:Inv X pins σ H s)(k:∀b o,b≠it->s.heap.get? b=some o->h'.get? b=some o)(hn:H it=none)(L:it≠X.env.locals)
  (i:it∈X.ex∨X.s0.heap.objs.size<=it)(g:∀x c,X.env.cells.lookup x=some c->c≠it)(f:∀p∈X.pn++pins,p.1≠it):Inv X pins σ H { s with heap:=h',toks:=t' }:=by
 have N:∀b u,H b=some u->b≠it:=λ b u e z=>by rw[z,hn]at e;cases e
 refine I.step (g':=s.gens) (d':=s.drawn) (ch:=[it]) (λ b d=>?_) (λ b o _ _ h e _=>k b o (λ z=>h (by simp[z])) e) (λ b o _ _ h e _=>⟨o.slots,k b o (λ z=>h (by simp[z])) e⟩) (λ _ _ _ _ n=>n)
  (λ b o h e=>⟨o,k b o (λ z=>h (by simp[z])) e⟩) (λ _ _ e=>e) (λ _ _ _ e=>e) (λ b P e=>⟨#[],by rw[e];simp⟩) (λ m hm=>?_) (λ b u e=>?_) I.bare
 ·have e:b=it:=by simpa using d
  subst e;exact⟨i,L,g,f⟩
 ·obtain⟨o,E,j,a,r⟩:=hm
  exact⟨o,E,j,k _ o (Ne.symm L) a,r⟩
 ·refine(I.hok b u e).stay (λ c v h q=>k c v ?_ q) (λ _ q=>q) λ _ _ q=>q
  rcases h with z|z
  ·rw[z];exact N b u e
  ·exact N c _ z
theorem Inv.tok (I:Inv X pins σ H s)(t:Nat):Inv X pins σ H { s with toks:=t }:=I.un (h':=s.heap) (t':=t) Un.refl I.hok
theorem Inv.kept (I:Inv X pins σ H s)(k:∀b u,s.heap.get? b=some u->h'.get? b=some u):Inv X pins σ H { s with heap:=h',toks:=t' }:=I.un (Un.kept k) (I.hok.kept k)
theorem Inv.laid {o:HO}(I:Inv X pins σ H s)(k:∀b u,s.heap.get? b=some u->h'.get? b=some u)(h:s.heap.objs.size<=a)(new:jk X.prog X.w (upd H a o) h' a o):
  Inv X pins σ (upd H a o) { s with heap:=h',toks:=t' }:=I.un (Un.laid k h (I.hok.fresh h)) (I.hok.laid k h new)
theorem Inv.write {x e:Addr}{o:HO}(I:Inv X pins σ H s)(m:J6 (H x))(he:e=x∨H e=some (.own x))(k:∀b u,b≠e->s.heap.get? b=some u->h'.get? b=some u)(h:∃u,h'.get? e=some u)
  (new:jk X.prog X.w (upd H x o) h' x o):Inv X pins σ (upd H x o) { s with heap:=h',toks:=t' }:=I.un (Un.write m he k h) (I.hok.write m he k h new)
theorem Inv.pins_of {P:List (Addr×Obj)}(I:Inv X pins σ H s)(h:∀p∈P,s.heap.get? p.1=some p.2/\H p.1=none/\p.1≠X.env.locals/\p.1∉X.fs/\∀v,p.2.data≠.cell v):Inv X P σ H s:=
 ⟨I.ok,I.os,I.bare,I.base,I.loc,I.cell,I.free,I.freeC,λ p a=>(List.mem_append.mp a).elim (λ z=>I.pin p (List.mem_append_left _ z)) (h p),I.hok,I.len⟩
theorem Tn (h:N.Nodup){j:Nat}(a:N[i]? =some x)(b:N[j]? =some x):i=j:=by
 obtain⟨c,E⟩:=qa2.mp a;obtain⟨H,e⟩:=qa2.mp b;exact(getElem_inj h).mp (E.trans e.symm)
theorem UL {M:Model}{A:Around}{v:V}{Q:Unit->Shared->Prop}(I:Inv X pins σ H s)(hN:X.N.Nodup)(U:X.N[i]? =some x)(t:Loc X.env.scope x)(r:RelV v u)
  (h:∀s',Inv X pins (σ.set i (some v)) H s'->(∃a,Heap.SameBut a s.heap s'.heap/\(a=X.env.locals∨X.env.cells.lookup x=some a))->Q () s')(hf:X.fn x=true∨X.env.scope.names.lookup x=some .local:=by first|exact .inl rfl|exact .inr rfl|assumption):wpAny M A (storeName X.env x u) Q E s:=by
 obtain⟨m,hn,hl⟩:=id I.loc;have Y:(X.env.scope.kind==.class || (X.env.scope.kind==.module&&X.env.locals != X.env.globals))=false:=by rw[I.ok.kind];rfl
 have J:i < σ.length:=by rw[I.len];exact(qa2.mp U).1
 have cne:=I.cne;have tracked:∀{a:Addr}{h':Heap},(∃o,s.heap.get? a=some o/\H a=none)->Heap.SameBut a s.heap h'->jm X.prog X.w H h':=λ {a h'} ha f b ob e=>by
  obtain⟨_,_,B⟩:=ha;refine(I.hok b ob e).stay (λ c w' l q=>(f.2 c ?_).trans q) (λ _ q=>q) λ _ _ q=>q
  rintro rfl
  rcases l with rfl|l
  ·rw[B]at e;cases e
  ·rw[B]at l;cases l
 rcases t with D|D
 ·refine wpAny_storeName_local D hn (λ h' hn' f=>?_) Y
  obtain⟨oL,_,_,hoL,_⟩:=id hn;refine h _ ⟨I.ok,I.os,I.bare,⟨λ b o e n P t=>?_,λ b o e n P t=>?_,I.base.free,λ b o e t=>?_,I.base.tups,I.base.frzs,I.base.tbls⟩,⟨_,hn',λ j y v' g C e3=>?_⟩,λ y c e=>?_,I.free,I.freeC,λ p hp=>?_,tracked ⟨oL,hoL,I.free⟩ f,by simpa using I.len⟩ ⟨_,f,.inl rfl⟩
  ·exact(f.2 b (aM (aI (aH e) I.ok.above))).trans (I.base.keep b o e n P t)
  ·obtain⟨sl,g⟩:=I.base.slot b o e n P t
   exact⟨sl,(f.2 b (aM (aI (aH e) I.ok.above))).trans g⟩
  ·obtain⟨o',g⟩:=I.base.there b o e t
   exact⟨o',(f.2 b (aM (aI (aH e) I.ok.above))).trans g⟩
  ·by_cases K:j=i
   ·subst K
    rw[U]at g;cases g;rw[aF J]at C;cases C;exact⟨u,r,.inl ⟨D,by simp⟩⟩
   ·rw[aK (Ne.symm K)]at C
    obtain⟨u',r',q⟩:=hl j y v' g C e3;refine⟨u',r',?_⟩;rcases q with ⟨k,e⟩|⟨k,c,e,z⟩
    ·refine .inl ⟨k,?_⟩
     have:y≠x:=λ e=>K (Tn hN g (e ▸ U))
     simp[this,e]
    ·exact .inr ⟨k,c,e,z.sameBut f (cne y c e)⟩
  ·obtain⟨w',z⟩:=I.cell y c e
   exact⟨w',z.sameBut f (cne y c e)⟩
  ·obtain⟨e,n,ne,nf,d⟩:=I.pin p hp
   exact⟨(f.2 p.1 ne).trans e,n,ne,nf,d⟩
 ·have L:X.fn x=true:=by
   rcases hf with z|z
   ·exact z
   ·rw[z]at D;cases D
  obtain⟨c,l⟩:=I.ok.has x (.inl D);obtain⟨w',z⟩:=I.cell x c l;refine wpAny_storeName_cell I.ok.kind D l z (λ h' hc' f=>?_);obtain⟨oc,T,S⟩:=id z;refine h { s with heap:=h' } ⟨I.ok,I.os,I.bare,⟨λ b o e n P t=>?_,λ b o e n P t=>?_,I.base.free,λ b o e t=>?_,I.base.tups,I.base.frzs,I.base.tbls⟩,⟨m,hn.sameBut f (Ne.symm (cne x c l)),λ j y v' g C e3=>?_⟩,λ y c' e=>?_,I.free,I.freeC,λ p hp=>?_,tracked ⟨oc,T,I.freeC x c l⟩ f,by simpa using I.len⟩ ⟨c,f,.inr l⟩
  ·exact(f.2 b (aM (aI (aH e) (I.ok.cab x c L l)))).trans (I.base.keep b o e n P t)
  ·obtain⟨sl,g⟩:=I.base.slot b o e n P t
   exact⟨sl,(f.2 b (aM (aI (aH e) (I.ok.cab x c L l)))).trans g⟩
  ·obtain⟨o',g⟩:=I.base.there b o e t
   exact⟨o',(f.2 b (aM (aI (aH e) (I.ok.cab x c L l)))).trans g⟩
  ·by_cases K:j=i
   ·subst K
    rw[U]at g;cases g;rw[aF J]at C;cases C;exact⟨u,r,.inr ⟨.inl D,c,l,hc'⟩⟩
   ·rw[aK (Ne.symm K)]at C
    obtain⟨u',r',q⟩:=hl j y v' g C e3;refine⟨u',r',?_⟩;rcases q with q|⟨k,c',e,z'⟩
    ·exact .inl q
    ·refine .inr ⟨k,c',e,z'.sameBut f ?_⟩
     rintro rfl
     exact K (Tn hN g (I.ok.inj _ _ _ e l ▸ U))
  ·by_cases Z:c'=c
   ·subst Z;exact⟨_,hc'⟩
   ·obtain⟨w2,z2⟩:=I.cell y c' e
    exact⟨w2,z2.sameBut f Z⟩
  ·obtain⟨e,n,ne,nf,d⟩:=I.pin p hp
   refine⟨(f.2 p.1 ?_).trans e,n,ne,nf,d⟩;intro q;rw[q,T]at e;have q':oc=p.2:=az e;exact d w' (by rw[<- q'];exact S)
theorem Tf {M:Model}{A:Around}{v:V}{Q:Unit->Shared->Prop}(I:Inv X pins σ H s)(c:X.N.Nodup)(b:X.N[i]? =some x)(a:Loc X.env.scope x)(r:RelV v u)
  (h:∀S,Inv X pins (σ.set i (some v)) H S->Q () S)(hf:X.fn x=true∨X.env.scope.names.lookup x=some .local:=by first|exact .inl rfl|exact .inr rfl|assumption):wpAny M A (storeName X.env x u) Q E s:=
 UL I c b a r (λ S d _=>h S d) hf
theorem Inv.call' {S:Shared}{ch:List Addr}(I:Inv X pins σ H s)(o:S.os=s.os)(u:Un (wK X.stack) ch H H' s.heap S.heap)(hok:jm X.prog X.w H' S.heap)(g:AllBare S.gens)
  (h:∀b∈ch,(b∈X.ex∨X.s0.heap.objs.size<=b)/\b≠X.env.locals/\(∀x c,X.env.cells.lookup x=some c->c≠b)/\∀p∈X.pn++pins,p.1≠b):Inv X pins σ H' S:=by
 obtain⟨h',g',d',t',o'⟩:=S;have e:o'=s.os:=o;subst e;exact I.call (g':=g') (t':=t') (d':=d') u hok g h
end
abbrev XK:=Value->Option Addr->Hp->Prop
noncomputable abbrev St:=List (Option V)
abbrev VK:=V->Hp->Prop
abbrev TE:=St->Hp->VK->Prop
abbrev TT:=St->Hp->(Bool->Hp->Prop)->Prop
abbrev TA:=St->Hp->(List V->Hp->Prop)->Prop
structure Ends where
 nx:St->Hp->Prop
 rt:VK
 bk:St->Hp->Prop:=λ _ _=>False
 ct:St->Hp->Prop:=λ _ _=>False
abbrev TS:=Ends->St->Hp->Prop
inductive EP (X:Cx)(pins:List (Addr×Obj))(σ:St)(Q:VK)(u:Value)(s':Shared):Prop
 |mk (v:V) (H':Hp) (I:Inv X pins σ H' s') (r:RelV v u) (q:Q v H')
def TP (X:Cx)(pins:List (Addr×Obj))(σ:St)(Q:Bool->Hp->Prop)(b:Bool)(s:Shared):Prop:=∃H,Inv X pins σ H s/\Q b H
inductive AP (X:Cx)(pins:List (Addr×Obj))(σ:St)(Q:List V->Hp->Prop)(us:List Value)(s':Shared):Prop
 |mk (vs:List V) (H':Hp) (I:Inv X pins σ H' s') (r:Vals vs us) (q:Q vs H')
def SP (X:Cx)(pins:List (Addr×Obj))(D:Ends)(f:Flow)(s:Shared):Prop:=
 match f with
 |.next=>∃a H,Inv X pins a H s/\D.nx a H|.brk=>∃a H,Inv X pins a H s/\D.bk a H|.cont=>∃a H,Inv X pins a H s/\D.ct a H|.ret u=>∃v a H,Inv X pins a H s/\RelV v u/\D.rt v H
def PE (X:Cx)(e:Expr)(t:TE):Prop:=
 ∀(pins:List (Addr×Obj))(s:Shared)(σ:St)(H:Hp)(Q:VK),Inv X pins σ H s->t σ H Q->wpAny (model X.prog X.w) X.A (eval e X.env) (EP X pins σ Q) X.xe s
def PT (X:Cx)(e:Expr)(t:TT):Prop:=
 ∀(pins:List (Addr×Obj))(s:Shared)(σ:St)(H:Hp)(Q:Bool->Hp->Prop),Inv X pins σ H s->t σ H Q->wpAny (model X.prog X.w) X.A (isTrue e X.env (eval e X.env)) (TP X pins σ Q) X.xe s
def PW (X:Cx)(e:Expr)(t:TT):Prop:=
 ∀(whole:Sem Value)(pins:List (Addr×Obj))(s:Shared)(σ:St)(H:Hp)(Q:Bool->Hp->Prop),Inv X pins σ H s->t σ H Q->wpAny (model X.prog X.w) X.A (isTrue e X.env whole) (TP X pins σ Q) X.xe s
theorem PW.pt {X:Cx}{t:TT}(h:PW X e t):PT X e t:=h _
def PA (X:Cx)(e:List Expr)(t:TA):Prop:=
 ∀(pos:Pos)(pins:List (Addr×Obj))(s:Shared)(σ:St)(H:Hp)(Q:List V->Hp->Prop),Inv X pins σ H s->t σ H Q->wpAny (model X.prog X.w) X.A (spliced (backTo pos (starEach e X.env))) (AP X pins σ Q) X.xe s
def PS (X:Cx)(st:Stmt)(t:TS):Prop:=
 ∀(pins:List (Addr×Obj))(s:Shared)(σ:St)(H:Hp)(D:Ends),Inv X pins σ H s->t D σ H->wpAny (model X.prog X.w) X.A (exec st X.env) (SP X pins D) X.xe s
def yv (X:Cx)(st:List Stmt)(t:TS):Prop:=
 ∀(pins:List (Addr×Obj))(s:Shared)(σ:St)(H:Hp)(D:Ends),Inv X pins σ H s->t D σ H->wpAny (model X.prog X.w) X.A (execs st X.env) (SP X pins D) X.xe s
theorem zU {t:Sem α}{Q Q':α->Shared->Prop}{M:Model}{A:Around}(h:wpAny M A t Q E s)(H:∀a s,Q a s->Q' a s):wpAny M A t Q' E s:=wpAny_mono h H λ _ _ x=>x
section
variable {X:Cx}
noncomputable def CJ (i:Nat):TE:=λ σ H Q=>∃v,σ[i]? =some (some v)/\Q v H
noncomputable def tC (v:V):TE:=λ _ H Q=>Q v H
theorem Du (n:X.N[i]? =some x)(g:K1 X.env.scope x)(hd:(x==("__debug__" : Str))=false:=by decide)(d:(x==("__classdict__" : Str))=false:=by decide):PE X (.Name x pos) (CJ i):=by
 intro pins s σ H Q I h;obtain⟨v,e,h⟩:=h;obtain⟨m,hn,j⟩:=I.loc;obtain⟨u,r,l⟩:=j i x v n e g;have fin:EP X pins σ Q u s:=⟨v,H,I,r,h⟩;rcases l with ⟨b,hm⟩|⟨b,c,f,a⟩
 ·exact wpAny_Name (wpAny_loadName_local I.ok.kind b hn hm fin) hd
 ·rcases b with b|b
  ·exact wpAny_Name (wpAny_loadName_cell I.ok.kind b f a fin) hd
  ·exact wpAny_Name (wpAny_loadName_free I.ok.kind b f a fin d) hd
theorem F0 {i j pos}:PE X (.Constant (.int i) j pos) (tC (.int i)):=λ _ _ _ H _ I h=>wpAny_Constant_int ⟨.int i,H,I.tok _,⟨_,rfl⟩,h⟩
theorem Ca {b j pos}:PE X (.Constant (.bool b) j pos) (tC (.bl b)):=λ _ _ _ H _ I h=>Constant_bool ⟨.bl b,H,I,rfl,h⟩
theorem Ec {j pos}:PE X (.Constant .none j pos) (tC .non):=λ _ _ _ H _ I h=>Constant_none ⟨.non,H,I,rfl,h⟩
def Gl (X:Cx)(x:Str):Prop:=X.env.kindOf x=some .globalImplicit
theorem Sb {σ:St}{H:Hp}(I:Inv X pins σ H s)(g:Gl X x)(hm:X.mg x=some u)(h:Q u s)
  (hd:(x==("__debug__" : Str))=false:=by decide):wpAny (model X.prog X.w) X.A (eval (.Name x pos) X.env) Q E s:=
 Calls.Name_function_global I.ok.kind g (Calls.loadGlobal_global (by rw[I.ok.glob];exact I.mod.glob.keeps I.bk) hm h) hd
theorem Zk {σ:St}{H:Hp}(I:Inv X pins σ H s)(g:Gl X x)(hm:X.mg x=none)(v:bootBuiltins x=some u)(h:Q u s)
  (hn:x ≠ "__name__" := by decide)(hd:(x==("__debug__" : Str))=false:=by decide):wpAny (model X.prog X.w) X.A (eval (.Name x pos) X.env) Q E s:=by
 obtain⟨mb,b,a⟩:=I.mod.blt;exact Calls.Name_function_global I.ok.kind g (Calls.loadGlobal_builtin (by rw[I.ok.glob];exact I.mod.glob.keeps I.bk) hm (by rw[I.ok.blt];exact b.keeps I.bk) ((a x hn).trans v) h) hd
theorem Fu {v:V}(g:Gl X x)(hm:X.mg x=some u)(r:RelV v u)(hd:(x==("__debug__" : Str))=false:=by decide):PE X (.Name x pos) (tC v):=
 λ _ _ _ H _ I h=>Sb I g hm ⟨v,H,I,r,h⟩ hd
theorem FJ {v:V}(g:Gl X x)(hm:X.mg x=none)(a:bootBuiltins x=some u)(r:RelV v u)(hn:x ≠ "__name__" := by decide)(hd:(x==("__debug__" : Str))=false:=by decide):PE X (.Name x pos) (tC v):=
 λ _ _ _ H _ I h=>Zk I g hm a ⟨v,H,I,r,h⟩ hn hd
variable {a b:Expr}{ta tb:TE}
theorem IA (b:Expr)(h:op≠.In)(H:op≠.NotIn):behindInMarks op b=false:=by
 have E:(op==CmpOp.In)=false:=by cases op<;>first|rfl|exact absurd rfl h
 have e:(op==CmpOp.NotIn)=false:=by cases op<;>first|rfl|exact absurd rfl H
 cases b<;>simp[behindInMarks,E,e]
noncomputable def tB (t:TE):TT:=λ σ H Q=>t σ H λ x H1=>∃c,x=.bl c/\Q c H1
theorem Ep {t:TE}(h:PE X e t)(he:∀whole,isTrue e X.env whole=(do let v <- whole;standAt e.pos;holding [v] (truthy v)):=by intro _;rfl):PT X e (tB t):=by
 intro pins s σ H Q I hw;refine isTrue_plain (zU (h pins s σ H _ I hw) λ v s1 ⟨x,H1,i,r,a⟩=>?_) (he _);obtain⟨d,rfl,q⟩:=a;cases r;exact wpAny_truthy_bool ⟨H1,i,q⟩
variable {tA tB':TT}{rest:List Expr}
noncomputable def CV (t u:TT):TT:=λ σ H Q=>t σ H λ c H1=>if c=true then u σ H1 Q else Q false H1
noncomputable def Be (t u:TT):TT:=λ σ H Q=>t σ H λ c H1=>if c=true then Q true H1 else u σ H1 Q
noncomputable def C7 (t:TT):TT:=λ σ H Q=>t σ H λ c H1=>Q (!c) H1
theorem pw_and1 (b:PT X a tA):PW X (.BoolOp .And [a] pos) tA:=by
 intro w pins s σ H Q I h;refine isTrue_and (zU (b pins s σ H Q I h) λ c s1 e=>?_);cases c with
 |true=>exact isTrue_and_nil e|false=>exact e
theorem pw_or1 (b:PT X a tA):PW X (.BoolOp .Or [a] pos) tA:=by
 intro w pins s σ H Q I h;refine isTrue_or (zU (b pins s σ H Q I h) λ c s1 e=>?_);cases c with
 |false=>exact isTrue_or_nil e|true=>exact e
theorem pw_and (e:PT X a tA)(d:PW X (.BoolOp .And (b::rest) pos) tB'):PW X (.BoolOp .And (a::b::rest) pos) (CV tA tB'):=by
 intro w pins s σ H Q I h;refine isTrue_and (zU (e pins s σ H _ I h) λ c s1 ⟨H1,i,q⟩=>?_);cases c with
 |true=>exact d w pins s1 σ H1 Q i q|false=>exact⟨H1,i,q⟩
theorem pw_or (e:PT X a tA)(d:PW X (.BoolOp .Or (b::rest) pos) tB'):PW X (.BoolOp .Or (a::b::rest) pos) (Be tA tB'):=by
 intro w pins s σ H Q I h;refine isTrue_or (zU (e pins s σ H _ I h) λ c s1 ⟨H1,i,q⟩=>?_);cases c with
 |true=>exact⟨H1,i,q⟩|false=>exact d w pins s1 σ H1 Q i q
theorem DC (b:PT X a tA):PT X (.UnaryOp .Not a pos) (C7 tA):=by
 intro pins s σ H Q I h;exact isTrue_not (b pins s σ H (λ c H1=>Q (!c) H1) I h)
noncomputable def Cy (T t:TE):TE:=λ σ H Q=>T σ H λ x H1=>∃c,x=.bl c/\if c=true then t σ H1 Q else Q (.bl false) H1
noncomputable def DT (t:TE):TE:=λ σ H Q=>t σ H λ x H1=>∃c,x=.bl c/\Q (.bl (!c)) H1
theorem E7 {op}{t:TE}(h:PE X a t):PE X (.BoolOp op [a] pos) t:=λ pins s σ H Q I hw=>BoolOp_one (h pins s σ H Q I hw)
theorem Dw (e:PE X a ta)(d:PE X (.BoolOp .And (b::rest) pos) tb):PE X (.BoolOp .And (a::b::rest) pos) (Cy ta tb):=by
 intro pins s σ H Q I h;refine BoolOp_and (zU (e pins s σ H _ I h) λ v s1 ⟨x,H1,i,r,q⟩=>?_);obtain⟨c,rfl,q⟩:=q;cases r;refine wpAny_truthy_bool ?_;cases c with
 |true=>exact d pins s1 σ H1 Q i q|false=>exact⟨.bl false,H1,i,rfl,q⟩
theorem E3 (b:PE X a ta):PE X (.UnaryOp .Not a pos) (DT ta):=by
 intro pins s σ H Q I h;refine UnaryOp_ (zU (b pins s σ H _ I h) λ v s1 ⟨x,H1,i,r,q⟩=>?_);obtain⟨c,rfl,q⟩:=q;cases r;exact not_of (wpAny_truthy_bool ⟨.bl (!c),H1,i,rfl,q⟩)
noncomputable def Bi (t:TT)(a T:TE):TE:=λ σ H Q=>t σ H λ c H1=>if c=true then a σ H1 Q else T σ H1 Q
theorem LK {c:Expr}(e:PT X c tA)(g:PE X a ta)(f:PE X b tb):PE X (.IfExp c a b pos) (Bi tA ta tb):=by
 intro pins s σ H Q I h;refine wpAny_IfExp (zU (e pins s σ H _ I h) λ d s1 ⟨H1,i,q⟩=>?_);cases d with
 |true=>exact g pins s1 σ H1 Q i q|false=>exact f pins s1 σ H1 Q i q
end
def qL (K:Frag)(H:Hp)(a:Addr)(xs:List V):Prop:=
 Rd H a (.lst xs)∨
  ∃(o:Obj) (its:Array Value) (n:Nat),K.lookup a=some o/\o.cls=.type "list" /\ o.dict=none/\o.data=.seq its n/\its.size<=sizeLine/\Vals xs its.toList
def qi (K:Frag)(H:Hp)(a:Addr)(xs:List V):Prop:=
 Rd H a (.tup xs)∨
  ∃(o:Obj) (its:Array Value) (n:Nat),K.lookup a=some o/\(o.cls=.type "tuple" /\ o.dict=none)/\o.data=.seq its n/\its.size<=sizeLine/\Vals xs its.toList
noncomputable def CK:Value->Option V
 |.none=>some .non|.bool b=>some (.bl b)|.int i _=>some (.int i)|.str x _=>some (.str x)|.bytes b _=>some (.byt b)|.float b _=>some (.flt b)|.ref a=>some (.ref a)|.type n=>some (.ty n)|_=>none
theorem RelV.abs {x:V}(r:RelV x u):CK u=some x:=by
 cases x with
 |non=>cases r;rfl|bl _=>cases r;rfl|int _=>obtain⟨t,rfl⟩:=r;rfl|str _=>obtain⟨t,rfl⟩:=r;rfl|byt _=>obtain⟨t,rfl⟩:=r;rfl|flt _=>obtain⟨t,rfl⟩:=r;rfl|ref _=>cases r;rfl|ty _=>cases r;rfl
theorem RelV.inj {x y:V}(r:RelV x u)(q:RelV y u):x=y:=az (r.abs.symm.trans q.abs)
theorem Vals.inj:∀{xs ys:List V}{us:List Value},Vals xs us->Vals ys us->xs=ys
 |_,_,_,.nil,.nil=>rfl|_,_,_,.cons r t,.cons a t'=>by rw[r.inj a,Vals.inj t t']
section
variable {X:Cx}{σ:St}{H:Hp}{xs ys:List V}
theorem qL.of {K:Frag}(h:H a=some (.lst xs)):qL K H a xs:=.inl (.inl h)
theorem qi.of {K:Frag}(h:H a=some (.tup xs)):qi K H a xs:=.inl (.inl h)
theorem Inv.list (I:Inv X pins σ H s)(h:qL X.K H a xs):∃i:List Value,Vals xs i/\PlainL s.heap a i.toArray/\xs.length<=sizeLine:=by
 rcases h with h|⟨o,i,n,c,d,hd,b,f,r⟩
 ·obtain⟨z,i,n,r,e⟩:=h.ok I.hok
  exact⟨i,r,⟨_,n,e,rfl,rfl,rfl⟩,z⟩
 ·refine⟨i.toList,r,⟨o,n,I.kIn a o c,d,hd,by simpa using b⟩,?_⟩
  have e:=r.length;simp only[aQ]at e;omega
theorem Inv.tuple (I:Inv X pins σ H s)(h:qi X.K H a xs):∃i:List Value,Vals xs i/\IsTup s.heap a i.toArray/\xs.length<=sizeLine:=by
 rcases h with h|⟨o,i,n,c,d,b,f,r⟩
 ·obtain⟨z,i,r,p⟩:=h.ok I.hok
  exact⟨i,r,p.tup,z⟩
 ·refine⟨i.toList,r,⟨o,I.kIn a o c,d.1,n,by simpa using b⟩,?_⟩
  have e:=r.length;simp only[aQ]at e;omega
theorem Inv.list_inj (I:Inv X pins σ H s)(h:qL X.K H a xs)(h':qL X.K H a ys):xs=ys:=by
 obtain⟨i,r,⟨o,n,e,_,_,d⟩,_⟩:=I.list h;obtain⟨its',b,⟨o',N,E,_,_,d'⟩,_⟩:=I.list h';rw[e]at E;cases E;rw[d]at d';injection d' with D _
 have:i=its':=by simpa using congrArg Array.toList D
 subst this;exact r.inj b
theorem Inv.tupleN (I:Inv X pins σ H s)(h:qi X.K H a xs):∃ob,s.heap.get? a=some ob/\ob.dict=none:=by
 rcases h with h|⟨o,i,n,b,d,g,f,r⟩
 ·obtain⟨z,i,r,o,e,c,_⟩:=h.ok I.hok
  exact⟨o,e,c.2⟩
 ·exact⟨o,I.kIn a o b,d.2⟩
theorem Inv.tuple_inj (I:Inv X pins σ H s)(h:qi X.K H a xs)(h':qi X.K H a ys):xs=ys:=by
 obtain⟨i,r,⟨o,e,_,n,d⟩,_⟩:=I.tuple h;obtain⟨its',b,⟨o',E,_,N,d'⟩,_⟩:=I.tuple h';rw[e]at E;cases E;rw[d]at d';injection d' with D _
 have:i=its':=by simpa using congrArg Array.toList D
 subst this;exact r.inj b
end
noncomputable abbrev Cx.wish (X:Cx)(E:Value->Shared->Prop):Cx:={ X with xe:=E }
noncomputable abbrev Cx.nox (X:Cx):Cx:=X.wish λ _ _=>False
theorem Cx.Ok.wish {X:Cx}(ok:X.Ok)(E:Value->Shared->Prop):(X.wish E).Ok:=
 ⟨ok.mod,ok.kind,ok.glob,ok.blt,ok.above,ok.inj,ok.has,ok.cab,ok.hd,ok.frames,ok.stk,ok.exf,ok.bs,ok.bsz,ok.noex,ok.exfs,ok.funs,ok.frf⟩
theorem Cx.Ok.unwish {X:Cx}(ok:(X.wish E).Ok):X.Ok:=
 ⟨ok.mod,ok.kind,ok.glob,ok.blt,ok.above,ok.inj,ok.has,ok.cab,ok.hd,ok.frames,ok.stk,ok.exf,ok.bs,ok.bsz,ok.noex,ok.exfs,ok.funs,ok.frf⟩
section
variable {X:Cx}{σ:St}{H:Hp}
theorem Inv.wish (I:Inv X pins σ H s)(E:Value->Shared->Prop):Inv (X.wish E) pins σ H s:=⟨I.ok.wish E,I.os,I.bare,I.base,I.loc,I.cell,I.free,I.freeC,I.pin,I.hok,I.len⟩
theorem Inv.unwish (I:Inv (X.wish E) pins σ H s):Inv X pins σ H s:=⟨I.ok.unwish,I.os,I.bare,I.base,I.loc,I.cell,I.free,I.freeC,I.pin,I.hok,I.len⟩
theorem SP.unwish {D:Ends}{f:Flow}{s:Shared}(h:SP (X.wish E) pins D f s):SP X pins D f s:=by
 cases f with
 |next=>obtain⟨a,H,I,q⟩:=h;exact⟨a,H,I.unwish,q⟩|brk=>obtain⟨a,H,I,q⟩:=h;exact⟨a,H,I.unwish,q⟩|cont=>obtain⟨a,H,I,q⟩:=h;exact⟨a,H,I.unwish,q⟩|ret u=>obtain⟨v,a,H,I,r,q⟩:=h;exact⟨v,a,H,I.unwish,r,q⟩
theorem yv.nox {st:List Stmt}{t:TS}(h:yv X.nox st t):yv X st t:=λ pins s σ H D I hw=>
 wpAny_mono (h pins s σ H D (I.wish _) hw) (λ _ _ q=>q.unwish) λ _ _ z=>False.elim z
end
section
variable {X:Cx}{st:Stmt}{rest:List Stmt}{t u:TS}{te:TE}
noncomputable def DW:TS:=λ D σ H=>D.nx σ H
noncomputable def CW (t u:TS):TS:=λ D σ H=>t { D with nx:=u D } σ H
theorem HE:yv X [] DW:=λ _ _ σ H _ I h=>wpAny_execs_nil ⟨σ,H,I,h⟩
theorem LH (c:PS X st t)(b:yv X rest u):yv X (st::rest) (CW t u):=by
 intro pins s σ H D I h;refine wpAny_execs_cons (zU (c pins s σ H { D with nx:=u D } I h) λ f s1 q=>?_)
 cases f with
 |next=>
  obtain⟨a,d,i,q⟩:=q;exact b pins s1 a d D i q
 |ret v=>exact q|brk=>exact q|cont=>exact q
theorem Inv.quiet {σ:St}{H:Hp}(I:Inv X pins σ H s):interactive X.env=false:=by simp[interactive,I.ok.kind]
noncomputable def D5 (t:TE):TS:=λ D σ H=>t σ H λ _ H1=>D.nx σ H1
theorem Fm (he:PE X e te)(a:swapsWith e none pos.line X.env=pure false:=by rfl):PS X (.Expr e pos) (D5 te):=by
 intro pins s σ H D I h;exact wpAny_Expr_any (zU (he pins s σ H _ I h) λ v s1 ⟨x,H1,i,r,q⟩=>⟨σ,H1,i,q⟩) I.quiet a
noncomputable def CY (t:TE):TS:=λ D σ H=>t σ H D.rt
theorem FZ (he:PE X e te):PS X (.Return (some e) pos) (CY te):=by
 intro pins s σ H D I h;exact wpAny_Return_some (zU (he pins s σ H _ I h) λ v s1 ⟨x,H1,i,r,q⟩=>⟨x,σ,H1,i,r,q⟩)
noncomputable def CP (c:TT)(t u:TS):TS:=λ D σ H=>c σ H λ b H1=>if b=true then t D σ H1 else u D σ H1
theorem D7 {c:Expr}{a b:List Stmt}{T:TT}(e:PT X c T)(g:yv X a t)(f:yv X b u):PS X (.If c a b pos) (CP T t u):=by
 intro pins s σ H D I h;refine wpAny_If (zU (e pins s σ H _ I h) λ d s1 ⟨H1,i,q⟩=>?_);cases d with
 |true=>exact g pins s1 σ H1 D i q|false=>exact f pins s1 σ H1 D i q
end
abbrev TG:=V->St->Hp->(St->Hp->Prop)->Prop
abbrev gX:=List V->St->Hp->(St->Hp->Prop)->Prop
def PG (X:Cx)(target:Expr)(t:TG):Prop:=
 ∀(pins:List (Addr×Obj))(s:Shared)(σ:St)(H:Hp)(v:V)(u:Value)(Q:St->Hp->Prop),Inv X pins σ H s->RelV v u->t v σ H Q->
  wpAny (model X.prog X.w) X.A (assign target X.env u) (λ _ S=>∃a h,Inv X pins a h S/\Q a h) X.xe s
def J8 (X:Cx)(T:List Expr)(t:gX):Prop:=
 ∀(pins:List (Addr×Obj))(s:Shared)(σ:St)(H:Hp)(vs:List V)(us:List Value)(Q:St->Hp->Prop),Inv X pins σ H s->Vals vs us->t vs σ H Q->
  wpAny (model X.prog X.w) X.A (assignInOrder ((assignEach T X.env).map (·.2)) us) (λ _ S=>∃a h,Inv X pins a h S/\Q a h) X.xe s
abbrev Qd:=V->V->V->Hp->(Hp->Prop)->Prop
def Kr (X:Cx)(t:Qd):Prop:=
 ∀(pins:List (Addr×Obj))(s:Shared)(σ:St)(H:Hp)(o i v:V)(a I u:Value)(Q:Hp->Prop),Inv X pins σ H s->RelV o a->RelV i I->RelV v u->t o i v H Q->
  wpAny (model X.prog X.w) X.A (setItem a I u) (λ _ S=>∃h,Inv X pins σ h S/\Q h) X.xe s
abbrev KY:=V->V->Hp->VK->Prop
def Pg (X:Cx)(op:Operator)(t:KY):Prop:=
 ∀(pins:List (Addr×Obj))(s:Shared)(σ:St)(H:Hp)(x y:V)(v u:Value)(Q:VK),Inv X pins σ H s->RelV x v->RelV y u->t x y H Q->
  wpAny (model X.prog X.w) X.A (inplaceOp op v u) (EP X pins σ Q) X.xe s
section
variable {X:Cx}
noncomputable def Kf (i:Nat):TG:=λ v σ H Q=>Q (σ.set i (some v)) H
theorem kD (c:X.N.Nodup)(b:X.N[i]? =some x)(a:Loc X.env.scope x)(hf:X.fn x=true∨X.env.scope.names.lookup x=some .local:=by first|exact .inl rfl|exact .inr rfl|assumption):PG X (.Name x pos) (Kf i):=by
 intro pins s σ H v u Q I r h;exact wpAny_assign_Name (Tf I c b a r (λ S d=>⟨_,H,d,h⟩) hf)
noncomputable def C4:gX:=λ vs σ H Q=>vs=[]/\Q σ H
noncomputable def DX (t:TG)(u:gX):gX:=λ vs σ H Q=>∃v r,vs=v::r/\t v σ H λ a h=>u r a h Q
theorem JC:J8 X [] C4:=by
 intro pins s σ H vs us Q I r h;obtain⟨e,h⟩:=h;subst e;cases r;exact assignInOrder_nil ⟨σ,H,I,h⟩
theorem kA {E:List Expr}{t:TG}{u:gX}(f:PG X e t)(d:J8 X E u)
  (c:(assignEach (e::E) X.env).map (·.2)=assign e X.env::(assignEach E X.env).map (·.2):=by rfl):J8 X (e::E) (DX t u):=by
 intro pins s σ H vs us Q I r h;obtain⟨v,j,g,h⟩:=h;subst g;cases r with
 |cons r b=>
  rw[c];refine assignInOrder_cons (zU (f pins s σ H _ _ _ I r h) λ _ s1 ⟨a,H1,i,q⟩=>?_);exact d pins s1 a H1 _ _ Q i b q
noncomputable def jR (K:Frag)(n:Nat)(t:gX):TG:=λ v σ H Q=>∃a xs,v=.ref a/\qi K H a xs/\xs.length=n/\t xs σ H Q
theorem Kc {E:List Expr}{k:Nat}{t:gX}(g:X.calm=true)(h:J8 X E t)
  (hn:(assignEach E X.env).length=n:=by rfl)(c:(assignEach E X.env).findIdx? (·.1)=none:=by rfl):PG X (.Tuple E k pos) (jR X.K n t):=by
 intro pins s σ H v u Q I r hw;obtain⟨a,xs,j,q,l,hw⟩:=hw;subst j;cases r;obtain⟨i,d,f,z⟩:=I.tuple q;refine assign_Tuple_tuple (I.ok.hd g) f (by simp[hn,<- l,d.length]) c λ h' x=>?_
 have m:Inv X pins σ H { s with heap:=h' }:=I.kept (t':=s.toks) λ b o e=>x b o (aM (aH e)) e
 exact h pins _ σ H xs _ Q m (by simpa using d) hw
noncomputable def jt (to ti:TE)(t:Qd):TG:=λ v σ H Q=>to σ H λ o H1=>ti σ H1 λ i a=>t o i v a λ h=>Q σ h
theorem DF {o i:Expr}{to ti:TE}{t:Qd}(f:PE X o to)(g:PE X i ti)(e:Kr X t)
  (j:∀v,assign (.Subscript o i pos) X.env v=(do
   let ov <- holding [v] (eval o X.env)
   let iv <- holding [v,ov] (eval i X.env)
   standAt pos
   holding [v,ov,iv] (setItem ov iv v)
   release [v,ov,iv] []):=by intro _;rfl):PG X (.Subscript o i pos) (jt to ti t):=by
 intro pins s σ H v u Q I r h;rw[j];refine qa0 (wpAny_holding (zU (f pins s σ H _ I h) λ ov s1 ⟨x,H1,n,b,d⟩=>?_));refine qa0 (wpAny_holding (zU (g pins s1 σ H1 _ n d) λ iv s2 ⟨y,w,m,a,c⟩=>?_));refine qa0 (wpAny_standAt (qa0 (wpAny_holding (zU (e pins s2 σ w x y v ov iv u _ m b a r c) λ _ s3 ⟨p,l,q⟩=>?_))));exact wpAny_release ⟨σ,p,l,q⟩
noncomputable def KD (t:TE)(g:TG):TS:=λ D σ H=>t σ H λ x H1=>g x σ H1 D.nx
theorem GI {t:TE}{g:TG}(he:PE X e t)(b:PG X tg g)(a:swapsWithSole [tg] e pos.line X.env=pure false:=by rfl)(hw:swappedStores [tg] e X.env=pure none:=by rfl)
  (c:(assignEach [tg] X.env).map (·.2)=[assign tg X.env]:=by rfl):PS X (.Assign [tg] e pos) (KD t g):=by
 intro pins s σ H D I h;refine wpAny_Assign_stores (zU (he pins s σ H _ I h) λ v s1 ⟨x,H1,i,r,Q⟩=>?_) a hw;rw[c];exact zU (b pins s1 σ H1 x v _ i r Q) λ _ s2 q=>q
theorem ED {t:TE}{pos':Pos}(d:X.N.Nodup)(c:X.N[i]? =some x)(a:Loc X.env.scope x)(he:PE X e t)(b:swapsWith e (some (.Name x pos')) pos.line X.env=pure false:=by rfl)(hf:X.fn x=true∨X.env.scope.names.lookup x=some .local:=by first|exact .inl rfl|exact .inr rfl|assumption):
  PS X (.Assign [.Name x pos'] e pos) (KD t (Kf i)):=by
 intro pins s σ H D I h;refine wpAny_Assign_Name (zU (he pins s σ H _ I h) λ v s1 ⟨y,H1,g,r,q⟩=>?_) b;exact Tf g d c a r (λ s2 f=>⟨_,H1,f,q⟩) hf
noncomputable def DH (to ti e:TE)(T:V->V->Hp->VK->Prop)(p:KY)(t:Qd):TS:=λ D σ H=>to σ H λ o H1=>ti σ H1 λ i d=>T o i d λ x c=>e σ c λ y b=>p x y b λ z a=>t o i z a λ h=>D.nx σ h
def R8 (X:Cx)(t:V->V->Hp->VK->Prop):Prop:=
 ∀(pins:List (Addr×Obj))(s:Shared)(σ:St)(H:Hp)(o i:V)(v I:Value)(Q:VK),Inv X pins σ H s->RelV o v->RelV i I->t o i H Q->
  wpAny (model X.prog X.w) X.A (getItem v I) (EP X pins σ Q) X.xe s
theorem IX {o i:Expr}{to ti c:TE}{T:V->V->Hp->VK->Prop}{p:KY}{t:Qd}{op:Operator}(y:PE X o to)(z:PE X i ti)(A:R8 X T)(he:PE X e c)(x:Pg X op p)(w:Kr X t)
  (B:∀a b new,augStore i a b new=(do holding [new,a,b] (setItem a b new);release [new,a,b] [];pure .next):=by intros;rfl):PS X (.AugAssign (.Subscript o i tpos) op e pos) (DH to ti c T p t):=by
 intro pins s σ H D I h;refine wpAny_AugAssign_SubscriptAny (zU (y pins s σ H _ I h) λ a s1 ⟨x1,H1,M,d,u⟩=>?_) B;refine zU (z pins s1 σ H1 _ M u) λ b s2 ⟨x2,Y,L,r,n⟩=>?_;refine zU (A pins s2 σ Y x1 x2 a b _ L d r n) λ old s3 ⟨x3,U,K,j,m⟩=>?_;refine zU (he pins s3 σ U _ K m) λ v s4 ⟨x4,S,J,g,l⟩=>?_;refine zU (x pins s4 σ S x3 x4 old v _ J j g l) λ new s5 ⟨x5,P,E,f,Q⟩=>?_;exact zU (w pins s5 σ P x1 x2 x5 a b new _ E d r f Q) λ _ Z ⟨N,C,q⟩=>⟨σ,N,C,q⟩
noncomputable def Bj (f:Int->Int->Int):KY:=λ x y H Q=>∃i j,x=.int i/\y=.int j/\Q (.int (f i j)) H
theorem Dg:Pg X .Add (Bj λ i j=>i+j):=by
 intro pins s σ H x y v u Q I a r h;obtain⟨i,j,E,e,q⟩:=h;subst E;subst e;obtain⟨t,rfl⟩:=a;obtain⟨t',rfl⟩:=r;exact iadd_int ⟨.int _,H,I.tok _,⟨_,rfl⟩,q⟩
def Di (c:TT)(t:TS):TS:=λ D σ H=>∃W:Nat->St->Hp->Prop,(∃m,W m σ H)/\∀m σ H,W m σ H->
 c σ H λ b H1=>if b=true then ∃N:St->Hp->Prop,(∀a h,N a h->∃M,M<m/\W M a h)/\t { D with nx:=N,ct:=N,bk:=D.nx } σ H1 else D.nx σ H1
theorem Ik {c:Expr}{t:TT}{T:TS}(p:PassesOwn (model X.prog X.w) X.A X.env X.xe)(B:PT X c t)(C:yv X body T):PS X (.While c body [] pos) (Di t T):=by
 intro pins s σ H D I h;obtain⟨W,⟨m0,z⟩,turn⟩:=h;refine wpAny_While (codeAny_whileLoop (λ n S=>∃e x,Inv X pins e x S/\W n e x) ?_ m0 ⟨σ,H,I,z⟩)
 rintro n s1 ⟨d,H1,E,y⟩
 refine wpAny_passesOwn p (zU (B pins s1 d H1 _ E (turn n d H1 y)) λ b s2 ⟨u,r,Q⟩=>?_);cases b with
 |true=>
  obtain⟨N,o,Q⟩:=Q;rw[af rfl];refine wpAny_passesOwn p (zU (C pins s2 d u _ r Q) λ f s3 q=>?_);cases f with
  |next=>
   obtain⟨a,g,l,j⟩:=q;obtain⟨m,hm,i⟩:=o a g j;exact⟨m,hm,a,g,l,i⟩
  |cont=>
   obtain⟨a,g,l,j⟩:=q;obtain⟨m,hm,i⟩:=o a g j;exact⟨m,hm,a,g,l,i⟩
  |brk=>exact q|ret v=>exact q
 |false=>
  rw[aj ay];exact wpAny_execs_nil ⟨d,u,r,Q⟩
end
structure It where
 go:Nat->Hp->Prop
 yld:Nat->Hp->V->Hp->Prop
 stop:Nat->Hp->Prop
def yW (X:Cx)(pins:List (Addr×Obj))(H:Hp)(b:Addr):Prop:=
 H b=none/\b≠X.env.locals/\b∉X.fs/\(b∈X.ex∨X.s0.heap.objs.size<=b)/\(∀x c,X.env.cells.lookup x=some c->c≠b)/\∀p∈X.pn++pins,p.1≠b
theorem Inv.fpOk {X:Cx}{σ:St}{H a:Hp}(I:Inv X pins σ H s)(h:s.heap.objs.size<=b)(hn:a b=none):yW X pins a b:=by
 refine⟨hn,bj (aI I.lt h),I.nofs h,.inr (bq I.sz h),λ x c e z=>?_,λ p d z=>?_⟩
 ·obtain⟨v,q⟩:=I.cell x c e
  exact absurd (aI q.lt (by rw[z];exact h)) (aZ _)
 ·exact absurd (aI (aH (I.pin p d).1) (by rw[z];exact h)) (aZ _)
structure Turn (P:Program)(w:World)(K:Frag)(tg:Expr)(J:It)(fp:List Addr)(it:Addr)(tn:Nat->Heap->Prop):Prop where
 mem:it∈fp
 obj:∀i h,tn i h->∀b∈fp,∃o,h.get? b=some o/\∀v,o.data≠.cell v
 keep:∀i h h',tn i h->(∀b∈fp,∀o,h.get? b=some o->h'.get? b=some o)->tn i h'
 item:∀(X:Cx),X.prog=P->X.w=w->X.K=K->X.calm=true->∀(i:Nat)(pins:List (Addr×Obj))(s:Shared)(σ:St)(H:Hp)(E:Value->Shared->Prop),Inv X pins σ H s->(∀b∈fp,yW X pins H b)->tn i s.heap->J.go i H->
  wpAny (model P w) X.A (pyNext (.ref it)) (λ r s1=>∃u,r=some u/\
   wpAny (model P w) X.A (letOwnedTupleGo tg (.ref it) u) (λ _ s2=>∃x H',Inv X pins σ H' s2/\RelV x u/\J.yld i H x H'/\tn (i+1) s2.heap/\∀b∈fp,H' b=none) E s1) E s
 done:∀(X:Cx),X.prog=P->X.w=w->X.K=K->X.calm=true->∀(i:Nat)(pins:List (Addr×Obj))(s:Shared)(σ:St)(H:Hp)(E:Value->Shared->Prop),Inv X pins σ H s->(∀b∈fp,yW X pins H b)->tn i s.heap->J.stop i H->
  wpAny (model P w) X.A (pyNext (.ref it)) (λ r s1=>r=none/\Inv X pins σ H s1) E s
 self:∀(A:Around)(i:Nat)(s:Shared)(Q:Value->Shared->Prop)(E:Value->Shared->Prop),tn i s.heap->Q (.ref it) s->wpAny (model P w) A (pyIter (.ref it)) Q E s
abbrev TI:=St->Hp->(It->Hp->Prop)->Prop
inductive Pl (X:Cx)(pins:List (Addr×Obj))(σ:St)(tg:Expr)(R:It->Hp->Prop)(itv:Value)(s2:Shared):Prop
 |mk (it:Addr) (fp:List Addr) (tn:Nat->Heap->Prop) (J:It) (H':Hp) (e:itv=.ref it) (I:Inv X pins σ H' s2) (T:Turn X.prog X.w X.K tg J fp it tn) (t0:tn 0 s2.heap) (f:(∀b∈fp,yW X pins H' b)) (q:R J H')
def PI (X:Cx)(t iter:Expr)(i:TI):Prop:=
 ∀(pins:List (Addr×Obj))(s:Shared)(σ:St)(H:Hp)(R:It->Hp->Prop),Inv X pins σ H s->i σ H R->
  wpAny (model X.prog X.w) X.A (eval iter X.env) (λ v s1=>wpAny (model X.prog X.w) X.A (pyIter v) (Pl X pins σ t R) X.xe s1) X.xe s
theorem GP {M:Model}{A:Around}{it:Addr}{o:Obj}{n:String}{vs:Array Value}{Q:Unit->Shared->Prop}(a:s.heap.get? it=some o)(c:o.cls=.type n)(hd:o.data=.fields vs)
  (hn:["enumerate","zip","dict_itemiterator","dict_reverseitemiterator","odict_iterator","itertools.zip_longest","itertools.pairwise"].contains n=false)(H:Q () s):wpAny M A (letOwnedTupleGo tg (.ref it) u) Q E s:=by
 unfold letOwnedTupleGo;cases tg<;>first
  |exact qa1 H
  |(cases u<;>first
    |exact qa1 H
    |(
      refine qa0 (wpAny_load a ?_);rw[c,hd];show wpAny M A (if (["enumerate","zip","dict_itemiterator","dict_reverseitemiterator","odict_iterator","itertools.zip_longest","itertools.pairwise"].contains n&&vs[0]?==some (rawInt _))=true then _ else _) Q E s;rw[aj (by intro h;rw[hn,Bool.false_and]at h;cases h)]
      exact qa1 H))
noncomputable def Pj (K:Frag)(a:Addr):It:=
 ⟨λ i H=>∃xs x,qL K H a xs/\xs[i]? =some x,λ i H x h=>h=H/\∀xs,qL K H a xs->xs[i]? =some x,λ i H=>∃xs,qL K H a xs/\xs.length<=i⟩
noncomputable def Pb (K:Frag)(a:Addr):It:=
 ⟨λ i H=>∃xs x,qi K H a xs/\xs[i]? =some x,λ i H x h=>h=H/\∀xs,qi K H a xs->xs[i]? =some x,λ i H=>∃xs,qi K H a xs/\xs.length<=i⟩
noncomputable def KJ (lo:Int)(n:Nat):It:=⟨λ i _=>i<n,λ i H x h=>h=H/\x=.int (lo+i),λ i _=>n<=i⟩
theorem Mq {K:Frag}(a it:Addr):Turn P w K tg (Pj K a) [it] it (λ i h=>h.IsListIter it a i) where
 mem:=by simp
 obj:=λ i h st b f=>by
  have e:b=it:=by simpa using f
  subst e;obtain⟨o,e,c,d⟩:=st;exact⟨o,e,λ v z=>by rw[d]at z;cases z⟩
 keep:=λ i h h' st k=>st.at λ o e=>k it (by simp) o e
 item:=by
  intro X m hw n A i pins s σ H E I hf st l;subst m hw n;obtain⟨xs,x,q,j⟩:=l;obtain⟨g,r,p,D⟩:=I.list q;obtain⟨u,L,C⟩:=r.get j;obtain⟨f0,f1,f2,y,f4,t⟩:=hf it (by simp)
  refine wpAny_pyNext_list_item st p.isList (x:=u) (by simpa using L) λ h' S B=>?_
  have N:Inv X pins σ H { s with heap:=h' }:=I.turned (t':=s.toks) (λ b o f e=>(B.2 b f).trans e) f0 f1 y f4 t
  obtain⟨o,e,c,d⟩:=id S;exact⟨u,rfl,GP (s:={ s with heap:=h' }) e c d (by decide) ⟨x,H,N,C,⟨rfl,λ ys J=>by rw[I.list_inj J q];exact j⟩,S,λ b f=>(hf b f).1⟩⟩
 done:=by
  intro X m hw n A i pins s σ H E I hf st l;subst m hw n;obtain⟨xs,q,j⟩:=l;obtain⟨g,r,p,D⟩:=I.list q;obtain⟨f0,f1,f2,y,f4,t⟩:=hf it (by simp)
  have Q:=r.length;exact wpAny_pyNext_list_end (I.ok.hd A) st p.isList (by simp;omega) λ h' M=>⟨rfl,I.turned (t':=s.toks) (λ b o f e=>M b o f e) f0 f1 y f4 t⟩
 self:=λ _ _ _ _ _ st h=>wpAny_pyIter_listiter st h
theorem Nr {K:Frag}(a it:Addr):Turn P w K tg (Pb K a) [it] it (λ i h=>h.IsTupleIter it a i) where
 mem:=by simp
 obj:=λ i h st b g=>by
  have e:b=it:=by simpa using g
  subst e;obtain⟨o,e,c,d⟩:=st;exact⟨o,e,λ v z=>by rw[d]at z;cases z⟩
 keep:=λ i h h' st k=>st.at λ o e=>k it (by simp) o e
 item:=by
  intro X m hw n A i pins s σ H E I hf st l;subst m hw n;obtain⟨xs,x,q,j⟩:=l;obtain⟨f,r,p,D⟩:=I.tuple q;obtain⟨u,L,C⟩:=r.get j;obtain⟨f0,f1,f2,y,f4,t⟩:=hf it (by simp)
  refine wpAny_pyNext_tuple_item st (show s.heap.IsTuple a f.toArray from p) (x:=u) (by simpa using L) λ h' S B=>?_
  have N:Inv X pins σ H { s with heap:=h' }:=I.turned (t':=s.toks) (λ b o g e=>(B.2 b g).trans e) f0 f1 y f4 t
  obtain⟨o,e,c,d⟩:=id S;exact⟨u,rfl,GP (s:={ s with heap:=h' }) e c d (by decide) ⟨x,H,N,C,⟨rfl,λ ys J=>by rw[I.tuple_inj J q];exact j⟩,S,λ b g=>(hf b g).1⟩⟩
 done:=by
  intro X m hw n A i pins s σ H E I hf st l;subst m hw n;obtain⟨xs,q,j⟩:=l;obtain⟨f,r,p,D⟩:=I.tuple q;obtain⟨f0,f1,f2,y,f4,t⟩:=hf it (by simp)
  have Q:=r.length;exact wpAny_pyNext_tuple_end (I.ok.hd A) st (show s.heap.IsTuple a f.toArray from p) (by simp;omega) λ h' M=>⟨rfl,I.turned (t':=s.toks) (λ b o g e=>M b o g e) f0 f1 y f4 t⟩
 self:=λ _ _ _ _ _ st h=>wpAny_pyIter_tupleiter st h
theorem NF {K:Frag}(it:Addr)(lo:Int)(n:Nat):Turn P w K tg (KJ lo n) [it] it (λ i h=>IsRangeIter h it (lo+(i:Nat) * 1) ((n:Int) - (i:Nat)) 1) where
 mem:=by simp
 obj:=λ i h st b a=>by
  have e:b=it:=by simpa using a
  subst e;exact⟨_,st,λ v z=>by
   have Z:Data.fields _=Data.cell v:=z;cases Z⟩
 keep:=λ i h h' st k=>k it (by simp) _ st
 item:=by
  intro X d hw f c i pins s σ H E I hf st g;subst d hw f;obtain⟨f0,f1,f2,l,f4,j⟩:=hf it (by simp)
  have W:=Walks.range (prog:=X.prog) (w:=X.w) (I.ok.hd c) it lo 1 n;refine W.item i s _ _ g st λ v h' tk p S m=>?_;obtain⟨t,rfl⟩:=p;have r:Inv X pins σ H { s with heap:=h',toks:=tk }:=I.turned (λ b o a e=>m b o (by simpa using a) e) f0 f1 l f4 j
  refine⟨_,rfl,GP (s:={ s with heap:=h',toks:=tk }) (n := "range_iterator") S rfl rfl (by decide) ⟨.int (lo+i),H,r,⟨t,?_⟩,⟨rfl,rfl⟩,S,λ b a=>(hf b a).1⟩⟩
  rw[Int.mul_one]
 done:=by
  intro X d hw f c i pins s σ H E I hf st g;subst d hw f;obtain⟨f0,f1,f2,l,f4,j⟩:=hf it (by simp)
  exact wpAny_pyNext_range_end (I.ok.hd c) st (by have:n<=i:=g;omega) λ h' q=>⟨rfl,I.turned (t':=s.toks) (λ b o a e=>q b o a e) f0 f1 l f4 j⟩
 self:=λ _ _ _ _ _ st h=>wpAny_pyIter_rangeiter st h
section
variable {X:Cx}
theorem Ia {σ:St}{H:Hp}{R:It->Hp->Prop}{lo h:Int}{t u v:Tok}{tk:Nat}(I:Inv X pins σ H s)(g:-(2 ^ 62)<=lo)(f:lo<2 ^ 62)(d:-(2 ^ 62)<=h)(c:h<2 ^ 62)
  (q:R (KJ lo (h - lo).toNat) H):wpAny (model X.prog X.w) X.A (pyIter (.ref s.heap.objs.size)) (Pl X pins σ tg R) E { s with heap:=s.heap.push { cls:=.type "range",data:=.fields #[.int lo t,.int h u,.int 1 v] },toks:=tk }:=by
 refine wpAny_pyIter_range (IsRange.new ..) (small_one g f d c) ?_;have i:Inv X pins σ H { s with heap:=s.heap.push { cls:=.type "range",data:=.fields #[.int lo t,.int h u,.int 1 v] },toks:=tk }:=I.kept λ b o e=>ae _ e
 refine⟨(s.heap.push { cls:=.type "range",data:=.fields #[.int lo t,.int h u,.int 1 v] }).objs.size,[(s.heap.push { cls:=.type "range",data:=.fields #[.int lo t,.int h u,.int 1 v] }).objs.size],_,_,H,rfl,
  i.kept (t':=tk) λ b o e=>ae _ e,NF _ lo (h - lo).toNat,?_,λ b a=>?_,q⟩
 ·have l:lo+((0:Nat):Int) * 1=lo:=by simp
  have j:(((h - lo).toNat:Nat):Int) - ((0:Nat):Int)=Builtin.Range.rangeSize lo h 1:=by rw[rangeSize_one];split<;>omega
  show IsRangeIter _ _ (lo+((0:Nat):Int) * 1) ((((h - lo).toNat:Nat):Int) - ((0:Nat):Int)) 1;rw[l,j];exact au _ rfl
 ·have e:b=(s.heap.push { cls:=.type "range",data:=.fields #[.int lo t,.int h u,.int 1 v] }).objs.size:=by simpa using a
  subst e;exact i.fpOk (ar _) (i.hok.fresh (ar _))
def Cb (t:TA):TI:=λ σ H R=>t σ H λ vs H1=>∃j:Int,vs=[.int j]/\-(2 ^ 62)<=j/\j<2 ^ 62/\R (KJ 0 j.toNat) H1
theorem Mb {a:Expr}{T:TA}(g:Gl X "range")(hm:X.mg "range" = none)(i:PA X [a] T)(f:starEach [a] X.env=[(false,eval a X.env)]:=by rfl):PI X tg (.Call (.Name "range" p) [a] [] pos) (Cb T):=by
 intro pins s σ H R I h;refine Call_ (Zk I g hm boot_range (PyProof.Rows.callWith_type1 (zU (i pos pins s σ H _ I h) λ us s1 ⟨vs,H1,l,c,Q⟩=>?_) f rfl));obtain⟨j,e,Q,d,q⟩:=Q;subst e;cases c with
 |cons r b=>
  cases b;obtain⟨t,rfl⟩:=r;exact call_range_1 (Ia l (by omega) (by omega) Q d (by simpa using q))
def CQ (w:TI)(g:TG)(t:TS):TS:=λ D σ H=>w σ H λ J H1=>∃W:Nat->Nat->St->Hp->Prop,(∃m,W 0 m σ H1)/\∀i m σ H,W i m σ H->
 (J.stop i H/\D.nx σ H)∨(J.go i H/\∃N:St->Hp->Prop,(∀a h,N a h->∃M,M<m/\W (i+1) M a h)/\∀x h,J.yld i H x h->g x σ h λ b c=>t { D with nx:=N,ct:=N,bk:=D.nx } b c)
noncomputable def JL (fp:List Addr)(h:Heap):List (Addr×Obj):=fp.filterMap λ b=>(h.get? b).map λ o=>(b,o)
theorem Yv {o:Obj}(H:b∈fp)(e:h.get? b=some o):(b,o)∈JL fp h:=List.mem_filterMap.mpr ⟨b,H,by rw[e];rfl⟩
theorem MB {p:Addr×Obj}(H:p∈JL fp h):p.1∈fp/\h.get? p.1=some p.2:=by
 obtain⟨b,a,e⟩:=List.mem_filterMap.mp H;cases q:h.get? b with
 |none=>rw[q]at e;cases e|some o=>
  rw[q]at e;have E:(b,o)=p:=az e;subst E;exact⟨a,q⟩
theorem Inv.pinned {σ:St}{H:Hp}(I:Inv X pins σ H s)(hf:∀b∈fp,yW X pins H b)(c:∀b∈fp,∃o,s.heap.get? b=some o/\∀v,o.data≠.cell v):Inv X (pins++JL fp s.heap) σ H s:=
 I.pins_of λ p a=>(List.mem_append.mp a).elim (λ z=>I.pin p (aY _ z)) λ z=>by
  obtain⟨h,e⟩:=MB z;obtain⟨f0,f1,f2,_⟩:=hf p.1 h;obtain⟨o,E,d⟩:=c p.1 h;rw[e]at E;cases E;exact⟨e,f0,f1,f2,d⟩
theorem Inv.unpinned {P:List (Addr×Obj)}{σ:St}{H:Hp}(I:Inv X (pins++P) σ H s):Inv X pins σ H s:=I.pins_of λ p h=>I.pin p (aY _ (List.mem_append_left _ h))
theorem E1 {iter:Expr}{U:TI}{g:TG}{Z:TS}(z:PassesOwn (model X.prog X.w) X.A X.env X.xe)(hc:X.calm=true)(hi:PI X tg iter U)(hg:PG X tg g)(l:yv X body Z)
  (hs:∀x,foldedSetIterable iter X.env x=pure x:=by intro _;rfl):PS X (.For tg iter body [] pos) (CQ U g Z):=by
 intro pins s σ H D I h;refine wpAny_For (zU (hi pins s σ H _ I h) λ v s1 h1=>zU h1 λ itv s2 h2=>?_) hs;obtain⟨it,fp,Y,J,H2,e,I2,T,kM,f2,W,⟨m0,w0⟩,turn⟩:=h2;subst e;have S:∀{H':Hp},(∀b∈fp,H' b=none)->∀b∈fp,yW X pins H' b:=λ hn b l=>⟨hn b l,(f2 b l).2⟩;refine codeAny_forLoop_any (λ n s'=>∃i j H',Inv X pins j H' s'/\Y i s'.heap/\(∀b∈fp,H' b=none)/\W i n j H') ?_ m0 ⟨0,σ,H2,I2,kM,λ b l=>(f2 b l).1,w0⟩
 rintro n s3 ⟨i,c,C,I3,wa,B,w3⟩
 rcases turn i n c C w3 with ⟨stop,qn⟩|⟨go,N,hN,step⟩
 ·refine wpAny_passesOwn z (zU (T.done X rfl rfl rfl hc i pins s3 c C X.xe I3 (S B) wa stop) λ r s4 ⟨L,I4⟩=>?_)
  subst L;exact wpAny_execs_nil ⟨c,C,I4,qn⟩
 ·refine wpAny_passesOwn z (zU (T.item X rfl rfl rfl hc i pins s3 c C X.xe I3 (S B) wa go) λ r s4 ⟨u,L,h4⟩=>?_)
  subst L;refine wpAny_passesOwn z (zU h4 λ _ s5 ⟨x,H5,I5,r5,y5,t,M⟩=>?_);have P:=I5.pinned (S M) (T.obj _ _ t);refine wpAny_passesOwn z (zU (hg _ s5 c H5 x u _ P r5 (step x H5 y5)) λ _ s6 ⟨E,H6,I6,q6⟩=>?_);refine wpAny_passesOwn z (zU (l _ s6 E H6 _ I6 q6) λ f K Q=>?_);have again:∀{a:St}{q:Hp},Inv X (pins++JL fp s5.heap) a q K->N a q->∃m,m<n/\∃i j H',Inv X pins j H' K/\Y i K.heap/\(∀b∈fp,H' b=none)/\W i m j H':=λ {a q} p y=>by
   obtain⟨m',hm,w7⟩:=hN a q y;refine⟨m',hm,i+1,a,q,p.unpinned,T.keep _ _ _ t λ b l o e=>(p.pin (b,o) (aY _ (aY _ (Yv l e)))).1,λ b l=>?_,w7⟩;obtain⟨o,e,d⟩:=T.obj _ _ t b l;exact(p.pin (b,o) (aY _ (aY _ (Yv l e)))).2.1
  cases f with
  |next=>obtain⟨a,q,p,y⟩:=Q;exact again p y|cont=>obtain⟨a,q,p,y⟩:=Q;exact again p y|brk=>obtain⟨a,q,p,Q⟩:=Q;exact⟨a,q,p.unpinned,Q⟩|ret v=>obtain⟨x7,a,q,p,r7,Q⟩:=Q;exact⟨x7,a,q,p.unpinned,r7,Q⟩
end
abbrev R2:=V->V->Hp->VK->Prop
def qu (X:Cx)(f:Value->Value->Sem Value)(r:R2):Prop:=
 ∀(pins:List (Addr×Obj))(s:Shared)(σ:St)(H:Hp)(x y:V)(v u:Value)(Q:VK),Inv X pins σ H s->RelV x v->RelV y u->r x y H Q->
  wpAny (model X.prog X.w) X.A (f v u) (EP X pins σ Q) X.xe s
def jK (X:Cx)(f:Value)(r:List V->Hp->VK->Prop):Prop:=
 ∀(pins:List (Addr×Obj))(s:Shared)(σ:St)(H:Hp)(xs:List V)(us:List Value)(Q:VK),Inv X pins σ H s->Vals xs us->r xs H Q->
  wpAny (model X.prog X.w) X.A (call f us) (EP X pins σ Q) X.xe s
noncomputable def J4 (r:R2)(T t:TE):TE:=λ σ H Q=>T σ H λ x H1=>t σ H1 λ y h=>r x y h Q
noncomputable def Bk (r:V->Hp->VK->Prop)(t:TE):TE:=λ σ H Q=>t σ H λ x H1=>r x H1 Q
noncomputable def rI (C:Int->Int->Prop)(g:Int->Int->V):R2:=λ x y H Q=>∃i j,x=.int i/\y=.int j/\C i j/\Q (g i j) H
noncomputable def wH (g:Int->Int->V):R2:=λ x y H Q=>∃i j,x=.int i/\y=.int j/\Q (g i j) H
section
variable {X:Cx}{a b:Expr}{ta tb:TE}
theorem Xa (j:PE X a ta)(i:PE X b tb){σ:St}{H:Hp}{R:V->V->Hp->Prop}(I:Inv X pins σ H s)
  (h:ta σ H λ x H1=>tb σ H1 λ y c=>R x y c)
  (hf:∀v u s2 x y c,Inv X pins σ c s2->RelV x v->RelV y u->R x y c->wpAny (model X.prog X.w) X.A (f v u) Q X.xe s2):
  wpAny (model X.prog X.w) X.A (eval a X.env) (λ v d=>wpAny (model X.prog X.w) X.A (eval b X.env) (λ u S=>wpAny (model X.prog X.w) X.A (f v u) Q X.xe S) X.xe d) X.xe s:=by
 refine zU (j pins s σ H _ I h) λ v s1 ⟨x,H1,m,e,g⟩=>?_;refine zU (i pins s1 σ H1 _ m g) λ u s2 ⟨y,c,l,r,q⟩=>?_;exact hf v u s2 x y c l e r q
theorem D0 {op:Operator}{r:R2}(o:qu X (binaryOp op) r)(f:PE X a ta)(e:PE X b tb):PE X (.BinOp a op b pos) (J4 r ta tb):=by
 intro pins s σ H Q I h;exact wpAny_BinOp (Xa f e I h λ v u s2 x y g i d c q=>o pins s2 σ g x y v u Q i d c q)
theorem K2 {C:Int->Int->Prop}{g:Int->Int->Int}
  (rule:∀(i j:Int)(t u:Tok)(s:Shared)(Q:Value->Shared->Prop)(E:Value->Shared->Prop),C i j->Q (.int (g i j) s.toks) { s with toks:=s.toks+1 }->wpAny (model X.prog X.w) X.A (f (.int i t) (.int j u)) Q E s):
  qu X f (rI C λ i j=>.int (g i j)):=by
 intro pins s σ H x y v u Q I a r h;obtain⟨i,j,rfl,rfl,c,q⟩:=h;obtain⟨t,rfl⟩:=a;obtain⟨t',rfl⟩:=r;exact rule i j t t' s _ _ c ⟨.int (g i j),H,I.tok _,⟨_,rfl⟩,q⟩
theorem Xk {g:Int->Int->Int}
  (rule:∀(i j:Int)(t u:Tok)(s:Shared)(Q:Value->Shared->Prop)(E:Value->Shared->Prop),Q (.int (g i j) s.toks) { s with toks:=s.toks+1 }->wpAny (model X.prog X.w) X.A (f (.int i t) (.int j u)) Q E s):
  qu X f (wH λ i j=>.int (g i j)):=by
 intro pins s σ H x y v u Q I a r h;obtain⟨i,j,rfl,rfl,q⟩:=h;obtain⟨t,rfl⟩:=a;obtain⟨t',rfl⟩:=r;exact rule i j t t' s _ _ ⟨.int (g i j),H,I.tok _,⟨_,rfl⟩,q⟩
theorem Kw {g:Int->Int->Bool}
  (rule:∀(i j:Int)(t u:Tok)(s:Shared)(Q:Value->Shared->Prop)(E:Value->Shared->Prop),Q (.bool (g i j)) s->wpAny (model X.prog X.w) X.A (f (.int i t) (.int j u)) Q E s):
  qu X f (wH λ i j=>.bl (g i j)):=by
 intro pins s σ H x y v u Q I a r h;obtain⟨i,j,rfl,rfl,q⟩:=h;obtain⟨t,rfl⟩:=a;obtain⟨t',rfl⟩:=r;exact rule i j t t' s _ _ ⟨.bl (g i j),H,I,rfl,q⟩
def R0 (i j:Int):Prop:=0<=j/\j<=1000000/\i.natAbs<2 ^ 64
def J1 (i j:Int):Prop:=(-(2 ^ 64)<i/\i<2 ^ 64)∨(-(2 ^ 64)<j/\j<2 ^ 64)
theorem J1.ok {i j:Int}(h:J1 i j):IntMulOk i j:=by
 rcases h with ⟨a,H⟩|⟨a,H⟩
 ·exact .of_left (intBits_le_64 a H)
 ·exact .of_right (intBits_le_64 a H)
theorem F7:qu X (binaryOp .Add) (wH λ i j=>.int (i+j)):=Xk λ _ _ _ _ _ _ _ q=>add_int q
theorem Dm:qu X (binaryOp .Sub) (wH λ i j=>.int (i - j)):=Xk λ _ _ _ _ _ _ _ q=>sub_int q
theorem Eb:qu X (binaryOp .Mult) (rI J1 λ i j=>.int (i * j)):=K2 λ _ _ _ _ _ _ _ h q=>mul_int q h.ok
theorem EN:qu X (binaryOp .Mod) (rI (λ _ j=>0<j) λ i j=>.int (i % j)):=K2 λ i j _ _ _ _ _ h q=>by
 have H:(0:Int)<j:=h;exact mod_int' (by omega) (by rw[Int.fmod_eq_emod_of_nonneg i (by omega)];exact q)
theorem Dx:qu X (binaryOp .Pow) (rI R0 λ i j=>.int (i ^ j.toNat)):=K2 λ _ _ _ _ _ _ _ h q=>pow_int_small h.1 h.2.1 h.2.2 q
theorem Dy:qu X (binaryOp .BitXor) (wH λ i j=>.int (Builtin.bitXor i j)):=Xk λ _ _ _ _ _ _ _ q=>xor_int q
variable {c:Expr}{tc:TE}
theorem Rl {σ:St}{H:Hp}{Q:VK}{k K:Bool}(I:Inv X pins σ H s)(q:Q (.bl k) H)(e:k=K):EP X pins σ Q (.bool K) s:=by
 subst e;exact⟨.bl k,H,I,rfl,q⟩
theorem DG:qu X (compareOp .Lt) (wH λ i j=>.bl (decide (i<j))):=Kw λ _ _ _ _ _ _ _ q=>lt_int q
theorem Cg:qu X (compareOp .LtE) (wH λ i j=>.bl (decide (i<=j))):=Kw λ _ _ _ _ _ _ _ q=>le_int q
theorem Cr:qu X (compareOp .Gt) (wH λ i j=>.bl (decide (j<i))):=Kw λ _ _ _ _ _ _ _ q=>gt_int q
theorem Cv:qu X (compareOp .GtE) (wH λ i j=>.bl (decide (j<=i))):=Kw λ _ _ _ _ _ _ _ q=>ge_int q
theorem Df:qu X (compareOp .Is) (λ x y H Q=>y=.non/\Q (.bl (decide (x=.non))) H):=by
 intro pins s σ H x y v u Q I r a h;obtain⟨rfl,q⟩:=h;cases a;refine is_none_gen (Rl I q ?_);cases x<;>first
  |(cases r;rfl)
  |(obtain⟨t,rfl⟩:=r;rfl)
theorem HW:qu X (compareOp .IsNot) (λ x y H Q=>y=.non/\Q (.bl (!decide (x=.non))) H):=by
 intro pins s σ H x y v u Q I r a h;obtain⟨rfl,q⟩:=h;cases a;refine isnot_none_gen (Rl I q ?_);cases x<;>first
  |(cases r;rfl)
  |(obtain⟨t,rfl⟩:=r;rfl)
theorem qu.or {r c:R2}(h:qu X f r)(h':qu X f c):qu X f (λ x y H Q=>r x y H Q∨c x y H Q):=by
 intro pins s σ H x y v u Q I b a q;rcases q with q|q
 ·exact h pins s σ H x y v u Q I b a q
 ·exact h' pins s σ H x y v u Q I b a q
theorem H9 {r:R2}(o:qu X (compareOp op) r)(f:PE X a ta)(e:PE X b tb)(hm:behindInMarks op b=false):PE X (.Compare a [op] [b] pos) (J4 r ta tb):=by
 intro pins s σ H Q I h;exact wpAny_Compare1 (Xa f e I h λ v u s2 x y g i d c q=>o pins s2 σ g x y v u Q i d c q) hm
noncomputable def RN (t:TE):TT:=λ σ H Q=>t σ H λ x h=>∃k,x=.bl k/\Q k h
theorem Hn {r:R2}(o:qu X (compareOp op) r)(m:PE X a ta)(l:PE X b tb)(hm:behindInMarks op b=false):PT X (.Compare a [op] [b] pos) (RN (J4 r ta tb)):=by
 intro pins s σ H Q I h;refine wpAny_isTrue_Compare1 (zU (m pins s σ H _ I h) λ v s1 ⟨x,H1,t,g,j⟩=>zU (l pins s1 σ H1 _ t j) λ u s2 ⟨y,A,p,f,i⟩=>
  zU (o pins s2 σ A x y v u _ p g f i) λ c s3 ⟨z,w,n,d,k,e,q⟩=>?_) hm
 subst e;cases d;exact wpAny_truthy_bool ⟨w,n,q⟩
noncomputable def GO (r b:R2)(a T t:TE):TE:=λ σ H Q=>a σ H λ x H1=>T σ H1 λ y d=>r x y d λ z h=>∃k,z=.bl k/\
 (if k=true then t σ h λ w c=>b y w c Q else Q (.bl false) h)
theorem LS {o:CmpOp}{r i:R2}(C:qu X (compareOp op) r)(f:qu X (compareOp o) i)(J:PE X a ta)(E:PE X b tb)(D:PE X c tc)
  (hm:lastMarks [op,o] [b,c]=false:=by with_unfolding_all rfl):PE X (.Compare a [op,o] [b,c] pos) (GO r i ta tb tc):=by
 intro pins s σ H Q I h;refine Compare_chain (zU (J pins s σ H _ I h) λ v s1 ⟨x,H1,M,p,B⟩=>chain_link (zU (E pins s1 σ H1 _ M B) λ u s2 ⟨y,P,L,g,A⟩=>
  zU (C pins s2 σ P x y v u _ L p g A) λ d s3 ⟨z,l,j,n,k,e,q⟩=>?_)) hm
 subst e;cases n;refine wpAny_truthy_bool ?_;cases k with
 |false=>exact ite_ff ⟨.bl false,l,j,rfl,q⟩|true=>exact ite_tt (chain_last (zU (D pins s3 σ l _ j q) λ w s4 ⟨Z,N,K,m,t⟩=>f pins s4 σ N y Z u w Q K g m t))
theorem Ly {o:CmpOp}{r i:R2}(J:qu X (compareOp op) r)(f:qu X (compareOp o) i)(M:PE X a ta)(L:PE X b tb)(K:PE X c tc)
  (hm:lastMarks [op,o] [b,c]=false:=by with_unfolding_all rfl):PT X (.Compare a [op,o] [b,c] pos) (RN (GO r i ta tb tc)):=by
 intro pins s σ H Q I h;refine isTrue_chain (zU (M pins s σ H _ I h) λ v s1 ⟨x,H1,Y,t,D⟩=>test_link (zU (L pins s1 σ H1 _ Y D) λ u s2 ⟨y,H2,U,g,C⟩=>
  zU (J pins s2 σ H2 x y v u _ U t g C) λ d s3 ⟨z,l,j,p,k,e,q⟩=>?_)) hm
 subst e;cases p;refine wpAny_truthy_bool ?_;cases k with
 |false=>
  obtain⟨k',P,E⟩:=q;cases P;exact ite_ff ⟨l,j,E⟩
 |true=>
  refine ite_tt (test_last (zU (K pins s3 σ l _ j q) λ w s4 ⟨Z,H4,T,n,B⟩=>zU (f pins s4 σ H4 y Z u w _ T g n B) λ d' s5 ⟨z2,H5,S,m,k2,N,A⟩=>?_));subst N;cases m;exact wpAny_truthy_bool ⟨H5,S,A⟩
theorem QN:(sizeLine:Nat)<2 ^ 63:=by rw[sizeLine_eq];decide
theorem vals1 {x:V}(r:Vals [x] us):∃u,us=[u]/\RelV x u:=by
 cases r with
 |cons b a=>cases a;exact⟨_,rfl,b⟩
theorem vals2 {x y:V}(r:Vals [x,y] us):∃u w,us=[u,w]/\RelV x u/\RelV y w:=by
 cases r with
 |cons d c=>
  cases c with
  |cons b a=>cases a;exact⟨_,_,rfl,d,b⟩
theorem IL:jK X (.builtin "abs") (λ xs H Q=>∃i,xs=[.int i]/\Q (.int (if i<0 then -i else i)) H):=by
 intro pins s σ H xs us Q I r h;obtain⟨i,rfl,q⟩:=h;obtain⟨u,rfl,t,rfl⟩:=vals1 r;exact call_abs_int λ u tk=>⟨.int (if i<0 then -i else i),H,I.tok _,⟨_,rfl⟩,q⟩
theorem MW (c:X.calm=true):jK X (.builtin "max") (λ xs H Q=>∃i j,xs=[.int i,.int j]/\Q (.int (if j > i then j else i)) H):=by
 intro pins s σ H xs us Q I r h;obtain⟨i,j,rfl,q⟩:=h;obtain⟨u,w,rfl,⟨t,rfl⟩,⟨t',rfl⟩⟩:=vals2 r;refine max_two_ints (I.ok.hd c) λ h' tk k=>⟨_,H,I.kept k,?_,q⟩
 by_cases a:j > i
 ·rw[af a,af a];exact⟨_,rfl⟩
 ·rw[aj a,aj a];exact⟨_,rfl⟩
theorem N7 (c:X.calm=true):jK X (.builtin "min") (λ xs H Q=>∃i j,xs=[.int i,.int j]/\Q (.int (if j<i then j else i)) H):=by
 intro pins s σ H xs us Q I r h;obtain⟨i,j,rfl,q⟩:=h;obtain⟨u,w,rfl,⟨t,rfl⟩,⟨t',rfl⟩⟩:=vals2 r;refine min_two_ints (I.ok.hd c) λ h' tk k=>⟨_,H,I.kept k,?_,q⟩
 by_cases a:j<i
 ·rw[af a,af a];exact⟨_,rfl⟩
 ·rw[aj a,aj a];exact⟨_,rfl⟩
theorem MD:jK X (.type "int") (λ xs H Q=>(∃i,xs=[.int i]/\Q (.int i) H)∨∃k,xs=[.bl k]/\Q (.int (if k then 1 else 0)) H):=by
 intro pins s σ H xs us Q I r h;rcases h with ⟨i,rfl,q⟩|⟨k,rfl,q⟩
 ·obtain⟨u,rfl,t,rfl⟩:=vals1 r
  exact call_int_int ⟨.int i,H,I,⟨_,rfl⟩,q⟩
 ·obtain⟨u,rfl,a⟩:=vals1 r
  cases a;exact call_int_bool ⟨.int (if k then 1 else 0),H,I.tok _,⟨_,rfl⟩,q⟩
end
structure Xe (h:Heap)(x dx C:Addr)(mA:Str->Option Value):Prop where
 obj:h.get? x=some (instObj C dx)
 ns:h.Ns1 dx mA
 ne:dx≠x
theorem Mg {D:Addr}{m:Str->Option Value}(n:h.Ns1 D m):∃d,h.get? D=some d/\∀name,lookIn name d=some (m name):=by
 obtain⟨o,E,p,c,hd,f,_,hm⟩:=n;refine⟨o,c,λ name=>?_⟩;have e:=hm name;unfold nsFind findBy at e;rw[<- Array.find?_toList]at e;unfold lookIn;rw[hd];dsimp only
 split
 ·rename_i y q
  rw[q]at e;exact congrArg some e
 ·rename_i q
  rw[q]at e;have a:E.toList.any (·.refKey)=false:=by
   rw[List.any_eq_false];intro y b;obtain⟨z,t,H⟩:=f y (Array.mem_toList_iff.mp b);simp[DictEntry.refKey,H]
  have A:¬E.toList.any (·.refKey)=true:=by rw[a];exact ay
  rw[aj A];exact congrArg some e
theorem Xe.look {x d C:Addr}{m:Str->Option Value}(I:Xe h x d C m):∃o,PySem.W.InstAt h x (instObj C d) C (some o)/\∀name,lookIn name o=some (m name):=
 let ⟨o,H,l⟩:=Mg I.ns
 ⟨o,⟨I.obj,rfl,rfl,H⟩,l⟩
theorem gL.some_of {v:V}{o:Option Value}(r:gL (some v) o):∃u,o=some u/\RelV v u:=by
 cases o with
 |none=>exact(show False from r).elim|some u=>exact⟨u,rfl,r⟩
section
variable {H:Hp}{C dx:Addr}{fs:List (Str×V)}
theorem FR (hok:jm P w H h)(e:H a=some (.ins C dx fs)):∃m,Xe h a dx C m/\(∀f,gL (fs.lookup f) (m f))/\PySem.Within m (fs.map (·.1))/\fs.length<=1000/\H dx=some (.own a):=by
 obtain⟨d,z,ne,ob,m,n,r,q⟩:=(show jk P w H h a (.ins C dx fs) from hok a _ e)
 exact⟨m,⟨ob,n,ne⟩,r,q,z,d⟩
end
structure Xu (K:Frag)(C:Addr):Prop where
 pg:plainGet K C Str.empty=true
 hd:PySem.W.hasDictIn K C=true
 po:PySem.W.plainOver K C=true
 sa:findIn K (.ref C) "__setattr__" = some (some (.builtin "object.__setattr__"))
theorem Xu.get {K:Frag}{C:Addr}(c:Xu K C)(f:Str):plainGet K C f=true:=c.pg
section
variable {X:Cx}{σ:St}{H:Hp}{A:Around}{c:Value}{b:Bool}
inductive kG (K:Frag)(H:Hp):V->Value->Prop where
 |non:kG K H .non (.type "NoneType")
 |bl (x:Bool):kG K H (.bl x) (.type "bool")
 |int (i:Int):kG K H (.int i) (.type "int")
 |str (x:Str):kG K H (.str x) (.type "str")
 |flt (x:UInt64):kG K H (.flt x) (.type "float")
 |lst {a:Addr} {xs:List V} (e:H a=some (.lst xs)):kG K H (.ref a) (.type "list")
 |frz {a:Addr} {o:Obj} {xs:List V} (e:H a=some (.frz o (.lst xs))):kG K H (.ref a) (.type "list")
 |tup {a:Addr} {xs:List V} (e:H a=some (.tup xs)):kG K H (.ref a) (.type "tuple")
 |dK {a:Addr} {kvs:List (Key×V)} (e:H a=some (.dK kvs)):kG K H (.ref a) (.type "dict")
 |dT {a:Addr} {kvs:List (List Key×V)} (e:H a=some (.dT kvs)):kG K H (.ref a) (.type "dict")
 |ins {a C dx:Addr} {fs:List (Str×V)} (e:H a=some (.ins C dx fs)) (cl:Xu K C) (ha:findIn K (.ref C) "__class__" = some (some (.builtin "object.__class__")))
   (hn:PySem.W.specialIn K (.builtin "object.__class__") "__get__" = some (some (.builtin "getset_descriptor.__get__"))) (htk:PySem.W.takesIn K (.builtin "object.__class__")=some true)
   (hm:mroIn K C (.type "object")=some true):kG K H (.ref a) (.ref C)
theorem MO {x:V}{t:Value}(I:Inv X pins σ H s)(r:RelV x u)(ty:kG X.K H x t)(e:kitOne X.K t c=some b)(h:∀tk,Q (.bool b) { s with toks:=tk }):
  wpAny (model X.prog X.w) A (call (.builtin "isinstance") [u,c]) Q E s:=by
 cases ty with
 |non=>cases (show u=Value.none from r);exact bx PySem.W.kitx_none I.kIn True.intro e (λ z=>nomatch z) h
 |bl y=>cases (show u=Value.bool y from r);exact bx PySem.W.kitx_bool I.kIn True.intro e (λ z=>nomatch z) h
 |int i=>obtain⟨t,q⟩:=(show ∃t,u=Value.int i t from r);cases q;exact bx PySem.W.kitx_int I.kIn True.intro e (λ z=>nomatch z) h
 |str y=>obtain⟨t,q⟩:=(show ∃t,u=Value.str y t from r);cases q;exact bx PySem.W.kitx_str I.kIn True.intro e (λ z=>nomatch z) h
 |flt y=>obtain⟨t,q⟩:=(show ∃t,u=Value.float y t from r);cases q;exact bx PySem.W.kitx_float I.kIn True.intro e (λ z=>nomatch z) h
 |@lst a xs d=>
  cases (show u=Value.ref a from r)
  obtain⟨_,_,n,_,f⟩:=(show jk X.prog X.w H s.heap a (.lst xs) from I.hok a _ d)
  exact bx kitx_list I.kIn ⟨_,f,rfl⟩ e (λ z=>nomatch z) h
 |@frz a ob xs d=>
  cases (show u=Value.ref a from r)
  obtain⟨_,_,_,n,_,f⟩:=(show jk X.prog X.w H s.heap a (.frz ob (.lst xs)) from I.hok a _ d)
  exact bx kitx_list I.kIn ⟨_,f,rfl⟩ e (λ z=>nomatch z) h
 |@tup a xs d=>
  cases (show u=Value.ref a from r)
  obtain⟨_,_,_,p⟩:=(show jk X.prog X.w H s.heap a (.tup xs) from I.hok a _ d)
  obtain⟨o,f,g,_⟩:=p;exact bx kitx_tuple I.kIn ⟨o,f,g.1⟩ e (λ z=>nomatch z) h
 |@dK a kvs d=>
  cases (show u=Value.ref a from r)
  obtain⟨_,_,vs,_,p⟩:=(show jk X.prog X.w H s.heap a (.dK kvs) from I.hok a _ d)
  obtain⟨o,m,v,f,g,_⟩:=p;exact bx kitx_dict I.kIn ⟨o,f,g.1⟩ e (λ z=>nomatch z) h
 |@dT a kvs d=>
  cases (show u=Value.ref a from r)
  obtain⟨_,_,xs,_,o,m,v,f,g,_⟩:=(show jk X.prog X.w H s.heap a (.dT kvs) from I.hok a _ d)
  exact bx kitx_dict I.kIn ⟨o,f,g.1⟩ e (λ z=>nomatch z) h
 |@ins a C dx fs d cl l hn j hm=>
  cases (show u=Value.ref a from r)
  obtain⟨M,O,_⟩:=FR I.hok d;obtain⟨B,J,_⟩:=O.look;exact bx (PySem.W.kitx_own (cl.get _) cl.hd l hn j hm) I.kIn J e (λ z=>nomatch z) h
end
structure jy (k:Nat)(A:Around):Prop where
 hd:A.handled=none
 dp:A.depth+3 * k+5<recursionLimit
 un:A.units+16 * k+200<cLine
theorem jy.mono {j k:Nat}{A:Around}(r:jy k A)(h:j<=k):jy j A:=⟨r.hd,by have:=r.dp;omega,by have:=r.un;omega⟩
theorem jy.deeper {k:Nat}{A:Around}(r:jy (k+1) A)(env:Env):jy k (A.deeper env):=
 ⟨r.hd,by have:=r.dp;show A.depth+1+3 * k+5<_;omega,by have:=r.un;show A.units+3+16 * k+200<_;omega⟩
theorem jy.depth {k:Nat}{A:Around}(r:jy k A):A.depth<recursionLimit:=by have:=r.dp;omega
theorem jy.units {k:Nat}{A:Around}(r:jy k A):A.units+64<cLine:=by have:=r.un;omega
noncomputable def RW:TA:=λ _ H Q=>Q [] H
noncomputable def Rx (T:TE)(t:TA):TA:=λ σ H Q=>T σ H λ x H1=>t σ H1 λ xs h=>Q (x::xs) h
section
variable {X:Cx}{es:List Expr}{te:TE}{t:TA}
theorem j3:PA X [] RW:=λ _ _ _ _ H Q I h=>Calls.spliced_nil ⟨[],H,I,.nil,h⟩
theorem jA (f:PE X e te)(d:PA X es t)(c:starEach (e::es) X.env=(false,eval e X.env)::starEach es X.env:=by rfl):PA X (e::es) (Rx te t):=by
 intro pos pins s σ H Q I h;rw[c];show wpAny _ _ (spliced ((false,eval e X.env)::backTo pos (starEach es X.env))) _ _ s;refine Calls.spliced_cons (zU (f pins s σ H _ I h) λ u s1 ⟨x,H1,g,a,b⟩=>?_);exact zU (d pos pins s1 σ H1 _ g b) λ us s2 ⟨xs,j,i,r,q⟩=>⟨x::xs,j,i,.cons a r,q⟩
def CT (t:TA):TE:=λ σ H Q=>t σ H λ xs H1=>xs.length<=sizeLine/\∀p,H1 p=none->Q (.ref p) (upd H1 p (.tup xs))
def C8 (t:TA):TE:=λ σ H Q=>t σ H λ xs H1=>xs.length<=sizeLine/\∀p,H1 p=none->Q (.ref p) (upd H1 p (.lst xs))
theorem EU {x1}(h:PA X es t):PE X (.Tuple es x1 pos) (CT t):=by
 intro pins s σ H Q I a;refine wpAny_Tuple_spliced (zU (h pos pins s σ H _ I a) λ us s1 ⟨xs,H1,i,r,z,q⟩=>⟨by rw[<- r.length];exact z,?_⟩)
 have hf:H1 s1.heap.objs.size=none:=i.hok.fresh (ar _);refine⟨.ref s1.heap.objs.size,upd H1 s1.heap.objs.size (.tup xs),i.laid (t':=s1.toks) (λ b u e=>ae _ e) (ar _) ?_,rfl,q _ hf⟩;exact⟨z,us,r,⟨_,au _ rfl,⟨rfl,rfl⟩,_,rfl⟩⟩
theorem Dh (h:PA X es t):PE X (.List es pos) (C8 t):=by
 intro pins s σ H Q I a;refine wpAny_List_spliced (zU (h pos pins s σ H _ I a) λ us s1 ⟨xs,H1,i,r,z,q⟩=>⟨by rw[<- r.length];exact z,?_⟩)
 have hf:H1 s1.heap.objs.size=none:=i.hok.fresh (ar _);refine⟨.ref s1.heap.objs.size,upd H1 s1.heap.objs.size (.lst xs),i.laid (t':=s1.toks) (λ b u e=>ae _ e) (ar _) ?_,rfl,q _ hf⟩;exact⟨z,us,0,r,au _ rfl⟩
end
abbrev Sp:=List V->Hp->VK->XK->Prop
abbrev kK:=List Env->Hp->Shared->XK->Value->Shared->Prop
structure KG (P:Program)(w:World)(K:Frag)(mg:Str->Option Value)(base:Heap)(A:Around)(outer:List Env)(s:Shared)(H:Hp):Prop where
 frames:A.frames=some outer
 mod:Mod K mg base
 bs:∀b o,base.get? b=some o->s.heap.get? b=some o/\H b=none
 bsz:base.objs.size<=s.heap.objs.size
 funs:s.heap.FunFrames base outer
 frf:∀b∈wK outer,H b=none
 hok:jm P w H s.heap
 bare:AllBare s.gens
inductive CE (outer:List Env)(P:Program)(w:World)(H:Hp)(s:Shared)(Q:VK)(u:Value)(s':Shared):Prop
 |mk (v:V) (H':Hp) (os:s'.os=s.os) (b:AllBare s'.gens) (un:Un (wK outer) [] H H' s.heap s'.heap) (hk:jm P w H' s'.heap) (r:RelV v u) (q:Q v H')
def CR (CX:kK)(outer:List Env)(P:Program)(w:World)(H:Hp)(s:Shared)(Q:VK)(E:XK)(r:Result)(S:Shared):Prop:=
 match r with
 |.ok (.ret u)=>CE outer P w H s Q u S|.ok _=>False|.error e=>CX outer H s E e S
structure yt (P:Program)(w:World)(K:Frag)(mg:Str->Option Value)(base:Heap)(CX:kK)(k:Nat)(f:Addr)(fd:FuncData)(ps:List Str)(sp:Sp):Prop where
 len:∀vs H Q E,sp vs H Q E->vs.length=ps.length
 run:∀(A:Around)(outer:List Env)(s:Shared)(H:Hp)(args:Args)(us:List Value)(vs:List V)(Q:VK)(E:XK),jy k A->KG P w K mg base A outer s H->BindsTo s fd args (ps.zip us)->Vals vs us->sp vs H Q E->
  codeAny (model P w) A (.call (.ref f) args) (CR CX outer P w H s Q E) s
theorem yt.mono {K:Frag}{CX:kK}{j k:Nat}{f:Addr}{sp:Sp}(F:yt P w K mg base CX j f fd ps sp)(h:j<=k):
  yt P w K mg base CX k f fd ps sp:=⟨F.len,λ A outer s H args us vs Q E r=>F.run A outer s H args us vs Q E (r.mono h)⟩
theorem yt.imp {K:Frag}{CX:kK}{k:Nat}{f:Addr}{sp S:Sp}(F:yt P w K mg base CX k f fd ps sp)
  (h:∀vs H Q E,S vs H Q E->sp vs H Q E):yt P w K mg base CX k f fd ps S:=
 ⟨λ vs H Q E q=>F.len vs H Q E (h _ _ _ _ q),λ A outer s H args us vs Q E r he b v a=>F.run A outer s H args us vs Q E r he b v (h _ _ _ _ a)⟩
section
variable {X:Cx}{σ:St}{H:Hp}{s':Shared}
theorem Inv.env0 (I:Inv X pins σ H s):KG X.prog X.w X.K X.mg X.base X.A X.stack s H:=
 ⟨I.ok.frames,I.ok.mod,I.bs,bq I.ok.bsz I.sz,I.stack,I.stkFree,I.hok,I.bare⟩
theorem Inv.after {Q:VK}(I:Inv X pins σ H s)(h:CE X.stack X.prog X.w H s Q u s'):EP X pins σ Q u s':=by
 obtain⟨v,c,os,bare,un,hok,r,q⟩:=h;obtain⟨a,g,d,t,o⟩:=s';obtain rfl:o=s.os:=os;exact⟨v,c,I.call (h':=a) (g':=g) (d':=d) (t':=t) (ch:=[]) un hok bare (λ b z=>absurd z (by simp)),r,q⟩
end
noncomputable def Cs (sp:Sp)(d:List V)(E:XK)(t:TA):TE:=λ σ H Q=>t σ H λ vs H1=>sp (vs++d) H1 Q E
def Binds (K:Frag)(fd:FuncData)(p:List Str)(ds:List Value):Prop:=
 ∀(s:Shared)(us:List Value),K.In s.heap->(us++ds).length=p.length->BindsTo s fd ⟨us,[]⟩ (p.zip (us++ds))
theorem Binds.all {K:Frag}(h:∀us:List Value,us.length=ps.length->bindArgs fd ⟨us,[]⟩=pure (ps.zip us)):Binds K fd ps []:=λ s us _ H=>by
 rw[append_nil]at H ⊢;exact .of_eq (h us H)
def Passes (CX:kK)(X:Cx)(E:XK):Prop:=∀(pins:List (Addr×Obj))(σ:St)(H:Hp)(s:Shared)(e:Value)(s':Shared),Inv X pins σ H s->CX X.stack H s E e s'->X.xe e s'
section
variable {X:Cx}{CX:kK}{k:Nat}{f:Addr}{sp:Sp}{dvs:List V}{ds:List Value}{E:XK}{es:List Expr}{t:TA}
theorem FY {σ:St}{H:Hp}{Q:VK}{vs:List V}(F:yt X.prog X.w X.K X.mg X.base CX k f fd ps sp)(b:jy k X.A)(c:Binds X.K fd ps ds)(hd:Vals dvs ds)(x:Passes CX X E)
  (I:Inv X pins σ H s)(r:Vals vs us)(h:sp (vs++dvs) H Q E):wpAny (model X.prog X.w) X.A (call (.ref f) us) (EP X pins σ Q) X.xe s:=by
 have a:Vals (vs++dvs) (us++ds):=r.append hd;have l:(us++ds).length=ps.length:=by rw[<- a.length];exact F.len _ _ _ _ h
 refine wpAny_call (codeAny_mono (F.run X.A X.stack s H ⟨us,[]⟩ (us++ds) (vs++dvs) Q E b I.env0 (c s us I.kIn l) a h) λ r S q=>?_);cases r with
 |error e=>exact x pins σ H s e S I q|ok d=>
  cases d with
  |ret u=>exact I.after q|next=>exact False.elim q|brk=>exact False.elim q|cont=>exact False.elim q
theorem HH (F:yt X.prog X.w X.K X.mg X.base CX k f fd ps sp)(c:jy k X.A)(g:Gl X x)(hm:X.mg x=some (.ref f))(d:keepIn X.K (.ref f)=true)(j:Binds X.K fd ps ds)(hd:Vals dvs ds)(a:Passes CX X E)
  (m:PA X (e::es) t)(b:(x==("__debug__" : Str))=false:=by decide)(he:starEach (e::es) X.env=(false,eval e X.env)::starEach es X.env:=by rfl)(l:(backTo pos (starEach es X.env)).any (·.1)=false:=by rfl):
  PE X (.Call (.Name x p) (e::es) [] pos) (Cs sp dvs E t):=by
 intro pins s σ H Q I h;refine wpAny_Call_Name_kw (Sb I g hm ?_ b);refine PySem.W.callWith_K (h₀:=X.base) I.ok.mod.kin d (zU (m pos pins s σ H _ I h) λ us s1 ⟨vs,H1,i,r,q⟩=>⟨i.kIn,?_⟩) he l;exact FY F c j hd a i r q
end
structure qo (N P:List Str)(sc:Scope):Prop where
 kind:sc.kind=.function
 co:sc.isCoroutine=false
 gen:sc.isGenerator=false
 nd:N.Nodup
 pre:N.take P.length=P
 par:∀x∈P,sc.names.lookup x=some .local∨sc.names.lookup x=some .cell
 nofree:∀y∈sc.names,y.2≠.free
theorem UR {kindOf:Str->Option NameKind}:∀{binds:List (Str×Value)}{m:Str->Option Value},(∀v,(x,v)∉binds)->bindL kindOf binds m x=m x
 |[],_,_=>rfl|(n,v)::r,m,h=>by
  unfold bindL;rw[UR λ w hw=>h w (aD _ hw)]
  split
  ·have:x≠n:=by rintro rfl;exact h v aG
   simp[this]
  ·rfl
theorem UE {kindOf:Str->Option NameKind}:∀{binds:List (Str×Value)}{m:Str->Option Value},(∀v,(x,v)∉binds)->bindC kindOf binds m x=m x
 |[],_,_=>rfl|(n,v)::r,m,h=>by
  unfold bindC;rw[UE λ w hw=>h w (aD _ hw)]
  split
  ·rfl
  ·have:x≠n:=by rintro rfl;exact h v aG
   simp[this]
theorem UQ {kindOf:Str->Option NameKind}{v:Value}:∀{P:List Str}{vs:List Value}{i:Nat}{m:Str->Option Value},P.Nodup->P[i]? =some x->vs[i]? =some v->kindOf x=some .local->
  bindL kindOf (P.zip vs) m x=some v
 |[],_,_,_,_,h,_,_=>by simp at h|_::_,[],_,_,_,_,h,_=>by simp at h|p::P,w::vs,0,m,nd,h1,H,a=>by
  simp at h1 H;subst h1;subst H;show bindL kindOf ((p,w)::P.zip vs) m p=_;unfold bindL;rw[UR λ v b=>(List.nodup_cons.mp nd).1 (of_mem_zip b).1,af a];simp
 |p::P,w::vs,i+1,m,nd,h1,H,a=>by
  show bindL kindOf ((p,w)::P.zip vs) m x=_;unfold bindL;exact UQ (i:=i) (List.nodup_cons.mp nd).2 (by simpa using h1) (by simpa using H) a
theorem UO {kindOf:Str->Option NameKind}{v:Value}:∀{P:List Str}{vs:List Value}{i:Nat}{m:Str->Option Value},P.Nodup->P[i]? =some x->vs[i]? =some v->kindOf x≠some .local->
  bindC kindOf (P.zip vs) m x=some v
 |[],_,_,_,_,h,_,_=>by simp at h|_::_,[],_,_,_,_,h,_=>by simp at h|p::P,w::vs,0,m,nd,h1,H,a=>by
  simp at h1 H;subst h1;subst H;show bindC kindOf ((p,w)::P.zip vs) m p=_;unfold bindC;rw[UE λ v b=>(List.nodup_cons.mp nd).1 (of_mem_zip b).1,aj a];simp
 |p::P,w::vs,i+1,m,nd,h1,H,a=>by
  show bindC kindOf ((p,w)::P.zip vs) m x=_;unfold bindC;exact UO (i:=i) (List.nodup_cons.mp nd).2 (by simpa using h1) (by simpa using H) a
noncomputable def start (N:List Str)(vs:List V):St:=vs.map some++List.replicate (N.length - vs.length) none
noncomputable def Zx (CX:kK)(P:Program)(w:World)(K:Frag)(mg:Str->Option Value)(base:Heap)(N:List Str)(qual:Str)(scope:Scope)(f:Addr)(cd:Value)(A:Around)(outer:List Env)(s:Shared)(H:Hp)(E:XK):Cx where
 prog:=P
 w:=w
 K:=K
 mg:=mg
 base:=base
 A:=A.deeper (envOfC qual scope s.heap.objs.size f cd)
 N:=N
 s0:=s
 H0:=H
 env:=envOfC qual scope s.heap.objs.size f cd
 outer:=outer
 stack:=envOfC qual scope s.heap.objs.size f cd::outer
 ex:=[]
 calm:=true
 fn:=λ _=>true
 pn:=[]
 xe:=λ e a=>wpAny (model P w) (A.deeper (envOfC qual scope s.heap.objs.size f cd)) (leaving (envOfC qual scope s.heap.objs.size f cd) e) (λ _ S=>CX outer H s E e S) (λ b S=>CX outer H s E b S) a
theorem U7 (h:sc.names.lookup x=some .cell):∃c,(cellsFrom n sc.names []).lookup x=some c:=by
 have q:=cellsFrom_some sc.names n [] (.inl h);exact Option.isSome_iff_exists.mp q
theorem Mt {CX:kK}{K:Frag}{qual:Str}{f:Addr}{cd:Value}{A:Around}{outer:List Env}{s1:Shared}{H:Hp}{E:XK}{vs:List V}
  (S:qo N ps scope)(hd:A.handled=none)(e0:KG P w K mg base A outer s H)(L:vs.length=ps.length)(r:Vals vs us)
  (x:InCallC s s.heap.objs.size (bindL (envOfC qual scope s.heap.objs.size f cd).kindOf (ps.zip us) λ _=>none) (cellsFrom (s.heap.objs.size+1) scope.names []) (bindC (envOfC qual scope s.heap.objs.size f cd).kindOf (ps.zip us) λ _=>none) s1):
  Inv (Zx CX P w K mg base N qual scope f cd A outer s H E) [] (start N vs) H s1:=by
 have I:ps.length<=N.length:=by have:=congrArg List.length S.pre;rw[length_take]at this;omega
 obtain⟨t,tk,rfl,C⟩:=x.done;have g:∀b:Addr,b∉(Zx CX P w K mg base N qual scope f cd A outer s H E).ex:=λ b z=>absurd (show b∈([]:List Addr) from z) (by simp)
 refine⟨⟨e0.mod,S.kind,rfl,rfl,ar _,λ y z c t d=>?_,λ y j=>?_,λ y c _ h=>?_,λ _=>hd,Around.frames_deeper e0.frames,.inr ⟨rfl,rfl⟩,λ b z=>absurd z (g b),e0.bs,e0.bsz,λ b _ _=>g b,λ b z=>absurd z (g b),e0.funs,e0.frf⟩,
  rfl,e0.bare,Un.kept C,⟨_,x.toInCall.ns,λ i y v t d M=>?_⟩,λ y c h=>⟨_,x.cell y c h⟩,e0.hok.fresh (ar _),λ y c h=>?_,λ p m=>absurd (show p∈([]:List (Addr×Obj)) from m) (by simp),e0.hok.kept C,?_⟩
 ·exact name_of_addr x.apart (PySem.mem_of_lookup t) (PySem.mem_of_lookup d)
 ·have j:scope.names.lookup y=some .cell∨scope.names.lookup y=some .free:=j
  rcases j with j|j
  ·exact U7 j
  ·exact absurd rfl (S.nofree _ (PySem.mem_of_lookup j))
 ·exact br (x.above y c (PySem.mem_of_lookup h))
 ·have o:i<vs.length:=by
   unfold start at d
   by_cases o:i<vs.length
   ·exact o
   ·rw[ax (by simpa using o)]at d
    rw[bo]at d
    split at d<;>cases d
  have J:vs[i]? =some v:=by
   unfold start at d;rw[ai (by simpa using o),ak]at d
   cases e:vs[i]? with
   |none=>rw[e]at d;cases d|some a=>rw[e]at d;cases d;rfl
  obtain⟨u,B,D⟩:=r.get J;have m:ps[i]? =some y:=by
   rw[<- S.pre,List.getElem?_take_of_lt (by omega)];exact t
  have l:ps.Nodup:=by rw[<- S.pre];exact S.nd.sublist (List.take_sublist _ _)
  refine⟨u,D,?_⟩;rcases S.par y (List.mem_of_getElem? m) with k|k
  ·exact .inl ⟨k,UQ l m B k⟩
  ·obtain⟨c,e⟩:=U7 (n:=s.heap.objs.size+1) k
   refine .inr ⟨.inl k,c,e,?_⟩;have q:=x.cell y c e;rw[UO l m B (by show scope.names.lookup y≠_;rw[k];decide)]at q
   exact q
 ·exact e0.hok.fresh (br (x.above y c (PySem.mem_of_lookup h)))
 ·unfold start
  show _=N.length;rw[aE,ah,bb];omega
theorem Cw {CX:kK}{K:Frag}{k:Nat}{f:Addr}{name qual:Str}{params:Arguments}{D kV doc pm c ct C:Value}{an B:Option Addr}
  {sp:Sp}(L:K.lookup f=some ⟨C,B,.func (fnOf name qual params body scope D kV doc pm an c ct),osl⟩)(z:codeIn K c qual=true)(S:qo N ps scope)
  (len:∀vs H Q E,sp vs H Q E->vs.length=ps.length)
  (g:∀(A:Around)(outer:List Env)(s:Shared)(H:Hp)(vs:List V)(Q:VK)(E:XK),jy k (A.deeper (envOfC qual scope s.heap.objs.size f c))->sp vs H Q E->
   ∃t,yv (Zx CX P w K mg base N qual scope f c A outer s H E) body t/\t { nx:=λ _ h=>Q .non h,rt:=Q } (start N vs) H):
  yt P w K mg base CX (k+1) f (fnOf name qual params body scope D kV doc pm an c ct) ps sp:=by
 refine⟨len,λ A outer s H args us vs Q E m e0 Z r p=>?_⟩;have Y:=len _ _ _ _ p;have X:K.In s.heap:=e0.mod.kin.keeps λ b o e=>(e0.bs b o e).1;have lim:s.heap.NoLimit:=e0.mod.nolimit.keeps λ b o e=>(e0.bs b o e).1;have d:∀y∈ps.zip us,scope.names.lookup y.1=some .local∨(scope.names.lookup y.1=some .cell/\((cellsFrom (s.heap.objs.size+1) scope.names []).lookup y.1).isSome=true):=λ ⟨n,v⟩ M=>by
  rcases S.par n (of_mem_zip M).1 with q|q
  ·exact .inl q
  ·exact .inr ⟨q,cellsFrom_some _ _ _ (.inl q)⟩
 refine codeAny_call_function m.depth (X _ _ L) rfl S.co S.gen rfl (PySem.W.codeRec_of X z) (Z _ _ _ _ ?_);refine wpAny_newFunctionEnv_cells S.kind d λ env he s1 x=>?_;subst he;refine⟨lim.keeps x.toInCall.keep,codeAny_func ?_⟩;obtain⟨t,T,U⟩:=g A outer s H vs Q E (m.deeper _) p;have I:Inv (Zx CX P w K mg base N qual scope f c A outer s H E) [] (start N vs) H s1:=Mt S m.hd e0 Y r x;refine wpAny_mono (T [] s1 (start N vs) H _ I U) (λ fl j i=>?_) λ e j i=>i;have fin:∀{a:St}{h:Hp}{v:V}{u:Value},Inv (Zx CX P w K mg base N qual scope f c A outer s H E) [] a h j->RelV v u->Q v h->CE outer P w H s Q u j:=
  λ {a h v u} J l q=>⟨v,h,J.os,J.bare,J.base,J.hok,l,q⟩
 cases fl with
 |ret u=>
  obtain⟨v,a,h,J,l,q⟩:=i;exact fin J l q
 |next=>
  obtain⟨a,h,J,q⟩:=i;exact fin (v:=V.non) (u:=Value.none) J rfl q
 |brk=>
  obtain⟨_,_,_,q⟩:=i;exact False.elim q
 |cont=>
  obtain⟨_,_,_,q⟩:=i;exact False.elim q
section
variable {X:Cx}{es:List Expr}{t:TA}{id T:String}{r:List V->Hp->VK->Prop}
noncomputable def XB (r:List V->Hp->VK->Prop)(t:TA):TE:=λ σ H Q=>t σ H λ vs H1=>r vs H1 Q
theorem Jy (c:jK X (.builtin id) r)(g:Gl X x)(hm:X.mg x=none)(v:bootBuiltins x=some (.builtin id))(d:PA X (e::es) t)(hn:x ≠ "__name__" := by decide)(b:(x==("__debug__" : Str))=false:=by decide)
  (he:starEach (e::es) X.env=(false,eval e X.env)::starEach es X.env:=by rfl)(l:(backTo pos (starEach es X.env)).any (·.1)=false:=by rfl):PE X (.Call (.Name x p) (e::es) [] pos) (XB r t):=by
 intro pins s σ H Q I h;refine wpAny_Call_Name_kw (Zk I g hm v ?_ hn b);exact PyProof.Rows.callWith_builtin1 (zU (d pos pins s σ H _ I h) λ us s1 ⟨vs,H1,i,a,q⟩=>c pins s1 σ H1 vs us Q i a q) he l
theorem Qy (c:jK X (.type T) r)(g:Gl X x)(hm:X.mg x=none)(v:bootBuiltins x=some (.type T))(d:PA X (e::es) t)(hn:x ≠ "__name__" := by decide)(b:(x==("__debug__" : Str))=false:=by decide)
  (he:starEach (e::es) X.env=(false,eval e X.env)::starEach es X.env:=by rfl)(l:(backTo pos (starEach es X.env)).any (·.1)=false:=by rfl):PE X (.Call (.Name x p) (e::es) [] pos) (XB r t):=by
 intro pins s σ H Q I h;refine wpAny_Call_Name_kw (Zk I g hm v ?_ hn b);exact PyProof.Rows.callWith_type1 (zU (d pos pins s σ H _ I h) λ us s1 ⟨vs,H1,i,a,q⟩=>c pins s1 σ H1 vs us Q i a q) he l
end
end L2
variable {X:L2.Cx}{H:L2.Hp}{kvs:List (L2.Key×L2.V)}{xs ys:List L2.V}{r:List L2.V->L2.Hp->L2.VK->Prop}{σ:L2.St}{v:L2.V}
namespace HT
open PySem PyProof.Rows
section
open PySem.SeqAt
open PySem.AutoSeq1 (wpAny_loadPart')
open PySem.MeetsSeq PySem.MeetsSeq2 PySem.MeetsSeq3
end
section
variable {prog:Program}{A:Around}
theorem I9 {t:Addr}{vs ws:List Value}(a:IsTup s.heap t vs.toArray)(f:IsTup s.heap b ws.toArray)(v:vs≠[])
  (i:ws=[]->Q (.ref t) s)(g:ws≠[]->Q (.ref s.heap.objs.size) { s with heap:=s.heap.push { cls:=.type "tuple",data:=.seq (vs++ws).toArray } })
  (z:vs.length+ws.length<=sizeLine):wpAny (model prog w) A (binaryOp .Add (.ref t) (.ref b)) Q E s:=by
 obtain⟨⟨cls,D,data,l⟩,o,c,n,hd⟩:=id a;obtain⟨⟨C,d,data2,S⟩,h,H,N,hd2⟩:=id f;simp only at c hd H hd2;subst c hd H hd2;have e:vs.toArray++ws.toArray=(vs++ws).toArray:=by simp
 by_cases hw:ws=[]
 ·exact concat_meets ⟨_,o,rfl⟩ ⟨_,h,rfl⟩ noFill_tuple_add seq_tuple_add slot_tuple_add entry_tuple_add (args_tuple_add_2 _ _)
   (tuple_addW1 t b vs.toArray ws.toArray n N D d l S (by simpa using v) (by simp[hw])) ⟨o,h,i hw⟩
 ·refine concat_meets ⟨_,o,rfl⟩ ⟨_,h,rfl⟩ noFill_tuple_add seq_tuple_add slot_tuple_add entry_tuple_add (args_tuple_add_2 _ _)
   (tuple_addW2 t b vs.toArray ws.toArray n N D d l S (by simpa using v) (by simpa using hw) (by rw[aB,aB];exact z)) ⟨o,h,?_⟩
  rw[e];exact g hw
end
end HT
namespace L2
open PySem PySem.Spec PyProof.Rows
section
variable {p2:Pos}
def RM (K:Frag):R2:=λ x y H Q=>∃a b xs ys,x=.ref a/\y=.ref b/\qi K H a xs/\qi K H b ys/\xs≠[]/\xs.length+ys.length<=sizeLine/\
 (ys=[]->Q (.ref a) H)/\(ys≠[]->∀p,H p=none->Q (.ref p) (upd H p (.tup (xs++ys))))
theorem Vals.nil_iff (r:Vals xs us):us=[]↔xs=[]:=by
 cases r with
 |nil=>simp|cons _ _=>simp
theorem Fc:qu X (binaryOp .Add) (RM X.K):=by
 intro pins s σ H x y v u Q I f e h;obtain⟨a,b,xs,ys,rfl,rfl,t,n,m,d,j,g⟩:=h;cases f;cases e;obtain⟨l,c,P,_⟩:=I.tuple t;obtain⟨i,r,p,_⟩:=I.tuple n;refine HT.I9 P p (λ z=>m (c.nil_iff.mp z)) (λ z=>⟨.ref a,H,I,rfl,j (r.nil_iff.mp z)⟩) (λ z=>?_) (by rw[<- c.length,<- r.length];exact d)
 refine⟨.ref s.heap.objs.size,_,I.laid (t':=s.toks) (o:=.tup (xs++ys)) (λ b ob q=>ae _ q) (ar _) ?_,rfl,g (λ w=>z (r.nil_iff.mpr w)) _ (I.hok.fresh (ar _))⟩;exact⟨by rw[aE];exact d,_,c.append r,gF.new _ _⟩
end
noncomputable def k7 (n:Nat)(i:Int):Option Nat:=if 0<=i then(if i<n then some i.toNat else none) else if -(n:Int)<=i then some (i+n).toNat else none
def kx (xs:List α)(i:Int):Option α:=(k7 xs.length i).bind λ j=>xs[j]?
theorem TU {i:Int}{j:Nat}(h:k7 n i=some j):seqIndex? i n=some j/\j<n/\-(n:Int)<=i/\i<n:=by
 unfold k7 at h
 by_cases h0:0<=i
 ·rw[af h0]at h
  by_cases h1:i<n
  ·rw[af h1]at h
   have e:i.toNat=j:=az h;exact⟨by rw[seqIndex_of h0 h1,e],by omega,by omega,h1⟩
  ·rw[aj h1]at h;cases h
 ·rw[aj h0]at h
  by_cases h1:-(n:Int)<=i
  ·rw[af h1]at h
   have e:(i+n).toNat=j:=az h;exact⟨by rw[seqIndex_neg (by omega) h1,e],by omega,h1,by omega⟩
  ·rw[aj h1]at h;cases h
theorem Gv {xs:List α}{i:Int}{v:α}(h:kx xs i=some v):∃j,seqIndex? i xs.length=some j/\xs[j]? =some v/\j<xs.length/\-(xs.length:Int)<=i/\i<xs.length:=by
 unfold kx at h;cases e:k7 xs.length i with
 |none=>rw[e]at h;cases h|some j=>
  rw[e]at h;obtain⟨c,b,a,H⟩:=TU e;exact⟨j,c,h,b,a,H⟩
theorem Y2 {xs:List α}{j:Nat}{v:α}(h:xs[j]? =some v):kx xs (j:Int)=some v:=by
 have H:j<xs.length:=(qa2.mp h).1;have e:k7 xs.length (j:Int)=some j:=by
  unfold k7;rw[af (by omega),af (by omega)];simp
 unfold kx;rw[e];exact h
def T5 (b:Expr):Prop:=∀o i,subscripted b false o i=operate [o,i] (getItem o i)
def gP (X:Cx)(r:R2):Prop:=
 ∀(value slice:Expr)(pins:List (Addr×Obj))(s:Shared)(σ:St)(H:Hp)(x y:V)(v u:Value)(Q:VK),Inv X pins σ H s->RelV x v->RelV y u->r x y H Q->
  subscripted slice false v u=operate [v,u] (getItem v u)->wpAny (model X.prog X.w) X.A (subscriptTail value slice v u) (EP X pins σ Q) X.xe s
def J7 (X:Cx)(id:String)(r:V->List V->Hp->VK->Prop):Prop:=
 ∀(pins:List (Addr×Obj))(s:Shared)(σ:St)(H:Hp)(x:V)(xs:List V)(v:Value)(us:List Value)(Q:VK),Inv X pins σ H s->RelV x v->Vals xs us->r x xs H Q->
  wpAny (model X.prog X.w) X.A (call (.builtin id) (v::us)) (EP X pins σ Q) X.xe s
section
variable {a b:Expr}{ta tb:TE}
theorem gP.or {r c:R2}(h:gP X r)(h':gP X c):gP X (λ x y H Q=>r x y H Q∨c x y H Q):=by
 intro value slice pins s σ H x y v u Q I b a q d;rcases q with q|q
 ·exact h value slice pins s σ H x y v u Q I b a q d
 ·exact h' value slice pins s σ H x y v u Q I b a q d
theorem D1 {r:R2}(f:gP X r)(i:PE X a ta)(g:PE X b tb)(e:T5 b):PE X (.Subscript a b pos) (J4 r ta tb):=by
 intro pins s σ H Q I h;exact Subscript_ (Xa i g I h λ v u s2 x y l j d c q=>f a b pins s2 σ l x y v u Q j d c q (e _ _))
def R7 (K:Frag):R2:=λ x y H Q=>∃p xs i v,x=.ref p/\y=.int i/\qL K H p xs/\kx xs i=some v/\Q v H
def R5 (K:Frag):R2:=λ x y H Q=>∃p xs i v,x=.ref p/\y=.int i/\qi K H p xs/\kx xs i=some v/\Q v H
def RT:R2:=λ x y H Q=>∃z i c,x=.str z/\y=.int i/\z.length<=sizeLine/\kx z.cps.toList i=some c/\Q (.str ⟨#[c]⟩) H
theorem Ht:gP X (R7 X.K):=by
 intro value slice pins s σ H x y v u Q I g f h e;obtain⟨p,xs,i,z,rfl,rfl,l,he,q⟩:=h;cases g;obtain⟨t,rfl⟩:=f;obtain⟨c,r,P,B⟩:=I.list l;obtain⟨j,a,A,C,o,n⟩:=Gv he;obtain⟨w,E,b⟩:=r.get A;have m:=r.length;have hn:=QN;have fin:EP X pins σ Q w s:=⟨z,H,I,b,q⟩
 by_cases h0:0<=i
 ·have d:i.toNat=j:=by
   rw[seqIndex_of h0 n]at a;exact az a
  exact item_listR P.isList h0 (by omega) (by rw[d];simpa using E) fin e
 ·have d:(i+(c.toArray.size:Int)).toNat=j:=by
   rw[seqIndex_neg (by omega) o]at a
   rw[aB,<- m];exact az a
  exact subscriptTail_builtinR (x:=w) P.isList.typeIs slot_list_getitem.lookup
   (wpAny_getItem_list_neg (Q:=λ r S=>r=w/\EP X pins σ Q r S) P.isList (by omega) (by rw[aB]<;>omega) (by omega) (by rw[d];simpa using E) ⟨rfl,fin⟩) e
theorem DB:gP X (R5 X.K):=by
 intro value slice pins s σ H x y v u Q I c b h e;obtain⟨p,xs,i,z,rfl,rfl,f,he,q⟩:=h;cases c;obtain⟨t,rfl⟩:=b;obtain⟨d,r,P,n⟩:=I.tuple f;obtain⟨j,m,g,B,A,o⟩:=Gv he;obtain⟨w,E,a⟩:=r.get g;have l:=r.length;have hn:=QN;have fin:EP X pins σ Q w s:=⟨z,H,I,a,q⟩;exact subscriptTail_builtinR (x:=w) P.typeIs slot_tuple_getitem.lookup
  (getItem_tuple (j:=j) (Q:=λ r S=>r=w/\EP X pins σ Q r S) P (by omega) (by omega) (by rw[aB,<- l];exact m) (by simpa using E) ⟨rfl,fin⟩) e
theorem F5:gP X RT:=by
 intro value slice pins s σ H x y v u Q I b r h d;obtain⟨z,i,c,rfl,rfl,n,he,q⟩:=h;obtain⟨t,rfl⟩:=b;obtain⟨t',rfl⟩:=r;obtain⟨j,a,g,o,f,e⟩:=Gv he;have l:z.cps.toList.length=z.length:=by simp[Str.length]
 rw[l]at a f e;have hn:=QN;exact tail_any (typeIs_str s z t) slot_str_getitem.lookup (getItem_str (c:=c) (by
  have m:decide (i < -(2 ^ 63:Int))=false:=aA (by omega)
  have E:decide (i ≥ 2 ^ 63)=false:=aA (by omega)
  rw[m,E,Bool.or_false]) (by rw[a];simpa using g) ⟨.str ⟨#[c]⟩,H,I.tok _,⟨_,rfl⟩,q⟩) d
def Pc (K:Frag):R2:=λ x y H Q=>R7 K x y H Q∨R5 K x y H Q∨RT x y H Q
theorem E8:gP X (Pc X.K):=Ht.or (DB.or F5)
theorem NT (i:List Value)(n j:Nat)(u:Value):Obj.mapSeq (·.setIfInBounds j u) { cls:=.type "list",data:=.seq i.toArray n }={ cls:=.type "list",data:=.seq (i.set j u).toArray n }:=by
 simp[Obj.mapSeq]
theorem Inv.lst {pins:List (Addr×Obj)}{σ:St}{H:Hp}{s:Shared}{p:Addr}{xs:List V}(I:Inv X pins σ H s)(h:H p=some (.lst xs)):
  ∃(i:List Value) (n:Nat),Vals xs i/\s.heap.get? p=some { cls:=.type "list",data:=.seq i.toArray n }/\xs.length<=sizeLine:=by
 obtain⟨z,i,n,r,e⟩:=I.hok p _ h;exact⟨i,n,r,e,z⟩
theorem Inv.lstUpd {p:Addr}{its':List Value}{N:Nat}{f:Obj->Obj}(I:Inv X pins σ H s)(h:H p=some (.lst xs))
  (o:s.heap.get? p=some { cls:=.type "list",data:=.seq its.toArray n })(hf:f { cls:=.type "list",data:=.seq its.toArray n }={ cls:=.type "list",data:=.seq its'.toArray N })(r:Vals ys its')(z:ys.length<=sizeLine)(t:Nat):
  Inv X pins σ (upd H p (.lst ys)) { s with heap:=s.heap.update p f,toks:=t }:=by
 have e:(s.heap.update p f).get? p=some { cls:=.type "list",data:=.seq its'.toArray N }:=by
  rw[a5 f o (by rw[hf]<;>rfl),hf]
 refine I.write (x:=p) (e:=p) (by rw[h];trivial) (.inl rfl) (λ b u a q=>(aX _ _ (Ne.symm a)).trans q) ⟨_,e⟩ ?_
 exact⟨z,its',N,r,e⟩
def Ry:V->V->V->Hp->(Hp->Prop)->Prop:=λ o i v H Q=>∃p xs k j,o=.ref p/\i=.int k/\H p=some (.lst xs)/\k7 xs.length k=some j/\Q (upd H p (.lst (xs.set j v)))
theorem set_list:Kr X Ry:=by
 intro pins s σ H o i v A B u Q I ro x w h;obtain⟨p,xs,k,j,rfl,rfl,e,y,q⟩:=h;cases ro;obtain⟨t,rfl⟩:=x;obtain⟨a,n,r,c,z⟩:=I.lst e;obtain⟨b,C,g,f⟩:=TU y;have l:=r.length;have hn:=QN;have m:Inv X pins σ (upd H p (.lst (xs.set j v))) { s with heap:=s.heap.update p (Obj.mapSeq (·.setIfInBounds j u)) }:=
  I.lstUpd e c (NT a n j u) (r.set w j) (by rw[length_set];exact z) s.toks
 by_cases h0:0<=k
 ·have d:k.toNat=j:=by
   rw[seqIndex_of h0 f]at b;exact az b
  exact PySem.W.ki_setAt c h0 (by omega) (by rw[aB,<- l];exact f) (by rw[d];exact⟨_,m,q⟩)
 ·have d:(k+(a.toArray.size:Int)).toNat=j:=by
   rw[seqIndex_neg (by omega) g]at b
   rw[aB,<- l];exact az b
  exact PySem.W.ki_setBack c (by omega) (by rw[aB,<- l];exact g) (by omega) (by rw[d];exact⟨_,m,q⟩)
noncomputable def ki:V->Bool
 |.non=>true|.bl _=>true|.int _=>true|.str _=>true|_=>false
noncomputable def k8:V->V->Bool
 |.non,.non=>true|.bl a,.bl b=>a==b|.bl a,.int b=>(if a then 1 else 0)==b|.int a,.bl b=>a==(if b then 1 else 0)|.int a,.int b=>a==b|.str a,.str b=>a==b|_,_=>false
theorem Eg {A:Around}{y x:V}{v:Value}(c:RelV y u)(r:RelV x v)(d:ki y=true)(f:ki x=true):SeqAt.EqAt A s u v (k8 y x):=by
 cases y with
 |non=>
  cases c;cases x with
  |non=>cases r;exact SeqAt.EqAt.same _|bl b=>cases r;exact SeqAt.EqAt.none_bool b|int b=>obtain⟨t,rfl⟩:=r;exact SeqAt.EqAt.none_int b t|str b=>obtain⟨t,rfl⟩:=r;exact SeqAt.EqAt.none_str b t|_=>exact absurd (show false=true from f) ay
 |bl a=>
  cases c;cases x with
  |non=>cases r;exact SeqAt.EqAt.bool_none a|bl b=>cases r;exact SeqAt.EqAt.bool_bool a b|int b=>obtain⟨t,rfl⟩:=r;exact SeqAt.EqAt.bool_int a b t|str b=>obtain⟨t,rfl⟩:=r;exact SeqAt.EqAt.bool_str a b t|_=>exact absurd (show false=true from f) ay
 |int a=>
  obtain⟨t',rfl⟩:=c;cases x with
  |non=>cases r;exact SeqAt.EqAt.int_none a t'|bl b=>cases r;exact SeqAt.EqAt.int_bool a t' b|int b=>obtain⟨t,rfl⟩:=r;exact SeqAt.EqAt.int_int a t' b t|str b=>obtain⟨t,rfl⟩:=r;exact SeqAt.EqAt.int_str a t' b t|_=>exact absurd (show false=true from f) ay
 |str a=>
  obtain⟨t',rfl⟩:=c;cases x with
  |non=>cases r;exact SeqAt.EqAt.str_none a t'|bl b=>cases r;exact SeqAt.EqAt.str_bool a t' b|int b=>obtain⟨t,rfl⟩:=r;exact SeqAt.EqAt.str_int a t' b t|str b=>obtain⟨t,rfl⟩:=r;exact SeqAt.EqAt.str_str a t' b t|_=>exact absurd (show false=true from f) ay
 |_=>exact absurd (show false=true from d) ay
def wF (x:V)(u:Value):Bool:=match u with
 |.none=>k8 .non x|.bool b=>k8 (.bl b) x|.int i _=>k8 (.int i) x|.str z _=>k8 (.str z) x|_=>false
theorem GH {x y:V}(r:RelV y u)(f:ki y=true):wF x u=k8 y x:=by
 cases y with
 |non=>cases r;rfl|bl b=>cases r;rfl|int i=>obtain⟨t,rfl⟩:=r;rfl|str z=>obtain⟨t,rfl⟩:=r;rfl|_=>exact absurd (show false=true from f) ay
theorem Gy {x:V}:∀{xs:List V}{us:List Value},Vals xs us->xs.all ki=true->us.any (wF x)=xs.any λ y=>k8 y x
 |_,_,.nil,_=>rfl|y::xs,u::us,.cons r t,f=>by
  rw[all_cons,ao]at f;rw[any_cons,any_cons,GH r f.1,Gy t f.2]
theorem YD {A:Around}{x:V}{v:Value}(a:RelV x v)(b:ki x=true):∀{xs:List V}{us:List Value},Vals xs us->xs.all ki=true->∀u∈us,SeqAt.EqAt A s u v (wF x u)
 |_,_,.nil,_=>λ u h=>by cases h|y::xs,u::us,.cons r t,f=>λ U h=>by
  rw[all_cons,ao]at f;rcases qa3.mp h with rfl|h
  ·rw[GH r f.1];exact Eg r a f.1 b
  ·exact YD a b t f.2 U h
def KS (x:V)(xs:List V):Bool:=xs.any λ y=>k8 y x
def Pa (K:Frag)(neg:Bool):R2:=λ x y H Q=>∃p xs,y=.ref p/\(qL K H p xs∨qi K H p xs)/\ki x=true/\xs.all ki=true/\Q (.bl (if neg then !KS x xs else KS x xs)) H
theorem Ml:qu X (compareOp .In) (Pa X.K false):=by
 intro pins s σ H x y v u Q I b c h;obtain⟨p,xs,rfl,a,f,fs,q⟩:=h;cases c;rcases a with a|a
 ·obtain⟨i,r,P,z⟩:=I.list a
  refine SeqAt.in_listAt (wF x) P.isList (λ w hw=>YD b f r fs w (by simpa using hw)) ⟨.bl _,H,I,rfl,?_⟩
  rw[show i.toArray.any (wF x)=i.any (wF x) by simp,Gy r fs]
  exact q
 ·obtain⟨i,r,P,z⟩:=I.tuple a
  refine SeqAt.in_tupleAt (wF x) P (λ w hw=>YD b f r fs w (by simpa using hw)) ⟨.bl _,H,I,rfl,?_⟩
  rw[show i.toArray.any (wF x)=i.any (wF x) by simp,Gy r fs]
  exact q
theorem OO:jK X (.builtin "len") (λ xs H Q=>∃p ys,xs=[.ref p]/\(qL X.K H p ys∨qi X.K H p ys)/\Q (.int ys.length) H):=by
 intro pins s σ H xs us Q I r h;obtain⟨p,ys,rfl,a,q⟩:=h;obtain⟨u,rfl,x⟩:=vals1 r;cases x;have hn:=QN;rcases a with a|a
 ·obtain⟨i,b,P,z⟩:=I.list a
  have hlen:=b.length;exact Calls.call_len_list P.isList (by simp only[aB]<;>omega) ⟨.int ys.length,H,I.tok _,⟨s.toks+1,by rw[aB,hlen]⟩,q⟩
 ·obtain⟨i,b,P,z⟩:=I.tuple a
  have hlen:=b.length;exact len_tuple P (by simp only[aB]<;>omega) ⟨.int ys.length,H,I.tok _,⟨s.toks+1,by rw[aB,hlen]⟩,q⟩
theorem OQ:jK X (.type "list") (λ xs H Q=>∃p ys,xs=[.ref p]/\(qL X.K H p ys∨qi X.K H p ys)/\∀l,H l=none->Q (.ref l) (upd H l (.lst ys))):=by
 intro pins s σ H xs us Q I r h;obtain⟨p,ys,rfl,d,q⟩:=h;obtain⟨u,rfl,x⟩:=vals1 r;cases x;have fin:∀(its:List Value),Vals ys its->ys.length<=sizeLine->∀(h':Heap)(c:Nat),(∀b o',s.heap.get? b=some o'->h'.get? b=some o')->
   h'.get? s.heap.objs.size=some { cls:=.type "list",dict:=none,data:=.seq its.toArray c,slots:=#[] }->EP X pins σ Q (.ref s.heap.objs.size) { s with heap:=h' }:=λ its a z h' c kp e=>
  ⟨.ref s.heap.objs.size,_,I.laid (t':=s.toks) kp (ar _) (show jk X.prog X.w _ h' _ (.lst ys) from ⟨z,its,c,a,e⟩),rfl,q _ (I.hok.fresh (ar _))⟩
 rcases d with d|d
 ·obtain⟨its,a,P,z⟩:=I.list d
  have hlen:=a.length;obtain⟨o,f,g,n,hd⟩:=P.isList;exact call_list_seq p (.inl rfl) f g hd (λ h' c kp e=>fin its a z h' c kp e) (by simp only[aB]<;>omega)
 ·obtain⟨its,a,P,z⟩:=I.tuple d
  have hlen:=a.length;obtain⟨o,f,g,n,hd⟩:=P;exact call_list_seq p (.inr rfl) f g hd (λ h' c kp e=>fin its a z h' c kp e) (by simp only[aB]<;>omega)
theorem OF:jK X (.type "tuple") (λ xs H Q=>∃p ys,xs=[.ref p]/\((qL X.K H p ys/\∀l,H l=none->Q (.ref l) (upd H l (.tup ys)))∨(qi X.K H p ys/\Q (.ref p) H))):=by
 intro pins s σ H xs us Q I r h;obtain⟨p,ys,rfl,h⟩:=h;obtain⟨u,rfl,x⟩:=vals1 r;cases x;rcases h with ⟨c,q⟩|⟨c,q⟩
 ·obtain⟨i,a,P,z⟩:=I.list c
  have hlen:=a.length;refine call_tuple_list P.isList (λ h' kp=>?_) (by simp only[aB]<;>omega)
  have d:Inv X pins σ H { s with heap:=h' }:=I.kept (t':=s.toks) kp
  have f:Inv X pins σ (upd H h'.objs.size (.tup ys)) { s with heap:=h'.push { cls:=.type "tuple",data:=.seq i.toArray } }:=
   d.laid (t':=s.toks) (λ b o e=>ae _ e) (ar _) (show jk X.prog X.w _ _ _ (.tup ys) from ⟨z,i,a,gF.new _ _⟩)
  exact⟨.ref h'.objs.size,_,f,rfl,q _ (d.hok.fresh (ar _))⟩
 ·obtain⟨i,a,P,z⟩:=I.tuple c
  exact call_tuple_same P ⟨.ref p,H,I,rfl,q⟩
def KN (K:Frag)(T:String)(x:V)(H:Hp):Prop:=match x with
 |.str _=>T = "str"
 |.int _=>T = "int"
 |.ref p=>(T = "list" /\ ∃xs,qL K H p xs)∨(T = "tuple" /\ ∃o,K.lookup p=some o/\o.cls=.type "tuple" /\ o.dict=none)∨
   (T = "dict" /\ ((∃kvs,H p=some (.dK kvs))∨∃kvs,H p=some (.dT kvs)))∨(T = "set" /\ ∃S n,H p=some (.set S n))
 |_=>False
theorem EV {T:String}{x:V}{v:Value}(I:Inv X pins σ H s)(r:RelV x v)(ty:KN X.K T x H):
  s.TypeIs v T/\∀a,v=.ref a->∃ob,s.heap.get? a=some ob/\ob.dict=none:=by
 cases x with
 |str z=>
  obtain⟨t,rfl⟩:=r;cases (show T = "str" from ty)
  exact⟨typeIs_str s z t,λ _ e=>nomatch e⟩
 |int i=>
  obtain⟨t,rfl⟩:=r;cases (show T = "int" from ty)
  exact⟨typeIs_int s i t,λ _ e=>nomatch e⟩
 |ref p=>
  cases r;rcases ty with ⟨rfl,xs,q⟩|⟨rfl,o,h,d,hd⟩|⟨rfl,h⟩|⟨rfl,S,n,h⟩
  ·obtain⟨b,_,P,_⟩:=I.list q
   refine⟨P.isList.typeIs,λ a e=>?_⟩;cases e;obtain⟨o,n,e,c,hd,_⟩:=P;exact⟨o,e,hd⟩
  ·refine⟨⟨o,I.kIn p o h,d⟩,λ a e=>?_⟩
   cases e;exact⟨o,I.kIn _ o h,hd⟩
  ·have z:∃o,s.heap.get? p=some o/\o.ExactDict:=by
    rcases h with ⟨kvs,h⟩|⟨kvs,h⟩
    ·obtain⟨_,_,_,_,o,_,_,e,ex,_⟩:=I.hok p _ h
     exact⟨o,e,ex⟩
    ·obtain⟨_,_,_,_,o,_,_,e,ex,_⟩:=I.hok p _ h
     exact⟨o,e,ex⟩
   obtain⟨o,e,ex⟩:=z;refine⟨⟨o,e,ex.1⟩,λ a E=>?_⟩;cases E;exact⟨o,e,ex.2.1⟩
  ·obtain⟨o,_,_,_,e,ex,_⟩:=I.hok p _ h
   refine⟨⟨o,e,ex.1⟩,λ a E=>?_⟩;cases E;exact⟨o,e,ex.2.1⟩
 |_=>exact False.elim ty
noncomputable def Bc (K:Frag)(T:String)(r:V->List V->Hp->VK->Prop)(to:TE)(t:TA):TE:=λ σ H Q=>to σ H λ x H1=>KN K T x H1/\t σ H1 λ xs h=>r x xs h Q
variable {o:Expr}{es:List Expr}{to:TE}{t:TA}{name:Str}{T id:String}{r:V->List V->Hp->VK->Prop}
theorem RH (p:PlainAttrs T)(slot:Slot T name id)(y:typeOf (.builtin id)=pure (.type "method_descriptor"))(hm:J7 X id r)(j:PE X o to)(l:PA X (e::es) t)
  (b:attributeBase o name X.env (eval o X.env)=eval o X.env:=by rfl)
  (w:((backTo cpos (starEach (e::es) X.env)).all (λ x=>!x.1)&&(backToKw cpos (keywordEach [] X.env)).all (λ x=>x.1.isSome)
   && decide ((e::es).length+([]:List Keyword).length+(if ([]:List Keyword).isEmpty then 0 else 1)<30))=true:=by rfl)
  (a:(apos.endLine==cpos.line)=true:=by rfl)(g:starEach (e::es) X.env=(false,eval e X.env)::starEach es X.env:=by rfl)(n:(backTo cpos (starEach es X.env)).any (·.1)=false:=by rfl):
  PE X (.Call (.Attribute o name apos) (e::es) [] cpos) (Bc X.K T r to t):=by
 intro pins s σ H Q I h;refine wpAny_Call_method_late b w a rfl (zU (j pins s σ H _ I h) λ v s1 ⟨x,H1,i,c,ty,f⟩=>?_);obtain⟨u,m⟩:=EV i c ty;refine⟨T,id,p,slot,y,u,m,?_⟩;have A:=l cpos pins s1 σ H1 _ i f;rw[g]at A ⊢;refine Calls.callWith_builtin (by show(false || (backTo cpos (starEach es X.env)).any (·.1))=false;rw[n]<;>rfl) (Calls.evalArgs_plain ?_)
 exact zU A λ us s2 ⟨vs,B,z,d,q⟩=>hm pins s2 σ B x vs v us Q z c d q
end
def Xr (X:Cx)(id:String)(r:V->List V->Hp->VK->Prop):Prop:=
 ∀(pins:List (Addr×Obj))(s:Shared)(σ:St)(H:Hp)(x:V)(xs:List V)(v:Value)(us:List Value)(Q:VK),Inv X pins σ H s->RelV x v->Vals xs us->r x xs H Q->
  wpAny (model X.prog X.w) X.A (call (.builtin id) (v::us)) (EP X pins σ Q) X.xe s
theorem Vals.one {x:V}(h:Vals [x] us):∃u,us=[u]/\RelV x u:=by
 cases h with
 |cons r t=>cases t;exact⟨_,rfl,r⟩
theorem Vals.two {x y:V}(h:Vals [x,y] us):∃u v,us=[u,v]/\RelV x u/\RelV y v:=by
 cases h with
 |cons r t=>exact(Vals.one t).elim λ v e=>⟨_,v,by rw[e.1],r,e.2⟩
theorem Vals.eraseIdx:∀{xs:List V}{us:List Value}(i:Nat),Vals xs us->Vals (xs.eraseIdx i) (us.eraseIdx i)
 |_,_,_,.nil=>.nil|_,_,0,.cons _ t=>t|_,_,i+1,.cons r t=>.cons r (Vals.eraseIdx i t)
theorem Vals.rep (h:Vals xs us):∀k:Nat,Vals (List.replicate k xs).flatten (List.replicate k us).flatten
 |0=>.nil|k+1=>by
  rw[a7,a7,aS,aS];exact Vals.append h (Vals.rep h k)
theorem UB :∀(l:List α)(i:Nat),(l.eraseIdx i).length<=l.length
 |[],_=>ar _|_::_,0=>le_succ _|_::r,i+1=>Nat.succ_le_succ (UB r i)
theorem foldl_rep (i:List Value):∀(k:Nat)(acc:List Value),
  List.foldl (λ x1 x2=>x1++x2) acc.toArray (List.replicate k i.toArray)=(acc++(List.replicate k i).flatten).toArray
 |0,acc=>by simp|k+1,acc=>by
  have e:acc.toArray++i.toArray=(acc++i).toArray:=by simp
  have E:(acc++i)++(List.replicate k i).flatten=acc++(List.replicate (k+1) i).flatten:=by
   rw[a7,aS,aW]
  rw[<- E,<- foldl_rep i k (acc++i),<- e,a7,List.foldl_cons]
section
variable {l:Addr}
theorem Inv.lset {its':List Value}{f:Array Value->Array Value}(I:Inv X pins σ H s)(c:H l=some (.lst xs))
  (e:s.heap.get? l=some { cls:=.type "list",data:=.seq its.toArray n })(hf:f its.toArray=its'.toArray)(v:Vals ys its')(h:ys.length<=sizeLine):
  Inv X pins σ (upd H l (.lst ys)) { s with heap:=s.heap.update l (Obj.mapSeq f),toks:=t' }:=by
 have q:=PySem.IsL.update e f;rw[hf]at q;refine I.write (x:=l) (e:=l) (by rw[c];exact trivial) (.inl rfl) (λ B u b a=>(aX s.heap (Obj.mapSeq f) (Ne.symm b)).trans a) ⟨_,q⟩ ?_
 exact⟨h,its',_,v,q⟩
theorem Inv.lnew (I:Inv X pins σ H s)(v:Vals ys its)(h:ys.length<=sizeLine):
  Inv X pins σ (upd H s.heap.objs.size (.lst ys)) { s with heap:=s.heap.push { cls:=.type "list",data:=.seq its.toArray },toks:=t' }:=
 I.laid (λ _ _ q=>ae _ q) (ar _) ⟨h,its,0,v,au _ rfl⟩
theorem Inv.fresh (I:Inv X pins σ H s):H s.heap.objs.size=none:=I.hok.fresh (ar _)
theorem Inv.lstM (I:Inv X pins σ H s)(h:H l=some (.lst xs)):xs.length<=sizeLine/\∃(i:List Value) (n:Nat),Vals xs i/\xs.length=i.length/\s.heap.get? l=some { cls:=.type "list",data:=.seq i.toArray n }:=by
 obtain⟨z,i,n,r,e⟩:=I.hok l _ h;exact⟨z,i,n,r,r.length,e⟩
theorem IG (h:n<=sizeLine):Builtin.List.listTooLong n=false:=by
 unfold Builtin.List.listTooLong;exact aA (by omega)
end
section
def HA:V->List V->Hp->VK->Prop:=λ x vs H Q=>∃l xs y,x=.ref l/\vs=[y]/\H l=some (.lst xs)/\xs.length<sizeLine/\Q .non (upd H l (.lst (xs++[y])))
theorem UN:Xr X "list.append" HA:=by
 intro pins s σ H x vs v us Q I b c h;obtain⟨l,xs,y,rfl,rfl,a,f,q⟩:=h;cases b;obtain⟨u,rfl,d⟩:=c.one;obtain⟨z,i,n,r,g,e⟩:=I.lstM a;refine call_meets F.slot_list_append ⟨_,e,rfl⟩ F.entry_list_append (F.args_list_append_2 _ _) (PySem.list_append l i.toArray n u (by rw[aB];omega)) ⟨e,?_⟩
 refine⟨.non,_,I.lset (its':=i++[u]) a e (by simp) (r.append (.cons d .nil)) ?_,rfl,q⟩
 rw[aE,bh];omega
def Er:V->List V->Hp->VK->Prop:=λ x vs H Q=>∃l xs i k y,x=.ref l/\vs=[.int i]/\H l=some (.lst xs)/\-(2 ^ 63)<=i/\i<2 ^ 63/\seqIndex? i xs.length=some k/\xs[k]? =some y/\Q y (upd H l (.lst (xs.eraseIdx k)))
theorem Ir:Xr X "list.pop" Er:=by
 intro pins s σ H x vs v us Q I d f h;obtain⟨l,xs,i,k,y,rfl,rfl,c,A,p,o,j,q⟩:=h;cases d;obtain⟨u,rfl,g⟩:=f.one;obtain⟨t,rfl⟩:=g;obtain⟨z,a,n,r,m,e⟩:=I.lstM c;obtain⟨w,hw,b⟩:=r.get j;refine call_meets F.slot_list_pop ⟨_,e,rfl⟩ F.entry_list_pop (F.args_list_pop_2 _ _)
  (MeetsSeq.list_pop_at l a.toArray n i t k w (fitsIndex_both A p) (by rw[aB,<- m];exact o) (by rw[<- bz];exact hw) (by rw[aB];omega)) ⟨e,?_⟩
 refine⟨y,_,I.lset (its':=a.eraseIdx k) c e ?_ (r.eraseIdx k) ?_,b,q⟩
 ·show a.toArray.eraseIdxIfInBounds k=(a.eraseIdx k).toArray
  rw[List.eraseIdxIfInBounds_toArray]
 ·have:=UB xs k
  omega
def RU:R2:=λ x y H Q=>∃l b xs zs,x=.ref l/\y=.ref b/\H l=some (.lst xs)/\H b=some (.lst zs)/\xs.length+zs.length<=sizeLine/\∀p,H p=none->Q (.ref p) (upd H p (.lst (xs++zs)))
theorem EL:qu X (binaryOp .Add) RU:=by
 intro pins s σ H x y v u Q I d c h;obtain⟨l,b,xs,zs,rfl,rfl,j,B,o,q⟩:=h;cases d;cases c;obtain⟨z,a,n,r,p,e⟩:=I.lstM j;obtain⟨Z,i,N,f,g,m⟩:=I.lstM B;refine PySem.P.add_list e m ?_ (by rw[aB,aB];omega)
 have E:a.toArray++i.toArray=(a++i).toArray:=by simp
 rw[E];exact⟨.ref _,_,I.lnew (t':=s.toks) (r.append f) (by rw[aE];omega),rfl,q _ I.fresh⟩
def RY:R2:=λ x y H Q=>∃l k xs,x=.ref l/\y=.int k/\H l=some (.lst xs)/\-(2 ^ 63)<=k/\k<2 ^ 63/\xs.length * k.toNat<=sizeLine/\
 ∀p,H p=none->Q (.ref p) (upd H p (.lst (List.replicate k.toNat xs).flatten))
theorem len_rep (xs:List α)(k:Nat):(List.replicate k xs).flatten.length=k * xs.length:=by
 induction k with
 |zero=>simp|succ k i=>rw[a7,aS,aE,i,Nat.succ_mul,Nat.add_comm]
theorem EJ:qu X (binaryOp .Mult) RY:=by
 intro pins s σ H x y v u Q I f d h;obtain⟨l,k,xs,rfl,rfl,o,B,A,c,q⟩:=h;cases f;obtain⟨t,rfl⟩:=d;obtain⟨z,i,n,r,j,e⟩:=I.lstM o;have hlen:i.toArray.size * k.toNat<=sizeLine:=by rw[aB,<- j];exact c
 have p:¬i.toArray.size * k.toNat > (2 ^ 63 - 1) / 8:=by
  have:(sizeLine:Nat)<=(2 ^ 63 - 1) / 8:=by decide
  omega
 have b:¬(!Builtin.List.listFitsIndex k)=true:=by
  rw[fitsIndex_both B A];exact ay
 have g:¬Builtin.List.listTooLong (i.toArray.size * k.toNat)=true:=by
  rw[IG hlen];exact ay
 have w:List.foldl (λ x1 x2=>x1++x2) #[] (List.replicate (if i.toArray.isEmpty=true then 0 else k.toNat) i.toArray)=(List.replicate k.toNat i).flatten.toArray:=by
  have f0:∀m:Nat,List.foldl (λ x1 x2=>x1++x2) #[] (List.replicate m i.toArray)=(List.replicate m i).flatten.toArray:=λ m=>by
   have:=foldl_rep i m []
   rw[bC]at this;exact this
  rw[f0];cases i with
  |nil=>simp|cons a C=>rw[aj (by simp)]
 refine wpAny_binaryOp_repeat_ref (T := "list") (U := "int") (by decide) ⟨_,e,rfl⟩ (λ S=>typeIs_int S k t) noFill_list_mul F.fills_int_mul F.slot_int_rmul repeat_list F.slot_int_index.lookup
  (call_meets F.slot_int_rmul (typeIs_int s k t) F.entry_int_rmul (F.args_int_rmul_2 _ _) (int___rmul___int_list k t l i.toArray n)
   ⟨e,rfl,⟨_,e,rfl⟩,call_meets F.slot_list_mul ⟨_,e,rfl⟩ F.entry_list_mul (F.args_list_mul_2 _ _) (AutoListH.list___mul___list_int_3 l i.toArray n k t b p g) ⟨e,?_⟩⟩)
 rw[w];exact⟨.ref _,_,I.lnew (t':=s.toks) (r.rep k.toNat) (by rw[len_rep,Nat.mul_comm];exact c),rfl,q _ I.fresh⟩
end
section
set_option maxRecDepth 100000 in
end
end L2
namespace Att
open PySem PySem.W PySem.Calls PyProof.Rows
theorem P5 {P:Params}:∀(ns:List Int)(vs:List Value),WellAll P h vs (ns.map WData.int)->IntsAre vs ns:=by
 intro ns
 induction ns with
 |nil=>
  intro vs w;rw[map_nil]at w;cases w;exact .nil
 |cons n ns i=>
  intro vs w;rw[aO]at w;cases w with
  |cons a b=>
   cases a;exact .cons _ _ (i _ b)
theorem Mz {l:OpenLaw}(hn:l.most=some n){P:Params}{args:List WData}{vals:List Value}
  (H:l.row.toRowW.claim.pre args=true)(f:WellAll P h vals args):
  ∃a vs ns,vals=[Value.ref a]/\args=[WData.list (ns.map WData.int)]/\h.get? a=some { cls:=.type "list",data:=.seq vs.toArray }/\IntsAre vs ns/\ns.length<=n:=by
 have g:WShape.hasAll [] args [.list .int]=true:=(pre_splitW H).1;have i:l.pre.holds [] { args:=args }=true:=(pre_splitW H).2;obtain⟨d,r,rfl,s,p⟩:=hasAllW_cons g;obtain rfl:=hasAllW_nil p;obtain⟨xs,rfl,m⟩:=hasW_list s;obtain⟨ns,rfl⟩:=items_int m;have hlen:ns.length<=n:=by
  unfold OpenLaw.pre at i;have e:(WTm.not (.lt (.lit (.int (n:Int))) (.len (.arg 0)))).holds [] { args:=[.list (ns.map .int)] }=true:=by
   have e:=(holds_andW i).1;rw[hn]at e;exact e
  have c:=condW_of e (w_not (w_lt w_lit (w_len_list (w_arg rfl))));rw[ah]at c;refine Nat.le_of_not_lt λ q=>?_;have Q:(n:Int)<((ns.length:Nat):Int):=by omega
  first
   |(rw[aq Q]at c;exact absurd c (by decide))
   |(simp at c;omega)
 cases f with
 |cons j w=>
  cases w;cases j with
  |list o b=>exact⟨_,_,ns,rfl,rfl,o,P5 ns _ b,hlen⟩
theorem MX (l:OpenLaw)(args:List WData):l.row.toRowW.claim.post args (.bool true) args=true:=
 postW_of (r:=l.row.toRowW) (X:=(true==true))
  (show WShape.has [] (.bool true) .bool=true by first|rfl|decide|simp[WShape.has,WShape.arms,WShape.armsAll])
  (show(WTm.eq .res (.lit (.bool true))).value [] { args:=args,res:=some (.bool true),after:=args }=some (.bool (true==true)) from w_eq_bool (w_res rfl) w_lit) rfl
theorem Nd {l:OpenLaw}{q:Program}{loose:List Str}{d:DefRec}
  (hn:l.most=some n)(i:d.params.defaults=[])
  (call:∀(w:World)(S s:Shared)(mg mb:Str->Option Value)(b:Addr)(o:Obj)(pm cd doc:Value)(a:Addr)(vs:List Value)(ns:List Int),
   Ground q loose [] XP w S mg mb s.heap->YP w s.heap->
   s.heap.get? b=some o->o.data=.func (docDef d.name d.params d.body d.scope pm cd doc)->s.heap.CodeRec cd d.name->mg d.name=some (.ref b)->
   s.heap.get? a=some { cls:=.type "list",data:=.seq vs.toArray }->IntsAre vs ns->ns.length<=n->s.gens=#[]->
   codeAny (model l.prog w) callerA (.call (.ref b) ⟨[.ref a],[]⟩) (λ r c=>r=.ok (.ret (.bool true))/\OldK s.heap c.heap/\c.os=s.os/\AllBare c.gens) s):
  WalkO q loose XP YP l.row.toRowW d [] (λ f vs=>PySem.call f vs):=by
 intro w S s mg mb G Y b o pm cd doc B kV t hd j D g v args vals as h y m e u;obtain rfl:B=.none:=Dflts.none D i;obtain rfl:kV=.none:=Dflts.noKw D;obtain⟨a,vs,ns,rfl,rfl,H,hints,hlen⟩:=Mz hn h e;refine enter_call (codeAny_mono (call w S s mg mb b o pm cd doc a vs ns G Y t (fd_plain hd) j g H hints hlen v) λ r c p=>?_);obtain⟨rfl,A,z,x⟩:=p;exact⟨.inl ⟨.bool true,.bool true,[],rfl,λ _=>rfl,.bool true,MX l _,λ _=>⟨List.Pairwise.nil,λ _ hm=>(nomatch hm)⟩⟩,A,z,x⟩
end Att
namespace L2
open PySem PySem.Spec PyProof.Rows
theorem Jr:∀{vs:List Value}{ns:List Int},IntsAre vs ns->Vals (ns.map V.int) vs
 |_,_,.nil=>.nil|_,_,.cons n t h=>.cons ⟨t,rfl⟩ (Jr h)
def Ky (H:Hp):Prop:=∀b,H b=none∨∃o xs,H b=some (.frz o (.lst xs))
theorem LG {K:Frag}{mb:Str->Option Value}{CX:kK}{k:Nat}{E:Addr}{sp:Sp}{S:Shared}{vs:List Value}
  (Y:K.In S.heap)(j:S.heap.Ns mainGlobals mg)(c:S.heap.Ns builtinsNs mb)(D:∀x:Str,x ≠ "__name__" -> mb x=bootBuiltins x)(p:S.heap.NoLimit)(hg:S.gens=#[])
  (y:S.heap.get? a=some { cls:=.type "list",data:=.seq vs.toArray })(M:IntsAre vs ns)(L:ns.length<=sizeLine)(hr:jy k callerA)
  (F:∀base:Heap,K.In base->base.Ns mainGlobals mg->yt P w K mg base CX k E fd [x] sp)(g:∀(s:Shared)(u:Value),BindsTo s fd ⟨[u],[]⟩ [(x,u)])
  (B:∀H:Hp,Ky H->qL K H a (ns.map V.int)->sp [.ref a] H (λ v _=>v=.bl true) λ _ _ _=>False)
  (X:∀H e f,CX [] H S (λ _ _ _=>False) e f->False):
  codeAny (model P w) callerA (.call (.ref E) ⟨[.ref a],[]⟩) (λ r f=>r=.ok (.ret (.bool true))/\OldK S.heap f.heap/\f.os=S.os/\AllBare f.gens) S:=by
 have J:=Jr M;have l:=M.length;have core:∀H:Hp,Ky H->qL K H a (ns.map V.int)->jm P w H S.heap->(∀b,H b≠none->b=a)->(H a≠none->K.lookup a=none)->
   codeAny (model P w) callerA (.call (.ref E) ⟨[.ref a],[]⟩) (λ r f=>r=.ok (.ret (.bool true))/\OldK S.heap f.heap/\f.os=S.os/\AllBare f.gens) S:=by
  intro H Q hS hok T hK;have base_of:∀{b:Addr}{o:Obj},S.heap.get? b=some o->H b=none->(gM S.heap H).get? b=some o:=λ e n=>IE e n;have A:∀{b:Addr}{o:Obj}{es:Array DictEntry}{ep:Nat},S.heap.get? b=some o->o.data=.dict es ep->H b=none:=λ {b o es ep} e d=>by
   cases q:H b with
   |none=>rfl|some u=>
    have I:b=a:=T b (by rw[q];simp)
    subst I;rw[y]at e;cases e;have d':Data.seq vs.toArray _=Data.dict es ep:=d;cases d'
  have N:∀{b:Addr}{m:Str->Option Value},S.heap.Ns b m->(gM S.heap H).Ns b m:=λ {b m} ⟨o,es,ep,e,d,r⟩=>⟨o,es,ep,base_of e (A e d),d,r⟩;have t:K.In (gM S.heap H):=λ b o e=>base_of (Y b o e) (by
   cases q:H b with
   |none=>rfl|some u=>
    have I:b=a:=T b (by rw[q];simp)
    subst I;rw[hK (by rw[q];simp)]at e;cases e)
  have hM:Mod K mg (gM S.heap H):=⟨t,N j,⟨mb,N c,D⟩,let ⟨mc,h1,h2⟩:=p;⟨mc,N h1,h2⟩⟩
  have e0:KG P w K mg (gM S.heap H) callerA [] S H:=⟨rfl,hM,λ b o e=>FA e,Nat.le_of_eq (Md _ _),trivial,λ b c=>absurd (show b∈([]:List Addr) from c) (by simp),hok,.of_eq hg⟩
  refine codeAny_mono ((F _ t (N j)).run callerA [] S H ⟨[.ref a],[]⟩ [.ref a] [.ref a] _ _ hr e0 (g S (.ref a)) (.cons rfl .nil) (B H Q hS)) λ r f h=>?_;cases r with
  |error e=>exact(X H e f h).elim|ok fl=>
   cases fl with
   |next=>exact False.elim h|brk=>exact False.elim h|cont=>exact False.elim h|ret u=>
    obtain⟨v,H',os,bare,un,i,r',q⟩:=h;have q':v=.bl true:=q;subst q';obtain rfl:u=Value.bool true:=r';refine⟨rfl,OldK.of_keep λ b o e=>?_,os,bare⟩;cases q:H b with
    |none=>exact un.keep b o e q (by intro z;exact absurd (show b∈([]:List Addr) from z) (by simp)) (by simp)|some u=>
     rcases Q b with z|⟨ob,xs,z⟩
     ·rw[q]at z;cases z
     ·have z2:=un.frzs b ob _ z
      obtain⟨U,_⟩:=hok b _ z;obtain⟨e2,_⟩:=i b _ z2;rw[e]at U;cases U;exact e2
 cases C:K.lookup a with
 |some o=>
  have e:=Y a o C;rw[y]at e;cases e;refine core (λ _=>none) (λ _=>.inl rfl) (.inr ⟨_,vs.toArray,_,C,rfl,rfl,rfl,by rw[aB,l];exact L,by simpa using J⟩) (λ b u z=>by have Z:(none:Option HO)=some u:=z;cases Z) (λ b z=>absurd rfl z) λ z=>absurd rfl z
 |none=>
  refine core (λ b=>if b=a then some (.frz { cls:=.type "list",data:=.seq vs.toArray } (.lst (ns.map V.int))) else none) (λ b=>?_) (.inl (.inr ⟨{ cls:=.type "list",data:=.seq vs.toArray },af rfl⟩)) (λ b u z=>?_) (λ b z=>?_) λ _=>C
  ·by_cases c:b=a
   ·exact .inr ⟨_,_,af c⟩
   ·exact .inl (aj c)
  ·by_cases c:b=a
   ·have Z:=(af c).symm.trans z
    cases Z;subst c;exact⟨y,by rw[ah];exact L,vs,_,J,y⟩
   ·have Z:=(aj c).symm.trans z
    cases Z
  ·by_cases c:b=a
   ·exact c
   ·exact absurd (aj c) z
noncomputable abbrev Pm {K:Frag}(_:K.In h):Frag:=K
theorem He {l:PySem.W.OpenLaw}{k:Nat}{q:Program}{loose:List Str}{d:DefRec}{K:Params->Frag}{CX:World->kK}{sp:World->Sp}
  (hn:l.most=some n)(m:n<=sizeLine)(t:d.params.defaults=[])(A:jy k callerA)
  (E:∀(w:World)(h:Heap),YP w h->(K w.params).In h)
  (F:∀(w:World)(mg:Str->Option Value)(c:Addr)(h:Heap),(K w.params).In h->h.Ns mainGlobals mg->mg d.name=some (.ref c)->
   ∃fd:FuncData,(∀(s:Shared)(u:Value),BindsTo s fd ⟨[u],[]⟩ [(x,u)])/\
    ∀base:Heap,(K w.params).In base->base.Ns mainGlobals mg->yt l.prog w (K w.params) mg base (CX w) k c fd [x] (sp w))
  (p:∀(w:World)(H:Hp)(a:Addr)(ns:List Int),ns.length<=n->Ky H->qL (K w.params) H a (ns.map V.int)->sp w [.ref a] H (λ v _=>v=.bl true) λ _ _ _=>False)
  (X:∀(w:World)(H:Hp)(s:Shared)(e:Value)(i:Shared),CX w [] H s (λ _ _ _=>False) e i->False):
  PySem.W.WalkO q loose XP YP l.row.toRowW d [] (λ f vs=>PySem.call f vs):=by
 refine Att.Nd hn t λ w y S mg mb c o pm cd doc a vs ns G Y M hd C r j hints hlen B=>?_;have z:=E w _ Y;obtain⟨fd,D,L⟩:=F w mg c _ z G.T.g r;exact LG z G.T.g G.T.b G.T.builtins G.T.nolimit B j hints (bq hlen m) A L D (λ H J I=>p w H a ns hlen J I) λ H e i=>X w H S e i
noncomputable def QG (s:Stmt):Arguments:=match s with
 |.FunctionDef _ a _ _ _ _ _ _ _ _=>a|_=>{ posonlyargs:=[],args:=[],vararg:=none,kwonlyargs:=[],kw_defaults:=[],kwarg:=none,defaults:=[] }
noncomputable def gA (s:Stmt):List Stmt:=match s with
 |.FunctionDef _ _ b _ _ _ _ _ _ _=>b|_=>[]
noncomputable def qc (s:Stmt):Scope:=match s with
 |.FunctionDef _ _ _ _ _ _ sc _ _ _=>sc|_=>{ kind:=.function,names:=[],isGenerator:=false,isCoroutine:=false }
noncomputable abbrev k6:kK:=λ _ _ _ _ _ _=>False
noncomputable abbrev E0:XK:=λ _ _ _=>False
theorem Ct :Passes k6 X E0:=λ _ _ _ _ _ _ _ h=>h.elim
structure gm (K:Frag)(x qual:Str)(st:Stmt)(f:Addr)(fd:FuncData):Prop where
 ex:∃(oc:Value) (od:Option Addr) (kV doc pm:Value) (an:Option Addr) (cdv ct:Value) (osl:Array (Option Value)),
  fd=fnOf x qual (QG st) (gA st) (qc st) .none kV doc pm an cdv ct/\K.lookup f=some ⟨oc,od,.func fd,osl⟩/\codeIn K cdv qual=true
 kp:keepIn K (.ref f)=true
section
variable {K:Frag}
theorem gm.ok {qual:Str}{st:Stmt}{f:Addr}{k:Nat}{sp:Sp}(F:gm K x qual st f fd)(S:qo N ps (qc st))(len:∀vs H Q E,sp vs H Q E->vs.length=ps.length)
  (y:∀(c:Value)(A:Around)(outer:List Env)(s:Shared)(H:Hp)(vs:List V)(Q:VK)(E:XK),jy k (A.deeper (envOfC qual (qc st) s.heap.objs.size f c))->sp vs H Q E->
   ∃t,yv (Zx k6 P w K mg base N qual (qc st) f c A outer s H E).nox (gA st) t/\t { nx:=λ _ a=>Q .non a,rt:=Q } (start N vs) H):yt P w K mg base k6 (k+1) f fd ps sp:=by
 obtain⟨e,b,kV,doc,pm,an,c,ct,o,rfl,l,d⟩:=F.ex;refine Cw l d S len λ A outer s H vs Q E r p=>?_;obtain⟨t,h,q⟩:=y c A outer s H vs Q E r p;exact⟨t,h.nox,q⟩
theorem gm.binds {qual:Str}{st:Stmt}{f:Addr}(F:gm K x qual st f fd)
  (h:∀(kV doc pm:Value)(an:Option Addr)(c ct:Value)(us:List Value),us.length=ps.length->bindArgs (fnOf x qual (QG st) (gA st) (qc st) .none kV doc pm an c ct) ⟨us,[]⟩=pure (ps.zip us)):Binds K fd ps []:=by
 obtain⟨a,d,kV,doc,pm,an,c,ct,o,rfl,l,H⟩:=F.ex;exact .all (h kV doc pm an c ct)
theorem F1 {qual:Str}{st:Stmt}{f:Addr}{a:Value}{o an:Option Addr}{kV doc pm C ct:Value}(l:K.lookup f=some ⟨a,o,.func (fnOf x qual (QG st) (gA st) (qc st) .none kV doc pm an C ct),osl⟩)
  (c:codeIn K C qual=true)(k:keepIn K (.ref f)=true):gm K x qual st f (fnOf x qual (QG st) (gA st) (qc st) .none kV doc pm an C ct):=⟨⟨a,o,kV,doc,pm,an,C,ct,osl,rfl,l,c⟩,k⟩
end
theorem Cf {A:Around}{k:Nat}(h:jy k A):A.units+1<cLine:=Nat.lt_of_le_of_lt (Nat.add_le_add_left (by decide:1<=64) _) h.units
section
variable {κ:Type}[DecidableEq κ]
noncomputable def yq (kvs:List (κ×V))(k:κ):Option V:=(kvs.find? λ K=>decide (K.1=k)).map (·.2)
noncomputable def putK (kvs:List (κ×V))(k:κ)(v:V):List (κ×V):=
 if (kvs.any λ K=>decide (K.1=k))=true then kvs.map (λ K=>if K.1=k then(K.1,v) else K) else kvs++[(k,v)]
theorem YC {p:κ×V}{r:List (κ×V)}{k:κ}(e:p.1=k):yq (p::r) k=some p.2:=by simp[yq,find?_cons,e]
theorem YL {p:κ×V}{r:List (κ×V)}{k:κ}(e:¬p.1=k):yq (p::r) k=yq r k:=by simp[yq,find?_cons,e]
theorem Tv (k:κ):∀kvs:List (κ×V),(kvs.any λ K=>decide (K.1=k))=(yq kvs k).isSome
 |[]=>rfl|p::r=>by
  rw[any_cons]
  by_cases e:p.1=k
  ·simp only[YC e,aq e,Bool.true_or,isSome_some]
  ·rw[YL e,aA e,Bool.false_or];exact Tv k r
theorem O6 (kvs:List (κ×V))(k:κ)(v:V):(putK kvs k v).length<=kvs.length+1:=by
 unfold putK
 split
 ·rw[ah];omega
 ·rw[aE,bc,length_nil];omega
theorem L4 {kvs:List (κ×V)}{k:κ}(v:V)(h:yq kvs k=none):putK kvs k v=kvs++[(k,v)]:=by
 unfold putK;rw[Tv,h];exact aj (by decide)
theorem KV.val {kvs:List (κ×V)}{vs:List (κ×Value)}(r:KV kvs vs)(k:κ):gL (yq kvs k) (valueAt vs k):=by
 unfold KV at r
 induction r with
 |nil=>exact True.intro|@cons p q ps Q h t i=>
  obtain⟨H,a⟩:=h
  by_cases e:p.1=k
  ·have E:q.1=k:=H.symm.trans e
   have b:valueAt (q::Q) k=some q.2:=by simp[valueAt,find?_cons,E]
   rw[YC e,b];exact a
  ·have E:¬q.1=k:=λ z=>e (H.trans z)
   have b:valueAt (q::Q) k=valueAt Q k:=by simp[valueAt,find?_cons,E]
   rw[YL e,b];exact i
theorem KV.any {kvs:List (κ×V)}{vs:List (κ×Value)}(r:KV kvs vs)(k:κ):(kvs.any λ K=>decide (K.1=k))=vs.any λ K=>decide (K.1=k):=by
 unfold KV at r
 induction r with
 |nil=>rfl|cons h t i=>rw[any_cons,any_cons,i,h.1]
theorem KV.repl {kvs:List (κ×V)}{vs:List (κ×Value)}(r:KV kvs vs)(k:κ){y:V}(a:RelV y u):
  KV (kvs.map λ K=>if K.1=k then(K.1,y) else K) (vs.map λ K=>if K.1=k then(K.1,u) else K):=by
 unfold KV at r ⊢
 induction r with
 |nil=>exact .nil|@cons p q ps Q h t i=>
  rw[aO,aO];refine .cons ?_ i;obtain⟨H,b⟩:=h
  by_cases e:p.1=k
  ·rw[af e,af (H.symm.trans e)];exact⟨H,a⟩
  ·rw[aj e,aj (λ z=>e (H.trans z))];exact⟨H,b⟩
theorem KV.put {kvs:List (κ×V)}{vs:List (κ×Value)}(r:KV kvs vs)(k:κ){y:V}(a:RelV y u):KV (putK kvs k y) (stored vs k u):=by
 unfold putK stored;rw[r.any k]
 by_cases e:(vs.any λ K=>decide (K.1=k))=true
 ·rw[af e,af e];exact r.repl k a
 ·rw[aj e,aj e];exact Paired.snoc r ⟨rfl,a⟩
theorem KV.length {kvs:List (κ×V)}{vs:List (κ×Value)}(r:KV kvs vs):kvs.length=vs.length:=Paired.length r
end
theorem G8 {k:Key}(r:RelV (kV k) u):(ym P w).is k u=true:=by
 cases k with
 |inl i=>obtain⟨t,e⟩:=(show ∃t,u=Value.int i t from r);subst e;exact Nj P w i t|inr x=>obtain⟨t,e⟩:=(show ∃t,u=Value.str x t from r);subst e;exact Nl P w x t
theorem UU :∀{K:List Key}{us:List Value},Vals (K.map kV) us->ItemsAre (ym P w) K us
 |[],_,r=>by rw[map_nil]at r;cases r;exact .nil|k::K,_,r=>by
  rw[aO]at r;cases r with
  |cons h t=>exact .cons (G8 h) (UU t)
abbrev KT (H:Hp):List (List Key×V)->List (List Key×Addr×Value)->Prop:=Paired λ p q=>p.1=q.1/\H q.2.1=some (.tup (p.1.map kV))/\RelV p.2 q.2.2
theorem KT.val {kvs:List (List Key×V)}{xs:List (List Key×Addr×Value)}(r:KT H kvs xs)(k:List Key):gL (yq kvs k) ((atKey xs k).map (·.2)):=by
 induction r with
 |nil=>exact True.intro|@cons p q ps Q h t i=>
  obtain⟨a,_,c⟩:=h
  by_cases e:p.1=k
  ·have E:q.1=k:=a.symm.trans e
   have b:atKey (q::Q) k=some q.2:=by simp[atKey,find?_cons,E]
   rw[YC e,b];exact c
  ·have E:¬q.1=k:=λ z=>e (a.trans z)
   have b:atKey (q::Q) k=atKey Q k:=by simp[atKey,find?_cons,E]
   rw[YL e,b];exact i
section
theorem RO {u:HO}(ok:jm P w H h)(e:Rd H a u):jk P w H h a u:=e.ok ok
theorem GY (ok:jm P w H h)(e:Rd H a (.dK kvs)):kvs.length<=sizeLine/\(a==sysModules)=false/\∃vs,KV kvs vs/\h.DictOf (ym P w) a vs:=
 show jk P w H h a (.dK kvs) from RO ok e
theorem RK (ok:jm P w H h)(e:H a=some (.dK kvs)):kvs.length<=sizeLine/\(a==sysModules)=false/\∃vs,KV kvs vs/\h.DictOf (ym P w) a vs:=GY ok (.inl e)
theorem Rg {K:List Key}(ok:jm P w H h)(e:H a=some (.tup (K.map kV))):(tupleKind (ym P w)).is h K a:=by
 obtain⟨_,i,r,o,d,c,n,b⟩:=(show jk P w H h a (.tup (K.map kV)) from ok a _ e)
 exact⟨o,i.toArray,n,d,c.1,b,by simpa using UU r⟩
theorem RP {kvs:List (List Key×V)}(ok:jm P w H h)(e:Rd H a (.dT kvs)):kvs.length<=sizeLine/\(a==sysModules)=false/\
  ∃xs,KT H kvs xs/\h.DictOfH (tupleKind (ym P w)) a xs:=by
 obtain⟨z,y,xs,r,o,E,s,n,j,g,f,d⟩:=(show jk P w H h a (.dT kvs) from RO ok e)
 refine⟨z,y,xs,r,o,E,s,n,j,g,f,λ x b=>?_,d⟩;have all:∀{l:List (List Key×V)}{m:List (List Key×Addr×Value)},KT H l m->∀x∈m,(tupleKind (ym P w)).is h x.1 x.2.1:=by
  intro l m q
  induction q with
  |nil=>intro x b;exact nomatch b
  |@cons p q ps Q c t i=>
   intro x b;rcases qa3.mp b with e|b
   ·subst e
    exact Rg ok (by rw[<- c.1];exact c.2.1)
   ·exact i x b
 exact all r x b
end
def Q4 (H:Hp)(a:Addr)(y:V)(r:Option V):Prop:=
 (∃kvs k,Rd H a (.dK kvs)/\y=kV k/\r=yq kvs k)∨∃kvs k b,Rd H a (.dT kvs)/\y=.ref b/\H b=some (.tup (k.map kV))/\r=yq kvs k
theorem Q4.k {k:Key}(e:H a=some (.dK kvs)):Q4 H a (kV k) (yq kvs k):=.inl ⟨kvs,k,.inl e,rfl,rfl⟩
section
variable {y:V}{o:Option V}{A:Around}
theorem Inv.big (I:Inv X pins σ H s):sysModules<s.heap.objs.size:=by
 have h:mainGlobals<s.heap.objs.size:=(I.mod.glob.keeps I.bk).lt;exact lt_trans (by decide) h
theorem Mr (j:A.units+1<cLine)(I:Inv X pins σ H s)(g:Q4 H a y (some v))(i:RelV y u)(h:∀c S,Inv X pins σ H S->RelV v c->Q c S):
  wpAny (model X.prog X.w) A (getItem (.ref a) u) Q E s:=by
 rcases g with ⟨kvs,k,e,f,l⟩|⟨kvs,k,b,e,f,n,l⟩
 ·subst f
  obtain⟨z,hd,vs,rel,D⟩:=GY I.hok e;obtain⟨c,hw,r⟩:=gL.some_of (v:=v) (o:=valueAt vs k) (by rw[l];exact rel.val k)
  exact wpAny_getItem_of (G8 i) D.mapOf hw (h c _ (I.tok _) r)
 ·subst f
  cases (show u=Value.ref b from i)
  obtain⟨z,hd,xs,rel,D⟩:=RP I.hok e;obtain⟨c,hw,r⟩:=gL.some_of (v:=v) (o:=(atKey xs k).map (·.2)) (by rw[l];exact rel.val k)
  obtain⟨p,m,d⟩:=Option.map_eq_some_iff.mp hw;refine wpAny_getItem_heap (tupleKind_room_in1 j) (Rg I.hok n) D m ?_;rw[d];exact h c _ (I.tok _) r
theorem Fy {h':Heap}{ob:HO}(I:Inv X pins σ H s)(m:J6 (H a))(h:Heap.SameBut a s.heap h')(he:∃q,h'.get? a=some q)(new:jk X.prog X.w (upd H a ob) h' a ob):
  Inv X pins σ (upd H a ob) { s with heap:=h',toks:=t' }:=
 I.write (x:=a) (e:=a) m (.inl rfl) (λ b q c z=>(h.2 b c).trans z) he new
theorem EW {H:Hp}{h':Heap}{vs:List (Key×Value)}(z:kvs.length<=sizeLine)(hd:(a==sysModules)=false)(rel:KV kvs vs)(d:h'.DictOf (ym P w) a vs):
  jk P w H h' a (.dK kvs):=⟨z,hd,vs,rel,d⟩
end
def Xb (i:Expr):Prop:=∀o I,subscripted i false o I=operate [o,I] (getItem o I)
theorem Hw {prog:Program}{A:Around}{value slice:Expr}{T id:String}
  (l:typeLookup (.type T) "__getitem__" = pure (some (.builtin id)))(f:Xb slice)
  (h:wpAny (model prog w) A (eval value env) (λ o b=>wpAny (model prog w) A (eval slice env) (λ i S=>S.TypeIs o T/\wpAny (model prog w) A (getItem o i) Q E S) E b) E s):
  wpAny (model prog w) A (eval (.Subscript value slice pos) env) Q E s:=by
 refine Subscript_ (wpAny_mono h (λ o b d=>wpAny_mono d (λ i S H=>?_) λ _ _ x=>x) λ _ _ x=>x);obtain⟨e,H⟩:=H;unfold subscriptTail;refine qa0 ?_;rw[getitemInPython_of_ne e.not_modules];refine qa0 (wpAny_specialOf e l ?_);have fin:wpAny (model prog w) A (subscripted slice false o i) (λ r a=>wpAny (model prog w) A (letTemporaryGo value o r >>= λ _=>pure r) Q E a) E S:=by
  rw[f o i];exact wpAny_operating (wpAny_mono H (λ r a c=>qa0 (wpAny_letTemporaryGo (qa1 c))) λ _ _ x=>x)
 first
  |exact qa1 (qa0 fin)
  |exact qa0 (qa1 (qa0 fin))
  |exact qa0 fin
theorem Nb {y:V}{o:Option V}(I:Inv X pins σ H s)(g:Q4 H a y o):s.TypeIs (.ref a) "dict" := by
 rcases g with ⟨kvs,k,e,_,_⟩|⟨kvs,k,b,e,_,_,_⟩
 ·obtain⟨_,_,vs,_,d⟩:=GY I.hok e
  exact d.typeIs
 ·obtain⟨_,_,xs,_,d⟩:=RP I.hok e
  exact d.typeIs
noncomputable def Ci (t ty:TE):TE:=λ σ H Q=>t σ H λ x H1=>ty σ H1 λ y h=>∃a v,x=.ref a/\Q4 h a y (some v)/\Q v h
section
variable {o i:Expr}{td ty:TE}
theorem Fi (f:X.A.units+1<cLine)(l:PE X o td)(m:PE X i ty)(j:Xb i):PE X (.Subscript o i pos) (Ci td ty):=by
 intro pins s σ H Q I h;refine Hw PySem.F.slot_dict_getitem.lookup j (zU (l pins s σ H _ I h) λ u s1 ⟨x,H1,p,d,e⟩=>zU (m pins s1 σ H1 _ p e) λ z s2 ⟨y,t,b,c,a,v,ex,g,q⟩=>?_);subst ex;obtain rfl:u=Value.ref a:=d;exact⟨Nb b g,Mr f b g c λ w s3 n r=>⟨v,t,n,r,q⟩⟩
end
theorem LA (h:Heap)(b:sysModules<h.objs.size):jk P w H (h.push { cls:=.type "dict",data:=.dict #[] }) h.objs.size (.dK []):=
 ⟨zero_le _,beq_eq_false_iff_ne.mpr (Ne.symm (aM b)),[],.nil,Heap.DictOf.new h⟩
def Ef:TE:=λ _ H Q=>∀p,H p=none->Q (.ref p) (upd H p (.dK []))
section
theorem Ip:PE X (.Dict [] [] pos) Ef:=λ pins s σ H Q I h=>
 wpAny_Dict_empty ⟨.ref s.heap.objs.size,_,I.laid (a:=s.heap.objs.size) (o:=.dK []) (t':=s.toks) (λ _ _ q=>ae _ q) (ar _) (LA s.heap I.big),rfl,h _ (I.hok.fresh (ar _))⟩
end
noncomputable def wu (env:Env):List (Str×NameKind)->List (Str×Addr)->List (Str×Addr)
 |[],acc=>acc|(n,k)::r,acc=>wu env r (if k==.free then(n,(env.cells.lookup n).getD 0)::acc else acc)
theorem LY (f:Str×NameKind->List (Str×Addr)->Sem (ForInStep (List (Str×Addr))))
  (hf:∀n k r,f (n,k) r=if (k==NameKind.free)=true then(do let c <- cellOf env n;pure (ForInStep.yield ((n,c)::r))) else pure (ForInStep.yield r)):
  ∀(names:List (Str×NameKind))(acc:List (Str×Addr)),(∀y∈names,y.2=.free->∃c,env.cells.lookup y.1=some c)->(forIn names acc f:Sem (List (Str×Addr)))=pure (wu env names acc):=by
 intro names
 induction names with
 |nil=>intro acc _;rfl|cons y r i=>
  intro acc b;obtain⟨n,k⟩:=y;rw[forIn_cons,hf];unfold wu;have h:=i (if k==.free then(n,(env.cells.lookup n).getD 0)::acc else acc) (λ y g=>b y (aD _ g))
  by_cases a:k=.free
  ·subst a
   obtain⟨c,d⟩:=b (n,.free) aG rfl;have e:cellOf env n=pure c:=by unfold cellOf;rw[d]
   have H:List.lookup n env.cells=some c:=d;simp only[e,H,Option.getD_some,bE,if_true]at h ⊢;exact h
  ·have j:(k==NameKind.free)=false:=by simpa using a
   simp only[j,a9,if_false]at h ⊢;exact h
theorem NJ (h:∀y∈scope.names,y.2=.free->∃c,env.cells.lookup y.1=some c):closureFor scope env=pure (wu env scope.names []):=by
 unfold closureFor;dsimp only;rw[LY _ (λ n k r=>rfl) scope.names [] h]
 rfl
theorem Qu {n:Str}{c:Addr}:∀(names:List (Str×NameKind))(acc:List (Str×Addr)),(n,c)∈wu env names acc->(n,c)∈acc∨((n,NameKind.free)∈names/\c=(env.cells.lookup n).getD 0)
 |[],acc,h=>.inl h|(x,k)::r,acc,h=>by
  unfold wu at h;rcases Qu r _ h with h|⟨d,a⟩
  ·by_cases H:k=.free
   ·subst H
    simp only[bE,if_true]at h;rcases qa3.mp h with e|h
    ·cases e;exact .inr ⟨aG,rfl⟩
    ·exact .inl h
   ·have b:(k==NameKind.free)=false:=by simpa using H
    simp only[b,a9,if_false]at h;exact .inl h
  ·exact .inr ⟨aD _ d,a⟩
theorem Uj {n:Str}:∀(names:List (Str×NameKind))(acc:List (Str×Addr)),((n,NameKind.free)∈names∨(acc.lookup n).isSome=true)->((wu env names acc).lookup n).isSome=true
 |[],acc,h=>by
  rcases h with h|h
  ·cases h
  ·exact h
 |(x,k)::r,acc,h=>by
  unfold wu;refine Uj r _ ?_;rcases h with h|h
  ·rcases qa3.mp h with e|h
   ·cases e
    right
    simp
   ·exact .inl h
  ·right
   by_cases H:(k==NameKind.free)=true
   ·rw[af H,lookup_cons]
    cases a:n==x
    ·exact h
    ·rfl
   ·rw[aj H];exact h
theorem Wn {n:Str}{c:Addr}:∀(names:List (Str×NameKind))(k:Nat)(acc:List (Str×Addr)),(n,c)∈cellsFrom k names acc->(n,c)∈acc∨(k<=c/\(n,NameKind.cell)∈names)
 |[],_,_,h=>.inl h|(x,q)::r,k,acc,h=>by
  unfold cellsFrom at h
  by_cases a:(q==NameKind.cell)=true
  ·rw[af a]at h
   have H:q=.cell:=by simpa using a
   rcases Wn r _ _ h with h|⟨d,b⟩
   ·rcases qa3.mp h with e|h
    ·cases e;subst H;exact .inr ⟨ar _,aG⟩
    ·exact .inl h
   ·exact .inr ⟨by omega,aD _ b⟩
  ·rw[aj a]at h
   rcases Wn r _ _ h with h|⟨d,b⟩
   ·exact .inl h
   ·exact .inr ⟨d,aD _ b⟩
theorem Wo:∀(names:List (Str×NameKind))(k:Nat)(acc:List (Str×Addr)),(∀n c,(n,c)∈acc->c<k)->(∀n N c,(n,c)∈acc->(N,c)∈acc->n=N)->∀n N c,(n,c)∈cellsFrom k names acc->(N,c)∈cellsFrom k names acc->n=N
 |[],_,_,_,i,n,N,c,h,h'=>i n N c h h'|(x,q)::r,k,acc,l,i,n,N,c,h,h'=>by
  unfold cellsFrom at h h'
  by_cases a:(q==NameKind.cell)=true
  ·rw[af a]at h h'
   refine Wo r (k+1) ((x,k)::acc) (λ m d hm=>?_) (λ m M d hm H=>?_) n N c h h'
   ·rcases qa3.mp hm with e|hm
    ·cases e;exact bg _
    ·exact a6 (l m d hm)
   ·rcases qa3.mp hm with e|hm
    ·rcases qa3.mp H with E|H
     ·cases e;cases E;rfl
     ·cases e;exact absurd (l M _ H) (aZ _)
    ·rcases qa3.mp H with E|H
     ·cases E;exact absurd (l m _ hm) (aZ _)
     ·exact i m M d hm H
  ·rw[aj a]at h h'
   exact Wo r k acc l i n N c h h'
theorem Wi {n:Str}{c:Addr}:∀(names:List (Str×NameKind))(h:Heap)(acc:List (Str×Addr)),(n,c)∈cellsFrom h.objs.size names acc->(n,c)∈acc∨(pushCells h names).IsCell c none
 |[],_,_,q=>.inl q|(x,k)::r,h,acc,q=>by
  unfold cellsFrom at q;unfold pushCells
  by_cases H:(k==NameKind.cell)=true
  ·rw[af H]at q ⊢
   have:=Wi r (h.push { cls:=.type "cell",data:=.cell none }) ((x,h.objs.size)::acc) (by rw[ba];exact q)
   rcases this with z|z
   ·rcases qa3.mp z with e|z
    ·cases e
     exact .inr ⟨_,pushCells_keeps r _ _ _ (au _ rfl),rfl⟩
    ·exact .inl z
   ·exact .inr z
  ·rw[aj H]at q ⊢
   exact Wi r h acc q
theorem PN {M:Model}{A:Around}{globals:Addr}{cl:List (Str×Addr)}{qual:Str}{Q:Env->Shared->Prop}
  (h:Q { scope,locals:=s.heap.objs.size,globals,cells:=cellsFrom (s.heap.objs.size+1) scope.names cl,qual,func:=none,code:=env.code,frame:=env.frame,builtins:=env.builtins }
   { s with heap:=pushCells (s.heap.push { cls:=.type "dict",data:=.dict #[] }) scope.names }):
  wpAny M A (newFunctionEnv scope globals cl [] qual none .none (some env)) Q E s:=by
 simp only[newFunctionEnv,isSome_some,if_true];refine qa0 (wpAny_alloc ?_);refine qa0 (wpAny_layCells _ (λ name kind cells=>by cases H:kind==NameKind.cell<;>simp[H]) _ _ _ _ ?_)
 rw[show({ s with heap:=s.heap.push { cls:=.type "dict",data:=.dict #[] } }:Shared).heap.objs.size=s.heap.objs.size+1 from ba ..]
 rw[forIn_nil];exact qa0 (qa1 (qa1 h))
def ju (X:Cx)(N:List Str)(scope:Scope)(s:Shared)(H:Hp)(fp:List Addr)(xe:Value->Shared->Prop):Cx where
 prog:=X.prog
 w:=X.w
 K:=X.K
 mg:=X.mg
 base:=X.base
 A:=X.A
 N:=N
 s0:=s
 H0:=H
 env:={ scope:=relabel scope X.env,locals:=s.heap.objs.size,globals:=X.env.globals,cells:=cellsFrom (s.heap.objs.size+1) scope.names (wu X.env scope.names []),qual:=X.env.qual,func:=none,code:=X.env.code,frame:=X.env.frame,builtins:=X.env.builtins }
 outer:=X.stack
 stack:=X.stack
 ex:=fp
 fn:=λ x=>scope.names.lookup x==some .local || scope.names.lookup x==some .cell
 calm:=X.calm
 pn:=[]
 xe:=xe
structure wW (X:Cx)(scope:Scope):Prop where
 kind:scope.kind=.function
 nd:(scope.names.map (·.1)).Nodup
 free:∀y∈scope.names,y.2=.free->X.env.kindOf y.1=some .cell∨X.env.kindOf y.1=some .free
theorem Ql {k:α}:∀{l:List (Str×α)},(l.map (·.1)).Nodup->(x,k)∈l->l.lookup x=some k
 |(y,q)::r,nd,h=>by
  rw[aO,List.nodup_cons]at nd;rw[lookup_cons];rcases qa3.mp h with e|h
  ·cases e;simp
  ·have ne:(x==y)=false:=by
    rw[beq_eq_false_iff_ne];intro e
    apply nd.1
    rw[<- e];exact List.mem_map_of_mem (f:=(·.1)) h
   rw[ne];exact Ql nd.2 h
theorem Wj {k:NameKind}(h:(relabel scope env).names.lookup x=some k):scope.names.lookup x=some k∨(k=.cell/\scope.names.lookup x=some .free/\env.kindOf x=some .cell):=by
 unfold relabel at h;dsimp only at h;generalize scope.names=names at h ⊢
 induction names with
 |nil=>cases h|cons y r i=>
  obtain⟨n,q⟩:=y;rw[aO]at h;have split:(if (q==NameKind.free&&env.scope.kind==.function&&env.kindOf n==some .cell)=true then(n,NameKind.cell) else(n,q)).1=n:=by split<;>rfl
  rw[lookup_cons]at h ⊢;dsimp only at h;rw[split]at h;cases a:x==n with
  |false=>rw[a]at h;exact i h|true=>
   rw[a]at h;have e:x=n:=aU.mp a;subst e
   by_cases H:(q==NameKind.free&&env.scope.kind==.function&&env.kindOf x==some .cell)=true
   ·rw[af H]at h
    simp only[ao,aU]at H;cases h
    right
    exact⟨rfl,by rw[H.1.1],H.2⟩
   ·rw[aj H]at h
    left
    exact h
section
theorem Inv.capt (I:Inv X pins σ H s)(S:wW X scope)(h:(x,NameKind.free)∈scope.names):∃c,X.env.cells.lookup x=some c:=I.ok.has x (S.free _ h rfl)
theorem Jz (I:Inv X pins σ H s)(S:wW X scope){c:Addr}(h:(x,c)∈cellsFrom (s.heap.objs.size+1) scope.names (wu X.env scope.names [])):
  ((x,NameKind.free)∈scope.names/\X.env.cells.lookup x=some c/\c<s.heap.objs.size)∨((x,NameKind.cell)∈scope.names/\s.heap.objs.size<c/\∀h0:Heap,h0.objs.size=s.heap.objs.size+1->(pushCells h0 scope.names).IsCell c none):=by
 rcases Wn _ _ _ h with b|⟨b,d⟩
 ·left
  rcases Qu _ _ b with z|⟨z,e⟩
  ·cases z
  ·obtain⟨C,a⟩:=I.capt S z
   rw[a]at e;have E:c=C:=e;subst E;obtain⟨v,q⟩:=I.cell x c a;exact⟨z,a,q.lt⟩
 ·right
  refine⟨d,b,λ h0 e0=>?_⟩;have h':=h;rw[<- e0]at h';rcases Wi _ h0 _ h' with z|z
  ·exfalso
   rcases Qu _ _ z with z|⟨z,e⟩
   ·cases z
   ·obtain⟨C,a⟩:=I.capt S z
    rw[a]at e;have E:c=C:=e;subst E;obtain⟨v,q⟩:=I.cell x c a;exact aZ _ (aI (a6 q.lt) b)
  ·exact z
theorem L6 {xe:Value->Shared->Prop}{f:St}(I:Inv X pins σ H s)(S:wW X scope)(hf:∀b∈fp,yW X pins H b)(A:∀b∈fp,b<s.heap.objs.size)(hl:f.length=N.length)
  (hs:∀(j:Nat)(x:Str)(v:V),N[j]? =some x->f[j]? =some (some v)->(x,NameKind.free)∈scope.names/\∃i:Nat,X.N[i]? =some x/\σ[i]? =some (some v)):
  Inv (ju X N scope s H fp xe) [] f H { s with heap:=pushCells (s.heap.push { cls:=.type "dict",data:=.dict #[] }) scope.names }:=by
 have M:∀b o,s.heap.get? b=some o->(pushCells (s.heap.push { cls:=.type "dict",data:=.dict #[] }) scope.names).get? b=some o:=λ b o e=>pushCells_keeps _ _ _ _ (ae _ e);have T:(s.heap.push { cls:=.type "dict",data:=.dict #[] }).objs.size=s.heap.objs.size+1:=ba ..;have l:∀{x:Str}{c:Addr},(ju X N scope s H fp xe).env.cells.lookup x=some c->(x,c)∈cellsFrom (s.heap.objs.size+1) scope.names (wu X.env scope.names []):=λ h=>PySem.mem_of_lookup h;have L:∀{x:Str},((ju X N scope s H fp xe).env.kindOf x=some .cell∨(ju X N scope s H fp xe).env.kindOf x=some .free)->∃c,(ju X N scope s H fp xe).env.cells.lookup x=some c:=λ {x} h=>by
  refine Option.isSome_iff_exists.mp (cellsFrom_some _ _ _ ?_);have two:scope.names.lookup x=some .cell∨scope.names.lookup x=some .free:=by
   rcases h with h|h
   ·rcases Wj h with z|⟨_,z,_⟩
    ·exact .inl z
    ·exact .inr z
   ·rcases Wj h with z|⟨z,_⟩
    ·exact .inr z
    ·cases z
  rcases two with z|z
  ·exact .inl z
  ·exact .inr (Uj _ _ (.inl (PySem.mem_of_lookup z)))
 have exP:∀b∈fp,∀x c,(ju X N scope s H fp xe).env.cells.lookup x=some c->c≠b:=λ b a x c e=>by
  rcases Jz I S (l e) with ⟨_,q,_⟩|⟨_,q,_⟩
  ·exact(hf b a).2.2.2.2.1 x c q
  ·intro z;subst z;exact aZ _ (lt_trans q (A _ a))
 refine⟨⟨I.ok.mod,S.kind,I.ok.glob,I.ok.blt,ar _,λ x y c h1 J=>?_,λ x h=>L h,λ x c g h=>?_,I.ok.hd,I.ok.frames,.inl rfl,λ b a=>⟨?_,exP b a⟩,I.bs,bq I.ok.bsz I.sz,λ b o e a=>?_,λ b a z=>?_,I.stack,I.stkFree⟩,
  rfl,I.bare,Un.kept M,⟨λ _=>none,?_,λ j x v h1 J h3=>?_⟩,λ x c e=>?_,I.fresh,λ x c e=>?_,λ p hp=>?_,I.hok.kept M,hl⟩
 ·refine Wo _ _ _ (λ n c h=>?_) (λ n n' c h h'=>?_) x y c (l h1) (l J)
  ·rcases Qu _ _ h with z|⟨z,e⟩
   ·cases z
   ·obtain⟨c',D⟩:=I.capt S z
    rw[D]at e;have P:c=c':=e;subst P;obtain⟨v,q⟩:=I.cell n c D;exact a6 q.lt
  ·rcases Qu _ _ h with z|⟨z,e⟩
   ·cases z
   ·rcases Qu _ _ h' with Z|⟨Z,P⟩
    ·cases Z
    ·obtain⟨d,hd⟩:=I.capt S z
     obtain⟨d',B⟩:=I.capt S Z;rw[hd]at e;rw[B]at P;have K:c=d:=e;have e2:c=d':=P;subst K;subst e2;exact I.ok.inj _ _ _ hd B
 ·rcases Jz I S (l h) with ⟨z,_,_⟩|⟨_,z,_⟩
  ·exfalso
   have K:=Ql S.nd z;have t:(scope.names.lookup x==some .local || scope.names.lookup x==some .cell)=true:=g;rw[K]at t;cases t
  ·exact br z
 ·exact aM (A b a)
 ·obtain⟨_,_,_,E,_⟩:=hf b a
  rcases E with E|E
  ·exact I.ok.noex b o e E
  ·exact absurd (aI (aH e) (bq I.ok.bsz E)) (aZ _)
 ·obtain⟨_,J,h3,_⟩:=hf b a
  rcases qa3.mp (I.stkSub b z) with e|e
  ·exact J e
  ·exact h3 e
 ·exact(Heap.Ns.new s.heap (.type "dict")).keeps (pushCells_keeps _ _)
 ·obtain⟨g,i,K,e2⟩:=hs j x v h1 J
  obtain⟨m,hn,Y⟩:=I.loc;have Q:K1 X.env.scope x:=.inr (S.free _ g rfl);obtain⟨u,r,lk⟩:=Y i x v K e2 Q;refine⟨u,r,.inr ?_⟩;have w:(ju X N scope s H fp xe).env.kindOf x=some .cell∨(ju X N scope s H fp xe).env.kindOf x=some .free:=by
   rcases h3 with z|z|z
   ·exfalso
    rcases Wj z with Z|⟨Z,_⟩
    ·rw[Ql S.nd g]at Z;cases Z
    ·cases Z
   ·exact .inl z
   ·exact .inr z
  refine⟨w,?_⟩;obtain⟨c,D⟩:=L w;refine⟨c,D,?_⟩;rcases Jz I S (l D) with ⟨_,q,_⟩|⟨q,_,_⟩
  ·rcases lk with ⟨z,_⟩|⟨_,c',C,cell⟩
   ·exfalso
    rcases S.free _ g rfl with k|k<;>(rw[k]at z;cases z)
   ·rw[q]at C;cases C
    exact cell.keeps M
  ·exfalso
   have a1:=Ql S.nd g;have a2:=Ql S.nd q;rw[a1]at a2;cases a2
 ·rcases Jz I S (l e) with ⟨_,q,_⟩|⟨_,_,q⟩
  ·obtain⟨v,z⟩:=I.cell x c q
   exact⟨v,z.keeps M⟩
  ·exact⟨_,q _ T⟩
 ·rcases Jz I S (l e) with ⟨_,q,_⟩|⟨_,q,_⟩
  ·exact I.freeC x c q
  ·exact I.hok.fresh (br q)
 ·have U:p∈([]:List (Addr×Obj)):=hp
  cases U
end
abbrev kJ:=Addr->St->Hp->(St->Hp->Prop)->Prop
noncomputable def JY (elt:Expr)(gens:List Comprehension)(sc:Scope)(pos:Pos)(d:Nat)(acc:Value)(env:Env)(k:Sem Fin):Sem Fin:=
 match gens[d+1]? with
 |some g'=>do
  let x <- eval g'.iter env
  standAt g'.iter.pos
  let x <- foldedSetIterable g'.iter env x
  let _ <- runOwn (.compStart (.ListComp elt gens sc pos) (d+1) (<- holding [x] (pyIter x)) acc env) env
  k
 |none=>do
  (do let _ <- call (.builtin "list.append") [acc,<- eval elt env])
  k
theorem FQ {iter:Expr}{d:Nat}{it acc:Value}(h:gens[d]? =some ⟨tg,iter,ifs,0⟩)(H:∀g',gens[d+1]? =some g'->g'.is_async=0):
  compTurn (.ListComp elt gens sc pos) d it acc env=(do
   standAt iter.pos
   match <- pyNext it with
   |none=>pure (.done .next)|some v=>
    letOwnedTupleGo tg it v
    assign tg env v
    let mut ok:=true
    for c in ifs do
     if ok then ok <- isTrue c env (eval c env)
    if ok then JY elt gens sc pos d acc env (again (.compLoop (.ListComp elt gens sc pos) d it acc env))
    else again (.compLoop (.ListComp elt gens sc pos) d it acc env)):=by
 unfold compTurn JY;dsimp only;rw[h];cases hn:gens[d+1]? with
 |none=>rfl|some g'=>
  obtain⟨t',i,f,a⟩:=g';have e:a=0:=H _ hn;subst e
  rfl
def gN (X:Cx)(ifs:List Expr)(t:TT):Prop:=
 ∀(pins:List (Addr×Obj))(s:Shared)(σ:St)(H:Hp)(Q:Bool->Hp->Prop),Inv X pins σ H s->t σ H Q->
  wpAny (model X.prog X.w) X.A (forIn ifs true λ c r=>if r=true then do let ok <- isTrue c X.env (eval c X.env);pure (ForInStep.yield ok) else pure (ForInStep.yield r)) (TP X pins σ Q) X.xe s
noncomputable def CH:TT:=λ _ H Q=>Q true H
theorem LQ :gN X [] CH:=λ pins s σ H Q I h=>wpAny_tests_nil ⟨H,I,h⟩
theorem Ig {c:Expr}{t:TT}(h:PT X c t):gN X [c] t:=λ pins s σ H Q I hw=>wpAny_tests_one (h pins s σ H Q I hw)
def ku (X:Cx)(elt:Expr)(gens:List Comprehension)(sc:Scope)(pos:Pos)(d:Nat)(t:kJ):Prop:=
 ∀(pins:List (Addr×Obj))(s:Shared)(σ:St)(H:Hp)(D:Addr)(Q:St->Hp->Prop)(k:Sem Fin)(Q':Fin->Shared->Prop)(E:Value->Shared->Prop),Inv X pins σ H s->t D σ H Q->
  (∀S a h,Inv X pins a h S->Q a h->wpAny (model X.prog X.w) X.A k Q' E S)->wpAny (model X.prog X.w) X.A (JY elt gens sc pos d (.ref D) X.env k) Q' E s
def DZ (t:TE):kJ:=λ D σ H Q=>t σ H λ y H1=>∃ys,H1 D=some (.lst ys)/\ys.length<sizeLine/\Q σ (upd H1 D (.lst (ys++[y])))
def JS (J:It)(g:TG)(ti:TT)(tm:kJ):kJ:=λ D σ H Q=>∃W:Nat->Nat->St->Hp->Prop,(∃m,W 0 m σ H)/\∀i m σ H,W i m σ H->
 (J.stop i H/\Q σ H)∨(J.go i H/\∃N:St->Hp->Prop,(∀c h,N c h->∃M,M<m/\W (i+1) M c h)/\∀x h,J.yld i H x h->g x σ h λ a H1=>ti a H1 λ b d=>if b=true then tm D a d N else N a d)
def Cd (w:TI)(g:TG)(ti:TT)(tm:kJ):kJ:=λ D σ H Q=>w σ H λ J H1=>JS J g ti tm D σ H1 Q
section
variable {iter:Expr}{d:Nat}
theorem QP (h:∀e s,X.xe e s->False){t:Sem α}{Q':α->Shared->Prop}{S:Shared}(H:wpAny (model X.prog X.w) X.A t Q' X.xe S):wpAny (model X.prog X.w) X.A t Q' E S:=
 wpAny_mono H (λ _ _ z=>z) λ e S z=>(h e S z).elim
theorem L7 {t:TE}(x:∀e s,X.xe e s->False)(he:PE X elt t)(g:gens[d+1]? =none):ku X elt gens sc pos d (DZ t):=by
 intro pins s σ H D Q k Q' E I h b;unfold JY;rw[g];refine qa0 (qa0 (QP x (zU (he pins s σ H _ I h) λ u s1 ⟨y,H1,f,r,ys,c,z,a⟩=>?_)));refine qa0 (QP x (zU (UN pins s1 σ H1 (.ref D) [y] (.ref D) [u] (λ _ l=>Q σ l) f rfl (.cons r .nil) ⟨D,ys,y,rfl,rfl,c,z,a⟩) λ _ s2 ⟨_,j,i,_,q⟩=>?_));exact qa1 (b s2 σ j i q)
theorem Hd {g:TG}{ti:TT}{tm:kJ}(Z:∀e s,X.xe e s->False)(hc:X.calm=true)(hg:gens[d]? =some ⟨tg,iter,ifs,0⟩)(ha:∀g',gens[d+1]? =some g'->g'.is_async=0)(P:PG X tg g)(hi:gN X ifs ti)(hm:ku X elt gens sc pos d tm)
  {Q:St->Hp->Prop}{J:It}{it:Addr}{C:Nat->Heap->Prop}(T:Turn X.prog X.w X.K tg J fp it C)(I:Inv X pins σ H s)(st:C 0 s.heap)(hf:∀b∈fp,yW X pins H b)
  (h:JS J g ti tm D σ H Q){R:Result->Shared->Prop}(hR:∀z a c,Inv X pins a c z->Q a c->R (.ok .next) z):
  codeAny (model X.prog X.w) X.A (.compLoop (.ListComp elt gens sc pos) d (.ref it) (.ref D) X.env) R s:=by
 obtain⟨W,⟨m0,w0⟩,turn⟩:=h;have S:∀{c:Hp},(∀b∈fp,c b=none)->∀b∈fp,yW X pins c b:=λ hn b l=>⟨hn b l,(hf b l).2⟩;refine codeAny_loop rfl (λ n z=>∃i a c,Inv X pins a c z/\C i z.heap/\(∀b∈fp,c b=none)/\W i n a c) (λ n s3 hI=>?_) m0 ⟨0,σ,H,I,st,λ b l=>(hf b l).1,w0⟩;show wpAny _ X.A ((compTurn (.ListComp elt gens sc pos) d (.ref it) (.ref D) X.env).onRaise (λ x=>do noteFrame x X.env;theTreesLotGoes x)) _ _ s3
 refine wpAny_noted ?_;rw[FQ hg ha];refine qa0 (wpAny_standAt ?_);obtain⟨i,j,E,I3,wa,B,w3⟩:=hI;rcases turn i n j E w3 with ⟨stop,qn⟩|⟨go,N,hN,step⟩
 ·refine qa0 (zU (T.done X rfl rfl rfl hc i pins s3 j E _ I3 (S B) wa stop) λ r s4 ⟨M,I4⟩=>?_)
  subst M;exact qa1 (hR s4 j E I4 qn)
 ·refine qa0 (zU (T.item X rfl rfl rfl hc i pins s3 j E _ I3 (S B) wa go) λ r s4 ⟨u,M,h4⟩=>?_)
  subst M;refine qa0 (zU h4 λ _ s5 ⟨x,H5,I5,r5,y5,p,U⟩=>?_);have Y:=I5.pinned (S U) (T.obj _ _ p);have back:∀{f:St}{q:Hp}{t:Shared},Inv X (pins++JL fp s5.heap) f q t->N f q->∃m,m<n/\∃i a c,Inv X pins a c t/\C i t.heap/\(∀b∈fp,c b=none)/\W i m a c:=λ {f q t} v n7=>by
   obtain⟨m',hm,w7⟩:=hN f q n7;refine⟨m',hm,i+1,f,q,v.unpinned,T.keep _ _ _ p λ b l o e=>(v.pin (b,o) (aY _ (aY _ (Yv l e)))).1,λ b l=>?_,w7⟩;obtain⟨o,e,d⟩:=T.obj _ _ p b l;exact(v.pin (b,o) (aY _ (aY _ (Yv l e)))).2.1
  refine qa0 (QP Z (zU (P _ s5 j H5 x u _ Y r5 (step x H5 y5)) λ _ s6 ⟨y,H6,I6,q6⟩=>?_));refine qa0 (QP Z (zU (hi _ s6 y H6 _ I6 q6) λ ok t ⟨q,v,L⟩=>?_));cases ok with
  |false=>exact qa1 ⟨rfl,back v L⟩|true=>
   rw[af rfl]at L;exact hm _ t y q D _ _ _ _ v L λ s8 σ8 H8 I8 q8=>qa1 ⟨rfl,back I8 q8⟩
theorem RR {g:TG}{ti:TT}{tm:kJ}(i:∀e s,X.xe e s->False)(m:X.calm=true)(c:gens[d]? =some ⟨tg,iter,ifs,0⟩)(o:∀g',gens[d+1]? =some g'->g'.is_async=0)(t:PG X tg g)(j:gN X ifs ti)(hm:ku X elt gens sc pos d tm)
  {Q:St->Hp->Prop}{J:It}{it:Addr}{n:Nat->Heap->Prop}(T:Turn X.prog X.w X.K tg J fp it n)(I:Inv X pins σ H s)(st:n 0 s.heap)(hf:∀b∈fp,yW X pins H b)
  (h:JS J g ti tm D σ H Q){R:Result->Shared->Prop}(p:∀S a f,Inv X pins a f S->Q a f->R (.ok .next) S):
  codeAny (model X.prog X.w) X.A (.compStart (.ListComp elt gens sc pos) d (.ref it) (.ref D) X.env) R s:=by
 have loop:=Hd i m c o t j hm T I st hf h p;refine codeAny_of_tree ?_;show wpAny _ _ ((compStart (.ListComp elt gens sc pos) d (.ref it) (.ref D) X.env).onRaise (λ x=>do noteFrame x X.env;standAt theWindowsPlace)) _ _ s
 refine wpAny_notedAt ?_;unfold compStart;have l:(clausesOf (.ListComp elt gens sc pos))[d]? =some ⟨tg,iter,ifs,0⟩:=c;rw[l];show wpAny _ _ (ask >>= _) _ _ s;refine qa0 (wpAny_askSetting (wpAny_ite ?_))
 split
 ·first
   |exact qa0 (qa1 (qa1 (And.intro rfl loop)))
   |exact qa1 (And.intro rfl loop)
 ·first
   |exact qa0 (wpAny_rule (qa0 (wpAny_standAt (qa0 (T.self _ 0 s _ _ st (qa1 (And.intro rfl loop)))))))
   |(refine qa0 (wpAny_rule ?_);show wpAny _ _ (standAt iter.pos >>= _) _ _ s;exact qa0 (wpAny_standAt (qa0 (T.self _ 0 s _ _ st (qa1 (And.intro rfl loop))))))
theorem Lq {w:TI}{g:TG}{ti:TT}{tm:kJ}(b:∀e s,X.xe e s->False)(n:X.calm=true)(c:gens[d+1]? =some ⟨tg,iter,ifs,0⟩)(o:∀g',gens[d+2]? =some g'->g'.is_async=0)(hw:PI X tg iter w)(t:PG X tg g)(m:gN X ifs ti)(hm:ku X elt gens sc pos (d+1) tm)
  (j:∀x,foldedSetIterable iter X.env x=pure x:=by intro _;rfl):ku X elt gens sc pos d (Cd w g ti tm):=by
 intro pins s σ H D Q k Q' E I h l;unfold JY;rw[c];refine qa0 (QP b (zU (hw pins s σ H _ I h) λ v s1 r=>?_));refine qa0 (wpAny_standAt (qa0 (wpAny_of_eq (j v) ?_)));refine qa0 (wpAny_holding (QP b (zU r λ i s2 p=>?_)));obtain⟨it,fp,A,J,B,e,u,T,kM,f2,q⟩:=p;subst e;refine qa0 (wpAny_runOwn (RR b n c o t m hm T u kM f2 q λ S a z y f=>?_));exact l S a z y f
end
noncomputable def gi (nl:Nat)(cap:List Nat)(σ:St):St:=List.replicate nl none++cap.map λ i=>(σ[i]?).join
noncomputable def Zq (M N:List Str)(scope:Scope)(nl:Nat)(cap:List Nat):Bool:=
 N.length==nl+cap.length&&(List.range cap.length).all λ k=>match N[nl+k]?,M[cap.getD k 0]? with
  |some x,some y=>x==y&&scope.names.any λ z=>z.1==x&&z.2==NameKind.free|_,_=>false
theorem Im {M:List Str}{nl:Nat}(h:Zq M N scope nl cap=true):(gi nl cap σ).length=N.length/\
  ∀(j:Nat)(x:Str)(v:V),N[j]? =some x->(gi nl cap σ)[j]? =some (some v)->(x,NameKind.free)∈scope.names/\∃i:Nat,M[i]? =some x/\σ[i]? =some (some v):=by
 unfold Zq at h;rw[ao,aU]at h;obtain⟨n,m⟩:=h;refine⟨by unfold gi;simp[n],λ j x v r E=>?_⟩
 unfold gi at E
 by_cases b:j<nl
 ·rw[ai (by simpa using b),bo]at E
  split at E<;>cases E
 ·rw[ax (by simpa using b),bb,ak]at E
  cases c:cap[j - nl]? with
  |none=>rw[c]at E;cases E|some i=>
   rw[c]at E;have e:(σ[i]?).join=some v:=az E;have f:j - nl<cap.length:=(qa2.mp c).1;have H:=qa4.mp m (j - nl) (qa5.mpr f);have p:nl+(j - nl)=j:=by omega
   rw[p,r]at H;have q:cap.getD (j - nl) 0=i:=by rw[aa,c];rfl
   rw[q]at H;cases hm:M[i]? with
   |none=>rw[hm]at H;cases H|some y=>
    rw[hm]at H;rw[ao,aU]at H;obtain⟨l,g⟩:=H;subst l;obtain⟨z,d,a⟩:=List.any_eq_true.mp g;rw[ao,aU,aU]at a;refine⟨?_,i,hm,?_⟩
    ·obtain⟨t,Z⟩:=z
     obtain⟨a1,a2⟩:=a;cases a1;cases a2;exact d
    ·cases s:σ[i]? with
     |none=>rw[s]at e;cases e|some o=>rw[s]at e;cases o with
      |none=>cases e|some w=>cases e;rfl
noncomputable abbrev j8:Value->Shared->Prop:=λ _ _=>False
def Ke (K:Frag)(w:TI)(g:TG)(ti:TT)(tm:kJ)(nl:Nat)(cap:List Nat):TE:=λ σ H Q=>w σ H λ J h=>∀D,h D=none->K.lookup D=none->JS J g ti tm D (gi nl cap σ) (upd h D (.lst [])) λ _ a=>Q (.ref D) a
section
variable {iter:Expr}{wi:TI}{g:TG}{ti:TT}{tm:kJ}{nl:Nat}
theorem TH (hc:X.calm=true)(S:wW X sc)(B:Zq X.N N sc nl cap=true)(ha:∀g',gs[0]? =some g'->g'.is_async=0)(hw:PI X tg iter wi)
  
  (hin:∀s H fp,Inv X pins σ H s->(∀b∈fp,yW X pins H b)->PG (ju X N sc s H fp j8) tg g/\gN (ju X N sc s H fp j8) ifs ti/\ku (ju X N sc s H fp j8) elt (⟨tg,iter,ifs,0⟩::gs) sc pos 0 tm)
  {Q:VK}(I:Inv X pins σ H s)(h:Ke X.K wi g ti tm nl cap σ H Q)
  {use:Option (Value->Sem Unit)}{Q':Value->Shared->Prop}
  (t:∀(D C:Addr)(l:Shared)(r:Hp)(m:Str->Option Value),Inv X pins σ r l->Q (.ref D) r->l.heap.Ns C m->r C=none->C≠X.env.locals->X.s0.heap.objs.size<=C->(∀x c,X.env.cells.lookup x=some c->c≠C)->(∀q∈X.pn++pins,q.1≠C)->
   compPost (model X.prog X.w) X.A X.xe use Q' (.ref D) C (.ok .next) l)
  (hs:∀x,foldedSetIterable iter X.env x=pure x:=by intro _;rfl):
  wpAny (model X.prog X.w) X.A (comprehension (.ListComp elt (⟨tg,iter,ifs,0⟩::gs) sc pos) sc X.env p (newList []) false (eval iter X.env) use) Q' X.xe s:=by
 have j:∀y∈sc.names,y.2=.free->∃c,X.env.cells.lookup y.1=some c:=λ y Z e=>I.ok.has _ (S.free y Z e);refine wpAny_comprehension_free (use:=use) rfl hs (NJ j) S.kind (λ y Z e=>by
  obtain⟨y1,y2⟩:=y;have e':y2=.local:=e;subst e';exact Ql S.nd Z) ?_
 refine zU (hw pins s σ H _ I h) λ v s1 h1=>zU h1 λ itv s2 h2=>?_;obtain⟨it,fp,tn,J,P,e,I2,T,kM,f2,q2⟩:=h2;subst e;refine wpAny_newObj_type ?_;have hD:P s2.heap.objs.size=none:=I2.fresh;have hKD:X.K.lookup s2.heap.objs.size=none:=by
  cases ek:X.K.lookup s2.heap.objs.size with
  |none=>rfl|some o=>exact absurd (aH (I2.kIn _ _ ek)) (aZ _)
 have Y:=q2 _ hD hKD;generalize hs3:({ s2 with heap:=s2.heap.push { cls:=.type "list",data:=.seq ([]:List Value).toArray } }:Shared)=s3
 have f:s3={ s2 with heap:=s2.heap.push { cls:=.type "list",data:=.seq ([]:List Value).toArray } }:=hs3.symm
 have i:Inv X pins σ (upd P s2.heap.objs.size (.lst [])) s3:=by
  rw[f];exact I2.laid (t':=s2.toks) (λ b u e=>ae _ e) (ar _) ⟨by simp,[],0,.nil,au _ rfl⟩
 have E:∀b∈fp,∃o,s2.heap.get? b=some o:=λ b a=>let ⟨o,e,_⟩:=T.obj 0 _ kM b a;⟨o,e⟩
 have U:s3.heap.objs.size=s2.heap.objs.size+1:=by rw[f];exact ba ..
 have wa:tn 0 s3.heap:=T.keep _ _ _ kM λ b a o e=>by rw[f];exact ae _ e
 have L:∀b∈fp,b<s3.heap.objs.size:=λ b a=>by
  obtain⟨o,e⟩:=E b a;rw[U];exact a6 (aH e)
 have M:∀b∈fp,yW X pins (upd P s2.heap.objs.size (.lst [])) b:=λ b a=>by
  obtain⟨o,e⟩:=E b a;refine⟨?_,(f2 b a).2⟩;rw[qj (aM (aH e))];exact(f2 b a).1
 generalize upd P s2.heap.objs.size (.lst [])=H3 at i M Y;generalize s2.heap.objs.size=D at Y ⊢;refine PN ?_;obtain⟨cl,cs⟩:=Im B (σ:=σ);have I4:=L6 (xe:=j8) i S M L cl cs;obtain⟨hgt,hi,hm⟩:=hin s3 H3 fp i M;refine RR (X:=ju X N sc s3 H3 fp j8) (gens:=⟨tg,iter,ifs,0⟩::gs) (d:=0) (λ _ _ z=>z) hc rfl ha hgt hi hm T I4 (T.keep _ _ _ wa λ b a o e=>pushCells_keeps _ _ _ _ (ae _ e)) (λ b a=>?_) Y λ l σ' r n q'=>?_
 ·obtain⟨g1,g2,g3,g4,g5,g6⟩:=M b a
  refine⟨g1,aM (L b a),λ z=>?_,.inl a,(I4.ok.exf b a).2,λ p hp=>absurd (show p∈([]:List (Addr×Obj)) from hp) (by simp)⟩
  rcases qa3.mp (i.stkSub b z) with e|e
  ·exact g2 e
  ·exact g3 e
 ·have I5:Inv X pins σ r l:=i.call' n.os n.base n.hok n.bare λ b a=>by
   obtain⟨g1,g2,g3,g4,g5,g6⟩:=M b a;exact⟨g4,g2,g5,g6⟩
  obtain⟨m,hn,_⟩:=n.loc;refine t D _ l r m I5 q' hn n.free (bj i.lt) i.sz (λ x c e z=>?_) λ q hq z=>?_
  ·obtain⟨v,w⟩:=i.cell x c e
   exact aZ _ (aI w.lt (by rw[z];exact ar _))
  ·exact aZ _ (aI (aH (i.pin q hq).1) (by rw[z];exact ar _))
theorem HZ (f:X.calm=true)(S:wW X sc)(p:Zq X.N N sc nl cap=true)(j:∀g',gs[0]? =some g'->g'.is_async=0)(hw:PI X tg iter wi)
  (n:∀s H fp,PG (ju X N sc s H fp j8) tg g/\gN (ju X N sc s H fp j8) ifs ti/\ku (ju X N sc s H fp j8) elt (⟨tg,iter,ifs,0⟩::gs) sc pos 0 tm)
  (d:∀x,foldedSetIterable iter X.env x=pure x:=by intro _;rfl):PE X (.ListComp elt (⟨tg,iter,ifs,0⟩::gs) sc pos) (Ke X.K wi g ti tm nl cap):=by
 intro pins s σ H Q I h;rw[eval_ListComp];refine TH (use:=none) f S p j hw (λ s H fp _ _=>n s H fp) I h (λ D C c y m w q hn v u t r l=>?_) d;exact⟨m,hn,λ h' a=>⟨.ref D,y,w.turned (t':=c.toks) (λ b o i e=>(a.2 b i).trans e) v u (.inr t) r l,rfl,q⟩⟩
theorem NV {p:Pos}{c:Pos}(T:X.N.Nodup)(l:X.N[i]? =some x)(t:X.env.scope.names.lookup x=some .local)
  (w:swapsWith (.ListComp elt (⟨tg,iter,ifs,0⟩::gs) sc pos) (some (.Name x p)) c.line X.env=pure true)
  (M:X.calm=true)(S:wW X sc)(d:Zq X.N N sc nl cap=true)(Q:∀g',gs[0]? =some g'->g'.is_async=0)(hw:PI X tg iter wi)
  (n:∀s H fp,PG (ju X N sc s H fp j8) tg g/\gN (ju X N sc s H fp j8) ifs ti/\ku (ju X N sc s H fp j8) elt (⟨tg,iter,ifs,0⟩::gs) sc pos 0 tm)
  (J:∀x,foldedSetIterable iter X.env x=pure x:=by intro _;rfl):PS X (.Assign [.Name x p] (.ListComp elt (⟨tg,iter,ifs,0⟩::gs) sc pos) c) (KD (Ke X.K wi g ti tm nl cap) (Kf i)):=by
 intro pins s σ H D I h;rw[exec_Assign_Name_used _ _ _ _ w];refine qa0 (wpAny_standAt (qa0 ?_));show wpAny _ X.A (do let _ <- comprehension (.ListComp elt (⟨tg,iter,ifs,0⟩::gs) sc pos) sc X.env _ (newList []) false (eval iter X.env) (some (assign (.Name x p) X.env))) _ _ s
 refine qa0 (wpAny_mono (TH (use:=some (assign (.Name x p) X.env)) (Q':=λ _ j=>SP X pins D .next j) M S d Q hw (λ s H fp _ _=>n s H fp) I h (λ B C j H' m I' q hn Z y Y u U=>?_) J) (λ _ j L=>qa1 (qa1 L)) λ _ _ e=>e);show wpAny _ X.A (assign (.Name x p) X.env (.ref B)) _ _ _;refine wpAny_assign_Name (UL I' T l (.inl t) (v:=.ref B) rfl (λ s2 I2 ⟨a,E,ea⟩=>?_) (.inr t));have r:C≠a:=by
  rcases ea with e|e
  ·rw[e];exact y
  ·exactλ z=>u x a e z.symm
 refine⟨m,hn.sameBut E r,λ h' f=>⟨_,H',I2.turned (t':=s2.toks) (λ b o P e=>(f.2 b P).trans e) Z y (.inr Y) u U,q⟩⟩
end
end L2
namespace Mi
open PySem PySem.Spec PyProof.Rows L2
inductive W where
 |non|bl (b:Bool) | int (i:Int) | str (x:Str) | tup (xs:List W) | ref (n:Nat)
 |clo (k:Nat) (xs:List W) (P:Obj->Addr->Obj->List V->Prop)
 |xc (x:Str)
inductive O where
 |lst (xs:List W) | ro (xs:List W) | dct (kvs:List (Key×W))
 |tab (q:Str) (P:Addr)
noncomputable def O.mut:O->Bool
 |.ro _=>false|_=>true
noncomputable abbrev Hx:=List O
noncomputable abbrev En:=List (Option W)
inductive R (α:Type) where
 |ok (a:α) (A:Hx) | exc (x:Str) (A:Hx) | bad
noncomputable def R.bind {β:Type}(r:R α)(f:α->Hx->R β):R β:=match r with
 |.ok a A=>f a A|.exc x A=>.exc x A|.bad=>.bad
def R.post (r:R α)(P:α->Hx->Prop)(E:Str->Hx->Prop):Prop:=match r with
 |.ok a A=>P a A|.exc x A=>E x A|.bad=>False
noncomputable def R.nox (r:R α):R α:=match r with
 |.ok a A=>.ok a A|.exc _ _=>.bad|.bad=>.bad
section
variable {β:Type}{r:R α}{f:α->Hx->R β}{P Q:α->Hx->Prop}{P':β->Hx->Prop}{E F:Str->Hx->Prop}
theorem zM {a:α}{A:Hx}:(R.ok a A).bind f=f a A:=rfl
theorem zZ:(r.bind f).post P' E↔r.post (λ a A=>(f a A).post P' E) E:=by cases r<;>exact Iff.rfl
theorem qm (h:r.post P E)(H:∀a A,P a A->Q a A)(b:∀x A,E x A->F x A):r.post Q F:=by
 cases r with
 |ok a A=>exact H _ _ h|exc x A=>exact b _ _ h|bad=>exact h
end
abbrev Ev:=En->Hx->R W
inductive CM (K:Frag)(H:Hp)(R:List V->Prop)(v:V):Prop
 |mk (a:Addr) (vs:List V) (e:v=.ref a) (h:qi K H a vs) (r:R vs)
inductive CN (H:Hp)(P:Obj->Addr->Obj->List V->Prop)(R:List V->Prop)(v:V):Prop
 |mk (a:Addr) (ob:Obj) (u:HO) (c:Addr) (oc:Obj) (uc:HO) (vs:List V) (e:v=.ref a) (h1:H a=some (.frz ob u)) (h2:H c=some (.frz oc uc)) (p:P ob c oc vs) (r:R vs)
inductive CU (R:V->Prop)(Rs:List V->Prop)(vs:List V):Prop
 |mk (v:V) (r:List V) (e:vs=v::r) (h:R v) (t:Rs r)
mutual
noncomputable def RV (K:Frag)(φ:List Addr)(H:Hp):W->V->Prop
 |.non,v=>v=.non|.bl b,v=>v=.bl b|.int i,v=>v=.int i|.str x,v=>v=.str x|.tup ws,v=>CM K H (zJ K φ H ws) v|.ref n,v=>∃a,v=.ref a/\φ[n]? =some a|.clo _ ws P,v=>CN H P (zJ K φ H ws) v|.xc x,v=>∃a o u C,v=.ref a/\H a=some (.frz o u)/\o.cls=.ref C/\nsIn K mainGlobals x=some (some (.ref C))
noncomputable def zJ (K:Frag)(φ:List Addr)(H:Hp):List W->List V->Prop
 |[],vs=>vs=[]|w::ws,vs=>CU (RV K φ H w) (zJ K φ H ws) vs
end
structure Le (K:Frag)(φ:List Addr)(H:Hp)(φ':List Addr)(H':Hp):Prop where
 ex:∀(n:Nat)(a:Addr),φ[n]? =some a->φ'[n]? =some a
 tp:∀a vs,qi K H a vs->qi K H' a vs
 fr:∀a o,H a=some o->(∀n:Nat,φ[n]?≠some a)->H' a=some o
 nw:∀(n:Nat)(a:Addr),φ'[n]? =some a->φ[n]? =some a∨H a=none
 st:∀a,H' a=none->H a=none
 fz:∀a o u,H a=some (.frz o u)->H' a=some (.frz o u)
theorem Le.refl {K φ H}:Le K φ H φ H:=⟨λ _ _ h=>h,λ _ _ h=>h,λ _ _ h _=>h,λ _ _ h=>.inl h,λ _ h=>h,λ _ _ _ h=>h⟩
theorem Le.trans {K φ H φ1 H1 φ2 H2}(a:Le K φ H φ1 H1)(b:Le K φ1 H1 φ2 H2):Le K φ H φ2 H2 where
 ex:=λ n x h=>b.ex n x (a.ex n x h)
 tp:=λ n x h=>b.tp n x (a.tp n x h)
 fr:=λ c o h n=>b.fr c o (a.fr c o h n) λ k e=>by
  rcases a.nw k c e with e|e
  ·exact n k e
  ·rw[h]at e;cases e
 nw:=λ n c e=>by
  rcases b.nw n c e with e|e
  ·exact a.nw n c e
  ·exact .inr (a.st c e)
 st:=λ c e=>a.st c (b.st c e)
 fz:=λ c o u h=>b.fz c o u (a.fz c o u h)
theorem Le.off {K φ H φ' H'}(l:Le K φ H φ' H'){o:HO}(h:H D=some o)(n:∀k:Nat,φ[k]?≠some D):H' D=some o/\∀k:Nat,φ'[k]?≠some D:=
 ⟨l.fr D o h n,λ k e=>by
  rcases l.nw k D e with e|e
  ·exact n k e
  ·rw[h]at e;cases e⟩
section
variable {K:Frag}{φ':List Addr}{H':Hp}
structure gR (K:Frag)(φ:List Addr)(H:Hp)(φ':List Addr)(H':Hp):Prop where
 ex:∀(n:Nat)(a:Addr),φ[n]? =some a->φ'[n]? =some a
 tp:∀a vs,qi K H a vs->qi K H' a vs
 fz:∀a o u,H a=some (.frz o u)->H' a=some (.frz o u)
mutual
theorem RV.monoW (l:gR K φ H φ' H'):∀{w:W}{v:V},RV K φ H w v->RV K φ' H' w v
 |.non,_,h=>h|.bl _,_,h=>h|.int _,_,h=>h|.str _,_,h=>h|.tup ws,_,⟨a,vs,e,t,r⟩=>⟨a,vs,e,l.tp _ _ t,zJ.monoW l r⟩|.ref n,_,⟨a,e,f⟩=>⟨a,e,l.ex _ _ f⟩|.clo _ ws P,_,⟨a,ob,u,c,g,U,vs,e,d,b,i,r⟩=>⟨a,ob,u,c,g,U,vs,e,l.fz _ _ _ d,l.fz _ _ _ b,i,zJ.monoW l r⟩|.xc x,_,⟨a,o,u,C,e,d,b⟩=>⟨a,o,u,C,e,l.fz _ _ _ d,b⟩
theorem zJ.monoW (l:gR K φ H φ' H'):∀{ws:List W}{vs:List V},zJ K φ H ws vs->zJ K φ' H' ws vs
 |[],_,h=>h|w::ws,_,⟨v,r,e,h,t⟩=>⟨v,r,e,RV.monoW l h,zJ.monoW l t⟩
end
theorem RV.mono {w:W}(h:RV K φ H w v)(l:Le K φ H φ' H'):RV K φ' H' w v:=RV.monoW ⟨l.ex,l.tp,l.fz⟩ h
theorem zJ.mono {w:List W}{v:List V}(h:zJ K φ H w v)(l:Le K φ H φ' H'):zJ K φ' H' w v:=zJ.monoW ⟨l.ex,l.tp,l.fz⟩ h
structure yb (K:Frag)(D:Addr)(φ:List Addr)(H:Hp)(φ':List Addr)(H':Hp):Prop where
 ex:∀(n:Nat)(a:Addr),φ[n]? =some a->φ'[n]? =some a
 tp:∀a vs,qi K H a vs->qi K H' a vs
 fr:∀a o,a≠D->H a=some o->(∀n:Nat,φ[n]?≠some a)->H' a=some o
 nw:∀(n:Nat)(a:Addr),φ'[n]? =some a->φ[n]? =some a∨H a=none
 st:∀a,H' a=none->H a=none
 fz:∀a o u,H a=some (.frz o u)->H' a=some (.frz o u)
theorem yb.refl {D}:yb K D φ H φ H:=⟨λ _ _ h=>h,λ _ _ h=>h,λ _ _ _ h _=>h,λ _ _ h=>.inl h,λ _ h=>h,λ _ _ _ h=>h⟩
theorem Le.toD {D}(l:Le K φ H φ' H'):yb K D φ H φ' H':=⟨l.ex,l.tp,λ a o _ h n=>l.fr a o h n,l.nw,l.st,l.fz⟩
theorem yb.trans {D φ1 H1 φ2 H2}(a:yb K D φ H φ1 H1)(b:yb K D φ1 H1 φ2 H2):yb K D φ H φ2 H2 where
 ex:=λ n x h=>b.ex n x (a.ex n x h)
 tp:=λ n x h=>b.tp n x (a.tp n x h)
 fr:=λ c o ne h n=>b.fr c o ne (a.fr c o ne h n) λ k e=>by
  rcases a.nw k c e with e|e
  ·exact n k e
  ·rw[h]at e;cases e
 nw:=λ n c e=>by
  rcases b.nw n c e with e|e
  ·exact a.nw n c e
  ·exact .inr (a.st c e)
 st:=λ c e=>a.st c (b.st c e)
 fz:=λ c o u h=>b.fz c o u (a.fz c o u h)
theorem RV.monoD {D}{w:W}(h:RV K φ H w v)(l:yb K D φ H φ' H'):RV K φ' H' w v:=RV.monoW ⟨l.ex,l.tp,l.fz⟩ h
theorem zJ.monoD {D}{w:List W}{v:List V}(h:zJ K φ H w v)(l:yb K D φ H φ' H'):zJ K φ' H' w v:=zJ.monoW ⟨l.ex,l.tp,l.fz⟩ h
theorem zJ.length:∀{ws:List W}{vs:List V},zJ K φ H ws vs->ws.length=vs.length
 |[],_,h=>by cases h;rfl|w::ws,_,⟨v,r,e,_,t⟩=>by subst e;simp[zJ.length t]
theorem zJ.get:∀{ws:List W}{vs:List V}{i:Nat}{w:W},zJ K φ H ws vs->ws[i]? =some w->∃v,vs[i]? =some v/\RV K φ H w v
 |[],_,_,_,_,e=>by simp at e|w::ws,_,0,_,⟨v,r,e,h,t⟩,q=>by subst e;simp at q;subst q;exact⟨v,by simp,h⟩|w::ws,_,i+1,x,⟨v,r,e,h,t⟩,q=>by
  subst e;obtain⟨y,b,a⟩:=zJ.get (i:=i) (w:=x) t (by simpa using q)
  exact⟨y,by simpa using b,a⟩
theorem zJ.append:∀{ws us:List W}{vs xs:List V},zJ K φ H ws vs->zJ K φ H us xs->zJ K φ H (ws++us) (vs++xs)
 |[],_,_,_,h,t=>by cases h;exact t|w::ws,_,_,_,⟨v,r,e,h,t⟩,T=>by subst e;exact⟨v,r++_,rfl,h,zJ.append t T⟩
theorem zJ.one {w:W}(h:RV K φ H w v):zJ K φ H [w] [v]:=⟨v,[],rfl,h,rfl⟩
theorem zJ.nil:zJ K φ H [] []:=rfl
theorem zJ.cons {w:W}{v:V}{ws:List W}{vs:List V}(h:RV K φ H w v)(t:zJ K φ H ws vs):zJ K φ H (w::ws) (v::vs):=⟨v,vs,rfl,h,t⟩
theorem zJ.set {w:W}(q:RV K φ H w v):∀{ws:List W}{vs:List V}(i:Nat),zJ K φ H ws vs->zJ K φ H (ws.set i w) (vs.set i v)
 |[],_,_,h=>by cases h;exact rfl|_::_,_,0,⟨a,r,e,h,t⟩=>by subst e;exact⟨v,r,rfl,q,t⟩|_::_,_,i+1,⟨a,r,e,h,t⟩=>by subst e;exact⟨a,_,rfl,h,zJ.set q i t⟩
theorem zJ.erase:∀{ws:List W}{vs:List V}(n:Nat),zJ K φ H ws vs->zJ K φ H (ws.eraseIdx n) (vs.eraseIdx n)
 |[],_,n,h=>by cases h;rw[List.eraseIdx_nil,List.eraseIdx_nil];exact zJ.nil|_::_,_,0,⟨v,r,e,h,t⟩=>by subst e;simpa using t|_::_,_,n+1,⟨v,r,e,h,t⟩=>by subst e;exact⟨v,_,rfl,h,zJ.erase n t⟩
theorem zJ.ints:∀{ns:List Int}{vs:List V},zJ K φ H (ns.map W.int) vs↔vs=ns.map V.int
 |[],vs=>Iff.rfl|n::ns,vs=>by
  constructor
  ·rintro⟨v,r,e,h,t⟩
   rw[e,(show v=V.int n from h),zJ.ints.mp t];rfl
  ·intro e
   exact⟨V.int n,ns.map V.int,e,rfl,zJ.ints.mpr rfl⟩
def Xt (K:Frag)(H:Hp)(a:Addr)(xs:List V):Prop:=
 (∃ob,H a=some (.frz ob (.lst xs)))∨
  ∃(o:Obj) (its:Array Value) (n:Nat),K.lookup a=some o/\o.cls=.type "list" /\ o.dict=none/\o.data=.seq its n/\its.size<=sizeLine/\Vals xs its.toList
theorem Xt.sq (h:Xt K H a xs):qL K H a xs:=by
 rcases h with h|h
 ·exact .inl (.inr h)
 ·exact .inr h
inductive TabAt (H:Hp)(q:Str)(cv:Value):Prop
 |mk (c:Addr) (oc:Obj) (u:HO) (vs:Array Value) (t:Tok) (e:cv=.ref c) (h:H c=some (.frz oc u)) (d:oc.data=.fields vs/\vs[1]? =some (.str q t))
def KA (H:Hp)(q:Str)(p:Array Value):Prop:=TriplesOk p.toList/\∀pos c,codeAmong pos p.toList=some c->TabAt H q c
theorem KA.mono {q:Str}{p:Array Value}(h:KA H q p)(l:∀a o u,H a=some (.frz o u)->H' a=some (.frz o u)):KA H' q p:=
 ⟨h.1,λ pos C e=>by obtain⟨c,b,u,vs,t,g,f,d⟩:=h.2 pos C e;exact⟨c,b,u,vs,t,g,l _ _ _ f,d⟩⟩
def OR (K:Frag)(φ:List Addr)(H:Hp)(a:Addr):O->Prop
 |.lst ws=>∃vs,H a=some (.lst vs)/\zJ K φ H ws vs|.ro ws=>∃vs,Xt K H a vs/\zJ K φ H ws vs|.dct kvs=>∃us,H a=some (.dK us)/\us.map (·.1)=kvs.map (·.1)/\zJ K φ H (kvs.map (·.2)) (us.map (·.2))|.tab q P=>a=P/\∃p,H a=some (.tbl p)/\KA H q p
structure zN (K:Frag)(φ:List Addr)(A:Hx)(H:Hp):Prop where
 len:φ.length=A.length
 inj:∀(i j:Nat)(a:Addr)(o o':O),φ[i]? =some a->φ[j]? =some a->A[i]? =some o->A[j]? =some o'->o.mut=true->o'.mut=true->i=j
 ob:∀(n:Nat)(o:O),A[n]? =some o->∃a,φ[n]? =some a/\OR K φ H a o
variable {A:Hx}
theorem OR.there {o:O}(h:OR K φ H a o)(m:o.mut=true):∃u,H a=some u/\(∀xs,u≠.tup xs)/\(∀ob v,u≠.frz ob v):=by
 cases o with
 |lst ws=>obtain⟨vs,e,_⟩:=h;exact⟨_,e,λ _ z=>(by cases z),λ _ _ z=>(by cases z)⟩|ro ws=>cases m|dct kvs=>obtain⟨vs,e,_⟩:=h;exact⟨_,e,λ _ z=>(by cases z),λ _ _ z=>(by cases z)⟩|tab q P=>obtain⟨_,vs,e,_⟩:=h;exact⟨_,e,λ _ z=>(by cases z),λ _ _ z=>(by cases z)⟩
theorem YY {o:HO}{vs:List V}(h:qi K H a vs)(n:∀xs,H b≠some (.tup xs))(N:∀ob u,H b≠some (.frz ob u)):qi K (upd H b o) a vs:=by
 rcases h with (h|⟨ob,h⟩) | h
 ·exact .inl (.inl (by rw[qj];exact h;intro e;subst e;exact n _ h))
 ·exact .inl (.inr ⟨ob,by rw[qj];exact h;intro e;subst e;exact N _ _ h⟩)
 ·exact .inr h
theorem Le.upd {o:HO}{k:Nat}(c:φ[k]? =some b)(n:∀xs,H b≠some (.tup xs))(N:∀ob u,H b≠some (.frz ob u)):Le K φ H φ (upd H b o) where
 ex:=λ _ _ h=>h
 tp:=λ _ _ h=>YY h n N
 fr:=λ a u h z=>by
  rw[qj];exact h;intro e;subst e;exact z k c
 nw:=λ _ _ h=>.inl h
 st:=λ a h=>by
  by_cases e:a=b
  ·subst e;rw[jN]at h;cases h
  ·rw[qj e]at h;exact h
 fz:=λ a ob u h=>by
  rw[qj];exact h;intro e;subst e;exact N _ _ h
theorem Le.new {p:Addr}{o:HO}(b:H p=none):Le K φ H φ (L2.upd H p o) where
 ex:=λ _ _ h=>h
 tp:=λ _ _ h=>YY h (λ xs z=>by rw[b]at z;cases z) (λ _ _ z=>by rw[b]at z;cases z)
 fr:=λ a u h z=>by
  rw[qj];exact h;intro e;subst e;rw[b]at h;cases h
 nw:=λ _ _ h=>.inl h
 st:=λ a h=>by
  by_cases e:a=p
  ·subst e;rw[jN]at h;cases h
  ·rw[qj e]at h;exact h
 fz:=λ a ob u h=>by
  rw[qj];exact h;intro e;subst e;rw[b]at h;cases h
theorem Le.alloc {p:Addr}{o:HO}(b:H p=none):Le K φ H (φ++[p]) (L2.upd H p o) where
 ex:=λ n a h=>by
  have:=(qa2.mp h).1
  rw[ai this];exact h
 tp:=(Le.new (φ:=φ) b).tp
 fr:=(Le.new (K:=K) (φ:=φ) b).fr
 nw:=λ n a h=>by
  by_cases hn:n < φ.length
  ·rw[ai hn]at h;exact .inl h
  ·rw[ax (by omega)]at h
   have e:a=p:=by
    have:=List.mem_of_getElem? h
    simpa using this
   subst e;exact .inr b
 st:=(Le.new (K:=K) (φ:=φ) b).st
 fz:=(Le.new (K:=K) (φ:=φ) b).fz
theorem Le.ofD {o:HO}(b:H D=none)(l:yb K D φ (L2.upd H D o) φ' H'):Le K φ H φ' H' where
 ex:=l.ex
 tp:=λ a vs h=>l.tp a vs ((Le.new (K:=K) (φ:=φ) b).tp a vs h)
 fr:=λ a u h n=>by
  have ne:a≠D:=by rintro rfl;rw[b]at h;cases h
  exact l.fr a u ne (by rw[qj ne];exact h) n
 nw:=λ n a e=>by
  rcases l.nw n a e with e|e
  ·exact .inl e
  ·by_cases h:a=D
   ·subst h;rw[jN]at e;cases e
   ·rw[qj h]at e;exact .inr e
 st:=λ a e=>by
  have E:=l.st a e
  by_cases h:a=D
  ·subst h;rw[jN]at E;cases E
  ·rw[qj h]at E;exact E
 fz:=λ a ob u h=>l.fz a ob u (by rw[qj];exact h;rintro rfl;rw[b]at h;cases h)
theorem yb.upd {o:HO}(b:H D=some (.lst xs)):yb K D φ H φ (L2.upd H D o) where
 ex:=λ _ _ h=>h
 tp:=λ a vs h=>YY h (λ xs z=>by rw[b]at z;cases z) (λ _ _ z=>by rw[b]at z;cases z)
 fr:=λ a u ne h n=>by rw[qj ne];exact h
 nw:=λ _ _ h=>.inl h
 st:=λ a e=>by
  by_cases h:a=D
  ·subst h;rw[jN]at e;cases e
  ·rw[qj h]at e;exact e
 fz:=λ a ob u h=>by
  rw[qj];exact h;intro e;subst e;rw[b]at h;cases h
theorem OR.keep {o:O}(h:OR K φ H a o)(l:Le K φ H φ' H')(e:∀u,H a=some u->H' a=some u):OR K φ' H' a o:=by
 cases o with
 |lst ws=>obtain⟨vs,q,r⟩:=h;exact⟨vs,e _ q,r.mono l⟩|dct kvs=>obtain⟨vs,q,k,r⟩:=h;exact⟨vs,e _ q,k,r.mono l⟩|tab q P=>obtain⟨k,p,q,r⟩:=h;exact⟨k,p,e _ q,r.mono l.fz⟩|ro ws=>
  obtain⟨vs,q,r⟩:=h;refine⟨vs,?_,r.mono l⟩;rcases q with ⟨ob,q⟩|q
  ·exact .inl ⟨ob,e _ q⟩
  ·exact .inr q
theorem zN.alloc {p:Addr}{u:HO}{o:O}(S:zN K φ A H)(r:H p=none)(new:OR K (φ++[p]) (L2.upd H p u) p o):Le K φ H (φ++[p]) (L2.upd H p u)/\zN K (φ++[p]) (A++[o]) (L2.upd H p u):=by
 have l:Le K φ H (φ++[p]) (L2.upd H p u):=Le.alloc r;have old:∀(i:Nat) a,(φ++[p])[i]? =some a->i<A.length->φ[i]? =some a:=λ i a e b=>by
  rw[ai (by rw[S.len];exact b)]at e;exact e
 refine⟨l,by simp[S.len],λ i j a x w m g f c m1 m2=>?_,λ n o' e=>?_⟩
 ·by_cases b:i<A.length
  ·by_cases d:j<A.length
   ·rw[ai b]at f
    rw[ai d]at c;exact S.inj i j a x w (old i a m b) (old j a g d) f c m1 m2
   ·exfalso
    rw[ai b]at f;have t:j=A.length:=by have:=(qa2.mp c).1;simp at this;omega
    subst t;rw[ax (by rw[S.len];exact ar _),S.len]at g
    simp at g;obtain⟨B,E,q⟩:=S.ob i x f;rw[old i a m b]at E;cases E;obtain⟨z,h,_⟩:=q.there m1;rw[<- g,r]at h;cases h
  ·have v:i=A.length:=by have:=(qa2.mp f).1;simp at this;omega
   by_cases d:j<A.length
   ·exfalso
    rw[ai d]at c;subst v;rw[ax (by rw[S.len];exact ar _),S.len]at m
    simp at m;obtain⟨B,E,q⟩:=S.ob j w c;rw[old j a g d]at E;cases E;obtain⟨z,h,_⟩:=q.there m2;rw[<- m,r]at h;cases h
   ·have:=(qa2.mp c).1;simp at this;omega
 ·by_cases hn:n<A.length
  ·rw[ai hn]at e
   obtain⟨a,E,q⟩:=S.ob n o' e;refine⟨a,l.ex _ _ E,q.keep l λ z h=>?_⟩;rw[qj];exact h;intro y;subst y;rw[r]at h;cases h
  ·have s:n=A.length:=by have:=(qa2.mp e).1;simp at this;omega
   subst s;rw[ax (ar _)]at e;simp at e;subst e;exact⟨p,by rw[ax (by rw[S.len];exact ar _),S.len];simp,new⟩
theorem zN.write {p:Addr}{u:HO}{o o':O}(S:zN K φ A H)(hn:A[n]? =some o)(m:o.mut=true)(U:o'.mut=true)(d:φ[n]? =some p)(new:OR K φ (L2.upd H p u) p o'):
  Le K φ H φ (L2.upd H p u)/\zN K φ (A.set n o') (L2.upd H p u):=by
 obtain⟨T,e,q⟩:=S.ob n o hn;rw[d]at e;cases e;obtain⟨z,c,B,N⟩:=q.there m;have l:Le K φ H φ (L2.upd H p u):=Le.upd d (λ xs e=>by rw[c]at e;exact B xs (az e)) λ ob v e=>by rw[c]at e;exact N ob v (az e)
 have mt:∀(i:Nat)(w:O),(A.set n o')[i]? =some w->w.mut=true->∃f,A[i]? =some f/\f.mut=true:=λ i w e M=>by
  by_cases h:i=n
  ·subst h;exact⟨o,hn,m⟩
  ·rw[aK (Ne.symm h)]at e;exact⟨w,e,M⟩
 refine⟨l,by simp[S.len],λ i j a y x P L J I m1 m2=>?_,λ i w e=>?_⟩
 ·obtain⟨s,E,D⟩:=mt i y J m1
  obtain⟨g,Q,C⟩:=mt j x I m2;exact S.inj i j a s g P L E Q D C
 ·by_cases h:i=n
  ·subst h
   have:i<A.length:=(qa2.mp hn).1
   rw[aF this]at e;cases e;exact⟨p,d,new⟩
  ·rw[aK (Ne.symm h)]at e
   obtain⟨a,E,r⟩:=S.ob i w e;refine⟨a,E,?_⟩
   by_cases hm:w.mut=true
   ·have ne:a≠p:=λ z=>h (S.inj i n a w o E (by rw[z];exact d) e hn hm m)
    exact r.keep l λ z c=>by rw[qj ne];exact c
   ·cases w with
    |lst _=>exact absurd rfl hm|dct _=>exact absurd rfl hm|tab _ _=>exact absurd rfl hm|ro ws=>
     obtain⟨vs,b,t⟩:=r;refine⟨vs,?_,t.mono l⟩;rcases b with ⟨ob,b⟩|b
     ·refine .inl ⟨ob,?_⟩
      rw[qj];exact b;intro z;subst z;rw[c]at b;exact N _ _ (az b)
     ·exact .inr b
theorem zN.lay {p:Addr}{u:HO}(S:zN K φ A H)(b:H p=none):zN K φ A (L2.upd H p u):=
 ⟨S.len,S.inj,λ n o e=>by
  obtain⟨a,c,q⟩:=S.ob n o e;refine⟨a,c,q.keep (Le.new b) λ z h=>?_⟩;rw[qj];exact h;intro E;subst E;rw[b]at h;cases h⟩
theorem zN.off {o:HO}(S:zN K φ A H)(h:H D=some (.lst xs))(n:∀k:Nat,φ[k]?≠some D):zN K φ A (L2.upd H D o):=
 ⟨S.len,S.inj,λ k u e=>by
  obtain⟨a,E,q⟩:=S.ob k u e;have ne:a≠D:=λ z=>n k (by rw[<- z];exact E)
  have l:yb K D φ H φ (L2.upd H D o):=yb.upd h;refine⟨a,E,?_⟩;cases u with
  |lst ws=>obtain⟨vs,q,r⟩:=q;exact⟨vs,by rw[qj ne];exact q,r.monoD l⟩|dct kvs=>obtain⟨vs,q,k,r⟩:=q;exact⟨vs,by rw[qj ne];exact q,k,r.monoD l⟩|tab _ _=>obtain⟨k,vs,q,r⟩:=q;exact⟨k,vs,by rw[qj ne];exact q,r.mono l.fz⟩|ro ws=>
   obtain⟨vs,q,r⟩:=q;refine⟨vs,?_,r.monoD l⟩;rcases q with ⟨ob,q⟩|q
   ·exact .inl ⟨ob,by rw[qj ne];exact q⟩
   ·exact .inr q⟩
theorem zN.notin (S:zN K φ A H)(b:H D=none)(d:K.lookup D=none):∀k:Nat,φ[k]?≠some D:=λ k e=>by
 have c:k<A.length:=by rw[<- S.len];exact(qa2.mp e).1
 obtain⟨a,E,q⟩:=S.ob k A[k] (by simp[c])
 rw[e]at E;cases E;cases h:A[k] with
 |lst ws=>rw[h]at q;obtain⟨vs,z,_⟩:=q;rw[b]at z;cases z|dct ws=>rw[h]at q;obtain⟨vs,z,_⟩:=q;rw[b]at z;cases z|tab _ _=>rw[h]at q;obtain⟨_,vs,z,_⟩:=q;rw[b]at z;cases z|ro ws=>
  rw[h]at q;obtain⟨vs,z,_⟩:=q;rcases z with ⟨ob,z⟩|⟨o,i,n,z,_⟩
  ·rw[b]at z;cases z
  ·rw[d]at z;cases z
theorem zN.track {u:HO}{o:O}(S:zN K φ A H)(x:H D=some u)(n:∀k:Nat,φ[k]?≠some D)(new:OR K (φ++[D]) H D o):zN K (φ++[D]) (A++[o]) H:=by
 have l:gR K φ H (φ++[D]) H:=⟨λ n a h=>by
  have:=(qa2.mp h).1
  rw[ai this];exact h,λ _ _ h=>h,λ _ _ _ h=>h⟩
 have old:∀(i:Nat) a,(φ++[D])[i]? =some a->i<A.length->φ[i]? =some a:=λ i a e b=>by
  rw[ai (by rw[S.len];exact b)]at e;exact e
 have last:∀a,(φ++[D])[A.length]? =some a->a=D:=λ a e=>by
  rw[ax (by rw[S.len];exact ar _),S.len]at e
  simpa using e.symm
 refine⟨by simp[S.len],λ i j a w v t s p d m1 m2=>?_,λ k o' e=>?_⟩
 ·by_cases b:i<A.length
  ·by_cases c:j<A.length
   ·rw[ai b]at p
    rw[ai c]at d;exact S.inj i j a w v (old i a t b) (old j a s c) p d m1 m2
   ·exfalso
    have g:j=A.length:=by have:=(qa2.mp d).1;simp at this;omega
    subst g;exact n i (by rw[<- last a s];exact old i a t b)
  ·have m:i=A.length:=by have:=(qa2.mp p).1;simp at this;omega
   by_cases c:j<A.length
   ·exfalso
    subst m;exact n j (by rw[<- last a t];exact old j a s c)
   ·have:=(qa2.mp d).1;simp at this;omega
 ·by_cases hn:k<A.length
  ·rw[ai hn]at e
   obtain⟨a,E,q⟩:=S.ob k o' e;refine⟨a,l.ex _ _ E,?_⟩;cases o' with
   |lst ws=>obtain⟨vs,z,r⟩:=q;exact⟨vs,z,r.monoW l⟩|dct ws=>obtain⟨vs,z,Z,r⟩:=q;exact⟨vs,z,Z,r.monoW l⟩|tab _ _=>exact q|ro ws=>obtain⟨vs,z,r⟩:=q;exact⟨vs,z,r.monoW l⟩
  ·have f:k=A.length:=by have:=(qa2.mp e).1;simp at this;omega
   subst f;rw[ax (ar _)]at e;simp at e;subst e;exact⟨D,by rw[ax (by rw[S.len];exact ar _),S.len];simp,new⟩
theorem Le.track {b:List Addr}{H0:Hp}(l:Le K b H0 φ H)(h0:H0 D=none):Le K b H0 (φ++[D]) H where
 ex:=λ n a h=>by
  have h':=l.ex n a h
  have:=(qa2.mp h').1
  rw[ai this];exact h'
 tp:=l.tp
 fr:=l.fr
 nw:=λ n a e=>by
  by_cases hn:n < φ.length
  ·rw[ai hn]at e;exact l.nw n a e
  ·rw[ax (by omega)]at e
   have E:a=D:=by
    have:=List.mem_of_getElem? e
    simpa using this
   subst E;exact .inr h0
 st:=l.st
 fz:=l.fz
end
noncomputable abbrev St:=L2.St
abbrev XR:=Str->Hp->Prop
def PB (K:Frag)(φ:List Addr)(H:Hp)(Q:VK):W->Hx->Prop:=λ w A=>∀a h v,Le K φ H a h->zN K a A h->RV K a h w v->Q v h
def Bf (K:Frag)(φ:List Addr)(H:Hp)(Q:List V->Hp->Prop):List W->Hx->Prop:=λ w A=>∀a h v,Le K φ H a h->zN K a A h->zJ K a h w v->Q v h
noncomputable def EB (K:Frag)(φ:List Addr)(H:Hp)(X:XR):Str->Hx->Prop:=λ x A=>∀a h,Le K φ H a h->zN K a A h->X x h
structure RE (K:Frag)(φ:List Addr)(H:Hp)(ρ:En)(σ:St):Prop where
 len:σ.length=ρ.length
 get:∀(i:Nat)(w:W),ρ[i]? =some (some w)->∃v,σ[i]? =some (some v)/\RV K φ H w v
section
variable {K:Frag}{φ1 φ':List Addr}{H1 H':Hp}{A:Hx}{ρ:En}{xr:XR}
theorem RE.mono (r:RE K φ H ρ σ)(l:Le K φ H φ' H'):RE K φ' H' ρ σ:=⟨r.len,λ i w e=>let ⟨v,h1,h⟩:=r.get i w e;⟨v,h1,h.mono l⟩⟩
theorem PB.mono {Q:VK}{w:W}(h:PB K φ H Q w A)(l:Le K φ H φ1 H1):PB K φ1 H1 Q w A:=λ a b v L=>h a b v (l.trans L)
theorem EB.mono (h:EB K φ H xr x A)(l:Le K φ H φ1 H1):EB K φ1 H1 xr x A:=λ a b L=>h a b (l.trans L)
theorem RE.set {w:W}(r:RE K φ H ρ σ)(q:RV K φ H w v):RE K φ H (ρ.set i (some w)) (σ.set i (some v)):=
 ⟨by simp[r.len],λ j u e=>by
  by_cases h:i=j
  ·subst h
   have a:i < ρ.length:=by
    have:=(qa2.mp e).1
    simpa using this
   rw[aF a]at e;cases e;exact⟨v,by rw[aF (by rw[r.len];exact a)],q⟩
  ·rw[aK h]at e
   obtain⟨x,c,b⟩:=r.get j u e;exact⟨x,by rw[aK h];exact c,b⟩⟩
end
inductive MM (K:Frag)(xr:XR)(m:Ev)(σ:St)(H:Hp)(Q:VK):Prop
 |mk (φ:List Addr) (A:Hx) (ρ:En) (S:zN K φ A H) (re:RE K φ H ρ σ) (h:(m ρ A).post (PB K φ H Q) (EB K φ H xr))
noncomputable def tM (K:Frag)(x:XR)(m:Ev):TE:=λ σ H Q=>MM K x m σ H Q
inductive MT (K:Frag)(xr:XR)(m:Ev)(σ:St)(H:Hp)(Q:Bool->Hp->Prop):Prop
 |mk (φ:List Addr) (A:Hx) (ρ:En) (S:zN K φ A H) (re:RE K φ H ρ σ) (h:(m ρ A).post (λ w A'=>∃b,w=.bl b/\∀φ' H',Le K φ H φ' H'->zN K φ' A' H'->Q b H') (EB K φ H xr))
noncomputable def tT (K:Frag)(x:XR)(m:Ev):TT:=λ σ H Q=>MT K x m σ H Q
abbrev Ea:=En->Hx->R (List W)
inductive MA (K:Frag)(xr:XR)(m:Ea)(σ:St)(H:Hp)(Q:List V->Hp->Prop):Prop
 |mk (φ:List Addr) (A:Hx) (ρ:En) (S:zN K φ A H) (re:RE K φ H ρ σ) (h:(m ρ A).post (Bf K φ H Q) (EB K φ H xr))
noncomputable def KQ (K:Frag)(x:XR)(m:Ea):TA:=λ σ H Q=>MA K x m σ H Q
def SE (X:Cx)(x:XR)(e:Expr)(m:Ev):Prop:=PE X e (tM X.K x m)
def ST (X:Cx)(x:XR)(e:Expr)(m:Ev):Prop:=PT X e (tT X.K x m)
def SW (X:Cx)(x:XR)(e:Expr)(m:Ev):Prop:=PW X e (tT X.K x m)
def SA (X:Cx)(x:XR)(e:List Expr)(m:Ea):Prop:=PA X e (KQ X.K x m)
section
variable {xr:XR}{a b:Expr}{es:List Expr}{m ma mb mc:Ev}
theorem PE.imp {t t':TE}(h:PE X e t)(i:∀σ H Q,t' σ H Q->t σ H Q):PE X e t':=λ pins s σ H Q I hw=>h pins s σ H Q I (i σ H Q hw)
theorem PT.imp {t t':TT}(h:PT X e t)(i:∀σ H Q,t' σ H Q->t σ H Q):PT X e t':=λ pins s σ H Q I hw=>h pins s σ H Q I (i σ H Q hw)
theorem PW.imp {t t':TT}(h:PW X e t)(i:∀σ H Q,t' σ H Q->t σ H Q):PW X e t':=λ w pins s σ H Q I hw=>h w pins s σ H Q I (i σ H Q hw)
theorem PA.imp {t t':TA}(h:PA X es t)(i:∀σ H Q,t' σ H Q->t σ H Q):PA X es t':=λ p pins s σ H Q I hw=>h p pins s σ H Q I (i σ H Q hw)
theorem tM.go {K:Frag}{A:Hx}{ρ:En}{Q:VK}{G:W->Hx->Prop}(S:zN K φ A H)(r:RE K φ H ρ σ)(h:(m ρ A).post G (EB K φ H xr))
  (k:∀w A1 a H1 v,G w A1->Le K φ H a H1->zN K a A1 H1->RV K a H1 w v->Q v H1):tM K xr m σ H Q:=
 ⟨φ,A,ρ,S,r,qm h (λ w A1 g a H1 v l s q=>k w A1 a H1 v g l s q) λ _ _ z=>z⟩
theorem KQ.go {K:Frag}{A:Hx}{ρ:En}{m:Ea}{Q:List V->Hp->Prop}{G:List W->Hx->Prop}(S:zN K φ A H)(r:RE K φ H ρ σ)(h:(m ρ A).post G (EB K φ H xr))
  (k:∀w A1 a H1 v,G w A1->Le K φ H a H1->zN K a A1 H1->zJ K a H1 w v->Q v H1):KQ K xr m σ H Q:=
 ⟨φ,A,ρ,S,r,qm h (λ w A1 g a H1 v l s q=>k w A1 a H1 v g l s q) λ _ _ z=>z⟩
theorem tT.go {K:Frag}{A:Hx}{ρ:En}{Q:Bool->Hp->Prop}{G:W->Hx->Prop}(S:zN K φ A H)(r:RE K φ H ρ σ)(h:(m ρ A).post G (EB K φ H xr))
  (k:∀w A1,G w A1->∃b,w=.bl b/\∀a H1,Le K φ H a H1->zN K a A1 H1->Q b H1):tT K xr m σ H Q:=
 ⟨φ,A,ρ,S,r,qm h (λ w A1 g=>k w A1 g) λ _ _ z=>z⟩
noncomputable def zc (i:Nat):Ev:=λ ρ A=>match ρ[i]? with
 |some (some w)=>.ok w A|_=>.bad
noncomputable def zj (w:W):Ev:=λ _ A=>.ok w A
noncomputable def zl (g:W->W->Hx->R W)(a b:Ev):Ev:=λ ρ A=>(a ρ A).bind λ x A1=>(b ρ A1).bind λ y A2=>g x y A2
noncomputable def yK (g:W->Hx->R W)(a:Ev):Ev:=λ ρ A=>(a ρ A).bind λ x A1=>g x A1
noncomputable abbrev wL:Str->Hx->Prop:=λ _ _=>False
def jv (K:Frag)(r:R2)(g:W->W->Hx->R W):Prop:=∀φ A H x y u v Q,zN K φ A H->RV K φ H u x->RV K φ H v y->(g u v A).post (PB K φ H Q) wL->r x y H Q
def Xy (K:Frag)(r:V->Hp->VK->Prop)(g:W->Hx->R W):Prop:=∀φ A H x u Q,zN K φ A H->RV K φ H u x->(g u A).post (PB K φ H Q) wL->r x H Q
def qA (r:R α):Prop:=∀x A,r≠.exc x A
theorem QA {r:R α}{P:α->Hx->Prop}{E:Str->Hx->Prop}(n:qA r)(h:r.post P E):r.post P wL:=by
 cases r with
 |ok a A=>exact h|exc x A=>exact absurd rfl (n x A)|bad=>exact h
theorem zl.read {g:W->W->Hx->R W}{r:R2}(hn:∀x y A,qA (g x y A))(e:jv X.K r g):∀σ H Q,tM X.K xr (zl g ma mb) σ H Q->J4 r (tM X.K xr ma) (tM X.K xr mb) σ H Q:=by
 rintro σ H Q ⟨φ,A,ρ,S,re,h⟩
 refine tM.go S re (zZ.mp h) λ w A1 b H1 v i l j d=>?_;refine tM.go j (re.mono l) (qm (zZ.mp i) (λ _ _ z=>z) λ _ _ z=>z.mono l) λ c A2 a m v2 f L s q=>?_;exact e a A2 m v v2 w c Q s (d.mono L) q (qm (QA (hn _ _ _) f) (λ _ _ z=>z.mono (l.trans L)) λ _ _ z=>z)
theorem yK.read {g:W->Hx->R W}{r:V->Hp->VK->Prop}(hn:∀x A,qA (g x A))(b:Xy X.K r g):∀σ H Q,tM X.K xr (yK g ma) σ H Q->Bk r (tM X.K xr ma) σ H Q:=by
 rintro σ H Q ⟨φ,A,ρ,S,re,h⟩
 refine tM.go S re (zZ.mp h) λ w A1 a H1 v c l s q=>?_;exact b a A1 H1 v w Q s q (qm (QA (hn _ _) c) (λ _ _ z=>z.mono l) λ _ _ z=>z)
theorem Zh {op:Operator}{r:R2}{g:W->W->Hx->R W}(h:qu X (binaryOp op) r)(hn:∀x y A,qA (g x y A))(H:jv X.K r g)(d:SE X xr a ma)(c:SE X xr b mb):SE X xr (.BinOp a op b pos) (zl g ma mb):=
 PE.imp (D0 h d c) (zl.read hn H)
theorem Ri {r:R2}{g:W->W->Hx->R W}(h:qu X (compareOp op) r)(hn:∀x y A,qA (g x y A))(H:jv X.K r g)(d:SE X xr a ma)(c:SE X xr b mb)(hm:behindInMarks op b=false):SE X xr (.Compare a [op] [b] pos) (zl g ma mb):=
 PE.imp (H9 h d c hm) (zl.read hn H)
theorem tT.toM {K:Frag}{Q:Bool->Hp->Prop}(h:tT K xr m σ H Q):tM K xr m σ H λ x d=>∃k,x=.bl k/\Q k d:=by
 obtain⟨φ,A,ρ,S,re,h⟩:=h;refine tM.go S re h λ w A1 a H1 v ⟨b,e,q⟩ l s c=>?_;subst e;exact⟨b,c,q a H1 l s⟩
theorem Rf {r:R2}{g:W->W->Hx->R W}(o:qu X (compareOp op) r)(hn:∀x y A,qA (g x y A))(c:jv X.K r g)(e:SE X xr a ma)(d:SE X xr b mb)(hm:behindInMarks op b=false):ST X xr (.Compare a [op] [b] pos) (zl g ma mb):=
 PT.imp (Hn o e d hm) λ σ H Q h=>zl.read hn c σ H _ h.toM
noncomputable def yc (g g':W->W->Hx->R W)(a b c:Ev):Ev:=λ ρ A=>(a ρ A).bind λ x A1=>(b ρ A1).bind λ y A2=>(g x y A2).bind λ z d=>match z with
 |.bl true=>(c ρ d).bind λ w e=>g' y w e|.bl false=>.ok (.bl false) d|_=>.bad
theorem yc.read {g g':W->W->Hx->R W}{r i:R2}(hn:∀x y A,qA (g x y A))(P:jv X.K r g)(m:∀x y A,qA (g' x y A))(n:jv X.K i g'):
  ∀σ H Q,tM X.K xr (yc g g' ma mb mc) σ H Q->GO r i (tM X.K xr ma) (tM X.K xr mb) (tM X.K xr mc) σ H Q:=by
 rintro σ H Q ⟨φ,A,ρ,S,re,h⟩
 refine tM.go S re (zZ.mp h) λ w A1 D H1 v Y L S1 N=>?_;refine tM.go S1 (re.mono L) (qm (zZ.mp Y) (λ _ _ z=>z) λ _ _ z=>z.mono L) λ f A2 b C v2 U u S2 q=>?_;have j:=L.trans u;have o:=zZ.mp U;have a:(g w f A2).post (PB X.K b C λ z c=>∃k,z=.bl k/\if k=true then tM X.K xr mc σ c λ I p=>i v2 I p Q else Q (.bl false) c) wL:=by
  refine qm (QA (hn _ _ _) o) (λ z A3 a e c zv t B M=>?_) λ _ _ z=>z;have l:=j.trans t;cases z with
  |bl k=>
   refine⟨k,M,?_⟩;cases k with
   |true=>
    rw[af rfl];refine tM.go B (re.mono l) (qm (zZ.mp a) (λ _ _ z=>z) λ _ _ z=>z.mono l) λ E A4 d p v4 T s Z J=>?_;exact n d A4 p v2 v4 f E Q Z ((q.mono t).mono s) J (qm (QA (m _ _ _) T) (λ _ _ z=>z.mono (l.trans s)) λ _ _ z=>z)
   |false=>
    rw[aj ay];exact a e c _ l B rfl
  |non=>cases a|int _=>cases a|str _=>cases a|tup _=>cases a|ref _=>cases a|clo _ _ _=>cases a|xc _=>cases a
 exact P b A2 C v v2 w f _ S2 (N.mono u) q a
theorem Lz {c:Expr}{o:CmpOp}{r e:R2}{g g':W->W->Hx->R W}(f:qu X (compareOp op) r)(hn:∀x y A,qA (g x y A))(i:jv X.K r g)(h:qu X (compareOp o) e)(H:∀x y A,qA (g' x y A))(d:jv X.K e g')
  (m:SE X xr a ma)(l:SE X xr b mb)(j:SE X xr c mc)(hm:lastMarks [op,o] [b,c]=false:=by with_unfolding_all rfl):SE X xr (.Compare a [op,o] [b,c] pos) (yc g g' ma mb mc):=
 PE.imp (LS f h m l j hm) (yc.read hn i H d)
theorem Lr {c:Expr}{o:CmpOp}{r i:R2}{g g':W->W->Hx->R W}(j:qu X (compareOp op) r)(hn:∀x y A,qA (g x y A))(l:jv X.K r g)(d:qu X (compareOp o) i)(e:∀x y A,qA (g' x y A))(f:jv X.K i g')
  (p:SE X xr a ma)(n:SE X xr b mb)(m:SE X xr c mc)(hm:lastMarks [op,o] [b,c]=false:=by with_unfolding_all rfl):ST X xr (.Compare a [op,o] [b,c] pos) (yc g g' ma mb mc):=
 PT.imp (Ly j d p n m hm) λ σ H Q h=>yc.read hn l e f σ H _ h.toM
noncomputable def jz (a b:Ev):Ev:=λ ρ A=>(a ρ A).bind λ x A1=>match x with
 |.bl true=>b ρ A1|.bl false=>.ok (.bl false) A1|_=>.bad
noncomputable def yj (a b:Ev):Ev:=λ ρ A=>(a ρ A).bind λ x A1=>match x with
 |.bl true=>.ok (.bl true) A1|.bl false=>b ρ A1|_=>.bad
noncomputable def yu (a:Ev):Ev:=λ ρ A=>(a ρ A).bind λ x A1=>match x with
 |.bl k=>.ok (.bl (!k)) A1|_=>.bad
noncomputable def Pd (c a b:Ev):Ev:=λ ρ A=>(c ρ A).bind λ x A1=>match x with
 |.bl true=>a ρ A1|.bl false=>b ρ A1|_=>.bad
theorem tT.mono {K:Frag}{c:List Addr}{H1:Hp}{A1:Hx}{ρ:En}{Q:Bool->Hp->Prop}(S:zN K c A1 H1)(L:Le K φ H c H1)(re:RE K φ H ρ σ)
  (h:(m ρ A1).post (λ w A=>∃b,w=.bl b/\∀a d,Le K φ H a d->zN K a A d->Q b d) (EB K φ H xr)):tT K xr m σ H1 Q:=
 ⟨c,A1,ρ,S,re.mono L,qm h (λ w A ⟨b,e,q⟩=>⟨b,e,λ a d l s=>q a d (L.trans l) s⟩) λ _ _ z=>z.mono L⟩
noncomputable def zq:Ea:=λ _ A=>.ok [] A
noncomputable def zh (a:Ev)(r:Ea):Ea:=λ ρ A=>(a ρ A).bind λ x A1=>(r ρ A1).bind λ xs A2=>.ok (x::xs) A2
noncomputable def jb (a:Ea):Ev:=λ ρ A=>(a ρ A).bind λ xs A1=>.ok (.tup xs) A1
noncomputable def qP (a:Ea):Ev:=λ ρ A=>(a ρ A).bind λ xs A1=>.ok (.ref A1.length) (A1++[.lst xs])
theorem Zj {K:Frag}{A:Hx}{p:Addr}{ws:List W}{vs:List V}(S:zN K φ A H)(h:H p=none)(r:zJ K φ H ws vs):
  Le K φ H φ (upd H p (.tup vs))/\zN K φ A (upd H p (.tup vs))/\RV K φ (upd H p (.tup vs)) (.tup ws) (.ref p):=
 ⟨Le.new h,S.lay h,p,vs,rfl,qi.of jN,r.mono (Le.new h)⟩
theorem Z1 {K:Frag}{A:Hx}{p:Addr}{ws:List W}{vs:List V}(S:zN K φ A H)(h:H p=none)(r:zJ K φ H ws vs):
  Le K φ H (φ++[p]) (upd H p (.lst vs))/\zN K (φ++[p]) (A++[.lst ws]) (upd H p (.lst vs))/\RV K (φ++[p]) (upd H p (.lst vs)) (.ref A.length) (.ref p):=by
 have l:Le K φ H (φ++[p]) (upd H p (.lst vs)):=Le.alloc h;obtain⟨b,a⟩:=S.alloc (o:=.lst ws) h ⟨vs,jN,r.mono l⟩;exact⟨b,a,p,rfl,by rw[<- S.len];simp⟩
theorem Ed {m:Ea}(h:SA X xr es m)(d:∀ρ A ws a,m ρ A=.ok ws a->ws.length<=sizeLine):SE X xr (.List es pos) (qP m):=
 PE.imp (Dh h) λ σ H Q ⟨φ,A,ρ,S,re,h⟩=>by
  have h':=zZ.mp h;cases e:m ρ A with
  |ok ws a=>
   rw[e]at h';refine⟨φ,A,ρ,S,re,?_⟩;rw[e];intro b H1 vs l s q;refine⟨by rw[<- q.length];exact d ρ A ws a e,λ p c=>?_⟩
   obtain⟨a1,a2,f⟩:=Z1 s c q;exact h' _ _ _ (l.trans a1) a2 f
  |exc x a=>rw[e]at h';refine⟨φ,A,ρ,S,re,?_⟩;rw[e];exact h'|bad=>rw[e]at h';exact h'.elim
end
inductive Fl where
 |nx (ρ:En) | rt (w:W) | bk (ρ:En) | ct (ρ:En)
abbrev Ex:=En->Hx->R Fl
def FB (K:Frag)(φ:List Addr)(H:Hp)(D:Ends):Fl->Hx->Prop
 |.nx ρ,A=>∀a h b,Le K φ H a h->zN K a A h->RE K a h ρ b->D.nx b h|.rt w,A=>∀a h v,Le K φ H a h->zN K a A h->RV K a h w v->D.rt v h|.bk ρ,A=>∀a h b,Le K φ H a h->zN K a A h->RE K a h ρ b->D.bk b h|.ct ρ,A=>∀a h b,Le K φ H a h->zN K a A h->RE K a h ρ b->D.ct b h
theorem FB.mono {K:Frag}{c:List Addr}{H1:Hp}{D:Ends}{f:Fl}{A:Hx}(h:FB K φ H D f A)(l:Le K φ H c H1):FB K c H1 D f A:=by
 cases f with
 |nx ρ=>exactλ a b v L=>h a b v (l.trans L)|rt ρ=>exactλ a b v L=>h a b v (l.trans L)|bk ρ=>exactλ a b v L=>h a b v (l.trans L)|ct ρ=>exactλ a b v L=>h a b v (l.trans L)
inductive MS (K:Frag)(xr:XR)(m:Ex)(D:Ends)(σ:St)(H:Hp):Prop
 |mk (φ:List Addr) (A:Hx) (ρ:En) (S:zN K φ A H) (re:RE K φ H ρ σ) (h:(m ρ A).post (FB K φ H D) (EB K φ H xr))
noncomputable def tS (K:Frag)(x:XR)(m:Ex):TS:=λ D σ H=>MS K x m D σ H
def SS (X:Cx)(x:XR)(st:Stmt)(m:Ex):Prop:=PS X st (tS X.K x m)
def KR (X:Cx)(x:XR)(st:List Stmt)(m:Ex):Prop:=yv X st (tS X.K x m)
section
variable {xr:XR}{a b c:Expr}{st:Stmt}{rest:List Stmt}{m:Ev}{m1 m2:Ex}
theorem PS.imp {t t':TS}(h:PS X st t)(i:∀D σ H,t' D σ H->t D σ H):PS X st t':=λ pins s σ H D I hw=>h pins s σ H D I (i D σ H hw)
theorem yv.imp {t t':TS}(h:yv X rest t)(i:∀D σ H,t' D σ H->t D σ H):yv X rest t':=λ pins s σ H D I hw=>h pins s σ H D I (i D σ H hw)
noncomputable def zx:Ex:=λ ρ A=>.ok (.nx ρ) A
noncomputable def zr (m1 m2:Ex):Ex:=λ ρ A=>(m1 ρ A).bind λ l A1=>match l with
 |.nx ρ1=>m2 ρ1 A1|f=>.ok f A1
noncomputable def qX (m:Ev):Ex:=λ ρ A=>(m ρ A).bind λ _ A1=>.ok (.nx ρ) A1
noncomputable def zT (m:Ev):Ex:=λ ρ A=>(m ρ A).bind λ w A1=>.ok (.rt w) A1
noncomputable def ql (c:Ev)(a b:Ex):Ex:=λ ρ A=>(c ρ A).bind λ x A1=>match x with
 |.bl true=>a ρ A1|.bl false=>b ρ A1|_=>.bad
noncomputable def zY (i:Nat)(m:Ev):Ex:=λ ρ A=>(m ρ A).bind λ w A1=>.ok (.nx (ρ.set i (some w))) A1
theorem zY.read :∀D σ H,tS X.K xr (zY i m) D σ H->KD (tM X.K xr m) (Kf i) D σ H:=by
 rintro D σ H ⟨φ,A,ρ,S,re,h⟩
 exact tM.go S re (zZ.mp h) λ w A1 a H1 v b l s q=>b a H1 _ l s ((re.mono l).set q)
noncomputable def kd (g:W->W->W->Hx->R Unit)(me mo mi:Ev):Ex:=λ ρ A=>(me ρ A).bind λ v A1=>(mo ρ A1).bind λ o A2=>(mi ρ A2).bind λ i b=>(g o i v b).bind λ _ a=>.ok (.nx ρ) a
def Rz (K:Frag)(t:Qd)(g:W->W->W->Hx->R Unit):Prop:=∀φ A H o i v w b wv Q,zN K φ A H->RV K φ H w o->RV K φ H b i->RV K φ H wv v->
 (g w b wv A).post (λ _ c=>∀a h,Le K φ H a h->zN K a c h->Q h) wL->t o i v H Q
theorem LV {o i:Expr}{mo mi:Ev}{t:Qd}{g:W->W->W->Hx->R Unit}(N:Kr X t)(hn:∀o i v A,qA (g o i v A))(Y:Rz X.K t g)(he:SE X xr e m)(T:SE X xr o mo)(U:SE X xr i mi)
  (P:swapsWithSole [.Subscript o i tpos] e pos.line X.env=pure false:=by rfl)(hw:swappedStores [.Subscript o i tpos] e X.env=pure none:=by rfl)
  (j:(assignEach [.Subscript o i tpos] X.env).map (·.2)=[assign (.Subscript o i tpos) X.env]:=by rfl)
  (Z:∀v,assign (.Subscript o i tpos) X.env v=(do
   let ov <- holding [v] (eval o X.env)
   let iv <- holding [v,ov] (eval i X.env)
   standAt tpos
   holding [v,ov,iv] (setItem ov iv v)
   release [v,ov,iv] []):=by intro _;rfl):SS X xr (.Assign [.Subscript o i tpos] e pos) (kd g m mo mi):=
 PS.imp (GI he (DF T U N Z) P hw j) λ D σ H ⟨φ,A,ρ,S,re,h⟩=>by
  refine tM.go S re (zZ.mp h) λ p A1 E H1 v1 j f S1 M=>?_;refine tM.go S1 (re.mono f) (qm (zZ.mp j) (λ _ _ z=>z) λ _ _ z=>z.mono f) λ n A2 C H2 v2 h2 s S2 J=>?_;have l:=f.trans s;refine tM.go S2 (re.mono l) (qm (zZ.mp h2) (λ _ _ z=>z) λ _ _ z=>z.mono l) λ w B c H3 I a d S3 Q=>?_;have L:=l.trans d;refine Y c B H3 v2 I v1 n w p _ S3 (J.mono d) Q (M.mono (s.trans d)) ?_;cases r:g n w p B with
  |ok u y=>
   rw[r]at a;exactλ b H4 q S4=>a b H4 σ (L.trans q) S4 (re.mono (L.trans q))
  |exc x y=>exact absurd r (hn _ _ _ _ x y)|bad=>rw[r]at a;exact a.elim
structure jf where
 at_:Hx->Nat->Option (Option W)
 len:Nat
def gQ (K:Frag)(φ:List Addr)(H:Hp)(j:jf)(J:It):Prop:=∀i a h A,gR K φ H a h->zN K a A h->
 (∀w,j.at_ A i=some (some w)->J.go i h/\∀x H1,J.yld i h x H1->Le K a h a H1/\zN K a A H1/\RV K a H1 w x)/\(j.at_ A i=some none->J.stop i h)
abbrev Ei:=En->Hx->R jf
inductive MI (K:Frag)(xr:XR)(mi:Ei)(σ:St)(H:Hp)(Rr:It->Hp->Prop):Prop
 |mk (φ:List Addr) (A:Hx) (ρ:En) (S:zN K φ A H) (re:RE K φ H ρ σ) (h:(mi ρ A).post (λ j A1=>∀φ1 H1 J,Le K φ H φ1 H1->zN K φ1 A1 H1->gQ K φ1 H1 j J->Rr J H1) (EB K φ H xr))
noncomputable def tI (K:Frag)(x:XR)(mi:Ei):TI:=λ σ H r=>MI K x mi σ H r
def SI (X:Cx)(x:XR)(t iter:Expr)(mi:Ei):Prop:=PI X t iter (tI X.K x mi)
theorem PI.imp {t t':TI}(h:PI X tg e t)(i:∀σ H Q,t' σ H Q->t σ H Q):PI X tg e t':=λ pins s σ H Q I hw=>h pins s σ H Q I (i σ H Q hw)
abbrev Tg:=W->En->Option En
inductive MG (K:Frag)(tw:Tg)(v:V)(σ:St)(H:Hp)(Q:St->Hp->Prop):Prop
 |mk (φ:List Addr) (A:Hx) (ρ:En) (w:W) (ρ':En) (S:zN K φ A H) (re:RE K φ H ρ σ) (rv:RV K φ H w v) (t:tw w ρ=some ρ') (q:∀σ',RE K φ H ρ' σ'->Q σ' H)
noncomputable def tG (K:Frag)(tw:Tg):TG:=λ v σ H Q=>MG K tw v σ H Q
def SG (X:Cx)(t:Expr)(tw:Tg):Prop:=PG X t (tG X.K tw)
theorem PG.imp {t t':TG}(h:PG X tg t)(i:∀v σ H Q,t' v σ H Q->t v σ H Q):PG X tg t':=λ pins s σ H v u Q I r hw=>h pins s σ H v u Q I r (i v σ H Q hw)
noncomputable def zR (i:Nat):Tg:=λ w ρ=>some (ρ.set i (some w))
noncomputable def qD (i j:Nat):Tg:=λ w ρ=>match w with
 |.tup [x,y]=>some ((ρ.set i (some x)).set j (some y))|_=>none
noncomputable def jQ (j:jf)(st:W->Ex):Nat->Nat->Ex
 |0,i,ρ,A=>match j.at_ A i with
  |some none=>.ok (.nx ρ) A|_=>.bad
 |f+1,i,ρ,A=>match j.at_ A i with
  |some none=>.ok (.nx ρ) A|some (some w)=>(st w ρ A).bind λ l A1=>match l with
   |.nx ρ1=>jQ j st f (i+1) ρ1 A1|.ct ρ1=>jQ j st f (i+1) ρ1 A1|.bk ρ1=>.ok (.nx ρ1) A1|.rt w=>.ok (.rt w) A1
  |none=>.bad
noncomputable def turn (tw:Tg)(body:Ex)(w:W):Ex:=λ ρ A=>match tw w ρ with
 |some ρ1=>body ρ1 A|none=>.bad
def jG (mi:Ei)(tw:Tg)(body:Ex):Ex:=λ ρ A=>(mi ρ A).bind λ j A1=>jQ j (turn tw body) j.len 0 ρ A1
inductive Pe (K:Frag)(xr:XR)(j:jf)(t:W->Ex)(D:Ends)(φ1:List Addr)(H1:Hp)(f i:Nat)(σ':St)(H':Hp):Prop
 |mk (φ2:List Addr) (A2:Hx) (ρ2:En) (l:Le K φ1 H1 φ2 H') (S:zN K φ2 A2 H') (re:RE K φ2 H' ρ2 σ') (h:(jQ j t f i ρ2 A2).post (FB K φ2 H' D) (EB K φ2 H' xr))
noncomputable def gK (c:Ev)(body:Ex):Nat->Ex
 |0,ρ,A=>.bad|f+1,ρ,A=>(c ρ A).bind λ x A1=>match x with
  |.bl true=>(body ρ A1).bind λ l A2=>match l with
   |.nx ρ1=>gK c body f ρ1 A2|.ct ρ1=>gK c body f ρ1 A2|.bk ρ1=>.ok (.nx ρ1) A2|.rt w=>.ok (.rt w) A2
  |.bl false=>.ok (.nx ρ) A1|_=>.bad
def GF (f:Nat)(c:Ev)(body:Ex):Ex:=gK c body f
noncomputable def Z8 (nl:Nat)(cap:List Nat)(ρ:En):En:=List.replicate nl none++cap.map λ i=>(ρ[i]?).join
theorem RE.gi {K:Frag}{ρ:En}{nl:Nat}(r:RE K φ H ρ σ):RE K φ H (Z8 nl cap ρ) (L2.gi nl cap σ):=by
 refine⟨by simp[Z8,L2.gi],λ i w e=>?_⟩
 unfold Z8 at e;unfold L2.gi
 by_cases a:i<nl
 ·rw[ai (by simpa using a),bo]at e
  split at e<;>cases e
 ·rw[ax (by simpa using a),bb,ak]at e
  rw[ax (by simpa using a),bb,ak]
  cases c:cap[i - nl]? with
  |none=>rw[c]at e;cases e|some k=>
   rw[c]at e;have E:(ρ[k]?).join=some w:=az e;cases h:ρ[k]? with
   |none=>rw[h]at E;cases E|some o=>cases o with
    |none=>rw[h]at E;cases E|some f=>
     rw[h]at E;cases E;obtain⟨v,d,b⟩:=r.get k w h;exact⟨v,by simp[d],b⟩
abbrev Em:=En->List W->Hx->R (En×List W)
noncomputable def zX:Nat:=100000
def zP (elt:Ev):Em:=λ ρ acc A=>(elt ρ A).bind λ y A1=>if acc.length<zX then .ok (ρ,acc++[y]) A1 else .bad
noncomputable def jc (j:jf)(tw:Tg)(ifs:Ev)(em:Em):Nat->Nat->Em
 |0,i,ρ,acc,A=>match j.at_ A i with
  |some none=>.ok (ρ,acc) A|_=>.bad
 |f+1,i,ρ,acc,A=>match j.at_ A i with
  |some none=>.ok (ρ,acc) A|some (some w)=>match tw w ρ with
   |some ρ1=>(ifs ρ1 A).bind λ c A1=>match c with
    |.bl true=>(em ρ1 acc A1).bind λ p A2=>jc j tw ifs em f (i+1) p.1 p.2 A2|.bl false=>jc j tw ifs em f (i+1) ρ1 acc A1|_=>.bad
   |none=>.bad
  |none=>.bad
def gH (mi:Ei)(tw:Tg)(ifs:Ev)(em:Em):Em:=λ ρ acc A=>(mi ρ A).bind λ j A1=>jc j tw ifs em j.len 0 ρ acc A1
abbrev jw:=En->Hx->R (List W)
def zV (nl:Nat)(cap:List Nat)(mi:Ei)(tw:Tg)(ifs:Ev)(em:Em):jw:=λ ρ A=>(mi ρ A).bind λ j A1=>(jc j tw ifs em j.len 0 (Z8 nl cap ρ) [] A1).nox.bind λ p A2=>.ok p.2 A2
def Xw (K:Frag)(D:Addr)(φ:List Addr)(H:Hp)(Q:St->Hp->Prop)(p:En×List W)(A1:Hx):Prop:=∀a H1 b zs,yb K D φ H a H1->(∀k:Nat,a[k]?≠some D)->zN K a A1 H1->RE K a H1 p.1 b->H1 D=some (.lst zs)->zJ K a H1 p.2 zs->Q b H1
inductive ME (K:Frag)(em:Em)(D:Addr)(σ:St)(H:Hp)(Q:St->Hp->Prop):Prop
 |mk (φ:List Addr) (A:Hx) (ρ:En) (acc:List W) (ys:List V) (S:zN K φ A H) (re:RE K φ H ρ σ) (hD:H D=some (.lst ys)) (nD:∀k:Nat,φ[k]?≠some D) (rv:zJ K φ H acc ys)
  (h:(em ρ acc A).post (Xw K D φ H Q) wL)
noncomputable def tE (K:Frag)(em:Em):kJ:=λ D σ H Q=>ME K em D σ H Q
noncomputable abbrev ko:XR:=λ _ _=>False
def SM (X:Cx)(elt:Expr)(gens:List Comprehension)(sc:Scope)(c:Pos)(d:Nat)(em:Em):Prop:=ku X elt gens sc c d (tE X.K em)
theorem ku.imp {d:Nat}{t t':kJ}(h:ku X elt gens sc pos d t)(i:∀D σ H Q,t' D σ H Q->t D σ H Q):ku X elt gens sc pos d t':=
 λ pins s σ H D Q k Q' E I hw a=>h pins s σ H D Q k Q' E I (i D σ H Q hw) a
theorem W6 {K:Frag}{r:R α}{P:α->Hx->Prop}(h:r.post P wL):r.post P (EB K φ H ko):=qm h (λ _ _ z=>z) λ _ _ z=>z.elim
def KL (X:Cx)(ifs:List Expr)(m:Ev):Prop:=gN X ifs (tT X.K ko m)
inductive Pk (tw:Tg)(ifs:Ev)(em:Em)(j:jf)(K:Frag)(D:Addr)(φ:List Addr)(H:Hp)(Q:St->Hp->Prop)(f i:Nat)(σ':St)(H':Hp):Prop
 |mk (φ2:List Addr) (A2:Hx) (ρ2:En) (acc2:List W) (ys2:List V) (l:yb K D φ H φ2 H') (S:zN K φ2 A2 H') (re:RE K φ2 H' ρ2 σ') (hD:H' D=some (.lst ys2)) (nD:∀k:Nat,φ2[k]?≠some D) (ra:zJ K φ2 H' acc2 ys2) (h:(jc j tw ifs em f i ρ2 acc2 A2).post (Xw K D φ H Q) wL)
theorem jc.read {tw:Tg}{ifs:Ev}{em:Em}{j:jf}{J:It}{K:Frag}{A:Hx}{ρ:En}{acc:List W}{Q:St->Hp->Prop}{f:Nat}
  (jr:gQ K φ H j J)
  (S:zN K φ A H)(re:RE K φ H ρ σ)(hD:H D=some (.lst ys))(nD:∀k:Nat,φ[k]?≠some D)(ra:zJ K φ H acc ys)
  (h:(jc j tw ifs em f 0 ρ acc A).post (Xw K D φ H Q) wL):
  JS J (tG K tw) (tT K ko ifs) (tE K em) D σ H Q:=by
 refine⟨λ i f b M=>Pk tw ifs em j K D φ H Q f i b M,
  ⟨f,φ,A,ρ,acc,ys,.refl,S,re,hD,nD,ra,h⟩,?_⟩
 rintro i f T H2 ⟨g,A2,q,e,Y,v,S2,s,I,t,m,a⟩
 obtain⟨j1,j2⟩:=jr i g H2 A2 ⟨v.ex,v.tp,v.fz⟩ S2;cases E:j.at_ A2 i with
 |none=>cases f<;>(unfold jc at a;rw[E]at a;exact a.elim)|some o=>
  cases o with
  |none=>
   left
   refine⟨j2 E,?_⟩;cases f<;>(unfold jc at a;rw[E]at a;exact a g H2 T Y v t S2 s I m)
  |some w=>
   right
   obtain⟨go,yl⟩:=j1 w E;cases f with
   |zero=>unfold jc at a;rw[E]at a;exact a.elim|succ f=>
    unfold jc at a;rw[E]at a;refine⟨go,λ b M=>Pk tw ifs em j K D φ H Q f (i+1) b M,λ b M z=>⟨f,bg _,z⟩,λ x H3 y=>?_⟩;obtain⟨u,S3,q3⟩:=yl x H3 y;obtain⟨Z,X⟩:=u.off I t;dsimp only at a;cases et:tw w q with
    |none=>rw[et]at a;exact a.elim|some l=>
     rw[et]at a;refine⟨g,A2,q,w,l,S3,s.mono u,q3,et,λ σ3 r=>?_⟩;refine tT.go S3 r (W6 (zZ.mp a)) λ c A4 d=>?_;cases c with
     |bl k=>
      refine⟨k,rfl,λ n H4 L S4=>?_⟩;obtain⟨C,N⟩:=L.off Z X;have B:=(v.trans (u.trans L).toD);cases k with
      |true=>
       rw[af rfl];refine⟨n,A4,l,e,Y,S4,r.mono L,C,N,m.mono (u.trans L),qm (zZ.mp d) (λ p A5 h5 P H5 σ5 zs l5 n5 S5 U d5 r5=>?_) λ _ _ z=>z⟩;exact⟨P,A5,p.1,p.2,zs,B.trans l5,S5,U,d5,n5,r5,h5⟩
      |false=>
       rw[aj ay];exact⟨n,A4,l,e,Y,B,S4,r.mono L,C,N,m.mono (u.trans L),d⟩
     |non=>cases d|int _=>cases d|str _=>cases d|tup _=>cases d|ref _=>cases d|clo _ _ _=>cases d|xc _=>cases d
theorem gQ.mono {K:Frag}{b:List Addr}{H1:Hp}{j:jf}{J:It}(h:gQ K φ H j J)(l:gR K φ H b H1):gQ K b H1 j J:=
 λ i c d A L=>h i c d A ⟨λ n a e=>L.ex n a (l.ex n a e),λ a vs e=>L.tp a vs (l.tp a vs e),λ a o u e=>L.fz a o u (l.fz a o u e)⟩
inductive MF (K:Frag)(xr:XR)(mq:jw)(σ:St)(H:Hp)(Q:VK):Prop
 |mk (φ:List Addr) (A:Hx) (ρ:En) (S:zN K φ A H) (re:RE K φ H ρ σ) (h:(mq ρ A).post (λ ws A1=>∀φ1 H1 D ys,Le K φ H φ1 H1->zN K φ1 A1 H1->H D=none->H1 D=some (.lst ys)->(∀k:Nat,φ1[k]?≠some D)->zJ K φ1 H1 ws ys->Q (.ref D) H1) (EB K φ H xr))
noncomputable def tF (K:Frag)(x:XR)(m:jw):TE:=λ σ H Q=>MF K x m σ H Q
def SF (X:Cx)(x:XR)(e:Expr)(m:jw):Prop:=PE X e (tF X.K x m)
theorem zV.read {mi:Ei}{tw:Tg}{m:Ev}{em:Em}{nl:Nat}:∀σ H Q,tF X.K xr (zV nl cap mi tw m em) σ H Q->Ke X.K (tI X.K xr mi) (tG X.K tw) (tT X.K ko m) (tE X.K em) nl cap σ H Q:=by
 rintro σ H Q ⟨φ,A,ρ,S,re,h⟩
 refine⟨φ,A,ρ,S,re,qm (zZ.mp h) (λ j A1 u b H1 J l s q D c t=>?_) λ _ _ z=>z⟩;have ln:Le X.K b H1 b (upd H1 D (.lst [])):=Le.new c;have a:=zZ.mp u;refine jc.read (q.mono ⟨ln.ex,ln.tp,ln.fz⟩) (s.lay c) ((re.mono (l.trans ln)).gi) jN (s.notin c t) .nil ?_ (f:=j.len) (acc:=[]);cases e:jc j tw m em j.len 0 (Z8 nl cap ρ) [] A1 with
 |ok p A2=>
  rw[e]at a;intro d y g zs o n w r v i;have L:=l.trans (Le.ofD c o);exact a d y D zs L w (l.st D c) v n i
 |exc x A2=>rw[e]at a;exact a.elim|bad=>rw[e]at a;exact a.elim
noncomputable def qh (q:jw):Ev:=λ ρ A=>(q ρ A).bind λ ws A1=>.ok (.ref A1.length) (A1++[.lst ws])
theorem qh.read {q:jw}{K:Frag}:∀σ H Q,tM K xr (qh q) σ H Q->tF K xr q σ H Q:=by
 rintro σ H Q ⟨φ,A,ρ,S,re,h⟩
 refine⟨φ,A,ρ,S,re,qm (zZ.mp h) (λ ws A1 d b H1 D ys l s h0 c N r=>?_) λ _ _ z=>z⟩;have ll:Le K φ H (b++[D]) H1:=l.track h0;have lw:gR K b H1 (b++[D]) H1:=⟨λ n a h=>by
  have:=(qa2.mp h).1
  rw[ai this];exact h,λ _ _ h=>h,λ _ _ _ h=>h⟩
 refine d _ _ _ ll (s.track (o:=.lst ws) c N ⟨ys,c,r.monoW lw⟩) ⟨D,rfl,?_⟩;rw[<- s.len];simp
inductive MQ (K:Frag)(xr:XR)(mq:jw)(σ:St)(H:Hp)(Q:VK):Prop
 |mk (φ:List Addr) (A:Hx) (ρ:En) (S:zN K φ A H) (re:RE K φ H ρ σ) (h:(mq ρ A).post (λ ws A1=>∀φ1 H1 a ys,Le K φ H φ1 H1->zN K φ1 A1 H1->(qL K H1 a ys∨qi K H1 a ys)->zJ K φ1 H1 ws ys->Q (.ref a) H1) (EB K φ H xr))
noncomputable def tQ (K:Frag)(x:XR)(m:jw):TE:=λ σ H Q=>MQ K x m σ H Q
def SQ (X:Cx)(x:XR)(e:Expr)(m:jw):Prop:=PE X e (tQ X.K x m)
noncomputable def qa (w:W)(A:Hx):Option (List W):=match w with
 |.tup ws=>some ws|.ref n=>match A[n]? with
  |some (.lst ws)=>some ws|some (.ro ws)=>some ws|_=>none
 |_=>none
theorem Yy {K:Frag}{A:Hx}{w:W}{ws:List W}(S:zN K φ A H)(q:RV K φ H w v)(e:qa w A=some ws):∃a ys,v=.ref a/\(qL K H a ys∨qi K H a ys)/\zJ K φ H ws ys:=by
 unfold qa at e;cases w with
 |tup xs=>cases e;obtain⟨a,ys,b,f,E⟩:=q;exact⟨a,ys,b,.inr f,E⟩|ref n=>
  obtain⟨a,b,f⟩:=q;dsimp only at e;cases d:A[n]? with
  |none=>rw[d]at e;cases e|some o=>
   rw[d]at e;obtain⟨g,E,r⟩:=S.ob n o d;rw[f]at E;cases E;cases o with
   |lst xs=>cases e;obtain⟨ys,c,h⟩:=r;exact⟨a,ys,b,.inl (qL.of c),h⟩|ro xs=>cases e;obtain⟨ys,c,h⟩:=r;exact⟨a,ys,b,.inl c.sq,h⟩|dct xs=>cases e|tab _ _=>cases e
 |non=>cases e|bl _=>cases e|clo _ _ _=>cases e|xc _=>cases e|int _=>cases e|str _=>cases e
def qb (m:Ev):jw:=λ ρ A=>(m ρ A).bind λ w A1=>match qa w A1 with
 |some ws=>.ok ws A1|none=>.bad
def Ku (w:W)(A:Hx):Option jf:=match qa w A with
 |some ws=>some ⟨λ A i=>(qa w A).map λ ws=>ws[i]?,ws.length⟩|none=>none
def qF (m:Ev):Ei:=λ ρ A=>(m ρ A).bind λ w A1=>match Ku w A1 with
 |some j=>.ok j A1|none=>.bad
def CL (K:Frag)(t:TE):TI:=λ σ H r=>t σ H λ x H1=>∃a,x=.ref a/\(((∃xs,qL K H1 a xs)/\r (Pj K a) H1)∨((∃xs,qi K H1 a xs)/\r (Pb K a) H1))
theorem F3 {l:Expr}{t:TE}(j:PE X l t):PI X tg l (CL X.K t):=by
 intro pins s σ H n I h;refine zU (j pins s σ H _ I h) λ v s1 ⟨x,H1,i,g,Q⟩=>?_;obtain⟨a,e,q⟩:=Q;subst e;cases g;have f:∀b∈[s1.heap.objs.size],yW X pins H1 b:=λ b m=>by
  have e:b=s1.heap.objs.size:=by simpa using m
  subst e;exact i.fpOk (ar _) (i.hok.fresh (ar _))
 rcases q with ⟨⟨xs,d⟩,q⟩|⟨⟨xs,d⟩,q⟩
 ·obtain⟨c,r,p,z⟩:=i.list d
  refine wpAny_pyIter_list p.isList ?_;exact⟨s1.heap.objs.size,[s1.heap.objs.size],_,_,H1,rfl,i.kept (t':=s1.toks) λ b o e=>ae _ e,Mq a _,⟨_,au _ rfl,rfl,rfl⟩,f,q⟩
 ·obtain⟨c,r,p,z⟩:=i.tuple d
  refine wpAny_pyIter_tuple (show s1.heap.IsTuple a c.toArray from p) ?_
  exact⟨s1.heap.objs.size,[s1.heap.objs.size],_,_,H1,rfl,i.kept (t':=s1.toks) λ b o e=>ae _ e,Nr a _,⟨_,au _ rfl,rfl,rfl⟩,f,q⟩
noncomputable def yV (lo:Int)(n:Nat):jf:=⟨λ _ i=>if i<n then some (some (.int (lo+i))) else some none,n⟩
theorem DE {K:Frag}{lo:Int}:gQ K φ H (yV lo n) (KJ lo n):=λ i a c A lw S=>by
 unfold yV;dsimp only
 by_cases h:i<n
 ·rw[af h]
  refine⟨λ w e=>?_,λ e=>by cases e⟩
  cases e;exact⟨h,λ x H1 ⟨b,E⟩=>by subst b;exact⟨.refl,S,E⟩⟩
 ·rw[aj h]
  exact⟨λ w e=>(by cases e),λ _=>Nat.le_of_not_lt h⟩
noncomputable def jo (i:Int):Bool:=decide (-(2 ^ 62)<=i)&&decide (i<2 ^ 62)
theorem Qw {i:Int}(h:jo i=true):-(2 ^ 62)<=i/\i<2 ^ 62:=by
 unfold jo at h;rw[ao,ag,ag]at h;exact h
def ja (m:Ev):Ei:=λ ρ A=>(m ρ A).bind λ w A1=>match w with
 |.int j=>if jo j then .ok (yV 0 j.toNat) A1 else .bad|_=>.bad
end
abbrev Fn:=List W->Hx->R W
def DI (K:Frag)(x:Str)(C:Value):Prop:=nsIn K mainGlobals x=some (some C)
def XE (K:Frag)(E:XK)(x:Str)(H:Hp):Prop:=∀C d,DI K x C->E C d H
inductive gY (K:Frag)(n:Nat)(f:Fn)(vs:List V)(H:Hp)(Q:VK)(E:XK):Prop
 |mk (len:vs.length=n) (φ:List Addr) (A:Hx) (ws:List W) (S:zN K φ A H) (r:zJ K φ H ws vs) (q:(f ws A).post (PB K φ H Q) (EB K φ H (XE K E)))
theorem gY.len {K:Frag}{f:Fn}{vs:List V}{Q:VK}{E:XK}(h:gY K n f vs H Q E):vs.length=n:=by cases h;assumption
inductive zI (P:Program)(w:World)(K:Frag)(mg:Str->Option Value)(base:Heap)(k:Nat)(x:Str)(n:Nat)(f:Fn):Prop
 |mk (fa:Addr) (fd:FuncData) (ps:List Str) (F:yt P w K mg base k6 k fa fd ps (gY K n f)) (at_:mg x=some (.ref fa)) (kp:keepIn K (.ref fa)=true) (bi:Binds K fd ps [])
noncomputable def zw (f:Fn)(a:Ea):Ev:=λ ρ A=>(a ρ A).bind λ ws A1=>f ws A1
section
variable {m ma:Ev}
def QX (m:Ea)(n:Nat):Prop:=∀ρ A ws a,m ρ A=.ok ws a->ws.length=n
theorem qT:QX zq 0:=λ _ _ _ _ h=>by unfold zq at h;cases h;rfl
theorem zO {m:Ea}(h:QX m n):QX (zh ma m) (n+1):=λ ρ A ws a e=>by
 unfold zh at e;cases h1:ma ρ A with
 |ok x A1=>
  rw[h1,zM]at e;cases H:m ρ A1 with
  |ok xs A2=>rw[H,zM]at e;cases e;simp[h ρ A1 xs _ H]|exc x A2=>rw[H]at e;cases e|bad=>rw[H]at e;cases e
 |exc x A1=>rw[h1]at e;cases e|bad=>rw[h1]at e;cases e
end
noncomputable def qk (n:Nat)(m:Ex):Fn:=λ ws A=>(m (ws.map some++List.replicate (n - ws.length) none) A).nox.bind λ f A1=>match f with
 |.rt w=>.ok w A1|.nx _=>.ok .non A1|_=>.bad
theorem RE.start {K:Frag}{ws:List W}{vs:List V}(h:zJ K φ H ws vs):RE K φ H (ws.map some++List.replicate (N.length - ws.length) none) (L2.start N vs):=by
 unfold L2.start;refine⟨by simp[h.length],λ i w e=>?_⟩
 by_cases a:i<ws.length
 ·rw[ai (by simpa using a),ak]at e
  cases hw:ws[i]? with
  |none=>rw[hw]at e;cases e|some d=>
   rw[hw]at e;cases e;obtain⟨v,c,b⟩:=h.get hw;refine⟨v,?_,b⟩;rw[ai (by rw[ah,<- h.length];exact a),ak,c];rfl
 ·rw[ax (by simpa using a),bo]at e
  split at e<;>cases e
section
variable {K:Frag}
theorem zI.mono {j k:Nat}{f:Fn}(F:zI P w K mg base j x n f)(h:j<=k):zI P w K mg base k x n f:=by cases F with|mk d fd p F a b c=>exact⟨d,fd,p,F.mono h,a,b,c⟩
end
section
variable {K:Frag}
theorem jx {a:α}{A:Hx}:qA (R.ok a A):=λ _ _ h=>by cases h
theorem qN :qA (R.bad:R α):=λ _ _ h=>by cases h
theorem wY {c:Prop} [Decidable c] {a b:R α}(H:qA a)(h:qA b):qA (if c then a else b):=by split<;>assumption
noncomputable def wG (f:Int->Int->W):W->W->Hx->R W
 |.int i,.int j,A=>.ok (f i j) A|_,_,_=>.bad
theorem Zs {f:Int->Int->W}:∀x y A,qA (wG f x y A):=λ x y A=>by
 unfold wG;split
 ·exact jx
 ·exact qN
noncomputable def gU (c:Int->Int->Bool)(f:Int->Int->W):W->W->Hx->R W
 |.int i,.int j,A=>if c i j then .ok (f i j) A else .bad|_,_,_=>.bad
theorem GV {c:Int->Int->Bool}{f:Int->Int->W}:∀x y A,qA (gU c f x y A):=λ x y A=>by
 unfold gU;split
 ·exact wY jx qN
 ·exact qN
theorem Zl {f:Int->Int->W}{g:Int->Int->V}(h:∀i j φ H,RV K φ H (f i j) (g i j)):jv K (wH g) (wG f):=λ φ A H x y u v Q S a q p=>by
 cases u with
 |int i=>cases v with
  |int j=>obtain rfl:=a;obtain rfl:=q;exact⟨i,j,rfl,rfl,p φ H _ .refl S (h i j φ H)⟩|_=>exact p.elim
 |_=>exact p.elim
theorem GN {c:Int->Int->Bool}{C:Int->Int->Prop}{f:Int->Int->W}{g:Int->Int->V}(d:∀i j,c i j=true->C i j)(h:∀i j φ H,RV K φ H (f i j) (g i j)):jv K (rI C g) (gU c f):=λ φ A H x y u v Q S b q p=>by
 cases u with
 |int i=>cases v with
  |int j=>
   obtain rfl:=b;obtain rfl:=q;unfold gU at p;dsimp only at p
   by_cases a:c i j=true
   ·rw[af a]at p;exact⟨i,j,rfl,rfl,d i j a,p φ H _ .refl S (h i j φ H)⟩
   ·rw[aj a]at p;exact p.elim
  |_=>exact p.elim
 |_=>exact p.elim
noncomputable def ZA (i j:Int):Bool:=(decide (-(2 ^ 64)<i)&&decide (i<2 ^ 64)) || (decide (-(2 ^ 64)<j)&&decide (j<2 ^ 64))
noncomputable def KH (_ j:Int):Bool:=decide (0<j)
theorem Hh (i j:Int)(h:ZA i j=true):J1 i j:=by
 unfold ZA at h;simp only[bt,ao,decide_eq_true_eq]at h;exact h
theorem HU (i j:Int)(h:KH i j=true):(λ _ j=>0<j) i j:=by
 unfold KH at h;simpa using h
def jt:=wG λ i j=>.int (i - j)
def yS:=gU KH λ i j=>.int (i % j)
def Xg:=wG λ i j=>.int (Builtin.bitXor i j)
def ZD:=wG λ i j=>.bl (decide (i<j))
def gk:=wG λ i j=>.bl (decide (i<=j))
def Xs:=wG λ i j=>.bl (decide (j<i))
def Xp:=wG λ i j=>.bl (decide (j<=i))
noncomputable def Xl (i j:Int):Bool:=decide (0<=j)&&decide (j<=1000000)&&decide (i.natAbs<2 ^ 64)
theorem Hy (i j:Int)(h:Xl i j=true):R0 i j:=by
 unfold Xl at h;simp only[ao,decide_eq_true_eq]at h;exact⟨h.1.1,h.1.2,h.2⟩
def QY:=gU Xl λ i j=>.int (i ^ j.toNat)
variable {a b c:Expr}
structure yT (X:Cx)(op:CmpOp)(g:W->W->Hx->R W):Prop where
 ex:∃r:R2,qu X (compareOp op) r/\(∀x y A,qA (g x y A))/\jv X.K r g
 mks:∀b,op≠.In->op≠.NotIn->behindInMarks op b=false
theorem Zm {r:R2}{g:W->W->Hx->R W}(a:qu X (compareOp op) r)(H:∀x y A,qA (g x y A))(h:jv X.K r g):yT X op g:=⟨⟨r,a,H,h⟩,λ b a1 a2=>IA b a1 a2⟩
theorem Xm:yT X .Lt ZD:=Zm DG Zs (Zl λ _ _ _ _=>rfl)
theorem KI:yT X .LtE gk:=Zm Cg Zs (Zl λ _ _ _ _=>rfl)
theorem CS:yT X .Gt Xs:=Zm Cr Zs (Zl λ _ _ _ _=>rfl)
theorem CZ:yT X .GtE Xp:=Zm Cv Zs (Zl λ _ _ _ _=>rfl)
end
inductive Ty where
 |non|bl|int|str|tup|lst|dct
 deriving DecidableEq
noncomputable def Ty.nm:Ty->String
 |.non => "NoneType" | .bl => "bool" | .int => "int" | .str => "str" | .tup => "tuple" | .lst => "list" | .dct => "dict"
noncomputable def gW (w:W)(A:Hx):Option Ty:=match w with
 |.non=>some .non|.bl _=>some .bl|.int _=>some .int|.str _=>some .str|.tup _=>some .tup|.ref n=>match A[n]? with
  |some (.lst _)=>some .lst|some (.dct _)=>some .dct|_=>none
 |_=>none
noncomputable def Zy (a b:Ty):Bool:=a==b || (a==.bl&&b==.int)
theorem TJ {K:Frag}(a b:Ty):kitOne K (.type a.nm) (.type b.nm)=some (Zy a b):=by
 cases a<;>cases b<;>rfl
section
variable {xr:XR}{K:Frag}{a c:Expr}{es:List Expr}{m:Ev}
def KU (K:Frag)(H:Hp)(x:V)(t:Ty):Prop:=kG K H x (.type t.nm)∨∃a xs,x=.ref a/\qi K H a xs/\t=.tup
theorem Ih {A:Hx}{w:W}{t:Ty}(S:zN K φ A H)(q:RV K φ H w v)(e:gW w A=some t):KU K H v t:=by
 cases w with
 |non=>cases e;obtain rfl:=q;exact .inl .non|bl k=>cases e;obtain rfl:=q;exact .inl (.bl k)|clo _ _ _=>cases e|xc _=>cases e|int k=>cases e;obtain rfl:=q;exact .inl (.int k)|str k=>cases e;obtain rfl:=q;exact .inl (.str k)|tup ws=>cases e;obtain⟨a,vs,rfl,h,_⟩:=q;exact .inr ⟨a,vs,rfl,h,rfl⟩|ref n=>
  obtain⟨a,rfl,c⟩:=q;unfold gW at e;dsimp only at e;cases E:A[n]? with
  |none=>rw[E]at e;cases e|some o=>
   rw[E]at e;obtain⟨d,b,r⟩:=S.ob n o E;rw[c]at b;cases b;cases o with
   |lst ws=>cases e;obtain⟨vs,z,_⟩:=r;exact .inl (.lst z)|dct ws=>cases e;obtain⟨vs,z,_⟩:=r;exact .inl (.dK z)|tab _ _=>cases e|ro ws=>cases e
theorem KU.kit {x:V}{t:Ty}(I:Inv X pins σ H s)(r:RelV x u)(h:KU X.K H x t):
  (∀{Q:Value->Shared->Prop}{E:Value->Shared->Prop}{A:Around}{c:Ty},(∀tk,Q (.bool (Zy t c)) { s with toks:=tk })->wpAny (model X.prog X.w) A (call (.builtin "isinstance") [u,.type c.nm]) Q E s):=by
 intro Q E A c q;rcases h with h|⟨a,xs,rfl,h,rfl⟩
 ·exact MO I r h (TJ t c) q
 ·cases (show u=Value.ref a from r)
  obtain⟨i,_,⟨o,d,b,_⟩,_⟩:=I.tuple h;exact bx kitx_tuple I.kIn ⟨o,d,b⟩ (TJ .tup c) (λ z=>nomatch z) q
def Bh (K:Frag):List V->Hp->VK->Prop:=λ xs H Q=>∃x t c,xs=[x,.ty (Ty.nm c)]/\KU K H x t/\Q (.bl (Zy t c)) H
theorem HF:jK X (.builtin "isinstance") (Bh X.K):=by
 intro pins s σ H xs us Q I r h;obtain⟨x,t,c,rfl,d,q⟩:=h;obtain⟨u,U,rfl,b,a⟩:=vals2 r;cases (show U=Value.type c.nm from a)
 exact d.kit I b λ tk=>⟨.bl (Zy t c),H,I.tok tk,rfl,q⟩
def Qi (t:Ty)(m:Ev):Ev:=λ ρ A=>(m ρ A).bind λ w A1=>match gW w A1 with
 |some t'=>.ok (.bl (Zy t' t)) A1|none=>.bad
def zG:W->W->Hx->R W:=λ x y A=>match qa x A,y with
 |some ws,.int i=>match kx ws i with
  |some w=>.ok w A|none=>.bad
 |_,_=>.bad
theorem DK:∀x y A,qA (zG x y A):=λ x y A=>by
 unfold zG;split
 ·split
  ·exact jx
  ·exact qN
 ·exact qN
theorem IK {ws:List W}{i:Int}{w:W}(r:zJ K φ H ws ys)(e:kx ws i=some w):∃y,kx ys i=some y/\RV K φ H w y:=by
 unfold kx at e ⊢;rw[<- r.length];cases h:k7 ws.length i with
 |none=>rw[h]at e;cases e|some j=>
  rw[h]at e;obtain⟨y,b,a⟩:=r.get (i:=j) e;exact⟨y,b,a⟩
theorem E4:jv K (Pc K) zG:=λ φ A H x y u v Q S c q p=>by
 unfold zG at p;cases es:qa u A with
 |none=>rw[es]at p;exact p.elim|some ws=>
  rw[es]at p;cases v with
  |int i=>
   obtain rfl:=q;dsimp only at p;cases e:kx ws i with
   |none=>rw[e]at p;exact p.elim|some w=>
    rw[e]at p;obtain⟨a,ys,rfl,z,r⟩:=Yy S c es;obtain⟨Y,b,h⟩:=IK r e;rcases z with z|z
    ·exact .inl ⟨a,ys,i,Y,rfl,rfl,z,b,p φ H _ .refl S h⟩
    ·exact .inr (.inl ⟨a,ys,i,Y,rfl,rfl,z,b,p φ H _ .refl S h⟩)
  |non=>exact p.elim|bl _=>exact p.elim|str _=>exact p.elim|tup _=>exact p.elim|ref _=>exact p.elim|clo _ _ _=>exact p.elim|xc _=>exact p.elim
def ZE (K:Frag)(r:List V->Hp->VK->Prop)(g:List W->Hx->R W):Prop:=∀φ A H a ys ws Q,zN K φ A H->(qL K H a ys∨qi K H a ys)->zJ K φ H ws ys->(g ws A).post (PB K φ H Q) wL->r [.ref a] H Q
noncomputable def mQ (g:List W->Hx->R W)(q:jw):Ev:=λ ρ A=>(q ρ A).bind λ ws A1=>g ws A1
theorem mQ.read {g:List W->Hx->R W}{q:jw}(hn:∀ws A,qA (g ws A))(c:ZE X.K r g):∀σ H Q,tM X.K xr (mQ g q) σ H Q->XB r (Rx (tQ X.K xr q) RW) σ H Q:=by
 rintro σ H Q ⟨φ,A,ρ,S,re,h⟩
 refine⟨φ,A,ρ,S,re,qm (zZ.mp h) (λ ws A1 d b H1 a ys l s z r=>?_) λ _ _ z=>z⟩;exact c b A1 H1 a ys ws Q s z r (qm (QA (hn _ _) d) (λ _ _ z=>z.mono l) λ _ _ z=>z)
theorem Kj {id:String}{g:List W->Hx->R W}{q:jw}(d:jK X (.builtin id) r)(hn:∀ws A,qA (g ws A))(a:ZE X.K r g)(hm:X.mg x=none)(v:bootBuiltins x=some (.builtin id))(f:SQ X xr e q)(c:Gl X x:=by rfl)
  (H:x ≠ "__name__" := by decide)(b:(x==("__debug__" : Str))=false:=by decide)(he:starEach [e] X.env=(false,eval e X.env)::starEach [] X.env:=by rfl)(h:(backTo pos (starEach [] X.env)).any (·.1)=false:=by rfl):
  SE X xr (.Call (.Name x p) [e] [] pos) (mQ g q):=PE.imp (Jy d c hm v (jA f j3 he) H b he h) (mQ.read hn a)
theorem DR {id:String}{g:List W->Hx->R W}{q:jw}(d:jK X (.type id) r)(hn:∀ws A,qA (g ws A))(a:ZE X.K r g)(hm:X.mg x=none)(v:bootBuiltins x=some (.type id))(f:SQ X xr e q)(c:Gl X x:=by rfl)
  (H:x ≠ "__name__" := by decide)(b:(x==("__debug__" : Str))=false:=by decide)(he:starEach [e] X.env=(false,eval e X.env)::starEach [] X.env:=by rfl)(h:(backTo pos (starEach [] X.env)).any (·.1)=false:=by rfl):
  SE X xr (.Call (.Name x p) [e] [] pos) (mQ g q):=PE.imp (Qy d c hm v (jA f j3 he) H b he h) (mQ.read hn a)
noncomputable def qK:List W->Hx->R W:=λ ws A=>.ok (.int ws.length) A
theorem FV:ZE K (λ xs H Q=>∃p ys,xs=[.ref p]/\(qL K H p ys∨qi K H p ys)/\Q (.int ys.length) H) qK:=λ φ A H a ys ws Q S z r p=>
 ⟨a,ys,rfl,z,by rw[<- r.length];exact p φ H _ .refl S rfl⟩
noncomputable def jR:List W->Hx->R W:=λ ws A=>.ok (.tup ws) A
theorem Hz:ZE K (λ xs H Q=>∃p ys,xs=[.ref p]/\((qL K H p ys/\∀l,H l=none->Q (.ref l) (upd H l (.tup ys)))∨(qi K H p ys/\Q (.ref p) H))) jR:=λ φ A H a ys ws Q S z r p=>by
 refine⟨a,ys,rfl,?_⟩;rcases z with z|z
 ·refine .inl ⟨z,λ l h=>?_⟩
  obtain⟨a1,a2,b⟩:=Zj S h r;exact p _ _ _ a1 a2 b
 ·exact .inr ⟨z,p φ H _ .refl S ⟨a,ys,rfl,z,r⟩⟩
variable {b:Expr}
theorem Ge {a:Addr}(I:Inv X pins σ H s)(l:X.calm=true)(z:qL X.K H a ys∨qi X.K H a ys)
  (h:∀(c:List Value)(j:Addr)(fp wr:List Addr)(S:Nat->Heap->Prop)(s2:Shared),Vals ys c->ys.length<=sizeLine->Walks X.prog X.w X.A.in1 j fp wr c.length (λ i v=>c[i]? =some v) S->S 0 s2.heap->(∀b∈fp,b<s2.heap.objs.size)->
   (∀(h':Heap)(tk:Nat),(∀b o,b∉wr->s2.heap.get? b=some o->h'.get? b=some o)->Inv X pins σ H { s2 with heap:=h',toks:=tk })->Q (.ref j) s2):
  wpAny (model X.prog X.w) X.A.in1 (pyIter (.ref a)) Q E s:=by
 have g:X.A.in1.handled=none:=I.ok.hd l;have keep:∀(o:Obj)(h':Heap)(tk:Nat),(∀b u,b∉[s.heap.objs.size]->(s.heap.push o).get? b=some u->h'.get? b=some u)->Inv X pins σ H { s with heap:=h',toks:=tk }:=λ o h' tk k=>I.kept λ b u e=>k b u (by
  intro hm;have m:b=s.heap.objs.size:=by simpa using hm
  exact absurd (m ▸ aH e) (aZ _)) (ae _ e)
 rcases z with z|z
 ·obtain⟨c,r,p,f⟩:=I.list z
  have t:a<s.heap.objs.size:=by obtain⟨o,n,e,_⟩:=p;exact aH e
  refine wpAny_pyIter_list p.isList ?_;have W:=Walks.list (prog:=X.prog) (w:=X.w) g s.heap.objs.size a (aM t) c.toArray;rw[aB]at W;simp only[List.getElem?_toArray]at W;refine h c s.heap.objs.size _ _ _ _ r f W ⟨⟨_,au _ rfl,rfl,rfl⟩,p.isList.at λ o e=>ae _ e⟩ (λ b d=>?_) λ h' tk k=>keep _ h' tk k;show b<(s.heap.push _).objs.size;rw[ba];rcases qa3.mp d with e|d
  ·rw[e];exact bg _
  ·have e:b=a:=by simpa using d
   rw[e];exact a6 t
 ·obtain⟨c,r,p,f⟩:=I.tuple z
  have t:a<s.heap.objs.size:=p.lt;have P:s.heap.IsTuple a c.toArray:=p;refine wpAny_pyIter_tuple P ?_;have W:=Walks.tuple (prog:=X.prog) (w:=X.w) g s.heap.objs.size a (aM t) c.toArray;rw[aB]at W;simp only[List.getElem?_toArray]at W;refine h c s.heap.objs.size _ _ _ _ r f W ⟨⟨_,au _ rfl,rfl,rfl⟩,P.at λ o e=>ae _ e⟩ (λ b d=>?_) λ h' tk k=>keep _ h' tk k;show b<(s.heap.push _).objs.size;rw[ba];rcases qa3.mp d with e|d
  ·rw[e];exact bg _
  ·have e:b=a:=by simpa using d
   rw[e];exact a6 t
noncomputable def JW:V->Option Bool
 |.bl b=>some b|.int i=>some (i != 0)|.non=>some false|_=>none
noncomputable def JX:W->Option Bool
 |.bl b=>some b|.int i=>some (i != 0)|.non=>some false|_=>none
theorem Ie {w:W}{k:Bool}(q:RV K φ H w v)(e:JX w=some k):JW v=some k:=by
 cases w<;>first
  |(cases e;done)
  |(obtain rfl:=q;exact e)
theorem M1 {A:Around}{k:Bool}{Q:Bool->Shared->Prop}(r:RelV v u)(e:JW v=some k)(h:Q k s):wpAny (model X.prog X.w) A (truthy u) Q E s:=by
 cases v with
 |bl b=>cases e;cases r;exact wpAny_truthy_bool h|int i=>
  cases e;obtain⟨t,rfl⟩:=r;exact PySem.P.truthy_int h
 |non=>cases e;cases r;exactλ _ _ _=>h|_=>cases e
def wA:List W->Option (List Bool)
 |[]=>some []|w::ws=>match JX w,wA ws with
  |some k,some K=>some (k::K)|_,_=>none
theorem V5 :∀{ws:List W}{ys:List V}{s:List Bool},zJ K φ H ws ys->wA ws=some s->∀(i:Nat)(y:V),ys[i]? =some y->∃k,s[i]? =some k/\JW y=some k
 |[],_,_,r,e,i,y,h=>by cases r;simp at h|w::ws,_,s,⟨v,r,g,q,t⟩,e,i,y,h=>by
  subst g;unfold wA at e;cases E:JX w with
  |none=>rw[E]at e;cases e|some k=>
   cases a:wA ws with
   |none=>rw[E,a]at e;cases e|some b=>
    rw[E,a]at e;cases e;cases i with
    |zero=>simp at h;subst h;exact⟨k,by simp,Ie q E⟩|succ i=>simp at h;obtain⟨c,f,d⟩:=V5 t a i y h;exact⟨c,by simpa using f,d⟩
theorem Ug:∀{ws:List W}{K:List Bool},wA ws=some K->K.length=ws.length
 |[],_,e=>by cases e;rfl|w::ws,K,e=>by
  unfold wA at e;cases a:JX w with
  |none=>rw[a]at e;cases e|some k=>
   cases E:wA ws with
   |none=>rw[a,E]at e;cases e|some b=>rw[a,E]at e;cases e;simp[Ug E]
theorem range_all (K:List Bool):(List.range K.length).all (λ i=>K.getD i false)=K.all id:=by
 rw[Bool.eq_iff_iff,bp,bp]
 constructor
 ·intro h x b
  obtain⟨i,a,rfl⟩:=bD b
  have:=h i (qa5.mpr a)
  rw[aa,ab a]at this;exact this
 ·intro h i a
  have H:=qa5.mp a;rw[aa,ab H];exact h _ (aT H)
def R3 (K:Frag)(f:List Bool->Bool):List V->Hp->VK->Prop:=λ xs H Q=>∃a ys s,xs=[.ref a]/\(qL K H a ys∨qi K H a ys)/\s.length=ys.length/\(∀(i:Nat)(y:V),ys[i]? =some y->∃k,s[i]? =some k/\JW y=some k)/\Q (.bl (f s)) H
theorem ID {K:List Bool}{A:Around}(r:Vals ys its)(l:K.length=ys.length)(t:∀(i:Nat)(y:V),ys[i]? =some y->∃k,K[i]? =some k/\JW y=some k):TruthOf X.prog X.w A (λ i v=>its[i]? =some v) λ i=>K.getD i false:=by
 intro i v s Q E P H;have b:i<its.length:=(qa2.mp P).1;have h:i<ys.length:=by rw[r.length];exact b
 obtain⟨u,a,e⟩:=r.get (i:=i) (x:=ys[i]) (by simp[h])
 rw[P]at a;cases a;obtain⟨k,d,c⟩:=t i ys[i] (by simp[h])
 dsimp only at H;rw[aa,d]at H;exact M1 e c H
theorem Lw (f:X.calm=true):jK X (.builtin "all") (R3 X.K λ b=>b.all id):=by
 intro pins s σ H xs us Q I r h;obtain⟨a,ys,b,rfl,z,l,t,q⟩:=h;obtain⟨u,rfl,d⟩:=vals1 r;cases d;refine call_all_walk (Ge I f z λ c g fp wr S s2 v j W st p back=>?_);refine⟨g,fp,wr,_,_,S,λ i=>b.getD i false,rfl,W,st,ID v l t,λ h' tk k=>?_⟩;have e:c.length=b.length:=by rw[l,v.length]
 rw[e,range_all];exact⟨.bl _,H,back h' tk k,rfl,q⟩
def Qf (f:List Bool->Bool):List W->Hx->R W:=λ ws A=>match wA ws with
 |some K=>.ok (.bl (f K)) A|none=>.bad
theorem EF {f:List Bool->Bool}:∀ws A,qA (Qf f ws A):=λ ws A=>by
 unfold Qf;split
 ·exact jx
 ·exact qN
theorem Hc {f:List Bool->Bool}:ZE K (R3 K f) (Qf f):=λ φ A H a ys ws Q S z r p=>by
 unfold Qf at p;cases e:wA ws with
 |none=>rw[e]at p;exact p.elim|some s=>
  rw[e]at p;exact⟨a,ys,s,rfl,z,by rw[Ug e,r.length],V5 r e,p φ H _ .refl S rfl⟩
abbrev Q3:=Qf λ K=>K.all id
theorem El:qu X (compareOp .Is) (λ x y H Q=>∃i j,x=.bl i/\y=.bl j/\Q (.bl (i==j)) H):=by
 intro pins s σ H x y v u Q I a r h;obtain⟨i,j,rfl,rfl,q⟩:=h;cases a;cases r;exact is_bool ⟨.bl _,H,I,rfl,q⟩
theorem M8:qu X (compareOp .IsNot) (λ x y H Q=>∃i j,x=.bl i/\y=.bl j/\Q (.bl (!(i==j))) H):=by
 intro pins s σ H x y v u Q I a r h;obtain⟨i,j,rfl,rfl,q⟩:=h;cases a;cases r;exact isnot_bool ⟨.bl _,H,I,rfl,q⟩
noncomputable def QT:W->Bool
 |.non=>true|_=>false
theorem Ui {w:W}(q:RV K φ H w v):decide (v=.non)=QT w:=by
 cases w with
 |non=>obtain rfl:=q;rfl|bl b=>obtain rfl:=q;rfl|clo _ _ _=>obtain⟨a,_,_,_,_,_,_,rfl,_⟩:=q;rfl|xc _=>obtain⟨a,_,_,_,rfl,_⟩:=q;rfl|int b=>obtain rfl:=q;rfl|str b=>obtain rfl:=q;rfl|tup ws=>obtain⟨a,vs,rfl,_⟩:=q;rfl|ref n=>obtain⟨a,rfl,_⟩:=q;rfl
def jL (neg:Bool):W->W->Hx->R W:=λ x y A=>match x,y with
 |.bl i,.bl j=>.ok (.bl (if neg then !(i==j) else i==j)) A|w,.non=>.ok (.bl (if neg then !QT w else QT w)) A|_,_=>.bad
theorem Rq {n:Bool}:∀x y A,qA (jL n x y A):=λ x y A=>by
 unfold jL;split
 ·exact jx
 ·exact jx
 ·exact qN
theorem E5:jv K (λ x y H Q=>(y=.non/\Q (.bl (decide (x=.non))) H)∨∃i j,x=.bl i/\y=.bl j/\Q (.bl (i==j)) H) (jL false):=λ φ A H x y u v Q S b a p=>by
 cases v with
 |non=>
  have q:y=.non:=a;refine .inl ⟨q,?_⟩;rw[Ui b];cases u<;>exact p φ H _ .refl S rfl
 |bl j=>
  cases u with
  |bl i=>obtain rfl:=b;obtain rfl:=a;exact .inr ⟨i,j,rfl,rfl,p φ H _ .refl S rfl⟩|_=>exact p.elim
 |_=>cases u<;>exact p.elim
theorem N3:jv K (λ x y H Q=>(y=.non/\Q (.bl (!decide (x=.non))) H)∨∃i j,x=.bl i/\y=.bl j/\Q (.bl (!(i==j))) H) (jL true):=λ φ A H x y u v Q S b a p=>by
 cases v with
 |non=>
  have q:y=.non:=a;refine .inl ⟨q,?_⟩;rw[Ui b];cases u<;>exact p φ H _ .refl S rfl
 |bl j=>
  cases u with
  |bl i=>obtain rfl:=b;obtain rfl:=a;exact .inr ⟨i,j,rfl,rfl,p φ H _ .refl S rfl⟩|_=>exact p.elim
 |_=>cases u<;>exact p.elim
theorem RS:yT X .Is (jL false):=Zm (Df.or El) Rq E5
theorem ZX:yT X .IsNot (jL true):=Zm (HW.or M8) Rq N3
end
noncomputable def R4 (outer sc:Scope):Bool:=sc.kind==.function&&decide ((sc.names.map (·.1)).Nodup)&&sc.names.all λ y=>y.2 != .free || (outer.names.lookup y.1==some .cell || outer.names.lookup y.1==some .free)
theorem cps (h:R4 X.env.scope sc=true):wW X sc:=by
 unfold R4 at h;rw[ao,ao,ag,aU,bp]at h;refine⟨h.1.1,h.1.2,λ y H e=>?_⟩
 have:=h.2 y H
 rw[e]at this;simp only[bne_self_eq_false,Bool.false_or,bt,aU]at this;exact this
section
variable {xr:XR}{K:Frag}{a b:Expr}{ma mb:Ev}
theorem zN.lst {φ:List Addr}{A:Hx}{H:Hp}{n:Nat}{ws:List W}{v:V}(S:zN K φ A H)(q:RV K φ H (.ref n) v)(e:A[n]? =some (.lst ws)):∃p vs,v=.ref p/\φ[n]? =some p/\H p=some (.lst vs)/\zJ K φ H ws vs:=by
 obtain⟨p,rfl,a⟩:=q;obtain⟨P,h,vs,c,b⟩:=S.ob n _ e;rw[a]at h;cases h;exact⟨p,vs,rfl,a,c,b⟩
theorem LN {prog:Program}{A:Around}{t b:Addr}{ws:List Value}(a:IsTup s.heap t ([]:List Value).toArray)(e:IsTup s.heap b ws.toArray)(h0:Q (.ref b) s):
  wpAny (model prog w) A (binaryOp .Add (.ref t) (.ref b)) Q E s:=by
 obtain⟨⟨cls,D,data,l⟩,o,c,n,hd⟩:=id a;obtain⟨⟨C,d,data2,S⟩,h,H,N,hd2⟩:=id e;simp only at c hd H hd2;subst c hd H hd2;exact concat_meets ⟨_,o,rfl⟩ ⟨_,h,rfl⟩ noFill_tuple_add seq_tuple_add slot_tuple_add entry_tuple_add (args_tuple_add_2 _ _)
   (tuple_addW0 t b ([]:List Value).toArray ws.toArray n N D d l S (by simp)) ⟨o,h,h0⟩
noncomputable def S7 (K:Frag):R2:=λ x y H Q=>∃a b ys,x=.ref a/\y=.ref b/\qi K H a []/\qi K H b ys/\Q (.ref b) H
theorem Iw:qu X (binaryOp .Add) (S7 X.K):=by
 intro pins s σ H x y v u Q I c r h;obtain⟨a,b,ys,rfl,rfl,g,f,q⟩:=h;cases c;cases r;obtain⟨e,d,P,_⟩:=I.tuple g;obtain⟨i,j,p,_⟩:=I.tuple f;cases d;exact LN P p ⟨.ref b,H,I,rfl,q⟩
def qE:W->W->Hx->R W:=λ x y A=>match x,y with
 |.int i,.int j=>.ok (.int (i+j)) A|.tup xs,.tup ys=>if xs.length+ys.length<=zX then .ok (.tup (xs++ys)) A else .bad|.ref n,.ref k=>match A[n]?,A[k]? with
  |some (.lst xs),some (.lst ys)=>if xs.length+ys.length<=zX then .ok (.ref A.length) (A++[.lst (xs++ys)]) else .bad|_,_=>.bad
 |_,_=>.bad
theorem De:∀x y A,qA (qE x y A):=λ x y A=>by
 unfold qE
 split
 ·exact jx
 ·exact wY jx qN
 ·split
  ·exact wY jx qN
  ·exact qN
 ·exact qN
theorem gz (h:n<=zX):n<=sizeLine:=by
 have:sizeLine=16777216:=sizeLine_eq
 unfold zX at h;omega
theorem Fh:jv K (λ x y H Q=>wH (λ i j=>.int (i+j)) x y H Q∨RM K x y H Q∨S7 K x y H Q∨RU x y H Q) qE:=λ φ A H x y u v Q S f q p=>by
 cases u with
 |int i=>cases v with
  |int j=>obtain rfl:=f;obtain rfl:=q;exact .inl ⟨i,j,rfl,rfl,p φ H _ .refl S rfl⟩|_=>exact p.elim
 |tup xs=>cases v with
  |tup ys=>
   obtain⟨a1,b,rfl,t1,c⟩:=f;obtain⟨a2,a,rfl,t,r⟩:=q;unfold qE at p;dsimp only at p
   by_cases h:xs.length+ys.length<=zX
   ·rw[af h]at p
    by_cases s:b=[]
    ·subst s
     have e0:xs=[]:=by
      have:=c.length
      simpa using this
     subst e0;exact .inr (.inr (.inl ⟨a1,a2,a,rfl,rfl,t1,t,p φ H _ .refl S ⟨a2,a,rfl,t,r⟩⟩))
    ·refine .inr (.inl ⟨a1,a2,b,a,rfl,rfl,t1,t,s,by rw[<- c.length,<- r.length];exact gz h,λ e=>?_,λ ne l g=>?_⟩)
     ·subst e
      have e0:ys=[]:=by
       have:=r.length
       simpa using this
      subst e0;rw[append_nil]at p;exact p φ H _ .refl S ⟨a1,b,rfl,t1,c⟩
     ·obtain⟨o,m,B⟩:=Zj S g (c.append r)
      exact p _ _ _ o m B
   ·rw[aj h]at p;exact p.elim
  |_=>exact p.elim
 |ref n=>cases v with
  |ref k=>
   unfold qE at p;dsimp only at p;cases E:A[n]? with
   |none=>rw[E]at p;exact p.elim|some C=>cases C with
    |lst xs=>
     cases d:A[k]? with
     |none=>rw[E,d]at p;exact p.elim|some z=>cases z with
      |lst ys=>
       rw[E,d]at p;dsimp only at p;obtain⟨w,v1,rfl,f1,g1,c⟩:=S.lst f E;obtain⟨P,v2,rfl,f2,g2,r⟩:=S.lst q d
       by_cases h:xs.length+ys.length<=zX
       ·rw[af h]at p
        refine .inr (.inr (.inr ⟨w,P,v1,v2,rfl,rfl,g1,g2,by rw[<- c.length,<- r.length];exact gz h,λ l g=>?_⟩))
        obtain⟨o,m,B⟩:=Z1 S g (c.append r);exact p _ _ _ o m B
       ·rw[aj h]at p;exact p.elim
      |_=>rw[E,d]at p;exact p.elim
    |_=>rw[E]at p;exact p.elim
  |_=>exact p.elim
 |_=>cases v<;>exact p.elim
def qd:W->W->Hx->R W:=λ x y A=>match x,y with
 |.int i,.int j=>if ZA i j then .ok (.int (i * j)) A else .bad|.ref n,.int k=>match A[n]? with
  |some (.lst xs)=>if jo k&&decide (xs.length * k.toNat<=zX) then .ok (.ref A.length) (A++[.lst (List.replicate k.toNat xs).flatten]) else .bad|_=>.bad
 |_,_=>.bad
theorem EG:∀x y A,qA (qd x y A):=λ x y A=>by
 unfold qd
 split
 ·exact wY jx qN
 ·split
  ·exact wY jx qN
  ·exact qN
 ·exact qN
theorem zJ.rep {ws:List W}{vs:List V}(r:zJ K φ H ws vs):∀n:Nat,zJ K φ H (List.replicate n ws).flatten (List.replicate n vs).flatten
 |0=>.nil|n+1=>by rw[a7,a7,aS,aS];exact r.append (zJ.rep r n)
theorem Fs:jv K (λ x y H Q=>rI J1 (λ i j=>.int (i * j)) x y H Q∨RY x y H Q) qd:=λ φ A H x y u v Q S a q p=>by
 cases v with
 |int j=>cases u with
  |int i=>
   obtain rfl:=a;obtain rfl:=q;unfold qd at p;dsimp only at p
   by_cases c:ZA i j=true
   ·rw[af c]at p;exact .inl ⟨i,j,rfl,rfl,Hh i j c,p φ H _ .refl S rfl⟩
   ·rw[aj c]at p;exact p.elim
  |ref n=>
   obtain rfl:=q;unfold qd at p;dsimp only at p;cases e:A[n]? with
   |none=>rw[e]at p;exact p.elim|some o=>cases o with
    |lst xs=>
     rw[e]at p;dsimp only at p;obtain⟨P,v1,rfl,f1,g1,r⟩:=S.lst a e
     by_cases h:(jo j&&decide (xs.length * j.toNat<=zX))=true
     ·rw[af h]at p
      rw[ao,ag]at h;obtain⟨g,B⟩:=Qw h.1;refine .inr ⟨P,j,v1,rfl,rfl,g1,by omega,by omega,by rw[<- r.length];exact gz h.2,λ l b=>?_⟩
      obtain⟨f,d,C⟩:=Z1 S b (r.rep j.toNat);exact p _ _ _ f d C
     ·rw[aj h]at p;exact p.elim
    |_=>rw[e]at p;exact p.elim
  |_=>exact p.elim
 |_=>cases u<;>exact p.elim
def wj:W->W->Hx->R W:=λ x y A=>match x with
 |.ref n=>match A[n]? with
  |some (.lst ws)=>if ws.length<zX then .ok .non (A.set n (.lst (ws++[y]))) else .bad|_=>.bad
 |_=>.bad
noncomputable def Q6 (x:W)(A:Hx):Bool:=match x with
 |.ref n=>match A[n]? with
  |some (.lst _)=>true|_=>false
 |_=>false
theorem LX {A:Hx}{w:W}(S:zN K φ A H)(q:RV K φ H w v)(e:Q6 w A=true):KN K "list" v H:=by
 unfold Q6 at e;cases w with
 |ref n=>
  dsimp only at e;cases E:A[n]? with
  |none=>rw[E]at e;cases e|some o=>cases o with
   |lst ws=>obtain⟨p,vs,rfl,_,h,_⟩:=S.lst q E;exact .inl ⟨rfl,_,qL.of h⟩|_=>rw[E]at e;cases e
 |_=>cases e
def yR (g:W->W->Hx->R W)(a b:Ev):Ev:=λ ρ A=>(a ρ A).bind λ x A1=>if Q6 x A1 then(b ρ A1).bind λ y A2=>g x y A2 else .bad
theorem G5 {nm:Str}{id:String}{r:V->List V->Hp->VK->Prop}{g:W->W->Hx->R W}(slot:Slot "list" nm id)(j:typeOf (.builtin id)=pure (.type "method_descriptor"))(hm:J7 X id r)(hn:∀x y A,qA (g x y A))
  (C:∀φ A H x y u v Q,zN X.K φ A H->RV X.K φ H u x->RV X.K φ H v y->(g u v A).post (PB X.K φ H Q) wL->r x [y] H Q)(B:SE X xr a ma)(he:SE X xr b mb)
  (s:starEach [b] X.env=(false,eval b X.env)::starEach [] X.env)(c:attributeBase a nm X.env (eval a X.env)=eval a X.env)
  (d:((backTo cpos (starEach [b] X.env)).all (λ x=>!x.1)&&(backToKw cpos (keywordEach [] X.env)).all (λ x=>x.1.isSome)
   && decide ([b].length+([]:List Keyword).length+(if ([]:List Keyword).isEmpty then 0 else 1)<30))=true)(e:(apos.endLine==cpos.line)=true):
  SE X xr (.Call (.Attribute a nm apos) [b] [] cpos) (yR g ma mb):=
 PE.imp (RH PySem.F.plainAttrs_list slot j hm B (jA he j3 s) c d e s (by rfl)) λ σ H Q ⟨φ,A,ρ,S,re,h⟩=>by
  refine tM.go S re (zZ.mp h) λ w A1 o H1 v f l n q=>?_
  by_cases m:Q6 w A1=true
  ·rw[af m]at f
   refine⟨LX n q m,?_⟩;refine tM.go n (re.mono l) (qm (zZ.mp f) (λ _ _ z=>z) λ _ _ z=>z.mono l) λ p A2 i I v2 D L E t=>?_;exact C i A2 I v v2 w p Q E (q.mono L) t (qm (QA (hn _ _ _) D) (λ _ _ z=>z.mono (l.trans L)) λ _ _ z=>z)
  ·rw[aj m]at f;exact f.elim
theorem Lg:∀x y A,qA (wj x y A):=λ x y A=>by
 unfold wj
 split
 ·split
  ·exact wY jx qN
  ·exact qN
 ·exact qN
def w6:W->W->Hx->R W:=λ x y A=>match x,y with
 |.ref n,.int i=>match A[n]? with
  |some (.lst ws)=>match (if jo i then seqIndex? i ws.length else none) with
   |some k=>match ws[k]? with
    |some w=>.ok w (A.set n (.lst (ws.eraseIdx k)))|none=>.bad
   |none=>.bad
  |_=>.bad
 |_,_=>.bad
theorem L9:∀x y A,qA (w6 x y A):=λ x y A=>by
 unfold w6
 split
 ·split
  ·split
   ·split
    ·exact jx
    ·exact qN
   ·exact qN
  ·exact qN
 ·exact qN
def j7:W->W->W->Hx->R Unit:=λ o i v A=>match o,i with
 |.ref n,.int k=>match A[n]? with
  |some (.lst ws)=>match k7 ws.length k with
   |some j=>.ok () (A.set n (.lst (ws.set j v)))|none=>.bad
  |_=>.bad
 |_,_=>.bad
theorem Rw:∀o i v A,qA (j7 o i v A):=λ o i v A=>by
 unfold j7
 split
 ·split
  ·split
   ·exact jx
   ·exact qN
  ·exact qN
 ·exact qN
theorem TQ:Rz K Ry j7:=λ φ A H o i v a w wv Q S f d q p=>by
 unfold j7 at p;cases a with
 |ref n=>cases w with
  |int k=>
   obtain rfl:=d;dsimp only at p;cases e:A[n]? with
   |none=>rw[e]at p;exact p.elim|some g=>cases g with
    |lst ws=>
     rw[e]at p;dsimp only at p;cases E:k7 ws.length k with
     |none=>rw[E]at p;exact p.elim|some j=>
      rw[E]at p;obtain⟨l,vs,rfl,f1,g1,r⟩:=S.lst f e;have ln:Le K φ H φ (upd H l (.lst (vs.set j v))):=Le.upd f1 (λ xs z=>by rw[g1]at z;cases z) (λ _ _ z=>by rw[g1]at z;cases z)
      obtain⟨c,b⟩:=S.write (o:=.lst ws) (o':=.lst (ws.set j wv)) e rfl rfl f1 ⟨_,jN,(r.mono ln).set (q.mono ln) j⟩;exact⟨l,vs,k,j,rfl,rfl,g1,by rw[<- r.length];exact E,p _ _ c b⟩
    |_=>rw[e]at p;exact p.elim
  |_=>exact p.elim
 |_=>cases w<;>exact p.elim
variable {es:List Expr}{m:Ev}
theorem DU {id:String}{g:W->Hx->R W}(i:jK X (.builtin id) r)(hn:∀w A,qA (g w A))(f:Xy X.K (λ v=>r [v]) g)(hm:X.mg x=none)(d:bootBuiltins x=some (.builtin id))(j:SE X xr e m)(b:Gl X x:=by rfl)
  (a:x ≠ "__name__" := by decide)(c:(x==("__debug__" : Str))=false:=by decide)(he:starEach [e] X.env=(false,eval e X.env)::starEach [] X.env:=by rfl)(l:(backTo pos (starEach [] X.env)).any (·.1)=false:=by rfl):
  SE X xr (.Call (.Name x p) [e] [] pos) (yK g m):=PE.imp (Jy i b hm d (jA j j3 he) a c he l) λ σ H Q h=>yK.read (r:=λ v=>r [v]) hn f σ H Q h
theorem Ds {id:String}{g:W->Hx->R W}(i:jK X (.type id) r)(hn:∀w A,qA (g w A))(f:Xy X.K (λ v=>r [v]) g)(hm:X.mg x=none)(d:bootBuiltins x=some (.type id))(j:SE X xr e m)(b:Gl X x:=by rfl)
  (a:x ≠ "__name__" := by decide)(c:(x==("__debug__" : Str))=false:=by decide)(he:starEach [e] X.env=(false,eval e X.env)::starEach [] X.env:=by rfl)(l:(backTo pos (starEach [] X.env)).any (·.1)=false:=by rfl):
  SE X xr (.Call (.Name x p) [e] [] pos) (yK g m):=PE.imp (Qy i b hm d (jA j j3 he) a c he l) λ σ H Q h=>yK.read (r:=λ v=>r [v]) hn f σ H Q h
theorem GR {id:String}{g:W->W->Hx->R W}(o:jK X (.builtin id) r)(hn:∀w j A,qA (g w j A))(n:jv X.K (λ v c=>r [v,c]) g)(hm:X.mg x=none)(m:bootBuiltins x=some (.builtin id))(s:SE X xr a ma)(q:SE X xr b mb)(e:Gl X x)
  (d:x ≠ "__name__")(f:(x==("__debug__" : Str))=false)(i:starEach [a,b] X.env=(false,eval a X.env)::starEach [b] X.env)(t:starEach [b] X.env=(false,eval b X.env)::starEach [] X.env)(l:(backTo pos (starEach [b] X.env)).any (·.1)=false):
  SE X xr (.Call (.Name x p) [a,b] [] pos) (zl g ma mb):=PE.imp (Jy o e hm m (jA s (jA q j3 t) i) d f i l) λ σ H Q h=>zl.read (r:=λ v c=>r [v,c]) hn n σ H Q h
noncomputable def JV:W->Hx->R W
 |.int i,A=>.ok (.int (if i<0 then -i else i)) A|_,_=>.bad
noncomputable def Qa:W->Hx->R W
 |.int i,A=>.ok (.int i) A|.bl k,A=>.ok (.int (if k then 1 else 0)) A|_,_=>.bad
def G1:=wG λ i j=>.int (if j > i then j else i)
def Zr:=wG λ i j=>.int (if j<i then j else i)
noncomputable def ye:W->Bool
 |.tup _=>false|.ref _=>false|.clo _ _ _=>false|.xc _=>false|_=>true
noncomputable def QZ:W->W->Bool
 |.non,.non=>true|.bl a,.bl b=>a==b|.bl a,.int b=>(if a then 1 else 0)==b|.int a,.bl b=>a==(if b then 1 else 0)|.int a,.int b=>a==b|.str a,.str b=>a==b|_,_=>false
def Q5 (x:W)(xs:List W):Bool:=xs.any λ y=>QZ y x
theorem YA {w:W}(q:RV K φ H w v)(e:ye w=true):ki v=true:=by
 cases w<;>first
  |(cases e;done)
  |(obtain rfl:=q;rfl)
theorem U4 {w a:W}{b:V}(q:RV K φ H w v)(Q:RV K φ H a b)(e:ye w=true)(E:ye a=true):k8 v b=QZ w a:=by
 cases w<;>cases a<;>first
  |(cases e;done)
  |(cases E;done)
  |(obtain rfl:=q;obtain rfl:=Q;rfl)
theorem Td {x:W}(q:RV K φ H x v)(e:ye x=true):∀{xs:List W}{vs:List V},zJ K φ H xs vs->xs.all ye=true->vs.all ki=true/\KS v vs=Q5 x xs
 |[],_,r,_=>by cases r;exact⟨rfl,rfl⟩|w::ws,_,⟨y,r,E,h,t⟩,a=>by
  subst E;rw[all_cons,ao]at a;obtain⟨I,i⟩:=Td q e t a.2;refine⟨by rw[all_cons,YA h a.1,I];rfl,?_⟩
  unfold KS Q5 at i ⊢;rw[any_cons,any_cons,i,U4 h q a.1 e]
def Qh (neg:Bool):W->W->Hx->R W:=λ x y A=>match qa y A with
 |some ws=>if ye x&&ws.all ye then .ok (.bl (if neg then !Q5 x ws else Q5 x ws)) A else .bad|none=>.bad
abbrev KZ:=Qh false
theorem Dv {n:Bool}:∀x y A,qA (Qh n x y A):=λ x y A=>by
 unfold Qh
 split
 ·exact wY jx qN
 ·exact qN
theorem E9 {n:Bool}:jv K (Pa K n) (Qh n):=λ φ A H x y u v Q S q b p=>by
 unfold Qh at p;cases es:qa v A with
 |none=>rw[es]at p;exact p.elim|some ws=>
  rw[es]at p;dsimp only at p
  by_cases hf:(ye u&&ws.all ye)=true
  ·rw[af hf]at p
   rw[ao]at hf;obtain⟨a,ys,rfl,z,r⟩:=Yy S b es;obtain⟨I,i⟩:=Td q hf.1 r hf.2;exact⟨a,ys,rfl,z,YA q hf.1,I,by rw[i];exact p φ H _ .refl S rfl⟩
  ·rw[aj hf]at p;exact p.elim
structure Xd (X:Cx)(op:CmpOp)(g:W->W->Hx->R W):Prop where
 ex:∃r:R2,qu X (compareOp op) r/\(∀x y A,qA (g x y A))/\jv X.K r g
theorem RX:Xd X .In KZ:=⟨_,Ml,Dv,E9⟩
end
noncomputable def j6 (f:W->Option PyData):List W->Option (List PyData)
 |[]=>some []|w::ws=>match f w,j6 f ws with
  |some d,some ds=>some (d::ds)|_,_=>none
def qe (A:Hx):Nat->W->Option PyData
 |_,.non=>some .none|_,.bl b=>some (.bool b)|_,.int i=>some (.int i)|_,.str x=>if PyData.strOk x then some (.str x) else none|_,.clo _ _ _=>none|_,.xc _=>none|0,.tup _=>none|0,.ref _=>none|n+1,.tup ws=>(j6 (qe A n) ws).map .tuple|n+1,.ref k=>match qa (.ref k) A with
  |some ws=>(j6 (qe A n) ws).map .list|none=>none
theorem Iz {K:Frag}{A:Hx}{us:List W}(S:zN K φ A H)(q:RV K φ H (.ref n) v)(e:qa (.ref n) A=some us):∃a ys,v=.ref a/\qL K H a ys/\zJ K φ H us ys:=by
 obtain⟨a,rfl,d⟩:=q;unfold qa at e;dsimp only at e;cases E:A[n]? with
 |none=>rw[E]at e;cases e|some o=>
  rw[E]at e;obtain⟨f,c,r⟩:=S.ob n o E;rw[d]at c;cases c;cases o with
  |lst xs=>cases e;obtain⟨ys,b,h⟩:=r;exact⟨a,ys,rfl,qL.of b,h⟩|ro xs=>cases e;obtain⟨ys,b,h⟩:=r;exact⟨a,ys,rfl,b.sq,h⟩|dct xs=>cases e|tab _ _=>cases e
section
variable {a:Expr}
theorem WU {K:Frag}{f:W->Option PyData}(hf:∀w v u d,RV K φ H w v->RelV v u->f w=some d->∃as,Reads h u d as):
  ∀{ws:List W}{vs:List V}{us:List Value}{ds:List PyData},zJ K φ H ws vs->Vals vs us->j6 f ws=some ds->∃as,ReadsAll h us ds as
 |[],_,_,_,r,a,e=>by cases r;cases a;cases e;exact⟨[],.nil⟩|w::ws,_,_,ds,⟨v,r,l,q,t⟩,a,e=>by
  subst l;cases a with
  |cons g c=>
   unfold j6 at e;cases E:f w with
   |none=>rw[E]at e;cases e|some d=>
    cases b:j6 f ws with
    |none=>rw[E,b]at e;cases e|some D=>
     rw[E,b]at e;cases e;obtain⟨as,j⟩:=hf w v _ d q g E;obtain⟨bs,i⟩:=WU hf t c b;exact⟨_,.cons j i⟩
theorem Qz {A:Hx}(I:Inv X pins σ H s)(S:zN X.K φ A H):∀(n:Nat)(w:W)(v:V)(u:Value)(d:PyData),RV X.K φ H w v->RelV v u->qe A n w=some d->∃as,Reads s.heap u d as:=by
 intro n
 induction n with
 |zero=>
  intro w v u d q r e;cases w with
  |non=>obtain rfl:=q;cases r;cases e;exact⟨_,.none⟩|bl k=>obtain rfl:=q;cases r;cases e;exact⟨_,.bool k⟩|int k=>obtain rfl:=q;obtain⟨t,rfl⟩:=r;cases e;exact⟨_,.int k t⟩|str k=>
   obtain rfl:=q;obtain⟨t,rfl⟩:=r;unfold qe at e
   split at e
   ·cases e;exact⟨_,.str k t⟩
   ·cases e
  |tup _=>cases e|ref _=>cases e|clo _ _ _=>unfold qe at e;cases e|xc _=>unfold qe at e;cases e
 |succ n p=>
  intro w v u d q r e;cases w with
  |non=>obtain rfl:=q;cases r;cases e;exact⟨_,.none⟩|bl k=>obtain rfl:=q;cases r;cases e;exact⟨_,.bool k⟩|clo _ _ _=>unfold qe at e;cases e|xc _=>unfold qe at e;cases e|int k=>obtain rfl:=q;obtain⟨t,rfl⟩:=r;cases e;exact⟨_,.int k t⟩|str k=>
   obtain rfl:=q;obtain⟨t,rfl⟩:=r;unfold qe at e
   split at e
   ·cases e;exact⟨_,.str k t⟩
   ·cases e
  |tup ws=>
   obtain⟨a,vs,rfl,h,c⟩:=q;cases r;unfold qe at e;cases E:j6 (qe A n) ws with
   |none=>rw[E]at e;cases e|some ds=>
    rw[E]at e;cases e;obtain⟨i,b,⟨o,l,j,k,g⟩,_⟩:=I.tuple h;obtain⟨as,f⟩:=WU p c b E;exact⟨_,.tuple l j g (by simpa using f)⟩
  |ref k=>
   unfold qe at e;cases E:qa (.ref k) A with
   |none=>rw[E]at e;cases e|some ws=>
    rw[E]at e;dsimp only at e;obtain⟨a,ys,rfl,h,c⟩:=Iz S q E;cases r;cases m:j6 (qe A n) ws with
    |none=>rw[m]at e;cases e|some ds=>
     rw[m]at e;cases e;obtain⟨i,b,⟨o,x,l,j,_,g⟩,_⟩:=I.list h;obtain⟨as,f⟩:=WU p c b m;exact⟨_,.list l j g (by simpa using f)⟩
theorem YB {A:Hx}:∀(n:Nat)(w:W)(d:PyData),qe A n w=some d->d.canLay0=true/\d.depth<=n:=by
 intro n;have lst:∀{n:Nat},(∀(w:W)(d:PyData),qe A n w=some d->d.canLay0=true/\d.depth<=n)->∀(ws:List W)(ds:List PyData),j6 (qe A n) ws=some ds->PyData.canLayAll0 ds=true/\PyData.depthAll ds<=n:=by
  intro n i ws
  induction ws with
  |nil=>intro ds e;cases e;exact⟨by simp[PyData.canLayAll0],by simp[PyData.depthAll]⟩|cons w ws I=>
   intro ds e;unfold j6 at e;cases E:qe A n w with
   |none=>rw[E]at e;cases e|some d=>
    cases b:j6 (qe A n) ws with
    |none=>rw[E,b]at e;cases e|some D=>
     rw[E,b]at e;cases e;obtain⟨h,c⟩:=i w d E;obtain⟨f,g⟩:=I D b;refine⟨by simp[PyData.canLayAll0,h,f],?_⟩
     simp only[PyData.depthAll];omega
 induction n with
 |zero=>
  intro w d e;cases w with
  |tup _=>cases e|ref _=>cases e|clo _ _ _=>unfold qe at e;cases e|xc _=>unfold qe at e;cases e|str x=>
   unfold qe at e
   split at e
   ·rename_i H;cases e;exact⟨by simp[PyData.canLay0,H],by simp[PyData.depth]⟩
   ·cases e
  |_=>cases e;exact⟨by simp[PyData.canLay0],by simp[PyData.depth]⟩
 |succ n i=>
  intro w d e;cases w with
  |clo _ _ _=>unfold qe at e;cases e|xc _=>unfold qe at e;cases e|tup ws=>
   unfold qe at e;cases a:j6 (qe A n) ws with
   |none=>rw[a]at e;cases e|some ds=>
    rw[a]at e;cases e;obtain⟨h,c⟩:=lst i ws ds a;refine⟨by simp[PyData.canLay0,h],?_⟩
    simp only[PyData.depth];omega
  |ref k=>
   unfold qe at e;cases a:qa (.ref k) A with
   |none=>rw[a]at e;cases e|some ws=>
    rw[a]at e;dsimp only at e;cases E:j6 (qe A n) ws with
    |none=>rw[E]at e;cases e|some ds=>
     rw[E]at e;cases e;obtain⟨h,c⟩:=lst i ws ds E;refine⟨by simp[PyData.canLay0,h],?_⟩
     simp only[PyData.depth];omega
  |str x=>
   unfold qe at e
   split at e
   ·rename_i H;cases e;exact⟨by simp[PyData.canLay0,H],by simp[PyData.depth]⟩
   ·cases e
  |_=>cases e;exact⟨by simp[PyData.canLay0],by simp[PyData.depth]⟩
def yI (neg:Bool):W->W->Hx->R W:=λ x y A=>match qe A 8 x,qe A 8 y with
 |some d,some d'=>.ok (.bl (if neg then !PyData.eqv d d' else PyData.eqv d d')) A|_,_=>.bad
abbrev qM:=yI false
abbrev qw:=yI true
theorem Ru {n:Bool}:∀x y A,qA (yI n x y A):=λ x y A=>by
 unfold yI
 split
 ·exact jx
 ·exact qN
def Xj (K:Frag)(neg:Bool):R2:=λ x y H Q=>∃φ A u v d d',zN K φ A H/\RV K φ H u x/\RV K φ H v y/\qe A 8 u=some d/\qe A 8 v=some d'/\Q (.bl (if neg then !PyData.eqv d d' else PyData.eqv d d')) H
theorem YW {A:Hx}{w:W}{d:PyData}(h:qe A 8 w=some d):SeqAt.shaped d=true:=by
 obtain⟨H,a⟩:=YB 8 w d h;unfold SeqAt.shaped;rw[H,Bool.true_and,ag];omega
theorem Dk (g:X.A.units+64<cLine):qu X (compareOp .Eq) (Xj X.K false):=by
 intro pins s σ H x y v u Q I b r h;obtain⟨φ,A,a,w,d,d',S,f,c,E,e,q⟩:=h;obtain⟨as,j⟩:=Qz I S 8 a x v d f b E;obtain⟨bs,i⟩:=Qz I S 8 w y u d' c r e;exact eq_dataH j i (YW E) (YW e) g ⟨.bl _,H,I,rfl,q⟩
theorem EC (g:X.A.units+64<cLine):qu X (compareOp .NotEq) (Xj X.K true):=by
 intro pins s σ H x y v u Q I b r h;obtain⟨φ,A,a,w,d,d',S,f,c,E,e,q⟩:=h;obtain⟨as,j⟩:=Qz I S 8 a x v d f b E;obtain⟨bs,i⟩:=Qz I S 8 w y u d' c r e;exact ne_dataH j i (YW E) (YW e) g ⟨.bl _,H,I,rfl,q⟩
theorem TX {K:Frag}{n:Bool}:jv K (Xj K n) (yI n):=λ φ A H x y u v Q S a q p=>by
 unfold yI at p;cases e:qe A 8 u with
 |none=>rw[e]at p;exact p.elim|some d=>
  cases E:qe A 8 v with
  |none=>rw[e,E]at p;exact p.elim|some d'=>
   rw[e,E]at p;exact⟨φ,A,u,v,d,d',S,a,q,e,E,p φ H _ .refl S rfl⟩
theorem j5 {k:Nat}(h:jy k X.A):yT X .Eq qM:=Zm (Dk h.units) Ru TX
theorem jV {k:Nat}(h:jy k X.A):yT X .NotEq qw:=Zm (EC h.units) Ru TX
end
mutual
noncomputable def W.nr:W->Bool
 |.tup ws=>qR ws|.ref _=>false|.clo _ ws _=>qR ws|_=>true
noncomputable def qR:List W->Bool
 |[]=>true|w::ws=>w.nr&&qR ws
end
def iso (f:Fn):Fn:=λ us A=>if qR us then(match f us [] with
 |.ok w A1=>(match w with
  |.ref n=>(match A1[n]? with
   |some (.lst ws)=>if qR ws then .ok (.ref A.length) (A++[.lst ws]) else .bad|some (.dct kvs)=>if qR (kvs.map (·.2)) then .ok (.ref A.length) (A++[.dct kvs]) else .bad|_=>.bad)
  |w=>if w.nr then .ok w A else .bad)
 |_=>.bad) else .bad
def yr (f:Fn):Fn:=λ us A=>match us with
 |.ref n::us=>(match A[n]? with
  |some (.lst ws)=>if qR ws&&qR us then(match f (.ref 0::us) [.lst ws] with
   |.ok w A1=>(match (List.head? A1:Option O) with
    |some (.lst a)=>if qR a&&w.nr then .ok w (A.set n (.lst a)) else .bad|_=>.bad)
   |_=>.bad) else .bad
  |_=>.bad)
 |_=>.bad
section
variable {K:Frag}{φ' φ1:List Addr}{H' H1:Hp}{A A1:Hx}
mutual
theorem RV.nrm (tp:∀a vs,qi K H a vs->qi K H' a vs)(fz:∀a o u,H a=some (.frz o u)->H' a=some (.frz o u)):∀{w:W}{v:V},w.nr=true->RV K φ H w v->RV K φ' H' w v
 |.non,_,_,h=>h|.bl _,_,_,h=>h|.int _,_,_,h=>h|.str _,_,_,h=>h|.tup ws,_,n,⟨a,vs,e,t,r⟩=>⟨a,vs,e,tp _ _ t,zJ.nrm tp fz n r⟩|.ref _,_,n,_=>nomatch n
 |.clo _ ws P,_,n,⟨a,ob,u,c,g,U,vs,e,d,b,i,r⟩=>⟨a,ob,u,c,g,U,vs,e,fz _ _ _ d,fz _ _ _ b,i,zJ.nrm tp fz n r⟩|.xc _,_,_,⟨a,f,u,C,e,d,b⟩=>⟨a,f,u,C,e,fz _ _ _ d,b⟩
theorem zJ.nrm (tp:∀a vs,qi K H a vs->qi K H' a vs)(fz:∀a o u,H a=some (.frz o u)->H' a=some (.frz o u)):∀{ws:List W}{vs:List V},qR ws=true->zJ K φ H ws vs->zJ K φ' H' ws vs
 |[],_,_,h=>h|w::ws,_,n,⟨v,r,e,h,t⟩=>by
  have N:(w.nr&&qR ws)=true:=n;rw[ao]at N;exact⟨v,r,e,RV.nrm tp fz N.1 h,zJ.nrm tp fz N.2 t⟩
end
theorem zN.none:zN K [] [] H:=⟨rfl,λ i j a o o' _ _ h=>by simp at h,λ n o h=>by simp at h⟩
theorem zN.frame (S:zN K φ A H)(k:∀a o,H a=some o->H1 a=some o)(l:Le K φ H φ H1):zN K φ A H1:=
 ⟨S.len,S.inj,λ n o e=>let ⟨a,h1,q⟩:=S.ob n o e;⟨a,h1,q.keep l λ u h=>k a u h⟩⟩
theorem Le.apart (l:Le K [] H φ1 H1):Le K φ H φ H1/\∀a o,H a=some o->H1 a=some o:=
 have k:∀a o,H a=some o->H1 a=some o:=λ a o h=>l.fr a o h λ n e=>by simp at e
 ⟨⟨λ _ _ h=>h,l.tp,λ a o h _=>k a o h,λ _ _ h=>.inl h,l.st,l.fz⟩,k⟩
theorem zN.trackN {u:HO}{o:O}(S:zN K φ A H)(x:H D=some u)(n:∀(k:Nat)(q:O),φ[k]? =some D->A[k]? =some q->q.mut=false)(new:OR K (φ++[D]) H D o):zN K (φ++[D]) (A++[o]) H:=by
 have l:gR K φ H (φ++[D]) H:=⟨λ n a h=>by
  have:=(qa2.mp h).1
  rw[ai this];exact h,λ _ _ h=>h,λ _ _ _ h=>h⟩
 have old:∀(i:Nat) a,(φ++[D])[i]? =some a->i<A.length->φ[i]? =some a:=λ i a e d=>by
  rw[ai (by rw[S.len];exact d)]at e;exact e
 have last:∀a,(φ++[D])[A.length]? =some a->a=D:=λ a e=>by
  rw[ax (by rw[S.len];exact ar _),S.len]at e
  simpa using e.symm
 refine⟨by simp[S.len],λ i j a w v t s f b m1 m2=>?_,λ k o' e=>?_⟩
 ·by_cases d:i<A.length
  ·rw[ai d]at f
   by_cases c:j<A.length
   ·rw[ai c]at b
    exact S.inj i j a w v (old i a t d) (old j a s c) f b m1 m2
   ·exfalso
    have m:j=A.length:=by have:=(qa2.mp b).1;simp at this;omega
    subst m;have z:=n i w (by rw[<- last a s];exact old i a t d) f
    rw[m1]at z;cases z
  ·have p:i=A.length:=by have:=(qa2.mp f).1;simp at this;omega
   by_cases c:j<A.length
   ·exfalso
    rw[ai c]at b;subst p;have z:=n j v (by rw[<- last a t];exact old j a s c) b
    rw[m2]at z;cases z
   ·have:=(qa2.mp b).1;simp at this;omega
 ·by_cases hn:k<A.length
  ·rw[ai hn]at e
   obtain⟨a,E,q⟩:=S.ob k o' e;refine⟨a,l.ex _ _ E,?_⟩;cases o' with
   |lst ws=>obtain⟨vs,z,r⟩:=q;exact⟨vs,z,r.monoW l⟩|dct ws=>obtain⟨vs,z,Z,r⟩:=q;exact⟨vs,z,Z,r.monoW l⟩|tab _ _=>exact q|ro ws=>obtain⟨vs,z,r⟩:=q;exact⟨vs,z,r.monoW l⟩
  ·have g:k=A.length:=by have:=(qa2.mp e).1;simp at this;omega
   subst g;rw[ax (ar _)]at e;simp at e;subst e;exact⟨D,by rw[ax (by rw[S.len];exact ar _),S.len];simp,new⟩
theorem zN.adopt {o:O}(S:zN K φ A H)(l:Le K [] H φ1 H1)(d:φ1[n]? =some a)(m:∃u,H1 a=some u)(new:OR K (φ++[a]) H1 a o):
  Le K φ H (φ++[a]) H1/\zN K (φ++[a]) (A++[o]) H1/\RV K (φ++[a]) H1 (.ref A.length) (.ref a):=by
 obtain⟨L,k⟩:=l.apart (φ:=φ);have h0:H a=Option.none:=by
  rcases l.nw n a d with e|e
  ·simp at e
  ·exact e
 obtain⟨u,b⟩:=m;have s:=S.frame k L;refine⟨L.track h0,s.trackN b (λ k q g f=>?_) new,a,rfl,by rw[<- S.len];simp⟩
 cases c:q.mut with
 |false=>rfl|true=>
  obtain⟨i,E,r⟩:=S.ob k q f;rw[g]at E;cases E;obtain⟨z,h,_⟩:=r.there c;rw[h0]at h;cases h
theorem OR.nrL {ws:List W}(h:OR K φ H a (.lst ws))(n:qR ws=true):OR K φ' H a (.lst ws):=let ⟨vs,e,r⟩:=h;⟨vs,e,r.nrm (λ _ _ t=>t) (λ _ _ _ t=>t) n⟩
theorem OR.nrD {kvs:List (Key×W)}(h:OR K φ H a (.dct kvs))(n:qR (kvs.map (·.2))=true):OR K φ' H a (.dct kvs):=let ⟨vs,e,E,r⟩:=h;⟨vs,e,E,r.nrm (λ _ _ t=>t) (λ _ _ _ t=>t) n⟩
theorem zI.iso {k:Nat}{f:Fn}(F:zI P w K mg base k x n f):zI P w K mg base k x n (iso f):=by
 obtain⟨I,fd,C,F,a,b,c⟩:=F;refine⟨I,fd,C,F.imp λ vs H Q E ⟨D,φ,A,ws,S,r,q⟩=>?_,a,b,c⟩;unfold Mi.iso at q
 by_cases hn:qR ws=true
 ·rw[af hn]at q
  refine⟨D,[],[],ws,zN.none,r.nrm (λ _ _ t=>t) (λ _ _ _ t=>t) hn,?_⟩;cases hf:f ws [] with
  |ok w A1=>
   rw[hf]at q;dsimp only at q;intro z H1 v L J g;cases w with
   |ref m=>
    dsimp only at q;cases hm:A1[m]? with
    |none=>rw[hm]at q;exact q.elim|some o=>
     rw[hm]at q;obtain⟨M,j,d⟩:=J.ob m o hm;obtain⟨a2,rfl,e⟩:=g;rw[j]at e;cases e;cases o with
     |lst us=>
      dsimp only at q
      by_cases h:qR us=true
      ·rw[af h]at q
       obtain⟨t,i,_⟩:=d.there rfl;obtain⟨s,p,B⟩:=S.adopt L j ⟨t,i⟩ (o:=.lst us) (d.nrL h);exact q _ _ _ s p B
      ·rw[aj h]at q;exact q.elim
     |dct us=>
      dsimp only at q
      by_cases h:qR (us.map (·.2))=true
      ·rw[af h]at q
       obtain⟨t,i,_⟩:=d.there rfl;obtain⟨s,p,B⟩:=S.adopt L j ⟨t,i⟩ (o:=.dct us) (d.nrD h);exact q _ _ _ s p B
      ·rw[aj h]at q;exact q.elim
     |ro us=>exact q.elim|tab _ _=>exact q.elim
   |_=>
    all_goals
     dsimp only at q;obtain⟨l,u⟩:=L.apart (φ:=φ)
     first
      |exact q φ H1 v l (S.frame u l) g
      |(
        split at q
        ·rename_i hw
         exact q φ H1 v l (S.frame u l) (RV.nrm (λ _ _ t=>t) (λ _ _ _ t=>t) hw g)
        ·exact q.elim)
  |exc y A1=>rw[hf]at q;exact q.elim|bad=>rw[hf]at q;exact q.elim
 ·rw[aj hn]at q;exact q.elim
theorem zI.yr {k:Nat}{f:Fn}(F:zI P w K mg base k x n f):zI P w K mg base k x n (yr f):=by
 obtain⟨fa,fd,ps,F,a,b,c⟩:=F;refine⟨fa,fd,ps,F.imp λ vs H Q E ⟨hl,φ,A,ws,S,r,q⟩=>?_,a,b,c⟩;unfold Mi.yr at q;cases ws with
 |nil=>exact q.elim|cons Z us=>cases Z with
  |ref n=>
   dsimp only at q;cases g:A[n]? with
   |none=>rw[g]at q;exact q.elim|some o=>cases o with
    |lst xs=>
     rw[g]at q;dsimp only at q
     by_cases hn:(qR xs&&qR us)=true
     ·rw[af hn]at q
      rw[ao]at hn;obtain⟨v0,vr,rfl,q0,qr⟩:=r;obtain⟨p,ys,rfl,f1,g1,d⟩:=S.lst q0 g;have S0:zN K [p] [.lst xs] H:=by
       refine⟨rfl,λ i j a o o' D C T N _ _=>?_,λ m o e=>?_⟩
       ·have:=(qa2.mp D).1
        have:=(qa2.mp C).1
        simp at*;omega
       ·have:m=0:=by have:=(qa2.mp e).1;simp at this;omega
        subst this;simp at e;subst e;exact⟨p,rfl,ys,g1,d.nrm (λ _ _ t=>t) (λ _ _ _ t=>t) hn.1⟩
      refine⟨hl,[p],[.lst xs],.ref 0::us,S0,.cons ⟨p,rfl,rfl⟩ (qr.nrm (λ _ _ t=>t) (λ _ _ _ t=>t) hn.2),?_⟩;cases hf:f (.ref 0::us) [.lst xs] with
      |ok w A1=>
       rw[hf]at q;dsimp only at q;intro u H1 v L S1 q1;cases h0:List.head? A1 with
       |none=>rw[h0]at q;exact q.elim|some o=>cases o with
        |lst zs=>
         rw[h0]at q;dsimp only at q
         by_cases hw:(qR zs&&w.nr)=true
         ·rw[af hw]at q
          rw[ao]at hw;have apart:∀a o,a≠p->H a=some o->H1 a=some o:=λ a o ne h=>L.fr a o h λ m e=>by
           have:m=0:=by have:=(qa2.mp e).1;simp at this;omega
           subst this;simp at e;exact ne e.symm
          have lf:Le K φ H φ H1:=⟨λ _ _ h=>h,L.tp,λ a o h nn=>apart a o (λ e=>nn n (by rw[e];exact f1)) h,λ _ _ h=>.inl h,L.st,L.fz⟩
          have hp:u[0]? =some p:=L.ex 0 p rfl;obtain⟨p',l,U,I,B⟩:=S1.ob 0 _ (by rw[<- List.head?_eq_getElem?];exact h0)
          rw[hp]at l;cases l;refine q φ H1 v lf ?_ (RV.nrm (λ _ _ t=>t) (λ _ _ _ t=>t) hw.2 q1);have mt:∀(i:Nat)(w:O),(A.set n (.lst zs))[i]? =some w->w.mut=true->∃J,A[i]? =some J/\J.mut=true:=λ i w e mw=>by
           by_cases s:i=n
           ·subst s;exact⟨_,g,rfl⟩
           ·rw[aK (Ne.symm s)]at e;exact⟨w,e,mw⟩
          refine⟨by simp[S.len],λ i j a o1 o2 D C T N m1 m2=>?_,λ i w e=>?_⟩
          ·obtain⟨Y,l,k1⟩:=mt i o1 T m1
           obtain⟨X,I,k2⟩:=mt j o2 N m2;exact S.inj i j a Y X D C l I k1 k2
          ·by_cases s:i=n
           ·subst s
            have:i<A.length:=(qa2.mp g).1
            rw[aF this]at e;cases e;exact⟨p,f1,U,I,B.nrm (λ _ _ t=>t) (λ _ _ _ t=>t) hw.1⟩
           ·rw[aK (Ne.symm s)]at e
            obtain⟨a,l,M⟩:=S.ob i w e;refine⟨a,l,?_⟩
            by_cases hm:w.mut=true
            ·have ne:a≠p:=λ z=>s (S.inj i n a w _ l (by rw[z];exact f1) e g hm rfl)
             exact M.keep lf λ z hz=>apart a z ne hz
            ·cases w with
             |lst _=>exact absurd rfl hm|dct _=>exact absurd rfl hm|tab _ _=>exact absurd rfl hm|ro ws=>
              obtain⟨vs,d,B⟩:=M;refine⟨vs,?_,B.mono lf⟩;rcases d with ⟨ob,d⟩|d
              ·refine .inl ⟨ob,apart a _ ?_ d⟩
               intro z;subst z;rw[g1]at d;cases d
              ·exact .inr d
         ·rw[aj hw]at q;exact q.elim
        |_=>rw[h0]at q;exact q.elim
      |exc y A1=>rw[hf]at q;exact q.elim|bad=>rw[hf]at q;exact q.elim
     ·rw[aj hn]at q;exact q.elim
    |_=>rw[g]at q;exact q.elim
  |_=>exact q.elim
end
section
variable {K:Frag}{a b:Expr}{es:List Expr}{m:Ev}{st:Stmt}
noncomputable def Qc:Ex:=λ _ _=>.bad
noncomputable def intsOf:List W->Option (List Int)
 |[]=>some []|w::ws=>match w with
  |.int i=>match intsOf ws with
   |some is=>some (i::is)|none=>none
  |_=>none
theorem WY:∀{ws:List W}{ns:List Int},intsOf ws=some ns->ws=ns.map W.int
 |[],_,e=>by cases e;rfl|w::ws,ns,e=>by
  unfold intsOf at e;cases w with
  |int i=>
   dsimp only at e;cases E:intsOf ws with
   |none=>rw[E]at e;cases e|some is=>rw[E]at e;cases e;rw[WY E];rfl
  |_=>cases e
noncomputable def jF:List Int->Int->Int
 |[],m=>m|i::is,m=>jF is (if i > m then i else m)
noncomputable def yf:List Int->Int->Int
 |[],m=>m|i::is,m=>yf is (m+i)
theorem preSum_eq (ns:List Int):∀k,preSum (λ i=>ns.getD i 0) k+yf (ns.drop k) 0=yf ns 0∨ns.length<k:=by
 have add:∀(l:List Int)(m:Int),yf l m=m+yf l 0:=λ l=>by
  induction l with
  |nil=>intro m;show m=m+0;omega|cons i is I=>intro m;show yf is (m+i)=m+yf is (0+i);rw[I (m+i),I (0+i)];omega
 intro k
 induction k with
 |zero=>left;show(0:Int)+yf ns 0=_;omega|succ k I=>
  rcases I with I|I
  ·by_cases h:k<ns.length
   ·left
    have e:ns.drop k=ns[k]::ns.drop (k+1):=List.drop_eq_getElem_cons h;rw[e]at I;have a:yf (ns[k]::ns.drop (k+1)) 0=ns[k]+yf (ns.drop (k+1)) 0:=by show yf (ns.drop (k+1)) (0+ns[k])=_;rw[add];omega
    rw[a]at I;show preSum _ k+ns.getD k 0+_=_;have E:ns.getD k 0=ns[k]:=by rw[aa,ab h];rfl
    rw[E];omega
   ·right;omega
  ·right;omega
theorem NU (ns:List Int):preSum (λ i=>ns.getD i 0) ns.length=yf ns 0:=by
 rcases preSum_eq ns ns.length with h|h
 ·rw[drop_length]at h
  have:yf [] 0=0:=rfl
  omega
 ·omega
theorem M9 (ns:List Int):∀(k:Nat)(a:k<ns.length),jF (ns.drop (k+1)) (ns.getD (argBest (λ i j=>decide (ns.getD i 0 > ns.getD j 0)) k) 0)=jF ns.tail (ns.getD 0 0):=by
 intro k
 induction k with
 |zero=>intro _;rw[show argBest _ 0=0 from rfl,List.drop_one]|succ k I=>
  intro a;have H:k<ns.length:=by omega
  rw[<- I H];have e:ns.drop (k+1)=ns[k+1]::ns.drop (k+1+1):=List.drop_eq_getElem_cons a;rw[e];have E:ns.getD (k+1) 0=ns[k+1]:=by rw[aa,ab a];rfl
  show jF _ (ns.getD (if decide (ns.getD (k+1) 0 > ns.getD (argBest _ k) 0)=true then k+1 else argBest _ k) 0)=jF _ (if ns[k+1] > ns.getD (argBest _ k) 0 then ns[k+1] else ns.getD (argBest _ k) 0);rw[E]
  by_cases h:ns[k+1] > ns.getD (argBest (λ i j=>decide (ns.getD i 0 > ns.getD j 0)) k) 0
  ·rw[af (by rw[ag];exact h),af h,E]
  ·rw[aj (by rw[ag];exact h),aj h]
noncomputable def Kk (K:Frag)(C:List Int->Prop)(f:List Int->Int):List V->Hp->VK->Prop:=λ xs H Q=>∃a ns,xs=[.ref a]/\(qL K H a (ns.map V.int)∨qi K H a (ns.map V.int))/\C ns/\Q (.int (f ns)) H
theorem Y1 (r:Vals (ns.map V.int) its){v:Value}(h:its[i]? =some v):∃t,v=.int (ns.getD i 0) t:=by
 have c:i<its.length:=(qa2.mp h).1;have H:i<ns.length:=by have:=r.length;rw[ah]at this;omega
 obtain⟨u,a,b⟩:=r.get (i:=i) (x:=V.int ns[i]) (by simp[H])
 rw[h]at a;cases a;obtain⟨t,rfl⟩:=b;exact⟨t,by rw[aa,ab H];rfl⟩
theorem M7 (f:X.calm=true):jK X (.builtin "sum") (Kk X.K (λ _=>True) λ ns=>yf ns 0):=by
 intro pins s σ H xs us Q I r h;obtain⟨a,ns,rfl,z,_,q⟩:=h;obtain⟨u,rfl,d⟩:=vals1 r;cases d;refine call_sum_walkG (Ge I f z λ b g fp wr S s2 c j W st p back=>?_);refine⟨g,fp,wr,_,_,S,λ i=>ns.getD i 0,rfl,W,st,p,λ i v h=>Y1 c h,λ h' tk t' k=>?_⟩;have e:b.length=ns.length:=by have:=c.length;rw[ah]at this;omega
 rw[e,NU];exact⟨.int _,H,back h' tk k,⟨_,rfl⟩,q⟩
theorem N9 (n:X.calm=true):jK X (.builtin "max") (Kk X.K (λ ns=>ns≠[]) λ ns=>jF ns.tail (ns.getD 0 0)):=by
 intro pins s σ H xs us Q I r h;obtain⟨a,ns,rfl,z,f,q⟩:=h;obtain⟨u,rfl,l⟩:=vals1 r;cases l;have M:0<ns.length:=List.length_pos_iff.mpr f;refine call_max_walk (Ge I n z λ d C fp wr S s2 c L W st p back=>?_);have e:d.length=ns.length:=by have:=c.length;rw[ah]at this;omega
 refine⟨C,fp,wr,_,_,S,λ i j=>decide (ns.getD i 0 > ns.getD j 0),rfl,W,st,p,by omega,?_,λ v h' tk m k=>?_⟩
 ·intro i j J D g Q' E y x o
  obtain⟨t1,rfl⟩:=Y1 c y;obtain⟨T,rfl⟩:=Y1 c x;exact(PyProof.Rows.gt_int o:wpAny (model X.prog X.w) X.A.in1 (compareOp .Gt (.int (ns.getD i 0) t1) (.int (ns.getD j 0) T)) Q' E g)
 ·obtain⟨t,rfl⟩:=Y1 c m
  rw[e];have b:=M9 ns (ns.length - 1) (by omega)
  rw[show ns.length - 1+1=ns.length by omega,drop_length]at b
  have B:ns.getD (argBest (λ i j=>decide (ns.getD i 0 > ns.getD j 0)) (ns.length - 1)) 0=jF ns.tail (ns.getD 0 0):=b;rw[B];exact⟨.int _,H,back h' tk k,⟨_,rfl⟩,q⟩
def jZ:List W->Hx->R W:=λ ws A=>match intsOf ws with
 |some (i::is)=>.ok (.int (jF is i)) A|_=>.bad
def kX:List W->Hx->R W:=λ ws A=>match intsOf ws with
 |some is=>.ok (.int (yf is 0)) A|none=>.bad
theorem EI:∀ws A,qA (jZ ws A):=λ ws A=>by
 unfold jZ;split
 ·exact jx
 ·exact qN
theorem EO:∀ws A,qA (kX ws A):=λ ws A=>by
 unfold kX;split
 ·exact jx
 ·exact qN
theorem UD {ws:List W}{a:Addr}(z:qL K H a ys∨qi K H a ys)(r:zJ K φ H ws ys)(e:intsOf ws=some ns):qL K H a (ns.map V.int)∨qi K H a (ns.map V.int):=by
 rw[WY e]at r;rw[<- zJ.ints.mp r];exact z
theorem Fp:ZE K (Kk K (λ ns=>ns≠[]) λ ns=>jF ns.tail (ns.getD 0 0)) jZ:=λ φ A H a ys ws Q S z r p=>by
 unfold jZ at p;cases e:intsOf ws with
 |none=>rw[e]at p;exact p.elim|some ns=>cases ns with
  |nil=>rw[e]at p;exact p.elim|cons i is=>rw[e]at p;exact⟨a,i::is,rfl,UD z r e,(by intro z;cases z),p φ H _ .refl S rfl⟩
theorem Fo:ZE K (Kk K (λ _=>True) λ ns=>yf ns 0) kX:=λ φ A H a ys ws Q S z r p=>by
 unfold kX at p;cases e:intsOf ws with
 |none=>rw[e]at p;exact p.elim|some ns=>rw[e]at p;exact⟨a,ns,rfl,UD z r e,trivial,p φ H _ .refl S rfl⟩
def Zv (y:W):List W->Nat->Nat
 |[],n=>n|w::ws,n=>Zv y ws (if QZ w y then n+1 else n)
theorem Gg (y:W):∀(ws:List W)(n:Nat),Zv y ws n=n+ws.countP λ w=>QZ w y
 |[],n=>by simp[Zv]|w::ws,n=>by
  show Zv y ws _=_;rw[Gg y ws,countP_cons]
  by_cases h:QZ w y=true
  ·rw[af h,af h];omega
  ·rw[aj h,aj h];omega
def QO:W->W->Hx->R W:=λ x y A=>match x with
 |.tup ws=>if ye y&&ws.all ye then .ok (.int (Zv y ws 0)) A else .bad|_=>.bad
def Ez (K:Frag):V->List V->Hp->VK->Prop:=λ x vs H Q=>∃a xs y,x=.ref a/\vs=[y]/\qi K H a xs/\ki y=true/\xs.all ki=true/\Q (.int (xs.countP λ z=>k8 z y)) H
theorem Uk {y:V}:∀{xs:List V}{us:List Value},Vals xs us->xs.all ki=true->us.countP (wF y)=xs.countP λ z=>k8 z y
 |_,_,.nil,_=>rfl|_,_,.cons r t,h=>by
  rw[all_cons,ao]at h;rw[countP_cons,countP_cons,Uk t h.2,GH r h.1]
theorem Lo:J7 X "tuple.count" (Ez X.K):=by
 intro pins s σ H x vs v us Q I b d h;obtain⟨a,xs,y,rfl,rfl,t,j,f,q⟩:=h;cases b;obtain⟨u,rfl,e⟩:=d.one;obtain⟨i,r,pp,_⟩:=I.tuple t;obtain⟨⟨cls,D,data,S⟩,o,c,n,hd⟩:=id pp;simp only at c hd;subst c hd;refine call_meets F.slot_tuple_count ⟨_,o,rfl⟩ F.entry_tuple_count (F.args_tuple_count_2 _ _) (SeqAt.tuple_countAt a i.toArray n D S u (wF y)) ⟨o,λ z g=>YD e j r f z (by simpa using g),?_⟩
 refine⟨.int _,H,I.tok _,⟨_,rfl⟩,?_⟩;rw[<- Uk r f]at q;simpa using q
noncomputable def JO (g:W->W->Hx->R W)(a b:Ev):Ev:=λ ρ A=>(a ρ A).bind λ x A1=>match x with
 |.tup ws=>(b ρ A1).bind λ y A2=>g (.tup ws) y A2|_=>.bad
noncomputable def Bb (K:Frag)(r:V->List V->Hp->VK->Prop)(to:TE)(t:TA):TE:=λ σ H Q=>to σ H λ x H1=>∃p ys,x=.ref p/\qi K H1 p ys/\t σ H1 λ xs h=>r x xs h Q
theorem CI {o:Expr}{to:TE}{t:TA}{name:Str}{id:String}{r:V->List V->Hp->VK->Prop}(slot:Slot "tuple" name id)(y:typeOf (.builtin id)=pure (.type "method_descriptor"))(hm:J7 X id r)(m:PE X o to)(u:PA X (e::es) t)
  (c:attributeBase o name X.env (eval o X.env)=eval o X.env)
  (w:((backTo cpos (starEach (e::es) X.env)).all (λ x=>!x.1)&&(backToKw cpos (keywordEach [] X.env)).all (λ x=>x.1.isSome)
   && decide ((e::es).length+([]:List Keyword).length+(if ([]:List Keyword).isEmpty then 0 else 1)<30))=true)
  (b:(apos.endLine==cpos.line)=true)(l:starEach (e::es) X.env=(false,eval e X.env)::starEach es X.env)(n:(backTo cpos (starEach es X.env)).any (·.1)=false):
  PE X (.Call (.Attribute o name apos) (e::es) [] cpos) (Bb X.K r to t):=by
 intro pins s σ H Q I h;refine wpAny_Call_method_late c w b rfl (zU (m pins s σ H _ I h) λ v s1 ⟨x,H1,i,f,p,ys,E,ty,g⟩=>?_);subst E;cases f;obtain⟨j,_,pp,_⟩:=i.tuple ty;refine⟨"tuple",id,PySem.F.plainAttrs_tuple,slot,y,pp.typeIs,λ a z=>by cases z;exact i.tupleN ty,?_⟩
 have A:=u cpos pins s1 σ H1 _ i g;rw[l]at A ⊢;refine Calls.callWith_builtin (by show(false || (backTo cpos (starEach es X.env)).any (·.1))=false;rw[n];rfl) (Calls.evalArgs_plain ?_)
 exact zU A λ us s2 ⟨vs,C,B,d,q⟩=>hm pins s2 σ C (.ref p) vs (.ref p) us Q B rfl d q
theorem V4 {x:W}(q:RV K φ H x v)(e:ye x=true):∀{xs:List W}{vs:List V},zJ K φ H xs vs->xs.all ye=true->vs.all ki=true/\(vs.countP λ z=>k8 z v)=xs.countP λ z=>QZ z x
 |[],_,r,_=>by cases r;exact⟨rfl,rfl⟩|w::ws,_,⟨y,r,E,h,t⟩,a=>by
  subst E;rw[all_cons,ao]at a;obtain⟨I,i⟩:=V4 q e t a.2;refine⟨by rw[all_cons,YA h a.1,I];rfl,?_⟩
  rw[countP_cons,countP_cons,i,U4 h q a.1 e]
noncomputable def Bg (lo d:Int)(n:Nat):It:=⟨λ i _=>i<n,λ i H x h=>h=H/\x=.int (lo+i * d),λ i _=>n<=i⟩
def Bn (t:TA):TI:=λ σ H R=>t σ H λ vs H1=>∃i j:Int,vs=[.int i,.int j,.int (-1)]/\(-(2 ^ 62)<=i/\i<2 ^ 62/\-(2 ^ 62)<=j/\j<2 ^ 62)/\R (Bg i (-1) (i - j).toNat) H1
noncomputable def C9 (h:Int)(n:Nat):jf:=⟨λ _ i=>if i<n then some (some (.int (h - i))) else some none,n⟩
def Bm (m M:Ev):Ei:=λ ρ A=>(m ρ A).bind λ w A1=>(M ρ A1).bind λ a A2=>match w,a with
 |.int i,.int j=>if jo i&&jo j then .ok (C9 i (i - j).toNat) A2 else .bad|_,_=>.bad
def D8 (t:TA):TE:=λ σ H Q=>t σ H λ vs H1=>∃j:Int,vs=[.int j]/\∀p,H1 p=none->Q (.ref p) (upd H1 p (.rng 0 j))
theorem Hq {T:TA}(g:Gl X "range")(hm:X.mg "range" = none)(e:PA X [a] T)(d:starEach [a] X.env=[(false,eval a X.env)]):PE X (.Call (.Name "range" p) [a] [] pos) (D8 T):=by
 intro pins s σ H Q I h;refine Call_ (Zk I g hm boot_range (PyProof.Rows.callWith_type1 (zU (e pos pins s σ H _ I h) λ us s1 ⟨vs,H1,i,r,c⟩=>?_) d rfl));obtain⟨j,rfl,q⟩:=c;obtain⟨u,rfl,⟨t,rfl⟩⟩:=r.one;refine call_range_1 ⟨.ref _,_,i.laid (o:=.rng 0 j) (λ b o E=>ae _ E) (ar _) ?_,rfl,q _ (i.hok.fresh (ar _))⟩;exact⟨_,_,_,au _ rfl⟩
noncomputable def Qb (n:Nat):List V:=(List.range n).map λ (i:Nat)=>V.int i
theorem Nq (y:X.calm=true):jK X (.type "list") (λ xs H Q=>∃(r:Addr) (j:Int),xs=[.ref r]/\H r=some (.rng 0 j)/\(-(2 ^ 62)<=j/\j<2 ^ 62)/\j.toNat<=sizeLine/\∀l,H l=none->Q (.ref l) (upd H l (.lst (Qb j.toNat)))):=by
 intro pins s σ H xs us Q I r h;obtain⟨p,j,rfl,w,⟨A,B⟩,z,q⟩:=h;obtain⟨u,rfl,g⟩:=vals1 r;cases g;obtain⟨t1,T,t3,x⟩:=I.hok p _ w;have D:sizeLine=16777216:=sizeLine_eq;refine PySem.call_list_range (n:=j.toNat) (I.ok.hd y) (show IsRange s.heap p 0 j 1 t1 T t3 from x) (small_one (by omega) (by omega) A B) (by rw[rangeSize_one];split<;>omega) (by omega) λ h' tk acc C K S ⟨hn,d⟩=>?_
 refine⟨.ref s.heap.objs.size,_,I.laid (t':=tk) (o:=.lst (Qb j.toNat)) K (ar _) ?_,rfl,q _ (I.hok.fresh (ar _))⟩;refine⟨by unfold Qb;simpa using z,acc.toList,C,?_,by simpa using S⟩
 have a:∀(l:List Value)(k:Nat),(∀(i:Nat) v,l[i]? =some v->∃t,v=.int ((k+i:Nat):Int) t)->Vals ((List.range' k l.length).map λ (i:Nat)=>V.int i) l:=by
  intro l
  induction l with
  |nil=>intro k _;exact .nil|cons v l m=>
   intro k e;rw[bc,range'_succ,aO];refine .cons ?_ (m (k+1) λ i f a=>?_)
   ·obtain⟨t,rfl⟩:=e 0 v rfl
    exact⟨t,rfl⟩
   ·obtain⟨t,rfl⟩:=e (i+1) f (by simpa using a)
    exact⟨t,by congr 1;omega⟩
 have b:acc.toList.length=j.toNat:=by simpa using hn
 have:=a acc.toList 0 λ i v c=>by
  obtain⟨t,rfl⟩:=d i v (by simpa using c)
  exact⟨t,by congr 1;omega⟩
 rw[b]at this;unfold Qb;rw[range_eq_range'];exact this
def JE (m:Ev):Ev:=λ ρ A=>(m ρ A).bind λ w A1=>match w with
 |.int j=>if jo j&&decide (j.toNat<=zX) then .ok (.ref A1.length) (A1++[.lst ((List.range j.toNat).map λ (i:Nat)=>W.int i)]) else .bad|_=>.bad
noncomputable def Bp (i:Nat)(m:Ev):Ex:=λ ρ A=>match ρ[i]? with
 |some (some (.int x))=>(m ρ A).bind λ w A1=>match w with
  |.int y=>.ok (.nx (ρ.set i (some (.int (x+y))))) A1|_=>.bad
 |_=>.bad
noncomputable def DO:V->V->Hp->VK->Prop:=λ o i H Q=>∃p xs k v,o=.ref p/\i=.int k/\0<=k/\H p=some (.lst xs)/\xs[k.toNat]? =some v/\Q v H
theorem Ib:R8 X DO:=by
 intro pins s σ H o i g j Q I ro d h;obtain⟨p,xs,k,v,rfl,rfl,h0,f,e,q⟩:=h;cases ro;obtain⟨t,rfl⟩:=d;obtain⟨a,r,P,z⟩:=I.list (qL.of f);obtain⟨u,b,c⟩:=r.get e;have hn:=QN;have l:=r.length;have m:k.toNat<a.length:=(qa2.mp b).1;exact wpAny_getItem_list P.isList h0 (by omega) (by simpa using b) ⟨v,H,I,c,q⟩
def JT (mo mi me:Ev):Ex:=λ ρ A=>(mo ρ A).bind λ o A1=>(mi ρ A1).bind λ i A2=>match o,i with
 |.ref n,.int k=>if 0<=k then(match (A2[n]?:Option O) with
  |some (.lst ws)=>match ws[k.toNat]? with
   |some (.int x)=>(me ρ A2).bind λ y b=>match y with
    |.int y=>(j7 (.ref n) (.int k) (.int (x+y)) b).bind λ _ a=>.ok (.nx ρ) a|_=>.bad
   |_=>.bad
  |_=>.bad) else .bad
 |_,_=>.bad
noncomputable def QS (i j k:Nat):Tg:=λ w ρ=>match w with
 |.tup [x,.tup [y,z]]=>some (((ρ.set i (some x)).set j (some y)).set k (some z))|_=>none
end
def je (k:Bool)(h:Heap)(it a:Addr)(i:Nat):Prop:=if k=true then h.IsListIter it a i else h.IsTupleIter it a i
def jC (k:Bool)(h:Heap)(a:Addr)(items:Array Value):Prop:=if k=true then h.IsList a items else h.IsTuple a items
def yE (k:Bool)(K:Frag)(H:Hp)(a:Addr)(xs:List V):Prop:=if k=true then qL K H a xs else qi K H a xs
noncomputable def Z5 (k:Bool):String:=if k then "list_iterator" else "tuple_iterator"
theorem je.ob {k:Bool}{it:Addr}(x:je k h it a i):∃o,h.get? it=some o/\o.cls=.type (Z5 k)/\o.data=.fields #[.ref a,.int i 0]:=by
 cases k<;>exact x
theorem je.mk {k:Bool}{it:Addr}(x:∃o,h.get? it=some o/\o.cls=.type (Z5 k)/\o.data=.fields #[.ref a,.int i 0]):je k h it a i:=by
 cases k<;>exact x
theorem je.to {k:Bool}{h':Heap}{it:Addr}(x:je k h it a i)(e:∀o,h.get? it=some o->h'.get? it=some o):je k h' it a i:=let ⟨o,h1,r⟩:=x.ob;.mk ⟨o,e o h1,r⟩
theorem jC.ob {k:Bool}{items:Array Value}(x:jC k h a items):∃o,h.get? a=some o/\o.cls=.type (if k then "list" else "tuple")/\∃n,o.data=.seq items n:=by
 cases k<;>exact x
theorem jC.to {k:Bool}{h':Heap}{items:Array Value}(x:jC k h a items)(e:∀o,h.get? a=some o->h'.get? a=some o):jC k h' a items:=by
 cases k with
 |false=>exact let ⟨o,h1,r⟩:=x.ob;⟨o,e o h1,r⟩|true=>exact let ⟨o,h1,r⟩:=x.ob;⟨o,e o h1,r⟩
section
variable {prog:Program}{A:Around}{k:Bool}{it:Addr}{items:Array Value}
theorem T7 (h:jC k s.heap a items)(H:Q (.ref s.heap.objs.size) { s with heap:=s.heap.push { cls:=.type (Z5 k),data:=.fields #[.ref a,.int 0 0] } }):wpAny (model prog w) A (pyIter (.ref a)) Q E s:=by
 cases k with
 |true=>exact wpAny_pyIter_list h H|false=>exact wpAny_pyIter_tuple h H
theorem YV {x:Value}(hit:je k s.heap it a i)(l:jC k s.heap a items)(f:items[i]? =some x)
  (g:∀h',je k h' it a (i+1)->Heap.SameBut it s.heap h'->Q x { s with heap:=h' }):wpAny (model prog w) A (Builtin.SmallTypes.nextOf (.ref it)) Q E s:=by
 cases k with
 |true=>exact wpAny_nextOf_list_item hit l f g|false=>
  have h:s.heap.IsTupleIter it a i:=hit;obtain⟨o,b,e,H⟩:=id h;obtain⟨j,c,_,na,d⟩:s.heap.IsTuple a items:=l;unfold Builtin.SmallTypes.nextOf;refine qa0 (wpAny_callSpecial?_slot (name:=Str.ofString "__next__") h.typeIs F.slot_tuple_iterator_next (wpAny_call_entry F.slot_tuple_iterator_next h.typeIs F.entry_tuple_iterator_next ?_ (F.args_tuple_iterator_next_1 _)));show wpAny _ _ (field (.ref it) 0 >>= _) _ _ s;refine qa0 (wpAny_field b H (x:=.ref a) rfl ?_);show wpAny _ _ (if (Value.ref a==Value.none)=true then _ else _) _ _ s;rw[aj (show ¬((Value.ref a==Value.none)=true) from ay)]
  show wpAny _ _ (field (.ref it) 1 >>= _) _ _ s;refine qa0 (wpAny_field b H (x:=.int i 0) rfl ?_);show wpAny _ _ (seqItems? (.ref a) >>= _) _ _ s;refine qa0 (wpAny_seqItems c d ?_);simp only[aw,f];refine qa0 (wpAny_setField b H (by simp) (qa1 ⟨x,rfl,qa1 (g _ (.mk ?_) (Heap.SameBut.update ..))⟩))
  exact⟨_,a5 _ b (Obj.isFreed_of_fields (Obj.data_mapFields H _)),(Obj.cls_mapFields ..).trans e,by rw[Obj.data_mapFields H];simp[rawInt]⟩
theorem GA (d:A.handled=none)(hit:je k s.heap it a i)(l:jC k s.heap a items)(g:items[i]? =none)
  (j:∀h' e,Heap.ExtBut it s.heap h'->(∃o,h'.get? e=some o/\o.cls=.type "StopIteration")->E (.ref e) { s with heap:=h' }):wpAny (model prog w) A (Builtin.SmallTypes.nextOf (.ref it)) Q E s:=by
 cases k with
 |true=>exact wpAny_nextOf_list_end d hit l g j|false=>
  have h:s.heap.IsTupleIter it a i:=hit;obtain⟨p,H,n,b⟩:=id h;obtain⟨q,c,_,na,f⟩:s.heap.IsTuple a items:=l;unfold Builtin.SmallTypes.nextOf;refine qa0 (wpAny_callSpecial?_slot (name:=Str.ofString "__next__") h.typeIs F.slot_tuple_iterator_next (wpAny_call_entry F.slot_tuple_iterator_next h.typeIs F.entry_tuple_iterator_next ?_ (F.args_tuple_iterator_next_1 _)));show wpAny _ _ (field (.ref it) 0 >>= _) _ _ s;refine qa0 (wpAny_field H b (x:=.ref a) rfl ?_);show wpAny _ _ (if (Value.ref a==Value.none)=true then _ else _) _ _ s;rw[aj (show ¬((Value.ref a==Value.none)=true) from ay)]
  show wpAny _ _ (field (.ref it) 1 >>= _) _ _ s;refine qa0 (wpAny_field H b (x:=.int i 0) rfl ?_);show wpAny _ _ (seqItems? (.ref a) >>= _) _ _ s;refine qa0 (wpAny_seqItems c f ?_);simp only[aw,g];refine qa0 (wpAny_rule (qa0 (wpAny_setField H b (by simp) ?_)))
  show wpAny _ _ (newExc (.type "StopIteration") [] >>= _) _ _ _;refine qa0 ?_;simp only[newExc,newTuple];refine qa0 (wpAny_newObj_type ?_ (by size_fits))
  refine qa0 (m:=firstArgMember _ _) (wpAny_of_eq (a:=Value.none) (by first|rfl | (simp only[firstArgMember];rfl)) ?_);refine wpAny_newObj_type ?_ (by size_fits)
  simp only[raiseNew];refine qa0 (wpAny_handled ?_)
  first|rw[show A.in1.handled=none from d] | rw[d]
  refine qa0 (qa1 (wpAny_throw ?_));exact j _ _ (((Heap.SameBut.update ..).extBut.push _).push _) ⟨_,au _ rfl,rfl⟩
theorem To (j:A.handled=none)(c:a≠it):Draws prog w A it [it,a] items.size (λ i v=>items[i]? =some v) (λ i h=>je k h it a i/\jC k h a items) where
 live:=λ _ _ st=>let ⟨o,g,_⟩:=st.1.ob;⟨o,g⟩
 frame:=λ _ _ _ st d=>⟨st.1.to λ o e=>d it (by simp) o e,st.2.to λ o e=>d a (by simp) o e⟩
 item:=λ i s Q E f st l=>YV st.1 st.2 (x:=items[i]) (by simp[f]) λ h' b H=>l _ h' s.toks (by simp[f]) ⟨b,st.2.to λ o e=>H.extBut a o c e⟩ H
 done:=λ s Q E st m=>GA j st.1 st.2 (by simp) m
end
section
variable {h':Heap}
theorem _root_.L2.Inv.spun {T:Addr}{o:HO}(I:Inv X pins σ H s)(k:∀b u,b∉fp->s.heap.get? b=some u->h'.get? b=some u)(hf:∀b∈fp,yW X pins H b)(d:s.heap.objs.size<=T)
  (new:jk X.prog X.w (upd H T o) h' T o):Inv X pins σ (upd H T o) { s with heap:=h',toks:=t' }:=by
 have hn:H T=none:=I.hok.fresh d;have lt:∀b u,s.heap.get? b=some u->b≠T:=λ b u e=>aM (aI (aH e) d);have N:∀b u,H b=some u->b∉fp:=λ b u e z=>by rw[(hf b z).1]at e;cases e
 refine I.step (g':=s.gens) (d':=s.drawn) (ch:=fp) (λ b a=>let ⟨_,f1,_,i,f4,g⟩:=hf b a;⟨i,f1,f4,g⟩) (λ b o _ _ h e _=>k b o h e) (λ b o _ _ h e _=>⟨o.slots,k b o h e⟩)
  (λ b o _ e n=>by rw[qj (lt b o e)];exact n) (λ b o h e=>⟨o,k b o h e⟩) (λ b xs e=>by rw[qj (kN e hn)];exact e) (λ b u xs e=>by rw[qj (kN e hn)];exact e)
  (λ b P e=>⟨#[],by rw[qj (kN e hn),e];simp⟩) (λ m hm=>?_) (λ b u e=>?_) I.bare
 ·obtain⟨o,E,p,f,r⟩:=hm
  exact⟨o,E,p,k _ o (λ z=>(hf _ z).2.1 rfl) f,r⟩
 ·by_cases a:b=T
  ·subst a;rw[jN]at e;cases e;exact new
  ·rw[qj a]at e
   refine(I.hok b u e).stay (λ c v h q=>k c v ?_ q) (λ c q=>by rw[qj (kN q hn)];exact q) λ c xs q=>by rw[qj (kN q hn)];exact q
   rcases h with z|z
   ·rw[z];exact N b u e
   ·exact N c _ z
theorem _root_.L2.Inv.spun0 (I:Inv X pins σ H s)(k:∀b u,b∉fp->s.heap.get? b=some u->h'.get? b=some u)(hf:∀b∈fp,yW X pins H b):Inv X pins σ H { s with heap:=h',toks:=t' }:=by
 have N:∀b u,H b=some u->b∉fp:=λ b u e z=>by rw[(hf b z).1]at e;cases e
 refine I.step (g':=s.gens) (d':=s.drawn) (ch:=fp) (λ b d=>let ⟨_,f1,_,g,f4,f⟩:=hf b d;⟨g,f1,f4,f⟩) (λ b o _ _ h e _=>k b o h e) (λ b o _ _ h e _=>⟨o.slots,k b o h e⟩)
  (λ b o _ e n=>n) (λ b o h e=>⟨o,k b o h e⟩) (λ b xs e=>e) (λ b u xs e=>e) (λ b P e=>⟨#[],by rw[e];simp⟩) (λ m hm=>?_) (λ b u e=>?_) I.bare
 ·obtain⟨o,E,p,a,r⟩:=hm
  exact⟨o,E,p,k _ o (λ z=>(hf _ z).2.1 rfl) a,r⟩
 ·refine(I.hok b u e).stay (λ c v h q=>k c v ?_ q) (λ c q=>q) λ c xs q=>q
  rcases h with z|z
  ·rw[z];exact N b u e
  ·exact N c _ z
theorem _root_.L2.Inv.sq {k:Bool}(I:Inv X pins σ H s)(h:yE k X.K H a xs):∃i:List Value,Vals xs i/\jC k s.heap a i.toArray/\xs.length<=sizeLine:=by
 cases k with
 |true=>obtain⟨i,r,p,z⟩:=I.list h;exact⟨i,r,p.isList,z⟩|false=>obtain⟨i,r,p,z⟩:=I.tuple h;exact⟨i,r,(show s.heap.IsTuple a i.toArray from p),z⟩
theorem _root_.L2.Inv.sq_inj {k:Bool}(I:Inv X pins σ H s)(h:yE k X.K H a xs)(h':yE k X.K H a ys):xs=ys:=by
 cases k with
 |true=>exact I.list_inj h h'|false=>exact I.tuple_inj h h'
end
def XA (k:Bool)(K:Frag)(a:Addr):It:=
 ⟨λ i H=>∃xs x,yE k K H a xs/\xs[i]? =some x,λ i H x h=>∃p y,(∀xs,yE k K H a xs->xs[i]? =some y)/\H p=none/\x=.ref p/\h=upd H p (.tup [.int i,y]),λ i H=>∃xs,yE k K H a xs/\xs.length=i⟩
theorem MJ {K:Frag}(k:Bool)(a n it:Addr):Turn P w K (.Tuple elts kk tpos) (XA k K a) [n,it] n (λ i h=>(∃old,IsEnum h n it i old)/\je k h it a i/\n≠it) where
 mem:=by simp
 obj:=λ i h st b f=>by
  obtain⟨⟨old,he⟩,g,_⟩:=st;rcases qa3.mp f with rfl|f
  ·exact⟨_,he,λ v z=>nomatch z⟩
  ·rw[qa7.mp f]
   obtain⟨o,Q,_,hd⟩:=g.ob;exact⟨o,Q,λ v z=>by rw[hd]at z;cases z⟩
 keep:=λ i h h' ⟨⟨old,he⟩,g,ne⟩ kp=>⟨⟨old,kp n (by simp) _ he⟩,g.to λ o p=>kp it (by simp) o p,ne⟩
 item:=by
  intro X hP hw hK hc i pins s σ H E I hf st T;subst hP hw hK;obtain⟨⟨old,he⟩,g,ne⟩:=st;obtain⟨xs,x,C,B⟩:=T;obtain⟨d,D,r,hz⟩:=I.sq C;obtain⟨u,hu,ru⟩:=D.get B;have S:i<d.toArray.size:=by simpa using (qa2.mp hu).1
  obtain⟨oa,j,Z,na,e⟩:=r.ob;have A:a≠it:=λ z=>by
   obtain⟨oi,c,Y,m⟩:=g.ob;rw[<- z,j]at c;cases c;rw[m]at e;cases e
  have ane:n≠a:=λ z=>by
   have t:s.heap.get? a=_:=z ▸ he;rw[j]at t;cases t;cases e
  refine wpAny_pyNext_enum_itemD (To (k:=k) (items:=d.toArray) (I.ok.hd hc) A) he ⟨g,r⟩ S ne (by simp[ne,ane]) λ y h1 tk J Q N hT hsz hk=>?_
  have ey:y=u:=by
   have:d[i]? =some y:=by simpa using J
   rw[hu]at this;exact(az this).symm
  subst ey;refine⟨_,rfl,wpAny_letOwnedTupleGo_enum Q λ h2 U l=>?_⟩;have L:n<s.heap.objs.size:=aH he;have hT2:h2.get? s.heap.objs.size=some { cls:=.type "tuple",data:=.seq #[.int i tk,y] }:=l.extBut _ _ (bj L) hT;refine⟨.ref s.heap.objs.size,upd H s.heap.objs.size (.tup [.int i,x]),?_,rfl,⟨s.heap.objs.size,x,λ ys J=>by rw[I.sq_inj J C];exact B,I.hok.fresh (ar _),rfl,rfl⟩,⟨⟨_,by simpa using U⟩,?_,ne⟩,λ b f=>?_⟩
  ·refine I.spun (fp:=[n,it]) (t':=tk+1) (λ b o f p=>?_) hf (ar _) ?_
   ·exact l.extBut _ _ (λ z=>f (by simp[z])) (hk b o (λ z=>f (by simp[z])) (λ z=>f (by simp[z])) p)
   ·exact⟨by show 2<=sizeLine;decide,[.int i tk,y],.cons ⟨tk,rfl⟩ (.cons ru .nil),_,hT2,⟨rfl,rfl⟩,0,rfl⟩
  ·exact N.1.to λ o p=>l.extBut _ _ (λ z=>ne z.symm) p
  ·have bn:b≠s.heap.objs.size:=λ z=>by
    rcases qa3.mp f with q|q
    ·exact absurd L (by rw[<- q,z];exact aZ _)
    ·obtain⟨oi,c,_⟩:=g.ob
     exact absurd (aH c) (by rw[<- qa7.mp q,z];exact aZ _)
   show upd H s.heap.objs.size _ b=none;rw[qj bn];exact(hf b f).1
 done:=by
  intro X hP hw hK hc i pins s σ H E I hf st T;subst hP hw hK;obtain⟨⟨old,he⟩,g,ne⟩:=st;obtain⟨xs,C,B⟩:=T;obtain⟨d,D,r,hz⟩:=I.sq C;have en':d.toArray.size=i:=by rw[aB,<- D.length];exact B
  obtain⟨oa,j,Z,na,e⟩:=r.ob;have A:a≠it:=λ z=>by
   obtain⟨oi,c,Y,m⟩:=g.ob;rw[<- z,j]at c;cases c;rw[m]at e;cases e
  refine wpAny_pyNext_enum_endD (To (k:=k) (items:=d.toArray) (I.ok.hd hc) A) he ⟨by rw[en'];exact g,r⟩ λ h1 M=>⟨rfl,?_⟩
  exact I.spun0 (fp:=[n,it]) (t':=s.toks) (λ b o f p=>M b o (λ z=>f (by simp[z])) p) hf
 self:=λ _ _ _ _ _ ⟨⟨_,he⟩,_⟩ h=>wpAny_pyIter_enum he h
open AutoSeq1 (wpAny_loadPart')
abbrev Ks (h:Heap)(k:Bool)(a:Addr):Heap:=h.push { cls:=.type (Z5 k),data:=.fields #[.ref a,.int 0 0] }
abbrev RZ (h:Heap)(k:Bool)(a:Addr):Heap:=(Ks h k a).push { cls:=.type "enumerate",data:=.fields #[.none,.bool false,.ref h.objs.size,rawInt 0,.none,.none] }
theorem O1 (a:Addr)(items:Array Value)(n:Nat)(D:Option Addr)(S:Array (Option Value)):
  Meets (Builtin.«enumerate.__new__» ⟨[.type "enumerate",.ref a],[]⟩) (λ _ R s=>s.heap.get? a=some { cls:=.type "tuple",dict:=D,data:=.seq items n,slots:=S }/\R (.ok (.ret (.ref (Ks s.heap false a).objs.size))) { s with heap:=RZ s.heap false a }):=
 .of_wp λ prog w A R s h=>by
  obtain⟨p,g,d,tk,os⟩:=s;obtain⟨H,h⟩:=h;have b:=sub_enumerate;have T:Heap.IsTuple (Shared.heap ⟨p,g,d,tk,os⟩) a items:=⟨_,H,rfl,n,rfl⟩
  wp_walk using wpAny_loadPart' H
  refine wpAny_stack_any λ st=>qa1 ?_;split
  ·rename_i c _ _ _ _ _
   cases (c==Value.type "enumerate")<;>(wp_walk using wpAny_loadPart' H,wpAny_pyIter_tuple T;exact⟨_,rfl,h⟩)
  ·wp_walk using wpAny_loadPart' H,wpAny_pyIter_tuple T
   exact⟨_,rfl,h⟩
section
variable {prog:Program}{A:Around}
theorem M4 {k:Bool}{items:Array Value}(l:jC k s.heap a items)
  (h:∀h',IsEnum h' (s.heap.objs.size+1) s.heap.objs.size 0 .none->je k h' s.heap.objs.size a 0->(∀b o,s.heap.get? b=some o->h'.get? b=some o)->Q (.ref (s.heap.objs.size+1)) { s with heap:=h' }):
  wpAny (model prog w) A (call (.type "enumerate") [.ref a]) Q E s:=by
 cases k with
 |true=>exact call_enumerate_list l λ h' g f _ e=>h h' g f e|false=>
  obtain⟨⟨c,D,dt,S⟩,d,H,n,hd⟩:=(show s.heap.IsTuple a items from l)
  replace H:c=.type "tuple" := H
  replace hd:dt=.seq items n:=hd
  subst H hd;refine callType_new F.called_enumerate (by decide) (F.typeCall_enumerate_1 _) (F.newCall_enumerate_1 _) (λ obj=>F.args_object_init_2 obj _) F.entry_enumerate_new (O1 a items n D S) ⟨d,?_⟩
  have z:(Ks s.heap false a).objs.size=s.heap.objs.size+1:=ba ..;have he:IsEnum (RZ s.heap false a) (Ks s.heap false a).objs.size s.heap.objs.size 0 .none:=au _ rfl;show _/\_;rw[z]at he ⊢;exact⟨⟨_,he,rfl⟩,h _ he (.mk ⟨_,ae _ (au _ rfl),rfl,rfl⟩) λ b o x=>ae _ (ae _ x)⟩
end
section
variable {a b:Expr}{m:Ev}
def Cp (K:Frag)(t:TA):TI:=λ σ H R=>t σ H λ vs H1=>∃p k xs,vs=[.ref p]/\yE k K H1 p xs/\R (XA k K p) H1
theorem boot_enumerate:bootBuiltins "enumerate" = some (.type "enumerate"):=by rfl
theorem boot_zip:bootBuiltins "zip" = some (.type "zip"):=by rfl
theorem HL {t:TA}(l:Gl X "enumerate")(hm:X.mg "enumerate" = none)(n:PA X [a] t)(g:starEach [a] X.env=[(false,eval a X.env)]):
  PI X (.Tuple elts kk tpos) (.Call (.Name "enumerate" p) [a] [] pos) (Cp X.K t):=by
 intro pins s σ H R I h;refine Call_ (Zk I l hm boot_enumerate (PyProof.Rows.callWith_type1 (zU (n pos pins s σ H _ I h) λ us s1 ⟨vs,H1,i,d,Q⟩=>?_) g rfl));obtain⟨p,k,xs,rfl,j,q⟩:=Q;obtain⟨u,rfl,r⟩:=d.one;cases r;obtain⟨f,v,sq,w⟩:=i.sq j;refine M4 sq λ h' e o E=>wpAny_pyIter_enum e ?_;refine⟨s1.heap.objs.size+1,[s1.heap.objs.size+1,s1.heap.objs.size],_,_,H1,rfl,i.kept (t':=s1.toks) E,MJ k p _ _,⟨⟨_,by simpa using e⟩,o,Nat.succ_ne_self _⟩,λ b m=>?_,q⟩
 have c:s1.heap.objs.size<=b:=by
  rcases qa3.mp m with z|z
  ·rw[z];exact le_succ _
  ·rw[qa7.mp z];exact ar _
 exact i.fpOk c (i.hok.fresh c)
noncomputable def atEnd (ws:List W)(i:Nat)(f:W->W):Option (Option W):=match ws[i]? with
 |some x=>some (some (f x))|none=>if ws.length=i then some none else none
def jS (w:W)(n:Nat):jf:=⟨λ A i=>match qa w A with
 |some ws=>atEnd ws i λ x=>.tup [.int i,x]|none=>none,n⟩
noncomputable def Zt (w:W):Bool:=match w with
 |.tup _=>false|_=>true
theorem YH {K:Frag}{A:Hx}{w:W}{ws:List W}(S:zN K φ A H)(q:RV K φ H w v)(e:qa w A=some ws):∃p ys,v=.ref p/\yE (Zt w) K H p ys/\zJ K φ H ws ys:=by
 cases w with
 |tup us=>cases e;obtain⟨a,vs,E,t,r⟩:=q;exact⟨a,vs,E,t,r⟩|ref n=>
  obtain⟨a,E,f⟩:=q;unfold qa at e;dsimp only at e;cases c:A[n]? with
  |none=>rw[c]at e;cases e|some o=>
   rw[c]at e;obtain⟨g,d,r⟩:=S.ob n o c;rw[f]at d;cases d;cases o with
   |lst xs=>cases e;obtain⟨y,b,h⟩:=r;exact⟨a,y,E,qL.of b,h⟩|ro xs=>cases e;obtain⟨y,b,h⟩:=r;exact⟨a,y,E,b.sq,h⟩|dct xs=>cases e|tab _ _=>cases e
 |non=>cases e|bl _=>cases e|clo _ _ _=>cases e|xc _=>cases e|int _=>cases e|str _=>cases e
theorem WM {K:Frag}{a:List Addr}{A:Hx}{h:Hp}{w:W}{b:List W}{p:Addr}(q:RV K φ H w (.ref p))(lw:gR K φ H a h)(S:zN K a A h)(E:qa w A=some b):∃y,yE (Zt w) K h p y/\zJ K a h b y:=by
 obtain⟨P,ys,e,d,c⟩:=YH S (RV.monoW lw q) E;cases e;exact⟨ys,d,c⟩
theorem DJ {K:Frag}{w:W}{p:Addr}(q:RV K φ H w (.ref p)):gQ K φ H (jS w n) (XA (Zt w) K p):=λ i c m l lw S=>by
 unfold jS;dsimp only;cases es:qa w l with
 |none=>exact⟨λ _ z=>(by cases z),λ z=>(by cases z)⟩|some ws=>
  dsimp only;obtain⟨ys,a,b⟩:=WM q lw S es;unfold atEnd;cases E:ws[i]? with
  |none=>
   dsimp only
   by_cases h:ws.length=i
   ·rw[af h]
    exact⟨λ _ z=>(by cases z),λ _=>⟨ys,a,by rw[<- b.length];exact h⟩⟩
   ·rw[aj h]
    exact⟨λ _ z=>(by cases z),λ z=>(by cases z)⟩
  |some x=>
   dsimp only;refine⟨λ u z=>?_,λ z=>(by cases z)⟩
   cases z;obtain⟨y,e,j⟩:=b.get E;refine⟨⟨ys,y,a,e⟩,λ X H1 ⟨t,Y,d,f,ex,g⟩=>?_⟩;subst ex g
   have:=d ys a
   rw[e]at this;cases this;obtain⟨a1,a2,A⟩:=Zj S f (.cons (w:=.int i) (v:=.int i) rfl (.one j));exact⟨a1,a2,A⟩
def jW (m:Ev):Ei:=λ ρ A=>(m ρ A).bind λ w A1=>match qa w A1 with
 |some ws=>.ok (jS w ws.length) A1|none=>.bad
end
section
variable {prog:Program}{A:Around}{z TI TO i1 i2 l1 l2:Addr}{n1 n2:Nat}{c1 c2:Bool}{xs ys:Array Value}{x y a b:Value}
theorem Fj (D:ZipApart z TI TO i1 i2 l1 l2)(H:IsZip s.heap z TI TO .none)(I:IsPair s.heap TI (.ref i1) (.ref i2))(u:IsPair s.heap TO a b)
  (g1:je c1 s.heap i1 l1 n1)(g2:je c2 s.heap i2 l2 n2)(s1:jC c1 s.heap l1 xs)(s2:jC c2 s.heap l2 ys)(hx:xs[n1]? =some x)(Y:ys[n2]? =some y)
  (hQ:∀h',IsZip h' z TI TO (rawInt s.heap.objs.size)->IsPair h' TI (.ref i1) (.ref i2)->IsPair h' TO x y->je c1 h' i1 l1 (n1+1)->je c2 h' i2 l2 (n2+1)->IsPair h' s.heap.objs.size x y->
   (∀c o,c≠z->c≠TO->c≠i1->c≠i2->s.heap.get? c=some o->h'.get? c=some o)->Q (.ref s.heap.objs.size) { s with heap:=h' }):
  wpAny (model prog w) A (Builtin.«zip.__next__» ⟨[.ref z],[]⟩) (λ fin X=>∃v,fin=.done (.ret v)/\Q v X) E s:=by
 show wpAny _ _ (field (.ref z) 2 >>= _) _ _ _;refine qa0 (wpAny_field H rfl (x:=.bool false) rfl ?_);show wpAny _ _ (field (.ref z) 3 >>= _) _ _ _;refine qa0 (wpAny_field H rfl (x:=.ref TI) rfl (qa0 (wpAny_seqItems I rfl ?_)));show wpAny _ _ (Builtin.SmallTypes.ownedTupleIsFree (.ref z) >>= _) _ _ _;refine qa0 ?_;unfold Builtin.SmallTypes.ownedTupleIsFree;refine qa0 (wpAny_field H rfl (x:=.none) rfl (qa1 ?_));simp only[if_true];refine qa0 (wpAny_rule (qa0 (wpAny_field H rfl (x:=.ref TO) rfl ?_)));refine qa0 (wpAny_setField_rec H (by simp) λ ha p sa=>?_);replace p:IsZip ha z TI TO .ellipsis:=p
 refine qa0 ?_;simp only[List.zipIdx_cons,List.zipIdx_nil,forIn_cons,forIn_nil];refine qa0 (qa0 (wpAny_onRaise ?_));show wpAny _ _ (Builtin.SmallTypes.nextOf (.ref i1) >>= _) _ _ _;refine qa0 (YV (g1.to λ o e=>sa.extBut _ _ D.i1z e) (s1.to λ o e=>sa.extBut _ _ D.l1z e) hx λ hb gb l=>qa1 ?_);have K:IsPair hb TO a b:=l.extBut _ _ D.TOi1 (sa.extBut _ _ D.TOz u);refine qa0 (wpAny_seqItems K rfl (qa0 (wpAny_updateSeq_pair K λ P T sc=>qa0 (wpAny_letGo (qa1 ?_)))));replace T:IsPair P TO x b:=T;refine qa0 (qa0 (wpAny_onRaise ?_));show wpAny _ _ (Builtin.SmallTypes.nextOf (.ref i2) >>= _) _ _ _;have up:∀c o,c≠z->c≠i1->c≠TO->s.heap.get? c=some o->P.get? c=some o:=λ c o f d h e=>sc.extBut _ _ h (l.extBut _ _ d (sa.extBut _ _ f e));refine qa0 (YV (g2.to λ o e=>up _ o D.i2z D.i12.symm D.TOi2.symm e) (s2.to λ o e=>up _ o D.l2z D.l2i1 D.l2TO e) Y λ hd gd g=>qa1 ?_);have J:IsPair hd TO x b:=g.extBut _ _ D.TOi2 T;refine qa0 (wpAny_seqItems J rfl (qa0 (wpAny_updateSeq_pair J λ he t S=>qa0 (wpAny_letGo (qa1 (qa1 ?_))))));replace t:IsPair he TO x y:=t;refine qa0 (wpAny_seqItems t rfl (qa0 (wpAny_newTuple ?_)));have i:he.objs.size=s.heap.objs.size:=by rw[S.1,g.1,sc.1,l.1,sa.1]
 have C:IsZip he z TI TO .ellipsis:=S.extBut _ _ D.TOz.symm (g.extBut _ _ D.i2z.symm (sc.extBut _ _ D.TOz.symm (l.extBut _ _ D.i1z.symm p)));have N:∀c o,c≠z->c≠TO->c≠i1->c≠i2->s.heap.get? c=some o->he.get? c=some o:=λ c o f d h r e=>S.extBut _ _ d (g.extBut _ _ r (up c o f h d e));have ge1:je c1 he i1 l1 (n1+1):=((gb.to λ o e=>sc.extBut _ _ D.TOi1.symm e).to λ o e=>g.extBut _ _ D.i12 e).to λ o e=>S.extBut _ _ D.TOi1.symm e;have B:je c2 he i2 l2 (n2+1):=gd.to λ o e=>S.extBut _ _ D.TOi2.symm e;have Z:z<he.objs.size:=aH C;show wpAny _ _ (Builtin.SmallTypes.ownedTupleHandOut (.ref z) (.ref he.objs.size) >>= _) _ _ _;refine qa0 ?_;unfold Builtin.SmallTypes.ownedTupleHandOut;have U:IsZip (he.push { cls:=.type "tuple",data:=.seq #[x,y] }) z TI TO .ellipsis:=ae _ C;refine qa0 (wpAny_setField_rec U (by simp) λ hg n M=>?_);replace n:IsZip hg z TI TO (rawInt he.objs.size):=n
 refine wpAny_setField_rec n (by simp) λ m j L=>?_;replace j:IsZip m z TI TO (rawInt he.objs.size):=j
 have fin:∀c o,c≠z->he.get? c=some o->m.get? c=some o:=λ c o q e=>L.extBut _ _ q (M.extBut _ _ q (ae _ e));have tk:IsPair m he.objs.size x y:=L.extBut _ _ (bj Z) (M.extBut _ _ (bj Z) (au _ rfl));rw[i]at j tk;refine qa1 ⟨_,rfl,?_⟩;show Q (.ref he.objs.size) _;rw[i];exact hQ m j (fin _ _ D.TIz (N _ _ D.TIz D.TITO D.TIi1 D.TIi2 I)) (fin _ _ D.TOz t) (ge1.to λ o e=>fin _ o D.i1z e) (B.to λ o e=>fin _ o D.i2z e) tk λ c o f d h r e=>fin c o f (N c o f d h r e)
theorem Dz {Q:Fin->Shared->Prop}(J:A.handled=none)(D:ZipApart z TI TO i1 i2 l1 l2)(i:IsZip s.heap z TI TO .none)(I:IsPair s.heap TI (.ref i1) (.ref i2))(u:IsPair s.heap TO a b)
  (g1:je c1 s.heap i1 l1 n1)(g2:je c2 s.heap i2 l2 n2)(s1:jC c1 s.heap l1 xs)(s2:jC c2 s.heap l2 ys)(j:xs[n1]? =none∨ys[n2]? =none)
  (K:∀h' e,(∀c o,c≠z->c≠TO->c≠i1->c≠i2->s.heap.get? c=some o->h'.get? c=some o)->(∃o,h'.get? e=some o/\o.cls=.type "StopIteration")->E (.ref e) { s with heap:=h' }):
  wpAny (model prog w) A (Builtin.«zip.__next__» ⟨[.ref z],[]⟩) Q E s:=by
 show wpAny _ _ (field (.ref z) 2 >>= _) _ _ _;refine qa0 (wpAny_field i rfl (x:=.bool false) rfl ?_);show wpAny _ _ (field (.ref z) 3 >>= _) _ _ _;refine qa0 (wpAny_field i rfl (x:=.ref TI) rfl (qa0 (wpAny_seqItems I rfl ?_)));show wpAny _ _ (Builtin.SmallTypes.ownedTupleIsFree (.ref z) >>= _) _ _ _;refine qa0 ?_;unfold Builtin.SmallTypes.ownedTupleIsFree;refine qa0 (wpAny_field i rfl (x:=.none) rfl (qa1 ?_));simp only[if_true];refine qa0 (wpAny_rule (qa0 (wpAny_field i rfl (x:=.ref TO) rfl ?_)));refine qa0 (wpAny_setField_rec i (by simp) λ t Z sa=>?_);replace Z:IsZip t z TI TO .ellipsis:=Z
 refine qa0 ?_;simp only[List.zipIdx_cons,List.zipIdx_nil,forIn_cons,forIn_nil];refine qa0 (qa0 (wpAny_onRaise ?_));show wpAny _ _ (Builtin.SmallTypes.nextOf (.ref i1) >>= _) _ _ _;have ga:=g1.to (h':=t) λ o e=>sa.extBut _ _ D.i1z e;have Y:=s1.to (h':=t) λ o e=>sa.extBut _ _ D.l1z e;cases n:xs[n1]? with
 |none=>
  refine qa0 (GA J ga Y n λ r e S he=>?_);obtain⟨m,h,H⟩:=he;have y:IsZip r z TI TO .ellipsis:=S _ _ D.i1z.symm Z;have f:e≠z:=λ q=>by subst q;rw[y]at h;cases h;simp at H
  exact wpAny_setField_rec y (by simp) λ p _ sc=>K p e (λ c o d _ g _ q=>sc.extBut _ _ d (S _ _ g (sa.extBut _ _ d q))) ⟨m,sc.extBut _ _ f h,H⟩
 |some x=>
  have M:ys[n2]? =none:=by
   rcases j with q|q
   ·rw[n]at q;cases q
   ·exact q
  refine qa0 (YV ga Y n λ r P S=>qa1 ?_);have T:IsPair r TO a b:=S.extBut _ _ D.TOi1 (sa.extBut _ _ D.TOz u);refine qa0 (wpAny_seqItems T rfl (qa0 (wpAny_updateSeq_pair T λ p N sc=>qa0 (wpAny_letGo (qa1 ?_)))));refine qa0 (qa0 (wpAny_onRaise ?_));show wpAny _ _ (Builtin.SmallTypes.nextOf (.ref i2) >>= _) _ _ _;have up:∀c o,c≠z->c≠i1->c≠TO->s.heap.get? c=some o->p.get? c=some o:=λ c o d l g e=>sc.extBut _ _ g (S.extBut _ _ l (sa.extBut _ _ d e));refine qa0 (GA J (g2.to λ o e=>up _ o D.i2z D.i12.symm D.TOi2.symm e) (s2.to λ o e=>up _ o D.l2z D.l2i1 D.l2TO e) M λ hd e C he=>?_);obtain⟨m,h,H⟩:=he;have v:IsZip hd z TI TO .ellipsis:=C _ _ D.i2z.symm (sc.extBut _ _ D.TOz.symm (S.extBut _ _ D.i1z.symm Z));have f:e≠z:=λ q=>by subst q;rw[v]at h;cases h;simp at H
  exact wpAny_setField_rec v (by simp) λ hf _ B=>K hf e (λ c o d l g L q=>B.extBut _ _ d (C _ _ L (up c o d g l q))) ⟨m,B.extBut _ _ f h,H⟩
theorem FE {Q:Option Value->Shared->Prop}(D:ZipApart z TI TO i1 i2 l1 l2)(d:IsZip s.heap z TI TO .none)(H:IsPair s.heap TI (.ref i1) (.ref i2))(h:IsPair s.heap TO a b)
  (g1:je c1 s.heap i1 l1 n1)(g2:je c2 s.heap i2 l2 n2)(s1:jC c1 s.heap l1 xs)(s2:jC c2 s.heap l2 ys)(n:xs[n1]? =some x)(m:ys[n2]? =some y)
  (p:∀h',IsZip h' z TI TO (rawInt s.heap.objs.size)->IsPair h' TI (.ref i1) (.ref i2)->IsPair h' TO x y->je c1 h' i1 l1 (n1+1)->je c2 h' i2 l2 (n2+1)->IsPair h' s.heap.objs.size x y->
   (∀c o,c≠z->c≠TO->c≠i1->c≠i2->s.heap.get? c=some o->h'.get? c=some o)->Q (some (.ref s.heap.objs.size)) { s with heap:=h' }):wpAny (model prog w) A (pyNext (.ref z)) Q E s:=by
 have T:s.TypeIs (.ref z) "zip" := ⟨_,d,rfl⟩;unfold pyNext;exact qa0 (wpAny_attempt (wpAny_callSpecial?_slot (name:=Str.ofString "__next__") T F.slot_zip_next (wpAny_call_entry F.slot_zip_next T F.entry_zip_next
  (Fj D d H h g1 g2 s1 s2 n m λ h' l j i g f e q=>qa1 (p h' l j i g f e q)) (F.args_zip_next_1 _))))
theorem FH {Q:Option Value->Shared->Prop}(j:A.handled=none)(D:ZipApart z TI TO i1 i2 l1 l2)(d:IsZip s.heap z TI TO .none)(I:IsPair s.heap TI (.ref i1) (.ref i2))(H:IsPair s.heap TO a b)
  (g1:je c1 s.heap i1 l1 n1)(g2:je c2 s.heap i2 l2 n2)(s1:jC c1 s.heap l1 xs)(s2:jC c2 s.heap l2 ys)(h:xs[n1]? =none∨ys[n2]? =none)
  (m:∀h',(∀c o,c≠z->c≠TO->c≠i1->c≠i2->s.heap.get? c=some o->h'.get? c=some o)->Q none { s with heap:=h' }):wpAny (model prog w) A (pyNext (.ref z)) Q E s:=by
 have f:s.TypeIs (.ref z) "zip" := ⟨_,d,rfl⟩;unfold pyNext;refine qa0 (wpAny_attempt (wpAny_callSpecial?_slot (name:=Str.ofString "__next__") f F.slot_zip_next (wpAny_call_entry F.slot_zip_next f F.entry_zip_next (Dz j D d I H g1 g2 s1 s2 h λ h' e i he=>?_) (F.args_zip_next_1 _))));obtain⟨o,g,l⟩:=he;exact qa0 (wpAny_isInstance (T := "StopIteration") (b:=true) ⟨o,g,l⟩ isSubtype_stop (qa1 (m _ i)))
end
abbrev Kq (h:Heap)(c:Bool)(l:Addr):Heap:=h.push { cls:=.type (Z5 c),data:=.fields #[.ref l,.int 0 0] }
abbrev Kx (h:Heap)(C c:Bool)(L l:Addr):Heap:=(Kq h C L).push { cls:=.type (Z5 c),data:=.fields #[.ref l,.int 0 0] }
abbrev Kt (h:Heap)(c C:Bool)(l L:Addr):Heap:=(Kx h c C l L).push { cls:=.type "tuple",data:=.seq #[.ref h.objs.size,.ref (Kq h c l).objs.size] }
abbrev Kv (h:Heap)(C c:Bool)(L l:Addr):Heap:=(Kt h C c L l).push { cls:=.type "tuple",data:=.seq #[.none,.none] }
abbrev Q0 (h:Heap)(C c:Bool)(L l:Addr):Heap:=(Kv h C c L l).push { cls:=.type "zip",data:=.fields #[.none,.bool false,.bool false,.ref (Kx h C c L l).objs.size,.ref (Kt h C c L l).objs.size] }
theorem MK (c C:Bool)(l L:Addr)(xs ys:Array Value):
  Meets (Builtin.«zip.__new__» ⟨[.type "zip",.ref l,.ref L],[]⟩) (λ _ R s=>jC c s.heap l xs/\jC C s.heap L ys/\R (.ok (.ret (.ref (Kv s.heap c C l L).objs.size))) { s with heap:=Q0 s.heap c C l L }):=
 .of_wp λ prog w A R s h=>by
  obtain⟨p,g,d,tk,os⟩:=s;obtain⟨Q,q,h⟩:=h;have H:=sub_zip;have a:jC c (Shared.heap ⟨p,g,d,tk,os⟩) l xs:=Q;have K:jC C (Shared.heap ⟨p.push { cls:=.type (Z5 c),data:=.fields #[.ref l,.int 0 0] },g,d,tk,os⟩) L ys:=q.to λ o e=>ae _ e
  wp_walk using T7 a,T7 K
  exact⟨_,rfl,h⟩
section
variable {prog:Program}{A:Around}{c1 c2:Bool}{l1 l2:Addr}{xs ys:Array Value}
theorem IM (s1:jC c1 s.heap l1 xs)(s2:jC c2 s.heap l2 ys)
  (h:∀h' n,n=s.heap.objs.size->IsZip h' (n+4) (n+2) (n+3) .none->IsPair h' (n+2) (.ref n) (.ref (n+1))->IsPair h' (n+3) .none .none->je c1 h' n l1 0->je c2 h' (n+1) l2 0->
   (∀c o,s.heap.get? c=some o->h'.get? c=some o)->Q (.ref (n+4)) { s with heap:=h' }):wpAny (model prog w) A (call (.type "zip") [.ref l1,.ref l2]) Q E s:=by
 refine callType_new F.called_zip (by decide) (F.typeCall_zip_2 _ _) (F.newCall_zip_2 _ _) (λ obj=>F.args_object_init_3 obj _ _) F.entry_zip_new (MK c1 c2 l1 l2 xs ys) ⟨s1,s2,?_⟩
 have a:(Kq s.heap c1 l1).objs.size=s.heap.objs.size+1:=ba ..;have Z:(Kx s.heap c1 c2 l1 l2).objs.size=s.heap.objs.size+2:=by rw[ba,a]
 have z:(Kt s.heap c1 c2 l1 l2).objs.size=s.heap.objs.size+3:=by rw[ba,Z]
 have b:(Kv s.heap c1 c2 l1 l2).objs.size=s.heap.objs.size+4:=by rw[ba,z]
 have y:(Q0 s.heap c1 c2 l1 l2).get? (Kv s.heap c1 c2 l1 l2).objs.size=some _:=au _ rfl;have Y:(Q0 s.heap c1 c2 l1 l2).get? (Kt s.heap c1 c2 l1 l2).objs.size=some _:=ae _ (au _ rfl);have d:(Q0 s.heap c1 c2 l1 l2).get? (Kx s.heap c1 c2 l1 l2).objs.size=some _:=ae _ (ae _ (au _ rfl));have e:(Q0 s.heap c1 c2 l1 l2).get? (Kq s.heap c1 l1).objs.size=some _:=ae _ (ae _ (ae _ (au _ rfl)));have f:(Q0 s.heap c1 c2 l1 l2).get? s.heap.objs.size=some _:=ae _ (ae _ (ae _ (ae _ (au _ rfl))));show _/\_;rw[Z,z,b]at y;rw[a,Z]at d;rw[z]at Y;rw[a]at e;rw[b];exact⟨⟨_,y,rfl⟩,h _ _ rfl y d Y (.mk ⟨_,f,rfl,rfl⟩) (.mk ⟨_,e,rfl,rfl⟩) λ c o q=>
  ae _ (ae _ (ae _ (ae _ (ae _ q))))⟩
end
def Xo (C c:Bool)(K:Frag)(p q:Addr):It:=
 ⟨λ i H=>∃xs ys x y,yE C K H p xs/\yE c K H q ys/\xs[i]? =some x/\ys[i]? =some y,
  λ i H v h=>∃t x y,(∀xs,yE C K H p xs->xs[i]? =some x)/\(∀ys,yE c K H q ys->ys[i]? =some y)/\H t=none/\v=.ref t/\h=upd H t (.tup [x,y]),
  λ i H=>∃xs ys,yE C K H p xs/\yE c K H q ys/\(xs[i]? =none∨ys[i]? =none)⟩
theorem L1 {K:Frag}(c1 c2:Bool)(p q z TI T r n:Addr)(D:ZipApart z TI T r n p q):
  Turn P w K (.Tuple elts kk tpos) (Xo c1 c2 K p q) [z,TI,T,r,n] z (λ i h=>IsZip h z TI T .none/\IsPair h TI (.ref r) (.ref n)/\(∃a b,IsPair h T a b)/\je c1 h r p i/\je c2 h n q i) where
 mem:=by simp
 obj:=λ i h st b d=>by
  obtain⟨j,g,⟨Q,N,f⟩,g1,g2⟩:=st;simp only[mem_cons,not_mem_nil,or_false]at d;rcases d with rfl|rfl|rfl|rfl|rfl
  ·exact⟨_,j,λ v e=>nomatch e⟩
  ·exact⟨_,g,λ v e=>nomatch e⟩
  ·exact⟨_,f,λ v e=>nomatch e⟩
  ·obtain⟨o,A,_,hd⟩:=g1.ob;exact⟨o,A,λ v e=>by rw[hd]at e;cases e⟩
  ·obtain⟨o,A,_,hd⟩:=g2.ob;exact⟨o,A,λ v e=>by rw[hd]at e;cases e⟩
 keep:=λ i h h' ⟨j,g,⟨Q,N,f⟩,g1,g2⟩ k=>⟨k z (by simp) _ j,k TI (by simp) _ g,⟨Q,N,k T (by simp) _ f⟩,g1.to λ o e=>k r (by simp) o e,g2.to λ o e=>k n (by simp) o e⟩
 item:=by
  intro X hP hw hK hc i pins s σ H E I hf st hg;subst hP hw hK;obtain⟨j,g,⟨Q,N,f⟩,g1,g2⟩:=st;obtain⟨xs,ys,x,y,M,L,ex,ey⟩:=hg;obtain⟨m,r1,t,_⟩:=I.sq M;obtain⟨l,r2,S,_⟩:=I.sq L;obtain⟨Y,eu1,ru1⟩:=r1.get ex;obtain⟨U,eu2,Z⟩:=r2.get ey;refine FE D j g f g1 g2 t S (x:=Y) (y:=U) (by simpa using eu1) (by simpa using eu2) λ hh z1 z2 z3 z4 z5 z6 kp=>?_
  refine⟨_,rfl,wpAny_letOwnedTupleGo_zip z1 λ hk zk C=>?_⟩;have lt:∀{c o},s.heap.get? c=some o->c≠s.heap.objs.size:=λ e=>aM (aH e);have T2:IsPair hk s.heap.objs.size Y U:=C.extBut _ _ (lt j).symm z6;have fre:∀b∈[z,TI,T,r,n],b≠s.heap.objs.size:=λ b d=>by
   simp only[mem_cons,not_mem_nil,or_false]at d;rcases d with rfl|rfl|rfl|rfl|rfl
   ·exact lt j
   ·exact lt g
   ·exact lt f
   ·obtain⟨o,A,_⟩:=g1.ob;exact lt A
   ·obtain⟨o,A,_⟩:=g2.ob;exact lt A
  refine⟨.ref s.heap.objs.size,upd H s.heap.objs.size (.tup [x,y]),?_,rfl,⟨s.heap.objs.size,x,y,λ zs u=>by rw[I.sq_inj u M];exact ex,λ zs u=>by rw[I.sq_inj u L];exact ey,I.hok.fresh (ar _),rfl,rfl⟩,
   ⟨zk,C.extBut _ _ D.TIz z2,⟨_,_,C.extBut _ _ D.TOz z3⟩,z4.to λ o e=>C.extBut _ _ D.i1z e,z5.to λ o e=>C.extBut _ _ D.i2z e⟩,λ b d=>?_⟩
  ·refine I.spun (fp:=[z,TI,T,r,n]) (t':=s.toks) (λ b o d eo=>?_) hf (ar _) ?_
   ·exact C.extBut _ _ (λ e=>d (by simp[e])) (kp b o (λ e=>d (by simp[e])) (λ e=>d (by simp[e])) (λ e=>d (by simp[e])) (λ e=>d (by simp[e])) eo)
   ·exact⟨by show 2<=sizeLine;decide,[Y,U],.cons ru1 (.cons Z .nil),_,T2,⟨rfl,rfl⟩,0,rfl⟩
  ·show upd H s.heap.objs.size _ b=none
   rw[qj (fre b d)];exact(hf b d).1
 done:=by
  intro X hP hw hK hc i pins s σ H E I hf st hg;subst hP hw hK;obtain⟨j,g,⟨Q,N,f⟩,g1,g2⟩:=st;obtain⟨xs,ys,M,L,J⟩:=hg;obtain⟨m,r1,t,_⟩:=I.sq M;obtain⟨l,r2,S,_⟩:=I.sq L;have B:m.toArray[i]? =none∨l.toArray[i]? =none:=by
   rcases J with e|e
   ·exact .inl (by simpa using r1.none_of e)
   ·exact .inr (by simpa using r2.none_of e)
  exact FH (I.ok.hd hc) D j g f g1 g2 t S B λ hh kp=>⟨rfl,I.spun0 (fp:=[z,TI,T,r,n]) (t':=s.toks) (λ b o d eo=>kp b o (λ e=>d (by simp[e])) (λ e=>d (by simp[e])) (λ e=>d (by simp[e])) (λ e=>d (by simp[e])) eo) hf⟩
 self:=λ _ _ _ _ _ st h=>wpAny_pyIter_zip st.1 h
section
variable {a b:Expr}{m:Ev}
def C0 (K:Frag)(t:TA):TI:=λ σ H R=>t σ H λ vs H1=>∃p q C c xs ys,vs=[.ref p,.ref q]/\yE C K H1 p xs/\yE c K H1 q ys/\R (Xo C c K p q) H1
theorem DD {T:TA}(P:Gl X "zip")(hm:X.mg "zip" = none)(U:PA X [a,b] T)(M:starEach [a,b] X.env=(false,eval a X.env)::starEach [b] X.env)(N:(backTo pos (starEach [b] X.env)).any (·.1)=false):
  PI X (.Tuple elts kk tpos) (.Call (.Name "zip" p) [a,b] [] pos) (C0 X.K T):=by
 intro pins s σ H R I h;refine Call_ (Zk I P hm boot_zip (PyProof.Rows.callWith_type1 (zU (U pos pins s σ H _ I h) λ us s1 ⟨vs,H1,g,J,Q⟩=>?_) M N));obtain⟨p,q,c1,c2,xs,ys,rfl,h1,h2,Y⟩:=Q;obtain⟨u1,u2,rfl,m,r⟩:=J.two;cases m;cases r;obtain⟨v,C,d,_⟩:=g.sq h1;obtain⟨u,B,S,_⟩:=g.sq h2;obtain⟨op,t,_⟩:=d.ob;obtain⟨oq,o,_⟩:=S.ob;have L:p<s1.heap.objs.size:=aH t;have l:q<s1.heap.objs.size:=aH o;refine IM d S λ h' n E z A y x Z kp=>wpAny_pyIter_zip z ?_;rw[<- E]at L l;have ne1:∀(i j:Nat),i≠j->n+i≠n+j:=λ i j h e=>h (Nat.add_left_cancel e);have ne2:∀(c:Nat)(i:Nat),c<n->c≠n+i:=λ c i h e=>absurd h (by rw[e];exact Nat.not_lt.mpr (le_add_right n i))
 have D:ZipApart (n+4) (n+2) (n+3) (n+0) (n+1) p q:=⟨ne1 2 4 (by decide),ne1 3 4 (by decide),ne1 0 4 (by decide),ne1 1 4 (by decide),ne1 2 3 (by decide),ne1 2 0 (by decide),ne1 2 1 (by decide),ne1 3 0 (by decide),ne1 3 1 (by decide),ne1 0 1 (by decide),
  ne2 p 4 L,ne2 p 3 L,ne2 p 0 L,ne2 p 1 L,ne2 q 4 l,ne2 q 3 l,ne2 q 0 l,ne2 q 1 l⟩
 refine⟨n+4,[n+4,n+2,n+3,n,n+1],_,_,H1,rfl,g.kept (t':=s1.toks) kp,L1 c1 c2 p q _ _ _ _ _ D,⟨z,A,⟨_,_,y⟩,x,Z⟩,λ c w=>?_,Y⟩;have f:s1.heap.objs.size<=c:=by
  rw[<- E];simp only[mem_cons,not_mem_nil,or_false]at w;rcases w with rfl|rfl|rfl|rfl|rfl
  ·exact le_add_right _ _
  ·exact le_add_right _ _
  ·exact le_add_right _ _
  ·exact ar _
  ·exact le_add_right _ _
 exact g.fpOk f (g.hok.fresh f)
noncomputable def zip2:Option W->Option W->Option W
 |some x,some y=>some (.tup [x,y])|_,_=>none
def kY (w a:W)(n:Nat):jf:=⟨λ A i=>match qa w A,qa a A with
 |some us,some vs=>some (zip2 us[i]? vs[i]?)|_,_=>none,n⟩
theorem DM {K:Frag}{w a:W}{p P:Addr}(q:RV K φ H w (.ref p))(Q:RV K φ H a (.ref P)):gQ K φ H (kY w a n) (Xo (Zt w) (Zt a) K p P):=λ i c D A lw S=>by
 unfold kY;dsimp only;cases es:qa w A with
 |none=>exact⟨λ _ z=>(by cases z),λ z=>(by cases z)⟩|some us=>
  cases es':qa a A with
  |none=>exact⟨λ _ z=>(by cases z),λ z=>(by cases z)⟩|some vs=>
   dsimp only;obtain⟨xs,b,f⟩:=WM q lw S es;obtain⟨ys,h,d⟩:=WM Q lw S es';have non:∀{us:List W}{xs:List V},zJ K c D us xs->us[i]? =none->xs[i]? =none:=λ r e=>by
    rw[List.getElem?_eq_none_iff]at e ⊢;rw[<- r.length];exact e
   cases j:us[i]? with
   |none=>exact⟨λ _ z=>(by cases z),λ _=>⟨xs,ys,b,h,.inl (non f j)⟩⟩|some x=>
    cases E:vs[i]? with
    |none=>exact⟨λ _ z=>(by cases z),λ _=>⟨xs,ys,b,h,.inr (non d E)⟩⟩|some y=>
     refine⟨λ u z=>?_,λ z=>(by cases z)⟩
     cases z;obtain⟨l,f1,f2⟩:=f.get j;obtain⟨v,g,f4⟩:=d.get E;refine⟨⟨xs,ys,l,v,b,h,f1,g⟩,λ X H1 ⟨t,I,Y,o,m,s,ex,B⟩=>?_⟩;subst ex B;have g1:=o xs b;have g2:=m ys h;rw[f1]at g1;cases g1;rw[g]at g2;cases g2;obtain⟨a1,a2,C⟩:=Zj S s (.cons f2 (.one f4));exact⟨a1,a2,C⟩
def wC (m M:Ev):Ei:=λ ρ A=>(m ρ A).bind λ w A1=>(M ρ A1).bind λ a A2=>match qa w A2,qa a A2 with
 |some us,some _=>.ok (kY w a us.length) A2|_,_=>.bad
variable {K:Frag}{c:Expr}
noncomputable def R6:Ev:=λ _ A=>.ok (.ref A.length) (A++[.dct []])
noncomputable def KC:W->Option Key
 |.int i=>some (.inl i)|_=>none
noncomputable def jB (k:Key):List (Key×W)->Option W
 |[]=>none|(j,w)::r=>if j=k then some w else jB k r
theorem WZ (k:Key):∀{kvs:List (Key×W)}{us:List (Key×V)},us.map (·.1)=kvs.map (·.1)->zJ K φ H (kvs.map (·.2)) (us.map (·.2))->
  (∀w,jB k kvs=some w->∃v,yq us k=some v/\RV K φ H w v)/\(jB k kvs=none->yq us k=none)
 |[],[],_,_=>⟨λ w h=>(by cases h),λ _=>rfl⟩|[],_::_,h,_=>by simp at h|_::_,[],h,_=>by simp at h|(j,w)::kvs,(J,v)::us,h,r=>by
  simp only[aO,List.cons.injEq]at h;obtain⟨g,l,e,d,c⟩:=r;simp only[aO,List.cons.injEq]at e;obtain⟨rfl,rfl⟩:=e;have i:=WZ k h.2 c;have b:J=j:=h.1;subst b
  by_cases a:J=k
  ·refine⟨λ f hw=>⟨v,YC a,?_⟩,λ hn=>?_⟩
   ·unfold jB at hw;rw[af a]at hw;cases hw;exact d
   ·unfold jB at hn;rw[af a]at hn;cases hn
  ·unfold jB
   rw[aj a,YL (p:=(J,v)) a];exact i
theorem zN.dct {A:Hx}{kvs:List (Key×W)}(S:zN K φ A H)(q:RV K φ H (.ref n) v)(e:A[n]? =some (.dct kvs)):∃p us,v=.ref p/\φ[n]? =some p/\H p=some (.dK us)/\us.map (·.1)=kvs.map (·.1)/\zJ K φ H (kvs.map (·.2)) (us.map (·.2)):=by
 obtain⟨p,rfl,a⟩:=q;obtain⟨P,h,us,d,c,b⟩:=S.ob n _ e;rw[a]at h;cases h;exact⟨p,us,rfl,a,d,c,b⟩
def Ki:W->W->Hx->R W:=λ d k A=>match d,KC k with
 |.ref n,some k=>match A[n]? with
  |some (.dct kvs)=>match jB k kvs with
   |some w=>.ok w A|none=>.bad
  |_=>.bad
 |_,_=>.bad
def HN:V->List V->Hp->VK->Prop:=λ x vs H Q=>∃p us k d,x=.ref p/\vs=[kV k,d]/\H p=some (.dK us)/\us.length<sizeLine/\(∀v,yq us k=some v->Q v H)/\(yq us k=none->Q d (upd H p (.dK (putK us k d))))
theorem Lc:J7 X "dict.setdefault" HN:=by
 intro pins s σ H x vs v us Q I i j h;obtain⟨p,kvs,k,d,rfl,rfl,f,A,n,m⟩:=h;cases i;obtain⟨U,u,rfl,l,c⟩:=j.two;obtain⟨z,hd,ws,rel,g⟩:=RK I.hok f;refine call_meetsIn PySem.F.slot_dict_setdefault g.typeIs PySem.F.entry_dict_setdefault (PySem.F.args_dict_setdefault_3 _ _ _) (kt_meets_setdefault (ym X.prog X.w) p (G8 l) hd u) ⟨ws,g,by rw[<- rel.length];exact z,λ v o=>?_,λ hn h' D t=>?_⟩
 ·have r:=rel.val k
  rw[o]at r;cases e:yq kvs k with
  |none=>rw[e]at r;exact r.elim|some a=>rw[e]at r;exact⟨a,H,I.tok _,r,n a e⟩
 ·have r:=rel.val k
  rw[hn]at r;cases e:yq kvs k with
  |some a=>rw[e]at r;exact r.elim|none=>
   have b:(putK kvs k d).length<=sizeLine:=by have:=O6 kvs k d;omega
   have he:∃q,h'.get? p=some q:=let ⟨q,_,_,y,_⟩:=D;⟨q,y⟩
   exact⟨d,_,Fy I (by rw[f];exact True.intro) t he (EW b hd (rel.put k c) D),c,m e⟩
noncomputable def KP (x:W)(A:Hx):Bool:=match x with
 |.ref n=>match A[n]? with
  |some (.dct _)=>true|_=>false
 |_=>false
def gB:W->W->W->Hx->R W:=λ d k v A=>match d,KC k with
 |.ref n,some k=>match A[n]? with
  |some (.dct kvs)=>if kvs.length<zX then(match jB k kvs with
   |some w=>.ok w A|none=>.ok v (A.set n (.dct (kvs++[(k,v)])))) else .bad
  |_=>.bad
 |_,_=>.bad
def QQ (g:W->W->W->Hx->R W)(a b c:Ev):Ev:=λ ρ A=>(a ρ A).bind λ x A1=>if KP x A1 then(b ρ A1).bind λ y A2=>(c ρ A2).bind λ z d=>g x y z d else .bad
theorem Lv {A:Hx}{w:W}(S:zN K φ A H)(q:RV K φ H w v)(e:KP w A=true):KN K "dict" v H:=by
 unfold KP at e;cases w with
 |ref n=>
  dsimp only at e;cases E:A[n]? with
  |none=>rw[E]at e;cases e|some o=>cases o with
   |dct ws=>obtain⟨p,us,rfl,_,h,_⟩:=S.dct q E;exact .inr (.inr (.inl ⟨rfl,.inl ⟨us,h⟩⟩))|_=>rw[E]at e;cases e
 |_=>cases e
end
def Xq (d:Addr)(o:Obj)(us:List (Key×V)):It:=
 ⟨λ i H=>H d=some (.frz o (.dK us))/\i<us.length,λ i H x h=>∃t p,us[i]? =some p/\H t=none/\x=.ref t/\h=upd H t (.tup [kV p.1,p.2]),λ i H=>H d=some (.frz o (.dK us))/\us[i]? =none⟩
theorem F9 {k:Key}(h:(ym P w).is k u=true):RelV (kV k) u:=by
 rw[Nt]at h;rcases wO h with ⟨i,t,rfl,rfl⟩|⟨x,t,rfl,rfl⟩
 ·exact⟨t,rfl⟩
 ·exact⟨t,rfl⟩
theorem KV.at:∀{us:List (Key×V)}{vs:List (Key×Value)}{i:Nat}{p:Key×V},KV us vs->us[i]? =some p->∃u,vs[i]? =some (p.1,u)/\RelV p.2 u
 |[],_,_,_,_,e=>by simp at e|q::us,_,0,p,.cons (b:=b) r t,e=>by
  simp at e;subst e;exact⟨b.2,by simp only[List.getElem?_cons_zero];rw[r.1],r.2⟩
 |q::us,_,i+1,p,.cons r t,e=>by
  obtain⟨u,H,h⟩:=KV.at (i:=i) (p:=p) t (by simpa using e)
  exact⟨u,by simpa using H,h⟩
section
theorem _root_.L2.Inv.frzD {d:Addr}{o:Obj}{us:List (Key×V)}{f:Nat}(I:Inv X pins σ H s)(h:H d=some (.frz o (.dK us)))(p:∃E,o.data=.dict E f):∃vs,KV us vs/\s.heap.DictAt (ym X.prog X.w) d vs f:=by
 obtain⟨a,z,hd,vs,rel,D⟩:=I.hok d _ h;obtain⟨i,o',es',e,g,c,r⟩:=D.dictAt;rw[a]at e;cases e;obtain⟨E,he⟩:=p;have b:=c;rw[he]at b;injection b with l j
 subst j;exact⟨vs,rel,o,es',a,g,c,r⟩
end
theorem IS:entryFor table "dict_itemiterator.__iter__" = some Builtin.«dict_keyiterator.__iter__»:=entryFor_alias (id' := "dict_keyiterator.__iter__") (by kernel_rfl)
 (by first|rfl|decide +kernel | (unfold String.splitOn;simp +decide [String.splitOnAux])) (by decide +kernel) (by kernel_rfl)
theorem ND {K:Frag}(d it:Addr)(o:Obj)(us:List (Key×V))(l:Nat)(j:∃Y,o.data=.dict Y l):
  Turn P w K (.Tuple elts kk tpos) (Xq d o us) [it] it (λ i h=>∃ok a,IsItemIter h it d i us.length l ok a) where
 mem:=by simp
 obj:=λ i h ⟨ok,a,st⟩ b c=>by
  rw[qa7.mp c];exact⟨_,st,λ v e=>nomatch e⟩
 keep:=λ i h h' ⟨ok,a,st⟩ k=>⟨ok,a,k it (by simp) _ st⟩
 item:=by
  intro X q hw r x i pins s σ H E I hf st m;subst q hw r;obtain⟨ok,a,st⟩:=st;obtain⟨hd,g⟩:=m;obtain⟨vs,rel,D⟩:=I.frzD hd j;obtain⟨u,J,B⟩:=KV.at rel (i:=i) (p:=us[i]) (by simp[g])
  have S:IsItemIter s.heap it d i vs.length l ok a:=by rw[<- rel.length];exact st
  refine wpAny_pyNext_items_item S D J λ key U y M T L kp=>⟨_,rfl,wpAny_letOwnedTupleGo_items M λ N n f=>?_⟩;have lt:it<s.heap.objs.size:=aH st;have Z:N.get? s.heap.objs.size=some { cls:=.type "tuple",data:=.seq #[key,u] }:=f.extBut _ _ (bj lt) T;refine⟨.ref s.heap.objs.size,upd H s.heap.objs.size (.tup [kV us[i].1,us[i].2]),?_,rfl,⟨s.heap.objs.size,us[i],by simp[g],I.hok.fresh (ar _),rfl,rfl⟩,⟨_,_,by rw[rel.length];exact n⟩,λ b c=>?_⟩
  ·refine I.spun (fp:=[it]) (t':=s.toks) (λ b ob c t=>?_) hf (ar _) ?_
   ·exact f.extBut _ _ (λ z=>c (by simp[z])) (kp b ob (λ z=>c (by simp[z])) t)
   ·exact⟨by show 2<=sizeLine;decide,[key,u],.cons (F9 y) (.cons B .nil),_,Z,⟨rfl,rfl⟩,0,rfl⟩
  ·show upd H s.heap.objs.size _ b=none
   have bn:b≠s.heap.objs.size:=λ z=>by rw[qa7.mp c]at z;exact absurd lt (by rw[z];exact aZ _)
   rw[qj bn];exact(hf b c).1
 done:=by
  intro X q hw r x i pins s σ H E I hf st m;subst q hw r;obtain⟨ok,a,st⟩:=st;obtain⟨hd,g⟩:=m;obtain⟨vs,rel,D⟩:=I.frzD hd j;have S:IsItemIter s.heap it d i vs.length l ok a:=by rw[<- rel.length];exact st
  have hn:vs[i]? =none:=by
   rw[List.getElem?_eq_none_iff]at g ⊢;rw[<- rel.length];exact g
  exact wpAny_pyNext_items_end (I.ok.hd x) S D hn λ U C=>⟨rfl,I.spun0 (fp:=[it]) (t':=s.toks) (λ b ob c t=>C b ob (λ z=>c (by simp[z])) t) hf⟩
 self:=λ A i s Q E ⟨ok,a,st⟩ h=>by
  have T:s.TypeIs (.ref it) "dict_itemiterator" := ⟨_,st,rfl⟩;refine wpAny_pyIter_slot T F.slot_dict_itemiterator_iter (wpAny_call_entry F.slot_dict_itemiterator_iter T IS ?_ (F.args_dict_itemiterator_iter_1 _));show wpAny _ _ (ret (.ref it)) _ _ s;exact qa1 ⟨_,rfl,"dict_itemiterator",_,T,F.slot_dict_itemiterator_next.lookup,h⟩
section
variable {a b:Expr}{m:Ev}
def Dn (t:TE):TI:=λ σ H R=>t σ H λ x H1=>∃d us,x=.ref d/\H1 d=some (.dK us)/\∀o,R (Xq d o us) (upd H1 d (.frz o (.dK us)))
theorem Io {T:TE}(u:PE X a T)(i:attributeBase a "items" X.env (eval a X.env)=eval a X.env)(g:(apos.endLine==cpos.line)=true):
  PI X (.Tuple elts kk tpos) (.Call (.Attribute a "items" apos) [] [] cpos) (Dn T):=by
 intro pins s σ H R I h;refine wpAny_Call_method0_late i g (zU (u pins s σ H _ I h) λ v s1 ⟨x,H1,m,n,d,us,ex,hd,q⟩=>?_);subst ex;cases n;obtain⟨z,f,vs,rel,D⟩:=RK m.hok hd;obtain⟨o,l,p,c,hex,t,r⟩:=id D;refine⟨"dict","dict.items",PySem.F.plainAttrs_dict,PySem.F.slot_dict_items,PySem.F.type_dict_items,D.typeIs,λ b E=>by cases E;exact⟨o,c,hex.2.1⟩,Calls.callWith_builtin rfl (PySem.evalArgs_none ?_)⟩
 refine call_meetsIn PySem.F.slot_dict_items D.typeIs PySem.F.entry_dict_items (PySem.F.args_dict_items_1 _) (meets_dict_items (ym X.prog X.w) d f) ⟨⟨vs,D⟩,?_⟩;have B:Inv X pins σ (upd H1 d (.frz o (.dK us))) { s1 with heap:=s1.heap,toks:=s1.toks }:=m.write (x:=d) (e:=d) (o:=.frz o (.dK us)) (t':=s1.toks) (h':=s1.heap) (by rw[hd];exact True.intro) (.inl rfl) (λ _ _ _ q=>q) ⟨o,c⟩ ⟨c,z,f,vs,rel,D⟩
 have j:Inv X pins σ (upd H1 d (.frz o (.dK us))) { s1 with heap:=s1.heap.push { cls:=.type "dict_items",data:=.fields #[.ref d] } }:=B.kept (t':=s1.toks) λ b ob q=>ae _ q
 have A:(s1.heap.push { cls:=.type "dict_items",data:=.fields #[.ref d] }).DictAt (ym X.prog X.w) d vs p:=⟨o,l,ae _ c,hex,t,r⟩;refine wpAny_pyIter_items (s:={ s1 with heap:=s1.heap.push { cls:=.type "dict_items",data:=.fields #[.ref d] } }) ⟨_,au _ rfl,rfl,rfl⟩ A ?_
 refine⟨_,[_],_,_,_,rfl,j.kept (t':=s1.toks) λ b ob q=>ae _ q,ND d _ o us p ⟨l,t⟩,⟨.none,.none,?_⟩,λ b y=>?_,q o⟩
 ·rw[rel.length];exact au _ rfl
 ·have E:=qa7.mp y
  subst E;exact j.fpOk (ar _) (j.hok.fresh (ar _))
noncomputable def kW:Key->W
 |.inl i=>.int i|.inr x=>.str x
def Qg (kvs:List (Key×W)):jf:=⟨λ _ i=>some (kvs[i]?.map λ p=>.tup [kW p.1,p.2]),kvs.length⟩
def Z2 (m:Ev):Ei:=λ ρ A=>match A with
 |[]=>(m ρ []).bind λ w A1=>match w,A1 with
  |.ref 0,[.dct kvs]=>if qR (kvs.map (·.2)) then .ok (Qg kvs) [] else .bad|_,_=>.bad
 |_=>.bad
theorem CA {K:Frag}{d:Addr}{o:Obj}{us:List (Key×V)}{kvs:List (Key×W)}(hd:H d=some (.frz o (.dK us)))(f:us.map (·.1)=kvs.map (·.1))(B:zJ K φ H (kvs.map (·.2)) (us.map (·.2)))(n:qR (kvs.map (·.2))=true):
  gQ K φ H (Qg kvs) (Xq d o us):=λ i a g J lw S=>by
 unfold Qg;dsimp only;have h:=lw.fz d o _ hd;have E:zJ K a g (kvs.map (·.2)) (us.map (·.2)):=B.nrm lw.tp lw.fz n;have l:us.length=kvs.length:=by have:=congrArg List.length f;simpa using this
 cases e:kvs[i]? with
 |none=>
  refine⟨λ _ z=>(by cases z),λ _=>⟨h,?_⟩⟩
  rw[List.getElem?_eq_none_iff]at e ⊢;rw[l];exact e
 |some p=>
  have s:i<kvs.length:=(qa2.mp e).1;refine⟨λ u z=>?_,λ z=>(by cases z)⟩
  cases z;refine⟨⟨h,by rw[l];exact s⟩,λ x H1 ⟨t,q,b,m,ex,A⟩=>?_⟩
  subst ex A;have j:q.1=p.1:=by
   have a1:(us.map (·.1))[i]? =some q.1:=by simp[b]
   rw[f]at a1;simp[e]at a1;exact a1.symm
  have a2:(kvs.map (·.2))[i]? =some p.2:=by simp[e]
  obtain⟨v,c,y⟩:=E.get a2;have w:v=q.2:=by simp[b]at c;exact c.symm
  subst w;rw[j];have r:RV K a g (kW p.1) (kV p.1):=by cases p.1<;>rfl
  obtain⟨I,D,C⟩:=Zj S m (.cons r (.one y));exact⟨I,D,C⟩
end
mutual
noncomputable def W.beq:W->W->Bool
 |.non,.non=>true|.bl a,.bl b=>a==b|.int a,.int b=>decide (a=b)|.str a,.str b=>decide (a=b)|.tup a,.tup b=>J3 a b|_,_=>false
noncomputable def J3:List W->List W->Bool
 |[],[]=>true|a::as,b::bs=>a.beq b&&J3 as bs|_,_=>false
end
mutual
theorem W.eq_of:∀{a b:W},a.beq b=true->a=b
 |.non,.non,_=>rfl|.bl a,.bl b,h=>by have h':(a==b)=true:=h;rw[aU]at h';rw[h']|.int a,.int b,h=>by have h':decide (a=b)=true:=h;rw[ag]at h';rw[h']|.str a,.str b,h=>by have h':decide (a=b)=true:=h;rw[ag]at h';rw[h']|.tup a,.tup b,h=>by have h':J3 a b=true:=h;rw[Rb h']|.non,.bl _,h=>nomatch h | .non,.int _,h=>nomatch h | .non,.str _,h=>nomatch h | .non,.tup _,h=>nomatch h | .non,.ref _,h=>nomatch h
 |.bl _,.non,h=>nomatch h | .bl _,.int _,h=>nomatch h | .bl _,.str _,h=>nomatch h | .bl _,.tup _,h=>nomatch h | .bl _,.ref _,h=>nomatch h
 |.int _,.non,h=>nomatch h | .int _,.bl _,h=>nomatch h | .int _,.str _,h=>nomatch h | .int _,.tup _,h=>nomatch h | .int _,.ref _,h=>nomatch h
 |.str _,.non,h=>nomatch h | .str _,.bl _,h=>nomatch h | .str _,.int _,h=>nomatch h | .str _,.tup _,h=>nomatch h | .str _,.ref _,h=>nomatch h
 |.tup _,.non,h=>nomatch h | .tup _,.bl _,h=>nomatch h | .tup _,.int _,h=>nomatch h | .tup _,.str _,h=>nomatch h | .tup _,.ref _,h=>nomatch h
 |.ref _,.non,h=>nomatch h | .ref _,.bl _,h=>nomatch h | .ref _,.int _,h=>nomatch h | .ref _,.str _,h=>nomatch h | .ref _,.tup _,h=>nomatch h | .ref _,.ref _,h=>nomatch h
theorem Rb:∀{a b:List W},J3 a b=true->a=b
 |[],[],_=>rfl|a::as,b::bs,h=>by
  have h':(a.beq b&&J3 as bs)=true:=h;rw[ao]at h';rw[W.eq_of h'.1,Rb h'.2]
 |[],_::_,h=>nomatch h
 |_::_,[],h=>nomatch h
end
section
variable {K:Frag}
def FD (K:Frag)(x:Str)(st:Stmt):Prop:=∃f fd,gm K x x st f fd/\nsIn K mainGlobals x=some (some (.ref f))
theorem Ck {st:Stmt}{f:Addr}{b:Value}{o an:Option Addr}{kV doc pm C ct:Value}(a:nsIn K mainGlobals x=some (some (.ref f)))
  (l:K.lookup f=some ⟨b,o,.func (fnOf x x (QG st) (gA st) (qc st) .none kV doc pm an C ct),osl⟩)(c:codeIn K C x=true)(k:keepIn K (.ref f)=true):FD K x st:=⟨f,_,F1 l c k,a⟩
def CD (K:Frag)(x:Str)(i:Int):Prop:=∃t,nsIn K mainGlobals x=some (some (.int i t))
theorem Cm {i:Int}{t:Tok}(a:nsIn K mainGlobals x=some (some (.int i t))):CD K x i:=⟨t,a⟩
def RA (f:Fn):Prop:=∀ns:List Int,ns.length<=63->∃A,f [.ref 0] [.ro (ns.map W.int)]=.ok (.bl true) A
theorem MC (c:Ky H)(S:qL K H a (ns.map V.int)):zN K [a] [.ro (ns.map W.int)] H:=by
 refine⟨rfl,λ i j b o o' m l e d m1 _=>?_,λ n o h=>?_⟩
 ·have g:i=0:=by have:=(qa2.mp e).1;simp at this;omega
  have f:j=0:=by have:=(qa2.mp d).1;simp at this;omega
  omega
 ·have hn:n=0:=by have:=(qa2.mp h).1;simp at this;omega
  subst hn;simp at h;subst h;refine⟨a,rfl,ns.map V.int,?_,zJ.ints.mpr rfl⟩;rcases S with (z|z) | z
  ·rcases c a with q|⟨ob,xs,q⟩
   ·rw[z]at q;cases q
   ·rw[z]at q;cases q
  ·exact .inl z
  ·exact .inr z
theorem CB {l:PySem.W.OpenLaw}{k:Nat}{q:Program}{loose:List Str}{d:DefRec}{Kp:Params->Frag}{f:Fn}(ok:RA f)
  (hn:l.most=some 63)(b:d.params.defaults=[])(i:jy k callerA)(Y:∀(w:World)(h:Heap),YP w h->(Kp w.params).In h)
  (F:∀(w:World)(mg:Str->Option Value)(c:Addr)(h:Heap),(Kp w.params).In h->h.Ns mainGlobals mg->mg d.name=some (.ref c)->
   ∃fd:FuncData,(∀(s:Shared)(u:Value),BindsTo s fd ⟨[u],[]⟩ [(x,u)])/\∀base:Heap,(Kp w.params).In base->base.Ns mainGlobals mg->yt l.prog w (Kp w.params) mg base k6 k c fd [x] (gY (Kp w.params) 1 f)):
  PySem.W.WalkO q loose XP YP l.row.toRowW d [] (λ f vs=>PySem.call f vs):=
 L2.He (n:=63) (k:=k) (x:=x) (CX:=λ _=>k6) (sp:=λ w=>gY (Kp w.params) 1 f) hn (by decide) b i Y F (λ w H a ns j m S=>by
  refine⟨rfl,[a],[.ro (ns.map W.int)],[.ref 0],MC m S,.one ⟨a,rfl,rfl⟩,?_⟩;obtain⟨A,e⟩:=ok ns j;rw[e];exactλ g o v _ _ r=>r) λ _ _ _ _ _ z=>z
end
open PySem PySem.Spec PyProof.Rows L2 Mi
@[irreducible] noncomputable def zC (X:Cx)(x:XR)(e:Expr)(m:Ev):Prop:=Mi.SE X x e m
theorem SV:@zC=@Mi.SE:=by
 funext X xr e m
 unfold zC
 rfl
@[irreducible] noncomputable def gj (X:Cx)(x:XR)(e:List Expr)(m:Ea):Prop:=Mi.SA X x e m
theorem SR:@gj=@Mi.SA:=by
 funext X xr es m
 unfold gj
 rfl
@[irreducible] noncomputable def yh (X:Cx)(x:XR)(e:Expr)(m:Ev):Prop:=Mi.ST X x e m
theorem Rn:@yh=@Mi.ST:=by
 funext X xr e m
 unfold yh
 rfl
@[irreducible] noncomputable def wI (X:Cx)(x:XR)(e:Expr)(m:Ev):Prop:=Mi.SW X x e m
theorem SY:@wI=@Mi.SW:=by
 funext X xr e m
 unfold wI
 rfl
@[irreducible] noncomputable def yD (X:Cx)(x:XR)(st:Stmt)(m:Ex):Prop:=Mi.SS X x st m
theorem Rc:@yD=@Mi.SS:=by
 funext X xr st m
 unfold yD
 rfl
@[irreducible] noncomputable def kF (X:Cx)(x:XR)(st:List Stmt)(m:Ex):Prop:=Mi.KR X x st m
theorem SD:@kF=@Mi.KR:=by
 funext X xr st m
 unfold kF
 rfl
@[irreducible] noncomputable def kq (X:Cx)(x:XR)(t e:Expr)(m:Ei):Prop:=Mi.SI X x t e m
theorem SU:@kq=@Mi.SI:=by
 funext X xr tg e m
 unfold kq
 rfl
@[irreducible] noncomputable def km (X:Cx)(t:Expr)(m:Tg):Prop:=Mi.SG X t m
theorem Rj:@km=@Mi.SG:=by
 funext X tg m
 unfold km
 rfl
@[irreducible] noncomputable def ZF (X:Cx)(x:XR)(e:Expr)(m:jw):Prop:=Mi.SF X x e m
theorem SX:@ZF=@Mi.SF:=by
 funext X xr e m
 unfold ZF
 rfl
@[irreducible] noncomputable def kZ (X:Cx)(x:XR)(e:Expr)(m:jw):Prop:=Mi.SQ X x e m
theorem SO:@kZ=@Mi.SQ:=by
 funext X xr e m
 unfold kZ
 rfl
@[irreducible] noncomputable def gf (X:Cx)(e:List Expr)(m:Ev):Prop:=Mi.KL X e m
theorem TF:@gf=@Mi.KL:=by
 funext X es m
 unfold gf
 rfl
@[irreducible] noncomputable def wJ (X:Cx)(elt:Expr)(gens:List Comprehension)(sc:Scope)(c:Pos)(d:Nat)(em:Em):Prop:=Mi.SM X elt gens sc c d em
theorem SN:@wJ=@Mi.SM:=by
 funext X elt gens sc cpos d em
 unfold wJ
 rfl
section
variable {xr:XR}{K:Frag}{a b c:Expr}{es:List Expr}{m ma mb mc:Ev}{m1 m2:Ex}{st:Stmt}{rest:List Stmt}
theorem zS:@zC=@Mi.SE/\@gj=@Mi.SA/\@yh=@Mi.ST/\@wI=@Mi.SW/\@yD=@Mi.SS/\@kF=@Mi.KR/\@kq=@Mi.SI/\@km=@Mi.SG/\@ZF=@Mi.SF/\@kZ=@Mi.SQ/\@gf=@Mi.KL/\@wJ=@Mi.SM:=⟨SV,SR,Rn,SY,Rc,SD,SU,Rj,SX,SO,TF,SN⟩
theorem zm {m:Ea}(d:zC X xr e ma)(r:gj X xr es m)(s:starEach (e::es) X.env=(false,eval e X.env)::starEach es X.env:=by rfl):gj X xr (e::es) (zh ma m):=by
 try simp only[zS]at*
 exact PA.imp (jA d r s) λ σ H Q ⟨φ,A,ρ,S,re,h⟩=>by
   refine tM.go S re (zZ.mp h) λ w A1 b H1 v g l j c=>?_;refine KQ.go j (re.mono l) (qm (zZ.mp g) (λ _ _ z=>z) λ _ _ z=>z.mono l) λ o A2 a n v2 f L i q=>?_;exact f a n _ (l.trans L) i (.cons (c.mono L) q)
theorem zy:gj X xr [] zq:=by
 try simp only[zS]at*
 exact PA.imp j3 λ σ H Q ⟨φ,A,ρ,S,re,h⟩=>h φ H [] .refl S .nil
theorem yy (H:zC X xr a ma)(h:zC X xr b mb):zC X xr (.BinOp a .Add b pos) (zl qE ma mb):=by
 try simp only[zS]at*
 exact Zh (F7.or (Fc.or (Iw.or EL))) De Fh H h
theorem YX {q:jw}(H:X.calm=true)(hm:X.mg "all" = none)(a:kZ X xr e q)(h:Gl X "all" := by rfl)(he:starEach [e] X.env=(false,eval e X.env)::starEach [] X.env:=by rfl):
  zC X xr (.Call (.Name "all" p) [e] [] pos) (mQ Q3 q):=by
 try simp only[zS]at*
 exact Kj (Lw H) EF Hc hm (by rfl) a h (by decide) (by decide) he (by rfl)
theorem Zf {rest:List Expr}(f:zC X xr a ma)(e:zC X xr (.BoolOp .And (b::rest) pos) mb):zC X xr (.BoolOp .And (a::b::rest) pos) (jz ma mb):=by
 try simp only[zS]at*
 exact PE.imp (Dw f e) λ σ H Q ⟨φ,A,ρ,S,re,h⟩=>by
   refine tM.go S re (zZ.mp h) λ w A1 d H1 v c l s q=>?_;cases w with
   |bl k=>
    refine⟨k,q,?_⟩;cases k with
    |true=>rw[af rfl];exact⟨d,A1,ρ,s,re.mono l,qm c (λ _ _ z=>z.mono l) λ _ _ z=>z.mono l⟩|false=>rw[aj ay];exact c d H1 _ l s rfl
   |non=>cases c|int _=>cases c|str _=>cases c|tup _=>cases c|ref _=>cases c|clo _ _ _=>cases c|xc _=>cases c
theorem jI {i j}:zC X xr (.Constant (.bool i) j pos) (zj (.bl i)):=by
 try simp only[zS]at*
 exact PE.imp Ca λ σ H Q ⟨φ,A,ρ,S,r,h⟩=>h φ H _ .refl S rfl
theorem yQ {g:W->W->Hx->R W}(h:yT X op g)(c:zC X xr a ma)(H:zC X xr b mb)(e:op≠.In:=by decide)(d:op≠.NotIn:=by decide):zC X xr (.Compare a [op] [b] pos) (zl g ma mb):=by
 try simp only[zS]at*
 exact let ⟨r,a1,a2,A⟩:=h.ex;Ri a1 a2 A c H (h.mks b e d)
theorem S9 {o:CmpOp}{g g':W->W->Hx->R W}(h:yT X op g)(h':yT X o g')(e:zC X xr a ma)(d:zC X xr b mb)(H:zC X xr c mc)(hm:lastMarks [op,o] [b,c]=false:=by with_unfolding_all rfl):
  zC X xr (.Compare a [op,o] [b,c] pos) (yc g g' ma mb mc):=by
 try simp only[zS]at*
 exact let ⟨r,a1,a2,A⟩:=h.ex;let ⟨j,i,f,B⟩:=h'.ex;Lz a1 a2 A i f B e d H hm
theorem zD {k:Nat}{f:Fn}{m:Ea}(F:zI X.prog X.w X.K X.mg X.base k x n f)(r:jy k X.A)(s:gj X ko (e::es) m)(g:QX m n:=by repeat' (first|exact qT|refine zO ?_))(j:Gl X x:=by rfl)
  (c:(x==("__debug__" : Str))=false:=by decide)(he:starEach (e::es) X.env=(false,eval e X.env)::starEach es X.env:=by rfl)(l:(backTo pos (starEach es X.env)).any (·.1)=false:=by rfl):
  zC X ko (.Call (.Name x p) (e::es) [] pos) (zw f m):=by
 try simp only[zS]at*
 obtain⟨B,fd,P,F,hm,i,o⟩:=F;refine PE.imp (HH F r j hm i o .nil Ct s c he l) λ σ H Q ⟨φ,A,ρ,S,re,h⟩=>?_;have h':=zZ.mp h;refine⟨φ,A,ρ,S,re,?_⟩;cases E:m ρ A with
 |ok ws A1=>
  rw[E]at h';intro b H1 vs L u q;have v:vs.length=n:=by rw[<- q.length];exact g ρ A ws A1 E
  rw[append_nil];exact⟨v,b,A1,ws,u,q,qm h' (λ _ _ z=>z.mono L) λ x A2 z a y d t=>(z a y (L.trans d) t).elim⟩
 |exc x A1=>rw[E]at h';exact h'|bad=>rw[E]at h';exact h'
theorem EX {g:W->W->Hx->R W}(h:Xd X op g)(c:zC X xr a ma)(H:zC X xr b mb)(hm:behindInMarks op b=false:=by rfl):zC X xr (.Compare a [op] [b] pos) (zl g ma mb):=by
 try simp only[zS]at*
 exact let ⟨r,a1,a2,A⟩:=h.ex;Ri a1 a2 A c H hm
theorem Mw (t:zC X xr a ma)(he:zC X xr b mb)(s:starEach [b] X.env=(false,eval b X.env)::starEach [] X.env:=by rfl)
  (c:attributeBase a "count" X.env (eval a X.env)=eval a X.env:=by rfl)
  (f:((backTo cpos (starEach [b] X.env)).all (λ x=>!x.1)&&(backToKw cpos (keywordEach [] X.env)).all (λ x=>x.1.isSome)
   && decide ([b].length+([]:List Keyword).length+(if ([]:List Keyword).isEmpty then 0 else 1)<30))=true:=by rfl)(e:(apos.endLine==cpos.line)=true:=by rfl):
  zC X xr (.Call (.Attribute a "count" apos) [b] [] cpos) (JO QO ma mb):=by
 try simp only[zS]at*
 exact PE.imp (CI PySem.F.slot_tuple_count PySem.F.type_tuple_count Lo t (jA he j3 s) c f e s (by rfl)) λ σ H Q ⟨φ,A,ρ,S,re,h⟩=>by
   refine tM.go S re (zZ.mp h) λ w A1 j H1 v i L y n=>?_;cases w with
   |tup ws=>
    obtain⟨p,vs,rfl,t1,r⟩:=n;refine⟨p,vs,rfl,t1,?_⟩;refine tM.go y (re.mono L) (qm (zZ.mp i) (λ _ _ z=>z) λ _ _ z=>z.mono L) λ m A2 g B v2 d l u q=>?_;unfold QO at d;dsimp only at d
    by_cases hf:(ye m&&ws.all ye)=true
    ·rw[af hf]at d
     rw[ao]at hf;obtain⟨o,I⟩:=V4 q hf.1 (r.mono l) hf.2;refine⟨p,vs,v2,rfl,rfl,l.tp _ _ t1,YA q hf.1,o,?_⟩;rw[I];rw[Gg]at d;exact d g B _ (L.trans l) u (by simp[RV])
    ·rw[aj hf]at d;exact d.elim
   |_=>exact i.elim
theorem HB:zC X xr (.Dict [] [] pos) R6:=by
 try simp only[zS]at*
 exact PE.imp Ip λ σ H Q ⟨φ,A,ρ,S,re,h⟩ p a=>by
  obtain⟨l,s⟩:=S.alloc (o:=.dct []) a (u:=.dK []) ⟨[],jN,rfl,.nil⟩;exact h _ _ _ l s ⟨p,rfl,by rw[<- S.len];simp⟩
theorem Mf {k:Nat}(u:jy k X.A)(y:zC X xr a ma)(x:zC X xr b mb)(t:Xb b:=by intro _ _;rfl):zC X xr (.Subscript a b pos) (zl Ki ma mb):=by
 try simp only[zS]at*
 exact PE.imp (Fi (Cf u) y x t) λ σ H Q ⟨φ,A,ρ,S,re,h⟩=>by
   refine tM.go S re (zZ.mp h) λ w A1 f H1 v B l C j=>?_;refine tM.go C (re.mono l) (qm (zZ.mp B) (λ _ _ z=>z) λ _ _ z=>z.mono l) λ g A2 d D v2 c L s q=>?_;unfold Ki at c;cases w with
   |ref n=>
    cases g with
    |int i=>
     obtain rfl:=q;dsimp only[KC]at c;cases e:A2[n]? with
     |none=>rw[e]at c;exact c.elim|some o=>cases o with
      |dct kvs=>
       rw[e]at c;dsimp only at c;obtain⟨p,us,rfl,f1,g1,g2,g3⟩:=s.dct (j.mono L) e;cases E:jB (.inl i) kvs with
       |none=>rw[E]at c;exact c.elim|some w=>
        rw[E]at c;obtain⟨v,m,r⟩:=(WZ (.inl i) g2 g3).1 w E;refine⟨p,v,rfl,?_,c d D v (l.trans L) s r⟩;rw[<- m];exact Q4.k (k:=.inl i) g1
      |_=>rw[e]at c;exact c.elim
    |_=>exact c.elim
   |_=>exact c.elim
theorem Th {i:Int}{t:Tok}(g:Gl X x)(hm:X.mg x=some (.int i t))(hd:(x==("__debug__" : Str))=false:=by decide):zC X xr (.Name x pos) (zj (.int i)):=by
 try simp only[zS]at*
 exact PE.imp (Fu g hm (v:=.int i) ⟨t,rfl⟩ hd) λ σ H Q ⟨φ,A,ρ,S,r,h⟩=>h φ H _ .refl S rfl
theorem Eu {c:Expr}(f:yh X xr c mc)(i:zC X xr a ma)(g:zC X xr b mb):zC X xr (.IfExp c a b pos) (Pd mc ma mb):=by
 try simp only[zS]at*
 exact PE.imp (LK f i g) λ σ H Q ⟨φ,A,ρ,S,re,h⟩=>by
   refine tT.go S re (zZ.mp h) λ w A1 d=>?_;cases w with
   |bl k=>
    refine⟨k,rfl,λ e H1 l s=>?_⟩;cases k with
    |true=>rw[af rfl];exact⟨e,A1,ρ,s,re.mono l,qm d (λ _ _ z=>z.mono l) λ _ _ z=>z.mono l⟩|false=>rw[aj ay];exact⟨e,A1,ρ,s,re.mono l,qm d (λ _ _ z=>z.mono l) λ _ _ z=>z.mono l⟩
   |non=>cases d|int _=>cases d|str _=>cases d|tup _=>cases d|ref _=>cases d|clo _ _ _=>cases d|xc _=>cases d
theorem zB {i j}:zC X xr (.Constant (.int i) j pos) (zj (.int i)):=by
 try simp only[zS]at*
 exact PE.imp F0 λ σ H Q ⟨φ,A,ρ,S,r,h⟩=>h φ H _ .refl S rfl
theorem Y7 (t:Ty){P:Pos}(hm:X.mg "isinstance" = none)(c:X.mg x=none)(f:bootBuiltins x=some (.type t.nm))(i:zC X xr e m)(g:Gl X "isinstance" := by rfl)(d:Gl X x:=by rfl)
  (hn:x ≠ "__name__" := by decide)(hd:(x==("__debug__" : Str))=false:=by decide)
  (a:starEach [e,.Name x P] X.env=(false,eval e X.env)::starEach [.Name x P] X.env:=by rfl)(j:(backTo pos (starEach [.Name x P] X.env)).any (·.1)=false:=by rfl):
  zC X xr (.Call (.Name "isinstance" p) [e,.Name x P] [] pos) (Qi t m):=by
 try simp only[zS]at*
 exact PE.imp (Jy HF g hm (by rfl) (jA i (jA (FJ d c f (v:=.ty t.nm) rfl hn hd) j3) a) (by decide) (by decide) a j) λ σ H Q ⟨φ,A,ρ,S,re,h⟩=>by
   refine tM.go S re (zZ.mp h) λ w A1 b H1 v a l s q=>?_;cases E:gW w A1 with
   |none=>rw[E]at a;exact a.elim|some t'=>
    rw[E]at a;exact⟨v,t',t,rfl,Ih s q E,a b H1 _ l s rfl⟩
theorem qg (c:zC X xr a ma)(H:zC X xr b mb)(h:T5 b:=by intro _ _;rfl):zC X xr (.Subscript a b pos) (zl zG ma mb):=by
 try simp only[zS]at*
 exact PE.imp (D1 E8 c H h) (zl.read DK E4)
theorem yM {q:jw}(hm:X.mg "len" = none)(H:kZ X xr e q)(h:Gl X "len" := by rfl)(he:starEach [e] X.env=(false,eval e X.env)::starEach [] X.env:=by rfl):
  zC X xr (.Call (.Name "len" p) [e] [] pos) (mQ qK q):=by
 try simp only[zS]at*
 exact Kj OO (λ _ _=>jx) FV hm (by rfl) H h (by decide) (by decide) he (by rfl)
theorem jH {q:jw}(h:ZF X xr e q):zC X xr e (qh q):=by
 try simp only[zS]at*
 exact PE.imp h qh.read
theorem NY {P pos':Pos}(t:X.calm=true)(hm:X.mg "list" = none)(f:X.mg "range" = none)(u:zC X xr a ma)(o:Gl X "list" := by rfl)(g:Gl X "range" := by rfl)(s:starEach [a] X.env=[(false,eval a X.env)]:=by rfl)
  (d:starEach [.Call (.Name "range" P) [a] [] pos'] X.env=(false,eval (.Call (.Name "range" P) [a] [] pos') X.env)::starEach [] X.env:=by rfl):
  zC X xr (.Call (.Name "list" p) [.Call (.Name "range" P) [a] [] pos'] [] pos) (JE ma):=by
 try simp only[zS]at*
 exact PE.imp (Qy (Nq t) o hm (by rfl) (jA (Hq g f (jA u j3 (by rw[s];rfl)) s) j3 d) (by decide) (by decide) d (by rfl)) λ σ H Q ⟨φ,A,ρ,S,re,h⟩=>by
   refine tM.go S re (zZ.mp h) λ w A1 b H1 v c L z q=>?_;cases w with
   |int j=>
    obtain rfl:=q;dsimp only at c
    by_cases e:(jo j&&decide (j.toNat<=zX))=true
    ·rw[af e]at c
     rw[ao,ag]at e;refine⟨j,rfl,λ p m=>⟨p,j,rfl,jN,Qw e.1,gz e.2,λ l n=>?_⟩⟩;have ln:Le X.K b H1 b (upd H1 p (.rng 0 j)):=Le.new m;have r:zJ X.K b (upd H1 p (.rng 0 j)) ((List.range j.toNat).map λ (i:Nat)=>W.int i) (Qb j.toNat):=by
      have:=(zJ.ints (K:=X.K) (φ:=b) (H:=upd H1 p (.rng 0 j)) (ns:=(List.range j.toNat).map λ (i:Nat)=>(i:Int)) (vs:=Qb j.toNat)).mpr (by unfold Qb;simp)
      rw[aP]at this;exact this
     obtain⟨y,x,B⟩:=Z1 (z.lay m) n r;exact c _ _ _ ((L.trans ln).trans y) x B
    ·rw[aj e]at c;exact c.elim
   |_=>exact c.elim
theorem jU {m:Ea}(h:gj X xr es m)(H:QX m n)(hn:n<=zX:=by decide):zC X xr (.List es pos) (qP m):=by
 try simp only[zS]at*
 exact Ed h λ ρ A ws a e=>by rw[H ρ A ws a e];exact gz hn
theorem Jx {q:jw}(H:X.calm=true)(hm:X.mg "max" = none)(a:kZ X xr e q)(h:Gl X "max" := by rfl)(he:starEach [e] X.env=(false,eval e X.env)::starEach [] X.env:=by rfl):
  zC X xr (.Call (.Name "max" p) [e] [] pos) (mQ jZ q):=by
 try simp only[zS]at*
 exact Kj (N9 H) EI Fp hm (by rfl) a h (by decide) (by decide) he (by rfl)
theorem Gb (e:X.calm=true)(hm:X.mg "min" = none)(n:zC X xr a ma)(m:zC X xr b mb)(l:Gl X "min" := by rfl)(r:starEach [a,b] X.env=(false,eval a X.env)::starEach [b] X.env:=by rfl)(o:starEach [b] X.env=(false,eval b X.env)::starEach [] X.env:=by rfl)(h:(backTo pos (starEach [b] X.env)).any (·.1)=false:=by rfl):
  zC X xr (.Call (.Name "min" p) [a,b] [] pos) (zl Zr ma mb):=by
 try simp only[zS]at*
 exact GR (N7 e) Zs (λ φ A H x y u v Q S d c p=>by
   obtain⟨i,j,s,E,q⟩:=Zl (K:=X.K) (f:=λ i j=>.int (if j<i then j else i)) (g:=λ i j=>.int (if j<i then j else i)) (λ _ _ _ _=>rfl) φ A H x y u v Q S d c p;subst s;subst E;exact⟨i,j,rfl,q⟩) hm (by rfl) n m l (by decide) (by decide) r o h
theorem Zg (H:zC X xr a ma)(h:zC X xr b mb):zC X xr (.BinOp a .Mod b pos) (zl yS ma mb):=by
 try simp only[zS]at*
 exact Zh EN GV (GN HU λ _ _ _ _=>rfl) H h
theorem yk (H:zC X xr a ma)(h:zC X xr b mb):zC X xr (.BinOp a .Mult b pos) (zl qd ma mb):=by
 try simp only[zS]at*
 exact Zh (Eb.or EJ) EG Fs H h
theorem QJ {j}:zC X xr (.Constant .none j pos) (zj .non):=by
 try simp only[zS]at*
 exact PE.imp Ec λ σ H Q ⟨φ,A,ρ,S,r,h⟩=>h φ H _ .refl S rfl
theorem Hg (d:zC X xr a ma):zC X xr (.UnaryOp .Not a pos) (yu ma):=by
 try simp only[zS]at*
 exact PE.imp (E3 d) λ σ H Q ⟨φ,A,ρ,S,re,h⟩=>by
   refine tM.go S re (zZ.mp h) λ w A1 c H1 v b l s q=>?_;cases w with
   |bl k=>exact⟨k,q,b c H1 _ l s rfl⟩|non=>cases b|int _=>cases b|str _=>cases b|tup _=>cases b|ref _=>cases b|clo _ _ _=>cases b|xc _=>cases b
theorem ZZ {op}(h:zC X xr a ma):zC X xr (.BoolOp op [a] pos) ma:=by
 try simp only[zS]at*
 exact E7 h
theorem NK (ho:zC X xr a ma)(he:zC X xr b mb)(hf:zC X xr c mc)(m:starEach [b,c] X.env=(false,eval b X.env)::starEach [c] X.env:=by rfl)(N:starEach [c] X.env=(false,eval c X.env)::starEach [] X.env:=by rfl)
  (j:attributeBase a "setdefault" X.env (eval a X.env)=eval a X.env:=by rfl)
  (r:((backTo cpos (starEach [b,c] X.env)).all (λ x=>!x.1)&&(backToKw cpos (keywordEach [] X.env)).all (λ x=>x.1.isSome)
   && decide ([b,c].length+([]:List Keyword).length+(if ([]:List Keyword).isEmpty then 0 else 1)<30))=true:=by rfl)(g:(apos.endLine==cpos.line)=true:=by rfl)(M:(backTo cpos (starEach [c] X.env)).any (·.1)=false:=by rfl):
  zC X xr (.Call (.Attribute a "setdefault" apos) [b,c] [] cpos) (QQ gB ma mb mc):=by
 try simp only[zS]at*
 exact PE.imp (RH PySem.F.plainAttrs_dict PySem.F.slot_dict_setdefault PySem.F.type_dict_setdefault Lc ho (jA he (jA hf j3 N) m) j r g m M) λ σ H Q ⟨φ,A,ρ,S,re,h⟩=>by
   refine tM.go S re (zZ.mp h) λ w A1 φ1 H1 v m D S1 q1=>?_
   by_cases hd:KP w A1=true
   ·rw[af hd]at m
    refine⟨Lv S1 q1 hd,?_⟩;refine tM.go S1 (re.mono D) (qm (zZ.mp m) (λ _ _ z=>z) λ _ _ z=>z.mono D) λ t A2 φ2 H2 v2 N l2 S2 q2=>?_;have l:=D.trans l2;refine tM.go S2 (re.mono l) (qm (zZ.mp N) (λ _ _ z=>z) λ _ _ z=>z.mono l) λ w3 A3 f T q d l3 P Z=>?_;have L:=l.trans l3;unfold gB at d;cases w with
    |ref n=>cases t with
     |int i=>
      obtain rfl:=q2;dsimp only[KC]at d;cases s:A3[n]? with
      |none=>rw[s]at d;exact d.elim|some o=>cases o with
       |dct kvs=>
        rw[s]at d;dsimp only at d;obtain⟨p,us,rfl,f1,g1,g2,g3⟩:=P.dct ((q1.mono l2).mono l3) s;have hlen:us.length=kvs.length:=by have:=congrArg List.length g2;simpa using this
        by_cases I:kvs.length<zX
        ·rw[af I]at d
         have C:=WZ (.inl i) g2 g3;refine⟨p,us,.inl i,q,rfl,rfl,g1,?_,λ v' J=>?_,λ hn=>?_⟩
         ·rw[hlen]
          have:sizeLine=16777216:=sizeLine_eq
          unfold zX at I;omega
         ·cases E:jB (.inl i) kvs with
          |none=>rw[C.2 E]at J;cases J|some y=>
           rw[E]at d;obtain⟨B,e,Y⟩:=C.1 y E;rw[J]at e;cases e;exact d f T _ L P Y
         ·cases E:jB (.inl i) kvs with
          |some y=>obtain⟨B,e,Y⟩:=C.1 y E;rw[hn]at e;cases e|none=>
           rw[E]at d;dsimp only at d;rw[L4 q hn];have ln:Le X.K f T f (upd T p (.dK (us++[(.inl i,q)]))):=Le.upd f1 (λ xs z=>by rw[g1]at z;cases z) (λ _ _ z=>by rw[g1]at z;cases z)
           obtain⟨U,t⟩:=P.write (o:=.dct kvs) (o':=.dct (kvs++[(.inl i,w3)])) s rfl rfl f1 (u:=.dK (us++[(.inl i,q)])) ⟨us++[(.inl i,q)],jN,by simp[g2],by
            rw[aR,aR];exact(g3.mono ln).append (.one (Z.mono ln))⟩
           exact d _ _ _ (L.trans U) t (Z.mono U)
        ·rw[aj I]at d;exact d.elim
       |_=>rw[s]at d;exact d.elim
     |_=>exact d.elim
    |_=>exact d.elim
   ·rw[aj hd]at m;exact m.elim
theorem kQ (H:zC X xr a ma)(h:zC X xr b mb):zC X xr (.BinOp a .Sub b pos) (zl jt ma mb):=by
 try simp only[zS]at*
 exact Zh Dm Zs (Zl λ _ _ _ _=>rfl) H h
theorem Gr {q:jw}(H:X.calm=true)(hm:X.mg "sum" = none)(a:kZ X xr e q)(h:Gl X "sum" := by rfl)(he:starEach [e] X.env=(false,eval e X.env)::starEach [] X.env:=by rfl):
  zC X xr (.Call (.Name "sum" p) [e] [] pos) (mQ kX q):=by
 try simp only[zS]at*
 exact Kj (M7 H) EO Fo hm (by rfl) a h (by decide) (by decide) he (by rfl)
theorem yF {x1}{m:Ea}(h:gj X xr es m)(d:QX m n)(hn:n<=zX:=by decide):zC X xr (.Tuple es x1 pos) (jb m):=by
 try simp only[zS]at*
 exact PE.imp (EU h) λ σ H Q ⟨φ,A,ρ,S,re,h⟩=>by
   have h':=zZ.mp h;cases e:m ρ A with
   |ok ws a=>
    rw[e]at h';refine⟨φ,A,ρ,S,re,?_⟩;rw[e];intro b H1 vs l s q;refine⟨by rw[<- q.length,d ρ A ws a e];exact gz hn,λ p c=>?_⟩
    obtain⟨a1,a2,f⟩:=Zj s c q;exact h' _ _ _ (l.trans a1) a2 f
   |exc x a=>rw[e]at h';refine⟨φ,A,ρ,S,re,?_⟩;rw[e];exact h'|bad=>rw[e]at h';exact h'.elim
theorem wU {q:jw}(hm:X.mg "tuple" = none)(H:kZ X xr e q)(h:Gl X "tuple" := by rfl)(he:starEach [e] X.env=(false,eval e X.env)::starEach [] X.env:=by rfl):
  zC X xr (.Call (.Name "tuple" p) [e] [] pos) (mQ jR q):=by
 try simp only[zS]at*
 exact DR OF (λ _ _=>jx) Hz hm (by rfl) H h (by decide) (by decide) he (by rfl)
theorem zi (i:Nat)(b:X.N[i]? =some x:=by rfl)(a:K1 X.env.scope x:=by first|exact Or.inl rfl|exact Or.inr (Or.inl rfl) | exact Or.inr (Or.inr rfl))(hd:(x==("__debug__" : Str))=false:=by decide)
  (d:(x==("__classdict__" : Str))=false:=by decide):zC X xr (.Name x pos) (zc i):=by
 try simp only[zS]at*
 exact PE.imp (Du b a hd d) λ σ H Q ⟨φ,A,ρ,S,r,h⟩=>by
  unfold zc at h;cases e:ρ[i]? with
  |none=>rw[e]at h;cases h|some o=>cases o with
   |none=>rw[e]at h;cases h|some w=>
    rw[e]at h;obtain⟨v,f,c⟩:=r.get i w e;exact⟨v,f,h φ H v .refl S c⟩
theorem IT {iter:Expr}{mi:Ei}{tw:Tg}{m:Ev}{em:Em}(nl:Nat)(cap:List Nat)(c:X.calm=true)(S:wW X sc)(p:Zq X.N N sc nl cap=true)(hw:kq X xr tg iter mi)
  (n:∀s H fp,km (ju X N sc s H fp j8) tg tw/\gf (ju X N sc s H fp j8) ifs m/\wJ (ju X N sc s H fp j8) elt (⟨tg,iter,ifs,0⟩::gs) sc pos 0 em)
  (b:∀g',gs[0]? =some g'->g'.is_async=0:=by intro _ h;cases h<;>rfl)
  (a:∀x,foldedSetIterable iter X.env x=pure x:=by intro _;rfl):ZF X xr (.ListComp elt (⟨tg,iter,ifs,0⟩::gs) sc pos) (zV nl cap mi tw m em):=by
 try simp only[zS]at*
 exact PE.imp (HZ (g:=tG X.K tw) (ti:=tT X.K ko m) (tm:=tE X.K em) c S p b hw n a) zV.read
theorem yY (i j:Nat){y:Str}{q:Pos}{k:Nat}(n:X.calm=true)(h:X.N.Nodup)(l:X.N[i]? =some x:=by rfl)(f:Loc X.env.scope x:=by first|exact Or.inl rfl|exact Or.inr rfl)(hf:X.fn x=true∨X.env.scope.names.lookup x=some .local:=by first|exact .inl rfl|exact .inr rfl)
  (g:X.N[j]? =some y:=by rfl)(d:Loc X.env.scope y:=by first|exact Or.inl rfl|exact Or.inr rfl)(m:X.fn y=true∨X.env.scope.names.lookup y=some .local:=by first|exact .inl rfl|exact .inr rfl):km X (.Tuple [.Name x p,.Name y q] k pos) (qD i j):=by
 try simp only[zS]at*
 exact PG.imp (Kc n (kA (kD h l f hf) (kA (kD h g d m) JC))) λ v σ H Q ⟨φ,A,ρ,w,b,S,re,c,e,K⟩=>by
   unfold qD at e
   split at e
   ·rename_i x1 Y
    have E:=az e;subst E;obtain⟨a,vs,rfl,s,rs⟩:=c;obtain⟨v1,u,rfl,r,v2,t,rfl,o,rfl⟩:=rs;exact⟨a,[v1,v2],rfl,s,rfl,v1,[v2],rfl,v2,[],rfl,rfl,K _ ((re.set r).set o)⟩
   ·cases e
theorem N5 (i j k:Nat){y z:Str}{q r pp:Pos}{o:Nat}(f:X.calm=true)(c:X.N.Nodup)(E:X.N[i]? =some x:=by rfl)(u:Loc X.env.scope x:=by first|exact Or.inl rfl|exact Or.inr rfl)(hf:X.fn x=true∨X.env.scope.names.lookup x=some .local:=by first|exact .inl rfl|exact .inr rfl)
  (D:X.N[j]? =some y:=by rfl)(t:Loc X.env.scope y:=by first|exact Or.inl rfl|exact Or.inr rfl)(J:X.fn y=true∨X.env.scope.names.lookup y=some .local:=by first|exact .inl rfl|exact .inr rfl)
  (C:X.N[k]? =some z:=by rfl)(s:Loc X.env.scope z:=by first|exact Or.inl rfl|exact Or.inr rfl)(I:X.fn z=true∨X.env.scope.names.lookup z=some .local:=by first|exact .inl rfl|exact .inr rfl):
  km X (.Tuple [.Name x p,.Tuple [.Name y q,.Name z r] o pp] n pos) (QS i j k):=by
 try simp only[zS]at*
 exact PG.imp (Kc f (kA (kD c E u hf) (kA (Kc f (kA (kD c D t J) (kA (kD c C s I) JC))) JC))) λ v σ H Q ⟨φ,A,ρ,w,g,S,re,m,e,K⟩=>by
   unfold QS at e
   split at e
   ·rename_i x1 Y Z
    have U:=az e;subst U;obtain⟨a,vs,rfl,B,rs⟩:=m;obtain⟨v1,r1,rfl,T,v2,r2,rfl,P,rfl⟩:=rs;obtain⟨a2,l,rfl,h,b⟩:=P;obtain⟨d,r3,rfl,M,v4,r4,rfl,L,rfl⟩:=b;exact⟨a,[v1,.ref a2],rfl,B,rfl,v1,[.ref a2],rfl,.ref a2,[],rfl,a2,[d,v4],rfl,h,rfl,d,[v4],rfl,v4,[],rfl,rfl,rfl,K _ (((re.set T).set M).set L)⟩
   ·cases e
theorem qy (i:Nat)(c:X.N.Nodup)(b:X.N[i]? =some x:=by rfl)(h:Loc X.env.scope x:=by first|exact Or.inl rfl|exact Or.inr rfl)(hf:X.fn x=true∨X.env.scope.names.lookup x=some .local:=by first|exact .inl rfl|exact .inr rfl):km X (.Name x pos) (zR i):=by
 try simp only[zS]at*
 exact PG.imp (kD c b h hf) λ v σ H Q ⟨φ,A,ρ,w,a,S,re,q,e,k⟩=>by
   have E:ρ.set i (some w)=a:=az e;subst E;exact k _ (re.set q)
theorem yd (h:zC X xr e m):kq X xr tg e (qF m):=by
 try simp only[zS]at*
 exact PI.imp (F3 h) λ σ H Rr ⟨φ,A,ρ,S,re,h⟩=>by
  refine tM.go S re (zZ.mp h) λ w A1 g H1 v d T P Q=>?_;unfold Ku at d;cases e:qa w A1 with
  |none=>rw[e]at d;exact d.elim|some ws=>
   rw[e]at d;dsimp only at d;cases w with
   |tup us=>
    obtain⟨a,ys,rfl,j,t⟩:=Q;refine⟨a,rfl,.inr ⟨⟨ys,j⟩,d g H1 _ T P λ i c l f lw s=>⟨λ C b=>?_,λ b=>?_⟩⟩⟩
    ·have E:us[i]? =some C:=az b
     obtain⟨y,p,I⟩:=(t.monoW lw).get E;refine⟨⟨ys,y,lw.tp _ _ j,p⟩,λ x H3 B=>?_⟩;obtain⟨N,M⟩:=B;subst N;have q:=M ys (lw.tp _ _ j);rw[p]at q;cases q;exact⟨.refl,s,I⟩
    ·have E:us[i]? =none:=az b
     refine⟨ys,lw.tp _ _ j,?_⟩;rw[<- t.length];exact List.getElem?_eq_none_iff.mp E
   |ref n=>
    obtain⟨a,rfl,j⟩:=Q;have read:∀{c l f us},gR X.K g H1 c l->zN X.K c f l->qa (.ref n) f=some us->∃ys,qL X.K l a ys/\zJ X.K c l us ys:=λ {c l f us} lw s es=>by
     obtain⟨Z,ys,U,z,r⟩:=Yy (w:=.ref n) (v:=.ref a) s ⟨a,rfl,lw.ex _ _ j⟩ es;cases U;unfold qa at es;dsimp only at es;cases L:f[n]? with
     |none=>rw[L]at es;cases es|some o=>
      rw[L]at es;obtain⟨Z,t,r⟩:=s.ob n o L;rw[lw.ex _ _ j]at t;cases t;cases o with
      |lst xs=>cases es;obtain⟨ys,d,J⟩:=r;exact⟨ys,qL.of d,J⟩|ro xs=>cases es;obtain⟨ys,d,J⟩:=r;exact⟨ys,d.sq,J⟩|dct xs=>cases es|tab _ _=>cases es
    obtain⟨Y,D,_⟩:=read ⟨λ _ _ h=>h,λ _ _ h=>h,λ _ _ _ h=>h⟩ P e;refine⟨a,rfl,.inl ⟨⟨Y,D⟩,d g H1 _ T P λ i c l f lw s=>⟨λ C b=>?_,λ b=>?_⟩⟩⟩
    ·dsimp only at b
     cases es:qa (.ref n) f with
     |none=>rw[es]at b;cases b|some us=>
      rw[es]at b;have E:us[i]? =some C:=az b;obtain⟨ys,u,r⟩:=read lw s es;obtain⟨y,p,I⟩:=r.get E;refine⟨⟨ys,y,u,p⟩,λ x H3 B=>?_⟩;obtain⟨N,M⟩:=B;subst N;have q:=M ys u;rw[p]at q;cases q;exact⟨.refl,s,I⟩
    ·dsimp only at b
     cases es:qa (.ref n) f with
     |none=>rw[es]at b;cases b|some us=>
      rw[es]at b;have E:us[i]? =none:=az b;obtain⟨ys,u,r⟩:=read lw s es;refine⟨ys,u,?_⟩;rw[<- r.length];exact List.getElem?_eq_none_iff.mp E
   |non=>cases e|bl _=>cases e|clo _ _ _=>cases e|xc _=>cases e|int _=>cases e|str _=>cases e
theorem ZS (g:Gl X "enumerate")(hm:X.mg "enumerate" = none)(e:zC X xr a ma)(s:starEach [a] X.env=[(false,eval a X.env)]:=by rfl):kq X xr (.Tuple elts kk tpos) (.Call (.Name "enumerate" p) [a] [] pos) (jW ma):=by
 try simp only[zS]at*
 exact PI.imp (HL g hm (jA e j3 (by rw[s];rfl)) s) λ σ H r ⟨φ,A,ρ,S,re,h⟩=>by
   refine tM.go S re (zZ.mp h) λ w A1 c H1 v b l d q=>?_;cases es:qa w A1 with
   |none=>rw[es]at b;exact b.elim|some ws=>
    rw[es]at b;obtain⟨p,ys,rfl,z,Z⟩:=YH d q es;exact⟨p,Zt w,ys,rfl,z,b c H1 _ l d (DJ q)⟩
theorem M5 (m:zC X xr a ma)(d:attributeBase a "items" X.env (eval a X.env)=eval a X.env:=by rfl)(e:(apos.endLine==cpos.line)=true:=by rfl):
  kq X xr (.Tuple elts kk tpos) (.Call (.Attribute a "items" apos) [] [] cpos) (Z2 ma):=by
 try simp only[zS]at*
 exact PI.imp (Io m d e) λ σ H r ⟨φ,A,ρ,S,re,h⟩=>by
   unfold Z2 at h;cases A with
   |cons o A=>exact h.elim|nil=>
    dsimp only at h;have i:φ=[]:=by have:=S.len;simpa using this
    subst i;refine tM.go S re (zZ.mp h) λ w A1 j H1 v f l s q=>?_
    split at f
    ·rename_i kvs
     by_cases hn:qR (kvs.map (·.2))=true
     ·rw[af hn]at f
      obtain⟨p,us,rfl,f1,g1,g2,g3⟩:=s.dct q (kvs:=kvs) rfl;have h0:H p=none:=by
       rcases l.nw 0 p f1 with z|z
       ·simp at z
       ·exact z
      refine⟨p,us,rfl,g1,λ o=>?_⟩;have tp:∀c vs,qi X.K H1 c vs->qi X.K (upd H1 p (.frz o (.dK us))) c vs:=λ c vs t=>YY t (λ xs z=>by rw[g1]at z;cases z) (λ _ _ z=>by rw[g1]at z;cases z)
      have le:Le X.K [] H [] (upd H1 p (.frz o (.dK us))):=by
       refine⟨λ n c z=>z,λ c vs t=>tp c vs (l.tp c vs t),λ c u b nn=>?_,λ n c z=>.inl z,λ c z=>?_,λ c u U b=>?_⟩
       ·rw[qj (kN b h0)];exact l.fr c u b nn
       ·by_cases g:c=p
        ·rw[g];exact h0
        ·rw[qj g]at z;exact l.st c z
       ·rw[qj (kN b h0)];exact l.fz c u U b
      exact f [] _ _ le zN.none (CA (o:=o) jN g2 (g3.nrm tp (λ c u U b=>by rw[qj (Cu b g1 (by intro z;cases z))];exact b) hn) hn)
     ·rw[aj hn]at f;exact f.elim
    ·exact f.elim
theorem jn (g:Gl X "range")(hm:X.mg "range" = none)(e:zC X xr a ma)(s:starEach [a] X.env=[(false,eval a X.env)]:=by rfl):kq X xr tg (.Call (.Name "range" p) [a] [] pos) (ja ma):=by
 try simp only[zS]at*
 exact PI.imp (Mb g hm (jA e j3 (by rw[s];rfl)) s) λ σ H r ⟨φ,A,ρ,S,re,h⟩=>by
   refine tM.go S re (zZ.mp h) λ w A1 c H1 v b l i q=>?_;cases w with
   |int j=>
    obtain rfl:=q;dsimp only at b
    by_cases d:jo j=true
    ·rw[af d]at b
     obtain⟨f,B⟩:=Qw d;exact⟨j,rfl,f,B,b c H1 _ l i DE⟩
    ·rw[aj d]at b;exact b.elim
   |non=>exact b.elim|bl _=>exact b.elim|str _=>exact b.elim|tup _=>exact b.elim|ref _=>exact b.elim|clo _ _ _=>exact b.elim|xc _=>exact b.elim
theorem Y3 (o:Gl X "zip")(hm:X.mg "zip" = none)(t:zC X xr a ma)(r:zC X xr b mb)(g:starEach [a,b] X.env=(false,eval a X.env)::starEach [b] X.env:=by rfl)(e:starEach [b] X.env=(false,eval b X.env)::starEach [] X.env:=by rfl)(n:(backTo pos (starEach [b] X.env)).any (·.1)=false:=by rfl):
  kq X xr (.Tuple elts kk tpos) (.Call (.Name "zip" p) [a,b] [] pos) (wC ma mb):=by
 try simp only[zS]at*
 exact PI.imp (DD o hm (jA t (jA r j3 e) g) g n) λ σ H D ⟨φ,A,ρ,S,re,h⟩=>by
   refine tM.go S re (zZ.mp h) λ w A1 i H1 v u l x m=>?_;refine tM.go x (re.mono l) (qm (zZ.mp u) (λ _ _ z=>z) λ _ _ z=>z.mono l) λ f A2 d y v2 c L s Q=>?_;cases es:qa w A2 with
   |none=>rw[es]at c;exact c.elim|some us=>
    cases es':qa f A2 with
    |none=>rw[es,es']at c;exact c.elim|some vs=>
     rw[es,es']at c;have q:=m.mono L;obtain⟨p,xs,rfl,j,C⟩:=YH s q es;obtain⟨P,ys,rfl,Z,B⟩:=YH s Q es';exact⟨p,P,Zt w,Zt f,xs,ys,rfl,j,Z,c d y _ (l.trans L) s (DM q Q)⟩
theorem HI {d:Nat}{me:Ev}(x:∀e s,X.xe e s->False)(he:zC X ko elt me)(m:gens[d+1]? =none):wJ X elt gens sc pos d (zP me):=by
 try simp only[zS]at*
 exact ku.imp (L7 x he m) λ D σ H Q ⟨φ,A,ρ,acc,ys,S,re,o,n,r,h⟩=>by
   refine tM.go S re (W6 (zZ.mp h)) λ w A1 g H1 v f l p q=>?_;obtain⟨c,n1⟩:=l.off o n
   by_cases z:acc.length<zX
   ·rw[af z]at f
    have j:=r.length;refine⟨ys,c,?_,?_⟩
    ·rw[<- j]
     have:sizeLine=16777216:=sizeLine_eq
     unfold zX at z;omega
    ·exact f g _ σ _ (l.toD.trans (yb.upd c)) n1 (p.off c n1) ⟨re.len,λ i w e=>let ⟨v,a,b⟩:=re.get i w e;⟨v,a,(b.mono l).monoD (yb.upd c)⟩⟩ jN
      (((r.mono l).monoD (yb.upd c)).append (.one (q.monoD (yb.upd c))))
   ·rw[aj z]at f;exact f.elim
theorem Sr {iter:Expr}{d:Nat}{mi:Ei}{tw:Tg}{m:Ev}{em:Em}(o:∀e s,X.xe e s->False)(w:X.calm=true)(v:gens[d+1]? =some ⟨tg,iter,ifs,0⟩)(y:∀g',gens[d+2]? =some g'->g'.is_async=0)
  (hw:kq X ko tg iter mi)(t:km X tg tw)(u:gf X ifs m)(hm:wJ X elt gens sc pos (d+1) em)(q:∀x,foldedSetIterable iter X.env x=pure x:=by intro _;rfl):wJ X elt gens sc pos d (gH mi tw m em):=by
 try simp only[zS]at*
 exact ku.imp (Lq o w v y hw t u hm q) λ D σ H Q ⟨φ,A,ρ,acc,ys,S,re,B,n,f,h⟩=>by
   refine⟨φ,A,ρ,S,re,qm (W6 (zZ.mp h)) (λ j A1 E c H1 J l P i=>?_) λ _ _ z=>z⟩;obtain⟨K,n1⟩:=l.off B n;exact jc.read i P (re.mono l) K n1 (f.mono l) (qm E (λ p A2 C a T b zs L N M r I g=>C a T b zs (l.toD.trans L) N M r I g) λ _ _ z=>z)
theorem jJ (h:zC X xr e m):kZ X xr e (qb m):=by
 try simp only[zS]at*
 exact PE.imp h λ σ H Q ⟨φ,A,ρ,S,re,h⟩=>by
  refine tM.go S re (zZ.mp h) λ w A1 c H1 v b l s q=>?_;cases e:qa w A1 with
  |none=>rw[e]at b;exact b.elim|some ws=>
   rw[e]at b;obtain⟨a,ys,rfl,d,E⟩:=Yy s q e;exact b c H1 a ys l s d E
theorem yB {q:jw}(h:ZF X xr e q):kZ X xr e q:=by
 try simp only[zS]at*
 exact PE.imp h λ σ H Q ⟨φ,A,ρ,S,re,h⟩=>
  ⟨φ,A,ρ,S,re,qm h (λ ws A1 c a H1 D ys l s h0 b n r=>c a H1 D ys l s (.inl (qL.of b)) r) λ _ _ z=>z⟩
theorem IB {o i:Expr}{mo mi:Ev}(ho:zC X xr o mo)(hi:zC X xr i mi)(he:zC X xr e m)
  (ha:∀c I new,augStore i c I new=(do holding [new,c,I] (setItem c I new);release [new,c,I] [];pure .next):=by intros;rfl):yD X xr (.AugAssign (.Subscript o i tpos) .Add e pos) (JT mo mi m):=by
 try simp only[zS]at*
 exact PS.imp (IX ho hi Ib he Dg set_list ha) λ D σ H ⟨φ,A,ρ,S,re,h⟩=>by
   refine tM.go S re (zZ.mp h) λ U A1 N H1 v1 h1 q S1 Q=>?_;refine tM.go S1 (re.mono q) (qm (zZ.mp h1) (λ _ _ z=>z) λ _ _ z=>z.mono q) λ w A2 M H2 v2 a j B q2=>?_;have l:=q.trans j;cases U with
   |ref n=>cases w with
    |int k=>
     obtain rfl:=q2;dsimp only at a
     by_cases h0:0<=k
     ·rw[af h0]at a
      cases d:(A2[n]?:Option O) with
      |none=>rw[d]at a;exact a.elim|some ob=>cases ob with
       |lst ws=>
        rw[d]at a;dsimp only at a;obtain⟨p,vs,rfl,f1,g1,Z⟩:=B.lst (Q.mono j) d;cases E:ws[k.toNat]? with
        |none=>rw[E]at a;exact a.elim|some P=>cases P with
         |int x=>
          rw[E]at a;dsimp only at a;obtain⟨v,hv,Y⟩:=Z.get E;obtain rfl:=Y;refine⟨p,vs,k,_,rfl,rfl,h0,g1,hv,?_⟩;refine tM.go B (re.mono l) (qm (zZ.mp a) (λ _ _ z=>z) λ _ _ z=>z.mono l) λ T J g H3 v3 b t S3 q3=>?_;have L:=l.trans t;cases T with
          |int y=>
           obtain rfl:=q3;dsimp only at b;refine⟨x,y,rfl,rfl,?_⟩;refine TQ (K:=X.K) g J H3 (.ref p) (.int k) (.int (x+y)) (.ref n) (.int k) (.int (x+y)) _ S3 ((Q.mono j).mono t) rfl rfl ?_;cases r:j7 (.ref n) (.int k) (.int (x+y)) J with
           |ok u C=>
            rw[r]at b;exactλ f H4 s S4=>b f H4 σ (L.trans s) S4 (re.mono (L.trans s))
           |exc z C=>exact absurd r (Rw _ _ _ _ z C)|bad=>rw[r]at b;exact b.elim
          |_=>exact b.elim
         |_=>rw[E]at a;exact a.elim
       |_=>rw[d]at a;exact a.elim
     ·rw[aj h0]at a;exact a.elim
    |_=>exact a.elim
   |_=>cases w<;>exact a.elim
theorem QF:yD X xr st Qc:=by
 try simp only[zS]at*
 exactλ pins s σ H D I ⟨φ,A,ρ,S,re,h⟩=>h.elim
theorem zu (a:yD X xr st m1)(d:kF X xr rest m2):kF X xr (st::rest) (zr m1 m2):=by
 try simp only[zS]at*
 exact yv.imp (LH a d) λ D σ H ⟨φ,A,ρ,S,re,h⟩=>by
   refine⟨φ,A,ρ,S,re,qm (zZ.mp h) (λ f A1 a=>?_) λ _ _ z=>z⟩;cases f with
   |nx ρ1=>exactλ b e c l s r=>⟨b,A1,ρ1,s,r,qm a (λ _ _ z=>z.mono l) λ _ _ z=>z.mono l⟩|rt w=>exact a|bk ρ1=>exact a|ct ρ1=>exact a
theorem jg (he:zC X xr e m)(s:swapsWith e none pos.line X.env=pure false:=by rfl):yD X xr (.Expr e pos) (qX m):=by
 try simp only[zS]at*
 exact PS.imp (Fm he s) λ D σ H ⟨φ,A,ρ,S,re,h⟩=>tM.go S re (zZ.mp h) λ w A1 a H1 v b l c q=>b a H1 σ l c (re.mono l)
theorem kE {iter:Expr}{mi:Ei}{tw:Tg}(hp:PassesOwn (model X.prog X.w) X.A X.env X.xe)(hc:X.calm=true)(hi:kq X xr tg iter mi)(hg:km X tg tw)(hb:kF X xr body m1)
  (hs:∀x,foldedSetIterable iter X.env x=pure x:=by intro _;rfl):yD X xr (.For tg iter body [] pos) (jG mi tw m1):=by
 try simp only[zS]at*
 exact PS.imp (E1 hp hc hi hg hb hs) λ D σ H ⟨φ,A,ρ,S,re,h⟩=>by
   refine⟨φ,A,ρ,S,re,qm (zZ.mp h) (λ j A1 h1 g H1 J N S1 jr=>?_) λ _ _ z=>z⟩;refine⟨λ i f d C=>Pe X.K xr j (turn tw m1) D g H1 f i d C,
    ⟨j.len,g,A1,ρ,.refl,S1,re.mono N,qm h1 (λ _ _ z=>z.mono N) λ _ _ z=>z.mono N⟩,?_⟩
   rintro i f I U ⟨c,A2,p,t,T,q,b⟩
   obtain⟨j1,j2⟩:=jr i c U A2 ⟨t.ex,t.tp,t.fz⟩ T;cases E:j.at_ A2 i with
   |none=>cases f<;>(unfold jQ at b;rw[E]at b;exact b.elim)|some o=>
    cases o with
    |none=>
     left
     refine⟨j2 E,?_⟩;cases f<;>(unfold jQ at b;rw[E]at b;exact b c U I .refl T q)
    |some w=>
     right
     obtain⟨go,yl⟩:=j1 w E;cases f with
     |zero=>unfold jQ at b;rw[E]at b;exact b.elim|succ f=>
      unfold jQ at b;rw[E]at b;refine⟨go,λ d C=>Pe X.K xr j (turn tw m1) D g H1 f (i+1) d C,λ d C z=>⟨f,bg _,z⟩,λ x H3 y=>?_⟩;obtain⟨L,Q,q3⟩:=yl x H3 y;have u:=zZ.mp b;unfold turn at u;cases P:tw w p with
      |none=>rw[P]at u;exact u.elim|some n=>
       rw[P]at u;refine⟨c,A2,p,w,n,Q,q.mono L,q3,P,λ Z M=>?_⟩;refine⟨c,A2,n,Q,M,qm u (λ fl Y B=>?_) λ _ _ z=>z.mono L⟩;cases fl with
       |nx e=>exactλ a v m l s r=>⟨a,Y,e,(t.trans L).trans l,s,r,qm B (λ _ _ z=>z.mono (L.trans l)) λ _ _ z=>z.mono (L.trans l)⟩|ct e=>exactλ a v m l s r=>⟨a,Y,e,(t.trans L).trans l,s,r,qm B (λ _ _ z=>z.mono (L.trans l)) λ _ _ z=>z.mono (L.trans l)⟩|bk e=>exactλ a v m l s r=>B a v m (L.trans l) s r|rt w4=>exactλ a v v4 l s q4=>B a v v4 (L.trans l) s q4
theorem qZ {sa s:List Stmt}(e:yh X xr c mc)(g:kF X xr sa m1)(f:kF X xr s m2):yD X xr (.If c sa s pos) (ql mc m1 m2):=by
 try simp only[zS]at*
 exact PS.imp (D7 e g f) λ D σ H ⟨φ,A,ρ,S,re,h⟩=>by
   refine tT.go S re (zZ.mp h) λ w A1 a=>?_;cases w with
   |bl k=>
    refine⟨k,rfl,λ b H1 l d=>?_⟩;cases k with
    |true=>rw[af rfl];exact⟨b,A1,ρ,d,re.mono l,qm a (λ _ _ z=>z.mono l) λ _ _ z=>z.mono l⟩|false=>rw[aj ay];exact⟨b,A1,ρ,d,re.mono l,qm a (λ _ _ z=>z.mono l) λ _ _ z=>z.mono l⟩
   |non=>cases a|int _=>cases a|str _=>cases a|tup _=>cases a|ref _=>cases a|clo _ _ _=>cases a|xc _=>cases a
theorem zE:kF X xr [] zx:=by
 try simp only[zS]at*
 exact yv.imp HE λ D σ H ⟨φ,A,ρ,S,re,h⟩=>h φ H σ .refl S re
theorem z7 (he:zC X xr e m):yD X xr (.Return (some e) pos) (zT m):=by
 try simp only[zS]at*
 exact PS.imp (FZ he) λ D σ H ⟨φ,A,ρ,S,re,h⟩=>tM.go S re (zZ.mp h) λ w A1 a H1 v b l s q=>b a H1 v l s q
theorem qx (i:Nat){pos':Pos}(b:X.N.Nodup)(he:zC X xr e m)(a:X.N[i]? =some x:=by rfl)(h:Loc X.env.scope x:=by first|exact Or.inl rfl|exact Or.inr rfl)(H:swapsWith e (some (.Name x pos')) pos.line X.env=pure false:=by rfl)
  (hf:X.fn x=true∨X.env.scope.names.lookup x=some .local:=by first|exact .inl rfl|exact .inr rfl):yD X xr (.Assign [.Name x pos'] e pos) (zY i m):=by
 try simp only[zS]at*
 exact PS.imp (ED b a h he H hf) zY.read
theorem WG (i:Nat){iter:Expr}{mi:Ei}{tw:Tg}{m:Ev}{em:Em}{P a:Pos}(nl:Nat)(cap:List Nat)(j:X.N.Nodup)
  (e:X.calm=true)(S:wW X sc)(p:Zq X.N N sc nl cap=true)(hw:kq X xr tg iter mi)
  (n:∀s H fp,km (ju X N sc s H fp j8) tg tw/\gf (ju X N sc s H fp j8) ifs m/\wJ (ju X N sc s H fp j8) elt (⟨tg,iter,ifs,0⟩::gs) sc pos 0 em)
  (b:X.N[i]? =some x:=by rfl)(c:X.env.scope.names.lookup x=some .local:=by rfl)
  (w:swapsWith (.ListComp elt (⟨tg,iter,ifs,0⟩::gs) sc pos) (some (.Name x P)) a.line X.env=pure true:=by rfl)
  (f:∀g',gs[0]? =some g'->g'.is_async=0:=by intro _ h;cases h<;>rfl)
  (d:∀x,foldedSetIterable iter X.env x=pure x:=by intro _;rfl):yD X xr (.Assign [.Name x P] (.ListComp elt (⟨tg,iter,ifs,0⟩::gs) sc pos) a) (zY i (qh (zV nl cap mi tw m em))):=by
 try simp only[zS]at*
 exact PS.imp (L2.NV (g:=tG X.K tw) (ti:=tT X.K ko m) (tm:=tE X.K em) j b c w e S p f hw n d) λ D σ H h=>zV.read σ H _ (qh.read σ H _ (zY.read D σ H h))
theorem we (h:wI X xr e m):yh X xr e m:=by
 try simp only[zS]at*
 exact PW.pt h
theorem qU {g:W->W->Hx->R W}(h:yT X op g)(c:zC X xr a ma)(H:zC X xr b mb)(e:op≠.In:=by decide)(d:op≠.NotIn:=by decide):yh X xr (.Compare a [op] [b] pos) (zl g ma mb):=by
 try simp only[zS]at*
 exact let ⟨r,a1,a2,A⟩:=h.ex;Rf a1 a2 A c H (h.mks b e d)
theorem F2 {o:CmpOp}{g g':W->W->Hx->R W}(h:yT X op g)(h':yT X o g')(e:zC X xr a ma)(d:zC X xr b mb)(H:zC X xr c mc)(hm:lastMarks [op,o] [b,c]=false:=by with_unfolding_all rfl):
  yh X xr (.Compare a [op,o] [b,c] pos) (yc g g' ma mb mc):=by
 try simp only[zS]at*
 exact let ⟨r,a1,a2,A⟩:=h.ex;let ⟨j,i,f,B⟩:=h'.ex;Lr a1 a2 A i f B e d H hm
theorem FW {g:W->W->Hx->R W}(h:Xd X op g)(c:zC X xr a ma)(H:zC X xr b mb)(hm:behindInMarks op b=false:=by rfl):yh X xr (.Compare a [op] [b] pos) (zl g ma mb):=by
 try simp only[zS]at*
 exact let ⟨r,a1,a2,A⟩:=h.ex;Rf a1 a2 A c H hm
theorem wm (f:yh X xr a ma):yh X xr (.UnaryOp .Not a pos) (yu ma):=by
 try simp only[zS]at*
 exact PT.imp (DC f) λ σ H Q ⟨φ,A,ρ,S,re,h⟩=>by
   refine tT.go S re (zZ.mp h) λ w A1 c=>?_;cases w with
   |bl k=>obtain⟨b,e,q⟩:=c;cases e;exact⟨k,rfl,λ d H1 l s=>q d H1 l s⟩|non=>cases c|int _=>cases c|str _=>cases c|tup _=>cases c|ref _=>cases c|clo _ _ _=>cases c|xc _=>cases c
theorem wt (h:zC X xr e m)(he:∀whole,isTrue e X.env whole=(do let v <- whole;standAt e.pos;holding [v] (truthy v)):=by intro _;rfl):yh X xr e m:=by
 try simp only[zS]at*
 exact PT.imp (Ep h he) λ σ H Q h=>h.toM
theorem qH:gf X [] (zj (.bl true)):=by
 try simp only[zS]at*
 exactλ pins s σ H Q I ⟨φ,A,ρ,S,re,h⟩=>LQ pins s σ H Q I (by
  obtain⟨b,e,q⟩:=h;cases e;exact q φ H .refl S)
theorem Ti (h:yh X ko c mc):gf X [c] mc:=by
 try simp only[zS]at*
 exact Ig h
theorem Gj {rest:List Expr}(g:yh X xr a ma)(f:wI X xr (.BoolOp .And (b::rest) pos) mb):wI X xr (.BoolOp .And (a::b::rest) pos) (jz ma mb):=by
 try simp only[zS]at*
 exact PW.imp (pw_and g f) λ σ H Q ⟨φ,A,ρ,S,re,h⟩=>by
   refine tT.go S re (zZ.mp h) λ w A1 c=>?_;cases w with
   |bl k=>
    refine⟨k,rfl,λ d H1 l s=>?_⟩;cases k with
    |true=>rw[af rfl];exact tT.mono s l re c|false=>rw[aj ay];obtain⟨b,e,q⟩:=c;cases e;exact q d H1 l s
   |non=>cases c|int _=>cases c|str _=>cases c|tup _=>cases c|ref _=>cases c|clo _ _ _=>cases c|xc _=>cases c
theorem W2 (h:yh X xr a ma):wI X xr (.BoolOp .And [a] pos) ma:=by
 try simp only[zS]at*
 exact pw_and1 h
theorem w5 {rest:List Expr}(g:yh X xr a ma)(f:wI X xr (.BoolOp .Or (b::rest) pos) mb):wI X xr (.BoolOp .Or (a::b::rest) pos) (yj ma mb):=by
 try simp only[zS]at*
 exact PW.imp (pw_or g f) λ σ H Q ⟨φ,A,ρ,S,re,h⟩=>by
   refine tT.go S re (zZ.mp h) λ w A1 c=>?_;cases w with
   |bl k=>
    refine⟨k,rfl,λ d H1 l s=>?_⟩;cases k with
    |false=>rw[aj ay];exact tT.mono s l re c|true=>rw[af rfl];obtain⟨b,e,q⟩:=c;cases e;exact q d H1 l s
   |non=>cases c|int _=>cases c|str _=>cases c|tup _=>cases c|ref _=>cases c|clo _ _ _=>cases c|xc _=>cases c
theorem Ze (h:yh X xr a ma):wI X xr (.BoolOp .Or [a] pos) ma:=by
 try simp only[zS]at*
 exact pw_or1 h
theorem qJ {K:Frag}{st:Stmt}{f:Addr}{k:Nat}{m:Ex}(F:gm K x x st f fd)(hm:mg x=some (.ref f))(S:qo N ps (qc st))
  (i:∀(kV doc pm:Value)(an:Option Addr)(c ct:Value)(us:List Value),us.length=ps.length->bindArgs (fnOf x x (QG st) (gA st) (qc st) .none kV doc pm an c ct) ⟨us,[]⟩=pure (ps.zip us))
  (a:∀(c:Value)(A:Around)(outer:List Env)(s:Shared)(H:Hp)(E:XK),jy k (A.deeper (envOfC x (qc st) s.heap.objs.size f c))->kF (Zx k6 P w K mg base N x (qc st) f c A outer s H E).nox ko (gA st) m):
  zI P w K mg base (k+1) x ps.length (qk N.length m):=by
 try simp only[zS]at*
 refine⟨f,fd,ps,?_,hm,F.kp,F.binds i⟩;refine F.ok S (λ vs H Q E h=>h.len) λ c A outer s H vs Q E g ⟨p,φ,A1,ws,Sm,r,h⟩=>⟨_,a c A outer s H E g,?_⟩;refine⟨φ,A1,ws.map some++List.replicate (N.length - ws.length) none,Sm,RE.start r,?_⟩;have h':=zZ.mp h;show R.post _ (FB K φ H _) _;cases e:m (ws.map some++List.replicate (N.length - ws.length) none) A1 with
 |ok j A2=>
  rw[e]at h';cases j with
  |rt w=>exact h'|nx ρ=>exactλ b o d l n _=>h' b o .non l n rfl|bk ρ=>exact h'.elim|ct ρ=>exact h'.elim
 |exc y A2=>
  rw[e]at h';exact h'.elim
 |bad=>rw[e]at h';exact h'.elim
theorem CO {K:Frag}{st:Stmt}{f:Addr}{k:Nat}{m:Ex}(F:gm K x x st f fd)(S:qo N ps (qc st))
  (a:∀(c:Value)(A:Around)(outer:List Env)(s:Shared)(H:Hp)(E:XK),jy k (A.deeper (envOfC x (qc st) s.heap.objs.size f c))->kF (Zx k6 P w K mg base N x (qc st) f c A outer s H E).nox ko (gA st) m):
  yt P w K mg base k6 (k+1) f fd ps (gY K ps.length (qk N.length m)):=by
 try simp only[zS]at*
 refine F.ok S (λ vs H Q E h=>h.len) λ c A outer s H vs Q E g ⟨o,φ,A1,ws,Sm,r,h⟩=>⟨_,a c A outer s H E g,?_⟩;refine⟨φ,A1,ws.map some++List.replicate (N.length - ws.length) none,Sm,RE.start r,?_⟩;have h':=zZ.mp h;show R.post _ (FB K φ H _) _;cases e:m (ws.map some++List.replicate (N.length - ws.length) none) A1 with
 |ok i A2=>
  rw[e]at h';cases i with
  |rt w=>exact h'|nx ρ=>exactλ b n d l j _=>h' b n .non l j rfl|bk ρ=>exact h'.elim|ct ρ=>exact h'.elim
 |exc y A2=>rw[e]at h';exact h'.elim|bad=>rw[e]at h';exact h'.elim
theorem Gh (hm:X.mg "abs" = none)(a:zC X xr e m)(h:Gl X "abs" := by rfl)(he:starEach [e] X.env=(false,eval e X.env)::starEach [] X.env:=by rfl):zC X xr (.Call (.Name "abs" p) [e] [] pos) (yK JV m):=by
 try simp only[zS]at*
 exact DU IL (λ w A=>by unfold JV;split;exact jx;exact qN) (λ φ A H x u Q S q p=>by
   cases u with
   |int i=>obtain rfl:=q;exact⟨i,rfl,p φ H _ .refl S rfl⟩|_=>exact p.elim) hm (by rfl) a h (by decide) (by decide) he (by rfl)
theorem WT (i:zC X xr a ma)(he:zC X xr b mb)(s:starEach [b] X.env=(false,eval b X.env)::starEach [] X.env:=by rfl)
  (e:attributeBase a "append" X.env (eval a X.env)=eval a X.env:=by rfl)
  (w:((backTo cpos (starEach [b] X.env)).all (λ x=>!x.1)&&(backToKw cpos (keywordEach [] X.env)).all (λ x=>x.1.isSome)
   && decide ([b].length+([]:List Keyword).length+(if ([]:List Keyword).isEmpty then 0 else 1)<30))=true:=by rfl)(h:(apos.endLine==cpos.line)=true:=by rfl):
  zC X xr (.Call (.Attribute a "append" apos) [b] [] cpos) (yR wj ma mb):=by
 try simp only[zS]at*
 exact G5 PySem.F.slot_list_append PySem.F.type_list_append UN Lg (λ φ A H x y u v Q S g q p=>by
   unfold wj at p;cases u with
   |ref n=>
    dsimp only at p;cases E:A[n]? with
    |none=>rw[E]at p;exact p.elim|some o=>cases o with
     |lst ws=>
      rw[E]at p;dsimp only at p
      by_cases c:ws.length<zX
      ·rw[af c]at p
       obtain⟨l,vs,rfl,f1,g1,r⟩:=S.lst g E;refine⟨l,vs,y,rfl,rfl,g1,?_,?_⟩
       ·rw[<- r.length]
        have:sizeLine=16777216:=sizeLine_eq
        unfold zX at c;omega
       ·have ln:Le X.K φ H φ (upd H l (.lst (vs++[y]))):=Le.upd f1 (λ xs z=>by rw[g1]at z;cases z) (λ _ _ z=>by rw[g1]at z;cases z)
        obtain⟨f,d⟩:=S.write (o:=.lst ws) (o':=.lst (ws++[v])) E rfl rfl f1 ⟨_,jN,(r.mono ln).append (.one (q.mono ln))⟩;exact p _ _ _ f d rfl
      ·rw[aj c]at p;exact p.elim
     |_=>rw[E]at p;exact p.elim
   |_=>exact p.elim) i he s e w h
theorem Js (hm:X.mg "int" = none)(a:zC X xr e m)(h:Gl X "int" := by rfl)(he:starEach [e] X.env=(false,eval e X.env)::starEach [] X.env:=by rfl):zC X xr (.Call (.Name "int" p) [e] [] pos) (yK Qa m):=by
 try simp only[zS]at*
 exact Ds MD (λ w A=>by unfold Qa;split;exact jx;exact jx;exact qN) (λ φ A H x u Q S q p=>by
   cases u with
   |int i=>obtain rfl:=q;exact .inl ⟨i,rfl,p φ H _ .refl S rfl⟩|bl k=>obtain rfl:=q;exact .inr ⟨k,rfl,p φ H _ .refl S rfl⟩|_=>exact p.elim) hm (by rfl) a h (by decide) (by decide) he (by rfl)
theorem Lj (e:X.calm=true)(hm:X.mg "max" = none)(n:zC X xr a ma)(m:zC X xr b mb)(l:Gl X "max" := by rfl)(r:starEach [a,b] X.env=(false,eval a X.env)::starEach [b] X.env:=by rfl)(o:starEach [b] X.env=(false,eval b X.env)::starEach [] X.env:=by rfl)(h:(backTo pos (starEach [b] X.env)).any (·.1)=false:=by rfl):
  zC X xr (.Call (.Name "max" p) [a,b] [] pos) (zl G1 ma mb):=by
 try simp only[zS]at*
 exact GR (MW e) Zs (λ φ A H x y u v Q S d c p=>by
   obtain⟨i,j,s,E,q⟩:=Zl (K:=X.K) (f:=λ i j=>.int (if j > i then j else i)) (g:=λ i j=>.int (if j > i then j else i)) (λ _ _ _ _=>rfl) φ A H x y u v Q S d c p;subst s;subst E;exact⟨i,j,rfl,q⟩) hm (by rfl) n m l (by decide) (by decide) r o h
theorem Mp (B:zC X xr a ma)(he:zC X xr b mb)(t:starEach [b] X.env=(false,eval b X.env)::starEach [] X.env:=by rfl)
  (e:attributeBase a "pop" X.env (eval a X.env)=eval a X.env:=by rfl)
  (c:((backTo cpos (starEach [b] X.env)).all (λ x=>!x.1)&&(backToKw cpos (keywordEach [] X.env)).all (λ x=>x.1.isSome)
   && decide ([b].length+([]:List Keyword).length+(if ([]:List Keyword).isEmpty then 0 else 1)<30))=true:=by rfl)(h:(apos.endLine==cpos.line)=true:=by rfl):
  zC X xr (.Call (.Attribute a "pop" apos) [b] [] cpos) (yR w6 ma mb):=by
 try simp only[zS]at*
 exact G5 PySem.F.slot_list_pop PySem.F.type_list_pop Ir L9 (λ φ A H x y u v Q S s q p=>by
   unfold w6 at p;cases u with
   |ref n=>cases v with
    |int i=>
     obtain rfl:=q;dsimp only at p;cases E:A[n]? with
     |none=>rw[E]at p;exact p.elim|some o=>cases o with
      |lst ws=>
       rw[E]at p;dsimp only at p
       by_cases d:jo i=true
       ·rw[af d]at p
        obtain⟨J,I⟩:=Qw d;cases g:seqIndex? i ws.length with
        |none=>rw[g]at p;exact p.elim|some k=>
         rw[g]at p;dsimp only at p;cases f:ws[k]? with
         |none=>rw[f]at p;exact p.elim|some w=>
          rw[f]at p;obtain⟨l,vs,rfl,f1,g1,r⟩:=S.lst s E;obtain⟨y,D,C⟩:=r.get f;have ln:Le X.K φ H φ (upd H l (.lst (vs.eraseIdx k))):=Le.upd f1 (λ xs z=>by rw[g1]at z;cases z) (λ _ _ z=>by rw[g1]at z;cases z)
          obtain⟨j,m⟩:=S.write (o:=.lst ws) (o':=.lst (ws.eraseIdx k)) E rfl rfl f1 ⟨_,jN,(r.erase k).mono ln⟩;exact⟨l,vs,i,k,y,rfl,rfl,g1,by omega,by omega,by rw[<- r.length];exact g,D,p _ _ _ j m (C.mono j)⟩
       ·rw[aj d]at p;exact p.elim
      |_=>rw[E]at p;exact p.elim
    |_=>exact p.elim
   |_=>cases v<;>exact p.elim) B he t e c h
theorem Gq (H:zC X xr a ma)(h:zC X xr b mb):zC X xr (.BinOp a .Pow b pos) (zl QY ma mb):=by
 try simp only[zS]at*
 exact Zh Dx GV (GN Hy λ _ _ _ _=>rfl) H h
theorem TR (H:zC X xr a ma)(h:zC X xr b mb):zC X xr (.BinOp a .BitXor b pos) (zl Xg ma mb):=by
 try simp only[zS]at*
 exact Zh Dy Zs (Zl λ _ _ _ _=>rfl) H h
theorem W4 {q:jw}(hm:X.mg "list" = none)(d:kZ X xr e q)(g:Gl X "list" := by rfl)(he:starEach [e] X.env=(false,eval e X.env)::starEach [] X.env:=by rfl):
  zC X xr (.Call (.Name "list" p) [e] [] pos) (qh q):=by
 try simp only[zS]at*
 exact PE.imp (Qy OQ g hm (by rfl) (jA d j3 he) (by decide) (by decide) he (by rfl)) λ σ H Q ⟨φ,A,ρ,S,re,h⟩=>by
   refine⟨φ,A,ρ,S,re,qm (zZ.mp h) (λ ws A1 f b H1 a ys L s z r=>?_) λ _ _ z=>z⟩;refine⟨a,ys,rfl,z,λ l c=>?_⟩;obtain⟨a1,a2,i⟩:=Z1 s c r;exact f _ _ _ (L.trans a1) a2 i
theorem QE {o i:Expr}{mo mi:Ev}(he:zC X xr e m)(H:zC X xr o mo)(a:zC X xr i mi)
  (h:swapsWithSole [.Subscript o i tpos] e pos.line X.env=pure false:=by rfl)(hw:swappedStores [.Subscript o i tpos] e X.env=pure none:=by rfl)
  (c:(assignEach [.Subscript o i tpos] X.env).map (·.2)=[assign (.Subscript o i tpos) X.env]:=by rfl)
  (b:∀v,assign (.Subscript o i tpos) X.env v=(do
   let ov <- holding [v] (eval o X.env)
   let iv <- holding [v,ov] (eval i X.env)
   standAt tpos
   holding [v,ov,iv] (setItem ov iv v)
   release [v,ov,iv] []):=by intro _;rfl):yD X xr (.Assign [.Subscript o i tpos] e pos) (kd j7 m mo mi):=by
 try simp only[zS]at*
 exact LV set_list Rw TQ he H a h hw c b
theorem MZ (f:Nat)(B:PassesOwn (model X.prog X.w) X.A X.env X.xe)(C:yh X xr c mc)(E:kF X xr body m1):yD X xr (.While c body [] pos) (GF f mc m1):=by
 try simp only[zS]at*
 exact PS.imp (Ik B C E) λ D σ H ⟨φ,A,ρ,S,re,h⟩=>by
   refine⟨λ f g e=>∃a A2 d,Le X.K φ H a e/\zN X.K a A2 e/\RE X.K a e d g/\(gK mc m1 f d A2).post (FB X.K a e D) (EB X.K a e xr),⟨f,φ,A,ρ,.refl,S,re,h⟩,?_⟩
   rintro f t T ⟨a,A2,d,v,J,n,u⟩
   cases f with
   |zero=>exact u.elim|succ f=>
    unfold gK at u;refine tT.go J n (zZ.mp u) λ w N j=>?_;cases w with
    |bl k=>
     refine⟨k,rfl,λ o M l x=>?_⟩;cases k with
     |true=>
      rw[af rfl];refine⟨λ g e=>∃a A2 d,Le X.K φ H a e/\zN X.K a A2 e/\RE X.K a e d g/\(gK mc m1 f d A2).post (FB X.K a e D) (EB X.K a e xr),λ g e z=>⟨f,bg _,z⟩,?_⟩;refine⟨o,N,d,x,n.mono l,qm (zZ.mp j) (λ I y q=>?_) λ _ _ z=>z.mono l⟩;cases I with
      |nx i=>exactλ b p m L s r=>⟨b,y,i,(v.trans l).trans L,s,r,qm q (λ _ _ z=>z.mono (l.trans L)) λ _ _ z=>z.mono (l.trans L)⟩|ct i=>exactλ b p m L s r=>⟨b,y,i,(v.trans l).trans L,s,r,qm q (λ _ _ z=>z.mono (l.trans L)) λ _ _ z=>z.mono (l.trans L)⟩|bk i=>exactλ b p m L s r=>q b p m (l.trans L) s r|rt P=>exactλ b p v4 L s Q=>q b p v4 (l.trans L) s Q
     |false=>
      rw[aj ay];exact j o M t l x (n.mono l)
    |non=>cases j|int _=>cases j|str _=>cases j|tup _=>cases j|ref _=>cases j|clo _ _ _=>cases j|xc _=>cases j
end
end Mi
variable {mi:Mi.Ei}{ρ:Mi.En}{m me:Mi.Ev}{A A1:Mi.Hx}{ws:List Mi.W}{o:Mi.O}{tw:Mi.Tg}{g:Mi.W->Mi.W->Mi.Hx->Mi.R Mi.W}{j:Mi.jf}{q:Mi.jw}
set_option maxHeartbeats 400000
namespace Mi
open PySem L2
section
variable {ρ1:En}{A2:Hx}{w x y:W}{ma mb mc:Ev}{m1 m2:Ex}{f:Fn}
theorem zo (h:ρ[i]? =some (some w)):zc i ρ A=.ok w A:=by unfold zc;rw[h]
theorem qv:zj w ρ A=.ok w A:=rfl
theorem zH (H:ma ρ A=.ok x A1)(h:mb ρ A1=.ok y A2):zl g ma mb ρ A=g x y A2:=by unfold zl;rw[H,zM,h,zM]
theorem wq {k:Bool}(h:ma ρ A=.ok (.bl k) A1):yu ma ρ A=.ok (.bl (!k)) A1:=by unfold yu;rw[h,zM]
theorem ka (h:ma ρ A=.ok (.bl true) A1):jz ma mb ρ A=mb ρ A1:=by unfold jz;rw[h,zM]
theorem QK (h:ma ρ A=.ok (.bl false) A1):jz ma mb ρ A=.ok (.bl false) A1:=by unfold jz;rw[h,zM]
theorem w9 (h:ma ρ A=.ok (.bl false) A1):yj ma mb ρ A=mb ρ A1:=by unfold yj;rw[h,zM]
theorem zK {a:Ea}(h:a ρ A=.ok ws A1):zw f a ρ A=f ws A1:=by unfold zw;rw[h,zM]
theorem zL:zq ρ A=.ok [] A:=rfl
theorem zA {r:Ea}(H:ma ρ A=.ok x A1)(h:r ρ A1=.ok ws A2):zh ma r ρ A=.ok (x::ws) A2:=by unfold zh;rw[H,zM,h,zM]
theorem YR {a:Ea}(h:a ρ A=.ok ws A1):jb a ρ A=.ok (.tup ws) A1:=by unfold jb;rw[h,zM]
theorem kR {a:Ea}(h:a ρ A=.ok ws A1):qP a ρ A=.ok (.ref A1.length) (A1++[.lst ws]):=by unfold qP;rw[h,zM]
theorem zF (h:m1 ρ A=.ok (.nx ρ1) A1):zr m1 m2 ρ A=m2 ρ1 A1:=by unfold zr;rw[h,zM]
theorem qf (h:m1 ρ A=.ok (.rt w) A1):zr m1 m2 ρ A=.ok (.rt w) A1:=by unfold zr;rw[h,zM]
theorem qS:zx ρ A=.ok (.nx ρ) A:=rfl
theorem qC (h:m ρ A=.ok w A1):zY i m ρ A=.ok (.nx (ρ.set i (some w))) A1:=by unfold zY;rw[h,zM]
theorem jq (h:m ρ A=.ok w A1):qX m ρ A=.ok (.nx ρ) A1:=by unfold qX;rw[h,zM]
theorem qB (h:m ρ A=.ok w A1):zT m ρ A=.ok (.rt w) A1:=by unfold zT;rw[h,zM]
theorem Z4 (h:mc ρ A=.ok (.bl true) A1):ql mc m1 m2 ρ A=m1 ρ A1:=by unfold ql;rw[h,zM]
theorem jj (h:mc ρ A=.ok (.bl false) A1):ql mc m1 m2 ρ A=m2 ρ A1:=by unfold ql;rw[h,zM]
theorem yA (h:mi ρ A=.ok j A1):jG mi tw m1 ρ A=jQ j (turn tw m1) j.len 0 ρ A1:=by unfold jG;rw[h,zM]
theorem yN (h:tw w ρ=some ρ1):turn tw m1 w ρ A=m1 ρ1 A:=by unfold turn;rw[h]
theorem WS {st:W->Ex}(h:j.at_ A i=some none):jQ j st n i ρ A=.ok (.nx ρ) A:=by
 cases n with
 |zero=>unfold jQ;rw[h]|succ n=>unfold jQ;rw[h]
theorem YJ {st:W->Ex}(h:j.at_ A i=some (some w))(H:st w ρ A=.ok (.nx ρ1) A1):jQ j st (n+1) i ρ A=jQ j st n (i+1) ρ1 A1:=by
 rw[jQ,h];dsimp only;rw[H,zM]
theorem wV {k:Int}(h:m ρ A=.ok (.int k) A1)(H:jo k=true):ja m ρ A=.ok (yV 0 k.toNat) A1:=by unfold ja;rw[h,zM];dsimp only;rw[af H]
theorem wB {lo:Int}{k:Nat}(h:i<k):(yV lo k).at_ A i=some (some (.int (lo+i))):=by unfold yV;dsimp only;rw[af h]
theorem wg {lo:Int}{k:Nat}(h:¬i<k):(yV lo k).at_ A i=some none:=by unfold yV;dsimp only;rw[aj h]
theorem qt (h:m1 (ws.map some++List.replicate (n - ws.length) none) A=.ok (.rt w) A1):qk n m1 ws A=.ok w A1:=by unfold qk;rw[h];rfl
theorem JG (h:m1 (ws.map some++List.replicate (n - ws.length) none) A=.ok (.nx ρ) A1):qk n m1 ws A=.ok .non A1:=by unfold qk;rw[h];rfl
theorem yn {w:W}(hn:qR ws=true)(hw:w.nr=true)(h:f ws []=.ok w A1):iso f ws A=.ok w A:=by
 unfold iso;rw[af hn,h];cases w with
 |ref k=>cases hw|_=>dsimp only;rw[af hw]
end
end Mi
set_option maxHeartbeats 400000
namespace Mi
open PySem L2
theorem LW {ifs:Ev}{c:En}{N:Nat}{item g:Nat->W}{keep:Nat->Bool}(t:∀i,i<N->j.at_ A i=some (some (item i)))(d:j.at_ A N=some none)
  (b:∀i,i<N->ifs (some (item i)::c) A=.ok (.bl (keep i)) A)(he:∀i,i<N->keep i=true->me (some (item i)::c) A=.ok (g i) A):
  ∀(n i:Nat)(x:Option W)(acc:List W),i+n=N->acc.length+n<=zX->∃y,jc j (zR 0) ifs (zP me) n i (x::c) acc A=.ok (y::c,acc++((List.range' i n).filter keep).map g) A:=by
 intro n
 induction n with
 |zero=>
  intro i x acc h _
  have:i=N:=by omega
  subst this;refine⟨x,?_⟩;unfold jc;rw[d];simp
 |succ n I=>
  intro i x acc h l;have H:i<N:=by omega
  rw[jc,t i H];dsimp only[zR,List.set];rw[b i H,zM];rw[range'_succ];cases a:keep i with
  |true=>
   dsimp only;obtain⟨y,e⟩:=I (i+1) (some (item i)) (acc++[g i]) (by omega) (by rw[aE,bh];omega)
   refine⟨y,?_⟩;have E:zP me (some (item i)::c) acc A=.ok (some (item i)::c,acc++[g i]) A:=by
    unfold zP;rw[he i H a,zM,af (by omega)]
   rw[E,zM];dsimp only;rw[e,List.filter_cons_of_pos a,aO,aW]
   rfl
  |false=>
   dsimp only;obtain⟨y,e⟩:=I (i+1) (some (item i)) acc (by omega) (by omega)
   exact⟨y,by rw[e,List.filter_cons_of_neg (by rw[a];exact ay)]⟩
theorem Nn {ifs:Ev}{N:Nat}{item g:Nat->W}{keep:Nat->Bool}(hm:mi ρ A=.ok j A)(a:j.len=N)(d:N<=zX)
  (H:∀i,i<N->j.at_ A i=some (some (item i)))(h:j.at_ A N=some none)(b:∀i,i<N->ifs (some (item i)::cap.map λ i=>(ρ[i]?).join) A=.ok (.bl (keep i)) A)
  (he:∀i,i<N->keep i=true->me (some (item i)::cap.map λ i=>(ρ[i]?).join) A=.ok (g i) A):
  zV 1 cap mi (zR 0) ifs (zP me) ρ A=.ok (((List.range N).filter keep).map g) A:=by
 obtain⟨y,e⟩:=LW H h b he N 0 none [] (Nat.zero_add N) (by simpa using d)
 unfold zV;rw[hm,zM,a];have c:Z8 1 cap ρ=none::cap.map λ i=>(ρ[i]?).join:=rfl;rw[c,e,bC,<- range_eq_range']
 rfl
theorem wQ {N:Nat}{item g:Nat->W}(hm:mi ρ A=.ok j A)(a:j.len=N)(c:N<=zX)
  (t:∀i,i<N->j.at_ A i=some (some (item i)))(H:j.at_ A N=some none)(he:∀i,i<N->me (some (item i)::cap.map λ i=>(ρ[i]?).join) A=.ok (g i) A):
  zV 1 cap mi (zR 0) (zj (.bl true)) (zP me) ρ A=.ok ((List.range N).map g) A:=by
 have h:=Nn (ifs:=zj (.bl true)) (keep:=λ _=>true) hm a c t H (λ _ _=>rfl) λ i b _=>he i b;have f:(List.range N).filter (λ _=>true)=List.range N:=List.filter_eq_self.mpr λ _ _=>rfl;rw[f]at h;exact h
theorem j4 {g:List W->Hx->R W}(h:q ρ A=.ok ws A1):mQ g q ρ A=g ws A1:=by unfold mQ;rw[h,zM]
theorem kO (h:q ρ A=.ok ws A1):qh q ρ A=.ok (.ref A1.length) (A1++[.lst ws]):=by unfold qh;rw[h,zM]
theorem yG {w:W}(h:m ρ A=.ok w A1)(H:qa w A1=some ws):qb m ρ A=.ok ws A1:=by unfold qb;rw[h,zM,H]
open PySem PySem.Spec PyProof.Rows L2
noncomputable def mJ:List Ev->Str->Ev
 |[],acc=>λ _ A=>.ok (.str acc) A|m::ms,acc=>λ ρ A=>(m ρ A).bind λ w A1=>match w with
  |.str y=>if (acc++y).length<=sizeLine then mJ ms (acc++y) ρ A1 else .bad|_=>.bad
section
variable {xr:XR}{es:List Expr}{ms:List Ev}
inductive SJ (X:Cx)(xr:XR):List Expr->List Ev->Prop where
 |nil:SJ X xr [] []
 |cons {e:Expr} {es:List Expr} {m:Ev} {ms:List Ev} (h:SE X xr e m) (r:SJ X xr es ms):SJ X xr (e::es) (m::ms)
end
end Mi
namespace Mi
open PySem PySem.W PySem.Spec PySem.Calls PyProof.Rows Builtin Builtin.ObjectAttr Builtin.Getset_descriptor
end Mi
namespace Mi
open PySem PySem.Spec PyProof.Rows L2
open Classical in
open Classical in
open Classical in
section
noncomputable def Zw (m:Ev)(tw:Tg):Ex:=λ ρ A=>(m ρ A).bind λ w A1=>match tw w ρ with
 |some a=>.ok (.nx a) A1|none=>.bad
end
open Classical in
section
noncomputable abbrev kH (led:Bool):Obj:={ cls:=.type "set",dict:=none,data:=.set #[] 0 (.fresh 0 0 led) }
end
theorem intsAre_of:∀{ns:List Int}{i:List Value},Vals (ns.map V.int) i->IntsAre i ns:=by
 intro ns
 induction ns with
 |nil=>intro i h;cases h;exact .nil|cons n ns I=>
  intro i h;cases h with
  |cons r t=>obtain⟨tk,rfl⟩:=r;exact .cons n tk (I t)
theorem Wd:fillsNumberSlot (.type "tuple") "mul" = pure false:=
 PySem.fillsNumberSlot_seq (id := "tuple.__mul__") (r:=some (.builtin "tuple.__rmul__")) F.slot_tuple_mul.lookup (by decide +kernel) F.slot_tuple_rmul.lookup (by decide +kernel)
theorem Ww:seqRepeat? (.type "tuple")=pure (some (.builtin "tuple.__mul__")):=by
 unfold seqRepeat?;rw[PySem.seqSlot_of (T := "tuple") (name := "__mul__") (id := "tuple.__mul__") F.slot_tuple_mul.lookup (by decide +kernel),PySem.seqSlot_of (T := "tuple") (name := "__rmul__") (id := "tuple.__rmul__") F.slot_tuple_rmul.lookup (by decide +kernel)]
 rfl
theorem WD (a:Int)(t:Tok)(l:Addr)(o:Option Addr)(items:Array Value)(n:Nat)(S:Array (Option Value)):
  Meets (Builtin.«int.__rmul__» ⟨[.int a t,.ref l],[]⟩) (λ _ R s=>s.heap.get? l=some ⟨.type "tuple",o,.seq items n,S⟩/\R (.ok (.ret Value.notImplemented)) s):=
 .of_wp λ prog w A R s h=>by
  obtain⟨H,g,d,tk,os⟩:=s;obtain⟨b,h⟩:=h
  wp_walk
  exact⟨_,rfl,h⟩
theorem Mm (k:Int)(t:Tok)(l:Addr)(o:Option Addr)(items:Array Value)(n:Nat)(S:Array (Option Value))(j:2<=k)(f:k<1000)(i:0<items.size)(z:items.size<1000):
  Meets (Builtin.«tuple.__mul__» ⟨[.ref l,.int k t],[]⟩) (λ _ R s=>s.heap.get? l=some ⟨.type "tuple",o,.seq items n,S⟩/\R (.ok (.ret (.ref s.heap.objs.size))) { s with heap:=s.heap.push { cls:=.type "tuple",data:=.seq ((List.replicate k.toNat items).foldl (·++·) #[]) } }):=
 .of_wp λ prog w A R s h=>by
  obtain⟨p,g,d,tk,os⟩:=s;obtain⟨c,h⟩:=h;have e0:items.isEmpty=false:=by
   cases he:items.isEmpty with
   |false=>rfl|true=>rw[Array.isEmpty_iff_size_eq_zero]at he;omega
  have r:(k==1)=false:=by rw[beq_eq_false_iff_ne];omega
  have b:(decide (k < -2 ^ 63) || decide (k ≥ 2 ^ 63))=false:=by
   rw[Bool.or_eq_false_iff,decide_eq_false_iff_not,decide_eq_false_iff_not];omega
  have q:decide (k<=0)=false:=by rw[decide_eq_false_iff_not];omega
  have hm:(items.size:Int) * k<=1000 * 1000:=Int.mul_le_mul (by omega) (by omega) (by omega) (by omega)
  have a:¬(items.size:Int) * k > (2 ^ 63 - 1) / 8:=by omega
  have E:Builtin.Tuple.tupleTooMany ((items.size:Int) * k)=false:=by
   unfold Builtin.Tuple.tupleTooMany
   have:sizeLine=16777216:=sizeLine_eq
   rw[decide_eq_false_iff_not];omega
  wp_walk
  rw[b];rw[aj (by decide)]
  dsimp only
  wp_walk
  rw[aj a,E,aj (by decide)]
  have H:(List.foldl (λ x1 x2=>x1++x2) #[] (List.replicate k.toNat items)).size<=sizeLine:=by
   have hf:=foldl_rep items.toList k.toNat [];rw[bC]at hf;have e:items.toList.toArray=items:=by simp
   rw[e]at hf;rw[hf,aB,len_rep]
   have:sizeLine=16777216:=sizeLine_eq
   have:k.toNat * items.toList.length<=1000 * 1000:=Nat.mul_le_mul (by omega) (by rw[aQ];omega)
   omega
  refine qa0 (m:=Builtin.Tuple.tupleExact _) (wpAny_newObj_type ?_ H);exact qa1 ⟨_,rfl,h⟩
section
variable {K:Frag}{b:Expr}
def GS (K:Frag):R2:=λ x y H Q=>∃l k xs,x=.ref l/\y=.int k/\qi K H l xs/\2<=k/\k<1000/\0<xs.length/\xs.length<1000/\
 ∀p,H p=none->Q (.ref p) (upd H p (.tup (List.replicate k.toNat xs).flatten))
theorem HR:qu X (binaryOp .Mult) (GS X.K):=by
 intro pins s σ H x y v u Q I g f h;obtain⟨l,k,xs,rfl,rfl,j,z,m,C,B,q⟩:=h;cases g;obtain⟨t,rfl⟩:=f;obtain⟨i,r,p,_⟩:=I.tuple j;obtain⟨⟨cls,d,data,S⟩,a,c,n,hd⟩:=id p;simp only at c hd;subst c hd;have w:List.foldl (λ x1 x2=>x1++x2) #[] (List.replicate k.toNat i.toArray)=(List.replicate k.toNat i).flatten.toArray:=by
  have:=foldl_rep i k.toNat []
  rw[bC]at this;exact this
 have hlen:=r.length;refine wpAny_binaryOp_repeat_ref (T := "tuple") (U := "int") (by decide) ⟨_,a,rfl⟩ (λ e=>typeIs_int e k t) Wd F.fills_int_mul F.slot_int_rmul Ww F.slot_int_index.lookup
  (call_meets F.slot_int_rmul (typeIs_int s k t) F.entry_int_rmul (F.args_int_rmul_2 _ _) (WD k t l d i.toArray n S)
   ⟨a,rfl,⟨_,a,rfl⟩,call_meets F.slot_tuple_mul ⟨_,a,rfl⟩ F.entry_tuple_mul (F.args_tuple_mul_2 _ _) (Mm k t l d i.toArray n S z m (by rw[aB];omega) (by rw[aB];omega)) ⟨a,?_⟩⟩)
 rw[w];refine⟨.ref s.heap.objs.size,_,I.laid (t':=s.toks) (o:=.tup (List.replicate k.toNat xs).flatten) (λ b ob q=>ae _ q) (ar _) ?_,rfl,q _ (I.hok.fresh (ar _))⟩;refine⟨?_,_,r.rep k.toNat,gF.new _ _⟩;rw[len_rep];have A:sizeLine=16777216:=sizeLine_eq
 have:k.toNat * xs.length<=1000 * 1000:=Nat.mul_le_mul (by omega) (by omega)
 omega
noncomputable def GX:W->W->Hx->R W:=λ x y A=>match x,y with
 |.tup xs,.int k=>if decide (2<=k)&&(decide (k<1000)&&(decide (0<xs.length)&&decide (xs.length<1000))) then .ok (.tup (List.replicate k.toNat xs).flatten) A else .bad|_,_=>.bad
theorem Lx:jv K (GS K) GX:=λ φ A H x y u v Q S b q p=>by
 cases u with
 |tup xs=>cases v with
  |int j=>
   obtain⟨a1,a,rfl,t1,r⟩:=b;obtain rfl:=q;unfold GX at p;dsimp only at p
   by_cases h:(decide (2<=j)&&(decide (j<1000)&&(decide (0<xs.length)&&decide (xs.length<1000))))=true
   ·rw[af h]at p
    simp only[ao,ag]at h;refine⟨a1,j,a,rfl,rfl,t1,h.1,h.2.1,by rw[<- r.length];exact h.2.2.1,by rw[<- r.length];exact h.2.2.2,λ l c=>?_⟩
    obtain⟨e,d,C⟩:=Zj S c (r.rep j.toNat);exact p _ _ _ e d C
   ·rw[aj h]at p;exact p.elim
  |_=>exact p.elim
 |_=>cases v<;>exact p.elim
end
section
open PySem.SeqAt
open PySem.AutoSeq1 (wpAny_loadPart')
open PySem.MeetsSeq PySem.MeetsSeq2 PySem.MeetsSeq3
end
section
variable {K:Frag}
theorem Ij {w:W}{ds:List PyData}(h:qe A 8 w=some (.list ds)):PyData.canLayAll0 ds=true/\PyData.depthAll ds<=8:=by
 obtain⟨H,a⟩:=YB 8 w _ h;simp only[PyData.canLay0,PyData.depth]at H a;exact⟨H,by omega⟩
def Bo:W->W->Hx->R W:=λ x y A=>match qe A 8 x,qe A 8 y with
 |some d,some (.list ds)=>.ok (.bl (ds.any λ z=>PyData.eqv z d)) A|_,_=>.bad
noncomputable def gc (p:PyData->Bool):List PyData->Option Nat
 |[]=>none|d::ds=>if p d then some 0 else(gc p ds).map (· + 1)
theorem Tj {p:PyData->Bool}:∀{ds:List PyData}{j:Nat},gc p ds=some j->∃h:j<ds.length,p ds[j]=true/\∀m (hm:m<ds.length),m<j->p ds[m]=false
 |[],_,e=>by cases e|d::ds,j,e=>by
  unfold gc at e
  by_cases hd:p d=true
  ·rw[af hd]at e
   cases e;exact⟨Nat.zero_lt_succ _,hd,λ m _ z=>absurd z (not_lt_zero _)⟩
  ·rw[aj hd]at e
   cases E:gc p ds with
   |none=>rw[E]at e;cases e|some J=>
    rw[E]at e;cases e;obtain⟨b,a,H⟩:=Tj E;refine⟨Nat.succ_lt_succ b,a,λ m hm z=>?_⟩;cases m with
    |zero=>exact Bool.eq_false_iff.mpr hd|succ m=>exact H m (Nat.lt_of_succ_lt_succ hm) (Nat.lt_of_succ_lt_succ z)
def Ha (K:Frag):V->List V->Hp->VK->Prop:=λ x vs H Q=>∃φ A u v y d ds j,vs=[y]/\zN K φ A H/\RV K φ H u x/\RV K φ H v y/\qe A 8 u=some (.list ds)/\qe A 8 v=some d/\gc (λ z=>PyData.eqv z d) ds=some j/\j<1000000/\Q (.int j) H
theorem MH (P:X.A.units+64<cLine):Xr X "list.index" (Ha X.K):=by
 intro pins s σ H x vs v us Q I r i h;obtain⟨φ,A,f,w,y,d,ds,j,rfl,S,B,t,a,E,L,T,q⟩:=h;obtain⟨u,rfl,p⟩:=i.one;obtain⟨as,D⟩:=Qz I S 8 f x v _ B r a;obtain⟨bs,C⟩:=Qz I S 8 w y u d t p E;obtain⟨g1,g2⟩:=YB 8 w d E;obtain⟨g3,U⟩:=Ij a;obtain⟨f1,f2,J⟩:=Tj L;cases D with
 |list a1 a2 c b=>
  rename_i l o items n N
  obtain⟨cls,M,data,g⟩:=o;simp only at a2 c;subst a2 c;have hm:=SeqAt.readsAll_map _ _ _ g3 b;have hlen:items.size=ds.length:=by rw[<- hm];simp
  have at_:∀m (h:m<items.size) (h':m<ds.length),SeqAt.readOf s.heap items[m]=ds[m]:=λ m h h'=>by
   have e:(items.toList.map (SeqAt.readOf s.heap))[m]? =ds[m]?:=by rw[hm]
   rw[ak,ab h',bz,Array.getElem?_eq_getElem h]at e;exact az e
  refine call_meets F.slot_list_index ⟨_,a1,rfl⟩ F.entry_list_index (F.args_list_index_2 _ _)
   (SeqAt.list_indexAt l items n M g u (λ z=>PyData.eqv (SeqAt.readOf s.heap z) d) j (by omega) (by omega) (by rw[at_ j (by omega) f1];exact f2) (λ m h z=>by rw[at_ m h (by omega)];exact J m (by omega) z)) ⟨a1,SeqAt.items_eqAt b C g3 g1 (by omega),?_⟩
  exact⟨.int j,H,I.tok _,⟨_,rfl⟩,q⟩
def wZ:W->W->Hx->R W:=λ x y A=>match qe A 8 x,qe A 8 y with
 |some (.list ds),some d=>(match gc (λ z=>PyData.eqv z d) ds with
  |some j=>if j<1000000 then .ok (.int j) A else .bad|none=>.bad)
 |_,_=>.bad
theorem LO:∀x y A,qA (wZ x y A):=λ x y A=>by
 unfold wZ
 split
 ·split
  ·exact wY jx qN
  ·exact qN
 ·exact qN
end
end Mi
namespace Mi
open PySem
noncomputable def zW (n:Nat):List Nat:=(List.range 8).filter λ i=>n.testBit i
def qQ (led:Bool)(n:Nat):SetTable:=if (zW n).length<5 then⟨7,(zW n).toArray,#[],0,led,0,true⟩ else⟨31,(zW n).toArray,#[],0,led,1,true⟩
noncomputable def q9 (n v:Nat):Nat:=n ||| (1 <<< v)
def wD (n v:Nat):Nat:=((zW n).filter λ i=>decide (i<v)).length
def yH (led:Bool)(n v:Nat):SetTable:={ qQ led n with place:=(zW (q9 n v)).toArray }
def Kd (led:Bool)(n v:Nat):Bool:=n.testBit v || (((qQ led n).freeSlot (v:Int)==some (v,false))&&((qQ led n).put v==(yH led n v,wD n v))&&(zW (q9 n v)==(zW n).take (wD n v)++v::(zW n).drop (wD n v))&&
 (yH led n v).fits (zW (q9 n v)).length&&((yH led n v).tooFull==((zW (q9 n v)).length==5))&&
 (if (zW (q9 n v)).length==5 then(yH led n v).relaid ((zW (q9 n v)).map λ (i:Nat)=>(i:Int)).toArray 20==some (qQ led (q9 n v),#[0,1,2,3,4]) else qQ led (q9 n v)==yH led n v)&&
 (qQ led (q9 n v)).fits (zW (q9 n v)).length&&decide (q9 n v<256))
theorem FN:((List.range 256).all λ n=>(List.range 8).all λ v=>Kd true n v&&Kd false n v)=true:=by decide +kernel
open PySem PySem.Spec PyProof.Rows
inductive qW:List (Int×Value)->List Nat->Prop
 |nil:qW [] []
 |cons {es:List (Int×Value)} {vs:List Nat} (v:Nat) (tk:Tok) (h:qW es vs):qW (((v:Int),.int (v:Int) tk)::es) (v::vs)
theorem qW.length (h:qW es vs):es.length=vs.length:=by
 induction h with
 |nil=>rfl|cons v tk h i=>simp[i]
theorem qW.map1 (h:qW es vs):es.map (·.1)=vs.map λ (i:Nat)=>(i:Int):=by
 induction h with
 |nil=>rfl|cons v tk h I=>simp[I]
theorem qW.take (h:qW es vs):∀k,qW (es.take k) (vs.take k):=by
 induction h with
 |nil=>intro k;simp;exact .nil|cons v tk h i=>
  intro k;cases k with
  |zero=>exact .nil|succ k=>exact .cons v tk (i k)
theorem qW.drop (h:qW es vs):∀k,qW (es.drop k) (vs.drop k):=by
 induction h with
 |nil=>intro k;simp;exact .nil|cons v tk h i=>
  intro k;cases k with
  |zero=>exact .cons v tk h|succ k=>exact i k
theorem qW.app {es':List (Int×Value)}{a:List Nat}(h:qW es vs)(h':qW es' a):qW (es++es') (vs++a):=by
 induction h with
 |nil=>exact h'|cons v tk h i=>exact .cons v tk i
theorem Ur:∀v,v<8->hashInt ((v:Nat):Int)=(v:Int):=by decide
section
variable {prog:Program}
theorem qW.elems (h:qW es vs)(H:∀v∈vs,v<8):ElemsOf (intKind prog w) es:=by
 induction h with
 |nil=>intro e he;cases he|cons v tk h i=>
  intro e he;rcases qa3.mp he with rfl|he
  ·exact⟨⟨(v:Int),intKind_is _ _ _ _,(Ur v (H v (aG ..))).symm⟩,rfl⟩
  ·exact i (λ u a=>H u (aD _ a)) e he
theorem qW.find (h:qW es vs)(v:Nat):(es.findIdx? λ e=>(intKind prog w).is (v:Int) e.2)=vs.findIdx? λ u=>decide (u=v):=by
 induction h with
 |nil=>rfl|cons u tk h i=>
  rw[List.findIdx?_cons,List.findIdx?_cons,i]
  have:(intKind prog w).is (v:Int) (Value.int (u:Int) tk)=decide (u=v):=by
   show Value.isInt (v:Int) (Value.int (u:Int) tk)=_;unfold Value.isInt;rw[Bool.eq_iff_iff];simp;omega
  rw[this]
end
theorem GK {v:Nat}:v∈zW n↔v<8/\n.testBit v=true:=by
 unfold zW;rw[List.mem_filter,List.mem_range]
def jX (h:Heap)(a:Addr)(led:Bool)(n:Nat):Prop:=∃o e E,h.get? a=some o/\o.ExactSet/\o.data=.set e E (qQ led n)/\qW e.toList (zW n)/\n<256
theorem jX.keep {h':Heap}(x:jX h a led n)(k:∀o,h.get? a=some o->h'.get? a=some o):jX h' a led n:=
 let ⟨o,es,ep,H,r⟩:=x;⟨o,es,ep,k o H,r⟩
theorem Iy {v:Nat}(hn:n<256)(H:v<8)(led:Bool):Kd led n v=true:=by
 have h:=qa4.mp (qa4.mp FN n (qa5.mpr hn)) v (qa5.mpr H);rw[ao]at h;cases led
 ·exact h.2
 ·exact h.1
theorem Lp:((List.range 256).all λ n=>(qQ true n).fits (zW n).length&&(qQ false n).fits (zW n).length)=true:=by decide +kernel
theorem WV (led:Bool)(n:Nat):(qQ led n).plain=true:=by unfold qQ;split<;>rfl
theorem Ho (led:Bool)(n:Nat):(qQ led n).led=led:=by unfold qQ;split<;>rfl
theorem UY (led:Bool)(n:Nat):(qQ led n).place=(zW n).toArray:=by unfold qQ;split<;>rfl
theorem fits_of (hn:n<256)(led:Bool):(qQ led n).fits (zW n).length=true:=by
 have h:=qa4.mp Lp n (qa5.mpr hn);rw[ao]at h;cases led
 ·exact h.2
 ·exact h.1
theorem QR (n:Nat):(zW n).length<=8:=by
 unfold zW;exact bq (List.length_filter_le _ _) (by simp)
structure Kz (led:Bool)(n v:Nat):Prop where
 free:(qQ led n).freeSlot (v:Int)=some (v,false)
 put:(qQ led n).put v=(yH led n v,wD n v)
 vs:zW (q9 n v)=(zW n).take (wD n v)++v::(zW n).drop (wD n v)
 fits:(yH led n v).fits (zW (q9 n v)).length=true
 full:(yH led n v).tooFull=((zW (q9 n v)).length==5)
 Xc:(zW (q9 n v)).length=5->(yH led n v).relaid ((zW (q9 n v)).map λ (i:Nat)=>(i:Int)).toArray 20=some (qQ led (q9 n v),#[0,1,2,3,4])
 less:(zW (q9 n v)).length≠5->qQ led (q9 n v)=yH led n v
 lt:q9 n v<256
theorem Ms {v:Nat}(hn:n<256)(a:v<8)(led:Bool)(b:n.testBit v=false):Kz led n v:=by
 have h:=Iy hn a led;unfold Kd at h;rw[b,Bool.false_or]at h;simp only[ao,aU,ag]at h;obtain⟨⟨⟨⟨⟨⟨⟨j,i⟩,g⟩,f⟩,d⟩,H⟩,l⟩,c⟩:=h;refine⟨j,i,g,f,d,λ e=>?_,λ e=>?_,c⟩
 ·rw[af e]at H;exact of_decide_eq_true (by simpa using H)
 ·rw[aj e]at H;simpa using H
def jY (n v:Nat):Nat:=if n.testBit v then n else q9 n v
section
variable {prog:Program}{A:Around}
theorem L8 {e:Array (Int×Value)}{v:Nat}{x:Value}(f:Kz led n v)(he:qW e.toList (zW n)):layNew (qQ led n) e (v:Int) x=(SetTable.insertAt e (wD n v) ((v:Int),x),yH led n v,false,false):=by
 have h:(SetTable.insertAt e (wD n v) ((v:Int),x)).size=(zW (q9 n v)).length:=by
  rw[<- aQ,SetTable.toList_insertAt,f.vs,aE,aE,bc,bc,length_take,length_take,List.length_drop,List.length_drop,he.length]
 unfold layNew;rw[f.free];dsimp only;rw[f.put];dsimp only;rw[h];unfold SetTable.orStandIn;rw[af f.fits,f.fits]
 rfl
theorem HJ {E:Array (Int×Value)}{v:Nat}(f:Kz led n v)(g:(zW (q9 n v)).length=5)(he:qW E.toList (zW (q9 n v))):relayAll (yH led n v) E 20=(E,qQ led (q9 n v),false):=by
 have hm:E.map (·.1)=((zW (q9 n v)).map λ (i:Nat)=>(i:Int)).toArray:=by
  apply Array.toList_inj.mp
  rw[Array.toList_map,he.map1]
 have h:E.size=5:=by rw[<- aQ,he.length,g]
 have H:(#[0,1,2,3,4]:Array Nat).filterMap (E[·]?)=E:=by
  apply Array.toList_inj.mp
  rw[Array.toList_filterMap];have h0:E.toList.length=5:=by rw[aQ];exact h
  have j:∀i,E[i]? =E.toList[i]?:=λ i=>by rw[bz]
  simp only[j];generalize E.toList=l at h0;obtain⟨a,b,c,d,e,rfl⟩:∃a b c d e,l=[a,b,c,d,e]:=by
   match l,h0 with
   |[a,b,c,d,e],_=>exact⟨a,b,c,d,e,rfl⟩
  rfl
 unfold relayAll;rw[hm,f.Xc g];dsimp only;rw[H];have m:coversAll #[0,1,2,3,4] E.size=true:=by rw[h];decide +kernel
 have hf:(qQ led (q9 n v)).fits E.size=true:=by rw[h,<- g];exact fits_of f.lt led
 rw[m,hf]
 rfl
theorem qW.insert {e:Array (Int×Value)}{v:Nat}{tk:Tok}(f:Kz led n v)(he:qW e.toList (zW n)):qW (SetTable.insertAt e (wD n v) ((v:Int),.int (v:Int) tk)).toList (zW (q9 n v)):=by
 rw[SetTable.toList_insertAt,f.vs];exact(he.take _).app (.cons v tk (he.drop _))
theorem Uc {o:Obj}{E es':Array (Int×Value)}{e:Nat}{t:SetTable}{t':SetTable}(H:h.get? a=some o)(hd:o.data=.set E e t):(h.update a (Obj.putSet es' t')).get? a=some { o with data:=.set es' (e+1) t' }:=by
 have:=a5 (Obj.putSet es' t') H (by rw[putSet_of es' t' hd];rfl)
 rw[putSet_of es' t' hd]at this;exact this
theorem NN {v:Nat}{tk:Tok}{Q:Bool->Shared->Prop}(T:jX s.heap a led n)(y:v<8)
  (h:∀h' b,Heap.SameBut a s.heap h'->jX h' a led (jY n v)->Q b { s with heap:=h' }):
  wpAny (model prog w) A (setAddHashed a (.int (v:Int) tk) ((intKind prog w).hash (v:Int))) Q E s:=by
 obtain⟨o,m,D,q,hex,hd,he,hn⟩:=T;have hlen:m.size=(zW n).length:=by rw[<- aQ,he.length]
 have hf:(qQ led n).fits m.size=true:=by rw[hlen];exact fits_of hn led
 have r:ElemsOf (intKind prog w) m.toList:=he.elems λ u J=>(GK.mp J).1;have l:m.size<scanBound:=by rw[hlen];have:=QR n;unfold scanBound;omega
 unfold setAddHashed setAddHashedIn;refine wpAny_holding (qa0 (wpAny_setState_of q hd hf ?_));dsimp only;rw[byScan_of (x:=.int (v:Int) tk) rfl l r];simp only[↓reduceIte];unfold setAddByScan;refine qa0 ?_;refine qa0 (wpAny_rule ?_);refine qa0 (wpAny_setScan_of (knd:=intKind prog w) (intKind_is _ _ _ _) q hd hf r ?_);rw[he.find];cases I:(zW n).findIdx? λ u=>decide (u=v) with
 |some j=>
  dsimp only;have l:n.testBit v=true:=by
   obtain⟨N,B,_⟩:=List.findIdx?_eq_some_iff_getElem.mp I
   have:=of_decide_eq_true B
   exact(GK.mp (this ▸ aT N)).2
  refine qa1 (qa1 ?_);have e:s={ s with heap:=s.heap }:=by cases s;rfl
  rw[e];refine h s.heap false (Heap.SameBut.refl a s.heap) ?_;unfold jY;rw[af l];exact⟨o,m,D,q,hex,hd,he,hn⟩
 |none=>
  dsimp only;have l:n.testBit v=false:=by
   cases M:n.testBit v with
   |false=>rfl|true=>
    have:=List.findIdx?_eq_none_iff.mp I v (GK.mpr ⟨y,M⟩)
    simp at this
  have f:=Ms hn y led l;have P:(intKind prog w).hash (v:Int)=(v:Int):=Ur v y;rw[P];rw[L8 f he];have H:=he.insert (tk:=tk) f;have i:(SetTable.insertAt m (wD n v) ((v:Int),Value.int (v:Int) tk)).size=(zW (q9 n v)).length:=by rw[<- aQ,H.length]
  generalize SetTable.insertAt m (wD n v) ((v:Int),Value.int (v:Int) tk)=c at H i;dsimp only;refine qa0 (qa1 ?_);have L:(yH led n v).plain=true:=by unfold yH;exact WV led n
  rw[L];simp only[↓reduceIte];refine qa0 ?_;rw[hashByValue_scannable 8 (x:=.int (v:Int) tk) rfl];refine qa1 ?_;have z:plainKind (.int (v:Int) tk)=true:=rfl;rw[z];simp only[↓reduceIte];have p:c.size<=sizeLine:=by rw[i,sizeLine_eq];have:=QR (q9 n v);omega
  refine qa0 (wpAny_storeSet_of q hd ?_ p);have g:=Uc (es':=c) (t':=yH led n v) q hd;have d:=Heap.SameBut.update s.heap a (Obj.putSet c (yH led n v));rw[f.full]
  by_cases t:(zW (q9 n v)).length=5
  ·have S:SetTable.grown c.size=20:=by rw[i,t];rfl
   rw[S,HJ f t H,t];simp only[Bool.not_false,Bool.true_and,bE,↓reduceIte];refine qa0 (qa1 ?_);refine qa0 (wpAny_storeSet_of g rfl ?_ p);refine qa1 ?_;dsimp only;refine qa1 ?_;have C:=Uc (es':=c) (t':=qQ led (q9 n v)) g rfl;refine h _ true (d.trans (Heap.SameBut.update _ a _)) ?_;unfold jY;rw[l];exact⟨_,c,D+1+1,C,hex,rfl,H,f.lt⟩
  ·have K:((zW (q9 n v)).length==5)=false:=by simpa using t
   rw[K];simp only[Bool.not_false,Bool.and_false,a9,↓reduceIte];refine qa1 ?_;dsimp only;refine qa1 ?_;refine h _ true d ?_;unfold jY;rw[l,aj ay,];refine⟨_,c,D+1,g,hex,?_,H,f.lt⟩;rw[f.less t]
end
noncomputable abbrev jl (w:World):Bool:=!w.params.followText "set-order"
def gO (val:Nat->Nat)(i:Nat):Nat:=((List.range i).map val).foldl jY 0
theorem Mj (val:Nat->Nat)(i:Nat):gO val (i+1)=jY (gO val i) (val i):=by
 unfold gO;rw[a8,aR,List.foldl_append]
 rfl
section
variable {prog:Program}{A:Around}
theorem Ol (a:Value){Q1:Value->Shared->Prop}(h:Q1 (.ref s.heap.objs.size) { s with heap:=s.heap.push (kH (jl w)) }):
  codeAny (model prog w) A (.call (.builtin "set.__new__") ⟨[.type "set",a],[]⟩) (wants Q1 E) s:=by
 refine codeAny_of_tree ?_;show wpAny _ A.in1 (do checkBuiltinCall "set.__new__" ⟨[.type "set",a],[]⟩;again (.builtin "set.__new__" ⟨[.type "set",a],[]⟩)) _ _ s
 refine qa0 (wpAny_of_eq (F.newCall_set_1 a) (qa1 ⟨plainId_quiet F.plain_set_new _,codeAny_builtin F.entry_set_new ?_⟩));rw[Around.under_plainId F.plain_set_new _];unfold Builtin.«set.__new__» Builtin.Frozenset.newClass;have H:=sub_set_self;obtain⟨p,g,d,tk,os⟩:=s;dsimp only
 wp_walk
 refine wpAny_askSetting (qa1 ?_);dsimp only;simp only[newObj];refine qa0 (wpAny_alloc (qa1 ?_));exact qa1 h
end
section
variable {prog:Program}{A:Around}{R:Result->Shared->Prop}{I:Addr}{wr:List Addr}{G:Array GenState->Array GenState->Prop}{P:Nat->Value->Prop}{St:Nat->Shared->Prop}
theorem ML (W:WalksS prog w A.in1 I fp wr G n P St)(S:Addr)(q:S∉fp)(led:Bool)(val:Nat->Nat)(l:∀i v,P i v->∃t,v=.int ((val i:Nat):Int) t)(N:∀i,i<n->val i<8):
  ∀(k i:Nat)(s:Shared),n - i=k->i<=n->St i s->jX s.heap S led (gO val i)->
   (∀a,Moved (S::wr) G s a->jX a.heap S led (gO val n)->R (.ok (.ret .none)) a)->
   codeAny (model prog w) A (.builtin "set.update.loop" ⟨[.ref S,.ref I],[]⟩) R s:=by
 have p:S∉wr:=λ h=>q (W.sub _ h);have H:∀b∈wr,b∈S::wr:=λ b m=>aD _ m;intro k
 induction k with
 |zero=>
  intro i s K L c D E;have y:i=n:=by omega
  subst y;refine codeAny_builtin F.entry_set_update_loop ?_;rw[Around.under_plainId F.plain_set_update_loop _];show wpAny _ A.in1 (pyNext (.ref I) >>= _) _ _ s;refine qa0 (W.done s _ _ c λ a hm=>?_);show wpAny _ A.in1 (ret Value.none) _ _ a;exact qa1 (E a (hm.mono H) (D.keep λ o x=>hm.heap S _ p x))
 |succ k J=>
  intro i s K L c D E;have d:i<n:=by omega
  refine codeAny_builtin F.entry_set_update_loop ?_;rw[Around.under_plainId F.plain_set_update_loop _];show wpAny _ A.in1 (pyNext (.ref I) >>= _) _ _ s;refine qa0 (W.item i s _ _ d c λ v a M f hm=>?_);obtain⟨t,rfl⟩:=l i v M;have C:jX a.heap S led (gO val i):=D.keep λ o x=>hm.heap S _ p x;show wpAny _ A.in1 (holding [Value.int ((val i:Nat):Int) t] (setAdd S (.int ((val i:Nat):Int) t)) >>= _) _ _ a;refine qa0 (wpAny_holding ?_);unfold setAdd;refine wpAny_holding ?_;refine qa0 ((intKind prog w).pyHash (k:=((val i:Nat):Int)) (intKind_is _ _ _ _) ?_);refine NN (s:={ a with toks:=a.toks+1 }) C (N i d) λ h' b g B=>?_
  have z:jX h' S led (gO val (i+1)):=by rw[Mj];exact B
  refine qa1 ⟨plainId_quiet F.plain_set_update_loop _,J (i+1) _ (by omega) d (W.frame _ a _ _ f (le_succ _) λ b m o e=>?_) z λ u j r=>?_⟩
  ·rw[g.2 b (λ h:b=S=>q (by rw[<- h];exact m))];exact e
  ·refine E u (Moved.trans W.gtrans ((hm.mono H).then_heap (le_succ _) λ b o m e=>?_) j) r
   rw[g.2 b (λ h:b=S=>m (by rw[h];exact aG))];exact e
end
section
variable {prog:Program}{A:Around}
theorem F4 (led:Bool)(g:h.get? a=some (kH led)):jX h a led 0:=
 ⟨_,#[],0,g,⟨rfl,rfl,rfl⟩,(by cases led<;>rfl),.nil,by decide⟩
theorem Of {l:Addr}(D:A.handled=none)(B:s.heap.IsList l its.toArray)(m:IntsAre its (vs.map λ (v:Nat)=>(v:Int)))(J:∀v∈vs,v<8)
  (h:∀(h':Heap)(tk:Nat),jX h' s.heap.objs.size led (vs.foldl jY 0)->
   (∀b o,b<s.heap.objs.size->s.heap.get? b=some o->h'.get? b=some o)->Q .none { s with heap:=h',toks:=tk }):
  codeAny (model prog w) A (.call (.builtin "set.__init__") ⟨[.ref s.heap.objs.size,.ref l],[]⟩) (wants Q E) { s with heap:=s.heap.push (kH led) }:=by
 have hlen:its.length=vs.length:=by
  have:∀{its:List Value}{ns:List Int},IntsAre its ns->its.length=ns.length:=λ h=>by
   induction h with
   |nil=>rfl|cons _ _ _ I=>simp[I]
  rw[this m,ah]
 have S:(s.heap.push (kH led)).get? s.heap.objs.size=some (kH led):=au _ rfl;refine codeAny_call_builtin F.called_set.init.plain F.entry_set_init (check_set_init_1 ⟨_,S,rfl⟩ ?_);obtain⟨ob,f,a,n,p⟩:=B;obtain⟨P,N,y,x⟩:=ob;dsimp only at a p;cases a;cases p;have g1:=ae (kH led) f;have n1:=F.sub_list_set;have X:=F.sub_list_frozenset;have U:(Value.type "list" == Value.type "dict")=false:=by decide
 have q:(s.heap.push (kH led)).IsList l its.toArray:=⟨_,g1,rfl,n,rfl⟩;unfold Builtin.«set.__init__» noKeywords Builtin.Frozenset.updateFrom;generalize C:pyIter=PI
 wp_walk
 subst C;refine wpAny_pyIter_list q (qa0 (wpAny_runValue ?_));have lt:l<s.heap.objs.size:=aH f;have sz:(s.heap.push (kH led)).objs.size=s.heap.objs.size+1:=ba ..;have ne:l≠(s.heap.push (kH led)).objs.size:=by rw[sz];exact aM (a6 lt)
 have W:=(Walks.list (prog:=prog) (w:=w) (A:=A.in1.in1) (by simp[D]) (s.heap.push (kH led)).objs.size l ne its.toArray).toS
 have g:its.toArray.size=vs.length:=by rw[aB];exact hlen
 rw[g]at W;have off:s.heap.objs.size∉[(s.heap.push (kH led)).objs.size,l]:=by
  rw[sz];intro hm;rcases qa3.mp hm with z|hm
  ·exact aM (bg _) z
  ·exact bj lt (qa7.mp hm)
 have c:gO (λ i=>vs.getD i 0) vs.length=vs.foldl jY 0:=by
  unfold gO
  congr 1
  apply bf
  ·simp
  ·intro i f a
   have H:i<vs.length:=by simpa using a
   simp[aa,ab H]
 refine ML W s.heap.objs.size off led (λ i=>vs.getD i 0) (λ i v e=>?_) (λ i H=>?_) vs.length 0 _ rfl (zero_le _) ⟨⟨_,au _ rfl,rfl,rfl⟩,q.push _⟩ ?_ ?_
 ·obtain⟨t,j⟩:=IntsAre.int_at m i v (by simpa using e)
  refine⟨t,j.trans ?_⟩;have H:i<vs.length:=by
   have:=(qa2.mp (show its[i]? =some v by simpa using e)).1
   omega
  congr 1
  simp[aa,ak,ab H]
 ·rw[aa,ab H]
  exact J _ (aT H)
 ·exact F4 led (ae _ S)
 ·intro u mv r
  rw[c]at r;obtain⟨h',g',d',T,d⟩:=u;have M:g'=s.gens:=mv.gens;have j:d'=s.drawn:=mv.drawn;have K:d=s.os:=mv.os;subst M j K;refine qa1 ?_;show wpAny _ _ (ret Value.none) _ _ _;refine qa1 (h h' T r λ b o L e=>mv.heap b o (λ hm=>?_) (ae _ (ae _ e)));rcases qa3.mp hm with z|hm
  ·exact aM L z
  ·exact aM (a6 L) ((qa7.mp hm).trans sz)
theorem Od {l:Addr}(j:A.handled=none)(t:s.heap.IsList l its.toArray)(i:IntsAre its (vs.map λ (v:Nat)=>(v:Int)))(m:∀v∈vs,v<8)
  (h:∀(h':Heap)(tk:Nat),jX h' s.heap.objs.size (jl w) (vs.foldl jY 0)->
   (∀b o,b<s.heap.objs.size->s.heap.get? b=some o->h'.get? b=some o)->Q (.ref s.heap.objs.size) { s with heap:=h',toks:=tk }):
  wpAny (model prog w) A (call (.type "set") [.ref l]) Q E s:=by
 obtain⟨c,p,d⟩:=F.called_set.mro;have a1:=F.called_set.made;have a2:=F.called_set.sub;have z:=F.called_set.notType;have y:=F.called_set.canCreate;have x:=F.typeCall_set_1 (.ref l);refine wpAny_call (codeAny_of_tree ?_);show wpAny _ _ (callAny (.type "set") _) _ _ _;refine qa1 ⟨Code.quiet_builtin _ (by decide +kernel),codeAny_builtin F.entry_type_call ?_⟩
 rw[Around.under_plain (weight_type_call_type "set" [.ref l] []) rfl]
 repeat (any_goals (first|assumption|wp_step))
 refine codeAny_mono (Ol (.ref l) (E:=E) (Q1:=λ u s1=>u=.ref s.heap.objs.size/\s1={ s with heap:=s.heap.push (kH (jl w)) }) ⟨rfl,rfl⟩) λ r s1 a=>?_
 cases r with
 |error e=>exact a|ok n=>
  cases n with
  |ret u=>
   obtain⟨rfl,rfl⟩:=a;have T:Shared.TypeIs { s with heap:=s.heap.push (kH (jl w)) } (.ref s.heap.objs.size) "set" := ⟨_,au _ rfl,rfl⟩
   have q:=F.called_set.init.lookup;have B:=F.called_set.init.bind (.ref s.heap.objs.size)
   repeat (any_goals (first|assumption|wp_step))
   refine codeAny_mono (Of (E:=E) (Q:=λ v s2=>v=.none/\∃h' tk,s2={ s with heap:=h',toks:=tk }/\jX h' s.heap.objs.size (jl w) (vs.foldl jY 0)/\
    ∀b o,b<s.heap.objs.size->s.heap.get? b=some o->h'.get? b=some o) (by simp[j]) t i m λ h' tk S K=>⟨rfl,h',tk,rfl,S,K⟩) λ g s2 H=>?_
   cases g with
   |error e=>exact H|ok f=>
    cases f with
    |ret v=>
     obtain⟨rfl,h',tk,rfl,S,K⟩:=H
     repeat (any_goals (first|assumption|wp_step))
     exact h _ _ S K
    |_=>exact H.elim
  |_=>exact a.elim
end
theorem Uy :∀{l:List α}{k:Nat}{w:α},l[k]? =some w->l.Perm (w::l.eraseIdx k)
 |[],_,_,h=>by simp at h|x::l,0,w,h=>by
  simp at h;subst h;simp
 |x::l,k+1,w,h=>by
  rw[List.getElem?_cons_succ]at h;rw[List.eraseIdx_cons_succ];exact((Uy h).cons x).trans (List.Perm.swap w x _)
theorem Ft (next:Nat->Nat):∀(f k:Nat)(left:List α)(out:Array α),left.length=f->(pickOrder.go next f k left out).toList.Perm (out.toList++left):=by
 intro f
 induction f with
 |zero=>
  intro k left out h
  have:left=[]:=List.length_eq_zero_iff.mp h
  subst this;unfold pickOrder.go;simp
 |succ f i=>
  intro k left out h;have H:next k % left.length<left.length:=Nat.mod_lt _ (by omega)
  unfold pickOrder.go;rw[ab H];dsimp only;refine(i (k+1) _ _ (by rw[List.length_eraseIdx_of_lt H];omega)).trans ?_
  rw[Array.toList_push,aW];exact List.Perm.append_left _ (Uy (ab H)).symm
theorem MN (next:Nat->Nat)(xs:Array α):(pickOrder next xs).toList.Perm xs.toList:=by
 unfold pickOrder
 have:=Ft next xs.size 0 xs.toList #[] (by simp)
 simpa using this
namespace F
theorem P8:entryFor table "set.__iter__" = some Builtin.«frozenset.__iter__»:=entryFor_alias (id' := "frozenset.__iter__") (by kernel_rfl) rfl (by decide +kernel) (by kernel_rfl)
theorem Pq:entryFor table "set_iterator.__iter__" = some Builtin.«dict_keyiterator.__iter__»:=entryFor_alias (id' := "dict_keyiterator.__iter__") (by kernel_rfl) rfl (by decide +kernel) (by kernel_rfl)
theorem XQ:Manifest.owners.lookup (String.ofList ['r','o','t','a','r','e','t','i','_','t','e','s'].reverse)=some Manifest.sig_set_iterator:=by kernel_rfl
theorem Qk:Slot "set_iterator" "__next__" "set_iterator.__next__" :=
 .of (owner := "set_iterator") (n := "__next__") (by rw[typeLookup_type,builtinLookup_eq_fast];kernel_rfl) (by decide +kernel) (by decide +kernel) (by decide +kernel)
  (by first|exact .inl (by decide +kernel) | exact .inr (by decide +kernel)) (by rw[isSubtype_type];kernel_rfl)
theorem XF:entryFor table "set_iterator.__next__" = some Builtin.«set_iterator.__next__»:=entryFor_of_tree (by kernel_rfl)
theorem XD (a:Value):argsOk "set_iterator.__next__" ⟨[a],[]⟩:=by
 unfold argsOk;rw[signature?_of (id := "set_iterator.__next__") (n:=['_','_','t','x','e','n','_','_']) (o:=['r','o','t','a','r','e','t','i','_','t','e','s']) (by kernel_rfl) XQ];kernel_rfl
theorem Pp (a:Value):argsOk "set_iterator.__iter__" ⟨[a],[]⟩:=by
 unfold argsOk;rw[signature?_of (id := "set_iterator.__iter__") (n:=['_','_','r','e','t','i','_','_']) (o:=['r','o','t','a','r','e','t','i','_','t','e','s']) (by kernel_rfl) XQ];kernel_rfl
theorem XG:Slot "set_iterator" "__iter__" "set_iterator.__iter__" :=
 .of (owner := "set_iterator") (n := "__iter__") (by rw[typeLookup_type,builtinLookup_eq_fast];kernel_rfl) (by decide +kernel) (by decide +kernel) (by decide +kernel)
  (by first|exact .inl (by decide +kernel) | exact .inr (by decide +kernel)) (by rw[isSubtype_type];kernel_rfl)
end F
def JU (n i:Nat):Nat:=match i with
 |0=>0|i+1=>(zW n).getD i 0+1
def Ro (n i:Nat):Bool:=decide ((zW n).length<i) || (SetTable.below (zW n).toArray (JU n i)==i)
theorem LB:((List.range 256).all λ n=>(List.range 9).all λ i=>Ro n i)=true:=by decide +kernel
theorem Lu (hn:n<256)(H:i<=(zW n).length):SetTable.below (zW n).toArray (JU n i)=i:=by
 have a:=QR n;have h:=qa4.mp (qa4.mp LB n (qa5.mpr hn)) i (qa5.mpr (by omega))
 unfold Ro at h;rw[aA (by omega),Bool.false_or,aU]at h
 exact h
def ZR (h:Heap)(I S:Addr)(slot i n e:Nat):Prop:=∃o,h.get? I=some o/\o.cls=.type "set_iterator" /\ o.data=.fields #[.int slot 0,.int i 0,.ref S,.int n 0,.int e 0]
noncomputable def yg (w:World)(a:Addr)(E:Nat)(e:Array (Int×Value)):Array (Int×Value):=if w.params.followText "set-order" then pickOrder (w.params.setOrder a E) e else e
theorem Jt (w:World)(a:Addr)(E:Nat)(e:Array (Int×Value)):(yg w a E e).toList.Perm e.toList:=by
 unfold yg
 split
 ·exact MN _ _
 ·exact List.Perm.refl _
def kh (w:World)(n i:Nat):Nat:=if w.params.followText "set-order" then 0 else JU n i
section
variable {prog:Program}{A:Around}{o:Obj}{es:Array (Int×Value)}{ep:Nat}
theorem Wz {Q:Bool->Shared->Prop}(h:Q (w.params.followText "set-order") s):wpAny (model prog w) A setsByText Q E s:=by
 unfold setsByText;exact qa0 (wpAny_askSetting (qa1 h))
theorem PR (H:s.heap.get? a=some o)(hex:o.ExactSet)(hd:o.data=.set es ep (qQ (jl w) n))(he:qW es.toList (zW n))(hn:n<256)
  (c:Q (.ref s.heap.objs.size) { s with heap:=s.heap.push { cls:=.type "set_iterator",data:=.fields #[.int 0 0,.int 0 0,.ref a,.int es.size 0,.int ep 0] } }):
  wpAny (model prog w) A (pyIter (.ref a)) Q E s:=by
 have T:s.TypeIs (.ref a) "set" := ⟨o,H,hex.1⟩;have hlen:es.size=(zW n).length:=by rw[<- aQ,he.length]
 have hf:(qQ (jl w) n).fits es.size=true:=by rw[hlen];exact fits_of hn _
 refine wpAny_pyIter_slot T slot_set_iter (wpAny_call_entry slot_set_iter T F.P8 ?_ (PySem.F.args_set_iter_1 _));unfold Builtin.«frozenset.__iter__»;show wpAny _ _ (Builtin.Frozenset.sizeOf a >>= _) _ _ s;unfold Builtin.Frozenset.sizeOf;refine qa0 (qa0 (wpAny_setEntries_of H hd hf (qa1 ?_)));unfold setDrawn;refine qa0 (qa0 (wpAny_setState_of H hd hf ?_));dsimp only;refine qa0 (Wz (qa1 ?_));rw[aj (λ h=>by
  have b:(!w.params.followText "set-order" && (!(qQ (jl w) n).plain&&decide (es.size > 1)))=true:=h;rw[WV]at b;simp at b)]
 refine qa0 (qa1 ?_);refine qa0 (wpAny_setEpoch_of H hd hf ?_);exact qa0 (wpAny_newObj_type (qa1 ⟨_,rfl,"set_iterator",_,⟨_,au _ rfl,rfl⟩,F.Qk.lookup,c⟩))
theorem Va {Q:Option (Value×Nat)->Shared->Prop}(c:s.heap.get? a=some o)(hd:o.data=.set es ep (qQ (jl w) n))(he:qW es.toList (zW n))(hn:n<256)(m:i<=es.size)
  (h:Q (((yg w a ep es)[i]?).map λ e=>(e.2,kh w n (i+1))) s):wpAny (model prog w) A (setNext a (kh w n i) i ep) Q E s:=by
 have hlen:es.size=(zW n).length:=by rw[<- aQ,he.length]
 have hf:(qQ (jl w) n).fits es.size=true:=by rw[hlen];exact fits_of hn _
 unfold setNext;refine qa0 (wpAny_setState_of c hd hf ?_);dsimp only;refine qa0 (Wz ?_);unfold yg kh at h;cases t:w.params.followText "set-order" with
 |true=>
  rw[t]at h;simp only[↓reduceIte]at h ⊢;have p:¬((ep != ep)=true):=by simp
  rw[aj p];unfold setWalk;refine qa0 (qa0 (wpAny_setState_of c hd hf ?_));dsimp only;refine qa0 (Wz ?_);rw[t];simp only[↓reduceIte];refine qa0 (wpAny_askSetting (qa1 (qa1 ?_)));unfold kh;rw[t];exact h
 |false=>
  rw[t]at h;simp only[a9,↓reduceIte]at h ⊢;rw[aj (λ h=>by
   have f:(!(qQ (jl w) n).plain&&decide (es.size > 1))=true:=h;rw[WV]at f;simp at f)]
  have d:(qQ (jl w) n).led=true:=by rw[Ho];unfold jl;rw[t];rfl
  refine qa0 ?_;show wpAny _ _ (if (!(qQ (jl w) n).led&&!es.isEmpty)=true then unsupported "set:maker-not-led" else pure ()) _ _ _;rw[d];simp only[Bool.not_true,Bool.false_and,a9,↓reduceIte];refine qa1 ?_;have l:SetTable.below (qQ (jl w) n).place (kh w n i)=i:=by
   rw[UY];unfold kh;rw[t];exact Lu hn (by omega)
  rw[l,UY];refine qa1 ?_
  by_cases b:i<es.size
  ·have v:(zW n)[i]? =some ((zW n)[i]'(by omega)):=ab (by omega)
   have j:(zW n).toArray[i]? =some ((zW n)[i]'(by omega)):=by rw[List.getElem?_toArray];exact v
   have H:es[i]? =some es[i]:=Array.getElem?_eq_getElem b;rw[H]at h;rw[H,j];dsimp only;have g:JU n (i+1)=(zW n)[i]'(by omega)+1:=by
    show(zW n).getD i 0+1=_;rw[aa,v]
    rfl
   rw[g]at h;exact h
  ·have H:es[i]? =none:=Array.getElem?_eq_none (by omega)
   rw[H]at h;rw[H];exact h
theorem Pr {I:Addr}{e:Int×Value}{Q:Option Value->Shared->Prop}(hit:ZR s.heap I a (kh w n i) i es.size ep)(d:s.heap.get? a=some o)(hex:o.ExactSet)(hd:o.data=.set es ep (qQ (jl w) n))(he:qW es.toList (zW n))(hn:n<256)(x:(yg w a ep es)[i]? =some e)
  (j:∀h',ZR h' I a (kh w n (i+1)) (i+1) es.size ep->Heap.SameBut I s.heap h'->Q (some e.2) { s with heap:=h' }):
  wpAny (model prog w) A (pyNext (.ref I)) Q E s:=by
 obtain⟨c,H,f,h⟩:=id hit;have T:s.TypeIs (.ref I) "set_iterator" := ⟨c,H,f⟩;have hlen:es.size=(zW n).length:=by rw[<- aQ,he.length]
 have hf:(qQ (jl w) n).fits es.size=true:=by rw[hlen];exact fits_of hn _
 unfold pyNext;refine qa0 (wpAny_attempt (wpAny_callSpecial?_slot (name:=Str.ofString "__next__") T F.Qk
  (wpAny_call_entry F.Qk T F.XF ?_ (F.XD _))))
 unfold Builtin.«set_iterator.__next__»;show wpAny _ _ (fieldsOf (.ref I) >>= _) _ _ s;refine qa0 (wpAny_fieldsOf H h ?_);dsimp only;refine qa0 (wpAny_setEntries_of d hd hf ?_);rw[aj (by simp)]
 have g:i<es.size:=by
  have b:=(Array.getElem?_eq_some_iff.mp x).1;have l:=(Jt w a ep es).length_eq;simp at l;omega
 simp only[aw];refine qa0 (Va d hd he hn (br g) ?_);rw[x];dsimp only[Option.map_some];refine qa0 (wpAny_setField H h (by simp) ?_)
 have b:(s.heap.update I (Obj.mapFields (·.setIfInBounds 0 (rawInt (kh w n (i+1)))))).get? I=some (Obj.mapFields (·.setIfInBounds 0 (rawInt (kh w n (i+1)))) c):=a5 _ H (Obj.isFreed_of_fields (Obj.data_mapFields h _));refine qa0 (wpAny_setField b (Obj.data_mapFields h _) (by simp) ?_)
 refine qa1 ⟨e.2,rfl,qa1 (j _ ?_ ((Heap.SameBut.update ..).trans (Heap.SameBut.update ..)))⟩;refine⟨_,a5 _ b (Obj.isFreed_of_fields (Obj.data_mapFields (Obj.data_mapFields h _) _)),(Obj.cls_mapFields ..).trans ((Obj.cls_mapFields ..).trans f),?_⟩;rw[Obj.data_mapFields (Obj.data_mapFields h _)];simp[rawInt]
theorem Pu {I:Addr}{Q:Option Value->Shared->Prop}(d:A.handled=none)(hit:ZR s.heap I a (kh w n es.size) es.size es.size ep)(c:s.heap.get? a=some o)(hex:o.ExactSet)(hd:o.data=.set es ep (qQ (jl w) n))(he:qW es.toList (zW n))(hn:n<256)
  (g:∀h',Heap.ExtBut I s.heap h'->Q none { s with heap:=h' }):wpAny (model prog w) A (pyNext (.ref I)) Q E s:=by
 obtain⟨i,h,f,H⟩:=id hit;have e:s.TypeIs (.ref I) "set_iterator" := ⟨i,h,f⟩;have hlen:es.size=(zW n).length:=by rw[<- aQ,he.length]
 have hf:(qQ (jl w) n).fits es.size=true:=by rw[hlen];exact fits_of hn _
 unfold pyNext;refine qa0 (wpAny_attempt (wpAny_callSpecial?_slot (name:=Str.ofString "__next__") e F.Qk
  (wpAny_call_entry F.Qk e F.XF ?_ (F.XD _))))
 unfold Builtin.«set_iterator.__next__»;show wpAny _ _ (fieldsOf (.ref I) >>= _) _ _ s;refine qa0 (wpAny_fieldsOf h H ?_);dsimp only;refine qa0 (wpAny_setEntries_of c hd hf ?_);rw[aj (by simp)]
 simp only[aw];refine qa0 (Va c hd he hn (ar _) ?_);have x:(yg w a ep es)[es.size]? =none:=Array.getElem?_eq_none (by
  have j:=(Jt w a ep es).length_eq;simp at j;omega)
 rw[x];dsimp only[Option.map_none];refine qa0 (wpAny_setField h H (by simp) ?_)
 show wpAny _ _ (newExc (.type "StopIteration") [] >>= _) _ _ _;refine qa0 ?_;simp only[newExc,newTuple];refine qa0 (wpAny_newObj_type ?_ (by size_fits))
 refine qa0 (m:=firstArgMember _ _) (wpAny_of_eq (a:=Value.none) (by first|rfl | (simp only[firstArgMember];rfl)) ?_)
 refine wpAny_newObj_type ?_ (by size_fits)
 simp only[raiseNew];refine qa0 (wpAny_handled ?_)
 first|rw[show A.in1.handled=none from d] | rw[d]
 refine qa0 (qa1 (wpAny_throw ?_));refine qa0 (wpAny_isInstance (T := "StopIteration") (b:=true) ⟨_,au _ rfl,rfl⟩ isSubtype_stop ?_);exact qa1 (g _ (((Heap.SameBut.update ..).extBut.push _).push _))
end
theorem ZR.typeIs {I S:Addr}{slot e:Nat}(h:ZR s.heap I S slot i n e):s.TypeIs (.ref I) "set_iterator" := let ⟨o,H,c,_⟩:=h;⟨o,H,c⟩
section
variable {prog:Program}{A:Around}{o:Obj}{es:Array (Int×Value)}{ep:Nat}
theorem Pz {I S:Addr}{slot m e:Nat}(hit:ZR s.heap I S slot i m e)(h:Q (.ref I) s):wpAny (model prog w) A (pyIter (.ref I)) Q E s:=by
 refine wpAny_pyIter_slot hit.typeIs F.XG (wpAny_call_entry F.XG hit.typeIs F.Pq ?_ (F.Pp _));show wpAny _ _ (ret (.ref I)) _ _ s;exact qa1 ⟨_,rfl,"set_iterator",_,hit.typeIs,F.Qk.lookup,h⟩
theorem Walks.setP (p:A.handled=none)(I a:Addr)(g:a≠I)(hex:o.ExactSet)(hd:o.data=.set es ep (qQ (jl w) n))(he:qW es.toList (zW n))(hn:n<256):
  Walks prog w A I [I,a] [I] es.size (λ i v=>∃e,(yg w a ep es)[i]? =some e/\v=e.2) (λ i h=>ZR h I a (kh w n i) i es.size ep/\h.get? a=some o) where
 sub:=λ b H=>by simp at H;simp[H]
 frame:=λ _ _ _ st m=>⟨let ⟨x,h1,q⟩:=st.1;⟨x,m I (by simp) x h1,q⟩,m a (by simp) o st.2⟩
 item:=λ i s Q E r st f=>by
  have z:(yg w a ep es).size=es.size:=by have:=(Jt w a ep es).length_eq;simpa using this
  have l:(yg w a ep es)[i]? =some ((yg w a ep es)[i]'(by omega)):=Array.getElem?_eq_getElem (by omega)
  refine Pr st.1 st.2 hex hd he hn l λ h' d c=>?_;refine f _ h' s.toks ⟨_,l,rfl⟩ ⟨d,?_⟩ λ b o H e=>c.extBut b o (λ h=>H (by simp[h])) e
  exact c.extBut a o g st.2
 done:=λ s Q E st f=>Pu p st.1 st.2 hex hd he hn λ h' j=>f h' s.toks λ b o H e=>j b o (λ h=>H (by simp[h])) e
 self:=λ _ _ _ _ st f=>Pz st.1 f
theorem NM:typeLookup (.type "set") "__len__" = pure (some (.builtin "set.__len__")):=by rw[typeLookup_type,builtinLookup_eq_fast];kernel_rfl
theorem PK {Q:List Value->Shared->Prop}(hh:A.handled=none)(J:s.heap.get? a=some o)(hex:o.ExactSet)(hd:o.data=.set es ep (qQ (jl w) n))(he:qW es.toList (zW n))(hn:n<256)
  (hQ:∀(h':Heap)(tk:Nat),(∀b o,b<s.heap.objs.size->s.heap.get? b=some o->h'.get? b=some o)->s.heap.objs.size<=h'.objs.size->Q ((yg w a ep es).toList.map (·.2)) { s with heap:=h',toks:=tk }):
  wpAny (model prog w) A (collect (.ref a)) Q E s:=by
 have hT0:s.TypeIs (.ref a) "set" := ⟨o,J,hex.1⟩;have t:a<s.heap.objs.size:=aH J;unfold collect;refine qa0 (wpAny_runValue (codeAny_builtin PySem.F.entry_proto_collect ?_));rw[Around.under_plainId PySem.F.plain_proto_collect _];show wpAny _ A.in1 (newList [] >>= λ l=>again (.builtin "list.__iadd__" ⟨[l,.ref a],[]⟩)) _ _ s;refine qa0 (wpAny_newObj_type ?_);refine qa1 ⟨plainId_quiet PySem.F.plain_list_iadd _,codeAny_builtin PySem.F.entry_list_iadd ?_⟩;rw[Around.under_plainId PySem.F.plain_list_iadd _];show wpAny _ A.in1 (Builtin.List.listExtendWith (.ref s.heap.objs.size) (.ref a) (.ref s.heap.objs.size)) _ _ _;have f:(s.heap.push { cls:=.type "list",data:=.seq ([]:List Value).toArray }).get? a=some o:=ae _ J;have hT:Shared.TypeIs { s with heap:=s.heap.push { cls:=.type "list",data:=.seq ([]:List Value).toArray } } (.ref a) "set" := ⟨o,f,hex.1⟩
 unfold Builtin.List.listExtendWith;refine qa0 (wpAny_typeOf hT ?_);have B:Builtin.List.listSameRef (.ref s.heap.objs.size) (.ref a)=false:=by simp[Builtin.List.listSameRef];exact bj t
 have Y:(Value.type "set" == Value.type "list")=false:=by decide
 have X:(Value.type "set" == Value.type "tuple")=false:=by decide
 simp only[B,Y,X,Bool.or_false,a9,if_false];refine qa0 (PR f hex hd he hn ?_);refine qa0 (wpAny_holding ?_);unfold Builtin.List.listLengthHint;generalize y:s.heap.push { cls:=.type "list",data:=.seq ([]:List Value).toArray }=H;have m:H.objs.size=s.heap.objs.size+1:=by rw[<- y,ba]
 have q:H.get? a=some o:=by rw[<- y];exact f
 have U:H.get? s.heap.objs.size=some { cls:=.type "list",data:=.seq ([]:List Value).toArray }:=by rw[<- y];exact au _ rfl
 generalize i:({ cls:=.type "set_iterator",data:=.fields #[.int 0 0,.int 0 0,.ref a,.int es.size 0,.int ep 0] }:Obj)=io;have g:Shared.TypeIs { s with heap:=H.push io } (.ref a) "set" := ⟨o,ae _ q,hex.1⟩
 have M:(H.push io).get? H.objs.size=some io:=au _ (by rw[<- i];rfl)
 refine qa0 (wpAny_specialOf g NM ?_)
 wp_delta
 refine qa0 (wpAny_isInstance (b:=true) g (by rw[isSubtype_type];kernel_rfl) ?_)
 show wpAny _ A.in1 (typeOf (Value.ref a) >>= _) _ _ _;refine qa0 (wpAny_typeOf g ?_);refine qa1 ?_;show wpAny _ A.in1 (rule "list.extend.makes-room" >>= λ _=>Builtin.List.listTouch (.ref s.heap.objs.size) >>= λ _=>
  again (.builtin "list.extend.loop" ⟨[.ref s.heap.objs.size,.ref H.objs.size,.ref s.heap.objs.size],[]⟩)) _ _ _
 refine qa0 (wpAny_rule ?_);have u:(H.push io).get? s.heap.objs.size=some { cls:=.type "list",data:=.seq ([]:List Value).toArray }:=ae _ U;refine qa0 ?_;show wpAny _ A.in1 (updateSeq s.heap.objs.size (·.push .none) >>= λ _=>updateSeq s.heap.objs.size (·.pop)) _ _ _;refine qa0 (wpAny_updateSeq u rfl ?_);have r:=a5 (Obj.mapSeq (·.push Value.none)) u rfl;refine wpAny_updateSeq r rfl ?_;have P:=a5 (Obj.mapSeq (·.pop)) r rfl;have d:∀b o,b≠s.heap.objs.size->(H.push io).get? b=some o->(((H.push io).update s.heap.objs.size (Obj.mapSeq (·.push Value.none))).update s.heap.objs.size (Obj.mapSeq (·.pop))).get? b=some o:=
  λ b o p e=>(aX _ _ (Ne.symm p)).trans ((aX _ _ (Ne.symm p)).trans e)
 have K:a≠H.objs.size:=by rw[m];exact aM (a6 t)
 have x:H.objs.size≠s.heap.objs.size:=by rw[m];exact Nat.succ_ne_self _
 have S:a≠s.heap.objs.size:=aM t;have W:=(Walks.setP (prog:=prog) (w:=w) (A:=A.in1) (by simp[hh]) H.objs.size a K hex hd he hn).toS
 have N:s.heap.objs.size∉[H.objs.size,a]:=λ hm=>by
  rcases qa3.mp hm with z|hm
  ·exact x z.symm
  ·exact S (qa7.mp hm).symm
 have hlen:es.size=(zW n).length:=by rw[<- aQ,he.length]
 have h8:=QR n;refine qa1 ⟨plainId_quiet PySem.F.plain_extend_loop _,codeAny_extend_loopS W (by rw[sizeLine_eq];omega) _ N _ es.size 0 _ _ _ rfl (zero_le _) ⟨?_,d a o S (ae _ q)⟩ P (ItemsOf.nil _) λ C c c' hm v h=>?_⟩
 ·refine⟨io,d _ _ x M,by rw[<- i],?_⟩
  rw[<- i]
  have:kh w n 0=0:=by unfold kh JU;split<;>rfl
  rw[this]
  rfl
 show wpAny _ A (load s.heap.objs.size >>= _) _ _ C;refine qa0 (wpAny_load v ?_);have hl:c.toList=(yg w a ep es).toList.map (·.2):=by
  have I:(yg w a ep es).size=es.size:=by have:=(Jt w a ep es).length_eq;simpa using this
  apply List.ext_getElem?
  intro j
  by_cases Z:j<es.size
  ·have B:c[j]? =some (c[j]'(by rw[h.1];exact Z)):=Array.getElem?_eq_getElem (by rw[h.1];exact Z)
   obtain⟨e,Y,X⟩:=h.2 j _ B;rw[bz,B,ak,bz,Y,X]
   rfl
  ·rw[aC (by rw[aQ,h.1];omega),aC (by rw[ah,aQ,I];omega)]
 show wpAny _ A (pure c.toList) _ _ C;rw[hl];obtain⟨h',g',d',T,D⟩:=C;have e1:g'=s.gens:=hm.gens;have e2:d'=s.drawn:=hm.drawn;have e3:D=s.os:=hm.os;subst e1 e2 e3;refine qa1 (hQ h' T (λ b ob p e=>?_) ?_)
 ·refine hm.heap b ob (λ L=>?_) (d b ob (aM p) (ae _ (by rw[<- y];exact ae _ e)))
  rcases qa3.mp L with z|z
  ·exact aM p z
  ·exact aM (a6 p) ((qa7.mp z).trans m)
 ·exact br (aH (show h'.get? s.heap.objs.size=_ from v))
end
open PySem PySem.Spec PyProof.Rows L2
theorem U3:∀{a b:List Int},a.Perm b->a.Pairwise (·<=·)->b.Pairwise (·<=·)->a=b
 |[],b,p,_,_=>by rw[List.nil_perm.mp p]|x::a,[],p,_,_=>absurd p.length_eq (by simp)|x::a,y::b,p,H,h=>by
  have d:x∈y::b:=p.mem_iff.mp (aG ..);have c:y∈x::a:=p.mem_iff.mpr (aG ..);have e:x=y:=by
   rcases qa3.mp d with e|e
   ·exact e
   ·rcases qa3.mp c with E|E
    ·exact E.symm
    ·have g:=(List.pairwise_cons.mp h).1 x e
     have f:=(List.pairwise_cons.mp H).1 y E;omega
  subst e;rw[U3 (List.Perm.cons_inv p) (List.pairwise_cons.mp H).2 (List.pairwise_cons.mp h).2]
theorem FK (n v i:Nat):(jY n v).testBit i=(n.testBit i || decide (i=v)):=by
 unfold jY
 by_cases h:n.testBit v=true
 ·rw[af h]
  by_cases e:i=v
  ·subst e;simp[h]
  ·simp[e]
 ·rw[aj h]
  unfold q9;rw[Nat.testBit_or,Nat.one_shiftLeft,Nat.testBit_two_pow]
  congr 1
  by_cases e:v=i
  ·subst e;simp
  ·simp[e,Ne.symm e]
theorem Tc (i:Nat):∀(vs:List Nat)(n:Nat),(vs.foldl jY n).testBit i=(n.testBit i || decide (i∈vs))
 |[],n=>by simp|v::vs,n=>by
  rw[List.foldl_cons,Tc i vs,FK]
  by_cases e:i=v
  ·simp[e]
  ·simp[e]
theorem Mh (vs:List Nat):zW (vs.foldl jY 0)=(List.range 8).filter λ i=>decide (i∈vs):=by
 unfold zW
 congr 1
 funext i
 rw[Tc];simp
theorem N4 (n:Nat):((zW n).map λ (i:Nat)=>(i:Int)).Pairwise (·<=·):=by
 rw[List.pairwise_map];unfold zW;refine List.Pairwise.imp ?_ (List.Pairwise.filter _ List.pairwise_lt_range);intro a b h;omega
theorem qW.snd (h:qW es vs):∀e∈es,∃tk,e.2=.int e.1 tk:=by
 induction h with
 |nil=>intro e he;cases he|cons v tk h i=>
  intro e he;rcases qa3.mp he with rfl|he
  ·exact⟨tk,rfl⟩
  ·exact i e he
theorem VC:∀{l:List (Int×Value)},(∀e∈l,∃tk,e.2=.int e.1 tk)->IntsAre (l.map (·.2)) (l.map (·.1))
 |[],_=>.nil|e::l,h=>by
  obtain⟨tk,he⟩:=h e (aG ..);rw[aO,aO,he];exact .cons _ tk (VC λ x H=>h x (aD _ H))
section
variable {prog:Program}{A:Around}{o:Obj}{es:Array (Int×Value)}{ep:Nat}
theorem O3 (u:A.handled=none)(S:jX s.heap a (jl w) n)
  (h:∀(h':Heap)(tk:Nat)(l:Addr)(I:List Value)(c:Nat),s.heap.objs.size<=l->h'.get? l=some { cls:=.type "list",data:=.seq I.toArray c }->IntsAre I ((zW n).map λ (i:Nat)=>(i:Int))->
   (∀b o,s.heap.get? b=some o->h'.get? b=some o)->Q (.ref l) { s with heap:=h',toks:=tk }):
  wpAny (model prog w) A (call (.builtin "sorted") [.ref a]) Q E s:=by
 obtain⟨o,f,p,t,hex,hd,he,hn⟩:=S;refine Calls.call_function_entry kind_sorted plain_sorted entry_sorted (args_sorted1 _) ?_;unfold Builtin.«sorted»;refine qa0 (m:=checkCount "sorted" 1 1 _) (qa1 ?_);refine qa0 (PK (by simp[u]) t hex hd he hn λ d tk kp hle=>?_)
 have g:=Jt w a p f;have q:IntsAre ((yg w a p f).toList.map (·.2)) ((yg w a p f).toList.map (·.1)):=VC λ e hm=>he.snd e (g.mem_iff.mp hm);have H:((yg w a p f).toList.map (·.1)).Perm ((zW n).map λ (i:Nat)=>(i:Int)):=by
  rw[<- he.map1];exact g.map _
 have hlen:((yg w a p f).toList.map (·.2)).length<=8:=by
  rw[ah,g.length_eq,he.length];exact QR n
 generalize (yg w a p f).toList.map (·.2)=vs at q hlen;generalize (yg w a p f).toList.map (·.1)=ns at q H;refine qa0 (wpAny_newList ?_);have L:(d.push (seqObj "list" vs.toArray 0)).get? d.objs.size=some (seqObj "list" vs.toArray 0):=au _ rfl;show wpAny _ _ _ _ _ { s with heap:=d.push (seqObj "list" vs.toArray 0),toks:=tk }
 refine qa0 (wpAny_holding (wpAny_call_entry slot_list_sort ⟨_,L,rfl⟩ entry_list_sort (list_sort_tree L q (by omega) λ out N a1 a2 z=>⟨_,rfl,?_⟩) (args_list_sort _)))
 have j:N=(zW n).map λ (i:Nat)=>(i:Int):=U3 (a2.trans H) z (N4 n);subst j;refine qa1 ⟨_,rfl,?_⟩;have y:=get?_update_seq L (λ _=>(#[]:Array Value));have x:=ae (seqObj "list" #[] 0) (ae (seqObj "tuple" vs.toArray 0) y);obtain⟨c,v⟩:∃c,(sortedHeap (d.push (seqObj "list" vs.toArray 0)) d.objs.size vs out).get? d.objs.size=some (seqObj "list" out c):=⟨_,get?_update_seq x (λ _=>out)⟩;refine h _ tk d.objs.size out.toList c hle ?_ a1 λ b ob e=>?_
 ·rw[Array.toArray_toList]
  exact v
 ·have r:b<s.heap.objs.size:=aH e
  have K:=kp b ob r e;have nb:d.objs.size≠b:=bj (aI r hle);unfold sortedHeap;refine(aX _ _ nb).trans ?_;refine ae _ (ae _ ?_);exact(aX _ _ nb).trans (ae _ K)
end
section
def Cc (K:Frag)(w:World):List V->Hp->VK->Prop:=λ xs H Q=>∃(p:Addr) (vs:List Nat),xs=[.ref p]/\qL K H p (vs.map λ (v:Nat)=>V.int (v:Int))/\(∀v∈vs,v<8)/\∀l,H l=none->Q (.ref l) (upd H l (.ext λ h=>jX h l (jl w) (vs.foldl jY 0)))
theorem Mv (l:X.calm=true):jK X (.type "set") (Cc X.K X.w):=by
 intro pins s σ H xs us Q I r h;obtain⟨p,vs,rfl,g,m,q⟩:=h;obtain⟨u,rfl,d⟩:=vals1 r;cases d;obtain⟨i,c,⟨o,k,t,n,B,E⟩,_⟩:=I.list g;have f:Vals ((vs.map λ (v:Nat)=>(v:Int)).map V.int) i:=by rw[aP];exact c
 refine Od (I.ok.hd l) ⟨o,t,n,k,E⟩ (intsAre_of f) m λ h' tk S kp=>?_;refine⟨.ref s.heap.objs.size,_,I.laid (t':=tk) (o:=.ext λ h=>jX h s.heap.objs.size (jl X.w) (vs.foldl jY 0)) (λ b o e=>kp b o (aH e) e) (ar _) ⟨S,?_,λ y x a b=>a.keep b⟩,rfl,q _ (I.hok.fresh (ar _))⟩;obtain⟨o,z,A,j,_⟩:=S;exact⟨o,j⟩
theorem Jr:∀{ns:List Int}{i:List Value},IntsAre i ns->Vals (ns.map V.int) i
 |_,_,.nil=>.nil|_,_,.cons n t h=>.cons ⟨t,rfl⟩ (Jr h)
theorem ON (j:X.calm=true):jK X (.builtin "sorted") (λ xs H Q=>∃(p:Addr) (n:Nat),xs=[.ref p]/\H p=some (.ext λ h=>jX h p (jl X.w) n)/\∀l,H l=none->Q (.ref l) (upd H l (.lst ((zW n).map λ (v:Nat)=>V.int (v:Int))))):=by
 intro pins s σ H xs us Q I r h;obtain⟨p,n,rfl,e,q⟩:=h;obtain⟨u,rfl,d⟩:=vals1 r;cases d;have S:jX s.heap p (jl X.w) n:=(show jk X.prog X.w H s.heap p (.ext λ h=>jX h p (jl X.w) n) from I.hok p _ e).1
 refine O3 (I.ok.hd j) S λ h' tk l i c b g f kp=>?_;have a:=Jr f;rw[aP]at a;refine⟨.ref l,_,I.laid (t':=tk) (o:=.lst ((zW n).map λ (v:Nat)=>V.int (v:Int))) kp b ⟨?_,i,c,a,g⟩,rfl,q _ (I.hok.fresh b)⟩;rw[ah,sizeLine_eq]
 have:=QR n
 omega
noncomputable def Zo:List Int->Option (List Nat)
 |[]=>some []|i::is=>if 0<=i/\i<8 then(Zo is).map (i.toNat::·) else none
theorem UZ:∀{is:List Int}{vs:List Nat},Zo is=some vs->is=vs.map (λ (v:Nat)=>(v:Int))/\∀v∈vs,v<8
 |[],_,e=>by cases e;exact⟨rfl,λ v H=>by cases H⟩|i::is,vs,e=>by
  unfold Zo at e
  by_cases h:0<=i/\i<8
  ·rw[af h]at e
   cases E:Zo is with
   |none=>rw[E]at e;cases e|some us=>
    rw[E]at e;cases e;obtain⟨b,a⟩:=UZ E;refine⟨?_,λ v H=>?_⟩
    ·rw[aO,<- b,bw h.1]
    ·rcases qa3.mp H with rfl|H
     ·omega
     ·exact a v H
  ·rw[aj h]at e;cases e
def W3:W->Hx->R W:=λ w A=>match w with
 |.ref n=>match A[n]? with
  |some (.lst ws)=>match intsOf ws with
   |some is=>match Zo is with
    |some vs=>.ok (.ref A.length) (A++[.lst (((List.range 8).filter λ i=>decide (i∈vs)).map λ (i:Nat)=>W.int (i:Int))])|none=>.bad
   |none=>.bad
  |_=>.bad
 |_=>.bad
def YN (m:Ev):Ev:=λ ρ A=>(m ρ A).bind λ w A1=>W3 w A1
end
theorem M3 (a b:Value):argsOk "sum" ⟨[a,b],[]⟩:=by unfold argsOk;kernel_rfl
theorem sub_list_str:isSubtype (.type "list") (.type "str")=pure false:=by rw[isSubtype_type];kernel_rfl
theorem sub_list_bytes:isSubtype (.type "list") (.type "bytes")=pure false:=by rw[isSubtype_type];kernel_rfl
theorem sub_list_bytearray:isSubtype (.type "list") (.type "bytearray")=pure false:=by rw[isSubtype_type];kernel_rfl
noncomputable abbrev kI (xs:Array Value)(c:Nat):Obj:={ cls:=.type "list",dict:=none,data:=.seq xs c,slots:=#[] }
section
variable {prog:Program}{A:Around}{R:Result->Shared->Prop}{I:Addr}{wr:List Addr}{G:Array GenState->Array GenState->Prop}{P:Nat->Value->Prop}{St:Nat->Shared->Prop}
theorem MR (W:WalksS prog w A.in1 I fp wr G n P St)(S B:Addr)(z:S∉fp)(hBS:B<=S)(ad:Nat->Addr)(a:Nat->List Value)(q:∀i v,P i v->v=.ref (ad i))(m:∀i,i<n->ad i≠S/\ad i∉wr)(hwS:∀b∈wr,b<S):
  ∀(k i:Nat)(s:Shared)(T:Addr)(c Q:Nat)(acc:List Value),n - i=k->i<=n->St i s->s.heap.get? S=some (kI #[.ref T] c)->T≠S->T∉wr->s.heap.get? T=some (kI acc.toArray Q)->
   (∀j,i<=j->j<n->∃cj,s.heap.get? (ad j)=some (kI (a j).toArray cj))->(acc++(((List.range' i k).map a).flatten)).length<=sizeLine->
   (∀d U c',Moved (S::wr) G s d->d.heap.get? U=some (kI (acc++(((List.range' i k).map a).flatten)).toArray c')->((k=0/\U=T)∨B<=U)->R (.ok (.ret (.ref U))) d)->
   codeAny (model prog w) A (.builtin "sum.loop" ⟨[.ref I,.ref S,rawInt 2,rawInt 0],[]⟩) R s:=by
 have hSw:S∉wr:=λ h=>z (W.sub _ h);have f:∀b∈wr,b∈S::wr:=λ b g=>aD _ g;intro k
 induction k with
 |zero=>
  intro i s T c Q acc hk hi t K hTS p hT hl J M;have hin:i=n:=by omega
  subst hin;refine codeAny_builtin PySem.F.entry_sum_loop ?_;rw[Around.under_plainId plain_sum_loop _];show wpAny _ A.in1 (seqItems? (.ref S) >>= _) _ _ s;refine qa0 (wpAny_seqItems K rfl ?_);show wpAny _ A.in1 (tryCatch (pyNext (.ref I)) _ >>= _) _ _ s;refine qa0 (wpAny_tryCatch (W.done s _ _ t λ d hm=>?_));refine qa1 (M d T Q (hm.mono f) ?_ (.inl ⟨rfl,rfl⟩))
  have:=hm.heap T _ p hT
  simpa using this
 |succ k ih=>
  intro i s T c Q acc hk hi t K hTS p hT hl J M;have H:i<n:=by omega
  refine codeAny_builtin PySem.F.entry_sum_loop ?_;rw[Around.under_plainId plain_sum_loop _];show wpAny _ A.in1 (seqItems? (.ref S) >>= _) _ _ s;refine qa0 (wpAny_seqItems K rfl ?_);show wpAny _ A.in1 (tryCatch (pyNext (.ref I)) _ >>= _) _ _ s;refine qa0 (wpAny_tryCatch (W.item i s _ _ H t λ v d hP r hm=>?_));have hv:=q i v hP;subst hv;have E:=hm.heap S _ hSw K;have hT':=hm.heap T _ p hT;obtain⟨ci,hli⟩:=hl i (ar _) H;have x:=hm.heap (ad i) _ (m i H).2 hli;rw[range'_succ,aO,aS,<- aW]at J M;have Z:(acc++a i).length<=sizeLine:=by rw[aE]at J;omega
  show wpAny _ A.in1 ((holding [Value.ref (ad i)] (binaryOp .Add (.ref T) (.ref (ad i)))).attempt >>= _) _ _ _;refine qa0 (wpAny_attempt (wpAny_holding (PySem.P.add_list hT' x ?_ (by rw[aB,aB,<- aE];exact Z))))
  have ea:acc.toArray++(a i).toArray=(acc++a i).toArray:=by simp
  rw[ea];have L:S<d.heap.objs.size:=aH E;have D:=ae (kI (acc++a i).toArray 0) E;have hN1:(d.heap.push (kI (acc++a i).toArray 0)).get? d.heap.objs.size=some (kI (acc++a i).toArray 0):=au _ rfl;show wpAny _ A.in1 (updateSeq S (λ _=>#[.ref d.heap.objs.size]) >>= _) _ _ _;refine qa0 (wpAny_updateSeq D rfl ?_);have C:=a5 (Obj.mapSeq λ _=>#[Value.ref d.heap.objs.size]) D rfl;refine qa0 (wpAny_letGo ?_);have N:d.heap.objs.size≠S:=bj L;have l:∀b o,b≠S->d.heap.get? b=some o->(((d.heap.push (kI (acc++a i).toArray 0)).update S (Obj.mapSeq λ _=>#[Value.ref d.heap.objs.size])).update S (Obj.mapSeq λ _=>#[Value.ref d.heap.objs.size])).get? b=some o:=
   λ b o g e=>(aX _ _ (Ne.symm g)).trans ((aX _ _ (Ne.symm g)).trans (ae _ e))
  have Y:d.heap.objs.size∉wr:=λ hm2=>aZ _ (lt_trans (hwS _ hm2) L);refine qa0 (wpAny_updateSeq C rfl (qa1 ⟨plainId_quiet plain_sum_loop _,ih (i+1) _ d.heap.objs.size _ 0 (acc++a i) (by omega) H (W.frame _ d _ _ r (by first|exact ar _|exact le_succ _|omega) λ b g o e=>l b o (λ h=>z (h ▸ g)) e) (a5 _ C rfl) N Y ?_ ?_ J λ X T'' c'' u y hor=>?_⟩))
  ·exact(aX _ _ (Ne.symm N)).trans ((aX _ _ (Ne.symm N)).trans hN1)
  ·intro j h1 h2
   obtain⟨cj,hj⟩:=hl j (by omega) h2
   exact⟨cj,l _ _ (m j h2).1 (hm.heap _ _ (m j h2).2 hj)⟩
  ·refine M X T'' c'' (Moved.trans W.gtrans ((hm.mono f).then_heap (by first|exact ar _|exact le_succ _|omega) λ b o g e=>l b o (λ h=>g (by rw[h];exact aG)) e) u) y (.inr ?_)
   rcases hor with ⟨_,rfl⟩|h
   ·exact br (Nat.lt_of_le_of_lt hBS L)
   ·exact h
theorem My {p q:Addr}{P:Nat}{a:List Addr}{itss:List (List Value)}(hh:A.handled=none)(y:s.heap.IsList p (a.map Value.ref).toArray)(U:s.heap.get? q=some (kI #[] P))
  (hlen:a.length=itss.length)(X:∀i,i<a.length->∃c,s.heap.get? (a.getD i 0)=some (kI (itss.getD i []).toArray c))(C:a≠[])(hz:itss.flatten.length<=sizeLine)
  (h:∀(h':Heap)(tk:Nat)(l:Addr)(c:Nat),s.heap.objs.size<=l->h'.get? l=some (kI itss.flatten.toArray c)->(∀b o,s.heap.get? b=some o->h'.get? b=some o)->Q (.ref l) { s with heap:=h',toks:=tk }):
  wpAny (model prog w) A (call (.builtin "sum") [.ref p,.ref q]) Q E s:=by
 refine call_function_tree PySem.F.kind_sum PySem.F.plain_sum PySem.F.entry_sum (M3 _ _) ?_;unfold Builtin.«sum»;simp only[bc,length_nil];rw[aj (by decide)]
 refine qa0 (wpAny_of_eq (show Builtin.Builtins.bindParams "sum" ["start"] 0 ⟨[.ref q],[]⟩=pure [some (.ref q)] from rfl) ?_)
 refine qa0 (wpAny_pyIter_list y ?_);refine qa0 (qa1 ?_);generalize d:({ cls:=.type "list_iterator",data:=.fields #[.ref p,.int 0 0] }:Obj)=io;have n:(s.heap.push io).get? q=some (kI #[] P):=ae _ U;have J:Shared.TypeIs { s with heap:=s.heap.push io } (.ref q) "list" := ⟨_,n,rfl⟩
 simp only[forIn_cons,forIn_nil];refine qa0 (qa0 (qa0 (wpAny_isInstance (b:=false) J sub_list_str ?_)));simp only[a9,if_false];refine qa1 (qa0 (qa0 (wpAny_isInstance (b:=false) J sub_list_bytes ?_)));simp only[a9,if_false];refine qa1 (qa0 (qa0 (wpAny_isInstance (b:=false) J sub_list_bytearray ?_)));simp only[a9,if_false];refine qa1 (qa1 ?_);refine qa0 (wpAny_newObj_type ?_);have sz:(s.heap.push io).objs.size=s.heap.objs.size+1:=ba ..;have m:p<s.heap.objs.size:=by obtain⟨o,e,_⟩:=y;exact aH e
 have g:q<s.heap.objs.size:=aH U;have ltI:s.heap.objs.size<(s.heap.push io).objs.size:=by rw[sz];exact bg _
 have L:∀b,b<s.heap.objs.size->b<(s.heap.push io).objs.size:=λ b I=>lt_trans I ltI;have W:=(Walks.list (prog:=prog) (w:=w) (A:=A.in1) (by simp[hh]) s.heap.objs.size p (aM m) (a.map Value.ref).toArray).toS
 have N:(a.map Value.ref).toArray.size=a.length:=by simp
 rw[N]at W;have K:(s.heap.push io).objs.size∉[s.heap.objs.size,p]:=λ hm=>by
  rcases qa3.mp hm with z|hm
  ·exact bj ltI z
  ·exact bj (L p m) (qa7.mp hm)
 have t:∀i,i<a.length->a.getD i 0<s.heap.objs.size:=λ i f=>by obtain⟨c,e⟩:=X i f;exact aH e
 have M:(s.heap.push io).get? s.heap.objs.size=some io:=au _ (by rw[<- d];rfl)
 have H:((List.range' 0 a.length).map λ j=>itss.getD j []).flatten=itss.flatten:=by
  congr 1
  rw[hlen]
  apply bf
  ·simp
  ·intro i h1 h2
   simp[aa,ab h2]
 refine qa1 ⟨plainId_quiet plain_sum_loop _,MR W (s.heap.push io).objs.size s.heap.objs.size K (br ltI) (λ i=>a.getD i 0) (λ i=>itss.getD i []) (λ i v e=>?_) (λ i f=>⟨aM (L _ (t i f)),λ hm=>?_⟩) (λ b I=>?_)
  a.length 0 _ q 0 P [] (by omega) (zero_le _) ⟨⟨io,ae _ M,by rw[<- d],by rw[<- d];rfl⟩,(y.push _).push _⟩ (au _ rfl) (aM (L q g)) (λ hm=>?_) (ae _ n) (λ j _ hj=>?_) ?_ λ Z Y c' hm r B=>?_⟩
 ·have f:i<a.length:=by
   have:=(Array.getElem?_eq_some_iff.mp e).1
   simpa using this
  have u:(a.map Value.ref)[i]? =some v:=by simpa using e
  rw[ak,ab f]at u;rw[aa,ab f];exact(az u).symm
 ·exact aM (t i f) (qa7.mp hm)
 ·rw[qa7.mp I];exact ltI
 ·exact aM g (qa7.mp hm)
 ·obtain⟨c,e⟩:=X j hj
  exact⟨c,ae _ (ae _ e)⟩
 ·rw[bC,H];exact hz
 ·rw[bC,H]at r
  have hB:s.heap.objs.size<=Y:=by
   rcases B with ⟨h0,_⟩|h0
   ·exact absurd (List.length_eq_zero_iff.mp h0) C
   ·exact h0
  obtain⟨h',g',d',T,x⟩:=Z;have e1:g'=s.gens:=hm.gens;have u:d'=s.drawn:=hm.drawn;have e3:x=s.os:=hm.os;subst e1 u e3;refine h h' T Y c' hB r λ b o e=>hm.heap b o (λ D=>?_) (ae _ (ae _ e));have S:b<s.heap.objs.size:=aH e;rcases qa3.mp D with z|z
  ·exact aM (L b S) z
  ·exact aM S (qa7.mp z)
end
section
variable {K:Frag}
def RI (K:Frag):List V->Hp->VK->Prop:=λ xs H Q=>∃(p q:Addr) (ls:List (Addr×List V)),xs=[.ref p,.ref q]/\H p=some (.lst (ls.map λ l=>V.ref l.1))/\H q=some (.lst [])/\(∀l∈ls,H l.1=some (.lst l.2))/\ls≠[]/\(ls.map (·.2)).flatten.length<=zX/\
 ∀l,H l=none->Q (.ref l) (upd H l (.lst (ls.map (·.2)).flatten))
theorem UH:∀{ls:List (Addr×List V)}{us:List Value},Vals (ls.map λ l=>V.ref l.1) us->us=(ls.map (·.1)).map Value.ref
 |[],_,h=>by cases h;rfl|l::ls,_,h=>by
  cases h with
  |cons r t=>cases r;rw[UH t];rfl
theorem N0 (Y:X.calm=true):jK X (.builtin "sum") (RI X.K):=by
 intro pins s σ H xs us Q I r h;obtain⟨p,q,ls,rfl,S,P,T,m,z,k⟩:=h;obtain⟨u,v,rfl,B,A⟩:=Vals.two r;cases B;cases A;obtain⟨_,J,np,D,_,Z⟩:=I.lstM S;obtain⟨_,j,nq,C,lq,eq⟩:=I.lstM P;have b:j=[]:=by cases C;rfl
 subst b;have d:=UH D;subst d;have hex:∀L:List (Addr×List V),(∀l∈L,H l.1=some (.lst l.2))->∃itss:List (List Value),itss.length=L.length/\(∀i,i<L.length->∃c,s.heap.get? ((L.map (·.1)).getD i 0)=some (kI (itss.getD i []).toArray c))/\Vals (L.map (·.2)).flatten itss.flatten:=by
  intro L
  induction L with
  |nil=>intro _;exact⟨[],rfl,λ i f=>absurd f (not_lt_zero _),.nil⟩|cons l L M=>
   intro hm;obtain⟨itss,y,w,g⟩:=M λ x N=>hm x (aD _ N);obtain⟨_,it,n,E,_,e1⟩:=I.lstM (hm l (aG ..));refine⟨it::itss,by simp[y],λ i f=>?_,?_⟩
   ·cases i with
    |zero=>exact⟨n,e1⟩|succ i=>exact w i (by simpa using f)
   ·rw[aO,aS,aS]
    exact E.append g
 obtain⟨itss,y,w,g⟩:=hex ls T;have t:itss.flatten.length=(ls.map (·.2)).flatten.length:=g.length.symm;refine My (I.ok.hd Y) (itss:=itss) ⟨_,Z,rfl,np,rfl⟩ eq (by simp[y]) (λ i f=>w i (by simpa using f)) (λ e=>m (List.map_eq_nil_iff.mp e)) (by rw[t];exact gz z) λ h' tk l c a U kp=>?_
 exact⟨.ref l,_,I.laid (t':=tk) (o:=.lst (ls.map (·.2)).flatten) kp a ⟨gz z,itss.flatten,c,g,U⟩,rfl,k _ (I.hok.fresh a)⟩
noncomputable def kS (A:Hx):List W->Option (List (List W))
 |[]=>some []|.ref k::us=>match A[k]? with
  |some (.lst ws)=>(kS A us).map (ws::·)|_=>none
 |_::_=>none
def gJ:W->W->Hx->R W:=λ x y A=>match x,y with
 |.ref n,.ref k=>match A[n]?,A[k]? with
  |some (.lst us),some (.lst [])=>match kS A us with
   |some w=>if us≠[]/\w.flatten.length<=zX then .ok (.ref A.length) (A++[.lst w.flatten]) else .bad|none=>.bad
  |_,_=>.bad
 |_,_=>.bad
theorem Hm:∀x y A,qA (gJ x y A):=λ x y A=>by
 unfold gJ
 split
 ·split
  ·split
   ·exact wY jx qN
   ·exact qN
  ·exact qN
 ·exact qN
theorem zJ.app :∀{ws us:List W}{xs ys:List V},zJ K φ H ws xs->zJ K φ H us ys->zJ K φ H (ws++us) (xs++ys)
 |[],_,_,_,h,a=>by cases h;exact a|w::ws,_,_,_,⟨v,r,e,h,t⟩,a=>by subst e;exact⟨v,_,rfl,h,zJ.app t a⟩
theorem V9 (S:zN K φ A H):∀{us:List W}{w:List (List W)}{vs:List V},kS A us=some w->zJ K φ H us vs->∃ls:List (Addr×List V),vs=ls.map (λ l=>V.ref l.1)/\(∀l∈ls,H l.1=some (.lst l.2))/\zJ K φ H w.flatten (ls.map (·.2)).flatten/\ls.length=us.length
 |[],_,_,e,h=>by cases e;cases h;exact⟨[],rfl,λ l a=>(by cases a),rfl,rfl⟩|u::us,w,_,e,⟨v,r,m,h,t⟩=>by
  subst m;cases u with
  |ref k=>
   unfold kS at e;cases E:A[k]? with
   |none=>rw[E]at e;cases e|some o=>cases o with
    |lst ws=>
     rw[E]at e;dsimp only at e;cases b:kS A us with
     |none=>rw[b]at e;cases e|some c=>
      rw[b]at e;cases e;obtain⟨p,xs,rfl,_,f,d⟩:=S.lst h E;obtain⟨ls,rfl,j,i,g⟩:=V9 S b t;refine⟨(p,xs)::ls,rfl,λ l a=>?_,zJ.app d i,by simp[g]⟩
      rcases qa3.mp a with rfl|a
      ·exact f
      ·exact j l a
    |_=>rw[E]at e;cases e
  |_=>cases e
theorem L0:jv K (λ x y=>RI K [x,y]) gJ:=λ φ A H x y u v Q S g q p=>by
 unfold gJ at p;cases u with
 |ref n=>cases v with
  |ref k=>
   dsimp only at p;cases E:A[n]? with
   |none=>rw[E]at p;exact p.elim|some o=>cases o with
    |lst us=>
     cases a:A[k]? with
     |none=>rw[E,a]at p;exact p.elim|some j=>cases j with
      |lst zs=>cases zs with
       |nil=>
        rw[E,a]at p;dsimp only at p;cases b:kS A us with
        |none=>rw[b]at p;exact p.elim|some w=>
         rw[b]at p;dsimp only at p
         by_cases h:us≠[]/\w.flatten.length<=zX
         ·rw[af h]at p
          obtain⟨i,xs,rfl,_,s,f⟩:=S.lst g E;obtain⟨P,ys,rfl,_,m,r⟩:=S.lst q a;cases r;obtain⟨ls,rfl,z,d,c⟩:=V9 S b f;refine⟨i,P,ls,rfl,s,m,z,λ e=>?_,by rw[<- d.length];exact h.2,λ l t=>?_⟩
          ·rw[e]at c
           exact h.1 (List.length_eq_zero_iff.mp c.symm)
          ·obtain⟨a1,a2,B⟩:=Z1 S t d
           exact p _ _ _ a1 a2 B
         ·rw[aj h]at p;exact p.elim
       |cons _ _=>rw[E,a]at p;exact p.elim
      |_=>rw[E,a]at p;exact p.elim
    |_=>rw[E]at p;exact p.elim
  |_=>exact p.elim
 |_=>cases v<;>exact p.elim
variable {a b:Expr}{ma mb:Ev}
def Ey (t:TA):TE:=λ σ H Q=>t σ H λ vs H1=>∃i j:Int,vs=[.int i,.int j]/\∀p,H1 p=none->Q (.ref p) (upd H1 p (.rng i j))
theorem Ll {T:TA}(g:Gl X "range")(hm:X.mg "range" = none)(l:PA X [a,b] T)(f:starEach [a,b] X.env=[(false,eval a X.env),(false,eval b X.env)])(c:starEach [b] X.env=[(false,eval b X.env)]):PE X (.Call (.Name "range" p) [a,b] [] pos) (Ey T):=by
 intro pins s σ H Q I h;refine Call_ (Zk I g hm boot_range (PyProof.Rows.callWith_type1 (zU (l pos pins s σ H _ I h) λ us s1 ⟨vs,H1,d,r,e⟩=>?_) (by rw[f,c]) (by rw[c];rfl)))
 obtain⟨i,j,rfl,q⟩:=e;obtain⟨u,v,rfl,⟨t,rfl⟩,⟨m,rfl⟩⟩:=Vals.two r;refine call_range_2 ⟨.ref _,_,d.laid (o:=.rng i j) (λ b o E=>ae _ E) (ar _) ?_,rfl,q _ (d.hok.fresh (ar _))⟩;exact⟨_,_,_,au _ rfl⟩
noncomputable def Z6 (lo:Int)(n:Nat):List V:=(List.range n).map λ (i:Nat)=>V.int (lo+i)
theorem O4 (A:X.calm=true):jK X (.type "list") (λ xs H Q=>∃(r:Addr) (i j:Int),xs=[.ref r]/\H r=some (.rng i j)/\(-(2 ^ 62)<=i/\i<2 ^ 62)/\(-(2 ^ 62)<=j/\j<2 ^ 62)/\(j - i).toNat<=sizeLine/\∀l,H l=none->Q (.ref l) (upd H l (.lst (Z6 i (j - i).toNat)))):=by
 intro pins s σ H xs us Q I r h;obtain⟨p,i,j,rfl,x,⟨a1,a2⟩,⟨D,B⟩,z,q⟩:=h;obtain⟨u,rfl,g⟩:=vals1 r;cases g;obtain⟨t1,T,t3,y⟩:=I.hok p _ x;have E:sizeLine=16777216:=sizeLine_eq;refine PySem.call_list_range (n:=(j - i).toNat) (I.ok.hd A) (show IsRange s.heap p i j 1 t1 T t3 from y) (small_one (by omega) (by omega) D B) (by rw[rangeSize_one];split<;>omega) (by omega) λ h' tk acc C K S ⟨hn,d⟩=>?_
 refine⟨.ref s.heap.objs.size,_,I.laid (t':=tk) (o:=.lst (Z6 i (j - i).toNat)) K (ar _) ?_,rfl,q _ (I.hok.fresh (ar _))⟩;refine⟨by unfold Z6;simpa using z,acc.toList,C,?_,by simpa using S⟩
 have a:∀(l:List Value)(k:Nat),(∀(m:Nat) v,l[m]? =some v->∃t,v=.int (i+((k+m:Nat):Int)) t)->Vals ((List.range' k l.length).map λ (m:Nat)=>V.int (i+(m:Int))) l:=by
  intro l
  induction l with
  |nil=>intro k _;exact .nil|cons v l w=>
   intro k e;rw[bc,range'_succ,aO];refine .cons ?_ (w (k+1) λ m f a=>?_)
   ·obtain⟨t,rfl⟩:=e 0 v rfl
    exact⟨t,rfl⟩
   ·obtain⟨t,rfl⟩:=e (m+1) f (by simpa using a)
    exact⟨t,by first|rfl | (congr 1<;>omega) | (simp;omega)⟩
 have b:acc.toList.length=(j - i).toNat:=by simpa using hn
 have:=a acc.toList 0 λ m v c=>by
  obtain⟨t,rfl⟩:=d m v (by simpa using c)
  exact⟨t,by first|rfl | (congr 1<;>omega) | (simp;omega)⟩
 rw[b]at this;unfold Z6;rw[range_eq_range'];exact this
def JK (ma mb:Ev):Ev:=λ ρ A=>(ma ρ A).bind λ x A1=>(mb ρ A1).bind λ y A2=>match x,y with
 |.int i,.int j=>if jo i&&(jo j&&decide ((j - i).toNat<=zX)) then .ok (.ref A2.length) (A2++[.lst ((List.range (j - i).toNat).map λ (k:Nat)=>W.int (i+k))]) else .bad|_,_=>.bad
end
noncomputable def Kl (_ j:Int):Bool:=decide (0<j)&&decide (j<1152921504606846976)
def RL (i j:Int):Prop:=0<j/\j<1152921504606846976
theorem Ii (i j:Int)(h:Kl i j=true):RL i j:=by
 unfold Kl at h;rw[ao]at h;exact⟨of_decide_eq_true h.1,of_decide_eq_true h.2⟩
theorem Iu :qu X (binaryOp .FloorDiv) (rI RL λ i j=>.int (i / j)):=K2 λ i j _ _ _ _ _ h q=>by
 have a:(0:Int)<j:=h.1;have H:j<1152921504606846976:=h.2;refine floordiv_int (by omega) (by rw[Int.fdiv_eq_ediv_of_nonneg i (by omega)];exact q) (.inl (PyProof.noPylong_of_log2 ?_))
 have h0:j.natAbs≠0:=by omega
 have:j.natAbs.log2<60:=(Nat.log2_lt h0).mpr (by omega)
 omega
def kT:=gU Kl λ i j=>.int (i / j)
theorem NG (t:Tok)(l:Addr)(o:Option Addr)(items:Array Value)(n:Nat)(S:Array (Option Value)):
  Meets (Builtin.«tuple.__mul__» ⟨[.ref l,.int 1 t],[]⟩) (λ _ R s=>s.heap.get? l=some ⟨.type "tuple",o,.seq items n,S⟩/\R (.ok (.ret (.ref l))) s):=
 .of_wp λ prog w A R s h=>by
  obtain⟨H,g,d,tk,os⟩:=s;obtain⟨a,h⟩:=h;have E:((1:Int)==1)=true:=rfl;have e:(decide ((1:Int) < -2 ^ 63) || decide ((1:Int) ≥ 2 ^ 63))=false:=by decide
  wp_walk
  exact⟨_,rfl,h⟩
section
variable {K:Frag}
def G9 (K:Frag):R2:=λ x y H Q=>(∃l xs,x=.ref l/\y=.int 1/\qi K H l xs/\Q (.ref l) H)∨GS K x y H Q
theorem FT:qu X (binaryOp .Mult) (G9 X.K):=by
 intro pins s σ H x y v u Q I b a h;rcases h with ⟨l,xs,rfl,rfl,f,q⟩|h
 ·cases b
  obtain⟨t,rfl⟩:=a;obtain⟨i,r,p,_⟩:=I.tuple f;obtain⟨⟨cls,d,data,S⟩,o,c,n,hd⟩:=id p;simp only at c hd;subst c hd;refine wpAny_binaryOp_repeat_ref (T := "tuple") (U := "int") (by decide) ⟨_,o,rfl⟩ (λ e=>typeIs_int e 1 t) Wd F.fills_int_mul F.slot_int_rmul Ww F.slot_int_index.lookup
   (call_meets F.slot_int_rmul (typeIs_int s 1 t) F.entry_int_rmul (F.args_int_rmul_2 _ _) (WD 1 t l d i.toArray n S)
    ⟨o,rfl,⟨_,o,rfl⟩,call_meets F.slot_tuple_mul ⟨_,o,rfl⟩ F.entry_tuple_mul (F.args_tuple_mul_2 _ _) (NG t l d i.toArray n S) ⟨o,?_⟩⟩)
  exact⟨.ref l,H,I,rfl,q⟩
 ·exact HR pins s σ H x y v u Q I b a h
noncomputable def G3:W->W->Hx->R W:=λ x y A=>match x,y with
 |.tup xs,.int k=>if decide (1<=k)&&(decide (k<1000)&&(decide (0<xs.length)&&decide (xs.length<1000))) then .ok (.tup (List.replicate k.toNat xs).flatten) A else .bad|_,_=>.bad
theorem IV:jv K (G9 K) G3:=λ φ A H x y u v Q S q b p=>by
 cases u with
 |tup xs=>cases v with
  |int j=>
   unfold G3 at p;dsimp only at p
   by_cases h:(decide (1<=j)&&(decide (j<1000)&&(decide (0<xs.length)&&decide (xs.length<1000))))=true
   ·rw[af h]at p
    simp only[ao,ag]at h
    by_cases h1:j=1
    ·subst h1
     obtain⟨a1,a,rfl,t1,r⟩:=id q;obtain rfl:=b;refine .inl ⟨a1,a,rfl,rfl,t1,?_⟩;have e:(List.replicate (1:Int).toNat xs).flatten=xs:=by simp
     rw[e]at p;exact p _ _ _ Le.refl S q
    ·refine .inr (Lx φ A H x y (.tup xs) (.int j) Q S q b ?_)
     unfold GX;dsimp only;rw[af (by simp only[ao,ag];exact⟨by omega,h.2⟩)]
     exact p
   ·rw[aj h]at p;exact p.elim
  |_=>exact p.elim
 |_=>cases v<;>exact p.elim
end
open Classical in
open Classical in
noncomputable def Cz (K:Frag)(n:Nat)(t:gX):TG:=λ v σ H Q=>∃a xs,v=.ref a/\qL K H a xs/\xs.length=n/\t xs σ H Q
section
theorem Eo {E:List Expr}{k:Nat}{t:gX}(f:X.calm=true)(h:J8 X E t)
  (hn:(assignEach E X.env).length=n:=by rfl)(c:(assignEach E X.env).findIdx? (·.1)=none:=by rfl):PG X (.Tuple E k pos) (Cz X.K n t):=by
 intro pins s σ H v u Q I r hw;obtain⟨a,xs,g,q,l,hw⟩:=hw;subst g;cases r;obtain⟨i,d,p,m⟩:=I.list q;rw[assign_Tuple];refine qa0 (wpAny_standAt ?_);unfold unpack;have z:(assignEach E X.env).length=i.toArray.size:=by simp[hn,<- l,d.length]
 rw[z,c];refine qa0 (wpAny_holding (PySem.W.kun_itemsOf (I.ok.hd f) p.isList λ h' x=>?_));have j:Inv X pins σ H { s with heap:=h' }:=I.kept (t':=s.toks) λ b o e=>x b o (aM (aH e)) e
 exact h pins _ σ H xs _ Q j (by simpa using d) hw
noncomputable def J2 (i j k:Nat)(m:Ev):Ex:=λ ρ A=>(m ρ A).bind λ w A1=>match w with
 |.ref n=>match A1[n]? with
  |some (.lst [x,y,z])=>.ok (.nx (((ρ.set i (some x)).set j (some y)).set k (some z))) A1|_=>.bad
 |_=>.bad
theorem Sl {j k:Nat}{x y z:W}(h:m ρ A=.ok (.ref n) A1)(hn:A1[n]? =some (.lst [x,y,z])):J2 i j k m ρ A=.ok (.nx (((ρ.set i (some x)).set j (some y)).set k (some z))) A1:=by
 unfold J2;rw[h,zM];dsimp only;rw[hn]
end
end Mi
namespace PySem.SeqAt
open PySem
end PySem.SeqAt
namespace Mi
open PySem PySem.Spec PyProof.Rows L2
noncomputable def G0 (i j k l:Nat):Tg:=λ w ρ=>match w with
 |.tup [x,y,z,u]=>some ((((ρ.set i (some x)).set j (some y)).set k (some z)).set l (some u))|_=>none
theorem Nw (t:Tok)(l:Addr)(o:Option Addr)(items:Array Value)(n:Nat)(S:Array (Option Value))(i:0<items.size):
  Meets (Builtin.«tuple.__mul__» ⟨[.ref l,.int 0 t],[]⟩) (λ _ R s=>s.heap.get? l=some ⟨.type "tuple",o,.seq items n,S⟩/\R (.ok (.ret (.ref s.heap.objs.size))) { s with heap:=s.heap.push { cls:=.type "tuple",data:=.seq #[] } }):=
 .of_wp λ prog w A R s h=>by
  obtain⟨H,g,d,tk,os⟩:=s;obtain⟨a,h⟩:=h;have e0:items.isEmpty=false:=by
   cases he:items.isEmpty with
   |false=>rfl|true=>rw[Array.isEmpty_iff_size_eq_zero]at he;omega
  have b:((0:Int)==1)=false:=rfl;have E:(decide ((0:Int) < -2 ^ 63) || decide ((0:Int) ≥ 2 ^ 63))=false:=by decide
  have e:decide ((0:Int)<=0)=true:=by decide
  wp_walk
  exact⟨_,rfl,h⟩
section
variable {K:Frag}{b:Expr}
def RQ (K:Frag):R2:=λ x y H Q=>(∃l xs,x=.ref l/\y=.int 0/\qi K H l xs/\0<xs.length/\∀p,H p=none->Q (.ref p) (upd H p (.tup [])))∨G9 K x y H Q
theorem HQ:qu X (binaryOp .Mult) (RQ X.K):=by
 intro pins s σ H x y v u Q I d c h;rcases h with ⟨l,xs,rfl,rfl,g,j,q⟩|h
 ·cases d
  obtain⟨t,rfl⟩:=c;obtain⟨i,r,p,_⟩:=I.tuple g;obtain⟨⟨cls,D,data,S⟩,a,e,n,hd⟩:=id p;simp only at e hd;subst e hd;have hlen:=r.length;refine wpAny_binaryOp_repeat_ref (T := "tuple") (U := "int") (by decide) ⟨_,a,rfl⟩ (λ f=>typeIs_int f 0 t) Wd F.fills_int_mul F.slot_int_rmul Ww F.slot_int_index.lookup
   (call_meets F.slot_int_rmul (typeIs_int s 0 t) F.entry_int_rmul (F.args_int_rmul_2 _ _) (WD 0 t l D i.toArray n S)
    ⟨a,rfl,⟨_,a,rfl⟩,call_meets F.slot_tuple_mul ⟨_,a,rfl⟩ F.entry_tuple_mul (F.args_tuple_mul_2 _ _) (Nw t l D i.toArray n S (by rw[aB];omega)) ⟨a,?_⟩⟩)
  refine⟨.ref s.heap.objs.size,_,I.laid (t':=s.toks) (o:=.tup []) (λ b ob q=>ae _ q) (ar _) ?_,rfl,q _ (I.hok.fresh (ar _))⟩;refine⟨zero_le _,[],?_,gF.new _ _⟩;exact r.rep 0
 ·exact FT pins s σ H x y v u Q I d c h
noncomputable def Zu:W->W->Hx->R W:=λ x y A=>match x,y with
 |.tup xs,.int k=>if decide (0<=k)&&(decide (k<1000)&&(decide (0<xs.length)&&decide (xs.length<1000))) then .ok (.tup (List.replicate k.toNat xs).flatten) A else .bad|_,_=>.bad
theorem FO:∀x y A,qA (Zu x y A):=λ x y A=>by
 unfold Zu
 split
 ·exact wY jx qN
 ·exact qN
theorem Iv:jv K (RQ K) Zu:=λ φ A H x y u v Q S b q p=>by
 cases u with
 |tup xs=>cases v with
  |int j=>
   unfold Zu at p;dsimp only at p
   by_cases h:(decide (0<=j)&&(decide (j<1000)&&(decide (0<xs.length)&&decide (xs.length<1000))))=true
   ·rw[af h]at p
    simp only[ao,ag]at h
    by_cases h1:j=0
    ·subst h1
     obtain⟨a1,a,rfl,t1,r⟩:=id b;obtain rfl:=q;refine .inl ⟨a1,a,rfl,rfl,t1,by rw[<- r.length];exact h.2.2.1,λ l c=>?_⟩
     obtain⟨e,d,C⟩:=Zj S c (r.rep 0);exact p _ _ _ e d C
    ·refine .inr (IV φ A H x y (.tup xs) (.int j) Q S b q ?_)
     unfold G3;dsimp only;rw[af (by simp only[ao,ag];exact⟨by omega,h.2⟩)]
     exact p
   ·rw[aj h]at p;exact p.elim
  |_=>exact p.elim
 |_=>cases v<;>exact p.elim
end
open PySem PySem.Spec PyProof.Rows L2 Mi
@[irreducible] noncomputable def XC (X:Cx)(x:XR)(e:List Expr)(ms:List Ev):Prop:=Mi.SJ X x e ms
theorem Dr:@XC=@Mi.SJ:=by
 funext X xr es ms
 unfold XC
 rfl
section
theorem gD:@zC=@Mi.SE/\@gj=@Mi.SA/\@yh=@Mi.ST/\@wI=@Mi.SW/\@yD=@Mi.SS/\@kF=@Mi.KR/\@kq=@Mi.SI/\@km=@Mi.SG/\@ZF=@Mi.SF/\@kZ=@Mi.SQ/\@gf=@Mi.KL/\@wJ=@Mi.SM/\@XC=@Mi.SJ:=⟨SV,SR,Rn,SY,Rc,SD,SU,Rj,SX,SO,TF,SN,Dr⟩
theorem Gz {x:XR}(he:zC X x e m)(g:km X tg tw)(f:swapsWithSole [tg] e pos.line X.env=pure false:=by rfl)(hw:swappedStores [tg] e X.env=pure none:=by rfl)(a:(assignEach [tg] X.env).map (·.2)=[assign tg X.env]:=by rfl):yD X x (.Assign [tg] e pos) (Zw m tw):=by
 try simp only[gD]at*
 exact PS.imp (GI he g f hw a) λ D σ H ⟨φ,A,ρ,S,re,h⟩=>by
   refine tM.go S re (zZ.mp h) λ w A1 b H1 v a l s q=>?_;cases E:tw w ρ with
   |none=>rw[E]at a;exact a.elim|some d=>
    rw[E]at a;exact⟨b,A1,ρ,w,d,s,re.mono l,q,E,λ c r=>a b H1 c l s r⟩
end
theorem N8 {r:XR}{a:Expr}{b:Expr}{ma:Ev}{mb:Ev}{k:Nat}(l:jy k X.A)(o:zC X r a ma)(he:zC X r b mb)(s:starEach [b] X.env=(false,eval b X.env)::starEach [] X.env:=by rfl)
  (e:attributeBase a "index" X.env (eval a X.env)=eval a X.env:=by rfl)
  (w:((backTo cpos (starEach [b] X.env)).all (λ x=>!x.1)&&(backToKw cpos (keywordEach [] X.env)).all (λ x=>x.1.isSome)
   && decide ([b].length+([]:List Keyword).length+(if ([]:List Keyword).isEmpty then 0 else 1)<30))=true:=by rfl)(h:(apos.endLine==cpos.line)=true:=by rfl):
  zC X r (.Call (.Attribute a "index" apos) [b] [] cpos) (yR wZ ma mb):=by
 try simp only[gD]at*
 exact G5 PySem.F.slot_list_index PySem.F.type_list_index (MH l.units) LO (λ φ A H x y u v Q S i q p=>by
   unfold wZ at p;cases E:qe A 8 u with
   |none=>rw[E]at p;exact p.elim|some D=>
    cases g:qe A 8 v with
    |none=>
     rw[E,g]at p;cases D<;>exact p.elim
    |some d=>
     rw[E,g]at p;cases D with
     |list ds=>
      dsimp only at p;cases f:gc (λ z=>PyData.eqv z d) ds with
      |none=>rw[f]at p;exact p.elim|some j=>
       rw[f]at p;dsimp only at p
       by_cases c:j<1000000
       ·rw[af c]at p
        exact⟨φ,A,u,v,y,d,ds,j,rfl,S,i,q,E,g,f,c,p φ H _ .refl S rfl⟩
       ·rw[aj c]at p;exact p.elim
     |_=>exact p.elim) o he s e w h
theorem Nm {x:XR}{P pos':Pos}(C:X.calm=true)(hm:X.mg "sorted" = none)(d:X.mg "set" = none)(U:zC X x e m)(T:Gl X "sorted" := by rfl)(g:Gl X "set" := by rfl)(z:starEach [e] X.env=(false,eval e X.env)::starEach [] X.env:=by rfl)
  (c:starEach [.Call (.Name "set" P) [e] [] pos'] X.env=(false,eval (.Call (.Name "set" P) [e] [] pos') X.env)::starEach [] X.env:=by rfl):
  zC X x (.Call (.Name "sorted" p) [.Call (.Name "set" P) [e] [] pos'] [] pos) (YN m):=by
 try simp only[gD]at*
 exact PE.imp (Jy (ON C) T hm (by rfl) (jA (Qy (Mv C) g d (by rfl) (jA U j3 z) (by decide) (by decide) z (by rfl)) j3 c) (by decide) (by decide) c (by rfl)) λ σ H Q ⟨φ,A,ρ,S,re,h⟩=>by
   refine tM.go S re (zZ.mp h) λ w A1 b H1 v a M t I=>?_;cases w with
   |ref n=>
    unfold W3 at a;dsimp only at a;cases E:A1[n]? with
    |none=>rw[E]at a;exact a.elim|some u=>cases u with
     |lst ws=>
      rw[E]at a;dsimp only at a;obtain⟨y,ys,rfl,Z,eH,D⟩:=t.lst I E;cases j:intsOf ws with
      |none=>rw[j]at a;exact a.elim|some is=>
       rw[j]at a;dsimp only at a;have ew:=WY j;subst ew;have ev:=zJ.ints.mp D;subst ev;cases s:Zo is with
       |none=>rw[s]at a;exact a.elim|some vs=>
        rw[s]at a;dsimp only at a;obtain⟨e3,Y⟩:=UZ s;have q:H1 y=some (.lst (vs.map λ (v:Nat)=>V.int (v:Int))):=by rw[eH,e3,aP];rfl
        refine⟨y,vs,rfl,qL.of q,Y,λ l B=>⟨l,vs.foldl jY 0,rfl,jN,λ J f=>?_⟩⟩;have ln:Le X.K b H1 b (upd H1 l (.ext λ h=>jX h l (jl X.w) (vs.foldl jY 0))):=Le.new B;have S2:=t.lay (u:=.ext λ h=>jX h l (jl X.w) (vs.foldl jY 0)) B;have r:∀(ψ:List Addr)(G:Hp),zJ X.K ψ G (((List.range 8).filter λ i=>decide (i∈vs)).map λ (i:Nat)=>W.int (i:Int)) ((zW (vs.foldl jY 0)).map λ (v:Nat)=>V.int (v:Int)):=λ ψ G=>by
         rw[Mh];have e4:∀l:List Nat,zJ X.K ψ G (l.map λ (i:Nat)=>W.int (i:Int)) (l.map λ (v:Nat)=>V.int (v:Int)):=λ l=>by
          induction l with
          |nil=>rfl|cons i l N=>exact⟨_,_,rfl,rfl,N⟩
         exact e4 _
        obtain⟨L,S3⟩:=S2.alloc (o:=.lst (((List.range 8).filter λ i=>decide (i∈vs)).map λ (i:Nat)=>W.int (i:Int))) f (u:=.lst ((zW (vs.foldl jY 0)).map λ (v:Nat)=>V.int (v:Int))) ⟨_,jN,r _ _⟩;exact a _ _ _ (M.trans (ln.trans L)) S3 ⟨J,rfl,by rw[<- t.len];simp⟩
     |_=>rw[E]at a;exact a.elim
   |_=>exact a.elim
theorem LU {x:XR}{a:Expr}{b:Expr}{ma:Ev}{mb:Ev}(c:X.calm=true)(hm:X.mg "sum" = none)(e:zC X x a ma)(d:zC X x b mb)(H:Gl X "sum" := by rfl)(g:starEach [a,b] X.env=(false,eval a X.env)::starEach [b] X.env:=by rfl)
  (f:starEach [b] X.env=(false,eval b X.env)::starEach [] X.env:=by rfl)(h:(backTo pos (starEach [b] X.env)).any (·.1)=false:=by rfl):
  zC X x (.Call (.Name "sum" p) [a,b] [] pos) (zl gJ ma mb):=by
 try simp only[gD]at*
 exact GR (N0 c) Hm L0 hm (by rfl) e d H (by decide) (by decide) g f h
theorem NX {x:XR}{a:Expr}{b:Expr}{ma:Ev}{mb:Ev}{P pos':Pos}(I:X.calm=true)(hm:X.mg "list" = none)(n:X.mg "range" = none)(M:zC X x a ma)(J:zC X x b mb)(E:Gl X "list" := by rfl)(o:Gl X "range" := by rfl)(s:starEach [a,b] X.env=[(false,eval a X.env),(false,eval b X.env)]:=by rfl)(d:starEach [b] X.env=[(false,eval b X.env)]:=by rfl)
  (g:starEach [.Call (.Name "range" P) [a,b] [] pos'] X.env=(false,eval (.Call (.Name "range" P) [a,b] [] pos') X.env)::starEach [] X.env:=by rfl):
  zC X x (.Call (.Name "list" p) [.Call (.Name "range" P) [a,b] [] pos'] [] pos) (JK ma mb):=by
 try simp only[gD]at*
 exact PE.imp (Qy (O4 I) E hm (by rfl) (jA (Ll o n (jA M (jA J j3 (by rw[d];rfl)) (by rw[s,d])) s d) j3 g) (by decide) (by decide) g (by rfl)) λ σ H Q ⟨φ,A,ρ,S,re,h⟩=>by
   refine tM.go S re (zZ.mp h) λ w A1 r H1 v N L S1 B=>?_;refine tM.go S1 (re.mono L) (qm (zZ.mp N) (λ _ _ z=>z) λ _ _ z=>z.mono L) λ t A2 c m v2 e C Z y=>?_;cases w with
   |int i=>
    obtain rfl:=B;cases t with
    |int j=>
     obtain rfl:=y;dsimp only at e
     by_cases f:(jo i&&(jo j&&decide ((j - i).toNat<=zX)))=true
     ·rw[af f]at e
      rw[ao,ao,ag]at f;refine⟨i,j,rfl,λ p q=>⟨p,i,j,rfl,jN,Qw f.1,Qw f.2.1,gz f.2.2,λ l D=>?_⟩⟩;have ln:Le X.K c m c (upd m p (.rng i j)):=Le.new q;have u:zJ X.K c (upd m p (.rng i j)) ((List.range (j - i).toNat).map λ (k:Nat)=>W.int (i+k)) (Z6 i (j - i).toNat):=by
       have:=(zJ.ints (K:=X.K) (φ:=c) (H:=upd m p (.rng i j)) (ns:=(List.range (j - i).toNat).map λ (k:Nat)=>(i+(k:Int))) (vs:=Z6 i (j - i).toNat)).mpr (by unfold Z6;simp)
       rw[aP]at this;exact this
      obtain⟨Y,U,T⟩:=Z1 (Z.lay q) D u;exact e _ _ _ (((L.trans C).trans ln).trans Y) U T
     ·rw[aj f]at e;exact e.elim
    |_=>exact e.elim
   |_=>exact e.elim
theorem ZT {x:XR}{a b:Expr}{ma mb:Ev}(H:zC X x a ma)(h:zC X x b mb):zC X x (.BinOp a .FloorDiv b pos) (zl kT ma mb):=by
 try simp only[gD]at*
 exact Zh Iu GV (GN Ii λ _ _ _ _=>rfl) H h
theorem TV {C:XR}(i j k:Nat){y z:Str}{q r pp:Pos}(hc:X.calm=true)(s:X.N.Nodup)(he:zC X C e m)(Z:X.N[i]? =some x:=by rfl)(P:Loc X.env.scope x:=by first|exact Or.inl rfl|exact Or.inr rfl)(hf:X.fn x=true∨X.env.scope.names.lookup x=some .local:=by first|exact .inl rfl|exact .inr rfl)
  (Y:X.N[j]? =some y:=by rfl)(M:Loc X.env.scope y:=by first|exact Or.inl rfl|exact Or.inr rfl)(hg:X.fn y=true∨X.env.scope.names.lookup y=some .local:=by first|exact .inl rfl|exact .inr rfl)
  (U:X.N[k]? =some z:=by rfl)(K:Loc X.env.scope z:=by first|exact Or.inl rfl|exact Or.inr rfl)(hh:X.fn z=true∨X.env.scope.names.lookup z=some .local:=by first|exact .inl rfl|exact .inr rfl)
  (T:swapsWithSole [.Tuple [.Name x p,.Name y q,.Name z r] n pp] e pos.line X.env=pure false:=by rfl)(hw:swappedStores [.Tuple [.Name x p,.Name y q,.Name z r] n pp] e X.env=pure none:=by rfl)
  (d:(assignEach [.Tuple [.Name x p,.Name y q,.Name z r] n pp] X.env).map (·.2)=[assign (.Tuple [.Name x p,.Name y q,.Name z r] n pp) X.env]:=by rfl):
  yD X C (.Assign [.Tuple [.Name x p,.Name y q,.Name z r] n pp] e pos) (J2 i j k m):=by
 try simp only[gD]at*
 exact PS.imp (GI he (Eo hc (kA (kD s Z P hf) (kA (kD s Y M hg) (kA (kD s U K hh) JC)))) T hw d) λ D σ H ⟨φ,A,ρ,S,re,h⟩=>by
   refine tM.go S re (zZ.mp h) λ w A1 g H1 v d L I Q=>?_;cases w with
   |ref n=>
    dsimp only at d;cases E:A1[n]? with
    |none=>rw[E]at d;exact d.elim|some o=>
     rw[E]at d
     split at d
     ·rename_i o' a b c eo
      cases eo;obtain⟨l,xs,rfl,f1,g1,J⟩:=I.lst Q E;obtain⟨v1,r',rfl,B,v2,r2,rfl,u,f,r3,rfl,t,rfl⟩:=J;exact⟨l,[v1,v2,f],rfl,.of g1,rfl,v1,[v2,f],rfl,v2,[f],rfl,f,[],rfl,rfl,d g H1 _ L I ((((re.mono L).set B).set u).set t)⟩
     ·exact d.elim
   |_=>exact d.elim
theorem IJ (i j k l:Nat){y z u:Str}{q r t:Pos}(L:X.calm=true)(h:X.N.Nodup)(E:X.N[i]? =some x:=by rfl)(m:Loc X.env.scope x:=by first|exact Or.inl rfl|exact Or.inr rfl)(hf:X.fn x=true∨X.env.scope.names.lookup x=some .local:=by first|exact .inl rfl|exact .inr rfl)
  (D:X.N[j]? =some y:=by rfl)(g:Loc X.env.scope y:=by first|exact Or.inl rfl|exact Or.inr rfl)(J:X.fn y=true∨X.env.scope.names.lookup y=some .local:=by first|exact .inl rfl|exact .inr rfl)
  (C:X.N[k]? =some z:=by rfl)(f:Loc X.env.scope z:=by first|exact Or.inl rfl|exact Or.inr rfl)(I:X.fn z=true∨X.env.scope.names.lookup z=some .local:=by first|exact .inl rfl|exact .inr rfl)
  (B:X.N[l]? =some u:=by rfl)(o:Loc X.env.scope u:=by first|exact Or.inl rfl|exact Or.inr rfl)(hd:X.fn u=true∨X.env.scope.names.lookup u=some .local:=by first|exact .inl rfl|exact .inr rfl):
  km X (.Tuple [.Name x p,.Name y q,.Name z r,.Name u t] n pos) (G0 i j k l):=by
 try simp only[gD]at*
 exact PG.imp (Kc L (kA (kD h E m hf) (kA (kD h D g J) (kA (kD h C f I) (kA (kD h B o hd) JC))))) λ v σ H Q ⟨φ,A,ρ,w,c,S,re,d,e,K⟩=>by
   unfold G0 at e
   split at e
   ·rename_i x1 y1 Z u1
    have Y:=az e;subst Y;obtain⟨a,vs,rfl,s,rs⟩:=d;obtain⟨v1,r1,rfl,U,v2,r2,rfl,T,b,r3,rfl,P,v4,r4,rfl,M,rfl⟩:=rs;exact⟨a,[v1,v2,b,v4],rfl,s,rfl,v1,[v2,b,v4],rfl,v2,[b,v4],rfl,b,[v4],rfl,v4,[],rfl,rfl,K _ ((((re.set U).set T).set P).set M)⟩
   ·cases e
theorem Ic {x:XR}{a b:Expr}{ma mb:Ev}(H:zC X x a ma)(h:zC X x b mb):zC X x (.BinOp a .Mult b pos) (zl Zu ma mb):=by
 try simp only[gD]at*
 exact Zh HQ FO Iv H h
end Mi
namespace Mi
open PySem PySem.Spec PyProof.Rows L2
theorem zI.up {K:Frag}{j k:Nat}{f:Fn}(F:zI P w K mg base j x n f)(h:j<=k:=by decide):zI P w K mg base k x n f:=F.mono h
section
variable {C:List Value->Prop}
theorem yi (h:∀a,C [a]):∀us:List Value,us.length=1->C us
 |[a],_=>h a
theorem ky (h:∀a b,C [a,b]):∀us:List Value,us.length=2->C us
 |[a,b],_=>h a b
theorem gT (h:∀a b c,C [a,b,c]):∀us:List Value,us.length=3->C us
 |[a,b,c],_=>h a b c
theorem Bl (h:∀a b c d,C [a,b,c,d]):∀us:List Value,us.length=4->C us
 |[a,b,c,d],_=>h a b c d
end
theorem qz {l:List Str}(h:decide l.Nodup=true):l.Nodup:=of_decide_eq_true h
noncomputable def Pf (N P:List Str)(sc:Scope):Bool:=decide (sc.kind=.function)&&(!sc.isCoroutine&&(!sc.isGenerator&&(decide N.Nodup&&(decide (N.take P.length=P)&&(P.all (λ x=>decide (sc.names.lookup x=some .local) || decide (sc.names.lookup x=some .cell))&&sc.names.all λ y=>!decide (y.2=.free))))))
theorem qG {P:List Str}(h:Pf N P sc=true):qo N P sc:=by
 unfold Pf at h;simp only[ao,ag,Bool.not_eq_true',bp,bt,decide_eq_false_iff_not]at h;obtain⟨g,f,e,d,c,b,a⟩:=h;exact⟨g,f,e,d,c,b,λ y H=>a y H⟩
section
variable {xr:XR}
theorem qO {iter:Expr}{m:Ev}{em:Em}(nl:Nat)(cap:List Nat)(hw:kq X xr tg iter mi)
  (n:∀s H fp,km (ju X N sc s H fp j8) tg tw/\gf (ju X N sc s H fp j8) ifs m/\wJ (ju X N sc s H fp j8) elt (⟨tg,iter,ifs,0⟩::gs) sc pos 0 em)
  (c:X.calm=true:=by rfl)(S:wW X sc:=by exact cps (by kernel_rfl))(p:Zq X.N N sc nl cap=true:=by kernel_rfl)
  (b:∀g',gs[0]? =some g'->g'.is_async=0:=by intro _ h;cases h<;>rfl)
  (a:∀x,foldedSetIterable iter X.env x=pure x:=by intro _;rfl):ZF X xr (.ListComp elt (⟨tg,iter,ifs,0⟩::gs) sc pos) (zV nl cap mi tw m em):=IT nl cap c S p hw n b a
theorem qI {d:Nat}(he:zC X ko elt me)(h:∀e s,X.xe e s->False:=by exactλ _ _ z=>z)(H:gens[d+1]? =none:=by rfl):wJ X elt gens sc pos d (zP me):=HI h he H
end
end Mi
namespace G
open PySem L2 Mi
noncomputable def top (i:Nat):Stmt:=PySem.Challenge.pw_nearkinds_k07_whole_steady_tables.main.body.getD i (.Pass ⟨0,0,0,0⟩)
structure Bu (mg:Str->Option Value):Prop where
 G4:mg "abs" = none
 Km:mg "all" = none
 Ek:mg "bool" = none
 ZN:mg "enumerate" = none
 QW:mg "int" = none
 Yk:mg "isinstance" = none
 yU:mg "len" = none
 JM:mg "list" = none
 QV:mg "max" = none
 GQ:mg "min" = none
 ji:mg "range" = none
 D2:mg "set" = none
 L3:mg "sorted" = none
 Kg:mg "sum" = none
 kP:mg "tuple" = none
 Kh:mg "zip" = none
 Oo:∃t,mg "MOST_PLACES" = some (.int 8 t)
 OH:∃t,mg "MOST_TIMES" = some (.int 8 t)
abbrev Us:Stmt:=top 1
theorem Na:qo ["thing"] ["thing"] (qc Us):=qG (by kernel_rfl)
def Ux:Ex:=zr (zT (jz (Qi .int (zc 0)) (yu (Qi .bl (zc 0))))) zx
abbrev X1:Stmt:=top 2
theorem PM:qo ["thing","limit"] ["thing","limit"] (qc X1):=qG (by kernel_rfl)
def X4 (w:Fn):Ex:=zr (zT (jz (zw w (zh (zc 0) zq)) (yc gk ZD (zj (.int 0)) (zc 0) (zc 1)))) zx
abbrev VY:Stmt:=top 3
theorem OW:qo ["thing","many"] ["thing","many"] (qc VY):=qG (by kernel_rfl)
def VX (w:Fn):Ex:=zr (zT (jz (Qi .tup (zc 0)) (jz (zl qM (mQ qK (qb (zc 0))) (zc 1)) (mQ Q3 (zV 1 [] (qF (zc 0)) (zR 0) (zj (.bl true)) (zP (zw w (zh (zc 0) zq)))))))) zx
abbrev XU:Stmt:=top 4
theorem PL:qo ["thing","many","limit"] ["thing","many","limit"] (qc XU):=qG (by kernel_rfl)
def K6 (J:Fn):Ex:=zr (zT (jz (zw J (zh (zc 0) (zh (zc 1) zq))) (mQ Q3 (zV 1 [2] (qF (zc 0)) (zR 0) (zj (.bl true)) (zP (yc gk ZD (zj (.int 0)) (zc 0) (zc 1))))))) zx
abbrev Uh:Stmt:=top 15
theorem Ua:qo ["thing","many"] ["thing"] (qc Uh):=qG (by kernel_rfl)
def Ud (L:Fn)(K:Fn)(P:Fn):Ex:=zr (ql (yj (yu (Qi .tup (zc 0))) (yu (yc gk gk (zj (.int 1)) (mQ qK (qb (zc 0))) (zj (.int 8))))) (zr (zT (zj (.bl false))) zx) zx) (zr (zY 1 (mQ qK (qb (zc 0)))) (zr (ql (yu (mQ Q3 (zV 1 [1] (qF (zc 0)) (zR 0) (zj (.bl true)) (zP (zw K (zh (zc 0) (zh (zc 1) (zh (zc 1) zq)))))))) (zr (zT (zj (.bl false))) zx) zx) (zr (zT (jz (zw L (zh (zc 0) zq)) (zw P (zh (zc 0) zq)))) zx)))
abbrev UG:Stmt:=top 16
theorem WR:qo ["rows","a","row","b","kind"] ["rows"] (qc UG):=qG (by kernel_rfl)
def UK:Ex:=zr (jG (jW (zc 0)) (qD 1 2) (zr (jG (jW (zc 2)) (qD 3 4) (zr (ql (yj (zl qw (zl qM (zc 4) (zj (.int 0))) (zl qM (zc 1) (zc 3))) (zl qw (zl zG (zl zG (zc 0) (zc 3)) (zc 1)) (zc 4))) (zr (zT (zj (.bl false))) zx) zx) zx)) zx)) (zr (zT (zj (.bl true))) zx)
abbrev XN:Stmt:=top 17
theorem XH:qo ["rows","standing"] ["rows"] (qc XN):=qG (by kernel_rfl)
def XM:Ex:=zr (zY 1 (qh (zV 2 [] (qF (zc 0)) (zR 0) (zj (.bl true)) (gH (qF (zc 0)) (zR 1) (zj (.bl true)) (zP (zc 1)))))) (zr (zT (mQ Q3 (zV 1 [1] (ja (mQ jZ (qb (zc 1)))) (zR 0) (zj (.bl true)) (zP (zl KZ (zc 0) (zc 1)))))) zx)
abbrev X6:Stmt:=top 18
theorem PY:qo ["table"] ["table"] (qc X6):=qG (by kernel_rfl)
def X8 (Q:Fn):Ex:=zr (ql (yu (zw Q (zh (zc 0) zq))) (zr Qc zx) zx) zx
abbrev Vp:Stmt:=top 19
theorem Oh:qo ["table"] ["table"] (qc Vp):=qG (by kernel_rfl)
def Vm:Ex:=zr (zT (zl qE (mQ jZ (zV 1 [] (qF (zc 0)) (zR 0) (zj (.bl true)) (zP (mQ jZ (qb (zc 0)))))) (zj (.int 1)))) zx
abbrev VN:Stmt:=top 20
theorem Oz:qo ["table"] ["table"] (qc VN):=qG (by kernel_rfl)
def VR (K:Fn)(y:Fn):Ex:=zr (qX (zw y (zh (zc 0) zq))) (zr (zT (zw K (zh (zc 0) zq))) zx)
abbrev X7:Stmt:=top 21
theorem PZ:qo ["table","place"] ["table","place"] (qc X7):=qG (by kernel_rfl)
def X5 (J:Fn):Ex:=zr (ql (yu (zw J (zh (zc 1) (zh (mQ qK (qb (zc 0))) zq)))) (zr Qc zx) zx) zx
abbrev Vf:Stmt:=top 22
theorem P1:qo ["table","kind"] ["table","kind"] (qc Vf):=qG (by kernel_rfl)
def Vc (K:Fn)(J:Fn):Ex:=zr (ql (yu (zw J (zh (zc 1) (zh (zw K (zh (zc 0) zq)) zq)))) (zr Qc zx) zx) zx
abbrev US:Stmt:=top 23
theorem NC:qo ["table","place","kind"] ["table","place","kind"] (qc US):=qG (by kernel_rfl)
def UP (J:Fn)(Y:Fn)(y:Fn):Ex:=zr (qX (zw y (zh (zc 0) zq))) (zr (qX (zw Y (zh (zc 0) (zh (zc 1) zq)))) (zr (qX (zw J (zh (zc 0) (zh (zc 2) zq)))) (zr (zT (qh (zV 2 [2] (jW (zl zG (zc 0) (zc 1))) (qD 0 1) (zl qM (zc 1) (zc 2)) (zP (zc 0))))) zx)))
abbrev V6:Stmt:=top 24
theorem OT:qo ["table","one","other"] ["table","one","other"] (qc V6):=qG (by kernel_rfl)
def V2 (g:Fn)(Y:Fn)(y:Fn):Ex:=zr (qX (zw y (zh (zc 0) zq))) (zr (qX (zw Y (zh (zc 0) (zh (zc 1) zq)))) (zr (qX (zw Y (zh (zc 0) (zh (zc 2) zq)))) (zr (zT (zw g (zh (zc 0) (zh (zc 1) (zh (zc 2) zq))))) zx)))
abbrev Vi:Stmt:=top 25
theorem Yc:qo ["table","one","other","many","counts","i","j"] ["table","one","other"] (qc Vi):=qG (by kernel_rfl)
def Vg (K:Fn):Ex:=zr (zY 3 (zw K (zh (zc 0) zq))) (zr (zY 4 (qh (zV 1 [3] (ja (zc 3)) (zR 0) (zj (.bl true)) (zP (zl qd (qP (zh (zj (.int 0)) zq)) (zc 1)))))) (zr (jG (wC (zl zG (zc 0) (zc 1)) (zl zG (zc 0) (zc 2))) (qD 5 6) (zr (JT (zl zG (zc 4) (zc 5)) (zc 6) (zj (.int 1))) zx)) (zr (zT (mQ jR (zV 1 [] (qF (zc 4)) (zR 0) (zj (.bl true)) (zP (mQ jR (qb (zc 0))))))) zx)))
abbrev VA:Stmt:=top 26
theorem Yf:qo ["table","firsts","a","row","b","kind"] ["table"] (qc VA):=qG (by kernel_rfl)
def VE:Ex:=zr (zY 1 R6) (zr (jG (jW (zc 0)) (qD 2 3) (zr (jG (jW (zc 3)) (qD 4 5) (zr (qX (QQ gB (zc 1) (zc 5) (jb (zh (zc 2) (zh (zc 4) zq))))) zx)) zx)) (zr (zT (zc 1)) zx))
abbrev Vk:Stmt:=top 27
theorem Wm:qo ["table","firsts","pairs"] ["table"] (qc Vk):=qG (by kernel_rfl)
def Vw (K:Fn)(g:Fn)(w:Fn):Ex:=zr (zY 1 (zw w (zh (zc 0) zq))) (zr (zY 2 (qh (zV 1 [1] (ja (zw K (zh (zc 0) zq))) (zR 0) (zj (.bl true)) (zP (zl Ki (zc 1) (zc 0)))))) (zr (zT (qh (zV 2 [0] (qF (zc 2)) (qD 0 1) (zj (.bl true)) (zP (zw g (zh (zc 2) (zh (zc 0) (zh (zc 1) zq)))))))) zx))
abbrev Ve:Stmt:=top 28
theorem Jc:qo ["table","kind","a","b","shares","c","row","e","by"] ["table"] (qc Ve):=qG (by kernel_rfl)
def Ye (g:Fn)(w:Fn):Ex:=zr (jG (Z2 (zw w (zh (zc 0) zq))) (QS 1 2 3) (zr (zY 4 (zw g (zh (zc 0) (zh (zc 2) (zh (zc 3) zq))))) (zr (jG (jW (zc 0)) (qD 5 6) (zr (jG (jW (zc 6)) (qD 7 8) (zr (ql (jz (zl qM (zc 8) (zc 1)) (zl qw (zw g (zh (zc 0) (zh (zc 5) (zh (zc 7) zq)))) (zc 4))) (zr (zT (jb (zh (zc 2) (zh (zc 3) (zh (zc 5) (zh (zc 7) zq)))))) zx) zx) zx)) zx)) zx))) (zr (zT (zj .non)) zx)
abbrev Vl:Stmt:=top 29
theorem P7:qo ["table"] ["table"] (qc Vl):=qG (by kernel_rfl)
def Vz (y:Fn)(J:Fn):Ex:=zr (qX (zw y (zh (zc 0) zq))) (zr (zT (zw J (zh (zc 0) zq))) zx)
abbrev VW:Stmt:=top 30
theorem OY:qo ["table"] ["table"] (qc VW):=qG (by kernel_rfl)
def V1 (y:Fn)(J:Fn):Ex:=zr (qX (zw y (zh (zc 0) zq))) (zr (zT (zl (jL false) (zw J (zh (zc 0) zq)) (zj .non))) zx)
abbrev Ul:Stmt:=top 31
theorem VZ:qo ["table","thing","a","b","c","e"] ["table","thing"] (qc Ul):=qG (by kernel_rfl)
def Uo (g:Fn)(K:Fn)(y:Fn):Ex:=zr (qX (zw y (zh (zc 0) zq))) (zr (ql (yu (zw K (zh (zc 1) (zh (zj (.int 4)) (zh (mQ qK (qb (zc 0))) zq))))) (zr (zT (zj (.bl false))) zx) zx) (zr (Zw (zc 1) (G0 2 3 4 5)) (zr (zT (jz (zl qM (zl zG (zl zG (zc 0) (zc 2)) (zc 3)) (zl zG (zl zG (zc 0) (zc 4)) (zc 5))) (zl qw (zw g (zh (zc 0) (zh (zc 2) (zh (zc 3) zq)))) (zw g (zh (zc 0) (zh (zc 4) (zh (zc 5) zq))))))) zx)))
abbrev X2:Stmt:=top 32
theorem PQ:qo ["table"] ["table"] (qc X2):=qG (by kernel_rfl)
def X0 (y:Fn)(J:Fn):Ex:=zr (qX (zw y (zh (zc 0) zq))) (zr (ql (zl (jL true) (zw J (zh (zc 0) zq)) (zj .non)) (zr Qc zx) zx) zx)
abbrev Ts:Stmt:=top 35
theorem Mo:qo ["table","i","j","k"] ["table","i","j","k"] (qc Ts):=qG (by kernel_rfl)
def Ta (j:Fn)(J:Fn)(g:Fn):Ex:=zr (qX (zw g (zh (zc 0) zq))) (zr (qX (zw J (zh (zc 0) (zh (zc 1) zq)))) (zr (qX (zw J (zh (zc 0) (zh (zc 2) zq)))) (zr (qX (zw J (zh (zc 0) (zh (zc 3) zq)))) (zr (zT (zl zG (zl zG (zl zG (zw j (zh (zc 0) zq)) (zc 3)) (zc 1)) (zc 2))) zx))))
abbrev Vx:Stmt:=top 36
theorem Oa:qo ["table"] ["table"] (qc Vx):=qG (by kernel_rfl)
def VD (K:Fn):Ex:=zr (zT (qh (zV 1 [0] (ja (zw K (zh (zc 0) zq))) (zR 0) (zj (.bl true)) (zP (JO QO (zl zG (zc 1) (zj (.int 0))) (zc 0)))))) zx
abbrev SK:Stmt:=top 37
theorem LZ:qo ["table"] ["table"] (qc SK):=qG (by kernel_rfl)
def TZ (o:Fn)(g:Fn):Ex:=zr (qX (zw g (zh (zc 0) zq))) (zr (zT (zw o (zh (zc 0) zq))) zx)
abbrev Te:Stmt:=top 38
theorem N6:qo ["table","thing"] ["table","thing"] (qc Te):=qG (by kernel_rfl)
def Tr (K:Fn)(J:Fn)(y:Fn):Ex:=zr (qX (zw y (zh (zc 0) zq))) (zr (zT (zw J (zh (zc 1) (zh (zw K (zh (zc 0) zq)) zq)))) zx)
abbrev Vr:Stmt:=top 39
theorem Og:qo ["table","mix"] ["table","mix"] (qc Vr):=qG (by kernel_rfl)
def Vn (K:Fn)(J:Fn):Ex:=zr (ql (yu (zw J (zh (zc 1) (zh (zw K (zh (zc 0) zq)) zq)))) (zr Qc zx) zx) zx
abbrev U1:Stmt:=top 40
theorem NO:qo ["table","one","other"] ["table","one","other"] (qc U1):=qG (by kernel_rfl)
def UI (J:Fn)(w:Fn)(Z:Fn)(g:Fn):Ex:=zr (qX (zw g (zh (zc 0) zq))) (zr (qX (zw Z (zh (zc 0) (zh (zc 1) zq)))) (zr (qX (zw Z (zh (zc 0) (zh (zc 2) zq)))) (zr (zT (zw w (zh (zw J (zh (zc 0) zq)) (zh (zc 1) (zh (zc 2) zq))))) zx)))
abbrev Uv:Stmt:=top 41
theorem Nf:qo ["shares","one","other"] ["shares","one","other"] (qc Uv):=qG (by kernel_rfl)
def Up (o:Fn):Ex:=zr (zT (mQ jR (zV 1 [1,2] (qF (zc 0)) (zR 0) (zj (.bl true)) (zP (zw o (zh (zc 0) (zh (zc 1) (zh (zc 2) zq)))))))) zx
abbrev Vt:Stmt:=top 42
theorem P6:qo ["by_kind","one","other"] ["by_kind","one","other"] (qc Vt):=qG (by kernel_rfl)
def Vq:Ex:=zr (zT (mQ kX (zV 4 [2] (wC (zc 1) (zc 0)) (qD 0 1) (zj (.bl true)) (gH (wC (zc 4) (zc 1)) (qD 2 3) (zj (.bl true)) (zP (zl qd (zl qd (zc 0) (zc 2)) (zc 3))))))) zx
abbrev Sj:Stmt:=top 43
theorem LD:qo ["table","one","other"] ["table","one","other"] (qc Sj):=qG (by kernel_rfl)
def Si (Z:Fn)(g:Fn):Ex:=zr (qX (zw g (zh (zc 0) zq))) (zr (qX (zw Z (zh (zc 0) (zh (zc 1) zq)))) (zr (qX (zw Z (zh (zc 0) (zh (zc 2) zq)))) (zr (zT (mQ jR (zV 2 [] (wC (zc 1) (zc 2)) (qD 0 1) (zj (.bl true)) (zP (zl qE (zc 0) (zc 1)))))) zx)))
abbrev So:Stmt:=top 44
theorem Jw:qo ["table","mix","times","shares","result","turn"] ["table","mix","times"] (qc So):=qG (by kernel_rfl)
def Su (j:Fn)(J:Fn)(w:Fn)(Z:Fn)(g:Fn):Ex:=zr (qX (zw g (zh (zc 0) zq))) (zr (qX (zw Z (zh (zc 0) (zh (zc 1) zq)))) (zr (ql (yu (zw j (zh (zc 2) (zh (zl qE (zj (.int 8)) (zj (.int 1))) zq)))) (zr Qc zx) zx) (zr (zY 3 (zw J (zh (zc 0) zq))) (zr (zY 4 (mQ jR (qb (zl qE (qP (zh (zj (.int 1)) zq)) (zl qd (qP (zh (zj (.int 0)) zq)) (zl jt (mQ qK (qb (zc 1))) (zj (.int 1)))))))) (zr (jG (ja (zc 2)) (zR 5) (zr (zY 4 (zw w (zh (zc 3) (zh (zc 4) (zh (zc 1) zq))))) zx)) (zr (zT (zc 4)) zx))))))
abbrev Vh:Stmt:=top 46
theorem P0:qo ["_law_script","_law_k"] ["_law_script","_law_k"] (qc Vh):=qG (by kernel_rfl)
def Wk:Ex:=zr (ql (zl ZD (zc 1) (mQ qK (qb (zc 0)))) (zr (zT (zl zG (zc 0) (zc 1))) zx) zx) (zr (zT (zj (.int 0))) zx)
abbrev VP:Stmt:=top 47
theorem Vo:qo ["_law_script","_law_k","_law_cell"] ["_law_script","_law_k"] (qc VP):=qG (by kernel_rfl)
def WA (o:Fn):Ex:=zr (zY 2 (zw o (zh (zc 0) (zh (zc 1) zq)))) (zr (ql (zl Xp (zc 2) (zl QY (zj (.int 10)) (zj (.int 18)))) (zr (zT (qP (zh (zl jt (zc 2) (zl QY (zj (.int 10)) (zj (.int 18)))) (zh (zj (.bl true)) zq)))) zx) zx) (zr (zT (qP (zh (zl yS (zc 2) (zj (.int 2147483647))) (zh (zj (.bl false)) zq)))) zx))
abbrev V0:Stmt:=top 48
theorem Ys:qo ["_law_state_here","_law_many","_law_found","_law_stirred"] ["_law_state_here","_law_many"] (qc V0):=qG (by kernel_rfl)
def WI:Ex:=zr (ql (zl zG (zc 0) (zj (.int 1))) (zr (zY 2 (zl yS (zl zG (zc 0) (zj (.int 0))) (zc 1))) (zr (kd j7 (zl kT (zl zG (zc 0) (zj (.int 0))) (zc 1)) (zc 0) (zj (.int 0))) (zr (zT (zc 2)) zx))) zx) (zr (kd j7 (zl yS (zl qE (zl qd (zl zG (zc 0) (zj (.int 0))) (zj (.int 48271))) (zj (.int 29))) (zj (.int 2147483647))) (zc 0) (zj (.int 0))) (zr (zY 3 (zl yS (zl qE (zl qE (zl qd (zl zG (zc 0) (zj (.int 0))) (zl zG (zc 0) (zj (.int 0)))) (zl qd (zj (.int 39373)) (zl zG (zc 0) (zj (.int 0))))) (zj (.int 7))) (zj (.int 2147483629)))) (zr (zY 3 (zl yS (zl qE (zl qd (zc 3) (zc 3)) (zl qd (zj (.int 16807)) (zc 3))) (zj (.int 2147483587)))) (zr (zT (zl yS (zl kT (zc 3) (zj (.int 8))) (zc 1))) zx))))
abbrev XZ:Stmt:=top 49
theorem K8:qo ["_law_state_here","_law_things","_law_left","_law_found"] ["_law_state_here","_law_things"] (qc XZ):=qG (by kernel_rfl)
def XX (j:Fn):Ex:=zr (zY 2 (qh (qb (zc 1)))) (zr (zY 3 (qP zq)) (zr (GF 1000 (zl qw (zc 2) (qP zq)) (zr (qX (yR wj (zc 3) (yR w6 (zc 2) (zw j (zh (zc 0) (zh (mQ qK (qb (zc 2))) zq)))))) zx)) (zr (zT (zc 3)) zx)))
abbrev VL:Stmt:=top 50
theorem Vv:qo ["_law_rows","_law_some"] ["_law_rows"] (qc VL):=qG (by kernel_rfl)
def VS:Ex:=zr (zY 1 (YN (zl gJ (qh (zV 1 [] (qF (zc 0)) (zR 0) (zj (.bl true)) (zP (qh (qb (zc 0)))))) (qP zq)))) (zr (zT (mQ jR (zV 1 [1] (qF (zc 0)) (zR 0) (zj (.bl true)) (zP (mQ jR (zV 1 [1] (qF (zc 0)) (zR 0) (zj (.bl true)) (zP (yR wZ (zc 1) (zc 0))))))))) zx)
abbrev VQ:Stmt:=top 51
theorem yX:qo ["_law_state_here","_law_way","_law_many","_law_wide","_law_high","_law_some","_law_ring","_law_rows","_law_a","_law_near","_law_far"] ["_law_state_here"] (qc VQ):=qG (by kernel_rfl)
def Wv (j:Fn):Ex:=zr (zY 1 (zw j (zh (zc 0) (zh (zj (.int 8)) zq)))) (zr (zY 2 (zl zG (qP (zh (zj (.int 8)) (zh (zj (.int 7)) (zh (zj (.int 6)) (zh (zj (.int 5)) (zh (zj (.int 4)) (zh (zj (.int 3)) (zh (zj (.int 2)) (zh (zj (.int 1)) zq))))))))) (zw j (zh (zc 0) (zh (zj (.int 8)) zq))))) (zr (ql (zl qM (zc 1) (zj (.int 0))) (zr (zT (qh (zV 1 [2] (ja (zc 2)) (zR 0) (zj (.bl true)) (zP (qh (zV 1 [0,1] (ja (zc 1)) (zR 0) (zj (.bl true)) (zP (zl Zr (yK JV (zl jt (zc 1) (zc 0))) (zl jt (zc 2) (yK JV (zl jt (zc 1) (zc 0)))))))))))) zx) zx) (zr (ql (zl qM (zc 1) (zj (.int 1))) (zr (zY 2 (zl zG (qP (zh (zj (.int 8)) (zh (zj (.int 4)) (zh (zj (.int 2)) zq)))) (zw j (zh (zc 0) (zh (zj (.int 3)) zq))))) (zr (zT (qh (zV 1 [2] (ja (zc 2)) (zR 0) (zj (.bl true)) (zP (qh (zV 1 [0] (ja (zc 1)) (zR 0) (zj (.bl true)) (zP (zl zG (qP (zh (zj (.int 0)) (zh (zj (.int 1)) (zh (zj (.int 1)) (zh (zj (.int 2)) (zh (zj (.int 1)) (zh (zj (.int 2)) (zh (zj (.int 2)) (zh (zj (.int 3)) zq))))))))) (zl Xg (zc 1) (zc 0)))))))))) zx)) zx) (zr (ql (zl qM (zc 1) (zj (.int 2))) (zr (zT (qh (zV 1 [2] (ja (zc 2)) (zR 0) (zj (.bl true)) (zP (qh (zV 1 [0] (ja (zc 1)) (zR 0) (zj (.bl true)) (zP (yK Qa (zl qw (zc 1) (zc 0)))))))))) zx) zx) (zr (ql (zl qM (zc 1) (zj (.int 3))) (zr (Zw (zl zG (qP (zh (jb (zh (zj (.int 2)) (zh (zj (.int 4)) zq))) (zh (jb (zh (zj (.int 4)) (zh (zj (.int 2)) zq))) (zh (jb (zh (zj (.int 2)) (zh (zj (.int 3)) zq))) (zh (jb (zh (zj (.int 3)) (zh (zj (.int 2)) zq))) (zh (jb (zh (zj (.int 2)) (zh (zj (.int 2)) zq))) zq)))))) (zw j (zh (zc 0) (zh (zj (.int 5)) zq)))) (qD 3 4)) (zr (zY 2 (zl qd (zc 3) (zc 4))) (zr (zT (qh (zV 1 [2,3] (ja (zc 2)) (zR 0) (zj (.bl true)) (zP (qh (zV 1 [0,2] (ja (zc 1)) (zR 0) (zj (.bl true)) (zP (zl qE (yK Qa (zl qw (zc 1) (zc 0))) (yK Qa (zl qw (zl kT (zc 1) (zc 2)) (zl kT (zc 0) (zc 2)))))))))))) zx))) zx) (zr (ql (zl qM (zc 1) (zj (.int 4))) (zr (zY 5 (qP (zh (jb (zh (zj (.int 0)) (zh (zj (.int 1)) zq))) (zh (jb (zh (zj (.int 0)) (zh (zj (.int 2)) zq))) (zh (jb (zh (zj (.int 0)) (zh (zj (.int 3)) zq))) (zh (jb (zh (zj (.int 1)) (zh (zj (.int 2)) zq))) (zh (jb (zh (zj (.int 1)) (zh (zj (.int 3)) zq))) (zh (jb (zh (zj (.int 2)) (zh (zj (.int 3)) zq))) zq)))))))) (zr (zT (qh (zV 1 [5] (qF (zc 5)) (zR 0) (zj (.bl true)) (zP (qh (zV 1 [0] (qF (zc 1)) (zR 0) (zj (.bl true)) (zP (zl jt (zj (.int 2)) (mQ qK (zV 1 [0] (qF (zc 1)) (zR 0) (zl KZ (zc 0) (zc 1)) (zP (zc 0)))))))))))) zx)) zx) (zr (ql (zl qM (zc 1) (zj (.int 5))) (zr (zY 2 (zl zG (qP (zh (zj (.int 4)) (zh (zj (.int 8)) (zh (zj (.int 2)) zq)))) (zw j (zh (zc 0) (zh (zj (.int 3)) zq))))) (zr (zT (qh (zV 1 [2] (ja (zc 2)) (zR 0) (zj (.bl true)) (zP (qh (zV 1 [0] (ja (zc 1)) (zR 0) (zj (.bl true)) (zP (zl Xg (zc 1) (zc 0))))))))) zx)) zx) (zr (zY 3 (zl zG (qP (zh (zj (.int 4)) (zh (zj (.int 3)) (zh (zj (.int 2)) zq)))) (zw j (zh (zc 0) (zh (zj (.int 3)) zq))))) (zr (zY 6 (qP (zh (zj (.int 0)) (zh (zj (.int 1)) (zh (zl zG (qP (zh (zj (.int 2)) (zh (zj (.int 1)) zq))) (yK Qa (zl qM (zc 3) (zj (.int 3))))) (zh (zj (.int 1)) zq)))))) (zr (zY 7 (qP zq)) (zr (jG (ja (zl qd (zj (.int 2)) (zc 3))) (zR 8) (zr (zY 9 (qh (zV 1 [3,6,8] (ja (zl qd (zj (.int 2)) (zc 3))) (zR 0) (zj (.bl true)) (zP (zl zG (zc 2) (zl yS (yK JV (zl jt (zc 3) (zc 0))) (zc 1))))))) (zr (zY 10 (qh (zV 1 [3,8] (ja (zl qd (zj (.int 2)) (zc 3))) (zR 0) (zj (.bl true)) (zP (yK Qa (zl qw (zl kT (zc 2) (zc 1)) (zl kT (zc 0) (zc 1)))))))) (zr (ql (zl qM (zc 1) (zj (.int 6))) (zr (qX (yR wj (zc 7) (qh (zV 1 [9,10] (ja (zl qd (zj (.int 2)) (zc 3))) (zR 0) (zj (.bl true)) (zP (zl qE (zl qd (zj (.int 3)) (zl zG (zc 2) (zc 0))) (zl zG (zc 1) (zc 0)))))))) zx) (zr (qX (yR wj (zc 7) (qh (zV 1 [9,10] (ja (zl qd (zj (.int 2)) (zc 3))) (zR 0) (zj (.bl true)) (zP (Pd (zl qM (zl zG (zc 2) (zc 0)) (zj (.int 1))) (zj (.int 3)) (zl zG (zc 1) (zc 0)))))))) zx)) zx)))) (zr (zT (zc 7)) zx))))))))))))
abbrev VI:Stmt:=top 52
theorem Yj:qo ["_law_state_here","_law_rows","_law_order","_law_kinds"] ["_law_state_here"] (qc VI):=qG (by kernel_rfl)
def VM (X:Fn)(Y:Fn)(o:Fn):Ex:=zr (zY 1 (zw Y (zh (zw o (zh (zc 0) zq)) zq))) (zr (zY 2 (zw X (zh (zc 0) (zh (JE (mQ qK (qb (zc 1)))) zq)))) (zr (zY 3 (zl qE (qP (zh (zj (.int 0)) zq)) (zw X (zh (zc 0) (zh (JK (zj (.int 1)) (zl qE (zj (.int 1)) (mQ jZ (zV 1 [] (qF (zc 1)) (zR 0) (zj (.bl true)) (zP (mQ jZ (qb (zc 0)))))))) zq))))) (zr (zT (mQ jR (zV 1 [1,2,3] (qF (zc 2)) (zR 0) (zj (.bl true)) (zP (mQ jR (zV 1 [0,1,3] (qF (zc 2)) (zR 0) (zj (.bl true)) (zP (zl zG (zc 3) (zl zG (zl zG (zc 2) (zc 1)) (zc 0)))))))))) zx)))
abbrev VJ:Stmt:=top 53
theorem gr:qo ["_law_state_here","_law_way","_law_rows","_law_many","_law_a","_law_b","_law_far"] ["_law_state_here"] (qc VJ):=qG (by kernel_rfl)
def VH (Z:Fn)(Y:Fn)(j:Fn):Ex:=zr (zY 1 (zw j (zh (zc 0) (zh (zj (.int 3)) zq)))) (zr (ql (zl qM (zc 1) (zj (.int 0))) (zr (zT (zw Z (zh (zc 0) zq))) zx) zx) (zr (zY 2 (qh (zV 1 [] (qF (zw Z (zh (zc 0) zq))) (zR 0) (zj (.bl true)) (zP (qh (qb (zc 0))))))) (zr (zY 3 (mQ qK (qb (zc 2)))) (zr (ql (jz (zl qM (zc 1) (zj (.int 1))) (zl Xs (zc 3) (zj (.int 1)))) (zr (zY 4 (zw j (zh (zc 0) (zh (zc 3) zq)))) (zr (zY 5 (zl yS (zl qE (zl qE (zc 4) (zj (.int 1))) (zw j (zh (zc 0) (zh (zl jt (zc 3) (zj (.int 1))) zq)))) (zc 3))) (zr (kd j7 (zl qE (zj (.int 1)) (zw j (zh (zc 0) (zh (zl jt (zc 3) (zj (.int 1))) zq)))) (zl zG (zc 2) (zc 4)) (zc 5)) (zr (kd j7 (zl zG (zl zG (zc 2) (zc 4)) (zc 5)) (zl zG (zc 2) (zc 5)) (zc 4)) (zr (zT (zw Y (zh (zc 2) zq))) zx))))) zx) (zr (zY 6 (zl zG (qP (zh (zj (.int 2)) (zh (zj (.int 3)) (zh (zj (.int 1)) zq)))) (zw j (zh (zc 0) (zh (zj (.int 3)) zq))))) (zr (jG (ja (zc 3)) (zR 4) (zr (jG (ja (zc 4)) (zR 5) (zr (kd j7 (zl qE (zj (.int 1)) (zw j (zh (zc 0) (zh (zl Zr (zc 6) (zl jt (zc 3) (zj (.int 1)))) zq)))) (zl zG (zc 2) (zc 4)) (zc 5)) (zr (kd j7 (zl zG (zl zG (zc 2) (zc 4)) (zc 5)) (zl zG (zc 2) (zc 5)) (zc 4)) zx))) zx)) (zr (zT (zw Y (zh (zc 2) zq))) zx)))))))
abbrev Ue:Stmt:=top 54
theorem VV:qo ["_law_state_here","_law_kinds","_law_far"] ["_law_state_here","_law_kinds"] (qc Ue):=qG (by kernel_rfl)
def Ub (j:Fn):Ex:=zr (zY 2 (zl zG (qP (zh (zj (.int 3)) (zh (zj (.int 7)) (zh (zj (.int 2000)) (zh (zl QY (zj (.int 10)) (zj (.int 12))) zq))))) (zw j (zh (zc 0) (zh (zj (.int 4)) zq))))) (zr (zT (mQ jR (zV 1 [0,2] (ja (zc 1)) (zR 0) (zj (.bl true)) (zP (zl jt (zw j (zh (zc 1) (zh (zc 2) zq))) (zl kT (zc 2) (zj (.int 2)))))))) zx)
abbrev XJ:Stmt:=top 57
theorem Q8:qo ["_law_state_here","_law_table_here","_law_many","_law_wide","_law_i","_law_j","_law_kind","_law_a","_law_b"] ["_law_state_here","_law_table_here"] (qc XJ):=qG (by kernel_rfl)
def XO (j:Fn)(w:Fn)(M:Fn)(Q:Fn)(o:Fn)(H:Fn):Ex:=zr (Zw (jb (zh (zw H (zh (zc 1) zq)) (zh (zw w (zh (zc 1) zq)) zq))) (qD 2 3)) (zr (ql (yj (zl qw (mQ kX (qb (zc 2))) (mQ qK (qb (zc 1)))) (yj (zl qw (zl zG (zc 2) (zj (.int 0))) (zj (.int 1))) (zl qw (mQ qK (qb (zc 2))) (zc 3)))) (zr (zT (zj (.bl false))) zx) zx) (zr (J2 4 5 6 (qh (zV 1 [0,3] (ja (zj (.int 3))) (zR 0) (zj (.bl true)) (zP (zw j (zh (zc 1) (zh (zc 2) zq))))))) (zr (zY 7 (zw j (zh (zc 0) (zh (mQ qK (qb (zc 1))) zq)))) (zr (zY 8 (zl zG (zw M (zh (zc 1) (zh (zc 7) (zh (zc 6) zq)))) (zj (.int 0)))) (zr (ql (zl qw (zw Q (zh (zc 1) (zh (zc 4) (zh (zc 5) (zh (zc 6) zq))))) (zl zG (zl zG (zw o (zh (zc 1) (zh (zc 7) (zh (zc 8) zq)))) (zc 4)) (zc 5))) (zr (zT (zj (.bl false))) zx) zx) (zr (ql (zl qw (mQ kX (zV 1 [1,4,6] (ja (zc 3)) (zR 0) (zj (.bl true)) (zP (zw Q (zh (zc 1) (zh (zc 2) (zh (zc 0) (zh (zc 3) zq)))))))) (zl zG (zc 2) (zc 4))) (zr (zT (zj (.bl false))) zx) zx) (zr (ql (zl qw (zw Q (zh (zc 1) (zh (zc 4) (zh (zc 5) (zh (zc 6) zq))))) (zw Q (zh (zc 1) (zh (zc 5) (zh (zc 4) (zh (zc 6) zq)))))) (zr (zT (zj (.bl false))) zx) zx) (zr (zT (zl qM (zl qd (zl zG (zc 2) (zc 6)) (zw Q (zh (zc 1) (zh (zc 4) (zh (zc 5) (zh (zc 6) zq)))))) (zl qd (zl zG (zc 2) (zc 4)) (zw Q (zh (zc 1) (zh (zc 6) (zh (zc 5) (zh (zc 4) zq)))))))) zx))))))))
abbrev XT:Stmt:=top 58
theorem Q9:qo ["_law_state_here","_law_table_here","_law_wide","_law_one","_law_other","_law_third","_law_both","_law_still"] ["_law_state_here","_law_table_here"] (qc XT):=qG (by kernel_rfl)
def XS (N:Fn)(T:Fn)(I:Fn)(w:Fn)(a:Fn)(g:Fn):Ex:=zr (zY 2 (zw w (zh (zc 1) zq))) (zr (J2 3 4 5 (qh (zV 1 [0,2] (ja (zj (.int 3))) (zR 0) (zj (.bl true)) (zP (zw N (zh (zc 1) (zh (zc 2) zq))))))) (zr (zY 6 (zw g (zh (zc 1) (zh (zc 3) (zh (zc 4) zq))))) (zr (ql (yj (zl (jL true) (zw I (zh (zc 1) (zh (zc 6) zq))) (zj (.bl true))) (zl qw (zw g (zh (zc 1) (zh (zc 4) (zh (zc 3) zq)))) (zc 6))) (zr (zT (zj (.bl false))) zx) zx) (zr (ql (zl qw (zw g (zh (zc 1) (zh (zc 6) (zh (zc 5) zq)))) (zw g (zh (zc 1) (zh (zc 3) (zh (zw g (zh (zc 1) (zh (zc 4) (zh (zc 5) zq)))) zq))))) (zr (zT (zj (.bl false))) zx) zx) (zr (ql (zl qw (zw g (zh (zc 1) (zh (zc 3) (zh (zw T (zh (zc 1) (zh (zc 4) (zh (zc 5) zq)))) zq)))) (zw T (zh (zc 1) (zh (zc 6) (zh (zw g (zh (zc 1) (zh (zc 3) (zh (zc 5) zq)))) zq))))) (zr (zT (zj (.bl false))) zx) zx) (zr (ql (yj (zl qw (zw a (zh (zc 1) (zh (zc 3) (zh (zj (.int 2)) zq)))) (zw g (zh (zc 1) (zh (zc 3) (zh (zc 3) zq))))) (zl qw (zw a (zh (zc 1) (zh (zc 3) (zh (zj (.int 1)) zq)))) (zc 3))) (zr (zT (zj (.bl false))) zx) zx) (zr (zY 7 (zw a (zh (zc 1) (zh (zc 3) (zh (zj (.int 0)) zq))))) (zr (zT (jz (zl qM (zw g (zh (zc 1) (zh (zc 7) (zh (zc 4) zq)))) (zc 4)) (zl qM (zc 7) (zl qE (jb (zh (zj (.int 1)) zq)) (zl Zu (jb (zh (zj (.int 0)) zq)) (zl jt (zc 2) (zj (.int 1)))))))) zx))))))))
abbrev Ko:Stmt:=top 59
theorem QL:qo ["_law_script","_law_k","_law_state_here","_law_table_here","_law_other","_law_found"] ["_law_script"] (qc Ko):=qG (by kernel_rfl)
def G7 (Z:Fn)(a:Fn)(b:Fn)(y:Fn)(n:Fn)(j:Fn)(Y:Fn)(J:Fn)(Q:Fn):Ex:=zr (jG (ja (zl G1 (zj (.int 1)) (zl Zr (mQ qK (qb (zc 0))) (zj (.int 4))))) (zR 1) (zr (zY 2 (zw y (zh (zc 0) (zh (zc 1) zq)))) (zr (zY 3 (zw Z (zh (zc 2) zq))) (zr (ql (yj (zl (jL true) (zw Q (zh (zc 3) zq)) (zj (.bl true))) (yj (zl (jL true) (zw J (zh (zc 3) zq)) (zj (.bl true))) (zl (jL true) (zw j (zh (zc 3) zq)) (zj .non)))) (zr (zT (zj (.bl false))) zx) zx) (zr (ql (yj (yu (zw b (zh (zc 2) (zh (zc 3) zq)))) (yu (zw a (zh (zc 2) (zh (zc 3) zq))))) (zr (zT (zj (.bl false))) zx) zx) (zr (zY 4 (zw n (zh (zc 2) zq))) (zr (zY 5 (zw j (zh (zc 4) zq))) (zr (ql (yj (zl qw (zw J (zh (zc 4) zq)) (zl (jL false) (zc 5) (zj .non))) (jz (zl (jL true) (zc 5) (zj .non)) (zl (jL true) (zw Y (zh (zc 4) (zh (zc 5) zq))) (zj (.bl true))))) (zr (zT (zj (.bl false))) zx) zx) zx)))))))) (zr (zT (zj (.bl true))) zx)
theorem o_law {K:Frag}{k:Nat}(T:Bu mg){f:Addr}(F:gm K "law" "law" Ko f fd){Z:Fn}(wN:zI P w K mg base k "_law_known" 1 Z){a:Fn}(ZH:zI P w K mg base k "_law_mixes_right" 2 a){b:Fn}(ZG:zI P w K mg base k "_law_numbers_right" 2 b){y:Fn}(Qs:zI P w K mg base k "_law_state" 2 y){n:Fn}(ZL:zI P w K mg base k "_law_table" 1 n){j:Fn}(g8:zI P w K mg base k "first_break" 1 j){Y:Fn}(Qv:zI P w K mg base k "is_break" 2 Y){J:Fn}(Za:zI P w K mg base k "is_steady" 1 J){Q:Fn}(gv:zI P w K mg base k "is_table" 1 Q):yt P w K mg base k6 (k+1) f fd ["_law_script"] (gY K 1 (qk 6 (G7 Z a b y n j Y J Q))):=
 CO F QL λ c A outer s H E h=>zu (kE PassesOwn.never rfl (jn rfl T.ji (Lj rfl T.QV zB (Gb rfl T.GQ (yM T.yU (jJ (zi 0))) zB))) (qy 1 QL.nd) (zu (qx 2 QL.nd (zD Qs h (zm (zi 0) (zm (zi 1) zy)))) (zu (qx 3 QL.nd (zD wN h (zm (zi 2) zy))) (zu (qZ (we (w5 (qU ZX (zD gv h (zm (zi 3) zy)) jI) (w5 (qU ZX (zD Za h (zm (zi 3) zy)) jI) (Ze (qU ZX (zD g8 h (zm (zi 3) zy)) QJ))))) (zu (z7 jI) zE) zE) (zu (qZ (we (w5 (wm (wt (zD ZG h (zm (zi 2) (zm (zi 3) zy))))) (Ze (wm (wt (zD ZH h (zm (zi 2) (zm (zi 3) zy)))))))) (zu (z7 jI) zE) zE) (zu (qx 4 QL.nd (zD ZL h (zm (zi 2) zy))) (zu (qx 5 QL.nd (zD g8 h (zm (zi 4) zy))) (zu (qZ (we (w5 (qU (jV h) (zD Za h (zm (zi 4) zy)) (yQ RS (zi 5) QJ)) (Ze (we (Gj (qU ZX (zi 5) QJ) (W2 (qU ZX (zD Qv h (zm (zi 4) (zm (zi 5) zy))) jI))))))) (zu (z7 jI) zE) zE) zE)))))))) (zu (z7 jI) zE)
def Yu:Fn:=qk 1 Ux
def gu:Fn :=  Yu
def UA:Fn:=qk 5 UK
def WX:Fn:=iso UA
def XI:Fn:=qk 2 XM
def K3:Fn:=iso XI
def Vy:Fn:=qk 1 Vm
def wc:Fn:=iso Vy
def Wt:Fn:=qk 6 VE
def g9:Fn:=iso Wt
def Vu:Fn:=qk 3 Vq
def Yi:Fn:=iso Vu
def Vb:Fn:=qk 2 Wk
def Yg:Fn :=  Vb
def Jm:Fn:=qk 4 WI
def jM:Fn:=yr Jm
def WB:Fn:=qk 2 VS
def ZM:Fn :=  WB
def Wc:Fn:=qk 2 (X4 gu)
def Qm:Fn :=  Wc
def WH:Fn:=qk 2 (VX gu)
def ZO:Fn :=  WH
def Vd:Fn:=qk 7 (Vg wc)
def yw:Fn:=iso Vd
def VF:Fn:=qk 1 (VD wc)
def Ws:Fn:=iso VF
def WQ:Fn:=qk 3 (Up Yi)
def Qt:Fn :=  WQ
def VO:Fn:=qk 3 (WA Yg)
def Qs:Fn :=  VO
def K9:Fn:=qk 4 (XX jM)
def Qn:Fn :=  K9
def WC:Fn:=qk 11 (Wv jM)
def Yr:Fn :=  WC
def Yx:Fn:=qk 3 (Ub jM)
def Jp:Fn:=yr Yx
def Yb:Fn:=qk 3 (K6 ZO)
def gZ:Fn :=  Yb
def We:Fn:=qk 2 (X5 Qm)
def Jd:Fn :=  We
def Wh:Fn:=qk 2 (Vc wc Qm)
def Je:Fn :=  Wh
def Vs:Fn:=qk 3 (Vw wc yw g9)
def Qq:Fn:=iso Vs
def X9:Fn:=qk 9 (Ye yw g9)
def wM:Fn:=iso X9
def Wu:Fn:=qk 2 (Vn wc ZO)
def Qr:Fn :=  Wu
def Ym:Fn:=qk 4 (VM Qn ZM Yr)
def wN:Fn:=yr Ym
def WN:Fn:=qk 2 (Ud WX gZ K3)
def gv:Fn :=  WN
def Yp:Fn:=qk 7 (VH wN ZM jM)
def ZL:Fn:=yr Yp
def Wf:Fn:=qk 1 (X8 gv)
def wb:Fn :=  Wf
def VT:Fn:=qk 1 (VR wc wb)
def Yl:Fn:=iso VT
def Uz:Fn:=qk 3 (UP Je Jd wb)
def Jq:Fn:=iso Uz
def V3:Fn:=qk 3 (V2 yw Jd wb)
def Yt:Fn:=iso V3
def VB:Fn:=qk 1 (Vz wb wM)
def g8:Fn:=iso VB
def V7:Fn:=qk 1 (V1 wb wM)
def Za:Fn:=iso V7
def Uu:Fn:=qk 6 (Uo yw gZ wb)
def Qv:Fn:=iso Uu
def Wa:Fn:=qk 1 (X0 wb wM)
def g0:Fn :=  Wa
def U8:Fn:=qk 2 (Tr wc ZO wb)
def W9:Fn:=iso U8
def Tz:Fn:=qk 4 (Ta Qq Je g0)
def JA:Fn:=iso Tz
def Sd:Fn:=qk 1 (TZ Ws g0)
def Gw:Fn:=iso Sd
def UT:Fn:=qk 3 (UI Qq Qt Qr g0)
def Yz:Fn:=iso UT
def Sv:Fn:=qk 3 (Si Qr g0)
def YS:Fn:=iso Sv
def Sg:Fn:=qk 6 (Su Qm Qq Qt Qr g0)
def YU:Fn:=iso Sg
def K4:Fn:=qk 9 (XO jM Yl Jq JA Yt Gw)
def ZG:Fn:=yr K4
def K5:Fn:=qk 8 (XS Jp YS W9 Yl YU Yz)
def ZH:Fn:=yr K5
structure Tx (K:Frag):Prop where
 NW:FD K "is_whole" Us
 M6:FD K "is_even" UG
 Py:FD K "leaves_no_kind_out" XN
 OA:FD K "count_kinds" Vp
 Ox:FD K "first_pairs" VA
 Ot:FD K "multiply_at" Vt
 Oj:FD K "_law_cell_at" Vh
 O5:FD K "_law_take" V0
 OG:FD K "_law_named" VL
 PV:FD K "is_whole_below" X1
 Nh:FD K "is_wholes" VY
 P9:FD K "count_shares" Vi
 Oq:FD K "count_sizes" Vx
 NL:FD K "multiply" Uv
 O0:FD K "_law_state" VP
 PU:FD K "_law_mixed_row" XZ
 OZ:FD K "_law_plain" VQ
 NQ:FD K "_law_mix" Ue
 PO:FD K "is_wholes_below" XU
 P4:FD K "require_place" X7
 Oe:FD K "require_kind" Vf
 Ou:FD K "kind_shares" Vk
 Ob:FD K "search_break" Ve
 OB:FD K "require_mix" Vr
 OU:FD K "_law_known" VI
 Ny:FD K "is_table" Uh
 OL:FD K "_law_table" VJ
 P2:FD K "require_table" X6
 OJ:FD K "kinds_many" VN
 N1:FD K "near_of" US
 O2:FD K "shares_of" V6
 OD:FD K "first_break" Vl
 Nk:FD K "is_steady" VW
 Nv:FD K "is_break" Ul
 PX:FD K "require_steady" X2
 Lk:FD K "is_mix" Te
 LJ:FD K "number" Ts
 Hk:FD K "sizes" SK
 MP:FD K "product" U1
 Hu:FD K "added" Sj
 HM:FD K "power" So
 PD:FD K "_law_numbers_right" XJ
 PH:FD K "_law_mixes_right" XT
 DN:FD K "law" Ko
 CC:nsIn K mainGlobals "abs" = some none
 DP:nsIn K mainGlobals "all" = some none
 EH:nsIn K mainGlobals "bool" = some none
 Nc:nsIn K mainGlobals "enumerate" = some none
 Co:nsIn K mainGlobals "int" = some none
 OM:nsIn K mainGlobals "isinstance" = some none
 DS:nsIn K mainGlobals "len" = some none
 F8:nsIn K mainGlobals "list" = some none
 D9:nsIn K mainGlobals "max" = some none
 Cj:nsIn K mainGlobals "min" = some none
 FL:nsIn K mainGlobals "range" = some none
 DQ:nsIn K mainGlobals "set" = some none
 IH:nsIn K mainGlobals "sorted" = some none
 Cn:nsIn K mainGlobals "sum" = some none
 HK:nsIn K mainGlobals "tuple" = some none
 CF:nsIn K mainGlobals "zip" = some none
 OE:CD K "MOST_PLACES" 8
 OI:CD K "MOST_TIMES" 8
section
variable {K:Frag}
theorem bu (X:K.In h)(G:h.Ns mainGlobals mg)(T:Tx K):Bu mg:=⟨a0 X G T.CC,a0 X G T.DP,a0 X G T.EH,a0 X G T.Nc,a0 X G T.Co,a0 X G T.OM,a0 X G T.DS,a0 X G T.F8,a0 X G T.D9,a0 X G T.Cj,a0 X G T.FL,a0 X G T.DQ,a0 X G T.IH,a0 X G T.Cn,a0 X G T.HK,a0 X G T.CF,(let ⟨t,e⟩:=T.OE;⟨t,aV X G e⟩),(let ⟨t,e⟩:=T.OI;⟨t,aV X G e⟩)⟩
structure Zz (K:Frag)(h:Heap)(mg:Str->Option Value):Prop where
 X:K.In h
 G:h.Ns mainGlobals mg
 T:Tx K
 B:Bu mg
theorem zz (X:K.In h)(G:h.Ns mainGlobals mg)(T:Tx K):Zz K h mg:=⟨X,G,T,bu X G T⟩
theorem Ut (Z:Zz K h mg):zI P w K mg base 1 "is_whole" 1 gu:=by
 obtain⟨f,fd,F,a⟩:=Z.T.NW;exact(qJ F (aV Z.X Z.G a) Na (λ _ _ _ _ _ _=>yi λ _=>rfl) λ c A outer s H E r=>zu (z7 (Zf (Y7 .int Z.B.Yk Z.B.QW (by rfl) (zi 0)) (ZZ (Hg (Y7 .bl Z.B.Yk Z.B.Ek (by rfl) (zi 0)))))) (zE):zI P w K mg base 1 "is_whole" 1 Yu)
theorem MY (Z:Zz K h mg):zI P w K mg base 1 "is_even" 1 WX:=by
 obtain⟨f,fd,F,a⟩:=Z.T.M6;exact(qJ F (aV Z.X Z.G a) WR (λ _ _ _ _ _ _=>yi λ _=>rfl) λ c A outer s H E r=>zu (kE PassesOwn.never rfl (ZS rfl Z.B.ZN (zi 0)) (yY 1 2 rfl WR.nd) (zu (kE PassesOwn.never rfl (ZS rfl Z.B.ZN (zi 2)) (yY 3 4 rfl WR.nd) (zu (qZ (we (w5 (qU (jV r) (yQ (j5 r) (zi 4) zB) (yQ (j5 r) (zi 1) (zi 3))) (Ze (qU (jV r) (qg (qg (zi 0) (zi 3)) (zi 1)) (zi 4))))) (zu (z7 jI) zE) zE) zE)) zE)) (zu (z7 jI) zE):zI P w K mg base 1 "is_even" 1 UA).iso
theorem Px (Z:Zz K h mg):zI P w K mg base 1 "leaves_no_kind_out" 1 K3:=by
 obtain⟨f,fd,F,a⟩:=Z.T.Py;exact(qJ F (aV Z.X Z.G a) XH (λ _ _ _ _ _ _=>yi λ _=>rfl) λ c A outer s H E r=>zu (qx 1 XH.nd (jH (qO (N:=["row","kind"]) 2 [] (yd (zi 0)) (λ _ _ _=>⟨qy 0 (qz (by kernel_rfl)),qH,Sr (λ _ _ z=>z) rfl rfl (by intro _ h;cases h<;>rfl) (yd (zi 0)) (qy 1 (qz (by kernel_rfl))) qH (qI (zi 1))⟩)))) (zu (z7 (YX rfl Z.B.Km (yB (qO (N:=["kind","standing"]) 1 [1] (jn rfl Z.B.ji (Jx rfl Z.B.QV (jJ (zi 1)))) (λ _ _ _=>⟨qy 0 (qz (by kernel_rfl)),qH,qI (EX RX (zi 0) (zi 1))⟩))))) zE):zI P w K mg base 1 "leaves_no_kind_out" 1 XI).iso
theorem ZJ (Z:Zz K h mg):zI P w K mg base 1 "count_kinds" 1 wc:=by
 obtain⟨f,fd,F,a⟩:=Z.T.OA;exact(qJ F (aV Z.X Z.G a) Oh (λ _ _ _ _ _ _=>yi λ _=>rfl) λ c A outer s H E r=>zu (z7 (yy (Jx rfl Z.B.QV (yB (qO (N:=["row"]) 1 [] (yd (zi 0)) (λ _ _ _=>⟨qy 0 (qz (by kernel_rfl)),qH,qI (Jx rfl Z.B.QV (jJ (zi 0)))⟩)))) zB)) (zE):zI P w K mg base 1 "count_kinds" 1 Vy).iso
theorem Vj (Z:Zz K h mg):zI P w K mg base 1 "first_pairs" 1 g9:=by
 obtain⟨f,fd,F,a⟩:=Z.T.Ox;exact(qJ F (aV Z.X Z.G a) Yf (λ _ _ _ _ _ _=>yi λ _=>rfl) λ c A outer s H E r=>zu (qx 1 Yf.nd HB) (zu (kE PassesOwn.never rfl (ZS rfl Z.B.ZN (zi 0)) (yY 2 3 rfl Yf.nd) (zu (kE PassesOwn.never rfl (ZS rfl Z.B.ZN (zi 3)) (yY 4 5 rfl Yf.nd) (zu (jg (NK (zi 1) (zi 5) (yF (zm (zi 2) (zm (zi 4) zy)) (zO (zO qT))))) zE)) zE)) (zu (z7 (zi 1)) zE)):zI P w K mg base 1 "first_pairs" 1 Wt).iso
theorem OC (Z:Zz K h mg):zI P w K mg base 1 "multiply_at" 3 Yi:=by
 obtain⟨f,fd,F,a⟩:=Z.T.Ot;exact(qJ F (aV Z.X Z.G a) P6 (λ _ _ _ _ _ _=>gT λ _ _ _=>rfl) λ c A outer s H E r=>zu (z7 (Gr rfl Z.B.Kg (yB (qO (N:=["first","row","second","many","other"]) 4 [2] (Y3 rfl Z.B.Kh (zi 1) (zi 0)) (λ _ _ _=>⟨yY 0 1 rfl (qz (by kernel_rfl)),qH,Sr (λ _ _ z=>z) rfl rfl (by intro _ h;cases h<;>rfl) (Y3 rfl Z.B.Kh (zi 4) (zi 1)) (yY 2 3 rfl (qz (by kernel_rfl))) qH (qI (yk (yk (zi 0) (zi 2)) (zi 3)))⟩))))) (zE):zI P w K mg base 1 "multiply_at" 3 Vu).iso
theorem Oi (Z:Zz K h mg):zI P w K mg base 1 "_law_cell_at" 2 Yg:=by
 obtain⟨f,fd,F,a⟩:=Z.T.Oj;exact(qJ F (aV Z.X Z.G a) P0 (λ _ _ _ _ _ _=>ky λ _ _=>rfl) λ c A outer s H E r=>zu (qZ (qU Xm (zi 1) (yM Z.B.yU (jJ (zi 0)))) (zu (z7 (qg (zi 0) (zi 1))) zE) zE) (zu (z7 zB) zE):zI P w K mg base 1 "_law_cell_at" 2 Vb)
theorem yx (Z:Zz K h mg):zI P w K mg base 1 "_law_take" 2 jM:=by
 obtain⟨f,fd,F,a⟩:=Z.T.O5;exact(qJ F (aV Z.X Z.G a) Ys (λ _ _ _ _ _ _=>ky λ _ _=>rfl) λ c A outer s H E r=>zu (qZ (wt (qg (zi 0) zB)) (zu (qx 2 Ys.nd (Zg (qg (zi 0) zB) (zi 1))) (zu (QE (ZT (qg (zi 0) zB) (zi 1)) (zi 0) zB) (zu (z7 (zi 2)) zE))) zE) (zu (QE (Zg (yy (yk (qg (zi 0) zB) zB) zB) zB) (zi 0) zB) (zu (qx 3 Ys.nd (Zg (yy (yy (yk (qg (zi 0) zB) (qg (zi 0) zB)) (yk zB (qg (zi 0) zB))) zB) zB)) (zu (qx 3 Ys.nd (Zg (yy (yk (zi 3) (zi 3)) (yk zB (zi 3))) zB)) (zu (z7 (Zg (ZT (zi 3) zB) (zi 1))) zE)))):zI P w K mg base 1 "_law_take" 2 Jm).yr
theorem Wx (Z:Zz K h mg):zI P w K mg base 1 "_law_named" 1 ZM:=by
 obtain⟨f,fd,F,a⟩:=Z.T.OG;exact(qJ F (aV Z.X Z.G a) Vv (λ _ _ _ _ _ _=>yi λ _=>rfl) λ c A outer s H E r=>zu (qx 1 Vv.nd (Nm rfl Z.B.L3 Z.B.D2 (LU rfl Z.B.Kg (jH (qO (N:=["_law_row"]) 1 [] (yd (zi 0)) (λ _ _ _=>⟨qy 0 (qz (by kernel_rfl)),qH,qI (W4 Z.B.JM (jJ (zi 0)))⟩))) (jU zy qT)))) (zu (z7 (wU Z.B.kP (yB (qO (N:=["_law_row","_law_some"]) 1 [1] (yd (zi 0)) (λ _ _ _=>⟨qy 0 (qz (by kernel_rfl)),qH,qI (wU Z.B.kP (yB (qO (N:=["_law_kind","_law_some"]) 1 [1] (yd (zi 0)) (λ _ _ _=>⟨qy 0 (qz (by kernel_rfl)),qH,qI (N8 r (zi 1) (zi 0))⟩))))⟩))))) zE):zI P w K mg base 1 "_law_named" 1 WB)
theorem Wb (Z:Zz K h mg):zI P w K mg base 2 "is_whole_below" 2 Qm:=by
 obtain⟨f,fd,F,a⟩:=Z.T.PV;exact(qJ F (aV Z.X Z.G a) PM (λ _ _ _ _ _ _=>ky λ _ _=>rfl) λ c A outer s H E r=>zu (z7 (Zf (zD (Ut Z).up r (zm (zi 0) zy)) (ZZ (S9 KI Xm zB (zi 0) (zi 1))))) (zE):zI P w K mg base 2 "is_whole_below" 2 Wc)
theorem WJ (Z:Zz K h mg):zI P w K mg base 2 "is_wholes" 2 ZO:=by
 obtain⟨f,fd,F,a⟩:=Z.T.Nh;exact(qJ F (aV Z.X Z.G a) OW (λ _ _ _ _ _ _=>ky λ _ _=>rfl) λ c A outer s H E r=>zu (z7 (Zf (Y7 .tup Z.B.Yk Z.B.kP (by rfl) (zi 0)) (Zf (yQ (j5 r) (yM Z.B.yU (jJ (zi 0))) (zi 1)) (ZZ (YX rfl Z.B.Km (yB (qO (N:=["part"]) 1 [] (yd (zi 0)) (λ _ _ _=>⟨qy 0 (qz (by kernel_rfl)),qH,qI (zD (Ut Z).up r (zm (zi 0) zy))⟩)))))))) (zE):zI P w K mg base 2 "is_wholes" 2 WH)
theorem Qp (Z:Zz K h mg):zI P w K mg base 2 "count_shares" 3 yw:=by
 obtain⟨f,fd,F,a⟩:=Z.T.P9;exact(qJ F (aV Z.X Z.G a) Yc (λ _ _ _ _ _ _=>gT λ _ _ _=>rfl) λ c A outer s H E r=>zu (qx 3 Yc.nd (zD (ZJ Z).up r (zm (zi 0) zy))) (zu (WG 4 (N:=["kind","many"]) 1 [3] Yc.nd rfl (cps (by kernel_rfl)) (by kernel_rfl) (jn rfl Z.B.ji (zi 3)) (λ _ _ _=>⟨qy 0 (qz (by kernel_rfl)),qH,qI (yk (jU (zm zB zy) (zO qT)) (zi 1))⟩)) (zu (kE PassesOwn.never rfl (Y3 rfl Z.B.Kh (qg (zi 0) (zi 1)) (qg (zi 0) (zi 2))) (yY 5 6 rfl Yc.nd) (zu (IB (qg (zi 4) (zi 5)) (zi 6) zB) zE)) (zu (z7 (wU Z.B.kP (yB (qO (N:=["row"]) 1 [] (yd (zi 4)) (λ _ _ _=>⟨qy 0 (qz (by kernel_rfl)),qH,qI (wU Z.B.kP (jJ (zi 0)))⟩))))) zE))):zI P w K mg base 2 "count_shares" 3 Vd).iso
theorem Ov (Z:Zz K h mg):zI P w K mg base 2 "count_sizes" 1 Ws:=by
 obtain⟨f,fd,F,a⟩:=Z.T.Oq;exact(qJ F (aV Z.X Z.G a) Oa (λ _ _ _ _ _ _=>yi λ _=>rfl) λ c A outer s H E r=>zu (z7 (jH (qO (N:=["kind","table"]) 1 [0] (jn rfl Z.B.ji (zD (ZJ Z).up r (zm (zi 0) zy))) (λ _ _ _=>⟨qy 0 (qz (by kernel_rfl)),qH,qI (Mw (qg (zi 1) zB) (zi 0))⟩)))) (zE):zI P w K mg base 2 "count_sizes" 1 VF).iso
theorem Um (Z:Zz K h mg):zI P w K mg base 2 "multiply" 3 Qt:=by
 obtain⟨f,fd,F,a⟩:=Z.T.NL;exact(qJ F (aV Z.X Z.G a) Nf (λ _ _ _ _ _ _=>gT λ _ _ _=>rfl) λ c A outer s H E r=>zu (z7 (wU Z.B.kP (yB (qO (N:=["by_kind","one","other"]) 1 [1,2] (yd (zi 0)) (λ _ _ _=>⟨qy 0 (qz (by kernel_rfl)),qH,qI (zD (OC Z).up r (zm (zi 0) (zm (zi 1) (zm (zi 2) zy))))⟩))))) (zE):zI P w K mg base 2 "multiply" 3 WQ)
theorem OK (Z:Zz K h mg):zI P w K mg base 2 "_law_state" 2 Qs:=by
 obtain⟨f,fd,F,a⟩:=Z.T.O0;exact(qJ F (aV Z.X Z.G a) Vo (λ _ _ _ _ _ _=>ky λ _ _=>rfl) λ c A outer s H E r=>zu (qx 2 Vo.nd (zD (Oi Z).up r (zm (zi 0) (zm (zi 1) zy)))) (zu (qZ (qU CZ (zi 2) (Gq zB zB)) (zu (z7 (jU (zm (kQ (zi 2) (Gq zB zB)) (zm jI zy)) (zO (zO qT)))) zE) zE) (zu (z7 (jU (zm (Zg (zi 2) zB) (zm jI zy)) (zO (zO qT)))) zE)):zI P w K mg base 2 "_law_state" 2 VO)
theorem XY (Z:Zz K h mg):zI P w K mg base 2 "_law_mixed_row" 2 Qn:=by
 obtain⟨f,fd,F,a⟩:=Z.T.PU;exact(qJ F (aV Z.X Z.G a) K8 (λ _ _ _ _ _ _=>ky λ _ _=>rfl) λ c A outer s H E r=>zu (qx 2 K8.nd (W4 Z.B.JM (jJ (zi 1)))) (zu (qx 3 K8.nd (jU zy qT)) (zu (MZ 1000 PassesOwn.never (qU (jV r) (zi 2) (jU zy qT)) (zu (jg (WT (zi 3) (Mp (zi 2) (zD (yx Z).up r (zm (zi 0) (zm (yM Z.B.yU (jJ (zi 2))) zy)))))) zE)) (zu (z7 (zi 3)) zE))):zI P w K mg base 2 "_law_mixed_row" 2 K9)
theorem OP (Z:Zz K h mg):zI P w K mg base 2 "_law_plain" 1 Yr:=by
 obtain⟨f,fd,F,a⟩:=Z.T.OZ;exact(qJ F (aV Z.X Z.G a) yX (λ _ _ _ _ _ _=>yi λ _=>rfl) λ c A outer s H E r=>zu (qx 1 yX.nd (zD (yx Z).up r (zm (zi 0) (zm zB zy)))) (zu (qx 2 yX.nd (qg (jU (zm zB (zm zB (zm zB (zm zB (zm zB (zm zB (zm zB (zm zB zy)))))))) (zO (zO (zO (zO (zO (zO (zO (zO qT))))))))) (zD (yx Z).up r (zm (zi 0) (zm zB zy))))) (zu (qZ (qU (j5 r) (zi 1) zB) (zu (z7 (jH (qO (N:=["_law_a","_law_many"]) 1 [2] (jn rfl Z.B.ji (zi 2)) (λ _ _ _=>⟨qy 0 (qz (by kernel_rfl)),qH,qI (jH (qO (N:=["_law_b","_law_a","_law_many"]) 1 [0,1] (jn rfl Z.B.ji (zi 1)) (λ _ _ _=>⟨qy 0 (qz (by kernel_rfl)),qH,qI (Gb rfl Z.B.GQ (Gh Z.B.G4 (kQ (zi 1) (zi 0))) (kQ (zi 2) (Gh Z.B.G4 (kQ (zi 1) (zi 0)))))⟩)))⟩)))) zE) zE) (zu (qZ (qU (j5 r) (zi 1) zB) (zu (qx 2 yX.nd (qg (jU (zm zB (zm zB (zm zB zy))) (zO (zO (zO qT)))) (zD (yx Z).up r (zm (zi 0) (zm zB zy))))) (zu (z7 (jH (qO (N:=["_law_a","_law_many"]) 1 [2] (jn rfl Z.B.ji (zi 2)) (λ _ _ _=>⟨qy 0 (qz (by kernel_rfl)),qH,qI (jH (qO (N:=["_law_b","_law_a"]) 1 [0] (jn rfl Z.B.ji (zi 1)) (λ _ _ _=>⟨qy 0 (qz (by kernel_rfl)),qH,qI (qg (jU (zm zB (zm zB (zm zB (zm zB (zm zB (zm zB (zm zB (zm zB zy)))))))) (zO (zO (zO (zO (zO (zO (zO (zO qT))))))))) (TR (zi 1) (zi 0)))⟩)))⟩)))) zE)) zE) (zu (qZ (qU (j5 r) (zi 1) zB) (zu (z7 (jH (qO (N:=["_law_a","_law_many"]) 1 [2] (jn rfl Z.B.ji (zi 2)) (λ _ _ _=>⟨qy 0 (qz (by kernel_rfl)),qH,qI (jH (qO (N:=["_law_b","_law_a"]) 1 [0] (jn rfl Z.B.ji (zi 1)) (λ _ _ _=>⟨qy 0 (qz (by kernel_rfl)),qH,qI (Js Z.B.QW (yQ (jV r) (zi 1) (zi 0)))⟩)))⟩)))) zE) zE) (zu (qZ (qU (j5 r) (zi 1) zB) (zu (Gz (qg (jU (zm (yF (zm zB (zm zB zy)) (zO (zO qT))) (zm (yF (zm zB (zm zB zy)) (zO (zO qT))) (zm (yF (zm zB (zm zB zy)) (zO (zO qT))) (zm (yF (zm zB (zm zB zy)) (zO (zO qT))) (zm (yF (zm zB (zm zB zy)) (zO (zO qT))) zy))))) (zO (zO (zO (zO (zO qT)))))) (zD (yx Z).up r (zm (zi 0) (zm zB zy)))) (yY 3 4 rfl yX.nd)) (zu (qx 2 yX.nd (yk (zi 3) (zi 4))) (zu (z7 (jH (qO (N:=["_law_a","_law_many","_law_wide"]) 1 [2,3] (jn rfl Z.B.ji (zi 2)) (λ _ _ _=>⟨qy 0 (qz (by kernel_rfl)),qH,qI (jH (qO (N:=["_law_b","_law_a","_law_wide"]) 1 [0,2] (jn rfl Z.B.ji (zi 1)) (λ _ _ _=>⟨qy 0 (qz (by kernel_rfl)),qH,qI (yy (Js Z.B.QW (yQ (jV r) (zi 1) (zi 0))) (Js Z.B.QW (yQ (jV r) (ZT (zi 1) (zi 2)) (ZT (zi 0) (zi 2)))))⟩)))⟩)))) zE))) zE) (zu (qZ (qU (j5 r) (zi 1) zB) (zu (qx 5 yX.nd (jU (zm (yF (zm zB (zm zB zy)) (zO (zO qT))) (zm (yF (zm zB (zm zB zy)) (zO (zO qT))) (zm (yF (zm zB (zm zB zy)) (zO (zO qT))) (zm (yF (zm zB (zm zB zy)) (zO (zO qT))) (zm (yF (zm zB (zm zB zy)) (zO (zO qT))) (zm (yF (zm zB (zm zB zy)) (zO (zO qT))) zy)))))) (zO (zO (zO (zO (zO (zO qT)))))))) (zu (z7 (jH (qO (N:=["_law_a","_law_some"]) 1 [5] (yd (zi 5)) (λ _ _ _=>⟨qy 0 (qz (by kernel_rfl)),qH,qI (jH (qO (N:=["_law_b","_law_a"]) 1 [0] (yd (zi 1)) (λ _ _ _=>⟨qy 0 (qz (by kernel_rfl)),qH,qI (kQ zB (yM Z.B.yU (yB (qO (N:=["_law_one","_law_b"]) 1 [0] (yd (zi 1)) (λ _ _ _=>⟨qy 0 (qz (by kernel_rfl)),Ti (FW RX (zi 0) (zi 1)),qI (zi 0)⟩)))))⟩)))⟩)))) zE)) zE) (zu (qZ (qU (j5 r) (zi 1) zB) (zu (qx 2 yX.nd (qg (jU (zm zB (zm zB (zm zB zy))) (zO (zO (zO qT)))) (zD (yx Z).up r (zm (zi 0) (zm zB zy))))) (zu (z7 (jH (qO (N:=["_law_a","_law_many"]) 1 [2] (jn rfl Z.B.ji (zi 2)) (λ _ _ _=>⟨qy 0 (qz (by kernel_rfl)),qH,qI (jH (qO (N:=["_law_b","_law_a"]) 1 [0] (jn rfl Z.B.ji (zi 1)) (λ _ _ _=>⟨qy 0 (qz (by kernel_rfl)),qH,qI (TR (zi 1) (zi 0))⟩)))⟩)))) zE)) zE) (zu (qx 3 yX.nd (qg (jU (zm zB (zm zB (zm zB zy))) (zO (zO (zO qT)))) (zD (yx Z).up r (zm (zi 0) (zm zB zy))))) (zu (qx 6 yX.nd (jU (zm zB (zm zB (zm (qg (jU (zm zB (zm zB zy)) (zO (zO qT))) (Js Z.B.QW (yQ (j5 r) (zi 3) zB))) (zm zB zy)))) (zO (zO (zO (zO qT)))))) (zu (qx 7 yX.nd (jU zy qT)) (zu (kE PassesOwn.never rfl (jn rfl Z.B.ji (yk zB (zi 3))) (qy 8 yX.nd) (zu (qx 9 yX.nd (jH (qO (N:=["_law_b","_law_wide","_law_ring","_law_a"]) 1 [3,6,8] (jn rfl Z.B.ji (yk zB (zi 3))) (λ _ _ _=>⟨qy 0 (qz (by kernel_rfl)),qH,qI (qg (zi 2) (Zg (Gh Z.B.G4 (kQ (zi 3) (zi 0))) (zi 1)))⟩)))) (zu (qx 10 yX.nd (jH (qO (N:=["_law_b","_law_wide","_law_a"]) 1 [3,8] (jn rfl Z.B.ji (yk zB (zi 3))) (λ _ _ _=>⟨qy 0 (qz (by kernel_rfl)),qH,qI (Js Z.B.QW (yQ (jV r) (ZT (zi 2) (zi 1)) (ZT (zi 0) (zi 1))))⟩)))) (zu (qZ (qU (j5 r) (zi 1) zB) (zu (jg (WT (zi 7) (jH (qO (N:=["_law_b","_law_near","_law_far"]) 1 [9,10] (jn rfl Z.B.ji (yk zB (zi 3))) (λ _ _ _=>⟨qy 0 (qz (by kernel_rfl)),qH,qI (yy (yk zB (qg (zi 2) (zi 0))) (qg (zi 1) (zi 0)))⟩))))) zE) (zu (jg (WT (zi 7) (jH (qO (N:=["_law_b","_law_near","_law_far"]) 1 [9,10] (jn rfl Z.B.ji (yk zB (zi 3))) (λ _ _ _=>⟨qy 0 (qz (by kernel_rfl)),qH,qI (Eu (qU (j5 r) (qg (zi 2) (zi 0)) zB) zB (qg (zi 1) (zi 0)))⟩))))) zE)) zE)))) (zu (z7 (zi 7)) zE)))))))))))):zI P w K mg base 2 "_law_plain" 1 WC)
theorem Nz (Z:Zz K h mg):zI P w K mg base 2 "_law_mix" 2 Jp:=by
 obtain⟨f,fd,F,a⟩:=Z.T.NQ;exact(qJ F (aV Z.X Z.G a) VV (λ _ _ _ _ _ _=>ky λ _ _=>rfl) λ c A outer s H E r=>zu (qx 2 VV.nd (qg (jU (zm zB (zm zB (zm zB (zm (Gq zB zB) zy)))) (zO (zO (zO (zO qT))))) (zD (yx Z).up r (zm (zi 0) (zm zB zy))))) (zu (z7 (wU Z.B.kP (yB (qO (N:=["_law_kind","_law_state_here","_law_far"]) 1 [0,2] (jn rfl Z.B.ji (zi 1)) (λ _ _ _=>⟨qy 0 (qz (by kernel_rfl)),qH,qI (kQ (zD (yx Z).up r (zm (zi 1) (zm (zi 2) zy))) (ZT (zi 2) zB))⟩))))) zE):zI P w K mg base 2 "_law_mix" 2 Yx).yr
theorem XW (Z:Zz K h mg):zI P w K mg base 3 "is_wholes_below" 3 gZ:=by
 obtain⟨f,fd,F,a⟩:=Z.T.PO;exact(qJ F (aV Z.X Z.G a) PL (λ _ _ _ _ _ _=>gT λ _ _ _=>rfl) λ c A outer s H E r=>zu (z7 (Zf (zD (WJ Z).up r (zm (zi 0) (zm (zi 1) zy))) (ZZ (YX rfl Z.B.Km (yB (qO (N:=["part","limit"]) 1 [2] (yd (zi 0)) (λ _ _ _=>⟨qy 0 (qz (by kernel_rfl)),qH,qI (S9 KI Xm zB (zi 0) (zi 1))⟩))))))) (zE):zI P w K mg base 3 "is_wholes_below" 3 Yb)
theorem Wg (Z:Zz K h mg):zI P w K mg base 3 "require_place" 2 Jd:=by
 obtain⟨f,fd,F,a⟩:=Z.T.P4;exact(qJ F (aV Z.X Z.G a) PZ (λ _ _ _ _ _ _=>ky λ _ _=>rfl) λ c A outer s H E r=>zu (qZ (wm (wt (zD (Wb Z).up r (zm (zi 1) (zm (yM Z.B.yU (jJ (zi 0))) zy))))) (zu QF zE) zE) (zE):zI P w K mg base 3 "require_place" 2 We)
theorem Yh (Z:Zz K h mg):zI P w K mg base 3 "require_kind" 2 Je:=by
 obtain⟨f,fd,F,a⟩:=Z.T.Oe;exact(qJ F (aV Z.X Z.G a) P1 (λ _ _ _ _ _ _=>ky λ _ _=>rfl) λ c A outer s H E r=>zu (qZ (wm (wt (zD (Wb Z).up r (zm (zi 1) (zm (zD (ZJ Z).up r (zm (zi 0) zy)) zy))))) (zu QF zE) zE) (zE):zI P w K mg base 3 "require_kind" 2 Wh)
theorem Wq (Z:Zz K h mg):zI P w K mg base 3 "kind_shares" 1 Qq:=by
 obtain⟨f,fd,F,a⟩:=Z.T.Ou;exact(qJ F (aV Z.X Z.G a) Wm (λ _ _ _ _ _ _=>yi λ _=>rfl) λ c A outer s H E r=>zu (qx 1 Wm.nd (zD (Vj Z).up r (zm (zi 0) zy))) (zu (WG 2 (N:=["kind","firsts"]) 1 [1] Wm.nd rfl (cps (by kernel_rfl)) (by kernel_rfl) (jn rfl Z.B.ji (zD (ZJ Z).up r (zm (zi 0) zy))) (λ _ _ _=>⟨qy 0 (qz (by kernel_rfl)),qH,qI (Mf r (zi 1) (zi 0))⟩)) (zu (z7 (jH (qO (N:=["a","b","table"]) 2 [0] (yd (zi 2)) (λ _ _ _=>⟨yY 0 1 rfl (qz (by kernel_rfl)),qH,qI (zD (Qp Z).up r (zm (zi 2) (zm (zi 0) (zm (zi 1) zy))))⟩)))) zE)):zI P w K mg base 3 "kind_shares" 1 Vs).iso
theorem Wl (Z:Zz K h mg):zI P w K mg base 3 "search_break" 1 wM:=by
 obtain⟨f,fd,F,a⟩:=Z.T.Ob;exact(qJ F (aV Z.X Z.G a) Jc (λ _ _ _ _ _ _=>yi λ _=>rfl) λ c A outer s H E r=>zu (kE PassesOwn.never rfl (M5 (zD (Vj Z).up r (zm (zi 0) zy))) (N5 1 2 3 rfl Jc.nd) (zu (qx 4 Jc.nd (zD (Qp Z).up r (zm (zi 0) (zm (zi 2) (zm (zi 3) zy))))) (zu (kE PassesOwn.never rfl (ZS rfl Z.B.ZN (zi 0)) (yY 5 6 rfl Jc.nd) (zu (kE PassesOwn.never rfl (ZS rfl Z.B.ZN (zi 6)) (yY 7 8 rfl Jc.nd) (zu (qZ (we (Gj (qU (j5 r) (zi 8) (zi 1)) (W2 (qU (jV r) (zD (Qp Z).up r (zm (zi 0) (zm (zi 5) (zm (zi 7) zy)))) (zi 4))))) (zu (z7 (yF (zm (zi 2) (zm (zi 3) (zm (zi 5) (zm (zi 7) zy)))) (zO (zO (zO (zO qT)))))) zE) zE) zE)) zE)) zE))) (zu (z7 QJ) zE):zI P w K mg base 3 "search_break" 1 X9).iso
theorem Jh (Z:Zz K h mg):zI P w K mg base 3 "require_mix" 2 Qr:=by
 obtain⟨f,fd,F,a⟩:=Z.T.OB;exact(qJ F (aV Z.X Z.G a) Og (λ _ _ _ _ _ _=>ky λ _ _=>rfl) λ c A outer s H E r=>zu (qZ (wm (wt (zD (WJ Z).up r (zm (zi 1) (zm (zD (ZJ Z).up r (zm (zi 0) zy)) zy))))) (zu QF zE) zE) (zE):zI P w K mg base 3 "require_mix" 2 Wu)
theorem WE (Z:Zz K h mg):zI P w K mg base 3 "_law_known" 1 wN:=by
 obtain⟨f,fd,F,a⟩:=Z.T.OU;exact(qJ F (aV Z.X Z.G a) Yj (λ _ _ _ _ _ _=>yi λ _=>rfl) λ c A outer s H E r=>zu (qx 1 Yj.nd (zD (Wx Z).up r (zm (zD (OP Z).up r (zm (zi 0) zy)) zy))) (zu (qx 2 Yj.nd (zD (XY Z).up r (zm (zi 0) (zm (NY rfl Z.B.JM Z.B.ji (yM Z.B.yU (jJ (zi 1)))) zy)))) (zu (qx 3 Yj.nd (yy (jU (zm zB zy) (zO qT)) (zD (XY Z).up r (zm (zi 0) (zm (NX rfl Z.B.JM Z.B.ji zB (yy zB (Jx rfl Z.B.QV (yB (qO (N:=["_law_row"]) 1 [] (yd (zi 1)) (λ _ _ _=>⟨qy 0 (qz (by kernel_rfl)),qH,qI (Jx rfl Z.B.QV (jJ (zi 0)))⟩)))))) zy))))) (zu (z7 (wU Z.B.kP (yB (qO (N:=["_law_a","_law_rows","_law_order","_law_kinds"]) 1 [1,2,3] (yd (zi 2)) (λ _ _ _=>⟨qy 0 (qz (by kernel_rfl)),qH,qI (wU Z.B.kP (yB (qO (N:=["_law_b","_law_a","_law_rows","_law_kinds"]) 1 [0,1,3] (yd (zi 2)) (λ _ _ _=>⟨qy 0 (qz (by kernel_rfl)),qH,qI (qg (zi 3) (qg (qg (zi 2) (zi 1)) (zi 0)))⟩))))⟩))))) zE))):zI P w K mg base 3 "_law_known" 1 Ym).yr
theorem Uw (Z:Zz K h mg):zI P w K mg base 4 "is_table" 1 gv:=by
 obtain⟨f,fd,F,a⟩:=Z.T.Ny;exact(qJ F (aV Z.X Z.G a) Ua (λ _ _ _ _ _ _=>yi λ _=>rfl) λ c A outer s H E r=>zu (qZ (we (w5 (wm (wt (Y7 .tup Z.B.Yk Z.B.kP (by rfl) (zi 0)))) (Ze (wm (F2 KI KI zB (yM Z.B.yU (jJ (zi 0))) (Th rfl Z.B.Oo.choose_spec)))))) (zu (z7 jI) zE) zE) (zu (qx 1 Ua.nd (yM Z.B.yU (jJ (zi 0)))) (zu (qZ (wm (wt (YX rfl Z.B.Km (yB (qO (N:=["row","many"]) 1 [1] (yd (zi 0)) (λ _ _ _=>⟨qy 0 (qz (by kernel_rfl)),qH,qI (zD (XW Z).up r (zm (zi 0) (zm (zi 1) (zm (zi 1) zy))))⟩)))))) (zu (z7 jI) zE) zE) (zu (z7 (Zf (zD (MY Z).up r (zm (zi 0) zy)) (ZZ (zD (Px Z).up r (zm (zi 0) zy))))) zE))):zI P w K mg base 4 "is_table" 1 WN)
theorem OV (Z:Zz K h mg):zI P w K mg base 4 "_law_table" 1 ZL:=by
 obtain⟨f,fd,F,a⟩:=Z.T.OL;exact(qJ F (aV Z.X Z.G a) gr (λ _ _ _ _ _ _=>yi λ _=>rfl) λ c A outer s H E r=>zu (qx 1 gr.nd (zD (yx Z).up r (zm (zi 0) (zm zB zy)))) (zu (qZ (qU (j5 r) (zi 1) zB) (zu (z7 (zD (WE Z).up r (zm (zi 0) zy))) zE) zE) (zu (WG 2 (N:=["_law_row"]) 1 [] gr.nd rfl (cps (by kernel_rfl)) (by kernel_rfl) (yd (zD (WE Z).up r (zm (zi 0) zy))) (λ _ _ _=>⟨qy 0 (qz (by kernel_rfl)),qH,qI (W4 Z.B.JM (jJ (zi 0)))⟩)) (zu (qx 3 gr.nd (yM Z.B.yU (jJ (zi 2)))) (zu (qZ (we (Gj (qU (j5 r) (zi 1) zB) (W2 (qU CS (zi 3) zB)))) (zu (qx 4 gr.nd (zD (yx Z).up r (zm (zi 0) (zm (zi 3) zy)))) (zu (qx 5 gr.nd (Zg (yy (yy (zi 4) zB) (zD (yx Z).up r (zm (zi 0) (zm (kQ (zi 3) zB) zy)))) (zi 3))) (zu (QE (yy zB (zD (yx Z).up r (zm (zi 0) (zm (kQ (zi 3) zB) zy)))) (qg (zi 2) (zi 4)) (zi 5)) (zu (QE (qg (qg (zi 2) (zi 4)) (zi 5)) (qg (zi 2) (zi 5)) (zi 4)) (zu (z7 (zD (Wx Z).up r (zm (zi 2) zy))) zE))))) zE) (zu (qx 6 gr.nd (qg (jU (zm zB (zm zB (zm zB zy))) (zO (zO (zO qT)))) (zD (yx Z).up r (zm (zi 0) (zm zB zy))))) (zu (kE PassesOwn.never rfl (jn rfl Z.B.ji (zi 3)) (qy 4 gr.nd) (zu (kE PassesOwn.never rfl (jn rfl Z.B.ji (zi 4)) (qy 5 gr.nd) (zu (QE (yy zB (zD (yx Z).up r (zm (zi 0) (zm (Gb rfl Z.B.GQ (zi 6) (kQ (zi 3) zB)) zy)))) (qg (zi 2) (zi 4)) (zi 5)) (zu (QE (qg (qg (zi 2) (zi 4)) (zi 5)) (qg (zi 2) (zi 5)) (zi 4)) zE))) zE)) (zu (z7 (zD (Wx Z).up r (zm (zi 2) zy))) zE))))))):zI P w K mg base 4 "_law_table" 1 Yp).yr
theorem g7 (Z:Zz K h mg):zI P w K mg base 5 "require_table" 1 wb:=by
 obtain⟨f,fd,F,a⟩:=Z.T.P2;exact(qJ F (aV Z.X Z.G a) PY (λ _ _ _ _ _ _=>yi λ _=>rfl) λ c A outer s H E r=>zu (qZ (wm (wt (zD (Uw Z).up r (zm (zi 0) zy)))) (zu QF zE) zE) (zE):zI P w K mg base 5 "require_table" 1 Wf)
theorem VG (Z:Zz K h mg):zI P w K mg base 6 "kinds_many" 1 Yl:=by
 obtain⟨f,fd,F,a⟩:=Z.T.OJ;exact(qJ F (aV Z.X Z.G a) Oz (λ _ _ _ _ _ _=>yi λ _=>rfl) λ c A outer s H E r=>zu (jg (zD (g7 Z).up r (zm (zi 0) zy))) (zu (z7 (zD (ZJ Z).up r (zm (zi 0) zy))) zE):zI P w K mg base 6 "kinds_many" 1 VT).iso
theorem Lf (Z:Zz K h mg):zI P w K mg base 6 "near_of" 3 Jq:=by
 obtain⟨f,fd,F,a⟩:=Z.T.N1;exact(qJ F (aV Z.X Z.G a) NC (λ _ _ _ _ _ _=>gT λ _ _ _=>rfl) λ c A outer s H E r=>zu (jg (zD (g7 Z).up r (zm (zi 0) zy))) (zu (jg (zD (Wg Z).up r (zm (zi 0) (zm (zi 1) zy)))) (zu (jg (zD (Yh Z).up r (zm (zi 0) (zm (zi 2) zy)))) (zu (z7 (jH (qO (N:=["other","by","kind"]) 2 [2] (ZS rfl Z.B.ZN (qg (zi 0) (zi 1))) (λ _ _ _=>⟨yY 0 1 rfl (qz (by kernel_rfl)),Ti (qU (j5 r) (zi 1) (zi 2)),qI (zi 0)⟩)))) zE))):zI P w K mg base 6 "near_of" 3 Uz).iso
theorem Ni (Z:Zz K h mg):zI P w K mg base 6 "shares_of" 3 Yt:=by
 obtain⟨f,fd,F,a⟩:=Z.T.O2;exact(qJ F (aV Z.X Z.G a) OT (λ _ _ _ _ _ _=>gT λ _ _ _=>rfl) λ c A outer s H E r=>zu (jg (zD (g7 Z).up r (zm (zi 0) zy))) (zu (jg (zD (Wg Z).up r (zm (zi 0) (zm (zi 1) zy)))) (zu (jg (zD (Wg Z).up r (zm (zi 0) (zm (zi 2) zy)))) (zu (z7 (zD (Qp Z).up r (zm (zi 0) (zm (zi 1) (zm (zi 2) zy))))) zE))):zI P w K mg base 6 "shares_of" 3 V3).iso
theorem Ow (Z:Zz K h mg):zI P w K mg base 6 "first_break" 1 g8:=by
 obtain⟨f,fd,F,a⟩:=Z.T.OD;exact(qJ F (aV Z.X Z.G a) P7 (λ _ _ _ _ _ _=>yi λ _=>rfl) λ c A outer s H E r=>zu (jg (zD (g7 Z).up r (zm (zi 0) zy))) (zu (z7 (zD (Wl Z).up r (zm (zi 0) zy))) zE):zI P w K mg base 6 "first_break" 1 VB).iso
theorem O7 (Z:Zz K h mg):zI P w K mg base 6 "is_steady" 1 Za:=by
 obtain⟨f,fd,F,a⟩:=Z.T.Nk;exact(qJ F (aV Z.X Z.G a) OY (λ _ _ _ _ _ _=>yi λ _=>rfl) λ c A outer s H E r=>zu (jg (zD (g7 Z).up r (zm (zi 0) zy))) (zu (z7 (yQ RS (zD (Wl Z).up r (zm (zi 0) zy)) QJ)) zE):zI P w K mg base 6 "is_steady" 1 V7).iso
theorem NP (Z:Zz K h mg):zI P w K mg base 6 "is_break" 2 Qv:=by
 obtain⟨f,fd,F,a⟩:=Z.T.Nv;exact(qJ F (aV Z.X Z.G a) VZ (λ _ _ _ _ _ _=>ky λ _ _=>rfl) λ c A outer s H E r=>zu (jg (zD (g7 Z).up r (zm (zi 0) zy))) (zu (qZ (wm (wt (zD (XW Z).up r (zm (zi 1) (zm zB (zm (yM Z.B.yU (jJ (zi 0))) zy)))))) (zu (z7 jI) zE) zE) (zu (Gz (zi 1) (IJ 2 3 4 5 rfl VZ.nd)) (zu (z7 (Zf (yQ (j5 r) (qg (qg (zi 0) (zi 2)) (zi 3)) (qg (qg (zi 0) (zi 4)) (zi 5))) (ZZ (yQ (jV r) (zD (Qp Z).up r (zm (zi 0) (zm (zi 2) (zm (zi 3) zy)))) (zD (Qp Z).up r (zm (zi 0) (zm (zi 4) (zm (zi 5) zy)))))))) zE))):zI P w K mg base 6 "is_break" 2 Uu).iso
theorem Ja (Z:Zz K h mg):zI P w K mg base 6 "require_steady" 1 g0:=by
 obtain⟨f,fd,F,a⟩:=Z.T.PX;exact(qJ F (aV Z.X Z.G a) PQ (λ _ _ _ _ _ _=>yi λ _=>rfl) λ c A outer s H E r=>zu (jg (zD (g7 Z).up r (zm (zi 0) zy))) (zu (qZ (qU ZX (zD (Wl Z).up r (zm (zi 0) zy)) QJ) (zu QF zE) zE) zE):zI P w K mg base 6 "require_steady" 1 Wa)
theorem II (Z:Zz K h mg):zI P w K mg base 6 "is_mix" 2 W9:=by
 obtain⟨f,fd,F,a⟩:=Z.T.Lk;exact(qJ F (aV Z.X Z.G a) N6 (λ _ _ _ _ _ _=>ky λ _ _=>rfl) λ c A outer s H E r=>zu (jg (zD (g7 Z).up r (zm (zi 0) zy))) (zu (z7 (zD (WJ Z).up r (zm (zi 1) (zm (zD (ZJ Z).up r (zm (zi 0) zy)) zy)))) zE):zI P w K mg base 6 "is_mix" 2 U8).iso
theorem QC (Z:Zz K h mg):zI P w K mg base 7 "number" 4 JA:=by
 obtain⟨f,fd,F,a⟩:=Z.T.LJ;exact(qJ F (aV Z.X Z.G a) Mo (λ _ _ _ _ _ _=>Bl λ _ _ _ _=>rfl) λ c A outer s H E r=>zu (jg (zD (Ja Z).up r (zm (zi 0) zy))) (zu (jg (zD (Yh Z).up r (zm (zi 0) (zm (zi 1) zy)))) (zu (jg (zD (Yh Z).up r (zm (zi 0) (zm (zi 2) zy)))) (zu (jg (zD (Yh Z).up r (zm (zi 0) (zm (zi 3) zy)))) (zu (z7 (qg (qg (qg (zD (Wq Z).up r (zm (zi 0) zy)) (zi 3)) (zi 1)) (zi 2))) zE)))):zI P w K mg base 7 "number" 4 Tz).iso
theorem FF (Z:Zz K h mg):zI P w K mg base 7 "sizes" 1 Gw:=by
 obtain⟨f,fd,F,a⟩:=Z.T.Hk;exact(qJ F (aV Z.X Z.G a) LZ (λ _ _ _ _ _ _=>yi λ _=>rfl) λ c A outer s H E r=>zu (jg (zD (Ja Z).up r (zm (zi 0) zy))) (zu (z7 (zD (Ov Z).up r (zm (zi 0) zy))) zE):zI P w K mg base 7 "sizes" 1 Sd).iso
theorem gx (Z:Zz K h mg):zI P w K mg base 7 "product" 3 Yz:=by
 obtain⟨f,fd,F,a⟩:=Z.T.MP;exact(qJ F (aV Z.X Z.G a) NO (λ _ _ _ _ _ _=>gT λ _ _ _=>rfl) λ c A outer s H E r=>zu (jg (zD (Ja Z).up r (zm (zi 0) zy))) (zu (jg (zD (Jh Z).up r (zm (zi 0) (zm (zi 1) zy)))) (zu (jg (zD (Jh Z).up r (zm (zi 0) (zm (zi 2) zy)))) (zu (z7 (zD (Um Z).up r (zm (zD (Wq Z).up r (zm (zi 0) zy)) (zm (zi 1) (zm (zi 2) zy))))) zE))):zI P w K mg base 7 "product" 3 UT).iso
theorem T6 (Z:Zz K h mg):zI P w K mg base 7 "added" 3 YS:=by
 obtain⟨f,fd,F,a⟩:=Z.T.Hu;exact(qJ F (aV Z.X Z.G a) LD (λ _ _ _ _ _ _=>gT λ _ _ _=>rfl) λ c A outer s H E r=>zu (jg (zD (Ja Z).up r (zm (zi 0) zy))) (zu (jg (zD (Jh Z).up r (zm (zi 0) (zm (zi 1) zy)))) (zu (jg (zD (Jh Z).up r (zm (zi 0) (zm (zi 2) zy)))) (zu (z7 (wU Z.B.kP (yB (qO (N:=["first","second"]) 2 [] (Y3 rfl Z.B.Kh (zi 1) (zi 2)) (λ _ _ _=>⟨yY 0 1 rfl (qz (by kernel_rfl)),qH,qI (yy (zi 0) (zi 1))⟩))))) zE))):zI P w K mg base 7 "added" 3 Sv).iso
theorem Gf (Z:Zz K h mg):zI P w K mg base 7 "power" 3 YU:=by
 obtain⟨f,fd,F,a⟩:=Z.T.HM;exact(qJ F (aV Z.X Z.G a) Jw (λ _ _ _ _ _ _=>gT λ _ _ _=>rfl) λ c A outer s H E r=>zu (jg (zD (Ja Z).up r (zm (zi 0) zy))) (zu (jg (zD (Jh Z).up r (zm (zi 0) (zm (zi 1) zy)))) (zu (qZ (wm (wt (zD (Wb Z).up r (zm (zi 2) (zm (yy (Th rfl Z.B.OH.choose_spec) zB) zy))))) (zu QF zE) zE) (zu (qx 3 Jw.nd (zD (Wq Z).up r (zm (zi 0) zy))) (zu (qx 4 Jw.nd (wU Z.B.kP (jJ (yy (jU (zm zB zy) (zO qT)) (yk (jU (zm zB zy) (zO qT)) (kQ (yM Z.B.yU (jJ (zi 1))) zB)))))) (zu (kE PassesOwn.never rfl (jn rfl Z.B.ji (zi 2)) (qy 5 Jw.nd) (zu (qx 4 Jw.nd (zD (Um Z).up r (zm (zi 3) (zm (zi 4) (zm (zi 1) zy))))) zE)) (zu (z7 (zi 4)) zE)))))):zI P w K mg base 7 "power" 3 Sg).iso
theorem PC (Z:Zz K h mg):zI P w K mg base 8 "_law_numbers_right" 2 ZG:=by
 obtain⟨f,fd,F,a⟩:=Z.T.PD;exact(qJ F (aV Z.X Z.G a) Q8 (λ _ _ _ _ _ _=>ky λ _ _=>rfl) λ c A outer s H E r=>zu (Gz (yF (zm (zD (FF Z).up r (zm (zi 1) zy)) (zm (zD (VG Z).up r (zm (zi 1) zy)) zy)) (zO (zO qT))) (yY 2 3 rfl Q8.nd)) (zu (qZ (we (w5 (qU (jV r) (Gr rfl Z.B.Kg (jJ (zi 2))) (yM Z.B.yU (jJ (zi 1)))) (w5 (qU (jV r) (qg (zi 2) zB) zB) (Ze (qU (jV r) (yM Z.B.yU (jJ (zi 2))) (zi 3)))))) (zu (z7 jI) zE) zE) (zu (TV 4 5 6 rfl Q8.nd (jH (qO (N:=["_law_turn","_law_state_here","_law_wide"]) 1 [0,3] (jn rfl Z.B.ji zB) (λ _ _ _=>⟨qy 0 (qz (by kernel_rfl)),qH,qI (zD (yx Z).up r (zm (zi 1) (zm (zi 2) zy)))⟩)))) (zu (qx 7 Q8.nd (zD (yx Z).up r (zm (zi 0) (zm (yM Z.B.yU (jJ (zi 1))) zy)))) (zu (qx 8 Q8.nd (qg (zD (Lf Z).up r (zm (zi 1) (zm (zi 7) (zm (zi 6) zy)))) zB)) (zu (qZ (qU (jV r) (zD (QC Z).up r (zm (zi 1) (zm (zi 4) (zm (zi 5) (zm (zi 6) zy))))) (qg (qg (zD (Ni Z).up r (zm (zi 1) (zm (zi 7) (zm (zi 8) zy)))) (zi 4)) (zi 5))) (zu (z7 jI) zE) zE) (zu (qZ (qU (jV r) (Gr rfl Z.B.Kg (yB (qO (N:=["_law_other","_law_table_here","_law_i","_law_kind"]) 1 [1,4,6] (jn rfl Z.B.ji (zi 3)) (λ _ _ _=>⟨qy 0 (qz (by kernel_rfl)),qH,qI (zD (QC Z).up r (zm (zi 1) (zm (zi 2) (zm (zi 0) (zm (zi 3) zy)))))⟩)))) (qg (zi 2) (zi 4))) (zu (z7 jI) zE) zE) (zu (qZ (qU (jV r) (zD (QC Z).up r (zm (zi 1) (zm (zi 4) (zm (zi 5) (zm (zi 6) zy))))) (zD (QC Z).up r (zm (zi 1) (zm (zi 5) (zm (zi 4) (zm (zi 6) zy)))))) (zu (z7 jI) zE) zE) (zu (z7 (yQ (j5 r) (yk (qg (zi 2) (zi 6)) (zD (QC Z).up r (zm (zi 1) (zm (zi 4) (zm (zi 5) (zm (zi 6) zy)))))) (yk (qg (zi 2) (zi 4)) (zD (QC Z).up r (zm (zi 1) (zm (zi 6) (zm (zi 5) (zm (zi 4) zy)))))))) zE)))))))):zI P w K mg base 8 "_law_numbers_right" 2 K4).yr
theorem PJ (Z:Zz K h mg):zI P w K mg base 8 "_law_mixes_right" 2 ZH:=by
 obtain⟨f,fd,F,a⟩:=Z.T.PH;exact(qJ F (aV Z.X Z.G a) Q9 (λ _ _ _ _ _ _=>ky λ _ _=>rfl) λ c A outer s H E r=>zu (qx 2 Q9.nd (zD (VG Z).up r (zm (zi 1) zy))) (zu (TV 3 4 5 rfl Q9.nd (jH (qO (N:=["_law_turn","_law_state_here","_law_wide"]) 1 [0,2] (jn rfl Z.B.ji zB) (λ _ _ _=>⟨qy 0 (qz (by kernel_rfl)),qH,qI (zD (Nz Z).up r (zm (zi 1) (zm (zi 2) zy)))⟩)))) (zu (qx 6 Q9.nd (zD (gx Z).up r (zm (zi 1) (zm (zi 3) (zm (zi 4) zy))))) (zu (qZ (we (w5 (qU ZX (zD (II Z).up r (zm (zi 1) (zm (zi 6) zy))) jI) (Ze (qU (jV r) (zD (gx Z).up r (zm (zi 1) (zm (zi 4) (zm (zi 3) zy)))) (zi 6))))) (zu (z7 jI) zE) zE) (zu (qZ (qU (jV r) (zD (gx Z).up r (zm (zi 1) (zm (zi 6) (zm (zi 5) zy)))) (zD (gx Z).up r (zm (zi 1) (zm (zi 3) (zm (zD (gx Z).up r (zm (zi 1) (zm (zi 4) (zm (zi 5) zy)))) zy))))) (zu (z7 jI) zE) zE) (zu (qZ (qU (jV r) (zD (gx Z).up r (zm (zi 1) (zm (zi 3) (zm (zD (T6 Z).up r (zm (zi 1) (zm (zi 4) (zm (zi 5) zy)))) zy)))) (zD (T6 Z).up r (zm (zi 1) (zm (zi 6) (zm (zD (gx Z).up r (zm (zi 1) (zm (zi 3) (zm (zi 5) zy)))) zy))))) (zu (z7 jI) zE) zE) (zu (qZ (we (w5 (qU (jV r) (zD (Gf Z).up r (zm (zi 1) (zm (zi 3) (zm zB zy)))) (zD (gx Z).up r (zm (zi 1) (zm (zi 3) (zm (zi 3) zy))))) (Ze (qU (jV r) (zD (Gf Z).up r (zm (zi 1) (zm (zi 3) (zm zB zy)))) (zi 3))))) (zu (z7 jI) zE) zE) (zu (qx 7 Q9.nd (zD (Gf Z).up r (zm (zi 1) (zm (zi 3) (zm zB zy))))) (zu (z7 (Zf (yQ (j5 r) (zD (gx Z).up r (zm (zi 1) (zm (zi 7) (zm (zi 4) zy)))) (zi 4)) (ZZ (yQ (j5 r) (zi 7) (yy (yF (zm zB zy) (zO qT)) (Ic (yF (zm zB zy) (zO qT)) (kQ (zi 2) zB))))))) zE)))))))):zI P w K mg base 8 "_law_mixes_right" 2 K5).yr
end
end G
namespace Mi
open PySem L2
section
theorem QD (h:m ρ A=.ok (.tup ws) A1):qF m ρ A=.ok ⟨λ A i=>(qa (.tup ws) A).map λ ws=>ws[i]?,ws.length⟩ A1:=by
 unfold qF Ku;rw[h,zM]
 rfl
theorem YM (h:m ρ A=.ok (.tup ws) A)(l:ws.length<=zX){g:W->W}(he:∀w∈ws,me (some w::cap.map λ i=>(ρ[i]?).join) A=.ok (g w) A):
  zV 1 cap (qF m) (zR 0) (zj (.bl true)) (zP me) ρ A=.ok (ws.map g) A:=by
 have e:=wQ (cap:=cap) (me:=me) (ρ:=ρ) (A:=A) (N:=ws.length) (item:=λ i=>ws.getD i .non) (g:=λ i=>g (ws.getD i .non)) (QD h) rfl l
  (λ i H=>by show some ws[i]? =_;rw[ab H,aa,ab H];rfl)
  (by show some ws[ws.length]? =_;rw[aC (ar _)])
  (λ i H=>by
   have:ws.getD i .non=ws[i]:=by rw[aa,ab H];rfl
   rw[this];exact he _ (aT H))
 rw[e]
 congr 1
 apply bf
 ·simp
 ·intro i b a
  have H:i<ws.length:=by simpa using a
  simp[aa,ab H]
theorem UW (p:α->Bool):∀l:List α,wA (l.map λ x=>W.bl (p x))=some (l.map p)
 |[]=>rfl|x::l=>by
  show(match JX (.bl (p x)),wA (l.map λ x=>W.bl (p x)) with|some k,some K=>some (k::K) | _,_=>none)=_
  rw[UW p l];rfl
theorem JD {p:α->Bool}{l:List α}(h:∀x∈l,p x=true):Q3 (l.map λ x=>W.bl (p x)) A=.ok (.bl true) A:=by
 show Qf (λ K=>K.all id) _ A=_;unfold Qf;rw[UW];dsimp only
 have:(l.map p).all id=true:=by
  rw[List.all_map];exact qa4.mpr λ x H=>h x H
 rw[this]
theorem ZV {f:α->W}(h:∀x,(f x).nr=true):∀l:List α,qR (l.map f)=true
 |[]=>rfl|x::l=>by
  show((f x).nr&&qR (l.map f))=true;rw[h x,ZV h l];rfl
theorem gn (i j:Int)(A:Hx):qM (.int i) (.int j) A=.ok (.bl (decide (i=j))) A:=by
 show R.ok (W.bl (PyData.eqv (.int i) (.int j))) A=_;simp[PyData.eqv]
 rfl
theorem Qj (i j:Int)(A:Hx):qw (.int i) (.int j) A=.ok (.bl (!decide (i=j))) A:=by
 show R.ok (W.bl (!PyData.eqv (.int i) (.int j))) A=_;simp[PyData.eqv]
 rfl
theorem Xv (i j:Bool)(A:Hx):qw (.bl i) (.bl j) A=.ok (.bl (!(i==j))) A:=by
 cases i<;>cases j<;>rfl
end
noncomputable def zt (r:List Int):W:=.tup (r.map W.int)
def zp (t:List (List Int)):W:=.tup (t.map zt)
theorem kC (r:List Int):(zt r).nr=true:=by
 show qR (r.map W.int)=true;exact ZV (λ _=>rfl) r
theorem yz (t:List (List Int)):(zp t).nr=true:=by
 show qR (t.map zt)=true;exact ZV kC t
end Mi
namespace Mi
open PySem L2
theorem U0 {st:W->Ex}{N:Nat}{item:Nat->W}{I:En->Prop}(t:∀i,i<N->j.at_ A i=some (some (item i)))(H:j.at_ A N=some none)
  (s:∀i,i<N->∀ρ,I ρ->∃a,st (item i) ρ A=.ok (.nx a) A/\I a):∀(n i:Nat)(ρ:En),i+n=N->I ρ->∃a,jQ j st n i ρ A=.ok (.nx a) A/\I a:=by
 intro n
 induction n with
 |zero=>
  intro i ρ h c
  have:i=N:=by omega
  subst this;exact⟨ρ,WS H,c⟩
 |succ n d=>
  intro i ρ h c;obtain⟨ρ1,E,g⟩:=s i (by omega) ρ c
  obtain⟨b,e,f⟩:=d (i+1) ρ1 (by omega) g
  exact⟨b,(YJ (t i (by omega)) E).trans e,f⟩
theorem gw (h:m ρ A=.ok (.tup ws) A1):jW m ρ A=.ok (jS (.tup ws) ws.length) A1:=by
 unfold jW;rw[h,zM]
 rfl
theorem gI {w:W}(h:ws[i]? =some w):(jS (.tup ws) ws.length).at_ A i=some (some (.tup [.int i,w])):=by
 show atEnd ws i _=_;unfold atEnd;rw[h]
theorem gC :(jS (.tup ws) ws.length).at_ A ws.length=some none:=by
 show atEnd ws _ _=_;unfold atEnd;rw[aC (ar _)];exact af rfl
noncomputable def at2 (t:List (List Int))(a b:Nat):Int:=(t.getD a []).getD b 0
structure zQ (t:List (List Int)):Prop where
 n1:1<=t.length
 n8:t.length<=8
 sq:∀r∈t,r.length=t.length
 lo:∀r∈t,∀v∈r,0<=v/\v<(t.length:Int)
 dg:∀a b,a<t.length->b<t.length->(at2 t a b=0↔a=b)
 sy:∀a b,a<t.length->b<t.length->at2 t a b=at2 t b a
 fu:∀k:Nat,(∃v∈t.flatten,(k:Int)<v)->(k:Int)∈t.flatten
section
variable {a b:Nat}
theorem QM (h:a<t.length):(t.map zt)[a]? =some (zt (t.getD a [])):=by
 rw[ak,aa,ab h];rfl
theorem jE (h:a<t.length):t.getD a []∈t:=by
 rw[aa,ab h];exact aT h
theorem gG (h:a<t.length):zG (zp t) (.int a) A=.ok (zt (t.getD a [])) A:=by
 unfold zG;show(match kx (t.map zt) (a:Int) with|some w=>R.ok w A|none=>R.bad)=_
 rw[Y2 (QM h)]
theorem int_at {r:List Int}(h:b<r.length):(r.map W.int)[b]? =some (.int (r.getD b 0)):=by
 rw[ak,aa,ab h];rfl
theorem JN {r:List Int}(h:b<r.length):zG (zt r) (.int b) A=.ok (.int (r.getD b 0)) A:=by
 unfold zG;show(match kx (r.map W.int) (b:Int) with|some w=>R.ok w A|none=>R.bad)=_
 rw[Y2 (v:=.int (r.getD b 0)) (by rw[ak,aa,ab h];rfl)]
end
end Mi
namespace Mi
open PySem L2
section
theorem LF {c:Option W}(b:∀i,i<ws.length->j.at_ A i=some (some (ws.getD i .non)))(H:j.at_ A ws.length=some none)(he:∀w,me [c,some w] A=.ok w A):
  ∀(f i:Nat)(x:Option W)(acc:List W),i+f=ws.length->acc.length+f<=zX->∃y,jc j (zR 1) (zj (.bl true)) (zP me) f i [c,x] acc A=.ok ([c,y],acc++ws.drop i) A:=by
 intro f
 induction f with
 |zero=>
  intro i x acc h l
  have:i=ws.length:=by omega
  subst this;refine⟨x,?_⟩;unfold jc;rw[H,drop_length,append_nil]
 |succ f I=>
  intro i x acc h l;have a:i<ws.length:=by omega
  have E:ws.getD i .non=ws[i]:=by rw[aa,ab a];rfl
  obtain⟨y,e⟩:=I (i+1) (some ws[i]) (acc++[ws[i]]) (by omega) (by rw[aE,bh];omega)
  refine⟨y,?_⟩;rw[jc,b i a,E];dsimp only[zR,List.set,zj];rw[zM];dsimp only;have d:zP me [c,some ws[i]] acc A=.ok ([c,some ws[i]],acc++[ws[i]]) A:=by
   unfold zP;rw[he,zM,af (by omega)]
  rw[d,zM];rw[e,aW]
  congr 3
  rw[List.singleton_append,<- List.drop_eq_getElem_cons a]
theorem Mk (d:∀i,i<t.length->j.at_ A i=some (some (zt (t.getD i []))))(H:j.at_ A t.length=some none):
  ∀(f i:Nat)(x y:Option W)(acc:List W),i+f=t.length->acc.length+(t.drop i).flatten.length<=zX->
   ∃ρ,jc j (zR 0) (zj (.bl true)) (gH (qF (zc 0)) (zR 1) (zj (.bl true)) (zP (zc 1))) f i [x,y] acc A=.ok (ρ,acc++(t.drop i).flatten.map W.int) A:=by
 intro f
 induction f with
 |zero=>
  intro i x y acc h l
  have:i=t.length:=by omega
  subst this;refine⟨[x,y],?_⟩;unfold jc;rw[H,drop_length];simp
 |succ f I=>
  intro i x y acc h l;have a:i<t.length:=by omega
  have r:t.getD i []=t[i]:=by rw[aa,ab a];rfl
  have e:t.drop i=t[i]::t.drop (i+1):=List.drop_eq_getElem_cons a;rw[e,aS,aE]at l;obtain⟨z,E⟩:=LF (A:=A) (j:=⟨λ A i_1=>(qa (zt t[i]) A).map λ ws=>ws[i_1]?,(t[i].map W.int).length⟩) (me:=zc 1) (ws:=t[i].map W.int) (c:=some (zt t[i]))
   (λ k b=>by
    show some (t[i].map W.int)[k]? =_;rw[aa,ab b];rfl)
   (by show some (t[i].map W.int)[(t[i].map W.int).length]? =_;rw[aC (ar _)])
   (λ w=>zo rfl) (t[i].map W.int).length 0 y acc (by omega) (by rw[ah];omega)
  rw[List.drop_zero]at E;obtain⟨ρ,m⟩:=I (i+1) (some (zt t[i])) z (acc++t[i].map W.int) (by omega) (by rw[aE,ah];omega)
  refine⟨ρ,?_⟩;rw[jc,d i a,r];dsimp only[zR,List.set,zj];rw[zM];dsimp only;have g:gH (qF (zc 0)) (zR 1) (zj (.bl true)) (zP (zc 1)) [some (zt t[i]),y] acc A=.ok ([some (zt t[i]),z],acc++t[i].map W.int) A:=by
   unfold gH;rw[QD (ws:=t[i].map W.int) (A1:=A) (zo (i:=0) rfl),zM];exact E
  rw[g,zM];rw[m,e,aS,aR,aW]
theorem HS (h:m ρ A=.ok (zp t) A)(H:t.flatten.length<=zX):
  zV 2 [] (qF m) (zR 0) (zj (.bl true)) (gH (qF (zc 0)) (zR 1) (zj (.bl true)) (zP (zc 1))) ρ A=.ok (t.flatten.map W.int) A:=by
 have hlen:(t.map zt).length=t.length:=ah ..;obtain⟨a,e⟩:=Mk (t:=t) (A:=A) (j:=⟨λ A i=>(qa (zp t) A).map λ ws=>ws[i]?,(t.map zt).length⟩) (λ i b=>by show some (t.map zt)[i]? =_;rw[QM b])
  (by show some (t.map zt)[t.length]? =_;rw[aC (by omega)]) t.length 0 none none [] (by omega) (by simpa using H)
 unfold zV;rw[QD (ws:=t.map zt) h,zM];show R.bind (R.nox (jc ⟨λ A i=>(qa (zp t) A).map λ ws=>ws[i]?,(t.map zt).length⟩ _ _ _ (t.map zt).length 0 [none,none] [] A)) _=_;rw[hlen]at e ⊢;rw[e];simp
 rfl
end
theorem Jk:∀l:List Int,intsOf (l.map W.int)=some l
 |[]=>rfl|i::l=>by
  show(match intsOf (l.map W.int) with|some is=>some (i::is) | none=>none)=_
  rw[Jk l]
theorem W8:∀(l:List Int)(m:Int),jF l m=m∨jF l m∈l
 |[],_=>.inl rfl|i::l,m=>by
  show jF l (if i > m then i else m)=m∨jF l (if i > m then i else m)∈i::l;rcases W8 l (if i > m then i else m) with e|e
  ·by_cases h:i > m
   ·rw[af h]at e ⊢;exact .inr (by rw[e];exact aG ..)
   ·rw[aj h]at e ⊢;exact .inl e
  ·exact .inr (aD _ e)
end Mi
namespace G
open PySem L2 Mi
theorem IF (h:zQ t):t.flatten.length<=64:=by
 have:∀l:List (List Int),(∀r∈l,r.length<=8)->l.flatten.length<=8 * l.length:=by
  intro l
  induction l with
  |nil=>intro _;simp|cons r l i=>
   intro H;have e:=H r (aG ..);have d:=i λ b a=>H b (aD _ a);rw[aS,aE,bc];omega
 have c:=h.n8
 have:=this t λ r H=>by rw[h.sq r H];exact h.n8
 omega
section
theorem wd (h:n<1000000):jo (n:Int)=true:=by
 unfold jo;simp;omega
end
theorem JH (h:m ρ A=.ok (.ref n) A1)(H:A1[n]? =some (.lst ws)):qF m ρ A=.ok ⟨λ A i=>(qa (.ref n) A).map λ ws=>ws[i]?,ws.length⟩ A1:=by
 unfold qF Ku;rw[h,zM];have e:qa (.ref n) A1=some ws:=by unfold qa;dsimp only;rw[H]
 rw[e]
theorem Zi (h:A[n]? =some (.lst ws)):((qa (.ref n) A).map λ ws=>ws[i]?)=some ws[i]?:=by
 have e:qa (.ref n) A=some ws:=by unfold qa;dsimp only;rw[h]
 rw[e];rfl
def kj:List Int->Int
 |[]=>0|i::is=>jF is i
theorem T3 {r:List Int}(h:r≠[]):jZ (r.map W.int) A=.ok (.int (kj r)) A:=by
 unfold jZ;rw[Jk];cases r with
 |nil=>exact absurd rfl h|cons i is=>rfl
theorem YF {r:List Int}(h:r≠[]):kj r∈r:=by
 cases r with
 |nil=>exact absurd rfl h|cons i is=>
  rcases W8 is i with e|e
  ·show jF is i∈_;rw[e];exact aG ..
  ·exact aD _ e
def z8 (t:List (List Int)):Int:=kj (t.map kj)+1
section
theorem _root_.Mi.zQ.row_ne (h:zQ t){r:List Int}(H:r∈t):r≠[]:=λ e=>by
 have a:=h.sq r H;have b:=h.n1;rw[e,length_nil]at a;omega
theorem _root_.Mi.zQ.map_ne (h:zQ t):t.map kj≠[]:=λ e=>by
 have:=h.n1
 rw[List.map_eq_nil_iff]at e;rw[e]at this;simp at this
theorem yo (h:zQ t):1<=z8 t/\z8 t<=8:=by
 obtain⟨r,H,e⟩:=qa6.mp (YF h.map_ne)
 have:=h.lo r H _ (YF (h.row_ne H))
 have:=h.n8
 unfold z8;rw[<- e];omega
theorem Zp (h:zQ t){a b:Nat}(H:a<t.length)(d:b<t.length):0<=at2 t a b/\at2 t a b<8:=by
 have c:=h.sq _ (jE H)
 have:(t.getD a []).getD b 0∈t.getD a []:=by
  rw[aa (l:=t.getD a []),ab (by omega)];exact aT _
 have e:=h.lo _ (jE H) _ this
 have:=h.n8
 unfold at2;omega
theorem wX (h:q ρ A=.ok ws A1):mQ jR q ρ A=.ok (.tup ws) A1:=(j4 h).trans rfl
end
end G
namespace Mi
open PySem L2
theorem y9 {w:W}{s:Nat}(h:A[n]? =some (.lst ws))(H:ws[s]? =some w):zG (.ref n) (.int (s:Int)) A=.ok w A:=by
 unfold zG;have e:qa (.ref n) A=some ws:=by unfold qa;dsimp only;rw[h]
 rw[e];dsimp only;rw[Y2 H]
theorem yP {u:O}(h:A[n]? =some o):(A++[u])[n]? =some o:=by
 have:=(qa2.mp h).1
 rw[ai this];exact h
theorem j0 {u:O}:(A++[u])[A.length]? =some u:=by simp
theorem GD:∀(n:Nat)(K:List Int),K.Nodup->(∀r∈K,0<=r/\r<(n:Int))->K.length<=n
 |0,K,_,h=>by
  cases K with
  |nil=>exact ar _|cons r l=>have:=h r (aG ..);omega
 |n+1,K,nd,h=>by
  by_cases hm:(n:Int)∈K
  ·have c:=GD n (K.erase (n:Int)) (nd.erase _) λ r H=>by
    have b:=h r (List.mem_of_mem_erase H);have a:r≠(n:Int):=λ z=>(List.Nodup.mem_erase_iff nd).mp H |>.1 z;omega
   rw[List.length_erase_of_mem hm]at c;omega
  ·have:=GD n K nd λ r H=>by
    have b:=h r H;have a:r≠(n:Int):=λ z=>hm (z ▸ H);omega
   omega
noncomputable def j9 (μ:Nat->Nat->Int)(a b:Nat)(k:Int):Nat->Nat->Int:=λ i j=>if i=a/\j=b then k else μ i j
structure Mu (n:Nat)(μ:Nat->Nat->Int)(c:Nat)(done:Nat->Nat->Prop):Prop where
 dg:∀i,μ i i=0
 sy:∀i j,μ i j=μ j i
 dn:∀i j,i<j->j<n->done i j->1<=μ i j/\μ i j<=(c:Int)
 un:∀i j,i<j->j<n->¬done i j->μ i j=0
 fu:∀k:Nat,1<=k->k<=c->∃i j,i<n/\j<n/\μ i j=(k:Int)
noncomputable def jd (n:Nat)(μ:Nat->Nat->Int):List (List Int):=(List.range n).map λ i=>(List.range n).map (μ i)
theorem wk {j:Nat}(H:i<n)(h:j<n):at2 (jd n μ) i j=μ i j:=by
 unfold at2 jd;rw[aa (l:=(List.range n).map λ i=>(List.range n).map (μ i)),ak,aL H];show((List.range n).map (μ i)).getD j 0=_;rw[aa,ak,aL h]
 rfl
theorem Mu.tab {c:Nat}{d:Nat->Nat->Prop}(h:Mu n μ c d)(all:∀i j,i<j->j<n->d i j)(n1:1<=n)(n8:n<=8)(y:n=1∨c<n):zQ (jd n μ):=by
 have len:(jd n μ).length=n:=by unfold jd;simp
 have val:∀i j,i<n->j<n->i≠j->1<=μ i j/\μ i j<=(c:Int):=λ i j H f ne=>by
  rcases Nat.lt_or_gt_of_ne ne with q|q
  ·exact h.dn i j q f (all i j q f)
  ·rw[h.sy];exact h.dn j i q H (all j i q H)
 have mem:∀r∈jd n μ,∀v∈r,∃i j,i<n/\j<n/\v=μ i j:=λ r g v o=>by
  unfold jd at g;obtain⟨i,H,rfl⟩:=qa6.mp g;obtain⟨j,f,rfl⟩:=qa6.mp o;exact⟨i,j,qa5.mp H,qa5.mp f,rfl⟩
 have I:∀i j,i<n->j<n->μ i j∈(jd n μ).flatten:=λ i j H f=>List.mem_flatten.mpr ⟨_,qa6.mpr ⟨i,qa5.mpr H,rfl⟩,qa6.mpr ⟨j,qa5.mpr f,rfl⟩⟩;refine⟨by rw[len];exact n1,by rw[len];exact n8,λ r g=>?_,λ r g v o=>?_,λ a b m l=>?_,λ a b m l=>?_,λ k x=>?_⟩
 ·rw[len]
  unfold jd at g;obtain⟨i,H,rfl⟩:=qa6.mp g;simp
 ·rw[len]
  obtain⟨i,j,H,f,rfl⟩:=mem r g v o
  by_cases q:i=j
  ·subst q;rw[h.dg];omega
  ·have:=val i j H f q
   omega
 ·rw[len]at m l
  rw[wk m l]
  constructor
  ·intro e
   by_cases q:a=b
   ·exact q
   ·have:=val a b m l q;omega
  ·intro e;subst e;exact h.dg a
 ·rw[len]at m l
  rw[wk m l,wk l m];exact h.sy a b
 ·obtain⟨v,o,t⟩:=x
  obtain⟨r,g,p⟩:=List.mem_flatten.mp o;obtain⟨i,j,H,f,rfl⟩:=mem r g v p
  by_cases K:k=0
  ·subst K
   have:=I 0 0 (by omega) (by omega)
   rw[h.dg]at this;exact this
  ·by_cases q:i=j
   ·subst q;rw[h.dg]at t;omega
   ·have:=val i j H f q
    obtain⟨w,J,u,s,e⟩:=h.fu k (by omega) (by omega)
    have:=I w J u s
    rw[e]at this;exact this
end Mi
namespace G
open PySem L2 Mi
theorem JR {i j:Int}(H:-(2 ^ 64)<i)(h:i<2 ^ 64):qd (.int i) (.int j) A=.ok (.int (i * j)) A:=by
 unfold qd;dsimp only;rw[af];unfold ZA;rw[bt,ao,ag,ag];exact .inl ⟨H,h⟩
theorem Z3 {i j:Int}(h:0<j):yS (.int i) (.int j) A=.ok (.int (i % j)) A:=by
 unfold yS gU;dsimp only;rw[af];unfold KH;exact aq h
theorem GG {i j:Int}(h:0<j)(H:j<1152921504606846976):kT (.int i) (.int j) A=.ok (.int (i / j)) A:=by
 unfold kT gU;dsimp only;rw[af];unfold Kl;rw[ao,ag,ag];exact⟨h,H⟩
theorem Dl {c m:Int}(h:0<m)(H:m<1000000000000000):Jm [.ref 0,.int m] [.lst [.int c,.bl true]]=.ok (.int (c % m)) [.lst [.int (c / m),.bl true]]:=by
 refine qt ?_;unfold WI;refine qf (A1:=[.lst [.int (c / m),.bl true]]) ?_;refine(Z4 (A1:=[.lst [.int c,.bl true]]) rfl).trans ?_;refine(zF (ρ1:=[some (.ref 0),some (.int m),some (.int (c % m)),none]) (A1:=[.lst [.int c,.bl true]]) ?_).trans ?_
 ·refine(qC (w:=.int (c % m)) (A1:=[.lst [.int c,.bl true]]) ?_).trans rfl
  exact(zH (x:=.int c) (y:=.int m) (A1:=[.lst [.int c,.bl true]]) (A2:=[.lst [.int c,.bl true]]) rfl rfl).trans (Z3 h)
 ·refine(zF (ρ1:=[some (.ref 0),some (.int m),some (.int (c % m)),none]) (A1:=[.lst [.int (c / m),.bl true]]) ?_).trans rfl
  have e:zl kT (zl zG (zc 0) (zj (.int 0))) (zc 1) [some (.ref 0),some (.int m),some (.int (c % m)),none] [.lst [.int c,.bl true]]=.ok (.int (c / m)) [.lst [.int c,.bl true]]:=
   (zH (x:=.int c) (y:=.int m) (A1:=[.lst [.int c,.bl true]]) (A2:=[.lst [.int c,.bl true]]) rfl rfl).trans (GG h (by omega))
  unfold kd;rw[e,zM]
  rfl
noncomputable def ZC (c:Int):Int:=(c * 48271+29) % 2147483647
noncomputable def kM (d:Int):Int:=(d * d+39373 * d+7) % 2147483629
noncomputable def wa (e:Int):Int:=(e * e+16807 * e) % 2147483587
theorem GW (c:Int):0<=ZC c/\ZC c<2147483647:=⟨emod_nonneg _ (by decide),bB _ (by decide)⟩
theorem Cq (c:Int):0<=kM c/\kM c<2147483629:=⟨emod_nonneg _ (by decide),bB _ (by decide)⟩
theorem DA {c m:Int}(i:0<=c)(h:c<2147483647)(H:0<m)(j:m<1000000000000000):Jm [.ref 0,.int m] [.lst [.int c,.bl false]]=.ok (.int (wa (kM (ZC c)) / 8 % m)) [.lst [.int (ZC c),.bl false]]:=by
 have l:=GW c;refine qt ?_;unfold WI;refine(zF (ρ1:=[some (.ref 0),some (.int m),none,none]) (A1:=[.lst [.int c,.bl false]]) ((jj (A1:=[.lst [.int c,.bl false]]) rfl).trans rfl)).trans ?_;have g:zl yS (zl qE (zl qd (zl zG (zc 0) (zj (.int 0))) (zj (.int 48271))) (zj (.int 29))) (zj (.int 2147483647)) [some (.ref 0),some (.int m),none,none] [.lst [.int c,.bl false]]=.ok (.int (ZC c)) [.lst [.int c,.bl false]]:=by
  have em:zl qd (zl zG (zc 0) (zj (.int 0))) (zj (.int 48271)) [some (.ref 0),some (.int m),none,none] [.lst [.int c,.bl false]]=.ok (.int (c * 48271)) [.lst [.int c,.bl false]]:=
   (zH (x:=.int c) (y:=.int 48271) (A1:=[.lst [.int c,.bl false]]) (A2:=[.lst [.int c,.bl false]]) rfl rfl).trans (JR (by omega) (by omega))
  refine(zH (x:=.int (c * 48271+29)) (y:=.int 2147483647) (A1:=[.lst [.int c,.bl false]]) (A2:=[.lst [.int c,.bl false]]) ((zH em rfl).trans rfl) rfl).trans ?_;exact Z3 (by decide)
 refine(zF (ρ1:=[some (.ref 0),some (.int m),none,none]) (A1:=[.lst [.int (ZC c),.bl false]]) ?_).trans ?_
 ·unfold kd
  rw[g,zM]
  rfl
 generalize ZC c=d at*;have b:zl yS (zl qE (zl qE (zl qd (zl zG (zc 0) (zj (.int 0))) (zl zG (zc 0) (zj (.int 0)))) (zl qd (zj (.int 39373)) (zl zG (zc 0) (zj (.int 0))))) (zj (.int 7))) (zj (.int 2147483629)) [some (.ref 0),some (.int m),none,none] [.lst [.int d,.bl false]]=
   .ok (.int (kM d)) [.lst [.int d,.bl false]]:=by
  have em:zl qd (zl zG (zc 0) (zj (.int 0))) (zl zG (zc 0) (zj (.int 0))) [some (.ref 0),some (.int m),none,none] [.lst [.int d,.bl false]]=.ok (.int (d * d)) [.lst [.int d,.bl false]]:=
   (zH (x:=.int d) (y:=.int d) (A1:=[.lst [.int d,.bl false]]) (A2:=[.lst [.int d,.bl false]]) rfl rfl).trans (JR (by omega) (by omega))
  have E:zl qd (zj (.int 39373)) (zl zG (zc 0) (zj (.int 0))) [some (.ref 0),some (.int m),none,none] [.lst [.int d,.bl false]]=.ok (.int (39373 * d)) [.lst [.int d,.bl false]]:=
   (zH (x:=.int 39373) (y:=.int d) (A1:=[.lst [.int d,.bl false]]) (A2:=[.lst [.int d,.bl false]]) rfl rfl).trans (JR (by decide) (by decide))
  have s:zl qE (zl qd (zl zG (zc 0) (zj (.int 0))) (zl zG (zc 0) (zj (.int 0)))) (zl qd (zj (.int 39373)) (zl zG (zc 0) (zj (.int 0)))) [some (.ref 0),some (.int m),none,none] [.lst [.int d,.bl false]]=.ok (.int (d * d+39373 * d)) [.lst [.int d,.bl false]]:=
   (zH em E).trans rfl
  refine(zH (x:=.int (d * d+39373 * d+7)) (y:=.int 2147483629) (A1:=[.lst [.int d,.bl false]]) (A2:=[.lst [.int d,.bl false]]) ((zH s rfl).trans rfl) rfl).trans ?_;exact Z3 (by decide)
 refine(zF (ρ1:=[some (.ref 0),some (.int m),none,some (.int (kM d))]) (A1:=[.lst [.int d,.bl false]]) ((qC b).trans rfl)).trans ?_;have B:=Cq d;generalize kM d=e at*;have a:zl yS (zl qE (zl qd (zc 3) (zc 3)) (zl qd (zj (.int 16807)) (zc 3))) (zj (.int 2147483587)) [some (.ref 0),some (.int m),none,some (.int e)] [.lst [.int d,.bl false]]=.ok (.int (wa e)) [.lst [.int d,.bl false]]:=by
  have em:zl qd (zc 3) (zc 3) [some (.ref 0),some (.int m),none,some (.int e)] [.lst [.int d,.bl false]]=.ok (.int (e * e)) [.lst [.int d,.bl false]]:=
   (zH (x:=.int e) (y:=.int e) (A1:=[.lst [.int d,.bl false]]) (A2:=[.lst [.int d,.bl false]]) rfl rfl).trans (JR (by omega) (by omega))
  have E:zl qd (zj (.int 16807)) (zc 3) [some (.ref 0),some (.int m),none,some (.int e)] [.lst [.int d,.bl false]]=.ok (.int (16807 * e)) [.lst [.int d,.bl false]]:=
   (zH (x:=.int 16807) (y:=.int e) (A1:=[.lst [.int d,.bl false]]) (A2:=[.lst [.int d,.bl false]]) rfl rfl).trans (JR (by decide) (by decide))
  refine(zH (x:=.int (e * e+16807 * e)) (y:=.int 2147483587) (A1:=[.lst [.int d,.bl false]]) (A2:=[.lst [.int d,.bl false]]) ((zH em E).trans rfl) rfl).trans ?_;exact Z3 (by decide)
 refine(zF (ρ1:=[some (.ref 0),some (.int m),none,some (.int (wa e))]) (A1:=[.lst [.int d,.bl false]]) ((qC a).trans rfl)).trans ?_;generalize wa e=f at*;refine qf (qB ?_);refine(zH (x:=.int (f / 8)) (y:=.int m) (A1:=[.lst [.int d,.bl false]]) (A2:=[.lst [.int d,.bl false]]) ?_ rfl).trans (Z3 H);exact(zH (x:=.int f) (y:=.int 8) (A1:=[.lst [.int d,.bl false]]) (A2:=[.lst [.int d,.bl false]]) rfl rfl).trans (GG (by decide) (by decide))
def qp (n:Nat)(A:Hx):Prop:=∃c b,A[n]? =some (.lst [.int c,.bl b])/\0<=c/\(b=false->c<2147483647)
theorem Ra (h:qp n A){m:Int}(H:0<m)(g:m<1000000000000000):∃r o,jM [.ref n,.int m] A=.ok (.int r) (A.set n o)/\0<=r/\r<m/\qp n (A.set n o):=by
 obtain⟨c,b,f,d,i⟩:=h;have hn:n<A.length:=(qa2.mp f).1;have fin:∀(r C:Int),Jm [.ref 0,.int m] [.lst [.int c,.bl b]]=.ok (.int r) [.lst [.int C,.bl b]]->jM [.ref n,.int m] A=.ok (.int r) (A.set n (.lst [.int C,.bl b])):=λ r C e=>by
  unfold jM yr;dsimp only;rw[f];dsimp only;have a:(qR [W.int c,W.bl b]&&qR [W.int m])=true:=rfl;rw[af a,e]
  rfl
 cases b with
 |true=>
  refine⟨c % m,_,fin _ _ (Dl H g),emod_nonneg _ (by omega),bB _ H,c / m,true,aF hn,Int.ediv_nonneg d (by omega),λ z=>nomatch z⟩
 |false=>
  exact⟨_,_,fin _ _ (DA d (i rfl) H g),emod_nonneg _ (by omega),bB _ H,ZC c,false,aF hn,(GW c).1,λ _=>(GW c).2⟩
end G
namespace Mi
open PySem L2
theorem U6 {k:Nat}{xs ys:List W}(h:A[n]? =some (.lst xs))(a:A[k]? =some (.lst ys))(H:xs.length+ys.length<=zX):qE (.ref n) (.ref k) A=.ok (.ref A.length) (A++[.lst (xs++ys)]):=by
 unfold qE;dsimp only;rw[h,a];dsimp only;rw[af H]
def Ext (A a:Hx):Prop:=∃l,a=A++l
theorem Ext.trans {B C:Hx}(a:Ext A B)(b:Ext B C):Ext A C:=let ⟨l,e⟩:=a;let ⟨k,f⟩:=b;⟨l++k,by rw[f,e,aW]⟩
theorem Ext.one :Ext A (A++[o]):=⟨[o],rfl⟩
theorem Ext.at {a:Hx}(x:Ext A a)(h:A[n]? =some o):a[n]? =some o:=by
 obtain⟨l,rfl⟩:=x
 have:=(qa2.mp h).1
 rw[ai this];exact h
end Mi
namespace Mi
open PySem L2
theorem U5 {ifs:Ev}{em:Em}{N:Nat}{I:Nat->En->List W->Hx->Prop}
  (H:∀i ρ acc A,i<N->I i ρ acc A->∃w ρ1,j.at_ A i=some (some w)/\tw w ρ=some ρ1/\((∃A1 c a A2,ifs ρ1 A=.ok (.bl true) A1/\em ρ1 acc A1=.ok (c,a) A2/\I (i+1) c a A2)∨(∃A1,ifs ρ1 A=.ok (.bl false) A1/\I (i+1) ρ1 acc A1)))
  (e:∀ρ acc A,I N ρ acc A->j.at_ A N=some none):
  ∀(f i:Nat)(ρ:En)(acc:List W)(A:Hx),i+f=N->I i ρ acc A->∃d b n,jc j tw ifs em f i ρ acc A=.ok (d,b) n/\I N d b n:=by
 intro f
 induction f with
 |zero=>
  intro i ρ acc A h g
  have:i=N:=by omega
  subst this;refine⟨ρ,acc,A,?_,g⟩;unfold jc;rw[e _ _ _ g]
 |succ f m=>
  intro i ρ acc A h g;obtain⟨w,ρ1,q,p,o⟩:=H i ρ acc A (by omega) g
  rw[jc,q];dsimp only;rw[p];dsimp only;rcases o with ⟨A1,c,a,A2,l,r,E⟩|⟨A1,l,E⟩
  ·rw[l,zM]
   dsimp only;rw[r,zM];exact m (i+1) _ _ _ (by omega) E
  ·rw[l,zM]
   dsimp only;exact m (i+1) _ _ _ (by omega) E
theorem ZP {nl:Nat}{ifs:Ev}{em:Em}{N:Nat}{I:Nat->En->List W->Hx->Prop}(hm:mi ρ A=.ok j A1)(g:j.len=N)
  (h:∀i ρ acc A,i<N->I i ρ acc A->∃w ρ1,j.at_ A i=some (some w)/\tw w ρ=some ρ1/\((∃A1 d b A2,ifs ρ1 A=.ok (.bl true) A1/\em ρ1 acc A1=.ok (d,b) A2/\I (i+1) d b A2)∨(∃A1,ifs ρ1 A=.ok (.bl false) A1/\I (i+1) ρ1 acc A1)))
  (H:∀ρ acc A,I N ρ acc A->j.at_ A N=some none)(h0:I 0 (Z8 nl cap ρ) [] A1):∃c a f,zV nl cap mi tw ifs em ρ A=.ok a f/\I N c a f:=by
 obtain⟨c,a,f,e,l⟩:=U5 h H N 0 _ _ _ (by omega) h0
 refine⟨c,a,f,?_,l⟩;unfold zV;rw[hm,zM,g,e]
 rfl
theorem wR {st:W->Ex}{N:Nat}{I:Nat->En->Hx->Prop}
  (H:∀i ρ A,i<N->I i ρ A->∃w ρ1 A1,j.at_ A i=some (some w)/\st w ρ A=.ok (.nx ρ1) A1/\I (i+1) ρ1 A1)(d:∀ρ A,I N ρ A->j.at_ A N=some none):
  ∀(f i:Nat)(ρ:En)(A:Hx),i+f=N->I i ρ A->∃a c,jQ j st f i ρ A=.ok (.nx a) c/\I N a c:=by
 intro f
 induction f with
 |zero=>
  intro i ρ A h b
  have:i=N:=by omega
  subst this;exact⟨ρ,A,WS (d _ _ b),b⟩
 |succ f e=>
  intro i ρ A h b;obtain⟨w,ρ1,A1,m,l,g⟩:=H i ρ A (by omega) b
  rw[YJ m l];exact e (i+1) _ _ (by omega) g
theorem ZU {acc:List W}{y:W}(h:me ρ A=.ok y A1)(H:acc.length<zX):zP me ρ acc A=.ok (ρ,acc++[y]) A1:=by
 unfold zP;rw[h,zM,af H]
theorem take_succ {l:List α}(h:i<l.length):l.take (i+1)=l.take i++[l[i]]:=by
 rw[List.take_succ,ab h];rfl
theorem Ext.app {B:Hx}{l:Hx}(x:Ext A B):Ext A (B++l):=x.trans ⟨l,rfl⟩
theorem kB (h:A[n]? =some o):n<A.length:=(qa2.mp h).1
end Mi
namespace G
open PySem L2 Mi
theorem S8 {w:W}(H:A[n]? =some (.lst ws))(h:ws[i]? =some w):((qa (.ref n) A).map λ ws=>ws[i]?)=some (some w):=by
 rw[Zi H,h]
theorem Rt (H:A[n]? =some (.lst ws))(h:ws.length<=i):((qa (.ref n) A).map λ ws=>ws[i]?)=some none:=by
 rw[Zi H,aC h]
theorem Y4:∀(l:List Int)(m:Int),m<=jF l m/\∀x∈l,x<=jF l m
 |[],m=>⟨Int.le_refl _,λ x h=>by cases h⟩|y::l,m=>by
  unfold jF
  split
  ·rename_i c
   obtain⟨b,a⟩:=Y4 l y;refine⟨by omega,λ x H=>?_⟩
   rcases qa3.mp H with rfl|H
   ·exact b
   ·exact a x H
  ·rename_i c
   obtain⟨b,a⟩:=Y4 l m;refine⟨b,λ x H=>?_⟩;rcases qa3.mp H with rfl|H
   ·omega
   ·exact a x H
theorem Uq :∀{l:List α}{k:Nat}{w:α},l[k]? =some w->l.Perm (w::l.eraseIdx k)
 |[],_,_,h=>by simp at h|x::l,0,w,h=>by
  simp at h;subst h;simp
 |x::l,k+1,w,h=>by
  rw[List.getElem?_cons_succ]at h;rw[List.eraseIdx_cons_succ];exact((Uq h).cons x).trans (List.Perm.swap w x _)
theorem NA {k:Nat}{i:Int}{w:W}(h:A[n]? =some (.lst ws))(hw:ws[k]? =some w)(H:jo i=true)(e:seqIndex? i ws.length=some k):w6 (.ref n) (.int i) A=.ok w (A.set n (.lst (ws.eraseIdx k))):=by
 unfold w6;dsimp only;rw[h];dsimp only;rw[af H,e];dsimp only;rw[hw]
theorem Et {k:Nat}(h:k<n):seqIndex? (k:Int) n=some k:=by
 have:=PySem.StrLaws.seqIndex_nonneg (i:=(k:Int)) (n:=n) (by omega) (by omega)
 rw[aw]at this;exact this
theorem MV {k:Nat}{w:W}(h:A[n]? =some (.lst ws))(hw:ws[k]? =some w)(H:k<1000000):w6 (.ref n) (.int (k:Int)) A=.ok w (A.set n (.lst (ws.eraseIdx k))):=
 NA h hw (G.wd H) (Et (qa2.mp hw).1)
theorem UC {β:Type}(f:α->β):∀(l:List α)(k:Nat),(l.map f).eraseIdx k=(l.eraseIdx k).map f
 |[],_=>rfl|_::_,0=>rfl|a::l,k+1=>by
  rw[aO,List.eraseIdx_cons_succ,List.eraseIdx_cons_succ,aO,UC f l k]
theorem Ga {a b:Ev}{y:W}(c:a ρ A=.ok (.ref n) A)(d:A[n]? =some (.lst ws))(H:b ρ A=.ok y A1):yR g a b ρ A=g (.ref n) y A1:=by
 unfold yR;have h:Q6 (.ref n) A=true:=by unfold Q6;dsimp only;rw[d]
 rw[c,zM,af h,H,zM]
theorem NB {y:W}(h:A[n]? =some (.lst ws))(H:ws.length<1000):wj (.ref n) y A=.ok .non (A.set n (.lst (ws++[y]))):=by
 unfold wj;dsimp only;rw[h];dsimp only;rw[af (by unfold zX;omega)]
theorem JB {f:Fn}{us:List W}{c C:Int}{b B:Bool}{w:W}(a:A[n]? =some (.lst [.int c,.bl b]))(H:qR us=true)(h:f (.ref 0::us) [.lst [.int c,.bl b]]=.ok w A1)(g:A1[0]? =some (.lst [.int C,.bl B]))(hw:w.nr=true):yr f (.ref n::us) A=.ok w (A.set n (.lst [.int C,.bl B])):=by
 unfold yr;dsimp only;rw[a];dsimp only;have e:(qR [W.int c,W.bl b]&&qR us)=true:=by rw[H];rfl
 rw[af e,h];dsimp only;rw[List.head?_eq_getElem?,g];dsimp only;have d:(qR [W.int C,W.bl B]&&w.nr)=true:=by rw[hw];rfl
 rw[af d]
noncomputable abbrev iL (l:List Nat):List W:=l.map λ (a:Nat)=>W.int (a:Int)
theorem Mc (h:m ρ A=.ok (.int (n:Int)) A1)(hn:n<=100):JE m ρ A=.ok (.ref A1.length) (A1++[.lst (iL (List.range n))]):=by
 unfold JE;rw[h,zM];dsimp only;rw[wd (by omega),aw,aq (by unfold zX;omega)]
 rfl
theorem LR {o:List α}{f:α->W}{G:α->W}(h:m ρ A=.ok (.tup (o.map f)) A)(l:o.length<=zX)(he:∀a∈o,me (some (f a)::cap.map λ i=>(ρ[i]?).join) A=.ok (G a) A):
  zV 1 cap (qF m) (zR 0) (zj (.bl true)) (zP me) ρ A=.ok (o.map G) A:=by
 by_cases h0:o=[]
 ·subst h0
  have e:=wQ (cap:=cap) (me:=me) (ρ:=ρ) (A:=A) (N:=0) (item:=λ _=>.non) (g:=λ _=>.non) (QD h) rfl (by unfold zX;omega) (λ i H=>by omega) rfl (λ i H=>by omega)
  exact e
 ·obtain⟨x,c⟩:∃x,x∈o:=List.exists_mem_of_ne_nil o h0
  have e:=wQ (cap:=cap) (me:=me) (ρ:=ρ) (A:=A) (N:=o.length) (item:=λ i=>f (o.getD i x)) (g:=λ i=>G (o.getD i x)) (QD h) (ah ..) l
   (λ i H=>by show some (o.map f)[i]? =_;rw[ak,ab H,aa,ab H];rfl)
   (by show some (o.map f)[o.length]? =_;rw[aC (by rw[ah];exact ar _)])
   (λ i H=>by
    have:o.getD i x=o[i]:=by rw[aa,ab H];rfl
    rw[this];exact he _ (aT H))
  rw[e]
  congr 1
  apply bf
  ·simp
  ·intro i d b
   have H:i<o.length:=by simpa using b
   simp[aa,ab H]
theorem Qo {β:Type}(o:List α)(x:α)(f:α->β):o.map f=(List.range o.length).map λ i=>f (o.getD i x):=by
 apply bf
 ·simp
 ·intro i H a
  have h:i<o.length:=by simpa using H
  simp[aa,ab h]
theorem ZW (q:∀r∈t,r.length=t.length){v:Int}(h:v∈t.flatten):∃a b,a<t.length/\b<t.length/\at2 t a b=v:=by
 obtain⟨r,H,e⟩:=List.mem_flatten.mp h;obtain⟨a,d,g⟩:=bD H;obtain⟨b,c,f⟩:=bD e;refine⟨a,b,d,by rw[<- q r H];exact c,?_⟩
 unfold at2;have E:t.getD a []=r:=by rw[aa,ab d];exact g
 rw[E,aa,ab c];exact f
theorem YQ (q:∀r∈t,r.length=t.length){a b:Nat}(e:a<t.length)(d:b<t.length):∃r∈t,at2 t a b∈r/\at2 t a b∈t.flatten:=by
 have H:t.getD a []∈t:=jE e;have c:at2 t a b∈t.getD a []:=by
  unfold at2;have h:b<(t.getD a []).length:=by rw[q _ H];exact d
  rw[aa (l:=t.getD a []),ab h];exact aT _
 exact⟨_,H,c,List.mem_flatten.mpr ⟨_,H,c⟩⟩
theorem SH {r:List Int}{x:Int}(h:x∈r):x<=kj r:=by
 cases r with
 |nil=>cases h|cons i is=>
  show x<=jF is i;rcases qa3.mp h with rfl|h
  ·exact(Y4 is x).1
  ·exact(Y4 is i).2 x h
section
theorem Y9 (h:zQ t){a b:Nat}(d:a<t.length)(c:b<t.length):at2 t a b<z8 t:=by
 obtain⟨r,H,e,_⟩:=YQ h.sq d c;have f:=SH e;have E:=SH (qa6.mpr ⟨r,H,rfl⟩:kj r∈t.map kj);unfold z8;omega
theorem Gx (h:zQ t):z8 t - 1∈t.flatten:=by
 obtain⟨r,H,e⟩:=qa6.mp (YF h.map_ne)
 have:z8 t - 1=kj r:=by unfold z8;omega
 rw[this];exact List.mem_flatten.mpr ⟨r,H,YF (h.row_ne H)⟩
theorem ES (h:zQ t):z8 t<=(t.length:Int):=by
 obtain⟨r,a,H⟩:=List.mem_flatten.mp (Gx h)
 have:=h.lo r a _ H
 omega
theorem Zn (h:zQ t){v:Nat}(H:(v:Int)<z8 t):∃a b,a<t.length/\b<t.length/\at2 t a b=(v:Int):=by
 by_cases e:(v:Int)=z8 t - 1
 ·rw[e];exact ZW h.sq (Gx h)
 ·exact ZW h.sq (h.fu v ⟨_,Gx h,by omega⟩)
noncomputable def qV (p:List Nat):List Int:=0::p.map λ (k:Nat)=>1+(k:Int)
def kf (t:List (List Int))(p o:List Nat):List (List Int):=o.map λ a=>o.map λ b=>(qV p).getD (at2 t a b).toNat 0
theorem QH {p:List Nat}{v:Nat}(H:1<=v)(h:v<=p.length):(qV p).getD v 0=1+((p[v - 1]'(by omega):Nat):Int):=by
 obtain⟨v,rfl⟩:∃u,v=u+1:=⟨v - 1,by omega⟩
 unfold qV;rw[aa,List.getElem?_cons_succ,ak,ab (by omega)]
 rfl
theorem UJ (h:zQ t){p o:List Nat}(n:p.Perm (List.range (z8 t - 1).toNat))(g:o.Perm (List.range t.length)):zQ (kf t p o)/\(kf t p o).length=t.length:=by
 have l:o.length=t.length:=by rw[g.length_eq,aJ]
 have N:=yo h;have K:=ES h;have A:p.length=(z8 t - 1).toNat:=by rw[n.length_eq,aJ]
 have n1:=h.n1;have H:∀i,o.getD i 0<t.length:=λ i=>by
  by_cases c:i<o.length
  ·rw[aa,ab c]
   exact qa5.mp (g.mem_iff.mp (aT c))
  ·rw[aa,aC (by omega)]
   exact n1
 have u:o.Nodup:=(g.nodup_iff).mpr nodup_range;have r:∀a,a<t.length->∃i,i<t.length/\o.getD i 0=a:=λ a y=>by
  obtain⟨i,c,e⟩:=bD (g.mem_iff.mpr (qa5.mpr y));exact⟨i,by omega,by rw[aa,ab c];exact e⟩
 have f:∀q (m:q<p.length),p[q]<p.length:=λ q m=>by
  have:=qa5.mp (n.mem_iff.mp (aT m))
  omega
 have M:Mu t.length (λ i j=>(qV p).getD (at2 t (o.getD i 0) (o.getD j 0)).toNat 0) p.length (λ _ _=>True):=by
  refine⟨λ i=>?_,λ i j=>?_,λ i j B z _=>?_,λ i j _ _ hn=>absurd trivial hn,λ k P L=>?_⟩
  ·show(qV p).getD (at2 t (o.getD i 0) (o.getD i 0)).toNat 0=0
   rw[(h.dg _ _ (H i) (H i)).mpr rfl]
   rfl
  ·show(qV p).getD (at2 t (o.getD i 0) (o.getD j 0)).toNat 0=(qV p).getD (at2 t (o.getD j 0) (o.getD i 0)).toNat 0
   rw[h.sy _ _ (H i) (H j)]
  ·show 1<=(qV p).getD (at2 t (o.getD i 0) (o.getD j 0)).toNat 0/\(qV p).getD (at2 t (o.getD i 0) (o.getD j 0)).toNat 0<=(p.length:Int)
   have s:o.getD i 0≠o.getD j 0:=by
    have x:i<o.length:=by omega
    have w:j<o.length:=by omega
    rw[aa,ab x,aa,ab w];intro e;have J:o[i]=o[j]:=e
    have:=(getElem_inj u).mp J
    omega
   have d:=h.dg _ _ (H i) (H j);have U:=Zp h (H i) (H j);have S:=Y9 h (H i) (H j);have Q:at2 t (o.getD i 0) (o.getD j 0)≠0:=λ e=>s (d.mp e);rw[QH (by omega) (by omega)]
   have:=f ((at2 t (o.getD i 0) (o.getD j 0)).toNat - 1) (by omega)
   omega
  ·obtain⟨q,m,e⟩:=bD (n.mem_iff.mpr (qa5.mpr (by omega:k - 1<(z8 t - 1).toNat)))
   obtain⟨a,b,y,C,I⟩:=Zn h (v:=q+1) (by omega)
   obtain⟨i,c,D⟩:=r a y;obtain⟨j,z,E⟩:=r b C;refine⟨i,j,c,z,?_⟩;show(qV p).getD (at2 t (o.getD i 0) (o.getD j 0)).toNat 0=(k:Int);rw[D,E,I,aw,QH (by omega) (by omega)]
   have:p[q+1 - 1]'(by omega)=k - 1:=e
   rw[this];omega
 have T:kf t p o=jd t.length (λ i j=>(qV p).getD (at2 t (o.getD i 0) (o.getD j 0)).toNat 0):=by
  unfold kf jd;rw[Qo o 0,l]
  congr 1
  funext i
  rw[Qo o 0 (λ b=>(qV p).getD (at2 t (o.getD i 0) b).toNat 0),l]
 refine⟨?_,by unfold kf;rw[ah,l]⟩
 rw[T];exact M.tab (λ _ _ _ _=>trivial) n1 h.n8 (.inr (by omega))
end
end G
namespace Mi
open PySem L2
theorem Se {r b:Nat}{v:W}(h:A[r]? =some (.lst ws))(H:b<ws.length):j7 (.ref r) (.int (b:Int)) v A=.ok () (A.set r (.lst (ws.set b v))):=by
 have e:k7 ws.length (b:Int)=some b:=by unfold k7;rw[af (by omega),af (by omega),aw]
 unfold j7;dsimp only;rw[h];dsimp only;rw[e]
structure Kp (n:Nat)(A B:Hx):Prop where
 len:A.length<=B.length
 at_:∀i,i<A.length->i≠n->B[i]? =A[i]?
section
variable {B C:Hx}
theorem Kp.refl:Kp n A A:=⟨ar _,λ _ _ _=>rfl⟩
theorem Kp.trans (a:Kp n A B)(b:Kp n B C):Kp n A C:=⟨bq a.len b.len,λ i H h=>(b.at_ i (aI H a.len) h).trans (a.at_ i H h)⟩
theorem Kp.set :Kp n A (A.set n o):=⟨by rw[length_set];exact ar _,λ i _ h=>aK (Ne.symm h)⟩
theorem Kp.ext (x:Ext A B):Kp n A B:=by
 obtain⟨l,rfl⟩:=x;exact⟨by simp,λ i h _=>ai h⟩
theorem Kp.put (a:Kp n A B){k:Nat}(h:A.length<=k):Kp n A (B.set k o):=⟨by rw[length_set];exact a.len,λ i b H=>by rw[aK (by omega)];exact a.at_ i b H⟩
theorem Kp.get (a:Kp n A B)(h:A[i]? =some o)(hn:i≠n):B[i]? =some o:=by rw[a.at_ i (kB h) hn];exact h
end
theorem Zd :(jd n μ).length=n:=by unfold jd;simp
theorem JI :∀r∈jd n μ,r.length=(jd n μ).length:=λ r h=>by
 obtain⟨i,_,rfl⟩:=qa6.mp h;rw[Zd];simp
end Mi
namespace G
open PySem L2 Mi
section
abbrev Sq (t:List (List Int)):Prop:=∀r∈t,r.length=t.length
end
def Xf (t:List (List Int)):Bool:=decide (1<=t.length)&&(decide (t.length<=8)&&((t.all λ r=>r.length==t.length&&r.all λ v=>decide (0<=v)&&decide (v<(t.length:Int)))&&
 (((List.range t.length).all λ a=>(List.range t.length).all λ b=>(decide (at2 t a b=0)==decide (a=b))&&decide (at2 t a b=at2 t b a))&&(List.range 8).all λ k=>!(t.flatten.any λ v=>decide ((k:Int)<v)) || t.flatten.contains (k:Int))))
theorem Fe (h:Xf t=true):zQ t:=by
 unfold Xf at h;rw[ao,ao,ao,ao,ag,ag]at h;obtain⟨n1,n8,i,s,hf⟩:=h;have rw_:∀r∈t,r.length=t.length/\∀v∈r,0<=v/\v<(t.length:Int):=λ r hm=>by
  have:=qa4.mp i r hm
  rw[ao,aU]at this;refine⟨this.1,λ v d=>?_⟩
  have:=qa4.mp this.2 v d
  rw[ao,ag,ag]at this;exact this
 have at_:∀a b,a<t.length->b<t.length->(decide (at2 t a b=0)==decide (a=b))=true/\at2 t a b=at2 t b a:=λ a b c H=>by
  have:=qa4.mp (qa4.mp s a (qa5.mpr c)) b (qa5.mpr H)
  rw[ao,ag]at this;exact this
 refine⟨n1,n8,λ r hm=>(rw_ r hm).1,λ r hm=>(rw_ r hm).2,λ a b c H=>?_,λ a b c H=>(at_ a b c H).2,λ k j=>?_⟩
 ·have:=aU.mp (at_ a b c H).1
  by_cases q:a=b
  ·rw[aq q]at this;exact⟨λ _=>q,λ _=>of_decide_eq_true this⟩
  ·rw[aA q]at this;exact⟨λ z=>absurd z (of_decide_eq_false this),λ z=>absurd z q⟩
 ·obtain⟨v,d,f⟩:=j
  obtain⟨r,hm,e⟩:=List.mem_flatten.mp d
  have:=(rw_ r hm).2 v e
  have g:=qa4.mp hf k (qa5.mpr (by omega))
  rw[bt]at g;rcases g with z|z
  ·exfalso
   have:(t.flatten.any λ v=>decide ((k:Int)<v))=true:=List.any_eq_true.mpr ⟨v,d,aq f⟩
   rw[this]at z;cases z
  ·exact List.contains_iff_mem.mp z
theorem yJ (t:List (List Int)):((zp t).nr&&true)=true:=by rw[yz];rfl
noncomputable def Xz:W->Bool
 |.int _=>true|_=>false
theorem RB {w:W}{ty c:Ty}(h:m ρ A=.ok w A1)(H:gW w A1=some ty):Qi c m ρ A=.ok (.bl (Zy ty c)) A1:=by
 unfold Qi;rw[h,zM,H]
theorem G2 (h:ρ[i]? =some (some (.tup ws))):mQ qK (qb (zc i)) ρ A=.ok (.int ws.length) A:=by
 rw[j4 (yG (w:=.tup ws) (A1:=A) (zo h) rfl)]
 rfl
theorem IW {v n:Int}(H:ρ[i]? =some (some (.int v)))(hn:me ρ A=.ok (.int n) A):yc gk ZD (zj (.int 0)) (zc i) me ρ A=.ok (.bl (decide (0<=v)&&decide (v<n))) A:=by
 unfold yc;rw[qv,zM,zo H,zM];show R.bind (R.ok (W.bl (decide ((0:Int)<=v))) A) _=_
 by_cases h:0<=v
 ·rw[aq h,zM]
  dsimp only;rw[hn,zM]
  rfl
 ·rw[aA h,zM]
  rfl
theorem Nu (i:Int)(A:Hx):gu [.int i] A=.ok (.bl true) A:=by
 unfold gu Yu;exact qt (w:=.bl true) (A1:=A) rfl
theorem YO {r:List Int}(h:r.length<=8)(A:Hx):ZO [zt r,.int r.length] A=.ok (.bl true) A:=by
 unfold ZO WH;refine qt ?_;unfold VX;refine qf (qB ?_);refine(ka (A1:=A) rfl).trans ?_;have e:mQ qK (qb (zc 0)) [some (zt r),some (.int r.length)] A=.ok (.int r.length) A:=by
  rw[j4 (yG (w:=zt r) (A1:=A) (zo rfl) rfl)];unfold qK;rw[ah]
 refine(ka (A1:=A) ((zH e (zo (i:=1) rfl)).trans ((gn _ _ _).trans (by rw[aq rfl])))).trans ?_
 have E:=YM (cap:=[]) (A:=A) (ρ:=[some (zt r),some (.int r.length)]) (ws:=r.map W.int) (me:=zw gu (zh (zc 0) zq)) (g:=λ _=>.bl true) (zo (i:=0) rfl) (by rw[ah];unfold zX;omega) (λ w hw=>by
  obtain⟨i,_,rfl⟩:=qa6.mp hw;exact(zK (ws:=[.int i]) (A1:=A) rfl).trans (Nu i A))
 exact(j4 E).trans (JD (p:=λ _=>true) λ _ _=>rfl)
theorem IZ {r:List Int}(l:r.length<=8)(H:∀v∈r,0<=v/\v<r.length)(A:Hx):gZ [zt r,.int r.length,.int r.length] A=.ok (.bl true) A:=by
 unfold gZ Yb;refine qt ?_;unfold K6;refine qf (qB ?_);refine(ka (A1:=A) ((zK (ws:=[zt r,.int r.length]) (A1:=A) rfl).trans (YO l A))).trans ?_;have e:=YM (cap:=[2]) (A:=A) (ρ:=[some (zt r),some (.int r.length),some (.int r.length)]) (ws:=r.map W.int) (me:=yc gk ZD (zj (.int 0)) (zc 0) (zc 1)) (g:=λ _=>.bl true) (zo (i:=0) rfl) (by rw[ah];unfold zX;omega) (λ w hw=>by
  obtain⟨v,h,rfl⟩:=qa6.mp hw;obtain⟨b,a⟩:=H v h;unfold yc;rw[qv,zM,zo (i:=0) (w:=.int v) rfl,zM];show R.bind (R.ok (W.bl (decide ((0:Int)<=v))) A) _=_;rw[aq b,zM];dsimp only;rw[zo (i:=1) (w:=.int r.length) rfl,zM];show R.ok (W.bl (decide (v<(r.length:Int)))) A=_;rw[aq a])
 exact(j4 e).trans (JD (p:=λ _=>true) λ _ _=>rfl)
theorem Ej (h:zQ t)(A:Hx):WX [zp t] A=.ok (.bl true) A:=by
 refine yn (A1:=[]) (yJ t) rfl (qt ?_);unfold UK;obtain⟨d,e,_⟩:=U0 (A:=[]) (N:=t.length) (item:=λ i=>.tup [.int i,zt (t.getD i [])]) (I:=λ ρ=>∃m g Y y,ρ=[some (zp t),m,g,Y,y])
  (j:=jS (zp t) (t.map zt).length) (st:=turn (qD 1 2) (zr (jG (jW (zc 2)) (qD 3 4) (zr (ql (yj (zl qw (zl qM (zc 4) (zj (.int 0))) (zl qM (zc 1) (zc 3))) (zl qw (zl zG (zl zG (zc 0) (zc 3)) (zc 1)) (zc 4))) (zr (zT (zj (.bl false))) zx) zx) zx)) zx))
  (λ i n=>gI (QM n)) (by have:=gC (A:=[]) (ws:=t.map zt);rw[ah]at this;rw[ah];exact this) (λ a f ρ H=>by
   obtain⟨m,g,Y,y,rfl⟩:=H;have l:=h.sq _ (jE f);obtain⟨o,E,p,Z,r⟩:=U0 (A:=[]) (N:=t.length) (item:=λ i=>.tup [.int i,.int ((t.getD a []).getD i 0)]) (I:=λ ρ=>∃Y y,ρ=[some (zp t),some (.int a),some (zt (t.getD a [])),Y,y])
    (j:=jS (zt (t.getD a [])) ((t.getD a []).map W.int).length) (st:=turn (qD 3 4) (zr (ql (yj (zl qw (zl qM (zc 4) (zj (.int 0))) (zl qM (zc 1) (zc 3))) (zl qw (zl zG (zl zG (zc 0) (zc 3)) (zc 1)) (zc 4))) (zr (zT (zj (.bl false))) zx) zx) zx))
    (λ i n=>gI (int_at (by omega)))
    (by have:=gC (A:=[]) (ws:=(t.getD a []).map W.int);rw[ah,l]at this;rw[ah,l];exact this)
    (λ b c ρ H=>by
     obtain⟨Y,y,rfl⟩:=H;refine⟨[some (zp t),some (.int a),some (zt (t.getD a [])),some (.int b),some (.int ((t.getD a []).getD b 0))],?_,_,_,rfl⟩;refine(yN rfl).trans ?_;refine(zF ((jj (A1:=[]) ?_).trans rfl)).trans rfl;have v:zl qw (zl qM (zc 4) (zj (.int 0))) (zl qM (zc 1) (zc 3)) [some (zp t),some (.int a),some (zt (t.getD a [])),some (.int b),some (.int ((t.getD a []).getD b 0))] []=.ok (.bl false) []:=by
      refine(zH ((zH (zo (i:=4) rfl) (qv (w:=.int 0))).trans (gn _ _ _)) ((zH (zo (i:=1) rfl) (zo (i:=3) rfl)).trans (gn _ _ _))).trans ((Xv _ _ _).trans ?_);have hd:(t.getD a []).getD b 0=0↔a=b:=h.dg a b f c
      have:decide ((t.getD a []).getD b 0=0)=decide ((a:Int)=(b:Int)):=by
       by_cases q:a=b
       ·rw[aq (hd.mpr q),aq (by omega)]
       ·rw[aA (λ z=>q (hd.mp z)),aA (by omega)]
      rw[this];simp
     have E:zl qw (zl zG (zl zG (zc 0) (zc 3)) (zc 1)) (zc 4) [some (zp t),some (.int a),some (zt (t.getD a [])),some (.int b),some (.int ((t.getD a []).getD b 0))] []=.ok (.bl false) []:=by
      have u:=h.sq _ (jE c);refine(zH ((zH ((zH (zo (i:=0) rfl) (zo (i:=3) rfl)).trans (gG c)) (zo (i:=1) rfl)).trans (JN (by omega))) (zo (i:=4) rfl)).trans ((Qj _ _ _).trans ?_)
      have s:(t.getD b []).getD a 0=(t.getD a []).getD b 0:=(h.sy a b f c).symm;rw[s,aq rfl]
      rfl
     exact(w9 v).trans E) t.length 0 [some (zp t),some (.int a),some (zt (t.getD a [])),Y,y] (by omega) ⟨_,_,rfl⟩
   refine⟨[some (zp t),some (.int a),some (zt (t.getD a [])),p,Z],?_,_,_,_,_,rfl⟩;refine(yN rfl).trans ?_;rw[r]at E;have hlen:((t.getD a []).map W.int).length=t.length:=by rw[ah,l]
   refine(zF ((yA (gw (zo (i:=2) rfl))).trans ?_)).trans rfl;show jQ (jS (zt (t.getD a [])) ((t.getD a []).map W.int).length) _ ((t.getD a []).map W.int).length 0 _ _=_;rw[hlen]at E ⊢;exact E) t.length 0 [some (zp t),none,none,none,none] (by omega) ⟨_,_,_,_,rfl⟩
 refine(zF (ρ1:=d) (A1:=[]) ((yA (gw (zo (i:=0) rfl))).trans ?_)).trans (qf rfl);show jQ (jS (zp t) (t.map zt).length) _ (t.map zt).length 0 _ _=_;have hlen:(t.map zt).length=t.length:=ah ..;rw[hlen]at e ⊢;exact e
theorem Hj (h:zQ t)(A:Hx):K3 [zp t] A=.ok (.bl true) A:=by
 have m:=IF h;have c:t.flatten≠[]:=by
  intro e;have u:=h.n1;have b:=h.sq _ (jE (t:=t) (a:=0) (by omega))
  have:t.getD 0 []=[]:=by
   have:=List.flatten_eq_nil_iff.mp e _ (jE (t:=t) (a:=0) (by omega))
   exact this
  rw[this]at b;simp at b;omega
 obtain⟨v0,l,E⟩:=List.exists_cons_of_ne_nil c;refine yn (A1:=[.lst (t.flatten.map W.int)]) (yJ t) rfl (qt ?_);unfold XM;refine(zF (ρ1:=[some (zp t),some (.ref 0)]) (A1:=[.lst (t.flatten.map W.int)]) ((qC (kO (HS (zo rfl) (by unfold zX;omega)))).trans rfl)).trans (qf (qB ?_))
 generalize o:[O.lst (t.flatten.map W.int)]=B;have s:qa (.ref 0) B=some (t.flatten.map W.int):=by rw[<- o];rfl
 have em:mQ jZ (qb (zc 1)) [some (zp t),some (.ref 0)] B=.ok (.int (jF l v0)) B:=by
  rw[j4 (yG (w:=.ref 0) (A1:=B) (zo rfl) s)];unfold jZ;rw[Jk,E]
 have H:jF l v0∈t.flatten:=by
  rw[E];rcases W8 l v0 with e|e
  ·rw[e];exact aG ..
  ·exact aD _ e
 have f:0<=jF l v0/\jF l v0<8:=by
  obtain⟨r,b,v⟩:=List.mem_flatten.mp H
  have:=h.lo r b _ v
  have:=h.n8
  omega
 generalize jF l v0=M at em H f;obtain⟨K,rfl⟩:=aN f.1;have q:=wQ (cap:=[1]) (me:=zl KZ (zc 0) (zc 1)) (ρ:=[some (zp t),some (.ref 0)]) (A:=B) (N:=K) (j:=yV 0 K) (item:=λ i=>.int (0+i)) (g:=λ _=>.bl true)
  ((wV em (by unfold jo;simp;omega)).trans (by rw[aw])) rfl (by unfold zX;omega) (λ i d=>wB d) (wg (by omega))
  (λ i d=>by
   refine(zH (zo (i:=0) (w:=.int (0+i)) rfl) (zo (i:=1) (w:=.ref 0) rfl)).trans ?_;show Qh false _ _ _=_;unfold Qh;rw[s];dsimp only;have hf:(ye (.int (0+(i:Int)))&&(t.flatten.map W.int).all ye)=true:=by
    have:(t.flatten.map W.int).all ye=true:=qa4.mpr λ w hw=>by obtain⟨x,_,rfl⟩:=qa6.mp hw;rfl
    rw[this];rfl
   rw[af hf];have n:Q5 (.int (0+(i:Int))) (t.flatten.map W.int)=true:=by
    unfold Q5;refine List.any_eq_true.mpr ⟨.int i,qa6.mpr ⟨(i:Int),h.fu i ⟨_,H,by omega⟩,rfl⟩,?_⟩
    show((i:Int)==0+(i:Int))=true;rw[bA];exact bE _
   rw[n]
   rfl)
 refine(j4 q).trans ?_;exact JD (p:=λ _=>true) λ _ _=>rfl
theorem TL (h:zQ t)(A:Hx):gv [zp t] A=.ok (.bl true) A:=by
 have n1:=h.n1;have n8:=h.n8;unfold gv WN;refine qt ?_;unfold Ud;have e:∀ρ:En,mQ qK (qb (zc 0)) (some (zp t)::ρ) A=.ok (.int t.length) A:=λ ρ=>by
  rw[j4 (yG (w:=zp t) (A1:=A) (zo rfl) rfl)];unfold qK;rw[ah]
 refine(zF (ρ1:=[some (zp t),none]) (A1:=A) ((jj (A1:=A) ?_).trans rfl)).trans ?_
 ·refine(w9 (A1:=A) rfl).trans ?_
  refine wq (k:=true) ?_;show yc gk gk (zj (.int 1)) (mQ qK (qb (zc 0))) (zj (.int 8)) [some (zp t),none] A=_;unfold yc;rw[qv,zM,e,zM];show R.bind (R.ok (W.bl (decide ((1:Int)<=t.length))) A) _=_;rw[aq (by omega),zM]
  dsimp only;rw[qv,zM];show R.ok (W.bl (decide ((t.length:Int)<=8))) A=_;rw[aq (by omega)]
 refine(zF (ρ1:=[some (zp t),some (.int t.length)]) (A1:=A) ((qC (e _)).trans rfl)).trans ?_;have E:=YM (cap:=[1]) (A:=A) (ρ:=[some (zp t),some (.int t.length)]) (ws:=t.map zt) (me:=zw gZ (zh (zc 0) (zh (zc 1) (zh (zc 1) zq)))) (g:=λ _=>.bl true) (zo (i:=0) rfl) (by rw[ah];unfold zX;omega) (λ w hw=>by
  obtain⟨r,H,rfl⟩:=qa6.mp hw;have l:=h.sq r H;refine(zK (ws:=[zt r,.int t.length,.int t.length]) (A1:=A) rfl).trans ?_;rw[<- l];exact IZ (by omega) (λ v a=>by have:=h.lo r H v a;omega) A)
 refine(zF (ρ1:=[some (zp t),some (.int t.length)]) (A1:=A) ((jj (A1:=A) (wq (k:=true) ((j4 E).trans (JD (p:=λ _=>true) λ _ _=>rfl)))).trans rfl)).trans (qf (qB ?_));refine(ka (A1:=A) ((zK (ws:=[zp t]) (A1:=A) rfl).trans (Ej h A))).trans ?_;exact(zK (ws:=[zp t]) (A1:=A) rfl).trans (Hj h A)
end G
namespace Mi
open PySem L2
theorem Jl:∀(l m:List Int),PyData.eqvAll (l.map PyData.int) (m.map PyData.int)=decide (l=m)
 |[],[]=>by simp[PyData.eqvAll]|[],_::_=>by simp[PyData.eqvAll]|_::_,[]=>by simp[PyData.eqvAll]|a::l,b::m=>by
  simp only[aO,PyData.eqvAll,Jl l m,PyData.eqv];rw[Bool.eq_iff_iff];simp
theorem UM :∀l:List Int,j6 (qe A n) (l.map W.int)=some (l.map PyData.int)
 |[]=>rfl|i::l=>by
  have:qe A n (.int i)=some (.int i):=by cases n<;>rfl
  show(match qe A n (.int i),j6 (qe A n) (l.map W.int) with|some d,some ds=>some (d::ds) | _,_=>none)=_
  rw[this,UM l]
  rfl
theorem GL {r:Nat}{l:List Int}(h:A[r]? =some (.lst (l.map W.int))):qe A 8 (.ref r)=some (.list (l.map PyData.int)):=by
 show(match qa (.ref r) A with|some ws=>(j6 (qe A 7) ws).map PyData.list|none=>none)=_
 have:qa (.ref r) A=some (l.map W.int):=by unfold qa;dsimp only;rw[h]
 rw[this];dsimp only;rw[UM]
 rfl
end Mi
namespace Mi
open PySem L2
structure Kn (n:Nat)(A B:Hx):Prop where
 kp:Kp n A B
 st:G.qp n B
theorem _root_.G.qp.lt (h:G.qp n A):n<A.length:=by
 obtain⟨c,b,e,_⟩:=h;exact kB e
theorem _root_.G.qp.ext {B:Hx}(h:G.qp n A)(x:Ext A B):G.qp n B:=by
 obtain⟨c,b,e,r⟩:=h;exact⟨c,b,x.at e,r⟩
theorem _root_.G.qp.put {k:Nat}(h:G.qp n A)(H:k≠n):G.qp n (A.set k o):=by
 obtain⟨c,b,e,r⟩:=h;exact⟨c,b,by rw[aK H];exact e,r⟩
theorem Kn.trans {B C:Hx}(a:Kn n A B)(b:Kn n B C):Kn n A C:=⟨a.kp.trans b.kp,b.st⟩
theorem Kn.ext {B:Hx}(s:G.qp n A)(x:Ext A B):Kn n A B:=⟨Kp.ext x,s.ext x⟩
end Mi
namespace G
open PySem L2 Mi
theorem GC (h:qp n A){m:Int}(c:0<m)(H:m<1000000000000000):∃(r:Nat) (B:Hx),jM [.ref n,.int m] A=.ok (.int r) B/\(r:Int)<m/\Kn n A B/\B.length=A.length:=by
 obtain⟨r,o,e,a,b,s⟩:=Ra h c H;exact⟨r.toNat,A.set n o,by rw[e,bw a],by omega,⟨Kp.set,s⟩,length_set ..⟩
theorem ZY {m:Int}(h:qp n A)(h0:ρ[0]? =some (some (.ref n)))(hm:me ρ A=.ok (.int m) A)(b:0<m)(H:m<1000000000000000):∃(r:Nat) (B:Hx),zw jM (zh (zc 0) (zh me zq)) ρ A=.ok (.int r) B/\(r:Int)<m/\Kn n A B/\B.length=A.length:=by
 obtain⟨r,B,e,a⟩:=GC h b H;exact⟨r,B,(zK (zA (zo h0) (zA hm zL))).trans e,a⟩
section
variable {N a:Nat}{B:Hx}
theorem Np (g:t.length<=8)(q:Sq t){c:Hx}(H:m ρ c=.ok (zp t) B):qh (zV 1 [] (qF m) (zR 0) (zj (.bl true)) (zP (qh (qb (zc 0))))) ρ c=
  .ok (.ref (B.length+t.length)) (B++(t.map λ r=>O.lst (r.map W.int))++[O.lst ((List.range t.length).map λ i=>W.ref (B.length+i))]):=by
 obtain⟨b,d,j,e,⟨z,g1⟩,g2,g3⟩:=ZP (nl:=1) (cap:=[]) (tw:=zR 0) (ifs:=zj (.bl true)) (em:=zP (qh (qb (zc 0)))) (ρ:=ρ) (A:=c) (N:=t.length)
  (I:=λ p b a C=>(∃z,b=[z])/\C=B++((t.take p).map λ r=>O.lst (r.map W.int))/\a=(List.range p).map λ i=>W.ref (B.length+i)) (QD H) (by simp)
  (λ p b a C h ⟨⟨z,f1⟩,f2,f⟩=>by
   subst f1 f2 f;refine⟨zt t[p],[some (zt t[p])],?_,rfl,.inl ⟨_,_,_,_,rfl,ZU (kO (yG (w:=zt t[p]) (ws:=t[p].map W.int) (zo rfl) rfl)) ?_,⟨_,rfl⟩,?_,?_⟩⟩
   ·show some (t.map zt)[p]? =_
    rw[ak,ab h];rfl
   ·simp;unfold zX;omega
   ·rw[take_succ h,aR,aW];rfl
   ·rw[a8,aR,aE,ah,length_take,Nat.min_eq_left (br h)];rfl)
  (λ b a C _=>by show some (t.map zt)[t.length]? =_;rw[aC (by simp)]) ⟨⟨none,rfl⟩,by simp,by simp⟩
 rw[kO e,g2,g3,List.take_length];simp
theorem TY (h:i<t.length):(B++(t.map λ r=>O.lst (r.map W.int))++[O.lst ((List.range t.length).map λ i=>W.ref (B.length+i))])[B.length+i]? =some (.lst ((t.getD i []).map W.int)):=by
 rw[ai (by simp;omega),ax (by omega),show B.length+i - B.length=i by omega,ak,aa,ab h]
 rfl
theorem Tu:(B++(t.map λ r=>O.lst (r.map W.int))++[O.lst ((List.range t.length).map λ i=>W.ref (B.length+i))])[B.length+t.length]? =some (.lst ((List.range t.length).map λ i=>W.ref (B.length+i))):=by
 have:B.length+t.length=(B++(t.map λ r=>O.lst (r.map W.int))).length:=by simp
 rw[this,j0]
end
theorem J5 {r s:Nat}{l m:List Int}(h:A[r]? =some (.lst (l.map W.int)))(H:A[s]? =some (.lst (m.map W.int))):qw (.ref r) (.ref s) A=.ok (.bl (!decide (l=m))) A:=by
 show yI true _ _ A=_;unfold yI;rw[GL h,GL H];dsimp only;rw[PyData.eqv,Jl]
 rfl
section
variable {p f:Nat}
theorem L5 {x:Option W}(X:A.length<=p)(hf:A.length<=f)(hn:n<A.length)(h:p≠f):∀(k fu:Nat)(l fd:List Int)(B:Hx),l.length=k->k<fu->fd.length+l.length<=100->Kn n A B->B[p]? =some (.lst (l.map W.int))->B[f]? =some (.lst (fd.map W.int))->
  ∃(j:Hx) (b:List Int),gK (zl qw (zc 2) (qP zq)) (zr (qX (yR wj (zc 3) (yR w6 (zc 2) (zw jM (zh (zc 0) (zh (mQ qK (qb (zc 2))) zq)))))) zx) fu [some (.ref n),x,some (.ref p),some (.ref f)] B=.ok (.nx [some (.ref n),x,some (.ref p),some (.ref f)]) j/\Kn n A j/\j[f]? =some (.lst (b.map W.int))/\b.Perm (fd++l):=by
 intro k
 induction k with
 |zero=>
  intro fu l fd B H C _ kn s I;obtain⟨fu,rfl⟩:∃L,fu=L+1:=⟨fu - 1,by omega⟩
  have:l=[]:=List.length_eq_zero_iff.mp H
  subst this;refine⟨B++[.lst []],fd,?_,kn.trans (Kn.ext kn.st Ext.one),yP I,by simp⟩
  unfold gK;have t:zl qw (zc 2) (qP zq) [some (.ref n),x,some (.ref p),some (.ref f)] B=.ok (.bl false) (B++[.lst []]):=(zH (zo (i:=2) rfl) (kR zL)).trans (J5 (l:=[]) (m:=[]) (yP s) j0);rw[t,zM]
 |succ k T=>
  intro fu l fd B H C Y kn s I;obtain⟨fu,rfl⟩:∃L,fu=L+1:=⟨fu - 1,by omega⟩
  have t:zl qw (zc 2) (qP zq) [some (.ref n),x,some (.ref p),some (.ref f)] B=.ok (.bl true) (B++[.lst []]):=by
   refine(zH (zo (i:=2) rfl) (kR zL)).trans ((J5 (m:=[]) (yP s) j0).trans ?_);have z:l≠[]:=λ e=>by rw[e]at H;cases H
   rw[aA z]
   rfl
  have K:=kn.trans (Kn.ext kn.st (Ext.one (o:=.lst [])));have g1:=yP (u:=.lst []) s;have g2:=yP (u:=.lst []) I;generalize B++[O.lst []]=M at t K g1 g2;have E:mQ qK (qb (zc 2)) [some (.ref n),x,some (.ref p),some (.ref f)] M=.ok (.int (l.length:Int)) M:=by
   rw[j4 (yG (w:=.ref p) (A1:=M) (ws:=l.map W.int) (zo rfl) (by unfold qa;dsimp only;rw[g1]))]
   unfold qK;rw[ah]
  obtain⟨q,Q,e1,U,r,_⟩:=ZY (ρ:=[some (.ref n),x,some (.ref p),some (.ref f)]) K.st rfl E (by omega) (by omega)
  have y:q<l.length:=by omega
  have d:=r.kp.get g1 (by omega)
  have J:=r.kp.get g2 (by omega)
  have hw:(l.map W.int)[q]? =some (.int l[q]):=by rw[ak,ab y];rfl
  have P:=(Ga (g:=w6) (a:=zc 2) (zo rfl) g1 e1).trans (MV d hw (by omega))
  rw[UC]at P;have c:(Q.set p (.lst ((l.eraseIdx q).map W.int)))[f]? =some (.lst (fd.map W.int)):=by rw[aK h];exact J
  have N:=(Ga (g:=wj) (a:=zc 3) (zo rfl) g2 P).trans (NB c (by rw[ah];omega))
  have D:fd.map W.int++[.int l[q]]=(fd++[l[q]]).map W.int:=by rw[aR];rfl
  rw[D]at N;have hlen:(l.eraseIdx q).length=k:=by rw[List.length_eraseIdx_of_lt y];omega
  have v:Kn n A ((Q.set p (.lst ((l.eraseIdx q).map W.int))).set f (.lst ((fd++[l[q]]).map W.int))):=⟨((K.trans r).kp.put X).put hf,((r.st).put (by omega)).put (by omega)⟩
  obtain⟨j,b,e4,s4,a4,S⟩:=T fu (l.eraseIdx q) (fd++[l[q]]) _ hlen (by omega) (by rw[aE,bh];omega) v
   (by rw[aK (Ne.symm h),aF (kB d)]) (by rw[aF (kB c)])
  refine⟨j,b,?_,s4,a4,S.trans ?_⟩
  ·unfold gK
   rw[t,zM];dsimp only;have Z:=(zF (m2:=zx) (jq N)).trans qS;rw[Z,zM];exact e4
  ·rw[aW]
   exact List.Perm.append_left fd (Uq (ab y)).symm
theorem T4 {q:Nat}{l:List Int}(s:qp n A)(h:A[q]? =some (.lst (l.map W.int)))(H:l.length<=100):∃(r:Nat) (B:Hx) (fd:List Int),Qn [.ref n,.ref q] A=.ok (.ref r) B/\B[r]? =some (.lst (fd.map W.int))/\fd.Perm l/\Kn n A B/\A.length<=r:=by
 unfold Qn K9;unfold XX;have a:qh (qb (zc 1)) [some (.ref n),some (.ref q),none,none] A=.ok (.ref A.length) (A++[.lst (l.map W.int)]):=kO (yG (w:=.ref q) (zo rfl) (by unfold qa;dsimp only;rw[h]))
 have x0:Ext A (A++[.lst (l.map W.int)]++[.lst []]):=Ext.one.app;have hlen:(A++[O.lst (l.map W.int)]).length=A.length+1:=by simp
 have a2:(A++[.lst (l.map W.int)]++[.lst []])[A.length+1]? =some (.lst (([]:List Int).map W.int)):=by rw[<- hlen];exact j0
 obtain⟨B,fd,E,kn,e,P⟩:=L5 (A:=A) (p:=A.length) (f:=A.length+1) (x:=some (.ref q)) (ar _) (by omega) s.lt (by omega) l.length 1000 l [] _ rfl (by omega) (by simp;omega) (Kn.ext s x0) (yP j0) a2
 refine⟨A.length+1,B,fd,qt ?_,e,by simpa using P,kn,by omega⟩
 refine(zF ((qC a).trans rfl)).trans ((zF (ρ1:=[some (.ref n),some (.ref q),some (.ref A.length),some (.ref (A.length+1))]) (A1:=A++[.lst (l.map W.int)]++[.lst []]) ?_).trans ((zF (m1:=GF 1000 _ _) E).trans (qf (qB (zo rfl)))));refine(qC (kR zL)).trans ?_;rw[hlen]
 rfl
end
noncomputable def dist (t:List (List Int)):List Nat:=(List.range 8).filter λ i=>decide ((i:Int)∈t.flatten)
def kL (t:List (List Int))(v:Int):Int:=((dist t).idxOf v.toNat:Nat)
def jO (t:List (List Int)):List (List Int):=t.map λ r=>r.map (kL t)
theorem Jv :i∈dist t↔i<8/\(i:Int)∈t.flatten:=by
 unfold dist;rw[List.mem_filter,List.mem_range,ag]
theorem NH (t:List (List Int)):(dist t).Nodup:=List.Pairwise.filter _ nodup_range
theorem UX:∀{l:List Int},(∀v∈l,0<=v/\v<8)->Zo l=some (l.map Int.toNat)
 |[],_=>rfl|v::l,h=>by
  unfold Zo;rw[af (h v (aG ..)),UX λ x H=>h x (aD _ H)]
  rfl
theorem U2 :∀{kws:List (Nat×List W)},(∀p∈kws,A[p.1]? =some (.lst p.2))->kS A (kws.map λ (p:Nat×List W)=>W.ref p.1)=some (kws.map (·.2))
 |[],_=>rfl|p::kws,h=>by
  show(match A[p.1]? with|some (.lst ws)=>(kS A (kws.map λ (p:Nat×List W)=>W.ref p.1)).map (ws::·) | _=>none)=_
  rw[h p (aG ..)];dsimp only;rw[U2 λ x H=>h x (aD _ H)]
  rfl
theorem TB (v:Nat):∀{l:List Nat},v∈l->gc (λ z=>PyData.eqv z (.int (v:Int))) (l.map λ (i:Nat)=>PyData.int (i:Int))=some (l.idxOf v)
 |[],h=>by cases h|a::l,h=>by
  rw[aO,gc,List.idxOf_cons]
  have:PyData.eqv (.int (a:Int)) (.int (v:Int))=(a==v):=by
   rw[PyData.eqv,Bool.eq_iff_iff];simp;omega
  rw[this]
  by_cases q:a=v
  ·subst q
   simp
  ·have Q:(a==v)=false:=by simp[q]
   rw[Q,aj (by simp)]
   rw[TB v ((qa3.mp h).resolve_left (Ne.symm q))]
   rfl
def LL (t:List (List Int))(r:Nat)(B:Hx):Prop:=∃K:List Nat,B[r]? =some (.lst (K.map W.ref))/\K.length=t.length/\∀i,i<t.length->B[K.getD i 0]? =some (.lst ((t.getD i []).map W.int))
theorem YI {k:Nat}(h:m ρ A=.ok (.ref k) A)(a:A[k]? =some (.lst ws))(l:ws.length<=zX){g:W->W}(he:∀w∈ws,me (some w::cap.map λ i=>(ρ[i]?).join) A=.ok (g w) A):
  zV 1 cap (qF m) (zR 0) (zj (.bl true)) (zP me) ρ A=.ok (ws.map g) A:=by
 have e:=wQ (cap:=cap) (me:=me) (ρ:=ρ) (A:=A) (N:=ws.length) (item:=λ i=>ws.getD i .non) (g:=λ i=>g (ws.getD i .non)) (JH h a) rfl l
  (λ i H=>(Zi a).trans (by rw[ab H,aa,ab H];rfl))
  ((Zi a).trans (by rw[aC (ar _)]))
  (λ i H=>by
   have:ws.getD i .non=ws[i]:=by rw[aa,ab H];rfl
   rw[this];exact he _ (aT H))
 rw[e]
 congr 1
 apply bf
 ·simp
 ·intro i c b
  have H:i<ws.length:=by simpa using b
  simp[aa,ab H]
noncomputable def Pn (f:Int->Int):W->W
 |.int v=>.int (f v)|w=>w
theorem FG (f:Int->Int)(l:List Int):(l.map W.int).map (Pn f)=(l.map f).map W.int:=by
 rw[aP,aP];rfl
section
variable {r:Nat}
theorem MU {B:Hx}(l:t.length<=8)(L:LL t r B)(h0:ρ[i]? =some (some (.ref r))):qh (zV 1 [] (qF (zc i)) (zR 0) (zj (.bl true)) (zP (qh (qb (zc 0))))) ρ B=
  .ok (.ref (B.length+t.length)) (B++(t.map λ r=>O.lst (r.map W.int))++[O.lst ((List.range t.length).map λ i=>W.ref (B.length+i))]):=by
 obtain⟨K,e0,d,g⟩:=L;obtain⟨b,f,m,e,⟨z,g1⟩,g2,g3⟩:=ZP (nl:=1) (cap:=[]) (tw:=zR 0) (ifs:=zj (.bl true)) (em:=zP (qh (qb (zc 0)))) (ρ:=ρ) (A:=B) (N:=t.length)
  (I:=λ p b a C=>(∃z,b=[z])/\C=B++((t.take p).map λ r=>O.lst (r.map W.int))/\a=(List.range p).map λ i=>W.ref (B.length+i)) (JH (zo h0) e0) (by simp[d])
  (λ p b a C H ⟨⟨z,f1⟩,f2,j⟩=>by
   subst f1 f2 j;have x:Ext B (B++((t.take p).map λ r=>O.lst (r.map W.int))):=⟨_,rfl⟩;have h:=x.at (g p H);have c:t.getD p []=t[p]:=by rw[aa,ab H];rfl
   rw[c]at h;refine⟨.ref (K.getD p 0),[some (.ref (K.getD p 0))],?_,rfl,.inl ⟨_,_,_,_,rfl,ZU (kO (yG (w:=.ref (K.getD p 0)) (ws:=t[p].map W.int) (zo rfl) (by unfold qa;dsimp only;rw[h]))) ?_,⟨_,rfl⟩,?_,?_⟩⟩
   ·refine(Zi (x.at e0)).trans ?_
    rw[ak,aa,ab (by omega)];rfl
   ·simp;unfold zX;omega
   ·rw[take_succ H,aR,aW];rfl
   ·rw[a8,aR,aE,ah,length_take,Nat.min_eq_left (br H)];rfl)
  (λ b a C ⟨_,f2,_⟩=>by
   subst f2;exact(Zi (Ext.at ⟨_,rfl⟩ e0)).trans (by rw[aC (by simp[d])])) ⟨⟨none,rfl⟩,by simp,by simp⟩
 rw[kO e,g2,g3,List.take_length];simp
theorem LL.mono {B:Hx}(x:Ext A B)(h:LL t r A):LL t r B:=by
 obtain⟨K,e0,a,H⟩:=h;exact⟨K,x.at e0,a,λ i b=>x.at (H i b)⟩
theorem TC (h1:1<=t.length)(M:t.length<=8)(I:Sq t)(s:∀v∈t.flatten,0<=v/\v<8)(L:LL t r A):∃B,ZM [.ref r] A=.ok (zp (jO t)) B/\Ext A B:=by
 have Z:t.flatten.length<=64:=by
  have:∀l:List (List Int),(∀r∈l,r.length<=8)->l.flatten.length<=8 * l.length:=by
   intro l
   induction l with
   |nil=>intro _;simp|cons r l U=>
    intro e;have h1:=e r (aG ..);have h2:=U λ T x=>e T (aD _ x);rw[aS,aE,bc];omega
  have:=this t λ r e=>by rw[I r e];exact M
  omega
 unfold ZM WB;unfold VS;have S:=MU (ρ:=[some (.ref r),none]) (i:=0) M L rfl;have x1:Ext A (A++(t.map λ r=>O.lst (r.map W.int))++[O.lst ((List.range t.length).map λ i=>W.ref (A.length+i))]):=⟨(t.map λ r=>O.lst (r.map W.int))++[O.lst ((List.range t.length).map λ i=>W.ref (A.length+i))],by rw[aW]⟩
 have a:∀i,i<t.length->_:=λ i D=>TY (B:=A) (t:=t) (i:=i) D;have H:=Tu (B:=A) (t:=t);generalize A++(t.map λ r=>O.lst (r.map W.int))++[O.lst ((List.range t.length).map λ i=>W.ref (A.length+i))]=b at S x1 a H;have Q:zl gJ (qh (zV 1 [] (qF (zc 0)) (zR 0) (zj (.bl true)) (zP (qh (qb (zc 0)))))) (qP zq) [some (.ref r),none] A=.ok (.ref (b.length+1)) (b++[.lst []]++[.lst (t.flatten.map W.int)]):=by
  refine(zH S (kR zL)).trans ?_;have o:=U2 (A:=b++[.lst []]) (kws:=(List.range t.length).map λ i=>(A.length+i,(t.getD i []).map W.int)) (λ p X=>by
   obtain⟨i,D,rfl⟩:=qa6.mp X;exact yP (a i (qa5.mp D)))
  rw[aP,aP]at o;have C:((λ p:Nat×List W=>W.ref p.1) ∘ λ i=>(A.length+i,(t.getD i []).map W.int))=λ i=>W.ref (A.length+i):=rfl;have y:((λ p:Nat×List W=>p.2) ∘ λ i=>(A.length+i,(t.getD i []).map W.int))=λ i=>(t.getD i []).map W.int:=rfl;rw[C,y,<- Qo t [] λ r=>r.map W.int]at o;have hf:(t.map λ r=>r.map W.int).flatten=t.flatten.map W.int:=by rw[List.map_flatten]
  unfold gJ;dsimp only;rw[yP H,j0];dsimp only;rw[o];dsimp only;rw[af ⟨λ z=>(by have:=congrArg List.length z;rw[ah,aJ]at this;exact absurd this (by rw[length_nil];omega)),by rw[hf,ah];unfold zX;omega⟩,hf]
  simp
 have x2:Ext A (b++[.lst []]++[.lst (t.flatten.map W.int)]):=x1.app.app;have f:(b++[.lst []]++[.lst (t.flatten.map W.int)])[b.length+1]? =some (.lst (t.flatten.map W.int)):=by
  have:b.length+1=(b++[O.lst []]).length:=by simp
  rw[this,j0]
 generalize b++[.lst []]++[.lst (t.flatten.map W.int)]=c at Q x2 f;have P:YN (zl gJ (qh (zV 1 [] (qF (zc 0)) (zR 0) (zj (.bl true)) (zP (qh (qb (zc 0)))))) (qP zq)) [some (.ref r),none] A=.ok (.ref c.length) (c++[.lst (((dist t).map λ (i:Nat)=>(i:Int)).map W.int)]):=by
  unfold YN;rw[Q,zM];unfold W3;dsimp only;rw[f];dsimp only;rw[Jk];dsimp only;rw[UX s];dsimp only
  have:((List.range 8).filter λ i=>decide (i∈t.flatten.map Int.toNat))=dist t:=by
   unfold dist
   apply List.filter_congr
   intro i _;rw[decide_eq_decide]
   constructor
   ·intro z
    obtain⟨v,h,rfl⟩:=qa6.mp z;rw[bw (s v h).1];exact h
   ·intro z
    exact qa6.mpr ⟨_,z,rfl⟩
  rw[this,aP]
  rfl
 have x3:=x2.app (l:=[.lst (((dist t).map λ (i:Nat)=>(i:Int)).map W.int)]);have d:(c++[.lst (((dist t).map λ (i:Nat)=>(i:Int)).map W.int)])[c.length]? =some (.lst (((dist t).map λ (i:Nat)=>(i:Int)).map W.int)):=j0;generalize c++[.lst (((dist t).map λ (i:Nat)=>(i:Int)).map W.int)]=n at P x3 d;obtain⟨E,K,J,e⟩:=LL.mono x3 L;refine⟨n,qt ((zF ((qC P).trans rfl)).trans (qf (qB ?_))),x3⟩;have idx:∀v,v∈t.flatten->wZ (.ref c.length) (.int v) n=.ok (.int (kL t v)) n:=λ v h=>by
  obtain⟨u,rfl⟩:=aN (s v h).1;have hm:u∈dist t:=Jv.mpr ⟨by have:=s _ h;omega,h⟩
  unfold wZ;rw[GL d];show(match gc (λ z=>PyData.eqv z (.int (u:Int))) (((dist t).map λ (i:Nat)=>(i:Int)).map PyData.int) with|some j=>if j<1000000 then R.ok (W.int (j:Int)) n else .bad|none=>.bad)=_
  have:((dist t).map λ (i:Nat)=>(i:Int)).map PyData.int=(dist t).map λ (i:Nat)=>PyData.int (i:Int):=by rw[aP];rfl
  rw[this,TB u hm];dsimp only;have o:(dist t).idxOf u<(dist t).length:=List.idxOf_lt_length_of_mem hm;have Y:(dist t).length<=8:=by unfold dist;exact bq (List.length_filter_le _ _) (by simp)
  rw[af (by omega)]
  rfl
 have ec:=wQ (cap:=[1]) (me:=mQ jR (zV 1 [1] (qF (zc 0)) (zR 0) (zj (.bl true)) (zP (yR wZ (zc 1) (zc 0))))) (ρ:=[some (.ref r),some (.ref c.length)]) (A:=n) (N:=t.length) (item:=λ i=>.ref (E.getD i 0)) (g:=λ i=>zt ((t.getD i []).map (kL t))) (JH (zo (i:=0) rfl) K) (by simp[J]) (by unfold zX;omega)
  (λ j q=>(Zi K).trans (by rw[ak,aa,ab (by omega)];rfl)) ((Zi K).trans (by rw[aC (by simp[J])]))
  (λ j q=>by
   have:=YI (cap:=[1]) (m:=zc 0) (me:=yR wZ (zc 1) (zc 0)) (ρ:=[some (.ref (E.getD j 0)),some (.ref c.length)]) (g:=Pn (kL t)) (zo rfl) (e j q) (by rw[ah,I _ (jE q)];unfold zX;omega) (λ w hw=>by
    obtain⟨v,h,rfl⟩:=qa6.mp hw;exact(Ga (g:=wZ) (zo rfl) d (zo (i:=0) rfl)).trans (idx v (List.mem_flatten.mpr ⟨_,jE q,h⟩)))
   rw[FG]at this;exact wX this)
 refine(wX ec).trans ?_;unfold zp jO;rw[aP,Qo t [] (zt ∘ λ r=>r.map (kL t))]
 rfl
theorem Lh (Q:1<=t.length)(P:t.length<=8)(o:Sq t)(dg:∀a b,a<t.length->b<t.length->(at2 t a b=0↔a=b))(sy:∀a b,a<t.length->b<t.length->at2 t a b=at2 t b a)
  (lo:∀a b,a<t.length->b<t.length->0<=at2 t a b/\at2 t a b<(t.length:Int)):zQ (jO t):=by
 have w:∀v∈t.flatten,0<=v/\v<(t.length:Int):=λ v n=>by
  obtain⟨a,b,f,w,rfl⟩:=ZW o n;exact lo a b f w
 have hlen:(jO t).length=t.length:=by unfold jO;rw[ah]
 have q:∀r∈jO t,r.length=t.length:=λ r g=>by
  obtain⟨s,E,rfl⟩:=qa6.mp g;rw[ah];exact o s E
 have j:∀a b,a<t.length->b<t.length->at2 (jO t) a b=kL t (at2 t a b):=λ a b f w=>by
  have z:=o _ (jE f);unfold at2 jO;rw[aa (l:=t.map _),ak,ab f];have e:t.getD a []=t[a]:=by rw[aa,ab f];rfl
  rw[e]at z ⊢;show(t[a].map (kL t)).getD b 0=_;rw[aa,ak,aa,ab (by omega)]
  rfl
 have mem:∀a b,a<t.length->b<t.length->(at2 t a b).toNat∈dist t:=λ a b f H=>by
  obtain⟨_,_,_,x⟩:=YQ o f H
  have:=w _ x
  rw[Jv,bw this.1];exact⟨by omega,x⟩
 have nd:=NH t;have dl:(dist t).length<=t.length:=by
  have:=GD t.length ((dist t).map λ (i:Nat)=>(i:Int)) (by
   rw[List.nodup_iff_pairwise_ne,List.pairwise_map];exact nd.imp λ h=>by omega) (λ r g=>by
   obtain⟨i,I,rfl⟩:=qa6.mp g
   have:=w _ (Jv.mp I).2
   exact this)
  rw[ah]at this;exact this
 have Z:(0:Nat)∈dist t:=by
  have:=mem 0 0 (by omega) (by omega)
  rw[(dg 0 0 (by omega) (by omega)).mpr rfl]at this
  exact this
 have M:∃l,dist t=0::l:=by
  have g:List.range 8=0::[1,2,3,4,5,6,7]:=by decide
  have D:=(Jv.mp Z).2;refine⟨[1,2,3,4,5,6,7].filter λ i=>decide ((i:Int)∈t.flatten),?_⟩;unfold dist;rw[g,List.filter_cons_of_pos (by exact aq D)]
 obtain⟨N,u⟩:=M;have y:∀a b,a<t.length->b<t.length->0<=kL t (at2 t a b)/\kL t (at2 t a b)<(t.length:Int):=λ a b f H=>by
  have:=List.idxOf_lt_length_of_mem (mem a b f H)
  unfold kL;omega
 refine⟨by omega,by omega,λ r g=>by rw[hlen];exact q r g,λ r g v n=>?_,λ a b f H=>?_,λ a b f H=>?_,λ k C=>?_⟩
 ·have:v∈(jO t).flatten:=List.mem_flatten.mpr ⟨r,g,n⟩
  obtain⟨a,b,f,H,e⟩:=ZW (λ r g=>by rw[hlen];exact q r g) this
  rw[hlen]at f H ⊢;rw[<- e,j a b f H];exact y a b f H
 ·rw[hlen]at f H
  rw[j a b f H,<- dg a b f H];unfold kL;have m:=mem a b f H;have n:=lo a b f H
  constructor
  ·intro e
   have e0:(dist t).idxOf (at2 t a b).toNat=0:=by omega
   have A:=List.idxOf_lt_length_of_mem m
   have:=List.getElem_idxOf A
   have h0:(dist t)[(dist t).idxOf (at2 t a b).toNat]? =some (at2 t a b).toNat:=by rw[ab A,this]
   rw[e0,u]at h0;simp at h0;omega
  ·intro e
   rw[e,u];simp
 ·rw[hlen]at f H
  rw[j a b f H,j b a H f,sy a b f H]
 ·obtain⟨v,n,C⟩:=C
  obtain⟨a,b,f,H,e⟩:=ZW (λ r g=>by rw[hlen];exact q r g) n
  rw[hlen]at f H;rw[j a b f H]at e;have A:=List.idxOf_lt_length_of_mem (mem a b f H);have p:k<(dist t).length:=by unfold kL at e;omega
  have hd:=Jv.mp (aT p);obtain⟨c,d,J,B,L⟩:=ZW o hd.2;have K:at2 (jO t) c d=(k:Int):=by
   rw[j c d J B,L];unfold kL;rw[aw,nd.idxOf_getElem k p]
  obtain⟨_,_,_,x⟩:=YQ (t:=jO t) (λ r g=>by rw[hlen];exact q r g) (by omega:c<(jO t).length) (by omega:d<(jO t).length)
  rw[K]at x;exact x
end
noncomputable def yC:Nat->List (List Int)
 |0=>[[0,1,2,3,4,3,2,1],[1,0,1,2,3,4,3,2],[2,1,0,1,2,3,4,3],[3,2,1,0,1,2,3,4],[4,3,2,1,0,1,2,3],[3,4,3,2,1,0,1,2],[2,3,4,3,2,1,0,1],[1,2,3,4,3,2,1,0]]|1=>[[0,1,2,3,3,2,1],[1,0,1,2,3,3,2],[2,1,0,1,2,3,3],[3,2,1,0,1,2,3],[3,3,2,1,0,1,2],[2,3,3,2,1,0,1],[1,2,3,3,2,1,0]]|2=>[[0,1,2,3,2,1],[1,0,1,2,3,2],[2,1,0,1,2,3],[3,2,1,0,1,2],[2,3,2,1,0,1],[1,2,3,2,1,0]]|3=>[[0,1,2,2,1],[1,0,1,2,2],[2,1,0,1,2],[2,2,1,0,1],[1,2,2,1,0]]|4=>[[0,1,2,1],[1,0,1,2],[2,1,0,1],[1,2,1,0]]|5=>[[0,1,1],[1,0,1],[1,1,0]]|6=>[[0,1],[1,0]]|7=>[[0]]|8=>[[0,1,1,2,1,2,2,3],[1,0,2,1,2,1,3,2],[1,2,0,1,2,3,1,2],[2,1,1,0,3,2,2,1],[1,2,2,3,0,1,1,2],[2,1,3,2,1,0,2,1],[2,3,1,2,1,2,0,1],[3,2,2,1,2,1,1,0]]|9=>[[0,1,1,2],[1,0,2,1],[1,2,0,1],[2,1,1,0]]|10=>[[0,1],[1,0]]|11=>[[0,1,1,1,1,1,1,1],[1,0,1,1,1,1,1,1],[1,1,0,1,1,1,1,1],[1,1,1,0,1,1,1,1],[1,1,1,1,0,1,1,1],[1,1,1,1,1,0,1,1],[1,1,1,1,1,1,0,1],[1,1,1,1,1,1,1,0]]|12=>[[0,1,1,1,1,1,1],[1,0,1,1,1,1,1],[1,1,0,1,1,1,1],[1,1,1,0,1,1,1],[1,1,1,1,0,1,1],[1,1,1,1,1,0,1],[1,1,1,1,1,1,0]]|13=>[[0,1,1,1,1,1],[1,0,1,1,1,1],[1,1,0,1,1,1],[1,1,1,0,1,1],[1,1,1,1,0,1],[1,1,1,1,1,0]]|14=>[[0,1,1,1,1],[1,0,1,1,1],[1,1,0,1,1],[1,1,1,0,1],[1,1,1,1,0]]|15=>[[0,1,1,1],[1,0,1,1],[1,1,0,1],[1,1,1,0]]|16=>[[0,1,1],[1,0,1],[1,1,0]]|17=>[[0,1],[1,0]]|18=>[[0]]|19=>[[0,1,2,2,2,2,2,2],[1,0,2,2,2,2,2,2],[2,2,0,1,2,2,2,2],[2,2,1,0,2,2,2,2],[2,2,2,2,0,1,2,2],[2,2,2,2,1,0,2,2],[2,2,2,2,2,2,0,1],[2,2,2,2,2,2,1,0]]|20=>[[0,1,1,1,2,2,2,2],[1,0,1,1,2,2,2,2],[1,1,0,1,2,2,2,2],[1,1,1,0,2,2,2,2],[2,2,2,2,0,1,1,1],[2,2,2,2,1,0,1,1],[2,2,2,2,1,1,0,1],[2,2,2,2,1,1,1,0]]|21=>[[0,1,2,2,2,2],[1,0,2,2,2,2],[2,2,0,1,2,2],[2,2,1,0,2,2],[2,2,2,2,0,1],[2,2,2,2,1,0]]|22=>[[0,1,1,2,2,2],[1,0,1,2,2,2],[1,1,0,2,2,2],[2,2,2,0,1,1],[2,2,2,1,0,1],[2,2,2,1,1,0]]|23=>[[0,1,2,2],[1,0,2,2],[2,2,0,1],[2,2,1,0]]|24=>[[0,1,1,1,1,2],[1,0,1,1,2,1],[1,1,0,2,1,1],[1,1,2,0,1,1],[1,2,1,1,0,1],[2,1,1,1,1,0]]|25=>[[0,1,2,3],[1,0,3,2],[2,3,0,1],[3,2,1,0]]|26=>[[0,1,2,3,4,5,6,7],[1,0,3,2,5,4,7,6],[2,3,0,1,6,7,4,5],[3,2,1,0,7,6,5,4],[4,5,6,7,0,1,2,3],[5,4,7,6,1,0,3,2],[6,7,4,5,2,3,0,1],[7,6,5,4,3,2,1,0]]|27=>[[0,1],[1,0]]|28=>[[0,1,2,1,3,4,5,4],[1,0,1,2,4,3,4,5],[2,1,0,1,5,4,3,4],[1,2,1,0,4,5,4,3],[3,4,5,4,0,1,2,1],[4,3,4,5,1,0,1,2],[5,4,3,4,2,1,0,1],[4,5,4,3,1,2,1,0]]|29=>[[0,1,1,3,4,4],[1,0,1,4,3,4],[1,1,0,4,4,3],[3,4,4,0,1,1],[4,3,4,1,0,1],[4,4,3,1,1,0]]|30=>[[0,1,3,4],[1,0,4,3],[3,4,0,1],[4,3,1,0]]|31=>[[0,1,2,1,3,3,3,3],[1,0,1,2,3,3,3,3],[2,1,0,1,3,3,3,3],[1,2,1,0,3,3,3,3],[3,3,3,3,0,1,2,1],[3,3,3,3,1,0,1,2],[3,3,3,3,2,1,0,1],[3,3,3,3,1,2,1,0]]|32=>[[0,1,1,3,3,3],[1,0,1,3,3,3],[1,1,0,3,3,3],[3,3,3,0,1,1],[3,3,3,1,0,1],[3,3,3,1,1,0]]|33=>[[0,1,3,3],[1,0,3,3],[3,3,0,1],[3,3,1,0]]|_=>[]
theorem FX:((List.range 34).all λ i=>Xf (jO (yC i))&&((yC i).all λ r=>r.length==(yC i).length)&&((yC i).flatten.all λ v=>decide (0<=v)&&decide (v<8)))=true:=by decide +kernel
theorem T8 (h:i<34):zQ (jO (yC i))/\G.Sq (yC i)/\∀v∈(yC i).flatten,0<=v/\v<8:=by
 have:=qa4.mp FX i (qa5.mpr h)
 rw[ao,ao]at this;refine⟨Fe this.1.1,λ r a=>?_,λ v H=>?_⟩
 ·exact eq_of_beq (qa4.mp this.1.2 r a)
 ·have:=qa4.mp this.2 v H
  rw[ao,ag,ag]at this;exact this
theorem Sh :∀{us:List W}{w:List (List W)},kS A us=some w->∃K:List Nat,us=K.map W.ref/\K.length=w.length/\∀i,i<w.length->A[K.getD i 0]? =some (.lst (w.getD i []))
 |[],w,e=>by
  cases e;exact⟨[],rfl,rfl,λ i H=>by cases H⟩
 |.ref k::us,w,e=>by
  unfold kS at e;cases h:A[k]? with
  |none=>rw[h]at e;cases e|some o=>
   rw[h]at e;cases o with
   |lst ws=>
    dsimp only at e;cases a:kS A us with
    |none=>rw[a]at e;cases e|some v=>
     rw[a]at e;cases e;obtain⟨K,rfl,l,b⟩:=Sh a;refine⟨k::K,rfl,by simp[l],λ i H=>?_⟩
     cases i with
     |zero=>exact h|succ i=>exact b i (by simpa using H)
   |_=>cases e
 |.non::_,_,e=>by cases e|.bl _::_,_,e=>by cases e|.int _::_,_,e=>by cases e|.str _::_,_,e=>by cases e|.tup _::_,_,e=>by cases e|.clo _ _ _::_,_,e=>by cases e|.xc _::_,_,e=>by cases e
def Xh (x:R Fl):Option (Option O×Option (List (List W))):=match x with
 |.ok (.rt (.ref r)) B=>some (B[0]?,match B[r]? with
  |some (.lst us)=>kS B us|_=>none)
 |_=>none
theorem Fb {x:R Fl}(h:Xh x=some (some o,some (t.map λ r=>r.map W.int))):∃r B,x=.ok (.rt (.ref r)) B/\B[0]? =some o/\LL t r B:=by
 unfold Xh at h
 split at h
 ·rename_i r B
  injection h with h
  injection h with d H
  cases a:B[r]? with
  |none=>rw[a]at H;cases H|some o'=>
   rw[a]at H;cases o' with
   |lst us=>
    dsimp only at H;obtain⟨K,rfl,l,b⟩:=Sh H;rw[ah]at l b;refine⟨r,B,rfl,d,K,a,l,λ i c=>(b i c).trans ?_⟩;rw[aa,ak,aa,ab c]
    rfl
   |_=>cases H
 ·cases h
def Plain (X:Ex)(ρ:En)(A:Hx):Prop:=∃i,i<34/\∃r B,X ρ A=.ok (.rt (.ref r)) B/\qp 0 B/\LL (yC i) r B
section
variable {m1 m2:Ex}{ρ1:En}{L:Hx}{c:Ev}
theorem kU (h:m1 ρ A=.ok (.nx ρ1) A1)(q:Plain m2 ρ1 A1):Plain (zr m1 m2) ρ A:=by
 unfold Plain;rw[zF h];exact q
theorem QU (q:Plain m1 ρ A):Plain (zr m1 m2) ρ A:=by
 obtain⟨i,h,r,B,e,s,l⟩:=q;exact⟨i,h,r,B,qf e,s,l⟩
theorem Q2 (h:c ρ A=.ok (.bl true) A1)(q:Plain m1 ρ A1):Plain (ql c m1 m2) ρ A:=by
 unfold Plain;rw[Z4 h];exact q
theorem js {m:Ex}(h:c ρ A=.ok (.bl false) A)(q:Plain m ρ A):Plain (zr (ql c m1 zx) m) ρ A:=kU ((jj h).trans qS) q
theorem Dp {l:Hx}(s:qp 0 (o::L)):qp 0 (o::l):=s
theorem qY (i:Nat)(H:i<34)(s:qp 0 (o::L))(h:Xh (m1 ρ A)=some (some o,some ((yC i).map λ r=>r.map W.int))):Plain m1 ρ A:=by
 obtain⟨r,B,e,h0,l⟩:=Fb h;obtain⟨c,b,a,q⟩:=s;have E:some o=some (O.lst [.int c,.bl b]):=a;exact⟨i,H,r,B,e,⟨c,b,by rw[h0];exact E,q⟩,l⟩
theorem take1 (s:qp 0 (o::L)){m:Int}(H:0<m)(h:m<1000000000000000):∃(r:Nat) (o':O),jM [.ref 0,.int m] (o::L)=.ok (.int (r:Int)) (o'::L)/\(r:Int)<m/\qp 0 (o'::L):=by
 obtain⟨r,o',e,a,b,S⟩:=Ra s H h;exact⟨r.toNat,o',by rw[e,bw a];rfl,by omega,S⟩
theorem ZQ {a:Ea}{vs:List W}{k:Nat}(s:qp 0 (o::L))(h0:ρ[0]? =some (some (.ref 0)))(b:∀A,a ρ A=.ok vs A)(f:vs.length=k)(c:0<k)(K:k<1000):∃(j:Nat) (w:W) (o':O),zl zG (qP a) (zw jM (zh (zc 0) (zh (zj (.int (k:Int))) zq))) ρ (o::L)=.ok w (o'::(L++[.lst vs]))/\j<k/\vs[j]? =some w/\qp 0 (o'::(L++[.lst vs])):=by
 obtain⟨r,o',e,d,S⟩:=take1 (L:=L++[.lst vs]) (m:=(k:Int)) (Dp s) (by omega) (by omega)
 have h:r<vs.length:=by omega
 refine⟨r,vs[r],o',?_,by omega,ab h,S⟩
 refine(zH (kR (b _)) ((zK (zA (zo h0) (zA qv zL))).trans e)).trans ?_;have H:(o'::(L++[O.lst vs]))[(o::L).length]? =some (.lst vs):=by
  show(L++[O.lst vs])[L.length]? =_;exact j0
 exact y9 H (ab h)
end
theorem three {j:Nat}(h:j<3):j=0∨j=1∨j=2:=by omega
theorem Xc {j:Nat}(h:j<5):j=0∨j=1∨j=2∨j=3∨j=4:=by omega
theorem GZ {j:Nat}(h:j<8):j=0∨j=1∨j=2∨j=3∨j=4∨j=5∨j=6∨j=7:=by omega
theorem HP (s:qp 0 [o]):Plain (Wv jM) [some (.ref 0),none,none,none,none,none,none,none,none,none,none] [o]:=by
 unfold Wv;obtain⟨way,p,n,hw,s1⟩:=take1 s (m:=8) (by decide) (by decide)
 refine kU (ρ1:=[some (.ref 0),some (.int (way:Int)),none,none,none,none,none,none,none,none,none]) (A1:=[p]) ((qC ((zK (ws:=[.ref 0,.int 8]) (A1:=[o]) rfl).trans n)).trans rfl) ?_;obtain⟨j,w,c,E,l,f,s2⟩:=ZQ (k:=8) (ρ:=[some (.ref 0),some (.int (way:Int)),none,none,none,none,none,none,none,none,none]) (a:=zh (zj (.int 8)) (zh (zj (.int 7)) (zh (zj (.int 6)) (zh (zj (.int 5)) (zh (zj (.int 4)) (zh (zj (.int 3)) (zh (zj (.int 2)) (zh (zj (.int 1)) zq)))))))) (vs:=[.int 8,.int 7,.int 6,.int 5,.int 4,.int 3,.int 2,.int 1]) s1 rfl (λ _=>rfl) rfl (by decide) (by decide)
 refine kU (ρ1:=[some (.ref 0),some (.int (way:Int)),some w,none,none,none,none,none,none,none,none]) (A1:=[c,.lst [.int 8,.int 7,.int 6,.int 5,.int 4,.int 3,.int 2,.int 1]]) ((qC E).trans rfl) ?_;have y:way<8:=by omega
 clear n E hw s s1;rcases GZ y with rfl|rfl|rfl|rfl|rfl|rfl|rfl|rfl
 ·refine QU (Q2 (A1:=[c,.lst [.int 8,.int 7,.int 6,.int 5,.int 4,.int 3,.int 2,.int 1]]) (by kernel_rfl) ?_)
  rcases GZ l with rfl|rfl|rfl|rfl|rfl|rfl|rfl|rfl<;>cases f
  ·exact qY 0 (by decide) s2 (by kernel_rfl)
  ·exact qY 1 (by decide) s2 (by kernel_rfl)
  ·exact qY 2 (by decide) s2 (by kernel_rfl)
  ·exact qY 3 (by decide) s2 (by kernel_rfl)
  ·exact qY 4 (by decide) s2 (by kernel_rfl)
  ·exact qY 5 (by decide) s2 (by kernel_rfl)
  ·exact qY 6 (by decide) s2 (by kernel_rfl)
  ·exact qY 7 (by decide) s2 (by kernel_rfl)
 ·refine js (by kernel_rfl) (QU (Q2 (A1:=[c,.lst [.int 8,.int 7,.int 6,.int 5,.int 4,.int 3,.int 2,.int 1]]) (by kernel_rfl) ?_))
  obtain⟨J,g,i,e,b,H,s3⟩:=ZQ (k:=3) (ρ:=[some (.ref 0),some (.int ((1:Nat):Int)),some w,none,none,none,none,none,none,none,none]) (a:=zh (zj (.int 8)) (zh (zj (.int 4)) (zh (zj (.int 2)) zq))) (vs:=[.int 8,.int 4,.int 2]) s2 rfl (λ _=>rfl) rfl (by decide) (by decide)
  refine kU ((qC e).trans rfl) ?_;rcases three b with rfl|rfl|rfl<;>cases H
  ·exact qY 8 (by decide) s3 (by kernel_rfl)
  ·exact qY 9 (by decide) s3 (by kernel_rfl)
  ·exact qY 10 (by decide) s3 (by kernel_rfl)
 ·refine js (by kernel_rfl) (js (by kernel_rfl) (QU (Q2 (A1:=[c,.lst [.int 8,.int 7,.int 6,.int 5,.int 4,.int 3,.int 2,.int 1]]) (by kernel_rfl) ?_)))
  rcases GZ l with rfl|rfl|rfl|rfl|rfl|rfl|rfl|rfl<;>cases f
  ·exact qY 11 (by decide) s2 (by kernel_rfl)
  ·exact qY 12 (by decide) s2 (by kernel_rfl)
  ·exact qY 13 (by decide) s2 (by kernel_rfl)
  ·exact qY 14 (by decide) s2 (by kernel_rfl)
  ·exact qY 15 (by decide) s2 (by kernel_rfl)
  ·exact qY 16 (by decide) s2 (by kernel_rfl)
  ·exact qY 17 (by decide) s2 (by kernel_rfl)
  ·exact qY 18 (by decide) s2 (by kernel_rfl)
 ·refine js (by kernel_rfl) (js (by kernel_rfl) (js (by kernel_rfl) (QU (Q2 (A1:=[c,.lst [.int 8,.int 7,.int 6,.int 5,.int 4,.int 3,.int 2,.int 1]]) (by kernel_rfl) ?_))))
  obtain⟨J,g,i,e,b,H,s3⟩:=ZQ (k:=5) (ρ:=[some (.ref 0),some (.int ((3:Nat):Int)),some w,none,none,none,none,none,none,none,none]) (a:=zh (jb (zh (zj (.int 2)) (zh (zj (.int 4)) zq))) (zh (jb (zh (zj (.int 4)) (zh (zj (.int 2)) zq))) (zh (jb (zh (zj (.int 2)) (zh (zj (.int 3)) zq))) (zh (jb (zh (zj (.int 3)) (zh (zj (.int 2)) zq))) (zh (jb (zh (zj (.int 2)) (zh (zj (.int 2)) zq))) zq))))) (vs:=[.tup [.int 2,.int 4],.tup [.int 4,.int 2],.tup [.int 2,.int 3],.tup [.int 3,.int 2],.tup [.int 2,.int 2]]) s2 rfl (λ _=>rfl) rfl (by decide) (by decide)
  have asg:∀{m:Ev}{tw:Tg}{ρ d:En}{A A1:Hx}{w:W},m ρ A=.ok w A1->tw w ρ=some d->Zw m tw ρ A=.ok (.nx d) A1:=λ h h'=>by
   unfold Zw;rw[h,zM,h']
  rcases Xc b with rfl|rfl|rfl|rfl|rfl<;>cases H
  ·exact kU (asg e rfl) (qY 19 (by decide) s3 (by kernel_rfl))
  ·exact kU (asg e rfl) (qY 20 (by decide) s3 (by kernel_rfl))
  ·exact kU (asg e rfl) (qY 21 (by decide) s3 (by kernel_rfl))
  ·exact kU (asg e rfl) (qY 22 (by decide) s3 (by kernel_rfl))
  ·exact kU (asg e rfl) (qY 23 (by decide) s3 (by kernel_rfl))
 ·exact js (by kernel_rfl) (js (by kernel_rfl) (js (by kernel_rfl) (js (by kernel_rfl) (QU (Q2 (A1:=[c,.lst [.int 8,.int 7,.int 6,.int 5,.int 4,.int 3,.int 2,.int 1]]) (by kernel_rfl) (qY 24 (by decide) s2 (by kernel_rfl)))))))
 ·refine js (by kernel_rfl) (js (by kernel_rfl) (js (by kernel_rfl) (js (by kernel_rfl) (js (by kernel_rfl) (QU (Q2 (A1:=[c,.lst [.int 8,.int 7,.int 6,.int 5,.int 4,.int 3,.int 2,.int 1]]) (by kernel_rfl) ?_))))))
  obtain⟨J,g,i,e,b,H,s3⟩:=ZQ (k:=3) (ρ:=[some (.ref 0),some (.int ((5:Nat):Int)),some w,none,none,none,none,none,none,none,none]) (a:=zh (zj (.int 4)) (zh (zj (.int 8)) (zh (zj (.int 2)) zq))) (vs:=[.int 4,.int 8,.int 2]) s2 rfl (λ _=>rfl) rfl (by decide) (by decide)
  refine kU ((qC e).trans rfl) ?_;rcases three b with rfl|rfl|rfl<;>cases H
  ·exact qY 25 (by decide) s3 (by kernel_rfl)
  ·exact qY 26 (by decide) s3 (by kernel_rfl)
  ·exact qY 27 (by decide) s3 (by kernel_rfl)
 ·refine js (by kernel_rfl) (js (by kernel_rfl) (js (by kernel_rfl) (js (by kernel_rfl) (js (by kernel_rfl) (js (by kernel_rfl) ?_)))))
  obtain⟨J,g,i,e,b,H,s3⟩:=ZQ (k:=3) (ρ:=[some (.ref 0),some (.int ((6:Nat):Int)),some w,none,none,none,none,none,none,none,none]) (a:=zh (zj (.int 4)) (zh (zj (.int 3)) (zh (zj (.int 2)) zq))) (vs:=[.int 4,.int 3,.int 2]) s2 rfl (λ _=>rfl) rfl (by decide) (by decide)
  refine kU ((qC e).trans rfl) ?_;rcases three b with rfl|rfl|rfl<;>cases H
  ·exact qY 28 (by decide) s3 (by kernel_rfl)
  ·exact qY 29 (by decide) s3 (by kernel_rfl)
  ·exact qY 30 (by decide) s3 (by kernel_rfl)
 ·refine js (by kernel_rfl) (js (by kernel_rfl) (js (by kernel_rfl) (js (by kernel_rfl) (js (by kernel_rfl) (js (by kernel_rfl) ?_)))))
  obtain⟨J,g,i,e,b,H,s3⟩:=ZQ (k:=3) (ρ:=[some (.ref 0),some (.int ((7:Nat):Int)),some w,none,none,none,none,none,none,none,none]) (a:=zh (zj (.int 4)) (zh (zj (.int 3)) (zh (zj (.int 2)) zq))) (vs:=[.int 4,.int 3,.int 2]) s2 rfl (λ _=>rfl) rfl (by decide) (by decide)
  refine kU ((qC e).trans rfl) ?_;rcases three b with rfl|rfl|rfl<;>cases H
  ·exact qY 31 (by decide) s3 (by kernel_rfl)
  ·exact qY 32 (by decide) s3 (by kernel_rfl)
  ·exact qY 33 (by decide) s3 (by kernel_rfl)
theorem Fw (s:qp 0 [o]):∃i,i<34/\∃r B,Yr [.ref 0] [o]=.ok (.ref r) B/\qp 0 B/\LL (yC i) r B:=by
 obtain⟨i,h,r,B,e,q⟩:=HP s;refine⟨i,h,r,B,?_,q⟩;unfold Yr WC;exact qt e
noncomputable def Xn (g:Nat->W):W->W
 |.int v=>g v.toNat|w=>w
theorem TK (g:Nat->W)(o:List Nat):((o.map λ (a:Nat)=>(a:Int)).map W.int).map (Xn g)=o.map g:=by
 rw[aP,aP]
 apply a3
 intro a _;show g (Int.toNat (a:Int))=g a;rw[aw]
theorem Tb {fd:List Int}{M:Nat}{s:Int}(h:fd.Perm ((List.range M).map λ (k:Nat)=>s+(k:Int))):∃p:List Nat,fd=p.map (λ (k:Nat)=>s+(k:Int))/\p.Perm (List.range M):=by
 refine⟨fd.map λ v=>(v - s).toNat,?_,?_⟩
 ·rw[aP]
  conv=>lhs;rw[<- map_id fd]
  apply a3
  intro v H;obtain⟨k,_,rfl⟩:=qa6.mp (h.mem_iff.mp H);show s+(k:Int)=s+(((s+(k:Int) - s).toNat:Nat):Int);omega
 ·have:=h.map λ v=>(v - s).toNat
  rw[aP]at this;have e:(List.range M).map ((λ v:Int=>(v - s).toNat) ∘ λ (k:Nat)=>s+(k:Int))=List.range M:=by
   conv=>rhs;rw[<- map_id (List.range M)]
   apply a3
   intro k _;show(s+(k:Int) - s).toNat=k;omega
  rw[e]at this;exact this
section
variable {B:Hx}
theorem Sf (h:zQ t)(a:ρ[i]? =some (some (zp t))):mQ jZ (zV 1 [] (qF (zc i)) (zR 0) (zj (.bl true)) (zP (mQ jZ (qb (zc 0))))) ρ A=.ok (.int (z8 t - 1)) A:=by
 have n8:=h.n8;have e:=LR (cap:=[]) (A:=A) (ρ:=ρ) (o:=t) (f:=zt) (m:=zc i) (me:=mQ jZ (qb (zc 0))) (G:=λ r=>.int (kj r)) (zo a) (by unfold zX;omega) (λ r H=>(j4 (yG (w:=zt r) (ws:=r.map W.int) (A1:=A) (zo rfl) rfl)).trans (T3 (h.row_ne H)))
 have em:(t.map λ r=>W.int (kj r))=(t.map kj).map W.int:=by rw[aP];rfl
 rw[em]at e;refine((j4 e).trans (T3 h.map_ne)).trans ?_
 have:z8 t - 1=kj (t.map kj):=by unfold z8;omega
 rw[this]
theorem Ma {ma mb:Ev}{M:Nat}(H:ma ρ A=.ok (.int 1) A)(h:mb ρ A=.ok (.int (1+(M:Int))) A)(a:M<=100):JK ma mb ρ A=.ok (.ref A.length) (A++[.lst (((List.range M).map λ (k:Nat)=>1+(k:Int)).map W.int)]):=by
 unfold JK;rw[H,zM,h,zM];dsimp only;have e:(1+(M:Int) - 1).toNat=M:=by omega
 rw[af (by
  have s1:jo 1=true:=by decide
  have s2:jo (1+(M:Int))=true:=by unfold jo;simp;omega
  rw[s1,s2,e,aq (by unfold zX;omega)];rfl),e,aP]
 rfl
def Known (t:List (List Int)):Prop:=∃i p o,i<34/\p.Perm (List.range (z8 (jO (yC i)) - 1).toNat)/\o.Perm (List.range (jO (yC i)).length)/\t=kf (jO (yC i)) p o
theorem Fx (s:qp 0 [o]):∃t B,Ym [.ref 0] [o]=.ok (zp t) B/\qp 0 B/\zQ t/\Known t:=by
 obtain⟨i,hi,r,B0,e0,s0,Z⟩:=Fw s;obtain⟨tt,sq,q⟩:=T8 hi;have hlen:(jO (yC i)).length=(yC i).length:=by unfold jO;rw[ah]
 have m1:=tt.n1;have m8:=tt.n8;obtain⟨B1,e1,x1⟩:=TC (by omega) (by omega) sq q Z
 have s1:=s0.ext x1;generalize Q:jO (yC i)=u at*;clear hlen Z;have n1:=tt.n1;have n8:=tt.n8;have kb:=yo tt;obtain⟨M,hM⟩:=aN (show 0<=z8 u - 1 by omega)
 have el:=G2 (ws:=u.map zt) (ρ:=[some (.ref 0),some (zp u),none,none]) (i:=1) (A:=B1) rfl;rw[ah]at el;have e2:=Mc el (by omega)
 have T:iL (List.range u.length)=((List.range u.length).map λ (a:Nat)=>0+(a:Int)).map W.int:=by
  rw[aP]
  apply a3
  intro a _;show W.int (a:Int)=W.int (0+(a:Int));rw[bA]
 rw[T]at e2;have s2:=s1.ext (Ext.one (o:=.lst (((List.range u.length).map λ (a:Nat)=>0+(a:Int)).map W.int)));obtain⟨j,h,fd,e3,X,p2,k2,N⟩:=T4 s2 j0 (by simp;omega)
 obtain⟨d,rfl,po⟩:=Tb p2;have S:(d.map λ (k:Nat)=>(0:Int)+(k:Int))=d.map λ (k:Nat)=>(k:Int):=a3 λ a _=>by omega
 rw[S]at X;have Y:zw Qn (zh (zc 0) (zh (JE (mQ qK (qb (zc 1)))) zq)) [some (.ref 0),some (zp u),none,none] B1=.ok (.ref j) h:=(zK (zA (zo (i:=0) rfl) (zA e2 zL))).trans e3;have hr20:0<j:=by have:=s1.lt;simp at N;omega
 have e4:qP (zh (zj (.int 0)) zq) [some (.ref 0),some (zp u),some (.ref j),none] h=.ok (.ref h.length) (h++[.lst [.int 0]]):=kR (zA qv zL);have s3:=k2.st.ext (Ext.one (o:=.lst [.int 0]));have C:=yP (u:=.lst [.int 0]) X;have hz:(h++[.lst [.int 0]])[h.length]? =some (.lst [.int 0]):=j0;have h2l:=kB X;have hB2:0<h.length:=by omega
 generalize h++[.lst [.int 0]]=B3 at e4 s3 C hz;have D:=Sf tt (ρ:=[some (.ref 0),some (zp u),some (.ref j),none]) (i:=1) (A:=B3) rfl;rw[hM]at D;have e5:=Ma (ρ:=[some (.ref 0),some (zp u),some (.ref j),none]) (A:=B3) (M:=M) (ma:=zj (.int 1)) (mb:=zl qE (zj (.int 1)) (mQ jZ (zV 1 [] (qF (zc 1)) (zR 0) (zj (.bl true)) (zP (mQ jZ (qb (zc 0))))))) qv ((zH qv D).trans rfl) (by omega)
 have s4:=s3.ext (Ext.one (o:=.lst (((List.range M).map λ (k:Nat)=>1+(k:Int)).map W.int)));obtain⟨r3,f,fd3,e6,h3,p3,K,nw3⟩:=T4 s4 j0 (by simp;omega)
 obtain⟨P,rfl,pp⟩:=Tb p3;have z:=K.kp.get (yP C) (by omega)
 have J:=K.kp.get (yP hz) (by omega)
 have E:zl qE (qP (zh (zj (.int 0)) zq)) (zw Qn (zh (zc 0) (zh (JK (zj (.int 1)) (zl qE (zj (.int 1)) (mQ jZ (zV 1 [] (qF (zc 1)) (zR 0) (zj (.bl true)) (zP (mQ jZ (qb (zc 0)))))))) zq))) [some (.ref 0),some (zp u),some (.ref j),none] h=.ok (.ref f.length) (f++[.lst ((qV P).map W.int)]):=by
  refine(zH e4 ((zK (zA (zo (i:=0) rfl) (zA e5 zL))).trans e6)).trans ((U6 J h3 ?_).trans rfl)
  have:=pp.length_eq
  rw[aJ]at this;rw[ah,ah,this];unfold zX;simp;omega
 have U:=yP (u:=.lst ((qV P).map W.int)) z;have h6:(f++[.lst ((qV P).map W.int)])[f.length]? =some (.lst ((qV P).map W.int)):=j0;have s5:=K.st.ext (Ext.one (o:=.lst ((qV P).map W.int)));generalize hB5:f++[.lst ((qV P).map W.int)]=c at E U h6 s5;have hol:d.length=u.length:=by rw[po.length_eq,aJ]
 have n:∀a∈d,a<u.length:=λ a x=>qa5.mp (po.mem_iff.mp x);have hpl:P.length=M:=by rw[pp.length_eq,aJ]
 have y:(z8 u - 1).toNat=M:=by omega
 have res:=UJ tt (p:=P) (o:=d) (by rw[y];exact pp) po
 refine⟨kf u P d,c,?_,s5,res.1,i,P,d,hi,by rw[Q,y];exact pp,by rw[Q];exact po,by rw[Q]⟩
 unfold Ym;refine qt ?_;unfold VM;refine(zF ((qC ((zK (zA ((zK (zA (zo (i:=0) rfl) zL)).trans e0) zL)).trans e1)).trans rfl)).trans ((zF ((qC Y).trans rfl)).trans ((zF ((qC E).trans rfl)).trans (qf (qB ?_))));have inner:∀a,a∈d->∀b,b∈d->zl zG (zc 3) (zl zG (zl zG (zc 2) (zc 1)) (zc 0)) [some (.int (b:Int)),some (.int (a:Int)),some (zp u),some (.ref f.length)] c=.ok (.int ((qV P).getD (at2 u a b).toNat 0)) c:=λ a x b q=>by
  have L:=n a x;have I:=n b q;have bd:=Zp tt L I;have kg:=Y9 tt L I;obtain⟨v,H⟩:=aN bd.1;have e:zl zG (zl zG (zc 2) (zc 1)) (zc 0) [some (.int (b:Int)),some (.int (a:Int)),some (zp u),some (.ref f.length)] c=.ok (.int (v:Int)) c:=by
   rw[<- H];exact(zH ((zH (zo rfl) (zo rfl)).trans (gG L)) (zo rfl)).trans (JN (by rw[tt.sq _ (jE L)];exact I))
  have l:v<(qV P).length:=by
   show v<(P.map _).length+1;rw[ah];omega
  refine(zH (zo (i:=3) rfl) e).trans (y9 h6 ?_);rw[H,aw,ak,ab l,aa,ab l]
  rfl
 have ec:=YI (cap:=[1,2,3]) (m:=zc 2) (me:=mQ jR (zV 1 [0,1,3] (qF (zc 2)) (zR 0) (zj (.bl true)) (zP (zl zG (zc 3) (zl zG (zl zG (zc 2) (zc 1)) (zc 0)))))) (ρ:=[some (.ref 0),some (zp u),some (.ref j),some (.ref f.length)]) (A:=c) (g:=Xn λ a=>zt (d.map λ b=>(qV P).getD (at2 u a b).toNat 0)) (zo rfl) U (by simp;unfold zX;omega) (λ w hw=>by
  obtain⟨v,H,rfl⟩:=qa6.mp hw;obtain⟨a,x,rfl⟩:=qa6.mp H;have ei:=YI (cap:=[0,1,3]) (m:=zc 2) (me:=zl zG (zc 3) (zl zG (zl zG (zc 2) (zc 1)) (zc 0))) (ρ:=[some (.int (a:Int)),some (zp u),some (.ref j),some (.ref f.length)]) (A:=c) (g:=Xn λ b=>.int ((qV P).getD (at2 u a b).toNat 0)) (zo rfl) U (by simp;unfold zX;omega) (λ w hw=>by
   obtain⟨v,H,rfl⟩:=qa6.mp hw;obtain⟨b,q,rfl⟩:=qa6.mp H;refine(inner a x b q).trans ?_;show _=R.ok (W.int ((qV P).getD (at2 u a (Int.toNat (b:Int))).toNat 0)) c;rw[aw])
  rw[TK]at ei;refine(wX ei).trans ?_;show _=R.ok (zt (d.map λ b=>(qV P).getD (at2 u (Int.toNat (a:Int)) b).toNat 0)) c;rw[aw];unfold zt;rw[aP]
  rfl)
 rw[TK]at ec;refine(wX ec).trans ?_;unfold zp kf;rw[aP]
 rfl
theorem Sa (s:qp n A):∃t B,wN [.ref n] A=.ok (zp t) B/\zQ t/\Known t/\Kn n A B/\B.length=A.length:=by
 obtain⟨c,b,a,f,g⟩:=s;have hm:=kB a;obtain⟨t,A1,e,⟨C,d,E,h,H⟩,T,kn⟩:=Fx (o:=.lst [.int c,.bl b]) ⟨c,b,rfl,f,g⟩;refine⟨t,A.set n (.lst [.int C,.bl d]),?_,T,kn,⟨Kp.set,C,d,aF hm,h,H⟩,length_set ..⟩;unfold wN;exact JB a rfl e E (yz t)
end
end G
namespace Mi
open PySem L2
theorem NZ {c:En}{N:Nat}{u v g:Nat->W}(t:∀i,i<N->j.at_ A i=some (some (.tup [u i,v i])))(H:j.at_ A N=some none)(he:∀i,i<N->me (some (u i)::some (v i)::c) A=.ok (g i) A):
  ∀(f i:Nat)(x y:Option W)(acc:List W),i+f=N->acc.length+f<=zX->∃ρ,jc j (qD 0 1) (zj (.bl true)) (zP me) f i (x::y::c) acc A=.ok (ρ,acc++(List.range' i f).map g) A:=by
 intro f
 induction f with
 |zero=>
  intro i x y acc h l
  have:i=N:=by omega
  subst this;refine⟨x::y::c,?_⟩;unfold jc;rw[H];simp
 |succ f I=>
  intro i x y acc h l;obtain⟨ρ,e⟩:=I (i+1) (some (u i)) (some (v i)) (acc++[g i]) (by omega) (by rw[aE,bh];omega)
  refine⟨ρ,?_⟩;rw[jc,t i (by omega)]
  dsimp only;rw[show qD 0 1 (.tup [u i,v i]) (x::y::c)=some (some (u i)::some (v i)::c) from rfl]
  dsimp only[zj];rw[zM];dsimp only;have E:zP me (some (u i)::some (v i)::c) acc A=.ok (some (u i)::some (v i)::c,acc++[g i]) A:=by
   unfold zP;rw[he i (by omega),zM,af (by omega)]
  rw[E,zM];rw[e,aW,range'_succ,aO]
  rfl
theorem V8 {N:Nat}{u v g:Nat->W}(hm:mi ρ A=.ok j A)(b:j.len=N)(d:N<=1000)(H:∀i,i<N->j.at_ A i=some (some (.tup [u i,v i])))(h:j.at_ A N=some none)
  (he:∀i,i<N->me (some (u i)::some (v i)::cap.map λ i=>(ρ[i]?).join) A=.ok (g i) A):zV 2 cap mi (qD 0 1) (zj (.bl true)) (zP me) ρ A=.ok ((List.range N).map g) A:=by
 obtain⟨a,e⟩:=NZ (A:=A) (c:=cap.map λ i=>(ρ[i]?).join) H h he N 0 none none [] (by omega) (by unfold zX;simp;omega)
 unfold zV;rw[hm,zM,b];show R.bind (R.nox (jc j _ _ _ N 0 (none::none::cap.map λ i=>(ρ[i]?).join) [] A)) _=_;rw[e,<- range_eq_range',bC]
 rfl
end Mi
namespace Mi
open PySem L2
theorem YG {M:Ev}{us vs:List W}(h:m ρ A=.ok (.tup us) A)(h':M ρ A=.ok (.tup vs) A):wC m M ρ A=.ok (kY (.tup us) (.tup vs) us.length) A:=by
 unfold wC;rw[h,zM,h',zM]
 rfl
end Mi
namespace G
open PySem L2 Mi
theorem YZ {f:Fn}{us:List W}{k:Nat}(hn:qR us=true)(h:f us []=.ok (.ref k) A1)(H:A1[k]? =some (.lst ws))(hw:qR ws=true):iso f us A=.ok (.ref A.length) (A++[.lst ws]):=by
 unfold iso;rw[af hn,h];dsimp only;rw[H];dsimp only;rw[af hw]
section
theorem O9 (h:n<1000000):jo (n:Int)=true:=by
 unfold jo;rw[ao,ag,ag];omega
theorem D4 {a b:W}{d:PyData}(c:qe A 8 a=some d)(H:qe A 8 b=some d)(h:PyData.eqv d d=true):qw a b A=.ok (.bl false) A:=by
 show yI true a b A=_;unfold yI;rw[c,H];dsimp only;rw[af rfl,h]
 rfl
end
section
theorem EY (a:A[0]? =some (.ro (ns.map W.int)))(k:Nat):∃x:Int,Yg [.ref 0,.int k] A=.ok (.int x) A:=by
 have H:qa (.ref 0) A=some (ns.map W.int):=by unfold qa;dsimp only;rw[a]
 have l:mQ qK (qb (zc 0)) [some (.ref 0),some (.int k)] A=.ok (.int ns.length) A:=by
  rw[j4 (yG (w:=.ref 0) (A1:=A) (zo rfl) H)];unfold qK;rw[ah]
 have e:zl ZD (zc 1) (mQ qK (qb (zc 0))) [some (.ref 0),some (.int k)] A=.ok (.bl (decide ((k:Int)<ns.length))) A:=(zH (zo (w:=.int k) rfl) l).trans rfl
 by_cases h:k<ns.length
 ·refine⟨ns[k],qt ?_⟩
  unfold Wk;rw[aq (by omega)]at e
  refine qf ((Z4 e).trans (qf (qB ?_)));refine(zH (x:=.ref 0) (y:=.int k) (A1:=A) (A2:=A) (zo rfl) (zo rfl)).trans ?_;unfold zG;rw[H];dsimp only;rw[Y2 (v:=.int ns[k]) (by rw[ak,ab h];rfl)]
 ·refine⟨0,qt ?_⟩
  unfold Wk;rw[aA (by omega)]at e
  exact(zF ((jj e).trans rfl)).trans rfl
theorem HD (H:A[0]? =some (.ro (ns.map W.int)))(k:Nat):∃o,Qs [.ref 0,.int k] A=.ok (.ref A.length) (A++[o])/\qp A.length (A++[o]):=by
 obtain⟨x,e⟩:=EY H k;have a:zY 2 (zw Yg (zh (zc 0) (zh (zc 1) zq))) [some (.ref 0),some (.int k),none] A=.ok (.nx [some (.ref 0),some (.int k),some (.int x)]) A:=by
  refine(qC (w:=.int x) (A1:=A) ?_).trans rfl;rw[zK (ws:=[.ref 0,.int k]) (A1:=A) rfl];exact e
 have E:zl Xp (zc 2) (zl QY (zj (.int 10)) (zj (.int 18))) [some (.ref 0),some (.int k),some (.int x)] A=.ok (.bl (decide ((1000000000000000000:Int)<=x))) A:=(zH (x:=.int x) (y:=.int 1000000000000000000) (A1:=A) (A2:=A) (zo rfl) rfl).trans rfl
 by_cases h:(1000000000000000000:Int)<=x
 ·refine⟨.lst [.int (x - 1000000000000000000),.bl true],qt ?_,x - 1000000000000000000,true,j0,by omega,λ z=>nomatch z⟩
  unfold WA;rw[aq h]at E;refine(zF a).trans (qf ((Z4 E).trans (qf (qB (kR ?_)))))
  rfl
 ·refine⟨.lst [.int (x % 2147483647),.bl false],qt ?_,x % 2147483647,false,j0,emod_nonneg _ (by decide),λ _=>bB _ (by decide)⟩
  unfold WA;rw[aA h]at E;refine(zF a).trans ((zF ((jj E).trans rfl)).trans (qf (qB (kR ?_))));refine zA (A1:=A) (A2:=A) ((zH (x:=.int x) (y:=.int 2147483647) (A1:=A) (A2:=A) (zo rfl) rfl).trans (Z3 (by decide))) rfl
theorem Hl (h:zQ t)(A:Hx):gv [zp t] A=.ok (.bl true) A:=TL h A
theorem Zb (h:zQ t)(A:Hx):wb [zp t] A=.ok .non A:=by
 unfold wb Wf;refine JG (ρ:=[some (zp t)]) ?_;unfold X8;refine(zF (ρ1:=[some (zp t)]) (A1:=A) ((jj (A1:=A) ?_).trans rfl)).trans rfl;exact wq (k:=true) ((zK (ws:=[zp t]) (A1:=A) rfl).trans (Hl h A))
variable {a b k:Nat}{w x:W}
theorem EM {ty:Ty}(h:gW w A=some ty):(Zy ty .int&&!Zy ty .bl)=Xz w:=by
 cases w with
 |ref k=>
  unfold gW at h;dsimp only at h
  split at h
  ·cases h;rfl
  ·cases h;rfl
  ·cases h
 |clo _ _ _=>cases h|xc _=>cases h|_=>cases h;rfl
theorem DL {a b:Ev}{p q:Bool}(h:a ρ A=.ok (.bl p) A)(H:b ρ A=.ok (.bl q) A):jz a b ρ A=.ok (.bl (p&&q)) A:=by
 cases p with
 |true=>exact(ka h).trans H|false=>exact QK h
theorem Fz {ty:Ty}(h:gW w A=some ty):gu [w] A=.ok (.bl (Xz w)) A:=by
 unfold gu Yu Ux;refine qt (qf (qB ((DL (RB (zo rfl) h) (wq (RB (zo rfl) h))).trans ?_)));rw[EM h]
def Ok (n:Nat)(x:W):Prop:=∃v:Nat,x=.int (v:Int)/\v<n
theorem W5 {ty:Ty}(h:gW x A=some ty)(n:Nat):∃b,Qm [x,.int (n:Int)] A=.ok (.bl b) A/\(b=true↔Ok n x):=by
 unfold Qm Wc X4;have E:zw gu (zh (zc 0) zq) [some x,some (.int (n:Int))] A=.ok (.bl (Xz x)) A:=(zK (zA (zo rfl) zL)).trans (Fz h);cases x with
 |int v=>
  refine⟨decide (0<=v)&&decide (v<(n:Int)),qt (qf (qB ((ka E).trans (IW rfl (zo rfl))))),?_⟩;rw[ao,ag,ag]
  constructor
  ·rintro⟨H,c⟩
   obtain⟨u,rfl⟩:=aN H;exact⟨u,rfl,by omega⟩
  ·rintro⟨u,e,a⟩
   cases e;omega
 |_=>
  refine⟨false,qt (qf (qB (QK E))),λ z=>(by cases z),?_⟩
  rintro⟨u,e,_⟩
  cases e
theorem Z0 (h:zQ t)(A:Hx):wc [zp t] A=.ok (.int (z8 t)) A:=by
 refine yn (A1:=[]) (yJ t) rfl (qt ?_);unfold Vm;refine qf (qB ((zH (Sf h rfl) qv).trans ?_));show R.ok (W.int (z8 t - 1+1)) []=_
 congr 2
 omega
theorem len_tab (h:ρ[i]? =some (some (zp t))):mQ qK (qb (zc i)) ρ A=.ok (.int (t.length:Int)) A:=by
 have:=G2 (ws:=t.map zt) (A:=A) h
 rw[ah]at this;exact this
end
section
variable {N b:Nat}
theorem Sx {g:Nat->Int}{k:Int}(H:b<N):((List.range N).map λ j=>W.int (g j)).set b (.int k)=(List.range N).map λ j=>W.int (if j=b then k else g j):=by
 apply List.ext_getElem?
 intro i
 by_cases h:i<N
 ·by_cases q:b=i
  ·subst q
   rw[aF (by simpa using h),ak,aL h]
   simp
  ·rw[aK q,ak,ak,aL h]
   simp[Ne.symm q]
 ·rw[aC (by simp;omega),aC (by simp;omega)]
end
structure LC (K:Nat)(μ:Nat->Nat->Int)(C:Hx):Prop where
 top:C[2 * K]? =some (.lst ((List.range K).map λ i=>W.ref (2 * i+1)))
 row:∀i,i<K->C[2 * i+1]? =some (.lst ((List.range K).map λ j=>W.int (μ i j)))
section
variable {K a b j:Nat}{C:Hx}
theorem LC.put (h:LC K μ C)(f:i<K)(e:j<K)(k:Int):∃b,j7 (.ref (2 * i+1)) (.int (j:Int)) (.int k) C=.ok () b/\LC K (j9 μ i j k) b:=by
 have r:=h.row i f;have H:=kB r;refine⟨_,Se r (by simp;omega),?_,λ c d=>?_⟩
 ·rw[aK (by omega)];exact h.top
 ·by_cases q:c=i
  ·subst q
   rw[aF H,Sx e]
   congr 3
   funext a
   unfold j9
   by_cases z:a=j
   ·rw[af z,af ⟨rfl,z⟩]
   ·rw[aj z,aj (by rintro⟨_,w⟩;exact z w)]
  ·rw[aK (by omega),h.row c d]
   congr 3
   funext a
   unfold j9;rw[aj (by rintro⟨w,_⟩;exact q w)]
theorem LC.aug (h:LC K μ C){mo mi:Ev}(o:mo ρ C=.ok (.ref (2 * i+1)) C)(b:mi ρ C=.ok (.int (j:Int)) C)(a:i<K)(H:j<K):∃c,JT mo mi (zj (.int 1)) ρ C=.ok (.nx ρ) c/\LC K (j9 μ i j (μ i j+1)) c:=by
 obtain⟨c,e,l⟩:=h.put a H (μ i j+1);refine⟨c,?_,l⟩;unfold JT;rw[o,zM,b,zM];dsimp only;rw[af (by omega),h.row i a]
 dsimp only;rw[aw,ak,aL H];show R.bind (j7 (.ref (2 * i+1)) (.int (j:Int)) (.int (μ i j+1)) C) _=_;rw[e,zM]
theorem LC.ix (h:LC K μ C){mi:Ev}(hm:m ρ C=.ok (.ref (2 * K)) C)(H:mi ρ C=.ok (.int (i:Int)) C)(a:i<K):zl zG m mi ρ C=.ok (.ref (2 * i+1)) C:=
 (zH hm H).trans (y9 h.top (by rw[ak,aL a];rfl))
theorem rep1 (w:W):∀n:Nat,(List.replicate n [w]).flatten=(List.range n).map λ _=>w:=λ n=>by
 rw[List.map_const',aJ]
 induction n with
 |zero=>rfl|succ n i=>rw[a7,aS,i];rfl
theorem IP (n:K<=8){x0 x1 x2 x4:Option W}{l:List (Option W)}:∃C,qh (zV 1 [3] (ja (zc 3)) (zR 0) (zj (.bl true)) (zP (zl qd (qP (zh (zj (.int 0)) zq)) (zc 1)))) (x0::x1::x2::some (.int (K:Int))::x4::l) []=.ok (.ref (2 * K)) C/\LC K (λ _ _=>0) C:=by
 have hm:=wV (m:=zc 3) (ρ:=x0::x1::x2::some (.int (K:Int))::x4::l) (A:=[]) (k:=(K:Int)) rfl (wd (by omega))
 rw[aw]at hm;obtain⟨g,acc,B,e,_,H,h⟩:=ZP (nl:=1) (cap:=[3]) (tw:=zR 0) (ifs:=zj (.bl true)) (em:=zP (zl qd (qP (zh (zj (.int 0)) zq)) (zc 1))) (N:=K)
  (I:=λ i ρ acc B=>(∃y,ρ=[y,some (.int (K:Int))])/\(B.length=2 * i/\∀c,c<i->B[2 * c+1]? =some (.lst ((List.range K).map λ j=>W.int 0)))/\acc=(List.range i).map λ c=>W.ref (2 * c+1)) hm rfl
  (λ i ρ acc B b ⟨⟨y,a⟩,⟨d,H⟩,h⟩=>by
   subst a h;refine⟨_,_,wB b,rfl,.inl ⟨B,_,_,B++[.lst [.int 0]]++[.lst ((List.range K).map λ j=>W.int 0)],rfl,ZU (y:=.ref (2 * i+1)) ?_ (by rw[ah,aJ];unfold zX;omega),⟨_,rfl⟩,⟨by simp;omega,λ c f=>?_⟩,by rw[a8,aR];rfl⟩⟩
   ·refine(zH (kR (zA qv zL)) (zo (i:=1) (w:=.int (K:Int)) rfl)).trans ?_
    unfold qd;dsimp only;rw[j0];dsimp only;rw[af (by rw[wd (by omega),aw];simp;unfold zX;omega),aw,aE,d,rep1]
    rfl
   ·by_cases q:c=i
    ·subst q
     rw[ax (by simp;omega)]
     simp[d]
    ·rw[ai (by simp;omega),ai (by omega)]
     exact H c (by omega))
  (λ ρ acc B _=>wg (by omega)) ⟨⟨none,rfl⟩,⟨rfl,λ c f=>absurd f (not_lt_zero _)⟩,rfl⟩
 subst h;refine⟨B++[.lst ((List.range K).map λ c=>W.ref (2 * c+1))],?_,?_,λ i b=>?_⟩
 ·rw[kO e,H.1]
 ·rw[<- H.1];exact j0
 ·exact yP (H.2 i b)
theorem LC.tup (h:LC K μ C)(d:K<=8){i:Nat}(b:ρ[i]? =some (some (.ref (2 * K)))):mQ jR (zV 1 [] (qF (zc i)) (zR 0) (zj (.bl true)) (zP (mQ jR (qb (zc 0))))) ρ C=.ok (zp (jd K μ)) C:=by
 have e:=YI (cap:=[]) (ws:=(List.range K).map λ i=>W.ref (2 * i+1)) (me:=mQ jR (qb (zc 0))) (zo b) h.top (by simp;unfold zX;omega) (g:=λ w=>match w with | .ref n=>(match C[n]? with|some (.lst ws)=>.tup ws|_=>.non) | _=>.non) (λ w hw=>by
  obtain⟨c,a,rfl⟩:=qa6.mp hw;have H:=h.row c (qa5.mp a);dsimp only;rw[H];exact wX (yG (w:=.ref (2 * c+1)) (A1:=C) (zo rfl) (by unfold qa;dsimp only;rw[H])))
 rw[wX e]
 congr 1
 unfold zp jd;rw[aP,aP]
 congr 1
 refine a3 λ c a=>?_;have H:=h.row c (qa5.mp a);show(match C[2 * c+1]? with|some (.lst ws)=>W.tup ws|_=>.non)=zt ((List.range K).map (μ c))
 rw[H];unfold zt;rw[aP]
 rfl
def shr (t:List (List Int))(a b:Nat):Nat->Nat->Nat->Int
 |0=>λ _ _=>0|n+1=>j9 (shr t a b n) (at2 t a n).toNat (at2 t b n).toNat (shr t a b n (at2 t a n).toNat (at2 t b n).toNat+1)
def z9 (t:List (List Int))(K a b:Nat):List (List Int):=jd K (shr t a b t.length)
theorem gE (h:zQ t)(d:z8 t=(K:Int))(c:a<t.length)(H:b<t.length):((at2 t a b).toNat:Int)=at2 t a b/\(at2 t a b).toNat<K:=by
 have f:=Zp h c H;have e:=Y9 h c H;omega
theorem Zc (h:zQ t)(g:z8 t=(K:Int))(d:a<t.length)(c:b<t.length)(A:Hx):yw [zp t,.int (a:Int),.int (b:Int)] A=.ok (zp (z9 t K a b)) A:=by
 have n8:=h.n8;have w:=yo h;have f:((t.getD a []).map W.int).length=t.length:=by rw[ah,h.sq _ (jE d)]
 have s:((t.getD b []).map W.int).length=t.length:=by rw[ah,h.sq _ (jE c)]
 obtain⟨C,u,p⟩:=IP (K:=K) (by omega) (x0:=some (zp t)) (x1:=some (.int (a:Int))) (x2:=some (.int (b:Int))) (x4:=none) (l:=[none,none])
 obtain⟨i,B,E,L,Y,y,H⟩:=wR (j:=kY (.tup ((t.getD a []).map W.int)) (.tup ((t.getD b []).map W.int)) ((t.getD a []).map W.int).length) (st:=turn (qD 5 6) (zr (JT (zl zG (zc 4) (zc 5)) (zc 6) (zj (.int 1))) zx)) (N:=t.length)
  (I:=λ n ρ B=>LC K (shr t a b n) B/\∃Y y,ρ=[some (zp t),some (.int (a:Int)),some (.int (b:Int)),some (.int (K:Int)),some (.ref (2 * K)),Y,y])
  (λ n ρ B hn ⟨l,Y,y,H⟩=>by
   subst H;obtain⟨o,q⟩:=gE h g d hn;obtain⟨m,Q⟩:=gE h g c hn;obtain⟨v,e,r⟩:=l.aug (ρ:=[some (zp t),some (.int (a:Int)),some (.int (b:Int)),some (.int (K:Int)),some (.ref (2 * K)),some (.int (at2 t a n)),some (.int (at2 t b n))]) (mo:=zl zG (zc 4) (zc 5)) (mi:=zc 6) (l.ix (zo rfl) (zo (by rw[o];rfl)) q) (zo (by rw[m];rfl)) q Q
   refine⟨.tup [.int (at2 t a n),.int (at2 t b n)],_,v,?_,(yN rfl).trans ((zF e).trans qS),r,_,_,rfl⟩;show some (zip2 ((t.getD a []).map W.int)[n]? ((t.getD b []).map W.int)[n]?)=_;rw[int_at (by rw[h.sq _ (jE d)];exact hn),int_at (by rw[h.sq _ (jE c)];exact hn)]
   rfl)
  (λ ρ B _=>by
   show some (zip2 ((t.getD a []).map W.int)[t.length]? ((t.getD b []).map W.int)[t.length]?)=_;rw[aC (by omega),aC (by omega)]
   rfl) t.length 0 [some (zp t),some (.int (a:Int)),some (.int (b:Int)),some (.int (K:Int)),some (.ref (2 * K)),none,none] C (by omega) ⟨p,_,_,rfl⟩
 subst H;refine yn (A1:=B) (yJ t) (yz _) (qt ?_);unfold Vg;refine(zF (ρ1:=[some (zp t),some (.int (a:Int)),some (.int (b:Int)),some (.int (K:Int)),none,none,none]) (A1:=[]) ((qC ((zK (zA (zo rfl) zL)).trans ((Z0 h []).trans (by rw[g])))).trans rfl)).trans ?_
 refine(zF (ρ1:=[some (zp t),some (.int (a:Int)),some (.int (b:Int)),some (.int (K:Int)),some (.ref (2 * K)),none,none]) (A1:=C) ((qC u).trans rfl)).trans ?_;refine(zF (ρ1:=[some (zp t),some (.int (a:Int)),some (.int (b:Int)),some (.int (K:Int)),some (.ref (2 * K)),Y,y]) (A1:=B) ((yA (YG ((zH (zo rfl) (zo rfl)).trans (gG d)) ((zH (zo rfl) (zo rfl)).trans (gG c)))).trans ?_)).trans (qf (qB (L.tup (by omega) rfl)))
 have:(kY (.tup ((t.getD a []).map W.int)) (.tup ((t.getD b []).map W.int)) ((t.getD a []).map W.int).length).len=t.length:=f
 rw[this];exact E
variable {w:W}
theorem TM {a:En}{w:W}(h:m ρ A=.ok w A1)(h':tw w ρ=some a):Zw m tw ρ A=.ok (.nx a) A1:=by
 unfold Zw;rw[h,zM,h']
end
def k9 (t:List (List Int))(a b:Nat):List (Int×Int):=(List.range t.length).map λ c=>(at2 t a c,at2 t b c)
def jP (t:List (List Int)):Prop:=∀a b c e,a<t.length->b<t.length->c<t.length->e<t.length->at2 t a b=at2 t c e->(k9 t a b).Perm (k9 t c e)
def Ba (t:List (List Int))(k:Int):Nat:=((List.range (t.length * t.length)).find? λ m=>decide (at2 t (m / t.length) (m % t.length)=k)).getD 0
def Gp (t:List (List Int)):Bool:=(List.range t.length).all λ a=>(List.range t.length).all λ b=>let m:=Ba t (at2 t a b);(k9 t a b).isPerm (k9 t (m / t.length) (m % t.length))
theorem NI (h:Gp t=true):jP t:=λ a b c e l j i he g=>by
 unfold Gp at h;rw[bp]at h;have f:=h a (qa5.mpr l);rw[bp]at f;have m:=List.isPerm_iff.mp (f b (qa5.mpr j));have d:=h c (qa5.mpr i);rw[bp]at d;have H:=List.isPerm_iff.mp (d e (qa5.mpr he));rw[<- g]at H;exact m.trans H.symm
theorem NS:((List.range 34).all λ i=>Gp (jO (yC i)))=true:=by decide +kernel
theorem Fv {p:List Nat}(b:p.Nodup){u v:Nat}(H:u<=p.length)(h:v<=p.length)(e:(qV p).getD u 0=(qV p).getD v 0):u=v:=by
 by_cases h1:u=0
 ·by_cases a:v=0
  ·omega
  ·exfalso
   subst h1;rw[QH (v:=v) (by omega) h]at e
   have:(qV p).getD 0 0=0:=rfl
   omega
 ·by_cases a:v=0
  ·exfalso
   subst a;rw[QH (v:=u) (by omega) H]at e
   have:(qV p).getD 0 0=0:=rfl
   omega
  ·rw[QH (by omega) H,QH (by omega) h]at e
   have E:p[u - 1]'(by omega)=p[v - 1]'(by omega):=by omega
   have:=(getElem_inj b).mp E
   omega
section
variable {p o:List Nat}
theorem YE (H:o.Perm (List.range t.length)){a b:Nat}(d:a<t.length)(c:b<t.length):at2 (kf t p o) a b=(qV p).getD (at2 t (o.getD a 0) (o.getD b 0)).toNat 0:=by
 have h:o.length=t.length:=by rw[H.length_eq,aJ]
 unfold at2 kf;rw[aa (l:=List.map _ o),ak,ab (by omega)]
 show(List.map _ o).getD b 0=_;rw[aa,ak,ab (by omega)]
 show(qV p).getD (at2 t _ _).toNat 0=_;unfold at2;rw[aa (l:=o) (i:=a),ab (by omega),aa (l:=o) (i:=b),ab (by omega)]
 rfl
theorem Ng (h:zQ t)(l:p.Perm (List.range (z8 t - 1).toNat))(g:o.Perm (List.range t.length))(s:jP t):jP (kf t p o):=by
 have hlen:=(UJ h l g).2;have m:o.length=t.length:=by rw[g.length_eq,aJ]
 have w:p.length=(z8 t - 1).toNat:=by rw[l.length_eq,aJ]
 have y:=yo h;have n:p.Nodup:=(l.nodup_iff).mpr nodup_range;have H:∀i,i<t.length->o.getD i 0<t.length:=λ i z=>by
  rw[aa,ab (by omega)]
  exact qa5.mp (g.mem_iff.mp (aT _))
 have u:∀a b,a<t.length->b<t.length->(at2 t a b).toNat<=p.length/\((at2 t a b).toNat:Int)=at2 t a b:=λ a b f d=>by
  have:=Zp h f d
  have:=Y9 h f d
  omega
 have r:∀a b,a<t.length->b<t.length->(k9 (kf t p o) a b).Perm ((k9 t (o.getD a 0) (o.getD b 0)).map λ q=>((qV p).getD q.1.toNat 0,(qV p).getD q.2.toNat 0)):=λ a b f d=>by
  unfold k9;rw[hlen,aP];have x:(List.range t.length).map (λ c=>(at2 (kf t p o) a c,at2 (kf t p o) b c))=(List.range t.length).map λ c=>((qV p).getD (at2 t (o.getD a 0) (o.getD c 0)).toNat 0,(qV p).getD (at2 t (o.getD b 0) (o.getD c 0)).toNat 0):=a3 λ c j=>by
   rw[YE g f (qa5.mp j),YE g d (qa5.mp j)]
  rw[x];have E:=Qo o 0 λ c=>((qV p).getD (at2 t (o.getD a 0) c).toNat 0,(qV p).getD (at2 t (o.getD b 0) c).toNat 0);rw[m]at E;rw[<- E];exact g.map _
 intro a b c e f d j he q;rw[hlen]at f d j he;rw[YE g f d,YE g j he]at q;have v:=u _ _ (H a f) (H b d);have K:=u _ _ (H c j) (H e he);have Q:=Fv n v.1 K.1 q
 have:=s _ _ _ _ (H a f) (H b d) (H c j) (H e he) (by omega)
 exact(r a b f d).trans ((this.map _).trans (r c e j he).symm)
theorem OS (h:Known t):jP t:=by
 obtain⟨i,p,o,H,a,b,rfl⟩:=h;have s:=qa4.mp NS i (qa5.mpr H);exact Ng (T8 H).1 a b (NI s)
variable {a b c e K:Nat}
theorem Ju (h:zQ t)(d:a<t.length)(H:b<t.length):∀n,n<=t.length->∀i j:Nat,shr t a b n i j=((((List.range n).map λ c=>(at2 t a c,at2 t b c)).count ((i:Int),(j:Int)):Nat):Int)
 |0,_,i,j=>rfl|n+1,hn,i,j=>by
  have I:=Ju h d H n (by omega)
  have f:=(Zp h d (show n<t.length by omega)).1
  have K:=(Zp h H (show n<t.length by omega)).1
  rw[a8,aR,List.count_append,List.map_singleton,List.count_singleton];show j9 (shr t a b n) (at2 t a n).toNat (at2 t b n).toNat (shr t a b n (at2 t a n).toNat (at2 t b n).toNat+1) i j=_;unfold j9
  by_cases q:i=(at2 t a n).toNat/\j=(at2 t b n).toNat
  ·rw[af q,<- q.1,<- q.2,I,af (by rw[aU];ext<;>simp<;>omega)]
   omega
  ·rw[aj q,I,aj (by
    rw[aU];intro z;injection z with e Z
    exact q ⟨by omega,by omega⟩)]
   omega
theorem U9 (h:zQ t)(s:jP t)(f:a<t.length)(d:b<t.length)(H:c<t.length)(he:e<t.length)(q:at2 t a b=at2 t c e):z9 t K a b=z9 t K c e:=by
 unfold z9 jd;refine a3 λ i _=>a3 λ j _=>?_;rw[Ju h f d _ (ar _),Ju h H he _ (ar _)]
 have:=(s a b c e f d H he q).count_eq ((i:Int),(j:Int))
 unfold k9 at this;rw[this]
end
noncomputable def gg (r:List Int):PyData:=.tuple (r.map .int)
def JZ (t:List (List Int)):PyData:=.tuple (t.map gg)
theorem W7 {f:W->Option PyData}{g:α->W}{h:α->PyData}(e:∀a,f (g a)=some (h a)):∀l:List α,j6 f (l.map g)=some (l.map h)
 |[]=>rfl|a::l=>by
  rw[aO,j6,e a,W7 e l]
  rfl
theorem JF (A:Hx)(n:Nat)(r:List Int):qe A (n+1) (zt r)=some (gg r):=by
 show(j6 (qe A n) (r.map W.int)).map PyData.tuple=_;rw[W7 (h:=PyData.int) (λ i=>by cases n<;>rfl)]
 rfl
theorem JJ (A:Hx)(n:Nat)(t:List (List Int)):qe A (n+2) (zp t)=some (JZ t):=by
 show(j6 (qe A (n+1)) (t.map zt)).map PyData.tuple=_;rw[W7 (h:=gg) (JF A n)]
 rfl
section
variable {B:Hx}{a b c e k K:Nat}{w:W}{kvs:List (Key×W)}
theorem Iq (t:List (List Int)):PyData.eqv (JZ t) (JZ t)=true:=SeqAt.eqv_refl _ (YB 8 _ _ (JJ [] 6 t)).1
theorem neT (t:List (List Int))(A:Hx):qw (zp t) (zp t) A=.ok (.bl false) A:=D4 (JJ A 6 t) (JJ A 6 t) (Iq t)
theorem Tp (H:zQ t)(s:jP t)(K:Nat):∃S:Nat->List (List Int),∀a b,a<t.length->b<t.length->z9 t K a b=S (at2 t a b).toNat:=by
 classical
 refine⟨λ k=>if h:∃q:Nat×Nat,q.1<t.length/\q.2<t.length/\(at2 t q.1 q.2).toNat=k then z9 t K h.choose.1 h.choose.2 else [],λ a b d c=>?_⟩;have x:∃q:Nat×Nat,q.1<t.length/\q.2<t.length/\(at2 t q.1 q.2).toNat=(at2 t a b).toNat:=⟨(a,b),d,c,rfl⟩;dsimp only;rw[dif_pos x];obtain⟨f,e,g⟩:=x.choose_spec;have i:=Zp H d c;have B:=Zp H f e;exact U9 H s d c f e (by omega)
theorem Tw {k:Key}:∀{kvs l:List (Key×W)},jB k (kvs++l)=match jB k kvs with|some w=>some w|none=>jB k l
 |[],l=>rfl|(j,w)::r,l=>by
  show(if j=k then some w else jB k (r++l))=match (if j=k then some w else jB k r) with|some w=>some w|none=>jB k l
  by_cases h:j=k
  ·rw[af h,af h]
  ·rw[aj h,aj h];exact Tw
theorem Tt {k:Key}{w:W}:∀{kvs:List (Key×W)},jB k kvs=some w->(k,w)∈kvs
 |[],h=>by cases h|(j,u)::r,h=>by
  have h:(if j=k then some u else jB k r)=some w:=h
  by_cases q:j=k
  ·rw[af q]at h;cases h;subst q;exact aG ..
  ·rw[aj q]at h;exact aD _ (Tt h)
structure FP (t:List (List Int))(done:Nat->Nat->Prop)(m:Nat)(kvs:List (Key×W)):Prop where
 all:∀p∈kvs,∃a b:Nat,a<t.length/\b<t.length/\p=(.inl (at2 t a b),.tup [.int (a:Int),.int (b:Int)])
 seen:∀a b,a<t.length->b<t.length->done a b->∃w,jB (.inl (at2 t a b)) kvs=some w
 len:kvs.length<=m
theorem FP.step {d d':Nat->Nat->Prop}{m:Nat}{x3:Option W}(h:FP t d m kvs)(i:a<t.length)(g:b<t.length)(hd:∀x y,d' x y->d x y∨(x=a/\y=b))(hm:m<100):
  ∃w K,QQ gB (zc 1) (zc 5) (jb (zh (zc 2) (zh (zc 4) zq))) [some (zp t),some (.ref 0),some (.int (a:Int)),x3,some (.int (b:Int)),some (.int (at2 t a b))] [.dct kvs]=.ok w [.dct K]/\FP t d' (m+1) K:=by
 have l:=h.len;have e0:QQ gB (zc 1) (zc 5) (jb (zh (zc 2) (zh (zc 4) zq))) [some (zp t),some (.ref 0),some (.int (a:Int)),x3,some (.int (b:Int)),some (.int (at2 t a b))] [.dct kvs]=gB (.ref 0) (.int (at2 t a b)) (.tup [.int (a:Int),.int (b:Int)]) [.dct kvs]:=rfl;rw[e0];unfold gB;show ∃w K,(if kvs.length<zX then(match jB (.inl (at2 t a b)) kvs with|some w=>R.ok w [.dct kvs] | none=>.ok (.tup [.int (a:Int),.int (b:Int)]) [O.dct (kvs++[((Sum.inl (at2 t a b):Key),W.tup [.int (a:Int),.int (b:Int)])])]) else .bad)=.ok w [.dct K]/\FP t d' (m+1) K
 rw[af (by unfold zX;omega)]
 cases v:jB (.inl (at2 t a b)) kvs with
 |some w=>
  refine⟨w,kvs,rfl,h.all,λ x y f e H=>?_,by omega⟩
  rcases hd x y H with z|⟨rfl,rfl⟩
  ·exact h.seen x y f e z
  ·exact⟨w,v⟩
 |none=>
  refine⟨_,_,rfl,λ p c=>?_,λ x y f e H=>?_,by rw[aE,bh];omega⟩
  ·rcases List.mem_append.mp c with c|c
   ·exact h.all p c
   ·rw[qa7.mp c];exact⟨a,b,i,g,rfl⟩
  ·rw[Tw]
   rcases hd x y H with z|⟨rfl,rfl⟩
   ·obtain⟨w,hw⟩:=h.seen x y f e z
    rw[hw];exact⟨w,rfl⟩
   ·rw[v];exact⟨.tup [.int (x:Int),.int (y:Int)],by show(if _ then _ else _)=_;rw[af rfl]⟩
theorem Gs {f:Fn}{us:List W}{k:Nat}(hn:qR us=true)(h:f us []=.ok (.ref k) A1)(H:A1[k]? =some (.dct kvs))(hw:qR (kvs.map (·.2))=true):iso f us A=.ok (.ref A.length) (A++[.dct kvs]):=by
 unfold iso;rw[af hn,h];dsimp only;rw[H];dsimp only;rw[af hw]
theorem Gn (C:zQ t):∃kvs,Wt [zp t] []=.ok (.ref 0) [.dct kvs]/\FP t (λ _ _=>True) 64 kvs:=by
 have n8:=C.n8;have f:(t.map zt).length=t.length:=ah ..;obtain⟨o,B,e,kvs,g,hf,u,s,d,Y,H⟩:=wR (j:=jS (zp t) t.length) (st:=turn (qD 2 3) (zr (jG (jW (zc 3)) (qD 4 5) (zr (qX (QQ gB (zc 1) (zc 5) (jb (zh (zc 2) (zh (zc 4) zq))))) zx)) zx)) (N:=t.length)
  (I:=λ a ρ B=>∃kvs,B=[.dct kvs]/\FP t (λ x _=>x<a) (a * 8) kvs/\∃u s d Y,ρ=[some (zp t),some (.ref 0),u,s,d,Y])
  (λ a ρ B z ⟨kvs,g,hf,u,s,d,Y,H⟩=>by
   subst g H;have v:=C.sq _ (jE z);have n:((t.getD a []).map W.int).length=t.length:=by rw[ah,v]
   obtain⟨o,B,e,K,g,c,r,q,H⟩:=wR (j:=jS (.tup ((t.getD a []).map W.int)) ((t.getD a []).map W.int).length) (st:=turn (qD 4 5) (zr (qX (QQ gB (zc 1) (zc 5) (jb (zh (zc 2) (zh (zc 4) zq))))) zx)) (N:=t.length)
    (I:=λ b ρ B=>∃kvs,B=[.dct kvs]/\FP t (λ x y=>x<a∨(x=a/\y<b)) (a * 8+b) kvs/\∃d Y,ρ=[some (zp t),some (.ref 0),some (.int (a:Int)),some (zt (t.getD a [])),d,Y])
    (λ b ρ B E ⟨kvs,g,hf,d,Y,H⟩=>by
     subst g H;obtain⟨w,K,e,c⟩:=hf.step (a:=a) (b:=b) (d':=λ x y=>x<a∨(x=a/\y<b+1)) (x3:=some (zt (t.getD a []))) z E (λ x y h=>by omega) (by omega)
     exact⟨_,_,[.dct K],gI (int_at (by omega)),(yN rfl).trans ((zF (jq e)).trans qS),K,rfl,c,_,_,rfl⟩)
    (λ ρ B _=>by have:=gC (A:=B) (ws:=(t.getD a []).map W.int);rw[n]at this ⊢;exact this) t.length 0 [some (zp t),some (.ref 0),some (.int (a:Int)),some (zt (t.getD a [])),d,Y] [.dct kvs] (by omega)
    ⟨kvs,rfl,⟨hf.all,λ x y i l h=>hf.seen x y i l (by omega),by have:=hf.len;omega⟩,_,_,rfl⟩
   subst g H;refine⟨.tup [.int (a:Int),zt (t.getD a [])],[some (zp t),some (.ref 0),some (.int (a:Int)),some (zt (t.getD a [])),r,q],[.dct K],?_,(yN (ρ1:=[some (zp t),some (.ref 0),some (.int (a:Int)),some (zt (t.getD a [])),d,Y]) rfl).trans ((zF ((yA (gw (zo rfl))).trans ?_)).trans qS),K,rfl,⟨c.all,λ x y i l h=>c.seen x y i l (by omega),by have:=c.len;omega⟩,_,_,_,_,rfl⟩
   ·have:=gI (A:=[O.dct kvs]) (QM z)
    rw[f]at this;exact this
   ·have:(jS (.tup ((t.getD a []).map W.int)) ((t.getD a []).map W.int).length).len=t.length:=n
    rw[this];exact e)
  (λ ρ B _=>by have:=gC (A:=B) (ws:=t.map zt);rw[f]at this;exact this) t.length 0 [some (zp t),some (.ref 0),none,none,none,none] [.dct []] (by omega)
  ⟨[],rfl,⟨λ p D=>(by cases D),λ x y _ _ h=>absurd h (not_lt_zero _),zero_le _⟩,_,_,_,_,rfl⟩
 subst g H;refine⟨kvs,qt ?_,hf.all,λ x y i l _=>hf.seen x y i l i,by have:=hf.len;omega⟩
 unfold VE;refine(zF (ρ1:=[some (zp t),some (.ref 0),none,none,none,none]) (A1:=[.dct []]) ((qC (w:=.ref 0) (A1:=[.dct []]) rfl).trans rfl)).trans ?_;have hm:jW (zc 0) [some (zp t),some (.ref 0),none,none,none,none] [.dct []]=.ok (jS (zp t) t.length) [.dct []]:=by
  have:=gw (m:=zc 0) (ρ:=[some (zp t),some (.ref 0),none,none,none,none]) (A:=[.dct []]) (A1:=[.dct []]) (ws:=t.map zt) (zo rfl)
  rw[f]at this;exact this
 exact(zF ((yA hm).trans e)).trans (qf (qB (zo rfl)))
theorem FP.nr {d:Nat->Nat->Prop}{m:Nat}(h:FP t d m kvs):qR (kvs.map (·.2))=true:=by
 have:∀l:List (Key×W),(∀p∈l,p.2.nr=true)->qR (l.map (·.2))=true:=by
  intro l
  induction l with
  |nil=>intro _;rfl|cons p l i=>
   intro H;show(p.2.nr&&qR (l.map (·.2)))=true;rw[H p (aG ..),i λ q c=>H q (aD _ c)]
   rfl
 refine this kvs λ p H=>?_;obtain⟨a,b,_,_,rfl⟩:=h.all p H
 rfl
theorem FP.get {m:Nat}(h:FP t (λ _ _=>True) m kvs)(d:zQ t)(n:z8 t=(K:Int))(l:k<K):∃a b:Nat,a<t.length/\b<t.length/\at2 t a b=(k:Int)/\jB (.inl (k:Int)) kvs=some (.tup [.int (a:Int),.int (b:Int)]):=by
 obtain⟨a,b,g,f,e⟩:=Zn d (v:=k) (by omega)
 obtain⟨w,hw⟩:=h.seen a b g f trivial;rw[e]at hw;obtain⟨A,B,c,H,j⟩:=h.all _ (Tt hw);injection j with E i
 injection E with E
 exact⟨A,B,c,H,E.symm,by rw[hw,i]⟩
theorem W0 (n:zQ t)(s:jP t)(A:Hx):wM [zp t] A=.ok .non A:=by
 have n8:=n.n8;have X:=yo n;have o:(t.map zt).length=t.length:=ah ..;obtain⟨K,Q⟩:=aN (show 0<=z8 t by omega)
 obtain⟨kvs,T,hf⟩:=Gn n;obtain⟨r,B,e,H,E,D,C,v,f,d,Y,y,h⟩:=wR (j:=Qg kvs) (st:=turn (QS 1 2 3) (zr (zY 4 (zw yw (zh (zc 0) (zh (zc 2) (zh (zc 3) zq))))) (zr (jG (jW (zc 0)) (qD 5 6) (zr (jG (jW (zc 6)) (qD 7 8) (zr (ql (jz (zl qM (zc 8) (zc 1)) (zl qw (zw yw (zh (zc 0) (zh (zc 5) (zh (zc 7) zq)))) (zc 4))) (zr (zT (jb (zh (zc 2) (zh (zc 3) (zh (zc 5) (zh (zc 7) zq)))))) zx) zx) zx)) zx)) zx))) (N:=kvs.length)
  (I:=λ _ ρ B=>B=[]/\∃E D C v f d Y y,ρ=[some (zp t),E,D,C,v,f,d,Y,y])
  (λ i ρ B L ⟨H,E,D,C,v,f,d,Y,y,h⟩=>by
   subst H h;obtain⟨a,b,P,M,S⟩:=hf.all kvs[i] (aT L);obtain⟨r,B,e,H,z,x,l,g,h⟩:=wR (j:=jS (zp t) t.length) (st:=turn (qD 5 6) (zr (jG (jW (zc 6)) (qD 7 8) (zr (ql (jz (zl qM (zc 8) (zc 1)) (zl qw (zw yw (zh (zc 0) (zh (zc 5) (zh (zc 7) zq)))) (zc 4))) (zr (zT (jb (zh (zc 2) (zh (zc 3) (zh (zc 5) (zh (zc 7) zq)))))) zx) zx) zx)) zx)) (N:=t.length)
    (I:=λ _ ρ B=>B=[]/\∃f d Y y,ρ=[some (zp t),some (.int (at2 t a b)),some (.int (a:Int)),some (.int (b:Int)),some (zp (z9 t K a b)),f,d,Y,y])
    (λ c ρ B w ⟨H,f,d,Y,y,h⟩=>by
     subst H h;have J:=n.sq _ (jE w);have u:((t.getD c []).map W.int).length=t.length:=by rw[ah,J]
     obtain⟨r,B,e,H,l,g,h⟩:=wR (j:=jS (.tup ((t.getD c []).map W.int)) ((t.getD c []).map W.int).length) (st:=turn (qD 7 8) (zr (ql (jz (zl qM (zc 8) (zc 1)) (zl qw (zw yw (zh (zc 0) (zh (zc 5) (zh (zc 7) zq)))) (zc 4))) (zr (zT (jb (zh (zc 2) (zh (zc 3) (zh (zc 5) (zh (zc 7) zq)))))) zx) zx) zx)) (N:=t.length)
      (I:=λ _ ρ B=>B=[]/\∃Y y,ρ=[some (zp t),some (.int (at2 t a b)),some (.int (a:Int)),some (.int (b:Int)),some (zp (z9 t K a b)),some (.int (c:Int)),some (zt (t.getD c [])),Y,y])
      (λ e ρ B he ⟨H,Y,y,h⟩=>by
       subst H h;have eq:=(zH (ρ:=[some (zp t),some (.int (at2 t a b)),some (.int (a:Int)),some (.int (b:Int)),some (zp (z9 t K a b)),some (.int (c:Int)),some (zt (t.getD c [])),some (.int (e:Int)),some (.int (at2 t c e))]) (A:=[]) (zo (i:=8) rfl) (zo (i:=1) rfl)).trans (gn (at2 t c e) (at2 t a b) []);have test:jz (zl qM (zc 8) (zc 1)) (zl qw (zw yw (zh (zc 0) (zh (zc 5) (zh (zc 7) zq)))) (zc 4)) [some (zp t),some (.int (at2 t a b)),some (.int (a:Int)),some (.int (b:Int)),some (zp (z9 t K a b)),some (.int (c:Int)),some (zt (t.getD c [])),some (.int (e:Int)),some (.int (at2 t c e))] []=.ok (.bl false) []:=by
        by_cases q:at2 t c e=at2 t a b
        ·rw[aq q]at eq
         refine(ka eq).trans ((zH ((zK (zA (zo rfl) (zA (zo rfl) (zA (zo rfl) zL)))).trans (Zc n Q w he [])) (zo rfl)).trans ?_);rw[U9 (K:=K) n s w he P M q];exact neT _ _
        ·rw[aA q]at eq
         exact QK eq
       exact⟨_,_,[],gI (int_at (by omega)),(yN rfl).trans ((zF ((jj test).trans qS)).trans qS),rfl,_,_,rfl⟩)
      (λ ρ B _=>by have:=gC (A:=B) (ws:=(t.getD c []).map W.int);rw[u]at this ⊢;exact this) t.length 0 [some (zp t),some (.int (at2 t a b)),some (.int (a:Int)),some (.int (b:Int)),some (zp (z9 t K a b)),some (.int (c:Int)),some (zt (t.getD c [])),Y,y] [] (by omega) ⟨rfl,_,_,rfl⟩
     subst H h;refine⟨.tup [.int (c:Int),zt (t.getD c [])],[some (zp t),some (.int (at2 t a b)),some (.int (a:Int)),some (.int (b:Int)),some (zp (z9 t K a b)),some (.int (c:Int)),some (zt (t.getD c [])),l,g],[],?_,(yN (ρ1:=[some (zp t),some (.int (at2 t a b)),some (.int (a:Int)),some (.int (b:Int)),some (zp (z9 t K a b)),some (.int (c:Int)),some (zt (t.getD c [])),Y,y]) rfl).trans ((zF ((yA (gw (zo rfl))).trans ?_)).trans qS),rfl,_,_,_,_,rfl⟩
     ·have:=gI (A:=[]) (QM w)
      rw[o]at this;exact this
     ·have:(jS (.tup ((t.getD c []).map W.int)) ((t.getD c []).map W.int).length).len=t.length:=u
      rw[this];exact e)
    (λ ρ B _=>by have:=gC (A:=B) (ws:=t.map zt);rw[o]at this;exact this) t.length 0 [some (zp t),some (.int (at2 t a b)),some (.int (a:Int)),some (.int (b:Int)),some (zp (z9 t K a b)),f,d,Y,y] [] (by omega) ⟨rfl,_,_,_,_,rfl⟩
   subst H h;have hm:jW (zc 0) [some (zp t),some (.int (at2 t a b)),some (.int (a:Int)),some (.int (b:Int)),some (zp (z9 t K a b)),f,d,Y,y] []=.ok (jS (zp t) t.length) []:=by
    have:=gw (m:=zc 0) (ρ:=[some (zp t),some (.int (at2 t a b)),some (.int (a:Int)),some (.int (b:Int)),some (zp (z9 t K a b)),f,d,Y,y]) (A:=[]) (A1:=[]) (ws:=t.map zt) (zo rfl)
    rw[o]at this;exact this
   refine⟨.tup [.int (at2 t a b),.tup [.int (a:Int),.int (b:Int)]],[some (zp t),some (.int (at2 t a b)),some (.int (a:Int)),some (.int (b:Int)),some (zp (z9 t K a b)),z,x,l,g],[],?_,(yN (ρ1:=[some (zp t),some (.int (at2 t a b)),some (.int (a:Int)),some (.int (b:Int)),v,f,d,Y,y]) rfl).trans ?_,rfl,_,_,_,_,_,_,_,_,rfl⟩
   ·show some (kvs[i]?.map λ p=>W.tup [kW p.1,p.2])=_
    rw[ab L,S]
    rfl
   ·exact(zF (ρ1:=[some (zp t),some (.int (at2 t a b)),some (.int (a:Int)),some (.int (b:Int)),some (zp (z9 t K a b)),f,d,Y,y]) (A1:=[]) ((qC ((zK (zA (zo rfl) (zA (zo rfl) (zA (zo rfl) zL)))).trans (Zc n Q P M []))).trans rfl)).trans ((zF ((yA hm).trans e)).trans qS))
  (λ ρ B _=>by
   show some (kvs[kvs.length]?.map λ p=>W.tup [kW p.1,p.2])=_;rw[aC (ar _)]
   rfl) kvs.length 0 [some (zp t),none,none,none,none,none,none,none,none] [] (by omega) ⟨rfl,_,_,_,_,_,_,_,_,rfl⟩
 subst H h;refine yn (A1:=[]) (yJ t) rfl (qt ?_);unfold Ye;have hit:Z2 (zw g9 (zh (zc 0) zq)) [some (zp t),none,none,none,none,none,none,none,none] []=.ok (Qg kvs) []:=by
  unfold Z2;dsimp only;have U:zw g9 (zh (zc 0) zq) [some (zp t),none,none,none,none,none,none,none,none] []=.ok (.ref 0) [.dct kvs]:=(zK (zA (zo rfl) zL)).trans (Gs (yJ t) T rfl hf.nr);rw[U,zM];exact af hf.nr
 exact(zF ((yA hit).trans e)).trans (qf (qB qv))
theorem WW {S:Nat->List (List Int)}(H:zQ t)(e:z8 t=(K:Int))(l:∀a b,a<t.length->b<t.length->z9 t K a b=S (at2 t a b).toNat)(A:Hx):Qq [zp t] A=.ok (.ref A.length) (A++[.lst ((List.range K).map λ k=>zp (S k))]):=by
 have n8:=H.n8;have B:=yo H;obtain⟨kvs,r,hf⟩:=Gn H;have ch:∀k:Nat,∃q:Nat×Nat,k<K->q.1<t.length/\q.2<t.length/\at2 t q.1 q.2=(k:Int)/\jB (.inl (k:Int)) kvs=some (.tup [.int (q.1:Int),.int (q.2:Int)]):=λ k=>by
  by_cases j:k<K
  ·obtain⟨a,b,d,c,f,o⟩:=hf.get H e j
   exact⟨(a,b),λ _=>⟨d,c,f,o⟩⟩
  ·exact⟨(0,0),λ z=>absurd z j⟩
 obtain⟨fp,p⟩:=Classical.axiomOfChoice ch;have y:zw g9 (zh (zc 0) zq) [some (zp t),none,none] []=.ok (.ref 0) [.dct kvs]:=(zK (zA (zo rfl) zL)).trans (Gs (yJ t) r rfl hf.nr);have hm:=wV (m:=zw wc (zh (zc 0) zq)) (ρ:=[some (zp t),some (.ref 0),none]) (A:=[.dct kvs]) (A1:=[.dct kvs]) (k:=(K:Int)) ((zK (zA (zo rfl) zL)).trans ((Z0 H _).trans (by rw[e]))) (wd (by omega))
 rw[aw]at hm;have x:=wQ (cap:=[1]) (me:=zl Ki (zc 1) (zc 0)) (ρ:=[some (zp t),some (.ref 0),none]) (A:=[.dct kvs]) (N:=K) (item:=λ i=>.int (0+(i:Int))) (g:=λ k=>.tup [.int ((fp k).1:Int),.int ((fp k).2:Int)]) hm rfl (by unfold zX;omega) (λ i h=>wB h) (wg (by omega)) (λ i h=>by
  refine(zH (zo (i:=1) (w:=.ref 0) rfl) (zo (i:=0) (w:=.int (0+(i:Int))) rfl)).trans ?_;rw[bA];show(match jB (.inl (i:Int)) kvs with|some w=>R.ok w [.dct kvs] | none=>.bad)=_
  rw[(p i h).2.2.2])
 have E:=kO x;have s:=V8 (A:=[.dct kvs]++[.lst ((List.range K).map λ k=>.tup [.int ((fp k).1:Int),.int ((fp k).2:Int)])]) (cap:=[0]) (ρ:=[some (zp t),some (.ref 0),some (.ref 1)]) (me:=zw yw (zh (zc 2) (zh (zc 0) (zh (zc 1) zq)))) (mi:=qF (zc 2)) (N:=K) (u:=λ k=>.int ((fp k).1:Int)) (v:=λ k=>.int ((fp k).2:Int)) (g:=λ k=>zp (S k)) (JH (n:=1) (zo rfl) rfl) (by show((List.range K).map _).length=K;rw[ah,aJ]) (by omega)
  (λ i h=>S8 (n:=1) rfl (by rw[ak,aL h];rfl))
  (Rt (n:=1) rfl (by rw[ah,aJ];exact ar _))
  (λ i h=>by
   obtain⟨d,c,f,_⟩:=p i h;refine(zK (ws:=[zp t,.int ((fp i).1:Int),.int ((fp i).2:Int)]) (zA (zo rfl) (zA (zo rfl) (zA (zo rfl) zL)))).trans ((Zc H e d c _).trans ?_);rw[l _ _ d c,f,aw])
 refine YZ (k:=2) (A1:=[.dct kvs]++[.lst ((List.range K).map λ k=>.tup [.int ((fp k).1:Int),.int ((fp k).2:Int)])]++[.lst ((List.range K).map λ k=>zp (S k))]) (yJ t) (qt ?_) rfl (ZV (λ _=>yz _) _);unfold Vw;refine(zF (ρ1:=[some (zp t),some (.ref 0),none]) (A1:=[.dct kvs]) ((qC y).trans rfl)).trans ?_;refine(zF (ρ1:=[some (zp t),some (.ref 0),some (.ref 1)]) (A1:=[.dct kvs]++[.lst ((List.range K).map λ k=>.tup [.int ((fp k).1:Int),.int ((fp k).2:Int)])]) ((qC E).trans rfl)).trans ?_;exact qf (qB (kO s))
theorem JQ (h:zQ t)(s:jP t)(A:Hx):g0 [zp t] A=.ok .non A:=by
 unfold g0 Wa;refine JG (ρ:=[some (zp t)]) ?_;unfold X0;exact(zF (jq ((zK (zA (zo rfl) zL)).trans (Zb h A)))).trans ((zF ((jj ((zH ((zK (zA (zo rfl) zL)).trans (W0 h s A)) qv).trans rfl)).trans qS)).trans qS)
end
section
variable {r:List Int}
theorem Li (h:r.length<=8)(A:Hx):ZO [zt r,.int (r.length:Int)] A=.ok (.bl true) A:=YO h A
theorem J0 (h:zQ t)(H:z8 t=(r.length:Int))(A:Hx):Qr [zp t,zt r] A=.ok .non A:=by
 have K:=yo h;unfold Qr Wu;refine JG (ρ:=[some (zp t),some (zt r)]) ?_;unfold Vn;exact(zF ((jj (wq (k:=true) ((zK (zA (zo rfl) (zA ((zK (zA (zo rfl) zL)).trans (Z0 h A)) zL))).trans (by rw[H];exact Li (by omega) A)))).trans qS)).trans qS
variable {K:Nat}{B C:Hx}{w:W}
def Sm (r:List Int):Prop:=∀v∈r,-1000000000000000<v/\v<1000000000000000
theorem D3 (s:qp 0 [o])(z:K<=8):∃r B,Yx [.ref 0,.int K] [o]=.ok (zt r) B/\qp 0 B/\r.length=K/\Sm r:=by
 unfold Yx;unfold Ub;obtain⟨j,w,l,E,x,hw,s1⟩:=ZQ (k:=4) (ρ:=[some (.ref 0),some (.int (K:Int)),none]) (a:=zh (zj (.int 3)) (zh (zj (.int 7)) (zh (zj (.int 2000)) (zh (zl QY (zj (.int 10)) (zj (.int 12))) zq)))) (vs:=[.int 3,.int 7,.int 2000,.int 1000000000000]) s rfl (λ _=>by kernel_rfl) rfl (by decide) (by decide)
 obtain⟨f,f1,f2,rfl⟩:∃f:Int,0<f/\f<1000000000000000/\w=.int f:=by
  have:j=0∨j=1∨j=2∨j=3:=by omega
  rcases this with rfl|rfl|rfl|rfl<;>cases hw
  ·exact⟨_,by decide,by decide,rfl⟩
  ·exact⟨_,by decide,by decide,rfl⟩
  ·exact⟨_,by decide,by decide,rfl⟩
  ·exact⟨_,by decide,by decide,rfl⟩
 have hm:=wV (m:=zc 1) (ρ:=[some (.ref 0),some (.int (K:Int)),some (.int f)]) (A:=l::([]++[.lst [.int 3,.int 7,.int 2000,.int 1000000000000]])) (k:=(K:Int)) rfl (wd (by omega))
 rw[aw]at hm;obtain⟨g,acc,B,e,⟨y,H⟩,⟨r,d,c,b⟩,sB⟩:=ZP (nl:=1) (cap:=[0,2]) (tw:=zR 0) (ifs:=zj (.bl true)) (em:=zP (zl jt (zw jM (zh (zc 1) (zh (zc 2) zq))) (zl kT (zc 2) (zj (.int 2))))) (N:=K)
  (I:=λ i ρ acc C=>(∃y,ρ=[y,some (.ref 0),some (.int f)])/\(∃r:List Int,acc=r.map W.int/\r.length=i/\Sm r)/\qp 0 C) hm rfl
  (λ i ρ acc C p ⟨⟨y,H⟩,⟨r,d,c,b⟩,S⟩=>by
   subst H d;obtain⟨q,t,e,u,n,_⟩:=GC S f1 f2;refine⟨_,_,wB p,rfl,.inl ⟨C,_,_,t,rfl,ZU (y:=.int ((q:Int) - f / 2)) ?_ (by rw[ah];unfold zX;omega),⟨_,rfl⟩,⟨r++[(q:Int) - f / 2],by rw[aR];rfl,by rw[aE,c];rfl,λ v h=>by
    rcases List.mem_append.mp h with h|h
    ·exact b v h
    ·rw[qa7.mp h];omega⟩,n.st⟩⟩
   exact(zH ((zK (zA (zo rfl) (zA (zo rfl) zL))).trans e) ((zH (zo rfl) qv).trans (GG (by decide) (by decide)))).trans rfl)
  (λ ρ acc C _=>wg (by omega)) ⟨⟨none,rfl⟩,⟨[],rfl,rfl,λ v h=>(by cases h)⟩,s1⟩
 subst d;exact⟨r,B,qt ((zF ((qC E).trans rfl)).trans (qf (qB (wX e)))),sB,c,b⟩
theorem D6 (s:qp n A)(l:K<=8):∃r B,Jp [.ref n,.int K] A=.ok (zt r) B/\r.length=K/\Sm r/\Kn n A B:=by
 obtain⟨c,b,a,i,j⟩:=s;have hm:=kB a;obtain⟨r,A1,e,⟨C,d,E,h,H⟩,g,f⟩:=D3 (o:=.lst [.int c,.bl b]) (K:=K) ⟨c,b,rfl,i,j⟩ l;refine⟨r,A.set n (.lst [.int C,.bl d]),?_,g,f,⟨Kp.set,C,d,aF hm,h,H⟩⟩;unfold Jp;exact JB a rfl e E (kC r)
end
theorem Sz:∀(l:List Int)(s:Int),yf l s=s+l.sum
 |[],s=>by simp[yf]|v::l,s=>by
  show yf l (s+v)=_;rw[Sz l,List.sum_cons];omega
theorem Gi (l:List Int):kX (l.map W.int) A=.ok (.int l.sum) A:=by
 unfold kX;rw[Jk];dsimp only;rw[Sz,bA]
noncomputable def sm (n:Nat)(f:Nat->Int):Int:=((List.range n).map f).sum
theorem yZ (n:Nat)(f:Nat->Int):sm (n+1) f=sm n f+f n:=by
 unfold sm;rw[a8,aR,List.sum_append];simp
theorem jh {f g:Nat->Int}(h:∀i,i<n->f i=g i):sm n f=sm n g:=by
 unfold sm
 congr 1
 exact a3 λ i H=>h i (qa5.mp H)
theorem QI (n:Nat):sm n (λ _=>0)=0:=by
 induction n with
 |zero=>rfl|succ n i=>rw[yZ,i];rfl
theorem Y8 (n:Nat)(f g:Nat->Int):sm n (λ i=>f i+g i)=sm n f+sm n g:=by
 induction n with
 |zero=>rfl|succ n I=>rw[yZ,yZ,yZ,I];omega
theorem JP {a:Nat}(b:a<n)(v:Int):sm n (λ i=>if i=a then v else 0)=v:=by
 induction n with
 |zero=>omega|succ n I=>
  rw[yZ]
  by_cases h:a=n
  ·subst h
   have:sm a (λ i=>if i=a then v else 0)=sm a λ _=>0:=jh λ i H=>aj (by omega)
   rw[this,QI,af rfl];omega
  ·rw[I (by omega),aj (by omega)]
   omega
def ds (K:Nat)(f:Nat->Nat->Int):Int:=sm K λ i=>sm K (f i)
theorem YK {K:Nat}{f g:Nat->Nat->Int}(h:∀i j,i<K->j<K->f i j=g i j):ds K f=ds K g:=jh λ i a=>jh λ j H=>h i j a H
theorem HC (K:Nat)(f:Nat->Nat->Int):((List.range K).flatMap λ i=>(List.range K).map (f i)).sum=ds K f:=by
 have:∀m,((List.range m).flatMap λ i=>(List.range K).map (f i)).sum=sm m λ i=>sm K (f i):=by
  intro m
  induction m with
  |zero=>rfl|succ m I=>
   rw[a8,List.flatMap_append,List.sum_append,I,yZ];simp[sm]
 exact this K
theorem EZ {K a b:Nat}(c:a<K)(H:b<K)(f g:Nat->Int)(μ:Nat->Nat->Int):ds K (λ i j=>f i * g j * j9 μ a b (μ a b+1) i j)=ds K (λ i j=>f i * g j * μ i j)+f a * g b:=by
 have e:∀i j,f i * g j * j9 μ a b (μ a b+1) i j=f i * g j * μ i j+(if i=a then(if j=b then f a * g b else 0) else 0):=λ i j=>by
  unfold j9
  by_cases h:i=a
  ·by_cases h':j=b
   ·subst h h'
    rw[af ⟨rfl,rfl⟩,af rfl,af rfl,mul_add,Int.mul_one]
   ·rw[aj (λ z=>h' z.2),af h,aj h',Int.add_zero]
  ·rw[aj (λ z=>h z.1),aj h,Int.add_zero]
 rw[YK λ i j _ _=>e i j];unfold ds
 have:∀i,sm K (λ j=>f i * g j * μ i j+(if i=a then(if j=b then f a * g b else 0) else 0))=sm K (λ j=>f i * g j * μ i j)+(if i=a then f a * g b else 0):=λ i=>by
  rw[Y8]
  by_cases h:i=a
  ·rw[af h]
   congr 1
   exact(jh λ j _=>af h).trans (JP H (f a * g b))
  ·rw[aj h]
   congr 1
   exact(jh λ j _=>aj h).trans (QI K)
 rw[jh λ i _=>this i,Y8,JP c]
section
variable {x y:List Int}{a b c k K:Nat}{S:Nat->List (List Int)}
noncomputable def mv (x:List Int)(v:Int):Int:=x.getD v.toNat 0
def dt (t:List (List Int))(x y:List Int)(a b:Nat):Int:=sm t.length λ c=>mv x (at2 t a c) * mv y (at2 t b c)
theorem Rh (h:zQ t)(H:z8 t=(K:Int))(e:a<t.length)(d:b<t.length):∀n,n<=t.length->ds K (λ i j=>x.getD i 0 * y.getD j 0 * shr t a b n i j)=sm n λ c=>mv x (at2 t a c) * mv y (at2 t b c)
 |0,_=>by
  have:ds K (λ i j=>x.getD i 0 * y.getD j 0 * shr t a b 0 i j)=ds K λ _ _=>0:=YK λ i j _ _=>Int.mul_zero _
  rw[this];unfold ds;rw[jh λ i _=>QI K,QI]
  rfl
 |n+1,hn=>by
  rw[yZ,<- Rh h H e d n (by omega)]
  exact EZ (gE h H e (show n<t.length by omega)).2 (gE h H d (show n<t.length by omega)).2 (λ i=>x.getD i 0) (λ j=>y.getD j 0) (shr t a b n)
def pv (K:Nat)(S:Nat->List (List Int))(x y:List Int):List Int:=(List.range K).map λ k=>ds K λ i j=>x.getD i 0 * y.getD j 0 * at2 (S k) i j
theorem yO:(pv K S x y).length=K:=by unfold pv;rw[ah,aJ]
theorem DY (h:k<K):(pv K S x y).getD k 0=ds K λ i j=>x.getD i 0 * y.getD j 0 * at2 (S k) i j:=by
 unfold pv;rw[aa,ak,aL h]
 rfl
theorem w8 (c:zQ t)(d:z8 t=(K:Int))(g:∀a b,a<t.length->b<t.length->z9 t K a b=S (at2 t a b).toNat)(H:a<t.length)(h:b<t.length):mv (pv K S x y) (at2 t a b)=dt t x y a b:=by
 unfold mv;rw[DY (gE c d H h).2,<- g a b H h];unfold dt;rw[<- Rh c d H h t.length (ar _)];exact YK λ i j f e=>by unfold z9;rw[wk f e]
noncomputable def e0 (K:Nat):List Int:=1::List.replicate (K - 1) 0
theorem DV (v:Int)(h:0<=v):mv (e0 K) v=if v=0 then 1 else 0:=by
 unfold mv e0;obtain⟨k,rfl⟩:=aN h;rw[aw];cases k with
 |zero=>rfl|succ k=>
  rw[aj (by omega),aa,List.getElem?_cons_succ,bo]
  split<;>rfl
theorem Ce (h:zQ t)(d:a<t.length)(H:b<t.length)(i j:Nat):0<=shr t a b t.length i j/\shr t a b t.length i j<=8:=by
 rw[Ju h d H _ (ar _)]
 have:=List.count_le_length (a:=((i:Int),(j:Int))) (l:=(List.range t.length).map λ c=>(at2 t a c,at2 t b c))
 rw[ah,aJ]at this
 have:=h.n8
 omega
variable {N:List (List Int)}{e j r:Nat}{B C:Hx}{w:W}
theorem Es {i j:Int}(H:-1000000000000000<j)(h:j<1000000000000000):qd (.int i) (.int j) A=.ok (.int (i * j)) A:=by
 unfold qd;dsimp only;rw[af];unfold ZA;rw[bt]
 right
 rw[ao,ag,ag];omega
theorem GJ {i j:Int}(H:-1000000000000000000<i)(h:i<1000000000000000000):qd (.int i) (.int j) A=.ok (.int (i * j)) A:=by
 unfold qd;dsimp only;rw[af];unfold ZA;rw[bt]
 left
 rw[ao,ag,ag];omega
theorem Ee {i j:Int}(H:-1000000000000000000<j)(h:j<1000000000000000000):qd (.int i) (.int j) A=.ok (.int (i * j)) A:=by
 unfold qd;dsimp only;rw[af];unfold ZA;rw[bt]
 right
 rw[ao,ag,ag];omega
def Gd (x y:List Int):Prop:=∀(i j:Nat)(A:Hx),qd (.int (x.getD i 0)) (.int (y.getD j 0)) A=.ok (.int (x.getD i 0 * y.getD j 0)) A
def Sn (r:List Int):Prop:=∀v∈r,-1000000000000000000<v/\v<1000000000000000000
theorem Sm.sn (h:Sm x):Sn x:=λ v H=>by have:=h v H;omega
theorem YT (h:Sn x)(i:Nat):-1000000000000000000<x.getD i 0/\x.getD i 0<1000000000000000000:=by
 by_cases H:i<x.length
 ·rw[aa,ab H]
  exact h _ (aT H)
 ·rw[aa,aC (by omega)]
  exact⟨by decide,by decide⟩
theorem Xi (h:Sn y):Gd x y:=λ _ j _=>Ee (YT h j).1 (YT h j).2
theorem Qe (h:Sn x):Gd x y:=λ i _ _=>GJ (YT h i).1 (YT h i).2
theorem Ew (h:A[n]? =some (.lst [w]))(H:k<=100):qd (.ref n) (.int (k:Int)) A=.ok (.ref A.length) (A++[.lst ((List.range k).map λ _=>w)]):=by
 unfold qd;dsimp only;rw[h];dsimp only;rw[af (by rw[wd (by omega),aw];simp;unfold zX;omega),aw,rep1]
theorem GU {us vs:List W}{u v:W}(H:us[i]? =some u)(h:vs[i]? =some v):(kY (.tup us) (.tup vs) us.length).at_ A i=some (some (.tup [u,v])):=by
 show some (zip2 us[i]? vs[i]?)=_;rw[H,h]
 rfl
theorem GB {us vs:List W}(h:us.length<=i):(kY (.tup us) (.tup vs) us.length).at_ A i=some none:=by
 show some (zip2 us[i]? vs[i]?)=_;rw[aC h]
 rfl
theorem IQ (h:i<K):((jd K μ).map zt)[i]? =some (zt ((List.range K).map (μ i))):=by
 unfold jd;rw[ak,ak,aL h]
 rfl
theorem FU (p:x.length=K)(o:y.length=K)(sy:Gd x y)(v:K<=8)(g:∀i j,0<=μ i j/\μ i j<=8)(A:Hx):Yi [zp (jd K μ),zt x,zt y] A=.ok (.int (ds K λ i j=>x.getD i 0 * y.getD j 0 * μ i j)) A:=by
 refine yn (A1:=[]) (by show((zp (jd K μ)).nr&&((zt x).nr&&((zt y).nr&&true)))=true;rw[yz,kC,kC];rfl) rfl (qt ?_)
 unfold Vq;have hm:wC (zc 1) (zc 0) [some (zp (jd K μ)),some (zt x),some (zt y)] []=.ok (kY (.tup (x.map W.int)) (.tup ((jd K μ).map zt)) (x.map W.int).length) []:=YG (zo rfl) (zo rfl);obtain⟨c,acc,B,e,_,b,h⟩:=ZP (nl:=4) (cap:=[2]) (tw:=qD 0 1) (ifs:=zj (.bl true)) (em:=gH (wC (zc 4) (zc 1)) (qD 2 3) (zj (.bl true)) (zP (zl qd (zl qd (zc 0) (zc 2)) (zc 3)))) (N:=K)
  (I:=λ i ρ acc B=>(∃n m a Y,ρ=[n,m,a,Y,some (zt y)])/\B=[]/\acc=(((List.range i).flatMap λ i=>(List.range K).map λ j=>x.getD i 0 * y.getD j 0 * μ i j)).map W.int) hm (by show(x.map W.int).length=K;rw[ah,p])
  (λ i ρ acc B u ⟨⟨n,m,a,Y,H⟩,b,h⟩=>by
   subst H b h;refine⟨_,[some (.int (x.getD i 0)),some (zt ((List.range K).map (μ i))),a,Y,some (zt y)],GU (int_at (by omega)) (IQ u),rfl,.inl ?_⟩
   obtain⟨c,acc,B,e,⟨f,d,H⟩,b,h⟩:=U5 (j:=kY (.tup (y.map W.int)) (.tup (((List.range K).map (μ i)).map W.int)) (y.map W.int).length) (tw:=qD 2 3) (ifs:=zj (.bl true)) (em:=zP (zl qd (zl qd (zc 0) (zc 2)) (zc 3))) (N:=K)
    (I:=λ j ρ acc B=>(∃a Y,ρ=[some (.int (x.getD i 0)),some (zt ((List.range K).map (μ i))),a,Y,some (zt y)])/\B=[]/\acc=(((List.range i).flatMap λ i=>(List.range K).map λ j=>x.getD i 0 * y.getD j 0 * μ i j)++(List.range j).map λ j=>x.getD i 0 * y.getD j 0 * μ i j).map W.int)
    (λ j ρ acc B t ⟨⟨a,Y,H⟩,b,h⟩=>by
     subst H b h;have r:=g i j;refine⟨_,[some (.int (x.getD i 0)),some (zt ((List.range K).map (μ i))),some (.int (y.getD j 0)),some (.int (μ i j)),some (zt y)],GU (int_at (by omega)) (by rw[ak,ak,aL t];rfl),rfl,.inl ⟨[],_,_,[],rfl,ZU (y:=.int (x.getD i 0 * y.getD j 0 * μ i j)) ?_ ?_,⟨_,_,rfl⟩,rfl,?_⟩⟩
     ·exact(zH ((zH (zo rfl) (zo rfl)).trans (sy i j _)) (zo rfl)).trans (Es (by omega) (by omega))
     ·rw[ah,aE,ah,aJ,List.length_flatMap]
      have:((List.range i).map λ i=>((List.range K).map λ j=>x.getD i 0 * y.getD j 0 * μ i j).length).sum=i * K:=by
       have:((List.range i).map λ i=>((List.range K).map λ j=>x.getD i 0 * y.getD j 0 * μ i j).length)=List.replicate i K:=by
        refine List.eq_replicate_iff.mpr ⟨by simp,λ z l=>?_⟩
        obtain⟨q,_,rfl⟩:=qa6.mp l;simp
       rw[this,List.sum_replicate_nat]
      rw[this]
      have:i * K<=7 * 8:=Nat.mul_le_mul (by omega) (by omega)
      unfold zX;omega
     ·rw[a8,aR,aR,aR,aR,aW]
      rfl)
    (λ ρ acc B _=>GB (by rw[ah];omega)) K 0 [some (.int (x.getD i 0)),some (zt ((List.range K).map (μ i))),a,Y,some (zt y)] ((((List.range i).flatMap λ i=>(List.range K).map λ j=>x.getD i 0 * y.getD j 0 * μ i j)).map W.int) [] (by omega) ⟨⟨_,_,rfl⟩,rfl,by simp⟩
   subst H b h;refine⟨[],[some (.int (x.getD i 0)),some (zt ((List.range K).map (μ i))),f,d,some (zt y)],(((List.range i).flatMap λ i=>(List.range K).map λ j=>x.getD i 0 * y.getD j 0 * μ i j)++(List.range K).map λ j=>x.getD i 0 * y.getD j 0 * μ i j).map W.int,[],rfl,?_,⟨_,_,_,_,rfl⟩,rfl,?_⟩
   ·unfold gH
    have l:wC (zc 4) (zc 1) [some (.int (x.getD i 0)),some (zt ((List.range K).map (μ i))),a,Y,some (zt y)] []=.ok (kY (.tup (y.map W.int)) (.tup (((List.range K).map (μ i)).map W.int)) (y.map W.int).length) []:=YG (zo rfl) (zo rfl);rw[l,zM];have s:(kY (.tup (y.map W.int)) (.tup (((List.range K).map (μ i)).map W.int)) (y.map W.int).length).len=K:=by show(y.map W.int).length=K;rw[ah,o]
    rw[s];exact e
   ·rw[a8,List.flatMap_append]
    simp)
  (λ ρ acc B _=>GB (by rw[ah];omega)) ⟨⟨_,_,_,_,rfl⟩,rfl,rfl⟩
 subst b h;refine qf (qB ((j4 e).trans ?_));rw[Gi,HC]
theorem Sk (h:zQ t)(g:z8 t=(K:Int))(d:∀a b,a<t.length->b<t.length->z9 t K a b=S (at2 t a b).toNat)(f:k<K):∃μ,S k=jd K μ/\∀i j,0<=μ i j/\μ i j<=8:=by
 obtain⟨a,b,c,H,e⟩:=Zn h (v:=k) (by omega)
 exact⟨shr t a b t.length,by have:=d a b c H;rw[e,aw]at this;rw[<- this];rfl,λ i j=>Ce h c H i j⟩
theorem RG (d:zQ t)(p:z8 t=(K:Int))(o:∀a b,a<t.length->b<t.length->z9 t K a b=S (at2 t a b).toNat)(l:x.length=K)(f:y.length=K)(sy:Gd x y)(c:A[r]? =some (.lst ((List.range K).map λ k=>zp (S k)))):Qt [.ref r,zt x,zt y] A=.ok (zt (pv K S x y)) A:=by
 have q:=yo d;unfold Qt WQ;refine qt ?_;unfold Up;have e:=wQ (cap:=[1,2]) (mi:=qF (zc 0)) (me:=zw Yi (zh (zc 0) (zh (zc 1) (zh (zc 2) zq)))) (ρ:=[some (.ref r),some (zt x),some (zt y)]) (A:=A) (N:=K) (item:=λ k=>zp (S k)) (g:=λ k=>.int (ds K λ i j=>x.getD i 0 * y.getD j 0 * at2 (S k) i j)) (JH (zo rfl) c) (by show((List.range K).map _).length=K;rw[ah,aJ]) (by unfold zX;omega)
  (λ i H=>S8 c (by rw[ak,aL H];rfl)) (Rt c (by rw[ah,aJ];exact ar _))
  (λ k m=>by
   obtain⟨μ,E,h⟩:=Sk d p o m;refine(zK (ws:=[zp (S k),zt x,zt y]) (A1:=A) rfl).trans ?_;rw[E,FU l f sy (by omega) h A]
   congr 2
   exact YK λ i j H n=>by rw[wk H n])
 refine qf (qB ((wX e).trans ?_));unfold pv zt;rw[aP]
 rfl
theorem E6 (h:zQ t)(s:jP t)(H:z8 t=(K:Int))(e:∀a b,a<t.length->b<t.length->z9 t K a b=S (at2 t a b).toNat)(d:x.length=K)(c:y.length=K)(sy:Gd x y)(A:Hx):Yz [zp t,zt x,zt y] A=.ok (zt (pv K S x y)) A:=by
 refine yn (A1:=[.lst ((List.range K).map λ k=>zp (S k))]) (by show((zp t).nr&&((zt x).nr&&((zt y).nr&&true)))=true;rw[yz,kC,kC];rfl) (kC _) (qt ?_)
 unfold UI;refine(zF (jq ((zK (zA (zo rfl) zL)).trans (JQ h s [])))).trans ?_;refine(zF (jq ((zK (zA (zo rfl) (zA (zo rfl) zL))).trans (J0 h (by rw[H,d]) [])))).trans ?_
 refine(zF (jq ((zK (zA (zo rfl) (zA (zo rfl) zL))).trans (J0 h (by rw[H,c]) [])))).trans (qf (qB ?_))
 exact(zK (ws:=[.ref 0,zt x,zt y]) (A1:=[.lst ((List.range K).map λ k=>zp (S k))]) (zA ((zK (zA (zo rfl) zL)).trans (WW h H e [])) (zA (zo rfl) (zA (zo rfl) zL)))).trans (RG h H e d c sy rfl)
noncomputable def av (x y:List Int):List Int:=(List.range x.length).map λ i=>x.getD i 0+y.getD i 0
theorem F6 {q p:Nat}(l:y.length=x.length)(b:x.length<=8)(H:ρ[q]? =some (some (zt x)))(a:ρ[p]? =some (some (zt y))):mQ jR (zV 2 [] (wC (zc q) (zc p)) (qD 0 1) (zj (.bl true)) (zP (zl qE (zc 0) (zc 1)))) ρ A=.ok (zt (av x y)) A:=by
 have e:=V8 (A:=A) (cap:=[]) (ρ:=ρ) (me:=zl qE (zc 0) (zc 1)) (N:=x.length) (u:=λ i=>.int (x.getD i 0)) (v:=λ i=>.int (y.getD i 0)) (g:=λ i=>.int (x.getD i 0+y.getD i 0)) (YG (zo H) (zo a)) (by show(x.map W.int).length=_;rw[ah]) (by omega)
  (λ i h=>GU (int_at h) (int_at (by omega))) (GB (by rw[ah];exact ar _)) (λ i h=>(zH (zo rfl) (zo rfl)).trans rfl)
 refine(wX e).trans ?_;unfold av zt;rw[aP]
 rfl
theorem HX (h:zQ t)(s:jP t)(H:z8 t=(K:Int))(b:x.length=K)(a:y.length=K)(A:Hx):YS [zp t,zt x,zt y] A=.ok (zt (av x y)) A:=by
 have c:=yo h;refine yn (A1:=[]) (by show((zp t).nr&&((zt x).nr&&((zt y).nr&&true)))=true;rw[yz,kC,kC];rfl) (kC _) (qt ?_)
 unfold Si;refine(zF (jq ((zK (zA (zo rfl) zL)).trans (JQ h s [])))).trans ?_;refine(zF (jq ((zK (zA (zo rfl) (zA (zo rfl) zL))).trans (J0 h (by rw[H,b]) [])))).trans ?_
 exact(zF (jq ((zK (zA (zo rfl) (zA (zo rfl) zL))).trans (J0 h (by rw[H,a]) [])))).trans (qf (qB (F6 (by omega) (by omega) rfl rfl)))
def pw (K:Nat)(S:Nat->List (List Int))(x:List Int):Nat->List Int
 |0=>e0 K|m+1=>pv K S (pw K S x m) x
theorem pw_len (h:1<=K)(m:Nat):(pw K S x m).length=K:=by
 cases m with
 |zero=>unfold pw e0;rw[bc,bb];omega|succ m=>exact yO
theorem FI {m:Nat}(H:zQ t)(s:jP t)(f:z8 t=(K:Int))(l:∀a b,a<t.length->b<t.length->z9 t K a b=S (at2 t a b).toNat)(c:x.length=K)(p:Sm x)(hm:m<=8)(A:Hx):YU [zp t,zt x,.int (m:Int)] A=.ok (zt (pw K S x m)) A:=by
 have T:=yo H;obtain⟨B,z,J⟩:∃B:Hx,B[0]? =some (.lst ((List.range K).map λ k=>zp (S k)))/\mQ jR (qb (zl qE (qP (zh (zj (.int 1)) zq)) (zl qd (qP (zh (zj (.int 0)) zq)) (zl jt (mQ qK (qb (zc 1))) (zj (.int 1)))))) [some (zp t),some (zt x),some (.int (m:Int)),some (.ref 0),none,none] [.lst ((List.range K).map λ k=>zp (S k))]=.ok (zt (e0 K)) B:=by
  have D:zl jt (mQ qK (qb (zc 1))) (zj (.int 1)) [some (zp t),some (zt x),some (.int (m:Int)),some (.ref 0),none,none] [.lst ((List.range K).map λ k=>zp (S k)),.lst [.int 1],.lst [.int 0]]=.ok (.int ((K - 1:Nat):Int)) [.lst ((List.range K).map λ k=>zp (S k)),.lst [.int 1],.lst [.int 0]]:=by
   have Q:=G2 (ws:=x.map W.int) (ρ:=[some (zp t),some (zt x),some (.int (m:Int)),some (.ref 0),none,none]) (i:=1) (A:=[.lst ((List.range K).map λ k=>zp (S k)),.lst [.int 1],.lst [.int 0]]) rfl;refine(zH Q qv).trans ?_;rw[ah,c];show R.ok (W.int ((K:Int) - 1)) _=_
   congr 2
   omega
  have P:zl qd (qP (zh (zj (.int 0)) zq)) (zl jt (mQ qK (qb (zc 1))) (zj (.int 1))) [some (zp t),some (zt x),some (.int (m:Int)),some (.ref 0),none,none] [.lst ((List.range K).map λ k=>zp (S k)),.lst [.int 1]]=.ok (.ref 3) [.lst ((List.range K).map λ k=>zp (S k)),.lst [.int 1],.lst [.int 0],.lst ((List.range (K - 1)).map λ _=>.int 0)]:=by
   refine(zH (x:=.ref 2) (A1:=[.lst ((List.range K).map λ k=>zp (S k)),.lst [.int 1],.lst [.int 0]]) rfl D).trans ?_;exact Ew (n:=2) (w:=.int 0) rfl (by omega)
  have M:=(zH (x:=.ref 1) (A1:=[.lst ((List.range K).map λ k=>zp (S k)),.lst [.int 1]]) (ρ:=[some (zp t),some (zt x),some (.int (m:Int)),some (.ref 0),none,none]) (A:=[.lst ((List.range K).map λ k=>zp (S k))]) (ma:=qP (zh (zj (.int 1)) zq)) rfl P).trans (U6 (n:=1) (k:=3) (xs:=[.int 1]) (ys:=(List.range (K - 1)).map λ _=>.int 0) rfl rfl (by rw[ah,aJ];unfold zX;simp;omega))
  have L:=wX (yG (w:=.ref 4) (ws:=[.int 1]++(List.range (K - 1)).map λ _=>.int 0) M rfl);have v:zt (e0 K)=.tup ([.int 1]++(List.range (K - 1)).map λ _=>.int 0):=by
   unfold e0 zt;rw[aO,List.map_replicate,List.map_const',aJ]
   rfl
  rw[v];exact⟨_,rfl,L⟩
 have r:=wV (m:=zc 2) (ρ:=[some (zp t),some (zt x),some (.int (m:Int)),some (.ref 0),some (zt (e0 K)),none]) (A:=B) (A1:=B) (k:=(m:Int)) rfl (wd (by omega))
 rw[aw]at r;obtain⟨o,C,e,g,y,h⟩:=wR (j:=yV 0 m) (st:=turn (zR 5) (zr (zY 4 (zw Qt (zh (zc 3) (zh (zc 4) (zh (zc 1) zq))))) zx)) (N:=m)
  (I:=λ q ρ C=>C=B/\∃y,ρ=[some (zp t),some (zt x),some (.int (m:Int)),some (.ref 0),some (zt (pw K S x q)),y])
  (λ q ρ C u ⟨g,y,h⟩=>by
   subst g h;refine⟨_,_,C,wB u,(yN rfl).trans ((zF ((qC ((zK (zA (zo rfl) (zA (zo rfl) (zA (zo rfl) zL)))).trans (RG H f l (pw_len (by omega) q) c (Xi p.sn) z))).trans rfl)).trans qS),rfl,_,rfl⟩)
  (λ ρ C _=>wg (by omega)) m 0 [some (zp t),some (zt x),some (.int (m:Int)),some (.ref 0),some (zt (e0 K)),none] B (by omega) ⟨rfl,_,rfl⟩
 subst g h;obtain⟨U,E,d⟩:=W5 (x:=.int (m:Int)) (A:=[]) (ty:=.int) rfl 9;rw[d.mpr ⟨m,rfl,by omega⟩]at E
 refine yn (A1:=C) (by show((zp t).nr&&((zt x).nr&&true))=true;rw[yz,kC];rfl) (kC _) (qt ?_)
 unfold Su;refine(zF (jq ((zK (zA (zo rfl) zL)).trans (JQ H s [])))).trans ?_;refine(zF (jq ((zK (zA (zo rfl) (zA (zo rfl) zL))).trans (J0 H (by rw[f,c]) [])))).trans ?_
 refine(zF ((jj (wq (k:=true) ((zK (ws:=[.int (m:Int),.int 9]) (A1:=[]) rfl).trans E))).trans qS)).trans ?_;refine(zF (ρ1:=[some (zp t),some (zt x),some (.int (m:Int)),some (.ref 0),none,none]) (A1:=[.lst ((List.range K).map λ k=>zp (S k))]) ((qC ((zK (zA (zo rfl) zL)).trans (WW H f l []))).trans rfl)).trans ?_;refine(zF (ρ1:=[some (zp t),some (zt x),some (.int (m:Int)),some (.ref 0),some (zt (e0 K)),none]) (A1:=C) ((qC J).trans rfl)).trans ?_;exact(zF ((yA r).trans e)).trans (qf (qB (zo rfl)))
end
theorem Rp (n:Nat)(f:Nat->Int)(v:Int):sm n (λ i=>v * f i)=v * sm n f:=by
 induction n with
 |zero=>show(0:Int)=v * 0;rw[Int.mul_zero]|succ n I=>rw[yZ,yZ,I,mul_add]
theorem Ss (n:Nat)(f:Nat->Int)(v:Int):sm n (λ i=>f i * v)=sm n f * v:=by
 rw[mul_comm,<- Rp];exact jh λ i _=>mul_comm _ _
theorem Y5 (n m:Nat)(f:Nat->Nat->Int):sm n (λ i=>sm m (f i))=sm m λ j=>sm n λ i=>f i j:=by
 induction n with
 |zero=>show(0:Int)=_;exact(QI m).symm|succ n I=>
  rw[yZ,I,<- Y8];exact jh λ j _=>(yZ n λ i=>f i j).symm
section
variable {x y z u v:List Int}{a b c e k K:Nat}{S:Nat->List (List Int)}
theorem Y0 (d:zQ t)(l:z8 t=(K:Int))(c:u.length=K)(H:v.length=K)(h:∀a b,a<t.length->b<t.length->mv u (at2 t a b)=mv v (at2 t a b)):u=v:=by
 refine bf (by rw[c,H]) λ k j i=>?_
 obtain⟨a,b,g,f,e⟩:=Zn d (v:=k) (by omega)
 have q:=h a b g f;unfold mv at q;rw[e,aw,aa,ab j,aa,ab i]at q;exact q
theorem Fg (h:zQ t)(e:z8 t=(K:Int))(f:∀a b,a<t.length->b<t.length->z9 t K a b=S (at2 t a b).toNat):pv K S x y=pv K S y x:=by
 refine Y0 h e yO yO λ a b d H=>?_;rw[w8 h e f d H,h.sy a b d H,w8 h e f H d];exact jh λ c _=>mul_comm _ _
theorem IU (h:zQ t)(H:z8 t=(K:Int))(f:∀a b,a<t.length->b<t.length->z9 t K a b=S (at2 t a b).toNat):pv K S (pv K S x y) z=pv K S x (pv K S y z):=by
 refine Y0 h H yO yO λ a b i e=>?_;rw[w8 h H f i e,w8 h H f i e];unfold dt;have l:(sm t.length λ c=>mv (pv K S x y) (at2 t a c) * mv z (at2 t b c))=sm t.length λ c=>sm t.length λ d=>mv x (at2 t a d) * (mv y (at2 t c d) * mv z (at2 t b c)):=jh λ c g=>by
  rw[w8 h H f i g];unfold dt;rw[<- Ss];exact jh λ d _=>Int.mul_assoc _ _ _
 have j:(sm t.length λ d=>mv x (at2 t a d) * mv (pv K S y z) (at2 t b d))=sm t.length λ d=>sm t.length λ c=>mv x (at2 t a d) * (mv y (at2 t c d) * mv z (at2 t b c)):=jh λ d hd=>by
  rw[h.sy b d e hd,w8 h H f hd e];unfold dt;rw[<- Rp];exact jh λ c g=>by rw[h.sy d c hd g]
 rw[l,j];exact Y5 _ _ _
theorem RJ (H:x.length=K)(h:y.length=K)(w:Int)(hw:w.toNat<K):mv (av x y) w=mv x w+mv y w:=by
 unfold mv av;rw[aa,ak,aL (by omega)]
 rfl
theorem Rv:(av x y).length=x.length:=by unfold av;rw[ah,aJ]
theorem Eh (h:zQ t)(H:z8 t=(K:Int))(f:∀a b,a<t.length->b<t.length->z9 t K a b=S (at2 t a b).toNat)(i:y.length=K)(g:z.length=K):pv K S x (av y z)=av (pv K S x y) (pv K S x z):=by
 refine Y0 h H yO (by rw[Rv,yO]) λ a b e d=>?_
 rw[w8 h H f e d,RJ yO yO _ (gE h H e d).2,w8 h H f e d,w8 h H f e d];unfold dt;rw[<- Y8];exact jh λ c j=>by rw[RJ i g _ (gE h H d j).2,mul_add]
theorem RD (h:zQ t)(f:z8 t=(K:Int))(j:∀a b,a<t.length->b<t.length->z9 t K a b=S (at2 t a b).toNat)(i:y.length=K):pv K S (e0 K) y=y:=by
 refine Y0 h f yO i λ a b d g=>?_;rw[w8 h f j d g];unfold dt;have l:(sm t.length λ c=>mv (e0 K) (at2 t a c) * mv y (at2 t b c))=sm t.length λ c=>if c=a then mv y (at2 t a b) else 0:=jh λ c H=>by
  have h0:=(gE h f d H).1;rw[DV _ (by omega)]
  by_cases q:c=a
  ·subst q
   rw[af ((h.dg c c H H).mpr rfl),af rfl,Int.one_mul,h.sy b c g H]
  ·rw[aj (λ e=>q ((h.dg a c d H).mp e).symm),aj q,Int.zero_mul]
 rw[l,JP d]
end
section
variable {B:Hx}{a b e j k K:Nat}{w x:W}{S:Nat->List (List Int)}
theorem Gm (h:Ok t.length x)(A:Hx):Jd [zp t,x] A=.ok .non A:=by
 obtain⟨v,rfl,H⟩:=h;obtain⟨b,e,a⟩:=W5 (x:=.int (v:Int)) (A:=A) (ty:=.int) rfl t.length;rw[a.mpr ⟨v,rfl,H⟩]at e;unfold Jd We;refine JG (ρ:=[some (zp t),some (.int (v:Int))]) ?_;unfold X5;exact(zF ((jj (wq (k:=true) ((zK (zA (zo rfl) (zA (len_tab rfl) zL))).trans e))).trans qS)).trans qS
theorem Ka (a:zQ t)(d:z8 t=(K:Int))(h:Ok K x)(A:Hx):Je [zp t,x] A=.ok .non A:=by
 obtain⟨v,rfl,H⟩:=h;obtain⟨b,e,c⟩:=W5 (x:=.int (v:Int)) (A:=A) (ty:=.int) rfl K;rw[c.mpr ⟨v,rfl,H⟩,<- d]at e;unfold Je Wh;refine JG (ρ:=[some (zp t),some (.int (v:Int))]) ?_;unfold Vc;exact(zF ((jj (wq (k:=true) ((zK (zA (zo rfl) (zA ((zK (zA (zo rfl) zL)).trans (Z0 a A)) zL))).trans e))).trans qS)).trans qS
theorem S6 (h:zQ t)(A:Hx):Yl [zp t] A=.ok (.int (z8 t)) A:=by
 refine yn (A1:=[]) (by show((zp t).nr&&true)=true;rw[yz];rfl) rfl (qt ?_)
 unfold VR;exact(zF (jq ((zK (zA (zo rfl) zL)).trans (Zb h [])))).trans (qf (qB ((zK (zA (zo rfl) zL)).trans (Z0 h []))))
def Z9 (t:List (List Int))(a k:Nat):List Int:=((List.range t.length).filter λ b=>decide (at2 t a b=(k:Int))).map λ (b:Nat)=>(b:Int)
theorem EK (d:zQ t)(o:z8 t=(K:Int))(g:a<t.length)(n:k<K)(A:Hx):Jq [zp t,.int (a:Int),.int (k:Int)] A=.ok (.ref A.length) (A++[.lst ((Z9 t a k).map W.int)]):=by
 have n8:=d.n8;have f:=d.sq _ (jE g);have c:((t.getD a []).map W.int).length=t.length:=by rw[ah,f]
 obtain⟨m,acc,B,e,⟨Y,y,H⟩,j,h⟩:=ZP (nl:=2) (cap:=[2]) (mi:=jW (zl zG (zc 0) (zc 1))) (ρ:=[some (zp t),some (.int (a:Int)),some (.int (k:Int))]) (A:=[]) (tw:=qD 0 1) (ifs:=zl qM (zc 1) (zc 2)) (em:=zP (zc 0)) (N:=t.length)
  (I:=λ i ρ acc B=>(∃Y y,ρ=[Y,y,some (.int (k:Int))])/\B=[]/\acc=((List.range i).filter λ b=>decide (at2 t a b=(k:Int))).map λ (b:Nat)=>W.int (b:Int)) (gw (ws:=(t.getD a []).map W.int) ((zH (zo rfl) (zo rfl)).trans (gG g))) c
  (λ i ρ acc B p ⟨⟨Y,y,H⟩,j,h⟩=>by
   subst H j h;have E:zl qM (zc 1) (zc 2) [some (.int (i:Int)),some (.int ((t.getD a []).getD i 0)),some (.int (k:Int))] []=.ok (.bl (decide (at2 t a i=(k:Int)))) []:=(zH (zo rfl) (zo rfl)).trans (gn _ _ _);refine⟨_,_,gI (int_at (by omega)),rfl,?_⟩
   by_cases q:at2 t a i=(k:Int)
   ·refine .inl ⟨[],_,_,[],E.trans (by rw[aq q]),ZU (zo rfl) ?_,⟨_,_,rfl⟩,rfl,?_⟩
    ·rw[ah]
     have:=List.length_filter_le (λ b=>decide (at2 t a b=(k:Int))) (List.range i)
     rw[aJ]at this;unfold zX;omega
    ·rw[a8,List.filter_append,aR]
     congr 1
     rw[List.filter_cons_of_pos (by rw[aq q])]
     rfl
   ·refine .inr ⟨[],E.trans (by rw[aA q]),⟨_,_,rfl⟩,rfl,?_⟩
    rw[a8,List.filter_append,aR];rw[List.filter_cons_of_neg (l:=[]) (by rw[aA q];simp)]
    simp)
  (λ ρ acc B _=>by have:=gC (A:=B) (ws:=(t.getD a []).map W.int);rw[c]at this ⊢;exact this) ⟨⟨_,_,rfl⟩,rfl,rfl⟩
 subst j h;have hm:((List.range t.length).filter λ b=>decide (at2 t a b=(k:Int))).map (λ (b:Nat)=>W.int (b:Int))=(Z9 t a k).map W.int:=by unfold Z9;rw[aP];rfl
 rw[hm]at e;unfold Jq;refine YZ (k:=0) (A1:=[.lst ((Z9 t a k).map W.int)]) (by show((zp t).nr&&true)=true;rw[yz];rfl) (qt ?_) rfl (ZV (λ _=>rfl) _)
 unfold UP;exact(zF (jq ((zK (zA (zo rfl) zL)).trans (Zb d [])))).trans ((zF (jq ((zK (zA (zo rfl) (zA (zo rfl) zL))).trans (Gm ⟨a,rfl,g⟩ [])))).trans ((zF (jq ((zK (zA (zo rfl) (zA (zo rfl) zL))).trans (Ka d o ⟨k,rfl,n⟩ [])))).trans (qf (qB (kO e)))))
theorem LP (h:zQ t)(d:z8 t=(K:Int))(c:a<t.length)(H:b<t.length)(A:Hx):Yt [zp t,.int (a:Int),.int (b:Int)] A=.ok (zp (z9 t K a b)) A:=by
 refine yn (A1:=[]) (by show((zp t).nr&&true)=true;rw[yz];rfl) (yz _) (qt ?_)
 unfold V2;exact(zF (jq ((zK (zA (zo rfl) zL)).trans (Zb h [])))).trans ((zF (jq ((zK (zA (zo rfl) (zA (zo rfl) zL))).trans (Gm ⟨a,rfl,c⟩ [])))).trans ((zF (jq ((zK (zA (zo rfl) (zA (zo rfl) zL))).trans (Gm ⟨b,rfl,H⟩ [])))).trans (qf (qB ((zK (zA (zo rfl) (zA (zo rfl) (zA (zo rfl) zL)))).trans (Zc h d c H []))))))
theorem IC (h:zQ t)(s:jP t)(c:z8 t=(K:Int))(l:∀a b,a<t.length->b<t.length->z9 t K a b=S (at2 t a b).toNat)(m:i<K)(g:j<K)(f:k<K)(A:Hx):JA [zp t,.int (i:Int),.int (j:Int),.int (k:Int)] A=.ok (.int (at2 (S k) i j)) A:=by
 have q:=yo h;obtain⟨a,b,p,o,e⟩:=Zn h (v:=k) (by omega)
 have H:S k=z9 t K a b:=by rw[l a b p o,e,aw]
 have u:(S k).length=K:=by rw[H];unfold z9;exact Zd
 have d:∀r∈S k,r.length=K:=by rw[H];unfold z9;intro r d;rw[JI r d,Zd]
 refine yn (A1:=[.lst ((List.range K).map λ k=>zp (S k))]) (yJ t) rfl (qt ?_);unfold Ta;refine(zF (jq ((zK (zA (zo rfl) zL)).trans (JQ h s [])))).trans ?_;refine(zF (jq ((zK (zA (zo rfl) (zA (zo rfl) zL))).trans (Ka h c ⟨i,rfl,m⟩ [])))).trans ?_;refine(zF (jq ((zK (zA (zo rfl) (zA (zo rfl) zL))).trans (Ka h c ⟨j,rfl,g⟩ [])))).trans ?_;refine(zF (jq ((zK (zA (zo rfl) (zA (zo rfl) zL))).trans (Ka h c ⟨k,rfl,f⟩ [])))).trans (qf (qB ?_));have E:zw Qq (zh (zc 0) zq) [some (zp t),some (.int (i:Int)),some (.int (j:Int)),some (.int (k:Int))] []=.ok (.ref 0) [.lst ((List.range K).map λ k=>zp (S k))]:=(zK (zA (zo rfl) zL)).trans (WW h c l []);refine(zH ((zH ((zH E (zo rfl)).trans (y9 (n:=0) rfl (by rw[ak,aL f];rfl))) (zo rfl)).trans (gG (by omega))) (zo rfl)).trans (JN ?_)
 rw[d _ (jE (by omega))]
 exact g
def jD (t:List (List Int))(K:Nat):List Int:=(List.range K).map λ (k:Nat)=>((Zv (.int (k:Int)) ((t.getD 0 []).map W.int) 0:Nat):Int)
theorem CG {m:Ei}{q:Nat}(h:zQ t)(d:z8 t=(K:Int))(hm:m ρ A=.ok (yV 0 K) A)(b:ρ[q]? =some (some (zp t))):qh (zV 1 [q] m (zR 0) (zj (.bl true)) (zP (JO QO (zl zG (zc 1) (zj (.int 0))) (zc 0)))) ρ A=.ok (.ref A.length) (A++[.lst ((jD t K).map W.int)]):=by
 have c:=yo h;have n1:=h.n1;have e:=wQ (cap:=[q]) (me:=JO QO (zl zG (zc 1) (zj (.int 0))) (zc 0)) (ρ:=ρ) (A:=A) (N:=K) (item:=λ i=>.int (0+(i:Int))) (g:=λ k=>.int ((Zv (.int (k:Int)) ((t.getD 0 []).map W.int) 0:Nat):Int)) hm rfl (by unfold zX;omega) (λ i H=>wB H) (wg (by omega)) (λ i H=>by
  have E:zl zG (zc 1) (zj (.int 0)) (some (W.int (0+(i:Int)))::[q].map λ i=>(ρ[i]?).join) A=.ok (.tup ((t.getD 0 []).map W.int)) A:=(zH (zo (w:=zp t) (by show some ((ρ[q]?).join)=_;rw[b];rfl)) qv).trans (gG (a:=0) n1)
  unfold JO;rw[E,zM];dsimp only;rw[zo (w:=.int (0+(i:Int))) rfl,zM,bA];unfold QO;dsimp only;rw[af];show(true&&((t.getD 0 []).map W.int).all ye)=true;rw[Bool.true_and,bp];intro w hw;obtain⟨v,_,rfl⟩:=qa6.mp hw
  rfl)
 rw[kO e];unfold jD;rw[aP]
 rfl
theorem FC (h:zQ t)(s:jP t)(H:z8 t=(K:Int))(A:Hx):Gw [zp t] A=.ok (.ref A.length) (A++[.lst ((jD t K).map W.int)]):=by
 have b:=yo h;have hm:=wV (m:=zw wc (zh (zc 0) zq)) (ρ:=[some (zp t)]) (A:=[]) (A1:=[]) (k:=(K:Int)) ((zK (zA (zo rfl) zL)).trans ((Z0 h _).trans (by rw[H]))) (wd (by omega))
 rw[aw]at hm;have e:Ws [zp t] []=.ok (.ref 0) [.lst ((jD t K).map W.int)]:=YZ (A:=[]) (k:=0) (A1:=[.lst ((jD t K).map W.int)]) (yJ t) (qt (by unfold VD;exact qf (qB (CG h H hm rfl)))) rfl (ZV (λ _=>rfl) _)
 refine YZ (k:=0) (A1:=[.lst ((jD t K).map W.int)]) (yJ t) (qt ?_) rfl (ZV (λ _=>rfl) _);unfold TZ;exact(zF (jq ((zK (zA (zo rfl) zL)).trans (JQ h s [])))).trans (qf (qB ((zK (zA (zo rfl) zL)).trans e)))
end
theorem Y6  [BEq α] [LawfulBEq α] [DecidableEq α] (f:Nat->α)(v:α):∀n:Nat,((((List.range n).map f).count v:Nat):Int)=sm n λ c=>if f c=v then 1 else 0
 |0=>rfl|n+1=>by
  rw[a8,aR,List.count_append,yZ,<- Y6 f v n,aO,map_nil,List.count_singleton]
  by_cases h:f n=v
  ·rw[af h,af (aU.mpr h)]
   rfl
  ·rw[aj h,aj (λ q=>h (aU.mp q))]
   rfl
section
variable {y z v:List Int}{a b c e j k K:Nat}{S:Nat->List (List Int)}
theorem Dd (h:zQ t)(d:a<t.length)(H:b<t.length)(i j:Nat):shr t a b t.length i j=sm t.length λ c=>if (at2 t a c,at2 t b c)=((i:Int),(j:Int)) then 1 else 0:=by
 rw[Ju h d H t.length (ar _) i j];exact Y6 (λ c=>(at2 t a c,at2 t b c)) _ _
theorem Kb (l:∀a b,a<t.length->b<t.length->z9 t K a b=S (at2 t a b).toNat)(d:zQ t)(H:a<t.length)(h:b<t.length)(e:at2 t a b=(k:Int))(g:i<K)(f:j<K):at2 (S k) i j=sm t.length λ c=>if (at2 t a c,at2 t b c)=((i:Int),(j:Int)) then 1 else 0:=by
 have:=l a b H h
 rw[e,aw]at this;rw[<- this];unfold z9;rw[wk g f,Dd d H h]
theorem IY (m:∀a b,a<t.length->b<t.length->z9 t K a b=S (at2 t a b).toNat)(H:zQ t)(s:z8 t=(K:Int))(r:k<K)(l:i<K)(g:j<K):at2 (S k) i j=at2 (S k) j i:=by
 obtain⟨a,b,f,d,e⟩:=Zn H (v:=k) (by omega)
 rw[Kb m H f d e l g,Kb m H d f ((H.sy b a d f).trans e) g l];refine jh λ c _=>?_
 by_cases q:(at2 t a c,at2 t b c)=((i:Int),(j:Int))
 ·rw[af q,af (by injection q with n Q;rw[n,Q])]
 ·rw[aj q,aj (λ h=>q (by injection h with p o;rw[p,o]))]
def nb (t:List (List Int))(a i:Nat):Int:=sm t.length λ c=>if at2 t a c=(i:Int) then 1 else 0
theorem HG (f:zQ t)(s:jP t)(e:a<t.length)(H:b<t.length)(i:Nat):nb t a i=nb t b i:=by
 have d:at2 t a a=at2 t b b:=by rw[(f.dg a a e e).mpr rfl,(f.dg b b H H).mpr rfl]
 have p:=s a a b b e e H H d;have h:∀q:Nat,nb t q i=((((k9 t q q).count ((i:Int),(i:Int)):Nat)):Int):=λ q=>by
  unfold k9 nb;rw[Y6];refine jh λ c _=>?_
  by_cases h:at2 t q c=(i:Int)
  ·rw[af h,af (by rw[h])]
  ·rw[aj h,aj (λ z=>h (by injection z))]
 rw[h,h,p.count_eq]
theorem LI (r:∀a b,a<t.length->b<t.length->z9 t K a b=S (at2 t a b).toNat)(H:zQ t)(g:i<K)(o:j<K)(f:k<K):nb t 0 k * at2 (S k) i j=nb t 0 i * at2 (S i) k j:=by
 have n1:=H.n1;have h:∀{p q:Nat},p<K->q<K->nb t 0 p * at2 (S p) q j=sm t.length λ b=>sm t.length λ c=>if at2 t 0 b=(p:Int)/\at2 t 0 c=(q:Int)/\at2 t b c=(j:Int) then 1 else 0:=λ {p q} s n=>by
  unfold nb;rw[<- Ss];refine jh λ b d=>?_
  by_cases e:at2 t 0 b=(p:Int)
  ·rw[af e,Int.one_mul,Kb r H n1 d e n o]
   refine jh λ c _=>?_
   by_cases z:(at2 t 0 c,at2 t b c)=((q:Int),(j:Int))
   ·rw[af z,af (by injection z with m Z;exact⟨e,m,Z⟩)]
   ·rw[aj z,aj (λ y=>z (by rw[y.2.1,y.2.2]))]
  ·rw[aj e,Int.zero_mul]
   exact((jh λ c _=>by rw[aj (λ y=>e y.1)]).trans (QI _)).symm
 rw[h f g,h g f,Y5];refine jh λ b d=>jh λ c l=>?_
 by_cases z:at2 t 0 c=(k:Int)/\at2 t 0 b=(i:Int)/\at2 t c b=(j:Int)
 ·rw[af z,af ⟨z.2.1,z.1,(H.sy b c d l).trans z.2.2⟩]
 ·rw[aj z,aj (λ y=>z ⟨y.2.1,y.1,(H.sy c b l d).trans y.2.2⟩)]
theorem TN (H:zQ t)(f:z8 t=(K:Int))(d:b<t.length)(a:c<t.length)(v:Int):sm K (λ j=>if at2 t b c=(j:Int) then v else 0)=v:=by
 have h:=gE H f d a;refine(jh λ j _=>?_).trans (JP h.2 v)
 by_cases q:at2 t b c=(j:Int)
 ·rw[af q,af (by rw[q,aw])]
 ·rw[aj q,aj (λ e=>q (by rw[<- h.1,e]))]
theorem Hr (m:∀a b,a<t.length->b<t.length->z9 t K a b=S (at2 t a b).toNat)(h:zQ t)(s:jP t)(n:z8 t=(K:Int))(o:k<K)(g:i<K):sm K (λ j=>at2 (S k) i j)=nb t 0 i:=by
 obtain⟨a,b,d,H,e⟩:=Zn h (v:=k) (by omega)
 rw[HG h s h.n1 d i,jh λ j f=>Kb m h d H e g f,Y5];unfold nb;refine jh λ c l=>?_;rw[<- TN h n H l (if at2 t a c=(i:Int) then 1 else 0)];refine jh λ j _=>?_
 by_cases q:at2 t a c=(i:Int)
 ·rw[af q]
  by_cases r:at2 t b c=(j:Int)
  ·rw[af r,af (by rw[q,r])]
  ·rw[aj r,aj (λ z=>r (by injection z))]
 ·rw[aj (λ z=>q (by injection z))]
  by_cases r:at2 t b c=(j:Int)
  ·rw[af r,aj q]
  ·rw[aj r]
theorem Dq (h:zQ t)(a:z8 t=(K:Int)):sm K (λ k=>nb t 0 k)=(t.length:Int):=by
 unfold nb;rw[Y5,jh λ c H=>TN h a h.n1 H 1];generalize t.length=n
 induction n with
 |zero=>rfl|succ n i=>rw[yZ,i];omega
theorem Hv (h:zQ t):nb t 0 0=1:=by
 unfold nb;refine(jh λ c H=>?_).trans (JP h.n1 1)
 by_cases q:c=0
 ·subst q
  exact(af ((h.dg 0 0 h.n1 h.n1).mpr rfl)).trans (af rfl).symm
 ·exact(aj (λ e=>q ((h.dg 0 c h.n1 H).mp e).symm)).trans (aj q).symm
theorem Me (h:zQ t)(b:a<t.length):t.getD a []=(List.range t.length).map λ c=>at2 t a c:=by
 have H:=h.sq _ (jE b);refine bf (by rw[ah,aJ,H]) λ c d e=>?_
 rw[List.getElem_map,List.getElem_range];unfold at2;rw[aa (l:=t.getD a []),ab d]
 rfl
theorem Rk (h:zQ t)(H:k<K):(jD t K).getD k 0=nb t 0 k:=by
 unfold jD;rw[aa,ak,aL H];show((Zv (.int (k:Int)) ((t.getD 0 []).map W.int) 0:Nat):Int)=_;rw[Gg,Nat.zero_add,List.countP_map,Me h h.n1];unfold nb;rw[<- Y6 (λ c=>at2 t 0 c) (k:Int) t.length]
 rfl
theorem Gu:(jD t K).length=K:=by unfold jD;rw[ah,aJ]
theorem Fd (H:zQ t)(a:z8 t=(K:Int)):(jD t K).sum=(t.length:Int):=by
 rw[<- Dq H a]
 have:jD t K=(List.range K).map λ k=>nb t 0 k:=bf (by rw[Gu,ah,aJ]) λ k h b=>by
  rw[List.getElem_map,List.getElem_range,<- Rk H (K:=K) (by rw[Gu]at h;exact h),aa,ab h]
  rfl
 rw[this]
 rfl
end
structure LM (N b0 r:Nat)(μ:Nat->Nat->Int)(C:Hx):Prop where
 top:C[r]? =some (.lst ((List.range N).map λ i=>W.ref (b0+i)))
 row:∀i,i<N->C[b0+i]? =some (.lst ((List.range N).map λ j=>W.int (μ i j)))
 lt:b0+N<=r
 pos:0<b0
 st:qp 0 C
structure Sy (N:Nat)(μ:Nat->Nat->Int):Prop where
 dg:∀a b,a<N->b<N->(μ a b=0↔a=b)
 sy:∀a b,a<N->b<N->μ a b=μ b a
 lo:∀a b,a<N->b<N->0<=μ a b/\μ a b<(N:Int)
section
variable {N b0 r a b:Nat}{C:Hx}
theorem Sy.step (h:Sy N μ)(m:a<N)(l:b<N)(f:a≠b){k:Int}(g:1<=k)(K:k<(N:Int)):Sy N (j9 (j9 μ a b k) b a k):=by
 have at_:∀i j,j9 (j9 μ a b k) b a k i j=if (i=b/\j=a)∨(i=a/\j=b) then k else μ i j:=λ i j=>by
  unfold j9
  by_cases e:i=b/\j=a
  ·rw[af e,af (.inl e)]
  ·rw[aj e]
   by_cases Q:i=a/\j=b
   ·rw[af Q,af (.inr Q)]
   ·rw[aj Q,aj (by rintro(z|z);exact e z;exact Q z)]
 refine⟨λ i j d H=>?_,λ i j d H=>?_,λ i j d H=>?_⟩
 ·rw[at_]
  by_cases q:(i=b/\j=a)∨(i=a/\j=b)
  ·rw[af q]
   constructor
   ·intro z;omega
   ·intro z;omega
  ·rw[aj q];exact h.dg i j d H
 ·rw[at_,at_]
  by_cases q:(i=b/\j=a)∨(i=a/\j=b)
  ·rw[af q,af (by rcases q with ⟨c,Z⟩|⟨c,Z⟩;exact .inr ⟨Z,c⟩;exact .inl ⟨Z,c⟩)]
  ·rw[aj q,aj (by rintro(⟨c,Z⟩|⟨c,Z⟩);exact q (.inr ⟨Z,c⟩);exact q (.inl ⟨Z,c⟩))]
   exact h.sy i j d H
 ·rw[at_]
  by_cases q:(i=b/\j=a)∨(i=a/\j=b)
  ·rw[af q];omega
  ·rw[aj q];exact h.lo i j d H
theorem LM.put (h:LM N b0 r μ C)(g:a<N)(f:b<N)(k:Int):∃d,j7 (.ref (b0+a)) (.int (b:Int)) (.int k) C=.ok () d/\LM N b0 r (j9 μ a b k) d:=by
 have c:=h.row a g;have H:=kB c;have m:=h.lt;have l:=h.pos;refine⟨_,Se c (by simp;omega),?_,λ i e=>?_,m,l,h.st.put (by omega)⟩
 ·rw[aK (by omega)];exact h.top
 ·by_cases q:i=a
  ·subst q
   rw[aF H,Sx f]
   congr 3
   funext j
   unfold j9
   by_cases z:j=b
   ·rw[af z,af ⟨rfl,z⟩]
   ·rw[aj z,aj (by rintro⟨_,w⟩;exact z w)]
  ·rw[aK (by omega),h.row i e]
   congr 3
   funext j
   unfold j9;rw[aj (by rintro⟨w,_⟩;exact q w)]
theorem LM.kn {c:Hx}(h:LM N b0 r μ C)(k:Kn 0 C c):LM N b0 r μ c:=by
 have b:=h.lt;have a:=h.pos;exact⟨k.kp.get h.top (by omega),λ i H=>k.kp.get (h.row i H) (by omega),b,a,k.st⟩
theorem LM.ix (h:LM N b0 r μ C)(hm:m ρ C=.ok (.ref r) C)(H:ρ[i]? =some (some (.int (a:Int))))(b:a<N):zl zG m (zc i) ρ C=.ok (.ref (b0+a)) C:=
 (zH hm (zo H)).trans (y9 h.top (by rw[ak,aL b];rfl))
theorem LM.ix2 (h:LM N b0 r μ C){j:Nat}(hm:m ρ C=.ok (.ref r) C)(d:ρ[i]? =some (some (.int (a:Int))))(c:ρ[j]? =some (some (.int (b:Int))))(H:a<N)(e:b<N):zl zG (zl zG m (zc i)) (zc j) ρ C=.ok (.int (μ a b)) C:=
 (zH (h.ix hm d H) (zo c)).trans (y9 (h.row a H) (by rw[ak,aL e];rfl))
abbrev Xx (me:Ev)(rest:Ex):Ex:=zr (kd j7 (zl qE (zj (.int 1)) (zw jM (zh (zc 0) (zh me zq)))) (zl zG (zc 2) (zc 4)) (zc 5)) (zr (kd j7 (zl zG (zl zG (zc 2) (zc 4)) (zc 5)) (zl zG (zc 2) (zc 5)) (zc 4)) rest)
theorem Sw (h:LM N b0 r μ C)(q:Sy N μ)(d:a<N)(H:b<N)(e:a≠b)(h0:ρ[0]? =some (some (.ref 0)))(i:ρ[2]? =some (some (.ref r)))(g:ρ[4]? =some (some (.int (a:Int))))(f:ρ[5]? =some (some (.int (b:Int)))){m:Int}(hm:me ρ C=.ok (.int m) C)(m1:0<m)(m2:m<(N:Int))(x:N<=8)(rest:Ex):
  ∃c o,Xx me rest ρ C=rest ρ o/\LM N b0 r c o/\Sy N c:=by
 obtain⟨k,n,t,v,K,_⟩:=ZY h.st h0 hm m1 (by omega)
 have L:=h.kn K;obtain⟨u,s,l⟩:=L.put d H (1+(k:Int));obtain⟨j,E,p⟩:=l.put H d (1+(k:Int));refine⟨_,j,?_,p,q.step d H e (by omega) (by omega)⟩
 refine(zF (ρ1:=ρ) (A1:=u) ?_).trans (zF (ρ1:=ρ) (A1:=j) ?_)
 ·unfold kd
  rw[(zH (qv (w:=.int 1)) t).trans (show qE (.int 1) (.int (k:Int)) n=.ok (.int (1+(k:Int))) n from rfl),zM,L.ix (zo i) g d,zM,zo f,zM,s,zM]
 ·have ev:j9 μ a b (1+(k:Int)) a b=1+(k:Int):=by unfold j9;rw[af ⟨rfl,rfl⟩]
  unfold kd;rw[l.ix2 (zo i) g f d H,zM,l.ix (zo i) f H,zM,zo g,zM,ev,E,zM]
theorem LM.ll (h:LM N b0 r μ C):LL (jd N μ) r C:=by
 refine⟨(List.range N).map λ i=>b0+i,by rw[h.top,aP];rfl,by rw[Zd];simp,λ i H=>?_⟩
 rw[Zd]at H;have E:((List.range N).map λ i=>b0+i).getD i 0=b0+i:=by rw[aa,ak,aL H];rfl
 have e:(jd N μ).getD i []=(List.range N).map (μ i):=by unfold jd;rw[aa,ak,aL H];rfl
 rw[E,e,h.row i H,aP]
 rfl
theorem LM.fin (h:LM N b0 r μ C)(q:Sy N μ)(n1:1<=N)(n8:N<=8)(f:ρ[2]? =some (some (.ref r))):∃u B,zw ZM (zh (zc 2) zq) ρ C=.ok (zp u) B/\zQ u/\qp 0 B:=by
 have l:=Zd (n:=N) (μ:=μ);have H:∀v∈(jd N μ).flatten,0<=v/\v<(N:Int):=λ v d=>by
  obtain⟨a,b,c,H,rfl⟩:=ZW JI d;rw[l]at c H;rw[wk c H];exact q.lo a b c H
 obtain⟨B,e,x⟩:=TC (t:=jd N μ) (by omega) (by omega) JI (λ v d=>by have:=H v d;omega) h.ll
 refine⟨_,B,(zK (zA (zo f) zL)).trans e,Lh (by omega) (by omega) JI ?_ ?_ ?_,h.st.ext x⟩
 ·intro a b c H;rw[l]at c H;rw[wk c H];exact q.dg a b c H
 ·intro a b c H;rw[l]at c H;rw[wk c H,wk H c];exact q.sy a b c H
 ·intro a b c H;rw[l]at c H ⊢;rw[wk c H];exact q.lo a b c H
theorem HY {B:Hx}(h:zQ t)(s:qp 0 B):LM t.length B.length (B.length+t.length) (at2 t) (B++(t.map λ r=>O.lst (r.map W.int))++[O.lst ((List.range t.length).map λ i=>W.ref (B.length+i))])/\Sy t.length (at2 t):=by
 refine⟨⟨Tu,λ i H=>?_,ar _,s.lt,s.ext ⟨(t.map λ r=>O.lst (r.map W.int))++[O.lst ((List.range t.length).map λ i=>W.ref (B.length+i))],by rw[aW]⟩⟩,h.dg,h.sy,λ a b f e=>?_⟩
 ·rw[TY H]
  congr 2
  have d:=h.sq _ (jE H)
  have:=Qo (t.getD i []) 0 W.int
  rw[this,d]
  rfl
 ·obtain⟨c,j,g,_⟩:=YQ h.sq f e
  exact h.lo c j _ g
theorem HV (s:qp 0 [o]):∃t B,Yp [.ref 0] [o]=.ok (zp t) B/\qp 0 B/\zQ t:=by
 unfold Yp;unfold VH;obtain⟨way,U,e0,hw,k0,_⟩:=ZY (ρ:=[some (.ref 0),none,none,none,none,none,none]) (me:=zj (.int 3)) s rfl qv (by decide:(0:Int)<3) (by decide)
 have go:∀m2:Ex,zr (zY 1 (zw jM (zh (zc 0) (zh (zj (.int 3)) zq)))) m2 [some (.ref 0),none,none,none,none,none,none] [o]=m2 [some (.ref 0),some (.int (way:Int)),none,none,none,none,none] U:=λ m2=>zF ((qC e0).trans rfl);obtain⟨t,x,e1,J,_,k1,_⟩:=Sa k0.st;have n1:=J.n1;have n8:=J.n8;have Q:zl qM (zc 1) (zj (.int 0)) [some (.ref 0),some (.int (way:Int)),none,none,none,none,none] U=.ok (.bl (decide ((way:Int)=0))) U:=(zH (zo rfl) qv).trans (gn _ _ _);have ek:zw wN (zh (zc 0) zq) [some (.ref 0),some (.int (way:Int)),none,none,none,none,none] U=.ok (zp t) x:=(zK (zA (zo rfl) zL)).trans e1
 by_cases q0:(way:Int)=0
 ·rw[aq q0]at Q
  exact⟨t,x,qt ((go _).trans (qf ((Z4 Q).trans (qf (qB ek))))),k1.st,J⟩
 ·rw[aA q0]at Q
  have er:=Np (B:=x) n8 J.sq ek;obtain⟨lm,sy⟩:=HY J k1.st;generalize x++(t.map λ r=>O.lst (r.map W.int))++[O.lst ((List.range t.length).map λ i=>W.ref (x.length+i))]=C at er lm;generalize x.length+t.length=r at er lm;generalize x.length=b0 at lm;generalize at2 t=μ at lm sy;generalize hN:t.length=N at lm sy n1 n8;have M:mQ qK (qb (zc 2)) [some (.ref 0),some (.int (way:Int)),some (.ref r),none,none,none,none] C=.ok (.int (N:Int)) C:=by
   rw[j4 (yG (w:=.ref r) (A1:=C) (zo rfl) (by unfold qa;dsimp only;rw[lm.top]))]
   unfold qK;simp
  have go2:∀m1 m2:Ex,zr (zY 1 (zw jM (zh (zc 0) (zh (zj (.int 3)) zq)))) (zr (ql (zl qM (zc 1) (zj (.int 0))) m1 zx) (zr (zY 2 (qh (zV 1 [] (qF (zw wN (zh (zc 0) zq))) (zR 0) (zj (.bl true)) (zP (qh (qb (zc 0))))))) (zr (zY 3 (mQ qK (qb (zc 2)))) m2))) [some (.ref 0),none,none,none,none,none,none] [o]=m2 [some (.ref 0),some (.int (way:Int)),some (.ref r),some (.int (N:Int)),none,none,none] C:=λ m1 m2=>
   (go _).trans ((zF ((jj Q).trans qS)).trans ((zF ((qC er).trans rfl)).trans (zF ((qC M).trans rfl))))
  have T:jz (zl qM (zc 1) (zj (.int 1))) (zl Xs (zc 3) (zj (.int 1))) [some (.ref 0),some (.int (way:Int)),some (.ref r),some (.int (N:Int)),none,none,none] C=.ok (.bl (decide ((way:Int)=1)&&decide ((1:Int)<(N:Int)))) C:=by
   have e:zl qM (zc 1) (zj (.int 1)) [some (.ref 0),some (.int (way:Int)),some (.ref r),some (.int (N:Int)),none,none,none] C=.ok (.bl (decide ((way:Int)=1))) C:=(zH (zo rfl) qv).trans (gn _ _ _)
   by_cases z:(way:Int)=1
   ·rw[aq z]at e ⊢
    exact(ka e).trans ((zH (zo rfl) qv).trans rfl)
   ·rw[aA z]at e ⊢
    exact QK e
  cases hd:(decide ((way:Int)=1)&&decide ((1:Int)<(N:Int))) with
  |true=>
   rw[hd]at T;have hN2:2<=N:=by
    rw[ao,ag,ag]at hd;omega
   obtain⟨a,d,P,ha,K,_⟩:=ZY (ρ:=[some (.ref 0),some (.int (way:Int)),some (.ref r),some (.int (N:Int)),none,none,none]) (me:=zc 3) lm.st rfl (zo rfl) (by omega:(0:Int)<(N:Int)) (by omega)
   obtain⟨q,C2,e3,hq,k3,_⟩:=ZY (ρ:=[some (.ref 0),some (.int (way:Int)),some (.ref r),some (.int (N:Int)),some (.int (a:Int)),none,none]) (me:=zl jt (zc 3) (zj (.int 1))) (m:=(N:Int) - 1) K.st rfl ((zH (zo rfl) qv).trans rfl) (by omega) (by omega)
   have Z:=(lm.kn K).kn k3;have hb:(a+1+q) % N<N:=Nat.mod_lt _ (by omega)
   have hab:a≠(a+1+q) % N:=by
    intro z
    by_cases g:a+1+q<N
    ·rw[Nat.mod_eq_of_lt g]at z;omega
    ·rw[Nat.mod_eq_sub_mod (by omega),Nat.mod_eq_of_lt (by omega)]at z
     omega
   have e4:zl yS (zl qE (zl qE (zc 4) (zj (.int 1))) (zw jM (zh (zc 0) (zh (zl jt (zc 3) (zj (.int 1))) zq)))) (zc 3) [some (.ref 0),some (.int (way:Int)),some (.ref r),some (.int (N:Int)),some (.int (a:Int)),none,none] d=.ok (.int (((a+1+q) % N:Nat):Int)) C2:=by
    refine(zH ((zH ((zH (zo rfl) qv).trans (show qE (.int (a:Int)) (.int 1) d=.ok (.int ((a:Int)+1)) d from rfl)) e3).trans (show qE (.int ((a:Int)+1)) (.int (q:Int)) C2=.ok (.int ((a:Int)+1+(q:Int))) C2 from rfl)) (zo (i:=3) rfl)).trans ((Z3 (by omega)).trans ?_)
    congr 2
   obtain⟨c,C3,e5,L,S⟩:=Sw (ρ:=[some (.ref 0),some (.int (way:Int)),some (.ref r),some (.int (N:Int)),some (.int (a:Int)),some (.int (((a+1+q) % N:Nat):Int)),none]) (me:=zl jt (zc 3) (zj (.int 1))) (m:=(N:Int) - 1) Z sy (by omega) hb hab rfl rfl rfl rfl ((zH (zo rfl) qv).trans rfl) (by omega) (by omega) n8 (zr (zT (zw ZM (zh (zc 2) zq))) zx)
   obtain⟨u,B,e6,hu,sB⟩:=L.fin S n1 n8 (ρ:=[some (.ref 0),some (.int (way:Int)),some (.ref r),some (.int (N:Int)),some (.int (a:Int)),some (.int (((a+1+q) % N:Nat):Int)),none]) rfl;refine⟨u,B,qt ((go2 _ _).trans (qf ((Z4 T).trans ?_))),sB,hu⟩;exact(zF ((qC P).trans rfl)).trans ((zF ((qC e4).trans rfl)).trans (e5.trans (qf (qB e6))))
  |false=>
   rw[hd]at T;have xo:Ext C (C++[.lst [.int 2,.int 3,.int 1]]):=Ext.one;obtain⟨j,d,P,hj,K,_⟩:=ZY (ρ:=[some (.ref 0),some (.int (way:Int)),some (.ref r),some (.int (N:Int)),none,none,none]) (me:=zj (.int 3)) (lm.st.ext xo) rfl qv (by decide:(0:Int)<3) (by decide)
   have lm1:LM N b0 r μ d:=(lm.kn (Kn.ext lm.st xo)).kn K;obtain⟨f,hf1,ef⟩:∃f:Int,1<=f/\zl zG (qP (zh (zj (.int 2)) (zh (zj (.int 3)) (zh (zj (.int 1)) zq)))) (zw jM (zh (zc 0) (zh (zj (.int 3)) zq))) [some (.ref 0),some (.int (way:Int)),some (.ref r),some (.int (N:Int)),none,none,none] C=.ok (.int f) d:=by
    have v:=K.kp.get (j0 (A:=C)) (by have:=lm.st.lt;omega)
    have hj3:j<3:=by omega
    rcases three hj3 with rfl|rfl|rfl
    ·exact⟨2,by decide,(zH (kR rfl) P).trans (y9 v rfl)⟩
    ·exact⟨3,by decide,(zH (kR rfl) P).trans (y9 v rfl)⟩
    ·exact⟨1,by decide,(zH (kR rfl) P).trans (y9 v rfl)⟩
   have rng:∀(i:Nat)(ρ:En)(D:Hx)(k:Nat),k<=8->ρ[i]? =some (some (.int (k:Int)))->ja (zc i) ρ D=.ok (yV 0 k) D:=λ i ρ D k hk h=>by
    have:=wV (m:=zc i) (A:=D) (zo h) (wd (n:=k) (by omega))
    rw[aw]at this;exact this
   obtain⟨X,D,e3,⟨c,L,S⟩,Y,y,H⟩:=wR (j:=yV 0 N) (st:=turn (zR 4) (zr (jG (ja (zc 4)) (zR 5) (Xx (zl Zr (zc 6) (zl jt (zc 3) (zj (.int 1)))) zx)) zx)) (N:=N)
    (I:=λ _ ρ D=>(∃μ,LM N b0 r μ D/\Sy N μ)/\∃Y y,ρ=[some (.ref 0),some (.int (way:Int)),some (.ref r),some (.int (N:Int)),Y,y,some (.int f)])
    (λ a ρ D ha ⟨⟨μ,lm,sy⟩,Y,y,H⟩=>by
     subst H;obtain⟨X,D',e,⟨c,p,l⟩,y5',E⟩:=wR (j:=yV 0 a) (st:=turn (zR 5) (Xx (zl Zr (zc 6) (zl jt (zc 3) (zj (.int 1)))) zx)) (N:=a)
      (I:=λ _ ρ D=>(∃μ,LM N b0 r μ D/\Sy N μ)/\∃y,ρ=[some (.ref 0),some (.int (way:Int)),some (.ref r),some (.int (N:Int)),some (.int (a:Int)),y,some (.int f)])
      (λ b ρ D hb ⟨⟨μ,lm,sy⟩,y,H⟩=>by
       subst H;have em:zl Zr (zc 6) (zl jt (zc 3) (zj (.int 1))) [some (.ref 0),some (.int (way:Int)),some (.ref r),some (.int (N:Int)),some (.int (a:Int)),some (.int (b:Int)),some (.int f)] D=.ok (.int (if (N:Int) - 1<f then(N:Int) - 1 else f)) D:=(zH (zo rfl) ((zH (zo rfl) qv).trans rfl)).trans rfl;obtain⟨c,D',e,p,l⟩:=Sw (ρ:=[some (.ref 0),some (.int (way:Int)),some (.ref r),some (.int (N:Int)),some (.int (a:Int)),some (.int (b:Int)),some (.int f)]) lm sy ha (by omega:b<N) (by omega) rfl rfl rfl rfl em (by split<;>omega) (by split<;>omega) n8 zx
       refine⟨_,_,D',wB hb,(yN (ρ1:=[some (.ref 0),some (.int (way:Int)),some (.ref r),some (.int (N:Int)),some (.int (a:Int)),some (.int (b:Int)),some (.int f)]) ?_).trans e,⟨c,p,l⟩,_,rfl⟩;rw[bA];rfl)
      (λ ρ D _=>wg (by omega)) a 0 [some (.ref 0),some (.int (way:Int)),some (.ref r),some (.int (N:Int)),some (.int (a:Int)),y,some (.int f)] D (by omega) ⟨⟨μ,lm,sy⟩,_,rfl⟩
     subst E;refine⟨_,_,D',wB ha,(yN (ρ1:=[some (.ref 0),some (.int (way:Int)),some (.ref r),some (.int (N:Int)),some (.int (a:Int)),y,some (.int f)]) ?_).trans ((zF ((yA (rng 4 _ D a (by omega) rfl)).trans e)).trans qS),⟨c,p,l⟩,_,_,rfl⟩
     rw[bA];rfl)
    (λ ρ D _=>wg (by omega)) N 0 [some (.ref 0),some (.int (way:Int)),some (.ref r),some (.int (N:Int)),none,none,some (.int f)] d (by omega) ⟨⟨μ,lm1,sy⟩,_,_,rfl⟩
   subst H;obtain⟨u,B,e6,hu,sB⟩:=L.fin S n1 n8 (ρ:=[some (.ref 0),some (.int (way:Int)),some (.ref r),some (.int (N:Int)),Y,y,some (.int f)]) rfl;refine⟨u,B,qt ((go2 _ _).trans ((zF ((jj T).trans qS)).trans ((zF ((qC ef).trans rfl)).trans ((zF ((yA (rng 3 _ d N n8 rfl)).trans e3)).trans (qf (qB e6)))))),sB,hu⟩
theorem E2 (s:qp n A):∃t B,ZL [.ref n] A=.ok (zp t) B/\zQ t/\Kn n A B:=by
 obtain⟨c,b,a,f,g⟩:=s;have hm:=kB a;obtain⟨t,A1,e,⟨C,d,E,h,H⟩,T⟩:=HV (o:=.lst [.int c,.bl b]) ⟨c,b,rfl,f,g⟩;refine⟨t,A.set n (.lst [.int C,.bl d]),?_,T,⟨Kp.set,C,d,aF hm,h,H⟩⟩;unfold ZL;exact JB a rfl e E (yz t)
end
theorem WL {st:W->Ex}{N:Nat}{I:Nat->En->Hx->Prop}{Q:W->Hx->Prop}
  (p:∀i ρ A,i<N->I i ρ A->∃w,j.at_ A i=some (some w)/\((∃ρ1 A1,st w ρ A=.ok (.nx ρ1) A1/\I (i+1) ρ1 A1)∨∃r A1,st w ρ A=.ok (.rt r) A1/\Q r A1))(d:∀ρ A,I N ρ A->j.at_ A N=some none):
  ∀(f i:Nat)(ρ:En)(A:Hx),i+f=N->I i ρ A->(∃a b,jQ j st f i ρ A=.ok (.nx a) b/\I N a b)∨∃r b,jQ j st f i ρ A=.ok (.rt r) b/\Q r b:=by
 intro f
 induction f with
 |zero=>
  intro i ρ A h c
  have:i=N:=by omega
  subst this;exact .inl ⟨ρ,A,WS (d _ _ c),c⟩
 |succ f m=>
  intro i ρ A h c;obtain⟨w,l,H|H⟩:=p i ρ A (by omega) c
  ·obtain⟨ρ1,A1,H,g⟩:=H
   rcases m (i+1) ρ1 A1 (by omega) g with ⟨a,b,e,q⟩|⟨r,b,e,q⟩
   ·exact .inl ⟨a,b,(YJ l H).trans e,q⟩
   ·exact .inr ⟨r,b,(YJ l H).trans e,q⟩
  ·obtain⟨r,A1,H,g⟩:=H
   refine .inr ⟨r,A1,?_,g⟩;unfold jQ;rw[l];dsimp only;rw[H]
   rfl
theorem VU:∀s t:List (List Int),PyData.eqvAll (s.map gg) (t.map gg)=decide (s=t)
 |[],[]=>by simp[PyData.eqvAll]|[],_::_=>by simp[PyData.eqvAll]|_::_,[]=>by simp[PyData.eqvAll]|a::l,b::m=>by
  simp only[aO,PyData.eqvAll,VU l m,gg,PyData.eqv,Jl];rw[Bool.eq_iff_iff];simp
theorem R1 (s t:List (List Int))(A:Hx):qw (zp s) (zp t) A=.ok (.bl (!decide (s=t))) A:=by
 show yI true _ _ A=_;unfold yI;rw[JJ A 6 s,JJ A 6 t];dsimp only;rw[af rfl,JZ,JZ,PyData.eqv,VU]
theorem Ph (r s:List Int)(A:Hx):qM (zt r) (zt s) A=.ok (.bl (decide (r=s))) A:=by
 show yI false _ _ A=_;unfold yI;rw[JF A 7 r,JF A 7 s];dsimp only;rw[gg,gg,PyData.eqv,Jl]
 rfl
theorem Bd (r s:List Int)(A:Hx):qw (zt r) (zt s) A=.ok (.bl (!decide (r=s))) A:=by
 show yI true _ _ A=_;unfold yI;rw[JF A 7 r,JF A 7 s];dsimp only;rw[af rfl,gg,gg,PyData.eqv,Jl]
def Q7 (t:List (List Int))(K a b c e:Nat):Prop:=(a<t.length/\b<t.length/\c<t.length/\e<t.length)/\at2 t a b=at2 t c e/\z9 t K a b≠z9 t K c e
noncomputable def gh (a b c e:Nat):W:=.tup [.int (a:Int),.int (b:Int),.int (c:Int),.int (e:Int)]
section
variable {B:Hx}{a b c e k K:Nat}{w:W}{kvs:List (Key×W)}
abbrev KW:Ex:=zr (ql (jz (zl qM (zc 8) (zc 1)) (zl qw (zw yw (zh (zc 0) (zh (zc 5) (zh (zc 7) zq)))) (zc 4))) (zr (zT (jb (zh (zc 2) (zh (zc 3) (zh (zc 5) (zh (zc 7) zq)))))) zx) zx) zx
abbrev K0:Ex:=zr (jG (jW (zc 6)) (qD 7 8) KW) zx
theorem Nx (x:zQ t)(hK:z8 t=(K:Int)):(∀A,wM [zp t] A=.ok .non A)∨∃a b c e,Q7 t K a b c e/\∀A,wM [zp t] A=.ok (gh a b c e) A:=by
 have n8:=x.n8;have kb:=yo x;have v:(t.map zt).length=t.length:=ah ..;obtain⟨kvs,ef,hf⟩:=Gn x;have go:=WL (j:=Qg kvs) (st:=turn (QS 1 2 3) (zr (zY 4 (zw yw (zh (zc 0) (zh (zc 2) (zh (zc 3) zq))))) (zr (jG (jW (zc 0)) (qD 5 6) K0) zx))) (N:=kvs.length)
  (Q:=λ r B=>B=[]/\∃a b c e,Q7 t K a b c e/\r=gh a b c e)
  (I:=λ _ ρ B=>B=[]/\∃M L J w s o f Y,ρ=[some (zp t),M,L,J,w,s,o,f,Y])
  (λ i ρ B hi ⟨u,M,L,J,w,s,o,f,Y,H⟩=>by
   subst u H;obtain⟨a,b,ha,hb,ep⟩:=hf.all kvs[i] (aT hi);refine⟨.tup [.int (at2 t a b),.tup [.int (a:Int),.int (b:Int)]],?_,?_⟩
   ·show some (kvs[i]?.map λ p=>W.tup [kW p.1,p.2])=_
    rw[ab hi,ep]
    rfl
   have hm:jW (zc 0) [some (zp t),some (.int (at2 t a b)),some (.int (a:Int)),some (.int (b:Int)),some (zp (z9 t K a b)),s,o,f,Y] []=.ok (jS (zp t) t.length) []:=by
    have:=gw (m:=zc 0) (ρ:=[some (zp t),some (.int (at2 t a b)),some (.int (a:Int)),some (.int (b:Int)),some (zp (z9 t K a b)),s,o,f,Y]) (A:=[]) (A1:=[]) (ws:=t.map zt) (zo rfl)
    rw[v]at this;exact this
   have e1:zY 4 (zw yw (zh (zc 0) (zh (zc 2) (zh (zc 3) zq)))) [some (zp t),some (.int (at2 t a b)),some (.int (a:Int)),some (.int (b:Int)),w,s,o,f,Y] []=.ok (.nx [some (zp t),some (.int (at2 t a b)),some (.int (a:Int)),some (.int (b:Int)),some (zp (z9 t K a b)),s,o,f,Y]) []:=(qC ((zK (zA (zo rfl) (zA (zo rfl) (zA (zo rfl) zL)))).trans (Zc x hK ha hb []))).trans rfl;have go:=WL (j:=jS (zp t) t.length) (st:=turn (qD 5 6) K0) (N:=t.length)
    (Q:=λ r B=>B=[]/\∃a b c e,Q7 t K a b c e/\r=gh a b c e)
    (I:=λ _ ρ B=>B=[]/\∃s o f Y,ρ=[some (zp t),some (.int (at2 t a b)),some (.int (a:Int)),some (.int (b:Int)),some (zp (z9 t K a b)),s,o,f,Y])
    (λ c ρ B P ⟨u,s,o,f,Y,H⟩=>by
     subst u H;have Z:=x.sq _ (jE P);have C:((t.getD c []).map W.int).length=t.length:=by rw[ah,Z]
     have hl3:(jS (.tup ((t.getD c []).map W.int)) ((t.getD c []).map W.int).length).len=t.length:=C;refine⟨.tup [.int (c:Int),zt (t.getD c [])],?_,?_⟩
     ·have:=gI (A:=[]) (QM P)
      rw[v]at this;exact this
     have go:=WL (j:=jS (.tup ((t.getD c []).map W.int)) ((t.getD c []).map W.int).length) (st:=turn (qD 7 8) KW) (N:=t.length)
      (Q:=λ r B=>B=[]/\∃a b c e,Q7 t K a b c e/\r=gh a b c e)
      (I:=λ _ ρ B=>B=[]/\∃f Y,ρ=[some (zp t),some (.int (at2 t a b)),some (.int (a:Int)),some (.int (b:Int)),some (zp (z9 t K a b)),some (.int (c:Int)),some (zt (t.getD c [])),f,Y])
      (λ e ρ B he ⟨u,f,Y,H⟩=>by
       subst u H;refine⟨_,gI (int_at (by omega)),?_⟩
       generalize n:([some (zp t),some (.int (at2 t a b)),some (.int (a:Int)),some (.int (b:Int)),some (zp (z9 t K a b)),some (.int (c:Int)),some (zt (t.getD c [])),some (.int (e:Int)),some (.int (at2 t c e))]:En)=l;have D:zl qM (zc 8) (zc 1) l []=.ok (.bl (decide (at2 t c e=at2 t a b))) []:=by subst n;exact(zH (zo rfl) (zo rfl)).trans (gn _ _ [])
       have S:zl qw (zw yw (zh (zc 0) (zh (zc 5) (zh (zc 7) zq)))) (zc 4) l []=.ok (.bl (!decide (z9 t K c e=z9 t K a b))) []:=by subst n;exact(zH ((zK (zA (zo rfl) (zA (zo rfl) (zA (zo rfl) zL)))).trans (Zc x hK P he [])) (zo rfl)).trans (R1 _ _ _)
       have E:∀g:Ex,turn (qD 7 8) g (.tup [.int (e:Int),.int ((t.getD c []).getD e 0)]) [some (zp t),some (.int (at2 t a b)),some (.int (a:Int)),some (.int (b:Int)),some (zp (z9 t K a b)),some (.int (c:Int)),some (zt (t.getD c [])),f,Y] []=g l []:=λ g=>by subst n;exact yN rfl
       have fin:jz (zl qM (zc 8) (zc 1)) (zl qw (zw yw (zh (zc 0) (zh (zc 5) (zh (zc 7) zq)))) (zc 4)) l []=.ok (.bl false) []->(∃ρ1 A1,turn (qD 7 8) KW (.tup [.int (e:Int),.int ((t.getD c []).getD e 0)]) [some (zp t),some (.int (at2 t a b)),some (.int (a:Int)),some (.int (b:Int)),some (zp (z9 t K a b)),some (.int (c:Int)),some (zt (t.getD c [])),f,Y] []=.ok (.nx ρ1) A1/\A1=[]/\∃f Y,ρ1=[some (zp t),some (.int (at2 t a b)),some (.int (a:Int)),some (.int (b:Int)),some (zp (z9 t K a b)),some (.int (c:Int)),some (zt (t.getD c [])),f,Y]):=λ h=>
        ⟨l,[],(E _).trans ((zF ((jj h).trans qS)).trans qS),rfl,_,_,n.symm⟩
       by_cases q:at2 t c e=at2 t a b
       ·rw[aq q]at D
        by_cases z:z9 t K c e=z9 t K a b
        ·rw[aq z]at S
         exact .inl (fin ((ka D).trans S))
        ·rw[aA z]at S
         refine .inr ⟨gh a b c e,[],(E _).trans (qf ((Z4 ((ka D).trans S)).trans (qf (qB ?_)))),rfl,a,b,c,e,⟨⟨ha,hb,P,he⟩,q.symm,λ y=>z y.symm⟩,rfl⟩;subst n;exact YR (zA (zo rfl) (zA (zo rfl) (zA (zo rfl) (zA (zo rfl) zL))))
       ·rw[aA q]at D
        exact .inl (fin (QK D)))
      (λ ρ B _=>by have:=gC (A:=B) (ws:=(t.getD c []).map W.int);rw[C]at this ⊢;exact this) t.length 0 [some (zp t),some (.int (at2 t a b)),some (.int (a:Int)),some (.int (b:Int)),some (zp (z9 t K a b)),some (.int (c:Int)),some (zt (t.getD c [])),f,Y] [] (by omega) ⟨rfl,_,_,rfl⟩
     have X:=(yA (tw:=qD 7 8) (m1:=KW) (gw (m:=zc 6) (ρ:=[some (zp t),some (.int (at2 t a b)),some (.int (a:Int)),some (.int (b:Int)),some (zp (z9 t K a b)),some (.int (c:Int)),some (zt (t.getD c [])),f,Y]) (A:=[]) (A1:=[]) (ws:=(t.getD c []).map W.int) (zo rfl)));rw[hl3]at X;have E:turn (qD 5 6) K0 (.tup [.int (c:Int),zt (t.getD c [])]) [some (zp t),some (.int (at2 t a b)),some (.int (a:Int)),some (.int (b:Int)),some (zp (z9 t K a b)),s,o,f,Y] []=K0 [some (zp t),some (.int (at2 t a b)),some (.int (a:Int)),some (.int (b:Int)),some (zp (z9 t K a b)),some (.int (c:Int)),some (zt (t.getD c [])),f,Y] []:=yN rfl;rcases go with ⟨l,B,e,u,U,T,H⟩|⟨r,B,e,hQ⟩
     ·subst u H
      exact .inl ⟨_,[],E.trans ((zF (X.trans e)).trans qS),rfl,_,_,_,_,rfl⟩
     ·exact .inr ⟨r,B,E.trans (qf (X.trans e)),hQ⟩)
    (λ ρ B _=>by have:=gC (A:=B) (ws:=t.map zt);rw[v]at this;exact this) t.length 0 [some (zp t),some (.int (at2 t a b)),some (.int (a:Int)),some (.int (b:Int)),some (zp (z9 t K a b)),s,o,f,Y] [] (by omega) ⟨rfl,_,_,_,_,rfl⟩
   have E:∀g:Ex,turn (QS 1 2 3) g (.tup [.int (at2 t a b),.tup [.int (a:Int),.int (b:Int)]]) [some (zp t),M,L,J,w,s,o,f,Y] []=g [some (zp t),some (.int (at2 t a b)),some (.int (a:Int)),some (.int (b:Int)),w,s,o,f,Y] []:=λ g=>yN rfl;rcases go with ⟨l,B,e,u,y5',y6',U,T,H⟩|⟨r,B,e,hQ⟩
   ·subst u H
    exact .inl ⟨_,[],(E _).trans ((zF e1).trans ((zF ((yA hm).trans e)).trans qS)),rfl,_,_,_,_,_,_,_,_,rfl⟩
   ·exact .inr ⟨r,B,(E _).trans ((zF e1).trans (qf ((yA hm).trans e))),hQ⟩)
  (λ ρ B _=>by
   show some (kvs[kvs.length]?.map λ p=>W.tup [kW p.1,p.2])=_;rw[aC (ar _)]
   rfl) kvs.length 0 [some (zp t),none,none,none,none,none,none,none,none] [] (by omega) ⟨rfl,_,_,_,_,_,_,_,_,rfl⟩
 have hit:Z2 (zw g9 (zh (zc 0) zq)) [some (zp t),none,none,none,none,none,none,none,none] []=.ok (Qg kvs) []:=by
  unfold Z2;dsimp only;have ec:zw g9 (zh (zc 0) zq) [some (zp t),none,none,none,none,none,none,none,none] []=.ok (.ref 0) [.dct kvs]:=(zK (zA (zo rfl) zL)).trans (Gs (yJ t) ef rfl hf.nr);rw[ec,zM];exact af hf.nr
 rcases go with ⟨l,B,e,u,M,L,J,w,s,o,f,Y,H⟩|⟨r,B,e,u,a,b,c,d,hk,rfl⟩
 ·subst u H
  refine .inl λ A=>yn (A1:=[]) (yJ t) rfl (qt ?_);unfold Ye;exact(zF ((yA hit).trans e)).trans (qf (qB qv))
 ·subst u
  refine .inr ⟨a,b,c,d,hk,λ A=>yn (A1:=[]) (yJ t) rfl (qt ?_)⟩;unfold Ye;exact qf ((yA hit).trans e)
theorem Tq {x:W}(a:zQ t)(H:x.nr=true)(h:∀A,wM [zp t] A=.ok x A)(A:Hx):g8 [zp t] A=.ok x A:=by
 refine yn (A1:=[]) (yJ t) H (qt ?_);unfold Vz;exact(zF (jq ((zK (zA (zo rfl) zL)).trans (Zb a [])))).trans (qf (qB ((zK (zA (zo rfl) zL)).trans (h []))))
theorem Rm {x:W}(H:zQ t)(h:∀A,wM [zp t] A=.ok x A)(A:Hx):Za [zp t] A=.ok (.bl (QT x)) A:=by
 refine yn (A1:=[]) (yJ t) rfl (qt ?_);unfold V1;exact(zF (jq ((zK (zA (zo rfl) zL)).trans (Zb H [])))).trans (qf (qB ((zH ((zK (zA (zo rfl) zL)).trans (h [])) qv).trans (by cases x<;>rfl))))
theorem Ln {r:List Int}{N:Nat}(l:r.length<=8)(H:∀v∈r,0<=v/\v<(N:Int))(A:Hx):gZ [zt r,.int r.length,.int (N:Int)] A=.ok (.bl true) A:=by
 unfold gZ Yb;refine qt ?_;unfold K6;refine qf (qB ?_);refine(ka (A1:=A) ((zK (ws:=[zt r,.int r.length]) (A1:=A) rfl).trans (YO l A))).trans ?_;have e:=YM (cap:=[2]) (A:=A) (ρ:=[some (zt r),some (.int r.length),some (.int (N:Int))]) (ws:=r.map W.int) (me:=yc gk ZD (zj (.int 0)) (zc 0) (zc 1)) (g:=λ _=>.bl true) (zo (i:=0) rfl) (by rw[ah];unfold zX;omega) (λ w hw=>by
  obtain⟨v,h,rfl⟩:=qa6.mp hw;obtain⟨b,a⟩:=H v h;unfold yc;rw[qv,zM,zo (i:=0) (w:=.int v) rfl,zM];show R.bind (R.ok (W.bl (decide ((0:Int)<=v))) A) _=_;rw[aq b,zM];dsimp only;rw[zo (i:=1) (w:=.int (N:Int)) rfl,zM];show R.ok (W.bl (decide (v<(N:Int)))) A=_;rw[aq a])
 exact(j4 e).trans (JD (p:=λ _=>true) λ _ _=>rfl)
theorem Dt (H:zQ t)(n:z8 t=(K:Int))(h:Q7 t K a b c e)(A:Hx):Qv [zp t,gh a b c e] A=.ok (.bl true) A:=by
 obtain⟨⟨m,l,g,he⟩,q,z⟩:=h;refine yn (A1:=[]) (by show((zp t).nr&&true)=true;rw[yz];rfl) rfl (qt ?_)
 unfold Uo;refine(zF (jq ((zK (zA (zo rfl) zL)).trans (Zb H [])))).trans ?_;have E:=Ln (r:=[(a:Int),(b:Int),(c:Int),(e:Int)]) (N:=t.length) (by simp) (λ v f=>by
  simp only[mem_cons,not_mem_nil,or_false]at f;rcases f with rfl|rfl|rfl|rfl<;>omega) []
 refine(zF ((jj (wq (k:=true) ((zK (ws:=[gh a b c e,.int 4,.int (t.length:Int)]) (A1:=[]) (zA (zo rfl) (zA qv (zA (len_tab rfl) zL)))).trans E))).trans qS)).trans ?_;refine(zF (ρ1:=[some (zp t),some (gh a b c e),some (.int (a:Int)),some (.int (b:Int)),some (.int (c:Int)),some (.int (e:Int))]) (A1:=[]) (TM (w:=gh a b c e) (zo rfl) rfl)).trans (qf (qB ?_));have ix:∀(i j x y:Nat)(ρ:En),ρ[0]? =some (some (zp t))->ρ[i]? =some (some (.int (x:Int)))->ρ[j]? =some (some (.int (y:Int)))->x<t.length->y<t.length->zl zG (zl zG (zc 0) (zc i)) (zc j) ρ []=.ok (.int (at2 t x y)) []:=λ i j x y ρ h0 s p d o=>
  (zH ((zH (zo h0) (zo s)).trans (gG d)) (zo p)).trans (JN (by rw[H.sq _ (jE d)];exact o))
 refine(ka (A1:=[]) ((zH (ix 2 3 a b _ rfl rfl rfl m l) (ix 4 5 c e _ rfl rfl rfl g he)).trans ((gn _ _ _).trans (by rw[aq q])))).trans ?_
 refine(zH ((zK (zA (zo rfl) (zA (zo rfl) (zA (zo rfl) zL)))).trans (Zc H n m l [])) ((zK (zA (zo rfl) (zA (zo rfl) (zA (zo rfl) zL)))).trans (Zc H n g he []))).trans ?_;rw[R1,aA z]
 rfl
variable {C:Hx}{j:Nat}{x y z:W}{S:Nat->List (List Int)}
theorem RC {P:W->Prop}{F:Fn}{p q:Nat}(s:qp n A)(g:ρ[p]? =some (some (.ref n)))(f:ρ[q]? =some (some (.int (K:Int))))(hd:∀C,qp n C->∃w c,F [.ref n,.int (K:Int)] C=.ok w c/\P w/\Kn n C c):
  ∃(x y z:W) (B:Hx) (r:Nat),qh (zV 1 [p,q] (ja (zj (.int 3))) (zR 0) (zj (.bl true)) (zP (zw F (zh (zc 1) (zh (zc 2) zq))))) ρ A=.ok (.ref r) B/\B[r]? =some (.lst [x,y,z])/\(P x/\P y/\P z)/\Kn n A B:=by
 have hm:=wV (m:=zj (.int 3)) (ρ:=ρ) (A:=A) (A1:=A) (k:=3) qv (by decide)
 have t:([p,q].map λ i=>(ρ[i]?).join)=[some (.ref n),some (.int (K:Int))]:=by
  simp only[aO,map_nil,g,f]
  rfl
 obtain⟨b,acc,B,e,_,⟨l,H⟩,kn⟩:=ZP (nl:=1) (cap:=[p,q]) (tw:=zR 0) (ifs:=zj (.bl true)) (em:=zP (zw F (zh (zc 1) (zh (zc 2) zq)))) (N:=3)
  (I:=λ i ρ acc C=>(∃y,ρ=[y,some (.ref n),some (.int (K:Int))])/\(acc.length=i/\∀v∈acc,P v)/\Kn n A C) hm rfl
  (λ i ρ acc C o ⟨⟨y,a⟩,⟨l,H⟩,kn⟩=>by
   subst a;obtain⟨w,c,e,hw,d⟩:=hd C kn.st;refine⟨_,_,wB o,rfl,.inl ⟨C,_,_,c,rfl,ZU ((zK (zA (zo rfl) (zA (zo rfl) zL))).trans e) (by unfold zX;omega),⟨_,rfl⟩,⟨by rw[aE,l];rfl,λ v h=>?_⟩,kn.trans d⟩⟩
   rcases List.mem_append.mp h with h|h
   ·exact H v h
   ·rw[qa7.mp h];exact hw)
  (λ ρ acc C _=>wg (by omega)) (by
   show(∃y,none::([p,q].map λ i=>(ρ[i]?).join)=[y,some (.ref n),some (.int (K:Int))])/\_;rw[t];exact⟨⟨_,rfl⟩,⟨rfl,λ v h=>by cases h⟩,⟨Kp.refl,s⟩⟩)
 obtain⟨i,j,k,rfl⟩:∃i j k,acc=[i,j,k]:=by
  match acc,l with
  |[i,j,k],_=>exact⟨i,j,k,rfl⟩
 exact⟨i,j,k,_,B.length,kO e,j0,⟨H i (by simp),H j (by simp),H k (by simp)⟩,kn.trans (Kn.ext kn.st Ext.one)⟩
theorem C6 (f:zQ t)(s:jP t)(l:z8 t=(K:Int))(H:a<t.length)(j:k<K):∃b,b<t.length/\at2 t a b=(k:Int):=by
 obtain⟨c,b,h,g,e⟩:=Zn f (v:=k) (by omega)
 have p:=s a a c c H H h h (by rw[(f.dg a a H H).mpr rfl,(f.dg c c h h).mpr rfl])
 have hm:((k:Int),(k:Int))∈k9 t c c:=by
  unfold k9;exact qa6.mpr ⟨b,qa5.mpr g,by rw[e]⟩
 obtain⟨d,hd,E⟩:=qa6.mp (p.mem_iff.mpr hm);injection E with i _
 exact⟨d,qa5.mp hd,i⟩
theorem Fq (H:zQ t)(s:jP t)(i:z8 t=(K:Int))(g:a<t.length)(c:k<K):∃b,b<t.length/\at2 t a b=(k:Int)/\((Z9 t a k).map W.int)[0]? =some (.int (b:Int)):=by
 obtain⟨b,f,e⟩:=C6 H s i g c;have hm:b∈(List.range t.length).filter λ b=>decide (at2 t a b=(k:Int)):=List.mem_filter.mpr ⟨qa5.mpr f,aq e⟩;unfold Z9;cases h:(List.range t.length).filter λ b=>decide (at2 t a b=(k:Int)) with
 |nil=>rw[h]at hm;cases hm|cons d l=>
  have hd:d∈(List.range t.length).filter λ b=>decide (at2 t a b=(k:Int)):=by rw[h];exact aG ..
  obtain⟨m,j⟩:=List.mem_filter.mp hd;exact⟨d,qa5.mp m,of_decide_eq_true j,rfl⟩
theorem R9 (t:List (List Int))(a i:Nat):0<=nb t a i/\nb t a i<=(t.length:Int):=by
 unfold nb;generalize t.length=n
 induction n with
 |zero=>exact⟨Int.le_refl _,Int.le_refl _⟩|succ n I=>
  rw[yZ]
  by_cases h:at2 t a n=(i:Int)
  ·rw[af h];omega
  ·rw[aj h];omega
theorem call_num {p q r:Nat}(h:zQ t)(s:jP t)(m:z8 t=(K:Int))(l:∀a b,a<t.length->b<t.length->z9 t K a b=S (at2 t a b).toNat)(n:ρ[1]? =some (some (zp t)))(d:ρ[p]? =some (some (.int (i:Int))))(c:ρ[q]? =some (some (.int (j:Int))))(H:ρ[r]? =some (some (.int (k:Int))))(g:i<K)(f:j<K)(e:k<K)(A:Hx):zw JA (zh (zc 1) (zh (zc p) (zh (zc q) (zh (zc r) zq)))) ρ A=.ok (.int (at2 (S k) i j)) A:=
 (zK (zA (zo n) (zA (zo d) (zA (zo c) (zA (zo H) zL))))).trans (IC h s m l g f e A)
theorem M0 (st:qp 0 [o])(H:zQ t)(s:jP t):∃B,K4 [.ref 0,zp t] [o]=.ok (.bl true) B/\qp 0 B:=by
 have kb:=yo H;have n1:=H.n1;have n8:=H.n8;obtain⟨K,d⟩:=aN (show 0<=z8 t by omega)
 obtain⟨S,E⟩:=Tp H s K;have X:=Gu (t:=t) (K:=K);have Z:∀k,k<K->((jD t K).map W.int)[k]? =some (.int (nb t 0 k)):=λ k c=>by rw[int_at (by rw[X];exact c),Rk H c]
 have s1:qp 0 ([o]++[.lst ((jD t K).map W.int)]):=st.ext Ext.one;obtain⟨x,y,z,B,r,e3,hr,⟨⟨i,rfl,f⟩,⟨j,rfl,L⟩,⟨k,rfl,c⟩⟩,k3⟩:=RC (P:=Ok K) (F:=jM) (p:=0) (q:=3) (K:=K) (ρ:=[some (.ref 0),some (zp t),some (.ref 1),some (.int (K:Int)),none,none,none,none,none]) s1 rfl rfl (λ C sC=>by
  obtain⟨v,C',e,hv,kn,_⟩:=GC sC (m:=(K:Int)) (by omega) (by omega)
  exact⟨_,C',e,⟨v,rfl,by omega⟩,kn⟩)
 have z3:B[1]? =some (.lst ((jD t K).map W.int)):=k3.kp.get (by rfl) (by decide)
 obtain⟨a,C,e4,ha,k4,_⟩:=ZY (ρ:=[some (.ref 0),some (zp t),some (.ref 1),some (.int (K:Int)),some (.int (i:Int)),some (.int (j:Int)),some (.int (k:Int)),none,none]) (me:=mQ qK (qb (zc 1))) (m:=(t.length:Int)) k3.st rfl (len_tab rfl) (by omega) (by omega)
 have z4:C[1]? =some (.lst ((jD t K).map W.int)):=k4.kp.get z3 (by decide)
 have u:a<t.length:=by omega
 obtain⟨b,hb,eb,hb0⟩:=Fq H s d u c;have e5:=EK H d u c C;generalize hD:C++[O.lst ((Z9 t a k).map W.int)]=D at e5;have Y:D[1]? =some (.lst ((jD t K).map W.int)):=by rw[<- hD];exact yP z4
 have sD:qp 0 D:=by rw[<- hD];exact k4.st.ext Ext.one
 have e5':zl zG (zw Jq (zh (zc 1) (zh (zc 7) (zh (zc 6) zq)))) (zj (.int 0)) [some (.ref 0),some (zp t),some (.ref 1),some (.int (K:Int)),some (.int (i:Int)),some (.int (j:Int)),some (.int (k:Int)),some (.int (a:Int)),none] C=.ok (.int (b:Int)) D:=
  (zH ((zK (zA (zo rfl) (zA (zo rfl) (zA (zo rfl) zL)))).trans e5) (qv (w:=.int 0))).trans (y9 (s:=0) (by rw[<- hD];exact j0) hb0)
 refine⟨D,qt ?_,sD⟩;unfold XO;refine(zF (ρ1:=[some (.ref 0),some (zp t),some (.ref 1),some (.int (K:Int)),none,none,none,none,none]) (A1:=[o]++[.lst ((jD t K).map W.int)]) (TM (YR (zA ((zK (zA (zo rfl) zL)).trans (FC H s d [o])) (zA ((zK (zA (zo rfl) zL)).trans ((S6 H _).trans (by rw[d]))) zL))) rfl)).trans ?_
 refine(zF ((jj (A1:=[o]++[.lst ((jD t K).map W.int)]) ?_).trans qS)).trans ?_
 ·have q1:mQ kX (qb (zc 2)) [some (.ref 0),some (zp t),some (.ref 1),some (.int (K:Int)),none,none,none,none,none] ([o]++[.lst ((jD t K).map W.int)])=.ok (.int (t.length:Int)) ([o]++[.lst ((jD t K).map W.int)]):=by
   rw[j4 (yG (w:=.ref 1) (zo rfl) rfl),Gi,Fd H d]
  refine(w9 (A1:=[o]++[.lst ((jD t K).map W.int)]) ((zH q1 (len_tab rfl)).trans ((Qj _ _ _).trans (by rw[aq rfl];rfl)))).trans ?_
  refine(w9 (A1:=[o]++[.lst ((jD t K).map W.int)]) ((zH ((zH (zo rfl) (qv (w:=.int 0))).trans (y9 (n:=1) (s:=0) rfl (Z 0 (by omega)))) qv).trans ((Qj _ _ _).trans (by rw[Hv H];rfl)))).trans ?_
  have q3:mQ qK (qb (zc 2)) [some (.ref 0),some (zp t),some (.ref 1),some (.int (K:Int)),none,none,none,none,none] ([o]++[.lst ((jD t K).map W.int)])=.ok (.int (K:Int)) ([o]++[.lst ((jD t K).map W.int)]):=by
   rw[j4 (yG (w:=.ref 1) (zo rfl) rfl)];unfold qK;rw[ah,X]
  exact(zH q3 (zo rfl)).trans ((Qj _ _ _).trans (by rw[aq rfl];rfl))
 refine(zF (ρ1:=[some (.ref 0),some (zp t),some (.ref 1),some (.int (K:Int)),some (.int (i:Int)),some (.int (j:Int)),some (.int (k:Int)),none,none]) (A1:=B) (Sl e3 hr)).trans ?_;refine(zF (ρ1:=[some (.ref 0),some (zp t),some (.ref 1),some (.int (K:Int)),some (.int (i:Int)),some (.int (j:Int)),some (.int (k:Int)),some (.int (a:Int)),none]) (A1:=C) ((qC e4).trans rfl)).trans ?_;refine(zF (ρ1:=[some (.ref 0),some (zp t),some (.ref 1),some (.int (K:Int)),some (.int (i:Int)),some (.int (j:Int)),some (.int (k:Int)),some (.int (a:Int)),some (.int (b:Int))]) (A1:=D) ((qC e5').trans rfl)).trans ?_;generalize h:([some (.ref 0),some (zp t),some (.ref 1),some (.int (K:Int)),some (.int (i:Int)),some (.int (j:Int)),some (.int (k:Int)),some (.int (a:Int)),some (.int (b:Int))]:En)=ρ;have U:ρ[1]? =some (some (zp t)):=by subst h;rfl
 have r2:ρ[2]? =some (some (.ref 1)):=by subst h;rfl
 have r3:ρ[3]? =some (some (.int (K:Int))):=by subst h;rfl
 have J:ρ[4]? =some (some (.int (i:Int))):=by subst h;rfl
 have T:ρ[5]? =some (some (.int (j:Int))):=by subst h;rfl
 have Q:ρ[6]? =some (some (.int (k:Int))):=by subst h;rfl
 have r7:ρ[7]? =some (some (.int (a:Int))):=by subst h;rfl
 have r8:ρ[8]? =some (some (.int (b:Int))):=by subst h;rfl
 have n1:=call_num H s d E U J T Q f L c D;have I:z9 t K a b=S k:=by rw[E a b u hb,eb,aw]
 have hln:(S k).length=K:=by rw[<- I];unfold z9;exact Zd
 have hrw:∀r∈S k,r.length=K:=by rw[<- I];unfold z9;intro r hr;rw[JI r hr,Zd]
 refine(zF ((jj (A1:=D) ?_).trans qS)).trans ?_
 ·have q:zl zG (zl zG (zw Yt (zh (zc 1) (zh (zc 7) (zh (zc 8) zq)))) (zc 4)) (zc 5) ρ D=.ok (.int (at2 (S k) i j)) D:=by
   refine(zH ((zH ((zK (zA (zo U) (zA (zo r7) (zA (zo r8) zL)))).trans ((LP H d u hb D).trans (by rw[I]))) (zo J)).trans (gG (by omega))) (zo T)).trans (JN ?_)
   rw[hrw _ (jE (by omega))]
   exact L
  exact(zH n1 q).trans ((Qj _ _ _).trans (by rw[aq rfl];rfl))
 refine(zF ((jj (A1:=D) ?_).trans qS)).trans ?_
 ·have hm:=wV (m:=zc 3) (ρ:=ρ) (A:=D) (A1:=D) (k:=(K:Int)) (zo r3) (wd (by omega))
  rw[aw]at hm;have hc:([1,4,6].map λ i=>(ρ[i]?).join)=[some (zp t),some (.int (i:Int)),some (.int (k:Int))]:=by subst h;rfl
  have ec:=wQ (cap:=[1,4,6]) (me:=zw JA (zh (zc 1) (zh (zc 2) (zh (zc 0) (zh (zc 3) zq))))) (ρ:=ρ) (A:=D) (N:=K) (item:=λ i=>.int (0+(i:Int))) (g:=λ l=>.int (at2 (S k) i l)) hm rfl (by unfold zX;omega) (λ i f=>wB f) (wg (by omega)) (λ l X=>by
   rw[hc,bA];exact call_num H s d E rfl rfl rfl rfl f X c D)
  have q:=j4 (g:=kX) ec;have hh:((List.range K).map λ l=>W.int (at2 (S k) i l))=((List.range K).map λ l=>at2 (S k) i l).map W.int:=by rw[aP];rfl
  rw[hh,Gi]at q;have M:((List.range K).map λ l=>at2 (S k) i l).sum=nb t 0 i:=Hr E H s d c f;rw[M]at q;exact(zH q ((zH (zo r2) (zo J)).trans (y9 Y (Z i f)))).trans ((Qj _ _ _).trans (by rw[aq rfl];rfl))
 refine(zF ((jj (A1:=D) ?_).trans qS)).trans ?_
 ·exact(zH n1 (call_num H s d E U T J Q L f c D)).trans ((Qj _ _ _).trans (by rw[aq (IY E H d c f L)];rfl))
 refine qf (qB ?_);have b1:=R9 t 0 k;have b2:=R9 t 0 i;have m1:=(zH ((zH (zo (A:=D) r2) (zo Q)).trans (y9 Y (Z k c))) n1).trans (GJ (A:=D) (by omega) (by omega))
 have m2:=(zH ((zH (zo (A:=D) r2) (zo J)).trans (y9 Y (Z i f))) (call_num H s d E U Q T J c L f D)).trans (GJ (A:=D) (by omega) (by omega))
 exact(zH m1 m2).trans ((gn _ _ _).trans (by rw[aq (LI E H f L c)]))
theorem La (s:qp n A)(g:zQ t)(h:jP t):∃B,ZG [.ref n,zp t] A=.ok (.bl true) B/\Kn n A B:=by
 obtain⟨c,b,d,i,j⟩:=s;have hm:=kB d;obtain⟨A1,e,⟨C,f,E,H,a⟩⟩:=M0 (o:=.lst [.int c,.bl b]) ⟨c,b,rfl,i,j⟩ g h;refine⟨A.set n (.lst [.int C,.bl f]),?_,⟨Kp.set,C,f,aF hm,H,a⟩⟩;unfold ZG;exact JB d (by show((zp t).nr&&true)=true;rw[yz];rfl) e E rfl
end
section
variable {B C:Hx}{b c e K:Nat}{x y z:List Int}{S:Nat->List (List Int)}
theorem ET (h:zQ t)(a:z8 t=(K:Int))(H:x.length=K)(A:Hx):W9 [zp t,zt x] A=.ok (.bl true) A:=by
 have b:=yo h;refine yn (A1:=[]) (by show((zp t).nr&&((zt x).nr&&true))=true;rw[yz,kC];rfl) rfl (qt ?_)
 unfold Tr;refine(zF (jq ((zK (zA (zo rfl) zL)).trans (Zb h [])))).trans (qf (qB ?_));refine(zK (ws:=[zt x,.int (x.length:Int)]) (A1:=[]) (zA (zo rfl) (zA ((zK (zA (zo rfl) zL)).trans ((Z0 h []).trans (by rw[a,H]))) zL))).trans (YO (by omega) [])
def Mx (K:Nat)(w:W):Prop:=∃x:List Int,w=zt x/\x.length=K/\Sm x
theorem Hi (st:qp 0 [o])(h:zQ t)(s:jP t):∃B,K5 [.ref 0,zp t] [o]=.ok (.bl true) B/\qp 0 B:=by
 have kb:=yo h;obtain⟨K,H⟩:=aN (show 0<=z8 t by omega)
 obtain⟨S,c⟩:=Tp h s K;obtain⟨wx,wy,wz,D,r,e1,U,⟨⟨x,rfl,a,f⟩,⟨y,rfl,b,sy⟩,⟨z,rfl,i,sz⟩⟩,N⟩:=RC (P:=Mx K) (F:=Jp) (p:=0) (q:=2) (K:=K) (ρ:=[some (.ref 0),some (zp t),some (.int (K:Int)),none,none,none,none,none]) st rfl rfl (λ C L=>by
  obtain⟨x,C',e,d,Y,kn⟩:=D6 (K:=K) L (by omega)
  exact⟨_,C',e,⟨x,rfl,d,Y⟩,kn⟩)
 have I:(e0 K).length=K:=by unfold e0;rw[bc,bb];omega
 have prod:∀{u v:List Int}{ma mb:Ev}{ρ:En},ρ[1]? =some (some (zp t))->ma ρ D=.ok (zt u) D->mb ρ D=.ok (zt v) D->u.length=K->v.length=K->Gd u v->zw Yz (zh (zc 1) (zh ma (zh mb zq))) ρ D=.ok (zt (pv K S u v)) D:=λ d l j E A g=>
  (zK (zA (zo d) (zA l (zA j zL)))).trans (E6 h s H c E A g D)
 have add:∀{u v:List Int}{ma mb:Ev}{ρ:En},ρ[1]? =some (some (zp t))->ma ρ D=.ok (zt u) D->mb ρ D=.ok (zt v) D->u.length=K->v.length=K->zw YS (zh (zc 1) (zh ma (zh mb zq))) ρ D=.ok (zt (av u v)) D:=λ d l j E A=>
  (zK (zA (zo d) (zA l (zA j zL)))).trans (HX h s H E A D)
 have pow:∀(m:Nat){ρ:En},m<=8->ρ[1]? =some (some (zp t))->ρ[3]? =some (some (zt x))->zw YU (zh (zc 1) (zh (zc 3) (zh (zj (.int (m:Int))) zq))) ρ D=.ok (zt (pw K S x m)) D:=λ m ρ hm d X=>
  (zK (zA (zo d) (zA (zo X) (zA qv zL)))).trans (FI h s H c a f hm D)
 have J:pw K S x 1=x:=RD h H c a;have M:pw K S x 2=pv K S x x:=by show pv K S (pw K S x 1) x=_;rw[J]
 have ne:∀{u v:List Int}{ma mb:Ev}{ρ:En},ma ρ D=.ok (zt u) D->mb ρ D=.ok (zt v) D->u=v->zl qw ma mb ρ D=.ok (.bl false) D:=λ l j q=>(zH l j).trans ((Bd _ _ _).trans (by rw[aq q];rfl))
 refine⟨D,qt ?_,N.st⟩;unfold XS;refine(zF (ρ1:=[some (.ref 0),some (zp t),some (.int (K:Int)),none,none,none,none,none]) (A1:=[o]) ((qC ((zK (zA (zo rfl) zL)).trans ((S6 h _).trans (by rw[H])))).trans rfl)).trans ?_
 refine(zF (ρ1:=[some (.ref 0),some (zp t),some (.int (K:Int)),some (zt x),some (zt y),some (zt z),none,none]) (A1:=D) (Sl e1 U)).trans ?_;refine(zF (ρ1:=[some (.ref 0),some (zp t),some (.int (K:Int)),some (zt x),some (zt y),some (zt z),some (zt (pv K S x y)),none]) (A1:=D) ((qC (prod rfl (zo rfl) (zo rfl) a b (Qe f.sn))).trans rfl)).trans ?_;refine(zF ((jj (A1:=D) ?_).trans qS)).trans ?_
 ·refine(w9 (A1:=D) ((zH ((zK (zA (zo rfl) (zA (zo rfl) zL))).trans (ET h H yO D)) qv).trans rfl)).trans ?_
  exact ne (prod rfl (zo rfl) (zo rfl) b a (Qe sy.sn)) (zo rfl) (Fg h H c)
 refine(zF ((jj (A1:=D) ?_).trans qS)).trans ?_
 ·exact ne (prod rfl (zo rfl) (zo rfl) yO i (Xi sz.sn)) (prod rfl (zo rfl) (prod rfl (zo rfl) (zo rfl) b i (Qe sy.sn)) a yO (Qe f.sn)) (IU h H c)
 refine(zF ((jj (A1:=D) ?_).trans qS)).trans ?_
 ·exact ne (prod rfl (zo rfl) (add rfl (zo rfl) (zo rfl) b i) a (by rw[Rv,b]) (Qe f.sn)) (add rfl (zo rfl) (prod rfl (zo rfl) (zo rfl) a i (Qe f.sn)) yO yO) (Eh h H c b i)
 refine(zF ((jj (A1:=D) ?_).trans qS)).trans ?_
 ·refine(w9 (A1:=D) (ne (pow 2 (by decide) rfl rfl) (prod rfl (zo rfl) (zo rfl) a a (Qe f.sn)) M)).trans ?_
  exact ne (pow 1 (by decide) rfl rfl) (zo rfl) J
 refine(zF (ρ1:=[some (.ref 0),some (zp t),some (.int (K:Int)),some (zt x),some (zt y),some (zt z),some (zt (pv K S x y)),some (zt (e0 K))]) (A1:=D) ((qC (pow 0 (by decide) rfl rfl)).trans rfl)).trans (qf (qB ?_))
 refine(ka (A1:=D) ((zH (prod rfl (zo rfl) (zo rfl) I b (Xi sy.sn)) (zo rfl)).trans ((Ph _ _ _).trans (by rw[aq (RD h H c b)])))).trans ?_
 have em:zl Zu (jb (zh (zj (.int 0)) zq)) (zl jt (zc 2) (zj (.int 1))) [some (.ref 0),some (zp t),some (.int (K:Int)),some (zt x),some (zt y),some (zt z),some (zt (pv K S x y)),some (zt (e0 K))] D=.ok (.tup (List.replicate (K - 1) [W.int 0]).flatten) D:=by
  have T:zl jt (zc 2) (zj (.int 1)) [some (.ref 0),some (zp t),some (.int (K:Int)),some (zt x),some (zt y),some (zt z),some (zt (pv K S x y)),some (zt (e0 K))] D=.ok (.int ((K - 1:Nat):Int)) D:=by
   refine(zH (zo rfl) qv).trans ?_;show R.ok (W.int ((K:Int) - 1)) _=_
   congr 2
   omega
  refine(zH (YR (zA qv zL)) T).trans ?_;unfold Zu;dsimp only;rw[af (by simp only[ao,ag];exact⟨by omega,by omega,by simp,by simp⟩),aw]
 have n:∀m:Nat,(List.replicate m [W.int 0]).flatten=List.replicate m (W.int 0):=λ m=>by
  induction m with
  |zero=>rfl|succ m Q=>rw[a7,aS,Q];rfl
 rw[n]at em;have Z:=(zH (YR (zA (qv (w:=.int 1)) zL)) em).trans (show qE (.tup [.int 1]) (.tup (List.replicate (K - 1) (W.int 0))) D=.ok (zt (e0 K)) D by
  unfold qE;dsimp only;rw[af (by rw[bb];unfold zX;simp;omega)]
  unfold e0 zt;rw[aO,List.map_replicate]
  rfl)
 exact(zH (zo rfl) Z).trans ((Ph _ _ _).trans (by rw[aq rfl]))
theorem Hf (s:qp n A)(g:zQ t)(h:jP t):∃B,ZH [.ref n,zp t] A=.ok (.bl true) B/\Kn n A B:=by
 obtain⟨c,b,d,i,j⟩:=s;have hm:=kB d;obtain⟨A1,e,⟨C,f,E,H,a⟩⟩:=Hi (o:=.lst [.int c,.bl b]) ⟨c,b,rfl,i,j⟩ g h;refine⟨A.set n (.lst [.int C,.bl f]),?_,⟨Kp.set,C,f,aF hm,H,a⟩⟩;unfold ZH;exact JB d (by show((zp t).nr&&true)=true;rw[yz];rfl) e E rfl
end
section
variable {B:Hx}{k:Nat}
abbrev BL:Ex:=zr (zY 2 (zw Qs (zh (zc 0) (zh (zc 1) zq)))) (zr (zY 3 (zw wN (zh (zc 2) zq))) (zr (ql (yj (zl (jL true) (zw gv (zh (zc 3) zq)) (zj (.bl true))) (yj (zl (jL true) (zw Za (zh (zc 3) zq)) (zj (.bl true))) (zl (jL true) (zw g8 (zh (zc 3) zq)) (zj .non)))) (zr (zT (zj (.bl false))) zx) zx) (zr (ql (yj (yu (zw ZG (zh (zc 2) (zh (zc 3) zq)))) (yu (zw ZH (zh (zc 2) (zh (zc 3) zq))))) (zr (zT (zj (.bl false))) zx) zx) (zr (zY 4 (zw ZL (zh (zc 2) zq))) (zr (zY 5 (zw g8 (zh (zc 4) zq))) (zr (ql (yj (zl qw (zw Za (zh (zc 4) zq)) (zl (jL false) (zc 5) (zj .non))) (jz (zl (jL true) (zc 5) (zj .non)) (zl (jL true) (zw Qv (zh (zc 4) (zh (zc 5) zq))) (zj (.bl true))))) (zr (zT (zj (.bl false))) zx) zx) zx))))))
theorem Xv (b:Bool)(A:Hx):qw (.bl b) (.bl b) A=.ok (.bl false) A:=by cases b<;>rfl
theorem Ff {x2 x3 x4 x5:Option W}(h0:A[0]? =some (.ro (ns.map W.int))):∃w v Y y B,BL [some (.ref 0),some (.int (k:Int)),x2,x3,x4,x5] A=.ok (.nx [some (.ref 0),some (.int (k:Int)),w,v,Y,y]) B/\B[0]? =some (.ro (ns.map W.int)):=by
 obtain⟨o,E,s1⟩:=HD h0 k;have hn:=kB h0;have p:(A++[o])[0]? =some (.ro (ns.map W.int)):=yP h0;generalize I:A++[o]=A1 at E s1 p;generalize A.length=n at E s1 hn;obtain⟨t,A2,Q,H,kn,l,_⟩:=Sa s1;have st:=OS kn;obtain⟨T,P,j⟩:=La l.st H st;obtain⟨S,N,i⟩:=Hf j.st H st;obtain⟨u,d,M,f,C⟩:=E2 i.st;have z:=((l.trans j).trans i).trans C;have J:=z.kp.get p (by omega)
 have U:=yo f;obtain⟨K,m⟩:=aN (show 0<=z8 u by omega)
 obtain⟨x,D,s,r⟩:∃x:W,x.nr=true/\(∀A,wM [zp u] A=.ok x A)/\((x=.non)∨∃a b c e,x=gh a b c e/\Q7 u K a b c e):=by
  rcases Nx f m with h|⟨a,b,c,e,g,h⟩
  ·exact⟨.non,rfl,h,.inl rfl⟩
  ·exact⟨_,rfl,h,.inr ⟨a,b,c,e,rfl,g⟩⟩
 refine⟨some (.ref n),some (zp t),some (zp u),some x,d,?_,J⟩;refine(zF (ρ1:=[some (.ref 0),some (.int (k:Int)),some (.ref n),x3,x4,x5]) (A1:=A1) ((qC ((zK (zA (zo rfl) (zA (zo rfl) zL))).trans E)).trans rfl)).trans ?_;refine(zF (ρ1:=[some (.ref 0),some (.int (k:Int)),some (.ref n),some (zp t),x4,x5]) (A1:=A2) ((qC ((zK (zA (zo rfl) zL)).trans Q)).trans rfl)).trans ?_;refine(zF ((jj (A1:=A2) ?_).trans qS)).trans ?_
 ·refine(w9 (A1:=A2) ((zH ((zK (zA (zo rfl) zL)).trans (TL H A2)) qv).trans rfl)).trans ?_
  refine(w9 (A1:=A2) ((zH ((zK (zA (zo rfl) zL)).trans (Rm H (W0 H st) A2)) qv).trans rfl)).trans ?_;exact(zH ((zK (zA (zo rfl) zL)).trans (Tq H rfl (W0 H st) A2)) qv).trans rfl
 refine(zF ((jj (A1:=S) ?_).trans qS)).trans ?_
 ·refine(w9 (A1:=T) (wq (k:=true) ((zK (zA (zo rfl) (zA (zo rfl) zL))).trans P))).trans ?_
  exact wq (k:=true) ((zK (zA (zo rfl) (zA (zo rfl) zL))).trans N)
 refine(zF (ρ1:=[some (.ref 0),some (.int (k:Int)),some (.ref n),some (zp t),some (zp u),x5]) (A1:=d) ((qC ((zK (zA (zo rfl) zL)).trans M)).trans rfl)).trans ?_;refine(zF (ρ1:=[some (.ref 0),some (.int (k:Int)),some (.ref n),some (zp t),some (zp u),some x]) (A1:=d) ((qC ((zK (zA (zo rfl) zL)).trans (Tq f D s d))).trans rfl)).trans ?_;refine(zF ((jj (A1:=d) ?_).trans qS)).trans qS;have L:zl (jL false) (zc 5) (zj .non) [some (.ref 0),some (.int (k:Int)),some (.ref n),some (zp t),some (zp u),some x] d=.ok (.bl (QT x)) d:=(zH (zo rfl) qv).trans (by cases x<;>rfl)
 have q:zl (jL true) (zc 5) (zj .non) [some (.ref 0),some (.int (k:Int)),some (.ref n),some (zp t),some (zp u),some x] d=.ok (.bl (!QT x)) d:=(zH (zo rfl) qv).trans (by cases x<;>rfl)
 refine(w9 (A1:=d) ((zH ((zK (zA (zo rfl) zL)).trans (Rm f s d)) L).trans (Xv _ _))).trans ?_;rcases r with rfl|⟨a,b,c,e,rfl,g⟩
 ·exact QK q
 ·exact(ka q).trans ((zH ((zK (zA (zo rfl) (zA (zo rfl) zL))).trans (Dt f m g d)) qv).trans rfl)
end
def G6:Fn:=qk 6 (G7 wN ZH ZG Qs ZL g8 Qv Za gv)
theorem Ls:RA G6:=λ ns p=>by
 have s:qa (.ref 0) [.ro (ns.map W.int)]=some (ns.map W.int):=rfl;have E:mQ qK (qb (zc 0)) [some (.ref 0),none,none,none,none,none] [.ro (ns.map W.int)]=.ok (.int ns.length) [.ro (ns.map W.int)]:=by
  rw[j4 (yG (w:=.ref 0) (A1:=[.ro (ns.map W.int)]) (zo rfl) s)];unfold qK;rw[ah]
 have em:zl G1 (zj (.int 1)) (zl Zr (mQ qK (qb (zc 0))) (zj (.int 4))) [some (.ref 0),none,none,none,none,none] [.ro (ns.map W.int)]=
   .ok (.int (if (if (4:Int)<ns.length then 4 else(ns.length:Int)) > 1 then(if (4:Int)<ns.length then 4 else(ns.length:Int)) else 1)) [.ro (ns.map W.int)]:=
  (zH (qv (w:=.int 1)) ((zH E (qv (w:=.int 4))).trans rfl)).trans rfl
 generalize g:(if (if (4:Int)<ns.length then 4 else(ns.length:Int)) > 1 then(if (4:Int)<ns.length then 4 else(ns.length:Int)) else 1)=v at em;have H:jo v=true:=by
  have:0<=v/\v<1000:=by
   rw[<- g]
   split<;>split<;>omega
  obtain⟨k,rfl⟩:=aN this.1;exact O9 (by omega)
 obtain⟨f,B,e,_⟩:=wR (j:=yV 0 v.toNat) (st:=turn (zR 1) BL) (N:=v.toNat) (I:=λ _ ρ B=>B[0]? =some (.ro (ns.map W.int))/\∃d b a Y y,ρ=[some (.ref 0),d,b,a,Y,y])
  (λ i ρ B l ⟨h0,d,b,a,Y,y,h⟩=>by
   subst h;obtain⟨o,n,Z,z,m,e,c⟩:=Ff (k:=i) (x2:=b) (x3:=a) (x4:=Y) (x5:=y) h0;refine⟨_,_,m,wB l,(yN (ρ1:=[some (.ref 0),some (.int (i:Int)),b,a,Y,y]) ?_).trans e,c,_,_,_,_,_,rfl⟩;rw[bA];rfl)
  (λ ρ B _=>wg (by omega)) v.toNat 0 [some (.ref 0),none,none,none,none,none] [.ro (ns.map W.int)] (by omega) ⟨rfl,_,_,_,_,_,rfl⟩
 refine⟨B,qt ?_⟩;unfold G7;exact(zF ((yA (wV em H)).trans e)).trans (qf (qB qv))
section
variable {K:Frag}
theorem Dc (Z:Zz K h mg){f:Addr}(F:gm K "law" "law" Ko f fd):yt P w K mg base k6 9 f fd ["_law_script"] (gY K 1 G6):=
 o_law (k:=8) Z.B F (WE Z).up (PJ Z).up (PC Z).up (OK Z).up (OV Z).up (Ow Z).up (NP Z).up (O7 Z).up (Uw Z).up
theorem all_mk {l:PySem.W.OpenLaw}{b:Addr}(X:K.In h)(Gl:h.Ns mainGlobals mg)(H:mg "law" = some (.ref b))(T:Tx K):
  ∃fd:FuncData,(∀(s:Shared)(v:Value),BindsTo s fd ⟨[v],[]⟩ [("_law_script",v)])/\∀base:Heap,K.In base->base.Ns mainGlobals mg->yt l.prog w K mg base k6 9 b fd ["_law_script"] (gY K 1 G6):=by
 obtain⟨f,fd,F,a⟩:=T.DN;have e:=H.symm.trans (aV X Gl a);cases e;obtain⟨i,g,kV,doc,pm,an,c,ct,o,rfl,L,d⟩:=id F.ex;exact⟨_,λ s v=>.of_eq rfl,λ base j nb=>Dc (zz X Gl T) F⟩
end
end G
namespace PySem.W.Fast
def tw14368842594034225837:Nat:=0
def tw5704240380839139488:Nat:=0
def tw15197488903364295699:Nat:=0
def tw8809552905505655775:Nat:=0
def tw2592508229744859407:Nat:=0
def tw3990342694277358325:Nat:=0
def tw7615412831034761407:Nat:=0
def tw6835484939966083774:Nat:=0
def tw310513776296404216:Nat:=0
def tw11084470538802041063:Nat:=0
def tw11573302136930772918:Nat:=0
def tw14393321604280198777:Nat:=0
def tw6143013017378135647:Nat:=0
def tw8463666261635997836:Nat:=0
def tw4054463830278142130:Nat:=0
def tw11652404541908801050:Nat:=0
def tw12442341036022556983:Nat:=0
def tw15669871724875513749:Nat:=0
def tw17816884086551899193:Nat:=0
def tw4335584312934273561:Nat:=0
def tw11986955586563892077:Nat:=0
def tw8974559845182646231:Nat:=0
def tw6495570199456596513:Nat:=0
def tw8292999017920495158:Nat:=0
def tw9211233600741657692:Nat:=0
end PySem.W.Fast
open PySem PySem.W PyProof.Rows
set_option maxRecDepth 100000 in
set_option maxHeartbeats 0 in
theorem PySem.Challenge.cw_nearkinds_k07_whole_steady_tables_holds : PySem.Challenge.rw_nearkinds_k07_whole_steady_tables.Holds := by
 w_on;o_law;k_head;(case hw=>w_witness2)
 k_fill
 refine Mi.CB (l:=PySem.Challenge.rw_nearkinds_k07_whole_steady_tables) (k:=9) (x := "_law_script") G.Ls rfl rfl ⟨rfl,by decide,by decide⟩ (λ w h Y=>PySem.W.kIn_of Y) ?F
 case F=>
  intro w mg fa h KX Gl hmg;have T:G.Tx (L2.Pm KX):=by
   dsimp only [L2.Pm]
   apply G.Tx.mk<;>first | (refine' Mi.Ck ?a ?l ?c ?k;(case a=>k_is);(case l=>k_is);(case c=>k_is);(case k=>k_is)) | (refine' Mi.Cm ?a;(case a=>k_is)) | k_is|kernel_rfl
  exact G.all_mk KX Gl hmg T
