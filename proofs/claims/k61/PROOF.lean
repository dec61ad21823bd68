import PyProof.Rows.All
import Wide.All
import OpenK.AllK
import Wide.FinOn
import Lean
import PyProof.EqAt
import PyProof.EqKinds
import PyProof.TupleCall
import OpenK.KOwn
import PyProof.Rows.FStr
import PyProof.FString
import PyProof.NsDelKeeps
import KE.KIsAll
import PyProof.ExcArgs
import KE.KLam
import KE.KNestM
import PyProof.Rows.SetFrom
import PyProof.ListMulRoad
import PyProof.FactsAll.set_1
import PyProof.FactsAll.set_2
import PyProof.CollectIter
import PyProof.TupleIter
import PyProof.CollectWalk
import PyProof.Rows.SortShell
import PyProof.SumAny
import PyProof.ListOps
import KE.KDictList
import PyProof.NoPylong
import KE.KUnpack
import KE.KSortTup
import KE.KIntText
import PyProof.Rows.TupDisplay
import PySem.Challenge.RW_nearkinds_k61_words_by_rule
noncomputable section
open PySem.W (Frag)
open List (all_eq_true append_assoc countP_cons forIn_cons forIn_nil length_set lookup_cons map_nil mem_cons mem_filter nil_append nodup_nil not_mem_nil of_mem_zip set_set take_length)
open Nat (le_add_right le_of_lt lt_trans ne_of_gt zero_add zero_le)
open Int (add_mul emod_nonneg mul_comm mul_one pow_zero sub_zero zero_mul)
open Bool (false_eq_true)
open Option (any_eq_true)
open Array (length_toList)
open PySem.W (CodeHd callWith_K cellsFrom_some codeHdIn codeHd_of_K codeIn envX fnOf hideAll hideAll_none hideAll_size instObj keepIn kitAny kitOne kitx_bool kitx_dict kitx_float kitx_int kitx_list kitx_none kitx_str kitx_tuple kla_fn kla_obj lookIn methodObj nsIn of_hideAll plainGet tabIn tabObj)
open PySem.F (args_tuple_add_2 entry_tuple_add slot_dict_get slot_tuple_add)
abbrev aa:=@if_pos
abbrev ae:=@PySem.Heap.get?_push_of_some
abbrev af:=@if_neg
abbrev ag:=@List.getElem?_append_left
abbrev ah:=@decide_eq_true_iff
abbrev ai:=@Bool.and_eq_true
abbrev aj:=@List.getElem?_set_ne
abbrev ak:=@decide_eq_false
abbrev ao:=@Option.some.inj
abbrev aq:=@List.getElem?_append_right
abbrev ar:=@Bool.false_ne_true
abbrev au:=@PySem.Heap.get?_push_size
abbrev av:=@Nat.lt_of_lt_of_le
abbrev aw:=@List.getElem?_set_self
abbrev ax:=@decide_eq_true
abbrev ay:=@List.mem_cons_of_mem
abbrev az:=@List.size_toArray
abbrev aA:=@Nat.le_refl
abbrev aB:=@PySem.Heap.lt_size
abbrev aC:=@List.length_map
abbrev aD:=@beq_iff_eq
abbrev aE:=@Int.toNat_natCast
abbrev aF:=@List.mem_cons_self
abbrev aG:=@Nat.ne_of_lt
abbrev aH:=@List.length_append
abbrev aI:=@List.getElem?_map
abbrev aJ:=@List.getElem?_eq_getElem
abbrev aK:=@List.replicate_succ
abbrev aL:=@List.mem_append_right
abbrev aM:=@List.map_cons
abbrev aN:=@Nat.lt_irrefl
abbrev aO:=@PySem.W.mg_none_of
abbrev aP:=@List.length_replicate
abbrev aQ:=@List.map_map
abbrev aR:=@List.getElem?_replicate
abbrev aS:=@List.getD_eq_getElem?_getD
abbrev aT:=@List.filterMap_cons
abbrev aU:=@Bool.or_eq_true
abbrev aV:=@List.map_append
abbrev aW:=@List.map_congr_left
abbrev aX:=@List.flatten_cons
abbrev aY:=@PySem.Heap.size_push
abbrev aZ:=@Int.mul_assoc
abbrev a3:=@PySem.W.mg_of
abbrev a4:=@PySem.W.kia_one
abbrev a5:=@Nat.lt_succ_of_lt
abbrev a6:=@List.getElem?_eq_none
abbrev a7:=@List.append_nil
abbrev a8:=@Nat.le_trans
abbrev a9:=@Int.toNat_of_nonneg
abbrev ba:=@List.mem_of_getElem?
abbrev bb:=@Nat.lt_succ_self
abbrev bc:=@PySem.W.hideAll_get
abbrev bf:=@Int.emod_lt_of_pos
abbrev bg:=@List.getElem_mem
abbrev bh:=List Int
abbrev bj:=List PySem.Value
abbrev bo:=List PySem.Addr
abbrev bp:=List (PySem.Addr×PySem.Obj)
abbrev bq:=List Nat
abbrev br:=Option PySem.Value
abbrev bt:=List PySem.Str
abbrev bw:=PySem.Value->PySem.Shared->Prop
abbrev bx:=List PySem.Expr
abbrev bz:=PySem.Str->Option PySem.Value
abbrev bA:=List PySem.Env
abbrev bC:=List (PySem.Str×PySem.Addr)
abbrev bD:=List PySem.Keyword
abbrev bE:=Option PySem.Addr
abbrev bF:=List PySem.Stmt
abbrev bG:=@PySem.wpAny_bind
abbrev bH:=@PySem.wpAny_pure
abbrev bI:=@List.getElem?_eq_some_iff
abbrev bL:=@List.mem_cons
abbrev bJ:=@List.all_eq_true
abbrev bK:=@List.mem_range
set_option Elab.async false
set_option linter.all false
set_option maxRecDepth 1000000
set_option maxHeartbeats 4000000
variable {XP:(PySem.Str->Option PySem.Value)->PySem.Heap->Prop}{D Pt a b c f:PySem.Addr}{osl:Array (Option PySem.Value)}{op:PySem.CmpOp}{env:PySem.Env}{e tg:PySem.Expr}{fd:PySem.FuncData}{base h:PySem.Heap}{pins:List (PySem.Addr×PySem.Obj)}{zs:List (List Int×PySem.Addr×PySem.Value)}{cells:List (PySem.Str×PySem.Addr)}{fp φ:List PySem.Addr}{gens:List PySem.Comprehension}{es:List PySem.Expr}{cap:bq}{N ps:List PySem.Str}{us:List PySem.Value}{M:PySem.Model}{i j k n t':Nat}{p pos:PySem.Pos}{P:PySem.Program}{sc scope:PySem.Scope}{s s':PySem.Shared}{qual x:PySem.Str}{mg:PySem.Str->Option PySem.Value}{α:Type}{u:PySem.Value}{E Q:PySem.Value->PySem.Shared->Prop}{w:PySem.World}
namespace L2
open PySem PySem.Spec PyProof.Rows
noncomputable abbrev Key:=Sum Int Str
noncomputable def ZW:Key->Value->Bool
 |.inl k,v=>Value.isInt k v|.inr x,v=>Value.isStrOf x v
noncomputable def Lr (w:World):Key->Int
 |.inl k=>hashInt k|.inr x=>hashStr w x
theorem wF:∀{k:Key}{v:Value},ZW k v=true->(∃i t,k=Sum.inl i/\v=Value.int i t)∨(∃x t,k=Sum.inr x/\v=Value.str x t)
 |.inl i,v,h=>by
  obtain⟨t,e⟩:=Value.isInt_shape (k:=i) (v:=v) h;exact .inl ⟨i,t,rfl,e⟩
 |.inr x,v,h=>by
  obtain⟨t,e⟩:=Value.isStrOf_shape (x:=x) (v:=v) h;exact .inr ⟨x,t,rfl,e⟩
def Tp (i:Int)(t:Tok):ZW (.inl i) (.int i t)=true:=by simp[ZW,Value.isInt]
def Tu (x:Str)(t:Tok):ZW (.inr x) (.str x t)=true:=by simp[ZW,Value.isStrOf]
def PU (a b:Int):decide ((Sum.inl a:Key)=Sum.inl b)=(a==b):=by
 by_cases e:a=b
 ·subst e;simp
 ·have h:¬(Sum.inl a:Key)=Sum.inl b:=λq=>e (Sum.inl.inj q)
  rw[ak h];exact(beq_eq_false_iff_ne.mpr e).symm
def Ou (a b:Str):decide ((Sum.inr a:Key)=Sum.inr b)=decide (a=b):=by
 by_cases e:a=b
 ·subst e;simp
 ·have h:¬(Sum.inr a:Key)=Sum.inr b:=λq=>e (Sum.inr.inj q)
  rw[ak h,ak e]
def OF (a:Int)(b:Str):decide ((Sum.inl a:Key)=Sum.inr b)=false:=ak (λq=>nomatch q)
def P8 (a:Str)(b:Int):decide ((Sum.inr a:Key)=Sum.inl b)=false:=ak (λq=>nomatch q)
def j9 (prog:Program)(w:World):PySem.KeyKind prog w Key where
 is:=ZW
 hash:=Lr w
 inj:=λv a b d H=>by
  rcases wF d with ⟨i,t,rfl,rfl⟩|⟨x,t,rfl,rfl⟩
  ·rcases wF H with ⟨j,u,rfl,e⟩|⟨y,u,rfl,e⟩
   ·injection e with E _;rw[E]
   ·exact nomatch e
  ·rcases wF H with ⟨j,u,rfl,e⟩|⟨y,u,rfl,e⟩
   ·exact nomatch e
   ·injection e with E _;rw[E]
 byValue:=λk v h=>by
  rcases wF h with ⟨i,t,rfl,rfl⟩|⟨x,t,rfl,rfl⟩<;>rfl
 pyHash:=λhv h=>by
  rcases wF hv with ⟨i,t,rfl,rfl⟩|⟨x,t,rfl,rfl⟩
  ·exact wpAny_pyHash_int h
  ·exact wpAny_pyHash_str h
 eqBool:=λc hv h=>by
  rcases wF c with ⟨i,t,rfl,rfl⟩|⟨x,t,rfl,rfl⟩
  ·rcases wF hv with ⟨j,u,rfl,rfl⟩|⟨y,u,rfl,rfl⟩
   ·rw[PU]at h;exact wpAny_eqBool_int h
   ·rw[OF]at h;exact SeqAt.EqAt.int_str i t y u _ _ _ _ h
  ·rcases wF hv with ⟨j,u,rfl,rfl⟩|⟨y,u,rfl,rfl⟩
   ·rw[P8]at h;exact SeqAt.EqAt.str_int x t j u _ _ _ _ h
   ·rw[Ou]at h;exact wpAny_eqBool_str h
 «strs»:=λk x t v h=>by
  rcases wF h with ⟨i,u,rfl,e⟩|⟨y,u,rfl,e⟩
  ·exact nomatch e
  ·injection e with E _
   subst E;cases v<;>rfl
def Uv (prog:Program)(w:World)(i:Int)(t:Tok):(j9 prog w).is (.inl i) (.int i t)=true:=Tp i t
def Ut (prog:Program)(w:World)(x:Str)(t:Tok):(j9 prog w).is (.inr x) (.str x t)=true:=Tu x t
inductive V where
 |non|bl (b:Bool)|int (i:Int)|str (x:Str)|byt (b:Array UInt8)|flt (b:UInt64)|ref (a:Addr)|ty (n:String)
 deriving DecidableEq
noncomputable def RelV:V->Value->Prop
 |.non,u=>u=Value.none|.bl b,u=>u=Value.bool b|.int i,u=>∃t,u=Value.int i t|.str x,u=>∃t,u=Value.str x t|.byt b,u=>∃t,u=Value.bytes b t|.flt b,u=>∃t,u=Value.float b t|.ref a,u=>u=Value.ref a|.ty n,u=>u=Value.type n
abbrev Vals:List V->List Value->Prop:=Paired RelV
theorem Vals.length {xs:List V}(r:Vals xs us):xs.length=us.length:=Paired.length r
theorem Vals.get:∀{xs:List V}{us:bj}{i:Nat}{x:V},Vals xs us->xs[i]? =some x->∃u,us[i]? =some u/\RelV x u
 |_,_,_,_,.nil,e=>by simp at e|_,_,0,_,.cons r _,e=>by simp at e;subst e;exact⟨_,rfl,r⟩|_,_,i+1,x,.cons _ t,e=>by
  obtain⟨u,h1,h⟩:=Vals.get (i:=i) (x:=x) t (by simpa using e)
  exact⟨u,by simpa using h1,h⟩
theorem Vals.set {x:V}(r:RelV x u):∀{xs:List V}{us:bj}(i:Nat),Vals xs us->Vals (xs.set i x) (us.set i u)
 |_,_,_,.nil=>.nil|_,_,0,.cons _ t=>.cons r t|_,_,i+1,.cons q t=>.cons q (Vals.set r i t)
theorem Vals.append:∀{xs y:List V}{us ws:bj},Vals xs us->Vals y ws->Vals (xs++y) (us++ws)
 |_,_,_,_,.nil,s=>s|_,_,_,_,.cons r t,s=>.cons r (Vals.append t s)
def Vals.none_of:∀{xs:List V}{us:bj}{i:Nat},Vals xs us->xs[i]? =none->us[i]? =none:=λ {xs us i} r e=>by
 have h1:=r.length;have h:xs.length<=i:=List.getElem?_eq_none_iff.mp e;exact List.getElem?_eq_none_iff.mpr (by omega)
def we:Option V->Option Value->Prop
 |some v,some u=>RelV v u|none,none=>True|_,_=>False
def KV {κ:Type}:List (κ×V)->List (κ×Value)->Prop:=Paired λ(p:κ×V) (q:κ×Value)=>p.1=q.1/\RelV p.2 q.2
noncomputable def kV:Key->V
 |.inl i=>.int i|.inr x=>.str x
inductive HO where
 |lst (xs:List V)
 |tup (xs:List V)
 |dK (kvs:List (Key×V))|dT (kvs:List (List Key×V))
 |set (S:Int->Bool) (n:Nat)
 |ins (C dx:Addr) (fs:List (Str×V))
 |own (x:Addr)
 |xd (fs:List (Str×V))
 |met (f x:Addr)
 |rng (lo hi:Int)
 |frz (o:Obj) (u:HO)
 |tbl (ps:Array Value)
 |ext (φ:Heap->Prop)
noncomputable abbrev Hp:=Addr->Option HO
noncomputable def upd (H:Hp)(a:Addr)(o:HO):Hp:=λb=>if b=a then some o else H b
def qM {H:Hp}{o:HO}:upd H a o a=some o:=by unfold upd;rw[aa rfl]
def zS {H:Hp}{o:HO}(h:b≠a):upd H a o b=H b:=by unfold upd;rw[af h]
def QN {H:Hp}{o u:HO}(h:H a=some o)(h':H b=some u)(d:o≠u):a≠b:=by
 intro e;subst e;rw[h]at h';exact d (ao h')
def ym {H:Hp}{o:HO}(h:H a=some o)(h':H b=none):a≠b:=by
 intro e;subst e;rw[h]at h';cases h'
def gu (h:Heap)(a:Addr)(items:Array Value):Prop:=∃o,h.get? a=some o/\(o.cls=.type "tuple" /\ o.dict=none)/\∃n,o.data=.seq items n
def gu.tup {h:Heap}{a:Addr}{items:Array Value}(x:gu h a items):IsTup h a items:=let ⟨o,e,c,d⟩:=x;⟨o,e,c.1,d⟩
def gu.new (h:Heap)(items:Array Value):gu (h.push { cls:=.type "tuple",data:=.seq items }) h.objs.size items:=⟨_,au h rfl,⟨rfl,rfl⟩,0,rfl⟩
section
variable (P:Program)(w:World)
def qI (H:Hp)(h:Heap)(a:Addr):HO->Prop
 |.lst xs=>xs.length<=sizeLine/\∃(i:bj) (n:Nat),Vals xs i/\h.get? a=some { cls:=.type "list",data:=.seq i.toArray n }
 |.tup xs=>xs.length<=sizeLine/\∃i:bj,Vals xs i/\gu h a i.toArray|.dK k=>k.length<=sizeLine/\(a==sysModules)=false/\∃s,KV k s/\h.DictOf (j9 P w) a s|.dT k=>k.length<=sizeLine/\(a==sysModules)=false/\∃xs:List (List Key×Addr×Value),
   Paired (λ(p:List Key×V) (q:List Key×Addr×Value)=>p.1=q.1/\H q.2.1=some (.tup (p.1.map kV))/\RelV p.2 q.2.2) k xs/\
   ∃o es e,h.get? a=some o/\o.ExactDict/\o.data=.dict es e/\es.toList=xs.map (entryOfKey (tupleKind (j9 P w)))/\(xs.map (·.1)).Nodup
 |.set S n=>h.SetOf (intKind P w) a S n|.ins C d fs=>H d=some (.own a)/\fs.length<=1000/\d≠a/\h.get? a=some (instObj C d)/\
   ∃M,h.Ns1 d M/\(∀f,we (fs.lookup f) (M f))/\PySem.Within M (fs.map (·.1))
 |.own _=>∃o,h.get? a=some o|.xd fs=>∃M,h.Ns1 a M/\∀f,we (fs.lookup f) (M f)|.rng lo c=>∃t u v,h.get? a=some { cls:=.type "range",data:=.fields #[.int lo t,.int c u,.int 1 v] }
 |.frz o u=>h.get? a=some o/\qI H h a u|.tbl ps=>h.get? a=some { cls:=.none,data:=.fields ps }|.met f x=>h.get? a=some (methodObj (.ref f) (.ref x))|.ext φ=>φ h/\(∃o,h.get? a=some o)/\∀h1 b:Heap,φ h1->(∀o,h1.get? a=some o->b.get? a=some o)->φ b
def qg (H:Hp)(h:Heap):Prop:=∀a o,H a=some o->qI P w H h a o
end
section
variable {H H':Hp}{h':Heap}{o:HO}
theorem qI.lt (x:qI P w H h a o):a<h.objs.size:=by
 cases o with
 |lst xs=>obtain⟨_,_,_,_,e⟩:=x;exact aB e|tup xs=>obtain⟨_,_,_,p⟩:=x;exact p.tup.lt|dK k=>obtain⟨_,_,_,_,o,_,_,e,_⟩:=x;exact aB e|dT k=>obtain⟨_,_,_,_,o,_,_,e,_⟩:=x;exact aB e|set S n=>obtain⟨o,_,_,_,e,_⟩:=x;exact aB e|ins C d fs=>obtain⟨_,_,_,e,_⟩:=x;exact aB e|own y=>obtain⟨_,e⟩:=x;exact aB e|xd fs=>obtain⟨_,⟨_,_,_,e,_⟩,_⟩:=x;exact aB e|rng lo i=>obtain⟨_,_,_,e⟩:=x;exact aB e|frz ob u=>obtain⟨e,_⟩:=x;exact aB e|tbl ps=>exact aB (show h.get? a=some _ from x)|met f y=>exact aB (show h.get? a=some _ from x)|ext φ=>obtain⟨_,⟨_,e⟩,_⟩:=x;exact aB e
theorem Paired.mapP {β:Type}{F G:α->β->Prop}:∀{L:List α}{l:List β},Paired F L l->(∀a b,F a b->G a b)->Paired G L l
 |_,_,.nil,_=>.nil|_,_,.cons r t,f=>.cons (f _ _ r) (Paired.mapP t f)
def qI.stay (x:qI P w H h a o)(k:∀b u,(b=a∨H b=some (.own a))->h.get? b=some u->h'.get? b=some u)
  (l:∀b,H b=some (.own a)->H' b=some (.own a))(j:∀b xs,H b=some (.tup xs)->H' b=some (.tup xs)):qI P w H' h' a o:=by
 induction o with
 |lst xs=>obtain⟨z,i,n,r,e⟩:=x;exact⟨z,i,n,r,k _ _ (.inl rfl) e⟩|tup xs=>obtain⟨z,i,r,ob,e,c⟩:=x;exact⟨z,i,r,ob,k _ _ (.inl rfl) e,c⟩|dK K=>obtain⟨z,y,s,r,ob,es,E,e,c⟩:=x;exact⟨z,y,s,r,ob,es,E,k _ _ (.inl rfl) e,c⟩|dT K=>
  obtain⟨z,y,xs,r,ob,es,E,e,c⟩:=x;exact⟨z,y,xs,Paired.mapP r λp q z=>⟨z.1,j _ _ z.2.1,z.2.2⟩,ob,es,E,k _ _ (.inl rfl) e,c⟩
 |set S n=>obtain⟨ob,es,E,t,e,c⟩:=x;exact⟨ob,es,E,t,k _ _ (.inl rfl) e,c⟩|ins C D fs=>
  obtain⟨d,z,ne,e,M,⟨g,es,E,A,c⟩,r⟩:=x;exact⟨l _ d,z,ne,k _ _ (.inl rfl) e,M,⟨g,es,E,k _ _ (.inr d) A,c⟩,r⟩
 |own y=>obtain⟨ob,e⟩:=x;exact⟨ob,k _ _ (.inl rfl) e⟩|xd fs=>obtain⟨M,⟨g,es,E,e,c⟩,r⟩:=x;exact⟨M,⟨g,es,E,k _ _ (.inl rfl) e,c⟩,r⟩|rng lo B=>obtain⟨t,u,v,e⟩:=x;exact⟨t,u,v,k _ _ (.inl rfl) e⟩|frz ob u I=>obtain⟨e,q⟩:=x;exact⟨k _ _ (.inl rfl) e,I q⟩|tbl ps=>
  have e:h.get? a=some { cls:=.none,data:=.fields ps }:=x;show h'.get? a=some { cls:=.none,data:=.fields ps };exact k a _ (.inl rfl) e
 |met f y=>
  have e:h.get? a=some (methodObj (.ref f) (.ref y)):=x;show h'.get? a=some (methodObj (.ref f) (.ref y));exact k a _ (.inl rfl) e
 |ext φ=>obtain⟨p,⟨o,e⟩,st⟩:=x;exact⟨st _ _ p λo q=>k _ _ (.inl rfl) q,⟨o,k _ _ (.inl rfl) e⟩,st⟩
theorem qg.lt (x:qg P w H h)(e:H a=some o):a<h.objs.size:=(x a o e).lt
def qg.fresh (x:qg P w H h)(e:h.objs.size<=a):H a=none:=by
 cases q:H a with
 |none=>rfl|some u=>exact absurd (av (x.lt q) e) (aN _)
def qg.kept (x:qg P w H h)(k:∀b u,h.get? b=some u->h'.get? b=some u):qg P w H h':=λa o e=>
 (x a o e).stay (λb u _ q=>k b u q) (λ_ q=>q) λ_ _ q=>q
def qg.laid (x:qg P w H h)(k:∀b u,h.get? b=some u->h'.get? b=some u)(p:h.objs.size<=a)(new:qI P w (upd H a o) h' a o):qg P w (upd H a o) h':=λb u e=>by
 have hn:=x.fresh p
 by_cases d:b=a
 ·subst d;rw[qM]at e;cases e;exact new
 ·rw[zS d]at e
  exact(x b u e).stay (λc v _ q=>k c v q) (λc q=>by rw[zS (ym q hn)];exact q) λc xs q=>by rw[zS (ym q hn)];exact q
end
def Rd (H:Hp)(a:Addr)(u:HO):Prop:=H a=some u∨∃o,H a=some (.frz o u)
def Rd.ok {H:Hp}{u:HO}(r:Rd H a u)(x:qg P w H h):qI P w H h a u:=by
 rcases r with r|⟨o,r⟩
 ·exact x a u r
 ·obtain⟨_,q⟩:=x a _ r
  exact q
noncomputable def Q8:Option HO->Prop
 |some (.lst _)=>True|some (.dK _)=>True|some (.dT _)=>True|some (.set _ _)=>True|some (.ins _ _ _)=>True|some (.ext _)=>True|_=>False
section
variable {H:Hp}{h':Heap}{x e:Addr}{o':HO}
def qg.write (ok:qg P w H h)(M:Q8 (H x))(he:e=x∨H e=some (.own x))(k:∀b u,b≠e->h.get? b=some u->h'.get? b=some u)(o:∃u,h'.get? e=some u)
  (new:qI P w (upd H x o') h' x o'):qg P w (upd H x o') h':=λb u q=>by
 have n:∀c y,H c=some (.own y)->c≠x:=λc y r z=>by subst z;rw[r]at M;exact M
 have N:∀c xs,H c=some (.tup xs)->c≠x:=λc xs r z=>by subst z;rw[r]at M;exact M
 by_cases f:b=x
 ·subst f;rw[qM]at q;cases q;exact new
 ·rw[zS f]at q
  by_cases a:b=e
  ·have Q:H b=some (.own x):=by
    rcases he with z|z
    ·exact absurd (a.trans z) f
    ·rw[a];exact z
   rw[q]at Q;cases Q;obtain⟨v,hv⟩:=o;exact⟨v,by rw[a];exact hv⟩
  ·refine(ok b u q).stay (λc v d r=>k c v ?_ r) (λc r=>by rw[zS (n c b r)];exact r) λc xs r=>by rw[zS (N c xs r)];exact r
   rcases d with rfl|d
   ·exact a
   ·rintro rfl
    rcases he with z|z
    ·exact n c b d z
    ·rw[d]at z;cases z;exact f rfl
end
structure Un (fs ex:bo)(H H':Hp)(h h':Heap):Prop where
 keep:∀b o,h.get? b=some o->H b=none->b∉fs->b∉ex->h'.get? b=some o
 slot:∀b o,h.get? b=some o->H b=none->b∈fs->b∉ex->∃sl,h'.get? b=some { o with slots:=sl }
 free:∀b o,h.get? b=some o->H b=none->b∉ex->H' b=none
 there:∀b o,h.get? b=some o->b∉ex->∃o',h'.get? b=some o'
 tups:∀b xs,H b=some (.tup xs)->H' b=some (.tup xs)
 frzs:∀b o u,H b=some (.frz o u)->H' b=some (.frz o u)
 tbls:∀b ps,H b=some (.tbl ps)->∃more,H' b=some (.tbl (ps++more))
section
variable {fs ex:bo}{H H1:Hp}{h1 h':Heap}{x e:Addr}{o:HO}
def Un.any (u:Un fs ex H H1 h h1){ob:Obj}(q:h.get? b=some ob)(n:H b=none)(x:b∉ex):∃sl,h1.get? b=some { ob with slots:=sl }:=by
 by_cases a:b∈fs
 ·exact u.slot b ob q n a x
 ·exact⟨ob.slots,u.keep b ob q n a x⟩
def Un.kept (k:∀b u,h.get? b=some u->h'.get? b=some u):Un fs ex H H h h':=
 ⟨λb ob q _ _ _=>k b ob q,λb ob q _ _ _=>⟨ob.slots,k b ob q⟩,λ_ _ _ n _=>n,λb ob q _=>⟨ob,k b ob q⟩,λ_ _ q=>q,λ_ _ _ q=>q,λ_ ps q=>⟨#[],by rw[q];simp⟩⟩
def Un.refl:Un fs ex H H h h:=Un.kept λ_ _ q=>q
def Un.laid (k:∀b u,h.get? b=some u->h'.get? b=some u)(p:h.objs.size<=a)(hn:H a=none):Un fs ex H (upd H a o) h h' where
 keep:=λb u q _ _ _=>k b u q
 slot:=λb u q _ _ _=>⟨u.slots,k b u q⟩
 free:=λb u q n _=>by rw[zS (aG (av (aB q) p))];exact n
 there:=λb u q _=>⟨u,k b u q⟩
 tups:=λb xs q=>by rw[zS (ym q hn)];exact q
 frzs:=λb u xs q=>by rw[zS (ym q hn)];exact q
 tbls:=λb ps q=>⟨#[],by rw[zS (ym q hn),q];simp⟩
def Un.write (M:Q8 (H x))(he:e=x∨H e=some (.own x))(k:∀b u,b≠e->h.get? b=some u->h'.get? b=some u)(c:∃u,h'.get? e=some u):Un fs ex H (upd H x o) h h':=by
 have d:∀b,H b=none->b≠x:=λb n z=>by subst z;rw[n]at M;exact M
 have f:∀b,H b=none->b≠e:=λb n z=>by
  subst z;rcases he with r|r
  ·exact d b n r
  ·rw[n]at r;cases r
 have hm:∀b u,H b=some u->¬Q8 (some u)->b≠x:=λb u q nm z=>by subst z;rw[q]at M;exact nm M
 refine⟨λb u q n _ _=>k b u (f b n) q,λb u q n _ _=>⟨u.slots,k b u (f b n) q⟩,λb u q n _=>by rw[zS (d b n)];exact n,λb u q _=>?_,
  λb xs q=>by rw[zS (hm b _ q λz=>z)];exact q,λb u xs q=>by rw[zS (hm b _ q λz=>z)];exact q,λb ps q=>⟨#[],by rw[zS (hm b _ q λz=>z),q];simp⟩⟩
 by_cases a:b=e
 ·subst a;exact c
 ·exact⟨u,k b u a q⟩
end
noncomputable def Ym (h:Heap)(H:Hp):bo:=(List.range h.objs.size).filter λa=>(H a).isSome
def wc (h:Heap)(H:Hp):Heap:=hideAll h (Ym h H)
def Td (h:Heap)(H:Hp):(wc h H).objs.size=h.objs.size:=hideAll_size _ _
def TY {H:Hp}{o:Obj}(e:h.get? b=some o)(n:H b=none):(wc h H).get? b=some o:=
 bc _ e λhm=>by
  have q:(H b).isSome=true:=(List.mem_filter.mp hm).2;rw[n]at q;simp at q
def PQ {H:Hp}{o:Obj}(e:(wc h H).get? b=some o):h.get? b=some o/\H b=none:=by
 have E:h.get? b=some o:=of_hideAll (Ym h H) e;refine⟨E,?_⟩;cases q:H b with
 |none=>rfl|some x=>
  have hm:b∈Ym h H:=List.mem_filter.mpr ⟨bK.mpr (aB E),by simp[q]⟩
  have z:(wc h H).get? b=none:=hideAll_none (Ym h H) hm;rw[z]at e;cases e
structure Mod (K:Frag)(mg:bz)(base:Heap):Prop where
 kin:K.In base
 glob:base.Ns mainGlobals mg
 blt:∃mb,base.Ns builtinsNs mb/\∀x:Str,x ≠ "__name__" -> mb x=bootBuiltins x
 nolimit:base.NoLimit
structure Cx where
 prog:Program
 w:World
 K:Frag
 mg:Str->Option Value
 base:Heap
 A:Around
 N:bt
 s0:Shared
 H0:Hp
 env:Env
 outer:bA
 stack:bA
 ex:bo
 fn:Str->Bool
 calm:Bool
 pn:bp
 xe:Value->Shared->Prop
noncomputable def qc (l:bA):bo:=l.filterMap (·.frame)
abbrev Cx.fs (X:Cx):bo:=qc X.outer
def Zq (sc:Scope)(x:Str):Prop:=sc.names.lookup x=some .local∨sc.names.lookup x=some .cell∨sc.names.lookup x=some .free
def Loc (sc:Scope)(x:Str):Prop:=sc.names.lookup x=some .local∨sc.names.lookup x=some .cell
def Look (env:Env)(h:Heap)(m:bz)(x:Str)(u:Value):Prop:=
 (env.kindOf x=some .local/\m x=some u)∨((env.kindOf x=some .cell∨env.kindOf x=some .free)/\∃c,env.cells.lookup x=some c/\h.IsCell c (some u))
structure Cx.Ok (X:Cx):Prop where
 mod:Mod X.K X.mg X.base
 kind:X.env.scope.kind=.function
 glob:X.env.globals=mainGlobals
 blt:X.env.builtins=builtinsNs
 above:X.s0.heap.objs.size<=X.env.locals
 inj:∀x y c,X.env.cells.lookup x=some c->X.env.cells.lookup y=some c->x=y
 has:∀x,(X.env.kindOf x=some .cell∨X.env.kindOf x=some .free)->∃c,X.env.cells.lookup x=some c
 cab:∀x c,X.fn x=true->X.env.cells.lookup x=some c->X.s0.heap.objs.size<=c
 hd:X.calm=true->X.A.handled=none
 frames:X.A.frames=some X.stack
 stk:X.stack=X.outer∨(X.stack=X.env::X.outer/\X.env.frame=some X.env.locals)
 exf:∀b∈X.ex,b≠X.env.locals/\∀x c,X.env.cells.lookup x=some c->c≠b
 bs:∀b o,X.base.get? b=some o->X.s0.heap.get? b=some o/\X.H0 b=none
 bsz:X.base.objs.size<=X.s0.heap.objs.size
 noex:∀b o,X.base.get? b=some o->b∉X.ex
 exfs:∀b∈X.ex,b∉X.fs
 funs:X.s0.heap.FunFrames X.base X.outer
 frf:∀b∈X.fs,X.H0 b=none
structure Inv (X:Cx)(pins:bp)(σ:List (Option V))(H:Hp)(s:Shared):Prop where
 ok:X.Ok
 os:s.os=X.s0.os
 bare:AllBare s.gens
 base:Un X.fs X.ex X.H0 H X.s0.heap s.heap
 loc:∃m,s.heap.Ns X.env.locals m/\∀(i:Nat)(x:Str)(v:V),X.N[i]? =some x->σ[i]? =some (some v)->Zq X.env.scope x->∃u,RelV v u/\Look X.env s.heap m x u
 cell:∀x c,X.env.cells.lookup x=some c->∃v,s.heap.IsCell c v
 free:H X.env.locals=none
 freeC:∀x c,X.env.cells.lookup x=some c->H c=none
 pin:∀p∈X.pn++pins,s.heap.get? p.1=some p.2/\H p.1=none/\p.1≠X.env.locals/\p.1∉X.fs/\∀v,p.2.data≠.cell v
 hok:qg X.prog X.w H s.heap
 len:σ.length=X.N.length
section
variable {X:Cx}{σ:List (Option V)}{H H':Hp}{h':Heap}
def Cx.Ok.nofr (ok:X.Ok){o:Obj}(e:X.base.get? b=some o):b∉X.fs:=λh=>by
 have:=(ok.funs.mem h).1
 rw[e]at this;cases this
theorem Inv.bs (I:Inv X pins σ H s):∀b o,X.base.get? b=some o->s.heap.get? b=some o/\H b=none:=λb o e=>
 ⟨I.base.keep b o (I.ok.bs b o e).1 (I.ok.bs b o e).2 (I.ok.nofr e) (I.ok.noex b o e),I.base.free b o (I.ok.bs b o e).1 (I.ok.bs b o e).2 (I.ok.noex b o e)⟩
def Inv.bk (I:Inv X pins σ H s):∀b o,X.base.get? b=some o->s.heap.get? b=some o:=λb o e=>(I.bs b o e).1
theorem Inv.mod (I:Inv X pins σ H s):Mod X.K X.mg X.base:=I.ok.mod
def Inv.kIn (I:Inv X pins σ H s):X.K.In s.heap:=I.ok.mod.kin.keeps I.bk
theorem Inv.lt (I:Inv X pins σ H s):X.env.locals<s.heap.objs.size:=let ⟨_,hn,_⟩:=I.loc;hn.lt
def Inv.sz (I:Inv X pins σ H s):X.s0.heap.objs.size<=s.heap.objs.size:=a8 I.ok.above (le_of_lt I.lt)
def Inv.nofs (I:Inv X pins σ H s)(h:s.heap.objs.size<=a):a∉X.fs:=λc=>by
 obtain⟨_,o,b,_⟩:=I.ok.funs.mem c;exact absurd (av (aB b) (a8 I.sz h)) (aN _)
def Inv.cne (I:Inv X pins σ H s):∀x c,X.env.cells.lookup x=some c->c≠X.env.locals:=λx c e z=>by
 obtain⟨v,o,b,hd⟩:=I.cell x c e;obtain⟨m,⟨o',es,E,h,a,_⟩,_⟩:=I.loc;rw[z,h]at b;cases b;rw[a]at hd;cases hd
theorem Inv.funs (I:Inv X pins σ H s):s.heap.FunFrames X.base X.outer:=by
 have all:∀(l:bA),(∀b∈qc l,b∈X.fs)->X.s0.heap.FunFrames X.base l->s.heap.FunFrames X.base l:=by
  intro l
  induction l with
  |nil=>intro _ _;trivial|cons env r i=>
   intro c g;obtain⟨k,⟨L,o,hf,hn,f,hd⟩,d⟩:=g;have a:L∈X.fs:=c L (by unfold qc;rw[aT,hf];exact aF)
   obtain⟨sl,e⟩:=I.base.slot L o f (I.ok.frf L a) a λz=>I.ok.exfs L z a;exact⟨k,⟨L,_,hf,hn,e,hd⟩,i (λb h=>c b (by unfold qc;rw[aT,hf];exact ay _ h)) d⟩
 exact all X.outer (λ_ h=>h) I.ok.funs
theorem Inv.stack (I:Inv X pins σ H s):s.heap.FunFrames X.base X.stack:=by
 rcases I.ok.stk with e|⟨e,hf⟩
 ·rw[e];exact I.funs
 ·rw[e]
  obtain⟨m,hn,_⟩:=I.loc;refine .cons (by rw[I.ok.kind];decide) hf hn ?_ I.funs
  exact Heap.get?_none_of_le (a8 I.ok.bsz I.ok.above)
def Inv.stkSub (I:Inv X pins σ H s):∀b∈qc X.stack,b∈X.env.locals::X.fs:=λb h=>by
 rcases I.ok.stk with e|⟨e,hf⟩
 ·rw[e]at h;exact ay _ h
 ·rw[e]at h
  unfold qc at h;rw[aT,hf]at h;exact h
def Inv.stkFree (I:Inv X pins σ H s):∀b∈qc X.stack,H b=none:=λb h=>by
 rcases bL.mp (I.stkSub b h) with e|h
 ·rw[e];exact I.free
 ·obtain⟨_,o,a,_⟩:=I.ok.funs.mem h
  exact I.base.free b o a (I.ok.frf b h) λz=>I.ok.exfs b z h
def Inv.step {g':Array GenState}{d':Drawn}{ch:bo}(I:Inv X pins σ H s)
  (a:∀b∈ch,(b∈X.ex∨X.s0.heap.objs.size<=b)/\b≠X.env.locals/\(∀x c,X.env.cells.lookup x=some c->c≠b)/\∀p∈X.pn++pins,p.1≠b)
  (keep:∀b o,b≠X.env.locals->b∉X.fs->b∉ch->s.heap.get? b=some o->H b=none->h'.get? b=some o)
  (slot:∀b o,b≠X.env.locals->b∈X.fs->b∉ch->s.heap.get? b=some o->H b=none->∃sl,h'.get? b=some { o with slots:=sl })(free:∀b o,b∉ch->s.heap.get? b=some o->H b=none->H' b=none)
  (there:∀b o,b∉ch->s.heap.get? b=some o->∃o',h'.get? b=some o')
  (tups:∀b xs,H b=some (.tup xs)->H' b=some (.tup xs))(frzs:∀b o u,H b=some (.frz o u)->H' b=some (.frz o u))(tbls:∀b ps,H b=some (.tbl ps)->∃more,H' b=some (.tbl (ps++more)))
  (ns:∀m,s.heap.Ns X.env.locals m->h'.Ns X.env.locals m)(hok:qg X.prog X.w H' h')(J:AllBare g'):
  Inv X pins σ H' { s with heap:=h',gens:=g',drawn:=d',toks:=t' }:=by
 have L:∀b o,X.s0.heap.get? b=some o->b≠X.env.locals:=λb o e=>aG (av (aB e) I.ok.above);have C:∀b o,X.s0.heap.get? b=some o->b∉X.ex->b∉ch:=λb o e h f=>by
  rcases(a b f).1 with z|z
  ·exact h z
  ·exact absurd (av (aB e) z) (aN _)
 have cellK:∀x c,X.env.cells.lookup x=some c->∀v,s.heap.IsCell c v->h'.IsCell c v:=λx c e v ⟨o,g,hd⟩=>by
  have N:c∉ch:=λz=>(a c z).2.2.1 x c e rfl
  by_cases A:c∈X.fs
  ·obtain⟨sl,q⟩:=slot c o (I.cne x c e) A N g (I.freeC x c e)
   exact⟨_,q,hd⟩
  ·exact⟨o,keep c o (I.cne x c e) A N g (I.freeC x c e),hd⟩
 refine⟨I.ok,I.os,J,⟨λb o e n f h=>?_,λb o e n f h=>?_,λb o e n h=>?_,λb o e h=>?_,λb xs e=>tups b xs (I.base.tups b xs e),λb o xs e=>frzs b o xs (I.base.frzs b o xs e),λb ps e=>?_⟩,?_,λx c e=>?_,?_,λx c e=>?_,λp y=>?_,hok,I.len⟩
 ·exact keep b o (L b o e) f (C b o e h) (I.base.keep b o e n f h) (I.base.free b o e n h)
 ·obtain⟨sl,E⟩:=I.base.slot b o e n f h
  obtain⟨S,j⟩:=slot b _ (L b o e) f (C b o e h) E (I.base.free b o e n h);exact⟨S,j⟩
 ·obtain⟨o',E⟩:=I.base.there b o e h
  exact free b o' (C b o e h) E (I.base.free b o e n h)
 ·obtain⟨o',E⟩:=I.base.there b o e h
  exact there b o' (C b o e h) E
 ·obtain⟨B,E⟩:=I.base.tbls b ps e
  obtain⟨M,j⟩:=tbls b _ E;exact⟨B++M,by rw[j,Array.append_assoc]⟩
 ·obtain⟨m,hn,D⟩:=I.loc
  refine⟨m,ns m hn,λi x v E j K=>?_⟩;obtain⟨u,r,l⟩:=D i x v E j K;refine⟨u,r,?_⟩;rcases l with l|⟨k,c,e,z⟩
  ·exact .inl l
  ·exact .inr ⟨k,c,e,cellK x c e _ z⟩
 ·obtain⟨v,z⟩:=I.cell x c e
  exact⟨v,cellK x c e v z⟩
 ·obtain⟨m,⟨o,_,_,g,_⟩,_⟩:=I.loc
  exact free _ o (λz=>(a _ z).2.1 rfl) g I.free
 ·obtain⟨v,o,g,hd⟩:=I.cell x c e
  exact free c o (λz=>(a c z).2.2.1 x c e rfl) g (I.freeC x c e)
 ·obtain⟨e,n,ne,t,d⟩:=I.pin p y
  have N:p.1∉ch:=λz=>(a p.1 z).2.2.2 p y rfl;exact⟨keep p.1 p.2 ne t N e n,free p.1 p.2 N e n,ne,t,d⟩
def Inv.un (I:Inv X pins σ H s)(u:Un X.fs [] H H' s.heap h')(hok:qg X.prog X.w H' h'):Inv X pins σ H' { s with heap:=h',toks:=t' }:=by
 obtain⟨m,⟨o,es,p,d,r⟩,_⟩:=id I.loc;obtain⟨sl,L⟩:=u.any d I.free (by simp)
 exact I.step (g':=s.gens) (d':=s.drawn) (ch:=[]) (λ_ z=>nomatch z) (λb o _ a _ e n=>u.keep b o e n a (by simp)) (λb o _ a _ e n=>u.slot b o e n a (by simp)) (λb o _ e n=>u.free b o e n (by simp)) (λb o _ e=>u.there b o e (by simp)) u.tups u.frzs u.tbls (λM hm=>by
  obtain⟨o',E,c,h,f⟩:=hm;rw[d]at h;cases h;exact⟨_,E,c,L,f⟩) hok I.bare
def Inv.call {g':Array GenState}{d':Drawn}{ch:bo}(I:Inv X pins σ H s)(u:Un (qc X.stack) ch H H' s.heap h')(hok:qg X.prog X.w H' h')(j:AllBare g')
  (d:∀b∈ch,(b∈X.ex∨X.s0.heap.objs.size<=b)/\b≠X.env.locals/\(∀x c,X.env.cells.lookup x=some c->c≠b)/\∀p∈X.pn++pins,p.1≠b):
  Inv X pins σ H' { s with heap:=h',gens:=g',drawn:=d',toks:=t' }:=by
 obtain⟨m,⟨o,es,l,g,r⟩,_⟩:=id I.loc;obtain⟨sl,L⟩:=u.any g I.free λz=>(d _ z).2.1 rfl;exact I.step (ch:=ch) d (λb o L k h e n=>u.keep b o e n (λz=>(bL.mp (I.stkSub b z)).elim L k) h) (λb o _ _ h e n=>u.any e n h) (λb o h e n=>u.free b o e n h) (λb o h e=>u.there b o e h) u.tups u.frzs u.tbls (λM hm=>by
  obtain⟨o',E,f,a,i⟩:=hm;rw[g]at a;cases a;exact⟨_,E,f,L,i⟩) hok j
def Inv.turned {it:Addr}(I:Inv X pins σ H s)(k:∀b o,b≠it->s.heap.get? b=some o->h'.get? b=some o)(hn:H it=none)(L:it≠X.env.locals)
  (h1:it∈X.ex∨X.s0.heap.objs.size<=it)(g:∀x c,X.env.cells.lookup x=some c->c≠it)(f:∀p∈X.pn++pins,p.1≠it):Inv X pins σ H { s with heap:=h',toks:=t' }:=by
 have N:∀b u,H b=some u->b≠it:=λb u e z=>by rw[z,hn]at e;cases e
 refine I.step (g':=s.gens) (d':=s.drawn) (ch:=[it]) (λb d=>?_) (λb o _ _ h e _=>k b o (λz=>h (by simp[z])) e) (λb o _ _ h e _=>⟨o.slots,k b o (λz=>h (by simp[z])) e⟩) (λ_ _ _ _ n=>n)
  (λb o h e=>⟨o,k b o (λz=>h (by simp[z])) e⟩) (λ_ _ e=>e) (λ_ _ _ e=>e) (λb ps e=>⟨#[],by rw[e];simp⟩) (λm hm=>?_) (λb u e=>?_) I.bare
 ·have e:b=it:=by simpa using d
  subst e;exact⟨h1,L,g,f⟩
 ·obtain⟨o,es,E,a,r⟩:=hm
  exact⟨o,es,E,k _ o (Ne.symm L) a,r⟩
 ·refine(I.hok b u e).stay (λc v h q=>k c v ?_ q) (λ_ q=>q) λ_ _ q=>q
  rcases h with z|z
  ·rw[z];exact N b u e
  ·exact N c _ z
def Inv.tok (I:Inv X pins σ H s)(t:Nat):Inv X pins σ H { s with toks:=t }:=I.un (h':=s.heap) (t':=t) Un.refl I.hok
theorem Inv.kept (I:Inv X pins σ H s)(k:∀b u,s.heap.get? b=some u->h'.get? b=some u):Inv X pins σ H { s with heap:=h',toks:=t' }:=I.un (Un.kept k) (I.hok.kept k)
theorem Inv.laid {o:HO}(I:Inv X pins σ H s)(k:∀b u,s.heap.get? b=some u->h'.get? b=some u)(h:s.heap.objs.size<=a)(new:qI X.prog X.w (upd H a o) h' a o):
  Inv X pins σ (upd H a o) { s with heap:=h',toks:=t' }:=I.un (Un.laid k h (I.hok.fresh h)) (I.hok.laid k h new)
theorem Inv.write {x e:Addr}{o:HO}(I:Inv X pins σ H s)(M:Q8 (H x))(he:e=x∨H e=some (.own x))(k:∀b u,b≠e->s.heap.get? b=some u->h'.get? b=some u)(h:∃u,h'.get? e=some u)
  (new:qI X.prog X.w (upd H x o) h' x o):Inv X pins σ (upd H x o) { s with heap:=h',toks:=t' }:=I.un (Un.write M he k h) (I.hok.write M he k h new)
def Inv.pins_of {P:bp}(I:Inv X pins σ H s)(h:∀p∈P,s.heap.get? p.1=some p.2/\H p.1=none/\p.1≠X.env.locals/\p.1∉X.fs/\∀v,p.2.data≠.cell v):Inv X P σ H s:=
 ⟨I.ok,I.os,I.bare,I.base,I.loc,I.cell,I.free,I.freeC,λp a=>(List.mem_append.mp a).elim (λz=>I.pin p (List.mem_append_left _ z)) (h p),I.hok,I.len⟩
def Y0 (h:N.Nodup)(a:N[i]? =some x)(b:N[j]? =some x):i=j:=by
 obtain⟨h1,E⟩:=bI.mp a;obtain⟨H,e⟩:=bI.mp b;exact(List.getElem_inj h).mp (E.trans e.symm)
def Tw {A:Around}{v:V}{Q:Unit->Shared->Prop}(I:Inv X pins σ H s)(hN:X.N.Nodup)(U:X.N[i]? =some x)(t:Loc X.env.scope x)(r:RelV v u)
  (h:∀s',Inv X pins (σ.set i (some v)) H s'->(∃a,Heap.SameBut a s.heap s'.heap/\(a=X.env.locals∨X.env.cells.lookup x=some a))->Q () s')(hf:X.fn x=true∨X.env.scope.names.lookup x=some .local:=by first|exact .inl rfl|exact .inr rfl|assumption):wpAny M A (storeName X.env x u) Q E s:=by
 obtain⟨m,hn,hl⟩:=id I.loc;have Y:(X.env.scope.kind==.class || (X.env.scope.kind==.module&&X.env.locals != X.env.globals))=false:=by rw[I.ok.kind];rfl
 have J:i < σ.length:=by rw[I.len];exact(bI.mp U).1
 have cne:=I.cne;have tracked:∀{a:Addr}{h':Heap},(∃o,s.heap.get? a=some o/\H a=none)->Heap.SameBut a s.heap h'->qg X.prog X.w H h':=λ {a h'} ha f b ob e=>by
  obtain⟨_,_,B⟩:=ha;refine(I.hok b ob e).stay (λc w' l q=>(f.2 c ?_).trans q) (λ_ q=>q) λ_ _ q=>q
  rintro rfl
  rcases l with rfl|l
  ·rw[B]at e;cases e
  ·rw[B]at l;cases l
 rcases t with D|D
 ·refine wpAny_storeName_local D hn (λh' hn' f=>?_) Y
  obtain⟨oL,_,_,hoL,_⟩:=id hn;refine h _ ⟨I.ok,I.os,I.bare,⟨λb o e n P t=>?_,λb o e n P t=>?_,I.base.free,λb o e t=>?_,I.base.tups,I.base.frzs,I.base.tbls⟩,⟨_,hn',λj y v' g C e3=>?_⟩,λy c e=>?_,I.free,I.freeC,λp hp=>?_,tracked ⟨oL,hoL,I.free⟩ f,by simpa using I.len⟩ ⟨_,f,.inl rfl⟩
  ·exact(f.2 b (aG (av (aB e) I.ok.above))).trans (I.base.keep b o e n P t)
  ·obtain⟨sl,g⟩:=I.base.slot b o e n P t
   exact⟨sl,(f.2 b (aG (av (aB e) I.ok.above))).trans g⟩
  ·obtain⟨o',g⟩:=I.base.there b o e t
   exact⟨o',(f.2 b (aG (av (aB e) I.ok.above))).trans g⟩
  ·by_cases K:j=i
   ·subst K
    rw[U]at g;cases g;rw[aw J]at C;cases C;exact⟨u,r,.inl ⟨D,by simp⟩⟩
   ·rw[aj (Ne.symm K)]at C
    obtain⟨u',r',q⟩:=hl j y v' g C e3;refine⟨u',r',?_⟩;rcases q with ⟨k,e⟩|⟨k,c,e,z⟩
    ·refine .inl ⟨k,?_⟩
     have:y≠x:=λe=>K (Y0 hN g (e ▸ U))
     simp[this,e]
    ·exact .inr ⟨k,c,e,z.sameBut f (cne y c e)⟩
  ·obtain⟨w',z⟩:=I.cell y c e
   exact⟨w',z.sameBut f (cne y c e)⟩
  ·obtain⟨e,n,ne,nf,d⟩:=I.pin p hp
   exact⟨(f.2 p.1 ne).trans e,n,ne,nf,d⟩
 ·have L:X.fn x=true:=by
   rcases hf with z|z
   ·exact z
   ·rw[z]at D;cases D
  obtain⟨c,l⟩:=I.ok.has x (.inl D);obtain⟨w',z⟩:=I.cell x c l;refine wpAny_storeName_cell I.ok.kind D l z (λh' hc' f=>?_);obtain⟨oc,T,S⟩:=id z;refine h { s with heap:=h' } ⟨I.ok,I.os,I.bare,⟨λb o e n P t=>?_,λb o e n P t=>?_,I.base.free,λb o e t=>?_,I.base.tups,I.base.frzs,I.base.tbls⟩,⟨m,hn.sameBut f (Ne.symm (cne x c l)),λj y v' g C e3=>?_⟩,λy c' e=>?_,I.free,I.freeC,λp hp=>?_,tracked ⟨oc,T,I.freeC x c l⟩ f,by simpa using I.len⟩ ⟨c,f,.inr l⟩
  ·exact(f.2 b (aG (av (aB e) (I.ok.cab x c L l)))).trans (I.base.keep b o e n P t)
  ·obtain⟨sl,g⟩:=I.base.slot b o e n P t
   exact⟨sl,(f.2 b (aG (av (aB e) (I.ok.cab x c L l)))).trans g⟩
  ·obtain⟨o',g⟩:=I.base.there b o e t
   exact⟨o',(f.2 b (aG (av (aB e) (I.ok.cab x c L l)))).trans g⟩
  ·by_cases K:j=i
   ·subst K
    rw[U]at g;cases g;rw[aw J]at C;cases C;exact⟨u,r,.inr ⟨.inl D,c,l,hc'⟩⟩
   ·rw[aj (Ne.symm K)]at C
    obtain⟨u',r',q⟩:=hl j y v' g C e3;refine⟨u',r',?_⟩;rcases q with q|⟨k,c',e,z'⟩
    ·exact .inl q
    ·refine .inr ⟨k,c',e,z'.sameBut f ?_⟩
     rintro rfl
     exact K (Y0 hN g (I.ok.inj _ _ _ e l ▸ U))
  ·by_cases Z:c'=c
   ·subst Z;exact⟨_,hc'⟩
   ·obtain⟨w2,z2⟩:=I.cell y c' e
    exact⟨w2,z2.sameBut f Z⟩
  ·obtain⟨e,n,ne,nf,d⟩:=I.pin p hp
   refine⟨(f.2 p.1 ?_).trans e,n,ne,nf,d⟩;intro q;rw[q,T]at e;have q':oc=p.2:=ao e;exact d w' (by rw[<- q'];exact S)
def Qt {A:Around}{v:V}{Q:Unit->Shared->Prop}(I:Inv X pins σ H s)(c:X.N.Nodup)(b:X.N[i]? =some x)(a:Loc X.env.scope x)(r:RelV v u)
  (h:∀s',Inv X pins (σ.set i (some v)) H s'->Q () s')(hf:X.fn x=true∨X.env.scope.names.lookup x=some .local:=by first|exact .inl rfl|exact .inr rfl|assumption):wpAny M A (storeName X.env x u) Q E s:=
 Tw I c b a r (λs' d _=>h s' d) hf
def Inv.call' {ch:bo}(I:Inv X pins σ H s)(o:s'.os=s.os)(u:Un (qc X.stack) ch H H' s.heap s'.heap)(hok:qg X.prog X.w H' s'.heap)(g:AllBare s'.gens)
  (h:∀b∈ch,(b∈X.ex∨X.s0.heap.objs.size<=b)/\b≠X.env.locals/\(∀x c,X.env.cells.lookup x=some c->c≠b)/\∀p∈X.pn++pins,p.1≠b):Inv X pins σ H' s':=by
 obtain⟨h',g',d',t',o'⟩:=s';have e:o'=s.os:=o;subst e;exact I.call (g':=g') (t':=t') (d':=d') u hok g h
end
abbrev XK:=Value->Option Addr->Hp->Prop
noncomputable abbrev St:=List (Option V)
abbrev VK:=V->Hp->Prop
abbrev TE:=St->Hp->VK->Prop
abbrev TT:=St->Hp->(Bool->Hp->Prop)->Prop
abbrev TA:=St->Hp->(List V->Hp->Prop)->Prop
structure Ends where
 nx:St->Hp->Prop
 rt:VK
 bk:St->Hp->Prop:=λ_ _=>False
 ct:St->Hp->Prop:=λ_ _=>False
abbrev TS:=Ends->St->Hp->Prop
inductive EP (X:Cx)(pins:bp)(σ:St)(Q:VK)(u:Value)(s':Shared):Prop
 |mk (v:V) (H':Hp) (I:Inv X pins σ H' s') (r:RelV v u) (q:Q v H')
def TP (X:Cx)(pins:bp)(σ:St)(Q:Bool->Hp->Prop)(b:Bool)(s':Shared):Prop:=∃H,Inv X pins σ H s'/\Q b H
inductive AP (X:Cx)(pins:bp)(σ:St)(Q:List V->Hp->Prop)(us:bj)(s':Shared):Prop
 |mk (vs:List V) (H':Hp) (I:Inv X pins σ H' s') (r:Vals vs us) (q:Q vs H')
def SP (X:Cx)(pins:bp)(D:Ends)(f:Flow)(s':Shared):Prop:=
 match f with
 |.next=>∃a H,Inv X pins a H s'/\D.nx a H|.brk=>∃a H,Inv X pins a H s'/\D.bk a H|.cont=>∃a H,Inv X pins a H s'/\D.ct a H|.ret u=>∃v a H,Inv X pins a H s'/\RelV v u/\D.rt v H
def PE (X:Cx)(e:Expr)(t:TE):Prop:=
 ∀(pins:bp)(s:Shared)(σ:St)(H:Hp)(Q:VK),Inv X pins σ H s->t σ H Q->wpAny (model X.prog X.w) X.A (eval e X.env) (EP X pins σ Q) X.xe s
def PT (X:Cx)(e:Expr)(t:TT):Prop:=
 ∀(pins:bp)(s:Shared)(σ:St)(H:Hp)(Q:Bool->Hp->Prop),Inv X pins σ H s->t σ H Q->wpAny (model X.prog X.w) X.A (isTrue e X.env (eval e X.env)) (TP X pins σ Q) X.xe s
def PW (X:Cx)(e:Expr)(t:TT):Prop:=
 ∀(whole:Sem Value)(pins:bp)(s:Shared)(σ:St)(H:Hp)(Q:Bool->Hp->Prop),Inv X pins σ H s->t σ H Q->wpAny (model X.prog X.w) X.A (isTrue e X.env whole) (TP X pins σ Q) X.xe s
def PW.pt {X:Cx}{t:TT}(h:PW X e t):PT X e t:=h _
def PA (X:Cx)(es:bx)(t:TA):Prop:=
 ∀(pos:Pos)(pins:bp)(s:Shared)(σ:St)(H:Hp)(Q:List V->Hp->Prop),Inv X pins σ H s->t σ H Q->wpAny (model X.prog X.w) X.A (spliced (backTo pos (starEach es X.env))) (AP X pins σ Q) X.xe s
def PS (X:Cx)(st:Stmt)(t:TS):Prop:=
 ∀(pins:bp)(s:Shared)(σ:St)(H:Hp)(D:Ends),Inv X pins σ H s->t D σ H->wpAny (model X.prog X.w) X.A (exec st X.env) (SP X pins D) X.xe s
def jL (X:Cx)(st:bF)(t:TS):Prop:=
 ∀(pins:bp)(s:Shared)(σ:St)(H:Hp)(D:Ends),Inv X pins σ H s->t D σ H->wpAny (model X.prog X.w) X.A (execs st X.env) (SP X pins D) X.xe s
def zM {t:Sem α}{Q q:α->Shared->Prop}{A:Around}(h:wpAny M A t Q E s)(H:∀a s,Q a s->q a s):wpAny M A t q E s:=wpAny_mono h H λ_ _ x=>x
section
variable {X:Cx}
noncomputable def Lu (i:Nat):TE:=λσ H Q=>∃v,σ[i]? =some (some v)/\Q v H
noncomputable def tC (v:V):TE:=λ_ H Q=>Q v H
def XI (g:X.N[i]? =some x)(hv:Zq X.env.scope x)(hd:(x==("__debug__":Str))=false:=by decide)(d:(x==("__classdict__":Str))=false:=by decide):PE X (.Name x pos) (Lu i):=by
 intro pins s σ H Q I h;obtain⟨v,e,h⟩:=h;obtain⟨m,hn,f⟩:=I.loc;obtain⟨u,r,l⟩:=f i x v g e hv;have fin:EP X pins σ Q u s:=⟨v,H,I,r,h⟩;rcases l with ⟨k,hm⟩|⟨k,c,b,a⟩
 ·exact wpAny_Name (wpAny_loadName_local I.ok.kind k hn hm fin) hd
 ·rcases k with k|k
  ·exact wpAny_Name (wpAny_loadName_cell I.ok.kind k b a fin) hd
  ·exact wpAny_Name (wpAny_loadName_free I.ok.kind k b a fin d) hd
def O2 {i j pos}:PE X (.Constant (.int i) j pos) (tC (.int i)):=λ_ _ _ H _ I h=>wpAny_Constant_int ⟨.int i,H,I.tok _,⟨_,rfl⟩,h⟩
def NT {b j pos}:PE X (.Constant (.bool b) j pos) (tC (.bl b)):=λ_ _ _ H _ I h=>Constant_bool ⟨.bl b,H,I,rfl,h⟩
def Om {j pos}:PE X (.Constant .none j pos) (tC .non):=λ_ _ _ H _ I h=>Constant_none ⟨.non,H,I,rfl,h⟩
def OK {x j pos}:PE X (.Constant (.str x) j pos) (tC (.str x)):=λ_ _ _ H _ I h=>Calls.Constant_str ⟨.str x,H,I.tok _,⟨_,rfl⟩,h⟩
def Gl (X:Cx)(x:Str):Prop:=X.env.kindOf x=some .globalImplicit
def QA {σ:St}{H:Hp}(I:Inv X pins σ H s)(g:Gl X x)(hm:X.mg x=some u)(h:Q u s)
  (hd:(x==("__debug__":Str))=false:=by decide):wpAny (model X.prog X.w) X.A (eval (.Name x pos) X.env) Q E s:=
 Calls.Name_function_global I.ok.kind g (Calls.loadGlobal_global (by rw[I.ok.glob];exact I.mod.glob.keeps I.bk) hm h) hd
def QH {σ:St}{H:Hp}(I:Inv X pins σ H s)(g:Gl X x)(hm:X.mg x=none)(hv:bootBuiltins x=some u)(h:Q u s)
  (hn:x ≠ "__name__":=by decide)(hd:(x==("__debug__":Str))=false:=by decide):wpAny (model X.prog X.w) X.A (eval (.Name x pos) X.env) Q E s:=by
 obtain⟨mb,h1,a⟩:=I.mod.blt;exact Calls.Name_function_global I.ok.kind g (Calls.loadGlobal_builtin (by rw[I.ok.glob];exact I.mod.glob.keeps I.bk) hm (by rw[I.ok.blt];exact h1.keeps I.bk) ((a x hn).trans hv) h) hd
def Pf {v:V}(g:Gl X x)(hm:X.mg x=some u)(r:RelV v u)(hd:(x==("__debug__":Str))=false:=by decide):PE X (.Name x pos) (tC v):=
 λ_ _ _ H _ I h=>QA I g hm ⟨v,H,I,r,h⟩ hd
def JC {v:V}(g:Gl X x)(hm:X.mg x=none)(hv:bootBuiltins x=some u)(r:RelV v u)(hn:x ≠ "__name__":=by decide)(hd:(x==("__debug__":Str))=false:=by decide):PE X (.Name x pos) (tC v):=
 λ_ _ _ H _ I h=>QH I g hm hv ⟨v,H,I,r,h⟩ hn hd
variable {a b:Expr}{ta tb:TE}
def Sr (b:Expr)(h:op≠.In)(H:op≠.NotIn):behindInMarks op b=false:=by
 have E:(op==CmpOp.In)=false:=by cases op<;>first|rfl|exact absurd rfl h
 have e:(op==CmpOp.NotIn)=false:=by cases op<;>first|rfl|exact absurd rfl H
 cases b<;>simp[behindInMarks,E,e]
noncomputable def tB (t:TE):TT:=λσ H Q=>t σ H λx H1=>∃c,x=.bl c/\Q c H1
def OL {t:TE}(h:PE X e t)(he:∀whole,isTrue e X.env whole=(do let v <- whole;standAt e.pos;holding [v] (truthy v)):=by intro _;rfl):PT X e (tB t):=by
 intro pins s σ H Q I hw;refine isTrue_plain (zM (h pins s σ H _ I hw) λv s1 ⟨x,H1,i,r,a⟩=>?_) (he _);obtain⟨d,rfl,q⟩:=a;cases r;exact wpAny_truthy_bool ⟨H1,i,q⟩
variable {tA tB':TT}{rest:bx}
noncomputable def Li (t u:TT):TT:=λσ H Q=>t σ H λc H1=>if c=true then u σ H1 Q else Q false H1
noncomputable def LN (t u:TT):TT:=λσ H Q=>t σ H λc H1=>if c=true then Q true H1 else u σ H1 Q
noncomputable def M3 (t:TT):TT:=λσ H Q=>t σ H λc H1=>Q (!c) H1
def pw_and1 (b:PT X a tA):PW X (.BoolOp .And [a] pos) tA:=by
 intro w pins s σ H Q I h;refine isTrue_and (zM (b pins s σ H Q I h) λc s1 e=>?_);cases c with
 |true=>exact isTrue_and_nil e|false=>exact e
def pw_or1 (b:PT X a tA):PW X (.BoolOp .Or [a] pos) tA:=by
 intro w pins s σ H Q I h;refine isTrue_or (zM (b pins s σ H Q I h) λc s1 e=>?_);cases c with
 |false=>exact isTrue_or_nil e|true=>exact e
def pw_and (e:PT X a tA)(d:PW X (.BoolOp .And (b::rest) pos) tB'):PW X (.BoolOp .And (a::b::rest) pos) (Li tA tB'):=by
 intro w pins s σ H Q I h;refine isTrue_and (zM (e pins s σ H _ I h) λc s1 ⟨H1,i,q⟩=>?_);cases c with
 |true=>exact d w pins s1 σ H1 Q i q|false=>exact⟨H1,i,q⟩
def pw_or (e:PT X a tA)(d:PW X (.BoolOp .Or (b::rest) pos) tB'):PW X (.BoolOp .Or (a::b::rest) pos) (LN tA tB'):=by
 intro w pins s σ H Q I h;refine isTrue_or (zM (e pins s σ H _ I h) λc s1 ⟨H1,i,q⟩=>?_);cases c with
 |true=>exact⟨H1,i,q⟩|false=>exact d w pins s1 σ H1 Q i q
def Ox (b:PT X a tA):PT X (.UnaryOp .Not a pos) (M3 tA):=by
 intro pins s σ H Q I h;exact isTrue_not (b pins s σ H (λc H1=>Q (!c) H1) I h)
noncomputable def MW (T t:TE):TE:=λσ H Q=>T σ H λx H1=>∃c,x=.bl c/\if c=true then t σ H1 Q else Q (.bl false) H1
noncomputable def MN (t:TE):TE:=λσ H Q=>t σ H λx H1=>∃c,x=.bl c/\Q (.bl (!c)) H1
def P4 {op}{t:TE}(h:PE X a t):PE X (.BoolOp op [a] pos) t:=λpins s σ H Q I hw=>BoolOp_one (h pins s σ H Q I hw)
def Od (e:PE X a ta)(d:PE X (.BoolOp .And (b::rest) pos) tb):PE X (.BoolOp .And (a::b::rest) pos) (MW ta tb):=by
 intro pins s σ H Q I h;refine BoolOp_and (zM (e pins s σ H _ I h) λv s1 ⟨x,H1,i,r,q⟩=>?_);obtain⟨c,rfl,q⟩:=q;cases r;refine wpAny_truthy_bool ?_;cases c with
 |true=>exact d pins s1 σ H1 Q i q|false=>exact⟨.bl false,H1,i,rfl,q⟩
def Nb (b:PE X a ta):PE X (.UnaryOp .Not a pos) (MN ta):=by
 intro pins s σ H Q I h;refine UnaryOp_ (zM (b pins s σ H _ I h) λv s1 ⟨x,H1,i,r,q⟩=>?_);obtain⟨c,rfl,q⟩:=q;cases r;exact not_of (wpAny_truthy_bool ⟨.bl (!c),H1,i,rfl,q⟩)
noncomputable def LL (t:TT)(a T:TE):TE:=λσ H Q=>t σ H λc H1=>if c=true then a σ H1 Q else T σ H1 Q
def Ra {c:Expr}(e:PT X c tA)(g:PE X a ta)(f:PE X b tb):PE X (.IfExp c a b pos) (LL tA ta tb):=by
 intro pins s σ H Q I h;refine wpAny_IfExp (zM (e pins s σ H _ I h) λd s1 ⟨H1,i,q⟩=>?_);cases d with
 |true=>exact g pins s1 σ H1 Q i q|false=>exact f pins s1 σ H1 Q i q
end
def qT (K:Frag)(H:Hp)(a:Addr)(xs:List V):Prop:=
 Rd H a (.lst xs)∨
  ∃(o:Obj) (i:Array Value) (n:Nat),K.lookup a=some o/\o.cls=.type "list" /\ o.dict=none/\o.data=.seq i n/\i.size<=sizeLine/\Vals xs i.toList
def qb (K:Frag)(H:Hp)(a:Addr)(xs:List V):Prop:=
 Rd H a (.tup xs)∨
  ∃(o:Obj) (i:Array Value) (n:Nat),K.lookup a=some o/\(o.cls=.type "tuple" /\ o.dict=none)/\o.data=.seq i n/\i.size<=sizeLine/\Vals xs i.toList
noncomputable def MZ:Value->Option V
 |.none=>some .non|.bool b=>some (.bl b)|.int i _=>some (.int i)|.str x _=>some (.str x)|.bytes b _=>some (.byt b)|.float b _=>some (.flt b)|.ref a=>some (.ref a)|.type n=>some (.ty n)|_=>none
def RelV.abs {x:V}(r:RelV x u):MZ u=some x:=by
 cases x with
 |non=>cases r;rfl|bl _=>cases r;rfl|int _=>obtain⟨t,rfl⟩:=r;rfl|str _=>obtain⟨t,rfl⟩:=r;rfl|byt _=>obtain⟨t,rfl⟩:=r;rfl|flt _=>obtain⟨t,rfl⟩:=r;rfl|ref _=>cases r;rfl|ty _=>cases r;rfl
def RelV.inj {x y:V}(r:RelV x u)(q:RelV y u):x=y:=ao (r.abs.symm.trans q.abs)
theorem Vals.inj:∀{xs y:List V}{us:bj},Vals xs us->Vals y us->xs=y
 |_,_,_,.nil,.nil=>rfl|_,_,_,.cons r t,.cons a t'=>by rw[r.inj a,Vals.inj t t']
section
variable {X:Cx}{σ:St}{H:Hp}{xs ys:List V}
def qT.of {K:Frag}(h:H a=some (.lst xs)):qT K H a xs:=.inl (.inl h)
def qb.of {K:Frag}(h:H a=some (.tup xs)):qb K H a xs:=.inl (.inl h)
def Inv.list (I:Inv X pins σ H s)(h:qT X.K H a xs):∃i:bj,Vals xs i/\PlainL s.heap a i.toArray/\xs.length<=sizeLine:=by
 rcases h with h|⟨o,i,n,k,c,hd,b,d,r⟩
 ·obtain⟨z,i,n,r,e⟩:=h.ok I.hok
  exact⟨i,r,⟨_,n,e,rfl,rfl,rfl⟩,z⟩
 ·refine⟨i.toList,r,⟨o,n,I.kIn a o k,c,hd,by simpa using b⟩,?_⟩
  have e:=r.length;simp only[length_toList]at e;omega
def Inv.tuple (I:Inv X pins σ H s)(h:qb X.K H a xs):∃i:bj,Vals xs i/\IsTup s.heap a i.toArray/\xs.length<=sizeLine:=by
 rcases h with h|⟨o,i,n,k,c,b,d,r⟩
 ·obtain⟨z,i,r,p⟩:=h.ok I.hok
  exact⟨i,r,p.tup,z⟩
 ·refine⟨i.toList,r,⟨o,I.kIn a o k,c.1,n,by simpa using b⟩,?_⟩
  have e:=r.length;simp only[length_toList]at e;omega
def Inv.list_inj (I:Inv X pins σ H s)(h:qT X.K H a xs)(h':qT X.K H a ys):xs=ys:=by
 obtain⟨i,r,⟨o,n,e,_,_,d⟩,_⟩:=I.list h;obtain⟨its',b,⟨o',N,E,_,_,d'⟩,_⟩:=I.list h';rw[e]at E;cases E;rw[d]at d';injection d' with D _
 have:i=its':=by simpa using congrArg Array.toList D
 subst this;exact r.inj b
def Inv.tuple_inj (I:Inv X pins σ H s)(h:qb X.K H a xs)(h':qb X.K H a ys):xs=ys:=by
 obtain⟨i,r,⟨o,e,_,n,d⟩,_⟩:=I.tuple h;obtain⟨its',b,⟨o',E,_,N,d'⟩,_⟩:=I.tuple h';rw[e]at E;cases E;rw[d]at d';injection d' with D _
 have:i=its':=by simpa using congrArg Array.toList D
 subst this;exact r.inj b
end
noncomputable abbrev Cx.wish (X:Cx)(E:bw):Cx:={ X with xe:=E }
noncomputable abbrev Cx.nox (X:Cx):Cx:=X.wish λ_ _=>False
theorem Cx.Ok.wish {X:Cx}(ok:X.Ok)(E:bw):(X.wish E).Ok:=
 ⟨ok.mod,ok.kind,ok.glob,ok.blt,ok.above,ok.inj,ok.has,ok.cab,ok.hd,ok.frames,ok.stk,ok.exf,ok.bs,ok.bsz,ok.noex,ok.exfs,ok.funs,ok.frf⟩
def Cx.Ok.unwish {X:Cx}(ok:(X.wish E).Ok):X.Ok:=
 ⟨ok.mod,ok.kind,ok.glob,ok.blt,ok.above,ok.inj,ok.has,ok.cab,ok.hd,ok.frames,ok.stk,ok.exf,ok.bs,ok.bsz,ok.noex,ok.exfs,ok.funs,ok.frf⟩
section
variable {X:Cx}{σ:St}{H:Hp}
theorem Inv.wish (I:Inv X pins σ H s)(E:bw):Inv (X.wish E) pins σ H s:=⟨I.ok.wish E,I.os,I.bare,I.base,I.loc,I.cell,I.free,I.freeC,I.pin,I.hok,I.len⟩
theorem Inv.unwish (I:Inv (X.wish E) pins σ H s):Inv X pins σ H s:=⟨I.ok.unwish,I.os,I.bare,I.base,I.loc,I.cell,I.free,I.freeC,I.pin,I.hok,I.len⟩
theorem SP.unwish {D:Ends}{f:Flow}(h:SP (X.wish E) pins D f s'):SP X pins D f s':=by
 cases f with
 |next=>obtain⟨a,H,I,q⟩:=h;exact⟨a,H,I.unwish,q⟩|brk=>obtain⟨a,H,I,q⟩:=h;exact⟨a,H,I.unwish,q⟩|cont=>obtain⟨a,H,I,q⟩:=h;exact⟨a,H,I.unwish,q⟩|ret u=>obtain⟨v,a,H,I,r,q⟩:=h;exact⟨v,a,H,I.unwish,r,q⟩
theorem PT.nox {t:TT}(h:PT X.nox e t):PT X e t:=λpins s σ H Q I hw=>
 wpAny_mono (h pins s σ H Q (I.wish _) hw) (λ_ _ ⟨a,i,q⟩=>⟨a,i.unwish,q⟩) λ_ _ z=>False.elim z
theorem jL.nox {st:bF}{t:TS}(h:jL X.nox st t):jL X st t:=λpins s σ H D I hw=>
 wpAny_mono (h pins s σ H D (I.wish _) hw) (λ_ _ q=>q.unwish) λ_ _ z=>False.elim z
end
section
variable {X:Cx}{st:Stmt}{rest:bF}{t u:TS}{te:TE}
noncomputable def NV:TS:=λD σ H=>D.nx σ H
noncomputable def M7 (t u:TS):TS:=λD σ H=>t { D with nx:=u D } σ H
def RX:jL X [] NV:=λ_ _ σ H _ I h=>wpAny_execs_nil ⟨σ,H,I,h⟩
def TH (h1:PS X st t)(b:jL X rest u):jL X (st::rest) (M7 t u):=by
 intro pins s σ H D I h;refine wpAny_execs_cons (zM (h1 pins s σ H { D with nx:=u D } I h) λf s1 q=>?_)
 cases f with
 |next=>
  obtain⟨a,c,i,q⟩:=q;exact b pins s1 a c D i q
 |ret v=>exact q|brk=>exact q|cont=>exact q
def Inv.quiet {σ:St}{H:Hp}(I:Inv X pins σ H s):interactive X.env=false:=by simp[interactive,I.ok.kind]
noncomputable def NZ (t:TE):TS:=λD σ H=>t σ H λ_ H1=>D.nx σ H1
def PH (he:PE X e te)(a:swapsWith e none pos.line X.env=pure false:=by rfl):PS X (.Expr e pos) (NZ te):=by
 intro pins s σ H D I h;exact wpAny_Expr_any (zM (he pins s σ H _ I h) λv s1 ⟨x,H1,i,r,q⟩=>⟨σ,H1,i,q⟩) I.quiet a
noncomputable def M6 (t:TE):TS:=λD σ H=>t σ H D.rt
def O7 (he:PE X e te):PS X (.Return (some e) pos) (M6 te):=by
 intro pins s σ H D I h;exact wpAny_Return_some (zM (he pins s σ H _ I h) λv s1 ⟨x,H1,i,r,q⟩=>⟨x,σ,H1,i,r,q⟩)
noncomputable def Lf (c:TT)(t u:TS):TS:=λD σ H=>c σ H λb H1=>if b=true then t D σ H1 else u D σ H1
def N8 {c:Expr}{a b:bF}{T:TT}(e:PT X c T)(g:jL X a t)(f:jL X b u):PS X (.If c a b pos) (Lf T t u):=by
 intro pins s σ H D I h;refine wpAny_If (zM (e pins s σ H _ I h) λd s1 ⟨H1,i,q⟩=>?_);cases d with
 |true=>exact g pins s1 σ H1 D i q|false=>exact f pins s1 σ H1 D i q
end
abbrev TG:=V->St->Hp->(St->Hp->Prop)->Prop
abbrev Zt:=List V->St->Hp->(St->Hp->Prop)->Prop
def PG (X:Cx)(target:Expr)(t:TG):Prop:=
 ∀(pins:bp)(s:Shared)(σ:St)(H:Hp)(v:V)(u:Value)(Q:St->Hp->Prop),Inv X pins σ H s->RelV v u->t v σ H Q->
  wpAny (model X.prog X.w) X.A (assign target X.env u) (λ_ s'=>∃a h,Inv X pins a h s'/\Q a h) X.xe s
def Yq (X:Cx)(T:bx)(t:Zt):Prop:=
 ∀(pins:bp)(s:Shared)(σ:St)(H:Hp)(vs:List V)(us:bj)(Q:St->Hp->Prop),Inv X pins σ H s->Vals vs us->t vs σ H Q->
  wpAny (model X.prog X.w) X.A (assignInOrder ((assignEach T X.env).map (·.2)) us) (λ_ s'=>∃a h,Inv X pins a h s'/\Q a h) X.xe s
abbrev Qe:=V->V->V->Hp->(Hp->Prop)->Prop
def JY (X:Cx)(t:Qe):Prop:=
 ∀(pins:bp)(s:Shared)(σ:St)(H:Hp)(o i v:V)(a I u:Value)(Q:Hp->Prop),Inv X pins σ H s->RelV o a->RelV i I->RelV v u->t o i v H Q->
  wpAny (model X.prog X.w) X.A (setItem a I u) (λ_ s'=>∃h,Inv X pins σ h s'/\Q h) X.xe s
abbrev Yp:=V->V->Hp->VK->Prop
def Vr (X:Cx)(op:Operator)(t:Yp):Prop:=
 ∀(pins:bp)(s:Shared)(σ:St)(H:Hp)(x y:V)(v u:Value)(Q:VK),Inv X pins σ H s->RelV x v->RelV y u->t x y H Q->
  wpAny (model X.prog X.w) X.A (inplaceOp op v u) (EP X pins σ Q) X.xe s
section
variable {X:Cx}
noncomputable def KA (i:Nat):TG:=λv σ H Q=>Q (σ.set i (some v)) H
def ZH (c:X.N.Nodup)(b:X.N[i]? =some x)(a:Loc X.env.scope x)(hf:X.fn x=true∨X.env.scope.names.lookup x=some .local:=by first|exact .inl rfl|exact .inr rfl|assumption):PG X (.Name x pos) (KA i):=by
 intro pins s σ H v u Q I r h;exact wpAny_assign_Name (Qt I c b a r (λs' d=>⟨_,H,d,h⟩) hf)
noncomputable def LF:Zt:=λv σ H Q=>v=[]/\Q σ H
noncomputable def MU (t:TG)(u:Zt):Zt:=λs σ H Q=>∃v r,s=v::r/\t v σ H λa h=>u r a h Q
def GS:Yq X [] LF:=by
 intro pins s σ H v us Q I r h;obtain⟨e,h⟩:=h;subst e;cases r;exact assignInOrder_nil ⟨σ,H,I,h⟩
def Qs {t:TG}{u:Zt}(h1:PG X e t)(d:Yq X es u)
  (c:(assignEach (e::es) X.env).map (·.2)=assign e X.env::(assignEach es X.env).map (·.2):=by rfl):Yq X (e::es) (MU t u):=by
 intro pins s σ H f us Q I r h;obtain⟨v,g,E,h⟩:=h;subst E;cases r with
 |cons r b=>
  rw[c];refine assignInOrder_cons (zM (h1 pins s σ H _ _ _ I r h) λ_ s1 ⟨a,H1,i,q⟩=>?_);exact d pins s1 a H1 _ _ Q i b q
noncomputable def Ll (K:Frag)(n:Nat)(t:Zt):TG:=λv σ H Q=>∃a xs,v=.ref a/\qb K H a xs/\xs.length=n/\t xs σ H Q
def Xz {t:Zt}(g:X.calm=true)(h:Yq X es t)
  (hn:(assignEach es X.env).length=n:=by rfl)(c:(assignEach es X.env).findIdx? (·.1)=none:=by rfl):PG X (.Tuple es k pos) (Ll X.K n t):=by
 intro pins s σ H v u Q I r hw;obtain⟨a,xs,E,q,l,hw⟩:=hw;subst E;cases r;obtain⟨i,d,f,z⟩:=I.tuple q;refine assign_Tuple_tuple (I.ok.hd g) f (by simp[hn,<- l,d.length]) c λh' x=>?_
 have j:Inv X pins σ H { s with heap:=h' }:=I.kept (t':=s.toks) λb o e=>x b o (aG (aB e)) e
 exact h pins _ σ H xs _ Q j (by simpa using d) hw
noncomputable def qf (to ti:TE)(t:Qe):TG:=λv σ H Q=>to σ H λo H1=>ti σ H1 λi a=>t o i v a λh=>Q σ h
def OE {o i:Expr}{to ti:TE}{t:Qe}(f:PE X o to)(g:PE X i ti)(e:JY X t)
  (j:∀v,assign (.Subscript o i pos) X.env v=(do
   let ov <- holding [v] (eval o X.env)
   let iv <- holding [v,ov] (eval i X.env)
   standAt pos
   holding [v,ov,iv] (setItem ov iv v)
   release [v,ov,iv] []):=by intro _;rfl):PG X (.Subscript o i pos) (qf to ti t):=by
 intro pins s σ H v u Q I r h;rw[j];refine bG (wpAny_holding (zM (f pins s σ H _ I h) λov s1 ⟨x,H1,n,b,d⟩=>?_));refine bG (wpAny_holding (zM (g pins s1 σ H1 _ n d) λiv s2 ⟨y,w,l,a,c⟩=>?_));refine bG (wpAny_standAt (bG (wpAny_holding (zM (e pins s2 σ w x y v ov iv u _ l b a r c) λ_ s3 ⟨p,k,q⟩=>?_))));exact wpAny_release ⟨σ,p,k,q⟩
noncomputable def Wc (t:TE)(g:TG):TS:=λD σ H=>t σ H λx H1=>g x σ H1 D.nx
def Xm {t:TE}{g:TG}(he:PE X e t)(b:PG X tg g)(a:swapsWithSole [tg] e pos.line X.env=pure false:=by rfl)(hw:swappedStores [tg] e X.env=pure none:=by rfl)
  (h1:(assignEach [tg] X.env).map (·.2)=[assign tg X.env]:=by rfl):PS X (.Assign [tg] e pos) (Wc t g):=by
 intro pins s σ H D I h;refine wpAny_Assign_stores (zM (he pins s σ H _ I h) λv s1 ⟨x,H1,i,r,Q⟩=>?_) a hw;rw[h1];exact zM (b pins s1 σ H1 x v _ i r Q) λ_ s2 q=>q
def Ow {t:TE}{pos':Pos}(d:X.N.Nodup)(c:X.N[i]? =some x)(a:Loc X.env.scope x)(he:PE X e t)(b:swapsWith e (some (.Name x pos')) pos.line X.env=pure false:=by rfl)(hf:X.fn x=true∨X.env.scope.names.lookup x=some .local:=by first|exact .inl rfl|exact .inr rfl|assumption):
  PS X (.Assign [.Name x pos'] e pos) (Wc t (KA i)):=by
 intro pins s σ H D I h;refine wpAny_Assign_Name (zM (he pins s σ H _ I h) λv s1 ⟨y,H1,g,r,q⟩=>?_) b;exact Qt g d c a r (λs2 f=>⟨_,H1,f,q⟩) hf
noncomputable def LH (i:Nat)(t:TE)(ti:Yp):TS:=λD σ H=>∃x,σ[i]? =some (some x)/\t σ H λy H1=>ti x y H1 λz h=>D.nx (σ.set i (some z)) h
def OY {t:TE}{op:Operator}{ti:Yp}{pos':Pos}(E:X.N.Nodup)(j:X.N[i]? =some x)(g:Loc X.env.scope x)(he:PE X e t)(p:Vr X op ti)(hf:X.fn x=true∨X.env.scope.names.lookup x=some .local:=by first|exact .inl rfl|exact .inr rfl|assumption):
  PS X (.AugAssign (.Name x pos') op e pos) (LH i t ti):=by
 intro pins s σ H D I h;obtain⟨v,J,h⟩:=h;obtain⟨m,hn,B⟩:=I.loc;have f:Zq X.env.scope x:=by rcases g with k|k;exact .inl k;exact .inr (.inl k)
 obtain⟨u,r,l⟩:=B i x v j J f;refine wpAny_AugAssign_Name ?_;have go:wpAny (model X.prog X.w) X.A (eval e X.env) (λw d=>wpAny (model X.prog X.w) X.A (inplaceOp op u w) (λr S=>wpAny (model X.prog X.w) X.A (storeName X.env x r) (λ_=>SP X pins D .next) X.xe S) X.xe d) X.xe s:=by
  refine zM (he pins s σ H _ I h) λw s1 ⟨y,H1,M,o,Q⟩=>?_;refine zM (p pins s1 σ H1 v y u w _ M r o Q) λz s2 ⟨Z,P,L,n,q⟩=>?_;exact Qt L E j g n (λs3 K=>⟨_,P,K,q⟩) hf
 rcases l with ⟨a,hm⟩|⟨a,c,C,b⟩
 ·exact wpAny_loadName_local I.ok.kind a hn hm go
 ·rcases a with a|a
  ·exact wpAny_loadName_cell I.ok.kind a C b go
  ·rcases g with k|k
   ·have:X.env.scope.names.lookup x=some .free:=a
    rw[k]at this;cases this
   ·have:X.env.scope.names.lookup x=some .free:=a
    rw[k]at this;cases this
noncomputable def L1 (f:Int->Int->Int):Yp:=λx y H Q=>∃i j,x=.int i/\y=.int j/\Q (.int (f i j)) H
def Oy:Vr X .Add (L1 λi j=>i+j):=by
 intro pins s σ H x y v u Q I a r h;obtain⟨i,j,E,e,q⟩:=h;subst E;subst e;obtain⟨t,rfl⟩:=a;obtain⟨t',rfl⟩:=r;exact iadd_int ⟨.int _,H,I.tok _,⟨_,rfl⟩,q⟩
end
structure It where
 go:Nat->Hp->Prop
 yld:Nat->Hp->V->Hp->Prop
 stop:Nat->Hp->Prop
def yh (X:Cx)(pins:bp)(H:Hp)(b:Addr):Prop:=
 H b=none/\b≠X.env.locals/\b∉X.fs/\(b∈X.ex∨X.s0.heap.objs.size<=b)/\(∀x c,X.env.cells.lookup x=some c->c≠b)/\∀p∈X.pn++pins,p.1≠b
def Inv.fpOk {X:Cx}{σ:St}{H a:Hp}(I:Inv X pins σ H s)(h:s.heap.objs.size<=b)(hn:a b=none):yh X pins a b:=by
 refine⟨hn,ne_of_gt (av I.lt h),I.nofs h,.inr (a8 I.sz h),λx c e z=>?_,λp d z=>?_⟩
 ·obtain⟨v,q⟩:=I.cell x c e
  exact absurd (av q.lt (by rw[z];exact h)) (aN _)
 ·exact absurd (av (aB (I.pin p d).1) (by rw[z];exact h)) (aN _)
structure Turn (P:Program)(w:World)(K:Frag)(tg:Expr)(J:It)(fp:bo)(it:Addr)(tn:Nat->Heap->Prop):Prop where
 mem:it∈fp
 obj:∀i h,tn i h->∀b∈fp,∃o,h.get? b=some o/\∀v,o.data≠.cell v
 keep:∀i h h',tn i h->(∀b∈fp,∀o,h.get? b=some o->h'.get? b=some o)->tn i h'
 item:∀(X:Cx),X.prog=P->X.w=w->X.K=K->X.calm=true->∀(i:Nat)(pins:bp)(s:Shared)(σ:St)(H:Hp)(E:bw),Inv X pins σ H s->(∀b∈fp,yh X pins H b)->tn i s.heap->J.go i H->
  wpAny (model P w) X.A (pyNext (.ref it)) (λr s1=>∃u,r=some u/\
   wpAny (model P w) X.A (letOwnedTupleGo tg (.ref it) u) (λ_ s2=>∃x H',Inv X pins σ H' s2/\RelV x u/\J.yld i H x H'/\tn (i+1) s2.heap/\∀b∈fp,H' b=none) E s1) E s
 done:∀(X:Cx),X.prog=P->X.w=w->X.K=K->X.calm=true->∀(i:Nat)(pins:bp)(s:Shared)(σ:St)(H:Hp)(E:bw),Inv X pins σ H s->(∀b∈fp,yh X pins H b)->tn i s.heap->J.stop i H->
  wpAny (model P w) X.A (pyNext (.ref it)) (λr s1=>r=none/\Inv X pins σ H s1) E s
 self:∀(A:Around)(i:Nat)(s:Shared)(Q:bw)(E:bw),tn i s.heap->Q (.ref it) s->wpAny (model P w) A (pyIter (.ref it)) Q E s
abbrev TI:=St->Hp->(It->Hp->Prop)->Prop
inductive VD (X:Cx)(pins:bp)(σ:St)(tg:Expr)(R:It->Hp->Prop)(itv:Value)(s2:Shared):Prop
 |mk (it:Addr) (fp:bo) (tn:Nat->Heap->Prop) (J:It) (H':Hp) (e:itv=.ref it) (I:Inv X pins σ H' s2) (T:Turn X.prog X.w X.K tg J fp it tn) (t0:tn 0 s2.heap) (f:(∀b∈fp,yh X pins H' b)) (q:R J H')
def PI (X:Cx)(t iter:Expr)(wi:TI):Prop:=
 ∀(pins:bp)(s:Shared)(σ:St)(H:Hp)(R:It->Hp->Prop),Inv X pins σ H s->wi σ H R->
  wpAny (model X.prog X.w) X.A (eval iter X.env) (λv s1=>wpAny (model X.prog X.w) X.A (pyIter v) (VD X pins σ t R) X.xe s1) X.xe s
def JU {A:Around}{it:Addr}{o:Obj}{n:String}{v:Array Value}{Q:Unit->Shared->Prop}(a:s.heap.get? it=some o)(c:o.cls=.type n)(hd:o.data=.fields v)
  (hn:["enumerate","zip","dict_itemiterator","dict_reverseitemiterator","odict_iterator","itertools.zip_longest","itertools.pairwise"].contains n=false)(H:Q () s):wpAny M A (letOwnedTupleGo tg (.ref it) u) Q E s:=by
 unfold letOwnedTupleGo;cases tg<;>first
  |exact bH H
  |(cases u<;>first
    |exact bH H
    |(
      refine bG (wpAny_load a ?_);rw[c,hd];show wpAny M A (if (["enumerate","zip","dict_itemiterator","dict_reverseitemiterator","odict_iterator","itertools.zip_longest","itertools.pairwise"].contains n&&v[0]?==some (rawInt _))=true then _ else _) Q E s;rw[af (by intro h;rw[hn,Bool.false_and]at h;cases h)]
      exact bH H))
noncomputable def VF (K:Frag)(a:Addr):It:=
 ⟨λi H=>∃xs x,qT K H a xs/\xs[i]? =some x,λi H x h=>h=H/\∀xs,qT K H a xs->xs[i]? =some x,λi H=>∃xs,qT K H a xs/\xs.length<=i⟩
noncomputable def Vo (K:Frag)(a:Addr):It:=
 ⟨λi H=>∃xs x,qb K H a xs/\xs[i]? =some x,λi H x h=>h=H/\∀xs,qb K H a xs->xs[i]? =some x,λi H=>∃xs,qb K H a xs/\xs.length<=i⟩
noncomputable def Yi (lo:Int)(n:Nat):It:=⟨λi _=>i<n,λi H x h=>h=H/\x=.int (lo+i),λi _=>n<=i⟩
def Tq {K:Frag}(a it:Addr):Turn P w K tg (VF K a) [it] it (λi h=>h.IsListIter it a i) where
 mem:=by simp
 obj:=λi h st b f=>by
  have e:b=it:=by simpa using f
  subst e;obtain⟨o,e,c,d⟩:=st;exact⟨o,e,λv z=>by rw[d]at z;cases z⟩
 keep:=λi h h' st k=>st.at λo e=>k it (by simp) o e
 item:=by
  intro X n hw t B i pins s σ H E I hf st l;subst n hw t;obtain⟨xs,x,q,j⟩:=l;obtain⟨g,r,p,J⟩:=I.list q;obtain⟨u,M,D⟩:=r.get j;obtain⟨f0,f1,f2,A,f4,y⟩:=hf it (by simp)
  refine wpAny_pyNext_list_item st p.isList (x:=u) (by simpa using M) λh' S C=>?_
  have Q:Inv X pins σ H { s with heap:=h' }:=I.turned (t':=s.toks) (λb o f e=>(C.2 b f).trans e) f0 f1 A f4 y
  obtain⟨o,e,c,d⟩:=id S;exact⟨u,rfl,JU (s:={ s with heap:=h' }) e c d (by decide) ⟨x,H,Q,D,⟨rfl,λY L=>by rw[I.list_inj L q];exact j⟩,S,λb f=>(hf b f).1⟩⟩
 done:=by
  intro X n hw t B i pins s σ H E I hf st l;subst n hw t;obtain⟨xs,q,j⟩:=l;obtain⟨g,r,p,J⟩:=I.list q;obtain⟨f0,f1,f2,A,f4,y⟩:=hf it (by simp)
  have T:=r.length;exact wpAny_pyNext_list_end (I.ok.hd B) st p.isList (by simp;omega) λh' N=>⟨rfl,I.turned (t':=s.toks) (λb o f e=>N b o f e) f0 f1 A f4 y⟩
 self:=λ_ _ _ _ _ st h=>wpAny_pyIter_listiter st h
def UM {K:Frag}(a it:Addr):Turn P w K tg (Vo K a) [it] it (λi h=>h.IsTupleIter it a i) where
 mem:=by simp
 obj:=λi h st b g=>by
  have e:b=it:=by simpa using g
  subst e;obtain⟨o,e,c,d⟩:=st;exact⟨o,e,λv z=>by rw[d]at z;cases z⟩
 keep:=λi h h' st k=>st.at λo e=>k it (by simp) o e
 item:=by
  intro X n hw t B i pins s σ H E I hf st l;subst n hw t;obtain⟨xs,x,q,j⟩:=l;obtain⟨f,r,p,J⟩:=I.tuple q;obtain⟨u,M,D⟩:=r.get j;obtain⟨f0,f1,f2,A,f4,y⟩:=hf it (by simp)
  refine wpAny_pyNext_tuple_item st (show s.heap.IsTuple a f.toArray from p) (x:=u) (by simpa using M) λh' S C=>?_
  have Q:Inv X pins σ H { s with heap:=h' }:=I.turned (t':=s.toks) (λb o g e=>(C.2 b g).trans e) f0 f1 A f4 y
  obtain⟨o,e,c,d⟩:=id S;exact⟨u,rfl,JU (s:={ s with heap:=h' }) e c d (by decide) ⟨x,H,Q,D,⟨rfl,λY L=>by rw[I.tuple_inj L q];exact j⟩,S,λb g=>(hf b g).1⟩⟩
 done:=by
  intro X n hw t B i pins s σ H E I hf st l;subst n hw t;obtain⟨xs,q,j⟩:=l;obtain⟨f,r,p,J⟩:=I.tuple q;obtain⟨f0,f1,f2,A,f4,y⟩:=hf it (by simp)
  have T:=r.length;exact wpAny_pyNext_tuple_end (I.ok.hd B) st (show s.heap.IsTuple a f.toArray from p) (by simp;omega) λh' N=>⟨rfl,I.turned (t':=s.toks) (λb o g e=>N b o g e) f0 f1 A f4 y⟩
 self:=λ_ _ _ _ _ st h=>wpAny_pyIter_tupleiter st h
def UR {K:Frag}(it:Addr)(lo:Int)(n:Nat):Turn P w K tg (Yi lo n) [it] it (λi h=>IsRangeIter h it (lo+(i:Nat) * 1) ((n:Int)-(i:Nat)) 1) where
 mem:=by simp
 obj:=λi h st b a=>by
  have e:b=it:=by simpa using a
  subst e;exact⟨_,st,λv z=>by
   have Z:Data.fields _=Data.cell v:=z;cases Z⟩
 keep:=λi h h' st k=>k it (by simp) _ st
 item:=by
  intro X d hw f c i pins s σ H E I hf st g;subst d hw f;obtain⟨f0,f1,f2,l,f4,j⟩:=hf it (by simp)
  have W:=Walks.range (prog:=X.prog) (w:=X.w) (I.ok.hd c) it lo 1 n;refine W.item i s _ _ g st λv h' T hv S kk=>?_;obtain⟨t,rfl⟩:=hv;have q:Inv X pins σ H { s with heap:=h',toks:=T }:=I.turned (λb o a e=>kk b o (by simpa using a) e) f0 f1 l f4 j
  refine⟨_,rfl,JU (s:={ s with heap:=h',toks:=T }) (n := "range_iterator") S rfl rfl (by decide) ⟨.int (lo+i),H,q,⟨t,?_⟩,⟨rfl,rfl⟩,S,λb a=>(hf b a).1⟩⟩
  rw[mul_one]
 done:=by
  intro X d hw f c i pins s σ H E I hf st g;subst d hw f;obtain⟨f0,f1,f2,l,f4,j⟩:=hf it (by simp)
  exact wpAny_pyNext_range_end (I.ok.hd c) st (by have:n<=i:=g;omega) λh' p=>⟨rfl,I.turned (t':=s.toks) (λb o a e=>p b o a e) f0 f1 l f4 j⟩
 self:=λ_ _ _ _ _ st h=>wpAny_pyIter_rangeiter st h
section
variable {X:Cx}
def T4 {σ:St}{H:Hp}{R:It->Hp->Prop}{lo h:Int}{t u v:Tok}{T:Nat}(I:Inv X pins σ H s)(h1:-(2 ^ 62)<=lo)(f:lo<2 ^ 62)(d:-(2 ^ 62)<=h)(c:h<2 ^ 62)
  (q:R (Yi lo (h-lo).toNat) H):wpAny (model X.prog X.w) X.A (pyIter (.ref s.heap.objs.size)) (VD X pins σ tg R) E { s with heap:=s.heap.push { cls:=.type "range",data:=.fields #[.int lo t,.int h u,.int 1 v] },toks:=T }:=by
 refine wpAny_pyIter_range (IsRange.new ..) (small_one h1 f d c) ?_;have i:Inv X pins σ H { s with heap:=s.heap.push { cls:=.type "range",data:=.fields #[.int lo t,.int h u,.int 1 v] },toks:=T }:=I.kept λb o e=>ae _ e
 refine⟨(s.heap.push { cls:=.type "range",data:=.fields #[.int lo t,.int h u,.int 1 v] }).objs.size,[(s.heap.push { cls:=.type "range",data:=.fields #[.int lo t,.int h u,.int 1 v] }).objs.size],_,_,H,rfl,
  i.kept (t':=T) λb o e=>ae _ e,UR _ lo (h-lo).toNat,?_,λb a=>?_,q⟩
 ·have j:lo+((0:Nat):Int) * 1=lo:=by simp
  have g:(((h-lo).toNat:Nat):Int)-((0:Nat):Int)=Builtin.Range.rangeSize lo h 1:=by rw[rangeSize_one];split<;>omega
  show IsRangeIter _ _ (lo+((0:Nat):Int) * 1) ((((h-lo).toNat:Nat):Int)-((0:Nat):Int)) 1;rw[j,g];exact au _ rfl
 ·have e:b=(s.heap.push { cls:=.type "range",data:=.fields #[.int lo t,.int h u,.int 1 v] }).objs.size:=by simpa using a
  subst e;exact i.fpOk (aA _) (i.hok.fresh (aA _))
def NI (t:TA):TI:=λσ H R=>t σ H λv H1=>∃j:Int,v=[.int j]/\-(2 ^ 62)<=j/\j<2 ^ 62/\R (Yi 0 j.toNat) H1
def UY {a:Expr}{T:TA}(g:Gl X "range")(hm:X.mg "range"=none)(i:PA X [a] T)(f:starEach [a] X.env=[(false,eval a X.env)]:=by rfl):PI X tg (.Call (.Name "range" p) [a] [] pos) (NI T):=by
 intro pins s σ H R I h;refine Call_ (QH I g hm boot_range (PyProof.Rows.callWith_type1 (zM (i pos pins s σ H _ I h) λus s1 ⟨v,H1,k,c,Q⟩=>?_) f rfl));obtain⟨j,e,Q,d,q⟩:=Q;subst e;cases c with
 |cons r b=>
  cases b;obtain⟨t,rfl⟩:=r;exact call_range_1 (T4 k (by omega) (by omega) Q d (by simpa using q))
def M0 (wi:TI)(g:TG)(t:TS):TS:=λD σ H=>wi σ H λJ H1=>∃W:Nat->Nat->St->Hp->Prop,(∃m,W 0 m σ H1)/\∀i m σ H,W i m σ H->
 (J.stop i H/\D.nx σ H)∨(J.go i H/\∃N:St->Hp->Prop,(∀a h,N a h->∃M,M<m/\W (i+1) M a h)/\∀x h,J.yld i H x h->g x σ h λb c=>t { D with nx:=N,ct:=N,bk:=D.nx } b c)
noncomputable def QD (fp:bo)(h:Heap):bp:=fp.filterMap λb=>(h.get? b).map λo=>(b,o)
def Jk {o:Obj}(H:b∈fp)(e:h.get? b=some o):(b,o)∈QD fp h:=List.mem_filterMap.mpr ⟨b,H,by rw[e];rfl⟩
def Tb {p:Addr×Obj}(H:p∈QD fp h):p.1∈fp/\h.get? p.1=some p.2:=by
 obtain⟨b,a,e⟩:=List.mem_filterMap.mp H;cases q:h.get? b with
 |none=>rw[q]at e;cases e|some o=>
  rw[q]at e;have E:(b,o)=p:=ao e;subst E;exact⟨a,q⟩
def Inv.pinned {σ:St}{H:Hp}(I:Inv X pins σ H s)(hf:∀b∈fp,yh X pins H b)(c:∀b∈fp,∃o,s.heap.get? b=some o/\∀v,o.data≠.cell v):Inv X (pins++QD fp s.heap) σ H s:=
 I.pins_of λp a=>(List.mem_append.mp a).elim (λz=>I.pin p (aL _ z)) λz=>by
  obtain⟨h,e⟩:=Tb z;obtain⟨f0,f1,f2,_⟩:=hf p.1 h;obtain⟨o,E,d⟩:=c p.1 h;rw[e]at E;cases E;exact⟨e,f0,f1,f2,d⟩
def Inv.unpinned {P:bp}{σ:St}{H:Hp}(I:Inv X (pins++P) σ H s):Inv X pins σ H s:=I.pins_of λp h=>I.pin p (aL _ (List.mem_append_left _ h))
def OQ {iter:Expr}{body:bF}{wi:TI}{g:TG}{U:TS}(z:PassesOwn (model X.prog X.w) X.A X.env X.xe)(Y:X.calm=true)(hi:PI X tg iter wi)(hg:PG X tg g)(k:jL X body U)
  (hs:∀x,foldedSetIterable iter X.env x=pure x:=by intro _;rfl):PS X (.For tg iter body [] pos) (M0 wi g U):=by
 intro pins s σ H D I h;refine wpAny_For (zM (hi pins s σ H _ I h) λv s1 h1=>zM h1 λitv s2 h2=>?_) hs;obtain⟨it,fp,Q,J,H2,e,I2,T,kR,f2,W,⟨m0,w0⟩,turn⟩:=h2;subst e;have S:∀{H':Hp},(∀b∈fp,H' b=none)->∀b∈fp,yh X pins H' b:=λhn b k=>⟨hn b k,(f2 b k).2⟩;refine codeAny_forLoop_any (λn s'=>∃i j H',Inv X pins j H' s'/\Q i s'.heap/\(∀b∈fp,H' b=none)/\W i n j H') ?_ m0 ⟨0,σ,H2,I2,kR,λb k=>(f2 b k).1,w0⟩
 rintro n s3 ⟨i,c,C,Z,km,B,w3⟩
 rcases turn i n c C w3 with ⟨stop,qn⟩|⟨go,N,hN,step⟩
 ·refine wpAny_passesOwn z (zM (T.done X rfl rfl rfl Y i pins s3 c C X.xe Z (S B) km stop) λr s4 ⟨L,I4⟩=>?_)
  subst L;exact wpAny_execs_nil ⟨c,C,I4,qn⟩
 ·refine wpAny_passesOwn z (zM (T.item X rfl rfl rfl Y i pins s3 c C X.xe Z (S B) km go) λr s4 ⟨u,L,h4⟩=>?_)
  subst L;refine wpAny_passesOwn z (zM h4 λ_ s5 ⟨x,H5,I5,r5,y5,t,M⟩=>?_);have P:=I5.pinned (S M) (T.obj _ _ t);refine wpAny_passesOwn z (zM (hg _ s5 c H5 x u _ P r5 (step x H5 y5)) λ_ s6 ⟨E,H6,I6,q6⟩=>?_);refine wpAny_passesOwn z (zM (k _ s6 E H6 _ I6 q6) λf K q=>?_);have again:∀{a:St}{p:Hp},Inv X (pins++QD fp s5.heap) a p K->N a p->∃m,m<n/\∃i j H',Inv X pins j H' K/\Q i K.heap/\(∀b∈fp,H' b=none)/\W i m j H':=λ {a p} l y=>by
   obtain⟨m',hm,w7⟩:=hN a p y;refine⟨m',hm,i+1,a,p,l.unpinned,T.keep _ _ _ t λb k o e=>(l.pin (b,o) (aL _ (aL _ (Jk k e)))).1,λb k=>?_,w7⟩;obtain⟨o,e,d⟩:=T.obj _ _ t b k;exact(l.pin (b,o) (aL _ (aL _ (Jk k e)))).2.1
  cases f with
  |next=>obtain⟨a,p,l,y⟩:=q;exact again l y|cont=>obtain⟨a,p,l,y⟩:=q;exact again l y|brk=>obtain⟨a,p,l,q⟩:=q;exact⟨a,p,l.unpinned,q⟩|ret v=>obtain⟨x7,a,p,l,r7,q⟩:=q;exact⟨x7,a,p,l.unpinned,r7,q⟩
end
abbrev R2:=V->V->Hp->VK->Prop
def qw (X:Cx)(f:Value->Value->Sem Value)(r:R2):Prop:=
 ∀(pins:bp)(s:Shared)(σ:St)(H:Hp)(x y:V)(v u:Value)(Q:VK),Inv X pins σ H s->RelV x v->RelV y u->r x y H Q->
  wpAny (model X.prog X.w) X.A (f v u) (EP X pins σ Q) X.xe s
def Yt (X:Cx)(f:Value->Sem Value)(r:V->Hp->VK->Prop):Prop:=
 ∀(pins:bp)(s:Shared)(σ:St)(H:Hp)(x:V)(v:Value)(Q:VK),Inv X pins σ H s->RelV x v->r x H Q->
  wpAny (model X.prog X.w) X.A (f v) (EP X pins σ Q) X.xe s
def yq (X:Cx)(f:Value)(r:List V->Hp->VK->Prop):Prop:=
 ∀(pins:bp)(s:Shared)(σ:St)(H:Hp)(xs:List V)(us:bj)(Q:VK),Inv X pins σ H s->Vals xs us->r xs H Q->
  wpAny (model X.prog X.w) X.A (call f us) (EP X pins σ Q) X.xe s
noncomputable def Q4 (r:R2)(T t:TE):TE:=λσ H Q=>T σ H λx H1=>t σ H1 λy h=>r x y h Q
noncomputable def Vz (r:V->Hp->VK->Prop)(t:TE):TE:=λσ H Q=>t σ H λx H1=>r x H1 Q
noncomputable def rI (C:Int->Int->Prop)(g:Int->Int->V):R2:=λx y H Q=>∃i j,x=.int i/\y=.int j/\C i j/\Q (g i j) H
noncomputable def wt (g:Int->Int->V):R2:=λx y H Q=>∃i j,x=.int i/\y=.int j/\Q (g i j) H
noncomputable def rU (g:Int->V):V->Hp->VK->Prop:=λx H Q=>∃i,x=.int i/\Q (g i) H
section
variable {X:Cx}{a b:Expr}{ta tb:TE}
def Wb (j:PE X a ta)(i:PE X b tb){σ:St}{H:Hp}{R:V->V->Hp->Prop}(I:Inv X pins σ H s)
  (h:ta σ H λx H1=>tb σ H1 λy c=>R x y c){f:Value->Value->Sem Value}
  (hf:∀v u s2 x y c,Inv X pins σ c s2->RelV x v->RelV y u->R x y c->wpAny (model X.prog X.w) X.A (f v u) Q X.xe s2):
  wpAny (model X.prog X.w) X.A (eval a X.env) (λv d=>wpAny (model X.prog X.w) X.A (eval b X.env) (λu S=>wpAny (model X.prog X.w) X.A (f v u) Q X.xe S) X.xe d) X.xe s:=by
 refine zM (j pins s σ H _ I h) λv s1 ⟨x,H1,l,e,g⟩=>?_;refine zM (i pins s1 σ H1 _ l g) λu s2 ⟨y,c,k,r,q⟩=>?_;exact hf v u s2 x y c k e r q
def Mr {op:Operator}{r:R2}(o:qw X (binaryOp op) r)(f:PE X a ta)(e:PE X b tb):PE X (.BinOp a op b pos) (Q4 r ta tb):=by
 intro pins s σ H Q I h;exact wpAny_BinOp (Wb f e I h λv u s2 x y g i d c q=>o pins s2 σ g x y v u Q i d c q)
def NM {op:UnaryOp}{r:V->Hp->VK->Prop}(o:Yt X (unaryOp op) r)(c:PE X a ta):PE X (.UnaryOp op a pos) (Vz r ta):=by
 intro pins s σ H Q I h;exact UnaryOp_ (zM (c pins s σ H _ I h) λv s1 ⟨x,H1,i,b,q⟩=>o pins s1 σ H1 x v Q i b q)
def Yr {f:Value->Value->Sem Value}{C:Int->Int->Prop}{g:Int->Int->Int}
  (rule:∀(i j:Int)(t u:Tok)(s:Shared)(Q:bw)(E:bw),C i j->Q (.int (g i j) s.toks) { s with toks:=s.toks+1 }->wpAny (model X.prog X.w) X.A (f (.int i t) (.int j u)) Q E s):
  qw X f (rI C λi j=>.int (g i j)):=by
 intro pins s σ H x y v u Q I a r h;obtain⟨i,j,rfl,rfl,c,q⟩:=h;obtain⟨t,rfl⟩:=a;obtain⟨t',rfl⟩:=r;exact rule i j t t' s _ _ c ⟨.int (g i j),H,I.tok _,⟨_,rfl⟩,q⟩
def Vl {f:Value->Value->Sem Value}{g:Int->Int->Int}
  (rule:∀(i j:Int)(t u:Tok)(s:Shared)(Q:bw)(E:bw),Q (.int (g i j) s.toks) { s with toks:=s.toks+1 }->wpAny (model X.prog X.w) X.A (f (.int i t) (.int j u)) Q E s):
  qw X f (wt λi j=>.int (g i j)):=by
 intro pins s σ H x y v u Q I a r h;obtain⟨i,j,rfl,rfl,q⟩:=h;obtain⟨t,rfl⟩:=a;obtain⟨t',rfl⟩:=r;exact rule i j t t' s _ _ ⟨.int (g i j),H,I.tok _,⟨_,rfl⟩,q⟩
def JX {f:Value->Value->Sem Value}{g:Int->Int->Bool}
  (rule:∀(i j:Int)(t u:Tok)(s:Shared)(Q:bw)(E:bw),Q (.bool (g i j)) s->wpAny (model X.prog X.w) X.A (f (.int i t) (.int j u)) Q E s):
  qw X f (wt λi j=>.bl (g i j)):=by
 intro pins s σ H x y v u Q I a r h;obtain⟨i,j,rfl,rfl,q⟩:=h;obtain⟨t,rfl⟩:=a;obtain⟨t',rfl⟩:=r;exact rule i j t t' s _ _ ⟨.bl (g i j),H,I,rfl,q⟩
def Vd (i j:Int):Prop:=0<j/\j<1073741824
def Vb (i j:Int):Prop:=0<=j/\j<=1000000/\i.natAbs<2 ^ 64
def QX (i j:Int):Prop:=(-(2 ^ 64)<i/\i<2 ^ 64)∨(-(2 ^ 64)<j/\j<2 ^ 64)
def QX.ok {i j:Int}(h:QX i j):IntMulOk i j:=by
 rcases h with ⟨h1,H⟩|⟨h1,H⟩
 ·exact .of_left (intBits_le_64 h1 H)
 ·exact .of_right (intBits_le_64 h1 H)
def Nd:qw X (binaryOp .Add) (wt λi j=>.int (i+j)):=Vl λ_ _ _ _ _ _ _ q=>add_int q
def Nl:qw X (binaryOp .Sub) (wt λi j=>.int (i-j)):=Vl λ_ _ _ _ _ _ _ q=>sub_int q
def P9:qw X (binaryOp .Mult) (rI QX λi j=>.int (i * j)):=Yr λ_ _ _ _ _ _ _ h q=>mul_int q h.ok
def R7:qw X (binaryOp .FloorDiv) (rI Vd λi j=>.int (i/j)):=Yr λi j _ _ _ _ _ h q=>by
 have h1:(0:Int)<j:=h.1;have H:j<1073741824:=h.2;exact floordiv_int (by omega) (by rw[Int.fdiv_eq_ediv_of_nonneg i (by omega)];exact q) (.inl (PyProof.noPylong_small (by omega)))
def PV:qw X (binaryOp .Mod) (rI (λ_ j=>0<j) λi j=>.int (i%j)):=Yr λi j _ _ _ _ _ h q=>by
 have h1:(0:Int)<j:=h;exact mod_int' (by omega) (by rw[Int.fmod_eq_emod_of_nonneg i (by omega)];exact q)
def O1:qw X (binaryOp .Pow) (rI Vb λi j=>.int (i ^ j.toNat)):=Yr λ_ _ _ _ _ _ _ h q=>pow_int_small h.1 h.2.1 h.2.2 q
def LZ {f:Value->Sem Value}{g:Int->Int}
  (rule:∀(i:Int)(t:Tok)(s:Shared)(Q:bw)(E:bw),Q (.int (g i) s.toks) { s with toks:=s.toks+1 }->wpAny (model X.prog X.w) X.A (f (.int i t)) Q E s):
  Yt X f (rU λi=>.int (g i)):=by
 intro pins s σ H x v Q I r h;obtain⟨i,rfl,q⟩:=h;obtain⟨t,rfl⟩:=r;exact rule i t s _ _ ⟨.int (g i),H,I.tok _,⟨_,rfl⟩,q⟩
def Oj:Yt X (unaryOp .USub) (rU λi=>.int (-i)):=LZ λ_ _ _ _ _ q=>neg_int q
variable {c:Expr}{tc:TE}
def NU:qw X (compareOp .Lt) (wt λi j=>.bl (decide (i<j))):=JX λ_ _ _ _ _ _ _ q=>lt_int q
def Mh:qw X (compareOp .LtE) (wt λi j=>.bl (decide (i<=j))):=JX λ_ _ _ _ _ _ _ q=>le_int q
def Mw:qw X (compareOp .Gt) (wt λi j=>.bl (decide (j<i))):=JX λ_ _ _ _ _ _ _ q=>gt_int q
def Mu:qw X (compareOp .GtE) (wt λi j=>.bl (decide (j<=i))):=JX λ_ _ _ _ _ _ _ q=>ge_int q
def qw.or {f:Value->Value->Sem Value}{r c:R2}(h:qw X f r)(h':qw X f c):qw X f (λx y H Q=>r x y H Q∨c x y H Q):=by
 intro pins s σ H x y v u Q I b a q;rcases q with q|q
 ·exact h pins s σ H x y v u Q I b a q
 ·exact h' pins s σ H x y v u Q I b a q
def Rl {r:R2}(o:qw X (compareOp op) r)(f:PE X a ta)(e:PE X b tb)(hm:behindInMarks op b=false):PE X (.Compare a [op] [b] pos) (Q4 r ta tb):=by
 intro pins s σ H Q I h;exact wpAny_Compare1 (Wb f e I h λv u s2 x y g i d c q=>o pins s2 σ g x y v u Q i d c q) hm
noncomputable def X5 (t:TE):TT:=λσ H Q=>t σ H λx h=>∃k,x=.bl k/\Q k h
def RW {r:R2}(o:qw X (compareOp op) r)(n:PE X a ta)(l:PE X b tb)(hm:behindInMarks op b=false):PT X (.Compare a [op] [b] pos) (X5 (Q4 r ta tb)):=by
 intro pins s σ H Q I h;refine wpAny_isTrue_Compare1 (zM (n pins s σ H _ I h) λv s1 ⟨x,H1,w,g,j⟩=>zM (l pins s1 σ H1 _ w j) λu s2 ⟨y,B,t,f,i⟩=>
  zM (o pins s2 σ B x y v u _ t g f i) λc s3 ⟨z,A,p,d,k,e,q⟩=>?_) hm
 subst e;cases d;exact wpAny_truthy_bool ⟨A,p,q⟩
noncomputable def Kt (r b:R2)(a T t:TE):TE:=λσ H Q=>a σ H λx H1=>T σ H1 λy d=>r x y d λz h=>∃k,z=.bl k/\
 (if k=true then t σ h λw c=>b y w c Q else Q (.bl false) h)
def TX {o:CmpOp}{r i:R2}(D:qw X (compareOp op) r)(f:qw X (compareOp o) i)(K:PE X a ta)(J:PE X b tb)(E:PE X c tc)
  (hm:lastMarks [op,o] [b,c]=false:=by with_unfolding_all rfl):PE X (.Compare a [op,o] [b,c] pos) (Kt r i ta tb tc):=by
 intro pins s σ H Q I h;refine Compare_chain (zM (K pins s σ H _ I h) λv s1 ⟨x,H1,N,t,C⟩=>chain_link (zM (J pins s1 σ H1 _ N C) λu s2 ⟨y,S,M,g,B⟩=>
  zM (D pins s2 σ S x y v u _ M t g B) λd s3 ⟨z,l,j,p,k,e,q⟩=>?_)) hm
 subst e;cases p;refine wpAny_truthy_bool ?_;cases k with
 |false=>exact ite_ff ⟨.bl false,l,j,rfl,q⟩|true=>exact ite_tt (chain_last (zM (E pins s3 σ l _ j q) λw s4 ⟨Z,P,L,n,A⟩=>f pins s4 σ P y Z u w Q L g n A))
def Sx {o:CmpOp}{r i:R2}(K:qw X (compareOp op) r)(f:qw X (compareOp o) i)(N:PE X a ta)(M:PE X b tb)(L:PE X c tc)
  (hm:lastMarks [op,o] [b,c]=false:=by with_unfolding_all rfl):PT X (.Compare a [op,o] [b,c] pos) (X5 (Kt r i ta tb tc)):=by
 intro pins s σ H Q I h;refine isTrue_chain (zM (N pins s σ H _ I h) λv s1 ⟨x,H1,I1,A,E⟩=>test_link (zM (M pins s1 σ H1 _ I1 E) λu s2 ⟨y,H2,Y,g,D⟩=>
  zM (K pins s2 σ H2 x y v u _ Y A g D) λd s3 ⟨z,l,j,t,k,e,q⟩=>?_)) hm
 subst e;cases t;refine wpAny_truthy_bool ?_;cases k with
 |false=>
  obtain⟨k',S,J⟩:=q;cases S;exact ite_ff ⟨l,j,J⟩
 |true=>
  refine ite_tt (test_last (zM (L pins s3 σ l _ j q) λw s4 ⟨Z,H4,U,p,C⟩=>zM (f pins s4 σ H4 y Z u w _ U g p C) λd' s5 ⟨z2,H5,T,n,k2,P,B⟩=>?_));subst P;cases n;exact wpAny_truthy_bool ⟨H5,T,B⟩
def QJ:(sizeLine:Nat)<2 ^ 63:=by rw[sizeLine_eq];decide
def vals1 {x:V}(r:Vals [x] us):∃u,us=[u]/\RelV x u:=by
 cases r with
 |cons b a=>cases a;exact⟨_,rfl,b⟩
def vals2 {x y:V}(r:Vals [x,y] us):∃u w,us=[u,w]/\RelV x u/\RelV y w:=by
 cases r with
 |cons d c=>
  cases c with
  |cons b a=>cases a;exact⟨_,_,rfl,d,b⟩
def SU:yq X (.builtin "abs") (λxs H Q=>∃i,xs=[.int i]/\Q (.int (if i<0 then -i else i)) H):=by
 intro pins s σ H xs us Q I r h;obtain⟨i,rfl,q⟩:=h;obtain⟨u,rfl,t,rfl⟩:=vals1 r;exact call_abs_int λu T=>⟨.int (if i<0 then -i else i),H,I.tok _,⟨_,rfl⟩,q⟩
def UU (c:X.calm=true):yq X (.builtin "max") (λxs H Q=>∃i j,xs=[.int i,.int j]/\Q (.int (if j > i then j else i)) H):=by
 intro pins s σ H xs us Q I r h;obtain⟨i,j,rfl,q⟩:=h;obtain⟨u,w,rfl,⟨t,rfl⟩,⟨t',rfl⟩⟩:=vals2 r;refine max_two_ints (I.ok.hd c) λh' T k=>⟨_,H,I.kept k,?_,q⟩
 by_cases a:j > i
 ·rw[aa a,aa a];exact⟨_,rfl⟩
 ·rw[af a,af a];exact⟨_,rfl⟩
def UZ (c:X.calm=true):yq X (.builtin "min") (λxs H Q=>∃i j,xs=[.int i,.int j]/\Q (.int (if j<i then j else i)) H):=by
 intro pins s σ H xs us Q I r h;obtain⟨i,j,rfl,q⟩:=h;obtain⟨u,w,rfl,⟨t,rfl⟩,⟨t',rfl⟩⟩:=vals2 r;refine min_two_ints (I.ok.hd c) λh' T k=>⟨_,H,I.kept k,?_,q⟩
 by_cases a:j<i
 ·rw[aa a,aa a];exact⟨_,rfl⟩
 ·rw[af a,af a];exact⟨_,rfl⟩
def UT:yq X (.type "int") (λxs H Q=>(∃i,xs=[.int i]/\Q (.int i) H)∨∃k,xs=[.bl k]/\Q (.int (if k then 1 else 0)) H):=by
 intro pins s σ H xs us Q I r h;rcases h with ⟨i,rfl,q⟩|⟨k,rfl,q⟩
 ·obtain⟨u,rfl,t,rfl⟩:=vals1 r
  exact call_int_int ⟨.int i,H,I,⟨_,rfl⟩,q⟩
 ·obtain⟨u,rfl,a⟩:=vals1 r
  cases a;exact call_int_bool ⟨.int (if k then 1 else 0),H,I.tok _,⟨_,rfl⟩,q⟩
end
structure K8 (h:Heap)(x dx C:Addr)(mA:bz):Prop where
 obj:h.get? x=some (instObj C dx)
 ns:h.Ns1 dx mA
 ne:dx≠x
def Tt {D:Addr}{M:bz}(n:h.Ns1 D M):∃d,h.get? D=some d/\∀name,lookIn name d=some (M name):=by
 obtain⟨o,es,E,c,hd,k,_,hm⟩:=n;refine⟨o,c,λname=>?_⟩;have e:=hm name;unfold nsFind findBy at e;rw[<- Array.find?_toList]at e;unfold lookIn;rw[hd];dsimp only
 split
 ·rename_i y q
  rw[q]at e;exact congrArg some e
 ·rename_i q
  rw[q]at e;have a:es.toList.any (·.refKey)=false:=by
   rw[List.any_eq_false];intro y b;obtain⟨z,t,H⟩:=k y (Array.mem_toList_iff.mp b);simp[DictEntry.refKey,H]
  have A:¬es.toList.any (·.refKey)=true:=by rw[a];exact ar
  rw[af A];exact congrArg some e
def K8.look {x d C:Addr}{M:bz}(I:K8 h x d C M):∃o,PySem.W.InstAt h x (instObj C d) C (some o)/\∀name,lookIn name o=some (M name):=
 let ⟨o,H,l⟩:=Tt I.ns
 ⟨o,⟨I.obj,rfl,rfl,H⟩,l⟩
def we.some_of {v:V}{o:br}(r:we (some v) o):∃u,o=some u/\RelV v u:=by
 cases o with
 |none=>exact(show False from r).elim|some u=>exact⟨u,rfl,r⟩
def we.none_of {o:br}(r:we none o):o=none:=by
 cases o with
 |none=>rfl|some u=>exact(show False from r).elim
section
variable {H:Hp}{C dx:Addr}{fs:List (Str×V)}
def RK (hok:qg P w H h)(e:H a=some (.ins C dx fs)):∃M,K8 h a dx C M/\(∀f,we (fs.lookup f) (M f))/\PySem.Within M (fs.map (·.1))/\fs.length<=1000/\H dx=some (.own a):=by
 obtain⟨d,z,ne,ob,M,n,r,q⟩:=(show qI P w H h a (.ins C dx fs) from hok a _ e)
 exact⟨M,⟨ob,n,ne⟩,r,q,z,d⟩
end
structure yH (K:Frag)(C:Addr):Prop where
 pg:plainGet K C Str.empty=true
 hd:PySem.W.hasDictIn K C=true
 po:PySem.W.plainOver K C=true
 sa:PySem.W.findIn K (.ref C) "__setattr__"=some (some (.builtin "object.__setattr__"))
def yH.get {K:Frag}{C:Addr}(c:yH K C)(f:Str):plainGet K C f=true:=c.pg
section
variable {X:Cx}{σ:St}{H:Hp}{A:Around}{c:Value}{b:Bool}
inductive yO (K:Frag)(H:Hp):V->Value->Prop where
 |non:yO K H .non (.type "NoneType")
 |bl (x:Bool):yO K H (.bl x) (.type "bool")
 |int (i:Int):yO K H (.int i) (.type "int")
 |str (x:Str):yO K H (.str x) (.type "str")
 |flt (x:UInt64):yO K H (.flt x) (.type "float")
 |lst {a:Addr} {xs:List V} (e:H a=some (.lst xs)):yO K H (.ref a) (.type "list")
 |frz {a:Addr} {o:Obj} {xs:List V} (e:H a=some (.frz o (.lst xs))):yO K H (.ref a) (.type "list")
 |tup {a:Addr} {xs:List V} (e:H a=some (.tup xs)):yO K H (.ref a) (.type "tuple")
 |dK {a:Addr} {kvs:List (Key×V)} (e:H a=some (.dK kvs)):yO K H (.ref a) (.type "dict")
 |dT {a:Addr} {kvs:List (List Key×V)} (e:H a=some (.dT kvs)):yO K H (.ref a) (.type "dict")
 |ins {a C dx:Addr} {fs:List (Str×V)} (e:H a=some (.ins C dx fs)) (cl:yH K C) (ha:PySem.W.findIn K (.ref C) "__class__"=some (some (.builtin "object.__class__")))
   (hn:PySem.W.specialIn K (.builtin "object.__class__") "__get__"=some (some (.builtin "getset_descriptor.__get__"))) (htk:PySem.W.takesIn K (.builtin "object.__class__")=some true)
   (hm:PySem.W.mroIn K C (.type "object")=some true):yO K H (.ref a) (.ref C)
def Gn {x:V}{t:Value}(I:Inv X pins σ H s)(r:RelV x u)(ty:yO X.K H x t)(e:kitOne X.K t c=some b)(h:∀T,Q (.bool b) { s with toks:=T }):
  wpAny (model X.prog X.w) A (call (.builtin "isinstance") [u,c]) Q E s:=by
 cases ty with
 |non=>cases (show u=Value.none from r);exact a4 kitx_none I.kIn True.intro e (λz=>nomatch z) h
 |bl y=>cases (show u=Value.bool y from r);exact a4 kitx_bool I.kIn True.intro e (λz=>nomatch z) h
 |int i=>obtain⟨t,q⟩:=(show ∃t,u=Value.int i t from r);cases q;exact a4 kitx_int I.kIn True.intro e (λz=>nomatch z) h
 |str y=>obtain⟨t,q⟩:=(show ∃t,u=Value.str y t from r);cases q;exact a4 kitx_str I.kIn True.intro e (λz=>nomatch z) h
 |flt y=>obtain⟨t,q⟩:=(show ∃t,u=Value.float y t from r);cases q;exact a4 kitx_float I.kIn True.intro e (λz=>nomatch z) h
 |@lst a xs ea=>
  cases (show u=Value.ref a from r)
  obtain⟨_,_,n,_,h1⟩:=(show qI X.prog X.w H s.heap a (.lst xs) from I.hok a _ ea)
  exact a4 kitx_list I.kIn ⟨_,h1,rfl⟩ e (λz=>nomatch z) h
 |@frz a ob xs ea=>
  cases (show u=Value.ref a from r)
  obtain⟨_,_,_,n,_,h1⟩:=(show qI X.prog X.w H s.heap a (.frz ob (.lst xs)) from I.hok a _ ea)
  exact a4 kitx_list I.kIn ⟨_,h1,rfl⟩ e (λz=>nomatch z) h
 |@tup a xs ea=>
  cases (show u=Value.ref a from r)
  obtain⟨_,_,_,p⟩:=(show qI X.prog X.w H s.heap a (.tup xs) from I.hok a _ ea)
  obtain⟨o,h1,d,_⟩:=p;exact a4 kitx_tuple I.kIn ⟨o,h1,d.1⟩ e (λz=>nomatch z) h
 |@dK a kvs ea=>
  cases (show u=Value.ref a from r)
  obtain⟨_,_,v,_,p⟩:=(show qI X.prog X.w H s.heap a (.dK kvs) from I.hok a _ ea)
  obtain⟨o,es,g,h1,d,_⟩:=p;exact a4 kitx_dict I.kIn ⟨o,h1,d.1⟩ e (λz=>nomatch z) h
 |@dT a kvs ea=>
  cases (show u=Value.ref a from r)
  obtain⟨_,_,xs,_,o,es,g,h1,d,_⟩:=(show qI X.prog X.w H s.heap a (.dT kvs) from I.hok a _ ea)
  exact a4 kitx_dict I.kIn ⟨o,h1,d.1⟩ e (λz=>nomatch z) h
 |@ins a C dx fs ea cl f hn k hm=>
  cases (show u=Value.ref a from r)
  obtain⟨M,O,_⟩:=RK I.hok ea;obtain⟨j,J,_⟩:=O.look;exact a4 (PySem.W.kitx_own (cl.get _) cl.hd f hn k hm) I.kIn J e (λz=>nomatch z) h
end
structure qE (k:Nat)(A:Around):Prop where
 hd:A.handled=none
 dp:A.depth+3 * k+5<recursionLimit
 un:A.units+16 * k+200<cLine
def qE.mono {A:Around}(r:qE k A)(h:j<=k):qE j A:=⟨r.hd,by have:=r.dp;omega,by have:=r.un;omega⟩
theorem qE.deeper {A:Around}(r:qE (k+1) A)(env:Env):qE k (A.deeper env):=
 ⟨r.hd,by have:=r.dp;show A.depth+1+3 * k+5<_;omega,by have:=r.un;show A.units+3+16 * k+200<_;omega⟩
theorem qE.depth {A:Around}(r:qE k A):A.depth<recursionLimit:=by have:=r.dp;omega
theorem qE.units {A:Around}(r:qE k A):A.units+64<cLine:=by have:=r.un;omega
noncomputable def K5:TA:=λ_ H Q=>Q [] H
noncomputable def JR (t:TE)(tr:TA):TA:=λσ H Q=>t σ H λx H1=>tr σ H1 λxs h=>Q (x::xs) h
section
variable {X:Cx}{te:TE}{t:TA}
def yC:PA X [] K5:=λ_ _ _ _ H Q I h=>Calls.spliced_nil ⟨[],H,I,.nil,h⟩
def jD (f:PE X e te)(d:PA X es t)(c:starEach (e::es) X.env=(false,eval e X.env)::starEach es X.env:=by rfl):PA X (e::es) (JR te t):=by
 intro pos pins s σ H Q I h;rw[c];show wpAny _ _ (spliced ((false,eval e X.env)::backTo pos (starEach es X.env))) _ _ s;refine Calls.spliced_cons (zM (f pins s σ H _ I h) λu s1 ⟨x,H1,g,a,b⟩=>?_);exact zM (d pos pins s1 σ H1 _ g b) λus s2 ⟨xs,j,i,r,q⟩=>⟨x::xs,j,i,.cons a r,q⟩
def Lb (t:TA):TE:=λσ H Q=>t σ H λxs H1=>xs.length<=sizeLine/\∀p,H1 p=none->Q (.ref p) (upd H1 p (.tup xs))
def Lq (t:TA):TE:=λσ H Q=>t σ H λxs H1=>xs.length<=sizeLine/\∀p,H1 p=none->Q (.ref p) (upd H1 p (.lst xs))
def Xo {x1}(h:PA X es t):PE X (.Tuple es x1 pos) (Lb t):=by
 intro pins s σ H Q I a;refine wpAny_Tuple_spliced (zM (h pos pins s σ H _ I a) λus s1 ⟨xs,H1,i,r,z,q⟩=>⟨by rw[<- r.length];exact z,?_⟩)
 have hf:H1 s1.heap.objs.size=none:=i.hok.fresh (aA _);refine⟨.ref s1.heap.objs.size,upd H1 s1.heap.objs.size (.tup xs),i.laid (t':=s1.toks) (λb u e=>ae _ e) (aA _) ?_,rfl,q _ hf⟩;exact⟨z,us,r,⟨_,au _ rfl,⟨rfl,rfl⟩,_,rfl⟩⟩
def OC (h:PA X es t):PE X (.List es pos) (Lq t):=by
 intro pins s σ H Q I a;refine wpAny_List_spliced (zM (h pos pins s σ H _ I a) λus s1 ⟨xs,H1,i,r,z,q⟩=>⟨by rw[<- r.length];exact z,?_⟩)
 have hf:H1 s1.heap.objs.size=none:=i.hok.fresh (aA _);refine⟨.ref s1.heap.objs.size,upd H1 s1.heap.objs.size (.lst xs),i.laid (t':=s1.toks) (λb u e=>ae _ e) (aA _) ?_,rfl,q _ hf⟩;exact⟨z,us,0,r,au _ rfl⟩
end
abbrev Sp:=List V->Hp->VK->XK->Prop
abbrev kn:=List Env->Hp->Shared->XK->Value->Shared->Prop
structure Qc (P:Program)(w:World)(K:Frag)(mg:bz)(base:Heap)(A:Around)(outer:bA)(s:Shared)(H:Hp):Prop where
 frames:A.frames=some outer
 mod:Mod K mg base
 bs:∀b o,base.get? b=some o->s.heap.get? b=some o/\H b=none
 bsz:base.objs.size<=s.heap.objs.size
 funs:s.heap.FunFrames base outer
 frf:∀b∈qc outer,H b=none
 hok:qg P w H s.heap
 bare:AllBare s.gens
inductive CE (outer:bA)(P:Program)(w:World)(H:Hp)(s:Shared)(Q:VK)(u:Value)(s':Shared):Prop
 |mk (v:V) (H':Hp) (os:s'.os=s.os) (b:AllBare s'.gens) (un:Un (qc outer) [] H H' s.heap s'.heap) (hk:qg P w H' s'.heap) (r:RelV v u) (q:Q v H')
def CR (C:kn)(outer:bA)(P:Program)(w:World)(H:Hp)(s:Shared)(Q:VK)(E:XK)(r:Result)(s':Shared):Prop:=
 match r with
 |.ok (.ret u)=>CE outer P w H s Q u s'|.ok _=>False|.error e=>C outer H s E e s'
structure jJ (P:Program)(w:World)(K:Frag)(mg:bz)(base:Heap)(CX:kn)(k:Nat)(f:Addr)(fd:FuncData)(ps:bt)(sp:Sp):Prop where
 len:∀vs H Q E,sp vs H Q E->vs.length=ps.length
 run:∀(A:Around)(outer:bA)(s:Shared)(H:Hp)(args:Args)(us:bj)(vs:List V)(Q:VK)(E:XK),qE k A->Qc P w K mg base A outer s H->BindsTo s fd args (ps.zip us)->Vals vs us->sp vs H Q E->
  codeAny (model P w) A (.call (.ref f) args) (CR CX outer P w H s Q E) s
theorem jJ.mono {K:Frag}{C:kn}{sp:Sp}(F:jJ P w K mg base C j f fd ps sp)(h:j<=k):
  jJ P w K mg base C k f fd ps sp:=⟨F.len,λA outer s H args us v Q E r=>F.run A outer s H args us v Q E (r.mono h)⟩
def jJ.imp {K:Frag}{C:kn}{sp S:Sp}(F:jJ P w K mg base C k f fd ps sp)
  (h:∀v H Q E,S v H Q E->sp v H Q E):jJ P w K mg base C k f fd ps S:=
 ⟨λv H Q E q=>F.len v H Q E (h _ _ _ _ q),λA outer s H args us v Q E r he b hv a=>F.run A outer s H args us v Q E r he b hv (h _ _ _ _ a)⟩
section
variable {X:Cx}{σ:St}{H:Hp}
def Inv.env0 (I:Inv X pins σ H s):Qc X.prog X.w X.K X.mg X.base X.A X.stack s H:=
 ⟨I.ok.frames,I.ok.mod,I.bs,a8 I.ok.bsz I.sz,I.stack,I.stkFree,I.hok,I.bare⟩
def Inv.after {Q:VK}(I:Inv X pins σ H s)(h:CE X.stack X.prog X.w H s Q u s'):EP X pins σ Q u s':=by
 obtain⟨v,c,os,bare,un,hok,r,q⟩:=h;obtain⟨a,g,d,t,o⟩:=s';obtain rfl:o=s.os:=os;exact⟨v,c,I.call (h':=a) (g':=g) (d':=d) (t':=t) (ch:=[]) un hok bare (λb z=>absurd z (by simp)),r,q⟩
end
noncomputable def MH (sp:Sp)(d:List V)(E:XK)(t:TA):TE:=λσ H Q=>t σ H λv H1=>sp (v++d) H1 Q E
def Binds (K:Frag)(fd:FuncData)(ps:bt)(ds:bj):Prop:=
 ∀(s:Shared)(us:bj),K.In s.heap->(us++ds).length=ps.length->BindsTo s fd ⟨us,[]⟩ (ps.zip (us++ds))
def Binds.all {K:Frag}(h:∀us:bj,us.length=ps.length->bindArgs fd ⟨us,[]⟩=pure (ps.zip us)):Binds K fd ps []:=λs us _ H=>by
 rw[a7]at H ⊢;exact .of_eq (h us H)
def Passes (C:kn)(X:Cx)(E:XK):Prop:=∀(pins:bp)(σ:St)(H:Hp)(s:Shared)(e:Value)(s':Shared),Inv X pins σ H s->C X.stack H s E e s'->X.xe e s'
section
variable {X:Cx}{CX:kn}{sp:Sp}{dvs:List V}{ds:bj}{E:XK}{t:TA}
def Oq {σ:St}{H:Hp}{Q:VK}{v:List V}(F:jJ X.prog X.w X.K X.mg X.base CX k f fd ps sp)(b:qE k X.A)(c:Binds X.K fd ps ds)(hd:Vals dvs ds)(x:Passes CX X E)
  (I:Inv X pins σ H s)(r:Vals v us)(h:sp (v++dvs) H Q E):wpAny (model X.prog X.w) X.A (call (.ref f) us) (EP X pins σ Q) X.xe s:=by
 have a:Vals (v++dvs) (us++ds):=r.append hd;have l:(us++ds).length=ps.length:=by rw[<- a.length];exact F.len _ _ _ _ h
 refine wpAny_call (codeAny_mono (F.run X.A X.stack s H ⟨us,[]⟩ (us++ds) (v++dvs) Q E b I.env0 (c s us I.kIn l) a h) λr s' q=>?_);cases r with
 |error e=>exact x pins σ H s e s' I q|ok d=>
  cases d with
  |ret u=>exact I.after q|next=>exact False.elim q|brk=>exact False.elim q|cont=>exact False.elim q
def G8 (F:jJ X.prog X.w X.K X.mg X.base CX k f fd ps sp)(c:qE k X.A)(g:Gl X x)(hm:X.mg x=some (.ref f))(d:keepIn X.K (.ref f)=true)(j:Binds X.K fd ps ds)(hd:Vals dvs ds)(a:Passes CX X E)
  (n:PA X (e::es) t)(b:(x==("__debug__":Str))=false:=by decide)(he:starEach (e::es) X.env=(false,eval e X.env)::starEach es X.env:=by rfl)(l:(backTo pos (starEach es X.env)).any (·.1)=false:=by rfl):
  PE X (.Call (.Name x p) (e::es) [] pos) (MH sp dvs E t):=by
 intro pins s σ H Q I h;refine wpAny_Call_Name_kw (QA I g hm ?_ b);refine callWith_K (h₀:=X.base) I.ok.mod.kin d (zM (n pos pins s σ H _ I h) λus s1 ⟨v,H1,i,r,q⟩=>⟨i.kIn,?_⟩) he l;exact Oq F c j hd a i r q
end
structure jx (N P:bt)(sc:Scope):Prop where
 kind:sc.kind=.function
 co:sc.isCoroutine=false
 gen:sc.isGenerator=false
 nd:N.Nodup
 pre:N.take P.length=P
 par:∀x∈P,sc.names.lookup x=some .local∨sc.names.lookup x=some .cell
 nofree:∀y∈sc.names,y.2≠.free
theorem Gg {kindOf:Str->Option NameKind}:∀{binds:List (Str×Value)}{m:bz},(∀v,(x,v)∉binds)->bindL kindOf binds m x=m x
 |[],_,_=>rfl|(n,v)::r,m,h=>by
  unfold bindL;rw[Gg λw hw=>h w (ay _ hw)]
  split
  ·have:x≠n:=by rintro rfl;exact h v aF
   simp[this]
  ·rfl
theorem Gi {kindOf:Str->Option NameKind}:∀{binds:List (Str×Value)}{m:bz},(∀v,(x,v)∉binds)->bindC kindOf binds m x=m x
 |[],_,_=>rfl|(n,v)::r,m,h=>by
  unfold bindC;rw[Gi λw hw=>h w (ay _ hw)]
  split
  ·rfl
  ·have:x≠n:=by rintro rfl;exact h v aF
   simp[this]
theorem Gj {kindOf:Str->Option NameKind}{v:Value}:∀{P:bt}{s:bj}{i:Nat}{m:bz},P.Nodup->P[i]? =some x->s[i]? =some v->kindOf x=some .local->
  bindL kindOf (P.zip s) m x=some v
 |[],_,_,_,_,h,_,_=>by simp at h|_::_,[],_,_,_,_,h,_=>by simp at h|p::P,w::s,0,m,nd,h1,H,k=>by
  simp at h1 H;subst h1;subst H;show bindL kindOf ((p,w)::P.zip s) m p=_;unfold bindL;rw[Gg λv hv=>(List.nodup_cons.mp nd).1 (of_mem_zip hv).1,aa k];simp
 |p::P,w::s,i+1,m,nd,h1,H,k=>by
  show bindL kindOf ((p,w)::P.zip s) m x=_;unfold bindL;exact Gj (i:=i) (List.nodup_cons.mp nd).2 (by simpa using h1) (by simpa using H) k
theorem W6 {kindOf:Str->Option NameKind}{v:Value}:∀{P:bt}{s:bj}{i:Nat}{m:bz},P.Nodup->P[i]? =some x->s[i]? =some v->kindOf x≠some .local->
  bindC kindOf (P.zip s) m x=some v
 |[],_,_,_,_,h,_,_=>by simp at h|_::_,[],_,_,_,_,h,_=>by simp at h|p::P,w::s,0,m,nd,h1,H,k=>by
  simp at h1 H;subst h1;subst H;show bindC kindOf ((p,w)::P.zip s) m p=_;unfold bindC;rw[Gi λv hv=>(List.nodup_cons.mp nd).1 (of_mem_zip hv).1,af k];simp
 |p::P,w::s,i+1,m,nd,h1,H,k=>by
  show bindC kindOf ((p,w)::P.zip s) m x=_;unfold bindC;exact W6 (i:=i) (List.nodup_cons.mp nd).2 (by simpa using h1) (by simpa using H) k
noncomputable def start (N:bt)(v:List V):St:=v.map some++List.replicate (N.length-v.length) none
noncomputable def yN (C:kn)(P:Program)(w:World)(K:Frag)(mg:bz)(base:Heap)(N:bt)(qual:Str)(scope:Scope)(f:Addr)(cd:Value)(A:Around)(outer:bA)(s:Shared)(H:Hp)(E:XK):Cx where
 prog:=P
 w:=w
 K:=K
 mg:=mg
 base:=base
 A:=A.deeper (envOfC qual scope s.heap.objs.size f cd)
 N:=N
 s0:=s
 H0:=H
 env:=envOfC qual scope s.heap.objs.size f cd
 outer:=outer
 stack:=envOfC qual scope s.heap.objs.size f cd::outer
 ex:=[]
 calm:=true
 fn:=λ_=>true
 pn:=[]
 xe:=λe s'=>wpAny (model P w) (A.deeper (envOfC qual scope s.heap.objs.size f cd)) (leaving (envOfC qual scope s.heap.objs.size f cd) e) (λ_ S=>C outer H s E e S) (λa S=>C outer H s E a S) s'
def GA (h:sc.names.lookup x=some .cell):∃c,(cellsFrom n sc.names []).lookup x=some c:=by
 have q:=cellsFrom_some sc.names n [] (.inl h);exact Option.isSome_iff_exists.mp q
def Tn {X:kn}{K:Frag}{cd:Value}{A:Around}{outer:bA}{s1:Shared}{H:Hp}{E:XK}{j:List V}
  (S:jx N ps scope)(hd:A.handled=none)(g:Qc P w K mg base A outer s H)(Q:j.length=ps.length)(r:Vals j us)
  (x:InCallC s s.heap.objs.size (bindL (envOfC qual scope s.heap.objs.size f cd).kindOf (ps.zip us) λ_=>none) (cellsFrom (s.heap.objs.size+1) scope.names []) (bindC (envOfC qual scope s.heap.objs.size f cd).kindOf (ps.zip us) λ_=>none) s1):
  Inv (yN X P w K mg base N qual scope f cd A outer s H E) [] (start N j) H s1:=by
 have L:ps.length<=N.length:=by have:=congrArg List.length S.pre;rw[List.length_take]at this;omega
 obtain⟨h1,T,rfl,I⟩:=x.done;have l:∀b:Addr,b∉(yN X P w K mg base N qual scope f cd A outer s H E).ex:=λb z=>absurd (show b∈([]:bo) from z) (by simp)
 refine⟨⟨g.mod,S.kind,rfl,rfl,aA _,λy z c h1 d=>?_,λy o=>?_,λy c _ h=>?_,λ_=>hd,Around.frames_deeper g.frames,.inr ⟨rfl,rfl⟩,λb z=>absurd z (l b),g.bs,g.bsz,λb _ _=>l b,λb z=>absurd z (l b),g.funs,g.frf⟩,
  rfl,g.bare,Un.kept I,⟨_,x.toInCall.ns,λi y v h1 d U=>?_⟩,λy c h=>⟨_,x.cell y c h⟩,g.hok.fresh (aA _),λy c h=>?_,λp B=>absurd (show p∈([]:bp) from B) (by simp),g.hok.kept I,?_⟩
 ·exact name_of_addr x.apart (PySem.mem_of_lookup h1) (PySem.mem_of_lookup d)
 ·have o:scope.names.lookup y=some .cell∨scope.names.lookup y=some .free:=o
  rcases o with o|o
  ·exact GA o
  ·exact absurd rfl (S.nofree _ (PySem.mem_of_lookup o))
 ·exact le_of_lt (x.above y c (PySem.mem_of_lookup h))
 ·have C:i<j.length:=by
   unfold start at d
   by_cases C:i<j.length
   ·exact C
   ·rw[aq (by simpa using C)]at d
    rw[aR]at d
    split at d<;>cases d
  have M:j[i]? =some v:=by
   unfold start at d;rw[ag (by simpa using C),aI]at d
   cases e:j[i]? with
   |none=>rw[e]at d;cases d|some a=>rw[e]at d;cases d;rfl
  obtain⟨u,D,J⟩:=r.get M;have B:ps[i]? =some y:=by
   rw[<- S.pre,List.getElem?_take_of_lt (by omega)];exact h1
  have t:ps.Nodup:=by rw[<- S.pre];exact S.nd.sublist (List.take_sublist _ _)
  refine⟨u,J,?_⟩;rcases S.par y (ba B) with k|k
  ·exact .inl ⟨k,Gj t B D k⟩
  ·obtain⟨c,e⟩:=GA (n:=s.heap.objs.size+1) k
   refine .inr ⟨.inl k,c,e,?_⟩;have q:=x.cell y c e;rw[W6 t B D (by show scope.names.lookup y≠_;rw[k];decide)]at q
   exact q
 ·exact g.hok.fresh (le_of_lt (x.above y c (PySem.mem_of_lookup h)))
 ·unfold start
  show _=N.length;rw[aH,aC,aP];omega
def KW {C:kn}{K:Frag}{name:Str}{params:Arguments}{body:bF}{L kV doc pm c ct T:Value}{an M:bE}
  {sp:Sp}(lk:K.lookup f=some ⟨T,M,.func (fnOf name qual params body scope L kV doc pm an c ct),osl⟩)(D:codeIn K c qual=true)(S:jx N ps scope)
  (len:∀d H Q E,sp d H Q E->d.length=ps.length)
  (i:∀(A:Around)(outer:bA)(s:Shared)(H:Hp)(d:List V)(Q:VK)(E:XK),qE k (A.deeper (envOfC qual scope s.heap.objs.size f c))->sp d H Q E->
   ∃t,jL (yN C P w K mg base N qual scope f c A outer s H E) body t/\t { nx:=λ_ h=>Q .non h,rt:=Q } (start N d) H):
  jJ P w K mg base C (k+1) f (fnOf name qual params body scope L kV doc pm an c ct) ps sp:=by
 refine⟨len,λA outer s H args us d Q E B l hb r p=>?_⟩;have hl:=len _ _ _ _ p;have X:K.In s.heap:=l.mod.kin.keeps λb o e=>(l.bs b o e).1;have lim:s.heap.NoLimit:=l.mod.nolimit.keeps λb o e=>(l.bs b o e).1;have g:∀y∈ps.zip us,scope.names.lookup y.1=some .local∨(scope.names.lookup y.1=some .cell/\((cellsFrom (s.heap.objs.size+1) scope.names []).lookup y.1).isSome=true):=λ⟨n,v⟩ U=>by
  rcases S.par n (of_mem_zip U).1 with q|q
  ·exact .inl q
  ·exact .inr ⟨q,cellsFrom_some _ _ _ (.inl q)⟩
 refine codeAny_call_function B.depth (X _ _ lk) rfl S.co S.gen rfl (PySem.W.codeRec_of X D) (hb _ _ _ _ ?_);refine wpAny_newFunctionEnv_cells S.kind g λenv he s1 x=>?_;subst he;refine⟨lim.keeps x.toInCall.keep,codeAny_func ?_⟩;obtain⟨t,Y,Z⟩:=i A outer s H d Q E (B.deeper _) p;have I:Inv (yN C P w K mg base N qual scope f c A outer s H E) [] (start N d) H s1:=Tn S B.hd l hl r x;refine wpAny_mono (Y [] s1 (start N d) H _ I Z) (λfl s' j=>?_) λe s' j=>j;have fin:∀{a:St}{h:Hp}{v:V}{u:Value},Inv (yN C P w K mg base N qual scope f c A outer s H E) [] a h s'->RelV v u->Q v h->CE outer P w H s Q u s':=
  λ {a h v u} J z q=>⟨v,h,J.os,J.bare,J.base,J.hok,z,q⟩
 cases fl with
 |ret u=>
  obtain⟨v,a,h,J,z,q⟩:=j;exact fin J z q
 |next=>
  obtain⟨a,h,J,q⟩:=j;exact fin (v:=V.non) (u:=Value.none) J rfl q
 |brk=>
  obtain⟨_,_,_,q⟩:=j;exact False.elim q
 |cont=>
  obtain⟨_,_,_,q⟩:=j;exact False.elim q
section
variable {X:Cx}{t:TA}{id T:String}{r:List V->Hp->VK->Prop}
noncomputable def Yf (r:List V->Hp->VK->Prop)(t:TA):TE:=λσ H Q=>t σ H λv H1=>r v H1 Q
def gU (c:yq X (.builtin id) r)(g:Gl X x)(hm:X.mg x=none)(hv:bootBuiltins x=some (.builtin id))(d:PA X (e::es) t)(hn:x ≠ "__name__":=by decide)(b:(x==("__debug__":Str))=false:=by decide)
  (he:starEach (e::es) X.env=(false,eval e X.env)::starEach es X.env:=by rfl)(l:(backTo pos (starEach es X.env)).any (·.1)=false:=by rfl):PE X (.Call (.Name x p) (e::es) [] pos) (Yf r t):=by
 intro pins s σ H Q I h;refine wpAny_Call_Name_kw (QH I g hm hv ?_ hn b);exact PyProof.Rows.callWith_builtin1 (zM (d pos pins s σ H _ I h) λus s1 ⟨v,H1,i,a,q⟩=>c pins s1 σ H1 v us Q i a q) he l
def To (c:yq X (.type T) r)(g:Gl X x)(hm:X.mg x=none)(hv:bootBuiltins x=some (.type T))(d:PA X (e::es) t)(hn:x ≠ "__name__":=by decide)(b:(x==("__debug__":Str))=false:=by decide)
  (he:starEach (e::es) X.env=(false,eval e X.env)::starEach es X.env:=by rfl)(l:(backTo pos (starEach es X.env)).any (·.1)=false:=by rfl):PE X (.Call (.Name x p) (e::es) [] pos) (Yf r t):=by
 intro pins s σ H Q I h;refine wpAny_Call_Name_kw (QH I g hm hv ?_ hn b);exact PyProof.Rows.callWith_type1 (zM (d pos pins s σ H _ I h) λus s1 ⟨v,H1,i,a,q⟩=>c pins s1 σ H1 v us Q i a q) he l
end
end L2
variable {X:L2.Cx}{o:L2.HO}{H:L2.Hp}{xs:List (List Int×PySem.Addr×L2.V)}{vs ys:List L2.V}{r:List L2.V->L2.Hp->L2.VK->Prop}{σ:L2.St}{v:L2.V}
namespace HT
open PySem PyProof.Rows
section
open PySem.SeqAt
open PySem.AutoSeq1 (wpAny_loadPart')
open PySem.MeetsSeq PySem.MeetsSeq2 PySem.MeetsSeq3
end
section
variable {prog:Program}{A:Around}
def Rt {t:Addr}{v ws:bj}(a:IsTup s.heap t v.toArray)(f:IsTup s.heap b ws.toArray)(hv:v≠[])
  (h1:ws=[]->Q (.ref t) s)(g:ws≠[]->Q (.ref s.heap.objs.size) { s with heap:=s.heap.push { cls:=.type "tuple",data:=.seq (v++ws).toArray } })
  (hsz:v.length+ws.length<=sizeLine):wpAny (model prog w) A (binaryOp .Add (.ref t) (.ref b)) Q E s:=by
 obtain⟨⟨cls,dd,data,sl⟩,o,c,n,hd⟩:=id a;obtain⟨⟨C,d,data2,S⟩,h,H,N,hd2⟩:=id f;simp only at c hd H hd2;subst c hd H hd2;have e:v.toArray++ws.toArray=(v++ws).toArray:=by simp
 by_cases hw:ws=[]
 ·exact concat_meets ⟨_,o,rfl⟩ ⟨_,h,rfl⟩ noFill_tuple_add seq_tuple_add slot_tuple_add entry_tuple_add (args_tuple_add_2 _ _)
   (tuple_addW1 t b v.toArray ws.toArray n N dd d sl S (by simpa using hv) (by simp[hw])) ⟨o,h,h1 hw⟩
 ·refine concat_meets ⟨_,o,rfl⟩ ⟨_,h,rfl⟩ noFill_tuple_add seq_tuple_add slot_tuple_add entry_tuple_add (args_tuple_add_2 _ _)
   (tuple_addW2 t b v.toArray ws.toArray n N dd d sl S (by simpa using hv) (by simpa using hw) (by rw[az,az];exact hsz)) ⟨o,h,?_⟩
  rw[e];exact g hw
end
end HT
namespace L2
open PySem PySem.Spec PyProof.Rows
section
variable {p2:Pos}
def XW (K:Frag):R2:=λx y H Q=>∃a b xs Y,x=.ref a/\y=.ref b/\qb K H a xs/\qb K H b Y/\xs≠[]/\xs.length+Y.length<=sizeLine/\
 (Y=[]->Q (.ref a) H)/\(Y≠[]->∀p,H p=none->Q (.ref p) (upd H p (.tup (xs++Y))))
def Vals.nil_iff {xs:List V}(r:Vals xs us):us=[]↔xs=[]:=by
 cases r with
 |nil=>simp|cons _ _=>simp
def Pm:qw X (binaryOp .Add) (XW X.K):=by
 intro pins s σ H x y v u Q I f e h;obtain⟨a,b,xs,Y,rfl,rfl,t,n,l,d,j,g⟩:=h;cases f;cases e;obtain⟨k,c,P,_⟩:=I.tuple t;obtain⟨i,r,p,_⟩:=I.tuple n;refine HT.Rt P p (λz=>l (c.nil_iff.mp z)) (λz=>⟨.ref a,H,I,rfl,j (r.nil_iff.mp z)⟩) (λz=>?_) (by rw[<- c.length,<- r.length];exact d)
 refine⟨.ref s.heap.objs.size,_,I.laid (t':=s.toks) (o:=.tup (xs++Y)) (λb ob q=>ae _ q) (aA _) ?_,rfl,g (λw=>z (r.nil_iff.mpr w)) _ (I.hok.fresh (aA _))⟩;exact⟨by rw[aH];exact d,_,c.append r,gu.new _ _⟩
end
noncomputable def kS (n:Nat)(i:Int):Option Nat:=if 0<=i then(if i<n then some i.toNat else none) else if -(n:Int)<=i then some (i+n).toNat else none
def yv (xs:List α)(i:Int):Option α:=(kS xs.length i).bind λj=>xs[j]?
def Xd {i:Int}(h:kS n i=some j):seqIndex? i n=some j/\j<n/\-(n:Int)<=i/\i<n:=by
 unfold kS at h
 by_cases h0:0<=i
 ·rw[aa h0]at h
  by_cases h1:i<n
  ·rw[aa h1]at h
   have e:i.toNat=j:=ao h;exact⟨by rw[seqIndex_of h0 h1,e],by omega,by omega,h1⟩
  ·rw[af h1]at h;cases h
 ·rw[af h0]at h
  by_cases h1:-(n:Int)<=i
  ·rw[aa h1]at h
   have e:(i+n).toNat=j:=ao h;exact⟨by rw[seqIndex_neg (by omega) h1,e],by omega,h1,by omega⟩
  ·rw[af h1]at h;cases h
def Kc {xs:List α}{i:Int}{v:α}(h:yv xs i=some v):∃j,seqIndex? i xs.length=some j/\xs[j]? =some v/\j<xs.length/\-(xs.length:Int)<=i/\i<xs.length:=by
 unfold yv at h;cases e:kS xs.length i with
 |none=>rw[e]at h;cases h|some j=>
  rw[e]at h;obtain⟨h1,b,a,H⟩:=Xd e;exact⟨j,h1,h,b,a,H⟩
def Xe {xs:List α}{v:α}(h:xs[j]? =some v):yv xs (j:Int)=some v:=by
 have H:j<xs.length:=(bI.mp h).1;have e:kS xs.length (j:Int)=some j:=by
  unfold kS;rw[aa (by omega),aa (by omega)];simp
 unfold yv;rw[e];exact h
def G0 (b:Expr):Prop:=∀o i,subscripted b false o i=operate [o,i] (getItem o i)
def wX (X:Cx)(r:R2):Prop:=
 ∀(value slice:Expr)(pins:bp)(s:Shared)(σ:St)(H:Hp)(x y:V)(v u:Value)(Q:VK),Inv X pins σ H s->RelV x v->RelV y u->r x y H Q->
  subscripted slice false v u=operate [v,u] (getItem v u)->wpAny (model X.prog X.w) X.A (subscriptTail value slice v u) (EP X pins σ Q) X.xe s
def Wi (X:Cx)(id:String)(r:V->List V->Hp->VK->Prop):Prop:=
 ∀(pins:bp)(s:Shared)(σ:St)(H:Hp)(x:V)(xs:List V)(v:Value)(us:bj)(Q:VK),Inv X pins σ H s->RelV x v->Vals xs us->r x xs H Q->
  wpAny (model X.prog X.w) X.A (call (.builtin id) (v::us)) (EP X pins σ Q) X.xe s
section
variable {a b:Expr}{ta tb:TE}
def wX.or {r c:R2}(h:wX X r)(h':wX X c):wX X (λx y H Q=>r x y H Q∨c x y H Q):=by
 intro value slice pins s σ H x y v u Q I b a q d;rcases q with q|q
 ·exact h value slice pins s σ H x y v u Q I b a q d
 ·exact h' value slice pins s σ H x y v u Q I b a q d
def NF {r:R2}(f:wX X r)(i:PE X a ta)(g:PE X b tb)(e:G0 b):PE X (.Subscript a b pos) (Q4 r ta tb):=by
 intro pins s σ H Q I h;exact Subscript_ (Wb i g I h λv u s2 x y k j d c q=>f a b pins s2 σ k x y v u Q j d c q (e _ _))
def Ve (K:Frag):R2:=λx y H Q=>∃p xs i v,x=.ref p/\y=.int i/\qT K H p xs/\yv xs i=some v/\Q v H
def Vg (K:Frag):R2:=λx y H Q=>∃p xs i v,x=.ref p/\y=.int i/\qb K H p xs/\yv xs i=some v/\Q v H
def Vm:R2:=λx y H Q=>∃z i c,x=.str z/\y=.int i/\z.length<=sizeLine/\yv z.cps.toList i=some c/\Q (.str ⟨#[c]⟩) H
def Rm:wX X (Ve X.K):=by
 intro value slice pins s σ H x y v u Q I g f h d;obtain⟨p,xs,i,z,rfl,rfl,k,he,q⟩:=h;cases g;obtain⟨t,rfl⟩:=f;obtain⟨b,r,P,B⟩:=I.list k;obtain⟨j,h1,A,C,o,n⟩:=Kc he;obtain⟨w,e,a⟩:=r.get A;have l:=r.length;have hn:=QJ;have fin:EP X pins σ Q w s:=⟨z,H,I,a,q⟩
 by_cases h0:0<=i
 ·have c:i.toNat=j:=by
   rw[seqIndex_of h0 n]at h1;exact ao h1
  exact item_listR P.isList h0 (by omega) (by rw[c];simpa using e) fin d
 ·have c:(i+(b.toArray.size:Int)).toNat=j:=by
   rw[seqIndex_neg (by omega) o]at h1
   rw[az,<- l];exact ao h1
  exact subscriptTail_builtinR (x:=w) P.isList.typeIs slot_list_getitem.lookup
   (wpAny_getItem_list_neg (Q:=λr s'=>r=w/\EP X pins σ Q r s') P.isList (by omega) (by rw[az]<;>omega) (by omega) (by rw[c];simpa using e) ⟨rfl,fin⟩) d
def Oe:wX X (Vg X.K):=by
 intro value slice pins s σ H x y v u Q I c b h e;obtain⟨p,xs,i,z,rfl,rfl,f,he,q⟩:=h;cases c;obtain⟨t,rfl⟩:=b;obtain⟨d,r,P,k⟩:=I.tuple f;obtain⟨j,h1,g,A,o,n⟩:=Kc he;obtain⟨w,E,a⟩:=r.get g;have l:=r.length;have hn:=QJ;have fin:EP X pins σ Q w s:=⟨z,H,I,a,q⟩;exact subscriptTail_builtinR (x:=w) P.typeIs slot_tuple_getitem.lookup
  (getItem_tuple (j:=j) (Q:=λr s'=>r=w/\EP X pins σ Q r s') P (by omega) (by omega) (by rw[az,<- l];exact h1) (by simpa using E) ⟨rfl,fin⟩) e
def OW:wX X Vm:=by
 intro value slice pins s σ H x y v u Q I a r h b;obtain⟨z,i,c,rfl,rfl,k,he,q⟩:=h;obtain⟨t,rfl⟩:=a;obtain⟨t',rfl⟩:=r;obtain⟨j,h1,f,n,e,d⟩:=Kc he;have l:z.cps.toList.length=z.length:=by simp[Str.length]
 rw[l]at h1 e d;have hn:=QJ;exact tail_any (typeIs_str s z t) slot_str_getitem.lookup (getItem_str (c:=c) (by
  have g:decide (i < -(2 ^ 63:Int))=false:=ak (by omega)
  have E:decide (i ≥ 2 ^ 63)=false:=ak (by omega)
  rw[g,E,Bool.or_false]) (by rw[h1];simpa using f) ⟨.str ⟨#[c]⟩,H,I.tok _,⟨_,rfl⟩,q⟩) b
def VA (K:Frag):R2:=λx y H Q=>Ve K x y H Q∨Vg K x y H Q∨Vm x y H Q
def Oh:wX X (VA X.K):=Rm.or (Oe.or OW)
def UL (i:bj)(n j:Nat)(u:Value):Obj.mapSeq (·.setIfInBounds j u) { cls:=.type "list",data:=.seq i.toArray n }={ cls:=.type "list",data:=.seq (i.set j u).toArray n }:=by
 simp[Obj.mapSeq]
theorem Inv.lst {pins:bp}{σ:St}{H:Hp}{s:Shared}{p:Addr}{xs:List V}(I:Inv X pins σ H s)(h:H p=some (.lst xs)):
  ∃(i:bj) (n:Nat),Vals xs i/\s.heap.get? p=some { cls:=.type "list",data:=.seq i.toArray n }/\xs.length<=sizeLine:=by
 obtain⟨z,i,n,r,e⟩:=I.hok p _ h;exact⟨i,n,r,e,z⟩
def Inv.lstUpd {p:Addr}{xs:List V}{i its':bj}{N:Nat}{f:Obj->Obj}(I:Inv X pins σ H s)(h:H p=some (.lst xs))
  (o:s.heap.get? p=some { cls:=.type "list",data:=.seq i.toArray n })(hf:f { cls:=.type "list",data:=.seq i.toArray n }={ cls:=.type "list",data:=.seq its'.toArray N })(r:Vals ys its')(z:ys.length<=sizeLine)(t:Nat):
  Inv X pins σ (upd H p (.lst ys)) { s with heap:=s.heap.update p f,toks:=t }:=by
 have e:(s.heap.update p f).get? p=some { cls:=.type "list",data:=.seq its'.toArray N }:=by
  rw[Heap.get?_update_self f o (by rw[hf]<;>rfl),hf]
 refine I.write (x:=p) (e:=p) (by rw[h];trivial) (.inl rfl) (λb u a q=>(Heap.get?_update_other _ _ (Ne.symm a)).trans q) ⟨_,e⟩ ?_
 exact⟨z,its',N,r,e⟩
def XY:V->V->V->Hp->(Hp->Prop)->Prop:=λo i v H Q=>∃p xs k j,o=.ref p/\i=.int k/\H p=some (.lst xs)/\kS xs.length k=some j/\Q (upd H p (.lst (xs.set j v)))
def set_list:JY X XY:=by
 intro pins s σ H o i v A B u Q I ro x w h;obtain⟨p,xs,k,j,rfl,rfl,d,y,q⟩:=h;cases ro;obtain⟨t,rfl⟩:=x;obtain⟨a,n,r,b,z⟩:=I.lst d;obtain⟨h1,C,f,e⟩:=Xd y;have l:=r.length;have hn:=QJ;have g:Inv X pins σ (upd H p (.lst (xs.set j v))) { s with heap:=s.heap.update p (Obj.mapSeq (·.setIfInBounds j u)) }:=
  I.lstUpd d b (UL a n j u) (r.set w j) (by rw[length_set];exact z) s.toks
 by_cases h0:0<=k
 ·have c:k.toNat=j:=by
   rw[seqIndex_of h0 e]at h1;exact ao h1
  exact PySem.W.ki_setAt b h0 (by omega) (by rw[az,<- l];exact e) (by rw[c];exact⟨_,g,q⟩)
 ·have c:(k+(a.toArray.size:Int)).toNat=j:=by
   rw[seqIndex_neg (by omega) f]at h1
   rw[az,<- l];exact ao h1
  exact PySem.W.ki_setBack b (by omega) (by rw[az,<- l];exact f) (by omega) (by rw[c];exact⟨_,g,q⟩)
noncomputable def wb:V->Bool
 |.non=>true|.bl _=>true|.int _=>true|.str _=>true|_=>false
noncomputable def wj:V->V->Bool
 |.non,.non=>true|.bl a,.bl b=>a==b|.bl a,.int b=>(if a then 1 else 0)==b|.int a,.bl b=>a==(if b then 1 else 0)|.int a,.int b=>a==b|.str a,.str b=>a==b|_,_=>false
def OS {A:Around}{y x:V}{v:Value}(c:RelV y u)(r:RelV x v)(d:wb y=true)(f:wb x=true):SeqAt.EqAt A s u v (wj y x):=by
 cases y with
 |non=>
  cases c;cases x with
  |non=>cases r;exact SeqAt.EqAt.same _|bl b=>cases r;exact SeqAt.EqAt.none_bool b|int b=>obtain⟨t,rfl⟩:=r;exact SeqAt.EqAt.none_int b t|str b=>obtain⟨t,rfl⟩:=r;exact SeqAt.EqAt.none_str b t|_=>exact absurd (show false=true from f) ar
 |bl a=>
  cases c;cases x with
  |non=>cases r;exact SeqAt.EqAt.bool_none a|bl b=>cases r;exact SeqAt.EqAt.bool_bool a b|int b=>obtain⟨t,rfl⟩:=r;exact SeqAt.EqAt.bool_int a b t|str b=>obtain⟨t,rfl⟩:=r;exact SeqAt.EqAt.bool_str a b t|_=>exact absurd (show false=true from f) ar
 |int a=>
  obtain⟨t',rfl⟩:=c;cases x with
  |non=>cases r;exact SeqAt.EqAt.int_none a t'|bl b=>cases r;exact SeqAt.EqAt.int_bool a t' b|int b=>obtain⟨t,rfl⟩:=r;exact SeqAt.EqAt.int_int a t' b t|str b=>obtain⟨t,rfl⟩:=r;exact SeqAt.EqAt.int_str a t' b t|_=>exact absurd (show false=true from f) ar
 |str a=>
  obtain⟨t',rfl⟩:=c;cases x with
  |non=>cases r;exact SeqAt.EqAt.str_none a t'|bl b=>cases r;exact SeqAt.EqAt.str_bool a t' b|int b=>obtain⟨t,rfl⟩:=r;exact SeqAt.EqAt.str_int a t' b t|str b=>obtain⟨t,rfl⟩:=r;exact SeqAt.EqAt.str_str a t' b t|_=>exact absurd (show false=true from f) ar
 |_=>exact absurd (show false=true from d) ar
def Ys (x:V)(u:Value):Bool:=match u with
 |.none=>wj .non x|.bool b=>wj (.bl b) x|.int i _=>wj (.int i) x|.str z _=>wj (.str z) x|_=>false
def XU {x y:V}(r:RelV y u)(f:wb y=true):Ys x u=wj y x:=by
 cases y with
 |non=>cases r;rfl|bl b=>cases r;rfl|int i=>obtain⟨t,rfl⟩:=r;rfl|str z=>obtain⟨t,rfl⟩:=r;rfl|_=>exact absurd (show false=true from f) ar
theorem Gz {A:Around}{x:V}{v:Value}(a:RelV x v)(b:wb x=true):∀{xs:List V}{us:bj},Vals xs us->xs.all wb=true->∀u∈us,SeqAt.EqAt A s u v (Ys x u)
 |_,_,.nil,_=>λu h=>by cases h|y::xs,u::us,.cons r t,f=>λU h=>by
  rw[List.all_cons,ai]at f;rcases bL.mp h with rfl|h
  ·rw[XU r f.1];exact OS r a f.1 b
  ·exact Gz a b t f.2 U h
def Ue:yq X (.builtin "len") (λxs H Q=>∃p y,xs=[.ref p]/\(qT X.K H p y∨qb X.K H p y)/\Q (.int y.length) H):=by
 intro pins s σ H xs us Q I r h;obtain⟨p,y,rfl,a,q⟩:=h;obtain⟨u,rfl,x⟩:=vals1 r;cases x;have hn:=QJ;rcases a with a|a
 ·obtain⟨i,b,P,z⟩:=I.list a
  have hlen:=b.length;exact Calls.call_len_list P.isList (by simp only[az]<;>omega) ⟨.int y.length,H,I.tok _,⟨s.toks+1,by rw[az,hlen]⟩,q⟩
 ·obtain⟨i,b,P,z⟩:=I.tuple a
  have hlen:=b.length;exact len_tuple P (by simp only[az]<;>omega) ⟨.int y.length,H,I.tok _,⟨s.toks+1,by rw[az,hlen]⟩,q⟩
def Wn (K:Frag)(T:String)(x:V)(H:Hp):Prop:=match x with
 |.str _=>T = "str"
 |.int _=>T = "int"
 |.ref p=>(T = "list" /\ ∃xs,qT K H p xs)∨(T = "tuple" /\ ∃o,K.lookup p=some o/\o.cls=.type "tuple" /\ o.dict=none)∨
   (T = "dict" /\ ((∃k,H p=some (.dK k))∨∃k,H p=some (.dT k)))∨(T = "set" /\ ∃S n,H p=some (.set S n))
 |_=>False
def P1 {T:String}{x:V}{v:Value}(I:Inv X pins σ H s)(r:RelV x v)(ty:Wn X.K T x H):
  s.TypeIs v T/\∀a,v=.ref a->∃ob,s.heap.get? a=some ob/\ob.dict=none:=by
 cases x with
 |str z=>
  obtain⟨t,rfl⟩:=r;cases (show T = "str" from ty)
  exact⟨typeIs_str s z t,λ_ e=>nomatch e⟩
 |int i=>
  obtain⟨t,rfl⟩:=r;cases (show T = "int" from ty)
  exact⟨typeIs_int s i t,λ_ e=>nomatch e⟩
 |ref p=>
  cases r;rcases ty with ⟨rfl,xs,q⟩|⟨rfl,o,h,d,hd⟩|⟨rfl,h⟩|⟨rfl,S,n,h⟩
  ·obtain⟨b,_,P,_⟩:=I.list q
   refine⟨P.isList.typeIs,λa e=>?_⟩;cases e;obtain⟨o,n,e,c,hd,_⟩:=P;exact⟨o,e,hd⟩
  ·refine⟨⟨o,I.kIn p o h,d⟩,λa e=>?_⟩
   cases e;exact⟨o,I.kIn _ o h,hd⟩
  ·have z:∃o,s.heap.get? p=some o/\o.ExactDict:=by
    rcases h with ⟨k,h⟩|⟨k,h⟩
    ·obtain⟨_,_,_,_,o,_,_,e,ex,_⟩:=I.hok p _ h
     exact⟨o,e,ex⟩
    ·obtain⟨_,_,_,_,o,_,_,e,ex,_⟩:=I.hok p _ h
     exact⟨o,e,ex⟩
   obtain⟨o,e,ex⟩:=z;refine⟨⟨o,e,ex.1⟩,λa E=>?_⟩;cases E;exact⟨o,e,ex.2.1⟩
  ·obtain⟨o,_,_,_,e,ex,_⟩:=I.hok p _ h
   refine⟨⟨o,e,ex.1⟩,λa E=>?_⟩;cases E;exact⟨o,e,ex.2.1⟩
 |_=>exact False.elim ty
noncomputable def LM (K:Frag)(T:String)(r:V->List V->Hp->VK->Prop)(to:TE)(t:TA):TE:=λσ H Q=>to σ H λx H1=>Wn K T x H1/\t σ H1 λxs h=>r x xs h Q
variable {o:Expr}{to:TE}{t:TA}{name:Str}{apos cpos:Pos}{T id:String}{r:V->List V->Hp->VK->Prop}
def Mm (p:PlainAttrs T)(slot:Slot T name id)(y:typeOf (.builtin id)=pure (.type "method_descriptor"))(hm:Wi X id r)(k:PE X o to)(l:PA X (e::es) t)
  (b:attributeBase o name X.env (eval o X.env)=eval o X.env:=by rfl)
  (w:((backTo cpos (starEach (e::es) X.env)).all (λx=>!x.1)&&(backToKw cpos (keywordEach [] X.env)).all (λx=>x.1.isSome)
   && decide ((e::es).length+([]:bD).length+(if ([]:bD).isEmpty then 0 else 1)<30))=true:=by rfl)
  (a:(apos.endLine==cpos.line)=true:=by rfl)(j:starEach (e::es) X.env=(false,eval e X.env)::starEach es X.env:=by rfl)(n:(backTo cpos (starEach es X.env)).any (·.1)=false:=by rfl):
  PE X (.Call (.Attribute o name apos) (e::es) [] cpos) (LM X.K T r to t):=by
 intro pins s σ H Q I h;refine wpAny_Call_method_late b w a rfl (zM (k pins s σ H _ I h) λv s1 ⟨x,H1,i,c,ty,g⟩=>?_);obtain⟨h1,u⟩:=P1 i c ty;refine⟨T,id,p,slot,y,h1,u,?_⟩;have A:=l cpos pins s1 σ H1 _ i g;rw[j]at A ⊢;refine Calls.callWith_builtin (by show(false || (backTo cpos (starEach es X.env)).any (·.1))=false;rw[n]<;>rfl) (Calls.evalArgs_plain ?_)
 exact zM A λus s2 ⟨d,B,z,f,q⟩=>hm pins s2 σ B x d v us Q z c f q
end
def Vq (X:Cx)(id:String)(r:V->List V->Hp->VK->Prop):Prop:=
 ∀(pins:bp)(s:Shared)(σ:St)(H:Hp)(x:V)(xs:List V)(v:Value)(us:bj)(Q:VK),Inv X pins σ H s->RelV x v->Vals xs us->r x xs H Q->
  wpAny (model X.prog X.w) X.A (call (.builtin id) (v::us)) (EP X pins σ Q) X.xe s
def Vals.one {x:V}(h:Vals [x] us):∃u,us=[u]/\RelV x u:=by
 cases h with
 |cons r t=>cases t;exact⟨_,rfl,r⟩
def Vals.two {x y:V}(h:Vals [x,y] us):∃u v,us=[u,v]/\RelV x u/\RelV y v:=by
 cases h with
 |cons r t=>exact(Vals.one t).elim λv e=>⟨_,v,by rw[e.1],r,e.2⟩
theorem Vals.rep {xs:List V}(h:Vals xs us):∀k:Nat,Vals (List.replicate k xs).flatten (List.replicate k us).flatten
 |0=>.nil|k+1=>by
  rw[aK,aK,aX,aX];exact Vals.append h (Vals.rep h k)
theorem foldl_rep (i:bj):∀(k:Nat)(acc:bj),
  List.foldl (λx1 x2=>x1++x2) acc.toArray (List.replicate k i.toArray)=(acc++(List.replicate k i).flatten).toArray
 |0,acc=>by simp|k+1,acc=>by
  have e:acc.toArray++i.toArray=(acc++i).toArray:=by simp
  have E:(acc++i)++(List.replicate k i).flatten=acc++(List.replicate (k+1) i).flatten:=by
   rw[aK,aX,append_assoc]
  rw[<- E,<- foldl_rep i k (acc++i),<- e,aK,List.foldl_cons]
section
variable {l:Addr}{xs:List V}
def Inv.lset {i its':bj}{f:Array Value->Array Value}(I:Inv X pins σ H s)(c:H l=some (.lst xs))
  (e:s.heap.get? l=some { cls:=.type "list",data:=.seq i.toArray n })(hf:f i.toArray=its'.toArray)(hv:Vals ys its')(h:ys.length<=sizeLine):
  Inv X pins σ (upd H l (.lst ys)) { s with heap:=s.heap.update l (Obj.mapSeq f),toks:=t' }:=by
 have q:=PySem.IsL.update e f;rw[hf]at q;refine I.write (x:=l) (e:=l) (by rw[c];exact trivial) (.inl rfl) (λB u b a=>(Heap.get?_update_other s.heap (Obj.mapSeq f) (Ne.symm b)).trans a) ⟨_,q⟩ ?_
 exact⟨h,its',_,hv,q⟩
def Inv.lnew {i:bj}(I:Inv X pins σ H s)(hv:Vals ys i)(h:ys.length<=sizeLine):
  Inv X pins σ (upd H s.heap.objs.size (.lst ys)) { s with heap:=s.heap.push { cls:=.type "list",data:=.seq i.toArray },toks:=t' }:=
 I.laid (λ_ _ q=>ae _ q) (aA _) ⟨h,i,0,hv,au _ rfl⟩
theorem Inv.fresh (I:Inv X pins σ H s):H s.heap.objs.size=none:=I.hok.fresh (aA _)
def Inv.lstM (I:Inv X pins σ H s)(h:H l=some (.lst xs)):xs.length<=sizeLine/\∃(i:bj) (n:Nat),Vals xs i/\xs.length=i.length/\s.heap.get? l=some { cls:=.type "list",data:=.seq i.toArray n }:=by
 obtain⟨z,i,n,r,e⟩:=I.hok l _ h;exact⟨z,i,n,r,r.length,e⟩
def Gr (h:n<=sizeLine):Builtin.List.listTooLong n=false:=by
 unfold Builtin.List.listTooLong;exact ak (by omega)
end
section
def PO:V->List V->Hp->VK->Prop:=λx v H Q=>∃l xs y,x=.ref l/\v=[y]/\H l=some (.lst xs)/\xs.length<sizeLine/\Q .non (upd H l (.lst (xs++[y])))
def Gk:Vq X "list.append" PO:=by
 intro pins s σ H x f v us Q I b c h;obtain⟨l,xs,y,rfl,rfl,a,g,q⟩:=h;cases b;obtain⟨u,rfl,d⟩:=c.one;obtain⟨z,i,n,r,j,e⟩:=I.lstM a;refine call_meets F.slot_list_append ⟨_,e,rfl⟩ F.entry_list_append (F.args_list_append_2 _ _) (PySem.list_append l i.toArray n u (by rw[az];omega)) ⟨e,?_⟩
 refine⟨.non,_,I.lset (its':=i++[u]) a e (by simp) (r.append (.cons d .nil)) ?_,rfl,q⟩
 rw[aH,List.length_singleton];omega
def Ri:V->List V->Hp->VK->Prop:=λx v H Q=>∃l b xs zs,x=.ref l/\v=[.ref b]/\H l=some (.lst xs)/\H b=some (.lst zs)/\xs.length+zs.length<=sizeLine/\Q .non (upd H l (.lst (xs++zs)))
def Ta:Vq X "list.extend" Ri:=by
 intro pins s σ H x p v us Q I d f h;obtain⟨l,b,xs,zs,rfl,rfl,c,B,t,q⟩:=h;cases d;obtain⟨u,rfl,j⟩:=f.one;cases j;obtain⟨z,a,n,r,w,e⟩:=I.lstM c;obtain⟨Z,i,N,k,o,E⟩:=I.lstM B;have hsz:a.toArray.size+i.toArray.size<=sizeLine:=by rw[az,az];omega
 have g:¬(!a.toArray.isEmpty&&Builtin.List.listTooLong (a.toArray.size+i.toArray.size))=true:=by
  rw[Gr hsz,Bool.and_false];exact ar
 refine call_meets F.slot_list_extend ⟨_,e,rfl⟩ F.entry_list_extend (F.args_list_extend_2 _ _)
  (AutoSeq1.list_extend_list_list_0 l a.toArray n b i.toArray N g (by rw[az];omega) (by omega)) ⟨e,E,?_⟩
 refine⟨.non,_,I.lset (its':=a++i) c e (by simp) (r.append k) ?_,rfl,q⟩
 rw[aH];omega
def Vf:R2:=λx y H Q=>∃l b xs zs,x=.ref l/\y=.ref b/\H l=some (.lst xs)/\H b=some (.lst zs)/\xs.length+zs.length<=sizeLine/\∀p,H p=none->Q (.ref p) (upd H p (.lst (xs++zs)))
def OH:qw X (binaryOp .Add) Vf:=by
 intro pins s σ H x y v u Q I d c h;obtain⟨l,b,xs,zs,rfl,rfl,j,B,o,q⟩:=h;cases d;cases c;obtain⟨z,a,n,r,p,e⟩:=I.lstM j;obtain⟨Z,i,N,f,g,k⟩:=I.lstM B;refine PySem.P.add_list e k ?_ (by rw[az,az];omega)
 have E:a.toArray++i.toArray=(a++i).toArray:=by simp
 rw[E];exact⟨.ref _,_,I.lnew (t':=s.toks) (r.append f) (by rw[aH];omega),rfl,q _ I.fresh⟩
def Vk:R2:=λx y H Q=>∃l k xs,x=.ref l/\y=.int k/\H l=some (.lst xs)/\-(2 ^ 63)<=k/\k<2 ^ 63/\xs.length * k.toNat<=sizeLine/\
 ∀p,H p=none->Q (.ref p) (upd H p (.lst (List.replicate k.toNat xs).flatten))
def len_rep (xs:List α)(k:Nat):(List.replicate k xs).flatten.length=k * xs.length:=by
 induction k with
 |zero=>simp|succ k i=>rw[aK,aX,aH,i,Nat.succ_mul,Nat.add_comm]
def ON:qw X (binaryOp .Mult) Vk:=by
 intro pins s σ H x y v u Q I f d h;obtain⟨l,k,xs,rfl,rfl,o,h1,A,c,q⟩:=h;cases f;obtain⟨t,rfl⟩:=d;obtain⟨z,i,n,r,j,e⟩:=I.lstM o;have hlen:i.toArray.size * k.toNat<=sizeLine:=by rw[az,<- j];exact c
 have p:¬i.toArray.size * k.toNat > (2 ^ 63-1)/8:=by
  have:(sizeLine:Nat)<=(2 ^ 63-1)/8:=by decide
  omega
 have b:¬(!Builtin.List.listFitsIndex k)=true:=by
  rw[fitsIndex_both h1 A];exact ar
 have g:¬Builtin.List.listTooLong (i.toArray.size * k.toNat)=true:=by
  rw[Gr hlen];exact ar
 have w:List.foldl (λx1 x2=>x1++x2) #[] (List.replicate (if i.toArray.isEmpty=true then 0 else k.toNat) i.toArray)=(List.replicate k.toNat i).flatten.toArray:=by
  have f0:∀m:Nat,List.foldl (λx1 x2=>x1++x2) #[] (List.replicate m i.toArray)=(List.replicate m i).flatten.toArray:=λm=>by
   have:=foldl_rep i m []
   rw[nil_append]at this;exact this
  rw[f0];cases i with
  |nil=>simp|cons a B=>rw[af (by simp)]
 refine wpAny_binaryOp_repeat_ref (T := "list") (U := "int") (by decide) ⟨_,e,rfl⟩ (λs'=>typeIs_int s' k t) noFill_list_mul F.fills_int_mul F.slot_int_rmul repeat_list F.slot_int_index.lookup
  (call_meets F.slot_int_rmul (typeIs_int s k t) F.entry_int_rmul (F.args_int_rmul_2 _ _) (int___rmul___int_list k t l i.toArray n)
   ⟨e,rfl,⟨_,e,rfl⟩,call_meets F.slot_list_mul ⟨_,e,rfl⟩ F.entry_list_mul (F.args_list_mul_2 _ _) (AutoListH.list___mul___list_int_3 l i.toArray n k t b p g) ⟨e,?_⟩⟩)
 rw[w];exact⟨.ref _,_,I.lnew (t':=s.toks) (r.rep k.toNat) (by rw[len_rep,Nat.mul_comm];exact c),rfl,q _ I.fresh⟩
end
section
set_option maxRecDepth 100000 in
end
end L2
namespace Att
open PySem PySem.W PySem.Calls PyProof.Rows
def V2 {P:Params}:∀(ns:bh)(v:bj),WellAll P h v (ns.map WData.int)->IntsAre v ns:=by
 intro ns
 induction ns with
 |nil=>
  intro v w;rw[map_nil]at w;cases w;exact .nil
 |cons n ns i=>
  intro v w;rw[aM]at w;cases w with
  |cons a b=>
   cases a;exact .cons _ _ (i _ b)
def Tz {l:OpenLaw}(hn:l.most=some n){P:Params}{args:List WData}{vals:bj}
  (H:l.row.toRowW.claim.pre args=true)(f:WellAll P h vals args):
  ∃a v ns,vals=[Value.ref a]/\args=[WData.list (ns.map WData.int)]/\h.get? a=some { cls:=.type "list",data:=.seq v.toArray }/\IntsAre v ns/\ns.length<=n:=by
 have g:WShape.hasAll [] args [.list .int]=true:=(pre_splitW H).1;have i:l.pre.holds [] { args:=args }=true:=(pre_splitW H).2;obtain⟨d,r,rfl,h1,p⟩:=hasAllW_cons g;obtain rfl:=hasAllW_nil p;obtain⟨xs,rfl,k⟩:=hasW_list h1;obtain⟨ns,rfl⟩:=items_int k;have hlen:ns.length<=n:=by
  unfold OpenLaw.pre at i;have e:(WTm.not (.lt (.lit (.int (n:Int))) (.len (.arg 0)))).holds [] { args:=[.list (ns.map .int)] }=true:=by
   have e:=(holds_andW i).1;rw[hn]at e;exact e
  have c:=condW_of e (w_not (w_lt w_lit (w_len_list (w_arg rfl))));rw[aC]at c;refine Nat.le_of_not_lt λq=>?_;have Q:(n:Int)<((ns.length:Nat):Int):=by omega
  first
   |(rw[ax Q]at c;exact absurd c (by decide))
   |(simp at c;omega)
 cases f with
 |cons j w=>
  cases w;cases j with
  |list o b=>exact⟨_,_,ns,rfl,rfl,o,V2 ns _ b,hlen⟩
def Ts (l:OpenLaw)(args:List WData):l.row.toRowW.claim.post args (.bool true) args=true:=
 postW_of (r:=l.row.toRowW) (X:=(true==true))
  (show WShape.has [] (.bool true) .bool=true by first|rfl|decide|simp[WShape.has,WShape.arms,WShape.armsAll])
  (show(WTm.eq .res (.lit (.bool true))).value [] { args:=args,res:=some (.bool true),after:=args }=some (.bool (true==true)) from w_eq_bool (w_res rfl) w_lit) rfl
def Uw {l:OpenLaw}{q:Program}{loose:bt}{P:World->Heap->Prop}{d:DefRec}
  (hn:l.most=some n)(e:d.params.defaults=[])
  (call:∀(w:World)(S s:Shared)(mg mb:bz)(b:Addr)(o:Obj)(pm cd doc:Value)(a:Addr)(v:bj)(ns:bh),
   Ground q loose [] XP w S mg mb s.heap->P w s.heap->
   s.heap.get? b=some o->o.data=.func (docDef d.name d.params d.body d.scope pm cd doc)->s.heap.CodeRec cd d.name->mg d.name=some (.ref b)->
   s.heap.get? a=some { cls:=.type "list",data:=.seq v.toArray }->IntsAre v ns->ns.length<=n->s.gens=#[]->
   codeAny (model l.prog w) callerA (.call (.ref b) ⟨[.ref a],[]⟩) (λr s'=>r=.ok (.ret (.bool true))/\OldK s.heap s'.heap/\s'.os=s.os/\AllBare s'.gens) s):
  WalkO q loose XP P l.row.toRowW d [] (λf v=>PySem.call f v):=by
 intro w S s mg mb G Y b o pm cd doc B kV p hd i D g u args vals as h y j c t;obtain rfl:B=.none:=Dflts.none D e;obtain rfl:kV=.none:=Dflts.noKw D;obtain⟨a,v,ns,rfl,rfl,H,hints,hlen⟩:=Tz hn h c;refine enter_call (codeAny_mono (call w S s mg mb b o pm cd doc a v ns G Y p (fd_plain hd) i g H hints hlen u) λr s' k=>?_);obtain⟨rfl,A,z,x⟩:=k;exact⟨.inl ⟨.bool true,.bool true,[],rfl,λ_=>rfl,.bool true,Ts l _,λ_=>⟨List.Pairwise.nil,λ_ hm=>(nomatch hm)⟩⟩,A,z,x⟩
end Att
namespace L2
open PySem PySem.Spec PyProof.Rows
theorem Gb:∀{v:bj}{ns:bh},IntsAre v ns->Vals (ns.map V.int) v
 |_,_,.nil=>.nil|_,_,.cons n t h=>.cons ⟨t,rfl⟩ (Gb h)
noncomputable abbrev Vp {K:Frag}(_:K.In h):Frag:=K
noncomputable def gj (s:Stmt):Arguments:=match s with
 |.FunctionDef _ a _ _ _ _ _ _ _ _=>a|_=>{ posonlyargs:=[],args:=[],vararg:=none,kwonlyargs:=[],kw_defaults:=[],kwarg:=none,defaults:=[] }
noncomputable def jX (s:Stmt):bF:=match s with
 |.FunctionDef _ _ b _ _ _ _ _ _ _=>b|_=>[]
noncomputable def qA (s:Stmt):Scope:=match s with
 |.FunctionDef _ _ _ _ _ _ sc _ _ _=>sc|_=>{ kind:=.function,names:=[],isGenerator:=false,isCoroutine:=false }
noncomputable abbrev kg:kn:=λ_ _ _ _ _ _=>False
noncomputable abbrev E0:XK:=λ_ _ _=>False
def N6:Passes kg X E0:=λ_ _ _ _ _ _ _ h=>h.elim
structure yJ (K:Frag)(x qual:Str)(st:Stmt)(f:Addr)(fd:FuncData):Prop where
 ex:∃(oc:Value) (od:bE) (kV doc pm:Value) (an:bE) (cdv ct:Value) (osl:Array (br)),
  fd=fnOf x qual (gj st) (jX st) (qA st) .none kV doc pm an cdv ct/\K.lookup f=some ⟨oc,od,.func fd,osl⟩/\codeIn K cdv qual=true
 kp:keepIn K (.ref f)=true
section
variable {K:Frag}
def yJ.ok {st:Stmt}{sp:Sp}(F:yJ K x qual st f fd)(S:jx N ps (qA st))(len:∀v H Q E,sp v H Q E->v.length=ps.length)
  (y:∀(c:Value)(A:Around)(outer:bA)(s:Shared)(H:Hp)(v:List V)(Q:VK)(E:XK),qE k (A.deeper (envOfC qual (qA st) s.heap.objs.size f c))->sp v H Q E->
   ∃t,jL (yN kg P w K mg base N qual (qA st) f c A outer s H E).nox (jX st) t/\t { nx:=λ_ a=>Q .non a,rt:=Q } (start N v) H):jJ P w K mg base kg (k+1) f fd ps sp:=by
 obtain⟨e,b,kV,doc,pm,an,c,ct,o,rfl,lk,d⟩:=F.ex;refine KW lk d S len λA outer s H v Q E r p=>?_;obtain⟨t,h,q⟩:=y c A outer s H v Q E r p;exact⟨t,h.nox,q⟩
def yJ.binds {st:Stmt}(F:yJ K x qual st f fd)
  (h:∀(kV doc pm:Value)(an:bE)(c ct:Value)(us:bj),us.length=ps.length->bindArgs (fnOf x qual (gj st) (jX st) (qA st) .none kV doc pm an c ct) ⟨us,[]⟩=pure (ps.zip us)):Binds K fd ps []:=by
 obtain⟨a,d,kV,doc,pm,an,c,ct,o,rfl,lk,H⟩:=F.ex;exact .all (h kV doc pm an c ct)
def OM {st:Stmt}{a:Value}{o an:bE}{kV doc pm C ct:Value}(l:K.lookup f=some ⟨a,o,.func (fnOf x qual (gj st) (jX st) (qA st) .none kV doc pm an C ct),osl⟩)
  (c:codeIn K C qual=true)(k:keepIn K (.ref f)=true):yJ K x qual st f (fnOf x qual (gj st) (jX st) (qA st) .none kV doc pm an C ct):=⟨⟨a,o,kV,doc,pm,an,C,ct,osl,rfl,l,c⟩,k⟩
end
def JS {A:Around}(h:qE k A):A.units+1<cLine:=Nat.lt_of_le_of_lt (Nat.add_le_add_left (by decide:1<=64) _) h.units
section
variable [DecidableEq κ]
theorem we.getD {o:Option V}{u:br}{d:V}{d':Value}(r:we o u)(a:RelV d d'):RelV (o.getD d) (u.getD d'):=by
 cases o with
 |none=>cases u with
  |none=>exact a|some _=>exact(show False from r).elim
 |some _=>cases u with
  |none=>exact(show False from r).elim|some _=>exact r
end
def NK {k:Key}(r:RelV (kV k) u):(j9 P w).is k u=true:=by
 cases k with
 |inl i=>obtain⟨t,e⟩:=(show ∃t,u=Value.int i t from r);subst e;exact Uv P w i t|inr x=>obtain⟨t,e⟩:=(show ∃t,u=Value.str x t from r);subst e;exact Ut P w x t
theorem Gh:∀{ks:List Key}{us:bj},Vals (ks.map kV) us->ItemsAre (j9 P w) ks us
 |[],_,r=>by rw[map_nil]at r;cases r;exact .nil|k::ks,_,r=>by
  rw[aM]at r;cases r with
  |cons h t=>exact .cons (NK h) (Gh t)
section
def Inv.big (I:Inv X pins σ H s):sysModules<s.heap.objs.size:=by
 have h:mainGlobals<s.heap.objs.size:=(I.mod.glob.keeps I.bk).lt;exact lt_trans (by decide) h
def GZ {h':Heap}{ob:HO}(I:Inv X pins σ H s)(M:Q8 (H a))(h:Heap.SameBut a s.heap h')(he:∃q,h'.get? a=some q)(new:qI X.prog X.w (upd H a ob) h' a ob):
  Inv X pins σ (upd H a ob) { s with heap:=h',toks:=t' }:=
 I.write (x:=a) (e:=a) M (.inl rfl) (λb q c z=>(h.2 b c).trans z) he new
end
def K6 (i:Expr):Prop:=∀o I,subscripted i false o I=operate [o,I] (getItem o I)
def PR {prog:Program}{A:Around}{value slice:Expr}{T id:String}
  (l:typeLookup (.type T) "__getitem__"=pure (some (.builtin id)))(e:K6 slice)
  (h:wpAny (model prog w) A (eval value env) (λo b=>wpAny (model prog w) A (eval slice env) (λi S=>S.TypeIs o T/\wpAny (model prog w) A (getItem o i) Q E S) E b) E s):
  wpAny (model prog w) A (eval (.Subscript value slice pos) env) Q E s:=by
 refine Subscript_ (wpAny_mono h (λo b d=>wpAny_mono d (λi S H=>?_) λ_ _ x=>x) λ_ _ x=>x);obtain⟨hT,H⟩:=H;unfold subscriptTail;refine bG ?_;rw[getitemInPython_of_ne hT.not_modules];refine bG (wpAny_specialOf hT l ?_);have fin:wpAny (model prog w) A (subscripted slice false o i) (λr a=>wpAny (model prog w) A (letTemporaryGo value o r >>= λ_=>pure r) Q E a) E S:=by
  rw[e o i];exact wpAny_operating (wpAny_mono H (λr a c=>bG (wpAny_letTemporaryGo (bH c))) λ_ _ x=>x)
 first
  |exact bH (bG fin)
  |exact bG (bH (bG fin))
  |exact bG fin
noncomputable def Km:List (TE×TE)->St->Hp->(List (V×V)->Hp->Prop)->Prop
 |[],_,H,Q=>Q [] H|(T,t)::r,σ,H,Q=>T σ H λx H1=>t σ H1 λy a=>Km r σ a λps h=>Q ((x,y)::ps) h
abbrev VV:List (V×V)->List (Value×Value)->Prop:=Paired λp q=>RelV p.1 q.1/\RelV p.2 q.2
def Wk (X:Cx)(pos:Pos)(keys:List (Option Expr))(values:bx)(t:List (TE×TE)):Prop:=
 ∀(pins:bp)(s:Shared)(σ:St)(H:Hp)(Q:List (V×V)->Hp->Prop),Inv X pins σ H s->Km t σ H Q->
  wpAny (model X.prog X.w) X.A (evalPairs (pairTrees keys values X.env pos)) (λv s'=>∃ps h,Inv X pins σ h s'/\VV ps v/\Q ps h) X.xe s
def Rw:Wk X pos [] [] []:=λpins s σ H Q I h=>pairTrees_nil_walk ⟨[],H,I,.nil,h⟩
def T1 {k v:Expr}{ks:List (Option Expr)}{a:bx}{b T:TE}{t:List (TE×TE)}(g:PE X k b)(hv:PE X v T)(f:Wk X pos ks a t):
  Wk X pos (some k::ks) (v::a) ((b,T)::t):=λpins s σ H Q I h=>
 pairTrees_cons_walk (zM (g pins s σ H _ I h) λu s1 ⟨x,H1,l,c,e⟩=>zM (hv pins s1 σ H1 _ l e) λw s2 ⟨y,o,j,r,d⟩=>
  zM (f pins s2 σ o _ j d) λws s3 ⟨ps,n,i,rel,q⟩=>⟨(x,y)::ps,n,i,.cons ⟨c,r⟩ rel,q⟩)
structure M2 (X:Cx)(o:Expr)(m:Str)(apos:Pos)(e f:Expr)(cpos:Pos):Prop where
 base:attributeBase o m X.env (eval o X.env)=eval o X.env
 few:((backTo cpos (starEach [e,f] X.env)).all (λx=>!x.1)&&(backToKw cpos (keywordEach [] X.env)).all (λx=>x.1.isSome)
  && decide (([e,f]:bx).length+([]:bD).length+(if ([]:bD).isEmpty then 0 else 1)<30))=true
 line:(apos.endLine==cpos.line)=true
 trees:backTo cpos (starEach [e,f] X.env)=[(false,eval e X.env),(false,eval f X.env)]
noncomputable def yb (env:Env):List (Str×NameKind)->List (Str×Addr)->List (Str×Addr)
 |[],acc=>acc|(n,k)::r,acc=>yb env r (if k==.free then(n,(env.cells.lookup n).getD 0)::acc else acc)
def TK (f:Str×NameKind->List (Str×Addr)->Sem (ForInStep (bC)))
  (hf:∀n k r,f (n,k) r=if (k==NameKind.free)=true then(do let c <- cellOf env n;pure (ForInStep.yield ((n,c)::r))) else pure (ForInStep.yield r)):
  ∀(names:List (Str×NameKind))(acc:bC),(∀y∈names,y.2=.free->∃c,env.cells.lookup y.1=some c)->(forIn names acc f:Sem (bC))=pure (yb env names acc):=by
 intro names
 induction names with
 |nil=>intro acc _;rfl|cons y r i=>
  intro acc b;obtain⟨n,k⟩:=y;rw[forIn_cons,hf];unfold yb;have h:=i (if k==.free then(n,(env.cells.lookup n).getD 0)::acc else acc) (λy g=>b y (ay _ g))
  by_cases a:k=.free
  ·subst a
   obtain⟨c,d⟩:=b (n,.free) aF rfl;have e:cellOf env n=pure c:=by unfold cellOf;rw[d]
   have H:List.lookup n env.cells=some c:=d;simp only[e,H,Option.getD_some,beq_self_eq_true,if_true]at h ⊢;exact h
  ·have j:(k==NameKind.free)=false:=by simpa using a
   simp only[j,false_eq_true,if_false]at h ⊢;exact h
def WS (h:∀y∈scope.names,y.2=.free->∃c,env.cells.lookup y.1=some c):closureFor scope env=pure (yb env scope.names []):=by
 unfold closureFor;dsimp only;rw[TK _ (λn k r=>rfl) scope.names [] h]
 rfl
theorem gR {n:Str}:∀(names:List (Str×NameKind))(acc:bC),(n,c)∈yb env names acc->(n,c)∈acc∨((n,NameKind.free)∈names/\c=(env.cells.lookup n).getD 0)
 |[],acc,h=>.inl h|(x,k)::r,acc,h=>by
  unfold yb at h;rcases gR r _ h with h|⟨h1,a⟩
  ·by_cases H:k=.free
   ·subst H
    simp only[beq_self_eq_true,if_true]at h;rcases bL.mp h with e|h
    ·cases e;exact .inr ⟨aF,rfl⟩
    ·exact .inl h
   ·have b:(k==NameKind.free)=false:=by simpa using H
    simp only[b,false_eq_true,if_false]at h;exact .inl h
  ·exact .inr ⟨ay _ h1,a⟩
theorem Jm {n:Str}:∀(names:List (Str×NameKind))(acc:bC),((n,NameKind.free)∈names∨(acc.lookup n).isSome=true)->((yb env names acc).lookup n).isSome=true
 |[],acc,h=>by
  rcases h with h|h
  ·cases h
  ·exact h
 |(x,k)::r,acc,h=>by
  unfold yb;refine Jm r _ ?_;rcases h with h|h
  ·rcases bL.mp h with e|h
   ·cases e
    right
    simp
   ·exact .inl h
  ·right
   by_cases H:(k==NameKind.free)=true
   ·rw[aa H,lookup_cons]
    cases a:n==x
    ·exact h
    ·rfl
   ·rw[af H];exact h
theorem YF {n:Str}:∀(names:List (Str×NameKind))(k:Nat)(acc:bC),(n,c)∈cellsFrom k names acc->(n,c)∈acc∨(k<=c/\(n,NameKind.cell)∈names)
 |[],_,_,h=>.inl h|(x,q)::r,k,acc,h=>by
  unfold cellsFrom at h
  by_cases a:(q==NameKind.cell)=true
  ·rw[aa a]at h
   have H:q=.cell:=by simpa using a
   rcases YF r _ _ h with h|⟨h1,b⟩
   ·rcases bL.mp h with e|h
    ·cases e;subst H;exact .inr ⟨aA _,aF⟩
    ·exact .inl h
   ·exact .inr ⟨by omega,ay _ b⟩
  ·rw[af a]at h
   rcases YF r _ _ h with h|⟨h1,b⟩
   ·exact .inl h
   ·exact .inr ⟨h1,ay _ b⟩
theorem YE:∀(names:List (Str×NameKind))(k:Nat)(acc:bC),(∀n c,(n,c)∈acc->c<k)->(∀n N c,(n,c)∈acc->(N,c)∈acc->n=N)->∀n N c,(n,c)∈cellsFrom k names acc->(N,c)∈cellsFrom k names acc->n=N
 |[],_,_,_,i,n,N,c,h,h'=>i n N c h h'|(x,q)::r,k,acc,l,i,n,N,c,h,h'=>by
  unfold cellsFrom at h h'
  by_cases a:(q==NameKind.cell)=true
  ·rw[aa a]at h h'
   refine YE r (k+1) ((x,k)::acc) (λm d hm=>?_) (λm M d hm H=>?_) n N c h h'
   ·rcases bL.mp hm with e|hm
    ·cases e;exact bb _
    ·exact a5 (l m d hm)
   ·rcases bL.mp hm with e|hm
    ·rcases bL.mp H with E|H
     ·cases e;cases E;rfl
     ·cases e;exact absurd (l M _ H) (aN _)
    ·rcases bL.mp H with E|H
     ·cases E;exact absurd (l m _ hm) (aN _)
     ·exact i m M d hm H
  ·rw[af a]at h h'
   exact YE r k acc l i n N c h h'
theorem YB {n:Str}:∀(names:List (Str×NameKind))(h:Heap)(acc:bC),(n,c)∈cellsFrom h.objs.size names acc->(n,c)∈acc∨(pushCells h names).IsCell c none
 |[],_,_,q=>.inl q|(x,k)::r,h,acc,q=>by
  unfold cellsFrom at q;unfold pushCells
  by_cases H:(k==NameKind.cell)=true
  ·rw[aa H]at q ⊢
   have:=YB r (h.push { cls:=.type "cell",data:=.cell none }) ((x,h.objs.size)::acc) (by rw[aY];exact q)
   rcases this with z|z
   ·rcases bL.mp z with e|z
    ·cases e
     exact .inr ⟨_,pushCells_keeps r _ _ _ (au _ rfl),rfl⟩
    ·exact .inl z
   ·exact .inr z
  ·rw[af H]at q ⊢
   exact YB r h acc q
def VW {A:Around}{globals:Addr}{cl:bC}{Q:Env->Shared->Prop}
  (h:Q { scope,locals:=s.heap.objs.size,globals,cells:=cellsFrom (s.heap.objs.size+1) scope.names cl,qual,func:=none,code:=env.code,frame:=env.frame,builtins:=env.builtins }
   { s with heap:=pushCells (s.heap.push { cls:=.type "dict",data:=.dict #[] }) scope.names }):
  wpAny M A (newFunctionEnv scope globals cl [] qual none .none (some env)) Q E s:=by
 simp only[newFunctionEnv,Option.isSome_some,if_true];refine bG (wpAny_alloc ?_);refine bG (wpAny_layCells _ (λname kind cells=>by cases H:kind==NameKind.cell<;>simp[H]) _ _ _ _ ?_)
 rw[show({ s with heap:=s.heap.push { cls:=.type "dict",data:=.dict #[] } }:Shared).heap.objs.size=s.heap.objs.size+1 from aY ..]
 rw[forIn_nil];exact bG (bH (bH h))
def qN (X:Cx)(N:bt)(scope:Scope)(s:Shared)(H:Hp)(fp:bo)(xe:bw):Cx where
 prog:=X.prog
 w:=X.w
 K:=X.K
 mg:=X.mg
 base:=X.base
 A:=X.A
 N:=N
 s0:=s
 H0:=H
 env:={ scope:=relabel scope X.env,locals:=s.heap.objs.size,globals:=X.env.globals,cells:=cellsFrom (s.heap.objs.size+1) scope.names (yb X.env scope.names []),qual:=X.env.qual,func:=none,code:=X.env.code,frame:=X.env.frame,builtins:=X.env.builtins }
 outer:=X.stack
 stack:=X.stack
 ex:=fp
 fn:=λx=>scope.names.lookup x==some .local || scope.names.lookup x==some .cell
 calm:=X.calm
 pn:=[]
 xe:=xe
structure wI (X:Cx)(scope:Scope):Prop where
 kind:scope.kind=.function
 nd:(scope.names.map (·.1)).Nodup
 free:∀y∈scope.names,y.2=.free->X.env.kindOf y.1=some .cell∨X.env.kindOf y.1=some .free
theorem Zw {k:α}:∀{l:List (Str×α)},(l.map (·.1)).Nodup->(x,k)∈l->l.lookup x=some k
 |(y,q)::r,nd,h=>by
  rw[aM,List.nodup_cons]at nd;rw[lookup_cons];rcases bL.mp h with e|h
  ·cases e;simp
  ·have ne:(x==y)=false:=by
    rw[beq_eq_false_iff_ne];intro e
    apply nd.1
    rw[<- e];exact List.mem_map_of_mem (f:=(·.1)) h
   rw[ne];exact Zw nd.2 h
def YD {k:NameKind}(h:(relabel scope env).names.lookup x=some k):scope.names.lookup x=some k∨(k=.cell/\scope.names.lookup x=some .free/\env.kindOf x=some .cell):=by
 unfold relabel at h;dsimp only at h;generalize scope.names=names at h ⊢
 induction names with
 |nil=>cases h|cons y r i=>
  obtain⟨n,q⟩:=y;rw[aM]at h;have split:(if (q==NameKind.free&&env.scope.kind==.function&&env.kindOf n==some .cell)=true then(n,NameKind.cell) else(n,q)).1=n:=by split<;>rfl
  rw[lookup_cons]at h ⊢;dsimp only at h;rw[split]at h;cases a:x==n with
  |false=>rw[a]at h;exact i h|true=>
   rw[a]at h;have e:x=n:=aD.mp a;subst e
   by_cases H:(q==NameKind.free&&env.scope.kind==.function&&env.kindOf x==some .cell)=true
   ·rw[aa H]at h
    simp only[ai,aD]at H;cases h
    right
    exact⟨rfl,by rw[H.1.1],H.2⟩
   ·rw[af H]at h
    left
    exact h
section
def Inv.capt (I:Inv X pins σ H s)(S:wI X scope)(h:(x,NameKind.free)∈scope.names):∃c,X.env.cells.lookup x=some c:=I.ok.has x (S.free _ h rfl)
def Qq (I:Inv X pins σ H s)(S:wI X scope)(h:(x,c)∈cellsFrom (s.heap.objs.size+1) scope.names (yb X.env scope.names [])):
  ((x,NameKind.free)∈scope.names/\X.env.cells.lookup x=some c/\c<s.heap.objs.size)∨((x,NameKind.cell)∈scope.names/\s.heap.objs.size<c/\∀h0:Heap,h0.objs.size=s.heap.objs.size+1->(pushCells h0 scope.names).IsCell c none):=by
 rcases YF _ _ _ h with h1|⟨h1,b⟩
 ·left
  rcases gR _ _ h1 with z|⟨z,e⟩
  ·cases z
  ·obtain⟨C,a⟩:=I.capt S z
   rw[a]at e;have E:c=C:=e;subst E;obtain⟨v,q⟩:=I.cell x c a;exact⟨z,a,q.lt⟩
 ·right
  refine⟨b,h1,λh0 d=>?_⟩;have h':=h;rw[<- d]at h';rcases YB _ h0 _ h' with z|z
  ·exfalso
   rcases gR _ _ z with z|⟨z,e⟩
   ·cases z
   ·obtain⟨C,a⟩:=I.capt S z
    rw[a]at e;have E:c=C:=e;subst E;obtain⟨v,q⟩:=I.cell x c a;exact aN _ (av (a5 q.lt) h1)
  ·exact z
def SR {xe:bw}{f:St}(I:Inv X pins σ H s)(S:wI X scope)(hf:∀b∈fp,yh X pins H b)(A:∀b∈fp,b<s.heap.objs.size)(hl:f.length=N.length)
  (hs:∀(j:Nat)(x:Str)(v:V),N[j]? =some x->f[j]? =some (some v)->(x,NameKind.free)∈scope.names/\∃i:Nat,X.N[i]? =some x/\σ[i]? =some (some v)):
  Inv (qN X N scope s H fp xe) [] f H { s with heap:=pushCells (s.heap.push { cls:=.type "dict",data:=.dict #[] }) scope.names }:=by
 have M:∀b o,s.heap.get? b=some o->(pushCells (s.heap.push { cls:=.type "dict",data:=.dict #[] }) scope.names).get? b=some o:=λb o e=>pushCells_keeps _ _ _ _ (ae _ e);have hsz:(s.heap.push { cls:=.type "dict",data:=.dict #[] }).objs.size=s.heap.objs.size+1:=aY ..;have l:∀{x:Str}{c:Addr},(qN X N scope s H fp xe).env.cells.lookup x=some c->(x,c)∈cellsFrom (s.heap.objs.size+1) scope.names (yb X.env scope.names []):=λh=>PySem.mem_of_lookup h;have L:∀{x:Str},((qN X N scope s H fp xe).env.kindOf x=some .cell∨(qN X N scope s H fp xe).env.kindOf x=some .free)->∃c,(qN X N scope s H fp xe).env.cells.lookup x=some c:=λ {x} h=>by
  refine Option.isSome_iff_exists.mp (cellsFrom_some _ _ _ ?_);have two:scope.names.lookup x=some .cell∨scope.names.lookup x=some .free:=by
   rcases h with h|h
   ·rcases YD h with z|⟨_,z,_⟩
    ·exact .inl z
    ·exact .inr z
   ·rcases YD h with z|⟨z,_⟩
    ·exact .inr z
    ·cases z
  rcases two with z|z
  ·exact .inl z
  ·exact .inr (Jm _ _ (.inl (PySem.mem_of_lookup z)))
 have exP:∀b∈fp,∀x c,(qN X N scope s H fp xe).env.cells.lookup x=some c->c≠b:=λb a x c e=>by
  rcases Qq I S (l e) with ⟨_,q,_⟩|⟨_,q,_⟩
  ·exact(hf b a).2.2.2.2.1 x c q
  ·intro z;subst z;exact aN _ (lt_trans q (A _ a))
 refine⟨⟨I.ok.mod,S.kind,I.ok.glob,I.ok.blt,aA _,λx y c h1 J=>?_,λx h=>L h,λx c g h=>?_,I.ok.hd,I.ok.frames,.inl rfl,λb a=>⟨?_,exP b a⟩,I.bs,a8 I.ok.bsz I.sz,λb o e a=>?_,λb a z=>?_,I.stack,I.stkFree⟩,
  rfl,I.bare,Un.kept M,⟨λ_=>none,?_,λj x v h1 J Y=>?_⟩,λx c e=>?_,I.fresh,λx c e=>?_,λp hp=>?_,I.hok.kept M,hl⟩
 ·refine YE _ _ _ (λn c h=>?_) (λn n' c h h'=>?_) x y c (l h1) (l J)
  ·rcases gR _ _ h with z|⟨z,e⟩
   ·cases z
   ·obtain⟨c',D⟩:=I.capt S z
    rw[D]at e;have P:c=c':=e;subst P;obtain⟨v,q⟩:=I.cell n c D;exact a5 q.lt
  ·rcases gR _ _ h with z|⟨z,e⟩
   ·cases z
   ·rcases gR _ _ h' with Z|⟨Z,P⟩
    ·cases Z
    ·obtain⟨d,hd⟩:=I.capt S z
     obtain⟨d',B⟩:=I.capt S Z;rw[hd]at e;rw[B]at P;have K:c=d:=e;have e2:c=d':=P;subst K;subst e2;exact I.ok.inj _ _ _ hd B
 ·rcases Qq I S (l h) with ⟨z,_,_⟩|⟨_,z,_⟩
  ·exfalso
   have K:=Zw S.nd z;have t:(scope.names.lookup x==some .local || scope.names.lookup x==some .cell)=true:=g;rw[K]at t;cases t
  ·exact le_of_lt z
 ·exact aG (A b a)
 ·obtain⟨_,_,_,E,_⟩:=hf b a
  rcases E with E|E
  ·exact I.ok.noex b o e E
  ·exact absurd (av (aB e) (a8 I.ok.bsz E)) (aN _)
 ·obtain⟨_,J,Y,_⟩:=hf b a
  rcases bL.mp (I.stkSub b z) with e|e
  ·exact J e
  ·exact Y e
 ·exact(Heap.Ns.new s.heap (.type "dict")).keeps (pushCells_keeps _ _)
 ·obtain⟨g,i,K,e2⟩:=hs j x v h1 J
  obtain⟨m,hn,U⟩:=I.loc;have Q:Zq X.env.scope x:=.inr (S.free _ g rfl);obtain⟨u,r,lk⟩:=U i x v K e2 Q;refine⟨u,r,.inr ?_⟩;have w:(qN X N scope s H fp xe).env.kindOf x=some .cell∨(qN X N scope s H fp xe).env.kindOf x=some .free:=by
   rcases Y with z|z|z
   ·exfalso
    rcases YD z with Z|⟨Z,_⟩
    ·rw[Zw S.nd g]at Z;cases Z
    ·cases Z
   ·exact .inl z
   ·exact .inr z
  refine⟨w,?_⟩;obtain⟨c,D⟩:=L w;refine⟨c,D,?_⟩;rcases Qq I S (l D) with ⟨_,q,_⟩|⟨q,_,_⟩
  ·rcases lk with ⟨z,_⟩|⟨_,c',C,cell⟩
   ·exfalso
    rcases S.free _ g rfl with k|k<;>(rw[k]at z;cases z)
   ·rw[q]at C;cases C
    exact cell.keeps M
  ·exfalso
   have a1:=Zw S.nd g;have a2:=Zw S.nd q;rw[a1]at a2;cases a2
 ·rcases Qq I S (l e) with ⟨_,q,_⟩|⟨_,_,q⟩
  ·obtain⟨v,z⟩:=I.cell x c q
   exact⟨v,z.keeps M⟩
  ·exact⟨_,q _ hsz⟩
 ·rcases Qq I S (l e) with ⟨_,q,_⟩|⟨_,q,_⟩
  ·exact I.freeC x c q
  ·exact I.hok.fresh (le_of_lt q)
 ·have T:p∈([]:bp):=hp
  cases T
end
abbrev kP:=Addr->St->Hp->(St->Hp->Prop)->Prop
noncomputable def Ya (elt:Expr)(gens:List Comprehension)(sc:Scope)(pos:Pos)(d:Nat)(acc:Value)(env:Env)(k:Sem Fin):Sem Fin:=
 match gens[d+1]? with
 |some g'=>do
  let x <- eval g'.iter env
  standAt g'.iter.pos
  let x <- foldedSetIterable g'.iter env x
  let _ <- runOwn (.compStart (.ListComp elt gens sc pos) (d+1) (<- holding [x] (pyIter x)) acc env) env
  k
 |none=>do
  (do let _ <- call (.builtin "list.append") [acc,<- eval elt env])
  k
theorem RY {elt iter:Expr}{ifs:bx}{d:Nat}{it acc:Value}(h:gens[d]? =some ⟨tg,iter,ifs,0⟩)(H:∀g',gens[d+1]? =some g'->g'.is_async=0):
  compTurn (.ListComp elt gens sc pos) d it acc env=(do
   standAt iter.pos
   match <- pyNext it with
   |none=>pure (.done .next)|some v=>
    letOwnedTupleGo tg it v
    assign tg env v
    let mut ok:=true
    for c in ifs do
     if ok then ok <- isTrue c env (eval c env)
    if ok then Ya elt gens sc pos d acc env (again (.compLoop (.ListComp elt gens sc pos) d it acc env))
    else again (.compLoop (.ListComp elt gens sc pos) d it acc env)):=by
 unfold compTurn Ya;dsimp only;rw[h];cases hn:gens[d+1]? with
 |none=>rfl|some g'=>
  obtain⟨t',i,f,a⟩:=g';have e:a=0:=H _ hn;subst e
  rfl
def Ze (X:Cx)(ifs:bx)(t:TT):Prop:=
 ∀(pins:bp)(s:Shared)(σ:St)(H:Hp)(Q:Bool->Hp->Prop),Inv X pins σ H s->t σ H Q->
  wpAny (model X.prog X.w) X.A (forIn ifs true λc r=>if r=true then do let ok <- isTrue c X.env (eval c X.env);pure (ForInStep.yield ok) else pure (ForInStep.yield r)) (TP X pins σ Q) X.xe s
noncomputable def NW:TT:=λ_ H Q=>Q true H
def TN:Ze X [] NW:=λpins s σ H Q I h=>wpAny_tests_nil ⟨H,I,h⟩
def Sf {c:Expr}{t:TT}(h:PT X c t):Ze X [c] t:=λpins s σ H Q I hw=>wpAny_tests_one (h pins s σ H Q I hw)
def kr (X:Cx)(elt:Expr)(gens:List Comprehension)(sc:Scope)(pos:Pos)(d:Nat)(t:kP):Prop:=
 ∀(pins:bp)(s:Shared)(σ:St)(H:Hp)(D:Addr)(Q:St->Hp->Prop)(k:Sem Fin)(q:Fin->Shared->Prop)(E:bw),Inv X pins σ H s->t D σ H Q->
  (∀s' a h,Inv X pins a h s'->Q a h->wpAny (model X.prog X.w) X.A k q E s')->wpAny (model X.prog X.w) X.A (Ya elt gens sc pos d (.ref D) X.env k) q E s
def NO (t:TE):kP:=λD σ H Q=>t σ H λy H1=>∃Y,H1 D=some (.lst Y)/\Y.length<sizeLine/\Q σ (upd H1 D (.lst (Y++[y])))
def QL (J:It)(g:TG)(ti:TT)(tm:kP):kP:=λD σ H Q=>∃W:Nat->Nat->St->Hp->Prop,(∃m,W 0 m σ H)/\∀i m σ H,W i m σ H->
 (J.stop i H/\Q σ H)∨(J.go i H/\∃N:St->Hp->Prop,(∀c h,N c h->∃M,M<m/\W (i+1) M c h)/\∀x h,J.yld i H x h->g x σ h λa H1=>ti a H1 λb d=>if b=true then tm D a d N else N a d)
section
variable {elt iter:Expr}{ifs:bx}{d:Nat}
def JH (h:∀e s,X.xe e s->False){t:Sem α}{Q:α->Shared->Prop}(H:wpAny (model X.prog X.w) X.A t Q X.xe s'):wpAny (model X.prog X.w) X.A t Q E s':=
 wpAny_mono H (λ_ _ z=>z) λe s' z=>(h e s' z).elim
def Gv {t:TE}(x:∀e s,X.xe e s->False)(he:PE X elt t)(g:gens[d+1]? =none):kr X elt gens sc pos d (NO t):=by
 intro pins s σ H D Q k n E I h b;unfold Ya;rw[g];refine bG (bG (JH x (zM (he pins s σ H _ I h) λu s1 ⟨y,H1,f,r,Y,c,z,a⟩=>?_)));refine bG (JH x (zM (Gk pins s1 σ H1 (.ref D) [y] (.ref D) [u] (λ_ l=>Q σ l) f rfl (.cons r .nil) ⟨D,Y,y,rfl,rfl,c,z,a⟩) λ_ s2 ⟨_,j,i,_,q⟩=>?_));exact bH (b s2 σ j i q)
def Pc {g:TG}{ti:TT}{tm:kP}(U:∀e s,X.xe e s->False)(Y:X.calm=true)(hg:gens[d]? =some ⟨tg,iter,ifs,0⟩)(ha:∀g',gens[d+1]? =some g'->g'.is_async=0)(L:PG X tg g)(hi:Ze X ifs ti)(hm:kr X elt gens sc pos d tm)
  {Q:St->Hp->Prop}{J:It}{it:Addr}{z:Nat->Heap->Prop}(T:Turn X.prog X.w X.K tg J fp it z)(I:Inv X pins σ H s)(st:z 0 s.heap)(hf:∀b∈fp,yh X pins H b)
  (h:QL J g ti tm D σ H Q){R:Result->Shared->Prop}(hR:∀s' a c,Inv X pins a c s'->Q a c->R (.ok .next) s'):
  codeAny (model X.prog X.w) X.A (.compLoop (.ListComp elt gens sc pos) d (.ref it) (.ref D) X.env) R s:=by
 obtain⟨W,⟨m0,w0⟩,turn⟩:=h;have S:∀{c:Hp},(∀b∈fp,c b=none)->∀b∈fp,yh X pins c b:=λhn b k=>⟨hn b k,(hf b k).2⟩;refine codeAny_loop rfl (λn s'=>∃i a c,Inv X pins a c s'/\z i s'.heap/\(∀b∈fp,c b=none)/\W i n a c) (λn s3 hI=>?_) m0 ⟨0,σ,H,I,st,λb k=>(hf b k).1,w0⟩;show wpAny _ X.A ((compTurn (.ListComp elt gens sc pos) d (.ref it) (.ref D) X.env).onRaise (λx=>do noteFrame x X.env;theTreesLotGoes x)) _ _ s3
 refine wpAny_noted ?_;rw[RY hg ha];refine bG (wpAny_standAt ?_);obtain⟨i,j,B,Z,km,y,w3⟩:=hI;rcases turn i n j B w3 with ⟨stop,qn⟩|⟨go,N,hN,step⟩
 ·refine bG (zM (T.done X rfl rfl rfl Y i pins s3 j B _ Z (S y) km stop) λr s4 ⟨E,I4⟩=>?_)
  subst E;exact bH (hR s4 j B I4 qn)
 ·refine bG (zM (T.item X rfl rfl rfl Y i pins s3 j B _ Z (S y) km go) λr s4 ⟨u,E,h4⟩=>?_)
  subst E;refine bG (zM h4 λ_ s5 ⟨x,H5,I5,r5,y5,l,M⟩=>?_);have P:=I5.pinned (S M) (T.obj _ _ l);have back:∀{f:St}{p:Hp}{q:Shared},Inv X (pins++QD fp s5.heap) f p q->N f p->∃m,m<n/\∃i a c,Inv X pins a c q/\z i q.heap/\(∀b∈fp,c b=none)/\W i m a c:=λ {f p q} t n7=>by
   obtain⟨m',hm,w7⟩:=hN f p n7;refine⟨m',hm,i+1,f,p,t.unpinned,T.keep _ _ _ l λb k o e=>(t.pin (b,o) (aL _ (aL _ (Jk k e)))).1,λb k=>?_,w7⟩;obtain⟨o,e,d⟩:=T.obj _ _ l b k;exact(t.pin (b,o) (aL _ (aL _ (Jk k e)))).2.1
  refine bG (JH U (zM (L _ s5 j H5 x u _ P r5 (step x H5 y5)) λ_ s6 ⟨v,H6,I6,q6⟩=>?_));refine bG (JH U (zM (hi _ s6 v H6 _ I6 q6) λok q ⟨p,t,C⟩=>?_));cases ok with
  |false=>exact bH ⟨rfl,back t C⟩|true=>
   rw[aa rfl]at C;exact hm _ q v p D _ _ _ _ t C λs8 σ8 H8 I8 q8=>bH ⟨rfl,back I8 q8⟩
def Ma {g:TG}{ti:TT}{tm:kP}(i:∀e s,X.xe e s->False)(k:X.calm=true)(c:gens[d]? =some ⟨tg,iter,ifs,0⟩)(o:∀g',gens[d+1]? =some g'->g'.is_async=0)(t:PG X tg g)(j:Ze X ifs ti)(hm:kr X elt gens sc pos d tm)
  {Q:St->Hp->Prop}{J:It}{it:Addr}{n:Nat->Heap->Prop}(T:Turn X.prog X.w X.K tg J fp it n)(I:Inv X pins σ H s)(st:n 0 s.heap)(hf:∀b∈fp,yh X pins H b)
  (h:QL J g ti tm D σ H Q){R:Result->Shared->Prop}(p:∀s' a f,Inv X pins a f s'->Q a f->R (.ok .next) s'):
  codeAny (model X.prog X.w) X.A (.compStart (.ListComp elt gens sc pos) d (.ref it) (.ref D) X.env) R s:=by
 have loop:=Pc i k c o t j hm T I st hf h p;refine codeAny_of_tree ?_;show wpAny _ _ ((compStart (.ListComp elt gens sc pos) d (.ref it) (.ref D) X.env).onRaise (λx=>do noteFrame x X.env;standAt theWindowsPlace)) _ _ s
 refine wpAny_notedAt ?_;unfold compStart;have l:(clausesOf (.ListComp elt gens sc pos))[d]? =some ⟨tg,iter,ifs,0⟩:=c;rw[l];show wpAny _ _ (ask >>= _) _ _ s;refine bG (wpAny_askSetting (wpAny_ite ?_))
 split
 ·first
   |exact bG (bH (bH (And.intro rfl loop)))
   |exact bH (And.intro rfl loop)
 ·first
   |exact bG (wpAny_rule (bG (wpAny_standAt (bG (T.self _ 0 s _ _ st (bH (And.intro rfl loop)))))))
   |(refine bG (wpAny_rule ?_);show wpAny _ _ (standAt iter.pos >>= _) _ _ s;exact bG (wpAny_standAt (bG (T.self _ 0 s _ _ st (bH (And.intro rfl loop))))))
end
noncomputable def kH (nl:Nat)(cap:bq)(σ:St):St:=List.replicate nl none++cap.map λi=>(σ[i]?).join
noncomputable def g9 (M N:bt)(scope:Scope)(nl:Nat)(cap:bq):Bool:=
 N.length==nl+cap.length&&(List.range cap.length).all λk=>match N[nl+k]?,M[cap.getD k 0]? with
  |some x,some y=>x==y&&scope.names.any λz=>z.1==x&&z.2==NameKind.free|_,_=>false
def Sn {M:bt}{nl:Nat}(h:g9 M N scope nl cap=true):(kH nl cap σ).length=N.length/\
  ∀(j:Nat)(x:Str)(v:V),N[j]? =some x->(kH nl cap σ)[j]? =some (some v)->(x,NameKind.free)∈scope.names/\∃i:Nat,M[i]? =some x/\σ[i]? =some (some v):=by
 unfold g9 at h;rw[ai,aD]at h;obtain⟨h1,l⟩:=h;refine⟨by unfold kH;simp[h1],λj x v q E=>?_⟩
 unfold kH at E
 by_cases b:j<nl
 ·rw[ag (by simpa using b),aR]at E
  split at E<;>cases E
 ·rw[aq (by simpa using b),aP,aI]at E
  cases c:cap[j-nl]? with
  |none=>rw[c]at E;cases E|some i=>
   rw[c]at E;have e:(σ[i]?).join=some v:=ao E;have k:j-nl<cap.length:=(bI.mp c).1;have H:=bJ.mp l (j-nl) (bK.mpr k);have n:nl+(j-nl)=j:=by omega
   rw[n,q]at H;have p:cap.getD (j-nl) 0=i:=by rw[aS,c];rfl
   rw[p]at H;cases hm:M[i]? with
   |none=>rw[hm]at H;cases H|some y=>
    rw[hm]at H;rw[ai,aD]at H;obtain⟨g,f⟩:=H;subst g;obtain⟨z,d,a⟩:=List.any_eq_true.mp f;rw[ai,aD,aD]at a;refine⟨?_,i,hm,?_⟩
    ·obtain⟨r,Z⟩:=z
     obtain⟨a1,a2⟩:=a;cases a1;cases a2;exact d
    ·cases s:σ[i]? with
     |none=>rw[s]at e;cases e|some o=>rw[s]at e;cases o with
      |none=>cases e|some w=>cases e;rfl
noncomputable abbrev jm:Value->Shared->Prop:=λ_ _=>False
def KR (K:Frag)(wi:TI)(g:TG)(ti:TT)(tm:kP)(nl:Nat)(cap:bq):TE:=λσ H Q=>wi σ H λJ h=>∀D,h D=none->K.lookup D=none->QL J g ti tm D (kH nl cap σ) (upd h D (.lst [])) λ_ a=>Q (.ref D) a
section
variable {elt iter:Expr}{ifs:bx}{gs:List Comprehension}{wi:TI}{g:TG}{ti:TT}{tm:kP}{nl:Nat}
def GV (hc:X.calm=true)(S:wI X sc)(r:g9 X.N N sc nl cap=true)(ha:∀g',gs[0]? =some g'->g'.is_async=0)(hw:PI X tg iter wi)
  
  (Z:∀s H fp,Inv X pins σ H s->(∀b∈fp,yh X pins H b)->PG (qN X N sc s H fp jm) tg g/\Ze (qN X N sc s H fp jm) ifs ti/\kr (qN X N sc s H fp jm) elt (⟨tg,iter,ifs,0⟩::gs) sc pos 0 tm)
  {Q:VK}(I:Inv X pins σ H s)(h:KR X.K wi g ti tm nl cap σ H Q)
  {use:Option (Value->Sem Unit)}{Q':bw}
  (n:∀(D C:Addr)(s':Shared)(l:Hp)(m:bz),Inv X pins σ l s'->Q (.ref D) l->s'.heap.Ns C m->l C=none->C≠X.env.locals->X.s0.heap.objs.size<=C->(∀x c,X.env.cells.lookup x=some c->c≠C)->(∀q∈X.pn++pins,q.1≠C)->
   compPost (model X.prog X.w) X.A X.xe use Q' (.ref D) C (.ok .next) s')
  (hs:∀x,foldedSetIterable iter X.env x=pure x:=by intro _;rfl):
  wpAny (model X.prog X.w) X.A (comprehension (.ListComp elt (⟨tg,iter,ifs,0⟩::gs) sc pos) sc X.env p (newList []) false (eval iter X.env) use) Q' X.xe s:=by
 have j:∀y∈sc.names,y.2=.free->∃c,X.env.cells.lookup y.1=some c:=λy U e=>I.ok.has _ (S.free y U e);refine wpAny_comprehension_free (use:=use) rfl hs (WS j) S.kind (λy U e=>by
  obtain⟨y1,y2⟩:=y;have e':y2=.local:=e;subst e';exact Zw S.nd U) ?_
 refine zM (hw pins s σ H _ I h) λv s1 h1=>zM h1 λitv s2 h2=>?_;obtain⟨it,fp,tn,J,L,e,I2,T,kR,f2,q2⟩:=h2;subst e;refine wpAny_newObj_type ?_;have hD:L s2.heap.objs.size=none:=I2.fresh;have hKD:X.K.lookup s2.heap.objs.size=none:=by
  cases ek:X.K.lookup s2.heap.objs.size with
  |none=>rfl|some o=>exact absurd (aB (I2.kIn _ _ ek)) (aN _)
 have P:=q2 _ hD hKD;generalize Y:({ s2 with heap:=s2.heap.push { cls:=.type "list",data:=.seq ([]:bj).toArray } }:Shared)=s3
 have f:s3={ s2 with heap:=s2.heap.push { cls:=.type "list",data:=.seq ([]:bj).toArray } }:=Y.symm
 have i:Inv X pins σ (upd L s2.heap.objs.size (.lst [])) s3:=by
  rw[f];exact I2.laid (t':=s2.toks) (λb u e=>ae _ e) (aA _) ⟨by simp,[],0,.nil,au _ rfl⟩
 have t:∀b∈fp,∃o,s2.heap.get? b=some o:=λb a=>let ⟨o,e,_⟩:=T.obj 0 _ kR b a;⟨o,e⟩
 have M:s3.heap.objs.size=s2.heap.objs.size+1:=by rw[f];exact aY ..
 have km:tn 0 s3.heap:=T.keep _ _ _ kR λb a o e=>by rw[f];exact ae _ e
 have B:∀b∈fp,b<s3.heap.objs.size:=λb a=>by
  obtain⟨o,e⟩:=t b a;rw[M];exact a5 (aB e)
 have E:∀b∈fp,yh X pins (upd L s2.heap.objs.size (.lst [])) b:=λb a=>by
  obtain⟨o,e⟩:=t b a;refine⟨?_,(f2 b a).2⟩;rw[zS (aG (aB e))];exact(f2 b a).1
 generalize upd L s2.heap.objs.size (.lst [])=H3 at i E P;generalize s2.heap.objs.size=D at P ⊢;refine VW ?_;obtain⟨cl,cs⟩:=Sn r (σ:=σ);have I4:=SR (xe:=jm) i S E B cl cs;obtain⟨hgt,hi,hm⟩:=Z s3 H3 fp i E;refine Ma (X:=qN X N sc s3 H3 fp jm) (gens:=⟨tg,iter,ifs,0⟩::gs) (d:=0) (λ_ _ z=>z) hc rfl ha hgt hi hm T I4 (T.keep _ _ _ km λb a o e=>pushCells_keeps _ _ _ _ (ae _ e)) (λb a=>?_) P λs' σ' l k q'=>?_
 ·obtain⟨g1,g2,g3,g4,g5,g6⟩:=E b a
  refine⟨g1,aG (B b a),λz=>?_,.inl a,(I4.ok.exf b a).2,λp hp=>absurd (show p∈([]:bp) from hp) (by simp)⟩
  rcases bL.mp (i.stkSub b z) with e|e
  ·exact g2 e
  ·exact g3 e
 ·have I5:Inv X pins σ l s':=i.call' k.os k.base k.hok k.bare λb a=>by
   obtain⟨g1,g2,g3,g4,g5,g6⟩:=E b a;exact⟨g4,g2,g5,g6⟩
  obtain⟨m,hn,_⟩:=k.loc;refine n D _ s' l m I5 q' hn k.free (ne_of_gt i.lt) i.sz (λx c e z=>?_) λq hq z=>?_
  ·obtain⟨v,w⟩:=i.cell x c e
   exact aN _ (av w.lt (by rw[z];exact aA _))
  ·exact aN _ (av (aB (i.pin q hq).1) (by rw[z];exact aA _))
def Rg (d:X.calm=true)(S:wI X sc)(p:g9 X.N N sc nl cap=true)(i:∀g',gs[0]? =some g'->g'.is_async=0)(hw:PI X tg iter wi)
  (n:∀s H fp,PG (qN X N sc s H fp jm) tg g/\Ze (qN X N sc s H fp jm) ifs ti/\kr (qN X N sc s H fp jm) elt (⟨tg,iter,ifs,0⟩::gs) sc pos 0 tm)
  (c:∀x,foldedSetIterable iter X.env x=pure x:=by intro _;rfl):PE X (.ListComp elt (⟨tg,iter,ifs,0⟩::gs) sc pos) (KR X.K wi g ti tm nl cap):=by
 intro pins s σ H Q I h;rw[eval_ListComp];refine GV (use:=none) d S p i hw (λs H fp _ _=>n s H fp) I h (λD C s' u m t q hn h1 r l k j=>?_) c;exact⟨m,hn,λh' a=>⟨.ref D,u,t.turned (t':=s'.toks) (λb o f e=>(a.2 b f).trans e) h1 r (.inr l) k j,rfl,q⟩⟩
end
end L2
namespace Mi
open PySem PySem.Spec PyProof.Rows L2
inductive W where
 |non|bl (b:Bool)|int (i:Int)|str (x:Str)|tup (xs:List W)|ref (n:Nat)
 |clo (k:Nat) (xs:List W) (P:Obj->Addr->Obj->List V->Prop)
 |xc (x:Str)
inductive O where
 |lst (xs:List W)|ro (xs:List W)|dct (kvs:List (Key×W))
 |td (kvs:List (List Int×W))
 |tr (kvs:List (List Int×W))
 |tab (q:Str) (P:Addr)
noncomputable def O.mut:O->Bool
 |.ro _=>false|.tr _=>false|_=>true
noncomputable abbrev Hx:=List O
noncomputable abbrev En:=List (Option W)
inductive R (α:Type) where
 |ok (a:α) (A:Hx)|exc (x:Str) (A:Hx)|bad
noncomputable def R.bind {β:Type}(r:R α)(f:α->Hx->R β):R β:=match r with
 |.ok a A=>f a A|.exc x A=>.exc x A|.bad=>.bad
def R.post (r:R α)(P:α->Hx->Prop)(E:Str->Hx->Prop):Prop:=match r with
 |.ok a A=>P a A|.exc x A=>E x A|.bad=>False
noncomputable def R.nox (r:R α):R α:=match r with
 |.ok a A=>.ok a A|.exc _ _=>.bad|.bad=>.bad
section
variable {β:Type}{r:R α}{f:α->Hx->R β}{P Q:α->Hx->Prop}{P':β->Hx->Prop}{E F:Str->Hx->Prop}
def zO {a:α}{A:Hx}:(R.ok a A).bind f=f a A:=rfl
def GG {A:Hx}:(R.exc x A:R α).bind f=.exc x A:=rfl
def zN:(r.bind f).post P' E↔r.post (λa A=>(f a A).post P' E) E:=by cases r<;>exact Iff.rfl
def ql (h:r.post P E)(H:∀a A,P a A->Q a A)(b:∀x A,E x A->F x A):r.post Q F:=by
 cases r with
 |ok a A=>exact H _ _ h|exc x A=>exact b _ _ h|bad=>exact h
end
abbrev Ev:=En->Hx->R W
inductive Lp (K:Frag)(H:Hp)(R:List V->Prop)(v:V):Prop
 |mk (a:Addr) (vs:List V) (e:v=.ref a) (h:qb K H a vs) (r:R vs)
inductive Lo (H:Hp)(P:Obj->Addr->Obj->List V->Prop)(R:List V->Prop)(v:V):Prop
 |mk (a:Addr) (ob:Obj) (u:HO) (c:Addr) (oc:Obj) (uc:HO) (vs:List V) (e:v=.ref a) (h1:H a=some (.frz ob u)) (h2:H c=some (.frz oc uc)) (p:P ob c oc vs) (r:R vs)
inductive Ln (R:V->Prop)(Rs:List V->Prop)(vs:List V):Prop
 |mk (v:V) (r:List V) (e:vs=v::r) (h:R v) (t:Rs r)
mutual
noncomputable def RV (K:Frag)(φ:bo)(H:Hp):W->V->Prop
 |.non,v=>v=.non|.bl b,v=>v=.bl b|.int i,v=>v=.int i|.str x,v=>v=.str x|.tup ws,v=>Lp K H (zx K φ H ws) v|.ref n,v=>∃a,v=.ref a/\φ[n]? =some a|.clo _ ws P,v=>Lo H P (zx K φ H ws) v|.xc x,v=>∃a o u C,v=.ref a/\H a=some (.frz o u)/\o.cls=.ref C/\nsIn K mainGlobals x=some (some (.ref C))
noncomputable def zx (K:Frag)(φ:bo)(H:Hp):List W->List V->Prop
 |[],vs=>vs=[]|w::ws,vs=>Ln (RV K φ H w) (zx K φ H ws) vs
end
structure Le (K:Frag)(φ:bo)(H:Hp)(φ':bo)(H':Hp):Prop where
 ex:∀(n:Nat)(a:Addr),φ[n]? =some a->φ'[n]? =some a
 tp:∀a vs,qb K H a vs->qb K H' a vs
 fr:∀a o,H a=some o->(∀n:Nat,φ[n]?≠some a)->H' a=some o
 nw:∀(n:Nat)(a:Addr),φ'[n]? =some a->φ[n]? =some a∨H a=none
 st:∀a,H' a=none->H a=none
 fz:∀a o u,H a=some (.frz o u)->H' a=some (.frz o u)
def Le.refl {K φ H}:Le K φ H φ H:=⟨λ_ _ h=>h,λ_ _ h=>h,λ_ _ h _=>h,λ_ _ h=>.inl h,λ_ h=>h,λ_ _ _ h=>h⟩
def Le.trans {K φ H φ1 H1 φ2 H2}(a:Le K φ H φ1 H1)(b:Le K φ1 H1 φ2 H2):Le K φ H φ2 H2 where
 ex:=λn x h=>b.ex n x (a.ex n x h)
 tp:=λn x h=>b.tp n x (a.tp n x h)
 fr:=λc o h n=>b.fr c o (a.fr c o h n) λk e=>by
  rcases a.nw k c e with e|e
  ·exact n k e
  ·rw[h]at e;cases e
 nw:=λn c e=>by
  rcases b.nw n c e with e|e
  ·exact a.nw n c e
  ·exact .inr (a.st c e)
 st:=λc e=>a.st c (b.st c e)
 fz:=λc o u h=>b.fz c o u (a.fz c o u h)
def Le.off {K φ H φ' H'}(l:Le K φ H φ' H')(h:H D=some o)(n:∀k:Nat,φ[k]?≠some D):H' D=some o/\∀k:Nat,φ'[k]?≠some D:=
 ⟨l.fr D o h n,λk e=>by
  rcases l.nw k D e with e|e
  ·exact n k e
  ·rw[h]at e;cases e⟩
section
variable {K:Frag}{φ':bo}{H':Hp}
structure kO (K:Frag)(φ:bo)(H:Hp)(φ':bo)(H':Hp):Prop where
 ex:∀(n:Nat)(a:Addr),φ[n]? =some a->φ'[n]? =some a
 tp:∀a vs,qb K H a vs->qb K H' a vs
 fz:∀a o u,H a=some (.frz o u)->H' a=some (.frz o u)
mutual
theorem RV.monoW (l:kO K φ H φ' H'):∀{w:W}{v:V},RV K φ H w v->RV K φ' H' w v
 |.non,_,h=>h|.bl _,_,h=>h|.int _,_,h=>h|.str _,_,h=>h|.tup ws,_,⟨a,s,e,t,r⟩=>⟨a,s,e,l.tp _ _ t,zx.monoW l r⟩|.ref n,_,⟨a,e,f⟩=>⟨a,e,l.ex _ _ f⟩|.clo _ ws P,_,⟨a,ob,u,c,d,uc,s,e,h1,b,g,r⟩=>⟨a,ob,u,c,d,uc,s,e,l.fz _ _ _ h1,l.fz _ _ _ b,g,zx.monoW l r⟩|.xc x,_,⟨a,o,u,C,e,h1,b⟩=>⟨a,o,u,C,e,l.fz _ _ _ h1,b⟩
theorem zx.monoW (l:kO K φ H φ' H'):∀{ws:List W}{s:List V},zx K φ H ws s->zx K φ' H' ws s
 |[],_,h=>h|w::ws,_,⟨v,r,e,h,t⟩=>⟨v,r,e,RV.monoW l h,zx.monoW l t⟩
end
def RV.mono {w:W}(h:RV K φ H w v)(l:Le K φ H φ' H'):RV K φ' H' w v:=RV.monoW ⟨l.ex,l.tp,l.fz⟩ h
def zx.mono {w:List W}{v:List V}(h:zx K φ H w v)(l:Le K φ H φ' H'):zx K φ' H' w v:=zx.monoW ⟨l.ex,l.tp,l.fz⟩ h
structure jn (K:Frag)(D:Addr)(φ:bo)(H:Hp)(φ':bo)(H':Hp):Prop where
 ex:∀(n:Nat)(a:Addr),φ[n]? =some a->φ'[n]? =some a
 tp:∀a vs,qb K H a vs->qb K H' a vs
 fr:∀a o,a≠D->H a=some o->(∀n:Nat,φ[n]?≠some a)->H' a=some o
 nw:∀(n:Nat)(a:Addr),φ'[n]? =some a->φ[n]? =some a∨H a=none
 st:∀a,H' a=none->H a=none
 fz:∀a o u,H a=some (.frz o u)->H' a=some (.frz o u)
def jn.refl {D}:jn K D φ H φ H:=⟨λ_ _ h=>h,λ_ _ h=>h,λ_ _ _ h _=>h,λ_ _ h=>.inl h,λ_ h=>h,λ_ _ _ h=>h⟩
def Le.toD {D}(l:Le K φ H φ' H'):jn K D φ H φ' H':=⟨l.ex,l.tp,λa o _ h n=>l.fr a o h n,l.nw,l.st,l.fz⟩
def jn.trans {D φ1 H1 φ2 H2}(a:jn K D φ H φ1 H1)(b:jn K D φ1 H1 φ2 H2):jn K D φ H φ2 H2 where
 ex:=λn x h=>b.ex n x (a.ex n x h)
 tp:=λn x h=>b.tp n x (a.tp n x h)
 fr:=λc o ne h n=>b.fr c o ne (a.fr c o ne h n) λk e=>by
  rcases a.nw k c e with e|e
  ·exact n k e
  ·rw[h]at e;cases e
 nw:=λn c e=>by
  rcases b.nw n c e with e|e
  ·exact a.nw n c e
  ·exact .inr (a.st c e)
 st:=λc e=>a.st c (b.st c e)
 fz:=λc o u h=>b.fz c o u (a.fz c o u h)
def RV.monoD {D}{w:W}(h:RV K φ H w v)(l:jn K D φ H φ' H'):RV K φ' H' w v:=RV.monoW ⟨l.ex,l.tp,l.fz⟩ h
def zx.monoD {D}{w:List W}{v:List V}(h:zx K φ H w v)(l:jn K D φ H φ' H'):zx K φ' H' w v:=zx.monoW ⟨l.ex,l.tp,l.fz⟩ h
theorem zx.length:∀{ws:List W}{s:List V},zx K φ H ws s->ws.length=s.length
 |[],_,h=>by cases h;rfl|w::ws,_,⟨v,r,e,_,t⟩=>by subst e;simp[zx.length t]
theorem zx.get:∀{ws:List W}{s:List V}{i:Nat}{w:W},zx K φ H ws s->ws[i]? =some w->∃v,s[i]? =some v/\RV K φ H w v
 |[],_,_,_,_,e=>by simp at e|w::ws,_,0,_,⟨v,r,e,h,t⟩,q=>by subst e;simp at q;subst q;exact⟨v,by simp,h⟩|w::ws,_,i+1,x,⟨v,r,e,h,t⟩,q=>by
  subst e;obtain⟨y,h1,a⟩:=zx.get (i:=i) (w:=x) t (by simpa using q)
  exact⟨y,by simpa using h1,a⟩
theorem zx.append:∀{ws us:List W}{s xs:List V},zx K φ H ws s->zx K φ H us xs->zx K φ H (ws++us) (s++xs)
 |[],_,_,_,h,t=>by cases h;exact t|w::ws,_,_,_,⟨v,r,e,h,t⟩,t2=>by subst e;exact⟨v,r++_,rfl,h,zx.append t t2⟩
def zx.one {w:W}(h:RV K φ H w v):zx K φ H [w] [v]:=⟨v,[],rfl,h,rfl⟩
def zx.nil:zx K φ H [] []:=rfl
def zx.cons {w:W}{v:V}{ws:List W}{s:List V}(h:RV K φ H w v)(t:zx K φ H ws s):zx K φ H (w::ws) (v::s):=⟨v,s,rfl,h,t⟩
theorem zx.set {w:W}(q:RV K φ H w v):∀{ws:List W}{s:List V}(i:Nat),zx K φ H ws s->zx K φ H (ws.set i w) (s.set i v)
 |[],_,_,h=>by cases h;exact rfl|_::_,_,0,⟨a,r,e,h,t⟩=>by subst e;exact⟨v,r,rfl,q,t⟩|_::_,_,i+1,⟨a,r,e,h,t⟩=>by subst e;exact⟨a,_,rfl,h,zx.set q i t⟩
theorem zx.ints:∀{ns:bh}{s:List V},zx K φ H (ns.map W.int) s↔s=ns.map V.int
 |[],s=>Iff.rfl|n::ns,s=>by
  constructor
  ·rintro⟨v,r,e,h,t⟩
   rw[e,(show v=V.int n from h),zx.ints.mp t];rfl
  ·intro e
   exact⟨V.int n,ns.map V.int,e,rfl,zx.ints.mpr rfl⟩
def Qh (K:Frag)(H:Hp)(a:Addr)(xs:List V):Prop:=
 (∃ob,H a=some (.frz ob (.lst xs)))∨
  ∃(o:Obj) (i:Array Value) (n:Nat),K.lookup a=some o/\o.cls=.type "list" /\ o.dict=none/\o.data=.seq i n/\i.size<=sizeLine/\Vals xs i.toList
def Qh.sq {xs:List V}(h:Qh K H a xs):qT K H a xs:=by
 rcases h with h|h
 ·exact .inl (.inr h)
 ·exact .inr h
inductive TabAt (H:Hp)(q:Str)(cv:Value):Prop
 |mk (c:Addr) (oc:Obj) (u:HO) (vs:Array Value) (t:Tok) (e:cv=.ref c) (h:H c=some (.frz oc u)) (d:oc.data=.fields vs/\vs[1]? =some (.str q t))
def Q0 (H:Hp)(q:Str)(ps:Array Value):Prop:=TriplesOk ps.toList/\∀pos cv,codeAmong pos ps.toList=some cv->TabAt H q cv
def Q0.mono {q:Str}{ps:Array Value}(h:Q0 H q ps)(l:∀a o u,H a=some (.frz o u)->H' a=some (.frz o u)):Q0 H' q ps:=
 ⟨h.1,λpos cv e=>by obtain⟨c,b,u,v,t,h1,f,d⟩:=h.2 pos cv e;exact⟨c,b,u,v,t,h1,l _ _ _ f,d⟩⟩
noncomputable def hT (ks:bh):Int:=reduceHash (Builtin.Tuple.tupleHashOf (ks.map hashInt))
def qL (a:Addr)(xs:List (List Int×Addr×V))(h:Heap):Prop:=(a==sysModules)=false/\xs.length<=sizeLine/\∃zs:List (List Int×Addr×Value),
 Paired (λ(p:List Int×Addr×V) (q:List Int×Addr×Value)=>p.1=q.1/\p.2.1=q.2.1/\RelV p.2.2 q.2.2) xs zs/\
 ∃o es e,h.get? a=some o/\o.ExactDict/\o.data=.dict es e/\es.toList=zs.map (λx=>(⟨hT x.1,.ref x.2.1,x.2.2⟩:DictEntry))/\(zs.map (·.1)).Nodup
def Q9 (a:Addr)(xs:List (List Int×Addr×V))(o:Obj):Prop:=(a==sysModules)=false/\xs.length<=sizeLine/\∃zs:List (List Int×Addr×Value),
 Paired (λ(p:List Int×Addr×V) (q:List Int×Addr×Value)=>p.1=q.1/\p.2.1=q.2.1/\RelV p.2.2 q.2.2) xs zs/\
 ∃es e,o.ExactDict/\o.data=.dict es e/\es.toList=zs.map (λx=>(⟨hT x.1,.ref x.2.1,x.2.2⟩:DictEntry))/\(zs.map (·.1)).Nodup
def OR (K:Frag)(φ:bo)(H:Hp)(a:Addr):O->Prop
 |.lst ws=>∃v,H a=some (.lst v)/\zx K φ H ws v|.ro ws=>∃v,Qh K H a v/\zx K φ H ws v|.dct k=>∃us,H a=some (.dK us)/\us.map (·.1)=k.map (·.1)/\zx K φ H (k.map (·.2)) (us.map (·.2))|.td k=>∃xs:List (List Int×Addr×V),H a=some (.ext (qL a xs))/\xs.map (·.1)=k.map (·.1)/\(∀x∈xs,qb K H x.2.1 (x.1.map V.int))/\zx K φ H (k.map (·.2)) (xs.map (·.2.2))|.tr k=>∃(ob:Obj) (u:HO) (xs:List (List Int×Addr×V)),H a=some (.frz ob u)/\Q9 a xs ob/\xs.map (·.1)=k.map (·.1)/\(∀x∈xs,qb K H x.2.1 (x.1.map V.int))/\zx K φ H (k.map (·.2)) (xs.map (·.2.2))|.tab q P=>a=P/\∃ps,H a=some (.tbl ps)/\Q0 H q ps
structure zr (K:Frag)(φ:bo)(A:Hx)(H:Hp):Prop where
 len:φ.length=A.length
 inj:∀(i j:Nat)(a:Addr)(o o':O),φ[i]? =some a->φ[j]? =some a->A[i]? =some o->A[j]? =some o'->o.mut=true->o'.mut=true->i=j
 ob:∀(n:Nat)(o:O),A[n]? =some o->∃a,φ[n]? =some a/\OR K φ H a o
variable {A:Hx}
def OR.there {o:O}(h:OR K φ H a o)(m:o.mut=true):∃u,H a=some u/\(∀xs,u≠.tup xs)/\(∀ob v,u≠.frz ob v):=by
 cases o with
 |lst ws=>obtain⟨s,e,_⟩:=h;exact⟨_,e,λ_ z=>(by cases z),λ_ _ z=>(by cases z)⟩|ro ws=>cases m|dct k=>obtain⟨s,e,_⟩:=h;exact⟨_,e,λ_ z=>(by cases z),λ_ _ z=>(by cases z)⟩|td k=>obtain⟨s,e,_⟩:=h;exact⟨_,e,λ_ z=>(by cases z),λ_ _ z=>(by cases z)⟩|tr _=>cases m|tab q P=>obtain⟨_,s,e,_⟩:=h;exact⟨_,e,λ_ z=>(by cases z),λ_ _ z=>(by cases z)⟩
def Kf (h:qb K H a vs)(n:∀xs,H b≠some (.tup xs))(N:∀ob u,H b≠some (.frz ob u)):qb K (upd H b o) a vs:=by
 rcases h with (h|⟨ob,h⟩)|h
 ·exact .inl (.inl (by rw[zS];exact h;intro e;subst e;exact n _ h))
 ·exact .inl (.inr ⟨ob,by rw[zS];exact h;intro e;subst e;exact N _ _ h⟩)
 ·exact .inr h
theorem Le.upd (c:φ[k]? =some b)(n:∀xs,H b≠some (.tup xs))(N:∀ob u,H b≠some (.frz ob u)):Le K φ H φ (upd H b o) where
 ex:=λ_ _ h=>h
 tp:=λ_ _ h=>Kf h n N
 fr:=λa u h z=>by
  rw[zS];exact h;intro e;subst e;exact z k c
 nw:=λ_ _ h=>.inl h
 st:=λa h=>by
  by_cases e:a=b
  ·subst e;rw[qM]at h;cases h
  ·rw[zS e]at h;exact h
 fz:=λa ob u h=>by
  rw[zS];exact h;intro e;subst e;exact N _ _ h
def Le.new {p:Addr}(b:H p=none):Le K φ H φ (L2.upd H p o) where
 ex:=λ_ _ h=>h
 tp:=λ_ _ h=>Kf h (λxs z=>by rw[b]at z;cases z) (λ_ _ z=>by rw[b]at z;cases z)
 fr:=λa u h z=>by
  rw[zS];exact h;intro e;subst e;rw[b]at h;cases h
 nw:=λ_ _ h=>.inl h
 st:=λa h=>by
  by_cases e:a=p
  ·subst e;rw[qM]at h;cases h
  ·rw[zS e]at h;exact h
 fz:=λa ob u h=>by
  rw[zS];exact h;intro e;subst e;rw[b]at h;cases h
def Le.alloc {p:Addr}(b:H p=none):Le K φ H (φ++[p]) (L2.upd H p o) where
 ex:=λn a h=>by
  have:=(bI.mp h).1
  rw[ag this];exact h
 tp:=(Le.new (φ:=φ) b).tp
 fr:=(Le.new (K:=K) (φ:=φ) b).fr
 nw:=λn a h=>by
  by_cases hn:n < φ.length
  ·rw[ag hn]at h;exact .inl h
  ·rw[aq (by omega)]at h
   have e:a=p:=by
    have:=ba h
    simpa using this
   subst e;exact .inr b
 st:=(Le.new (K:=K) (φ:=φ) b).st
 fz:=(Le.new (K:=K) (φ:=φ) b).fz
def Le.ofD (b:H D=none)(l:jn K D φ (L2.upd H D o) φ' H'):Le K φ H φ' H' where
 ex:=l.ex
 tp:=λa v h=>l.tp a v ((Le.new (K:=K) (φ:=φ) b).tp a v h)
 fr:=λa u h n=>by
  have ne:a≠D:=by rintro rfl;rw[b]at h;cases h
  exact l.fr a u ne (by rw[zS ne];exact h) n
 nw:=λn a e=>by
  rcases l.nw n a e with e|e
  ·exact .inl e
  ·by_cases h:a=D
   ·subst h;rw[qM]at e;cases e
   ·rw[zS h]at e;exact .inr e
 st:=λa e=>by
  have E:=l.st a e
  by_cases h:a=D
  ·subst h;rw[qM]at E;cases E
  ·rw[zS h]at E;exact E
 fz:=λa ob u h=>l.fz a ob u (by rw[zS];exact h;rintro rfl;rw[b]at h;cases h)
theorem jn.upd {xs:List V}(b:H D=some (.lst xs)):jn K D φ H φ (L2.upd H D o) where
 ex:=λ_ _ h=>h
 tp:=λa v h=>Kf h (λxs z=>by rw[b]at z;cases z) (λ_ _ z=>by rw[b]at z;cases z)
 fr:=λa u ne h n=>by rw[zS ne];exact h
 nw:=λ_ _ h=>.inl h
 st:=λa e=>by
  by_cases h:a=D
  ·subst h;rw[qM]at e;cases e
  ·rw[zS h]at e;exact e
 fz:=λa ob u h=>by
  rw[zS];exact h;intro e;subst e;rw[b]at h;cases h
def OR.keep {o:O}(h:OR K φ H a o)(l:Le K φ H φ' H')(e:∀u,H a=some u->H' a=some u):OR K φ' H' a o:=by
 cases o with
 |lst ws=>obtain⟨v,q,r⟩:=h;exact⟨v,e _ q,r.mono l⟩|dct s=>obtain⟨v,q,k,r⟩:=h;exact⟨v,e _ q,k,r.mono l⟩|td s=>obtain⟨v,q,k,t,r⟩:=h;exact⟨v,e _ q,k,λx b=>l.tp _ _ (t x b),r.mono l⟩|tr s=>obtain⟨ob,u,v,q,d,k,t,r⟩:=h;exact⟨ob,u,v,e _ q,d,k,λx b=>l.tp _ _ (t x b),r.mono l⟩|tab q P=>obtain⟨k,ps,q,r⟩:=h;exact⟨k,ps,e _ q,r.mono l.fz⟩|ro ws=>
  obtain⟨v,q,r⟩:=h;refine⟨v,?_,r.mono l⟩;rcases q with ⟨ob,q⟩|q
  ·exact .inl ⟨ob,e _ q⟩
  ·exact .inr q
theorem zr.alloc {p:Addr}{u:HO}{o:O}(S:zr K φ A H)(k:H p=none)(new:OR K (φ++[p]) (L2.upd H p u) p o):Le K φ H (φ++[p]) (L2.upd H p u)/\zr K (φ++[p]) (A++[o]) (L2.upd H p u):=by
 have l:Le K φ H (φ++[p]) (L2.upd H p u):=Le.alloc k;have old:∀(i:Nat) a,(φ++[p])[i]? =some a->i<A.length->φ[i]? =some a:=λi a e b=>by
  rw[ag (by rw[S.len];exact b)]at e;exact e
 refine⟨l,by simp[S.len],λi j a w v h1 g f c x M=>?_,λn o' e=>?_⟩
 ·by_cases b:i<A.length
  ·by_cases d:j<A.length
   ·rw[ag b]at f
    rw[ag d]at c;exact S.inj i j a w v (old i a h1 b) (old j a g d) f c x M
   ·exfalso
    rw[ag b]at f;have s:j=A.length:=by have:=(bI.mp c).1;simp at this;omega
    subst s;rw[aq (by rw[S.len];exact aA _),S.len]at g
    simp at g;obtain⟨B,E,q⟩:=S.ob i w f;rw[old i a h1 b]at E;cases E;obtain⟨z,h,_⟩:=q.there x;rw[<- g,k]at h;cases h
  ·have t:i=A.length:=by have:=(bI.mp f).1;simp at this;omega
   by_cases d:j<A.length
   ·exfalso
    rw[ag d]at c;subst t;rw[aq (by rw[S.len];exact aA _),S.len]at h1
    simp at h1;obtain⟨B,E,q⟩:=S.ob j v c;rw[old j a g d]at E;cases E;obtain⟨z,h,_⟩:=q.there M;rw[<- h1,k]at h;cases h
   ·have:=(bI.mp c).1;simp at this;omega
 ·by_cases hn:n<A.length
  ·rw[ag hn]at e
   obtain⟨a,E,q⟩:=S.ob n o' e;refine⟨a,l.ex _ _ E,q.keep l λz h=>?_⟩;rw[zS];exact h;intro y;subst y;rw[k]at h;cases h
  ·have r:n=A.length:=by have:=(bI.mp e).1;simp at this;omega
   subst r;rw[aq (aA _)]at e;simp at e;subst e;exact⟨p,by rw[aq (by rw[S.len];exact aA _),S.len];simp,new⟩
def zr.write {p:Addr}{u:HO}{o o':O}(S:zr K φ A H)(hn:A[n]? =some o)(m:o.mut=true)(m':o'.mut=true)(f:φ[n]? =some p)(new:OR K φ (L2.upd H p u) p o'):
  Le K φ H φ (L2.upd H p u)/\zr K φ (A.set n o') (L2.upd H p u):=by
 obtain⟨Z,e,q⟩:=S.ob n o hn;rw[f]at e;cases e;obtain⟨z,c,J,N⟩:=q.there m;have l:Le K φ H φ (L2.upd H p u):=Le.upd f (λxs e=>by rw[c]at e;exact J xs (ao e)) λob v e=>by rw[c]at e;exact N ob v (ao e)
 have mt:∀(i:Nat)(w:O),(A.set n o')[i]? =some w->w.mut=true->∃g,A[i]? =some g/\g.mut=true:=λi w e M=>by
  by_cases h:i=n
  ·subst h;exact⟨o,hn,m⟩
  ·rw[aj (Ne.symm h)]at e;exact⟨w,e,M⟩
 refine⟨l,by simp[S.len],λi j a I D h1 X U T P L=>?_,λi w e=>?_⟩
 ·obtain⟨B,E,k1⟩:=mt i I U P
  obtain⟨y,Y,k2⟩:=mt j D T L;exact S.inj i j a B y h1 X E Y k1 k2
 ·by_cases h:i=n
  ·subst h
   have:i<A.length:=(bI.mp hn).1
   rw[aw this]at e;cases e;exact⟨p,f,new⟩
  ·rw[aj (Ne.symm h)]at e
   obtain⟨a,E,r⟩:=S.ob i w e;refine⟨a,E,?_⟩
   by_cases hm:w.mut=true
   ·have ne:a≠p:=λz=>h (S.inj i n a w o E (by rw[z];exact f) e hn hm m)
    exact r.keep l λz c=>by rw[zS ne];exact c
   ·cases w with
    |lst _=>exact absurd rfl hm|dct _=>exact absurd rfl hm|td _=>exact absurd rfl hm|tr _=>obtain⟨ob,u,s,q,d,k,t,r⟩:=r;exact⟨ob,u,s,l.fz _ _ _ q,d,k,λx Q=>l.tp _ _ (t x Q),r.mono l⟩|tab _ _=>exact absurd rfl hm|ro ws=>
     obtain⟨s,b,C⟩:=r;refine⟨s,?_,C.mono l⟩;rcases b with ⟨ob,b⟩|b
     ·refine .inl ⟨ob,?_⟩
      rw[zS];exact b;intro z;subst z;rw[c]at b;exact N _ _ (ao b)
     ·exact .inr b
def zr.lay {p:Addr}{u:HO}(S:zr K φ A H)(b:H p=none):zr K φ A (L2.upd H p u):=
 ⟨S.len,S.inj,λn o e=>by
  obtain⟨a,c,q⟩:=S.ob n o e;refine⟨a,c,q.keep (Le.new b) λz h=>?_⟩;rw[zS];exact h;intro E;subst E;rw[b]at h;cases h⟩
def zr.off {xs:List V}(S:zr K φ A H)(b:H D=some (.lst xs))(n:∀k:Nat,φ[k]?≠some D):zr K φ A (L2.upd H D o):=
 ⟨S.len,S.inj,λk u e=>by
  obtain⟨a,E,q⟩:=S.ob k u e;have ne:a≠D:=λz=>n k (by rw[<- z];exact E)
  have l:jn K D φ H φ (L2.upd H D o):=jn.upd b;refine⟨a,E,?_⟩;cases u with
  |lst ws=>obtain⟨v,q,r⟩:=q;exact⟨v,by rw[zS ne];exact q,r.monoD l⟩|dct s=>obtain⟨v,q,k,r⟩:=q;exact⟨v,by rw[zS ne];exact q,k,r.monoD l⟩|td s=>obtain⟨v,q,k,t,r⟩:=q;exact⟨v,by rw[zS ne];exact q,k,λx h=>l.tp _ _ (t x h),r.monoD l⟩|tr s=>obtain⟨ob,u,v,q,d,k,t,r⟩:=q;exact⟨ob,u,v,l.fz _ _ _ q,d,k,λx h=>l.tp _ _ (t x h),r.monoD l⟩|tab _ _=>obtain⟨k,v,q,r⟩:=q;exact⟨k,v,by rw[zS ne];exact q,r.mono l.fz⟩|ro ws=>
   obtain⟨v,q,r⟩:=q;refine⟨v,?_,r.monoD l⟩;rcases q with ⟨ob,q⟩|q
   ·exact .inl ⟨ob,by rw[zS ne];exact q⟩
   ·exact .inr q⟩
def zr.notin (S:zr K φ A H)(b:H D=none)(d:K.lookup D=none):∀k:Nat,φ[k]?≠some D:=λk e=>by
 have c:k<A.length:=by rw[<- S.len];exact(bI.mp e).1
 obtain⟨a,E,q⟩:=S.ob k A[k] (by simp[c])
 rw[e]at E;cases E;cases h:A[k] with
 |lst ws=>rw[h]at q;obtain⟨v,z,_⟩:=q;rw[b]at z;cases z|dct ws=>rw[h]at q;obtain⟨v,z,_⟩:=q;rw[b]at z;cases z|td _=>rw[h]at q;obtain⟨v,z,_⟩:=q;rw[b]at z;cases z|tr _=>rw[h]at q;obtain⟨_,_,_,z,_⟩:=q;rw[b]at z;cases z|tab _ _=>rw[h]at q;obtain⟨_,v,z,_⟩:=q;rw[b]at z;cases z|ro ws=>
  rw[h]at q;obtain⟨v,z,_⟩:=q;rcases z with ⟨ob,z⟩|⟨o,i,n,z,_⟩
  ·rw[b]at z;cases z
  ·rw[d]at z;cases z
def zr.Z1 {u:HO}{o:O}(S:zr K φ A H)(L:H D=some u)(n:∀k:Nat,φ[k]?≠some D)(new:OR K (φ++[D]) H D o):zr K (φ++[D]) (A++[o]) H:=by
 have l:kO K φ H (φ++[D]) H:=⟨λn a h=>by
  have:=(bI.mp h).1
  rw[ag this];exact h,λ_ _ h=>h,λ_ _ _ h=>h⟩
 have old:∀(i:Nat) a,(φ++[D])[i]? =some a->i<A.length->φ[i]? =some a:=λi a e b=>by
  rw[ag (by rw[S.len];exact b)]at e;exact e
 have last:∀a,(φ++[D])[A.length]? =some a->a=D:=λa e=>by
  rw[aq (by rw[S.len];exact aA _),S.len]at e
  simpa using e.symm
 refine⟨by simp[S.len],λi j a E C h1 B y f I M=>?_,λk o' e=>?_⟩
 ·by_cases b:i<A.length
  ·by_cases c:j<A.length
   ·rw[ag b]at y
    rw[ag c]at f;exact S.inj i j a E C (old i a h1 b) (old j a B c) y f I M
   ·exfalso
    have s:j=A.length:=by have:=(bI.mp f).1;simp at this;omega
    subst s;exact n i (by rw[<- last a B];exact old i a h1 b)
  ·have w:i=A.length:=by have:=(bI.mp y).1;simp at this;omega
   by_cases c:j<A.length
   ·exfalso
    subst w;exact n j (by rw[<- last a h1];exact old j a B c)
   ·have:=(bI.mp f).1;simp at this;omega
 ·by_cases hn:k<A.length
  ·rw[ag hn]at e
   obtain⟨a,J,q⟩:=S.ob k o' e;refine⟨a,l.ex _ _ J,?_⟩;cases o' with
   |lst ws=>obtain⟨v,z,r⟩:=q;exact⟨v,z,r.monoW l⟩|dct ws=>obtain⟨v,z,Z,r⟩:=q;exact⟨v,z,Z,r.monoW l⟩|td _=>obtain⟨v,z,Z,t,r⟩:=q;exact⟨v,z,Z,λx g=>l.tp _ _ (t x g),r.monoW l⟩|tr _=>obtain⟨ob,u,v,z,d,Z,t,r⟩:=q;exact⟨ob,u,v,z,d,Z,λx g=>l.tp _ _ (t x g),r.monoW l⟩|tab _ _=>exact q|ro ws=>obtain⟨v,z,r⟩:=q;exact⟨v,z,r.monoW l⟩
  ·have p:k=A.length:=by have:=(bI.mp e).1;simp at this;omega
   subst p;rw[aq (aA _)]at e;simp at e;subst e;exact⟨D,by rw[aq (by rw[S.len];exact aA _),S.len];simp,new⟩
def Le.Z1 {b:bo}{H0:Hp}(l:Le K b H0 φ H)(h0:H0 D=none):Le K b H0 (φ++[D]) H where
 ex:=λn a h=>by
  have h':=l.ex n a h
  have:=(bI.mp h').1
  rw[ag this];exact h'
 tp:=l.tp
 fr:=l.fr
 nw:=λn a e=>by
  by_cases hn:n < φ.length
  ·rw[ag hn]at e;exact l.nw n a e
  ·rw[aq (by omega)]at e
   have E:a=D:=by
    have:=ba e
    simpa using this
   subst E;exact .inr h0
 st:=l.st
 fz:=l.fz
end
noncomputable abbrev St:=L2.St
abbrev XR:=Str->Hp->Prop
def PB (K:Frag)(φ:bo)(H:Hp)(Q:VK):W->Hx->Prop:=λw A=>∀a h v,Le K φ H a h->zr K a A h->RV K a h w v->Q v h
def LJ (K:Frag)(φ:bo)(H:Hp)(Q:List V->Hp->Prop):List W->Hx->Prop:=λw A=>∀a h v,Le K φ H a h->zr K a A h->zx K a h w v->Q v h
noncomputable def EB (K:Frag)(φ:bo)(H:Hp)(X:XR):Str->Hx->Prop:=λx A=>∀a h,Le K φ H a h->zr K a A h->X x h
structure RE (K:Frag)(φ:bo)(H:Hp)(ρ:En)(σ:St):Prop where
 len:σ.length=ρ.length
 get:∀(i:Nat)(w:W),ρ[i]? =some (some w)->∃v,σ[i]? =some (some v)/\RV K φ H w v
section
variable {K:Frag}{φ1 φ':bo}{H1 H':Hp}{A:Hx}{ρ:En}{xr:XR}
theorem RE.mono (r:RE K φ H ρ σ)(l:Le K φ H φ' H'):RE K φ' H' ρ σ:=⟨r.len,λi w e=>let ⟨v,h1,h⟩:=r.get i w e;⟨v,h1,h.mono l⟩⟩
def PB.mono {Q:VK}{w:W}(h:PB K φ H Q w A)(l:Le K φ H φ1 H1):PB K φ1 H1 Q w A:=λa b v L=>h a b v (l.trans L)
def EB.mono (h:EB K φ H xr x A)(l:Le K φ H φ1 H1):EB K φ1 H1 xr x A:=λa b L=>h a b (l.trans L)
theorem RE.set {w:W}(r:RE K φ H ρ σ)(q:RV K φ H w v):RE K φ H (ρ.set i (some w)) (σ.set i (some v)):=
 ⟨by simp[r.len],λj u e=>by
  by_cases h:i=j
  ·subst h
   have a:i < ρ.length:=by
    have:=(bI.mp e).1
    simpa using this
   rw[aw a]at e;cases e;exact⟨v,by rw[aw (by rw[r.len];exact a)],q⟩
  ·rw[aj h]at e
   obtain⟨x,h1,b⟩:=r.get j u e;exact⟨x,by rw[aj h];exact h1,b⟩⟩
end
inductive MM (K:Frag)(xr:XR)(m:Ev)(σ:St)(H:Hp)(Q:VK):Prop
 |mk (φ:bo) (A:Hx) (ρ:En) (S:zr K φ A H) (re:RE K φ H ρ σ) (h:(m ρ A).post (PB K φ H Q) (EB K φ H xr))
noncomputable def tM (K:Frag)(x:XR)(m:Ev):TE:=λσ H Q=>MM K x m σ H Q
inductive MT (K:Frag)(xr:XR)(m:Ev)(σ:St)(H:Hp)(Q:Bool->Hp->Prop):Prop
 |mk (φ:bo) (A:Hx) (ρ:En) (S:zr K φ A H) (re:RE K φ H ρ σ) (h:(m ρ A).post (λw A'=>∃b,w=.bl b/\∀φ' H',Le K φ H φ' H'->zr K φ' A' H'->Q b H') (EB K φ H xr))
noncomputable def tT (K:Frag)(x:XR)(m:Ev):TT:=λσ H Q=>MT K x m σ H Q
abbrev Ea:=En->Hx->R (List W)
inductive MA (K:Frag)(xr:XR)(m:Ea)(σ:St)(H:Hp)(Q:List V->Hp->Prop):Prop
 |mk (φ:bo) (A:Hx) (ρ:En) (S:zr K φ A H) (re:RE K φ H ρ σ) (h:(m ρ A).post (LJ K φ H Q) (EB K φ H xr))
noncomputable def Ye (K:Frag)(x:XR)(m:Ea):TA:=λσ H Q=>MA K x m σ H Q
def SE (X:Cx)(x:XR)(e:Expr)(m:Ev):Prop:=PE X e (tM X.K x m)
def ST (X:Cx)(x:XR)(e:Expr)(m:Ev):Prop:=PT X e (tT X.K x m)
def SW (X:Cx)(x:XR)(e:Expr)(m:Ev):Prop:=PW X e (tT X.K x m)
def SA (X:Cx)(x:XR)(es:bx)(m:Ea):Prop:=PA X es (Ye X.K x m)
section
variable {xr:XR}{a b:Expr}{m ma mb mc:Ev}
def PE.imp {t t':TE}(h:PE X e t)(i:∀σ H Q,t' σ H Q->t σ H Q):PE X e t':=λpins s σ H Q I hw=>h pins s σ H Q I (i σ H Q hw)
def PT.imp {t t':TT}(h:PT X e t)(i:∀σ H Q,t' σ H Q->t σ H Q):PT X e t':=λpins s σ H Q I hw=>h pins s σ H Q I (i σ H Q hw)
def PW.imp {t t':TT}(h:PW X e t)(i:∀σ H Q,t' σ H Q->t σ H Q):PW X e t':=λw pins s σ H Q I hw=>h w pins s σ H Q I (i σ H Q hw)
def PA.imp {t t':TA}(h:PA X es t)(i:∀σ H Q,t' σ H Q->t σ H Q):PA X es t':=λp pins s σ H Q I hw=>h p pins s σ H Q I (i σ H Q hw)
def tM.go {K:Frag}{A:Hx}{ρ:En}{Q:VK}{G:W->Hx->Prop}(S:zr K φ A H)(r:RE K φ H ρ σ)(h:(m ρ A).post G (EB K φ H xr))
  (k:∀w A1 a H1 v,G w A1->Le K φ H a H1->zr K a A1 H1->RV K a H1 w v->Q v H1):tM K xr m σ H Q:=
 ⟨φ,A,ρ,S,r,ql h (λw A1 g a H1 v l s q=>k w A1 a H1 v g l s q) λ_ _ z=>z⟩
def Ye.go {K:Frag}{A:Hx}{ρ:En}{m:Ea}{Q:List V->Hp->Prop}{G:List W->Hx->Prop}(S:zr K φ A H)(r:RE K φ H ρ σ)(h:(m ρ A).post G (EB K φ H xr))
  (k:∀w A1 a H1 v,G w A1->Le K φ H a H1->zr K a A1 H1->zx K a H1 w v->Q v H1):Ye K xr m σ H Q:=
 ⟨φ,A,ρ,S,r,ql h (λw A1 g a H1 v l s q=>k w A1 a H1 v g l s q) λ_ _ z=>z⟩
def tT.go {K:Frag}{A:Hx}{ρ:En}{Q:Bool->Hp->Prop}{G:W->Hx->Prop}(S:zr K φ A H)(r:RE K φ H ρ σ)(h:(m ρ A).post G (EB K φ H xr))
  (k:∀w A1,G w A1->∃b,w=.bl b/\∀a H1,Le K φ H a H1->zr K a A1 H1->Q b H1):tT K xr m σ H Q:=
 ⟨φ,A,ρ,S,r,ql h (λw A1 g=>k w A1 g) λ_ _ z=>z⟩
noncomputable def zW (i:Nat):Ev:=λρ A=>match ρ[i]? with
 |some (some w)=>.ok w A|_=>.bad
noncomputable def zt (w:W):Ev:=λ_ A=>.ok w A
noncomputable def zh (g:W->W->Hx->R W)(a b:Ev):Ev:=λρ A=>(a ρ A).bind λx A1=>(b ρ A1).bind λy A2=>g x y A2
noncomputable def jg (g:W->Hx->R W)(a:Ev):Ev:=λρ A=>(a ρ A).bind λx A1=>g x A1
noncomputable abbrev yQ:Str->Hx->Prop:=λ_ _=>False
def jB (K:Frag)(r:R2)(g:W->W->Hx->R W):Prop:=∀φ A H x y u v Q,zr K φ A H->RV K φ H u x->RV K φ H v y->(g u v A).post (PB K φ H Q) yQ->r x y H Q
def Yo (K:Frag)(r:V->Hp->VK->Prop)(g:W->Hx->R W):Prop:=∀φ A H x u Q,zr K φ A H->RV K φ H u x->(g u A).post (PB K φ H Q) yQ->r x H Q
def qz (r:R α):Prop:=∀x A,r≠.exc x A
def ZD {r:R α}{P:α->Hx->Prop}{E:Str->Hx->Prop}(n:qz r)(h:r.post P E):r.post P yQ:=by
 cases r with
 |ok a A=>exact h|exc x A=>exact absurd rfl (n x A)|bad=>exact h
def zh.read {g:W->W->Hx->R W}{r:R2}(hn:∀x y A,qz (g x y A))(e:jB X.K r g):∀σ H Q,tM X.K xr (zh g ma mb) σ H Q->Q4 r (tM X.K xr ma) (tM X.K xr mb) σ H Q:=by
 rintro σ H Q ⟨φ,A,ρ,S,re,h⟩
 refine tM.go S re (zN.mp h) λw A1 b H1 v h1 l i d=>?_;refine tM.go i (re.mono l) (ql (zN.mp h1) (λ_ _ z=>z) λ_ _ z=>z.mono l) λc A2 a j v2 f L s q=>?_;exact e a A2 j v v2 w c Q s (d.mono L) q (ql (ZD (hn _ _ _) f) (λ_ _ z=>z.mono (l.trans L)) λ_ _ z=>z)
def jg.read {g:W->Hx->R W}{r:V->Hp->VK->Prop}(hn:∀x A,qz (g x A))(b:Yo X.K r g):∀σ H Q,tM X.K xr (jg g ma) σ H Q->Vz r (tM X.K xr ma) σ H Q:=by
 rintro σ H Q ⟨φ,A,ρ,S,re,h⟩
 refine tM.go S re (zN.mp h) λw A1 a H1 v h1 l s q=>?_;exact b a A1 H1 v w Q s q (ql (ZD (hn _ _) h1) (λ_ _ z=>z.mono l) λ_ _ z=>z)
def gZ {op:Operator}{r:R2}{g:W->W->Hx->R W}(h:qw X (binaryOp op) r)(hn:∀x y A,qz (g x y A))(H:jB X.K r g)(d:SE X xr a ma)(c:SE X xr b mb):SE X xr (.BinOp a op b pos) (zh g ma mb):=
 PE.imp (Mr h d c) (zh.read hn H)
def Ms {op:UnaryOp}{r:V->Hp->VK->Prop}{g:W->Hx->R W}(h:Yt X (unaryOp op) r)(hn:∀x A,qz (g x A))(H:Yo X.K r g)(b:SE X xr a ma):SE X xr (.UnaryOp op a pos) (jg g ma):=
 PE.imp (NM h b) (jg.read hn H)
def OP {r:R2}{g:W->W->Hx->R W}(h:qw X (compareOp op) r)(hn:∀x y A,qz (g x y A))(H:jB X.K r g)(d:SE X xr a ma)(c:SE X xr b mb)(hm:behindInMarks op b=false):SE X xr (.Compare a [op] [b] pos) (zh g ma mb):=
 PE.imp (Rl h d c hm) (zh.read hn H)
def tT.toM {K:Frag}{Q:Bool->Hp->Prop}(h:tT K xr m σ H Q):tM K xr m σ H λx d=>∃k,x=.bl k/\Q k d:=by
 obtain⟨φ,A,ρ,S,re,h⟩:=h;refine tM.go S re h λw A1 a H1 v ⟨b,e,q⟩ l s c=>?_;subst e;exact⟨b,c,q a H1 l s⟩
def O9 {r:R2}{g:W->W->Hx->R W}(o:qw X (compareOp op) r)(hn:∀x y A,qz (g x y A))(c:jB X.K r g)(e:SE X xr a ma)(d:SE X xr b mb)(hm:behindInMarks op b=false):ST X xr (.Compare a [op] [b] pos) (zh g ma mb):=
 PT.imp (RW o e d hm) λσ H Q h=>zh.read hn c σ H _ h.toM
noncomputable def yc (g g':W->W->Hx->R W)(a b c:Ev):Ev:=λρ A=>(a ρ A).bind λx A1=>(b ρ A1).bind λy A2=>(g x y A2).bind λz d=>match z with
 |.bl true=>(c ρ d).bind λw e=>g' y w e|.bl false=>.ok (.bl false) d|_=>.bad
def yc.read {g g':W->W->Hx->R W}{r i:R2}(hn:∀x y A,qz (g x y A))(T:jB X.K r g)(n:∀x y A,qz (g' x y A))(o:jB X.K i g'):
  ∀σ H Q,tM X.K xr (yc g g' ma mb mc) σ H Q->Kt r i (tM X.K xr ma) (tM X.K xr mb) (tM X.K xr mc) σ H Q:=by
 rintro σ H Q ⟨φ,A,ρ,S,re,h⟩
 refine tM.go S re (zN.mp h) λw A1 E H1 v h1 L S1 P=>?_;refine tM.go S1 (re.mono L) (ql (zN.mp h1) (λ_ _ z=>z) λ_ _ z=>z.mono L) λf A2 b D v2 Y B S2 s=>?_;have j:=L.trans B;have p:=zN.mp Y;have a:(g w f A2).post (PB X.K b D λz c=>∃k,z=.bl k/\if k=true then tM X.K xr mc σ c λJ q=>i v2 J q Q else Q (.bl false) c) yQ:=by
  refine ql (ZD (hn _ _ _) p) (λz A3 a e c zv u C N=>?_) λ_ _ z=>z;have l:=j.trans u;cases z with
  |bl k=>
   refine⟨k,N,?_⟩;cases k with
   |true=>
    rw[aa rfl];refine tM.go C (re.mono l) (ql (zN.mp a) (λ_ _ z=>z) λ_ _ z=>z.mono l) λI A4 d q v4 U t Z M=>?_;exact o d A4 q v2 v4 f I Q Z ((s.mono u).mono t) M (ql (ZD (n _ _ _) U) (λ_ _ z=>z.mono (l.trans t)) λ_ _ z=>z)
   |false=>
    rw[af ar];exact a e c _ l C rfl
  |non=>cases a|int _=>cases a|str _=>cases a|tup _=>cases a|ref _=>cases a|clo _ _ _=>cases a|xc _=>cases a
 exact T b A2 D v v2 w f _ S2 (P.mono B) s a
def SV {c:Expr}{o:CmpOp}{r e:R2}{g g':W->W->Hx->R W}(f:qw X (compareOp op) r)(hn:∀x y A,qz (g x y A))(i:jB X.K r g)(h:qw X (compareOp o) e)(H:∀x y A,qz (g' x y A))(d:jB X.K e g')
  (l:SE X xr a ma)(k:SE X xr b mb)(j:SE X xr c mc)(hm:lastMarks [op,o] [b,c]=false:=by with_unfolding_all rfl):SE X xr (.Compare a [op,o] [b,c] pos) (yc g g' ma mb mc):=
 PE.imp (TX f h l k j hm) (yc.read hn i H d)
def Sl {c:Expr}{o:CmpOp}{r i:R2}{g g':W->W->Hx->R W}(j:qw X (compareOp op) r)(hn:∀x y A,qz (g x y A))(k:jB X.K r g)(d:qw X (compareOp o) i)(e:∀x y A,qz (g' x y A))(f:jB X.K i g')
  (p:SE X xr a ma)(n:SE X xr b mb)(l:SE X xr c mc)(hm:lastMarks [op,o] [b,c]=false:=by with_unfolding_all rfl):ST X xr (.Compare a [op,o] [b,c] pos) (yc g g' ma mb mc):=
 PT.imp (Sx j d p n l hm) λσ H Q h=>yc.read hn k e f σ H _ h.toM
noncomputable def qJ (a b:Ev):Ev:=λρ A=>(a ρ A).bind λx A1=>match x with
 |.bl true=>b ρ A1|.bl false=>.ok (.bl false) A1|_=>.bad
noncomputable def Vv (a b:Ev):Ev:=λρ A=>(a ρ A).bind λx A1=>match x with
 |.bl true=>.ok (.bl true) A1|.bl false=>b ρ A1|_=>.bad
noncomputable def kL (a:Ev):Ev:=λρ A=>(a ρ A).bind λx A1=>match x with
 |.bl k=>.ok (.bl (!k)) A1|_=>.bad
noncomputable def Zu (c a b:Ev):Ev:=λρ A=>(c ρ A).bind λx A1=>match x with
 |.bl true=>a ρ A1|.bl false=>b ρ A1|_=>.bad
theorem tT.mono {K:Frag}{c:bo}{H1:Hp}{A1:Hx}{ρ:En}{Q:Bool->Hp->Prop}(S:zr K c A1 H1)(L:Le K φ H c H1)(re:RE K φ H ρ σ)
  (h:(m ρ A1).post (λw A'=>∃b,w=.bl b/\∀a d,Le K φ H a d->zr K a A' d->Q b d) (EB K φ H xr)):tT K xr m σ H1 Q:=
 ⟨c,A1,ρ,S,re.mono L,ql h (λw A' ⟨b,e,q⟩=>⟨b,e,λa d l s=>q a d (L.trans l) s⟩) λ_ _ z=>z.mono L⟩
noncomputable def zl:Ea:=λ_ A=>.ok [] A
noncomputable def zc (a:Ev)(r:Ea):Ea:=λρ A=>(a ρ A).bind λx A1=>(r ρ A1).bind λxs A2=>.ok (x::xs) A2
noncomputable def zR (a:Ea):Ev:=λρ A=>(a ρ A).bind λxs A1=>.ok (.tup xs) A1
noncomputable def qa (a:Ea):Ev:=λρ A=>(a ρ A).bind λxs A1=>.ok (.ref A1.length) (A1++[.lst xs])
def QI {K:Frag}{A:Hx}{p:Addr}{ws:List W}(S:zr K φ A H)(h:H p=none)(r:zx K φ H ws vs):
  Le K φ H φ (upd H p (.tup vs))/\zr K φ A (upd H p (.tup vs))/\RV K φ (upd H p (.tup vs)) (.tup ws) (.ref p):=
 ⟨Le.new h,S.lay h,p,vs,rfl,qb.of qM,r.mono (Le.new h)⟩
def Kx {K:Frag}{A:Hx}{p:Addr}{ws:List W}(S:zr K φ A H)(h:H p=none)(r:zx K φ H ws vs):
  Le K φ H (φ++[p]) (upd H p (.lst vs))/\zr K (φ++[p]) (A++[.lst ws]) (upd H p (.lst vs))/\RV K (φ++[p]) (upd H p (.lst vs)) (.ref A.length) (.ref p):=by
 have l:Le K φ H (φ++[p]) (upd H p (.lst vs)):=Le.alloc h;obtain⟨h1,a⟩:=S.alloc (o:=.lst ws) h ⟨vs,qM,r.mono l⟩;exact⟨h1,a,p,rfl,by rw[<- S.len];simp⟩
def OT {M:Ea}(h:SA X xr es M)(c:∀ρ A ws A',M ρ A=.ok ws A'->ws.length<=sizeLine):SE X xr (.List es pos) (qa M):=
 PE.imp (OC h) λσ H Q ⟨φ,A,ρ,S,re,h⟩=>by
  have h':=zN.mp h;cases e:M ρ A with
  |ok ws A'=>
   rw[e]at h';refine⟨φ,A,ρ,S,re,?_⟩;rw[e];intro a H1 v l s q;refine⟨by rw[<- q.length];exact c ρ A ws A' e,λp b=>?_⟩
   obtain⟨a1,a2,d⟩:=Kx s b q;exact h' _ _ _ (l.trans a1) a2 d
  |exc x A'=>rw[e]at h';refine⟨φ,A,ρ,S,re,?_⟩;rw[e];exact h'|bad=>rw[e]at h';exact h'.elim
end
inductive Fl where
 |nx (ρ:En)|rt (w:W)|bk (ρ:En)|ct (ρ:En)
abbrev Ex:=En->Hx->R Fl
def FB (K:Frag)(φ:bo)(H:Hp)(D:Ends):Fl->Hx->Prop
 |.nx ρ,A=>∀a h b,Le K φ H a h->zr K a A h->RE K a h ρ b->D.nx b h|.rt w,A=>∀a h v,Le K φ H a h->zr K a A h->RV K a h w v->D.rt v h|.bk ρ,A=>∀a h b,Le K φ H a h->zr K a A h->RE K a h ρ b->D.bk b h|.ct ρ,A=>∀a h b,Le K φ H a h->zr K a A h->RE K a h ρ b->D.ct b h
def FB.mono {K:Frag}{c:bo}{H1:Hp}{D:Ends}{f:Fl}{A:Hx}(h:FB K φ H D f A)(l:Le K φ H c H1):FB K c H1 D f A:=by
 cases f with
 |nx ρ=>exactλa b v L=>h a b v (l.trans L)|rt ρ=>exactλa b v L=>h a b v (l.trans L)|bk ρ=>exactλa b v L=>h a b v (l.trans L)|ct ρ=>exactλa b v L=>h a b v (l.trans L)
inductive MS (K:Frag)(xr:XR)(m:Ex)(D:Ends)(σ:St)(H:Hp):Prop
 |mk (φ:bo) (A:Hx) (ρ:En) (S:zr K φ A H) (re:RE K φ H ρ σ) (h:(m ρ A).post (FB K φ H D) (EB K φ H xr))
noncomputable def tS (K:Frag)(x:XR)(m:Ex):TS:=λD σ H=>MS K x m D σ H
def SS (X:Cx)(x:XR)(st:Stmt)(m:Ex):Prop:=PS X st (tS X.K x m)
def Yn (X:Cx)(x:XR)(st:bF)(m:Ex):Prop:=jL X st (tS X.K x m)
section
variable {xr:XR}{a b c:Expr}{st:Stmt}{rest:bF}{m:Ev}{m1 m2:Ex}
def PS.imp {t t':TS}(h:PS X st t)(i:∀D σ H,t' D σ H->t D σ H):PS X st t':=λpins s σ H D I hw=>h pins s σ H D I (i D σ H hw)
def jL.imp {t t':TS}(h:jL X rest t)(i:∀D σ H,t' D σ H->t D σ H):jL X rest t':=λpins s σ H D I hw=>h pins s σ H D I (i D σ H hw)
noncomputable def zB:Ex:=λρ A=>.ok (.nx ρ) A
noncomputable def zm (a M:Ex):Ex:=λρ A=>(a ρ A).bind λl A1=>match l with
 |.nx ρ1=>M ρ1 A1|f=>.ok f A1
noncomputable def jd (m:Ev):Ex:=λρ A=>(m ρ A).bind λ_ A1=>.ok (.nx ρ) A1
noncomputable def jl (m:Ev):Ex:=λρ A=>(m ρ A).bind λw A1=>.ok (.rt w) A1
noncomputable def qG (c:Ev)(a b:Ex):Ex:=λρ A=>(c ρ A).bind λx A1=>match x with
 |.bl true=>a ρ A1|.bl false=>b ρ A1|_=>.bad
noncomputable def zE (i:Nat)(m:Ev):Ex:=λρ A=>(m ρ A).bind λw A1=>.ok (.nx (ρ.set i (some w))) A1
def zE.read:∀D σ H,tS X.K xr (zE i m) D σ H->Wc (tM X.K xr m) (KA i) D σ H:=by
 rintro D σ H ⟨φ,A,ρ,S,re,h⟩
 exact tM.go S re (zN.mp h) λw A1 a H1 v h1 l s q=>h1 a H1 _ l s ((re.mono l).set q)
noncomputable def kX (g:W->W->W->Hx->R Unit)(me mo mi:Ev):Ex:=λρ A=>(me ρ A).bind λv A1=>(mo ρ A1).bind λo A2=>(mi ρ A2).bind λi b=>(g o i v b).bind λ_ a=>.ok (.nx ρ) a
def KP (K:Frag)(t:Qe)(g:W->W->W->Hx->R Unit):Prop:=∀φ A H o i v w wi wv Q,zr K φ A H->RV K φ H w o->RV K φ H wi i->RV K φ H wv v->
 (g w wi wv A).post (λ_ A'=>∀a h,Le K φ H a h->zr K a A' h->Q h) yQ->t o i v H Q
def Gy {o i:Expr}{mo mi:Ev}{t:Qe}{g:W->W->W->Hx->R Unit}{T:Pos}(J:JY X t)(hn:∀o i v A,qz (g o i v A))(U:KP X.K t g)(he:SE X xr e m)(N:SE X xr o mo)(P:SE X xr i mi)
  (M:swapsWithSole [.Subscript o i T] e pos.line X.env=pure false:=by rfl)(hw:swappedStores [.Subscript o i T] e X.env=pure none:=by rfl)
  (h1:(assignEach [.Subscript o i T] X.env).map (·.2)=[assign (.Subscript o i T) X.env]:=by rfl)
  (Y:∀v,assign (.Subscript o i T) X.env v=(do
   let ov <- holding [v] (eval o X.env)
   let iv <- holding [v,ov] (eval i X.env)
   standAt T
   holding [v,ov,iv] (setItem ov iv v)
   release [v,ov,iv] []):=by intro _;rfl):SS X xr (.Assign [.Subscript o i T] e pos) (kX g m mo mi):=
 PS.imp (Xm he (OE N P J Y) M hw h1) λD σ H ⟨φ,A,ρ,S,re,h⟩=>by
  refine tM.go S re (zN.mp h) λk A1 B H1 v1 h1 f S1 I=>?_;refine tM.go S1 (re.mono f) (ql (zN.mp h1) (λ_ _ z=>z) λ_ _ z=>z.mono f) λj A2 y H2 v2 Z p S2 E=>?_;have l:=f.trans p;refine tM.go S2 (re.mono l) (ql (zN.mp Z) (λ_ _ z=>z) λ_ _ z=>z.mono l) λw s c H3 C a d S3 Q=>?_;have L:=l.trans d;refine U c s H3 v2 C v1 j w k _ S3 (E.mono d) Q (I.mono (p.trans d)) ?_;cases r:g j w k s with
  |ok u q=>
   rw[r]at a;exactλb H4 n S4=>a b H4 σ (L.trans n) S4 (re.mono (L.trans n))
  |exc x q=>exact absurd r (hn _ _ _ _ x q)|bad=>rw[r]at a;exact a.elim
structure jA where
 at_:Hx->Nat->Option (Option W)
 len:Nat
def wZ (K:Frag)(φ:bo)(H:Hp)(j:jA)(J:It):Prop:=∀i a h A',kO K φ H a h->zr K a A' h->
 (∀w,j.at_ A' i=some (some w)->J.go i h/\∀x H1,J.yld i h x H1->Le K a h a H1/\zr K a A' H1/\RV K a H1 w x)/\(j.at_ A' i=some none->J.stop i h)
abbrev Ei:=En->Hx->R jA
inductive MI (K:Frag)(xr:XR)(mi:Ei)(σ:St)(H:Hp)(Rr:It->Hp->Prop):Prop
 |mk (φ:bo) (A:Hx) (ρ:En) (S:zr K φ A H) (re:RE K φ H ρ σ) (h:(mi ρ A).post (λj A1=>∀φ1 H1 J,Le K φ H φ1 H1->zr K φ1 A1 H1->wZ K φ1 H1 j J->Rr J H1) (EB K φ H xr))
noncomputable def tI (K:Frag)(x:XR)(mi:Ei):TI:=λσ H r=>MI K x mi σ H r
def SI (X:Cx)(x:XR)(t iter:Expr)(mi:Ei):Prop:=PI X t iter (tI X.K x mi)
def PI.imp {t t':TI}(h:PI X tg e t)(i:∀σ H Q,t' σ H Q->t σ H Q):PI X tg e t':=λpins s σ H Q I hw=>h pins s σ H Q I (i σ H Q hw)
abbrev Tg:=W->En->Option En
inductive MG (K:Frag)(tw:Tg)(v:V)(σ:St)(H:Hp)(Q:St->Hp->Prop):Prop
 |mk (φ:bo) (A:Hx) (ρ:En) (w:W) (ρ':En) (S:zr K φ A H) (re:RE K φ H ρ σ) (rv:RV K φ H w v) (t:tw w ρ=some ρ') (q:∀σ',RE K φ H ρ' σ'->Q σ' H)
noncomputable def tG (K:Frag)(tw:Tg):TG:=λv σ H Q=>MG K tw v σ H Q
def SG (X:Cx)(t:Expr)(tw:Tg):Prop:=PG X t (tG X.K tw)
def PG.imp {t t':TG}(h:PG X tg t)(i:∀v σ H Q,t' v σ H Q->t v σ H Q):PG X tg t':=λpins s σ H v u Q I r hw=>h pins s σ H v u Q I r (i v σ H Q hw)
noncomputable def qh (i:Nat):Tg:=λw ρ=>some (ρ.set i (some w))
noncomputable def kF (i j:Nat):Tg:=λw ρ=>match w with
 |.tup [x,y]=>some ((ρ.set i (some x)).set j (some y))|_=>none
noncomputable def jj (j:jA)(st:W->Ex):Nat->Nat->Ex
 |0,i,ρ,A=>match j.at_ A i with
  |some none=>.ok (.nx ρ) A|_=>.bad
 |f+1,i,ρ,A=>match j.at_ A i with
  |some none=>.ok (.nx ρ) A|some (some w)=>(st w ρ A).bind λl A1=>match l with
   |.nx ρ1=>jj j st f (i+1) ρ1 A1|.ct ρ1=>jj j st f (i+1) ρ1 A1|.bk ρ1=>.ok (.nx ρ1) A1|.rt w=>.ok (.rt w) A1
  |none=>.bad
noncomputable def turn (tw:Tg)(body:Ex)(w:W):Ex:=λρ A=>match tw w ρ with
 |some ρ1=>body ρ1 A|none=>.bad
def jQ (mi:Ei)(tw:Tg)(body:Ex):Ex:=λρ A=>(mi ρ A).bind λj A1=>jj j (turn tw body) j.len 0 ρ A1
inductive Vy (K:Frag)(xr:XR)(j:jA)(t:W->Ex)(D:Ends)(φ1:bo)(H1:Hp)(f i:Nat)(σ':St)(H':Hp):Prop
 |mk (φ2:bo) (A2:Hx) (ρ2:En) (l:Le K φ1 H1 φ2 H') (S:zr K φ2 A2 H') (re:RE K φ2 H' ρ2 σ') (h:(jj j t f i ρ2 A2).post (FB K φ2 H' D) (EB K φ2 H' xr))
noncomputable def gA (nl:Nat)(cap:bq)(ρ:En):En:=List.replicate nl none++cap.map λi=>(ρ[i]?).join
theorem RE.kH {K:Frag}{ρ:En}{nl:Nat}(r:RE K φ H ρ σ):RE K φ H (gA nl cap ρ) (L2.kH nl cap σ):=by
 refine⟨by simp[gA,L2.kH],λi w e=>?_⟩
 unfold gA at e;unfold L2.kH
 by_cases a:i<nl
 ·rw[ag (by simpa using a),aR]at e
  split at e<;>cases e
 ·rw[aq (by simpa using a),aP,aI]at e
  rw[aq (by simpa using a),aP,aI]
  cases c:cap[i-nl]? with
  |none=>rw[c]at e;cases e|some k=>
   rw[c]at e;have E:(ρ[k]?).join=some w:=ao e;cases h:ρ[k]? with
   |none=>rw[h]at E;cases E|some o=>cases o with
    |none=>rw[h]at E;cases E|some d=>
     rw[h]at E;cases E;obtain⟨v,h1,b⟩:=r.get k w h;exact⟨v,by simp[h1],b⟩
abbrev Em:=En->List W->Hx->R (En×List W)
noncomputable def qy:Nat:=100000
def qX (elt:Ev):Em:=λρ acc A=>(elt ρ A).bind λy A1=>if acc.length<qy then .ok (ρ,acc++[y]) A1 else .bad
noncomputable def qS (j:jA)(tw:Tg)(ifs:Ev)(em:Em):Nat->Nat->Em
 |0,i,ρ,acc,A=>match j.at_ A i with
  |some none=>.ok (ρ,acc) A|_=>.bad
 |f+1,i,ρ,acc,A=>match j.at_ A i with
  |some none=>.ok (ρ,acc) A|some (some w)=>match tw w ρ with
   |some ρ1=>(ifs ρ1 A).bind λc A1=>match c with
    |.bl true=>(em ρ1 acc A1).bind λp A2=>qS j tw ifs em f (i+1) p.1 p.2 A2|.bl false=>qS j tw ifs em f (i+1) ρ1 acc A1|_=>.bad
   |none=>.bad
  |none=>.bad
abbrev jy:=En->Hx->R (List W)
def jI (nl:Nat)(cap:bq)(mi:Ei)(tw:Tg)(ifs:Ev)(em:Em):jy:=λρ A=>(mi ρ A).bind λj A1=>(qS j tw ifs em j.len 0 (gA nl cap ρ) [] A1).nox.bind λp A2=>.ok p.2 A2
def Q5 (K:Frag)(D:Addr)(φ:bo)(H:Hp)(Q:St->Hp->Prop)(p:En×List W)(A1:Hx):Prop:=∀a H1 b zs,jn K D φ H a H1->(∀k:Nat,a[k]?≠some D)->zr K a A1 H1->RE K a H1 p.1 b->H1 D=some (.lst zs)->zx K a H1 p.2 zs->Q b H1
inductive ME (K:Frag)(em:Em)(D:Addr)(σ:St)(H:Hp)(Q:St->Hp->Prop):Prop
 |mk (φ:bo) (A:Hx) (ρ:En) (acc:List W) (ys:List V) (S:zr K φ A H) (re:RE K φ H ρ σ) (hD:H D=some (.lst ys)) (nD:∀k:Nat,φ[k]?≠some D) (rv:zx K φ H acc ys)
  (h:(em ρ acc A).post (Q5 K D φ H Q) yQ)
noncomputable def tE (K:Frag)(em:Em):kP:=λD σ H Q=>ME K em D σ H Q
noncomputable abbrev j3:XR:=λ_ _=>False
def SM (X:Cx)(elt:Expr)(gens:List Comprehension)(sc:Scope)(c:Pos)(d:Nat)(em:Em):Prop:=kr X elt gens sc c d (tE X.K em)
def kr.imp {elt:Expr}{d:Nat}{t t':kP}(h:kr X elt gens sc pos d t)(i:∀D σ H Q,t' D σ H Q->t D σ H Q):kr X elt gens sc pos d t':=
 λpins s σ H D Q k q E I hw a=>h pins s σ H D Q k q E I (i D σ H Q hw) a
def Jv {K:Frag}{r:R α}{P:α->Hx->Prop}(h:r.post P yQ):r.post P (EB K φ H j3):=ql h (λ_ _ z=>z) λ_ _ z=>z.elim
def Jb (X:Cx)(ifs:bx)(m:Ev):Prop:=Ze X ifs (tT X.K j3 m)
def G9:Jb X [] (zt (.bl true)):=λpins s σ H Q I ⟨φ,A,ρ,S,re,h⟩=>TN pins s σ H Q I (by
 obtain⟨b,e,q⟩:=h;cases e;exact q φ H .refl S)
inductive Yl (tw:Tg)(ifs:Ev)(em:Em)(j:jA)(K:Frag)(D:Addr)(φ:bo)(H:Hp)(Q:St->Hp->Prop)(f i:Nat)(σ':St)(H':Hp):Prop
 |mk (φ2:bo) (A2:Hx) (ρ2:En) (acc2:List W) (ys2:List V) (l:jn K D φ H φ2 H') (S:zr K φ2 A2 H') (re:RE K φ2 H' ρ2 σ') (hD:H' D=some (.lst ys2)) (nD:∀k:Nat,φ2[k]?≠some D) (ra:zx K φ2 H' acc2 ys2) (h:(qS j tw ifs em f i ρ2 acc2 A2).post (Q5 K D φ H Q) yQ)
def qS.read {tw:Tg}{ifs:Ev}{em:Em}{j:jA}{J:It}{K:Frag}{A:Hx}{ρ:En}{acc:List W}{Q:St->Hp->Prop}{f:Nat}
  (jr:wZ K φ H j J)
  (S:zr K φ A H)(re:RE K φ H ρ σ)(hD:H D=some (.lst ys))(nD:∀k:Nat,φ[k]?≠some D)(ra:zx K φ H acc ys)
  (h:(qS j tw ifs em f 0 ρ acc A).post (Q5 K D φ H Q) yQ):
  QL J (tG K tw) (tT K j3 ifs) (tE K em) D σ H Q:=by
 refine⟨λi f b P=>Yl tw ifs em j K D φ H Q f i b P,
  ⟨f,φ,A,ρ,acc,ys,.refl,S,re,hD,nD,ra,h⟩,?_⟩
 rintro i f U H2 ⟨g,A2,s,e,Y,B,S2,t,M,u,n,a⟩
 obtain⟨j1,j2⟩:=jr i g H2 A2 ⟨B.ex,B.tp,B.fz⟩ S2;cases E:j.at_ A2 i with
 |none=>cases f<;>(unfold qS at a;rw[E]at a;exact a.elim)|some o=>
  cases o with
  |none=>
   left
   refine⟨j2 E,?_⟩;cases f<;>(unfold qS at a;rw[E]at a;exact a g H2 U Y B u S2 t M n)
  |some w=>
   right
   obtain⟨go,yl⟩:=j1 w E;cases f with
   |zero=>unfold qS at a;rw[E]at a;exact a.elim|succ f=>
    unfold qS at a;rw[E]at a;refine⟨go,λb P=>Yl tw ifs em j K D φ H Q f (i+1) b P,λb P z=>⟨f,bb _,z⟩,λx H3 y=>?_⟩;obtain⟨v,S3,q3⟩:=yl x H3 y;obtain⟨hD3,Z⟩:=v.off M u;dsimp only at a;cases et:tw w s with
    |none=>rw[et]at a;exact a.elim|some l=>
     rw[et]at a;refine⟨g,A2,s,w,l,S3,t.mono v,q3,et,λσ3 r=>?_⟩;refine tT.go S3 r (Jv (zN.mp a)) λc A4 d=>?_;cases c with
     |bl k=>
      refine⟨k,rfl,λq H4 L S4=>?_⟩;obtain⟨I,N⟩:=L.off hD3 Z;have C:=(B.trans (v.trans L).toD);cases k with
      |true=>
       rw[aa rfl];refine⟨q,A4,l,e,Y,S4,r.mono L,I,N,n.mono (v.trans L),ql (zN.mp d) (λp A5 h5 T H5 σ5 zs l5 n5 S5 X d5 r5=>?_) λ_ _ z=>z⟩;exact⟨T,A5,p.1,p.2,zs,C.trans l5,S5,X,d5,n5,r5,h5⟩
      |false=>
       rw[af ar];exact⟨q,A4,l,e,Y,C,S4,r.mono L,I,N,n.mono (v.trans L),d⟩
     |non=>cases d|int _=>cases d|str _=>cases d|tup _=>cases d|ref _=>cases d|clo _ _ _=>cases d|xc _=>cases d
def wZ.mono {K:Frag}{b:bo}{H1:Hp}{j:jA}{J:It}(h:wZ K φ H j J)(l:kO K φ H b H1):wZ K b H1 j J:=
 λi c d A' L=>h i c d A' ⟨λn a e=>L.ex n a (l.ex n a e),λa v e=>L.tp a v (l.tp a v e),λa o u e=>L.fz a o u (l.fz a o u e)⟩
inductive MF (K:Frag)(xr:XR)(mq:jy)(σ:St)(H:Hp)(Q:VK):Prop
 |mk (φ:bo) (A:Hx) (ρ:En) (S:zr K φ A H) (re:RE K φ H ρ σ) (h:(mq ρ A).post (λws A1=>∀φ1 H1 D ys,Le K φ H φ1 H1->zr K φ1 A1 H1->H D=none->H1 D=some (.lst ys)->(∀k:Nat,φ1[k]?≠some D)->zx K φ1 H1 ws ys->Q (.ref D) H1) (EB K φ H xr))
noncomputable def tF (K:Frag)(x:XR)(M:jy):TE:=λσ H Q=>MF K x M σ H Q
def SF (X:Cx)(x:XR)(e:Expr)(M:jy):Prop:=PE X e (tF X.K x M)
theorem jI.read {mi:Ei}{tw:Tg}{M:Ev}{em:Em}{nl:Nat}:∀σ H Q,tF X.K xr (jI nl cap mi tw M em) σ H Q->KR X.K (tI X.K xr mi) (tG X.K tw) (tT X.K j3 M) (tE X.K em) nl cap σ H Q:=by
 rintro σ H Q ⟨φ,A,ρ,S,re,h⟩
 refine⟨φ,A,ρ,S,re,ql (zN.mp h) (λj A1 h1 b H1 J l s o D c q=>?_) λ_ _ z=>z⟩;have ln:Le X.K b H1 b (upd H1 D (.lst [])):=Le.new c;have a:=zN.mp h1;refine qS.read (o.mono ⟨ln.ex,ln.tp,ln.fz⟩) (s.lay c) ((re.mono (l.trans ln)).kH) qM (s.notin c q) .nil ?_ (f:=j.len) (acc:=[]);cases e:qS j tw M em j.len 0 (gA nl cap ρ) [] A1 with
 |ok p A2=>
  rw[e]at a;intro d v g zs k n u r t i;have L:=l.trans (Le.ofD c k);exact a d v D zs L u (l.st D c) t n i
 |exc x A2=>rw[e]at a;exact a.elim|bad=>rw[e]at a;exact a.elim
noncomputable def jk (q:jy):Ev:=λρ A=>(q ρ A).bind λws A1=>.ok (.ref A1.length) (A1++[.lst ws])
def jk.read {q:jy}{K:Frag}:∀σ H Q,tM K xr (jk q) σ H Q->tF K xr q σ H Q:=by
 rintro σ H Q ⟨φ,A,ρ,S,re,h⟩
 refine⟨φ,A,ρ,S,re,ql (zN.mp h) (λws A1 h1 b H1 D y L s h0 c N r=>?_) λ_ _ z=>z⟩;have l:Le K φ H (b++[D]) H1:=L.Z1 h0;have lw:kO K b H1 (b++[D]) H1:=⟨λn a h=>by
  have:=(bI.mp h).1
  rw[ag this];exact h,λ_ _ h=>h,λ_ _ _ h=>h⟩
 refine h1 _ _ _ l (s.Z1 (o:=.lst ws) c N ⟨y,c,r.monoW lw⟩) ⟨D,rfl,?_⟩;rw[<- s.len];simp
inductive MQ (K:Frag)(xr:XR)(mq:jy)(σ:St)(H:Hp)(Q:VK):Prop
 |mk (φ:bo) (A:Hx) (ρ:En) (S:zr K φ A H) (re:RE K φ H ρ σ) (h:(mq ρ A).post (λws A1=>∀φ1 H1 a ys,Le K φ H φ1 H1->zr K φ1 A1 H1->(qT K H1 a ys∨qb K H1 a ys)->zx K φ1 H1 ws ys->Q (.ref a) H1) (EB K φ H xr))
noncomputable def tQ (K:Frag)(x:XR)(M:jy):TE:=λσ H Q=>MQ K x M σ H Q
def SQ (X:Cx)(x:XR)(e:Expr)(M:jy):Prop:=PE X e (tQ X.K x M)
noncomputable def zV (w:W)(A:Hx):Option (List W):=match w with
 |.tup ws=>some ws|.ref n=>match A[n]? with
  |some (.lst ws)=>some ws|some (.ro ws)=>some ws|_=>none
 |_=>none
def YQ {K:Frag}{A:Hx}{w:W}{ws:List W}(S:zr K φ A H)(q:RV K φ H w v)(e:zV w A=some ws):∃a y,v=.ref a/\(qT K H a y∨qb K H a y)/\zx K φ H ws y:=by
 unfold zV at e;cases w with
 |tup xs=>cases e;obtain⟨a,y,b,c,E⟩:=q;exact⟨a,y,b,.inr c,E⟩|ref n=>
  obtain⟨a,b,c⟩:=q;dsimp only at e;cases ea:A[n]? with
  |none=>rw[ea]at e;cases e|some o=>
   rw[ea]at e;obtain⟨d,E,r⟩:=S.ob n o ea;rw[c]at E;cases E;cases o with
   |lst xs=>cases e;obtain⟨y,h1,h⟩:=r;exact⟨a,y,b,.inl (qT.of h1),h⟩|ro xs=>cases e;obtain⟨y,h1,h⟩:=r;exact⟨a,y,b,.inl h1.sq,h⟩|dct xs=>cases e|td _=>cases e|tr _=>cases e|tab _ _=>cases e
 |non=>cases e|bl _=>cases e|clo _ _ _=>cases e|xc _=>cases e|int _=>cases e|str _=>cases e
def kJ (m:Ev):jy:=λρ A=>(m ρ A).bind λw A1=>match zV w A1 with
 |some ws=>.ok ws A1|none=>.bad
def JZ (w:W)(A:Hx):Option jA:=match zV w A with
 |some ws=>some ⟨λA i=>(zV w A).map λws=>ws[i]?,ws.length⟩|none=>none
def jS (m:Ev):Ei:=λρ A=>(m ρ A).bind λw A1=>match JZ w A1 with
 |some j=>.ok j A1|none=>.bad
def Ly (K:Frag)(t:TE):TI:=λσ H r=>t σ H λx H1=>∃a,x=.ref a/\(((∃xs,qT K H1 a xs)/\r (VF K a) H1)∨((∃xs,qb K H1 a xs)/\r (Vo K a) H1))
def O4 {l:Expr}{t:TE}(j:PE X l t):PI X tg l (Ly X.K t):=by
 intro pins s σ H n I h;refine zM (j pins s σ H _ I h) λv s1 ⟨x,H1,i,g,Q⟩=>?_;obtain⟨a,e,q⟩:=Q;subst e;cases g;have f:∀b∈[s1.heap.objs.size],yh X pins H1 b:=λb k=>by
  have e:b=s1.heap.objs.size:=by simpa using k
  subst e;exact i.fpOk (aA _) (i.hok.fresh (aA _))
 rcases q with ⟨⟨xs,d⟩,q⟩|⟨⟨xs,d⟩,q⟩
 ·obtain⟨c,r,p,z⟩:=i.list d
  refine wpAny_pyIter_list p.isList ?_;exact⟨s1.heap.objs.size,[s1.heap.objs.size],_,_,H1,rfl,i.kept (t':=s1.toks) λb o e=>ae _ e,Tq a _,⟨_,au _ rfl,rfl,rfl⟩,f,q⟩
 ·obtain⟨c,r,p,z⟩:=i.tuple d
  refine wpAny_pyIter_tuple (show s1.heap.IsTuple a c.toArray from p) ?_
  exact⟨s1.heap.objs.size,[s1.heap.objs.size],_,_,H1,rfl,i.kept (t':=s1.toks) λb o e=>ae _ e,UM a _,⟨_,au _ rfl,rfl,rfl⟩,f,q⟩
noncomputable def jE (lo:Int)(n:Nat):jA:=⟨λ_ i=>if i<n then some (some (.int (lo+i))) else some none,n⟩
def Nh {K:Frag}{lo:Int}:wZ K φ H (jE lo n) (Yi lo n):=λi a c A' lw S=>by
 unfold jE;dsimp only
 by_cases h:i<n
 ·rw[aa h]
  refine⟨λw e=>?_,λe=>by cases e⟩
  cases e;exact⟨h,λx H1 ⟨b,E⟩=>by subst b;exact⟨.refl,S,E⟩⟩
 ·rw[af h]
  exact⟨λw e=>(by cases e),λ_=>Nat.le_of_not_lt h⟩
noncomputable def yz (i:Int):Bool:=decide (-(2 ^ 62)<=i)&&decide (i<2 ^ 62)
def W0 {i:Int}(h:yz i=true):-(2 ^ 62)<=i/\i<2 ^ 62:=by
 unfold yz at h;rw[ai,ah,ah]at h;exact h
def jh (m:Ev):Ei:=λρ A=>(m ρ A).bind λw A1=>match w with
 |.int j=>if yz j then .ok (jE 0 j.toNat) A1 else .bad|_=>.bad
end
abbrev Fn:=List W->Hx->R W
def jP (K:Frag)(x:Str)(C:Value):Prop:=nsIn K mainGlobals x=some (some C)
def XE (K:Frag)(E:XK)(x:Str)(H:Hp):Prop:=∀C d,jP K x C->E C d H
inductive Q6 (K:Frag)(n:Nat)(f:Fn)(vs:List V)(H:Hp)(Q:VK)(E:XK):Prop
 |mk (len:vs.length=n) (φ:bo) (A:Hx) (ws:List W) (S:zr K φ A H) (r:zx K φ H ws vs) (q:(f ws A).post (PB K φ H Q) (EB K φ H (XE K E)))
def Q6.len {K:Frag}{f:Fn}{Q:VK}{E:XK}(h:Q6 K n f vs H Q E):vs.length=n:=by cases h;assumption
inductive qe (P:Program)(w:World)(K:Frag)(mg:bz)(base:Heap)(k:Nat)(x:Str)(n:Nat)(f:Fn):Prop
 |mk (fa:Addr) (fd:FuncData) (ps:bt) (F:jJ P w K mg base kg k fa fd ps (Q6 K n f)) (at_:mg x=some (.ref fa)) (kp:keepIn K (.ref fa)=true) (bi:Binds K fd ps [])
noncomputable def zF (f:Fn)(a:Ea):Ev:=λρ A=>(a ρ A).bind λws A1=>f ws A1
section
variable {m ma:Ev}
def wR (m:Ea)(n:Nat):Prop:=∀ρ A ws A',m ρ A=.ok ws A'->ws.length=n
def qj:wR zl 0:=λ_ _ _ _ h=>by unfold zl at h;cases h;rfl
def zu {M:Ea}(h:wR M n):wR (zc ma M) (n+1):=λρ A ws A' e=>by
 unfold zc at e;cases h1:ma ρ A with
 |ok x A1=>
  rw[h1,zO]at e;cases H:M ρ A1 with
  |ok xs A2=>rw[H,zO]at e;cases e;simp[h ρ A1 xs _ H]|exc x A2=>rw[H]at e;cases e|bad=>rw[H]at e;cases e
 |exc x A1=>rw[h1]at e;cases e|bad=>rw[h1]at e;cases e
end
noncomputable def jG (n:Nat)(m:Ex):Fn:=λws A=>(m (ws.map some++List.replicate (n-ws.length) none) A).nox.bind λf A1=>match f with
 |.rt w=>.ok w A1|.nx _=>.ok .non A1|_=>.bad
theorem RE.start {K:Frag}{ws:List W}(h:zx K φ H ws vs):RE K φ H (ws.map some++List.replicate (N.length-ws.length) none) (L2.start N vs):=by
 unfold L2.start;refine⟨by simp[h.length],λi w e=>?_⟩
 by_cases a:i<ws.length
 ·rw[ag (by simpa using a),aI]at e
  cases hw:ws[i]? with
  |none=>rw[hw]at e;cases e|some c=>
   rw[hw]at e;cases e;obtain⟨v,h1,b⟩:=h.get hw;refine⟨v,?_,b⟩;rw[ag (by rw[aC,<- h.length];exact a),aI,h1];rfl
 ·rw[aq (by simpa using a),aR]at e
  split at e<;>cases e
section
variable {K:Frag}
theorem qe.mono {f:Fn}(F:qe P w K mg base j x n f)(h:j<=k):qe P w K mg base k x n f:=by cases F with|mk d fd ps F a b c=>exact⟨d,fd,ps,F.mono h,a,b,c⟩
theorem qe.imp {f g:Fn}(F:qe P w K mg base k x n f)(h:∀ws A,ws.length=n->g ws A=.bad∨f ws A=g ws A):qe P w K mg base k x n g:=by
 obtain⟨d,fd,ps,F,a,b,c⟩:=F;refine⟨d,fd,ps,F.imp λv H Q E ⟨l,φ,A,ws,S,r,q⟩=>⟨l,φ,A,ws,S,r,?_⟩,a,b,c⟩;rcases h ws A (by rw[r.length];exact l) with e|e
 ·rw[e]at q;exact q.elim
 ·rw[e];exact q
end
section
variable {K:Frag}
def jF {a:α}{A:Hx}:qz (R.ok a A):=λ_ _ h=>by cases h
def qC:qz (R.bad:R α):=λ_ _ h=>by cases h
def kY {c:Prop} [Decidable c] {a b:R α}(h1:qz a)(h:qz b):qz (if c then a else b):=by split<;>assumption
noncomputable def wk (f:Int->Int->W):W->W->Hx->R W
 |.int i,.int j,A=>.ok (f i j) A|_,_,_=>.bad
def g8 {f:Int->Int->W}:∀x y A,qz (wk f x y A):=λx y A=>by
 unfold wk;split
 ·exact jF
 ·exact qC
noncomputable def wm (c:Int->Int->Bool)(f:Int->Int->W):W->W->Hx->R W
 |.int i,.int j,A=>if c i j then .ok (f i j) A else .bad|_,_,_=>.bad
def KQ {c:Int->Int->Bool}{f:Int->Int->W}:∀x y A,qz (wm c f x y A):=λx y A=>by
 unfold wm;split
 ·exact kY jF qC
 ·exact qC
def gX {f:Int->Int->W}{g:Int->Int->V}(h:∀i j φ H,RV K φ H (f i j) (g i j)):jB K (wt g) (wk f):=λφ A H x y u v Q S a q p=>by
 cases u with
 |int i=>cases v with
  |int j=>obtain rfl:=a;obtain rfl:=q;exact⟨i,j,rfl,rfl,p φ H _ .refl S (h i j φ H)⟩|_=>exact p.elim
 |_=>exact p.elim
def Kq {c:Int->Int->Bool}{C:Int->Int->Prop}{f:Int->Int->W}{g:Int->Int->V}(d:∀i j,c i j=true->C i j)(h:∀i j φ H,RV K φ H (f i j) (g i j)):jB K (rI C g) (wm c f):=λφ A H x y u v Q S b q p=>by
 cases u with
 |int i=>cases v with
  |int j=>
   obtain rfl:=b;obtain rfl:=q;unfold wm at p;dsimp only at p
   by_cases a:c i j=true
   ·rw[aa a]at p;exact⟨i,j,rfl,rfl,d i j a,p φ H _ .refl S (h i j φ H)⟩
   ·rw[af a]at p;exact p.elim
  |_=>exact p.elim
 |_=>exact p.elim
noncomputable def wU (i j:Int):Bool:=(decide (-(2 ^ 64)<i)&&decide (i<2 ^ 64)) || (decide (-(2 ^ 64)<j)&&decide (j<2 ^ 64))
noncomputable def QR (_ j:Int):Bool:=decide (0<j)&&decide (j<1073741824)
noncomputable def J6 (_ j:Int):Bool:=decide (0<j)
def PM (i j:Int)(h:wU i j=true):QX i j:=by
 unfold wU at h;simp only[aU,ai,decide_eq_true_eq]at h;exact h
def R6 (i j:Int)(h:QR i j=true):Vd i j:=by
 unfold QR at h;simp only[ai,decide_eq_true_eq]at h;exact h
def Ph (i j:Int)(h:J6 i j=true):(λ_ j=>0<j) i j:=by
 unfold J6 at h;simpa using h
def qf:=wk λi j=>.int (i-j)
def wW:=wm QR λi j=>.int (i/j)
def yY:=wm J6 λi j=>.int (i%j)
def jz:=wk λi j=>.bl (decide (i<j))
def kl:=wk λi j=>.bl (decide (i<=j))
def Zs:=wk λi j=>.bl (decide (j<i))
def yP:=wk λi j=>.bl (decide (j<=i))
noncomputable def K3 (i j:Int):Bool:=decide (0<=j)&&decide (j<=1000000)&&decide (i.natAbs<2 ^ 64)
def Ru (i j:Int)(h:K3 i j=true):Vb i j:=by
 unfold K3 at h;simp only[ai,decide_eq_true_eq]at h;exact⟨h.1.1,h.1.2,h.2⟩
def Zk:=wm K3 λi j=>.int (i ^ j.toNat)
variable {a b c:Expr}
noncomputable def gF:W->Hx->R W
 |.int i,A=>.ok (.int (-i)) A|_,_=>.bad
structure yK (X:Cx)(op:CmpOp)(g:W->W->Hx->R W):Prop where
 ex:∃r:R2,qw X (compareOp op) r/\(∀x y A,qz (g x y A))/\jB X.K r g
 mks:∀b,op≠.In->op≠.NotIn->behindInMarks op b=false
def ZT {r:R2}{g:W->W->Hx->R W}(h1:qw X (compareOp op) r)(H:∀x y A,qz (g x y A))(h:jB X.K r g):yK X op g:=⟨⟨r,h1,H,h⟩,λb a1 a2=>Sr b a1 a2⟩
def QQ:yK X .Lt jz:=ZT NU g8 (gX λ_ _ _ _=>rfl)
def K4:yK X .LtE kl:=ZT Mh g8 (gX λ_ _ _ _=>rfl)
def Vh:yK X .Gt Zs:=ZT Mw g8 (gX λ_ _ _ _=>rfl)
def Wa:yK X .GtE yP:=ZT Mu g8 (gX λ_ _ _ _=>rfl)
end
inductive Ty where
 |non|bl|int|str|tup|lst|dct
 deriving DecidableEq
noncomputable def Ty.nm:Ty->String
 |.non => "NoneType" | .bl => "bool" | .int => "int" | .str => "str" | .tup => "tuple" | .lst => "list" | .dct => "dict"
noncomputable def Qi (w:W)(A:Hx):Option Ty:=match w with
 |.non=>some .non|.bl _=>some .bl|.int _=>some .int|.str _=>some .str|.tup _=>some .tup|.ref n=>match A[n]? with
  |some (.lst _)=>some .lst|some (.dct _)=>some .dct|_=>none
 |_=>none
noncomputable def yr (a b:Ty):Bool:=a==b || (a==.bl&&b==.int)
def JE {K:Frag}(a b:Ty):kitOne K (.type a.nm) (.type b.nm)=some (yr a b):=by
 cases a<;>cases b<;>rfl
section
variable {xr:XR}{K:Frag}{a c:Expr}{m:Ev}
def Zr (K:Frag)(H:Hp)(x:V)(t:Ty):Prop:=yO K H x (.type t.nm)∨∃a xs,x=.ref a/\qb K H a xs/\t=.tup
def GL {A:Hx}{w:W}{t:Ty}(S:zr K φ A H)(q:RV K φ H w v)(e:Qi w A=some t):Zr K H v t:=by
 cases w with
 |non=>cases e;obtain rfl:=q;exact .inl .non|bl k=>cases e;obtain rfl:=q;exact .inl (.bl k)|clo _ _ _=>cases e|xc _=>cases e|int k=>cases e;obtain rfl:=q;exact .inl (.int k)|str k=>cases e;obtain rfl:=q;exact .inl (.str k)|tup ws=>cases e;obtain⟨a,s,rfl,h,_⟩:=q;exact .inr ⟨a,s,rfl,h,rfl⟩|ref n=>
  obtain⟨a,rfl,h1⟩:=q;unfold Qi at e;dsimp only at e;cases E:A[n]? with
  |none=>rw[E]at e;cases e|some o=>
   rw[E]at e;obtain⟨c,b,r⟩:=S.ob n o E;rw[h1]at b;cases b;cases o with
   |lst ws=>cases e;obtain⟨s,z,_⟩:=r;exact .inl (.lst z)|dct ws=>cases e;obtain⟨s,z,_⟩:=r;exact .inl (.dK z)|td _=>cases e|tr _=>cases e|tab _ _=>cases e|ro ws=>cases e
def Zr.kit {x:V}{t:Ty}(I:Inv X pins σ H s)(r:RelV x u)(h:Zr X.K H x t):
  (∀{Q:bw}{E:bw}{A:Around}{c:Ty},(∀T,Q (.bool (yr t c)) { s with toks:=T })->wpAny (model X.prog X.w) A (call (.builtin "isinstance") [u,.type c.nm]) Q E s):=by
 intro Q E A c q;rcases h with h|⟨a,xs,rfl,h,rfl⟩
 ·exact Gn I r h (JE t c) q
 ·cases (show u=Value.ref a from r)
  obtain⟨i,_,⟨o,h1,b,_⟩,_⟩:=I.tuple h;exact a4 kitx_tuple I.kIn ⟨o,h1,b⟩ (JE .tup c) (λz=>nomatch z) q
def LK (K:Frag):List V->Hp->VK->Prop:=λxs H Q=>∃x t c,xs=[x,.ty (Ty.nm c)]/\Zr K H x t/\Q (.bl (yr t c)) H
def RJ:yq X (.builtin "isinstance") (LK X.K):=by
 intro pins s σ H xs us Q I r h;obtain⟨x,t,c,rfl,d,q⟩:=h;obtain⟨u,U,rfl,b,a⟩:=vals2 r;cases (show U=Value.type c.nm from a)
 exact d.kit I b λT=>⟨.bl (yr t c),H,I.tok T,rfl,q⟩
def w5 (t:Ty)(m:Ev):Ev:=λρ A=>(m ρ A).bind λw A1=>match Qi w A1 with
 |some t'=>.ok (.bl (yr t' t)) A1|none=>.bad
def qd:W->W->Hx->R W:=λx y A=>match zV x A,y with
 |some ws,.int i=>match yv ws i with
  |some w=>.ok w A|none=>.bad
 |_,_=>.bad
def MV:∀x y A,qz (qd x y A):=λx y A=>by
 unfold qd;split
 ·split
  ·exact jF
  ·exact qC
 ·exact qC
def S9 {ws:List W}{i:Int}{w:W}(r:zx K φ H ws ys)(e:yv ws i=some w):∃y,yv ys i=some y/\RV K φ H w y:=by
 unfold yv at e ⊢;rw[<- r.length];cases h:kS ws.length i with
 |none=>rw[h]at e;cases e|some j=>
  rw[h]at e;obtain⟨y,h1,a⟩:=r.get (i:=j) e;exact⟨y,h1,a⟩
def Np:jB K (VA K) qd:=λφ A H x y u v Q S c q p=>by
 unfold qd at p;cases es:zV u A with
 |none=>rw[es]at p;exact p.elim|some ws=>
  rw[es]at p;cases v with
  |int i=>
   obtain rfl:=q;dsimp only at p;cases e:yv ws i with
   |none=>rw[e]at p;exact p.elim|some w=>
    rw[e]at p;obtain⟨a,Y,rfl,z,r⟩:=YQ S c es;obtain⟨b,h1,h⟩:=S9 r e;rcases z with z|z
    ·exact .inl ⟨a,Y,i,b,rfl,rfl,z,h1,p φ H _ .refl S h⟩
    ·exact .inr (.inl ⟨a,Y,i,b,rfl,rfl,z,h1,p φ H _ .refl S h⟩)
  |non=>exact p.elim|bl _=>exact p.elim|str _=>exact p.elim|tup _=>exact p.elim|ref _=>exact p.elim|clo _ _ _=>exact p.elim|xc _=>exact p.elim
def Yk (K:Frag)(r:List V->Hp->VK->Prop)(g:List W->Hx->R W):Prop:=∀φ A H a y ws Q,zr K φ A H->(qT K H a y∨qb K H a y)->zx K φ H ws y->(g ws A).post (PB K φ H Q) yQ->r [.ref a] H Q
noncomputable def mQ (g:List W->Hx->R W)(q:jy):Ev:=λρ A=>(q ρ A).bind λws A1=>g ws A1
def mQ.read {g:List W->Hx->R W}{q:jy}(hn:∀ws A,qz (g ws A))(c:Yk X.K r g):∀σ H Q,tM X.K xr (mQ g q) σ H Q->Yf r (JR (tQ X.K xr q) K5) σ H Q:=by
 rintro σ H Q ⟨φ,A,ρ,S,re,h⟩
 refine⟨φ,A,ρ,S,re,ql (zN.mp h) (λws A1 h1 b H1 a y l s z r=>?_) λ_ _ z=>z⟩;exact c b A1 H1 a y ws Q s z r (ql (ZD (hn _ _) h1) (λ_ _ z=>z.mono l) λ_ _ z=>z)
def X0 {id:String}{g:List W->Hx->R W}{q:jy}(d:yq X (.builtin id) r)(hn:∀ws A,qz (g ws A))(a:Yk X.K r g)(hm:X.mg x=none)(hv:bootBuiltins x=some (.builtin id))(f:SQ X xr e q)(c:Gl X x:=by rfl)
  (H:x ≠ "__name__":=by decide)(b:(x==("__debug__":Str))=false:=by decide)(he:starEach [e] X.env=(false,eval e X.env)::starEach [] X.env:=by rfl)(h:(backTo pos (starEach [] X.env)).any (·.1)=false:=by rfl):
  SE X xr (.Call (.Name x p) [e] [] pos) (mQ g q):=PE.imp (gU d c hm hv (jD f yC he) H b he h) (mQ.read hn a)
noncomputable def y0:List W->Hx->R W:=λws A=>.ok (.int ws.length) A
def Py:Yk K (λxs H Q=>∃p y,xs=[.ref p]/\(qT K H p y∨qb K H p y)/\Q (.int y.length) H) y0:=λφ A H a y ws Q S z r p=>
 ⟨a,y,rfl,z,by rw[<- r.length];exact p φ H _ .refl S rfl⟩
variable {b:Expr}
def Sj {a:Addr}(I:Inv X pins σ H s)(l:X.calm=true)(z:qT X.K H a ys∨qb X.K H a ys)
  (h:∀(c:bj)(j:Addr)(fp wr:bo)(S:Nat->Heap->Prop)(s2:Shared),Vals ys c->ys.length<=sizeLine->Walks X.prog X.w X.A.in1 j fp wr c.length (λi v=>c[i]? =some v) S->S 0 s2.heap->(∀b∈fp,b<s2.heap.objs.size)->
   (∀(h':Heap)(T:Nat),(∀b o,b∉wr->s2.heap.get? b=some o->h'.get? b=some o)->Inv X pins σ H { s2 with heap:=h',toks:=T })->Q (.ref j) s2):
  wpAny (model X.prog X.w) X.A.in1 (pyIter (.ref a)) Q E s:=by
 have g:X.A.in1.handled=none:=I.ok.hd l;have keep:∀(o:Obj)(h':Heap)(T:Nat),(∀b u,b∉[s.heap.objs.size]->(s.heap.push o).get? b=some u->h'.get? b=some u)->Inv X pins σ H { s with heap:=h',toks:=T }:=λo h' T k=>I.kept λb u e=>k b u (by
  intro hm;have q:b=s.heap.objs.size:=by simpa using hm
  exact absurd (q ▸ aB e) (aN _)) (ae _ e)
 rcases z with z|z
 ·obtain⟨c,r,p,f⟩:=I.list z
  have t:a<s.heap.objs.size:=by obtain⟨o,n,e,_⟩:=p;exact aB e
  refine wpAny_pyIter_list p.isList ?_;have W:=Walks.list (prog:=X.prog) (w:=X.w) g s.heap.objs.size a (aG t) c.toArray;rw[az]at W;simp only[List.getElem?_toArray]at W;refine h c s.heap.objs.size _ _ _ _ r f W ⟨⟨_,au _ rfl,rfl,rfl⟩,p.isList.at λo e=>ae _ e⟩ (λb d=>?_) λh' T k=>keep _ h' T k;show b<(s.heap.push _).objs.size;rw[aY];rcases bL.mp d with e|d
  ·rw[e];exact bb _
  ·have e:b=a:=by simpa using d
   rw[e];exact a5 t
 ·obtain⟨c,r,p,f⟩:=I.tuple z
  have t:a<s.heap.objs.size:=p.lt;have P:s.heap.IsTuple a c.toArray:=p;refine wpAny_pyIter_tuple P ?_;have W:=Walks.tuple (prog:=X.prog) (w:=X.w) g s.heap.objs.size a (aG t) c.toArray;rw[az]at W;simp only[List.getElem?_toArray]at W;refine h c s.heap.objs.size _ _ _ _ r f W ⟨⟨_,au _ rfl,rfl,rfl⟩,P.at λo e=>ae _ e⟩ (λb d=>?_) λh' T k=>keep _ h' T k;show b<(s.heap.push _).objs.size;rw[aY];rcases bL.mp d with e|d
  ·rw[e];exact bb _
  ·have e:b=a:=by simpa using d
   rw[e];exact a5 t
noncomputable def Q2:V->Option Bool
 |.bl b=>some b|.int i=>some (i != 0)|.non=>some false|_=>none
noncomputable def J4:W->Option Bool
 |.bl b=>some b|.int i=>some (i != 0)|.non=>some false|_=>none
def SN {w:W}{k:Bool}(q:RV K φ H w v)(e:J4 w=some k):Q2 v=some k:=by
 cases w<;>first
  |(cases e;done)
  |(obtain rfl:=q;exact e)
def U4 {A:Around}{k:Bool}{Q:Bool->Shared->Prop}(r:RelV v u)(e:Q2 v=some k)(h:Q k s):wpAny (model X.prog X.w) A (truthy u) Q E s:=by
 cases v with
 |bl b=>cases e;cases r;exact wpAny_truthy_bool h|int i=>
  cases e;obtain⟨t,rfl⟩:=r;exact PySem.P.truthy_int h
 |non=>cases e;cases r;exactλ_ _ _=>h|_=>cases e
def wK:List W->Option (List Bool)
 |[]=>some []|w::ws=>match J4 w,wK ws with
  |some k,some ks=>some (k::ks)|_,_=>none
theorem WN:∀{ws:List W}{Y:List V}{ks:List Bool},zx K φ H ws Y->wK ws=some ks->∀(i:Nat)(y:V),Y[i]? =some y->∃k,ks[i]? =some k/\Q2 y=some k
 |[],_,_,r,e,i,y,h=>by cases r;simp at h|w::ws,_,ks,⟨v,r,f,q,t⟩,e,i,y,h=>by
  subst f;unfold wK at e;cases E:J4 w with
  |none=>rw[E]at e;cases e|some k=>
   cases a:wK ws with
   |none=>rw[E,a]at e;cases e|some b=>
    rw[E,a]at e;cases e;cases i with
    |zero=>simp at h;subst h;exact⟨k,by simp,SN q E⟩|succ i=>simp at h;obtain⟨c,h1,d⟩:=WN t a i y h;exact⟨c,by simpa using h1,d⟩
theorem W3:∀{ws:List W}{ks:List Bool},wK ws=some ks->ks.length=ws.length
 |[],_,e=>by cases e;rfl|w::ws,ks,e=>by
  unfold wK at e;cases a:J4 w with
  |none=>rw[a]at e;cases e|some k=>
   cases E:wK ws with
   |none=>rw[a,E]at e;cases e|some K=>rw[a,E]at e;cases e;simp[W3 E]
def range_all (ks:List Bool):(List.range ks.length).all (λi=>ks.getD i false)=ks.all id:=by
 rw[Bool.eq_iff_iff,all_eq_true,all_eq_true]
 constructor
 ·intro h x b
  obtain⟨i,a,rfl⟩:=List.getElem_of_mem b
  have:=h i (bK.mpr a)
  rw[aS,aJ a]at this;exact this
 ·intro h i a
  have H:=bK.mp a;rw[aS,aJ H];exact h _ (bg H)
def Vc (K:Frag)(f:List Bool->Bool):List V->Hp->VK->Prop:=λxs H Q=>∃a Y ks,xs=[.ref a]/\(qT K H a Y∨qb K H a Y)/\ks.length=Y.length/\(∀(i:Nat)(y:V),Y[i]? =some y->∃k,ks[i]? =some k/\Q2 y=some k)/\Q (.bl (f ks)) H
def Sy {I:bj}{ks:List Bool}{A:Around}(r:Vals ys I)(l:ks.length=ys.length)(t:∀(i:Nat)(y:V),ys[i]? =some y->∃k,ks[i]? =some k/\Q2 y=some k):TruthOf X.prog X.w A (λi v=>I[i]? =some v) λi=>ks.getD i false:=by
 intro i v s Q E P H;have a:i<I.length:=(bI.mp P).1;have h:i<ys.length:=by rw[r.length];exact a
 obtain⟨u,h1,d⟩:=r.get (i:=i) (x:=ys[i]) (by simp[h])
 rw[P]at h1;cases h1;obtain⟨k,c,b⟩:=t i ys[i] (by simp[h])
 dsimp only at H;rw[aS,c]at H;exact U4 d b H
def T8 (f:X.calm=true):yq X (.builtin "all") (Vc X.K λks=>ks.all id):=by
 intro pins s σ H xs us Q I r h;obtain⟨a,y,ks,rfl,z,l,d,q⟩:=h;obtain⟨u,rfl,c⟩:=vals1 r;cases c;refine call_all_walk (Sj I f z λb g fp wr S s2 v j W st p back=>?_);refine⟨g,fp,wr,_,_,S,λi=>ks.getD i false,rfl,W,st,Sy v l d,λh' t k=>?_⟩;have e:b.length=ks.length:=by rw[l,v.length]
 rw[e,range_all];exact⟨.bl _,H,back h' t k,rfl,q⟩
def QZ (f:List Bool->Bool):List W->Hx->R W:=λws A=>match wK ws with
 |some ks=>.ok (.bl (f ks)) A|none=>.bad
def OX {f:List Bool->Bool}:∀ws A,qz (QZ f ws A):=λws A=>by
 unfold QZ;split
 ·exact jF
 ·exact qC
def R8 {f:List Bool->Bool}:Yk K (Vc K f) (QZ f):=λφ A H a y ws Q S z r p=>by
 unfold QZ at p;cases e:wK ws with
 |none=>rw[e]at p;exact p.elim|some ks=>
  rw[e]at p;exact⟨a,y,ks,rfl,z,by rw[W3 e,r.length],WN r e,p φ H _ .refl S rfl⟩
abbrev Vj:=QZ λks=>ks.all id
end
noncomputable def Va (outer sc:Scope):Bool:=sc.kind==.function&&decide ((sc.names.map (·.1)).Nodup)&&sc.names.all λy=>y.2 != .free || (outer.names.lookup y.1==some .cell || outer.names.lookup y.1==some .free)
def cps (h:Va X.env.scope sc=true):wI X sc:=by
 unfold Va at h;rw[ai,ai,ah,aD,all_eq_true]at h;refine⟨h.1.1,h.1.2,λy H e=>?_⟩
 have:=h.2 y H
 rw[e]at this;simp only[bne_self_eq_false,Bool.false_or,aU,aD]at this;exact this
section
variable {xr:XR}{K:Frag}{a b:Expr}{ma mb:Ev}
theorem zr.lst {φ:bo}{A:Hx}{H:Hp}{n:Nat}{ws:List W}{v:V}(S:zr K φ A H)(q:RV K φ H (.ref n) v)(e:A[n]? =some (.lst ws)):∃p s,v=.ref p/\φ[n]? =some p/\H p=some (.lst s)/\zx K φ H ws s:=by
 obtain⟨p,rfl,h1⟩:=q;obtain⟨P,h,s,b,a⟩:=S.ob n _ e;rw[h1]at h;cases h;exact⟨p,s,rfl,h1,b,a⟩
def Sv {prog:Program}{A:Around}{t b:Addr}{ws:bj}(a:IsTup s.heap t ([]:bj).toArray)(e:IsTup s.heap b ws.toArray)(h0:Q (.ref b) s):
  wpAny (model prog w) A (binaryOp .Add (.ref t) (.ref b)) Q E s:=by
 obtain⟨⟨cls,dd,data,sl⟩,o,c,n,hd⟩:=id a;obtain⟨⟨C,d,data2,S⟩,h,H,N,hd2⟩:=id e;simp only at c hd H hd2;subst c hd H hd2;exact concat_meets ⟨_,o,rfl⟩ ⟨_,h,rfl⟩ noFill_tuple_add seq_tuple_add slot_tuple_add entry_tuple_add (args_tuple_add_2 _ _)
   (tuple_addW0 t b ([]:bj).toArray ws.toArray n N dd d sl S (by simp)) ⟨o,h,h0⟩
noncomputable def XS (K:Frag):R2:=λx y H Q=>∃a b Y,x=.ref a/\y=.ref b/\qb K H a []/\qb K H b Y/\Q (.ref b) H
def T9:qw X (binaryOp .Add) (XS X.K):=by
 intro pins s σ H x y v u Q I c r h;obtain⟨a,b,Y,rfl,rfl,g,f,q⟩:=h;cases c;cases r;obtain⟨e,d,P,_⟩:=I.tuple g;obtain⟨i,j,p,_⟩:=I.tuple f;cases d;exact Sv P p ⟨.ref b,H,I,rfl,q⟩
def zJ:W->W->Hx->R W:=λx y A=>match x,y with
 |.int i,.int j=>.ok (.int (i+j)) A|.tup xs,.tup Y=>if xs.length+Y.length<=qy then .ok (.tup (xs++Y)) A else .bad|.ref n,.ref k=>match A[n]?,A[k]? with
  |some (.lst xs),some (.lst Y)=>if xs.length+Y.length<=qy then .ok (.ref A.length) (A++[.lst (xs++Y)]) else .bad|_,_=>.bad
 |_,_=>.bad
def O3:∀x y A,qz (zJ x y A):=λx y A=>by
 unfold zJ
 split
 ·exact jF
 ·exact kY jF qC
 ·split
  ·exact kY jF qC
  ·exact qC
 ·exact qC
def Qm (h:n<=qy):n<=sizeLine:=by
 have:sizeLine=16777216:=sizeLine_eq
 unfold qy at h;omega
def PN:jB K (λx y H Q=>wt (λi j=>.int (i+j)) x y H Q∨XW K x y H Q∨XS K x y H Q∨Vf x y H Q) zJ:=λφ A H x y u v Q S f q p=>by
 cases u with
 |int i=>cases v with
  |int j=>obtain rfl:=f;obtain rfl:=q;exact .inl ⟨i,j,rfl,rfl,p φ H _ .refl S rfl⟩|_=>exact p.elim
 |tup xs=>cases v with
  |tup Y=>
   obtain⟨a1,b,rfl,t1,c⟩:=f;obtain⟨a2,a,rfl,t2,r⟩:=q;unfold zJ at p;dsimp only at p
   by_cases h:xs.length+Y.length<=qy
   ·rw[aa h]at p
    by_cases w:b=[]
    ·subst w
     have o:xs=[]:=by
      have:=c.length
      simpa using this
     subst o;exact .inr (.inr (.inl ⟨a1,a2,a,rfl,rfl,t1,t2,p φ H _ .refl S ⟨a2,a,rfl,t2,r⟩⟩))
    ·refine .inr (.inl ⟨a1,a2,b,a,rfl,rfl,t1,t2,w,by rw[<- c.length,<- r.length];exact Qm h,λe=>?_,λne l g=>?_⟩)
     ·subst e
      have o:Y=[]:=by
       have:=r.length
       simpa using this
      subst o;rw[a7]at p;exact p φ H _ .refl S ⟨a1,b,rfl,t1,c⟩
     ·obtain⟨t,s,B⟩:=QI S g (c.append r)
      exact p _ _ _ t s B
   ·rw[af h]at p;exact p.elim
  |_=>exact p.elim
 |ref n=>cases v with
  |ref k=>
   unfold zJ at p;dsimp only at p;cases E:A[n]? with
   |none=>rw[E]at p;exact p.elim|some D=>cases D with
    |lst xs=>
     cases d:A[k]? with
     |none=>rw[E,d]at p;exact p.elim|some C=>cases C with
      |lst Y=>
       rw[E,d]at p;dsimp only at p;obtain⟨z,v1,rfl,f1,g1,c⟩:=S.lst f E;obtain⟨P,v2,rfl,f2,g2,r⟩:=S.lst q d
       by_cases h:xs.length+Y.length<=qy
       ·rw[aa h]at p
        refine .inr (.inr (.inr ⟨z,P,v1,v2,rfl,rfl,g1,g2,by rw[<- c.length,<- r.length];exact Qm h,λl g=>?_⟩))
        obtain⟨t,s,B⟩:=Kx S g (c.append r);exact p _ _ _ t s B
       ·rw[af h]at p;exact p.elim
      |_=>rw[E,d]at p;exact p.elim
    |_=>rw[E]at p;exact p.elim
  |_=>exact p.elim
 |_=>cases v<;>exact p.elim
def zY:W->W->Hx->R W:=λx y A=>match x,y with
 |.int i,.int j=>if wU i j then .ok (.int (i * j)) A else .bad|.ref n,.int k=>match A[n]? with
  |some (.lst xs)=>if yz k&&decide (xs.length * k.toNat<=qy) then .ok (.ref A.length) (A++[.lst (List.replicate k.toNat xs).flatten]) else .bad|_=>.bad
 |_,_=>.bad
def Nr:∀x y A,qz (zY x y A):=λx y A=>by
 unfold zY
 split
 ·exact kY jF qC
 ·split
  ·exact kY jF qC
  ·exact qC
 ·exact qC
theorem zx.rep {ws:List W}(r:zx K φ H ws vs):∀n:Nat,zx K φ H (List.replicate n ws).flatten (List.replicate n vs).flatten
 |0=>.nil|n+1=>by rw[aK,aK,aX,aX];exact r.append (zx.rep r n)
def RN:jB K (λx y H Q=>rI QX (λi j=>.int (i * j)) x y H Q∨Vk x y H Q) zY:=λφ A H x y u v Q S a q p=>by
 cases v with
 |int j=>cases u with
  |int i=>
   obtain rfl:=a;obtain rfl:=q;unfold zY at p;dsimp only at p
   by_cases c:wU i j=true
   ·rw[aa c]at p;exact .inl ⟨i,j,rfl,rfl,PM i j c,p φ H _ .refl S rfl⟩
   ·rw[af c]at p;exact p.elim
  |ref n=>
   obtain rfl:=q;unfold zY at p;dsimp only at p;cases e:A[n]? with
   |none=>rw[e]at p;exact p.elim|some o=>cases o with
    |lst xs=>
     rw[e]at p;dsimp only at p;obtain⟨P,v1,rfl,f1,g1,r⟩:=S.lst a e
     by_cases h:(yz j&&decide (xs.length * j.toNat<=qy))=true
     ·rw[aa h]at p
      rw[ai,ah]at h;obtain⟨g,B⟩:=W0 h.1;refine .inr ⟨P,j,v1,rfl,rfl,g1,by omega,by omega,by rw[<- r.length];exact Qm h.2,λl b=>?_⟩
      obtain⟨f,d,C⟩:=Kx S b (r.rep j.toNat);exact p _ _ _ f d C
     ·rw[af h]at p;exact p.elim
    |_=>rw[e]at p;exact p.elim
  |_=>exact p.elim
 |_=>cases u<;>exact p.elim
def jW:W->W->Hx->R W:=λx y A=>match x with
 |.ref n=>match A[n]? with
  |some (.lst ws)=>if ws.length<qy then .ok .non (A.set n (.lst (ws++[y]))) else .bad|_=>.bad
 |_=>.bad
noncomputable def w6 (x:W)(A:Hx):Bool:=match x with
 |.ref n=>match A[n]? with
  |some (.lst _)=>true|_=>false
 |_=>false
def SK {A:Hx}{w:W}(S:zr K φ A H)(q:RV K φ H w v)(e:w6 w A=true):Wn K "list" v H:=by
 unfold w6 at e;cases w with
 |ref n=>
  dsimp only at e;cases E:A[n]? with
  |none=>rw[E]at e;cases e|some o=>cases o with
   |lst ws=>obtain⟨p,s,rfl,_,h,_⟩:=S.lst q E;exact .inl ⟨rfl,_,qT.of h⟩|_=>rw[E]at e;cases e
 |_=>cases e
def qU (g:W->W->Hx->R W)(a b:Ev):Ev:=λρ A=>(a ρ A).bind λx A1=>if w6 x A1 then(b ρ A1).bind λy A2=>g x y A2 else .bad
def KO {nm:Str}{id:String}{r:V->List V->Hp->VK->Prop}{g:W->W->Hx->R W}{apos c:Pos}(slot:Slot "list" nm id)(j:typeOf (.builtin id)=pure (.type "method_descriptor"))(hm:Wi X id r)(hn:∀x y A,qz (g x y A))
  (C:∀φ A H x y u v Q,zr X.K φ A H->RV X.K φ H u x->RV X.K φ H v y->(g u v A).post (PB X.K φ H Q) yQ->r x [y] H Q)(B:SE X xr a ma)(he:SE X xr b mb)
  (s:starEach [b] X.env=(false,eval b X.env)::starEach [] X.env)(d:attributeBase a nm X.env (eval a X.env)=eval a X.env)
  (f:((backTo c (starEach [b] X.env)).all (λx=>!x.1)&&(backToKw c (keywordEach [] X.env)).all (λx=>x.1.isSome)
   && decide ([b].length+([]:bD).length+(if ([]:bD).isEmpty then 0 else 1)<30))=true)(e:(apos.endLine==c.line)=true):
  SE X xr (.Call (.Attribute a nm apos) [b] [] c) (qU g ma mb):=
 PE.imp (Mm PySem.F.plainAttrs_list slot j hm B (jD he yC s) d f e s (by rfl)) λσ H Q ⟨φ,A,ρ,S,re,h⟩=>by
  refine tM.go S re (zN.mp h) λw A1 o H1 v h1 l n q=>?_
  by_cases k:w6 w A1=true
  ·rw[aa k]at h1
   refine⟨SK n q k,?_⟩;refine tM.go n (re.mono l) (ql (zN.mp h1) (λ_ _ z=>z) λ_ _ z=>z.mono l) λp A2 i I v2 D L E t=>?_;exact C i A2 I v v2 w p Q E (q.mono L) t (ql (ZD (hn _ _ _) D) (λ_ _ z=>z.mono (l.trans L)) λ_ _ z=>z)
  ·rw[af k]at h1;exact h1.elim
def UW:∀x y A,qz (jW x y A):=λx y A=>by
 unfold jW
 split
 ·split
  ·exact kY jF qC
  ·exact qC
 ·exact qC
def L8:W->W->Hx->R W:=λx y A=>match x,y with
 |.ref n,.int i=>match A[n]? with
  |some (.lst ws)=>match (if yz i then seqIndex? i ws.length else none) with
   |some k=>match ws[k]? with
    |some w=>.ok w (A.set n (.lst (ws.eraseIdx k)))|none=>.bad
   |none=>.bad
  |_=>.bad
 |_,_=>.bad
def Zo:W->W->W->Hx->R Unit:=λo i v A=>match o,i with
 |.ref n,.int k=>match A[n]? with
  |some (.lst ws)=>match kS ws.length k with
   |some j=>.ok () (A.set n (.lst (ws.set j v)))|none=>.bad
  |_=>.bad
 |_,_=>.bad
def P0:∀o i v A,qz (Zo o i v A):=λo i v A=>by
 unfold Zo
 split
 ·split
  ·split
   ·exact jF
   ·exact qC
  ·exact qC
 ·exact qC
def Pz:KP K XY Zo:=λφ A H o i v w wi wv Q S d c q p=>by
 unfold Zo at p;cases w with
 |ref n=>cases wi with
  |int k=>
   obtain rfl:=c;dsimp only at p;cases e:A[n]? with
   |none=>rw[e]at p;exact p.elim|some f=>cases f with
    |lst ws=>
     rw[e]at p;dsimp only at p;cases E:kS ws.length k with
     |none=>rw[E]at p;exact p.elim|some j=>
      rw[E]at p;obtain⟨l,s,rfl,f1,g1,r⟩:=S.lst d e;have ln:Le K φ H φ (upd H l (.lst (s.set j v))):=Le.upd f1 (λxs z=>by rw[g1]at z;cases z) (λ_ _ z=>by rw[g1]at z;cases z)
      obtain⟨b,a⟩:=S.write (o:=.lst ws) (o':=.lst (ws.set j wv)) e rfl rfl f1 ⟨_,qM,(r.mono ln).set (q.mono ln) j⟩;exact⟨l,s,k,j,rfl,rfl,g1,by rw[<- r.length];exact E,p _ _ b a⟩
    |_=>rw[e]at p;exact p.elim
  |_=>exact p.elim
 |_=>cases wi<;>exact p.elim
variable {m:Ev}
def MC {id:String}{g:W->Hx->R W}(f:yq X (.builtin id) r)(hn:∀w A,qz (g w A))(d:Yo X.K (λv=>r [v]) g)(hm:X.mg x=none)(hv:bootBuiltins x=some (.builtin id))(i:SE X xr e m)(b:Gl X x:=by rfl)
  (a:x ≠ "__name__":=by decide)(c:(x==("__debug__":Str))=false:=by decide)(he:starEach [e] X.env=(false,eval e X.env)::starEach [] X.env:=by rfl)(l:(backTo pos (starEach [] X.env)).any (·.1)=false:=by rfl):
  SE X xr (.Call (.Name x p) [e] [] pos) (jg g m):=PE.imp (gU f b hm hv (jD i yC he) a c he l) λσ H Q h=>jg.read (r:=λv=>r [v]) hn d σ H Q h
def Nx {id:String}{g:W->Hx->R W}(f:yq X (.type id) r)(hn:∀w A,qz (g w A))(d:Yo X.K (λv=>r [v]) g)(hm:X.mg x=none)(hv:bootBuiltins x=some (.type id))(i:SE X xr e m)(b:Gl X x:=by rfl)
  (a:x ≠ "__name__":=by decide)(c:(x==("__debug__":Str))=false:=by decide)(he:starEach [e] X.env=(false,eval e X.env)::starEach [] X.env:=by rfl)(l:(backTo pos (starEach [] X.env)).any (·.1)=false:=by rfl):
  SE X xr (.Call (.Name x p) [e] [] pos) (jg g m):=PE.imp (To f b hm hv (jD i yC he) a c he l) λσ H Q h=>jg.read (r:=λv=>r [v]) hn d σ H Q h
def X2 {id:String}{g:W->W->Hx->R W}(k:yq X (.builtin id) r)(hn:∀w i A,qz (g w i A))(j:jB X.K (λv c=>r [v,c]) g)(hm:X.mg x=none)(hv:bootBuiltins x=some (.builtin id))(o:SE X xr a ma)(n:SE X xr b mb)(e:Gl X x)
  (d:x ≠ "__name__")(f:(x==("__debug__":Str))=false)(h1:starEach [a,b] X.env=(false,eval a X.env)::starEach [b] X.env)(q:starEach [b] X.env=(false,eval b X.env)::starEach [] X.env)(l:(backTo pos (starEach [b] X.env)).any (·.1)=false):
  SE X xr (.Call (.Name x p) [a,b] [] pos) (zh g ma mb):=PE.imp (gU k e hm hv (jD o (jD n yC q) h1) d f h1 l) λσ H Q h=>zh.read (r:=λv c=>r [v,c]) hn j σ H Q h
noncomputable def Z4:W->Hx->R W
 |.int i,A=>.ok (.int (if i<0 then -i else i)) A|_,_=>.bad
noncomputable def QU:W->Hx->R W
 |.int i,A=>.ok (.int i) A|.bl k,A=>.ok (.int (if k then 1 else 0)) A|_,_=>.bad
def KS:=wk λi j=>.int (if j > i then j else i)
def Zd:=wk λi j=>.int (if j<i then j else i)
noncomputable def wN:W->Bool
 |.tup _=>false|.ref _=>false|.clo _ _ _=>false|.xc _=>false|_=>true
noncomputable def QW:W->W->Bool
 |.non,.non=>true|.bl a,.bl b=>a==b|.bl a,.int b=>(if a then 1 else 0)==b|.int a,.bl b=>a==(if b then 1 else 0)|.int a,.int b=>a==b|.str a,.str b=>a==b|_,_=>false
def W7 {w:W}(q:RV K φ H w v)(e:wN w=true):wb v=true:=by
 cases w<;>first
  |(cases e;done)
  |(obtain rfl:=q;rfl)
def U1 {w a:W}{b:V}(q:RV K φ H w v)(Q:RV K φ H a b)(e:wN w=true)(E:wN a=true):wj v b=QW w a:=by
 cases w<;>cases a<;>first
  |(cases e;done)
  |(cases E;done)
  |(obtain rfl:=q;obtain rfl:=Q;rfl)
end
noncomputable def jK (f:W->Option PyData):List W->Option (List PyData)
 |[]=>some []|w::ws=>match f w,jK f ws with
  |some d,some ds=>some (d::ds)|_,_=>none
def qu (A:Hx):Nat->W->Option PyData
 |_,.non=>some .none|_,.bl b=>some (.bool b)|_,.int i=>some (.int i)|_,.str x=>if PyData.strOk x then some (.str x) else none|_,.clo _ _ _=>none|_,.xc _=>none|0,.tup _=>none|0,.ref _=>none|n+1,.tup ws=>(jK (qu A n) ws).map .tuple|n+1,.ref k=>match zV (.ref k) A with
  |some ws=>(jK (qu A n) ws).map .list|none=>none
def Sq {K:Frag}{A:Hx}{us:List W}(S:zr K φ A H)(q:RV K φ H (.ref n) v)(es:zV (.ref n) A=some us):∃a y,v=.ref a/\qT K H a y/\zx K φ H us y:=by
 obtain⟨a,rfl,b⟩:=q;unfold zV at es;dsimp only at es;cases e:A[n]? with
 |none=>rw[e]at es;cases es|some o=>
  rw[e]at es;obtain⟨c,E,r⟩:=S.ob n o e;rw[b]at E;cases E;cases o with
  |lst xs=>cases es;obtain⟨y,h1,h⟩:=r;exact⟨a,y,rfl,qT.of h1,h⟩|ro xs=>cases es;obtain⟨y,h1,h⟩:=r;exact⟨a,y,rfl,h1.sq,h⟩|dct xs=>cases es|td _=>cases es|tr _=>cases es|tab _ _=>cases es
section
variable {a:Expr}
theorem YU {K:Frag}{f:W->Option PyData}(hf:∀w v u d,RV K φ H w v->RelV v u->f w=some d->∃as,Reads h u d as):
  ∀{ws:List W}{s:List V}{us:bj}{ds:List PyData},zx K φ H ws s->Vals s us->jK f ws=some ds->∃as,ReadsAll h us ds as
 |[],_,_,_,r,a,e=>by cases r;cases a;cases e;exact⟨[],.nil⟩|w::ws,_,_,ds,⟨v,r,j,q,t⟩,a,e=>by
  subst j;cases a with
  |cons g c=>
   unfold jK at e;cases E:f w with
   |none=>rw[E]at e;cases e|some d=>
    cases b:jK f ws with
    |none=>rw[E,b]at e;cases e|some D=>
     rw[E,b]at e;cases e;obtain⟨as,h1⟩:=hf w v _ d q g E;obtain⟨bs,i⟩:=YU hf t c b;exact⟨_,.cons h1 i⟩
def Js {A:Hx}(I:Inv X pins σ H s)(S:zr X.K φ A H):∀(n:Nat)(w:W)(v:V)(u:Value)(d:PyData),RV X.K φ H w v->RelV v u->qu A n w=some d->∃as,Reads s.heap u d as:=by
 intro n
 induction n with
 |zero=>
  intro w v u d q r e;cases w with
  |non=>obtain rfl:=q;cases r;cases e;exact⟨_,.none⟩|bl k=>obtain rfl:=q;cases r;cases e;exact⟨_,.bool k⟩|int k=>obtain rfl:=q;obtain⟨t,rfl⟩:=r;cases e;exact⟨_,.int k t⟩|str k=>
   obtain rfl:=q;obtain⟨t,rfl⟩:=r;unfold qu at e
   split at e
   ·cases e;exact⟨_,.str k t⟩
   ·cases e
  |tup _=>cases e|ref _=>cases e|clo _ _ _=>unfold qu at e;cases e|xc _=>unfold qu at e;cases e
 |succ n p=>
  intro w v u d q r e;cases w with
  |non=>obtain rfl:=q;cases r;cases e;exact⟨_,.none⟩|bl k=>obtain rfl:=q;cases r;cases e;exact⟨_,.bool k⟩|clo _ _ _=>unfold qu at e;cases e|xc _=>unfold qu at e;cases e|int k=>obtain rfl:=q;obtain⟨t,rfl⟩:=r;cases e;exact⟨_,.int k t⟩|str k=>
   obtain rfl:=q;obtain⟨t,rfl⟩:=r;unfold qu at e
   split at e
   ·cases e;exact⟨_,.str k t⟩
   ·cases e
  |tup ws=>
   obtain⟨a,x,rfl,h,c⟩:=q;cases r;unfold qu at e;cases E:jK (qu A n) ws with
   |none=>rw[E]at e;cases e|some ds=>
    rw[E]at e;cases e;obtain⟨i,b,⟨o,h1,j,k,g⟩,_⟩:=I.tuple h;obtain⟨as,f⟩:=YU p c b E;exact⟨_,.tuple h1 j g (by simpa using f)⟩
  |ref k=>
   unfold qu at e;cases E:zV (.ref k) A with
   |none=>rw[E]at e;cases e|some ws=>
    rw[E]at e;dsimp only at e;obtain⟨a,y,rfl,h,c⟩:=Sq S q E;cases r;cases l:jK (qu A n) ws with
    |none=>rw[l]at e;cases e|some ds=>
     rw[l]at e;cases e;obtain⟨i,b,⟨o,z,h1,j,_,g⟩,_⟩:=I.list h;obtain⟨as,f⟩:=YU p c b l;exact⟨_,.list h1 j g (by simpa using f)⟩
def Tv {A:Hx}:∀(n:Nat)(w:W)(d:PyData),qu A n w=some d->d.canLay0=true/\d.depth<=n:=by
 intro n;have lst:∀{n:Nat},(∀(w:W)(d:PyData),qu A n w=some d->d.canLay0=true/\d.depth<=n)->∀(ws:List W)(ds:List PyData),jK (qu A n) ws=some ds->PyData.canLayAll0 ds=true/\PyData.depthAll ds<=n:=by
  intro n i ws
  induction ws with
  |nil=>intro ds e;cases e;exact⟨by simp[PyData.canLayAll0],by simp[PyData.depthAll]⟩|cons w ws I=>
   intro ds e;unfold jK at e;cases E:qu A n w with
   |none=>rw[E]at e;cases e|some d=>
    cases b:jK (qu A n) ws with
    |none=>rw[E,b]at e;cases e|some D=>
     rw[E,b]at e;cases e;obtain⟨h1,H⟩:=i w d E;obtain⟨c,f⟩:=I D b;refine⟨by simp[PyData.canLayAll0,h1,c],?_⟩
     simp only[PyData.depthAll];omega
 induction n with
 |zero=>
  intro w d e;cases w with
  |tup _=>cases e|ref _=>cases e|clo _ _ _=>unfold qu at e;cases e|xc _=>unfold qu at e;cases e|str x=>
   unfold qu at e
   split at e
   ·rename_i h;cases e;exact⟨by simp[PyData.canLay0,h],by simp[PyData.depth]⟩
   ·cases e
  |_=>cases e;exact⟨by simp[PyData.canLay0],by simp[PyData.depth]⟩
 |succ n i=>
  intro w d e;cases w with
  |clo _ _ _=>unfold qu at e;cases e|xc _=>unfold qu at e;cases e|tup ws=>
   unfold qu at e;cases a:jK (qu A n) ws with
   |none=>rw[a]at e;cases e|some ds=>
    rw[a]at e;cases e;obtain⟨h1,H⟩:=lst i ws ds a;refine⟨by simp[PyData.canLay0,h1],?_⟩
    simp only[PyData.depth];omega
  |ref k=>
   unfold qu at e;cases a:zV (.ref k) A with
   |none=>rw[a]at e;cases e|some ws=>
    rw[a]at e;dsimp only at e;cases E:jK (qu A n) ws with
    |none=>rw[E]at e;cases e|some ds=>
     rw[E]at e;cases e;obtain⟨h1,H⟩:=lst i ws ds E;refine⟨by simp[PyData.canLay0,h1],?_⟩
     simp only[PyData.depth];omega
  |str x=>
   unfold qu at e
   split at e
   ·rename_i h;cases e;exact⟨by simp[PyData.canLay0,h],by simp[PyData.depth]⟩
   ·cases e
  |_=>cases e;exact⟨by simp[PyData.canLay0],by simp[PyData.depth]⟩
def wg (neg:Bool):W->W->Hx->R W:=λx y A=>match qu A 8 x,qu A 8 y with
 |some d,some d'=>.ok (.bl (if neg then !PyData.eqv d d' else PyData.eqv d d')) A|_,_=>.bad
abbrev jc:=wg false
abbrev ju:=wg true
def Xt {n:Bool}:∀x y A,qz (wg n x y A):=λx y A=>by
 unfold wg
 split
 ·exact jF
 ·exact qC
def K7 (K:Frag)(neg:Bool):R2:=λx y H Q=>∃φ A u v d d',zr K φ A H/\RV K φ H u x/\RV K φ H v y/\qu A 8 u=some d/\qu A 8 v=some d'/\Q (.bl (if neg then !PyData.eqv d d' else PyData.eqv d d')) H
def JA {A:Hx}{w:W}{d:PyData}(h:qu A 8 w=some d):SeqAt.shaped d=true:=by
 obtain⟨h1,H⟩:=Tv 8 w d h;unfold SeqAt.shaped;rw[h1,Bool.true_and,ah];omega
def Oz (g:X.A.units+64<cLine):qw X (compareOp .Eq) (K7 X.K false):=by
 intro pins s σ H x y v u Q I b r h;obtain⟨φ,A,a,w,d,d',S,f,c,E,e,q⟩:=h;obtain⟨as,h1⟩:=Js I S 8 a x v d f b E;obtain⟨bs,i⟩:=Js I S 8 w y u d' c r e;exact eq_dataH h1 i (JA E) (JA e) g ⟨.bl _,H,I,rfl,q⟩
def Ob (g:X.A.units+64<cLine):qw X (compareOp .NotEq) (K7 X.K true):=by
 intro pins s σ H x y v u Q I b r h;obtain⟨φ,A,a,w,d,d',S,f,c,E,e,q⟩:=h;obtain⟨as,h1⟩:=Js I S 8 a x v d f b E;obtain⟨bs,i⟩:=Js I S 8 w y u d' c r e;exact ne_dataH h1 i (JA E) (JA e) g ⟨.bl _,H,I,rfl,q⟩
def Xg {K:Frag}{n:Bool}:jB K (K7 K n) (wg n):=λφ A H x y u v Q S a q p=>by
 unfold wg at p;cases e:qu A 8 u with
 |none=>rw[e]at p;exact p.elim|some d=>
  cases E:qu A 8 v with
  |none=>rw[e,E]at p;exact p.elim|some d'=>
   rw[e,E]at p;exact⟨φ,A,u,v,d,d',S,a,q,e,E,p φ H _ .refl S rfl⟩
def wO (h:qE k X.A):yK X .Eq jc:=ZT (Oz h.units) Xt Xg
def gz (h:qE k X.A):yK X .NotEq ju:=ZT (Ob h.units) Xt Xg
end
mutual
noncomputable def W.nr:W->Bool
 |.tup ws=>jb ws|.ref _=>false|.clo _ ws _=>jb ws|_=>true
noncomputable def jb:List W->Bool
 |[]=>true|w::ws=>w.nr&&jb ws
end
def iso (f:Fn):Fn:=λus A=>if jb us then(match f us [] with
 |.ok w A1=>(match w with
  |.ref n=>(match A1[n]? with
   |some (.lst ws)=>if jb ws then .ok (.ref A.length) (A++[.lst ws]) else .bad|some (.dct kvs)=>if jb (kvs.map (·.2)) then .ok (.ref A.length) (A++[.dct kvs]) else .bad|_=>.bad)
  |w=>if w.nr then .ok w A else .bad)
 |_=>.bad) else .bad
def Qd (f:Fn):Fn:=λus A=>match us with
 |.ref n::us=>(match A[n]? with
  |some (.lst ws)=>if jb ws&&jb us then(match f (.ref 0::us) [.lst ws] with
   |.ok w A1=>(match (List.head? A1:Option O) with
    |some (.lst a)=>if jb a&&w.nr then .ok w (A.set n (.lst a)) else .bad|_=>.bad)
   |_=>.bad) else .bad
  |_=>.bad)
 |_=>.bad
section
variable {K:Frag}{φ' φ1:bo}{H' H1:Hp}{A A1:Hx}
mutual
theorem RV.nrm (tp:∀a s,qb K H a s->qb K H' a s)(fz:∀a o u,H a=some (.frz o u)->H' a=some (.frz o u)):∀{w:W}{v:V},w.nr=true->RV K φ H w v->RV K φ' H' w v
 |.non,_,_,h=>h|.bl _,_,_,h=>h|.int _,_,_,h=>h|.str _,_,_,h=>h|.tup ws,_,n,⟨a,s,e,t,r⟩=>⟨a,s,e,tp _ _ t,zx.nrm tp fz n r⟩|.ref _,_,n,_=>nomatch n
 |.clo _ ws P,_,n,⟨a,ob,u,c,f,uc,s,e,h1,b,g,r⟩=>⟨a,ob,u,c,f,uc,s,e,fz _ _ _ h1,fz _ _ _ b,g,zx.nrm tp fz n r⟩|.xc _,_,_,⟨a,d,u,C,e,h1,b⟩=>⟨a,d,u,C,e,fz _ _ _ h1,b⟩
theorem zx.nrm (tp:∀a s,qb K H a s->qb K H' a s)(fz:∀a o u,H a=some (.frz o u)->H' a=some (.frz o u)):∀{ws:List W}{s:List V},jb ws=true->zx K φ H ws s->zx K φ' H' ws s
 |[],_,_,h=>h|w::ws,_,n,⟨v,r,e,h,t⟩=>by
  have N:(w.nr&&jb ws)=true:=n;rw[ai]at N;exact⟨v,r,e,RV.nrm tp fz N.1 h,zx.nrm tp fz N.2 t⟩
end
def zr.none:zr K [] [] H:=⟨rfl,λi j a o o' _ _ h=>by simp at h,λn o h=>by simp at h⟩
def zr.frame (S:zr K φ A H)(k:∀a o,H a=some o->H1 a=some o)(l:Le K φ H φ H1):zr K φ A H1:=
 ⟨S.len,S.inj,λn o e=>let ⟨a,h1,q⟩:=S.ob n o e;⟨a,h1,q.keep l λu h=>k a u h⟩⟩
def Le.apart (l:Le K [] H φ1 H1):Le K φ H φ H1/\∀a o,H a=some o->H1 a=some o:=
 have k:∀a o,H a=some o->H1 a=some o:=λa o h=>l.fr a o h λn e=>by simp at e
 ⟨⟨λ_ _ h=>h,l.tp,λa o h _=>k a o h,λ_ _ h=>.inl h,l.st,l.fz⟩,k⟩
def zr.trackN {u:HO}{o:O}(S:zr K φ A H)(L:H D=some u)(n:∀(k:Nat)(q:O),φ[k]? =some D->A[k]? =some q->q.mut=false)(new:OR K (φ++[D]) H D o):zr K (φ++[D]) (A++[o]) H:=by
 have l:kO K φ H (φ++[D]) H:=⟨λn a h=>by
  have:=(bI.mp h).1
  rw[ag this];exact h,λ_ _ h=>h,λ_ _ _ h=>h⟩
 have old:∀(i:Nat) a,(φ++[D])[i]? =some a->i<A.length->φ[i]? =some a:=λi a e f=>by
  rw[ag (by rw[S.len];exact f)]at e;exact e
 have last:∀a,(φ++[D])[A.length]? =some a->a=D:=λa e=>by
  rw[aq (by rw[S.len];exact aA _),S.len]at e
  simpa using e.symm
 refine⟨by simp[S.len],λi j a E C h1 B g b I M=>?_,λk o' e=>?_⟩
 ·by_cases f:i<A.length
  ·rw[ag f]at g
   by_cases c:j<A.length
   ·rw[ag c]at b
    exact S.inj i j a E C (old i a h1 f) (old j a B c) g b I M
   ·exfalso
    have w:j=A.length:=by have:=(bI.mp b).1;simp at this;omega
    subst w;have z:=n i E (by rw[<- last a B];exact old i a h1 f) g
    rw[I]at z;cases z
  ·have y:i=A.length:=by have:=(bI.mp g).1;simp at this;omega
   by_cases c:j<A.length
   ·exfalso
    rw[ag c]at b;subst y;have z:=n j C (by rw[<- last a h1];exact old j a B c) b
    rw[M]at z;cases z
   ·have:=(bI.mp b).1;simp at this;omega
 ·by_cases hn:k<A.length
  ·rw[ag hn]at e
   obtain⟨a,J,q⟩:=S.ob k o' e;refine⟨a,l.ex _ _ J,?_⟩;cases o' with
   |lst ws=>obtain⟨v,z,r⟩:=q;exact⟨v,z,r.monoW l⟩|dct ws=>obtain⟨v,z,Z,r⟩:=q;exact⟨v,z,Z,r.monoW l⟩|td _=>obtain⟨v,z,Z,t,r⟩:=q;exact⟨v,z,Z,λx p=>l.tp _ _ (t x p),r.monoW l⟩|tr _=>obtain⟨ob,u,v,z,d,Z,t,r⟩:=q;exact⟨ob,u,v,z,d,Z,λx p=>l.tp _ _ (t x p),r.monoW l⟩|tab _ _=>exact q|ro ws=>obtain⟨v,z,r⟩:=q;exact⟨v,z,r.monoW l⟩
  ·have s:k=A.length:=by have:=(bI.mp e).1;simp at this;omega
   subst s;rw[aq (aA _)]at e;simp at e;subst e;exact⟨D,by rw[aq (by rw[S.len];exact aA _),S.len];simp,new⟩
def zr.adopt {o:O}(S:zr K φ A H)(l:Le K [] H φ1 H1)(h1:φ1[n]? =some a)(m:∃u,H1 a=some u)(new:OR K (φ++[a]) H1 a o):
  Le K φ H (φ++[a]) H1/\zr K (φ++[a]) (A++[o]) H1/\RV K (φ++[a]) H1 (.ref A.length) (.ref a):=by
 obtain⟨L,k⟩:=l.apart (φ:=φ);have h0:H a=Option.none:=by
  rcases l.nw n a h1 with e|e
  ·simp at e
  ·exact e
 obtain⟨u,b⟩:=m;have s:=S.frame k L;refine⟨L.Z1 h0,s.trackN b (λk q f d=>?_) new,a,rfl,by rw[<- S.len];simp⟩
 cases c:q.mut with
 |false=>rfl|true=>
  obtain⟨g,E,r⟩:=S.ob k q d;rw[f]at E;cases E;obtain⟨z,h,_⟩:=r.there c;rw[h0]at h;cases h
def OR.nrL {ws:List W}(h:OR K φ H a (.lst ws))(n:jb ws=true):OR K φ' H a (.lst ws):=let ⟨vs,e,r⟩:=h;⟨vs,e,r.nrm (λ_ _ t=>t) (λ_ _ _ t=>t) n⟩
def OR.nrD {k:List (Key×W)}(h:OR K φ H a (.dct k))(n:jb (k.map (·.2))=true):OR K φ' H a (.dct k):=let ⟨vs,e,E,r⟩:=h;⟨vs,e,E,r.nrm (λ_ _ t=>t) (λ_ _ _ t=>t) n⟩
theorem qe.iso {f:Fn}(F:qe P w K mg base k x n f):qe P w K mg base k x n (iso f):=by
 obtain⟨C,fd,ps,F,a,b,c⟩:=F;refine⟨C,fd,ps,F.imp λI H Q E ⟨z,φ,A,ws,S,r,q⟩=>?_,a,b,c⟩;unfold Mi.iso at q
 by_cases hn:jb ws=true
 ·rw[aa hn]at q
  refine⟨z,[],[],ws,zr.none,r.nrm (λ_ _ t=>t) (λ_ _ _ t=>t) hn,?_⟩;cases hf:f ws [] with
  |ok w A1=>
   rw[hf]at q;dsimp only at q;intro u H1 v L D g;cases w with
   |ref m=>
    dsimp only at q;cases hm:A1[m]? with
    |none=>rw[hm]at q;exact q.elim|some o=>
     rw[hm]at q;obtain⟨J,j,d⟩:=D.ob m o hm;obtain⟨a2,rfl,e⟩:=g;rw[j]at e;cases e;cases o with
     |lst us=>
      dsimp only at q
      by_cases h:jb us=true
      ·rw[aa h]at q
       obtain⟨t,i,_⟩:=d.there rfl;obtain⟨s,p,B⟩:=S.adopt L j ⟨t,i⟩ (o:=.lst us) (d.nrL h);exact q _ _ _ s p B
      ·rw[af h]at q;exact q.elim
     |dct us=>
      dsimp only at q
      by_cases h:jb (us.map (·.2))=true
      ·rw[aa h]at q
       obtain⟨t,i,_⟩:=d.there rfl;obtain⟨s,p,B⟩:=S.adopt L j ⟨t,i⟩ (o:=.dct us) (d.nrD h);exact q _ _ _ s p B
      ·rw[af h]at q;exact q.elim
     |ro us=>exact q.elim|td _=>exact q.elim|tr _=>exact q.elim|tab _ _=>exact q.elim
   |_=>
    all_goals
     dsimp only at q;obtain⟨l,kk⟩:=L.apart (φ:=φ)
     first
      |exact q φ H1 v l (S.frame kk l) g
      |(
        split at q
        ·rename_i hw
         exact q φ H1 v l (S.frame kk l) (RV.nrm (λ_ _ t=>t) (λ_ _ _ t=>t) hw g)
        ·exact q.elim)
  |exc y A1=>rw[hf]at q;exact q.elim|bad=>rw[hf]at q;exact q.elim
 ·rw[af hn]at q;exact q.elim
theorem qe.Qd {f:Fn}(F:qe P w K mg base k x n f):qe P w K mg base k x n (Qd f):=by
 obtain⟨fa,fd,ps,F,a,b,c⟩:=F;refine⟨fa,fd,ps,F.imp λC H Q E ⟨hl,φ,A,ws,S,r,q⟩=>?_,a,b,c⟩;unfold Mi.Qd at q;cases ws with
 |nil=>exact q.elim|cons w0 us=>cases w0 with
  |ref n=>
   dsimp only at q;cases l:A[n]? with
   |none=>rw[l]at q;exact q.elim|some o=>cases o with
    |lst xs=>
     rw[l]at q;dsimp only at q
     by_cases hn:(jb xs&&jb us)=true
     ·rw[aa hn]at q
      rw[ai]at hn;obtain⟨v0,vr,rfl,q0,qr⟩:=r;obtain⟨p,Z,rfl,f1,g1,g⟩:=S.lst q0 l;have S0:zr K [p] [.lst xs] H:=by
       refine⟨rfl,λi j a o o' h1 M Y X _ _=>?_,λm o e=>?_⟩
       ·have:=(bI.mp h1).1
        have:=(bI.mp M).1
        simp at*;omega
       ·have:m=0:=by have:=(bI.mp e).1;simp at this;omega
        subst this;simp at e;subst e;exact⟨p,rfl,Z,g1,g.nrm (λ_ _ t=>t) (λ_ _ _ t=>t) hn.1⟩
      refine⟨hl,[p],[.lst xs],.ref 0::us,S0,.cons ⟨p,rfl,rfl⟩ (qr.nrm (λ_ _ t=>t) (λ_ _ _ t=>t) hn.2),?_⟩;cases hf:f (.ref 0::us) [.lst xs] with
      |ok w A1=>
       rw[hf]at q;dsimp only at q;intro D H1 v L S1 q1;cases h0:List.head? A1 with
       |none=>rw[h0]at q;exact q.elim|some o=>cases o with
        |lst zs=>
         rw[h0]at q;dsimp only at q
         by_cases hw:(jb zs&&w.nr)=true
         ·rw[aa hw]at q
          rw[ai]at hw;have apart:∀a o,a≠p->H a=some o->H1 a=some o:=λa o ne h=>L.fr a o h λm e=>by
           have:m=0:=by have:=(bI.mp e).1;simp at this;omega
           subst this;simp at e;exact ne e.symm
          have lf:Le K φ H φ H1:=⟨λ_ _ h=>h,L.tp,λa o h nn=>apart a o (λe=>nn n (by rw[e];exact f1)) h,λ_ _ h=>.inl h,L.st,L.fz⟩
          have hp:D[0]? =some p:=L.ex 0 p rfl;obtain⟨p',s,U,N,J⟩:=S1.ob 0 _ (by rw[<- List.head?_eq_getElem?];exact h0)
          rw[hp]at s;cases s;refine q φ H1 v lf ?_ (RV.nrm (λ_ _ t=>t) (λ_ _ _ t=>t) hw.2 q1);have mt:∀(i:Nat)(w:O),(A.set n (.lst zs))[i]? =some w->w.mut=true->∃T,A[i]? =some T/\T.mut=true:=λi w e mw=>by
           by_cases B:i=n
           ·subst B;exact⟨_,l,rfl⟩
           ·rw[aj (Ne.symm B)]at e;exact⟨w,e,mw⟩
          refine⟨by simp[S.len],λi j a o1 o2 h1 M Y X m1 m2=>?_,λi w e=>?_⟩
          ·obtain⟨w1,s,k1⟩:=mt i o1 Y m1
           obtain⟨w2,N,k2⟩:=mt j o2 X m2;exact S.inj i j a w1 w2 h1 M s N k1 k2
          ·by_cases B:i=n
           ·subst B
            have:i<A.length:=(bI.mp l).1
            rw[aw this]at e;cases e;exact⟨p,f1,U,N,J.nrm (λ_ _ t=>t) (λ_ _ _ t=>t) hw.1⟩
           ·rw[aj (Ne.symm B)]at e
            obtain⟨a,s,I⟩:=S.ob i w e;refine⟨a,s,?_⟩
            by_cases hm:w.mut=true
            ·have ne:a≠p:=λz=>B (S.inj i n a w _ s (by rw[z];exact f1) e l hm rfl)
             exact I.keep lf λz hz=>apart a z ne hz
            ·cases w with
             |lst _=>exact absurd rfl hm|dct _=>exact absurd rfl hm|td _=>exact absurd rfl hm|tr _=>obtain⟨ob,u,C,q,d,k,t,r⟩:=I;exact⟨ob,u,C,lf.fz _ _ _ q,d,k,λx hx=>lf.tp _ _ (t x hx),r.mono lf⟩|tab _ _=>exact absurd rfl hm|ro ws=>
              obtain⟨C,g,J⟩:=I;refine⟨C,?_,J.mono lf⟩;rcases g with ⟨ob,g⟩|g
              ·refine .inl ⟨ob,apart a _ ?_ g⟩
               intro z;subst z;rw[g1]at g;cases g
              ·exact .inr g
         ·rw[af hw]at q;exact q.elim
        |_=>rw[h0]at q;exact q.elim
      |exc y A1=>rw[hf]at q;exact q.elim|bad=>rw[hf]at q;exact q.elim
     ·rw[af hn]at q;exact q.elim
    |_=>rw[l]at q;exact q.elim
  |_=>exact q.elim
end
section
variable {K:Frag}
noncomputable def intsOf:List W->Option (bh)
 |[]=>some []|w::ws=>match w with
  |.int i=>match intsOf ws with
   |some is=>some (i::is)|none=>none
  |_=>none
theorem Gf:∀{ws:List W}{ns:bh},intsOf ws=some ns->ws=ns.map W.int
 |[],_,e=>by cases e;rfl|w::ws,ns,e=>by
  unfold intsOf at e;cases w with
  |int i=>
   dsimp only at e;cases E:intsOf ws with
   |none=>rw[E]at e;cases e|some is=>rw[E]at e;cases e;rw[Gf E];rfl
  |_=>cases e
def Z3 (y:W):List W->Nat->Nat
 |[],n=>n|w::ws,n=>Z3 y ws (if QW w y then n+1 else n)
theorem GY (y:W):∀(ws:List W)(n:Nat),Z3 y ws n=n+ws.countP λw=>QW w y
 |[],n=>by simp[Z3]|w::ws,n=>by
  show Z3 y ws _=_;rw[GY y ws,countP_cons]
  by_cases h:QW w y=true
  ·rw[aa h,aa h];omega
  ·rw[af h,af h];omega
theorem WV {y:V}:∀{xs:List V}{us:bj},Vals xs us->xs.all wb=true->us.countP (Ys y)=xs.countP λz=>wj z y
 |_,_,.nil,_=>rfl|_,_,.cons r t,h=>by
  rw[List.all_cons,ai]at h;rw[countP_cons,countP_cons,WV t h.2,XU r h.1]
theorem WQ {x:W}(q:RV K φ H x v)(e:wN x=true):∀{xs:List W}{s:List V},zx K φ H xs s->xs.all wN=true->s.all wb=true/\(s.countP λz=>wj z v)=xs.countP λz=>QW z x
 |[],_,r,_=>by cases r;exact⟨rfl,rfl⟩|w::ws,_,⟨y,r,E,h,t⟩,a=>by
  subst E;rw[List.all_cons,ai]at a;obtain⟨I,i⟩:=WQ q e t a.2;refine⟨by rw[List.all_cons,W7 h a.1,I];rfl,?_⟩
  rw[countP_cons,countP_cons,i,U1 h q a.1 e]
variable {m:Ev}
noncomputable def L5 (lo d:Int)(n:Nat):It:=⟨λi _=>i<n,λi H x h=>h=H/\x=.int (lo+i * d),λi _=>n<=i⟩
def L9 (t:TA):TI:=λσ H R=>t σ H λv H1=>∃i j:Int,v=[.int i,.int j,.int (-1)]/\(-(2 ^ 62)<=i/\i<2 ^ 62/\-(2 ^ 62)<=j/\j<2 ^ 62)/\R (L5 i (-1) (i-j).toNat) H1
noncomputable def M9 (h:Int)(n:Nat):jA:=⟨λ_ i=>if i<n then some (some (.int (h-i))) else some none,n⟩
def Ia (m M:Ev):Ei:=λρ A=>(m ρ A).bind λw A1=>(M ρ A1).bind λa A2=>match w,a with
 |.int i,.int j=>if yz i&&yz j then .ok (M9 i (i-j).toNat) A2 else .bad|_,_=>.bad
def L7 (m:Ev):Ev:=λρ A=>(m ρ A).bind λw A1=>match w with
 |.int j=>if yz j&&decide (j.toNat<=qy) then .ok (.ref A1.length) (A1++[.lst ((List.range j.toNat).map λ(i:Nat)=>W.int i)]) else .bad|_=>.bad
noncomputable def Qa (i:Nat)(m:Ev):Ex:=λρ A=>match ρ[i]? with
 |some (some (.int x))=>(m ρ A).bind λw A1=>match w with
  |.int y=>.ok (.nx (ρ.set i (some (.int (x+y))))) A1|_=>.bad
 |_=>.bad
end
def qY (k:Bool)(h:Heap)(it a:Addr)(i:Nat):Prop:=if k=true then h.IsListIter it a i else h.IsTupleIter it a i
def jq (k:Bool)(h:Heap)(a:Addr)(items:Array Value):Prop:=if k=true then h.IsList a items else h.IsTuple a items
def yR (k:Bool)(K:Frag)(H:Hp)(a:Addr)(xs:List V):Prop:=if k=true then qT K H a xs else qb K H a xs
noncomputable def ZY (k:Bool):String:=if k then "list_iterator" else "tuple_iterator"
def qY.ob {k:Bool}{it:Addr}(x:qY k h it a i):∃o,h.get? it=some o/\o.cls=.type (ZY k)/\o.data=.fields #[.ref a,.int i 0]:=by
 cases k<;>exact x
def qY.mk {k:Bool}{it:Addr}(x:∃o,h.get? it=some o/\o.cls=.type (ZY k)/\o.data=.fields #[.ref a,.int i 0]):qY k h it a i:=by
 cases k<;>exact x
def qY.to {k:Bool}{h':Heap}{it:Addr}(x:qY k h it a i)(e:∀o,h.get? it=some o->h'.get? it=some o):qY k h' it a i:=let ⟨o,h1,r⟩:=x.ob;.mk ⟨o,e o h1,r⟩
def jq.ob {k:Bool}{items:Array Value}(x:jq k h a items):∃o,h.get? a=some o/\o.cls=.type (if k then "list" else "tuple")/\∃n,o.data=.seq items n:=by
 cases k<;>exact x
def jq.to {k:Bool}{h':Heap}{items:Array Value}(x:jq k h a items)(e:∀o,h.get? a=some o->h'.get? a=some o):jq k h' a items:=by
 cases k with
 |false=>exact let ⟨o,h1,r⟩:=x.ob;⟨o,e o h1,r⟩|true=>exact let ⟨o,h1,r⟩:=x.ob;⟨o,e o h1,r⟩
section
variable {prog:Program}{A:Around}{k:Bool}{it:Addr}{items:Array Value}
def G1 (h:jq k s.heap a items)(H:Q (.ref s.heap.objs.size) { s with heap:=s.heap.push { cls:=.type (ZY k),data:=.fields #[.ref a,.int 0 0] } }):wpAny (model prog w) A (pyIter (.ref a)) Q E s:=by
 cases k with
 |true=>exact wpAny_pyIter_list h H|false=>exact wpAny_pyIter_tuple h H
def Kb {x:Value}(hit:qY k s.heap it a i)(l:jq k s.heap a items)(f:items[i]? =some x)
  (g:∀h',qY k h' it a (i+1)->Heap.SameBut it s.heap h'->Q x { s with heap:=h' }):wpAny (model prog w) A (Builtin.SmallTypes.nextOf (.ref it)) Q E s:=by
 cases k with
 |true=>exact wpAny_nextOf_list_item hit l f g|false=>
  have h:s.heap.IsTupleIter it a i:=hit;obtain⟨o,b,e,H⟩:=id h;obtain⟨j,c,_,na,d⟩:s.heap.IsTuple a items:=l;unfold Builtin.SmallTypes.nextOf;refine bG (wpAny_callSpecial?_slot (name:=Str.ofString "__next__") h.typeIs F.slot_tuple_iterator_next (wpAny_call_entry F.slot_tuple_iterator_next h.typeIs F.entry_tuple_iterator_next ?_ (F.args_tuple_iterator_next_1 _)));show wpAny _ _ (field (.ref it) 0 >>= _) _ _ s;refine bG (wpAny_field b H (x:=.ref a) rfl ?_);show wpAny _ _ (if (Value.ref a==Value.none)=true then _ else _) _ _ s;rw[af (show ¬((Value.ref a==Value.none)=true) from ar)]
  show wpAny _ _ (field (.ref it) 1 >>= _) _ _ s;refine bG (wpAny_field b H (x:=.int i 0) rfl ?_);show wpAny _ _ (seqItems? (.ref a) >>= _) _ _ s;refine bG (wpAny_seqItems c d ?_);simp only[aE,f];refine bG (wpAny_setField b H (by simp) (bH ⟨x,rfl,bH (g _ (.mk ?_) (Heap.SameBut.update ..))⟩))
  exact⟨_,Heap.get?_update_self _ b (Obj.isFreed_of_fields (Obj.data_mapFields H _)),(Obj.cls_mapFields ..).trans e,by rw[Obj.data_mapFields H];simp[rawInt]⟩
def XD (d:A.handled=none)(hit:qY k s.heap it a i)(l:jq k s.heap a items)(g:items[i]? =none)
  (j:∀h' e,Heap.ExtBut it s.heap h'->(∃o,h'.get? e=some o/\o.cls=.type "StopIteration")->E (.ref e) { s with heap:=h' }):wpAny (model prog w) A (Builtin.SmallTypes.nextOf (.ref it)) Q E s:=by
 cases k with
 |true=>exact wpAny_nextOf_list_end d hit l g j|false=>
  have h:s.heap.IsTupleIter it a i:=hit;obtain⟨p,H,n,b⟩:=id h;obtain⟨q,c,_,na,f⟩:s.heap.IsTuple a items:=l;unfold Builtin.SmallTypes.nextOf;refine bG (wpAny_callSpecial?_slot (name:=Str.ofString "__next__") h.typeIs F.slot_tuple_iterator_next (wpAny_call_entry F.slot_tuple_iterator_next h.typeIs F.entry_tuple_iterator_next ?_ (F.args_tuple_iterator_next_1 _)));show wpAny _ _ (field (.ref it) 0 >>= _) _ _ s;refine bG (wpAny_field H b (x:=.ref a) rfl ?_);show wpAny _ _ (if (Value.ref a==Value.none)=true then _ else _) _ _ s;rw[af (show ¬((Value.ref a==Value.none)=true) from ar)]
  show wpAny _ _ (field (.ref it) 1 >>= _) _ _ s;refine bG (wpAny_field H b (x:=.int i 0) rfl ?_);show wpAny _ _ (seqItems? (.ref a) >>= _) _ _ s;refine bG (wpAny_seqItems c f ?_);simp only[aE,g];refine bG (wpAny_rule (bG (wpAny_setField H b (by simp) ?_)))
  show wpAny _ _ (newExc (.type "StopIteration") [] >>= _) _ _ _;refine bG ?_;simp only[newExc,newTuple];refine bG (wpAny_newObj_type ?_ (by size_fits))
  refine bG (m:=firstArgMember _ _) (wpAny_of_eq (a:=Value.none) (by first|rfl|(simp only[firstArgMember];rfl)) ?_);refine wpAny_newObj_type ?_ (by size_fits)
  simp only[raiseNew];refine bG (wpAny_handled ?_)
  first|rw[show A.in1.handled=none from d]|rw[d]
  refine bG (bH (wpAny_throw ?_));exact j _ _ (((Heap.SameBut.update ..).extBut.push _).push _) ⟨_,au _ rfl,rfl⟩
end
section
variable {h':Heap}
def _root_.L2.Inv.spun {T:Addr}(I:Inv X pins σ H s)(k:∀b u,b∉fp->s.heap.get? b=some u->h'.get? b=some u)(hf:∀b∈fp,yh X pins H b)(hT:s.heap.objs.size<=T)
  (new:qI X.prog X.w (upd H T o) h' T o):Inv X pins σ (upd H T o) { s with heap:=h',toks:=t' }:=by
 have hn:H T=none:=I.hok.fresh hT;have lt:∀b u,s.heap.get? b=some u->b≠T:=λb u e=>aG (av (aB e) hT);have N:∀b u,H b=some u->b∉fp:=λb u e z=>by rw[(hf b z).1]at e;cases e
 refine I.step (g':=s.gens) (d':=s.drawn) (ch:=fp) (λb a=>let ⟨_,f1,_,g,f4,f⟩:=hf b a;⟨g,f1,f4,f⟩) (λb o _ _ h e _=>k b o h e) (λb o _ _ h e _=>⟨o.slots,k b o h e⟩)
  (λb o _ e n=>by rw[zS (lt b o e)];exact n) (λb o h e=>⟨o,k b o h e⟩) (λb xs e=>by rw[zS (ym e hn)];exact e) (λb u xs e=>by rw[zS (ym e hn)];exact e)
  (λb ps e=>⟨#[],by rw[zS (ym e hn),e];simp⟩) (λm hm=>?_) (λb u e=>?_) I.bare
 ·obtain⟨o,es,E,d,r⟩:=hm
  exact⟨o,es,E,k _ o (λz=>(hf _ z).2.1 rfl) d,r⟩
 ·by_cases a:b=T
  ·subst a;rw[qM]at e;cases e;exact new
  ·rw[zS a]at e
   refine(I.hok b u e).stay (λc v h q=>k c v ?_ q) (λc q=>by rw[zS (ym q hn)];exact q) λc xs q=>by rw[zS (ym q hn)];exact q
   rcases h with z|z
   ·rw[z];exact N b u e
   ·exact N c _ z
def _root_.L2.Inv.spun0 (I:Inv X pins σ H s)(k:∀b u,b∉fp->s.heap.get? b=some u->h'.get? b=some u)(hf:∀b∈fp,yh X pins H b):Inv X pins σ H { s with heap:=h',toks:=t' }:=by
 have N:∀b u,H b=some u->b∉fp:=λb u e z=>by rw[(hf b z).1]at e;cases e
 refine I.step (g':=s.gens) (d':=s.drawn) (ch:=fp) (λb d=>let ⟨_,f1,_,g,f4,f⟩:=hf b d;⟨g,f1,f4,f⟩) (λb o _ _ h e _=>k b o h e) (λb o _ _ h e _=>⟨o.slots,k b o h e⟩)
  (λb o _ e n=>n) (λb o h e=>⟨o,k b o h e⟩) (λb xs e=>e) (λb u xs e=>e) (λb ps e=>⟨#[],by rw[e];simp⟩) (λm hm=>?_) (λb u e=>?_) I.bare
 ·obtain⟨o,es,E,a,r⟩:=hm
  exact⟨o,es,E,k _ o (λz=>(hf _ z).2.1 rfl) a,r⟩
 ·refine(I.hok b u e).stay (λc v h q=>k c v ?_ q) (λc q=>q) λc xs q=>q
  rcases h with z|z
  ·rw[z];exact N b u e
  ·exact N c _ z
def _root_.L2.Inv.sq {k:Bool}{xs:List V}(I:Inv X pins σ H s)(h:yR k X.K H a xs):∃i:bj,Vals xs i/\jq k s.heap a i.toArray/\xs.length<=sizeLine:=by
 cases k with
 |true=>obtain⟨i,r,p,z⟩:=I.list h;exact⟨i,r,p.isList,z⟩|false=>obtain⟨i,r,p,z⟩:=I.tuple h;exact⟨i,r,(show s.heap.IsTuple a i.toArray from p),z⟩
def _root_.L2.Inv.sq_inj {k:Bool}{xs:List V}(I:Inv X pins σ H s)(h:yR k X.K H a xs)(h':yR k X.K H a ys):xs=ys:=by
 cases k with
 |true=>exact I.list_inj h h'|false=>exact I.tuple_inj h h'
end
open AutoSeq1 (wpAny_loadPart')
section
variable {a:Expr}
def boot_zip:bootBuiltins "zip"=some (.type "zip"):=by rfl
noncomputable def ZZ (w:W):Bool:=match w with
 |.tup _=>false|_=>true
def YW {K:Frag}{A:Hx}{w:W}{ws:List W}(S:zr K φ A H)(q:RV K φ H w v)(e:zV w A=some ws):∃p Y,v=.ref p/\yR (ZZ w) K H p Y/\zx K φ H ws Y:=by
 cases w with
 |tup us=>cases e;obtain⟨a,s,E,t,r⟩:=q;exact⟨a,s,E,t,r⟩|ref n=>
  obtain⟨a,E,f⟩:=q;unfold zV at e;dsimp only at e;cases c:A[n]? with
  |none=>rw[c]at e;cases e|some o=>
   rw[c]at e;obtain⟨d,b,r⟩:=S.ob n o c;rw[f]at b;cases b;cases o with
   |lst xs=>cases e;obtain⟨y,h1,h⟩:=r;exact⟨a,y,E,qT.of h1,h⟩|ro xs=>cases e;obtain⟨y,h1,h⟩:=r;exact⟨a,y,E,h1.sq,h⟩|dct xs=>cases e|td _=>cases e|tr _=>cases e|tab _ _=>cases e
 |non=>cases e|bl _=>cases e|clo _ _ _=>cases e|xc _=>cases e|int _=>cases e|str _=>cases e
def WU {K:Frag}{a:bo}{A':Hx}{h:Hp}{w:W}{b:List W}{p:Addr}(q:RV K φ H w (.ref p))(lw:kO K φ H a h)(S:zr K a A' h)(E:zV w A'=some b):∃y,yR (ZZ w) K h p y/\zx K a h b y:=by
 obtain⟨P,Y,e,h1,c⟩:=YW S (RV.monoW lw q) E;cases e;exact⟨Y,h1,c⟩
end
section
variable {prog:Program}{A:Around}{z TI TO i1 i2 l1 l2:Addr}{n1 n2:Nat}{c1 c2:Bool}{xs ys:Array Value}{x y a b:Value}
def R4 (D:ZipApart z TI TO i1 i2 l1 l2)(H:IsZip s.heap z TI TO .none)(I:IsPair s.heap TI (.ref i1) (.ref i2))(r:IsPair s.heap TO a b)
  (g1:qY c1 s.heap i1 l1 n1)(g2:qY c2 s.heap i2 l2 n2)(s1:jq c1 s.heap l1 xs)(s2:jq c2 s.heap l2 ys)(X:xs[n1]? =some x)(U:ys[n2]? =some y)
  (hQ:∀h',IsZip h' z TI TO (rawInt s.heap.objs.size)->IsPair h' TI (.ref i1) (.ref i2)->IsPair h' TO x y->qY c1 h' i1 l1 (n1+1)->qY c2 h' i2 l2 (n2+1)->IsPair h' s.heap.objs.size x y->
   (∀c o,c≠z->c≠TO->c≠i1->c≠i2->s.heap.get? c=some o->h'.get? c=some o)->Q (.ref s.heap.objs.size) { s with heap:=h' }):
  wpAny (model prog w) A (Builtin.«zip.__next__» ⟨[.ref z],[]⟩) (λfin s'=>∃v,fin=.done (.ret v)/\Q v s') E s:=by
 show wpAny _ _ (field (.ref z) 2 >>= _) _ _ _;refine bG (wpAny_field H rfl (x:=.bool false) rfl ?_);show wpAny _ _ (field (.ref z) 3 >>= _) _ _ _;refine bG (wpAny_field H rfl (x:=.ref TI) rfl (bG (wpAny_seqItems I rfl ?_)));show wpAny _ _ (Builtin.SmallTypes.ownedTupleIsFree (.ref z) >>= _) _ _ _;refine bG ?_;unfold Builtin.SmallTypes.ownedTupleIsFree;refine bG (wpAny_field H rfl (x:=.none) rfl (bH ?_));simp only[if_true];refine bG (wpAny_rule (bG (wpAny_field H rfl (x:=.ref TO) rfl ?_)));refine bG (wpAny_setField_rec H (by simp) λha n sa=>?_);replace n:IsZip ha z TI TO .ellipsis:=n
 refine bG ?_;simp only[List.zipIdx_cons,List.zipIdx_nil,forIn_cons,forIn_nil];refine bG (bG (wpAny_onRaise ?_));show wpAny _ _ (Builtin.SmallTypes.nextOf (.ref i1) >>= _) _ _ _;refine bG (Kb (g1.to λo e=>sa.extBut _ _ D.i1z e) (s1.to λo e=>sa.extBut _ _ D.l1z e) X λhb gb i=>bH ?_);have J:IsPair hb TO a b:=i.extBut _ _ D.TOi1 (sa.extBut _ _ D.TOz r);refine bG (wpAny_seqItems J rfl (bG (wpAny_updateSeq_pair J λN T sc=>bG (wpAny_letGo (bH ?_)))));replace T:IsPair N TO x b:=T;refine bG (bG (wpAny_onRaise ?_));show wpAny _ _ (Builtin.SmallTypes.nextOf (.ref i2) >>= _) _ _ _;have up:∀c o,c≠z->c≠i1->c≠TO->s.heap.get? c=some o->N.get? c=some o:=λc o f d h e=>sc.extBut _ _ h (i.extBut _ _ d (sa.extBut _ _ f e));refine bG (Kb (g2.to λo e=>up _ o D.i2z D.i12.symm D.TOi2.symm e) (s2.to λo e=>up _ o D.l2z D.l2i1 D.l2TO e) U λhd gd g=>bH ?_);have td:IsPair hd TO x b:=g.extBut _ _ D.TOi2 T;refine bG (wpAny_seqItems td rfl (bG (wpAny_updateSeq_pair td λhe t S=>bG (wpAny_letGo (bH (bH ?_))))));replace t:IsPair he TO x y:=t;refine bG (wpAny_seqItems t rfl (bG (wpAny_newTuple ?_)));have hsz:he.objs.size=s.heap.objs.size:=by rw[S.1,g.1,sc.1,i.1,sa.1]
 have B:IsZip he z TI TO .ellipsis:=S.extBut _ _ D.TOz.symm (g.extBut _ _ D.i2z.symm (sc.extBut _ _ D.TOz.symm (i.extBut _ _ D.i1z.symm n)));have M:∀c o,c≠z->c≠TO->c≠i1->c≠i2->s.heap.get? c=some o->he.get? c=some o:=λc o f d h p e=>S.extBut _ _ d (g.extBut _ _ p (up c o f h d e));have ge1:qY c1 he i1 l1 (n1+1):=((gb.to λo e=>sc.extBut _ _ D.TOi1.symm e).to λo e=>g.extBut _ _ D.i12 e).to λo e=>S.extBut _ _ D.TOi1.symm e;have u:qY c2 he i2 l2 (n2+1):=gd.to λo e=>S.extBut _ _ D.TOi2.symm e;have Z:z<he.objs.size:=aB B;show wpAny _ _ (Builtin.SmallTypes.ownedTupleHandOut (.ref z) (.ref he.objs.size) >>= _) _ _ _;refine bG ?_;unfold Builtin.SmallTypes.ownedTupleHandOut;have P:IsZip (he.push { cls:=.type "tuple",data:=.seq #[x,y] }) z TI TO .ellipsis:=ae _ B;refine bG (wpAny_setField_rec P (by simp) λY l L=>?_);replace l:IsZip Y z TI TO (rawInt he.objs.size):=l
 refine wpAny_setField_rec l (by simp) λj k K=>?_;replace k:IsZip j z TI TO (rawInt he.objs.size):=k
 have fin:∀c o,c≠z->he.get? c=some o->j.get? c=some o:=λc o q e=>K.extBut _ _ q (L.extBut _ _ q (ae _ e));have C:IsPair j he.objs.size x y:=K.extBut _ _ (ne_of_gt Z) (L.extBut _ _ (ne_of_gt Z) (au _ rfl));rw[hsz]at k C;refine bH ⟨_,rfl,?_⟩;show Q (.ref he.objs.size) _;rw[hsz];exact hQ j k (fin _ _ D.TIz (M _ _ D.TIz D.TITO D.TIi1 D.TIi2 I)) (fin _ _ D.TOz t) (ge1.to λo e=>fin _ o D.i1z e) (u.to λo e=>fin _ o D.i2z e) C λc o f d h p e=>fin c o f (M c o f d h p e)
def OZ {Q:Fin->Shared->Prop}(J:A.handled=none)(D:ZipApart z TI TO i1 i2 l1 l2)(i:IsZip s.heap z TI TO .none)(I:IsPair s.heap TI (.ref i1) (.ref i2))(u:IsPair s.heap TO a b)
  (g1:qY c1 s.heap i1 l1 n1)(g2:qY c2 s.heap i2 l2 n2)(s1:jq c1 s.heap l1 xs)(s2:jq c2 s.heap l2 ys)(j:xs[n1]? =none∨ys[n2]? =none)
  (K:∀h' e,(∀c o,c≠z->c≠TO->c≠i1->c≠i2->s.heap.get? c=some o->h'.get? c=some o)->(∃o,h'.get? e=some o/\o.cls=.type "StopIteration")->E (.ref e) { s with heap:=h' }):
  wpAny (model prog w) A (Builtin.«zip.__next__» ⟨[.ref z],[]⟩) Q E s:=by
 show wpAny _ _ (field (.ref z) 2 >>= _) _ _ _;refine bG (wpAny_field i rfl (x:=.bool false) rfl ?_);show wpAny _ _ (field (.ref z) 3 >>= _) _ _ _;refine bG (wpAny_field i rfl (x:=.ref TI) rfl (bG (wpAny_seqItems I rfl ?_)));show wpAny _ _ (Builtin.SmallTypes.ownedTupleIsFree (.ref z) >>= _) _ _ _;refine bG ?_;unfold Builtin.SmallTypes.ownedTupleIsFree;refine bG (wpAny_field i rfl (x:=.none) rfl (bH ?_));simp only[if_true];refine bG (wpAny_rule (bG (wpAny_field i rfl (x:=.ref TO) rfl ?_)));refine bG (wpAny_setField_rec i (by simp) λt Z sa=>?_);replace Z:IsZip t z TI TO .ellipsis:=Z
 refine bG ?_;simp only[List.zipIdx_cons,List.zipIdx_nil,forIn_cons,forIn_nil];refine bG (bG (wpAny_onRaise ?_));show wpAny _ _ (Builtin.SmallTypes.nextOf (.ref i1) >>= _) _ _ _;have ga:=g1.to (h':=t) λo e=>sa.extBut _ _ D.i1z e;have Y:=s1.to (h':=t) λo e=>sa.extBut _ _ D.l1z e;cases n:xs[n1]? with
 |none=>
  refine bG (XD J ga Y n λr e S he=>?_);obtain⟨l,h,H⟩:=he;have y:IsZip r z TI TO .ellipsis:=S _ _ D.i1z.symm Z;have f:e≠z:=λq=>by subst q;rw[y]at h;cases h;simp at H
  exact wpAny_setField_rec y (by simp) λp _ sc=>K p e (λc o d _ g _ q=>sc.extBut _ _ d (S _ _ g (sa.extBut _ _ d q))) ⟨l,sc.extBut _ _ f h,H⟩
 |some x=>
  have M:ys[n2]? =none:=by
   rcases j with q|q
   ·rw[n]at q;cases q
   ·exact q
  refine bG (Kb ga Y n λr P S=>bH ?_);have T:IsPair r TO a b:=S.extBut _ _ D.TOi1 (sa.extBut _ _ D.TOz u);refine bG (wpAny_seqItems T rfl (bG (wpAny_updateSeq_pair T λp N sc=>bG (wpAny_letGo (bH ?_)))));refine bG (bG (wpAny_onRaise ?_));show wpAny _ _ (Builtin.SmallTypes.nextOf (.ref i2) >>= _) _ _ _;have up:∀c o,c≠z->c≠i1->c≠TO->s.heap.get? c=some o->p.get? c=some o:=λc o d k g e=>sc.extBut _ _ g (S.extBut _ _ k (sa.extBut _ _ d e));refine bG (XD J (g2.to λo e=>up _ o D.i2z D.i12.symm D.TOi2.symm e) (s2.to λo e=>up _ o D.l2z D.l2i1 D.l2TO e) M λhd e C he=>?_);obtain⟨l,h,H⟩:=he;have v:IsZip hd z TI TO .ellipsis:=C _ _ D.i2z.symm (sc.extBut _ _ D.TOz.symm (S.extBut _ _ D.i1z.symm Z));have f:e≠z:=λq=>by subst q;rw[v]at h;cases h;simp at H
  exact wpAny_setField_rec v (by simp) λhf _ B=>K hf e (λc o d k g L q=>B.extBut _ _ d (C _ _ L (up c o d g k q))) ⟨l,B.extBut _ _ f h,H⟩
def Pe {Q:Option Value->Shared->Prop}(D:ZipApart z TI TO i1 i2 l1 l2)(d:IsZip s.heap z TI TO .none)(H:IsPair s.heap TI (.ref i1) (.ref i2))(h:IsPair s.heap TO a b)
  (g1:qY c1 s.heap i1 l1 n1)(g2:qY c2 s.heap i2 l2 n2)(s1:jq c1 s.heap l1 xs)(s2:jq c2 s.heap l2 ys)(n:xs[n1]? =some x)(l:ys[n2]? =some y)
  (p:∀h',IsZip h' z TI TO (rawInt s.heap.objs.size)->IsPair h' TI (.ref i1) (.ref i2)->IsPair h' TO x y->qY c1 h' i1 l1 (n1+1)->qY c2 h' i2 l2 (n2+1)->IsPair h' s.heap.objs.size x y->
   (∀c o,c≠z->c≠TO->c≠i1->c≠i2->s.heap.get? c=some o->h'.get? c=some o)->Q (some (.ref s.heap.objs.size)) { s with heap:=h' }):wpAny (model prog w) A (pyNext (.ref z)) Q E s:=by
 have hT:s.TypeIs (.ref z) "zip":=⟨_,d,rfl⟩;unfold pyNext;exact bG (wpAny_attempt (wpAny_callSpecial?_slot (name:=Str.ofString "__next__") hT F.slot_zip_next (wpAny_call_entry F.slot_zip_next hT F.entry_zip_next
  (R4 D d H h g1 g2 s1 s2 n l λh' k j i g f e q=>bH (p h' k j i g f e q)) (F.args_zip_next_1 _))))
def Px {Q:Option Value->Shared->Prop}(g:A.handled=none)(D:ZipApart z TI TO i1 i2 l1 l2)(d:IsZip s.heap z TI TO .none)(I:IsPair s.heap TI (.ref i1) (.ref i2))(H:IsPair s.heap TO a b)
  (g1:qY c1 s.heap i1 l1 n1)(g2:qY c2 s.heap i2 l2 n2)(s1:jq c1 s.heap l1 xs)(s2:jq c2 s.heap l2 ys)(h:xs[n1]? =none∨ys[n2]? =none)
  (j:∀h',(∀c o,c≠z->c≠TO->c≠i1->c≠i2->s.heap.get? c=some o->h'.get? c=some o)->Q none { s with heap:=h' }):wpAny (model prog w) A (pyNext (.ref z)) Q E s:=by
 have hT:s.TypeIs (.ref z) "zip":=⟨_,d,rfl⟩;unfold pyNext;refine bG (wpAny_attempt (wpAny_callSpecial?_slot (name:=Str.ofString "__next__") hT F.slot_zip_next (wpAny_call_entry F.slot_zip_next hT F.entry_zip_next (OZ g D d I H g1 g2 s1 s2 h λh' e k he=>?_) (F.args_zip_next_1 _))));obtain⟨o,f,i⟩:=he;exact bG (wpAny_isInstance (T := "StopIteration") (b:=true) ⟨o,f,i⟩ isSubtype_stop (bH (j _ k)))
end
abbrev J9 (h:Heap)(c:Bool)(l:Addr):Heap:=h.push { cls:=.type (ZY c),data:=.fields #[.ref l,.int 0 0] }
abbrev Yb (h:Heap)(C c:Bool)(L l:Addr):Heap:=(J9 h C L).push { cls:=.type (ZY c),data:=.fields #[.ref l,.int 0 0] }
abbrev J3 (h:Heap)(c C:Bool)(l L:Addr):Heap:=(Yb h c C l L).push { cls:=.type "tuple",data:=.seq #[.ref h.objs.size,.ref (J9 h c l).objs.size] }
abbrev J5 (h:Heap)(C c:Bool)(L l:Addr):Heap:=(J3 h C c L l).push { cls:=.type "tuple",data:=.seq #[.none,.none] }
abbrev Qb (h:Heap)(C c:Bool)(L l:Addr):Heap:=(J5 h C c L l).push { cls:=.type "zip",data:=.fields #[.none,.bool false,.bool false,.ref (Yb h C c L l).objs.size,.ref (J3 h C c L l).objs.size] }
def Tf (c C:Bool)(l L:Addr)(xs y:Array Value):
  Meets (Builtin.«zip.__new__» ⟨[.type "zip",.ref l,.ref L],[]⟩) (λ_ R s=>jq c s.heap l xs/\jq C s.heap L y/\R (.ok (.ret (.ref (J5 s.heap c C l L).objs.size))) { s with heap:=Qb s.heap c C l L }):=
 .of_wp λprog w A R s h=>by
  obtain⟨p,g,d,t,os⟩:=s;obtain⟨Q,q,h⟩:=h;have H:=sub_zip;have k1:jq c (Shared.heap ⟨p,g,d,t,os⟩) l xs:=Q;have k2:jq C (Shared.heap ⟨p.push { cls:=.type (ZY c),data:=.fields #[.ref l,.int 0 0] },g,d,t,os⟩) L y:=q.to λo e=>ae _ e
  wp_walk using G1 k1,G1 k2
  exact⟨_,rfl,h⟩
section
variable {prog:Program}{A:Around}{c1 c2:Bool}{l1 l2:Addr}{xs ys:Array Value}
def S6 (s1:jq c1 s.heap l1 xs)(s2:jq c2 s.heap l2 ys)
  (h:∀h' n,n=s.heap.objs.size->IsZip h' (n+4) (n+2) (n+3) .none->IsPair h' (n+2) (.ref n) (.ref (n+1))->IsPair h' (n+3) .none .none->qY c1 h' n l1 0->qY c2 h' (n+1) l2 0->
   (∀c o,s.heap.get? c=some o->h'.get? c=some o)->Q (.ref (n+4)) { s with heap:=h' }):wpAny (model prog w) A (call (.type "zip") [.ref l1,.ref l2]) Q E s:=by
 refine callType_new F.called_zip (by decide) (F.typeCall_zip_2 _ _) (F.newCall_zip_2 _ _) (λobj=>F.args_object_init_3 obj _ _) F.entry_zip_new (Tf c1 c2 l1 l2 xs ys) ⟨s1,s2,?_⟩
 have a:(J9 s.heap c1 l1).objs.size=s.heap.objs.size+1:=aY ..;have Z:(Yb s.heap c1 c2 l1 l2).objs.size=s.heap.objs.size+2:=by rw[aY,a]
 have z:(J3 s.heap c1 c2 l1 l2).objs.size=s.heap.objs.size+3:=by rw[aY,Z]
 have b:(J5 s.heap c1 c2 l1 l2).objs.size=s.heap.objs.size+4:=by rw[aY,z]
 have y:(Qb s.heap c1 c2 l1 l2).get? (J5 s.heap c1 c2 l1 l2).objs.size=some _:=au _ rfl;have Y:(Qb s.heap c1 c2 l1 l2).get? (J3 s.heap c1 c2 l1 l2).objs.size=some _:=ae _ (au _ rfl);have d:(Qb s.heap c1 c2 l1 l2).get? (Yb s.heap c1 c2 l1 l2).objs.size=some _:=ae _ (ae _ (au _ rfl));have e:(Qb s.heap c1 c2 l1 l2).get? (J9 s.heap c1 l1).objs.size=some _:=ae _ (ae _ (ae _ (au _ rfl)));have f:(Qb s.heap c1 c2 l1 l2).get? s.heap.objs.size=some _:=ae _ (ae _ (ae _ (ae _ (au _ rfl))));show _/\_;rw[Z,z,b]at y;rw[a,Z]at d;rw[z]at Y;rw[a]at e;rw[b];exact⟨⟨_,y,rfl⟩,h _ _ rfl y d Y (.mk ⟨_,f,rfl,rfl⟩) (.mk ⟨_,e,rfl,rfl⟩) λc o q=>
  ae _ (ae _ (ae _ (ae _ (ae _ q))))⟩
end
def Wd (C c:Bool)(K:Frag)(p q:Addr):It:=
 ⟨λi H=>∃xs Y x y,yR C K H p xs/\yR c K H q Y/\xs[i]? =some x/\Y[i]? =some y,
  λi H v h=>∃t x y,(∀xs,yR C K H p xs->xs[i]? =some x)/\(∀Y,yR c K H q Y->Y[i]? =some y)/\H t=none/\v=.ref t/\h=upd H t (.tup [x,y]),
  λi H=>∃xs Y,yR C K H p xs/\yR c K H q Y/\(xs[i]? =none∨Y[i]? =none)⟩
def SX {K:Frag}{elts:bx}{kk:Nat}{L:Pos}(c1 c2:Bool)(p q z TI T t r:Addr)(D:ZipApart z TI T t r p q):
  Turn P w K (.Tuple elts kk L) (Wd c1 c2 K p q) [z,TI,T,t,r] z (λi h=>IsZip h z TI T .none/\IsPair h TI (.ref t) (.ref r)/\(∃a b,IsPair h T a b)/\qY c1 h t p i/\qY c2 h r q i) where
 mem:=by simp
 obj:=λi h st b d=>by
  obtain⟨j,g,⟨U,Q,f⟩,g1,g2⟩:=st;simp only[mem_cons,not_mem_nil,or_false]at d;rcases d with rfl|rfl|rfl|rfl|rfl
  ·exact⟨_,j,λv e=>nomatch e⟩
  ·exact⟨_,g,λv e=>nomatch e⟩
  ·exact⟨_,f,λv e=>nomatch e⟩
  ·obtain⟨o,B,_,hd⟩:=g1.ob;exact⟨o,B,λv e=>by rw[hd]at e;cases e⟩
  ·obtain⟨o,B,_,hd⟩:=g2.ob;exact⟨o,B,λv e=>by rw[hd]at e;cases e⟩
 keep:=λi h h' ⟨j,g,⟨U,Q,f⟩,g1,g2⟩ k=>⟨k z (by simp) _ j,k TI (by simp) _ g,⟨U,Q,k T (by simp) _ f⟩,g1.to λo e=>k t (by simp) o e,g2.to λo e=>k r (by simp) o e⟩
 item:=by
  intro X hP hw hK hc i pins s σ H E I hf st hg;subst hP hw hK;obtain⟨j,g,⟨U,Q,f⟩,g1,g2⟩:=st;obtain⟨xs,ys,x,y,h1,N,ex,ey⟩:=hg;obtain⟨n,r1,u,_⟩:=I.sq h1;obtain⟨l,r2,S,_⟩:=I.sq N;obtain⟨Z,eu1,ru1⟩:=r1.get ex;obtain⟨Y,eu2,ru2⟩:=r2.get ey;refine Pe D j g f g1 g2 u S (x:=Z) (y:=Y) (by simpa using eu1) (by simpa using eu2) λhh z1 z2 z3 z4 z5 z6 kp=>?_
  refine⟨_,rfl,wpAny_letOwnedTupleGo_zip z1 λhk zk J=>?_⟩;have lt:∀{c o},s.heap.get? c=some o->c≠s.heap.objs.size:=λe=>aG (aB e);have T2:IsPair hk s.heap.objs.size Z Y:=J.extBut _ _ (lt j).symm z6;have fre:∀b∈[z,TI,T,t,r],b≠s.heap.objs.size:=λb d=>by
   simp only[mem_cons,not_mem_nil,or_false]at d;rcases d with rfl|rfl|rfl|rfl|rfl
   ·exact lt j
   ·exact lt g
   ·exact lt f
   ·obtain⟨o,B,_⟩:=g1.ob;exact lt B
   ·obtain⟨o,B,_⟩:=g2.ob;exact lt B
  refine⟨.ref s.heap.objs.size,upd H s.heap.objs.size (.tup [x,y]),?_,rfl,⟨s.heap.objs.size,x,y,λzs A=>by rw[I.sq_inj A h1];exact ex,λzs A=>by rw[I.sq_inj A N];exact ey,I.hok.fresh (aA _),rfl,rfl⟩,
   ⟨zk,J.extBut _ _ D.TIz z2,⟨_,_,J.extBut _ _ D.TOz z3⟩,z4.to λo e=>J.extBut _ _ D.i1z e,z5.to λo e=>J.extBut _ _ D.i2z e⟩,λb d=>?_⟩
  ·refine I.spun (fp:=[z,TI,T,t,r]) (t':=s.toks) (λb o d eo=>?_) hf (aA _) ?_
   ·exact J.extBut _ _ (λe=>d (by simp[e])) (kp b o (λe=>d (by simp[e])) (λe=>d (by simp[e])) (λe=>d (by simp[e])) (λe=>d (by simp[e])) eo)
   ·exact⟨by show 2<=sizeLine;decide,[Z,Y],.cons ru1 (.cons ru2 .nil),_,T2,⟨rfl,rfl⟩,0,rfl⟩
  ·show upd H s.heap.objs.size _ b=none
   rw[zS (fre b d)];exact(hf b d).1
 done:=by
  intro X hP hw hK hc i pins s σ H E I hf st hg;subst hP hw hK;obtain⟨j,g,⟨U,Q,f⟩,g1,g2⟩:=st;obtain⟨xs,ys,h1,N,M⟩:=hg;obtain⟨n,r1,u,_⟩:=I.sq h1;obtain⟨l,r2,S,_⟩:=I.sq N;have C:n.toArray[i]? =none∨l.toArray[i]? =none:=by
   rcases M with e|e
   ·exact .inl (by simpa using r1.none_of e)
   ·exact .inr (by simpa using r2.none_of e)
  exact Px (I.ok.hd hc) D j g f g1 g2 u S C λhh kp=>⟨rfl,I.spun0 (fp:=[z,TI,T,t,r]) (t':=s.toks) (λb o d eo=>kp b o (λe=>d (by simp[e])) (λe=>d (by simp[e])) (λe=>d (by simp[e])) (λe=>d (by simp[e])) eo) hf⟩
 self:=λ_ _ _ _ _ st h=>wpAny_pyIter_zip st.1 h
section
variable {a b:Expr}{m:Ev}
def Lh (K:Frag)(t:TA):TI:=λσ H R=>t σ H λv H1=>∃p q C c xs y,v=[.ref p,.ref q]/\yR C K H1 p xs/\yR c K H1 q y/\R (Wd C c K p q) H1
def Oi {elts:bx}{kk:Nat}{t:Pos}{T:TA}(U:Gl X "zip")(hm:X.mg "zip"=none)(Y:PA X [a,b] T)(N:starEach [a,b] X.env=(false,eval a X.env)::starEach [b] X.env)(P:(backTo pos (starEach [b] X.env)).any (·.1)=false):
  PI X (.Tuple elts kk t) (.Call (.Name "zip" p) [a,b] [] pos) (Lh X.K T):=by
 intro pins s σ H R I h;refine Call_ (QH I U hm boot_zip (PyProof.Rows.callWith_type1 (zM (Y pos pins s σ H _ I h) λus s1 ⟨vs,H1,g,M,Q⟩=>?_) N P));obtain⟨p,q,c1,c2,xs,ys,rfl,h1,h2,hR⟩:=Q;obtain⟨u1,u2,rfl,k,r⟩:=M.two;cases k;cases r;obtain⟨w,J,d,_⟩:=g.sq h1;obtain⟨v,C,S,_⟩:=g.sq h2;obtain⟨op,u,_⟩:=d.ob;obtain⟨oq,o,_⟩:=S.ob;have L:p<s1.heap.objs.size:=aB u;have l:q<s1.heap.objs.size:=aB o;refine S6 d S λh' n E z B A y Z kp=>wpAny_pyIter_zip z ?_;rw[<- E]at L l;have ne1:∀(i j:Nat),i≠j->n+i≠n+j:=λi j h e=>h (Nat.add_left_cancel e);have ne2:∀(c:Nat)(i:Nat),c<n->c≠n+i:=λc i h e=>absurd h (by rw[e];exact Nat.not_lt.mpr (le_add_right n i))
 have D:ZipApart (n+4) (n+2) (n+3) (n+0) (n+1) p q:=⟨ne1 2 4 (by decide),ne1 3 4 (by decide),ne1 0 4 (by decide),ne1 1 4 (by decide),ne1 2 3 (by decide),ne1 2 0 (by decide),ne1 2 1 (by decide),ne1 3 0 (by decide),ne1 3 1 (by decide),ne1 0 1 (by decide),
  ne2 p 4 L,ne2 p 3 L,ne2 p 0 L,ne2 p 1 L,ne2 q 4 l,ne2 q 3 l,ne2 q 0 l,ne2 q 1 l⟩
 refine⟨n+4,[n+4,n+2,n+3,n,n+1],_,_,H1,rfl,g.kept (t':=s1.toks) kp,SX c1 c2 p q _ _ _ _ _ D,⟨z,B,⟨_,_,A⟩,y,Z⟩,λc x=>?_,hR⟩;have f:s1.heap.objs.size<=c:=by
  rw[<- E];simp only[mem_cons,not_mem_nil,or_false]at x;rcases x with rfl|rfl|rfl|rfl|rfl
  ·exact le_add_right _ _
  ·exact le_add_right _ _
  ·exact le_add_right _ _
  ·exact aA _
  ·exact le_add_right _ _
 exact g.fpOk f (g.hok.fresh f)
noncomputable def zip2:Option W->Option W->Option W
 |some x,some y=>some (.tup [x,y])|_,_=>none
def K9 (w a:W)(n:Nat):jA:=⟨λA i=>match zV w A,zV a A with
 |some us,some v=>some (zip2 us[i]? v[i]?)|_,_=>none,n⟩
def MO {K:Frag}{w a:W}{p P:Addr}(q:RV K φ H w (.ref p))(Q:RV K φ H a (.ref P)):wZ K φ H (K9 w a n) (Wd (ZZ w) (ZZ a) K p P):=λi b D A' lw S=>by
 unfold K9;dsimp only;cases es:zV w A' with
 |none=>exact⟨λ_ z=>(by cases z),λz=>(by cases z)⟩|some us=>
  cases E:zV a A' with
  |none=>exact⟨λ_ z=>(by cases z),λz=>(by cases z)⟩|some s=>
   dsimp only;obtain⟨xs,h1,d⟩:=WU q lw S es;obtain⟨Y,h,c⟩:=WU Q lw S E;have non:∀{us:List W}{xs:List V},zx K b D us xs->us[i]? =none->xs[i]? =none:=λr e=>by
    rw[List.getElem?_eq_none_iff]at e ⊢;rw[<- r.length];exact e
   cases j:us[i]? with
   |none=>exact⟨λ_ z=>(by cases z),λ_=>⟨xs,Y,h1,h,.inl (non d j)⟩⟩|some x=>
    cases g:s[i]? with
    |none=>exact⟨λ_ z=>(by cases z),λ_=>⟨xs,Y,h1,h,.inr (non c g)⟩⟩|some y=>
     refine⟨λu z=>?_,λz=>(by cases z)⟩
     cases z;obtain⟨k,f1,f2⟩:=d.get j;obtain⟨v,f,f4⟩:=c.get g;refine⟨⟨xs,Y,k,v,h1,h,f1,f⟩,λX H1 ⟨t,J,I,o,l,A,ex,B⟩=>?_⟩;subst ex B;have g1:=o xs h1;have g2:=l Y h;rw[f1]at g1;cases g1;rw[f]at g2;cases g2;obtain⟨a1,a2,C⟩:=QI S A (.cons f2 (.one f4));exact⟨a1,a2,C⟩
def X8 (m M:Ev):Ei:=λρ A=>(m ρ A).bind λw A1=>(M ρ A1).bind λa A2=>match zV w A2,zV a A2 with
 |some us,some _=>.ok (K9 w a us.length) A2|_,_=>.bad
end
mutual
noncomputable def W.beq:W->W->Bool
 |.non,.non=>true|.bl a,.bl b=>a==b|.int a,.int b=>decide (a=b)|.str a,.str b=>decide (a=b)|.tup a,.tup b=>QT a b|_,_=>false
noncomputable def QT:List W->List W->Bool
 |[],[]=>true|a::as,b::bs=>a.beq b&&QT as bs|_,_=>false
end
mutual
theorem W.eq_of:∀{a b:W},a.beq b=true->a=b
 |.non,.non,_=>rfl|.bl a,.bl b,h=>by have h':(a==b)=true:=h;rw[aD]at h';rw[h']|.int a,.int b,h=>by have h':decide (a=b)=true:=h;rw[ah]at h';rw[h']|.str a,.str b,h=>by have h':decide (a=b)=true:=h;rw[ah]at h';rw[h']|.tup a,.tup b,h=>by have h':QT a b=true:=h;rw[Xp h']|.non,.bl _,h=>nomatch h|.non,.int _,h=>nomatch h|.non,.str _,h=>nomatch h|.non,.tup _,h=>nomatch h|.non,.ref _,h=>nomatch h
 |.bl _,.non,h=>nomatch h|.bl _,.int _,h=>nomatch h|.bl _,.str _,h=>nomatch h|.bl _,.tup _,h=>nomatch h|.bl _,.ref _,h=>nomatch h
 |.int _,.non,h=>nomatch h|.int _,.bl _,h=>nomatch h|.int _,.str _,h=>nomatch h|.int _,.tup _,h=>nomatch h|.int _,.ref _,h=>nomatch h
 |.str _,.non,h=>nomatch h|.str _,.bl _,h=>nomatch h|.str _,.int _,h=>nomatch h|.str _,.tup _,h=>nomatch h|.str _,.ref _,h=>nomatch h
 |.tup _,.non,h=>nomatch h|.tup _,.bl _,h=>nomatch h|.tup _,.int _,h=>nomatch h|.tup _,.str _,h=>nomatch h|.tup _,.ref _,h=>nomatch h
 |.ref _,.non,h=>nomatch h|.ref _,.bl _,h=>nomatch h|.ref _,.int _,h=>nomatch h|.ref _,.str _,h=>nomatch h|.ref _,.tup _,h=>nomatch h|.ref _,.ref _,h=>nomatch h
theorem Xp:∀{a b:List W},QT a b=true->a=b
 |[],[],_=>rfl|a::as,b::bs,h=>by
  have h':(a.beq b&&QT as bs)=true:=h;rw[ai]at h';rw[W.eq_of h'.1,Xp h'.2]
 |[],_::_,h=>nomatch h
 |_::_,[],h=>nomatch h
end
section
variable {K:Frag}
def FD (K:Frag)(x:Str)(st:Stmt):Prop:=∃f fd,yJ K x x st f fd/\nsIn K mainGlobals x=some (some (.ref f))
def N1 {st:Stmt}{b:Value}{o an:bE}{kV doc pm C ct:Value}(a:nsIn K mainGlobals x=some (some (.ref f)))
  (l:K.lookup f=some ⟨b,o,.func (fnOf x x (gj st) (jX st) (qA st) .none kV doc pm an C ct),osl⟩)(c:codeIn K C x=true)(k:keepIn K (.ref f)=true):FD K x st:=⟨f,_,OM l c k,a⟩
def CD (K:Frag)(x:Str)(i:Int):Prop:=∃t,nsIn K mainGlobals x=some (some (.int i t))
def N7 {i:Int}{t:Tok}(a:nsIn K mainGlobals x=some (some (.int i t))):CD K x i:=⟨t,a⟩
end
open PySem PySem.Spec PyProof.Rows L2 Mi
@[irreducible] noncomputable def zo (X:Cx)(x:XR)(e:Expr)(m:Ev):Prop:=Mi.SE X x e m
def Kn:@zo=@Mi.SE:=by
 funext X xr e m
 unfold zo
 rfl
@[irreducible] noncomputable def ki (X:Cx)(x:XR)(es:bx)(m:Ea):Prop:=Mi.SA X x es m
def Xw:@ki=@Mi.SA:=by
 funext X xr es m
 unfold ki
 rfl
@[irreducible] noncomputable def jT (X:Cx)(x:XR)(e:Expr)(m:Ev):Prop:=Mi.ST X x e m
def Xv:@jT=@Mi.ST:=by
 funext X xr e m
 unfold jT
 rfl
@[irreducible] noncomputable def kN (X:Cx)(x:XR)(e:Expr)(m:Ev):Prop:=Mi.SW X x e m
def XM:@kN=@Mi.SW:=by
 funext X xr e m
 unfold kN
 rfl
@[irreducible] noncomputable def yk (X:Cx)(x:XR)(st:Stmt)(m:Ex):Prop:=Mi.SS X x st m
def Xr:@yk=@Mi.SS:=by
 funext X xr st m
 unfold yk
 rfl
@[irreducible] noncomputable def yu (X:Cx)(x:XR)(st:bF)(m:Ex):Prop:=Mi.Yn X x st m
def G4:@yu=@Mi.Yn:=by
 funext X xr st m
 unfold yu
 rfl
@[irreducible] noncomputable def kq (X:Cx)(x:XR)(t e:Expr)(m:Ei):Prop:=Mi.SI X x t e m
def Xl:@kq=@Mi.SI:=by
 funext X xr tg e m
 unfold kq
 rfl
@[irreducible] noncomputable def kj (X:Cx)(t:Expr)(m:Tg):Prop:=Mi.SG X t m
def XH:@kj=@Mi.SG:=by
 funext X tg m
 unfold kj
 rfl
@[irreducible] noncomputable def gL (X:Cx)(x:XR)(e:Expr)(m:jy):Prop:=Mi.SF X x e m
def XO:@gL=@Mi.SF:=by
 funext X xr e m
 unfold gL
 rfl
@[irreducible] noncomputable def gN (X:Cx)(x:XR)(e:Expr)(m:jy):Prop:=Mi.SQ X x e m
def Xn:@gN=@Mi.SQ:=by
 funext X xr e m
 unfold gN
 rfl
@[irreducible] noncomputable def gD (X:Cx)(es:bx)(m:Ev):Prop:=Mi.Jb X es m
def GQ:@gD=@Mi.Jb:=by
 funext X es m
 unfold gD
 rfl
@[irreducible] noncomputable def gI (X:Cx)(elt:Expr)(gens:List Comprehension)(sc:Scope)(c:Pos)(d:Nat)(em:Em):Prop:=Mi.SM X elt gens sc c d em
def XN:@gI=@Mi.SM:=by
 funext X elt gens sc cpos d em
 unfold gI
 rfl
section
variable {xr:XR}{K:Frag}{a b c:Expr}{m ma mb mc:Ev}{m1 m2:Ex}{st:Stmt}{rest:bF}
def zQ:@zo=@Mi.SE/\@ki=@Mi.SA/\@jT=@Mi.ST/\@kN=@Mi.SW/\@yk=@Mi.SS/\@yu=@Mi.Yn/\@kq=@Mi.SI/\@kj=@Mi.SG/\@gL=@Mi.SF/\@gN=@Mi.SQ/\@gD=@Mi.Jb/\@gI=@Mi.SM:=⟨Kn,Xw,Xv,XM,Xr,G4,Xl,XH,XO,Xn,GQ,XN⟩
def zj {M:Ea}(d:zo X xr e ma)(r:ki X xr es M)(s:starEach (e::es) X.env=(false,eval e X.env)::starEach es X.env:=by rfl):ki X xr (e::es) (zc ma M):=by
 try simp only[zQ]at*
 exact PA.imp (jD d r s) λσ H Q ⟨φ,A,ρ,S,re,h⟩=>by
   refine tM.go S re (zN.mp h) λw A1 b H1 v h1 l i c=>?_;refine Ye.go i (re.mono l) (ql (zN.mp h1) (λ_ _ z=>z) λ_ _ z=>z.mono l) λk A2 a j v2 f L g q=>?_;exact f a j _ (l.trans L) g (.cons (c.mono L) q)
def zD:ki X xr [] zl:=by
 try simp only[zQ]at*
 exact PA.imp yC λσ H Q ⟨φ,A,ρ,S,re,h⟩=>h φ H [] .refl S .nil
def qZ (H:zo X xr a ma)(h:zo X xr b mb):zo X xr (.BinOp a .Add b pos) (zh zJ ma mb):=by
 try simp only[zQ]at*
 exact gZ (Nd.or (Pm.or (T9.or OH))) O3 PN H h
def Pw {q:jy}(H:X.calm=true)(hm:X.mg "all"=none)(a:gN X xr e q)(h:Gl X "all":=by rfl)(he:starEach [e] X.env=(false,eval e X.env)::starEach [] X.env:=by rfl):
  zo X xr (.Call (.Name "all" p) [e] [] pos) (mQ Vj q):=by
 try simp only[zQ]at*
 exact X0 (T8 H) OX R8 hm (by rfl) a h (by decide) (by decide) he (by rfl)
def QB {rest:bx}(e:zo X xr a ma)(d:zo X xr (.BoolOp .And (b::rest) pos) mb):zo X xr (.BoolOp .And (a::b::rest) pos) (qJ ma mb):=by
 try simp only[zQ]at*
 exact PE.imp (Od e d) λσ H Q ⟨φ,A,ρ,S,re,h⟩=>by
   refine tM.go S re (zN.mp h) λw A1 c H1 v h1 l s q=>?_;cases w with
   |bl k=>
    refine⟨k,q,?_⟩;cases k with
    |true=>rw[aa rfl];exact⟨c,A1,ρ,s,re.mono l,ql h1 (λ_ _ z=>z.mono l) λ_ _ z=>z.mono l⟩|false=>rw[af ar];exact h1 c H1 _ l s rfl
   |non=>cases h1|int _=>cases h1|str _=>cases h1|tup _=>cases h1|ref _=>cases h1|clo _ _ _=>cases h1|xc _=>cases h1
def yW {i j}:zo X xr (.Constant (.bool i) j pos) (zt (.bl i)):=by
 try simp only[zQ]at*
 exact PE.imp NT λσ H Q ⟨φ,A,ρ,S,r,h⟩=>h φ H _ .refl S rfl
def gy {g:W->W->Hx->R W}(h:yK X op g)(c:zo X xr a ma)(H:zo X xr b mb)(h1:op≠.In:=by decide)(d:op≠.NotIn:=by decide):zo X xr (.Compare a [op] [b] pos) (zh g ma mb):=by
 try simp only[zQ]at*
 exact let ⟨r,a1,a2,A⟩:=h.ex;OP a1 a2 A c H (h.mks b h1 d)
def P7 {o:CmpOp}{g g':W->W->Hx->R W}(h:yK X op g)(h':yK X o g')(e:zo X xr a ma)(d:zo X xr b mb)(H:zo X xr c mc)(hm:lastMarks [op,o] [b,c]=false:=by with_unfolding_all rfl):
  zo X xr (.Compare a [op,o] [b,c] pos) (yc g g' ma mb mc):=by
 try simp only[zQ]at*
 exact let ⟨r,a1,a2,A⟩:=h.ex;let ⟨j,i,f,B⟩:=h'.ex;SV a1 a2 A i f B e d H hm
def je {f:Fn}{M:Ea}(F:qe X.prog X.w X.K X.mg X.base k x n f)(r:qE k X.A)(s:ki X j3 (e::es) M)(g:wR M n:=by repeat' (first|exact qj|refine zu ?_))(j:Gl X x:=by rfl)
  (c:(x==("__debug__":Str))=false:=by decide)(he:starEach (e::es) X.env=(false,eval e X.env)::starEach es X.env:=by rfl)(l:(backTo pos (starEach es X.env)).any (·.1)=false:=by rfl):
  zo X j3 (.Call (.Name x p) (e::es) [] pos) (zF f M):=by
 try simp only[zQ]at*
 obtain⟨B,fd,ps,F,hm,i,o⟩:=F;refine PE.imp (G8 F r j hm i o .nil N6 s c he l) λσ H Q ⟨φ,A,ρ,S,re,h⟩=>?_;have h':=zN.mp h;refine⟨φ,A,ρ,S,re,?_⟩;cases E:M ρ A with
 |ok ws A1=>
  rw[E]at h';intro b H1 v L u q;have hv:v.length=n:=by rw[<- q.length];exact g ρ A ws A1 E
  rw[a7];exact⟨hv,b,A1,ws,u,q,ql h' (λ_ _ z=>z.mono L) λx A2 z a y d t=>(z a y (L.trans d) t).elim⟩
 |exc x A1=>rw[E]at h';exact h'|bad=>rw[E]at h';exact h'
def Y6 (H:zo X xr a ma)(h:zo X xr b mb):zo X xr (.BinOp a .FloorDiv b pos) (zh wW ma mb):=by
 try simp only[zQ]at*
 exact gZ R7 KQ (Kq R6 λ_ _ _ _=>rfl) H h
def GJ {i:Int}{t:Tok}(g:Gl X x)(hm:X.mg x=some (.int i t))(hd:(x==("__debug__":Str))=false:=by decide):zo X xr (.Name x pos) (zt (.int i)):=by
 try simp only[zQ]at*
 exact PE.imp (Pf g hm (v:=.int i) ⟨t,rfl⟩ hd) λσ H Q ⟨φ,A,ρ,S,r,h⟩=>h φ H _ .refl S rfl
def OB {c:Expr}(e:jT X xr c mc)(g:zo X xr a ma)(f:zo X xr b mb):zo X xr (.IfExp c a b pos) (Zu mc ma mb):=by
 try simp only[zQ]at*
 exact PE.imp (Ra e g f) λσ H Q ⟨φ,A,ρ,S,re,h⟩=>by
   refine tT.go S re (zN.mp h) λw A1 h1=>?_;cases w with
   |bl k=>
    refine⟨k,rfl,λd H1 l s=>?_⟩;cases k with
    |true=>rw[aa rfl];exact⟨d,A1,ρ,s,re.mono l,ql h1 (λ_ _ z=>z.mono l) λ_ _ z=>z.mono l⟩|false=>rw[af ar];exact⟨d,A1,ρ,s,re.mono l,ql h1 (λ_ _ z=>z.mono l) λ_ _ z=>z.mono l⟩
   |non=>cases h1|int _=>cases h1|str _=>cases h1|tup _=>cases h1|ref _=>cases h1|clo _ _ _=>cases h1|xc _=>cases h1
def zp {i j}:zo X xr (.Constant (.int i) j pos) (zt (.int i)):=by
 try simp only[zQ]at*
 exact PE.imp O2 λσ H Q ⟨φ,A,ρ,S,r,h⟩=>h φ H _ .refl S rfl
def gr (t:Ty){P:Pos}(hm:X.mg "isinstance"=none)(b:X.mg x=none)(d:bootBuiltins x=some (.type t.nm))(f:zo X xr e m)(g:Gl X "isinstance":=by rfl)(c:Gl X x:=by rfl)
  (hn:x ≠ "__name__":=by decide)(hd:(x==("__debug__":Str))=false:=by decide)
  (h1:starEach [e,.Name x P] X.env=(false,eval e X.env)::starEach [.Name x P] X.env:=by rfl)(i:(backTo pos (starEach [.Name x P] X.env)).any (·.1)=false:=by rfl):
  zo X xr (.Call (.Name "isinstance" p) [e,.Name x P] [] pos) (w5 t m):=by
 try simp only[zQ]at*
 exact PE.imp (gU RJ g hm (by rfl) (jD f (jD (JC c b d (v:=.ty t.nm) rfl hn hd) yC) h1) (by decide) (by decide) h1 i) λσ H Q ⟨φ,A,ρ,S,re,h⟩=>by
   refine tM.go S re (zN.mp h) λw A1 a H1 v h1 l s q=>?_;cases E:Qi w A1 with
   |none=>rw[E]at h1;exact h1.elim|some t'=>
    rw[E]at h1;exact⟨v,t',t,rfl,GL s q E,h1 a H1 _ l s rfl⟩
def yg (c:zo X xr a ma)(H:zo X xr b mb)(h:G0 b:=by intro _ _;rfl):zo X xr (.Subscript a b pos) (zh qd ma mb):=by
 try simp only[zQ]at*
 exact PE.imp (NF Oh c H h) (zh.read MV Np)
def Jy {q:jy}(hm:X.mg "len"=none)(H:gN X xr e q)(h:Gl X "len":=by rfl)(he:starEach [e] X.env=(false,eval e X.env)::starEach [] X.env:=by rfl):
  zo X xr (.Call (.Name "len" p) [e] [] pos) (mQ y0 q):=by
 try simp only[zQ]at*
 exact X0 Ue (λ_ _=>jF) Py hm (by rfl) H h (by decide) (by decide) he (by rfl)
def Jw {q:jy}(h:gL X xr e q):zo X xr e (jk q):=by
 try simp only[zQ]at*
 exact PE.imp h jk.read
def jw {M:Ea}(h:ki X xr es M)(H:wR M n)(hn:n<=qy:=by decide):zo X xr (.List es pos) (qa M):=by
 try simp only[zQ]at*
 exact OT h λρ A ws A' e=>by rw[H ρ A ws A' e];exact Qm hn
def GN (e:X.calm=true)(hm:X.mg "min"=none)(n:zo X xr a ma)(k:zo X xr b mb)(l:Gl X "min":=by rfl)(h1:starEach [a,b] X.env=(false,eval a X.env)::starEach [b] X.env:=by rfl)(o:starEach [b] X.env=(false,eval b X.env)::starEach [] X.env:=by rfl)(h:(backTo pos (starEach [b] X.env)).any (·.1)=false:=by rfl):
  zo X xr (.Call (.Name "min" p) [a,b] [] pos) (zh Zd ma mb):=by
 try simp only[zQ]at*
 exact X2 (UZ e) g8 (λφ A H x y u v Q S d c p=>by
   obtain⟨i,j,r,E,q⟩:=gX (K:=X.K) (f:=λi j=>.int (if j<i then j else i)) (g:=λi j=>.int (if j<i then j else i)) (λ_ _ _ _=>rfl) φ A H x y u v Q S d c p;subst r;subst E;exact⟨i,j,rfl,q⟩) hm (by rfl) n k l (by decide) (by decide) h1 o h
def ZO (H:zo X xr a ma)(h:zo X xr b mb):zo X xr (.BinOp a .Mod b pos) (zh yY ma mb):=by
 try simp only[zQ]at*
 exact gZ PV KQ (Kq Ph λ_ _ _ _=>rfl) H h
def yA (H:zo X xr a ma)(h:zo X xr b mb):zo X xr (.BinOp a .Mult b pos) (zh zY ma mb):=by
 try simp only[zQ]at*
 exact gZ (P9.or ON) Nr RN H h
def Xf (h:zo X xr a ma):zo X xr (.UnaryOp .USub a pos) (jg gF ma):=by
 try simp only[zQ]at*
 exact Ms Oj (λx A=>by unfold gF;split;exact jF;exact qC) (λφ A H x u Q S q p=>by
  cases u with
  |int i=>obtain rfl:=q;exact⟨i,rfl,p φ H _ .refl S rfl⟩|_=>exact p.elim) h
def JB {j}:zo X xr (.Constant .none j pos) (zt .non):=by
 try simp only[zQ]at*
 exact PE.imp Om λσ H Q ⟨φ,A,ρ,S,r,h⟩=>h φ H _ .refl S rfl
def RU (c:zo X xr a ma):zo X xr (.UnaryOp .Not a pos) (kL ma):=by
 try simp only[zQ]at*
 exact PE.imp (Nb c) λσ H Q ⟨φ,A,ρ,S,re,h⟩=>by
   refine tM.go S re (zN.mp h) λw A1 b H1 v h1 l s q=>?_;cases w with
   |bl k=>exact⟨k,q,h1 b H1 _ l s rfl⟩|non=>cases h1|int _=>cases h1|str _=>cases h1|tup _=>cases h1|ref _=>cases h1|clo _ _ _=>cases h1|xc _=>cases h1
def Qx {op}(h:zo X xr a ma):zo X xr (.BoolOp op [a] pos) ma:=by
 try simp only[zQ]at*
 exact P4 h
def yo (H:zo X xr a ma)(h:zo X xr b mb):zo X xr (.BinOp a .Sub b pos) (zh qf ma mb):=by
 try simp only[zQ]at*
 exact gZ Nl g8 (gX λ_ _ _ _=>rfl) H h
def jv {x1}{M:Ea}(h:ki X xr es M)(c:wR M n)(hn:n<=qy:=by decide):zo X xr (.Tuple es x1 pos) (zR M):=by
 try simp only[zQ]at*
 exact PE.imp (Xo h) λσ H Q ⟨φ,A,ρ,S,re,h⟩=>by
   have h':=zN.mp h;cases e:M ρ A with
   |ok ws A'=>
    rw[e]at h';refine⟨φ,A,ρ,S,re,?_⟩;rw[e];intro a H1 v l s q;refine⟨by rw[<- q.length,c ρ A ws A' e];exact Qm hn,λp b=>?_⟩
    obtain⟨a1,a2,d⟩:=QI s b q;exact h' _ _ _ (l.trans a1) a2 d
   |exc x A'=>rw[e]at h';refine⟨φ,A,ρ,S,re,?_⟩;rw[e];exact h'|bad=>rw[e]at h';exact h'.elim
def zi (i:Nat)(a:X.N[i]? =some x:=by rfl)(hv:Zq X.env.scope x:=by first|exact Or.inl rfl|exact Or.inr (Or.inl rfl)|exact Or.inr (Or.inr rfl))(hd:(x==("__debug__":Str))=false:=by decide)
  (d:(x==("__classdict__":Str))=false:=by decide):zo X xr (.Name x pos) (zW i):=by
 try simp only[zQ]at*
 exact PE.imp (XI a hv hd d) λσ H Q ⟨φ,A,ρ,S,r,h⟩=>by
  unfold zW at h;cases e:ρ[i]? with
  |none=>rw[e]at h;cases h|some o=>cases o with
   |none=>rw[e]at h;cases h|some w=>
    rw[e]at h;obtain⟨v,h1,b⟩:=r.get i w e;exact⟨v,h1,h φ H v .refl S b⟩
def T5 {elt iter:Expr}{ifs:bx}{a:List Comprehension}{mi:Ei}{tw:Tg}{M:Ev}{em:Em}(nl:Nat)(cap:bq)(c:X.calm=true)(S:wI X sc)(p:g9 X.N N sc nl cap=true)(hw:kq X xr tg iter mi)
  (n:∀s H fp,kj (qN X N sc s H fp jm) tg tw/\gD (qN X N sc s H fp jm) ifs M/\gI (qN X N sc s H fp jm) elt (⟨tg,iter,ifs,0⟩::a) sc pos 0 em)
  (d:∀g',a[0]? =some g'->g'.is_async=0:=by intro _ h;cases h<;>rfl)
  (b:∀x,foldedSetIterable iter X.env x=pure x:=by intro _;rfl):gL X xr (.ListComp elt (⟨tg,iter,ifs,0⟩::a) sc pos) (jI nl cap mi tw M em):=by
 try simp only[zQ]at*
 exact PE.imp (Rg (g:=tG X.K tw) (ti:=tT X.K j3 M) (tm:=tE X.K em) c S p d hw n b) jI.read
def Qp (i j:Nat){y:Str}{q:Pos}(o:X.calm=true)(h:X.N.Nodup)(l:X.N[i]? =some x:=by rfl)(f:Loc X.env.scope x:=by first|exact Or.inl rfl|exact Or.inr rfl)(hf:X.fn x=true∨X.env.scope.names.lookup x=some .local:=by first|exact .inl rfl|exact .inr rfl)
  (g:X.N[j]? =some y:=by rfl)(d:Loc X.env.scope y:=by first|exact Or.inl rfl|exact Or.inr rfl)(n:X.fn y=true∨X.env.scope.names.lookup y=some .local:=by first|exact .inl rfl|exact .inr rfl):kj X (.Tuple [.Name x p,.Name y q] k pos) (kF i j):=by
 try simp only[zQ]at*
 exact PG.imp (Xz o (Qs (ZH h l f hf) (Qs (ZH h g d n) GS))) λv σ H Q ⟨φ,A,ρ,w,b,S,re,c,e,kk⟩=>by
   unfold kF at e
   split at e
   ·rename_i x1 Y
    have E:=ao e;subst E;obtain⟨a,t,rfl,s,rs⟩:=c;obtain⟨v1,z,rfl,h1,v2,u,rfl,r,rfl⟩:=rs;exact⟨a,[v1,v2],rfl,s,rfl,v1,[v2],rfl,v2,[],rfl,rfl,kk _ ((re.set h1).set r)⟩
   ·cases e
def yn (i:Nat)(c:X.N.Nodup)(b:X.N[i]? =some x:=by rfl)(h:Loc X.env.scope x:=by first|exact Or.inl rfl|exact Or.inr rfl)(hf:X.fn x=true∨X.env.scope.names.lookup x=some .local:=by first|exact .inl rfl|exact .inr rfl):kj X (.Name x pos) (qh i):=by
 try simp only[zQ]at*
 exact PG.imp (ZH c b h hf) λv σ H Q ⟨φ,A,ρ,w,a,S,re,q,e,k⟩=>by
   have E:ρ.set i (some w)=a:=ao e;subst E;exact k _ (re.set q)
def QM (h:zo X xr e m):kq X xr tg e (jS m):=by
 try simp only[zQ]at*
 exact PI.imp (O4 h) λσ H Z ⟨φ,A,ρ,S,re,h⟩=>by
  refine tM.go S re (zN.mp h) λw A1 d H1 v h1 N M Q=>?_;unfold JZ at h1;cases e:zV w A1 with
  |none=>rw[e]at h1;exact h1.elim|some ws=>
   rw[e]at h1;dsimp only at h1;cases w with
   |tup us=>
    obtain⟨a,Y,rfl,f,l⟩:=Q;refine⟨a,rfl,.inr ⟨⟨Y,f⟩,h1 d H1 _ N M λi c g A' lw s=>⟨λu b=>?_,λb=>?_⟩⟩⟩
    ·have E:us[i]? =some u:=ao b
     obtain⟨y,j,C⟩:=(l.monoW lw).get E;refine⟨⟨Y,y,lw.tp _ _ f,j⟩,λx U t=>?_⟩;obtain⟨L,J⟩:=t;subst L;have k:=J Y (lw.tp _ _ f);rw[j]at k;cases k;exact⟨.refl,s,C⟩
    ·have E:us[i]? =none:=ao b
     refine⟨Y,lw.tp _ _ f,?_⟩;rw[<- l.length];exact List.getElem?_eq_none_iff.mp E
   |ref n=>
    obtain⟨a,rfl,f⟩:=Q;have read:∀{c g A' us},kO X.K d H1 c g->zr X.K c A' g->zV (.ref n) A'=some us->∃Y,qT X.K g a Y/\zx X.K c g us Y:=λ {c g A' us} lw s es=>by
     obtain⟨T,Y,P,z,r⟩:=YQ (w:=.ref n) (v:=.ref a) s ⟨a,rfl,lw.ex _ _ f⟩ es;cases P;unfold zV at es;dsimp only at es;cases I:A'[n]? with
     |none=>rw[I]at es;cases es|some o=>
      rw[I]at es;obtain⟨T,l,r⟩:=s.ob n o I;rw[lw.ex _ _ f]at l;cases l;cases o with
      |lst xs=>cases es;obtain⟨Y,h1,D⟩:=r;exact⟨Y,qT.of h1,D⟩|ro xs=>cases es;obtain⟨Y,h1,D⟩:=r;exact⟨Y,h1.sq,D⟩|dct xs=>cases es|td _=>cases es|tr _=>cases es|tab _ _=>cases es
    obtain⟨p,B,_⟩:=read ⟨λ_ _ h=>h,λ_ _ h=>h,λ_ _ _ h=>h⟩ M e;refine⟨a,rfl,.inl ⟨⟨p,B⟩,h1 d H1 _ N M λi c g A' lw s=>⟨λu b=>?_,λb=>?_⟩⟩⟩
    ·dsimp only at b
     cases es:zV (.ref n) A' with
     |none=>rw[es]at b;cases b|some us=>
      rw[es]at b;have E:us[i]? =some u:=ao b;obtain⟨Y,q,r⟩:=read lw s es;obtain⟨y,j,C⟩:=r.get E;refine⟨⟨Y,y,q,j⟩,λx U t=>?_⟩;obtain⟨L,J⟩:=t;subst L;have k:=J Y q;rw[j]at k;cases k;exact⟨.refl,s,C⟩
    ·dsimp only at b
     cases es:zV (.ref n) A' with
     |none=>rw[es]at b;cases b|some us=>
      rw[es]at b;have E:us[i]? =none:=ao b;obtain⟨Y,q,r⟩:=read lw s es;refine⟨Y,q,?_⟩;rw[<- r.length];exact List.getElem?_eq_none_iff.mp E
   |non=>cases e|bl _=>cases e|clo _ _ _=>cases e|xc _=>cases e|int _=>cases e|str _=>cases e
def ky (g:Gl X "range")(hm:X.mg "range"=none)(d:zo X xr a ma)(s:starEach [a] X.env=[(false,eval a X.env)]:=by rfl):kq X xr tg (.Call (.Name "range" p) [a] [] pos) (jh ma):=by
 try simp only[zQ]at*
 exact PI.imp (UY g hm (jD d yC (by rw[s];rfl)) s) λσ H r ⟨φ,A,ρ,S,re,h⟩=>by
   refine tM.go S re (zN.mp h) λw A1 b H1 v h1 l f q=>?_;cases w with
   |int j=>
    obtain rfl:=q;dsimp only at h1
    by_cases c:yz j=true
    ·rw[aa c]at h1
     obtain⟨e,B⟩:=W0 c;exact⟨j,rfl,e,B,h1 b H1 _ l f Nh⟩
    ·rw[af c]at h1;exact h1.elim
   |non=>exact h1.elim|bl _=>exact h1.elim|str _=>exact h1.elim|tup _=>exact h1.elim|ref _=>exact h1.elim|clo _ _ _=>exact h1.elim|xc _=>exact h1.elim
def Ry {elts:bx}{kk:Nat}{t:Pos}(r:Gl X "zip")(hm:X.mg "zip"=none)(x:zo X xr a ma)(u:zo X xr b mb)(i:starEach [a,b] X.env=(false,eval a X.env)::starEach [b] X.env:=by rfl)(f:starEach [b] X.env=(false,eval b X.env)::starEach [] X.env:=by rfl)(o:(backTo pos (starEach [b] X.env)).any (·.1)=false:=by rfl):
  kq X xr (.Tuple elts kk t) (.Call (.Name "zip" p) [a,b] [] pos) (X8 ma mb):=by
 try simp only[zQ]at*
 exact PI.imp (Oi r hm (jD x (jD u yC f) i) i o) λσ H J ⟨φ,A,ρ,S,re,h⟩=>by
   refine tM.go S re (zN.mp h) λw A1 j H1 v h1 l B n=>?_;refine tM.go B (re.mono l) (ql (zN.mp h1) (λ_ _ z=>z) λ_ _ z=>z.mono l) λg A2 d C v2 c L s Q=>?_;cases es:zV w A2 with
   |none=>rw[es]at c;exact c.elim|some us=>
    cases e:zV g A2 with
    |none=>rw[es,e]at c;exact c.elim|some I=>
     rw[es,e]at c;have q:=n.mono L;obtain⟨p,xs,rfl,k,E⟩:=YW s q es;obtain⟨P,y,rfl,Z,D⟩:=YW s Q e;exact⟨p,P,ZZ w,ZZ g,xs,y,rfl,k,Z,c d C _ (l.trans L) s (MO q Q)⟩
def R5 {elt:Expr}{d:Nat}{me:Ev}(x:∀e s,X.xe e s->False)(he:zo X j3 elt me)(j:gens[d+1]? =none):gI X elt gens sc pos d (qX me):=by
 try simp only[zQ]at*
 exact kr.imp (Gv x he j) λD σ H Q ⟨φ,A,ρ,acc,y,S,re,k,N,r,h⟩=>by
   refine tM.go S re (Jv (zN.mp h)) λw A1 f H1 v h1 l o q=>?_;obtain⟨c,n⟩:=l.off k N
   by_cases z:acc.length<qy
   ·rw[aa z]at h1
    have g:=r.length;refine⟨y,c,?_,?_⟩
    ·rw[<- g]
     have:sizeLine=16777216:=sizeLine_eq
     unfold qy at z;omega
    ·exact h1 f _ σ _ (l.toD.trans (jn.upd c)) n (o.off c n) ⟨re.len,λi w e=>let ⟨v,a,b⟩:=re.get i w e;⟨v,a,(b.mono l).monoD (jn.upd c)⟩⟩ qM
      (((r.mono l).monoD (jn.upd c)).append (.one (q.monoD (jn.upd c))))
   ·rw[af z]at h1;exact h1.elim
def JV (h:zo X xr e m):gN X xr e (kJ m):=by
 try simp only[zQ]at*
 exact PE.imp h λσ H Q ⟨φ,A,ρ,S,re,h⟩=>by
  refine tM.go S re (zN.mp h) λw A1 b H1 v h1 l s q=>?_;cases e:zV w A1 with
  |none=>rw[e]at h1;exact h1.elim|some ws=>
   rw[e]at h1;obtain⟨a,y,rfl,c,E⟩:=YQ s q e;exact h1 b H1 a y l s c E
def ML {q:jy}(h:gL X xr e q):gN X xr e q:=by
 try simp only[zQ]at*
 exact PE.imp h λσ H Q ⟨φ,A,ρ,S,re,h⟩=>
  ⟨φ,A,ρ,S,re,ql h (λws A1 h1 a H1 D y l s h0 b n r=>h1 a H1 D y l s (.inl (qT.of b)) r) λ_ _ z=>z⟩
def Pl (i:Nat){pos':Pos}(f:X.N.Nodup)(he:zo X xr e m)(d:X.N[i]? =some x:=by rfl)(c:Loc X.env.scope x:=by first|exact Or.inl rfl|exact Or.inr rfl)
  (hf:X.fn x=true∨X.env.scope.names.lookup x=some .local:=by first|exact .inl rfl|exact .inr rfl):yk X xr (.AugAssign (.Name x pos') .Add e pos) (Qa i m):=by
 try simp only[zQ]at*
 exact PS.imp (OY f d c he Oy hf) λD σ H ⟨φ,A,ρ,S,re,h⟩=>by
   unfold Qa at h;cases E:ρ[i]? with
   |none=>rw[E]at h;exact h.elim|some o=>cases o with
    |none=>rw[E]at h;exact h.elim|some w=>cases w with
     |int x=>
      rw[E]at h;dsimp only at h;obtain⟨v,h1,g⟩:=re.get i _ E;obtain rfl:=g;refine⟨_,h1,?_⟩;refine tM.go S re (zN.mp h) λw A1 a H1 v b l s q=>?_;cases w with
      |int y=>
       obtain rfl:=q;exact⟨x,y,rfl,rfl,b a H1 _ l s ((re.mono l).set (w:=.int (x+y)) rfl)⟩
      |_=>exact b.elim
     |_=>rw[E]at h;exact h.elim
def zq (h1:yk X xr st m1)(c:yu X xr rest m2):yu X xr (st::rest) (zm m1 m2):=by
 try simp only[zQ]at*
 exact jL.imp (TH h1 c) λD σ H ⟨φ,A,ρ,S,re,h⟩=>by
   refine⟨φ,A,ρ,S,re,ql (zN.mp h) (λf A1 h1=>?_) λ_ _ z=>z⟩;cases f with
   |nx ρ1=>exactλa d b l s r=>⟨a,A1,ρ1,s,r,ql h1 (λ_ _ z=>z.mono l) λ_ _ z=>z.mono l⟩|rt w=>exact h1|bk ρ1=>exact h1|ct ρ1=>exact h1
def kU (he:zo X xr e m)(s:swapsWith e none pos.line X.env=pure false:=by rfl):yk X xr (.Expr e pos) (jd m):=by
 try simp only[zQ]at*
 exact PS.imp (PH he s) λD σ H ⟨φ,A,ρ,S,re,h⟩=>tM.go S re (zN.mp h) λw A1 a H1 v h1 l b q=>h1 a H1 σ l b (re.mono l)
def kD {iter:Expr}{body:bF}{mi:Ei}{tw:Tg}(hp:PassesOwn (model X.prog X.w) X.A X.env X.xe)(hc:X.calm=true)(hi:kq X xr tg iter mi)(hg:kj X tg tw)(hb:yu X xr body m1)
  (hs:∀x,foldedSetIterable iter X.env x=pure x:=by intro _;rfl):yk X xr (.For tg iter body [] pos) (jQ mi tw m1):=by
 try simp only[zQ]at*
 exact PS.imp (OQ hp hc hi hg hb hs) λD σ H ⟨φ,A,ρ,S,re,h⟩=>by
   refine⟨φ,A,ρ,S,re,ql (zN.mp h) (λj A1 h1 g H1 J N S1 jr=>?_) λ_ _ z=>z⟩;refine⟨λi f d C=>Vy X.K xr j (turn tw m1) D g H1 f i d C,
    ⟨j.len,g,A1,ρ,.refl,S1,re.mono N,ql h1 (λ_ _ z=>z.mono N) λ_ _ z=>z.mono N⟩,?_⟩
   rintro i f I U ⟨c,A2,p,t,T,q,b⟩
   obtain⟨j1,j2⟩:=jr i c U A2 ⟨t.ex,t.tp,t.fz⟩ T;cases E:j.at_ A2 i with
   |none=>cases f<;>(unfold jj at b;rw[E]at b;exact b.elim)|some o=>
    cases o with
    |none=>
     left
     refine⟨j2 E,?_⟩;cases f<;>(unfold jj at b;rw[E]at b;exact b c U I .refl T q)
    |some w=>
     right
     obtain⟨go,yl⟩:=j1 w E;cases f with
     |zero=>unfold jj at b;rw[E]at b;exact b.elim|succ f=>
      unfold jj at b;rw[E]at b;refine⟨go,λd C=>Vy X.K xr j (turn tw m1) D g H1 f (i+1) d C,λd C z=>⟨f,bb _,z⟩,λx H3 y=>?_⟩;obtain⟨L,Q,q3⟩:=yl x H3 y;have u:=zN.mp b;unfold turn at u;cases P:tw w p with
      |none=>rw[P]at u;exact u.elim|some n=>
       rw[P]at u;refine⟨c,A2,p,w,n,Q,q.mono L,q3,P,λZ M=>?_⟩;refine⟨c,A2,n,Q,M,ql u (λfl Y B=>?_) λ_ _ z=>z.mono L⟩;cases fl with
       |nx e=>exactλa v k l s r=>⟨a,Y,e,(t.trans L).trans l,s,r,ql B (λ_ _ z=>z.mono (L.trans l)) λ_ _ z=>z.mono (L.trans l)⟩|ct e=>exactλa v k l s r=>⟨a,Y,e,(t.trans L).trans l,s,r,ql B (λ_ _ z=>z.mono (L.trans l)) λ_ _ z=>z.mono (L.trans l)⟩|bk e=>exactλa v k l s r=>B a v k (L.trans l) s r|rt w4=>exactλa v v4 l s q4=>B a v v4 (L.trans l) s q4
def yd {sa s:bF}(d:jT X xr c mc)(f:yu X xr sa m1)(e:yu X xr s m2):yk X xr (.If c sa s pos) (qG mc m1 m2):=by
 try simp only[zQ]at*
 exact PS.imp (N8 d f e) λD σ H ⟨φ,A,ρ,S,re,h⟩=>by
   refine tT.go S re (zN.mp h) λw A1 h1=>?_;cases w with
   |bl k=>
    refine⟨k,rfl,λa H1 l b=>?_⟩;cases k with
    |true=>rw[aa rfl];exact⟨a,A1,ρ,b,re.mono l,ql h1 (λ_ _ z=>z.mono l) λ_ _ z=>z.mono l⟩|false=>rw[af ar];exact⟨a,A1,ρ,b,re.mono l,ql h1 (λ_ _ z=>z.mono l) λ_ _ z=>z.mono l⟩
   |non=>cases h1|int _=>cases h1|str _=>cases h1|tup _=>cases h1|ref _=>cases h1|clo _ _ _=>cases h1|xc _=>cases h1
def zU:yu X xr [] zB:=by
 try simp only[zQ]at*
 exact jL.imp RX λD σ H ⟨φ,A,ρ,S,re,h⟩=>h φ H σ .refl S re
def jf (he:zo X xr e m):yk X xr (.Return (some e) pos) (jl m):=by
 try simp only[zQ]at*
 exact PS.imp (O7 he) λD σ H ⟨φ,A,ρ,S,re,h⟩=>tM.go S re (zN.mp h) λw A1 a H1 v h1 l s q=>h1 a H1 v l s q
def qv (i:Nat){pos':Pos}(b:X.N.Nodup)(he:zo X xr e m)(a:X.N[i]? =some x:=by rfl)(h:Loc X.env.scope x:=by first|exact Or.inl rfl|exact Or.inr rfl)(H:swapsWith e (some (.Name x pos')) pos.line X.env=pure false:=by rfl)
  (hf:X.fn x=true∨X.env.scope.names.lookup x=some .local:=by first|exact .inl rfl|exact .inr rfl):yk X xr (.Assign [.Name x pos'] e pos) (zE i m):=by
 try simp only[zQ]at*
 exact PS.imp (Ow b a h he H hf) zE.read
def Qo (h:kN X xr e m):jT X xr e m:=by
 try simp only[zQ]at*
 exact PW.pt h
def jZ {g:W->W->Hx->R W}(h:yK X op g)(c:zo X xr a ma)(H:zo X xr b mb)(h1:op≠.In:=by decide)(d:op≠.NotIn:=by decide):jT X xr (.Compare a [op] [b] pos) (zh g ma mb):=by
 try simp only[zQ]at*
 exact let ⟨r,a1,a2,A⟩:=h.ex;O9 a1 a2 A c H (h.mks b h1 d)
def OI {o:CmpOp}{g g':W->W->Hx->R W}(h:yK X op g)(h':yK X o g')(e:zo X xr a ma)(d:zo X xr b mb)(H:zo X xr c mc)(hm:lastMarks [op,o] [b,c]=false:=by with_unfolding_all rfl):
  jT X xr (.Compare a [op,o] [b,c] pos) (yc g g' ma mb mc):=by
 try simp only[zQ]at*
 exact let ⟨r,a1,a2,A⟩:=h.ex;let ⟨j,i,f,B⟩:=h'.ex;Sl a1 a2 A i f B e d H hm
def JF (d:jT X xr a ma):jT X xr (.UnaryOp .Not a pos) (kL ma):=by
 try simp only[zQ]at*
 exact PT.imp (Ox d) λσ H Q ⟨φ,A,ρ,S,re,h⟩=>by
   refine tT.go S re (zN.mp h) λw A1 h1=>?_;cases w with
   |bl k=>obtain⟨b,e,q⟩:=h1;cases e;exact⟨k,rfl,λc H1 l s=>q c H1 l s⟩|non=>cases h1|int _=>cases h1|str _=>cases h1|tup _=>cases h1|ref _=>cases h1|clo _ _ _=>cases h1|xc _=>cases h1
def gW (h:zo X xr e m)(he:∀whole,isTrue e X.env whole=(do let v <- whole;standAt e.pos;holding [v] (truthy v)):=by intro _;rfl):jT X xr e m:=by
 try simp only[zQ]at*
 exact PT.imp (OL h he) λσ H Q h=>h.toM
def Jr:gD X [] (zt (.bl true)):=by
 try simp only[zQ]at*
 exact Mi.G9
def Sh (h:jT X j3 c mc):gD X [c] mc:=by
 try simp only[zQ]at*
 exact Sf h
def ZK {rest:bx}(f:jT X xr a ma)(d:kN X xr (.BoolOp .And (b::rest) pos) mb):kN X xr (.BoolOp .And (a::b::rest) pos) (qJ ma mb):=by
 try simp only[zQ]at*
 exact PW.imp (pw_and f d) λσ H Q ⟨φ,A,ρ,S,re,h⟩=>by
   refine tT.go S re (zN.mp h) λw A1 h1=>?_;cases w with
   |bl k=>
    refine⟨k,rfl,λc H1 l s=>?_⟩;cases k with
    |true=>rw[aa rfl];exact tT.mono s l re h1|false=>rw[af ar];obtain⟨b,e,q⟩:=h1;cases e;exact q c H1 l s
   |non=>cases h1|int _=>cases h1|str _=>cases h1|tup _=>cases h1|ref _=>cases h1|clo _ _ _=>cases h1|xc _=>cases h1
def Jq (h:jT X xr a ma):kN X xr (.BoolOp .And [a] pos) ma:=by
 try simp only[zQ]at*
 exact pw_and1 h
def Ng {rest:bx}(f:jT X xr a ma)(d:kN X xr (.BoolOp .Or (b::rest) pos) mb):kN X xr (.BoolOp .Or (a::b::rest) pos) (Vv ma mb):=by
 try simp only[zQ]at*
 exact PW.imp (pw_or f d) λσ H Q ⟨φ,A,ρ,S,re,h⟩=>by
   refine tT.go S re (zN.mp h) λw A1 h1=>?_;cases w with
   |bl k=>
    refine⟨k,rfl,λc H1 l s=>?_⟩;cases k with
    |false=>rw[af ar];exact tT.mono s l re h1|true=>rw[aa rfl];obtain⟨b,e,q⟩:=h1;cases e;exact q c H1 l s
   |non=>cases h1|int _=>cases h1|str _=>cases h1|tup _=>cases h1|ref _=>cases h1|clo _ _ _=>cases h1|xc _=>cases h1
def Pu (h:jT X xr a ma):kN X xr (.BoolOp .Or [a] pos) ma:=by
 try simp only[zQ]at*
 exact pw_or1 h
def kM {K:Frag}{st:Stmt}{m:Ex}(F:yJ K x x st f fd)(hm:mg x=some (.ref f))(S:jx N ps (qA st))
  (i:∀(kV doc pm:Value)(an:bE)(c ct:Value)(us:bj),us.length=ps.length->bindArgs (fnOf x x (gj st) (jX st) (qA st) .none kV doc pm an c ct) ⟨us,[]⟩=pure (ps.zip us))
  (a:∀(c:Value)(A:Around)(outer:bA)(s:Shared)(H:Hp)(E:XK),qE k (A.deeper (envOfC x (qA st) s.heap.objs.size f c))->yu (yN kg P w K mg base N x (qA st) f c A outer s H E).nox j3 (jX st) m):
  qe P w K mg base (k+1) x ps.length (jG N.length m):=by
 try simp only[zQ]at*
 refine⟨f,fd,ps,?_,hm,F.kp,F.binds i⟩;refine F.ok S (λv H Q E h=>h.len) λc A outer s H v Q E g ⟨q,φ,A1,ws,n,r,h⟩=>⟨_,a c A outer s H E g,?_⟩;refine⟨φ,A1,ws.map some++List.replicate (N.length-ws.length) none,n,RE.start r,?_⟩;have h':=zN.mp h;show R.post _ (FB K φ H _) _;cases e:m (ws.map some++List.replicate (N.length-ws.length) none) A1 with
 |ok j A2=>
  rw[e]at h';cases j with
  |rt w=>exact h'|nx ρ=>exactλb p d l o _=>h' b p .non l o rfl|bk ρ=>exact h'.elim|ct ρ=>exact h'.elim
 |exc y A2=>
  rw[e]at h';exact h'.elim
 |bad=>rw[e]at h';exact h'.elim
def Pg (hm:X.mg "abs"=none)(a:zo X xr e m)(h:Gl X "abs":=by rfl)(he:starEach [e] X.env=(false,eval e X.env)::starEach [] X.env:=by rfl):zo X xr (.Call (.Name "abs" p) [e] [] pos) (jg Z4 m):=by
 try simp only[zQ]at*
 exact MC SU (λw A=>by unfold Z4;split;exact jF;exact qC) (λφ A H x u Q S q p=>by
   cases u with
   |int i=>obtain rfl:=q;exact⟨i,rfl,p φ H _ .refl S rfl⟩|_=>exact p.elim) hm (by rfl) a h (by decide) (by decide) he (by rfl)
def Jl {apos c:Pos}(k:zo X xr a ma)(he:zo X xr b mb)(j:starEach [b] X.env=(false,eval b X.env)::starEach [] X.env:=by rfl)
  (e:attributeBase a "append" X.env (eval a X.env)=eval a X.env:=by rfl)
  (w:((backTo c (starEach [b] X.env)).all (λx=>!x.1)&&(backToKw c (keywordEach [] X.env)).all (λx=>x.1.isSome)
   && decide ([b].length+([]:bD).length+(if ([]:bD).isEmpty then 0 else 1)<30))=true:=by rfl)(h:(apos.endLine==c.line)=true:=by rfl):
  zo X xr (.Call (.Attribute a "append" apos) [b] [] c) (qU jW ma mb):=by
 try simp only[zQ]at*
 exact KO PySem.F.slot_list_append PySem.F.type_list_append Gk UW (λφ A H x y u v Q S i q p=>by
   unfold jW at p;cases u with
   |ref n=>
    dsimp only at p;cases E:A[n]? with
    |none=>rw[E]at p;exact p.elim|some o=>cases o with
     |lst ws=>
      rw[E]at p;dsimp only at p
      by_cases d:ws.length<qy
      ·rw[aa d]at p
       obtain⟨l,s,rfl,f1,g1,r⟩:=S.lst i E;refine⟨l,s,y,rfl,rfl,g1,?_,?_⟩
       ·rw[<- r.length]
        have:sizeLine=16777216:=sizeLine_eq
        unfold qy at d;omega
       ·have ln:Le X.K φ H φ (upd H l (.lst (s++[y]))):=Le.upd f1 (λxs z=>by rw[g1]at z;cases z) (λ_ _ z=>by rw[g1]at z;cases z)
        obtain⟨g,f⟩:=S.write (o:=.lst ws) (o':=.lst (ws++[v])) E rfl rfl f1 ⟨_,qM,(r.mono ln).append (.one (q.mono ln))⟩;exact p _ _ _ g f rfl
      ·rw[af d]at p;exact p.elim
     |_=>rw[E]at p;exact p.elim
   |_=>exact p.elim) k he j e w h
def U6 (hm:X.mg "int"=none)(a:zo X xr e m)(h:Gl X "int":=by rfl)(he:starEach [e] X.env=(false,eval e X.env)::starEach [] X.env:=by rfl):zo X xr (.Call (.Name "int" p) [e] [] pos) (jg QU m):=by
 try simp only[zQ]at*
 exact Nx UT (λw A=>by unfold QU;split;exact jF;exact jF;exact qC) (λφ A H x u Q S q p=>by
   cases u with
   |int i=>obtain rfl:=q;exact .inl ⟨i,rfl,p φ H _ .refl S rfl⟩|bl k=>obtain rfl:=q;exact .inr ⟨k,rfl,p φ H _ .refl S rfl⟩|_=>exact p.elim) hm (by rfl) a h (by decide) (by decide) he (by rfl)
def TR (e:X.calm=true)(hm:X.mg "max"=none)(n:zo X xr a ma)(k:zo X xr b mb)(l:Gl X "max":=by rfl)(h1:starEach [a,b] X.env=(false,eval a X.env)::starEach [b] X.env:=by rfl)(o:starEach [b] X.env=(false,eval b X.env)::starEach [] X.env:=by rfl)(h:(backTo pos (starEach [b] X.env)).any (·.1)=false:=by rfl):
  zo X xr (.Call (.Name "max" p) [a,b] [] pos) (zh KS ma mb):=by
 try simp only[zQ]at*
 exact X2 (UU e) g8 (λφ A H x y u v Q S d c p=>by
   obtain⟨i,j,r,E,q⟩:=gX (K:=X.K) (f:=λi j=>.int (if j > i then j else i)) (g:=λi j=>.int (if j > i then j else i)) (λ_ _ _ _=>rfl) φ A H x y u v Q S d c p;subst r;subst E;exact⟨i,j,rfl,q⟩) hm (by rfl) n k l (by decide) (by decide) h1 o h
def Y8 (H:zo X xr a ma)(h:zo X xr b mb):zo X xr (.BinOp a .Pow b pos) (zh Zk ma mb):=by
 try simp only[zQ]at*
 exact gZ O1 KQ (Kq Ru λ_ _ _ _=>rfl) H h
def Qw {x j}:zo X xr (.Constant (.str x) j pos) (zt (.str x)):=by
 try simp only[zQ]at*
 exact PE.imp OK λσ H Q ⟨φ,A,ρ,S,r,h⟩=>h φ H _ .refl S rfl
def G3 {o i:Expr}{mo mi:Ev}{t:Pos}(he:zo X xr e m)(H:zo X xr o mo)(a:zo X xr i mi)
  (h:swapsWithSole [.Subscript o i t] e pos.line X.env=pure false:=by rfl)(hw:swappedStores [.Subscript o i t] e X.env=pure none:=by rfl)
  (h1:(assignEach [.Subscript o i t] X.env).map (·.2)=[assign (.Subscript o i t) X.env]:=by rfl)
  (b:∀v,assign (.Subscript o i t) X.env v=(do
   let ov <- holding [v] (eval o X.env)
   let iv <- holding [v,ov] (eval i X.env)
   standAt t
   holding [v,ov,iv] (setItem ov iv v)
   release [v,ov,iv] []):=by intro _;rfl):yk X xr (.Assign [.Subscript o i t] e pos) (kX Zo m mo mi):=by
 try simp only[zQ]at*
 exact Gy set_list P0 Pz he H a h hw h1 b
end
end Mi
variable {ρ:Mi.En}{A A1:Mi.Hx}{kvs:List (List Int×Mi.W)}{ws:List Mi.W}{g:Mi.W->Mi.W->Mi.Hx->Mi.R Mi.W}{xr:Mi.XR}
set_option maxHeartbeats 4000000
namespace Mi
open PySem L2
section
variable {ρ1:En}{A2:Hx}{w x y:W}{m ma mb mc:Ev}{m1 m2:Ex}{f:Fn}
def zw (h:ρ[i]? =some (some w)):zW i ρ A=.ok w A:=by unfold zW;rw[h]
def qx:zt w ρ A=.ok w A:=rfl
def zL (h1:ma ρ A=.ok x A1)(h:mb ρ A1=.ok y A2):zh g ma mb ρ A=g x y A2:=by unfold zh;rw[h1,zO,h,zO]
def JO {g:W->Hx->R W}(h1:ma ρ A=.ok x A1):jg g ma ρ A=g x A1:=by unfold jg;rw[h1,zO]
def Kj {k:Bool}(h:ma ρ A=.ok (.bl k) A1):kL ma ρ A=.ok (.bl (!k)) A1:=by unfold kL;rw[h,zO]
def yf (h:ma ρ A=.ok (.bl true) A1):qJ ma mb ρ A=mb ρ A1:=by unfold qJ;rw[h,zO]
def gY (h:ma ρ A=.ok (.bl false) A1):qJ ma mb ρ A=.ok (.bl false) A1:=by unfold qJ;rw[h,zO]
def MR (h:mc ρ A=.ok (.bl true) A1):Zu mc ma mb ρ A=ma ρ A1:=by unfold Zu;rw[h,zO]
def Mx (h:mc ρ A=.ok (.bl false) A1):Zu mc ma mb ρ A=mb ρ A1:=by unfold Zu;rw[h,zO]
def qQ {a:Ea}(h:a ρ A=.ok ws A1):zF f a ρ A=f ws A1:=by unfold zF;rw[h,zO]
def jN:zl ρ A=.ok [] A:=rfl
def qp {r:Ea}(h1:ma ρ A=.ok x A1)(h:r ρ A1=.ok ws A2):zc ma r ρ A=.ok (x::ws) A2:=by unfold zc;rw[h1,zO,h,zO]
def gi {a:Ea}(h:a ρ A=.ok ws A1):zR a ρ A=.ok (.tup ws) A1:=by unfold zR;rw[h,zO]
def kA {a:Ea}(h:a ρ A=.ok ws A1):qa a ρ A=.ok (.ref A1.length) (A1++[.lst ws]):=by unfold qa;rw[h,zO]
def zK (h:m1 ρ A=.ok (.nx ρ1) A1):zm m1 m2 ρ A=m2 ρ1 A1:=by unfold zm;rw[h,zO]
def jO (h:m1 ρ A=.ok (.rt w) A1):zm m1 m2 ρ A=.ok (.rt w) A1:=by unfold zm;rw[h,zO]
def jH:zB ρ A=.ok (.nx ρ) A:=rfl
def qH (h:m ρ A=.ok w A1):zE i m ρ A=.ok (.nx (ρ.set i (some w))) A1:=by unfold zE;rw[h,zO]
def JG (h:m ρ A=.ok w A1):jd m ρ A=.ok (.nx ρ) A1:=by unfold jd;rw[h,zO]
def yy (h:m ρ A=.ok w A1):jl m ρ A=.ok (.rt w) A1:=by unfold jl;rw[h,zO]
def Zb (h:mc ρ A=.ok (.bl true) A1):qG mc m1 m2 ρ A=m1 ρ A1:=by unfold qG;rw[h,zO]
def yF (h:mc ρ A=.ok (.bl false) A1):qG mc m1 m2 ρ A=m2 ρ A1:=by unfold qG;rw[h,zO]
def kC {mi:Ei}{tw:Tg}{j:jA}(h:mi ρ A=.ok j A1):jQ mi tw m1 ρ A=jj j (turn tw m1) j.len 0 ρ A1:=by unfold jQ;rw[h,zO]
def kz {tw:Tg}(h:tw w ρ=some ρ1):turn tw m1 w ρ A=m1 ρ1 A:=by unfold turn;rw[h]
def Ql {j:jA}{st:W->Ex}(h:j.at_ A i=some none):jj j st n i ρ A=.ok (.nx ρ) A:=by
 cases n with
 |zero=>unfold jj;rw[h]|succ n=>unfold jj;rw[h]
def Qv {j:jA}{st:W->Ex}(h:j.at_ A i=some (some w))(H:st w ρ A=.ok (.nx ρ1) A1):jj j st (n+1) i ρ A=jj j st n (i+1) ρ1 A1:=by
 rw[jj,h];dsimp only;rw[H,zO]
def wG {k:Int}(h:m ρ A=.ok (.int k) A1)(H:yz k=true):jh m ρ A=.ok (jE 0 k.toNat) A1:=by unfold jh;rw[h,zO];dsimp only;rw[aa H]
def wL {lo:Int}(h:i<k):(jE lo k).at_ A i=some (some (.int (lo+i))):=by unfold jE;dsimp only;rw[aa h]
def wJ {lo:Int}(h:¬i<k):(jE lo k).at_ A i=some none:=by unfold jE;dsimp only;rw[af h]
def yB (h:m1 (ws.map some++List.replicate (n-ws.length) none) A=.ok (.rt w) A1):jG n m1 ws A=.ok w A1:=by unfold jG;rw[h];rfl
def gw {w:W}(hn:jb ws=true)(hw:w.nr=true)(h:f ws []=.ok w A1):iso f ws A=.ok w A:=by
 unfold iso;rw[aa hn,h];cases w with
 |ref k=>cases hw|_=>dsimp only;rw[aa hw]
end
end Mi
set_option maxHeartbeats 4000000
namespace Mi
open PySem L2
def Ss {j:jA}{ifs me:Ev}{c:En}{N:Nat}{item g:Nat->W}{keep:Nat->Bool}(t:∀i,i<N->j.at_ A i=some (some (item i)))(d:j.at_ A N=some none)
  (a:∀i,i<N->ifs (some (item i)::c) A=.ok (.bl (keep i)) A)(he:∀i,i<N->keep i=true->me (some (item i)::c) A=.ok (g i) A):
  ∀(n i:Nat)(x:Option W)(acc:List W),i+n=N->acc.length+n<=qy->∃y,qS j (qh 0) ifs (qX me) n i (x::c) acc A=.ok (y::c,acc++((List.range' i n).filter keep).map g) A:=by
 intro n
 induction n with
 |zero=>
  intro i x acc h _
  have:i=N:=by omega
  subst this;refine⟨x,?_⟩;unfold qS;rw[d];simp
 |succ n I=>
  intro i x acc h l;have H:i<N:=by omega
  rw[qS,t i H];dsimp only[qh,List.set];rw[a i H,zO];rw[List.range'_succ];cases k:keep i with
  |true=>
   dsimp only;obtain⟨y,e⟩:=I (i+1) (some (item i)) (acc++[g i]) (by omega) (by rw[aH,List.length_singleton];omega)
   refine⟨y,?_⟩;have E:qX me (some (item i)::c) acc A=.ok (some (item i)::c,acc++[g i]) A:=by
    unfold qX;rw[he i H k,zO,aa (by omega)]
   rw[E,zO];dsimp only;rw[e,List.filter_cons_of_pos k,aM,append_assoc]
   rfl
  |false=>
   dsimp only;obtain⟨y,e⟩:=I (i+1) (some (item i)) acc (by omega) (by omega)
   exact⟨y,by rw[e,List.filter_cons_of_neg (by rw[k];exact ar)]⟩
def UK {mi:Ei}{j:jA}{ifs me:Ev}{N:Nat}{item g:Nat->W}{keep:Nat->Bool}(hm:mi ρ A=.ok j A)(a:j.len=N)(d:N<=qy)
  (H:∀i,i<N->j.at_ A i=some (some (item i)))(h:j.at_ A N=some none)(b:∀i,i<N->ifs (some (item i)::cap.map λi=>(ρ[i]?).join) A=.ok (.bl (keep i)) A)
  (he:∀i,i<N->keep i=true->me (some (item i)::cap.map λi=>(ρ[i]?).join) A=.ok (g i) A):
  jI 1 cap mi (qh 0) ifs (qX me) ρ A=.ok (((List.range N).filter keep).map g) A:=by
 obtain⟨y,e⟩:=Ss H h b he N 0 none [] (zero_add N) (by simpa using d)
 unfold jI;rw[hm,zO,a];have c:gA 1 cap ρ=none::cap.map λi=>(ρ[i]?).join:=rfl;rw[c,e,nil_append,<- List.range_eq_range']
 rfl
def W2 {mi:Ei}{j:jA}{me:Ev}{N:Nat}{item g:Nat->W}(hm:mi ρ A=.ok j A)(a:j.len=N)(c:N<=qy)
  (t:∀i,i<N->j.at_ A i=some (some (item i)))(H:j.at_ A N=some none)(he:∀i,i<N->me (some (item i)::cap.map λi=>(ρ[i]?).join) A=.ok (g i) A):
  jI 1 cap mi (qh 0) (zt (.bl true)) (qX me) ρ A=.ok ((List.range N).map g) A:=by
 have h:=UK (ifs:=zt (.bl true)) (keep:=λ_=>true) hm a c t H (λ_ _=>rfl) λi b _=>he i b;have f:(List.range N).filter (λ_=>true)=List.range N:=List.filter_eq_self.mpr λ_ _=>rfl;rw[f]at h;exact h
def X4 {g:List W->Hx->R W}{q:jy}(h:q ρ A=.ok ws A1):mQ g q ρ A=g ws A1:=by unfold mQ;rw[h,zO]
def YX {q:jy}(h:q ρ A=.ok ws A1):jk q ρ A=.ok (.ref A1.length) (A1++[.lst ws]):=by unfold jk;rw[h,zO]
def Xc {m:Ev}{w:W}(h:m ρ A=.ok w A1)(H:zV w A1=some ws):kJ m ρ A=.ok ws A1:=by unfold kJ;rw[h,zO,H]
open PySem PySem.Spec PyProof.Rows L2
inductive LB (H:Hp)(h g:Heap)(e:Addr)(vs:Array Value):Prop
 |mk (T:Addr) (oT:Obj) (ts:Array Value) (h1:vs[1]? =some (.ref T)) (ne:T≠e) (ng:g.get? T=none) (nH:H T=none) (hT:h.get? T=some oT) (hd:oT.data=.fields ts) (h3:ts[3]? =some .none)
inductive yM (H:Hp)(h g:Heap)(e:Addr)(C:Value):Prop
 |mk (ng:g.get? e=none) (nH:H e=none) (oe:Obj) (vs:Array Value) (a0:Value) (he:h.get? e=some oe) (hc:oe.cls=C) (hd:oe.data=.fields vs) (h0:vs[0]? =some a0) (h1:vs[1]? =some .none∨LB H h g e vs)
inductive Tr (h:Heap)(e:Addr):Prop
 |mk (oe:Obj) (vs:Array Value) (T:Addr) (he:h.get? e=some oe) (hd:oe.data=.fields vs) (h1:vs[1]? =some (.ref T))
section
variable {A:Around}{outer:bA}{L e:Addr}{C:Value}{g:Heap}
theorem frames_at {B:Heap}:∀{l:bA},s.heap.FunFrames base l->(∀b∈qc l,B.get? b=none)->s.heap.FunFrames B l
 |[],_,_=>trivial|e::r,⟨k,⟨L,o,hf,hn,a,hd⟩,H⟩,h=>⟨k,⟨L,o,hf,h L (by unfold qc;rw[aT,hf];exact aF ..),a,hd⟩,frames_at H λb c=>h b (by
   unfold qc;rw[aT,hf];exact ay _ c)⟩
def Xk {Q:Unit->Shared->Prop}(w:A.frames=some (env::outer))(hf:env.frame=some L)(D:s.heap.FunFrames base (env::outer))(x:yM H s.heap g e C)
  (tr:∀b u,H b=some u->∃o,s.heap.get? b=some o)(th:∀b o,g.get? b=some o->∃o',s.heap.get? b=some o')
  (hQ:∀h',(∀b o,s.heap.get? b=some o->b∉qc (env::outer)->((∃o',g.get? b=some o')∨∃u,H b=some u)->h'.get? b=some o)->(∀b o,s.heap.get? b=some o->b∈qc (env::outer)->∃sl,h'.get? b=some { o with slots:=sl })->
   yM H h' g e C->Tr h' e->Q () { s with heap:=h' }):wpAny M A (leaving env (.ref e)) Q E s:=by
 obtain⟨J,P,oe,vs,Y,he,X,hd,h0,h1⟩:=x;have fin:∀(d:bo),(∀b∈qc (env::outer),b∈d)->(∀b∈d,b∉qc (env::outer)->g.get? b=none/\H b=none)->∀h',Heap.LeftW (hideAll s.heap d) (env::outer) e C Y s.heap h'->Q () { s with heap:=h' }:=by
  intro d hi1 r h' ⟨st,ff,p,us⟩;refine hQ h' (λb o h nb hx=>?_) (λb o h mb=>?_) ?_ (by obtain⟨i,v,T,B,t,j,_,k,n,_⟩:=p;exact⟨i,v,T,j,k,n⟩)
  ·refine st b o (bc d h λhm=>?_)
   obtain⟨z1,z2⟩:=r b hm nb;rcases hx with ⟨o',q⟩|⟨u,q⟩
   ·rw[z1]at q;cases q
   ·rw[z2]at q;cases q
  ·obtain⟨_,o',a,f⟩:=D.mem mb
   rw[h]at a;cases a;exact us b o h f
  ·obtain⟨i,v,T,B,t,j,⟨K,U⟩,k,n,y,l,hT,c,S⟩:=p
   have nT:T∉qc (env::outer):=λhm=>by
    obtain⟨_,o',a,f⟩:=D.mem hm;obtain⟨sl,z⟩:=us T o' a f;rw[hT]at z;cases z;exact f t c
   have both:g.get? T=none/\H T=none:=by
    cases q:s.heap.get? T with
    |some o=>
     by_cases hm:T∈d
     ·exact r T hm nT
     ·rw[bc d q hm]at y;cases y
    |none=>
     constructor
     ·cases z:g.get? T with
      |none=>rfl|some o=>obtain⟨o',Z⟩:=th T o z;rw[q]at Z;cases Z
     ·cases z:H T with
      |none=>rfl|some u=>obtain⟨o',Z⟩:=tr T u z;rw[q]at Z;cases Z
   exact⟨J,P,i,v,Y,j,K,k,U,.inr ⟨T,B,t,n,l,both.1,both.2,hT,c,S⟩⟩
 have stay:∀d:bo,(hideAll s.heap d).StaysIn s.heap:=λd b o q=>of_hideAll d q;rcases h1 with h1|⟨T,B,t,h1,l,I,N,hT,c,S⟩
 ·have hn:∀b∈e::qc (env::outer),(hideAll s.heap (e::qc (env::outer))).get? b=none:=λb h=>hideAll_none _ h
  refine wpAny_leaving_firstW (base:=hideAll s.heap (e::qc (env::outer))) w (frames_at D λb h=>hn b (ay _ h)) hf he (stay _) (hn e (aF ..)) hd h1 h0 ?_;rw[X];refine fin _ (λb h=>ay _ h) λb h nb=>?_;rcases bL.mp h with rfl|h
  ·exact⟨J,P⟩
  ·exact absurd h nb
 ·have hn:∀b∈e::T::qc (env::outer),(hideAll s.heap (e::T::qc (env::outer))).get? b=none:=λb h=>hideAll_none _ h
  refine wpAny_leaving_nextW (base:=hideAll s.heap (e::T::qc (env::outer))) w (frames_at D λb h=>hn b (ay _ (ay _ h))) hf
   ⟨oe,vs,T,B,t,he,⟨X,h0⟩,hd,h1,hn T (ay _ (aF ..)),l,hT,c,S⟩ (stay _) (hn e (aF ..)) ?_
  refine fin _ (λb h=>ay _ (ay _ h)) λb h nb=>?_;rcases bL.mp h with rfl|h
  ·exact⟨J,P⟩
  ·rcases bL.mp h with rfl|h
   ·exact⟨I,N⟩
   ·exact absurd h nb
end
inductive MX (P:Program)(w:World)(outer:bA)(H:Hp)(s:Shared)(E:XK)(e:Value)(s':Shared):Prop
 |mk (ea C:Addr) (H':Hp) (he:e=.ref ea) (os:s'.os=s.os) (b:AllBare s'.gens) (un:Un (qc outer) [] H H' s.heap s'.heap) (hk:qg P w H' s'.heap) (ly:yM H' s'.heap s.heap ea (.ref C)) (tr:Tr s'.heap ea) (q:E (.ref C) none H')
noncomputable def ko (P:Program)(w:World):kn:=λouter H s E e s'=>MX P w outer H s E e s'
def _root_.L2.qI.obj (x:qI P w H h a o):∃ob,h.get? a=some ob:=by
 cases o with
 |lst xs=>obtain⟨_,_,_,_,e⟩:=x;exact⟨_,e⟩|tup xs=>obtain⟨_,_,_,o,e,_⟩:=x;exact⟨o,e⟩|dK k=>obtain⟨_,_,_,_,o,_,_,e,_⟩:=x;exact⟨o,e⟩|dT k=>obtain⟨_,_,_,_,o,_,_,e,_⟩:=x;exact⟨o,e⟩|set S n=>obtain⟨o,_,_,_,e,_⟩:=x;exact⟨o,e⟩|ins C d fs=>obtain⟨_,_,_,e,_⟩:=x;exact⟨_,e⟩|own y=>exact x|xd fs=>obtain⟨_,⟨o,_,_,e,_⟩,_⟩:=x;exact⟨o,e⟩|rng lo i=>obtain⟨_,_,_,e⟩:=x;exact⟨_,e⟩|frz ob u=>exact⟨ob,x.1⟩|tbl ps=>exact⟨_,(show h.get? a=some _ from x)⟩|met f y=>exact⟨_,(show h.get? a=some _ from x)⟩|ext φ=>exact x.2.1
def Tj {K:Frag}{cd:Value}{A:Around}{outer:bA}{E:XK}
  {h:Hp}{a C:Addr}(I:Inv (yN (ko P w) P w K mg base N qual scope f cd A outer s H E) pins σ h s')(x:yM h s'.heap s.heap a (.ref C))(l:E (.ref C) none h):
  (yN (ko P w) P w K mg base N qual scope f cd A outer s H E).xe (.ref a) s':=by
 have bs:Un (qc outer) [] H h s.heap s'.heap:=I.base;have stk:∀b∈qc (envOfC qual scope s.heap.objs.size f cd::outer),h b=none:=I.stkFree;have k:s.heap.get? s.heap.objs.size=none:=Heap.get?_none_of_le (aA _);have g:(envOfC qual scope s.heap.objs.size f cd).frame=some s.heap.objs.size:=rfl;have mem:∀b,b∈qc (envOfC qual scope s.heap.objs.size f cd::outer)↔b=s.heap.objs.size∨b∈qc outer:=λb=>by
  unfold qc;rw[aT,g];exact mem_cons
 show wpAny (model P w) (A.deeper (envOfC qual scope s.heap.objs.size f cd)) (leaving (envOfC qual scope s.heap.objs.size f cd) (.ref a)) _ _ s';refine Xk (base:=base) (L:=s.heap.objs.size) I.ok.frames rfl I.stack x (λb u e=>(I.hok b u e).obj) (λb o e=>bs.there b o e (by simp)) λh' k1 k2 X t=>?_
 have r:∀b u,h b=some u->b∉qc (envOfC qual scope s.heap.objs.size f cd::outer):=λb u e hm=>by rw[stk b hm]at e;cases e
 refine⟨a,C,h,rfl,I.os,I.bare,⟨λb o e n nb _=>?_,λb o e n mb _=>?_,λb o e n d=>bs.free b o e n d,λb o e d=>?_,bs.tups,bs.frzs,bs.tbls⟩,λb u e=>?_,X,t,l⟩
 ·have i:b≠s.heap.objs.size:=λz=>by rw[z,k]at e;cases e
  exact k1 b o (bs.keep b o e n nb (by simp)) (λhm=>(mem b).mp hm |>.elim i nb) (.inl ⟨o,e⟩)
 ·obtain⟨sl,q⟩:=bs.slot b o e n mb (by simp)
  obtain⟨S,Q⟩:=k2 b _ q ((mem b).mpr (.inr mb));exact⟨S,Q⟩
 ·obtain⟨o',q⟩:=bs.there b o e d
  by_cases hm:b∈qc (envOfC qual scope s.heap.objs.size f cd::outer)
  ·obtain⟨sl,z⟩:=k2 b o' q hm;exact⟨_,z⟩
  ·exact⟨o',k1 b o' q hm (.inl ⟨o,e⟩)⟩
 ·refine(I.hok b u e).stay (λc v j q=>?_) (λ_ q=>q) λ_ _ q=>q
  rcases j with z|z
  ·rw[z]at q ⊢;exact k1 b v q (r b u e) (.inr ⟨u,e⟩)
  ·exact k1 c v q (r c _ z) (.inr ⟨_,z⟩)
def W4 {E:XK}{e:Value}(I:Inv X pins σ H s)(h:ko X.prog X.w X.stack H s E e s')(g:Heap)(p:∀b o,g.get? b=some o->∃o',s.heap.get? b=some o'):
  ∃a C c,e=.ref a/\Inv X pins σ c s'/\yM c s'.heap g a (.ref C)/\Tr s'.heap a/\E (.ref C) none c:=by
 obtain⟨a,C,c,rfl,os,bare,un,hok,x,tr,r⟩:=h;obtain⟨l,u,d,t,f⟩:=s';obtain rfl:f=s.os:=os;refine⟨a,C,c,rfl,I.call (h':=l) (g':=u) (d':=d) (t':=t) (ch:=[]) un hok bare (λb z=>absurd z (by simp)),?_,tr,r⟩
 have up:∀b,s.heap.get? b=none->g.get? b=none:=λb n=>by
  cases z:g.get? b with
  |none=>rfl|some o=>obtain⟨o',q⟩:=p b o z;rw[n]at q;cases q
 obtain⟨a1,a2,j,v,U,S,Q,P,N,B⟩:=x;refine⟨up a a1,a2,j,v,U,S,Q,P,N,?_⟩;rcases B with B|⟨T,k,i,M,L,K,J,D,A,y⟩
 ·exact .inl B
 ·exact .inr ⟨T,k,i,M,L,up T K,J,D,A,y⟩
noncomputable def kQ (K:Frag)(E:XK):XR:=λx H=>∀C:Addr,jP K x (.ref C)->E (.ref C) none H
inductive Yh (K:Frag)(n:Nat)(f:Fn)(vs:List V)(H:Hp)(Q:VK)(E:XK):Prop
 |mk (len:vs.length=n) (φ:bo) (A:Hx) (ws:List W) (S:zr K φ A H) (r:zx K φ H ws vs) (q:(f ws A).post (PB K φ H Q) (EB K φ H (kQ K E)))
def Yh.len {K:Frag}{f:Fn}{Q:VK}{E:XK}(h:Yh K n f vs H Q E):vs.length=n:=by cases h;assumption
inductive j5 (P:Program)(w:World)(K:Frag)(mg:bz)(base:Heap)(k:Nat)(x:Str)(n:Nat)(f:Fn):Prop
 |mk (fa:Addr) (fd:FuncData) (ps:bt) (F:jJ P w K mg base (ko P w) k fa fd ps (Yh K n f)) (at_:mg x=some (.ref fa)) (kp:keepIn K (.ref fa)=true) (bi:Binds K fd ps [])
structure kG (X:Cx)(g:Heap)(xr:XR):Prop where
 th:∀pins σ H s,Inv X pins σ H s->∀b o,g.get? b=some o->∃o',s.heap.get? b=some o'
 out:∀pins σ H s ea C x,Inv X pins σ H s->yM H s.heap g ea (.ref C)->jP X.K x (.ref C)->xr x H->X.xe (.ref ea) s
def LD {K:Frag}{cd:Value}{A:Around}{outer:bA}{E:XK}:
  kG (yN (ko P w) P w K mg base N qual scope f cd A outer s H E) s.heap (kQ K E) where
 th:=λpins σ h s' I b o e=>(show Un (qc outer) [] H h s.heap s'.heap from I.base).there b o e (by simp)
 out:=λpins σ h s' d C x I l c a=>Tj I l (a C c)
section
variable {g:Heap}{c:Expr}
noncomputable def LO (K:Frag)(X:XR):XK:=λc _ H=>∃x C,c=.ref C/\jP K x (.ref C)/\X x H
def kG.passes (x:kG X g xr):Passes (ko X.prog X.w) X (LO X.K xr):=λpins σ H s e s' I h=>by
 obtain⟨b,C,d,rfl,i,l,_,nm,f,E,c,a⟩:=W4 I h g (x.th pins σ H s I);cases E;exact x.out pins σ d s' b C nm i l c a
end
noncomputable def wd (n:Nat)(m:Ex):Fn:=λws A=>(m (ws.map some++List.replicate (n-ws.length) none) A).bind λf A1=>match f with
 |.rt w=>.ok w A1|.nx _=>.ok .non A1|_=>.bad
inductive KH (C:Addr)(bmB:bj)(newId:String)(h:Heap):Prop
 |mk (tl N nm q bs hdct sn sub ab col dd k0 k1 k2 k3 k5 mN:_) (obj:h.get? C=some (excClassObj nm q C N bs tl hdct sn sub ab col dd k0 k1 k2 k3 k5 newId)) (ns:h.Ns N mN) (init:mN "__init__"=none) (tail:OwnTail h bmB tl)
noncomputable def Lk (d:Data):Option { c:ClassData // d=.cls c }:=match d with
 |.cls c=>some ⟨c,rfl⟩|_=>none
def kK (K:Frag)(C:Addr)(b:bj)(newId:String):Bool:=(K.lookup C).any λo=>(Lk o.data).any λc=>
 o.cls==.type "type" && c.1.mro==.ref C::c.1.mro.tail&&o.slots.toList==[o.slots.toList.getD 0 none,o.slots.toList.getD 1 none,o.slots.toList.getD 2 none,o.slots.toList.getD 3 none,some (.builtin newId),o.slots.toList.getD 5 none]
  && c.1.hasDel==false&&PySem.W.tailIn K b c.1.mro.tail&&PySem.W.nsOkIn K c.1.ns&&nsIn K c.1.ns "__init__" == some none
def KL {K:Frag}{C:Addr}{b:bj}{newId:String}(X:K.In h)(q:kK K C b newId=true):KH C b newId h:=by
 obtain⟨⟨o,dd,dat,⟨sl⟩⟩,H,q⟩:=(any_eq_true _ _).mp q;obtain⟨⟨⟨nm,bs,mro,ns,Q,hd,sn,sub,ab,col,del⟩,i⟩,-,q⟩:=(any_eq_true _ _).mp q;simp only[ai,aD]at q;obtain⟨⟨⟨⟨⟨⟨g,f⟩,d⟩,c⟩,a⟩,e⟩,E⟩:=q;cases i;cases g;cases c;exact⟨mro.tail,ns,nm,Q,bs,hd,sn,sub,ab,col,dd,_,_,_,_,_,_,X _ _ (by rw[H,f,d];rfl),.of_isNs (PySem.W.isNs_of_in X e),PySem.W.nsMap_none_of_in X e E,PySem.W.tail_of_in X a⟩
noncomputable def JI (x:Str)(M:Ea):Ex:=λρ A=>(M ρ A).bind λ_ A1=>.exc x A1
section
variable {g:Heap}{mr:Ea}{np cpos:Pos}{C:Addr}{B newId initId:String}{bmB:bj}
def PD {h':Heap}{e:Addr}{a:bj}(x:kG X g xr)(I:Inv X pins σ H s)(m:Heap.MadeExcOf s.heap h' e (.ref C) a):
  Inv X pins σ H { s with heap:=h' }/\yM H h' g e (.ref C):=by
 have N:∀b,s.heap.get? b=none->H b=none:=λb z=>by
  cases q:H b with
  |none=>rfl|some u=>obtain⟨o,k⟩:=(I.hok b u q).obj;rw[z]at k;cases k
 have n:∀b,s.heap.get? b=none->g.get? b=none:=λb z=>by
  cases q:g.get? b with
  |none=>rfl|some o=>obtain⟨o',k⟩:=x.th pins σ H s I b o q;rw[z]at k;cases k
 obtain⟨t,he,d,h⟩:=m.there;refine⟨I.call' (s':={ s with heap:=h' }) (ch:=[]) rfl ⟨λb o q _ _ _=>m.keeps b o q,λb o q _ _ _=>⟨o.slots,m.keeps b o q⟩,λb o q z _=>z,λb o q _=>⟨o,m.keeps b o q⟩,λ_ _ q=>q,λ_ _ _ q=>q,λb ps q=>⟨#[],by rw[Array.append_empty];exact q⟩⟩
  (λb u q=>(I.hok b u q).stay (λc v _ z=>m.keeps c v z) (λ_ z=>z) λ_ _ z=>z) I.bare (λb z=>absurd z (by simp)),?_⟩
 exact⟨n e m.new,N e m.new,_,_,_,he,rfl,rfl,rfl,.inl rfl⟩
def T7 (o:kG X g xr)(f:jP X.K x (.ref C))(ex:kK X.K C bmB newId=true)(FB:ExcBaseFacts B newId initId bmB)(z:SA X xr (e::es) mr)(u:wR mr n)(hn:n<=sizeLine:=by decide)(w:Gl X x:=by rfl)(a:X.calm=true:=by rfl)
  (d:(x==("__debug__":Str))=false:=by decide)(he:starEach (e::es) X.env=(false,eval e X.env)::starEach es X.env:=by rfl)(l:(backTo cpos (starEach es X.env)).any (·.1)=false:=by rfl):
  SS X xr (.Raise (some (.Call (.Name x np) (e::es) [] cpos)) none pos) (JI x mr):=by
 intro pins s σ H D I ⟨φ,A,ρ,S,re,h⟩;have hm:X.mg x=some (.ref C):=a3 I.mod.kin I.mod.glob f;obtain⟨t,N,nm,q,bs,hdct,sn,sub,ab,col,dd,k0,k1,k2,k3,k5,mN,M,J,c,T⟩:=KL I.mod.kin ex;refine wpAny_Raise_call_subT (C:=C) (nm:=nm) (q:=q) (N:=N) (bs:=bs) (bm:=t) (hdct:=hdct) (sn:=sn) (sub:=sub) (ab:=ab) (col:=col) (dd:=dd) (k0:=k0) (k1:=k1) (k2:=k2) (k3:=k3) (k5:=k5)
  FB (mN:=mN) (T.hasType FB.hasBase) (I.ok.hd a) (by rw[he];show(false || (backTo cpos (starEach es X.env)).any (·.1))=false;rw[l];rfl) c (QA I w hm ⟨rfl,?_⟩ d)
 have h':=zN.mp h;have j:=z cpos pins s σ H (λv H1=>v.length<=sizeLine/\xr x H1) I ⟨φ,A,ρ,S,re,?_⟩
 ·rw[he]at j ⊢
  refine Calls.evalArgs_plain (wpAny_mono j (λus s2 P=>?_) λ_ _ y=>y);obtain⟨v,H2,i,r,hlen,p⟩:=P;refine⟨rfl,?_,i.bk _ _ M,J.keeps i.bk,T.keeps i.bk,λh3 U m=>?_⟩
  ·rw[<- r.length];exact hlen
  ·obtain⟨Z,L⟩:=PD o i m
   exact o.out pins σ H2 _ U C x Z L f p
 ·cases E:mr ρ A with
  |ok ws A1=>
   rw[E]at h';intro b H1 v k Y Q;refine⟨?_,h' b H1 k Y⟩;rw[<- Q.length,u ρ A ws A1 E];exact hn
  |exc y A1=>rw[E]at h';exact h'|bad=>rw[E]at h';exact h'
end
noncomputable def J2 (m:Ev):Ev:=λρ A=>(m ρ A).bind λw A1=>match w with
 |.int i=>if i.natAbs.log2<1920 then .ok (.str (toString i)) A1 else .bad|_=>.bad
noncomputable def mJ:List Ev->Str->Ev
 |[],acc=>λ_ A=>.ok (.str acc) A|m::ms,acc=>λρ A=>(m ρ A).bind λw A1=>match w with
  |.str y=>if (acc++y).length<=sizeLine then mJ ms (acc++y) ρ A1 else .bad|_=>.bad
section
variable {m:Ev}{ms:List Ev}
inductive SJ (X:Cx)(xr:XR):List Expr->List Ev->Prop where
 |nil:SJ X xr [] []
 |cons {e:Expr} {es:bx} {m:Ev} {ms:List Ev} (h:SE X xr e m) (r:SJ X xr es ms):SJ X xr (e::es) (m::ms)
def NJ (j:SJ X xr es ms):∀{acc:Str}{pins:bp}{s:Shared}{σ:St}{H:Hp}{Q:VK}{φ:bo}{A:Hx}{ρ:En},Inv X pins σ H s->zr X.K φ A H->RE X.K φ H ρ σ->acc.length<=sizeLine->
  (mJ ms acc ρ A).post (PB X.K φ H Q) (EB X.K φ H xr)->
  Joins (model X.prog X.w) X.A X.xe (evalEach es X.env) acc (λout b=>out.length<=sizeLine/\EP X pins σ Q (.str out b.toks) { b with toks:=b.toks+1 }) s:=by
 induction j with
 |nil=>
  intro acc pins s σ H Q φ A ρ I S re f h;exact⟨f,.str acc,H,I.tok _,⟨_,rfl⟩,h φ H _ .refl S rfl⟩
 |@cons e es m ms he r i=>
  intro acc pins s σ H Q φ A ρ I S re f h;show wpAny (model X.prog X.w) X.A (eval e X.env) _ X.xe s;refine zM (he pins s σ H (λv H1=>∃a A1 y,v=.str y/\Le X.K φ H a H1/\zr X.K a A1 H1/\(acc++y).length<=sizeLine/\(mJ ms (acc++y) ρ A1).post (PB X.K φ H Q) (EB X.K φ H xr)) I
   (tM.go S re (zN.mp h) λw A1 a H1 v g l d r=>?_)) λu s1 ⟨v,H1,k,r,a,A1,y,ev,l,d,c,q⟩=>?_
  ·cases w with
   |str y=>
    dsimp only at g
    split at g
    ·rename_i c
     exact⟨a,A1,y,r,l,d,c,g⟩
    ·exact g.elim
   |_=>exact g.elim
  ·subst ev
   obtain⟨t,rfl⟩:=r;exact⟨y,t,rfl,c,i k d (re.mono l) c (ql q (λ_ _ z=>z.mono l) λ_ _ z=>z.mono l)⟩
end
section
variable {A:Around}{e C:Addr}{oe:Obj}{bmB bmD:bj}{newId newD:String}{Q:Bool->Shared->Prop}
def Xj (h:Heap)(C D:Addr):Prop:=∃o cd,h.get? C=some o/\o.data=.cls cd/\cd.mro.contains (.ref D)=true
def UH (lc:KH C bmB newId s.heap)(ld:KH D bmD newD s.heap)(j:bmD.contains (.type "BaseException")=true)(he:s.heap.get? e=some oe)(a:oe.cls=.ref C)(up:Xj s.heap C D)(v:Q true s):
  wpAny M A (excMatches (.ref e) (.ref D)) Q E s:=by
 obtain⟨h,g,d,t,os⟩:=s;obtain⟨l,N,nm,q,bs,hdct,sn,sub,ab,col,dd,k0,k1,k2,k3,k5,mN,k,_,_,_⟩:=lc;obtain⟨T,Y,r,I,x,c,p,S,y,o,w,X,U,P,K,L,u,n,_,_,z⟩:=ld;obtain⟨J,cd,b,hd,hm⟩:=up;rw[k]at b;cases b;have H:(excClassObj nm q C N bs l hdct sn sub ab col dd k0 k1 k2 k3 k5 newId).data=.cls cd:=hd;unfold excClassObj at H;cases H;have B:(Value.ref D::T).contains (.type "BaseException")=true:=by rw[List.contains_cons,z.hasType j,Bool.or_true]
 have i:(Value.ref C::l).contains (.ref D)=true:=hm;have f:=tc_notTuple;unfold excMatches
 repeat (first|(with_reducible refine wpAny_loadPart_at he ?_;rw[a])|with_reducible refine wpAny_loadPart_at n ?_|with_reducible refine wpAny_loadPart_at k ?_|(with_reducible refine wpAny_isSubtype_exc n ?_;rw[B])|(with_reducible refine wpAny_isSubtype_exc k ?_;rw[i])|wp_step)
 exact v
end
section
variable {H0:Hp}{s0:Shared}{ea C:Addr}
def landed {h':Heap}{T:Addr}{a0:Value}(g:Inv X pins σ H0 s0)(I:Inv X pins σ H s)(x:yM H s.heap s0.heap ea (.ref C))(nT:s0.heap.get? T=none)(hT:H T=none)
  (th:∀b o,s0.heap.get? b=some o->∃o',s.heap.get? b=some o')
  (fl:Heap.FlyingW (hideAll s.heap (ea::T::qc X.stack)) X.stack ea (.ref C) a0 h')(us:s.heap.UpToSlots h'):
  Inv X pins σ H { s with heap:=h' }/\yM H h' s0.heap ea (.ref C)/\Tr h' ea/\∀b o,s0.heap.get? b=some o->∃o',h'.get? b=some o':=by
 obtain⟨st,_,ff,oe,P,t,oT,U,he,⟨B,h0⟩,hd,h1,w,D,E,A,h3⟩:=fl;have ng:s0.heap.get? ea=none:=by cases x;assumption
 have nH:H ea=none:=by cases x;assumption
 have kept:∀b o,s.heap.get? b=some o->b∉qc X.stack->b≠ea->b≠T->h'.get? b=some o:=λb o q l j N=>st b o (bc _ q λhm=>by
  rcases bL.mp hm with z|hm
  ·exact j z
  rcases bL.mp hm with z|hm
  ·exact N z
  ·exact l hm)
 have slot:∀b o,s.heap.get? b=some o->b∈qc X.stack->∃sl,h'.get? b=some { o with slots:=sl }:=λb o q hm=>by
  obtain⟨_,o',h,f⟩:=I.stack.mem hm;rw[q]at h;cases h;exact us b o q f
 have off:∀b u,H b=some u->b∉qc X.stack/\b≠ea/\b≠T:=λb u q=>⟨λhm=>(by rw[I.stkFree b hm]at q;cases q),λz=>(by rw[z,nH]at q;cases q),λz=>(by rw[z,hT]at q;cases q)⟩
 have ne:∀b o,s0.heap.get? b=some o->b≠ea/\b≠T:=λb o q=>⟨λz=>(by rw[z,ng]at q;cases q),λz=>(by rw[z,nT]at q;cases q)⟩
 have any:∀b o o',s0.heap.get? b=some o'->s.heap.get? b=some o->∃sl,h'.get? b=some { o with slots:=sl }:=λb o o' Q q=>by
  by_cases hm:b∈qc X.stack
  ·exact slot b o q hm
  ·exact⟨o.slots,kept b o q hm (ne b o' Q).1 (ne b o' Q).2⟩
 have cell:∀y c,X.env.cells.lookup y=some c->∀v,s.heap.IsCell c v->h'.IsCell c v:=λy c e v ⟨o,L,hd⟩=>by
  obtain⟨_,o0,d,_⟩:=g.cell y c e;obtain⟨sl,z⟩:=any c o o0 d L;exact⟨_,z,hd⟩
 have inv:Inv X pins σ H { s with heap:=h' }:=by
  refine⟨I.ok,I.os,I.bare,⟨λb o q n K nx=>?_,λb o q n hf nx=>?_,I.base.free,λb o q nx=>?_,I.base.tups,I.base.frzs,I.base.tbls⟩,?_,λy c e=>?_,I.free,I.freeC,λp hp=>?_,λb u q=>?_,I.len⟩
  ·have a:=I.base.keep b o q n K nx
   have Q:=g.base.keep b o q n K nx;refine kept b o a (λhm=>?_) (ne b o Q).1 (ne b o Q).2;rcases bL.mp (I.stkSub b hm) with z|z
   ·exact absurd (av (aB q) I.ok.above) (by rw[z];exact aN _)
   ·exact K z
  ·obtain⟨sl,a⟩:=I.base.slot b o q n hf nx
   obtain⟨sl0,Q⟩:=g.base.slot b o q n hf nx;obtain⟨S,z⟩:=any b _ _ Q a;exact⟨S,z⟩
  ·obtain⟨J,a⟩:=I.base.there b o q nx
   obtain⟨o0,Q⟩:=g.base.there b o q nx;obtain⟨sl,z⟩:=any b J o0 Q a;exact⟨_,z⟩
  ·obtain⟨m,⟨o,es,ep,L,r⟩,k⟩:=I.loc
   obtain⟨_,⟨o0,_,_,d,_⟩,_⟩:=g.loc;obtain⟨sl,z⟩:=any _ o o0 d L;refine⟨m,⟨_,es,ep,z,r⟩,λi y v e1 e2 e3=>?_⟩;obtain⟨u,ru,lk⟩:=k i y v e1 e2 e3;refine⟨u,ru,?_⟩;rcases lk with lk|⟨lk,c,ec,M⟩
   ·exact .inl lk
   ·exact .inr ⟨lk,c,ec,cell y c ec _ M⟩
  ·obtain⟨v,hv⟩:=I.cell y c e
   exact⟨v,cell y c e v hv⟩
  ·obtain⟨p1,p2,Z,Y,p5⟩:=I.pin p hp
   have p0:=(g.pin p hp).1;refine⟨kept _ _ p1 (λhm=>?_) (ne _ _ p0).1 (ne _ _ p0).2,p2,Z,Y,p5⟩;rcases bL.mp (I.stkSub _ hm) with z|z
   ·exact Z z
   ·exact Y z
  ·refine(I.hok b u q).stay (λc v M z=>?_) (λ_ z=>z) λ_ _ z=>z
   rcases M with e|e
   ·obtain⟨l,j,N⟩:=off b u q
    rw[e]at z ⊢;exact kept b v z l j N
   ·obtain⟨l,j,N⟩:=off c _ e
    exact kept c v z l j N
 have both:s0.heap.get? t=none/\H t=none:=by
  cases q:s.heap.get? t with
  |some o=>
   by_cases hm:t∈ea::T::qc X.stack
   ·rcases bL.mp hm with z|hm
    ·exact absurd z D
    rcases bL.mp hm with z|hm
    ·rw[z];exact⟨nT,hT⟩
    ·obtain⟨sl,z⟩:=slot t o q hm
     obtain⟨_,o',h,f⟩:=I.stack.mem hm;rw[q]at h;cases h;rw[E]at z;cases z;exact absurd A (f U)
   ·rw[bc _ q hm]at w;cases w
  |none=>
   constructor
   ·cases z:s0.heap.get? t with
    |none=>rfl|some o=>obtain⟨o',k⟩:=th t o z;rw[q]at k;cases k
   ·cases z:H t with
    |none=>rfl|some u=>obtain⟨o',k⟩:=(I.hok t u z).obj;rw[q]at k;cases k
 exact⟨inv,⟨ng,nH,oe,P,a0,he,B,hd,h0,.inr ⟨t,oT,U,h1,D,both.1,both.2,E,A,h3⟩⟩,⟨oe,P,t,he,hd,h1⟩,λb o q=>by
  obtain⟨J,a⟩:=th b o q;obtain⟨sl,z⟩:=any b J o q a;exact⟨_,z⟩⟩
def flying (I:Inv X pins σ H s)(x:yM H s.heap s0.heap ea (.ref C))(tr:Tr s.heap ea):
  ∃T A,s0.heap.get? T=none/\H T=none/\Heap.FlyingW (hideAll s.heap (ea::T::qc X.stack)) X.stack ea (.ref C) A s.heap:=by
 obtain⟨u,w,l,j,A,he,p,hd,h0,h1⟩:=x;obtain⟨k,v,y,h,a,c⟩:=tr;rw[he]at h;cases h;rw[hd]at a;cases a;rcases h1 with h1|⟨T,n,t,h1,g,d,i,hT,e,r⟩
 ·rw[h1]at c;cases c
 ·have hn:∀b∈ea::T::qc X.stack,(hideAll s.heap (ea::T::qc X.stack)).get? b=none:=λb f=>hideAll_none _ f
  exact⟨T,A,d,i,λb o q=>of_hideAll _ q,hn ea (aF ..),frames_at I.stack λb f=>hn b (ay _ (ay _ f)),
   l,j,T,n,t,he,⟨p,h0⟩,hd,h1,hn T (ay _ (aF ..)),g,hT,e,r⟩
end
noncomputable def QS (o:Obj):HO:=.frz o (.own 0)
noncomputable def Zn (K:Frag)(C D:Addr):Bool:=match K.lookup C with
 |some ⟨_,_,.cls cd,_⟩=>cd.mro.contains (.ref D)|_=>false
def MD {K:Frag}{C:Addr}(X:K.In h)(e:Zn K C D=true):Xj h C D:=by
 unfold Zn at e
 split at e
 ·rename_i H
  exact⟨_,_,X _ _ H,rfl,e⟩
 ·cases e
section
variable {H0:Hp}{s0:Shared}{ea C L:Addr}
def Z1 (i:Inv X pins σ H0 s0)(I:Inv X pins σ H s)(x:yM H s.heap s0.heap ea (.ref C)):∃a,a.cls=.ref C/\H ea=none/\Inv X pins σ (upd H ea (QS a)) s:=by
 obtain⟨k,d,a,r,A,he,l,_⟩:=x;refine⟨a,l,d,?_⟩;have ne:∀b o,s0.heap.get? b=some o->b≠ea:=λb o q z=>by rw[z,k]at q;cases q
 have at_:∀b,b≠ea->upd H ea (QS a) b=H b:=λb n=>by unfold upd;exact af n
 have N:∀b u,H b=some u->upd H ea (QS a) b=some u:=λb u q=>by
  rw[at_ b λz=>by rw[z,d]at q;cases q];exact q
 refine⟨I.ok,I.os,I.bare,⟨I.base.keep,I.base.slot,λb o q n nx=>?_,I.base.there,λb xs q=>N _ _ (I.base.tups b xs q),λb o u q=>N _ _ (I.base.frzs b o u q),λb ps q=>?_⟩,I.loc,I.cell,?_,λy c e=>?_,λp f=>?_,λb u q=>?_,I.len⟩
 ·obtain⟨o0,Q⟩:=i.base.there b o q nx
  rw[at_ b (ne b o0 Q)];exact I.base.free b o q n nx
 ·obtain⟨more,z⟩:=I.base.tbls b ps q
  exact⟨more,N _ _ z⟩
 ·obtain⟨m,⟨o0,_,_,h,_⟩,_⟩:=i.loc
  rw[at_ _ (ne _ o0 h)];exact I.free
 ·obtain⟨v,o0,h,_⟩:=i.cell y c e
  rw[at_ _ (ne _ o0 h)];exact I.freeC y c e
 ·obtain⟨j,g,P⟩:=I.pin p f
  refine⟨j,?_,P⟩;rw[at_ _ (ne _ _ (i.pin p f).1)];exact g
 ·by_cases z:b=ea
  ·subst z
   have:u=QS a:=by
    unfold upd at q;rw[aa rfl]at q;exact(ao q).symm
   subst this;exact⟨he,⟨a,he⟩⟩
  ·rw[at_ b z]at q
   exact(I.hok b u q).stay (λ_ _ _ z=>z) (λc z=>N c _ z) λc xs z=>N c _ z
def NC (X:Cx)(pins:bp)(σ:St)(s0:Shared)(D:Addr)(k:Addr->Addr->Hp->Prop)(e:Value)(s:Shared):Prop:=
 ∃E C H B n,e=.ref E/\Inv X pins σ H s/\yM H s.heap s0.heap E (.ref C)/\Tr s.heap E/\(∀b o,s0.heap.get? b=some o->∃o',s.heap.get? b=some o')/\Mi.kK X.K C B n=true/\Zn X.K C D=true/\∀a,a.cls=.ref C->H E=none->k E C (upd H E (QS a))
def Nm {l n:Str}{p:bj}{newD:String}{body S:bF}{B:Stmt}{np hp:Pos}{Q:Flow->Shared->Prop}{k:Addr->Addr->Hp->Prop}
  (I0:Inv X pins σ H0 s0)(t:X.stack=X.env::X.outer)(hL:X.env.frame=some L)(hD:jP X.K l (.ref D))(exD:Mi.kK X.K D p newD=true)(hbD:p.contains (.type "BaseException")=true)
  (hN:X.N.Nodup)(hi:X.N[i]? =some n)(hx:Loc X.env.scope n)
  (y:wpAny (model X.prog X.w) X.A (execs body X.env) (λf s1=>f=.next/\Q .next s1) (NC X pins σ s0 D k) s0)
  (b:∀E C H s2,Inv X pins (σ.set i (some (.ref E))) H s2->k E C H->∀E',wpAny (model X.prog X.w) (X.A.mark (some (.ref E))) (execs (B::S) X.env)
   (λf s4=>wpAny (model X.prog X.w) X.A (do bindName X.env n .none;unbindBehindTheSuite X.env n hp) (λ_ s5=>Q f s5) X.xe s4) E' s2)
  (hg:Gl X l)(Z:(l==("__debug__":Str))=false:=by decide)(hf:X.fn n=true∨X.env.scope.names.lookup n=some .local:=by first|exact .inl rfl|exact .inr rfl|assumption):
  wpAny (model X.prog X.w) X.A (exec (.Try body [.ExceptHandler (some (.Name l np)) (some n) (B::S) hp] [] [] pos) X.env) Q X.xe s0:=by
 refine wpAny_Try_except (wpAny_mono y (λf s1 ⟨ef,q⟩=>?_) λe s1 h=>?_)
 ·subst ef
  exact wpAny_execs_nil q
 obtain⟨E,C,H,bmC,newC,rfl,I,x,tr,th,exC,up,hk⟩:=h;have hm:X.mg l=some (.ref D):=a3 I.mod.kin I.mod.glob hD;obtain⟨T,a0,nT,hT,fl⟩:=flying I x tr;have Y:X.A.frames=some (X.env::X.outer):=by rw[<- t];exact I.ok.frames
 refine wpAny_looks_onW Y hL (by rw[<- t];exact fl) λh₄ g d=>?_
 refine wpAny_landsW g λo a U=>?_;obtain⟨c,x5,r,z⟩:=landed I0 I x nT hT th (by rw[<- t]at a;exact a) (d.trans U)
 obtain⟨_,_,oe,_,_,he,hc,_⟩:=id x5;refine wpAny_handleBy_cons (codeAny_handlers_test (Calls.Name_function_global c.ok.kind hg (Calls.loadGlobal_global (by rw[c.ok.glob];exact c.mod.glob.keeps c.bk) hm ?_) Z)) (by intro q;cases q)
 refine UH (s:={ s1 with heap:=o }) (KL c.kIn exC) (KL c.kIn exD) hbD he hc (MD c.kIn up) ?_
 refine codeAny_handlers_suite_as ?_;obtain⟨T',a0',M,hT',fl'⟩:=flying c x5 r;refine lands_againW fl' λh₆ j u=>?_;obtain⟨I6,x6,_,_⟩:=landed I0 c x5 M hT' z j u;obtain⟨of,P,J,I7⟩:=Z1 I0 I6 x6;exact Qt (v:=.ref E) I7 hN hi hx rfl (λs7 I7=>b E C _ s7 I7 (hk of P J) _) hf
end
section
variable {A:Around}
def name_goes {n:Str}{Q:Unit->Shared->Prop}(I:Inv X pins σ H s)(hN:X.N.Nodup)(D:X.N[i]? =some n)(Y:X.env.scope.names.lookup n=some .local)
  (h:∀s',Inv X pins (σ.set i none) H s'->Q () s'):wpAny M A (do bindName X.env n .none;unbindBehindTheSuite X.env n pos) Q E s:=by
 obtain⟨m,hn,T⟩:=id I.loc;have f:i < σ.length:=by rw[I.len];exact(bI.mp D).1
 refine wpAny_nameGoes_keeps Y hn (by rw[I.ok.kind];rfl) λh' v w t=>h _ ?_
 have old:∀b o,b≠X.env.locals->s.heap.get? b=some o->h'.get? b=some o:=λb o n q=>(t.2 b n).trans q;have nl:∀{b:Addr}{u:HO},H b=some u->b≠X.env.locals:=λq z=>by rw[z,I.free]at q;cases q
 have ab:∀{b:Addr}{k:Nat},b<k->k<=X.env.locals->b≠X.env.locals:=λl g=>aG (av l g);refine⟨I.ok,I.os,I.bare,⟨λb o e z C x=>?_,λb o e z C x=>?_,I.base.free,λb o e x=>?_,I.base.tups,I.base.frzs,I.base.tbls⟩,⟨_,w,λj y K a r e3=>?_⟩,λy c e=>?_,I.free,I.freeC,λp S=>?_,λb u q=>?_,by simpa using I.len⟩
 ·exact old b o (ab (aB e) I.ok.above) (I.base.keep b o e z C x)
 ·obtain⟨sl,a⟩:=I.base.slot b o e z C x
  exact⟨sl,old b _ (ab (aB e) I.ok.above) a⟩
 ·obtain⟨o',a⟩:=I.base.there b o e x
  exact⟨o',old b _ (ab (aB e) I.ok.above) a⟩
 ·by_cases B:j=i
  ·subst B
   rw[aw f]at r;cases r
  ·rw[aj (Ne.symm B)]at r
   obtain⟨U,L,q⟩:=T j y K a r e3;refine⟨U,L,?_⟩;rcases q with ⟨k,e⟩|⟨k,c,e,z⟩
   ·have:y≠n:=λe=>B (Y0 hN a (e ▸ D))
    exact .inl ⟨k,by simp[this,e]⟩
   ·exact .inr ⟨k,c,e,z.sameBut t (I.cne y c e)⟩
 ·obtain⟨J,z⟩:=I.cell y c e
  exact⟨J,z.sameBut t (I.cne y c e)⟩
 ·obtain⟨e,z,ne,P,d⟩:=I.pin p S
  exact⟨old _ _ ne e,z,ne,P,d⟩
 ·refine(I.hok b u q).stay (λc v Z z=>old c v ?_ z) (λ_ z=>z) λ_ _ z=>z
  rcases Z with e|e
  ·rw[e];exact nl q
  ·exact nl e
def UJ {n y:Str}{E:Addr}{np Y ap p:Pos}{Q:Flow->Shared->Prop}{B:bw}(I:Inv X pins (σ.set i (some (.ref E))) H s)(d:X.N.Nodup)(b:X.N[i]? =some n)(x:X.N[j]? =some y)
  (h:X.env.scope.names.lookup n=some .local)(g:Loc X.env.scope y)(q:∀s',Inv X pins (((σ.set i (some (.ref E))).set j (some (.ref E))).set i none) H s'->Q .next s')
  (o:swapsWith (.Name n np) (some (.Name y Y)) ap.line X.env=pure false)(hf:X.fn y=true∨X.env.scope.names.lookup y=some .local)
  (c:(n==("__debug__":Str))=false:=by decide):
  wpAny (model X.prog X.w) A (execs [.Assign [.Name y Y] (.Name n np) ap] X.env) (λf s4=>wpAny (model X.prog X.w) X.A (do bindName X.env n .none;unbindBehindTheSuite X.env n p) (λ_ s5=>Q f s5) X.xe s4) B s:=by
 obtain⟨m,hn,t⟩:=I.loc;have a:i < σ.length:=by have:=I.len;rw[length_set]at this;rw[this];exact(bI.mp b).1
 obtain⟨u,r,l⟩:=t i n (.ref E) b (aw a) (.inl h);obtain rfl:u=Value.ref E:=r;have hm:m n=some (.ref E):=by
  rcases l with ⟨_,e⟩|⟨k|k,_⟩
  ·exact e
  ·rw[show X.env.kindOf n=some .local from h]at k;cases k
  ·rw[show X.env.kindOf n=some .local from h]at k;cases k
 refine wpAny_execs_cons (wpAny_Assign_Name (wpAny_Name (wpAny_loadName_local I.ok.kind h hn hm ?_) c) o);exact Qt (v:=.ref E) I d x g rfl (λs5 z=>wpAny_execs_nil (name_goes z d b h q)) hf
end
open PySem PySem.W PySem.Spec PySem.Calls PyProof.Rows Builtin Builtin.ObjectAttr Builtin.Getset_descriptor
section
variable {prog:Program}{A:Around}{K:Frag}{x:Addr}{name:Str}
def Nf {a g:Value}(X:K.In h)(b:findIn K (.ref D) name=some (some a))(hn:specialIn K a "__get__"=some (some g))(H:takesIn K a=some true):Looks M h (find (.ref x) (.ref D) name) (.bind g a):=
 (looks_findIn (M:=M) X b).andThen ((show Looks M h (getOf (some a)) (some g) from looks_specialIn X hn).andThen
  ((show Looks M h (dataDescriptor? (some a) (some g)) (some (g,a)) from (looks_takesIn (M:=M) X H).andThen .now).andThen (Looks.tag .now)))
def Rj {tp:Value}{R:Result->Shared->Prop}(X:K.In s.heap)(l:Looks (model prog w) s.heap (typeOf (.ref x)) (.ref D))(hm:mroIn K D (.type "object")=some true)(h:R (.ok (.ret (.ref D))) s):
  codeAny (model prog w) A (.call (.builtin "getset_descriptor.__get__") ⟨[.builtin "object.__class__",.ref x,tp],[]⟩) R s:=by
 obtain⟨h0,g,d,t0,o0⟩:=s;have L:=looks_mroIn (M:=model prog w) X hm;have sl:=KF.slot_gs;refine codeAny_call_builtin sl.plain KF.entry_gs (sl.check _ _ _ _ _ _ _ _ KF.type_class (KF.args_gs _ _ _) ?_);unfold «getset_descriptor.__get__» descrGet;rw[dga_obj];refine bG (bH ?_);unfold descrGetter descrCheckInstance isInstance descrNameAndClass;simp only[KF.owner_class]
 repeat lk
 refine And.intro (Code.quiet_builtin _ (by decide +kernel)) (codeAny_builtin KF.entry_class ?_)
 unfold «object.__class__» shownTypeOf
 repeat lk
 exact h
def UA {rest:bj}{kw:List (Str×Value)}{Q:Unit->Shared->Prop}(X:K.In s.heap)(l:Looks M s.heap (typeOf (.ref x)) (.ref D))(hm:mroIn K D (.type "BaseException")=some true)
  (ok:argsOk "BaseException.__getattribute__" ⟨.ref x::rest,kw⟩)(h:Q () s):wpAny M A (checkBuiltinCall "BaseException.__getattribute__" ⟨.ref x::rest,kw⟩) Q E s:=by
 have cut:splitId "BaseException.__getattribute__"=some ("BaseException","__getattribute__"):=by first|rfl|decide +kernel
 have kinds:builtinKind "BaseException.__getattribute__"=some .slot∨builtinKind "BaseException.__getattribute__"=some .method:=by
  simp only[builtinKind,cut]
  first|exact .inl (by decide +kernel)|exact .inr (by decide +kernel)
 have L:=looks_mroIn (M:=M) X hm;have r:wpAny M A (match Manifest.signature? "BaseException.__getattribute__" with|some sig=>Bind.checkArgs "BaseException.__getattribute__" sig ⟨.ref x::rest,kw⟩|none=>pure ()) Q E s:=wpAny_of_eq ok h
 rcases kinds with k|k
 all_goals
  unfold checkBuiltinCall;rw[k,cut];dsimp only;unfold isInstance;refine bG (bG (l.at (L.at ?_)));exact r
def Ug {Q:Option Value->Shared->Prop}(b:findIn K (.ref D) "__getattribute__"=some (some (.builtin "BaseException.__getattribute__")))(n:findIn K (.ref D) "__getattr__"=some none)
  (e:findIn K (.ref D) "__class__"=some (some (.builtin "object.__class__")))
  (hn:specialIn K (.builtin "object.__class__") "__get__"=some (some (.builtin "getset_descriptor.__get__")))(H:takesIn K (.builtin "object.__class__")=some true)(hm:mroIn K D (.type "object")=some true)(a:mroIn K D (.type "BaseException")=some true)
  (X:K.In s.heap)(L:Looks (model prog w) s.heap (typeOf (.ref x)) (.ref D))(h:Q (some (.ref D)) { s with toks:=s.toks+1 }):wpAny (model prog w) A (getAttr? (.ref x) "__class__") Q E s:=by
 obtain⟨c,g,d,t,os⟩:=s;have l:=looks_findIn (M:=model prog w) X b;have L2:=Nf (M:=model prog w) (x:=x) X e hn H;have f:=looks_findIn (M:=model prog w) X n;unfold getAttr?;unfold getAttrBy?;unfold getAttrBy;refine bG (wpAny_mkText (bG (wpAny_attempt (wpAny_holding (bG (L.at (bG (l.at ?_))))))));show wpAny _ _ (getAttrByItsOwn (.ref x) (.str "__class__" t) (.ref D) (.builtin "BaseException.__getattribute__") false false) _ _ _;unfold getAttrByItsOwn;refine bG ?_;show wpAny _ _ (typeLookup (.ref D) "__getattr__") _ _ _;refine f.at (bG (wpAny_attempt (wpAny_holding ?_)));show wpAny _ _ (bindSpecial (.builtin "BaseException.__getattribute__") (.ref x) >>= _) _ _ _;refine bG (wpAny_of_eq (F.excAttr_ValueError.ga.bind _) ?_);refine wpAny_call (codeAny_call_builtin F.excAttr_ValueError.ga.plain F.entry_bexc_ga (UA X L a (F.args_bexc_ga _ _) ?_));unfold «object.__getattribute__»;refine bG (wpAny_of_eq (show slotArgs "__getattribute__" 1 ⟨[.ref x]++[.str "__class__" t],[]⟩=pure (.ref x,[.str "__class__" t]) from rfl) ?_)
 refine bG (wpAny_of_eq (show attrName (.str "__class__" t)=pure ("__class__":Str) from rfl) (bG (L.at (bG (L2.at ?_)))))
 show wpAny _ _ (holding [Value.builtin "object.__class__"] (call (.builtin "getset_descriptor.__get__") [.builtin "object.__class__",.ref x,.ref D]) >>= ret) _ _ _;refine bG (wpAny_holding (wpAny_call (Rj (s:=⟨c,g,d,t+1,os⟩) X L hm ?_)));refine bH ?_;exact handed_on rfl (bH h)
end
def JN (x D:Addr)(h:Heap):Prop:=∃o,h.get? x=some o/\o.cls=.ref D
def JN.ty {x:Addr}(p:JN x D h):Looks M h (typeOf (.ref x)) (.ref D):=by
 obtain⟨o,H,c⟩:=p;rw[<- c];exact(Looks.ld H).andThen .now
def TZ {K:Frag}{x:Addr}(d:(clsIn K D).isSome=true)(c:findIn K (.ref D) "__getattribute__"=some (some (.builtin "BaseException.__getattribute__")))(b:findIn K (.ref D) "__getattr__"=some none)(e:findIn K (.ref D) "__class__"=some (some (.builtin "object.__class__")))
  (hn:specialIn K (.builtin "object.__class__") "__get__"=some (some (.builtin "getset_descriptor.__get__")))(H:takesIn K (.builtin "object.__class__")=some true)(hm:mroIn K D (.type "object")=some true)(a:mroIn K D (.type "BaseException")=some true):
  KitX K (.ref x) (.ref D) (JN x D) where
 ty:=λ_ _ _ p=>p.ty
 it:=λ_ _ X _=>by
  obtain⟨C,h⟩:=Option.isSome_iff_exists.mp d;unfold clsIn at h
  split at h
  ·rename_i g d' f s o
   intro A' Q E s' k q;unfold isType loadHead;exact bG (wpAny_loadPart (k _ _ (X D _ o)) (bH q))
  ·cases h
 ne:=λ_ tp dd i n sl X t=>by
  obtain⟨C,h⟩:=Option.isSome_iff_exists.mp d;rw[Bool.eq_false_iff];intro q;cases Value.ref.inj (aD.mp q);unfold clsIn at h
  split at h
  ·rename_i o
   cases (X _ _ o).symm.trans t
  ·cases h
 ca:=λX p k=>Ug c b e hn H hm a X p.ty k
noncomputable def QE (K:Frag)(C:Addr):Bool:=(PySem.W.clsIn K C).isSome&&(PySem.W.findIn K (.ref C) "__getattribute__" == some (some (.builtin "BaseException.__getattribute__")))&&(PySem.W.findIn K (.ref C) "__getattr__" == some none)&&(PySem.W.findIn K (.ref C) "__class__" == some (some (.builtin "object.__class__")))&&
 (PySem.W.specialIn K (.builtin "object.__class__") "__get__" == some (some (.builtin "getset_descriptor.__get__")))&&(PySem.W.takesIn K (.builtin "object.__class__")==some true)&&(PySem.W.mroIn K C (.type "object")==some true)&&(PySem.W.mroIn K C (.type "BaseException")==some true)
section
variable {A:Around}{c:Value}{b:Bool}{ea C:Addr}
def OD {o:Obj}{u:HO}(I:Inv X pins σ H s)(e:H ea=some (.frz o u))(d:o.cls=.ref C)(k:QE X.K C=true)(q:kitOne X.K (.ref C) c=some b)(h:∀t,Q (.bool b) { s with toks:=t }):
  wpAny (model X.prog X.w) A (call (.builtin "isinstance") [.ref ea,c]) Q E s:=by
 have p:JN ea C s.heap:=⟨o,(show qI X.prog X.w H s.heap ea (.frz o u) from I.hok ea _ e).1,d⟩
 unfold QE at k;simp only[ai,aD]at k;obtain⟨⟨⟨⟨⟨⟨⟨k1,k2⟩,a⟩,k3⟩,i⟩,k5⟩,g⟩,f⟩:=k;exact a4 (TZ k1 k2 a k3 i k5 g f) I.kIn p q (λz=>nomatch z) h
def Of (I:Inv X pins σ H s)(q:kitOne X.K (.type "NoneType") c=some b)(h:∀t,Q (.bool b) { s with toks:=t }):wpAny (model X.prog X.w) A (call (.builtin "isinstance") [.none,c]) Q E s:=
 Gn I (x:=.non) rfl .non q h
end
def wu (P:Program)(w:World)(K:Frag)(mg:bz)(base:Heap)(N:bt)(qual:Str)(scope:Scope)(f:Addr)(cd:Value)(cl:bC)(A:Around)(outer:bA)(s:Shared)(H:Hp)(E:XK):Cx where
 prog:=P
 w:=w
 K:=K
 mg:=mg
 base:=base
 A:=A.deeper (envX qual scope s.heap.objs.size f cd cl)
 N:=N
 s0:=s
 H0:=H
 env:=envX qual scope s.heap.objs.size f cd cl
 outer:=outer
 stack:=envX qual scope s.heap.objs.size f cd cl::outer
 ex:=[]
 calm:=true
 fn:=λ_=>false
 pn:=[]
 xe:=λe s'=>wpAny (model P w) (A.deeper (envX qual scope s.heap.objs.size f cd cl)) (leaving (envX qual scope s.heap.objs.size f cd cl) e) (λ_ S=>ko P w outer H s E e S) (λa S=>ko P w outer H s E a S) s'
section
variable {K:Frag}{cd:Value}{cl:bC}{A:Around}{outer:bA}{E:XK}
def Ti {h:Hp}{a C:Addr}(I:Inv (wu P w K mg base N qual scope f cd cl A outer s H E) pins σ h s')(x:yM h s'.heap s.heap a (.ref C))(l:E (.ref C) none h):
  (wu P w K mg base N qual scope f cd cl A outer s H E).xe (.ref a) s':=by
 have bs:Un (qc outer) [] H h s.heap s'.heap:=I.base;have stk:∀b∈qc (envX qual scope s.heap.objs.size f cd cl::outer),h b=none:=I.stkFree;have k:s.heap.get? s.heap.objs.size=none:=Heap.get?_none_of_le (aA _);have g:(envX qual scope s.heap.objs.size f cd cl).frame=some s.heap.objs.size:=rfl;have mem:∀b,b∈qc (envX qual scope s.heap.objs.size f cd cl::outer)↔b=s.heap.objs.size∨b∈qc outer:=λb=>by
  unfold qc;rw[aT,g];exact mem_cons
 show wpAny (model P w) (A.deeper (envX qual scope s.heap.objs.size f cd cl)) (leaving (envX qual scope s.heap.objs.size f cd cl) (.ref a)) _ _ s';refine Xk (base:=base) (L:=s.heap.objs.size) I.ok.frames rfl I.stack x (λb u e=>(I.hok b u e).obj) (λb o e=>bs.there b o e (by simp)) λh' k1 k2 X t=>?_
 have r:∀b u,h b=some u->b∉qc (envX qual scope s.heap.objs.size f cd cl::outer):=λb u e hm=>by rw[stk b hm]at e;cases e
 refine⟨a,C,h,rfl,I.os,I.bare,⟨λb o e n nb _=>?_,λb o e n mb _=>?_,λb o e n d=>bs.free b o e n d,λb o e d=>?_,bs.tups,bs.frzs,bs.tbls⟩,λb u e=>?_,X,t,l⟩
 ·have i:b≠s.heap.objs.size:=λz=>by rw[z,k]at e;cases e
  exact k1 b o (bs.keep b o e n nb (by simp)) (λhm=>(mem b).mp hm |>.elim i nb) (.inl ⟨o,e⟩)
 ·obtain⟨sl,q⟩:=bs.slot b o e n mb (by simp)
  obtain⟨S,Q⟩:=k2 b _ q ((mem b).mpr (.inr mb));exact⟨S,Q⟩
 ·obtain⟨o',q⟩:=bs.there b o e d
  by_cases hm:b∈qc (envX qual scope s.heap.objs.size f cd cl::outer)
  ·obtain⟨sl,z⟩:=k2 b o' q hm;exact⟨_,z⟩
  ·exact⟨o',k1 b o' q hm (.inl ⟨o,e⟩)⟩
 ·refine(I.hok b u e).stay (λc v j q=>?_) (λ_ q=>q) λ_ _ q=>q
  rcases j with z|z
  ·rw[z]at q ⊢;exact k1 b v q (r b u e) (.inr ⟨u,e⟩)
  ·exact k1 c v q (r c _ z) (.inr ⟨_,z⟩)
def Ml:kG (wu P w K mg base N qual scope f cd cl A outer s H E) s.heap (kQ K E) where
 th:=λpins σ h s' I b o e=>(show Un (qc outer) [] H h s.heap s'.heap from I.base).there b o e (by simp)
 out:=λpins σ h s' d C x I l c a=>Ti I l (a C c)
structure Y2 (N:bt)(sc:Scope):Prop where
 kind:sc.kind=.function
 co:sc.isCoroutine=false
 gen:sc.isGenerator=false
 nocell:∀y∈sc.names,y.2≠.cell
structure Jx (base:Heap)(N:bt)(scope:Scope)(cl:bC)(vs:List V):Prop where
 len:vs.length=N.length
 inj:∀x y c,cl.lookup x=some c->cl.lookup y=some c->x=y
 has:∀x,scope.names.lookup x=some .free->∃c,cl.lookup x=some c
 cell:∀x c,cl.lookup x=some c->∃v,base.IsCell c v
 val:∀(i:Nat)(x:Str)(v:V),N[i]? =some x->vs[i]? =some v->∃c u,scope.names.lookup x=some .free/\cl.lookup x=some c/\base.IsCell c (some u)/\RelV v u
def R0 {h1:Heap}{T:Tok}(S:Y2 N scope)(hd:A.handled=none)(g:Qc P w K mg base A outer s H)(C:Jx base N scope cl vs)(q:∃m,h1.Ns s.heap.objs.size m)(t:∀b o,s.heap.get? b=some o->h1.get? b=some o):
  Inv (wu P w K mg base N qual scope f cd cl A outer s H E) [] (L2.start N vs) H { s with heap:=h1,toks:=T }:=by
 have n:∀b:Addr,b∉(wu P w K mg base N qual scope f cd cl A outer s H E).ex:=λb z=>absurd (show b∈([]:bo) from z) (by simp)
 have bk:∀c v,base.IsCell c v->h1.IsCell c v/\H c=none:=λc v ⟨o,x,hd⟩=>⟨⟨o,t _ _ (g.bs _ _ x).1,hd⟩,(g.bs _ _ x).2⟩;obtain⟨m,hm⟩:=q;refine⟨⟨g.mod,S.kind,rfl,rfl,aA _,C.inj,λy j=>?_,λy c z _=>(nomatch z),λ_=>hd,Around.frames_deeper g.frames,.inr ⟨rfl,rfl⟩,λb z=>absurd z (n b),g.bs,g.bsz,λb _ _=>n b,λb z=>absurd z (n b),g.funs,g.frf⟩,
  rfl,g.bare,Un.kept t,⟨m,hm,λi y v h1 d I=>?_⟩,λy c h=>?_,g.hok.fresh (aA _),λy c h=>?_,λp B=>absurd (show p∈([]:bp) from B) (by simp),g.hok.kept t,?_⟩
 ·have j:scope.names.lookup y=some .cell∨scope.names.lookup y=some .free:=j
  rcases j with j|j
  ·exact absurd rfl (S.nocell _ (PySem.mem_of_lookup j))
  ·exact C.has y j
 ·have l:i<vs.length:=by
   unfold L2.start at d
   by_cases l:i<vs.length
   ·exact l
   ·rw[aq (by simpa using l)]at d
    rw[aR]at d
    split at d<;>cases d
  have D:vs[i]? =some v:=by
   unfold L2.start at d;rw[ag (by simpa using l),aI]at d
   cases e:vs[i]? with
   |none=>rw[e]at d;cases d|some a=>rw[e]at d;cases d;rfl
  obtain⟨c,u,k,e,z,r⟩:=C.val i y v h1 D;exact⟨u,r,.inr ⟨.inr k,c,e,(bk _ _ z).1⟩⟩
 ·obtain⟨v,z⟩:=C.cell y c h
  exact⟨v,(bk _ _ z).1⟩
 ·obtain⟨v,z⟩:=C.cell y c h
  exact(bk _ _ z).2
 ·unfold L2.start
  show _=N.length;rw[aH,aC,aP,C.len];omega
def Xq (o:Obj)(q:Str):Prop:=∃v t,o.data=.fields v/\v[1]? =some (.str q t)
def O5 {name:Str}{params:Arguments}{body:Expr}{pm ctv:Value}{i:Obj}{u uc:HO}{m:Ev}(S:Y2 N scope)(C:Jx base N scope cl vs)(p:Xq i qual)
  (g:∀(A:Around)(outer:bA)(s:Shared)(H:Hp)(E:XK),qE k (A.deeper (envX qual scope s.heap.objs.size a (.ref c) cl))->kG (wu P w K mg base N qual scope a (.ref c) cl A outer s H E) s.heap (kQ K E)->
   SE (wu P w K mg base N qual scope a (.ref c) cl A outer s H E) (kQ K E) body m):
  jJ P w K mg base (ko P w) (k+1) a (kla_fn name qual params body scope cl pm (.ref c) ctv) [] (λus H Q E=>us=[]/\H a=some (.frz (kla_obj name qual params body scope cl pm c ctv) u)/\H c=some (.frz i uc)/\
   ∃φ A ws,zr K φ A H/\zx K φ H ws vs/\(m (ws.map some) A).post (PB K φ H Q) (EB K φ H (kQ K E))):=by
 refine⟨λus H Q E h=>by rw[h.1];rfl,λA outer s H args us D Q E n l hb r h=>?_⟩
 obtain⟨rfl,h1,h2,φ,A1,ws,Sm,B,Y⟩:=h;cases r;have Z:s.heap.get? a=some (kla_obj name qual params body scope cl pm c ctv):=(show qI P w H s.heap a (.frz _ u) from l.hok a _ h1).1
 have hc:s.heap.get? c=some i:=(show qI P w H s.heap c (.frz i uc) from l.hok c _ h2).1
 have lim:s.heap.NoLimit:=l.mod.nolimit.keeps λb o e=>(l.bs b o e).1;obtain⟨L,M,z,hd2⟩:=p;refine PySem.W.kla_callFunE n.depth Z rfl S.co S.gen rfl ⟨c,i,L,M,rfl,hc,z,hd2⟩ (hb _ _ _ _ ?_);refine wpAny_newFunctionEnv S.nocell (λy X=>absurd (show y∈([]:List (Str×Value)) from X) (by simp)) (λd t j=>⟨lim.fresh _ j,?_⟩) S.kind
 show codeAny _ _ (.expr body (envX qual scope s.heap.objs.size a (.ref c) cl)) _ _;have f:∀b o,s.heap.get? b=some o->d.get? b=some o:=λb o e=>j.extBut b o (aG (aB e)) (ae _ e);have I:∀T,Inv (wu P w K mg base N qual scope a (.ref c) cl A outer s H E) [] (L2.start N vs) H { s with heap:=d,toks:=T }:=λT=>R0 S n.hd l C ⟨_,t⟩ f
 refine PySem.W.kla_codeExpr (wpAny_mono (g A outer s H E (n.deeper _) Ml [] _ (L2.start N vs) H Q (I _) ⟨φ,A1,_,Sm,RE.start (N:=N) B,?_⟩) (λv s' hv=>?_) λ_ _ y=>y)
 ·have:N.length-ws.length=0:=by rw[B.length,C.len];omega
  rw[this,List.replicate_zero,a7];exact Y
 ·obtain⟨x,H',J,U,q⟩:=hv
  exact⟨x,H',J.os,J.bare,J.base,J.hok,U,q⟩
end
inductive MP (K:Frag)(a:Addr)(ob:Obj)(u:HO)(c:Addr)(oc:Obj)(uc:HO)(vs:List V)(g:Fn)(us:List V)(H:Hp)(Q:VK)(E:XK):Prop
 |mk (e:us=[]) (h1:H a=some (.frz ob u)) (h2:H c=some (.frz oc uc)) (φ:bo) (A:Hx) (ws:List W) (S:zr K φ A H) (r:zx K φ H ws vs) (q:(g ws A).post (PB K φ H Q) (EB K φ H (kQ K E)))
def gB (P:Program)(w:World)(K:Frag)(mg:bz)(base:Heap)(j:Nat)(p:Obj->Addr->Obj->List V->Prop)(g:Fn):Prop:=
 ∀a ob u c o uc v,p ob c o v->(∃fd,ob.data=.func fd)/\∃fd,jJ P w K mg base (ko P w) j a fd [] (MP K a ob u c o uc v g)/\∀s,BindsTo s fd ⟨[],[]⟩ []
open Classical in
noncomputable def Yc (i:Nat)(PG:Nat->Obj->Addr->Obj->List V->Prop)(lam:Nat->Fn):Ev:=λρ A=>match ρ[i]? with
 |some (some (.clo k ws P))=>if P=PG k then lam k ws A else .bad|_=>.bad
def Q1 (i j l:Nat)(cs:bt)(PG:Nat->Obj->Addr->Obj->List V->Prop)(lam:Nat->Fn):Ex:=λρ A=>match Yc i PG lam ρ A with
 |.ok _ A1=>.ok (.nx ρ) A1|.exc x A1=>if cs.contains x then .ok (.nx (((ρ.set l (some (.xc x))).set j (some (.xc x))).set l none)) A1 else .bad|.bad=>.bad
section
variable {K:Frag}
def RE.unset (r:RE K φ H ρ σ):RE K φ H (ρ.set i none) (σ.set i none):=
 ⟨by simp[r.len],λj u e=>by
  by_cases h:i=j
  ·subst h
   have a:i < ρ.length:=by
    have:=(bI.mp e).1
    simpa using this
   rw[aw a]at e;cases e
  ·rw[aj h]at e
   obtain⟨x,h1,b⟩:=r.get j u e;exact⟨x,by rw[aj h];exact h1,b⟩⟩
end
def Vn (K:Frag)(φ:bo)(H:Hp)(ρ:En)(j l:Nat)(D:Ends)(x:Str)(A':Hx):Prop:=∀a h b,Le K φ H a h->zr K a A' h->RE K a h (((ρ.set l (some (.xc x))).set j (some (.xc x))).set l none) b->D.nx b h
inductive Lv (K:Frag)(φ:bo)(H:Hp)(ρ:En)(j l:Nat)(D0:Ends)(ea C:Addr)(H':Hp):Prop
 |mk (xn:Str) (φ':bo) (A':Hx) (le:Le K φ H φ' H') (S:zr K φ' A' H') (rv:RV K φ' H' (.xc xn) (.ref ea)) (n:Vn K φ H ρ j l D0 xn A')
inductive M5 (K:Frag)(φ:bo)(H:Hp)(ρ:En)(j l:Nat)(D0:Ends)(cs:bt)(Cv:Value)(d:bE)(H1:Hp):Prop
 |mk (xn:Str) (Ca:Addr) (e:Cv=.ref Ca) (hC:jP K xn (.ref Ca)) (hc:cs.contains xn=true) (φ1:bo) (A1:Hx) (le:Le K φ H φ1 H1) (S:zr K φ1 A1 H1) (n:Vn K φ H ρ j l D0 xn A1)
def Vi (K:Frag)(f:Str->Option Bool)(cv:V):List V->Hp->VK->Prop:=λxs H Q=>∃x,xs=[x,cv]/\((x=.non/\Q (.bl false) H)∨∃a o u C nm b,x=.ref a/\H a=some (.frz o u)/\o.cls=.ref C/\jP K nm (.ref C)/\f nm=some b/\Q (.bl b) H)
structure QO (K:Frag)(f:Str->Option Bool)(c:Value):Prop where
 non:kitOne K (.type "NoneType") c=some false
 exc:∀nm C b,f nm=some b->jP K nm (.ref C)->QE K C=true/\kitOne K (.ref C) c=some b
def ji (f:Str->Option Bool)(m:Ev):Ev:=λρ A=>(m ρ A).bind λw A1=>match w with
 |.non=>.ok (.bl false) A1|.xc nm=>(match f nm with
  |some b=>.ok (.bl b) A1|none=>.bad)
 |_=>.bad
section
variable {m:Ev}{f:Str->Option Bool}
def Gw {cv:V}{c:Value}(g:QO X.K f c)(rc:∀u,RelV cv u->u=c):yq X (.builtin "isinstance") (Vi X.K f cv):=by
 intro pins s σ H xs us Q I r h;obtain⟨x,rfl,h⟩:=h;obtain⟨u,l,rfl,e,d⟩:=vals2 r;cases rc _ d;rcases h with ⟨rfl,q⟩|⟨a,o,U,C,nm,b,rfl,h1,k,j,i,q⟩
 ·cases (show u=Value.none from e)
  exact Of I g.non λt=>⟨.bl false,H,I.tok t,rfl,q⟩
 ·cases (show u=Value.ref a from e)
  obtain⟨k1,k2⟩:=g.exc nm C b i j;exact OD I h1 k k1 k2 λt=>⟨.bl b,H,I.tok t,rfl,q⟩
def ji.read {cv:V}{t2:TE}(g:∀σ H Q,Q cv H->t2 σ H Q):∀σ H Q,tM X.K xr (ji f m) σ H Q->Yf (Vi X.K f cv) (JR (tM X.K xr m) (JR t2 K5)) σ H Q:=by
 rintro σ H Q ⟨φ,A,ρ,S,re,h⟩
 refine tM.go S re (zN.mp h) λw A1 c H1 v h1 l s q=>?_;refine g σ H1 _ ?_;cases w with
 |non=>
  obtain rfl:=q;exact⟨.non,rfl,.inl ⟨rfl,h1 c H1 _ l s rfl⟩⟩
 |xc nm=>
  dsimp only at h1;cases e:f nm with
  |none=>rw[e]at h1;exact h1.elim|some b=>
   rw[e]at h1;obtain⟨a,o,u,C,rfl,d,Z,z⟩:=q;exact⟨.ref a,rfl,.inr ⟨a,o,u,C,nm,b,rfl,d,Z,z,e,h1 c H1 _ l s rfl⟩⟩
 |bl _=>exact h1.elim|int _=>exact h1.elim|str _=>exact h1.elim|tup _=>exact h1.elim|ref _=>exact h1.elim|clo _ _ _=>exact h1.elim
end
def Ub {a b:Int}{c cv:Value}(l:bj)(h:TriplesOk l)(e:codeAmong pos (l++[rawInt a,rawInt b,c])=some cv):codeAmong pos l=some cv∨cv=c:=by
 fun_induction TriplesOk l with
 |case1=>
  right
  simp only[nil_append,codeAmong,rawInt]at e
  split at e
  ·exact(ao e).symm
  ·cases e
 |case2 A t B u x rest i=>
  simp only[List.cons_append,codeAmong]at e ⊢
  split at e
  ·rename_i H;rw[aa H];exact .inl e
  ·rename_i H;rw[af H];exact i h e
 |case3 l h1 d=>exact h.elim
def BMain (mg:bz)(base:Heap):Prop:=∃bm o,mg "__builtins__"=some (.ref bm)/\bm≠builtinsNs/\bm≠mainGlobals/\base.get? bm=some o/\o.cls=.type "module" /\ o.dict=some builtinsNs/\o.data=.plain
noncomputable def J0 (q:Str)(params:Arguments)(body:Expr)(scope:Scope)(C:bC):Obj->Addr->Obj->List V->Prop:=λob c o _=>(∃pm ctv,ob=kla_obj "<lambda>" q params body scope C pm c ctv)/\Xq o q
noncomputable def qV (n:Nat)(q:Str)(P:Addr)(k:Nat)(PF:Obj->Addr->Obj->List V->Prop):Ev:=λ_ A=>match A[n]? with
 |some (.tab Q P')=>if Q=q/\P'=P then .ok (.clo k [] PF) A else .bad|_=>.bad
section
variable {q:Str}{P:Addr}{params:Arguments}{body:Expr}{clos:bC}
def O6 (hB:BMain X.mg X.base)(y:X.env.code=.ref c)(C:CodeHd X.base c P)(hcl:closureFor scope X.env=pure clos)(hq:X.env.qual ++ "<lambda>"=q)(hdef:defaultsOf params X.env=([],[]):=by rfl):
  SE X xr (.Lambda params body scope pos) (qV n q P k (J0 q params body scope clos)):=by
 intro pins s σ H Q I ⟨φ,A,ρ,S,re,h⟩;unfold qV at h;cases Z:A[n]? with
 |none=>rw[Z]at h;exact h.elim|some o=>
  rw[Z]at h;cases o with
  |tab L P'=>
   dsimp only at h
   by_cases hc:L=q/\P'=P
   ·rw[aa hc]at h
    obtain⟨rfl,rfl⟩:=hc;obtain⟨a,ha,eaP,ps,t,Y⟩:=S.ob n _ Z;subst eaP;have hP:s.heap.get? a=some (tabObj ps):=(show qI X.prog X.w H s.heap a (.tbl ps) from I.hok a _ t)
    have hg:s.heap.Ns mainGlobals X.mg:=I.mod.glob.keeps I.bk;have hgP:mainGlobals≠a:=λz=>by
     obtain⟨o,es,ep,e,hd,_⟩:=hg;rw[z,hP]at e;cases e;cases hd
    have r:s.heap.BuiltinsAt X.mg a:=by
     obtain⟨bm,o,b1,b2,b3,b4,b5⟩:=hB;refine⟨bm,o,b1,b2,b3,λz=>?_,I.bk _ _ b4,b5⟩
     have:=(I.bs _ _ b4).2
     rw[z,t]at this;cases this
    refine PySem.W.kla_eval hdef ?_;rw[hq];have M:∀b,s.heap.objs.size<=b->H b=none:=λb r=>I.hok.fresh r;cases hf:codeAmong pos ps.toList with
    |none=>
     refine PySem.W.kla_makeFunction (mg:=X.mg) hcl I.ok.glob hg y (C.keeps I.bk) hP Y.1 hf hgP r λf ctv h' tk hx x U hrec htb=>?_;obtain⟨c2,g,vc,tc,ec,hoc,D,hd2⟩:=hrec;cases ec;generalize j:kla_obj "<lambda>" L params body scope clos ((X.mg "__name__").getD .none) f ctv=ob;have hPc:a<s.heap.objs.size:=aB hP;have nPc:a≠f:=aG (av hPc x);have nPf:a≠h'.objs.size:=aG (lt_trans (av hPc x) U);have T:f≠h'.objs.size:=aG U;have hsf:s.heap.objs.size<=h'.objs.size:=a8 x (le_of_lt U);have E:H f=none:=M f x;have l:H h'.objs.size=none:=M _ hsf;have H1f:upd H f (.frz g (.own 0)) h'.objs.size=none:=by rw[zS (Ne.symm T)];exact l
     generalize B:ps++#[rawInt pos.line,rawInt pos.col,.ref f]=p at htb;have S1:=S.lay (u:=.frz g (.own 0)) E;have S2:=S1.lay (u:=.frz ob (.own 0)) H1f;have fz:∀b o u,upd (upd H f (.frz g (.own 0))) h'.objs.size (.frz ob (.own 0)) b=some (.frz o u)->upd (upd (upd H f (.frz g (.own 0))) h'.objs.size (.frz ob (.own 0))) a (.tbl p) b=some (.frz o u):=λb o u e=>by
      rw[zS];exact e;intro z;rw[z,zS nPf,zS nPc,t]at e;cases e
     have fz0:∀b o u,H b=some (.frz o u)->upd (upd H f (.frz g (.own 0))) h'.objs.size (.frz ob (.own 0)) b=some (.frz o u):=λb o u e=>by
      rw[zS (ym e l),zS (ym e E)];exact e
     have tg':Q0 (upd (upd (upd H f (.frz g (.own 0))) h'.objs.size (.frz ob (.own 0))) a (.tbl p)) L p:=by
      rw[<- B];refine⟨by rw[Array.toList_append];exact TriplesOk_snoc _ _ _ _ Y.1,λpos' cv e=>?_⟩
      rw[Array.toList_append]at e;rcases Ub _ Y.1 e with e|e
      ·obtain⟨c0,oc0,u0,vs0,t0,g1,g2,g3⟩:=Y.2 pos' cv e
       exact⟨c0,oc0,u0,vs0,t0,g1,by rw[B];exact fz _ _ _ (fz0 _ _ _ g2),g3⟩
      ·exact⟨f,g,.own 0,vc,tc,e,by rw[B];exact fz _ _ _ (by rw[zS T,qM]),D,hd2⟩
     obtain⟨l3,S3⟩:=S2.write (o:=.tab L a) (o':=.tab L a) Z rfl rfl ha (u:=.tbl p) ⟨rfl,p,qM,tg'⟩;have l03:Le X.K φ H φ _:=((Le.new E).trans (Le.new H1f)).trans l3;have set3:A.set n (.tab L a)=A:=by
      apply List.ext_getElem?
      intro i
      by_cases hi:n=i
      ·subst hi
       rw[aw (bI.mp Z).1,Z]
      ·rw[aj hi]
     rw[set3]at S3;have eP:upd (upd (upd H f (.frz g (.own 0))) h'.objs.size (.frz ob (.own 0))) a (.tbl p) a=some (.tbl p):=qM;have ec:upd (upd (upd H f (.frz g (.own 0))) h'.objs.size (.frz ob (.own 0))) a (.tbl p) f=some (.frz g (.own 0)):=by rw[zS (Ne.symm nPc),zS T,qM]
     have ef:upd (upd (upd H f (.frz g (.own 0))) h'.objs.size (.frz ob (.own 0))) a (.tbl p) h'.objs.size=some (.frz ob (.own 0)):=by rw[zS (Ne.symm nPf),qM]
     have J:∀b,b≠a->b≠f->b≠h'.objs.size->upd (upd (upd H f (.frz g (.own 0))) h'.objs.size (.frz ob (.own 0))) a (.tbl p) b=H b:=λb n1 n2 n3=>by rw[zS n1,zS n3,zS n2]
     generalize upd (upd (upd H f (.frz g (.own 0))) h'.objs.size (.frz ob (.own 0))) a (.tbl p)=H3 at S3 l03 eP ec ef J;have kp:∀b o,b≠a->s.heap.get? b=some o->(h'.push ob).get? b=some o:=λb o n e=>ae _ (hx b o n e);have old:∀b o,s.heap.get? b=some o->b≠f/\b≠h'.objs.size:=λb o e=>⟨aG (av (aB e) x),aG (av (aB e) hsf)⟩;have N:∀b u,H b=some u->b≠f/\b≠h'.objs.size:=λb u e=>⟨ym e E,ym e l⟩;have gP:(h'.push ob).get? a=some (tabObj p):=ae _ htb;have I3:Inv X pins σ H3 { s with heap:=h'.push ob,toks:=tk }:=by
      refine I.un ⟨λb o e z r _=>?_,λb o e z r _=>?_,λb o e z _=>?_,λb o e _=>?_,λb xs e=>?_,λb o u e=>?_,λb qs e=>?_⟩ λb u e=>?_
      ·exact kp b o (λw=>by rw[w,t]at z;cases z) e
      ·exact⟨o.slots,kp b o (λw=>by rw[w,t]at z;cases z) e⟩
      ·rw[J b (λw=>by rw[w,t]at z;cases z) (old b o e).1 (old b o e).2];exact z
      ·by_cases r:b=a
       ·rw[r];exact⟨_,gP⟩
       ·exact⟨o,kp b o r e⟩
      ·rw[J b (QN e t (by intro w;cases w)) (N b _ e).1 (N b _ e).2];exact e
      ·rw[J b (QN e t (by intro w;cases w)) (N b _ e).1 (N b _ e).2];exact e
      ·by_cases r:b=a
       ·subst r
        rw[t]at e;cases e;exact⟨_,by rw[eP,<- B]⟩
       ·exact⟨#[],by rw[J b r (N b _ e).1 (N b _ e).2,e];simp⟩
      ·by_cases h1:b=a
       ·subst h1
        rw[eP]at e;cases e;exact gP
       ·by_cases h2:b=f
        ·subst h2
         rw[ec]at e;cases e;exact⟨ae _ hoc,⟨_,ae _ hoc⟩⟩
        ·by_cases h3:b=h'.objs.size
         ·subst h3
          rw[ef]at e;cases e;exact⟨au _ (by rw[<- j];rfl),⟨_,au _ (by rw[<- j];rfl)⟩⟩
         ·rw[J b h1 h2 h3]at e
          refine(I.hok b u e).stay (λd v hd z=>kp d v ?_ z) (λd z=>?_) λd xs z=>?_
          ·rcases hd with w|w
           ·rw[w];exact h1
           ·exact QN w t (by intro w;cases w)
          ·rw[J d (QN z t (by intro w;cases w)) (N d _ z).1 (N d _ z).2];exact z
          ·rw[J d (QN z t (by intro w;cases w)) (N d _ z).1 (N d _ z).2];exact z
     exact⟨.ref h'.objs.size,H3,I3,rfl,h φ H3 _ l03 S3 ⟨h'.objs.size,ob,.own 0,f,g,.own 0,[],rfl,ef,ec,⟨⟨_,_,j.symm⟩,vc,tc,D,hd2⟩,rfl⟩⟩
    |some cv=>
     obtain⟨f,g,u0,vc,tc,rfl,hHc,D,hd2⟩:=Y.2 pos cv hf;refine PySem.W.kla_makeFunctionHit (mg:=X.mg) hcl I.ok.glob hg y (C.keeps I.bk) hP Y.1 hf r λctv h' tk hx hsz=>?_;generalize j:({ cls:=.type "function",data:=.func (kla_fn "<lambda>" L params body scope clos ((X.mg "__name__").getD .none) (.ref f) ctv) }:Obj)=ob;have l:H h'.objs.size=none:=M _ hsz;have I3:Inv X pins σ (upd H h'.objs.size (.frz ob (.own 0))) { s with heap:=h'.push ob,toks:=tk }:=
      I.laid (λb o e=>ae _ (hx b o e)) hsz ⟨au _ (by rw[<- j];rfl),⟨_,au _ (by rw[<- j];rfl)⟩⟩
     refine⟨.ref h'.objs.size,_,I3,rfl,h φ _ _ (Le.new l) (S.lay l) ⟨h'.objs.size,ob,.own 0,f,g,u0,[],rfl,qM,?_,⟨⟨_,_,j.symm⟩,vc,tc,D,hd2⟩,rfl⟩⟩;rw[zS (ym hHc l)];exact hHc
   ·rw[af hc]at h;exact h.elim
  |_=>exact h.elim
end
section
variable {K:Frag}
theorem RE.monoW {a:bo}{h:Hp}(r:RE K φ H ρ σ)(l:kO K φ H a h):RE K a h ρ σ:=⟨r.len,λi w e=>let ⟨v,h1,b⟩:=r.get i w e;⟨v,h1,b.monoW l⟩⟩
inductive LR (G:List Addr->Hp->Prop)(K:Frag)(xr:XR)(m:Ev)(σ:St)(H:Hp)(Q:VK):Prop
 |mk (φ:bo) (A:Hx) (ρ:En) (S:zr K φ A H) (re:RE K φ H ρ σ) (g:G φ H) (h:(m ρ A).post (PB K φ H Q) (EB K φ H xr))
noncomputable def VG (G:List Addr->Hp->Prop)(K:Frag)(x:XR)(m:Ev):TE:=λσ H Q=>LR G K x m σ H Q
inductive L6 (G:List Addr->Hp->Prop)(K:Frag)(em:Em)(D:Addr)(σ:St)(H:Hp)(Q:St->Hp->Prop):Prop
 |mk (φ:bo) (A:Hx) (ρ:En) (acc:List W) (ys:List V) (S:zr K φ A H) (re:RE K φ H ρ σ) (g:G φ H) (hD:H D=some (.lst ys)) (nD:∀k:Nat,φ[k]?≠some D) (rv:zx K φ H acc ys)
  (h:(em ρ acc A).post (Q5 K D φ H Q) yQ)
noncomputable def Wg (G:List Addr->Hp->Prop)(K:Frag)(em:Em):kP:=λD σ H Q=>L6 G K em D σ H Q
def Pd {G:List Addr->Hp->Prop}{elt:Expr}{d:Nat}{me:Ev}(x:∀e s,X.xe e s->False)(he:PE X elt (VG G X.K j3 me))(o:gens[d+1]? =none):kr X elt gens sc pos d (Wg G X.K (qX me)):=
 kr.imp (Gv x he o) λD σ H Q ⟨φ,A,ρ,acc,y,S,re,g,p,N,r,h⟩=>by
  refine⟨φ,A,ρ,S,re,g,ql (Jv (zN.mp h)) (λw A1 h1 f H1 v l t q=>?_) λ_ _ z=>z⟩;obtain⟨c,n⟩:=l.off p N
  by_cases j:acc.length<qy
  ·rw[aa j]at h1
   have k:=r.length;refine⟨y,c,?_,?_⟩
   ·rw[<- k]
    have:sizeLine=16777216:=sizeLine_eq
    unfold qy at j;omega
   ·exact h1 f _ σ _ (l.toD.trans (jn.upd c)) n (t.off c n) ⟨re.len,λi w e=>let ⟨v,a,b⟩:=re.get i w e;⟨v,a,(b.mono l).monoD (jn.upd c)⟩⟩ qM
     (((r.mono l).monoD (jn.upd c)).append (.one (q.monoD (jn.upd c))))
  ·rw[af j]at h1;exact h1.elim
def qS.readG {G:List Addr->Hp->Prop}{tw:Tg}{ifs:Ev}{em:Em}{j:jA}{J:It}{K:Frag}{acc:List W}{Q:St->Hp->Prop}{f:Nat}
  (gm:∀φ H v t,kO K φ H v t->G φ H->G v t)(g:G φ H)(jr:wZ K φ H j J)
  (S:zr K φ A H)(re:RE K φ H ρ σ)(hD:H D=some (.lst ys))(nD:∀k:Nat,φ[k]?≠some D)(ra:zx K φ H acc ys)
  (h:(qS j tw ifs em f 0 ρ acc A).post (Q5 K D φ H Q) yQ):
  QL J (tG K tw) (tT K j3 ifs) (Wg G K em) D σ H Q:=by
 refine⟨λi f b t=>Yl tw ifs em j K D φ H Q f i b t,
  ⟨f,φ,A,ρ,acc,ys,.refl,S,re,hD,nD,ra,h⟩,?_⟩
 rintro i f Z H2 ⟨n,A2,B,e,Y,P,S2,C,U,I,s,a⟩
 obtain⟨j1,j2⟩:=jr i n H2 A2 ⟨P.ex,P.tp,P.fz⟩ S2;cases E:j.at_ A2 i with
 |none=>cases f<;>(unfold qS at a;rw[E]at a;exact a.elim)|some o=>
  cases o with
  |none=>
   left
   refine⟨j2 E,?_⟩;cases f<;>(unfold qS at a;rw[E]at a;exact a n H2 Z Y P I S2 C U s)
  |some w=>
   right
   obtain⟨go,yl⟩:=j1 w E;cases f with
   |zero=>unfold qS at a;rw[E]at a;exact a.elim|succ f=>
    unfold qS at a;rw[E]at a;refine⟨go,λb t=>Yl tw ifs em j K D φ H Q f (i+1) b t,λb t z=>⟨f,bb _,z⟩,λx H3 y=>?_⟩;obtain⟨M,S3,q3⟩:=yl x H3 y;obtain⟨hD3,nD3⟩:=M.off U I;dsimp only at a;cases et:tw w B with
    |none=>rw[et]at a;exact a.elim|some q=>
     rw[et]at a;refine⟨n,A2,B,w,q,S3,C.mono M,q3,et,λσ3 r=>?_⟩;refine tT.go S3 r (Jv (zN.mp a)) λc A4 d=>?_;cases c with
     |bl k=>
      refine⟨k,rfl,λu H4 L S4=>?_⟩;obtain⟨T,N⟩:=L.off hD3 nD3;have l:=(P.trans (M.trans L).toD);cases k with
      |true=>
       rw[aa rfl];refine⟨u,A4,q,e,Y,S4,r.mono L,gm _ _ _ _ ⟨l.ex,l.tp,l.fz⟩ g,T,N,s.mono (M.trans L),ql (zN.mp d) (λp A5 h5 X H5 σ5 zs l5 n5 S5 re5 d5 r5=>?_) λ_ _ z=>z⟩;exact⟨X,A5,p.1,p.2,zs,l.trans l5,S5,re5,d5,n5,r5,h5⟩
      |false=>
       rw[af ar];exact⟨u,A4,q,e,Y,l,S4,r.mono L,T,N,s.mono (M.trans L),d⟩
     |non=>cases d|int _=>cases d|str _=>cases d|tup _=>cases d|ref _=>cases d|clo _ _ _=>cases d|xc _=>cases d
end
structure Lm where
 N:bt
 idx:bq
 params:Arguments
 body:Expr
 scope:Scope
 m:Ev
noncomputable def Zf:List Nat->En->Option (List W)
 |[],_=>some []|j::J,ρ=>match ρ[j]?,Zf J ρ with
  |some (some w),some ws=>some (w::ws)|_,_=>none
noncomputable def wV:List Nat->St->Option (List V)
 |[],_=>some []|j::J,σ=>match σ[j]?,wV J σ with
  |some (some w),some ws=>some (w::ws)|_,_=>none
theorem Ge {K:Frag}(r:RE K φ H ρ σ):∀{J:bq}{ws:List W},Zf J ρ=some ws->∃s,wV J σ=some s/\zx K φ H ws s
 |[],ws,e=>by cases e;exact⟨[],rfl,.nil⟩|j::J,ws,e=>by
  unfold Zf at e;cases E:ρ[j]? with
  |none=>rw[E]at e;cases e|some o=>cases o with
   |none=>rw[E]at e;cases e|some w=>
    rw[E]at e;cases a:Zf J ρ with
    |none=>rw[a]at e;cases e|some b=>
     rw[a]at e;cases e;obtain⟨v,h1,d⟩:=r.get j w E;obtain⟨s,c,h⟩:=Ge r a;exact⟨v::s,by unfold wV;rw[h1,c],.cons d h⟩
theorem Gu:∀{J:bq}{s:List V},wV J σ=some s->s.length=J.length/\∀(i:Nat)(v:V),s[i]? =some v->∃j,J[i]? =some j/\σ[j]? =some (some v)
 |[],s,e=>by cases e;exact⟨rfl,λi v h=>by simp at h⟩|j::J,s,e=>by
  unfold wV at e;cases E:σ[j]? with
  |none=>rw[E]at e;cases e|some o=>cases o with
   |none=>rw[E]at e;cases e|some w=>
    rw[E]at e;cases r:wV J σ with
    |none=>rw[r]at e;cases e|some c=>
     rw[r]at e;cases e;obtain⟨h1,H⟩:=Gu r;refine⟨by simp[h1],λi v h=>?_⟩
     cases i with
     |zero=>simp at h;subst h;exact⟨j,by simp,E⟩|succ i=>simp at h;obtain⟨d,a,b⟩:=H i v h;exact⟨d,by simpa using a,b⟩
noncomputable def kf (ls:List Lm)(k:Nat):Fn:=λws A=>match ls[k]? with
 |some t=>t.m (ws.map some) A|none=>.bad
def wx (env:Env)(q:Str)(ls:List Lm)(k:Nat):Obj->Addr->Obj->List V->Prop:=λob c o v=>∃t,ls[k]? =some t/\J0 q t.params t.body t.scope (yb env t.scope.names []) ob c o v
def Yg (env:Env)(q:Str)(ls:List Lm)(σ:St)(k:Nat):Obj->Addr->Obj->List V->Prop:=λob c o v=>∃t,ls[k]? =some t/\J0 q t.params t.body t.scope (yb env t.scope.names []) ob c o v/\wV t.idx σ=some v
structure ka (P:Program)(w:World)(K:Frag)(mg:bz)(j:Nat)(q:Str)(t:Lm):Prop where
 sc:Y2 t.N t.scope
 bind:∀(cl:bC)(pm cdv ctv:Value),bindArgs (kla_fn "<lambda>" q t.params t.body t.scope cl pm cdv ctv) ⟨[],[]⟩=pure []
 body:∀(base:Heap)(cl:bC)(a c:Addr)(A:Around)(outer:bA)(s:Shared)(H:Hp)(E:XK),qE j (A.deeper (envX q t.scope s.heap.objs.size a (.ref c) cl))->kG (wu P w K mg base t.N q t.scope a (.ref c) cl A outer s H E) s.heap (kQ K E)->
  SE (wu P w K mg base t.N q t.scope a (.ref c) cl A outer s H E) (kQ K E) t.body t.m
section
variable {K:Frag}{q:Str}{ls:List Lm}
def P6 (l:∀t∈ls,ka P w K mg j q t)(f:∀t∈ls,∀v,wV t.idx σ=some v->Jx base t.N t.scope (yb env t.scope.names []) v)(k:Nat):gB P w K mg base (j+1) (Yg env q ls σ k) (kf ls k):=by
 rintro a ob u c o uc v ⟨t,d,⟨⟨pm,ctv,rfl⟩,b⟩,hv⟩
 have mt:t∈ls:=ba d;have L:=l t mt;refine⟨⟨_,rfl⟩,_,((O5 (name := "<lambda>") (params:=t.params) (body:=t.body) (pm:=pm) (ctv:=ctv) (a:=a) (c:=c) (u:=u) (uc:=uc) (m:=t.m) L.sc (f t mt v hv) b λA outer s H E e x=>L.body base _ a c A outer s H E e x)).imp λus H Q E h=>?_,λs=>.of_eq (L.bind _ _ _ _)⟩;obtain⟨h1,i,g,φ,A,ws,S,r,h⟩:=h;refine⟨h1,i,g,φ,A,ws,S,r,?_⟩;unfold kf at h;rw[d]at h;exact h
end
noncomputable abbrev jo:=Nat->Obj->Addr->Obj->List V->Prop
open Classical in
noncomputable def wQ (PG:jo)(RF:Nat->List W->Hx->R W):Fn:=λus A=>match us with
 |[.clo k ws P]=>if P=PG k then RF k ws A else .bad|_=>.bad
open Classical in
def wY (i:Nat)(PF:jo)(ls:List Lm)(RF:Nat->List W->Hx->R W)(a:En):Ev:=λρ A=>match ρ[i]? with
 |some (some (.clo k _ P))=>if P=PF k then(match ls[k]? with
  |some t=>(match Zf t.idx a with
   |some ws=>RF k ws A|none=>.bad)
  |none=>.bad) else .bad
 |_=>.bad
structure Zi (X:Cx)(t:Lm):Prop where
 len:t.idx.length=t.N.length
 nm:∀(i:Nat)(x:Str)(j:Nat),t.N[i]? =some x->t.idx[i]? =some j->X.N[j]? =some x/\t.scope.names.lookup x=some .free
 free:∀y∈t.scope.names,y.2=.free->X.env.kindOf y.1=some .cell∨X.env.kindOf y.1=some .free
section
def Ju (I:Inv X pins σ H s){t:Lm}(L:Zi X t)(h:(yb X.env t.scope.names []).lookup x=some c):X.env.cells.lookup x=some c:=by
 rcases gR _ _ (PySem.mem_of_lookup h) with z|⟨z,e⟩
 ·cases z
 ·obtain⟨C,a⟩:=I.ok.has x (L.free _ z rfl)
  rw[a]at e ⊢;exact congrArg some e.symm
def S8 (I:Inv X pins σ H s)(f:∀x c v,X.env.cells.lookup x=some c->s.heap.IsCell c v->base.IsCell c v){t:Lm}(L:Zi X t)(hv:wV t.idx σ=some vs):Jx base t.N t.scope (yb X.env t.scope.names []) vs:=by
 obtain⟨v1,v2⟩:=Gu hv;refine⟨v1.trans L.len,λx y c h1 b=>I.ok.inj x y c (Ju I L h1) (Ju I L b),λx h=>?_,λx c h=>?_,λi x v h1 b=>?_⟩
 ·exact Option.isSome_iff_exists.mp (Jm _ _ (.inl (PySem.mem_of_lookup h)))
 ·have e:=Ju I L h
  obtain⟨v,z⟩:=I.cell x c e;exact⟨v,f x c v e z⟩
 ·obtain⟨j,p,o⟩:=v2 i v b
  obtain⟨n,E⟩:=L.nm i x j h1 p;have fr:=L.free _ (PySem.mem_of_lookup E) rfl;obtain⟨m,hn,l⟩:=I.loc;obtain⟨u,r,lk⟩:=l j x v n o (.inr fr);obtain⟨c,d⟩:=Option.isSome_iff_exists.mp (Jm (env:=X.env) t.scope.names [] (.inl (PySem.mem_of_lookup E)));have g:=Ju I L d;rcases lk with ⟨z,_⟩|⟨_,C,a,cell⟩
  ·exfalso
   rcases fr with k|k<;>(rw[k]at z;cases z)
  ·rw[g]at a
   cases a;exact⟨c,u,E,d,f x c _ g cell,r⟩
def G5 (I:Inv X pins σ H s)(h:∀x,X.fn x=true)(e:X.env.cells.lookup x=some c):c∉qc X.stack:=λhm=>by
 rcases bL.mp (I.stkSub c hm) with z|z
 ·exact I.cne x c e z
 ·obtain⟨_,o,a,_⟩:=I.ok.funs.mem z
  exact absurd (av (aB a) (I.ok.cab x c (h x) e)) (aN _)
noncomputable def k8 (base h:Heap)(cells:bC):Heap:=hideAll h ((List.range h.objs.size).filter λb=>(base.get? b).isNone&&!(cells.any λp=>cells.lookup p.1==some b))
def GF {o:Obj}(e:(k8 base h cells).get? b=some o):h.get? b=some o/\((∃o',base.get? b=some o')∨∃x,cells.lookup x=some b):=by
 have E:=of_hideAll _ e;refine⟨E,?_⟩
 by_cases hm:b∈(List.range h.objs.size).filter λb=>(base.get? b).isNone&&!(cells.any λp=>cells.lookup p.1==some b)
 ·unfold k8 at e
  rw[hideAll_none _ hm]at e;cases e
 ·rw[mem_filter]at hm
  have c:b∈List.range h.objs.size:=bK.mpr (aB E);cases g:base.get? b with
  |some o'=>exact .inl ⟨o',rfl⟩|none=>
   right
   by_cases H:(cells.any λp=>cells.lookup p.1==some b)=true
   ·obtain⟨p,_,a⟩:=List.any_eq_true.mp H
    exact⟨p.1,aD.mp a⟩
   ·exact absurd ⟨c,by rw[g];simpa using H⟩ hm
def UN (k:∀b o,base.get? b=some o->h.get? b=some o){o:Obj}(e:base.get? b=some o):(k8 base h cells).get? b=some o:=
 bc _ (k b o e) λhm=>by
  rw[mem_filter,e]at hm;simp at hm
def UQ {o:Obj}(l:cells.lookup x=some c)(e:h.get? c=some o):(k8 base h cells).get? c=some o:=
 bc _ e λhm=>by
  rw[mem_filter,ai,Bool.not_eq_true']at hm
  have:=hm.2.2
  rw[List.any_eq_false]at this;exact this _ (PySem.mem_of_lookup l) (by simpa using l)
variable {H3:Hp}{s3:Shared}{ls:List Lm}{kk:Nat}{q f:Str}{ρ0:En}{RF:Nat->List W->Hx->R W}{p2:Pos}
def GU (I:Inv X pins σ H3 s3)(D:∀b∈fp,yh X pins H3 b)(H:∀x,X.fn x=true)(B:∀t∈ls,ka X.prog X.w X.K X.mg j q t)(g:∀t∈ls,Zi X t)
  {p:bp}{f:St}{a:Hp}(i:Inv (qN X N sc s3 H3 fp jm) p f a s'):
  Qc X.prog X.w X.K X.mg (k8 X.base s'.heap X.env.cells) X.A X.stack s' a/\∀k,gB X.prog X.w X.K X.mg (k8 X.base s'.heap X.env.cells) (j+1) (Yg X.env q ls σ k) (kf ls k):=by
 have un:Un (qc X.stack) fp H3 a s3.heap s'.heap:=i.base;have bk:∀b o,X.base.get? b=some o->s'.heap.get? b=some o:=λb o e=>(show _ from i.bk b o e)
 have C:∀y c,X.env.cells.lookup y=some c->∀o,s3.heap.get? c=some o->s'.heap.get? c=some o/\a c=none:=λy c e o h=>
  have n:c∉fp:=λz=>(D c z).2.2.2.2.1 y c e rfl
  ⟨un.keep c o h (I.freeC y c e) (G5 I H e) n,un.free c o h (I.freeC y c e) n⟩
 have d:∀b o,X.base.get? b=some o->(k8 X.base s'.heap X.env.cells).get? b=some o:=λb o e=>UN bk e;have M:Mod X.K X.mg (k8 X.base s'.heap X.env.cells):=by
  obtain⟨mb,P,L⟩:=I.mod.blt;exact⟨I.mod.kin.keeps d,I.mod.glob.keeps d,⟨mb,P.keeps d,L⟩,I.mod.nolimit.keeps d⟩
 have bs:∀b o,(k8 X.base s'.heap X.env.cells).get? b=some o->s'.heap.get? b=some o/\a b=none:=λb o e=>by
  obtain⟨J,E⟩:=GF e;refine⟨J,?_⟩;rcases E with ⟨o',E⟩|⟨y,E⟩
  ·exact(i.bs b o' E).2
  ·obtain⟨Q,r,h,_⟩:=I.cell y b E
   exact(C y b E r h).2
 refine⟨⟨i.ok.frames,M,bs,Nat.le_of_eq (hideAll_size _ _),frames_at (show s'.heap.FunFrames X.base X.stack from i.stack) λb l=>?_,i.stkFree,i.hok,i.bare⟩,
  λk=>P6 B (λt u S s=>S8 I (λy c v e ⟨o,h,hd⟩=>⟨o,UQ e (C y c e o h).1,hd⟩) (g t u) s) k⟩
 cases e:(k8 X.base s'.heap X.env.cells).get? b with
 |none=>rfl|some o=>
  exfalso;rcases(GF e).2 with ⟨o',E⟩|⟨y,E⟩
  ·have:=(I.stack.mem l).1
   rw[E]at this;cases this
  ·exact G5 I H E l
def PL (I3:Inv X pins σ H3 s3)(f3:∀b∈fp,yh X pins H3 b)(B:∀x,X.fn x=true)(hl:∀t∈ls,ka X.prog X.w X.K X.mg j q t)(s:∀t∈ls,Zi X t)
  (hR:∀base PG,(∀k,gB X.prog X.w X.K X.mg base (j+1) (PG k) (kf ls k))->qe X.prog X.w X.K X.mg base kk f 1 (wQ PG RF))(hr:qE kk X.A)
  (hi:N[i]? =some x)(hv:Zq (relabel sc X.env) x)(hg:Gl (qN X N sc s3 H3 fp jm) f)(hdx:(x==("__debug__":Str))=false:=by decide)(hcx:(x==("__classdict__":Str))=false:=by decide)(hdf:(f==("__debug__":Str))=false:=by decide)
  (he:starEach [.Name x p2] (qN X N sc s3 H3 fp jm).env=(false,eval (.Name x p2) (qN X N sc s3 H3 fp jm).env)::starEach [] (qN X N sc s3 H3 fp jm).env:=by rfl)(Y:(backTo pos (starEach [] (qN X N sc s3 H3 fp jm).env)).any (·.1)=false:=by rfl):
  PE (qN X N sc s3 H3 fp jm) (.Call (.Name f p) [.Name x p2] [] pos) (VG (λφ H=>RE X.K φ H ρ0 σ) X.K j3 (wY i (wx X.env q ls) ls RF ρ0)):=by
 intro d s' L H' Q I' ⟨φ,A,ρ,S,re,M,h⟩;unfold wY at h;cases D:ρ[i]? with
 |none=>rw[D]at h;exact h.elim|some ow=>cases ow with
  |none=>rw[D]at h;exact h.elim|some w0=>
   rw[D]at h;cases w0 with
   |clo k xs P=>
    dsimp only at h
    by_cases hP:P=wx X.env q ls k
    ·rw[aa hP]at h
     subst hP;cases C:ls[k]? with
     |none=>rw[C]at h;exact h.elim|some t=>
      rw[C]at h;dsimp only at h;cases ec:Zf t.idx ρ0 with
      |none=>rw[ec]at h;exact h.elim|some ws=>
       rw[ec]at h;dsimp only at h;obtain⟨v,U,a,ob,u,c,oc,uc,vs0,rfl,g1,g2,⟨t',E,gp⟩,_⟩:=re.get i _ D;rw[C]at E;cases E;obtain⟨vs,cv,rv⟩:=Ge M ec;obtain⟨fa,fd,ps,F,hm,hk,hb⟩:=hR _ _ (GU I3 f3 B hl s I').2;refine wpAny_Call_Name_kw (QA I' hg hm ?_ hdf);refine callWith_K (h₀:=X.base) I3.mod.kin hk (zM (jD (XI (X:=qN X N sc s3 H3 fp jm) hi hv hdx hcx) yC he pos d s' L H' (λg H1=>g=[.ref a]/\H1=H') I' ⟨.ref a,U,rfl,rfl⟩) λus s1 ⟨g,H1,I,r1,ev,eh⟩=>⟨I.kIn,?_⟩) he Y;subst ev;subst eh;obtain⟨e0,hL⟩:=GU I3 f3 B hl s I;obtain⟨fa',fd',T,F',o,hk',hb'⟩:=hR _ _ hL;rw[hm]at o;cases o;have l:Q6 X.K 1 (wQ (Yg X.env q ls σ) RF) [.ref a] H1 Q E0:=by
        refine⟨rfl,φ,A,[.clo k ws (Yg X.env q ls σ k)],S,.one ⟨a,ob,u,c,oc,uc,vs,rfl,g1,g2,⟨t,C,gp,cv⟩,rv⟩,?_⟩;unfold wQ;dsimp only;rw[aa rfl];exact ql h (λ_ _ z=>z) λy A2 z J H2 l2 S2=>(z J H2 l2 S2).elim
       have Z:=F'.len _ _ _ _ l;have hu:us.length=T.length:=by rw[<- r1.length];exact Z
       refine wpAny_call (codeAny_mono (F'.run X.A X.stack s1 H1 ⟨[]++us,[]⟩ us [.ref a] Q E0 hr e0 ?_ r1 l) λr s2 n=>?_)
       ·have:=hb' s1 us (show _ from I.kIn) (by rw[a7];exact hu)
        rw[a7]at this;exact this
       ·cases r with
        |error e=>exact False.elim n|ok fl=>
         cases fl with
         |ret u1=>exact I.after n|next=>exact False.elim n|brk=>exact False.elim n|cont=>exact False.elim n
    ·rw[af hP]at h;exact h.elim
   |_=>exact h.elim
end
def wa (nl:Nat)(mi:Ei)(tw:Tg)(i:Nat)(PF:jo)(ls:List Lm)(RF:Nat->List W->Hx->R W):jy:=λρ A=>jI nl [] mi tw (zt (.bl true)) (qX (wY i PF ls RF ρ)) ρ A
def U2 {K:Frag}{mb:bz}{fa:Addr}{sp:Sp}{S:Shared}{j:bj}{ns:bh}
  (KX:K.In S.heap)(A:S.heap.Ns mainGlobals mg)(c:S.heap.Ns builtinsNs mb)(U:∀x:Str,x ≠ "__name__" -> mb x=bootBuiltins x)(B:S.heap.NoLimit)(hg:S.gens=#[])
  (y:S.heap.get? a=some { cls:=.type "list",data:=.seq j.toArray })(hi:IntsAre j ns)(hl:ns.length<=sizeLine)(hr:qE k callerA)
  (t:S.heap.get? Pt=some (tabObj #[]))(X:K.lookup Pt=none)(Q:isCodeTable S.heap Pt)(T:BMain mg S.heap)
  (F:∀base:Heap,K.In base->base.Ns mainGlobals mg->BMain mg base->jJ P w K mg base kg k fa fd [x] sp)(p:∀(s:Shared)(u:Value),BindsTo s fd ⟨[u],[]⟩ [(x,u)])
  (J:∀H:Hp,H Pt=some (.tbl #[])->Qh K H a (ns.map V.int)->sp [.ref a] H (λv _=>v=.bl true) λ_ _ _=>False):
  codeAny (model P w) callerA (.call (.ref fa) ⟨[.ref a],[]⟩) (λr s'=>r=.ok (.ret (.bool true))/\OldK S.heap s'.heap/\s'.os=S.os/\AllBare s'.gens) S:=by
 have rv:=Gb hi;have L:=hi.length;have l:a≠Pt:=λz=>by rw[z,t]at y;cases y
 have core:∀H:Hp,H Pt=some (.tbl #[])->Qh K H a (ns.map V.int)->qg P w H S.heap->(∀b,H b≠none->b=a∨b=Pt)->(∀u,H a=some u->K.lookup a=none/\∃o xs,u=.frz o (.lst xs))->
   codeAny (model P w) callerA (.call (.ref fa) ⟨[.ref a],[]⟩) (λr s'=>r=.ok (.ret (.bool true))/\OldK S.heap s'.heap/\s'.os=S.os/\AllBare s'.gens) S:=by
  intro H hO hS hok E hK;have base_of:∀{b:Addr}{o:Obj},S.heap.get? b=some o->H b=none->(wc S.heap H).get? b=some o:=λe n=>TY e n;have I:∀{b:Addr}{o:Obj}{es:Array DictEntry}{ep:Nat},S.heap.get? b=some o->o.data=.dict es ep->H b=none:=λ {b o es ep} e d=>by
   cases q:H b with
   |none=>rfl|some u=>
    rcases E b (by rw[q];simp) with z|z
    ·subst z
     rw[y]at e;cases e;have d':Data.seq j.toArray _=Data.dict es ep:=d;cases d'
    ·subst z
     rw[t]at e;cases e;cases d
  have N:∀{b:Addr}{m:bz},S.heap.Ns b m->(wc S.heap H).Ns b m:=λ {b m} ⟨o,es,ep,e,d,r⟩=>⟨o,es,ep,base_of e (I e d),d,r⟩;have C:K.In (wc S.heap H):=λb o e=>base_of (KX b o e) (by
   cases q:H b with
   |none=>rfl|some u=>
    rcases E b (by rw[q];simp) with z|z
    ·subst z
     rw[(hK u q).1]at e;cases e
    ·subst z
     rw[X]at e;cases e)
  have Y:BMain mg (wc S.heap H):=by
   obtain⟨bm,o,b1,b2,b3,D,b5,b6,b7⟩:=T;refine⟨bm,o,b1,b2,b3,base_of D ?_,b5,b6,b7⟩;cases q:H bm with
   |none=>rfl|some u=>
    rcases E bm (by rw[q];simp) with z|z
    ·subst z
     rw[y]at D;cases D;exact absurd b5 (by intro q;injection q with q;exact absurd q (by decide))
    ·subst z
     rw[t]at D;cases D;cases b5
  have hM:Mod K mg (wc S.heap H):=⟨C,N A,⟨mb,N c,U⟩,let ⟨mc,h1,h2⟩:=B;⟨mc,N h1,h2⟩⟩
  have e0:Qc P w K mg (wc S.heap H) callerA [] S H:=⟨rfl,hM,λb o e=>PQ e,Nat.le_of_eq (Td _ _),trivial,λb c=>absurd (show b∈([]:bo) from c) (by simp),hok,.of_eq hg⟩
  refine codeAny_mono ((F _ C (N A) Y).run callerA [] S H ⟨[.ref a],[]⟩ [.ref a] [.ref a] _ _ hr e0 (p S (.ref a)) (.cons rfl .nil) (J H hO hS)) λr s' h=>?_;cases r with
  |error e=>exact False.elim h|ok fl=>
   cases fl with
   |next=>exact False.elim h|brk=>exact False.elim h|cont=>exact False.elim h|ret u=>
    obtain⟨v,H',os,bare,un,g,r',q⟩:=h;have q':v=.bl true:=q;subst q';obtain rfl:u=Value.bool true:=r';refine⟨rfl,⟨λb o e=>?_,λb o e=>un.there b o e (by simp)⟩,os,bare⟩
    cases q:H b with
    |none=>exact .inl (un.keep b o e q (by intro z;exact absurd (show b∈([]:bo) from z) (by simp)) (by simp))|some u=>
     rcases E b (by rw[q];simp) with z|z
     ·subst z
      obtain⟨ob,xs,rfl⟩:=(hK u q).2;have i:=un.frzs _ ob _ q;obtain⟨e1,_⟩:=hok _ _ q;obtain⟨e2,_⟩:=g _ _ i;rw[e]at e1;cases e1;exact .inl e2
     ·subst z
      rw[t]at e;cases e;obtain⟨more,i⟩:=un.tbls _ _ hO;exact .inr (.inl ⟨Q,rfl,#[],more,rfl,g _ _ i⟩)
 cases M:K.lookup a with
 |some o=>
  have e:=KX a o M;rw[y]at e;cases e;refine core (λb=>if b=Pt then some (.tbl #[]) else none) (aa rfl) (.inr ⟨_,j.toArray,_,M,rfl,rfl,rfl,by rw[az,L];exact hl,by simpa using rv⟩) (λb u z=>?_) (λb z=>?_) λu z=>?_
  ·by_cases c:b=Pt
   ·have Z:=(aa c).symm.trans z
    cases Z;rw[c];exact t
   ·have Z:=(af c).symm.trans z
    cases Z
  ·by_cases c:b=Pt
   ·exact .inr c
   ·exact absurd (af c) z
  ·have Z:=(af l).symm.trans z
   cases Z
 |none=>
  refine core (λb=>if b=Pt then some (.tbl #[]) else if b=a then some (.frz { cls:=.type "list",data:=.seq j.toArray } (.lst (ns.map V.int))) else none) (aa rfl)
   (.inl ⟨{ cls:=.type "list",data:=.seq j.toArray },(af l).trans (aa rfl)⟩) (λb u z=>?_) (λb z=>?_) λu z=>?_
  ·by_cases c:b=Pt
   ·have Z:=(aa c).symm.trans z
    cases Z;rw[c];exact t
   ·have Z:=(af c).symm.trans z
    by_cases f:b=a
    ·have i:=(aa f).symm.trans Z
     cases i;subst f;exact⟨y,by rw[aC];exact hl,j,_,rv,y⟩
    ·have i:=(af f).symm.trans Z
     cases i
  ·by_cases c:b=Pt
   ·exact .inr c
   ·by_cases f:b=a
    ·exact .inl f
    ·exact absurd ((af c).trans (af f)) z
  ·have Z:=((af l).trans (aa rfl)).symm.trans z
   cases Z;exact⟨M,_,_,rfl⟩
inductive spT (K:Frag)(n:Nat)(fs:jo->Fn)(vs:List V)(H:Hp)(Q:VK)(E:XK):Prop
 |mk (len:vs.length=n) (φ:bo) (A:Hx) (ws:List W) (S:zr K φ A H) (r:zx K φ H ws vs) (q:∀PF,(fs PF ws A).post (PB K φ H Q) (EB K φ H (XE K E)))
def spT.len {K:Frag}{fs:jo->Fn}{Q:VK}{E:XK}(h:spT K n fs vs H Q E):vs.length=n:=by cases h;assumption
def XT (q:Str)(fs:Addr->jo->Fn):Prop:=∀ns:bh,ns.length<=63->∀Pt PF,∃A,fs Pt PF [.ref 0] [.ro (ns.map W.int),.tab q Pt]=.ok (.bl true) A
def UC {K:Frag}{q:Str}{ns:bh}(P:H Pt=some (.tbl #[]))(S:Qh K H a (ns.map V.int)):zr K [a,Pt] [.ro (ns.map W.int),.tab q Pt] H:=by
 refine⟨rfl,λi j b o o' h1 g d c f M=>?_,λn o h=>?_⟩
 ·match i,j,d,c with
  |0,_,d,_=>simp at d;subst d;cases f|_,0,_,c=>simp at c;subst c;cases M|1,1,_,_=>rfl|i+2,_,d,_=>simp at d|_,j+2,_,c=>simp at c
 ·match n,h with
  |0,h=>simp at h;subst h;exact⟨a,rfl,ns.map V.int,S,zx.ints.mpr rfl⟩|1,h=>simp at h;subst h;exact⟨Pt,rfl,rfl,#[],P,trivial,λpos cv e=>nomatch e⟩
  |n+2,h=>simp at h
section
variable {K:Frag}
def SH {a:Value}{o:bE}(hn:nsIn K mainGlobals x=some (some (.ref f)))(lk:K.lookup f=some ⟨a,o,.func fd,osl⟩)(h:tabIn K x=some (c,Pt)):fd.code=.ref c:=by
 unfold tabIn at h;rw[hn]at h;dsimp only at h;rw[lk]at h;dsimp only at h
 split at h
 ·rename_i C H
  split at h
  ·split at h
   ·cases h;exact H
   ·cases h
  ·cases h
 ·cases h
end
noncomputable def Kr (K:Frag)(x:Str)(Pt:Addr):Bool:=match tabIn K x with
 |some (c,P)=>P==Pt&&codeHdIn K c Pt|none=>false
def W8 {K:Frag}(h:Kr K x Pt=true):∃c,tabIn K x=some (c,Pt)/\codeHdIn K c Pt=true:=by
 unfold Kr at h
 split at h
 ·rename_i c P e
  rw[ai,aD]at h;obtain⟨rfl,H⟩:=h;exact⟨c,e,H⟩
 ·cases h
def NP {l:PySem.W.OpenLaw}{q:Program}{loose:bt}{I:World->Heap->Prop}{d:DefRec}{K:Params->Frag}{Q:Str}{fs:Addr->jo->Fn}(ok:XT Q fs)
  (hn:l.most=some 63)(y:d.params.defaults=[])(hr:qE k callerA)(hY:∀(w:World)(h:Heap),I w h->(K w.params).In h)(hT:∀(w:World)(h:Heap),I w h->h.get? Pt=some (tabObj #[]))(M:∀p,Kr (K p) d.name Pt=true)(P:∀p,(K p).lookup Pt=none)
  (F:∀(w:World)(mg:bz)(i:Addr)(h:Heap),(K w.params).In h->h.Ns mainGlobals mg->mg d.name=some (.ref i)->(∃c,tabIn (K w.params) d.name=some (c,Pt)/\codeHdIn (K w.params) c Pt=true)->
   ∃fd:FuncData,(∀(s:Shared)(u:Value),BindsTo s fd ⟨[u],[]⟩ [(x,u)])/\∀base:Heap,(K w.params).In base->base.Ns mainGlobals mg->BMain mg base->jJ l.prog w (K w.params) mg base kg k i fd [x] (spT (K w.params) 1 (fs Pt))):
  PySem.W.WalkO q loose XP I l.row.toRowW d [] (λf J=>PySem.call f J):=by
 refine Att.Uw (n:=63) hn y λw L S mg mb i o pm cd doc a J ns G Y ho hd N t j hints hlen hg=>?_;have X:=hY w _ Y;obtain⟨fd,hb,hF⟩:=F w mg i _ X G.T.g t (W8 (M w.params));obtain⟨c,_,B⟩:=W8 (M w.params);have U:=hT w _ Y;have hc:isCodeTable S.heap Pt:=((codeHd_of_K X B).tab U).isCodeTable;have C:BMain mg S.heap:=by
  obtain⟨bm,ob,b1,b2,E,b4,b5,D⟩:=G.T.bmain;refine⟨bm,ob,b1,b2,λz=>?_,E,b4,b5,D⟩;obtain⟨o,es,ep,e,hd,_⟩:=G.T.g;rw[z,e]at E;cases E;rw[hd]at D;cases D
 refine U2 X G.T.g G.T.b G.T.builtins G.T.nolimit hg j hints (a8 hlen (by decide)) hr U (P w.params) hc C hF hb λH h1 h2=>?_
 refine⟨rfl,[a,Pt],[.ro (ns.map W.int),.tab Q Pt],[.ref 0],UC h1 h2,.one ⟨a,rfl,rfl⟩,λPF=>?_⟩;obtain⟨A,e⟩:=ok ns hlen Pt PF;rw[e];exactλZ H' v _ _ r=>r
def j5.m {K:Frag}{f:Fn}(F:j5 P w K mg base k x n f):qe P w K mg base k x n λws A=>(f ws A).nox:=by
 obtain⟨i,fd,ps,F,hm,c,d⟩:=F;have up:∀v H Q E,Q6 K n (λws A=>(f ws A).nox) v H Q E->Yh K n f v H Q (λ_ _ _=>False):=λv H Q E ⟨l,φ,A,ws,S,r,h⟩=>⟨l,φ,A,ws,S,r,by
  cases a:f ws A with
  |ok u A1=>(try dsimp only at h);rw[a]at h;exact h|exc y A1=>(try dsimp only at h);rw[a]at h;exact h.elim|bad=>(try dsimp only at h);rw[a]at h;exact h.elim⟩
 refine⟨i,fd,ps,⟨λv H Q E h=>F.len v H Q _ (up v H Q E h),λA outer s H args us v Q E b he t hv h=>?_⟩,hm,c,d⟩;refine codeAny_mono (F.run A outer s H args us v Q _ b he t hv (up v H Q E h)) λr s' h'=>?_;cases r with
 |error e=>
  unfold CR at h';obtain⟨_,_,_,_,_,_,_,_,_,_,z⟩:=h';exact z.elim
 |ok g=>cases g<;>exact h'
theorem j5.mono {K:Frag}{f:Fn}(F:j5 P w K mg base j x n f)(h:j<=k):j5 P w K mg base k x n f:=by cases F with|mk d fd ps F a b c=>exact⟨d,fd,ps,F.mono h,a,b,c⟩
noncomputable abbrev Yj:bj:=[.type "ValueError",.type "Exception",.type "BaseException",.type "object"]
noncomputable abbrev J1:String := "ValueError.__new__"
section
variable {K:Frag}{cs:bt}{top nm:Str}
noncomputable def clsAt (K:Frag)(x:Str):Addr:=match nsIn K mainGlobals x with
 |some (some (.ref C))=>C|_=>0
def isAt (K:Frag)(x:Str):Bool:=nsIn K mainGlobals x==some (some (.ref (clsAt K x)))
def jM (cs:bt)(x:Str):Str->Option Bool:=λnm=>if cs.contains nm then some (nm==x) else none
def Wj (cs:bt):Str->Option Bool:=λnm=>if cs.contains nm then some true else none
def gn (K:Frag)(cs:bt)(x:Str):Bool:=isAt K x&&kitOne K (.type "NoneType") (.ref (clsAt K x))==some false&&cs.all λnm=>kitOne K (.ref (clsAt K nm)) (.ref (clsAt K x))==some (nm==x)
def JM (K:Frag)(top nm:Str):Bool:=isAt K nm&&QE K (clsAt K nm)&&Mi.kK K (clsAt K nm) Yj J1&&Zn K (clsAt K nm) (clsAt K top)&&kitOne K (.ref (clsAt K nm)) (.type "ValueError")==some true
def Ko (K:Frag)(top:Str):Bool:=isAt K top&&Mi.kK K (clsAt K top) Yj J1&&kitOne K (.type "NoneType") (.type "ValueError")==some false
def Y7 (h:isAt K x=true):jP K x (.ref (clsAt K x)):=aD.mp h
def YZ {C:Addr}(h:jP K x (.ref C)):C=clsAt K x:=by
 unfold clsAt;unfold jP at h;rw[h]
structure YV (K:Frag)(top nm:Str):Prop where
 at_:jP K nm (.ref (clsAt K nm))
 kit:QE K (clsAt K nm)=true
 exc:Mi.kK K (clsAt K nm) Yj J1=true
 up:Zn K (clsAt K nm) (clsAt K top)=true
 val:kitOne K (.ref (clsAt K nm)) (.type "ValueError")=some true
def O8 (h:JM K top nm=true):YV K top nm:=by
 unfold JM at h;simp only[ai,aD]at h;obtain⟨⟨⟨⟨h1,c⟩,b⟩,a⟩,H⟩:=h;exact⟨Y7 h1,c,b,a,H⟩
structure yH (K:Frag)(cs:bt)(top:Str):Prop where
 exc:∀nm,cs.contains nm=true->YV K top nm
 top_at:jP K top (.ref (clsAt K top))
 top_exc:Mi.kK K (clsAt K top) Yj J1=true
 non:kitOne K (.type "NoneType") (.type "ValueError")=some false
def P2 (h:cs.all (JM K top ·)=true)(t:Ko K top=true):yH K cs top:=by
 unfold Ko at t;simp only[ai,aD]at t;obtain⟨⟨t1,t2⟩,t3⟩:=t;exact⟨λnm e=>O8 (bJ.mp h nm (List.contains_iff_mem.mp e)),Y7 t1,t2,t3⟩
def yH.isx (c:yH K cs top)(h:gn K cs x=true):QO K (jM cs x) (.ref (clsAt K x)):=by
 unfold gn at h;simp only[ai,aD]at h;obtain⟨⟨h1,d⟩,a⟩:=h;refine⟨d,λnm C b e H=>?_⟩;unfold jM at e
 by_cases hm:cs.contains nm=true
 ·rw[aa hm]at e
  cases e;cases YZ H;exact⟨(c.exc nm hm).kit,aD.mp (bJ.mp a nm (List.contains_iff_mem.mp hm))⟩
 ·rw[af hm]at e;cases e
def jY (h:gn K cs x=true):jP K x (.ref (clsAt K x)):=by
 unfold gn at h;simp only[ai,aD]at h;exact Y7 h.1.1
def yH.isv (c:yH K cs top):QO K (Wj cs) (.type "ValueError"):=by
 refine⟨c.non,λnm C b e h=>?_⟩;unfold Wj at e
 by_cases hm:cs.contains nm=true
 ·rw[aa hm]at e
  cases e;cases YZ h;exact⟨(c.exc nm hm).kit,(c.exc nm hm).val⟩
 ·rw[af hm]at e;cases e
def yH.under (c:yH K cs top):∀nm,cs.contains nm=true->∀C,jP K nm (.ref C)->∃b n,Mi.kK K C b n=true/\Zn K C (clsAt K top)=true:=λnm hm C h=>by
 cases YZ h;exact⟨_,_,(c.exc nm hm).exc,(c.exc nm hm).up⟩
end
noncomputable def JQ (M:bt)(sc:Scope)(t:Lm):Bool:=t.idx.length==t.N.length&&((List.range t.N.length).all λi=>match t.N[i]?,t.idx[i]? with
 |some x,some j=>M[j]?==some x&&t.scope.names.lookup x==some .free|_,_=>false)&&t.scope.names.all λy=>!(y.2==.free) || (sc.names.lookup y.1==some .cell || sc.names.lookup y.1==some .free)
def G6 {t:Lm}(h:JQ X.N X.env.scope t=true):Zi X t:=by
 unfold JQ at h;rw[ai,ai]at h;obtain⟨⟨h1,c⟩,b⟩:=h;refine⟨aD.mp h1,λi x j E d=>?_,λy H e=>?_⟩
 ·have a:i<t.N.length:=(bI.mp E).1
  have q:=bJ.mp c i (bK.mpr a);rw[E,d]at q;dsimp only at q;rw[ai]at q;exact⟨aD.mp q.1,aD.mp q.2⟩
 ·have q:=bJ.mp b y H
  rw[e]at q;rw[aU,aU]at q;rcases q with q|q|q
  ·cases q
  ·exact .inl (aD.mp q)
  ·exact .inr (aD.mp q)
def all_nil {p:α->Prop}:∀t∈([]:List α),p t:=λ_ h=>nomatch h
def all_cons {p:α->Prop}{a:α}{l:List α}(h:p a)(r:∀t∈l,p t):∀t∈a::l,p t:=λt H=>by
 rcases bL.mp H with e|e
 ·rw[e];exact h
 ·exact r t e
def Na {q:Str}{ls:List Lm}{t:Lm}(H:ls[k]? =some t):wx env q ls k=J0 q t.params t.body t.scope (yb env t.scope.names []):=by
 funext ob c o vs
 refine propext ⟨λ⟨t',e,h⟩=>?_,λh=>⟨t,H,h⟩⟩;rw[H]at e;cases e;exact h
noncomputable def kZ:Stmt:=.Pass ⟨0,0,0,0⟩
noncomputable def Z0:Expr:=.Constant .none 0 ⟨0,0,0,0⟩
def Z2 (s:Stmt)(i:Nat):Stmt:=match s with
 |.For _ _ b _ _=>b.getD i kZ|.If _ b _ _=>b.getD i kZ|.While _ b _ _=>b.getD i kZ|_=>kZ
def Z6 (s:Stmt):Expr:=match s with
 |.Assign _ v _=>v|.Expr v _=>v|.Return (some v) _=>v|_=>Z0
def Z5 (e:Expr)(i:Nat):Expr:=match e with
 |.Call _ a _ _=>a.getD i Z0|.List es _=>es.getD i Z0|.Tuple es _ _=>es.getD i Z0|.BinOp a _ b _=>if i=0 then a else b|_=>Z0
noncomputable def M4 (e:Expr):Arguments:=match e with
 |.Lambda a _ _ _=>a|_=>{ posonlyargs:=[],args:=[],vararg:=none,kwonlyargs:=[],kw_defaults:=[],kwarg:=none,defaults:=[] }
def Ld (e:Expr):Expr:=match e with
 |.Lambda _ b _ _=>b|_=>Z0
noncomputable def Lx (e:Expr):Scope:=match e with
 |.Lambda _ _ s _=>s|_=>{ kind:=.function,names:=[],isGenerator:=false,isCoroutine:=false }
def yZ (e:Expr)(N:bt)(idx:bq)(m:Ev):Lm:=⟨N,idx,M4 e,Ld e,Lx e,m⟩
def Mt {K:Frag}{st:Stmt}(F:yJ K x x st f fd)(hm:mg x=some (.ref f))
  (b:∀(kV doc pm:Value)(an:bE)(c ct:Value)(us:bj),us.length=ps.length->bindArgs (fnOf x x (gj st) (jX st) (qA st) .none kV doc pm an c ct) ⟨us,[]⟩=pure (ps.zip us)):qe P w K mg base k x ps.length (λ_ _=>.bad):=
 ⟨f,fd,ps,⟨λv H Q E h=>h.1,λA outer s H args us v Q E _ _ _ _ h=>by obtain⟨_,_,_,_,_,_,z⟩:=h;exact z.elim⟩,hm,F.kp,F.binds b⟩
def RO {K:Frag}(t a b:Ty):kitAny K (.type t.nm) [.type a.nm,.type b.nm]=some (yr t a || yr t b):=by
 unfold kitAny;rw[JE];cases yr t a with
 |true=>rfl|false=>
  dsimp only;unfold kitAny;rw[JE];cases yr t b<;>rfl
section
variable {a b:Expr}{m:Ev}
def Zr.kitx {x:V}{t:Ty}(I:Inv X pins σ H s)(r:RelV x u)(h:Zr X.K H x t):∃c:Heap->Prop,PySem.W.KitX X.K u (.type t.nm) c/\c s.heap/\u≠.builtin "__main__.__loader__#opaque":=by
 rcases h with h|⟨a,xs,rfl,h,rfl⟩
 ·generalize hT:Value.type t.nm=T at h
  cases h with
  |non=>cases (show u=Value.none from r);exact⟨_,kitx_none,True.intro,λz=>nomatch z⟩
  |bl y=>cases (show u=Value.bool y from r);exact⟨_,kitx_bool,True.intro,λz=>nomatch z⟩
  |int i=>obtain⟨t,q⟩:=(show ∃t,u=Value.int i t from r);cases q;exact⟨_,kitx_int,True.intro,λz=>nomatch z⟩
  |str y=>obtain⟨t,q⟩:=(show ∃t,u=Value.str y t from r);cases q;exact⟨_,kitx_str,True.intro,λz=>nomatch z⟩
  |flt y=>obtain⟨t,q⟩:=(show ∃t,u=Value.float y t from r);cases q;exact⟨_,kitx_float,True.intro,λz=>nomatch z⟩
  |@lst a xs ea=>
   cases (show u=Value.ref a from r)
   obtain⟨_,_,n,_,h1⟩:=(show qI X.prog X.w H s.heap a (.lst xs) from I.hok a _ ea)
   exact⟨_,kitx_list,⟨_,h1,rfl⟩,λz=>nomatch z⟩
  |@frz a ob xs ea=>
   cases (show u=Value.ref a from r)
   obtain⟨_,_,_,n,_,h1⟩:=(show qI X.prog X.w H s.heap a (.frz ob (.lst xs)) from I.hok a _ ea)
   exact⟨_,kitx_list,⟨_,h1,rfl⟩,λz=>nomatch z⟩
  |@tup a xs ea=>
   cases (show u=Value.ref a from r)
   obtain⟨_,_,_,p⟩:=(show qI X.prog X.w H s.heap a (.tup xs) from I.hok a _ ea)
   obtain⟨o,h1,b,_⟩:=p;exact⟨_,kitx_tuple,⟨o,h1,b.1⟩,λz=>nomatch z⟩
  |@dK a kvs ea=>
   cases (show u=Value.ref a from r)
   obtain⟨_,_,_,_,o,_,_,h1,b,_⟩:=(show qI X.prog X.w H s.heap a (.dK kvs) from I.hok a _ ea)
   exact⟨_,kitx_dict,⟨o,h1,b.1⟩,λz=>nomatch z⟩
  |@dT a kvs ea=>
   cases (show u=Value.ref a from r)
   obtain⟨_,_,_,_,o,_,_,h1,b,_⟩:=(show qI X.prog X.w H s.heap a (.dT kvs) from I.hok a _ ea)
   exact⟨_,kitx_dict,⟨o,h1,b.1⟩,λz=>nomatch z⟩
  |ins=>cases hT
 ·cases (show u=Value.ref a from r)
  obtain⟨d,_,⟨o,h1,b,_⟩,_⟩:=I.tuple h;exact⟨_,kitx_tuple,⟨o,h1,b⟩,λz=>nomatch z⟩
def M1 (K:Frag)(a b:Ty):List V->Hp->VK->Prop:=λxs H Q=>∃x t l,xs=[x,.ref l]/\qb K H l [.ty (Ty.nm a),.ty (Ty.nm b)]/\Zr K H x t/\Q (.bl (yr t a || yr t b)) H
def TV {a b:Ty}:yq X (.builtin "isinstance") (M1 X.K a b):=by
 intro pins s σ H xs us Q I r h;obtain⟨x,t,l,rfl,y,w,q⟩:=h;obtain⟨u,e,rfl,f,c⟩:=vals2 r;cases (show e=Value.ref l from c)
 obtain⟨p,v,⟨o,h1,B,k,A⟩,_⟩:=I.tuple y;obtain⟨d,U,rfl,i,g⟩:=vals2 v;cases (show d=Value.type a.nm from i)
 cases (show U=Value.type b.nm from g)
 obtain⟨E,Z,z,ne⟩:=w.kitx I f;obtain⟨n,D,j,C⟩:=o;cases (show n=_ from B)
 cases (show j=_ from A)
 exact PySem.W.kia_tup Z I.kIn z h1 (RO t a b) ne λT=>⟨.bl (yr t a || yr t b),H,I.tok T,rfl,q⟩
def X9 (t t2:Ty)(m:Ev):Ev:=λρ A=>(m ρ A).bind λw A1=>match Qi w A1 with
 |some t'=>.ok (.bl (yr t' t || yr t' t2)) A1
 |none=>.bad
noncomputable def gG (m:Ev)(tw:Tg):Ex:=λρ A=>(m ρ A).bind λw A1=>match tw w ρ with
 |some a=>.ok (.nx a) A1|none=>.bad
end
open Classical in
def gh:W->W->Hx->R W:=λx y A=>match x,y with
 |.ref n,.ref k=>match A[n]?,A[k]? with
  |some (.lst ws),some (.lst us)=>if ws.length+us.length<=qy then .ok .non (A.set n (.lst (ws++us))) else .bad|_,_=>.bad
 |_,_=>.bad
def TF:∀x y A,qz (gh x y A):=λx y A=>by
 unfold gh
 split
 ·split
  ·exact kY jF qC
  ·exact qC
 ·exact qC
def Yy:fillsNumberSlot (.type "tuple") "mul"=pure false:=
 PySem.fillsNumberSlot_seq (id := "tuple.__mul__") (r:=some (.builtin "tuple.__rmul__")) F.slot_tuple_mul.lookup (by decide +kernel) F.slot_tuple_rmul.lookup (by decide +kernel)
def YL:seqRepeat? (.type "tuple")=pure (some (.builtin "tuple.__mul__")):=by
 unfold seqRepeat?;rw[PySem.seqSlot_of (T := "tuple") (name := "__mul__") (id := "tuple.__mul__") F.slot_tuple_mul.lookup (by decide +kernel),PySem.seqSlot_of (T := "tuple") (name := "__rmul__") (id := "tuple.__rmul__") F.slot_tuple_rmul.lookup (by decide +kernel)]
 rfl
def YI (a:Int)(t:Tok)(l:Addr)(o:bE)(items:Array Value)(n:Nat)(sl:Array (br)):
  Meets (Builtin.«int.__rmul__» ⟨[.int a t,.ref l],[]⟩) (λ_ R s=>s.heap.get? l=some ⟨.type "tuple",o,.seq items n,sl⟩/\R (.ok (.ret Value.notImplemented)) s):=
 .of_wp λprog w A R s h=>by
  obtain⟨H,g,d,T,os⟩:=s;obtain⟨b,h⟩:=h
  wp_walk
  exact⟨_,rfl,h⟩
def Tc (k:Int)(t:Tok)(l:Addr)(o:bE)(items:Array Value)(n:Nat)(sl:Array (br))(j:2<=k)(f:k<1000)(i:0<items.size)(z:items.size<1000):
  Meets (Builtin.«tuple.__mul__» ⟨[.ref l,.int k t],[]⟩) (λ_ R s=>s.heap.get? l=some ⟨.type "tuple",o,.seq items n,sl⟩/\R (.ok (.ret (.ref s.heap.objs.size))) { s with heap:=s.heap.push { cls:=.type "tuple",data:=.seq ((List.replicate k.toNat items).foldl (·++·) #[]) } }):=
 .of_wp λprog w A R s h=>by
  obtain⟨p,g,d,T,os⟩:=s;obtain⟨c,h⟩:=h;have u:items.isEmpty=false:=by
   cases he:items.isEmpty with
   |false=>rfl|true=>rw[Array.isEmpty_iff_size_eq_zero]at he;omega
  have r:(k==1)=false:=by rw[beq_eq_false_iff_ne];omega
  have b:(decide (k < -2 ^ 63) || decide (k ≥ 2 ^ 63))=false:=by
   rw[Bool.or_eq_false_iff,decide_eq_false_iff_not,decide_eq_false_iff_not];omega
  have q:decide (k<=0)=false:=by rw[decide_eq_false_iff_not];omega
  have hm:(items.size:Int) * k<=1000 * 1000:=Int.mul_le_mul (by omega) (by omega) (by omega) (by omega)
  have a:¬(items.size:Int) * k > (2 ^ 63-1)/8:=by omega
  have E:Builtin.Tuple.tupleTooMany ((items.size:Int) * k)=false:=by
   unfold Builtin.Tuple.tupleTooMany
   have:sizeLine=16777216:=sizeLine_eq
   rw[decide_eq_false_iff_not];omega
  wp_walk
  rw[b];rw[af (by decide)]
  dsimp only
  wp_walk
  rw[af a,E,af (by decide)]
  have H:(List.foldl (λx1 x2=>x1++x2) #[] (List.replicate k.toNat items)).size<=sizeLine:=by
   have hf:=foldl_rep items.toList k.toNat [];rw[nil_append]at hf;have e:items.toList.toArray=items:=by simp
   rw[e]at hf;rw[hf,az,len_rep]
   have:sizeLine=16777216:=sizeLine_eq
   have:k.toNat * items.toList.length<=1000 * 1000:=Nat.mul_le_mul (by omega) (by rw[length_toList];omega)
   omega
  refine bG (m:=Builtin.Tuple.tupleExact _) (wpAny_newObj_type ?_ H);exact bH ⟨_,rfl,h⟩
section
variable {K:Frag}{b:Expr}
def KU (K:Frag):R2:=λx y H Q=>∃l k xs,x=.ref l/\y=.int k/\qb K H l xs/\2<=k/\k<1000/\0<xs.length/\xs.length<1000/\
 ∀p,H p=none->Q (.ref p) (upd H p (.tup (List.replicate k.toNat xs).flatten))
def RG:qw X (binaryOp .Mult) (KU X.K):=by
 intro pins s σ H x y v u Q I e d h;obtain⟨l,k,xs,rfl,rfl,f,h1,g,A,z,q⟩:=h;cases e;obtain⟨t,rfl⟩:=d;obtain⟨i,r,p,_⟩:=I.tuple f;obtain⟨⟨cls,dd,data,sl⟩,a,c,n,hd⟩:=id p;simp only at c hd;subst c hd;have w:List.foldl (λx1 x2=>x1++x2) #[] (List.replicate k.toNat i.toArray)=(List.replicate k.toNat i).flatten.toArray:=by
  have:=foldl_rep i k.toNat []
  rw[nil_append]at this;exact this
 have hlen:=r.length;refine wpAny_binaryOp_repeat_ref (T := "tuple") (U := "int") (by decide) ⟨_,a,rfl⟩ (λs'=>typeIs_int s' k t) Yy F.fills_int_mul F.slot_int_rmul YL F.slot_int_index.lookup
  (call_meets F.slot_int_rmul (typeIs_int s k t) F.entry_int_rmul (F.args_int_rmul_2 _ _) (YI k t l dd i.toArray n sl)
   ⟨a,rfl,⟨_,a,rfl⟩,call_meets F.slot_tuple_mul ⟨_,a,rfl⟩ F.entry_tuple_mul (F.args_tuple_mul_2 _ _) (Tc k t l dd i.toArray n sl h1 g (by rw[az];omega) (by rw[az];omega)) ⟨a,?_⟩⟩)
 rw[w];refine⟨.ref s.heap.objs.size,_,I.laid (t':=s.toks) (o:=.tup (List.replicate k.toNat xs).flatten) (λb ob q=>ae _ q) (aA _) ?_,rfl,q _ (I.hok.fresh (aA _))⟩;refine⟨?_,_,r.rep k.toNat,gu.new _ _⟩;rw[len_rep];have j:sizeLine=16777216:=sizeLine_eq
 have:k.toNat * xs.length<=1000 * 1000:=Nat.mul_le_mul (by omega) (by omega)
 omega
noncomputable def KJ:W->W->Hx->R W:=λx y A=>match x,y with
 |.tup xs,.int k=>if decide (2<=k)&&(decide (k<1000)&&(decide (0<xs.length)&&decide (xs.length<1000))) then .ok (.tup (List.replicate k.toNat xs).flatten) A else .bad|_,_=>.bad
def Sk:jB K (KU K) KJ:=λφ A H x y u v Q S b q p=>by
 cases u with
 |tup xs=>cases v with
  |int j=>
   obtain⟨a1,a,rfl,t1,r⟩:=b;obtain rfl:=q;unfold KJ at p;dsimp only at p
   by_cases h:(decide (2<=j)&&(decide (j<1000)&&(decide (0<xs.length)&&decide (xs.length<1000))))=true
   ·rw[aa h]at p
    simp only[ai,ah]at h;refine⟨a1,j,a,rfl,rfl,t1,h.1,h.2.1,by rw[<- r.length];exact h.2.2.1,by rw[<- r.length];exact h.2.2.2,λl c=>?_⟩
    obtain⟨e,d,C⟩:=QI S c (r.rep j.toNat);exact p _ _ _ e d C
   ·rw[af h]at p;exact p.elim
  |_=>exact p.elim
 |_=>cases v<;>exact p.elim
end
section
open PySem.SeqAt
open PySem.AutoSeq1 (wpAny_loadPart')
open PySem.MeetsSeq PySem.MeetsSeq2 PySem.MeetsSeq3
end
end Mi
variable {ls:List Mi.Lm}
namespace Mi
open PySem
open PySem PySem.Spec PyProof.Rows
namespace F
end F
open PySem PySem.Spec PyProof.Rows L2
def UE (t:Tok)(l:Addr)(o:bE)(items:Array Value)(n:Nat)(sl:Array (br)):
  Meets (Builtin.«tuple.__mul__» ⟨[.ref l,.int 1 t],[]⟩) (λ_ R s=>s.heap.get? l=some ⟨.type "tuple",o,.seq items n,sl⟩/\R (.ok (.ret (.ref l))) s):=
 .of_wp λprog w A R s h=>by
  obtain⟨H,g,d,T,os⟩:=s;obtain⟨a,h⟩:=h;have E:((1:Int)==1)=true:=rfl;have e:(decide ((1:Int) < -2 ^ 63) || decide ((1:Int) ≥ 2 ^ 63))=false:=by decide
  wp_walk
  exact⟨_,rfl,h⟩
section
variable {K:Frag}
def KI (K:Frag):R2:=λx y H Q=>(∃l xs,x=.ref l/\y=.int 1/\qb K H l xs/\Q (.ref l) H)∨KU K x y H Q
def Rh:qw X (binaryOp .Mult) (KI X.K):=by
 intro pins s σ H x y v u Q I b a h;rcases h with ⟨l,xs,rfl,rfl,d,q⟩|h
 ·cases b
  obtain⟨t,rfl⟩:=a;obtain⟨i,r,p,_⟩:=I.tuple d;obtain⟨⟨cls,dd,data,sl⟩,o,c,n,hd⟩:=id p;simp only at c hd;subst c hd;refine wpAny_binaryOp_repeat_ref (T := "tuple") (U := "int") (by decide) ⟨_,o,rfl⟩ (λs'=>typeIs_int s' 1 t) Yy F.fills_int_mul F.slot_int_rmul YL F.slot_int_index.lookup
   (call_meets F.slot_int_rmul (typeIs_int s 1 t) F.entry_int_rmul (F.args_int_rmul_2 _ _) (YI 1 t l dd i.toArray n sl)
    ⟨o,rfl,⟨_,o,rfl⟩,call_meets F.slot_tuple_mul ⟨_,o,rfl⟩ F.entry_tuple_mul (F.args_tuple_mul_2 _ _) (UE t l dd i.toArray n sl) ⟨o,?_⟩⟩)
  exact⟨.ref l,H,I,rfl,q⟩
 ·exact RG pins s σ H x y v u Q I b a h
noncomputable def KN:W->W->Hx->R W:=λx y A=>match x,y with
 |.tup xs,.int k=>if decide (1<=k)&&(decide (k<1000)&&(decide (0<xs.length)&&decide (xs.length<1000))) then .ok (.tup (List.replicate k.toNat xs).flatten) A else .bad|_,_=>.bad
def TU:jB K (KI K) KN:=λφ A H x y u v Q S q b p=>by
 cases u with
 |tup xs=>cases v with
  |int j=>
   unfold KN at p;dsimp only at p
   by_cases h:(decide (1<=j)&&(decide (j<1000)&&(decide (0<xs.length)&&decide (xs.length<1000))))=true
   ·rw[aa h]at p
    simp only[ai,ah]at h
    by_cases h1:j=1
    ·subst h1
     obtain⟨a1,a,rfl,t1,r⟩:=id q;obtain rfl:=b;refine .inl ⟨a1,a,rfl,rfl,t1,?_⟩;have e:(List.replicate (1:Int).toNat xs).flatten=xs:=by simp
     rw[e]at p;exact p _ _ _ Le.refl S q
    ·refine .inr (Sk φ A H x y (.tup xs) (.int j) Q S q b ?_)
     unfold KJ;dsimp only;rw[aa (by simp only[ai,ah];exact⟨by omega,h.2⟩)]
     exact p
   ·rw[af h]at p;exact p.elim
  |_=>exact p.elim
 |_=>cases v<;>exact p.elim
end
end Mi
namespace PySem.SeqAt
open PySem
end PySem.SeqAt
namespace Mi
open PySem PySem.Spec PyProof.Rows L2
def Uy (t:Tok)(l:Addr)(o:bE)(items:Array Value)(n:Nat)(sl:Array (br))(i:0<items.size):
  Meets (Builtin.«tuple.__mul__» ⟨[.ref l,.int 0 t],[]⟩) (λ_ R s=>s.heap.get? l=some ⟨.type "tuple",o,.seq items n,sl⟩/\R (.ok (.ret (.ref s.heap.objs.size))) { s with heap:=s.heap.push { cls:=.type "tuple",data:=.seq #[] } }):=
 .of_wp λprog w A R s h=>by
  obtain⟨H,g,d,T,os⟩:=s;obtain⟨a,h⟩:=h;have c:items.isEmpty=false:=by
   cases he:items.isEmpty with
   |false=>rfl|true=>rw[Array.isEmpty_iff_size_eq_zero]at he;omega
  have b:((0:Int)==1)=false:=rfl;have E:(decide ((0:Int) < -2 ^ 63) || decide ((0:Int) ≥ 2 ^ 63))=false:=by decide
  have e:decide ((0:Int)<=0)=true:=by decide
  wp_walk
  exact⟨_,rfl,h⟩
section
variable {K:Frag}{b:Expr}
def X6 (K:Frag):R2:=λx y H Q=>(∃l xs,x=.ref l/\y=.int 0/\qb K H l xs/\0<xs.length/\∀p,H p=none->Q (.ref p) (upd H p (.tup [])))∨KI K x y H Q
def Rn:qw X (binaryOp .Mult) (X6 X.K):=by
 intro pins s σ H x y v u Q I d c h;rcases h with ⟨l,xs,rfl,rfl,f,g,q⟩|h
 ·cases d
  obtain⟨t,rfl⟩:=c;obtain⟨i,r,p,_⟩:=I.tuple f;obtain⟨⟨cls,dd,data,sl⟩,a,e,n,hd⟩:=id p;simp only at e hd;subst e hd;have hlen:=r.length;refine wpAny_binaryOp_repeat_ref (T := "tuple") (U := "int") (by decide) ⟨_,a,rfl⟩ (λs'=>typeIs_int s' 0 t) Yy F.fills_int_mul F.slot_int_rmul YL F.slot_int_index.lookup
   (call_meets F.slot_int_rmul (typeIs_int s 0 t) F.entry_int_rmul (F.args_int_rmul_2 _ _) (YI 0 t l dd i.toArray n sl)
    ⟨a,rfl,⟨_,a,rfl⟩,call_meets F.slot_tuple_mul ⟨_,a,rfl⟩ F.entry_tuple_mul (F.args_tuple_mul_2 _ _) (Uy t l dd i.toArray n sl (by rw[az];omega)) ⟨a,?_⟩⟩)
  refine⟨.ref s.heap.objs.size,_,I.laid (t':=s.toks) (o:=.tup []) (λb ob q=>ae _ q) (aA _) ?_,rfl,q _ (I.hok.fresh (aA _))⟩;refine⟨zero_le _,[],?_,gu.new _ _⟩;exact r.rep 0
 ·exact Rh pins s σ H x y v u Q I d c h
noncomputable def yL:W->W->Hx->R W:=λx y A=>match x,y with
 |.tup xs,.int k=>if decide (0<=k)&&(decide (k<1000)&&(decide (0<xs.length)&&decide (xs.length<1000))) then .ok (.tup (List.replicate k.toNat xs).flatten) A else .bad|_,_=>.bad
def RB:∀x y A,qz (yL x y A):=λx y A=>by
 unfold yL
 split
 ·exact kY jF qC
 ·exact qC
def TQ:jB K (X6 K) yL:=λφ A H x y u v Q S b q p=>by
 cases u with
 |tup xs=>cases v with
  |int j=>
   unfold yL at p;dsimp only at p
   by_cases h:(decide (0<=j)&&(decide (j<1000)&&(decide (0<xs.length)&&decide (xs.length<1000))))=true
   ·rw[aa h]at p
    simp only[ai,ah]at h
    by_cases h1:j=0
    ·subst h1
     obtain⟨a1,a,rfl,t1,r⟩:=id b;obtain rfl:=q;refine .inl ⟨a1,a,rfl,rfl,t1,by rw[<- r.length];exact h.2.2.1,λl c=>?_⟩
     obtain⟨e,d,C⟩:=QI S c (r.rep 0);exact p _ _ _ e d C
    ·refine .inr (TU φ A H x y (.tup xs) (.int j) Q S b q ?_)
     unfold KN;dsimp only;rw[aa (by simp only[ai,ah];exact⟨by omega,h.2⟩)]
     exact p
   ·rw[af h]at p;exact p.elim
  |_=>exact p.elim
 |_=>cases v<;>exact p.elim
end
open PySem.W (KasT kas_rev kas_asc kas_desc kas_tail3 kas_descPart kas_count kas_place kas_bin kas_sort)
open PySem.W (KasT kas_sort kas_ask kat_run kat_snds kat_kind kat_lt kat_cons kat_nil kat_yes kat_no kat_one KatLex KatGo KatTups)
noncomputable abbrev kI (ks:bh):List Key:=ks.map Sum.inl
def zI (x:List Int×Addr×Value):List Key×Addr×Value:=(kI x.1,x.2)
abbrev PZ:List (List Int×Addr×V)->List (List Int×Addr×Value)->Prop:=Paired λp q=>p.1=q.1/\p.2.1=q.2.1/\RelV p.2.2 q.2.2
structure TD (K:Frag)(H:Hp)(a:Addr)(xs:List (List Int×Addr×V)):Prop where
 s:H a=some (.ext (qL a xs))∨∃ob u,H a=some (.frz ob u)/\Q9 a xs ob
 k:∀x∈xs,qb K H x.2.1 (x.1.map V.int)
def Nq (ks:bh):(kI ks).map kV=ks.map V.int:=by rw[aQ];rfl
def QK {a b:bh}:kI a=kI b↔a=b:=List.map_inj_right λx y h=>by injection h
def KD (ks:bh):tupleKeyHash (j9 P w) (kI ks)=hT ks:=by
 unfold tupleKeyHash hT;rw[aQ]
 rfl
theorem PZ.mem {z:List Int×Addr×Value}:∀{xs:List (List Int×Addr×V)}{zs:List (List Int×Addr×Value)},PZ xs zs->z∈zs->∃x∈xs,x.1=z.1/\x.2.1=z.2.1
 |_,_,.nil,h=>by cases h|_,_,.cons q t,h=>by
  rcases bL.mp h with rfl|h
  ·exact⟨_,aF ..,q.1,q.2.1⟩
  ·obtain⟨x,H,e⟩:=PZ.mem t h
   exact⟨x,ay _ H,e⟩
def PZ.len (p:PZ xs zs):xs.length=zs.length:=Paired.length p
noncomputable def kc (xs:List (List Int×Addr×V))(k:bh):Option V:=(xs.find? λx=>decide (x.1=k)).map (·.2.2)
def Gd {x:List Int×Addr×V}{k:bh}:kc (x::xs) k=if x.1=k then some x.2.2 else kc xs k:=by
 unfold kc;rw[List.find?_cons]
 by_cases h:x.1=k
 ·rw[ax h,aa h];rfl
 ·rw[ak h,af h]
def UD {z:List Int×Addr×Value}{zs:List (List Key×Addr×Value)}{k:bh}:atKey (zI z::zs) (kI k)=if z.1=k then some z.2 else atKey zs (kI k):=by
 unfold atKey;rw[List.find?_cons]
 by_cases h:z.1=k
 ·rw[show decide ((zI z).1=kI k)=true from ax (QK.mpr h),aa h];rfl
 ·rw[show decide ((zI z).1=kI k)=false from ak λe=>h (QK.mp e),af h]
theorem PZ.val (k:bh):∀{xs:List (List Int×Addr×V)}{zs:List (List Int×Addr×Value)},PZ xs zs->we (kc xs k) ((atKey (zs.map zI) (kI k)).map (·.2))
 |_,_,.nil=>trivial|_,_,.cons (a:=x) (b:=z) q t=>by
  rw[Gd,aM,UD]
  by_cases h:x.1=k
  ·rw[aa h,aa (q.1 ▸ h)]
   exact q.2.2
  ·rw[af h,af (q.1 ▸ h)]
   exact PZ.val k t
section
variable {ks:bh}
def QV (I:Inv X pins σ H s)(h:qb X.K H b (ks.map V.int)):(tupleKind (j9 X.prog X.w)).is s.heap (kI ks) b:=by
 obtain⟨i,r,⟨o,h1,c,n,a⟩,_⟩:=I.tuple h;exact⟨o,i.toArray,n,h1,c,a,by simpa using Gh (ks:=kI ks) (by rw[Nq];exact r)⟩
def TD.core (I:Inv X pins σ H s)(h:TD X.K H a xs):qL a xs s.heap:=by
 rcases h.s with e|⟨ob,u,e,d⟩
 ·exact(I.hok a _ e).1
 ·obtain⟨b,D,zs,p,es,E,r⟩:=d
  exact⟨b,D,zs,p,ob,es,E,(I.hok a _ e).1,r⟩
def TD.dict (I:Inv X pins σ H s)(h:TD X.K H a xs):∃zs,PZ xs zs/\s.heap.DictOfH (tupleKind (j9 X.prog X.w)) a (zs.map zI)/\(a==sysModules)=false/\xs.length<=sizeLine:=by
 obtain⟨h1,g,zs,p,o,es,E,f,b,hd,he,hn⟩:=h.core I;refine⟨zs,p,⟨o,es,E,f,b,hd,?_,λz c=>?_,?_⟩,h1,g⟩
 ·rw[he,aQ]
  refine aW λx _=>?_;show _=(⟨tupleKeyHash (j9 X.prog X.w) (kI x.1),.ref x.2.1,x.2.2⟩:DictEntry);rw[KD]
 ·obtain⟨y,d,rfl⟩:=List.mem_map.mp c
  obtain⟨x,b,j,i⟩:=PZ.mem p d;show(tupleKind (j9 X.prog X.w)).is s.heap (kI y.1) y.2.1;rw[<- j,<- i];exact QV I (h.k x b)
 ·rw[aQ,show((λx:List Key×Addr×Value=>x.1) ∘ zI)=kI ∘ (λx:List Int×Addr×Value=>x.1) from rfl,<- aQ]
  exact List.Pairwise.map _ (λ_ _ h e=>h (QK.mp e)) hn
end
def Mg (K:Frag)(td ty:TE):TE:=λσ H Q=>td σ H λx H1=>ty σ H1 λy h=>∃a xs b k v,x=.ref a/\y=.ref b/\TD K h a xs/\qb K h b (k.map V.int)/\kc xs k=some v/\Q v h
def OA (K:Frag)(td ty t:TE):TE:=λσ H Q=>td σ H λx H1=>∃a,x=.ref a/\(∃xs,TD K H1 a xs)/\ty σ H1 λy c=>t σ c λz h=>∃xs b k,y=.ref b/\TD K h a xs/\qb K h b (k.map V.int)/\Q ((kc xs k).getD z) h
section
variable {o f i:Expr}{apos cpos:Pos}{td ty tx:TE}
def RR (w:X.A.units+1<cLine)(C:PE X o td)(D:PE X i ty)(B:K6 i):PE X (.Subscript o i pos) (Mg X.K td ty):=by
 intro pins s σ H Q I h;refine PR PySem.F.slot_dict_getitem.lookup B (zM (C pins s σ H _ I h) λu s1 g1=>?_);obtain⟨x,H1,L,j,l⟩:=g1;refine zM (D pins s1 σ H1 _ L l) λt s2 g2=>?_;obtain⟨y,M,e,g,a,xs,b,k,v,rfl,rfl,d,J,hv,q⟩:=g2;cases j;cases g;obtain⟨zs,p,dd,_,_⟩:=d.dict e;have r:=p.val k;rw[hv]at r;obtain⟨z,n,f⟩:=r.some_of;obtain⟨c,E,rfl⟩:=Option.map_eq_some_iff.mp n;exact⟨dd.typeIs,wpAny_getItem_heap (tupleKind_room_in1 w) (QV e J) dd E ⟨v,M,e.tok _,f,q⟩⟩
def S7 (v:X.A.units+1<cLine)(B:PE X o td)(he:PE X e ty)(hf:PE X f tx)(m:M2 X o "get" apos e f cpos):PE X (.Call (.Attribute o "get" apos) [e,f] [] cpos) (OA X.K td ty tx):=by
 intro pins s σ H Q I h;refine wpAny_Call_method m.base m.few m.line PySem.F.plainAttrs_dict slot_dict_get PySem.F.type_dict_get (zM (B pins s σ H _ I h) λu s1 g1=>?_);obtain⟨x,H1,c,l,a,rfl,⟨g,J⟩,t⟩:=g1;cases l;obtain⟨Z,_,D,_,_⟩:=J.dict c;refine⟨D.typeIs,dictOfH_noDict D,?_⟩;rw[m.trees];refine Calls.callWith_builtin rfl (Calls.evalArgs_plain (Calls.spliced_cons (zM (he pins s1 σ H1 _ c t) λP s2 g2=>?_)));obtain⟨y,N,L,j,n⟩:=g2;refine Calls.spliced_cons (zM (hf pins s2 σ N _ L n) λC s3 g3=>Calls.spliced_nil ?_);obtain⟨z,M,i,r,xs,b,k,rfl,d,E,q⟩:=g3;cases j;obtain⟨zs,p,dd,hd,_⟩:=d.dict i;refine call_meetsIn slot_dict_get dd.typeIs PySem.F.entry_dict_get (PySem.F.args_dict_get_3 _ _ _) (meetsH_dict_get_default (tupleKind (j9 X.prog X.w)) a b hd C) ⟨tupleKind_room_in1 v,kI k,zs.map zI,QV i E,dd,?_⟩;exact⟨_,M,i.tok _,(p.val k).getD r,q⟩
end
def yt (xs:List (List Int×Addr×V))(k:bh)(b:Addr)(v:V):List (List Int×Addr×V):=if (kc xs k).isSome=true then xs.map (λx=>if x.1=k then(x.1,x.2.1,v) else x) else xs++[(k,b,v)]
def JW (zs:List (List Int×Addr×Value))(k:bh)(b:Addr)(v:Value):List (List Int×Addr×Value):=if (atKey (zs.map zI) (kI k)).isSome=true then zs.map (λx=>if x.1=k then(x.1,x.2.1,v) else x) else zs++[(k,b,v)]
def RH (zs:List (List Int×Addr×Value))(k:bh)(b:Addr)(v:Value):storedH (zs.map zI) (kI k) b v=(JW zs k b v).map zI:=by
 unfold storedH JW
 by_cases h:(atKey (zs.map zI) (kI k)).isSome=true
 ·rw[aa h,aa h,aQ,aQ]
  refine aW λx _=>?_;show putAt (kI k) v (zI x)=zI (if x.1=k then(x.1,x.2.1,v) else x);unfold putAt
  by_cases e:x.1=k
  ·rw[aa (show(zI x).1=kI k from QK.mpr e),aa e];rfl
  ·rw[af (show ¬(zI x).1=kI k from λz=>e (QK.mp z)),af e]
 ·rw[af h,af h,aV]
  rfl
def Pq {k:bh}(p:PZ xs zs):(kc xs k).isSome=(atKey (zs.map zI) (kI k)).isSome:=by
 have r:=p.val k;cases e:kc xs k with
 |some v=>
  rw[e]at r;obtain⟨z,h,_⟩:=r.some_of;obtain⟨c,H,_⟩:=Option.map_eq_some_iff.mp h;rw[H];rfl
 |none=>
  rw[e]at r
  have:=r.none_of
  rw[Option.map_eq_none_iff]at this;rw[this];rfl
def PZ.put {k:bh}(r:RelV v u)(p:PZ xs zs):PZ (yt xs k b v) (JW zs k b u):=by
 unfold yt JW;rw[Pq p (k:=k)]
 by_cases h:(atKey (zs.map zI) (kI k)).isSome=true
 ·rw[aa h,aa h]
  clear h
  induction p with
  |nil=>exact .nil|@cons x z l m q t i=>
   rw[aM,aM];refine .cons ?_ i
   by_cases e:x.1=k
   ·rw[aa e,aa (q.1 ▸ e)]
    exact⟨q.1,q.2.1,r⟩
   ·rw[af e,af (q.1 ▸ e)]
    exact q
 ·rw[af h,af h]
  clear h
  induction p with
  |nil=>exact .cons ⟨rfl,rfl,r⟩ .nil|cons q t i=>exact .cons q i
def Su (xs:List (List Int×Addr×V))(k:bh)(b:Addr)(v:V):(yt xs k b v).length<=xs.length+1:=by
 unfold yt
 split
 ·rw[aC];omega
 ·rw[aH];exact aA _
def qL.keeps {h':Heap}(d:qL a xs h)(k:∀o,h.get? a=some o->h'.get? a=some o):qL a xs h':=by
 obtain⟨h1,b,zs,p,o,es,e,H,r⟩:=d;exact⟨h1,b,zs,p,o,es,e,k o H,r⟩
def QF (d:qL a xs h):qI P w H h a (.ext (qL a xs)):=by
 obtain⟨h1,c,zs,p,o,es,e,b,r⟩:=id d;exact⟨d,⟨o,b⟩,λ_ _ d k=>d.keeps k⟩
def XZ (K:Frag):Qe:=λo i v H Q=>∃a xs b k,o=.ref a/\i=.ref b/\H a=some (.ext (qL a xs))/\(∀x∈xs,qb K H x.2.1 (x.1.map V.int))/\qb K H b (k.map V.int)/\xs.length<sizeLine/\Q (upd H a (.ext (qL a (yt xs k b v))))
def MK (g:X.A.units+1<cLine):JY X (XZ X.K):=by
 intro pins s σ H o i v D J u Q I ro f r h;obtain⟨a,xs,b,k,rfl,rfl,E,l,C,L,q⟩:=h;cases ro;cases f;obtain⟨zs,p,dd,hd,z⟩:=TD.dict I ⟨.inl E,l⟩;refine wpAny_setItem_heap (hsz:=by rw[aC,<- p.len];exact z) (tupleKind_room_in1 g) (QV I C) dd λh' d j=>⟨_,?_,q⟩
 rw[RH]at d;obtain⟨w,es,B,hw,y,t,n,_,c⟩:=d;refine GZ I (by rw[E];exact True.intro) j ⟨w,hw⟩ (QF ⟨hd,by have:=Su xs k b v;omega,_,p.put r,w,es,B,hw,y,t,?_,?_⟩)
 ·rw[n,aQ]
  refine aW λx _=>?_;show(⟨tupleKeyHash (j9 X.prog X.w) (kI x.1),.ref x.2.1,x.2.2⟩:DictEntry)=_;rw[KD]
 ·rw[aQ,show((λx:List Key×Addr×Value=>x.1) ∘ zI)=kI ∘ (λx:List Int×Addr×Value=>x.1) from rfl,<- aQ]at c
  exact(List.pairwise_map.mp c).imp λh e=>h (by rw[e])
def RT:PE X (.Dict [] [] pos) (λ_ H Q=>∀p,H p=none->Q (.ref p) (upd H p (.ext (qL p [])))):=λpins s σ H Q I h=>by
 refine wpAny_Dict_empty ⟨.ref s.heap.objs.size,_,I.laid (a:=s.heap.objs.size) (o:=.ext (qL s.heap.objs.size [])) (t':=s.toks) (λ_ _ q=>ae _ q) (aA _) (QF ?_),rfl,h _ (I.hok.fresh (aA _))⟩;exact⟨beq_eq_false_iff_ne.mpr (Ne.symm (aG I.big)),zero_le _,[],.nil,_,#[],0,au _ rfl,⟨rfl,rfl,rfl⟩,rfl,rfl,nodup_nil⟩
def keyT?:W->Option (bh)
 |.tup ws=>intsOf ws|_=>none
noncomputable def yi (k:bh):List (List Int×W)->Option W
 |[]=>none|(j,w)::r=>if j=k then some w else yi k r
noncomputable def j0:O->Option (List (List Int×W))
 |.td k=>some k|.tr k=>some k|_=>none
section
variable {K:Frag}{a b c:Expr}
def Jt {w:W}{k:bh}(q:RV K φ H w v)(e:keyT? w=some k):∃b,v=.ref b/\qb K H b (k.map V.int):=by
 cases w with
 |tup ws=>
  obtain⟨b,s,rfl,h,r⟩:=q;rw[Gf (show intsOf ws=some k from e)]at r
  rw[<- zx.ints.mp r];exact⟨b,rfl,h⟩
 |_=>cases e
theorem Jn (k:bh):∀{s:List (List Int×W)}{xs:List (List Int×Addr×V)},xs.map (·.1)=s.map (·.1)->zx K φ H (s.map (·.2)) (xs.map (·.2.2))->
  (∀w,yi k s=some w->∃v,kc xs k=some v/\RV K φ H w v)/\(yi k s=none->kc xs k=none)
 |[],[],_,_=>⟨λw h=>(by cases h),λ_=>rfl⟩|[],_::_,h,_=>by simp at h|_::_,[],h,_=>by simp at h|(j,w)::s,x::xs,h,r=>by
  simp only[aM,List.cons.injEq]at h;obtain⟨d,f,e,h1,b⟩:=r;simp only[aM,List.cons.injEq]at e;obtain⟨rfl,rfl⟩:=e;have i:=Jn k h.2 b;rw[Gd,h.1];unfold yi
  by_cases a:j=k
  ·rw[aa a,aa a]
   exact⟨λc hw=>by cases hw;exact⟨_,rfl,h1⟩,λz=>by cases z⟩
  ·rw[af a,af a]
   exact i
def zr.tdr {o:O}(S:zr K φ A H)(q:RV K φ H (.ref n) v)(e:A[n]? =some o)(E:j0 o=some kvs):
  ∃p xs,v=.ref p/\φ[n]? =some p/\TD K H p xs/\xs.map (·.1)=kvs.map (·.1)/\zx K φ H (kvs.map (·.2)) (xs.map (·.2.2)):=by
 obtain⟨p,rfl,h1⟩:=q;obtain⟨P,f,r⟩:=S.ob n _ e;rw[h1]at f;cases f;cases o with
 |td k=>
  cases E;obtain⟨xs,c,b,a,h⟩:=r;exact⟨p,xs,rfl,h1,⟨.inl c,a⟩,b,h⟩
 |tr k=>
  cases E;obtain⟨ob,u,xs,c,d,b,a,h⟩:=r;exact⟨p,xs,rfl,h1,⟨.inr ⟨ob,u,c,d⟩,a⟩,b,h⟩
 |_=>cases E
def Za:W->W->Hx->R W:=λd k A=>match d,keyT? k with
 |.ref n,some k=>match (A[n]?).bind j0 with
  |some K=>match yi k K with
   |some w=>.ok w A|none=>.bad
  |none=>.bad
 |_,_=>.bad
def Y4 (h:(A[n]?).bind j0=some kvs):∃o,A[n]? =some o/\j0 o=some kvs:=Option.bind_eq_some_iff.mp h
def J7 (x:W)(A:Hx):Bool:=match x with
 |.ref n=>((A[n]?).bind j0).isSome|_=>false
def JK:W->W->W->Hx->R W:=λd k x A=>match d,keyT? k with
 |.ref n,some k=>match (A[n]?).bind j0 with
  |some K=>.ok ((yi k K).getD x) A|none=>.bad
 |_,_=>.bad
def gq (a b c:Ev):Ev:=λρ A=>(a ρ A).bind λx A1=>if J7 x A1 then(b ρ A1).bind λy A2=>(c ρ A2).bind λz d=>JK x y z d else .bad
def gC (K:List (List Int×W))(k:bh)(v:W):List (List Int×W):=if (yi k K).isSome=true then K.map (λx=>if x.1=k then(x.1,v) else x) else K++[(k,v)]
def wM:W->W->W->Hx->R Unit:=λd k v A=>match d,keyT? k with
 |.ref n,some k=>match A[n]? with
  |some (.td kvs)=>if kvs.length<qy then .ok () (A.set n (.td (gC kvs k v))) else .bad|_=>.bad
 |_,_=>.bad
def Rp:∀o i v A,qz (wM o i v A):=λo i v A=>by
 unfold wM
 split
 ·split
  ·exact kY jF qC
  ·exact qC
 ·exact qC
theorem Gm (k:bh){w:W}(q:RV K φ H w v):∀{s:List (List Int×W)}{xs:List (List Int×Addr×V)},xs.map (·.1)=s.map (·.1)->zx K φ H (s.map (·.2)) (xs.map (·.2.2))->
  (xs.map (λx=>if x.1=k then(x.1,x.2.1,v) else x)).map (·.1)=(s.map (λx=>if x.1=k then(x.1,w) else x)).map (·.1)/\zx K φ H ((s.map (λx=>if x.1=k then(x.1,w) else x)).map (·.2)) ((xs.map (λx=>if x.1=k then(x.1,x.2.1,v) else x)).map (·.2.2))
 |[],[],_,r=>⟨rfl,r⟩|[],_::_,h,_=>by simp at h|_::_,[],h,_=>by simp at h|y::s,x::xs,h,r=>by
  simp only[aM,List.cons.injEq]at h;obtain⟨c,d,e,h1,b⟩:=r;simp only[aM,List.cons.injEq]at e;obtain⟨rfl,rfl⟩:=e;obtain⟨I,i⟩:=Gm k q h.2 b;simp only[aM];rw[I,h.1]
  by_cases a:y.1=k
  ·rw[aa a,aa a]
   exact⟨rfl,⟨v,_,rfl,q,i⟩⟩
  ·rw[af a,af a]
   exact⟨by rw[h.1],⟨x.2.2,_,rfl,h1,i⟩⟩
def T3 {k:bh}{b:Addr}{P:Addr->List Int->Prop}(h:∀x∈xs,P x.2.1 x.1)(c:P b k):∀x∈yt xs k b v,P x.2.1 x.1:=by
 intro x H;unfold yt at H
 split at H
 ·obtain⟨y,a,rfl⟩:=List.mem_map.mp H
  split
  ·exact h y a
  ·exact h y a
 ·rcases List.mem_append.mp H with H|H
  ·exact h x H
  ·rw[List.mem_singleton.mp H];exact c
def SO:KP K (XZ K) wM:=λφ A H o i v B wi wv Q S J I q p=>by
 unfold wM at p;cases B with
 |ref n=>
  cases g:keyT? wi with
  |none=>rw[g]at p;exact p.elim|some k=>
   rw[g]at p;dsimp only at p;cases E:A[n]? with
   |none=>rw[E]at p;exact p.elim|some L=>cases L with
    |td s=>
     rw[E]at p;dsimp only at p
     by_cases d:s.length<qy
     ·rw[aa d]at p
      obtain⟨l,rfl,f1⟩:=J;obtain⟨T,f2,xs,g1,g2,t,g3⟩:=S.ob n _ E;rw[f1]at f2;cases f2;obtain⟨b,rfl,y⟩:=Jt I g;have hlen:xs.length=s.length:=by have:=congrArg List.length g2;simpa using this
      have ln:Le K φ H φ (upd H l (.ext (qL l (yt xs k b v)))):=Le.upd f1 (λxs z=>by rw[g1]at z;cases z) (λ_ _ z=>by rw[g1]at z;cases z)
      have r:=Jn k g2 g3;have e:(kc xs k).isSome=(yi k s).isSome:=by
       cases ev:yi k s with
       |none=>rw[r.2 ev];rfl|some w=>obtain⟨N,hv,_⟩:=r.1 w ev;rw[hv];rfl
      have h:(yt xs k b v).map (·.1)=(gC s k wv).map (·.1)/\zx K φ (upd H l (.ext (qL l (yt xs k b v)))) ((gC s k wv).map (·.2)) ((yt xs k b v).map (·.2.2)):=by
       generalize upd H l (.ext (qL l (yt xs k b v)))=H' at ln;unfold yt gC;rw[e]
       by_cases a:(yi k s).isSome=true
       ·rw[aa a,aa a]
        exact Gm k (q.mono ln) g2 (g3.mono ln)
       ·rw[af a,af a]
        refine⟨by simp[g2],?_⟩
        rw[aV,aV];exact(g3.mono ln).append (.one (q.mono ln))
      have f:=T3 (v:=v) (P:=λc j=>qb K (upd H l (.ext (qL l (yt xs k b v)))) c (j.map V.int)) (λx M=>ln.tp _ _ (t x M)) (ln.tp _ _ y);obtain⟨D,C⟩:=S.write (o:=.td s) (o':=.td (gC s k wv)) E rfl rfl f1 (u:=.ext (qL l (yt xs k b v))) ⟨_,qM,h.1,f,h.2⟩;exact⟨l,xs,b,k,rfl,rfl,g1,t,y,by rw[hlen,sizeLine_eq];unfold qy at d;omega,p _ _ D C⟩
     ·rw[af d]at p;exact p.elim
    |_=>rw[E]at p;exact p.elim
 |_=>exact p.elim
noncomputable def KG:Ev:=λ_ A=>.ok (.ref A.length) (A++[.td []])
end
section
variable {prog:Program}{A:Around}{j d:Addr}{ep:Nat}{es:Array DictEntry}{od:Obj}
def Pb {Q:Option Value->Shared->Prop}(k1:s.heap.IsKeyIter j d n es.size ep)(k2:s.heap.get? d=some od)(k3:od.data=.dict es ep)
  (hit:∀(hn:n<es.size) h',h'.IsKeyIter j d (n+1) es.size ep->Heap.SameBut j s.heap h'->Q (some es[n].key) { s with heap:=h' })(hn:n<es.size):wpAny (model prog w) A (pyNext (.ref j)) Q E s:=by
 obtain⟨io,g1,g2,g3⟩:=id k1;have ty:=k1.typeIs;have no:Builtin.Dict_items.ownsTuple "dict_keyiterator"=false:=by decide
 unfold pyNext;refine bG (wpAny_attempt (wpAny_callSpecial?_slot (name:=Str.ofString "__next__") ty F.slot_dict_keyiterator_next (wpAny_call_entry F.slot_dict_keyiterator_next ty F.entry_dict_keyiterator_next ?_ (F.args_dict_keyiterator_next_1 _))));refine bG (bH (bG (bG ?_)))
 first|refine bG (wpAny_typeNameOfWhole_keyiter ty (bH (bG (wpAny_fieldsOf g1 g3 ?_))))|refine bG (wpAny_typeNameOf_keyiter ty (bH (bG (wpAny_fieldsOf g1 g3 ?_))))
 simp only[no,false_eq_true,if_false];show wpAny _ _ (if (Value.ref d==Value.none)=true then _ else _) _ _ s;rw[af (by intro z;cases z)]
 refine bG (bH (bG (wpAny_dictEntries k2 k3 ?_)));rw[af (by simp)]
 refine bG (bH (bG (wpAny_dictEpoch k2 k3 ?_)));rw[af (by simp)]
 refine bH ?_;simp only[show ¬((n:Int)<0) by omega,if_false,aE,Array.getElem?_eq_getElem hn]
 refine bG ?_
 first|refine bG (wpAny_typeNameOfWhole_keyiter ty (bH (bG (wpAny_isOneOf_keyiter ty ?_))))|refine bG (wpAny_typeNameOf_keyiter ty (bH (bG (wpAny_isOneOf_keyiter ty ?_))))
 show wpAny _ _ (setField (.ref j) 1 (rawInt ((n:Int)+1)) >>= _) _ _ s;refine bG (wpAny_setField g1 g3 (by simp) ?_)
 have k:(s.heap.update j (Obj.mapFields (·.setIfInBounds 1 (rawInt ((n:Int)+1))))).IsKeyIter j d (n+1) es.size ep:=
  ⟨_,Heap.get?_update_self _ g1 (Obj.isFreed_of_fields (Obj.data_mapFields g3 _)),(Obj.cls_mapFields ..).trans g2,by rw[Obj.data_mapFields g3];simp[rawInt]⟩
 refine bG (wpAny_holding (bG (wpAny_isOneOf_keyiter (s:={ s with heap:=s.heap.update j (Obj.mapFields (·.setIfInBounds 1 (rawInt ((n:Int)+1)))) }) k.typeIs ?_)))
 show wpAny _ _ (pure es[n].key) _ _ _;exact bH (bH ⟨_,rfl,bH (hit hn _ k (Heap.SameBut.update ..))⟩)
def Ot {Q:Option Value->Shared->Prop}(h:A.handled=none)(k1:s.heap.IsKeyIter j d n es.size ep)(k2:s.heap.get? d=some od)(k3:od.data=.dict es ep)(hn:es.size<=n)
  (q:∀h',Heap.ExtBut j s.heap h'->Q none { s with heap:=h' }):wpAny (model prog w) A (pyNext (.ref j)) Q E s:=by
 obtain⟨io,g1,g2,g3⟩:=id k1;have ty:=k1.typeIs;have no:Builtin.Dict_items.ownsTuple "dict_keyiterator"=false:=by decide
 unfold pyNext;refine bG (wpAny_attempt (wpAny_callSpecial?_slot (name:=Str.ofString "__next__") ty F.slot_dict_keyiterator_next (wpAny_call_entry F.slot_dict_keyiterator_next ty F.entry_dict_keyiterator_next ?_ (F.args_dict_keyiterator_next_1 _))));refine bG (bH (bG (bG ?_)))
 first|refine bG (wpAny_typeNameOfWhole_keyiter ty (bH (bG (wpAny_fieldsOf g1 g3 ?_))))|refine bG (wpAny_typeNameOf_keyiter ty (bH (bG (wpAny_fieldsOf g1 g3 ?_))))
 simp only[no,false_eq_true,if_false];show wpAny _ _ (if (Value.ref d==Value.none)=true then _ else _) _ _ s;rw[af (by intro z;cases z)]
 refine bG (bH (bG (wpAny_dictEntries k2 k3 ?_)));rw[af (by simp)]
 refine bG (bH (bG (wpAny_dictEpoch k2 k3 ?_)));rw[af (by simp)]
 refine bH ?_;simp only[show ¬((n:Int)<0) by omega,if_false,aE,Array.getElem?_eq_none hn]
 refine bG ?_
 first|refine bG (wpAny_typeNameOfWhole_keyiter ty (bH ?_))|refine bG (wpAny_typeNameOf_keyiter ty (bH ?_))
 show wpAny _ _ (setField (.ref j) 0 .none >>= _) _ _ s;refine bG (wpAny_setField g1 g3 (by simp) ?_)
 show wpAny _ _ (newExc (.type "StopIteration") [] >>= _) _ _ _;refine bG ?_;simp only[newExc,newTuple];refine bG (wpAny_newObj_type (bG (m:=firstArgMember _ _) (wpAny_of_eq (a:=Value.none) (by first|rfl|(simp only[firstArgMember];rfl)) (wpAny_newObj_type ?_ (by size_fits)))) (by size_fits))
 simp only[raiseNew];refine bG (wpAny_handled ?_);rw[show A.in1.handled=none from h]
 refine bG (bH (wpAny_throw ?_));refine bG (wpAny_isInstance (T := "StopIteration") (b:=true) ⟨_,au _ rfl,rfl⟩ isSubtype_stop (bH ?_));exact q _ (((Heap.SameBut.update ..).extBut.push _).push _)
def Nc (hd:(d==sysModules)=false)(k2:s.heap.get? d=some od)(k:od.ExactDict)(k3:od.data=.dict es ep)
  (q:Q (.ref s.heap.objs.size) { s with heap:=s.heap.push { cls:=.type "dict_keyiterator",data:=.fields #[.ref d,.int 0 0,.int es.size 0,.int ep 0] } }):wpAny (model prog w) A (pyIter (.ref d)) Q E s:=by
 have ty:s.TypeIs (.ref d) "dict":=⟨od,k2,k.1⟩;refine wpAny_pyIter_slot ty F.slot_dict_iter (wpAny_call_entry F.slot_dict_iter ty F.entry_dict_iter ?_ (F.args_dict_iter_1 _));unfold Builtin.«dict.__iter__» Builtin.Dict.dictSlotNone;refine bG (bG (wpAny_notOrdered_dict ty ?_));show wpAny _ _ (pure (Value.ref d)) _ _ s;refine bH ?_;show wpAny _ _ (Builtin.Dict.showsAll d >>= _) _ _ s;unfold Builtin.Dict.showsAll;rw[af (by rw[hd];intro z;cases z)]
 refine bG (bH (bG (wpAny_dictEntries k2 k3 (bG (wpAny_dictEpoch k2 k3 ?_)))));exact bG (wpAny_newObj_type (bH ⟨_,rfl,"dict_keyiterator",_,⟨_,au _ rfl,rfl⟩,F.slot_dict_keyiterator_next.lookup,by simpa[rawInt] using q⟩))
end
noncomputable def Wl (d:Addr)(o:Obj)(xs:List (List Int×Addr×V)):It:=⟨λi H=>(∃u,H d=some (.frz o u))/\i<xs.length,λi H x h=>∃p,xs[i]? =some p/\x=.ref p.2.1/\h=H,λi H=>(∃u,H d=some (.frz o u))/\xs.length<=i⟩
theorem XF:∀{xs:List (List Int×Addr×V)}{zs:List (List Int×Addr×Value)}{i:Nat}{p:List Int×Addr×V},PZ xs zs->xs[i]? =some p->∃z,zs[i]? =some z/\z.2.1=p.2.1
 |_,_,_,_,.nil,e=>by simp at e|_,_,0,_,.cons (b:=b) q t,e=>by
  simp at e;subst e;exact⟨b,by simp,q.2.1.symm⟩
 |_,_,i+1,_,.cons q t,e=>by
  obtain⟨z,h1,h⟩:=XF (i:=i) t (by simpa using e)
  exact⟨z,by simpa using h1,h⟩
def Te {K:Frag}(d it:Addr)(o:Obj)(xs:List (List Int×Addr×V))(D:Q9 d xs o):
  Turn P w K tg (Wl d o xs) [it] it (λi h=>∃es f,o.data=.dict es f/\h.IsKeyIter it d i es.size f) where
 mem:=by simp
 obj:=λi h ⟨es,f,_,st⟩ b g=>by
  have e:b=it:=by simpa using g
  subst e;obtain⟨o,e,c,d⟩:=st;exact⟨o,e,λv z=>by rw[d]at z;cases z⟩
 keep:=λi h h' ⟨es,f,hd,st⟩ k=>⟨es,f,hd,st.at λo e=>k it (by simp) o e⟩
 item:=by
  intro X q hw r J i pins s σ H E I hf st n;subst q hw r;obtain⟨es,f,hd,st⟩:=st;obtain⟨⟨u,j⟩,l⟩:=n;obtain⟨_,_,zs,p,y,A,_,a,he,_⟩:=D;rw[hd]at a;injection a with C B
  subst C B;have N:es.size=xs.length:=by rw[<- length_toList,he,aC,<- PZ.len p]
  have hn:i<es.size:=by omega
  obtain⟨z,M,U⟩:=XF p (i:=i) (p:=xs[i]) (by simp[l])
  have Q:es[i].key=.ref xs[i].2.1:=by
   have h1:es.toList[i]? =some es[i]:=by rw[Array.getElem?_toList,Array.getElem?_eq_getElem hn]
   rw[he,aI,M]at h1;have T:=ao h1;rw[<- T,<- U]
  obtain⟨f0,f1,f2,x,f4,t⟩:=hf it (by simp)
  refine Pb st (I.hok d _ j).1 hd (λ_ h' S L=>?_) hn;have Z:Inv X pins σ H { s with heap:=h' }:=I.turned (t':=s.toks) (λb o g e=>(L.2 b g).trans e) f0 f1 x f4 t
  obtain⟨oi,e,c,dd⟩:=id S;exact⟨_,rfl,JU (s:={ s with heap:=h' }) e c dd (by decide) ⟨.ref xs[i].2.1,H,Z,by rw[Q];rfl,⟨xs[i],by simp[l],rfl,rfl⟩,⟨es,f,hd,S⟩,λb g=>(hf b g).1⟩⟩
 done:=by
  intro X q hw r J i pins s σ H E I hf st n;subst q hw r;obtain⟨es,f,hd,st⟩:=st;obtain⟨⟨u,j⟩,l⟩:=n;obtain⟨_,_,zs,p,y,A,_,a,he,_⟩:=D;rw[hd]at a;injection a with C B
  subst C B;have N:es.size=xs.length:=by rw[<- length_toList,he,aC,<- PZ.len p]
  obtain⟨f0,f1,f2,x,f4,t⟩:=hf it (by simp)
  exact Ot (I.ok.hd J) st (I.hok d _ j).1 hd (by omega) λh' Y=>⟨rfl,I.turned (t':=s.toks) (λb o g e=>Y b o g e) f0 f1 x f4 t⟩
 self:=λ_ _ _ _ _ ⟨_,_,_,st⟩ h=>wpAny_pyIter_keyiter st h
section
variable {l a b:Expr}{m:Ev}{K:Frag}{tl:TE}
def NY (t:TE):TI:=λσ H R=>t σ H λx H1=>∃a xs,x=.ref a/\H1 a=some (.ext (qL a xs))/\∀o,Q9 a xs o->R (Wl a o xs) (upd H1 a (.frz o (.ext (qL a xs))))
def RZ (k:PE X l tl):PI X tg l (NY tl):=by
 intro pins s σ H R I h;refine zM (k pins s σ H _ I h) λv s1 g1=>?_;obtain⟨x,H1,j,r,a,xs,rfl,g,q⟩:=g1;cases r;have d:=(j.hok a _ g).1;obtain⟨h1,t,zs,p,o,es,E,c,f,hd,he,hn⟩:=id d;have i:Inv X pins σ (upd H1 a (.frz o (.ext (qL a xs)))) { s1 with heap:=s1.heap,toks:=s1.toks }:=j.write (x:=a) (e:=a) (o:=.frz o (.ext (qL a xs))) (t':=s1.toks) (h':=s1.heap) (by rw[g];exact True.intro) (.inl rfl) (λ_ _ _ q=>q) ⟨o,c⟩ ⟨c,QF d⟩
 have td:Q9 a xs o:=⟨h1,t,zs,p,es,E,f,hd,he,hn⟩;refine Nc h1 c f hd ⟨s1.heap.objs.size,[s1.heap.objs.size],_,_,_,rfl,i.kept (t':=s1.toks) λb o e=>ae _ e,Te a _ o xs td,⟨es,E,hd,⟨_,au _ rfl,rfl,rfl⟩⟩,λb n=>?_,q o td⟩;have e:b=s1.heap.objs.size:=by simpa using n
 subst e;exact i.fpOk (aA _) (i.hok.fresh (aA _))
def zr.freeze {p:Addr}{u:HO}{o o':O}(S:zr K φ A H)(hn:A[n]? =some o)(m:o.mut=true)(f:φ[n]? =some p)(new:OR K φ (L2.upd H p u) p o'):
  Le K φ H φ (L2.upd H p u)/\zr K φ (A.set n o') (L2.upd H p u):=by
 obtain⟨Z,e,q⟩:=S.ob n o hn;rw[f]at e;cases e;obtain⟨z,c,N,J⟩:=q.there m;have l:Le K φ H φ (L2.upd H p u):=Le.upd f (λxs e=>by rw[c]at e;exact N xs (ao e)) λob v e=>by rw[c]at e;exact J ob v (ao e)
 have mt:∀(i:Nat)(w:O),(A.set n o')[i]? =some w->w.mut=true->∃g,A[i]? =some g/\g.mut=true:=λi w e M=>by
  by_cases h:i=n
  ·subst h;exact⟨o,hn,m⟩
  ·rw[aj (Ne.symm h)]at e;exact⟨w,e,M⟩
 refine⟨l,by simp[S.len],λi j a I D h1 X U T P L=>?_,λi w e=>?_⟩
 ·obtain⟨B,E,k1⟩:=mt i I U P
  obtain⟨y,Y,k2⟩:=mt j D T L;exact S.inj i j a B y h1 X E Y k1 k2
 ·by_cases h:i=n
  ·subst h
   have:i<A.length:=(bI.mp hn).1
   rw[aw this]at e;cases e;exact⟨p,f,new⟩
  ·rw[aj (Ne.symm h)]at e
   obtain⟨a,E,r⟩:=S.ob i w e;refine⟨a,E,?_⟩
   by_cases hm:w.mut=true
   ·have ne:a≠p:=λz=>h (S.inj i n a w o E (by rw[z];exact f) e hn hm m)
    exact r.keep l λz c=>by rw[zS ne];exact c
   ·cases w with
    |tr _=>obtain⟨ob,u,s,q,d,k,t,r⟩:=r;exact⟨ob,u,s,l.fz _ _ _ q,d,k,λx Q=>l.tp _ _ (t x Q),r.mono l⟩|ro ws=>
     obtain⟨s,b,C⟩:=r;refine⟨s,?_,C.mono l⟩;rcases b with ⟨ob,b⟩|b
     ·exact .inl ⟨ob,l.fz _ _ _ b⟩
     ·exact .inr b
    |_=>exact absurd rfl hm
noncomputable def Z9 (k:List (List Int×W)):jA:=⟨λ_ i=>some (k[i]?.map λp=>W.tup (p.1.map W.int)),k.length⟩
def QP (m:Ev):Ei:=λρ A=>(m ρ A).bind λw A1=>match w with
 |.ref n=>match A1[n]? with
  |some (.td kvs)=>.ok (Z9 kvs) (A1.set n (.tr kvs))|_=>.bad
 |_=>.bad
def NS {d:Addr}{o:Obj}{u:HO}(hd:H d=some (.frz o u))(E:xs.map (·.1)=kvs.map (·.1))(k:∀x∈xs,qb K H x.2.1 (x.1.map V.int)):
  wZ K φ H (Z9 kvs) (Wl d o xs):=λi b g A' lw S=>by
 unfold Z9;dsimp only;have h:=lw.fz d o _ hd;have l:xs.length=kvs.length:=by have:=congrArg List.length E;simpa using this
 cases e:kvs[i]? with
 |none=>
  refine⟨λ_ z=>(by cases z),λ_=>⟨⟨u,h⟩,?_⟩⟩
  rw[List.getElem?_eq_none_iff]at e;omega
 |some p=>
  have f:i<kvs.length:=(bI.mp e).1;refine⟨λU z=>?_,λz=>(by cases z)⟩
  cases z;refine⟨⟨⟨u,h⟩,by omega⟩,λx H1 ⟨q,a,ex,c⟩=>?_⟩
  subst ex c;have k1:q.1=p.1:=by
   have a1:(xs.map (·.1))[i]? =some q.1:=by simp[a]
   rw[E]at a1;simp[e]at a1;exact a1.symm
  have sq:=lw.tp _ _ (k q (ba a));rw[k1]at sq;exact⟨.refl,S,⟨q.2.1,_,rfl,sq,zx.ints.mpr rfl⟩⟩
def LI (K:Frag)(T t:TE):TE:=λσ H Q=>∀p,H p=none->Km [(T,t)] σ (upd H p (.ext (qL p []))) λps h=>∃b k y,ps=[(.ref b,y)]/\qb K h b (k.map V.int)/\h p=some (.ext (qL p []))/\Q (.ref p) (upd h p (.ext (qL p [(k,b,y)])))
def Og {d:Addr}(dd:h.DictOfH (tupleKind (j9 P w)) d (zs.map zI))(p:PZ xs zs)(hd:(d==sysModules)=false)(l:xs.length<=sizeLine):qL d xs h:=by
 obtain⟨a,es,E,hw,f,c,b,_,H⟩:=dd;refine⟨hd,l,zs,p,a,es,E,hw,f,c,?_,?_⟩
 ·rw[b,aQ]
  refine aW λx _=>?_;show(⟨tupleKeyHash (j9 P w) (kI x.1),.ref x.2.1,x.2.2⟩:DictEntry)=_;rw[KD]
 ·rw[aQ,show((λx:List Key×Addr×Value=>x.1) ∘ zI)=kI ∘ (λx:List Int×Addr×Value=>x.1) from rfl,<- aQ]at H
  exact(List.pairwise_map.mp H).imp λh e=>h (by rw[e])
def Md {e T:TE}(C:X.A.units+1<cLine)(u:PE X a e)(n:PE X b T):PE X (.Dict [some a] [b] pos) (LI X.K e T):=by
 intro pins s σ H Q I q;have z:=I.laid (a:=s.heap.objs.size) (o:=.ext (qL s.heap.objs.size [])) (h':=s.heap.push { cls:=.type "dict",data:=.dict #[] }) (t':=s.toks) (λ_ _ q=>ae _ q) (aA _) (QF ⟨beq_eq_false_iff_ne.mpr (Ne.symm (aG I.big)),zero_le _,[],.nil,_,#[],0,au _ rfl,⟨rfl,rfl,rfl⟩,rfl,rfl,nodup_nil⟩);have hn:=I.hok.fresh (aA s.heap.objs.size);refine wpAny_Dict_any rfl rfl (by simp) (by simp) (zM (T1 u n Rw pins _ σ _ _ z (q _ hn)) λB s2 g=>?_)
 obtain⟨ps,J,i,rel,c,k,y,rfl,x,E,f⟩:=g;cases rel with
 |@cons P p2 l1 l2 r t=>
  cases t;obtain⟨kv,v⟩:=p2;obtain rfl:kv=Value.ref c:=r.1;obtain⟨zs,p,dd,hd,_⟩:=TD.dict i (xs:=[]) ⟨.inl E,λ_ h=>(by cases h)⟩
  cases p;unfold storeAll;rw[forIn_cons];refine bG (bG (wpAny_dictSet_heap (hsz:=zero_le _) (knd:=tupleKind (j9 X.prog X.w)) (show X.A.units<cLine by omega) (QV i x) dd λh' d j=>bH ?_))
  show wpAny _ _ (forIn [] _ _) _ _ _;rw[forIn_nil];refine bH ⟨.ref s.heap.objs.size,_,?_,rfl,f⟩;have D:h'.DictOfH (tupleKind (j9 X.prog X.w)) s.heap.objs.size ([(k,c,v)].map zI):=d;refine GZ i (by rw[E];exact True.intro) j (let ⟨q,_,_,l,_⟩:=D;⟨q,l⟩) (QF (Og D (.cons ⟨rfl,rfl,r.2⟩ .nil) hd (by show 1<=sizeLine;decide)))
def VJ (mk M:Ev):Ev:=λρ A=>(mk ρ (A++[.td []])).bind λx A1=>(M ρ A1).bind λy A2=>match keyT? x,A2[A.length]? with
 |some k,some (.td [])=>.ok (.ref A.length) (A2.set A.length (.td [(k,y)]))|_,_=>.bad
end
section
noncomputable def Zh (i j k:Nat):Tg:=λw ρ=>match w with
 |.tup [x,y,z]=>some (((ρ.set i (some x)).set j (some y)).set k (some z))|_=>none
def Rz (K:Frag):V->List V->Hp->VK->Prop:=λx v H Q=>∃a xs y,x=.ref a/\v=[y]/\qT K H a xs/\wb y=true/\xs.all wb=true/\Q (.int (xs.countP λz=>wj z y)) H
def TC:Wi X "list.count" (Rz X.K):=by
 intro pins s σ H x l v us Q I b d h;obtain⟨a,xs,y,rfl,rfl,t,k,f,q⟩:=h;cases b;obtain⟨u,rfl,e⟩:=d.one;obtain⟨i,r,⟨⟨cls,dd,data,sl⟩,n,o,c,j,hd⟩,_⟩:=I.list t;simp only at c hd;subst c hd;refine call_meets F.slot_list_count ⟨_,o,rfl⟩ F.entry_list_count (F.args_list_count_2 _ _) (SeqAt.list_countAt a i.toArray n dd sl u (Ys y)) ⟨o,λz g=>Gz e k r f z (by simpa using g),?_⟩
 refine⟨.int _,H,I.tok _,⟨_,rfl⟩,?_⟩;rw[<- WV r f]at q;simpa using q
def kW:W->W->Hx->R W:=λx y A=>match x with
 |.ref n=>match A[n]? with
  |some (.lst ws)=>if wN y&&ws.all wN then .ok (.int (Z3 y ws 0)) A else .bad|_=>.bad
 |_=>.bad
def U9:∀x y A,qz (kW x y A):=λx y A=>by
 unfold kW
 split
 ·split
  ·exact kY jF qC
  ·exact qC
 ·exact qC
end
@[irreducible] noncomputable def Zp (X:Cx)(x:XR)(es:bx)(ms:List Ev):Prop:=Mi.SJ X x es ms
def Oo:@Zp=@Mi.SJ:=by
 funext X xr es ms
 unfold Zp
 rfl
section
def q9:@zo=@Mi.SE/\@ki=@Mi.SA/\@jT=@Mi.ST/\@kN=@Mi.SW/\@yk=@Mi.SS/\@yu=@Mi.Yn/\@kq=@Mi.SI/\@kj=@Mi.SG/\@gL=@Mi.SF/\@gN=@Mi.SQ/\@gD=@Mi.Jb/\@gI=@Mi.SM/\@Zp=@Mi.SJ:=⟨Kn,Xw,Xv,XM,Xr,G4,Xl,XH,XO,Xn,GQ,XN,Oo⟩
def ku {g:Heap}{f:Fn}{M:Ea}(o:kG X g xr)(F:j5 X.prog X.w X.K X.mg X.base k x n f)(r:qE k X.A)(u:ki X xr (e::es) M)(i:wR M n:=by repeat' (first|exact qj|refine zu ?_))(s:Gl X x:=by rfl)
  (c:(x==("__debug__":Str))=false:=by decide)(he:starEach (e::es) X.env=(false,eval e X.env)::starEach es X.env:=by rfl)(l:(backTo pos (starEach es X.env)).any (·.1)=false:=by rfl):
  zo X xr (.Call (.Name x p) (e::es) [] pos) (zF f M):=by
 try simp only[q9]at*
 obtain⟨N,fd,ps,F,hm,j,t⟩:=F;refine PE.imp (G8 F r s hm j t .nil o.passes u c he l) λσ H Q ⟨φ,A,ρ,S,re,h⟩=>?_;have h':=zN.mp h;refine⟨φ,A,ρ,S,re,?_⟩;cases E:M ρ A with
 |ok ws A1=>
  rw[E]at h';intro b H1 v L D q;have hv:v.length=n:=by rw[<- q.length];exact i ρ A ws A1 E
  rw[a7];refine⟨hv,b,A1,ws,D,q,ql h' (λ_ _ z=>z.mono L) λy A2 z a I d B J C=>?_⟩;exact⟨y,J,rfl,C,z a I (L.trans d) B⟩
 |exc y A1=>rw[E]at h';exact h'|bad=>rw[E]at h';exact h'
def Ke {m:Ev}(h:jT X.nox j3 e m):jT X xr e λρ A=>(m ρ A).nox:=by
 try simp only[q9]at*
 refine PT.imp (PT.nox h) λσ H Q ⟨φ,A,ρ,S,re,q⟩=>⟨φ,A,ρ,S,re,?_⟩;cases E:m ρ A with
 |ok w A1=>(try dsimp only at q);rw[E]at q;exact q|exc y A1=>(try dsimp only at q);rw[E]at q;exact q.elim|bad=>(try dsimp only at q);rw[E]at q;exact q.elim
def SY {M:Ex}{s:bF}(h:yu X.nox j3 s M):yu X xr s λρ A=>(M ρ A).nox:=by
 try simp only[q9]at*
 refine jL.imp (jL.nox h) λD σ H ⟨φ,A,ρ,S,re,q⟩=>⟨φ,A,ρ,S,re,?_⟩;cases e:M ρ A with
 |ok w A1=>(try dsimp only at q);rw[e]at q;exact q|exc y A1=>(try dsimp only at q);rw[e]at q;exact q.elim|bad=>(try dsimp only at q);rw[e]at q;exact q.elim
def Y9 {m:Ev}(h:zo X xr e m):zo X xr (.FormattedValue e (-1) none pos) (J2 m):=by
 try simp only[q9]at*
 intro pins s σ H Q I ⟨φ,A,ρ,S,re,q⟩;refine wpAny_FormattedValue_plain (zM (h pins s σ H (λv H1=>∃i,v=.int i/\i.natAbs.log2<1920/\Q (.str (toString i)) H1) I (tM.go S re (zN.mp q) λw A1 a H1 v g l d r=>?_)) λu s1 ⟨v,H1,f,r,i,ev,b,c⟩=>?_)
 ·cases w with
  |int i=>
   dsimp only at g
   split at g
   ·rename_i b
    exact⟨i,r,b,g a H1 _ l d rfl⟩
   ·exact g.elim
  |_=>exact g.elim
 ·subst ev
  obtain⟨t,rfl⟩:=r;exact formatField_int_small b ⟨.str (toString i),H1,f.tok _,⟨_,rfl⟩,c⟩
def G7:Zp X xr [] []:=by
 try simp only[q9]at*
 exact .nil
def Gx {m:Ev}{ms:List Ev}(h:zo X xr e m)(r:Zp X xr es ms):Zp X xr (e::es) (m::ms):=by
 try simp only[q9]at*
 exact .cons h r
def WZ {a:Expr}{v:Expr}{m₁:Ev}{m₂:Ev}{ms:List Ev}(h1:zo X xr a m₁)(h:zo X xr v m₂)(j:Zp X xr es ms):zo X xr (.JoinedStr (a::v::es) pos) (mJ (m₁::m₂::ms) Str.empty):=by
 try simp only[q9]at*
 intro pins s σ H Q I ⟨φ,A,ρ,S,re,q⟩;exact wpAny_JoinedStr (NJ (.cons h1 (.cons h j)) I S re (by decide) q)
def WW {g:Heap}{M:Ea}{top:Str}{np:Pos}{C:Pos}(o:kG X g xr)(c:YV X.K top x)(d:ki X xr (e::es) M)(l:wR M n:=by repeat' (first|exact qj|refine zu ?_))(hn:n<=sizeLine:=by decide)(a:Gl X x:=by rfl)(h:X.calm=true:=by rfl)
  (b:(x==("__debug__":Str))=false:=by decide)(he:starEach (e::es) X.env=(false,eval e X.env)::starEach es X.env:=by rfl)(H:(backTo C (starEach es X.env)).any (·.1)=false:=by rfl):
  yk X xr (.Raise (some (.Call (.Name x np) (e::es) [] C)) none pos) (JI x M):=by
 try simp only[q9]at*
 exact T7 o c.at_ c.exc PySem.F.excBase_ValueError d l hn a h b he H
def K2 {K:Frag}{st:Stmt}{m:Ex}(F:yJ K x x st f fd)(hm:mg x=some (.ref f))(S:jx N ps (qA st))
  (j:∀(kV doc pm:Value)(an:bE)(c ct:Value)(us:bj),us.length=ps.length->bindArgs (fnOf x x (gj st) (jX st) (qA st) .none kV doc pm an c ct) ⟨us,[]⟩=pure (ps.zip us))
  (a:∀(c:Value)(A:Around)(outer:bA)(s:Shared)(H:Hp)(E:XK),qE k (A.deeper (envOfC x (qA st) s.heap.objs.size f c))->
   kG (yN (ko P w) P w K mg base N x (qA st) f c A outer s H E) s.heap (kQ K E)->yu (yN (ko P w) P w K mg base N x (qA st) f c A outer s H E) (kQ K E) (jX st) m):
  j5 P w K mg base (k+1) x ps.length (wd N.length m):=by
 try simp only[q9]at*
 refine⟨f,fd,ps,?_,hm,F.kp,F.binds j⟩;obtain⟨z,u,kV,doc,pm,an,c,ct,o,rfl,lk,d⟩:=F.ex;refine KW lk d S (λv H Q E h=>h.len) λA outer s H v Q E i ⟨B,φ,A1,ws,p,r,h⟩=>⟨_,a c A outer s H E i LD,?_⟩;refine⟨φ,A1,ws.map some++List.replicate (N.length-ws.length) none,p,RE.start r,?_⟩;have h':=zN.mp h;show R.post _ (FB K φ H _) _;cases e:m (ws.map some++List.replicate (N.length-ws.length) none) A1 with
 |ok n A2=>
  rw[e]at h';cases n with
  |rt w=>exact h'|nx ρ=>exactλb t g l q _=>h' b t .non l q rfl|bk ρ=>exact h'.elim|ct ρ=>exact h'.elim
 |exc y A2=>rw[e]at h';exact h'|bad=>rw[e]at h';exact h'.elim
def R3 {L:Addr}{l:Nat}{kk:Nat}{n:Str}{y:Str}{Z:Str}{cs:bt}{PG:Nat->Obj->Addr->Obj->List V->Prop}{lam:Nat->Fn}{U:bj}{newD:String}{np:Pos}{cp:Pos}{ep:Pos}{dp:Pos}{yp:Pos}{J:Pos}{ap:Pos}{hp:Pos}(hL:∀k,gB X.prog X.w X.K X.mg X.base kk (PG k) (lam k))(hr:qE kk X.A)(hst:X.stack=X.env::X.outer)(hFr:X.env.frame=some L)(hD:jP X.K Z (.ref D))(exD:Mi.kK X.K D U newD=true)(hbD:U.contains (.type "BaseException")=true)
  (hcs:∀c,cs.contains c=true->∀C,jP X.K c (.ref C)->∃B f,Mi.kK X.K C B f=true/\Zn X.K C D=true)
  (hN:X.N.Nodup)(hi:X.N[i]? =some x)(hx:X.env.scope.names.lookup x=some .local)(hl:X.N[l]? =some n)(hn:X.env.scope.names.lookup n=some .local)(hj:X.N[j]? =some y)(hy:X.env.scope.names.lookup y=some .local)
  (hg:Gl X Z)(hs1:swapsWith (.Call (.Name x np) [] [] cp) none ep.line X.env=pure false:=by rfl)(hs2:swapsWith (.Name n J) (some (.Name y yp)) ap.line X.env=pure false:=by rfl)
  (hdx:(x==("__debug__":Str))=false:=by decide)(hdn:(n==("__debug__":Str))=false:=by decide)(hdD:(Z==("__debug__":Str))=false:=by decide):
  yk X xr (.Try [.Expr (.Call (.Name x np) [] [] cp) ep] [.ExceptHandler (some (.Name Z dp)) (some n) [.Assign [.Name y yp] (.Name n J) ap] hp] [] [] pos) (Q1 i j l cs PG lam):=by
 try simp only[q9]at*
 intro pins s σ H D0 I ⟨φ,A,ρ,S,re,h⟩;unfold Q1 Yc at h;cases ei:ρ[i]? with
 |none=>rw[ei]at h;exact h.elim|some ow=>
  cases ow with
  |none=>rw[ei]at h;exact h.elim|some w=>
   rw[ei]at h;cases w with
   |clo k ws P=>
    dsimp only at h
    by_cases hP:P=PG k
    ·rw[aa hP]at h
     subst hP;obtain⟨v,hv,a,ob,u,c,oc,uc,vs,rfl,h1,h2,hp',rvs⟩:=re.get i _ ei;obtain⟨⟨fd0,hfd⟩,fd,F,hb⟩:=hL k a ob u c oc uc vs hp';have ho:s.heap.get? a=some ob:=(show qI X.prog X.w H s.heap a (.frz ob u) from I.hok a _ h1).1
     refine Nm (i:=l) (L:=L) (k:=Lv X.K φ H ρ j l D0)
      I hst hFr hD exD hbD hN hl (.inl hn) ?body ?t hg hdD (.inr hn)
     case body=>
      refine wpAny_execs_cons (wpAny_Expr_any ?_ I.quiet hs1);obtain⟨m,hns,Q⟩:=I.loc;obtain⟨u',r',lk⟩:=Q i x (.ref a) hi hv (.inl hx);obtain rfl:u'=Value.ref a:=r';have hm:m x=some (.ref a):=by
       rcases lk with ⟨_,e⟩|⟨q|q,_⟩
       ·exact e
       ·rw[show X.env.kindOf x=some .local from hx]at q;cases q
       ·rw[show X.env.kindOf x=some .local from hx]at q;cases q
      refine wpAny_Call_Name_kw (wpAny_Name (wpAny_loadName_local I.ok.kind hx hns hm ?_) hdx);have hK:Frag.In [(a,ob)] s.heap:=λb o e=>by
       rw[lookup_cons]at e
       by_cases hb:b=a
       ·subst hb;simp at e;subst e;exact ho
       ·have:(b==a)=false:=by simpa using hb
        rw[this]at e;cases e
      have hkp:keepIn [(a,ob)] (.ref a)=true:=by
       unfold keepIn;obtain⟨o1,o2,o3,o4⟩:=ob;cases (show o3=_ from hfd)
       simp[lookup_cons]
      refine PySem.W.callWith_K0 (K:=[(a,ob)]) (first:=[]) hK hkp ?_;refine wpAny_call (codeAny_mono (F.run X.A X.stack s H ⟨[],[]⟩ [] [] (λ_ H1=>D0.nx σ H1)
       (M5 X.K φ H ρ j l D0 cs)
       hr I.env0 (hb s) .nil ⟨rfl,h1,h2,φ,A,ws,S,rvs,?_⟩) λr s' p=>?_)
      ·cases er:lam k ws A with
       |ok w1 A1=>
        rw[er]at h;exactλd H' v' z Y _=>h d H' σ z Y (re.mono z)
       |exc E A1=>
        rw[er]at h;dsimp only at h
        by_cases T:cs.contains E=true
        ·rw[aa T]at h
         exactλd H' z Y Ca g=>⟨E,Ca,rfl,g,T,d,A1,z,Y,h⟩
        ·rw[af T]at h;exact h.elim
       |bad=>rw[er]at h;exact h.elim
      ·cases r with
       |error e=>
        unfold CR at p;dsimp only at p;have un:∀b o,s.heap.get? b=some o->∃o',s'.heap.get? b=some o':=by
         obtain⟨_,_,_,_,_,_,un,_⟩:=p;exactλb o e=>un.there b o e (by simp)
        obtain⟨ea,C,H',rfl,I',ly,tr,E,Ca,ec,g,T,φ1,A1,l1,S1,hn1⟩:=W4 I p s.heap λb o e=>⟨o,e⟩;cases ec;obtain⟨B,f,exC,up⟩:=hcs E T C g;exact⟨ea,C,H',B,f,rfl,I',ly,tr,un,exC,up,λoe hoe M=>⟨E,φ1,A1,l1.trans (Le.new M),S1.lay M,⟨ea,oe,.own 0,C,rfl,qM,hoe,g⟩,hn1⟩⟩
       |ok fl=>
        cases fl with
        |ret u1=>
         obtain⟨v1,H1,I1,_,q1⟩:=I.after p;exact wpAny_execs_nil ⟨rfl,σ,H1,I1,q1⟩
        |next=>exact False.elim p|brk=>exact False.elim p|cont=>exact False.elim p
     case t=>
      rintro ea C H2 s2 I2 ⟨E,d,A',z,Y,rx,hn'⟩ E'
      refine UJ (i:=l) (j:=j) I2 hN hl hj hn (.inl hy) (λs' I'=>?_) hs2 (.inr hy) hdn;exact⟨_,H2,I',hn' d H2 _ z Y ((((re.mono z).set rx).set rx).unset)⟩
    ·rw[af hP]at h;exact h.elim
   |_=>exact h.elim
def jV {m:Ev}{P:Pos}{f:Str->Option Bool}{C:Addr}(b:QO X.K f (.ref C))(d:jP X.K x (.ref C))(hm:X.mg "isinstance"=none)(i:zo X xr e m)(g:Gl X "isinstance":=by rfl)(a:Gl X x:=by rfl)(hd:(x==("__debug__":Str))=false:=by decide)
  (h1:starEach [e,.Name x P] X.env=(false,eval e X.env)::starEach [.Name x P] X.env:=by rfl)(j:(backTo pos (starEach [.Name x P] X.env)).any (·.1)=false:=by rfl):
  zo X xr (.Call (.Name "isinstance" p) [e,.Name x P] [] pos) (ji f m):=by
 try simp only[q9]at*
 have c:PE X (.Name x P) (tC (.ref C)):=λpins s σ H Q I h=>QA I a (a3 I.mod.kin I.mod.glob d) ⟨.ref C,H,I,rfl,h⟩ hd;exact PE.imp (gU (Gw (cv:=.ref C) b λu r=>r) g hm (by rfl) (jD i (jD c yC) h1) (by decide) (by decide) h1 j) (ji.read λσ H Q h=>h)
def Rc {m:Ev}{P:Pos}{f:Str->Option Bool}{T:String}(c:QO X.K f (.type T))(hm:X.mg "isinstance"=none)(a:X.mg x=none)(d:bootBuiltins x=some (.type T))(i:zo X xr e m)(g:Gl X "isinstance":=by rfl)(b:Gl X x:=by rfl)(hn:x ≠ "__name__":=by decide)(hd:(x==("__debug__":Str))=false:=by decide)
  (h1:starEach [e,.Name x P] X.env=(false,eval e X.env)::starEach [.Name x P] X.env:=by rfl)(j:(backTo pos (starEach [.Name x P] X.env)).any (·.1)=false:=by rfl):
  zo X xr (.Call (.Name "isinstance" p) [e,.Name x P] [] pos) (ji f m):=by
 try simp only[q9]at*
 exact PE.imp (gU (Gw (cv:=.ty T) c λu r=>r) g hm (by rfl) (jD i (jD (JC b a d (v:=.ty T) rfl hn hd) yC) h1) (by decide) (by decide) h1 j) (ji.read λσ H Q h=>h)
def ZE {q:Str}{t:Lm}(d:ls[k]? =some t)(L:JQ X.N X.env.scope t=true)(B:BMain X.mg X.base)(a:X.env.code=.ref c)(C:CodeHd X.base c Pt)(g:X.env.qual ++ "<lambda>"=q)(f:defaultsOf t.params X.env=([],[])):
  zo X xr (.Lambda t.params t.body t.scope pos) (qV n q Pt k (wx X.env q ls k)):=by
 try simp only[q9]at*
 intro pins s σ H Q I h;rw[Na d]at h;exact O6 B a C (WS λy b e=>I.ok.has _ ((G6 L).free y b e)) g f pins s σ H Q I h
def GO {kk:Nat}{nl:Nat}{q:Str}{f:Str}{RF:Nat->List W->Hx->R W}{u:Pos}{p3:Pos}{P:Pos}{iter:Expr}{mi:Ei}{tw:Tg}(U:∀x,X.fn x=true)(hl:∀t∈ls,ka X.prog X.w X.K X.mg j q t)(E:∀t∈ls,Zi X t)
  (hR:∀base PG,(∀k,gB X.prog X.w X.K X.mg base (j+1) (PG k) (kf ls k))->qe X.prog X.w X.K X.mg base kk f 1 (wQ PG RF))(hr:qE kk X.A)(hc:X.calm=true)(S:wI X sc)(d:g9 X.N N sc nl []=true)(hw:kq X xr (.Name x P) iter mi)
  (M:∀s H fp,kj (qN X N sc s H fp jm) (.Name x P) tw)(hi:N[i]? =some x)(hv:Zq (relabel sc X.env) x)(hg:∀s H fp,Gl (qN X N sc s H fp jm) f)(Y:(x==("__debug__":Str))=false:=by decide)(hcx:(x==("__classdict__":Str))=false:=by decide)(Z:(f==("__debug__":Str))=false:=by decide)
  (he:∀env:Env,starEach [.Name x u] env=(false,eval (.Name x u) env)::starEach [] env:=by intro _;rfl)(B:∀env:Env,(backTo p3 (starEach [] env)).any (·.1)=false:=by intro _;rfl)
  (hs:∀x,foldedSetIterable iter X.env x=pure x:=by intro _;rfl):
  zo X xr (.ListComp (.Call (.Name f p) [.Name x u] [] p3) [⟨.Name x P,iter,[],0⟩] sc pos) (jk (wa nl mi tw i (wx X.env q ls) ls RF)):=by
 try simp only[q9]at*
 intro pins s σ H Q I h;obtain⟨φ,A,ρ,Sm,re,h⟩:=jk.read σ H Q h;rw[eval_ListComp];refine GV (use:=none) (N:=N) (nl:=nl) (cap:=[]) (wi:=tI X.K xr mi) (g:=tG X.K tw) (ti:=tT X.K j3 (zt (.bl true))) (tm:=Wg (λφ H=>RE X.K φ H ρ σ) X.K (qX (wY i (wx X.env q ls) ls RF ρ))) hc S d (λg' z=>by cases z) hw
  (λs3 H3 fp I3 f3=>⟨M s3 H3 fp,Mi.G9,Pd (λ_ _ z=>z) (PL I3 f3 U hl E hR hr hi hv (hg s3 H3 fp) Y hcx Z (he _) (B _)) rfl⟩) I (Q:=Q) ?T (λD C s' H' m I' q hn h1 h2 h3 h4 h5=>?_) hs
 case T=>
  refine⟨φ,A,ρ,Sm,re,ql (zN.mp h) (λy A1 h1 c H1 J L S1 jr D n hK=>?_) λ_ _ z=>z⟩;have ln:Le X.K c H1 c (upd H1 D (.lst [])):=Le.new n;have a:=zN.mp h1;refine qS.readG (λφ H φ' H' l g=>RE.monoW g l) (re.mono (L.trans ln)) (jr.mono ⟨ln.ex,ln.tp,ln.fz⟩) (S1.lay n) ((re.mono (L.trans ln)).kH) qM (S1.notin n hK) .nil ?_ (f:=y.len) (acc:=[]);cases er:qS y tw (zt (.bl true)) (qX (wY i (wx X.env q ls) ls RF ρ)) y.len 0 (gA nl [] ρ) [] A1 with
  |ok p A2=>
   rw[er]at a;intro r H2 σ2 zs l2 n2 S2 re2 d2 r2;have v:=L.trans (Le.ofD n l2);exact a r H2 D zs v S2 (L.st D n) d2 n2 r2
  |exc x A2=>rw[er]at a;exact a.elim|bad=>rw[er]at a;exact a.elim
 ·exact⟨m,hn,λh' sb=>⟨.ref D,H',I'.turned (t':=s'.toks) (λb o hb e=>(sb.2 b hb).trans e) h1 h2 (.inr h3) h4 h5,rfl,q⟩⟩
def LC {K:Frag}{q:Str}{st:Stmt}{m:jo->Ex}(F:yJ K x x st f fd)(hn:nsIn K mainGlobals x=some (some (.ref f)))(t:tabIn K x=some (c,Pt))(S:jx N ps (qA st))
  (a:∀(A:Around)(outer:bA)(s:Shared)(H:Hp)(E:XK),qE k (A.deeper (envOfC x (qA st) s.heap.objs.size f (.ref c)))->
   yu (yN kg P w K mg base N x (qA st) f (.ref c) A outer s H E).nox j3 (jX st) (m (wx (envOfC x (qA st) s.heap.objs.size f (.ref c)) q ls))):
  jJ P w K mg base kg (k+1) f fd ps (spT K ps.length λPF=>jG N.length (m PF)):=by
 try simp only[q9]at*
 obtain⟨D,B,kV,doc,pm,an,C,ct,o,rfl,lk,d⟩:=F.ex;have v:C=.ref c:=SH hn lk t;subst v;refine KW lk d S (λi H Q E h=>h.len) λA outer s H i Q E j ⟨I,φ,A1,ws,p,r,h⟩=>⟨_,jL.nox (a A outer s H E j),?_⟩;refine⟨φ,A1,ws.map some++List.replicate (N.length-ws.length) none,p,RE.start r,?_⟩;have h':=zN.mp (h (wx (envOfC x (qA st) s.heap.objs.size f (.ref c)) q ls));show R.post _ (FB K φ H _) _;cases e:m (wx (envOfC x (qA st) s.heap.objs.size f (.ref c)) q ls) (ws.map some++List.replicate (N.length-ws.length) none) A1 with
 |ok n A2=>
  rw[e]at h';cases n with
  |rt w=>exact h'|nx ρ=>exactλb z g l u _=>h' b z .non l u rfl|bk ρ=>exact h'.elim|ct ρ=>exact h'.elim
 |exc y A2=>rw[e]at h';exact h'.elim|bad=>rw[e]at h';exact h'.elim
def R9 {m:Ev}{a:Pos}{P:Pos}{pt:Pos}{x1:Str}{x2:Str}{kt:Nat}(t t2:Ty)(hm:X.mg "isinstance"=none)(k:X.mg x1=none)(j:X.mg x2=none)(f:bootBuiltins x1=some (.type t.nm))(d:bootBuiltins x2=some (.type t2.nm))(y:zo X xr e m)(x:Gl X "isinstance":=by rfl)(o:Gl X x1:=by rfl)(n:Gl X x2:=by rfl)
  (i:x1 ≠ "__name__":=by decide)(q:(x1==("__debug__":Str))=false:=by decide)(g:x2 ≠ "__name__":=by decide)(hd2:(x2==("__debug__":Str))=false:=by decide)
  (h0:starEach [.Name x1 a,.Name x2 P] X.env=(false,eval (.Name x1 a) X.env)::starEach [.Name x2 P] X.env:=by rfl)(r:starEach [.Name x2 P] X.env=(false,eval (.Name x2 P) X.env)::starEach [] X.env:=by rfl)
  (h1:starEach [e,.Tuple [.Name x1 a,.Name x2 P] kt pt] X.env=(false,eval e X.env)::starEach [.Tuple [.Name x1 a,.Name x2 P] kt pt] X.env:=by rfl)(z:(backTo pos (starEach [.Tuple [.Name x1 a,.Name x2 P] kt pt] X.env)).any (·.1)=false:=by rfl):
  zo X xr (.Call (.Name "isinstance" p) [e,.Tuple [.Name x1 a,.Name x2 P] kt pt] [] pos) (X9 t t2 m):=by
 try simp only[q9]at*
 exact PE.imp (gU TV x hm (by rfl) (jD y (jD (Xo (jD (JC o k f (v:=.ty t.nm) rfl i q) (jD (JC n j d (v:=.ty t2.nm) rfl g hd2) yC r) h0)) yC) h1) (by decide) (by decide) h1 z) λσ H Q ⟨φ,A,ρ,S,re,h⟩=>by
   refine tM.go S re (zN.mp h) λw A1 c H1 v h1 L s u=>?_;cases E:Qi w A1 with
   |none=>rw[E]at h1;exact h1.elim|some t'=>
    rw[E]at h1;refine⟨by show 2<=sizeLine;decide,λl b=>⟨v,t',l,rfl,qb.of qM,?_,h1 c _ _ (L.trans (Le.new b)) (s.lay b) rfl⟩⟩
    exact GL (s.lay b) (u.mono (Le.new b)) E
def Ka {m:Ev}{tw:Tg}(he:zo X xr e m)(g:kj X tg tw)(d:swapsWithSole [tg] e pos.line X.env=pure false:=by rfl)(hw:swappedStores [tg] e X.env=pure none:=by rfl)(h1:(assignEach [tg] X.env).map (·.2)=[assign tg X.env]:=by rfl):yk X xr (.Assign [tg] e pos) (gG m tw):=by
 try simp only[q9]at*
 exact PS.imp (Xm he g d hw h1) λD σ H ⟨φ,A,ρ,S,re,h⟩=>by
   refine tM.go S re (zN.mp h) λw A1 a H1 v h1 l s q=>?_;cases E:tw w ρ with
   |none=>rw[E]at h1;exact h1.elim|some c=>
    rw[E]at h1;exact⟨a,A1,ρ,w,c,s,re.mono l,q,E,λb r=>h1 a H1 b l s r⟩
end
section
def UP {a:Expr}{b:Expr}{ma:Ev}{mb:Ev}{apos c:Pos}(C:zo X xr a ma)(he:zo X xr b mb)(B:starEach [b] X.env=(false,eval b X.env)::starEach [] X.env:=by rfl)
  (e:attributeBase a "extend" X.env (eval a X.env)=eval a X.env:=by rfl)
  (w:((backTo c (starEach [b] X.env)).all (λx=>!x.1)&&(backToKw c (keywordEach [] X.env)).all (λx=>x.1.isSome)
   && decide ([b].length+([]:bD).length+(if ([]:bD).isEmpty then 0 else 1)<30))=true:=by rfl)(h:(apos.endLine==c.line)=true:=by rfl):
  zo X xr (.Call (.Attribute a "extend" apos) [b] [] c) (qU gh ma mb):=by
 try simp only[q9]at*
 exact KO PySem.F.slot_list_extend (by kernel_rfl) Ta TF (λφ A H x y u v Q S s q p=>by
   unfold gh at p;cases u with
   |ref n=>
    cases v with
    |ref k=>
     dsimp only at p;cases d:A[n]? with
     |none=>rw[d]at p;exact p.elim|some o=>cases o with
      |lst ws=>
       cases E:A[k]? with
       |none=>rw[d,E]at p;exact p.elim|some t=>cases t with
        |lst us=>
         rw[d,E]at p;dsimp only at p
         by_cases f:ws.length+us.length<=qy
         ·rw[aa f]at p
          obtain⟨l,xs,rfl,f1,g1,g⟩:=S.lst s d;obtain⟨D,zs,rfl,f2,g2,r⟩:=S.lst q E;refine⟨l,D,xs,zs,rfl,rfl,g1,g2,?_,?_⟩
          ·rw[<- g.length,<- r.length]
           have:sizeLine=16777216:=sizeLine_eq
           unfold qy at f;omega
          ·obtain⟨j,i⟩:=S.write (o:=.lst ws) (o':=.lst (ws++us)) d rfl rfl f1 (u:=.lst (xs++zs)) ⟨xs++zs,qM,(g.append r).mono (Le.upd f1 (λ_ z=>by rw[g1]at z;cases z) λ_ _ z=>by rw[g1]at z;cases z)⟩
           exact p _ _ _ j i rfl
         ·rw[af f]at p;exact p.elim
        |_=>rw[d,E]at p;exact p.elim
      |_=>rw[d]at p;cases E:A[k]? with
       |none=>rw[E]at p;exact p.elim|some _=>rw[E]at p;exact p.elim
    |_=>exact p.elim
   |_=>cases v<;>exact p.elim) C he B e w h
end
def Y3 {a b:Expr}{ma mb:Ev}(H:zo X xr a ma)(h:zo X xr b mb):zo X xr (.BinOp a .Mult b pos) (zh yL ma mb):=by
 try simp only[q9]at*
 exact gZ Rn RB TQ H h
section
variable {a b c:Expr}{m ma mb mc:Ev}
def TJ (B:qE k X.A)(D:zo X xr a ma)(C:zo X xr b mb)(y:K6 b:=by intro _ _;rfl):zo X xr (.Subscript a b pos) (zh Za ma mb):=by
 try simp only[q9]at*
 exact PE.imp (RR (JS B) D C y) λσ H Q ⟨φ,A,ρ,S,re,h⟩=>by
   refine tM.go S re (zN.mp h) λw A1 j H1 v h1 l P x=>?_;refine tM.go P (re.mono l) (ql (zN.mp h1) (λ_ _ z=>z) λ_ _ z=>z.mono l) λq A2 e T v2 c L s u=>?_;unfold Za at c;cases w with
   |ref n=>
    cases E:keyT? q with
    |none=>rw[E]at c;exact c.elim|some k=>
     rw[E]at c;dsimp only at c;cases g:(A2[n]?).bind j0 with
     |none=>rw[g]at c;exact c.elim|some K=>
      rw[g]at c;dsimp only at c;obtain⟨o,J,I⟩:=Y4 g;obtain⟨p,xs,rfl,f1,d,g2,g3⟩:=s.tdr (x.mono L) J I;obtain⟨N,rfl,M⟩:=Jt u E;cases f:yi k K with
      |none=>rw[f]at c;exact c.elim|some r=>
       rw[f]at c;obtain⟨i,hv,t⟩:=(Jn k g2 g3).1 r f;exact⟨p,xs,N,k,i,rfl,rfl,d,M,hv,c e T i (l.trans L) s t⟩
   |_=>exact c.elim
def Ga {apos C:Pos}(hr:qE k X.A)(ho:zo X xr a ma)(he:zo X xr b mb)(hf:zo X xr c mc)(m1:attributeBase a "get" X.env (eval a X.env)=eval a X.env:=by rfl)
  (m2:((backTo C (starEach [b,c] X.env)).all (λx=>!x.1)&&(backToKw C (keywordEach [] X.env)).all (λx=>x.1.isSome)
   && decide (([b,c]:bx).length+([]:bD).length+(if ([]:bD).isEmpty then 0 else 1)<30))=true:=by rfl)(m3:(apos.endLine==C.line)=true:=by rfl)
  (m4:backTo C (starEach [b,c] X.env)=[(false,eval b X.env),(false,eval c X.env)]:=by rfl):
  zo X xr (.Call (.Attribute a "get" apos) [b,c] [] C) (gq ma mb mc):=by
 try simp only[q9]at*
 exact PE.imp (S7 (JS hr) ho he hf ⟨m1,m2,m3,m4⟩) λσ H Q ⟨φ,A,ρ,S,re,h⟩=>by
   refine tM.go S re (zN.mp h) λw A1 M H1 v h1 i D y=>?_
   by_cases hd:J7 w A1=true
   ·rw[aa hd]at h1
    cases w with
    |ref n=>
     obtain⟨kv1,e1⟩:=Option.isSome_iff_exists.mp (show((A1[n]?).bind j0).isSome=true from hd)
     obtain⟨o1,q,j⟩:=Y4 e1;obtain⟨p,g,rfl,f1,d1,_⟩:=D.tdr y q j;refine⟨p,rfl,⟨g,d1⟩,?_⟩;refine tM.go D (re.mono i) (ql (zN.mp h1) (λ_ _ z=>z) λ_ _ z=>z.mono i) λN A2 J H2 v2 h2 B S2 q2=>?_;have l:=i.trans B;refine tM.go S2 (re.mono l) (ql (zN.mp h2) (λ_ _ z=>z) λ_ _ z=>z.mono l) λw3 A3 f I T e L t Z=>?_;unfold JK at e;cases r:keyT? N with
     |none=>rw[r]at e;exact e.elim|some k=>
      rw[r]at e;dsimp only at e;cases s:(A3[n]?).bind j0 with
      |none=>rw[s]at e;exact e.elim|some K=>
       rw[s]at e;dsimp only at e;obtain⟨o,eo,et⟩:=Y4 s;obtain⟨p',xs,ep,f3,d,g2,g3⟩:=t.tdr ((y.mono B).mono L) eo et;cases ep;obtain⟨b',rfl,eb⟩:=Jt (q2.mono L) r;refine⟨xs,b',k,rfl,d,eb,?_⟩;have u:=Jn k g2 g3;cases E:yi k K with
       |none=>rw[E]at e;rw[u.2 E];exact e f I T (l.trans L) t Z|some P=>
        rw[E]at e;obtain⟨U,hv,Y⟩:=u.1 P E;rw[hv];exact e f I U (l.trans L) t Y
    |_=>cases hd
   ·rw[af hd]at h1;exact h1.elim
def TL {o i:Expr}{mo mi:Ev}{t:Pos}(H:qE k X.A)(he:zo X xr e m)(a:zo X xr o mo)(b:zo X xr i mi)
  (h:swapsWithSole [.Subscript o i t] e pos.line X.env=pure false:=by rfl)(hw:swappedStores [.Subscript o i t] e X.env=pure none:=by rfl)
  (h1:(assignEach [.Subscript o i t] X.env).map (·.2)=[assign (.Subscript o i t) X.env]:=by rfl)
  (c:∀v,assign (.Subscript o i t) X.env v=(do
   let ov <- holding [v] (eval o X.env)
   let iv <- holding [v,ov] (eval i X.env)
   standAt t
   holding [v,ov,iv] (setItem ov iv v)
   release [v,ov,iv] []):=by intro _;rfl):yk X xr (.Assign [.Subscript o i t] e pos) (kX wM m mo mi):=by
 try simp only[q9]at*
 exact Gy (MK (JS H)) Rp SO he a b h hw h1 c
def Sa:zo X xr (.Dict [] [] pos) KG:=by
 try simp only[q9]at*
 exact PE.imp RT λσ H Q ⟨φ,A,ρ,S,re,h⟩ p a=>by
  obtain⟨l,s⟩:=S.alloc (o:=.td []) a (u:=.ext (qL p [])) ⟨[],qM,rfl,λ_ h=>(by cases h),.nil⟩
  exact h _ _ _ l s ⟨p,rfl,by rw[<- S.len];simp⟩
def U5 (i:zo X xr e m):kq X xr tg e (QP m):=by
 try simp only[q9]at*
 exact PI.imp (RZ i) λσ H R ⟨φ,A,ρ,S,re,h⟩=>by
   refine tM.go S re (zN.mp h) λw A1 a H1 v h1 l s q=>?_;cases w with
   |ref n=>
    dsimp only at h1;cases E:A1[n]? with
    |none=>rw[E]at h1;exact h1.elim|some f=>cases f with
     |td k=>
      rw[E]at h1;dsimp only at h1;obtain⟨p,rfl,f1⟩:=q;obtain⟨P,f2,xs,g1,g2,g,g3⟩:=s.ob n _ E;rw[f1]at f2;cases f2;refine⟨p,xs,rfl,g1,λo td=>?_⟩;have ln:Le X.K a H1 a (upd H1 p (.frz o (.ext (qL p xs)))):=Le.upd f1 (λxs z=>by rw[g1]at z;cases z) (λ_ _ z=>by rw[g1]at z;cases z)
      obtain⟨d,c⟩:=s.freeze (o:=.td k) (o':=.tr k) E rfl f1 (u:=.frz o (.ext (qL p xs))) ⟨o,_,xs,qM,td,g2,λx b=>ln.tp _ _ (g x b),g3.mono ln⟩;exact h1 a _ _ (l.trans d) c (NS qM g2 λx b=>ln.tp _ _ (g x b))
     |_=>rw[E]at h1;exact h1.elim
   |_=>exact h1.elim
def Ov (I:qE k X.A)(N:zo X xr a ma)(M:zo X xr b mb):zo X xr (.Dict [some a] [b] pos) (VJ ma mb):=by
 try simp only[q9]at*
 exact PE.imp (Md (JS I) N M) λσ H Q ⟨φ,A,ρ,S,re,h⟩ p J=>by
   obtain⟨l,U⟩:=S.alloc (o:=.td []) J (u:=.ext (qL p [])) ⟨[],qM,rfl,λ_ h=>(by cases h),.nil⟩
   refine tM.go U (re.mono l) (ql (zN.mp h) (λ_ _ z=>z) λ_ _ z=>z.mono l) λw A1 n H1 v h1 g T C=>?_;have L:=l.trans g;refine tM.go T (re.mono L) (ql (zN.mp h1) (λ_ _ z=>z) λ_ _ z=>z.mono L) λr A2 c j v2 f d s y=>?_;have e:=L.trans d
   split at f
   ·rename_i k P i
    obtain⟨B,rfl,E⟩:=Jt (C.mono d) P;have f0:c[A.length]? =some p:=d.ex _ _ (g.ex _ _ (by rw[<- S.len];simp))
    obtain⟨Y,f1,xs,g1,g2,Z,g3⟩:=s.ob _ _ i;rw[f0]at f1;cases f1;obtain rfl:xs=[]:=by simpa using g2
    have ln:Le X.K c j c (upd j p (.ext (qL p [(k,B,v2)]))):=Le.upd f0 (λxs z=>by rw[g1]at z;cases z) (λ_ _ z=>by rw[g1]at z;cases z)
    obtain⟨t,q⟩:=s.write (o:=.td []) (o':=.td [(k,r)]) i rfl rfl f0 (u:=.ext (qL p [(k,B,v2)])) ⟨_,qM,rfl,λx D=>by rw[List.mem_singleton.mp D];exact ln.tp _ _ E,.one (y.mono ln)⟩
    exact⟨B,k,v2,rfl,E,g1,f _ _ _ (e.trans t) q ⟨p,rfl,f0⟩⟩
   ·exact f.elim
def RQ (i j k:Nat){y z:Str}{q r:Pos}(D:X.calm=true)(h:X.N.Nodup)(u:X.N[i]? =some x:=by rfl)(l:Loc X.env.scope x:=by first|exact Or.inl rfl|exact Or.inr rfl)(hf:X.fn x=true∨X.env.scope.names.lookup x=some .local:=by first|exact .inl rfl|exact .inr rfl)
  (t:X.N[j]? =some y:=by rfl)(g:Loc X.env.scope y:=by first|exact Or.inl rfl|exact Or.inr rfl)(C:X.fn y=true∨X.env.scope.names.lookup y=some .local:=by first|exact .inl rfl|exact .inr rfl)
  (o:X.N[k]? =some z:=by rfl)(f:Loc X.env.scope z:=by first|exact Or.inl rfl|exact Or.inr rfl)(B:X.fn z=true∨X.env.scope.names.lookup z=some .local:=by first|exact .inl rfl|exact .inr rfl):
  kj X (.Tuple [.Name x p,.Name y q,.Name z r] n pos) (Zh i j k):=by
 try simp only[q9]at*
 exact PG.imp (Xz D (Qs (ZH h u l hf) (Qs (ZH h t g C) (Qs (ZH h o f B) GS)))) λv σ H Q ⟨φ,A,ρ,w,c,S,re,d,e,kk⟩=>by
   unfold Zh at e
   split at e
   ·rename_i x1 Y Z
    have J:=ao e;subst J;obtain⟨a,K,rfl,s,rs⟩:=d;obtain⟨v1,P,rfl,h1,v2,M,rfl,I,b,L,rfl,E,rfl⟩:=rs;exact⟨a,[v1,v2,b],rfl,s,rfl,v1,[v2,b],rfl,v2,[b],rfl,b,[],rfl,rfl,kk _ (((re.set h1).set I).set E)⟩
   ·cases e
def WT {apos c:Pos}(g:zo X xr a ma)(he:zo X xr b mb)(f:starEach [b] X.env=(false,eval b X.env)::starEach [] X.env:=by rfl)
  (e:attributeBase a "count" X.env (eval a X.env)=eval a X.env:=by rfl)
  (w:((backTo c (starEach [b] X.env)).all (λx=>!x.1)&&(backToKw c (keywordEach [] X.env)).all (λx=>x.1.isSome)
   && decide ([b].length+([]:bD).length+(if ([]:bD).isEmpty then 0 else 1)<30))=true:=by rfl)(h:(apos.endLine==c.line)=true:=by rfl):
  zo X xr (.Call (.Attribute a "count" apos) [b] [] c) (qU kW ma mb):=by
 try simp only[q9]at*
 exact KO PySem.F.slot_list_count PySem.F.type_list_count TC U9 (λφ A H x y u v Q S d q p=>by
   unfold kW at p;cases u with
   |ref n=>
    dsimp only at p;cases E:A[n]? with
    |none=>rw[E]at p;exact p.elim|some o=>cases o with
     |lst ws=>
      rw[E]at p;dsimp only at p
      by_cases hf:(wN v&&ws.all wN)=true
      ·rw[aa hf]at p
       rw[ai]at hf;obtain⟨l,rfl,f1⟩:=d;obtain⟨L,f2,s,g1,g2⟩:=S.ob n _ E;rw[f1]at f2;cases f2;obtain⟨i,C⟩:=WQ q hf.1 g2 hf.2;refine⟨l,s,y,rfl,rfl,qT.of g1,W7 q hf.1,i,?_⟩;rw[C]
       have:=p φ H _ .refl S rfl
       rw[GY]at this;simpa using this
      ·rw[af hf]at p;exact p.elim
     |_=>rw[E]at p;exact p.elim
   |_=>exact p.elim) g he f e w h
end
def qe.up {K:Frag}{f:Fn}(F:qe P w K mg base j x n f)(h:j<=k:=by decide):qe P w K mg base k x n f:=F.mono h
def j5.up {K:Frag}{f:Fn}(F:j5 P w K mg base j x n f)(h:j<=k:=by decide):j5 P w K mg base k x n f:=F.mono h
section
variable {C:List Value->Prop}
theorem VB (h:∀a,C [a]):∀us:bj,us.length=1->C us
 |[a],_=>h a
theorem gM (h:∀a b,C [a,b]):∀us:bj,us.length=2->C us
 |[a,b],_=>h a b
theorem Vw (h:∀a b c,C [a,b,c]):∀us:bj,us.length=3->C us
 |[a,b,c],_=>h a b c
theorem We (h:∀a b c d e,C [a,b,c,d,e]):∀us:bj,us.length=5->C us
 |[a,b,c,d,e],_=>h a b c d e
end
def Zc {l:bt}(h:decide l.Nodup=true):l.Nodup:=of_decide_eq_true h
noncomputable def Vt (N P:bt)(sc:Scope):Bool:=decide (sc.kind=.function)&&(!sc.isCoroutine&&(!sc.isGenerator&&(decide N.Nodup&&(decide (N.take P.length=P)&&(P.all (λx=>decide (sc.names.lookup x=some .local) || decide (sc.names.lookup x=some .cell))&&sc.names.all λy=>!decide (y.2=.free))))))
def yw {P:bt}(h:Vt N P sc=true):jx N P sc:=by
 unfold Vt at h;simp only[ai,ah,Bool.not_eq_true',all_eq_true,aU,decide_eq_false_iff_not]at h;obtain⟨h1,f,e,d,c,b,a⟩:=h;exact⟨h1,f,e,d,c,b,λy H=>a y H⟩
section
def Vx (h:(ls.all λt=>JQ X.N X.env.scope t)=true):∀t∈ls,Zi X t:=λt H=>G6 (bJ.mp h t H)
def QG {elt iter:Expr}{ifs:bx}{g:List Comprehension}{mi:Ei}{tw:Tg}{M:Ev}{em:Em}(nl:Nat)(cap:bq)(hw:kq X xr tg iter mi)
  (n:∀s H fp,kj (qN X N sc s H fp jm) tg tw/\gD (qN X N sc s H fp jm) ifs M/\gI (qN X N sc s H fp jm) elt (⟨tg,iter,ifs,0⟩::g) sc pos 0 em)
  (c:X.calm=true:=by rfl)(S:wI X sc:=by exact cps (by kernel_rfl))(p:g9 X.N N sc nl cap=true:=by kernel_rfl)
  (b:∀g',g[0]? =some g'->g'.is_async=0:=by intro _ h;cases h<;>rfl)
  (a:∀x,foldedSetIterable iter X.env x=pure x:=by intro _;rfl):gL X xr (.ListComp elt (⟨tg,iter,ifs,0⟩::g) sc pos) (jI nl cap mi tw M em):=T5 nl cap c S p hw n b a
def QY {elt:Expr}{d:Nat}{me:Ev}(he:zo X j3 elt me)(h:∀e s,X.xe e s->False:=by exactλ_ _ z=>z)(H:gens[d+1]? =none:=by rfl):gI X elt gens sc pos d (qX me):=R5 h he H
end
open PySem L2
abbrev zC:Ev:=zW 0
abbrev zA:Ev:=zW 1
abbrev zX:Ev:=zW 2
abbrev zT:Ev:=zW 3
abbrev zP:Ev:=zW 4
abbrev qD:Ev:=zW 5
abbrev j6:Ev:=zW 6
abbrev zZ:Ev:=zW 7
abbrev qO:Ev:=zW 8
abbrev j7:Ev:=zW 9
abbrev Z8:Ev:=zW 10
abbrev Z7:Ev:=zW 11
abbrev ja:Ev:=zW 12
abbrev Zj:Ev:=zW 13
abbrev Zg:Ev:=zW 14
abbrev zG:Ev:=zt (.int 0)
abbrev zy:Ev:=zt (.int 1)
abbrev kh:Ev:=zt (.int 2)
abbrev jR:Ev:=zt (.int 3)
abbrev yG:Ev:=zt (.int 4)
abbrev gK:Ev:=zt (.int 5)
abbrev Qf:Ev:=zt (.int 6)
abbrev LY:Ev:=zt (.int 7)
abbrev Wh:Ev:=zt (.int 8)
abbrev Zv:Ev:=zt (.int 9)
abbrev Zm:Ev:=zt (.int 10)
abbrev jC:Ev:=zt (.bl true)
abbrev VH:Ev:=zt (.bl false)
abbrev gO:Ev:=zt .non
abbrev yI:Ex:=zm (jl VH) zB
end Mi
namespace G
open PySem L2 Mi
noncomputable def top (i:Nat):Stmt:=PySem.Challenge.pw_nearkinds_k61_words_by_rule.main.body.getD i (.Pass ⟨0,0,0,0⟩)
structure Bu (mg:bz):Prop where
 Uh:mg "ValueError"=none
 NG:mg "abs"=none
 MB:mg "all"=none
 Ky:mg "bool"=none
 XX:mg "int"=none
 qW:mg "isinstance"=none
 JT:mg "len"=none
 Kw:mg "list"=none
 NX:mg "max"=none
 X1:mg "min"=none
 kB:mg "range"=none
 Y5:mg "tuple"=none
 NR:mg "zip"=none
 VM:∃t,mg "MOST_NUMBER_BY_RULE"=some (.int 9 t)
 VN:∃t,mg "MOST_SIGNS_BY_RULE"=some (.int 12 t)
noncomputable abbrev qR:bt:=["NoNumber","NoKind"]
noncomputable abbrev Jp:bt:=["NoTable","NotSteady","NoPlace","NoKind","NoMix","NoNumber","NoLot","NoKinds","NoPaper","NoParting","NoClosed","TooMany","NoText","NoLine","NoDeed","NoWeights","NotWhole","NoNumbers"]
def qB {K:Frag}(R:Jp.all (gn K qR)=true)(h:Jp.contains x=true:=by decide +kernel):gn K qR x=true:=bJ.mp R x (List.contains_iff_mem.mp h)
def ZC {l:List (Str×NameKind)}(h:(l.all λy=>!(y.2==.cell))=true):∀y∈l,y.2≠.cell:=λy H e=>by
 have q:=bJ.mp h y H;rw[e]at q;cases q
def yE {m:Ev}(h:zo X xr e m):SE X xr e m:=by rw[Kn]at h;exact h
abbrev WR:Stmt:=top 1
def Us:jx ["thing"] ["thing"] (qA WR):=yw (by kernel_rfl)
def UI:Ex:=zm (jl (qJ (w5 .int zC) (kL (w5 .bl zC)))) zB
abbrev Wu:Stmt:=top 2
def VP:jx ["thing","least","greatest"] ["thing","least","greatest"] (qA Wu):=yw (by kernel_rfl)
def Wr (U:Fn):Ex:=zm (jl (qJ (zF U (zc zC zl)) (yc kl kl zA zC zX))) zB
abbrev WA:Stmt:=top 26
def VU:jx ["number","least","greatest"] ["number","least","greatest"] (qA WA):=yw (by kernel_rfl)
def Wz (Y:Fn):Ex:=zm (qG ((λρ A=>((kL (zF Y (zc zC (zc zA (zc zX zl))))) ρ A).nox)) (zm (JI "NoNumber" (zc (mJ [zt (.str "this is no whole number from "),J2 zA,zt (.str " to "),J2 zX] Str.empty) zl)) zB) zB) zB
abbrev Wx:Stmt:=top 27
def VS:jx ["kind","greatest"] ["kind","greatest"] (qA Wx):=yw (by kernel_rfl)
def Wv (Y:Fn):Ex:=zm (qG ((λρ A=>((kL (zF Y (zc zC (zc zG (zc zA zl))))) ρ A).nox)) (zm (JI "NoKind" (zc (mJ [zt (.str "this is no kind from 0 to "),J2 zA] Str.empty) zl)) zB) zB) zB
abbrev Gq:Stmt:=top 28
def Jo:jx ["base","times","result","turn"] ["base","times"] (qA Gq):=yw (by kernel_rfl)
def GB:Ex:=zm (zE 2 zy) (zm (jQ (jh zA) (qh 3) (zm (zE 2 (zh zY zX zC)) zB)) (zm (jl zX) zB))
abbrev WK:Stmt:=top 29
def Jh:jx ["some","many","result","step"] ["some","many"] (qA WK):=yw (by kernel_rfl)
def WM:Ex:=zm (zE 2 zy) (zm (jQ (jh zC) (qh 3) (zm (zE 2 (zh wW (zh zY zX (zh qf zA zT)) (zh zJ zT zy))) zB)) (zm (jl zX) zB))
abbrev WH:Stmt:=top 30
def gc:jx ["many","signs","one","other","third","total","outside","first","second","ways"] ["many","signs","one","other","third"] (qA WH):=yw (by kernel_rfl)
def gQ (y:Fn)(g:Fn)(Y:Fn)(w:Fn):Ex:=zm (jd (zF w (zc zC (zc zy (zc (zt (.int 12)) zl))))) (zm (jd (zF w (zc zA (zc zy (zc Zv zl))))) (zm (jd (zF Y (zc zX (zc zC zl)))) (zm (jd (zF Y (zc zT (zc zC zl)))) (zm (jd (zF Y (zc zP (zc zC zl)))) ((λρ A=>((zm (qG (qJ (zh jc zA zy) (zh Zs zP zG)) (zm (jl zG) zB) zB) (zm (zE 5 zG) (zm (jQ (jh (zh zJ (zh qf zC zP) zy)) (qh 6) (zm (zE 7 (zh qf (zh zJ zP j6) zX)) (zm (zE 8 (zh qf (zh zJ zP j6) zT)) (zm (qG (qJ (zh yP zZ zG) (qJ (zh yP qO zG) (zh kl (zh zJ zZ qO) zP))) (zm (zE 9 (zh zY (zF y (zc j6 (zc (zh qf zC zP) zl))) (zF g (zc (zh qf zA zy) (zc j6 zl))))) (zm (zE 9 (zh zY (zh zY j7 (zF y (zc zZ (zc zP zl)))) (zF y (zc qO (zc (zh qf zP zZ) zl))))) (zm (Qa 5 (zh zY j7 (zF g (zc (zh qf zA kh) (zc (zh qf (zh qf zP zZ) qO) zl))))) zB))) zB) zB)))) (zm (jl qD) zB)))) ρ A).nox))))))
abbrev WE:Stmt:=top 32
def VZ:jx ["_law_script","_law_k"] ["_law_script","_law_k"] (qA WE):=yw (by kernel_rfl)
def YC:Ex:=zm (qG (zh jz zA (mQ y0 (kJ zC))) (zm (jl (zh qd zC zA)) zB) zB) (zm (jl zG) zB)
abbrev WJ:Stmt:=top 33
def WI:jx ["_law_script","_law_k","_law_cell"] ["_law_script","_law_k"] (qA WJ):=yw (by kernel_rfl)
def YK (v:Fn):Ex:=zm (zE 2 (zF v (zc zC (zc zA zl)))) (zm (qG (zh yP zX (zh Zk Zm (zt (.int 18)))) (zm (jl (qa (zc (zh qf zX (zh Zk Zm (zt (.int 18)))) (zc jC zl)))) zB) zB) (zm (jl (qa (zc (zh yY zX (zt (.int 2147483647))) (zc VH zl)))) zB))
abbrev WO:Stmt:=top 34
def Ji:jx ["_law_state_here","_law_many","_law_found","_law_stirred"] ["_law_state_here","_law_many"] (qA WO):=yw (by kernel_rfl)
def YO:Ex:=zm (qG (zh qd zC zy) (zm (zE 2 (zh yY (zh qd zC zG) zA)) (zm (kX Zo (zh wW (zh qd zC zG) zA) zC zG) (zm (jl zX) zB))) zB) (zm (kX Zo (zh yY (zh zJ (zh zY (zh qd zC zG) (zt (.int 48271))) (zt (.int 29))) (zt (.int 2147483647))) zC zG) (zm (zE 3 (zh yY (zh zJ (zh zJ (zh zY (zh qd zC zG) (zh qd zC zG)) (zh zY (zt (.int 39373)) (zh qd zC zG))) LY) (zt (.int 2147483629)))) (zm (zE 3 (zh yY (zh zJ (zh zY zT zT) (zh zY (zt (.int 16807)) zT)) (zt (.int 2147483587)))) (zm (jl (zh yY (zh wW zT Wh) zA)) zB))))
abbrev YM:Stmt:=top 35
def Uk:jx ["_law_found","_law_due"] ["_law_found","_law_due"] (qA YM):=yw (by kernel_rfl)
def YN (w:Fn):Ex:=zm (qG (X9 .tup .lst zA) (zm (qG (Vv (zh ju (w5 .tup zC) (w5 .tup zA)) (zh ju (w5 .lst zC) (w5 .lst zA))) yI zB) (zm (qG (zh ju (mQ y0 (kJ zC)) (mQ y0 (kJ zA))) yI zB) (zm (jl (mQ Vj (jI 2 [] (X8 zC zA) (kF 0 1) jC (qX (zF w (zc zC (zc zA zl))))))) zB))) zB) (zm (jl (qJ (zh jc zC zA) (zh jc (w5 .bl zC) (w5 .bl zA)))) zB)
def Uo {K:Frag}(T:Bu mg)(F:yJ K "_law_same" "_law_same" YM f fd)(hm:mg "_law_same"=some (.ref f)){a:Fn}(wC:qe P w K mg base k "_law_same" 2 a):qe P w K mg base (k+1) "_law_same" 2 (jG 2 (YN a)):=
 kM F hm Uk (λ_ _ _ _ _ _=>gM λ_ _=>rfl) λc A outer s H E h=>zq (yd (gW (R9 .tup .lst T.qW T.Y5 T.Kw (by rfl) (by rfl) (zi 1))) (zq (yd (Qo (Ng (jZ (gz h) (gr .tup T.qW T.Y5 (by rfl) (zi 0)) (gr .tup T.qW T.Y5 (by rfl) (zi 1))) (Pu (jZ (gz h) (gr .lst T.qW T.Kw (by rfl) (zi 0)) (gr .lst T.qW T.Kw (by rfl) (zi 1)))))) (zq (jf yW) zU) zU) (zq (yd (jZ (gz h) (Jy T.JT (JV (zi 0))) (Jy T.JT (JV (zi 1)))) (zq (jf yW) zU) zU) (zq (jf (Pw rfl T.MB (ML (QG (N:=["_law_one","_law_other"]) 2 [] (Ry rfl T.NR (zi 0) (zi 1)) (λ_ _ _=>⟨Qp 0 1 rfl (Zc (by kernel_rfl)),Jr,QY (je wC h (zj (zi 0) (zj (zi 1) zD)))⟩))))) zU))) zU) (zq (jf (QB (gy (wO h) (zi 0) (zi 1)) (Qx (gy (wO h) (gr .bl T.qW T.Ky (by rfl) (zi 0)) (gr .bl T.qW T.Ky (by rfl) (zi 1)))))) zU)
abbrev YA:Stmt:=top 36
def wy:jx ["_law_call","_law_error","e","_law_marks"] ["_law_call"] (qA YA):=yw (by kernel_rfl)
def Jf:Ex:=zm (zE 3 (qa (zc (ji (jM qR "NoTable") zA) (zc (ji (jM qR "NotSteady") zA) (zc (ji (jM qR "NoPlace") zA) zl))))) (zm (zE 3 (zh zJ zT (qa (zc (ji (jM qR "NoKind") zA) (zc (ji (jM qR "NoMix") zA) (zc (ji (jM qR "NoNumber") zA) zl)))))) (zm (zE 3 (zh zJ zT (qa (zc (ji (jM qR "NoLot") zA) (zc (ji (jM qR "NoKinds") zA) (zc (ji (jM qR "NoPaper") zA) zl)))))) (zm (zE 3 (zh zJ zT (qa (zc (ji (jM qR "NoParting") zA) (zc (ji (jM qR "NoClosed") zA) (zc (ji (jM qR "TooMany") zA) zl)))))) (zm (zE 3 (zh zJ zT (qa (zc (ji (jM qR "NoText") zA) (zc (ji (jM qR "NoLine") zA) (zc (ji (jM qR "NoDeed") zA) zl)))))) (zm (zE 3 (zh zJ zT (qa (zc (ji (jM qR "NoWeights") zA) (zc (ji (jM qR "NotWhole") zA) (zc (ji (jM qR "NoNumbers") zA) zl)))))) (zm (qG (kL (ji (Wj qR) zA)) (zm (jl gO) zB) zB) (zm (jl (jk (jI 1 [3] (jh (zt (.int 18))) (qh 0) (zh qd zA zC) (qX zC)))) zB)))))))
def Qj (PG:jo)(lam:Nat->Fn):Ex:=zm (zE 1 gO) (zm (Q1 0 1 2 qR PG lam) Jf)
def V7 {K:Frag}(T:Bu mg)(C:yH K qR "NearError")(R:Jp.all (gn K qR)=true)(F:yJ K "_law_refused" "_law_refused" YA f fd)(hm:mg "_law_refused"=some (.ref f)){PG:jo}{lam:Nat->Fn}{kk:Nat}(h:kk<=k)(L:∀k,gB P w K mg base kk (PG k) (lam k)):qe P w K mg base (k+1) "_law_refused" 1 (jG 4 (Qj PG lam)):=
 kM F hm wy (λ_ _ _ _ _ _=>VB λ_=>rfl) λc A outer s H E r=>zq (qv 1 wy.nd JB) (zq (R3 L (r.mono h) rfl rfl C.top_at C.top_exc (by decide +kernel) C.under wy.nd rfl rfl rfl rfl rfl rfl rfl) (zq (qv 3 wy.nd (jw (zj (jV (C.isx (qB R)) (jY (qB R)) T.qW (zi 1)) (zj (jV (C.isx (qB R)) (jY (qB R)) T.qW (zi 1)) (zj (jV (C.isx (qB R)) (jY (qB R)) T.qW (zi 1)) zD))) (zu (zu (zu qj))))) (zq (qv 3 wy.nd (qZ (zi 3) (jw (zj (jV (C.isx (qB R)) (jY (qB R)) T.qW (zi 1)) (zj (jV (C.isx (qB R)) (jY (qB R)) T.qW (zi 1)) (zj (jV (C.isx (qB R)) (jY (qB R)) T.qW (zi 1)) zD))) (zu (zu (zu qj)))))) (zq (qv 3 wy.nd (qZ (zi 3) (jw (zj (jV (C.isx (qB R)) (jY (qB R)) T.qW (zi 1)) (zj (jV (C.isx (qB R)) (jY (qB R)) T.qW (zi 1)) (zj (jV (C.isx (qB R)) (jY (qB R)) T.qW (zi 1)) zD))) (zu (zu (zu qj)))))) (zq (qv 3 wy.nd (qZ (zi 3) (jw (zj (jV (C.isx (qB R)) (jY (qB R)) T.qW (zi 1)) (zj (jV (C.isx (qB R)) (jY (qB R)) T.qW (zi 1)) (zj (jV (C.isx (qB R)) (jY (qB R)) T.qW (zi 1)) zD))) (zu (zu (zu qj)))))) (zq (qv 3 wy.nd (qZ (zi 3) (jw (zj (jV (C.isx (qB R)) (jY (qB R)) T.qW (zi 1)) (zj (jV (C.isx (qB R)) (jY (qB R)) T.qW (zi 1)) (zj (jV (C.isx (qB R)) (jY (qB R)) T.qW (zi 1)) zD))) (zu (zu (zu qj)))))) (zq (qv 3 wy.nd (qZ (zi 3) (jw (zj (jV (C.isx (qB R)) (jY (qB R)) T.qW (zi 1)) (zj (jV (C.isx (qB R)) (jY (qB R)) T.qW (zi 1)) (zj (jV (C.isx (qB R)) (jY (qB R)) T.qW (zi 1)) zD))) (zu (zu (zu qj)))))) (zq (yd (JF (gW (Rc C.isv T.qW T.Uh (by rfl) (zi 1)))) (zq (jf JB) zU) zU) (zq (jf (Jw (QG (N:=["_law_k","_law_marks"]) 1 [3] (ky rfl T.kB zp) (λ_ _ _=>⟨yn 0 (Zc (by kernel_rfl)),Sh (gW (yg (zi 1) (zi 0))),QY (zi 0)⟩)))) zU)))))))))
abbrev WC:Stmt:=top 37
def kT:jx ["_law_many","_law_signs","_law_one","_law_other","_law_third","_law_ways","_law_at","_law_later","_law_steps","_law_first","_law_second","_law_mine","_law_theirs","_law_often","_law_key"] ["_law_many","_law_signs","_law_one","_law_other","_law_third"] (qA WC):=yw (by kernel_rfl)
def Yz:Ex:=zm (qG (qJ (zh jc zA zy) (zh Zs zP zG)) (zm (jl zG) zB) zB) (zm (zE 5 (VJ (zR (zc zG (zc zG zl))) zy)) (zm (jQ (jh zC) (qh 6) (zm (zE 7 KG) (zm (qG (zh jz j6 zP) (zm (zE 8 (qa (zc (zR (zc zG (zc zy (zc zy zl)))) (zc (zR (zc zy (zc zG (zc zy zl)))) (zc (zR (zc zy (zc zy (zc (zh qf zA kh) zl)))) zl))))) zB) (zm (zE 8 (qa (zc (zR (zc zG (zc zG (zc zy zl)))) (zc (zR (zc zy (zc zy (zc (zh qf zA zy) zl)))) zl)))) zB)) (zm (jQ (QP qD) (kF 9 10) (zm (jQ (jS qO) (Zh 11 12 13) (zm (zE 14 (zR (zc (zh zJ j7 Z7) (zc (zh zJ Z8 ja) zl)))) (zm (kX wM (zh zJ (gq zZ Zg zG) (zh zY (zh Za qD (zR (zc j7 (zc Z8 zl)))) Zj)) zZ Zg) zB))) zB)) (zm (zE 5 zZ) zB))))) (zm (jl (gq qD (zR (zc zX (zc zT zl))) zG)) zB)))
abbrev Wq:Stmt:=top 38
def yS:jx ["_law_many","_law_signs","_law_one","_law_other","_law_third","_law_words","_law_turn","_law_longer","_law_word","_law_first","_law_second","_law_found","_law_mine","_law_theirs"] ["_law_many","_law_signs","_law_one","_law_other","_law_third"] (qA Wq):=yw (by kernel_rfl)
def Yu:Ex:=zm (zE 5 (qa (zc (zR zl) zl))) (zm (jQ (jh zC) (qh 6) (zm (zE 7 (qa zl)) (zm (jQ (jS qD) (qh 8) (zm (jd (qU gh zZ (jk (jI 1 [8] (jh zA) (qh 0) jC (qX (zh zJ zA (zR (zc zC zl)))))))) zB)) (zm (zE 5 zZ) zB)))) (zm (gG (zR (zc (zh yL (zR (zc zG zl)) zC) (zc (zh zJ (zh yL (zR (zc zy zl)) zP) (zh yL (zR (zc zG zl)) (zh qf zC zP))) zl))) (kF 9 10)) (zm (zE 11 zG) (zm (jQ (jS qD) (qh 8) (zm (zE 12 (qU kW (jk (jI 1 [8,9] (jh zC) (qh 0) jC (qX (zh ju (zh qd zA zC) (zh qd zX zC))))) jC)) (zm (zE 13 (qU kW (jk (jI 1 [8,10] (jh zC) (qh 0) jC (qX (zh ju (zh qd zA zC) (zh qd zX zC))))) jC)) (zm (zE 11 (zh zJ Z7 (jg QU (qJ (zh jc ja zX) (zh jc Zj zT))))) zB)))) (zm (jl Z7) zB)))))
abbrev k9:Stmt:=top 39
def yD:jx ["_law_script","_law_k","_law_state_here","_law_many","_law_signs","_law_third","_law_turn","_law_one","_law_other","_law_due","_law_bad","_law_none","_law_calls"] ["_law_script"] (qA k9):=yw (by kernel_rfl)
noncomputable abbrev qt:Str:=(("law":Str)++(".<locals>.":Str))++("<lambda>":Str)
def ZJ (q:Fn):Lm:=yZ (Z5 (Z6 (Z2 ((jX k9).getD 0 kZ) 7)) 0) ["_law_bad","_law_none"] [10,11] (zF q (zc zC (zc zC (zc zA (zc zA (zc zA zl))))))
def ZG (q:Fn):Lm:=yZ (Z5 (Z6 (Z2 ((jX k9).getD 0 kZ) 8)) 0) ["_law_signs","_law_bad","_law_none"] [4,10,11] (zF q (zc zA (zc zC (zc zX (zc zG (zc zG zl))))))
def ZL (q:Fn):Lm:=yZ (Z5 (Z6 (Z2 ((jX k9).getD 0 kZ) 9)) 0) ["_law_many","_law_bad","_law_none"] [3,10,11] (zF q (zc zC (zc (Zu ((λρ A=>((zh jc zA (zt (.int 13))) ρ A).nox)) Zm zA) (zc zG (zc zX (zc zG zl))))))
def ZM (q:Fn):Lm:=yZ (Z5 (Z6 (Z2 ((jX k9).getD 0 kZ) 11)) 0) ["_law_many","_law_signs","_law_none"] [3,4,11] (zF q (zc zC (zc zA (zc zX (zc zG (zc zG zl))))))
def ZN (q:Fn):Lm:=yZ (Z5 (Z6 (Z2 ((jX k9).getD 0 kZ) 12)) 0) ["_law_many","_law_signs","_law_none"] [3,4,11] (zF q (zc zC (zc zA (zc zG (zc zX (zc zG zl))))))
def ZF (q:Fn):Lm:=yZ (Z5 (Z6 (Z2 ((jX k9).getD 0 kZ) 13)) 0) ["_law_many","_law_signs","_law_none"] [3,4,11] (zF q (zc zC (zc zA (zc zG (zc zG (zc zX zl))))))
def ye (q:Fn):List Lm:=[ZJ q,ZG q,ZL q,ZM q,ZN q,ZF q]
section
variable {K:Frag}(T:Bu mg){qi:Fn}(yx:∀base,j5 P w K mg base k "words_number" 5 qi)
include T yx
theorem Si:ka P w K mg k qt (ZJ qi):=
 ⟨⟨rfl,rfl,rfl,ZC (by kernel_rfl)⟩,λ_ _ _ _=>rfl,λbase cl a c A outer s H E h x=>yE (ku x (yx base) h (zj (zi 0) (zj (zi 0) (zj (zi 1) (zj (zi 1) (zj (zi 1) zD))))))⟩
theorem So:ka P w K mg k qt (ZG qi):=
 ⟨⟨rfl,rfl,rfl,ZC (by kernel_rfl)⟩,λ_ _ _ _=>rfl,λbase cl a c A outer s H E h x=>yE (ku x (yx base) h (zj (zi 1) (zj (zi 0) (zj (zi 2) (zj zp (zj zp zD))))))⟩
theorem Sb:ka P w K mg k qt (ZL qi):=
 ⟨⟨rfl,rfl,rfl,ZC (by kernel_rfl)⟩,λ_ _ _ _=>rfl,λbase cl a c A outer s H E h x=>yE (ku x (yx base) h (zj (zi 0) (zj (OB (Ke (jZ (wO h) (zi 1) zp)) zp (zi 1)) (zj zp (zj (zi 2) (zj zp zD))))))⟩
theorem Rb:ka P w K mg k qt (ZM qi):=
 ⟨⟨rfl,rfl,rfl,ZC (by kernel_rfl)⟩,λ_ _ _ _=>rfl,λbase cl a c A outer s H E h x=>yE (ku x (yx base) h (zj (zi 0) (zj (zi 1) (zj (zi 2) (zj zp (zj zp zD))))))⟩
theorem Sz:ka P w K mg k qt (ZN qi):=
 ⟨⟨rfl,rfl,rfl,ZC (by kernel_rfl)⟩,λ_ _ _ _=>rfl,λbase cl a c A outer s H E h x=>yE (ku x (yx base) h (zj (zi 0) (zj (zi 1) (zj zp (zj (zi 2) (zj zp zD))))))⟩
theorem T6:ka P w K mg k qt (ZF qi):=
 ⟨⟨rfl,rfl,rfl,ZC (by kernel_rfl)⟩,λ_ _ _ _=>rfl,λbase cl a c A outer s H E h x=>yE (ku x (yx base) h (zj (zi 0) (zj (zi 1) (zj zp (zj zp (zj (zi 2) zD))))))⟩
end
def NH {K:Frag}(T:Bu mg){q:Fn}(y:∀base,j5 P w K mg base k "words_number" 5 q):∀t∈ye q,ka P w K mg k qt t:=
 all_cons (Si T y) (all_cons (So T y) (all_cons (Sb T y) (all_cons (Rb T y) (all_cons (Sz T y) (all_cons (T6 T y) all_nil)))))
def KZ (j:Fn)(c:Fn)(w:Fn)(J:Fn)(y:Fn)(Z:Fn)(q:Fn)(RF:Nat->List W->Hx->R W)(Pt:Addr)(PF:jo):Ex:=zm (jQ (jh (zh KS zy (zh Zd (mQ y0 (kJ zC)) Qf))) (qh 1) (zm (zE 2 (zF J (zc zC (zc zA zl)))) (zm (gG (zR (zc (zh zJ zy (zF y (zc zX (zc (zt (.int 12)) zl)))) (zc (zh zJ zy (zF y (zc zX (zc Zv zl)))) zl))) (kF 3 4)) (zm (gG (zh qd (qa (zc (zR (zc zT (zc zP zl))) (zc (zR (zc yG (zc jR zl))) (zc (zR (zc jR (zc kh zl))) (zc (zR (zc (zt (.int 12)) (zc Zv zl))) zl))))) (zF y (zc zX (zc yG zl)))) (kF 3 4)) (zm (zE 5 (zF y (zc zX (zc (zh zJ zT zy) zl)))) (zm (jQ (jh Qf) (qh 6) (zm (zE 7 (zF y (zc zX (zc (zh zJ zT zy) zl)))) (zm (zE 8 (zh qd (qa (zc (zF y (zc zX (zc (zh zJ zT zy) zl))) (zc (zh Zd zT (zh zJ zZ qD)) (zc (jg Z4 (zh qf zZ qD)) (zc zZ zl))))) (zF y (zc zX (zc yG zl))))) (zm (zE 9 (zF j (zc zT (zc zP (zc zZ (zc qO (zc qD zl))))))) (zm (qG (kL (zF w (zc (zF Z (zc zT (zc zP (zc zZ (zc qO (zc qD zl)))))) (zc j7 zl)))) yI zB) (zm (qG (qJ (zh jz zT gK) (qJ (yc jz jz zy zP yG) (zh ju (zF c (zc zT (zc zP (zc zZ (zc qO (zc qD zl)))))) j7))) yI zB) zB)))))) (zm (zE 10 (zh qd (qa (zc zG (zc (zt (.int 13)) (zc (jg gF zy) (zc jC (zc gO (zc (zt (.str "2")) (zc (zR (zc kh zl)) (zc (zh Zk Zm (zt (.int 29))) zl))))))))) (zF y (zc zX (zc Wh zl))))) (zm (zE 11 (zh qd (qa (zc (zh zJ zT zy) (zc (jg gF zy) (zc jC (zc gO (zc (zt (.str "0")) (zc (zR (zc zG zl)) zl))))))) (zF y (zc zX (zc Qf zl))))) (zm (zE 12 (qa (zc (qV 1 qt Pt 0 (PF 0)) zl))) (zm (jd (qU jW ja (qV 1 qt Pt 1 (PF 1)))) (zm (jd (qU jW ja (qV 1 qt Pt 2 (PF 2)))) (zm (qG (zh ju (jk (wa 1 (jS ja) (qh 0) 0 PF (ye q) RF)) (zh zY (qa (zc (qa (zc gK zl)) zl)) jR)) yI zB) (zm (zE 12 (qa (zc (qV 1 qt Pt 3 (PF 3)) zl))) (zm (jd (qU jW ja (qV 1 qt Pt 4 (PF 4)))) (zm (jd (qU jW ja (qV 1 qt Pt 5 (PF 5)))) (zm (qG (zh ju (jk (wa 1 (jS ja) (qh 0) 0 PF (ye q) RF)) (zh zY (qa (zc (qa (zc jR zl)) zl)) jR)) yI zB) zB)))))))))))))))) (zm (jl (qJ (zh jc (zF Z (zc jR (zc zy (zc zG (zc zG (zc zG zl)))))) zy) (zh jc (zF Z (zc jR (zc zy (zc zG (zc zG (zc zy zl)))))) zG))) zB)
def o_law {K:Frag}(T:Bu mg)(F:yJ K "law" "law" k9 f fd)(hn:nsIn K mainGlobals "law"=some (some (.ref f)))(l:tabIn K "law"=some (c,Pt))(B:BMain mg base)(C:CodeHd base c Pt){g:Fn}(gf:qe P w K mg base k "_law_by_signs" 5 g){i:Fn}(w9:qe P w K mg base k "_law_gone_through" 5 i){d:Fn}(wC:qe P w K mg base k "_law_same" 2 d){J:Fn}(Zy:qe P w K mg base k "_law_state" 2 J){y:Fn}(qP:qe P w K mg base k "_law_take" 2 y){Z:Fn}(yU:qe P w K mg base k "words_number" 5 Z){Q:Fn}{RF:Nat->List W->Hx->R W}{kk:Nat}(b:kk<=k)(a:∀t∈ye Q,ka P w K mg j qt t)(e:∀base PG,(∀k,gB P w K mg base (j+1) (PG k) (kf (ye Q) k))->qe P w K mg base kk "_law_refused" 1 (wQ PG RF)):jJ P w K mg base kg (k+1) f fd ["_law_script"] (spT K 1 λPF=>jG 13 (KZ g i d J y Z Q RF Pt PF)):=
 LC (ls:=ye Q) F hn l yD λA outer s H E h=>zq (kD PassesOwn.never rfl (ky rfl T.kB (TR rfl T.NX zp (GN rfl T.X1 (Jy T.JT (JV (zi 0))) zp))) (yn 1 yD.nd) (zq (qv 2 yD.nd (je Zy h (zj (zi 0) (zj (zi 1) zD)))) (zq (Ka (jv (zj (qZ zp (je qP h (zj (zi 2) (zj zp zD)))) (zj (qZ zp (je qP h (zj (zi 2) (zj zp zD)))) zD)) (zu (zu qj))) (Qp 3 4 rfl yD.nd)) (zq (Ka (yg (jw (zj (jv (zj (zi 3) (zj (zi 4) zD)) (zu (zu qj))) (zj (jv (zj zp (zj zp zD)) (zu (zu qj))) (zj (jv (zj zp (zj zp zD)) (zu (zu qj))) (zj (jv (zj zp (zj zp zD)) (zu (zu qj))) zD)))) (zu (zu (zu (zu qj))))) (je qP h (zj (zi 2) (zj zp zD)))) (Qp 3 4 rfl yD.nd)) (zq (qv 5 yD.nd (je qP h (zj (zi 2) (zj (qZ (zi 3) zp) zD)))) (zq (kD PassesOwn.never rfl (ky rfl T.kB zp) (yn 6 yD.nd) (zq (qv 7 yD.nd (je qP h (zj (zi 2) (zj (qZ (zi 3) zp) zD)))) (zq (qv 8 yD.nd (yg (jw (zj (je qP h (zj (zi 2) (zj (qZ (zi 3) zp) zD))) (zj (GN rfl T.X1 (zi 3) (qZ (zi 7) (zi 5))) (zj (Pg T.NG (yo (zi 7) (zi 5))) (zj (zi 7) zD)))) (zu (zu (zu (zu qj))))) (je qP h (zj (zi 2) (zj zp zD))))) (zq (qv 9 yD.nd (je gf h (zj (zi 3) (zj (zi 4) (zj (zi 7) (zj (zi 8) (zj (zi 5) zD))))))) (zq (yd (JF (gW (je wC h (zj (je yU h (zj (zi 3) (zj (zi 4) (zj (zi 7) (zj (zi 8) (zj (zi 5) zD)))))) (zj (zi 9) zD))))) (zq (jf yW) zU) zU) (zq (yd (Qo (ZK (jZ QQ (zi 3) zp) (ZK (OI QQ QQ zp (zi 4) zp) (Jq (jZ (gz h) (je w9 h (zj (zi 3) (zj (zi 4) (zj (zi 7) (zj (zi 8) (zj (zi 5) zD)))))) (zi 9)))))) (zq (jf yW) zU) zU) zU)))))) (zq (qv 10 yD.nd (yg (jw (zj zp (zj zp (zj (Xf zp) (zj yW (zj JB (zj Qw (zj (jv (zj zp zD) (zu qj)) (zj (Y8 zp zp) zD)))))))) (zu (zu (zu (zu (zu (zu (zu (zu qj))))))))) (je qP h (zj (zi 2) (zj zp zD))))) (zq (qv 11 yD.nd (yg (jw (zj (qZ (zi 3) zp) (zj (Xf zp) (zj yW (zj JB (zj Qw (zj (jv (zj zp zD) (zu qj)) zD)))))) (zu (zu (zu (zu (zu (zu qj))))))) (je qP h (zj (zi 2) (zj zp zD))))) (zq (qv 12 yD.nd (jw (zj (ZE (ls:=ye Q) (t:=ZJ Q) rfl (by kernel_rfl) B rfl C rfl rfl) zD) (zu qj))) (zq (kU (Jl (zi 12) (ZE (ls:=ye Q) (t:=ZG Q) rfl (by kernel_rfl) B rfl C rfl rfl))) (zq (kU (Jl (zi 12) (ZE (ls:=ye Q) (t:=ZL Q) rfl (by kernel_rfl) B rfl C rfl rfl))) (zq (yd (jZ (gz h) (GO (N:=["_law_call"]) (q:=qt) (λ_=>rfl) a (Vx (by kernel_rfl)) e (h.mono b) rfl (cps (by kernel_rfl)) (by kernel_rfl) (QM (zi 12)) (λ_ _ _=>yn 0 (Zc (by kernel_rfl))) rfl (Or.inl rfl) (λ_ _ _=>rfl)) (yA (jw (zj (jw (zj zp zD) (zu qj)) zD) (zu qj)) zp)) (zq (jf yW) zU) zU) (zq (qv 12 yD.nd (jw (zj (ZE (ls:=ye Q) (t:=ZM Q) rfl (by kernel_rfl) B rfl C rfl rfl) zD) (zu qj))) (zq (kU (Jl (zi 12) (ZE (ls:=ye Q) (t:=ZN Q) rfl (by kernel_rfl) B rfl C rfl rfl))) (zq (kU (Jl (zi 12) (ZE (ls:=ye Q) (t:=ZF Q) rfl (by kernel_rfl) B rfl C rfl rfl))) (zq (yd (jZ (gz h) (GO (N:=["_law_call"]) (q:=qt) (λ_=>rfl) a (Vx (by kernel_rfl)) e (h.mono b) rfl (cps (by kernel_rfl)) (by kernel_rfl) (QM (zi 12)) (λ_ _ _=>yn 0 (Zc (by kernel_rfl))) rfl (Or.inl rfl) (λ_ _ _=>rfl)) (yA (jw (zj (jw (zj zp zD) (zu qj)) zD) (zu qj)) zp)) (zq (jf yW) zU) zU) zU)))))))))))))))) (zq (jf (QB (gy (wO h) (je yU h (zj zp (zj zp (zj zp (zj zp (zj zp zD)))))) zp) (Qx (gy (wO h) (je yU h (zj zp (zj zp (zj zp (zj zp (zj zp zD)))))) zp)))) zU)
def WY:Fn:=jG 1 UI
def YR:Fn:=iso WY
def YY:Fn:=jG 4 GB
def gT:Fn:=iso YY
def YJ:Fn:=jG 4 WM
def wz:Fn:=iso YJ
def WG:Fn:=jG 2 YC
def Jg:Fn :=  WG
def Qk:Fn:=jG 4 YO
def qP:Fn:=Qd Qk
def Up:Fn:=jG 2 (YN (λ_ _=>.bad))
def wC:Fn:=iso Up
def WB:Fn:=jG 15 Yz
def gf:Fn:=iso WB
def Wo:Fn:=jG 14 Yu
def w9:Fn:=iso Wo
def Wt:Fn:=jG 3 (Wr YR)
def Jd:Fn:=iso Wt
def WL:Fn:=jG 3 (YK Jg)
def Zy:Fn :=  WL
def j8:Fn:=wd 3 (Wz Jd)
def yT:Fn:=wd 2 (Wv Jd)
def qK:Fn:=wd 10 (gQ wz gT yT j8)
def yU:Fn:=iso (λws A=>(qK ws A).nox)
structure Tx (K:Frag):Prop where
 Uz:FD K "is_whole" WR
 Sw:FD K "raised" Gq
 Uc:FD K "count_lots" WK
 V3:FD K "_law_cell_at" WE
 Uu:FD K "_law_take" WO
 Ur:FD K "_law_same" YM
 V0:FD K "_law_by_signs" WC
 VR:FD K "_law_gone_through" Wq
 VT:FD K "is_whole_between" Wu
 Ul:FD K "_law_state" WJ
 VY:FD K "require_number" WA
 VX:FD K "require_kind_to" Wx
 V8:FD K "words_number" WH
 V9:FD K "_law_refused" YA
 Mb:FD K "law" k9
 Ud:nsIn K mainGlobals "ValueError"=some none
 Mk:nsIn K mainGlobals "abs"=some none
 NL:nsIn K mainGlobals "all"=some none
 Nu:nsIn K mainGlobals "bool"=some none
 N4:nsIn K mainGlobals "int"=some none
 Ui:nsIn K mainGlobals "isinstance"=some none
 Mf:nsIn K mainGlobals "len"=some none
 Nz:nsIn K mainGlobals "list"=some none
 N5:nsIn K mainGlobals "max"=some none
 Mv:nsIn K mainGlobals "min"=some none
 RC:nsIn K mainGlobals "range"=some none
 Rq:nsIn K mainGlobals "tuple"=some none
 NN:nsIn K mainGlobals "zip"=some none
 VL:CD K "MOST_NUMBER_BY_RULE" 9
 VO:CD K "MOST_SIGNS_BY_RULE" 12
 Mq:qR.all (JM K "NearError" ·)=true
 MY:Ko K "NearError"=true
 Mn:Jp.all (gn K qR)=true
section
variable {K:Frag}
def bu (X:K.In h)(G:h.Ns mainGlobals mg)(T:Tx K):Bu mg:=⟨aO X G T.Ud,aO X G T.Mk,aO X G T.NL,aO X G T.Nu,aO X G T.N4,aO X G T.Ui,aO X G T.Mf,aO X G T.Nz,aO X G T.N5,aO X G T.Mv,aO X G T.RC,aO X G T.Rq,aO X G T.NN,(let ⟨t,e⟩:=T.VL;⟨t,a3 X G e⟩),(let ⟨t,e⟩:=T.VO;⟨t,a3 X G e⟩)⟩
def cl (T:Tx K):yH K qR "NearError":=P2 T.Mq T.MY
structure Zz (K:Frag)(h:Heap)(mg:bz):Prop where
 X:K.In h
 G:h.Ns mainGlobals mg
 T:Tx K
 B:Bu mg
 C:yH K qR "NearError"
def zz (X:K.In h)(G:h.Ns mainGlobals mg)(T:Tx K):Zz K h mg:=⟨X,G,T,bu X G T,cl T⟩
def UB (Z:Zz K h mg):qe P w K mg base 1 "is_whole" 1 YR:=by
 obtain⟨f,fd,F,a⟩:=Z.T.Uz;exact(kM F (a3 Z.X Z.G a) Us (λ_ _ _ _ _ _=>VB λ_=>rfl) λc A outer s H E r=>zq (jf (QB (gr .int Z.B.qW Z.B.XX (by rfl) (zi 0)) (Qx (RU (gr .bl Z.B.qW Z.B.Ky (by rfl) (zi 0)))))) (zU):qe P w K mg base 1 "is_whole" 1 WY).iso
def Gs (Z:Zz K h mg):qe P w K mg base 1 "raised" 2 gT:=by
 obtain⟨f,fd,F,a⟩:=Z.T.Sw;exact(kM F (a3 Z.X Z.G a) Jo (λ_ _ _ _ _ _=>gM λ_ _=>rfl) λc A outer s H E r=>zq (qv 2 Jo.nd zp) (zq (kD PassesOwn.never rfl (ky rfl Z.B.kB (zi 1)) (yn 3 Jo.nd) (zq (qv 2 Jo.nd (yA (zi 2) (zi 0))) zU)) (zq (jf (zi 2)) zU)):qe P w K mg base 1 "raised" 2 YY).iso
def YG (Z:Zz K h mg):qe P w K mg base 1 "count_lots" 2 wz:=by
 obtain⟨f,fd,F,a⟩:=Z.T.Uc;exact(kM F (a3 Z.X Z.G a) Jh (λ_ _ _ _ _ _=>gM λ_ _=>rfl) λc A outer s H E r=>zq (qv 2 Jh.nd zp) (zq (kD PassesOwn.never rfl (ky rfl Z.B.kB (zi 0)) (yn 3 Jh.nd) (zq (qv 2 Jh.nd (Y6 (yA (zi 2) (yo (zi 1) (zi 3))) (qZ (zi 3) zp))) zU)) (zq (jf (zi 2)) zU)):qe P w K mg base 1 "count_lots" 2 YJ).iso
def V4 (Z:Zz K h mg):qe P w K mg base 1 "_law_cell_at" 2 Jg:=by
 obtain⟨f,fd,F,a⟩:=Z.T.V3;exact(kM F (a3 Z.X Z.G a) VZ (λ_ _ _ _ _ _=>gM λ_ _=>rfl) λc A outer s H E r=>zq (yd (jZ QQ (zi 1) (Jy Z.B.JT (JV (zi 0)))) (zq (jf (yg (zi 0) (zi 1))) zU) zU) (zq (jf zp) zU):qe P w K mg base 1 "_law_cell_at" 2 WG)
def Um (Z:Zz K h mg):qe P w K mg base 1 "_law_take" 2 qP:=by
 obtain⟨f,fd,F,a⟩:=Z.T.Uu;exact(kM F (a3 Z.X Z.G a) Ji (λ_ _ _ _ _ _=>gM λ_ _=>rfl) λc A outer s H E r=>zq (yd (gW (yg (zi 0) zp)) (zq (qv 2 Ji.nd (ZO (yg (zi 0) zp) (zi 1))) (zq (G3 (Y6 (yg (zi 0) zp) (zi 1)) (zi 0) zp) (zq (jf (zi 2)) zU))) zU) (zq (G3 (ZO (qZ (yA (yg (zi 0) zp) zp) zp) zp) (zi 0) zp) (zq (qv 3 Ji.nd (ZO (qZ (qZ (yA (yg (zi 0) zp) (yg (zi 0) zp)) (yA zp (yg (zi 0) zp))) zp) zp)) (zq (qv 3 Ji.nd (ZO (qZ (yA (zi 3) (zi 3)) (yA zp (zi 3))) zp)) (zq (jf (ZO (Y6 (zi 3) zp) (zi 1))) zU)))):qe P w K mg base 1 "_law_take" 2 Qk).Qd
def Uq (Z:Zz K h mg):qe P w K mg base 1 "_law_same" 2 wC:=by
 obtain⟨f,fd,F,a⟩:=Z.T.Ur;exact(Uo (k:=0) Z.B F (a3 Z.X Z.G a) (Mt (ps:=["_law_found","_law_due"]) F (a3 Z.X Z.G a) (λ_ _ _ _ _ _=>gM λ_ _=>rfl))).iso
def V1 (Z:Zz K h mg):qe P w K mg base 1 "_law_by_signs" 5 gf:=by
 obtain⟨f,fd,F,a⟩:=Z.T.V0;exact(kM F (a3 Z.X Z.G a) kT (λ_ _ _ _ _ _=>We λ_ _ _ _ _=>rfl) λc A outer s H E r=>zq (yd (Qo (ZK (jZ (wO r) (zi 1) zp) (Jq (jZ Vh (zi 4) zp)))) (zq (jf zp) zU) zU) (zq (qv 5 kT.nd (Ov r (jv (zj zp (zj zp zD)) (zu (zu qj))) zp)) (zq (kD PassesOwn.never rfl (ky rfl Z.B.kB (zi 0)) (yn 6 kT.nd) (zq (qv 7 kT.nd Sa) (zq (yd (jZ QQ (zi 6) (zi 4)) (zq (qv 8 kT.nd (jw (zj (jv (zj zp (zj zp (zj zp zD))) (zu (zu (zu qj)))) (zj (jv (zj zp (zj zp (zj zp zD))) (zu (zu (zu qj)))) (zj (jv (zj zp (zj zp (zj (yo (zi 1) zp) zD))) (zu (zu (zu qj)))) zD))) (zu (zu (zu qj))))) zU) (zq (qv 8 kT.nd (jw (zj (jv (zj zp (zj zp (zj zp zD))) (zu (zu (zu qj)))) (zj (jv (zj zp (zj zp (zj (yo (zi 1) zp) zD))) (zu (zu (zu qj)))) zD)) (zu (zu qj)))) zU)) (zq (kD PassesOwn.never rfl (U5 (zi 5)) (Qp 9 10 rfl kT.nd) (zq (kD PassesOwn.never rfl (QM (zi 8)) (RQ 11 12 13 rfl kT.nd) (zq (qv 14 kT.nd (jv (zj (qZ (zi 9) (zi 11)) (zj (qZ (zi 10) (zi 12)) zD)) (zu (zu qj)))) (zq (TL r (qZ (Ga r (zi 7) (zi 14) zp) (yA (TJ r (zi 5) (jv (zj (zi 9) (zj (zi 10) zD)) (zu (zu qj)))) (zi 13))) (zi 7) (zi 14)) zU))) zU)) (zq (qv 5 kT.nd (zi 7)) zU))))) (zq (jf (Ga r (zi 5) (jv (zj (zi 2) (zj (zi 3) zD)) (zu (zu qj))) zp)) zU))):qe P w K mg base 1 "_law_by_signs" 5 WB).iso
def VQ (Z:Zz K h mg):qe P w K mg base 1 "_law_gone_through" 5 w9:=by
 obtain⟨f,fd,F,a⟩:=Z.T.VR;exact(kM F (a3 Z.X Z.G a) yS (λ_ _ _ _ _ _=>We λ_ _ _ _ _=>rfl) λc A outer s H E r=>zq (qv 5 yS.nd (jw (zj (jv zD qj) zD) (zu qj))) (zq (kD PassesOwn.never rfl (ky rfl Z.B.kB (zi 0)) (yn 6 yS.nd) (zq (qv 7 yS.nd (jw zD qj)) (zq (kD PassesOwn.never rfl (QM (zi 5)) (yn 8 yS.nd) (zq (kU (UP (zi 7) (Jw (QG (N:=["_law_sign","_law_word"]) 1 [8] (ky rfl Z.B.kB (zi 1)) (λ_ _ _=>⟨yn 0 (Zc (by kernel_rfl)),Jr,QY (qZ (zi 1) (jv (zj (zi 0) zD) (zu qj)))⟩))))) zU)) (zq (qv 5 yS.nd (zi 7)) zU)))) (zq (Ka (jv (zj (Y3 (jv (zj zp zD) (zu qj)) (zi 0)) (zj (qZ (Y3 (jv (zj zp zD) (zu qj)) (zi 4)) (Y3 (jv (zj zp zD) (zu qj)) (yo (zi 0) (zi 4)))) zD)) (zu (zu qj))) (Qp 9 10 rfl yS.nd)) (zq (qv 11 yS.nd zp) (zq (kD PassesOwn.never rfl (QM (zi 5)) (yn 8 yS.nd) (zq (qv 12 yS.nd (WT (Jw (QG (N:=["_law_at","_law_word","_law_first"]) 1 [8,9] (ky rfl Z.B.kB (zi 0)) (λ_ _ _=>⟨yn 0 (Zc (by kernel_rfl)),Jr,QY (gy (gz r) (yg (zi 1) (zi 0)) (yg (zi 2) (zi 0)))⟩))) yW)) (zq (qv 13 yS.nd (WT (Jw (QG (N:=["_law_at","_law_word","_law_second"]) 1 [8,10] (ky rfl Z.B.kB (zi 0)) (λ_ _ _=>⟨yn 0 (Zc (by kernel_rfl)),Jr,QY (gy (gz r) (yg (zi 1) (zi 0)) (yg (zi 2) (zi 0)))⟩))) yW)) (zq (qv 11 yS.nd (qZ (zi 11) (U6 Z.B.XX (QB (gy (wO r) (zi 12) (zi 2)) (Qx (gy (wO r) (zi 13) (zi 3))))))) zU)))) (zq (jf (zi 11)) zU))))):qe P w K mg base 1 "_law_gone_through" 5 Wo).iso
def Ws (Z:Zz K h mg):qe P w K mg base 2 "is_whole_between" 3 Jd:=by
 obtain⟨f,fd,F,a⟩:=Z.T.VT;exact(kM F (a3 Z.X Z.G a) VP (λ_ _ _ _ _ _=>Vw λ_ _ _=>rfl) λc A outer s H E r=>zq (jf (QB (je (UB Z).up r (zj (zi 0) zD)) (Qx (P7 K4 K4 (zi 1) (zi 0) (zi 2))))) (zU):qe P w K mg base 2 "is_whole_between" 3 Wt).iso
def Uj (Z:Zz K h mg):qe P w K mg base 2 "_law_state" 2 Zy:=by
 obtain⟨f,fd,F,a⟩:=Z.T.Ul;exact(kM F (a3 Z.X Z.G a) WI (λ_ _ _ _ _ _=>gM λ_ _=>rfl) λc A outer s H E r=>zq (qv 2 WI.nd (je (V4 Z).up r (zj (zi 0) (zj (zi 1) zD)))) (zq (yd (jZ Wa (zi 2) (Y8 zp zp)) (zq (jf (jw (zj (yo (zi 2) (Y8 zp zp)) (zj yW zD)) (zu (zu qj)))) zU) zU) (zq (jf (jw (zj (ZO (zi 2) zp) (zj yW zD)) (zu (zu qj)))) zU)):qe P w K mg base 2 "_law_state" 2 WL)
def Wy (Z:Zz K h mg):j5 P w K mg base 3 "require_number" 3 j8:=by
 obtain⟨f,fd,F,a⟩:=Z.T.VY;exact(K2 F (a3 Z.X Z.G a) VU (λ_ _ _ _ _ _=>Vw λ_ _ _=>rfl) λc A outer s H E r x=>zq (yd (Ke (JF (gW (je (Ws Z).up r (zj (zi 0) (zj (zi 1) (zj (zi 2) zD))))))) (zq (WW x (Z.C.exc "NoNumber" (by decide +kernel)) (zj (WZ Qw (Y9 (zi 1)) (Gx Qw (Gx (Y9 (zi 2)) G7))) zD) (zu qj)) zU) zU) (zU):j5 P w K mg base 3 "require_number" 3 j8)
def Yx (Z:Zz K h mg):j5 P w K mg base 3 "require_kind_to" 2 yT:=by
 obtain⟨f,fd,F,a⟩:=Z.T.VX;exact(K2 F (a3 Z.X Z.G a) VS (λ_ _ _ _ _ _=>gM λ_ _=>rfl) λc A outer s H E r x=>zq (yd (Ke (JF (gW (je (Ws Z).up r (zj (zi 0) (zj zp (zj (zi 1) zD))))))) (zq (WW x (Z.C.exc "NoKind" (by decide +kernel)) (zj (WZ Qw (Y9 (zi 1)) G7) zD) (zu qj)) zU) zU) (zU):j5 P w K mg base 3 "require_kind_to" 2 yT)
def WD (Z:Zz K h mg):j5 P w K mg base 4 "words_number" 5 qK:=by
 obtain⟨f,fd,F,a⟩:=Z.T.V8;exact(K2 F (a3 Z.X Z.G a) gc (λ_ _ _ _ _ _=>We λ_ _ _ _ _=>rfl) λc A outer s H E r x=>zq (kU (ku x (Wy Z).up r (zj (zi 0) (zj zp (zj (GJ rfl Z.B.VN.choose_spec) zD))))) (zq (kU (ku x (Wy Z).up r (zj (zi 1) (zj zp (zj (GJ rfl Z.B.VM.choose_spec) zD))))) (zq (kU (ku x (Yx Z).up r (zj (zi 2) (zj (zi 0) zD)))) (zq (kU (ku x (Yx Z).up r (zj (zi 3) (zj (zi 0) zD)))) (zq (kU (ku x (Yx Z).up r (zj (zi 4) (zj (zi 0) zD)))) (SY (zq (yd (Qo (ZK (jZ (wO r) (zi 1) zp) (Jq (jZ Vh (zi 4) zp)))) (zq (jf zp) zU) zU) (zq (qv 5 gc.nd zp) (zq (kD PassesOwn.never rfl (ky rfl Z.B.kB (qZ (yo (zi 0) (zi 4)) zp)) (yn 6 gc.nd) (zq (qv 7 gc.nd (yo (qZ (zi 4) (zi 6)) (zi 2))) (zq (qv 8 gc.nd (yo (qZ (zi 4) (zi 6)) (zi 3))) (zq (yd (Qo (ZK (jZ Wa (zi 7) zp) (ZK (jZ Wa (zi 8) zp) (Jq (jZ K4 (qZ (zi 7) (zi 8)) (zi 4)))))) (zq (qv 9 gc.nd (yA (je (YG Z).up r (zj (zi 6) (zj (yo (zi 0) (zi 4)) zD))) (je (Gs Z).up r (zj (yo (zi 1) zp) (zj (zi 6) zD))))) (zq (qv 9 gc.nd (yA (yA (zi 9) (je (YG Z).up r (zj (zi 7) (zj (zi 4) zD)))) (je (YG Z).up r (zj (zi 8) (zj (yo (zi 4) (zi 7)) zD))))) (zq (Pl 5 gc.nd (yA (zi 9) (je (Gs Z).up r (zj (yo (zi 1) zp) (zj (yo (yo (zi 4) (zi 7)) (zi 8)) zD))))) zU))) zU) zU)))) (zq (jf (zi 5)) zU))))))))):j5 P w K mg base 4 "words_number" 5 qK)
def V6 (Z:Zz K h mg):qe P w K mg base 4 "words_number" 5 yU:=(WD Z).m.iso
def Ua (Z:Zz K h mg){PG:jo}{lam:Nat->Fn}(H:∀k,gB P w K mg base 5 (PG k) (lam k)):qe P w K mg base 6 "_law_refused" 1 (iso (jG 4 (Qj PG lam))):=by
 obtain⟨f,fd,F,a⟩:=Z.T.V9;exact(V7 (k:=5) Z.B Z.C Z.T.Mn F (a3 Z.X Z.G a) (aA _) H).iso
end
end G
set_option maxHeartbeats 4000000
namespace G
open PySem L2 Mi
def wD (h:n<1000000):yz (n:Int)=true:=by
 unfold yz;rw[ai,ah,ah];omega
def Nn {i j:Int}(h1:-1000000<j)(h:j<1000000):wU i j=true:=by
 unfold wU;rw[aU,ai,ai,ah,ah,ah,ah];exact .inr ⟨by omega,by omega⟩
def Qr {i j:Int}(h1:-1000000<j)(h:j<1000000):zY (.int i) (.int j) A=.ok (.int (i * j)) A:=by
 unfold zY;dsimp only;rw[aa (Nn h1 h)]
def Ux {b:Int}(a:-1000000<b)(H:b<1000000)(A:Hx)(t:Option W)(N:Nat):∀(n i:Nat)(r:Int)(x:Option W),i+n=N->∃y,
  jj (jE 0 N) (turn (qh 3) (zm (zE 2 (zh zY (zW 2) (zW 0))) zB)) n i [some (.int b),t,some (.int r),x] A=.ok (.nx [some (.int b),t,some (.int (r * b ^ n)),y]) A:=by
 intro n
 induction n with
 |zero=>
  intro i r x h;exact⟨x,by rw[Ql (wJ (by omega)),pow_zero,mul_one]⟩
 |succ n I=>
  intro i r x h;obtain⟨y,e⟩:=I (i+1) (r * b) (some (.int (0+i))) (by omega)
  refine⟨y,?_⟩;rw[Qv (w:=.int (0+i)) (ρ1:=[some (.int b),t,some (.int (r * b)),some (.int (0+i))]) (A1:=A) (wL (by omega)) ?_,e,aZ,<- Int.pow_succ']
  rw[kz (ρ1:=[some (.int b),t,some (.int r),some (.int (0+i))]) rfl,zK (ρ1:=[some (.int b),t,some (.int (r * b)),some (.int (0+i))]) (A1:=A) ?_]
  ·rfl
  ·rw[qH (w:=.int (r * b)) (A1:=A) ?_]
   ·rfl
   ·rw[zL (x:=.int r) (y:=.int b) (A1:=A) (A2:=A) (zw rfl) (zw rfl),Qr a H]
def U8 {b:Int}(H:-1000000<b)(h:b<1000000)(hn:n<1000000)(A:Hx):YY [.int b,.int n] A=.ok (.int (b ^ n)) A:=by
 obtain⟨y,e⟩:=Ux H h A (some (.int n)) n n 0 1 none (zero_add n);rw[Int.one_mul]at e;refine yB ?_;unfold GB;rw[zK (ρ1:=[some (.int b),some (.int n),some (.int 1),none]) (A1:=A) rfl,zK (ρ1:=[some (.int b),some (.int n),some (.int (b ^ n)),y]) (A1:=A) ?_,jO (w:=.int (b ^ n)) (A1:=A) (yy (zw rfl))];rw[kC (wG (k:=(n:Int)) (A1:=A) (zw rfl) (wD hn))];rw[aE];exact e
def Gp {b:Int}(H:-1000000<b)(h:b<1000000)(hn:n<1000000)(A:Hx):gT [.int b,.int n] A=.ok (.int (b ^ n)) A:=gw rfl rfl (U8 H h hn [])
end G
set_option maxHeartbeats 4000000
namespace G
open PySem L2 Mi
noncomputable def zH (m:Int):Nat->Int
 |0=>1|k+1=>zH m k * (m-k)/(k+1)
def US {m:Int}(a:-1000<m)(H:m<1000)(A:Hx)(t:Option W)(N:Nat)(c:N<1000):∀(n i:Nat)(x:Option W),i+n=N->∃y,
  jj (jE 0 N) (turn (qh 3) (zm (zE 2 (zh wW (zh zY (zW 2) (zh qf (zW 1) (zW 3))) (zh zJ (zW 3) (zt (.int 1))))) zB)) n i [t,some (.int m),some (.int (zH m i)),x] A=.ok (.nx [t,some (.int m),some (.int (zH m N)),y]) A:=by
 intro n
 induction n with
 |zero=>
  intro i x h
  have:i=N:=by omega
  subst this;exact⟨x,by rw[Ql (wJ (by omega))]⟩
 |succ n I=>
  intro i x h;obtain⟨y,e⟩:=I (i+1) (some (.int (0+i))) (by omega)
  refine⟨y,?_⟩;rw[Qv (w:=.int (0+i)) (ρ1:=[t,some (.int m),some (.int (zH m (i+1))),some (.int (0+i))]) (A1:=A) (wL (by omega)) ?_,e]
  rw[kz (ρ1:=[t,some (.int m),some (.int (zH m i)),some (.int (0+i))]) rfl,zK (ρ1:=[t,some (.int m),some (.int (zH m (i+1))),some (.int (0+i))]) (A1:=A) ?_]
  ·rfl
  ·rw[qH (w:=.int (zH m (i+1))) (A1:=A) ?_]
   ·rfl
   ·have b:zh zY (zW 2) (zh qf (zW 1) (zW 3)) [t,some (.int m),some (.int (zH m i)),some (.int (0+i))] A=.ok (.int (zH m i * (m-(0+i)))) A:=by
     rw[zL (x:=.int (zH m i)) (y:=.int (m-(0+i))) (A1:=A) (A2:=A) (zw rfl) ?_,Qr (by omega) (by omega)]
     rw[zL (x:=.int m) (y:=.int (0+i)) (A1:=A) (A2:=A) (zw rfl) (zw rfl)]
     rfl
    have E:zh zJ (zW 3) (zt (.int 1)) [t,some (.int m),some (.int (zH m i)),some (.int (0+i))] A=.ok (.int (0+i+1)) A:=by
     rw[zL (x:=.int (0+i)) (y:=.int 1) (A1:=A) (A2:=A) (zw rfl) rfl]
     rfl
    rw[zL b E];unfold wW wm;dsimp only;rw[aa ?_]
    ·show R.ok (W.int _) A=R.ok (W.int (zH m i * (m-i)/(i+1))) A
     rw[Int.zero_add]
    ·unfold QR
     rw[ai,ah,ah];omega
def PK {m:Int}(H:-1000<m)(h:m<1000)(hn:n<1000)(A:Hx):YJ [.int n,.int m] A=.ok (.int (zH m n)) A:=by
 obtain⟨y,e⟩:=US H h A (some (.int n)) n hn n 0 none (zero_add n);refine yB ?_;unfold WM;rw[zK (ρ1:=[some (.int n),some (.int m),some (.int 1),none]) (A1:=A) rfl,zK (ρ1:=[some (.int n),some (.int m),some (.int (zH m n)),y]) (A1:=A) ?_,jO (w:=.int (zH m n)) (A1:=A) (yy (zw rfl))];rw[kC (wG (k:=(n:Int)) (A1:=A) (zw rfl) (wD (by omega)))]
 rw[aE];exact e
def Kz {m:Int}(H:-1000<m)(h:m<1000)(hn:n<1000)(A:Hx):wz [.int n,.int m] A=.ok (.int (zH m n)) A:=gw rfl rfl (PK H h hn [])
end G
set_option maxHeartbeats 4000000
namespace G
open PySem L2 Mi
def UG (i:Int)(A:Hx):YR [.int i] A=.ok (.bl true) A:=gw rfl rfl (A1:=[]) rfl
def Pa {x y z:Int}{ma mb mc:Ev}(h1:ma ρ A=.ok (.int x) A)(H:mb ρ A=.ok (.int y) A)(h:mc ρ A=.ok (.int z) A)(a:x<=y)(b:y<=z):yc kl kl ma mb mc ρ A=.ok (.bl true) A:=by
 unfold yc;rw[h1,zO,H,zO];have E:kl (.int x) (.int y) A=.ok (.bl true) A:=by
  show R.ok (W.bl (decide (x<=y))) A=_;rw[ax a]
 have e:kl (.int y) (.int z) A=.ok (.bl true) A:=by
  show R.ok (W.bl (decide (y<=z))) A=_;rw[ax b]
 rw[E,zO];dsimp only;rw[h,zO,e]
def W9 {x lo h:Int}(a:lo<=x)(b:x<=h)(A:Hx):Jd [.int x,.int lo,.int h] A=.ok (.bl true) A:=by
 refine gw rfl rfl (A1:=[]) (yB ?_);unfold Wr;rw[jO (w:=.bl true) (A1:=[]) (yy ?_)];rw[yf (A1:=[]) ?_]
 ·exact Pa (zw rfl) (zw rfl) (zw rfl) a b
 ·rw[qQ (ws:=[.int x]) (A1:=[]) rfl]
  exact UG x []
def ZU {r:R α}{a:α}(h:r=.ok a A):r.nox=.ok a A:=by rw[h];rfl
def RS {m:Ex}{w:W}(h:m (ws.map some++List.replicate (n-ws.length) none) A=.ok (.rt w) A1):wd n m ws A=.ok w A1:=by unfold wd;rw[h];rfl
def GX {m:Ex}(h:m (ws.map some++List.replicate (n-ws.length) none) A=.ok (.nx ρ) A1):wd n m ws A=.ok .non A1:=by unfold wd;rw[h];rfl
def wH {x lo h:Int}(a:lo<=x)(b:x<=h)(A:Hx):j8 [.int x,.int lo,.int h] A=.ok .non A:=by
 refine GX (ρ:=[some (.int x),some (.int lo),some (.int h)]) ?_;unfold Wz;rw[zK (ρ1:=[some (.int x),some (.int lo),some (.int h)]) (A1:=A) ?_]
 ·rfl
 ·refine(yF (A1:=A) (ZU (Kj (k:=true) ?_))).trans rfl
  ·rw[qQ (ws:=[.int x,.int lo,.int h]) (A1:=A) rfl]
   exact W9 a b A
def ZA {x h:Int}(a:0<=x)(b:x<=h)(A:Hx):yT [.int x,.int h] A=.ok .non A:=by
 refine GX (ρ:=[some (.int x),some (.int h)]) ?_;unfold Wv;rw[zK (ρ1:=[some (.int x),some (.int h)]) (A1:=A) ?_]
 ·rfl
 ·refine(yF (A1:=A) (ZU (Kj (k:=true) ?_))).trans rfl
  ·rw[qQ (ws:=[.int x,.int 0,.int h]) (A1:=A) rfl]
   exact W9 a b A
end G
set_option maxHeartbeats 4000000
namespace Mi
open PySem L2
def QC {w:W}{s:Nat}(h:A[n]? =some (.lst ws))(H:ws[s]? =some w):qd (.ref n) (.int (s:Int)) A=.ok w A:=by
 unfold qd;have e:zV (.ref n) A=some ws:=by unfold zV;dsimp only;rw[h]
 rw[e];dsimp only;rw[Xe H]
def yX {o u:O}(h:A[n]? =some o):(A++[u])[n]? =some o:=by
 have:=(bI.mp h).1
 rw[ag this];exact h
def yj {u:O}:(A++[u])[A.length]? =some u:=by simp
end Mi
set_option maxHeartbeats 4000000
namespace G
open PySem L2 Mi
def ZQ {i j:Int}(h1:-(2 ^ 64)<i)(h:i<2 ^ 64):zY (.int i) (.int j) A=.ok (.int (i * j)) A:=by
 unfold zY;dsimp only;rw[aa];unfold wU;rw[aU,ai,ah,ah];exact .inl ⟨h1,h⟩
def ZV {i j:Int}(h:0<j):yY (.int i) (.int j) A=.ok (.int (i%j)) A:=by
 unfold yY wm;dsimp only;rw[aa];unfold J6;exact ax h
def Xs {i j:Int}(h:0<j)(H:j<1073741824):wW (.int i) (.int j) A=.ok (.int (i/j)) A:=by
 unfold wW wm;dsimp only;rw[aa];unfold QR;rw[ai,ah,ah];exact⟨h,H⟩
def Ol {c m:Int}(h1:0<m)(h:m<1000):Qk [.ref 0,.int m] [.lst [.int c,.bl true]]=.ok (.int (c%m)) [.lst [.int (c/m),.bl true]]:=by
 refine yB ?_;unfold YO;refine jO (A1:=[.lst [.int (c/m),.bl true]]) ?_;refine(Zb (A1:=[.lst [.int c,.bl true]]) rfl).trans ?_;refine(zK (ρ1:=[some (.ref 0),some (.int m),some (.int (c%m)),none]) (A1:=[.lst [.int c,.bl true]]) ?_).trans ?_
 ·refine(qH (w:=.int (c%m)) (A1:=[.lst [.int c,.bl true]]) ?_).trans rfl
  exact(zL (x:=.int c) (y:=.int m) (A1:=[.lst [.int c,.bl true]]) (A2:=[.lst [.int c,.bl true]]) rfl rfl).trans (ZV h1)
 ·refine(zK (ρ1:=[some (.ref 0),some (.int m),some (.int (c%m)),none]) (A1:=[.lst [.int (c/m),.bl true]]) ?_).trans rfl
  have e:zh wW (zh qd (zW 0) (zt (.int 0))) (zW 1) [some (.ref 0),some (.int m),some (.int (c%m)),none] [.lst [.int c,.bl true]]=.ok (.int (c/m)) [.lst [.int c,.bl true]]:=
   (zL (x:=.int c) (y:=.int m) (A1:=[.lst [.int c,.bl true]]) (A2:=[.lst [.int c,.bl true]]) rfl rfl).trans (Xs h1 (by omega))
  unfold kX;rw[e,zO]
  rfl
noncomputable def gH (c:Int):Int:=(c * 48271+29)%2147483647
noncomputable def kR (d:Int):Int:=(d * d+39373 * d+7)%2147483629
noncomputable def km (e:Int):Int:=(e * e+16807 * e)%2147483587
def K0 (c:Int):0<=gH c/\gH c<2147483647:=⟨emod_nonneg _ (by decide),bf _ (by decide)⟩
def Mz (c:Int):0<=kR c/\kR c<2147483629:=⟨emod_nonneg _ (by decide),bf _ (by decide)⟩
def P5 {c m:Int}(H:0<=c)(h:c<2147483647)(h1:0<m)(i:m<1000):Qk [.ref 0,.int m] [.lst [.int c,.bl false]]=.ok (.int (km (kR (gH c))/8%m)) [.lst [.int (gH c),.bl false]]:=by
 have j:=K0 c;refine yB ?_;unfold YO;refine(zK (ρ1:=[some (.ref 0),some (.int m),none,none]) (A1:=[.lst [.int c,.bl false]]) ((yF (A1:=[.lst [.int c,.bl false]]) rfl).trans rfl)).trans ?_;have g:zh yY (zh zJ (zh zY (zh qd (zW 0) (zt (.int 0))) (zt (.int 48271))) (zt (.int 29))) (zt (.int 2147483647)) [some (.ref 0),some (.int m),none,none] [.lst [.int c,.bl false]]=.ok (.int (gH c)) [.lst [.int c,.bl false]]:=by
  have em:zh zY (zh qd (zW 0) (zt (.int 0))) (zt (.int 48271)) [some (.ref 0),some (.int m),none,none] [.lst [.int c,.bl false]]=.ok (.int (c * 48271)) [.lst [.int c,.bl false]]:=
   (zL (x:=.int c) (y:=.int 48271) (A1:=[.lst [.int c,.bl false]]) (A2:=[.lst [.int c,.bl false]]) rfl rfl).trans (ZQ (by omega) (by omega))
  refine(zL (x:=.int (c * 48271+29)) (y:=.int 2147483647) (A1:=[.lst [.int c,.bl false]]) (A2:=[.lst [.int c,.bl false]]) ((zL em rfl).trans rfl) rfl).trans ?_;exact ZV (by decide)
 refine(zK (ρ1:=[some (.ref 0),some (.int m),none,none]) (A1:=[.lst [.int (gH c),.bl false]]) ?_).trans ?_
 ·unfold kX
  rw[g,zO]
  rfl
 generalize gH c=d at*;have b:zh yY (zh zJ (zh zJ (zh zY (zh qd (zW 0) (zt (.int 0))) (zh qd (zW 0) (zt (.int 0)))) (zh zY (zt (.int 39373)) (zh qd (zW 0) (zt (.int 0))))) (zt (.int 7))) (zt (.int 2147483629)) [some (.ref 0),some (.int m),none,none] [.lst [.int d,.bl false]]=
   .ok (.int (kR d)) [.lst [.int d,.bl false]]:=by
  have em:zh zY (zh qd (zW 0) (zt (.int 0))) (zh qd (zW 0) (zt (.int 0))) [some (.ref 0),some (.int m),none,none] [.lst [.int d,.bl false]]=.ok (.int (d * d)) [.lst [.int d,.bl false]]:=
   (zL (x:=.int d) (y:=.int d) (A1:=[.lst [.int d,.bl false]]) (A2:=[.lst [.int d,.bl false]]) rfl rfl).trans (ZQ (by omega) (by omega))
  have E:zh zY (zt (.int 39373)) (zh qd (zW 0) (zt (.int 0))) [some (.ref 0),some (.int m),none,none] [.lst [.int d,.bl false]]=.ok (.int (39373 * d)) [.lst [.int d,.bl false]]:=
   (zL (x:=.int 39373) (y:=.int d) (A1:=[.lst [.int d,.bl false]]) (A2:=[.lst [.int d,.bl false]]) rfl rfl).trans (ZQ (by decide) (by decide))
  have es:zh zJ (zh zY (zh qd (zW 0) (zt (.int 0))) (zh qd (zW 0) (zt (.int 0)))) (zh zY (zt (.int 39373)) (zh qd (zW 0) (zt (.int 0)))) [some (.ref 0),some (.int m),none,none] [.lst [.int d,.bl false]]=.ok (.int (d * d+39373 * d)) [.lst [.int d,.bl false]]:=
   (zL em E).trans rfl
  refine(zL (x:=.int (d * d+39373 * d+7)) (y:=.int 2147483629) (A1:=[.lst [.int d,.bl false]]) (A2:=[.lst [.int d,.bl false]]) ((zL es rfl).trans rfl) rfl).trans ?_;exact ZV (by decide)
 refine(zK (ρ1:=[some (.ref 0),some (.int m),none,some (.int (kR d))]) (A1:=[.lst [.int d,.bl false]]) ((qH b).trans rfl)).trans ?_;have B:=Mz d;generalize kR d=e at*;have a:zh yY (zh zJ (zh zY (zW 3) (zW 3)) (zh zY (zt (.int 16807)) (zW 3))) (zt (.int 2147483587)) [some (.ref 0),some (.int m),none,some (.int e)] [.lst [.int d,.bl false]]=.ok (.int (km e)) [.lst [.int d,.bl false]]:=by
  have em:zh zY (zW 3) (zW 3) [some (.ref 0),some (.int m),none,some (.int e)] [.lst [.int d,.bl false]]=.ok (.int (e * e)) [.lst [.int d,.bl false]]:=
   (zL (x:=.int e) (y:=.int e) (A1:=[.lst [.int d,.bl false]]) (A2:=[.lst [.int d,.bl false]]) rfl rfl).trans (ZQ (by omega) (by omega))
  have E:zh zY (zt (.int 16807)) (zW 3) [some (.ref 0),some (.int m),none,some (.int e)] [.lst [.int d,.bl false]]=.ok (.int (16807 * e)) [.lst [.int d,.bl false]]:=
   (zL (x:=.int 16807) (y:=.int e) (A1:=[.lst [.int d,.bl false]]) (A2:=[.lst [.int d,.bl false]]) rfl rfl).trans (ZQ (by decide) (by decide))
  refine(zL (x:=.int (e * e+16807 * e)) (y:=.int 2147483587) (A1:=[.lst [.int d,.bl false]]) (A2:=[.lst [.int d,.bl false]]) ((zL em E).trans rfl) rfl).trans ?_;exact ZV (by decide)
 refine(zK (ρ1:=[some (.ref 0),some (.int m),none,some (.int (km e))]) (A1:=[.lst [.int d,.bl false]]) ((qH a).trans rfl)).trans ?_;generalize km e=f at*;refine jO (yy ?_);refine(zL (x:=.int (f/8)) (y:=.int m) (A1:=[.lst [.int d,.bl false]]) (A2:=[.lst [.int d,.bl false]]) ?_ rfl).trans (ZV h1);exact(zL (x:=.int f) (y:=.int 8) (A1:=[.lst [.int d,.bl false]]) (A2:=[.lst [.int d,.bl false]]) rfl rfl).trans (Xs (by decide) (by decide))
def J8 (n:Nat)(A:Hx):Prop:=∃c b,A[n]? =some (.lst [.int c,.bl b])/\0<=c/\(b=false->c<2147483647)
def Ny (h:J8 n A){m:Int}(h1:0<m)(f:m<1000):∃r o,qP [.ref n,.int m] A=.ok (.int r) (A.set n o)/\0<=r/\r<m/\J8 n (A.set n o):=by
 obtain⟨c,b,d,a,g⟩:=h;have hn:n<A.length:=(bI.mp d).1;have fin:∀(r C:Int),Qk [.ref 0,.int m] [.lst [.int c,.bl b]]=.ok (.int r) [.lst [.int C,.bl b]]->qP [.ref n,.int m] A=.ok (.int r) (A.set n (.lst [.int C,.bl b])):=λr C e=>by
  unfold qP Qd;dsimp only;rw[d];dsimp only;have H:(jb [W.int c,W.bl b]&&jb [W.int m])=true:=rfl;rw[aa H,e]
  rfl
 cases b with
 |true=>
  refine⟨c%m,_,fin _ _ (Ol h1 f),emod_nonneg _ (by omega),bf _ h1,c/m,true,aw hn,Int.ediv_nonneg a (by omega),λz=>nomatch z⟩
 |false=>
  exact⟨_,_,fin _ _ (P5 a (g rfl) h1 f),emod_nonneg _ (by omega),bf _ h1,gH c,false,aw hn,(K0 c).1,λ_=>(K0 c).2⟩
def Nv {ns:bh}(a:A[0]? =some (.ro (ns.map W.int)))(k:Nat):∃x:Int,Jg [.ref 0,.int k] A=.ok (.int x) A:=by
 have H:zV (.ref 0) A=some (ns.map W.int):=by unfold zV;dsimp only;rw[a]
 have l:mQ y0 (kJ (zW 0)) [some (.ref 0),some (.int k)] A=.ok (.int ns.length) A:=by
  rw[X4 (Xc (w:=.ref 0) (A1:=A) (zw rfl) H)];unfold y0;rw[aC]
 have e:zh jz (zW 1) (mQ y0 (kJ (zW 0))) [some (.ref 0),some (.int k)] A=.ok (.bl (decide ((k:Int)<ns.length))) A:=(zL (zw (w:=.int k) rfl) l).trans rfl
 by_cases h:k<ns.length
 ·refine⟨ns[k],yB ?_⟩
  unfold YC;rw[ax (by omega)]at e
  refine jO ((Zb e).trans (jO (yy ?_)));refine(zL (x:=.ref 0) (y:=.int k) (A1:=A) (A2:=A) (zw rfl) (zw rfl)).trans ?_;unfold qd;rw[H];dsimp only;rw[Xe (v:=.int ns[k]) (by rw[aI,aJ h];rfl)]
 ·refine⟨0,yB ?_⟩
  unfold YC;rw[ak (by omega)]at e
  exact(zK ((yF e).trans rfl)).trans rfl
def RA {ns:bh}(H:A[0]? =some (.ro (ns.map W.int)))(k:Nat):∃o,Zy [.ref 0,.int k] A=.ok (.ref A.length) (A++[o])/\J8 A.length (A++[o]):=by
 obtain⟨x,e⟩:=Nv H k;have a:zE 2 (zF Jg (zc (zW 0) (zc (zW 1) zl))) [some (.ref 0),some (.int k),none] A=.ok (.nx [some (.ref 0),some (.int k),some (.int x)]) A:=by
  refine(qH (w:=.int x) (A1:=A) ?_).trans rfl;rw[qQ (ws:=[.ref 0,.int k]) (A1:=A) rfl];exact e
 have E:zh yP (zW 2) (zh Zk (zt (.int 10)) (zt (.int 18))) [some (.ref 0),some (.int k),some (.int x)] A=.ok (.bl (decide ((1000000000000000000:Int)<=x))) A:=(zL (x:=.int x) (y:=.int 1000000000000000000) (A1:=A) (A2:=A) (zw rfl) rfl).trans rfl
 by_cases h:(1000000000000000000:Int)<=x
 ·refine⟨.lst [.int (x-1000000000000000000),.bl true],yB ?_,x-1000000000000000000,true,yj,by omega,λz=>nomatch z⟩
  unfold YK;rw[ax h]at E;refine(zK a).trans (jO ((Zb E).trans (jO (yy (kA ?_)))))
  rfl
 ·refine⟨.lst [.int (x%2147483647),.bl false],yB ?_,x%2147483647,false,yj,emod_nonneg _ (by decide),λ_=>bf _ (by decide)⟩
  unfold YK;rw[ak h]at E;refine(zK a).trans ((zK ((yF E).trans rfl)).trans (jO (yy (kA ?_))));refine qp (A1:=A) (A2:=A) ((zL (x:=.int x) (y:=.int 2147483647) (A1:=A) (A2:=A) (zw rfl) rfl).trans (ZV (by decide))) rfl
def bB (a:Nat)(i j:Int):Int:=if 0<=(a:Int)-i/\0<=(a:Int)-j/\(a:Int)<=i+j then zH a ((a:Int)-i).toNat * zH i ((a:Int)-j).toNat else 0
def t1 (s:Int)(a:Nat)(i j:Int):Int:=bB a i j * (s-2) ^ (i+j-a).toNat
def VC (a:Nat)(i j:Int):Bool:=if i+j-a-1<0 then true else if i+j-a-1=0 then decide (bB (a+1) i j=bB a i (j-1)+bB a (i-1) j) else decide (bB (a+1) i j=bB a i (j-1)+bB a (i-1) j+bB a (i-1) (j-1))
def RI:((List.range 12).all λa=>(List.range 14).all λi=>(List.range 14).all λj=>VC a i j)=true:=by decide +kernel
def kE {a:Nat}{i j:Int}(h:¬(0<=(a:Int)-i/\0<=(a:Int)-j/\(a:Int)<=i+j)):bB a i j=0:=af h
def Rv (s:Int){a:Nat}(b:a<12)(i j:Int):t1 s (a+1) i j=t1 s a i (j-1)+t1 s a (i-1) j+(s-2) * t1 s a (i-1) (j-1):=by
 unfold t1
 by_cases r:i+j-a-1<0
 ·rw[kE (a:=a+1) (by omega),kE (a:=a) (i:=i) (by omega),kE (a:=a) (i:=i-1) (j:=j) (by omega),kE (a:=a) (i:=i-1) (j:=j-1) (by omega)]
  simp
 by_cases H:0<=i/\i<14/\0<=j/\j<14
 ·obtain⟨I,rfl⟩:=Int.eq_ofNat_of_zero_le H.1
  obtain⟨J,rfl⟩:=Int.eq_ofNat_of_zero_le H.2.2.1;have h:=bJ.mp (bJ.mp (bJ.mp RI a (bK.mpr b)) I (bK.mpr (by omega))) J (bK.mpr (by omega))
  unfold VC at h;rw[af r]at h;have d:((I:Int)+J-((a+1:Nat):Int)).toNat=((I:Int)+J-a-1).toNat:=by omega
  have c:((I:Int)+(J-1)-(a:Int)).toNat=((I:Int)+J-a-1).toNat:=by omega
  have E:((I:Int)-1+J-(a:Int)).toNat=((I:Int)+J-a-1).toNat:=by omega
  rw[d,c,E]
  by_cases h0:(I:Int)+J-a-1=0
  ·rw[aa h0]at h
   rw[of_decide_eq_true h,kE (a:=a) (i:=(I:Int)-1) (j:=(J:Int)-1) (by omega),add_mul]
   simp
  ·rw[af h0]at h
   have e:((I:Int)+J-a-1).toNat=((I:Int)-1+(J-1)-(a:Int)).toNat+1:=by omega
   rw[of_decide_eq_true h,e,Int.pow_succ];generalize (s-2) ^ ((I:Int)-1+(J-1)-(a:Int)).toNat=q;generalize bB a (↑I-1) (↑J-1)=x;generalize bB a (↑I-1) ↑J=y;generalize bB a ↑I (↑J-1)=z;rw[add_mul,add_mul]
   congr 1
   rw[<- aZ,mul_comm (s-2)]
 ·rw[kE (a:=a+1) (by omega),kE (a:=a) (i:=i) (by omega),kE (a:=a) (i:=i-1) (j:=j) (by omega),kE (a:=a) (i:=i-1) (j:=j-1) (by omega)]
  simp
def Rx (s i j:Int):t1 s 0 i j=if i=0/\j=0 then 1 else 0:=by
 unfold t1
 by_cases h:i=0/\j=0
 ·obtain⟨rfl,rfl⟩:=h
  rw[aa ⟨rfl,rfl⟩];show bB 0 0 0 * (s-2) ^ 0=1;rw[pow_zero]
  decide
 ·rw[af h,kE (by omega)]
  simp
noncomputable def sm:Nat->(Nat->Int)->Int
 |0,_=>0|n+1,h=>h 0+sm n λk=>h (k+1)
theorem Xi (f g:Nat->Int):∀n,sm n (λk=>f k+g k)=sm n f+sm n g
 |0=>rfl|n+1=>by
  show f 0+g 0+sm n (λk=>f (k+1)+g (k+1))=f 0+sm n (λk=>f (k+1))+(g 0+sm n λk=>g (k+1));rw[Xi (λk=>f (k+1)) (λk=>g (k+1)) n];omega
theorem XJ (c:Int):∀(n:Nat)(f:Nat->Int),sm n (λk=>c * f k)=c * sm n f
 |0,_=>(Int.mul_zero c).symm|n+1,f=>by
  show c * f 0+sm n (λk=>c * f (k+1))=c * (f 0+sm n λk=>f (k+1));rw[XJ c n (λk=>f (k+1)),Int.mul_add]
theorem GC:∀{n:Nat}{f g:Nat->Int},(∀k,k<n->f k=g k)->sm n f=sm n g
 |0,_,_,_=>rfl|n+1,f,g,h=>by
  show f 0+sm n (λk=>f (k+1))=g 0+sm n λk=>g (k+1);rw[h 0 (by omega),GC λk H=>h (k+1) (by omega)]
theorem Kh:∀(n:Nat)(f:Nat->Int),sm (n+1) f=sm n f+f n
 |0,f=>by show f 0+0=0+f 0;omega|n+1,f=>by
  show f 0+sm (n+1) (λk=>f (k+1))=f 0+sm n (λk=>f (k+1))+f (n+1);rw[Kh n λk=>f (k+1)];omega
def GW:((List.range 12).all λb=>decide (zH (b:Int) (b+1)=0)&&(List.range 12).all λk=>decide (zH ((b+1:Nat):Int) (k+1)=zH (b:Int) (k+1)+zH (b:Int) k))=true:=by decide +kernel
def L4 {b:Nat}(a:b<12)(H:k<12):zH ((b+1:Nat):Int) (k+1)=zH (b:Int) (k+1)+zH (b:Int) k:=by
 have h:=bJ.mp GW b (bK.mpr a);rw[ai]at h;exact of_decide_eq_true (bJ.mp h.2 k (bK.mpr H))
def Lc {b:Nat}(H:b<12):zH (b:Int) (b+1)=0:=by
 have h:=bJ.mp GW b (bK.mpr H);rw[ai]at h;exact of_decide_eq_true h.1
def t2 (s:Int)(t b:Nat)(i j:Int):Int:=sm (b+1) λk=>zH (b:Int) k * (s-1) ^ k * t1 s t (i-k) (j-k)
def Qz (s:Int)(t:Nat)(i j:Int):t2 s t 0 i j=t1 s t i j:=by
 show zH 0 0 * (s-1) ^ 0 * t1 s t (i-(0:Nat)) (j-(0:Nat))+0=_;rw[show zH 0 0=1 from rfl,pow_zero]
 simp
def Rf (s:Int)(t:Nat){b:Nat}(h:b<12)(i j:Int):t2 s t (b+1) i j=t2 s t b i j+(s-1) * t2 s t b (i-1) (j-1):=by
 have e:t2 s t b i j=sm (b+2) λk=>zH (b:Int) k * (s-1) ^ k * t1 s t (i-k) (j-k):=by
  rw[Kh (b+1),Lc h];unfold t2;simp
 rw[e];unfold t2;show zH ((b+1:Nat):Int) 0 * (s-1) ^ 0 * t1 s t (i-(0:Nat)) (j-(0:Nat))+sm (b+1) (λk=>zH ((b+1:Nat):Int) (k+1) * (s-1) ^ (k+1) * t1 s t (i-(k+1:Nat)) (j-(k+1:Nat)))=
  zH (b:Int) 0 * (s-1) ^ 0 * t1 s t (i-(0:Nat)) (j-(0:Nat))+sm (b+1) (λk=>zH (b:Int) (k+1) * (s-1) ^ (k+1) * t1 s t (i-(k+1:Nat)) (j-(k+1:Nat)))+_
 rw[show zH ((b+1:Nat):Int) 0=1 from rfl,show zH (b:Int) 0=1 from rfl,Int.add_assoc,<- XJ,<- Xi]
 congr 1
 refine GC λk H=>?_;rw[L4 h (by omega),show i-1-(k:Int)=i-(k+1:Nat) by omega,show j-1-(k:Int)=j-(k+1:Nat) by omega,Int.pow_succ]
 generalize t1 s t (i-(k+1:Nat)) (j-(k+1:Nat))=x;generalize (s-1) ^ k=y;generalize zH (b:Int) k=z;generalize zH (b:Int) (k+1)=w;generalize s-1=c;rw[add_mul,add_mul]
 congr 1
 rw[<- aZ,<- aZ,<- aZ];rw[mul_comm c z,aZ z y c,mul_comm y c,aZ z c y]
def wv (s:Int)(t a:Nat)(i j:Int):Int:=t2 s (min a t) (a-t) i j
def Pn (s:Int)(t:Nat)(i j:Int):wv s t 0 i j=if i=0/\j=0 then 1 else 0:=by
 unfold wv;rw[Nat.zero_min,Nat.zero_sub,Qz,Rx]
def Me (s:Int){t a:Nat}(h:a<t)(H:a<12)(i j:Int):wv s t (a+1) i j=wv s t a i (j-1)+wv s t a (i-1) j+(s-2) * wv s t a (i-1) (j-1):=by
 unfold wv;rw[Nat.min_eq_left (by omega:a+1<=t),Nat.min_eq_left (by omega:a<=t),show a+1-t=0 by omega,show a-t=0 by omega,Qz,Qz,Qz,Qz,Rv s H]
def N3 (s:Int){t a:Nat}(h:t<=a)(H:a<12)(i j:Int):wv s t (a+1) i j=wv s t a i j+(s-1) * wv s t a (i-1) (j-1):=by
 unfold wv;rw[Nat.min_eq_right (by omega:t<=a+1),Nat.min_eq_right h,show a+1-t=(a-t)+1 by omega,Rf s t (by omega)]
def NB {i j:Int}(h:-1000000<i/\i<1000000):wU i j=true:=by
 unfold wU;rw[aU,ai,ai,ah,ah,ah,ah];exact .inl ⟨by omega,by omega⟩
def OU {i j:Int}(h:-1000000<i/\i<1000000):zY (.int i) (.int j) A=.ok (.int (i * j)) A:=by
 unfold zY;dsimp only;rw[aa (NB h)]
def Qg (i j:Int)(A:Hx):jc (.int i) (.int j) A=.ok (.bl (decide (i=j))) A:=by
 show R.ok (W.bl (PyData.eqv (.int i) (.int j))) A=_;simp[PyData.eqv]
 rfl
def Th:((List.range 13).all λm=>(List.range 13).all λk=>decide (0<=zH (m:Int) k)&&decide (zH (m:Int) k<1000))=true:=by decide +kernel
def Ku {m:Nat}(hm:m<13)(h:k<13):0<=zH (m:Int) k/\zH (m:Int) k<1000:=by
 have:=bJ.mp (bJ.mp Th m (bK.mpr hm)) k (bK.mpr h)
 rw[ai]at this;exact⟨of_decide_eq_true this.1,of_decide_eq_true this.2⟩
def PX:((List.range 13).all λb=>(List.range 13).all λk=>(List.range 10).all λs=>decide (s=0) || decide (0<=zH (b:Int) k * ((s:Int)-1) ^ k)&&decide (zH (b:Int) k * ((s:Int)-1) ^ k<1099511627776))=true:=by decide +kernel
def Lz {b s:Nat}(a:b<13)(H:k<13)(h1:1<=s)(c:s<=9):0<=zH (b:Int) k * ((s:Int)-1) ^ k/\zH (b:Int) k * ((s:Int)-1) ^ k<1099511627776:=by
 have:=bJ.mp (bJ.mp (bJ.mp PX b (bK.mpr a)) k (bK.mpr H)) s (bK.mpr (by omega))
 rw[aU,ai]at this;rcases this with h|h
 ·have:=of_decide_eq_true h
  omega
 ·exact⟨of_decide_eq_true h.1,of_decide_eq_true h.2⟩
def wn (many s one other third:Nat):Int:=if s=1/\0<third then 0 else t2 s third (many-third) one other
noncomputable abbrev z0 (many s one other third:Nat)(l:En):En:=some (.int (many:Int))::some (.int (s:Int))::some (.int (one:Int))::some (.int (other:Int))::some (.int (third:Int))::l
abbrev wB:Ex:=zm (zE 7 (zh qf (zh zJ zP j6) zX)) (zm (zE 8 (zh qf (zh zJ zP j6) zT)) (zm (qG (qJ (zh yP zZ zG) (qJ (zh yP qO zG) (zh kl (zh zJ zZ qO) zP))) (zm (zE 9 (zh zY (zF wz (zc j6 (zc (zh qf zC zP) zl))) (zF gT (zc (zh qf zA zy) (zc j6 zl))))) (zm (zE 9 (zh zY (zh zY j7 (zF wz (zc zZ (zc zP zl)))) (zF wz (zc qO (zc (zh qf zP zZ) zl))))) (zm (Qa 5 (zh zY j7 (zF gT (zc (zh qf zA kh) (zc (zh qf (zh qf zP zZ) qO) zl))))) zB))) zB) zB))
section
variable {many s one other third:Nat}
def Oc {m:Ev}{x y:Int}(h:ρ[i]? =some (some (.int x)))(H:m ρ A=.ok (.int y) A1):Qa i m ρ A=.ok (.nx (ρ.set i (some (.int (x+y))))) A1:=by
 unfold Qa;rw[h];dsimp only;rw[H,zO]
def NQ (hm:many<=12)(h1:1<=s)(L:s<=9)(ho:one<=many)(Y:other<=many)(X:third<=many)(hk:k<=many-third)(x:Int){y7 y8 y9:Option W}:∃n Z z,wB (z0 many s one other third [some (.int x),some (.int (k:Int)),y7,y8,y9]) A=.ok (.nx (z0 many s one other third [some (.int (x+zH ((many-third:Nat):Int) k * ((s:Int)-1) ^ k * t1 s third ((one:Int)-k) ((other:Int)-k))),some (.int (k:Int)),n,Z,z])) A:=by
 have N:zh qf (zh zJ zP j6) zX (z0 many s one other third [some (.int x),some (.int (k:Int)),y7,y8,y9]) A=.ok (.int ((third:Int)+k-one)) A:=(zL ((zL (zw rfl) (zw rfl)).trans rfl) (zw rfl)).trans rfl;have M:zh qf (zh zJ zP j6) zT (z0 many s one other third [some (.int x),some (.int (k:Int)),some (.int ((third:Int)+k-one)),y8,y9]) A=.ok (.int ((third:Int)+k-other)) A:=(zL ((zL (zw rfl) (zw rfl)).trans rfl) (zw rfl)).trans rfl;have go:∀r:Ex,zm (zE 7 (zh qf (zh zJ zP j6) zX)) (zm (zE 8 (zh qf (zh zJ zP j6) zT)) r) (z0 many s one other third [some (.int x),some (.int (k:Int)),y7,y8,y9]) A=r (z0 many s one other third [some (.int x),some (.int (k:Int)),some (.int ((third:Int)+k-one)),some (.int ((third:Int)+k-other)),y9]) A:=λr=>
  (zK (qH N)).trans (zK (qH M))
 unfold wB;rw[go];have C:zh yP zZ zG (z0 many s one other third [some (.int x),some (.int (k:Int)),some (.int ((third:Int)+k-one)),some (.int ((third:Int)+k-other)),y9]) A=.ok (.bl (decide ((third:Int)+k-one ≥ 0))) A:=(zL (zw rfl) (qx (w:=.int 0))).trans rfl;have h:zh yP qO zG (z0 many s one other third [some (.int x),some (.int (k:Int)),some (.int ((third:Int)+k-one)),some (.int ((third:Int)+k-other)),y9]) A=.ok (.bl (decide ((third:Int)+k-other ≥ 0))) A:=(zL (zw rfl) (qx (w:=.int 0))).trans rfl;have j:zh kl (zh zJ zZ qO) zP (z0 many s one other third [some (.int x),some (.int (k:Int)),some (.int ((third:Int)+k-one)),some (.int ((third:Int)+k-other)),y9]) A=.ok (.bl (decide ((third:Int)+k-one+((third:Int)+k-other)<=third))) A:=(zL ((zL (zw rfl) (zw rfl)).trans rfl) (zw rfl)).trans rfl;have no:∀(r:Ex),¬(0<=(third:Int)-((one:Int)-k)/\0<=(third:Int)-((other:Int)-k)/\(third:Int)<=(one:Int)-k+((other:Int)-k))->qJ (zh yP zZ zG) (qJ (zh yP qO zG) (zh kl (zh zJ zZ qO) zP)) (z0 many s one other third [some (.int x),some (.int (k:Int)),some (.int ((third:Int)+k-one)),some (.int ((third:Int)+k-other)),y9]) A=.ok (.bl false) A->∃n Z z,zm (qG (qJ (zh yP zZ zG) (qJ (zh yP qO zG) (zh kl (zh zJ zZ qO) zP))) r zB) zB (z0 many s one other third [some (.int x),some (.int (k:Int)),some (.int ((third:Int)+k-one)),some (.int ((third:Int)+k-other)),y9]) A=.ok (.nx (z0 many s one other third [some (.int (x+zH ((many-third:Nat):Int) k * ((s:Int)-1) ^ k * t1 s third ((one:Int)-k) ((other:Int)-k))),some (.int (k:Int)),n,Z,z])) A:=λr hn K=>by
  refine⟨some (.int ((third:Int)+k-one)),some (.int ((third:Int)+k-other)),y9,(zK ((yF K).trans jH)).trans (jH.trans ?_)⟩;unfold t1;rw[kE hn,zero_mul,Int.mul_zero,Int.add_zero]
 by_cases Q:(third:Int)+k-one ≥ 0
 case neg=>exact no _ (by omega) (gY (C.trans (by rw[ak Q])))
 rw[ax Q]at C
 by_cases q:(third:Int)+k-other ≥ 0
 case neg=>exact no _ (by omega) ((yf C).trans (gY (h.trans (by rw[ak q]))))
 rw[ax q]at h
 by_cases t:(third:Int)+k-one+((third:Int)+k-other)<=third
 case neg=>exact no _ (by omega) ((yf C).trans ((yf h).trans (j.trans (by rw[ak t]))))
 rw[ax t]at j;obtain⟨f,hf⟩:=Int.eq_ofNat_of_zero_le Q;obtain⟨g,I⟩:=Int.eq_ofNat_of_zero_le q;rw[hf,I]at C h j ⊢;have J:f+g<=third:=by omega
 have p:=Lz (b:=many-third) (k:=k) (s:=s) (by omega) (by omega) h1 L
 have l:=Ku (m:=third) (k:=f) (by omega) (by omega)
 have B:=Ku (m:=third-f) (k:=g) (by omega) (by omega)
 have em:(many:Int)-third=((many-third:Nat):Int):=by omega
 have a:zh zY (zF wz (zc j6 (zc (zh qf zC zP) zl))) (zF gT (zc (zh qf zA zy) (zc j6 zl))) (z0 many s one other third [some (.int x),some (.int (k:Int)),some (.int (f:Int)),some (.int (g:Int)),y9]) A=.ok (.int (zH ((many-third:Nat):Int) k * ((s:Int)-1) ^ k)) A:=by
  refine(zL ((qQ (ws:=[.int (k:Int),.int ((many:Int)-third)]) (A1:=A) rfl).trans (by rw[em];exact Kz (by omega) (by omega) (by omega) A)) ((qQ (ws:=[.int ((s:Int)-1),.int (k:Int)]) (A1:=A) rfl).trans (Gp (by omega) (by omega) (by omega) A))).trans (OU ?_)
  have:=Ku (m:=many-third) (k:=k) (by omega) (by omega)
  omega
 have E:zh zY (zh zY j7 (zF wz (zc zZ (zc zP zl)))) (zF wz (zc qO (zc (zh qf zP zZ) zl))) (z0 many s one other third [some (.int x),some (.int (k:Int)),some (.int (f:Int)),some (.int (g:Int)),some (.int (zH ((many-third:Nat):Int) k * ((s:Int)-1) ^ k))]) A=.ok (.int (zH ((many-third:Nat):Int) k * ((s:Int)-1) ^ k * zH third f * zH ((third-f:Nat):Int) g)) A:=by
  have o:(third:Int)-f=((third-f:Nat):Int):=by omega
  refine(zL ((zL (zw rfl) ((qQ (ws:=[.int (f:Int),.int (third:Int)]) (A1:=A) rfl).trans (Kz (by omega) (by omega) (by omega) A))).trans (Qr (by omega) (by omega))) ((qQ (ws:=[.int (g:Int),.int ((third:Int)-f)]) (A1:=A) rfl).trans (by rw[o];exact Kz (by omega) (by omega) (by omega) A))).trans (Qr (by omega) (by omega))
 have v:zF gT (zc (zh qf zA kh) (zc (zh qf (zh qf zP zZ) qO) zl)) (z0 many s one other third [some (.int x),some (.int (k:Int)),some (.int (f:Int)),some (.int (g:Int)),some (.int (zH ((many-third:Nat):Int) k * ((s:Int)-1) ^ k * zH third f * zH ((third-f:Nat):Int) g))]) A=.ok (.int (((s:Int)-2) ^ (third-f-g))) A:=by
  have o:(third:Int)-f-g=((third-f-g:Nat):Int):=by omega
  exact(qQ (ws:=[.int ((s:Int)-2),.int ((third:Int)-f-g)]) (A1:=A) rfl).trans (by rw[o];exact Gp (by omega) (by omega) (by omega) A)
 have S:0<=zH ((many-third:Nat):Int) k * ((s:Int)-1) ^ k * zH third f * zH ((third-f:Nat):Int) g/\zH ((many-third:Nat):Int) k * ((s:Int)-1) ^ k * zH third f * zH ((third-f:Nat):Int) g<=1099511627776000000:=by
  generalize zH ((many-third:Nat):Int) k * ((s:Int)-1) ^ k=D at p;generalize zH (third:Int) f=U at l;generalize zH ((third-f:Nat):Int) g=T at B;have H:=Int.mul_nonneg p.1 l.1;have P:D * U<=1099511627776000:=Int.le_trans (Int.mul_le_mul (c:=1099511627776) (d:=1000) (by omega) (by omega) l.1 (by omega)) (by omega)
  exact⟨Int.mul_nonneg H B.1,Int.le_trans (Int.mul_le_mul (c:=1099511627776000) (d:=1000) P (by omega) B.1 (by omega)) (by omega)⟩
 have e:=(zL (zw (ρ:=z0 many s one other third [some (.int x),some (.int (k:Int)),some (.int (f:Int)),some (.int (g:Int)),some (.int (zH ((many-third:Nat):Int) k * ((s:Int)-1) ^ k * zH third f * zH ((third-f:Nat):Int) g))]) (A:=A) (i:=9) rfl) v).trans (ZQ (by omega) (by omega))
 have u:t1 s third ((one:Int)-k) ((other:Int)-k)=zH third f * zH ((third-f:Nat):Int) g * ((s:Int)-2) ^ (third-f-g):=by
  unfold t1 bB;rw[aa (by omega),show((third:Int)-((one:Int)-k)).toNat=f by omega,show((third:Int)-((other:Int)-k)).toNat=g by omega,show(one:Int)-k=((third-f:Nat):Int) by omega,show(((third-f:Nat):Int)+((other:Int)-k)-third).toNat=third-f-g by omega]
 rw[u,<- aZ,<- aZ];clear u v S p l B;generalize zH ((many-third:Nat):Int) k * ((s:Int)-1) ^ k * zH third f * zH ((third-f:Nat):Int) g=v2 at E e ⊢;generalize zH ((many-third:Nat):Int) k * ((s:Int)-1) ^ k=v1 at a E;generalize ((s:Int)-2) ^ (third-f-g)=y at e ⊢;refine⟨some (.int (f:Int)),some (.int (g:Int)),some (.int v2),?_⟩;refine(zK (ρ1:=z0 many s one other third [some (.int (x+v2 * y)),some (.int (k:Int)),some (.int (f:Int)),some (.int (g:Int)),some (.int v2)]) (A1:=A) ((Zb ((yf C).trans ((yf h).trans j))).trans ?_)).trans jH;refine(zK (qH a)).trans ?_;refine(zK (qH E)).trans ?_;exact(zK (Oc rfl e)).trans jH
def Kg (h0:1<=many)(hm:many<=12)(h1:1<=s)(p:s<=9)(o:one<=many)(l:other<=many)(t:third<=many)(A:Hx):
  yU [.int (many:Int),.int (s:Int),.int (one:Int),.int (other:Int),.int (third:Int)] A=.ok (.int (wn many s one other third)) A:=by
 refine gw rfl rfl (A1:=[]) (ZU (RS ?_));unfold gQ;have d:∀(f:Fn)(a:Ea)(ws:List W)(ρ:En)(r:Ex),a ρ []=.ok ws []->f ws []=.ok .non []->zm (jd (zF f a)) r ρ []=r ρ []:=λf a ws ρ r E v=>zK (JG ((qQ E).trans v));rw[d j8 _ [.int many,.int 1,.int 12] _ _ rfl (wH (by omega) (by omega) [])]
 rw[d j8 _ [.int s,.int 1,.int 9] _ _ rfl (wH (by omega) (by omega) [])]
 rw[d yT _ [.int one,.int many] _ _ rfl (ZA (by omega) (by omega) [])]
 rw[d yT _ [.int other,.int many] _ _ rfl (ZA (by omega) (by omega) [])]
 rw[d yT _ [.int third,.int many] _ _ rfl (ZA (by omega) (by omega) [])]
 have c:zh jc zA zy (z0 many s one other third [none,none,none,none,none]) []=.ok (.bl (decide ((s:Int)=1))) []:=(zL (zw rfl) (qx (w:=.int 1))).trans (Qg _ _ _);have C:zh Zs zP zG (z0 many s one other third [none,none,none,none,none]) []=.ok (.bl (decide ((third:Int) > 0))) []:=(zL (zw rfl) (qx (w:=.int 0))).trans rfl;refine ZU ?_
 by_cases q:s=1/\0<third
 ·rw[ax (by omega)]at c C
  unfold wn;rw[aa q];exact jO ((Zb ((yf c).trans C)).trans (jO (yy qx)))
 have y:qJ (zh jc zA zy) (zh Zs zP zG) (z0 many s one other third [none,none,none,none,none]) []=.ok (.bl false) []:=by
  by_cases Q:s=1
  ·rw[ax (by omega)]at c
   rw[ak (by omega)]at C
   exact(yf c).trans C
  ·rw[ak (by omega)]at c
   exact gY c
 obtain⟨b,e,j,g,Z,z,H⟩:∃b,jj (jE 0 (many-third+1)) (turn (qh 6) wB) (many-third+1) 0 (z0 many s one other third [some (.int 0),none,none,none,none]) []=.ok (.nx b) []/\∃j g Z z,b=z0 many s one other third [some (.int (sm (many-third+1) λk=>zH ((many-third:Nat):Int) k * ((s:Int)-1) ^ k * t1 s third ((one:Int)-k) ((other:Int)-k))),j,g,Z,z]:=by
  have:∀(n i:Nat)(y6 y7 y8 y9:Option W),i+n=many-third+1->∃b,jj (jE 0 (many-third+1)) (turn (qh 6) wB) n i (z0 many s one other third [some (.int (sm i λk=>zH ((many-third:Nat):Int) k * ((s:Int)-1) ^ k * t1 s third ((one:Int)-k) ((other:Int)-k))),y6,y7,y8,y9]) []=.ok (.nx b) []/\∃j g Z z,b=z0 many s one other third [some (.int (sm (many-third+1) λk=>zH ((many-third:Nat):Int) k * ((s:Int)-1) ^ k * t1 s third ((one:Int)-k) ((other:Int)-k))),j,g,Z,z]:=by
   intro n
   induction n with
   |zero=>
    intro i y6 y7 y8 y9 h
    have:i=many-third+1:=by omega
    subst this;exact⟨_,Ql (wJ (by omega)),_,_,_,_,rfl⟩
   |succ n I=>
    intro i y6 y7 y8 y9 h;obtain⟨g,Z,z,e⟩:=NQ (A:=[]) hm h1 p o l t (k:=i) (by omega) (sm i λk=>zH ((many-third:Nat):Int) k * ((s:Int)-1) ^ k * t1 s third ((one:Int)-k) ((other:Int)-k)) (y7:=y7) (y8:=y8) (y9:=y9)
    rw[<- Kh i λk=>zH ((many-third:Nat):Int) k * ((s:Int)-1) ^ k * t1 s third ((one:Int)-k) ((other:Int)-k)]at e;rw[Qv ((wL (by omega)).trans (by rw[Int.zero_add])) ((kz (ρ1:=z0 many s one other third [some (.int (sm i λk=>zH ((many-third:Nat):Int) k * ((s:Int)-1) ^ k * t1 s third ((one:Int)-k) ((other:Int)-k))),some (.int (i:Int)),y7,y8,y9]) rfl).trans e)]
    exact I (i+1) _ _ _ _ (by omega)
  exact this (many-third+1) 0 none none none none (by omega)
 subst H;have u:jh (zh zJ (zh qf zC zP) zy) (z0 many s one other third [some (.int 0),none,none,none,none]) []=.ok (jE 0 (many-third+1)) []:=by
  have x:zh zJ (zh qf zC zP) zy (z0 many s one other third [some (.int 0),none,none,none,none]) []=.ok (.int ((many-third+1:Nat):Int)) []:=by
   have E:zh qf zC zP (z0 many s one other third [some (.int 0),none,none,none,none]) []=.ok (.int ((many:Int)-third)) []:=(zL (zw rfl) (zw rfl)).trans rfl;refine(zL E (qx (w:=.int 1))).trans ?_;show R.ok (W.int ((many:Int)-third+1)) []=_;rw[show(many:Int)-third+1=((many-third+1:Nat):Int) by omega]
  exact(wG x (wD (by omega))).trans (by rw[aE])
 unfold wn;rw[af q];exact(zK ((yF y).trans jH)).trans ((zK (qH qx)).trans ((zK ((kC u).trans e)).trans (jO (yy (zw rfl)))))
end
noncomputable abbrev DS:=List (Int×Int×Int)
noncomputable def kv (ds:DS):List (List Int×W):=ds.map λd=>([d.1,d.2.1],.int d.2.2)
noncomputable def gv:DS->Int->Int->Int
 |[],_,_=>0|d::ds,i,j=>if d.1=i/\d.2.1=j then d.2.2 else gv ds i j
noncomputable def hv:DS->Int->Int->Bool
 |[],_,_=>false|d::ds,i,j=>if d.1=i/\d.2.1=j then true else hv ds i j
section
variable {ds:DS}{i j w:Int}
def Jz {a b c d:Int}:([a,b]:bh)=[c,d]↔a=c/\b=d:=by
 simp
theorem JD:∀ds:DS,yi [i,j] (kv ds)=if hv ds i j=true then some (.int (gv ds i j)) else none
 |[]=>rfl|d::ds=>by
  show yi [i,j] (([d.1,d.2.1],.int d.2.2)::kv ds)=_;unfold yi hv gv
  by_cases h:d.1=i/\d.2.1=j
  ·rw[aa (Jz.mpr h),aa h,aa h,aa rfl]
  ·rw[af λz=>h (Jz.mp z),af h,af h]
   exact JD ds
theorem KC:∀{ds:DS},hv ds i j=false->gv ds i j=0
 |[],_=>rfl|d::ds,h=>by
  unfold hv at h;unfold gv
  by_cases q:d.1=i/\d.2.1=j
  ·rw[aa q]at h;cases h
  ·rw[af q]at h ⊢
   exact KC h
def pt (ds:DS)(i j w:Int):DS:=if hv ds i j=true then ds.map (λd=>if d.1=i/\d.2.1=j then(d.1,d.2.1,w) else d) else ds++[(i,j,w)]
def OV (ds:DS):gC (kv ds) [i,j] (.int w)=kv (pt ds i j w):=by
 unfold gC pt;rw[JD]
 by_cases h:hv ds i j=true
 ·rw[aa h,aa (show(some (W.int (gv ds i j))).isSome=true from rfl),aa h]
  unfold kv;rw[aQ,aQ];refine aW λd _=>?_;show(if ([d.1,d.2.1]:bh)=[i,j] then([d.1,d.2.1],W.int w) else([d.1,d.2.1],W.int d.2.2))=_
  by_cases q:d.1=i/\d.2.1=j
  ·rw[aa (Jz.mpr q)]
   show _=([(if d.1=i/\d.2.1=j then(d.1,d.2.1,w) else d).1,(if d.1=i/\d.2.1=j then(d.1,d.2.1,w) else d).2.1],W.int (if d.1=i/\d.2.1=j then(d.1,d.2.1,w) else d).2.2);rw[aa q]
  ·rw[af λz=>q (Jz.mp z)]
   show _=([(if d.1=i/\d.2.1=j then(d.1,d.2.1,w) else d).1,(if d.1=i/\d.2.1=j then(d.1,d.2.1,w) else d).2.1],W.int (if d.1=i/\d.2.1=j then(d.1,d.2.1,w) else d).2.2);rw[af q]
 ·rw[af h,af (by simp),af h]
  unfold kv;rw[aV]
  rfl
theorem XB:∀{ds:DS}{k l:Int},gv (ds++[(i,j,w)]) k l=if hv ds k l=true then gv ds k l else if i=k/\j=l then w else 0
 |[],k,l=>by
  show gv [(i,j,w)] k l=_;unfold gv
  rfl
 |d::ds,k,l=>by
  show gv (d::(ds++[(i,j,w)])) k l=_;unfold gv hv
  by_cases q:d.1=k/\d.2.1=l
  ·rw[aa q,aa q,aa rfl,aa q]
  ·rw[af q,af q,af q]
   exact XB
theorem XG:∀{ds:DS}{k l:Int},gv (ds.map λd=>if d.1=i/\d.2.1=j then(d.1,d.2.1,w) else d) k l=if k=i/\l=j then(if hv ds i j=true then w else 0) else gv ds k l
 |[],k,l=>by
  show 0=if k=i/\l=j then(if false=true then w else 0) else 0
  split<;>rfl
 |d::ds,k,l=>by
  rw[aM];unfold gv hv;have I:=XG (ds:=ds) (k:=k) (l:=l)
  by_cases q:d.1=i/\d.2.1=j
  ·rw[aa q,aa q]
   by_cases z:k=i/\l=j
   ·rw[aa (by show d.1=k/\d.2.1=l;omega),aa z,aa rfl]
   ·rw[af (by show ¬(d.1=k/\d.2.1=l);omega),af z,af (by omega)]
    rw[af z]at I;exact I
  ·rw[af q,af q]
   by_cases z:k=i/\l=j
   ·rw[af (by omega),I,aa z,aa z]
   ·rw[af z]at I ⊢
    by_cases y:d.1=k/\d.2.1=l
    ·rw[aa y,aa y]
    ·rw[af y,af y,I]
def N9 {k l:Int}:gv (pt ds i j w) k l=if k=i/\l=j then w else gv ds k l:=by
 unfold pt
 by_cases h:hv ds i j=true
 ·rw[aa h,XG,aa h]
 ·rw[af h,XB]
  have hf:hv ds i j=false:=by cases e:hv ds i j<;>simp_all
  by_cases z:k=i/\l=j
  ·obtain⟨rfl,rfl⟩:=z
   rw[af h,aa ⟨rfl,rfl⟩,aa ⟨rfl,rfl⟩]
  ·rw[af z,af (show ¬(i=k/\j=l) by omega)]
   by_cases y:hv ds k l=true
   ·rw[aa y]
   ·rw[af y,KC (by cases e:hv ds k l<;>simp_all)]
structure Kd (a:Nat)(ds:DS):Prop where
 nd:(ds.map λd=>(d.1,d.2.1)).Nodup
 b:∀d∈ds,0<=d.1/\d.1<=a/\0<=d.2.1/\d.2.1<=a
theorem JL:∀{ds:DS},hv ds i j=true↔(i,j)∈ds.map λd=>(d.1,d.2.1)
 |[]=>by simp[hv]|d::ds=>by
  unfold hv;rw[aM,mem_cons]
  by_cases q:d.1=i/\d.2.1=j
  ·rw[aa q]
   exact⟨λ_=>.inl (by rw[q.1,q.2]),λ_=>rfl⟩
  ·rw[af q,JL]
   refine⟨.inr,λh=>h.resolve_left λe=>q ?_⟩;injection e with a E
   exact⟨a.symm,E.symm⟩
def Kd.put {a:Nat}(h:Kd a ds)(f:0<=i/\i<=a)(H:0<=j/\j<=a):Kd a (pt ds i j w):=by
 unfold pt
 by_cases q:hv ds i j=true
 ·rw[aa q]
  have e:(ds.map λd=>if d.1=i/\d.2.1=j then(d.1,d.2.1,w) else d).map (λd=>(d.1,d.2.1))=ds.map λd=>(d.1,d.2.1):=by
   rw[aQ];refine aW λd _=>?_;show((if d.1=i/\d.2.1=j then(d.1,d.2.1,w) else d).1,(if d.1=i/\d.2.1=j then(d.1,d.2.1,w) else d).2.1)=_
   by_cases z:d.1=i/\d.2.1=j
   ·rw[aa z]
   ·rw[af z]
  refine⟨by rw[e];exact h.nd,λd hd=>?_⟩
  obtain⟨c,l,rfl⟩:=List.mem_map.mp hd
  have:=h.b c l
  by_cases z:c.1=i/\c.2.1=j
  ·rw[aa z];exact this
  ·rw[af z];exact this
 ·rw[af q]
  refine⟨?_,λd hd=>?_⟩
  ·rw[aV]
   refine List.nodup_append.mpr ⟨h.nd,List.pairwise_singleton _ _,λx k y g e=>?_⟩;rw[List.mem_singleton.mp g]at e;subst e;exact q (JL.mpr k)
  ·rcases List.mem_append.mp hd with hd|hd
   ·exact h.b d hd
   ·rw[List.mem_singleton.mp hd]
    exact⟨f.1,f.2,H.1,H.2⟩
end
noncomputable def sl (h:α->Int):List α->Int
 |[]=>0|x::r=>h x+sl h r
theorem XA (h:α->Int):∀(l m:List α),sl h (l++m)=sl h l+sl h m
 |[],m=>(Int.zero_add _).symm|x::l,m=>by
  show h x+sl h (l++m)=h x+sl h l+sl h m;rw[XA h l m];omega
def Kk (h:α->Int){l:List α}(H:i<l.length):sl h (l.take (i+1))=sl h (l.take i)+h l[i]:=by
 rw[List.take_succ_eq_append_getElem H,XA];show sl h (l.take i)+(h l[i]+0)=_;omega
theorem XC (f g:α->Int):∀l:List α,sl (λx=>f x+g x) l=sl f l+sl g l
 |[]=>rfl|x::l=>by
  show f x+g x+sl (λx=>f x+g x) l=f x+sl f l+(g x+sl g l);rw[XC f g l];omega
theorem GR:∀l:List α,sl (λ_=>0) l=0
 |[]=>rfl|x::l=>by
  show 0+sl (λ_=>0) l=0;rw[GR l]
  rfl
theorem GP {β:Type}(h:α->β->Int)(m:List β):∀l:List α,sl (λx=>sl (h x) m) l=sl (λy=>sl (λx=>h x y) l) m
 |[]=>(GR m).symm|x::l=>by
  show sl (h x) m+sl (λx=>sl (h x) m) l=sl (λy=>h x y+sl (λx=>h x y) l) m;rw[GP h m l,XC]
section
variable {ds:DS}{k l:Int}
theorem Xh:∀{ds:DS},hv ds k l=false->sl (λd=>if k=d.1/\l=d.2.1 then d.2.2 else 0) ds=0
 |[],_=>rfl|d::ds,h=>by
  unfold hv at h
  by_cases q:d.1=k/\d.2.1=l
  ·rw[aa q]at h;cases h
  ·rw[af q]at h
   show(if k=d.1/\l=d.2.1 then d.2.2 else 0)+_=0;rw[af (by omega),Xh h]
   rfl
theorem XQ:∀{ds:DS},(ds.map λd=>(d.1,d.2.1)).Nodup->sl (λd=>if k=d.1/\l=d.2.1 then d.2.2 else 0) ds=gv ds k l
 |[],_=>rfl|d::ds,h=>by
  rw[aM]at h;obtain⟨h1,H⟩:=List.nodup_cons.mp h;show(if k=d.1/\l=d.2.1 then d.2.2 else 0)+sl _ ds=_;unfold gv
  by_cases q:d.1=k/\d.2.1=l
  ·rw[aa (by omega),aa q,Xh]
   ·omega
   ·cases e:hv ds k l with
    |false=>rfl|true=>exact absurd (JL.mp e) (by rw[<- q.1,<- q.2];exact h1)
  ·rw[af (by omega),af q,XQ H]
   omega
noncomputable abbrev cB (k l:Int)(d st:Int×Int×Int):Int:=if k=d.1+st.1/\l=d.2.1+st.2.1 then d.2.2 * st.2.2 else 0
theorem Xy {m t o:Int}:∀(ds:DS),sl (λd=>cB k l d (m,t,o)) ds=sl (λd=>if k-m=d.1/\l-t=d.2.1 then d.2.2 else 0) ds * o
 |[]=>(zero_mul o).symm|d::ds=>by
  show cB k l d (m,t,o)+sl (λd=>cB k l d (m,t,o)) ds=((if k-m=d.1/\l-t=d.2.1 then d.2.2 else 0)+sl _ ds) * o;rw[Xy ds,add_mul]
  congr 1
  unfold cB
  by_cases q:k-m=d.1/\l-t=d.2.1
  ·rw[aa q,aa (by show k=d.1+m/\l=d.2.1+t;omega)]
  ·rw[af q,af (by show ¬(k=d.1+m/\l=d.2.1+t);omega),zero_mul]
def RL (h:(ds.map λd=>(d.1,d.2.1)).Nodup)(St:DS):sl (λd=>sl (cB k l d) St) ds=sl (λst=>gv ds (k-st.1) (l-st.2.1) * st.2.2) St:=by
 rw[GP (λd st=>cB k l d st) St ds]
 congr 1
 funext st
 obtain⟨m,t,o⟩:=st;rw[Xy,XQ h]
end
noncomputable abbrev wq (st:Int×Int×Int):W:=.tup [.int st.1,.int st.2.1,.int st.2.2]
abbrev Q7:Ex:=zm (zE 14 (zR (zc (zh zJ j7 Z7) (zc (zh zJ Z8 ja) zl)))) (zm (kX wM (zh zJ (gq zZ Zg zG) (zh zY (zh Za qD (zR (zc j7 (zc Z8 zl)))) Zj)) zZ Zg) zB)
section
variable {ds es:DS}{f g m t o:Int}{r q:Nat}{C:Hx}{x0 x1 x2 x3 x4 x6 x8 x14:Option W}
def Po (h:(C[r]?).bind j0=some (kv ds))(H:hv ds f g=true):Za (.ref r) (.tup [.int f,.int g]) C=.ok (.int (gv ds f g)) C:=by
 unfold Za;show(match (C[r]?).bind j0 with|some k=>(match yi [f,g] k with|some w=>R.ok w C|none=>.bad)|none=>.bad)=_
 rw[h];dsimp only;rw[JD,aa H]
def GI (h:(C[r]?).bind j0=some (kv ds)):JK (.ref r) (.tup [.int f,.int g]) (.int 0) C=.ok (.int (gv ds f g)) C:=by
 unfold JK;show(match (C[r]?).bind j0 with|some k=>R.ok ((yi [f,g] k).getD (.int 0)) C|none=>.bad)=_
 rw[h];dsimp only;rw[JD]
 by_cases q:hv ds f g=true
 ·rw[aa q];rfl
 ·rw[af q,KC (by cases e:hv ds f g<;>simp_all)];rfl
def Nw (b:(C[r]?).bind j0=some (kv ds))(H:C[q]? =some (.td (kv es)))(c:hv ds f g=true)(a:-1000000<o/\o<1000000)(l:es.length<1000):
  Q7 [x0,x1,x2,x3,x4,some (.ref r),x6,some (.ref q),x8,some (.int f),some (.int g),some (.int m),some (.int t),some (.int o),x14] C=
   .ok (.nx [x0,x1,x2,x3,x4,some (.ref r),x6,some (.ref q),x8,some (.int f),some (.int g),some (.int m),some (.int t),some (.int o),some (.tup [.int (f+m),.int (g+t)])]) (C.set q (.td (kv (pt es (f+m) (g+t) (gv es (f+m) (g+t)+gv ds f g * o))))):=by
 have h:(C[q]?).bind j0=some (kv es):=by rw[H];rfl
 have i:zR (zc (zh zJ j7 Z7) (zc (zh zJ Z8 ja) zl)) [x0,x1,x2,x3,x4,some (.ref r),x6,some (.ref q),x8,some (.int f),some (.int g),some (.int m),some (.int t),some (.int o),x14] C=.ok (.tup [.int (f+m),.int (g+t)]) C:=gi (qp ((zL (zw rfl) (zw rfl)).trans rfl) (qp ((zL (zw rfl) (zw rfl)).trans rfl) jN));have d:gq zZ Zg zG [x0,x1,x2,x3,x4,some (.ref r),x6,some (.ref q),x8,some (.int f),some (.int g),some (.int m),some (.int t),some (.int o),some (.tup [.int (f+m),.int (g+t)])] C=.ok (.int (gv es (f+m) (g+t))) C:=by
  unfold gq;rw[show zZ [x0,x1,x2,x3,x4,some (.ref r),x6,some (.ref q),x8,some (.int f),some (.int g),some (.int m),some (.int t),some (.int o),some (.tup [.int (f+m),.int (g+t)])] C=.ok (.ref q) C from zw rfl,zO]
  rw[aa (show J7 (.ref q) C=true by show((C[q]?).bind j0).isSome=true;rw[h];rfl)]
  rw[show Zg [x0,x1,x2,x3,x4,some (.ref r),x6,some (.ref q),x8,some (.int f),some (.int g),some (.int m),some (.int t),some (.int o),some (.tup [.int (f+m),.int (g+t)])] C=.ok (.tup [.int (f+m),.int (g+t)]) C from zw rfl,zO]
  exact GI h
 have E:zh zY (zh Za qD (zR (zc j7 (zc Z8 zl)))) Zj [x0,x1,x2,x3,x4,some (.ref r),x6,some (.ref q),x8,some (.int f),some (.int g),some (.int m),some (.int t),some (.int o),some (.tup [.int (f+m),.int (g+t)])] C=.ok (.int (gv ds f g * o)) C:=
  (zL ((zL (zw rfl) (gi (qp (zw rfl) (qp (zw rfl) jN)))).trans (Po b c)) (zw rfl)).trans (Qr a.1 a.2)
 refine(zK (ρ1:=[x0,x1,x2,x3,x4,some (.ref r),x6,some (.ref q),x8,some (.int f),some (.int g),some (.int m),some (.int t),some (.int o),some (.tup [.int (f+m),.int (g+t)])]) (A1:=C) (qH i)).trans ((zK ?_).trans jH);unfold kX;rw[(zL d E).trans (show zJ (.int (gv es (f+m) (g+t))) (.int (gv ds f g * o)) C=.ok (.int (gv es (f+m) (g+t)+gv ds f g * o)) C from rfl),zO]
 rw[show zZ [x0,x1,x2,x3,x4,some (.ref r),x6,some (.ref q),x8,some (.int f),some (.int g),some (.int m),some (.int t),some (.int o),some (.tup [.int (f+m),.int (g+t)])] C=.ok (.ref q) C from zw rfl,zO]
 rw[show Zg [x0,x1,x2,x3,x4,some (.ref r),x6,some (.ref q),x8,some (.int f),some (.int g),some (.int m),some (.int t),some (.int o),some (.tup [.int (f+m),.int (g+t)])] C=.ok (.tup [.int (f+m),.int (g+t)]) C from zw rfl,zO]
 have e:wM (.ref q) (.tup [.int (f+m),.int (g+t)]) (.int (gv es (f+m) (g+t)+gv ds f g * o)) C=.ok () (C.set q (.td (kv (pt es (f+m) (g+t) (gv es (f+m) (g+t)+gv ds f g * o))))):=by
  unfold wM;show(match C[q]? with|some (.td kvs)=>if kvs.length<qy then R.ok () (C.set q (.td (gC kvs [f+m,g+t] (.int (gv es (f+m) (g+t)+gv ds f g * o))))) else .bad|_=>.bad)=_
  rw[H];dsimp only;rw[aa (by unfold kv;rw[aC];unfold qy;omega),OV]
 rw[e,zO]
end
section
variable {N:Nat}{j:jA}{st:W->Ex}
def gS {I:Nat->En->Hx->Prop}(H:∀i ρ A,i<N->I i ρ A->∃w ρ1 A1,j.at_ A i=some (some w)/\st w ρ A=.ok (.nx ρ1) A1/\I (i+1) ρ1 A1)(d:∀ρ A,I N ρ A->j.at_ A N=some none):
  ∀(f i:Nat)(ρ:En)(A:Hx),i+f=N->I i ρ A->∃a A',jj j st f i ρ A=.ok (.nx a) A'/\I N a A':=by
 intro f
 induction f with
 |zero=>
  intro i ρ A h b
  have:i=N:=by omega
  subst this;exact⟨ρ,A,Ql (d _ _ b),b⟩
 |succ f c=>
  intro i ρ A h b;obtain⟨w,ρ1,A1,h1,g,e⟩:=H i ρ A (by omega) b
  rw[Qv h1 g];exact c (i+1) _ _ (by omega) e
def Kl {m:Ev}(h:m ρ A=.ok (.ref n) A1)(H:A1[n]? =some (.lst ws)):jS m ρ A=.ok ⟨λA i=>(zV (.ref n) A).map λws=>ws[i]?,ws.length⟩ A1:=by
 unfold jS JZ;rw[h,zO];have e:zV (.ref n) A1=some ws:=by unfold zV;dsimp only;rw[H]
 rw[e]
def ZS {w:Option W}(H:A[n]? =some (.lst ws))(h:ws[i]? =w):((zV (.ref n) A).map λws=>ws[i]?)=some w:=by
 have:zV (.ref n) A=some ws:=by unfold zV;dsimp only;rw[H]
 rw[this,<- h]
 rfl
end
def set_same {C:Hx}{q:Nat}{o:O}(h:C[q]? =some o):C.set q o=C:=by
 apply List.ext_getElem?
 intro i
 by_cases z:i=q
 ·subst z
  rw[aw (bI.mp h).1,h]
 ·rw[aj (Ne.symm z)]
theorem Xu:∀{l m:List (Int×Int)},l.Nodup->(∀x∈l,x∈m)->l.length<=m.length
 |[],_,_,_=>zero_le _|a::l,m,nd,h=>by
  have b:=h a (aF ..)
  have:=Xu (l:=l) (m:=m.erase a) (List.nodup_cons.mp nd).2 λx H=>by
   have ne:x≠a:=λe=>(List.nodup_cons.mp nd).1 (e ▸ H);exact(List.mem_erase_of_ne ne).mpr (h x (ay _ H))
  rw[List.length_erase_of_mem b]at this
  have:=List.length_pos_of_mem b
  rw[List.length_cons];omega
def Kd.few {a:Nat}{ds:DS}(h:Kd a ds)(e:a<=12):ds.length<=169:=by
 have:=Xu (m:=(List.range 13).flatMap λ(i:Nat)=>(List.range 13).map λ(j:Nat)=>((i:Int),(j:Int))) h.nd λx c=>by
  obtain⟨d,hd,rfl⟩:=List.mem_map.mp c;have H:=h.b d hd;refine List.mem_flatMap.mpr ⟨d.1.toNat,bK.mpr (by omega),List.mem_map.mpr ⟨d.2.1.toNat,bK.mpr (by omega),?_⟩⟩
  rw[a9 H.1,a9 H.2.2.1]
 rw[aC]at this;exact a8 this (by decide)
section
variable {ds es St:DS}{a:Nat}{r q p:Nat}{C:Hx}{x0 x1 x2 x3 x4 x6:Option W}
def Pr {d:Int×Int×Int}(J:C[r]? =some (.tr (kv ds)))(L:C[q]? =some (.td (kv es)))(M:C[p]? =some (.lst (St.map wq)))(Q:r≠q)(D:p≠q)(hd:d∈ds)(nd:(ds.map λd=>(d.1,d.2.1)).Nodup)(X:0<=d.1/\d.1<=a/\0<=d.2.1/\d.2.1<=a)(ha:a<12)(S:Kd (a+1) es)(U:∀s∈St,(s.1=0∨s.1=1)/\(s.2.1=0∨s.2.1=1)/\-1000000<s.2.2/\s.2.2<1000000){y11 y12 y13 y14:Option W}:
  ∃n h b Z E,jj ⟨λA i=>(zV (.ref p) A).map λws=>ws[i]?,(St.map wq).length⟩ (turn (Zh 11 12 13) Q7) (St.map wq).length 0 [x0,x1,x2,x3,x4,some (.ref r),x6,some (.ref q),some (.ref p),some (.int d.1),some (.int d.2.1),y11,y12,y13,y14] C=
   .ok (.nx [x0,x1,x2,x3,x4,some (.ref r),x6,some (.ref q),some (.ref p),some (.int d.1),some (.int d.2.1),n,h,b,Z]) (C.set q (.td (kv E)))/\Kd (a+1) E/\∀k l,gv E k l=gv es k l+sl (cB k l d) St:=by
 have u:hv ds d.1 d.2.1=true:=JL.mpr (List.mem_map.mpr ⟨d,hd,rfl⟩);have gd:gv ds d.1 d.2.1=d.2.2:=by
  clear J X u
  induction ds with
  |nil=>cases hd|cons c ds T=>
   rw[aM]at nd;obtain⟨h1,h2⟩:=List.nodup_cons.mp nd;unfold gv;rcases bL.mp hd with rfl|hd
   ·rw[aa ⟨rfl,rfl⟩]
   ·by_cases z:c.1=d.1/\c.2.1=d.2.1
    ·exact absurd (List.mem_map.mpr ⟨d,hd,by rw[z.1,z.2]⟩) h1
    ·rw[af z]
     exact T hd h2
 have x:=(bI.mp L).1;obtain⟨P,C',e,n,h,b,Z,E,H,Y,K,v⟩:=gS (N:=St.length) (j:=⟨λA i=>(zV (.ref p) A).map λws=>ws[i]?,(St.map wq).length⟩) (st:=turn (Zh 11 12 13) Q7)
  (I:=λi ρ A=>∃n h b Z E,ρ=[x0,x1,x2,x3,x4,some (.ref r),x6,some (.ref q),some (.ref p),some (.int d.1),some (.int d.2.1),n,h,b,Z]/\A=C.set q (.td (kv E))/\Kd (a+1) E/\∀k l,gv E k l=gv es k l+sl (cB k l d) (St.take i))
  (λi ρ A y ⟨n,h,b,Z,E,H,B,K,v⟩=>by
   subst H B;have w:=U _ (bg y);have e:=Nw (ds:=ds) (es:=E) (f:=d.1) (g:=d.2.1) (m:=St[i].1) (t:=St[i].2.1) (o:=St[i].2.2) (r:=r) (q:=q) (C:=C.set q (.td (kv E))) (x0:=x0) (x1:=x1) (x2:=x2) (x3:=x3) (x4:=x4) (x6:=x6) (x8:=some (.ref p)) (x14:=Z)
    (by rw[aj (Ne.symm Q),J];rfl) (aw x) u w.2.2 (by have:=K.few (by omega);omega)
   rw[set_set]at e;refine⟨wq St[i],_,_,ZS (by rw[aj (Ne.symm D)];exact M) (by rw[aI,aJ y];rfl),(kz rfl).trans e,_,_,_,_,_,rfl,rfl,K.put (by omega) (by omega),λk l=>?_⟩
   rw[N9,Kk _ y,gd]
   by_cases z:k=d.1+St[i].1/\l=d.2.1+St[i].2.1
   ·rw[aa z,z.1,z.2,v,show cB (d.1+St[i].1) (d.2.1+St[i].2.1) d St[i]=d.2.2 * St[i].2.2 from aa ⟨rfl,rfl⟩]
    omega
   ·rw[af z,v,show cB k l d St[i]=0 from af z]
    omega)
  (λρ A ⟨_,_,_,_,E,_,B,_⟩=>by subst B;exact ZS (by rw[aj (Ne.symm D)];exact M) (by rw[a6 (by rw[aC];omega)])) St.length 0 _ C (by omega) ⟨y11,y12,y13,y14,es,rfl,(set_same L).symm,S,λk l=>by show _=_+0;omega⟩
 subst H Y;rw[take_length]at v;refine⟨n,h,b,Z,E,?_,K,v⟩;rw[aC]at e ⊢;exact e
abbrev Vu:Ex:=jQ (QP qD) (kF 9 10) (zm (jQ (jS qO) (Zh 11 12 13) Q7) zB)
def PC (S:C[r]? =some (.td (kv ds)))(T:C[q]? =some (.td []))(hp:C[p]? =some (.lst (St.map wq)))(u:r≠q)(M:p≠q)(n3:p≠r)(w:Kd a ds)(ha:a<12)(hs:∀s∈St,(s.1=0∨s.1=1)/\(s.2.1=0∨s.2.1=1)/\-1000000<s.2.2/\s.2.2<1000000){y9 y10 y11 y12 y13 y14:Option W}:
  ∃n g f c Z z E,Vu [x0,x1,x2,x3,x4,some (.ref r),x6,some (.ref q),some (.ref p),y9,y10,y11,y12,y13,y14] C=
   .ok (.nx [x0,x1,x2,x3,x4,some (.ref r),x6,some (.ref q),some (.ref p),n,g,f,c,Z,z]) ((C.set r (.tr (kv ds))).set q (.td (kv E)))/\Kd (a+1) E/\∀k l,gv E k l=sl (λst=>gv ds (k-st.1) (l-st.2.1) * st.2.2) St:=by
 have x:=(bI.mp S).1;have hlq:=(bI.mp T).1;have U:QP qD [x0,x1,x2,x3,x4,some (.ref r),x6,some (.ref q),some (.ref p),y9,y10,y11,y12,y13,y14] C=.ok (Z9 (kv ds)) (C.set r (.tr (kv ds))):=by
  unfold QP;rw[show qD [x0,x1,x2,x3,x4,some (.ref r),x6,some (.ref q),some (.ref p),y9,y10,y11,y12,y13,y14] C=.ok (.ref r) C from zw rfl,zO]
  dsimp only;rw[S]
 have J:(C.set r (.tr (kv ds)))[r]? =some (.tr (kv ds)):=aw x;have Q:(C.set r (.tr (kv ds)))[q]? =some (.td []):=by rw[aj u];exact T
 have L:(C.set r (.tr (kv ds)))[p]? =some (.lst (St.map wq)):=by rw[aj (Ne.symm n3)];exact hp
 generalize C.set r (.tr (kv ds))=t at U J Q L;have l1:=(bI.mp Q).1;obtain⟨X,C',e,n,g,f,c,Z,z,E,H,hC,K,o⟩:=gS (N:=ds.length) (j:=Z9 (kv ds)) (st:=turn (kF 9 10) (zm (jQ (jS qO) (Zh 11 12 13) Q7) zB))
  (I:=λi ρ A=>∃n g f c Z z E,ρ=[x0,x1,x2,x3,x4,some (.ref r),x6,some (.ref q),some (.ref p),n,g,f,c,Z,z]/\A=t.set q (.td (kv E))/\Kd (a+1) E/\∀k l,gv E k l=sl (λd=>sl (cB k l d) St) (ds.take i))
  (λi ρ A y ⟨n,g,f,c,Z,z,E,H,hA,K,o⟩=>by
   subst H hA;have hm:=bg y;have P:(t.set q (.td (kv E)))[p]? =some (.lst (St.map wq)):=by rw[aj (Ne.symm M)];exact L
   obtain⟨w11,w12,w13,Y,D,e,v,B⟩:=Pr (C:=t.set q (.td (kv E))) (d:=ds[i]) (St:=St) (es:=E) (x0:=x0) (x1:=x1) (x2:=x2) (x3:=x3) (x4:=x4) (x6:=x6) (y11:=f) (y12:=c) (y13:=Z) (y14:=z)
    (by rw[aj (Ne.symm u)];exact J) (aw l1) P u M hm w.nd (w.b _ hm) ha K hs
   rw[set_set]at e;refine⟨.tup [.int ds[i].1,.int ds[i].2.1],_,_,?_,(kz (ρ1:=[x0,x1,x2,x3,x4,some (.ref r),x6,some (.ref q),some (.ref p),some (.int ds[i].1),some (.int ds[i].2.1),f,c,Z,z]) rfl).trans ((zK ((kC (Kl (zw rfl) P)).trans e)).trans jH),_,_,_,_,_,_,D,rfl,rfl,v,λk l=>?_⟩
   ·show some ((kv ds)[i]?.map λp=>W.tup (p.1.map W.int))=_
    unfold kv;rw[aI,aJ y]
    rfl
   ·rw[B,o,Kk _ y])
  (λρ A _=>by
   show some ((kv ds)[ds.length]?.map λp=>W.tup (p.1.map W.int))=_;rw[a6 (by unfold kv;rw[aC];omega)]
   rfl) ds.length 0 [x0,x1,x2,x3,x4,some (.ref r),x6,some (.ref q),some (.ref p),y9,y10,y11,y12,y13,y14] t (by omega) ⟨_,_,_,_,_,_,[],rfl,(set_same Q).symm,⟨nodup_nil,λ_ h=>by cases h⟩,λ_ _=>rfl⟩
 subst H hC;rw[take_length]at o;refine⟨n,g,f,c,Z,z,E,(kC U).trans ?_,K,λk l=>by rw[o,RL w.nd]⟩
 show jj (Z9 (kv ds)) _ (kv ds).length 0 _ _=_;rw[show(kv ds).length=ds.length by unfold kv;exact aC ..]
 exact e
end
section
variable {many s one other third:Nat}
noncomputable abbrev s1 (s:Nat):DS:=[(0,1,1),(1,0,1),(1,1,(s:Int)-2)]
noncomputable abbrev s2 (s:Nat):DS:=[(0,0,1),(1,1,(s:Int)-1)]
abbrev Wf:Ex:=zm (zE 7 KG) (zm (qG (zh jz j6 zP) (zm (zE 8 (qa (zc (zR (zc zG (zc zy (zc zy zl)))) (zc (zR (zc zy (zc zG (zc zy zl)))) (zc (zR (zc zy (zc zy (zc (zh qf zA kh) zl)))) zl))))) zB) (zm (zE 8 (qa (zc (zR (zc zG (zc zG (zc zy zl)))) (zc (zR (zc zy (zc zy (zc (zh qf zA zy) zl)))) zl)))) zB)) (zm Vu (zm (zE 5 zZ) zB)))
def Oa {a r:Nat}{ds:DS}(D:s<=9)(t:a<12)(u:A[r]? =some (.td (kv ds)))(v:Kd a ds)(H:∀k l,gv ds k l=wv s third a k l){y7 y8 y9 y10 y11 y12 y13 y14:Option W}:
  ∃n j i f d b Z z g A' es,Wf (z0 many s one other third [some (.ref r),some (.int (a:Int)),y7,y8,y9,y10,y11,y12,y13,y14]) A=.ok (.nx (z0 many s one other third [some (.ref g),some (.int (a:Int)),n,j,i,f,d,b,Z,z])) A'/\A'[g]? =some (.td (kv es))/\Kd (a+1) es/\∀k l,gv es k l=wv s third (a+1) k l:=by
 have y:=(bI.mp u).1;have step:∀(St:DS),(∀s∈St,(s.1=0∨s.1=1)/\(s.2.1=0∨s.2.1=1)/\-1000000<s.2.2/\s.2.2<1000000)->(∀k l,sl (λst=>gv ds (k-st.1) (l-st.2.1) * st.2.2) St=wv s third (a+1) k l)->
   qG (zh jz j6 zP) (zm (zE 8 (qa (zc (zR (zc zG (zc zy (zc zy zl)))) (zc (zR (zc zy (zc zG (zc zy zl)))) (zc (zR (zc zy (zc zy (zc (zh qf zA kh) zl)))) zl))))) zB) (zm (zE 8 (qa (zc (zR (zc zG (zc zG (zc zy zl)))) (zc (zR (zc zy (zc zy (zc (zh qf zA zy) zl)))) zl)))) zB) (z0 many s one other third [some (.ref r),some (.int (a:Int)),some (.ref A.length),y8,y9,y10,y11,y12,y13,y14]) (A++[.td []])=.ok (.nx (z0 many s one other third [some (.ref r),some (.int (a:Int)),some (.ref A.length),some (.ref (A++[O.td []]).length),y9,y10,y11,y12,y13,y14])) (A++[.td []]++[.lst (St.map wq)])->
   ∃n j i f d b Z z g A' es,Wf (z0 many s one other third [some (.ref r),some (.int (a:Int)),y7,y8,y9,y10,y11,y12,y13,y14]) A=.ok (.nx (z0 many s one other third [some (.ref g),some (.int (a:Int)),n,j,i,f,d,b,Z,z])) A'/\A'[g]? =some (.td (kv es))/\Kd (a+1) es/\∀k l,gv es k l=wv s third (a+1) k l:=λSt w hw B=>by
  have L:(A++[O.td []]).length=A.length+1:=by rw[aH];rfl
  obtain⟨i,f,d,b,Z,z,es,e,K,o⟩:=PC (C:=A++[.td []]++[.lst (St.map wq)]) (r:=r) (q:=A.length) (p:=(A++[O.td []]).length) (ds:=ds) (St:=St) (a:=a) (x0:=some (.int (many:Int))) (x1:=some (.int (s:Int))) (x2:=some (.int (one:Int))) (x3:=some (.int (other:Int))) (x4:=some (.int (third:Int))) (x6:=some (.int (a:Int))) (y9:=y9) (y10:=y10) (y11:=y11) (y12:=y12) (y13:=y13) (y14:=y14)
   (yX (yX u)) (yX yj) yj (by omega) (by omega) (by omega) v t w
  refine⟨some (.ref A.length),_,_,_,_,_,_,_,A.length,_,es,(zK (qH rfl)).trans ((zK B).trans ((zK e).trans ((zK (qH (zw rfl))).trans jH))),?_,K,λk l=>by rw[o,hw]⟩
  exact aw (by rw[length_set,aH,aH];show A.length<A.length+1+1;omega)
 have c:zh jz j6 zP (z0 many s one other third [some (.ref r),some (.int (a:Int)),some (.ref A.length),y8,y9,y10,y11,y12,y13,y14]) (A++[.td []])=.ok (.bl (decide ((a:Int)<(third:Int)))) (A++[.td []]):=(zL (zw rfl) (zw rfl)).trans rfl
 by_cases q:a<third
 ·rw[ax (by omega)]at c
  refine step (s1 s) (λx h=>?_) (λk l=>?_) ((Zb c).trans ((zK (qH (kA (qp rfl (qp rfl (qp rfl jN)))))).trans jH))
  ·simp only[s1,mem_cons,not_mem_nil,or_false]at h
   rcases h with rfl|rfl|rfl<;>dsimp only<;>omega
  ·show gv ds (k-0) (l-1) * 1+(gv ds (k-1) (l-0) * 1+(gv ds (k-1) (l-1) * ((s:Int)-2)+0))=_
   rw[H,H,H,Me s q t,sub_zero,sub_zero,mul_one,mul_one,mul_comm _ ((s:Int)-2)];omega
 ·rw[ak (by omega)]at c
  refine step (s2 s) (λx h=>?_) (λk l=>?_) ((yF c).trans ((zK (qH (kA (qp rfl (qp rfl jN))))).trans jH))
  ·simp only[s2,mem_cons,not_mem_nil,or_false]at h
   rcases h with rfl|rfl<;>dsimp only<;>omega
  ·show gv ds (k-0) (l-0) * 1+(gv ds (k-1) (l-1) * ((s:Int)-1)+0)=_
   rw[H,H,N3 s (by omega) t,sub_zero,sub_zero,mul_one,mul_comm _ ((s:Int)-1)]
   omega
def RD (h0:1<=many)(hm:many<=12)(h1:1<=s)(P:s<=9)(E:third<=many)(A:Hx):
  gf [.int (many:Int),.int (s:Int),.int (one:Int),.int (other:Int),.int (third:Int)] A=.ok (.int (wn many s one other third)) A:=by
 suffices z:∃B,Yz (z0 many s one other third [none,none,none,none,none,none,none,none,none,none]) []=.ok (.rt (.int (wn many s one other third))) B by
  obtain⟨B,z⟩:=z;exact gw (A1:=B) rfl rfl (yB z)
 unfold Yz;have C:zh jc zA zy (z0 many s one other third [none,none,none,none,none,none,none,none,none,none]) []=.ok (.bl (decide ((s:Int)=1))) []:=(zL (zw rfl) (qx (w:=.int 1))).trans (Qg _ _ _);have p:zh Zs zP zG (z0 many s one other third [none,none,none,none,none,none,none,none,none,none]) []=.ok (.bl (decide ((third:Int) > 0))) []:=(zL (zw rfl) (qx (w:=.int 0))).trans rfl
 by_cases q:s=1/\0<third
 ·rw[ax (by omega)]at C p
  unfold wn;rw[aa q];exact⟨_,jO ((Zb ((yf C).trans p)).trans (jO (yy qx)))⟩
 have U:qJ (zh jc zA zy) (zh Zs zP zG) (z0 many s one other third [none,none,none,none,none,none,none,none,none,none]) []=.ok (.bl false) []:=by
  by_cases Y:s=1
  ·rw[ax (by omega)]at C
   rw[ak (by omega)]at p
   exact(yf C).trans p
  ·rw[ak (by omega)]at C
   exact gY C
 obtain⟨y,B,e,r,t,o,n,i,g,f,c,b,Z,ds,h,L,K,v⟩:=gS (N:=many) (j:=jE 0 many) (st:=turn (qh 6) Wf)
  (I:=λa ρ A=>∃r y6 y7 y8 y9 y10 y11 y12 y13 y14 ds,ρ=z0 many s one other third [some (.ref r),y6,y7,y8,y9,y10,y11,y12,y13,y14]/\A[r]? =some (.td (kv ds))/\Kd a ds/\∀k l,gv ds k l=wv s third a k l)
  (λa ρ A J ⟨r,y6,y7,y8,y9,y10,y11,y12,y13,y14,ds,h,M,K,v⟩=>by
   subst h;obtain⟨o,n,i,g,f,c,b,Z,X,A',es,e,x,D,u⟩:=Oa (many:=many) (one:=one) (other:=other) (third:=third) P (by omega) M K v (y7:=y7) (y8:=y8) (y9:=y9) (y10:=y10) (y11:=y11) (y12:=y12) (y13:=y13) (y14:=y14)
   exact⟨.int (a:Int),_,A',(wL J).trans (by rw[Int.zero_add]),(kz (ρ1:=z0 many s one other third [some (.ref r),some (.int (a:Int)),y7,y8,y9,y10,y11,y12,y13,y14]) rfl).trans e,_,_,_,_,_,_,_,_,_,_,es,rfl,x,D,u⟩)
  (λρ A _=>wJ (by omega)) many 0 (z0 many s one other third [some (.ref 0),none,none,none,none,none,none,none,none,none]) [.td (kv [(0,0,1)])] (by omega)
  ⟨_,_,_,_,_,_,_,_,_,_,[(0,0,1)],rfl,rfl,⟨List.pairwise_singleton _ _,λd hd=>by rw[List.mem_singleton.mp hd];decide⟩,λk l=>by
   rw[Pn];show(if (0:Int)=k/\(0:Int)=l then 1 else 0)=_
   by_cases z:k=0/\l=0
   ·rw[aa z,aa (by omega)]
   ·rw[af z,af (by omega)]⟩
 subst h;have H:(B[r]?).bind j0=some (kv ds):=by rw[L];rfl
 have Q:wn many s one other third=gv ds (one:Int) (other:Int):=by
  unfold wn;rw[af q,v];unfold wv;rw[Nat.min_eq_right E]
 have T:gq qD (zR (zc zX (zc zT zl))) zG (z0 many s one other third [some (.ref r),t,o,n,i,g,f,c,b,Z]) B=.ok (.int (gv ds (one:Int) (other:Int))) B:=by
  unfold gq;rw[show qD (z0 many s one other third [some (.ref r),t,o,n,i,g,f,c,b,Z]) B=.ok (.ref r) B from zw rfl,zO]
  rw[aa (show J7 (.ref r) B=true by show((B[r]?).bind j0).isSome=true;rw[H];rfl)]
  rw[show zR (zc zX (zc zT zl)) (z0 many s one other third [some (.ref r),t,o,n,i,g,f,c,b,Z]) B=.ok (.tup [.int (one:Int),.int (other:Int)]) B from gi (qp (zw rfl) (qp (zw rfl) jN)),zO]
  exact GI H
 rw[Q];have S:jh zC (z0 many s one other third [some (.ref 0),none,none,none,none,none,none,none,none,none]) [.td (kv [(0,0,1)])]=.ok (jE 0 many) [.td (kv [(0,0,1)])]:=(wG (zw rfl) (wD (by omega))).trans (by rw[aE])
 exact⟨B,(zK ((yF U).trans jH)).trans ((zK (qH rfl)).trans ((zK ((kC S).trans e)).trans (jO (yy T))))⟩
end
def SD {a b:Ev}{y:W}(c:a ρ A=.ok (.ref n) A)(d:A[n]? =some (.lst ws))(H:b ρ A=.ok y A1):qU g a b ρ A=g (.ref n) y A1:=by
 unfold qU;have h:w6 (.ref n) A=true:=by unfold w6;dsimp only;rw[d]
 rw[c,zO,aa h,H,zO]
def Ki {m:Ev}{tw:Tg}{a:En}{w:W}(h:m ρ A=.ok w A1)(h':tw w ρ=some a):gG m tw ρ A=.ok (.nx a) A1:=by
 unfold gG;rw[h,zO,h']
noncomputable abbrev tw (w:bh):W:=.tup (w.map W.int)
noncomputable def lg (s:Nat)(w:bh):List (bh):=(List.range s).map λ(c:Nat)=>w++[(c:Int)]
def qo (s:Nat):Nat->List (bh)
 |0=>[[]]|n+1=>(qo s n).flatMap (lg s)
def U0:((List.range 4).all λs=>(List.range 5).all λn=>decide ((qo s n).length<=81)&&(qo s n).all λw=>w.length==n)=true:=by decide +kernel
def KY {s:Nat}(H:s<4)(hn:n<5):(qo s n).length<=81/\∀w∈qo s n,w.length=n:=by
 have h:=bJ.mp (bJ.mp U0 s (bK.mpr H)) n (bK.mpr hn);rw[ai]at h;exact⟨of_decide_eq_true h.1,λw hw=>aD.mp (bJ.mp h.2 w hw)⟩
section
variable {s r q:Nat}{C:Hx}{x0 x2 x3 x4 x6 x9 x10 x11 x12 x13:Option W}
noncomputable abbrev wE (s:Nat)(x0 x2 x3 x4:Option W)(l:En):En:=x0::some (.int (s:Int))::x2::x3::x4::l
abbrev Wm:Ex:=zm (jd (qU gh zZ (jk (jI 1 [8] (jh zA) (qh 0) jC (qX (zh zJ zA (zR (zc zC zl)))))))) zB
def Ro (f:s<4)(hn:n<4)(H:C[r]? =some (.lst ((qo s n).map tw)))(p:C[q]? =some (.lst []))(a:r≠q){y8:Option W}:
  ∃z B,jj ⟨λA i=>(zV (.ref r) A).map λws=>ws[i]?,((qo s n).map tw).length⟩ (turn (qh 8) Wm) ((qo s n).map tw).length 0 (wE s x0 x2 x3 x4 [some (.ref r),x6,some (.ref q),y8,x9,x10,x11,x12,x13]) C=
   .ok (.nx (wE s x0 x2 x3 x4 [some (.ref r),x6,some (.ref q),z,x9,x10,x11,x12,x13])) B/\B[q]? =some (.lst ((qo s (n+1)).map tw)):=by
 have v:=KY f (show n<5 by omega)
 obtain⟨o,B,e,z,h,l,_⟩:=gS (N:=(qo s n).length) (j:=⟨λA i=>(zV (.ref r) A).map λws=>ws[i]?,((qo s n).map tw).length⟩) (st:=turn (qh 8) Wm)
  (I:=λi ρ A=>∃z,ρ=wE s x0 x2 x3 x4 [some (.ref r),x6,some (.ref q),z,x9,x10,x11,x12,x13]/\A[q]? =some (.lst ((((qo s n).take i).flatMap (lg s)).map tw))/\A[r]? =some (.lst ((qo s n).map tw)))
  (λi ρ A b ⟨z,h,d,H⟩=>by
   subst h;have hm:=bg b;have u:=v.2 _ hm;have y:=W2 (cap:=[8]) (mi:=jh zA) (j:=jE 0 s) (me:=zh zJ zA (zR (zc zC zl))) (ρ:=wE s x0 x2 x3 x4 [some (.ref r),x6,some (.ref q),some (tw (qo s n)[i]),x9,x10,x11,x12,x13]) (A:=A) (N:=s) (item:=λc=>.int (0+(c:Int))) (g:=λc=>tw ((qo s n)[i]++[(c:Int)]))
    ((wG (zw rfl) (wD (by omega))).trans (by rw[aE])) rfl (by unfold qy;omega) (λc k=>wL k) (wJ (by omega))
    (λc k=>by
     refine(zL (zw (i:=1) (w:=tw (qo s n)[i]) rfl) (gi (qp (zw (i:=0) (w:=.int (0+(c:Int))) rfl) jN))).trans ?_;show(if ((qo s n)[i].map W.int).length + [W.int (0+(c:Int))].length<=qy then R.ok (W.tup ((qo s n)[i].map W.int++[W.int (0+(c:Int))])) A else .bad)=_;rw[aa (by rw[aC,u];show n+1<=100000;omega),Int.zero_add]
     unfold tw;rw[aV]
     rfl)
   have t:=(bI.mp d).1;have hlen:(((qo s n).take i).flatMap (lg s)).length<=400:=by
    have h1:=(KY f (show n+1<5 by omega)).1
    have J:(((qo s n).take i).flatMap (lg s)).length<=((qo s n).flatMap (lg s)).length:=by
     have:(qo s n).flatMap (lg s)=((qo s n).take i).flatMap (lg s)++((qo s n).drop i).flatMap (lg s):=by rw[<- List.flatMap_append,List.take_append_drop]
     rw[this,aH];omega
    have x:qo s (n+1)=(qo s n).flatMap (lg s):=rfl;rw[x]at h1;omega
   have E:qU gh zZ (jk (jI 1 [8] (jh zA) (qh 0) jC (qX (zh zJ zA (zR (zc zC zl)))))) (wE s x0 x2 x3 x4 [some (.ref r),x6,some (.ref q),some (tw (qo s n)[i]),x9,x10,x11,x12,x13]) A=.ok .non ((A++[O.lst ((lg s (qo s n)[i]).map tw)]).set q (O.lst ((((qo s n).take (i+1)).flatMap (lg s)).map tw))):=by
    refine(SD (zw rfl) d (YX y)).trans ?_;unfold gh;dsimp only;rw[yX d,yj];dsimp only;rw[aa (by rw[aC,aC,List.length_range];unfold qy;omega),List.take_succ_eq_append_getElem b,List.flatMap_append,aV]
    have D:(List.range s).map (λc=>tw ((qo s n)[i]++[((c:Nat):Int)]))=(lg s (qo s n)[i]).map tw:=by unfold lg;rw[aQ];rfl
    rw[D];simp
   refine⟨tw (qo s n)[i],_,_,ZS H (by rw[aI,aJ b];rfl),(kz (ρ1:=wE s x0 x2 x3 x4 [some (.ref r),x6,some (.ref q),some (tw (qo s n)[i]),x9,x10,x11,x12,x13]) rfl).trans ((zK (JG E)).trans jH),_,rfl,?_,?_⟩
   ·exact aw (by rw[aH];omega)
   ·rw[aj (Ne.symm a)]
    exact yX H)
  (λρ A ⟨_,_,_,H⟩=>ZS H (by rw[a6 (by rw[aC];omega)])) (qo s n).length 0 (wE s x0 x2 x3 x4 [some (.ref r),x6,some (.ref q),y8,x9,x10,x11,x12,x13]) C (by omega) ⟨_,rfl,p,H⟩
 subst h;rw[take_length]at l;refine⟨z,B,?_,l⟩;rw[aC]at e ⊢;exact e
end
def cn (many:Nat)(u v:bh):Nat:=Z3 (.bl true) ((List.range many).map λa=>W.bl (!decide (u.getD a 0=v.getD a 0))) 0
noncomputable def jU (many:Nat):bh:=List.replicate many 0
noncomputable def j4 (many third:Nat):bh:=List.replicate third 1++List.replicate (many-third) 0
def hit (many one other third:Nat)(w:bh):Int:=if cn many w (jU many)=one/\cn many w (j4 many third)=other then 1 else 0
def LA (many s third:Nat):Bool:=(List.range (many+1)).all λone=>(List.range (many+1)).all λother=>decide (sl (hit many one other third) (qo s many)=wn many s one other third)
def My:((List.range 4).all λm=>(List.range 2).all λs=>(List.range (m+2)).all λthird=>LA (m+1) (s+2) third)=true:=by decide +kernel
def Lw {many s one other third:Nat}(h0:1<=many)(hm:many<5)(b:2<=s)(a:s<4)(o:one<=many)(q:other<=many)(H:third<=many):sl (hit many one other third) (qo s many)=wn many s one other third:=by
 have h:=bJ.mp (bJ.mp (bJ.mp My (many-1) (bK.mpr (by omega))) (s-2) (bK.mpr (by omega))) third (bK.mpr (by omega))
 rw[show many-1+1=many by omega,show s-2+2=s by omega]at h
 exact of_decide_eq_true (bJ.mp (bJ.mp h one (bK.mpr (by omega))) other (bK.mpr (by omega)))
def VE (i j:Int)(A:Hx):ju (.int i) (.int j) A=.ok (.bl (!decide (i=j))) A:=by
 show R.ok (W.bl (!PyData.eqv (.int i) (.int j))) A=_;simp[PyData.eqv]
 rfl
section
variable {many s one other third:Nat}{u v:bh}
def Vs {w:bh}{a:Nat}(h:a<w.length)(A:Hx):qd (tw w) (.int (a:Int)) A=.ok (.int (w.getD a 0)) A:=by
 show(match yv (w.map W.int) (a:Int) with|some w=>R.ok w A|none=>R.bad)=_
 have:yv (w.map W.int) (a:Int)=some (.int (w.getD a 0)):=by
  unfold yv kS;rw[aa (by omega),aa (by rw[aC];omega)]
  show(w.map W.int)[((a:Int)).toNat]? =_;rw[aE,aI,aS,aJ h]
  rfl
 rw[this]
def X7 (hm:many<5)(h0:ρ[0]? =some (some (.int (many:Int))))(H:ρ[i]? =some (some (tw u)))(h:ρ[j]? =some (some (tw v)))(k:u.length=many)(hv:v.length=many)(A:Hx):
  ∃B,qU kW (jk (jI 1 [i,j] (jh zC) (qh 0) jC (qX (zh ju (zh qd zA zC) (zh qd zX zC))))) jC ρ A=.ok (.int (cn many u v:Nat)) (A++B):=by
 have E:=W2 (cap:=[i,j]) (mi:=jh zC) (j:=jE 0 many) (me:=zh ju (zh qd zA zC) (zh qd zX zC)) (ρ:=ρ) (A:=A) (N:=many) (item:=λc=>.int (0+(c:Int))) (g:=λa=>W.bl (!decide (u.getD a 0=v.getD a 0)))
  ((wG (zw h0) (wD (by omega))).trans (by rw[aE])) rfl (by unfold qy;omega) (λc b=>wL b) (wJ (by omega))
  (λa l=>by
   have e:∀A,zC (some (.int (0+(a:Int)))::[i,j].map λi=>(ρ[i]?).join) A=.ok (.int (a:Int)) A:=λA=>by rw[Int.zero_add];exact zw rfl
   have f:zA (some (.int (0+(a:Int)))::[i,j].map λi=>(ρ[i]?).join) A=.ok (tw u) A:=zw (by show some (ρ[i]?).join=_;rw[H];rfl)
   have d:zX (some (.int (0+(a:Int)))::[i,j].map λi=>(ρ[i]?).join) A=.ok (tw v) A:=zw (by show some (ρ[j]?).join=_;rw[h];rfl)
   exact(zL ((zL f (e A)).trans (Vs (by omega) A)) ((zL d (e A)).trans (Vs (by omega) A))).trans (VE _ _ _))
 refine⟨[.lst ((List.range many).map λa=>W.bl (!decide (u.getD a 0=v.getD a 0)))],?_⟩;unfold qU;rw[YX E,zO,aa (by unfold w6;dsimp only;rw[yj])]
 rw[show jC ρ (A++[O.lst ((List.range many).map λa=>W.bl (!decide (u.getD a 0=v.getD a 0)))])=.ok (.bl true) (A++[O.lst ((List.range many).map λa=>W.bl (!decide (u.getD a 0=v.getD a 0)))]) from qx,zO]
 unfold kW;dsimp only;rw[yj];dsimp only;rw[aa (by
  rw[ai];exact⟨rfl,bJ.mpr λw hw=>by obtain⟨a,_,rfl⟩:=List.mem_map.mp hw;rfl⟩)]
 rfl
abbrev gE (many s one other third:Nat)(l:En):En:=z0 many s one other third l
abbrev VI:Ex:=zm (zE 12 (qU kW (jk (jI 1 [8,9] (jh zC) (qh 0) jC (qX (zh ju (zh qd zA zC) (zh qd zX zC))))) jC)) (zm (zE 13 (qU kW (jk (jI 1 [8,10] (jh zC) (qh 0) jC (qX (zh ju (zh qd zA zC) (zh qd zX zC))))) jC)) (zm (zE 11 (zh zJ Z7 (jg QU (qJ (zh jc ja zX) (zh jc Zj zT))))) zB))
def OO {w:bh}(hm:many<5)(hw:w.length=many)(H:third<=many){x5 x6 x7 x12 x13:Option W}{x:Int}:
  ∃c Z B,VI (gE many s one other third [x5,x6,x7,some (tw w),some (tw (jU many)),some (tw (j4 many third)),some (.int x),x12,x13]) A=.ok (.nx (gE many s one other third [x5,x6,x7,some (tw w),some (tw (jU many)),some (tw (j4 many third)),some (.int (x+hit many one other third w)),c,Z])) (A++B):=by
 have L:(jU many).length=many:=by unfold jU;simp
 have l:(j4 many third).length=many:=by unfold j4;simp;omega
 obtain⟨b,E⟩:=X7 (many:=many) (i:=8) (j:=9) (u:=w) (v:=jU many) (ρ:=gE many s one other third [x5,x6,x7,some (tw w),some (tw (jU many)),some (tw (j4 many third)),some (.int x),x12,x13]) hm rfl rfl rfl hw L A;obtain⟨a,e⟩:=X7 (many:=many) (i:=8) (j:=10) (u:=w) (v:=j4 many third) (ρ:=gE many s one other third [x5,x6,x7,some (tw w),some (tw (jU many)),some (tw (j4 many third)),some (.int x),some (.int (cn many w (jU many):Nat)),x13]) hm rfl rfl rfl hw l (A++b);have h:hit many one other third w=if cn many w (jU many)=one/\cn many w (j4 many third)=other then 1 else 0:=rfl;rw[h];generalize cn many w (jU many)=c1 at E e ⊢;generalize cn many w (j4 many third)=c2 at e ⊢;refine⟨some (.int (c1:Int)),some (.int (c2:Int)),b++a,?_⟩;rw[<- append_assoc];have k1:zh jc ja zX (gE many s one other third [x5,x6,x7,some (tw w),some (tw (jU many)),some (tw (j4 many third)),some (.int x),some (.int (c1:Int)),some (.int (c2:Int))]) (A++b++a)=.ok (.bl (decide ((c1:Int)=(one:Int)))) (A++b++a):=(zL (zw rfl) (zw rfl)).trans (Qg _ _ _);have k2:zh jc Zj zT (gE many s one other third [x5,x6,x7,some (tw w),some (tw (jU many)),some (tw (j4 many third)),some (.int x),some (.int (c1:Int)),some (.int (c2:Int))]) (A++b++a)=.ok (.bl (decide ((c2:Int)=(other:Int)))) (A++b++a):=(zL (zw rfl) (zw rfl)).trans (Qg _ _ _);have k3:jg QU (qJ (zh jc ja zX) (zh jc Zj zT)) (gE many s one other third [x5,x6,x7,some (tw w),some (tw (jU many)),some (tw (j4 many third)),some (.int x),some (.int (c1:Int)),some (.int (c2:Int))]) (A++b++a)=.ok (.int (if c1=one/\c2=other then 1 else 0)) (A++b++a):=by
  by_cases Q:c1=one
  ·rw[ax (by omega)]at k1
   by_cases q:c2=other
   ·rw[ax (by omega)]at k2
    rw[aa ⟨Q,q⟩];exact(JO ((yf k1).trans k2)).trans rfl
   ·rw[ak (by omega)]at k2
    rw[af λz=>q z.2];exact(JO ((yf k1).trans k2)).trans rfl
  ·rw[ak (by omega)]at k1
   rw[af λz=>Q z.1];exact(JO (gY k1)).trans rfl
 refine(zK (qH E)).trans ((zK (qH e)).trans ((zK (qH ((zL (zw (w:=.int x) rfl) k3).trans rfl))).trans jH))
end
section
variable {many s one other third:Nat}
def rep0 {x:Int}(h:k<1000)(A:Hx):yL (.tup [.int x]) (.int (k:Int)) A=.ok (tw (List.replicate k x)) A:=by
 unfold yL;dsimp only;rw[aa (by simp;omega),aE]
 congr 2
 induction k with
 |zero=>rfl|succ k i=>
  rw[aK,aK,aX,aM,i (by omega)]
  rfl
def Ni (h0:1<=many)(hm:many<5)(M:2<=s)(L:s<4)(D:one<=many)(y:other<=many)(l:third<=many)(A:Hx):
  w9 [.int (many:Int),.int (s:Int),.int (one:Int),.int (other:Int),.int (third:Int)] A=.ok (.int (wn many s one other third)) A:=by
 suffices z:∃B,Yu (z0 many s one other third [none,none,none,none,none,none,none,none,none]) []=.ok (.rt (.int (wn many s one other third))) B by
  obtain⟨B,z⟩:=z;exact gw (A1:=B) rfl rfl (yB z)
 unfold Yu;obtain⟨ρ1,C,S,r,y6,y7,y8,c,o⟩:=gS (N:=many) (j:=jE 0 many) (st:=turn (qh 6) (zm (zE 7 (qa zl)) (zm (jQ (jS qD) (qh 8) Wm) (zm (zE 5 zZ) zB))))
  (I:=λi ρ A=>∃r y6 y7 y8,ρ=z0 many s one other third [some (.ref r),y6,y7,y8,none,none,none,none,none]/\A[r]? =some (.lst ((qo s i).map tw)))
  (λi ρ A g ⟨r,y6,y7,y8,H,h⟩=>by
   subst H;have J:=(bI.mp h).1;have d:(A++[O.lst []])[r]? =some (.lst ((qo s i).map tw)):=yX h;obtain⟨U,B,e,p⟩:=Ro (C:=A++[.lst []]) (r:=r) (q:=A.length) (s:=s) (n:=i) (x0:=some (.int (many:Int))) (x2:=some (.int (one:Int))) (x3:=some (.int (other:Int))) (x4:=some (.int (third:Int))) (x6:=some (.int (i:Int))) (x9:=none) (x10:=none) (x11:=none) (x12:=none) (x13:=none) (y8:=y8) (by omega) (by omega) d yj (by omega)
   exact⟨.int (i:Int),_,B,(wL g).trans (by rw[Int.zero_add]),(kz (ρ1:=z0 many s one other third [some (.ref r),some (.int (i:Int)),y7,y8,none,none,none,none,none]) rfl).trans ((zK (qH (kA jN))).trans ((zK ((kC (Kl (zw rfl) d)).trans e)).trans ((zK (qH (zw rfl))).trans jH))),_,_,_,_,rfl,p⟩)
  (λρ A _=>wJ (by omega)) many 0 (z0 many s one other third [some (.ref 0),none,none,none,none,none,none,none,none]) [.lst [.tup []]] (by omega) ⟨_,_,_,_,rfl,rfl⟩
 subst c;have K:=KY (s:=s) (n:=many) (by omega) hm
 have Q:zR (zc (zh yL (zR (zc zG zl)) zC) (zc (zh zJ (zh yL (zR (zc zy zl)) zP) (zh yL (zR (zc zG zl)) (zh qf zC zP))) zl)) (z0 many s one other third [some (.ref r),y6,y7,y8,none,none,none,none,none]) C=.ok (.tup [tw (jU many),tw (j4 many third)]) C:=by
  have T:zh qf zC zP (z0 many s one other third [some (.ref r),y6,y7,y8,none,none,none,none,none]) C=.ok (.int ((many-third:Nat):Int)) C:=(zL (zw rfl) (zw rfl)).trans (by show R.ok (W.int ((many:Int)-third)) C=_;rw[show(many:Int)-third=((many-third:Nat):Int) by omega])
  have t0:zR (zc zG zl) (z0 many s one other third [some (.ref r),y6,y7,y8,none,none,none,none,none]) C=.ok (.tup [.int 0]) C:=gi (qp qx jN);have t:zR (zc zy zl) (z0 many s one other third [some (.ref r),y6,y7,y8,none,none,none,none,none]) C=.ok (.tup [.int 1]) C:=gi (qp qx jN);refine gi (qp ((zL t0 (zw rfl)).trans (rep0 (by omega) C)) (qp ((zL ((zL t (zw rfl)).trans (rep0 (by omega) C)) ((zL t0 T).trans (rep0 (by omega) C))).trans ?_) jN))
  show(if ((List.replicate third (1:Int)).map W.int).length+((List.replicate (many-third) (0:Int)).map W.int).length<=qy then R.ok (W.tup ((List.replicate third (1:Int)).map W.int++(List.replicate (many-third) (0:Int)).map W.int)) C else .bad)=_;rw[aa (by rw[aC,aC,aP,aP];unfold qy;omega),<- aV]
  rfl
 obtain⟨u,B,E,k,a,w,b,p⟩:=gS (N:=(qo s many).length) (j:=⟨λA i=>(zV (.ref r) A).map λws=>ws[i]?,((qo s many).map tw).length⟩) (st:=turn (qh 8) VI)
  (I:=λi ρ A=>∃k a w,ρ=gE many s one other third [some (.ref r),y6,y7,k,some (tw (jU many)),some (tw (j4 many third)),some (.int (sl (hit many one other third) ((qo s many).take i))),a,w]/\A[r]? =some (.lst ((qo s many).map tw)))
  (λi ρ A g ⟨k,a,w,H,h⟩=>by
   subst H;obtain⟨v,Z,B,e⟩:=OO (A:=A) (s:=s) (one:=one) (other:=other) (x5:=some (.ref r)) (x6:=y6) (x7:=y7) (x12:=a) (x13:=w) (x:=sl (hit many one other third) ((qo s many).take i)) hm (K.2 _ (bg g)) l;rw[<- Kk _ g]at e;refine⟨tw (qo s many)[i],_,_,ZS h (by rw[aI,aJ g];rfl),(kz (ρ1:=gE many s one other third [some (.ref r),y6,y7,some (tw (qo s many)[i]),some (tw (jU many)),some (tw (j4 many third)),some (.int (sl (hit many one other third) ((qo s many).take i))),a,w]) rfl).trans e,_,_,_,rfl,?_⟩
   rw[ag (bI.mp h).1];exact h)
  (λρ A ⟨_,_,_,_,h⟩=>ZS h (by rw[a6 (by rw[aC];omega)])) (qo s many).length 0 (gE many s one other third [some (.ref r),y6,y7,y8,some (tw (jU many)),some (tw (j4 many third)),some (.int 0),none,none]) C (by omega) ⟨_,_,_,rfl,o⟩
 subst b;rw[take_length,Lw h0 hm M L D y l]at E;have P:jh zC (z0 many s one other third [some (.ref 0),none,none,none,none,none,none,none,none]) [.lst [.tup []]]=.ok (jE 0 many) [.lst [.tup []]]:=(wG (zw rfl) (wD (by omega))).trans (by rw[aE])
 rw[<- aC (f:=tw) (as:=qo s many)]at E;refine⟨B,(zK (qH rfl)).trans ((zK ((kC P).trans S)).trans ((zK (Ki Q rfl)).trans ((zK (qH qx)).trans ?_)))⟩;exact(zK (ρ1:=gE many s one other third [some (.ref r),y6,y7,k,some (tw (jU many)),some (tw (j4 many third)),some (.int (wn many s one other third)),a,w]) (A1:=B) ((kC (Kl (zw rfl) o)).trans E)).trans (jO (yy (zw rfl)))
end
end G
set_option maxHeartbeats 4000000
namespace G
open PySem L2 Mi
def Qu {M a:Ex}(h:M ρ A=.exc x A1):zm M a ρ A=.exc x A1:=by unfold zm;rw[h,GG]
def Qy {m:Ev}(h:m ρ A=.exc x A1):jd m ρ A=.exc x A1:=by unfold jd;rw[h,GG]
def Qn {m:Ex}(h:m (ws.map some++List.replicate (n-ws.length) none) A=.exc x A1):wd n m ws A=.exc x A1:=by unfold wd;rw[h];rfl
noncomputable def qF:Nat->W
 |0=>.int 0|1=>.int 13|2=>.int (-1)|3=>.bl true|4=>.non|5=>.str "2" | 6=>.tup [.int 2]|_=>.int 100000000000000000000000000000
noncomputable def qk (m:Nat):Nat->W
 |0=>.int ((m:Int)+1)|1=>.int (-1)|2=>.bl true|3=>.non|4=>.str "0" | _=>.tup [.int 0]
def Zl (b:Nat):W:=if b=1 then .int 10 else qF b
noncomputable def Ja (x:Str)(r:R W):Bool:=match r with
 |.exc y []=>decide (y=x)|_=>false
def Kv {r:R W}(h:Ja x r=true):r=.exc x []:=by
 unfold Ja at h
 split at h
 ·rename_i y
  rw[of_decide_eq_true h]
 ·cases h
def RM:∀b<8,j8 [qF b,.int 1,.int 12] []=.exc "NoNumber" []:=λb H=>Kv (by
 have h:((List.range 8).all λb=>Ja "NoNumber" (j8 [qF b,.int 1,.int 12] []))=true:=by decide +kernel
 exact bJ.mp h b (bK.mpr H))
def Pp:∀b<8,j8 [Zl b,.int 1,.int 9] []=.exc "NoNumber" []:=λb H=>Kv (by
 have h:((List.range 8).all λb=>Ja "NoNumber" (j8 [Zl b,.int 1,.int 9] []))=true:=by decide +kernel
 exact bJ.mp h b (bK.mpr H))
def YT:∀m<13,∀n<6,yT [qk m n,.int m] []=.exc "NoKind" []:=λm hm n hn=>Kv (by
 have h:((List.range 13).all λm=>(List.range 6).all λn=>Ja "NoKind" (yT [qk m n,.int m] []))=true:=by decide +kernel
 exact bJ.mp (bJ.mp h m (bK.mpr hm)) n (bK.mpr hn))
section
variable {b m s:Nat}{x y z u:W}
def Xx (h:b<8):qK [qF b,x,y,z,u] []=.exc "NoNumber" []:=by
 refine Qn ?_;unfold gQ;refine Qu (Qy ?_);rw[qQ (ws:=[qF b,.int 1,.int 12]) (A1:=[]) rfl];exact RM b h
def dq:∀(f:Fn)(a:Ea)(ws:List W)(ρ:En)(r:Ex),a ρ []=.ok ws []->f ws []=.ok .non []->zm (jd (zF f a)) r ρ []=r ρ []:=λf a ws ρ r E e=>zK (JG ((qQ E).trans e))
def Nt (h1:1<=m)(H:m<=12)(h:b<8):qK [.int (m:Int),Zl b,y,z,u] []=.exc "NoNumber" []:=by
 refine Qn ?_;unfold gQ;rw[dq j8 _ [.int m,.int 1,.int 12] _ _ rfl (wH (by omega) (by omega) [])]
 refine Qu (Qy ?_);rw[qQ (ws:=[Zl b,.int 1,.int 9]) (A1:=[]) rfl];exact Pp b h
def N0 (h1:1<=m)(a:m<=12)(H:1<=s)(h:s<=9)(hn:n<6):qK [.int (m:Int),.int (s:Int),qk m n,z,u] []=.exc "NoKind" []:=by
 refine Qn ?_;unfold gQ;rw[dq j8 _ [.int m,.int 1,.int 12] _ _ rfl (wH (by omega) (by omega) [])]
 rw[dq j8 _ [.int s,.int 1,.int 9] _ _ rfl (wH (by omega) (by omega) [])]
 refine Qu (Qy ?_);rw[qQ (ws:=[qk m n,.int m]) (A1:=[]) rfl];exact YT m (by omega) n hn
def Mo (h1:1<=m)(a:m<=12)(H:1<=s)(h:s<=9)(hn:n<6):qK [.int (m:Int),.int (s:Int),.int 0,qk m n,u] []=.exc "NoKind" []:=by
 refine Qn ?_;unfold gQ;rw[dq j8 _ [.int m,.int 1,.int 12] _ _ rfl (wH (by omega) (by omega) [])]
 rw[dq j8 _ [.int s,.int 1,.int 9] _ _ rfl (wH (by omega) (by omega) [])]
 rw[dq yT _ [.int 0,.int m] _ _ rfl (ZA (by omega) (by omega) [])]
 refine Qu (Qy ?_);rw[qQ (ws:=[qk m n,.int m]) (A1:=[]) rfl];exact YT m (by omega) n hn
def Mc (h1:1<=m)(a:m<=12)(H:1<=s)(h:s<=9)(hn:n<6):qK [.int (m:Int),.int (s:Int),.int 0,.int 0,qk m n] []=.exc "NoKind" []:=by
 refine Qn ?_;unfold gQ;rw[dq j8 _ [.int m,.int 1,.int 12] _ _ rfl (wH (by omega) (by omega) [])]
 rw[dq j8 _ [.int s,.int 1,.int 9] _ _ rfl (wH (by omega) (by omega) [])]
 rw[dq yT _ [.int 0,.int m] _ _ rfl (ZA (by omega) (by omega) [])]
 rw[dq yT _ [.int 0,.int m] _ _ rfl (ZA (by omega) (by omega) [])]
 refine Qu (Qy ?_);rw[qQ (ws:=[qk m n,.int m]) (A1:=[]) rfl];exact YT m (by omega) n hn
end
abbrev LS:List Lm:=ye qK
noncomputable def gx (x:Str):Option Int:=if x = "NoNumber" then some 5 else if x = "NoKind" then some 3 else none
def RF (k:Nat)(ws:List W)(A:Hx):R W:=if jb ws then(match kf LS k ws [] with
 |.exc x []=>(match gx x with
  |some i=>.ok (.ref A.length) (A++[.lst [.int i]])|none=>.bad)
 |_=>.bad) else .bad
noncomputable def Yd (r:R Fl)(i:Int):Bool:=match r with
 |.ok (.rt (.ref n)) A1=>(match A1[n]? with
  |some (.lst [.int j])=>decide (j=i)|_=>false)
 |_=>false
def Xa {r:R Fl}{i:Int}(h:Yd r i=true):∃n A1,r=.ok (.rt (.ref n)) A1/\A1[n]? =some (.lst [.int i]):=by
 unfold Yd at h
 split at h
 ·rename_i n A1
  split at h
  ·rename_i j e
   have:j=i:=of_decide_eq_true h
   subst this;exact⟨n,A1,rfl,e⟩
  ·cases h
 ·cases h
def Sd (u:W):Yd (Jf [some u,some (.xc "NoNumber"),none,none] []) 5=true:=by kernel_rfl
def U3 (u:W):Yd (Jf [some u,some (.xc "NoKind"),none,none] []) 3=true:=by kernel_rfl
def PJ {PG:jo}{lam:Nat->Fn}{i:Int}(H:lam k ws []=.exc x [])(h:gx x=some i):
  ∃n A1,jG 4 (Qj PG lam) [.clo k ws (PG k)] []=.ok (.ref n) A1/\A1[n]? =some (.lst [.int i]):=by
 have c:qR.contains x=true:=by
  unfold gx at h
  split at h
  ·rename_i e;subst e;decide +kernel
  ·split at h
   ·rename_i e;subst e;decide +kernel
   ·cases h
 have a:Yc 0 PG lam [some (.clo k ws (PG k)),some .non,none,none] []=.exc x []:=by
  unfold Yc;refine(aa rfl).trans H
 have E:Q1 0 1 2 qR PG lam [some (.clo k ws (PG k)),some .non,none,none] []=.ok (.nx [some (.clo k ws (PG k)),some (.xc x),none,none]) []:=by
  unfold Q1;rw[a];dsimp only;rw[aa c]
  rfl
 have r:∃n A1,Jf [some (.clo k ws (PG k)),some (.xc x),none,none] []=.ok (.rt (.ref n)) A1/\A1[n]? =some (.lst [.int i]):=by
  unfold gx at h
  split at h
  ·rename_i e;subst e;cases h;exact Xa (Sd _)
  ·split at h
   ·rename_i e;subst e;cases h;exact Xa (U3 _)
   ·cases h
 obtain⟨n,A1,d,b⟩:=r;refine⟨n,A1,yB ?_,b⟩;unfold Qj;refine(zK (ρ1:=[some (.clo k ws (PG k)),some .non,none,none]) (A1:=[]) rfl).trans ?_;exact(zK E).trans d
def O0 {PG:jo}(us:List W)(A:Hx):wQ PG RF us A=.bad∨iso (jG 4 (Qj PG (kf LS))) us A=wQ PG RF us A:=by
 by_cases H:wQ PG RF us A=.bad
 ·exact .inl H
 right
 unfold wQ at H ⊢
 split
 ·rename_i k ws P
  dsimp only at H
  by_cases b:P=PG k
  ·subst b
   rw[aa rfl]at H ⊢;unfold RF at H ⊢
   by_cases hn:jb ws=true
   ·rw[aa hn]at H ⊢
    split at H
    ·rename_i x l
     cases hm:gx x with
     |none=>rw[hm]at H;exact absurd rfl H|some i=>
      obtain⟨n,A1,E,e⟩:=PJ (PG:=PG) (lam:=kf LS) l hm;unfold iso;have a:jb [W.clo k ws (PG k)]=true:=by
       show(jb ws&&true)=true;rw[hn];rfl
      rw[aa a,E];dsimp only;rw[e]
      rfl
    ·exact absurd rfl H
   ·rw[af hn]at H;exact absurd rfl H
  ·rw[af b]at H;exact absurd rfl H
 ·rename_i h
  exfalso
  apply H
  split
  ·rename_i k ws P
   exact(h k ws P rfl).elim
  ·rfl
end G
namespace Mi
open PySem L2
section
variable {j:jA}{me:Ev}{c:En}{f:Nat}{x:Option W}{w y:W}{acc:List W}{m:Ev}
def UX (h:j.at_ A i=some (some w))(he:me (some w::c) A=.ok y A1)(H:acc.length<qy):qS j (qh 0) (zt (.bl true)) (qX me) (f+1) i (x::c) acc A=qS j (qh 0) (zt (.bl true)) (qX me) f (i+1) (some w::c) (acc++[y]) A1:=by
 rw[qS,h];dsimp only[qh,List.set,zt];rw[zO];dsimp only;have e:qX me (some w::c) acc A=.ok (some w::c,acc++[y]) A1:=by
  unfold qX;rw[he,zO,aa H]
 rw[e,zO]
def U7 (h:j.at_ A i=some none):qS j (qh 0) (zt (.bl true)) (qX me) f i ρ acc A=.ok (ρ,acc) A:=by
 cases f<;>(unfold qS;rw[h])
def Nj (h:m ρ A=.ok (.ref n) A1)(H:A1[n]? =some (.lst ws)):jS m ρ A=.ok ⟨λA i=>(zV (.ref n) A).map λws=>ws[i]?,ws.length⟩ A1:=by
 unfold jS JZ;rw[h,zO];have e:zV (.ref n) A1=some ws:=by unfold zV;dsimp only;rw[H]
 rw[e]
def X3 (h:A[n]? =some (.lst ws)):((zV (.ref n) A).map λws=>ws[i]?)=some ws[i]?:=by
 have e:zV (.ref n) A=some ws:=by unfold zV;dsimp only;rw[h]
 rw[e];rfl
def Xb {v:Int}(h:A[n]? =some (.lst [.int v])):qu A (k+1) (.ref n)=some (.list [.int v]):=by
 unfold qu;have e:zV (.ref n) A=some [.int v]:=by unfold zV;dsimp only;rw[h]
 rw[e];cases k<;>rfl
def GD {ds:List PyData}(h:A[n]? =some (.lst ws))(hd:jK (qu A k) ws=some ds):qu A (k+1) (.ref n)=some (.list ds):=by
 unfold qu;have e:zV (.ref n) A=some ws:=by unfold zV;dsimp only;rw[h]
 rw[e];dsimp only;rw[hd]
 rfl
def W5 {g:W->Option PyData}{d:PyData}{ds:List PyData}(h:g w=some d)(r:jK g ws=some ds):jK g (w::ws)=some (d::ds):=by
 unfold jK;rw[h,r]
def MJ {a b:W}{d:PyData}(c:qu A 8 a=some d)(H:qu A 8 b=some d)(h:PyData.eqv d d=true):ju a b A=.ok (.bl false) A:=by
 show wg true a b A=_;unfold wg;rw[c,H];dsimp only;rw[aa rfl,h]
 rfl
end
end Mi
namespace G
open PySem L2 Mi
def OG (v:Int)(A:Hx):wC [.int v,.int v] A=.ok (.bl true) A:=by
 refine gw rfl rfl (A1:=[]) (yB ?_);unfold YN;refine(zK (ρ1:=[some (.int v),some (.int v)]) (A1:=[]) ((yF (A1:=[]) rfl).trans rfl)).trans (jO (yy ?_));have e:zh jc (zW 0) (zW 1) [some (.int v),some (.int v)] []=.ok (.bl true) []:=by
  refine(zL (x:=.int v) (y:=.int v) (A1:=[]) (A2:=[]) rfl rfl).trans ?_;show wg false _ _ _=_;unfold wg;show R.ok (W.bl (PyData.eqv (.int v) (.int v))) []=_
  have:PyData.eqv (.int v) (.int v)=true:=by simp[PyData.eqv]
  rw[this]
 rw[yf e]
 rfl
def Ks:∀b<8,(qF b).nr=true:=by decide +kernel
def ZI (m:Nat):∀n<6,(qk m n).nr=true:=λn hn=>by
 match n,hn with
 |0,_=>rfl|1,_=>rfl|2,_=>rfl|3,_=>rfl|4,_=>rfl|5,_=>rfl
def PY (A:Hx):∀b<8,jc (qF b) (.int 13) A=.ok (.bl (decide (b=1))) A:=λb h=>by
 match b,h with
 |0,_=>rfl|1,_=>rfl|2,_=>rfl|3,_=>rfl|4,_=>rfl|5,_=>kernel_rfl|6,_=>rfl|7,_=>rfl
section
variable {b m s:Nat}
def ZX {i:Int}(hn:jb ws=true)(h:kf LS k ws []=.exc x [])(hm:gx x=some i):RF k ws A=.ok (.ref A.length) (A++[.lst [.int i]]):=by
 unfold RF;rw[aa hn,h];dsimp only;rw[hm]
def ZP {t:Lm}(h:ls[k]? =some t):kf ls k ws A=t.m (ws.map some) A:=by unfold kf;rw[h]
def Y1:gx "NoNumber"=some 5:=by decide +kernel
def YS:gx "NoKind"=some 3:=by decide +kernel
def LU (h:b<8)(hn:n<6):RF 0 [qF b,qk m n] A=.ok (.ref A.length) (A++[.lst [.int 5]]):=
 ZX (by show((qF b).nr&&((qk m n).nr&&true))=true;rw[Ks b h,ZI m n hn];rfl) (by
  rw[ZP (t:=ZJ qK) rfl];unfold ZJ yZ;dsimp only;exact(qQ (f:=qK) (ws:=[qF b,qF b,qk m n,qk m n,qk m n]) (A1:=[]) rfl).trans (Xx h)) Y1
def LW (h:b<8)(hn:n<6):RF 1 [.int s,qF b,qk m n] A=.ok (.ref A.length) (A++[.lst [.int 5]]):=
 ZX (by show(true&&((qF b).nr&&((qk m n).nr&&true)))=true;rw[Ks b h,ZI m n hn];rfl) (by
  rw[ZP (t:=ZG qK) rfl];unfold ZG yZ;dsimp only;exact(qQ (f:=qK) (ws:=[qF b,.int s,qk m n,.int 0,.int 0]) (A1:=[]) rfl).trans (Xx h)) Y1
def LP (h1:1<=m)(H:m<=12)(h:b<8)(hn:n<6):RF 2 [.int m,qF b,qk m n] A=.ok (.ref A.length) (A++[.lst [.int 5]]):=
 ZX (by show(true&&((qF b).nr&&((qk m n).nr&&true)))=true;rw[Ks b h,ZI m n hn];rfl) (by
  rw[ZP (t:=ZL qK) rfl];unfold ZL yZ;dsimp only;have E:Zu ((λρ A=>((zh jc zA (zt (.int 13))) ρ A).nox)) Zm zA ([.int (m:Int),qF b,qk m n].map some) []=.ok (Zl b) []:=by
   have e:zh jc zA (zt (.int 13)) ([.int (m:Int),qF b,qk m n].map some) []=.ok (.bl (decide (b=1))) []:=(zL (zw rfl) (qx (w:=.int 13))).trans (PY [] b h);unfold Zl
   by_cases q:b=1
   ·rw[ax q]at e
    rw[aa q];exact(MR (ZU e)).trans qx
   ·rw[ak q]at e
    rw[af q];exact(Mx (ZU e)).trans (zw rfl)
  exact(qQ (f:=qK) (ws:=[.int m,Zl b,.int 0,qk m n,.int 0]) (A1:=[]) (qp (zw rfl) (qp E (qp qx (qp (zw rfl) (qp qx jN)))))).trans (Nt h1 H h)) Y1
def LQ (h1:1<=m)(a:m<=12)(H:1<=s)(h:s<=9)(hn:n<6):RF 3 [.int m,.int s,qk m n] A=.ok (.ref A.length) (A++[.lst [.int 3]]):=
 ZX (by show(true&&(true&&((qk m n).nr&&true)))=true;rw[ZI m n hn];rfl) (by
  rw[ZP (t:=ZM qK) rfl];unfold ZM yZ;dsimp only;exact(qQ (f:=qK) (ws:=[.int m,.int s,qk m n,.int 0,.int 0]) (A1:=[]) rfl).trans (N0 h1 a H h hn)) YS
def LV (h1:1<=m)(a:m<=12)(H:1<=s)(h:s<=9)(hn:n<6):RF 4 [.int m,.int s,qk m n] A=.ok (.ref A.length) (A++[.lst [.int 3]]):=
 ZX (by show(true&&(true&&((qk m n).nr&&true)))=true;rw[ZI m n hn];rfl) (by
  rw[ZP (t:=ZN qK) rfl];unfold ZN yZ;dsimp only;exact(qQ (f:=qK) (ws:=[.int m,.int s,.int 0,qk m n,.int 0]) (A1:=[]) rfl).trans (Mo h1 a H h hn)) YS
def LX (h1:1<=m)(a:m<=12)(H:1<=s)(h:s<=9)(hn:n<6):RF 5 [.int m,.int s,qk m n] A=.ok (.ref A.length) (A++[.lst [.int 3]]):=
 ZX (by show(true&&(true&&((qk m n).nr&&true)))=true;rw[ZI m n hn];rfl) (by
  rw[ZP (t:=ZF qK) rfl];unfold ZF yZ;dsimp only;exact(qQ (f:=qK) (ws:=[.int m,.int s,.int 0,.int 0,qk m n]) (A1:=[]) rfl).trans (Mc h1 a H h hn)) YS
end
structure qg (ns:bh)(Pt:Addr)(n:Nat)(A:Hx):Prop where
 h0:A[0]? =some (.ro (ns.map W.int))
 h1:A[1]? =some (.tab qt Pt)
 two:2<=n
 st:J8 n A
section
variable {ns:bh}
def qg.lt (h:qg ns Pt n A):n<A.length:=by obtain⟨c,b,e,_⟩:=h.st;exact(bI.mp e).1
def qg.app (h:qg ns Pt n A)(o:O):qg ns Pt n (A++[o]):=⟨yX h.h0,yX h.h1,h.two,let ⟨c,b,e,r⟩:=h.st;⟨c,b,yX e,r⟩⟩
def qg.put (h:qg ns Pt n A)(H:n<k)(o:O):qg ns Pt n (A.set k o):=by
 have:=h.two
 refine⟨?_,?_,h.two,?_⟩
 ·rw[aj (by omega)];exact h.h0
 ·rw[aj (by omega)];exact h.h1
 ·obtain⟨c,b,e,r⟩:=h.st
  exact⟨c,b,by rw[aj (by omega)];exact e,r⟩
def ND (h:qg ns Pt n A){m:Int}(h1:0<m)(c:m<1000):∃(r:Nat) (A':Hx),qP [.ref n,.int m] A=.ok (.int r) A'/\(r:Int)<m/\qg ns Pt n A'/\∀i,i≠n->A'[i]? =A[i]?:=by
 obtain⟨r,o,e,a,b,s⟩:=Ny h.st h1 c
 have:=h.two
 refine⟨r.toNat,A.set n o,?_,by omega,⟨?_,?_,h.two,s⟩,λi H=>aj (Ne.symm H)⟩
 ·rw[e,a9 a]
 ·rw[aj (by omega)];exact h.h0
 ·rw[aj (by omega)];exact h.h1
def ZR (h:qg ns Pt n A){PF:jo}:qV 1 qt Pt k (PF k) ρ A=.ok (.clo k [] (PF k)) A:=by
 unfold qV;rw[h.h1];dsimp only;rw[aa ⟨rfl,rfl⟩]
end
end G
namespace Mi
open PySem L2
def Ext (A A':Hx):Prop:=∃l,A'=A++l
def Ext.trans {B C:Hx}(a:Ext A B)(b:Ext B C):Ext A C:=let ⟨l,e⟩:=a;let ⟨k,f⟩:=b;⟨l++k,by rw[f,e,append_assoc]⟩
def Ext.one {o:O}:Ext A (A++[o]):=⟨[o],rfl⟩
def Ext.at {A':Hx}{o:O}(x:Ext A A')(h:A[n]? =some o):A'[n]? =some o:=by
 obtain⟨l,rfl⟩:=x
 have:=(bI.mp h).1
 rw[ag this];exact h
theorem WX {g:W->Option PyData}{f:Nat->W}{d:PyData}:∀(n:Nat)(s:Nat),(∀t,s<=t->t<s+n->g (f t)=some d)->jK g ((List.range' s n).map f)=some (List.replicate n d)
 |0,_,_=>rfl|n+1,s,h=>by
  rw[List.range'_succ,aM,aK];exact W5 (h s (by omega) (by omega)) (WX n (s+1) λt h1 H=>h t (by omega) (by omega))
theorem GK {g:W->Option PyData}{w:W}{d:PyData}(h:g w=some d):∀n:Nat,jK g (List.replicate n w)=some (List.replicate n d)
 |0=>rfl|n+1=>by rw[aK,aK];exact W5 h (GK h n)
def NA {o:O}{t:Nat}(h:t<n):(A++List.replicate n o)[A.length+t]? =some o:=by
 rw[aq (by omega),aR,aa (by omega)]
end Mi
namespace G
open PySem L2 Mi
section
variable {ns:bh}{m:Nat}{A':Hx}{PF:jo}{c:Nat}{v:Int}{ks:bq}
def qg.ext (h:qg ns Pt m A)(x:Ext A A'):qg ns Pt m A':=⟨x.at h.h0,x.at h.h1,h.two,let ⟨a,b,e,r⟩:=h.st;⟨a,b,x.at e,r⟩⟩
def Q3 (ρ:En)(ks:bq)(v:Int):Prop:=∀k∈ks,∃t ws,LS[k]? =some t/\Zf t.idx ρ=some ws/\∀A,RF k ws A=.ok (.ref A.length) (A++[O.lst [.int v]])
def Mp (h:Q3 ρ ks v)(H:k∈ks):wY 0 PF LS RF ρ [some (.clo k [] (PF k))] A=.ok (.ref A.length) (A++[O.lst [.int v]]):=by
 obtain⟨t,ws,h1,b,a⟩:=h k H;unfold wY;refine(aa rfl).trans ?_;rw[h1];dsimp only;rw[b];exact a A
def Pj (h:Q3 ρ ks v)(b:A[c]? =some (O.lst (ks.map λk=>.clo k [] (PF k))))(l:ks.length<=100):∀(f i:Nat)(x:Option W),i+f=ks.length->∃y,
  qS ⟨λA i=>(zV (.ref c) A).map λws=>ws[i]?,ks.length⟩ (qh 0) (zt (.bl true)) (qX (wY 0 PF LS RF ρ)) f i [x] ((List.range' 0 i).map λt=>W.ref (A.length+t)) (A++List.replicate i (O.lst [.int v]))=
   .ok ([y],(List.range' 0 ks.length).map λt=>W.ref (A.length+t)) (A++List.replicate ks.length (O.lst [.int v])):=by
 intro f
 induction f with
 |zero=>
  intro i x d
  have:i=ks.length:=by omega
  subst this;refine⟨x,U7 ?_⟩;have a:=Ext.at (A':=A++List.replicate ks.length (O.lst [.int v])) ⟨_,rfl⟩ b;show((zV (.ref c) _).map λws=>ws[ks.length]?)=some none;rw[X3 a,a6 (by simp)]
 |succ f I=>
  intro i x d;have H:i<ks.length:=by omega
  obtain⟨y,e⟩:=I (i+1) (some (.clo ks[i] [] (PF ks[i]))) (by omega)
  refine⟨y,?_⟩;have a:=Ext.at (A':=A++List.replicate i (O.lst [.int v])) ⟨_,rfl⟩ b;rw[UX (w:=.clo ks[i] [] (PF ks[i])) (y:=.ref (A++List.replicate i (O.lst [.int v])).length) (A1:=A++List.replicate i (O.lst [.int v])++[O.lst [.int v]]) ?_ (Mp h (bg H)) (by simp;unfold qy;omega)]
  ·have g:A++List.replicate i (O.lst [.int v])++[O.lst [.int v]]=A++List.replicate (i+1) (O.lst [.int v]):=by rw[append_assoc,<- List.replicate_succ']
   have E:((List.range' 0 i).map λt=>W.ref (A.length+t))++[W.ref (A++List.replicate i (O.lst [.int v])).length]=(List.range' 0 (i+1)).map λt=>W.ref (A.length+t):=by
    rw[List.range'_concat,aV,List.map_singleton]
    congr 2
    simp
   rw[g,E];exact e
  ·show((zV (.ref c) _).map λws=>ws[i]?)=some (some _)
   rw[X3 a,aI,aJ H]
   rfl
def G2 (h:Q3 ρ ks v)(l:A[c]? =some (O.lst (ks.map λk=>.clo k [] (PF k))))(b:ρ[12]? =some (some (.ref c)))(s:ks.length<=100)(hn:n=ks.length)
  (he:PyData.eqv (.list (List.replicate ks.length (.list [.int v]))) (.list (List.replicate ks.length (.list [.int v])))=true):
  ∃A',zh ju (jk (wa 1 (jS (zW 12)) (qh 0) 0 PF LS RF)) (zh zY (qa (zc (qa (zc (zt (.int v)) zl)) zl)) (zt (.int n))) ρ A=.ok (.bl false) A'/\Ext A A':=by
 subst hn;obtain⟨y,e⟩:=Pj (PF:=PF) h l s ks.length 0 none (by omega)
 have p:wa 1 (jS (zW 12)) (qh 0) 0 PF LS RF ρ A=.ok ((List.range' 0 ks.length).map λt=>W.ref (A.length+t)) (A++List.replicate ks.length (O.lst [.int v])):=by
  unfold wa jI;rw[Nj (zw b) l,zO];have f:(ks.map λk=>W.clo k [] (PF k)).length=ks.length:=by simp
  dsimp only;rw[f];have z:qS ⟨λA i=>(zV (.ref c) A).map λws=>ws[i]?,ks.length⟩ (qh 0) (zt (.bl true)) (qX (wY 0 PF LS RF ρ)) ks.length 0 (gA 1 [] ρ) [] A=.ok ([y],(List.range' 0 ks.length).map λt=>W.ref (A.length+t)) (A++List.replicate ks.length (O.lst [.int v])):=by
   have:=e
   rw[List.replicate_zero,a7]at this;exact this
  rw[z]
  rfl
 generalize j:A++List.replicate ks.length (O.lst [.int v])=B at p;have o:=YX p;generalize a:((List.range' 0 ks.length).map λt=>W.ref (A.length+t))=acc at o;have E:zh zY (qa (zc (qa (zc (zt (.int v)) zl)) zl)) (zt (.int ks.length)) ρ (B++[O.lst acc])=
   .ok (.ref (B++[O.lst acc]++[O.lst [.int v]]++[O.lst [.ref (B++[O.lst acc]).length]]).length) (B++[O.lst acc]++[O.lst [.int v]]++[O.lst [.ref (B++[O.lst acc]).length]]++[O.lst (List.replicate ks.length (.ref (B++[O.lst acc]).length))]):=by
  refine(zL (x:=.ref (B++[O.lst acc]++[O.lst [.int v]]).length) (y:=.int ks.length) (A1:=B++[O.lst acc]++[O.lst [.int v]]++[O.lst [.ref (B++[O.lst acc]).length]]) (kA (qp (kA (ws:=[.int v]) (A1:=B++[O.lst acc]) rfl) rfl)) rfl).trans ?_;unfold zY;dsimp only;rw[yj];dsimp only;rw[aa ?_,aE,List.flatten_replicate_singleton];rw[ai,ah,aE];refine⟨wD (by omega),?_⟩
  show 1 * ks.length<=qy;unfold qy;omega
 generalize w:B++[O.lst acc]++[O.lst [.int v]]++[O.lst [.ref (B++[O.lst acc]).length]]=C at E;have g:Ext B (B++[O.lst acc]):=.one;have X:Ext (B++[O.lst acc]++[O.lst [.int v]]) (C++[O.lst (List.replicate ks.length (.ref (B++[O.lst acc]).length))]):=by rw[<- w];exact Ext.one.trans .one
 have q:Ext A (C++[O.lst (List.replicate ks.length (.ref (B++[O.lst acc]).length))]):=Ext.trans ⟨_,j.symm⟩ (g.trans (Ext.one.trans X));have H:∀D:Hx,(∀t,t<ks.length->D[A.length+t]? =some (O.lst [.int v]))->jK (qu D 7) acc=some (List.replicate ks.length (.list [.int v])):=λD u=>by
  rw[<- a];exact WX _ _ λt _ r=>Xb (u t (by omega))
 refine⟨_,(zL o E).trans (MJ (d:=.list (List.replicate ks.length (.list [.int v]))) ?_ ?_ he),q⟩
 ·refine GD (k:=7) ((Ext.one.trans X).at yj) ?_
  refine H _ λt r=>(g.trans (Ext.one.trans X)).at ?_;rw[<- j];exact NA (by omega)
 ·refine GD (k:=7) yj ?_
  exact GK (Xb (X.at yj)) _
end
abbrev TB:Ex:=zm (zE 7 (zF qP (zc zX (zc (zh zJ zT zy) zl)))) (zm (zE 8 (zh qd (qa (zc (zF qP (zc zX (zc (zh zJ zT zy) zl))) (zc (zh Zd zT (zh zJ zZ qD)) (zc (jg Z4 (zh qf zZ qD)) (zc zZ zl))))) (zF qP (zc zX (zc yG zl))))) (zm (zE 9 (zF gf (zc zT (zc zP (zc zZ (zc qO (zc qD zl))))))) (zm (qG (kL (zF wC (zc (zF yU (zc zT (zc zP (zc zZ (zc qO (zc qD zl)))))) (zc j7 zl)))) yI zB) (zm (qG (qJ (zh jz zT gK) (qJ (yc jz jz zy zP yG) (zh ju (zF w9 (zc zT (zc zP (zc zZ (zc qO (zc qD zl)))))) j7))) yI zB) zB))))
section
variable {ns:bh}{many signs third:Nat}{xk:Option W}
def g7 (h:qg ns Pt n A){mm:Ev}{m:Int}(h1:0<m)(H:m<1000)(hn:ρ[2]? =some (some (.ref n)))(hm:mm ρ A=.ok (.int m) A):
  ∃(r:Nat) (A':Hx),zF qP (zc zX (zc mm zl)) ρ A=.ok (.int r) A'/\(r:Int)<m/\qg ns Pt n A'/\∀i,i≠n->A'[i]? =A[i]?:=by
 obtain⟨r,A',e,a,b,c⟩:=ND h h1 H;refine⟨r,A',?_,a,b,c⟩;rw[qQ (ws:=[.ref n,.int m]) (A1:=A) (qp (zw hn) (qp hm rfl))];exact e
noncomputable abbrev lE (n many signs third:Nat)(xk:Option W)(l:En):En:=some (.ref 0)::xk::some (.ref n)::some (.int (many:Int))::some (.int (signs:Int))::some (.int (third:Int))::l
def R1 {a b c:Int}{ma mb mc:Ev}(h1:ma ρ A=.ok (.int a) A)(d:mb ρ A=.ok (.int b) A)(H:mc ρ A=.ok (.int c) A):yc jz jz ma mb mc ρ A=.ok (.bl (decide (a<b)&&decide (b<c))) A:=by
 unfold yc;rw[h1,zO,d,zO];show R.bind (R.ok (W.bl (decide (a<b))) A) _=_
 by_cases h:a<b
 ·rw[ax h,zO]
  dsimp only;rw[H,zO]
  rfl
 ·rw[ak h,zO]
  rfl
def Sg (h:qg ns Pt n A)(h1:1<=many)(p:many<=12)(l:1<=signs)(j:signs<=9)(t:third<=many){x6 x7 x8 x9 x10 x11 x12:Option W}:∃y7 y8 y9 A',TB (lE n many signs third xk [x6,x7,x8,x9,x10,x11,x12]) A=.ok (.nx (lE n many signs third xk [x6,y7,y8,y9,x10,x11,x12])) A'/\qg ns Pt n A':=by
 obtain⟨one,A1,I,M,H1,_⟩:=g7 h (ρ:=lE n many signs third xk [x6,x7,x8,x9,x10,x11,x12]) (mm:=zh zJ zT zy) (m:=(many:Int)+1) (by omega) (by omega) rfl rfl
 obtain⟨g,A2,D,L,u,_⟩:=g7 H1 (ρ:=lE n many signs third xk [x6,some (.int (one:Int)),x8,x9,x10,x11,x12]) (mm:=zh zJ zT zy) (m:=(many:Int)+1) (by omega) (by omega) rfl rfl
 have emin:zh Zd zT (zh zJ zZ qD) (lE n many signs third xk [x6,some (.int (one:Int)),x8,x9,x10,x11,x12]) A2=.ok (.int (if (one:Int)+third<many then(one:Int)+third else many)) A2:=(zL (zw rfl) ((zL (zw rfl) (zw rfl)).trans rfl)).trans rfl;have e:jg Z4 (zh qf zZ qD) (lE n many signs third xk [x6,some (.int (one:Int)),x8,x9,x10,x11,x12]) A2=.ok (.int (if (one:Int)-third<0 then -((one:Int)-third) else(one:Int)-third)) A2:=(JO (show zh qf zZ qD (lE n many signs third xk [x6,some (.int (one:Int)),x8,x9,x10,x11,x12]) A2=.ok (.int ((one:Int)-third)) A2 from (zL (zw rfl) (zw rfl)).trans rfl)).trans rfl
 have x:=kA (qp D (qp emin (qp e (qp (zw (i:=7) (w:=.int (one:Int)) rfl) jN))));obtain⟨r,d,B,K,J,k3⟩:=g7 (u.app (.lst [.int (g:Int),.int (if (one:Int)+third<many then(one:Int)+third else many),.int (if (one:Int)-third<0 then -((one:Int)-third) else(one:Int)-third),.int (one:Int)])) (ρ:=lE n many signs third xk [x6,some (.int (one:Int)),x8,x9,x10,x11,x12]) (mm:=yG) (m:=4) (by omega) (by omega) rfl qx
 have H:=(k3 A2.length (by have:=u.lt;omega)).trans yj
 obtain⟨other,o,y⟩:∃other:Nat,other<=many/\qd (.ref A2.length) (.int (r:Int)) d=.ok (.int (other:Int)) d:=by
  have cs:r=0∨r=1∨r=2∨r=3:=by omega
  rcases cs with rfl|rfl|rfl|rfl
  ·exact⟨g,by omega,QC H rfl⟩
  ·refine⟨(if (one:Int)+third<many then(one:Int)+third else many).toNat,by split<;>omega,(QC H rfl).trans ?_⟩
   rw[a9 (by split<;>omega)]
  ·refine⟨(if (one:Int)-third<0 then -((one:Int)-third) else(one:Int)-third).toNat,by split<;>omega,(QC H rfl).trans ?_⟩
   rw[a9 (by split<;>omega)]
  ·exact⟨one,by omega,QC H rfl⟩
 have s:zF gf (zc zT (zc zP (zc zZ (zc qO (zc qD zl))))) (lE n many signs third xk [x6,some (.int (one:Int)),some (.int (other:Int)),x9,x10,x11,x12]) d=.ok (.int (wn many signs one other third)) d:=(qQ (ws:=[.int (many:Int),.int (signs:Int),.int (one:Int),.int (other:Int),.int (third:Int)]) (A1:=d) rfl).trans (RD h1 p l j t d);have q:zF yU (zc zT (zc zP (zc zZ (zc qO (zc qD zl))))) (lE n many signs third xk [x6,some (.int (one:Int)),some (.int (other:Int)),some (.int (wn many signs one other third)),x10,x11,x12]) d=.ok (.int (wn many signs one other third)) d:=(qQ (ws:=[.int (many:Int),.int (signs:Int),.int (one:Int),.int (other:Int),.int (third:Int)]) (A1:=d) rfl).trans (Kg h1 p l j (by omega) o t d)
 have E:qJ (zh jz zT gK) (qJ (yc jz jz zy zP yG) (zh ju (zF w9 (zc zT (zc zP (zc zZ (zc qO (zc qD zl)))))) j7)) (lE n many signs third xk [x6,some (.int (one:Int)),some (.int (other:Int)),some (.int (wn many signs one other third)),x10,x11,x12]) d=.ok (.bl false) d:=by
  have C:zh jz zT gK (lE n many signs third xk [x6,some (.int (one:Int)),some (.int (other:Int)),some (.int (wn many signs one other third)),x10,x11,x12]) d=.ok (.bl (decide ((many:Int)<5))) d:=(zL (zw rfl) (qx (w:=.int 5))).trans rfl
  by_cases v:many<5
  case neg=>rw[ak (by omega)]at C;exact gY C
  rw[ax (by omega)]at C
  have f:=R1 (ρ:=lE n many signs third xk [x6,some (.int (one:Int)),some (.int (other:Int)),some (.int (wn many signs one other third)),x10,x11,x12]) (A:=d) (ma:=zy) (mb:=zP) (mc:=yG) (a:=1) (b:=(signs:Int)) (c:=4) qx (zw rfl) qx
  by_cases Q:1<signs/\signs<4
  case neg=>
   have:(decide ((1:Int)<signs)&&decide ((signs:Int)<4))=false:=by
    rw[Bool.and_eq_false_iff]
    by_cases z:1<signs
    ·exact .inr (ak (by omega))
    ·exact .inl (ak (by omega))
   rw[this]at f;exact(yf C).trans (gY f)
  rw[ax (by omega),ax (by omega)]at f
  refine(yf C).trans ((yf f).trans ((zL ((qQ (ws:=[.int (many:Int),.int (signs:Int),.int (one:Int),.int (other:Int),.int (third:Int)]) (A1:=d) rfl).trans (Ni h1 v (by omega) Q.2 (by omega) o t d)) (zw (w:=.int (wn many signs one other third)) rfl)).trans ((VE _ _ _).trans ?_)))
  rw[ax rfl]
  rfl
 generalize wn many signs one other third=V at s q E;refine⟨some (.int (one:Int)),some (.int (other:Int)),some (.int V),d,?_,J⟩;refine(zK (qH I)).trans ((zK (qH ((zL x B).trans y))).trans ((zK (qH s)).trans ?_));refine(zK ((yF (Kj (k:=true) ((qQ (qp q (qp (zw rfl) jN))).trans (OG V d)))).trans jH)).trans ?_;exact(zK ((yF E).trans jH)).trans jH
end
def LG:PyData.eqv (.list (List.replicate 3 (.list [.int 5]))) (.list (List.replicate 3 (.list [.int 5])))=true:=by decide +kernel
def M8:PyData.eqv (.list (List.replicate 3 (.list [.int 3]))) (.list (List.replicate 3 (.list [.int 3])))=true:=by decide +kernel
section
variable {ns:bh}{many signs third:Nat}{xk:Option W}
def Nk:∀r<8,([.int 0,.int 13,.int (-1),.bl true,.non,.str "2",.tup [.int 2],.int 100000000000000000000000000000]:List W)[r]? =some (qF r):=λr h=>by
 match r,h with
 |0,_=>rfl|1,_=>rfl|2,_=>rfl|3,_=>rfl|4,_=>rfl|5,_=>rfl|6,_=>rfl|7,_=>rfl
def RP:∀r<6,([.int ((many:Int)+1),.int (-1),.bl true,.non,.str "0",.tup [.int 0]]:List W)[r]? =some (qk many r):=λr h=>by
 match r,h with
 |0,_=>rfl|1,_=>rfl|2,_=>rfl|3,_=>rfl|4,_=>rfl|5,_=>rfl
def pick (h:qg ns Pt n A){a:Ea}{m:Nat}(h1:0<m)(j:m<1000)(hn:ρ[2]? =some (some (.ref n)))(g:a ρ A=.ok ws A){f:Nat->W}(hf:∀r<m,ws[r]? =some (f r)):
  ∃r A',zh qd (qa a) (zF qP (zc zX (zc (zt (.int m)) zl))) ρ A=.ok (f r) A'/\r<m/\qg ns Pt n A'/\∀i o,i≠n->A[i]? =some o->A'[i]? =some o:=by
 obtain⟨r,A',e,b,H,k⟩:=g7 (h.app (.lst ws)) (ρ:=ρ) (mm:=zt (.int m)) (m:=(m:Int)) (by omega) (by omega) hn rfl
 have t:=h.lt;refine⟨r,A',?_,by omega,H,λi o d c=>by rw[k i d];exact yX c⟩
 refine(zL (kA g) e).trans ?_;refine QC (ws:=ws) ?_ (hf r (by omega))
 rw[k _ (by omega)]
 exact yj
def JP {c:Nat}{mm:Ev}{w:W}(H:ρ[12]? =some (some (.ref c)))(h:A[c]? =some (.lst ws))(hm:mm ρ A=.ok w A)(l:ws.length<100):jd (qU jW ja mm) ρ A=.ok (.nx ρ) (A.set c (.lst (ws++[w]))):=by
 refine JG (w:=.non) ?_;unfold qU;rw[show ja ρ A=.ok (.ref c) A from zw H,zO]
 have i:w6 (.ref c) A=true:=by unfold w6;dsimp only;rw[h]
 rw[aa i,hm,zO];unfold jW;dsimp only;rw[h];dsimp only;rw[aa (by unfold qy;omega)]
def JJ {c:Nat}{o u:O}(h:A[c]? =some u):(A.set c o)[c]? =some o:=aw (bI.mp h).1
def turns (h1:1<=many)(g:many<=12)(e:1<=signs)(d:signs<=9)(h:third<=many){x10 x11 x12:Option W}:∀(f i:Nat)(A:Hx)(x6 x7 x8 x9:Option W),i+f=6->qg ns Pt n A->∃y6 y7 y8 y9 A',jj (jE 0 6) (turn (qh 6) TB) f i (lE n many signs third xk [x6,x7,x8,x9,x10,x11,x12]) A=
  .ok (.nx (lE n many signs third xk [y6,y7,y8,y9,x10,x11,x12])) A'/\qg ns Pt n A':=by
 intro f
 induction f with
 |zero=>
  intro i A x6 x7 x8 x9 c H;exact⟨x6,x7,x8,x9,A,Ql (wJ (by omega)),H⟩
 |succ f I=>
  intro i A x6 x7 x8 x9 c H;obtain⟨y7,y8,y9,A1,j,H1⟩:=Sg (xk:=xk) (x6:=some (.int (0+(i:Int)))) (x7:=x7) (x8:=x8) (x9:=x9) (x10:=x10) (x11:=x11) (x12:=x12) H h1 g e d h;obtain⟨b,a,Z,z,A2,E,k⟩:=I (i+1) A1 (some (.int (0+(i:Int)))) y7 y8 y9 (by omega) H1
  refine⟨b,a,Z,z,A2,?_,k⟩;rw[Qv (wL (by omega)) ((kz rfl).trans j),E]
end
abbrev BL (Pt:Addr)(PF:jo):Ex:=zm (zE 2 (zF Zy (zc zC (zc zA zl)))) (zm (gG (zR (zc (zh zJ zy (zF qP (zc zX (zc (zt (.int 12)) zl)))) (zc (zh zJ zy (zF qP (zc zX (zc Zv zl)))) zl))) (kF 3 4)) (zm (gG (zh qd (qa (zc (zR (zc zT (zc zP zl))) (zc (zR (zc yG (zc jR zl))) (zc (zR (zc jR (zc kh zl))) (zc (zR (zc (zt (.int 12)) (zc Zv zl))) zl))))) (zF qP (zc zX (zc yG zl)))) (kF 3 4)) (zm (zE 5 (zF qP (zc zX (zc (zh zJ zT zy) zl)))) (zm (jQ (jh Qf) (qh 6) (zm (zE 7 (zF qP (zc zX (zc (zh zJ zT zy) zl)))) (zm (zE 8 (zh qd (qa (zc (zF qP (zc zX (zc (zh zJ zT zy) zl))) (zc (zh Zd zT (zh zJ zZ qD)) (zc (jg Z4 (zh qf zZ qD)) (zc zZ zl))))) (zF qP (zc zX (zc yG zl))))) (zm (zE 9 (zF gf (zc zT (zc zP (zc zZ (zc qO (zc qD zl))))))) (zm (qG (kL (zF wC (zc (zF yU (zc zT (zc zP (zc zZ (zc qO (zc qD zl)))))) (zc j7 zl)))) yI zB) (zm (qG (qJ (zh jz zT gK) (qJ (yc jz jz zy zP yG) (zh ju (zF w9 (zc zT (zc zP (zc zZ (zc qO (zc qD zl)))))) j7))) yI zB) zB)))))) (zm (zE 10 (zh qd (qa (zc zG (zc (zt (.int 13)) (zc (jg gF zy) (zc jC (zc gO (zc (zt (.str "2")) (zc (zR (zc kh zl)) (zc (zh Zk Zm (zt (.int 29))) zl))))))))) (zF qP (zc zX (zc Wh zl))))) (zm (zE 11 (zh qd (qa (zc (zh zJ zT zy) (zc (jg gF zy) (zc jC (zc gO (zc (zt (.str "0")) (zc (zR (zc zG zl)) zl))))))) (zF qP (zc zX (zc Qf zl))))) (zm (zE 12 (qa (zc (qV 1 qt Pt 0 (PF 0)) zl))) (zm (jd (qU jW ja (qV 1 qt Pt 1 (PF 1)))) (zm (jd (qU jW ja (qV 1 qt Pt 2 (PF 2)))) (zm (qG (zh ju (jk (wa 1 (jS ja) (qh 0) 0 PF (ye qK) RF)) (zh zY (qa (zc (qa (zc gK zl)) zl)) jR)) yI zB) (zm (zE 12 (qa (zc (qV 1 qt Pt 3 (PF 3)) zl))) (zm (jd (qU jW ja (qV 1 qt Pt 4 (PF 4)))) (zm (jd (qU jW ja (qV 1 qt Pt 5 (PF 5)))) (zm (qG (zh ju (jk (wa 1 (jS ja) (qh 0) 0 PF (ye qK) RF)) (zh zY (qa (zc (qa (zc jR zl)) zl)) jR)) yI zB) zB))))))))))))))
section
variable {ns:bh}{PF:jo}{many signs third:Nat}
def Se (D:qg ns Pt n A)(r:1<=many)(M:many<=12)(s1:1<=signs)(s2:signs<=9){b d:Nat}(t:b<8)(hd:d<6){xk y6 y7 y8 y9 x12:Option W}:
  ∃e A',zm (zE 12 (qa (zc (qV 1 qt Pt 0 (PF 0)) zl))) (zm (jd (qU jW ja (qV 1 qt Pt 1 (PF 1)))) (zm (jd (qU jW ja (qV 1 qt Pt 2 (PF 2)))) (zm (qG (zh ju (jk (wa 1 (jS ja) (qh 0) 0 PF (ye qK) RF)) (zh zY (qa (zc (qa (zc gK zl)) zl)) jR)) yI zB) (zm (zE 12 (qa (zc (qV 1 qt Pt 3 (PF 3)) zl))) (zm (jd (qU jW ja (qV 1 qt Pt 4 (PF 4)))) (zm (jd (qU jW ja (qV 1 qt Pt 5 (PF 5)))) (zm (qG (zh ju (jk (wa 1 (jS ja) (qh 0) 0 PF (ye qK) RF)) (zh zY (qa (zc (qa (zc jR zl)) zl)) jR)) yI zB) zB))))))) (lE n many signs third xk [y6,y7,y8,y9,some (qF b),some (qk many d),x12]) A=.ok (.nx (lE n many signs third xk [y6,y7,y8,y9,some (qF b),some (qk many d),some (.ref e)])) A'/\qg ns Pt n A':=by
 have u:qa (zc (qV 1 qt Pt 0 (PF 0)) zl) (lE n many signs third xk [y6,y7,y8,y9,some (qF b),some (qk many d),x12]) A=.ok (.ref A.length) (A++[.lst [.clo 0 [] (PF 0)]]):=kA (qp (ZR D) jN);have H:=D.lt;have B:=D.app (.lst [.clo 0 [] (PF 0)]);have s:(A++[O.lst [.clo 0 [] (PF 0)]])[A.length]? =some (.lst [.clo 0 [] (PF 0)]):=yj;generalize A++[O.lst [.clo 0 [] (PF 0)]]=X at u B s;generalize A.length=c at u s H;have N:=JP (ρ:=lE n many signs third xk [y6,y7,y8,y9,some (qF b),some (qk many d),some (.ref c)]) (mm:=qV 1 qt Pt 1 (PF 1)) rfl s (ZR B) (by show 1<100;decide)
 have z:=B.put H (.lst ([.clo 0 [] (PF 0)]++[.clo 1 [] (PF 1)]));have y:=JJ (o:=.lst ([.clo 0 [] (PF 0)]++[.clo 1 [] (PF 1)])) s;generalize X.set c (.lst ([.clo 0 [] (PF 0)]++[.clo 1 [] (PF 1)]))=U at N z y;have L:=JP (ρ:=lE n many signs third xk [y6,y7,y8,y9,some (qF b),some (qk many d),some (.ref c)]) (mm:=qV 1 qt Pt 2 (PF 2)) rfl y (ZR z) (by show 2<100;decide)
 have Q:=z.put H (.lst ([.clo 0 [] (PF 0)]++[.clo 1 [] (PF 1)]++[.clo 2 [] (PF 2)]));have P:=JJ (o:=.lst ([.clo 0 [] (PF 0)]++[.clo 1 [] (PF 1)]++[.clo 2 [] (PF 2)])) y;generalize U.set c (.lst ([.clo 0 [] (PF 0)]++[.clo 1 [] (PF 1)]++[.clo 2 [] (PF 2)]))=Z at L Q P;have T:Q3 (lE n many signs third xk [y6,y7,y8,y9,some (qF b),some (qk many d),some (.ref c)]) [0,1,2] 5:=all_cons ⟨ZJ qK,[qF b,qk many d],rfl,rfl,λA=>LU t hd⟩ (all_cons ⟨ZG qK,[.int signs,qF b,qk many d],rfl,rfl,λA=>LW t hd⟩ (all_cons ⟨ZL qK,[.int many,qF b,qk many d],rfl,rfl,λA=>LP r M t hd⟩ all_nil));obtain⟨a,w,x⟩:=G2 (PF:=PF) (n:=3) T P rfl (by decide) rfl LG
 have j:=Q.ext x;have E:qa (zc (qV 1 qt Pt 3 (PF 3)) zl) (lE n many signs third xk [y6,y7,y8,y9,some (qF b),some (qk many d),some (.ref c)]) a=.ok (.ref a.length) (a++[.lst [.clo 3 [] (PF 3)]]):=kA (qp (ZR j) jN);have h:=j.lt;have i:=j.app (.lst [.clo 3 [] (PF 3)]);have C:(a++[O.lst [.clo 3 [] (PF 3)]])[a.length]? =some (.lst [.clo 3 [] (PF 3)]):=yj;generalize a++[O.lst [.clo 3 [] (PF 3)]]=K at E i C;generalize a.length=e at E C h;have l:=JP (ρ:=lE n many signs third xk [y6,y7,y8,y9,some (qF b),some (qk many d),some (.ref e)]) (mm:=qV 1 qt Pt 4 (PF 4)) rfl C (ZR i) (by show 1<100;decide)
 have g:=i.put h (.lst ([.clo 3 [] (PF 3)]++[.clo 4 [] (PF 4)]));have f:=JJ (o:=.lst ([.clo 3 [] (PF 3)]++[.clo 4 [] (PF 4)])) C;generalize K.set e (.lst ([.clo 3 [] (PF 3)]++[.clo 4 [] (PF 4)]))=J at l g f;have k:=JP (ρ:=lE n many signs third xk [y6,y7,y8,y9,some (qF b),some (qk many d),some (.ref e)]) (mm:=qV 1 qt Pt 5 (PF 5)) rfl f (ZR g) (by show 2<100;decide)
 have q:=g.put h (.lst ([.clo 3 [] (PF 3)]++[.clo 4 [] (PF 4)]++[.clo 5 [] (PF 5)]));have p:=JJ (o:=.lst ([.clo 3 [] (PF 3)]++[.clo 4 [] (PF 4)]++[.clo 5 [] (PF 5)])) f;generalize J.set e (.lst ([.clo 3 [] (PF 3)]++[.clo 4 [] (PF 4)]++[.clo 5 [] (PF 5)]))=Y at k q p;have S:Q3 (lE n many signs third xk [y6,y7,y8,y9,some (qF b),some (qk many d),some (.ref e)]) [3,4,5] 3:=all_cons ⟨ZM qK,[.int many,.int signs,qk many d],rfl,rfl,λA=>LQ r M s1 s2 hd⟩ (all_cons ⟨ZN qK,[.int many,.int signs,qk many d],rfl,rfl,λA=>LV r M s1 s2 hd⟩ (all_cons ⟨ZF qK,[.int many,.int signs,qk many d],rfl,rfl,λA=>LX r M s1 s2 hd⟩ all_nil));obtain⟨I,v,x14⟩:=G2 (PF:=PF) (n:=3) S p rfl (by decide) rfl M8
 refine⟨e,I,?_,q.ext x14⟩;refine(zK (qH u)).trans ((zK N).trans ((zK L).trans ((zK ((yF w).trans jH)).trans ?_)));exact(zK (qH E)).trans ((zK l).trans ((zK k).trans ((zK ((yF v).trans jH)).trans jH)))
end
section
variable {ns:bh}{PF:jo}
noncomputable def gJ (m s:Nat):Nat->Nat×Nat
 |0=>(m,s)|1=>(4,3)|2=>(3,2)|_=>(12,9)
def Mj {m s:Nat}:∀r<4,([.tup [.int (m:Int),.int (s:Int)],.tup [.int 4,.int 3],.tup [.int 3,.int 2],.tup [.int 12,.int 9]]:List W)[r]? =some (.tup [.int ((gJ m s r).1:Int),.int ((gJ m s r).2:Int)]):=λr h=>by
 match r,h with
 |0,_=>rfl|1,_=>rfl|2,_=>rfl|3,_=>rfl
def Rk (h0:A[0]? =some (.ro (ns.map W.int)))(h1:A[1]? =some (.tab qt Pt)){x2 x3 x4 x5 x6 x7 x8 x9 x10 x11 x12:Option W}:∃j i Y y y6 y7 y8 y9 y10 y11 y12 A',BL Pt PF [some (.ref 0),some (.int (k:Int)),x2,x3,x4,x5,x6,x7,x8,x9,x10,x11,x12] A=
  .ok (.nx [some (.ref 0),some (.int (k:Int)),j,i,Y,y,y6,y7,y8,y9,y10,y11,y12]) A'/\A'[0]? =some (.ro (ns.map W.int))/\A'[1]? =some (.tab qt Pt):=by
 obtain⟨o,s,S⟩:=RA h0 k;have two:2<=A.length:=(bI.mp h1).1;have H0:qg ns Pt A.length (A++[o]):=⟨yX h0,yX h1,two,S⟩;generalize A.length=n at*;generalize A++[o]=A0 at*;obtain⟨f,A1,C,X,H1,_⟩:=g7 H0 (ρ:=[some (.ref 0),some (.int (k:Int)),some (.ref n),x3,x4,x5,x6,x7,x8,x9,x10,x11,x12]) (mm:=zt (.int 12)) (m:=12) (by decide) (by decide) rfl qx
 obtain⟨e,A2,B,U,M,_⟩:=g7 H1 (ρ:=[some (.ref 0),some (.int (k:Int)),some (.ref n),x3,x4,x5,x6,x7,x8,x9,x10,x11,x12]) (mm:=Zv) (m:=9) (by decide) (by decide) rfl qx
 have E:=gi (qp ((zL (qx (w:=.int 1)) C).trans (show zJ (.int 1) (.int (f:Int)) A1=.ok (.int ((1+f:Nat):Int)) A1 by show R.ok (W.int (1+(f:Int))) A1=_;rw[show 1+(f:Int)=((1+f:Nat):Int) by omega])) (qp ((zL (qx (w:=.int 1)) B).trans (show zJ (.int 1) (.int (e:Int)) A2=.ok (.int ((1+e:Nat):Int)) A2 by show R.ok (W.int (1+(e:Int))) A2=_;rw[show 1+(e:Int)=((1+e:Nat):Int) by omega])) jN))
 have g:1<=1+f/\1+f<=12:=by omega
 have Q:1<=1+e/\1+e<=9:=by omega
 generalize 1+f=m0 at E g;generalize 1+e=s0 at E Q;obtain⟨r,A3,h,l,L,_⟩:=pick M (ρ:=[some (.ref 0),some (.int (k:Int)),some (.ref n),some (.int (m0:Int)),some (.int (s0:Int)),x5,x6,x7,x8,x9,x10,x11,x12]) (a:=zc (zR (zc zT (zc zP zl))) (zc (zR (zc yG (zc jR zl))) (zc (zR (zc jR (zc kh zl))) (zc (zR (zc (zt (.int 12)) (zc Zv zl))) zl)))) (m:=4) (by decide) (by decide) rfl rfl Mj
 have q:1<=(gJ m0 s0 r).1/\(gJ m0 s0 r).1<=12/\1<=(gJ m0 s0 r).2/\(gJ m0 s0 r).2<=9:=by
  have cs:r=0∨r=1∨r=2∨r=3:=by omega
  rcases cs with rfl|rfl|rfl|rfl
  ·exact⟨g.1,g.2,Q.1,Q.2⟩
  ·show 1<=4/\4<=12/\1<=3/\3<=9
   decide
  ·show 1<=3/\3<=12/\1<=2/\2<=9
   decide
  ·show 1<=12/\12<=12/\1<=9/\9<=9
   decide
 generalize (gJ m0 s0 r).1=many at h q;generalize (gJ m0 s0 r).2=signs at h q;obtain⟨third,P,z,T,K,_⟩:=g7 L (ρ:=[some (.ref 0),some (.int (k:Int)),some (.ref n),some (.int (many:Int)),some (.int (signs:Int)),x5,x6,x7,x8,x9,x10,x11,x12]) (mm:=zh zJ zT zy) (m:=(many:Int)+1) (by omega) (by omega) rfl rfl
 obtain⟨y6,y7,y8,y9,A5,x,J⟩:=turns (ns:=ns) (Pt:=Pt) (n:=n) (xk:=some (.int (k:Int))) (third:=third) (x10:=x10) (x11:=x11) (x12:=x12) q.1 q.2.1 q.2.2.1 q.2.2.2 (by omega) 6 0 P x6 x7 x8 x9 (by omega) K
 obtain⟨b,A6,v,p,I,_⟩:=pick J (ρ:=lE n many signs third (some (.int (k:Int))) [y6,y7,y8,y9,x10,x11,x12]) (a:=zc zG (zc (zt (.int 13)) (zc (jg gF zy) (zc jC (zc gO (zc (zt (.str "2")) (zc (zR (zc kh zl)) (zc (zh Zk Zm (zt (.int 29))) zl)))))))) (m:=8) (by decide) (by decide) rfl (by kernel_rfl) Nk
 obtain⟨d,Z,u,hd,D,_⟩:=pick I (ρ:=lE n many signs third (some (.int (k:Int))) [y6,y7,y8,y9,some (qF b),x11,x12]) (a:=zc (zh zJ zT zy) (zc (jg gF zy) (zc jC (zc gO (zc (zt (.str "0")) (zc (zR (zc zG zl)) zl)))))) (m:=6) (by decide) (by decide) rfl rfl RP
 obtain⟨c,N,t,H⟩:=Se (PF:=PF) D q.1 q.2.1 q.2.2.1 q.2.2.2 p hd (third:=third) (xk:=some (.int (k:Int))) (y6:=y6) (y7:=y7) (y8:=y8) (y9:=y9) (x12:=x12);refine⟨some (.ref n),some (.int (many:Int)),some (.int (signs:Int)),some (.int (third:Int)),y6,y7,y8,y9,some (qF b),some (qk many d),some (.ref c),N,?_,H.h0,H.h1⟩;refine(zK (qH ((qQ (qp (zw rfl) (qp (zw rfl) jN))).trans s))).trans ?_;refine(zK (Ki E rfl)).trans ?_;refine(zK (Ki h rfl)).trans ?_;refine(zK (qH z)).trans ?_;refine(zK ((kC (wG (qx (w:=.int 6)) (by decide))).trans x)).trans ?_
 refine(zK (qH v)).trans ?_;exact(zK (qH u)).trans t
end
def Lj:wn 3 1 0 0 0=1:=by decide +kernel
def La:wn 3 1 0 0 1=0:=by decide +kernel
def K1 (Pt:Addr)(PF:jo):Fn:=jG 13 (KZ gf w9 wC Zy qP yU qK RF Pt PF)
def TM:XT qt K1:=λns L Pt PF=>by
 have p:zV (.ref 0) [.ro (ns.map W.int),.tab qt Pt]=some (ns.map W.int):=rfl;have E:mQ y0 (kJ zC) [some (.ref 0),none,none,none,none,none,none,none,none,none,none,none,none] [.ro (ns.map W.int),.tab qt Pt]=.ok (.int ns.length) [.ro (ns.map W.int),.tab qt Pt]:=by
  rw[X4 (Xc (w:=.ref 0) (A1:=[.ro (ns.map W.int),.tab qt Pt]) (zw rfl) p)];unfold y0;rw[aC]
 have em:zh KS zy (zh Zd (mQ y0 (kJ zC)) Qf) [some (.ref 0),none,none,none,none,none,none,none,none,none,none,none,none] [.ro (ns.map W.int),.tab qt Pt]=
   .ok (.int (if (if (6:Int)<ns.length then 6 else(ns.length:Int)) > 1 then(if (6:Int)<ns.length then 6 else(ns.length:Int)) else 1)) [.ro (ns.map W.int),.tab qt Pt]:=
  (zL (qx (w:=.int 1)) ((zL E (qx (w:=.int 6))).trans rfl)).trans rfl
 generalize hv:(if (if (6:Int)<ns.length then 6 else(ns.length:Int)) > 1 then(if (6:Int)<ns.length then 6 else(ns.length:Int)) else 1)=v at em;have H:yz v=true:=by
  have:0<=v/\v<1000:=by
   rw[<- hv]
   split<;>split<;>omega
  obtain⟨k,rfl⟩:=Int.eq_ofNat_of_zero_le this.1;exact wD (by omega)
 obtain⟨n,B,e,_,_,c,b,a,Y,y,y6,y7,y8,y9,y10,y11,y12,h⟩:=gS (j:=jE 0 v.toNat) (st:=turn (qh 1) (BL Pt PF)) (N:=v.toNat) (I:=λ_ ρ B=>B[0]? =some (.ro (ns.map W.int))/\B[1]? =some (.tab qt Pt)/\∃c b a Y y y6 y7 y8 y9 y10 y11 y12,ρ=[some (.ref 0),c,b,a,Y,y,y6,y7,y8,y9,y10,y11,y12])
  (λi ρ B q ⟨h0,h1,c,b,a,Y,y,y6,y7,y8,y9,y10,y11,y12,h⟩=>by
   subst h;obtain⟨K,J,D,C,A,x,u,t,o,Z,z,r,e,f,d⟩:=Rk (k:=i) (PF:=PF) (x2:=b) (x3:=a) (x4:=Y) (x5:=y) (x6:=y6) (x7:=y7) (x8:=y8) (x9:=y9) (x10:=y10) (x11:=y11) (x12:=y12) h0 h1;refine⟨_,_,r,wL q,(kz (ρ1:=[some (.ref 0),some (.int (i:Int)),b,a,Y,y,y6,y7,y8,y9,y10,y11,y12]) ?_).trans e,f,d,_,_,_,_,_,_,_,_,_,_,_,_,rfl⟩;rw[Int.zero_add];rfl)
  (λρ B _=>wJ (by omega)) v.toNat 0 [some (.ref 0),none,none,none,none,none,none,none,none,none,none,none,none] [.ro (ns.map W.int),.tab qt Pt] (by omega) ⟨rfl,rfl,_,_,_,_,_,_,_,_,_,_,_,_,rfl⟩
 subst h;refine⟨B,yB ?_⟩;unfold KZ;have g:=Kg (many:=3) (s:=1) (one:=0) (other:=0) (third:=0) (by decide) (by decide) (by decide) (by decide) (by decide) (by decide) (by decide) B
 have l:=Kg (many:=3) (s:=1) (one:=0) (other:=0) (third:=1) (by decide) (by decide) (by decide) (by decide) (by decide) (by decide) (by decide) B
 rw[Lj]at g;rw[La]at l;have k1:zh jc (zF yU (zc jR (zc zy (zc zG (zc zG (zc zG zl)))))) zy [some (.ref 0),c,b,a,Y,y,y6,y7,y8,y9,y10,y11,y12] B=.ok (.bl true) B:=(zL ((qQ (qp qx (qp qx (qp qx (qp qx (qp qx jN)))))).trans g) (qx (w:=.int 1))).trans (Qg _ _ _);have k0:zh jc (zF yU (zc jR (zc zy (zc zG (zc zG (zc zy zl)))))) zG [some (.ref 0),c,b,a,Y,y,y6,y7,y8,y9,y10,y11,y12] B=.ok (.bl true) B:=(zL ((qQ (qp qx (qp qx (qp qx (qp qx (qp qx jN)))))).trans l) (qx (w:=.int 0))).trans (Qg _ _ _);exact(zK ((kC (wG em H)).trans e)).trans (jO (yy ((yf k1).trans k0)))
section
variable {K:Frag}
def OJ (Z:Zz K h mg)(F:yJ K "law" "law" k9 f fd)(hn:nsIn K mainGlobals "law"=some (some (.ref f)))(H:tabIn K "law"=some (c,Pt))(a:BMain mg base)(C:CodeHd base c Pt):jJ P w K mg base kg 7 f fd ["_law_script"] (spT K 1 (K1 Pt)):=
 o_law (k:=6) (j:=4) (kk:=6) Z.B F hn H a C (V1 Z).up (VQ Z).up (Uq Z).up (Uj Z).up (Um Z).up (V6 Z).up (by decide)
  (NH (k:=4) Z.B (λbase=>(WD Z).up)) (λbase PG L=>(Ua Z L).imp λus A _=>O0 us A)
def all_mk {l:PySem.W.OpenLaw}{i:Addr}(X:K.In h)(Gl:h.Ns mainGlobals mg)(b:mg "law"=some (.ref i))(T:Tx K)(H:∃c,tabIn K "law"=some (c,Pt)/\codeHdIn K c Pt=true):
  ∃fd:FuncData,(∀(s:Shared)(v:Value),BindsTo s fd ⟨[v],[]⟩ [("_law_script",v)])/\∀base:Heap,K.In base->base.Ns mainGlobals mg->BMain mg base->jJ l.prog w K mg base kg 7 i fd ["_law_script"] (spT K 1 (K1 Pt)):=by
 obtain⟨c,H,d⟩:=H;obtain⟨f,fd,F,a⟩:=T.Mb;have e:=b.symm.trans (a3 X Gl a);cases e;obtain⟨n,j,kV,doc,pm,an,C,ct,o,rfl,lk,g⟩:=id F.ex;exact⟨_,λs v=>.of_eq rfl,λbase k nb B=>OJ (zz X Gl T) F a H B (codeHd_of_K k d)⟩
end
end G
namespace PySem.W.Fast
def tw1113434180229793550:Nat:=0
def tw15988778496871506358:Nat:=0
def tw14028201817962147267:Nat:=0
def tw5020516984511487991:Nat:=0
def tw10837053620373513968:Nat:=0
def tw8310460027722080251:Nat:=0
def tw1207989986642797596:Nat:=0
def tw13013090960328739122:Nat:=0
def tw4215697234507310076:Nat:=0
def tw6596534235983926054:Nat:=0
def tw1257059298623676896:Nat:=0
def tw10100064187754851052:Nat:=0
def tw1336506970993149358:Nat:=0
def tw8407545063183129766:Nat:=0
def tw17191847081248103182:Nat:=0
def tw9922100468075199325:Nat:=0
def tw227351826190339694:Nat:=0
def tw10294777231928974539:Nat:=0
def tw16895507861748083825:Nat:=0
def tw3626261821566786793:Nat:=0
def tw12461364846643011690:Nat:=0
def tw4321123559665822804:Nat:=0
def tw13754714067270414222:Nat:=0
def tw17957782663789370738:Nat:=0
def tw12644047915773408153:Nat:=0
def tw16166275867446336459:Nat:=0
def tw2913784437737289457:Nat:=0
def tw15174196663148023852:Nat:=0
def tw11534674296865709788:Nat:=0
def tw17818012011221725616:Nat:=0
def tw17153715202676721466:Nat:=0
def tw2022610985582098051:Nat:=0
def tw10279654618452830963:Nat:=0
def tw9047007559867912869:Nat:=0
def tw7718738642472110382:Nat:=0
def tw17052432473099456473:Nat:=0
def tw10714085511446191439:Nat:=0
def tw2042475666024536739:Nat:=0
def tw13137968685019684006:Nat:=0
def tw9925251916728505580:Nat:=0
def tw9562547745505745006:Nat:=0
def tw14050155489505940011:Nat:=0
def tw17922229241467053675:Nat:=0
def tw3170420845537696866:Nat:=0
def tw1683316378078059460:Nat:=0
def tw10419419511156196896:Nat:=0
end PySem.W.Fast
open PySem PySem.W PyProof.Rows
set_option maxRecDepth 100000 in
set_option maxHeartbeats 0 in
theorem PySem.Challenge.cw_nearkinds_k61_words_by_rule_holds : PySem.Challenge.rw_nearkinds_k61_words_by_rule.Holds := by
 w_on;o_law;k_head;(case hw=>w_witness2)
 k_fill
 refine' Mi.NP (l:=PySem.Challenge.rw_nearkinds_k61_words_by_rule) (k:=7) (x := "_law_script") G.TM rfl rfl ⟨rfl,by decide,by decide⟩ (λw h Y=>PySem.W.km_in_of Y) (λw h Y=>PySem.W.km_tabs_of Y _ (aF ..)) ?ht ?hKP ?F
 case ht=>exact λp=>by kernel_rfl
 case hKP=>exact λp=>by kernel_rfl
 case F=>
  intro w mg fa h KX Gl hmg ht;have T:G.Tx (L2.Vp KX):=by
   dsimp only [L2.Vp]
   apply G.Tx.mk<;>first | (refine' Mi.N1 ?a ?l ?c ?k;(case a=>k_is);(case l=>k_is);(case c=>k_is);(case k=>k_is)) | (refine' Mi.N7 ?a;(case a=>k_is)) | k_is|kernel_rfl
  exact G.all_mk KX Gl hmg T ht
