import PyProof.Rows.All
import Wide.All
import OpenK.AllK
import Wide.FinOn
import Lean
import PyProof.EqAt
import PyProof.EqKinds
import PyProof.TupleCall
import OpenK.KOwn
import PyProof.Rows.FStr
import PyProof.FString
import PyProof.NsDelKeeps
import KE.KIsAll
import PyProof.ExcArgs
import KE.KLam
import KE.KNestM
import PyProof.Rows.SetFrom
import PyProof.ListMulRoad
import PyProof.FactsAll.set_1
import PyProof.FactsAll.set_2
import PyProof.CollectIter
import PyProof.TupleIter
import PyProof.CollectWalk
import PyProof.Rows.SortShell
import PyProof.SumAny
import PyProof.ListOps
import KE.KDictList
import PyProof.NoPylong
import KE.KUnpack
import KE.KSortTup
import PySem.Challenge.RW_nearkinds_k90_texts_of_tables
noncomputable section
open PySem.W (Frag)
open List (all_eq_true any_cons drop_length ext_getElem? forIn_cons forIn_nil length_nil length_set lookup_cons map_id mem_cons mem_filter mem_of_getElem? nil_append not_mem_nil of_mem_zip range'_succ range_eq_range' range_succ take_length)
open Nat (le_add_right le_succ lt_trans zero_le)
open Int (emod_nonneg zero_add)
open Bool (not_eq_true')
open Option (any_eq_true)
open Array (toList_append)
open PySem.W (CodeHd callWith_K cellsFrom_some codeHdIn codeHd_of_K codeIn envX fnOf hideAll hideAll_none hideAll_size instObj keepIn kitAny kitOne kitx_bool kitx_dict kitx_float kitx_int kitx_list kitx_none kitx_str kitx_tuple kla_fn kla_obj lookIn methodObj nsIn of_hideAll plainGet tabIn tabObj)
open PySem.F (args_tuple_add_2 entry_tuple_add plain_sum_loop slot_set_iter slot_tuple_add)
abbrev aa:=@List.getElem?_eq_getElem
abbrev ae:=@List.getD_eq_getElem?_getD
abbrev af:=@PySem.Heap.get?_push_of_some
abbrev ag:=@List.getElem?_append_left
abbrev ah:=@if_pos
abbrev ai:=@List.mem_cons_of_mem
abbrev aj:=@List.length_map
abbrev ak:=@decide_eq_true_iff
abbrev ao:=@PySem.Heap.get?_push_size
abbrev aq:=@Bool.and_eq_true
abbrev ar:=@if_neg
abbrev au:=@List.getElem?_append_right
abbrev av:=@List.getElem?_map
abbrev aw:=@Nat.le_refl
abbrev ax:=@List.mem_cons_self
abbrev ay:=@Bool.false_ne_true
abbrev az:=@Option.some.inj
abbrev aA:=@Nat.lt_of_lt_of_le
abbrev aB:=@PySem.Heap.lt_size
abbrev aC:=@decide_eq_true
abbrev aD:=@List.size_toArray
abbrev aE:=@List.getElem?_set_self
abbrev aF:=@List.getElem?_set_ne
abbrev aG:=@List.length_append
abbrev aH:=@List.getElem?_eq_none
abbrev aI:=@Nat.ne_of_lt
abbrev aJ:=@beq_iff_eq
abbrev aK:=@decide_eq_false
abbrev aL:=@Int.toNat_natCast
abbrev aM:=@Array.length_toList
abbrev aN:=@List.append_assoc
abbrev aO:=@List.getElem_mem
abbrev aP:=@List.map_map
abbrev aQ:=@PySem.W.mg_none_of
abbrev aR:=@List.flatten_cons
abbrev aS:=@PySem.Heap.get?_update_other
abbrev aT:=@Nat.lt_irrefl
abbrev aU:=@List.mem_append_right
abbrev aV:=@List.map_cons
abbrev aW:=@PySem.Heap.get?_update_self
abbrev aX:=@Int.eq_ofNat_of_zero_le
abbrev aY:=@Nat.lt_succ_of_lt
abbrev aZ:=@Bool.false_eq_true
abbrev a3:=@PySem.W.mg_of
abbrev a5:=@PySem.Heap.size_push
abbrev a6:=@List.getElem?_range
abbrev a7:=@beq_self_eq_true
abbrev a8:=@Nat.le_trans
abbrev a9:=@List.replicate_succ
abbrev ba:=@List.map_append
abbrev bb:=@List.filterMap_cons
abbrev bc:=@Nat.lt_succ_self
abbrev bf:=@List.length_singleton
abbrev bg:=@Nat.le_of_lt
abbrev bh:=@Array.getElem?_toList
abbrev bj:=@List.getElem?_replicate
abbrev bo:=@List.append_nil
abbrev bp:=@List.length_cons
abbrev bq:=@Nat.ne_of_gt
abbrev br:=@PySem.W.kia_one
abbrev bt:=@List.length_replicate
abbrev bw:=@List.length_take
abbrev bx:=@Int.toNat_of_nonneg
abbrev bz:=@PySem.W.hideAll_get
abbrev bA:=@List.length_range
abbrev bB:=@Int.emod_lt_of_pos
abbrev bC:=@Bool.or_eq_true
abbrev bD:=@List.map_congr_left
abbrev bE:=@List.getElem_of_mem
abbrev bF:=@List.ext_getElem
abbrev bG:=List (List Int)
abbrev bH:=List Int
abbrev bI:=List PySem.Value
abbrev bJ:=List PySem.Addr
abbrev bK:=List (PySem.Addr×PySem.Obj)
abbrev bL:=List Nat
abbrev bM:=List PySem.Str
abbrev bN:=PySem.Value->PySem.Shared->Prop
abbrev bO:=List PySem.Expr
abbrev bP:=PySem.Str->Option PySem.Value
abbrev bQ:=List PySem.Env
abbrev bR:=List (PySem.Str×PySem.Addr)
abbrev bS:=List PySem.Keyword
abbrev bT:=Option PySem.Addr
abbrev bU:=List PySem.Stmt
abbrev bV:=@PySem.wpAny_bind
abbrev bW:=@PySem.wpAny_pure
abbrev bY:=@List.getElem?_eq_some_iff
abbrev bX:=@List.mem_cons
abbrev b9:=@List.all_eq_true
abbrev b8:=@List.mem_range
abbrev bZ:=@List.mem_map
abbrev cb:=@List.mem_singleton
set_option Elab.async false
set_option linter.all false
set_option maxRecDepth 1000000
set_option maxHeartbeats 4000000
variable {XP:(PySem.Str->Option PySem.Value)->PySem.Heap->Prop}{D Pt a b c f:PySem.Addr}{osl:Array (Option PySem.Value)}{led:Bool}{op:PySem.CmpOp}{env:PySem.Env}{e elt tg:PySem.Expr}{fd:PySem.FuncData}{base h:PySem.Heap}{pins:List (PySem.Addr×PySem.Obj)}{es:List (Int×PySem.Value)}{t:bG}{cells:List (PySem.Str×PySem.Addr)}{fp φ:List PySem.Addr}{gens gs:List PySem.Comprehension}{elts ifs:List PySem.Expr}{ns:bH}{cap:bL}{body:List PySem.Stmt}{N ps:List PySem.Str}{its us:List PySem.Value}{M:PySem.Model}{i j k kk n t':Nat}{μ:Nat->Nat->Int}{apos cpos p pos tpos:PySem.Pos}{P:PySem.Program}{sc scope:PySem.Scope}{s s':PySem.Shared}{qual x:PySem.Str}{mg:PySem.Str->Option PySem.Value}{α:Type}{u:PySem.Value}{E Q:PySem.Value->PySem.Shared->Prop}{w:PySem.World}
namespace L2
open PySem PySem.Spec PyProof.Rows
noncomputable abbrev Key:=Sum Int Str
noncomputable def U2:Key->Value->Bool
 |.inl k,v=>Value.isInt k v|.inr x,v=>Value.isStrOf x v
noncomputable def E2 (w:World):Key->Int
 |.inl k=>hashInt k|.inr x=>hashStr w x
theorem gm:∀{k:Key}{v:Value},U2 k v=true->(∃i t,k=Sum.inl i/\v=Value.int i t)∨(∃x t,k=Sum.inr x/\v=Value.str x t)
 |.inl i,v,h=>by
  obtain⟨t,e⟩:=Value.isInt_shape (k:=i) (v:=v) h;exact .inl ⟨i,t,rfl,e⟩
 |.inr x,v,h=>by
  obtain⟨t,e⟩:=Value.isStrOf_shape (x:=x) (v:=v) h;exact .inr ⟨x,t,rfl,e⟩
def HY (a b:Int):decide ((Sum.inl a:Key)=Sum.inl b)=(a==b):=by
 by_cases e:a=b
 ·subst e;simp
 ·have h:¬(Sum.inl a:Key)=Sum.inl b:=λq=>e (Sum.inl.inj q)
  rw[aK h];exact(beq_eq_false_iff_ne.mpr e).symm
def Hy (a b:Str):decide ((Sum.inr a:Key)=Sum.inr b)=decide (a=b):=by
 by_cases e:a=b
 ·subst e;simp
 ·have h:¬(Sum.inr a:Key)=Sum.inr b:=λq=>e (Sum.inr.inj q)
  rw[aK h,aK e]
def HB (a:Int)(b:Str):decide ((Sum.inl a:Key)=Sum.inr b)=false:=aK (λq=>nomatch q)
def Iv (a:Str)(b:Int):decide ((Sum.inr a:Key)=Sum.inl b)=false:=aK (λq=>nomatch q)
def V5 (prog:Program)(w:World):PySem.KeyKind prog w Key where
 is:=U2
 hash:=E2 w
 inj:=λv a b f c=>by
  rcases gm f with ⟨i,t,rfl,rfl⟩|⟨x,t,rfl,rfl⟩
  ·rcases gm c with ⟨j,u,rfl,e⟩|⟨y,u,rfl,e⟩
   ·injection e with E _;rw[E]
   ·exact nomatch e
  ·rcases gm c with ⟨j,u,rfl,e⟩|⟨y,u,rfl,e⟩
   ·exact nomatch e
   ·injection e with E _;rw[E]
 byValue:=λk v h=>by
  rcases gm h with ⟨i,t,rfl,rfl⟩|⟨x,t,rfl,rfl⟩<;>rfl
 pyHash:=λH h=>by
  rcases gm H with ⟨i,t,rfl,rfl⟩|⟨x,t,rfl,rfl⟩
  ·exact wpAny_pyHash_int h
  ·exact wpAny_pyHash_str h
 eqBool:=λd H h=>by
  rcases gm d with ⟨i,t,rfl,rfl⟩|⟨x,t,rfl,rfl⟩
  ·rcases gm H with ⟨j,u,rfl,rfl⟩|⟨y,u,rfl,rfl⟩
   ·rw[HY]at h;exact wpAny_eqBool_int h
   ·rw[HB]at h;exact SeqAt.EqAt.int_str i t y u _ _ _ _ h
  ·rcases gm H with ⟨j,u,rfl,rfl⟩|⟨y,u,rfl,rfl⟩
   ·rw[Iv]at h;exact SeqAt.EqAt.str_int x t j u _ _ _ _ h
   ·rw[Hy]at h;exact wpAny_eqBool_str h
 «strs»:=λk x t v h=>by
  rcases gm h with ⟨i,u,rfl,e⟩|⟨y,u,rfl,e⟩
  ·exact nomatch e
  ·injection e with E _
   subst E;cases v<;>rfl
inductive V where
 |non|bl (b:Bool)|int (i:Int)|str (x:Str)|byt (b:Array UInt8)|flt (b:UInt64)|ref (a:Addr)|ty (n:String)
 deriving DecidableEq
noncomputable def RelV:V->Value->Prop
 |.non,u=>u=Value.none|.bl b,u=>u=Value.bool b|.int i,u=>∃t,u=Value.int i t|.str x,u=>∃t,u=Value.str x t|.byt b,u=>∃t,u=Value.bytes b t|.flt b,u=>∃t,u=Value.float b t|.ref a,u=>u=Value.ref a|.ty n,u=>u=Value.type n
abbrev Vals:List V->List Value->Prop:=Paired RelV
theorem Vals.length {xs:List V}(r:Vals xs us):xs.length=us.length:=Paired.length r
theorem Vals.get:∀{xs:List V}{us:bI}{i:Nat}{x:V},Vals xs us->xs[i]? =some x->∃u,us[i]? =some u/\RelV x u
 |_,_,_,_,.nil,e=>by simp at e|_,_,0,_,.cons r _,e=>by simp at e;subst e;exact⟨_,rfl,r⟩|_,_,i+1,x,.cons _ t,e=>by
  obtain⟨u,H,h⟩:=Vals.get (i:=i) (x:=x) t (by simpa using e)
  exact⟨u,by simpa using H,h⟩
theorem Vals.set {x:V}(r:RelV x u):∀{xs:List V}{us:bI}(i:Nat),Vals xs us->Vals (xs.set i x) (us.set i u)
 |_,_,_,.nil=>.nil|_,_,0,.cons _ t=>.cons r t|_,_,i+1,.cons q t=>.cons q (Vals.set r i t)
theorem Vals.append:∀{xs ys:List V}{us ws:bI},Vals xs us->Vals ys ws->Vals (xs++ys) (us++ws)
 |_,_,_,_,.nil,s=>s|_,_,_,_,.cons r t,s=>.cons r (Vals.append t s)
def Vals.none_of:∀{xs:List V}{us:bI}{i:Nat},Vals xs us->xs[i]? =none->us[i]? =none:=λ {xs us i} r e=>by
 have H:=r.length;have h:xs.length<=i:=List.getElem?_eq_none_iff.mp e;exact List.getElem?_eq_none_iff.mpr (by omega)
def W9:Option V->Option Value->Prop
 |some v,some u=>RelV v u|none,none=>True|_,_=>False
def KV {κ:Type}:List (κ×V)->List (κ×Value)->Prop:=Paired λ(p:κ×V) (q:κ×Value)=>p.1=q.1/\RelV p.2 q.2
noncomputable def kV:Key->V
 |.inl i=>.int i|.inr x=>.str x
inductive HO where
 |lst (xs:List V)
 |tup (xs:List V)
 |dK (kvs:List (Key×V))|dT (kvs:List (List Key×V))
 |set (S:Int->Bool) (n:Nat)
 |ins (C dx:Addr) (fs:List (Str×V))
 |own (x:Addr)
 |xd (fs:List (Str×V))
 |met (f x:Addr)
 |rng (lo hi:Int)
 |frz (o:Obj) (u:HO)
 |tbl (ps:Array Value)
 |ext (φ:Heap->Prop)
noncomputable abbrev Hp:=Addr->Option HO
noncomputable def upd (H:Hp)(a:Addr)(o:HO):Hp:=λb=>if b=a then some o else H b
def ju {H:Hp}{o:HO}:upd H a o a=some o:=by unfold upd;rw[ah rfl]
def z7 {H:Hp}{o:HO}(h:b≠a):upd H a o b=H b:=by unfold upd;rw[ar h]
def Q8 {H:Hp}{o u:HO}(h:H a=some o)(h':H b=some u)(d:o≠u):a≠b:=by
 intro e;subst e;rw[h]at h';exact d (az h')
def yK {H:Hp}{o:HO}(h:H a=some o)(h':H b=none):a≠b:=by
 intro e;subst e;rw[h]at h';cases h'
def Zy (h:Heap)(a:Addr)(items:Array Value):Prop:=∃o,h.get? a=some o/\(o.cls=.type "tuple" /\ o.dict=none)/\∃n,o.data=.seq items n
def Zy.tup {h:Heap}{a:Addr}{items:Array Value}(x:Zy h a items):IsTup h a items:=let ⟨o,e,c,d⟩:=x;⟨o,e,c.1,d⟩
def Zy.new (h:Heap)(items:Array Value):Zy (h.push { cls:=.type "tuple",data:=.seq items }) h.objs.size items:=⟨_,ao h rfl,⟨rfl,rfl⟩,0,rfl⟩
section
variable (P:Program)(w:World)
def qQ (H:Hp)(h:Heap)(a:Addr):HO->Prop
 |.lst xs=>xs.length<=sizeLine/\∃(its:bI) (n:Nat),Vals xs its/\h.get? a=some { cls:=.type "list",data:=.seq its.toArray n }
 |.tup xs=>xs.length<=sizeLine/\∃its:bI,Vals xs its/\Zy h a its.toArray|.dK k=>k.length<=sizeLine/\(a==sysModules)=false/\∃vs,KV k vs/\h.DictOf (V5 P w) a vs|.dT k=>k.length<=sizeLine/\(a==sysModules)=false/\∃xs:List (List Key×Addr×Value),
   Paired (λ(p:List Key×V) (q:List Key×Addr×Value)=>p.1=q.1/\H q.2.1=some (.tup (p.1.map kV))/\RelV p.2 q.2.2) k xs/\
   ∃o e E,h.get? a=some o/\o.ExactDict/\o.data=.dict e E/\e.toList=xs.map (entryOfKey (tupleKind (V5 P w)))/\(xs.map (·.1)).Nodup
 |.set S n=>h.SetOf (intKind P w) a S n|.ins C d fs=>H d=some (.own a)/\fs.length<=1000/\d≠a/\h.get? a=some (instObj C d)/\
   ∃M,h.Ns1 d M/\(∀f,W9 (fs.lookup f) (M f))/\PySem.Within M (fs.map (·.1))
 |.own _=>∃o,h.get? a=some o|.xd fs=>∃M,h.Ns1 a M/\∀f,W9 (fs.lookup f) (M f)|.rng lo i=>∃t u v,h.get? a=some { cls:=.type "range",data:=.fields #[.int lo t,.int i u,.int 1 v] }
 |.frz o u=>h.get? a=some o/\qQ H h a u|.tbl ps=>h.get? a=some { cls:=.none,data:=.fields ps }|.met f x=>h.get? a=some (methodObj (.ref f) (.ref x))|.ext φ=>φ h/\(∃o,h.get? a=some o)/\∀c b:Heap,φ c->(∀o,c.get? a=some o->b.get? a=some o)->φ b
def jK (H:Hp)(h:Heap):Prop:=∀a o,H a=some o->qQ P w H h a o
end
section
variable {H H':Hp}{h':Heap}{o:HO}
theorem qQ.lt (x:qQ P w H h a o):a<h.objs.size:=by
 cases o with
 |lst xs=>obtain⟨_,_,_,_,e⟩:=x;exact aB e|tup xs=>obtain⟨_,_,_,p⟩:=x;exact p.tup.lt|dK k=>obtain⟨_,_,_,_,o,_,_,e,_⟩:=x;exact aB e|dT k=>obtain⟨_,_,_,_,o,_,_,e,_⟩:=x;exact aB e|set S n=>obtain⟨o,_,_,_,e,_⟩:=x;exact aB e|ins C d fs=>obtain⟨_,_,_,e,_⟩:=x;exact aB e|own y=>obtain⟨_,e⟩:=x;exact aB e|xd fs=>obtain⟨_,⟨_,_,_,e,_⟩,_⟩:=x;exact aB e|rng lo i=>obtain⟨_,_,_,e⟩:=x;exact aB e|frz ob u=>obtain⟨e,_⟩:=x;exact aB e|tbl ps=>exact aB (show h.get? a=some _ from x)|met f y=>exact aB (show h.get? a=some _ from x)|ext φ=>obtain⟨_,⟨_,e⟩,_⟩:=x;exact aB e
theorem Paired.mapP {β:Type}{F G:α->β->Prop}:∀{L:List α}{l:List β},Paired F L l->(∀a b,F a b->G a b)->Paired G L l
 |_,_,.nil,_=>.nil|_,_,.cons r t,f=>.cons (f _ _ r) (Paired.mapP t f)
def qQ.stay (x:qQ P w H h a o)(k:∀b u,(b=a∨H b=some (.own a))->h.get? b=some u->h'.get? b=some u)
  (s:∀b,H b=some (.own a)->H' b=some (.own a))(l:∀b xs,H b=some (.tup xs)->H' b=some (.tup xs)):qQ P w H' h' a o:=by
 induction o with
 |lst xs=>obtain⟨z,i,n,r,e⟩:=x;exact⟨z,i,n,r,k _ _ (.inl rfl) e⟩|tup xs=>obtain⟨z,i,r,ob,e,c⟩:=x;exact⟨z,i,r,ob,k _ _ (.inl rfl) e,c⟩|dK K=>obtain⟨z,y,vs,r,ob,E,g,e,c⟩:=x;exact⟨z,y,vs,r,ob,E,g,k _ _ (.inl rfl) e,c⟩|dT K=>
  obtain⟨z,y,xs,r,ob,E,g,e,c⟩:=x;exact⟨z,y,xs,Paired.mapP r λp q z=>⟨z.1,l _ _ z.2.1,z.2.2⟩,ob,E,g,k _ _ (.inl rfl) e,c⟩
 |set S n=>obtain⟨ob,E,g,t,e,c⟩:=x;exact⟨ob,E,g,t,k _ _ (.inl rfl) e,c⟩|ins C D fs=>
  obtain⟨d,z,ne,e,M,⟨j,E,g,A,c⟩,r⟩:=x;exact⟨s _ d,z,ne,k _ _ (.inl rfl) e,M,⟨j,E,g,k _ _ (.inr d) A,c⟩,r⟩
 |own y=>obtain⟨ob,e⟩:=x;exact⟨ob,k _ _ (.inl rfl) e⟩|xd fs=>obtain⟨M,⟨j,E,g,e,c⟩,r⟩:=x;exact⟨M,⟨j,E,g,k _ _ (.inl rfl) e,c⟩,r⟩|rng lo B=>obtain⟨t,u,v,e⟩:=x;exact⟨t,u,v,k _ _ (.inl rfl) e⟩|frz ob u I=>obtain⟨e,q⟩:=x;exact⟨k _ _ (.inl rfl) e,I q⟩|tbl ps=>
  have e:h.get? a=some { cls:=.none,data:=.fields ps }:=x;show h'.get? a=some { cls:=.none,data:=.fields ps };exact k a _ (.inl rfl) e
 |met f y=>
  have e:h.get? a=some (methodObj (.ref f) (.ref y)):=x;show h'.get? a=some (methodObj (.ref f) (.ref y));exact k a _ (.inl rfl) e
 |ext φ=>obtain⟨p,⟨o,e⟩,st⟩:=x;exact⟨st _ _ p λo q=>k _ _ (.inl rfl) q,⟨o,k _ _ (.inl rfl) e⟩,st⟩
theorem jK.lt (x:jK P w H h)(e:H a=some o):a<h.objs.size:=(x a o e).lt
def jK.fresh (x:jK P w H h)(e:h.objs.size<=a):H a=none:=by
 cases q:H a with
 |none=>rfl|some u=>exact absurd (aA (x.lt q) e) (aT _)
def jK.kept (x:jK P w H h)(k:∀b u,h.get? b=some u->h'.get? b=some u):jK P w H h':=λa o e=>
 (x a o e).stay (λb u _ q=>k b u q) (λ_ q=>q) λ_ _ q=>q
def jK.laid (x:jK P w H h)(k:∀b u,h.get? b=some u->h'.get? b=some u)(p:h.objs.size<=a)(new:qQ P w (upd H a o) h' a o):jK P w (upd H a o) h':=λb u e=>by
 have hn:=x.fresh p
 by_cases d:b=a
 ·subst d;rw[ju]at e;cases e;exact new
 ·rw[z7 d]at e
  exact(x b u e).stay (λc v _ q=>k c v q) (λc q=>by rw[z7 (yK q hn)];exact q) λc xs q=>by rw[z7 (yK q hn)];exact q
end
def Rd (H:Hp)(a:Addr)(u:HO):Prop:=H a=some u∨∃o,H a=some (.frz o u)
def Rd.ok {H:Hp}{u:HO}(r:Rd H a u)(x:jK P w H h):qQ P w H h a u:=by
 rcases r with r|⟨o,r⟩
 ·exact x a u r
 ·obtain⟨_,q⟩:=x a _ r
  exact q
noncomputable def Y2:Option HO->Prop
 |some (.lst _)=>True|some (.dK _)=>True|some (.dT _)=>True|some (.set _ _)=>True|some (.ins _ _ _)=>True|some (.ext _)=>True|_=>False
section
variable {H:Hp}{h':Heap}{x e:Addr}{o':HO}
def jK.write (ok:jK P w H h)(M:Y2 (H x))(he:e=x∨H e=some (.own x))(k:∀b u,b≠e->h.get? b=some u->h'.get? b=some u)(o:∃u,h'.get? e=some u)
  (new:qQ P w (upd H x o') h' x o'):jK P w (upd H x o') h':=λb u q=>by
 have n:∀c y,H c=some (.own y)->c≠x:=λc y r z=>by subst z;rw[r]at M;exact M
 have N:∀c xs,H c=some (.tup xs)->c≠x:=λc xs r z=>by subst z;rw[r]at M;exact M
 by_cases f:b=x
 ·subst f;rw[ju]at q;cases q;exact new
 ·rw[z7 f]at q
  by_cases a:b=e
  ·have Q:H b=some (.own x):=by
    rcases he with z|z
    ·exact absurd (a.trans z) f
    ·rw[a];exact z
   rw[q]at Q;cases Q;obtain⟨v,g⟩:=o;exact⟨v,by rw[a];exact g⟩
  ·refine(ok b u q).stay (λc v d r=>k c v ?_ r) (λc r=>by rw[z7 (n c b r)];exact r) λc xs r=>by rw[z7 (N c xs r)];exact r
   rcases d with rfl|d
   ·exact a
   ·rintro rfl
    rcases he with z|z
    ·exact n c b d z
    ·rw[d]at z;cases z;exact f rfl
end
structure Un (fs ex:bJ)(H H':Hp)(h h':Heap):Prop where
 keep:∀b o,h.get? b=some o->H b=none->b∉fs->b∉ex->h'.get? b=some o
 slot:∀b o,h.get? b=some o->H b=none->b∈fs->b∉ex->∃sl,h'.get? b=some { o with slots:=sl }
 free:∀b o,h.get? b=some o->H b=none->b∉ex->H' b=none
 there:∀b o,h.get? b=some o->b∉ex->∃o',h'.get? b=some o'
 tups:∀b xs,H b=some (.tup xs)->H' b=some (.tup xs)
 frzs:∀b o u,H b=some (.frz o u)->H' b=some (.frz o u)
 tbls:∀b ps,H b=some (.tbl ps)->∃more,H' b=some (.tbl (ps++more))
section
variable {fs ex:bJ}{H H1:Hp}{h1 h':Heap}{x e:Addr}{o:HO}
def Un.any (u:Un fs ex H H1 h h1){ob:Obj}(q:h.get? b=some ob)(n:H b=none)(x:b∉ex):∃s,h1.get? b=some { ob with slots:=s }:=by
 by_cases a:b∈fs
 ·exact u.slot b ob q n a x
 ·exact⟨ob.slots,u.keep b ob q n a x⟩
def Un.kept (k:∀b u,h.get? b=some u->h'.get? b=some u):Un fs ex H H h h':=
 ⟨λb ob q _ _ _=>k b ob q,λb ob q _ _ _=>⟨ob.slots,k b ob q⟩,λ_ _ _ n _=>n,λb ob q _=>⟨ob,k b ob q⟩,λ_ _ q=>q,λ_ _ _ q=>q,λ_ ps q=>⟨#[],by rw[q];simp⟩⟩
def Un.refl:Un fs ex H H h h:=Un.kept λ_ _ q=>q
def Un.laid (k:∀b u,h.get? b=some u->h'.get? b=some u)(p:h.objs.size<=a)(hn:H a=none):Un fs ex H (upd H a o) h h' where
 keep:=λb u q _ _ _=>k b u q
 slot:=λb u q _ _ _=>⟨u.slots,k b u q⟩
 free:=λb u q n _=>by rw[z7 (aI (aA (aB q) p))];exact n
 there:=λb u q _=>⟨u,k b u q⟩
 tups:=λb xs q=>by rw[z7 (yK q hn)];exact q
 frzs:=λb u xs q=>by rw[z7 (yK q hn)];exact q
 tbls:=λb ps q=>⟨#[],by rw[z7 (yK q hn),q];simp⟩
def Un.write (M:Y2 (H x))(he:e=x∨H e=some (.own x))(k:∀b u,b≠e->h.get? b=some u->h'.get? b=some u)(c:∃u,h'.get? e=some u):Un fs ex H (upd H x o) h h':=by
 have d:∀b,H b=none->b≠x:=λb n z=>by subst z;rw[n]at M;exact M
 have f:∀b,H b=none->b≠e:=λb n z=>by
  subst z;rcases he with r|r
  ·exact d b n r
  ·rw[n]at r;cases r
 have hm:∀b u,H b=some u->¬Y2 (some u)->b≠x:=λb u q nm z=>by subst z;rw[q]at M;exact nm M
 refine⟨λb u q n _ _=>k b u (f b n) q,λb u q n _ _=>⟨u.slots,k b u (f b n) q⟩,λb u q n _=>by rw[z7 (d b n)];exact n,λb u q _=>?_,
  λb xs q=>by rw[z7 (hm b _ q λz=>z)];exact q,λb u xs q=>by rw[z7 (hm b _ q λz=>z)];exact q,λb ps q=>⟨#[],by rw[z7 (hm b _ q λz=>z),q];simp⟩⟩
 by_cases a:b=e
 ·subst a;exact c
 ·exact⟨u,k b u a q⟩
end
noncomputable def Y1 (h:Heap)(H:Hp):bJ:=(List.range h.objs.size).filter λa=>(H a).isSome
def w5 (h:Heap)(H:Hp):Heap:=hideAll h (Y1 h H)
def P2 (h:Heap)(H:Hp):(w5 h H).objs.size=h.objs.size:=hideAll_size _ _
def Nn {H:Hp}{o:Obj}(e:h.get? b=some o)(n:H b=none):(w5 h H).get? b=some o:=
 bz _ e λhm=>by
  have q:(H b).isSome=true:=(List.mem_filter.mp hm).2;rw[n]at q;simp at q
def Mm {H:Hp}{o:Obj}(e:(w5 h H).get? b=some o):h.get? b=some o/\H b=none:=by
 have E:h.get? b=some o:=of_hideAll (Y1 h H) e;refine⟨E,?_⟩;cases q:H b with
 |none=>rfl|some x=>
  have hm:b∈Y1 h H:=List.mem_filter.mpr ⟨b8.mpr (aB E),by simp[q]⟩
  have z:(w5 h H).get? b=none:=hideAll_none (Y1 h H) hm;rw[z]at e;cases e
structure Mod (K:Frag)(mg:bP)(base:Heap):Prop where
 kin:K.In base
 glob:base.Ns mainGlobals mg
 blt:∃mb,base.Ns builtinsNs mb/\∀x:Str,x ≠ "__name__" -> mb x=bootBuiltins x
 nolimit:base.NoLimit
structure Cx where
 prog:Program
 w:World
 K:Frag
 mg:Str->Option Value
 base:Heap
 A:Around
 N:bM
 s0:Shared
 H0:Hp
 env:Env
 outer:bQ
 stack:bQ
 ex:bJ
 fn:Str->Bool
 calm:Bool
 pn:bK
 xe:Value->Shared->Prop
noncomputable def qe (l:bQ):bJ:=l.filterMap (·.frame)
abbrev Cx.fs (X:Cx):bJ:=qe X.outer
def YU (sc:Scope)(x:Str):Prop:=sc.names.lookup x=some .local∨sc.names.lookup x=some .cell∨sc.names.lookup x=some .free
def Loc (sc:Scope)(x:Str):Prop:=sc.names.lookup x=some .local∨sc.names.lookup x=some .cell
def Look (env:Env)(h:Heap)(m:bP)(x:Str)(u:Value):Prop:=
 (env.kindOf x=some .local/\m x=some u)∨((env.kindOf x=some .cell∨env.kindOf x=some .free)/\∃c,env.cells.lookup x=some c/\h.IsCell c (some u))
structure Cx.Ok (X:Cx):Prop where
 mod:Mod X.K X.mg X.base
 kind:X.env.scope.kind=.function
 glob:X.env.globals=mainGlobals
 blt:X.env.builtins=builtinsNs
 above:X.s0.heap.objs.size<=X.env.locals
 inj:∀x y c,X.env.cells.lookup x=some c->X.env.cells.lookup y=some c->x=y
 has:∀x,(X.env.kindOf x=some .cell∨X.env.kindOf x=some .free)->∃c,X.env.cells.lookup x=some c
 cab:∀x c,X.fn x=true->X.env.cells.lookup x=some c->X.s0.heap.objs.size<=c
 hd:X.calm=true->X.A.handled=none
 frames:X.A.frames=some X.stack
 stk:X.stack=X.outer∨(X.stack=X.env::X.outer/\X.env.frame=some X.env.locals)
 exf:∀b∈X.ex,b≠X.env.locals/\∀x c,X.env.cells.lookup x=some c->c≠b
 bs:∀b o,X.base.get? b=some o->X.s0.heap.get? b=some o/\X.H0 b=none
 bsz:X.base.objs.size<=X.s0.heap.objs.size
 noex:∀b o,X.base.get? b=some o->b∉X.ex
 exfs:∀b∈X.ex,b∉X.fs
 funs:X.s0.heap.FunFrames X.base X.outer
 frf:∀b∈X.fs,X.H0 b=none
structure Inv (X:Cx)(pins:bK)(σ:List (Option V))(H:Hp)(s:Shared):Prop where
 ok:X.Ok
 os:s.os=X.s0.os
 bare:AllBare s.gens
 base:Un X.fs X.ex X.H0 H X.s0.heap s.heap
 loc:∃m,s.heap.Ns X.env.locals m/\∀(i:Nat)(x:Str)(v:V),X.N[i]? =some x->σ[i]? =some (some v)->YU X.env.scope x->∃u,RelV v u/\Look X.env s.heap m x u
 cell:∀x c,X.env.cells.lookup x=some c->∃v,s.heap.IsCell c v
 free:H X.env.locals=none
 freeC:∀x c,X.env.cells.lookup x=some c->H c=none
 pin:∀p∈X.pn++pins,s.heap.get? p.1=some p.2/\H p.1=none/\p.1≠X.env.locals/\p.1∉X.fs/\∀v,p.2.data≠.cell v
 hok:jK X.prog X.w H s.heap
 len:σ.length=X.N.length
section
variable {X:Cx}{σ:List (Option V)}{H H':Hp}{h':Heap}
def Cx.Ok.nofr (ok:X.Ok){o:Obj}(e:X.base.get? b=some o):b∉X.fs:=λh=>by
 have:=(ok.funs.mem h).1
 rw[e]at this;cases this
theorem Inv.bs (I:Inv X pins σ H s):∀b o,X.base.get? b=some o->s.heap.get? b=some o/\H b=none:=λb o e=>
 ⟨I.base.keep b o (I.ok.bs b o e).1 (I.ok.bs b o e).2 (I.ok.nofr e) (I.ok.noex b o e),I.base.free b o (I.ok.bs b o e).1 (I.ok.bs b o e).2 (I.ok.noex b o e)⟩
def Inv.bk (I:Inv X pins σ H s):∀b o,X.base.get? b=some o->s.heap.get? b=some o:=λb o e=>(I.bs b o e).1
theorem Inv.mod (I:Inv X pins σ H s):Mod X.K X.mg X.base:=I.ok.mod
def Inv.kIn (I:Inv X pins σ H s):X.K.In s.heap:=I.ok.mod.kin.keeps I.bk
theorem Inv.lt (I:Inv X pins σ H s):X.env.locals<s.heap.objs.size:=let ⟨_,hn,_⟩:=I.loc;hn.lt
def Inv.sz (I:Inv X pins σ H s):X.s0.heap.objs.size<=s.heap.objs.size:=a8 I.ok.above (bg I.lt)
def Inv.nofs (I:Inv X pins σ H s)(h:s.heap.objs.size<=a):a∉X.fs:=λc=>by
 obtain⟨_,o,b,_⟩:=I.ok.funs.mem c;exact absurd (aA (aB b) (a8 I.sz h)) (aT _)
def Inv.cne (I:Inv X pins σ H s):∀x c,X.env.cells.lookup x=some c->c≠X.env.locals:=λx c e z=>by
 obtain⟨v,o,b,hd⟩:=I.cell x c e;obtain⟨m,⟨o',E,p,h,a,_⟩,_⟩:=I.loc;rw[z,h]at b;cases b;rw[a]at hd;cases hd
theorem Inv.funs (I:Inv X pins σ H s):s.heap.FunFrames X.base X.outer:=by
 have all:∀(l:bQ),(∀b∈qe l,b∈X.fs)->X.s0.heap.FunFrames X.base l->s.heap.FunFrames X.base l:=by
  intro l
  induction l with
  |nil=>intro _ _;trivial|cons env r i=>
   intro c g;obtain⟨k,⟨L,o,hf,hn,f,hd⟩,d⟩:=g;have a:L∈X.fs:=c L (by unfold qe;rw[bb,hf];exact ax)
   obtain⟨S,e⟩:=I.base.slot L o f (I.ok.frf L a) a λz=>I.ok.exfs L z a;exact⟨k,⟨L,_,hf,hn,e,hd⟩,i (λb h=>c b (by unfold qe;rw[bb,hf];exact ai _ h)) d⟩
 exact all X.outer (λ_ h=>h) I.ok.funs
theorem Inv.stack (I:Inv X pins σ H s):s.heap.FunFrames X.base X.stack:=by
 rcases I.ok.stk with e|⟨e,hf⟩
 ·rw[e];exact I.funs
 ·rw[e]
  obtain⟨m,hn,_⟩:=I.loc;refine .cons (by rw[I.ok.kind];decide) hf hn ?_ I.funs
  exact Heap.get?_none_of_le (a8 I.ok.bsz I.ok.above)
def Inv.stkSub (I:Inv X pins σ H s):∀b∈qe X.stack,b∈X.env.locals::X.fs:=λb h=>by
 rcases I.ok.stk with e|⟨e,hf⟩
 ·rw[e]at h;exact ai _ h
 ·rw[e]at h
  unfold qe at h;rw[bb,hf]at h;exact h
def Inv.stkFree (I:Inv X pins σ H s):∀b∈qe X.stack,H b=none:=λb h=>by
 rcases bX.mp (I.stkSub b h) with e|h
 ·rw[e];exact I.free
 ·obtain⟨_,o,a,_⟩:=I.ok.funs.mem h
  exact I.base.free b o a (I.ok.frf b h) λz=>I.ok.exfs b z h
def Inv.step {g':Array GenState}{d':Drawn}{ch:bJ}(I:Inv X pins σ H s)
  (a:∀b∈ch,(b∈X.ex∨X.s0.heap.objs.size<=b)/\b≠X.env.locals/\(∀x c,X.env.cells.lookup x=some c->c≠b)/\∀p∈X.pn++pins,p.1≠b)
  (keep:∀b o,b≠X.env.locals->b∉X.fs->b∉ch->s.heap.get? b=some o->H b=none->h'.get? b=some o)
  (slot:∀b o,b≠X.env.locals->b∈X.fs->b∉ch->s.heap.get? b=some o->H b=none->∃t,h'.get? b=some { o with slots:=t })(free:∀b o,b∉ch->s.heap.get? b=some o->H b=none->H' b=none)
  (there:∀b o,b∉ch->s.heap.get? b=some o->∃o',h'.get? b=some o')
  (tups:∀b xs,H b=some (.tup xs)->H' b=some (.tup xs))(frzs:∀b o u,H b=some (.frz o u)->H' b=some (.frz o u))(tbls:∀b ps,H b=some (.tbl ps)->∃more,H' b=some (.tbl (ps++more)))
  (ns:∀m,s.heap.Ns X.env.locals m->h'.Ns X.env.locals m)(hok:jK X.prog X.w H' h')(J:AllBare g'):
  Inv X pins σ H' { s with heap:=h',gens:=g',drawn:=d',toks:=t' }:=by
 have Qu:∀b o,X.s0.heap.get? b=some o->b≠X.env.locals:=λb o e=>aI (aA (aB e) I.ok.above);have C:∀b o,X.s0.heap.get? b=some o->b∉X.ex->b∉ch:=λb o e h f=>by
  rcases(a b f).1 with z|z
  ·exact h z
  ·exact absurd (aA (aB e) z) (aT _)
 have cellK:∀x c,X.env.cells.lookup x=some c->∀v,s.heap.IsCell c v->h'.IsCell c v:=λx c e v ⟨o,g,hd⟩=>by
  have N:c∉ch:=λz=>(a c z).2.2.1 x c e rfl
  by_cases B:c∈X.fs
  ·obtain⟨t,q⟩:=slot c o (I.cne x c e) B N g (I.freeC x c e)
   exact⟨_,q,hd⟩
  ·exact⟨o,keep c o (I.cne x c e) B N g (I.freeC x c e),hd⟩
 refine⟨I.ok,I.os,J,⟨λb o e n f h=>?_,λb o e n f h=>?_,λb o e n h=>?_,λb o e h=>?_,λb xs e=>tups b xs (I.base.tups b xs e),λb o xs e=>frzs b o xs (I.base.frzs b o xs e),λb ps e=>?_⟩,?_,λx c e=>?_,?_,λx c e=>?_,λp A=>?_,hok,I.len⟩
 ·exact keep b o (Qu b o e) f (C b o e h) (I.base.keep b o e n f h) (I.base.free b o e n h)
 ·obtain⟨t,E⟩:=I.base.slot b o e n f h
  obtain⟨S,j⟩:=slot b _ (Qu b o e) f (C b o e h) E (I.base.free b o e n h);exact⟨S,j⟩
 ·obtain⟨o',E⟩:=I.base.there b o e h
  exact free b o' (C b o e h) E (I.base.free b o e n h)
 ·obtain⟨o',E⟩:=I.base.there b o e h
  exact there b o' (C b o e h) E
 ·obtain⟨m1,E⟩:=I.base.tbls b ps e
  obtain⟨m2,j⟩:=tbls b _ E;exact⟨m1++m2,by rw[j,Array.append_assoc]⟩
 ·obtain⟨m,hn,D⟩:=I.loc
  refine⟨m,ns m hn,λi x v E j K=>?_⟩;obtain⟨u,r,l⟩:=D i x v E j K;refine⟨u,r,?_⟩;rcases l with l|⟨k,c,e,z⟩
  ·exact .inl l
  ·exact .inr ⟨k,c,e,cellK x c e _ z⟩
 ·obtain⟨v,z⟩:=I.cell x c e
  exact⟨v,cellK x c e v z⟩
 ·obtain⟨m,⟨o,_,_,g,_⟩,_⟩:=I.loc
  exact free _ o (λz=>(a _ z).2.1 rfl) g I.free
 ·obtain⟨v,o,g,hd⟩:=I.cell x c e
  exact free c o (λz=>(a c z).2.2.1 x c e rfl) g (I.freeC x c e)
 ·obtain⟨e,n,ne,y,d⟩:=I.pin p A
  have N:p.1∉ch:=λz=>(a p.1 z).2.2.2 p A rfl;exact⟨keep p.1 p.2 ne y N e n,free p.1 p.2 N e n,ne,y,d⟩
def Inv.un (I:Inv X pins σ H s)(u:Un X.fs [] H H' s.heap h')(hok:jK X.prog X.w H' h'):Inv X pins σ H' { s with heap:=h',toks:=t' }:=by
 obtain⟨m,⟨o,f,p,c,r⟩,_⟩:=id I.loc;obtain⟨S,L⟩:=u.any c I.free (by simp)
 exact I.step (g':=s.gens) (d':=s.drawn) (ch:=[]) (λ_ z=>nomatch z) (λb o _ a _ e n=>u.keep b o e n a (by simp)) (λb o _ a _ e n=>u.slot b o e n a (by simp)) (λb o _ e n=>u.free b o e n (by simp)) (λb o _ e=>u.there b o e (by simp)) u.tups u.frzs u.tbls (λM hm=>by
  obtain⟨o',es',E,h,d⟩:=hm;rw[c]at h;cases h;exact⟨_,es',E,L,d⟩) hok I.bare
def Inv.call {g':Array GenState}{d':Drawn}{ch:bJ}(I:Inv X pins σ H s)(u:Un (qe X.stack) ch H H' s.heap h')(hok:jK X.prog X.w H' h')(i:AllBare g')
  (d:∀b∈ch,(b∈X.ex∨X.s0.heap.objs.size<=b)/\b≠X.env.locals/\(∀x c,X.env.cells.lookup x=some c->c≠b)/\∀p∈X.pn++pins,p.1≠b):
  Inv X pins σ H' { s with heap:=h',gens:=g',drawn:=d',toks:=t' }:=by
 obtain⟨m,⟨o,k,l,f,r⟩,_⟩:=id I.loc;obtain⟨S,L⟩:=u.any f I.free λz=>(d _ z).2.1 rfl;exact I.step (ch:=ch) d (λb o L j h e n=>u.keep b o e n (λz=>(bX.mp (I.stkSub b z)).elim L j) h) (λb o _ _ h e n=>u.any e n h) (λb o h e n=>u.free b o e n h) (λb o h e=>u.there b o e h) u.tups u.frzs u.tbls (λM hm=>by
  obtain⟨o',es',E,a,g⟩:=hm;rw[f]at a;cases a;exact⟨_,es',E,L,g⟩) hok i
def Inv.turned {it:Addr}(I:Inv X pins σ H s)(k:∀b o,b≠it->s.heap.get? b=some o->h'.get? b=some o)(hn:H it=none)(L:it≠X.env.locals)
  (i:it∈X.ex∨X.s0.heap.objs.size<=it)(g:∀x c,X.env.cells.lookup x=some c->c≠it)(f:∀p∈X.pn++pins,p.1≠it):Inv X pins σ H { s with heap:=h',toks:=t' }:=by
 have N:∀b u,H b=some u->b≠it:=λb u e z=>by rw[z,hn]at e;cases e
 refine I.step (g':=s.gens) (d':=s.drawn) (ch:=[it]) (λb d=>?_) (λb o _ _ h e _=>k b o (λz=>h (by simp[z])) e) (λb o _ _ h e _=>⟨o.slots,k b o (λz=>h (by simp[z])) e⟩) (λ_ _ _ _ n=>n)
  (λb o h e=>⟨o,k b o (λz=>h (by simp[z])) e⟩) (λ_ _ e=>e) (λ_ _ _ e=>e) (λb ps e=>⟨#[],by rw[e];simp⟩) (λm hm=>?_) (λb u e=>?_) I.bare
 ·have e:b=it:=by simpa using d
  subst e;exact⟨i,L,g,f⟩
 ·obtain⟨o,E,j,a,r⟩:=hm
  exact⟨o,E,j,k _ o (Ne.symm L) a,r⟩
 ·refine(I.hok b u e).stay (λc v h q=>k c v ?_ q) (λ_ q=>q) λ_ _ q=>q
  rcases h with z|z
  ·rw[z];exact N b u e
  ·exact N c _ z
def Inv.tok (I:Inv X pins σ H s)(t:Nat):Inv X pins σ H { s with toks:=t }:=I.un (h':=s.heap) (t':=t) Un.refl I.hok
theorem Inv.kept (I:Inv X pins σ H s)(k:∀b u,s.heap.get? b=some u->h'.get? b=some u):Inv X pins σ H { s with heap:=h',toks:=t' }:=I.un (Un.kept k) (I.hok.kept k)
theorem Inv.laid {o:HO}(I:Inv X pins σ H s)(k:∀b u,s.heap.get? b=some u->h'.get? b=some u)(h:s.heap.objs.size<=a)(new:qQ X.prog X.w (upd H a o) h' a o):
  Inv X pins σ (upd H a o) { s with heap:=h',toks:=t' }:=I.un (Un.laid k h (I.hok.fresh h)) (I.hok.laid k h new)
theorem Inv.write {x e:Addr}{o:HO}(I:Inv X pins σ H s)(M:Y2 (H x))(he:e=x∨H e=some (.own x))(k:∀b u,b≠e->s.heap.get? b=some u->h'.get? b=some u)(h:∃u,h'.get? e=some u)
  (new:qQ X.prog X.w (upd H x o) h' x o):Inv X pins σ (upd H x o) { s with heap:=h',toks:=t' }:=I.un (Un.write M he k h) (I.hok.write M he k h new)
def Inv.pins_of {P:bK}(I:Inv X pins σ H s)(h:∀p∈P,s.heap.get? p.1=some p.2/\H p.1=none/\p.1≠X.env.locals/\p.1∉X.fs/\∀v,p.2.data≠.cell v):Inv X P σ H s:=
 ⟨I.ok,I.os,I.bare,I.base,I.loc,I.cell,I.free,I.freeC,λp a=>(List.mem_append.mp a).elim (λz=>I.pin p (List.mem_append_left _ z)) (h p),I.hok,I.len⟩
def K9 (h:N.Nodup)(a:N[i]? =some x)(b:N[j]? =some x):i=j:=by
 obtain⟨c,E⟩:=bY.mp a;obtain⟨H,e⟩:=bY.mp b;exact(List.getElem_inj h).mp (E.trans e.symm)
def Vk {A:Around}{v:V}{Q:Unit->Shared->Prop}(I:Inv X pins σ H s)(hN:X.N.Nodup)(U:X.N[i]? =some x)(t:Loc X.env.scope x)(r:RelV v u)
  (h:∀s',Inv X pins (σ.set i (some v)) H s'->(∃a,Heap.SameBut a s.heap s'.heap/\(a=X.env.locals∨X.env.cells.lookup x=some a))->Q () s')(hf:X.fn x=true∨X.env.scope.names.lookup x=some .local:=by first|exact .inl rfl|exact .inr rfl|assumption):wpAny M A (storeName X.env x u) Q E s:=by
 obtain⟨m,hn,hl⟩:=id I.loc;have Y:(X.env.scope.kind==.class || (X.env.scope.kind==.module&&X.env.locals != X.env.globals))=false:=by rw[I.ok.kind];rfl
 have J:i < σ.length:=by rw[I.len];exact(bY.mp U).1
 have cne:=I.cne;have tracked:∀{a:Addr}{h':Heap},(∃o,s.heap.get? a=some o/\H a=none)->Heap.SameBut a s.heap h'->jK X.prog X.w H h':=λ {a h'} ha f b ob e=>by
  obtain⟨_,_,B⟩:=ha;refine(I.hok b ob e).stay (λc w' l q=>(f.2 c ?_).trans q) (λ_ q=>q) λ_ _ q=>q
  rintro rfl
  rcases l with rfl|l
  ·rw[B]at e;cases e
  ·rw[B]at l;cases l
 rcases t with D|D
 ·refine wpAny_storeName_local D hn (λh' hn' f=>?_) Y
  obtain⟨oL,_,_,hoL,_⟩:=id hn;refine h _ ⟨I.ok,I.os,I.bare,⟨λb o e n P t=>?_,λb o e n P t=>?_,I.base.free,λb o e t=>?_,I.base.tups,I.base.frzs,I.base.tbls⟩,⟨_,hn',λj y v' g C e3=>?_⟩,λy c e=>?_,I.free,I.freeC,λp hp=>?_,tracked ⟨oL,hoL,I.free⟩ f,by simpa using I.len⟩ ⟨_,f,.inl rfl⟩
  ·exact(f.2 b (aI (aA (aB e) I.ok.above))).trans (I.base.keep b o e n P t)
  ·obtain⟨sl,g⟩:=I.base.slot b o e n P t
   exact⟨sl,(f.2 b (aI (aA (aB e) I.ok.above))).trans g⟩
  ·obtain⟨o',g⟩:=I.base.there b o e t
   exact⟨o',(f.2 b (aI (aA (aB e) I.ok.above))).trans g⟩
  ·by_cases K:j=i
   ·subst K
    rw[U]at g;cases g;rw[aE J]at C;cases C;exact⟨u,r,.inl ⟨D,by simp⟩⟩
   ·rw[aF (Ne.symm K)]at C
    obtain⟨u',r',q⟩:=hl j y v' g C e3;refine⟨u',r',?_⟩;rcases q with ⟨k,e⟩|⟨k,c,e,z⟩
    ·refine .inl ⟨k,?_⟩
     have:y≠x:=λe=>K (K9 hN g (e ▸ U))
     simp[this,e]
    ·exact .inr ⟨k,c,e,z.sameBut f (cne y c e)⟩
  ·obtain⟨w',z⟩:=I.cell y c e
   exact⟨w',z.sameBut f (cne y c e)⟩
  ·obtain⟨e,n,ne,nf,d⟩:=I.pin p hp
   exact⟨(f.2 p.1 ne).trans e,n,ne,nf,d⟩
 ·have L:X.fn x=true:=by
   rcases hf with z|z
   ·exact z
   ·rw[z]at D;cases D
  obtain⟨c,l⟩:=I.ok.has x (.inl D);obtain⟨w',z⟩:=I.cell x c l;refine wpAny_storeName_cell I.ok.kind D l z (λh' hc' f=>?_);obtain⟨oc,T,S⟩:=id z;refine h { s with heap:=h' } ⟨I.ok,I.os,I.bare,⟨λb o e n P t=>?_,λb o e n P t=>?_,I.base.free,λb o e t=>?_,I.base.tups,I.base.frzs,I.base.tbls⟩,⟨m,hn.sameBut f (Ne.symm (cne x c l)),λj y v' g C e3=>?_⟩,λy c' e=>?_,I.free,I.freeC,λp hp=>?_,tracked ⟨oc,T,I.freeC x c l⟩ f,by simpa using I.len⟩ ⟨c,f,.inr l⟩
  ·exact(f.2 b (aI (aA (aB e) (I.ok.cab x c L l)))).trans (I.base.keep b o e n P t)
  ·obtain⟨sl,g⟩:=I.base.slot b o e n P t
   exact⟨sl,(f.2 b (aI (aA (aB e) (I.ok.cab x c L l)))).trans g⟩
  ·obtain⟨o',g⟩:=I.base.there b o e t
   exact⟨o',(f.2 b (aI (aA (aB e) (I.ok.cab x c L l)))).trans g⟩
  ·by_cases K:j=i
   ·subst K
    rw[U]at g;cases g;rw[aE J]at C;cases C;exact⟨u,r,.inr ⟨.inl D,c,l,hc'⟩⟩
   ·rw[aF (Ne.symm K)]at C
    obtain⟨u',r',q⟩:=hl j y v' g C e3;refine⟨u',r',?_⟩;rcases q with q|⟨k,c',e,z'⟩
    ·exact .inl q
    ·refine .inr ⟨k,c',e,z'.sameBut f ?_⟩
     rintro rfl
     exact K (K9 hN g (I.ok.inj _ _ _ e l ▸ U))
  ·by_cases Z:c'=c
   ·subst Z;exact⟨_,hc'⟩
   ·obtain⟨w2,z2⟩:=I.cell y c' e
    exact⟨w2,z2.sameBut f Z⟩
  ·obtain⟨e,n,ne,nf,d⟩:=I.pin p hp
   refine⟨(f.2 p.1 ?_).trans e,n,ne,nf,d⟩;intro q;rw[q,T]at e;have q':oc=p.2:=az e;exact d w' (by rw[<- q'];exact S)
def JP {A:Around}{v:V}{Q:Unit->Shared->Prop}(I:Inv X pins σ H s)(c:X.N.Nodup)(b:X.N[i]? =some x)(a:Loc X.env.scope x)(r:RelV v u)
  (h:∀s',Inv X pins (σ.set i (some v)) H s'->Q () s')(hf:X.fn x=true∨X.env.scope.names.lookup x=some .local:=by first|exact .inl rfl|exact .inr rfl|assumption):wpAny M A (storeName X.env x u) Q E s:=
 Vk I c b a r (λs' d _=>h s' d) hf
def Inv.call' {ch:bJ}(I:Inv X pins σ H s)(o:s'.os=s.os)(u:Un (qe X.stack) ch H H' s.heap s'.heap)(hok:jK X.prog X.w H' s'.heap)(g:AllBare s'.gens)
  (h:∀b∈ch,(b∈X.ex∨X.s0.heap.objs.size<=b)/\b≠X.env.locals/\(∀x c,X.env.cells.lookup x=some c->c≠b)/\∀p∈X.pn++pins,p.1≠b):Inv X pins σ H' s':=by
 obtain⟨h',g',d',t',o'⟩:=s';have e:o'=s.os:=o;subst e;exact I.call (g':=g') (t':=t') (d':=d') u hok g h
end
abbrev XK:=Value->Option Addr->Hp->Prop
noncomputable abbrev St:=List (Option V)
abbrev VK:=V->Hp->Prop
abbrev TE:=St->Hp->VK->Prop
abbrev TT:=St->Hp->(Bool->Hp->Prop)->Prop
abbrev TA:=St->Hp->(List V->Hp->Prop)->Prop
structure Ends where
 nx:St->Hp->Prop
 rt:VK
 bk:St->Hp->Prop:=λ_ _=>False
 ct:St->Hp->Prop:=λ_ _=>False
abbrev TS:=Ends->St->Hp->Prop
inductive EP (X:Cx)(pins:bK)(σ:St)(Q:VK)(u:Value)(s':Shared):Prop
 |mk (v:V) (H':Hp) (I:Inv X pins σ H' s') (r:RelV v u) (q:Q v H')
def TP (X:Cx)(pins:bK)(σ:St)(Q:Bool->Hp->Prop)(b:Bool)(s':Shared):Prop:=∃H,Inv X pins σ H s'/\Q b H
inductive AP (X:Cx)(pins:bK)(σ:St)(Q:List V->Hp->Prop)(us:bI)(s':Shared):Prop
 |mk (vs:List V) (H':Hp) (I:Inv X pins σ H' s') (r:Vals vs us) (q:Q vs H')
def SP (X:Cx)(pins:bK)(D:Ends)(f:Flow)(s':Shared):Prop:=
 match f with
 |.next=>∃a H,Inv X pins a H s'/\D.nx a H|.brk=>∃a H,Inv X pins a H s'/\D.bk a H|.cont=>∃a H,Inv X pins a H s'/\D.ct a H|.ret u=>∃v a H,Inv X pins a H s'/\RelV v u/\D.rt v H
def PE (X:Cx)(e:Expr)(t:TE):Prop:=
 ∀(pins:bK)(s:Shared)(σ:St)(H:Hp)(Q:VK),Inv X pins σ H s->t σ H Q->wpAny (model X.prog X.w) X.A (eval e X.env) (EP X pins σ Q) X.xe s
def PT (X:Cx)(e:Expr)(t:TT):Prop:=
 ∀(pins:bK)(s:Shared)(σ:St)(H:Hp)(Q:Bool->Hp->Prop),Inv X pins σ H s->t σ H Q->wpAny (model X.prog X.w) X.A (isTrue e X.env (eval e X.env)) (TP X pins σ Q) X.xe s
def PW (X:Cx)(e:Expr)(t:TT):Prop:=
 ∀(whole:Sem Value)(pins:bK)(s:Shared)(σ:St)(H:Hp)(Q:Bool->Hp->Prop),Inv X pins σ H s->t σ H Q->wpAny (model X.prog X.w) X.A (isTrue e X.env whole) (TP X pins σ Q) X.xe s
def PW.pt {X:Cx}{t:TT}(h:PW X e t):PT X e t:=h _
def PA (X:Cx)(e:bO)(t:TA):Prop:=
 ∀(pos:Pos)(pins:bK)(s:Shared)(σ:St)(H:Hp)(Q:List V->Hp->Prop),Inv X pins σ H s->t σ H Q->wpAny (model X.prog X.w) X.A (spliced (backTo pos (starEach e X.env))) (AP X pins σ Q) X.xe s
def PS (X:Cx)(st:Stmt)(t:TS):Prop:=
 ∀(pins:bK)(s:Shared)(σ:St)(H:Hp)(D:Ends),Inv X pins σ H s->t D σ H->wpAny (model X.prog X.w) X.A (exec st X.env) (SP X pins D) X.xe s
def jZ (X:Cx)(st:bU)(t:TS):Prop:=
 ∀(pins:bK)(s:Shared)(σ:St)(H:Hp)(D:Ends),Inv X pins σ H s->t D σ H->wpAny (model X.prog X.w) X.A (execs st X.env) (SP X pins D) X.xe s
def zP {t:Sem α}{Q Q':α->Shared->Prop}{A:Around}(h:wpAny M A t Q E s)(H:∀a s,Q a s->Q' a s):wpAny M A t Q' E s:=wpAny_mono h H λ_ _ x=>x
section
variable {X:Cx}
noncomputable def Eu (i:Nat):TE:=λσ H Q=>∃v,σ[i]? =some (some v)/\Q v H
noncomputable def tC (v:V):TE:=λ_ H Q=>Q v H
def IF (j:X.N[i]? =some x)(f:YU X.env.scope x)(hd:(x==("__debug__":Str))=false:=by decide)(d:(x==("__classdict__":Str))=false:=by decide):PE X (.Name x pos) (Eu i):=by
 intro pins s σ H Q I h;obtain⟨v,e,h⟩:=h;obtain⟨m,hn,g⟩:=I.loc;obtain⟨u,r,l⟩:=g i x v j e f;have fin:EP X pins σ Q u s:=⟨v,H,I,r,h⟩;rcases l with ⟨k,hm⟩|⟨k,c,b,a⟩
 ·exact wpAny_Name (wpAny_loadName_local I.ok.kind k hn hm fin) hd
 ·rcases k with k|k
  ·exact wpAny_Name (wpAny_loadName_cell I.ok.kind k b a fin) hd
  ·exact wpAny_Name (wpAny_loadName_free I.ok.kind k b a fin d) hd
def Hv {i j pos}:PE X (.Constant (.int i) j pos) (tC (.int i)):=λ_ _ _ H _ I h=>wpAny_Constant_int ⟨.int i,H,I.tok _,⟨_,rfl⟩,h⟩
def Fj {b j pos}:PE X (.Constant (.bool b) j pos) (tC (.bl b)):=λ_ _ _ H _ I h=>Constant_bool ⟨.bl b,H,I,rfl,h⟩
def IZ {j pos}:PE X (.Constant .none j pos) (tC .non):=λ_ _ _ H _ I h=>Constant_none ⟨.non,H,I,rfl,h⟩
def HX {x j pos}:PE X (.Constant (.str x) j pos) (tC (.str x)):=λ_ _ _ H _ I h=>Calls.Constant_str ⟨.str x,H,I.tok _,⟨_,rfl⟩,h⟩
def Gl (X:Cx)(x:Str):Prop:=X.env.kindOf x=some .globalImplicit
def QV {σ:St}{H:Hp}(I:Inv X pins σ H s)(g:Gl X x)(hm:X.mg x=some u)(h:Q u s)
  (hd:(x==("__debug__":Str))=false:=by decide):wpAny (model X.prog X.w) X.A (eval (.Name x pos) X.env) Q E s:=
 Calls.Name_function_global I.ok.kind g (Calls.loadGlobal_global (by rw[I.ok.glob];exact I.mod.glob.keeps I.bk) hm h) hd
def g9 {σ:St}{H:Hp}(I:Inv X pins σ H s)(g:Gl X x)(hm:X.mg x=none)(v:bootBuiltins x=some u)(h:Q u s)
  (hn:x ≠ "__name__":=by decide)(hd:(x==("__debug__":Str))=false:=by decide):wpAny (model X.prog X.w) X.A (eval (.Name x pos) X.env) Q E s:=by
 obtain⟨mb,b,a⟩:=I.mod.blt;exact Calls.Name_function_global I.ok.kind g (Calls.loadGlobal_builtin (by rw[I.ok.glob];exact I.mod.glob.keeps I.bk) hm (by rw[I.ok.blt];exact b.keeps I.bk) ((a x hn).trans v) h) hd
def VX {v:V}(g:Gl X x)(hm:X.mg x=some u)(r:RelV v u)(hd:(x==("__debug__":Str))=false:=by decide):PE X (.Name x pos) (tC v):=
 λ_ _ _ H _ I h=>QV I g hm ⟨v,H,I,r,h⟩ hd
def Yc {v:V}(g:Gl X x)(hm:X.mg x=none)(a:bootBuiltins x=some u)(r:RelV v u)(hn:x ≠ "__name__":=by decide)(hd:(x==("__debug__":Str))=false:=by decide):PE X (.Name x pos) (tC v):=
 λ_ _ _ H _ I h=>g9 I g hm a ⟨v,H,I,r,h⟩ hn hd
variable {a b:Expr}{ta tb:TE}
def Nf (b:Expr)(h:op≠.In)(H:op≠.NotIn):behindInMarks op b=false:=by
 have E:(op==CmpOp.In)=false:=by cases op<;>first|rfl|exact absurd rfl h
 have e:(op==CmpOp.NotIn)=false:=by cases op<;>first|rfl|exact absurd rfl H
 cases b<;>simp[behindInMarks,E,e]
noncomputable def tB (t:TE):TT:=λσ H Q=>t σ H λx H1=>∃c,x=.bl c/\Q c H1
def IS {t:TE}(h:PE X e t)(he:∀whole,isTrue e X.env whole=(do let v <- whole;standAt e.pos;holding [v] (truthy v)):=by intro _;rfl):PT X e (tB t):=by
 intro pins s σ H Q I hw;refine isTrue_plain (zP (h pins s σ H _ I hw) λv s1 ⟨x,H1,i,r,a⟩=>?_) (he _);obtain⟨d,rfl,q⟩:=a;cases r;exact wpAny_truthy_bool ⟨H1,i,q⟩
variable {tA tB':TT}{rest:bO}
noncomputable def EM (t u:TT):TT:=λσ H Q=>t σ H λc H1=>if c=true then u σ H1 Q else Q false H1
noncomputable def Dk (t u:TT):TT:=λσ H Q=>t σ H λc H1=>if c=true then Q true H1 else u σ H1 Q
noncomputable def EN (t:TT):TT:=λσ H Q=>t σ H λc H1=>Q (!c) H1
def pw_and1 (b:PT X a tA):PW X (.BoolOp .And [a] pos) tA:=by
 intro w pins s σ H Q I h;refine isTrue_and (zP (b pins s σ H Q I h) λc s1 e=>?_);cases c with
 |true=>exact isTrue_and_nil e|false=>exact e
def pw_or1 (b:PT X a tA):PW X (.BoolOp .Or [a] pos) tA:=by
 intro w pins s σ H Q I h;refine isTrue_or (zP (b pins s σ H Q I h) λc s1 e=>?_);cases c with
 |false=>exact isTrue_or_nil e|true=>exact e
def pw_and (e:PT X a tA)(d:PW X (.BoolOp .And (b::rest) pos) tB'):PW X (.BoolOp .And (a::b::rest) pos) (EM tA tB'):=by
 intro w pins s σ H Q I h;refine isTrue_and (zP (e pins s σ H _ I h) λc s1 ⟨H1,i,q⟩=>?_);cases c with
 |true=>exact d w pins s1 σ H1 Q i q|false=>exact⟨H1,i,q⟩
def pw_or (e:PT X a tA)(d:PW X (.BoolOp .Or (b::rest) pos) tB'):PW X (.BoolOp .Or (a::b::rest) pos) (Dk tA tB'):=by
 intro w pins s σ H Q I h;refine isTrue_or (zP (e pins s σ H _ I h) λc s1 ⟨H1,i,q⟩=>?_);cases c with
 |true=>exact⟨H1,i,q⟩|false=>exact d w pins s1 σ H1 Q i q
def I9 (b:PT X a tA):PT X (.UnaryOp .Not a pos) (EN tA):=by
 intro pins s σ H Q I h;exact isTrue_not (b pins s σ H (λc H1=>Q (!c) H1) I h)
noncomputable def Ee (T t:TE):TE:=λσ H Q=>T σ H λx H1=>∃c,x=.bl c/\if c=true then t σ H1 Q else Q (.bl false) H1
noncomputable def F9 (t:TE):TE:=λσ H Q=>t σ H λx H1=>∃c,x=.bl c/\Q (.bl (!c)) H1
def Hu {op}{t:TE}(h:PE X a t):PE X (.BoolOp op [a] pos) t:=λpins s σ H Q I hw=>BoolOp_one (h pins s σ H Q I hw)
def Iy (e:PE X a ta)(d:PE X (.BoolOp .And (b::rest) pos) tb):PE X (.BoolOp .And (a::b::rest) pos) (Ee ta tb):=by
 intro pins s σ H Q I h;refine BoolOp_and (zP (e pins s σ H _ I h) λv s1 ⟨x,H1,i,r,q⟩=>?_);obtain⟨c,rfl,q⟩:=q;cases r;refine wpAny_truthy_bool ?_;cases c with
 |true=>exact d pins s1 σ H1 Q i q|false=>exact⟨.bl false,H1,i,rfl,q⟩
def HQ (b:PE X a ta):PE X (.UnaryOp .Not a pos) (F9 ta):=by
 intro pins s σ H Q I h;refine UnaryOp_ (zP (b pins s σ H _ I h) λv s1 ⟨x,H1,i,r,q⟩=>?_);obtain⟨c,rfl,q⟩:=q;cases r;exact not_of (wpAny_truthy_bool ⟨.bl (!c),H1,i,rfl,q⟩)
noncomputable def Di (t:TT)(a T:TE):TE:=λσ H Q=>t σ H λc H1=>if c=true then a σ H1 Q else T σ H1 Q
def NR {c:Expr}(e:PT X c tA)(g:PE X a ta)(f:PE X b tb):PE X (.IfExp c a b pos) (Di tA ta tb):=by
 intro pins s σ H Q I h;refine wpAny_IfExp (zP (e pins s σ H _ I h) λd s1 ⟨H1,i,q⟩=>?_);cases d with
 |true=>exact g pins s1 σ H1 Q i q|false=>exact f pins s1 σ H1 Q i q
end
def qH (K:Frag)(H:Hp)(a:Addr)(xs:List V):Prop:=
 Rd H a (.lst xs)∨
  ∃(o:Obj) (its:Array Value) (n:Nat),K.lookup a=some o/\o.cls=.type "list" /\ o.dict=none/\o.data=.seq its n/\its.size<=sizeLine/\Vals xs its.toList
def ql (K:Frag)(H:Hp)(a:Addr)(xs:List V):Prop:=
 Rd H a (.tup xs)∨
  ∃(o:Obj) (its:Array Value) (n:Nat),K.lookup a=some o/\(o.cls=.type "tuple" /\ o.dict=none)/\o.data=.seq its n/\its.size<=sizeLine/\Vals xs its.toList
noncomputable def ER:Value->Option V
 |.none=>some .non|.bool b=>some (.bl b)|.int i _=>some (.int i)|.str x _=>some (.str x)|.bytes b _=>some (.byt b)|.float b _=>some (.flt b)|.ref a=>some (.ref a)|.type n=>some (.ty n)|_=>none
def RelV.abs {x:V}(r:RelV x u):ER u=some x:=by
 cases x with
 |non=>cases r;rfl|bl _=>cases r;rfl|int _=>obtain⟨t,rfl⟩:=r;rfl|str _=>obtain⟨t,rfl⟩:=r;rfl|byt _=>obtain⟨t,rfl⟩:=r;rfl|flt _=>obtain⟨t,rfl⟩:=r;rfl|ref _=>cases r;rfl|ty _=>cases r;rfl
def RelV.inj {x y:V}(r:RelV x u)(q:RelV y u):x=y:=az (r.abs.symm.trans q.abs)
theorem Vals.inj:∀{xs ys:List V}{us:bI},Vals xs us->Vals ys us->xs=ys
 |_,_,_,.nil,.nil=>rfl|_,_,_,.cons r t,.cons a t'=>by rw[r.inj a,Vals.inj t t']
section
variable {X:Cx}{σ:St}{H:Hp}{xs ys:List V}
def qH.of {K:Frag}(h:H a=some (.lst xs)):qH K H a xs:=.inl (.inl h)
def ql.of {K:Frag}(h:H a=some (.tup xs)):ql K H a xs:=.inl (.inl h)
def Inv.list (I:Inv X pins σ H s)(h:qH X.K H a xs):∃i:bI,Vals xs i/\PlainL s.heap a i.toArray/\xs.length<=sizeLine:=by
 rcases h with h|⟨o,i,n,k,c,hd,b,d,r⟩
 ·obtain⟨z,i,n,r,e⟩:=h.ok I.hok
  exact⟨i,r,⟨_,n,e,rfl,rfl,rfl⟩,z⟩
 ·refine⟨i.toList,r,⟨o,n,I.kIn a o k,c,hd,by simpa using b⟩,?_⟩
  have e:=r.length;simp only[aM]at e;omega
def Inv.tuple (I:Inv X pins σ H s)(h:ql X.K H a xs):∃i:bI,Vals xs i/\IsTup s.heap a i.toArray/\xs.length<=sizeLine:=by
 rcases h with h|⟨o,i,n,k,c,b,d,r⟩
 ·obtain⟨z,i,r,p⟩:=h.ok I.hok
  exact⟨i,r,p.tup,z⟩
 ·refine⟨i.toList,r,⟨o,I.kIn a o k,c.1,n,by simpa using b⟩,?_⟩
  have e:=r.length;simp only[aM]at e;omega
def Inv.list_inj (I:Inv X pins σ H s)(h:qH X.K H a xs)(h':qH X.K H a ys):xs=ys:=by
 obtain⟨i,r,⟨o,n,e,_,_,d⟩,_⟩:=I.list h;obtain⟨its',b,⟨o',N,E,_,_,d'⟩,_⟩:=I.list h';rw[e]at E;cases E;rw[d]at d';injection d' with D _
 have:i=its':=by simpa using congrArg Array.toList D
 subst this;exact r.inj b
def Inv.tuple_inj (I:Inv X pins σ H s)(h:ql X.K H a xs)(h':ql X.K H a ys):xs=ys:=by
 obtain⟨i,r,⟨o,e,_,n,d⟩,_⟩:=I.tuple h;obtain⟨its',b,⟨o',E,_,N,d'⟩,_⟩:=I.tuple h';rw[e]at E;cases E;rw[d]at d';injection d' with D _
 have:i=its':=by simpa using congrArg Array.toList D
 subst this;exact r.inj b
end
noncomputable abbrev Cx.wish (X:Cx)(E:bN):Cx:={ X with xe:=E }
noncomputable abbrev Cx.nox (X:Cx):Cx:=X.wish λ_ _=>False
theorem Cx.Ok.wish {X:Cx}(ok:X.Ok)(E:bN):(X.wish E).Ok:=
 ⟨ok.mod,ok.kind,ok.glob,ok.blt,ok.above,ok.inj,ok.has,ok.cab,ok.hd,ok.frames,ok.stk,ok.exf,ok.bs,ok.bsz,ok.noex,ok.exfs,ok.funs,ok.frf⟩
def Cx.Ok.unwish {X:Cx}(ok:(X.wish E).Ok):X.Ok:=
 ⟨ok.mod,ok.kind,ok.glob,ok.blt,ok.above,ok.inj,ok.has,ok.cab,ok.hd,ok.frames,ok.stk,ok.exf,ok.bs,ok.bsz,ok.noex,ok.exfs,ok.funs,ok.frf⟩
section
variable {X:Cx}{σ:St}{H:Hp}
theorem Inv.wish (I:Inv X pins σ H s)(E:bN):Inv (X.wish E) pins σ H s:=⟨I.ok.wish E,I.os,I.bare,I.base,I.loc,I.cell,I.free,I.freeC,I.pin,I.hok,I.len⟩
theorem Inv.unwish (I:Inv (X.wish E) pins σ H s):Inv X pins σ H s:=⟨I.ok.unwish,I.os,I.bare,I.base,I.loc,I.cell,I.free,I.freeC,I.pin,I.hok,I.len⟩
theorem SP.unwish {D:Ends}{f:Flow}(h:SP (X.wish E) pins D f s'):SP X pins D f s':=by
 cases f with
 |next=>obtain⟨a,H,I,q⟩:=h;exact⟨a,H,I.unwish,q⟩|brk=>obtain⟨a,H,I,q⟩:=h;exact⟨a,H,I.unwish,q⟩|cont=>obtain⟨a,H,I,q⟩:=h;exact⟨a,H,I.unwish,q⟩|ret u=>obtain⟨v,a,H,I,r,q⟩:=h;exact⟨v,a,H,I.unwish,r,q⟩
theorem PT.nox {t:TT}(h:PT X.nox e t):PT X e t:=λpins s σ H Q I hw=>
 wpAny_mono (h pins s σ H Q (I.wish _) hw) (λ_ _ ⟨a,i,q⟩=>⟨a,i.unwish,q⟩) λ_ _ z=>False.elim z
theorem jZ.nox {st:bU}{t:TS}(h:jZ X.nox st t):jZ X st t:=λpins s σ H D I hw=>
 wpAny_mono (h pins s σ H D (I.wish _) hw) (λ_ _ q=>q.unwish) λ_ _ z=>False.elim z
end
section
variable {X:Cx}{st:Stmt}{rest:bU}{t u:TS}{te:TE}
noncomputable def Fo:TS:=λD σ H=>D.nx σ H
noncomputable def E3 (t u:TS):TS:=λD σ H=>t { D with nx:=u D } σ H
def MB:jZ X [] Fo:=λ_ _ σ H _ I h=>wpAny_execs_nil ⟨σ,H,I,h⟩
def NQ (c:PS X st t)(b:jZ X rest u):jZ X (st::rest) (E3 t u):=by
 intro pins s σ H D I h;refine wpAny_execs_cons (zP (c pins s σ H { D with nx:=u D } I h) λf s1 q=>?_)
 cases f with
 |next=>
  obtain⟨a,d,i,q⟩:=q;exact b pins s1 a d D i q
 |ret v=>exact q|brk=>exact q|cont=>exact q
def Inv.quiet {σ:St}{H:Hp}(I:Inv X pins σ H s):interactive X.env=false:=by simp[interactive,I.ok.kind]
noncomputable def Fh (t:TE):TS:=λD σ H=>t σ H λ_ H1=>D.nx σ H1
def LA (he:PE X e te)(a:swapsWith e none pos.line X.env=pure false:=by rfl):PS X (.Expr e pos) (Fh te):=by
 intro pins s σ H D I h;exact wpAny_Expr_any (zP (he pins s σ H _ I h) λv s1 ⟨x,H1,i,r,q⟩=>⟨σ,H1,i,q⟩) I.quiet a
noncomputable def EI (t:TE):TS:=λD σ H=>t σ H D.rt
def HL (he:PE X e te):PS X (.Return (some e) pos) (EI te):=by
 intro pins s σ H D I h;exact wpAny_Return_some (zP (he pins s σ H _ I h) λv s1 ⟨x,H1,i,r,q⟩=>⟨x,σ,H1,i,r,q⟩)
noncomputable def EH (c:TT)(t u:TS):TS:=λD σ H=>c σ H λb H1=>if b=true then t D σ H1 else u D σ H1
def Ek {c:Expr}{a b:bU}{T:TT}(e:PT X c T)(g:jZ X a t)(f:jZ X b u):PS X (.If c a b pos) (EH T t u):=by
 intro pins s σ H D I h;refine wpAny_If (zP (e pins s σ H _ I h) λd s1 ⟨H1,i,q⟩=>?_);cases d with
 |true=>exact g pins s1 σ H1 D i q|false=>exact f pins s1 σ H1 D i q
end
abbrev TG:=V->St->Hp->(St->Hp->Prop)->Prop
abbrev ZR:=List V->St->Hp->(St->Hp->Prop)->Prop
def PG (X:Cx)(target:Expr)(t:TG):Prop:=
 ∀(pins:bK)(s:Shared)(σ:St)(H:Hp)(v:V)(u:Value)(Q:St->Hp->Prop),Inv X pins σ H s->RelV v u->t v σ H Q->
  wpAny (model X.prog X.w) X.A (assign target X.env u) (λ_ s'=>∃a h,Inv X pins a h s'/\Q a h) X.xe s
def YX (X:Cx)(T:bO)(t:ZR):Prop:=
 ∀(pins:bK)(s:Shared)(σ:St)(H:Hp)(vs:List V)(us:bI)(Q:St->Hp->Prop),Inv X pins σ H s->Vals vs us->t vs σ H Q->
  wpAny (model X.prog X.w) X.A (assignInOrder ((assignEach T X.env).map (·.2)) us) (λ_ s'=>∃a h,Inv X pins a h s'/\Q a h) X.xe s
abbrev Jo:=V->V->V->Hp->(Hp->Prop)->Prop
def W8 (X:Cx)(t:Jo):Prop:=
 ∀(pins:bK)(s:Shared)(σ:St)(H:Hp)(o i v:V)(a I u:Value)(Q:Hp->Prop),Inv X pins σ H s->RelV o a->RelV i I->RelV v u->t o i v H Q->
  wpAny (model X.prog X.w) X.A (setItem a I u) (λ_ s'=>∃h,Inv X pins σ h s'/\Q h) X.xe s
section
variable {X:Cx}
noncomputable def Yp (i:Nat):TG:=λv σ H Q=>Q (σ.set i (some v)) H
def Wr (c:X.N.Nodup)(b:X.N[i]? =some x)(a:Loc X.env.scope x)(hf:X.fn x=true∨X.env.scope.names.lookup x=some .local:=by first|exact .inl rfl|exact .inr rfl|assumption):PG X (.Name x pos) (Yp i):=by
 intro pins s σ H v u Q I r h;exact wpAny_assign_Name (JP I c b a r (λs' d=>⟨_,H,d,h⟩) hf)
noncomputable def Ep:ZR:=λvs σ H Q=>vs=[]/\Q σ H
noncomputable def FX (t:TG)(u:ZR):ZR:=λvs σ H Q=>∃v r,vs=v::r/\t v σ H λa h=>u r a h Q
def LB:YX X [] Ep:=by
 intro pins s σ H vs us Q I r h;obtain⟨e,h⟩:=h;subst e;cases r;exact assignInOrder_nil ⟨σ,H,I,h⟩
def VG {E:bO}{t:TG}{u:ZR}(f:PG X e t)(d:YX X E u)
  (c:(assignEach (e::E) X.env).map (·.2)=assign e X.env::(assignEach E X.env).map (·.2):=by rfl):YX X (e::E) (FX t u):=by
 intro pins s σ H vs us Q I r h;obtain⟨v,j,g,h⟩:=h;subst g;cases r with
 |cons r b=>
  rw[c];refine assignInOrder_cons (zP (f pins s σ H _ _ _ I r h) λ_ s1 ⟨a,H1,i,q⟩=>?_);exact d pins s1 a H1 _ _ Q i b q
noncomputable def yS (K:Frag)(n:Nat)(t:ZR):TG:=λv σ H Q=>∃a xs,v=.ref a/\ql K H a xs/\xs.length=n/\t xs σ H Q
def Ib {E:bO}{t:ZR}(g:X.calm=true)(h:YX X E t)
  (hn:(assignEach E X.env).length=n:=by rfl)(c:(assignEach E X.env).findIdx? (·.1)=none:=by rfl):PG X (.Tuple E k pos) (yS X.K n t):=by
 intro pins s σ H v u Q I r hw;obtain⟨a,xs,j,q,l,hw⟩:=hw;subst j;cases r;obtain⟨i,d,f,z⟩:=I.tuple q;refine assign_Tuple_tuple (I.ok.hd g) f (by simp[hn,<- l,d.length]) c λh' x=>?_
 have p:Inv X pins σ H { s with heap:=h' }:=I.kept (t':=s.toks) λb o e=>x b o (aI (aB e)) e
 exact h pins _ σ H xs _ Q p (by simpa using d) hw
noncomputable def yt (to ti:TE)(t:Jo):TG:=λv σ H Q=>to σ H λo H1=>ti σ H1 λi a=>t o i v a λh=>Q σ h
def Hs {o i:Expr}{to ti:TE}{t:Jo}(f:PE X o to)(g:PE X i ti)(e:W8 X t)
  (j:∀v,assign (.Subscript o i pos) X.env v=(do
   let ov <- holding [v] (eval o X.env)
   let iv <- holding [v,ov] (eval i X.env)
   standAt pos
   holding [v,ov,iv] (setItem ov iv v)
   release [v,ov,iv] []):=by intro _;rfl):PG X (.Subscript o i pos) (yt to ti t):=by
 intro pins s σ H v u Q I r h;rw[j];refine bV (wpAny_holding (zP (f pins s σ H _ I h) λov s1 ⟨x,H1,n,b,d⟩=>?_));refine bV (wpAny_holding (zP (g pins s1 σ H1 _ n d) λiv s2 ⟨y,w,l,a,c⟩=>?_));refine bV (wpAny_standAt (bV (wpAny_holding (zP (e pins s2 σ w x y v ov iv u _ l b a r c) λ_ s3 ⟨p,k,q⟩=>?_))));exact wpAny_release ⟨σ,p,k,q⟩
noncomputable def YO (t:TE)(g:TG):TS:=λD σ H=>t σ H λx H1=>g x σ H1 D.nx
def Ud {t:TE}{g:TG}(he:PE X e t)(b:PG X tg g)(a:swapsWithSole [tg] e pos.line X.env=pure false:=by rfl)(hw:swappedStores [tg] e X.env=pure none:=by rfl)
  (c:(assignEach [tg] X.env).map (·.2)=[assign tg X.env]:=by rfl):PS X (.Assign [tg] e pos) (YO t g):=by
 intro pins s σ H D I h;refine wpAny_Assign_stores (zP (he pins s σ H _ I h) λv s1 ⟨x,H1,i,r,Q⟩=>?_) a hw;rw[c];exact zP (b pins s1 σ H1 x v _ i r Q) λ_ s2 q=>q
def IT {t:TE}{pos':Pos}(d:X.N.Nodup)(c:X.N[i]? =some x)(a:Loc X.env.scope x)(he:PE X e t)(b:swapsWith e (some (.Name x pos')) pos.line X.env=pure false:=by rfl)(hf:X.fn x=true∨X.env.scope.names.lookup x=some .local:=by first|exact .inl rfl|exact .inr rfl|assumption):
  PS X (.Assign [.Name x pos'] e pos) (YO t (Yp i)):=by
 intro pins s σ H D I h;refine wpAny_Assign_Name (zP (he pins s σ H _ I h) λv s1 ⟨y,H1,g,r,q⟩=>?_) b;exact JP g d c a r (λs2 f=>⟨_,H1,f,q⟩) hf
def HP (c:TT)(t:TS):TS:=λD σ H=>∃W:Nat->St->Hp->Prop,(∃m,W m σ H)/\∀m σ H,W m σ H->
 c σ H λb H1=>if b=true then ∃N:St->Hp->Prop,(∀a h,N a h->∃M,M<m/\W M a h)/\t { D with nx:=N,ct:=N,bk:=D.nx } σ H1 else D.nx σ H1
def O4 {c:Expr}{t:TT}{T:TS}(p:PassesOwn (model X.prog X.w) X.A X.env X.xe)(z:PT X c t)(B:jZ X body T):PS X (.While c body [] pos) (HP t T):=by
 intro pins s σ H D I h;obtain⟨W,⟨m0,y⟩,turn⟩:=h;refine wpAny_While (codeAny_whileLoop (λn s'=>∃e u,Inv X pins e u s'/\W n e u) ?_ m0 ⟨σ,H,I,y⟩)
 rintro n s1 ⟨d,H1,C,x⟩
 refine wpAny_passesOwn p (zP (z pins s1 d H1 _ C (turn n d H1 x)) λb s2 ⟨r,o,Q⟩=>?_);cases b with
 |true=>
  obtain⟨N,l,Q⟩:=Q;rw[ah rfl];refine wpAny_passesOwn p (zP (B pins s2 d r _ o Q) λf s3 q=>?_);cases f with
  |next=>
   obtain⟨a,g,k,j⟩:=q;obtain⟨M,hm,i⟩:=l a g j;exact⟨M,hm,a,g,k,i⟩
  |cont=>
   obtain⟨a,g,k,j⟩:=q;obtain⟨M,hm,i⟩:=l a g j;exact⟨M,hm,a,g,k,i⟩
  |brk=>exact q|ret v=>exact q
 |false=>
  rw[ar ay];exact wpAny_execs_nil ⟨d,r,o,Q⟩
end
structure It where
 go:Nat->Hp->Prop
 yld:Nat->Hp->V->Hp->Prop
 stop:Nat->Hp->Prop
def yR (X:Cx)(pins:bK)(H:Hp)(b:Addr):Prop:=
 H b=none/\b≠X.env.locals/\b∉X.fs/\(b∈X.ex∨X.s0.heap.objs.size<=b)/\(∀x c,X.env.cells.lookup x=some c->c≠b)/\∀p∈X.pn++pins,p.1≠b
def Inv.fpOk {X:Cx}{σ:St}{H a:Hp}(I:Inv X pins σ H s)(h:s.heap.objs.size<=b)(hn:a b=none):yR X pins a b:=by
 refine⟨hn,bq (aA I.lt h),I.nofs h,.inr (a8 I.sz h),λx c e z=>?_,λp d z=>?_⟩
 ·obtain⟨v,q⟩:=I.cell x c e
  exact absurd (aA q.lt (by rw[z];exact h)) (aT _)
 ·exact absurd (aA (aB (I.pin p d).1) (by rw[z];exact h)) (aT _)
structure Turn (P:Program)(w:World)(K:Frag)(tg:Expr)(J:It)(fp:bJ)(it:Addr)(tn:Nat->Heap->Prop):Prop where
 mem:it∈fp
 obj:∀i h,tn i h->∀b∈fp,∃o,h.get? b=some o/\∀v,o.data≠.cell v
 keep:∀i h h',tn i h->(∀b∈fp,∀o,h.get? b=some o->h'.get? b=some o)->tn i h'
 item:∀(X:Cx),X.prog=P->X.w=w->X.K=K->X.calm=true->∀(i:Nat)(pins:bK)(s:Shared)(σ:St)(H:Hp)(E:bN),Inv X pins σ H s->(∀b∈fp,yR X pins H b)->tn i s.heap->J.go i H->
  wpAny (model P w) X.A (pyNext (.ref it)) (λr s1=>∃u,r=some u/\
   wpAny (model P w) X.A (letOwnedTupleGo tg (.ref it) u) (λ_ s2=>∃x H',Inv X pins σ H' s2/\RelV x u/\J.yld i H x H'/\tn (i+1) s2.heap/\∀b∈fp,H' b=none) E s1) E s
 done:∀(X:Cx),X.prog=P->X.w=w->X.K=K->X.calm=true->∀(i:Nat)(pins:bK)(s:Shared)(σ:St)(H:Hp)(E:bN),Inv X pins σ H s->(∀b∈fp,yR X pins H b)->tn i s.heap->J.stop i H->
  wpAny (model P w) X.A (pyNext (.ref it)) (λr s1=>r=none/\Inv X pins σ H s1) E s
 self:∀(A:Around)(i:Nat)(s:Shared)(Q:bN)(E:bN),tn i s.heap->Q (.ref it) s->wpAny (model P w) A (pyIter (.ref it)) Q E s
abbrev TI:=St->Hp->(It->Hp->Prop)->Prop
inductive TM (X:Cx)(pins:bK)(σ:St)(tg:Expr)(R:It->Hp->Prop)(itv:Value)(s2:Shared):Prop
 |mk (it:Addr) (fp:bJ) (tn:Nat->Heap->Prop) (J:It) (H':Hp) (e:itv=.ref it) (I:Inv X pins σ H' s2) (T:Turn X.prog X.w X.K tg J fp it tn) (t0:tn 0 s2.heap) (f:(∀b∈fp,yR X pins H' b)) (q:R J H')
def PI (X:Cx)(t iter:Expr)(i:TI):Prop:=
 ∀(pins:bK)(s:Shared)(σ:St)(H:Hp)(R:It->Hp->Prop),Inv X pins σ H s->i σ H R->
  wpAny (model X.prog X.w) X.A (eval iter X.env) (λv s1=>wpAny (model X.prog X.w) X.A (pyIter v) (TM X pins σ t R) X.xe s1) X.xe s
def Yk {A:Around}{it:Addr}{o:Obj}{n:String}{vs:Array Value}{Q:Unit->Shared->Prop}(a:s.heap.get? it=some o)(c:o.cls=.type n)(hd:o.data=.fields vs)
  (hn:["enumerate","zip","dict_itemiterator","dict_reverseitemiterator","odict_iterator","itertools.zip_longest","itertools.pairwise"].contains n=false)(H:Q () s):wpAny M A (letOwnedTupleGo tg (.ref it) u) Q E s:=by
 unfold letOwnedTupleGo;cases tg<;>first
  |exact bW H
  |(cases u<;>first
    |exact bW H
    |(
      refine bV (wpAny_load a ?_);rw[c,hd];show wpAny M A (if (["enumerate","zip","dict_itemiterator","dict_reverseitemiterator","odict_iterator","itertools.zip_longest","itertools.pairwise"].contains n&&vs[0]?==some (rawInt _))=true then _ else _) Q E s;rw[ar (by intro h;rw[hn,Bool.false_and]at h;cases h)]
      exact bW H))
noncomputable def TC (K:Frag)(a:Addr):It:=
 ⟨λi H=>∃xs x,qH K H a xs/\xs[i]? =some x,λi H x h=>h=H/\∀xs,qH K H a xs->xs[i]? =some x,λi H=>∃xs,qH K H a xs/\xs.length<=i⟩
noncomputable def TR (K:Frag)(a:Addr):It:=
 ⟨λi H=>∃xs x,ql K H a xs/\xs[i]? =some x,λi H x h=>h=H/\∀xs,ql K H a xs->xs[i]? =some x,λi H=>∃xs,ql K H a xs/\xs.length<=i⟩
noncomputable def YV (lo:Int)(n:Nat):It:=⟨λi _=>i<n,λi H x h=>h=H/\x=.int (lo+i),λi _=>n<=i⟩
def Ox {K:Frag}(a it:Addr):Turn P w K tg (TC K a) [it] it (λi h=>h.IsListIter it a i) where
 mem:=by simp
 obj:=λi h st b f=>by
  have e:b=it:=by simpa using f
  subst e;obtain⟨o,e,c,d⟩:=st;exact⟨o,e,λv z=>by rw[d]at z;cases z⟩
 keep:=λi h h' st k=>st.at λo e=>k it (by simp) o e
 item:=by
  intro X n hw t B i pins s σ H E I hf st l;subst n hw t;obtain⟨xs,x,q,j⟩:=l;obtain⟨g,r,p,J⟩:=I.list q;obtain⟨u,M,D⟩:=r.get j;obtain⟨f0,f1,f2,A,f4,y⟩:=hf it (by simp)
  refine wpAny_pyNext_list_item st p.isList (x:=u) (by simpa using M) λh' S C=>?_
  have Q:Inv X pins σ H { s with heap:=h' }:=I.turned (t':=s.toks) (λb o f e=>(C.2 b f).trans e) f0 f1 A f4 y
  obtain⟨o,e,c,d⟩:=id S;exact⟨u,rfl,Yk (s:={ s with heap:=h' }) e c d (by decide) ⟨x,H,Q,D,⟨rfl,λys L=>by rw[I.list_inj L q];exact j⟩,S,λb f=>(hf b f).1⟩⟩
 done:=by
  intro X n hw t B i pins s σ H E I hf st l;subst n hw t;obtain⟨xs,q,j⟩:=l;obtain⟨g,r,p,J⟩:=I.list q;obtain⟨f0,f1,f2,A,f4,y⟩:=hf it (by simp)
  have T:=r.length;exact wpAny_pyNext_list_end (I.ok.hd B) st p.isList (by simp;omega) λh' N=>⟨rfl,I.turned (t':=s.toks) (λb o f e=>N b o f e) f0 f1 A f4 y⟩
 self:=λ_ _ _ _ _ st h=>wpAny_pyIter_listiter st h
def Pl {K:Frag}(a it:Addr):Turn P w K tg (TR K a) [it] it (λi h=>h.IsTupleIter it a i) where
 mem:=by simp
 obj:=λi h st b g=>by
  have e:b=it:=by simpa using g
  subst e;obtain⟨o,e,c,d⟩:=st;exact⟨o,e,λv z=>by rw[d]at z;cases z⟩
 keep:=λi h h' st k=>st.at λo e=>k it (by simp) o e
 item:=by
  intro X n hw t B i pins s σ H E I hf st l;subst n hw t;obtain⟨xs,x,q,j⟩:=l;obtain⟨f,r,p,J⟩:=I.tuple q;obtain⟨u,M,D⟩:=r.get j;obtain⟨f0,f1,f2,A,f4,y⟩:=hf it (by simp)
  refine wpAny_pyNext_tuple_item st (show s.heap.IsTuple a f.toArray from p) (x:=u) (by simpa using M) λh' S C=>?_
  have Q:Inv X pins σ H { s with heap:=h' }:=I.turned (t':=s.toks) (λb o g e=>(C.2 b g).trans e) f0 f1 A f4 y
  obtain⟨o,e,c,d⟩:=id S;exact⟨u,rfl,Yk (s:={ s with heap:=h' }) e c d (by decide) ⟨x,H,Q,D,⟨rfl,λys L=>by rw[I.tuple_inj L q];exact j⟩,S,λb g=>(hf b g).1⟩⟩
 done:=by
  intro X n hw t B i pins s σ H E I hf st l;subst n hw t;obtain⟨xs,q,j⟩:=l;obtain⟨f,r,p,J⟩:=I.tuple q;obtain⟨f0,f1,f2,A,f4,y⟩:=hf it (by simp)
  have T:=r.length;exact wpAny_pyNext_tuple_end (I.ok.hd B) st (show s.heap.IsTuple a f.toArray from p) (by simp;omega) λh' N=>⟨rfl,I.turned (t':=s.toks) (λb o g e=>N b o g e) f0 f1 A f4 y⟩
 self:=λ_ _ _ _ _ st h=>wpAny_pyIter_tupleiter st h
def Pc {K:Frag}(it:Addr)(lo:Int)(n:Nat):Turn P w K tg (YV lo n) [it] it (λi h=>IsRangeIter h it (lo+(i:Nat) * 1) ((n:Int)-(i:Nat)) 1) where
 mem:=by simp
 obj:=λi h st b a=>by
  have e:b=it:=by simpa using a
  subst e;exact⟨_,st,λv z=>by
   have Z:Data.fields _=Data.cell v:=z;cases Z⟩
 keep:=λi h h' st k=>k it (by simp) _ st
 item:=by
  intro X d hw f c i pins s σ H E I hf st g;subst d hw f;obtain⟨f0,f1,f2,l,f4,j⟩:=hf it (by simp)
  have W:=Walks.range (prog:=X.prog) (w:=X.w) (I.ok.hd c) it lo 1 n;refine W.item i s _ _ g st λv h' tk p S kk=>?_;obtain⟨t,rfl⟩:=p;have r:Inv X pins σ H { s with heap:=h',toks:=tk }:=I.turned (λb o a e=>kk b o (by simpa using a) e) f0 f1 l f4 j
  refine⟨_,rfl,Yk (s:={ s with heap:=h',toks:=tk }) (n := "range_iterator") S rfl rfl (by decide) ⟨.int (lo+i),H,r,⟨t,?_⟩,⟨rfl,rfl⟩,S,λb a=>(hf b a).1⟩⟩
  rw[Int.mul_one]
 done:=by
  intro X d hw f c i pins s σ H E I hf st g;subst d hw f;obtain⟨f0,f1,f2,l,f4,j⟩:=hf it (by simp)
  exact wpAny_pyNext_range_end (I.ok.hd c) st (by have:n<=i:=g;omega) λh' q=>⟨rfl,I.turned (t':=s.toks) (λb o a e=>q b o a e) f0 f1 l f4 j⟩
 self:=λ_ _ _ _ _ st h=>wpAny_pyIter_rangeiter st h
section
variable {X:Cx}
def NY {σ:St}{H:Hp}{R:It->Hp->Prop}{lo h:Int}{t u v:Tok}{tk:Nat}(I:Inv X pins σ H s)(g:-(2 ^ 62)<=lo)(f:lo<2 ^ 62)(d:-(2 ^ 62)<=h)(c:h<2 ^ 62)
  (q:R (YV lo (h-lo).toNat) H):wpAny (model X.prog X.w) X.A (pyIter (.ref s.heap.objs.size)) (TM X pins σ tg R) E { s with heap:=s.heap.push { cls:=.type "range",data:=.fields #[.int lo t,.int h u,.int 1 v] },toks:=tk }:=by
 refine wpAny_pyIter_range (IsRange.new ..) (small_one g f d c) ?_;have i:Inv X pins σ H { s with heap:=s.heap.push { cls:=.type "range",data:=.fields #[.int lo t,.int h u,.int 1 v] },toks:=tk }:=I.kept λb o e=>af _ e
 refine⟨(s.heap.push { cls:=.type "range",data:=.fields #[.int lo t,.int h u,.int 1 v] }).objs.size,[(s.heap.push { cls:=.type "range",data:=.fields #[.int lo t,.int h u,.int 1 v] }).objs.size],_,_,H,rfl,
  i.kept (t':=tk) λb o e=>af _ e,Pc _ lo (h-lo).toNat,?_,λb a=>?_,q⟩
 ·have k:lo+((0:Nat):Int) * 1=lo:=by simp
  have j:(((h-lo).toNat:Nat):Int)-((0:Nat):Int)=Builtin.Range.rangeSize lo h 1:=by rw[rangeSize_one];split<;>omega
  show IsRangeIter _ _ (lo+((0:Nat):Int) * 1) ((((h-lo).toNat:Nat):Int)-((0:Nat):Int)) 1;rw[k,j];exact ao _ rfl
 ·have e:b=(s.heap.push { cls:=.type "range",data:=.fields #[.int lo t,.int h u,.int 1 v] }).objs.size:=by simpa using a
  subst e;exact i.fpOk (aw _) (i.hok.fresh (aw _))
def F7 (t:TA):TI:=λσ H R=>t σ H λvs H1=>∃j:Int,vs=[.int j]/\-(2 ^ 62)<=j/\j<2 ^ 62/\R (YV 0 j.toNat) H1
def P7 {a:Expr}{T:TA}(g:Gl X "range")(hm:X.mg "range"=none)(i:PA X [a] T)(f:starEach [a] X.env=[(false,eval a X.env)]:=by rfl):PI X tg (.Call (.Name "range" p) [a] [] pos) (F7 T):=by
 intro pins s σ H R I h;refine Call_ (g9 I g hm boot_range (PyProof.Rows.callWith_type1 (zP (i pos pins s σ H _ I h) λus s1 ⟨vs,H1,k,c,Q⟩=>?_) f rfl));obtain⟨j,e,Q,d,q⟩:=Q;subst e;cases c with
 |cons r b=>
  cases b;obtain⟨t,rfl⟩:=r;exact call_range_1 (NY k (by omega) (by omega) Q d (by simpa using q))
def ED (w:TI)(g:TG)(t:TS):TS:=λD σ H=>w σ H λJ H1=>∃W:Nat->Nat->St->Hp->Prop,(∃m,W 0 m σ H1)/\∀i m σ H,W i m σ H->
 (J.stop i H/\D.nx σ H)∨(J.go i H/\∃N:St->Hp->Prop,(∀a h,N a h->∃M,M<m/\W (i+1) M a h)/\∀x h,J.yld i H x h->g x σ h λb c=>t { D with nx:=N,ct:=N,bk:=D.nx } b c)
noncomputable def Q3 (fp:bJ)(h:Heap):bK:=fp.filterMap λb=>(h.get? b).map λo=>(b,o)
def JL {o:Obj}(H:b∈fp)(e:h.get? b=some o):(b,o)∈Q3 fp h:=List.mem_filterMap.mpr ⟨b,H,by rw[e];rfl⟩
def PY {p:Addr×Obj}(H:p∈Q3 fp h):p.1∈fp/\h.get? p.1=some p.2:=by
 obtain⟨b,a,e⟩:=List.mem_filterMap.mp H;cases q:h.get? b with
 |none=>rw[q]at e;cases e|some o=>
  rw[q]at e;have E:(b,o)=p:=az e;subst E;exact⟨a,q⟩
def Inv.pinned {σ:St}{H:Hp}(I:Inv X pins σ H s)(hf:∀b∈fp,yR X pins H b)(c:∀b∈fp,∃o,s.heap.get? b=some o/\∀v,o.data≠.cell v):Inv X (pins++Q3 fp s.heap) σ H s:=
 I.pins_of λp a=>(List.mem_append.mp a).elim (λz=>I.pin p (aU _ z)) λz=>by
  obtain⟨h,e⟩:=PY z;obtain⟨f0,f1,f2,_⟩:=hf p.1 h;obtain⟨o,E,d⟩:=c p.1 h;rw[e]at E;cases E;exact⟨e,f0,f1,f2,d⟩
def Inv.unpinned {P:bK}{σ:St}{H:Hp}(I:Inv X (pins++P) σ H s):Inv X pins σ H s:=I.pins_of λp h=>I.pin p (aU _ (List.mem_append_left _ h))
def HK {iter:Expr}{Q:TI}{g:TG}{Y:TS}(z:PassesOwn (model X.prog X.w) X.A X.env X.xe)(Z:X.calm=true)(hi:PI X tg iter Q)(hg:PG X tg g)(k:jZ X body Y)
  (hs:∀x,foldedSetIterable iter X.env x=pure x:=by intro _;rfl):PS X (.For tg iter body [] pos) (ED Q g Y):=by
 intro pins s σ H D I h;refine wpAny_For (zP (hi pins s σ H _ I h) λv s1 h1=>zP h1 λitv s2 h2=>?_) hs;obtain⟨it,fp,U,J,H2,e,I2,T,kF,f2,W,⟨m0,w0⟩,turn⟩:=h2;subst e;have S:∀{H':Hp},(∀b∈fp,H' b=none)->∀b∈fp,yR X pins H' b:=λhn b k=>⟨hn b k,(f2 b k).2⟩;refine codeAny_forLoop_any (λn s'=>∃i j H',Inv X pins j H' s'/\U i s'.heap/\(∀b∈fp,H' b=none)/\W i n j H') ?_ m0 ⟨0,σ,H2,I2,kF,λb k=>(f2 b k).1,w0⟩
 rintro n s3 ⟨i,c,C,I3,kW,B,w3⟩
 rcases turn i n c C w3 with ⟨stop,qn⟩|⟨go,N,hN,step⟩
 ·refine wpAny_passesOwn z (zP (T.done X rfl rfl rfl Z i pins s3 c C X.xe I3 (S B) kW stop) λr s4 ⟨L,I4⟩=>?_)
  subst L;exact wpAny_execs_nil ⟨c,C,I4,qn⟩
 ·refine wpAny_passesOwn z (zP (T.item X rfl rfl rfl Z i pins s3 c C X.xe I3 (S B) kW go) λr s4 ⟨u,L,h4⟩=>?_)
  subst L;refine wpAny_passesOwn z (zP h4 λ_ s5 ⟨x,H5,I5,r5,y5,t,M⟩=>?_);have P:=I5.pinned (S M) (T.obj _ _ t);refine wpAny_passesOwn z (zP (hg _ s5 c H5 x u _ P r5 (step x H5 y5)) λ_ s6 ⟨E,H6,I6,q6⟩=>?_);refine wpAny_passesOwn z (zP (k _ s6 E H6 _ I6 q6) λf K q=>?_);have again:∀{a:St}{p:Hp},Inv X (pins++Q3 fp s5.heap) a p K->N a p->∃m,m<n/\∃i j H',Inv X pins j H' K/\U i K.heap/\(∀b∈fp,H' b=none)/\W i m j H':=λ {a p} l y=>by
   obtain⟨m',hm,w7⟩:=hN a p y;refine⟨m',hm,i+1,a,p,l.unpinned,T.keep _ _ _ t λb k o e=>(l.pin (b,o) (aU _ (aU _ (JL k e)))).1,λb k=>?_,w7⟩;obtain⟨o,e,d⟩:=T.obj _ _ t b k;exact(l.pin (b,o) (aU _ (aU _ (JL k e)))).2.1
  cases f with
  |next=>obtain⟨a,p,l,y⟩:=q;exact again l y|cont=>obtain⟨a,p,l,y⟩:=q;exact again l y|brk=>obtain⟨a,p,l,q⟩:=q;exact⟨a,p,l.unpinned,q⟩|ret v=>obtain⟨x7,a,p,l,r7,q⟩:=q;exact⟨x7,a,p,l.unpinned,r7,q⟩
end
abbrev R2:=V->V->Hp->VK->Prop
def qy (X:Cx)(f:Value->Value->Sem Value)(r:R2):Prop:=
 ∀(pins:bK)(s:Shared)(σ:St)(H:Hp)(x y:V)(v u:Value)(Q:VK),Inv X pins σ H s->RelV x v->RelV y u->r x y H Q->
  wpAny (model X.prog X.w) X.A (f v u) (EP X pins σ Q) X.xe s
def YW (X:Cx)(f:Value->Sem Value)(r:V->Hp->VK->Prop):Prop:=
 ∀(pins:bK)(s:Shared)(σ:St)(H:Hp)(x:V)(v:Value)(Q:VK),Inv X pins σ H s->RelV x v->r x H Q->
  wpAny (model X.prog X.w) X.A (f v) (EP X pins σ Q) X.xe s
def jD (X:Cx)(f:Value)(r:List V->Hp->VK->Prop):Prop:=
 ∀(pins:bK)(s:Shared)(σ:St)(H:Hp)(xs:List V)(us:bI)(Q:VK),Inv X pins σ H s->Vals xs us->r xs H Q->
  wpAny (model X.prog X.w) X.A (call f us) (EP X pins σ Q) X.xe s
noncomputable def Ju (r:R2)(T t:TE):TE:=λσ H Q=>T σ H λx H1=>t σ H1 λy h=>r x y h Q
noncomputable def Tz (r:V->Hp->VK->Prop)(t:TE):TE:=λσ H Q=>t σ H λx H1=>r x H1 Q
noncomputable def rI (C:Int->Int->Prop)(g:Int->Int->V):R2:=λx y H Q=>∃i j,x=.int i/\y=.int j/\C i j/\Q (g i j) H
noncomputable def wF (g:Int->Int->V):R2:=λx y H Q=>∃i j,x=.int i/\y=.int j/\Q (g i j) H
noncomputable def rU (g:Int->V):V->Hp->VK->Prop:=λx H Q=>∃i,x=.int i/\Q (g i) H
section
variable {X:Cx}{a b:Expr}{ta tb:TE}
def Gd (j:PE X a ta)(i:PE X b tb){σ:St}{H:Hp}{R:V->V->Hp->Prop}(I:Inv X pins σ H s)
  (h:ta σ H λx H1=>tb σ H1 λy c=>R x y c){f:Value->Value->Sem Value}
  (hf:∀v u s2 x y c,Inv X pins σ c s2->RelV x v->RelV y u->R x y c->wpAny (model X.prog X.w) X.A (f v u) Q X.xe s2):
  wpAny (model X.prog X.w) X.A (eval a X.env) (λv d=>wpAny (model X.prog X.w) X.A (eval b X.env) (λu S=>wpAny (model X.prog X.w) X.A (f v u) Q X.xe S) X.xe d) X.xe s:=by
 refine zP (j pins s σ H _ I h) λv s1 ⟨x,H1,l,e,g⟩=>?_;refine zP (i pins s1 σ H1 _ l g) λu s2 ⟨y,c,k,r,q⟩=>?_;exact hf v u s2 x y c k e r q
def FP {op:Operator}{r:R2}(o:qy X (binaryOp op) r)(f:PE X a ta)(e:PE X b tb):PE X (.BinOp a op b pos) (Ju r ta tb):=by
 intro pins s σ H Q I h;exact wpAny_BinOp (Gd f e I h λv u s2 x y g i d c q=>o pins s2 σ g x y v u Q i d c q)
def F2 {op:UnaryOp}{r:V->Hp->VK->Prop}(o:YW X (unaryOp op) r)(c:PE X a ta):PE X (.UnaryOp op a pos) (Tz r ta):=by
 intro pins s σ H Q I h;exact UnaryOp_ (zP (c pins s σ H _ I h) λv s1 ⟨x,H1,i,b,q⟩=>o pins s1 σ H1 x v Q i b q)
def Ka {f:Value->Value->Sem Value}{C:Int->Int->Prop}{g:Int->Int->Int}
  (rule:∀(i j:Int)(t u:Tok)(s:Shared)(Q:bN)(E:bN),C i j->Q (.int (g i j) s.toks) { s with toks:=s.toks+1 }->wpAny (model X.prog X.w) X.A (f (.int i t) (.int j u)) Q E s):
  qy X f (rI C λi j=>.int (g i j)):=by
 intro pins s σ H x y v u Q I a r h;obtain⟨i,j,rfl,rfl,c,q⟩:=h;obtain⟨t,rfl⟩:=a;obtain⟨t',rfl⟩:=r;exact rule i j t t' s _ _ c ⟨.int (g i j),H,I.tok _,⟨_,rfl⟩,q⟩
def Gh {f:Value->Value->Sem Value}{g:Int->Int->Int}
  (rule:∀(i j:Int)(t u:Tok)(s:Shared)(Q:bN)(E:bN),Q (.int (g i j) s.toks) { s with toks:=s.toks+1 }->wpAny (model X.prog X.w) X.A (f (.int i t) (.int j u)) Q E s):
  qy X f (wF λi j=>.int (g i j)):=by
 intro pins s σ H x y v u Q I a r h;obtain⟨i,j,rfl,rfl,q⟩:=h;obtain⟨t,rfl⟩:=a;obtain⟨t',rfl⟩:=r;exact rule i j t t' s _ _ ⟨.int (g i j),H,I.tok _,⟨_,rfl⟩,q⟩
def Yx {f:Value->Value->Sem Value}{g:Int->Int->Bool}
  (rule:∀(i j:Int)(t u:Tok)(s:Shared)(Q:bN)(E:bN),Q (.bool (g i j)) s->wpAny (model X.prog X.w) X.A (f (.int i t) (.int j u)) Q E s):
  qy X f (wF λi j=>.bl (g i j)):=by
 intro pins s σ H x y v u Q I a r h;obtain⟨i,j,rfl,rfl,q⟩:=h;obtain⟨t,rfl⟩:=a;obtain⟨t',rfl⟩:=r;exact rule i j t t' s _ _ ⟨.bl (g i j),H,I,rfl,q⟩
def Ta (i j:Int):Prop:=0<=j/\j<=1000000/\i.natAbs<2 ^ 64
def Ji (i j:Int):Prop:=(-(2 ^ 64)<i/\i<2 ^ 64)∨(-(2 ^ 64)<j/\j<2 ^ 64)
def Ji.ok {i j:Int}(h:Ji i j):IntMulOk i j:=by
 rcases h with ⟨a,H⟩|⟨a,H⟩
 ·exact .of_left (intBits_le_64 a H)
 ·exact .of_right (intBits_le_64 a H)
def H9:qy X (binaryOp .Add) (wF λi j=>.int (i+j)):=Gh λ_ _ _ _ _ _ _ q=>add_int q
def Iw:qy X (binaryOp .Sub) (wF λi j=>.int (i-j)):=Gh λ_ _ _ _ _ _ _ q=>sub_int q
def Il:qy X (binaryOp .Mult) (rI Ji λi j=>.int (i * j)):=Ka λ_ _ _ _ _ _ _ h q=>mul_int q h.ok
def IP:qy X (binaryOp .Mod) (rI (λ_ j=>0<j) λi j=>.int (i%j)):=Ka λi j _ _ _ _ _ h q=>by
 have H:(0:Int)<j:=h;exact mod_int' (by omega) (by rw[Int.fmod_eq_emod_of_nonneg i (by omega)];exact q)
def Ht:qy X (binaryOp .Pow) (rI Ta λi j=>.int (i ^ j.toNat)):=Ka λ_ _ _ _ _ _ _ h q=>pow_int_small h.1 h.2.1 h.2.2 q
def IH:qy X (binaryOp .BitXor) (wF λi j=>.int (Builtin.bitXor i j)):=Gh λ_ _ _ _ _ _ _ q=>xor_int q
def Dc {f:Value->Sem Value}{g:Int->Int}
  (rule:∀(i:Int)(t:Tok)(s:Shared)(Q:bN)(E:bN),Q (.int (g i) s.toks) { s with toks:=s.toks+1 }->wpAny (model X.prog X.w) X.A (f (.int i t)) Q E s):
  YW X f (rU λi=>.int (g i)):=by
 intro pins s σ H x v Q I r h;obtain⟨i,rfl,q⟩:=h;obtain⟨t,rfl⟩:=r;exact rule i t s _ _ ⟨.int (g i),H,I.tok _,⟨_,rfl⟩,q⟩
def Hk:YW X (unaryOp .USub) (rU λi=>.int (-i)):=Dc λ_ _ _ _ _ q=>neg_int q
variable {c:Expr}{tc:TE}
def Ft:qy X (compareOp .Lt) (wF λi j=>.bl (decide (i<j))):=Yx λ_ _ _ _ _ _ _ q=>lt_int q
def Fw:qy X (compareOp .LtE) (wF λi j=>.bl (decide (i<=j))):=Yx λ_ _ _ _ _ _ _ q=>le_int q
def Fv:qy X (compareOp .Gt) (wF λi j=>.bl (decide (j<i))):=Yx λ_ _ _ _ _ _ _ q=>gt_int q
def Fu:qy X (compareOp .GtE) (wF λi j=>.bl (decide (j<=i))):=Yx λ_ _ _ _ _ _ _ q=>ge_int q
def qy.or {f:Value->Value->Sem Value}{r c:R2}(h:qy X f r)(h':qy X f c):qy X f (λx y H Q=>r x y H Q∨c x y H Q):=by
 intro pins s σ H x y v u Q I b a q;rcases q with q|q
 ·exact h pins s σ H x y v u Q I b a q
 ·exact h' pins s σ H x y v u Q I b a q
def M4 {r:R2}(o:qy X (compareOp op) r)(f:PE X a ta)(e:PE X b tb)(hm:behindInMarks op b=false):PE X (.Compare a [op] [b] pos) (Ju r ta tb):=by
 intro pins s σ H Q I h;exact wpAny_Compare1 (Gd f e I h λv u s2 x y g i d c q=>o pins s2 σ g x y v u Q i d c q) hm
noncomputable def UT (t:TE):TT:=λσ H Q=>t σ H λx h=>∃k,x=.bl k/\Q k h
def Mr {r:R2}(o:qy X (compareOp op) r)(n:PE X a ta)(l:PE X b tb)(hm:behindInMarks op b=false):PT X (.Compare a [op] [b] pos) (UT (Ju r ta tb)):=by
 intro pins s σ H Q I h;refine wpAny_isTrue_Compare1 (zP (n pins s σ H _ I h) λv s1 ⟨x,H1,w,g,j⟩=>zP (l pins s1 σ H1 _ w j) λu s2 ⟨y,B,t,f,i⟩=>
  zP (o pins s2 σ B x y v u _ t g f i) λc s3 ⟨z,A,p,d,k,e,q⟩=>?_) hm
 subst e;cases d;exact wpAny_truthy_bool ⟨A,p,q⟩
noncomputable def WJ (r b:R2)(a T t:TE):TE:=λσ H Q=>a σ H λx H1=>T σ H1 λy d=>r x y d λz h=>∃k,z=.bl k/\
 (if k=true then t σ h λw c=>b y w c Q else Q (.bl false) h)
def NA {o:CmpOp}{r i:R2}(D:qy X (compareOp op) r)(f:qy X (compareOp o) i)(K:PE X a ta)(J:PE X b tb)(E:PE X c tc)
  (hm:lastMarks [op,o] [b,c]=false:=by with_unfolding_all rfl):PE X (.Compare a [op,o] [b,c] pos) (WJ r i ta tb tc):=by
 intro pins s σ H Q I h;refine Compare_chain (zP (K pins s σ H _ I h) λv s1 ⟨x,H1,N,t,C⟩=>chain_link (zP (J pins s1 σ H1 _ N C) λu s2 ⟨y,S,M,g,B⟩=>
  zP (D pins s2 σ S x y v u _ M t g B) λd s3 ⟨z,l,j,p,k,e,q⟩=>?_)) hm
 subst e;cases p;refine wpAny_truthy_bool ?_;cases k with
 |false=>exact ite_ff ⟨.bl false,l,j,rfl,q⟩|true=>exact ite_tt (chain_last (zP (E pins s3 σ l _ j q) λw s4 ⟨Z,P,L,n,A⟩=>f pins s4 σ P y Z u w Q L g n A))
def O2 {o:CmpOp}{r i:R2}(K:qy X (compareOp op) r)(f:qy X (compareOp o) i)(N:PE X a ta)(M:PE X b tb)(L:PE X c tc)
  (hm:lastMarks [op,o] [b,c]=false:=by with_unfolding_all rfl):PT X (.Compare a [op,o] [b,c] pos) (UT (WJ r i ta tb tc)):=by
 intro pins s σ H Q I h;refine isTrue_chain (zP (N pins s σ H _ I h) λv s1 ⟨x,H1,I1,A,E⟩=>test_link (zP (M pins s1 σ H1 _ I1 E) λu s2 ⟨y,H2,Y,g,D⟩=>
  zP (K pins s2 σ H2 x y v u _ Y A g D) λd s3 ⟨z,l,j,t,k,e,q⟩=>?_)) hm
 subst e;cases t;refine wpAny_truthy_bool ?_;cases k with
 |false=>
  obtain⟨k',S,J⟩:=q;cases S;exact ite_ff ⟨l,j,J⟩
 |true=>
  refine ite_tt (test_last (zP (L pins s3 σ l _ j q) λw s4 ⟨Z,H4,U,p,C⟩=>zP (f pins s4 σ H4 y Z u w _ U g p C) λd' s5 ⟨z2,H5,T,n,k2,P,B⟩=>?_));subst P;cases n;exact wpAny_truthy_bool ⟨H5,T,B⟩
def Q4:(sizeLine:Nat)<2 ^ 63:=by rw[sizeLine_eq];decide
def vals1 {x:V}(r:Vals [x] us):∃u,us=[u]/\RelV x u:=by
 cases r with
 |cons b a=>cases a;exact⟨_,rfl,b⟩
def vals2 {x y:V}(r:Vals [x,y] us):∃u w,us=[u,w]/\RelV x u/\RelV y w:=by
 cases r with
 |cons d c=>
  cases c with
  |cons b a=>cases a;exact⟨_,_,rfl,d,b⟩
def N0:jD X (.builtin "abs") (λxs H Q=>∃i,xs=[.int i]/\Q (.int (if i<0 then -i else i)) H):=by
 intro pins s σ H xs us Q I r h;obtain⟨i,rfl,q⟩:=h;obtain⟨u,rfl,t,rfl⟩:=vals1 r;exact call_abs_int λu tk=>⟨.int (if i<0 then -i else i),H,I.tok _,⟨_,rfl⟩,q⟩
def OE (c:X.calm=true):jD X (.builtin "max") (λxs H Q=>∃i j,xs=[.int i,.int j]/\Q (.int (if j > i then j else i)) H):=by
 intro pins s σ H xs us Q I r h;obtain⟨i,j,rfl,q⟩:=h;obtain⟨u,w,rfl,⟨t,rfl⟩,⟨t',rfl⟩⟩:=vals2 r;refine max_two_ints (I.ok.hd c) λh' tk k=>⟨_,H,I.kept k,?_,q⟩
 by_cases a:j > i
 ·rw[ah a,ah a];exact⟨_,rfl⟩
 ·rw[ar a,ar a];exact⟨_,rfl⟩
def OC (c:X.calm=true):jD X (.builtin "min") (λxs H Q=>∃i j,xs=[.int i,.int j]/\Q (.int (if j<i then j else i)) H):=by
 intro pins s σ H xs us Q I r h;obtain⟨i,j,rfl,q⟩:=h;obtain⟨u,w,rfl,⟨t,rfl⟩,⟨t',rfl⟩⟩:=vals2 r;refine min_two_ints (I.ok.hd c) λh' tk k=>⟨_,H,I.kept k,?_,q⟩
 by_cases a:j<i
 ·rw[ah a,ah a];exact⟨_,rfl⟩
 ·rw[ar a,ar a];exact⟨_,rfl⟩
def PQ:jD X (.type "int") (λxs H Q=>(∃i,xs=[.int i]/\Q (.int i) H)∨∃k,xs=[.bl k]/\Q (.int (if k then 1 else 0)) H):=by
 intro pins s σ H xs us Q I r h;rcases h with ⟨i,rfl,q⟩|⟨k,rfl,q⟩
 ·obtain⟨u,rfl,t,rfl⟩:=vals1 r
  exact call_int_int ⟨.int i,H,I,⟨_,rfl⟩,q⟩
 ·obtain⟨u,rfl,a⟩:=vals1 r
  cases a;exact call_int_bool ⟨.int (if k then 1 else 0),H,I.tok _,⟨_,rfl⟩,q⟩
end
structure Gb (h:Heap)(x dx C:Addr)(mA:bP):Prop where
 obj:h.get? x=some (instObj C dx)
 ns:h.Ns1 dx mA
 ne:dx≠x
def PX {D:Addr}{M:bP}(n:h.Ns1 D M):∃d,h.get? D=some d/\∀name,lookIn name d=some (M name):=by
 obtain⟨o,E,p,c,hd,k,_,hm⟩:=n;refine⟨o,c,λname=>?_⟩;have e:=hm name;unfold nsFind findBy at e;rw[<- Array.find?_toList]at e;unfold lookIn;rw[hd];dsimp only
 split
 ·rename_i y q
  rw[q]at e;exact congrArg some e
 ·rename_i q
  rw[q]at e;have a:E.toList.any (·.refKey)=false:=by
   rw[List.any_eq_false];intro y b;obtain⟨z,t,H⟩:=k y (Array.mem_toList_iff.mp b);simp[DictEntry.refKey,H]
  have A:¬E.toList.any (·.refKey)=true:=by rw[a];exact ay
  rw[ar A];exact congrArg some e
def Gb.look {x d C:Addr}{M:bP}(I:Gb h x d C M):∃o,PySem.W.InstAt h x (instObj C d) C (some o)/\∀name,lookIn name o=some (M name):=
 let ⟨o,H,l⟩:=PX I.ns
 ⟨o,⟨I.obj,rfl,rfl,H⟩,l⟩
section
variable {H:Hp}{C dx:Addr}{fs:List (Str×V)}
def Lo (hok:jK P w H h)(e:H a=some (.ins C dx fs)):∃M,Gb h a dx C M/\(∀f,W9 (fs.lookup f) (M f))/\PySem.Within M (fs.map (·.1))/\fs.length<=1000/\H dx=some (.own a):=by
 obtain⟨d,z,ne,ob,M,n,r,q⟩:=(show qQ P w H h a (.ins C dx fs) from hok a _ e)
 exact⟨M,⟨ob,n,ne⟩,r,q,z,d⟩
end
structure kh (K:Frag)(C:Addr):Prop where
 pg:plainGet K C Str.empty=true
 hd:PySem.W.hasDictIn K C=true
 po:PySem.W.plainOver K C=true
 sa:PySem.W.findIn K (.ref C) "__setattr__"=some (some (.builtin "object.__setattr__"))
def kh.get {K:Frag}{C:Addr}(c:kh K C)(f:Str):plainGet K C f=true:=c.pg
section
variable {X:Cx}{σ:St}{H:Hp}{A:Around}{c:Value}{b:Bool}
inductive kx (K:Frag)(H:Hp):V->Value->Prop where
 |non:kx K H .non (.type "NoneType")
 |bl (x:Bool):kx K H (.bl x) (.type "bool")
 |int (i:Int):kx K H (.int i) (.type "int")
 |str (x:Str):kx K H (.str x) (.type "str")
 |flt (x:UInt64):kx K H (.flt x) (.type "float")
 |lst {a:Addr} {xs:List V} (e:H a=some (.lst xs)):kx K H (.ref a) (.type "list")
 |frz {a:Addr} {o:Obj} {xs:List V} (e:H a=some (.frz o (.lst xs))):kx K H (.ref a) (.type "list")
 |tup {a:Addr} {xs:List V} (e:H a=some (.tup xs)):kx K H (.ref a) (.type "tuple")
 |dK {a:Addr} {kvs:List (Key×V)} (e:H a=some (.dK kvs)):kx K H (.ref a) (.type "dict")
 |dT {a:Addr} {kvs:List (List Key×V)} (e:H a=some (.dT kvs)):kx K H (.ref a) (.type "dict")
 |ins {a C dx:Addr} {fs:List (Str×V)} (e:H a=some (.ins C dx fs)) (cl:kh K C) (ha:PySem.W.findIn K (.ref C) "__class__"=some (some (.builtin "object.__class__")))
   (hn:PySem.W.specialIn K (.builtin "object.__class__") "__get__"=some (some (.builtin "getset_descriptor.__get__"))) (htk:PySem.W.takesIn K (.builtin "object.__class__")=some true)
   (hm:PySem.W.mroIn K C (.type "object")=some true):kx K H (.ref a) (.ref C)
def XZ {x:V}{t:Value}(I:Inv X pins σ H s)(r:RelV x u)(ty:kx X.K H x t)(e:kitOne X.K t c=some b)(h:∀tk,Q (.bool b) { s with toks:=tk }):
  wpAny (model X.prog X.w) A (call (.builtin "isinstance") [u,c]) Q E s:=by
 cases ty with
 |non=>cases (show u=Value.none from r);exact br kitx_none I.kIn True.intro e (λz=>nomatch z) h
 |bl y=>cases (show u=Value.bool y from r);exact br kitx_bool I.kIn True.intro e (λz=>nomatch z) h
 |int i=>obtain⟨t,q⟩:=(show ∃t,u=Value.int i t from r);cases q;exact br kitx_int I.kIn True.intro e (λz=>nomatch z) h
 |str y=>obtain⟨t,q⟩:=(show ∃t,u=Value.str y t from r);cases q;exact br kitx_str I.kIn True.intro e (λz=>nomatch z) h
 |flt y=>obtain⟨t,q⟩:=(show ∃t,u=Value.float y t from r);cases q;exact br kitx_float I.kIn True.intro e (λz=>nomatch z) h
 |@lst a xs ea=>
  cases (show u=Value.ref a from r)
  obtain⟨_,_,n,_,d⟩:=(show qQ X.prog X.w H s.heap a (.lst xs) from I.hok a _ ea)
  exact br kitx_list I.kIn ⟨_,d,rfl⟩ e (λz=>nomatch z) h
 |@frz a ob xs ea=>
  cases (show u=Value.ref a from r)
  obtain⟨_,_,_,n,_,d⟩:=(show qQ X.prog X.w H s.heap a (.frz ob (.lst xs)) from I.hok a _ ea)
  exact br kitx_list I.kIn ⟨_,d,rfl⟩ e (λz=>nomatch z) h
 |@tup a xs ea=>
  cases (show u=Value.ref a from r)
  obtain⟨_,_,_,p⟩:=(show qQ X.prog X.w H s.heap a (.tup xs) from I.hok a _ ea)
  obtain⟨o,d,f,_⟩:=p;exact br kitx_tuple I.kIn ⟨o,d,f.1⟩ e (λz=>nomatch z) h
 |@dK a k ea=>
  cases (show u=Value.ref a from r)
  obtain⟨_,_,vs,_,p⟩:=(show qQ X.prog X.w H s.heap a (.dK k) from I.hok a _ ea)
  obtain⟨o,l,v,d,f,_⟩:=p;exact br kitx_dict I.kIn ⟨o,d,f.1⟩ e (λz=>nomatch z) h
 |@dT a k ea=>
  cases (show u=Value.ref a from r)
  obtain⟨_,_,xs,_,o,l,v,d,f,_⟩:=(show qQ X.prog X.w H s.heap a (.dT k) from I.hok a _ ea)
  exact br kitx_dict I.kIn ⟨o,d,f.1⟩ e (λz=>nomatch z) h
 |@ins a C dx fs ea cl j hn g hm=>
  cases (show u=Value.ref a from r)
  obtain⟨M,O,_⟩:=Lo I.hok ea;obtain⟨B,J,_⟩:=O.look;exact br (PySem.W.kitx_own (cl.get _) cl.hd j hn g hm) I.kIn J e (λz=>nomatch z) h
end
structure jo (k:Nat)(A:Around):Prop where
 hd:A.handled=none
 dp:A.depth+3 * k+5<recursionLimit
 un:A.units+16 * k+200<cLine
def jo.mono {A:Around}(r:jo k A)(h:j<=k):jo j A:=⟨r.hd,by have:=r.dp;omega,by have:=r.un;omega⟩
theorem jo.deeper {A:Around}(r:jo (k+1) A)(env:Env):jo k (A.deeper env):=
 ⟨r.hd,by have:=r.dp;show A.depth+1+3 * k+5<_;omega,by have:=r.un;show A.units+3+16 * k+200<_;omega⟩
theorem jo.depth {A:Around}(r:jo k A):A.depth<recursionLimit:=by have:=r.dp;omega
theorem jo.units {A:Around}(r:jo k A):A.units+64<cLine:=by have:=r.un;omega
noncomputable def W4:TA:=λ_ H Q=>Q [] H
noncomputable def Yn (T:TE)(t:TA):TA:=λσ H Q=>T σ H λx H1=>t σ H1 λxs h=>Q (x::xs) h
section
variable {X:Cx}{es:bO}{te:TE}{t:TA}
def jH:PA X [] W4:=λ_ _ _ _ H Q I h=>Calls.spliced_nil ⟨[],H,I,.nil,h⟩
def qZ (f:PE X e te)(d:PA X es t)(c:starEach (e::es) X.env=(false,eval e X.env)::starEach es X.env:=by rfl):PA X (e::es) (Yn te t):=by
 intro pos pins s σ H Q I h;rw[c];show wpAny _ _ (spliced ((false,eval e X.env)::backTo pos (starEach es X.env))) _ _ s;refine Calls.spliced_cons (zP (f pins s σ H _ I h) λu s1 ⟨x,H1,g,a,b⟩=>?_);exact zP (d pos pins s1 σ H1 _ g b) λus s2 ⟨xs,j,i,r,q⟩=>⟨x::xs,j,i,.cons a r,q⟩
def E4 (t:TA):TE:=λσ H Q=>t σ H λxs H1=>xs.length<=sizeLine/\∀p,H1 p=none->Q (.ref p) (upd H1 p (.tup xs))
def Ez (t:TA):TE:=λσ H Q=>t σ H λxs H1=>xs.length<=sizeLine/\∀p,H1 p=none->Q (.ref p) (upd H1 p (.lst xs))
def UA {x1}(h:PA X es t):PE X (.Tuple es x1 pos) (E4 t):=by
 intro pins s σ H Q I a;refine wpAny_Tuple_spliced (zP (h pos pins s σ H _ I a) λus s1 ⟨xs,H1,i,r,z,q⟩=>⟨by rw[<- r.length];exact z,?_⟩)
 have hf:H1 s1.heap.objs.size=none:=i.hok.fresh (aw _);refine⟨.ref s1.heap.objs.size,upd H1 s1.heap.objs.size (.tup xs),i.laid (t':=s1.toks) (λb u e=>af _ e) (aw _) ?_,rfl,q _ hf⟩;exact⟨z,us,r,⟨_,ao _ rfl,⟨rfl,rfl⟩,_,rfl⟩⟩
def HG (h:PA X es t):PE X (.List es pos) (Ez t):=by
 intro pins s σ H Q I a;refine wpAny_List_spliced (zP (h pos pins s σ H _ I a) λus s1 ⟨xs,H1,i,r,z,q⟩=>⟨by rw[<- r.length];exact z,?_⟩)
 have hf:H1 s1.heap.objs.size=none:=i.hok.fresh (aw _);refine⟨.ref s1.heap.objs.size,upd H1 s1.heap.objs.size (.lst xs),i.laid (t':=s1.toks) (λb u e=>af _ e) (aw _) ?_,rfl,q _ hf⟩;exact⟨z,us,0,r,ao _ rfl⟩
end
abbrev Sp:=List V->Hp->VK->XK->Prop
abbrev kU:=List Env->Hp->Shared->XK->Value->Shared->Prop
structure Qs (P:Program)(w:World)(K:Frag)(mg:bP)(base:Heap)(A:Around)(outer:bQ)(s:Shared)(H:Hp):Prop where
 frames:A.frames=some outer
 mod:Mod K mg base
 bs:∀b o,base.get? b=some o->s.heap.get? b=some o/\H b=none
 bsz:base.objs.size<=s.heap.objs.size
 funs:s.heap.FunFrames base outer
 frf:∀b∈qe outer,H b=none
 hok:jK P w H s.heap
 bare:AllBare s.gens
inductive CE (outer:bQ)(P:Program)(w:World)(H:Hp)(s:Shared)(Q:VK)(u:Value)(s':Shared):Prop
 |mk (v:V) (H':Hp) (os:s'.os=s.os) (b:AllBare s'.gens) (un:Un (qe outer) [] H H' s.heap s'.heap) (hk:jK P w H' s'.heap) (r:RelV v u) (q:Q v H')
def CR (C:kU)(outer:bQ)(P:Program)(w:World)(H:Hp)(s:Shared)(Q:VK)(E:XK)(r:Result)(s':Shared):Prop:=
 match r with
 |.ok (.ret u)=>CE outer P w H s Q u s'|.ok _=>False|.error e=>C outer H s E e s'
structure j7 (P:Program)(w:World)(K:Frag)(mg:bP)(base:Heap)(CX:kU)(k:Nat)(f:Addr)(fd:FuncData)(ps:bM)(sp:Sp):Prop where
 len:∀vs H Q E,sp vs H Q E->vs.length=ps.length
 run:∀(A:Around)(outer:bQ)(s:Shared)(H:Hp)(args:Args)(us:bI)(vs:List V)(Q:VK)(E:XK),jo k A->Qs P w K mg base A outer s H->BindsTo s fd args (ps.zip us)->Vals vs us->sp vs H Q E->
  codeAny (model P w) A (.call (.ref f) args) (CR CX outer P w H s Q E) s
theorem j7.mono {K:Frag}{C:kU}{sp:Sp}(F:j7 P w K mg base C j f fd ps sp)(h:j<=k):
  j7 P w K mg base C k f fd ps sp:=⟨F.len,λA outer s H args us vs Q E r=>F.run A outer s H args us vs Q E (r.mono h)⟩
def j7.imp {K:Frag}{C:kU}{sp S:Sp}(F:j7 P w K mg base C k f fd ps sp)
  (h:∀vs H Q E,S vs H Q E->sp vs H Q E):j7 P w K mg base C k f fd ps S:=
 ⟨λvs H Q E q=>F.len vs H Q E (h _ _ _ _ q),λA outer s H args us vs Q E r he b v a=>F.run A outer s H args us vs Q E r he b v (h _ _ _ _ a)⟩
section
variable {X:Cx}{σ:St}{H:Hp}
def Inv.env0 (I:Inv X pins σ H s):Qs X.prog X.w X.K X.mg X.base X.A X.stack s H:=
 ⟨I.ok.frames,I.ok.mod,I.bs,a8 I.ok.bsz I.sz,I.stack,I.stkFree,I.hok,I.bare⟩
def Inv.after {Q:VK}(I:Inv X pins σ H s)(h:CE X.stack X.prog X.w H s Q u s'):EP X pins σ Q u s':=by
 obtain⟨v,c,os,bare,un,hok,r,q⟩:=h;obtain⟨a,g,d,t,o⟩:=s';obtain rfl:o=s.os:=os;exact⟨v,c,I.call (h':=a) (g':=g) (d':=d) (t':=t) (ch:=[]) un hok bare (λb z=>absurd z (by simp)),r,q⟩
end
noncomputable def Ff (sp:Sp)(d:List V)(E:XK)(t:TA):TE:=λσ H Q=>t σ H λvs H1=>sp (vs++d) H1 Q E
def Binds (K:Frag)(fd:FuncData)(ps:bM)(ds:bI):Prop:=
 ∀(s:Shared)(us:bI),K.In s.heap->(us++ds).length=ps.length->BindsTo s fd ⟨us,[]⟩ (ps.zip (us++ds))
def Binds.all {K:Frag}(h:∀us:bI,us.length=ps.length->bindArgs fd ⟨us,[]⟩=pure (ps.zip us)):Binds K fd ps []:=λs us _ H=>by
 rw[bo]at H ⊢;exact .of_eq (h us H)
def Passes (C:kU)(X:Cx)(E:XK):Prop:=∀(pins:bK)(σ:St)(H:Hp)(s:Shared)(e:Value)(s':Shared),Inv X pins σ H s->C X.stack H s E e s'->X.xe e s'
section
variable {X:Cx}{CX:kU}{sp:Sp}{dvs:List V}{ds:bI}{E:XK}{es:bO}{t:TA}
def Hr {σ:St}{H:Hp}{Q:VK}{vs:List V}(F:j7 X.prog X.w X.K X.mg X.base CX k f fd ps sp)(b:jo k X.A)(c:Binds X.K fd ps ds)(hd:Vals dvs ds)(x:Passes CX X E)
  (I:Inv X pins σ H s)(r:Vals vs us)(h:sp (vs++dvs) H Q E):wpAny (model X.prog X.w) X.A (call (.ref f) us) (EP X pins σ Q) X.xe s:=by
 have a:Vals (vs++dvs) (us++ds):=r.append hd;have l:(us++ds).length=ps.length:=by rw[<- a.length];exact F.len _ _ _ _ h
 refine wpAny_call (codeAny_mono (F.run X.A X.stack s H ⟨us,[]⟩ (us++ds) (vs++dvs) Q E b I.env0 (c s us I.kIn l) a h) λr s' q=>?_);cases r with
 |error e=>exact x pins σ H s e s' I q|ok d=>
  cases d with
  |ret u=>exact I.after q|next=>exact False.elim q|brk=>exact False.elim q|cont=>exact False.elim q
def VV (F:j7 X.prog X.w X.K X.mg X.base CX k f fd ps sp)(c:jo k X.A)(g:Gl X x)(hm:X.mg x=some (.ref f))(d:keepIn X.K (.ref f)=true)(j:Binds X.K fd ps ds)(hd:Vals dvs ds)(a:Passes CX X E)
  (n:PA X (e::es) t)(b:(x==("__debug__":Str))=false:=by decide)(he:starEach (e::es) X.env=(false,eval e X.env)::starEach es X.env:=by rfl)(l:(backTo pos (starEach es X.env)).any (·.1)=false:=by rfl):
  PE X (.Call (.Name x p) (e::es) [] pos) (Ff sp dvs E t):=by
 intro pins s σ H Q I h;refine wpAny_Call_Name_kw (QV I g hm ?_ b);refine callWith_K (h₀:=X.base) I.ok.mod.kin d (zP (n pos pins s σ H _ I h) λus s1 ⟨vs,H1,i,r,q⟩=>⟨i.kIn,?_⟩) he l;exact Hr F c j hd a i r q
end
structure jh (N P:bM)(sc:Scope):Prop where
 kind:sc.kind=.function
 co:sc.isCoroutine=false
 gen:sc.isGenerator=false
 nd:N.Nodup
 pre:N.take P.length=P
 par:∀x∈P,sc.names.lookup x=some .local∨sc.names.lookup x=some .cell
 nofree:∀y∈sc.names,y.2≠.free
theorem X5 {kindOf:Str->Option NameKind}:∀{binds:List (Str×Value)}{m:bP},(∀v,(x,v)∉binds)->bindL kindOf binds m x=m x
 |[],_,_=>rfl|(n,v)::r,m,h=>by
  unfold bindL;rw[X5 λw hw=>h w (ai _ hw)]
  split
  ·have:x≠n:=by rintro rfl;exact h v ax
   simp[this]
  ·rfl
theorem XX {kindOf:Str->Option NameKind}:∀{binds:List (Str×Value)}{m:bP},(∀v,(x,v)∉binds)->bindC kindOf binds m x=m x
 |[],_,_=>rfl|(n,v)::r,m,h=>by
  unfold bindC;rw[XX λw hw=>h w (ai _ hw)]
  split
  ·rfl
  ·have:x≠n:=by rintro rfl;exact h v ax
   simp[this]
theorem X2 {kindOf:Str->Option NameKind}{v:Value}:∀{P:bM}{vs:bI}{i:Nat}{m:bP},P.Nodup->P[i]? =some x->vs[i]? =some v->kindOf x=some .local->
  bindL kindOf (P.zip vs) m x=some v
 |[],_,_,_,_,h,_,_=>by simp at h|_::_,[],_,_,_,_,h,_=>by simp at h|p::P,w::vs,0,m,nd,h1,H,k=>by
  simp at h1 H;subst h1;subst H;show bindL kindOf ((p,w)::P.zip vs) m p=_;unfold bindL;rw[X5 λv a=>(List.nodup_cons.mp nd).1 (of_mem_zip a).1,ah k];simp
 |p::P,w::vs,i+1,m,nd,h1,H,k=>by
  show bindL kindOf ((p,w)::P.zip vs) m x=_;unfold bindL;exact X2 (i:=i) (List.nodup_cons.mp nd).2 (by simpa using h1) (by simpa using H) k
theorem X6 {kindOf:Str->Option NameKind}{v:Value}:∀{P:bM}{vs:bI}{i:Nat}{m:bP},P.Nodup->P[i]? =some x->vs[i]? =some v->kindOf x≠some .local->
  bindC kindOf (P.zip vs) m x=some v
 |[],_,_,_,_,h,_,_=>by simp at h|_::_,[],_,_,_,_,h,_=>by simp at h|p::P,w::vs,0,m,nd,h1,H,k=>by
  simp at h1 H;subst h1;subst H;show bindC kindOf ((p,w)::P.zip vs) m p=_;unfold bindC;rw[XX λv a=>(List.nodup_cons.mp nd).1 (of_mem_zip a).1,ar k];simp
 |p::P,w::vs,i+1,m,nd,h1,H,k=>by
  show bindC kindOf ((p,w)::P.zip vs) m x=_;unfold bindC;exact X6 (i:=i) (List.nodup_cons.mp nd).2 (by simpa using h1) (by simpa using H) k
noncomputable def start (N:bM)(vs:List V):St:=vs.map some++List.replicate (N.length-vs.length) none
noncomputable def kv (C:kU)(P:Program)(w:World)(K:Frag)(mg:bP)(base:Heap)(N:bM)(qual:Str)(scope:Scope)(f:Addr)(cd:Value)(A:Around)(outer:bQ)(s:Shared)(H:Hp)(E:XK):Cx where
 prog:=P
 w:=w
 K:=K
 mg:=mg
 base:=base
 A:=A.deeper (envOfC qual scope s.heap.objs.size f cd)
 N:=N
 s0:=s
 H0:=H
 env:=envOfC qual scope s.heap.objs.size f cd
 outer:=outer
 stack:=envOfC qual scope s.heap.objs.size f cd::outer
 ex:=[]
 calm:=true
 fn:=λ_=>true
 pn:=[]
 xe:=λe s'=>wpAny (model P w) (A.deeper (envOfC qual scope s.heap.objs.size f cd)) (leaving (envOfC qual scope s.heap.objs.size f cd) e) (λ_ S=>C outer H s E e S) (λa S=>C outer H s E a S) s'
def Vq (h:sc.names.lookup x=some .cell):∃c,(cellsFrom n sc.names []).lookup x=some c:=by
 have q:=cellsFrom_some sc.names n [] (.inl h);exact Option.isSome_iff_exists.mp q
def ON {X:kU}{K:Frag}{cd:Value}{A:Around}{outer:bQ}{s1:Shared}{H:Hp}{E:XK}{vs:List V}
  (S:jh N ps scope)(hd:A.handled=none)(g:Qs P w K mg base A outer s H)(Q:vs.length=ps.length)(r:Vals vs us)
  (x:InCallC s s.heap.objs.size (bindL (envOfC qual scope s.heap.objs.size f cd).kindOf (ps.zip us) λ_=>none) (cellsFrom (s.heap.objs.size+1) scope.names []) (bindC (envOfC qual scope s.heap.objs.size f cd).kindOf (ps.zip us) λ_=>none) s1):
  Inv (kv X P w K mg base N qual scope f cd A outer s H E) [] (start N vs) H s1:=by
 have L:ps.length<=N.length:=by have:=congrArg List.length S.pre;rw[bw]at this;omega
 obtain⟨C,tk,rfl,I⟩:=x.done;have j:∀b:Addr,b∉(kv X P w K mg base N qual scope f cd A outer s H E).ex:=λb z=>absurd (show b∈([]:bJ) from z) (by simp)
 refine⟨⟨g.mod,S.kind,rfl,rfl,aw _,λy z c C d=>?_,λy l=>?_,λy c _ h=>?_,λ_=>hd,Around.frames_deeper g.frames,.inr ⟨rfl,rfl⟩,λb z=>absurd z (j b),g.bs,g.bsz,λb _ _=>j b,λb z=>absurd z (j b),g.funs,g.frf⟩,
  rfl,g.bare,Un.kept I,⟨_,x.toInCall.ns,λi y v C d T=>?_⟩,λy c h=>⟨_,x.cell y c h⟩,g.hok.fresh (aw _),λy c h=>?_,λp t=>absurd (show p∈([]:bK) from t) (by simp),g.hok.kept I,?_⟩
 ·exact name_of_addr x.apart (PySem.mem_of_lookup C) (PySem.mem_of_lookup d)
 ·have l:scope.names.lookup y=some .cell∨scope.names.lookup y=some .free:=l
  rcases l with l|l
  ·exact Vq l
  ·exact absurd rfl (S.nofree _ (PySem.mem_of_lookup l))
 ·exact bg (x.above y c (PySem.mem_of_lookup h))
 ·have B:i<vs.length:=by
   unfold start at d
   by_cases B:i<vs.length
   ·exact B
   ·rw[au (by simpa using B)]at d
    rw[bj]at d
    split at d<;>cases d
  have M:vs[i]? =some v:=by
   unfold start at d;rw[ag (by simpa using B),av]at d
   cases e:vs[i]? with
   |none=>rw[e]at d;cases d|some a=>rw[e]at d;cases d;rfl
  obtain⟨u,D,J⟩:=r.get M;have t:ps[i]? =some y:=by
   rw[<- S.pre,List.getElem?_take_of_lt (by omega)];exact C
  have o:ps.Nodup:=by rw[<- S.pre];exact S.nd.sublist (List.take_sublist _ _)
  refine⟨u,J,?_⟩;rcases S.par y (mem_of_getElem? t) with k|k
  ·exact .inl ⟨k,X2 o t D k⟩
  ·obtain⟨c,e⟩:=Vq (n:=s.heap.objs.size+1) k
   refine .inr ⟨.inl k,c,e,?_⟩;have q:=x.cell y c e;rw[X6 o t D (by show scope.names.lookup y≠_;rw[k];decide)]at q
   exact q
 ·exact g.hok.fresh (bg (x.above y c (PySem.mem_of_lookup h)))
 ·unfold start
  show _=N.length;rw[aG,aj,bt];omega
def WR {C:kU}{K:Frag}{name:Str}{params:Arguments}{D kV doc pm c ct M:Value}{an L:bT}
  {sp:Sp}(lk:K.lookup f=some ⟨M,L,.func (fnOf name qual params body scope D kV doc pm an c ct),osl⟩)(B:codeIn K c qual=true)(S:jh N ps scope)
  (len:∀vs H Q E,sp vs H Q E->vs.length=ps.length)
  (g:∀(A:Around)(outer:bQ)(s:Shared)(H:Hp)(vs:List V)(Q:VK)(E:XK),jo k (A.deeper (envOfC qual scope s.heap.objs.size f c))->sp vs H Q E->
   ∃t,jZ (kv C P w K mg base N qual scope f c A outer s H E) body t/\t { nx:=λ_ h=>Q .non h,rt:=Q } (start N vs) H):
  j7 P w K mg base C (k+1) f (fnOf name qual params body scope D kV doc pm an c ct) ps sp:=by
 refine⟨len,λA outer s H args us vs Q E z j hb r p=>?_⟩;have Z:=len _ _ _ _ p;have X:K.In s.heap:=j.mod.kin.keeps λb o e=>(j.bs b o e).1;have lim:s.heap.NoLimit:=j.mod.nolimit.keeps λb o e=>(j.bs b o e).1;have d:∀y∈ps.zip us,scope.names.lookup y.1=some .local∨(scope.names.lookup y.1=some .cell/\((cellsFrom (s.heap.objs.size+1) scope.names []).lookup y.1).isSome=true):=λ⟨n,v⟩ T=>by
  rcases S.par n (of_mem_zip T).1 with q|q
  ·exact .inl q
  ·exact .inr ⟨q,cellsFrom_some _ _ _ (.inl q)⟩
 refine codeAny_call_function z.depth (X _ _ lk) rfl S.co S.gen rfl (PySem.W.codeRec_of X B) (hb _ _ _ _ ?_);refine wpAny_newFunctionEnv_cells S.kind d λenv he s1 x=>?_;subst he;refine⟨lim.keeps x.toInCall.keep,codeAny_func ?_⟩;obtain⟨t,U,Y⟩:=g A outer s H vs Q E (z.deeper _) p;have I:Inv (kv C P w K mg base N qual scope f c A outer s H E) [] (start N vs) H s1:=ON S z.hd j Z r x;refine wpAny_mono (U [] s1 (start N vs) H _ I Y) (λfl s' i=>?_) λe s' i=>i;have fin:∀{a:St}{h:Hp}{v:V}{u:Value},Inv (kv C P w K mg base N qual scope f c A outer s H E) [] a h s'->RelV v u->Q v h->CE outer P w H s Q u s':=
  λ {a h v u} J l q=>⟨v,h,J.os,J.bare,J.base,J.hok,l,q⟩
 cases fl with
 |ret u=>
  obtain⟨v,a,h,J,l,q⟩:=i;exact fin J l q
 |next=>
  obtain⟨a,h,J,q⟩:=i;exact fin (v:=V.non) (u:=Value.none) J rfl q
 |brk=>
  obtain⟨_,_,_,q⟩:=i;exact False.elim q
 |cont=>
  obtain⟨_,_,_,q⟩:=i;exact False.elim q
section
variable {X:Cx}{es:bO}{t:TA}{id T:String}{r:List V->Hp->VK->Prop}
noncomputable def Y0 (r:List V->Hp->VK->Prop)(t:TA):TE:=λσ H Q=>t σ H λvs H1=>r vs H1 Q
def gO (c:jD X (.builtin id) r)(g:Gl X x)(hm:X.mg x=none)(v:bootBuiltins x=some (.builtin id))(d:PA X (e::es) t)(hn:x ≠ "__name__":=by decide)(b:(x==("__debug__":Str))=false:=by decide)
  (he:starEach (e::es) X.env=(false,eval e X.env)::starEach es X.env:=by rfl)(l:(backTo pos (starEach es X.env)).any (·.1)=false:=by rfl):PE X (.Call (.Name x p) (e::es) [] pos) (Y0 r t):=by
 intro pins s σ H Q I h;refine wpAny_Call_Name_kw (g9 I g hm v ?_ hn b);exact PyProof.Rows.callWith_builtin1 (zP (d pos pins s σ H _ I h) λus s1 ⟨vs,H1,i,a,q⟩=>c pins s1 σ H1 vs us Q i a q) he l
def Z4 (c:jD X (.type T) r)(g:Gl X x)(hm:X.mg x=none)(v:bootBuiltins x=some (.type T))(d:PA X (e::es) t)(hn:x ≠ "__name__":=by decide)(b:(x==("__debug__":Str))=false:=by decide)
  (he:starEach (e::es) X.env=(false,eval e X.env)::starEach es X.env:=by rfl)(l:(backTo pos (starEach es X.env)).any (·.1)=false:=by rfl):PE X (.Call (.Name x p) (e::es) [] pos) (Y0 r t):=by
 intro pins s σ H Q I h;refine wpAny_Call_Name_kw (g9 I g hm v ?_ hn b);exact PyProof.Rows.callWith_type1 (zP (d pos pins s σ H _ I h) λus s1 ⟨vs,H1,i,a,q⟩=>c pins s1 σ H1 vs us Q i a q) he l
end
end L2
variable {X:L2.Cx}{H:L2.Hp}{vs xs ys:List L2.V}{r:List L2.V->L2.Hp->L2.VK->Prop}{σ:L2.St}{v:L2.V}
namespace HT
open PySem PyProof.Rows
section
open PySem.SeqAt
open PySem.AutoSeq1 (wpAny_loadPart')
open PySem.MeetsSeq PySem.MeetsSeq2 PySem.MeetsSeq3
end
section
variable {prog:Program}{A:Around}
def La {t:Addr}{vs ws:bI}(a:IsTup s.heap t vs.toArray)(f:IsTup s.heap b ws.toArray)(v:vs≠[])
  (i:ws=[]->Q (.ref t) s)(g:ws≠[]->Q (.ref s.heap.objs.size) { s with heap:=s.heap.push { cls:=.type "tuple",data:=.seq (vs++ws).toArray } })
  (z:vs.length+ws.length<=sizeLine):wpAny (model prog w) A (binaryOp .Add (.ref t) (.ref b)) Q E s:=by
 obtain⟨⟨cls,dd,data,l⟩,o,c,n,hd⟩:=id a;obtain⟨⟨C,d,data2,S⟩,h,H,N,hd2⟩:=id f;simp only at c hd H hd2;subst c hd H hd2;have e:vs.toArray++ws.toArray=(vs++ws).toArray:=by simp
 by_cases hw:ws=[]
 ·exact concat_meets ⟨_,o,rfl⟩ ⟨_,h,rfl⟩ noFill_tuple_add seq_tuple_add slot_tuple_add entry_tuple_add (args_tuple_add_2 _ _)
   (tuple_addW1 t b vs.toArray ws.toArray n N dd d l S (by simpa using v) (by simp[hw])) ⟨o,h,i hw⟩
 ·refine concat_meets ⟨_,o,rfl⟩ ⟨_,h,rfl⟩ noFill_tuple_add seq_tuple_add slot_tuple_add entry_tuple_add (args_tuple_add_2 _ _)
   (tuple_addW2 t b vs.toArray ws.toArray n N dd d l S (by simpa using v) (by simpa using hw) (by rw[aD,aD];exact z)) ⟨o,h,?_⟩
  rw[e];exact g hw
end
end HT
namespace L2
open PySem PySem.Spec PyProof.Rows
section
variable {p2:Pos}
def US (K:Frag):R2:=λx y H Q=>∃a b xs ys,x=.ref a/\y=.ref b/\ql K H a xs/\ql K H b ys/\xs≠[]/\xs.length+ys.length<=sizeLine/\
 (ys=[]->Q (.ref a) H)/\(ys≠[]->∀p,H p=none->Q (.ref p) (upd H p (.tup (xs++ys))))
def Vals.nil_iff (r:Vals xs us):us=[]↔xs=[]:=by
 cases r with
 |nil=>simp|cons _ _=>simp
def MV:qy X (binaryOp .Add) (US X.K):=by
 intro pins s σ H x y v u Q I f e h;obtain⟨a,b,xs,ys,rfl,rfl,t,n,l,d,j,g⟩:=h;cases f;cases e;obtain⟨k,c,P,_⟩:=I.tuple t;obtain⟨i,r,p,_⟩:=I.tuple n;refine HT.La P p (λz=>l (c.nil_iff.mp z)) (λz=>⟨.ref a,H,I,rfl,j (r.nil_iff.mp z)⟩) (λz=>?_) (by rw[<- c.length,<- r.length];exact d)
 refine⟨.ref s.heap.objs.size,_,I.laid (t':=s.toks) (o:=.tup (xs++ys)) (λb ob q=>af _ q) (aw _) ?_,rfl,g (λw=>z (r.nil_iff.mpr w)) _ (I.hok.fresh (aw _))⟩;exact⟨by rw[aG];exact d,_,c.append r,Zy.new _ _⟩
end
noncomputable def kX (n:Nat)(i:Int):Option Nat:=if 0<=i then(if i<n then some i.toNat else none) else if -(n:Int)<=i then some (i+n).toNat else none
def y8 (xs:List α)(i:Int):Option α:=(kX xs.length i).bind λj=>xs[j]?
def Ua {i:Int}(h:kX n i=some j):seqIndex? i n=some j/\j<n/\-(n:Int)<=i/\i<n:=by
 unfold kX at h
 by_cases h0:0<=i
 ·rw[ah h0]at h
  by_cases h1:i<n
  ·rw[ah h1]at h
   have e:i.toNat=j:=az h;exact⟨by rw[seqIndex_of h0 h1,e],by omega,by omega,h1⟩
  ·rw[ar h1]at h;cases h
 ·rw[ar h0]at h
  by_cases h1:-(n:Int)<=i
  ·rw[ah h1]at h
   have e:(i+n).toNat=j:=az h;exact⟨by rw[seqIndex_neg (by omega) h1,e],by omega,h1,by omega⟩
  ·rw[ar h1]at h;cases h
def Ws {xs:List α}{i:Int}{v:α}(h:y8 xs i=some v):∃j,seqIndex? i xs.length=some j/\xs[j]? =some v/\j<xs.length/\-(xs.length:Int)<=i/\i<xs.length:=by
 unfold y8 at h;cases e:kX xs.length i with
 |none=>rw[e]at h;cases h|some j=>
  rw[e]at h;obtain⟨c,b,a,H⟩:=Ua e;exact⟨j,c,h,b,a,H⟩
def Yb {xs:List α}{v:α}(h:xs[j]? =some v):y8 xs (j:Int)=some v:=by
 have H:j<xs.length:=(bY.mp h).1;have e:kX xs.length (j:Int)=some j:=by
  unfold kX;rw[ah (by omega),ah (by omega)];simp
 unfold y8;rw[e];exact h
def V0 (b:Expr):Prop:=∀o i,subscripted b false o i=operate [o,i] (getItem o i)
def gI (X:Cx)(r:R2):Prop:=
 ∀(value slice:Expr)(pins:bK)(s:Shared)(σ:St)(H:Hp)(x y:V)(v u:Value)(Q:VK),Inv X pins σ H s->RelV x v->RelV y u->r x y H Q->
  subscripted slice false v u=operate [v,u] (getItem v u)->wpAny (model X.prog X.w) X.A (subscriptTail value slice v u) (EP X pins σ Q) X.xe s
def Qz (X:Cx)(id:String)(r:V->List V->Hp->VK->Prop):Prop:=
 ∀(pins:bK)(s:Shared)(σ:St)(H:Hp)(x:V)(xs:List V)(v:Value)(us:bI)(Q:VK),Inv X pins σ H s->RelV x v->Vals xs us->r x xs H Q->
  wpAny (model X.prog X.w) X.A (call (.builtin id) (v::us)) (EP X pins σ Q) X.xe s
section
variable {a b:Expr}{ta tb:TE}
def gI.or {r c:R2}(h:gI X r)(h':gI X c):gI X (λx y H Q=>r x y H Q∨c x y H Q):=by
 intro value slice pins s σ H x y v u Q I b a q d;rcases q with q|q
 ·exact h value slice pins s σ H x y v u Q I b a q d
 ·exact h' value slice pins s σ H x y v u Q I b a q d
def FW {r:R2}(f:gI X r)(i:PE X a ta)(g:PE X b tb)(e:V0 b):PE X (.Subscript a b pos) (Ju r ta tb):=by
 intro pins s σ H Q I h;exact Subscript_ (Gd i g I h λv u s2 x y k j d c q=>f a b pins s2 σ k x y v u Q j d c q (e _ _))
def Tj (K:Frag):R2:=λx y H Q=>∃p xs i v,x=.ref p/\y=.int i/\qH K H p xs/\y8 xs i=some v/\Q v H
def Tp (K:Frag):R2:=λx y H Q=>∃p xs i v,x=.ref p/\y=.int i/\ql K H p xs/\y8 xs i=some v/\Q v H
def Tb:R2:=λx y H Q=>∃z i c,x=.str z/\y=.int i/\z.length<=sizeLine/\y8 z.cps.toList i=some c/\Q (.str ⟨#[c]⟩) H
def Mc:gI X (Tj X.K):=by
 intro value slice pins s σ H x y v u Q I g f h e;obtain⟨p,xs,i,z,rfl,rfl,k,he,q⟩:=h;cases g;obtain⟨t,rfl⟩:=f;obtain⟨c,r,P,B⟩:=I.list k;obtain⟨j,a,A,C,o,n⟩:=Ws he;obtain⟨w,E,b⟩:=r.get A;have l:=r.length;have hn:=Q4;have fin:EP X pins σ Q w s:=⟨z,H,I,b,q⟩
 by_cases h0:0<=i
 ·have d:i.toNat=j:=by
   rw[seqIndex_of h0 n]at a;exact az a
  exact item_listR P.isList h0 (by omega) (by rw[d];simpa using E) fin e
 ·have d:(i+(c.toArray.size:Int)).toNat=j:=by
   rw[seqIndex_neg (by omega) o]at a
   rw[aD,<- l];exact az a
  exact subscriptTail_builtinR (x:=w) P.isList.typeIs slot_list_getitem.lookup
   (wpAny_getItem_list_neg (Q:=λr s'=>r=w/\EP X pins σ Q r s') P.isList (by omega) (by rw[aD]<;>omega) (by omega) (by rw[d];simpa using E) ⟨rfl,fin⟩) e
def L8:gI X (Tp X.K):=by
 intro value slice pins s σ H x y v u Q I c b h e;obtain⟨p,xs,i,z,rfl,rfl,f,he,q⟩:=h;cases c;obtain⟨t,rfl⟩:=b;obtain⟨d,r,P,n⟩:=I.tuple f;obtain⟨j,k,g,B,A,o⟩:=Ws he;obtain⟨w,E,a⟩:=r.get g;have l:=r.length;have hn:=Q4;have fin:EP X pins σ Q w s:=⟨z,H,I,a,q⟩;exact subscriptTail_builtinR (x:=w) P.typeIs slot_tuple_getitem.lookup
  (getItem_tuple (j:=j) (Q:=λr s'=>r=w/\EP X pins σ Q r s') P (by omega) (by omega) (by rw[aD,<- l];exact k) (by simpa using E) ⟨rfl,fin⟩) e
def IQ:gI X Tb:=by
 intro value slice pins s σ H x y v u Q I b r h d;obtain⟨z,i,c,rfl,rfl,n,he,q⟩:=h;obtain⟨t,rfl⟩:=b;obtain⟨t',rfl⟩:=r;obtain⟨j,a,g,o,f,e⟩:=Ws he;have l:z.cps.toList.length=z.length:=by simp[Str.length]
 rw[l]at a f e;have hn:=Q4;exact tail_any (typeIs_str s z t) slot_str_getitem.lookup (getItem_str (c:=c) (by
  have k:decide (i < -(2 ^ 63:Int))=false:=aK (by omega)
  have E:decide (i ≥ 2 ^ 63)=false:=aK (by omega)
  rw[k,E,Bool.or_false]) (by rw[a];simpa using g) ⟨.str ⟨#[c]⟩,H,I.tok _,⟨_,rfl⟩,q⟩) d
def TU (K:Frag):R2:=λx y H Q=>Tj K x y H Q∨Tp K x y H Q∨Tb x y H Q
def Hd:gI X (TU X.K):=Mc.or (L8.or IQ)
def Pr (i:bI)(n j:Nat)(u:Value):Obj.mapSeq (·.setIfInBounds j u) { cls:=.type "list",data:=.seq i.toArray n }={ cls:=.type "list",data:=.seq (i.set j u).toArray n }:=by
 simp[Obj.mapSeq]
theorem Inv.lst {pins:bK}{σ:St}{H:Hp}{s:Shared}{p:Addr}{xs:List V}(I:Inv X pins σ H s)(h:H p=some (.lst xs)):
  ∃(i:bI) (n:Nat),Vals xs i/\s.heap.get? p=some { cls:=.type "list",data:=.seq i.toArray n }/\xs.length<=sizeLine:=by
 obtain⟨z,i,n,r,e⟩:=I.hok p _ h;exact⟨i,n,r,e,z⟩
def Inv.lstUpd {p:Addr}{its':bI}{N:Nat}{f:Obj->Obj}(I:Inv X pins σ H s)(h:H p=some (.lst xs))
  (o:s.heap.get? p=some { cls:=.type "list",data:=.seq its.toArray n })(hf:f { cls:=.type "list",data:=.seq its.toArray n }={ cls:=.type "list",data:=.seq its'.toArray N })(r:Vals ys its')(z:ys.length<=sizeLine)(t:Nat):
  Inv X pins σ (upd H p (.lst ys)) { s with heap:=s.heap.update p f,toks:=t }:=by
 have e:(s.heap.update p f).get? p=some { cls:=.type "list",data:=.seq its'.toArray N }:=by
  rw[aW f o (by rw[hf]<;>rfl),hf]
 refine I.write (x:=p) (e:=p) (by rw[h];trivial) (.inl rfl) (λb u a q=>(aS _ _ (Ne.symm a)).trans q) ⟨_,e⟩ ?_
 exact⟨z,its',N,r,e⟩
def UQ:V->V->V->Hp->(Hp->Prop)->Prop:=λo i v H Q=>∃p xs k j,o=.ref p/\i=.int k/\H p=some (.lst xs)/\kX xs.length k=some j/\Q (upd H p (.lst (xs.set j v)))
def set_list:W8 X UQ:=by
 intro pins s σ H o i v B C u Q I ro y x h;obtain⟨p,xs,k,j,rfl,rfl,e,A,q⟩:=h;cases ro;obtain⟨t,rfl⟩:=y;obtain⟨a,n,r,c,z⟩:=I.lst e;obtain⟨b,D,g,f⟩:=Ua A;have l:=r.length;have hn:=Q4;have w:Inv X pins σ (upd H p (.lst (xs.set j v))) { s with heap:=s.heap.update p (Obj.mapSeq (·.setIfInBounds j u)) }:=
  I.lstUpd e c (Pr a n j u) (r.set x j) (by rw[length_set];exact z) s.toks
 by_cases h0:0<=k
 ·have d:k.toNat=j:=by
   rw[seqIndex_of h0 f]at b;exact az b
  exact PySem.W.ki_setAt c h0 (by omega) (by rw[aD,<- l];exact f) (by rw[d];exact⟨_,w,q⟩)
 ·have d:(k+(a.toArray.size:Int)).toNat=j:=by
   rw[seqIndex_neg (by omega) g]at b
   rw[aD,<- l];exact az b
  exact PySem.W.ki_setBack c (by omega) (by rw[aD,<- l];exact g) (by omega) (by rw[d];exact⟨_,w,q⟩)
noncomputable def wX:V->Bool
 |.non=>true|.bl _=>true|.int _=>true|.str _=>true|_=>false
noncomputable def gK:V->V->Bool
 |.non,.non=>true|.bl a,.bl b=>a==b|.bl a,.int b=>(if a then 1 else 0)==b|.int a,.bl b=>a==(if b then 1 else 0)|.int a,.int b=>a==b|.str a,.str b=>a==b|_,_=>false
def Hg {A:Around}{y x:V}{v:Value}(c:RelV y u)(r:RelV x v)(d:wX y=true)(f:wX x=true):SeqAt.EqAt A s u v (gK y x):=by
 cases y with
 |non=>
  cases c;cases x with
  |non=>cases r;exact SeqAt.EqAt.same _|bl b=>cases r;exact SeqAt.EqAt.none_bool b|int b=>obtain⟨t,rfl⟩:=r;exact SeqAt.EqAt.none_int b t|str b=>obtain⟨t,rfl⟩:=r;exact SeqAt.EqAt.none_str b t|_=>exact absurd (show false=true from f) ay
 |bl a=>
  cases c;cases x with
  |non=>cases r;exact SeqAt.EqAt.bool_none a|bl b=>cases r;exact SeqAt.EqAt.bool_bool a b|int b=>obtain⟨t,rfl⟩:=r;exact SeqAt.EqAt.bool_int a b t|str b=>obtain⟨t,rfl⟩:=r;exact SeqAt.EqAt.bool_str a b t|_=>exact absurd (show false=true from f) ay
 |int a=>
  obtain⟨t',rfl⟩:=c;cases x with
  |non=>cases r;exact SeqAt.EqAt.int_none a t'|bl b=>cases r;exact SeqAt.EqAt.int_bool a t' b|int b=>obtain⟨t,rfl⟩:=r;exact SeqAt.EqAt.int_int a t' b t|str b=>obtain⟨t,rfl⟩:=r;exact SeqAt.EqAt.int_str a t' b t|_=>exact absurd (show false=true from f) ay
 |str a=>
  obtain⟨t',rfl⟩:=c;cases x with
  |non=>cases r;exact SeqAt.EqAt.str_none a t'|bl b=>cases r;exact SeqAt.EqAt.str_bool a t' b|int b=>obtain⟨t,rfl⟩:=r;exact SeqAt.EqAt.str_int a t' b t|str b=>obtain⟨t,rfl⟩:=r;exact SeqAt.EqAt.str_str a t' b t|_=>exact absurd (show false=true from f) ay
 |_=>exact absurd (show false=true from d) ay
def gG (x:V)(u:Value):Bool:=match u with
 |.none=>gK .non x|.bool b=>gK (.bl b) x|.int i _=>gK (.int i) x|.str z _=>gK (.str z) x|_=>false
def Uq {x y:V}(r:RelV y u)(f:wX y=true):gG x u=gK y x:=by
 cases y with
 |non=>cases r;rfl|bl b=>cases r;rfl|int i=>obtain⟨t,rfl⟩:=r;rfl|str z=>obtain⟨t,rfl⟩:=r;rfl|_=>exact absurd (show false=true from f) ay
theorem Wl {x:V}:∀{xs:List V}{us:bI},Vals xs us->xs.all wX=true->us.any (gG x)=xs.any λy=>gK y x
 |_,_,.nil,_=>rfl|y::xs,u::us,.cons r t,f=>by
  rw[List.all_cons,aq]at f;rw[any_cons,any_cons,Uq r f.1,Wl t f.2]
theorem Wg {A:Around}{x:V}{v:Value}(a:RelV x v)(b:wX x=true):∀{xs:List V}{us:bI},Vals xs us->xs.all wX=true->∀u∈us,SeqAt.EqAt A s u v (gG x u)
 |_,_,.nil,_=>λu h=>by cases h|y::xs,u::us,.cons r t,f=>λU h=>by
  rw[List.all_cons,aq]at f;rcases bX.mp h with rfl|h
  ·rw[Uq r f.1];exact Hg r a f.1 b
  ·exact Wg a b t f.2 U h
def YZ (x:V)(xs:List V):Bool:=xs.any λy=>gK y x
def TK (K:Frag)(neg:Bool):R2:=λx y H Q=>∃p xs,y=.ref p/\(qH K H p xs∨ql K H p xs)/\wX x=true/\xs.all wX=true/\Q (.bl (if neg then !YZ x xs else YZ x xs)) H
def OD:qy X (compareOp .In) (TK X.K false):=by
 intro pins s σ H x y v u Q I b c h;obtain⟨p,xs,rfl,a,f,fs,q⟩:=h;cases c;rcases a with a|a
 ·obtain⟨i,r,P,z⟩:=I.list a
  refine SeqAt.in_listAt (gG x) P.isList (λw hw=>Wg b f r fs w (by simpa using hw)) ⟨.bl _,H,I,rfl,?_⟩
  rw[show i.toArray.any (gG x)=i.any (gG x) by simp,Wl r fs]
  exact q
 ·obtain⟨i,r,P,z⟩:=I.tuple a
  refine SeqAt.in_tupleAt (gG x) P (λw hw=>Wg b f r fs w (by simpa using hw)) ⟨.bl _,H,I,rfl,?_⟩
  rw[show i.toArray.any (gG x)=i.any (gG x) by simp,Wl r fs]
  exact q
def Rj:jD X (.builtin "len") (λxs H Q=>∃p ys,xs=[.ref p]/\(qH X.K H p ys∨ql X.K H p ys)/\Q (.int ys.length) H):=by
 intro pins s σ H xs us Q I r h;obtain⟨p,ys,rfl,a,q⟩:=h;obtain⟨u,rfl,x⟩:=vals1 r;cases x;have hn:=Q4;rcases a with a|a
 ·obtain⟨i,b,P,z⟩:=I.list a
  have hlen:=b.length;exact Calls.call_len_list P.isList (by simp only[aD]<;>omega) ⟨.int ys.length,H,I.tok _,⟨s.toks+1,by rw[aD,hlen]⟩,q⟩
 ·obtain⟨i,b,P,z⟩:=I.tuple a
  have hlen:=b.length;exact len_tuple P (by simp only[aD]<;>omega) ⟨.int ys.length,H,I.tok _,⟨s.toks+1,by rw[aD,hlen]⟩,q⟩
def Ri:jD X (.type "list") (λxs H Q=>∃p ys,xs=[.ref p]/\(qH X.K H p ys∨ql X.K H p ys)/\∀l,H l=none->Q (.ref l) (upd H l (.lst ys))):=by
 intro pins s σ H xs us Q I r h;obtain⟨p,ys,rfl,d,q⟩:=h;obtain⟨u,rfl,x⟩:=vals1 r;cases x;have fin:∀(its:bI),Vals ys its->ys.length<=sizeLine->∀(h':Heap)(c:Nat),(∀b o',s.heap.get? b=some o'->h'.get? b=some o')->
   h'.get? s.heap.objs.size=some { cls:=.type "list",dict:=none,data:=.seq its.toArray c,slots:=#[] }->EP X pins σ Q (.ref s.heap.objs.size) { s with heap:=h' }:=λits a z h' c kp e=>
  ⟨.ref s.heap.objs.size,_,I.laid (t':=s.toks) kp (aw _) (show qQ X.prog X.w _ h' _ (.lst ys) from ⟨z,its,c,a,e⟩),rfl,q _ (I.hok.fresh (aw _))⟩
 rcases d with d|d
 ·obtain⟨its,a,P,z⟩:=I.list d
  have hlen:=a.length;obtain⟨o,f,g,n,hd⟩:=P.isList;exact call_list_seq p (.inl rfl) f g hd (λh' c kp e=>fin its a z h' c kp e) (by simp only[aD]<;>omega)
 ·obtain⟨its,a,P,z⟩:=I.tuple d
  have hlen:=a.length;obtain⟨o,f,g,n,hd⟩:=P;exact call_list_seq p (.inr rfl) f g hd (λh' c kp e=>fin its a z h' c kp e) (by simp only[aD]<;>omega)
def SY:jD X (.type "tuple") (λxs H Q=>∃p ys,xs=[.ref p]/\((qH X.K H p ys/\∀l,H l=none->Q (.ref l) (upd H l (.tup ys)))∨(ql X.K H p ys/\Q (.ref p) H))):=by
 intro pins s σ H xs us Q I r h;obtain⟨p,ys,rfl,h⟩:=h;obtain⟨u,rfl,x⟩:=vals1 r;cases x;rcases h with ⟨c,q⟩|⟨c,q⟩
 ·obtain⟨i,a,P,z⟩:=I.list c
  have hlen:=a.length;refine call_tuple_list P.isList (λh' kp=>?_) (by simp only[aD]<;>omega)
  have d:Inv X pins σ H { s with heap:=h' }:=I.kept (t':=s.toks) kp
  have f:Inv X pins σ (upd H h'.objs.size (.tup ys)) { s with heap:=h'.push { cls:=.type "tuple",data:=.seq i.toArray } }:=
   d.laid (t':=s.toks) (λb o e=>af _ e) (aw _) (show qQ X.prog X.w _ _ _ (.tup ys) from ⟨z,i,a,Zy.new _ _⟩)
  exact⟨.ref h'.objs.size,_,f,rfl,q _ (d.hok.fresh (aw _))⟩
 ·obtain⟨i,a,P,z⟩:=I.tuple c
  exact call_tuple_same P ⟨.ref p,H,I,rfl,q⟩
def Gx (K:Frag)(T:String)(x:V)(H:Hp):Prop:=match x with
 |.str _=>T = "str"
 |.int _=>T = "int"
 |.ref p=>(T = "list" /\ ∃xs,qH K H p xs)∨(T = "tuple" /\ ∃o,K.lookup p=some o/\o.cls=.type "tuple" /\ o.dict=none)∨
   (T = "dict" /\ ((∃k,H p=some (.dK k))∨∃k,H p=some (.dT k)))∨(T = "set" /\ ∃S n,H p=some (.set S n))
 |_=>False
def Ho {T:String}{x:V}{v:Value}(I:Inv X pins σ H s)(r:RelV x v)(ty:Gx X.K T x H):
  s.TypeIs v T/\∀a,v=.ref a->∃ob,s.heap.get? a=some ob/\ob.dict=none:=by
 cases x with
 |str z=>
  obtain⟨t,rfl⟩:=r;cases (show T = "str" from ty)
  exact⟨typeIs_str s z t,λ_ e=>nomatch e⟩
 |int i=>
  obtain⟨t,rfl⟩:=r;cases (show T = "int" from ty)
  exact⟨typeIs_int s i t,λ_ e=>nomatch e⟩
 |ref p=>
  cases r;rcases ty with ⟨rfl,xs,q⟩|⟨rfl,o,h,d,hd⟩|⟨rfl,h⟩|⟨rfl,S,n,h⟩
  ·obtain⟨b,_,P,_⟩:=I.list q
   refine⟨P.isList.typeIs,λa e=>?_⟩;cases e;obtain⟨o,n,e,c,hd,_⟩:=P;exact⟨o,e,hd⟩
  ·refine⟨⟨o,I.kIn p o h,d⟩,λa e=>?_⟩
   cases e;exact⟨o,I.kIn _ o h,hd⟩
  ·have z:∃o,s.heap.get? p=some o/\o.ExactDict:=by
    rcases h with ⟨k,h⟩|⟨k,h⟩
    ·obtain⟨_,_,_,_,o,_,_,e,ex,_⟩:=I.hok p _ h
     exact⟨o,e,ex⟩
    ·obtain⟨_,_,_,_,o,_,_,e,ex,_⟩:=I.hok p _ h
     exact⟨o,e,ex⟩
   obtain⟨o,e,ex⟩:=z;refine⟨⟨o,e,ex.1⟩,λa E=>?_⟩;cases E;exact⟨o,e,ex.2.1⟩
  ·obtain⟨o,_,_,_,e,ex,_⟩:=I.hok p _ h
   refine⟨⟨o,e,ex.1⟩,λa E=>?_⟩;cases E;exact⟨o,e,ex.2.1⟩
 |_=>exact False.elim ty
noncomputable def De (K:Frag)(T:String)(r:V->List V->Hp->VK->Prop)(to:TE)(t:TA):TE:=λσ H Q=>to σ H λx H1=>Gx K T x H1/\t σ H1 λxs h=>r x xs h Q
variable {o:Expr}{es:bO}{to:TE}{t:TA}{name:Str}{T id:String}{r:V->List V->Hp->VK->Prop}
def FH (p:PlainAttrs T)(slot:Slot T name id)(y:typeOf (.builtin id)=pure (.type "method_descriptor"))(hm:Qz X id r)(j:PE X o to)(k:PA X (e::es) t)
  (b:attributeBase o name X.env (eval o X.env)=eval o X.env:=by rfl)
  (w:((backTo cpos (starEach (e::es) X.env)).all (λx=>!x.1)&&(backToKw cpos (keywordEach [] X.env)).all (λx=>x.1.isSome)
   && decide ((e::es).length+([]:bS).length+(if ([]:bS).isEmpty then 0 else 1)<30))=true:=by rfl)
  (a:(apos.endLine==cpos.line)=true:=by rfl)(g:starEach (e::es) X.env=(false,eval e X.env)::starEach es X.env:=by rfl)(n:(backTo cpos (starEach es X.env)).any (·.1)=false:=by rfl):
  PE X (.Call (.Attribute o name apos) (e::es) [] cpos) (De X.K T r to t):=by
 intro pins s σ H Q I h;refine wpAny_Call_method_late b w a rfl (zP (j pins s σ H _ I h) λv s1 ⟨x,H1,i,c,ty,f⟩=>?_);obtain⟨u,l⟩:=Ho i c ty;refine⟨T,id,p,slot,y,u,l,?_⟩;have A:=k cpos pins s1 σ H1 _ i f;rw[g]at A ⊢;refine Calls.callWith_builtin (by show(false || (backTo cpos (starEach es X.env)).any (·.1))=false;rw[n]<;>rfl) (Calls.evalArgs_plain ?_)
 exact zP A λus s2 ⟨vs,B,z,d,q⟩=>hm pins s2 σ B x vs v us Q z c d q
end
def Gn (X:Cx)(id:String)(r:V->List V->Hp->VK->Prop):Prop:=
 ∀(pins:bK)(s:Shared)(σ:St)(H:Hp)(x:V)(xs:List V)(v:Value)(us:bI)(Q:VK),Inv X pins σ H s->RelV x v->Vals xs us->r x xs H Q->
  wpAny (model X.prog X.w) X.A (call (.builtin id) (v::us)) (EP X pins σ Q) X.xe s
def Vals.one {x:V}(h:Vals [x] us):∃u,us=[u]/\RelV x u:=by
 cases h with
 |cons r t=>cases t;exact⟨_,rfl,r⟩
def Vals.two {x y:V}(h:Vals [x,y] us):∃u v,us=[u,v]/\RelV x u/\RelV y v:=by
 cases h with
 |cons r t=>exact(Vals.one t).elim λv e=>⟨_,v,by rw[e.1],r,e.2⟩
theorem Vals.zero:∀{us:bI},Vals [] us->us=[]
 |_,.nil=>rfl
theorem Vals.eraseIdx:∀{xs:List V}{us:bI}(i:Nat),Vals xs us->Vals (xs.eraseIdx i) (us.eraseIdx i)
 |_,_,_,.nil=>.nil|_,_,0,.cons _ t=>t|_,_,i+1,.cons r t=>.cons r (Vals.eraseIdx i t)
theorem Vals.rep (h:Vals xs us):∀k:Nat,Vals (List.replicate k xs).flatten (List.replicate k us).flatten
 |0=>.nil|k+1=>by
  rw[a9,a9,aR,aR];exact Vals.append h (Vals.rep h k)
theorem X7:∀(l:List α)(i:Nat),(l.eraseIdx i).length<=l.length
 |[],_=>aw _|_::_,0=>le_succ _|_::r,i+1=>Nat.succ_le_succ (X7 r i)
theorem foldl_rep (i:bI):∀(k:Nat)(acc:bI),
  List.foldl (λx x2=>x++x2) acc.toArray (List.replicate k i.toArray)=(acc++(List.replicate k i).flatten).toArray
 |0,acc=>by simp|k+1,acc=>by
  have e:acc.toArray++i.toArray=(acc++i).toArray:=by simp
  have E:(acc++i)++(List.replicate k i).flatten=acc++(List.replicate (k+1) i).flatten:=by
   rw[a9,aR,aN]
  rw[<- E,<- foldl_rep i k (acc++i),<- e,a9,List.foldl_cons]
section
variable {l:Addr}
def Inv.lset {its':bI}{f:Array Value->Array Value}(I:Inv X pins σ H s)(c:H l=some (.lst xs))
  (e:s.heap.get? l=some { cls:=.type "list",data:=.seq its.toArray n })(hf:f its.toArray=its'.toArray)(v:Vals ys its')(h:ys.length<=sizeLine):
  Inv X pins σ (upd H l (.lst ys)) { s with heap:=s.heap.update l (Obj.mapSeq f),toks:=t' }:=by
 have q:=PySem.IsL.update e f;rw[hf]at q;refine I.write (x:=l) (e:=l) (by rw[c];exact trivial) (.inl rfl) (λB u b a=>(aS s.heap (Obj.mapSeq f) (Ne.symm b)).trans a) ⟨_,q⟩ ?_
 exact⟨h,its',_,v,q⟩
def Inv.lnew (I:Inv X pins σ H s)(v:Vals ys its)(h:ys.length<=sizeLine):
  Inv X pins σ (upd H s.heap.objs.size (.lst ys)) { s with heap:=s.heap.push { cls:=.type "list",data:=.seq its.toArray },toks:=t' }:=
 I.laid (λ_ _ q=>af _ q) (aw _) ⟨h,its,0,v,ao _ rfl⟩
theorem Inv.fresh (I:Inv X pins σ H s):H s.heap.objs.size=none:=I.hok.fresh (aw _)
def Inv.lstM (I:Inv X pins σ H s)(h:H l=some (.lst xs)):xs.length<=sizeLine/\∃(i:bI) (n:Nat),Vals xs i/\xs.length=i.length/\s.heap.get? l=some { cls:=.type "list",data:=.seq i.toArray n }:=by
 obtain⟨z,i,n,r,e⟩:=I.hok l _ h;exact⟨z,i,n,r,r.length,e⟩
def Nl (h:n<=sizeLine):Builtin.List.listTooLong n=false:=by
 unfold Builtin.List.listTooLong;exact aK (by omega)
end
section
def Lz:V->List V->Hp->VK->Prop:=λx vs H Q=>∃l xs y,x=.ref l/\vs=[y]/\H l=some (.lst xs)/\xs.length<sizeLine/\Q .non (upd H l (.lst (xs++[y])))
def X4:Gn X "list.append" Lz:=by
 intro pins s σ H x vs v us Q I b c h;obtain⟨l,xs,y,rfl,rfl,a,f,q⟩:=h;cases b;obtain⟨u,rfl,d⟩:=c.one;obtain⟨z,i,n,r,g,e⟩:=I.lstM a;refine call_meets F.slot_list_append ⟨_,e,rfl⟩ F.entry_list_append (F.args_list_append_2 _ _) (PySem.list_append l i.toArray n u (by rw[aD];omega)) ⟨e,?_⟩
 refine⟨.non,_,I.lset (its':=i++[u]) a e (by simp) (r.append (.cons d .nil)) ?_,rfl,q⟩
 rw[aG,bf];omega
def He:V->List V->Hp->VK->Prop:=λx vs H Q=>∃l xs i k y,x=.ref l/\vs=[.int i]/\H l=some (.lst xs)/\-(2 ^ 63)<=i/\i<2 ^ 63/\seqIndex? i xs.length=some k/\xs[k]? =some y/\Q y (upd H l (.lst (xs.eraseIdx k)))
def Ng:Gn X "list.pop" He:=by
 intro pins s σ H x vs v us Q I d f h;obtain⟨l,xs,i,k,y,rfl,rfl,c,B,A,p,j,q⟩:=h;cases d;obtain⟨u,rfl,g⟩:=f.one;obtain⟨t,rfl⟩:=g;obtain⟨z,a,n,r,o,e⟩:=I.lstM c;obtain⟨w,hw,b⟩:=r.get j;refine call_meets F.slot_list_pop ⟨_,e,rfl⟩ F.entry_list_pop (F.args_list_pop_2 _ _)
  (MeetsSeq.list_pop_at l a.toArray n i t k w (fitsIndex_both B A) (by rw[aD,<- o];exact p) (by rw[<- bh];exact hw) (by rw[aD];omega)) ⟨e,?_⟩
 refine⟨y,_,I.lset (its':=a.eraseIdx k) c e ?_ (r.eraseIdx k) ?_,b,q⟩
 ·show a.toArray.eraseIdxIfInBounds k=(a.eraseIdx k).toArray
  rw[List.eraseIdxIfInBounds_toArray]
 ·have:=X7 xs k
  omega
def Tc:R2:=λx y H Q=>∃l b xs zs,x=.ref l/\y=.ref b/\H l=some (.lst xs)/\H b=some (.lst zs)/\xs.length+zs.length<=sizeLine/\∀p,H p=none->Q (.ref p) (upd H p (.lst (xs++zs)))
def IW:qy X (binaryOp .Add) Tc:=by
 intro pins s σ H x y v u Q I d c h;obtain⟨l,b,xs,zs,rfl,rfl,j,B,o,q⟩:=h;cases d;cases c;obtain⟨z,a,n,r,p,e⟩:=I.lstM j;obtain⟨Z,i,N,f,g,k⟩:=I.lstM B;refine PySem.P.add_list e k ?_ (by rw[aD,aD];omega)
 have E:a.toArray++i.toArray=(a++i).toArray:=by simp
 rw[E];exact⟨.ref _,_,I.lnew (t':=s.toks) (r.append f) (by rw[aG];omega),rfl,q _ I.fresh⟩
def U9:R2:=λx y H Q=>∃l k xs,x=.ref l/\y=.int k/\H l=some (.lst xs)/\-(2 ^ 63)<=k/\k<2 ^ 63/\xs.length * k.toNat<=sizeLine/\
 ∀p,H p=none->Q (.ref p) (upd H p (.lst (List.replicate k.toNat xs).flatten))
def len_rep (xs:List α)(k:Nat):(List.replicate k xs).flatten.length=k * xs.length:=by
 induction k with
 |zero=>simp|succ k i=>rw[a9,aR,aG,i,Nat.succ_mul,Nat.add_comm]
def Hc:qy X (binaryOp .Mult) U9:=by
 intro pins s σ H x y v u Q I j f h;obtain⟨l,k,xs,rfl,rfl,A,C,B,d,q⟩:=h;cases j;obtain⟨t,rfl⟩:=f;obtain⟨z,i,n,r,o,e⟩:=I.lstM A;have hlen:i.toArray.size * k.toNat<=sizeLine:=by rw[aD,<- o];exact d
 have p:¬i.toArray.size * k.toNat > (2 ^ 63-1)/8:=by
  have:(sizeLine:Nat)<=(2 ^ 63-1)/8:=by decide
  omega
 have b:¬(!Builtin.List.listFitsIndex k)=true:=by
  rw[fitsIndex_both C B];exact ay
 have g:¬Builtin.List.listTooLong (i.toArray.size * k.toNat)=true:=by
  rw[Nl hlen];exact ay
 have w:List.foldl (λc x2=>c++x2) #[] (List.replicate (if i.toArray.isEmpty=true then 0 else k.toNat) i.toArray)=(List.replicate k.toNat i).flatten.toArray:=by
  have f0:∀m:Nat,List.foldl (λc x2=>c++x2) #[] (List.replicate m i.toArray)=(List.replicate m i).flatten.toArray:=λm=>by
   have:=foldl_rep i m []
   rw[nil_append]at this;exact this
  rw[f0];cases i with
  |nil=>simp|cons a D=>rw[ar (by simp)]
 refine wpAny_binaryOp_repeat_ref (T := "list") (U := "int") (by decide) ⟨_,e,rfl⟩ (λs'=>typeIs_int s' k t) noFill_list_mul F.fills_int_mul F.slot_int_rmul repeat_list F.slot_int_index.lookup
  (call_meets F.slot_int_rmul (typeIs_int s k t) F.entry_int_rmul (F.args_int_rmul_2 _ _) (int___rmul___int_list k t l i.toArray n)
   ⟨e,rfl,⟨_,e,rfl⟩,call_meets F.slot_list_mul ⟨_,e,rfl⟩ F.entry_list_mul (F.args_list_mul_2 _ _) (AutoListH.list___mul___list_int_3 l i.toArray n k t b p g) ⟨e,?_⟩⟩)
 rw[w];exact⟨.ref _,_,I.lnew (t':=s.toks) (r.rep k.toNat) (by rw[len_rep,Nat.mul_comm];exact d),rfl,q _ I.fresh⟩
end
section
set_option maxRecDepth 100000 in
end
end L2
namespace Att
open PySem PySem.W PySem.Calls PyProof.Rows
def Sr {P:Params}:∀(ns:bH)(vs:bI),WellAll P h vs (ns.map WData.int)->IntsAre vs ns:=by
 intro ns
 induction ns with
 |nil=>
  intro vs w;rw[List.map_nil]at w;cases w;exact .nil
 |cons n ns i=>
  intro vs w;rw[aV]at w;cases w with
  |cons a b=>
   cases a;exact .cons _ _ (i _ b)
def Ob {l:OpenLaw}(hn:l.most=some n){P:Params}{args:List WData}{vals:bI}
  (H:l.row.toRowW.claim.pre args=true)(f:WellAll P h vals args):
  ∃a vs ns,vals=[Value.ref a]/\args=[WData.list (ns.map WData.int)]/\h.get? a=some { cls:=.type "list",data:=.seq vs.toArray }/\IntsAre vs ns/\ns.length<=n:=by
 have g:WShape.hasAll [] args [.list .int]=true:=(pre_splitW H).1;have i:l.pre.holds [] { args:=args }=true:=(pre_splitW H).2;obtain⟨d,r,rfl,s,p⟩:=hasAllW_cons g;obtain rfl:=hasAllW_nil p;obtain⟨xs,rfl,k⟩:=hasW_list s;obtain⟨ns,rfl⟩:=items_int k;have hlen:ns.length<=n:=by
  unfold OpenLaw.pre at i;have e:(WTm.not (.lt (.lit (.int (n:Int))) (.len (.arg 0)))).holds [] { args:=[.list (ns.map .int)] }=true:=by
   have e:=(holds_andW i).1;rw[hn]at e;exact e
  have c:=condW_of e (w_not (w_lt w_lit (w_len_list (w_arg rfl))));rw[aj]at c;refine Nat.le_of_not_lt λq=>?_;have Q:(n:Int)<((ns.length:Nat):Int):=by omega
  first
   |(rw[aC Q]at c;exact absurd c (by decide))
   |(simp at c;omega)
 cases f with
 |cons j w=>
  cases w;cases j with
  |list o b=>exact⟨_,_,ns,rfl,rfl,o,Sr ns _ b,hlen⟩
def Oz (l:OpenLaw)(args:List WData):l.row.toRowW.claim.post args (.bool true) args=true:=
 postW_of (r:=l.row.toRowW) (X:=(true==true))
  (show WShape.has [] (.bool true) .bool=true by first|rfl|decide|simp[WShape.has,WShape.arms,WShape.armsAll])
  (show(WTm.eq .res (.lit (.bool true))).value [] { args:=args,res:=some (.bool true),after:=args }=some (.bool (true==true)) from w_eq_bool (w_res rfl) w_lit) rfl
def RO {l:OpenLaw}{q:Program}{loose:bM}{P:World->Heap->Prop}{d:DefRec}
  (hn:l.most=some n)(e:d.params.defaults=[])
  (call:∀(w:World)(S s:Shared)(mg mb:bP)(b:Addr)(o:Obj)(pm cd doc:Value)(a:Addr)(vs:bI)(ns:bH),
   Ground q loose [] XP w S mg mb s.heap->P w s.heap->
   s.heap.get? b=some o->o.data=.func (docDef d.name d.params d.body d.scope pm cd doc)->s.heap.CodeRec cd d.name->mg d.name=some (.ref b)->
   s.heap.get? a=some { cls:=.type "list",data:=.seq vs.toArray }->IntsAre vs ns->ns.length<=n->s.gens=#[]->
   codeAny (model l.prog w) callerA (.call (.ref b) ⟨[.ref a],[]⟩) (λr s'=>r=.ok (.ret (.bool true))/\OldK s.heap s'.heap/\s'.os=s.os/\AllBare s'.gens) s):
  WalkO q loose XP P l.row.toRowW d [] (λf vs=>PySem.call f vs):=by
 intro w S s mg mb G Y b o pm cd doc A kV p hd i D g u args vals as h y j c t;obtain rfl:A=.none:=Dflts.none D e;obtain rfl:kV=.none:=Dflts.noKw D;obtain⟨a,vs,ns,rfl,rfl,H,hints,hlen⟩:=Ob hn h c;refine enter_call (codeAny_mono (call w S s mg mb b o pm cd doc a vs ns G Y p (fd_plain hd) i g H hints hlen u) λr s' k=>?_);obtain⟨rfl,z,x,v⟩:=k;exact⟨.inl ⟨.bool true,.bool true,[],rfl,λ_=>rfl,.bool true,Oz l _,λ_=>⟨List.Pairwise.nil,λ_ hm=>(nomatch hm)⟩⟩,z,x,v⟩
end Att
namespace L2
open PySem PySem.Spec PyProof.Rows
theorem QJ:∀{vs:bI}{ns:bH},IntsAre vs ns->Vals (ns.map V.int) vs
 |_,_,.nil=>.nil|_,_,.cons n t h=>.cons ⟨t,rfl⟩ (QJ h)
noncomputable abbrev Tt {K:Frag}(_:K.In h):Frag:=K
noncomputable def gQ (s:Stmt):Arguments:=match s with
 |.FunctionDef _ a _ _ _ _ _ _ _ _=>a|_=>{ posonlyargs:=[],args:=[],vararg:=none,kwonlyargs:=[],kw_defaults:=[],kwarg:=none,defaults:=[] }
noncomputable def ki (s:Stmt):bU:=match s with
 |.FunctionDef _ _ b _ _ _ _ _ _ _=>b|_=>[]
noncomputable def qm (s:Stmt):Scope:=match s with
 |.FunctionDef _ _ _ _ _ _ sc _ _ _=>sc|_=>{ kind:=.function,names:=[],isGenerator:=false,isCoroutine:=false }
noncomputable abbrev kZ:kU:=λ_ _ _ _ _ _=>False
noncomputable abbrev E0:XK:=λ_ _ _=>False
def FG:Passes kZ X E0:=λ_ _ _ _ _ _ _ h=>h.elim
structure kf (K:Frag)(x qual:Str)(st:Stmt)(f:Addr)(fd:FuncData):Prop where
 ex:∃(oc:Value) (od:bT) (kV doc pm:Value) (an:bT) (cdv ct:Value) (osl:Array (Option Value)),
  fd=fnOf x qual (gQ st) (ki st) (qm st) .none kV doc pm an cdv ct/\K.lookup f=some ⟨oc,od,.func fd,osl⟩/\codeIn K cdv qual=true
 kp:keepIn K (.ref f)=true
section
variable {K:Frag}
def kf.ok {st:Stmt}{sp:Sp}(F:kf K x qual st f fd)(S:jh N ps (qm st))(len:∀vs H Q E,sp vs H Q E->vs.length=ps.length)
  (y:∀(c:Value)(A:Around)(outer:bQ)(s:Shared)(H:Hp)(vs:List V)(Q:VK)(E:XK),jo k (A.deeper (envOfC qual (qm st) s.heap.objs.size f c))->sp vs H Q E->
   ∃t,jZ (kv kZ P w K mg base N qual (qm st) f c A outer s H E).nox (ki st) t/\t { nx:=λ_ a=>Q .non a,rt:=Q } (start N vs) H):j7 P w K mg base kZ (k+1) f fd ps sp:=by
 obtain⟨e,b,kV,doc,pm,an,c,ct,o,rfl,lk,d⟩:=F.ex;refine WR lk d S len λA outer s H vs Q E r p=>?_;obtain⟨t,h,q⟩:=y c A outer s H vs Q E r p;exact⟨t,h.nox,q⟩
def kf.binds {st:Stmt}(F:kf K x qual st f fd)
  (h:∀(kV doc pm:Value)(an:bT)(c ct:Value)(us:bI),us.length=ps.length->bindArgs (fnOf x qual (gQ st) (ki st) (qm st) .none kV doc pm an c ct) ⟨us,[]⟩=pure (ps.zip us)):Binds K fd ps []:=by
 obtain⟨a,d,kV,doc,pm,an,c,ct,o,rfl,lk,H⟩:=F.ex;exact .all (h kV doc pm an c ct)
def HI {st:Stmt}{a:Value}{o an:bT}{kV doc pm C ct:Value}(l:K.lookup f=some ⟨a,o,.func (fnOf x qual (gQ st) (ki st) (qm st) .none kV doc pm an C ct),osl⟩)
  (c:codeIn K C qual=true)(k:keepIn K (.ref f)=true):kf K x qual st f (fnOf x qual (gQ st) (ki st) (qm st) .none kV doc pm an C ct):=⟨⟨a,o,kV,doc,pm,an,C,ct,osl,rfl,l,c⟩,k⟩
def Inv.big (I:Inv X pins σ H s):sysModules<s.heap.objs.size:=by
 have h:mainGlobals<s.heap.objs.size:=(I.mod.glob.keeps I.bk).lt;exact lt_trans (by decide) h
end
def Nr (h:Heap)(b:sysModules<h.objs.size):qQ P w H (h.push { cls:=.type "dict",data:=.dict #[] }) h.objs.size (.dK []):=
 ⟨zero_le _,beq_eq_false_iff_ne.mpr (Ne.symm (aI b)),[],.nil,Heap.DictOf.new h⟩
def HZ:TE:=λ_ H Q=>∀p,H p=none->Q (.ref p) (upd H p (.dK []))
section
def Nk:PE X (.Dict [] [] pos) HZ:=λpins s σ H Q I h=>
 wpAny_Dict_empty ⟨.ref s.heap.objs.size,_,I.laid (a:=s.heap.objs.size) (o:=.dK []) (t':=s.toks) (λ_ _ q=>af _ q) (aw _) (Nr s.heap I.big),rfl,h _ (I.hok.fresh (aw _))⟩
end
noncomputable def yy (env:Env):List (Str×NameKind)->List (Str×Addr)->List (Str×Addr)
 |[],acc=>acc|(n,k)::r,acc=>yy env r (if k==.free then(n,(env.cells.lookup n).getD 0)::acc else acc)
def OY (f:Str×NameKind->List (Str×Addr)->Sem (ForInStep (bR)))
  (hf:∀n k r,f (n,k) r=if (k==NameKind.free)=true then(do let c <- cellOf env n;pure (ForInStep.yield ((n,c)::r))) else pure (ForInStep.yield r)):
  ∀(names:List (Str×NameKind))(acc:bR),(∀y∈names,y.2=.free->∃c,env.cells.lookup y.1=some c)->(forIn names acc f:Sem (bR))=pure (yy env names acc):=by
 intro names
 induction names with
 |nil=>intro acc _;rfl|cons y r i=>
  intro acc b;obtain⟨n,k⟩:=y;rw[forIn_cons,hf];unfold yy;have h:=i (if k==.free then(n,(env.cells.lookup n).getD 0)::acc else acc) (λy g=>b y (ai _ g))
  by_cases a:k=.free
  ·subst a
   obtain⟨c,d⟩:=b (n,.free) ax rfl;have e:cellOf env n=pure c:=by unfold cellOf;rw[d]
   have H:List.lookup n env.cells=some c:=d;simp only[e,H,Option.getD_some,a7,if_true]at h ⊢;exact h
  ·have j:(k==NameKind.free)=false:=by simpa using a
   simp only[j,aZ,if_false]at h ⊢;exact h
def XJ (h:∀y∈scope.names,y.2=.free->∃c,env.cells.lookup y.1=some c):closureFor scope env=pure (yy env scope.names []):=by
 unfold closureFor;dsimp only;rw[OY _ (λn k r=>rfl) scope.names [] h]
 rfl
theorem Zp {n:Str}:∀(names:List (Str×NameKind))(acc:bR),(n,c)∈yy env names acc->(n,c)∈acc∨((n,NameKind.free)∈names/\c=(env.cells.lookup n).getD 0)
 |[],acc,h=>.inl h|(x,k)::r,acc,h=>by
  unfold yy at h;rcases Zp r _ h with h|⟨d,a⟩
  ·by_cases H:k=.free
   ·subst H
    simp only[a7,if_true]at h;rcases bX.mp h with e|h
    ·cases e;exact .inr ⟨ax,rfl⟩
    ·exact .inl h
   ·have b:(k==NameKind.free)=false:=by simpa using H
    simp only[b,aZ,if_false]at h;exact .inl h
  ·exact .inr ⟨ai _ d,a⟩
theorem JK {n:Str}:∀(names:List (Str×NameKind))(acc:bR),((n,NameKind.free)∈names∨(acc.lookup n).isSome=true)->((yy env names acc).lookup n).isSome=true
 |[],acc,h=>by
  rcases h with h|h
  ·cases h
  ·exact h
 |(x,k)::r,acc,h=>by
  unfold yy;refine JK r _ ?_;rcases h with h|h
  ·rcases bX.mp h with e|h
   ·cases e
    right
    simp
   ·exact .inl h
  ·right
   by_cases H:(k==NameKind.free)=true
   ·rw[ah H,lookup_cons]
    cases a:n==x
    ·exact h
    ·rfl
   ·rw[ar H];exact h
theorem Ko {n:Str}:∀(names:List (Str×NameKind))(k:Nat)(acc:bR),(n,c)∈cellsFrom k names acc->(n,c)∈acc∨(k<=c/\(n,NameKind.cell)∈names)
 |[],_,_,h=>.inl h|(x,q)::r,k,acc,h=>by
  unfold cellsFrom at h
  by_cases a:(q==NameKind.cell)=true
  ·rw[ah a]at h
   have H:q=.cell:=by simpa using a
   rcases Ko r _ _ h with h|⟨d,b⟩
   ·rcases bX.mp h with e|h
    ·cases e;subst H;exact .inr ⟨aw _,ax⟩
    ·exact .inl h
   ·exact .inr ⟨by omega,ai _ b⟩
  ·rw[ar a]at h
   rcases Ko r _ _ h with h|⟨d,b⟩
   ·exact .inl h
   ·exact .inr ⟨d,ai _ b⟩
theorem Kq:∀(names:List (Str×NameKind))(k:Nat)(acc:bR),(∀n c,(n,c)∈acc->c<k)->(∀n N c,(n,c)∈acc->(N,c)∈acc->n=N)->∀n N c,(n,c)∈cellsFrom k names acc->(N,c)∈cellsFrom k names acc->n=N
 |[],_,_,_,i,n,N,c,h,h'=>i n N c h h'|(x,q)::r,k,acc,l,i,n,N,c,h,h'=>by
  unfold cellsFrom at h h'
  by_cases a:(q==NameKind.cell)=true
  ·rw[ah a]at h h'
   refine Kq r (k+1) ((x,k)::acc) (λm d hm=>?_) (λm M d hm H=>?_) n N c h h'
   ·rcases bX.mp hm with e|hm
    ·cases e;exact bc _
    ·exact aY (l m d hm)
   ·rcases bX.mp hm with e|hm
    ·rcases bX.mp H with E|H
     ·cases e;cases E;rfl
     ·cases e;exact absurd (l M _ H) (aT _)
    ·rcases bX.mp H with E|H
     ·cases E;exact absurd (l m _ hm) (aT _)
     ·exact i m M d hm H
  ·rw[ar a]at h h'
   exact Kq r k acc l i n N c h h'
theorem Kj {n:Str}:∀(names:List (Str×NameKind))(h:Heap)(acc:bR),(n,c)∈cellsFrom h.objs.size names acc->(n,c)∈acc∨(pushCells h names).IsCell c none
 |[],_,_,q=>.inl q|(x,k)::r,h,acc,q=>by
  unfold cellsFrom at q;unfold pushCells
  by_cases H:(k==NameKind.cell)=true
  ·rw[ah H]at q ⊢
   have:=Kj r (h.push { cls:=.type "cell",data:=.cell none }) ((x,h.objs.size)::acc) (by rw[a5];exact q)
   rcases this with z|z
   ·rcases bX.mp z with e|z
    ·cases e
     exact .inr ⟨_,pushCells_keeps r _ _ _ (ao _ rfl),rfl⟩
    ·exact .inl z
   ·exact .inr z
  ·rw[ar H]at q ⊢
   exact Kj r h acc q
def Sf {A:Around}{globals:Addr}{cl:bR}{Q:Env->Shared->Prop}
  (h:Q { scope,locals:=s.heap.objs.size,globals,cells:=cellsFrom (s.heap.objs.size+1) scope.names cl,qual,func:=none,code:=env.code,frame:=env.frame,builtins:=env.builtins }
   { s with heap:=pushCells (s.heap.push { cls:=.type "dict",data:=.dict #[] }) scope.names }):
  wpAny M A (newFunctionEnv scope globals cl [] qual none .none (some env)) Q E s:=by
 simp only[newFunctionEnv,Option.isSome_some,if_true];refine bV (wpAny_alloc ?_);refine bV (wpAny_layCells _ (λname kind cells=>by cases H:kind==NameKind.cell<;>simp[H]) _ _ _ _ ?_)
 rw[show({ s with heap:=s.heap.push { cls:=.type "dict",data:=.dict #[] } }:Shared).heap.objs.size=s.heap.objs.size+1 from a5 ..]
 rw[forIn_nil];exact bV (bW (bW h))
def jA (X:Cx)(N:bM)(scope:Scope)(s:Shared)(H:Hp)(fp:bJ)(xe:bN):Cx where
 prog:=X.prog
 w:=X.w
 K:=X.K
 mg:=X.mg
 base:=X.base
 A:=X.A
 N:=N
 s0:=s
 H0:=H
 env:={ scope:=relabel scope X.env,locals:=s.heap.objs.size,globals:=X.env.globals,cells:=cellsFrom (s.heap.objs.size+1) scope.names (yy X.env scope.names []),qual:=X.env.qual,func:=none,code:=X.env.code,frame:=X.env.frame,builtins:=X.env.builtins }
 outer:=X.stack
 stack:=X.stack
 ex:=fp
 fn:=λx=>scope.names.lookup x==some .local || scope.names.lookup x==some .cell
 calm:=X.calm
 pn:=[]
 xe:=xe
structure wL (X:Cx)(scope:Scope):Prop where
 kind:scope.kind=.function
 nd:(scope.names.map (·.1)).Nodup
 free:∀y∈scope.names,y.2=.free->X.env.kindOf y.1=some .cell∨X.env.kindOf y.1=some .free
theorem ZT {k:α}:∀{l:List (Str×α)},(l.map (·.1)).Nodup->(x,k)∈l->l.lookup x=some k
 |(y,q)::r,nd,h=>by
  rw[aV,List.nodup_cons]at nd;rw[lookup_cons];rcases bX.mp h with e|h
  ·cases e;simp
  ·have ne:(x==y)=false:=by
    rw[beq_eq_false_iff_ne];intro e
    apply nd.1
    rw[<- e];exact List.mem_map_of_mem (f:=(·.1)) h
   rw[ne];exact ZT nd.2 h
def Kk {k:NameKind}(h:(relabel scope env).names.lookup x=some k):scope.names.lookup x=some k∨(k=.cell/\scope.names.lookup x=some .free/\env.kindOf x=some .cell):=by
 unfold relabel at h;dsimp only at h;generalize scope.names=names at h ⊢
 induction names with
 |nil=>cases h|cons y r i=>
  obtain⟨n,q⟩:=y;rw[aV]at h;have split:(if (q==NameKind.free&&env.scope.kind==.function&&env.kindOf n==some .cell)=true then(n,NameKind.cell) else(n,q)).1=n:=by split<;>rfl
  rw[lookup_cons]at h ⊢;dsimp only at h;rw[split]at h;cases a:x==n with
  |false=>rw[a]at h;exact i h|true=>
   rw[a]at h;have e:x=n:=aJ.mp a;subst e
   by_cases H:(q==NameKind.free&&env.scope.kind==.function&&env.kindOf x==some .cell)=true
   ·rw[ah H]at h
    simp only[aq,aJ]at H;cases h
    right
    exact⟨rfl,by rw[H.1.1],H.2⟩
   ·rw[ar H]at h
    left
    exact h
section
def Inv.capt (I:Inv X pins σ H s)(S:wL X scope)(h:(x,NameKind.free)∈scope.names):∃c,X.env.cells.lookup x=some c:=I.ok.has x (S.free _ h rfl)
def QN (I:Inv X pins σ H s)(S:wL X scope)(h:(x,c)∈cellsFrom (s.heap.objs.size+1) scope.names (yy X.env scope.names [])):
  ((x,NameKind.free)∈scope.names/\X.env.cells.lookup x=some c/\c<s.heap.objs.size)∨((x,NameKind.cell)∈scope.names/\s.heap.objs.size<c/\∀h0:Heap,h0.objs.size=s.heap.objs.size+1->(pushCells h0 scope.names).IsCell c none):=by
 rcases Ko _ _ _ h with b|⟨b,d⟩
 ·left
  rcases Zp _ _ b with z|⟨z,e⟩
  ·cases z
  ·obtain⟨C,a⟩:=I.capt S z
   rw[a]at e;have E:c=C:=e;subst E;obtain⟨v,q⟩:=I.cell x c a;exact⟨z,a,q.lt⟩
 ·right
  refine⟨d,b,λh0 f=>?_⟩;have h':=h;rw[<- f]at h';rcases Kj _ h0 _ h' with z|z
  ·exfalso
   rcases Zp _ _ z with z|⟨z,e⟩
   ·cases z
   ·obtain⟨C,a⟩:=I.capt S z
    rw[a]at e;have E:c=C:=e;subst E;obtain⟨v,q⟩:=I.cell x c a;exact aT _ (aA (aY q.lt) b)
  ·exact z
def OZ {xe:bN}{f:St}(I:Inv X pins σ H s)(S:wL X scope)(hf:∀b∈fp,yR X pins H b)(A:∀b∈fp,b<s.heap.objs.size)(hl:f.length=N.length)
  (hs:∀(j:Nat)(x:Str)(v:V),N[j]? =some x->f[j]? =some (some v)->(x,NameKind.free)∈scope.names/\∃i:Nat,X.N[i]? =some x/\σ[i]? =some (some v)):
  Inv (jA X N scope s H fp xe) [] f H { s with heap:=pushCells (s.heap.push { cls:=.type "dict",data:=.dict #[] }) scope.names }:=by
 have M:∀b o,s.heap.get? b=some o->(pushCells (s.heap.push { cls:=.type "dict",data:=.dict #[] }) scope.names).get? b=some o:=λb o e=>pushCells_keeps _ _ _ _ (af _ e);have T:(s.heap.push { cls:=.type "dict",data:=.dict #[] }).objs.size=s.heap.objs.size+1:=a5 ..;have l:∀{x:Str}{c:Addr},(jA X N scope s H fp xe).env.cells.lookup x=some c->(x,c)∈cellsFrom (s.heap.objs.size+1) scope.names (yy X.env scope.names []):=λh=>PySem.mem_of_lookup h;have L:∀{x:Str},((jA X N scope s H fp xe).env.kindOf x=some .cell∨(jA X N scope s H fp xe).env.kindOf x=some .free)->∃c,(jA X N scope s H fp xe).env.cells.lookup x=some c:=λ {x} h=>by
  refine Option.isSome_iff_exists.mp (cellsFrom_some _ _ _ ?_);have two:scope.names.lookup x=some .cell∨scope.names.lookup x=some .free:=by
   rcases h with h|h
   ·rcases Kk h with z|⟨_,z,_⟩
    ·exact .inl z
    ·exact .inr z
   ·rcases Kk h with z|⟨z,_⟩
    ·exact .inr z
    ·cases z
  rcases two with z|z
  ·exact .inl z
  ·exact .inr (JK _ _ (.inl (PySem.mem_of_lookup z)))
 have exP:∀b∈fp,∀x c,(jA X N scope s H fp xe).env.cells.lookup x=some c->c≠b:=λb a x c e=>by
  rcases QN I S (l e) with ⟨_,q,_⟩|⟨_,q,_⟩
  ·exact(hf b a).2.2.2.2.1 x c q
  ·intro z;subst z;exact aT _ (lt_trans q (A _ a))
 refine⟨⟨I.ok.mod,S.kind,I.ok.glob,I.ok.blt,aw _,λx y c h1 J=>?_,λx h=>L h,λx c g h=>?_,I.ok.hd,I.ok.frames,.inl rfl,λb a=>⟨?_,exP b a⟩,I.bs,a8 I.ok.bsz I.sz,λb o e a=>?_,λb a z=>?_,I.stack,I.stkFree⟩,
  rfl,I.bare,Un.kept M,⟨λ_=>none,?_,λj x v h1 J h3=>?_⟩,λx c e=>?_,I.fresh,λx c e=>?_,λp hp=>?_,I.hok.kept M,hl⟩
 ·refine Kq _ _ _ (λn c h=>?_) (λn n' c h h'=>?_) x y c (l h1) (l J)
  ·rcases Zp _ _ h with z|⟨z,e⟩
   ·cases z
   ·obtain⟨c',D⟩:=I.capt S z
    rw[D]at e;have P:c=c':=e;subst P;obtain⟨v,q⟩:=I.cell n c D;exact aY q.lt
  ·rcases Zp _ _ h with z|⟨z,e⟩
   ·cases z
   ·rcases Zp _ _ h' with Z|⟨Z,P⟩
    ·cases Z
    ·obtain⟨d,hd⟩:=I.capt S z
     obtain⟨d',B⟩:=I.capt S Z;rw[hd]at e;rw[B]at P;have K:c=d:=e;have e2:c=d':=P;subst K;subst e2;exact I.ok.inj _ _ _ hd B
 ·rcases QN I S (l h) with ⟨z,_,_⟩|⟨_,z,_⟩
  ·exfalso
   have K:=ZT S.nd z;have t:(scope.names.lookup x==some .local || scope.names.lookup x==some .cell)=true:=g;rw[K]at t;cases t
  ·exact bg z
 ·exact aI (A b a)
 ·obtain⟨_,_,_,E,_⟩:=hf b a
  rcases E with E|E
  ·exact I.ok.noex b o e E
  ·exact absurd (aA (aB e) (a8 I.ok.bsz E)) (aT _)
 ·obtain⟨_,J,h3,_⟩:=hf b a
  rcases bX.mp (I.stkSub b z) with e|e
  ·exact J e
  ·exact h3 e
 ·exact(Heap.Ns.new s.heap (.type "dict")).keeps (pushCells_keeps _ _)
 ·obtain⟨g,i,K,e2⟩:=hs j x v h1 J
  obtain⟨m,hn,Y⟩:=I.loc;have Q:YU X.env.scope x:=.inr (S.free _ g rfl);obtain⟨u,r,lk⟩:=Y i x v K e2 Q;refine⟨u,r,.inr ?_⟩;have w:(jA X N scope s H fp xe).env.kindOf x=some .cell∨(jA X N scope s H fp xe).env.kindOf x=some .free:=by
   rcases h3 with z|z|z
   ·exfalso
    rcases Kk z with Z|⟨Z,_⟩
    ·rw[ZT S.nd g]at Z;cases Z
    ·cases Z
   ·exact .inl z
   ·exact .inr z
  refine⟨w,?_⟩;obtain⟨c,D⟩:=L w;refine⟨c,D,?_⟩;rcases QN I S (l D) with ⟨_,q,_⟩|⟨q,_,_⟩
  ·rcases lk with ⟨z,_⟩|⟨_,c',C,cell⟩
   ·exfalso
    rcases S.free _ g rfl with k|k<;>(rw[k]at z;cases z)
   ·rw[q]at C;cases C
    exact cell.keeps M
  ·exfalso
   have a1:=ZT S.nd g;have a2:=ZT S.nd q;rw[a1]at a2;cases a2
 ·rcases QN I S (l e) with ⟨_,q,_⟩|⟨_,_,q⟩
  ·obtain⟨v,z⟩:=I.cell x c q
   exact⟨v,z.keeps M⟩
  ·exact⟨_,q _ T⟩
 ·rcases QN I S (l e) with ⟨_,q,_⟩|⟨_,q,_⟩
  ·exact I.freeC x c q
  ·exact I.hok.fresh (bg q)
 ·have U:p∈([]:bK):=hp
  cases U
end
abbrev kA:=Addr->St->Hp->(St->Hp->Prop)->Prop
noncomputable def Je (elt:Expr)(gens:List Comprehension)(sc:Scope)(pos:Pos)(d:Nat)(acc:Value)(env:Env)(k:Sem Fin):Sem Fin:=
 match gens[d+1]? with
 |some g'=>do
  let x <- eval g'.iter env
  standAt g'.iter.pos
  let x <- foldedSetIterable g'.iter env x
  let _ <- runOwn (.compStart (.ListComp elt gens sc pos) (d+1) (<- holding [x] (pyIter x)) acc env) env
  k
 |none=>do
  (do let _ <- call (.builtin "list.append") [acc,<- eval elt env])
  k
theorem Lq {iter:Expr}{d:Nat}{it acc:Value}(h:gens[d]? =some ⟨tg,iter,ifs,0⟩)(H:∀g',gens[d+1]? =some g'->g'.is_async=0):
  compTurn (.ListComp elt gens sc pos) d it acc env=(do
   standAt iter.pos
   match <- pyNext it with
   |none=>pure (.done .next)|some v=>
    letOwnedTupleGo tg it v
    assign tg env v
    let mut ok:=true
    for c in ifs do
     if ok then ok <- isTrue c env (eval c env)
    if ok then Je elt gens sc pos d acc env (again (.compLoop (.ListComp elt gens sc pos) d it acc env))
    else again (.compLoop (.ListComp elt gens sc pos) d it acc env)):=by
 unfold compTurn Je;dsimp only;rw[h];cases hn:gens[d+1]? with
 |none=>rfl|some g'=>
  obtain⟨t',i,f,a⟩:=g';have e:a=0:=H _ hn;subst e
  rfl
def gC (X:Cx)(ifs:bO)(t:TT):Prop:=
 ∀(pins:bK)(s:Shared)(σ:St)(H:Hp)(Q:Bool->Hp->Prop),Inv X pins σ H s->t σ H Q->
  wpAny (model X.prog X.w) X.A (forIn ifs true λc r=>if r=true then do let ok <- isTrue c X.env (eval c X.env);pure (ForInStep.yield ok) else pure (ForInStep.yield r)) (TP X pins σ Q) X.xe s
noncomputable def Ef:TT:=λ_ H Q=>Q true H
def Na:gC X [] Ef:=λpins s σ H Q I h=>wpAny_tests_nil ⟨H,I,h⟩
def O5 {c:Expr}{t:TT}(h:PT X c t):gC X [c] t:=λpins s σ H Q I hw=>wpAny_tests_one (h pins s σ H Q I hw)
def y7 (X:Cx)(elt:Expr)(gens:List Comprehension)(sc:Scope)(pos:Pos)(d:Nat)(t:kA):Prop:=
 ∀(pins:bK)(s:Shared)(σ:St)(H:Hp)(D:Addr)(Q:St->Hp->Prop)(k:Sem Fin)(Q':Fin->Shared->Prop)(E:bN),Inv X pins σ H s->t D σ H Q->
  (∀s' a h,Inv X pins a h s'->Q a h->wpAny (model X.prog X.w) X.A k Q' E s')->wpAny (model X.prog X.w) X.A (Je elt gens sc pos d (.ref D) X.env k) Q' E s
def Fy (t:TE):kA:=λD σ H Q=>t σ H λy H1=>∃ys,H1 D=some (.lst ys)/\ys.length<sizeLine/\Q σ (upd H1 D (.lst (ys++[y])))
def Ja (J:It)(g:TG)(ti:TT)(tm:kA):kA:=λD σ H Q=>∃W:Nat->Nat->St->Hp->Prop,(∃m,W 0 m σ H)/\∀i m σ H,W i m σ H->
 (J.stop i H/\Q σ H)∨(J.go i H/\∃N:St->Hp->Prop,(∀c h,N c h->∃M,M<m/\W (i+1) M c h)/\∀x h,J.yld i H x h->g x σ h λa H1=>ti a H1 λb d=>if b=true then tm D a d N else N a d)
def FL (w:TI)(g:TG)(ti:TT)(tm:kA):kA:=λD σ H Q=>w σ H λJ H1=>Ja J g ti tm D σ H1 Q
section
variable {iter:Expr}{d:Nat}
def Qh (h:∀e s,X.xe e s->False){t:Sem α}{Q':α->Shared->Prop}(H:wpAny (model X.prog X.w) X.A t Q' X.xe s'):wpAny (model X.prog X.w) X.A t Q' E s':=
 wpAny_mono H (λ_ _ z=>z) λe s' z=>(h e s' z).elim
def N1 {t:TE}(x:∀e s,X.xe e s->False)(he:PE X elt t)(g:gens[d+1]? =none):y7 X elt gens sc pos d (Fy t):=by
 intro pins s σ H D Q k Q' E I h b;unfold Je;rw[g];refine bV (bV (Qh x (zP (he pins s σ H _ I h) λu s1 ⟨y,H1,f,r,ys,c,z,a⟩=>?_)));refine bV (Qh x (zP (X4 pins s1 σ H1 (.ref D) [y] (.ref D) [u] (λ_ l=>Q σ l) f rfl (.cons r .nil) ⟨D,ys,y,rfl,rfl,c,z,a⟩) λ_ s2 ⟨_,j,i,_,q⟩=>?_));exact bW (b s2 σ j i q)
def Lh {g:TG}{ti:TT}{tm:kA}(U:∀e s,X.xe e s->False)(Y:X.calm=true)(hg:gens[d]? =some ⟨tg,iter,ifs,0⟩)(ha:∀g',gens[d+1]? =some g'->g'.is_async=0)(L:PG X tg g)(hi:gC X ifs ti)(hm:y7 X elt gens sc pos d tm)
  {Q:St->Hp->Prop}{J:It}{it:Addr}{z:Nat->Heap->Prop}(T:Turn X.prog X.w X.K tg J fp it z)(I:Inv X pins σ H s)(st:z 0 s.heap)(hf:∀b∈fp,yR X pins H b)
  (h:Ja J g ti tm D σ H Q){R:Result->Shared->Prop}(hR:∀s' a c,Inv X pins a c s'->Q a c->R (.ok .next) s'):
  codeAny (model X.prog X.w) X.A (.compLoop (.ListComp elt gens sc pos) d (.ref it) (.ref D) X.env) R s:=by
 obtain⟨W,⟨m0,w0⟩,turn⟩:=h;have S:∀{c:Hp},(∀b∈fp,c b=none)->∀b∈fp,yR X pins c b:=λhn b k=>⟨hn b k,(hf b k).2⟩;refine codeAny_loop rfl (λn s'=>∃i a c,Inv X pins a c s'/\z i s'.heap/\(∀b∈fp,c b=none)/\W i n a c) (λn s3 hI=>?_) m0 ⟨0,σ,H,I,st,λb k=>(hf b k).1,w0⟩;show wpAny _ X.A ((compTurn (.ListComp elt gens sc pos) d (.ref it) (.ref D) X.env).onRaise (λx=>do noteFrame x X.env;theTreesLotGoes x)) _ _ s3
 refine wpAny_noted ?_;rw[Lq hg ha];refine bV (wpAny_standAt ?_);obtain⟨i,j,B,Z,kW,y,w3⟩:=hI;rcases turn i n j B w3 with ⟨stop,qn⟩|⟨go,N,hN,step⟩
 ·refine bV (zP (T.done X rfl rfl rfl Y i pins s3 j B _ Z (S y) kW stop) λr s4 ⟨E,I4⟩=>?_)
  subst E;exact bW (hR s4 j B I4 qn)
 ·refine bV (zP (T.item X rfl rfl rfl Y i pins s3 j B _ Z (S y) kW go) λr s4 ⟨u,E,h4⟩=>?_)
  subst E;refine bV (zP h4 λ_ s5 ⟨x,H5,I5,r5,y5,l,M⟩=>?_);have P:=I5.pinned (S M) (T.obj _ _ l);have back:∀{f:St}{p:Hp}{q:Shared},Inv X (pins++Q3 fp s5.heap) f p q->N f p->∃m,m<n/\∃i a c,Inv X pins a c q/\z i q.heap/\(∀b∈fp,c b=none)/\W i m a c:=λ {f p q} t n7=>by
   obtain⟨m',hm,w7⟩:=hN f p n7;refine⟨m',hm,i+1,f,p,t.unpinned,T.keep _ _ _ l λb k o e=>(t.pin (b,o) (aU _ (aU _ (JL k e)))).1,λb k=>?_,w7⟩;obtain⟨o,e,d⟩:=T.obj _ _ l b k;exact(t.pin (b,o) (aU _ (aU _ (JL k e)))).2.1
  refine bV (Qh U (zP (L _ s5 j H5 x u _ P r5 (step x H5 y5)) λ_ s6 ⟨v,H6,I6,q6⟩=>?_));refine bV (Qh U (zP (hi _ s6 v H6 _ I6 q6) λok q ⟨p,t,C⟩=>?_));cases ok with
  |false=>exact bW ⟨rfl,back t C⟩|true=>
   rw[ah rfl]at C;exact hm _ q v p D _ _ _ _ t C λs8 σ8 H8 I8 q8=>bW ⟨rfl,back I8 q8⟩
def U3 {g:TG}{ti:TT}{tm:kA}(i:∀e s,X.xe e s->False)(k:X.calm=true)(c:gens[d]? =some ⟨tg,iter,ifs,0⟩)(o:∀g',gens[d+1]? =some g'->g'.is_async=0)(t:PG X tg g)(j:gC X ifs ti)(hm:y7 X elt gens sc pos d tm)
  {Q:St->Hp->Prop}{J:It}{it:Addr}{n:Nat->Heap->Prop}(T:Turn X.prog X.w X.K tg J fp it n)(I:Inv X pins σ H s)(st:n 0 s.heap)(hf:∀b∈fp,yR X pins H b)
  (h:Ja J g ti tm D σ H Q){R:Result->Shared->Prop}(p:∀s' a f,Inv X pins a f s'->Q a f->R (.ok .next) s'):
  codeAny (model X.prog X.w) X.A (.compStart (.ListComp elt gens sc pos) d (.ref it) (.ref D) X.env) R s:=by
 have loop:=Lh i k c o t j hm T I st hf h p;refine codeAny_of_tree ?_;show wpAny _ _ ((compStart (.ListComp elt gens sc pos) d (.ref it) (.ref D) X.env).onRaise (λx=>do noteFrame x X.env;standAt theWindowsPlace)) _ _ s
 refine wpAny_notedAt ?_;unfold compStart;have l:(clausesOf (.ListComp elt gens sc pos))[d]? =some ⟨tg,iter,ifs,0⟩:=c;rw[l];show wpAny _ _ (ask >>= _) _ _ s;refine bV (wpAny_askSetting (wpAny_ite ?_))
 split
 ·first
   |exact bV (bW (bW (And.intro rfl loop)))
   |exact bW (And.intro rfl loop)
 ·first
   |exact bV (wpAny_rule (bV (wpAny_standAt (bV (T.self _ 0 s _ _ st (bW (And.intro rfl loop)))))))
   |(refine bV (wpAny_rule ?_);show wpAny _ _ (standAt iter.pos >>= _) _ _ s;exact bV (wpAny_standAt (bV (T.self _ 0 s _ _ st (bW (And.intro rfl loop))))))
def Nq {w:TI}{g:TG}{ti:TT}{tm:kA}(b:∀e s,X.xe e s->False)(o:X.calm=true)(c:gens[d+1]? =some ⟨tg,iter,ifs,0⟩)(p:∀g',gens[d+2]? =some g'->g'.is_async=0)(hw:PI X tg iter w)(t:PG X tg g)(n:gC X ifs ti)(hm:y7 X elt gens sc pos (d+1) tm)
  (j:∀x,foldedSetIterable iter X.env x=pure x:=by intro _;rfl):y7 X elt gens sc pos d (FL w g ti tm):=by
 intro pins s σ H D Q k Q' E I h l;unfold Je;rw[c];refine bV (Qh b (zP (hw pins s σ H _ I h) λv s1 u=>?_));refine bV (wpAny_standAt (bV (wpAny_of_eq (j v) ?_)));refine bV (wpAny_holding (Qh b (zP u λi s2 r=>?_)));obtain⟨it,fp,B,J,C,e,y,T,kF,f2,q⟩:=r;subst e;refine bV (wpAny_runOwn (U3 b o c p t n hm T y kF f2 q λs' a A z f=>?_));exact l s' a A z f
end
noncomputable def w9 (nl:Nat)(cap:bL)(σ:St):St:=List.replicate nl none++cap.map λi=>(σ[i]?).join
noncomputable def Ze (M N:bM)(scope:Scope)(nl:Nat)(cap:bL):Bool:=
 N.length==nl+cap.length&&(List.range cap.length).all λk=>match N[nl+k]?,M[cap.getD k 0]? with
  |some x,some y=>x==y&&scope.names.any λz=>z.1==x&&z.2==NameKind.free|_,_=>false
def NU {M:bM}{nl:Nat}(h:Ze M N scope nl cap=true):(w9 nl cap σ).length=N.length/\
  ∀(j:Nat)(x:Str)(v:V),N[j]? =some x->(w9 nl cap σ)[j]? =some (some v)->(x,NameKind.free)∈scope.names/\∃i:Nat,M[i]? =some x/\σ[i]? =some (some v):=by
 unfold Ze at h;rw[aq,aJ]at h;obtain⟨n,l⟩:=h;refine⟨by unfold w9;simp[n],λj x v r E=>?_⟩
 unfold w9 at E
 by_cases b:j<nl
 ·rw[ag (by simpa using b),bj]at E
  split at E<;>cases E
 ·rw[au (by simpa using b),bt,av]at E
  cases c:cap[j-nl]? with
  |none=>rw[c]at E;cases E|some i=>
   rw[c]at E;have e:(σ[i]?).join=some v:=az E;have k:j-nl<cap.length:=(bY.mp c).1;have H:=b9.mp l (j-nl) (b8.mpr k);have p:nl+(j-nl)=j:=by omega
   rw[p,r]at H;have q:cap.getD (j-nl) 0=i:=by rw[ae,c];rfl
   rw[q]at H;cases hm:M[i]? with
   |none=>rw[hm]at H;cases H|some y=>
    rw[hm]at H;rw[aq,aJ]at H;obtain⟨g,f⟩:=H;subst g;obtain⟨z,d,a⟩:=List.any_eq_true.mp f;rw[aq,aJ,aJ]at a;refine⟨?_,i,hm,?_⟩
    ·obtain⟨t,Z⟩:=z
     obtain⟨a1,a2⟩:=a;cases a1;cases a2;exact d
    ·cases s:σ[i]? with
     |none=>rw[s]at e;cases e|some o=>rw[s]at e;cases o with
      |none=>cases e|some w=>cases e;rfl
noncomputable abbrev j9:Value->Shared->Prop:=λ_ _=>False
def Yj (K:Frag)(w:TI)(g:TG)(ti:TT)(tm:kA)(nl:Nat)(cap:bL):TE:=λσ H Q=>w σ H λJ h=>∀D,h D=none->K.lookup D=none->Ja J g ti tm D (w9 nl cap σ) (upd h D (.lst [])) λ_ a=>Q (.ref D) a
section
variable {iter:Expr}{wi:TI}{g:TG}{ti:TT}{tm:kA}{nl:Nat}
def VO (hc:X.calm=true)(S:wL X sc)(r:Ze X.N N sc nl cap=true)(ha:∀g',gs[0]? =some g'->g'.is_async=0)(hw:PI X tg iter wi)
  
  (Z:∀s H fp,Inv X pins σ H s->(∀b∈fp,yR X pins H b)->PG (jA X N sc s H fp j9) tg g/\gC (jA X N sc s H fp j9) ifs ti/\y7 (jA X N sc s H fp j9) elt (⟨tg,iter,ifs,0⟩::gs) sc pos 0 tm)
  {Q:VK}(I:Inv X pins σ H s)(h:Yj X.K wi g ti tm nl cap σ H Q)
  {use:Option (Value->Sem Unit)}{Q':bN}
  (n:∀(D C:Addr)(s':Shared)(l:Hp)(m:bP),Inv X pins σ l s'->Q (.ref D) l->s'.heap.Ns C m->l C=none->C≠X.env.locals->X.s0.heap.objs.size<=C->(∀x c,X.env.cells.lookup x=some c->c≠C)->(∀q∈X.pn++pins,q.1≠C)->
   compPost (model X.prog X.w) X.A X.xe use Q' (.ref D) C (.ok .next) s')
  (hs:∀x,foldedSetIterable iter X.env x=pure x:=by intro _;rfl):
  wpAny (model X.prog X.w) X.A (comprehension (.ListComp elt (⟨tg,iter,ifs,0⟩::gs) sc pos) sc X.env p (newList []) false (eval iter X.env) use) Q' X.xe s:=by
 have j:∀y∈sc.names,y.2=.free->∃c,X.env.cells.lookup y.1=some c:=λy U e=>I.ok.has _ (S.free y U e);refine wpAny_comprehension_free (use:=use) rfl hs (XJ j) S.kind (λy U e=>by
  obtain⟨y1,y2⟩:=y;have e':y2=.local:=e;subst e';exact ZT S.nd U) ?_
 refine zP (hw pins s σ H _ I h) λv s1 h1=>zP h1 λitv s2 h2=>?_;obtain⟨it,fp,tn,J,L,e,I2,T,kF,f2,q2⟩:=h2;subst e;refine wpAny_newObj_type ?_;have hD:L s2.heap.objs.size=none:=I2.fresh;have hKD:X.K.lookup s2.heap.objs.size=none:=by
  cases ek:X.K.lookup s2.heap.objs.size with
  |none=>rfl|some o=>exact absurd (aB (I2.kIn _ _ ek)) (aT _)
 have P:=q2 _ hD hKD;generalize Y:({ s2 with heap:=s2.heap.push { cls:=.type "list",data:=.seq ([]:bI).toArray } }:Shared)=s3
 have f:s3={ s2 with heap:=s2.heap.push { cls:=.type "list",data:=.seq ([]:bI).toArray } }:=Y.symm
 have i:Inv X pins σ (upd L s2.heap.objs.size (.lst [])) s3:=by
  rw[f];exact I2.laid (t':=s2.toks) (λb u e=>af _ e) (aw _) ⟨by simp,[],0,.nil,ao _ rfl⟩
 have t:∀b∈fp,∃o,s2.heap.get? b=some o:=λb a=>let ⟨o,e,_⟩:=T.obj 0 _ kF b a;⟨o,e⟩
 have M:s3.heap.objs.size=s2.heap.objs.size+1:=by rw[f];exact a5 ..
 have kW:tn 0 s3.heap:=T.keep _ _ _ kF λb a o e=>by rw[f];exact af _ e
 have B:∀b∈fp,b<s3.heap.objs.size:=λb a=>by
  obtain⟨o,e⟩:=t b a;rw[M];exact aY (aB e)
 have E:∀b∈fp,yR X pins (upd L s2.heap.objs.size (.lst [])) b:=λb a=>by
  obtain⟨o,e⟩:=t b a;refine⟨?_,(f2 b a).2⟩;rw[z7 (aI (aB e))];exact(f2 b a).1
 generalize upd L s2.heap.objs.size (.lst [])=H3 at i E P;generalize s2.heap.objs.size=D at P ⊢;refine Sf ?_;obtain⟨cl,cs⟩:=NU r (σ:=σ);have I4:=OZ (xe:=j9) i S E B cl cs;obtain⟨hgt,hi,hm⟩:=Z s3 H3 fp i E;refine U3 (X:=jA X N sc s3 H3 fp j9) (gens:=⟨tg,iter,ifs,0⟩::gs) (d:=0) (λ_ _ z=>z) hc rfl ha hgt hi hm T I4 (T.keep _ _ _ kW λb a o e=>pushCells_keeps _ _ _ _ (af _ e)) (λb a=>?_) P λs' σ' l k q'=>?_
 ·obtain⟨g1,g2,g3,g4,g5,g6⟩:=E b a
  refine⟨g1,aI (B b a),λz=>?_,.inl a,(I4.ok.exf b a).2,λp hp=>absurd (show p∈([]:bK) from hp) (by simp)⟩
  rcases bX.mp (i.stkSub b z) with e|e
  ·exact g2 e
  ·exact g3 e
 ·have I5:Inv X pins σ l s':=i.call' k.os k.base k.hok k.bare λb a=>by
   obtain⟨g1,g2,g3,g4,g5,g6⟩:=E b a;exact⟨g4,g2,g5,g6⟩
  obtain⟨m,hn,_⟩:=k.loc;refine n D _ s' l m I5 q' hn k.free (bq i.lt) i.sz (λx c e z=>?_) λq hq z=>?_
  ·obtain⟨v,w⟩:=i.cell x c e
   exact aT _ (aA w.lt (by rw[z];exact aw _))
  ·exact aT _ (aA (aB (i.pin q hq).1) (by rw[z];exact aw _))
def LZ (d:X.calm=true)(S:wL X sc)(p:Ze X.N N sc nl cap=true)(i:∀g',gs[0]? =some g'->g'.is_async=0)(hw:PI X tg iter wi)
  (n:∀s H fp,PG (jA X N sc s H fp j9) tg g/\gC (jA X N sc s H fp j9) ifs ti/\y7 (jA X N sc s H fp j9) elt (⟨tg,iter,ifs,0⟩::gs) sc pos 0 tm)
  (c:∀x,foldedSetIterable iter X.env x=pure x:=by intro _;rfl):PE X (.ListComp elt (⟨tg,iter,ifs,0⟩::gs) sc pos) (Yj X.K wi g ti tm nl cap):=by
 intro pins s σ H Q I h;rw[eval_ListComp];refine VO (use:=none) d S p i hw (λs H fp _ _=>n s H fp) I h (λD C s' v m u q hn t r l k j=>?_) c;exact⟨m,hn,λh' a=>⟨.ref D,v,u.turned (t':=s'.toks) (λb o f e=>(a.2 b f).trans e) t r (.inr l) k j,rfl,q⟩⟩
def R8 {p:Pos}{c:Pos}(P:X.N.Nodup)(j:X.N[i]? =some x)(l:X.env.scope.names.lookup x=some .local)
  (w:swapsWith (.ListComp elt (⟨tg,iter,ifs,0⟩::gs) sc pos) (some (.Name x p)) c.line X.env=pure true)
  (J:X.calm=true)(S:wL X sc)(d:Ze X.N N sc nl cap=true)(M:∀g',gs[0]? =some g'->g'.is_async=0)(hw:PI X tg iter wi)
  (n:∀s H fp,PG (jA X N sc s H fp j9) tg g/\gC (jA X N sc s H fp j9) ifs ti/\y7 (jA X N sc s H fp j9) elt (⟨tg,iter,ifs,0⟩::gs) sc pos 0 tm)
  (B:∀x,foldedSetIterable iter X.env x=pure x:=by intro _;rfl):PS X (.Assign [.Name x p] (.ListComp elt (⟨tg,iter,ifs,0⟩::gs) sc pos) c) (YO (Yj X.K wi g ti tm nl cap) (Yp i)):=by
 intro pins s σ H D I h;rw[exec_Assign_Name_used _ _ _ _ w];refine bV (wpAny_standAt (bV ?_));show wpAny _ X.A (do let _ <- comprehension (.ListComp elt (⟨tg,iter,ifs,0⟩::gs) sc pos) sc X.env _ (newList []) false (eval iter X.env) (some (assign (.Name x p) X.env))) _ _ s
 refine bV (wpAny_mono (VO (use:=some (assign (.Name x p) X.env)) (Q':=λ_ s'=>SP X pins D .next s') J S d M hw (λs H fp _ _=>n s H fp) I h (λu C s' H' m I' q hn U t T r Q=>?_) B) (λ_ s' E=>bW (bW E)) λ_ _ e=>e);show wpAny _ X.A (assign (.Name x p) X.env (.ref u)) _ _ _;refine wpAny_assign_Name (Vk I' P j (.inl l) (v:=.ref u) rfl (λs2 Z ⟨a,y,Y⟩=>?_) (.inr l));have k:C≠a:=by
  rcases Y with e|e
  ·rw[e];exact t
  ·exactλz=>r x a e z.symm
 refine⟨m,hn.sameBut y k,λh' f=>⟨_,H',Z.turned (t':=s2.toks) (λb o L e=>(f.2 b L).trans e) U t (.inr T) r Q,q⟩⟩
end
end L2
namespace Mi
open PySem PySem.Spec PyProof.Rows L2
inductive W where
 |non|bl (b:Bool)|int (i:Int)|str (x:Str)|tup (xs:List W)|ref (n:Nat)
 |clo (k:Nat) (xs:List W) (P:Obj->Addr->Obj->List V->Prop)
 |xc (x:Str)
inductive O where
 |lst (xs:List W)|ro (xs:List W)|dct (kvs:List (Key×W))
 |td (kvs:List (List Int×W))
 |tab (q:Str) (P:Addr)
noncomputable def O.mut:O->Bool
 |.ro _=>false|_=>true
noncomputable abbrev Hx:=List O
noncomputable abbrev En:=List (Option W)
inductive R (α:Type) where
 |ok (a:α) (A:Hx)|exc (x:Str) (A:Hx)|bad
noncomputable def R.bind {β:Type}(r:R α)(f:α->Hx->R β):R β:=match r with
 |.ok a A=>f a A|.exc x A=>.exc x A|.bad=>.bad
def R.post (r:R α)(P:α->Hx->Prop)(E:Str->Hx->Prop):Prop:=match r with
 |.ok a A=>P a A|.exc x A=>E x A|.bad=>False
noncomputable def R.nox (r:R α):R α:=match r with
 |.ok a A=>.ok a A|.exc _ _=>.bad|.bad=>.bad
section
variable {β:Type}{r:R α}{f:α->Hx->R β}{P Q:α->Hx->Prop}{P':β->Hx->Prop}{E F:Str->Hx->Prop}
def zF {a:α}{A:Hx}:(R.ok a A).bind f=f a A:=rfl
def Vo {A:Hx}:(R.exc x A:R α).bind f=.exc x A:=rfl
def zY:(r.bind f).post P' E↔r.post (λa A=>(f a A).post P' E) E:=by cases r<;>exact Iff.rfl
def qj (h:r.post P E)(H:∀a A,P a A->Q a A)(b:∀x A,E x A->F x A):r.post Q F:=by
 cases r with
 |ok a A=>exact H _ _ h|exc x A=>exact b _ _ h|bad=>exact h
end
abbrev Ev:=En->Hx->R W
inductive ES (K:Frag)(H:Hp)(R:List V->Prop)(v:V):Prop
 |mk (a:Addr) (vs:List V) (e:v=.ref a) (h:ql K H a vs) (r:R vs)
inductive EF (H:Hp)(P:Obj->Addr->Obj->List V->Prop)(R:List V->Prop)(v:V):Prop
 |mk (a:Addr) (ob:Obj) (u:HO) (c:Addr) (oc:Obj) (uc:HO) (vs:List V) (e:v=.ref a) (h1:H a=some (.frz ob u)) (h2:H c=some (.frz oc uc)) (p:P ob c oc vs) (r:R vs)
inductive EO (R:V->Prop)(Rs:List V->Prop)(vs:List V):Prop
 |mk (v:V) (r:List V) (e:vs=v::r) (h:R v) (t:Rs r)
mutual
noncomputable def RV (K:Frag)(φ:bJ)(H:Hp):W->V->Prop
 |.non,v=>v=.non|.bl b,v=>v=.bl b|.int i,v=>v=.int i|.str x,v=>v=.str x|.tup ws,v=>ES K H (zx K φ H ws) v|.ref n,v=>∃a,v=.ref a/\φ[n]? =some a|.clo _ ws P,v=>EF H P (zx K φ H ws) v|.xc x,v=>∃a o u C,v=.ref a/\H a=some (.frz o u)/\o.cls=.ref C/\nsIn K mainGlobals x=some (some (.ref C))
noncomputable def zx (K:Frag)(φ:bJ)(H:Hp):List W->List V->Prop
 |[],vs=>vs=[]|w::ws,vs=>EO (RV K φ H w) (zx K φ H ws) vs
end
structure Le (K:Frag)(φ:bJ)(H:Hp)(φ':bJ)(H':Hp):Prop where
 ex:∀(n:Nat)(a:Addr),φ[n]? =some a->φ'[n]? =some a
 tp:∀a vs,ql K H a vs->ql K H' a vs
 fr:∀a o,H a=some o->(∀n:Nat,φ[n]?≠some a)->H' a=some o
 nw:∀(n:Nat)(a:Addr),φ'[n]? =some a->φ[n]? =some a∨H a=none
 st:∀a,H' a=none->H a=none
 fz:∀a o u,H a=some (.frz o u)->H' a=some (.frz o u)
def Le.refl {K φ H}:Le K φ H φ H:=⟨λ_ _ h=>h,λ_ _ h=>h,λ_ _ h _=>h,λ_ _ h=>.inl h,λ_ h=>h,λ_ _ _ h=>h⟩
def Le.trans {K φ H φ1 H1 φ2 H2}(a:Le K φ H φ1 H1)(b:Le K φ1 H1 φ2 H2):Le K φ H φ2 H2 where
 ex:=λn x h=>b.ex n x (a.ex n x h)
 tp:=λn x h=>b.tp n x (a.tp n x h)
 fr:=λc o h n=>b.fr c o (a.fr c o h n) λk e=>by
  rcases a.nw k c e with e|e
  ·exact n k e
  ·rw[h]at e;cases e
 nw:=λn c e=>by
  rcases b.nw n c e with e|e
  ·exact a.nw n c e
  ·exact .inr (a.st c e)
 st:=λc e=>a.st c (b.st c e)
 fz:=λc o u h=>b.fz c o u (a.fz c o u h)
def Le.off {K φ H φ' H'}(l:Le K φ H φ' H'){o:HO}(h:H D=some o)(n:∀k:Nat,φ[k]?≠some D):H' D=some o/\∀k:Nat,φ'[k]?≠some D:=
 ⟨l.fr D o h n,λk e=>by
  rcases l.nw k D e with e|e
  ·exact n k e
  ·rw[h]at e;cases e⟩
section
variable {K:Frag}{φ':bJ}{H':Hp}
structure gJ (K:Frag)(φ:bJ)(H:Hp)(φ':bJ)(H':Hp):Prop where
 ex:∀(n:Nat)(a:Addr),φ[n]? =some a->φ'[n]? =some a
 tp:∀a vs,ql K H a vs->ql K H' a vs
 fz:∀a o u,H a=some (.frz o u)->H' a=some (.frz o u)
mutual
theorem RV.monoW (l:gJ K φ H φ' H'):∀{w:W}{v:V},RV K φ H w v->RV K φ' H' w v
 |.non,_,h=>h|.bl _,_,h=>h|.int _,_,h=>h|.str _,_,h=>h|.tup ws,_,⟨a,vs,e,t,r⟩=>⟨a,vs,e,l.tp _ _ t,zx.monoW l r⟩|.ref n,_,⟨a,e,f⟩=>⟨a,e,l.ex _ _ f⟩|.clo _ ws P,_,⟨a,ob,u,c,g,uc,vs,e,d,b,i,r⟩=>⟨a,ob,u,c,g,uc,vs,e,l.fz _ _ _ d,l.fz _ _ _ b,i,zx.monoW l r⟩|.xc x,_,⟨a,o,u,C,e,d,b⟩=>⟨a,o,u,C,e,l.fz _ _ _ d,b⟩
theorem zx.monoW (l:gJ K φ H φ' H'):∀{ws:List W}{vs:List V},zx K φ H ws vs->zx K φ' H' ws vs
 |[],_,h=>h|w::ws,_,⟨v,r,e,h,t⟩=>⟨v,r,e,RV.monoW l h,zx.monoW l t⟩
end
def RV.mono {w:W}(h:RV K φ H w v)(l:Le K φ H φ' H'):RV K φ' H' w v:=RV.monoW ⟨l.ex,l.tp,l.fz⟩ h
def zx.mono {w:List W}{v:List V}(h:zx K φ H w v)(l:Le K φ H φ' H'):zx K φ' H' w v:=zx.monoW ⟨l.ex,l.tp,l.fz⟩ h
structure yd (K:Frag)(D:Addr)(φ:bJ)(H:Hp)(φ':bJ)(H':Hp):Prop where
 ex:∀(n:Nat)(a:Addr),φ[n]? =some a->φ'[n]? =some a
 tp:∀a vs,ql K H a vs->ql K H' a vs
 fr:∀a o,a≠D->H a=some o->(∀n:Nat,φ[n]?≠some a)->H' a=some o
 nw:∀(n:Nat)(a:Addr),φ'[n]? =some a->φ[n]? =some a∨H a=none
 st:∀a,H' a=none->H a=none
 fz:∀a o u,H a=some (.frz o u)->H' a=some (.frz o u)
def yd.refl {D}:yd K D φ H φ H:=⟨λ_ _ h=>h,λ_ _ h=>h,λ_ _ _ h _=>h,λ_ _ h=>.inl h,λ_ h=>h,λ_ _ _ h=>h⟩
def Le.toD {D}(l:Le K φ H φ' H'):yd K D φ H φ' H':=⟨l.ex,l.tp,λa o _ h n=>l.fr a o h n,l.nw,l.st,l.fz⟩
def yd.trans {D φ1 H1 φ2 H2}(a:yd K D φ H φ1 H1)(b:yd K D φ1 H1 φ2 H2):yd K D φ H φ2 H2 where
 ex:=λn x h=>b.ex n x (a.ex n x h)
 tp:=λn x h=>b.tp n x (a.tp n x h)
 fr:=λc o ne h n=>b.fr c o ne (a.fr c o ne h n) λk e=>by
  rcases a.nw k c e with e|e
  ·exact n k e
  ·rw[h]at e;cases e
 nw:=λn c e=>by
  rcases b.nw n c e with e|e
  ·exact a.nw n c e
  ·exact .inr (a.st c e)
 st:=λc e=>a.st c (b.st c e)
 fz:=λc o u h=>b.fz c o u (a.fz c o u h)
def RV.monoD {D}{w:W}(h:RV K φ H w v)(l:yd K D φ H φ' H'):RV K φ' H' w v:=RV.monoW ⟨l.ex,l.tp,l.fz⟩ h
def zx.monoD {D}{w:List W}{v:List V}(h:zx K φ H w v)(l:yd K D φ H φ' H'):zx K φ' H' w v:=zx.monoW ⟨l.ex,l.tp,l.fz⟩ h
theorem zx.length:∀{ws:List W}{vs:List V},zx K φ H ws vs->ws.length=vs.length
 |[],_,h=>by cases h;rfl|w::ws,_,⟨v,r,e,_,t⟩=>by subst e;simp[zx.length t]
theorem zx.get:∀{ws:List W}{vs:List V}{i:Nat}{w:W},zx K φ H ws vs->ws[i]? =some w->∃v,vs[i]? =some v/\RV K φ H w v
 |[],_,_,_,_,e=>by simp at e|w::ws,_,0,_,⟨v,r,e,h,t⟩,q=>by subst e;simp at q;subst q;exact⟨v,by simp,h⟩|w::ws,_,i+1,x,⟨v,r,e,h,t⟩,q=>by
  subst e;obtain⟨y,b,a⟩:=zx.get (i:=i) (w:=x) t (by simpa using q)
  exact⟨y,by simpa using b,a⟩
theorem zx.append:∀{ws us:List W}{vs xs:List V},zx K φ H ws vs->zx K φ H us xs->zx K φ H (ws++us) (vs++xs)
 |[],_,_,_,h,t=>by cases h;exact t|w::ws,_,_,_,⟨v,r,e,h,t⟩,T=>by subst e;exact⟨v,r++_,rfl,h,zx.append t T⟩
def zx.one {w:W}(h:RV K φ H w v):zx K φ H [w] [v]:=⟨v,[],rfl,h,rfl⟩
def zx.nil:zx K φ H [] []:=rfl
def zx.cons {w:W}{ws:List W}(h:RV K φ H w v)(t:zx K φ H ws vs):zx K φ H (w::ws) (v::vs):=⟨v,vs,rfl,h,t⟩
theorem zx.set {w:W}(q:RV K φ H w v):∀{ws:List W}{vs:List V}(i:Nat),zx K φ H ws vs->zx K φ H (ws.set i w) (vs.set i v)
 |[],_,_,h=>by cases h;exact rfl|_::_,_,0,⟨a,r,e,h,t⟩=>by subst e;exact⟨v,r,rfl,q,t⟩|_::_,_,i+1,⟨a,r,e,h,t⟩=>by subst e;exact⟨a,_,rfl,h,zx.set q i t⟩
theorem zx.erase:∀{ws:List W}{vs:List V}(n:Nat),zx K φ H ws vs->zx K φ H (ws.eraseIdx n) (vs.eraseIdx n)
 |[],_,n,h=>by cases h;rw[List.eraseIdx_nil,List.eraseIdx_nil];exact zx.nil|_::_,_,0,⟨v,r,e,h,t⟩=>by subst e;simpa using t|_::_,_,n+1,⟨v,r,e,h,t⟩=>by subst e;exact⟨v,_,rfl,h,zx.erase n t⟩
theorem zx.ints:∀{ns:bH}{vs:List V},zx K φ H (ns.map W.int) vs↔vs=ns.map V.int
 |[],vs=>Iff.rfl|n::ns,vs=>by
  constructor
  ·rintro⟨v,r,e,h,t⟩
   rw[e,(show v=V.int n from h),zx.ints.mp t];rfl
  ·intro e
   exact⟨V.int n,ns.map V.int,e,rfl,zx.ints.mpr rfl⟩
def Qt (K:Frag)(H:Hp)(a:Addr)(xs:List V):Prop:=
 (∃ob,H a=some (.frz ob (.lst xs)))∨
  ∃(o:Obj) (its:Array Value) (n:Nat),K.lookup a=some o/\o.cls=.type "list" /\ o.dict=none/\o.data=.seq its n/\its.size<=sizeLine/\Vals xs its.toList
def Qt.sq (h:Qt K H a xs):qH K H a xs:=by
 rcases h with h|h
 ·exact .inl (.inr h)
 ·exact .inr h
inductive TabAt (H:Hp)(q:Str)(cv:Value):Prop
 |mk (c:Addr) (oc:Obj) (u:HO) (vs:Array Value) (t:Tok) (e:cv=.ref c) (h:H c=some (.frz oc u)) (d:oc.data=.fields vs/\vs[1]? =some (.str q t))
def Jg (H:Hp)(q:Str)(ps:Array Value):Prop:=TriplesOk ps.toList/\∀pos cv,codeAmong pos ps.toList=some cv->TabAt H q cv
def Jg.mono {q:Str}{ps:Array Value}(h:Jg H q ps)(l:∀a o u,H a=some (.frz o u)->H' a=some (.frz o u)):Jg H' q ps:=
 ⟨h.1,λpos cv e=>by obtain⟨c,b,u,vs,t,g,f,d⟩:=h.2 pos cv e;exact⟨c,b,u,vs,t,g,l _ _ _ f,d⟩⟩
noncomputable def hT (k:bH):Int:=reduceHash (Builtin.Tuple.tupleHashOf (k.map hashInt))
def Dj (a:Addr)(xs:List (List Int×Addr×V))(h:Heap):Prop:=(a==sysModules)=false/\xs.length<=sizeLine/\∃zs:List (List Int×Addr×Value),
 Paired (λ(p:List Int×Addr×V) (q:List Int×Addr×Value)=>p.1=q.1/\p.2.1=q.2.1/\RelV p.2.2 q.2.2) xs zs/\
 ∃o e E,h.get? a=some o/\o.ExactDict/\o.data=.dict e E/\e.toList=zs.map (λx=>(⟨hT x.1,.ref x.2.1,x.2.2⟩:DictEntry))/\(zs.map (·.1)).Nodup
def OR (K:Frag)(φ:bJ)(H:Hp)(a:Addr):O->Prop
 |.lst ws=>∃vs,H a=some (.lst vs)/\zx K φ H ws vs|.ro ws=>∃vs,Qt K H a vs/\zx K φ H ws vs|.dct k=>∃us,H a=some (.dK us)/\us.map (·.1)=k.map (·.1)/\zx K φ H (k.map (·.2)) (us.map (·.2))|.td k=>∃xs:List (List Int×Addr×V),H a=some (.ext (Dj a xs))/\xs.map (·.1)=k.map (·.1)/\(∀x∈xs,ql K H x.2.1 (x.1.map V.int))/\zx K φ H (k.map (·.2)) (xs.map (·.2.2))|.tab q P=>a=P/\∃ps,H a=some (.tbl ps)/\Jg H q ps
structure zB (K:Frag)(φ:bJ)(A:Hx)(H:Hp):Prop where
 len:φ.length=A.length
 inj:∀(i j:Nat)(a:Addr)(o o':O),φ[i]? =some a->φ[j]? =some a->A[i]? =some o->A[j]? =some o'->o.mut=true->o'.mut=true->i=j
 ob:∀(n:Nat)(o:O),A[n]? =some o->∃a,φ[n]? =some a/\OR K φ H a o
variable {A:Hx}
def OR.there {o:O}(h:OR K φ H a o)(m:o.mut=true):∃u,H a=some u/\(∀xs,u≠.tup xs)/\(∀ob v,u≠.frz ob v):=by
 cases o with
 |lst ws=>obtain⟨vs,e,_⟩:=h;exact⟨_,e,λ_ z=>(by cases z),λ_ _ z=>(by cases z)⟩|ro ws=>cases m|dct k=>obtain⟨vs,e,_⟩:=h;exact⟨_,e,λ_ z=>(by cases z),λ_ _ z=>(by cases z)⟩|td k=>obtain⟨vs,e,_⟩:=h;exact⟨_,e,λ_ z=>(by cases z),λ_ _ z=>(by cases z)⟩|tab q P=>obtain⟨_,vs,e,_⟩:=h;exact⟨_,e,λ_ z=>(by cases z),λ_ _ z=>(by cases z)⟩
def Wv {o:HO}(h:ql K H a vs)(n:∀xs,H b≠some (.tup xs))(N:∀ob u,H b≠some (.frz ob u)):ql K (upd H b o) a vs:=by
 rcases h with (h|⟨ob,h⟩)|h
 ·exact .inl (.inl (by rw[z7];exact h;intro e;subst e;exact n _ h))
 ·exact .inl (.inr ⟨ob,by rw[z7];exact h;intro e;subst e;exact N _ _ h⟩)
 ·exact .inr h
theorem Le.upd {o:HO}(c:φ[k]? =some b)(n:∀xs,H b≠some (.tup xs))(N:∀ob u,H b≠some (.frz ob u)):Le K φ H φ (upd H b o) where
 ex:=λ_ _ h=>h
 tp:=λ_ _ h=>Wv h n N
 fr:=λa u h z=>by
  rw[z7];exact h;intro e;subst e;exact z k c
 nw:=λ_ _ h=>.inl h
 st:=λa h=>by
  by_cases e:a=b
  ·subst e;rw[ju]at h;cases h
  ·rw[z7 e]at h;exact h
 fz:=λa ob u h=>by
  rw[z7];exact h;intro e;subst e;exact N _ _ h
def Le.new {p:Addr}{o:HO}(b:H p=none):Le K φ H φ (L2.upd H p o) where
 ex:=λ_ _ h=>h
 tp:=λ_ _ h=>Wv h (λxs z=>by rw[b]at z;cases z) (λ_ _ z=>by rw[b]at z;cases z)
 fr:=λa u h z=>by
  rw[z7];exact h;intro e;subst e;rw[b]at h;cases h
 nw:=λ_ _ h=>.inl h
 st:=λa h=>by
  by_cases e:a=p
  ·subst e;rw[ju]at h;cases h
  ·rw[z7 e]at h;exact h
 fz:=λa ob u h=>by
  rw[z7];exact h;intro e;subst e;rw[b]at h;cases h
def Le.alloc {p:Addr}{o:HO}(b:H p=none):Le K φ H (φ++[p]) (L2.upd H p o) where
 ex:=λn a h=>by
  have:=(bY.mp h).1
  rw[ag this];exact h
 tp:=(Le.new (φ:=φ) b).tp
 fr:=(Le.new (K:=K) (φ:=φ) b).fr
 nw:=λn a h=>by
  by_cases hn:n < φ.length
  ·rw[ag hn]at h;exact .inl h
  ·rw[au (by omega)]at h
   have e:a=p:=by
    have:=mem_of_getElem? h
    simpa using this
   subst e;exact .inr b
 st:=(Le.new (K:=K) (φ:=φ) b).st
 fz:=(Le.new (K:=K) (φ:=φ) b).fz
def Le.ofD {o:HO}(b:H D=none)(l:yd K D φ (L2.upd H D o) φ' H'):Le K φ H φ' H' where
 ex:=l.ex
 tp:=λa vs h=>l.tp a vs ((Le.new (K:=K) (φ:=φ) b).tp a vs h)
 fr:=λa u h n=>by
  have ne:a≠D:=by rintro rfl;rw[b]at h;cases h
  exact l.fr a u ne (by rw[z7 ne];exact h) n
 nw:=λn a e=>by
  rcases l.nw n a e with e|e
  ·exact .inl e
  ·by_cases h:a=D
   ·subst h;rw[ju]at e;cases e
   ·rw[z7 h]at e;exact .inr e
 st:=λa e=>by
  have E:=l.st a e
  by_cases h:a=D
  ·subst h;rw[ju]at E;cases E
  ·rw[z7 h]at E;exact E
 fz:=λa ob u h=>l.fz a ob u (by rw[z7];exact h;rintro rfl;rw[b]at h;cases h)
theorem yd.upd {o:HO}(b:H D=some (.lst xs)):yd K D φ H φ (L2.upd H D o) where
 ex:=λ_ _ h=>h
 tp:=λa vs h=>Wv h (λxs z=>by rw[b]at z;cases z) (λ_ _ z=>by rw[b]at z;cases z)
 fr:=λa u ne h n=>by rw[z7 ne];exact h
 nw:=λ_ _ h=>.inl h
 st:=λa e=>by
  by_cases h:a=D
  ·subst h;rw[ju]at e;cases e
  ·rw[z7 h]at e;exact e
 fz:=λa ob u h=>by
  rw[z7];exact h;intro e;subst e;rw[b]at h;cases h
def OR.keep {o:O}(h:OR K φ H a o)(l:Le K φ H φ' H')(e:∀u,H a=some u->H' a=some u):OR K φ' H' a o:=by
 cases o with
 |lst ws=>obtain⟨vs,q,r⟩:=h;exact⟨vs,e _ q,r.mono l⟩|dct s=>obtain⟨vs,q,k,r⟩:=h;exact⟨vs,e _ q,k,r.mono l⟩|td s=>obtain⟨vs,q,k,t,r⟩:=h;exact⟨vs,e _ q,k,λx b=>l.tp _ _ (t x b),r.mono l⟩|tab q P=>obtain⟨k,ps,q,r⟩:=h;exact⟨k,ps,e _ q,r.mono l.fz⟩|ro ws=>
  obtain⟨vs,q,r⟩:=h;refine⟨vs,?_,r.mono l⟩;rcases q with ⟨ob,q⟩|q
  ·exact .inl ⟨ob,e _ q⟩
  ·exact .inr q
theorem zB.alloc {p:Addr}{u:HO}{o:O}(S:zB K φ A H)(r:H p=none)(new:OR K (φ++[p]) (L2.upd H p u) p o):Le K φ H (φ++[p]) (L2.upd H p u)/\zB K (φ++[p]) (A++[o]) (L2.upd H p u):=by
 have l:Le K φ H (φ++[p]) (L2.upd H p u):=Le.alloc r;have old:∀(i:Nat) a,(φ++[p])[i]? =some a->i<A.length->φ[i]? =some a:=λi a e b=>by
  rw[ag (by rw[S.len];exact b)]at e;exact e
 refine⟨l,by simp[S.len],λi j a x w k g f c m1 m2=>?_,λn o' e=>?_⟩
 ·by_cases b:i<A.length
  ·by_cases d:j<A.length
   ·rw[ag b]at f
    rw[ag d]at c;exact S.inj i j a x w (old i a k b) (old j a g d) f c m1 m2
   ·exfalso
    rw[ag b]at f;have t:j=A.length:=by have:=(bY.mp c).1;simp at this;omega
    subst t;rw[au (by rw[S.len];exact aw _),S.len]at g
    simp at g;obtain⟨B,E,q⟩:=S.ob i x f;rw[old i a k b]at E;cases E;obtain⟨z,h,_⟩:=q.there m1;rw[<- g,r]at h;cases h
  ·have v:i=A.length:=by have:=(bY.mp f).1;simp at this;omega
   by_cases d:j<A.length
   ·exfalso
    rw[ag d]at c;subst v;rw[au (by rw[S.len];exact aw _),S.len]at k
    simp at k;obtain⟨B,E,q⟩:=S.ob j w c;rw[old j a g d]at E;cases E;obtain⟨z,h,_⟩:=q.there m2;rw[<- k,r]at h;cases h
   ·have:=(bY.mp c).1;simp at this;omega
 ·by_cases hn:n<A.length
  ·rw[ag hn]at e
   obtain⟨a,E,q⟩:=S.ob n o' e;refine⟨a,l.ex _ _ E,q.keep l λz h=>?_⟩;rw[z7];exact h;intro y;subst y;rw[r]at h;cases h
  ·have s:n=A.length:=by have:=(bY.mp e).1;simp at this;omega
   subst s;rw[au (aw _)]at e;simp at e;subst e;exact⟨p,by rw[au (by rw[S.len];exact aw _),S.len];simp,new⟩
def zB.write {p:Addr}{u:HO}{o o':O}(S:zB K φ A H)(hn:A[n]? =some o)(m:o.mut=true)(L:o'.mut=true)(d:φ[n]? =some p)(new:OR K φ (L2.upd H p u) p o'):
  Le K φ H φ (L2.upd H p u)/\zB K φ (A.set n o') (L2.upd H p u):=by
 obtain⟨P,e,q⟩:=S.ob n o hn;rw[d]at e;cases e;obtain⟨z,c,y,N⟩:=q.there m;have l:Le K φ H φ (L2.upd H p u):=Le.upd d (λxs e=>by rw[c]at e;exact y xs (az e)) λob v e=>by rw[c]at e;exact N ob v (az e)
 have mt:∀(i:Nat)(w:O),(A.set n o')[i]? =some w->w.mut=true->∃f,A[i]? =some f/\f.mut=true:=λi w e M=>by
  by_cases h:i=n
  ·subst h;exact⟨o,hn,m⟩
  ·rw[aF (Ne.symm h)]at e;exact⟨w,e,M⟩
 refine⟨l,by simp[S.len],λi j a x t I D C B m1 m2=>?_,λi w e=>?_⟩
 ·obtain⟨k,E,k1⟩:=mt i x C m1
  obtain⟨g,J,k2⟩:=mt j t B m2;exact S.inj i j a k g I D E J k1 k2
 ·by_cases h:i=n
  ·subst h
   have:i<A.length:=(bY.mp hn).1
   rw[aE this]at e;cases e;exact⟨p,d,new⟩
  ·rw[aF (Ne.symm h)]at e
   obtain⟨a,E,r⟩:=S.ob i w e;refine⟨a,E,?_⟩
   by_cases hm:w.mut=true
   ·have ne:a≠p:=λz=>h (S.inj i n a w o E (by rw[z];exact d) e hn hm m)
    exact r.keep l λz c=>by rw[z7 ne];exact c
   ·cases w with
    |lst _=>exact absurd rfl hm|dct _=>exact absurd rfl hm|td _=>exact absurd rfl hm|tab _ _=>exact absurd rfl hm|ro ws=>
     obtain⟨vs,b,s⟩:=r;refine⟨vs,?_,s.mono l⟩;rcases b with ⟨ob,b⟩|b
     ·refine .inl ⟨ob,?_⟩
      rw[z7];exact b;intro z;subst z;rw[c]at b;exact N _ _ (az b)
     ·exact .inr b
def zB.lay {p:Addr}{u:HO}(S:zB K φ A H)(b:H p=none):zB K φ A (L2.upd H p u):=
 ⟨S.len,S.inj,λn o e=>by
  obtain⟨a,c,q⟩:=S.ob n o e;refine⟨a,c,q.keep (Le.new b) λz h=>?_⟩;rw[z7];exact h;intro E;subst E;rw[b]at h;cases h⟩
def zB.off {o:HO}(S:zB K φ A H)(b:H D=some (.lst xs))(n:∀k:Nat,φ[k]?≠some D):zB K φ A (L2.upd H D o):=
 ⟨S.len,S.inj,λk u e=>by
  obtain⟨a,E,q⟩:=S.ob k u e;have ne:a≠D:=λz=>n k (by rw[<- z];exact E)
  have l:yd K D φ H φ (L2.upd H D o):=yd.upd b;refine⟨a,E,?_⟩;cases u with
  |lst ws=>obtain⟨vs,q,r⟩:=q;exact⟨vs,by rw[z7 ne];exact q,r.monoD l⟩|dct s=>obtain⟨vs,q,k,r⟩:=q;exact⟨vs,by rw[z7 ne];exact q,k,r.monoD l⟩|td s=>obtain⟨vs,q,k,t,r⟩:=q;exact⟨vs,by rw[z7 ne];exact q,k,λx h=>l.tp _ _ (t x h),r.monoD l⟩|tab _ _=>obtain⟨k,vs,q,r⟩:=q;exact⟨k,vs,by rw[z7 ne];exact q,r.mono l.fz⟩|ro ws=>
   obtain⟨vs,q,r⟩:=q;refine⟨vs,?_,r.monoD l⟩;rcases q with ⟨ob,q⟩|q
   ·exact .inl ⟨ob,by rw[z7 ne];exact q⟩
   ·exact .inr q⟩
def zB.notin (S:zB K φ A H)(b:H D=none)(d:K.lookup D=none):∀k:Nat,φ[k]?≠some D:=λk e=>by
 have c:k<A.length:=by rw[<- S.len];exact(bY.mp e).1
 obtain⟨a,E,q⟩:=S.ob k A[k] (by simp[c])
 rw[e]at E;cases E;cases h:A[k] with
 |lst ws=>rw[h]at q;obtain⟨vs,z,_⟩:=q;rw[b]at z;cases z|dct ws=>rw[h]at q;obtain⟨vs,z,_⟩:=q;rw[b]at z;cases z|td _=>rw[h]at q;obtain⟨vs,z,_⟩:=q;rw[b]at z;cases z|tab _ _=>rw[h]at q;obtain⟨_,vs,z,_⟩:=q;rw[b]at z;cases z|ro ws=>
  rw[h]at q;obtain⟨vs,z,_⟩:=q;rcases z with ⟨ob,z⟩|⟨o,i,n,z,_⟩
  ·rw[b]at z;cases z
  ·rw[d]at z;cases z
def zB.Qk {u:HO}{o:O}(S:zB K φ A H)(I:H D=some u)(n:∀k:Nat,φ[k]?≠some D)(new:OR K (φ++[D]) H D o):zB K (φ++[D]) (A++[o]) H:=by
 have l:gJ K φ H (φ++[D]) H:=⟨λn a h=>by
  have:=(bY.mp h).1
  rw[ag this];exact h,λ_ _ h=>h,λ_ _ _ h=>h⟩
 have old:∀(i:Nat) a,(φ++[D])[i]? =some a->i<A.length->φ[i]? =some a:=λi a e b=>by
  rw[ag (by rw[S.len];exact b)]at e;exact e
 have last:∀a,(φ++[D])[A.length]? =some a->a=D:=λa e=>by
  rw[au (by rw[S.len];exact aw _),S.len]at e
  simpa using e.symm
 refine⟨by simp[S.len],λi j a B y w v s d m1 m2=>?_,λk o' e=>?_⟩
 ·by_cases b:i<A.length
  ·by_cases c:j<A.length
   ·rw[ag b]at s
    rw[ag c]at d;exact S.inj i j a B y (old i a w b) (old j a v c) s d m1 m2
   ·exfalso
    have g:j=A.length:=by have:=(bY.mp d).1;simp at this;omega
    subst g;exact n i (by rw[<- last a v];exact old i a w b)
  ·have p:i=A.length:=by have:=(bY.mp s).1;simp at this;omega
   by_cases c:j<A.length
   ·exfalso
    subst p;exact n j (by rw[<- last a w];exact old j a v c)
   ·have:=(bY.mp d).1;simp at this;omega
 ·by_cases hn:k<A.length
  ·rw[ag hn]at e
   obtain⟨a,E,q⟩:=S.ob k o' e;refine⟨a,l.ex _ _ E,?_⟩;cases o' with
   |lst ws=>obtain⟨vs,z,r⟩:=q;exact⟨vs,z,r.monoW l⟩|dct ws=>obtain⟨vs,z,Z,r⟩:=q;exact⟨vs,z,Z,r.monoW l⟩|td _=>obtain⟨vs,z,Z,t,r⟩:=q;exact⟨vs,z,Z,λx C=>l.tp _ _ (t x C),r.monoW l⟩|tab _ _=>exact q|ro ws=>obtain⟨vs,z,r⟩:=q;exact⟨vs,z,r.monoW l⟩
  ·have f:k=A.length:=by have:=(bY.mp e).1;simp at this;omega
   subst f;rw[au (aw _)]at e;simp at e;subst e;exact⟨D,by rw[au (by rw[S.len];exact aw _),S.len];simp,new⟩
def Le.Qk {b:bJ}{H0:Hp}(l:Le K b H0 φ H)(h0:H0 D=none):Le K b H0 (φ++[D]) H where
 ex:=λn a h=>by
  have h':=l.ex n a h
  have:=(bY.mp h').1
  rw[ag this];exact h'
 tp:=l.tp
 fr:=l.fr
 nw:=λn a e=>by
  by_cases hn:n < φ.length
  ·rw[ag hn]at e;exact l.nw n a e
  ·rw[au (by omega)]at e
   have E:a=D:=by
    have:=mem_of_getElem? e
    simpa using this
   subst E;exact .inr h0
 st:=l.st
 fz:=l.fz
end
noncomputable abbrev St:=L2.St
abbrev XR:=Str->Hp->Prop
def PB (K:Frag)(φ:bJ)(H:Hp)(Q:VK):W->Hx->Prop:=λw A=>∀a h v,Le K φ H a h->zB K a A h->RV K a h w v->Q v h
def E9 (K:Frag)(φ:bJ)(H:Hp)(Q:List V->Hp->Prop):List W->Hx->Prop:=λw A=>∀a h v,Le K φ H a h->zB K a A h->zx K a h w v->Q v h
noncomputable def EB (K:Frag)(φ:bJ)(H:Hp)(X:XR):Str->Hx->Prop:=λx A=>∀a h,Le K φ H a h->zB K a A h->X x h
structure RE (K:Frag)(φ:bJ)(H:Hp)(ρ:En)(σ:St):Prop where
 len:σ.length=ρ.length
 get:∀(i:Nat)(w:W),ρ[i]? =some (some w)->∃v,σ[i]? =some (some v)/\RV K φ H w v
section
variable {K:Frag}{φ1 φ':bJ}{H1 H':Hp}{A:Hx}{ρ:En}{xr:XR}
theorem RE.mono (r:RE K φ H ρ σ)(l:Le K φ H φ' H'):RE K φ' H' ρ σ:=⟨r.len,λi w e=>let ⟨v,h1,h⟩:=r.get i w e;⟨v,h1,h.mono l⟩⟩
def PB.mono {Q:VK}{w:W}(h:PB K φ H Q w A)(l:Le K φ H φ1 H1):PB K φ1 H1 Q w A:=λa b v L=>h a b v (l.trans L)
def EB.mono (h:EB K φ H xr x A)(l:Le K φ H φ1 H1):EB K φ1 H1 xr x A:=λa b L=>h a b (l.trans L)
theorem RE.set {w:W}(r:RE K φ H ρ σ)(q:RV K φ H w v):RE K φ H (ρ.set i (some w)) (σ.set i (some v)):=
 ⟨by simp[r.len],λj u e=>by
  by_cases h:i=j
  ·subst h
   have a:i < ρ.length:=by
    have:=(bY.mp e).1
    simpa using this
   rw[aE a]at e;cases e;exact⟨v,by rw[aE (by rw[r.len];exact a)],q⟩
  ·rw[aF h]at e
   obtain⟨x,c,b⟩:=r.get j u e;exact⟨x,by rw[aF h];exact c,b⟩⟩
end
inductive MM (K:Frag)(xr:XR)(m:Ev)(σ:St)(H:Hp)(Q:VK):Prop
 |mk (φ:bJ) (A:Hx) (ρ:En) (S:zB K φ A H) (re:RE K φ H ρ σ) (h:(m ρ A).post (PB K φ H Q) (EB K φ H xr))
noncomputable def tM (K:Frag)(x:XR)(m:Ev):TE:=λσ H Q=>MM K x m σ H Q
inductive MT (K:Frag)(xr:XR)(m:Ev)(σ:St)(H:Hp)(Q:Bool->Hp->Prop):Prop
 |mk (φ:bJ) (A:Hx) (ρ:En) (S:zB K φ A H) (re:RE K φ H ρ σ) (h:(m ρ A).post (λw A'=>∃b,w=.bl b/\∀φ' H',Le K φ H φ' H'->zB K φ' A' H'->Q b H') (EB K φ H xr))
noncomputable def tT (K:Frag)(x:XR)(m:Ev):TT:=λσ H Q=>MT K x m σ H Q
abbrev Ea:=En->Hx->R (List W)
inductive MA (K:Frag)(xr:XR)(m:Ea)(σ:St)(H:Hp)(Q:List V->Hp->Prop):Prop
 |mk (φ:bJ) (A:Hx) (ρ:En) (S:zB K φ A H) (re:RE K φ H ρ σ) (h:(m ρ A).post (E9 K φ H Q) (EB K φ H xr))
noncomputable def Y8 (K:Frag)(x:XR)(m:Ea):TA:=λσ H Q=>MA K x m σ H Q
def SE (X:Cx)(x:XR)(e:Expr)(m:Ev):Prop:=PE X e (tM X.K x m)
def ST (X:Cx)(x:XR)(e:Expr)(m:Ev):Prop:=PT X e (tT X.K x m)
def SW (X:Cx)(x:XR)(e:Expr)(m:Ev):Prop:=PW X e (tT X.K x m)
def SA (X:Cx)(x:XR)(e:bO)(m:Ea):Prop:=PA X e (Y8 X.K x m)
section
variable {xr:XR}{a b:Expr}{es:bO}{m ma mb mc:Ev}
def PE.imp {t t':TE}(h:PE X e t)(i:∀σ H Q,t' σ H Q->t σ H Q):PE X e t':=λpins s σ H Q I hw=>h pins s σ H Q I (i σ H Q hw)
def PT.imp {t t':TT}(h:PT X e t)(i:∀σ H Q,t' σ H Q->t σ H Q):PT X e t':=λpins s σ H Q I hw=>h pins s σ H Q I (i σ H Q hw)
def PW.imp {t t':TT}(h:PW X e t)(i:∀σ H Q,t' σ H Q->t σ H Q):PW X e t':=λw pins s σ H Q I hw=>h w pins s σ H Q I (i σ H Q hw)
def PA.imp {t t':TA}(h:PA X es t)(i:∀σ H Q,t' σ H Q->t σ H Q):PA X es t':=λp pins s σ H Q I hw=>h p pins s σ H Q I (i σ H Q hw)
def tM.go {K:Frag}{A:Hx}{ρ:En}{Q:VK}{G:W->Hx->Prop}(S:zB K φ A H)(r:RE K φ H ρ σ)(h:(m ρ A).post G (EB K φ H xr))
  (k:∀w A1 a H1 v,G w A1->Le K φ H a H1->zB K a A1 H1->RV K a H1 w v->Q v H1):tM K xr m σ H Q:=
 ⟨φ,A,ρ,S,r,qj h (λw A1 g a H1 v l s q=>k w A1 a H1 v g l s q) λ_ _ z=>z⟩
def Y8.go {K:Frag}{A:Hx}{ρ:En}{m:Ea}{Q:List V->Hp->Prop}{G:List W->Hx->Prop}(S:zB K φ A H)(r:RE K φ H ρ σ)(h:(m ρ A).post G (EB K φ H xr))
  (k:∀w A1 a H1 v,G w A1->Le K φ H a H1->zB K a A1 H1->zx K a H1 w v->Q v H1):Y8 K xr m σ H Q:=
 ⟨φ,A,ρ,S,r,qj h (λw A1 g a H1 v l s q=>k w A1 a H1 v g l s q) λ_ _ z=>z⟩
def tT.go {K:Frag}{A:Hx}{ρ:En}{Q:Bool->Hp->Prop}{G:W->Hx->Prop}(S:zB K φ A H)(r:RE K φ H ρ σ)(h:(m ρ A).post G (EB K φ H xr))
  (k:∀w A1,G w A1->∃b,w=.bl b/\∀a H1,Le K φ H a H1->zB K a A1 H1->Q b H1):tT K xr m σ H Q:=
 ⟨φ,A,ρ,S,r,qj h (λw A1 g=>k w A1 g) λ_ _ z=>z⟩
noncomputable def qh (i:Nat):Ev:=λρ A=>match ρ[i]? with
 |some (some w)=>.ok w A|_=>.bad
noncomputable def zH (w:W):Ev:=λ_ A=>.ok w A
noncomputable def zh (g:W->W->Hx->R W)(a b:Ev):Ev:=λρ A=>(a ρ A).bind λx A1=>(b ρ A1).bind λy A2=>g x y A2
noncomputable def jf (g:W->Hx->R W)(a:Ev):Ev:=λρ A=>(a ρ A).bind λx A1=>g x A1
noncomputable abbrev wx:Str->Hx->Prop:=λ_ _=>False
def jR (K:Frag)(r:R2)(g:W->W->Hx->R W):Prop:=∀φ A H x y u v Q,zB K φ A H->RV K φ H u x->RV K φ H v y->(g u v A).post (PB K φ H Q) wx->r x y H Q
def Y3 (K:Frag)(r:V->Hp->VK->Prop)(g:W->Hx->R W):Prop:=∀φ A H x u Q,zB K φ A H->RV K φ H u x->(g u A).post (PB K φ H Q) wx->r x H Q
def qo (r:R α):Prop:=∀x A,r≠.exc x A
def Zr {r:R α}{P:α->Hx->Prop}{E:Str->Hx->Prop}(n:qo r)(h:r.post P E):r.post P wx:=by
 cases r with
 |ok a A=>exact h|exc x A=>exact absurd rfl (n x A)|bad=>exact h
def zh.read {g:W->W->Hx->R W}{r:R2}(hn:∀x y A,qo (g x y A))(e:jR X.K r g):∀σ H Q,tM X.K xr (zh g ma mb) σ H Q->Ju r (tM X.K xr ma) (tM X.K xr mb) σ H Q:=by
 rintro σ H Q ⟨φ,A,ρ,S,re,h⟩
 refine tM.go S re (zY.mp h) λw A1 b H1 v i l j d=>?_;refine tM.go j (re.mono l) (qj (zY.mp i) (λ_ _ z=>z) λ_ _ z=>z.mono l) λc A2 a k v2 f L s q=>?_;exact e a A2 k v v2 w c Q s (d.mono L) q (qj (Zr (hn _ _ _) f) (λ_ _ z=>z.mono (l.trans L)) λ_ _ z=>z)
def jf.read {g:W->Hx->R W}{r:V->Hp->VK->Prop}(hn:∀x A,qo (g x A))(b:Y3 X.K r g):∀σ H Q,tM X.K xr (jf g ma) σ H Q->Tz r (tM X.K xr ma) σ H Q:=by
 rintro σ H Q ⟨φ,A,ρ,S,re,h⟩
 refine tM.go S re (zY.mp h) λw A1 a H1 v c l s q=>?_;exact b a A1 H1 v w Q s q (qj (Zr (hn _ _) c) (λ_ _ z=>z.mono l) λ_ _ z=>z)
def Zx {op:Operator}{r:R2}{g:W->W->Hx->R W}(h:qy X (binaryOp op) r)(hn:∀x y A,qo (g x y A))(H:jR X.K r g)(d:SE X xr a ma)(c:SE X xr b mb):SE X xr (.BinOp a op b pos) (zh g ma mb):=
 PE.imp (FP h d c) (zh.read hn H)
def FZ {op:UnaryOp}{r:V->Hp->VK->Prop}{g:W->Hx->R W}(h:YW X (unaryOp op) r)(hn:∀x A,qo (g x A))(H:Y3 X.K r g)(b:SE X xr a ma):SE X xr (.UnaryOp op a pos) (jf g ma):=
 PE.imp (F2 h b) (jf.read hn H)
def Uk {r:R2}{g:W->W->Hx->R W}(h:qy X (compareOp op) r)(hn:∀x y A,qo (g x y A))(H:jR X.K r g)(d:SE X xr a ma)(c:SE X xr b mb)(hm:behindInMarks op b=false):SE X xr (.Compare a [op] [b] pos) (zh g ma mb):=
 PE.imp (M4 h d c hm) (zh.read hn H)
def tT.toM {K:Frag}{Q:Bool->Hp->Prop}(h:tT K xr m σ H Q):tM K xr m σ H λx d=>∃k,x=.bl k/\Q k d:=by
 obtain⟨φ,A,ρ,S,re,h⟩:=h;refine tM.go S re h λw A1 a H1 v ⟨b,e,q⟩ l s c=>?_;subst e;exact⟨b,c,q a H1 l s⟩
def Us {r:R2}{g:W->W->Hx->R W}(o:qy X (compareOp op) r)(hn:∀x y A,qo (g x y A))(c:jR X.K r g)(e:SE X xr a ma)(d:SE X xr b mb)(hm:behindInMarks op b=false):ST X xr (.Compare a [op] [b] pos) (zh g ma mb):=
 PT.imp (Mr o e d hm) λσ H Q h=>zh.read hn c σ H _ h.toM
noncomputable def yM (g g':W->W->Hx->R W)(a b c:Ev):Ev:=λρ A=>(a ρ A).bind λx A1=>(b ρ A1).bind λy A2=>(g x y A2).bind λz d=>match z with
 |.bl true=>(c ρ d).bind λw e=>g' y w e|.bl false=>.ok (.bl false) d|_=>.bad
def yM.read {g g':W->W->Hx->R W}{r i:R2}(hn:∀x y A,qo (g x y A))(T:jR X.K r g)(n:∀x y A,qo (g' x y A))(o:jR X.K i g'):
  ∀σ H Q,tM X.K xr (yM g g' ma mb mc) σ H Q->WJ r i (tM X.K xr ma) (tM X.K xr mb) (tM X.K xr mc) σ H Q:=by
 rintro σ H Q ⟨φ,A,ρ,S,re,h⟩
 refine tM.go S re (zY.mp h) λw A1 E H1 v Z L S1 P=>?_;refine tM.go S1 (re.mono L) (qj (zY.mp Z) (λ_ _ z=>z) λ_ _ z=>z.mono L) λf A2 b D v2 Y B S2 s=>?_;have j:=L.trans B;have p:=zY.mp Y;have a:(g w f A2).post (PB X.K b D λz c=>∃k,z=.bl k/\if k=true then tM X.K xr mc σ c λJ q=>i v2 J q Q else Q (.bl false) c) wx:=by
  refine qj (Zr (hn _ _ _) p) (λz A3 a e c zv u C N=>?_) λ_ _ z=>z;have l:=j.trans u;cases z with
  |bl k=>
   refine⟨k,N,?_⟩;cases k with
   |true=>
    rw[ah rfl];refine tM.go C (re.mono l) (qj (zY.mp a) (λ_ _ z=>z) λ_ _ z=>z.mono l) λI A4 d q v4 U t S4 M=>?_;exact o d A4 q v2 v4 f I Q S4 ((s.mono u).mono t) M (qj (Zr (n _ _ _) U) (λ_ _ z=>z.mono (l.trans t)) λ_ _ z=>z)
   |false=>
    rw[ar ay];exact a e c _ l C rfl
  |non=>cases a|int _=>cases a|str _=>cases a|tup _=>cases a|ref _=>cases a|clo _ _ _=>cases a|xc _=>cases a
 exact T b A2 D v v2 w f _ S2 (P.mono B) s a
def N3 {c:Expr}{o:CmpOp}{r e:R2}{g g':W->W->Hx->R W}(f:qy X (compareOp op) r)(hn:∀x y A,qo (g x y A))(i:jR X.K r g)(h:qy X (compareOp o) e)(H:∀x y A,qo (g' x y A))(d:jR X.K e g')
  (l:SE X xr a ma)(k:SE X xr b mb)(j:SE X xr c mc)(hm:lastMarks [op,o] [b,c]=false:=by with_unfolding_all rfl):SE X xr (.Compare a [op,o] [b,c] pos) (yM g g' ma mb mc):=
 PE.imp (NA f h l k j hm) (yM.read hn i H d)
def N9 {c:Expr}{o:CmpOp}{r i:R2}{g g':W->W->Hx->R W}(j:qy X (compareOp op) r)(hn:∀x y A,qo (g x y A))(k:jR X.K r g)(d:qy X (compareOp o) i)(e:∀x y A,qo (g' x y A))(f:jR X.K i g')
  (p:SE X xr a ma)(n:SE X xr b mb)(l:SE X xr c mc)(hm:lastMarks [op,o] [b,c]=false:=by with_unfolding_all rfl):ST X xr (.Compare a [op,o] [b,c] pos) (yM g g' ma mb mc):=
 PT.imp (O2 j d p n l hm) λσ H Q h=>yM.read hn k e f σ H _ h.toM
noncomputable def y0 (a b:Ev):Ev:=λρ A=>(a ρ A).bind λx A1=>match x with
 |.bl true=>b ρ A1|.bl false=>.ok (.bl false) A1|_=>.bad
noncomputable def kS (a b:Ev):Ev:=λρ A=>(a ρ A).bind λx A1=>match x with
 |.bl true=>.ok (.bl true) A1|.bl false=>b ρ A1|_=>.bad
noncomputable def yu (a:Ev):Ev:=λρ A=>(a ρ A).bind λx A1=>match x with
 |.bl k=>.ok (.bl (!k)) A1|_=>.bad
noncomputable def Jt (c a b:Ev):Ev:=λρ A=>(c ρ A).bind λx A1=>match x with
 |.bl true=>a ρ A1|.bl false=>b ρ A1|_=>.bad
theorem tT.mono {K:Frag}{c:bJ}{H1:Hp}{A1:Hx}{ρ:En}{Q:Bool->Hp->Prop}(S:zB K c A1 H1)(L:Le K φ H c H1)(re:RE K φ H ρ σ)
  (h:(m ρ A1).post (λw A=>∃b,w=.bl b/\∀a d,Le K φ H a d->zB K a A d->Q b d) (EB K φ H xr)):tT K xr m σ H1 Q:=
 ⟨c,A1,ρ,S,re.mono L,qj h (λw A ⟨b,e,q⟩=>⟨b,e,λa d l s=>q a d (L.trans l) s⟩) λ_ _ z=>z.mono L⟩
noncomputable def zl:Ea:=λ_ A=>.ok [] A
noncomputable def zc (a:Ev)(r:Ea):Ea:=λρ A=>(a ρ A).bind λx A1=>(r ρ A1).bind λxs A2=>.ok (x::xs) A2
noncomputable def zA (a:Ea):Ev:=λρ A=>(a ρ A).bind λxs A1=>.ok (.tup xs) A1
noncomputable def qc (a:Ea):Ev:=λρ A=>(a ρ A).bind λxs A1=>.ok (.ref A1.length) (A1++[.lst xs])
def Q2 {K:Frag}{A:Hx}{p:Addr}{ws:List W}(S:zB K φ A H)(h:H p=none)(r:zx K φ H ws vs):
  Le K φ H φ (upd H p (.tup vs))/\zB K φ A (upd H p (.tup vs))/\RV K φ (upd H p (.tup vs)) (.tup ws) (.ref p):=
 ⟨Le.new h,S.lay h,p,vs,rfl,ql.of ju,r.mono (Le.new h)⟩
def gU {K:Frag}{A:Hx}{p:Addr}{ws:List W}(S:zB K φ A H)(h:H p=none)(r:zx K φ H ws vs):
  Le K φ H (φ++[p]) (upd H p (.lst vs))/\zB K (φ++[p]) (A++[.lst ws]) (upd H p (.lst vs))/\RV K (φ++[p]) (upd H p (.lst vs)) (.ref A.length) (.ref p):=by
 have l:Le K φ H (φ++[p]) (upd H p (.lst vs)):=Le.alloc h;obtain⟨b,a⟩:=S.alloc (o:=.lst ws) h ⟨vs,ju,r.mono l⟩;exact⟨b,a,p,rfl,by rw[<- S.len];simp⟩
def HW {M:Ea}(h:SA X xr es M)(d:∀ρ A ws a,M ρ A=.ok ws a->ws.length<=sizeLine):SE X xr (.List es pos) (qc M):=
 PE.imp (HG h) λσ H Q ⟨φ,A,ρ,S,re,h⟩=>by
  have h':=zY.mp h;cases e:M ρ A with
  |ok ws a=>
   rw[e]at h';refine⟨φ,A,ρ,S,re,?_⟩;rw[e];intro b H1 vs l s q;refine⟨by rw[<- q.length];exact d ρ A ws a e,λp c=>?_⟩
   obtain⟨a1,a2,f⟩:=gU s c q;exact h' _ _ _ (l.trans a1) a2 f
  |exc x a=>rw[e]at h';refine⟨φ,A,ρ,S,re,?_⟩;rw[e];exact h'|bad=>rw[e]at h';exact h'.elim
end
inductive Fl where
 |nx (ρ:En)|rt (w:W)|bk (ρ:En)|ct (ρ:En)
abbrev Ex:=En->Hx->R Fl
def FB (K:Frag)(φ:bJ)(H:Hp)(D:Ends):Fl->Hx->Prop
 |.nx ρ,A=>∀a h b,Le K φ H a h->zB K a A h->RE K a h ρ b->D.nx b h|.rt w,A=>∀a h v,Le K φ H a h->zB K a A h->RV K a h w v->D.rt v h|.bk ρ,A=>∀a h b,Le K φ H a h->zB K a A h->RE K a h ρ b->D.bk b h|.ct ρ,A=>∀a h b,Le K φ H a h->zB K a A h->RE K a h ρ b->D.ct b h
def FB.mono {K:Frag}{c:bJ}{H1:Hp}{D:Ends}{f:Fl}{A:Hx}(h:FB K φ H D f A)(l:Le K φ H c H1):FB K c H1 D f A:=by
 cases f with
 |nx ρ=>exactλa b v L=>h a b v (l.trans L)|rt ρ=>exactλa b v L=>h a b v (l.trans L)|bk ρ=>exactλa b v L=>h a b v (l.trans L)|ct ρ=>exactλa b v L=>h a b v (l.trans L)
inductive MS (K:Frag)(xr:XR)(m:Ex)(D:Ends)(σ:St)(H:Hp):Prop
 |mk (φ:bJ) (A:Hx) (ρ:En) (S:zB K φ A H) (re:RE K φ H ρ σ) (h:(m ρ A).post (FB K φ H D) (EB K φ H xr))
noncomputable def tS (K:Frag)(x:XR)(m:Ex):TS:=λD σ H=>MS K x m D σ H
def SS (X:Cx)(x:XR)(st:Stmt)(m:Ex):Prop:=PS X st (tS X.K x m)
def Y7 (X:Cx)(x:XR)(st:bU)(m:Ex):Prop:=jZ X st (tS X.K x m)
section
variable {xr:XR}{a b c:Expr}{st:Stmt}{rest:bU}{m:Ev}{m1 m2:Ex}
def PS.imp {t t':TS}(h:PS X st t)(i:∀D σ H,t' D σ H->t D σ H):PS X st t':=λpins s σ H D I hw=>h pins s σ H D I (i D σ H hw)
def jZ.imp {t t':TS}(h:jZ X rest t)(i:∀D σ H,t' D σ H->t D σ H):jZ X rest t':=λpins s σ H D I hw=>h pins s σ H D I (i D σ H hw)
noncomputable def zE:Ex:=λρ A=>.ok (.nx ρ) A
noncomputable def zq (m1 m2:Ex):Ex:=λρ A=>(m1 ρ A).bind λl A1=>match l with
 |.nx ρ1=>m2 ρ1 A1|f=>.ok f A1
noncomputable def gi (m:Ev):Ex:=λρ A=>(m ρ A).bind λ_ A1=>.ok (.nx ρ) A1
noncomputable def qD (m:Ev):Ex:=λρ A=>(m ρ A).bind λw A1=>.ok (.rt w) A1
noncomputable def qO (c:Ev)(a b:Ex):Ex:=λρ A=>(c ρ A).bind λx A1=>match x with
 |.bl true=>a ρ A1|.bl false=>b ρ A1|_=>.bad
noncomputable def zZ (i:Nat)(m:Ev):Ex:=λρ A=>(m ρ A).bind λw A1=>.ok (.nx (ρ.set i (some w))) A1
def zZ.read:∀D σ H,tS X.K xr (zZ i m) D σ H->YO (tM X.K xr m) (Yp i) D σ H:=by
 rintro D σ H ⟨φ,A,ρ,S,re,h⟩
 exact tM.go S re (zY.mp h) λw A1 a H1 v b l s q=>b a H1 _ l s ((re.mono l).set q)
noncomputable def yX (g:W->W->W->Hx->R Unit)(me mo mi:Ev):Ex:=λρ A=>(me ρ A).bind λv A1=>(mo ρ A1).bind λo A2=>(mi ρ A2).bind λi b=>(g o i v b).bind λ_ a=>.ok (.nx ρ) a
def UY (K:Frag)(t:Jo)(g:W->W->W->Hx->R Unit):Prop:=∀φ A H o i v w b wv Q,zB K φ A H->RV K φ H w o->RV K φ H b i->RV K φ H wv v->
 (g w b wv A).post (λ_ c=>∀a h,Le K φ H a h->zB K a c h->Q h) wx->t o i v H Q
def O0 {o i:Expr}{mo mi:Ev}{t:Jo}{g:W->W->W->Hx->R Unit}(M:W8 X t)(hn:∀o i v A,qo (g o i v A))(U:UY X.K t g)(he:SE X xr e m)(P:SE X xr o mo)(T:SE X xr i mi)
  (N:swapsWithSole [.Subscript o i tpos] e pos.line X.env=pure false:=by rfl)(hw:swappedStores [.Subscript o i tpos] e X.env=pure none:=by rfl)
  (j:(assignEach [.Subscript o i tpos] X.env).map (·.2)=[assign (.Subscript o i tpos) X.env]:=by rfl)
  (Y:∀v,assign (.Subscript o i tpos) X.env v=(do
   let ov <- holding [v] (eval o X.env)
   let iv <- holding [v,ov] (eval i X.env)
   standAt tpos
   holding [v,ov,iv] (setItem ov iv v)
   release [v,ov,iv] []):=by intro _;rfl):SS X xr (.Assign [.Subscript o i tpos] e pos) (yX g m mo mi):=
 PS.imp (Ud he (Hs P T M Y) N hw j) λD σ H ⟨φ,A,ρ,S,re,h⟩=>by
  refine tM.go S re (zY.mp h) λn A1 C H1 v1 j f S1 J=>?_;refine tM.go S1 (re.mono f) (qj (zY.mp j) (λ_ _ z=>z) λ_ _ z=>z.mono f) λk A2 B H2 v2 Z q S2 I=>?_;have l:=f.trans q;refine tM.go S2 (re.mono l) (qj (zY.mp Z) (λ_ _ z=>z) λ_ _ z=>z.mono l) λw y c H3 E a d S3 Q=>?_;have L:=l.trans d;refine U c y H3 v2 E v1 k w n _ S3 (I.mono d) Q (J.mono (q.trans d)) ?_;cases r:g k w n y with
  |ok u s=>
   rw[r]at a;exactλb H4 p S4=>a b H4 σ (L.trans p) S4 (re.mono (L.trans p))
  |exc x s=>exact absurd r (hn _ _ _ _ x s)|bad=>rw[r]at a;exact a.elim
structure jk where
 at_:Hx->Nat->Option (Option W)
 len:Nat
def Zj (K:Frag)(φ:bJ)(H:Hp)(j:jk)(J:It):Prop:=∀i a h A,gJ K φ H a h->zB K a A h->
 (∀w,j.at_ A i=some (some w)->J.go i h/\∀x H1,J.yld i h x H1->Le K a h a H1/\zB K a A H1/\RV K a H1 w x)/\(j.at_ A i=some none->J.stop i h)
abbrev Ei:=En->Hx->R jk
inductive MI (K:Frag)(xr:XR)(mi:Ei)(σ:St)(H:Hp)(Rr:It->Hp->Prop):Prop
 |mk (φ:bJ) (A:Hx) (ρ:En) (S:zB K φ A H) (re:RE K φ H ρ σ) (h:(mi ρ A).post (λj A1=>∀φ1 H1 J,Le K φ H φ1 H1->zB K φ1 A1 H1->Zj K φ1 H1 j J->Rr J H1) (EB K φ H xr))
noncomputable def tI (K:Frag)(x:XR)(mi:Ei):TI:=λσ H r=>MI K x mi σ H r
def SI (X:Cx)(x:XR)(t iter:Expr)(mi:Ei):Prop:=PI X t iter (tI X.K x mi)
def PI.imp {t t':TI}(h:PI X tg e t)(i:∀σ H Q,t' σ H Q->t σ H Q):PI X tg e t':=λpins s σ H Q I hw=>h pins s σ H Q I (i σ H Q hw)
abbrev Tg:=W->En->Option En
inductive MG (K:Frag)(tw:Tg)(v:V)(σ:St)(H:Hp)(Q:St->Hp->Prop):Prop
 |mk (φ:bJ) (A:Hx) (ρ:En) (w:W) (ρ':En) (S:zB K φ A H) (re:RE K φ H ρ σ) (rv:RV K φ H w v) (t:tw w ρ=some ρ') (q:∀σ',RE K φ H ρ' σ'->Q σ' H)
noncomputable def tG (K:Frag)(tw:Tg):TG:=λv σ H Q=>MG K tw v σ H Q
def SG (X:Cx)(t:Expr)(tw:Tg):Prop:=PG X t (tG X.K tw)
def PG.imp {t t':TG}(h:PG X tg t)(i:∀v σ H Q,t' v σ H Q->t v σ H Q):PG X tg t':=λpins s σ H v u Q I r hw=>h pins s σ H v u Q I r (i v σ H Q hw)
noncomputable def zI (i:Nat):Tg:=λw ρ=>some (ρ.set i (some w))
noncomputable def kL (i j:Nat):Tg:=λw ρ=>match w with
 |.tup [x,y]=>some ((ρ.set i (some x)).set j (some y))|_=>none
noncomputable def yj (j:jk)(st:W->Ex):Nat->Nat->Ex
 |0,i,ρ,A=>match j.at_ A i with
  |some none=>.ok (.nx ρ) A|_=>.bad
 |f+1,i,ρ,A=>match j.at_ A i with
  |some none=>.ok (.nx ρ) A|some (some w)=>(st w ρ A).bind λl A1=>match l with
   |.nx ρ1=>yj j st f (i+1) ρ1 A1|.ct ρ1=>yj j st f (i+1) ρ1 A1|.bk ρ1=>.ok (.nx ρ1) A1|.rt w=>.ok (.rt w) A1
  |none=>.bad
noncomputable def turn (tw:Tg)(body:Ex)(w:W):Ex:=λρ A=>match tw w ρ with
 |some ρ1=>body ρ1 A|none=>.bad
def wq (mi:Ei)(tw:Tg)(body:Ex):Ex:=λρ A=>(mi ρ A).bind λj A1=>yj j (turn tw body) j.len 0 ρ A1
inductive Tv (K:Frag)(xr:XR)(j:jk)(t:W->Ex)(D:Ends)(φ1:bJ)(H1:Hp)(f i:Nat)(σ':St)(H':Hp):Prop
 |mk (φ2:bJ) (A2:Hx) (ρ2:En) (l:Le K φ1 H1 φ2 H') (S:zB K φ2 A2 H') (re:RE K φ2 H' ρ2 σ') (h:(yj j t f i ρ2 A2).post (FB K φ2 H' D) (EB K φ2 H' xr))
noncomputable def gA (c:Ev)(body:Ex):Nat->Ex
 |0,ρ,A=>.bad|f+1,ρ,A=>(c ρ A).bind λx A1=>match x with
  |.bl true=>(body ρ A1).bind λl A2=>match l with
   |.nx ρ1=>gA c body f ρ1 A2|.ct ρ1=>gA c body f ρ1 A2|.bk ρ1=>.ok (.nx ρ1) A2|.rt w=>.ok (.rt w) A2
  |.bl false=>.ok (.nx ρ) A1|_=>.bad
def WE (f:Nat)(c:Ev)(body:Ex):Ex:=gA c body f
noncomputable def ZD (nl:Nat)(cap:bL)(ρ:En):En:=List.replicate nl none++cap.map λi=>(ρ[i]?).join
theorem RE.w9 {K:Frag}{ρ:En}{nl:Nat}(r:RE K φ H ρ σ):RE K φ H (ZD nl cap ρ) (L2.w9 nl cap σ):=by
 refine⟨by simp[ZD,L2.w9],λi w e=>?_⟩
 unfold ZD at e;unfold L2.w9
 by_cases a:i<nl
 ·rw[ag (by simpa using a),bj]at e
  split at e<;>cases e
 ·rw[au (by simpa using a),bt,av]at e
  rw[au (by simpa using a),bt,av]
  cases c:cap[i-nl]? with
  |none=>rw[c]at e;cases e|some k=>
   rw[c]at e;have E:(ρ[k]?).join=some w:=az e;cases h:ρ[k]? with
   |none=>rw[h]at E;cases E|some o=>cases o with
    |none=>rw[h]at E;cases E|some f=>
     rw[h]at E;cases E;obtain⟨v,d,b⟩:=r.get k w h;exact⟨v,by simp[d],b⟩
abbrev Em:=En->List W->Hx->R (En×List W)
noncomputable def z8:Nat:=100000
def zM (elt:Ev):Em:=λρ acc A=>(elt ρ A).bind λy A1=>if acc.length<z8 then .ok (ρ,acc++[y]) A1 else .bad
noncomputable def jc (j:jk)(tw:Tg)(ifs:Ev)(em:Em):Nat->Nat->Em
 |0,i,ρ,acc,A=>match j.at_ A i with
  |some none=>.ok (ρ,acc) A|_=>.bad
 |f+1,i,ρ,acc,A=>match j.at_ A i with
  |some none=>.ok (ρ,acc) A|some (some w)=>match tw w ρ with
   |some ρ1=>(ifs ρ1 A).bind λc A1=>match c with
    |.bl true=>(em ρ1 acc A1).bind λp A2=>jc j tw ifs em f (i+1) p.1 p.2 A2|.bl false=>jc j tw ifs em f (i+1) ρ1 acc A1|_=>.bad
   |none=>.bad
  |none=>.bad
def Ql (mi:Ei)(tw:Tg)(ifs:Ev)(em:Em):Em:=λρ acc A=>(mi ρ A).bind λj A1=>jc j tw ifs em j.len 0 ρ acc A1
abbrev jF:=En->Hx->R (List W)
def zQ (nl:Nat)(cap:bL)(mi:Ei)(tw:Tg)(ifs:Ev)(em:Em):jF:=λρ A=>(mi ρ A).bind λj A1=>(jc j tw ifs em j.len 0 (ZD nl cap ρ) [] A1).nox.bind λp A2=>.ok p.2 A2
def Gq (K:Frag)(D:Addr)(φ:bJ)(H:Hp)(Q:St->Hp->Prop)(p:En×List W)(A1:Hx):Prop:=∀a H1 b zs,yd K D φ H a H1->(∀k:Nat,a[k]?≠some D)->zB K a A1 H1->RE K a H1 p.1 b->H1 D=some (.lst zs)->zx K a H1 p.2 zs->Q b H1
inductive ME (K:Frag)(em:Em)(D:Addr)(σ:St)(H:Hp)(Q:St->Hp->Prop):Prop
 |mk (φ:bJ) (A:Hx) (ρ:En) (acc:List W) (ys:List V) (S:zB K φ A H) (re:RE K φ H ρ σ) (hD:H D=some (.lst ys)) (nD:∀k:Nat,φ[k]?≠some D) (rv:zx K φ H acc ys)
  (h:(em ρ acc A).post (Gq K D φ H Q) wx)
noncomputable def tE (K:Frag)(em:Em):kA:=λD σ H Q=>ME K em D σ H Q
noncomputable abbrev yb:XR:=λ_ _=>False
def SM (X:Cx)(elt:Expr)(gens:List Comprehension)(sc:Scope)(c:Pos)(d:Nat)(em:Em):Prop:=y7 X elt gens sc c d (tE X.K em)
def y7.imp {d:Nat}{t t':kA}(h:y7 X elt gens sc pos d t)(i:∀D σ H Q,t' D σ H Q->t D σ H Q):y7 X elt gens sc pos d t':=
 λpins s σ H D Q k Q' E I hw a=>h pins s σ H D Q k Q' E I (i D σ H Q hw) a
def Wh {K:Frag}{r:R α}{P:α->Hx->Prop}(h:r.post P wx):r.post P (EB K φ H yb):=qj h (λ_ _ z=>z) λ_ _ z=>z.elim
def YT (X:Cx)(ifs:bO)(m:Ev):Prop:=gC X ifs (tT X.K yb m)
inductive TB (tw:Tg)(ifs:Ev)(em:Em)(j:jk)(K:Frag)(D:Addr)(φ:bJ)(H:Hp)(Q:St->Hp->Prop)(f i:Nat)(σ':St)(H':Hp):Prop
 |mk (φ2:bJ) (A2:Hx) (ρ2:En) (acc2:List W) (ys2:List V) (l:yd K D φ H φ2 H') (S:zB K φ2 A2 H') (re:RE K φ2 H' ρ2 σ') (hD:H' D=some (.lst ys2)) (nD:∀k:Nat,φ2[k]?≠some D) (ra:zx K φ2 H' acc2 ys2) (h:(jc j tw ifs em f i ρ2 acc2 A2).post (Gq K D φ H Q) wx)
def jc.read {tw:Tg}{ifs:Ev}{em:Em}{j:jk}{J:It}{K:Frag}{A:Hx}{ρ:En}{acc:List W}{Q:St->Hp->Prop}{f:Nat}
  (jr:Zj K φ H j J)
  (S:zB K φ A H)(re:RE K φ H ρ σ)(hD:H D=some (.lst ys))(nD:∀k:Nat,φ[k]?≠some D)(ra:zx K φ H acc ys)
  (h:(jc j tw ifs em f 0 ρ acc A).post (Gq K D φ H Q) wx):
  Ja J (tG K tw) (tT K yb ifs) (tE K em) D σ H Q:=by
 refine⟨λi f b P=>TB tw ifs em j K D φ H Q f i b P,
  ⟨f,φ,A,ρ,acc,ys,.refl,S,re,hD,nD,ra,h⟩,?_⟩
 rintro i f U H2 ⟨g,A2,s,e,Y,B,S2,t,M,u,n,a⟩
 obtain⟨j1,j2⟩:=jr i g H2 A2 ⟨B.ex,B.tp,B.fz⟩ S2;cases E:j.at_ A2 i with
 |none=>cases f<;>(unfold jc at a;rw[E]at a;exact a.elim)|some o=>
  cases o with
  |none=>
   left
   refine⟨j2 E,?_⟩;cases f<;>(unfold jc at a;rw[E]at a;exact a g H2 U Y B u S2 t M n)
  |some w=>
   right
   obtain⟨go,yl⟩:=j1 w E;cases f with
   |zero=>unfold jc at a;rw[E]at a;exact a.elim|succ f=>
    unfold jc at a;rw[E]at a;refine⟨go,λb P=>TB tw ifs em j K D φ H Q f (i+1) b P,λb P z=>⟨f,bc _,z⟩,λx H3 y=>?_⟩;obtain⟨v,S3,q3⟩:=yl x H3 y;obtain⟨hD3,Z⟩:=v.off M u;dsimp only at a;cases et:tw w s with
    |none=>rw[et]at a;exact a.elim|some l=>
     rw[et]at a;refine⟨g,A2,s,w,l,S3,t.mono v,q3,et,λσ3 r=>?_⟩;refine tT.go S3 r (Wh (zY.mp a)) λc A4 d=>?_;cases c with
     |bl k=>
      refine⟨k,rfl,λq H4 L S4=>?_⟩;obtain⟨I,N⟩:=L.off hD3 Z;have C:=(B.trans (v.trans L).toD);cases k with
      |true=>
       rw[ah rfl];refine⟨q,A4,l,e,Y,S4,r.mono L,I,N,n.mono (v.trans L),qj (zY.mp d) (λp A5 h5 T H5 σ5 zs l5 n5 S5 X d5 r5=>?_) λ_ _ z=>z⟩;exact⟨T,A5,p.1,p.2,zs,C.trans l5,S5,X,d5,n5,r5,h5⟩
      |false=>
       rw[ar ay];exact⟨q,A4,l,e,Y,C,S4,r.mono L,I,N,n.mono (v.trans L),d⟩
     |non=>cases d|int _=>cases d|str _=>cases d|tup _=>cases d|ref _=>cases d|clo _ _ _=>cases d|xc _=>cases d
def Zj.mono {K:Frag}{b:bJ}{H1:Hp}{j:jk}{J:It}(h:Zj K φ H j J)(l:gJ K φ H b H1):Zj K b H1 j J:=
 λi c d A L=>h i c d A ⟨λn a e=>L.ex n a (l.ex n a e),λa vs e=>L.tp a vs (l.tp a vs e),λa o u e=>L.fz a o u (l.fz a o u e)⟩
inductive MF (K:Frag)(xr:XR)(mq:jF)(σ:St)(H:Hp)(Q:VK):Prop
 |mk (φ:bJ) (A:Hx) (ρ:En) (S:zB K φ A H) (re:RE K φ H ρ σ) (h:(mq ρ A).post (λws A1=>∀φ1 H1 D ys,Le K φ H φ1 H1->zB K φ1 A1 H1->H D=none->H1 D=some (.lst ys)->(∀k:Nat,φ1[k]?≠some D)->zx K φ1 H1 ws ys->Q (.ref D) H1) (EB K φ H xr))
noncomputable def tF (K:Frag)(x:XR)(M:jF):TE:=λσ H Q=>MF K x M σ H Q
def SF (X:Cx)(x:XR)(e:Expr)(M:jF):Prop:=PE X e (tF X.K x M)
theorem zQ.read {mi:Ei}{tw:Tg}{M:Ev}{em:Em}{nl:Nat}:∀σ H Q,tF X.K xr (zQ nl cap mi tw M em) σ H Q->Yj X.K (tI X.K xr mi) (tG X.K tw) (tT X.K yb M) (tE X.K em) nl cap σ H Q:=by
 rintro σ H Q ⟨φ,A,ρ,S,re,h⟩
 refine⟨φ,A,ρ,S,re,qj (zY.mp h) (λj A1 t b H1 J l s o D c q=>?_) λ_ _ z=>z⟩;have ln:Le X.K b H1 b (upd H1 D (.lst [])):=Le.new c;have a:=zY.mp t;refine jc.read (o.mono ⟨ln.ex,ln.tp,ln.fz⟩) (s.lay c) ((re.mono (l.trans ln)).w9) ju (s.notin c q) .nil ?_ (f:=j.len) (acc:=[]);cases e:jc j tw M em j.len 0 (ZD nl cap ρ) [] A1 with
 |ok p A2=>
  rw[e]at a;intro d w g zs k n v r u i;have L:=l.trans (Le.ofD c k);exact a d w D zs L v (l.st D c) u n i
 |exc x A2=>rw[e]at a;exact a.elim|bad=>rw[e]at a;exact a.elim
noncomputable def qg (q:jF):Ev:=λρ A=>(q ρ A).bind λws A1=>.ok (.ref A1.length) (A1++[.lst ws])
def qg.read {q:jF}{K:Frag}:∀σ H Q,tM K xr (qg q) σ H Q->tF K xr q σ H Q:=by
 rintro σ H Q ⟨φ,A,ρ,S,re,h⟩
 refine⟨φ,A,ρ,S,re,qj (zY.mp h) (λws A1 d b H1 D ys l s h0 c N r=>?_) λ_ _ z=>z⟩;have ll:Le K φ H (b++[D]) H1:=l.Qk h0;have lw:gJ K b H1 (b++[D]) H1:=⟨λn a h=>by
  have:=(bY.mp h).1
  rw[ag this];exact h,λ_ _ h=>h,λ_ _ _ h=>h⟩
 refine d _ _ _ ll (s.Qk (o:=.lst ws) c N ⟨ys,c,r.monoW lw⟩) ⟨D,rfl,?_⟩;rw[<- s.len];simp
inductive MQ (K:Frag)(xr:XR)(mq:jF)(σ:St)(H:Hp)(Q:VK):Prop
 |mk (φ:bJ) (A:Hx) (ρ:En) (S:zB K φ A H) (re:RE K φ H ρ σ) (h:(mq ρ A).post (λws A1=>∀φ1 H1 a ys,Le K φ H φ1 H1->zB K φ1 A1 H1->(qH K H1 a ys∨ql K H1 a ys)->zx K φ1 H1 ws ys->Q (.ref a) H1) (EB K φ H xr))
noncomputable def tQ (K:Frag)(x:XR)(M:jF):TE:=λσ H Q=>MQ K x M σ H Q
def SQ (X:Cx)(x:XR)(e:Expr)(M:jF):Prop:=PE X e (tQ X.K x M)
noncomputable def zV (w:W)(A:Hx):Option (List W):=match w with
 |.tup ws=>some ws|.ref n=>match A[n]? with
  |some (.lst ws)=>some ws|some (.ro ws)=>some ws|_=>none
 |_=>none
def JO {K:Frag}{A:Hx}{w:W}{ws:List W}(S:zB K φ A H)(q:RV K φ H w v)(e:zV w A=some ws):∃a ys,v=.ref a/\(qH K H a ys∨ql K H a ys)/\zx K φ H ws ys:=by
 unfold zV at e;cases w with
 |tup xs=>cases e;obtain⟨a,ys,b,d,E⟩:=q;exact⟨a,ys,b,.inr d,E⟩|ref n=>
  obtain⟨a,b,d⟩:=q;dsimp only at e;cases ea:A[n]? with
  |none=>rw[ea]at e;cases e|some o=>
   rw[ea]at e;obtain⟨f,E,r⟩:=S.ob n o ea;rw[d]at E;cases E;cases o with
   |lst xs=>cases e;obtain⟨ys,c,h⟩:=r;exact⟨a,ys,b,.inl (qH.of c),h⟩|ro xs=>cases e;obtain⟨ys,c,h⟩:=r;exact⟨a,ys,b,.inl c.sq,h⟩|dct xs=>cases e|td _=>cases e|tab _ _=>cases e
 |non=>cases e|bl _=>cases e|clo _ _ _=>cases e|xc _=>cases e|int _=>cases e|str _=>cases e
def qp (m:Ev):jF:=λρ A=>(m ρ A).bind λw A1=>match zV w A1 with
 |some ws=>.ok ws A1|none=>.bad
def Yz (w:W)(A:Hx):Option jk:=match zV w A with
 |some ws=>some ⟨λA i=>(zV w A).map λws=>ws[i]?,ws.length⟩|none=>none
def qt (m:Ev):Ei:=λρ A=>(m ρ A).bind λw A1=>match Yz w A1 with
 |some j=>.ok j A1|none=>.bad
def EX (K:Frag)(t:TE):TI:=λσ H r=>t σ H λx H1=>∃a,x=.ref a/\(((∃xs,qH K H1 a xs)/\r (TC K a) H1)∨((∃xs,ql K H1 a xs)/\r (TR K a) H1))
def Hw {l:Expr}{t:TE}(j:PE X l t):PI X tg l (EX X.K t):=by
 intro pins s σ H n I h;refine zP (j pins s σ H _ I h) λv s1 ⟨x,H1,i,g,Q⟩=>?_;obtain⟨a,e,q⟩:=Q;subst e;cases g;have f:∀b∈[s1.heap.objs.size],yR X pins H1 b:=λb k=>by
  have e:b=s1.heap.objs.size:=by simpa using k
  subst e;exact i.fpOk (aw _) (i.hok.fresh (aw _))
 rcases q with ⟨⟨xs,d⟩,q⟩|⟨⟨xs,d⟩,q⟩
 ·obtain⟨c,r,p,z⟩:=i.list d
  refine wpAny_pyIter_list p.isList ?_;exact⟨s1.heap.objs.size,[s1.heap.objs.size],_,_,H1,rfl,i.kept (t':=s1.toks) λb o e=>af _ e,Ox a _,⟨_,ao _ rfl,rfl,rfl⟩,f,q⟩
 ·obtain⟨c,r,p,z⟩:=i.tuple d
  refine wpAny_pyIter_tuple (show s1.heap.IsTuple a c.toArray from p) ?_
  exact⟨s1.heap.objs.size,[s1.heap.objs.size],_,_,H1,rfl,i.kept (t':=s1.toks) λb o e=>af _ e,Pl a _,⟨_,ao _ rfl,rfl,rfl⟩,f,q⟩
noncomputable def yZ (lo:Int)(n:Nat):jk:=⟨λ_ i=>if i<n then some (some (.int (lo+i))) else some none,n⟩
def IU {K:Frag}{lo:Int}:Zj K φ H (yZ lo n) (YV lo n):=λi a c A lw S=>by
 unfold yZ;dsimp only
 by_cases h:i<n
 ·rw[ah h]
  refine⟨λw e=>?_,λe=>by cases e⟩
  cases e;exact⟨h,λx H1 ⟨b,E⟩=>by subst b;exact⟨.refl,S,E⟩⟩
 ·rw[ar h]
  exact⟨λw e=>(by cases e),λ_=>Nat.le_of_not_lt h⟩
noncomputable def jy (i:Int):Bool:=decide (-(2 ^ 62)<=i)&&decide (i<2 ^ 62)
def Z1 {i:Int}(h:jy i=true):-(2 ^ 62)<=i/\i<2 ^ 62:=by
 unfold jy at h;rw[aq,ak,ak]at h;exact h
def jE (m:Ev):Ei:=λρ A=>(m ρ A).bind λw A1=>match w with
 |.int j=>if jy j then .ok (yZ 0 j.toNat) A1 else .bad|_=>.bad
end
abbrev Fn:=List W->Hx->R W
def yk (K:Frag)(x:Str)(C:Value):Prop:=nsIn K mainGlobals x=some (some C)
def XE (K:Frag)(E:XK)(x:Str)(H:Hp):Prop:=∀C d,yk K x C->E C d H
inductive Jr (K:Frag)(n:Nat)(f:Fn)(vs:List V)(H:Hp)(Q:VK)(E:XK):Prop
 |mk (len:vs.length=n) (φ:bJ) (A:Hx) (ws:List W) (S:zB K φ A H) (r:zx K φ H ws vs) (q:(f ws A).post (PB K φ H Q) (EB K φ H (XE K E)))
def Jr.len {K:Frag}{f:Fn}{Q:VK}{E:XK}(h:Jr K n f vs H Q E):vs.length=n:=by cases h;assumption
inductive zS (P:Program)(w:World)(K:Frag)(mg:bP)(base:Heap)(k:Nat)(x:Str)(n:Nat)(f:Fn):Prop
 |mk (fa:Addr) (fd:FuncData) (ps:bM) (F:j7 P w K mg base kZ k fa fd ps (Jr K n f)) (at_:mg x=some (.ref fa)) (kp:keepIn K (.ref fa)=true) (bi:Binds K fd ps [])
noncomputable def zK (f:Fn)(a:Ea):Ev:=λρ A=>(a ρ A).bind λws A1=>f ws A1
section
variable {m ma:Ev}
def w8 (m:Ea)(n:Nat):Prop:=∀ρ A ws a,m ρ A=.ok ws a->ws.length=n
def zC:w8 zl 0:=λ_ _ _ _ h=>by unfold zl at h;cases h;rfl
def zm {M:Ea}(h:w8 M n):w8 (zc ma M) (n+1):=λρ A ws a e=>by
 unfold zc at e;cases h1:ma ρ A with
 |ok x A1=>
  rw[h1,zF]at e;cases H:M ρ A1 with
  |ok xs A2=>rw[H,zF]at e;cases e;simp[h ρ A1 xs _ H]|exc x A2=>rw[H]at e;cases e|bad=>rw[H]at e;cases e
 |exc x A1=>rw[h1]at e;cases e|bad=>rw[h1]at e;cases e
end
noncomputable def q9 (n:Nat)(m:Ex):Fn:=λws A=>(m (ws.map some++List.replicate (n-ws.length) none) A).nox.bind λf A1=>match f with
 |.rt w=>.ok w A1|.nx _=>.ok .non A1|_=>.bad
theorem RE.start {K:Frag}{ws:List W}(h:zx K φ H ws vs):RE K φ H (ws.map some++List.replicate (N.length-ws.length) none) (L2.start N vs):=by
 unfold L2.start;refine⟨by simp[h.length],λi w e=>?_⟩
 by_cases a:i<ws.length
 ·rw[ag (by simpa using a),av]at e
  cases hw:ws[i]? with
  |none=>rw[hw]at e;cases e|some d=>
   rw[hw]at e;cases e;obtain⟨v,c,b⟩:=h.get hw;refine⟨v,?_,b⟩;rw[ag (by rw[aj,<- h.length];exact a),av,c];rfl
 ·rw[au (by simpa using a),bj]at e
  split at e<;>cases e
section
variable {K:Frag}
theorem zS.mono {f:Fn}(F:zS P w K mg base j x n f)(h:j<=k):zS P w K mg base k x n f:=by cases F with|mk d fd ps F a b c=>exact⟨d,fd,ps,F.mono h,a,b,c⟩
theorem zS.imp {f g:Fn}(F:zS P w K mg base k x n f)(h:∀ws A,ws.length=n->g ws A=.bad∨f ws A=g ws A):zS P w K mg base k x n g:=by
 obtain⟨d,fd,ps,F,a,b,c⟩:=F;refine⟨d,fd,ps,F.imp λvs H Q E ⟨l,φ,A,ws,S,r,q⟩=>⟨l,φ,A,ws,S,r,?_⟩,a,b,c⟩;rcases h ws A (by rw[r.length];exact l) with e|e
 ·rw[e]at q;exact q.elim
 ·rw[e];exact q
end
section
variable {K:Frag}
def jw {a:α}{A:Hx}:qo (R.ok a A):=λ_ _ h=>by cases h
def qk:qo (R.bad:R α):=λ_ _ h=>by cases h
def ko {c:Prop} [Decidable c] {a b:R α}(H:qo a)(h:qo b):qo (if c then a else b):=by split<;>assumption
noncomputable def wG (f:Int->Int->W):W->W->Hx->R W
 |.int i,.int j,A=>.ok (f i j) A|_,_,_=>.bad
def Zf {f:Int->Int->W}:∀x y A,qo (wG f x y A):=λx y A=>by
 unfold wG;split
 ·exact jw
 ·exact qk
noncomputable def gH (c:Int->Int->Bool)(f:Int->Int->W):W->W->Hx->R W
 |.int i,.int j,A=>if c i j then .ok (f i j) A else .bad|_,_,_=>.bad
def WN {c:Int->Int->Bool}{f:Int->Int->W}:∀x y A,qo (gH c f x y A):=λx y A=>by
 unfold gH;split
 ·exact ko jw qk
 ·exact qk
def gY {f:Int->Int->W}{g:Int->Int->V}(h:∀i j φ H,RV K φ H (f i j) (g i j)):jR K (wF g) (wG f):=λφ A H x y u v Q S a q p=>by
 cases u with
 |int i=>cases v with
  |int j=>obtain rfl:=a;obtain rfl:=q;exact⟨i,j,rfl,rfl,p φ H _ .refl S (h i j φ H)⟩|_=>exact p.elim
 |_=>exact p.elim
def WB {c:Int->Int->Bool}{C:Int->Int->Prop}{f:Int->Int->W}{g:Int->Int->V}(d:∀i j,c i j=true->C i j)(h:∀i j φ H,RV K φ H (f i j) (g i j)):jR K (rI C g) (gH c f):=λφ A H x y u v Q S b q p=>by
 cases u with
 |int i=>cases v with
  |int j=>
   obtain rfl:=b;obtain rfl:=q;unfold gH at p;dsimp only at p
   by_cases a:c i j=true
   ·rw[ah a]at p;exact⟨i,j,rfl,rfl,d i j a,p φ H _ .refl S (h i j φ H)⟩
   ·rw[ar a]at p;exact p.elim
  |_=>exact p.elim
 |_=>exact p.elim
noncomputable def Jf (i j:Int):Bool:=(decide (-(2 ^ 64)<i)&&decide (i<2 ^ 64)) || (decide (-(2 ^ 64)<j)&&decide (j<2 ^ 64))
noncomputable def YC (_ j:Int):Bool:=decide (0<j)
def M9 (i j:Int)(h:Jf i j=true):Ji i j:=by
 unfold Jf at h;simp only[bC,aq,decide_eq_true_eq]at h;exact h
def MO (i j:Int)(h:YC i j=true):(λ_ j=>0<j) i j:=by
 unfold YC at h;simpa using h
def yt:=wG λi j=>.int (i-j)
def yP:=gH YC λi j=>.int (i%j)
def Ge:=wG λi j=>.int (Builtin.bitXor i j)
def Js:=wG λi j=>.bl (decide (i<j))
def gF:=wG λi j=>.bl (decide (i<=j))
def GA:=wG λi j=>.bl (decide (j<i))
def Gu:=wG λi j=>.bl (decide (j<=i))
noncomputable def Gf (i j:Int):Bool:=decide (0<=j)&&decide (j<=1000000)&&decide (i.natAbs<2 ^ 64)
def ML (i j:Int)(h:Gf i j=true):Ta i j:=by
 unfold Gf at h;simp only[aq,decide_eq_true_eq]at h;exact⟨h.1.1,h.1.2,h.2⟩
def Yw:=gH Gf λi j=>.int (i ^ j.toNat)
variable {a b c:Expr}
noncomputable def ZI:W->Hx->R W
 |.int i,A=>.ok (.int (-i)) A|_,_=>.bad
structure kq (X:Cx)(op:CmpOp)(g:W->W->Hx->R W):Prop where
 ex:∃r:R2,qy X (compareOp op) r/\(∀x y A,qo (g x y A))/\jR X.K r g
 mks:∀b,op≠.In->op≠.NotIn->behindInMarks op b=false
def Qf {r:R2}{g:W->W->Hx->R W}(a:qy X (compareOp op) r)(H:∀x y A,qo (g x y A))(h:jR X.K r g):kq X op g:=⟨⟨r,a,H,h⟩,λb a1 a2=>Nf b a1 a2⟩
def Tq:kq X .Lt Js:=Qf Ft Zf (gY λ_ _ _ _=>rfl)
def W3:kq X .LtE gF:=Qf Fw Zf (gY λ_ _ _ _=>rfl)
def Ey:kq X .Gt GA:=Qf Fv Zf (gY λ_ _ _ _=>rfl)
def EE:kq X .GtE Gu:=Qf Fu Zf (gY λ_ _ _ _=>rfl)
end
inductive Ty where
 |non|bl|int|str|tup|lst|dct
 deriving DecidableEq
noncomputable def Ty.nm:Ty->String
 |.non => "NoneType" | .bl => "bool" | .int => "int" | .str => "str" | .tup => "tuple" | .lst => "list" | .dct => "dict"
noncomputable def ye (w:W)(A:Hx):Option Ty:=match w with
 |.non=>some .non|.bl _=>some .bl|.int _=>some .int|.str _=>some .str|.tup _=>some .tup|.ref n=>match A[n]? with
  |some (.lst _)=>some .lst|some (.dct _)=>some .dct|_=>none
 |_=>none
noncomputable def yz (a b:Ty):Bool:=a==b || (a==.bl&&b==.int)
def Ya {K:Frag}(a b:Ty):kitOne K (.type a.nm) (.type b.nm)=some (yz a b):=by
 cases a<;>cases b<;>rfl
section
variable {xr:XR}{K:Frag}{a c:Expr}{es:bO}{m:Ev}
def ZO (K:Frag)(H:Hp)(x:V)(t:Ty):Prop:=kx K H x (.type t.nm)∨∃a xs,x=.ref a/\ql K H a xs/\t=.tup
def VB {A:Hx}{w:W}{t:Ty}(S:zB K φ A H)(q:RV K φ H w v)(e:ye w A=some t):ZO K H v t:=by
 cases w with
 |non=>cases e;obtain rfl:=q;exact .inl .non|bl k=>cases e;obtain rfl:=q;exact .inl (.bl k)|clo _ _ _=>cases e|xc _=>cases e|int k=>cases e;obtain rfl:=q;exact .inl (.int k)|str k=>cases e;obtain rfl:=q;exact .inl (.str k)|tup ws=>cases e;obtain⟨a,vs,rfl,h,_⟩:=q;exact .inr ⟨a,vs,rfl,h,rfl⟩|ref n=>
  obtain⟨a,rfl,c⟩:=q;unfold ye at e;dsimp only at e;cases E:A[n]? with
  |none=>rw[E]at e;cases e|some o=>
   rw[E]at e;obtain⟨d,b,r⟩:=S.ob n o E;rw[c]at b;cases b;cases o with
   |lst ws=>cases e;obtain⟨vs,z,_⟩:=r;exact .inl (.lst z)|dct ws=>cases e;obtain⟨vs,z,_⟩:=r;exact .inl (.dK z)|td _=>cases e|tab _ _=>cases e|ro ws=>cases e
def ZO.kit {x:V}{t:Ty}(I:Inv X pins σ H s)(r:RelV x u)(h:ZO X.K H x t):
  (∀{Q:bN}{E:bN}{A:Around}{c:Ty},(∀tk,Q (.bool (yz t c)) { s with toks:=tk })->wpAny (model X.prog X.w) A (call (.builtin "isinstance") [u,.type c.nm]) Q E s):=by
 intro Q E A c q;rcases h with h|⟨a,xs,rfl,h,rfl⟩
 ·exact XZ I r h (Ya t c) q
 ·cases (show u=Value.ref a from r)
  obtain⟨i,_,⟨o,d,b,_⟩,_⟩:=I.tuple h;exact br kitx_tuple I.kIn ⟨o,d,b⟩ (Ya .tup c) (λz=>nomatch z) q
def Dh (K:Frag):List V->Hp->VK->Prop:=λxs H Q=>∃x t c,xs=[x,.ty (Ty.nm c)]/\ZO K H x t/\Q (.bl (yz t c)) H
def Mq:jD X (.builtin "isinstance") (Dh X.K):=by
 intro pins s σ H xs us Q I r h;obtain⟨x,t,c,rfl,d,q⟩:=h;obtain⟨u,U,rfl,b,a⟩:=vals2 r;cases (show U=Value.type c.nm from a)
 exact d.kit I b λtk=>⟨.bl (yz t c),H,I.tok tk,rfl,q⟩
def yv (t:Ty)(m:Ev):Ev:=λρ A=>(m ρ A).bind λw A1=>match ye w A1 with
 |some t'=>.ok (.bl (yz t' t)) A1|none=>.bad
def zG:W->W->Hx->R W:=λx y A=>match zV x A,y with
 |some ws,.int i=>match y8 ws i with
  |some w=>.ok w A|none=>.bad
 |_,_=>.bad
def FV:∀x y A,qo (zG x y A):=λx y A=>by
 unfold zG;split
 ·split
  ·exact jw
  ·exact qk
 ·exact qk
def Nh {ws:List W}{i:Int}{w:W}(r:zx K φ H ws ys)(e:y8 ws i=some w):∃y,y8 ys i=some y/\RV K φ H w y:=by
 unfold y8 at e ⊢;rw[<- r.length];cases h:kX ws.length i with
 |none=>rw[h]at e;cases e|some j=>
  rw[h]at e;obtain⟨y,b,a⟩:=r.get (i:=j) e;exact⟨y,b,a⟩
def Hj:jR K (TU K) zG:=λφ A H x y u v Q S c q p=>by
 unfold zG at p;cases es:zV u A with
 |none=>rw[es]at p;exact p.elim|some ws=>
  rw[es]at p;cases v with
  |int i=>
   obtain rfl:=q;dsimp only at p;cases e:y8 ws i with
   |none=>rw[e]at p;exact p.elim|some w=>
    rw[e]at p;obtain⟨a,ys,rfl,z,r⟩:=JO S c es;obtain⟨Y,b,h⟩:=Nh r e;rcases z with z|z
    ·exact .inl ⟨a,ys,i,Y,rfl,rfl,z,b,p φ H _ .refl S h⟩
    ·exact .inr (.inl ⟨a,ys,i,Y,rfl,rfl,z,b,p φ H _ .refl S h⟩)
  |non=>exact p.elim|bl _=>exact p.elim|str _=>exact p.elim|tup _=>exact p.elim|ref _=>exact p.elim|clo _ _ _=>exact p.elim|xc _=>exact p.elim
def ZP (K:Frag)(r:List V->Hp->VK->Prop)(g:List W->Hx->R W):Prop:=∀φ A H a ys ws Q,zB K φ A H->(qH K H a ys∨ql K H a ys)->zx K φ H ws ys->(g ws A).post (PB K φ H Q) wx->r [.ref a] H Q
noncomputable def mQ (g:List W->Hx->R W)(q:jF):Ev:=λρ A=>(q ρ A).bind λws A1=>g ws A1
def mQ.read {g:List W->Hx->R W}{q:jF}(hn:∀ws A,qo (g ws A))(c:ZP X.K r g):∀σ H Q,tM X.K xr (mQ g q) σ H Q->Y0 r (Yn (tQ X.K xr q) W4) σ H Q:=by
 rintro σ H Q ⟨φ,A,ρ,S,re,h⟩
 refine⟨φ,A,ρ,S,re,qj (zY.mp h) (λws A1 d b H1 a ys l s z r=>?_) λ_ _ z=>z⟩;exact c b A1 H1 a ys ws Q s z r (qj (Zr (hn _ _) d) (λ_ _ z=>z.mono l) λ_ _ z=>z)
def WU {id:String}{g:List W->Hx->R W}{q:jF}(d:jD X (.builtin id) r)(hn:∀ws A,qo (g ws A))(a:ZP X.K r g)(hm:X.mg x=none)(v:bootBuiltins x=some (.builtin id))(f:SQ X xr e q)(c:Gl X x:=by rfl)
  (H:x ≠ "__name__":=by decide)(b:(x==("__debug__":Str))=false:=by decide)(he:starEach [e] X.env=(false,eval e X.env)::starEach [] X.env:=by rfl)(h:(backTo pos (starEach [] X.env)).any (·.1)=false:=by rfl):
  SE X xr (.Call (.Name x p) [e] [] pos) (mQ g q):=PE.imp (gO d c hm v (qZ f jH he) H b he h) (mQ.read hn a)
def FJ {id:String}{g:List W->Hx->R W}{q:jF}(d:jD X (.type id) r)(hn:∀ws A,qo (g ws A))(a:ZP X.K r g)(hm:X.mg x=none)(v:bootBuiltins x=some (.type id))(f:SQ X xr e q)(c:Gl X x:=by rfl)
  (H:x ≠ "__name__":=by decide)(b:(x==("__debug__":Str))=false:=by decide)(he:starEach [e] X.env=(false,eval e X.env)::starEach [] X.env:=by rfl)(h:(backTo pos (starEach [] X.env)).any (·.1)=false:=by rfl):
  SE X xr (.Call (.Name x p) [e] [] pos) (mQ g q):=PE.imp (Z4 d c hm v (qZ f jH he) H b he h) (mQ.read hn a)
noncomputable def qR:List W->Hx->R W:=λws A=>.ok (.int ws.length) A
def Ln:ZP K (λxs H Q=>∃p ys,xs=[.ref p]/\(qH K H p ys∨ql K H p ys)/\Q (.int ys.length) H) qR:=λφ A H a ys ws Q S z r p=>
 ⟨a,ys,rfl,z,by rw[<- r.length];exact p φ H _ .refl S rfl⟩
noncomputable def yS:List W->Hx->R W:=λws A=>.ok (.tup ws) A
def LQ:ZP K (λxs H Q=>∃p ys,xs=[.ref p]/\((qH K H p ys/\∀l,H l=none->Q (.ref l) (upd H l (.tup ys)))∨(ql K H p ys/\Q (.ref p) H))) yS:=λφ A H a ys ws Q S z r p=>by
 refine⟨a,ys,rfl,?_⟩;rcases z with z|z
 ·refine .inl ⟨z,λl h=>?_⟩
  obtain⟨a1,a2,b⟩:=Q2 S h r;exact p _ _ _ a1 a2 b
 ·exact .inr ⟨z,p φ H _ .refl S ⟨a,ys,rfl,z,r⟩⟩
variable {b:Expr}
def Vw {a:Addr}(I:Inv X pins σ H s)(l:X.calm=true)(z:qH X.K H a ys∨ql X.K H a ys)
  (h:∀(c:bI)(j:Addr)(fp wr:bJ)(S:Nat->Heap->Prop)(s2:Shared),Vals ys c->ys.length<=sizeLine->Walks X.prog X.w X.A.in1 j fp wr c.length (λi v=>c[i]? =some v) S->S 0 s2.heap->(∀b∈fp,b<s2.heap.objs.size)->
   (∀(h':Heap)(tk:Nat),(∀b o,b∉wr->s2.heap.get? b=some o->h'.get? b=some o)->Inv X pins σ H { s2 with heap:=h',toks:=tk })->Q (.ref j) s2):
  wpAny (model X.prog X.w) X.A.in1 (pyIter (.ref a)) Q E s:=by
 have g:X.A.in1.handled=none:=I.ok.hd l;have keep:∀(o:Obj)(h':Heap)(tk:Nat),(∀b u,b∉[s.heap.objs.size]->(s.heap.push o).get? b=some u->h'.get? b=some u)->Inv X pins σ H { s with heap:=h',toks:=tk }:=λo h' tk k=>I.kept λb u e=>k b u (by
  intro hm;have q:b=s.heap.objs.size:=by simpa using hm
  exact absurd (q ▸ aB e) (aT _)) (af _ e)
 rcases z with z|z
 ·obtain⟨c,r,p,f⟩:=I.list z
  have t:a<s.heap.objs.size:=by obtain⟨o,n,e,_⟩:=p;exact aB e
  refine wpAny_pyIter_list p.isList ?_;have W:=Walks.list (prog:=X.prog) (w:=X.w) g s.heap.objs.size a (aI t) c.toArray;rw[aD]at W;simp only[List.getElem?_toArray]at W;refine h c s.heap.objs.size _ _ _ _ r f W ⟨⟨_,ao _ rfl,rfl,rfl⟩,p.isList.at λo e=>af _ e⟩ (λb d=>?_) λh' tk k=>keep _ h' tk k;show b<(s.heap.push _).objs.size;rw[a5];rcases bX.mp d with e|d
  ·rw[e];exact bc _
  ·have e:b=a:=by simpa using d
   rw[e];exact aY t
 ·obtain⟨c,r,p,f⟩:=I.tuple z
  have t:a<s.heap.objs.size:=p.lt;have P:s.heap.IsTuple a c.toArray:=p;refine wpAny_pyIter_tuple P ?_;have W:=Walks.tuple (prog:=X.prog) (w:=X.w) g s.heap.objs.size a (aI t) c.toArray;rw[aD]at W;simp only[List.getElem?_toArray]at W;refine h c s.heap.objs.size _ _ _ _ r f W ⟨⟨_,ao _ rfl,rfl,rfl⟩,P.at λo e=>af _ e⟩ (λb d=>?_) λh' tk k=>keep _ h' tk k;show b<(s.heap.push _).objs.size;rw[a5];rcases bX.mp d with e|d
  ·rw[e];exact bc _
  ·have e:b=a:=by simpa using d
   rw[e];exact aY t
noncomputable def Jh:V->Option Bool
 |.bl b=>some b|.int i=>some (i != 0)|.non=>some false|_=>none
noncomputable def Jq:W->Option Bool
 |.bl b=>some b|.int i=>some (i != 0)|.non=>some false|_=>none
def NI {w:W}{k:Bool}(q:RV K φ H w v)(e:Jq w=some k):Jh v=some k:=by
 cases w<;>first
  |(cases e;done)
  |(obtain rfl:=q;exact e)
def Of {A:Around}{k:Bool}{Q:Bool->Shared->Prop}(r:RelV v u)(e:Jh v=some k)(h:Q k s):wpAny (model X.prog X.w) A (truthy u) Q E s:=by
 cases v with
 |bl b=>cases e;cases r;exact wpAny_truthy_bool h|int i=>
  cases e;obtain⟨t,rfl⟩:=r;exact PySem.P.truthy_int h
 |non=>cases e;cases r;exactλ_ _ _=>h|_=>cases e
def wg:List W->Option (List Bool)
 |[]=>some []|w::ws=>match Jq w,wg ws with
  |some k,some K=>some (k::K)|_,_=>none
theorem Xq:∀{ws:List W}{ys:List V}{s:List Bool},zx K φ H ws ys->wg ws=some s->∀(i:Nat)(y:V),ys[i]? =some y->∃k,s[i]? =some k/\Jh y=some k
 |[],_,_,r,e,i,y,h=>by cases r;simp at h|w::ws,_,s,⟨v,r,g,q,t⟩,e,i,y,h=>by
  subst g;unfold wg at e;cases E:Jq w with
  |none=>rw[E]at e;cases e|some k=>
   cases a:wg ws with
   |none=>rw[E,a]at e;cases e|some b=>
    rw[E,a]at e;cases e;cases i with
    |zero=>simp at h;subst h;exact⟨k,by simp,NI q E⟩|succ i=>simp at h;obtain⟨c,f,d⟩:=Xq t a i y h;exact⟨c,by simpa using f,d⟩
theorem Xy:∀{ws:List W}{K:List Bool},wg ws=some K->K.length=ws.length
 |[],_,e=>by cases e;rfl|w::ws,K,e=>by
  unfold wg at e;cases a:Jq w with
  |none=>rw[a]at e;cases e|some k=>
   cases E:wg ws with
   |none=>rw[a,E]at e;cases e|some b=>rw[a,E]at e;cases e;simp[Xy E]
def range_all (k:List Bool):(List.range k.length).all (λi=>k.getD i false)=k.all id:=by
 rw[Bool.eq_iff_iff,all_eq_true,all_eq_true]
 constructor
 ·intro h x b
  obtain⟨i,a,rfl⟩:=bE b
  have:=h i (b8.mpr a)
  rw[ae,aa a]at this;exact this
 ·intro h i a
  have H:=b8.mp a;rw[ae,aa H];exact h _ (aO H)
def Tn (K:Frag)(f:List Bool->Bool):List V->Hp->VK->Prop:=λxs H Q=>∃a ys s,xs=[.ref a]/\(qH K H a ys∨ql K H a ys)/\s.length=ys.length/\(∀(i:Nat)(y:V),ys[i]? =some y->∃k,s[i]? =some k/\Jh y=some k)/\Q (.bl (f s)) H
def Nt {K:List Bool}{A:Around}(r:Vals ys its)(l:K.length=ys.length)(t:∀(i:Nat)(y:V),ys[i]? =some y->∃k,K[i]? =some k/\Jh y=some k):TruthOf X.prog X.w A (λi v=>its[i]? =some v) λi=>K.getD i false:=by
 intro i v s Q E P H;have b:i<its.length:=(bY.mp P).1;have h:i<ys.length:=by rw[r.length];exact b
 obtain⟨u,a,e⟩:=r.get (i:=i) (x:=ys[i]) (by simp[h])
 rw[P]at a;cases a;obtain⟨k,d,c⟩:=t i ys[i] (by simp[h])
 dsimp only at H;rw[ae,d]at H;exact Of e c H
def Ma (f:X.calm=true):jD X (.builtin "all") (Tn X.K λb=>b.all id):=by
 intro pins s σ H xs us Q I r h;obtain⟨a,ys,b,rfl,z,l,t,q⟩:=h;obtain⟨u,rfl,d⟩:=vals1 r;cases d;refine call_all_walk (Vw I f z λc g fp wr S s2 v j W st p back=>?_);refine⟨g,fp,wr,_,_,S,λi=>b.getD i false,rfl,W,st,Nt v l t,λh' tk k=>?_⟩;have e:c.length=b.length:=by rw[l,v.length]
 rw[e,range_all];exact⟨.bl _,H,back h' tk k,rfl,q⟩
def ZM (f:List Bool->Bool):List W->Hx->R W:=λws A=>match wg ws with
 |some k=>.ok (.bl (f k)) A|none=>.bad
def Ha {f:List Bool->Bool}:∀ws A,qo (ZM f ws A):=λws A=>by
 unfold ZM;split
 ·exact jw
 ·exact qk
def LI {f:List Bool->Bool}:ZP K (Tn K f) (ZM f):=λφ A H a ys ws Q S z r p=>by
 unfold ZM at p;cases e:wg ws with
 |none=>rw[e]at p;exact p.elim|some k=>
  rw[e]at p;exact⟨a,ys,k,rfl,z,by rw[Xy e,r.length],Xq r e,p φ H _ .refl S rfl⟩
abbrev ZJ:=ZM λk=>k.all id
end
noncomputable def Te (outer sc:Scope):Bool:=sc.kind==.function&&decide ((sc.names.map (·.1)).Nodup)&&sc.names.all λy=>y.2 != .free || (outer.names.lookup y.1==some .cell || outer.names.lookup y.1==some .free)
def cps (h:Te X.env.scope sc=true):wL X sc:=by
 unfold Te at h;rw[aq,aq,ak,aJ,all_eq_true]at h;refine⟨h.1.1,h.1.2,λy H e=>?_⟩
 have:=h.2 y H
 rw[e]at this;simp only[bne_self_eq_false,Bool.false_or,bC,aJ]at this;exact this
section
variable {xr:XR}{K:Frag}{a b:Expr}{ma mb:Ev}
theorem zB.lst {φ:bJ}{A:Hx}{H:Hp}{n:Nat}{ws:List W}{v:V}(S:zB K φ A H)(q:RV K φ H (.ref n) v)(e:A[n]? =some (.lst ws)):∃p vs,v=.ref p/\φ[n]? =some p/\H p=some (.lst vs)/\zx K φ H ws vs:=by
 obtain⟨p,rfl,a⟩:=q;obtain⟨P,h,vs,c,b⟩:=S.ob n _ e;rw[a]at h;cases h;exact⟨p,vs,rfl,a,c,b⟩
def Ny {prog:Program}{A:Around}{t b:Addr}{ws:bI}(a:IsTup s.heap t ([]:bI).toArray)(e:IsTup s.heap b ws.toArray)(h0:Q (.ref b) s):
  wpAny (model prog w) A (binaryOp .Add (.ref t) (.ref b)) Q E s:=by
 obtain⟨⟨cls,dd,data,l⟩,o,c,n,hd⟩:=id a;obtain⟨⟨C,d,data2,S⟩,h,H,N,hd2⟩:=id e;simp only at c hd H hd2;subst c hd H hd2;exact concat_meets ⟨_,o,rfl⟩ ⟨_,h,rfl⟩ noFill_tuple_add seq_tuple_add slot_tuple_add entry_tuple_add (args_tuple_add_2 _ _)
   (tuple_addW0 t b ([]:bI).toArray ws.toArray n N dd d l S (by simp)) ⟨o,h,h0⟩
noncomputable def Ux (K:Frag):R2:=λx y H Q=>∃a b ys,x=.ref a/\y=.ref b/\ql K H a []/\ql K H b ys/\Q (.ref b) H
def OW:qy X (binaryOp .Add) (Ux X.K):=by
 intro pins s σ H x y v u Q I c r h;obtain⟨a,b,ys,rfl,rfl,g,f,q⟩:=h;cases c;cases r;obtain⟨e,d,P,_⟩:=I.tuple g;obtain⟨i,j,p,_⟩:=I.tuple f;cases d;exact Ny P p ⟨.ref b,H,I,rfl,q⟩
def qv:W->W->Hx->R W:=λx y A=>match x,y with
 |.int i,.int j=>.ok (.int (i+j)) A|.tup xs,.tup ys=>if xs.length+ys.length<=z8 then .ok (.tup (xs++ys)) A else .bad|.ref n,.ref k=>match A[n]?,A[k]? with
  |some (.lst xs),some (.lst ys)=>if xs.length+ys.length<=z8 then .ok (.ref A.length) (A++[.lst (xs++ys)]) else .bad|_,_=>.bad
 |_,_=>.bad
def Iq:∀x y A,qo (qv x y A):=λx y A=>by
 unfold qv
 split
 ·exact jw
 ·exact ko jw qk
 ·split
  ·exact ko jw qk
  ·exact qk
 ·exact qk
def gn (h:n<=z8):n<=sizeLine:=by
 have:sizeLine=16777216:=sizeLine_eq
 unfold z8 at h;omega
def LC:jR K (λx y H Q=>wF (λi j=>.int (i+j)) x y H Q∨US K x y H Q∨Ux K x y H Q∨Tc x y H Q) qv:=λφ A H x y u v Q S f q p=>by
 cases u with
 |int i=>cases v with
  |int j=>obtain rfl:=f;obtain rfl:=q;exact .inl ⟨i,j,rfl,rfl,p φ H _ .refl S rfl⟩|_=>exact p.elim
 |tup xs=>cases v with
  |tup ys=>
   obtain⟨a1,b,rfl,t1,c⟩:=f;obtain⟨a2,a,rfl,t,r⟩:=q;unfold qv at p;dsimp only at p
   by_cases h:xs.length+ys.length<=z8
   ·rw[ah h]at p
    by_cases z:b=[]
    ·subst z
     have o:xs=[]:=by
      have:=c.length
      simpa using this
     subst o;exact .inr (.inr (.inl ⟨a1,a2,a,rfl,rfl,t1,t,p φ H _ .refl S ⟨a2,a,rfl,t,r⟩⟩))
    ·refine .inr (.inl ⟨a1,a2,b,a,rfl,rfl,t1,t,z,by rw[<- c.length,<- r.length];exact gn h,λe=>?_,λne l g=>?_⟩)
     ·subst e
      have o:ys=[]:=by
       have:=r.length
       simpa using this
      subst o;rw[bo]at p;exact p φ H _ .refl S ⟨a1,b,rfl,t1,c⟩
     ·obtain⟨w,s,B⟩:=Q2 S g (c.append r)
      exact p _ _ _ w s B
   ·rw[ar h]at p;exact p.elim
  |_=>exact p.elim
 |ref n=>cases v with
  |ref k=>
   unfold qv at p;dsimp only at p;cases E:A[n]? with
   |none=>rw[E]at p;exact p.elim|some I=>cases I with
    |lst xs=>
     cases d:A[k]? with
     |none=>rw[E,d]at p;exact p.elim|some D=>cases D with
      |lst ys=>
       rw[E,d]at p;dsimp only at p;obtain⟨C,v1,rfl,f1,g1,c⟩:=S.lst f E;obtain⟨P,v2,rfl,f2,g2,r⟩:=S.lst q d
       by_cases h:xs.length+ys.length<=z8
       ·rw[ah h]at p
        refine .inr (.inr (.inr ⟨C,P,v1,v2,rfl,rfl,g1,g2,by rw[<- c.length,<- r.length];exact gn h,λl g=>?_⟩))
        obtain⟨w,s,B⟩:=gU S g (c.append r);exact p _ _ _ w s B
       ·rw[ar h]at p;exact p.elim
      |_=>rw[E,d]at p;exact p.elim
    |_=>rw[E]at p;exact p.elim
  |_=>exact p.elim
 |_=>cases v<;>exact p.elim
def ja:W->W->Hx->R W:=λx y A=>match x,y with
 |.int i,.int j=>if Jf i j then .ok (.int (i * j)) A else .bad|.ref n,.int k=>match A[n]? with
  |some (.lst xs)=>if jy k&&decide (xs.length * k.toNat<=z8) then .ok (.ref A.length) (A++[.lst (List.replicate k.toNat xs).flatten]) else .bad|_=>.bad
 |_,_=>.bad
def HM:∀x y A,qo (ja x y A):=λx y A=>by
 unfold ja
 split
 ·exact ko jw qk
 ·split
  ·exact ko jw qk
  ·exact qk
 ·exact qk
theorem zx.rep {ws:List W}(r:zx K φ H ws vs):∀n:Nat,zx K φ H (List.replicate n ws).flatten (List.replicate n vs).flatten
 |0=>.nil|n+1=>by rw[a9,a9,aR,aR];exact r.append (zx.rep r n)
def MN:jR K (λx y H Q=>rI Ji (λi j=>.int (i * j)) x y H Q∨U9 x y H Q) ja:=λφ A H x y u v Q S a q p=>by
 cases v with
 |int j=>cases u with
  |int i=>
   obtain rfl:=a;obtain rfl:=q;unfold ja at p;dsimp only at p
   by_cases c:Jf i j=true
   ·rw[ah c]at p;exact .inl ⟨i,j,rfl,rfl,M9 i j c,p φ H _ .refl S rfl⟩
   ·rw[ar c]at p;exact p.elim
  |ref n=>
   obtain rfl:=q;unfold ja at p;dsimp only at p;cases e:A[n]? with
   |none=>rw[e]at p;exact p.elim|some o=>cases o with
    |lst xs=>
     rw[e]at p;dsimp only at p;obtain⟨P,v1,rfl,f1,g1,r⟩:=S.lst a e
     by_cases h:(jy j&&decide (xs.length * j.toNat<=z8))=true
     ·rw[ah h]at p
      rw[aq,ak]at h;obtain⟨g,B⟩:=Z1 h.1;refine .inr ⟨P,j,v1,rfl,rfl,g1,by omega,by omega,by rw[<- r.length];exact gn h.2,λl b=>?_⟩
      obtain⟨f,d,C⟩:=gU S b (r.rep j.toNat);exact p _ _ _ f d C
     ·rw[ar h]at p;exact p.elim
    |_=>rw[e]at p;exact p.elim
  |_=>exact p.elim
 |_=>cases u<;>exact p.elim
def wd:W->W->Hx->R W:=λx y A=>match x with
 |.ref n=>match A[n]? with
  |some (.lst ws)=>if ws.length<z8 then .ok .non (A.set n (.lst (ws++[y]))) else .bad|_=>.bad
 |_=>.bad
noncomputable def Qv (x:W)(A:Hx):Bool:=match x with
 |.ref n=>match A[n]? with
  |some (.lst _)=>true|_=>false
 |_=>false
def O3 {A:Hx}{w:W}(S:zB K φ A H)(q:RV K φ H w v)(e:Qv w A=true):Gx K "list" v H:=by
 unfold Qv at e;cases w with
 |ref n=>
  dsimp only at e;cases E:A[n]? with
  |none=>rw[E]at e;cases e|some o=>cases o with
   |lst ws=>obtain⟨p,vs,rfl,_,h,_⟩:=S.lst q E;exact .inl ⟨rfl,_,qH.of h⟩|_=>rw[E]at e;cases e
 |_=>cases e
def yO (g:W->W->Hx->R W)(a b:Ev):Ev:=λρ A=>(a ρ A).bind λx A1=>if Qv x A1 then(b ρ A1).bind λy A2=>g x y A2 else .bad
def WM {nm:Str}{id:String}{r:V->List V->Hp->VK->Prop}{g:W->W->Hx->R W}(slot:Slot "list" nm id)(j:typeOf (.builtin id)=pure (.type "method_descriptor"))(hm:Qz X id r)(hn:∀x y A,qo (g x y A))
  (C:∀φ A H x y u v Q,zB X.K φ A H->RV X.K φ H u x->RV X.K φ H v y->(g u v A).post (PB X.K φ H Q) wx->r x [y] H Q)(B:SE X xr a ma)(he:SE X xr b mb)
  (s:starEach [b] X.env=(false,eval b X.env)::starEach [] X.env)(c:attributeBase a nm X.env (eval a X.env)=eval a X.env)
  (d:((backTo cpos (starEach [b] X.env)).all (λx=>!x.1)&&(backToKw cpos (keywordEach [] X.env)).all (λx=>x.1.isSome)
   && decide ([b].length+([]:bS).length+(if ([]:bS).isEmpty then 0 else 1)<30))=true)(e:(apos.endLine==cpos.line)=true):
  SE X xr (.Call (.Attribute a nm apos) [b] [] cpos) (yO g ma mb):=
 PE.imp (FH PySem.F.plainAttrs_list slot j hm B (qZ he jH s) c d e s (by rfl)) λσ H Q ⟨φ,A,ρ,S,re,h⟩=>by
  refine tM.go S re (zY.mp h) λw A1 o H1 v f l n q=>?_
  by_cases k:Qv w A1=true
  ·rw[ah k]at f
   refine⟨O3 n q k,?_⟩;refine tM.go n (re.mono l) (qj (zY.mp f) (λ_ _ z=>z) λ_ _ z=>z.mono l) λp A2 i I v2 D L E t=>?_;exact C i A2 I v v2 w p Q E (q.mono L) t (qj (Zr (hn _ _ _) D) (λ_ _ z=>z.mono (l.trans L)) λ_ _ z=>z)
  ·rw[ar k]at f;exact f.elim
def OB:∀x y A,qo (wd x y A):=λx y A=>by
 unfold wd
 split
 ·split
  ·exact ko jw qk
  ·exact qk
 ·exact qk
def wO:W->W->Hx->R W:=λx y A=>match x,y with
 |.ref n,.int i=>match A[n]? with
  |some (.lst ws)=>match (if jy i then seqIndex? i ws.length else none) with
   |some k=>match ws[k]? with
    |some w=>.ok w (A.set n (.lst (ws.eraseIdx k)))|none=>.bad
   |none=>.bad
  |_=>.bad
 |_,_=>.bad
def O7:∀x y A,qo (wO x y A):=λx y A=>by
 unfold wO
 split
 ·split
  ·split
   ·split
    ·exact jw
    ·exact qk
   ·exact qk
  ·exact qk
 ·exact qk
def yH:W->W->W->Hx->R Unit:=λo i v A=>match o,i with
 |.ref n,.int k=>match A[n]? with
  |some (.lst ws)=>match kX ws.length k with
   |some j=>.ok () (A.set n (.lst (ws.set j v)))|none=>.bad
  |_=>.bad
 |_,_=>.bad
def Hm:∀o i v A,qo (yH o i v A):=λo i v A=>by
 unfold yH
 split
 ·split
  ·split
   ·exact jw
   ·exact qk
  ·exact qk
 ·exact qk
def Mw:UY K UQ yH:=λφ A H o i v a w wv Q S f d q p=>by
 unfold yH at p;cases a with
 |ref n=>cases w with
  |int k=>
   obtain rfl:=d;dsimp only at p;cases e:A[n]? with
   |none=>rw[e]at p;exact p.elim|some g=>cases g with
    |lst ws=>
     rw[e]at p;dsimp only at p;cases E:kX ws.length k with
     |none=>rw[E]at p;exact p.elim|some j=>
      rw[E]at p;obtain⟨l,vs,rfl,f1,g1,r⟩:=S.lst f e;have ln:Le K φ H φ (upd H l (.lst (vs.set j v))):=Le.upd f1 (λxs z=>by rw[g1]at z;cases z) (λ_ _ z=>by rw[g1]at z;cases z)
      obtain⟨c,b⟩:=S.write (o:=.lst ws) (o':=.lst (ws.set j wv)) e rfl rfl f1 ⟨_,ju,(r.mono ln).set (q.mono ln) j⟩;exact⟨l,vs,k,j,rfl,rfl,g1,by rw[<- r.length];exact E,p _ _ c b⟩
    |_=>rw[e]at p;exact p.elim
  |_=>exact p.elim
 |_=>cases w<;>exact p.elim
variable {es:bO}{m:Ev}
def U5 {id:String}{g:W->Hx->R W}(i:jD X (.builtin id) r)(hn:∀w A,qo (g w A))(f:Y3 X.K (λv=>r [v]) g)(hm:X.mg x=none)(d:bootBuiltins x=some (.builtin id))(j:SE X xr e m)(b:Gl X x:=by rfl)
  (a:x ≠ "__name__":=by decide)(c:(x==("__debug__":Str))=false:=by decide)(he:starEach [e] X.env=(false,eval e X.env)::starEach [] X.env:=by rfl)(l:(backTo pos (starEach [] X.env)).any (·.1)=false:=by rfl):
  SE X xr (.Call (.Name x p) [e] [] pos) (jf g m):=PE.imp (gO i b hm d (qZ j jH he) a c he l) λσ H Q h=>jf.read (r:=λv=>r [v]) hn f σ H Q h
def UD {id:String}{g:W->Hx->R W}(i:jD X (.type id) r)(hn:∀w A,qo (g w A))(f:Y3 X.K (λv=>r [v]) g)(hm:X.mg x=none)(d:bootBuiltins x=some (.type id))(j:SE X xr e m)(b:Gl X x:=by rfl)
  (a:x ≠ "__name__":=by decide)(c:(x==("__debug__":Str))=false:=by decide)(he:starEach [e] X.env=(false,eval e X.env)::starEach [] X.env:=by rfl)(l:(backTo pos (starEach [] X.env)).any (·.1)=false:=by rfl):
  SE X xr (.Call (.Name x p) [e] [] pos) (jf g m):=PE.imp (Z4 i b hm d (qZ j jH he) a c he l) λσ H Q h=>jf.read (r:=λv=>r [v]) hn f σ H Q h
def W2 {id:String}{g:W->W->Hx->R W}(o:jD X (.builtin id) r)(hn:∀w j A,qo (g w j A))(n:jR X.K (λv c=>r [v,c]) g)(hm:X.mg x=none)(k:bootBuiltins x=some (.builtin id))(s:SE X xr a ma)(q:SE X xr b mb)(e:Gl X x)
  (d:x ≠ "__name__")(f:(x==("__debug__":Str))=false)(i:starEach [a,b] X.env=(false,eval a X.env)::starEach [b] X.env)(t:starEach [b] X.env=(false,eval b X.env)::starEach [] X.env)(l:(backTo pos (starEach [b] X.env)).any (·.1)=false):
  SE X xr (.Call (.Name x p) [a,b] [] pos) (zh g ma mb):=PE.imp (gO o e hm k (qZ s (qZ q jH t) i) d f i l) λσ H Q h=>zh.read (r:=λv c=>r [v,c]) hn n σ H Q h
noncomputable def Jj:W->Hx->R W
 |.int i,A=>.ok (.int (if i<0 then -i else i)) A|_,_=>.bad
noncomputable def ZL:W->Hx->R W
 |.int i,A=>.ok (.int i) A|.bl k,A=>.ok (.int (if k then 1 else 0)) A|_,_=>.bad
def WL:=wG λi j=>.int (if j > i then j else i)
def Zc:=wG λi j=>.int (if j<i then j else i)
noncomputable def kP:W->Bool
 |.tup _=>false|.ref _=>false|.clo _ _ _=>false|.xc _=>false|_=>true
noncomputable def W6:W->W->Bool
 |.non,.non=>true|.bl a,.bl b=>a==b|.bl a,.int b=>(if a then 1 else 0)==b|.int a,.bl b=>a==(if b then 1 else 0)|.int a,.int b=>a==b|.str a,.str b=>a==b|_,_=>false
def Qx (x:W)(xs:List W):Bool:=xs.any λy=>W6 y x
def Vd {w:W}(q:RV K φ H w v)(e:kP w=true):wX v=true:=by
 cases w<;>first
  |(cases e;done)
  |(obtain rfl:=q;rfl)
def Ou {w a:W}{b:V}(q:RV K φ H w v)(Q:RV K φ H a b)(e:kP w=true)(E:kP a=true):gK v b=W6 w a:=by
 cases w<;>cases a<;>first
  |(cases e;done)
  |(cases E;done)
  |(obtain rfl:=q;obtain rfl:=Q;rfl)
theorem Vs {x:W}(q:RV K φ H x v)(e:kP x=true):∀{xs:List W}{vs:List V},zx K φ H xs vs->xs.all kP=true->vs.all wX=true/\YZ v vs=Qx x xs
 |[],_,r,_=>by cases r;exact⟨rfl,rfl⟩|w::ws,_,⟨y,r,E,h,t⟩,a=>by
  subst E;rw[List.all_cons,aq]at a;obtain⟨I,i⟩:=Vs q e t a.2;refine⟨by rw[List.all_cons,Vd h a.1,I];rfl,?_⟩
  unfold YZ Qx at i ⊢;rw[any_cons,any_cons,i,Ou h q a.1 e]
def ZH (neg:Bool):W->W->Hx->R W:=λx y A=>match zV y A with
 |some ws=>if kP x&&ws.all kP then .ok (.bl (if neg then !Qx x ws else Qx x ws)) A else .bad|none=>.bad
abbrev Y6:=ZH false
def Ir {n:Bool}:∀x y A,qo (ZH n x y A):=λx y A=>by
 unfold ZH
 split
 ·exact ko jw qk
 ·exact qk
def IY {n:Bool}:jR K (TK K n) (ZH n):=λφ A H x y u v Q S q b p=>by
 unfold ZH at p;cases es:zV v A with
 |none=>rw[es]at p;exact p.elim|some ws=>
  rw[es]at p;dsimp only at p
  by_cases hf:(kP u&&ws.all kP)=true
  ·rw[ah hf]at p
   rw[aq]at hf;obtain⟨a,ys,rfl,z,r⟩:=JO S b es;obtain⟨I,i⟩:=Vs q hf.1 r hf.2;exact⟨a,ys,rfl,z,Vd q hf.1,I,by rw[i];exact p φ H _ .refl S rfl⟩
  ·rw[ar hf]at p;exact p.elim
structure Ga (X:Cx)(op:CmpOp)(g:W->W->Hx->R W):Prop where
 ex:∃r:R2,qy X (compareOp op) r/\(∀x y A,qo (g x y A))/\jR X.K r g
def To:Ga X .In Y6:=⟨_,OD,Ir,IY⟩
end
noncomputable def yD (f:W->Option PyData):List W->Option (List PyData)
 |[]=>some []|w::ws=>match f w,yD f ws with
  |some d,some ds=>some (d::ds)|_,_=>none
def qf (A:Hx):Nat->W->Option PyData
 |_,.non=>some .none|_,.bl b=>some (.bool b)|_,.int i=>some (.int i)|_,.str x=>if PyData.strOk x then some (.str x) else none|_,.clo _ _ _=>none|_,.xc _=>none|0,.tup _=>none|0,.ref _=>none|n+1,.tup ws=>(yD (qf A n) ws).map .tuple|n+1,.ref k=>match zV (.ref k) A with
  |some ws=>(yD (qf A n) ws).map .list|none=>none
def Nw {K:Frag}{A:Hx}{us:List W}(S:zB K φ A H)(q:RV K φ H (.ref n) v)(e:zV (.ref n) A=some us):∃a ys,v=.ref a/\qH K H a ys/\zx K φ H us ys:=by
 obtain⟨a,rfl,d⟩:=q;unfold zV at e;dsimp only at e;cases E:A[n]? with
 |none=>rw[E]at e;cases e|some o=>
  rw[E]at e;obtain⟨f,c,r⟩:=S.ob n o E;rw[d]at c;cases c;cases o with
  |lst xs=>cases e;obtain⟨ys,b,h⟩:=r;exact⟨a,ys,rfl,qH.of b,h⟩|ro xs=>cases e;obtain⟨ys,b,h⟩:=r;exact⟨a,ys,rfl,b.sq,h⟩|dct xs=>cases e|td _=>cases e|tab _ _=>cases e
section
variable {a:Expr}
theorem KZ {K:Frag}{f:W->Option PyData}(hf:∀w v u d,RV K φ H w v->RelV v u->f w=some d->∃as,Reads h u d as):
  ∀{ws:List W}{vs:List V}{us:bI}{ds:List PyData},zx K φ H ws vs->Vals vs us->yD f ws=some ds->∃as,ReadsAll h us ds as
 |[],_,_,_,r,a,e=>by cases r;cases a;cases e;exact⟨[],.nil⟩|w::ws,_,_,ds,⟨v,r,k,q,t⟩,a,e=>by
  subst k;cases a with
  |cons g c=>
   unfold yD at e;cases E:f w with
   |none=>rw[E]at e;cases e|some d=>
    cases b:yD f ws with
    |none=>rw[E,b]at e;cases e|some D=>
     rw[E,b]at e;cases e;obtain⟨as,j⟩:=hf w v _ d q g E;obtain⟨bs,i⟩:=KZ hf t c b;exact⟨_,.cons j i⟩
def Z5 {A:Hx}(I:Inv X pins σ H s)(S:zB X.K φ A H):∀(n:Nat)(w:W)(v:V)(u:Value)(d:PyData),RV X.K φ H w v->RelV v u->qf A n w=some d->∃as,Reads s.heap u d as:=by
 intro n
 induction n with
 |zero=>
  intro w v u d q r e;cases w with
  |non=>obtain rfl:=q;cases r;cases e;exact⟨_,.none⟩|bl k=>obtain rfl:=q;cases r;cases e;exact⟨_,.bool k⟩|int k=>obtain rfl:=q;obtain⟨t,rfl⟩:=r;cases e;exact⟨_,.int k t⟩|str k=>
   obtain rfl:=q;obtain⟨t,rfl⟩:=r;unfold qf at e
   split at e
   ·cases e;exact⟨_,.str k t⟩
   ·cases e
  |tup _=>cases e|ref _=>cases e|clo _ _ _=>unfold qf at e;cases e|xc _=>unfold qf at e;cases e
 |succ n x=>
  intro w v u d q r e;cases w with
  |non=>obtain rfl:=q;cases r;cases e;exact⟨_,.none⟩|bl k=>obtain rfl:=q;cases r;cases e;exact⟨_,.bool k⟩|clo _ _ _=>unfold qf at e;cases e|xc _=>unfold qf at e;cases e|int k=>obtain rfl:=q;obtain⟨t,rfl⟩:=r;cases e;exact⟨_,.int k t⟩|str k=>
   obtain rfl:=q;obtain⟨t,rfl⟩:=r;unfold qf at e
   split at e
   ·cases e;exact⟨_,.str k t⟩
   ·cases e
  |tup ws=>
   obtain⟨a,vs,rfl,h,c⟩:=q;cases r;unfold qf at e;cases E:yD (qf A n) ws with
   |none=>rw[E]at e;cases e|some ds=>
    rw[E]at e;cases e;obtain⟨i,b,⟨o,l,j,k,g⟩,_⟩:=I.tuple h;obtain⟨as,f⟩:=KZ x c b E;exact⟨_,.tuple l j g (by simpa using f)⟩
  |ref k=>
   unfold qf at e;cases E:zV (.ref k) A with
   |none=>rw[E]at e;cases e|some ws=>
    rw[E]at e;dsimp only at e;obtain⟨a,ys,rfl,h,c⟩:=Nw S q E;cases r;cases p:yD (qf A n) ws with
    |none=>rw[p]at e;cases e|some ds=>
     rw[p]at e;cases e;obtain⟨i,b,⟨o,y,l,j,_,g⟩,_⟩:=I.list h;obtain⟨as,f⟩:=KZ x c b p;exact⟨_,.list l j g (by simpa using f)⟩
def KU {A:Hx}:∀(n:Nat)(w:W)(d:PyData),qf A n w=some d->d.canLay0=true/\d.depth<=n:=by
 intro n;have lst:∀{n:Nat},(∀(w:W)(d:PyData),qf A n w=some d->d.canLay0=true/\d.depth<=n)->∀(ws:List W)(ds:List PyData),yD (qf A n) ws=some ds->PyData.canLayAll0 ds=true/\PyData.depthAll ds<=n:=by
  intro n i ws
  induction ws with
  |nil=>intro ds e;cases e;exact⟨by simp[PyData.canLayAll0],by simp[PyData.depthAll]⟩|cons w ws I=>
   intro ds e;unfold yD at e;cases E:qf A n w with
   |none=>rw[E]at e;cases e|some d=>
    cases b:yD (qf A n) ws with
    |none=>rw[E,b]at e;cases e|some D=>
     rw[E,b]at e;cases e;obtain⟨h,c⟩:=i w d E;obtain⟨f,g⟩:=I D b;refine⟨by simp[PyData.canLayAll0,h,f],?_⟩
     simp only[PyData.depthAll];omega
 induction n with
 |zero=>
  intro w d e;cases w with
  |tup _=>cases e|ref _=>cases e|clo _ _ _=>unfold qf at e;cases e|xc _=>unfold qf at e;cases e|str x=>
   unfold qf at e
   split at e
   ·rename_i H;cases e;exact⟨by simp[PyData.canLay0,H],by simp[PyData.depth]⟩
   ·cases e
  |_=>cases e;exact⟨by simp[PyData.canLay0],by simp[PyData.depth]⟩
 |succ n i=>
  intro w d e;cases w with
  |clo _ _ _=>unfold qf at e;cases e|xc _=>unfold qf at e;cases e|tup ws=>
   unfold qf at e;cases a:yD (qf A n) ws with
   |none=>rw[a]at e;cases e|some ds=>
    rw[a]at e;cases e;obtain⟨h,c⟩:=lst i ws ds a;refine⟨by simp[PyData.canLay0,h],?_⟩
    simp only[PyData.depth];omega
  |ref k=>
   unfold qf at e;cases a:zV (.ref k) A with
   |none=>rw[a]at e;cases e|some ws=>
    rw[a]at e;dsimp only at e;cases E:yD (qf A n) ws with
    |none=>rw[E]at e;cases e|some ds=>
     rw[E]at e;cases e;obtain⟨h,c⟩:=lst i ws ds E;refine⟨by simp[PyData.canLay0,h],?_⟩
     simp only[PyData.depth];omega
  |str x=>
   unfold qf at e
   split at e
   ·rename_i H;cases e;exact⟨by simp[PyData.canLay0,H],by simp[PyData.depth]⟩
   ·cases e
  |_=>cases e;exact⟨by simp[PyData.canLay0],by simp[PyData.depth]⟩
def gf (neg:Bool):W->W->Hx->R W:=λx y A=>match qf A 8 x,qf A 8 y with
 |some d,some d'=>.ok (.bl (if neg then !PyData.eqv d d' else PyData.eqv d d')) A|_,_=>.bad
abbrev je:=gf false
abbrev jC:=gf true
def UL {n:Bool}:∀x y A,qo (gf n x y A):=λx y A=>by
 unfold gf
 split
 ·exact jw
 ·exact qk
def Gj (K:Frag)(neg:Bool):R2:=λx y H Q=>∃φ A u v d d',zB K φ A H/\RV K φ H u x/\RV K φ H v y/\qf A 8 u=some d/\qf A 8 v=some d'/\Q (.bl (if neg then !PyData.eqv d d' else PyData.eqv d d')) H
def Yd {A:Hx}{w:W}{d:PyData}(h:qf A 8 w=some d):SeqAt.shaped d=true:=by
 obtain⟨H,a⟩:=KU 8 w d h;unfold SeqAt.shaped;rw[H,Bool.true_and,ak];omega
def L6 (g:X.A.units+64<cLine):qy X (compareOp .Eq) (Gj X.K false):=by
 intro pins s σ H x y v u Q I b r h;obtain⟨φ,A,a,w,d,d',S,f,c,E,e,q⟩:=h;obtain⟨as,j⟩:=Z5 I S 8 a x v d f b E;obtain⟨bs,i⟩:=Z5 I S 8 w y u d' c r e;exact eq_dataH j i (Yd E) (Yd e) g ⟨.bl _,H,I,rfl,q⟩
def IG (g:X.A.units+64<cLine):qy X (compareOp .NotEq) (Gj X.K true):=by
 intro pins s σ H x y v u Q I b r h;obtain⟨φ,A,a,w,d,d',S,f,c,E,e,q⟩:=h;obtain⟨as,j⟩:=Z5 I S 8 a x v d f b E;obtain⟨bs,i⟩:=Z5 I S 8 w y u d' c r e;exact ne_dataH j i (Yd E) (Yd e) g ⟨.bl _,H,I,rfl,q⟩
def VL {K:Frag}{n:Bool}:jR K (Gj K n) (gf n):=λφ A H x y u v Q S a q p=>by
 unfold gf at p;cases e:qf A 8 u with
 |none=>rw[e]at p;exact p.elim|some d=>
  cases E:qf A 8 v with
  |none=>rw[e,E]at p;exact p.elim|some d'=>
   rw[e,E]at p;exact⟨φ,A,u,v,d,d',S,a,q,e,E,p φ H _ .refl S rfl⟩
def yr (h:jo k X.A):kq X .Eq je:=Qf (L6 h.units) UL VL
def wk (h:jo k X.A):kq X .NotEq jC:=Qf (IG h.units) UL VL
end
mutual
noncomputable def W.nr:W->Bool
 |.tup ws=>ji ws|.ref _=>false|.clo _ ws _=>ji ws|_=>true
noncomputable def ji:List W->Bool
 |[]=>true|w::ws=>w.nr&&ji ws
end
def iso (f:Fn):Fn:=λus A=>if ji us then(match f us [] with
 |.ok w A1=>(match w with
  |.ref n=>(match A1[n]? with
   |some (.lst ws)=>if ji ws then .ok (.ref A.length) (A++[.lst ws]) else .bad|some (.dct k)=>if ji (k.map (·.2)) then .ok (.ref A.length) (A++[.dct k]) else .bad|_=>.bad)
  |w=>if w.nr then .ok w A else .bad)
 |_=>.bad) else .bad
def kR (f:Fn):Fn:=λus A=>match us with
 |.ref n::us=>(match A[n]? with
  |some (.lst ws)=>if ji ws&&ji us then(match f (.ref 0::us) [.lst ws] with
   |.ok w A1=>(match (List.head? A1:Option O) with
    |some (.lst a)=>if ji a&&w.nr then .ok w (A.set n (.lst a)) else .bad|_=>.bad)
   |_=>.bad) else .bad
  |_=>.bad)
 |_=>.bad
section
variable {K:Frag}{φ' φ1:bJ}{H' H1:Hp}{A A1:Hx}
mutual
theorem RV.nrm (tp:∀a vs,ql K H a vs->ql K H' a vs)(fz:∀a o u,H a=some (.frz o u)->H' a=some (.frz o u)):∀{w:W}{v:V},w.nr=true->RV K φ H w v->RV K φ' H' w v
 |.non,_,_,h=>h|.bl _,_,_,h=>h|.int _,_,_,h=>h|.str _,_,_,h=>h|.tup ws,_,n,⟨a,vs,e,t,r⟩=>⟨a,vs,e,tp _ _ t,zx.nrm tp fz n r⟩|.ref _,_,n,_=>nomatch n
 |.clo _ ws P,_,n,⟨a,ob,u,c,g,uc,vs,e,d,b,i,r⟩=>⟨a,ob,u,c,g,uc,vs,e,fz _ _ _ d,fz _ _ _ b,i,zx.nrm tp fz n r⟩|.xc _,_,_,⟨a,f,u,C,e,d,b⟩=>⟨a,f,u,C,e,fz _ _ _ d,b⟩
theorem zx.nrm (tp:∀a vs,ql K H a vs->ql K H' a vs)(fz:∀a o u,H a=some (.frz o u)->H' a=some (.frz o u)):∀{ws:List W}{vs:List V},ji ws=true->zx K φ H ws vs->zx K φ' H' ws vs
 |[],_,_,h=>h|w::ws,_,n,⟨v,r,e,h,t⟩=>by
  have N:(w.nr&&ji ws)=true:=n;rw[aq]at N;exact⟨v,r,e,RV.nrm tp fz N.1 h,zx.nrm tp fz N.2 t⟩
end
def zB.none:zB K [] [] H:=⟨rfl,λi j a o o' _ _ h=>by simp at h,λn o h=>by simp at h⟩
def zB.frame (S:zB K φ A H)(k:∀a o,H a=some o->H1 a=some o)(l:Le K φ H φ H1):zB K φ A H1:=
 ⟨S.len,S.inj,λn o e=>let ⟨a,h1,q⟩:=S.ob n o e;⟨a,h1,q.keep l λu h=>k a u h⟩⟩
def Le.apart (l:Le K [] H φ1 H1):Le K φ H φ H1/\∀a o,H a=some o->H1 a=some o:=
 have k:∀a o,H a=some o->H1 a=some o:=λa o h=>l.fr a o h λn e=>by simp at e
 ⟨⟨λ_ _ h=>h,l.tp,λa o h _=>k a o h,λ_ _ h=>.inl h,l.st,l.fz⟩,k⟩
def zB.trackN {u:HO}{o:O}(S:zB K φ A H)(I:H D=some u)(n:∀(k:Nat)(q:O),φ[k]? =some D->A[k]? =some q->q.mut=false)(new:OR K (φ++[D]) H D o):zB K (φ++[D]) (A++[o]) H:=by
 have l:gJ K φ H (φ++[D]) H:=⟨λn a h=>by
  have:=(bY.mp h).1
  rw[ag this];exact h,λ_ _ h=>h,λ_ _ _ h=>h⟩
 have old:∀(i:Nat) a,(φ++[D])[i]? =some a->i<A.length->φ[i]? =some a:=λi a e d=>by
  rw[ag (by rw[S.len];exact d)]at e;exact e
 have last:∀a,(φ++[D])[A.length]? =some a->a=D:=λa e=>by
  rw[au (by rw[S.len];exact aw _),S.len]at e
  simpa using e.symm
 refine⟨by simp[S.len],λi j a B y w v f b m1 m2=>?_,λk o' e=>?_⟩
 ·by_cases d:i<A.length
  ·rw[ag d]at f
   by_cases c:j<A.length
   ·rw[ag c]at b
    exact S.inj i j a B y (old i a w d) (old j a v c) f b m1 m2
   ·exfalso
    have p:j=A.length:=by have:=(bY.mp b).1;simp at this;omega
    subst p;have z:=n i B (by rw[<- last a v];exact old i a w d) f
    rw[m1]at z;cases z
  ·have s:i=A.length:=by have:=(bY.mp f).1;simp at this;omega
   by_cases c:j<A.length
   ·exfalso
    rw[ag c]at b;subst s;have z:=n j y (by rw[<- last a w];exact old j a v c) b
    rw[m2]at z;cases z
   ·have:=(bY.mp b).1;simp at this;omega
 ·by_cases hn:k<A.length
  ·rw[ag hn]at e
   obtain⟨a,E,q⟩:=S.ob k o' e;refine⟨a,l.ex _ _ E,?_⟩;cases o' with
   |lst ws=>obtain⟨vs,z,r⟩:=q;exact⟨vs,z,r.monoW l⟩|dct ws=>obtain⟨vs,z,Z,r⟩:=q;exact⟨vs,z,Z,r.monoW l⟩|td _=>obtain⟨vs,z,Z,t,r⟩:=q;exact⟨vs,z,Z,λx C=>l.tp _ _ (t x C),r.monoW l⟩|tab _ _=>exact q|ro ws=>obtain⟨vs,z,r⟩:=q;exact⟨vs,z,r.monoW l⟩
  ·have g:k=A.length:=by have:=(bY.mp e).1;simp at this;omega
   subst g;rw[au (aw _)]at e;simp at e;subst e;exact⟨D,by rw[au (by rw[S.len];exact aw _),S.len];simp,new⟩
def zB.adopt {o:O}(S:zB K φ A H)(l:Le K [] H φ1 H1)(d:φ1[n]? =some a)(m:∃u,H1 a=some u)(new:OR K (φ++[a]) H1 a o):
  Le K φ H (φ++[a]) H1/\zB K (φ++[a]) (A++[o]) H1/\RV K (φ++[a]) H1 (.ref A.length) (.ref a):=by
 obtain⟨L,k⟩:=l.apart (φ:=φ);have h0:H a=Option.none:=by
  rcases l.nw n a d with e|e
  ·simp at e
  ·exact e
 obtain⟨u,b⟩:=m;have s:=S.frame k L;refine⟨L.Qk h0,s.trackN b (λk q g f=>?_) new,a,rfl,by rw[<- S.len];simp⟩
 cases c:q.mut with
 |false=>rfl|true=>
  obtain⟨i,E,r⟩:=S.ob k q f;rw[g]at E;cases E;obtain⟨z,h,_⟩:=r.there c;rw[h0]at h;cases h
def OR.nrL {ws:List W}(h:OR K φ H a (.lst ws))(n:ji ws=true):OR K φ' H a (.lst ws):=let ⟨vs,e,r⟩:=h;⟨vs,e,r.nrm (λ_ _ t=>t) (λ_ _ _ t=>t) n⟩
def OR.nrD {k:List (Key×W)}(h:OR K φ H a (.dct k))(n:ji (k.map (·.2))=true):OR K φ' H a (.dct k):=let ⟨vs,e,E,r⟩:=h;⟨vs,e,E,r.nrm (λ_ _ t=>t) (λ_ _ _ t=>t) n⟩
theorem zS.iso {f:Fn}(F:zS P w K mg base k x n f):zS P w K mg base k x n (iso f):=by
 obtain⟨C,fd,ps,F,a,b,c⟩:=F;refine⟨C,fd,ps,F.imp λvs H Q E ⟨z,φ,A,ws,S,r,q⟩=>?_,a,b,c⟩;unfold Mi.iso at q
 by_cases hn:ji ws=true
 ·rw[ah hn]at q
  refine⟨z,[],[],ws,zB.none,r.nrm (λ_ _ t=>t) (λ_ _ _ t=>t) hn,?_⟩;cases hf:f ws [] with
  |ok w A1=>
   rw[hf]at q;dsimp only at q;intro u H1 v L D g;cases w with
   |ref m=>
    dsimp only at q;cases hm:A1[m]? with
    |none=>rw[hm]at q;exact q.elim|some o=>
     rw[hm]at q;obtain⟨I,j,d⟩:=D.ob m o hm;obtain⟨a2,rfl,e⟩:=g;rw[j]at e;cases e;cases o with
     |lst us=>
      dsimp only at q
      by_cases h:ji us=true
      ·rw[ah h]at q
       obtain⟨t,i,_⟩:=d.there rfl;obtain⟨s,p,B⟩:=S.adopt L j ⟨t,i⟩ (o:=.lst us) (d.nrL h);exact q _ _ _ s p B
      ·rw[ar h]at q;exact q.elim
     |dct us=>
      dsimp only at q
      by_cases h:ji (us.map (·.2))=true
      ·rw[ah h]at q
       obtain⟨t,i,_⟩:=d.there rfl;obtain⟨s,p,B⟩:=S.adopt L j ⟨t,i⟩ (o:=.dct us) (d.nrD h);exact q _ _ _ s p B
      ·rw[ar h]at q;exact q.elim
     |ro us=>exact q.elim|td _=>exact q.elim|tab _ _=>exact q.elim
   |_=>
    all_goals
     dsimp only at q;obtain⟨l,kk⟩:=L.apart (φ:=φ)
     first
      |exact q φ H1 v l (S.frame kk l) g
      |(
        split at q
        ·rename_i hw
         exact q φ H1 v l (S.frame kk l) (RV.nrm (λ_ _ t=>t) (λ_ _ _ t=>t) hw g)
        ·exact q.elim)
  |exc y A1=>rw[hf]at q;exact q.elim|bad=>rw[hf]at q;exact q.elim
 ·rw[ar hn]at q;exact q.elim
theorem zS.kR {f:Fn}(F:zS P w K mg base k x n f):zS P w K mg base k x n (kR f):=by
 obtain⟨fa,fd,ps,F,a,b,c⟩:=F;refine⟨fa,fd,ps,F.imp λvs H Q E ⟨hl,φ,A,ws,S,r,q⟩=>?_,a,b,c⟩;unfold Mi.kR at q;cases ws with
 |nil=>exact q.elim|cons Z us=>cases Z with
  |ref n=>
   dsimp only at q;cases g:A[n]? with
   |none=>rw[g]at q;exact q.elim|some o=>cases o with
    |lst xs=>
     rw[g]at q;dsimp only at q
     by_cases hn:(ji xs&&ji us)=true
     ·rw[ah hn]at q
      rw[aq]at hn;obtain⟨v0,vr,rfl,q0,qr⟩:=r;obtain⟨p,ys,rfl,f1,g1,d⟩:=S.lst q0 g;have S0:zB K [p] [.lst xs] H:=by
       refine⟨rfl,λi j a o o' D C T N _ _=>?_,λm o e=>?_⟩
       ·have:=(bY.mp D).1
        have:=(bY.mp C).1
        simp at*;omega
       ·have:m=0:=by have:=(bY.mp e).1;simp at this;omega
        subst this;simp at e;subst e;exact⟨p,rfl,ys,g1,d.nrm (λ_ _ t=>t) (λ_ _ _ t=>t) hn.1⟩
      refine⟨hl,[p],[.lst xs],.ref 0::us,S0,.cons ⟨p,rfl,rfl⟩ (qr.nrm (λ_ _ t=>t) (λ_ _ _ t=>t) hn.2),?_⟩;cases hf:f (.ref 0::us) [.lst xs] with
      |ok w A1=>
       rw[hf]at q;dsimp only at q;intro u H1 v L S1 q1;cases h0:List.head? A1 with
       |none=>rw[h0]at q;exact q.elim|some o=>cases o with
        |lst zs=>
         rw[h0]at q;dsimp only at q
         by_cases hw:(ji zs&&w.nr)=true
         ·rw[ah hw]at q
          rw[aq]at hw;have apart:∀a o,a≠p->H a=some o->H1 a=some o:=λa o ne h=>L.fr a o h λm e=>by
           have:m=0:=by have:=(bY.mp e).1;simp at this;omega
           subst this;simp at e;exact ne e.symm
          have lf:Le K φ H φ H1:=⟨λ_ _ h=>h,L.tp,λa o h nn=>apart a o (λe=>nn n (by rw[e];exact f1)) h,λ_ _ h=>.inl h,L.st,L.fz⟩
          have hp:u[0]? =some p:=L.ex 0 p rfl;obtain⟨p',l,U,I,B⟩:=S1.ob 0 _ (by rw[<- List.head?_eq_getElem?];exact h0)
          rw[hp]at l;cases l;refine q φ H1 v lf ?_ (RV.nrm (λ_ _ t=>t) (λ_ _ _ t=>t) hw.2 q1);have mt:∀(i:Nat)(w:O),(A.set n (.lst zs))[i]? =some w->w.mut=true->∃J,A[i]? =some J/\J.mut=true:=λi w e mw=>by
           by_cases s:i=n
           ·subst s;exact⟨_,g,rfl⟩
           ·rw[aF (Ne.symm s)]at e;exact⟨w,e,mw⟩
          refine⟨by simp[S.len],λi j a o1 o2 D C T N m1 m2=>?_,λi w e=>?_⟩
          ·obtain⟨Y,l,k1⟩:=mt i o1 T m1
           obtain⟨X,I,k2⟩:=mt j o2 N m2;exact S.inj i j a Y X D C l I k1 k2
          ·by_cases s:i=n
           ·subst s
            have:i<A.length:=(bY.mp g).1
            rw[aE this]at e;cases e;exact⟨p,f1,U,I,B.nrm (λ_ _ t=>t) (λ_ _ _ t=>t) hw.1⟩
           ·rw[aF (Ne.symm s)]at e
            obtain⟨a,l,M⟩:=S.ob i w e;refine⟨a,l,?_⟩
            by_cases hm:w.mut=true
            ·have ne:a≠p:=λz=>s (S.inj i n a w _ l (by rw[z];exact f1) e g hm rfl)
             exact M.keep lf λz hz=>apart a z ne hz
            ·cases w with
             |lst _=>exact absurd rfl hm|dct _=>exact absurd rfl hm|td _=>exact absurd rfl hm|tab _ _=>exact absurd rfl hm|ro ws=>
              obtain⟨vs,d,B⟩:=M;refine⟨vs,?_,B.mono lf⟩;rcases d with ⟨ob,d⟩|d
              ·refine .inl ⟨ob,apart a _ ?_ d⟩
               intro z;subst z;rw[g1]at d;cases d
              ·exact .inr d
         ·rw[ar hw]at q;exact q.elim
        |_=>rw[h0]at q;exact q.elim
      |exc y A1=>rw[hf]at q;exact q.elim|bad=>rw[hf]at q;exact q.elim
     ·rw[ar hn]at q;exact q.elim
    |_=>rw[g]at q;exact q.elim
  |_=>exact q.elim
end
section
variable {K:Frag}{a b:Expr}{m:Ev}{st:Stmt}
noncomputable def intsOf:List W->Option (bH)
 |[]=>some []|w::ws=>match w with
  |.int i=>match intsOf ws with
   |some is=>some (i::is)|none=>none
  |_=>none
theorem KW:∀{ws:List W}{ns:bH},intsOf ws=some ns->ws=ns.map W.int
 |[],_,e=>by cases e;rfl|w::ws,ns,e=>by
  unfold intsOf at e;cases w with
  |int i=>
   dsimp only at e;cases E:intsOf ws with
   |none=>rw[E]at e;cases e|some is=>rw[E]at e;cases e;rw[KW E];rfl
  |_=>cases e
noncomputable def jN:List Int->Int->Int
 |[],m=>m|i::is,m=>jN is (if i > m then i else m)
def OI (ns:bH):∀(k:Nat)(a:k<ns.length),jN (ns.drop (k+1)) (ns.getD (argBest (λi j=>decide (ns.getD i 0 > ns.getD j 0)) k) 0)=jN ns.tail (ns.getD 0 0):=by
 intro k
 induction k with
 |zero=>intro _;rw[show argBest _ 0=0 from rfl,List.drop_one]|succ k I=>
  intro a;have H:k<ns.length:=by omega
  rw[<- I H];have e:ns.drop (k+1)=ns[k+1]::ns.drop (k+1+1):=List.drop_eq_getElem_cons a;rw[e];have E:ns.getD (k+1) 0=ns[k+1]:=by rw[ae,aa a];rfl
  show jN _ (ns.getD (if decide (ns.getD (k+1) 0 > ns.getD (argBest _ k) 0)=true then k+1 else argBest _ k) 0)=jN _ (if ns[k+1] > ns.getD (argBest _ k) 0 then ns[k+1] else ns.getD (argBest _ k) 0);rw[E]
  by_cases h:ns[k+1] > ns.getD (argBest (λi j=>decide (ns.getD i 0 > ns.getD j 0)) k) 0
  ·rw[ah (by rw[ak];exact h),ah h,E]
  ·rw[ar (by rw[ak];exact h),ar h]
noncomputable def UU (K:Frag)(C:List Int->Prop)(f:List Int->Int):List V->Hp->VK->Prop:=λxs H Q=>∃a ns,xs=[.ref a]/\(qH K H a (ns.map V.int)∨ql K H a (ns.map V.int))/\C ns/\Q (.int (f ns)) H
def Wk (r:Vals (ns.map V.int) its){v:Value}(h:its[i]? =some v):∃t,v=.int (ns.getD i 0) t:=by
 have c:i<its.length:=(bY.mp h).1;have H:i<ns.length:=by have:=r.length;rw[aj]at this;omega
 obtain⟨u,a,b⟩:=r.get (i:=i) (x:=V.int ns[i]) (by simp[H])
 rw[h]at a;cases a;obtain⟨t,rfl⟩:=b;exact⟨t,by rw[ae,aa H];rfl⟩
def Om (n:X.calm=true):jD X (.builtin "max") (UU X.K (λns=>ns≠[]) λns=>jN ns.tail (ns.getD 0 0)):=by
 intro pins s σ H xs us Q I r h;obtain⟨a,ns,rfl,z,f,q⟩:=h;obtain⟨u,rfl,g⟩:=vals1 r;cases g;have M:0<ns.length:=List.length_pos_iff.mpr f;refine call_max_walk (Vw I n z λd C fp wr S s2 c L W st p back=>?_);have e:d.length=ns.length:=by have:=c.length;rw[aj]at this;omega
 refine⟨C,fp,wr,_,_,S,λi j=>decide (ns.getD i 0 > ns.getD j 0),rfl,W,st,p,by omega,?_,λv h' tk l k=>?_⟩
 ·intro i j J D s' Q' E y x o
  obtain⟨t1,rfl⟩:=Wk c y;obtain⟨T,rfl⟩:=Wk c x;exact(PyProof.Rows.gt_int o:wpAny (model X.prog X.w) X.A.in1 (compareOp .Gt (.int (ns.getD i 0) t1) (.int (ns.getD j 0) T)) Q' E s')
 ·obtain⟨t,rfl⟩:=Wk c l
  rw[e];have b:=OI ns (ns.length-1) (by omega)
  rw[show ns.length-1+1=ns.length by omega,drop_length]at b
  have B:ns.getD (argBest (λi j=>decide (ns.getD i 0 > ns.getD j 0)) (ns.length-1)) 0=jN ns.tail (ns.getD 0 0):=b;rw[B];exact⟨.int _,H,back h' tk k,⟨_,rfl⟩,q⟩
def yn:List W->Hx->R W:=λws A=>match intsOf ws with
 |some (i::is)=>.ok (.int (jN is i)) A|_=>.bad
def Ij:∀ws A,qo (yn ws A):=λws A=>by
 unfold yn;split
 ·exact jw
 ·exact qk
def PU {ws:List W}{a:Addr}(z:qH K H a ys∨ql K H a ys)(r:zx K φ H ws ys)(e:intsOf ws=some ns):qH K H a (ns.map V.int)∨ql K H a (ns.map V.int):=by
 rw[KW e]at r;rw[<- zx.ints.mp r];exact z
def Lc:ZP K (UU K (λns=>ns≠[]) λns=>jN ns.tail (ns.getD 0 0)) yn:=λφ A H a ys ws Q S z r p=>by
 unfold yn at p;cases e:intsOf ws with
 |none=>rw[e]at p;exact p.elim|some ns=>cases ns with
  |nil=>rw[e]at p;exact p.elim|cons i is=>rw[e]at p;exact⟨a,i::is,rfl,PU z r e,(by intro z;cases z),p φ H _ .refl S rfl⟩
def Es (y:W):List W->Nat->Nat
 |[],n=>n|w::ws,n=>Es y ws (if W6 w y then n+1 else n)
noncomputable def E8 (lo d:Int)(n:Nat):It:=⟨λi _=>i<n,λi H x h=>h=H/\x=.int (lo+i * d),λi _=>n<=i⟩
def Dl (t:TA):TI:=λσ H R=>t σ H λvs H1=>∃i j:Int,vs=[.int i,.int j,.int (-1)]/\(-(2 ^ 62)<=i/\i<2 ^ 62/\-(2 ^ 62)<=j/\j<2 ^ 62)/\R (E8 i (-1) (i-j).toNat) H1
noncomputable def Ew (h:Int)(n:Nat):jk:=⟨λ_ i=>if i<n then some (some (.int (h-i))) else some none,n⟩
def Dm (m M:Ev):Ei:=λρ A=>(m ρ A).bind λw A1=>(M ρ A1).bind λa A2=>match w,a with
 |.int i,.int j=>if jy i&&jy j then .ok (Ew i (i-j).toNat) A2 else .bad|_,_=>.bad
def Fx (t:TA):TE:=λσ H Q=>t σ H λvs H1=>∃j:Int,vs=[.int j]/\∀p,H1 p=none->Q (.ref p) (upd H1 p (.rng 0 j))
def LV {T:TA}(g:Gl X "range")(hm:X.mg "range"=none)(e:PA X [a] T)(d:starEach [a] X.env=[(false,eval a X.env)]):PE X (.Call (.Name "range" p) [a] [] pos) (Fx T):=by
 intro pins s σ H Q I h;refine Call_ (g9 I g hm boot_range (PyProof.Rows.callWith_type1 (zP (e pos pins s σ H _ I h) λus s1 ⟨vs,H1,i,r,c⟩=>?_) d rfl));obtain⟨j,rfl,q⟩:=c;obtain⟨u,rfl,⟨t,rfl⟩⟩:=r.one;refine call_range_1 ⟨.ref _,_,i.laid (o:=.rng 0 j) (λb o E=>af _ E) (aw _) ?_,rfl,q _ (i.hok.fresh (aw _))⟩;exact⟨_,_,_,ao _ rfl⟩
noncomputable def ZG (n:Nat):List V:=(List.range n).map λ(i:Nat)=>V.int i
def R3 (A:X.calm=true):jD X (.type "list") (λxs H Q=>∃(r:Addr) (j:Int),xs=[.ref r]/\H r=some (.rng 0 j)/\(-(2 ^ 62)<=j/\j<2 ^ 62)/\j.toNat<=sizeLine/\∀l,H l=none->Q (.ref l) (upd H l (.lst (ZG j.toNat)))):=by
 intro pins s σ H xs us Q I r h;obtain⟨p,j,rfl,x,⟨D,B⟩,z,q⟩:=h;obtain⟨u,rfl,g⟩:=vals1 r;cases g;obtain⟨t1,T,t3,y⟩:=I.hok p _ x;have E:sizeLine=16777216:=sizeLine_eq;refine PySem.call_list_range (n:=j.toNat) (I.ok.hd A) (show IsRange s.heap p 0 j 1 t1 T t3 from y) (small_one (by omega) (by omega) D B) (by rw[rangeSize_one];split<;>omega) (by omega) λh' tk acc C kk S ⟨hn,d⟩=>?_
 refine⟨.ref s.heap.objs.size,_,I.laid (t':=tk) (o:=.lst (ZG j.toNat)) kk (aw _) ?_,rfl,q _ (I.hok.fresh (aw _))⟩;refine⟨by unfold ZG;simpa using z,acc.toList,C,?_,by simpa using S⟩
 have a:∀(l:bI)(k:Nat),(∀(i:Nat) v,l[i]? =some v->∃t,v=.int ((k+i:Nat):Int) t)->Vals ((List.range' k l.length).map λ(i:Nat)=>V.int i) l:=by
  intro l
  induction l with
  |nil=>intro k _;exact .nil|cons v l w=>
   intro k e;rw[bp,range'_succ,aV];refine .cons ?_ (w (k+1) λi f a=>?_)
   ·obtain⟨t,rfl⟩:=e 0 v rfl
    exact⟨t,rfl⟩
   ·obtain⟨t,rfl⟩:=e (i+1) f (by simpa using a)
    exact⟨t,by congr 1;omega⟩
 have b:acc.toList.length=j.toNat:=by simpa using hn
 have:=a acc.toList 0 λi v c=>by
  obtain⟨t,rfl⟩:=d i v (by simpa using c)
  exact⟨t,by congr 1;omega⟩
 rw[b]at this;unfold ZG;rw[range_eq_range'];exact this
def QX (m:Ev):Ev:=λρ A=>(m ρ A).bind λw A1=>match w with
 |.int j=>if jy j&&decide (j.toNat<=z8) then .ok (.ref A1.length) (A1++[.lst ((List.range j.toNat).map λ(i:Nat)=>W.int i)]) else .bad|_=>.bad
end
def jd (k:Bool)(h:Heap)(it a:Addr)(i:Nat):Prop:=if k=true then h.IsListIter it a i else h.IsTupleIter it a i
def jJ (k:Bool)(h:Heap)(a:Addr)(items:Array Value):Prop:=if k=true then h.IsList a items else h.IsTuple a items
def yB (k:Bool)(K:Frag)(H:Hp)(a:Addr)(xs:List V):Prop:=if k=true then qH K H a xs else ql K H a xs
noncomputable def ZC (k:Bool):String:=if k then "list_iterator" else "tuple_iterator"
def jd.ob {k:Bool}{it:Addr}(x:jd k h it a i):∃o,h.get? it=some o/\o.cls=.type (ZC k)/\o.data=.fields #[.ref a,.int i 0]:=by
 cases k<;>exact x
def jd.mk {k:Bool}{it:Addr}(x:∃o,h.get? it=some o/\o.cls=.type (ZC k)/\o.data=.fields #[.ref a,.int i 0]):jd k h it a i:=by
 cases k<;>exact x
def jd.to {k:Bool}{h':Heap}{it:Addr}(x:jd k h it a i)(e:∀o,h.get? it=some o->h'.get? it=some o):jd k h' it a i:=let ⟨o,h1,r⟩:=x.ob;.mk ⟨o,e o h1,r⟩
def jJ.ob {k:Bool}{items:Array Value}(x:jJ k h a items):∃o,h.get? a=some o/\o.cls=.type (if k then "list" else "tuple")/\∃n,o.data=.seq items n:=by
 cases k<;>exact x
def jJ.to {k:Bool}{h':Heap}{items:Array Value}(x:jJ k h a items)(e:∀o,h.get? a=some o->h'.get? a=some o):jJ k h' a items:=by
 cases k with
 |false=>exact let ⟨o,h1,r⟩:=x.ob;⟨o,e o h1,r⟩|true=>exact let ⟨o,h1,r⟩:=x.ob;⟨o,e o h1,r⟩
section
variable {prog:Program}{A:Around}{k:Bool}{it:Addr}{items:Array Value}
def VN (h:jJ k s.heap a items)(H:Q (.ref s.heap.objs.size) { s with heap:=s.heap.push { cls:=.type (ZC k),data:=.fields #[.ref a,.int 0 0] } }):wpAny (model prog w) A (pyIter (.ref a)) Q E s:=by
 cases k with
 |true=>exact wpAny_pyIter_list h H|false=>exact wpAny_pyIter_tuple h H
def J7 {x:Value}(hit:jd k s.heap it a i)(l:jJ k s.heap a items)(f:items[i]? =some x)
  (g:∀h',jd k h' it a (i+1)->Heap.SameBut it s.heap h'->Q x { s with heap:=h' }):wpAny (model prog w) A (Builtin.SmallTypes.nextOf (.ref it)) Q E s:=by
 cases k with
 |true=>exact wpAny_nextOf_list_item hit l f g|false=>
  have h:s.heap.IsTupleIter it a i:=hit;obtain⟨o,b,e,H⟩:=id h;obtain⟨j,c,_,na,d⟩:s.heap.IsTuple a items:=l;unfold Builtin.SmallTypes.nextOf;refine bV (wpAny_callSpecial?_slot (name:=Str.ofString "__next__") h.typeIs F.slot_tuple_iterator_next (wpAny_call_entry F.slot_tuple_iterator_next h.typeIs F.entry_tuple_iterator_next ?_ (F.args_tuple_iterator_next_1 _)));show wpAny _ _ (field (.ref it) 0 >>= _) _ _ s;refine bV (wpAny_field b H (x:=.ref a) rfl ?_);show wpAny _ _ (if (Value.ref a==Value.none)=true then _ else _) _ _ s;rw[ar (show ¬((Value.ref a==Value.none)=true) from ay)]
  show wpAny _ _ (field (.ref it) 1 >>= _) _ _ s;refine bV (wpAny_field b H (x:=.int i 0) rfl ?_);show wpAny _ _ (seqItems? (.ref a) >>= _) _ _ s;refine bV (wpAny_seqItems c d ?_);simp only[aL,f];refine bV (wpAny_setField b H (by simp) (bW ⟨x,rfl,bW (g _ (.mk ?_) (Heap.SameBut.update ..))⟩))
  exact⟨_,aW _ b (Obj.isFreed_of_fields (Obj.data_mapFields H _)),(Obj.cls_mapFields ..).trans e,by rw[Obj.data_mapFields H];simp[rawInt]⟩
def WI (d:A.handled=none)(hit:jd k s.heap it a i)(l:jJ k s.heap a items)(g:items[i]? =none)
  (j:∀h' e,Heap.ExtBut it s.heap h'->(∃o,h'.get? e=some o/\o.cls=.type "StopIteration")->E (.ref e) { s with heap:=h' }):wpAny (model prog w) A (Builtin.SmallTypes.nextOf (.ref it)) Q E s:=by
 cases k with
 |true=>exact wpAny_nextOf_list_end d hit l g j|false=>
  have h:s.heap.IsTupleIter it a i:=hit;obtain⟨p,H,n,b⟩:=id h;obtain⟨q,c,_,na,f⟩:s.heap.IsTuple a items:=l;unfold Builtin.SmallTypes.nextOf;refine bV (wpAny_callSpecial?_slot (name:=Str.ofString "__next__") h.typeIs F.slot_tuple_iterator_next (wpAny_call_entry F.slot_tuple_iterator_next h.typeIs F.entry_tuple_iterator_next ?_ (F.args_tuple_iterator_next_1 _)));show wpAny _ _ (field (.ref it) 0 >>= _) _ _ s;refine bV (wpAny_field H b (x:=.ref a) rfl ?_);show wpAny _ _ (if (Value.ref a==Value.none)=true then _ else _) _ _ s;rw[ar (show ¬((Value.ref a==Value.none)=true) from ay)]
  show wpAny _ _ (field (.ref it) 1 >>= _) _ _ s;refine bV (wpAny_field H b (x:=.int i 0) rfl ?_);show wpAny _ _ (seqItems? (.ref a) >>= _) _ _ s;refine bV (wpAny_seqItems c f ?_);simp only[aL,g];refine bV (wpAny_rule (bV (wpAny_setField H b (by simp) ?_)))
  show wpAny _ _ (newExc (.type "StopIteration") [] >>= _) _ _ _;refine bV ?_;simp only[newExc,newTuple];refine bV (wpAny_newObj_type ?_ (by size_fits))
  refine bV (m:=firstArgMember _ _) (wpAny_of_eq (a:=Value.none) (by first|rfl|(simp only[firstArgMember];rfl)) ?_);refine wpAny_newObj_type ?_ (by size_fits)
  simp only[raiseNew];refine bV (wpAny_handled ?_)
  first|rw[show A.in1.handled=none from d]|rw[d]
  refine bV (bW (wpAny_throw ?_));exact j _ _ (((Heap.SameBut.update ..).extBut.push _).push _) ⟨_,ao _ rfl,rfl⟩
def Vz (j:A.handled=none)(c:a≠it):Draws prog w A it [it,a] items.size (λi v=>items[i]? =some v) (λi h=>jd k h it a i/\jJ k h a items) where
 live:=λ_ _ st=>let ⟨o,g,_⟩:=st.1.ob;⟨o,g⟩
 frame:=λ_ _ _ st d=>⟨st.1.to λo e=>d it (by simp) o e,st.2.to λo e=>d a (by simp) o e⟩
 item:=λi s Q E f st l=>J7 st.1 st.2 (x:=items[i]) (by simp[f]) λh' b H=>l _ h' s.toks (by simp[f]) ⟨b,st.2.to λo e=>H.extBut a o c e⟩ H
 done:=λs Q E st n=>WI j st.1 st.2 (by simp) n
end
section
variable {h':Heap}
def _root_.L2.Inv.spun {T:Addr}{o:HO}(I:Inv X pins σ H s)(k:∀b u,b∉fp->s.heap.get? b=some u->h'.get? b=some u)(hf:∀b∈fp,yR X pins H b)(hT:s.heap.objs.size<=T)
  (new:qQ X.prog X.w (upd H T o) h' T o):Inv X pins σ (upd H T o) { s with heap:=h',toks:=t' }:=by
 have hn:H T=none:=I.hok.fresh hT;have lt:∀b u,s.heap.get? b=some u->b≠T:=λb u e=>aI (aA (aB e) hT);have N:∀b u,H b=some u->b∉fp:=λb u e z=>by rw[(hf b z).1]at e;cases e
 refine I.step (g':=s.gens) (d':=s.drawn) (ch:=fp) (λb a=>let ⟨_,f1,_,g,f4,f⟩:=hf b a;⟨g,f1,f4,f⟩) (λb o _ _ h e _=>k b o h e) (λb o _ _ h e _=>⟨o.slots,k b o h e⟩)
  (λb o _ e n=>by rw[z7 (lt b o e)];exact n) (λb o h e=>⟨o,k b o h e⟩) (λb xs e=>by rw[z7 (yK e hn)];exact e) (λb u xs e=>by rw[z7 (yK e hn)];exact e)
  (λb ps e=>⟨#[],by rw[z7 (yK e hn),e];simp⟩) (λm hm=>?_) (λb u e=>?_) I.bare
 ·obtain⟨o,E,p,d,r⟩:=hm
  exact⟨o,E,p,k _ o (λz=>(hf _ z).2.1 rfl) d,r⟩
 ·by_cases a:b=T
  ·subst a;rw[ju]at e;cases e;exact new
  ·rw[z7 a]at e
   refine(I.hok b u e).stay (λc v h q=>k c v ?_ q) (λc q=>by rw[z7 (yK q hn)];exact q) λc xs q=>by rw[z7 (yK q hn)];exact q
   rcases h with z|z
   ·rw[z];exact N b u e
   ·exact N c _ z
def _root_.L2.Inv.spun0 (I:Inv X pins σ H s)(k:∀b u,b∉fp->s.heap.get? b=some u->h'.get? b=some u)(hf:∀b∈fp,yR X pins H b):Inv X pins σ H { s with heap:=h',toks:=t' }:=by
 have N:∀b u,H b=some u->b∉fp:=λb u e z=>by rw[(hf b z).1]at e;cases e
 refine I.step (g':=s.gens) (d':=s.drawn) (ch:=fp) (λb d=>let ⟨_,f1,_,g,f4,f⟩:=hf b d;⟨g,f1,f4,f⟩) (λb o _ _ h e _=>k b o h e) (λb o _ _ h e _=>⟨o.slots,k b o h e⟩)
  (λb o _ e n=>n) (λb o h e=>⟨o,k b o h e⟩) (λb xs e=>e) (λb u xs e=>e) (λb ps e=>⟨#[],by rw[e];simp⟩) (λm hm=>?_) (λb u e=>?_) I.bare
 ·obtain⟨o,E,p,a,r⟩:=hm
  exact⟨o,E,p,k _ o (λz=>(hf _ z).2.1 rfl) a,r⟩
 ·refine(I.hok b u e).stay (λc v h q=>k c v ?_ q) (λc q=>q) λc xs q=>q
  rcases h with z|z
  ·rw[z];exact N b u e
  ·exact N c _ z
def _root_.L2.Inv.sq {k:Bool}(I:Inv X pins σ H s)(h:yB k X.K H a xs):∃i:bI,Vals xs i/\jJ k s.heap a i.toArray/\xs.length<=sizeLine:=by
 cases k with
 |true=>obtain⟨i,r,p,z⟩:=I.list h;exact⟨i,r,p.isList,z⟩|false=>obtain⟨i,r,p,z⟩:=I.tuple h;exact⟨i,r,(show s.heap.IsTuple a i.toArray from p),z⟩
def _root_.L2.Inv.sq_inj {k:Bool}(I:Inv X pins σ H s)(h:yB k X.K H a xs)(h':yB k X.K H a ys):xs=ys:=by
 cases k with
 |true=>exact I.list_inj h h'|false=>exact I.tuple_inj h h'
end
def Gs (k:Bool)(K:Frag)(a:Addr):It:=
 ⟨λi H=>∃xs x,yB k K H a xs/\xs[i]? =some x,λi H x h=>∃p y,(∀xs,yB k K H a xs->xs[i]? =some y)/\H p=none/\x=.ref p/\h=upd H p (.tup [.int i,y]),λi H=>∃xs,yB k K H a xs/\xs.length=i⟩
def PK {K:Frag}(k:Bool)(a n it:Addr):Turn P w K (.Tuple elts kk tpos) (Gs k K a) [n,it] n (λi h=>(∃old,IsEnum h n it i old)/\jd k h it a i/\n≠it) where
 mem:=by simp
 obj:=λi h st b f=>by
  obtain⟨⟨old,he⟩,g,_⟩:=st;rcases bX.mp f with rfl|f
  ·exact⟨_,he,λv z=>nomatch z⟩
  ·rw[cb.mp f]
   obtain⟨o,S,_,hd⟩:=g.ob;exact⟨o,S,λv z=>by rw[hd]at z;cases z⟩
 keep:=λi h h' ⟨⟨old,he⟩,g,ne⟩ kp=>⟨⟨old,kp n (by simp) _ he⟩,g.to λo r=>kp it (by simp) o r,ne⟩
 item:=by
  intro X hP hw hK hc i pins s σ H E I hf st U;subst hP hw hK;obtain⟨⟨old,he⟩,g,ne⟩:=st;obtain⟨xs,x,D,C⟩:=U;obtain⟨d,J,t,hz⟩:=I.sq D;obtain⟨u,hu,ru⟩:=J.get C;have T:i<d.toArray.size:=by simpa using (bY.mp hu).1
  obtain⟨oa,j,hca,na,e⟩:=t.ob;have A:a≠it:=λz=>by
   obtain⟨oi,c,Z,p⟩:=g.ob;rw[<- z,j]at c;cases c;rw[p]at e;cases e
  have ane:n≠a:=λz=>by
   have B:s.heap.get? a=_:=z ▸ he;rw[j]at B;cases B;cases e
  refine wpAny_pyNext_enum_itemD (Vz (k:=k) (items:=d.toArray) (I.ok.hd hc) A) he ⟨g,t⟩ T ne (by simp[ne,ane]) λy h1 tk M S Q hT hsz hk=>?_
  have ey:y=u:=by
   have:d[i]? =some y:=by simpa using M
   rw[hu]at this;exact(az this).symm
  subst ey;refine⟨_,rfl,wpAny_letOwnedTupleGo_enum S λh2 Y l=>?_⟩;have L:n<s.heap.objs.size:=aB he;have hT2:h2.get? s.heap.objs.size=some { cls:=.type "tuple",data:=.seq #[.int i tk,y] }:=l.extBut _ _ (bq L) hT;refine⟨.ref s.heap.objs.size,upd H s.heap.objs.size (.tup [.int i,x]),?_,rfl,⟨s.heap.objs.size,x,λys M=>by rw[I.sq_inj M D];exact C,I.hok.fresh (aw _),rfl,rfl⟩,⟨⟨_,by simpa using Y⟩,?_,ne⟩,λb f=>?_⟩
  ·refine I.spun (fp:=[n,it]) (t':=tk+1) (λb o f r=>?_) hf (aw _) ?_
   ·exact l.extBut _ _ (λz=>f (by simp[z])) (hk b o (λz=>f (by simp[z])) (λz=>f (by simp[z])) r)
   ·exact⟨by show 2<=sizeLine;decide,[.int i tk,y],.cons ⟨tk,rfl⟩ (.cons ru .nil),_,hT2,⟨rfl,rfl⟩,0,rfl⟩
  ·exact Q.1.to λo r=>l.extBut _ _ (λz=>ne z.symm) r
  ·have bn:b≠s.heap.objs.size:=λz=>by
    rcases bX.mp f with q|q
    ·exact absurd L (by rw[<- q,z];exact aT _)
    ·obtain⟨oi,c,_⟩:=g.ob
     exact absurd (aB c) (by rw[<- cb.mp q,z];exact aT _)
   show upd H s.heap.objs.size _ b=none;rw[z7 bn];exact(hf b f).1
 done:=by
  intro X hP hw hK hc i pins s σ H E I hf st U;subst hP hw hK;obtain⟨⟨old,he⟩,g,ne⟩:=st;obtain⟨xs,D,C⟩:=U;obtain⟨d,J,t,hz⟩:=I.sq D;have en':d.toArray.size=i:=by rw[aD,<- J.length];exact C
  obtain⟨oa,j,hca,na,e⟩:=t.ob;have A:a≠it:=λz=>by
   obtain⟨oi,c,Z,p⟩:=g.ob;rw[<- z,j]at c;cases c;rw[p]at e;cases e
  refine wpAny_pyNext_enum_endD (Vz (k:=k) (items:=d.toArray) (I.ok.hd hc) A) he ⟨by rw[en'];exact g,t⟩ λh1 N=>⟨rfl,?_⟩
  exact I.spun0 (fp:=[n,it]) (t':=s.toks) (λb o f r=>N b o (λz=>f (by simp[z])) r) hf
 self:=λ_ _ _ _ _ ⟨⟨_,he⟩,_⟩ h=>wpAny_pyIter_enum he h
open AutoSeq1 (wpAny_loadPart')
abbrev YD (h:Heap)(k:Bool)(a:Addr):Heap:=h.push { cls:=.type (ZC k),data:=.fields #[.ref a,.int 0 0] }
abbrev Th (h:Heap)(k:Bool)(a:Addr):Heap:=(YD h k a).push { cls:=.type "enumerate",data:=.fields #[.none,.bool false,.ref h.objs.size,rawInt 0,.none,.none] }
def RZ (a:Addr)(items:Array Value)(n:Nat)(dd:bT)(S:Array (Option Value)):
  Meets (Builtin.«enumerate.__new__» ⟨[.type "enumerate",.ref a],[]⟩) (λ_ R s=>s.heap.get? a=some { cls:=.type "tuple",dict:=dd,data:=.seq items n,slots:=S }/\R (.ok (.ret (.ref (YD s.heap false a).objs.size))) { s with heap:=Th s.heap false a }):=
 .of_wp λprog w A R s h=>by
  obtain⟨p,g,d,tk,os⟩:=s;obtain⟨H,h⟩:=h;have b:=sub_enumerate;have hT:Heap.IsTuple (Shared.heap ⟨p,g,d,tk,os⟩) a items:=⟨_,H,rfl,n,rfl⟩
  wp_walk using wpAny_loadPart' H
  refine wpAny_stack_any λst=>bW ?_;split
  ·rename_i c _ _ _ _ _
   cases (c==Value.type "enumerate")<;>(wp_walk using wpAny_loadPart' H,wpAny_pyIter_tuple hT;exact⟨_,rfl,h⟩)
  ·wp_walk using wpAny_loadPart' H,wpAny_pyIter_tuple hT
   exact⟨_,rfl,h⟩
section
variable {prog:Program}{A:Around}
def PV {k:Bool}{items:Array Value}(l:jJ k s.heap a items)
  (h:∀h',IsEnum h' (s.heap.objs.size+1) s.heap.objs.size 0 .none->jd k h' s.heap.objs.size a 0->(∀b o,s.heap.get? b=some o->h'.get? b=some o)->Q (.ref (s.heap.objs.size+1)) { s with heap:=h' }):
  wpAny (model prog w) A (call (.type "enumerate") [.ref a]) Q E s:=by
 cases k with
 |true=>exact call_enumerate_list l λh' g f _ e=>h h' g f e|false=>
  obtain⟨⟨c,dd,D,S⟩,d,H,n,hd⟩:=(show s.heap.IsTuple a items from l)
  replace H:c=.type "tuple":=H
  replace hd:D=.seq items n:=hd
  subst H hd;refine callType_new F.called_enumerate (by decide) (F.typeCall_enumerate_1 _) (F.newCall_enumerate_1 _) (λobj=>F.args_object_init_2 obj _) F.entry_enumerate_new (RZ a items n dd S) ⟨d,?_⟩
  have z:(YD s.heap false a).objs.size=s.heap.objs.size+1:=a5 ..;have he:IsEnum (Th s.heap false a) (YD s.heap false a).objs.size s.heap.objs.size 0 .none:=ao _ rfl;show _/\_;rw[z]at he ⊢;exact⟨⟨_,he,rfl⟩,h _ he (.mk ⟨_,af _ (ao _ rfl),rfl,rfl⟩) λb o x=>af _ (af _ x)⟩
end
section
variable {a b:Expr}{m:Ev}
def Fi (K:Frag)(t:TA):TI:=λσ H R=>t σ H λvs H1=>∃p k xs,vs=[.ref p]/\yB k K H1 p xs/\R (Gs k K p) H1
def boot_enumerate:bootBuiltins "enumerate"=some (.type "enumerate"):=by rfl
def boot_zip:bootBuiltins "zip"=some (.type "zip"):=by rfl
def Ll {t:TA}(l:Gl X "enumerate")(hm:X.mg "enumerate"=none)(o:PA X [a] t)(g:starEach [a] X.env=[(false,eval a X.env)]):
  PI X (.Tuple elts kk tpos) (.Call (.Name "enumerate" p) [a] [] pos) (Fi X.K t):=by
 intro pins s σ H R I h;refine Call_ (g9 I l hm boot_enumerate (PyProof.Rows.callWith_type1 (zP (o pos pins s σ H _ I h) λus s1 ⟨vs,H1,i,d,Q⟩=>?_) g rfl));obtain⟨p,k,xs,rfl,j,q⟩:=Q;obtain⟨u,rfl,r⟩:=d.one;cases r;obtain⟨f,w,sq,x⟩:=i.sq j;refine PV sq λh' e v E=>wpAny_pyIter_enum e ?_;refine⟨s1.heap.objs.size+1,[s1.heap.objs.size+1,s1.heap.objs.size],_,_,H1,rfl,i.kept (t':=s1.toks) E,PK k p _ _,⟨⟨_,by simpa using e⟩,v,Nat.succ_ne_self _⟩,λb n=>?_,q⟩
 have c:s1.heap.objs.size<=b:=by
  rcases bX.mp n with z|z
  ·rw[z];exact le_succ _
  ·rw[cb.mp z];exact aw _
 exact i.fpOk c (i.hok.fresh c)
noncomputable def atEnd (ws:List W)(i:Nat)(f:W->W):Option (Option W):=match ws[i]? with
 |some x=>some (some (f x))|none=>if ws.length=i then some none else none
def w6 (w:W)(n:Nat):jk:=⟨λA i=>match zV w A with
 |some ws=>atEnd ws i λx=>.tup [.int i,x]|none=>none,n⟩
noncomputable def Zb (w:W):Bool:=match w with
 |.tup _=>false|_=>true
def JQ {K:Frag}{A:Hx}{w:W}{ws:List W}(S:zB K φ A H)(q:RV K φ H w v)(e:zV w A=some ws):∃p ys,v=.ref p/\yB (Zb w) K H p ys/\zx K φ H ws ys:=by
 cases w with
 |tup us=>cases e;obtain⟨a,vs,E,t,r⟩:=q;exact⟨a,vs,E,t,r⟩|ref n=>
  obtain⟨a,E,f⟩:=q;unfold zV at e;dsimp only at e;cases c:A[n]? with
  |none=>rw[c]at e;cases e|some o=>
   rw[c]at e;obtain⟨g,d,r⟩:=S.ob n o c;rw[f]at d;cases d;cases o with
   |lst xs=>cases e;obtain⟨y,b,h⟩:=r;exact⟨a,y,E,qH.of b,h⟩|ro xs=>cases e;obtain⟨y,b,h⟩:=r;exact⟨a,y,E,b.sq,h⟩|dct xs=>cases e|td _=>cases e|tab _ _=>cases e
 |non=>cases e|bl _=>cases e|clo _ _ _=>cases e|xc _=>cases e|int _=>cases e|str _=>cases e
def KJ {K:Frag}{a:bJ}{A:Hx}{h:Hp}{w:W}{b:List W}{p:Addr}(q:RV K φ H w (.ref p))(lw:gJ K φ H a h)(S:zB K a A h)(E:zV w A=some b):∃y,yB (Zb w) K h p y/\zx K a h b y:=by
 obtain⟨P,ys,e,d,c⟩:=JQ S (RV.monoW lw q) E;cases e;exact⟨ys,d,c⟩
def FF {K:Frag}{w:W}{p:Addr}(q:RV K φ H w (.ref p)):Zj K φ H (w6 w n) (Gs (Zb w) K p):=λi c l k lw S=>by
 unfold w6;dsimp only;cases es:zV w k with
 |none=>exact⟨λ_ z=>(by cases z),λz=>(by cases z)⟩|some ws=>
  dsimp only;obtain⟨ys,a,b⟩:=KJ q lw S es;unfold atEnd;cases E:ws[i]? with
  |none=>
   dsimp only
   by_cases h:ws.length=i
   ·rw[ah h]
    exact⟨λ_ z=>(by cases z),λ_=>⟨ys,a,by rw[<- b.length];exact h⟩⟩
   ·rw[ar h]
    exact⟨λ_ z=>(by cases z),λz=>(by cases z)⟩
  |some x=>
   dsimp only;refine⟨λu z=>?_,λz=>(by cases z)⟩
   cases z;obtain⟨y,e,j⟩:=b.get E;refine⟨⟨ys,y,a,e⟩,λX H1 ⟨t,Y,d,f,ex,g⟩=>?_⟩;subst ex g
   have:=d ys a
   rw[e]at this;cases this;obtain⟨a1,a2,A⟩:=Q2 S f (.cons (w:=.int i) (v:=.int i) rfl (.one j));exact⟨a1,a2,A⟩
def Qi (m:Ev):Ei:=λρ A=>(m ρ A).bind λw A1=>match zV w A1 with
 |some ws=>.ok (w6 w ws.length) A1|none=>.bad
end
section
variable {prog:Program}{A:Around}{z TI TO i1 i2 l1 l2:Addr}{n1 n2:Nat}{c1 c2:Bool}{xs ys:Array Value}{x y a b:Value}
def LY (D:ZipApart z TI TO i1 i2 l1 l2)(H:IsZip s.heap z TI TO .none)(I:IsPair s.heap TI (.ref i1) (.ref i2))(u:IsPair s.heap TO a b)
  (g1:jd c1 s.heap i1 l1 n1)(g2:jd c2 s.heap i2 l2 n2)(s1:jJ c1 s.heap l1 xs)(s2:jJ c2 s.heap l2 ys)(X:xs[n1]? =some x)(U:ys[n2]? =some y)
  (hQ:∀h',IsZip h' z TI TO (rawInt s.heap.objs.size)->IsPair h' TI (.ref i1) (.ref i2)->IsPair h' TO x y->jd c1 h' i1 l1 (n1+1)->jd c2 h' i2 l2 (n2+1)->IsPair h' s.heap.objs.size x y->
   (∀c o,c≠z->c≠TO->c≠i1->c≠i2->s.heap.get? c=some o->h'.get? c=some o)->Q (.ref s.heap.objs.size) { s with heap:=h' }):
  wpAny (model prog w) A (Builtin.«zip.__next__» ⟨[.ref z],[]⟩) (λfin s'=>∃v,fin=.done (.ret v)/\Q v s') E s:=by
 show wpAny _ _ (field (.ref z) 2 >>= _) _ _ _;refine bV (wpAny_field H rfl (x:=.bool false) rfl ?_);show wpAny _ _ (field (.ref z) 3 >>= _) _ _ _;refine bV (wpAny_field H rfl (x:=.ref TI) rfl (bV (wpAny_seqItems I rfl ?_)));show wpAny _ _ (Builtin.SmallTypes.ownedTupleIsFree (.ref z) >>= _) _ _ _;refine bV ?_;unfold Builtin.SmallTypes.ownedTupleIsFree;refine bV (wpAny_field H rfl (x:=.none) rfl (bW ?_));simp only[if_true];refine bV (wpAny_rule (bV (wpAny_field H rfl (x:=.ref TO) rfl ?_)));refine bV (wpAny_setField_rec H (by simp) λha p sa=>?_);replace p:IsZip ha z TI TO .ellipsis:=p
 refine bV ?_;simp only[List.zipIdx_cons,List.zipIdx_nil,forIn_cons,forIn_nil];refine bV (bV (wpAny_onRaise ?_));show wpAny _ _ (Builtin.SmallTypes.nextOf (.ref i1) >>= _) _ _ _;refine bV (J7 (g1.to λo e=>sa.extBut _ _ D.i1z e) (s1.to λo e=>sa.extBut _ _ D.l1z e) X λhb gb j=>bW ?_);have J:IsPair hb TO a b:=j.extBut _ _ D.TOi1 (sa.extBut _ _ D.TOz u);refine bV (wpAny_seqItems J rfl (bV (wpAny_updateSeq_pair J λN T sc=>bV (wpAny_letGo (bW ?_)))));replace T:IsPair N TO x b:=T;refine bV (bV (wpAny_onRaise ?_));show wpAny _ _ (Builtin.SmallTypes.nextOf (.ref i2) >>= _) _ _ _;have up:∀c o,c≠z->c≠i1->c≠TO->s.heap.get? c=some o->N.get? c=some o:=λc o f d h e=>sc.extBut _ _ h (j.extBut _ _ d (sa.extBut _ _ f e));refine bV (J7 (g2.to λo e=>up _ o D.i2z D.i12.symm D.TOi2.symm e) (s2.to λo e=>up _ o D.l2z D.l2i1 D.l2TO e) U λhd gd g=>bW ?_);have td:IsPair hd TO x b:=g.extBut _ _ D.TOi2 T;refine bV (wpAny_seqItems td rfl (bV (wpAny_updateSeq_pair td λhe t S=>bV (wpAny_letGo (bW (bW ?_))))));replace t:IsPair he TO x y:=t;refine bV (wpAny_seqItems t rfl (bV (wpAny_newTuple ?_)));have i:he.objs.size=s.heap.objs.size:=by rw[S.1,g.1,sc.1,j.1,sa.1]
 have C:IsZip he z TI TO .ellipsis:=S.extBut _ _ D.TOz.symm (g.extBut _ _ D.i2z.symm (sc.extBut _ _ D.TOz.symm (j.extBut _ _ D.i1z.symm p)));have M:∀c o,c≠z->c≠TO->c≠i1->c≠i2->s.heap.get? c=some o->he.get? c=some o:=λc o f d h r e=>S.extBut _ _ d (g.extBut _ _ r (up c o f h d e));have ge1:jd c1 he i1 l1 (n1+1):=((gb.to λo e=>sc.extBut _ _ D.TOi1.symm e).to λo e=>g.extBut _ _ D.i12 e).to λo e=>S.extBut _ _ D.TOi1.symm e;have B:jd c2 he i2 l2 (n2+1):=gd.to λo e=>S.extBut _ _ D.TOi2.symm e;have Z:z<he.objs.size:=aB C;show wpAny _ _ (Builtin.SmallTypes.ownedTupleHandOut (.ref z) (.ref he.objs.size) >>= _) _ _ _;refine bV ?_;unfold Builtin.SmallTypes.ownedTupleHandOut;have P:IsZip (he.push { cls:=.type "tuple",data:=.seq #[x,y] }) z TI TO .ellipsis:=af _ C;refine bV (wpAny_setField_rec P (by simp) λY n L=>?_);replace n:IsZip Y z TI TO (rawInt he.objs.size):=n
 refine wpAny_setField_rec n (by simp) λl k K=>?_;replace k:IsZip l z TI TO (rawInt he.objs.size):=k
 have fin:∀c o,c≠z->he.get? c=some o->l.get? c=some o:=λc o q e=>K.extBut _ _ q (L.extBut _ _ q (af _ e));have tk:IsPair l he.objs.size x y:=K.extBut _ _ (bq Z) (L.extBut _ _ (bq Z) (ao _ rfl));rw[i]at k tk;refine bW ⟨_,rfl,?_⟩;show Q (.ref he.objs.size) _;rw[i];exact hQ l k (fin _ _ D.TIz (M _ _ D.TIz D.TITO D.TIi1 D.TIi2 I)) (fin _ _ D.TOz t) (ge1.to λo e=>fin _ o D.i1z e) (B.to λo e=>fin _ o D.i2z e) tk λc o f d h r e=>fin c o f (M c o f d h r e)
def IB {Q:Fin->Shared->Prop}(J:A.handled=none)(D:ZipApart z TI TO i1 i2 l1 l2)(i:IsZip s.heap z TI TO .none)(I:IsPair s.heap TI (.ref i1) (.ref i2))(u:IsPair s.heap TO a b)
  (g1:jd c1 s.heap i1 l1 n1)(g2:jd c2 s.heap i2 l2 n2)(s1:jJ c1 s.heap l1 xs)(s2:jJ c2 s.heap l2 ys)(j:xs[n1]? =none∨ys[n2]? =none)
  (K:∀h' e,(∀c o,c≠z->c≠TO->c≠i1->c≠i2->s.heap.get? c=some o->h'.get? c=some o)->(∃o,h'.get? e=some o/\o.cls=.type "StopIteration")->E (.ref e) { s with heap:=h' }):
  wpAny (model prog w) A (Builtin.«zip.__next__» ⟨[.ref z],[]⟩) Q E s:=by
 show wpAny _ _ (field (.ref z) 2 >>= _) _ _ _;refine bV (wpAny_field i rfl (x:=.bool false) rfl ?_);show wpAny _ _ (field (.ref z) 3 >>= _) _ _ _;refine bV (wpAny_field i rfl (x:=.ref TI) rfl (bV (wpAny_seqItems I rfl ?_)));show wpAny _ _ (Builtin.SmallTypes.ownedTupleIsFree (.ref z) >>= _) _ _ _;refine bV ?_;unfold Builtin.SmallTypes.ownedTupleIsFree;refine bV (wpAny_field i rfl (x:=.none) rfl (bW ?_));simp only[if_true];refine bV (wpAny_rule (bV (wpAny_field i rfl (x:=.ref TO) rfl ?_)));refine bV (wpAny_setField_rec i (by simp) λt Z sa=>?_);replace Z:IsZip t z TI TO .ellipsis:=Z
 refine bV ?_;simp only[List.zipIdx_cons,List.zipIdx_nil,forIn_cons,forIn_nil];refine bV (bV (wpAny_onRaise ?_));show wpAny _ _ (Builtin.SmallTypes.nextOf (.ref i1) >>= _) _ _ _;have ga:=g1.to (h':=t) λo e=>sa.extBut _ _ D.i1z e;have Y:=s1.to (h':=t) λo e=>sa.extBut _ _ D.l1z e;cases n:xs[n1]? with
 |none=>
  refine bV (WI J ga Y n λr e S he=>?_);obtain⟨l,h,H⟩:=he;have y:IsZip r z TI TO .ellipsis:=S _ _ D.i1z.symm Z;have f:e≠z:=λq=>by subst q;rw[y]at h;cases h;simp at H
  exact wpAny_setField_rec y (by simp) λp _ sc=>K p e (λc o d _ g _ q=>sc.extBut _ _ d (S _ _ g (sa.extBut _ _ d q))) ⟨l,sc.extBut _ _ f h,H⟩
 |some x=>
  have M:ys[n2]? =none:=by
   rcases j with q|q
   ·rw[n]at q;cases q
   ·exact q
  refine bV (J7 ga Y n λr P S=>bW ?_);have T:IsPair r TO a b:=S.extBut _ _ D.TOi1 (sa.extBut _ _ D.TOz u);refine bV (wpAny_seqItems T rfl (bV (wpAny_updateSeq_pair T λp N sc=>bV (wpAny_letGo (bW ?_)))));refine bV (bV (wpAny_onRaise ?_));show wpAny _ _ (Builtin.SmallTypes.nextOf (.ref i2) >>= _) _ _ _;have up:∀c o,c≠z->c≠i1->c≠TO->s.heap.get? c=some o->p.get? c=some o:=λc o d k g e=>sc.extBut _ _ g (S.extBut _ _ k (sa.extBut _ _ d e));refine bV (WI J (g2.to λo e=>up _ o D.i2z D.i12.symm D.TOi2.symm e) (s2.to λo e=>up _ o D.l2z D.l2i1 D.l2TO e) M λhd e C he=>?_);obtain⟨l,h,H⟩:=he;have v:IsZip hd z TI TO .ellipsis:=C _ _ D.i2z.symm (sc.extBut _ _ D.TOz.symm (S.extBut _ _ D.i1z.symm Z));have f:e≠z:=λq=>by subst q;rw[v]at h;cases h;simp at H
  exact wpAny_setField_rec v (by simp) λhf _ B=>K hf e (λc o d k g L q=>B.extBut _ _ d (C _ _ L (up c o d g k q))) ⟨l,B.extBut _ _ f h,H⟩
def LG {Q:Option Value->Shared->Prop}(D:ZipApart z TI TO i1 i2 l1 l2)(d:IsZip s.heap z TI TO .none)(H:IsPair s.heap TI (.ref i1) (.ref i2))(h:IsPair s.heap TO a b)
  (g1:jd c1 s.heap i1 l1 n1)(g2:jd c2 s.heap i2 l2 n2)(s1:jJ c1 s.heap l1 xs)(s2:jJ c2 s.heap l2 ys)(n:xs[n1]? =some x)(l:ys[n2]? =some y)
  (p:∀h',IsZip h' z TI TO (rawInt s.heap.objs.size)->IsPair h' TI (.ref i1) (.ref i2)->IsPair h' TO x y->jd c1 h' i1 l1 (n1+1)->jd c2 h' i2 l2 (n2+1)->IsPair h' s.heap.objs.size x y->
   (∀c o,c≠z->c≠TO->c≠i1->c≠i2->s.heap.get? c=some o->h'.get? c=some o)->Q (some (.ref s.heap.objs.size)) { s with heap:=h' }):wpAny (model prog w) A (pyNext (.ref z)) Q E s:=by
 have hT:s.TypeIs (.ref z) "zip":=⟨_,d,rfl⟩;unfold pyNext;exact bV (wpAny_attempt (wpAny_callSpecial?_slot (name:=Str.ofString "__next__") hT F.slot_zip_next (wpAny_call_entry F.slot_zip_next hT F.entry_zip_next
  (LY D d H h g1 g2 s1 s2 n l λh' k j i g f e q=>bW (p h' k j i g f e q)) (F.args_zip_next_1 _))))
def LF {Q:Option Value->Shared->Prop}(g:A.handled=none)(D:ZipApart z TI TO i1 i2 l1 l2)(d:IsZip s.heap z TI TO .none)(I:IsPair s.heap TI (.ref i1) (.ref i2))(H:IsPair s.heap TO a b)
  (g1:jd c1 s.heap i1 l1 n1)(g2:jd c2 s.heap i2 l2 n2)(s1:jJ c1 s.heap l1 xs)(s2:jJ c2 s.heap l2 ys)(h:xs[n1]? =none∨ys[n2]? =none)
  (j:∀h',(∀c o,c≠z->c≠TO->c≠i1->c≠i2->s.heap.get? c=some o->h'.get? c=some o)->Q none { s with heap:=h' }):wpAny (model prog w) A (pyNext (.ref z)) Q E s:=by
 have hT:s.TypeIs (.ref z) "zip":=⟨_,d,rfl⟩;unfold pyNext;refine bV (wpAny_attempt (wpAny_callSpecial?_slot (name:=Str.ofString "__next__") hT F.slot_zip_next (wpAny_call_entry F.slot_zip_next hT F.entry_zip_next (IB g D d I H g1 g2 s1 s2 h λh' e k he=>?_) (F.args_zip_next_1 _))));obtain⟨o,f,i⟩:=he;exact bV (wpAny_isInstance (T := "StopIteration") (b:=true) ⟨o,f,i⟩ isSubtype_stop (bW (j _ k)))
end
abbrev YI (h:Heap)(c:Bool)(l:Addr):Heap:=h.push { cls:=.type (ZC c),data:=.fields #[.ref l,.int 0 0] }
abbrev YF (h:Heap)(C c:Bool)(L l:Addr):Heap:=(YI h C L).push { cls:=.type (ZC c),data:=.fields #[.ref l,.int 0 0] }
abbrev YG (h:Heap)(c C:Bool)(l L:Addr):Heap:=(YF h c C l L).push { cls:=.type "tuple",data:=.seq #[.ref h.objs.size,.ref (YI h c l).objs.size] }
abbrev YM (h:Heap)(C c:Bool)(L l:Addr):Heap:=(YG h C c L l).push { cls:=.type "tuple",data:=.seq #[.none,.none] }
abbrev Qr (h:Heap)(C c:Bool)(L l:Addr):Heap:=(YM h C c L l).push { cls:=.type "zip",data:=.fields #[.none,.bool false,.bool false,.ref (YF h C c L l).objs.size,.ref (YG h C c L l).objs.size] }
def Oh (c C:Bool)(l L:Addr)(xs ys:Array Value):
  Meets (Builtin.«zip.__new__» ⟨[.type "zip",.ref l,.ref L],[]⟩) (λ_ R s=>jJ c s.heap l xs/\jJ C s.heap L ys/\R (.ok (.ret (.ref (YM s.heap c C l L).objs.size))) { s with heap:=Qr s.heap c C l L }):=
 .of_wp λprog w A R s h=>by
  obtain⟨p,g,d,tk,os⟩:=s;obtain⟨Q,q,h⟩:=h;have H:=sub_zip;have k1:jJ c (Shared.heap ⟨p,g,d,tk,os⟩) l xs:=Q;have k2:jJ C (Shared.heap ⟨p.push { cls:=.type (ZC c),data:=.fields #[.ref l,.int 0 0] },g,d,tk,os⟩) L ys:=q.to λo e=>af _ e
  wp_walk using VN k1,VN k2
  exact⟨_,rfl,h⟩
section
variable {prog:Program}{A:Around}{c1 c2:Bool}{l1 l2:Addr}{xs ys:Array Value}
def NO (s1:jJ c1 s.heap l1 xs)(s2:jJ c2 s.heap l2 ys)
  (h:∀h' n,n=s.heap.objs.size->IsZip h' (n+4) (n+2) (n+3) .none->IsPair h' (n+2) (.ref n) (.ref (n+1))->IsPair h' (n+3) .none .none->jd c1 h' n l1 0->jd c2 h' (n+1) l2 0->
   (∀c o,s.heap.get? c=some o->h'.get? c=some o)->Q (.ref (n+4)) { s with heap:=h' }):wpAny (model prog w) A (call (.type "zip") [.ref l1,.ref l2]) Q E s:=by
 refine callType_new F.called_zip (by decide) (F.typeCall_zip_2 _ _) (F.newCall_zip_2 _ _) (λobj=>F.args_object_init_3 obj _ _) F.entry_zip_new (Oh c1 c2 l1 l2 xs ys) ⟨s1,s2,?_⟩
 have a:(YI s.heap c1 l1).objs.size=s.heap.objs.size+1:=a5 ..;have Z:(YF s.heap c1 c2 l1 l2).objs.size=s.heap.objs.size+2:=by rw[a5,a]
 have z:(YG s.heap c1 c2 l1 l2).objs.size=s.heap.objs.size+3:=by rw[a5,Z]
 have b:(YM s.heap c1 c2 l1 l2).objs.size=s.heap.objs.size+4:=by rw[a5,z]
 have y:(Qr s.heap c1 c2 l1 l2).get? (YM s.heap c1 c2 l1 l2).objs.size=some _:=ao _ rfl;have Y:(Qr s.heap c1 c2 l1 l2).get? (YG s.heap c1 c2 l1 l2).objs.size=some _:=af _ (ao _ rfl);have d:(Qr s.heap c1 c2 l1 l2).get? (YF s.heap c1 c2 l1 l2).objs.size=some _:=af _ (af _ (ao _ rfl));have e:(Qr s.heap c1 c2 l1 l2).get? (YI s.heap c1 l1).objs.size=some _:=af _ (af _ (af _ (ao _ rfl)));have f:(Qr s.heap c1 c2 l1 l2).get? s.heap.objs.size=some _:=af _ (af _ (af _ (af _ (ao _ rfl))));show _/\_;rw[Z,z,b]at y;rw[a,Z]at d;rw[z]at Y;rw[a]at e;rw[b];exact⟨⟨_,y,rfl⟩,h _ _ rfl y d Y (.mk ⟨_,f,rfl,rfl⟩) (.mk ⟨_,e,rfl,rfl⟩) λc o q=>
  af _ (af _ (af _ (af _ (af _ q))))⟩
end
def Gp (C c:Bool)(K:Frag)(p q:Addr):It:=
 ⟨λi H=>∃xs ys x y,yB C K H p xs/\yB c K H q ys/\xs[i]? =some x/\ys[i]? =some y,
  λi H v h=>∃t x y,(∀xs,yB C K H p xs->xs[i]? =some x)/\(∀ys,yB c K H q ys->ys[i]? =some y)/\H t=none/\v=.ref t/\h=upd H t (.tup [x,y]),
  λi H=>∃xs ys,yB C K H p xs/\yB c K H q ys/\(xs[i]? =none∨ys[i]? =none)⟩
def NM {K:Frag}(c1 c2:Bool)(p q z TI T t r:Addr)(D:ZipApart z TI T t r p q):
  Turn P w K (.Tuple elts kk tpos) (Gp c1 c2 K p q) [z,TI,T,t,r] z (λi h=>IsZip h z TI T .none/\IsPair h TI (.ref t) (.ref r)/\(∃a b,IsPair h T a b)/\jd c1 h t p i/\jd c2 h r q i) where
 mem:=by simp
 obj:=λi h st b d=>by
  obtain⟨j,g,⟨U,Q,f⟩,g1,g2⟩:=st;simp only[mem_cons,not_mem_nil,or_false]at d;rcases d with rfl|rfl|rfl|rfl|rfl
  ·exact⟨_,j,λv e=>nomatch e⟩
  ·exact⟨_,g,λv e=>nomatch e⟩
  ·exact⟨_,f,λv e=>nomatch e⟩
  ·obtain⟨o,B,_,hd⟩:=g1.ob;exact⟨o,B,λv e=>by rw[hd]at e;cases e⟩
  ·obtain⟨o,B,_,hd⟩:=g2.ob;exact⟨o,B,λv e=>by rw[hd]at e;cases e⟩
 keep:=λi h h' ⟨j,g,⟨U,Q,f⟩,g1,g2⟩ k=>⟨k z (by simp) _ j,k TI (by simp) _ g,⟨U,Q,k T (by simp) _ f⟩,g1.to λo e=>k t (by simp) o e,g2.to λo e=>k r (by simp) o e⟩
 item:=by
  intro X hP hw hK hc i pins s σ H E I hf st hg;subst hP hw hK;obtain⟨j,g,⟨U,Q,f⟩,g1,g2⟩:=st;obtain⟨xs,ys,x,y,N,M,ex,ey⟩:=hg;obtain⟨n,r1,u,_⟩:=I.sq N;obtain⟨l,r2,S,_⟩:=I.sq M;obtain⟨Z,eu1,ru1⟩:=r1.get ex;obtain⟨Y,eu2,ru2⟩:=r2.get ey;refine LG D j g f g1 g2 u S (x:=Z) (y:=Y) (by simpa using eu1) (by simpa using eu2) λhh z1 z2 z3 z4 z5 z6 kp=>?_
  refine⟨_,rfl,wpAny_letOwnedTupleGo_zip z1 λhk zk J=>?_⟩;have lt:∀{c o},s.heap.get? c=some o->c≠s.heap.objs.size:=λe=>aI (aB e);have T2:IsPair hk s.heap.objs.size Z Y:=J.extBut _ _ (lt j).symm z6;have fre:∀b∈[z,TI,T,t,r],b≠s.heap.objs.size:=λb d=>by
   simp only[mem_cons,not_mem_nil,or_false]at d;rcases d with rfl|rfl|rfl|rfl|rfl
   ·exact lt j
   ·exact lt g
   ·exact lt f
   ·obtain⟨o,B,_⟩:=g1.ob;exact lt B
   ·obtain⟨o,B,_⟩:=g2.ob;exact lt B
  refine⟨.ref s.heap.objs.size,upd H s.heap.objs.size (.tup [x,y]),?_,rfl,⟨s.heap.objs.size,x,y,λzs A=>by rw[I.sq_inj A N];exact ex,λzs A=>by rw[I.sq_inj A M];exact ey,I.hok.fresh (aw _),rfl,rfl⟩,
   ⟨zk,J.extBut _ _ D.TIz z2,⟨_,_,J.extBut _ _ D.TOz z3⟩,z4.to λo e=>J.extBut _ _ D.i1z e,z5.to λo e=>J.extBut _ _ D.i2z e⟩,λb d=>?_⟩
  ·refine I.spun (fp:=[z,TI,T,t,r]) (t':=s.toks) (λb o d eo=>?_) hf (aw _) ?_
   ·exact J.extBut _ _ (λe=>d (by simp[e])) (kp b o (λe=>d (by simp[e])) (λe=>d (by simp[e])) (λe=>d (by simp[e])) (λe=>d (by simp[e])) eo)
   ·exact⟨by show 2<=sizeLine;decide,[Z,Y],.cons ru1 (.cons ru2 .nil),_,T2,⟨rfl,rfl⟩,0,rfl⟩
  ·show upd H s.heap.objs.size _ b=none
   rw[z7 (fre b d)];exact(hf b d).1
 done:=by
  intro X hP hw hK hc i pins s σ H E I hf st hg;subst hP hw hK;obtain⟨j,g,⟨U,Q,f⟩,g1,g2⟩:=st;obtain⟨xs,ys,N,M,L⟩:=hg;obtain⟨n,r1,u,_⟩:=I.sq N;obtain⟨l,r2,S,_⟩:=I.sq M;have C:n.toArray[i]? =none∨l.toArray[i]? =none:=by
   rcases L with e|e
   ·exact .inl (by simpa using r1.none_of e)
   ·exact .inr (by simpa using r2.none_of e)
  exact LF (I.ok.hd hc) D j g f g1 g2 u S C λhh kp=>⟨rfl,I.spun0 (fp:=[z,TI,T,t,r]) (t':=s.toks) (λb o d eo=>kp b o (λe=>d (by simp[e])) (λe=>d (by simp[e])) (λe=>d (by simp[e])) (λe=>d (by simp[e])) eo) hf⟩
 self:=λ_ _ _ _ _ st h=>wpAny_pyIter_zip st.1 h
section
variable {a b:Expr}{m:Ev}
def EG (K:Frag)(t:TA):TI:=λσ H R=>t σ H λvs H1=>∃p q C c xs ys,vs=[.ref p,.ref q]/\yB C K H1 p xs/\yB c K H1 q ys/\R (Gp C c K p q) H1
def HR {T:TA}(P:Gl X "zip")(hm:X.mg "zip"=none)(U:PA X [a,b] T)(M:starEach [a,b] X.env=(false,eval a X.env)::starEach [b] X.env)(N:(backTo pos (starEach [b] X.env)).any (·.1)=false):
  PI X (.Tuple elts kk tpos) (.Call (.Name "zip" p) [a,b] [] pos) (EG X.K T):=by
 intro pins s σ H R I h;refine Call_ (g9 I P hm boot_zip (PyProof.Rows.callWith_type1 (zP (U pos pins s σ H _ I h) λus s1 ⟨vs,H1,g,J,Q⟩=>?_) M N));obtain⟨p,q,c1,c2,xs,ys,rfl,h1,h2,Y⟩:=Q;obtain⟨u1,u2,rfl,k,r⟩:=J.two;cases k;cases r;obtain⟨v,C,d,_⟩:=g.sq h1;obtain⟨u,B,S,_⟩:=g.sq h2;obtain⟨op,t,_⟩:=d.ob;obtain⟨oq,o,_⟩:=S.ob;have L:p<s1.heap.objs.size:=aB t;have l:q<s1.heap.objs.size:=aB o;refine NO d S λh' n E z A y x Z kp=>wpAny_pyIter_zip z ?_;rw[<- E]at L l;have ne1:∀(i j:Nat),i≠j->n+i≠n+j:=λi j h e=>h (Nat.add_left_cancel e);have ne2:∀(c:Nat)(i:Nat),c<n->c≠n+i:=λc i h e=>absurd h (by rw[e];exact Nat.not_lt.mpr (le_add_right n i))
 have D:ZipApart (n+4) (n+2) (n+3) (n+0) (n+1) p q:=⟨ne1 2 4 (by decide),ne1 3 4 (by decide),ne1 0 4 (by decide),ne1 1 4 (by decide),ne1 2 3 (by decide),ne1 2 0 (by decide),ne1 2 1 (by decide),ne1 3 0 (by decide),ne1 3 1 (by decide),ne1 0 1 (by decide),
  ne2 p 4 L,ne2 p 3 L,ne2 p 0 L,ne2 p 1 L,ne2 q 4 l,ne2 q 3 l,ne2 q 0 l,ne2 q 1 l⟩
 refine⟨n+4,[n+4,n+2,n+3,n,n+1],_,_,H1,rfl,g.kept (t':=s1.toks) kp,NM c1 c2 p q _ _ _ _ _ D,⟨z,A,⟨_,_,y⟩,x,Z⟩,λc w=>?_,Y⟩;have f:s1.heap.objs.size<=c:=by
  rw[<- E];simp only[mem_cons,not_mem_nil,or_false]at w;rcases w with rfl|rfl|rfl|rfl|rfl
  ·exact le_add_right _ _
  ·exact le_add_right _ _
  ·exact le_add_right _ _
  ·exact aw _
  ·exact le_add_right _ _
 exact g.fpOk f (g.hok.fresh f)
noncomputable def zip2:Option W->Option W->Option W
 |some x,some y=>some (.tup [x,y])|_,_=>none
def YQ (w a:W)(n:Nat):jk:=⟨λA i=>match zV w A,zV a A with
 |some us,some vs=>some (zip2 us[i]? vs[i]?)|_,_=>none,n⟩
def FT {K:Frag}{w a:W}{p P:Addr}(q:RV K φ H w (.ref p))(Q:RV K φ H a (.ref P)):Zj K φ H (YQ w a n) (Gp (Zb w) (Zb a) K p P):=λi c D A lw S=>by
 unfold YQ;dsimp only;cases es:zV w A with
 |none=>exact⟨λ_ z=>(by cases z),λz=>(by cases z)⟩|some us=>
  cases es':zV a A with
  |none=>exact⟨λ_ z=>(by cases z),λz=>(by cases z)⟩|some vs=>
   dsimp only;obtain⟨xs,b,f⟩:=KJ q lw S es;obtain⟨ys,h,d⟩:=KJ Q lw S es';have non:∀{us:List W}{xs:List V},zx K c D us xs->us[i]? =none->xs[i]? =none:=λr e=>by
    rw[List.getElem?_eq_none_iff]at e ⊢;rw[<- r.length];exact e
   cases j:us[i]? with
   |none=>exact⟨λ_ z=>(by cases z),λ_=>⟨xs,ys,b,h,.inl (non f j)⟩⟩|some x=>
    cases E:vs[i]? with
    |none=>exact⟨λ_ z=>(by cases z),λ_=>⟨xs,ys,b,h,.inr (non d E)⟩⟩|some y=>
     refine⟨λu z=>?_,λz=>(by cases z)⟩
     cases z;obtain⟨k,f1,f2⟩:=f.get j;obtain⟨v,g,f4⟩:=d.get E;refine⟨⟨xs,ys,k,v,b,h,f1,g⟩,λX H1 ⟨t,I,Y,o,l,s,ex,B⟩=>?_⟩;subst ex B;have g1:=o xs b;have g2:=l ys h;rw[f1]at g1;cases g1;rw[g]at g2;cases g2;obtain⟨a1,a2,C⟩:=Q2 S s (.cons f2 (.one f4));exact⟨a1,a2,C⟩
def Yy (m M:Ev):Ei:=λρ A=>(m ρ A).bind λw A1=>(M ρ A1).bind λa A2=>match zV w A2,zV a A2 with
 |some us,some _=>.ok (YQ w a us.length) A2|_,_=>.bad
end
section
noncomputable def YH:Ev:=λ_ A=>.ok (.ref A.length) (A++[.dct []])
end
mutual
noncomputable def W.beq:W->W->Bool
 |.non,.non=>true|.bl a,.bl b=>a==b|.int a,.int b=>decide (a=b)|.str a,.str b=>decide (a=b)|.tup a,.tup b=>Jn a b|_,_=>false
noncomputable def Jn:List W->List W->Bool
 |[],[]=>true|a::as,b::bs=>a.beq b&&Jn as bs|_,_=>false
end
mutual
theorem W.eq_of:∀{a b:W},a.beq b=true->a=b
 |.non,.non,_=>rfl|.bl a,.bl b,h=>by have h':(a==b)=true:=h;rw[aJ]at h';rw[h']|.int a,.int b,h=>by have h':decide (a=b)=true:=h;rw[ak]at h';rw[h']|.str a,.str b,h=>by have h':decide (a=b)=true:=h;rw[ak]at h';rw[h']|.tup a,.tup b,h=>by have h':Jn a b=true:=h;rw[Uj h']|.non,.bl _,h=>nomatch h|.non,.int _,h=>nomatch h|.non,.str _,h=>nomatch h|.non,.tup _,h=>nomatch h|.non,.ref _,h=>nomatch h
 |.bl _,.non,h=>nomatch h|.bl _,.int _,h=>nomatch h|.bl _,.str _,h=>nomatch h|.bl _,.tup _,h=>nomatch h|.bl _,.ref _,h=>nomatch h
 |.int _,.non,h=>nomatch h|.int _,.bl _,h=>nomatch h|.int _,.str _,h=>nomatch h|.int _,.tup _,h=>nomatch h|.int _,.ref _,h=>nomatch h
 |.str _,.non,h=>nomatch h|.str _,.bl _,h=>nomatch h|.str _,.int _,h=>nomatch h|.str _,.tup _,h=>nomatch h|.str _,.ref _,h=>nomatch h
 |.tup _,.non,h=>nomatch h|.tup _,.bl _,h=>nomatch h|.tup _,.int _,h=>nomatch h|.tup _,.str _,h=>nomatch h|.tup _,.ref _,h=>nomatch h
 |.ref _,.non,h=>nomatch h|.ref _,.bl _,h=>nomatch h|.ref _,.int _,h=>nomatch h|.ref _,.str _,h=>nomatch h|.ref _,.tup _,h=>nomatch h|.ref _,.ref _,h=>nomatch h
theorem Uj:∀{a b:List W},Jn a b=true->a=b
 |[],[],_=>rfl|a::as,b::bs,h=>by
  have h':(a.beq b&&Jn as bs)=true:=h;rw[aq]at h';rw[W.eq_of h'.1,Uj h'.2]
 |[],_::_,h=>nomatch h
 |_::_,[],h=>nomatch h
end
section
variable {K:Frag}
def FD (K:Frag)(x:Str)(st:Stmt):Prop:=∃f fd,kf K x x st f fd/\nsIn K mainGlobals x=some (some (.ref f))
def F4 {st:Stmt}{b:Value}{o an:bT}{kV doc pm C ct:Value}(a:nsIn K mainGlobals x=some (some (.ref f)))
  (l:K.lookup f=some ⟨b,o,.func (fnOf x x (gQ st) (ki st) (qm st) .none kV doc pm an C ct),osl⟩)(c:codeIn K C x=true)(k:keepIn K (.ref f)=true):FD K x st:=⟨f,_,HI l c k,a⟩
def CD (K:Frag)(x:Str)(i:Int):Prop:=∃t,nsIn K mainGlobals x=some (some (.int i t))
def FR {i:Int}{t:Tok}(a:nsIn K mainGlobals x=some (some (.int i t))):CD K x i:=⟨t,a⟩
end
open PySem PySem.Spec PyProof.Rows L2 Mi
@[irreducible] noncomputable def zr (X:Cx)(x:XR)(e:Expr)(m:Ev):Prop:=Mi.SE X x e m
def WD:@zr=@Mi.SE:=by
 funext X xr e m
 unfold zr
 rfl
@[irreducible] noncomputable def kE (X:Cx)(x:XR)(e:bO)(m:Ea):Prop:=Mi.SA X x e m
def UB:@kE=@Mi.SA:=by
 funext X xr es m
 unfold kE
 rfl
@[irreducible] noncomputable def jY (X:Cx)(x:XR)(e:Expr)(m:Ev):Prop:=Mi.ST X x e m
def Uw:@jY=@Mi.ST:=by
 funext X xr e m
 unfold jY
 rfl
@[irreducible] noncomputable def wy (X:Cx)(x:XR)(e:Expr)(m:Ev):Prop:=Mi.SW X x e m
def UG:@wy=@Mi.SW:=by
 funext X xr e m
 unfold wy
 rfl
@[irreducible] noncomputable def yJ (X:Cx)(x:XR)(st:Stmt)(m:Ex):Prop:=Mi.SS X x st m
def UI:@yJ=@Mi.SS:=by
 funext X xr st m
 unfold yJ
 rfl
@[irreducible] noncomputable def yF (X:Cx)(x:XR)(st:bU)(m:Ex):Prop:=Mi.Y7 X x st m
def V9:@yF=@Mi.Y7:=by
 funext X xr st m
 unfold yF
 rfl
@[irreducible] noncomputable def ka (X:Cx)(x:XR)(t e:Expr)(m:Ei):Prop:=Mi.SI X x t e m
def Ui:@ka=@Mi.SI:=by
 funext X xr tg e m
 unfold ka
 rfl
@[irreducible] noncomputable def kT (X:Cx)(t:Expr)(m:Tg):Prop:=Mi.SG X t m
def UE:@kT=@Mi.SG:=by
 funext X tg m
 unfold kT
 rfl
@[irreducible] noncomputable def Zk (X:Cx)(x:XR)(e:Expr)(m:jF):Prop:=Mi.SF X x e m
def Uz:@Zk=@Mi.SF:=by
 funext X xr e m
 unfold Zk
 rfl
@[irreducible] noncomputable def wA (X:Cx)(x:XR)(e:Expr)(m:jF):Prop:=Mi.SQ X x e m
def Uv:@wA=@Mi.SQ:=by
 funext X xr e m
 unfold wA
 rfl
@[irreducible] noncomputable def wZ (X:Cx)(e:bO)(m:Ev):Prop:=Mi.YT X e m
def VI:@wZ=@Mi.YT:=by
 funext X es m
 unfold wZ
 rfl
@[irreducible] noncomputable def wD (X:Cx)(elt:Expr)(gens:List Comprehension)(sc:Scope)(c:Pos)(d:Nat)(em:Em):Prop:=Mi.SM X elt gens sc c d em
def UN:@wD=@Mi.SM:=by
 funext X elt gens sc cpos d em
 unfold wD
 rfl
section
variable {xr:XR}{K:Frag}{a b c:Expr}{es:bO}{m ma mb mc:Ev}{m1 m2:Ex}{st:Stmt}{rest:bU}
def zN:@zr=@Mi.SE/\@kE=@Mi.SA/\@jY=@Mi.ST/\@wy=@Mi.SW/\@yJ=@Mi.SS/\@yF=@Mi.Y7/\@ka=@Mi.SI/\@kT=@Mi.SG/\@Zk=@Mi.SF/\@wA=@Mi.SQ/\@wZ=@Mi.YT/\@wD=@Mi.SM:=⟨WD,UB,Uw,UG,UI,V9,Ui,UE,Uz,Uv,VI,UN⟩
def zi {M:Ea}(d:zr X xr e ma)(r:kE X xr es M)(s:starEach (e::es) X.env=(false,eval e X.env)::starEach es X.env:=by rfl):kE X xr (e::es) (zc ma M):=by
 try simp only[zN]at*
 exact PA.imp (qZ d r s) λσ H Q ⟨φ,A,ρ,S,re,h⟩=>by
   refine tM.go S re (zY.mp h) λw A1 b H1 v g l j c=>?_;refine Y8.go j (re.mono l) (qj (zY.mp g) (λ_ _ z=>z) λ_ _ z=>z.mono l) λn A2 a k v2 f L i q=>?_;exact f a k _ (l.trans L) i (.cons (c.mono L) q)
def zt:kE X xr [] zl:=by
 try simp only[zN]at*
 exact PA.imp jH λσ H Q ⟨φ,A,ρ,S,re,h⟩=>h φ H [] .refl S .nil
def yg (H:zr X xr a ma)(h:zr X xr b mb):zr X xr (.BinOp a .Add b pos) (zh qv ma mb):=by
 try simp only[zN]at*
 exact Zx (H9.or (MV.or (OW.or IW))) Iq LC H h
def QT {q:jF}(H:X.calm=true)(hm:X.mg "all"=none)(a:wA X xr e q)(h:Gl X "all":=by rfl)(he:starEach [e] X.env=(false,eval e X.env)::starEach [] X.env:=by rfl):
  zr X xr (.Call (.Name "all" p) [e] [] pos) (mQ ZJ q):=by
 try simp only[zN]at*
 exact WU (Ma H) Ha LI hm (by rfl) a h (by decide) (by decide) he (by rfl)
def Z9 {rest:bO}(f:zr X xr a ma)(e:zr X xr (.BoolOp .And (b::rest) pos) mb):zr X xr (.BoolOp .And (a::b::rest) pos) (y0 ma mb):=by
 try simp only[zN]at*
 exact PE.imp (Iy f e) λσ H Q ⟨φ,A,ρ,S,re,h⟩=>by
   refine tM.go S re (zY.mp h) λw A1 d H1 v c l s q=>?_;cases w with
   |bl k=>
    refine⟨k,q,?_⟩;cases k with
    |true=>rw[ah rfl];exact⟨d,A1,ρ,s,re.mono l,qj c (λ_ _ z=>z.mono l) λ_ _ z=>z.mono l⟩|false=>rw[ar ay];exact c d H1 _ l s rfl
   |non=>cases c|int _=>cases c|str _=>cases c|tup _=>cases c|ref _=>cases c|clo _ _ _=>cases c|xc _=>cases c
def km {i j}:zr X xr (.Constant (.bool i) j pos) (zH (.bl i)):=by
 try simp only[zN]at*
 exact PE.imp Fj λσ H Q ⟨φ,A,ρ,S,r,h⟩=>h φ H _ .refl S rfl
def wj {g:W->W->Hx->R W}(h:kq X op g)(c:zr X xr a ma)(H:zr X xr b mb)(e:op≠.In:=by decide)(d:op≠.NotIn:=by decide):zr X xr (.Compare a [op] [b] pos) (zh g ma mb):=by
 try simp only[zN]at*
 exact let ⟨r,a1,a2,A⟩:=h.ex;Uk a1 a2 A c H (h.mks b e d)
def Io {o:CmpOp}{g g':W->W->Hx->R W}(h:kq X op g)(h':kq X o g')(e:zr X xr a ma)(d:zr X xr b mb)(H:zr X xr c mc)(hm:lastMarks [op,o] [b,c]=false:=by with_unfolding_all rfl):
  zr X xr (.Compare a [op,o] [b,c] pos) (yM g g' ma mb mc):=by
 try simp only[zN]at*
 exact let ⟨r,a1,a2,A⟩:=h.ex;let ⟨j,i,f,B⟩:=h'.ex;N3 a1 a2 A i f B e d H hm
def qz {f:Fn}{M:Ea}(F:zS X.prog X.w X.K X.mg X.base k x n f)(r:jo k X.A)(s:kE X yb (e::es) M)(g:w8 M n:=by repeat' (first|exact zC|refine zm ?_))(j:Gl X x:=by rfl)
  (c:(x==("__debug__":Str))=false:=by decide)(he:starEach (e::es) X.env=(false,eval e X.env)::starEach es X.env:=by rfl)(l:(backTo pos (starEach es X.env)).any (·.1)=false:=by rfl):
  zr X yb (.Call (.Name x p) (e::es) [] pos) (zK f M):=by
 try simp only[zN]at*
 obtain⟨B,fd,ps,F,hm,i,o⟩:=F;refine PE.imp (VV F r j hm i o .nil FG s c he l) λσ H Q ⟨φ,A,ρ,S,re,h⟩=>?_;have h':=zY.mp h;refine⟨φ,A,ρ,S,re,?_⟩;cases E:M ρ A with
 |ok ws A1=>
  rw[E]at h';intro b H1 vs L u q;have v:vs.length=n:=by rw[<- q.length];exact g ρ A ws A1 E
  rw[bo];exact⟨v,b,A1,ws,u,q,qj h' (λ_ _ z=>z.mono L) λx A2 z a y d t=>(z a y (L.trans d) t).elim⟩
 |exc x A1=>rw[E]at h';exact h'|bad=>rw[E]at h';exact h'
def Im {g:W->W->Hx->R W}(h:Ga X op g)(c:zr X xr a ma)(H:zr X xr b mb)(hm:behindInMarks op b=false:=by rfl):zr X xr (.Compare a [op] [b] pos) (zh g ma mb):=by
 try simp only[zN]at*
 exact let ⟨r,a1,a2,A⟩:=h.ex;Uk a1 a2 A c H hm
def LN:zr X xr (.Dict [] [] pos) YH:=by
 try simp only[zN]at*
 exact PE.imp Nk λσ H Q ⟨φ,A,ρ,S,re,h⟩ p a=>by
  obtain⟨l,s⟩:=S.alloc (o:=.dct []) a (u:=.dK []) ⟨[],ju,rfl,.nil⟩;exact h _ _ _ l s ⟨p,rfl,by rw[<- S.len];simp⟩
def ND {i:Int}{t:Tok}(g:Gl X x)(hm:X.mg x=some (.int i t))(hd:(x==("__debug__":Str))=false:=by decide):zr X xr (.Name x pos) (zH (.int i)):=by
 try simp only[zN]at*
 exact PE.imp (VX g hm (v:=.int i) ⟨t,rfl⟩ hd) λσ H Q ⟨φ,A,ρ,S,r,h⟩=>h φ H _ .refl S rfl
def UK {c:Expr}(f:jY X xr c mc)(i:zr X xr a ma)(g:zr X xr b mb):zr X xr (.IfExp c a b pos) (Jt mc ma mb):=by
 try simp only[zN]at*
 exact PE.imp (NR f i g) λσ H Q ⟨φ,A,ρ,S,re,h⟩=>by
   refine tT.go S re (zY.mp h) λw A1 d=>?_;cases w with
   |bl k=>
    refine⟨k,rfl,λe H1 l s=>?_⟩;cases k with
    |true=>rw[ah rfl];exact⟨e,A1,ρ,s,re.mono l,qj d (λ_ _ z=>z.mono l) λ_ _ z=>z.mono l⟩|false=>rw[ar ay];exact⟨e,A1,ρ,s,re.mono l,qj d (λ_ _ z=>z.mono l) λ_ _ z=>z.mono l⟩
   |non=>cases d|int _=>cases d|str _=>cases d|tup _=>cases d|ref _=>cases d|clo _ _ _=>cases d|xc _=>cases d
def zo {i j}:zr X xr (.Constant (.int i) j pos) (zH (.int i)):=by
 try simp only[zN]at*
 exact PE.imp Hv λσ H Q ⟨φ,A,ρ,S,r,h⟩=>h φ H _ .refl S rfl
def we (t:Ty){P:Pos}(hm:X.mg "isinstance"=none)(c:X.mg x=none)(f:bootBuiltins x=some (.type t.nm))(i:zr X xr e m)(g:Gl X "isinstance":=by rfl)(d:Gl X x:=by rfl)
  (hn:x ≠ "__name__":=by decide)(hd:(x==("__debug__":Str))=false:=by decide)
  (a:starEach [e,.Name x P] X.env=(false,eval e X.env)::starEach [.Name x P] X.env:=by rfl)(j:(backTo pos (starEach [.Name x P] X.env)).any (·.1)=false:=by rfl):
  zr X xr (.Call (.Name "isinstance" p) [e,.Name x P] [] pos) (yv t m):=by
 try simp only[zN]at*
 exact PE.imp (gO Mq g hm (by rfl) (qZ i (qZ (Yc d c f (v:=.ty t.nm) rfl hn hd) jH) a) (by decide) (by decide) a j) λσ H Q ⟨φ,A,ρ,S,re,h⟩=>by
   refine tM.go S re (zY.mp h) λw A1 b H1 v a l s q=>?_;cases E:ye w A1 with
   |none=>rw[E]at a;exact a.elim|some t'=>
    rw[E]at a;exact⟨v,t',t,rfl,VB s q E,a b H1 _ l s rfl⟩
def qM (c:zr X xr a ma)(H:zr X xr b mb)(h:V0 b:=by intro _ _;rfl):zr X xr (.Subscript a b pos) (zh zG ma mb):=by
 try simp only[zN]at*
 exact PE.imp (FW Hd c H h) (zh.read FV Hj)
def wb {q:jF}(hm:X.mg "len"=none)(H:wA X xr e q)(h:Gl X "len":=by rfl)(he:starEach [e] X.env=(false,eval e X.env)::starEach [] X.env:=by rfl):
  zr X xr (.Call (.Name "len" p) [e] [] pos) (mQ qR q):=by
 try simp only[zN]at*
 exact WU Rj (λ_ _=>jw) Ln hm (by rfl) H h (by decide) (by decide) he (by rfl)
def jP {q:jF}(h:Zk X xr e q):zr X xr e (qg q):=by
 try simp only[zN]at*
 exact PE.imp h qg.read
def R4 {P pos':Pos}(t:X.calm=true)(hm:X.mg "list"=none)(f:X.mg "range"=none)(u:zr X xr a ma)(o:Gl X "list":=by rfl)(g:Gl X "range":=by rfl)(s:starEach [a] X.env=[(false,eval a X.env)]:=by rfl)
  (d:starEach [.Call (.Name "range" P) [a] [] pos'] X.env=(false,eval (.Call (.Name "range" P) [a] [] pos') X.env)::starEach [] X.env:=by rfl):
  zr X xr (.Call (.Name "list" p) [.Call (.Name "range" P) [a] [] pos'] [] pos) (QX ma):=by
 try simp only[zN]at*
 exact PE.imp (Z4 (R3 t) o hm (by rfl) (qZ (LV g f (qZ u jH (by rw[s];rfl)) s) jH d) (by decide) (by decide) d (by rfl)) λσ H Q ⟨φ,A,ρ,S,re,h⟩=>by
   refine tM.go S re (zY.mp h) λw A1 b H1 v c L z q=>?_;cases w with
   |int j=>
    obtain rfl:=q;dsimp only at c
    by_cases e:(jy j&&decide (j.toNat<=z8))=true
    ·rw[ah e]at c
     rw[aq,ak]at e;refine⟨j,rfl,λp k=>⟨p,j,rfl,ju,Z1 e.1,gn e.2,λl n=>?_⟩⟩;have ln:Le X.K b H1 b (upd H1 p (.rng 0 j)):=Le.new k;have r:zx X.K b (upd H1 p (.rng 0 j)) ((List.range j.toNat).map λ(i:Nat)=>W.int i) (ZG j.toNat):=by
      have:=(zx.ints (K:=X.K) (φ:=b) (H:=upd H1 p (.rng 0 j)) (ns:=(List.range j.toNat).map λ(i:Nat)=>(i:Int)) (vs:=ZG j.toNat)).mpr (by unfold ZG;simp)
      rw[aP]at this;exact this
     obtain⟨y,x,B⟩:=gU (z.lay k) n r;exact c _ _ _ ((L.trans ln).trans y) x B
    ·rw[ar e]at c;exact c.elim
   |_=>exact c.elim
def jg {M:Ea}(h:kE X xr es M)(H:w8 M n)(hn:n<=z8:=by decide):zr X xr (.List es pos) (qc M):=by
 try simp only[zN]at*
 exact HW h λρ A ws a e=>by rw[H ρ A ws a e];exact gn hn
def Wb {q:jF}(H:X.calm=true)(hm:X.mg "max"=none)(a:wA X xr e q)(h:Gl X "max":=by rfl)(he:starEach [e] X.env=(false,eval e X.env)::starEach [] X.env:=by rfl):
  zr X xr (.Call (.Name "max" p) [e] [] pos) (mQ yn q):=by
 try simp only[zN]at*
 exact WU (Om H) Ij Lc hm (by rfl) a h (by decide) (by decide) he (by rfl)
def We (e:X.calm=true)(hm:X.mg "min"=none)(n:zr X xr a ma)(k:zr X xr b mb)(l:Gl X "min":=by rfl)(r:starEach [a,b] X.env=(false,eval a X.env)::starEach [b] X.env:=by rfl)(o:starEach [b] X.env=(false,eval b X.env)::starEach [] X.env:=by rfl)(h:(backTo pos (starEach [b] X.env)).any (·.1)=false:=by rfl):
  zr X xr (.Call (.Name "min" p) [a,b] [] pos) (zh Zc ma mb):=by
 try simp only[zN]at*
 exact W2 (OC e) Zf (λφ A H x y u v Q S d c p=>by
   obtain⟨i,j,s,E,q⟩:=gY (K:=X.K) (f:=λi j=>.int (if j<i then j else i)) (g:=λi j=>.int (if j<i then j else i)) (λ_ _ _ _=>rfl) φ A H x y u v Q S d c p;subst s;subst E;exact⟨i,j,rfl,q⟩) hm (by rfl) n k l (by decide) (by decide) r o h
def gR (H:zr X xr a ma)(h:zr X xr b mb):zr X xr (.BinOp a .Mod b pos) (zh yP ma mb):=by
 try simp only[zN]at*
 exact Zx IP WN (WB MO λ_ _ _ _=>rfl) H h
def kJ (H:zr X xr a ma)(h:zr X xr b mb):zr X xr (.BinOp a .Mult b pos) (zh ja ma mb):=by
 try simp only[zN]at*
 exact Zx (Il.or Hc) HM MN H h
def Wi (h:zr X xr a ma):zr X xr (.UnaryOp .USub a pos) (jf ZI ma):=by
 try simp only[zN]at*
 exact FZ Hk (λx A=>by unfold ZI;split;exact jw;exact qk) (λφ A H x u Q S q p=>by
  cases u with
  |int i=>obtain rfl:=q;exact⟨i,rfl,p φ H _ .refl S rfl⟩|_=>exact p.elim) h
def J4 {j}:zr X xr (.Constant .none j pos) (zH .non):=by
 try simp only[zN]at*
 exact PE.imp IZ λσ H Q ⟨φ,A,ρ,S,r,h⟩=>h φ H _ .refl S rfl
def LD (d:zr X xr a ma):zr X xr (.UnaryOp .Not a pos) (yu ma):=by
 try simp only[zN]at*
 exact PE.imp (HQ d) λσ H Q ⟨φ,A,ρ,S,re,h⟩=>by
   refine tM.go S re (zY.mp h) λw A1 c H1 v b l s q=>?_;cases w with
   |bl k=>exact⟨k,q,b c H1 _ l s rfl⟩|non=>cases b|int _=>cases b|str _=>cases b|tup _=>cases b|ref _=>cases b|clo _ _ _=>cases b|xc _=>cases b
def QR {op}(h:zr X xr a ma):zr X xr (.BoolOp op [a] pos) ma:=by
 try simp only[zN]at*
 exact Hu h
def gw (H:zr X xr a ma)(h:zr X xr b mb):zr X xr (.BinOp a .Sub b pos) (zh yt ma mb):=by
 try simp only[zN]at*
 exact Zx Iw Zf (gY λ_ _ _ _=>rfl) H h
def qb {x1}{M:Ea}(h:kE X xr es M)(d:w8 M n)(hn:n<=z8:=by decide):zr X xr (.Tuple es x1 pos) (zA M):=by
 try simp only[zN]at*
 exact PE.imp (UA h) λσ H Q ⟨φ,A,ρ,S,re,h⟩=>by
   have h':=zY.mp h;cases e:M ρ A with
   |ok ws a=>
    rw[e]at h';refine⟨φ,A,ρ,S,re,?_⟩;rw[e];intro b H1 vs l s q;refine⟨by rw[<- q.length,d ρ A ws a e];exact gn hn,λp c=>?_⟩
    obtain⟨a1,a2,f⟩:=Q2 s c q;exact h' _ _ _ (l.trans a1) a2 f
   |exc x a=>rw[e]at h';refine⟨φ,A,ρ,S,re,?_⟩;rw[e];exact h'|bad=>rw[e]at h';exact h'.elim
def Z2 {q:jF}(hm:X.mg "tuple"=none)(H:wA X xr e q)(h:Gl X "tuple":=by rfl)(he:starEach [e] X.env=(false,eval e X.env)::starEach [] X.env:=by rfl):
  zr X xr (.Call (.Name "tuple" p) [e] [] pos) (mQ yS q):=by
 try simp only[zN]at*
 exact FJ SY (λ_ _=>jw) LQ hm (by rfl) H h (by decide) (by decide) he (by rfl)
def zj (i:Nat)(b:X.N[i]? =some x:=by rfl)(a:YU X.env.scope x:=by first|exact Or.inl rfl|exact Or.inr (Or.inl rfl)|exact Or.inr (Or.inr rfl))(hd:(x==("__debug__":Str))=false:=by decide)
  (d:(x==("__classdict__":Str))=false:=by decide):zr X xr (.Name x pos) (qh i):=by
 try simp only[zN]at*
 exact PE.imp (IF b a hd d) λσ H Q ⟨φ,A,ρ,S,r,h⟩=>by
  unfold qh at h;cases e:ρ[i]? with
  |none=>rw[e]at h;cases h|some o=>cases o with
   |none=>rw[e]at h;cases h|some w=>
    rw[e]at h;obtain⟨v,f,c⟩:=r.get i w e;exact⟨v,f,h φ H v .refl S c⟩
def O8 {iter:Expr}{mi:Ei}{tw:Tg}{M:Ev}{em:Em}(nl:Nat)(cap:bL)(c:X.calm=true)(S:wL X sc)(p:Ze X.N N sc nl cap=true)(hw:ka X xr tg iter mi)
  (n:∀s H fp,kT (jA X N sc s H fp j9) tg tw/\wZ (jA X N sc s H fp j9) ifs M/\wD (jA X N sc s H fp j9) elt (⟨tg,iter,ifs,0⟩::gs) sc pos 0 em)
  (b:∀g',gs[0]? =some g'->g'.is_async=0:=by intro _ h;cases h<;>rfl)
  (a:∀x,foldedSetIterable iter X.env x=pure x:=by intro _;rfl):Zk X xr (.ListComp elt (⟨tg,iter,ifs,0⟩::gs) sc pos) (zQ nl cap mi tw M em):=by
 try simp only[zN]at*
 exact PE.imp (LZ (g:=tG X.K tw) (ti:=tT X.K yb M) (tm:=tE X.K em) c S p b hw n a) zQ.read
def JV (i j:Nat){y:Str}{q:Pos}(o:X.calm=true)(h:X.N.Nodup)(l:X.N[i]? =some x:=by rfl)(f:Loc X.env.scope x:=by first|exact Or.inl rfl|exact Or.inr rfl)(hf:X.fn x=true∨X.env.scope.names.lookup x=some .local:=by first|exact .inl rfl|exact .inr rfl)
  (g:X.N[j]? =some y:=by rfl)(d:Loc X.env.scope y:=by first|exact Or.inl rfl|exact Or.inr rfl)(n:X.fn y=true∨X.env.scope.names.lookup y=some .local:=by first|exact .inl rfl|exact .inr rfl):kT X (.Tuple [.Name x p,.Name y q] k pos) (kL i j):=by
 try simp only[zN]at*
 exact PG.imp (Ib o (VG (Wr h l f hf) (VG (Wr h g d n) LB))) λv σ H Q ⟨φ,A,ρ,w,b,S,re,c,e,kk⟩=>by
   unfold kL at e
   split at e
   ·rename_i u Y
    have E:=az e;subst E;obtain⟨a,vs,rfl,s,rs⟩:=c;obtain⟨v1,B,rfl,t,v2,z,rfl,r,rfl⟩:=rs;exact⟨a,[v1,v2],rfl,s,rfl,v1,[v2],rfl,v2,[],rfl,rfl,kk _ ((re.set t).set r)⟩
   ·cases e
def qA (i:Nat)(c:X.N.Nodup)(b:X.N[i]? =some x:=by rfl)(h:Loc X.env.scope x:=by first|exact Or.inl rfl|exact Or.inr rfl)(hf:X.fn x=true∨X.env.scope.names.lookup x=some .local:=by first|exact .inl rfl|exact .inr rfl):kT X (.Name x pos) (zI i):=by
 try simp only[zN]at*
 exact PG.imp (Wr c b h hf) λv σ H Q ⟨φ,A,ρ,w,a,S,re,q,e,k⟩=>by
   have E:ρ.set i (some w)=a:=az e;subst E;exact k _ (re.set q)
def j6 (h:zr X xr e m):ka X xr tg e (qt m):=by
 try simp only[zN]at*
 exact PI.imp (Hw h) λσ H Rr ⟨φ,A,ρ,S,re,h⟩=>by
  refine tM.go S re (zY.mp h) λw A1 g H1 v d P N Q=>?_;unfold Yz at d;cases e:zV w A1 with
  |none=>rw[e]at d;exact d.elim|some ws=>
   rw[e]at d;dsimp only at d;cases w with
   |tup us=>
    obtain⟨a,ys,rfl,j,q⟩:=Q;refine⟨a,rfl,.inr ⟨⟨ys,j⟩,d g H1 _ P N λi c k f lw s=>⟨λB b=>?_,λb=>?_⟩⟩⟩
    ·have E:us[i]? =some B:=az b
     obtain⟨y,l,D⟩:=(q.monoW lw).get E;refine⟨⟨ys,y,lw.tp _ _ j,l⟩,λx Z u=>?_⟩;obtain⟨M,L⟩:=u;subst M;have p:=L ys (lw.tp _ _ j);rw[l]at p;cases p;exact⟨.refl,s,D⟩
    ·have E:us[i]? =none:=az b
     refine⟨ys,lw.tp _ _ j,?_⟩;rw[<- q.length];exact List.getElem?_eq_none_iff.mp E
   |ref n=>
    obtain⟨a,rfl,j⟩:=Q;have read:∀{c k f us},gJ X.K g H1 c k->zB X.K c f k->zV (.ref n) f=some us->∃ys,qH X.K k a ys/\zx X.K c k us ys:=λ {c k f us} lw s es=>by
     obtain⟨U,ys,T,z,r⟩:=JO (w:=.ref n) (v:=.ref a) s ⟨a,rfl,lw.ex _ _ j⟩ es;cases T;unfold zV at es;dsimp only at es;cases J:f[n]? with
     |none=>rw[J]at es;cases es|some o=>
      rw[J]at es;obtain⟨U,q,r⟩:=s.ob n o J;rw[lw.ex _ _ j]at q;cases q;cases o with
      |lst xs=>cases es;obtain⟨ys,d,I⟩:=r;exact⟨ys,qH.of d,I⟩|ro xs=>cases es;obtain⟨ys,d,I⟩:=r;exact⟨ys,d.sq,I⟩|dct xs=>cases es|td _=>cases es|tab _ _=>cases es
    obtain⟨Y,C,_⟩:=read ⟨λ_ _ h=>h,λ_ _ h=>h,λ_ _ _ h=>h⟩ N e;refine⟨a,rfl,.inl ⟨⟨Y,C⟩,d g H1 _ P N λi c k f lw s=>⟨λB b=>?_,λb=>?_⟩⟩⟩
    ·dsimp only at b
     cases es:zV (.ref n) f with
     |none=>rw[es]at b;cases b|some us=>
      rw[es]at b;have E:us[i]? =some B:=az b;obtain⟨ys,t,r⟩:=read lw s es;obtain⟨y,l,D⟩:=r.get E;refine⟨⟨ys,y,t,l⟩,λx Z u=>?_⟩;obtain⟨M,L⟩:=u;subst M;have p:=L ys t;rw[l]at p;cases p;exact⟨.refl,s,D⟩
    ·dsimp only at b
     cases es:zV (.ref n) f with
     |none=>rw[es]at b;cases b|some us=>
      rw[es]at b;have E:us[i]? =none:=az b;obtain⟨ys,t,r⟩:=read lw s es;refine⟨ys,t,?_⟩;rw[<- r.length];exact List.getElem?_eq_none_iff.mp E
   |non=>cases e|bl _=>cases e|clo _ _ _=>cases e|xc _=>cases e|int _=>cases e|str _=>cases e
def Vy (g:Gl X "enumerate")(hm:X.mg "enumerate"=none)(e:zr X xr a ma)(s:starEach [a] X.env=[(false,eval a X.env)]:=by rfl):ka X xr (.Tuple elts kk tpos) (.Call (.Name "enumerate" p) [a] [] pos) (Qi ma):=by
 try simp only[zN]at*
 exact PI.imp (Ll g hm (qZ e jH (by rw[s];rfl)) s) λσ H r ⟨φ,A,ρ,S,re,h⟩=>by
   refine tM.go S re (zY.mp h) λw A1 c H1 v b l d q=>?_;cases es:zV w A1 with
   |none=>rw[es]at b;exact b.elim|some ws=>
    rw[es]at b;obtain⟨p,ys,rfl,z,Z⟩:=JQ d q es;exact⟨p,Zb w,ys,rfl,z,b c H1 _ l d (FF q)⟩
def j3 (g:Gl X "range")(hm:X.mg "range"=none)(e:zr X xr a ma)(s:starEach [a] X.env=[(false,eval a X.env)]:=by rfl):ka X xr tg (.Call (.Name "range" p) [a] [] pos) (jE ma):=by
 try simp only[zN]at*
 exact PI.imp (P7 g hm (qZ e jH (by rw[s];rfl)) s) λσ H r ⟨φ,A,ρ,S,re,h⟩=>by
   refine tM.go S re (zY.mp h) λw A1 c H1 v b l i q=>?_;cases w with
   |int j=>
    obtain rfl:=q;dsimp only at b
    by_cases d:jy j=true
    ·rw[ah d]at b
     obtain⟨f,B⟩:=Z1 d;exact⟨j,rfl,f,B,b c H1 _ l i IU⟩
    ·rw[ar d]at b;exact b.elim
   |non=>exact b.elim|bl _=>exact b.elim|str _=>exact b.elim|tup _=>exact b.elim|ref _=>exact b.elim|clo _ _ _=>exact b.elim|xc _=>exact b.elim
def L1 (o:Gl X "zip")(hm:X.mg "zip"=none)(t:zr X xr a ma)(r:zr X xr b mb)(g:starEach [a,b] X.env=(false,eval a X.env)::starEach [b] X.env:=by rfl)(e:starEach [b] X.env=(false,eval b X.env)::starEach [] X.env:=by rfl)(n:(backTo pos (starEach [b] X.env)).any (·.1)=false:=by rfl):
  ka X xr (.Tuple elts kk tpos) (.Call (.Name "zip" p) [a,b] [] pos) (Yy ma mb):=by
 try simp only[zN]at*
 exact PI.imp (HR o hm (qZ t (qZ r jH e) g) g n) λσ H D ⟨φ,A,ρ,S,re,h⟩=>by
   refine tM.go S re (zY.mp h) λw A1 i H1 v u l x k=>?_;refine tM.go x (re.mono l) (qj (zY.mp u) (λ_ _ z=>z) λ_ _ z=>z.mono l) λf A2 d y v2 c L s Q=>?_;cases es:zV w A2 with
   |none=>rw[es]at c;exact c.elim|some us=>
    cases es':zV f A2 with
    |none=>rw[es,es']at c;exact c.elim|some vs=>
     rw[es,es']at c;have q:=k.mono L;obtain⟨p,xs,rfl,j,C⟩:=JQ s q es;obtain⟨P,ys,rfl,Z,B⟩:=JQ s Q es';exact⟨p,P,Zb w,Zb f,xs,ys,rfl,j,Z,c d y _ (l.trans L) s (FT q Q)⟩
def Mz {d:Nat}{me:Ev}(x:∀e s,X.xe e s->False)(he:zr X yb elt me)(k:gens[d+1]? =none):wD X elt gens sc pos d (zM me):=by
 try simp only[zN]at*
 exact y7.imp (N1 x he k) λD σ H Q ⟨φ,A,ρ,acc,ys,S,re,o,n,r,h⟩=>by
   refine tM.go S re (Wh (zY.mp h)) λw A1 g H1 v f l p q=>?_;obtain⟨c,n1⟩:=l.off o n
   by_cases z:acc.length<z8
   ·rw[ah z]at f
    have j:=r.length;refine⟨ys,c,?_,?_⟩
    ·rw[<- j]
     have:sizeLine=16777216:=sizeLine_eq
     unfold z8 at z;omega
    ·exact f g _ σ _ (l.toD.trans (yd.upd c)) n1 (p.off c n1) ⟨re.len,λi w e=>let ⟨v,a,b⟩:=re.get i w e;⟨v,a,(b.mono l).monoD (yd.upd c)⟩⟩ ju
      (((r.mono l).monoD (yd.upd c)).append (.one (q.monoD (yd.upd c))))
   ·rw[ar z]at f;exact f.elim
def Lw {iter:Expr}{d:Nat}{mi:Ei}{tw:Tg}{M:Ev}{em:Em}(k:∀e s,X.xe e s->False)(v:X.calm=true)(u:gens[d+1]? =some ⟨tg,iter,ifs,0⟩)(w:∀g',gens[d+2]? =some g'->g'.is_async=0)
  (hw:ka X yb tg iter mi)(t:kT X tg tw)(q:wZ X ifs M)(hm:wD X elt gens sc pos (d+1) em)(o:∀x,foldedSetIterable iter X.env x=pure x:=by intro _;rfl):wD X elt gens sc pos d (Ql mi tw M em):=by
 try simp only[zN]at*
 exact y7.imp (Nq k v u w hw t q hm o) λD σ H Q ⟨φ,A,ρ,acc,ys,S,re,y,n,f,h⟩=>by
   refine⟨φ,A,ρ,S,re,qj (Wh (zY.mp h)) (λj A1 C c H1 J l P i=>?_) λ_ _ z=>z⟩;obtain⟨I,n1⟩:=l.off y n;exact jc.read i P (re.mono l) I n1 (f.mono l) (qj C (λp A2 B a T b zs L N K r E g=>B a T b zs (l.toD.trans L) N K r E g) λ_ _ z=>z)
def yQ (h:zr X xr e m):wA X xr e (qp m):=by
 try simp only[zN]at*
 exact PE.imp h λσ H Q ⟨φ,A,ρ,S,re,h⟩=>by
  refine tM.go S re (zY.mp h) λw A1 c H1 v b l s q=>?_;cases e:zV w A1 with
  |none=>rw[e]at b;exact b.elim|some ws=>
   rw[e]at b;obtain⟨a,ys,rfl,d,E⟩:=JO s q e;exact b c H1 a ys l s d E
def ku {q:jF}(h:Zk X xr e q):wA X xr e q:=by
 try simp only[zN]at*
 exact PE.imp h λσ H Q ⟨φ,A,ρ,S,re,h⟩=>
  ⟨φ,A,ρ,S,re,qj h (λws A1 c a H1 D ys l s h0 b n r=>c a H1 D ys l s (.inl (qH.of b)) r) λ_ _ z=>z⟩
def zu (a:yJ X xr st m1)(d:yF X xr rest m2):yF X xr (st::rest) (zq m1 m2):=by
 try simp only[zN]at*
 exact jZ.imp (NQ a d) λD σ H ⟨φ,A,ρ,S,re,h⟩=>by
   refine⟨φ,A,ρ,S,re,qj (zY.mp h) (λf A1 a=>?_) λ_ _ z=>z⟩;cases f with
   |nx ρ1=>exactλb e c l s r=>⟨b,A1,ρ1,s,r,qj a (λ_ _ z=>z.mono l) λ_ _ z=>z.mono l⟩|rt w=>exact a|bk ρ1=>exact a|ct ρ1=>exact a
def J1 (he:zr X xr e m)(s:swapsWith e none pos.line X.env=pure false:=by rfl):yJ X xr (.Expr e pos) (gi m):=by
 try simp only[zN]at*
 exact PS.imp (LA he s) λD σ H ⟨φ,A,ρ,S,re,h⟩=>tM.go S re (zY.mp h) λw A1 a H1 v b l c q=>b a H1 σ l c (re.mono l)
def Z8 {iter:Expr}{mi:Ei}{tw:Tg}(hp:PassesOwn (model X.prog X.w) X.A X.env X.xe)(hc:X.calm=true)(hi:ka X xr tg iter mi)(hg:kT X tg tw)(hb:yF X xr body m1)
  (hs:∀x,foldedSetIterable iter X.env x=pure x:=by intro _;rfl):yJ X xr (.For tg iter body [] pos) (wq mi tw m1):=by
 try simp only[zN]at*
 exact PS.imp (HK hp hc hi hg hb hs) λD σ H ⟨φ,A,ρ,S,re,h⟩=>by
   refine⟨φ,A,ρ,S,re,qj (zY.mp h) (λj A1 h1 g H1 J N S1 jr=>?_) λ_ _ z=>z⟩;refine⟨λi f d C=>Tv X.K xr j (turn tw m1) D g H1 f i d C,
    ⟨j.len,g,A1,ρ,.refl,S1,re.mono N,qj h1 (λ_ _ z=>z.mono N) λ_ _ z=>z.mono N⟩,?_⟩
   rintro i f I U ⟨c,A2,p,t,T,q,b⟩
   obtain⟨j1,j2⟩:=jr i c U A2 ⟨t.ex,t.tp,t.fz⟩ T;cases E:j.at_ A2 i with
   |none=>cases f<;>(unfold yj at b;rw[E]at b;exact b.elim)|some o=>
    cases o with
    |none=>
     left
     refine⟨j2 E,?_⟩;cases f<;>(unfold yj at b;rw[E]at b;exact b c U I .refl T q)
    |some w=>
     right
     obtain⟨go,yl⟩:=j1 w E;cases f with
     |zero=>unfold yj at b;rw[E]at b;exact b.elim|succ f=>
      unfold yj at b;rw[E]at b;refine⟨go,λd C=>Tv X.K xr j (turn tw m1) D g H1 f (i+1) d C,λd C z=>⟨f,bc _,z⟩,λx H3 y=>?_⟩;obtain⟨L,Q,q3⟩:=yl x H3 y;have u:=zY.mp b;unfold turn at u;cases P:tw w p with
      |none=>rw[P]at u;exact u.elim|some n=>
       rw[P]at u;refine⟨c,A2,p,w,n,Q,q.mono L,q3,P,λZ M=>?_⟩;refine⟨c,A2,n,Q,M,qj u (λfl Y B=>?_) λ_ _ z=>z.mono L⟩;cases fl with
       |nx e=>exactλa v k l s r=>⟨a,Y,e,(t.trans L).trans l,s,r,qj B (λ_ _ z=>z.mono (L.trans l)) λ_ _ z=>z.mono (L.trans l)⟩|ct e=>exactλa v k l s r=>⟨a,Y,e,(t.trans L).trans l,s,r,qj B (λ_ _ z=>z.mono (L.trans l)) λ_ _ z=>z.mono (L.trans l)⟩|bk e=>exactλa v k l s r=>B a v k (L.trans l) s r|rt w4=>exactλa v v4 l s q4=>B a v v4 (L.trans l) s q4
def jL {sa s:bU}(e:jY X xr c mc)(g:yF X xr sa m1)(f:yF X xr s m2):yJ X xr (.If c sa s pos) (qO mc m1 m2):=by
 try simp only[zN]at*
 exact PS.imp (Ek e g f) λD σ H ⟨φ,A,ρ,S,re,h⟩=>by
   refine tT.go S re (zY.mp h) λw A1 a=>?_;cases w with
   |bl k=>
    refine⟨k,rfl,λb H1 l d=>?_⟩;cases k with
    |true=>rw[ah rfl];exact⟨b,A1,ρ,d,re.mono l,qj a (λ_ _ z=>z.mono l) λ_ _ z=>z.mono l⟩|false=>rw[ar ay];exact⟨b,A1,ρ,d,re.mono l,qj a (λ_ _ z=>z.mono l) λ_ _ z=>z.mono l⟩
   |non=>cases a|int _=>cases a|str _=>cases a|tup _=>cases a|ref _=>cases a|clo _ _ _=>cases a|xc _=>cases a
def zJ:yF X xr [] zE:=by
 try simp only[zN]at*
 exact jZ.imp MB λD σ H ⟨φ,A,ρ,S,re,h⟩=>h φ H σ .refl S re
def qx (he:zr X xr e m):yJ X xr (.Return (some e) pos) (qD m):=by
 try simp only[zN]at*
 exact PS.imp (HL he) λD σ H ⟨φ,A,ρ,S,re,h⟩=>tM.go S re (zY.mp h) λw A1 a H1 v b l s q=>b a H1 v l s q
def qw (i:Nat){pos':Pos}(b:X.N.Nodup)(he:zr X xr e m)(a:X.N[i]? =some x:=by rfl)(h:Loc X.env.scope x:=by first|exact Or.inl rfl|exact Or.inr rfl)(H:swapsWith e (some (.Name x pos')) pos.line X.env=pure false:=by rfl)
  (hf:X.fn x=true∨X.env.scope.names.lookup x=some .local:=by first|exact .inl rfl|exact .inr rfl):yJ X xr (.Assign [.Name x pos'] e pos) (zZ i m):=by
 try simp only[zN]at*
 exact PS.imp (IT b a h he H hf) zZ.read
def RY (i:Nat){iter:Expr}{mi:Ei}{tw:Tg}{M:Ev}{em:Em}{P a:Pos}(nl:Nat)(cap:bL)(j:X.N.Nodup)
  (e:X.calm=true)(S:wL X sc)(p:Ze X.N N sc nl cap=true)(hw:ka X xr tg iter mi)
  (n:∀s H fp,kT (jA X N sc s H fp j9) tg tw/\wZ (jA X N sc s H fp j9) ifs M/\wD (jA X N sc s H fp j9) elt (⟨tg,iter,ifs,0⟩::gs) sc pos 0 em)
  (b:X.N[i]? =some x:=by rfl)(c:X.env.scope.names.lookup x=some .local:=by rfl)
  (w:swapsWith (.ListComp elt (⟨tg,iter,ifs,0⟩::gs) sc pos) (some (.Name x P)) a.line X.env=pure true:=by rfl)
  (f:∀g',gs[0]? =some g'->g'.is_async=0:=by intro _ h;cases h<;>rfl)
  (d:∀x,foldedSetIterable iter X.env x=pure x:=by intro _;rfl):yJ X xr (.Assign [.Name x P] (.ListComp elt (⟨tg,iter,ifs,0⟩::gs) sc pos) a) (zZ i (qg (zQ nl cap mi tw M em))):=by
 try simp only[zN]at*
 exact PS.imp (L2.R8 (g:=tG X.K tw) (ti:=tT X.K yb M) (tm:=tE X.K em) j b c w e S p f hw n d) λD σ H h=>zQ.read σ H _ (qg.read σ H _ (zZ.read D σ H h))
def QM (h:wy X xr e m):jY X xr e m:=by
 try simp only[zN]at*
 exact PW.pt h
def jV {g:W->W->Hx->R W}(h:kq X op g)(c:zr X xr a ma)(H:zr X xr b mb)(e:op≠.In:=by decide)(d:op≠.NotIn:=by decide):jY X xr (.Compare a [op] [b] pos) (zh g ma mb):=by
 try simp only[zN]at*
 exact let ⟨r,a1,a2,A⟩:=h.ex;Us a1 a2 A c H (h.mks b e d)
def IX {o:CmpOp}{g g':W->W->Hx->R W}(h:kq X op g)(h':kq X o g')(e:zr X xr a ma)(d:zr X xr b mb)(H:zr X xr c mc)(hm:lastMarks [op,o] [b,c]=false:=by with_unfolding_all rfl):
  jY X xr (.Compare a [op,o] [b,c] pos) (yM g g' ma mb mc):=by
 try simp only[zN]at*
 exact let ⟨r,a1,a2,A⟩:=h.ex;let ⟨j,i,f,B⟩:=h'.ex;N9 a1 a2 A i f B e d H hm
def Fb {g:W->W->Hx->R W}(h:Ga X op g)(c:zr X xr a ma)(H:zr X xr b mb)(hm:behindInMarks op b=false:=by rfl):jY X xr (.Compare a [op] [b] pos) (zh g ma mb):=by
 try simp only[zN]at*
 exact let ⟨r,a1,a2,A⟩:=h.ex;Us a1 a2 A c H hm
def gu (f:jY X xr a ma):jY X xr (.UnaryOp .Not a pos) (yu ma):=by
 try simp only[zN]at*
 exact PT.imp (I9 f) λσ H Q ⟨φ,A,ρ,S,re,h⟩=>by
   refine tT.go S re (zY.mp h) λw A1 c=>?_;cases w with
   |bl k=>obtain⟨b,e,q⟩:=c;cases e;exact⟨k,rfl,λd H1 l s=>q d H1 l s⟩|non=>cases c|int _=>cases c|str _=>cases c|tup _=>cases c|ref _=>cases c|clo _ _ _=>cases c|xc _=>cases c
def k9 (h:zr X xr e m)(he:∀whole,isTrue e X.env whole=(do let v <- whole;standAt e.pos;holding [v] (truthy v)):=by intro _;rfl):jY X xr e m:=by
 try simp only[zN]at*
 exact PT.imp (IS h he) λσ H Q h=>h.toM
def qL:wZ X [] (zH (.bl true)):=by
 try simp only[zN]at*
 exactλpins s σ H Q I ⟨φ,A,ρ,S,re,h⟩=>Na pins s σ H Q I (by
  obtain⟨b,e,q⟩:=h;cases e;exact q φ H .refl S)
def Vr (h:jY X yb c mc):wZ X [c] mc:=by
 try simp only[zN]at*
 exact O5 h
def Md {rest:bO}(g:jY X xr a ma)(f:wy X xr (.BoolOp .And (b::rest) pos) mb):wy X xr (.BoolOp .And (a::b::rest) pos) (y0 ma mb):=by
 try simp only[zN]at*
 exact PW.imp (pw_and g f) λσ H Q ⟨φ,A,ρ,S,re,h⟩=>by
   refine tT.go S re (zY.mp h) λw A1 c=>?_;cases w with
   |bl k=>
    refine⟨k,rfl,λd H1 l s=>?_⟩;cases k with
    |true=>rw[ah rfl];exact tT.mono s l re c|false=>rw[ar ay];obtain⟨b,e,q⟩:=c;cases e;exact q d H1 l s
   |non=>cases c|int _=>cases c|str _=>cases c|tup _=>cases c|ref _=>cases c|clo _ _ _=>cases c|xc _=>cases c
def Mb (h:jY X xr a ma):wy X xr (.BoolOp .And [a] pos) ma:=by
 try simp only[zN]at*
 exact pw_and1 h
def Yh {rest:bO}(g:jY X xr a ma)(f:wy X xr (.BoolOp .Or (b::rest) pos) mb):wy X xr (.BoolOp .Or (a::b::rest) pos) (kS ma mb):=by
 try simp only[zN]at*
 exact PW.imp (pw_or g f) λσ H Q ⟨φ,A,ρ,S,re,h⟩=>by
   refine tT.go S re (zY.mp h) λw A1 c=>?_;cases w with
   |bl k=>
    refine⟨k,rfl,λd H1 l s=>?_⟩;cases k with
    |false=>rw[ar ay];exact tT.mono s l re c|true=>rw[ah rfl];obtain⟨b,e,q⟩:=c;cases e;exact q d H1 l s
   |non=>cases c|int _=>cases c|str _=>cases c|tup _=>cases c|ref _=>cases c|clo _ _ _=>cases c|xc _=>cases c
def J8 (h:jY X xr a ma):wy X xr (.BoolOp .Or [a] pos) ma:=by
 try simp only[zN]at*
 exact pw_or1 h
def yo {K:Frag}{st:Stmt}{m:Ex}(F:kf K x x st f fd)(hm:mg x=some (.ref f))(S:jh N ps (qm st))
  (i:∀(kV doc pm:Value)(an:bT)(c ct:Value)(us:bI),us.length=ps.length->bindArgs (fnOf x x (gQ st) (ki st) (qm st) .none kV doc pm an c ct) ⟨us,[]⟩=pure (ps.zip us))
  (a:∀(c:Value)(A:Around)(outer:bQ)(s:Shared)(H:Hp)(E:XK),jo k (A.deeper (envOfC x (qm st) s.heap.objs.size f c))->yF (kv kZ P w K mg base N x (qm st) f c A outer s H E).nox yb (ki st) m):
  zS P w K mg base (k+1) x ps.length (q9 N.length m):=by
 try simp only[zN]at*
 refine⟨f,fd,ps,?_,hm,F.kp,F.binds i⟩;refine F.ok S (λvs H Q E h=>h.len) λc A outer s H vs Q E g ⟨q,φ,A1,ws,n,r,h⟩=>⟨_,a c A outer s H E g,?_⟩;refine⟨φ,A1,ws.map some++List.replicate (N.length-ws.length) none,n,RE.start r,?_⟩;have h':=zY.mp h;show R.post _ (FB K φ H _) _;cases e:m (ws.map some++List.replicate (N.length-ws.length) none) A1 with
 |ok j A2=>
  rw[e]at h';cases j with
  |rt w=>exact h'|nx ρ=>exactλb p d l o _=>h' b p .non l o rfl|bk ρ=>exact h'.elim|ct ρ=>exact h'.elim
 |exc y A2=>
  rw[e]at h';exact h'.elim
 |bad=>rw[e]at h';exact h'.elim
def Wm (hm:X.mg "abs"=none)(a:zr X xr e m)(h:Gl X "abs":=by rfl)(he:starEach [e] X.env=(false,eval e X.env)::starEach [] X.env:=by rfl):zr X xr (.Call (.Name "abs" p) [e] [] pos) (jf Jj m):=by
 try simp only[zN]at*
 exact U5 N0 (λw A=>by unfold Jj;split;exact jw;exact qk) (λφ A H x u Q S q p=>by
   cases u with
   |int i=>obtain rfl:=q;exact⟨i,rfl,p φ H _ .refl S rfl⟩|_=>exact p.elim) hm (by rfl) a h (by decide) (by decide) he (by rfl)
def KQ (i:zr X xr a ma)(he:zr X xr b mb)(s:starEach [b] X.env=(false,eval b X.env)::starEach [] X.env:=by rfl)
  (e:attributeBase a "append" X.env (eval a X.env)=eval a X.env:=by rfl)
  (w:((backTo cpos (starEach [b] X.env)).all (λx=>!x.1)&&(backToKw cpos (keywordEach [] X.env)).all (λx=>x.1.isSome)
   && decide ([b].length+([]:bS).length+(if ([]:bS).isEmpty then 0 else 1)<30))=true:=by rfl)(h:(apos.endLine==cpos.line)=true:=by rfl):
  zr X xr (.Call (.Attribute a "append" apos) [b] [] cpos) (yO wd ma mb):=by
 try simp only[zN]at*
 exact WM PySem.F.slot_list_append PySem.F.type_list_append X4 OB (λφ A H x y u v Q S g q p=>by
   unfold wd at p;cases u with
   |ref n=>
    dsimp only at p;cases E:A[n]? with
    |none=>rw[E]at p;exact p.elim|some o=>cases o with
     |lst ws=>
      rw[E]at p;dsimp only at p
      by_cases c:ws.length<z8
      ·rw[ah c]at p
       obtain⟨l,vs,rfl,f1,g1,r⟩:=S.lst g E;refine⟨l,vs,y,rfl,rfl,g1,?_,?_⟩
       ·rw[<- r.length]
        have:sizeLine=16777216:=sizeLine_eq
        unfold z8 at c;omega
       ·have ln:Le X.K φ H φ (upd H l (.lst (vs++[y]))):=Le.upd f1 (λxs z=>by rw[g1]at z;cases z) (λ_ _ z=>by rw[g1]at z;cases z)
        obtain⟨f,d⟩:=S.write (o:=.lst ws) (o':=.lst (ws++[v])) E rfl rfl f1 ⟨_,ju,(r.mono ln).append (.one (q.mono ln))⟩;exact p _ _ _ f d rfl
      ·rw[ar c]at p;exact p.elim
     |_=>rw[E]at p;exact p.elim
   |_=>exact p.elim) i he s e w h
def QK (hm:X.mg "int"=none)(a:zr X xr e m)(h:Gl X "int":=by rfl)(he:starEach [e] X.env=(false,eval e X.env)::starEach [] X.env:=by rfl):zr X xr (.Call (.Name "int" p) [e] [] pos) (jf ZL m):=by
 try simp only[zN]at*
 exact UD PQ (λw A=>by unfold ZL;split;exact jw;exact jw;exact qk) (λφ A H x u Q S q p=>by
   cases u with
   |int i=>obtain rfl:=q;exact .inl ⟨i,rfl,p φ H _ .refl S rfl⟩|bl k=>obtain rfl:=q;exact .inr ⟨k,rfl,p φ H _ .refl S rfl⟩|_=>exact p.elim) hm (by rfl) a h (by decide) (by decide) he (by rfl)
def Nm (e:X.calm=true)(hm:X.mg "max"=none)(n:zr X xr a ma)(k:zr X xr b mb)(l:Gl X "max":=by rfl)(r:starEach [a,b] X.env=(false,eval a X.env)::starEach [b] X.env:=by rfl)(o:starEach [b] X.env=(false,eval b X.env)::starEach [] X.env:=by rfl)(h:(backTo pos (starEach [b] X.env)).any (·.1)=false:=by rfl):
  zr X xr (.Call (.Name "max" p) [a,b] [] pos) (zh WL ma mb):=by
 try simp only[zN]at*
 exact W2 (OE e) Zf (λφ A H x y u v Q S d c p=>by
   obtain⟨i,j,s,E,q⟩:=gY (K:=X.K) (f:=λi j=>.int (if j > i then j else i)) (g:=λi j=>.int (if j > i then j else i)) (λ_ _ _ _=>rfl) φ A H x y u v Q S d c p;subst s;subst E;exact⟨i,j,rfl,q⟩) hm (by rfl) n k l (by decide) (by decide) r o h
def Ol (C:zr X xr a ma)(he:zr X xr b mb)(B:starEach [b] X.env=(false,eval b X.env)::starEach [] X.env:=by rfl)
  (e:attributeBase a "pop" X.env (eval a X.env)=eval a X.env:=by rfl)
  (c:((backTo cpos (starEach [b] X.env)).all (λx=>!x.1)&&(backToKw cpos (keywordEach [] X.env)).all (λx=>x.1.isSome)
   && decide ([b].length+([]:bS).length+(if ([]:bS).isEmpty then 0 else 1)<30))=true:=by rfl)(h:(apos.endLine==cpos.line)=true:=by rfl):
  zr X xr (.Call (.Attribute a "pop" apos) [b] [] cpos) (yO wO ma mb):=by
 try simp only[zN]at*
 exact WM PySem.F.slot_list_pop PySem.F.type_list_pop Ng O7 (λφ A H x y u v Q S t s p=>by
   unfold wO at p;cases u with
   |ref n=>cases v with
    |int i=>
     obtain rfl:=s;dsimp only at p;cases E:A[n]? with
     |none=>rw[E]at p;exact p.elim|some o=>cases o with
      |lst ws=>
       rw[E]at p;dsimp only at p
       by_cases d:jy i=true
       ·rw[ah d]at p
        obtain⟨L,J⟩:=Z1 d;cases g:seqIndex? i ws.length with
        |none=>rw[g]at p;exact p.elim|some k=>
         rw[g]at p;dsimp only at p;cases f:ws[k]? with
         |none=>rw[f]at p;exact p.elim|some w=>
          rw[f]at p;obtain⟨l,vs,rfl,f1,g1,r⟩:=S.lst t E;obtain⟨y,I,D⟩:=r.get f;have ln:Le X.K φ H φ (upd H l (.lst (vs.eraseIdx k))):=Le.upd f1 (λxs z=>by rw[g1]at z;cases z) (λ_ _ z=>by rw[g1]at z;cases z)
          obtain⟨j,q⟩:=S.write (o:=.lst ws) (o':=.lst (ws.eraseIdx k)) E rfl rfl f1 ⟨_,ju,(r.erase k).mono ln⟩;exact⟨l,vs,i,k,y,rfl,rfl,g1,by omega,by omega,by rw[<- r.length];exact g,I,p _ _ _ j q (D.mono j)⟩
       ·rw[ar d]at p;exact p.elim
      |_=>rw[E]at p;exact p.elim
    |_=>exact p.elim
   |_=>cases v<;>exact p.elim) C he B e c h
def V8 (H:zr X xr a ma)(h:zr X xr b mb):zr X xr (.BinOp a .Pow b pos) (zh Yw ma mb):=by
 try simp only[zN]at*
 exact Zx Ht WN (WB ML λ_ _ _ _=>rfl) H h
def wK {x j}:zr X xr (.Constant (.str x) j pos) (zH (.str x)):=by
 try simp only[zN]at*
 exact PE.imp HX λσ H Q ⟨φ,A,ρ,S,r,h⟩=>h φ H _ .refl S rfl
def V1 (H:zr X xr a ma)(h:zr X xr b mb):zr X xr (.BinOp a .BitXor b pos) (zh Ge ma mb):=by
 try simp only[zN]at*
 exact Zx IH Zf (gY λ_ _ _ _=>rfl) H h
def K1 {q:jF}(hm:X.mg "list"=none)(d:wA X xr e q)(g:Gl X "list":=by rfl)(he:starEach [e] X.env=(false,eval e X.env)::starEach [] X.env:=by rfl):
  zr X xr (.Call (.Name "list" p) [e] [] pos) (qg q):=by
 try simp only[zN]at*
 exact PE.imp (Z4 Ri g hm (by rfl) (qZ d jH he) (by decide) (by decide) he (by rfl)) λσ H Q ⟨φ,A,ρ,S,re,h⟩=>by
   refine⟨φ,A,ρ,S,re,qj (zY.mp h) (λws A1 f b H1 a ys L s z r=>?_) λ_ _ z=>z⟩;refine⟨a,ys,rfl,z,λl c=>?_⟩;obtain⟨a1,a2,i⟩:=gU s c r;exact f _ _ _ (L.trans a1) a2 i
def Qa {o i:Expr}{mo mi:Ev}(he:zr X xr e m)(H:zr X xr o mo)(a:zr X xr i mi)
  (h:swapsWithSole [.Subscript o i tpos] e pos.line X.env=pure false:=by rfl)(hw:swappedStores [.Subscript o i tpos] e X.env=pure none:=by rfl)
  (c:(assignEach [.Subscript o i tpos] X.env).map (·.2)=[assign (.Subscript o i tpos) X.env]:=by rfl)
  (b:∀v,assign (.Subscript o i tpos) X.env v=(do
   let ov <- holding [v] (eval o X.env)
   let iv <- holding [v,ov] (eval i X.env)
   standAt tpos
   holding [v,ov,iv] (setItem ov iv v)
   release [v,ov,iv] []):=by intro _;rfl):yJ X xr (.Assign [.Subscript o i tpos] e pos) (yX yH m mo mi):=by
 try simp only[zN]at*
 exact O0 set_list Hm Mw he H a h hw c b
def Ov (f:Nat)(C:PassesOwn (model X.prog X.w) X.A X.env X.xe)(E:jY X xr c mc)(I:yF X xr body m1):yJ X xr (.While c body [] pos) (WE f mc m1):=by
 try simp only[zN]at*
 exact PS.imp (O4 C E I) λD σ H ⟨φ,A,ρ,S,re,h⟩=>by
   refine⟨λf g e=>∃a A2 d,Le X.K φ H a e/\zB X.K a A2 e/\RE X.K a e d g/\(gA mc m1 f d A2).post (FB X.K a e D) (EB X.K a e xr),⟨f,φ,A,ρ,.refl,S,re,h⟩,?_⟩
   rintro f u U ⟨a,A2,d,x,M,o,v⟩
   cases f with
   |zero=>exact v.elim|succ f=>
    unfold gA at v;refine tT.go M o (zY.mp v) λw P j=>?_;cases w with
    |bl k=>
     refine⟨k,rfl,λp N l y=>?_⟩;cases k with
     |true=>
      rw[ah rfl];refine⟨λg e=>∃a A2 d,Le X.K φ H a e/\zB X.K a A2 e/\RE X.K a e d g/\(gA mc m1 f d A2).post (FB X.K a e D) (EB X.K a e xr),λg e z=>⟨f,bc _,z⟩,?_⟩;refine⟨p,P,d,y,o.mono l,qj (zY.mp j) (λJ B t=>?_) λ_ _ z=>z.mono l⟩;cases J with
      |nx i=>exactλb q n L s r=>⟨b,B,i,(x.trans l).trans L,s,r,qj t (λ_ _ z=>z.mono (l.trans L)) λ_ _ z=>z.mono (l.trans L)⟩|ct i=>exactλb q n L s r=>⟨b,B,i,(x.trans l).trans L,s,r,qj t (λ_ _ z=>z.mono (l.trans L)) λ_ _ z=>z.mono (l.trans L)⟩|bk i=>exactλb q n L s r=>t b q n (l.trans L) s r|rt T=>exactλb q v4 L s Q=>t b q v4 (l.trans L) s Q
     |false=>
      rw[ar ay];exact j p N u l y (o.mono l)
    |non=>cases j|int _=>cases j|str _=>cases j|tup _=>cases j|ref _=>cases j|clo _ _ _=>cases j|xc _=>cases j
end
end Mi
variable {mr:Mi.Ea}{mi:Mi.Ei}{ρ:Mi.En}{me:Mi.Ev}{A A1 B:Mi.Hx}{ws:List Mi.W}{o:Mi.O}{tw:Mi.Tg}{g:Mi.W->Mi.W->Mi.Hx->Mi.R Mi.W}{xr:Mi.XR}{q:Mi.jF}
set_option maxHeartbeats 4000000
namespace Mi
open PySem L2
section
variable {ρ1:En}{A2:Hx}{w x y:W}{m ma mb mc:Ev}{m1 m2:Ex}{f:Fn}
def zy (h:ρ[i]? =some (some w)):qh i ρ A=.ok w A:=by unfold qh;rw[h]
def jm:zH w ρ A=.ok w A:=rfl
def zX (H:ma ρ A=.ok x A1)(h:mb ρ A1=.ok y A2):zh g ma mb ρ A=g x y A2:=by unfold zh;rw[H,zF,h,zF]
def wc {k:Bool}(h:ma ρ A=.ok (.bl k) A1):yu ma ρ A=.ok (.bl (!k)) A1:=by unfold yu;rw[h,zF]
def Zw (h:ma ρ A=.ok (.bl true) A1):y0 ma mb ρ A=mb ρ A1:=by unfold y0;rw[h,zF]
def Ww (h:ma ρ A=.ok (.bl false) A1):y0 ma mb ρ A=.ok (.bl false) A1:=by unfold y0;rw[h,zF]
def Yt (h:ma ρ A=.ok (.bl false) A1):kS ma mb ρ A=mb ρ A1:=by unfold kS;rw[h,zF]
def Fm (h:mc ρ A=.ok (.bl true) A1):Jt mc ma mb ρ A=ma ρ A1:=by unfold Jt;rw[h,zF]
def qV {a:Ea}(h:a ρ A=.ok ws A1):zK f a ρ A=f ws A1:=by unfold zK;rw[h,zF]
def qW:zl ρ A=.ok [] A:=rfl
def qF {r:Ea}(H:ma ρ A=.ok x A1)(h:r ρ A1=.ok ws A2):zc ma r ρ A=.ok (x::ws) A2:=by unfold zc;rw[H,zF,h,zF]
def Wn {a:Ea}(h:a ρ A=.ok ws A1):zA a ρ A=.ok (.tup ws) A1:=by unfold zA;rw[h,zF]
def yf {a:Ea}(h:a ρ A=.ok ws A1):qc a ρ A=.ok (.ref A1.length) (A1++[.lst ws]):=by unfold qc;rw[h,zF]
def zT (h:m1 ρ A=.ok (.nx ρ1) A1):zq m1 m2 ρ A=m2 ρ1 A1:=by unfold zq;rw[h,zF]
def qI (h:m1 ρ A=.ok (.rt w) A1):zq m1 m2 ρ A=.ok (.rt w) A1:=by unfold zq;rw[h,zF]
def kj:zE ρ A=.ok (.nx ρ) A:=rfl
def qP (h:m ρ A=.ok w A1):zZ i m ρ A=.ok (.nx (ρ.set i (some w))) A1:=by unfold zZ;rw[h,zF]
def Um (h:m ρ A=.ok w A1):gi m ρ A=.ok (.nx ρ) A1:=by unfold gi;rw[h,zF]
def jv (h:m ρ A=.ok w A1):qD m ρ A=.ok (.rt w) A1:=by unfold qD;rw[h,zF]
def wV (h:mc ρ A=.ok (.bl true) A1):qO mc m1 m2 ρ A=m1 ρ A1:=by unfold qO;rw[h,zF]
def yh (h:mc ρ A=.ok (.bl false) A1):qO mc m1 m2 ρ A=m2 ρ A1:=by unfold qO;rw[h,zF]
def QQ {j:jk}(h:mi ρ A=.ok j A1):wq mi tw m1 ρ A=yj j (turn tw m1) j.len 0 ρ A1:=by unfold wq;rw[h,zF]
def QP (h:tw w ρ=some ρ1):turn tw m1 w ρ A=m1 ρ1 A:=by unfold turn;rw[h]
def XB {j:jk}{st:W->Ex}(h:j.at_ A i=some none):yj j st n i ρ A=.ok (.nx ρ) A:=by
 cases n with
 |zero=>unfold yj;rw[h]|succ n=>unfold yj;rw[h]
def VD {j:jk}{st:W->Ex}(h:j.at_ A i=some (some w))(H:st w ρ A=.ok (.nx ρ1) A1):yj j st (n+1) i ρ A=yj j st n (i+1) ρ1 A1:=by
 rw[yj,h];dsimp only;rw[H,zF]
def K7 {k:Int}(h:m ρ A=.ok (.int k) A1)(H:jy k=true):jE m ρ A=.ok (yZ 0 k.toNat) A1:=by unfold jE;rw[h,zF];dsimp only;rw[ah H]
def Q0 {lo:Int}(h:i<k):(yZ lo k).at_ A i=some (some (.int (lo+i))):=by unfold yZ;dsimp only;rw[ah h]
def QS {lo:Int}(h:¬i<k):(yZ lo k).at_ A i=some none:=by unfold yZ;dsimp only;rw[ar h]
def jb (h:m1 (ws.map some++List.replicate (n-ws.length) none) A=.ok (.rt w) A1):q9 n m1 ws A=.ok w A1:=by unfold q9;rw[h];rfl
def Qe {w:W}(hn:ji ws=true)(hw:w.nr=true)(h:f ws []=.ok w A1):iso f ws A=.ok w A:=by
 unfold iso;rw[ah hn,h];cases w with
 |ref k=>cases hw|_=>dsimp only;rw[ah hw]
end
end Mi
set_option maxHeartbeats 4000000
namespace Mi
open PySem L2
def NK {j:jk}{ifs:Ev}{c:En}{N:Nat}{item g:Nat->W}{keep:Nat->Bool}(t:∀i,i<N->j.at_ A i=some (some (item i)))(d:j.at_ A N=some none)
  (a:∀i,i<N->ifs (some (item i)::c) A=.ok (.bl (keep i)) A)(he:∀i,i<N->keep i=true->me (some (item i)::c) A=.ok (g i) A):
  ∀(n i:Nat)(x:Option W)(acc:List W),i+n=N->acc.length+n<=z8->∃y,jc j (zI 0) ifs (zM me) n i (x::c) acc A=.ok (y::c,acc++((List.range' i n).filter keep).map g) A:=by
 intro n
 induction n with
 |zero=>
  intro i x acc h _
  have:i=N:=by omega
  subst this;refine⟨x,?_⟩;unfold jc;rw[d];simp
 |succ n I=>
  intro i x acc h l;have H:i<N:=by omega
  rw[jc,t i H];dsimp only[zI,List.set];rw[a i H,zF];rw[range'_succ];cases k:keep i with
  |true=>
   dsimp only;obtain⟨y,e⟩:=I (i+1) (some (item i)) (acc++[g i]) (by omega) (by rw[aG,bf];omega)
   refine⟨y,?_⟩;have E:zM me (some (item i)::c) acc A=.ok (some (item i)::c,acc++[g i]) A:=by
    unfold zM;rw[he i H k,zF,ah (by omega)]
   rw[E,zF];dsimp only;rw[e,List.filter_cons_of_pos k,aV,aN]
   rfl
  |false=>
   dsimp only;obtain⟨y,e⟩:=I (i+1) (some (item i)) acc (by omega) (by omega)
   exact⟨y,by rw[e,List.filter_cons_of_neg (by rw[k];exact ay)]⟩
def XA {j:jk}{ifs:Ev}{N:Nat}{item g:Nat->W}{keep:Nat->Bool}(hm:mi ρ A=.ok j A)(a:j.len=N)(d:N<=z8)
  (H:∀i,i<N->j.at_ A i=some (some (item i)))(h:j.at_ A N=some none)(b:∀i,i<N->ifs (some (item i)::cap.map λi=>(ρ[i]?).join) A=.ok (.bl (keep i)) A)
  (he:∀i,i<N->keep i=true->me (some (item i)::cap.map λi=>(ρ[i]?).join) A=.ok (g i) A):
  zQ 1 cap mi (zI 0) ifs (zM me) ρ A=.ok (((List.range N).filter keep).map g) A:=by
 obtain⟨y,e⟩:=NK H h b he N 0 none [] (Nat.zero_add N) (by simpa using d)
 unfold zQ;rw[hm,zF,a];have c:ZD 1 cap ρ=none::cap.map λi=>(ρ[i]?).join:=rfl;rw[c,e,nil_append,<- range_eq_range']
 rfl
def Zo {j:jk}{N:Nat}{item g:Nat->W}(hm:mi ρ A=.ok j A)(a:j.len=N)(c:N<=z8)
  (t:∀i,i<N->j.at_ A i=some (some (item i)))(H:j.at_ A N=some none)(he:∀i,i<N->me (some (item i)::cap.map λi=>(ρ[i]?).join) A=.ok (g i) A):
  zQ 1 cap mi (zI 0) (zH (.bl true)) (zM me) ρ A=.ok ((List.range N).map g) A:=by
 have h:=XA (ifs:=zH (.bl true)) (keep:=λ_=>true) hm a c t H (λ_ _=>rfl) λi b _=>he i b;have f:(List.range N).filter (λ_=>true)=List.range N:=List.filter_eq_self.mpr λ_ _=>rfl;rw[f]at h;exact h
def yi {g:List W->Hx->R W}(h:q ρ A=.ok ws A1):mQ g q ρ A=g ws A1:=by unfold mQ;rw[h,zF]
def gq (h:q ρ A=.ok ws A1):qg q ρ A=.ok (.ref A1.length) (A1++[.lst ws]):=by unfold qg;rw[h,zF]
def yW {m:Ev}{w:W}(h:m ρ A=.ok w A1)(H:zV w A1=some ws):qp m ρ A=.ok ws A1:=by unfold qp;rw[h,zF,H]
open PySem PySem.Spec PyProof.Rows L2
inductive Eo (H:Hp)(h g:Heap)(e:Addr)(vs:Array Value):Prop
 |mk (T:Addr) (oT:Obj) (ts:Array Value) (h1:vs[1]? =some (.ref T)) (ne:T≠e) (ng:g.get? T=none) (nH:H T=none) (hT:h.get? T=some oT) (hd:oT.data=.fields ts) (h3:ts[3]? =some .none)
inductive kr (H:Hp)(h g:Heap)(e:Addr)(C:Value):Prop
 |mk (ng:g.get? e=none) (nH:H e=none) (oe:Obj) (vs:Array Value) (a0:Value) (he:h.get? e=some oe) (hc:oe.cls=C) (hd:oe.data=.fields vs) (h0:vs[0]? =some a0) (h1:vs[1]? =some .none∨Eo H h g e vs)
inductive Tr (h:Heap)(e:Addr):Prop
 |mk (oe:Obj) (vs:Array Value) (T:Addr) (he:h.get? e=some oe) (hd:oe.data=.fields vs) (h1:vs[1]? =some (.ref T))
section
variable {A:Around}{outer:bQ}{L e:Addr}{C:Value}{g:Heap}
theorem frames_at {B:Heap}:∀{l:bQ},s.heap.FunFrames base l->(∀b∈qe l,B.get? b=none)->s.heap.FunFrames B l
 |[],_,_=>trivial|e::r,⟨k,⟨L,o,hf,hn,a,hd⟩,H⟩,h=>⟨k,⟨L,o,hf,h L (by unfold qe;rw[bb,hf];exact ax ..),a,hd⟩,frames_at H λb c=>h b (by
   unfold qe;rw[bb,hf];exact ai _ c)⟩
def Ue {Q:Unit->Shared->Prop}(w:A.frames=some (env::outer))(hf:env.frame=some L)(I:s.heap.FunFrames base (env::outer))(x:kr H s.heap g e C)
  (tr:∀b u,H b=some u->∃o,s.heap.get? b=some o)(th:∀b o,g.get? b=some o->∃o',s.heap.get? b=some o')
  (hQ:∀h',(∀b o,s.heap.get? b=some o->b∉qe (env::outer)->((∃o',g.get? b=some o')∨∃u,H b=some u)->h'.get? b=some o)->(∀b o,s.heap.get? b=some o->b∈qe (env::outer)->∃Y,h'.get? b=some { o with slots:=Y })->
   kr H h' g e C->Tr h' e->Q () { s with heap:=h' }):wpAny M A (leaving env (.ref e)) Q E s:=by
 obtain⟨K,S,oe,vs,a0,he,hc,hd,h0,B⟩:=x;have fin:∀(d:bJ),(∀b∈qe (env::outer),b∈d)->(∀b∈d,b∉qe (env::outer)->g.get? b=none/\H b=none)->∀h',Heap.LeftW (hideAll s.heap d) (env::outer) e C a0 s.heap h'->Q () { s with heap:=h' }:=by
  intro d hi1 r h' ⟨st,ff,p,us⟩;refine hQ h' (λb o h nb hx=>?_) (λb o h mb=>?_) ?_ (by obtain⟨i,v,T,D,t,j,_,k,n,_⟩:=p;exact⟨i,v,T,j,k,n⟩)
  ·refine st b o (bz d h λhm=>?_)
   obtain⟨z1,z2⟩:=r b hm nb;rcases hx with ⟨o',q⟩|⟨u,q⟩
   ·rw[z1]at q;cases q
   ·rw[z2]at q;cases q
  ·obtain⟨_,o',a,f⟩:=I.mem mb
   rw[h]at a;cases a;exact us b o h f
  ·obtain⟨i,v,T,D,t,j,⟨N,X⟩,k,n,y,l,hT,c,U⟩:=p
   have nT:T∉qe (env::outer):=λhm=>by
    obtain⟨_,o',a,f⟩:=I.mem hm;obtain⟨Y,z⟩:=us T o' a f;rw[hT]at z;cases z;exact f t c
   have both:g.get? T=none/\H T=none:=by
    cases q:s.heap.get? T with
    |some o=>
     by_cases hm:T∈d
     ·exact r T hm nT
     ·rw[bz d q hm]at y;cases y
    |none=>
     constructor
     ·cases z:g.get? T with
      |none=>rfl|some o=>obtain⟨o',Z⟩:=th T o z;rw[q]at Z;cases Z
     ·cases z:H T with
      |none=>rfl|some u=>obtain⟨o',Z⟩:=tr T u z;rw[q]at Z;cases Z
   exact⟨K,S,i,v,a0,j,N,k,X,.inr ⟨T,D,t,n,l,both.1,both.2,hT,c,U⟩⟩
 have stay:∀d:bJ,(hideAll s.heap d).StaysIn s.heap:=λd b o q=>of_hideAll d q;rcases B with B|⟨T,D,t,B,l,J,P,hT,c,U⟩
 ·have hn:∀b∈e::qe (env::outer),(hideAll s.heap (e::qe (env::outer))).get? b=none:=λb h=>hideAll_none _ h
  refine wpAny_leaving_firstW (base:=hideAll s.heap (e::qe (env::outer))) w (frames_at I λb h=>hn b (ai _ h)) hf he (stay _) (hn e (ax ..)) hd B h0 ?_;rw[hc];refine fin _ (λb h=>ai _ h) λb h nb=>?_;rcases bX.mp h with rfl|h
  ·exact⟨K,S⟩
  ·exact absurd h nb
 ·have hn:∀b∈e::T::qe (env::outer),(hideAll s.heap (e::T::qe (env::outer))).get? b=none:=λb h=>hideAll_none _ h
  refine wpAny_leaving_nextW (base:=hideAll s.heap (e::T::qe (env::outer))) w (frames_at I λb h=>hn b (ai _ (ai _ h))) hf
   ⟨oe,vs,T,D,t,he,⟨hc,h0⟩,hd,B,hn T (ai _ (ax ..)),l,hT,c,U⟩ (stay _) (hn e (ax ..)) ?_
  refine fin _ (λb h=>ai _ (ai _ h)) λb h nb=>?_;rcases bX.mp h with rfl|h
  ·exact⟨K,S⟩
  ·rcases bX.mp h with rfl|h
   ·exact⟨J,P⟩
   ·exact absurd h nb
end
inductive MX (P:Program)(w:World)(outer:bQ)(H:Hp)(s:Shared)(E:XK)(e:Value)(s':Shared):Prop
 |mk (ea C:Addr) (H':Hp) (he:e=.ref ea) (os:s'.os=s.os) (b:AllBare s'.gens) (un:Un (qe outer) [] H H' s.heap s'.heap) (hk:jK P w H' s'.heap) (ly:kr H' s'.heap s.heap ea (.ref C)) (tr:Tr s'.heap ea) (q:E (.ref C) none H')
noncomputable def kY (P:Program)(w:World):kU:=λouter H s E e s'=>MX P w outer H s E e s'
def _root_.L2.qQ.obj {o:HO}(x:qQ P w H h a o):∃ob,h.get? a=some ob:=by
 cases o with
 |lst xs=>obtain⟨_,_,_,_,e⟩:=x;exact⟨_,e⟩|tup xs=>obtain⟨_,_,_,o,e,_⟩:=x;exact⟨o,e⟩|dK k=>obtain⟨_,_,_,_,o,_,_,e,_⟩:=x;exact⟨o,e⟩|dT k=>obtain⟨_,_,_,_,o,_,_,e,_⟩:=x;exact⟨o,e⟩|set S n=>obtain⟨o,_,_,_,e,_⟩:=x;exact⟨o,e⟩|ins C d fs=>obtain⟨_,_,_,e,_⟩:=x;exact⟨_,e⟩|own y=>exact x|xd fs=>obtain⟨_,⟨o,_,_,e,_⟩,_⟩:=x;exact⟨o,e⟩|rng lo i=>obtain⟨_,_,_,e⟩:=x;exact⟨_,e⟩|frz ob u=>exact⟨ob,x.1⟩|tbl ps=>exact⟨_,(show h.get? a=some _ from x)⟩|met f y=>exact⟨_,(show h.get? a=some _ from x)⟩|ext φ=>exact x.2.1
def P0 {K:Frag}{cd:Value}{A:Around}{outer:bQ}{E:XK}
  {h:Hp}{a C:Addr}(I:Inv (kv (kY P w) P w K mg base N qual scope f cd A outer s H E) pins σ h s')(x:kr h s'.heap s.heap a (.ref C))(p:E (.ref C) none h):
  (kv (kY P w) P w K mg base N qual scope f cd A outer s H E).xe (.ref a) s':=by
 have bs:Un (qe outer) [] H h s.heap s'.heap:=I.base;have stk:∀b∈qe (envOfC qual scope s.heap.objs.size f cd::outer),h b=none:=I.stkFree;have k:s.heap.get? s.heap.objs.size=none:=Heap.get?_none_of_le (aw _);have g:(envOfC qual scope s.heap.objs.size f cd).frame=some s.heap.objs.size:=rfl;have mem:∀b,b∈qe (envOfC qual scope s.heap.objs.size f cd::outer)↔b=s.heap.objs.size∨b∈qe outer:=λb=>by
  unfold qe;rw[bb,g];exact mem_cons
 show wpAny (model P w) (A.deeper (envOfC qual scope s.heap.objs.size f cd)) (leaving (envOfC qual scope s.heap.objs.size f cd) (.ref a)) _ _ s';refine Ue (base:=base) (L:=s.heap.objs.size) I.ok.frames rfl I.stack x (λb u e=>(I.hok b u e).obj) (λb o e=>bs.there b o e (by simp)) λh' k1 k2 X t=>?_
 have r:∀b u,h b=some u->b∉qe (envOfC qual scope s.heap.objs.size f cd::outer):=λb u e hm=>by rw[stk b hm]at e;cases e
 refine⟨a,C,h,rfl,I.os,I.bare,⟨λb o e n nb _=>?_,λb o e n mb _=>?_,λb o e n d=>bs.free b o e n d,λb o e d=>?_,bs.tups,bs.frzs,bs.tbls⟩,λb u e=>?_,X,t,p⟩
 ·have i:b≠s.heap.objs.size:=λz=>by rw[z,k]at e;cases e
  exact k1 b o (bs.keep b o e n nb (by simp)) (λhm=>(mem b).mp hm |>.elim i nb) (.inl ⟨o,e⟩)
 ·obtain⟨l,q⟩:=bs.slot b o e n mb (by simp)
  obtain⟨S,Q⟩:=k2 b _ q ((mem b).mpr (.inr mb));exact⟨S,Q⟩
 ·obtain⟨o',q⟩:=bs.there b o e d
  by_cases hm:b∈qe (envOfC qual scope s.heap.objs.size f cd::outer)
  ·obtain⟨l,z⟩:=k2 b o' q hm;exact⟨_,z⟩
  ·exact⟨o',k1 b o' q hm (.inl ⟨o,e⟩)⟩
 ·refine(I.hok b u e).stay (λc v j q=>?_) (λ_ q=>q) λ_ _ q=>q
  rcases j with z|z
  ·rw[z]at q ⊢;exact k1 b v q (r b u e) (.inr ⟨u,e⟩)
  ·exact k1 c v q (r c _ z) (.inr ⟨_,z⟩)
def XO {E:XK}{e:Value}(I:Inv X pins σ H s)(h:kY X.prog X.w X.stack H s E e s')(g:Heap)(p:∀b o,g.get? b=some o->∃o',s.heap.get? b=some o'):
  ∃a C c,e=.ref a/\Inv X pins σ c s'/\kr c s'.heap g a (.ref C)/\Tr s'.heap a/\E (.ref C) none c:=by
 obtain⟨a,C,c,rfl,os,bare,un,hok,x,r,u⟩:=h;obtain⟨l,v,d,t,f⟩:=s';obtain rfl:f=s.os:=os;refine⟨a,C,c,rfl,I.call (h':=l) (g':=v) (d':=d) (t':=t) (ch:=[]) un hok bare (λb z=>absurd z (by simp)),?_,r,u⟩
 have up:∀b,s.heap.get? b=none->g.get? b=none:=λb n=>by
  cases z:g.get? b with
  |none=>rfl|some o=>obtain⟨o',q⟩:=p b o z;rw[n]at q;cases q
 obtain⟨a1,a2,j,vs,U,S,Q,P,N,B⟩:=x;refine⟨up a a1,a2,j,vs,U,S,Q,P,N,?_⟩;rcases B with B|⟨T,k,i,M,L,K,J,D,A,y⟩
 ·exact .inl B
 ·exact .inr ⟨T,k,i,M,L,up T K,J,D,A,y⟩
noncomputable def wz (K:Frag)(E:XK):XR:=λx H=>∀C:Addr,yk K x (.ref C)->E (.ref C) none H
inductive YR (K:Frag)(n:Nat)(f:Fn)(vs:List V)(H:Hp)(Q:VK)(E:XK):Prop
 |mk (len:vs.length=n) (φ:bJ) (A:Hx) (ws:List W) (S:zB K φ A H) (r:zx K φ H ws vs) (q:(f ws A).post (PB K φ H Q) (EB K φ H (wz K E)))
def YR.len {K:Frag}{f:Fn}{Q:VK}{E:XK}(h:YR K n f vs H Q E):vs.length=n:=by cases h;assumption
inductive yw (P:Program)(w:World)(K:Frag)(mg:bP)(base:Heap)(k:Nat)(x:Str)(n:Nat)(f:Fn):Prop
 |mk (fa:Addr) (fd:FuncData) (ps:bM) (F:j7 P w K mg base (kY P w) k fa fd ps (YR K n f)) (at_:mg x=some (.ref fa)) (kp:keepIn K (.ref fa)=true) (bi:Binds K fd ps [])
structure wu (X:Cx)(g:Heap)(xr:XR):Prop where
 th:∀pins σ H s,Inv X pins σ H s->∀b o,g.get? b=some o->∃o',s.heap.get? b=some o'
 out:∀pins σ H s ea C x,Inv X pins σ H s->kr H s.heap g ea (.ref C)->yk X.K x (.ref C)->xr x H->X.xe (.ref ea) s
def EW {K:Frag}{cd:Value}{A:Around}{outer:bQ}{E:XK}:
  wu (kv (kY P w) P w K mg base N qual scope f cd A outer s H E) s.heap (wz K E) where
 th:=λpins σ h s' I b o e=>(show Un (qe outer) [] H h s.heap s'.heap from I.base).there b o e (by simp)
 out:=λpins σ h s' d C x I l c a=>P0 I l (a C c)
section
variable {g:Heap}{c:Expr}
noncomputable def Dg (K:Frag)(X:XR):XK:=λc _ H=>∃x C,c=.ref C/\yk K x (.ref C)/\X x H
def wu.passes (x:wu X g xr):Passes (kY X.prog X.w) X (Dg X.K xr):=λpins σ H s e s' I h=>by
 obtain⟨b,C,d,rfl,i,l,_,nm,f,E,c,a⟩:=XO I h g (x.th pins σ H s I);cases E;exact x.out pins σ d s' b C nm i l c a
end
noncomputable def wY (n:Nat)(m:Ex):Fn:=λws A=>(m (ws.map some++List.replicate (n-ws.length) none) A).bind λf A1=>match f with
 |.rt w=>.ok w A1|.nx _=>.ok .non A1|_=>.bad
inductive W0 (C:Addr)(bmB:bI)(newId:String)(h:Heap):Prop
 |mk (tl N nm q bs hdct sn sub ab col dd k0 k1 k2 k3 k5 mN:_) (obj:h.get? C=some (excClassObj nm q C N bs tl hdct sn sub ab col dd k0 k1 k2 k3 k5 newId)) (ns:h.Ns N mN) (init:mN "__init__"=none) (tail:OwnTail h bmB tl)
noncomputable def EZ (d:Data):Option { c:ClassData // d=.cls c }:=match d with
 |.cls c=>some ⟨c,rfl⟩|_=>none
def wt (K:Frag)(C:Addr)(b:bI)(newId:String):Bool:=(K.lookup C).any λo=>(EZ o.data).any λc=>
 o.cls==.type "type" && c.1.mro==.ref C::c.1.mro.tail&&o.slots.toList==[o.slots.toList.getD 0 none,o.slots.toList.getD 1 none,o.slots.toList.getD 2 none,o.slots.toList.getD 3 none,some (.builtin newId),o.slots.toList.getD 5 none]
  && c.1.hasDel==false&&PySem.W.tailIn K b c.1.mro.tail&&PySem.W.nsOkIn K c.1.ns&&nsIn K c.1.ns "__init__" == some none
def WX {K:Frag}{C:Addr}{b:bI}{newId:String}(X:K.In h)(q:wt K C b newId=true):W0 C b newId h:=by
 obtain⟨⟨o,dd,dat,⟨s⟩⟩,H,q⟩:=(any_eq_true _ _).mp q;obtain⟨⟨⟨nm,bs,mro,ns,Q,hd,sn,sub,ab,col,del⟩,i⟩,-,q⟩:=(any_eq_true _ _).mp q;simp only[aq,aJ]at q;obtain⟨⟨⟨⟨⟨⟨g,f⟩,d⟩,c⟩,a⟩,e⟩,E⟩:=q;cases i;cases g;cases c;exact⟨mro.tail,ns,nm,Q,bs,hd,sn,sub,ab,col,dd,_,_,_,_,_,_,X _ _ (by rw[H,f,d];rfl),.of_isNs (PySem.W.isNs_of_in X e),PySem.W.nsMap_none_of_in X e E,PySem.W.tail_of_in X a⟩
noncomputable def QZ (x:Str)(M:Ea):Ex:=λρ A=>(M ρ A).bind λ_ A1=>.exc x A1
section
variable {g:Heap}{es:bO}{np:Pos}{C:Addr}{B newId initId:String}{bmB:bI}
def Mg {h':Heap}{e:Addr}{vs:bI}(x:wu X g xr)(I:Inv X pins σ H s)(m:Heap.MadeExcOf s.heap h' e (.ref C) vs):
  Inv X pins σ H { s with heap:=h' }/\kr H h' g e (.ref C):=by
 have N:∀b,s.heap.get? b=none->H b=none:=λb z=>by
  cases q:H b with
  |none=>rfl|some u=>obtain⟨o,k⟩:=(I.hok b u q).obj;rw[z]at k;cases k
 have n:∀b,s.heap.get? b=none->g.get? b=none:=λb z=>by
  cases q:g.get? b with
  |none=>rfl|some o=>obtain⟨o',k⟩:=x.th pins σ H s I b o q;rw[z]at k;cases k
 obtain⟨t,he,a,h⟩:=m.there;refine⟨I.call' (s':={ s with heap:=h' }) (ch:=[]) rfl ⟨λb o q _ _ _=>m.keeps b o q,λb o q _ _ _=>⟨o.slots,m.keeps b o q⟩,λb o q z _=>z,λb o q _=>⟨o,m.keeps b o q⟩,λ_ _ q=>q,λ_ _ _ q=>q,λb ps q=>⟨#[],by rw[Array.append_empty];exact q⟩⟩
  (λb u q=>(I.hok b u q).stay (λc v _ z=>m.keeps c v z) (λ_ z=>z) λ_ _ z=>z) I.bare (λb z=>absurd z (by simp)),?_⟩
 exact⟨n e m.new,N e m.new,_,_,_,he,rfl,rfl,rfl,.inl rfl⟩
def N6 (o:wu X g xr)(f:yk X.K x (.ref C))(ex:wt X.K C bmB newId=true)(FB:ExcBaseFacts B newId initId bmB)(w:SA X xr (e::es) mr)(u:w8 mr n)(hn:n<=sizeLine:=by decide)(v:Gl X x:=by rfl)(a:X.calm=true:=by rfl)
  (d:(x==("__debug__":Str))=false:=by decide)(he:starEach (e::es) X.env=(false,eval e X.env)::starEach es X.env:=by rfl)(l:(backTo cpos (starEach es X.env)).any (·.1)=false:=by rfl):
  SS X xr (.Raise (some (.Call (.Name x np) (e::es) [] cpos)) none pos) (QZ x mr):=by
 intro pins s σ H D I ⟨φ,A,ρ,S,re,h⟩;have hm:X.mg x=some (.ref C):=a3 I.mod.kin I.mod.glob f;obtain⟨t,N,nm,q,bs,hdct,sn,sub,ab,col,dd,k0,k1,k2,k3,k5,mN,J,z,c,T⟩:=WX I.mod.kin ex;refine wpAny_Raise_call_subT (C:=C) (nm:=nm) (q:=q) (N:=N) (bs:=bs) (bm:=t) (hdct:=hdct) (sn:=sn) (sub:=sub) (ab:=ab) (col:=col) (dd:=dd) (k0:=k0) (k1:=k1) (k2:=k2) (k3:=k3) (k5:=k5)
  FB (mN:=mN) (T.hasType FB.hasBase) (I.ok.hd a) (by rw[he];show(false || (backTo cpos (starEach es X.env)).any (·.1))=false;rw[l];rfl) c (QV I v hm ⟨rfl,?_⟩ d)
 have h':=zY.mp h;have j:=w cpos pins s σ H (λvs H1=>vs.length<=sizeLine/\xr x H1) I ⟨φ,A,ρ,S,re,?_⟩
 ·rw[he]at j ⊢
  refine Calls.evalArgs_plain (wpAny_mono j (λus s2 M=>?_) λ_ _ y=>y);obtain⟨vs,Z,i,r,hlen,p⟩:=M;refine⟨rfl,?_,i.bk _ _ J,z.keeps i.bk,T.keeps i.bk,λh3 P m=>?_⟩
  ·rw[<- r.length];exact hlen
  ·obtain⟨Y,L⟩:=Mg o i m
   exact o.out pins σ Z _ P C x Y L f p
 ·cases E:mr ρ A with
  |ok ws A1=>
   rw[E]at h';intro b H1 vs k U Q;refine⟨?_,h' b H1 k U⟩;rw[<- Q.length,u ρ A ws A1 E];exact hn
  |exc y A1=>rw[E]at h';exact h'|bad=>rw[E]at h';exact h'
end
noncomputable def mJ:List Ev->Str->Ev
 |[],acc=>λ_ A=>.ok (.str acc) A|m::ms,acc=>λρ A=>(m ρ A).bind λw A1=>match w with
  |.str y=>if (acc++y).length<=sizeLine then mJ ms (acc++y) ρ A1 else .bad|_=>.bad
section
variable {es:bO}{m:Ev}{ms:List Ev}
inductive SJ (X:Cx)(xr:XR):List Expr->List Ev->Prop where
 |nil:SJ X xr [] []
 |cons {e:Expr} {es:bO} {m:Ev} {ms:List Ev} (h:SE X xr e m) (r:SJ X xr es ms):SJ X xr (e::es) (m::ms)
end
section
variable {A:Around}{e C:Addr}{oe:Obj}{bmB bmD:bI}{newId newD:String}{Q:Bool->Shared->Prop}
def Uc (h:Heap)(C D:Addr):Prop:=∃o cd,h.get? C=some o/\o.data=.cls cd/\cd.mro.contains (.ref D)=true
def Pe (lc:W0 C bmB newId s.heap)(ld:W0 D bmD newD s.heap)(j:bmD.contains (.type "BaseException")=true)(he:s.heap.get? e=some oe)(a:oe.cls=.ref C)(up:Uc s.heap C D)(v:Q true s):
  wpAny M A (excMatches (.ref e) (.ref D)) Q E s:=by
 obtain⟨h,g,d,t,os⟩:=s;obtain⟨l,N,nm,q,bs,hdct,sn,sub,ab,col,dd,k0,k1,k2,k3,k5,mN,k,_,_,_⟩:=lc;obtain⟨T,Y,r,I,x,c,p,S,y,o,w,X,U,P,K,L,u,n,_,_,z⟩:=ld;obtain⟨J,cd,b,hd,hm⟩:=up;rw[k]at b;cases b;have H:(excClassObj nm q C N bs l hdct sn sub ab col dd k0 k1 k2 k3 k5 newId).data=.cls cd:=hd;unfold excClassObj at H;cases H;have B:(Value.ref D::T).contains (.type "BaseException")=true:=by rw[List.contains_cons,z.hasType j,Bool.or_true]
 have i:(Value.ref C::l).contains (.ref D)=true:=hm;have f:=tc_notTuple;unfold excMatches
 repeat (first|(with_reducible refine wpAny_loadPart_at he ?_;rw[a])|with_reducible refine wpAny_loadPart_at n ?_|with_reducible refine wpAny_loadPart_at k ?_|(with_reducible refine wpAny_isSubtype_exc n ?_;rw[B])|(with_reducible refine wpAny_isSubtype_exc k ?_;rw[i])|wp_step)
 exact v
end
section
variable {H0:Hp}{s0:Shared}{ea C:Addr}
def landed {h':Heap}{T:Addr}{a0:Value}(g:Inv X pins σ H0 s0)(I:Inv X pins σ H s)(x:kr H s.heap s0.heap ea (.ref C))(nT:s0.heap.get? T=none)(hT:H T=none)
  (th:∀b o,s0.heap.get? b=some o->∃o',s.heap.get? b=some o')
  (fl:Heap.FlyingW (hideAll s.heap (ea::T::qe X.stack)) X.stack ea (.ref C) a0 h')(us:s.heap.UpToSlots h'):
  Inv X pins σ H { s with heap:=h' }/\kr H h' s0.heap ea (.ref C)/\Tr h' ea/\∀b o,s0.heap.get? b=some o->∃o',h'.get? b=some o':=by
 obtain⟨st,_,ff,oe,vs,t,oT,P,he,⟨A,h0⟩,hd,h1,l,B,D,w,h3⟩:=fl;have ng:s0.heap.get? ea=none:=by cases x;assumption
 have nH:H ea=none:=by cases x;assumption
 have kept:∀b o,s.heap.get? b=some o->b∉qe X.stack->b≠ea->b≠T->h'.get? b=some o:=λb o q n1 j N=>st b o (bz _ q λhm=>by
  rcases bX.mp hm with z|hm
  ·exact j z
  rcases bX.mp hm with z|hm
  ·exact N z
  ·exact n1 hm)
 have slot:∀b o,s.heap.get? b=some o->b∈qe X.stack->∃S,h'.get? b=some { o with slots:=S }:=λb o q hm=>by
  obtain⟨_,o',h,f⟩:=I.stack.mem hm;rw[q]at h;cases h;exact us b o q f
 have off:∀b u,H b=some u->b∉qe X.stack/\b≠ea/\b≠T:=λb u q=>⟨λhm=>(by rw[I.stkFree b hm]at q;cases q),λz=>(by rw[z,nH]at q;cases q),λz=>(by rw[z,hT]at q;cases q)⟩
 have ne:∀b o,s0.heap.get? b=some o->b≠ea/\b≠T:=λb o q=>⟨λz=>(by rw[z,ng]at q;cases q),λz=>(by rw[z,nT]at q;cases q)⟩
 have any:∀b o o',s0.heap.get? b=some o'->s.heap.get? b=some o->∃S,h'.get? b=some { o with slots:=S }:=λb o o' Q q=>by
  by_cases hm:b∈qe X.stack
  ·exact slot b o q hm
  ·exact⟨o.slots,kept b o q hm (ne b o' Q).1 (ne b o' Q).2⟩
 have cell:∀y c,X.env.cells.lookup y=some c->∀v,s.heap.IsCell c v->h'.IsCell c v:=λy c e v ⟨o,L,hd⟩=>by
  obtain⟨_,o0,d,_⟩:=g.cell y c e;obtain⟨S,z⟩:=any c o o0 d L;exact⟨_,z,hd⟩
 have inv:Inv X pins σ H { s with heap:=h' }:=by
  refine⟨I.ok,I.os,I.bare,⟨λb o q n K nx=>?_,λb o q n hf nx=>?_,I.base.free,λb o q nx=>?_,I.base.tups,I.base.frzs,I.base.tbls⟩,?_,λy c e=>?_,I.free,I.freeC,λp hp=>?_,λb u q=>?_,I.len⟩
  ·have a:=I.base.keep b o q n K nx
   have Q:=g.base.keep b o q n K nx;refine kept b o a (λhm=>?_) (ne b o Q).1 (ne b o Q).2;rcases bX.mp (I.stkSub b hm) with z|z
   ·exact absurd (aA (aB q) I.ok.above) (by rw[z];exact aT _)
   ·exact K z
  ·obtain⟨S,a⟩:=I.base.slot b o q n hf nx
   obtain⟨sl0,Q⟩:=g.base.slot b o q n hf nx;obtain⟨E,z⟩:=any b _ _ Q a;exact⟨E,z⟩
  ·obtain⟨J,a⟩:=I.base.there b o q nx
   obtain⟨o0,Q⟩:=g.base.there b o q nx;obtain⟨S,z⟩:=any b J o0 Q a;exact⟨_,z⟩
  ·obtain⟨m,⟨o,es,ep,L,r⟩,k⟩:=I.loc
   obtain⟨_,⟨o0,_,_,d,_⟩,_⟩:=g.loc;obtain⟨S,z⟩:=any _ o o0 d L;refine⟨m,⟨_,es,ep,z,r⟩,λi y v e1 e2 e3=>?_⟩;obtain⟨u,ru,lk⟩:=k i y v e1 e2 e3;refine⟨u,ru,?_⟩;rcases lk with lk|⟨lk,c,ec,M⟩
   ·exact .inl lk
   ·exact .inr ⟨lk,c,ec,cell y c ec _ M⟩
  ·obtain⟨v,hv⟩:=I.cell y c e
   exact⟨v,cell y c e v hv⟩
  ·obtain⟨p1,p2,Y,U,p5⟩:=I.pin p hp
   have Z:=(g.pin p hp).1;refine⟨kept _ _ p1 (λhm=>?_) (ne _ _ Z).1 (ne _ _ Z).2,p2,Y,U,p5⟩;rcases bX.mp (I.stkSub _ hm) with z|z
   ·exact Y z
   ·exact U z
  ·refine(I.hok b u q).stay (λc v M z=>?_) (λ_ z=>z) λ_ _ z=>z
   rcases M with e|e
   ·obtain⟨n1,j,N⟩:=off b u q
    rw[e]at z ⊢;exact kept b v z n1 j N
   ·obtain⟨n1,j,N⟩:=off c _ e
    exact kept c v z n1 j N
 have both:s0.heap.get? t=none/\H t=none:=by
  cases q:s.heap.get? t with
  |some o=>
   by_cases hm:t∈ea::T::qe X.stack
   ·rcases bX.mp hm with z|hm
    ·exact absurd z B
    rcases bX.mp hm with z|hm
    ·rw[z];exact⟨nT,hT⟩
    ·obtain⟨S,z⟩:=slot t o q hm
     obtain⟨_,o',h,f⟩:=I.stack.mem hm;rw[q]at h;cases h;rw[D]at z;cases z;exact absurd w (f P)
   ·rw[bz _ q hm]at l;cases l
  |none=>
   constructor
   ·cases z:s0.heap.get? t with
    |none=>rfl|some o=>obtain⟨o',k⟩:=th t o z;rw[q]at k;cases k
   ·cases z:H t with
    |none=>rfl|some u=>obtain⟨o',k⟩:=(I.hok t u z).obj;rw[q]at k;cases k
 exact⟨inv,⟨ng,nH,oe,vs,a0,he,A,hd,h0,.inr ⟨t,oT,P,h1,B,both.1,both.2,D,w,h3⟩⟩,⟨oe,vs,t,he,hd,h1⟩,λb o q=>by
  obtain⟨J,a⟩:=th b o q;obtain⟨S,z⟩:=any b J o q a;exact⟨_,z⟩⟩
def flying (I:Inv X pins σ H s)(x:kr H s.heap s0.heap ea (.ref C))(r:Tr s.heap ea):
  ∃T A,s0.heap.get? T=none/\H T=none/\Heap.FlyingW (hideAll s.heap (ea::T::qe X.stack)) X.stack ea (.ref C) A s.heap:=by
 obtain⟨w,y,l,vs,A,he,p,hd,h0,d⟩:=x;obtain⟨k,v,z,h,a,c⟩:=r;rw[he]at h;cases h;rw[hd]at a;cases a;rcases d with d|⟨T,n,t,d,i,e,j,hT,f,u⟩
 ·rw[d]at c;cases c
 ·have hn:∀b∈ea::T::qe X.stack,(hideAll s.heap (ea::T::qe X.stack)).get? b=none:=λb g=>hideAll_none _ g
  exact⟨T,A,e,j,λb o q=>of_hideAll _ q,hn ea (ax ..),frames_at I.stack λb g=>hn b (ai _ (ai _ g)),
   l,vs,T,n,t,he,⟨p,h0⟩,hd,d,hn T (ai _ (ax ..)),i,hT,f,u⟩
end
noncomputable def Jl (o:Obj):HO:=.frz o (.own 0)
noncomputable def ZK (K:Frag)(C D:Addr):Bool:=match K.lookup C with
 |some ⟨_,_,.cls cd,_⟩=>cd.mro.contains (.ref D)|_=>false
def Eh {K:Frag}{C:Addr}(X:K.In h)(e:ZK K C D=true):Uc h C D:=by
 unfold ZK at e
 split at e
 ·rename_i H
  exact⟨_,_,X _ _ H,rfl,e⟩
 ·cases e
section
variable {H0:Hp}{s0:Shared}{ea C L:Addr}
def Qk (i:Inv X pins σ H0 s0)(I:Inv X pins σ H s)(x:kr H s.heap s0.heap ea (.ref C)):∃a,a.cls=.ref C/\H ea=none/\Inv X pins σ (upd H ea (Jl a)) s:=by
 obtain⟨k,d,a,vs,A,he,l,_⟩:=x;refine⟨a,l,d,?_⟩;have ne:∀b o,s0.heap.get? b=some o->b≠ea:=λb o q z=>by rw[z,k]at q;cases q
 have at_:∀b,b≠ea->upd H ea (Jl a) b=H b:=λb n=>by unfold upd;exact ar n
 have N:∀b u,H b=some u->upd H ea (Jl a) b=some u:=λb u q=>by
  rw[at_ b λz=>by rw[z,d]at q;cases q];exact q
 refine⟨I.ok,I.os,I.bare,⟨I.base.keep,I.base.slot,λb o q n nx=>?_,I.base.there,λb xs q=>N _ _ (I.base.tups b xs q),λb o u q=>N _ _ (I.base.frzs b o u q),λb ps q=>?_⟩,I.loc,I.cell,?_,λy c e=>?_,λp f=>?_,λb u q=>?_,I.len⟩
 ·obtain⟨o0,Q⟩:=i.base.there b o q nx
  rw[at_ b (ne b o0 Q)];exact I.base.free b o q n nx
 ·obtain⟨more,z⟩:=I.base.tbls b ps q
  exact⟨more,N _ _ z⟩
 ·obtain⟨m,⟨o0,_,_,h,_⟩,_⟩:=i.loc
  rw[at_ _ (ne _ o0 h)];exact I.free
 ·obtain⟨v,o0,h,_⟩:=i.cell y c e
  rw[at_ _ (ne _ o0 h)];exact I.freeC y c e
 ·obtain⟨j,g,P⟩:=I.pin p f
  refine⟨j,?_,P⟩;rw[at_ _ (ne _ _ (i.pin p f).1)];exact g
 ·by_cases z:b=ea
  ·subst z
   have:u=Jl a:=by
    unfold upd at q;rw[ah rfl]at q;exact(az q).symm
   subst this;exact⟨he,⟨a,he⟩⟩
  ·rw[at_ b z]at q
   exact(I.hok b u q).stay (λ_ _ _ z=>z) (λc z=>N c _ z) λc xs z=>N c _ z
def Ic (X:Cx)(pins:bK)(σ:St)(s0:Shared)(D:Addr)(k:Addr->Addr->Hp->Prop)(e:Value)(s:Shared):Prop:=
 ∃E C H B n,e=.ref E/\Inv X pins σ H s/\kr H s.heap s0.heap E (.ref C)/\Tr s.heap E/\(∀b o,s0.heap.get? b=some o->∃o',s.heap.get? b=some o')/\Mi.wt X.K C B n=true/\ZK X.K C D=true/\∀a,a.cls=.ref C->H E=none->k E C (upd H E (Jl a))
def Ik {l n:Str}{p:bI}{newD:String}{S:bU}{B:Stmt}{np hp:Pos}{Q:Flow->Shared->Prop}{k:Addr->Addr->Hp->Prop}
  (I0:Inv X pins σ H0 s0)(t:X.stack=X.env::X.outer)(hL:X.env.frame=some L)(hD:yk X.K l (.ref D))(exD:Mi.wt X.K D p newD=true)(hbD:p.contains (.type "BaseException")=true)
  (hN:X.N.Nodup)(hi:X.N[i]? =some n)(hx:Loc X.env.scope n)
  (y:wpAny (model X.prog X.w) X.A (execs body X.env) (λf s1=>f=.next/\Q .next s1) (Ic X pins σ s0 D k) s0)
  (b:∀E C H s2,Inv X pins (σ.set i (some (.ref E))) H s2->k E C H->∀E',wpAny (model X.prog X.w) (X.A.mark (some (.ref E))) (execs (B::S) X.env)
   (λf s4=>wpAny (model X.prog X.w) X.A (do bindName X.env n .none;unbindBehindTheSuite X.env n hp) (λ_ s5=>Q f s5) X.xe s4) E' s2)
  (hg:Gl X l)(Z:(l==("__debug__":Str))=false:=by decide)(hf:X.fn n=true∨X.env.scope.names.lookup n=some .local:=by first|exact .inl rfl|exact .inr rfl|assumption):
  wpAny (model X.prog X.w) X.A (exec (.Try body [.ExceptHandler (some (.Name l np)) (some n) (B::S) hp] [] [] pos) X.env) Q X.xe s0:=by
 refine wpAny_Try_except (wpAny_mono y (λf s1 ⟨ef,q⟩=>?_) λe s1 h=>?_)
 ·subst ef
  exact wpAny_execs_nil q
 obtain⟨E,C,H,bmC,newC,rfl,I,x,tr,th,exC,up,hk⟩:=h;have hm:X.mg l=some (.ref D):=a3 I.mod.kin I.mod.glob hD;obtain⟨T,a0,nT,hT,fl⟩:=flying I x tr;have Y:X.A.frames=some (X.env::X.outer):=by rw[<- t];exact I.ok.frames
 refine wpAny_looks_onW Y hL (by rw[<- t];exact fl) λh₄ g d=>?_
 refine wpAny_landsW g λo a U=>?_;obtain⟨c,x5,r,z⟩:=landed I0 I x nT hT th (by rw[<- t]at a;exact a) (d.trans U)
 obtain⟨_,_,oe,_,_,he,hc,_⟩:=id x5;refine wpAny_handleBy_cons (codeAny_handlers_test (Calls.Name_function_global c.ok.kind hg (Calls.loadGlobal_global (by rw[c.ok.glob];exact c.mod.glob.keeps c.bk) hm ?_) Z)) (by intro q;cases q)
 refine Pe (s:={ s1 with heap:=o }) (WX c.kIn exC) (WX c.kIn exD) hbD he hc (Eh c.kIn up) ?_
 refine codeAny_handlers_suite_as ?_;obtain⟨T',a0',M,hT',fl'⟩:=flying c x5 r;refine lands_againW fl' λh₆ j u=>?_;obtain⟨I6,x6,_,_⟩:=landed I0 c x5 M hT' z j u;obtain⟨of,P,J,I7⟩:=Qk I0 I6 x6;exact JP (v:=.ref E) I7 hN hi hx rfl (λs7 I7=>b E C _ s7 I7 (hk of P J) _) hf
end
section
variable {A:Around}
def name_goes {n:Str}{Q:Unit->Shared->Prop}(I:Inv X pins σ H s)(hN:X.N.Nodup)(D:X.N[i]? =some n)(Z:X.env.scope.names.lookup n=some .local)
  (h:∀s',Inv X pins (σ.set i none) H s'->Q () s'):wpAny M A (do bindName X.env n .none;unbindBehindTheSuite X.env n pos) Q E s:=by
 obtain⟨m,hn,Y⟩:=id I.loc;have f:i < σ.length:=by rw[I.len];exact(bY.mp D).1
 refine wpAny_nameGoes_keeps Z hn (by rw[I.ok.kind];rfl) λh' v w t=>h _ ?_
 have old:∀b o,b≠X.env.locals->s.heap.get? b=some o->h'.get? b=some o:=λb o n q=>(t.2 b n).trans q;have nl:∀{b:Addr}{u:HO},H b=some u->b≠X.env.locals:=λq z=>by rw[z,I.free]at q;cases q
 have ab:∀{b:Addr}{k:Nat},b<k->k<=X.env.locals->b≠X.env.locals:=λl g=>aI (aA l g);refine⟨I.ok,I.os,I.bare,⟨λb o e z C x=>?_,λb o e z C x=>?_,I.base.free,λb o e x=>?_,I.base.tups,I.base.frzs,I.base.tbls⟩,⟨_,w,λj y K a r e3=>?_⟩,λy c e=>?_,I.free,I.freeC,λp T=>?_,λb u q=>?_,by simpa using I.len⟩
 ·exact old b o (ab (aB e) I.ok.above) (I.base.keep b o e z C x)
 ·obtain⟨S,a⟩:=I.base.slot b o e z C x
  exact⟨S,old b _ (ab (aB e) I.ok.above) a⟩
 ·obtain⟨o',a⟩:=I.base.there b o e x
  exact⟨o',old b _ (ab (aB e) I.ok.above) a⟩
 ·by_cases B:j=i
  ·subst B
   rw[aE f]at r;cases r
  ·rw[aF (Ne.symm B)]at r
   obtain⟨U,L,q⟩:=Y j y K a r e3;refine⟨U,L,?_⟩;rcases q with ⟨k,e⟩|⟨k,c,e,z⟩
   ·have:y≠n:=λe=>B (K9 hN a (e ▸ D))
    exact .inl ⟨k,by simp[this,e]⟩
   ·exact .inr ⟨k,c,e,z.sameBut t (I.cne y c e)⟩
 ·obtain⟨J,z⟩:=I.cell y c e
  exact⟨J,z.sameBut t (I.cne y c e)⟩
 ·obtain⟨e,z,ne,P,d⟩:=I.pin p T
  exact⟨old _ _ ne e,z,ne,P,d⟩
 ·refine(I.hok b u q).stay (λc v hc z=>old c v ?_ z) (λ_ z=>z) λ_ _ z=>z
  rcases hc with e|e
  ·rw[e];exact nl q
  ·exact nl e
def Pw {n y:Str}{E:Addr}{np Y ap p:Pos}{Q:Flow->Shared->Prop}{B:bN}(I:Inv X pins (σ.set i (some (.ref E))) H s)(d:X.N.Nodup)(b:X.N[i]? =some n)(x:X.N[j]? =some y)
  (h:X.env.scope.names.lookup n=some .local)(g:Loc X.env.scope y)(q:∀s',Inv X pins (((σ.set i (some (.ref E))).set j (some (.ref E))).set i none) H s'->Q .next s')
  (o:swapsWith (.Name n np) (some (.Name y Y)) ap.line X.env=pure false)(hf:X.fn y=true∨X.env.scope.names.lookup y=some .local)
  (c:(n==("__debug__":Str))=false:=by decide):
  wpAny (model X.prog X.w) A (execs [.Assign [.Name y Y] (.Name n np) ap] X.env) (λf s4=>wpAny (model X.prog X.w) X.A (do bindName X.env n .none;unbindBehindTheSuite X.env n p) (λ_ s5=>Q f s5) X.xe s4) B s:=by
 obtain⟨m,hn,t⟩:=I.loc;have a:i < σ.length:=by have:=I.len;rw[length_set]at this;rw[this];exact(bY.mp b).1
 obtain⟨u,r,l⟩:=t i n (.ref E) b (aE a) (.inl h);obtain rfl:u=Value.ref E:=r;have hm:m n=some (.ref E):=by
  rcases l with ⟨_,e⟩|⟨k|k,_⟩
  ·exact e
  ·rw[show X.env.kindOf n=some .local from h]at k;cases k
  ·rw[show X.env.kindOf n=some .local from h]at k;cases k
 refine wpAny_execs_cons (wpAny_Assign_Name (wpAny_Name (wpAny_loadName_local I.ok.kind h hn hm ?_) c) o);exact JP (v:=.ref E) I d x g rfl (λs5 z=>wpAny_execs_nil (name_goes z d b h q)) hf
end
open PySem PySem.W PySem.Spec PySem.Calls PyProof.Rows Builtin Builtin.ObjectAttr Builtin.Getset_descriptor
section
variable {prog:Program}{A:Around}{K:Frag}{x:Addr}{name:Str}
def IA {a g:Value}(X:K.In h)(b:findIn K (.ref D) name=some (some a))(hn:specialIn K a "__get__"=some (some g))(H:takesIn K a=some true):Looks M h (find (.ref x) (.ref D) name) (.bind g a):=
 (looks_findIn (M:=M) X b).andThen ((show Looks M h (getOf (some a)) (some g) from looks_specialIn X hn).andThen
  ((show Looks M h (dataDescriptor? (some a) (some g)) (some (g,a)) from (looks_takesIn (M:=M) X H).andThen .now).andThen (Looks.tag .now)))
def MJ {tp:Value}{R:Result->Shared->Prop}(X:K.In s.heap)(l:Looks (model prog w) s.heap (typeOf (.ref x)) (.ref D))(hm:mroIn K D (.type "object")=some true)(h:R (.ok (.ret (.ref D))) s):
  codeAny (model prog w) A (.call (.builtin "getset_descriptor.__get__") ⟨[.builtin "object.__class__",.ref x,tp],[]⟩) R s:=by
 obtain⟨h0,g,d,t0,o0⟩:=s;have L:=looks_mroIn (M:=model prog w) X hm;have S:=KF.slot_gs;refine codeAny_call_builtin S.plain KF.entry_gs (S.check _ _ _ _ _ _ _ _ KF.type_class (KF.args_gs _ _ _) ?_);unfold «getset_descriptor.__get__» descrGet;rw[dga_obj];refine bV (bW ?_);unfold descrGetter descrCheckInstance isInstance descrNameAndClass;simp only[KF.owner_class]
 repeat lk
 refine And.intro (Code.quiet_builtin _ (by decide +kernel)) (codeAny_builtin KF.entry_class ?_)
 unfold «object.__class__» shownTypeOf
 repeat lk
 exact h
def Ph {rest:bI}{kw:List (Str×Value)}{Q:Unit->Shared->Prop}(X:K.In s.heap)(l:Looks M s.heap (typeOf (.ref x)) (.ref D))(hm:mroIn K D (.type "BaseException")=some true)
  (ok:argsOk "BaseException.__getattribute__" ⟨.ref x::rest,kw⟩)(h:Q () s):wpAny M A (checkBuiltinCall "BaseException.__getattribute__" ⟨.ref x::rest,kw⟩) Q E s:=by
 have cut:splitId "BaseException.__getattribute__"=some ("BaseException","__getattribute__"):=by first|rfl|decide +kernel
 have kinds:builtinKind "BaseException.__getattribute__"=some .slot∨builtinKind "BaseException.__getattribute__"=some .method:=by
  simp only[builtinKind,cut]
  first|exact .inl (by decide +kernel)|exact .inr (by decide +kernel)
 have L:=looks_mroIn (M:=M) X hm;have r:wpAny M A (match Manifest.signature? "BaseException.__getattribute__" with|some sig=>Bind.checkArgs "BaseException.__getattribute__" sig ⟨.ref x::rest,kw⟩|none=>pure ()) Q E s:=wpAny_of_eq ok h
 rcases kinds with k|k
 all_goals
  unfold checkBuiltinCall;rw[k,cut];dsimp only;unfold isInstance;refine bV (bV (l.at (L.at ?_)));exact r
def RG {Q:Option Value->Shared->Prop}(b:findIn K (.ref D) "__getattribute__"=some (some (.builtin "BaseException.__getattribute__")))(n:findIn K (.ref D) "__getattr__"=some none)
  (e:findIn K (.ref D) "__class__"=some (some (.builtin "object.__class__")))
  (hn:specialIn K (.builtin "object.__class__") "__get__"=some (some (.builtin "getset_descriptor.__get__")))(H:takesIn K (.builtin "object.__class__")=some true)(hm:mroIn K D (.type "object")=some true)(a:mroIn K D (.type "BaseException")=some true)
  (X:K.In s.heap)(L:Looks (model prog w) s.heap (typeOf (.ref x)) (.ref D))(h:Q (some (.ref D)) { s with toks:=s.toks+1 }):wpAny (model prog w) A (getAttr? (.ref x) "__class__") Q E s:=by
 obtain⟨c,g,d,t,os⟩:=s;have l:=looks_findIn (M:=model prog w) X b;have L2:=IA (M:=model prog w) (x:=x) X e hn H;have f:=looks_findIn (M:=model prog w) X n;unfold getAttr?;unfold getAttrBy?;unfold getAttrBy;refine bV (wpAny_mkText (bV (wpAny_attempt (wpAny_holding (bV (L.at (bV (l.at ?_))))))));show wpAny _ _ (getAttrByItsOwn (.ref x) (.str "__class__" t) (.ref D) (.builtin "BaseException.__getattribute__") false false) _ _ _;unfold getAttrByItsOwn;refine bV ?_;show wpAny _ _ (typeLookup (.ref D) "__getattr__") _ _ _;refine f.at (bV (wpAny_attempt (wpAny_holding ?_)));show wpAny _ _ (bindSpecial (.builtin "BaseException.__getattribute__") (.ref x) >>= _) _ _ _;refine bV (wpAny_of_eq (F.excAttr_ValueError.ga.bind _) ?_);refine wpAny_call (codeAny_call_builtin F.excAttr_ValueError.ga.plain F.entry_bexc_ga (Ph X L a (F.args_bexc_ga _ _) ?_));unfold «object.__getattribute__»;refine bV (wpAny_of_eq (show slotArgs "__getattribute__" 1 ⟨[.ref x]++[.str "__class__" t],[]⟩=pure (.ref x,[.str "__class__" t]) from rfl) ?_)
 refine bV (wpAny_of_eq (show attrName (.str "__class__" t)=pure ("__class__":Str) from rfl) (bV (L.at (bV (L2.at ?_)))))
 show wpAny _ _ (holding [Value.builtin "object.__class__"] (call (.builtin "getset_descriptor.__get__") [.builtin "object.__class__",.ref x,.ref D]) >>= ret) _ _ _;refine bV (wpAny_holding (wpAny_call (MJ (s:=⟨c,g,d,t+1,os⟩) X L hm ?_)));refine bW ?_;exact handed_on rfl (bW h)
end
def Yg (x D:Addr)(h:Heap):Prop:=∃o,h.get? x=some o/\o.cls=.ref D
def Yg.ty {x:Addr}(p:Yg x D h):Looks M h (typeOf (.ref x)) (.ref D):=by
 obtain⟨o,H,c⟩:=p;rw[<- c];exact(Looks.ld H).andThen .now
def NW {K:Frag}{x:Addr}(d:(clsIn K D).isSome=true)(c:findIn K (.ref D) "__getattribute__"=some (some (.builtin "BaseException.__getattribute__")))(b:findIn K (.ref D) "__getattr__"=some none)(e:findIn K (.ref D) "__class__"=some (some (.builtin "object.__class__")))
  (hn:specialIn K (.builtin "object.__class__") "__get__"=some (some (.builtin "getset_descriptor.__get__")))(H:takesIn K (.builtin "object.__class__")=some true)(hm:mroIn K D (.type "object")=some true)(a:mroIn K D (.type "BaseException")=some true):
  KitX K (.ref x) (.ref D) (Yg x D) where
 ty:=λ_ _ _ p=>p.ty
 it:=λ_ _ X _=>by
  obtain⟨C,h⟩:=Option.isSome_iff_exists.mp d;unfold clsIn at h
  split at h
  ·rename_i g d' f s o
   intro A Q' E s' k q;unfold isType loadHead;exact bV (wpAny_loadPart (k _ _ (X D _ o)) (bW q))
  ·cases h
 ne:=λ_ tp dd i n S X t=>by
  obtain⟨C,h⟩:=Option.isSome_iff_exists.mp d;rw[Bool.eq_false_iff];intro q;cases Value.ref.inj (aJ.mp q);unfold clsIn at h
  split at h
  ·rename_i o
   cases (X _ _ o).symm.trans t
  ·cases h
 ca:=λX p k=>RG c b e hn H hm a X p.ty k
noncomputable def Q7 (K:Frag)(C:Addr):Bool:=(PySem.W.clsIn K C).isSome&&(PySem.W.findIn K (.ref C) "__getattribute__" == some (some (.builtin "BaseException.__getattribute__")))&&(PySem.W.findIn K (.ref C) "__getattr__" == some none)&&(PySem.W.findIn K (.ref C) "__class__" == some (some (.builtin "object.__class__")))&&
 (PySem.W.specialIn K (.builtin "object.__class__") "__get__" == some (some (.builtin "getset_descriptor.__get__")))&&(PySem.W.takesIn K (.builtin "object.__class__")==some true)&&(PySem.W.mroIn K C (.type "object")==some true)&&(PySem.W.mroIn K C (.type "BaseException")==some true)
section
variable {A:Around}{c:Value}{b:Bool}{ea C:Addr}
def HV {o:Obj}{u:HO}(I:Inv X pins σ H s)(e:H ea=some (.frz o u))(d:o.cls=.ref C)(k:Q7 X.K C=true)(q:kitOne X.K (.ref C) c=some b)(h:∀tk,Q (.bool b) { s with toks:=tk }):
  wpAny (model X.prog X.w) A (call (.builtin "isinstance") [.ref ea,c]) Q E s:=by
 have p:Yg ea C s.heap:=⟨o,(show qQ X.prog X.w H s.heap ea (.frz o u) from I.hok ea _ e).1,d⟩
 unfold Q7 at k;simp only[aq,aJ]at k;obtain⟨⟨⟨⟨⟨⟨⟨k1,k2⟩,a⟩,k3⟩,i⟩,k5⟩,g⟩,f⟩:=k;exact br (NW k1 k2 a k3 i k5 g f) I.kIn p q (λz=>nomatch z) h
def Ig (I:Inv X pins σ H s)(q:kitOne X.K (.type "NoneType") c=some b)(h:∀tk,Q (.bool b) { s with toks:=tk }):wpAny (model X.prog X.w) A (call (.builtin "isinstance") [.none,c]) Q E s:=
 XZ I (x:=.non) rfl .non q h
end
def gh (P:Program)(w:World)(K:Frag)(mg:bP)(base:Heap)(N:bM)(qual:Str)(scope:Scope)(f:Addr)(cd:Value)(cl:bR)(A:Around)(outer:bQ)(s:Shared)(H:Hp)(E:XK):Cx where
 prog:=P
 w:=w
 K:=K
 mg:=mg
 base:=base
 A:=A.deeper (envX qual scope s.heap.objs.size f cd cl)
 N:=N
 s0:=s
 H0:=H
 env:=envX qual scope s.heap.objs.size f cd cl
 outer:=outer
 stack:=envX qual scope s.heap.objs.size f cd cl::outer
 ex:=[]
 calm:=true
 fn:=λ_=>false
 pn:=[]
 xe:=λe s'=>wpAny (model P w) (A.deeper (envX qual scope s.heap.objs.size f cd cl)) (leaving (envX qual scope s.heap.objs.size f cd cl) e) (λ_ S=>kY P w outer H s E e S) (λa S=>kY P w outer H s E a S) s'
section
variable {K:Frag}{cd:Value}{cl:bR}{A:Around}{outer:bQ}{E:XK}
def PO {h:Hp}{a C:Addr}(I:Inv (gh P w K mg base N qual scope f cd cl A outer s H E) pins σ h s')(x:kr h s'.heap s.heap a (.ref C))(p:E (.ref C) none h):
  (gh P w K mg base N qual scope f cd cl A outer s H E).xe (.ref a) s':=by
 have bs:Un (qe outer) [] H h s.heap s'.heap:=I.base;have stk:∀b∈qe (envX qual scope s.heap.objs.size f cd cl::outer),h b=none:=I.stkFree;have k:s.heap.get? s.heap.objs.size=none:=Heap.get?_none_of_le (aw _);have g:(envX qual scope s.heap.objs.size f cd cl).frame=some s.heap.objs.size:=rfl;have mem:∀b,b∈qe (envX qual scope s.heap.objs.size f cd cl::outer)↔b=s.heap.objs.size∨b∈qe outer:=λb=>by
  unfold qe;rw[bb,g];exact mem_cons
 show wpAny (model P w) (A.deeper (envX qual scope s.heap.objs.size f cd cl)) (leaving (envX qual scope s.heap.objs.size f cd cl) (.ref a)) _ _ s';refine Ue (base:=base) (L:=s.heap.objs.size) I.ok.frames rfl I.stack x (λb u e=>(I.hok b u e).obj) (λb o e=>bs.there b o e (by simp)) λh' k1 k2 X t=>?_
 have r:∀b u,h b=some u->b∉qe (envX qual scope s.heap.objs.size f cd cl::outer):=λb u e hm=>by rw[stk b hm]at e;cases e
 refine⟨a,C,h,rfl,I.os,I.bare,⟨λb o e n nb _=>?_,λb o e n mb _=>?_,λb o e n d=>bs.free b o e n d,λb o e d=>?_,bs.tups,bs.frzs,bs.tbls⟩,λb u e=>?_,X,t,p⟩
 ·have i:b≠s.heap.objs.size:=λz=>by rw[z,k]at e;cases e
  exact k1 b o (bs.keep b o e n nb (by simp)) (λhm=>(mem b).mp hm |>.elim i nb) (.inl ⟨o,e⟩)
 ·obtain⟨l,q⟩:=bs.slot b o e n mb (by simp)
  obtain⟨S,Q⟩:=k2 b _ q ((mem b).mpr (.inr mb));exact⟨S,Q⟩
 ·obtain⟨o',q⟩:=bs.there b o e d
  by_cases hm:b∈qe (envX qual scope s.heap.objs.size f cd cl::outer)
  ·obtain⟨l,z⟩:=k2 b o' q hm;exact⟨_,z⟩
  ·exact⟨o',k1 b o' q hm (.inl ⟨o,e⟩)⟩
 ·refine(I.hok b u e).stay (λc v j q=>?_) (λ_ q=>q) λ_ _ q=>q
  rcases j with z|z
  ·rw[z]at q ⊢;exact k1 b v q (r b u e) (.inr ⟨u,e⟩)
  ·exact k1 c v q (r c _ z) (.inr ⟨_,z⟩)
def FY:wu (gh P w K mg base N qual scope f cd cl A outer s H E) s.heap (wz K E) where
 th:=λpins σ h s' I b o e=>(show Un (qe outer) [] H h s.heap s'.heap from I.base).there b o e (by simp)
 out:=λpins σ h s' d C x I l c a=>PO I l (a C c)
structure K4 (N:bM)(sc:Scope):Prop where
 kind:sc.kind=.function
 co:sc.isCoroutine=false
 gen:sc.isGenerator=false
 nocell:∀y∈sc.names,y.2≠.cell
structure JY (base:Heap)(N:bM)(scope:Scope)(cl:bR)(vs:List V):Prop where
 len:vs.length=N.length
 inj:∀x y c,cl.lookup x=some c->cl.lookup y=some c->x=y
 has:∀x,scope.names.lookup x=some .free->∃c,cl.lookup x=some c
 cell:∀x c,cl.lookup x=some c->∃v,base.IsCell c v
 val:∀(i:Nat)(x:Str)(v:V),N[i]? =some x->vs[i]? =some v->∃c u,scope.names.lookup x=some .free/\cl.lookup x=some c/\base.IsCell c (some u)/\RelV v u
def MP {l:Heap}{tk:Tok}(S:K4 N scope)(hd:A.handled=none)(g:Qs P w K mg base A outer s H)(C:JY base N scope cl vs)(t:∃m,l.Ns s.heap.objs.size m)(x:∀b o,s.heap.get? b=some o->l.get? b=some o):
  Inv (gh P w K mg base N qual scope f cd cl A outer s H E) [] (L2.start N vs) H { s with heap:=l,toks:=tk }:=by
 have n:∀b:Addr,b∉(gh P w K mg base N qual scope f cd cl A outer s H E).ex:=λb z=>absurd (show b∈([]:bJ) from z) (by simp)
 have bk:∀c v,base.IsCell c v->l.IsCell c v/\H c=none:=λc v ⟨o,B,hd⟩=>⟨⟨o,x _ _ (g.bs _ _ B).1,hd⟩,(g.bs _ _ B).2⟩;obtain⟨m,hm⟩:=t;refine⟨⟨g.mod,S.kind,rfl,rfl,aw _,C.inj,λy j=>?_,λy c z _=>(nomatch z),λ_=>hd,Around.frames_deeper g.frames,.inr ⟨rfl,rfl⟩,λb z=>absurd z (n b),g.bs,g.bsz,λb _ _=>n b,λb z=>absurd z (n b),g.funs,g.frf⟩,
  rfl,g.bare,Un.kept x,⟨m,hm,λi y v l d J=>?_⟩,λy c h=>?_,g.hok.fresh (aw _),λy c h=>?_,λp D=>absurd (show p∈([]:bK) from D) (by simp),g.hok.kept x,?_⟩
 ·have j:scope.names.lookup y=some .cell∨scope.names.lookup y=some .free:=j
  rcases j with j|j
  ·exact absurd rfl (S.nocell _ (PySem.mem_of_lookup j))
  ·exact C.has y j
 ·have q:i<vs.length:=by
   unfold L2.start at d
   by_cases q:i<vs.length
   ·exact q
   ·rw[au (by simpa using q)]at d
    rw[bj]at d
    split at d<;>cases d
  have I:vs[i]? =some v:=by
   unfold L2.start at d;rw[ag (by simpa using q),av]at d
   cases e:vs[i]? with
   |none=>rw[e]at d;cases d|some a=>rw[e]at d;cases d;rfl
  obtain⟨c,u,k,e,z,r⟩:=C.val i y v l I;exact⟨u,r,.inr ⟨.inr k,c,e,(bk _ _ z).1⟩⟩
 ·obtain⟨v,z⟩:=C.cell y c h
  exact⟨v,(bk _ _ z).1⟩
 ·obtain⟨v,z⟩:=C.cell y c h
  exact(bk _ _ z).2
 ·unfold L2.start
  show _=N.length;rw[aG,aj,bt,C.len];omega
def UC (o:Obj)(q:Str):Prop:=∃vs t,o.data=.fields vs/\vs[1]? =some (.str q t)
def L9 {name:Str}{params:Arguments}{body:Expr}{pm ctv:Value}{i:Obj}{u uc:HO}{m:Ev}(S:K4 N scope)(C:JY base N scope cl vs)(p:UC i qual)
  (g:∀(A:Around)(outer:bQ)(s:Shared)(H:Hp)(E:XK),jo k (A.deeper (envX qual scope s.heap.objs.size a (.ref c) cl))->wu (gh P w K mg base N qual scope a (.ref c) cl A outer s H E) s.heap (wz K E)->
   SE (gh P w K mg base N qual scope a (.ref c) cl A outer s H E) (wz K E) body m):
  j7 P w K mg base (kY P w) (k+1) a (kla_fn name qual params body scope cl pm (.ref c) ctv) [] (λus H Q E=>us=[]/\H a=some (.frz (kla_obj name qual params body scope cl pm c ctv) u)/\H c=some (.frz i uc)/\
   ∃φ A ws,zB K φ A H/\zx K φ H ws vs/\(m (ws.map some) A).post (PB K φ H Q) (EB K φ H (wz K E))):=by
 refine⟨λus H Q E h=>by rw[h.1];rfl,λA outer s H args us D Q E n l hb r h=>?_⟩
 obtain⟨rfl,h1,h2,φ,A1,ws,Sm,B,Y⟩:=h;cases r;have Z:s.heap.get? a=some (kla_obj name qual params body scope cl pm c ctv):=(show qQ P w H s.heap a (.frz _ u) from l.hok a _ h1).1
 have hc:s.heap.get? c=some i:=(show qQ P w H s.heap c (.frz i uc) from l.hok c _ h2).1
 have lim:s.heap.NoLimit:=l.mod.nolimit.keeps λb o e=>(l.bs b o e).1;obtain⟨L,T,z,hd2⟩:=p;refine PySem.W.kla_callFunE n.depth Z rfl S.co S.gen rfl ⟨c,i,L,T,rfl,hc,z,hd2⟩ (hb _ _ _ _ ?_);refine wpAny_newFunctionEnv S.nocell (λy U=>absurd (show y∈([]:List (Str×Value)) from U) (by simp)) (λd t j=>⟨lim.fresh _ j,?_⟩) S.kind
 show codeAny _ _ (.expr body (envX qual scope s.heap.objs.size a (.ref c) cl)) _ _;have f:∀b o,s.heap.get? b=some o->d.get? b=some o:=λb o e=>j.extBut b o (aI (aB e)) (af _ e);have I:∀tk,Inv (gh P w K mg base N qual scope a (.ref c) cl A outer s H E) [] (L2.start N vs) H { s with heap:=d,toks:=tk }:=λtk=>MP S n.hd l C ⟨_,t⟩ f
 refine PySem.W.kla_codeExpr (wpAny_mono (g A outer s H E (n.deeper _) FY [] _ (L2.start N vs) H Q (I _) ⟨φ,A1,_,Sm,RE.start (N:=N) B,?_⟩) (λv s' X=>?_) λ_ _ y=>y)
 ·have:N.length-ws.length=0:=by rw[B.length,C.len];omega
  rw[this,List.replicate_zero,bo];exact Y
 ·obtain⟨x,H',J,M,q⟩:=X
  exact⟨x,H',J.os,J.bare,J.base,J.hok,M,q⟩
end
inductive Fp (K:Frag)(a:Addr)(ob:Obj)(u:HO)(c:Addr)(oc:Obj)(uc:HO)(vs:List V)(g:Fn)(us:List V)(H:Hp)(Q:VK)(E:XK):Prop
 |mk (e:us=[]) (h1:H a=some (.frz ob u)) (h2:H c=some (.frz oc uc)) (φ:bJ) (A:Hx) (ws:List W) (S:zB K φ A H) (r:zx K φ H ws vs) (q:(g ws A).post (PB K φ H Q) (EB K φ H (wz K E)))
def ZF (P:Program)(w:World)(K:Frag)(mg:bP)(base:Heap)(j:Nat)(p:Obj->Addr->Obj->List V->Prop)(g:Fn):Prop:=
 ∀a ob u c o uc vs,p ob c o vs->(∃fd,ob.data=.func fd)/\∃fd,j7 P w K mg base (kY P w) j a fd [] (Fp K a ob u c o uc vs g)/\∀s,BindsTo s fd ⟨[],[]⟩ []
open Classical in
noncomputable def Yv (i:Nat)(PG:Nat->Obj->Addr->Obj->List V->Prop)(lam:Nat->Fn):Ev:=λρ A=>match ρ[i]? with
 |some (some (.clo k ws P))=>if P=PG k then lam k ws A else .bad|_=>.bad
def Jp (i j l:Nat)(cs:bM)(PG:Nat->Obj->Addr->Obj->List V->Prop)(lam:Nat->Fn):Ex:=λρ A=>match Yv i PG lam ρ A with
 |.ok _ A1=>.ok (.nx ρ) A1|.exc x A1=>if cs.contains x then .ok (.nx (((ρ.set l (some (.xc x))).set j (some (.xc x))).set l none)) A1 else .bad|.bad=>.bad
section
variable {K:Frag}
def RE.unset (r:RE K φ H ρ σ):RE K φ H (ρ.set i none) (σ.set i none):=
 ⟨by simp[r.len],λj u e=>by
  by_cases h:i=j
  ·subst h
   have a:i < ρ.length:=by
    have:=(bY.mp e).1
    simpa using this
   rw[aE a]at e;cases e
  ·rw[aF h]at e
   obtain⟨x,c,b⟩:=r.get j u e;exact⟨x,by rw[aF h];exact c,b⟩⟩
end
def Ti (K:Frag)(φ:bJ)(H:Hp)(ρ:En)(j l:Nat)(D:Ends)(x:Str)(A:Hx):Prop:=∀a h b,Le K φ H a h->zB K a A h->RE K a h (((ρ.set l (some (.xc x))).set j (some (.xc x))).set l none) b->D.nx b h
inductive E6 (K:Frag)(φ:bJ)(H:Hp)(ρ:En)(j l:Nat)(D0:Ends)(ea C:Addr)(H':Hp):Prop
 |mk (xn:Str) (φ':bJ) (A':Hx) (le:Le K φ H φ' H') (S:zB K φ' A' H') (rv:RV K φ' H' (.xc xn) (.ref ea)) (n:Ti K φ H ρ j l D0 xn A')
inductive Et (K:Frag)(φ:bJ)(H:Hp)(ρ:En)(j l:Nat)(D0:Ends)(cs:bM)(Cv:Value)(d:bT)(H1:Hp):Prop
 |mk (xn:Str) (Ca:Addr) (e:Cv=.ref Ca) (hC:yk K xn (.ref Ca)) (hc:cs.contains xn=true) (φ1:bJ) (A1:Hx) (le:Le K φ H φ1 H1) (S:zB K φ1 A1 H1) (n:Ti K φ H ρ j l D0 xn A1)
def Td (K:Frag)(f:Str->Option Bool)(cv:V):List V->Hp->VK->Prop:=λxs H Q=>∃x,xs=[x,cv]/\((x=.non/\Q (.bl false) H)∨∃a o u C nm b,x=.ref a/\H a=some (.frz o u)/\o.cls=.ref C/\yk K nm (.ref C)/\f nm=some b/\Q (.bl b) H)
structure Q9 (K:Frag)(f:Str->Option Bool)(c:Value):Prop where
 non:kitOne K (.type "NoneType") c=some false
 exc:∀nm C b,f nm=some b->yk K nm (.ref C)->Q7 K C=true/\kitOne K (.ref C) c=some b
def qC (f:Str->Option Bool)(m:Ev):Ev:=λρ A=>(m ρ A).bind λw A1=>match w with
 |.non=>.ok (.bl false) A1|.xc nm=>(match f nm with
  |some b=>.ok (.bl b) A1|none=>.bad)
 |_=>.bad
section
variable {m:Ev}{f:Str->Option Bool}
def Vx {cv:V}{c:Value}(g:Q9 X.K f c)(rc:∀u,RelV cv u->u=c):jD X (.builtin "isinstance") (Td X.K f cv):=by
 intro pins s σ H xs us Q I r h;obtain⟨x,rfl,h⟩:=h;obtain⟨u,n,rfl,e,d⟩:=vals2 r;cases rc _ d;rcases h with ⟨rfl,q⟩|⟨a,o,U,C,nm,b,rfl,l,k,j,i,q⟩
 ·cases (show u=Value.none from e)
  exact Ig I g.non λtk=>⟨.bl false,H,I.tok tk,rfl,q⟩
 ·cases (show u=Value.ref a from e)
  obtain⟨k1,k2⟩:=g.exc nm C b i j;exact HV I l k k1 k2 λtk=>⟨.bl b,H,I.tok tk,rfl,q⟩
def qC.read {cv:V}{t:TE}(i:∀σ H Q,Q cv H->t σ H Q):∀σ H Q,tM X.K xr (qC f m) σ H Q->Y0 (Td X.K f cv) (Yn (tM X.K xr m) (Yn t W4)) σ H Q:=by
 rintro σ H Q ⟨φ,A,ρ,S,re,h⟩
 refine tM.go S re (zY.mp h) λw A1 d H1 v c l s q=>?_;refine i σ H1 _ ?_;cases w with
 |non=>
  obtain rfl:=q;exact⟨.non,rfl,.inl ⟨rfl,c d H1 _ l s rfl⟩⟩
 |xc nm=>
  dsimp only at c;cases e:f nm with
  |none=>rw[e]at c;exact c.elim|some b=>
   rw[e]at c;obtain⟨a,o,u,C,rfl,g,Z,z⟩:=q;exact⟨.ref a,rfl,.inr ⟨a,o,u,C,nm,b,rfl,g,Z,z,e,c d H1 _ l s rfl⟩⟩
 |bl _=>exact c.elim|int _=>exact c.elim|str _=>exact c.elim|tup _=>exact c.elim|ref _=>exact c.elim|clo _ _ _=>exact c.elim
end
def SO {a b:Int}{c cv:Value}(l:bI)(h:TriplesOk l)(e:codeAmong pos (l++[rawInt a,rawInt b,c])=some cv):codeAmong pos l=some cv∨cv=c:=by
 fun_induction TriplesOk l with
 |case1=>
  right
  simp only[nil_append,codeAmong,rawInt]at e
  split at e
  ·exact(az e).symm
  ·cases e
 |case2 A t B u x rest i=>
  simp only[List.cons_append,codeAmong]at e ⊢
  split at e
  ·rename_i H;rw[ah H];exact .inl e
  ·rename_i H;rw[ar H];exact i h e
 |case3 l f d=>exact h.elim
def BMain (mg:bP)(base:Heap):Prop:=∃bm o,mg "__builtins__"=some (.ref bm)/\bm≠builtinsNs/\bm≠mainGlobals/\base.get? bm=some o/\o.cls=.type "module" /\ o.dict=some builtinsNs/\o.data=.plain
noncomputable def YJ (q:Str)(params:Arguments)(body:Expr)(scope:Scope)(C:bR):Obj->Addr->Obj->List V->Prop:=λob c o _=>(∃pm ctv,ob=kla_obj "<lambda>" q params body scope C pm c ctv)/\UC o q
noncomputable def gz (n:Nat)(q:Str)(P:Addr)(k:Nat)(PF:Obj->Addr->Obj->List V->Prop):Ev:=λ_ A=>match A[n]? with
 |some (.tab Q P')=>if Q=q/\P'=P then .ok (.clo k [] PF) A else .bad|_=>.bad
section
variable {q:Str}{P:Addr}{params:Arguments}{body:Expr}{clos:bR}
def IE (hB:BMain X.mg X.base)(y:X.env.code=.ref c)(C:CodeHd X.base c P)(hcl:closureFor scope X.env=pure clos)(hq:X.env.qual ++ "<lambda>"=q)(hdef:defaultsOf params X.env=([],[]):=by rfl):
  SE X xr (.Lambda params body scope pos) (gz n q P k (YJ q params body scope clos)):=by
 intro pins s σ H Q I ⟨φ,A,ρ,S,re,h⟩;unfold gz at h;cases Z:A[n]? with
 |none=>rw[Z]at h;exact h.elim|some o=>
  rw[Z]at h;cases o with
  |tab L P'=>
   dsimp only at h
   by_cases hc:L=q/\P'=P
   ·rw[ah hc]at h
    obtain⟨rfl,rfl⟩:=hc;obtain⟨a,ha,eaP,ps,t,Y⟩:=S.ob n _ Z;subst eaP;have hP:s.heap.get? a=some (tabObj ps):=(show qQ X.prog X.w H s.heap a (.tbl ps) from I.hok a _ t)
    have hg:s.heap.Ns mainGlobals X.mg:=I.mod.glob.keeps I.bk;have hgP:mainGlobals≠a:=λz=>by
     obtain⟨o,es,ep,e,hd,_⟩:=hg;rw[z,hP]at e;cases e;cases hd
    have r:s.heap.BuiltinsAt X.mg a:=by
     obtain⟨bm,o,b1,b2,b3,b4,b5⟩:=hB;refine⟨bm,o,b1,b2,b3,λz=>?_,I.bk _ _ b4,b5⟩
     have:=(I.bs _ _ b4).2
     rw[z,t]at this;cases this
    refine PySem.W.kla_eval hdef ?_;rw[hq];have M:∀b,s.heap.objs.size<=b->H b=none:=λb r=>I.hok.fresh r;cases hf:codeAmong pos ps.toList with
    |none=>
     refine PySem.W.kla_makeFunction (mg:=X.mg) hcl I.ok.glob hg y (C.keeps I.bk) hP Y.1 hf hgP r λf ctv h' tk hx x U hrec htb=>?_;obtain⟨c2,g,vc,tc,ec,hoc,D,hd2⟩:=hrec;cases ec;generalize j:kla_obj "<lambda>" L params body scope clos ((X.mg "__name__").getD .none) f ctv=ob;have hPc:a<s.heap.objs.size:=aB hP;have nPc:a≠f:=aI (aA hPc x);have nPf:a≠h'.objs.size:=aI (lt_trans (aA hPc x) U);have T:f≠h'.objs.size:=aI U;have hsf:s.heap.objs.size<=h'.objs.size:=a8 x (bg U);have E:H f=none:=M f x;have l:H h'.objs.size=none:=M _ hsf;have H1f:upd H f (.frz g (.own 0)) h'.objs.size=none:=by rw[z7 (Ne.symm T)];exact l
     generalize B:ps++#[rawInt pos.line,rawInt pos.col,.ref f]=p at htb;have S1:=S.lay (u:=.frz g (.own 0)) E;have S2:=S1.lay (u:=.frz ob (.own 0)) H1f;have fz:∀b o u,upd (upd H f (.frz g (.own 0))) h'.objs.size (.frz ob (.own 0)) b=some (.frz o u)->upd (upd (upd H f (.frz g (.own 0))) h'.objs.size (.frz ob (.own 0))) a (.tbl p) b=some (.frz o u):=λb o u e=>by
      rw[z7];exact e;intro z;rw[z,z7 nPf,z7 nPc,t]at e;cases e
     have fz0:∀b o u,H b=some (.frz o u)->upd (upd H f (.frz g (.own 0))) h'.objs.size (.frz ob (.own 0)) b=some (.frz o u):=λb o u e=>by
      rw[z7 (yK e l),z7 (yK e E)];exact e
     have tg':Jg (upd (upd (upd H f (.frz g (.own 0))) h'.objs.size (.frz ob (.own 0))) a (.tbl p)) L p:=by
      rw[<- B];refine⟨by rw[toList_append];exact TriplesOk_snoc _ _ _ _ Y.1,λpos' cv e=>?_⟩
      rw[toList_append]at e;rcases SO _ Y.1 e with e|e
      ·obtain⟨c0,oc0,u0,vs0,t0,g1,g2,g3⟩:=Y.2 pos' cv e
       exact⟨c0,oc0,u0,vs0,t0,g1,by rw[B];exact fz _ _ _ (fz0 _ _ _ g2),g3⟩
      ·exact⟨f,g,.own 0,vc,tc,e,by rw[B];exact fz _ _ _ (by rw[z7 T,ju]),D,hd2⟩
     obtain⟨l3,S3⟩:=S2.write (o:=.tab L a) (o':=.tab L a) Z rfl rfl ha (u:=.tbl p) ⟨rfl,p,ju,tg'⟩;have l03:Le X.K φ H φ _:=((Le.new E).trans (Le.new H1f)).trans l3;have set3:A.set n (.tab L a)=A:=by
      apply ext_getElem?
      intro i
      by_cases hi:n=i
      ·subst hi
       rw[aE (bY.mp Z).1,Z]
      ·rw[aF hi]
     rw[set3]at S3;have eP:upd (upd (upd H f (.frz g (.own 0))) h'.objs.size (.frz ob (.own 0))) a (.tbl p) a=some (.tbl p):=ju;have ec:upd (upd (upd H f (.frz g (.own 0))) h'.objs.size (.frz ob (.own 0))) a (.tbl p) f=some (.frz g (.own 0)):=by rw[z7 (Ne.symm nPc),z7 T,ju]
     have ef:upd (upd (upd H f (.frz g (.own 0))) h'.objs.size (.frz ob (.own 0))) a (.tbl p) h'.objs.size=some (.frz ob (.own 0)):=by rw[z7 (Ne.symm nPf),ju]
     have J:∀b,b≠a->b≠f->b≠h'.objs.size->upd (upd (upd H f (.frz g (.own 0))) h'.objs.size (.frz ob (.own 0))) a (.tbl p) b=H b:=λb n1 n2 n3=>by rw[z7 n1,z7 n3,z7 n2]
     generalize upd (upd (upd H f (.frz g (.own 0))) h'.objs.size (.frz ob (.own 0))) a (.tbl p)=H3 at S3 l03 eP ec ef J;have kp:∀b o,b≠a->s.heap.get? b=some o->(h'.push ob).get? b=some o:=λb o n e=>af _ (hx b o n e);have old:∀b o,s.heap.get? b=some o->b≠f/\b≠h'.objs.size:=λb o e=>⟨aI (aA (aB e) x),aI (aA (aB e) hsf)⟩;have N:∀b u,H b=some u->b≠f/\b≠h'.objs.size:=λb u e=>⟨yK e E,yK e l⟩;have gP:(h'.push ob).get? a=some (tabObj p):=af _ htb;have I3:Inv X pins σ H3 { s with heap:=h'.push ob,toks:=tk }:=by
      refine I.un ⟨λb o e z r _=>?_,λb o e z r _=>?_,λb o e z _=>?_,λb o e _=>?_,λb xs e=>?_,λb o u e=>?_,λb qs e=>?_⟩ λb u e=>?_
      ·exact kp b o (λw=>by rw[w,t]at z;cases z) e
      ·exact⟨o.slots,kp b o (λw=>by rw[w,t]at z;cases z) e⟩
      ·rw[J b (λw=>by rw[w,t]at z;cases z) (old b o e).1 (old b o e).2];exact z
      ·by_cases r:b=a
       ·rw[r];exact⟨_,gP⟩
       ·exact⟨o,kp b o r e⟩
      ·rw[J b (Q8 e t (by intro w;cases w)) (N b _ e).1 (N b _ e).2];exact e
      ·rw[J b (Q8 e t (by intro w;cases w)) (N b _ e).1 (N b _ e).2];exact e
      ·by_cases r:b=a
       ·subst r
        rw[t]at e;cases e;exact⟨_,by rw[eP,<- B]⟩
       ·exact⟨#[],by rw[J b r (N b _ e).1 (N b _ e).2,e];simp⟩
      ·by_cases h1:b=a
       ·subst h1
        rw[eP]at e;cases e;exact gP
       ·by_cases h2:b=f
        ·subst h2
         rw[ec]at e;cases e;exact⟨af _ hoc,⟨_,af _ hoc⟩⟩
        ·by_cases h3:b=h'.objs.size
         ·subst h3
          rw[ef]at e;cases e;exact⟨ao _ (by rw[<- j];rfl),⟨_,ao _ (by rw[<- j];rfl)⟩⟩
         ·rw[J b h1 h2 h3]at e
          refine(I.hok b u e).stay (λd v hd z=>kp d v ?_ z) (λd z=>?_) λd xs z=>?_
          ·rcases hd with w|w
           ·rw[w];exact h1
           ·exact Q8 w t (by intro w;cases w)
          ·rw[J d (Q8 z t (by intro w;cases w)) (N d _ z).1 (N d _ z).2];exact z
          ·rw[J d (Q8 z t (by intro w;cases w)) (N d _ z).1 (N d _ z).2];exact z
     exact⟨.ref h'.objs.size,H3,I3,rfl,h φ H3 _ l03 S3 ⟨h'.objs.size,ob,.own 0,f,g,.own 0,[],rfl,ef,ec,⟨⟨_,_,j.symm⟩,vc,tc,D,hd2⟩,rfl⟩⟩
    |some cv=>
     obtain⟨f,g,u0,vc,tc,rfl,hHc,D,hd2⟩:=Y.2 pos cv hf;refine PySem.W.kla_makeFunctionHit (mg:=X.mg) hcl I.ok.glob hg y (C.keeps I.bk) hP Y.1 hf r λctv h' tk hx hsz=>?_;generalize j:({ cls:=.type "function",data:=.func (kla_fn "<lambda>" L params body scope clos ((X.mg "__name__").getD .none) (.ref f) ctv) }:Obj)=ob;have l:H h'.objs.size=none:=M _ hsz;have I3:Inv X pins σ (upd H h'.objs.size (.frz ob (.own 0))) { s with heap:=h'.push ob,toks:=tk }:=
      I.laid (λb o e=>af _ (hx b o e)) hsz ⟨ao _ (by rw[<- j];rfl),⟨_,ao _ (by rw[<- j];rfl)⟩⟩
     refine⟨.ref h'.objs.size,_,I3,rfl,h φ _ _ (Le.new l) (S.lay l) ⟨h'.objs.size,ob,.own 0,f,g,u0,[],rfl,ju,?_,⟨⟨_,_,j.symm⟩,vc,tc,D,hd2⟩,rfl⟩⟩;rw[z7 (yK hHc l)];exact hHc
   ·rw[ar hc]at h;exact h.elim
  |_=>exact h.elim
end
structure Lm where
 N:bM
 idx:bL
 params:Arguments
 body:Expr
 scope:Scope
 m:Ev
noncomputable def gE:List Nat->En->Option (List W)
 |[],_=>some []|j::J,ρ=>match ρ[j]?,gE J ρ with
  |some (some w),some ws=>some (w::ws)|_,_=>none
noncomputable def gB:List Nat->St->Option (List V)
 |[],_=>some []|j::J,σ=>match σ[j]?,gB J σ with
  |some (some w),some ws=>some (w::ws)|_,_=>none
theorem XW {K:Frag}(r:RE K φ H ρ σ):∀{J:bL}{ws:List W},gE J ρ=some ws->∃vs,gB J σ=some vs/\zx K φ H ws vs
 |[],ws,e=>by cases e;exact⟨[],rfl,.nil⟩|j::J,ws,e=>by
  unfold gE at e;cases E:ρ[j]? with
  |none=>rw[E]at e;cases e|some o=>cases o with
   |none=>rw[E]at e;cases e|some w=>
    rw[E]at e;cases a:gE J ρ with
    |none=>rw[a]at e;cases e|some b=>
     rw[a]at e;cases e;obtain⟨v,f,d⟩:=r.get j w E;obtain⟨vs,c,h⟩:=XW r a;exact⟨v::vs,by unfold gB;rw[f,c],.cons d h⟩
theorem Vu:∀{J:bL}{vs:List V},gB J σ=some vs->vs.length=J.length/\∀(i:Nat)(v:V),vs[i]? =some v->∃j,J[i]? =some j/\σ[j]? =some (some v)
 |[],vs,e=>by cases e;exact⟨rfl,λi v h=>by simp at h⟩|j::J,vs,e=>by
  unfold gB at e;cases E:σ[j]? with
  |none=>rw[E]at e;cases e|some o=>cases o with
   |none=>rw[E]at e;cases e|some w=>
    rw[E]at e;cases r:gB J σ with
    |none=>rw[r]at e;cases e|some c=>
     rw[r]at e;cases e;obtain⟨f,H⟩:=Vu r;refine⟨by simp[f],λi v h=>?_⟩
     cases i with
     |zero=>simp at h;subst h;exact⟨j,by simp,E⟩|succ i=>simp at h;obtain⟨d,a,b⟩:=H i v h;exact⟨d,by simpa using a,b⟩
noncomputable def yA (ls:List Lm)(k:Nat):Fn:=λws A=>match ls[k]? with
 |some t=>t.m (ws.map some) A|none=>.bad
def kB (env:Env)(q:Str)(ls:List Lm)(k:Nat):Obj->Addr->Obj->List V->Prop:=λob c o vs=>∃t,ls[k]? =some t/\YJ q t.params t.body t.scope (yy env t.scope.names []) ob c o vs
def Qy (env:Env)(q:Str)(ls:List Lm)(σ:St)(k:Nat):Obj->Addr->Obj->List V->Prop:=λob c o vs=>∃t,ls[k]? =some t/\YJ q t.params t.body t.scope (yy env t.scope.names []) ob c o vs/\gB t.idx σ=some vs
structure Qp (P:Program)(w:World)(K:Frag)(mg:bP)(j:Nat)(q:Str)(t:Lm):Prop where
 sc:K4 t.N t.scope
 bind:∀(cl:bR)(pm cdv ctv:Value),bindArgs (kla_fn "<lambda>" q t.params t.body t.scope cl pm cdv ctv) ⟨[],[]⟩=pure []
 body:∀(base:Heap)(cl:bR)(a c:Addr)(A:Around)(outer:bQ)(s:Shared)(H:Hp)(E:XK),jo j (A.deeper (envX q t.scope s.heap.objs.size a (.ref c) cl))->wu (gh P w K mg base t.N q t.scope a (.ref c) cl A outer s H E) s.heap (wz K E)->
  SE (gh P w K mg base t.N q t.scope a (.ref c) cl A outer s H E) (wz K E) t.body t.m
section
variable {K:Frag}{q:Str}{ls:List Lm}
def Iu (l:∀t∈ls,Qp P w K mg j q t)(f:∀t∈ls,∀vs,gB t.idx σ=some vs->JY base t.N t.scope (yy env t.scope.names []) vs)(k:Nat):ZF P w K mg base (j+1) (Qy env q ls σ k) (yA ls k):=by
 rintro a ob u c o uc vs ⟨t,d,⟨⟨pm,ctv,rfl⟩,b⟩,v⟩
 have mt:t∈ls:=mem_of_getElem? d;have L:=l t mt;refine⟨⟨_,rfl⟩,_,((L9 (name := "<lambda>") (params:=t.params) (body:=t.body) (pm:=pm) (ctv:=ctv) (a:=a) (c:=c) (u:=u) (uc:=uc) (m:=t.m) L.sc (f t mt vs v) b λA outer s H E e x=>L.body base _ a c A outer s H E e x)).imp λus H Q E h=>?_,λs=>.of_eq (L.bind _ _ _ _)⟩;obtain⟨n,i,g,φ,A,ws,S,r,h⟩:=h;refine⟨n,i,g,φ,A,ws,S,r,?_⟩;unfold yA at h;rw[d]at h;exact h
end
noncomputable abbrev jq:=Nat->Obj->Addr->Obj->List V->Prop
open Classical in
noncomputable def Zh (PG:jq)(RF:Nat->List W->Hx->R W):Fn:=λus A=>match us with
 |[.clo k ws P]=>if P=PG k then RF k ws A else .bad|_=>.bad
open Classical in
structure Qo (X:Cx)(t:Lm):Prop where
 len:t.idx.length=t.N.length
 nm:∀(i:Nat)(x:Str)(j:Nat),t.N[i]? =some x->t.idx[i]? =some j->X.N[j]? =some x/\t.scope.names.lookup x=some .free
 free:∀y∈t.scope.names,y.2=.free->X.env.kindOf y.1=some .cell∨X.env.kindOf y.1=some .free
section
def JX (I:Inv X pins σ H s){t:Lm}(L:Qo X t)(h:(yy X.env t.scope.names []).lookup x=some c):X.env.cells.lookup x=some c:=by
 rcases Zp _ _ (PySem.mem_of_lookup h) with z|⟨z,e⟩
 ·cases z
 ·obtain⟨C,a⟩:=I.ok.has x (L.free _ z rfl)
  rw[a]at e ⊢;exact congrArg some e.symm
def NL (I:Inv X pins σ H s)(g:∀x c v,X.env.cells.lookup x=some c->s.heap.IsCell c v->base.IsCell c v){t:Lm}(L:Qo X t)(n:gB t.idx σ=some vs):JY base t.N t.scope (yy X.env t.scope.names []) vs:=by
 obtain⟨v1,v2⟩:=Vu n;refine⟨v1.trans L.len,λx y c d b=>I.ok.inj x y c (JX I L d) (JX I L b),λx h=>?_,λx c h=>?_,λi x v d b=>?_⟩
 ·exact Option.isSome_iff_exists.mp (JK _ _ (.inl (PySem.mem_of_lookup h)))
 ·have e:=JX I L h
  obtain⟨v,z⟩:=I.cell x c e;exact⟨v,g x c v e z⟩
 ·obtain⟨j,w,q⟩:=v2 i v b
  obtain⟨p,E⟩:=L.nm i x j d w;have fr:=L.free _ (PySem.mem_of_lookup E) rfl;obtain⟨m,hn,o⟩:=I.loc;obtain⟨u,r,lk⟩:=o j x v p q (.inr fr);obtain⟨c,f⟩:=Option.isSome_iff_exists.mp (JK (env:=X.env) t.scope.names [] (.inl (PySem.mem_of_lookup E)));have l:=JX I L f;rcases lk with ⟨z,_⟩|⟨_,C,a,cell⟩
  ·exfalso
   rcases fr with k|k<;>(rw[k]at z;cases z)
  ·rw[l]at a
   cases a;exact⟨c,u,E,f,g x c _ l cell,r⟩
def Mh (I:Inv X pins σ H s)(h:∀x,X.fn x=true)(e:X.env.cells.lookup x=some c):c∉qe X.stack:=λhm=>by
 rcases bX.mp (I.stkSub c hm) with z|z
 ·exact I.cne x c e z
 ·obtain⟨_,o,a,_⟩:=I.ok.funs.mem z
  exact absurd (aA (aB a) (I.ok.cab x c (h x) e)) (aT _)
noncomputable def wQ (base h:Heap)(cells:bR):Heap:=hideAll h ((List.range h.objs.size).filter λb=>(base.get? b).isNone&&!(cells.any λp=>cells.lookup p.1==some b))
def Vt {o:Obj}(e:(wQ base h cells).get? b=some o):h.get? b=some o/\((∃o',base.get? b=some o')∨∃x,cells.lookup x=some b):=by
 have E:=of_hideAll _ e;refine⟨E,?_⟩
 by_cases hm:b∈(List.range h.objs.size).filter λb=>(base.get? b).isNone&&!(cells.any λp=>cells.lookup p.1==some b)
 ·unfold wQ at e
  rw[hideAll_none _ hm]at e;cases e
 ·rw[mem_filter]at hm
  have c:b∈List.range h.objs.size:=b8.mpr (aB E);cases g:base.get? b with
  |some o'=>exact .inl ⟨o',rfl⟩|none=>
   right
   by_cases H:(cells.any λp=>cells.lookup p.1==some b)=true
   ·obtain⟨p,_,a⟩:=List.any_eq_true.mp H
    exact⟨p.1,aJ.mp a⟩
   ·exact absurd ⟨c,by rw[g];simpa using H⟩ hm
def Pq (k:∀b o,base.get? b=some o->h.get? b=some o){o:Obj}(e:base.get? b=some o):(wQ base h cells).get? b=some o:=
 bz _ (k b o e) λhm=>by
  rw[mem_filter,e]at hm;simp at hm
def Pd {o:Obj}(l:cells.lookup x=some c)(e:h.get? c=some o):(wQ base h cells).get? c=some o:=
 bz _ e λhm=>by
  rw[mem_filter,aq,not_eq_true']at hm
  have:=hm.2.2
  rw[List.any_eq_false]at this;exact this _ (PySem.mem_of_lookup l) (by simpa using l)
end
def PM {K:Frag}{mb:bP}{Y:Addr}{sp:Sp}{S:Shared}{vs:bI}
  (KX:K.In S.heap)(y:S.heap.Ns mainGlobals mg)(c:S.heap.Ns builtinsNs mb)(T:∀x:Str,x ≠ "__name__" -> mb x=bootBuiltins x)(A:S.heap.NoLimit)(hg:S.gens=#[])
  (p:S.heap.get? a=some { cls:=.type "list",data:=.seq vs.toArray })(hi:IntsAre vs ns)(hl:ns.length<=sizeLine)(hr:jo k callerA)
  (t:S.heap.get? Pt=some (tabObj #[]))(U:K.lookup Pt=none)(M:isCodeTable S.heap Pt)(Q:BMain mg S.heap)
  (F:∀base:Heap,K.In base->base.Ns mainGlobals mg->BMain mg base->j7 P w K mg base kZ k Y fd [x] sp)(l:∀(s:Shared)(u:Value),BindsTo s fd ⟨[u],[]⟩ [(x,u)])
  (I:∀H:Hp,H Pt=some (.tbl #[])->Qt K H a (ns.map V.int)->sp [.ref a] H (λv _=>v=.bl true) λ_ _ _=>False):
  codeAny (model P w) callerA (.call (.ref Y) ⟨[.ref a],[]⟩) (λr s'=>r=.ok (.ret (.bool true))/\OldK S.heap s'.heap/\s'.os=S.os/\AllBare s'.gens) S:=by
 have rv:=QJ hi;have L:=hi.length;have j:a≠Pt:=λz=>by rw[z,t]at p;cases p
 have core:∀H:Hp,H Pt=some (.tbl #[])->Qt K H a (ns.map V.int)->jK P w H S.heap->(∀b,H b≠none->b=a∨b=Pt)->(∀u,H a=some u->K.lookup a=none/\∃o xs,u=.frz o (.lst xs))->
   codeAny (model P w) callerA (.call (.ref Y) ⟨[.ref a],[]⟩) (λr s'=>r=.ok (.ret (.bool true))/\OldK S.heap s'.heap/\s'.os=S.os/\AllBare s'.gens) S:=by
  intro H hO hS hok D hK;have base_of:∀{b:Addr}{o:Obj},S.heap.get? b=some o->H b=none->(w5 S.heap H).get? b=some o:=λe n=>Nn e n;have E:∀{b:Addr}{o:Obj}{es:Array DictEntry}{ep:Nat},S.heap.get? b=some o->o.data=.dict es ep->H b=none:=λ {b o es ep} e d=>by
   cases q:H b with
   |none=>rfl|some u=>
    rcases D b (by rw[q];simp) with z|z
    ·subst z
     rw[p]at e;cases e;have d':Data.seq vs.toArray _=Data.dict es ep:=d;cases d'
    ·subst z
     rw[t]at e;cases e;cases d
  have N:∀{b:Addr}{m:bP},S.heap.Ns b m->(w5 S.heap H).Ns b m:=λ {b m} ⟨o,es,ep,e,d,r⟩=>⟨o,es,ep,base_of e (E e d),d,r⟩;have B:K.In (w5 S.heap H):=λb o e=>base_of (KX b o e) (by
   cases q:H b with
   |none=>rfl|some u=>
    rcases D b (by rw[q];simp) with z|z
    ·subst z
     rw[(hK u q).1]at e;cases e
    ·subst z
     rw[U]at e;cases e)
  have X:BMain mg (w5 S.heap H):=by
   obtain⟨bm,o,b1,b2,b3,C,b5,b6,b7⟩:=Q;refine⟨bm,o,b1,b2,b3,base_of C ?_,b5,b6,b7⟩;cases q:H bm with
   |none=>rfl|some u=>
    rcases D bm (by rw[q];simp) with z|z
    ·subst z
     rw[p]at C;cases C;exact absurd b5 (by intro q;injection q with q;exact absurd q (by decide))
    ·subst z
     rw[t]at C;cases C;cases b5
  have hM:Mod K mg (w5 S.heap H):=⟨B,N y,⟨mb,N c,T⟩,let ⟨mc,h1,h2⟩:=A;⟨mc,N h1,h2⟩⟩
  have e0:Qs P w K mg (w5 S.heap H) callerA [] S H:=⟨rfl,hM,λb o e=>Mm e,Nat.le_of_eq (P2 _ _),trivial,λb c=>absurd (show b∈([]:bJ) from c) (by simp),hok,.of_eq hg⟩
  refine codeAny_mono ((F _ B (N y) X).run callerA [] S H ⟨[.ref a],[]⟩ [.ref a] [.ref a] _ _ hr e0 (l S (.ref a)) (.cons rfl .nil) (I H hO hS)) λr s' h=>?_;cases r with
  |error e=>exact False.elim h|ok fl=>
   cases fl with
   |next=>exact False.elim h|brk=>exact False.elim h|cont=>exact False.elim h|ret u=>
    obtain⟨v,H',os,bare,un,g,r',q⟩:=h;have q':v=.bl true:=q;subst q';obtain rfl:u=Value.bool true:=r';refine⟨rfl,⟨λb o e=>?_,λb o e=>un.there b o e (by simp)⟩,os,bare⟩
    cases q:H b with
    |none=>exact .inl (un.keep b o e q (by intro z;exact absurd (show b∈([]:bJ) from z) (by simp)) (by simp))|some u=>
     rcases D b (by rw[q];simp) with z|z
     ·subst z
      obtain⟨ob,xs,rfl⟩:=(hK u q).2;have i:=un.frzs _ ob _ q;obtain⟨e1,_⟩:=hok _ _ q;obtain⟨e2,_⟩:=g _ _ i;rw[e]at e1;cases e1;exact .inl e2
     ·subst z
      rw[t]at e;cases e;obtain⟨more,i⟩:=un.tbls _ _ hO;exact .inr (.inl ⟨M,rfl,#[],more,rfl,g _ _ i⟩)
 cases J:K.lookup a with
 |some o=>
  have e:=KX a o J;rw[p]at e;cases e;refine core (λb=>if b=Pt then some (.tbl #[]) else none) (ah rfl) (.inr ⟨_,vs.toArray,_,J,rfl,rfl,rfl,by rw[aD,L];exact hl,by simpa using rv⟩) (λb u z=>?_) (λb z=>?_) λu z=>?_
  ·by_cases c:b=Pt
   ·have Z:=(ah c).symm.trans z
    cases Z;rw[c];exact t
   ·have Z:=(ar c).symm.trans z
    cases Z
  ·by_cases c:b=Pt
   ·exact .inr c
   ·exact absurd (ar c) z
  ·have Z:=(ar j).symm.trans z
   cases Z
 |none=>
  refine core (λb=>if b=Pt then some (.tbl #[]) else if b=a then some (.frz { cls:=.type "list",data:=.seq vs.toArray } (.lst (ns.map V.int))) else none) (ah rfl)
   (.inl ⟨{ cls:=.type "list",data:=.seq vs.toArray },(ar j).trans (ah rfl)⟩) (λb u z=>?_) (λb z=>?_) λu z=>?_
  ·by_cases c:b=Pt
   ·have Z:=(ah c).symm.trans z
    cases Z;rw[c];exact t
   ·have Z:=(ar c).symm.trans z
    by_cases f:b=a
    ·have i:=(ah f).symm.trans Z
     cases i;subst f;exact⟨p,by rw[aj];exact hl,vs,_,rv,p⟩
    ·have i:=(ar f).symm.trans Z
     cases i
  ·by_cases c:b=Pt
   ·exact .inr c
   ·by_cases f:b=a
    ·exact .inl f
    ·exact absurd ((ar c).trans (ar f)) z
  ·have Z:=((ar j).trans (ah rfl)).symm.trans z
   cases Z;exact⟨J,_,_,rfl⟩
inductive spT (K:Frag)(n:Nat)(fs:jq->Fn)(vs:List V)(H:Hp)(Q:VK)(E:XK):Prop
 |mk (len:vs.length=n) (φ:bJ) (A:Hx) (ws:List W) (S:zB K φ A H) (r:zx K φ H ws vs) (q:∀PF,(fs PF ws A).post (PB K φ H Q) (EB K φ H (XE K E)))
def spT.len {K:Frag}{fs:jq->Fn}{Q:VK}{E:XK}(h:spT K n fs vs H Q E):vs.length=n:=by cases h;assumption
def Ug (q:Str)(fs:Addr->jq->Fn):Prop:=∀ns:bH,ns.length<=63->∀P PF,∃A,fs P PF [.ref 0] [.ro (ns.map W.int),.tab q P]=.ok (.bl true) A
def R9 {K:Frag}{q:Str}(P:H Pt=some (.tbl #[]))(S:Qt K H a (ns.map V.int)):zB K [a,Pt] [.ro (ns.map W.int),.tab q Pt] H:=by
 refine⟨rfl,λi j b o o' g f d c m1 m2=>?_,λn o h=>?_⟩
 ·match i,j,d,c with
  |0,_,d,_=>simp at d;subst d;cases m1|_,0,_,c=>simp at c;subst c;cases m2|1,1,_,_=>rfl|i+2,_,d,_=>simp at d|_,j+2,_,c=>simp at c
 ·match n,h with
  |0,h=>simp at h;subst h;exact⟨a,rfl,ns.map V.int,S,zx.ints.mpr rfl⟩|1,h=>simp at h;subst h;exact⟨Pt,rfl,rfl,#[],P,trivial,λpos cv e=>nomatch e⟩
  |n+2,h=>simp at h
section
variable {K:Frag}
def N7 {a:Value}{o:bT}(hn:nsIn K mainGlobals x=some (some (.ref f)))(lk:K.lookup f=some ⟨a,o,.func fd,osl⟩)(h:tabIn K x=some (c,Pt)):fd.code=.ref c:=by
 unfold tabIn at h;rw[hn]at h;dsimp only at h;rw[lk]at h;dsimp only at h
 split at h
 ·rename_i C H
  split at h
  ·split at h
   ·cases h;exact H
   ·cases h
  ·cases h
 ·cases h
end
noncomputable def Wx (K:Frag)(x:Str)(p:Addr):Bool:=match tabIn K x with
 |some (c,P)=>P==p&&codeHdIn K c p|none=>false
def X3 {K:Frag}(h:Wx K x Pt=true):∃c,tabIn K x=some (c,Pt)/\codeHdIn K c Pt=true:=by
 unfold Wx at h
 split at h
 ·rename_i c P e
  rw[aq,aJ]at h;obtain⟨rfl,H⟩:=h;exact⟨c,e,H⟩
 ·cases h
def Fe {l:PySem.W.OpenLaw}{q:Program}{loose:bM}{I:World->Heap->Prop}{d:DefRec}{Kp:Params->Frag}{Q:Str}{fs:Addr->jq->Fn}(ok:Ug Q fs)
  (hn:l.most=some 63)(y:d.params.defaults=[])(X:jo k callerA)(hY:∀(w:World)(h:Heap),I w h->(Kp w.params).In h)(hT:∀(w:World)(h:Heap),I w h->h.get? Pt=some (tabObj #[]))(L:∀p,Wx (Kp p) d.name Pt=true)(P:∀p,(Kp p).lookup Pt=none)
  (F:∀(w:World)(mg:bP)(i:Addr)(h:Heap),(Kp w.params).In h->h.Ns mainGlobals mg->mg d.name=some (.ref i)->(∃c,tabIn (Kp w.params) d.name=some (c,Pt)/\codeHdIn (Kp w.params) c Pt=true)->
   ∃fd:FuncData,(∀(s:Shared)(u:Value),BindsTo s fd ⟨[u],[]⟩ [(x,u)])/\∀base:Heap,(Kp w.params).In base->base.Ns mainGlobals mg->BMain mg base->j7 l.prog w (Kp w.params) mg base kZ k i fd [x] (spT (Kp w.params) 1 (fs Pt))):
  PySem.W.WalkO q loose XP I l.row.toRowW d [] (λf vs=>PySem.call f vs):=by
 refine Att.RO (n:=63) hn y λw J S mg mb i o pm cd doc a vs ns G Y ho hd M t j hints hlen Z=>?_;have K:=hY w _ Y;obtain⟨fd,hb,hF⟩:=F w mg i _ K G.T.g t (X3 (L w.params));obtain⟨c,_,B⟩:=X3 (L w.params);have N:=hT w _ Y;have hc:isCodeTable S.heap Pt:=((codeHd_of_K K B).tab N).isCodeTable;have C:BMain mg S.heap:=by
  obtain⟨bm,ob,b1,b2,E,b4,b5,D⟩:=G.T.bmain;refine⟨bm,ob,b1,b2,λz=>?_,E,b4,b5,D⟩;obtain⟨o,es,ep,e,hd,_⟩:=G.T.g;rw[z,e]at E;cases E;rw[hd]at D;cases D
 refine PM K G.T.g G.T.b G.T.builtins G.T.nolimit Z j hints (a8 hlen (by decide)) X N (P w.params) hc C hF hb λH h1 h2=>?_
 refine⟨rfl,[a,Pt],[.ro (ns.map W.int),.tab Q Pt],[.ref 0],R9 h1 h2,.one ⟨a,rfl,rfl⟩,λPF=>?_⟩;obtain⟨A,e⟩:=ok ns hlen Pt PF;rw[e];exactλU H' v _ _ r=>r
def yw.m {K:Frag}{f:Fn}(F:yw P w K mg base k x n f):zS P w K mg base k x n λws A=>(f ws A).nox:=by
 obtain⟨i,fd,ps,F,hm,c,d⟩:=F;have up:∀vs H Q E,Jr K n (λws A=>(f ws A).nox) vs H Q E->YR K n f vs H Q (λ_ _ _=>False):=λvs H Q E ⟨l,φ,A,ws,S,r,h⟩=>⟨l,φ,A,ws,S,r,by
  cases a:f ws A with
  |ok u A1=>(try dsimp only at h);rw[a]at h;exact h|exc y A1=>(try dsimp only at h);rw[a]at h;exact h.elim|bad=>(try dsimp only at h);rw[a]at h;exact h.elim⟩
 refine⟨i,fd,ps,⟨λvs H Q E h=>F.len vs H Q _ (up vs H Q E h),λA outer s H args us vs Q E b he t v h=>?_⟩,hm,c,d⟩;refine codeAny_mono (F.run A outer s H args us vs Q _ b he t v (up vs H Q E h)) λr s' h'=>?_;cases r with
 |error e=>
  unfold CR at h';obtain⟨_,_,_,_,_,_,_,_,_,_,z⟩:=h';exact z.elim
 |ok g=>cases g<;>exact h'
theorem yw.mono {K:Frag}{f:Fn}(F:yw P w K mg base j x n f)(h:j<=k):yw P w K mg base k x n f:=by cases F with|mk d fd ps F a b c=>exact⟨d,fd,ps,F.mono h,a,b,c⟩
noncomputable abbrev Y5:bI:=[.type "ValueError",.type "Exception",.type "BaseException",.type "object"]
noncomputable abbrev YL:String := "ValueError.__new__"
section
variable {K:Frag}{cs:bM}{top nm:Str}
noncomputable def clsAt (K:Frag)(x:Str):Addr:=match nsIn K mainGlobals x with
 |some (some (.ref C))=>C|_=>0
def isAt (K:Frag)(x:Str):Bool:=nsIn K mainGlobals x==some (some (.ref (clsAt K x)))
def qS (cs:bM)(x:Str):Str->Option Bool:=λnm=>if cs.contains nm then some (nm==x) else none
def Gw (cs:bM):Str->Option Bool:=λnm=>if cs.contains nm then some true else none
def Za (K:Frag)(cs:bM)(x:Str):Bool:=isAt K x&&kitOne K (.type "NoneType") (.ref (clsAt K x))==some false&&cs.all λnm=>kitOne K (.ref (clsAt K nm)) (.ref (clsAt K x))==some (nm==x)
def Ye (K:Frag)(top nm:Str):Bool:=isAt K nm&&Q7 K (clsAt K nm)&&Mi.wt K (clsAt K nm) Y5 YL&&ZK K (clsAt K nm) (clsAt K top)&&kitOne K (.ref (clsAt K nm)) (.type "ValueError")==some true
def WA (K:Frag)(top:Str):Bool:=isAt K top&&Mi.wt K (clsAt K top) Y5 YL&&kitOne K (.type "NoneType") (.type "ValueError")==some false
def Wo (h:isAt K x=true):yk K x (.ref (clsAt K x)):=aJ.mp h
def K8 {C:Addr}(h:yk K x (.ref C)):C=clsAt K x:=by
 unfold clsAt;unfold yk at h;rw[h]
structure K3 (K:Frag)(top nm:Str):Prop where
 at_:yk K nm (.ref (clsAt K nm))
 kit:Q7 K (clsAt K nm)=true
 exc:Mi.wt K (clsAt K nm) Y5 YL=true
 up:ZK K (clsAt K nm) (clsAt K top)=true
 val:kitOne K (.ref (clsAt K nm)) (.type "ValueError")=some true
def L5 (h:Ye K top nm=true):K3 K top nm:=by
 unfold Ye at h;simp only[aq,aJ]at h;obtain⟨⟨⟨⟨d,c⟩,b⟩,a⟩,H⟩:=h;exact⟨Wo d,c,b,a,H⟩
structure kh (K:Frag)(cs:bM)(top:Str):Prop where
 exc:∀nm,cs.contains nm=true->K3 K top nm
 top_at:yk K top (.ref (clsAt K top))
 top_exc:Mi.wt K (clsAt K top) Y5 YL=true
 non:kitOne K (.type "NoneType") (.type "ValueError")=some false
def HD (h:cs.all (Ye K top ·)=true)(t:WA K top=true):kh K cs top:=by
 unfold WA at t;simp only[aq,aJ]at t;obtain⟨⟨t1,T⟩,t3⟩:=t;exact⟨λnm e=>L5 (b9.mp h nm (List.contains_iff_mem.mp e)),Wo t1,T,t3⟩
def kh.isx (c:kh K cs top)(h:Za K cs x=true):Q9 K (qS cs x) (.ref (clsAt K x)):=by
 unfold Za at h;simp only[aq,aJ]at h;obtain⟨⟨f,d⟩,a⟩:=h;refine⟨d,λnm C b e H=>?_⟩;unfold qS at e
 by_cases hm:cs.contains nm=true
 ·rw[ah hm]at e
  cases e;cases K8 H;exact⟨(c.exc nm hm).kit,aJ.mp (b9.mp a nm (List.contains_iff_mem.mp hm))⟩
 ·rw[ar hm]at e;cases e
def yN (h:Za K cs x=true):yk K x (.ref (clsAt K x)):=by
 unfold Za at h;simp only[aq,aJ]at h;exact Wo h.1.1
def kh.isv (c:kh K cs top):Q9 K (Gw cs) (.type "ValueError"):=by
 refine⟨c.non,λnm C b e h=>?_⟩;unfold Gw at e
 by_cases hm:cs.contains nm=true
 ·rw[ah hm]at e
  cases e;cases K8 h;exact⟨(c.exc nm hm).kit,(c.exc nm hm).val⟩
 ·rw[ar hm]at e;cases e
def kh.under (c:kh K cs top):∀nm,cs.contains nm=true->∀C,yk K nm (.ref C)->∃b n,Mi.wt K C b n=true/\ZK K C (clsAt K top)=true:=λnm hm C h=>by
 cases K8 h;exact⟨_,_,(c.exc nm hm).exc,(c.exc nm hm).up⟩
end
noncomputable def Yu (M:bM)(sc:Scope)(t:Lm):Bool:=t.idx.length==t.N.length&&((List.range t.N.length).all λi=>match t.N[i]?,t.idx[i]? with
 |some x,some j=>M[j]?==some x&&t.scope.names.lookup x==some .free|_,_=>false)&&t.scope.names.all λy=>!(y.2==.free) || (sc.names.lookup y.1==some .cell || sc.names.lookup y.1==some .free)
def VT {t:Lm}(h:Yu X.N X.env.scope t=true):Qo X t:=by
 unfold Yu at h;rw[aq,aq]at h;obtain⟨⟨d,c⟩,b⟩:=h;refine⟨aJ.mp d,λi x j E f=>?_,λy H e=>?_⟩
 ·have a:i<t.N.length:=(bY.mp E).1
  have q:=b9.mp c i (b8.mpr a);rw[E,f]at q;dsimp only at q;rw[aq]at q;exact⟨aJ.mp q.1,aJ.mp q.2⟩
 ·have q:=b9.mp b y H
  rw[e]at q;rw[bC,bC]at q;rcases q with q|q|q
  ·cases q
  ·exact .inl (aJ.mp q)
  ·exact .inr (aJ.mp q)
def all_nil {p:α->Prop}:∀t∈([]:List α),p t:=λ_ h=>nomatch h
def all_cons {p:α->Prop}{a:α}{l:List α}(h:p a)(r:∀t∈l,p t):∀t∈a::l,p t:=λt H=>by
 rcases bX.mp H with e|e
 ·rw[e];exact h
 ·exact r t e
def Hh {q:Str}{ls:List Lm}{t:Lm}(H:ls[k]? =some t):kB env q ls k=YJ q t.params t.body t.scope (yy env t.scope.names []):=by
 funext ob c o vs
 refine propext ⟨λ⟨t',e,h⟩=>?_,λh=>⟨t,H,h⟩⟩;rw[H]at e;cases e;exact h
noncomputable def Q6:Stmt:=.Pass ⟨0,0,0,0⟩
noncomputable def ZE:Expr:=.Constant .none 0 ⟨0,0,0,0⟩
def EL (s:Stmt)(i:Nat):Stmt:=match s with
 |.For _ _ b _ _=>b.getD i Q6|.If _ b _ _=>b.getD i Q6|.While _ b _ _=>b.getD i Q6|_=>Q6
def EJ (e:Expr)(i:Nat):Expr:=match e with
 |.Call _ a _ _=>a.getD i ZE|.List E _=>E.getD i ZE|.Tuple E _ _=>E.getD i ZE|.BinOp a _ b _=>if i=0 then a else b|_=>ZE
noncomputable def E5 (e:Expr):Arguments:=match e with
 |.Lambda a _ _ _=>a|_=>{ posonlyargs:=[],args:=[],vararg:=none,kwonlyargs:=[],kw_defaults:=[],kwarg:=none,defaults:=[] }
def EA (e:Expr):Expr:=match e with
 |.Lambda _ b _ _=>b|_=>ZE
noncomputable def EK (e:Expr):Scope:=match e with
 |.Lambda _ _ s _=>s|_=>{ kind:=.function,names:=[],isGenerator:=false,isCoroutine:=false }
def Tf (e:Expr)(N:bM)(idx:bL)(m:Ev):Lm:=⟨N,idx,E5 e,EA e,EK e,m⟩
def FC {K:Frag}{st:Stmt}(F:kf K x x st f fd)(hm:mg x=some (.ref f))
  (b:∀(kV doc pm:Value)(an:bT)(c ct:Value)(us:bI),us.length=ps.length->bindArgs (fnOf x x (gQ st) (ki st) (qm st) .none kV doc pm an c ct) ⟨us,[]⟩=pure (ps.zip us)):zS P w K mg base k x ps.length (λ_ _=>.bad):=
 ⟨f,fd,ps,⟨λvs H Q E h=>h.1,λA outer s H args us vs Q E _ _ _ _ h=>by obtain⟨_,_,_,_,_,_,z⟩:=h;exact z.elim⟩,hm,F.kp,F.binds b⟩
def MW {K:Frag}(t a b:Ty):kitAny K (.type t.nm) [.type a.nm,.type b.nm]=some (yz t a || yz t b):=by
 unfold kitAny;rw[Ya];cases yz t a with
 |true=>rfl|false=>
  dsimp only;unfold kitAny;rw[Ya];cases yz t b<;>rfl
section
variable {a b:Expr}{m:Ev}
def ZO.kitx {x:V}{t:Ty}(I:Inv X pins σ H s)(r:RelV x u)(h:ZO X.K H x t):∃d:Heap->Prop,PySem.W.KitX X.K u (.type t.nm) d/\d s.heap/\u≠.builtin "__main__.__loader__#opaque":=by
 rcases h with h|⟨a,xs,rfl,h,rfl⟩
 ·generalize hT:Value.type t.nm=T at h
  cases h with
  |non=>cases (show u=Value.none from r);exact⟨_,kitx_none,True.intro,λz=>nomatch z⟩
  |bl y=>cases (show u=Value.bool y from r);exact⟨_,kitx_bool,True.intro,λz=>nomatch z⟩
  |int i=>obtain⟨t,q⟩:=(show ∃t,u=Value.int i t from r);cases q;exact⟨_,kitx_int,True.intro,λz=>nomatch z⟩
  |str y=>obtain⟨t,q⟩:=(show ∃t,u=Value.str y t from r);cases q;exact⟨_,kitx_str,True.intro,λz=>nomatch z⟩
  |flt y=>obtain⟨t,q⟩:=(show ∃t,u=Value.float y t from r);cases q;exact⟨_,kitx_float,True.intro,λz=>nomatch z⟩
  |@lst a xs ea=>
   cases (show u=Value.ref a from r)
   obtain⟨_,_,n,_,b⟩:=(show qQ X.prog X.w H s.heap a (.lst xs) from I.hok a _ ea)
   exact⟨_,kitx_list,⟨_,b,rfl⟩,λz=>nomatch z⟩
  |@frz a ob xs ea=>
   cases (show u=Value.ref a from r)
   obtain⟨_,_,_,n,_,b⟩:=(show qQ X.prog X.w H s.heap a (.frz ob (.lst xs)) from I.hok a _ ea)
   exact⟨_,kitx_list,⟨_,b,rfl⟩,λz=>nomatch z⟩
  |@tup a xs ea=>
   cases (show u=Value.ref a from r)
   obtain⟨_,_,_,p⟩:=(show qQ X.prog X.w H s.heap a (.tup xs) from I.hok a _ ea)
   obtain⟨o,b,c,_⟩:=p;exact⟨_,kitx_tuple,⟨o,b,c.1⟩,λz=>nomatch z⟩
  |@dK a k ea=>
   cases (show u=Value.ref a from r)
   obtain⟨_,_,_,_,o,_,_,b,c,_⟩:=(show qQ X.prog X.w H s.heap a (.dK k) from I.hok a _ ea)
   exact⟨_,kitx_dict,⟨o,b,c.1⟩,λz=>nomatch z⟩
  |@dT a k ea=>
   cases (show u=Value.ref a from r)
   obtain⟨_,_,_,_,o,_,_,b,c,_⟩:=(show qQ X.prog X.w H s.heap a (.dT k) from I.hok a _ ea)
   exact⟨_,kitx_dict,⟨o,b,c.1⟩,λz=>nomatch z⟩
  |ins=>cases hT
 ·cases (show u=Value.ref a from r)
  obtain⟨e,_,⟨o,b,c,_⟩,_⟩:=I.tuple h;exact⟨_,kitx_tuple,⟨o,b,c⟩,λz=>nomatch z⟩
def EC (K:Frag)(a b:Ty):List V->Hp->VK->Prop:=λxs H Q=>∃x t l,xs=[x,.ref l]/\ql K H l [.ty (Ty.nm a),.ty (Ty.nm b)]/\ZO K H x t/\Q (.bl (yz t a || yz t b)) H
def Ni {a b:Ty}:jD X (.builtin "isinstance") (EC X.K a b):=by
 intro pins s σ H xs us Q I r h;obtain⟨x,t,l,rfl,y,w,q⟩:=h;obtain⟨u,e,rfl,f,c⟩:=vals2 r;cases (show e=Value.ref l from c)
 obtain⟨p,v,⟨o,C,B,k,A⟩,_⟩:=I.tuple y;obtain⟨d,U,rfl,i,g⟩:=vals2 v;cases (show d=Value.type a.nm from i)
 cases (show U=Value.type b.nm from g)
 obtain⟨J,Z,z,ne⟩:=w.kitx I f;obtain⟨n,E,j,D⟩:=o;cases (show n=_ from B)
 cases (show j=_ from A)
 exact PySem.W.kia_tup Z I.kIn z C (MW t a b) ne λtk=>⟨.bl (yz t a || yz t b),H,I.tok tk,rfl,q⟩
def YA (t T:Ty)(m:Ev):Ev:=λρ A=>(m ρ A).bind λw A1=>match ye w A1 with
 |some t'=>.ok (.bl (yz t' t || yz t' T)) A1
 |none=>.bad
noncomputable def YN (m:Ev)(tw:Tg):Ex:=λρ A=>(m ρ A).bind λw A1=>match tw w ρ with
 |some a=>.ok (.nx a) A1|none=>.bad
end
noncomputable def Yo (PG:jq):W->W
 |.clo k ws _=>.clo k ws (PG k)|w=>w
open Classical in
def Jk (ls:List Lm)(PF:jq)(ρ:En):W->Option W
 |.clo k [] P=>if P=PF k then(match ls[k]? with
  |some t=>(gE t.idx ρ).map λws=>.clo k ws P|none=>none) else none
 |.clo _ _ _=>none|w=>some w
def wW (ls:List Lm)(PF:jq)(ρ:En):List W->Option (List W)
 |[]=>some []|w::r=>match Jk ls PF ρ w,wW ls PF ρ r with
  |some u,some us=>some (u::us)|_,_=>none
def Qc (ls:List Lm)(PF:jq)(f:Fn)(a:Ea):Ev:=λρ A=>(a ρ A).bind λws A1=>match wW ls PF ρ ws with
 |some us=>f us A1|none=>.bad
section
variable {ls:List Lm}{q:Str}
def Vm (I:Inv X pins σ H s)(n:∀x,X.fn x=true)(l:∀t∈ls,Qp X.prog X.w X.K X.mg j q t)(c:∀t∈ls,Qo X t):
  Qs X.prog X.w X.K X.mg (wQ X.base s.heap X.env.cells) X.A X.stack s H/\∀k,ZF X.prog X.w X.K X.mg (wQ X.base s.heap X.env.cells) (j+1) (Qy X.env q ls σ k) (yA ls k):=by
 have a:∀b o,X.base.get? b=some o->(wQ X.base s.heap X.env.cells).get? b=some o:=λb o e=>Pq I.bk e;have M:Mod X.K X.mg (wQ X.base s.heap X.env.cells):=by
  obtain⟨mb,p,B⟩:=I.mod.blt;exact⟨I.mod.kin.keeps a,I.mod.glob.keeps a,⟨mb,p.keeps a,B⟩,I.mod.nolimit.keeps a⟩
 have bs:∀b o,(wQ X.base s.heap X.env.cells).get? b=some o->s.heap.get? b=some o/\H b=none:=λb o e=>by
  obtain⟨i,E⟩:=Vt e;refine⟨i,?_⟩;rcases E with ⟨o',E⟩|⟨y,E⟩
  ·exact(I.bs b o' E).2
  ·exact I.freeC y b E
 refine⟨⟨I.ok.frames,M,bs,Nat.le_of_eq (hideAll_size _ _),frames_at I.stack λb d=>?_,I.stkFree,I.hok,I.bare⟩,
  λk=>Iu l (λt f vs h=>NL I (λy C v e ⟨o,g,hd⟩=>⟨o,Pd e g,hd⟩) (c t f) h) k⟩
 cases e:(wQ X.base s.heap X.env.cells).get? b with
 |none=>rfl|some o=>
  exfalso;rcases(Vt e).2 with ⟨o',E⟩|⟨y,E⟩
  ·have:=(I.stack.mem d).1
   rw[E]at this;cases this
  ·exact Mh I n E d
theorem XI {K:Frag}(re:RE K φ H ρ σ):∀{ws us:List W}{vs:List V},wW ls (kB env q ls) ρ ws=some us->zx K φ H ws vs->zx K φ H (us.map (Yo (Qy env q ls σ))) vs
 |[],us,vs,e,r=>by cases e;exact r|w::r,us,vs,e,⟨v,A,ev,j,y⟩=>by
  subst ev;unfold wW at e;cases E:Jk ls (kB env q ls) ρ w with
  |none=>rw[E]at e;cases e|some u=>
   cases i:wW ls (kB env q ls) ρ r with
   |none=>rw[E,i]at e;cases e|some U=>
    rw[E,i]at e;cases e;rw[aV];refine .cons ?_ (XI re i y);cases w with
    |clo k xs P=>
     cases xs with
     |cons x xs=>unfold Jk at E;cases E|nil=>
      unfold Jk at E;dsimp only at E
      by_cases h:P=kB env q ls k
      ·rw[ah h]at E
       subst h;cases d:ls[k]? with
       |none=>rw[d]at E;cases E|some t=>
        rw[d]at E;dsimp only at E;cases g:gE t.idx ρ with
        |none=>rw[g]at E;cases E|some l=>
         rw[g]at E;cases E;obtain⟨a,ob,o,c,s,uc,n,rfl,g1,g2,⟨t',b,z⟩,_⟩:=j;rw[d]at b;cases b;obtain⟨f,cv,p⟩:=XW re g;exact⟨a,ob,o,c,s,uc,f,rfl,g1,g2,⟨t,d,z,cv⟩,p⟩
      ·rw[ar h]at E;cases E
    |_=>cases E;exact j
end
section
noncomputable abbrev kz (led:Bool):Obj:={ cls:=.type "set",dict:=none,data:=.set #[] 0 (.fresh 0 0 led) }
end
def intsAre_of:∀{ns:bH}{i:bI},Vals (ns.map V.int) i->IntsAre i ns:=by
 intro ns
 induction ns with
 |nil=>intro i h;cases h;exact .nil|cons n ns I=>
  intro i h;cases h with
  |cons r t=>obtain⟨tk,rfl⟩:=r;exact .cons n tk (I t)
def E1 (s:Stmt):Expr:=match s with
 |.If t _ _ _=>t|_=>ZE
section
open PySem.SeqAt
open PySem.AutoSeq1 (wpAny_loadPart')
open PySem.MeetsSeq PySem.MeetsSeq2 PySem.MeetsSeq3
end
section
variable {K:Frag}
def O6 {w:W}{ds:List PyData}(h:qf A 8 w=some (.list ds)):PyData.canLayAll0 ds=true/\PyData.depthAll ds<=8:=by
 obtain⟨H,a⟩:=KU 8 w _ h;simp only[PyData.canLay0,PyData.depth]at H a;exact⟨H,by omega⟩
def Dn:W->W->Hx->R W:=λx y A=>match qf A 8 x,qf A 8 y with
 |some d,some (.list ds)=>.ok (.bl (ds.any λz=>PyData.eqv z d)) A|_,_=>.bad
noncomputable def wR (p:PyData->Bool):List PyData->Option Nat
 |[]=>none|d::ds=>if p d then some 0 else(wR p ds).map (· + 1)
theorem VA {p:PyData->Bool}:∀{ds:List PyData}{j:Nat},wR p ds=some j->∃h:j<ds.length,p ds[j]=true/\∀m (hm:m<ds.length),m<j->p ds[m]=false
 |[],_,e=>by cases e|d::ds,j,e=>by
  unfold wR at e
  by_cases hd:p d=true
  ·rw[ah hd]at e
   cases e;exact⟨Nat.zero_lt_succ _,hd,λm _ z=>absurd z (Nat.not_lt_zero _)⟩
  ·rw[ar hd]at e
   cases E:wR p ds with
   |none=>rw[E]at e;cases e|some J=>
    rw[E]at e;cases e;obtain⟨b,a,H⟩:=VA E;refine⟨Nat.succ_lt_succ b,a,λm hm z=>?_⟩;cases m with
    |zero=>exact Bool.eq_false_iff.mpr hd|succ m=>exact H m (Nat.lt_of_succ_lt_succ hm) (Nat.lt_of_succ_lt_succ z)
def Lx (K:Frag):V->List V->Hp->VK->Prop:=λx vs H Q=>∃φ A u v y d ds j,vs=[y]/\zB K φ A H/\RV K φ H u x/\RV K φ H v y/\qf A 8 u=some (.list ds)/\qf A 8 v=some d/\wR (λz=>PyData.eqv z d) ds=some j/\j<1000000/\Q (.int j) H
def OP (M:X.A.units+64<cLine):Gn X "list.index" (Lx X.K):=by
 intro pins s σ H x vs v us Q I r i h;obtain⟨φ,A,f,w,y,d,ds,j,rfl,S,t,p,a,E,J,N,q⟩:=h;obtain⟨u,rfl,k⟩:=i.one;obtain⟨as,C⟩:=Z5 I S 8 f x v _ t r a;obtain⟨bs,B⟩:=Z5 I S 8 w y u d p k E;obtain⟨g1,g2⟩:=KU 8 w d E;obtain⟨g3,P⟩:=O6 a;obtain⟨f1,f2,D⟩:=VA J;cases C with
 |list a1 a2 c b=>
  rename_i l o items n L
  obtain⟨cls,dd,data,g⟩:=o;simp only at a2 c;subst a2 c;have hm:=SeqAt.readsAll_map _ _ _ g3 b;have hlen:items.size=ds.length:=by rw[<- hm];simp
  have at_:∀m (h:m<items.size) (h':m<ds.length),SeqAt.readOf s.heap items[m]=ds[m]:=λm h h'=>by
   have e:(items.toList.map (SeqAt.readOf s.heap))[m]? =ds[m]?:=by rw[hm]
   rw[av,aa h',bh,Array.getElem?_eq_getElem h]at e;exact az e
  refine call_meets F.slot_list_index ⟨_,a1,rfl⟩ F.entry_list_index (F.args_list_index_2 _ _)
   (SeqAt.list_indexAt l items n dd g u (λz=>PyData.eqv (SeqAt.readOf s.heap z) d) j (by omega) (by omega) (by rw[at_ j (by omega) f1];exact f2) (λm h z=>by rw[at_ m h (by omega)];exact D m (by omega) z)) ⟨a1,SeqAt.items_eqAt b B g3 g1 (by omega),?_⟩
  exact⟨.int j,H,I.tok _,⟨_,rfl⟩,q⟩
def wM:W->W->Hx->R W:=λx y A=>match qf A 8 x,qf A 8 y with
 |some (.list ds),some d=>(match wR (λz=>PyData.eqv z d) ds with
  |some j=>if j<1000000 then .ok (.int j) A else .bad|none=>.bad)
 |_,_=>.bad
def NT:∀x y A,qo (wM x y A):=λx y A=>by
 unfold wM
 split
 ·split
  ·exact ko jw qk
  ·exact qk
 ·exact qk
end
end Mi
variable {ls:List Mi.Lm}
namespace Mi
open PySem
noncomputable def zO (n:Nat):bL:=(List.range 8).filter λi=>n.testBit i
def qE (led:Bool)(n:Nat):SetTable:=if (zO n).length<5 then⟨7,(zO n).toArray,#[],0,led,0,true⟩ else⟨31,(zO n).toArray,#[],0,led,1,true⟩
noncomputable def qY (n v:Nat):Nat:=n ||| (1 <<< v)
def wm (n v:Nat):Nat:=((zO n).filter λi=>decide (i<v)).length
def yG (led:Bool)(n v:Nat):SetTable:={ qE led n with place:=(zO (qY n v)).toArray }
def Yr (led:Bool)(n v:Nat):Bool:=n.testBit v || (((qE led n).freeSlot (v:Int)==some (v,false))&&((qE led n).put v==(yG led n v,wm n v))&&(zO (qY n v)==(zO n).take (wm n v)++v::(zO n).drop (wm n v))&&
 (yG led n v).fits (zO (qY n v)).length&&((yG led n v).tooFull==((zO (qY n v)).length==5))&&
 (if (zO (qY n v)).length==5 then(yG led n v).relaid ((zO (qY n v)).map λ(i:Nat)=>(i:Int)).toArray 20==some (qE led (qY n v),#[0,1,2,3,4]) else qE led (qY n v)==yG led n v)&&
 (qE led (qY n v)).fits (zO (qY n v)).length&&decide (qY n v<256))
def Mt:((List.range 256).all λn=>(List.range 8).all λv=>Yr true n v&&Yr false n v)=true:=by decide +kernel
open PySem PySem.Spec PyProof.Rows
inductive qU:List (Int×Value)->List Nat->Prop
 |nil:qU [] []
 |cons {es:List (Int×Value)} {vs:bL} (v:Nat) (tk:Tok) (h:qU es vs):qU (((v:Int),.int (v:Int) tk)::es) (v::vs)
theorem qU.length {vs:bL}(h:qU es vs):es.length=vs.length:=by
 induction h with
 |nil=>rfl|cons v tk h i=>simp[i]
def qU.map1 {vs:bL}(h:qU es vs):es.map (·.1)=vs.map λ(i:Nat)=>(i:Int):=by
 induction h with
 |nil=>rfl|cons v tk h I=>simp[I]
theorem qU.take {vs:bL}(h:qU es vs):∀k,qU (es.take k) (vs.take k):=by
 induction h with
 |nil=>intro k;simp;exact .nil|cons v tk h i=>
  intro k;cases k with
  |zero=>exact .nil|succ k=>exact .cons v tk (i k)
theorem qU.drop {vs:bL}(h:qU es vs):∀k,qU (es.drop k) (vs.drop k):=by
 induction h with
 |nil=>intro k;simp;exact .nil|cons v tk h i=>
  intro k;cases k with
  |zero=>exact .cons v tk h|succ k=>exact i k
def qU.app {es':List (Int×Value)}{vs a:bL}(h:qU es vs)(h':qU es' a):qU (es++es') (vs++a):=by
 induction h with
 |nil=>exact h'|cons v tk h i=>exact .cons v tk i
def Xx:∀v,v<8->hashInt ((v:Nat):Int)=(v:Int):=by decide
section
variable {prog:Program}
def qU.elems {vs:bL}(h:qU es vs)(H:∀v∈vs,v<8):ElemsOf (intKind prog w) es:=by
 induction h with
 |nil=>intro e he;cases he|cons v tk h i=>
  intro e he;rcases bX.mp he with rfl|he
  ·exact⟨⟨(v:Int),intKind_is _ _ _ _,(Xx v (H v (ax ..))).symm⟩,rfl⟩
  ·exact i (λu a=>H u (ai _ a)) e he
def qU.find {vs:bL}(h:qU es vs)(v:Nat):(es.findIdx? λe=>(intKind prog w).is (v:Int) e.2)=vs.findIdx? λu=>decide (u=v):=by
 induction h with
 |nil=>rfl|cons u tk h i=>
  rw[List.findIdx?_cons,List.findIdx?_cons,i]
  have:(intKind prog w).is (v:Int) (Value.int (u:Int) tk)=decide (u=v):=by
   show Value.isInt (v:Int) (Value.int (u:Int) tk)=_;unfold Value.isInt;rw[Bool.eq_iff_iff];simp;omega
  rw[this]
end
def WG {v:Nat}:v∈zO n↔v<8/\n.testBit v=true:=by
 unfold zO;rw[mem_filter,List.mem_range]
def jW (h:Heap)(a:Addr)(led:Bool)(n:Nat):Prop:=∃o e E,h.get? a=some o/\o.ExactSet/\o.data=.set e E (qE led n)/\qU e.toList (zO n)/\n<256
def jW.keep {h':Heap}(x:jW h a led n)(k:∀o,h.get? a=some o->h'.get? a=some o):jW h' a led n:=
 let ⟨o,es,ep,H,r⟩:=x;⟨o,es,ep,k o H,r⟩
def OV {v:Nat}(hn:n<256)(H:v<8)(led:Bool):Yr led n v=true:=by
 have h:=b9.mp (b9.mp Mt n (b8.mpr hn)) v (b8.mpr H);rw[aq]at h;cases led
 ·exact h.2
 ·exact h.1
def O1:((List.range 256).all λn=>(qE true n).fits (zO n).length&&(qE false n).fits (zO n).length)=true:=by decide +kernel
def K0 (led:Bool)(n:Nat):(qE led n).plain=true:=by unfold qE;split<;>rfl
def Lj (led:Bool)(n:Nat):(qE led n).led=led:=by unfold qE;split<;>rfl
def Vg (led:Bool)(n:Nat):(qE led n).place=(zO n).toArray:=by unfold qE;split<;>rfl
def fits_of (hn:n<256)(led:Bool):(qE led n).fits (zO n).length=true:=by
 have h:=b9.mp O1 n (b8.mpr hn);rw[aq]at h;cases led
 ·exact h.2
 ·exact h.1
def Qb (n:Nat):(zO n).length<=8:=by
 unfold zO;exact a8 (List.length_filter_le _ _) (by simp)
structure YK (led:Bool)(n v:Nat):Prop where
 free:(qE led n).freeSlot (v:Int)=some (v,false)
 put:(qE led n).put v=(yG led n v,wm n v)
 vs:zO (qY n v)=(zO n).take (wm n v)++v::(zO n).drop (wm n v)
 fits:(yG led n v).fits (zO (qY n v)).length=true
 full:(yG led n v).tooFull=((zO (qY n v)).length==5)
 W7:(zO (qY n v)).length=5->(yG led n v).relaid ((zO (qY n v)).map λ(i:Nat)=>(i:Int)).toArray 20=some (qE led (qY n v),#[0,1,2,3,4])
 less:(zO (qY n v)).length≠5->qE led (qY n v)=yG led n v
 lt:qY n v<256
def OF {v:Nat}(hn:n<256)(a:v<8)(led:Bool)(b:n.testBit v=false):YK led n v:=by
 have h:=OV hn a led;unfold Yr at h;rw[b,Bool.false_or]at h;simp only[aq,aJ,ak]at h;obtain⟨⟨⟨⟨⟨⟨⟨j,i⟩,g⟩,f⟩,d⟩,H⟩,k⟩,c⟩:=h;refine⟨j,i,g,f,d,λe=>?_,λe=>?_,c⟩
 ·rw[ah e]at H;exact of_decide_eq_true (by simpa using H)
 ·rw[ar e]at H;simpa using H
def jX (n v:Nat):Nat:=if n.testBit v then n else qY n v
section
variable {prog:Program}{A:Around}
def NP {e:Array (Int×Value)}{v:Nat}{x:Value}(f:YK led n v)(he:qU e.toList (zO n)):layNew (qE led n) e (v:Int) x=(SetTable.insertAt e (wm n v) ((v:Int),x),yG led n v,false,false):=by
 have h:(SetTable.insertAt e (wm n v) ((v:Int),x)).size=(zO (qY n v)).length:=by
  rw[<- aM,SetTable.toList_insertAt,f.vs,aG,aG,bp,bp,bw,bw,List.length_drop,List.length_drop,he.length]
 unfold layNew;rw[f.free];dsimp only;rw[f.put];dsimp only;rw[h];unfold SetTable.orStandIn;rw[ah f.fits,f.fits]
 rfl
def Ml {E:Array (Int×Value)}{v:Nat}(f:YK led n v)(g:(zO (qY n v)).length=5)(he:qU E.toList (zO (qY n v))):relayAll (yG led n v) E 20=(E,qE led (qY n v),false):=by
 have hm:E.map (·.1)=((zO (qY n v)).map λ(i:Nat)=>(i:Int)).toArray:=by
  apply Array.toList_inj.mp
  rw[Array.toList_map,he.map1]
 have h:E.size=5:=by rw[<- aM,he.length,g]
 have H:(#[0,1,2,3,4]:Array Nat).filterMap (E[·]?)=E:=by
  apply Array.toList_inj.mp
  rw[Array.toList_filterMap];have h0:E.toList.length=5:=by rw[aM];exact h
  have j:∀i,E[i]? =E.toList[i]?:=λi=>by rw[bh]
  simp only[j];generalize E.toList=l at h0;obtain⟨a,b,c,d,e,rfl⟩:∃a b c d e,l=[a,b,c,d,e]:=by
   match l,h0 with
   |[a,b,c,d,e],_=>exact⟨a,b,c,d,e,rfl⟩
  rfl
 unfold relayAll;rw[hm,f.W7 g];dsimp only;rw[H];have k:coversAll #[0,1,2,3,4] E.size=true:=by rw[h];decide +kernel
 have hf:(qE led (qY n v)).fits E.size=true:=by rw[h,<- g];exact fits_of f.lt led
 rw[k,hf]
 rfl
def qU.insert {e:Array (Int×Value)}{v:Nat}{tk:Tok}(f:YK led n v)(he:qU e.toList (zO n)):qU (SetTable.insertAt e (wm n v) ((v:Int),.int (v:Int) tk)).toList (zO (qY n v)):=by
 rw[SetTable.toList_insertAt,f.vs];exact(he.take _).app (.cons v tk (he.drop _))
def XD {o:Obj}{E es':Array (Int×Value)}{e:Nat}{t:SetTable}{t':SetTable}(H:h.get? a=some o)(hd:o.data=.set E e t):(h.update a (Obj.putSet es' t')).get? a=some { o with data:=.set es' (e+1) t' }:=by
 have:=aW (Obj.putSet es' t') H (by rw[putSet_of es' t' hd];rfl)
 rw[putSet_of es' t' hd]at this;exact this
def Pj {v:Nat}{tk:Tok}{Q:Bool->Shared->Prop}(T:jW s.heap a led n)(y:v<8)
  (h:∀h' b,Heap.SameBut a s.heap h'->jW h' a led (jX n v)->Q b { s with heap:=h' }):
  wpAny (model prog w) A (setAddHashed a (.int (v:Int) tk) ((intKind prog w).hash (v:Int))) Q E s:=by
 obtain⟨o,l,D,q,hex,hd,he,hn⟩:=T;have hlen:l.size=(zO n).length:=by rw[<- aM,he.length]
 have hf:(qE led n).fits l.size=true:=by rw[hlen];exact fits_of hn led
 have r:ElemsOf (intKind prog w) l.toList:=he.elems λu J=>(WG.mp J).1;have k:l.size<scanBound:=by rw[hlen];have:=Qb n;unfold scanBound;omega
 unfold setAddHashed setAddHashedIn;refine wpAny_holding (bV (wpAny_setState_of q hd hf ?_));dsimp only;rw[byScan_of (x:=.int (v:Int) tk) rfl k r];simp only[↓reduceIte];unfold setAddByScan;refine bV ?_;refine bV (wpAny_rule ?_);refine bV (wpAny_setScan_of (knd:=intKind prog w) (intKind_is _ _ _ _) q hd hf r ?_);rw[he.find];cases I:(zO n).findIdx? λu=>decide (u=v) with
 |some j=>
  dsimp only;have k:n.testBit v=true:=by
   obtain⟨N,B,_⟩:=List.findIdx?_eq_some_iff_getElem.mp I
   have:=of_decide_eq_true B
   exact(WG.mp (this ▸ aO N)).2
  refine bW (bW ?_);have e:s={ s with heap:=s.heap }:=by cases s;rfl
  rw[e];refine h s.heap false (Heap.SameBut.refl a s.heap) ?_;unfold jX;rw[ah k];exact⟨o,l,D,q,hex,hd,he,hn⟩
 |none=>
  dsimp only;have k:n.testBit v=false:=by
   cases M:n.testBit v with
   |false=>rfl|true=>
    have:=List.findIdx?_eq_none_iff.mp I v (WG.mpr ⟨y,M⟩)
    simp at this
  have f:=OF hn y led k;have P:(intKind prog w).hash (v:Int)=(v:Int):=Xx v y;rw[P];rw[NP f he];have H:=he.insert (tk:=tk) f;have i:(SetTable.insertAt l (wm n v) ((v:Int),Value.int (v:Int) tk)).size=(zO (qY n v)).length:=by rw[<- aM,H.length]
  generalize SetTable.insertAt l (wm n v) ((v:Int),Value.int (v:Int) tk)=c at H i;dsimp only;refine bV (bW ?_);have L:(yG led n v).plain=true:=by unfold yG;exact K0 led n
  rw[L];simp only[↓reduceIte];refine bV ?_;rw[hashByValue_scannable 8 (x:=.int (v:Int) tk) rfl];refine bW ?_;have z:plainKind (.int (v:Int) tk)=true:=rfl;rw[z];simp only[↓reduceIte];have p:c.size<=sizeLine:=by rw[i,sizeLine_eq];have:=Qb (qY n v);omega
  refine bV (wpAny_storeSet_of q hd ?_ p);have g:=XD (es':=c) (t':=yG led n v) q hd;have d:=Heap.SameBut.update s.heap a (Obj.putSet c (yG led n v));rw[f.full]
  by_cases t:(zO (qY n v)).length=5
  ·have S:SetTable.grown c.size=20:=by rw[i,t];rfl
   rw[S,Ml f t H,t];simp only[Bool.not_false,Bool.true_and,a7,↓reduceIte];refine bV (bW ?_);refine bV (wpAny_storeSet_of g rfl ?_ p);refine bW ?_;dsimp only;refine bW ?_;have C:=XD (es':=c) (t':=qE led (qY n v)) g rfl;refine h _ true (d.trans (Heap.SameBut.update _ a _)) ?_;unfold jX;rw[k];exact⟨_,c,D+1+1,C,hex,rfl,H,f.lt⟩
  ·have K:((zO (qY n v)).length==5)=false:=by simpa using t
   rw[K];simp only[Bool.not_false,Bool.and_false,aZ,↓reduceIte];refine bW ?_;dsimp only;refine bW ?_;refine h _ true d ?_;unfold jX;rw[k,ar ay,];refine⟨_,c,D+1,g,hex,?_,H,f.lt⟩;rw[f.less t]
end
noncomputable abbrev jn (w:World):Bool:=!w.params.followText "set-order"
def gD (val:Nat->Nat)(i:Nat):Nat:=((List.range i).map val).foldl jX 0
def PR (val:Nat->Nat)(i:Nat):gD val (i+1)=jX (gD val i) (val i):=by
 unfold gD;rw[range_succ,ba,List.foldl_append]
 rfl
section
variable {prog:Program}{A:Around}
def SX (a:Value){Q1:bN}(h:Q1 (.ref s.heap.objs.size) { s with heap:=s.heap.push (kz (jn w)) }):
  codeAny (model prog w) A (.call (.builtin "set.__new__") ⟨[.type "set",a],[]⟩) (wants Q1 E) s:=by
 refine codeAny_of_tree ?_;show wpAny _ A.in1 (do checkBuiltinCall "set.__new__" ⟨[.type "set",a],[]⟩;again (.builtin "set.__new__" ⟨[.type "set",a],[]⟩)) _ _ s
 refine bV (wpAny_of_eq (F.newCall_set_1 a) (bW ⟨plainId_quiet F.plain_set_new _,codeAny_builtin F.entry_set_new ?_⟩));rw[Around.under_plainId F.plain_set_new _];unfold Builtin.«set.__new__» Builtin.Frozenset.newClass;have H:=sub_set_self;obtain⟨p,g,d,tk,os⟩:=s;dsimp only
 wp_walk
 refine wpAny_askSetting (bW ?_);dsimp only;simp only[newObj];refine bV (wpAny_alloc (bW ?_));exact bW h
end
section
variable {prog:Program}{A:Around}{R:Result->Shared->Prop}{I:Addr}{wr:bJ}{G:Array GenState->Array GenState->Prop}{P:Nat->Value->Prop}{St:Nat->Shared->Prop}
def P1 (W:WalksS prog w A.in1 I fp wr G n P St)(S:Addr)(q:S∉fp)(led:Bool)(val:Nat->Nat)(l:∀i v,P i v->∃t,v=.int ((val i:Nat):Int) t)(N:∀i,i<n->val i<8):
  ∀(k i:Nat)(s:Shared),n-i=k->i<=n->St i s->jW s.heap S led (gD val i)->
   (∀s',Moved (S::wr) G s s'->jW s'.heap S led (gD val n)->R (.ok (.ret .none)) s')->
   codeAny (model prog w) A (.builtin "set.update.loop" ⟨[.ref S,.ref I],[]⟩) R s:=by
 have p:S∉wr:=λh=>q (W.sub _ h);have H:∀b∈wr,b∈S::wr:=λb j=>ai _ j;intro k
 induction k with
 |zero=>
  intro i s K L a D E;have y:i=n:=by omega
  subst y;refine codeAny_builtin F.entry_set_update_loop ?_;rw[Around.under_plainId F.plain_set_update_loop _];show wpAny _ A.in1 (pyNext (.ref I) >>= _) _ _ s;refine bV (W.done s _ _ a λs' hm=>?_);show wpAny _ A.in1 (ret Value.none) _ _ s';exact bW (E s' (hm.mono H) (D.keep λo x=>hm.heap S _ p x))
 |succ k J=>
  intro i s K L a D E;have c:i<n:=by omega
  refine codeAny_builtin F.entry_set_update_loop ?_;rw[Around.under_plainId F.plain_set_update_loop _];show wpAny _ A.in1 (pyNext (.ref I) >>= _) _ _ s;refine bV (W.item i s _ _ c a λv s' M d hm=>?_);obtain⟨t,rfl⟩:=l i v M;have C:jW s'.heap S led (gD val i):=D.keep λo x=>hm.heap S _ p x;show wpAny _ A.in1 (holding [Value.int ((val i:Nat):Int) t] (setAdd S (.int ((val i:Nat):Int) t)) >>= _) _ _ s';refine bV (wpAny_holding ?_);unfold setAdd;refine wpAny_holding ?_;refine bV ((intKind prog w).pyHash (k:=((val i:Nat):Int)) (intKind_is _ _ _ _) ?_);refine Pj (s:={ s' with toks:=s'.toks+1 }) C (N i c) λh' b f B=>?_
  have z:jW h' S led (gD val (i+1)):=by rw[PR];exact B
  refine bW ⟨plainId_quiet F.plain_set_update_loop _,J (i+1) _ (by omega) c (W.frame _ s' _ _ d (le_succ _) λb j o e=>?_) z λu g r=>?_⟩
  ·rw[f.2 b (λh:b=S=>q (by rw[<- h];exact j))];exact e
  ·refine E u (Moved.trans W.gtrans ((hm.mono H).then_heap (le_succ _) λb o j e=>?_) g) r
   rw[f.2 b (λh:b=S=>j (by rw[h];exact ax))];exact e
end
section
variable {prog:Program}{A:Around}
def IC (led:Bool)(g:h.get? a=some (kz led)):jW h a led 0:=
 ⟨_,#[],0,g,⟨rfl,rfl,rfl⟩,(by cases led<;>rfl),.nil,by decide⟩
def Sx {l:Addr}{vs:bL}(C:A.handled=none)(y:s.heap.IsList l its.toArray)(k:IntsAre its (vs.map λ(v:Nat)=>(v:Int)))(D:∀v∈vs,v<8)
  (h:∀(h':Heap)(tk:Nat),jW h' s.heap.objs.size led (vs.foldl jX 0)->
   (∀b o,b<s.heap.objs.size->s.heap.get? b=some o->h'.get? b=some o)->Q .none { s with heap:=h',toks:=tk }):
  codeAny (model prog w) A (.call (.builtin "set.__init__") ⟨[.ref s.heap.objs.size,.ref l],[]⟩) (wants Q E) { s with heap:=s.heap.push (kz led) }:=by
 have hlen:its.length=vs.length:=by
  have:∀{its:bI}{ns:bH},IntsAre its ns->its.length=ns.length:=λh=>by
   induction h with
   |nil=>rfl|cons _ _ _ I=>simp[I]
  rw[this k,aj]
 have S:(s.heap.push (kz led)).get? s.heap.objs.size=some (kz led):=ao _ rfl;refine codeAny_call_builtin F.called_set.init.plain F.entry_set_init (check_set_init_1 ⟨_,S,rfl⟩ ?_);obtain⟨ob,f,a,n,p⟩:=y;obtain⟨P,N,x,u⟩:=ob;dsimp only at a p;cases a;cases p;have g1:=af (kz led) f;have n1:=F.sub_list_set;have X:=F.sub_list_frozenset;have U:(Value.type "list" == Value.type "dict")=false:=by decide
 have q:(s.heap.push (kz led)).IsList l its.toArray:=⟨_,g1,rfl,n,rfl⟩;unfold Builtin.«set.__init__» noKeywords Builtin.Frozenset.updateFrom;generalize B:pyIter=PI
 wp_walk
 subst B;refine wpAny_pyIter_list q (bV (wpAny_runValue ?_));have lt:l<s.heap.objs.size:=aB f;have sz:(s.heap.push (kz led)).objs.size=s.heap.objs.size+1:=a5 ..;have ne:l≠(s.heap.push (kz led)).objs.size:=by rw[sz];exact aI (aY lt)
 have W:=(Walks.list (prog:=prog) (w:=w) (A:=A.in1.in1) (by simp[C]) (s.heap.push (kz led)).objs.size l ne its.toArray).toS
 have g:its.toArray.size=vs.length:=by rw[aD];exact hlen
 rw[g]at W;have off:s.heap.objs.size∉[(s.heap.push (kz led)).objs.size,l]:=by
  rw[sz];intro hm;rcases bX.mp hm with z|hm
  ·exact aI (bc _) z
  ·exact bq lt (cb.mp hm)
 have c:gD (λi=>vs.getD i 0) vs.length=vs.foldl jX 0:=by
  unfold gD
  congr 1
  apply bF
  ·simp
  ·intro i f a
   have H:i<vs.length:=by simpa using a
   simp[ae,aa H]
 refine P1 W s.heap.objs.size off led (λi=>vs.getD i 0) (λi v e=>?_) (λi H=>?_) vs.length 0 _ rfl (zero_le _) ⟨⟨_,ao _ rfl,rfl,rfl⟩,q.push _⟩ ?_ ?_
 ·obtain⟨t,j⟩:=IntsAre.int_at k i v (by simpa using e)
  refine⟨t,j.trans ?_⟩;have H:i<vs.length:=by
   have:=(bY.mp (show its[i]? =some v by simpa using e)).1
   omega
  congr 1
  simp[ae,av,aa H]
 ·rw[ae,aa H]
  exact D _ (aO H)
 ·exact IC led (af _ S)
 ·intro s' M r
  rw[c]at r;obtain⟨h',g',d',T,d⟩:=s';have K:g'=s.gens:=M.gens;have j:d'=s.drawn:=M.drawn;have J:d=s.os:=M.os;subst K j J;refine bW ?_;show wpAny _ _ (ret Value.none) _ _ _;refine bW (h h' T r λb o L e=>M.heap b o (λhm=>?_) (af _ (af _ e)));rcases bX.mp hm with z|hm
  ·exact aI L z
  ·exact aI (aY L) ((cb.mp hm).trans sz)
def SK {l:Addr}{vs:bL}(j:A.handled=none)(t:s.heap.IsList l its.toArray)(i:IntsAre its (vs.map λ(v:Nat)=>(v:Int)))(n:∀v∈vs,v<8)
  (h:∀(h':Heap)(tk:Nat),jW h' s.heap.objs.size (jn w) (vs.foldl jX 0)->
   (∀b o,b<s.heap.objs.size->s.heap.get? b=some o->h'.get? b=some o)->Q (.ref s.heap.objs.size) { s with heap:=h',toks:=tk }):
  wpAny (model prog w) A (call (.type "set") [.ref l]) Q E s:=by
 obtain⟨c,q,d⟩:=F.called_set.mro;have a1:=F.called_set.made;have a2:=F.called_set.sub;have C:=F.called_set.notType;have z:=F.called_set.canCreate;have y:=F.typeCall_set_1 (.ref l);refine wpAny_call (codeAny_of_tree ?_);show wpAny _ _ (callAny (.type "set") _) _ _ _;refine bW ⟨Code.quiet_builtin _ (by decide +kernel),codeAny_builtin F.entry_type_call ?_⟩
 rw[Around.under_plain (weight_type_call_type "set" [.ref l] []) rfl]
 repeat (any_goals (first|assumption|wp_step))
 refine codeAny_mono (SX (.ref l) (E:=E) (Q1:=λu s1=>u=.ref s.heap.objs.size/\s1={ s with heap:=s.heap.push (kz (jn w)) }) ⟨rfl,rfl⟩) λr s1 a=>?_
 cases r with
 |error e=>exact a|ok p=>
  cases p with
  |ret u=>
   obtain⟨rfl,rfl⟩:=a;have T:Shared.TypeIs { s with heap:=s.heap.push (kz (jn w)) } (.ref s.heap.objs.size) "set":=⟨_,ao _ rfl,rfl⟩
   have x:=F.called_set.init.lookup;have B:=F.called_set.init.bind (.ref s.heap.objs.size)
   repeat (any_goals (first|assumption|wp_step))
   refine codeAny_mono (Sx (E:=E) (Q:=λv s2=>v=.none/\∃h' tk,s2={ s with heap:=h',toks:=tk }/\jW h' s.heap.objs.size (jn w) (vs.foldl jX 0)/\
    ∀b o,b<s.heap.objs.size->s.heap.get? b=some o->h'.get? b=some o) (by simp[j]) t i n λh' tk S k=>⟨rfl,h',tk,rfl,S,k⟩) λg s2 H=>?_
   cases g with
   |error e=>exact H|ok f=>
    cases f with
    |ret v=>
     obtain⟨rfl,h',tk,rfl,S,k⟩:=H
     repeat (any_goals (first|assumption|wp_step))
     exact h _ _ S k
    |_=>exact H.elim
  |_=>exact a.elim
end
theorem XF:∀{l:List α}{k:Nat}{w:α},l[k]? =some w->l.Perm (w::l.eraseIdx k)
 |[],_,_,h=>by simp at h|x::l,0,w,h=>by
  simp at h;subst h;simp
 |x::l,k+1,w,h=>by
  rw[List.getElem?_cons_succ]at h;rw[List.eraseIdx_cons_succ];exact((XF h).cons x).trans (List.Perm.swap w x _)
def Ly (next:Nat->Nat):∀(f k:Nat)(left:List α)(out:Array α),left.length=f->(pickOrder.go next f k left out).toList.Perm (out.toList++left):=by
 intro f
 induction f with
 |zero=>
  intro k left out h
  have:left=[]:=List.length_eq_zero_iff.mp h
  subst this;unfold pickOrder.go;simp
 |succ f i=>
  intro k left out h;have H:next k%left.length<left.length:=Nat.mod_lt _ (by omega)
  unfold pickOrder.go;rw[aa H];dsimp only;refine(i (k+1) _ _ (by rw[List.length_eraseIdx_of_lt H];omega)).trans ?_
  rw[Array.toList_push,aN];exact List.Perm.append_left _ (XF (aa H)).symm
def OG (next:Nat->Nat)(xs:Array α):(pickOrder next xs).toList.Perm xs.toList:=by
 unfold pickOrder
 have:=Ly next xs.size 0 xs.toList #[] (by simp)
 simpa using this
namespace F
def Sz:entryFor table "set.__iter__"=some Builtin.«frozenset.__iter__»:=entryFor_alias (id' := "frozenset.__iter__") (by kernel_rfl) rfl (by decide +kernel) (by kernel_rfl)
def TY:entryFor table "set_iterator.__iter__"=some Builtin.«dict_keyiterator.__iter__»:=entryFor_alias (id' := "dict_keyiterator.__iter__") (by kernel_rfl) rfl (by decide +kernel) (by kernel_rfl)
def GK:Manifest.owners.lookup (String.ofList ['r','o','t','a','r','e','t','i','_','t','e','s'].reverse)=some Manifest.sig_set_iterator:=by kernel_rfl
def ZS:Slot "set_iterator" "__next__" "set_iterator.__next__":=
 .of (owner := "set_iterator") (n := "__next__") (by rw[typeLookup_type,builtinLookup_eq_fast];kernel_rfl) (by decide +kernel) (by decide +kernel) (by decide +kernel)
  (by first|exact .inl (by decide +kernel)|exact .inr (by decide +kernel)) (by rw[isSubtype_type];kernel_rfl)
def GD:entryFor table "set_iterator.__next__"=some Builtin.«set_iterator.__next__»:=entryFor_of_tree (by kernel_rfl)
def GC (a:Value):argsOk "set_iterator.__next__" ⟨[a],[]⟩:=by
 unfold argsOk;rw[signature?_of (id := "set_iterator.__next__") (n:=['_','_','t','x','e','n','_','_']) (o:=['r','o','t','a','r','e','t','i','_','t','e','s']) (by kernel_rfl) GK];kernel_rfl
def TX (a:Value):argsOk "set_iterator.__iter__" ⟨[a],[]⟩:=by
 unfold argsOk;rw[signature?_of (id := "set_iterator.__iter__") (n:=['_','_','r','e','t','i','_','_']) (o:=['r','o','t','a','r','e','t','i','_','t','e','s']) (by kernel_rfl) GK];kernel_rfl
def GF:Slot "set_iterator" "__iter__" "set_iterator.__iter__":=
 .of (owner := "set_iterator") (n := "__iter__") (by rw[typeLookup_type,builtinLookup_eq_fast];kernel_rfl) (by decide +kernel) (by decide +kernel) (by decide +kernel)
  (by first|exact .inl (by decide +kernel)|exact .inr (by decide +kernel)) (by rw[isSubtype_type];kernel_rfl)
end F
def Jc (n i:Nat):Nat:=match i with
 |0=>0|i+1=>(zO n).getD i 0+1
def UH (n i:Nat):Bool:=decide ((zO n).length<i) || (SetTable.below (zO n).toArray (Jc n i)==i)
def Nd:((List.range 256).all λn=>(List.range 9).all λi=>UH n i)=true:=by decide +kernel
def Nx (hn:n<256)(H:i<=(zO n).length):SetTable.below (zO n).toArray (Jc n i)=i:=by
 have a:=Qb n;have h:=b9.mp (b9.mp Nd n (b8.mpr hn)) i (b8.mpr (by omega))
 unfold UH at h;rw[aK (by omega),Bool.false_or,aJ]at h
 exact h
def Zq (h:Heap)(I S:Addr)(slot i n e:Nat):Prop:=∃o,h.get? I=some o/\o.cls=.type "set_iterator" /\ o.data=.fields #[.int slot 0,.int i 0,.ref S,.int n 0,.int e 0]
noncomputable def ym (w:World)(a:Addr)(E:Nat)(e:Array (Int×Value)):Array (Int×Value):=if w.params.followText "set-order" then pickOrder (w.params.setOrder a E) e else e
def QI (w:World)(a:Addr)(E:Nat)(e:Array (Int×Value)):(ym w a E e).toList.Perm e.toList:=by
 unfold ym
 split
 ·exact OG _ _
 ·exact List.Perm.refl _
def yY (w:World)(n i:Nat):Nat:=if w.params.followText "set-order" then 0 else Jc n i
section
variable {prog:Program}{A:Around}{o:Obj}{es:Array (Int×Value)}{ep:Nat}
def Kt {Q:Bool->Shared->Prop}(h:Q (w.params.followText "set-order") s):wpAny (model prog w) A setsByText Q E s:=by
 unfold setsByText;exact bV (wpAny_askSetting (bW h))
def Sb (H:s.heap.get? a=some o)(hex:o.ExactSet)(hd:o.data=.set es ep (qE (jn w) n))(he:qU es.toList (zO n))(hn:n<256)
  (c:Q (.ref s.heap.objs.size) { s with heap:=s.heap.push { cls:=.type "set_iterator",data:=.fields #[.int 0 0,.int 0 0,.ref a,.int es.size 0,.int ep 0] } }):
  wpAny (model prog w) A (pyIter (.ref a)) Q E s:=by
 have hT:s.TypeIs (.ref a) "set":=⟨o,H,hex.1⟩;have hlen:es.size=(zO n).length:=by rw[<- aM,he.length]
 have hf:(qE (jn w) n).fits es.size=true:=by rw[hlen];exact fits_of hn _
 refine wpAny_pyIter_slot hT slot_set_iter (wpAny_call_entry slot_set_iter hT F.Sz ?_ (PySem.F.args_set_iter_1 _));unfold Builtin.«frozenset.__iter__»;show wpAny _ _ (Builtin.Frozenset.sizeOf a >>= _) _ _ s;unfold Builtin.Frozenset.sizeOf;refine bV (bV (wpAny_setEntries_of H hd hf (bW ?_)));unfold setDrawn;refine bV (bV (wpAny_setState_of H hd hf ?_));dsimp only;refine bV (Kt (bW ?_));rw[ar (λh=>by
  have b:(!w.params.followText "set-order" && (!(qE (jn w) n).plain&&decide (es.size > 1)))=true:=h;rw[K0]at b;simp at b)]
 refine bV (bW ?_);refine bV (wpAny_setEpoch_of H hd hf ?_);exact bV (wpAny_newObj_type (bW ⟨_,rfl,"set_iterator",_,⟨_,ao _ rfl,rfl⟩,F.ZS.lookup,c⟩))
def GW {Q:Option (Value×Nat)->Shared->Prop}(c:s.heap.get? a=some o)(hd:o.data=.set es ep (qE (jn w) n))(he:qU es.toList (zO n))(hn:n<256)(l:i<=es.size)
  (h:Q (((ym w a ep es)[i]?).map λe=>(e.2,yY w n (i+1))) s):wpAny (model prog w) A (setNext a (yY w n i) i ep) Q E s:=by
 have hlen:es.size=(zO n).length:=by rw[<- aM,he.length]
 have hf:(qE (jn w) n).fits es.size=true:=by rw[hlen];exact fits_of hn _
 unfold setNext;refine bV (wpAny_setState_of c hd hf ?_);dsimp only;refine bV (Kt ?_);unfold ym yY at h;cases t:w.params.followText "set-order" with
 |true=>
  rw[t]at h;simp only[↓reduceIte]at h ⊢;have p:¬((ep != ep)=true):=by simp
  rw[ar p];unfold setWalk;refine bV (bV (wpAny_setState_of c hd hf ?_));dsimp only;refine bV (Kt ?_);rw[t];simp only[↓reduceIte];refine bV (wpAny_askSetting (bW (bW ?_)));unfold yY;rw[t];exact h
 |false=>
  rw[t]at h;simp only[aZ,↓reduceIte]at h ⊢;rw[ar (λh=>by
   have f:(!(qE (jn w) n).plain&&decide (es.size > 1))=true:=h;rw[K0]at f;simp at f)]
  have d:(qE (jn w) n).led=true:=by rw[Lj];unfold jn;rw[t];rfl
  refine bV ?_;show wpAny _ _ (if (!(qE (jn w) n).led&&!es.isEmpty)=true then unsupported "set:maker-not-led" else pure ()) _ _ _;rw[d];simp only[Bool.not_true,Bool.false_and,aZ,↓reduceIte];refine bW ?_;have k:SetTable.below (qE (jn w) n).place (yY w n i)=i:=by
   rw[Vg];unfold yY;rw[t];exact Nx hn (by omega)
  rw[k,Vg];refine bW ?_
  by_cases b:i<es.size
  ·have v:(zO n)[i]? =some ((zO n)[i]'(by omega)):=aa (by omega)
   have j:(zO n).toArray[i]? =some ((zO n)[i]'(by omega)):=by rw[List.getElem?_toArray];exact v
   have H:es[i]? =some es[i]:=Array.getElem?_eq_getElem b;rw[H]at h;rw[H,j];dsimp only;have g:Jc n (i+1)=(zO n)[i]'(by omega)+1:=by
    show(zO n).getD i 0+1=_;rw[ae,v]
    rfl
   rw[g]at h;exact h
  ·have H:es[i]? =none:=Array.getElem?_eq_none (by omega)
   rw[H]at h;rw[H];exact h
def TZ {I:Addr}{e:Int×Value}{Q:Option Value->Shared->Prop}(hit:Zq s.heap I a (yY w n i) i es.size ep)(d:s.heap.get? a=some o)(hex:o.ExactSet)(hd:o.data=.set es ep (qE (jn w) n))(he:qU es.toList (zO n))(hn:n<256)(x:(ym w a ep es)[i]? =some e)
  (j:∀h',Zq h' I a (yY w n (i+1)) (i+1) es.size ep->Heap.SameBut I s.heap h'->Q (some e.2) { s with heap:=h' }):
  wpAny (model prog w) A (pyNext (.ref I)) Q E s:=by
 obtain⟨c,H,f,h⟩:=id hit;have hT:s.TypeIs (.ref I) "set_iterator":=⟨c,H,f⟩;have hlen:es.size=(zO n).length:=by rw[<- aM,he.length]
 have hf:(qE (jn w) n).fits es.size=true:=by rw[hlen];exact fits_of hn _
 unfold pyNext;refine bV (wpAny_attempt (wpAny_callSpecial?_slot (name:=Str.ofString "__next__") hT F.ZS
  (wpAny_call_entry F.ZS hT F.GD ?_ (F.GC _))))
 unfold Builtin.«set_iterator.__next__»;show wpAny _ _ (fieldsOf (.ref I) >>= _) _ _ s;refine bV (wpAny_fieldsOf H h ?_);dsimp only;refine bV (wpAny_setEntries_of d hd hf ?_);rw[ar (by simp)]
 have g:i<es.size:=by
  have b:=(Array.getElem?_eq_some_iff.mp x).1;have k:=(QI w a ep es).length_eq;simp at k;omega
 simp only[aL];refine bV (GW d hd he hn (bg g) ?_);rw[x];dsimp only[Option.map_some];refine bV (wpAny_setField H h (by simp) ?_)
 have b:(s.heap.update I (Obj.mapFields (·.setIfInBounds 0 (rawInt (yY w n (i+1)))))).get? I=some (Obj.mapFields (·.setIfInBounds 0 (rawInt (yY w n (i+1)))) c):=aW _ H (Obj.isFreed_of_fields (Obj.data_mapFields h _));refine bV (wpAny_setField b (Obj.data_mapFields h _) (by simp) ?_)
 refine bW ⟨e.2,rfl,bW (j _ ?_ ((Heap.SameBut.update ..).trans (Heap.SameBut.update ..)))⟩;refine⟨_,aW _ b (Obj.isFreed_of_fields (Obj.data_mapFields (Obj.data_mapFields h _) _)),(Obj.cls_mapFields ..).trans ((Obj.cls_mapFields ..).trans f),?_⟩;rw[Obj.data_mapFields (Obj.data_mapFields h _)];simp[rawInt]
def T3 {I:Addr}{Q:Option Value->Shared->Prop}(d:A.handled=none)(hit:Zq s.heap I a (yY w n es.size) es.size es.size ep)(c:s.heap.get? a=some o)(hex:o.ExactSet)(hd:o.data=.set es ep (qE (jn w) n))(he:qU es.toList (zO n))(hn:n<256)
  (f:∀h',Heap.ExtBut I s.heap h'->Q none { s with heap:=h' }):wpAny (model prog w) A (pyNext (.ref I)) Q E s:=by
 obtain⟨i,h,e,H⟩:=id hit;have hT:s.TypeIs (.ref I) "set_iterator":=⟨i,h,e⟩;have hlen:es.size=(zO n).length:=by rw[<- aM,he.length]
 have hf:(qE (jn w) n).fits es.size=true:=by rw[hlen];exact fits_of hn _
 unfold pyNext;refine bV (wpAny_attempt (wpAny_callSpecial?_slot (name:=Str.ofString "__next__") hT F.ZS
  (wpAny_call_entry F.ZS hT F.GD ?_ (F.GC _))))
 unfold Builtin.«set_iterator.__next__»;show wpAny _ _ (fieldsOf (.ref I) >>= _) _ _ s;refine bV (wpAny_fieldsOf h H ?_);dsimp only;refine bV (wpAny_setEntries_of c hd hf ?_);rw[ar (by simp)]
 simp only[aL];refine bV (GW c hd he hn (aw _) ?_);have x:(ym w a ep es)[es.size]? =none:=Array.getElem?_eq_none (by
  have g:=(QI w a ep es).length_eq;simp at g;omega)
 rw[x];dsimp only[Option.map_none];refine bV (wpAny_setField h H (by simp) ?_)
 show wpAny _ _ (newExc (.type "StopIteration") [] >>= _) _ _ _;refine bV ?_;simp only[newExc,newTuple];refine bV (wpAny_newObj_type ?_ (by size_fits))
 refine bV (m:=firstArgMember _ _) (wpAny_of_eq (a:=Value.none) (by first|rfl|(simp only[firstArgMember];rfl)) ?_)
 refine wpAny_newObj_type ?_ (by size_fits)
 simp only[raiseNew];refine bV (wpAny_handled ?_)
 first|rw[show A.in1.handled=none from d]|rw[d]
 refine bV (bW (wpAny_throw ?_));refine bV (wpAny_isInstance (T := "StopIteration") (b:=true) ⟨_,ao _ rfl,rfl⟩ isSubtype_stop ?_);exact bW (f _ (((Heap.SameBut.update ..).extBut.push _).push _))
end
def Zq.typeIs {I S:Addr}{slot e:Nat}(h:Zq s.heap I S slot i n e):s.TypeIs (.ref I) "set_iterator":=let ⟨o,H,c,_⟩:=h;⟨o,H,c⟩
section
variable {prog:Program}{A:Around}{o:Obj}{es:Array (Int×Value)}{ep:Nat}
def T5 {I S:Addr}{slot m e:Nat}(hit:Zq s.heap I S slot i m e)(h:Q (.ref I) s):wpAny (model prog w) A (pyIter (.ref I)) Q E s:=by
 refine wpAny_pyIter_slot hit.typeIs F.GF (wpAny_call_entry F.GF hit.typeIs F.TY ?_ (F.TX _));show wpAny _ _ (ret (.ref I)) _ _ s;exact bW ⟨_,rfl,"set_iterator",_,hit.typeIs,F.ZS.lookup,h⟩
def Walks.setP (p:A.handled=none)(I a:Addr)(g:a≠I)(hex:o.ExactSet)(hd:o.data=.set es ep (qE (jn w) n))(he:qU es.toList (zO n))(hn:n<256):
  Walks prog w A I [I,a] [I] es.size (λi v=>∃e,(ym w a ep es)[i]? =some e/\v=e.2) (λi h=>Zq h I a (yY w n i) i es.size ep/\h.get? a=some o) where
 sub:=λb H=>by simp at H;simp[H]
 frame:=λ_ _ _ st l=>⟨let ⟨x,h1,q⟩:=st.1;⟨x,l I (by simp) x h1,q⟩,l a (by simp) o st.2⟩
 item:=λi s Q E r st f=>by
  have z:(ym w a ep es).size=es.size:=by have:=(QI w a ep es).length_eq;simpa using this
  have k:(ym w a ep es)[i]? =some ((ym w a ep es)[i]'(by omega)):=Array.getElem?_eq_getElem (by omega)
  refine TZ st.1 st.2 hex hd he hn k λh' d c=>?_;refine f _ h' s.toks ⟨_,k,rfl⟩ ⟨d,?_⟩ λb o H e=>c.extBut b o (λh=>H (by simp[h])) e
  exact c.extBut a o g st.2
 done:=λs Q E st f=>T3 p st.1 st.2 hex hd he hn λh' j=>f h' s.toks λb o H e=>j b o (λh=>H (by simp[h])) e
 self:=λ_ _ _ _ st f=>T5 st.1 f
def Pn:typeLookup (.type "set") "__len__"=pure (some (.builtin "set.__len__")):=by rw[typeLookup_type,builtinLookup_eq_fast];kernel_rfl
def T9 {Q:List Value->Shared->Prop}(hh:A.handled=none)(I:s.heap.get? a=some o)(hex:o.ExactSet)(hd:o.data=.set es ep (qE (jn w) n))(he:qU es.toList (zO n))(hn:n<256)
  (hQ:∀(h':Heap)(tk:Nat),(∀b o,b<s.heap.objs.size->s.heap.get? b=some o->h'.get? b=some o)->s.heap.objs.size<=h'.objs.size->Q ((ym w a ep es).toList.map (·.2)) { s with heap:=h',toks:=tk }):
  wpAny (model prog w) A (collect (.ref a)) Q E s:=by
 have hT0:s.TypeIs (.ref a) "set":=⟨o,I,hex.1⟩;have t:a<s.heap.objs.size:=aB I;unfold collect;refine bV (wpAny_runValue (codeAny_builtin PySem.F.entry_proto_collect ?_));rw[Around.under_plainId PySem.F.plain_proto_collect _];show wpAny _ A.in1 (newList [] >>= λl=>again (.builtin "list.__iadd__" ⟨[l,.ref a],[]⟩)) _ _ s;refine bV (wpAny_newObj_type ?_);refine bW ⟨plainId_quiet PySem.F.plain_list_iadd _,codeAny_builtin PySem.F.entry_list_iadd ?_⟩;rw[Around.under_plainId PySem.F.plain_list_iadd _];show wpAny _ A.in1 (Builtin.List.listExtendWith (.ref s.heap.objs.size) (.ref a) (.ref s.heap.objs.size)) _ _ _;have f:(s.heap.push { cls:=.type "list",data:=.seq ([]:bI).toArray }).get? a=some o:=af _ I;have hT:Shared.TypeIs { s with heap:=s.heap.push { cls:=.type "list",data:=.seq ([]:bI).toArray } } (.ref a) "set":=⟨o,f,hex.1⟩
 unfold Builtin.List.listExtendWith;refine bV (wpAny_typeOf hT ?_);have B:Builtin.List.listSameRef (.ref s.heap.objs.size) (.ref a)=false:=by simp[Builtin.List.listSameRef];exact bq t
 have X:(Value.type "set" == Value.type "list")=false:=by decide
 have U:(Value.type "set" == Value.type "tuple")=false:=by decide
 simp only[B,X,U,Bool.or_false,aZ,if_false];refine bV (Sb f hex hd he hn ?_);refine bV (wpAny_holding ?_);unfold Builtin.List.listLengthHint;generalize y:s.heap.push { cls:=.type "list",data:=.seq ([]:bI).toArray }=H;have k:H.objs.size=s.heap.objs.size+1:=by rw[<- y,a5]
 have q:H.get? a=some o:=by rw[<- y];exact f
 have P:H.get? s.heap.objs.size=some { cls:=.type "list",data:=.seq ([]:bI).toArray }:=by rw[<- y];exact ao _ rfl
 generalize i:({ cls:=.type "set_iterator",data:=.fields #[.int 0 0,.int 0 0,.ref a,.int es.size 0,.int ep 0] }:Obj)=io;have g:Shared.TypeIs { s with heap:=H.push io } (.ref a) "set":=⟨o,af _ q,hex.1⟩
 have L:(H.push io).get? H.objs.size=some io:=ao _ (by rw[<- i];rfl)
 refine bV (wpAny_specialOf g Pn ?_)
 wp_delta
 refine bV (wpAny_isInstance (b:=true) g (by rw[isSubtype_type];kernel_rfl) ?_)
 show wpAny _ A.in1 (typeOf (Value.ref a) >>= _) _ _ _;refine bV (wpAny_typeOf g ?_);refine bW ?_;show wpAny _ A.in1 (rule "list.extend.makes-room" >>= λ_=>Builtin.List.listTouch (.ref s.heap.objs.size) >>= λ_=>
  again (.builtin "list.extend.loop" ⟨[.ref s.heap.objs.size,.ref H.objs.size,.ref s.heap.objs.size],[]⟩)) _ _ _
 refine bV (wpAny_rule ?_);have u:(H.push io).get? s.heap.objs.size=some { cls:=.type "list",data:=.seq ([]:bI).toArray }:=af _ P;refine bV ?_;show wpAny _ A.in1 (updateSeq s.heap.objs.size (·.push .none) >>= λ_=>updateSeq s.heap.objs.size (·.pop)) _ _ _;refine bV (wpAny_updateSeq u rfl ?_);have r:=aW (Obj.mapSeq (·.push Value.none)) u rfl;refine wpAny_updateSeq r rfl ?_;have N:=aW (Obj.mapSeq (·.pop)) r rfl;have d:∀b o,b≠s.heap.objs.size->(H.push io).get? b=some o->(((H.push io).update s.heap.objs.size (Obj.mapSeq (·.push Value.none))).update s.heap.objs.size (Obj.mapSeq (·.pop))).get? b=some o:=
  λb o p e=>(aS _ _ (Ne.symm p)).trans ((aS _ _ (Ne.symm p)).trans e)
 have J:a≠H.objs.size:=by rw[k];exact aI (aY t)
 have x:H.objs.size≠s.heap.objs.size:=by rw[k];exact Nat.succ_ne_self _
 have S:a≠s.heap.objs.size:=aI t;have W:=(Walks.setP (prog:=prog) (w:=w) (A:=A.in1) (by simp[hh]) H.objs.size a J hex hd he hn).toS
 have M:s.heap.objs.size∉[H.objs.size,a]:=λhm=>by
  rcases bX.mp hm with z|hm
  ·exact x z.symm
  ·exact S (cb.mp hm).symm
 have hlen:es.size=(zO n).length:=by rw[<- aM,he.length]
 have h8:=Qb n;refine bW ⟨plainId_quiet PySem.F.plain_extend_loop _,codeAny_extend_loopS W (by rw[sizeLine_eq];omega) _ M _ es.size 0 _ _ _ rfl (zero_le _) ⟨?_,d a o S (af _ q)⟩ N (ItemsOf.nil _) λs' c c' hm v h=>?_⟩
 ·refine⟨io,d _ _ x L,by rw[<- i],?_⟩
  rw[<- i]
  have:yY w n 0=0:=by unfold yY Jc;split<;>rfl
  rw[this]
  rfl
 show wpAny _ A (load s.heap.objs.size >>= _) _ _ s';refine bV (wpAny_load v ?_);have Z:c.toList=(ym w a ep es).toList.map (·.2):=by
  have D:(ym w a ep es).size=es.size:=by have:=(QI w a ep es).length_eq;simpa using this
  apply ext_getElem?
  intro j
  by_cases Y:j<es.size
  ·have B:c[j]? =some (c[j]'(by rw[h.1];exact Y)):=Array.getElem?_eq_getElem (by rw[h.1];exact Y)
   obtain⟨e,X,U⟩:=h.2 j _ B;rw[bh,B,av,bh,X,U]
   rfl
  ·rw[aH (by rw[aM,h.1];omega),aH (by rw[aj,aM,D];omega)]
 show wpAny _ A (pure c.toList) _ _ s';rw[Z];obtain⟨h',g',d',T,C⟩:=s';have e1:g'=s.gens:=hm.gens;have e2:d'=s.drawn:=hm.drawn;have e3:C=s.os:=hm.os;subst e1 e2 e3;refine bW (hQ h' T (λb ob p e=>?_) ?_)
 ·refine hm.heap b ob (λK=>?_) (d b ob (aI p) (af _ (by rw[<- y];exact af _ e)))
  rcases bX.mp K with z|z
  ·exact aI p z
  ·exact aI (aY p) ((cb.mp z).trans k)
 ·exact bg (aB (show h'.get? s.heap.objs.size=_ from v))
end
open PySem PySem.Spec PyProof.Rows L2
theorem Vc:∀{a b:bH},a.Perm b->a.Pairwise (·<=·)->b.Pairwise (·<=·)->a=b
 |[],b,p,_,_=>by rw[List.nil_perm.mp p]|x::a,[],p,_,_=>absurd p.length_eq (by simp)|x::a,y::b,p,H,h=>by
  have d:x∈y::b:=p.mem_iff.mp (ax ..);have c:y∈x::a:=p.mem_iff.mpr (ax ..);have e:x=y:=by
   rcases bX.mp d with e|e
   ·exact e
   ·rcases bX.mp c with E|E
    ·exact E.symm
    ·have g:=(List.pairwise_cons.mp h).1 x e
     have f:=(List.pairwise_cons.mp H).1 y E;omega
  subst e;rw[Vc (List.Perm.cons_inv p) (List.pairwise_cons.mp H).2 (List.pairwise_cons.mp h).2]
def LW (n v i:Nat):(jX n v).testBit i=(n.testBit i || decide (i=v)):=by
 unfold jX
 by_cases h:n.testBit v=true
 ·rw[ah h]
  by_cases e:i=v
  ·subst e;simp[h]
  ·simp[e]
 ·rw[ar h]
  unfold qY;rw[Nat.testBit_or,Nat.one_shiftLeft,Nat.testBit_two_pow]
  congr 1
  by_cases e:v=i
  ·subst e;simp
  ·simp[e,Ne.symm e]
theorem Vn (i:Nat):∀(vs:bL)(n:Nat),(vs.foldl jX n).testBit i=(n.testBit i || decide (i∈vs))
 |[],n=>by simp|v::vs,n=>by
  rw[List.foldl_cons,Vn i vs,LW]
  by_cases e:i=v
  ·simp[e]
  ·simp[e]
def PN (vs:bL):zO (vs.foldl jX 0)=(List.range 8).filter λi=>decide (i∈vs):=by
 unfold zO
 congr 1
 funext i
 rw[Vn];simp
def OL (n:Nat):((zO n).map λ(i:Nat)=>(i:Int)).Pairwise (·<=·):=by
 rw[List.pairwise_map];unfold zO;refine List.Pairwise.imp ?_ (List.Pairwise.filter _ List.pairwise_lt_range);intro a b h;omega
def qU.snd {vs:bL}(h:qU es vs):∀e∈es,∃tk,e.2=.int e.1 tk:=by
 induction h with
 |nil=>intro e he;cases he|cons v tk h i=>
  intro e he;rcases bX.mp he with rfl|he
  ·exact⟨tk,rfl⟩
  ·exact i e he
theorem G4:∀{l:List (Int×Value)},(∀e∈l,∃tk,e.2=.int e.1 tk)->IntsAre (l.map (·.2)) (l.map (·.1))
 |[],_=>.nil|e::l,h=>by
  obtain⟨tk,he⟩:=h e (ax ..);rw[aV,aV,he];exact .cons _ tk (G4 λx H=>h x (ai _ H))
section
variable {prog:Program}{A:Around}{o:Obj}{es:Array (Int×Value)}{ep:Nat}
def RX (t:A.handled=none)(S:jW s.heap a (jn w) n)
  (h:∀(h':Heap)(tk:Nat)(l:Addr)(I:bI)(c:Nat),s.heap.objs.size<=l->h'.get? l=some { cls:=.type "list",data:=.seq I.toArray c }->IntsAre I ((zO n).map λ(i:Nat)=>(i:Int))->
   (∀b o,s.heap.get? b=some o->h'.get? b=some o)->Q (.ref l) { s with heap:=h',toks:=tk }):
  wpAny (model prog w) A (call (.builtin "sorted") [.ref a]) Q E s:=by
 obtain⟨o,f,p,r,hex,hd,he,hn⟩:=S;refine Calls.call_function_entry kind_sorted plain_sorted entry_sorted (args_sorted1 _) ?_;unfold Builtin.«sorted»;refine bV (m:=checkCount "sorted" 1 1 _) (bW ?_);refine bV (T9 (by simp[t]) r hex hd he hn λd tk kp hle=>?_)
 have g:=QI w a p f;have k:IntsAre ((ym w a p f).toList.map (·.2)) ((ym w a p f).toList.map (·.1)):=G4 λe hm=>he.snd e (g.mem_iff.mp hm);have H:((ym w a p f).toList.map (·.1)).Perm ((zO n).map λ(i:Nat)=>(i:Int)):=by
  rw[<- he.map1];exact g.map _
 have hlen:((ym w a p f).toList.map (·.2)).length<=8:=by
  rw[aj,g.length_eq,he.length];exact Qb n
 generalize (ym w a p f).toList.map (·.2)=vs at k hlen;generalize (ym w a p f).toList.map (·.1)=ns at k H;refine bV (wpAny_newList ?_);have L:(d.push (seqObj "list" vs.toArray 0)).get? d.objs.size=some (seqObj "list" vs.toArray 0):=ao _ rfl;show wpAny _ _ _ _ _ { s with heap:=d.push (seqObj "list" vs.toArray 0),toks:=tk }
 refine bV (wpAny_holding (wpAny_call_entry slot_list_sort ⟨_,L,rfl⟩ entry_list_sort (list_sort_tree L k (by omega) λout N a1 a2 y=>⟨_,rfl,?_⟩) (args_list_sort _)))
 have j:N=(zO n).map λ(i:Nat)=>(i:Int):=Vc (a2.trans H) y (OL n);subst j;refine bW ⟨_,rfl,?_⟩;have x:=get?_update_seq L (λ_=>(#[]:Array Value));have v:=af (seqObj "list" #[] 0) (af (seqObj "tuple" vs.toArray 0) x);obtain⟨c,u⟩:∃c,(sortedHeap (d.push (seqObj "list" vs.toArray 0)) d.objs.size vs out).get? d.objs.size=some (seqObj "list" out c):=⟨_,get?_update_seq v (λ_=>out)⟩;refine h _ tk d.objs.size out.toList c hle ?_ a1 λb ob e=>?_
 ·rw[Array.toArray_toList]
  exact u
 ·have q:b<s.heap.objs.size:=aB e
  have k1:=kp b ob q e;have nb:d.objs.size≠b:=bq (aA q hle);unfold sortedHeap;refine(aS _ _ nb).trans ?_;refine af _ (af _ ?_);exact(aS _ _ nb).trans (af _ k1)
end
section
variable {m:Ev}
def Fd (K:Frag)(w:World):List V->Hp->VK->Prop:=λxs H Q=>∃(p:Addr) (vs:bL),xs=[.ref p]/\qH K H p (vs.map λ(v:Nat)=>V.int (v:Int))/\(∀v∈vs,v<8)/\∀l,H l=none->Q (.ref l) (upd H l (.ext λh=>jW h l (jn w) (vs.foldl jX 0)))
def Ot (l:X.calm=true):jD X (.type "set") (Fd X.K X.w):=by
 intro pins s σ H xs us Q I r h;obtain⟨p,vs,rfl,g,n,q⟩:=h;obtain⟨u,rfl,d⟩:=vals1 r;cases d;obtain⟨i,c,⟨o,k,x,t,C,E⟩,_⟩:=I.list g;have f:Vals ((vs.map λ(v:Nat)=>(v:Int)).map V.int) i:=by rw[aP];exact c
 refine SK (I.ok.hd l) ⟨o,x,t,k,E⟩ (intsAre_of f) n λh' tk S kp=>?_;refine⟨.ref s.heap.objs.size,_,I.laid (t':=tk) (o:=.ext λh=>jW h s.heap.objs.size (jn X.w) (vs.foldl jX 0)) (λb o e=>kp b o (aB e) e) (aw _) ⟨S,?_,λz y a b=>a.keep b⟩,rfl,q _ (I.hok.fresh (aw _))⟩;obtain⟨o,A,B,j,_⟩:=S;exact⟨o,j⟩
theorem QJ:∀{ns:bH}{i:bI},IntsAre i ns->Vals (ns.map V.int) i
 |_,_,.nil=>.nil|_,_,.cons n t h=>.cons ⟨t,rfl⟩ (QJ h)
def Ry (j:X.calm=true):jD X (.builtin "sorted") (λxs H Q=>∃(p:Addr) (n:Nat),xs=[.ref p]/\H p=some (.ext λh=>jW h p (jn X.w) n)/\∀l,H l=none->Q (.ref l) (upd H l (.lst ((zO n).map λ(v:Nat)=>V.int (v:Int))))):=by
 intro pins s σ H xs us Q I r h;obtain⟨p,n,rfl,e,q⟩:=h;obtain⟨u,rfl,d⟩:=vals1 r;cases d;have S:jW s.heap p (jn X.w) n:=(show qQ X.prog X.w H s.heap p (.ext λh=>jW h p (jn X.w) n) from I.hok p _ e).1
 refine RX (I.ok.hd j) S λh' tk l i c b g f kp=>?_;have a:=QJ f;rw[aP]at a;refine⟨.ref l,_,I.laid (t':=tk) (o:=.lst ((zO n).map λ(v:Nat)=>V.int (v:Int))) kp b ⟨?_,i,c,a,g⟩,rfl,q _ (I.hok.fresh b)⟩;rw[aj,sizeLine_eq]
 have:=Qb n
 omega
noncomputable def gW:List Int->Option (bL)
 |[]=>some []|i::is=>if 0<=i/\i<8 then(gW is).map (i.toNat::·) else none
theorem Vb:∀{is:bH}{vs:bL},gW is=some vs->is=vs.map (λ(v:Nat)=>(v:Int))/\∀v∈vs,v<8
 |[],_,e=>by cases e;exact⟨rfl,λv H=>by cases H⟩|i::is,vs,e=>by
  unfold gW at e
  by_cases h:0<=i/\i<8
  ·rw[ah h]at e
   cases E:gW is with
   |none=>rw[E]at e;cases e|some us=>
    rw[E]at e;cases e;obtain⟨b,a⟩:=Vb E;refine⟨?_,λv H=>?_⟩
    ·rw[aV,<- b,bx h.1]
    ·rcases bX.mp H with rfl|H
     ·omega
     ·exact a v H
  ·rw[ar h]at e;cases e
def Wa:W->Hx->R W:=λw A=>match w with
 |.ref n=>match A[n]? with
  |some (.lst ws)=>match intsOf ws with
   |some is=>match gW is with
    |some vs=>.ok (.ref A.length) (A++[.lst (((List.range 8).filter λi=>decide (i∈vs)).map λ(i:Nat)=>W.int (i:Int))])|none=>.bad
   |none=>.bad
  |_=>.bad
 |_=>.bad
def JT (m:Ev):Ev:=λρ A=>(m ρ A).bind λw A1=>Wa w A1
end
def OA (a b:Value):argsOk "sum" ⟨[a,b],[]⟩:=by unfold argsOk;kernel_rfl
def sub_list_str:isSubtype (.type "list") (.type "str")=pure false:=by rw[isSubtype_type];kernel_rfl
def sub_list_bytes:isSubtype (.type "list") (.type "bytes")=pure false:=by rw[isSubtype_type];kernel_rfl
def sub_list_bytearray:isSubtype (.type "list") (.type "bytearray")=pure false:=by rw[isSubtype_type];kernel_rfl
noncomputable abbrev kG (xs:Array Value)(c:Nat):Obj:={ cls:=.type "list",dict:=none,data:=.seq xs c,slots:=#[] }
section
variable {prog:Program}{A:Around}{R:Result->Shared->Prop}{I:Addr}{wr:bJ}{G:Array GenState->Array GenState->Prop}{P:Nat->Value->Prop}{St:Nat->Shared->Prop}
def OK (W:WalksS prog w A.in1 I fp wr G n P St)(S B:Addr)(C:S∉fp)(hBS:B<=S)(ad:Nat->Addr)(a:Nat->List Value)(r:∀i v,P i v->v=.ref (ad i))(p:∀i,i<n->ad i≠S/\ad i∉wr)(hwS:∀b∈wr,b<S):
  ∀(k i:Nat)(s:Shared)(T:Addr)(c Q:Nat)(acc:bI),n-i=k->i<=n->St i s->s.heap.get? S=some (kG #[.ref T] c)->T≠S->T∉wr->s.heap.get? T=some (kG acc.toArray Q)->
   (∀j,i<=j->j<n->∃cj,s.heap.get? (ad j)=some (kG (a j).toArray cj))->(acc++(((List.range' i k).map a).flatten)).length<=sizeLine->
   (∀s' U c',Moved (S::wr) G s s'->s'.heap.get? U=some (kG (acc++(((List.range' i k).map a).flatten)).toArray c')->((k=0/\U=T)∨B<=U)->R (.ok (.ret (.ref U))) s')->
   codeAny (model prog w) A (.builtin "sum.loop" ⟨[.ref I,.ref S,rawInt 2,rawInt 0],[]⟩) R s:=by
 have hSw:S∉wr:=λh=>C (W.sub _ h);have d:∀b∈wr,b∈S::wr:=λb f=>ai _ f;intro k
 induction k with
 |zero=>
  intro i s T c Q acc hk hi t L hTS q hT hl K M;have hin:i=n:=by omega
  subst hin;refine codeAny_builtin PySem.F.entry_sum_loop ?_;rw[Around.under_plainId plain_sum_loop _];show wpAny _ A.in1 (seqItems? (.ref S) >>= _) _ _ s;refine bV (wpAny_seqItems L rfl ?_);show wpAny _ A.in1 (tryCatch (pyNext (.ref I)) _ >>= _) _ _ s;refine bV (wpAny_tryCatch (W.done s _ _ t λs' hm=>?_));refine bW (M s' T Q (hm.mono d) ?_ (.inl ⟨rfl,rfl⟩))
  have:=hm.heap T _ q hT
  simpa using this
 |succ k ih=>
  intro i s T c Q acc hk hi t L hTS q hT hl K M;have H:i<n:=by omega
  refine codeAny_builtin PySem.F.entry_sum_loop ?_;rw[Around.under_plainId plain_sum_loop _];show wpAny _ A.in1 (seqItems? (.ref S) >>= _) _ _ s;refine bV (wpAny_seqItems L rfl ?_);show wpAny _ A.in1 (tryCatch (pyNext (.ref I)) _ >>= _) _ _ s;refine bV (wpAny_tryCatch (W.item i s _ _ H t λv s' hP u hm=>?_));have hv:=r i v hP;subst hv;have J:=hm.heap S _ hSw L;have hT':=hm.heap T _ q hT;obtain⟨ci,hli⟩:=hl i (aw _) H;have y:=hm.heap (ad i) _ (p i H).2 hli;rw[range'_succ,aV,aR,<- aN]at K M;have Z:(acc++a i).length<=sizeLine:=by rw[aG]at K;omega
  show wpAny _ A.in1 ((holding [Value.ref (ad i)] (binaryOp .Add (.ref T) (.ref (ad i)))).attempt >>= _) _ _ _;refine bV (wpAny_attempt (wpAny_holding (PySem.P.add_list hT' y ?_ (by rw[aD,aD,<- aG];exact Z))))
  have ea:acc.toArray++(a i).toArray=(acc++a i).toArray:=by simp
  rw[ea];have l:S<s'.heap.objs.size:=aB J;have E:=af (kG (acc++a i).toArray 0) J;have hN1:(s'.heap.push (kG (acc++a i).toArray 0)).get? s'.heap.objs.size=some (kG (acc++a i).toArray 0):=ao _ rfl;show wpAny _ A.in1 (updateSeq S (λ_=>#[.ref s'.heap.objs.size]) >>= _) _ _ _;refine bV (wpAny_updateSeq E rfl ?_);have D:=aW (Obj.mapSeq λ_=>#[Value.ref s'.heap.objs.size]) E rfl;refine bV (wpAny_letGo ?_);have N:s'.heap.objs.size≠S:=bq l;have g:∀b o,b≠S->s'.heap.get? b=some o->(((s'.heap.push (kG (acc++a i).toArray 0)).update S (Obj.mapSeq λ_=>#[Value.ref s'.heap.objs.size])).update S (Obj.mapSeq λ_=>#[Value.ref s'.heap.objs.size])).get? b=some o:=
   λb o f e=>(aS _ _ (Ne.symm f)).trans ((aS _ _ (Ne.symm f)).trans (af _ e))
  have Y:s'.heap.objs.size∉wr:=λhm2=>aT _ (lt_trans (hwS _ hm2) l);refine bV (wpAny_updateSeq D rfl (bW ⟨plainId_quiet plain_sum_loop _,ih (i+1) _ s'.heap.objs.size _ 0 (acc++a i) (by omega) H (W.frame _ s' _ _ u (by first|exact aw _|exact le_succ _|omega) λb f o e=>g b o (λh=>C (h ▸ f)) e) (aW _ D rfl) N Y ?_ ?_ K λX T'' c'' x z hor=>?_⟩))
  ·exact(aS _ _ (Ne.symm N)).trans ((aS _ _ (Ne.symm N)).trans hN1)
  ·intro j h1 h2
   obtain⟨cj,hj⟩:=hl j (by omega) h2
   exact⟨cj,g _ _ (p j h2).1 (hm.heap _ _ (p j h2).2 hj)⟩
  ·refine M X T'' c'' (Moved.trans W.gtrans ((hm.mono d).then_heap (by first|exact aw _|exact le_succ _|omega) λb o f e=>g b o (λh=>f (by rw[h];exact ax)) e) x) z (.inr ?_)
   rcases hor with ⟨_,rfl⟩|h
   ·exact bg (Nat.lt_of_le_of_lt hBS l)
   ·exact h
def PD {p q:Addr}{N:Nat}{a:bJ}{itss:List (bI)}(hh:A.handled=none)(y:s.heap.IsList p (a.map Value.ref).toArray)(S:s.heap.get? q=some (kG #[] N))
  (hlen:a.length=itss.length)(U:∀i,i<a.length->∃c,s.heap.get? (a.getD i 0)=some (kG (itss.getD i []).toArray c))(C:a≠[])(Y:itss.flatten.length<=sizeLine)
  (h:∀(h':Heap)(tk:Nat)(l:Addr)(c:Nat),s.heap.objs.size<=l->h'.get? l=some (kG itss.flatten.toArray c)->(∀b o,s.heap.get? b=some o->h'.get? b=some o)->Q (.ref l) { s with heap:=h',toks:=tk }):
  wpAny (model prog w) A (call (.builtin "sum") [.ref p,.ref q]) Q E s:=by
 refine call_function_tree PySem.F.kind_sum PySem.F.plain_sum PySem.F.entry_sum (OA _ _) ?_;unfold Builtin.«sum»;simp only[bp,length_nil];rw[ar (by decide)]
 refine bV (wpAny_of_eq (show Builtin.Builtins.bindParams "sum" ["start"] 0 ⟨[.ref q],[]⟩=pure [some (.ref q)] from rfl) ?_)
 refine bV (wpAny_pyIter_list y ?_);refine bV (bW ?_);generalize d:({ cls:=.type "list_iterator",data:=.fields #[.ref p,.int 0 0] }:Obj)=io;have n:(s.heap.push io).get? q=some (kG #[] N):=af _ S;have hT:Shared.TypeIs { s with heap:=s.heap.push io } (.ref q) "list":=⟨_,n,rfl⟩
 simp only[forIn_cons,forIn_nil];refine bV (bV (bV (wpAny_isInstance (b:=false) hT sub_list_str ?_)));simp only[aZ,if_false];refine bW (bV (bV (wpAny_isInstance (b:=false) hT sub_list_bytes ?_)));simp only[aZ,if_false];refine bW (bV (bV (wpAny_isInstance (b:=false) hT sub_list_bytearray ?_)));simp only[aZ,if_false];refine bW (bW ?_);refine bV (wpAny_newObj_type ?_);have sz:(s.heap.push io).objs.size=s.heap.objs.size+1:=a5 ..;have k:p<s.heap.objs.size:=by obtain⟨o,e,_⟩:=y;exact aB e
 have g:q<s.heap.objs.size:=aB S;have ltI:s.heap.objs.size<(s.heap.push io).objs.size:=by rw[sz];exact bc _
 have L:∀b,b<s.heap.objs.size->b<(s.heap.push io).objs.size:=λb I=>lt_trans I ltI;have W:=(Walks.list (prog:=prog) (w:=w) (A:=A.in1) (by simp[hh]) s.heap.objs.size p (aI k) (a.map Value.ref).toArray).toS
 have M:(a.map Value.ref).toArray.size=a.length:=by simp
 rw[M]at W;have J:(s.heap.push io).objs.size∉[s.heap.objs.size,p]:=λhm=>by
  rcases bX.mp hm with z|hm
  ·exact bq ltI z
  ·exact bq (L p k) (cb.mp hm)
 have t:∀i,i<a.length->a.getD i 0<s.heap.objs.size:=λi f=>by obtain⟨c,e⟩:=U i f;exact aB e
 have K:(s.heap.push io).get? s.heap.objs.size=some io:=ao _ (by rw[<- d];rfl)
 have H:((List.range' 0 a.length).map λj=>itss.getD j []).flatten=itss.flatten:=by
  congr 1
  rw[hlen]
  apply bF
  ·simp
  ·intro i h1 h2
   simp[ae,aa h2]
 refine bW ⟨plainId_quiet plain_sum_loop _,OK W (s.heap.push io).objs.size s.heap.objs.size J (bg ltI) (λi=>a.getD i 0) (λi=>itss.getD i []) (λi v e=>?_) (λi f=>⟨aI (L _ (t i f)),λhm=>?_⟩) (λb I=>?_)
  a.length 0 _ q 0 N [] (by omega) (zero_le _) ⟨⟨io,af _ K,by rw[<- d],by rw[<- d];rfl⟩,(y.push _).push _⟩ (ao _ rfl) (aI (L q g)) (λhm=>?_) (af _ n) (λj _ Z=>?_) ?_ λs' X c' hm r B=>?_⟩
 ·have f:i<a.length:=by
   have:=(Array.getElem?_eq_some_iff.mp e).1
   simpa using this
  have u:(a.map Value.ref)[i]? =some v:=by simpa using e
  rw[av,aa f]at u;rw[ae,aa f];exact(az u).symm
 ·exact aI (t i f) (cb.mp hm)
 ·rw[cb.mp I];exact ltI
 ·exact aI g (cb.mp hm)
 ·obtain⟨c,e⟩:=U j Z
  exact⟨c,af _ (af _ e)⟩
 ·rw[nil_append,H];exact Y
 ·rw[nil_append,H]at r
  have hB:s.heap.objs.size<=X:=by
   rcases B with ⟨h0,_⟩|h0
   ·exact absurd (List.length_eq_zero_iff.mp h0) C
   ·exact h0
  obtain⟨h',g',d',T,x⟩:=s';have e1:g'=s.gens:=hm.gens;have u:d'=s.drawn:=hm.drawn;have e3:x=s.os:=hm.os;subst e1 u e3;refine h h' T X c' hB r λb o e=>hm.heap b o (λD=>?_) (af _ (af _ e));have P:b<s.heap.objs.size:=aB e;rcases bX.mp D with z|z
  ·exact aI (L b P) z
  ·exact aI P (cb.mp z)
end
section
variable {K:Frag}
def U4 (K:Frag):List V->Hp->VK->Prop:=λxs H Q=>∃(p q:Addr) (ls:List (Addr×List V)),xs=[.ref p,.ref q]/\H p=some (.lst (ls.map λl=>V.ref l.1))/\H q=some (.lst [])/\(∀l∈ls,H l.1=some (.lst l.2))/\ls≠[]/\(ls.map (·.2)).flatten.length<=z8/\
 ∀l,H l=none->Q (.ref l) (upd H l (.lst (ls.map (·.2)).flatten))
theorem XN:∀{ls:List (Addr×List V)}{us:bI},Vals (ls.map λl=>V.ref l.1) us->us=(ls.map (·.1)).map Value.ref
 |[],_,h=>by cases h;rfl|l::ls,_,h=>by
  cases h with
  |cons r t=>cases r;rw[XN t];rfl
def PH (Z:X.calm=true):jD X (.builtin "sum") (U4 X.K):=by
 intro pins s σ H xs us Q I r h;obtain⟨p,q,ls,rfl,T,S,U,t,A,k⟩:=h;obtain⟨u,v,rfl,C,B⟩:=Vals.two r;cases C;cases B;obtain⟨_,M,np,E,_,ep⟩:=I.lstM T;obtain⟨_,j,nq,D,lq,eq⟩:=I.lstM S;have b:j=[]:=by cases D;rfl
 subst b;have d:=XN E;subst d;have hex:∀L:List (Addr×List V),(∀l∈L,H l.1=some (.lst l.2))->∃itss:List (bI),itss.length=L.length/\(∀i,i<L.length->∃c,s.heap.get? ((L.map (·.1)).getD i 0)=some (kG (itss.getD i []).toArray c))/\Vals (L.map (·.2)).flatten itss.flatten:=by
  intro L
  induction L with
  |nil=>intro _;exact⟨[],rfl,λi f=>absurd f (Nat.not_lt_zero _),.nil⟩|cons l L N=>
   intro hm;obtain⟨itss,z,y,g⟩:=N λx P=>hm x (ai _ P);obtain⟨_,it,n,J,_,e1⟩:=I.lstM (hm l (ax ..));refine⟨it::itss,by simp[z],λi f=>?_,?_⟩
   ·cases i with
    |zero=>exact⟨n,e1⟩|succ i=>exact y i (by simpa using f)
   ·rw[aV,aR,aR]
    exact J.append g
 obtain⟨itss,z,y,g⟩:=hex ls U;have w:itss.flatten.length=(ls.map (·.2)).flatten.length:=g.length.symm;refine PD (I.ok.hd Z) (itss:=itss) ⟨_,ep,rfl,np,rfl⟩ eq (by simp[z]) (λi f=>y i (by simpa using f)) (λe=>t (List.map_eq_nil_iff.mp e)) (by rw[w];exact gn A) λh' tk l c a Y kp=>?_
 exact⟨.ref l,_,I.laid (t':=tk) (o:=.lst (ls.map (·.2)).flatten) kp a ⟨gn A,itss.flatten,c,g,Y⟩,rfl,k _ (I.hok.fresh a)⟩
noncomputable def kK (A:Hx):List W->Option (List (List W))
 |[]=>some []|.ref k::us=>match A[k]? with
  |some (.lst ws)=>(kK A us).map (ws::·)|_=>none
 |_::_=>none
def gy:W->W->Hx->R W:=λx y A=>match x,y with
 |.ref n,.ref k=>match A[n]?,A[k]? with
  |some (.lst us),some (.lst [])=>match kK A us with
   |some w=>if us≠[]/\w.flatten.length<=z8 then .ok (.ref A.length) (A++[.lst w.flatten]) else .bad|none=>.bad
  |_,_=>.bad
 |_,_=>.bad
def Lr:∀x y A,qo (gy x y A):=λx y A=>by
 unfold gy
 split
 ·split
  ·split
   ·exact ko jw qk
   ·exact qk
  ·exact qk
 ·exact qk
theorem zx.app:∀{ws us:List W}{xs ys:List V},zx K φ H ws xs->zx K φ H us ys->zx K φ H (ws++us) (xs++ys)
 |[],_,_,_,h,a=>by cases h;exact a|w::ws,_,_,_,⟨v,r,e,h,t⟩,a=>by subst e;exact⟨v,_,rfl,h,zx.app t a⟩
theorem Xw (S:zB K φ A H):∀{us:List W}{w:List (List W)}{vs:List V},kK A us=some w->zx K φ H us vs->∃ls:List (Addr×List V),vs=ls.map (λl=>V.ref l.1)/\(∀l∈ls,H l.1=some (.lst l.2))/\zx K φ H w.flatten (ls.map (·.2)).flatten/\ls.length=us.length
 |[],_,_,e,h=>by cases e;cases h;exact⟨[],rfl,λl a=>(by cases a),rfl,rfl⟩|u::us,w,_,e,⟨v,r,n,h,t⟩=>by
  subst n;cases u with
  |ref k=>
   unfold kK at e;cases E:A[k]? with
   |none=>rw[E]at e;cases e|some o=>cases o with
    |lst ws=>
     rw[E]at e;dsimp only at e;cases b:kK A us with
     |none=>rw[b]at e;cases e|some c=>
      rw[b]at e;cases e;obtain⟨p,xs,rfl,_,f,d⟩:=S.lst h E;obtain⟨ls,rfl,j,i,g⟩:=Xw S b t;refine⟨(p,xs)::ls,rfl,λl a=>?_,zx.app d i,by simp[g]⟩
      rcases bX.mp a with rfl|a
      ·exact f
      ·exact j l a
    |_=>rw[E]at e;cases e
  |_=>cases e
def Nj:jR K (λx y=>U4 K [x,y]) gy:=λφ A H x y u v Q S g q p=>by
 unfold gy at p;cases u with
 |ref n=>cases v with
  |ref k=>
   dsimp only at p;cases E:A[n]? with
   |none=>rw[E]at p;exact p.elim|some o=>cases o with
    |lst us=>
     cases a:A[k]? with
     |none=>rw[E,a]at p;exact p.elim|some j=>cases j with
      |lst zs=>cases zs with
       |nil=>
        rw[E,a]at p;dsimp only at p;cases b:kK A us with
        |none=>rw[b]at p;exact p.elim|some w=>
         rw[b]at p;dsimp only at p
         by_cases h:us≠[]/\w.flatten.length<=z8
         ·rw[ah h]at p
          obtain⟨i,xs,rfl,_,t,f⟩:=S.lst g E;obtain⟨P,ys,rfl,_,s,r⟩:=S.lst q a;cases r;obtain⟨ls,rfl,B,d,c⟩:=Xw S b f;refine⟨i,P,ls,rfl,t,s,B,λe=>?_,by rw[<- d.length];exact h.2,λl z=>?_⟩
          ·rw[e]at c
           exact h.1 (List.length_eq_zero_iff.mp c.symm)
          ·obtain⟨a1,a2,C⟩:=gU S z d
           exact p _ _ _ a1 a2 C
         ·rw[ar h]at p;exact p.elim
       |cons _ _=>rw[E,a]at p;exact p.elim
      |_=>rw[E,a]at p;exact p.elim
    |_=>rw[E]at p;exact p.elim
  |_=>exact p.elim
 |_=>cases v<;>exact p.elim
variable {a b:Expr}{ma mb:Ev}
def Ip (t:TA):TE:=λσ H Q=>t σ H λvs H1=>∃i j:Int,vs=[.int i,.int j]/\∀p,H1 p=none->Q (.ref p) (upd H1 p (.rng i j))
def NG {T:TA}(g:Gl X "range")(hm:X.mg "range"=none)(k:PA X [a,b] T)(f:starEach [a,b] X.env=[(false,eval a X.env),(false,eval b X.env)])(c:starEach [b] X.env=[(false,eval b X.env)]):PE X (.Call (.Name "range" p) [a,b] [] pos) (Ip T):=by
 intro pins s σ H Q I h;refine Call_ (g9 I g hm boot_range (PyProof.Rows.callWith_type1 (zP (k pos pins s σ H _ I h) λus s1 ⟨vs,H1,d,r,e⟩=>?_) (by rw[f,c]) (by rw[c];rfl)))
 obtain⟨i,j,rfl,q⟩:=e;obtain⟨u,v,rfl,⟨t,rfl⟩,⟨l,rfl⟩⟩:=Vals.two r;refine call_range_2 ⟨.ref _,_,d.laid (o:=.rng i j) (λb o E=>af _ E) (aw _) ?_,rfl,q _ (d.hok.fresh (aw _))⟩;exact⟨_,_,_,ao _ rfl⟩
noncomputable def ZA (lo:Int)(n:Nat):List V:=(List.range n).map λ(i:Nat)=>V.int (lo+i)
def RL (A:X.calm=true):jD X (.type "list") (λxs H Q=>∃(r:Addr) (i j:Int),xs=[.ref r]/\H r=some (.rng i j)/\(-(2 ^ 62)<=i/\i<2 ^ 62)/\(-(2 ^ 62)<=j/\j<2 ^ 62)/\(j-i).toNat<=sizeLine/\∀l,H l=none->Q (.ref l) (upd H l (.lst (ZA i (j-i).toNat)))):=by
 intro pins s σ H xs us Q I r h;obtain⟨p,i,j,rfl,x,⟨a1,a2⟩,⟨D,B⟩,z,q⟩:=h;obtain⟨u,rfl,g⟩:=vals1 r;cases g;obtain⟨t1,T,t3,y⟩:=I.hok p _ x;have E:sizeLine=16777216:=sizeLine_eq;refine PySem.call_list_range (n:=(j-i).toNat) (I.ok.hd A) (show IsRange s.heap p i j 1 t1 T t3 from y) (small_one (by omega) (by omega) D B) (by rw[rangeSize_one];split<;>omega) (by omega) λh' tk acc C kk S ⟨hn,d⟩=>?_
 refine⟨.ref s.heap.objs.size,_,I.laid (t':=tk) (o:=.lst (ZA i (j-i).toNat)) kk (aw _) ?_,rfl,q _ (I.hok.fresh (aw _))⟩;refine⟨by unfold ZA;simpa using z,acc.toList,C,?_,by simpa using S⟩
 have a:∀(l:bI)(k:Nat),(∀(m:Nat) v,l[m]? =some v->∃t,v=.int (i+((k+m:Nat):Int)) t)->Vals ((List.range' k l.length).map λ(m:Nat)=>V.int (i+(m:Int))) l:=by
  intro l
  induction l with
  |nil=>intro k _;exact .nil|cons v l w=>
   intro k e;rw[bp,range'_succ,aV];refine .cons ?_ (w (k+1) λm f a=>?_)
   ·obtain⟨t,rfl⟩:=e 0 v rfl
    exact⟨t,rfl⟩
   ·obtain⟨t,rfl⟩:=e (m+1) f (by simpa using a)
    exact⟨t,by first|rfl|(congr 1<;>omega)|(simp;omega)⟩
 have b:acc.toList.length=(j-i).toNat:=by simpa using hn
 have:=a acc.toList 0 λm v c=>by
  obtain⟨t,rfl⟩:=d m v (by simpa using c)
  exact⟨t,by first|rfl|(congr 1<;>omega)|(simp;omega)⟩
 rw[b]at this;unfold ZA;rw[range_eq_range'];exact this
def QY (ma mb:Ev):Ev:=λρ A=>(ma ρ A).bind λx A1=>(mb ρ A1).bind λy A2=>match x,y with
 |.int i,.int j=>if jy i&&(jy j&&decide ((j-i).toNat<=z8)) then .ok (.ref A2.length) (A2++[.lst ((List.range (j-i).toNat).map λ(k:Nat)=>W.int (i+k))]) else .bad|_,_=>.bad
end
noncomputable def Ym (_ j:Int):Bool:=decide (0<j)&&decide (j<1152921504606846976)
def U6 (i j:Int):Prop:=0<j/\j<1152921504606846976
def NB (i j:Int)(h:Ym i j=true):U6 i j:=by
 unfold Ym at h;rw[aq]at h;exact⟨of_decide_eq_true h.1,of_decide_eq_true h.2⟩
def OT:qy X (binaryOp .FloorDiv) (rI U6 λi j=>.int (i/j)):=Ka λi j _ _ _ _ _ h q=>by
 have a:(0:Int)<j:=h.1;have H:j<1152921504606846976:=h.2;refine floordiv_int (by omega) (by rw[Int.fdiv_eq_ediv_of_nonneg i (by omega)];exact q) (.inl (PyProof.noPylong_of_log2 ?_))
 have h0:j.natAbs≠0:=by omega
 have:j.natAbs.log2<60:=(Nat.log2_lt h0).mpr (by omega)
 omega
def wU:=gH Ym λi j=>.int (i/j)
noncomputable def Qj (RF:Nat->List W->Hx->R W):Fn:=λus A=>match us with
 |[.clo k ws _]=>RF k ws A|_=>.bad
def OU {RF:Nat->List W->Hx->R W}(PG:jq)(us:List W)(A:Hx):Qj RF us A=.bad∨Zh PG RF (us.map (Yo PG)) A=Qj RF us A:=by
 cases us with
 |nil=>exact .inl rfl|cons u us=>
  cases us with
  |cons v us=>cases u<;>exact .inl rfl|nil=>
   cases u with
   |clo k ws P=>
    refine .inr ?_;show Zh PG RF [.clo k ws (PG k)] A=RF k ws A;unfold Zh;dsimp only;rw[ah rfl]
   |_=>exact .inl rfl
def E7 (e:Expr):Expr:=match e with
 |.Compare l _ _ _=>l|_=>ZE
end Mi
namespace PySem.SeqAt
open PySem
end PySem.SeqAt
namespace Mi
open PySem PySem.Spec PyProof.Rows L2
open PySem.W (KasT kas_rev kas_asc kas_desc kas_tail3 kas_descPart kas_count kas_place kas_bin kas_sort)
open PySem.W (KasT kas_sort kas_ask kat_run kat_snds kat_kind kat_lt kat_cons kat_nil kat_yes kat_no kat_one KatLex KatGo KatTups)
noncomputable def TF (x:Str):It:=⟨λi _=>i<x.cps.size,λi H v h=>h=H/\∃c,x.cps[i]? =some c/\v=.str ⟨#[c]⟩,λi _=>x.cps.size<=i⟩
def N5 {K:Frag}(it:Addr)(x:Str)(t:Tok):Turn P w K tg (TF x) [it] it (λi h=>h.IsStrIter it "str_ascii_iterator" x t i) where
 mem:=by simp
 obj:=λi h st b a=>by
  have e:b=it:=by simpa using a
  subst e;obtain⟨o,e,c,d⟩:=st;exact⟨o,e,λv z=>by rw[d]at z;cases z⟩
 keep:=λi h h' ⟨o,e,r⟩ k=>⟨o,k it (by simp) o e,r⟩
 item:=by
  intro X f hw j q i pins s σ H E I hf st g;subst f hw j;have p:x.cps[i]? =some x.cps[i]:=Array.getElem?_eq_getElem g;obtain⟨f0,f1,f2,n,f4,l⟩:=hf it (by simp)
  refine wpAny_pyNext_ascii_item st p λh' S u=>?_;have A:Inv X pins σ H { s with heap:=h',toks:=s.toks+1 }:=I.turned (λb o a e=>(u.2 b a).trans e) f0 f1 n f4 l
  obtain⟨o,e,c,d⟩:=id S;exact⟨_,rfl,Yk (s:={ s with heap:=h',toks:=s.toks+1 }) e c d (by decide) ⟨.str ⟨#[x.cps[i]]⟩,H,A,⟨_,rfl⟩,⟨rfl,_,p,rfl⟩,S,λb a=>(hf b a).1⟩⟩
 done:=by
  intro X f hw j q i pins s σ H E I hf st g;subst f hw j;obtain⟨f0,f1,f2,n,f4,l⟩:=hf it (by simp)
  exact wpAny_pyNext_ascii_end (I.ok.hd q) st (Array.getElem?_eq_none g) λh' y=>⟨rfl,I.turned (t':=s.toks) (λb o a e=>y b o a e) f0 f1 n f4 l⟩
 self:=λ_ _ _ _ _ st h=>wpAny_pyIter_striter_ascii st h
noncomputable def YB (x:Str):Bool:=x.cps.all (· < 128)
noncomputable def Gi (x:Str):jk:=⟨λ_ i=>some ((x.cps[i]?).map λc=>W.str ⟨#[c]⟩),x.cps.size⟩
section
variable {a b:Expr}{m ma mb:Ev}{K:Frag}
def EV (t:TE):TI:=λσ H R=>t σ H λv H1=>∃x,v=.str x/\YB x=true/\R (TF x) H1
def L7 {l:Expr}{T:TE}(c:PE X l T):PI X tg l (EV T):=by
 intro pins s σ H R I h;refine zP (c pins s σ H _ I h) λv s1 ⟨y,H1,i,r,Q⟩=>?_;obtain⟨x,e,a,q⟩:=Q;subst e;obtain⟨t,rfl⟩:=r;refine wpAny_pyIter_ascii a ?_;refine⟨s1.heap.objs.size,[s1.heap.objs.size],_,_,H1,rfl,i.kept (t':=s1.toks) λb o e=>af _ e,N5 _ x t,⟨_,ao _ rfl,rfl,rfl⟩,λb d=>?_,q⟩;have e:b=s1.heap.objs.size:=by simpa using d
 subst e;exact i.fpOk (aw _) (i.hok.fresh (aw _))
def ZN (m:Ev):Ei:=λρ A=>(m ρ A).bind λw A1=>match w with
 |.str x=>if YB x then .ok (Gi x) A1 else .bad|_=>.bad
noncomputable def kQ (i:Int):Str:=Str.ofString (toString i)
def P9:jD X (.type "str") (λxs H Q=>∃i:Int,xs=[.int i]/\0<=i/\i<1000/\Q (.str (kQ i)) H):=by
 intro pins s σ H xs us Q I r h;obtain⟨i,rfl,h0,a,q⟩:=h;obtain⟨u,rfl,t,rfl⟩:=vals1 r;exact str_of_int_fit (N:=1000) (by rw[ar (by omega)];exact a) (by decide) λ_=>⟨.str (kQ i),H,I.tok _,⟨_,rfl⟩,q⟩
def Zg:W->Hx->R W
 |.int i,A=>if 0<=i/\i<1000 then .ok (.str (kQ i)) A else .bad|_,_=>.bad
def OQ:jD X (.builtin "len") (λxs H Q=>∃x:Str,xs=[.str x]/\x.length<1000000/\Q (.int x.length) H):=by
 intro pins s σ H xs us Q I r h;obtain⟨x,rfl,a,q⟩:=h;obtain⟨u,rfl,t,rfl⟩:=vals1 r;exact PySem.P.len_str (by omega) ⟨.int x.length,H,I.tok _,⟨_,rfl⟩,q⟩
noncomputable def Yq:W->Hx->R W
 |.str x,A=>if x.length<1000000 then .ok (.int x.length) A else .bad|_,_=>.bad
noncomputable def TN (r:V->List V->Hp->VK->Prop)(to:TE)(t:TA):TE:=λσ H Q=>to σ H λv H1=>∃x,v=.str x/\t σ H1 λxs h=>r v xs h Q
def WY {o:Expr}{E:bO}{to:TE}{t:TA}{name:Str}{id:String}{r:V->List V->Hp->VK->Prop}(slot:Slot "str" name id)(d:typeOf (.builtin id)=pure (.type "method_descriptor"))(hm:Qz X id r)(k:PE X o to)(l:PA X (e::E) t)
  (c:attributeBase o name X.env (eval o X.env)=eval o X.env)
  (w:((backTo cpos (starEach (e::E) X.env)).all (λx=>!x.1)&&(backToKw cpos (keywordEach [] X.env)).all (λx=>x.1.isSome)
   && decide ((e::E).length+([]:bS).length+(if ([]:bS).isEmpty then 0 else 1)<30))=true)
  (b:(apos.endLine==cpos.line)=true)(j:starEach (e::E) X.env=(false,eval e X.env)::starEach E X.env)(n:(backTo cpos (starEach E X.env)).any (·.1)=false):
  PE X (.Call (.Attribute o name apos) (e::E) [] cpos) (TN r to t):=by
 intro pins s σ H Q I h;refine wpAny_Call_method_late c w b rfl (zP (k pins s σ H _ I h) λv s1 ⟨y,H1,B,g,x,p,i⟩=>?_);subst p;obtain⟨tk,rfl⟩:=g;refine⟨"str",id,PySem.F.plainAttrs_str,slot,d,typeIs_str _ _ _,λa u=>(by cases u),?_⟩
 have A:=l cpos pins s1 σ H1 _ B i;rw[j]at A ⊢;refine Calls.callWith_builtin (by show(false || (backTo cpos (starEach E X.env)).any (·.1))=false;rw[n];rfl) (Calls.evalArgs_plain ?_)
 exact zP A λus s2 ⟨vs,C,z,f,q⟩=>hm pins s2 σ C (.str x) vs (.str x tk) us Q z ⟨tk,rfl⟩ f q
noncomputable def j5 (g:W->W->Hx->R W)(a b:Ev):Ev:=λρ A=>(a ρ A).bind λx A1=>match x with
 |.str s=>(b ρ A1).bind λy A2=>g (.str s) y A2|_=>.bad
def j5.read {r:V->List V->Hp->VK->Prop}(hn:∀x y A,qo (g x y A))(j:jR X.K (λv f=>r v [f]) g)(t:starEach [b] X.env=(false,eval b X.env)::starEach [] X.env):∀σ H Q,tM X.K xr (j5 g ma mb) σ H Q->TN r (tM X.K xr ma) (λσ H Q=>tM X.K xr mb σ H λv p=>Q [v] p) σ H Q:=by
 rintro σ H Q ⟨φ,A,ρ,S,re,h⟩
 refine tM.go S re (zY.mp h) λw A1 d H1 v c l n i=>?_;cases w with
 |str x=>
  obtain rfl:=i;refine⟨x,rfl,?_⟩;refine tM.go n (re.mono l) (qj (zY.mp c) (λ_ _ z=>z) λ_ _ z=>z.mono l) λe A2 a o v2 k L s q=>?_;exact j a A2 o _ v2 (.str x) e Q s rfl q (qj (Zr (hn _ _ _) k) (λ_ _ z=>z.mono (l.trans L)) λ_ _ z=>z)
 |_=>exact c.elim
noncomputable def strsOf:List W->Option (bM)
 |[]=>some []|.str x::ws=>(strsOf ws).map (x::·)|_::_=>none
theorem XU:∀{ws:List W}{xs:bM},strsOf ws=some xs->ws=xs.map W.str
 |[],_,h=>by cases h;rfl|w::ws,xs,h=>by
  cases w with
  |str x=>
   unfold strsOf at h;cases e:strsOf ws with
   |none=>rw[e]at h;cases h|some ys=>rw[e]at h;cases h;rw[XU e];rfl
  |_=>cases h
theorem zx.strs:∀{xs:bM}{vs:List V},zx K φ H (xs.map W.str) vs↔vs=xs.map V.str
 |[],_=>Iff.rfl|x::xs,vs=>by
  constructor
  ·rintro⟨v,r,e,h,t⟩
   have h':v=.str x:=h;subst e h';rw[zx.strs.mp t]
   rfl
  ·rintro rfl
   exact⟨.str x,xs.map V.str,rfl,rfl,zx.strs.mpr rfl⟩
theorem Vl:∀{xs:bM}{us:bI},Vals (xs.map V.str) us->∃l:List (Str×Tok),us=strValues l/\l.map (·.1)=xs
 |[],_,h=>⟨[],Vals.zero h,rfl⟩|x::xs,_,.cons r t=>by
  obtain⟨tk,rfl⟩:=r;obtain⟨l,rfl,e⟩:=Vl t;exact⟨(x,tk)::l,rfl,by rw[aV,e]⟩
theorem Vf:∀(l:List (Str×Tok)),Vals ((l.map (·.1)).map V.str) (strValues l)
 |[]=>.nil|p::l=>.cons ⟨p.2,rfl⟩ (Vf l)
noncomputable def rJoin (K:Frag):V->List V->Hp->VK->Prop:=λv vs H Q=>∃sep p xs,v=.str sep/\vs=[.ref p]/\qH K H p (xs.map V.str)/\JoinOk sep xs=true/\Q (.str (Txt.join sep xs)) H
def MD:Qz X "str.join" (rJoin X.K):=by
 intro pins s σ H x vs v us Q I r a h;obtain⟨sep,p,xs,rfl,rfl,e,hok,q⟩:=h;obtain⟨t,rfl⟩:=r;obtain⟨u,rfl,b⟩:=a.one;cases b;obtain⟨i,d,⟨o,k,j,g,n,E⟩,z⟩:=I.list e;obtain⟨l,rfl,f⟩:=Vl d;exact SC.join ⟨o,j,g,k,E⟩ f hok λt' c=>⟨.str _,H,I.tok c,⟨t',rfl⟩,q⟩
def kM:W->W->Hx->R W:=λx y A=>match x,y with
 |.str sep,.ref n=>match A[n]? with
  |some (.lst ws)=>match strsOf ws with
   |some xs=>if JoinOk sep xs then .ok (.str (Txt.join sep xs)) A else .bad|none=>.bad
  |_=>.bad
 |_,_=>.bad
def LR:∀x y A,qo (kM x y A):=λx y A=>by
 unfold kM
 split
 ·split
  ·split
   ·exact ko jw qk
   ·exact qk
  ·exact qk
 ·exact qk
noncomputable def U1:V->List V->Hp->VK->Prop:=λv vs H Q=>∃x y,v=.str x/\vs=[.str y]/\Q (.int (Txt.find x y)) H
def MY:Qz X "str.find" U1:=by
 intro pins s σ H x vs v us Q I r a h;obtain⟨x,y,rfl,rfl,q⟩:=h;obtain⟨t,rfl⟩:=r;obtain⟨u,rfl,t',rfl⟩:=a.one;exact SC.find ⟨.int _,H,I.tok _,⟨_,rfl⟩,q⟩
noncomputable def Ys:W->W->Hx->R W:=λx y A=>match x,y with
 |.str x,.str y=>.ok (.int (Txt.find x y)) A|_,_=>.bad
def Lp:∀x y A,qo (Ys x y A):=λx y A=>by
 unfold Ys
 split
 ·exact jw
 ·exact qk
def MC {prog:Program}{A:Around}{y:Str}{t u:Tok}(H:(y.length==0)=false)(a:x.length<=100000)
  (h:∀(l:List (Str×Tok))(k:Nat),l.map (·.1)=Txt.split x y->Q (.ref s.heap.objs.size) { s with heap:=s.heap.push { cls:=.type "list",data:=.seq (strValues l).toArray },toks:=k }):
  wpAny (model prog w) A (call (.builtin "str.split") [.str x t,.str y u]) Q E s:=by
 have z:x.length<=sizeLine:=by rw[sizeLine_eq];omega
 cases h1:(decide (x.length<y.length) || decide (Builtin.Str.strKind x<Builtin.Str.strKind y))
 ·cases hf:(Builtin.Str.occurrences x y 0 x.length (x.length+1)).isEmpty
  ·have e:Txt.split x y=Builtin.Str.partsBetween x (Builtin.Str.occurrences x y 0 x.length (x.length+1)) y.length:=(ar (ne_true_of_eq_false h1)).trans (ar (ne_true_of_eq_false hf))
   have hn:(Builtin.Str.partsBetween x (Builtin.Str.occurrences x y 0 x.length (x.length+1)) y.length).length<=sizeLine:=by
    rw[<- e,sizeLine_eq]
    have:=split_le x y
    omega
   refine call_meets F.slot_str_split (typeIs_str _ _ _) F.entry_str_split (F.args_str_split_2 _ _) (meets_str_split_sep x y t u h1 H hf z hn) ?_;show wants Q E _ { s with toks:=_,heap:=s.heap.push { cls:=.type "list",data:=.seq (strsFrom s.toks (Builtin.Str.partsBetween x (Builtin.Str.occurrences x y 0 x.length (x.length+1)) y.length)).toArray } }
   rw[strsFrom_eq];exact h (numbered s.toks _) _ ((numbered_texts _ _).trans e.symm)
  ·exact call_meets F.slot_str_split (typeIs_str _ _ _) F.entry_str_split (F.args_str_split_2 _ _) (meets_str_split_not_found x y t u h1 H hf)
    (h [(x,t)] s.toks ((ar (ne_true_of_eq_false h1)).trans (ah hf)).symm)
 ·exact call_meets F.slot_str_split (typeIs_str _ _ _) F.entry_str_split (F.args_str_split_2 _ _) (meets_str_split_cannot_occur x y t u h1)
   (h [(x,t)] s.toks (ah h1).symm)
def UJ:V->List V->Hp->VK->Prop:=λv vs H Q=>∃x y,v=.str x/\vs=[.str y]/\(y.length==0)=false/\x.length<=100000/\∀l,H l=none->Q (.ref l) (upd H l (.lst ((Txt.split x y).map V.str)))
def NZ:Qz X "str.split" UJ:=by
 intro pins s σ H x vs v us Q I r a h;obtain⟨x,y,rfl,rfl,c,d,q⟩:=h;obtain⟨t,rfl⟩:=r;obtain⟨u,rfl,t',rfl⟩:=a.one;refine MC c d λl k e=>?_;refine⟨.ref s.heap.objs.size,_,I.laid (t':=k) (o:=.lst ((Txt.split x y).map V.str)) (λb o e=>af _ e) (aw _) ⟨?_,strValues l,_,by rw[<- e];exact Vf l,ao _ rfl⟩,rfl,q _ (I.hok.fresh (aw _))⟩
 rw[aj,sizeLine_eq]
 have:=split_le x y
 omega
noncomputable def gx:W->W->Hx->R W:=λx y A=>match x,y with
 |.str x,.str y=>if (y.length==0)=false/\x.length<=100000 then .ok (.ref A.length) (A++[.lst ((Txt.split x y).map W.str)]) else .bad|_,_=>.bad
def OX:∀x y A,qo (gx x y A):=λx y A=>by
 unfold gx
 split
 ·exact ko jw qk
 ·exact qk
end
def TJ (K:Frag)(x y:Str):Prop:=∃t,nsIn K mainGlobals x=some (some (.str y t))
def HN {K:Frag}{y:Str}{t:Tok}(a:nsIn K mainGlobals x=some (some (.str y t))):TJ K x y:=⟨t,a⟩
@[irreducible] noncomputable def GB (X:Cx)(x:XR)(e:bO)(ms:List Ev):Prop:=Mi.SJ X x e ms
def Hl:@GB=@Mi.SJ:=by
 funext X xr es ms
 unfold GB
 rfl
section
def jI:@zr=@Mi.SE/\@kE=@Mi.SA/\@jY=@Mi.ST/\@wy=@Mi.SW/\@yJ=@Mi.SS/\@yF=@Mi.Y7/\@ka=@Mi.SI/\@kT=@Mi.SG/\@Zk=@Mi.SF/\@wA=@Mi.SQ/\@wZ=@Mi.YT/\@wD=@Mi.SM/\@GB=@Mi.SJ:=⟨WD,UB,Uw,UG,UI,V9,Ui,UE,Uz,Uv,VI,UN,Hl⟩
def XY {g:Heap}{E:bO}{f:Fn}(o:wu X g xr)(F:yw X.prog X.w X.K X.mg X.base k x n f)(i:jo k X.A)(B:kE X xr (e::E) mr)(j:w8 mr n:=by repeat' (first|exact zC|refine zm ?_))(t:Gl X x:=by rfl)
  (c:(x==("__debug__":Str))=false:=by decide)(he:starEach (e::E) X.env=(false,eval e X.env)::starEach E X.env:=by rfl)(l:(backTo pos (starEach E X.env)).any (·.1)=false:=by rfl):
  zr X xr (.Call (.Name x p) (e::E) [] pos) (zK f mr):=by
 try simp only[jI]at*
 obtain⟨N,fd,ps,F,hm,s,u⟩:=F;refine PE.imp (VV F i t hm s u .nil o.passes B c he l) λσ H Q ⟨φ,A,ρ,S,re,h⟩=>?_;have h':=zY.mp h;refine⟨φ,A,ρ,S,re,?_⟩;cases r:mr ρ A with
 |ok ws A1=>
  rw[r]at h';intro b H1 vs L I q;have v:vs.length=n:=by rw[<- q.length];exact j ρ A ws A1 r
  rw[bo];refine⟨v,b,A1,ws,I,q,qj h' (λ_ _ z=>z.mono L) λy A2 z a J d D M C=>?_⟩;exact⟨y,M,rfl,C,z a J (L.trans d) D⟩
 |exc y A1=>rw[r]at h';exact h'|bad=>rw[r]at h';exact h'
def Wq {m:Ev}(h:jY X.nox yb e m):jY X xr e λρ A=>(m ρ A).nox:=by
 try simp only[jI]at*
 refine PT.imp (PT.nox h) λσ H Q ⟨φ,A,ρ,S,re,q⟩=>⟨φ,A,ρ,S,re,?_⟩;cases E:m ρ A with
 |ok w A1=>(try dsimp only at q);rw[E]at q;exact q|exc y A1=>(try dsimp only at q);rw[E]at q;exact q.elim|bad=>(try dsimp only at q);rw[E]at q;exact q.elim
def VE {m1:Ex}{s:bU}(h:yF X.nox yb s m1):yF X xr s λρ A=>(m1 ρ A).nox:=by
 try simp only[jI]at*
 refine jZ.imp (jZ.nox h) λD σ H ⟨φ,A,ρ,S,re,q⟩=>⟨φ,A,ρ,S,re,?_⟩;cases e:m1 ρ A with
 |ok w A1=>(try dsimp only at q);rw[e]at q;exact q|exc y A1=>(try dsimp only at q);rw[e]at q;exact q.elim|bad=>(try dsimp only at q);rw[e]at q;exact q.elim
def KL {g:Heap}{E:bO}{top:Str}{np:Pos}(o:wu X g xr)(c:K3 X.K top x)(d:kE X xr (e::E) mr)(l:w8 mr n:=by repeat' (first|exact zC|refine zm ?_))(hn:n<=sizeLine:=by decide)(a:Gl X x:=by rfl)(h:X.calm=true:=by rfl)
  (b:(x==("__debug__":Str))=false:=by decide)(he:starEach (e::E) X.env=(false,eval e X.env)::starEach E X.env:=by rfl)(H:(backTo cpos (starEach E X.env)).any (·.1)=false:=by rfl):
  yJ X xr (.Raise (some (.Call (.Name x np) (e::E) [] cpos)) none pos) (QZ x mr):=by
 try simp only[jI]at*
 exact N6 o c.at_ c.exc PySem.F.excBase_ValueError d l hn a h b he H
def Gg {K:Frag}{st:Stmt}{m:Ex}(F:kf K x x st f fd)(hm:mg x=some (.ref f))(S:jh N ps (qm st))
  (j:∀(kV doc pm:Value)(an:bT)(c ct:Value)(us:bI),us.length=ps.length->bindArgs (fnOf x x (gQ st) (ki st) (qm st) .none kV doc pm an c ct) ⟨us,[]⟩=pure (ps.zip us))
  (a:∀(c:Value)(A:Around)(outer:bQ)(s:Shared)(H:Hp)(E:XK),jo k (A.deeper (envOfC x (qm st) s.heap.objs.size f c))->
   wu (kv (kY P w) P w K mg base N x (qm st) f c A outer s H E) s.heap (wz K E)->yF (kv (kY P w) P w K mg base N x (qm st) f c A outer s H E) (wz K E) (ki st) m):
  yw P w K mg base (k+1) x ps.length (wY N.length m):=by
 try simp only[jI]at*
 refine⟨f,fd,ps,?_,hm,F.kp,F.binds j⟩;obtain⟨v,u,kV,doc,pm,an,c,ct,o,rfl,lk,d⟩:=F.ex;refine WR lk d S (λvs H Q E h=>h.len) λA outer s H vs Q E i ⟨z,φ,A1,ws,p,r,h⟩=>⟨_,a c A outer s H E i EW,?_⟩;refine⟨φ,A1,ws.map some++List.replicate (N.length-ws.length) none,p,RE.start r,?_⟩;have h':=zY.mp h;show R.post _ (FB K φ H _) _;cases e:m (ws.map some++List.replicate (N.length-ws.length) none) A1 with
 |ok n A2=>
  rw[e]at h';cases n with
  |rt w=>exact h'|nx ρ=>exactλb t g l q _=>h' b t .non l q rfl|bk ρ=>exact h'.elim|ct ρ=>exact h'.elim
 |exc y A2=>rw[e]at h';exact h'|bad=>rw[e]at h';exact h'.elim
def LJ {L:Addr}{l:Nat}{n:Str}{y:Str}{Z:Str}{cs:bM}{PG:Nat->Obj->Addr->Obj->List V->Prop}{lam:Nat->Fn}{U:bI}{newD:String}{np:Pos}{cp:Pos}{ep:Pos}{dp:Pos}{yp:Pos}{J:Pos}{ap:Pos}{hp:Pos}(hL:∀k,ZF X.prog X.w X.K X.mg X.base kk (PG k) (lam k))(hr:jo kk X.A)(hst:X.stack=X.env::X.outer)(hFr:X.env.frame=some L)(hD:yk X.K Z (.ref D))(exD:Mi.wt X.K D U newD=true)(hbD:U.contains (.type "BaseException")=true)
  (hcs:∀c,cs.contains c=true->∀C,yk X.K c (.ref C)->∃B f,Mi.wt X.K C B f=true/\ZK X.K C D=true)
  (hN:X.N.Nodup)(hi:X.N[i]? =some x)(hx:X.env.scope.names.lookup x=some .local)(hl:X.N[l]? =some n)(hn:X.env.scope.names.lookup n=some .local)(hj:X.N[j]? =some y)(hy:X.env.scope.names.lookup y=some .local)
  (hg:Gl X Z)(hs1:swapsWith (.Call (.Name x np) [] [] cp) none ep.line X.env=pure false:=by rfl)(hs2:swapsWith (.Name n J) (some (.Name y yp)) ap.line X.env=pure false:=by rfl)
  (hdx:(x==("__debug__":Str))=false:=by decide)(hdn:(n==("__debug__":Str))=false:=by decide)(hdD:(Z==("__debug__":Str))=false:=by decide):
  yJ X xr (.Try [.Expr (.Call (.Name x np) [] [] cp) ep] [.ExceptHandler (some (.Name Z dp)) (some n) [.Assign [.Name y yp] (.Name n J) ap] hp] [] [] pos) (Jp i j l cs PG lam):=by
 try simp only[jI]at*
 intro pins s σ H D0 I ⟨φ,A,ρ,S,re,h⟩;unfold Jp Yv at h;cases ei:ρ[i]? with
 |none=>rw[ei]at h;exact h.elim|some ow=>
  cases ow with
  |none=>rw[ei]at h;exact h.elim|some w=>
   rw[ei]at h;cases w with
   |clo k ws P=>
    dsimp only at h
    by_cases hP:P=PG k
    ·rw[ah hP]at h
     subst hP;obtain⟨v,hv,a,ob,u,c,oc,uc,vs,rfl,h1,h2,hp',rvs⟩:=re.get i _ ei;obtain⟨⟨fd0,hfd⟩,fd,F,hb⟩:=hL k a ob u c oc uc vs hp';have ho:s.heap.get? a=some ob:=(show qQ X.prog X.w H s.heap a (.frz ob u) from I.hok a _ h1).1
     refine Ik (i:=l) (L:=L) (k:=E6 X.K φ H ρ j l D0)
      I hst hFr hD exD hbD hN hl (.inl hn) ?body ?t hg hdD (.inr hn)
     case body=>
      refine wpAny_execs_cons (wpAny_Expr_any ?_ I.quiet hs1);obtain⟨m,hns,Q⟩:=I.loc;obtain⟨u',r',lk⟩:=Q i x (.ref a) hi hv (.inl hx);obtain rfl:u'=Value.ref a:=r';have hm:m x=some (.ref a):=by
       rcases lk with ⟨_,e⟩|⟨q|q,_⟩
       ·exact e
       ·rw[show X.env.kindOf x=some .local from hx]at q;cases q
       ·rw[show X.env.kindOf x=some .local from hx]at q;cases q
      refine wpAny_Call_Name_kw (wpAny_Name (wpAny_loadName_local I.ok.kind hx hns hm ?_) hdx);have hK:Frag.In [(a,ob)] s.heap:=λb o e=>by
       rw[lookup_cons]at e
       by_cases hb:b=a
       ·subst hb;simp at e;subst e;exact ho
       ·have:(b==a)=false:=by simpa using hb
        rw[this]at e;cases e
      have hkp:keepIn [(a,ob)] (.ref a)=true:=by
       unfold keepIn;obtain⟨o1,o2,o3,o4⟩:=ob;cases (show o3=_ from hfd)
       simp[lookup_cons]
      refine PySem.W.callWith_K0 (K:=[(a,ob)]) (first:=[]) hK hkp ?_;refine wpAny_call (codeAny_mono (F.run X.A X.stack s H ⟨[],[]⟩ [] [] (λ_ H1=>D0.nx σ H1)
       (Et X.K φ H ρ j l D0 cs)
       hr I.env0 (hb s) .nil ⟨rfl,h1,h2,φ,A,ws,S,rvs,?_⟩) λr s' p=>?_)
      ·cases er:lam k ws A with
       |ok w1 A1=>
        rw[er]at h;exactλd H' v' z Y _=>h d H' σ z Y (re.mono z)
       |exc E A1=>
        rw[er]at h;dsimp only at h
        by_cases T:cs.contains E=true
        ·rw[ah T]at h
         exactλd H' z Y Ca g=>⟨E,Ca,rfl,g,T,d,A1,z,Y,h⟩
        ·rw[ar T]at h;exact h.elim
       |bad=>rw[er]at h;exact h.elim
      ·cases r with
       |error e=>
        unfold CR at p;dsimp only at p;have un:∀b o,s.heap.get? b=some o->∃o',s'.heap.get? b=some o':=by
         obtain⟨_,_,_,_,_,_,un,_⟩:=p;exactλb o e=>un.there b o e (by simp)
        obtain⟨ea,C,H',rfl,I',ly,tr,E,Ca,ec,g,T,φ1,A1,l1,S1,hn1⟩:=XO I p s.heap λb o e=>⟨o,e⟩;cases ec;obtain⟨B,f,exC,up⟩:=hcs E T C g;exact⟨ea,C,H',B,f,rfl,I',ly,tr,un,exC,up,λoe hoe M=>⟨E,φ1,A1,l1.trans (Le.new M),S1.lay M,⟨ea,oe,.own 0,C,rfl,ju,hoe,g⟩,hn1⟩⟩
       |ok fl=>
        cases fl with
        |ret u1=>
         obtain⟨v1,H1,I1,_,q1⟩:=I.after p;exact wpAny_execs_nil ⟨rfl,σ,H1,I1,q1⟩
        |next=>exact False.elim p|brk=>exact False.elim p|cont=>exact False.elim p
     case t=>
      rintro ea C H2 s2 I2 ⟨E,d,A',z,Y,rx,hn'⟩ E'
      refine Pw (i:=l) (j:=j) I2 hN hl hj hn (.inl hy) (λs' I'=>?_) hs2 (.inr hy) hdn;exact⟨_,H2,I',hn' d H2 _ z Y ((((re.mono z).set rx).set rx).unset)⟩
    ·rw[ar hP]at h;exact h.elim
   |_=>exact h.elim
def yL {m:Ev}{P:Pos}{f:Str->Option Bool}{C:Addr}(c:Q9 X.K f (.ref C))(i:yk X.K x (.ref C))(hm:X.mg "isinstance"=none)(j:zr X xr e m)(g:Gl X "isinstance":=by rfl)(a:Gl X x:=by rfl)(hd:(x==("__debug__":Str))=false:=by decide)
  (b:starEach [e,.Name x P] X.env=(false,eval e X.env)::starEach [.Name x P] X.env:=by rfl)(k:(backTo pos (starEach [.Name x P] X.env)).any (·.1)=false:=by rfl):
  zr X xr (.Call (.Name "isinstance" p) [e,.Name x P] [] pos) (qC f m):=by
 try simp only[jI]at*
 have d:PE X (.Name x P) (tC (.ref C)):=λpins s σ H Q I h=>QV I a (a3 I.mod.kin I.mod.glob i) ⟨.ref C,H,I,rfl,h⟩ hd;exact PE.imp (gO (Vx (cv:=.ref C) c λu r=>r) g hm (by rfl) (qZ j (qZ d jH) b) (by decide) (by decide) b k) (qC.read λσ H Q h=>h)
def NJ {m:Ev}{P:Pos}{f:Str->Option Bool}{T:String}(d:Q9 X.K f (.type T))(hm:X.mg "isinstance"=none)(a:X.mg x=none)(i:bootBuiltins x=some (.type T))(j:zr X xr e m)(g:Gl X "isinstance":=by rfl)(b:Gl X x:=by rfl)(hn:x ≠ "__name__":=by decide)(hd:(x==("__debug__":Str))=false:=by decide)
  (c:starEach [e,.Name x P] X.env=(false,eval e X.env)::starEach [.Name x P] X.env:=by rfl)(k:(backTo pos (starEach [.Name x P] X.env)).any (·.1)=false:=by rfl):
  zr X xr (.Call (.Name "isinstance" p) [e,.Name x P] [] pos) (qC f m):=by
 try simp only[jI]at*
 exact PE.imp (gO (Vx (cv:=.ty T) d λu r=>r) g hm (by rfl) (qZ j (qZ (Yc b a i (v:=.ty T) rfl hn hd) jH) c) (by decide) (by decide) c k) (qC.read λσ H Q h=>h)
def NS {q:Str}{t:Lm}(d:ls[k]? =some t)(L:Yu X.N X.env.scope t=true)(B:BMain X.mg X.base)(a:X.env.code=.ref c)(C:CodeHd X.base c Pt)(g:X.env.qual ++ "<lambda>"=q)(f:defaultsOf t.params X.env=([],[])):
  zr X xr (.Lambda t.params t.body t.scope pos) (gz n q Pt k (kB X.env q ls k)):=by
 try simp only[jI]at*
 intro pins s σ H Q I h;rw[Hh d]at h;exact IE B a C (XJ λy b e=>I.ok.has _ ((VT L).free y b e)) g f pins s σ H Q I h
def EY {K:Frag}{q:Str}{st:Stmt}{m:jq->Ex}(F:kf K x x st f fd)(hn:nsIn K mainGlobals x=some (some (.ref f)))(t:tabIn K x=some (c,Pt))(S:jh N ps (qm st))
  (a:∀(A:Around)(outer:bQ)(s:Shared)(H:Hp)(E:XK),jo k (A.deeper (envOfC x (qm st) s.heap.objs.size f (.ref c)))->
   yF (kv kZ P w K mg base N x (qm st) f (.ref c) A outer s H E).nox yb (ki st) (m (kB (envOfC x (qm st) s.heap.objs.size f (.ref c)) q ls))):
  j7 P w K mg base kZ (k+1) f fd ps (spT K ps.length λPF=>q9 N.length (m PF)):=by
 try simp only[jI]at*
 obtain⟨B,z,kV,doc,pm,an,C,ct,o,rfl,lk,d⟩:=F.ex;have v:C=.ref c:=N7 hn lk t;subst v;refine WR lk d S (λvs H Q E h=>h.len) λA outer s H vs Q E i ⟨D,φ,A1,ws,n,r,h⟩=>⟨_,jZ.nox (a A outer s H E i),?_⟩;refine⟨φ,A1,ws.map some++List.replicate (N.length-ws.length) none,n,RE.start r,?_⟩;have h':=zY.mp (h (kB (envOfC x (qm st) s.heap.objs.size f (.ref c)) q ls));show R.post _ (FB K φ H _) _;cases e:m (kB (envOfC x (qm st) s.heap.objs.size f (.ref c)) q ls) (ws.map some++List.replicate (N.length-ws.length) none) A1 with
 |ok j A2=>
  rw[e]at h';cases j with
  |rt w=>exact h'|nx ρ=>exactλb u g l p _=>h' b u .non l p rfl|bk ρ=>exact h'.elim|ct ρ=>exact h'.elim
 |exc y A2=>rw[e]at h';exact h'.elim|bad=>rw[e]at h';exact h'.elim
def Mo {m:Ev}{b:Pos}{P:Pos}{pt:Pos}{x:Str}{x2:Str}{kt:Nat}(t T:Ty)(hm:X.mg "isinstance"=none)(n:X.mg x=none)(k:X.mg x2=none)(g:bootBuiltins x=some (.type t.nm))(f:bootBuiltins x2=some (.type T.nm))(B:zr X xr e m)(z:Gl X "isinstance":=by rfl)(q:Gl X x:=by rfl)(o:Gl X x2:=by rfl)
  (j:x ≠ "__name__":=by decide)(r:(x==("__debug__":Str))=false:=by decide)(i:x2 ≠ "__name__":=by decide)(hd2:(x2==("__debug__":Str))=false:=by decide)
  (h0:starEach [.Name x b,.Name x2 P] X.env=(false,eval (.Name x b) X.env)::starEach [.Name x2 P] X.env:=by rfl)(s:starEach [.Name x2 P] X.env=(false,eval (.Name x2 P) X.env)::starEach [] X.env:=by rfl)
  (a:starEach [e,.Tuple [.Name x b,.Name x2 P] kt pt] X.env=(false,eval e X.env)::starEach [.Tuple [.Name x b,.Name x2 P] kt pt] X.env:=by rfl)(C:(backTo pos (starEach [.Tuple [.Name x b,.Name x2 P] kt pt] X.env)).any (·.1)=false:=by rfl):
  zr X xr (.Call (.Name "isinstance" p) [e,.Tuple [.Name x b,.Name x2 P] kt pt] [] pos) (YA t T m):=by
 try simp only[jI]at*
 exact PE.imp (gO Ni z hm (by rfl) (qZ B (qZ (UA (qZ (Yc q n g (v:=.ty t.nm) rfl j r) (qZ (Yc o k f (v:=.ty T.nm) rfl i hd2) jH s) h0)) jH) a) (by decide) (by decide) a C) λσ H Q ⟨φ,A,ρ,S,re,h⟩=>by
   refine tM.go S re (zY.mp h) λw A1 d H1 v a L u y=>?_;cases E:ye w A1 with
   |none=>rw[E]at a;exact a.elim|some t'=>
    rw[E]at a;refine⟨by show 2<=sizeLine;decide,λl c=>⟨v,t',l,rfl,ql.of ju,?_,a d _ _ (L.trans (Le.new c)) (u.lay c) rfl⟩⟩
    exact VB (u.lay c) (y.mono (Le.new c)) E
def L4 {m:Ev}(he:zr X xr e m)(g:kT X tg tw)(f:swapsWithSole [tg] e pos.line X.env=pure false:=by rfl)(hw:swappedStores [tg] e X.env=pure none:=by rfl)(a:(assignEach [tg] X.env).map (·.2)=[assign tg X.env]:=by rfl):yJ X xr (.Assign [tg] e pos) (YN m tw):=by
 try simp only[jI]at*
 exact PS.imp (Ud he g f hw a) λD σ H ⟨φ,A,ρ,S,re,h⟩=>by
   refine tM.go S re (zY.mp h) λw A1 b H1 v a l s q=>?_;cases E:tw w ρ with
   |none=>rw[E]at a;exact a.elim|some d=>
    rw[E]at a;exact⟨b,A1,ρ,w,d,s,re.mono l,q,E,λc r=>a b H1 c l s r⟩
end
section
def Ow {q:Str}{E:bO}{f0:Fn}{N:jq->Fn}(g:∀x,X.fn x=true)(hl:∀t∈ls,Qp X.prog X.w X.K X.mg j q t)(f:∀t∈ls,Qo X t)
  (hR:∀base PG,(∀k,ZF X.prog X.w X.K X.mg base (j+1) (PG k) (yA ls k))->zS X.prog X.w X.K X.mg base kk x n (N PG))(hF:∀PG us A,f0 us A=.bad∨N PG (us.map (Yo PG)) A=f0 us A)(hr:jo kk X.A)
  (ha:kE X yb (e::E) mr)(hn:w8 mr n:=by repeat' (first|exact zC|refine zm ?_))(hg:Gl X x:=by rfl)(L:(x==("__debug__":Str))=false:=by decide)
  (he:starEach (e::E) X.env=(false,eval e X.env)::starEach E X.env:=by rfl)(C:(backTo pos (starEach E X.env)).any (·.1)=false:=by rfl):
  zr X yb (.Call (.Name x p) (e::E) [] pos) (Qc ls (kB X.env q ls) f0 mr):=by
 try simp only[jI]at*
 intro pins s σ H Q I ⟨φ,A,ρ,S,re,h⟩;obtain⟨fa,fd,ps,F,hm,hk,hb⟩:=hR _ _ (Vm I g hl f).2;refine wpAny_Call_Name_kw (QV I hg hm ?_ L);have h':=zY.mp h;refine callWith_K (h₀:=X.base) I.ok.mod.kin hk (zP (ha pos pins s σ H (λvs H1=>∃a A1 ws us,Le X.K φ H a H1/\zB X.K a A1 H1/\zx X.K a H1 ws vs/\ws.length=n/\wW ls (kB X.env q ls) ρ ws=some us/\(f0 us A1).post (PB X.K a H1 Q) (EB X.K a H1 yb)) I ⟨φ,A,ρ,S,re,?_⟩) λus s1 ⟨vs,H1,o,Z,a,A1,ws,u,l,U,Y,B,hc,D⟩=>⟨o.kIn,?_⟩) he C
 ·cases i:mr ρ A with
  |ok ws A1=>
   rw[i]at h';intro a H1 vs l U q1;have h':(match wW ls (kB X.env q ls) ρ ws with|some us=>f0 us A1|none=>.bad).post (PB X.K φ H Q) (EB X.K φ H yb):=h'
   cases T:wW ls (kB X.env q ls) ρ ws with
   |none=>rw[T]at h';exact h'.elim|some us=>
    rw[T]at h';refine⟨a,A1,ws,us,l,U,q1,hn ρ A ws A1 i,T,qj h' (λ_ _ z=>z.mono l) λy A2 z=>z.mono l⟩
  |exc y A1=>rw[i]at h';exact h'|bad=>rw[i]at h';exact h'
 ·obtain⟨e0,hL⟩:=Vm (q:=q) o g hl f
  obtain⟨fa',fd',P,F',d,hk',M⟩:=hR _ _ hL;rw[hm]at d;cases d;have b:Jr X.K n (N (Qy X.env q ls σ)) vs H1 Q E0:=by
   refine⟨by rw[<- Y.length];exact B,a,A1,u.map (Yo (Qy X.env q ls σ)),U,XI (re.mono l) hc Y,?_⟩
   rcases hF (Qy X.env q ls σ) u A1 with z|z
   ·rw[z]at D;exact D.elim
   ·rw[z]
    exact qj D (λ_ _ z=>z) λy A2 z v H2 l2 S2=>(z v H2 l2 S2).elim
  have J:=F'.len _ _ _ _ b;have hu:us.length=P.length:=by rw[<- Z.length];exact J
  refine wpAny_call (codeAny_mono (F'.run X.A X.stack s1 H1 ⟨[]++us,[]⟩ us vs Q E0 hr e0 ?_ Z b) λr s2 c=>?_)
  ·have:=M s1 us o.kIn (by rw[bo];exact hu)
   rw[bo]at this;exact this
  ·cases r with
   |error e=>exact False.elim c|ok fl=>
    cases fl with
    |ret u1=>exact o.after c|next=>exact False.elim c|brk=>exact False.elim c|cont=>exact False.elim c
end
def Og {a:Expr}{b:Expr}{ma:Ev}{mb:Ev}(r:jo k X.A)(o:zr X xr a ma)(he:zr X xr b mb)(s:starEach [b] X.env=(false,eval b X.env)::starEach [] X.env:=by rfl)
  (e:attributeBase a "index" X.env (eval a X.env)=eval a X.env:=by rfl)
  (w:((backTo cpos (starEach [b] X.env)).all (λx=>!x.1)&&(backToKw cpos (keywordEach [] X.env)).all (λx=>x.1.isSome)
   && decide ([b].length+([]:bS).length+(if ([]:bS).isEmpty then 0 else 1)<30))=true:=by rfl)(h:(apos.endLine==cpos.line)=true:=by rfl):
  zr X xr (.Call (.Attribute a "index" apos) [b] [] cpos) (yO wM ma mb):=by
 try simp only[jI]at*
 exact WM PySem.F.slot_list_index PySem.F.type_list_index (OP r.units) NT (λφ A H x y u v Q S i q p=>by
   unfold wM at p;cases E:qf A 8 u with
   |none=>rw[E]at p;exact p.elim|some D=>
    cases g:qf A 8 v with
    |none=>
     rw[E,g]at p;cases D<;>exact p.elim
    |some d=>
     rw[E,g]at p;cases D with
     |list ds=>
      dsimp only at p;cases f:wR (λz=>PyData.eqv z d) ds with
      |none=>rw[f]at p;exact p.elim|some j=>
       rw[f]at p;dsimp only at p
       by_cases c:j<1000000
       ·rw[ah c]at p
        exact⟨φ,A,u,v,y,d,ds,j,rfl,S,i,q,E,g,f,c,p φ H _ .refl S rfl⟩
       ·rw[ar c]at p;exact p.elim
     |_=>exact p.elim) o he s e w h
def R0 {m:Ev}{P pos':Pos}(z:X.calm=true)(hm:X.mg "sorted"=none)(d:X.mg "set"=none)(N:zr X xr e m)(M:Gl X "sorted":=by rfl)(g:Gl X "set":=by rfl)(x:starEach [e] X.env=(false,eval e X.env)::starEach [] X.env:=by rfl)
  (c:starEach [.Call (.Name "set" P) [e] [] pos'] X.env=(false,eval (.Call (.Name "set" P) [e] [] pos') X.env)::starEach [] X.env:=by rfl):
  zr X xr (.Call (.Name "sorted" p) [.Call (.Name "set" P) [e] [] pos'] [] pos) (JT m):=by
 try simp only[jI]at*
 exact PE.imp (gO (Ry z) M hm (by rfl) (qZ (Z4 (Ot z) g d (by rfl) (qZ N jH x) (by decide) (by decide) x (by rfl)) jH c) (by decide) (by decide) c (by rfl)) λσ H Q ⟨φ,A,ρ,S,re,h⟩=>by
   refine tM.go S re (zY.mp h) λw A1 b H1 v a I s C=>?_;cases w with
   |ref n=>
    unfold Wa at a;dsimp only at a;cases E:A1[n]? with
    |none=>rw[E]at a;exact a.elim|some u=>cases u with
     |lst ws=>
      rw[E]at a;dsimp only at a;obtain⟨t,ys,rfl,U,Z,B⟩:=s.lst C E;cases j:intsOf ws with
      |none=>rw[j]at a;exact a.elim|some is=>
       rw[j]at a;dsimp only at a;have Y:=KW j;subst Y;have ev:=zx.ints.mp B;subst ev;cases q:gW is with
       |none=>rw[q]at a;exact a.elim|some vs=>
        rw[q]at a;dsimp only at a;obtain⟨e3,T⟩:=Vb q;have k:H1 t=some (.lst (vs.map λ(v:Nat)=>V.int (v:Int))):=by rw[Z,e3,aP];rfl
        refine⟨t,vs,rfl,qH.of k,T,λl y=>⟨l,vs.foldl jX 0,rfl,ju,λD f=>?_⟩⟩;have ln:Le X.K b H1 b (upd H1 l (.ext λh=>jW h l (jn X.w) (vs.foldl jX 0))):=Le.new y;have S2:=s.lay (u:=.ext λh=>jW h l (jn X.w) (vs.foldl jX 0)) y;have r:∀(ψ:bJ)(G:Hp),zx X.K ψ G (((List.range 8).filter λi=>decide (i∈vs)).map λ(i:Nat)=>W.int (i:Int)) ((zO (vs.foldl jX 0)).map λ(v:Nat)=>V.int (v:Int)):=λψ G=>by
         rw[PN];have e4:∀l:bL,zx X.K ψ G (l.map λ(i:Nat)=>W.int (i:Int)) (l.map λ(v:Nat)=>V.int (v:Int)):=λl=>by
          induction l with
          |nil=>rfl|cons i l J=>exact⟨_,_,rfl,rfl,J⟩
         exact e4 _
        obtain⟨L,S3⟩:=S2.alloc (o:=.lst (((List.range 8).filter λi=>decide (i∈vs)).map λ(i:Nat)=>W.int (i:Int))) f (u:=.lst ((zO (vs.foldl jX 0)).map λ(v:Nat)=>V.int (v:Int))) ⟨_,ju,r _ _⟩;exact a _ _ _ (I.trans (ln.trans L)) S3 ⟨D,rfl,by rw[<- s.len];simp⟩
     |_=>rw[E]at a;exact a.elim
   |_=>exact a.elim
def OS {a:Expr}{b:Expr}{ma:Ev}{mb:Ev}(c:X.calm=true)(hm:X.mg "sum"=none)(e:zr X xr a ma)(d:zr X xr b mb)(H:Gl X "sum":=by rfl)(g:starEach [a,b] X.env=(false,eval a X.env)::starEach [b] X.env:=by rfl)
  (f:starEach [b] X.env=(false,eval b X.env)::starEach [] X.env:=by rfl)(h:(backTo pos (starEach [b] X.env)).any (·.1)=false:=by rfl):
  zr X xr (.Call (.Name "sum" p) [a,b] [] pos) (zh gy ma mb):=by
 try simp only[jI]at*
 exact W2 (PH c) Lr Nj hm (by rfl) e d H (by decide) (by decide) g f h
def Pa {a:Expr}{b:Expr}{ma:Ev}{mb:Ev}{P pos':Pos}(I:X.calm=true)(hm:X.mg "list"=none)(o:X.mg "range"=none)(M:zr X xr a ma)(J:zr X xr b mb)(E:Gl X "list":=by rfl)(q:Gl X "range":=by rfl)(s:starEach [a,b] X.env=[(false,eval a X.env),(false,eval b X.env)]:=by rfl)(d:starEach [b] X.env=[(false,eval b X.env)]:=by rfl)
  (g:starEach [.Call (.Name "range" P) [a,b] [] pos'] X.env=(false,eval (.Call (.Name "range" P) [a,b] [] pos') X.env)::starEach [] X.env:=by rfl):
  zr X xr (.Call (.Name "list" p) [.Call (.Name "range" P) [a,b] [] pos'] [] pos) (QY ma mb):=by
 try simp only[jI]at*
 exact PE.imp (Z4 (RL I) E hm (by rfl) (qZ (NG q o (qZ M (qZ J jH (by rw[d];rfl)) (by rw[s,d])) s d) jH g) (by decide) (by decide) g (by rfl)) λσ H Q ⟨φ,A,ρ,S,re,h⟩=>by
   refine tM.go S re (zY.mp h) λw A1 t H1 v N L S1 B=>?_;refine tM.go S1 (re.mono L) (qj (zY.mp N) (λ_ _ z=>z) λ_ _ z=>z.mono L) λu A2 c n v2 e C Z y=>?_;cases w with
   |int i=>
    obtain rfl:=B;cases u with
    |int j=>
     obtain rfl:=y;dsimp only at e
     by_cases f:(jy i&&(jy j&&decide ((j-i).toNat<=z8)))=true
     ·rw[ah f]at e
      rw[aq,aq,ak]at f;refine⟨i,j,rfl,λp r=>⟨p,i,j,rfl,ju,Z1 f.1,Z1 f.2.1,gn f.2.2,λl D=>?_⟩⟩;have ln:Le X.K c n c (upd n p (.rng i j)):=Le.new r;have x:zx X.K c (upd n p (.rng i j)) ((List.range (j-i).toNat).map λ(k:Nat)=>W.int (i+k)) (ZA i (j-i).toNat):=by
       have:=(zx.ints (K:=X.K) (φ:=c) (H:=upd n p (.rng i j)) (ns:=(List.range (j-i).toNat).map λ(k:Nat)=>(i+(k:Int))) (vs:=ZA i (j-i).toNat)).mpr (by unfold ZA;simp)
       rw[aP]at this;exact this
      obtain⟨Y,U,T⟩:=gU (Z.lay r) D x;exact e _ _ _ (((L.trans C).trans ln).trans Y) U T
     ·rw[ar f]at e;exact e.elim
    |_=>exact e.elim
   |_=>exact e.elim
def Z6 {a b:Expr}{ma mb:Ev}(H:zr X xr a ma)(h:zr X xr b mb):zr X xr (.BinOp a .FloorDiv b pos) (zh wU ma mb):=by
 try simp only[jI]at*
 exact Zx OT WN (WB NB λ_ _ _ _=>rfl) H h
section
variable {a b:Expr}{m ma mb:Ev}
def MH (n:zr X xr e m):ka X xr tg e (ZN m):=by
 try simp only[jI]at*
 exact PI.imp (L7 n) λσ H R ⟨φ,A,ρ,S,re,h⟩=>by
   refine tM.go S re (zY.mp h) λw A1 f H1 v b l s q=>?_;cases w with
   |str x=>
    obtain rfl:=q;dsimp only at b
    by_cases g:YB x=true
    ·rw[ah g]at b
     refine⟨x,rfl,g,b f H1 _ l s λi k u z L r=>⟨λw hw=>?_,λhn=>?_⟩⟩
     ·have a:some ((x.cps[i]?).map λc=>W.str ⟨#[c]⟩)=some (some w):=hw
      cases E:x.cps[i]? with
      |none=>rw[E]at a;cases a|some c=>
       rw[E]at a;cases a;refine⟨(Array.getElem?_eq_some_iff.mp E).1,λy t ⟨p,C,j,o⟩=>?_⟩;subst p;rw[E]at j;cases j;exact⟨.refl,r,o⟩
     ·have d:some ((x.cps[i]?).map λc=>W.str ⟨#[c]⟩)=some none:=hn
      cases E:x.cps[i]? with
      |none=>exact Array.getElem?_eq_none_iff.mp E|some c=>rw[E]at d;cases d
    ·rw[ar g]at b;exact b.elim
   |_=>exact b.elim
def PZ {y:Str}{t:Tok}(g:Gl X x)(hm:X.mg x=some (.str y t))(hd:(x==("__debug__":Str))=false:=by decide):zr X xr (.Name x pos) (zH (.str y)):=by
 try simp only[jI]at*
 exact PE.imp (VX g hm (v:=.str y) ⟨t,rfl⟩ hd) λσ H Q ⟨φ,A,ρ,S,r,h⟩=>h φ H _ .refl S rfl
def Vh (hm:X.mg "str"=none)(a:zr X xr e m)(l:Gl X "str":=by rfl)(he:starEach [e] X.env=(false,eval e X.env)::starEach [] X.env:=by rfl):zr X xr (.Call (.Name "str" p) [e] [] pos) (jf Zg m):=by
 try simp only[jI]at*
 exact UD P9 (λw A=>by unfold Zg;split;(exact ko jw qk);exact qk) (λφ A H x u Q S q p=>by
   cases u with
   |int i=>
    obtain rfl:=q;unfold Zg at p;dsimp only at p
    by_cases h:0<=i/\i<1000
    ·rw[ah h]at p
     exact⟨i,rfl,h.1,h.2,p φ H _ .refl S rfl⟩
    ·rw[ar h]at p;exact p.elim
   |_=>exact p.elim) hm (by rfl) a l (by decide) (by decide) he (by rfl)
def Nu (hm:X.mg "len"=none)(a:zr X xr e m)(l:Gl X "len":=by rfl)(he:starEach [e] X.env=(false,eval e X.env)::starEach [] X.env:=by rfl):zr X xr (.Call (.Name "len" p) [e] [] pos) (jf Yq m):=by
 try simp only[jI]at*
 exact U5 OQ (λw A=>by unfold Yq;split;(exact ko jw qk);exact qk) (λφ A H x u Q S q p=>by
   cases u with
   |str y=>
    obtain rfl:=q;unfold Yq at p;dsimp only at p
    by_cases h:y.length<1000000
    ·rw[ah h]at p
     exact⟨y,rfl,h,p φ H _ .refl S rfl⟩
    ·rw[ar h]at p;exact p.elim
   |_=>exact p.elim) hm (by rfl) a l (by decide) (by decide) he (by rfl)
def JS (g:zr X xr a ma)(he:zr X xr b mb)(s:starEach [b] X.env=(false,eval b X.env)::starEach [] X.env:=by rfl)
  (c:attributeBase a "join" X.env (eval a X.env)=eval a X.env:=by rfl)
  (w:((backTo cpos (starEach [b] X.env)).all (λx=>!x.1)&&(backToKw cpos (keywordEach [] X.env)).all (λx=>x.1.isSome)
   && decide ([b].length+([]:bS).length+(if ([]:bS).isEmpty then 0 else 1)<30))=true:=by rfl)(e:(apos.endLine==cpos.line)=true:=by rfl):
  zr X xr (.Call (.Attribute a "join" apos) [b] [] cpos) (j5 kM ma mb):=by
 try simp only[jI]at*
 exact PE.imp (WY PySem.F.slot_str_join PySem.F.type_str_join MD g (qZ he jH s) c w e s (by rfl)) λσ H Q h=>
   j5.read (r:=rJoin X.K) LR (λφ A H x y u v Q S f q p=>by
    unfold kM at p;cases u with
    |str sep=>cases v with
     |ref n=>
      obtain rfl:=f;dsimp only at p;cases E:A[n]? with
      |none=>rw[E]at p;exact p.elim|some o=>cases o with
       |lst ws=>
        rw[E]at p;dsimp only at p;obtain⟨l,vs,rfl,f1,g1,d⟩:=S.lst q E;cases i:strsOf ws with
        |none=>rw[i]at p;exact p.elim|some xs=>
         rw[i]at p;dsimp only at p;have j:=XU i;subst j;have ev:=zx.strs.mp d;subst ev
         by_cases hok:JoinOk sep xs=true
         ·rw[ah hok]at p
          exact⟨sep,l,xs,rfl,rfl,qH.of g1,hok,p φ H _ .refl S rfl⟩
         ·rw[ar hok]at p;exact p.elim
       |_=>rw[E]at p;exact p.elim
     |_=>exact p.elim
    |_=>exact p.elim) s σ H Q h
def NC (o:zr X xr a ma)(he:zr X xr b mb)(d:starEach [b] X.env=(false,eval b X.env)::starEach [] X.env:=by rfl)
  (c:attributeBase a "find" X.env (eval a X.env)=eval a X.env:=by rfl)
  (w:((backTo cpos (starEach [b] X.env)).all (λx=>!x.1)&&(backToKw cpos (keywordEach [] X.env)).all (λx=>x.1.isSome)
   && decide ([b].length+([]:bS).length+(if ([]:bS).isEmpty then 0 else 1)<30))=true:=by rfl)(e:(apos.endLine==cpos.line)=true:=by rfl):
  zr X xr (.Call (.Attribute a "find" apos) [b] [] cpos) (j5 Ys ma mb):=by
 try simp only[jI]at*
 exact PE.imp (WY PySem.F.slot_str_find PySem.F.type_str_find MY o (qZ he jH d) c w e d (by rfl)) λσ H Q h=>
   j5.read (r:=U1) Lp (λφ A H x y u v Q S f q p=>by
    cases u with
    |str s=>cases v with
     |str t=>
      obtain rfl:=f;obtain rfl:=q;exact⟨s,t,rfl,rfl,p φ H _ .refl S rfl⟩
     |_=>exact p.elim
    |_=>exact p.elim) d σ H Q h
def Oc (o:zr X xr a ma)(he:zr X xr b mb)(f:starEach [b] X.env=(false,eval b X.env)::starEach [] X.env:=by rfl)
  (c:attributeBase a "split" X.env (eval a X.env)=eval a X.env:=by rfl)
  (w:((backTo cpos (starEach [b] X.env)).all (λx=>!x.1)&&(backToKw cpos (keywordEach [] X.env)).all (λx=>x.1.isSome)
   && decide ([b].length+([]:bS).length+(if ([]:bS).isEmpty then 0 else 1)<30))=true:=by rfl)(e:(apos.endLine==cpos.line)=true:=by rfl):
  zr X xr (.Call (.Attribute a "split" apos) [b] [] cpos) (j5 gx ma mb):=by
 try simp only[jI]at*
 exact PE.imp (WY PySem.F.slot_str_split PySem.F.type_str_split NZ o (qZ he jH f) c w e f (by rfl)) λσ H Q h=>
   j5.read (r:=UJ) OX (λφ A H x y u v Q S g q p=>by
    unfold gx at p;cases u with
    |str s=>cases v with
     |str t=>
      obtain rfl:=g;obtain rfl:=q;dsimp only at p
      by_cases d:(t.length==0)=false/\s.length<=100000
      ·rw[ah d]at p
       refine⟨s,t,rfl,rfl,d.1,d.2,λl i=>?_⟩;obtain⟨a1,a2,j⟩:=gU S i (zx.strs.mpr rfl:zx X.K φ H ((Txt.split s t).map W.str) ((Txt.split s t).map V.str));exact p _ _ _ a1 a2 j
      ·rw[ar d]at p;exact p.elim
     |_=>exact p.elim
    |_=>exact p.elim) f σ H Q h
end
def zS.up {K:Frag}{f:Fn}(F:zS P w K mg base j x n f)(h:j<=k:=by decide):zS P w K mg base k x n f:=F.mono h
def yw.up {K:Frag}{f:Fn}(F:yw P w K mg base j x n f)(h:j<=k:=by decide):yw P w K mg base k x n f:=F.mono h
section
variable {C:List Value->Prop}
theorem yT (h:∀a,C [a]):∀us:bI,us.length=1->C us
 |[a],_=>h a
theorem ZQ (h:∀a b,C [a,b]):∀us:bI,us.length=2->C us
 |[a,b],_=>h a b
theorem Df (h:∀a b c,C [a,b,c]):∀us:bI,us.length=3->C us
 |[a,b,c],_=>h a b c
end
def qJ {l:bM}(h:decide l.Nodup=true):l.Nodup:=of_decide_eq_true h
noncomputable def Tu (N P:bM)(sc:Scope):Bool:=decide (sc.kind=.function)&&(!sc.isCoroutine&&(!sc.isGenerator&&(decide N.Nodup&&(decide (N.take P.length=P)&&(P.all (λx=>decide (sc.names.lookup x=some .local) || decide (sc.names.lookup x=some .cell))&&sc.names.all λy=>!decide (y.2=.free))))))
def jS {P:bM}(h:Tu N P sc=true):jh N P sc:=by
 unfold Tu at h;simp only[aq,ak,not_eq_true',all_eq_true,bC,decide_eq_false_iff_not]at h;obtain⟨g,f,e,d,c,b,a⟩:=h;exact⟨g,f,e,d,c,b,λy H=>a y H⟩
section
def Dd (h:(ls.all λt=>Yu X.N X.env.scope t)=true):∀t∈ls,Qo X t:=λt H=>VT (b9.mp h t H)
def qN {iter:Expr}{M:Ev}{em:Em}(nl:Nat)(cap:bL)(hw:ka X xr tg iter mi)
  (n:∀s H fp,kT (jA X N sc s H fp j9) tg tw/\wZ (jA X N sc s H fp j9) ifs M/\wD (jA X N sc s H fp j9) elt (⟨tg,iter,ifs,0⟩::gs) sc pos 0 em)
  (c:X.calm=true:=by rfl)(S:wL X sc:=by exact cps (by kernel_rfl))(p:Ze X.N N sc nl cap=true:=by kernel_rfl)
  (b:∀g',gs[0]? =some g'->g'.is_async=0:=by intro _ h;cases h<;>rfl)
  (a:∀x,foldedSetIterable iter X.env x=pure x:=by intro _;rfl):Zk X xr (.ListComp elt (⟨tg,iter,ifs,0⟩::gs) sc pos) (zQ nl cap mi tw M em):=O8 nl cap c S p hw n b a
def qK {d:Nat}(he:zr X yb elt me)(h:∀e s,X.xe e s->False:=by exactλ_ _ z=>z)(H:gens[d+1]? =none:=by rfl):wD X elt gens sc pos d (zM me):=Mz h he H
end
open PySem L2
abbrev zp:Ev:=qh 0
abbrev zw:Ev:=qh 1
abbrev qd:Ev:=qh 2
abbrev qa:Ev:=qh 3
abbrev jB:Ev:=qh 4
abbrev wC:Ev:=qh 5
abbrev YY:Ev:=qh 6
abbrev Gv:Ev:=qh 7
abbrev zD:Ev:=zH (.int 0)
abbrev zL:Ev:=zH (.int 1)
abbrev qi:Ev:=zH (.int 2)
abbrev qT:Ev:=zH (.int 3)
abbrev y9:Ev:=zH (.int 4)
abbrev Y9:Ev:=zH (.int 5)
abbrev Gr:Ev:=zH (.int 6)
abbrev YS:Ev:=zH (.int 7)
abbrev wB:Ev:=zH (.int 8)
abbrev Jm:Ev:=zH (.int 10)
abbrev zW:Ev:=zH (.bl true)
abbrev Ts:Ev:=zH (.bl false)
abbrev QA:Ev:=zH .non
abbrev wH:Ex:=zq (qD Ts) zE
end Mi
namespace G
open PySem L2 Mi
noncomputable def top (i:Nat):Stmt:=PySem.Challenge.pw_nearkinds_k90_texts_of_tables.main.body.getD i (.Pass ⟨0,0,0,0⟩)
structure Bu (mg:bP):Prop where
 RA:mg "ValueError"=none
 WV:mg "abs"=none
 Jd:mg "all"=none
 WH:mg "bool"=none
 Xp:mg "enumerate"=none
 Qm:mg "int"=none
 jt:mg "isinstance"=none
 kO:mg "len"=none
 gZ:mg "list"=none
 Yi:mg "max"=none
 WT:mg "min"=none
 jT:mg "range"=none
 Ed:mg "set"=none
 Nz:mg "sorted"=none
 WS:mg "str"=none
 Fz:mg "sum"=none
 wa:mg "tuple"=none
 Fc:mg "zip"=none
 P4:∃t,mg "FIGURES"=some (.str "0123456789" t)
 SR:∃t,mg "MOST_PLACES"=some (.int 8 t)
noncomputable abbrev qu:bM:=["NoTable","NoText"]
noncomputable abbrev J0:bM:=["NoTable","NotSteady","NoPlace","NoKind","NoMix","NoNumber","NoLot","NoKinds","NoPaper","NoParting","NoClosed","TooMany","NoText","NoLine","NoDeed"]
def jj {K:Frag}(R:J0.all (Za K qu)=true)(h:J0.contains x=true:=by decide +kernel):Za K qu x=true:=b9.mp R x (List.contains_iff_mem.mp h)
def Oe {l:List (Str×NameKind)}(h:(l.all λy=>!(y.2==.cell))=true):∀y∈l,y.2≠.cell:=λy H e=>by
 have q:=b9.mp h y H;rw[e]at q;cases q
def yE {m:Ev}(h:zr X xr e m):SE X xr e m:=by rw[WD]at h;exact h
abbrev Xz:Stmt:=top 18
def RM:jh ["thing"] ["thing"] (qm Xz):=jS (by kernel_rfl)
def R5:Ex:=zq (qD (y0 (yv .int zp) (yu (yv .bl zp)))) zE
abbrev Xu:Stmt:=top 19
def Rh:jh ["thing","many"] ["thing","many"] (qm Xu):=jS (by kernel_rfl)
def KC (P:Fn):Ex:=zq (qD (y0 (yv .tup zp) (y0 (zh je (mQ qR (qp zp)) zw) (mQ ZJ (zQ 1 [] (qt zp) (zI 0) zW (zM (zK P (zc zp zl)))))))) zE
abbrev GL:Stmt:=top 20
def T8:jh ["thing","many","limit"] ["thing","many","limit"] (qm GL):=jS (by kernel_rfl)
def Kc (r:Fn):Ex:=zq (qD (y0 (zK r (zc zp (zc zw zl))) (mQ ZJ (zQ 1 [2] (qt zp) (zI 0) zW (zM (yM gF Js zD zp zw)))))) zE
abbrev XM:Stmt:=top 23
def Xr:jh ["thing","many"] ["thing"] (qm XM):=jS (by kernel_rfl)
def JN (o:Fn)(S:Fn)(T:Fn):Ex:=zq (qO (kS (yu (yv .tup zp)) (yu (yM gF gF zL (mQ qR (qp zp)) wB))) wH zE) (zq (zZ 1 (mQ qR (qp zp))) (zq (qO (yu (mQ ZJ (zQ 1 [1] (qt zp) (zI 0) zW (zM (zK S (zc zp (zc zw (zc zw zl)))))))) wH zE) (zq (qD (y0 (zK o (zc zp zl)) (zK T (zc zp zl)))) zE)))
abbrev X1:Stmt:=top 24
def KR:jh ["rows","a","row","b","kind"] ["rows"] (qm X1):=jS (by kernel_rfl)
def XT:Ex:=zq (wq (Qi zp) (kL 1 2) (zq (wq (Qi qd) (kL 3 4) (zq (qO (kS (zh jC (zh je jB zD) (zh je zw qa)) (zh jC (zh zG (zh zG zp qa) zw) jB)) wH zE) zE)) zE)) (zq (qD zW) zE)
abbrev GH:Stmt:=top 25
def GG:jh ["rows","standing"] ["rows"] (qm GH):=jS (by kernel_rfl)
def GI:Ex:=zq (zZ 1 (qg (zQ 2 [] (qt zp) (zI 0) zW (Ql (qt zp) (zI 1) zW (zM zw))))) (zq (qD (mQ ZJ (zQ 1 [1] (jE (mQ yn (qp zw))) (zI 0) zW (zM (zh Y6 zp zw))))) zE)
abbrev GU:Stmt:=top 26
def Sl:jh ["table"] ["table"] (qm GU):=jS (by kernel_rfl)
def Kg (K:Fn):Ex:=zq (qO ((λρ A=>((yu (zK K (zc zp zl))) ρ A).nox)) (zq (QZ "NoTable" (zc (zH (.str "this is no table")) zl)) zE) zE) zE
abbrev Xn:Stmt:=top 29
def S8:jh ["rows"] ["rows"] (qm Xn):=jS (by kernel_rfl)
def Xm:Ex:=zq (qD (j5 kM (zH (.str "/")) (qg (zQ 1 [] (qt zp) (zI 0) zW (zM (j5 kM (zH (.str "")) (qg (zQ 1 [] (qt zp) (zI 0) zW (zM (jf Zg zp)))))))))) zE
abbrev Xe:Stmt:=top 30
def S9:jh ["table"] ["table"] (qm Xe):=jS (by kernel_rfl)
def Ks (r:Fn)(S:Fn):Ex:=zq (gi (zK S (zc zp zl))) ((λρ A=>((zq (qD (zK r (zc zp zl))) zE) ρ A).nox))
abbrev G0:Stmt:=top 31
def SN:jh ["text"] ["text"] (qm G0):=jS (by kernel_rfl)
def GZ:Ex:=zq (qD (Jt (zh je (jf Yq zp) zL) (j5 Ys (zH (.str "0123456789")) zp) (jf ZI zL))) zE
abbrev G9:Stmt:=top 32
def G1:jh ["text","rows"] ["text"] (qm G9):=jS (by kernel_rfl)
def Xa (K:Fn)(r:Fn):Ex:=zq (qO ((λρ A=>((yu (yv .str zp)) ρ A).nox)) (zq (QZ "NoText" (zc (zH (.str "this is no text")) zl)) zE) zE) (zq (zZ 1 (mQ yS (zQ 1 [] (qt (j5 gx zp (zH (.str "/")))) (zI 0) zW (zM (mQ yS (zQ 1 [] (ZN zp) (zI 0) zW (zM (zK r (zc zp zl))))))))) (zq (qO ((λρ A=>((yu (zK K (zc zw zl))) ρ A).nox)) (zq (QZ "NoText" (zc (zH (.str "this is no text of a table")) zl)) zE) zE) ((λρ A=>((zq (qD zw) zE) ρ A).nox))))
abbrev GY:Stmt:=top 34
def Ss:jh ["_law_script","_law_k"] ["_law_script","_law_k"] (qm GY):=jS (by kernel_rfl)
def Ki:Ex:=zq (qO (zh Js zw (mQ qR (qp zp))) (zq (qD (zh zG zp zw)) zE) zE) (zq (qD zD) zE)
abbrev Xd:Stmt:=top 35
def G2:jh ["_law_script","_law_k","_law_cell"] ["_law_script","_law_k"] (qm Xd):=jS (by kernel_rfl)
def Kr (S:Fn):Ex:=zq (zZ 2 (zK S (zc zp (zc zw zl)))) (zq (qO (zh Gu qd (zh Yw Jm (zH (.int 18)))) (zq (qD (qc (zc (zh yt qd (zh Yw Jm (zH (.int 18)))) (zc zW zl)))) zE) zE) (zq (qD (qc (zc (zh yP qd (zH (.int 2147483647))) (zc Ts zl)))) zE))
abbrev Xv:Stmt:=top 36
def JF:jh ["_law_state_here","_law_many","_law_found","_law_stirred"] ["_law_state_here","_law_many"] (qm Xv):=jS (by kernel_rfl)
def KD:Ex:=zq (qO (zh zG zp zL) (zq (zZ 2 (zh yP (zh zG zp zD) zw)) (zq (yX yH (zh wU (zh zG zp zD) zw) zp zD) (zq (qD qd) zE))) zE) (zq (yX yH (zh yP (zh qv (zh ja (zh zG zp zD) (zH (.int 48271))) (zH (.int 29))) (zH (.int 2147483647))) zp zD) (zq (zZ 3 (zh yP (zh qv (zh qv (zh ja (zh zG zp zD) (zh zG zp zD)) (zh ja (zH (.int 39373)) (zh zG zp zD))) YS) (zH (.int 2147483629)))) (zq (zZ 3 (zh yP (zh qv (zh ja qa qa) (zh ja (zH (.int 16807)) qa)) (zH (.int 2147483587)))) (zq (qD (zh yP (zh wU qa wB) zw)) zE))))
abbrev GO:Stmt:=top 37
def Kd:jh ["_law_state_here","_law_things","_law_left","_law_found"] ["_law_state_here","_law_things"] (qm GO):=jS (by kernel_rfl)
def GQ (y:Fn):Ex:=zq (zZ 2 (qg (qp zw))) (zq (zZ 3 (qc zl)) (zq (WE 1000 (zh jC qd (qc zl)) (zq (gi (yO wd qa (yO wO qd (zK y (zc zp (zc (mQ qR (qp qd)) zl)))))) zE)) (zq (qD qa) zE)))
abbrev G7:Stmt:=top 38
def G5:jh ["_law_rows","_law_some"] ["_law_rows"] (qm G7):=jS (by kernel_rfl)
def Xc:Ex:=zq (zZ 1 (JT (zh gy (qg (zQ 1 [] (qt zp) (zI 0) zW (zM (qg (qp zp))))) (qc zl)))) (zq (qD (mQ yS (zQ 1 [1] (qt zp) (zI 0) zW (zM (mQ yS (zQ 1 [1] (qt zp) (zI 0) zW (zM (yO wM zw zp)))))))) zE)
abbrev Xj:Stmt:=top 39
def yU:jh ["_law_state_here","_law_way","_law_many","_law_wide","_law_high","_law_some","_law_ring","_law_rows","_law_a","_law_near","_law_far"] ["_law_state_here"] (qm Xj):=jS (by kernel_rfl)
def Kz (y:Fn):Ex:=zq (zZ 1 (zK y (zc zp (zc wB zl)))) (zq (zZ 2 (zh zG (qc (zc wB (zc YS (zc Gr (zc Y9 (zc y9 (zc qT (zc qi (zc zL zl))))))))) (zK y (zc zp (zc wB zl))))) (zq (qO (zh je zw zD) (zq (qD (qg (zQ 1 [2] (jE qd) (zI 0) zW (zM (qg (zQ 1 [0,1] (jE zw) (zI 0) zW (zM (zh Zc (jf Jj (zh yt zw zp)) (zh yt qd (jf Jj (zh yt zw zp))))))))))) zE) zE) (zq (qO (zh je zw zL) (zq (zZ 2 (zh zG (qc (zc wB (zc y9 (zc qi zl)))) (zK y (zc zp (zc qT zl))))) (zq (qD (qg (zQ 1 [2] (jE qd) (zI 0) zW (zM (qg (zQ 1 [0] (jE zw) (zI 0) zW (zM (zh zG (qc (zc zD (zc zL (zc zL (zc qi (zc zL (zc qi (zc qi (zc qT zl))))))))) (zh Ge zw zp))))))))) zE)) zE) (zq (qO (zh je zw qi) (zq (qD (qg (zQ 1 [2] (jE qd) (zI 0) zW (zM (qg (zQ 1 [0] (jE zw) (zI 0) zW (zM (jf ZL (zh jC zw zp))))))))) zE) zE) (zq (qO (zh je zw qT) (zq (YN (zh zG (qc (zc (zA (zc qi (zc y9 zl))) (zc (zA (zc y9 (zc qi zl))) (zc (zA (zc qi (zc qT zl))) (zc (zA (zc qT (zc qi zl))) (zc (zA (zc qi (zc qi zl))) zl)))))) (zK y (zc zp (zc Y9 zl)))) (kL 3 4)) (zq (zZ 2 (zh ja qa jB)) (zq (qD (qg (zQ 1 [2,3] (jE qd) (zI 0) zW (zM (qg (zQ 1 [0,2] (jE zw) (zI 0) zW (zM (zh qv (jf ZL (zh jC zw zp)) (jf ZL (zh jC (zh wU zw qd) (zh wU zp qd))))))))))) zE))) zE) (zq (qO (zh je zw y9) (zq (zZ 5 (qc (zc (zA (zc zD (zc zL zl))) (zc (zA (zc zD (zc qi zl))) (zc (zA (zc zD (zc qT zl))) (zc (zA (zc zL (zc qi zl))) (zc (zA (zc zL (zc qT zl))) (zc (zA (zc qi (zc qT zl))) zl)))))))) (zq (qD (qg (zQ 1 [5] (qt wC) (zI 0) zW (zM (qg (zQ 1 [0] (qt zw) (zI 0) zW (zM (zh yt qi (mQ qR (zQ 1 [0] (qt zw) (zI 0) (zh Y6 zp zw) (zM zp))))))))))) zE)) zE) (zq (qO (zh je zw Y9) (zq (zZ 2 (zh zG (qc (zc y9 (zc wB (zc qi zl)))) (zK y (zc zp (zc qT zl))))) (zq (qD (qg (zQ 1 [2] (jE qd) (zI 0) zW (zM (qg (zQ 1 [0] (jE zw) (zI 0) zW (zM (zh Ge zw zp)))))))) zE)) zE) (zq (zZ 3 (zh zG (qc (zc y9 (zc qT (zc qi zl)))) (zK y (zc zp (zc qT zl))))) (zq (zZ 6 (qc (zc zD (zc zL (zc (zh zG (qc (zc qi (zc zL zl))) (jf ZL (zh je qa qT))) (zc zL zl)))))) (zq (zZ 7 (qc zl)) (zq (wq (jE (zh ja qi qa)) (zI 8) (zq (zZ 9 (qg (zQ 1 [3,6,8] (jE (zh ja qi qa)) (zI 0) zW (zM (zh zG qd (zh yP (jf Jj (zh yt qa zp)) zw)))))) (zq (zZ 10 (qg (zQ 1 [3,8] (jE (zh ja qi qa)) (zI 0) zW (zM (jf ZL (zh jC (zh wU qd zw) (zh wU zp zw))))))) (zq (qO (zh je zw Gr) (zq (gi (yO wd Gv (qg (zQ 1 [9,10] (jE (zh ja qi qa)) (zI 0) zW (zM (zh qv (zh ja qT (zh zG qd zp)) (zh zG zw zp))))))) zE) (zq (gi (yO wd Gv (qg (zQ 1 [9,10] (jE (zh ja qi qa)) (zI 0) zW (zM (Jt (zh je (zh zG qd zp) zL) qT (zh zG zw zp))))))) zE)) zE)))) (zq (qD Gv) zE))))))))))))
abbrev Xk:Stmt:=top 40
def Jy:jh ["_law_state_here","_law_rows","_law_order","_law_kinds"] ["_law_state_here"] (qm Xk):=jS (by kernel_rfl)
def Xf (g:Fn)(J:Fn)(r:Fn):Ex:=zq (zZ 1 (zK J (zc (zK r (zc zp zl)) zl))) (zq (zZ 2 (zK g (zc zp (zc (QX (mQ qR (qp zw))) zl)))) (zq (zZ 3 (zh qv (qc (zc zD zl)) (zK g (zc zp (zc (QY zL (zh qv zL (mQ yn (zQ 1 [] (qt zw) (zI 0) zW (zM (mQ yn (qp zp))))))) zl))))) (zq (qD (mQ yS (zQ 1 [1,2,3] (qt qd) (zI 0) zW (zM (mQ yS (zQ 1 [0,1,3] (qt qd) (zI 0) zW (zM (zh zG qa (zh zG (zh zG qd zw) zp))))))))) zE)))
abbrev Xb:Stmt:=top 41
def gj:jh ["_law_state_here","_law_way","_law_rows","_law_many","_law_a","_law_b","_law_far"] ["_law_state_here"] (qm Xb):=jS (by kernel_rfl)
def Xh (X:Fn)(J:Fn)(y:Fn):Ex:=zq (zZ 1 (zK y (zc zp (zc qT zl)))) (zq (qO (zh je zw zD) (zq (qD (zK X (zc zp zl))) zE) zE) (zq (zZ 2 (qg (zQ 1 [] (qt (zK X (zc zp zl))) (zI 0) zW (zM (qg (qp zp)))))) (zq (zZ 3 (mQ qR (qp qd))) (zq (qO (y0 (zh je zw zL) (zh GA qa zL)) (zq (zZ 4 (zK y (zc zp (zc qa zl)))) (zq (zZ 5 (zh yP (zh qv (zh qv jB zL) (zK y (zc zp (zc (zh yt qa zL) zl)))) qa)) (zq (yX yH (zh qv zL (zK y (zc zp (zc (zh yt qa zL) zl)))) (zh zG qd jB) wC) (zq (yX yH (zh zG (zh zG qd jB) wC) (zh zG qd wC) jB) (zq (qD (zK J (zc qd zl))) zE))))) zE) (zq (zZ 6 (zh zG (qc (zc qi (zc qT (zc zL zl)))) (zK y (zc zp (zc qT zl))))) (zq (wq (jE qa) (zI 4) (zq (wq (jE jB) (zI 5) (zq (yX yH (zh qv zL (zK y (zc zp (zc (zh Zc YY (zh yt qa zL)) zl)))) (zh zG qd jB) wC) (zq (yX yH (zh zG (zh zG qd jB) wC) (zh zG qd wC) jB) zE))) zE)) (zq (qD (zK J (zc qd zl))) zE)))))))
abbrev GS:Stmt:=top 42
def QB:jh ["_law_state_here","_law_some"] ["_law_state_here"] (qm GS):=jS (by kernel_rfl)
def GP (y:Fn):Ex:=zq (zZ 1 (qc (zc QA (zc zD (zc (zA zl) (zc (zA (zc (zA zl) zl)) (zc (zA (zc (zA (zc zL zl)) zl)) (zc (qc (zc (qc (zc zD zl)) zl)) (zc (zA (zc (qc (zc zD zl)) zl)) (zc (zA (zc (zA (zc zD zl)) (zc (zA (zc zD zl)) zl))) (zc (zA (zc (zA (zc zD (zc zL zl))) (zc (zA (zc qi (zc zD zl))) zl))) (zc (zA (zc (zA (zc zD (zc qi zl))) (zc (zA (zc qi (zc zD zl))) zl))) (zc YH zl))))))))))))) (zq (zZ 1 (zh qv zw (qc (zc (zA (zc (zA (zc zD (zc zL zl))) (zc (zA (zc zL (zc zL zl))) zl))) (zc (zA (zc (zA (zc zW zl)) zl)) (zc (zA (zc (zA (zc zD (zc zW zl))) (zc (zA (zc zW (zc zD zl))) zl))) (zc (zA (zc (zA (zc zD (zc (jf ZI zL) zl))) (zc (zA (zc (jf ZI zL) (zc zD zl))) zl))) (zc (zA (zc (zA (zc zD (zc zL zl))) (zc (zA (zc zL (zc zD zl))) (zc (zA (zc zL (zc zL zl))) zl)))) zl)))))))) (zq (zZ 1 (zh qv zw (qc (zc (zA (zc (zA (zc zD (zc zL (zc qi zl)))) (zc (zA (zc zL (zc zD (zc qi zl)))) (zc (zA (zc qi (zc qi (zc zL zl)))) zl)))) (zc (zH (.str "0")) (zc (zA (zc (zA (zc zD (zc qT (zc qT zl)))) (zc (zA (zc qT (zc zD (zc zL zl)))) (zc (zA (zc qT (zc zL (zc zD zl)))) zl)))) (zc (zA (zc (zA (zc zD zl)) (zc (zA zl) zl))) (zc (zA (zc zD zl)) zl)))))))) (zq (zZ 1 (zh qv zw (qc (zc (zA (zc (zA (zc QA zl)) zl)) (zc (zA (zc (zA (zc zD (zc zD zl))) (zc (zA (zc zD (zc zD zl))) zl))) zl))))) (zq (qD (zh zG zw (zK y (zc zp (zc (zH (.int 23)) zl))))) zE))))
abbrev KI:Stmt:=top 43
def Rc:jh ["_law_found","_law_due"] ["_law_found","_law_due"] (qm KI):=jS (by kernel_rfl)
def gk (w:Fn):Ex:=zq (qO (YA .tup .lst zw) (zq (qO (kS (zh jC (yv .tup zp) (yv .tup zw)) (zh jC (yv .lst zp) (yv .lst zw))) wH zE) (zq (qO (zh jC (mQ qR (qp zp)) (mQ qR (qp zw))) wH zE) (zq (qD (mQ ZJ (zQ 2 [] (Yy zp zw) (kL 0 1) zW (zM (zK w (zc zp (zc zw zl))))))) zE))) zE) (zq (qD (y0 (zh je zp zw) (zh je (yv .bl zp) (yv .bl zw)))) zE)
def KH {K:Frag}(T:Bu mg)(F:kf K "_law_same" "_law_same" KI f fd)(hm:mg "_law_same"=some (.ref f)){J:Fn}(kH:zS P w K mg base k "_law_same" 2 J):zS P w K mg base (k+1) "_law_same" 2 (q9 2 (gk J)):=
 yo F hm Rc (λ_ _ _ _ _ _=>ZQ λ_ _=>rfl) λc A outer s H E h=>zu (jL (k9 (Mo .tup .lst T.jt T.wa T.gZ (by rfl) (by rfl) (zj 1))) (zu (jL (QM (Yh (jV (wk h) (we .tup T.jt T.wa (by rfl) (zj 0)) (we .tup T.jt T.wa (by rfl) (zj 1))) (J8 (jV (wk h) (we .lst T.jt T.gZ (by rfl) (zj 0)) (we .lst T.jt T.gZ (by rfl) (zj 1)))))) (zu (qx km) zJ) zJ) (zu (jL (jV (wk h) (wb T.kO (yQ (zj 0))) (wb T.kO (yQ (zj 1)))) (zu (qx km) zJ) zJ) (zu (qx (QT rfl T.Jd (ku (qN (N:=["_law_one","_law_other"]) 2 [] (L1 rfl T.Fc (zj 0) (zj 1)) (λ_ _ _=>⟨JV 0 1 rfl (qJ (by kernel_rfl)),qL,qK (qz kH h (zi (zj 0) (zi (zj 1) zt)))⟩))))) zJ))) zJ) (zu (qx (Z9 (wj (yr h) (zj 0) (zj 1)) (QR (wj (yr h) (we .bl T.jt T.WH (by rfl) (zj 0)) (we .bl T.jt T.WH (by rfl) (zj 1)))))) zJ)
abbrev Kl:Stmt:=top 44
def gM:jh ["_law_call","_law_error","e","_law_marks"] ["_law_call"] (qm Kl):=jS (by kernel_rfl)
def Kh:Ex:=zq (zZ 3 (qc (zc (qC (qS qu "NoTable") zw) (zc (qC (qS qu "NotSteady") zw) (zc (qC (qS qu "NoPlace") zw) zl))))) (zq (zZ 3 (zh qv qa (qc (zc (qC (qS qu "NoKind") zw) (zc (qC (qS qu "NoMix") zw) (zc (qC (qS qu "NoNumber") zw) zl)))))) (zq (zZ 3 (zh qv qa (qc (zc (qC (qS qu "NoLot") zw) (zc (qC (qS qu "NoKinds") zw) (zc (qC (qS qu "NoPaper") zw) zl)))))) (zq (zZ 3 (zh qv qa (qc (zc (qC (qS qu "NoParting") zw) (zc (qC (qS qu "NoClosed") zw) (zc (qC (qS qu "TooMany") zw) zl)))))) (zq (zZ 3 (zh qv qa (qc (zc (qC (qS qu "NoText") zw) (zc (qC (qS qu "NoLine") zw) (zc (qC (qS qu "NoDeed") zw) zl)))))) (zq (qO (yu (qC (Gw qu) zw)) (zq (qD QA) zE) zE) (zq (qD (qg (zQ 1 [3] (jE (zH (.int 15))) (zI 0) (zh zG zw zp) (zM zp)))) zE))))))
def QD (PG:jq)(lam:Nat->Fn):Ex:=zq (zZ 1 QA) (zq (Jp 0 1 2 qu PG lam) Kh)
def SD {K:Frag}(T:Bu mg)(C:kh K qu "NearError")(R:J0.all (Za K qu)=true)(F:kf K "_law_refused" "_law_refused" Kl f fd)(hm:mg "_law_refused"=some (.ref f)){PG:jq}{lam:Nat->Fn}(h:kk<=k)(L:∀k,ZF P w K mg base kk (PG k) (lam k)):zS P w K mg base (k+1) "_law_refused" 1 (q9 4 (QD PG lam)):=
 yo F hm gM (λ_ _ _ _ _ _=>yT λ_=>rfl) λc A outer s H E r=>zu (qw 1 gM.nd J4) (zu (LJ L (r.mono h) rfl rfl C.top_at C.top_exc (by decide +kernel) C.under gM.nd rfl rfl rfl rfl rfl rfl rfl) (zu (qw 3 gM.nd (jg (zi (yL (C.isx (jj R)) (yN (jj R)) T.jt (zj 1)) (zi (yL (C.isx (jj R)) (yN (jj R)) T.jt (zj 1)) (zi (yL (C.isx (jj R)) (yN (jj R)) T.jt (zj 1)) zt))) (zm (zm (zm zC))))) (zu (qw 3 gM.nd (yg (zj 3) (jg (zi (yL (C.isx (jj R)) (yN (jj R)) T.jt (zj 1)) (zi (yL (C.isx (jj R)) (yN (jj R)) T.jt (zj 1)) (zi (yL (C.isx (jj R)) (yN (jj R)) T.jt (zj 1)) zt))) (zm (zm (zm zC)))))) (zu (qw 3 gM.nd (yg (zj 3) (jg (zi (yL (C.isx (jj R)) (yN (jj R)) T.jt (zj 1)) (zi (yL (C.isx (jj R)) (yN (jj R)) T.jt (zj 1)) (zi (yL (C.isx (jj R)) (yN (jj R)) T.jt (zj 1)) zt))) (zm (zm (zm zC)))))) (zu (qw 3 gM.nd (yg (zj 3) (jg (zi (yL (C.isx (jj R)) (yN (jj R)) T.jt (zj 1)) (zi (yL (C.isx (jj R)) (yN (jj R)) T.jt (zj 1)) (zi (yL (C.isx (jj R)) (yN (jj R)) T.jt (zj 1)) zt))) (zm (zm (zm zC)))))) (zu (qw 3 gM.nd (yg (zj 3) (jg (zi (yL (C.isx (jj R)) (yN (jj R)) T.jt (zj 1)) (zi (yL (C.isx (jj R)) (yN (jj R)) T.jt (zj 1)) (zi (yL (C.isx (jj R)) (yN (jj R)) T.jt (zj 1)) zt))) (zm (zm (zm zC)))))) (zu (jL (gu (k9 (NJ C.isv T.jt T.RA (by rfl) (zj 1)))) (zu (qx J4) zJ) zJ) (zu (qx (jP (qN (N:=["_law_k","_law_marks"]) 1 [3] (j3 rfl T.jT zo) (λ_ _ _=>⟨qA 0 (qJ (by kernel_rfl)),Vr (k9 (qM (zj 1) (zj 0))),qK (zj 0)⟩)))) zJ))))))))
abbrev Jb:Stmt:=top 45
def Qd:jh ["_law_script","_law_k","_law_state_here","_law_table_here","_law_text","_law_bad"] ["_law_script"] (qm Jb):=jS (by kernel_rfl)
noncomputable abbrev jM:Str:=(("law":Str)++(".<locals>.":Str))++("<lambda>":Str)
def Z7 (y:Fn):Lm:=Tf (EJ (E7 (E1 (EL ((ki Jb).getD 0 Q6) 5))) 0) ["_law_bad"] [5] (zK y (zc zp zl))
def g8 (y:Fn):List Lm:=[Z7 y]
section
variable {K:Frag}(T:Bu mg){yq:Fn}(JG:∀base,yw P w K mg base k "table_text" 1 yq)
include T JG
theorem O9:Qp P w K mg k jM (Z7 yq):=
 ⟨⟨rfl,rfl,rfl,Oe (by kernel_rfl)⟩,λ_ _ _ _=>rfl,λbase cl a c A outer s H E h x=>yE (XY x (JG base) h (zi (zj 0) zt))⟩
end
def Eb {K:Frag}(T:Bu mg){y:Fn}(J:∀base,yw P w K mg base k "table_text" 1 y):∀t∈g8 y,Qp P w K mg k jM t:=
 all_cons (O9 T J) all_nil
def WZ (j:Fn)(w:Fn)(C:Fn)(E:Fn)(Q:Fn)(J:Fn)(y:Fn)(RF:Nat->List W->Hx->R W)(P:Addr)(PF:jq):Ex:=zq (wq (jE (zh WL zL (zh Zc (mQ qR (qp zp)) Jm))) (zI 1) (zq (zZ 2 (zK C (zc zp (zc zw zl)))) (zq (zZ 3 (zK E (zc qd zl))) (zq (zZ 4 (j5 kM (zH (.str "/")) (qg (zQ 1 [] (qt qa) (zI 0) zW (zM (j5 kM (zH (.str "")) (qg (zQ 1 [] (qt zp) (zI 0) zW (zM (jf Zg zp)))))))))) (zq (qO (kS (yu (zK w (zc (zK J (zc qa zl)) (zc jB zl)))) (yu (zK w (zc (zK Q (zc jB zl)) (zc qa zl))))) wH zE) (zq (zZ 5 (zK j (zc qd zl))) (zq (qO (zh jC (Qc (g8 y) PF (Qj RF) (zc (gz 1 jM P 0 (PF 0)) zl)) (qc (zc zD zl))) wH zE) zE))))))) (zq (qD (zh je (zK Q (zc (zH (.str "0")) zl)) (zA (zc (zA (zc zD zl)) zl)))) zE)
def o_law {K:Frag}(T:Bu mg)(F:kf K "law" "law" Jb f fd)(hn:nsIn K mainGlobals "law"=some (some (.ref f)))(g:tabIn K "law"=some (c,Pt))(B:BMain mg base)(l:CodeHd base c Pt){d:Fn}(Zl:zS P w K mg base k "_law_bad_table" 1 d){J:Fn}(kH:zS P w K mg base k "_law_same" 2 J){C:Fn}(ZX:zS P w K mg base k "_law_state" 2 C){e:Fn}(Zm:zS P w K mg base k "_law_table" 1 e){Q:Fn}(gN:zS P w K mg base k "read_table" 1 Q){z:Fn}(ZY:zS P w K mg base k "table_text" 1 z){y:Fn}{RF:Nat->List W->Hx->R W}(b:kk<=k)(a:∀t∈g8 y,Qp P w K mg j jM t)(i:∀base PG,(∀k,ZF P w K mg base (j+1) (PG k) (yA (g8 y) k))->zS P w K mg base kk "_law_refused" 1 (Zh PG RF)):j7 P w K mg base kZ (k+1) f fd ["_law_script"] (spT K 1 λPF=>q9 6 (WZ d J C e Q z y RF Pt PF)):=
 EY (ls:=g8 y) F hn g Qd λA outer s H E h=>zu (Z8 PassesOwn.never rfl (j3 rfl T.jT (Nm rfl T.Yi zo (We rfl T.WT (wb T.kO (yQ (zj 0))) zo))) (qA 1 Qd.nd) (zu (qw 2 Qd.nd (qz ZX h (zi (zj 0) (zi (zj 1) zt)))) (zu (qw 3 Qd.nd (qz Zm h (zi (zj 2) zt))) (zu (qw 4 Qd.nd (JS wK (jP (qN (N:=["_law_row"]) 1 [] (j6 (zj 3)) (λ_ _ _=>⟨qA 0 (qJ (by kernel_rfl)),qL,qK (JS wK (jP (qN (N:=["_law_kind"]) 1 [] (j6 (zj 0)) (λ_ _ _=>⟨qA 0 (qJ (by kernel_rfl)),qL,qK (Vh T.WS (zj 0))⟩))))⟩))))) (zu (jL (QM (Yh (gu (k9 (qz kH h (zi (qz ZY h (zi (zj 3) zt)) (zi (zj 4) zt))))) (J8 (gu (k9 (qz kH h (zi (qz gN h (zi (zj 4) zt)) (zi (zj 3) zt)))))))) (zu (qx km) zJ) zJ) (zu (qw 5 Qd.nd (qz Zl h (zi (zj 2) zt))) (zu (jL (jV (wk h) (Ow (q:=jM) (λ_=>rfl) a (Dd (by kernel_rfl)) i OU (h.mono b) (zi (NS (ls:=g8 y) (t:=Z7 y) rfl (by kernel_rfl) B rfl l rfl rfl) zt) (zm zC)) (jg (zi zo zt) (zm zC))) (zu (qx km) zJ) zJ) zJ))))))) (zu (qx (wj (yr h) (qz gN h (zi wK zt)) (qb (zi (qb (zi zo zt) (zm zC)) zt) (zm zC)))) zJ)
def KO:Fn:=q9 1 R5
def QH:Fn :=  KO
def X9:Fn:=q9 5 XT
def KS:Fn:=iso X9
def GJ:Fn:=q9 2 GI
def Kb:Fn:=iso GJ
def Xl:Fn:=q9 1 Xm
def Ku:Fn:=iso Xl
def G6:Fn:=q9 1 GZ
def ZW:Fn:=iso G6
def GV:Fn:=q9 2 Ki
def Jx:Fn :=  GV
def QF:Fn:=q9 4 KD
def j0:Fn:=kR QF
def Kx:Fn:=q9 2 Xc
def Zn:Fn :=  Kx
def JI:Fn:=q9 2 (KC QH)
def Z0:Fn :=  JI
def Xo:Fn:=q9 3 (Kr Jx)
def ZX:Fn :=  Xo
def Ke:Fn:=q9 4 (GQ j0)
def ZU:Fn :=  Ke
def Kv:Fn:=q9 11 (Kz j0)
def JA:Fn :=  Kv
def Kf:Fn:=q9 2 (GP j0)
def Zl:Fn :=  Kf
def Jv:Fn:=q9 3 (Kc Z0)
def gL:Fn :=  Jv
def JH:Fn:=q9 4 (Xf ZU Zn JA)
def ZZ:Fn:=kR JH
def Rl:Fn:=q9 2 (gk (λ_ _=>.bad))
def G8:Fn :=  Rl
def Rz:Fn:=q9 2 (gk G8)
def KA:Fn :=  Rz
def Xs:Fn:=q9 2 (gk KA)
def kH:Fn :=  Xs
def QG:Fn:=q9 2 (JN KS gL Kb)
def k8:Fn :=  QG
def JD:Fn:=q9 7 (Xh ZZ Zn j0)
def Zm:Fn:=kR JD
def QC:Fn:=wY 1 (Kg k8)
def Km:Fn:=wY 2 (Xa k8 ZW)
def gN:Fn:=iso (λws A=>(Km ws A).nox)
def wI:Fn:=wY 1 (Ks Ku QC)
def ZY:Fn:=iso (λws A=>(wI ws A).nox)
structure Tx (K:Frag):Prop where
 Pb:FD K "is_whole" Xz
 P5:FD K "is_even" X1
 T6:FD K "leaves_no_kind_out" GH
 Rn:FD K "write_rows" Xn
 S7:FD K "read_figure" G0
 SH:FD K "_law_cell_at" GY
 RS:FD K "_law_take" Xv
 Rx:FD K "_law_named" G7
 RR:FD K "is_wholes" Xu
 RJ:FD K "_law_state" Xd
 Sg:FD K "_law_mixed_row" GO
 Rw:FD K "_law_plain" Xj
 Si:FD K "_law_bad_table" GS
 Sa:FD K "is_wholes_below" GL
 RC:FD K "_law_known" Xk
 KG:FD K "_law_same" KI
 R7:FD K "is_table" XM
 Rk:FD K "_law_table" Xb
 Sn:FD K "require_table" GU
 Rm:FD K "read_table" G9
 RD:FD K "table_text" Xe
 Sw:FD K "_law_refused" Kl
 Fs:FD K "law" Jb
 Rb:nsIn K mainGlobals "ValueError"=some none
 F3:nsIn K mainGlobals "abs"=some none
 Fg:nsIn K mainGlobals "all"=some none
 IL:nsIn K mainGlobals "bool"=some none
 RQ:nsIn K mainGlobals "enumerate"=some none
 FA:nsIn K mainGlobals "int"=some none
 RI:nsIn K mainGlobals "isinstance"=some none
 FU:nsIn K mainGlobals "len"=some none
 Hi:nsIn K mainGlobals "list"=some none
 FQ:nsIn K mainGlobals "max"=some none
 El:nsIn K mainGlobals "min"=some none
 MU:nsIn K mainGlobals "range"=some none
 FO:nsIn K mainGlobals "set"=some none
 Nb:nsIn K mainGlobals "sorted"=some none
 FE:nsIn K mainGlobals "str"=some none
 F1:nsIn K mainGlobals "sum"=some none
 MR:nsIn K mainGlobals "tuple"=some none
 F8:nsIn K mainGlobals "zip"=some none
 Oj:TJ K "FIGURES" "0123456789"
 SV:CD K "MOST_PLACES" 8
 Eg:qu.all (Ye K "NearError" ·)=true
 F6:WA K "NearError"=true
 F0:J0.all (Za K qu)=true
section
variable {K:Frag}
def bu (X:K.In h)(G:h.Ns mainGlobals mg)(T:Tx K):Bu mg:=⟨aQ X G T.Rb,aQ X G T.F3,aQ X G T.Fg,aQ X G T.IL,aQ X G T.RQ,aQ X G T.FA,aQ X G T.RI,aQ X G T.FU,aQ X G T.Hi,aQ X G T.FQ,aQ X G T.El,aQ X G T.MU,aQ X G T.FO,aQ X G T.Nb,aQ X G T.FE,aQ X G T.F1,aQ X G T.MR,aQ X G T.F8,(let ⟨t,e⟩:=T.Oj;⟨t,a3 X G e⟩),(let ⟨t,e⟩:=T.SV;⟨t,a3 X G e⟩)⟩
def cl (T:Tx K):kh K qu "NearError":=HD T.Eg T.F6
structure Zz (K:Frag)(h:Heap)(mg:bP):Prop where
 X:K.In h
 G:h.Ns mainGlobals mg
 T:Tx K
 B:Bu mg
 C:kh K qu "NearError"
def zz (X:K.In h)(G:h.Ns mainGlobals mg)(T:Tx K):Zz K h mg:=⟨X,G,T,bu X G T,cl T⟩
def Pf (Z:Zz K h mg):zS P w K mg base 1 "is_whole" 1 QH:=by
 obtain⟨f,fd,F,a⟩:=Z.T.Pb;exact(yo F (a3 Z.X Z.G a) RM (λ_ _ _ _ _ _=>yT λ_=>rfl) λc A outer s H E r=>zu (qx (Z9 (we .int Z.B.jt Z.B.Qm (by rfl) (zj 0)) (QR (LD (we .bl Z.B.jt Z.B.WH (by rfl) (zj 0)))))) (zJ):zS P w K mg base 1 "is_whole" 1 KO)
def PC (Z:Zz K h mg):zS P w K mg base 1 "is_even" 1 KS:=by
 obtain⟨f,fd,F,a⟩:=Z.T.P5;exact(yo F (a3 Z.X Z.G a) KR (λ_ _ _ _ _ _=>yT λ_=>rfl) λc A outer s H E r=>zu (Z8 PassesOwn.never rfl (Vy rfl Z.B.Xp (zj 0)) (JV 1 2 rfl KR.nd) (zu (Z8 PassesOwn.never rfl (Vy rfl Z.B.Xp (zj 2)) (JV 3 4 rfl KR.nd) (zu (jL (QM (Yh (jV (wk r) (wj (yr r) (zj 4) zo) (wj (yr r) (zj 1) (zj 3))) (J8 (jV (wk r) (qM (qM (zj 0) (zj 3)) (zj 1)) (zj 4))))) (zu (qx km) zJ) zJ) zJ)) zJ)) (zu (qx km) zJ):zS P w K mg base 1 "is_even" 1 X9).iso
def T4 (Z:Zz K h mg):zS P w K mg base 1 "leaves_no_kind_out" 1 Kb:=by
 obtain⟨f,fd,F,a⟩:=Z.T.T6;exact(yo F (a3 Z.X Z.G a) GG (λ_ _ _ _ _ _=>yT λ_=>rfl) λc A outer s H E r=>zu (qw 1 GG.nd (jP (qN (N:=["row","kind"]) 2 [] (j6 (zj 0)) (λ_ _ _=>⟨qA 0 (qJ (by kernel_rfl)),qL,Lw (λ_ _ z=>z) rfl rfl (by intro _ h;cases h<;>rfl) (j6 (zj 0)) (qA 1 (qJ (by kernel_rfl))) qL (qK (zj 1))⟩)))) (zu (qx (QT rfl Z.B.Jd (ku (qN (N:=["kind","standing"]) 1 [1] (j3 rfl Z.B.jT (Wb rfl Z.B.Yi (yQ (zj 1)))) (λ_ _ _=>⟨qA 0 (qJ (by kernel_rfl)),qL,qK (Im To (zj 0) (zj 1))⟩))))) zJ):zS P w K mg base 1 "leaves_no_kind_out" 1 GJ).iso
def Rv (Z:Zz K h mg):zS P w K mg base 1 "write_rows" 1 Ku:=by
 obtain⟨f,fd,F,a⟩:=Z.T.Rn;exact(yo F (a3 Z.X Z.G a) S8 (λ_ _ _ _ _ _=>yT λ_=>rfl) λc A outer s H E r=>zu (qx (JS wK (jP (qN (N:=["row"]) 1 [] (j6 (zj 0)) (λ_ _ _=>⟨qA 0 (qJ (by kernel_rfl)),qL,qK (JS wK (jP (qN (N:=["part"]) 1 [] (j6 (zj 0)) (λ_ _ _=>⟨qA 0 (qJ (by kernel_rfl)),qL,qK (Vh Z.B.WS (zj 0))⟩))))⟩))))) (zJ):zS P w K mg base 1 "write_rows" 1 Xl).iso
def S6 (Z:Zz K h mg):zS P w K mg base 1 "read_figure" 1 ZW:=by
 obtain⟨f,fd,F,a⟩:=Z.T.S7;exact(yo F (a3 Z.X Z.G a) SN (λ_ _ _ _ _ _=>yT λ_=>rfl) λc A outer s H E r=>zu (qx (UK (jV (yr r) (Nu Z.B.kO (zj 0)) zo) (NC (PZ rfl Z.B.P4.choose_spec) (zj 0)) (Wi zo))) (zJ):zS P w K mg base 1 "read_figure" 1 G6).iso
def Sv (Z:Zz K h mg):zS P w K mg base 1 "_law_cell_at" 2 Jx:=by
 obtain⟨f,fd,F,a⟩:=Z.T.SH;exact(yo F (a3 Z.X Z.G a) Ss (λ_ _ _ _ _ _=>ZQ λ_ _=>rfl) λc A outer s H E r=>zu (jL (jV Tq (zj 1) (wb Z.B.kO (yQ (zj 0)))) (zu (qx (qM (zj 0) (zj 1))) zJ) zJ) (zu (qx zo) zJ):zS P w K mg base 1 "_law_cell_at" 2 GV)
def yV (Z:Zz K h mg):zS P w K mg base 1 "_law_take" 2 j0:=by
 obtain⟨f,fd,F,a⟩:=Z.T.RS;exact(yo F (a3 Z.X Z.G a) JF (λ_ _ _ _ _ _=>ZQ λ_ _=>rfl) λc A outer s H E r=>zu (jL (k9 (qM (zj 0) zo)) (zu (qw 2 JF.nd (gR (qM (zj 0) zo) (zj 1))) (zu (Qa (Z6 (qM (zj 0) zo) (zj 1)) (zj 0) zo) (zu (qx (zj 2)) zJ))) zJ) (zu (Qa (gR (yg (kJ (qM (zj 0) zo) zo) zo) zo) (zj 0) zo) (zu (qw 3 JF.nd (gR (yg (yg (kJ (qM (zj 0) zo) (qM (zj 0) zo)) (kJ zo (qM (zj 0) zo))) zo) zo)) (zu (qw 3 JF.nd (gR (yg (kJ (zj 3) (zj 3)) (kJ zo (zj 3))) zo)) (zu (qx (gR (Z6 (zj 3) zo) (zj 1))) zJ)))):zS P w K mg base 1 "_law_take" 2 QF).kR
def Kw (Z:Zz K h mg):zS P w K mg base 1 "_law_named" 1 Zn:=by
 obtain⟨f,fd,F,a⟩:=Z.T.Rx;exact(yo F (a3 Z.X Z.G a) G5 (λ_ _ _ _ _ _=>yT λ_=>rfl) λc A outer s H E r=>zu (qw 1 G5.nd (R0 rfl Z.B.Nz Z.B.Ed (OS rfl Z.B.Fz (jP (qN (N:=["_law_row"]) 1 [] (j6 (zj 0)) (λ_ _ _=>⟨qA 0 (qJ (by kernel_rfl)),qL,qK (K1 Z.B.gZ (yQ (zj 0)))⟩))) (jg zt zC)))) (zu (qx (Z2 Z.B.wa (ku (qN (N:=["_law_row","_law_some"]) 1 [1] (j6 (zj 0)) (λ_ _ _=>⟨qA 0 (qJ (by kernel_rfl)),qL,qK (Z2 Z.B.wa (ku (qN (N:=["_law_kind","_law_some"]) 1 [1] (j6 (zj 0)) (λ_ _ _=>⟨qA 0 (qJ (by kernel_rfl)),qL,qK (Og r (zj 1) (zj 0))⟩))))⟩))))) zJ):zS P w K mg base 1 "_law_named" 1 Kx)
def RT (Z:Zz K h mg):zS P w K mg base 2 "is_wholes" 2 Z0:=by
 obtain⟨f,fd,F,a⟩:=Z.T.RR;exact(yo F (a3 Z.X Z.G a) Rh (λ_ _ _ _ _ _=>ZQ λ_ _=>rfl) λc A outer s H E r=>zu (qx (Z9 (we .tup Z.B.jt Z.B.wa (by rfl) (zj 0)) (Z9 (wj (yr r) (wb Z.B.kO (yQ (zj 0))) (zj 1)) (QR (QT rfl Z.B.Jd (ku (qN (N:=["part"]) 1 [] (j6 (zj 0)) (λ_ _ _=>⟨qA 0 (qJ (by kernel_rfl)),qL,qK (qz (Pf Z).up r (zi (zj 0) zt))⟩)))))))) (zJ):zS P w K mg base 2 "is_wholes" 2 JI)
def Ro (Z:Zz K h mg):zS P w K mg base 2 "_law_state" 2 ZX:=by
 obtain⟨f,fd,F,a⟩:=Z.T.RJ;exact(yo F (a3 Z.X Z.G a) G2 (λ_ _ _ _ _ _=>ZQ λ_ _=>rfl) λc A outer s H E r=>zu (qw 2 G2.nd (qz (Sv Z).up r (zi (zj 0) (zi (zj 1) zt)))) (zu (jL (jV EE (zj 2) (V8 zo zo)) (zu (qx (jg (zi (gw (zj 2) (V8 zo zo)) (zi km zt)) (zm (zm zC)))) zJ) zJ) (zu (qx (jg (zi (gR (zj 2) zo) (zi km zt)) (zm (zm zC)))) zJ)):zS P w K mg base 2 "_law_state" 2 Xo)
def GR (Z:Zz K h mg):zS P w K mg base 2 "_law_mixed_row" 2 ZU:=by
 obtain⟨f,fd,F,a⟩:=Z.T.Sg;exact(yo F (a3 Z.X Z.G a) Kd (λ_ _ _ _ _ _=>ZQ λ_ _=>rfl) λc A outer s H E r=>zu (qw 2 Kd.nd (K1 Z.B.gZ (yQ (zj 1)))) (zu (qw 3 Kd.nd (jg zt zC)) (zu (Ov 1000 PassesOwn.never (jV (wk r) (zj 2) (jg zt zC)) (zu (J1 (KQ (zj 3) (Ol (zj 2) (qz (yV Z).up r (zi (zj 0) (zi (wb Z.B.kO (yQ (zj 2))) zt)))))) zJ)) (zu (qx (zj 3)) zJ))):zS P w K mg base 2 "_law_mixed_row" 2 Ke)
def Rg (Z:Zz K h mg):zS P w K mg base 2 "_law_plain" 1 JA:=by
 obtain⟨f,fd,F,a⟩:=Z.T.Rw;exact(yo F (a3 Z.X Z.G a) yU (λ_ _ _ _ _ _=>yT λ_=>rfl) λc A outer s H E r=>zu (qw 1 yU.nd (qz (yV Z).up r (zi (zj 0) (zi zo zt)))) (zu (qw 2 yU.nd (qM (jg (zi zo (zi zo (zi zo (zi zo (zi zo (zi zo (zi zo (zi zo zt)))))))) (zm (zm (zm (zm (zm (zm (zm (zm zC))))))))) (qz (yV Z).up r (zi (zj 0) (zi zo zt))))) (zu (jL (jV (yr r) (zj 1) zo) (zu (qx (jP (qN (N:=["_law_a","_law_many"]) 1 [2] (j3 rfl Z.B.jT (zj 2)) (λ_ _ _=>⟨qA 0 (qJ (by kernel_rfl)),qL,qK (jP (qN (N:=["_law_b","_law_a","_law_many"]) 1 [0,1] (j3 rfl Z.B.jT (zj 1)) (λ_ _ _=>⟨qA 0 (qJ (by kernel_rfl)),qL,qK (We rfl Z.B.WT (Wm Z.B.WV (gw (zj 1) (zj 0))) (gw (zj 2) (Wm Z.B.WV (gw (zj 1) (zj 0)))))⟩)))⟩)))) zJ) zJ) (zu (jL (jV (yr r) (zj 1) zo) (zu (qw 2 yU.nd (qM (jg (zi zo (zi zo (zi zo zt))) (zm (zm (zm zC)))) (qz (yV Z).up r (zi (zj 0) (zi zo zt))))) (zu (qx (jP (qN (N:=["_law_a","_law_many"]) 1 [2] (j3 rfl Z.B.jT (zj 2)) (λ_ _ _=>⟨qA 0 (qJ (by kernel_rfl)),qL,qK (jP (qN (N:=["_law_b","_law_a"]) 1 [0] (j3 rfl Z.B.jT (zj 1)) (λ_ _ _=>⟨qA 0 (qJ (by kernel_rfl)),qL,qK (qM (jg (zi zo (zi zo (zi zo (zi zo (zi zo (zi zo (zi zo (zi zo zt)))))))) (zm (zm (zm (zm (zm (zm (zm (zm zC))))))))) (V1 (zj 1) (zj 0)))⟩)))⟩)))) zJ)) zJ) (zu (jL (jV (yr r) (zj 1) zo) (zu (qx (jP (qN (N:=["_law_a","_law_many"]) 1 [2] (j3 rfl Z.B.jT (zj 2)) (λ_ _ _=>⟨qA 0 (qJ (by kernel_rfl)),qL,qK (jP (qN (N:=["_law_b","_law_a"]) 1 [0] (j3 rfl Z.B.jT (zj 1)) (λ_ _ _=>⟨qA 0 (qJ (by kernel_rfl)),qL,qK (QK Z.B.Qm (wj (wk r) (zj 1) (zj 0)))⟩)))⟩)))) zJ) zJ) (zu (jL (jV (yr r) (zj 1) zo) (zu (L4 (qM (jg (zi (qb (zi zo (zi zo zt)) (zm (zm zC))) (zi (qb (zi zo (zi zo zt)) (zm (zm zC))) (zi (qb (zi zo (zi zo zt)) (zm (zm zC))) (zi (qb (zi zo (zi zo zt)) (zm (zm zC))) (zi (qb (zi zo (zi zo zt)) (zm (zm zC))) zt))))) (zm (zm (zm (zm (zm zC)))))) (qz (yV Z).up r (zi (zj 0) (zi zo zt)))) (JV 3 4 rfl yU.nd)) (zu (qw 2 yU.nd (kJ (zj 3) (zj 4))) (zu (qx (jP (qN (N:=["_law_a","_law_many","_law_wide"]) 1 [2,3] (j3 rfl Z.B.jT (zj 2)) (λ_ _ _=>⟨qA 0 (qJ (by kernel_rfl)),qL,qK (jP (qN (N:=["_law_b","_law_a","_law_wide"]) 1 [0,2] (j3 rfl Z.B.jT (zj 1)) (λ_ _ _=>⟨qA 0 (qJ (by kernel_rfl)),qL,qK (yg (QK Z.B.Qm (wj (wk r) (zj 1) (zj 0))) (QK Z.B.Qm (wj (wk r) (Z6 (zj 1) (zj 2)) (Z6 (zj 0) (zj 2)))))⟩)))⟩)))) zJ))) zJ) (zu (jL (jV (yr r) (zj 1) zo) (zu (qw 5 yU.nd (jg (zi (qb (zi zo (zi zo zt)) (zm (zm zC))) (zi (qb (zi zo (zi zo zt)) (zm (zm zC))) (zi (qb (zi zo (zi zo zt)) (zm (zm zC))) (zi (qb (zi zo (zi zo zt)) (zm (zm zC))) (zi (qb (zi zo (zi zo zt)) (zm (zm zC))) (zi (qb (zi zo (zi zo zt)) (zm (zm zC))) zt)))))) (zm (zm (zm (zm (zm (zm zC)))))))) (zu (qx (jP (qN (N:=["_law_a","_law_some"]) 1 [5] (j6 (zj 5)) (λ_ _ _=>⟨qA 0 (qJ (by kernel_rfl)),qL,qK (jP (qN (N:=["_law_b","_law_a"]) 1 [0] (j6 (zj 1)) (λ_ _ _=>⟨qA 0 (qJ (by kernel_rfl)),qL,qK (gw zo (wb Z.B.kO (ku (qN (N:=["_law_one","_law_b"]) 1 [0] (j6 (zj 1)) (λ_ _ _=>⟨qA 0 (qJ (by kernel_rfl)),Vr (Fb To (zj 0) (zj 1)),qK (zj 0)⟩)))))⟩)))⟩)))) zJ)) zJ) (zu (jL (jV (yr r) (zj 1) zo) (zu (qw 2 yU.nd (qM (jg (zi zo (zi zo (zi zo zt))) (zm (zm (zm zC)))) (qz (yV Z).up r (zi (zj 0) (zi zo zt))))) (zu (qx (jP (qN (N:=["_law_a","_law_many"]) 1 [2] (j3 rfl Z.B.jT (zj 2)) (λ_ _ _=>⟨qA 0 (qJ (by kernel_rfl)),qL,qK (jP (qN (N:=["_law_b","_law_a"]) 1 [0] (j3 rfl Z.B.jT (zj 1)) (λ_ _ _=>⟨qA 0 (qJ (by kernel_rfl)),qL,qK (V1 (zj 1) (zj 0))⟩)))⟩)))) zJ)) zJ) (zu (qw 3 yU.nd (qM (jg (zi zo (zi zo (zi zo zt))) (zm (zm (zm zC)))) (qz (yV Z).up r (zi (zj 0) (zi zo zt))))) (zu (qw 6 yU.nd (jg (zi zo (zi zo (zi (qM (jg (zi zo (zi zo zt)) (zm (zm zC))) (QK Z.B.Qm (wj (yr r) (zj 3) zo))) (zi zo zt)))) (zm (zm (zm (zm zC)))))) (zu (qw 7 yU.nd (jg zt zC)) (zu (Z8 PassesOwn.never rfl (j3 rfl Z.B.jT (kJ zo (zj 3))) (qA 8 yU.nd) (zu (qw 9 yU.nd (jP (qN (N:=["_law_b","_law_wide","_law_ring","_law_a"]) 1 [3,6,8] (j3 rfl Z.B.jT (kJ zo (zj 3))) (λ_ _ _=>⟨qA 0 (qJ (by kernel_rfl)),qL,qK (qM (zj 2) (gR (Wm Z.B.WV (gw (zj 3) (zj 0))) (zj 1)))⟩)))) (zu (qw 10 yU.nd (jP (qN (N:=["_law_b","_law_wide","_law_a"]) 1 [3,8] (j3 rfl Z.B.jT (kJ zo (zj 3))) (λ_ _ _=>⟨qA 0 (qJ (by kernel_rfl)),qL,qK (QK Z.B.Qm (wj (wk r) (Z6 (zj 2) (zj 1)) (Z6 (zj 0) (zj 1))))⟩)))) (zu (jL (jV (yr r) (zj 1) zo) (zu (J1 (KQ (zj 7) (jP (qN (N:=["_law_b","_law_near","_law_far"]) 1 [9,10] (j3 rfl Z.B.jT (kJ zo (zj 3))) (λ_ _ _=>⟨qA 0 (qJ (by kernel_rfl)),qL,qK (yg (kJ zo (qM (zj 2) (zj 0))) (qM (zj 1) (zj 0)))⟩))))) zJ) (zu (J1 (KQ (zj 7) (jP (qN (N:=["_law_b","_law_near","_law_far"]) 1 [9,10] (j3 rfl Z.B.jT (kJ zo (zj 3))) (λ_ _ _=>⟨qA 0 (qJ (by kernel_rfl)),qL,qK (UK (jV (yr r) (qM (zj 2) (zj 0)) zo) zo (qM (zj 1) (zj 0)))⟩))))) zJ)) zJ)))) (zu (qx (zj 7)) zJ)))))))))))):zS P w K mg base 2 "_law_plain" 1 Kv)
def Sh (Z:Zz K h mg):zS P w K mg base 2 "_law_bad_table" 1 Zl:=by
 obtain⟨f,fd,F,a⟩:=Z.T.Si;exact(yo F (a3 Z.X Z.G a) QB (λ_ _ _ _ _ _=>yT λ_=>rfl) λc A outer s H E r=>zu (qw 1 QB.nd (jg (zi J4 (zi zo (zi (qb zt zC) (zi (qb (zi (qb zt zC) zt) (zm zC)) (zi (qb (zi (qb (zi zo zt) (zm zC)) zt) (zm zC)) (zi (jg (zi (jg (zi zo zt) (zm zC)) zt) (zm zC)) (zi (qb (zi (jg (zi zo zt) (zm zC)) zt) (zm zC)) (zi (qb (zi (qb (zi zo zt) (zm zC)) (zi (qb (zi zo zt) (zm zC)) zt)) (zm (zm zC))) (zi (qb (zi (qb (zi zo (zi zo zt)) (zm (zm zC))) (zi (qb (zi zo (zi zo zt)) (zm (zm zC))) zt)) (zm (zm zC))) (zi (qb (zi (qb (zi zo (zi zo zt)) (zm (zm zC))) (zi (qb (zi zo (zi zo zt)) (zm (zm zC))) zt)) (zm (zm zC))) (zi LN zt))))))))))) (zm (zm (zm (zm (zm (zm (zm (zm (zm (zm (zm zC))))))))))))) (zu (qw 1 QB.nd (yg (zj 1) (jg (zi (qb (zi (qb (zi zo (zi zo zt)) (zm (zm zC))) (zi (qb (zi zo (zi zo zt)) (zm (zm zC))) zt)) (zm (zm zC))) (zi (qb (zi (qb (zi km zt) (zm zC)) zt) (zm zC)) (zi (qb (zi (qb (zi zo (zi km zt)) (zm (zm zC))) (zi (qb (zi km (zi zo zt)) (zm (zm zC))) zt)) (zm (zm zC))) (zi (qb (zi (qb (zi zo (zi (Wi zo) zt)) (zm (zm zC))) (zi (qb (zi (Wi zo) (zi zo zt)) (zm (zm zC))) zt)) (zm (zm zC))) (zi (qb (zi (qb (zi zo (zi zo zt)) (zm (zm zC))) (zi (qb (zi zo (zi zo zt)) (zm (zm zC))) (zi (qb (zi zo (zi zo zt)) (zm (zm zC))) zt))) (zm (zm (zm zC)))) zt))))) (zm (zm (zm (zm (zm zC)))))))) (zu (qw 1 QB.nd (yg (zj 1) (jg (zi (qb (zi (qb (zi zo (zi zo (zi zo zt))) (zm (zm (zm zC)))) (zi (qb (zi zo (zi zo (zi zo zt))) (zm (zm (zm zC)))) (zi (qb (zi zo (zi zo (zi zo zt))) (zm (zm (zm zC)))) zt))) (zm (zm (zm zC)))) (zi wK (zi (qb (zi (qb (zi zo (zi zo (zi zo zt))) (zm (zm (zm zC)))) (zi (qb (zi zo (zi zo (zi zo zt))) (zm (zm (zm zC)))) (zi (qb (zi zo (zi zo (zi zo zt))) (zm (zm (zm zC)))) zt))) (zm (zm (zm zC)))) (zi (qb (zi (qb (zi zo zt) (zm zC)) (zi (qb zt zC) zt)) (zm (zm zC))) (zi (qb (zi zo zt) (zm zC)) zt))))) (zm (zm (zm (zm (zm zC)))))))) (zu (qw 1 QB.nd (yg (zj 1) (jg (zi (qb (zi (qb (zi J4 zt) (zm zC)) zt) (zm zC)) (zi (qb (zi (qb (zi zo (zi zo zt)) (zm (zm zC))) (zi (qb (zi zo (zi zo zt)) (zm (zm zC))) zt)) (zm (zm zC))) zt)) (zm (zm zC))))) (zu (qx (qM (zj 1) (qz (yV Z).up r (zi (zj 0) (zi zo zt))))) zJ)))):zS P w K mg base 2 "_law_bad_table" 1 Kf)
def Se (Z:Zz K h mg):zS P w K mg base 3 "is_wholes_below" 3 gL:=by
 obtain⟨f,fd,F,a⟩:=Z.T.Sa;exact(yo F (a3 Z.X Z.G a) T8 (λ_ _ _ _ _ _=>Df λ_ _ _=>rfl) λc A outer s H E r=>zu (qx (Z9 (qz (RT Z).up r (zi (zj 0) (zi (zj 1) zt))) (QR (QT rfl Z.B.Jd (ku (qN (N:=["part","limit"]) 1 [2] (j6 (zj 0)) (λ_ _ _=>⟨qA 0 (qJ (by kernel_rfl)),qL,qK (Io W3 Tq zo (zj 0) (zj 1))⟩))))))) (zJ):zS P w K mg base 3 "is_wholes_below" 3 Jv)
def Xg (Z:Zz K h mg):zS P w K mg base 3 "_law_known" 1 ZZ:=by
 obtain⟨f,fd,F,a⟩:=Z.T.RC;exact(yo F (a3 Z.X Z.G a) Jy (λ_ _ _ _ _ _=>yT λ_=>rfl) λc A outer s H E r=>zu (qw 1 Jy.nd (qz (Kw Z).up r (zi (qz (Rg Z).up r (zi (zj 0) zt)) zt))) (zu (qw 2 Jy.nd (qz (GR Z).up r (zi (zj 0) (zi (R4 rfl Z.B.gZ Z.B.jT (wb Z.B.kO (yQ (zj 1)))) zt)))) (zu (qw 3 Jy.nd (yg (jg (zi zo zt) (zm zC)) (qz (GR Z).up r (zi (zj 0) (zi (Pa rfl Z.B.gZ Z.B.jT zo (yg zo (Wb rfl Z.B.Yi (ku (qN (N:=["_law_row"]) 1 [] (j6 (zj 1)) (λ_ _ _=>⟨qA 0 (qJ (by kernel_rfl)),qL,qK (Wb rfl Z.B.Yi (yQ (zj 0)))⟩)))))) zt))))) (zu (qx (Z2 Z.B.wa (ku (qN (N:=["_law_a","_law_rows","_law_order","_law_kinds"]) 1 [1,2,3] (j6 (zj 2)) (λ_ _ _=>⟨qA 0 (qJ (by kernel_rfl)),qL,qK (Z2 Z.B.wa (ku (qN (N:=["_law_b","_law_a","_law_rows","_law_kinds"]) 1 [0,1,3] (j6 (zj 2)) (λ_ _ _=>⟨qA 0 (qJ (by kernel_rfl)),qL,qK (qM (zj 3) (qM (qM (zj 2) (zj 1)) (zj 0)))⟩))))⟩))))) zJ))):zS P w K mg base 3 "_law_known" 1 JH).kR
def Rf (Z:Zz K h mg):zS P w K mg base 1 "_law_same" 2 G8:=by
 obtain⟨f,fd,F,a⟩:=Z.T.KG;exact(KH (k:=0) Z.B F (a3 Z.X Z.G a) (FC (ps:=["_law_found","_law_due"]) F (a3 Z.X Z.G a) (λ_ _ _ _ _ _=>ZQ λ_ _=>rfl)))
def RH (Z:Zz K h mg):zS P w K mg base 2 "_law_same" 2 KA:=by
 obtain⟨f,fd,F,a⟩:=Z.T.KG;exact(KH (k:=1) Z.B F (a3 Z.X Z.G a) (Rf Z))
def RP (Z:Zz K h mg):zS P w K mg base 3 "_law_same" 2 kH:=by
 obtain⟨f,fd,F,a⟩:=Z.T.KG;exact(KH (k:=2) Z.B F (a3 Z.X Z.G a) (RH Z))
def XH (Z:Zz K h mg):zS P w K mg base 4 "is_table" 1 k8:=by
 obtain⟨f,fd,F,a⟩:=Z.T.R7;exact(yo F (a3 Z.X Z.G a) Xr (λ_ _ _ _ _ _=>yT λ_=>rfl) λc A outer s H E r=>zu (jL (QM (Yh (gu (k9 (we .tup Z.B.jt Z.B.wa (by rfl) (zj 0)))) (J8 (gu (IX W3 W3 zo (wb Z.B.kO (yQ (zj 0))) (ND rfl Z.B.SR.choose_spec)))))) (zu (qx km) zJ) zJ) (zu (qw 1 Xr.nd (wb Z.B.kO (yQ (zj 0)))) (zu (jL (gu (k9 (QT rfl Z.B.Jd (ku (qN (N:=["row","many"]) 1 [1] (j6 (zj 0)) (λ_ _ _=>⟨qA 0 (qJ (by kernel_rfl)),qL,qK (qz (Se Z).up r (zi (zj 0) (zi (zj 1) (zi (zj 1) zt))))⟩)))))) (zu (qx km) zJ) zJ) (zu (qx (Z9 (qz (PC Z).up r (zi (zj 0) zt)) (QR (qz (T4 Z).up r (zi (zj 0) zt))))) zJ))):zS P w K mg base 4 "is_table" 1 QG)
def RB (Z:Zz K h mg):zS P w K mg base 4 "_law_table" 1 Zm:=by
 obtain⟨f,fd,F,a⟩:=Z.T.Rk;exact(yo F (a3 Z.X Z.G a) gj (λ_ _ _ _ _ _=>yT λ_=>rfl) λc A outer s H E r=>zu (qw 1 gj.nd (qz (yV Z).up r (zi (zj 0) (zi zo zt)))) (zu (jL (jV (yr r) (zj 1) zo) (zu (qx (qz (Xg Z).up r (zi (zj 0) zt))) zJ) zJ) (zu (RY 2 (N:=["_law_row"]) 1 [] gj.nd rfl (cps (by kernel_rfl)) (by kernel_rfl) (j6 (qz (Xg Z).up r (zi (zj 0) zt))) (λ_ _ _=>⟨qA 0 (qJ (by kernel_rfl)),qL,qK (K1 Z.B.gZ (yQ (zj 0)))⟩)) (zu (qw 3 gj.nd (wb Z.B.kO (yQ (zj 2)))) (zu (jL (QM (Md (jV (yr r) (zj 1) zo) (Mb (jV Ey (zj 3) zo)))) (zu (qw 4 gj.nd (qz (yV Z).up r (zi (zj 0) (zi (zj 3) zt)))) (zu (qw 5 gj.nd (gR (yg (yg (zj 4) zo) (qz (yV Z).up r (zi (zj 0) (zi (gw (zj 3) zo) zt)))) (zj 3))) (zu (Qa (yg zo (qz (yV Z).up r (zi (zj 0) (zi (gw (zj 3) zo) zt)))) (qM (zj 2) (zj 4)) (zj 5)) (zu (Qa (qM (qM (zj 2) (zj 4)) (zj 5)) (qM (zj 2) (zj 5)) (zj 4)) (zu (qx (qz (Kw Z).up r (zi (zj 2) zt))) zJ))))) zJ) (zu (qw 6 gj.nd (qM (jg (zi zo (zi zo (zi zo zt))) (zm (zm (zm zC)))) (qz (yV Z).up r (zi (zj 0) (zi zo zt))))) (zu (Z8 PassesOwn.never rfl (j3 rfl Z.B.jT (zj 3)) (qA 4 gj.nd) (zu (Z8 PassesOwn.never rfl (j3 rfl Z.B.jT (zj 4)) (qA 5 gj.nd) (zu (Qa (yg zo (qz (yV Z).up r (zi (zj 0) (zi (We rfl Z.B.WT (zj 6) (gw (zj 3) zo)) zt)))) (qM (zj 2) (zj 4)) (zj 5)) (zu (Qa (qM (qM (zj 2) (zj 4)) (zj 5)) (qM (zj 2) (zj 5)) (zj 4)) zJ))) zJ)) (zu (qx (qz (Kw Z).up r (zi (zj 2) zt))) zJ))))))):zS P w K mg base 4 "_law_table" 1 JD).kR
def Sj (Z:Zz K h mg):yw P w K mg base 5 "require_table" 1 QC:=by
 obtain⟨f,fd,F,a⟩:=Z.T.Sn;exact(Gg F (a3 Z.X Z.G a) Sl (λ_ _ _ _ _ _=>yT λ_=>rfl) λc A outer s H E r x=>zu (jL (Wq (gu (k9 (qz (XH Z).up r (zi (zj 0) zt))))) (zu (KL x (Z.C.exc "NoTable" (by decide +kernel)) (zi wK zt) (zm zC)) zJ) zJ) (zJ):yw P w K mg base 5 "require_table" 1 QC)
def SU (Z:Zz K h mg):yw P w K mg base 5 "read_table" 1 Km:=by
 obtain⟨f,fd,F,a⟩:=Z.T.Rm;exact(Gg F (a3 Z.X Z.G a) G1 (λ_ _ _ _ _ _=>yT λ_=>rfl) λc A outer s H E r x=>zu (jL (Wq (gu (k9 (we .str Z.B.jt Z.B.WS (by rfl) (zj 0))))) (zu (KL x (Z.C.exc "NoText" (by decide +kernel)) (zi wK zt) (zm zC)) zJ) zJ) (zu (qw 1 G1.nd (Z2 Z.B.wa (ku (qN (N:=["row"]) 1 [] (j6 (Oc (zj 0) wK)) (λ_ _ _=>⟨qA 0 (qJ (by kernel_rfl)),qL,qK (Z2 Z.B.wa (ku (qN (N:=["sign"]) 1 [] (MH (zj 0)) (λ_ _ _=>⟨qA 0 (qJ (by kernel_rfl)),qL,qK (qz (S6 Z).up r (zi (zj 0) zt))⟩))))⟩))))) (zu (jL (Wq (gu (k9 (qz (XH Z).up r (zi (zj 1) zt))))) (zu (KL x (Z.C.exc "NoText" (by decide +kernel)) (zi wK zt) (zm zC)) zJ) zJ) (VE (zu (qx (zj 1)) zJ)))):yw P w K mg base 5 "read_table" 1 Km)
def Rp (Z:Zz K h mg):zS P w K mg base 5 "read_table" 1 gN:=(SU Z).m.iso
def G3 (Z:Zz K h mg):yw P w K mg base 6 "table_text" 1 wI:=by
 obtain⟨f,fd,F,a⟩:=Z.T.RD;exact(Gg F (a3 Z.X Z.G a) S9 (λ_ _ _ _ _ _=>yT λ_=>rfl) λc A outer s H E r x=>zu (J1 (XY x (Sj Z).up r (zi (zj 0) zt))) (VE (zu (qx (qz (Rv Z).up r (zi (zj 0) zt))) zJ)):yw P w K mg base 6 "table_text" 1 wI)
def RK (Z:Zz K h mg):zS P w K mg base 6 "table_text" 1 ZY:=(G3 Z).m.iso
end
end G
namespace Mi
open PySem L2
section
variable {m:Ev}
def Zt (h:m ρ A=.ok (.tup ws) A1):qt m ρ A=.ok ⟨λA i=>(zV (.tup ws) A).map λws=>ws[i]?,ws.length⟩ A1:=by
 unfold qt Yz;rw[h,zF]
 rfl
def QO (h:m ρ A=.ok (.tup ws) A)(l:ws.length<=z8){g:W->W}(he:∀w∈ws,me (some w::cap.map λi=>(ρ[i]?).join) A=.ok (g w) A):
  zQ 1 cap (qt m) (zI 0) zW (zM me) ρ A=.ok (ws.map g) A:=by
 have e:=Zo (cap:=cap) (me:=me) (ρ:=ρ) (A:=A) (N:=ws.length) (item:=λi=>ws.getD i .non) (g:=λi=>g (ws.getD i .non)) (Zt h) rfl l
  (λi H=>by show some ws[i]? =_;rw[aa H,ae,aa H];rfl)
  (by show some ws[ws.length]? =_;rw[aH (aw _)])
  (λi H=>by
   have:ws.getD i .non=ws[i]:=by rw[ae,aa H];rfl
   rw[this];exact he _ (aO H))
 rw[e]
 congr 1
 apply bF
 ·simp
 ·intro i b a
  have H:i<ws.length:=by simpa using a
  simp[ae,aa H]
theorem X0 (p:α->Bool):∀l:List α,wg (l.map λx=>W.bl (p x))=some (l.map p)
 |[]=>rfl|x::l=>by
  show(match Jq (.bl (p x)),wg (l.map λx=>W.bl (p x)) with|some k,some K=>some (k::K)|_,_=>none)=_
  rw[X0 p l];rfl
def QW {p:α->Bool}{l:List α}(h:∀x∈l,p x=true):ZJ (l.map λx=>W.bl (p x)) A=.ok (.bl true) A:=by
 show ZM (λk=>k.all id) _ A=_;unfold ZM;rw[X0];dsimp only
 have:(l.map p).all id=true:=by
  rw[List.all_map];exact b9.mpr λx H=>h x H
 rw[this]
theorem Wu {f:α->W}(h:∀x,(f x).nr=true):∀l:List α,ji (l.map f)=true
 |[]=>rfl|x::l=>by
  show((f x).nr&&ji (l.map f))=true;rw[h x,Wu h l];rfl
def Qw (i j:Int)(A:Hx):je (.int i) (.int j) A=.ok (.bl (decide (i=j))) A:=by
 show R.ok (W.bl (PyData.eqv (.int i) (.int j))) A=_;simp[PyData.eqv]
 rfl
def Tw (i j:Int)(A:Hx):jC (.int i) (.int j) A=.ok (.bl (!decide (i=j))) A:=by
 show R.ok (W.bl (!PyData.eqv (.int i) (.int j))) A=_;simp[PyData.eqv]
 rfl
def TH (i j:Bool)(A:Hx):jC (.bl i) (.bl j) A=.ok (.bl (!(i==j))) A:=by
 cases i<;>cases j<;>rfl
end
noncomputable def zR (r:bH):W:=.tup (r.map W.int)
def zU (t:bG):W:=.tup (t.map zR)
def LO (r:bH):(zR r).nr=true:=by
 show ji (r.map W.int)=true;exact Wu (λ_=>rfl) r
def J6 (t:bG):(zU t).nr=true:=by
 show ji (t.map zR)=true;exact Wu LO t
def Va {j:jk}{st:W->Ex}{N:Nat}{item:Nat->W}{I:En->Prop}(t:∀i,i<N->j.at_ A i=some (some (item i)))(H:j.at_ A N=some none)
  (s:∀i,i<N->∀ρ,I ρ->∃a,st (item i) ρ A=.ok (.nx a) A/\I a):∀(n i:Nat)(ρ:En),i+n=N->I ρ->∃a,yj j st n i ρ A=.ok (.nx a) A/\I a:=by
 intro n
 induction n with
 |zero=>
  intro i ρ h c
  have:i=N:=by omega
  subst this;exact⟨ρ,XB H,c⟩
 |succ n d=>
  intro i ρ h c;obtain⟨ρ1,E,g⟩:=s i (by omega) ρ c
  obtain⟨b,e,f⟩:=d (i+1) ρ1 (by omega) g
  exact⟨b,(VD (t i (by omega)) E).trans e,f⟩
def Ve {m:Ev}(h:m ρ A=.ok (.tup ws) A1):Qi m ρ A=.ok (w6 (.tup ws) ws.length) A1:=by
 unfold Qi;rw[h,zF]
 rfl
def U8 {w:W}(h:ws[i]? =some w):(w6 (.tup ws) ws.length).at_ A i=some (some (.tup [.int i,w])):=by
 show atEnd ws i _=_;unfold atEnd;rw[h]
def UP:(w6 (.tup ws) ws.length).at_ A ws.length=some none:=by
 show atEnd ws _ _=_;unfold atEnd;rw[aH (aw _)];exact ah rfl
noncomputable def at2 (t:bG)(a b:Nat):Int:=(t.getD a []).getD b 0
structure qG (t:bG):Prop where
 n1:1<=t.length
 n8:t.length<=8
 sq:∀r∈t,r.length=t.length
 lo:∀r∈t,∀v∈r,0<=v/\v<(t.length:Int)
 dg:∀a b,a<t.length->b<t.length->(at2 t a b=0↔a=b)
 sy:∀a b,a<t.length->b<t.length->at2 t a b=at2 t b a
 fu:∀k:Nat,(∃v∈t.flatten,(k:Int)<v)->(k:Int)∈t.flatten
section
variable {a b:Nat}
def WK (h:a<t.length):(t.map zR)[a]? =some (zR (t.getD a [])):=by
 rw[av,ae,aa h];rfl
def kI (h:a<t.length):t.getD a []∈t:=by
 rw[ae,aa h];exact aO h
def Uo (h:a<t.length):zG (zU t) (.int a) A=.ok (zR (t.getD a [])) A:=by
 unfold zG;show(match y8 (t.map zR) (a:Int) with|some w=>R.ok w A|none=>R.bad)=_
 rw[Yb (WK h)]
def int_at {r:bH}(h:b<r.length):(r.map W.int)[b]? =some (.int (r.getD b 0)):=by
 rw[av,ae,aa h];rfl
def UM {r:bH}(h:b<r.length):zG (zR r) (.int b) A=.ok (.int (r.getD b 0)) A:=by
 unfold zG;show(match y8 (r.map W.int) (b:Int) with|some w=>R.ok w A|none=>R.bad)=_
 rw[Yb (v:=.int (r.getD b 0)) (by rw[av,ae,aa h];rfl)]
end
section
def Nv {j:jk}{c:Option W}(b:∀i,i<ws.length->j.at_ A i=some (some (ws.getD i .non)))(H:j.at_ A ws.length=some none)(he:∀w,me [c,some w] A=.ok w A):
  ∀(f i:Nat)(x:Option W)(acc:List W),i+f=ws.length->acc.length+f<=z8->∃y,jc j (zI 1) (zH (.bl true)) (zM me) f i [c,x] acc A=.ok ([c,y],acc++ws.drop i) A:=by
 intro f
 induction f with
 |zero=>
  intro i x acc h l
  have:i=ws.length:=by omega
  subst this;refine⟨x,?_⟩;unfold jc;rw[H,drop_length,bo]
 |succ f I=>
  intro i x acc h l;have a:i<ws.length:=by omega
  have E:ws.getD i .non=ws[i]:=by rw[ae,aa a];rfl
  obtain⟨y,e⟩:=I (i+1) (some ws[i]) (acc++[ws[i]]) (by omega) (by rw[aG,bf];omega)
  refine⟨y,?_⟩;rw[jc,b i a,E];dsimp only[zI,List.set,zH];rw[zF];dsimp only;have d:zM me [c,some ws[i]] acc A=.ok ([c,some ws[i]],acc++[ws[i]]) A:=by
   unfold zM;rw[he,zF,ah (by omega)]
  rw[d,zF];rw[e,aN]
  congr 3
  rw[List.singleton_append,<- List.drop_eq_getElem_cons a]
def OM {j:jk}(d:∀i,i<t.length->j.at_ A i=some (some (zR (t.getD i []))))(H:j.at_ A t.length=some none):
  ∀(f i:Nat)(x y:Option W)(acc:List W),i+f=t.length->acc.length+(t.drop i).flatten.length<=z8->
   ∃ρ,jc j (zI 0) (zH (.bl true)) (Ql (qt (qh 0)) (zI 1) (zH (.bl true)) (zM (qh 1))) f i [x,y] acc A=.ok (ρ,acc++(t.drop i).flatten.map W.int) A:=by
 intro f
 induction f with
 |zero=>
  intro i x y acc h l
  have:i=t.length:=by omega
  subst this;refine⟨[x,y],?_⟩;unfold jc;rw[H,drop_length];simp
 |succ f I=>
  intro i x y acc h l;have a:i<t.length:=by omega
  have r:t.getD i []=t[i]:=by rw[ae,aa a];rfl
  have e:t.drop i=t[i]::t.drop (i+1):=List.drop_eq_getElem_cons a;rw[e,aR,aG]at l;obtain⟨z,E⟩:=Nv (A:=A) (j:=⟨λA i_1=>(zV (zR t[i]) A).map λws=>ws[i_1]?,(t[i].map W.int).length⟩) (me:=qh 1) (ws:=t[i].map W.int) (c:=some (zR t[i]))
   (λk b=>by
    show some (t[i].map W.int)[k]? =_;rw[ae,aa b];rfl)
   (by show some (t[i].map W.int)[(t[i].map W.int).length]? =_;rw[aH (aw _)])
   (λw=>zy rfl) (t[i].map W.int).length 0 y acc (by omega) (by rw[aj];omega)
  rw[List.drop_zero]at E;obtain⟨ρ,n⟩:=I (i+1) (some (zR t[i])) z (acc++t[i].map W.int) (by omega) (by rw[aG,aj];omega)
  refine⟨ρ,?_⟩;rw[jc,d i a,r];dsimp only[zI,List.set,zH];rw[zF];dsimp only;have g:Ql (qt (qh 0)) (zI 1) (zH (.bl true)) (zM (qh 1)) [some (zR t[i]),y] acc A=.ok ([some (zR t[i]),z],acc++t[i].map W.int) A:=by
   unfold Ql;rw[Zt (ws:=t[i].map W.int) (A1:=A) (zy (i:=0) rfl),zF];exact E
  rw[g,zF];rw[n,e,aR,ba,aN]
def M0 {m:Ev}(h:m ρ A=.ok (zU t) A)(H:t.flatten.length<=z8):
  zQ 2 [] (qt m) (zI 0) zW (Ql (qt zp) (zI 1) zW (zM zw)) ρ A=.ok (t.flatten.map W.int) A:=by
 have hlen:(t.map zR).length=t.length:=aj ..;obtain⟨a,e⟩:=OM (t:=t) (A:=A) (j:=⟨λA i=>(zV (zU t) A).map λws=>ws[i]?,(t.map zR).length⟩) (λi b=>by show some (t.map zR)[i]? =_;rw[WK b])
  (by show some (t.map zR)[t.length]? =_;rw[aH (by omega)]) t.length 0 none none [] (by omega) (by simpa using H)
 unfold zQ;rw[Zt (ws:=t.map zR) h,zF];show R.bind (R.nox (jc ⟨λA i=>(zV (zU t) A).map λws=>ws[i]?,(t.map zR).length⟩ _ _ _ (t.map zR).length 0 [none,none] [] A)) _=_;rw[hlen]at e ⊢;rw[e];simp
 rfl
end
theorem JJ:∀l:bH,intsOf (l.map W.int)=some l
 |[]=>rfl|i::l=>by
  show(match intsOf (l.map W.int) with|some is=>some (i::is)|none=>none)=_
  rw[JJ l]
theorem K6:∀(l:bH)(m:Int),jN l m=m∨jN l m∈l
 |[],_=>.inl rfl|i::l,m=>by
  show jN l (if i > m then i else m)=m∨jN l (if i > m then i else m)∈i::l;rcases K6 l (if i > m then i else m) with e|e
  ·by_cases h:i > m
   ·rw[ah h]at e ⊢;exact .inr (by rw[e];exact ax ..)
   ·rw[ar h]at e ⊢;exact .inl e
  ·exact .inr (ai _ e)
end Mi
namespace G
open PySem L2 Mi
def N8 (h:qG t):t.flatten.length<=64:=by
 have:∀l:bG,(∀r∈l,r.length<=8)->l.flatten.length<=8 * l.length:=by
  intro l
  induction l with
  |nil=>intro _;simp|cons r l i=>
   intro H;have e:=H r (ax ..);have d:=i λb a=>H b (ai _ a);rw[aR,aG,bp];omega
 have c:=h.n8
 have:=this t λr H=>by rw[h.sq r H];exact h.n8
 omega
section
def KY (h:n<1000000):jy (n:Int)=true:=by
 unfold jy;simp;omega
end
def J9 {m:Ev}(h:m ρ A=.ok (.ref n) A1)(H:A1[n]? =some (.lst ws)):qt m ρ A=.ok ⟨λA i=>(zV (.ref n) A).map λws=>ws[i]?,ws.length⟩ A1:=by
 unfold qt Yz;rw[h,zF];have e:zV (.ref n) A1=some ws:=by unfold zV;dsimp only;rw[H]
 rw[e]
def gX (h:A[n]? =some (.lst ws)):((zV (.ref n) A).map λws=>ws[i]?)=some ws[i]?:=by
 have e:zV (.ref n) A=some ws:=by unfold zV;dsimp only;rw[h]
 rw[e];rfl
def y6:List Int->Int
 |[]=>0|i::is=>jN is i
def VP {r:bH}(h:r≠[]):yn (r.map W.int) A=.ok (.int (y6 r)) A:=by
 unfold yn;rw[JJ];cases r with
 |nil=>exact absurd rfl h|cons i is=>rfl
def JR {r:bH}(h:r≠[]):y6 r∈r:=by
 cases r with
 |nil=>exact absurd rfl h|cons i is=>
  rcases K6 is i with e|e
  ·show jN is i∈_;rw[e];exact ax ..
  ·exact ai _ e
def yc (t:bG):Int:=y6 (t.map y6)+1
section
def _root_.Mi.qG.row_ne (h:qG t){r:bH}(H:r∈t):r≠[]:=λe=>by
 have a:=h.sq r H;have b:=h.n1;rw[e,length_nil]at a;omega
def _root_.Mi.qG.map_ne (h:qG t):t.map y6≠[]:=λe=>by
 have:=h.n1
 rw[List.map_eq_nil_iff]at e;rw[e]at this;simp at this
def UZ (h:qG t):1<=yc t/\yc t<=8:=by
 obtain⟨r,H,e⟩:=bZ.mp (JR h.map_ne)
 have:=h.lo r H _ (JR (h.row_ne H))
 have:=h.n8
 unfold yc;rw[<- e];omega
def UR (h:qG t){a b:Nat}(H:a<t.length)(d:b<t.length):0<=at2 t a b/\at2 t a b<8:=by
 have c:=h.sq _ (kI H)
 have:(t.getD a []).getD b 0∈t.getD a []:=by
  rw[ae (l:=t.getD a []),aa (by omega)];exact aO _
 have e:=h.lo _ (kI H) _ this
 have:=h.n8
 unfold at2;omega
def Qg (h:q ρ A=.ok ws A1):mQ yS q ρ A=.ok (.tup ws) A1:=(yi h).trans rfl
end
end G
namespace Mi
open PySem L2
def gv {w:W}{s:Nat}(h:A[n]? =some (.lst ws))(H:ws[s]? =some w):zG (.ref n) (.int (s:Int)) A=.ok w A:=by
 unfold zG;have e:zV (.ref n) A=some ws:=by unfold zV;dsimp only;rw[h]
 rw[e];dsimp only;rw[Yb H]
def yC {u:O}(h:A[n]? =some o):(A++[u])[n]? =some o:=by
 have:=(bY.mp h).1
 rw[ag this];exact h
def jG {u:O}:(A++[u])[A.length]? =some u:=by simp
theorem WC:∀(n:Nat)(k:bH),k.Nodup->(∀r∈k,0<=r/\r<(n:Int))->k.length<=n
 |0,k,_,h=>by
  cases k with
  |nil=>exact aw _|cons r l=>have:=h r (ax ..);omega
 |n+1,k,nd,h=>by
  by_cases hm:(n:Int)∈k
  ·have c:=WC n (k.erase (n:Int)) (nd.erase _) λr H=>by
    have b:=h r (List.mem_of_mem_erase H);have a:r≠(n:Int):=λz=>(List.Nodup.mem_erase_iff nd).mp H |>.1 z;omega
   rw[List.length_erase_of_mem hm]at c;omega
  ·have:=WC n k nd λr H=>by
    have b:=h r H;have a:r≠(n:Int):=λz=>hm (z ▸ H);omega
   omega
noncomputable def gc (μ:Nat->Nat->Int)(a b:Nat)(k:Int):Nat->Nat->Int:=λi j=>if i=a/\j=b then k else μ i j
structure Mu (n:Nat)(μ:Nat->Nat->Int)(c:Nat)(done:Nat->Nat->Prop):Prop where
 dg:∀i,μ i i=0
 sy:∀i j,μ i j=μ j i
 dn:∀i j,i<j->j<n->done i j->1<=μ i j/\μ i j<=(c:Int)
 un:∀i j,i<j->j<n->¬done i j->μ i j=0
 fu:∀k:Nat,1<=k->k<=c->∃i j,i<n/\j<n/\μ i j=(k:Int)
noncomputable def j8 (n:Nat)(μ:Nat->Nat->Int):bG:=(List.range n).map λi=>(List.range n).map (μ i)
def gT (H:i<n)(h:j<n):at2 (j8 n μ) i j=μ i j:=by
 unfold at2 j8;rw[ae (l:=(List.range n).map λi=>(List.range n).map (μ i)),av,a6 H];show((List.range n).map (μ i)).getD j 0=_;rw[ae,av,a6 h]
 rfl
def Mu.tab {c:Nat}{d:Nat->Nat->Prop}(h:Mu n μ c d)(all:∀i j,i<j->j<n->d i j)(n1:1<=n)(n8:n<=8)(z:n=1∨c<n):qG (j8 n μ):=by
 have len:(j8 n μ).length=n:=by unfold j8;simp
 have val:∀i j,i<n->j<n->i≠j->1<=μ i j/\μ i j<=(c:Int):=λi j H f ne=>by
  rcases Nat.lt_or_gt_of_ne ne with q|q
  ·exact h.dn i j q f (all i j q f)
  ·rw[h.sy];exact h.dn j i q H (all j i q H)
 have mem:∀r∈j8 n μ,∀v∈r,∃i j,i<n/\j<n/\v=μ i j:=λr g v p=>by
  unfold j8 at g;obtain⟨i,H,rfl⟩:=bZ.mp g;obtain⟨j,f,rfl⟩:=bZ.mp p;exact⟨i,j,b8.mp H,b8.mp f,rfl⟩
 have I:∀i j,i<n->j<n->μ i j∈(j8 n μ).flatten:=λi j H f=>List.mem_flatten.mpr ⟨_,bZ.mpr ⟨i,b8.mpr H,rfl⟩,bZ.mpr ⟨j,b8.mpr f,rfl⟩⟩;refine⟨by rw[len];exact n1,by rw[len];exact n8,λr g=>?_,λr g v p=>?_,λa b o l=>?_,λa b o l=>?_,λk y=>?_⟩
 ·rw[len]
  unfold j8 at g;obtain⟨i,H,rfl⟩:=bZ.mp g;simp
 ·rw[len]
  obtain⟨i,j,H,f,rfl⟩:=mem r g v p
  by_cases q:i=j
  ·subst q;rw[h.dg];omega
  ·have:=val i j H f q
   omega
 ·rw[len]at o l
  rw[gT o l]
  constructor
  ·intro e
   by_cases q:a=b
   ·exact q
   ·have:=val a b o l q;omega
  ·intro e;subst e;exact h.dg a
 ·rw[len]at o l
  rw[gT o l,gT l o];exact h.sy a b
 ·obtain⟨v,p,t⟩:=y
  obtain⟨r,g,s⟩:=List.mem_flatten.mp p;obtain⟨i,j,H,f,rfl⟩:=mem r g v s
  by_cases k0:k=0
  ·subst k0
   have:=I 0 0 (by omega) (by omega)
   rw[h.dg]at this;exact this
  ·by_cases q:i=j
   ·subst q;rw[h.dg]at t;omega
   ·have:=val i j H f q
    obtain⟨x,J,w,u,e⟩:=h.fu k (by omega) (by omega)
    have:=I x J w u
    rw[e]at this;exact this
end Mi
namespace G
open PySem L2 Mi
def Q5 {i j:Int}(H:-(2 ^ 64)<i)(h:i<2 ^ 64):ja (.int i) (.int j) A=.ok (.int (i * j)) A:=by
 unfold ja;dsimp only;rw[ah];unfold Jf;rw[bC,aq,ak,ak];exact .inl ⟨H,h⟩
def Zv {i j:Int}(h:0<j):yP (.int i) (.int j) A=.ok (.int (i%j)) A:=by
 unfold yP gH;dsimp only;rw[ah];unfold YC;exact aC h
def Ur {i j:Int}(h:0<j)(H:j<1152921504606846976):wU (.int i) (.int j) A=.ok (.int (i/j)) A:=by
 unfold wU gH;dsimp only;rw[ah];unfold Ym;rw[aq,ak,ak];exact⟨h,H⟩
def HF {c m:Int}(h:0<m)(H:m<1000000000000000):QF [.ref 0,.int m] [.lst [.int c,.bl true]]=.ok (.int (c%m)) [.lst [.int (c/m),.bl true]]:=by
 refine jb ?_;unfold KD;refine qI (A1:=[.lst [.int (c/m),.bl true]]) ?_;refine(wV (A1:=[.lst [.int c,.bl true]]) rfl).trans ?_;refine(zT (ρ1:=[some (.ref 0),some (.int m),some (.int (c%m)),none]) (A1:=[.lst [.int c,.bl true]]) ?_).trans ?_
 ·refine(qP (w:=.int (c%m)) (A1:=[.lst [.int c,.bl true]]) ?_).trans rfl
  exact(zX (x:=.int c) (y:=.int m) (A1:=[.lst [.int c,.bl true]]) (A2:=[.lst [.int c,.bl true]]) rfl rfl).trans (Zv h)
 ·refine(zT (ρ1:=[some (.ref 0),some (.int m),some (.int (c%m)),none]) (A1:=[.lst [.int (c/m),.bl true]]) ?_).trans rfl
  have e:zh wU (zh zG zp zD) zw [some (.ref 0),some (.int m),some (.int (c%m)),none] [.lst [.int c,.bl true]]=.ok (.int (c/m)) [.lst [.int c,.bl true]]:=
   (zX (x:=.int c) (y:=.int m) (A1:=[.lst [.int c,.bl true]]) (A2:=[.lst [.int c,.bl true]]) rfl rfl).trans (Ur h (by omega))
  unfold yX;rw[e,zF]
  rfl
noncomputable def Zi (c:Int):Int:=(c * 48271+29)%2147483647
noncomputable def kF (d:Int):Int:=(d * d+39373 * d+7)%2147483629
noncomputable def kW (e:Int):Int:=(e * e+16807 * e)%2147483587
def WW (c:Int):0<=Zi c/\Zi c<2147483647:=⟨emod_nonneg _ (by decide),bB _ (by decide)⟩
def Ec (c:Int):0<=kF c/\kF c<2147483629:=⟨emod_nonneg _ (by decide),bB _ (by decide)⟩
def II {c m:Int}(i:0<=c)(h:c<2147483647)(H:0<m)(j:m<1000000000000000):QF [.ref 0,.int m] [.lst [.int c,.bl false]]=.ok (.int (kW (kF (Zi c))/8%m)) [.lst [.int (Zi c),.bl false]]:=by
 have k:=WW c;refine jb ?_;unfold KD;refine(zT (ρ1:=[some (.ref 0),some (.int m),none,none]) (A1:=[.lst [.int c,.bl false]]) ((yh (A1:=[.lst [.int c,.bl false]]) rfl).trans rfl)).trans ?_;have g:zh yP (zh qv (zh ja (zh zG zp zD) (zH (.int 48271))) (zH (.int 29))) (zH (.int 2147483647)) [some (.ref 0),some (.int m),none,none] [.lst [.int c,.bl false]]=.ok (.int (Zi c)) [.lst [.int c,.bl false]]:=by
  have em:zh ja (zh zG zp zD) (zH (.int 48271)) [some (.ref 0),some (.int m),none,none] [.lst [.int c,.bl false]]=.ok (.int (c * 48271)) [.lst [.int c,.bl false]]:=
   (zX (x:=.int c) (y:=.int 48271) (A1:=[.lst [.int c,.bl false]]) (A2:=[.lst [.int c,.bl false]]) rfl rfl).trans (Q5 (by omega) (by omega))
  refine(zX (x:=.int (c * 48271+29)) (y:=.int 2147483647) (A1:=[.lst [.int c,.bl false]]) (A2:=[.lst [.int c,.bl false]]) ((zX em rfl).trans rfl) rfl).trans ?_;exact Zv (by decide)
 refine(zT (ρ1:=[some (.ref 0),some (.int m),none,none]) (A1:=[.lst [.int (Zi c),.bl false]]) ?_).trans ?_
 ·unfold yX
  rw[g,zF]
  rfl
 generalize Zi c=d at*;have b:zh yP (zh qv (zh qv (zh ja (zh zG zp zD) (zh zG zp zD)) (zh ja (zH (.int 39373)) (zh zG zp zD))) YS) (zH (.int 2147483629)) [some (.ref 0),some (.int m),none,none] [.lst [.int d,.bl false]]=
   .ok (.int (kF d)) [.lst [.int d,.bl false]]:=by
  have em:zh ja (zh zG zp zD) (zh zG zp zD) [some (.ref 0),some (.int m),none,none] [.lst [.int d,.bl false]]=.ok (.int (d * d)) [.lst [.int d,.bl false]]:=
   (zX (x:=.int d) (y:=.int d) (A1:=[.lst [.int d,.bl false]]) (A2:=[.lst [.int d,.bl false]]) rfl rfl).trans (Q5 (by omega) (by omega))
  have E:zh ja (zH (.int 39373)) (zh zG zp zD) [some (.ref 0),some (.int m),none,none] [.lst [.int d,.bl false]]=.ok (.int (39373 * d)) [.lst [.int d,.bl false]]:=
   (zX (x:=.int 39373) (y:=.int d) (A1:=[.lst [.int d,.bl false]]) (A2:=[.lst [.int d,.bl false]]) rfl rfl).trans (Q5 (by decide) (by decide))
  have s:zh qv (zh ja (zh zG zp zD) (zh zG zp zD)) (zh ja (zH (.int 39373)) (zh zG zp zD)) [some (.ref 0),some (.int m),none,none] [.lst [.int d,.bl false]]=.ok (.int (d * d+39373 * d)) [.lst [.int d,.bl false]]:=
   (zX em E).trans rfl
  refine(zX (x:=.int (d * d+39373 * d+7)) (y:=.int 2147483629) (A1:=[.lst [.int d,.bl false]]) (A2:=[.lst [.int d,.bl false]]) ((zX s rfl).trans rfl) rfl).trans ?_;exact Zv (by decide)
 refine(zT (ρ1:=[some (.ref 0),some (.int m),none,some (.int (kF d))]) (A1:=[.lst [.int d,.bl false]]) ((qP b).trans rfl)).trans ?_;have B:=Ec d;generalize kF d=e at*;have a:zh yP (zh qv (zh ja qa qa) (zh ja (zH (.int 16807)) qa)) (zH (.int 2147483587)) [some (.ref 0),some (.int m),none,some (.int e)] [.lst [.int d,.bl false]]=.ok (.int (kW e)) [.lst [.int d,.bl false]]:=by
  have em:zh ja qa qa [some (.ref 0),some (.int m),none,some (.int e)] [.lst [.int d,.bl false]]=.ok (.int (e * e)) [.lst [.int d,.bl false]]:=
   (zX (x:=.int e) (y:=.int e) (A1:=[.lst [.int d,.bl false]]) (A2:=[.lst [.int d,.bl false]]) rfl rfl).trans (Q5 (by omega) (by omega))
  have E:zh ja (zH (.int 16807)) qa [some (.ref 0),some (.int m),none,some (.int e)] [.lst [.int d,.bl false]]=.ok (.int (16807 * e)) [.lst [.int d,.bl false]]:=
   (zX (x:=.int 16807) (y:=.int e) (A1:=[.lst [.int d,.bl false]]) (A2:=[.lst [.int d,.bl false]]) rfl rfl).trans (Q5 (by decide) (by decide))
  refine(zX (x:=.int (e * e+16807 * e)) (y:=.int 2147483587) (A1:=[.lst [.int d,.bl false]]) (A2:=[.lst [.int d,.bl false]]) ((zX em E).trans rfl) rfl).trans ?_;exact Zv (by decide)
 refine(zT (ρ1:=[some (.ref 0),some (.int m),none,some (.int (kW e))]) (A1:=[.lst [.int d,.bl false]]) ((qP a).trans rfl)).trans ?_;generalize kW e=f at*;refine qI (jv ?_);refine(zX (x:=.int (f/8)) (y:=.int m) (A1:=[.lst [.int d,.bl false]]) (A2:=[.lst [.int d,.bl false]]) ?_ rfl).trans (Zv H);exact(zX (x:=.int f) (y:=.int 8) (A1:=[.lst [.int d,.bl false]]) (A2:=[.lst [.int d,.bl false]]) rfl rfl).trans (Ur (by decide) (by decide))
def qB (n:Nat)(A:Hx):Prop:=∃c b,A[n]? =some (.lst [.int c,.bl b])/\0<=c/\(b=false->c<2147483647)
def Uy (h:qB n A){m:Int}(H:0<m)(g:m<1000000000000000):∃r o,j0 [.ref n,.int m] A=.ok (.int r) (A.set n o)/\0<=r/\r<m/\qB n (A.set n o):=by
 obtain⟨c,b,f,d,i⟩:=h;have hn:n<A.length:=(bY.mp f).1;have fin:∀(r C:Int),QF [.ref 0,.int m] [.lst [.int c,.bl b]]=.ok (.int r) [.lst [.int C,.bl b]]->j0 [.ref n,.int m] A=.ok (.int r) (A.set n (.lst [.int C,.bl b])):=λr C e=>by
  unfold j0 kR;dsimp only;rw[f];dsimp only;have a:(ji [W.int c,W.bl b]&&ji [W.int m])=true:=rfl;rw[ah a,e]
  rfl
 cases b with
 |true=>
  refine⟨c%m,_,fin _ _ (HF H g),emod_nonneg _ (by omega),bB _ H,c/m,true,aE hn,Int.ediv_nonneg d (by omega),λz=>nomatch z⟩
 |false=>
  exact⟨_,_,fin _ _ (II d (i rfl) H g),emod_nonneg _ (by omega),bB _ H,Zi c,false,aE hn,(WW c).1,λ_=>(WW c).2⟩
end G
namespace Mi
open PySem L2
def K2 {xs ys:List W}(h:A[n]? =some (.lst xs))(a:A[k]? =some (.lst ys))(H:xs.length+ys.length<=z8):qv (.ref n) (.ref k) A=.ok (.ref A.length) (A++[.lst (xs++ys)]):=by
 unfold qv;dsimp only;rw[h,a];dsimp only;rw[ah H]
def Ext (A a:Hx):Prop:=∃l,a=A++l
def Ext.refl:Ext A A:=⟨[],by simp⟩
def Ext.trans {C:Hx}(a:Ext A B)(b:Ext B C):Ext A C:=let ⟨l,e⟩:=a;let ⟨k,f⟩:=b;⟨l++k,by rw[f,e,aN]⟩
def Ext.one:Ext A (A++[o]):=⟨[o],rfl⟩
def Ext.at {a:Hx}(x:Ext A a)(h:A[n]? =some o):a[n]? =some o:=by
 obtain⟨l,rfl⟩:=x
 have:=(bY.mp h).1
 rw[ag this];exact h
def NN {j:jk}{ifs:Ev}{em:Em}{N:Nat}{I:Nat->En->List W->Hx->Prop}
  (H:∀i ρ acc A,i<N->I i ρ acc A->∃w ρ1,j.at_ A i=some (some w)/\tw w ρ=some ρ1/\((∃A1 c a A2,ifs ρ1 A=.ok (.bl true) A1/\em ρ1 acc A1=.ok (c,a) A2/\I (i+1) c a A2)∨(∃A1,ifs ρ1 A=.ok (.bl false) A1/\I (i+1) ρ1 acc A1)))
  (e:∀ρ acc A,I N ρ acc A->j.at_ A N=some none):
  ∀(f i:Nat)(ρ:En)(acc:List W)(A:Hx),i+f=N->I i ρ acc A->∃d b n,jc j tw ifs em f i ρ acc A=.ok (d,b) n/\I N d b n:=by
 intro f
 induction f with
 |zero=>
  intro i ρ acc A h g
  have:i=N:=by omega
  subst this;refine⟨ρ,acc,A,?_,g⟩;unfold jc;rw[e _ _ _ g]
 |succ f l=>
  intro i ρ acc A h g;obtain⟨w,ρ1,q,p,o⟩:=H i ρ acc A (by omega) g
  rw[jc,q];dsimp only;rw[p];dsimp only;rcases o with ⟨A1,c,a,A2,k,r,E⟩|⟨A1,k,E⟩
  ·rw[k,zF]
   dsimp only;rw[r,zF];exact l (i+1) _ _ _ (by omega) E
  ·rw[k,zF]
   dsimp only;exact l (i+1) _ _ _ (by omega) E
def JM {nl:Nat}{j:jk}{ifs:Ev}{em:Em}{N:Nat}{I:Nat->En->List W->Hx->Prop}(hm:mi ρ A=.ok j A1)(g:j.len=N)
  (h:∀i ρ acc A,i<N->I i ρ acc A->∃w ρ1,j.at_ A i=some (some w)/\tw w ρ=some ρ1/\((∃A1 d b A2,ifs ρ1 A=.ok (.bl true) A1/\em ρ1 acc A1=.ok (d,b) A2/\I (i+1) d b A2)∨(∃A1,ifs ρ1 A=.ok (.bl false) A1/\I (i+1) ρ1 acc A1)))
  (H:∀ρ acc A,I N ρ acc A->j.at_ A N=some none)(h0:I 0 (ZD nl cap ρ) [] A1):∃c a f,zQ nl cap mi tw ifs em ρ A=.ok a f/\I N c a f:=by
 obtain⟨c,a,f,e,k⟩:=NN h H N 0 _ _ _ (by omega) h0
 refine⟨c,a,f,?_,k⟩;unfold zQ;rw[hm,zF,g,e]
 rfl
def KP {j:jk}{st:W->Ex}{N:Nat}{I:Nat->En->Hx->Prop}
  (H:∀i ρ A,i<N->I i ρ A->∃w ρ1 A1,j.at_ A i=some (some w)/\st w ρ A=.ok (.nx ρ1) A1/\I (i+1) ρ1 A1)(d:∀ρ A,I N ρ A->j.at_ A N=some none):
  ∀(f i:Nat)(ρ:En)(A:Hx),i+f=N->I i ρ A->∃a c,yj j st f i ρ A=.ok (.nx a) c/\I N a c:=by
 intro f
 induction f with
 |zero=>
  intro i ρ A h b
  have:i=N:=by omega
  subst this;exact⟨ρ,A,XB (d _ _ b),b⟩
 |succ f e=>
  intro i ρ A h b;obtain⟨w,ρ1,A1,l,k,g⟩:=H i ρ A (by omega) b
  rw[VD l k];exact e (i+1) _ _ (by omega) g
def JW {acc:List W}{y:W}(h:me ρ A=.ok y A1)(H:acc.length<z8):zM me ρ acc A=.ok (ρ,acc++[y]) A1:=by
 unfold zM;rw[h,zF,ah H]
theorem take_succ {l:List α}(h:i<l.length):l.take (i+1)=l.take i++[l[i]]:=by
 rw[List.take_succ,aa h];rfl
def Ext.app {l:Hx}(x:Ext A B):Ext A (B++l):=x.trans ⟨l,rfl⟩
def Ext.len (x:Ext A B):A.length<=B.length:=by obtain⟨l,rfl⟩:=x;simp
def gr (h:A[n]? =some o):n<A.length:=(bY.mp h).1
end Mi
namespace G
open PySem L2 Mi
def HJ {w:W}(H:A[n]? =some (.lst ws))(h:ws[i]? =some w):((zV (.ref n) A).map λws=>ws[i]?)=some (some w):=by
 rw[gX H,h]
def HS (H:A[n]? =some (.lst ws))(h:ws.length<=i):((zV (.ref n) A).map λws=>ws[i]?)=some none:=by
 rw[gX H,aH h]
theorem J5:∀(l:bH)(m:Int),m<=jN l m/\∀x∈l,x<=jN l m
 |[],m=>⟨Int.le_refl _,λx h=>by cases h⟩|y::l,m=>by
  unfold jN
  split
  ·rename_i c
   obtain⟨b,a⟩:=J5 l y;refine⟨by omega,λx H=>?_⟩
   rcases bX.mp H with rfl|H
   ·exact b
   ·exact a x H
  ·rename_i c
   obtain⟨b,a⟩:=J5 l m;refine⟨b,λx H=>?_⟩;rcases bX.mp H with rfl|H
   ·omega
   ·exact a x H
theorem XC:∀{l:List α}{k:Nat}{w:α},l[k]? =some w->l.Perm (w::l.eraseIdx k)
 |[],_,_,h=>by simp at h|x::l,0,w,h=>by
  simp at h;subst h;simp
 |x::l,k+1,w,h=>by
  rw[List.getElem?_cons_succ]at h;rw[List.eraseIdx_cons_succ];exact((XC h).cons x).trans (List.Perm.swap w x _)
def Py {i:Int}{w:W}(h:A[n]? =some (.lst ws))(hw:ws[k]? =some w)(H:jy i=true)(e:seqIndex? i ws.length=some k):wO (.ref n) (.int i) A=.ok w (A.set n (.lst (ws.eraseIdx k))):=by
 unfold wO;dsimp only;rw[h];dsimp only;rw[ah H,e];dsimp only;rw[hw]
def IJ (h:k<n):seqIndex? (k:Int) n=some k:=by
 have:=PySem.StrLaws.seqIndex_nonneg (i:=(k:Int)) (n:=n) (by omega) (by omega)
 rw[aL]at this;exact this
def Od {w:W}(h:A[n]? =some (.lst ws))(hw:ws[k]? =some w)(H:k<1000000):wO (.ref n) (.int (k:Int)) A=.ok w (A.set n (.lst (ws.eraseIdx k))):=
 Py h hw (G.KY H) (IJ (bY.mp hw).1)
theorem Vj {β:Type}(f:α->β):∀(l:List α)(k:Nat),(l.map f).eraseIdx k=(l.eraseIdx k).map f
 |[],_=>rfl|_::_,0=>rfl|a::l,k+1=>by
  rw[aV,List.eraseIdx_cons_succ,List.eraseIdx_cons_succ,aV,Vj f l k]
def Wf {a b:Ev}{y:W}(c:a ρ A=.ok (.ref n) A)(d:A[n]? =some (.lst ws))(H:b ρ A=.ok y A1):yO g a b ρ A=g (.ref n) y A1:=by
 unfold yO;have h:Qv (.ref n) A=true:=by unfold Qv;dsimp only;rw[d]
 rw[c,zF,ah h,H,zF]
def R1 {y:W}(h:A[n]? =some (.lst ws))(H:ws.length<1000):wd (.ref n) y A=.ok .non (A.set n (.lst (ws++[y]))):=by
 unfold wd;dsimp only;rw[h];dsimp only;rw[ah (by unfold z8;omega)]
def VZ {f:Fn}{us:List W}{c C:Int}{b B:Bool}{w:W}(a:A[n]? =some (.lst [.int c,.bl b]))(H:ji us=true)(h:f (.ref 0::us) [.lst [.int c,.bl b]]=.ok w A1)(g:A1[0]? =some (.lst [.int C,.bl B]))(hw:w.nr=true):kR f (.ref n::us) A=.ok w (A.set n (.lst [.int C,.bl B])):=by
 unfold kR;dsimp only;rw[a];dsimp only;have e:(ji [W.int c,W.bl b]&&ji us)=true:=by rw[H];rfl
 rw[ah e,h];dsimp only;rw[List.head?_eq_getElem?,g];dsimp only;have d:(ji [W.int C,W.bl B]&&w.nr)=true:=by rw[hw];rfl
 rw[ah d]
noncomputable abbrev iL (l:bL):List W:=l.map λ(a:Nat)=>W.int (a:Int)
def Oy {m:Ev}(h:m ρ A=.ok (.int (n:Int)) A1)(hn:n<=100):QX m ρ A=.ok (.ref A1.length) (A1++[.lst (iL (List.range n))]):=by
 unfold QX;rw[h,zF];dsimp only;rw[KY (by omega),aL,aC (by unfold z8;omega)]
 rfl
def NV {m:Ev}{o:List α}{f:α->W}{G:α->W}(h:m ρ A=.ok (.tup (o.map f)) A)(l:o.length<=z8)(he:∀a∈o,me (some (f a)::cap.map λi=>(ρ[i]?).join) A=.ok (G a) A):
  zQ 1 cap (qt m) (zI 0) zW (zM me) ρ A=.ok (o.map G) A:=by
 by_cases h0:o=[]
 ·subst h0
  have e:=Zo (cap:=cap) (me:=me) (ρ:=ρ) (A:=A) (N:=0) (item:=λ_=>.non) (g:=λ_=>.non) (Zt h) rfl (by unfold z8;omega) (λi H=>by omega) rfl (λi H=>by omega)
  exact e
 ·obtain⟨x,c⟩:∃x,x∈o:=List.exists_mem_of_ne_nil o h0
  have e:=Zo (cap:=cap) (me:=me) (ρ:=ρ) (A:=A) (N:=o.length) (item:=λi=>f (o.getD i x)) (g:=λi=>G (o.getD i x)) (Zt h) (aj ..) l
   (λi H=>by show some (o.map f)[i]? =_;rw[av,aa H,ae,aa H];rfl)
   (by show some (o.map f)[o.length]? =_;rw[aH (by rw[aj];exact aw _)])
   (λi H=>by
    have:o.getD i x=o[i]:=by rw[ae,aa H];rfl
    rw[this];exact he _ (aO H))
  rw[e]
  congr 1
  apply bF
  ·simp
  ·intro i d b
   have H:i<o.length:=by simpa using b
   simp[ae,aa H]
def ZV {β:Type}(o:List α)(x:α)(f:α->β):o.map f=(List.range o.length).map λi=>f (o.getD i x):=by
 apply bF
 ·simp
 ·intro i H a
  have h:i<o.length:=by simpa using H
  simp[ae,aa h]
def Zu (q:∀r∈t,r.length=t.length){v:Int}(h:v∈t.flatten):∃a b,a<t.length/\b<t.length/\at2 t a b=v:=by
 obtain⟨r,H,e⟩:=List.mem_flatten.mp h;obtain⟨a,d,g⟩:=bE H;obtain⟨b,c,f⟩:=bE e;refine⟨a,b,d,by rw[<- q r H];exact c,?_⟩
 unfold at2;have E:t.getD a []=r:=by rw[ae,aa d];exact g
 rw[E,ae,aa c];exact f
def J3 (q:∀r∈t,r.length=t.length){a b:Nat}(e:a<t.length)(d:b<t.length):∃r∈t,at2 t a b∈r/\at2 t a b∈t.flatten:=by
 have H:t.getD a []∈t:=kI e;have c:at2 t a b∈t.getD a []:=by
  unfold at2;have h:b<(t.getD a []).length:=by rw[q _ H];exact d
  rw[ae (l:=t.getD a []),aa h];exact aO _
 exact⟨_,H,c,List.mem_flatten.mpr ⟨_,H,c⟩⟩
def VR {r:bH}{x:Int}(h:x∈r):x<=y6 r:=by
 cases r with
 |nil=>cases h|cons i is=>
  show x<=jN is i;rcases bX.mp h with rfl|h
  ·exact(J5 is x).1
  ·exact(J5 is i).2 x h
section
def UO (h:qG t){a b:Nat}(d:a<t.length)(c:b<t.length):at2 t a b<yc t:=by
 obtain⟨r,H,e,_⟩:=J3 h.sq d c;have f:=VR e;have E:=VR (bZ.mpr ⟨r,H,rfl⟩:y6 r∈t.map y6);unfold yc;omega
def Wj (h:qG t):yc t-1∈t.flatten:=by
 obtain⟨r,H,e⟩:=bZ.mp (JR h.map_ne)
 have:yc t-1=y6 r:=by unfold yc;omega
 rw[this];exact List.mem_flatten.mpr ⟨r,H,JR (h.row_ne H)⟩
def Hn (h:qG t):yc t<=(t.length:Int):=by
 obtain⟨r,a,H⟩:=List.mem_flatten.mp (Wj h)
 have:=h.lo r a _ H
 omega
def Hz (h:qG t){v:Nat}(H:(v:Int)<yc t):∃a b,a<t.length/\b<t.length/\at2 t a b=(v:Int):=by
 by_cases e:(v:Int)=yc t-1
 ·rw[e];exact Zu h.sq (Wj h)
 ·exact Zu h.sq (h.fu v ⟨_,Wj h,by omega⟩)
noncomputable def jO (p:bL):bH:=0::p.map λ(k:Nat)=>1+(k:Int)
def Zd (t:bG)(p o:bL):bG:=o.map λa=>o.map λb=>(jO p).getD (at2 t a b).toNat 0
def V4 {p:bL}{v:Nat}(H:1<=v)(h:v<=p.length):(jO p).getD v 0=1+((p[v-1]'(by omega):Nat):Int):=by
 obtain⟨v,rfl⟩:∃u,v=u+1:=⟨v-1,by omega⟩
 unfold jO;rw[ae,List.getElem?_cons_succ,av,aa (by omega)]
 rfl
def Oo (h:qG t){p o:bL}(s:p.Perm (List.range (yc t-1).toNat))(g:o.Perm (List.range t.length)):qG (Zd t p o)/\(Zd t p o).length=t.length:=by
 have l:o.length=t.length:=by rw[g.length_eq,bA]
 have P:=UZ h;have L:=Hn h;have B:p.length=(yc t-1).toNat:=by rw[s.length_eq,bA]
 have n1:=h.n1;have H:∀i,o.getD i 0<t.length:=λi=>by
  by_cases c:i<o.length
  ·rw[ae,aa c]
   exact b8.mp (g.mem_iff.mp (aO c))
  ·rw[ae,aH (by omega)]
   exact n1
 have w:o.Nodup:=(g.nodup_iff).mpr List.nodup_range;have r:∀a,a<t.length->∃i,i<t.length/\o.getD i 0=a:=λa z=>by
  obtain⟨i,c,e⟩:=bE (g.mem_iff.mpr (b8.mpr z));exact⟨i,by omega,by rw[ae,aa c];exact e⟩
 have f:∀q (n:q<p.length),p[q]<p.length:=λq n=>by
  have:=b8.mp (s.mem_iff.mp (aO n))
  omega
 have M:Mu t.length (λi j=>(jO p).getD (at2 t (o.getD i 0) (o.getD j 0)).toNat 0) p.length (λ_ _=>True):=by
  refine⟨λi=>?_,λi j=>?_,λi j C A _=>?_,λi j _ _ hn=>absurd trivial hn,λk k1 N=>?_⟩
  ·show(jO p).getD (at2 t (o.getD i 0) (o.getD i 0)).toNat 0=0
   rw[(h.dg _ _ (H i) (H i)).mpr rfl]
   rfl
  ·show(jO p).getD (at2 t (o.getD i 0) (o.getD j 0)).toNat 0=(jO p).getD (at2 t (o.getD j 0) (o.getD i 0)).toNat 0
   rw[h.sy _ _ (H i) (H j)]
  ·show 1<=(jO p).getD (at2 t (o.getD i 0) (o.getD j 0)).toNat 0/\(jO p).getD (at2 t (o.getD i 0) (o.getD j 0)).toNat 0<=(p.length:Int)
   have u:o.getD i 0≠o.getD j 0:=by
    have y:i<o.length:=by omega
    have x:j<o.length:=by omega
    rw[ae,aa y,ae,aa x];intro e;have K:o[i]=o[j]:=e
    have:=(List.getElem_inj w).mp K
    omega
   have d:=h.dg _ _ (H i) (H j);have T:=UR h (H i) (H j);have S:=UO h (H i) (H j);have Q:at2 t (o.getD i 0) (o.getD j 0)≠0:=λe=>u (d.mp e);rw[V4 (by omega) (by omega)]
   have:=f ((at2 t (o.getD i 0) (o.getD j 0)).toNat-1) (by omega)
   omega
  ·obtain⟨q,n,e⟩:=bE (s.mem_iff.mpr (b8.mpr (by omega:k-1<(yc t-1).toNat)))
   obtain⟨a,b,z,D,J⟩:=Hz h (v:=q+1) (by omega)
   obtain⟨i,c,I⟩:=r a z;obtain⟨j,A,E⟩:=r b D;refine⟨i,j,c,A,?_⟩;show(jO p).getD (at2 t (o.getD i 0) (o.getD j 0)).toNat 0=(k:Int);rw[I,E,J,aL,V4 (by omega) (by omega)]
   have:p[q+1-1]'(by omega)=k-1:=e
   rw[this];omega
 have hT:Zd t p o=j8 t.length (λi j=>(jO p).getD (at2 t (o.getD i 0) (o.getD j 0)).toNat 0):=by
  unfold Zd j8;rw[ZV o 0,l]
  congr 1
  funext i
  rw[ZV o 0 (λb=>(jO p).getD (at2 t (o.getD i 0) b).toNat 0),l]
 refine⟨?_,by unfold Zd;rw[aj,l]⟩
 rw[hT];exact M.tab (λ_ _ _ _=>trivial) n1 h.n8 (.inr (by omega))
end
end G
namespace Mi
open PySem L2
def My {r b:Nat}{v:W}(h:A[r]? =some (.lst ws))(H:b<ws.length):yH (.ref r) (.int (b:Int)) v A=.ok () (A.set r (.lst (ws.set b v))):=by
 have e:kX ws.length (b:Int)=some b:=by unfold kX;rw[ah (by omega),ah (by omega),aL]
 unfold yH;dsimp only;rw[h];dsimp only;rw[e]
structure Kp (n:Nat)(A B:Hx):Prop where
 len:A.length<=B.length
 at_:∀i,i<A.length->i≠n->B[i]? =A[i]?
section
variable {C:Hx}
theorem Kp.trans (a:Kp n A B)(b:Kp n B C):Kp n A C:=⟨a8 a.len b.len,λi H h=>(b.at_ i (aA H a.len) h).trans (a.at_ i H h)⟩
theorem Kp.set:Kp n A (A.set n o):=⟨by rw[length_set];exact aw _,λi _ h=>aF (Ne.symm h)⟩
def Kp.ext (x:Ext A B):Kp n A B:=by
 obtain⟨l,rfl⟩:=x;exact⟨by simp,λi h _=>ag h⟩
def Kp.put (a:Kp n A B)(h:A.length<=k):Kp n A (B.set k o):=⟨by rw[length_set];exact a.len,λi b H=>by rw[aF (by omega)];exact a.at_ i b H⟩
def Kp.get (a:Kp n A B)(h:A[i]? =some o)(hn:i≠n):B[i]? =some o:=by rw[a.at_ i (gr h) hn];exact h
end
def JZ:(j8 n μ).length=n:=by unfold j8;simp
def Wt:∀r∈j8 n μ,r.length=(j8 n μ).length:=λr h=>by
 obtain⟨i,_,rfl⟩:=bZ.mp h;rw[JZ];simp
end Mi
namespace G
open PySem L2 Mi
section
abbrev Sq (t:bG):Prop:=∀r∈t,r.length=t.length
end
def Gk (t:bG):Bool:=decide (1<=t.length)&&(decide (t.length<=8)&&((t.all λr=>r.length==t.length&&r.all λv=>decide (0<=v)&&decide (v<(t.length:Int)))&&
 (((List.range t.length).all λa=>(List.range t.length).all λb=>(decide (at2 t a b=0)==decide (a=b))&&decide (at2 t a b=at2 t b a))&&(List.range 8).all λk=>!(t.flatten.any λv=>decide ((k:Int)<v)) || t.flatten.contains (k:Int))))
def VW (h:Gk t=true):qG t:=by
 unfold Gk at h;rw[aq,aq,aq,aq,ak,ak]at h;obtain⟨n1,n8,i,s,hf⟩:=h;have rw_:∀r∈t,r.length=t.length/\∀v∈r,0<=v/\v<(t.length:Int):=λr hm=>by
  have:=b9.mp i r hm
  rw[aq,aJ]at this;refine⟨this.1,λv d=>?_⟩
  have:=b9.mp this.2 v d
  rw[aq,ak,ak]at this;exact this
 have at_:∀a b,a<t.length->b<t.length->(decide (at2 t a b=0)==decide (a=b))=true/\at2 t a b=at2 t b a:=λa b c H=>by
  have:=b9.mp (b9.mp s a (b8.mpr c)) b (b8.mpr H)
  rw[aq,ak]at this;exact this
 refine⟨n1,n8,λr hm=>(rw_ r hm).1,λr hm=>(rw_ r hm).2,λa b c H=>?_,λa b c H=>(at_ a b c H).2,λk j=>?_⟩
 ·have:=aJ.mp (at_ a b c H).1
  by_cases q:a=b
  ·rw[aC q]at this;exact⟨λ_=>q,λ_=>of_decide_eq_true this⟩
  ·rw[aK q]at this;exact⟨λz=>absurd z (of_decide_eq_false this),λz=>absurd z q⟩
 ·obtain⟨v,d,f⟩:=j
  obtain⟨r,hm,e⟩:=List.mem_flatten.mp d
  have:=(rw_ r hm).2 v e
  have g:=b9.mp hf k (b8.mpr (by omega))
  rw[bC]at g;rcases g with z|z
  ·exfalso
   have:(t.flatten.any λv=>decide ((k:Int)<v))=true:=List.any_eq_true.mpr ⟨v,d,aC f⟩
   rw[this]at z;cases z
  ·exact List.contains_iff_mem.mp z
def Y4 (t:bG):((zU t).nr&&true)=true:=by rw[J6];rfl
def Yl {m:Ev}{w:W}{ty c:Ty}(h:m ρ A=.ok w A1)(H:ye w A1=some ty):yv c m ρ A=.ok (.bl (yz ty c)) A1:=by
 unfold yv;rw[h,zF,H]
def FN (h:ρ[i]? =some (some (.tup ws))):mQ qR (qp (qh i)) ρ A=.ok (.int ws.length) A:=by
 rw[yi (yW (w:=.tup ws) (A1:=A) (zy h) rfl)]
 rfl
def Px (i:Int)(A:Hx):QH [.int i] A=.ok (.bl true) A:=by
 unfold QH KO;exact jb (w:=.bl true) (A1:=A) rfl
def NH {r:bH}(h:r.length<=8)(A:Hx):Z0 [zR r,.int r.length] A=.ok (.bl true) A:=by
 unfold Z0 JI;refine jb ?_;unfold KC;refine qI (jv ?_);refine(Zw (A1:=A) rfl).trans ?_;have e:mQ qR (qp zp) [some (zR r),some (.int r.length)] A=.ok (.int r.length) A:=by
  rw[yi (yW (w:=zR r) (A1:=A) (zy rfl) rfl)];unfold qR;rw[aj]
 refine(Zw (A1:=A) ((zX e (zy (i:=1) rfl)).trans ((Qw _ _ _).trans (by rw[aC rfl])))).trans ?_
 have E:=QO (cap:=[]) (A:=A) (ρ:=[some (zR r),some (.int r.length)]) (ws:=r.map W.int) (me:=zK QH (zc zp zl)) (g:=λ_=>.bl true) (zy (i:=0) rfl) (by rw[aj];unfold z8;omega) (λw hw=>by
  obtain⟨i,_,rfl⟩:=bZ.mp hw;exact(qV (ws:=[.int i]) (A1:=A) rfl).trans (Px i A))
 exact(yi E).trans (QW (p:=λ_=>true) λ_ _=>rfl)
def Me {r:bH}(l:r.length<=8)(H:∀v∈r,0<=v/\v<r.length)(A:Hx):gL [zR r,.int r.length,.int r.length] A=.ok (.bl true) A:=by
 unfold gL Jv;refine jb ?_;unfold Kc;refine qI (jv ?_);refine(Zw (A1:=A) ((qV (ws:=[zR r,.int r.length]) (A1:=A) rfl).trans (NH l A))).trans ?_;have e:=QO (cap:=[2]) (A:=A) (ρ:=[some (zR r),some (.int r.length),some (.int r.length)]) (ws:=r.map W.int) (me:=yM gF Js (zH (.int 0)) (qh 0) (qh 1)) (g:=λ_=>.bl true) (zy (i:=0) rfl) (by rw[aj];unfold z8;omega) (λw hw=>by
  obtain⟨v,h,rfl⟩:=bZ.mp hw;obtain⟨b,a⟩:=H v h;unfold yM;rw[jm,zF,zy (i:=0) (w:=.int v) rfl,zF];show R.bind (R.ok (W.bl (decide ((0:Int)<=v))) A) _=_;rw[aC b,zF];dsimp only;rw[zy (i:=1) (w:=.int r.length) rfl,zF];show R.ok (W.bl (decide (v<(r.length:Int)))) A=_;rw[aC a])
 exact(yi e).trans (QW (p:=λ_=>true) λ_ _=>rfl)
def HA (h:qG t)(A:Hx):KS [zU t] A=.ok (.bl true) A:=by
 refine Qe (A1:=[]) (Y4 t) rfl (jb ?_);unfold XT;obtain⟨d,e,_⟩:=Va (A:=[]) (N:=t.length) (item:=λi=>.tup [.int i,zR (t.getD i [])]) (I:=λρ=>∃k g Y y,ρ=[some (zU t),k,g,Y,y])
  (j:=w6 (zU t) (t.map zR).length) (st:=turn (kL 1 2) (zq (wq (Qi qd) (kL 3 4) (zq (qO (kS (zh jC (zh je jB zD) (zh je zw qa)) (zh jC (zh zG (zh zG zp qa) zw) jB)) wH zE) zE)) zE))
  (λi n=>U8 (WK n)) (by have:=UP (A:=[]) (ws:=t.map zR);rw[aj]at this;rw[aj];exact this) (λa f ρ H=>by
   obtain⟨k,g,Y,y,rfl⟩:=H;have l:=h.sq _ (kI f);obtain⟨o,E,p,Z,r⟩:=Va (A:=[]) (N:=t.length) (item:=λi=>.tup [.int i,.int ((t.getD a []).getD i 0)]) (I:=λρ=>∃Y y,ρ=[some (zU t),some (.int a),some (zR (t.getD a [])),Y,y])
    (j:=w6 (zR (t.getD a [])) ((t.getD a []).map W.int).length) (st:=turn (kL 3 4) (zq (qO (kS (zh jC (zh je jB zD) (zh je zw qa)) (zh jC (zh zG (zh zG zp qa) zw) jB)) wH zE) zE))
    (λi n=>U8 (int_at (by omega)))
    (by have:=UP (A:=[]) (ws:=(t.getD a []).map W.int);rw[aj,l]at this;rw[aj,l];exact this)
    (λb c ρ H=>by
     obtain⟨Y,y,rfl⟩:=H;refine⟨[some (zU t),some (.int a),some (zR (t.getD a [])),some (.int b),some (.int ((t.getD a []).getD b 0))],?_,_,_,rfl⟩;refine(QP rfl).trans ?_;refine(zT ((yh (A1:=[]) ?_).trans rfl)).trans rfl;have v:zh jC (zh je jB zD) (zh je zw qa) [some (zU t),some (.int a),some (zR (t.getD a [])),some (.int b),some (.int ((t.getD a []).getD b 0))] []=.ok (.bl false) []:=by
      refine(zX ((zX (zy (i:=4) rfl) (jm (w:=.int 0))).trans (Qw _ _ _)) ((zX (zy (i:=1) rfl) (zy (i:=3) rfl)).trans (Qw _ _ _))).trans ((TH _ _ _).trans ?_);have hd:(t.getD a []).getD b 0=0↔a=b:=h.dg a b f c
      have:decide ((t.getD a []).getD b 0=0)=decide ((a:Int)=(b:Int)):=by
       by_cases q:a=b
       ·rw[aC (hd.mpr q),aC (by omega)]
       ·rw[aK (λz=>q (hd.mp z)),aK (by omega)]
      rw[this];simp
     have E:zh jC (zh zG (zh zG zp qa) zw) jB [some (zU t),some (.int a),some (zR (t.getD a [])),some (.int b),some (.int ((t.getD a []).getD b 0))] []=.ok (.bl false) []:=by
      have u:=h.sq _ (kI c);refine(zX ((zX ((zX (zy (i:=0) rfl) (zy (i:=3) rfl)).trans (Uo c)) (zy (i:=1) rfl)).trans (UM (by omega))) (zy (i:=4) rfl)).trans ((Tw _ _ _).trans ?_)
      have s:(t.getD b []).getD a 0=(t.getD a []).getD b 0:=(h.sy a b f c).symm;rw[s,aC rfl]
      rfl
     exact(Yt v).trans E) t.length 0 [some (zU t),some (.int a),some (zR (t.getD a [])),Y,y] (by omega) ⟨_,_,rfl⟩
   refine⟨[some (zU t),some (.int a),some (zR (t.getD a [])),p,Z],?_,_,_,_,_,rfl⟩;refine(QP rfl).trans ?_;rw[r]at E;have hlen:((t.getD a []).map W.int).length=t.length:=by rw[aj,l]
   refine(zT ((QQ (Ve (zy (i:=2) rfl))).trans ?_)).trans rfl;show yj (w6 (zR (t.getD a [])) ((t.getD a []).map W.int).length) _ ((t.getD a []).map W.int).length 0 _ _=_;rw[hlen]at E ⊢;exact E) t.length 0 [some (zU t),none,none,none,none] (by omega) ⟨_,_,_,_,rfl⟩
 refine(zT (ρ1:=d) (A1:=[]) ((QQ (Ve (zy (i:=0) rfl))).trans ?_)).trans (qI rfl);show yj (w6 (zU t) (t.map zR).length) _ (t.map zR).length 0 _ _=_;have hlen:(t.map zR).length=t.length:=aj ..;rw[hlen]at e ⊢;exact e
def LX (h:qG t)(A:Hx):Kb [zU t] A=.ok (.bl true) A:=by
 have k:=N8 h;have c:t.flatten≠[]:=by
  intro e;have u:=h.n1;have b:=h.sq _ (kI (t:=t) (a:=0) (by omega))
  have:t.getD 0 []=[]:=by
   have:=List.flatten_eq_nil_iff.mp e _ (kI (t:=t) (a:=0) (by omega))
   exact this
  rw[this]at b;simp at b;omega
 obtain⟨v0,l,E⟩:=List.exists_cons_of_ne_nil c;refine Qe (A1:=[.lst (t.flatten.map W.int)]) (Y4 t) rfl (jb ?_);unfold GI;refine(zT (ρ1:=[some (zU t),some (.ref 0)]) (A1:=[.lst (t.flatten.map W.int)]) ((qP (gq (M0 (zy rfl) (by unfold z8;omega)))).trans rfl)).trans (qI (jv ?_))
 generalize o:[O.lst (t.flatten.map W.int)]=B;have s:zV (.ref 0) B=some (t.flatten.map W.int):=by rw[<- o];rfl
 have em:mQ yn (qp zw) [some (zU t),some (.ref 0)] B=.ok (.int (jN l v0)) B:=by
  rw[yi (yW (w:=.ref 0) (A1:=B) (zy rfl) s)];unfold yn;rw[JJ,E]
 have H:jN l v0∈t.flatten:=by
  rw[E];rcases K6 l v0 with e|e
  ·rw[e];exact ax ..
  ·exact ai _ e
 have f:0<=jN l v0/\jN l v0<8:=by
  obtain⟨r,b,v⟩:=List.mem_flatten.mp H
  have:=h.lo r b _ v
  have:=h.n8
  omega
 generalize jN l v0=M at em H f;obtain⟨K,rfl⟩:=aX f.1;have q:=Zo (cap:=[1]) (me:=zh Y6 zp zw) (ρ:=[some (zU t),some (.ref 0)]) (A:=B) (N:=K) (j:=yZ 0 K) (item:=λi=>.int (0+i)) (g:=λ_=>.bl true)
  ((K7 em (by unfold jy;simp;omega)).trans (by rw[aL])) rfl (by unfold z8;omega) (λi d=>Q0 d) (QS (by omega))
  (λi d=>by
   refine(zX (zy (i:=0) (w:=.int (0+i)) rfl) (zy (i:=1) (w:=.ref 0) rfl)).trans ?_;show ZH false _ _ _=_;unfold ZH;rw[s];dsimp only;have hf:(kP (.int (0+(i:Int)))&&(t.flatten.map W.int).all kP)=true:=by
    have:(t.flatten.map W.int).all kP=true:=b9.mpr λw hw=>by obtain⟨x,_,rfl⟩:=bZ.mp hw;rfl
    rw[this];rfl
   rw[ah hf];have n:Qx (.int (0+(i:Int))) (t.flatten.map W.int)=true:=by
    unfold Qx;refine List.any_eq_true.mpr ⟨.int i,bZ.mpr ⟨(i:Int),h.fu i ⟨_,H,by omega⟩,rfl⟩,?_⟩
    show((i:Int)==0+(i:Int))=true;rw[zero_add];exact a7 _
   rw[n]
   rfl)
 refine(yi q).trans ?_;exact QW (p:=λ_=>true) λ_ _=>rfl
def V3 (h:qG t)(A:Hx):k8 [zU t] A=.ok (.bl true) A:=by
 have n1:=h.n1;have n8:=h.n8;unfold k8 QG;refine jb ?_;unfold JN;have e:∀ρ:En,mQ qR (qp (qh 0)) (some (zU t)::ρ) A=.ok (.int t.length) A:=λρ=>by
  rw[yi (yW (w:=zU t) (A1:=A) (zy rfl) rfl)];unfold qR;rw[aj]
 refine(zT (ρ1:=[some (zU t),none]) (A1:=A) ((yh (A1:=A) ?_).trans rfl)).trans ?_
 ·refine(Yt (A1:=A) rfl).trans ?_
  refine wc (k:=true) ?_;show yM gF gF (zH (.int 1)) (mQ qR (qp (qh 0))) (zH (.int 8)) [some (zU t),none] A=_;unfold yM;rw[jm,zF,e,zF];show R.bind (R.ok (W.bl (decide ((1:Int)<=t.length))) A) _=_;rw[aC (by omega),zF]
  dsimp only;rw[jm,zF];show R.ok (W.bl (decide ((t.length:Int)<=8))) A=_;rw[aC (by omega)]
 refine(zT (ρ1:=[some (zU t),some (.int t.length)]) (A1:=A) ((qP (e _)).trans rfl)).trans ?_;have E:=QO (cap:=[1]) (A:=A) (ρ:=[some (zU t),some (.int t.length)]) (ws:=t.map zR) (me:=zK gL (zc (qh 0) (zc (qh 1) (zc (qh 1) zl)))) (g:=λ_=>.bl true) (zy (i:=0) rfl) (by rw[aj];unfold z8;omega) (λw hw=>by
  obtain⟨r,H,rfl⟩:=bZ.mp hw;have l:=h.sq r H;refine(qV (ws:=[zR r,.int t.length,.int t.length]) (A1:=A) rfl).trans ?_;rw[<- l];exact Me (by omega) (λv a=>by have:=h.lo r H v a;omega) A)
 refine(zT (ρ1:=[some (zU t),some (.int t.length)]) (A1:=A) ((yh (A1:=A) (wc (k:=true) ((yi E).trans (QW (p:=λ_=>true) λ_ _=>rfl)))).trans rfl)).trans (qI (jv ?_));refine(Zw (A1:=A) ((qV (ws:=[zU t]) (A1:=A) rfl).trans (HA h A))).trans ?_;exact(qV (ws:=[zU t]) (A1:=A) rfl).trans (LX h A)
end G
namespace Mi
open PySem L2
theorem Xt:∀(l m:bH),PyData.eqvAll (l.map PyData.int) (m.map PyData.int)=decide (l=m)
 |[],[]=>by simp[PyData.eqvAll]|[],_::_=>by simp[PyData.eqvAll]|_::_,[]=>by simp[PyData.eqvAll]|a::l,b::m=>by
  simp only[aV,PyData.eqvAll,Xt l m,PyData.eqv];rw[Bool.eq_iff_iff];simp
theorem XQ:∀l:bH,yD (qf A n) (l.map W.int)=some (l.map PyData.int)
 |[]=>rfl|i::l=>by
  have:qf A n (.int i)=some (.int i):=by cases n<;>rfl
  show(match qf A n (.int i),yD (qf A n) (l.map W.int) with|some d,some ds=>some (d::ds)|_,_=>none)=_
  rw[this,XQ l]
  rfl
def Wy {r:Nat}{l:bH}(h:A[r]? =some (.lst (l.map W.int))):qf A 8 (.ref r)=some (.list (l.map PyData.int)):=by
 show(match zV (.ref r) A with|some ws=>(yD (qf A 7) ws).map PyData.list|none=>none)=_
 have:zV (.ref r) A=some (l.map W.int):=by unfold zV;dsimp only;rw[h]
 rw[this];dsimp only;rw[XQ]
 rfl
def Ky (A B:Hx):Prop:=∀w ty,ye w A=some ty->ye w B=some ty
def Ext.ky (x:Ext A B):Ky A B:=λw ty h=>by
 cases w with
 |ref n=>
  unfold ye at h ⊢;dsimp only at h ⊢;cases e:A[n]? with
  |none=>rw[e]at h;cases h|some o=>rw[e]at h;rw[x.at e];exact h
 |_=>exact h
def Ky.trans {C:Hx}(a:Ky A B)(b:Ky B C):Ky A C:=λw ty h=>b w ty (a w ty h)
section
def Uh:ye (.ref A.length) (A++[.lst ws])=some .lst:=by
 unfold ye;dsimp only;rw[jG]
end
structure Kn (n:Nat)(A B:Hx):Prop where
 kp:Kp n A B
 st:G.qB n B
def _root_.G.qB.ty (h:G.qB n A):ye (.ref n) A=some .lst:=by
 obtain⟨c,b,e,_⟩:=h;unfold ye;dsimp only;rw[e]
def _root_.G.qB.lt (h:G.qB n A):n<A.length:=by
 obtain⟨c,b,e,_⟩:=h;exact gr e
def _root_.G.qB.ext (h:G.qB n A)(x:Ext A B):G.qB n B:=by
 obtain⟨c,b,e,r⟩:=h;exact⟨c,b,x.at e,r⟩
def _root_.G.qB.put (h:G.qB n A)(H:k≠n):G.qB n (A.set k o):=by
 obtain⟨c,b,e,r⟩:=h;exact⟨c,b,by rw[aF H];exact e,r⟩
def Kn.ky (s:G.qB n A)(k:Kn n A B):Ky A B:=λw ty h=>by
 cases w with
 |ref i=>
  by_cases q:i=n
  ·subst q
   rw[s.ty]at h;rw[k.st.ty];exact h
  ·unfold ye at h ⊢
   dsimp only at h ⊢
   by_cases z:i<A.length
   ·rw[k.kp.at_ i z q];exact h
   ·rw[aH (by omega)]at h;cases h
 |_=>exact h
theorem Kn.trans {C:Hx}(a:Kn n A B)(b:Kn n B C):Kn n A C:=⟨a.kp.trans b.kp,b.st⟩
theorem Kn.ext (s:G.qB n A)(x:Ext A B):Kn n A B:=⟨Kp.ext x,s.ext x⟩
end Mi
namespace G
open PySem L2 Mi
def HH (h:qB n A){m:Int}(c:0<m)(H:m<1000000000000000):∃(r:Nat) (B:Hx),j0 [.ref n,.int m] A=.ok (.int r) B/\(r:Int)<m/\Kn n A B/\B.length=A.length:=by
 obtain⟨r,o,e,a,b,s⟩:=Uy h c H;exact⟨r.toNat,A.set n o,by rw[e,bx a],by omega,⟨Kp.set,s⟩,length_set ..⟩
def Zs {m:Int}(h:qB n A)(h0:ρ[0]? =some (some (.ref n)))(hm:me ρ A=.ok (.int m) A)(b:0<m)(H:m<1000000000000000):∃(r:Nat) (B:Hx),zK j0 (zc zp (zc me zl)) ρ A=.ok (.int r) B/\(r:Int)<m/\Kn n A B/\B.length=A.length:=by
 obtain⟨r,B,e,a⟩:=HH h b H;exact⟨r,B,(qV (qF (zy h0) (qF hm qW))).trans e,a⟩
def FK {ty:Ty}(h:ty≠.tup):yz ty .tup=false:=by
 cases ty<;>first|rfl|exact absurd rfl h
def kD (A:Hx)(w:W):Prop:=∀B,Ky A B->k8 [w] B=.ok (.bl false) B
def kD.mono {w:W}(k:Ky A B)(h:kD A w):kD B w:=λC q=>h C (k.trans q)
def UW {w:W}{ty:Ty}(h:ye w A=some ty)(hn:ty≠.tup):kD A w:=λB k=>by
 unfold k8 QG;refine jb ?_;unfold JN;have e:yv .tup zp [some w,none] B=.ok (.bl false) B:=(Yl (zy rfl) (k _ _ h)).trans (by rw[FK hn])
 have E:kS (yu (yv .tup zp)) (yu (yM gF gF zL (mQ qR (qp zp)) wB)) [some w,none] B=.ok (.bl true) B:=by
  unfold kS;rw[wc e,zF]
  rfl
 exact qI ((wV E).trans (qI (jv jm)))
def Fq (h:ye (.ref j) A=some .lst):kD A (.tup [.ref j]):=λB k=>by
 unfold k8 QG;refine jb ?_;unfold JN;have H:=k _ _ h;have e:Z0 [.ref j,.int 1] B=.ok (.bl false) B:=by
  unfold Z0 JI;refine jb ?_;unfold KC;exact qI (jv (Ww ((Yl (zy rfl) H).trans rfl)))
 have b:gL [.ref j,.int 1,.int 1] B=.ok (.bl false) B:=by
  unfold gL Jv;refine jb ?_;unfold Kc;exact qI (jv (Ww ((qV (ws:=[.ref j,.int 1]) (A1:=B) rfl).trans e)))
 have E:=QO (cap:=[1]) (A:=B) (ρ:=[some (.tup [.ref j]),some (.int 1)]) (ws:=[.ref j]) (me:=zK gL (zc zp (zc zw (zc zw zl)))) (g:=λ_=>.bl false) (zy (i:=0) rfl) (by simp[z8]) (λw hw=>by
  rw[cb.mp hw];exact(qV (ws:=[.ref j,.int 1,.int 1]) (A1:=B) rfl).trans b)
 refine(zT (ρ1:=[some (.tup [.ref j]),none]) (A1:=B) rfl).trans ((zT (ρ1:=[some (.tup [.ref j]),some (.int 1)]) (A1:=B) rfl).trans ?_);exact qI ((wV (wc (k:=false) ((yi E).trans rfl))).trans (qI (jv jm)))
def ET (m:Ev)(ρ:En):Prop:=∀A,∃w A1,m ρ A=.ok w A1/\Ext A A1/\kD A1 w
def AT (a:Ea)(ρ:En)(k:Nat):Prop:=∀A,∃ws A1,a ρ A=.ok ws A1/\Ext A A1/\ws.length=k/\∀w∈ws,kD A1 w
section
variable {m:Ev}{a:Ea}{w:W}
def Yf:AT zl ρ 0:=λA=>⟨[],A,rfl,Ext.refl,rfl,λ_ h=>by cases h⟩
def jQ (h:ET m ρ)(t:AT a ρ k):AT (zc m a) ρ (k+1):=λA=>by
 obtain⟨w,A1,E,x,c⟩:=h A;obtain⟨ws,A2,e,x2,l,b⟩:=t A1;refine⟨w::ws,A2,qF E e,x.trans x2,by rw[bp,l],λy H=>?_⟩
 rcases bX.mp H with rfl|H
 ·exact c.mono x2.ky
 ·exact b y H
def j4 (h:∀A,m ρ A=.ok w A)(hf:∀B,k8 [w] B=.ok (.bl false) B:=by intro B;kernel_rfl):ET m ρ:=λA=>⟨w,A,h A,Ext.refl,λB _=>hf B⟩
def Ih:ET YH ρ:=λA=>⟨.ref A.length,A++[.dct []],rfl,Ext.one,UW (ty:=.dct) (by unfold ye;dsimp only;rw[jG]) (by decide)⟩
end
section
variable {a:Ea}
structure TL (A:Hx)(r k:Nat)(B:Hx):Prop where
 at_:∃ws,B[r]? =some (.lst ws)/\ws.length=k/\∀w∈ws,kD B w
 nw:A.length<=r
 ext:Ext A B
def ID (h:AT a ρ k)(A:Hx):∃r B,qc a ρ A=.ok (.ref r) B/\TL A r k B:=by
 obtain⟨ws,A1,e,x,l,hw⟩:=h A;exact⟨_,_,yf e,⟨ws,jG,l,λw H=>(hw w H).mono Ext.one.ky⟩,x.len,x.app⟩
def Wz {r:Nat}(t:TL A r j B)(h:AT a ρ k)(c:ρ[i]? =some (some (.ref r)))(f:j+k<=100):∃b C,zh qv (qh i) (qc a) ρ B=.ok (.ref b) C/\TL A b (j+k) C:=by
 obtain⟨ws,e,l,hw⟩:=t.at_;obtain⟨us,d,E,x,L,u⟩:=h B;have x2:Ext B (d++[.lst us]):=x.app;refine⟨_,_,(zX (zy c) (yf E)).trans (K2 (x2.at e) jG (by unfold z8;omega)),⟨ws++us,jG,by rw[aG,l,L],λw H=>?_⟩,?_,(t.ext.trans x2).app⟩
 ·rcases List.mem_append.mp H with q|q
  ·exact(hw w q).mono (x2.app).ky
  ·exact(u w q).mono (Ext.one.trans Ext.one).ky
 ·have:=t.ext.len
  have:=x2.len
  omega
def Mx {r:Nat}{m:Int}{mm:Ev}(s:qB n A)(t:TL A r k B)(a:ρ[i]? =some (some (.ref r)))(h0:ρ[0]? =some (some (.ref n)))(hm:∀A,mm ρ A=.ok (.int m) A)(c:(k:Int)=m)(b:0<m)(f:m<1000):∃w C,zh zG (qh i) (zK j0 (zc zp (zc mm zl))) ρ B=.ok w C/\kD C w/\Kn n A C:=by
 obtain⟨ws,e,l,hw⟩:=t.at_;have sB:=s.ext t.ext;obtain⟨j,C,E,d,kn,_⟩:=Zs sB h0 (hm B) b (by omega)
 have h:j<ws.length:=by omega
 have H:r≠n:=by have:=s.lt;have:=t.nw;omega
 refine⟨ws[j],C,(zX (zy a) E).trans (gv (kn.kp.get e H) (aa h)),(hw _ (aO h)).mono (kn.ky sB),(Kn.ext s t.ext).trans kn⟩
end
def FI (s:qB n A):∃w B,Zl [.ref n] A=.ok w B/\kD B w/\Kn n A B:=by
 unfold Zl Kf;unfold GP;have E:∀ρ,ET (qc (zc (qc (zc zD zl)) zl)) ρ:=λρ A=>⟨_,_,yf (qF (yf (qF jm qW)) qW),Ext.one.app,UW Uh (by decide)⟩
 have e:∀ρ,ET (zA (zc (qc (zc zD zl)) zl)) ρ:=λρ A=>⟨_,_,Wn (qF (yf (qF jm qW)) qW),Ext.one,Fq Uh⟩;obtain⟨d,u,l,t1⟩:=ID (k:=11) (ρ:=[some (.ref n),none]) (a:=zc QA (zc zD (zc (zA zl) (zc (zA (zc (zA zl) zl)) (zc (zA (zc (zA (zc zL zl)) zl)) (zc (qc (zc (qc (zc zD zl)) zl)) (zc (zA (zc (qc (zc zD zl)) zl)) (zc (zA (zc (zA (zc zD zl)) (zc (zA (zc zD zl)) zl))) (zc (zA (zc (zA (zc zD (zc zL zl))) (zc (zA (zc qi (zc zD zl))) zl))) (zc (zA (zc (zA (zc zD (zc qi zl))) (zc (zA (zc qi (zc zD zl))) zl))) (zc YH zl))))))))))) (jQ (j4 (λ_=>rfl)) (jQ (j4 (λ_=>rfl)) (jQ (j4 (w:=.tup []) (λ_=>rfl)) (jQ (j4 (w:=.tup [.tup []]) (λ_=>rfl)) (jQ (j4 (w:=.tup [.tup [.int 1]]) (λ_=>rfl)) (jQ (E _) (jQ (e _) (jQ (j4 (w:=.tup [.tup [.int 0],.tup [.int 0]]) (λ_=>rfl))
  (jQ (j4 (w:=.tup [.tup [.int 0,.int 1],.tup [.int 2,.int 0]]) (λ_=>rfl)) (jQ (j4 (w:=.tup [.tup [.int 0,.int 2],.tup [.int 2,.int 0]]) (λ_=>rfl)) (jQ Ih Yf))))))))))) A
 obtain⟨c,q,j,T⟩:=Wz (k:=5) (i:=1) (ρ:=[some (.ref n),some (.ref d)]) (a:=zc (zA (zc (zA (zc zD (zc zL zl))) (zc (zA (zc zL (zc zL zl))) zl))) (zc (zA (zc (zA (zc zW zl)) zl)) (zc (zA (zc (zA (zc zD (zc zW zl))) (zc (zA (zc zW (zc zD zl))) zl))) (zc (zA (zc (zA (zc zD (zc (jf ZI zL) zl))) (zc (zA (zc (jf ZI zL) (zc zD zl))) zl))) (zc (zA (zc (zA (zc zD (zc zL zl))) (zc (zA (zc zL (zc zD zl))) (zc (zA (zc zL (zc zL zl))) zl)))) zl))))) t1 (jQ (j4 (w:=.tup [.tup [.int 0,.int 1],.tup [.int 1,.int 1]]) (λ_=>rfl)) (jQ (j4 (w:=.tup [.tup [.bl true]]) (λ_=>rfl)) (jQ (j4 (w:=.tup [.tup [.int 0,.bl true],.tup [.bl true,.int 0]]) (λ_=>rfl))
  (jQ (j4 (w:=.tup [.tup [.int 0,.int (-1)],.tup [.int (-1),.int 0]]) (λ_=>rfl)) (jQ (j4 (w:=.tup [.tup [.int 0,.int 1],.tup [.int 1,.int 0],.tup [.int 1,.int 1]]) (λ_=>rfl)) Yf))))) rfl (by omega)
 obtain⟨b,p,h,t3⟩:=Wz (k:=5) (i:=1) (ρ:=[some (.ref n),some (.ref c)]) (a:=zc (zA (zc (zA (zc zD (zc zL (zc qi zl)))) (zc (zA (zc zL (zc zD (zc qi zl)))) (zc (zA (zc qi (zc qi (zc zL zl)))) zl)))) (zc (zH (.str "0")) (zc (zA (zc (zA (zc zD (zc qT (zc qT zl)))) (zc (zA (zc qT (zc zD (zc zL zl)))) (zc (zA (zc qT (zc zL (zc zD zl)))) zl)))) (zc (zA (zc (zA (zc zD zl)) (zc (zA zl) zl))) (zc (zA (zc zD zl)) zl))))) T (jQ (j4 (w:=.tup [.tup [.int 0,.int 1,.int 2],.tup [.int 1,.int 0,.int 2],.tup [.int 2,.int 2,.int 1]]) (λ_=>rfl)) (jQ (j4 (λ_=>rfl))
  (jQ (j4 (w:=.tup [.tup [.int 0,.int 3,.int 3],.tup [.int 3,.int 0,.int 1],.tup [.int 3,.int 1,.int 0]]) (λ_=>rfl)) (jQ (j4 (w:=.tup [.tup [.int 0],.tup []]) (λ_=>rfl)) (jQ (j4 (w:=.tup [.int 0]) (λ_=>rfl)) Yf))))) rfl (by omega)
 obtain⟨r,o,g,t⟩:=Wz (k:=2) (i:=1) (ρ:=[some (.ref n),some (.ref b)]) (a:=zc (zA (zc (zA (zc QA zl)) zl)) (zc (zA (zc (zA (zc zD (zc zD zl))) (zc (zA (zc zD (zc zD zl))) zl))) zl)) t3 (jQ (j4 (w:=.tup [.tup [.non]]) (λ_=>rfl)) (jQ (j4 (w:=.tup [.tup [.int 0,.int 0],.tup [.int 0,.int 0]]) (λ_=>rfl)) Yf)) rfl (by omega)
 obtain⟨w,C,f,hw,kn⟩:=Mx (i:=1) (ρ:=[some (.ref n),some (.ref r)]) (mm:=zH (.int 23)) (m:=23) s t rfl rfl (λ_=>rfl) rfl (by decide) (by decide)
 refine⟨w,C,jb ?_,hw,kn⟩;refine(zT ((qP l).trans rfl)).trans ((zT ((qP j).trans rfl)).trans ((zT ((qP h).trans rfl)).trans ((zT ((qP g).trans rfl)).trans (qI (jv f)))))
section
variable {N a:Nat}
def Pz (g:t.length<=8)(q:Sq t){m:Ev}{c:Hx}(H:m ρ c=.ok (zU t) B):qg (zQ 1 [] (qt m) (zI 0) zW (zM (qg (qp zp)))) ρ c=
  .ok (.ref (B.length+t.length)) (B++(t.map λr=>O.lst (r.map W.int))++[O.lst ((List.range t.length).map λi=>W.ref (B.length+i))]):=by
 obtain⟨b,d,j,e,⟨z,g1⟩,g2,g3⟩:=JM (nl:=1) (cap:=[]) (tw:=zI 0) (ifs:=zH (.bl true)) (em:=zM (qg (qp zp))) (ρ:=ρ) (A:=c) (N:=t.length)
  (I:=λp b a C=>(∃z,b=[z])/\C=B++((t.take p).map λr=>O.lst (r.map W.int))/\a=(List.range p).map λi=>W.ref (B.length+i)) (Zt H) (by simp)
  (λp b a C h ⟨⟨z,f1⟩,f2,f⟩=>by
   subst f1 f2 f;refine⟨zR t[p],[some (zR t[p])],?_,rfl,.inl ⟨_,_,_,_,rfl,JW (gq (yW (w:=zR t[p]) (ws:=t[p].map W.int) (zy rfl) rfl)) ?_,⟨_,rfl⟩,?_,?_⟩⟩
   ·show some (t.map zR)[p]? =_
    rw[av,aa h];rfl
   ·simp;unfold z8;omega
   ·rw[take_succ h,ba,aN];rfl
   ·rw[range_succ,ba,aG,aj,bw,Nat.min_eq_left (bg h)];rfl)
  (λb a C _=>by show some (t.map zR)[t.length]? =_;rw[aH (by simp)]) ⟨⟨none,rfl⟩,by simp,by simp⟩
 rw[gq e,g2,g3,take_length];simp
def VJ (h:i<t.length):(B++(t.map λr=>O.lst (r.map W.int))++[O.lst ((List.range t.length).map λi=>W.ref (B.length+i))])[B.length+i]? =some (.lst ((t.getD i []).map W.int)):=by
 rw[ag (by simp;omega),au (by omega),show B.length+i-B.length=i by omega,av,ae,aa h]
 rfl
def VC:(B++(t.map λr=>O.lst (r.map W.int))++[O.lst ((List.range t.length).map λi=>W.ref (B.length+i))])[B.length+t.length]? =some (.lst ((List.range t.length).map λi=>W.ref (B.length+i))):=by
 have:B.length+t.length=(B++(t.map λr=>O.lst (r.map W.int))).length:=by simp
 rw[this,jG]
end
def Qu {r s:Nat}{l m:bH}(h:A[r]? =some (.lst (l.map W.int)))(H:A[s]? =some (.lst (m.map W.int))):jC (.ref r) (.ref s) A=.ok (.bl (!decide (l=m))) A:=by
 show gf true _ _ A=_;unfold gf;rw[Wy h,Wy H];dsimp only;rw[PyData.eqv,Xt]
 rfl
section
variable {p f:Nat}
def N4 {x:Option W}(U:A.length<=p)(hf:A.length<=f)(hn:n<A.length)(h:p≠f):∀(k fu:Nat)(l fd:bH)(B:Hx),l.length=k->k<fu->fd.length+l.length<=100->Kn n A B->B[p]? =some (.lst (l.map W.int))->B[f]? =some (.lst (fd.map W.int))->
  ∃(j:Hx) (b:bH),gA (zh jC qd (qc zl)) (zq (gi (yO wd qa (yO wO qd (zK j0 (zc zp (zc (mQ qR (qp qd)) zl)))))) zE) fu [some (.ref n),x,some (.ref p),some (.ref f)] B=.ok (.nx [some (.ref n),x,some (.ref p),some (.ref f)]) j/\Kn n A j/\j[f]? =some (.lst (b.map W.int))/\b.Perm (fd++l):=by
 intro k
 induction k with
 |zero=>
  intro fu l fd B H z _ kn r D;obtain⟨fu,rfl⟩:∃J,fu=J+1:=⟨fu-1,by omega⟩
  have:l=[]:=List.length_eq_zero_iff.mp H
  subst this;refine⟨B++[.lst []],fd,?_,kn.trans (Kn.ext kn.st Ext.one),yC D,by simp⟩
  unfold gA;have s:zh jC qd (qc zl) [some (.ref n),x,some (.ref p),some (.ref f)] B=.ok (.bl false) (B++[.lst []]):=(zX (zy (i:=2) rfl) (yf qW)).trans (Qu (l:=[]) (m:=[]) (yC r) jG);rw[s,zF]
 |succ k S=>
  intro fu l fd B H z X kn r D;obtain⟨fu,rfl⟩:∃J,fu=J+1:=⟨fu-1,by omega⟩
  have s:zh jC qd (qc zl) [some (.ref n),x,some (.ref p),some (.ref f)] B=.ok (.bl true) (B++[.lst []]):=by
   refine(zX (zy (i:=2) rfl) (yf qW)).trans ((Qu (m:=[]) (yC r) jG).trans ?_);have y:l≠[]:=λe=>by rw[e]at H;cases H
   rw[aK y]
   rfl
  have K:=kn.trans (Kn.ext kn.st (Ext.one (o:=.lst [])));have g1:=yC (u:=.lst []) r;have g2:=yC (u:=.lst []) D;generalize B++[O.lst []]=L at s K g1 g2;have E:mQ qR (qp qd) [some (.ref n),x,some (.ref p),some (.ref f)] L=.ok (.int (l.length:Int)) L:=by
   rw[yi (yW (w:=.ref p) (A1:=L) (ws:=l.map W.int) (zy rfl) (by unfold zV;dsimp only;rw[g1]))]
   unfold qR;rw[aj]
  obtain⟨q,P,e1,T,k2,_⟩:=Zs (ρ:=[some (.ref n),x,some (.ref p),some (.ref f)]) K.st rfl E (by omega) (by omega)
  have v:q<l.length:=by omega
  have d:=k2.kp.get g1 (by omega)
  have I:=k2.kp.get g2 (by omega)
  have hw:(l.map W.int)[q]? =some (.int l[q]):=by rw[av,aa v];rfl
  have N:=(Wf (g:=wO) (a:=qh 2) (zy rfl) g1 e1).trans (Od d hw (by omega))
  rw[Vj]at N;have c:(P.set p (.lst ((l.eraseIdx q).map W.int)))[f]? =some (.lst (fd.map W.int)):=by rw[aF h];exact I
  have M:=(Wf (g:=wd) (a:=qh 3) (zy rfl) g2 N).trans (R1 c (by rw[aj];omega))
  have C:fd.map W.int++[.int l[q]]=(fd++[l[q]]).map W.int:=by rw[ba];rfl
  rw[C]at M;have hlen:(l.eraseIdx q).length=k:=by rw[List.length_eraseIdx_of_lt v];omega
  have t:Kn n A ((P.set p (.lst ((l.eraseIdx q).map W.int))).set f (.lst ((fd++[l[q]]).map W.int))):=⟨((K.trans k2).kp.put U).put hf,((k2.st).put (by omega)).put (by omega)⟩
  obtain⟨j,b,Z,s4,a4,Q⟩:=S fu (l.eraseIdx q) (fd++[l[q]]) _ hlen (by omega) (by rw[aG,bf];omega) t
   (by rw[aF (Ne.symm h),aE (gr d)]) (by rw[aE (gr c)])
  refine⟨j,b,?_,s4,a4,Q.trans ?_⟩
  ·unfold gA
   rw[s,zF];dsimp only;have Y:=(zT (m2:=zE) (Um M)).trans kj;rw[Y,zF];exact Z
  ·rw[aN]
   exact List.Perm.append_left fd (XC (aa v)).symm
def VS {q:Nat}{l:bH}(s:qB n A)(h:A[q]? =some (.lst (l.map W.int)))(H:l.length<=100):∃(r:Nat) (B:Hx) (fd:bH),ZU [.ref n,.ref q] A=.ok (.ref r) B/\B[r]? =some (.lst (fd.map W.int))/\fd.Perm l/\Kn n A B/\A.length<=r:=by
 unfold ZU Ke;unfold GQ;have a:qg (qp zw) [some (.ref n),some (.ref q),none,none] A=.ok (.ref A.length) (A++[.lst (l.map W.int)]):=gq (yW (w:=.ref q) (zy rfl) (by unfold zV;dsimp only;rw[h]))
 have x0:Ext A (A++[.lst (l.map W.int)]++[.lst []]):=Ext.one.app;have hlen:(A++[O.lst (l.map W.int)]).length=A.length+1:=by simp
 have a2:(A++[.lst (l.map W.int)]++[.lst []])[A.length+1]? =some (.lst (([]:bH).map W.int)):=by rw[<- hlen];exact jG
 obtain⟨B,fd,E,kn,e,P⟩:=N4 (A:=A) (p:=A.length) (f:=A.length+1) (x:=some (.ref q)) (aw _) (by omega) s.lt (by omega) l.length 1000 l [] _ rfl (by omega) (by simp;omega) (Kn.ext s x0) (yC jG) a2
 refine⟨A.length+1,B,fd,jb ?_,e,by simpa using P,kn,by omega⟩
 refine(zT ((qP a).trans rfl)).trans ((zT (ρ1:=[some (.ref n),some (.ref q),some (.ref A.length),some (.ref (A.length+1))]) (A1:=A++[.lst (l.map W.int)]++[.lst []]) ?_).trans ((zT (m1:=WE 1000 _ _) E).trans (qI (jv (zy rfl)))));refine(qP (yf qW)).trans ?_;rw[hlen]
 rfl
end
noncomputable def dist (t:bG):bL:=(List.range 8).filter λi=>decide ((i:Int)∈t.flatten)
def kC (t:bG)(v:Int):Int:=((dist t).idxOf v.toNat:Nat)
def jU (t:bG):bG:=t.map λr=>r.map (kC t)
def QL:i∈dist t↔i<8/\(i:Int)∈t.flatten:=by
 unfold dist;rw[mem_filter,List.mem_range,ak]
def R6 (t:bG):(dist t).Nodup:=List.Pairwise.filter _ List.nodup_range
theorem Vi:∀{l:bH},(∀v∈l,0<=v/\v<8)->gW l=some (l.map Int.toNat)
 |[],_=>rfl|v::l,h=>by
  unfold gW;rw[ah (h v (ax ..)),Vi λx H=>h x (ai _ H)]
  rfl
theorem X8:∀{kws:List (Nat×List W)},(∀p∈kws,A[p.1]? =some (.lst p.2))->kK A (kws.map λ(p:Nat×List W)=>W.ref p.1)=some (kws.map (·.2))
 |[],_=>rfl|p::kws,h=>by
  show(match A[p.1]? with|some (.lst ws)=>(kK A (kws.map λ(p:Nat×List W)=>W.ref p.1)).map (ws::·)|_=>none)=_
  rw[h p (ax ..)];dsimp only;rw[X8 λx H=>h x (ai _ H)]
  rfl
theorem VY (v:Nat):∀{l:bL},v∈l->wR (λz=>PyData.eqv z (.int (v:Int))) (l.map λ(i:Nat)=>PyData.int (i:Int))=some (l.idxOf v)
 |[],h=>by cases h|a::l,h=>by
  rw[aV,wR,List.idxOf_cons]
  have:PyData.eqv (.int (a:Int)) (.int (v:Int))=(a==v):=by
   rw[PyData.eqv,Bool.eq_iff_iff];simp;omega
  rw[this]
  by_cases q:a=v
  ·subst q
   simp
  ·have Q:(a==v)=false:=by simp[q]
   rw[Q,ar (by simp)]
   rw[VY v ((bX.mp h).resolve_left (Ne.symm q))]
   rfl
def LL (t:bG)(r:Nat)(B:Hx):Prop:=∃k:bL,B[r]? =some (.lst (k.map W.ref))/\k.length=t.length/\∀i,i<t.length->B[k.getD i 0]? =some (.lst ((t.getD i []).map W.int))
def K5 {m:Ev}(h:m ρ A=.ok (.ref k) A)(a:A[k]? =some (.lst ws))(l:ws.length<=z8){g:W->W}(he:∀w∈ws,me (some w::cap.map λi=>(ρ[i]?).join) A=.ok (g w) A):
  zQ 1 cap (qt m) (zI 0) zW (zM me) ρ A=.ok (ws.map g) A:=by
 have e:=Zo (cap:=cap) (me:=me) (ρ:=ρ) (A:=A) (N:=ws.length) (item:=λi=>ws.getD i .non) (g:=λi=>g (ws.getD i .non)) (J9 h a) rfl l
  (λi H=>(gX a).trans (by rw[aa H,ae,aa H];rfl))
  ((gX a).trans (by rw[aH (aw _)]))
  (λi H=>by
   have:ws.getD i .non=ws[i]:=by rw[ae,aa H];rfl
   rw[this];exact he _ (aO H))
 rw[e]
 congr 1
 apply bF
 ·simp
 ·intro i c b
  have H:i<ws.length:=by simpa using b
  simp[ae,aa H]
noncomputable def TQ (f:Int->Int):W->W
 |.int v=>.int (f v)|w=>w
def Mp (f:Int->Int)(l:bH):(l.map W.int).map (TQ f)=(l.map f).map W.int:=by
 rw[aP,aP];rfl
section
variable {r:Nat}
def PL (l:t.length<=8)(L:LL t r B)(h0:ρ[i]? =some (some (.ref r))):qg (zQ 1 [] (qt (qh i)) (zI 0) zW (zM (qg (qp zp)))) ρ B=
  .ok (.ref (B.length+t.length)) (B++(t.map λr=>O.lst (r.map W.int))++[O.lst ((List.range t.length).map λi=>W.ref (B.length+i))]):=by
 obtain⟨k,E,d,g⟩:=L;obtain⟨b,f,n,e,⟨z,g1⟩,g2,g3⟩:=JM (nl:=1) (cap:=[]) (tw:=zI 0) (ifs:=zH (.bl true)) (em:=zM (qg (qp zp))) (ρ:=ρ) (A:=B) (N:=t.length)
  (I:=λp b a C=>(∃z,b=[z])/\C=B++((t.take p).map λr=>O.lst (r.map W.int))/\a=(List.range p).map λi=>W.ref (B.length+i)) (J9 (zy h0) E) (by simp[d])
  (λp b a C H ⟨⟨z,f1⟩,f2,j⟩=>by
   subst f1 f2 j;have x:Ext B (B++((t.take p).map λr=>O.lst (r.map W.int))):=⟨_,rfl⟩;have h:=x.at (g p H);have c:t.getD p []=t[p]:=by rw[ae,aa H];rfl
   rw[c]at h;refine⟨.ref (k.getD p 0),[some (.ref (k.getD p 0))],?_,rfl,.inl ⟨_,_,_,_,rfl,JW (gq (yW (w:=.ref (k.getD p 0)) (ws:=t[p].map W.int) (zy rfl) (by unfold zV;dsimp only;rw[h]))) ?_,⟨_,rfl⟩,?_,?_⟩⟩
   ·refine(gX (x.at E)).trans ?_
    rw[av,ae,aa (by omega)];rfl
   ·simp;unfold z8;omega
   ·rw[take_succ H,ba,aN];rfl
   ·rw[range_succ,ba,aG,aj,bw,Nat.min_eq_left (bg H)];rfl)
  (λb a C ⟨_,f2,_⟩=>by
   subst f2;exact(gX (Ext.at ⟨_,rfl⟩ E)).trans (by rw[aH (by simp[d])])) ⟨⟨none,rfl⟩,by simp,by simp⟩
 rw[gq e,g2,g3,take_length];simp
def LL.mono (x:Ext A B)(h:LL t r A):LL t r B:=by
 obtain⟨k,e,a,H⟩:=h;exact⟨k,x.at e,a,λi b=>x.at (H i b)⟩
def V7 (Z:1<=t.length)(I:t.length<=8)(D:Sq t)(q:∀v∈t.flatten,0<=v/\v<8)(L:LL t r A):∃B,Zn [.ref r] A=.ok (zU (jU t)) B/\Ext A B:=by
 have Y:t.flatten.length<=64:=by
  have:∀l:bG,(∀r∈l,r.length<=8)->l.flatten.length<=8 * l.length:=by
   intro l
   induction l with
   |nil=>intro _;simp|cons r l S=>
    intro e;have Z:=e r (ax ..);have h2:=S λQ s=>e Q (ai _ s);rw[aR,aG,bp];omega
  have:=this t λr e=>by rw[D r e];exact I
  omega
 unfold Zn Kx;unfold Xc;have P:=PL (ρ:=[some (.ref r),none]) (i:=0) I L rfl;have X:Ext A (A++(t.map λr=>O.lst (r.map W.int))++[O.lst ((List.range t.length).map λi=>W.ref (A.length+i))]):=⟨(t.map λr=>O.lst (r.map W.int))++[O.lst ((List.range t.length).map λi=>W.ref (A.length+i))],by rw[aN]⟩
 have a:∀i,i<t.length->_:=λi C=>VJ (B:=A) (t:=t) (i:=i) C;have H:=VC (B:=A) (t:=t);generalize A++(t.map λr=>O.lst (r.map W.int))++[O.lst ((List.range t.length).map λi=>W.ref (A.length+i))]=b at P X a H;have M:zh gy (qg (zQ 1 [] (qt zp) (zI 0) zW (zM (qg (qp zp))))) (qc zl) [some (.ref r),none] A=.ok (.ref (b.length+1)) (b++[.lst []]++[.lst (t.flatten.map W.int)]):=by
  refine(zX P (yf qW)).trans ?_;have n:=X8 (A:=b++[.lst []]) (kws:=(List.range t.length).map λi=>(A.length+i,(t.getD i []).map W.int)) (λp T=>by
   obtain⟨i,C,rfl⟩:=bZ.mp T;exact yC (a i (b8.mp C)))
  rw[aP,aP]at n;have y:((λp:Nat×List W=>W.ref p.1) ∘ λi=>(A.length+i,(t.getD i []).map W.int))=λi=>W.ref (A.length+i):=rfl;have x:((λp:Nat×List W=>p.2) ∘ λi=>(A.length+i,(t.getD i []).map W.int))=λi=>(t.getD i []).map W.int:=rfl;rw[y,x,<- ZV t [] λr=>r.map W.int]at n;have hf:(t.map λr=>r.map W.int).flatten=t.flatten.map W.int:=by rw[List.map_flatten]
  unfold gy;dsimp only;rw[yC H,jG];dsimp only;rw[n];dsimp only;rw[ah ⟨λz=>(by have:=congrArg List.length z;rw[aj,bA]at this;exact absurd this (by rw[length_nil];omega)),by rw[hf,aj];unfold z8;omega⟩,hf]
  simp
 have x2:Ext A (b++[.lst []]++[.lst (t.flatten.map W.int)]):=X.app.app;have f:(b++[.lst []]++[.lst (t.flatten.map W.int)])[b.length+1]? =some (.lst (t.flatten.map W.int)):=by
  have:b.length+1=(b++[O.lst []]).length:=by simp
  rw[this,jG]
 generalize b++[.lst []]++[.lst (t.flatten.map W.int)]=c at M x2 f;have J:JT (zh gy (qg (zQ 1 [] (qt zp) (zI 0) zW (zM (qg (qp zp))))) (qc zl)) [some (.ref r),none] A=.ok (.ref c.length) (c++[.lst (((dist t).map λ(i:Nat)=>(i:Int)).map W.int)]):=by
  unfold JT;rw[M,zF];unfold Wa;dsimp only;rw[f];dsimp only;rw[JJ];dsimp only;rw[Vi q];dsimp only
  have:((List.range 8).filter λi=>decide (i∈t.flatten.map Int.toNat))=dist t:=by
   unfold dist
   apply List.filter_congr
   intro i _;rw[decide_eq_decide]
   constructor
   ·intro z
    obtain⟨v,h,rfl⟩:=bZ.mp z;rw[bx (q v h).1];exact h
   ·intro z
    exact bZ.mpr ⟨_,z,rfl⟩
  rw[this,aP]
  rfl
 have x3:=x2.app (l:=[.lst (((dist t).map λ(i:Nat)=>(i:Int)).map W.int)]);have d:(c++[.lst (((dist t).map λ(i:Nat)=>(i:Int)).map W.int)])[c.length]? =some (.lst (((dist t).map λ(i:Nat)=>(i:Int)).map W.int)):=jG;generalize c++[.lst (((dist t).map λ(i:Nat)=>(i:Int)).map W.int)]=k at J x3 d;obtain⟨K,k0,E,e⟩:=LL.mono x3 L;refine⟨k,jb ((zT ((qP J).trans rfl)).trans (qI (jv ?_))),x3⟩;have idx:∀v,v∈t.flatten->wM (.ref c.length) (.int v) k=.ok (.int (kC t v)) k:=λv h=>by
  obtain⟨u,rfl⟩:=aX (q v h).1;have hm:u∈dist t:=QL.mpr ⟨by have:=q _ h;omega,h⟩
  unfold wM;rw[Wy d];show(match wR (λz=>PyData.eqv z (.int (u:Int))) (((dist t).map λ(i:Nat)=>(i:Int)).map PyData.int) with|some j=>if j<1000000 then R.ok (W.int (j:Int)) k else .bad|none=>.bad)=_
  have:((dist t).map λ(i:Nat)=>(i:Int)).map PyData.int=(dist t).map λ(i:Nat)=>PyData.int (i:Int):=by rw[aP];rfl
  rw[this,VY u hm];dsimp only;have n:(dist t).idxOf u<(dist t).length:=List.idxOf_lt_length_of_mem hm;have U:(dist t).length<=8:=by unfold dist;exact a8 (List.length_filter_le _ _) (by simp)
  rw[ah (by omega)]
  rfl
 have ec:=Zo (cap:=[1]) (me:=mQ yS (zQ 1 [1] (qt zp) (zI 0) zW (zM (yO wM zw zp)))) (ρ:=[some (.ref r),some (.ref c.length)]) (A:=k) (N:=t.length) (item:=λi=>.ref (K.getD i 0)) (g:=λi=>zR ((t.getD i []).map (kC t))) (J9 (zy (i:=0) rfl) k0) (by simp[E]) (by unfold z8;omega)
  (λj o=>(gX k0).trans (by rw[av,ae,aa (by omega)];rfl)) ((gX k0).trans (by rw[aH (by simp[E])]))
  (λj o=>by
   have:=K5 (cap:=[1]) (m:=qh 0) (me:=yO wM zw zp) (ρ:=[some (.ref (K.getD j 0)),some (.ref c.length)]) (g:=TQ (kC t)) (zy rfl) (e j o) (by rw[aj,D _ (kI o)];unfold z8;omega) (λw hw=>by
    obtain⟨v,h,rfl⟩:=bZ.mp hw;exact(Wf (g:=wM) (zy rfl) d (zy (i:=0) rfl)).trans (idx v (List.mem_flatten.mpr ⟨_,kI o,h⟩)))
   rw[Mp]at this;exact Qg this)
 refine(Qg ec).trans ?_;unfold zU jU;rw[aP,ZV t [] (zR ∘ λr=>r.map (kC t))]
 rfl
def OH (S:1<=t.length)(Q:t.length<=8)(o:Sq t)(dg:∀a b,a<t.length->b<t.length->(at2 t a b=0↔a=b))(sy:∀a b,a<t.length->b<t.length->at2 t a b=at2 t b a)
  (lo:∀a b,a<t.length->b<t.length->0<=at2 t a b/\at2 t a b<(t.length:Int)):qG (jU t):=by
 have w:∀v∈t.flatten,0<=v/\v<(t.length:Int):=λv n=>by
  obtain⟨a,b,f,w,rfl⟩:=Zu o n;exact lo a b f w
 have hlen:(jU t).length=t.length:=by unfold jU;rw[aj]
 have q:∀r∈jU t,r.length=t.length:=λr g=>by
  obtain⟨s,E,rfl⟩:=bZ.mp g;rw[aj];exact o s E
 have j:∀a b,a<t.length->b<t.length->at2 (jU t) a b=kC t (at2 t a b):=λa b f w=>by
  have z:=o _ (kI f);unfold at2 jU;rw[ae (l:=t.map _),av,aa f];have e:t.getD a []=t[a]:=by rw[ae,aa f];rfl
  rw[e]at z ⊢;show(t[a].map (kC t)).getD b 0=_;rw[ae,av,ae,aa (by omega)]
  rfl
 have mem:∀a b,a<t.length->b<t.length->(at2 t a b).toNat∈dist t:=λa b f H=>by
  obtain⟨_,_,_,x⟩:=J3 o f H
  have:=w _ x
  rw[QL,bx this.1];exact⟨by omega,x⟩
 have nd:=R6 t;have dl:(dist t).length<=t.length:=by
  have:=WC t.length ((dist t).map λ(i:Nat)=>(i:Int)) (by
   rw[List.nodup_iff_pairwise_ne,List.pairwise_map];exact nd.imp λh=>by omega) (λr g=>by
   obtain⟨i,I,rfl⟩:=bZ.mp g
   have:=w _ (QL.mp I).2
   exact this)
  rw[aj]at this;exact this
 have Z:(0:Nat)∈dist t:=by
  have:=mem 0 0 (by omega) (by omega)
  rw[(dg 0 0 (by omega) (by omega)).mpr rfl]at this
  exact this
 have N:∃l,dist t=0::l:=by
  have g:List.range 8=0::[1,2,3,4,5,6,7]:=by decide
  have D:=(QL.mp Z).2;refine⟨[1,2,3,4,5,6,7].filter λi=>decide ((i:Int)∈t.flatten),?_⟩;unfold dist;rw[g,List.filter_cons_of_pos (by exact aC D)]
 obtain⟨P,u⟩:=N;have y:∀a b,a<t.length->b<t.length->0<=kC t (at2 t a b)/\kC t (at2 t a b)<(t.length:Int):=λa b f H=>by
  have:=List.idxOf_lt_length_of_mem (mem a b f H)
  unfold kC;omega
 refine⟨by omega,by omega,λr g=>by rw[hlen];exact q r g,λr g v n=>?_,λa b f H=>?_,λa b f H=>?_,λk C=>?_⟩
 ·have:v∈(jU t).flatten:=List.mem_flatten.mpr ⟨r,g,n⟩
  obtain⟨a,b,f,H,e⟩:=Zu (λr g=>by rw[hlen];exact q r g) this
  rw[hlen]at f H ⊢;rw[<- e,j a b f H];exact y a b f H
 ·rw[hlen]at f H
  rw[j a b f H,<- dg a b f H];unfold kC;have m:=mem a b f H;have n:=lo a b f H
  constructor
  ·intro e
   have M:(dist t).idxOf (at2 t a b).toNat=0:=by omega
   have A:=List.idxOf_lt_length_of_mem m
   have:=List.getElem_idxOf A
   have h0:(dist t)[(dist t).idxOf (at2 t a b).toNat]? =some (at2 t a b).toNat:=by rw[aa A,this]
   rw[M,u]at h0;simp at h0;omega
  ·intro e
   rw[e,u];simp
 ·rw[hlen]at f H
  rw[j a b f H,j b a H f,sy a b f H]
 ·obtain⟨v,n,C⟩:=C
  obtain⟨a,b,f,H,e⟩:=Zu (λr g=>by rw[hlen];exact q r g) n
  rw[hlen]at f H;rw[j a b f H]at e;have A:=List.idxOf_lt_length_of_mem (mem a b f H);have p:k<(dist t).length:=by unfold kC at e;omega
  have hd:=QL.mp (aO p);obtain⟨c,d,J,B,L⟩:=Zu o hd.2;have K:at2 (jU t) c d=(k:Int):=by
   rw[j c d J B,L];unfold kC;rw[aL,nd.idxOf_getElem k p]
  obtain⟨_,_,_,x⟩:=J3 (t:=jU t) (λr g=>by rw[hlen];exact q r g) (by omega:c<(jU t).length) (by omega:d<(jU t).length)
  rw[K]at x;exact x
end
noncomputable def yI:Nat->List (bH)
 |0=>[[0,1,2,3,4,3,2,1],[1,0,1,2,3,4,3,2],[2,1,0,1,2,3,4,3],[3,2,1,0,1,2,3,4],[4,3,2,1,0,1,2,3],[3,4,3,2,1,0,1,2],[2,3,4,3,2,1,0,1],[1,2,3,4,3,2,1,0]]|1=>[[0,1,2,3,3,2,1],[1,0,1,2,3,3,2],[2,1,0,1,2,3,3],[3,2,1,0,1,2,3],[3,3,2,1,0,1,2],[2,3,3,2,1,0,1],[1,2,3,3,2,1,0]]|2=>[[0,1,2,3,2,1],[1,0,1,2,3,2],[2,1,0,1,2,3],[3,2,1,0,1,2],[2,3,2,1,0,1],[1,2,3,2,1,0]]|3=>[[0,1,2,2,1],[1,0,1,2,2],[2,1,0,1,2],[2,2,1,0,1],[1,2,2,1,0]]|4=>[[0,1,2,1],[1,0,1,2],[2,1,0,1],[1,2,1,0]]|5=>[[0,1,1],[1,0,1],[1,1,0]]|6=>[[0,1],[1,0]]|7=>[[0]]|8=>[[0,1,1,2,1,2,2,3],[1,0,2,1,2,1,3,2],[1,2,0,1,2,3,1,2],[2,1,1,0,3,2,2,1],[1,2,2,3,0,1,1,2],[2,1,3,2,1,0,2,1],[2,3,1,2,1,2,0,1],[3,2,2,1,2,1,1,0]]|9=>[[0,1,1,2],[1,0,2,1],[1,2,0,1],[2,1,1,0]]|10=>[[0,1],[1,0]]|11=>[[0,1,1,1,1,1,1,1],[1,0,1,1,1,1,1,1],[1,1,0,1,1,1,1,1],[1,1,1,0,1,1,1,1],[1,1,1,1,0,1,1,1],[1,1,1,1,1,0,1,1],[1,1,1,1,1,1,0,1],[1,1,1,1,1,1,1,0]]|12=>[[0,1,1,1,1,1,1],[1,0,1,1,1,1,1],[1,1,0,1,1,1,1],[1,1,1,0,1,1,1],[1,1,1,1,0,1,1],[1,1,1,1,1,0,1],[1,1,1,1,1,1,0]]|13=>[[0,1,1,1,1,1],[1,0,1,1,1,1],[1,1,0,1,1,1],[1,1,1,0,1,1],[1,1,1,1,0,1],[1,1,1,1,1,0]]|14=>[[0,1,1,1,1],[1,0,1,1,1],[1,1,0,1,1],[1,1,1,0,1],[1,1,1,1,0]]|15=>[[0,1,1,1],[1,0,1,1],[1,1,0,1],[1,1,1,0]]|16=>[[0,1,1],[1,0,1],[1,1,0]]|17=>[[0,1],[1,0]]|18=>[[0]]|19=>[[0,1,2,2,2,2,2,2],[1,0,2,2,2,2,2,2],[2,2,0,1,2,2,2,2],[2,2,1,0,2,2,2,2],[2,2,2,2,0,1,2,2],[2,2,2,2,1,0,2,2],[2,2,2,2,2,2,0,1],[2,2,2,2,2,2,1,0]]|20=>[[0,1,1,1,2,2,2,2],[1,0,1,1,2,2,2,2],[1,1,0,1,2,2,2,2],[1,1,1,0,2,2,2,2],[2,2,2,2,0,1,1,1],[2,2,2,2,1,0,1,1],[2,2,2,2,1,1,0,1],[2,2,2,2,1,1,1,0]]|21=>[[0,1,2,2,2,2],[1,0,2,2,2,2],[2,2,0,1,2,2],[2,2,1,0,2,2],[2,2,2,2,0,1],[2,2,2,2,1,0]]|22=>[[0,1,1,2,2,2],[1,0,1,2,2,2],[1,1,0,2,2,2],[2,2,2,0,1,1],[2,2,2,1,0,1],[2,2,2,1,1,0]]|23=>[[0,1,2,2],[1,0,2,2],[2,2,0,1],[2,2,1,0]]|24=>[[0,1,1,1,1,2],[1,0,1,1,2,1],[1,1,0,2,1,1],[1,1,2,0,1,1],[1,2,1,1,0,1],[2,1,1,1,1,0]]|25=>[[0,1,2,3],[1,0,3,2],[2,3,0,1],[3,2,1,0]]|26=>[[0,1,2,3,4,5,6,7],[1,0,3,2,5,4,7,6],[2,3,0,1,6,7,4,5],[3,2,1,0,7,6,5,4],[4,5,6,7,0,1,2,3],[5,4,7,6,1,0,3,2],[6,7,4,5,2,3,0,1],[7,6,5,4,3,2,1,0]]|27=>[[0,1],[1,0]]|28=>[[0,1,2,1,3,4,5,4],[1,0,1,2,4,3,4,5],[2,1,0,1,5,4,3,4],[1,2,1,0,4,5,4,3],[3,4,5,4,0,1,2,1],[4,3,4,5,1,0,1,2],[5,4,3,4,2,1,0,1],[4,5,4,3,1,2,1,0]]|29=>[[0,1,1,3,4,4],[1,0,1,4,3,4],[1,1,0,4,4,3],[3,4,4,0,1,1],[4,3,4,1,0,1],[4,4,3,1,1,0]]|30=>[[0,1,3,4],[1,0,4,3],[3,4,0,1],[4,3,1,0]]|31=>[[0,1,2,1,3,3,3,3],[1,0,1,2,3,3,3,3],[2,1,0,1,3,3,3,3],[1,2,1,0,3,3,3,3],[3,3,3,3,0,1,2,1],[3,3,3,3,1,0,1,2],[3,3,3,3,2,1,0,1],[3,3,3,3,1,2,1,0]]|32=>[[0,1,1,3,3,3],[1,0,1,3,3,3],[1,1,0,3,3,3],[3,3,3,0,1,1],[3,3,3,1,0,1],[3,3,3,1,1,0]]|33=>[[0,1,3,3],[1,0,3,3],[3,3,0,1],[3,3,1,0]]|_=>[]
def HU:((List.range 34).all λi=>Gk (jU (yI i))&&((yI i).all λr=>r.length==(yI i).length)&&((yI i).flatten.all λv=>decide (0<=v)&&decide (v<8)))=true:=by decide +kernel
def MK (h:i<34):qG (jU (yI i))/\G.Sq (yI i)/\∀v∈(yI i).flatten,0<=v/\v<8:=by
 have:=b9.mp HU i (b8.mpr h)
 rw[aq,aq]at this;refine⟨VW this.1.1,λr a=>?_,λv H=>?_⟩
 ·exact eq_of_beq (b9.mp this.1.2 r a)
 ·have:=b9.mp this.2 v H
  rw[aq,ak,ak]at this;exact this
theorem VQ:∀{us:List W}{w:List (List W)},kK A us=some w->∃K:bL,us=K.map W.ref/\K.length=w.length/\∀i,i<w.length->A[K.getD i 0]? =some (.lst (w.getD i []))
 |[],w,e=>by
  cases e;exact⟨[],rfl,rfl,λi H=>by cases H⟩
 |.ref k::us,w,e=>by
  unfold kK at e;cases h:A[k]? with
  |none=>rw[h]at e;cases e|some o=>
   rw[h]at e;cases o with
   |lst ws=>
    dsimp only at e;cases a:kK A us with
    |none=>rw[a]at e;cases e|some v=>
     rw[a]at e;cases e;obtain⟨K,rfl,l,b⟩:=VQ a;refine⟨k::K,rfl,by simp[l],λi H=>?_⟩
     cases i with
     |zero=>exact h|succ i=>exact b i (by simpa using H)
   |_=>cases e
 |.non::_,_,e=>by cases e|.bl _::_,_,e=>by cases e|.int _::_,_,e=>by cases e|.str _::_,_,e=>by cases e|.tup _::_,_,e=>by cases e|.clo _ _ _::_,_,e=>by cases e|.xc _::_,_,e=>by cases e
def W5 (x:R Fl):Option (Option O×Option (List (List W))):=match x with
 |.ok (.rt (.ref r)) B=>some (B[0]?,match B[r]? with
  |some (.lst us)=>kK B us|_=>none)
 |_=>none
def M7 {x:R Fl}(h:W5 x=some (some o,some (t.map λr=>r.map W.int))):∃r B,x=.ok (.rt (.ref r)) B/\B[0]? =some o/\LL t r B:=by
 unfold W5 at h
 split at h
 ·rename_i r B
  injection h with h
  injection h with c H
  cases a:B[r]? with
  |none=>rw[a]at H;cases H|some o'=>
   rw[a]at H;cases o' with
   |lst us=>
    dsimp only at H;obtain⟨K,rfl,l,k⟩:=VQ H;rw[aj]at l k;refine⟨r,B,rfl,c,K,a,l,λi b=>(k i b).trans ?_⟩;rw[ae,av,ae,aa b]
    rfl
   |_=>cases H
 ·cases h
def Plain (X:Ex)(ρ:En)(A:Hx):Prop:=∃i,i<34/\∃r B,X ρ A=.ok (.rt (.ref r)) B/\qB 0 B/\LL (yI i) r B
section
variable {m1 m2:Ex}{ρ1:En}{L:Hx}{c:Ev}
def kN (h:m1 ρ A=.ok (.nx ρ1) A1)(q:Plain m2 ρ1 A1):Plain (zq m1 m2) ρ A:=by
 unfold Plain;rw[zT h];exact q
def Qn (q:Plain m1 ρ A):Plain (zq m1 m2) ρ A:=by
 obtain⟨i,h,r,B,e,s,l⟩:=q;exact⟨i,h,r,B,qI e,s,l⟩
def Qq (h:c ρ A=.ok (.bl true) A1)(q:Plain m1 ρ A1):Plain (qO c m1 m2) ρ A:=by
 unfold Plain;rw[wV h];exact q
def jz {m:Ex}(h:c ρ A=.ok (.bl false) A)(q:Plain m ρ A):Plain (zq (qO c m1 zE) m) ρ A:=kN ((yh h).trans kj) q
def Ii {l:Hx}(s:qB 0 (o::L)):qB 0 (o::l):=s
def qX (i:Nat)(H:i<34)(s:qB 0 (o::L))(h:W5 (m1 ρ A)=some (some o,some ((yI i).map λr=>r.map W.int))):Plain m1 ρ A:=by
 obtain⟨r,B,e,h0,l⟩:=M7 h;obtain⟨c,b,a,q⟩:=s;have E:some o=some (O.lst [.int c,.bl b]):=a;exact⟨i,H,r,B,e,⟨c,b,by rw[h0];exact E,q⟩,l⟩
def take1 (s:qB 0 (o::L)){m:Int}(H:0<m)(h:m<1000000000000000):∃(r:Nat) (o':O),j0 [.ref 0,.int m] (o::L)=.ok (.int (r:Int)) (o'::L)/\(r:Int)<m/\qB 0 (o'::L):=by
 obtain⟨r,o',e,a,b,s'⟩:=Uy s H h;exact⟨r.toNat,o',by rw[e,bx a];rfl,by omega,s'⟩
def Z3 {a:Ea}{vs:List W}(s:qB 0 (o::L))(h0:ρ[0]? =some (some (.ref 0)))(b:∀A,a ρ A=.ok vs A)(d:vs.length=k)(k1:0<k)(k2:k<1000):∃(j:Nat) (w:W) (o':O),zh zG (qc a) (zK j0 (zc zp (zc (zH (.int (k:Int))) zl))) ρ (o::L)=.ok w (o'::(L++[.lst vs]))/\j<k/\vs[j]? =some w/\qB 0 (o'::(L++[.lst vs])):=by
 obtain⟨r,o',e,c,s'⟩:=take1 (L:=L++[.lst vs]) (m:=(k:Int)) (Ii s) (by omega) (by omega)
 have h:r<vs.length:=by omega
 refine⟨r,vs[r],o',?_,by omega,aa h,s'⟩
 refine(zX (yf (b _)) ((qV (qF (zy h0) (qF jm qW))).trans e)).trans ?_;have H:(o'::(L++[O.lst vs]))[(o::L).length]? =some (.lst vs):=by
  show(L++[O.lst vs])[L.length]? =_;exact jG
 exact gv H (aa h)
end
def three (h:j<3):j=0∨j=1∨j=2:=by omega
def W7 (h:j<5):j=0∨j=1∨j=2∨j=3∨j=4:=by omega
def WO (h:j<8):j=0∨j=1∨j=2∨j=3∨j=4∨j=5∨j=6∨j=7:=by omega
def Lb (s:qB 0 [o]):Plain (Kz j0) [some (.ref 0),none,none,none,none,none,none,none,none,none,none] [o]:=by
 unfold Kz;obtain⟨way,p,n,hw,s1⟩:=take1 s (m:=8) (by decide) (by decide)
 refine kN (ρ1:=[some (.ref 0),some (.int (way:Int)),none,none,none,none,none,none,none,none,none]) (A1:=[p]) ((qP ((qV (ws:=[.ref 0,.int 8]) (A1:=[o]) rfl).trans n)).trans rfl) ?_;obtain⟨j,w,c,E,l,f,s2⟩:=Z3 (k:=8) (ρ:=[some (.ref 0),some (.int (way:Int)),none,none,none,none,none,none,none,none,none]) (a:=zc wB (zc YS (zc Gr (zc Y9 (zc y9 (zc qT (zc qi (zc zL zl)))))))) (vs:=[.int 8,.int 7,.int 6,.int 5,.int 4,.int 3,.int 2,.int 1]) s1 rfl (λ_=>rfl) rfl (by decide) (by decide)
 refine kN (ρ1:=[some (.ref 0),some (.int (way:Int)),some w,none,none,none,none,none,none,none,none]) (A1:=[c,.lst [.int 8,.int 7,.int 6,.int 5,.int 4,.int 3,.int 2,.int 1]]) ((qP E).trans rfl) ?_;have y:way<8:=by omega
 clear n E hw s s1;rcases WO y with rfl|rfl|rfl|rfl|rfl|rfl|rfl|rfl
 ·refine Qn (Qq (A1:=[c,.lst [.int 8,.int 7,.int 6,.int 5,.int 4,.int 3,.int 2,.int 1]]) (by kernel_rfl) ?_)
  rcases WO l with rfl|rfl|rfl|rfl|rfl|rfl|rfl|rfl<;>cases f
  ·exact qX 0 (by decide) s2 (by kernel_rfl)
  ·exact qX 1 (by decide) s2 (by kernel_rfl)
  ·exact qX 2 (by decide) s2 (by kernel_rfl)
  ·exact qX 3 (by decide) s2 (by kernel_rfl)
  ·exact qX 4 (by decide) s2 (by kernel_rfl)
  ·exact qX 5 (by decide) s2 (by kernel_rfl)
  ·exact qX 6 (by decide) s2 (by kernel_rfl)
  ·exact qX 7 (by decide) s2 (by kernel_rfl)
 ·refine jz (by kernel_rfl) (Qn (Qq (A1:=[c,.lst [.int 8,.int 7,.int 6,.int 5,.int 4,.int 3,.int 2,.int 1]]) (by kernel_rfl) ?_))
  obtain⟨J,g,i,e,b,H,s3⟩:=Z3 (k:=3) (ρ:=[some (.ref 0),some (.int ((1:Nat):Int)),some w,none,none,none,none,none,none,none,none]) (a:=zc wB (zc y9 (zc qi zl))) (vs:=[.int 8,.int 4,.int 2]) s2 rfl (λ_=>rfl) rfl (by decide) (by decide)
  refine kN ((qP e).trans rfl) ?_;rcases three b with rfl|rfl|rfl<;>cases H
  ·exact qX 8 (by decide) s3 (by kernel_rfl)
  ·exact qX 9 (by decide) s3 (by kernel_rfl)
  ·exact qX 10 (by decide) s3 (by kernel_rfl)
 ·refine jz (by kernel_rfl) (jz (by kernel_rfl) (Qn (Qq (A1:=[c,.lst [.int 8,.int 7,.int 6,.int 5,.int 4,.int 3,.int 2,.int 1]]) (by kernel_rfl) ?_)))
  rcases WO l with rfl|rfl|rfl|rfl|rfl|rfl|rfl|rfl<;>cases f
  ·exact qX 11 (by decide) s2 (by kernel_rfl)
  ·exact qX 12 (by decide) s2 (by kernel_rfl)
  ·exact qX 13 (by decide) s2 (by kernel_rfl)
  ·exact qX 14 (by decide) s2 (by kernel_rfl)
  ·exact qX 15 (by decide) s2 (by kernel_rfl)
  ·exact qX 16 (by decide) s2 (by kernel_rfl)
  ·exact qX 17 (by decide) s2 (by kernel_rfl)
  ·exact qX 18 (by decide) s2 (by kernel_rfl)
 ·refine jz (by kernel_rfl) (jz (by kernel_rfl) (jz (by kernel_rfl) (Qn (Qq (A1:=[c,.lst [.int 8,.int 7,.int 6,.int 5,.int 4,.int 3,.int 2,.int 1]]) (by kernel_rfl) ?_))))
  obtain⟨J,g,i,e,b,H,s3⟩:=Z3 (k:=5) (ρ:=[some (.ref 0),some (.int ((3:Nat):Int)),some w,none,none,none,none,none,none,none,none]) (a:=zc (zA (zc qi (zc y9 zl))) (zc (zA (zc y9 (zc qi zl))) (zc (zA (zc qi (zc qT zl))) (zc (zA (zc qT (zc qi zl))) (zc (zA (zc qi (zc qi zl))) zl))))) (vs:=[.tup [.int 2,.int 4],.tup [.int 4,.int 2],.tup [.int 2,.int 3],.tup [.int 3,.int 2],.tup [.int 2,.int 2]]) s2 rfl (λ_=>rfl) rfl (by decide) (by decide)
  have asg:∀{m:Ev}{tw:Tg}{ρ d:En}{A A1:Hx}{w:W},m ρ A=.ok w A1->tw w ρ=some d->YN m tw ρ A=.ok (.nx d) A1:=λh h'=>by
   unfold YN;rw[h,zF,h']
  rcases W7 b with rfl|rfl|rfl|rfl|rfl<;>cases H
  ·exact kN (asg e rfl) (qX 19 (by decide) s3 (by kernel_rfl))
  ·exact kN (asg e rfl) (qX 20 (by decide) s3 (by kernel_rfl))
  ·exact kN (asg e rfl) (qX 21 (by decide) s3 (by kernel_rfl))
  ·exact kN (asg e rfl) (qX 22 (by decide) s3 (by kernel_rfl))
  ·exact kN (asg e rfl) (qX 23 (by decide) s3 (by kernel_rfl))
 ·exact jz (by kernel_rfl) (jz (by kernel_rfl) (jz (by kernel_rfl) (jz (by kernel_rfl) (Qn (Qq (A1:=[c,.lst [.int 8,.int 7,.int 6,.int 5,.int 4,.int 3,.int 2,.int 1]]) (by kernel_rfl) (qX 24 (by decide) s2 (by kernel_rfl)))))))
 ·refine jz (by kernel_rfl) (jz (by kernel_rfl) (jz (by kernel_rfl) (jz (by kernel_rfl) (jz (by kernel_rfl) (Qn (Qq (A1:=[c,.lst [.int 8,.int 7,.int 6,.int 5,.int 4,.int 3,.int 2,.int 1]]) (by kernel_rfl) ?_))))))
  obtain⟨J,g,i,e,b,H,s3⟩:=Z3 (k:=3) (ρ:=[some (.ref 0),some (.int ((5:Nat):Int)),some w,none,none,none,none,none,none,none,none]) (a:=zc y9 (zc wB (zc qi zl))) (vs:=[.int 4,.int 8,.int 2]) s2 rfl (λ_=>rfl) rfl (by decide) (by decide)
  refine kN ((qP e).trans rfl) ?_;rcases three b with rfl|rfl|rfl<;>cases H
  ·exact qX 25 (by decide) s3 (by kernel_rfl)
  ·exact qX 26 (by decide) s3 (by kernel_rfl)
  ·exact qX 27 (by decide) s3 (by kernel_rfl)
 ·refine jz (by kernel_rfl) (jz (by kernel_rfl) (jz (by kernel_rfl) (jz (by kernel_rfl) (jz (by kernel_rfl) (jz (by kernel_rfl) ?_)))))
  obtain⟨J,g,i,e,b,H,s3⟩:=Z3 (k:=3) (ρ:=[some (.ref 0),some (.int ((6:Nat):Int)),some w,none,none,none,none,none,none,none,none]) (a:=zc y9 (zc qT (zc qi zl))) (vs:=[.int 4,.int 3,.int 2]) s2 rfl (λ_=>rfl) rfl (by decide) (by decide)
  refine kN ((qP e).trans rfl) ?_;rcases three b with rfl|rfl|rfl<;>cases H
  ·exact qX 28 (by decide) s3 (by kernel_rfl)
  ·exact qX 29 (by decide) s3 (by kernel_rfl)
  ·exact qX 30 (by decide) s3 (by kernel_rfl)
 ·refine jz (by kernel_rfl) (jz (by kernel_rfl) (jz (by kernel_rfl) (jz (by kernel_rfl) (jz (by kernel_rfl) (jz (by kernel_rfl) ?_)))))
  obtain⟨J,g,i,e,b,H,s3⟩:=Z3 (k:=3) (ρ:=[some (.ref 0),some (.int ((7:Nat):Int)),some w,none,none,none,none,none,none,none,none]) (a:=zc y9 (zc qT (zc qi zl))) (vs:=[.int 4,.int 3,.int 2]) s2 rfl (λ_=>rfl) rfl (by decide) (by decide)
  refine kN ((qP e).trans rfl) ?_;rcases three b with rfl|rfl|rfl<;>cases H
  ·exact qX 31 (by decide) s3 (by kernel_rfl)
  ·exact qX 32 (by decide) s3 (by kernel_rfl)
  ·exact qX 33 (by decide) s3 (by kernel_rfl)
def Ld (s:qB 0 [o]):∃i,i<34/\∃r B,JA [.ref 0] [o]=.ok (.ref r) B/\qB 0 B/\LL (yI i) r B:=by
 obtain⟨i,h,r,B,e,q⟩:=Lb s;refine⟨i,h,r,B,?_,q⟩;unfold JA Kv;exact jb e
noncomputable def Gm (g:Nat->W):W->W
 |.int v=>g v.toNat|w=>w
def VU (g:Nat->W)(o:bL):((o.map λ(a:Nat)=>(a:Int)).map W.int).map (Gm g)=o.map g:=by
 rw[aP,aP]
 apply bD
 intro a _;show g (Int.toNat (a:Int))=g a;rw[aL]
def VF {fd:bH}{M:Nat}{s:Int}(h:fd.Perm ((List.range M).map λ(k:Nat)=>s+(k:Int))):∃p:bL,fd=p.map (λ(k:Nat)=>s+(k:Int))/\p.Perm (List.range M):=by
 refine⟨fd.map λv=>(v-s).toNat,?_,?_⟩
 ·rw[aP]
  conv=>lhs;rw[<- map_id fd]
  apply bD
  intro v H;obtain⟨k,_,rfl⟩:=bZ.mp (h.mem_iff.mp H);show s+(k:Int)=s+(((s+(k:Int)-s).toNat:Nat):Int);omega
 ·have:=h.map λv=>(v-s).toNat
  rw[aP]at this;have e:(List.range M).map ((λv:Int=>(v-s).toNat) ∘ λ(k:Nat)=>s+(k:Int))=List.range M:=by
   conv=>rhs;rw[<- map_id (List.range M)]
   apply bD
   intro k _;show(s+(k:Int)-s).toNat=k;omega
  rw[e]at this;exact this
section
def Mv (h:qG t)(a:ρ[i]? =some (some (zU t))):mQ yn (zQ 1 [] (qt (qh i)) (zI 0) zW (zM (mQ yn (qp zp)))) ρ A=.ok (.int (yc t-1)) A:=by
 have n8:=h.n8;have e:=NV (cap:=[]) (A:=A) (ρ:=ρ) (o:=t) (f:=zR) (m:=qh i) (me:=mQ yn (qp zp)) (G:=λr=>.int (y6 r)) (zy a) (by unfold z8;omega) (λr H=>(yi (yW (w:=zR r) (ws:=r.map W.int) (A1:=A) (zy rfl) rfl)).trans (VP (h.row_ne H)))
 have em:(t.map λr=>W.int (y6 r))=(t.map y6).map W.int:=by rw[aP];rfl
 rw[em]at e;refine((yi e).trans (VP h.map_ne)).trans ?_
 have:yc t-1=y6 (t.map y6):=by unfold yc;omega
 rw[this]
def Oq {ma mb:Ev}{M:Nat}(H:ma ρ A=.ok (.int 1) A)(h:mb ρ A=.ok (.int (1+(M:Int))) A)(a:M<=100):QY ma mb ρ A=.ok (.ref A.length) (A++[.lst (((List.range M).map λ(k:Nat)=>1+(k:Int)).map W.int)]):=by
 unfold QY;rw[H,zF,h,zF];dsimp only;have e:(1+(M:Int)-1).toNat=M:=by omega
 rw[ah (by
  have s1:jy 1=true:=by decide
  have s2:jy (1+(M:Int))=true:=by unfold jy;simp;omega
  rw[s1,s2,e,aC (by unfold z8;omega)];rfl),e,aP]
 rfl
def Known (t:bG):Prop:=∃i p o,i<34/\p.Perm (List.range (yc (jU (yI i))-1).toNat)/\o.Perm (List.range (jU (yI i)).length)/\t=Zd (jU (yI i)) p o
def M5 (s:qB 0 [o]):∃t B,JH [.ref 0] [o]=.ok (zU t) B/\qB 0 B/\qG t/\Known t:=by
 obtain⟨i,hi,r,B0,e0,s0,Y⟩:=Ld s;obtain⟨tt,sq,q⟩:=MK hi;have hlen:(jU (yI i)).length=(yI i).length:=by unfold jU;rw[aj]
 have m1:=tt.n1;have m8:=tt.n8;obtain⟨B1,e1,x1⟩:=V7 (by omega) (by omega) sq q Y
 have s1:=s0.ext x1;generalize K:jU (yI i)=u at*;clear hlen Y;have n1:=tt.n1;have n8:=tt.n8;have kb:=UZ tt;obtain⟨M,hM⟩:=aX (show 0<=yc u-1 by omega)
 have el:=FN (ws:=u.map zR) (ρ:=[some (.ref 0),some (zU u),none,none]) (i:=1) (A:=B1) rfl;rw[aj]at el;have e2:=Oy el (by omega)
 have S:iL (List.range u.length)=((List.range u.length).map λ(a:Nat)=>0+(a:Int)).map W.int:=by
  rw[aP]
  apply bD
  intro a _;show W.int (a:Int)=W.int (0+(a:Int));rw[zero_add]
 rw[S]at e2;have s2:=s1.ext (Ext.one (o:=.lst (((List.range u.length).map λ(a:Nat)=>0+(a:Int)).map W.int)));obtain⟨j,h,fd,e3,U,p2,k2,N⟩:=VS s2 jG (by simp;omega)
 obtain⟨d,rfl,po⟩:=VF p2;have Q:(d.map λ(k:Nat)=>(0:Int)+(k:Int))=d.map λ(k:Nat)=>(k:Int):=bD λa _=>by omega
 rw[Q]at U;have X:zK ZU (zc zp (zc (QX (mQ qR (qp zw))) zl)) [some (.ref 0),some (zU u),none,none] B1=.ok (.ref j) h:=(qV (qF (zy (i:=0) rfl) (qF e2 qW))).trans e3;have hr20:0<j:=by have:=s1.lt;simp at N;omega
 have e4:qc (zc zD zl) [some (.ref 0),some (zU u),some (.ref j),none] h=.ok (.ref h.length) (h++[.lst [.int 0]]):=yf (qF jm qW);have s3:=k2.st.ext (Ext.one (o:=.lst [.int 0]));have C:=yC (u:=.lst [.int 0]) U;have Z:(h++[.lst [.int 0]])[h.length]? =some (.lst [.int 0]):=jG;have h2l:=gr U;have hB2:0<h.length:=by omega
 generalize h++[.lst [.int 0]]=B3 at e4 s3 C Z;have D:=Mv tt (ρ:=[some (.ref 0),some (zU u),some (.ref j),none]) (i:=1) (A:=B3) rfl;rw[hM]at D;have e5:=Oq (ρ:=[some (.ref 0),some (zU u),some (.ref j),none]) (A:=B3) (M:=M) (ma:=zH (.int 1)) (mb:=zh qv zL (mQ yn (zQ 1 [] (qt zw) (zI 0) zW (zM (mQ yn (qp zp)))))) jm ((zX jm D).trans rfl) (by omega)
 have s4:=s3.ext (Ext.one (o:=.lst (((List.range M).map λ(k:Nat)=>1+(k:Int)).map W.int)));obtain⟨r3,f,fd3,e6,h3,p3,k3,nw3⟩:=VS s4 jG (by simp;omega)
 obtain⟨P,rfl,pp⟩:=VF p3;have z:=k3.kp.get (yC C) (by omega)
 have J:=k3.kp.get (yC Z) (by omega)
 have E:zh qv (qc (zc zD zl)) (zK ZU (zc zp (zc (QY zL (zh qv zL (mQ yn (zQ 1 [] (qt zw) (zI 0) zW (zM (mQ yn (qp zp))))))) zl))) [some (.ref 0),some (zU u),some (.ref j),none] h=.ok (.ref f.length) (f++[.lst ((jO P).map W.int)]):=by
  refine(zX e4 ((qV (qF (zy (i:=0) rfl) (qF e5 qW))).trans e6)).trans ((K2 J h3 ?_).trans rfl)
  have:=pp.length_eq
  rw[bA]at this;rw[aj,aj,this];unfold z8;simp;omega
 have T:=yC (u:=.lst ((jO P).map W.int)) z;have h6:(f++[.lst ((jO P).map W.int)])[f.length]? =some (.lst ((jO P).map W.int)):=jG;have s5:=k3.st.ext (Ext.one (o:=.lst ((jO P).map W.int)));generalize hB5:f++[.lst ((jO P).map W.int)]=c at E T h6 s5;have hol:d.length=u.length:=by rw[po.length_eq,bA]
 have n:∀a∈d,a<u.length:=λa x=>b8.mp (po.mem_iff.mp x);have hpl:P.length=M:=by rw[pp.length_eq,bA]
 have y:(yc u-1).toNat=M:=by omega
 have res:=Oo tt (p:=P) (o:=d) (by rw[y];exact pp) po
 refine⟨Zd u P d,c,?_,s5,res.1,i,P,d,hi,by rw[K,y];exact pp,by rw[K];exact po,by rw[K]⟩
 unfold JH;refine jb ?_;unfold Xf;refine(zT ((qP ((qV (qF ((qV (qF (zy (i:=0) rfl) qW)).trans e0) qW)).trans e1)).trans rfl)).trans ((zT ((qP X).trans rfl)).trans ((zT ((qP E).trans rfl)).trans (qI (jv ?_))));have inner:∀a,a∈d->∀b,b∈d->zh zG qa (zh zG (zh zG qd zw) zp) [some (.int (b:Int)),some (.int (a:Int)),some (zU u),some (.ref f.length)] c=.ok (.int ((jO P).getD (at2 u a b).toNat 0)) c:=λa x b q=>by
  have L:=n a x;have I:=n b q;have bd:=UR tt L I;have kg:=UO tt L I;obtain⟨v,H⟩:=aX bd.1;have e:zh zG (zh zG qd zw) zp [some (.int (b:Int)),some (.int (a:Int)),some (zU u),some (.ref f.length)] c=.ok (.int (v:Int)) c:=by
   rw[<- H];exact(zX ((zX (zy rfl) (zy rfl)).trans (Uo L)) (zy rfl)).trans (UM (by rw[tt.sq _ (kI L)];exact I))
  have l:v<(jO P).length:=by
   show v<(P.map _).length+1;rw[aj];omega
  refine(zX (zy (i:=3) rfl) e).trans (gv h6 ?_);rw[H,aL,av,aa l,ae,aa l]
  rfl
 have ec:=K5 (cap:=[1,2,3]) (m:=qh 2) (me:=mQ yS (zQ 1 [0,1,3] (qt qd) (zI 0) zW (zM (zh zG qa (zh zG (zh zG qd zw) zp))))) (ρ:=[some (.ref 0),some (zU u),some (.ref j),some (.ref f.length)]) (A:=c) (g:=Gm λa=>zR (d.map λb=>(jO P).getD (at2 u a b).toNat 0)) (zy rfl) T (by simp;unfold z8;omega) (λw hw=>by
  obtain⟨v,H,rfl⟩:=bZ.mp hw;obtain⟨a,x,rfl⟩:=bZ.mp H;have ei:=K5 (cap:=[0,1,3]) (m:=qh 2) (me:=zh zG qa (zh zG (zh zG qd zw) zp)) (ρ:=[some (.int (a:Int)),some (zU u),some (.ref j),some (.ref f.length)]) (A:=c) (g:=Gm λb=>.int ((jO P).getD (at2 u a b).toNat 0)) (zy rfl) T (by simp;unfold z8;omega) (λw hw=>by
   obtain⟨v,H,rfl⟩:=bZ.mp hw;obtain⟨b,q,rfl⟩:=bZ.mp H;refine(inner a x b q).trans ?_;show _=R.ok (W.int ((jO P).getD (at2 u a (Int.toNat (b:Int))).toNat 0)) c;rw[aL])
  rw[VU]at ei;refine(Qg ei).trans ?_;show _=R.ok (zR (d.map λb=>(jO P).getD (at2 u (Int.toNat (a:Int)) b).toNat 0)) c;rw[aL];unfold zR;rw[aP]
  rfl)
 rw[VU]at ec;refine(Qg ec).trans ?_;unfold zU Zd;rw[aP]
 rfl
def Lf (s:qB n A):∃t B,ZZ [.ref n] A=.ok (zU t) B/\qG t/\Known t/\Kn n A B/\B.length=A.length:=by
 obtain⟨c,b,a,f,g⟩:=s;have hm:=gr a;obtain⟨t,A1,e,⟨C,d,E,h,H⟩,T,kn⟩:=M5 (o:=.lst [.int c,.bl b]) ⟨c,b,rfl,f,g⟩;refine⟨t,A.set n (.lst [.int C,.bl d]),?_,T,kn,⟨Kp.set,C,d,aE hm,h,H⟩,length_set ..⟩;unfold ZZ;exact VZ a rfl e E (J6 t)
end
structure LM (N b0 r:Nat)(μ:Nat->Nat->Int)(C:Hx):Prop where
 top:C[r]? =some (.lst ((List.range N).map λi=>W.ref (b0+i)))
 row:∀i,i<N->C[b0+i]? =some (.lst ((List.range N).map λj=>W.int (μ i j)))
 lt:b0+N<=r
 pos:0<b0
 st:qB 0 C
structure Sy (N:Nat)(μ:Nat->Nat->Int):Prop where
 dg:∀a b,a<N->b<N->(μ a b=0↔a=b)
 sy:∀a b,a<N->b<N->μ a b=μ b a
 lo:∀a b,a<N->b<N->0<=μ a b/\μ a b<(N:Int)
section
variable {N b0 r a b:Nat}{C:Hx}
def Sy.step (h:Sy N μ)(l:a<N)(g:b<N)(f:a≠b){k:Int}(k1:1<=k)(k2:k<(N:Int)):Sy N (gc (gc μ a b k) b a k):=by
 have at_:∀i j,gc (gc μ a b k) b a k i j=if (i=b/\j=a)∨(i=a/\j=b) then k else μ i j:=λi j=>by
  unfold gc
  by_cases e:i=b/\j=a
  ·rw[ah e,ah (.inl e)]
  ·rw[ar e]
   by_cases Q:i=a/\j=b
   ·rw[ah Q,ah (.inr Q)]
   ·rw[ar Q,ar (by rintro(z|z);exact e z;exact Q z)]
 refine⟨λi j d H=>?_,λi j d H=>?_,λi j d H=>?_⟩
 ·rw[at_]
  by_cases q:(i=b/\j=a)∨(i=a/\j=b)
  ·rw[ah q]
   constructor
   ·intro z;omega
   ·intro z;omega
  ·rw[ar q];exact h.dg i j d H
 ·rw[at_,at_]
  by_cases q:(i=b/\j=a)∨(i=a/\j=b)
  ·rw[ah q,ah (by rcases q with ⟨c,Z⟩|⟨c,Z⟩;exact .inr ⟨Z,c⟩;exact .inl ⟨Z,c⟩)]
  ·rw[ar q,ar (by rintro(⟨c,Z⟩|⟨c,Z⟩);exact q (.inr ⟨Z,c⟩);exact q (.inl ⟨Z,c⟩))]
   exact h.sy i j d H
 ·rw[at_]
  by_cases q:(i=b/\j=a)∨(i=a/\j=b)
  ·rw[ah q];omega
  ·rw[ar q];exact h.lo i j d H
def Lk {g:Nat->Int}{k:Int}(H:b<N):((List.range N).map λj=>W.int (g j)).set b (.int k)=(List.range N).map λj=>W.int (if j=b then k else g j):=by
 apply ext_getElem?
 intro i
 by_cases h:i<N
 ·by_cases q:b=i
  ·subst q
   rw[aE (by simpa using h),av,a6 h]
   simp
  ·rw[aF q,av,av,a6 h]
   simp[Ne.symm q]
 ·rw[aH (by simp;omega),aH (by simp;omega)]
theorem LM.put (h:LM N b0 r μ C)(g:a<N)(f:b<N)(k:Int):∃d,yH (.ref (b0+a)) (.int (b:Int)) (.int k) C=.ok () d/\LM N b0 r (gc μ a b k) d:=by
 have c:=h.row a g;have H:=gr c;have n:=h.lt;have l:=h.pos;refine⟨_,My c (by simp;omega),?_,λi e=>?_,n,l,h.st.put (by omega)⟩
 ·rw[aF (by omega)];exact h.top
 ·by_cases q:i=a
  ·subst q
   rw[aE H,Lk f]
   congr 3
   funext j
   unfold gc
   by_cases z:j=b
   ·rw[ah z,ah ⟨rfl,z⟩]
   ·rw[ar z,ar (by rintro⟨_,w⟩;exact z w)]
  ·rw[aF (by omega),h.row i e]
   congr 3
   funext j
   unfold gc;rw[ar (by rintro⟨w,_⟩;exact q w)]
def LM.kn {c:Hx}(h:LM N b0 r μ C)(k:Kn 0 C c):LM N b0 r μ c:=by
 have b:=h.lt;have a:=h.pos;exact⟨k.kp.get h.top (by omega),λi H=>k.kp.get (h.row i H) (by omega),b,a,k.st⟩
def LM.ix (h:LM N b0 r μ C){m:Ev}(hm:m ρ C=.ok (.ref r) C)(H:ρ[i]? =some (some (.int (a:Int))))(b:a<N):zh zG m (qh i) ρ C=.ok (.ref (b0+a)) C:=
 (zX hm (zy H)).trans (gv h.top (by rw[av,a6 b];rfl))
def LM.ix2 (h:LM N b0 r μ C){m:Ev}(hm:m ρ C=.ok (.ref r) C)(d:ρ[i]? =some (some (.int (a:Int))))(c:ρ[j]? =some (some (.int (b:Int))))(H:a<N)(e:b<N):zh zG (zh zG m (qh i)) (qh j) ρ C=.ok (.int (μ a b)) C:=
 (zX (h.ix hm d H) (zy c)).trans (gv (h.row a H) (by rw[av,a6 e];rfl))
abbrev Gy (me:Ev)(rest:Ex):Ex:=zq (yX yH (zh qv zL (zK j0 (zc zp (zc me zl)))) (zh zG qd jB) wC) (zq (yX yH (zh zG (zh zG qd jB) wC) (zh zG qd wC) jB) rest)
def VH (h:LM N b0 r μ C)(q:Sy N μ)(d:a<N)(H:b<N)(f:a≠b)(h0:ρ[0]? =some (some (.ref 0)))(j:ρ[2]? =some (some (.ref r)))(i:ρ[4]? =some (some (.int (a:Int))))(g:ρ[5]? =some (some (.int (b:Int)))){m:Int}(hm:me ρ C=.ok (.int m) C)(m1:0<m)(m2:m<(N:Int))(x:N<=8)(rest:Ex):
  ∃c p,Gy me rest ρ C=rest ρ p/\LM N b0 r c p/\Sy N c:=by
 obtain⟨k,e,u,v,k1,_⟩:=Zs h.st h0 hm m1 (by omega)
 have L:=h.kn k1;obtain⟨n,t,l⟩:=L.put d H (1+(k:Int));obtain⟨o,E,s⟩:=l.put H d (1+(k:Int));refine⟨_,o,?_,s,q.step d H f (by omega) (by omega)⟩
 refine(zT (ρ1:=ρ) (A1:=n) ?_).trans (zT (ρ1:=ρ) (A1:=o) ?_)
 ·unfold yX
  rw[(zX (jm (w:=.int 1)) u).trans (show qv (.int 1) (.int (k:Int)) e=.ok (.int (1+(k:Int))) e from rfl),zF,L.ix (zy j) i d,zF,(show wC ρ e=.ok (.int (b:Int)) e from zy g),zF,t,zF]
 ·have ev:gc μ a b (1+(k:Int)) a b=1+(k:Int):=by unfold gc;rw[ah ⟨rfl,rfl⟩]
  unfold yX;rw[l.ix2 (zy j) i g d H,zF,l.ix (zy j) g H,zF,(show jB ρ n=.ok (.int (a:Int)) n from zy i),zF,ev,E,zF]
def LM.ll (h:LM N b0 r μ C):LL (j8 N μ) r C:=by
 refine⟨(List.range N).map λi=>b0+i,by rw[h.top,aP];rfl,by rw[JZ];simp,λi H=>?_⟩
 rw[JZ]at H;have E:((List.range N).map λi=>b0+i).getD i 0=b0+i:=by rw[ae,av,a6 H];rfl
 have e:(j8 N μ).getD i []=(List.range N).map (μ i):=by unfold j8;rw[ae,av,a6 H];rfl
 rw[E,e,h.row i H,aP]
 rfl
def LM.fin (h:LM N b0 r μ C)(q:Sy N μ)(n1:1<=N)(n8:N<=8)(f:ρ[2]? =some (some (.ref r))):∃u B,zK Zn (zc qd zl) ρ C=.ok (zU u) B/\qG u/\qB 0 B:=by
 have l:=JZ (n:=N) (μ:=μ);have H:∀v∈(j8 N μ).flatten,0<=v/\v<(N:Int):=λv d=>by
  obtain⟨a,b,c,H,rfl⟩:=Zu Wt d;rw[l]at c H;rw[gT c H];exact q.lo a b c H
 obtain⟨B,e,x⟩:=V7 (t:=j8 N μ) (by omega) (by omega) Wt (λv d=>by have:=H v d;omega) h.ll
 refine⟨_,B,(qV (qF (zy f) qW)).trans e,OH (by omega) (by omega) Wt ?_ ?_ ?_,h.st.ext x⟩
 ·intro a b c H;rw[l]at c H;rw[gT c H];exact q.dg a b c H
 ·intro a b c H;rw[l]at c H;rw[gT c H,gT H c];exact q.sy a b c H
 ·intro a b c H;rw[l]at c H ⊢;rw[gT c H];exact q.lo a b c H
def M6 (h:qG t)(s:qB 0 B):LM t.length B.length (B.length+t.length) (at2 t) (B++(t.map λr=>O.lst (r.map W.int))++[O.lst ((List.range t.length).map λi=>W.ref (B.length+i))])/\Sy t.length (at2 t):=by
 refine⟨⟨VC,λi H=>?_,aw _,s.lt,s.ext ⟨(t.map λr=>O.lst (r.map W.int))++[O.lst ((List.range t.length).map λi=>W.ref (B.length+i))],by rw[aN]⟩⟩,h.dg,h.sy,λa b f e=>?_⟩
 ·rw[VJ H]
  congr 2
  have d:=h.sq _ (kI H)
  have:=ZV (t.getD i []) 0 W.int
  rw[this,d]
  rfl
 ·obtain⟨c,j,g,_⟩:=J3 h.sq f e
  exact h.lo c j _ g
noncomputable abbrev eW (w r N:Nat)(l:En):En:=some (.ref 0)::some (.int (w:Int))::some (.ref r)::some (.int (N:Int))::l
def Mf (s:qB 0 [o]):∃t B,JD [.ref 0] [o]=.ok (zU t) B/\qB 0 B/\qG t:=by
 unfold JD;unfold Xh;obtain⟨way,T,e0,hw,k0,_⟩:=Zs (ρ:=[some (.ref 0),none,none,none,none,none,none]) (me:=zH (.int 3)) s rfl jm (by decide:(0:Int)<3) (by decide)
 have go:∀m2:Ex,zq (zZ 1 (zK j0 (zc zp (zc qT zl)))) m2 [some (.ref 0),none,none,none,none,none,none] [o]=m2 [some (.ref 0),some (.int (way:Int)),none,none,none,none,none] T:=λm2=>zT ((qP e0).trans rfl);obtain⟨t,x,e1,J,_,k1,_⟩:=Lf k0.st;have n1:=J.n1;have n8:=J.n8;have P:zh je zw zD [some (.ref 0),some (.int (way:Int)),none,none,none,none,none] T=.ok (.bl (decide ((way:Int)=0))) T:=(zX (zy rfl) jm).trans (Qw _ _ _);have ek:zK ZZ (zc zp zl) [some (.ref 0),some (.int (way:Int)),none,none,none,none,none] T=.ok (zU t) x:=(qV (qF (zy rfl) qW)).trans e1
 by_cases q0:(way:Int)=0
 ·rw[aC q0]at P
  exact⟨t,x,jb ((go _).trans (qI ((wV P).trans (qI (jv ek))))),k1.st,J⟩
 ·rw[aK q0]at P
  have er:=Pz (B:=x) n8 J.sq ek;obtain⟨lm,sy⟩:=M6 J k1.st;generalize x++(t.map λr=>O.lst (r.map W.int))++[O.lst ((List.range t.length).map λi=>W.ref (x.length+i))]=C at er lm;generalize x.length+t.length=r at er lm;generalize x.length=b0 at lm;generalize at2 t=μ at lm sy;generalize hN:t.length=N at lm sy n1 n8;have K:mQ qR (qp qd) [some (.ref 0),some (.int (way:Int)),some (.ref r),none,none,none,none] C=.ok (.int (N:Int)) C:=by
   rw[yi (yW (w:=.ref r) (A1:=C) (zy rfl) (by unfold zV;dsimp only;rw[lm.top]))]
   unfold qR;simp
  have go2:∀m1 m2:Ex,zq (zZ 1 (zK j0 (zc zp (zc qT zl)))) (zq (qO (zh je zw zD) m1 zE) (zq (zZ 2 (qg (zQ 1 [] (qt (zK ZZ (zc zp zl))) (zI 0) zW (zM (qg (qp zp)))))) (zq (zZ 3 (mQ qR (qp qd))) m2))) [some (.ref 0),none,none,none,none,none,none] [o]=m2 (eW way r N [none,none,none]) C:=λm1 m2=>
   (go _).trans ((zT ((yh P).trans kj)).trans ((zT ((qP er).trans rfl)).trans (zT ((qP K).trans rfl))))
  have Q:y0 (zh je zw zL) (zh GA qa zL) (eW way r N [none,none,none]) C=.ok (.bl (decide ((way:Int)=1)&&decide ((1:Int)<(N:Int)))) C:=by
   have e:zh je zw zL (eW way r N [none,none,none]) C=.ok (.bl (decide ((way:Int)=1))) C:=(zX (zy rfl) jm).trans (Qw _ _ _)
   by_cases z:(way:Int)=1
   ·rw[aC z]at e ⊢
    exact(Zw e).trans ((zX (zy rfl) jm).trans rfl)
   ·rw[aK z]at e ⊢
    exact Ww e
  cases hd:(decide ((way:Int)=1)&&decide ((1:Int)<(N:Int))) with
  |true=>
   rw[hd]at Q;have hN2:2<=N:=by
    rw[aq,ak,ak]at hd;omega
   obtain⟨a,d,M,ha,k2,_⟩:=Zs (ρ:=(eW way r N [none,none,none])) (me:=qh 3) lm.st rfl (zy rfl) (by omega:(0:Int)<(N:Int)) (by omega)
   obtain⟨q,C2,e3,hq,k3,_⟩:=Zs (ρ:=(eW way r N [some (.int (a:Int)),none,none])) (me:=zh yt qa zL) (m:=(N:Int)-1) k2.st rfl ((zX (zy rfl) jm).trans rfl) (by omega) (by omega)
   have X:=(lm.kn k2).kn k3;have hb:(a+1+q)%N<N:=Nat.mod_lt _ (by omega)
   have hab:a≠(a+1+q)%N:=by
    intro z
    by_cases g:a+1+q<N
    ·rw[Nat.mod_eq_of_lt g]at z;omega
    ·rw[Nat.mod_eq_sub_mod (by omega),Nat.mod_eq_of_lt (by omega)]at z
     omega
   have e4:zh yP (zh qv (zh qv jB zL) (zK j0 (zc zp (zc (zh yt qa zL) zl)))) qa (eW way r N [some (.int (a:Int)),none,none]) d=.ok (.int (((a+1+q)%N:Nat):Int)) C2:=by
    refine(zX ((zX ((zX (zy rfl) jm).trans (show qv (.int (a:Int)) (.int 1) d=.ok (.int ((a:Int)+1)) d from rfl)) e3).trans (show qv (.int ((a:Int)+1)) (.int (q:Int)) C2=.ok (.int ((a:Int)+1+(q:Int))) C2 from rfl)) (zy (i:=3) rfl)).trans ((Zv (by omega)).trans ?_)
    congr 2
   obtain⟨c,C3,e5,L,S⟩:=VH (ρ:=(eW way r N [some (.int (a:Int)),some (.int (((a+1+q)%N:Nat):Int)),none])) (me:=zh yt qa zL) (m:=(N:Int)-1) X sy (by omega) hb hab rfl rfl rfl rfl ((zX (zy rfl) jm).trans rfl) (by omega) (by omega) n8 (zq (qD (zK Zn (zc qd zl))) zE)
   obtain⟨u,B,e6,hu,sB⟩:=L.fin S n1 n8 (ρ:=(eW way r N [some (.int (a:Int)),some (.int (((a+1+q)%N:Nat):Int)),none])) rfl;refine⟨u,B,jb ((go2 _ _).trans (qI ((wV Q).trans ?_))),sB,hu⟩;exact(zT ((qP M).trans rfl)).trans ((zT ((qP e4).trans rfl)).trans (e5.trans (qI (jv e6))))
  |false=>
   rw[hd]at Q;have xo:Ext C (C++[.lst [.int 2,.int 3,.int 1]]):=Ext.one;obtain⟨j,d,M,hj,k2,_⟩:=Zs (ρ:=(eW way r N [none,none,none])) (me:=zH (.int 3)) (lm.st.ext xo) rfl jm (by decide:(0:Int)<3) (by decide)
   have Z:LM N b0 r μ d:=(lm.kn (Kn.ext lm.st xo)).kn k2;obtain⟨f,hf1,ef⟩:∃f:Int,1<=f/\zh zG (qc (zc qi (zc qT (zc zL zl)))) (zK j0 (zc zp (zc qT zl))) (eW way r N [none,none,none]) C=.ok (.int f) d:=by
    have v:=k2.kp.get (jG (A:=C)) (by have:=lm.st.lt;omega)
    have hj3:j<3:=by omega
    rcases three hj3 with rfl|rfl|rfl
    ·exact⟨2,by decide,(zX (yf rfl) M).trans (gv v rfl)⟩
    ·exact⟨3,by decide,(zX (yf rfl) M).trans (gv v rfl)⟩
    ·exact⟨1,by decide,(zX (yf rfl) M).trans (gv v rfl)⟩
   have rng:∀(i:Nat)(ρ:En)(D:Hx)(k:Nat),k<=8->ρ[i]? =some (some (.int (k:Int)))->jE (qh i) ρ D=.ok (yZ 0 k) D:=λi ρ D k hk h=>by
    have:=K7 (m:=qh i) (A:=D) (zy h) (KY (n:=k) (by omega))
    rw[aL]at this;exact this
   obtain⟨U,D,e3,⟨c,L,S⟩,Y,y,H⟩:=KP (j:=yZ 0 N) (st:=turn (zI 4) (zq (wq (jE jB) (zI 5) (Gy (zh Zc YY (zh yt qa zL)) zE)) zE)) (N:=N)
    (I:=λ_ ρ D=>(∃μ,LM N b0 r μ D/\Sy N μ)/\∃Y y,ρ=(eW way r N [Y,y,some (.int f)]))
    (λa ρ D ha ⟨⟨μ,lm,sy⟩,Y,y,H⟩=>by
     subst H;obtain⟨U,D',e,⟨c,p,l⟩,y5',E⟩:=KP (j:=yZ 0 a) (st:=turn (zI 5) (Gy (zh Zc YY (zh yt qa zL)) zE)) (N:=a)
      (I:=λ_ ρ D=>(∃μ,LM N b0 r μ D/\Sy N μ)/\∃y,ρ=(eW way r N [some (.int (a:Int)),y,some (.int f)]))
      (λb ρ D hb ⟨⟨μ,lm,sy⟩,y,H⟩=>by
       subst H;have em:zh Zc YY (zh yt qa zL) (eW way r N [some (.int (a:Int)),some (.int (b:Int)),some (.int f)]) D=.ok (.int (if (N:Int)-1<f then(N:Int)-1 else f)) D:=(zX (zy rfl) ((zX (zy rfl) jm).trans rfl)).trans rfl;obtain⟨c,D',e,p,l⟩:=VH (ρ:=(eW way r N [some (.int (a:Int)),some (.int (b:Int)),some (.int f)])) lm sy ha (by omega:b<N) (by omega) rfl rfl rfl rfl em (by split<;>omega) (by split<;>omega) n8 zE
       refine⟨_,_,D',Q0 hb,(QP (ρ1:=(eW way r N [some (.int (a:Int)),some (.int (b:Int)),some (.int f)])) ?_).trans e,⟨c,p,l⟩,_,rfl⟩;rw[zero_add];rfl)
      (λρ D _=>QS (by omega)) a 0 (eW way r N [some (.int (a:Int)),y,some (.int f)]) D (by omega) ⟨⟨μ,lm,sy⟩,_,rfl⟩
     subst E;refine⟨_,_,D',Q0 ha,(QP (ρ1:=(eW way r N [some (.int (a:Int)),y,some (.int f)])) ?_).trans ((zT ((QQ (rng 4 _ D a (by omega) rfl)).trans e)).trans kj),⟨c,p,l⟩,_,_,rfl⟩
     rw[zero_add];rfl)
    (λρ D _=>QS (by omega)) N 0 (eW way r N [none,none,some (.int f)]) d (by omega) ⟨⟨μ,Z,sy⟩,_,_,rfl⟩
   subst H;obtain⟨u,B,e6,hu,sB⟩:=L.fin S n1 n8 (ρ:=(eW way r N [Y,y,some (.int f)])) rfl;refine⟨u,B,jb ((go2 _ _).trans ((zT ((yh Q).trans kj)).trans ((zT ((qP ef).trans rfl)).trans ((zT ((QQ (rng 3 _ d N n8 rfl)).trans e3)).trans (qI (jv e6)))))),sB,hu⟩
def Ie (s:qB n A):∃t B,Zm [.ref n] A=.ok (zU t) B/\qG t/\Kn n A B:=by
 obtain⟨c,b,a,f,g⟩:=s;have hm:=gr a;obtain⟨t,A1,e,⟨C,d,E,h,H⟩,T⟩:=Mf (o:=.lst [.int c,.bl b]) ⟨c,b,rfl,f,g⟩;refine⟨t,A.set n (.lst [.int C,.bl d]),?_,T,⟨Kp.set,C,d,aE hm,h,H⟩⟩;unfold Zm;exact VZ a rfl e E (J6 t)
end
def P8 {c:En}{j:jk}{N:Nat}{u v g:Nat->W}(t:∀i,i<N->j.at_ A i=some (some (.tup [u i,v i])))(H:j.at_ A N=some none)(he:∀i,i<N->me (some (u i)::some (v i)::c) A=.ok (g i) A):
  ∀(f i:Nat)(x y:Option W)(acc:List W),i+f=N->acc.length+f<=z8->∃ρ,jc j (kL 0 1) (zH (.bl true)) (zM me) f i (x::y::c) acc A=.ok (ρ,acc++(List.range' i f).map g) A:=by
 intro f
 induction f with
 |zero=>
  intro i x y acc h l
  have:i=N:=by omega
  subst this;refine⟨x::y::c,?_⟩;unfold jc;rw[H];simp
 |succ f I=>
  intro i x y acc h l;obtain⟨ρ,e⟩:=I (i+1) (some (u i)) (some (v i)) (acc++[g i]) (by omega) (by rw[aG,bf];omega)
  refine⟨ρ,?_⟩;rw[jc,t i (by omega)]
  dsimp only;rw[show kL 0 1 (.tup [u i,v i]) (x::y::c)=some (some (u i)::some (v i)::c) from rfl]
  dsimp only[zH];rw[zF];dsimp only;have E:zM me (some (u i)::some (v i)::c) acc A=.ok (some (u i)::some (v i)::c,acc++[g i]) A:=by
   unfold zM;rw[he i (by omega),zF,ah (by omega)]
  rw[E,zF];rw[e,aN,range'_succ,aV]
  rfl
def RN {j:jk}{N:Nat}{u v g:Nat->W}(hm:mi ρ A=.ok j A)(b:j.len=N)(d:N<=1000)(H:∀i,i<N->j.at_ A i=some (some (.tup [u i,v i])))(h:j.at_ A N=some none)
  (he:∀i,i<N->me (some (u i)::some (v i)::cap.map λi=>(ρ[i]?).join) A=.ok (g i) A):zQ 2 cap mi (kL 0 1) zW (zM me) ρ A=.ok ((List.range N).map g) A:=by
 obtain⟨a,e⟩:=P8 (A:=A) (c:=cap.map λi=>(ρ[i]?).join) H h he N 0 none none [] (by omega) (by unfold z8;simp;omega)
 unfold zQ;rw[hm,zF,b];show R.bind (R.nox (jc j _ _ _ N 0 (none::none::cap.map λi=>(ρ[i]?).join) [] A)) _=_;rw[e,<- range_eq_range',nil_append]
 rfl
def g7 {r:R α}{a:α}(h:r=.ok a A):r.nox=.ok a A:=by rw[h];rfl
def V2 {m:Ex}{w:W}(h:m (ws.map some++List.replicate (n-ws.length) none) A=.ok (.rt w) A1):wY n m ws A=.ok w A1:=by unfold wY;rw[h];rfl
def Lv {m:Ex}(h:m (ws.map some++List.replicate (n-ws.length) none) A=.ok (.nx ρ) A1):wY n m ws A=.ok .non A1:=by unfold wY;rw[h];rfl
def Wd {m1 m2:Ex}(h:m1 ρ A=.exc x A1):zq m1 m2 ρ A=.exc x A1:=by unfold zq;rw[h,Vo]
def Lu {m:Ev}(h:m ρ A=.exc x A1):gi m ρ A=.exc x A1:=by unfold gi;rw[h,Vo]
def Vv {m:Ex}(h:m (ws.map some++List.replicate (n-ws.length) none) A=.exc x A1):wY n m ws A=.exc x A1:=by unfold wY;rw[h];rfl
def Pp {a:Ea}{xs ys:List W}{r:Nat}{u e:Option W}(H:A[r]? =some (.lst xs))(h:a [u,e,none,some (.ref r)] A=.ok ys A)(l:xs.length+ys.length<=100):
  zZ 3 (zh qv qa (qc a)) [u,e,none,some (.ref r)] A=.ok (.nx [u,e,none,some (.ref (A.length+1))]) (A++[.lst ys]++[.lst (xs++ys)]):=by
 refine(qP ((zX (zy (i:=3) rfl) (yf h)).trans (K2 (yC H) jG (by unfold z8;omega)))).trans ?_
 rw[aG,bf]
 rfl
def J2 {a:Ea}{xs ys zs:List W}{L:Hx}{u e:Option W}(c:L[j]? =some (.lst xs))(b:∀m A,a [u,e,none,m] A=.ok ys A)(H:xs.length+ys.length<=100)(h:xs++ys=zs):
  zZ 3 (zh qv qa (qc a)) [u,e,none,some (.ref (A.length+j))] (A++L)=.ok (.nx [u,e,none,some (.ref (A.length+(L.length+1)))]) (A++(L++[.lst ys,.lst zs])):=by
 have d:(A++L)[A.length+j]? =some (.lst xs):=by rw[au (by omega),show A.length+j-A.length=j by omega];exact c
 rw[Pp d (b _ _) H,h,aG,aN,aN,Nat.add_assoc]
 rfl
noncomputable def z9 (i a n:Nat):List W:=(List.range' a n).map λk=>W.bl (decide (k=i))
section
def RU (h:n<1000000):jy (n:Int)=true:=by
 unfold jy;rw[aq,ak,ak];omega
end
section
def Hf (a:A[0]? =some (.ro (ns.map W.int)))(k:Nat):∃x:Int,Jx [.ref 0,.int k] A=.ok (.int x) A:=by
 have H:zV (.ref 0) A=some (ns.map W.int):=by unfold zV;dsimp only;rw[a]
 have l:mQ qR (qp zp) [some (.ref 0),some (.int k)] A=.ok (.int ns.length) A:=by
  rw[yi (yW (w:=.ref 0) (A1:=A) (zy rfl) H)];unfold qR;rw[aj]
 have e:zh Js zw (mQ qR (qp zp)) [some (.ref 0),some (.int k)] A=.ok (.bl (decide ((k:Int)<ns.length))) A:=(zX (zy (w:=.int k) rfl) l).trans rfl
 by_cases h:k<ns.length
 ·refine⟨ns[k],jb ?_⟩
  unfold Ki;rw[aC (by omega)]at e
  refine qI ((wV e).trans (qI (jv ?_)));refine(zX (x:=.ref 0) (y:=.int k) (A1:=A) (A2:=A) (zy rfl) (zy rfl)).trans ?_;unfold zG;rw[H];dsimp only;rw[Yb (v:=.int ns[k]) (by rw[av,aa h];rfl)]
 ·refine⟨0,jb ?_⟩
  unfold Ki;rw[aK (by omega)]at e
  exact(zT ((yh e).trans rfl)).trans rfl
def Mn (H:A[0]? =some (.ro (ns.map W.int)))(k:Nat):∃o,ZX [.ref 0,.int k] A=.ok (.ref A.length) (A++[o])/\qB A.length (A++[o]):=by
 obtain⟨x,e⟩:=Hf H k;have a:zZ 2 (zK Jx (zc zp (zc zw zl))) [some (.ref 0),some (.int k),none] A=.ok (.nx [some (.ref 0),some (.int k),some (.int x)]) A:=by
  refine(qP (w:=.int x) (A1:=A) ?_).trans rfl;rw[qV (ws:=[.ref 0,.int k]) (A1:=A) rfl];exact e
 have E:zh Gu qd (zh Yw Jm (zH (.int 18))) [some (.ref 0),some (.int k),some (.int x)] A=.ok (.bl (decide ((1000000000000000000:Int)<=x))) A:=(zX (x:=.int x) (y:=.int 1000000000000000000) (A1:=A) (A2:=A) (zy rfl) rfl).trans rfl
 by_cases h:(1000000000000000000:Int)<=x
 ·refine⟨.lst [.int (x-1000000000000000000),.bl true],jb ?_,x-1000000000000000000,true,jG,by omega,λz=>nomatch z⟩
  unfold Kr;rw[aC h]at E;refine(zT a).trans (qI ((wV E).trans (qI (jv (yf ?_)))))
  rfl
 ·refine⟨.lst [.int (x%2147483647),.bl false],jb ?_,x%2147483647,false,jG,emod_nonneg _ (by decide),λ_=>bB _ (by decide)⟩
  unfold Kr;rw[aK h]at E;refine(zT a).trans ((zT ((yh E).trans rfl)).trans (qI (jv (yf ?_))));refine qF (A1:=A) (A2:=A) ((zX (x:=.int x) (y:=.int 2147483647) (A1:=A) (A2:=A) (zy rfl) rfl).trans (Zv (by decide))) rfl
end
def GX (i:Nat):Hx:=[.lst (z9 i 0 3),.lst (z9 i 3 3),.lst (z9 i 0 6),.lst (z9 i 6 3),.lst (z9 i 0 9),.lst (z9 i 9 3),.lst (z9 i 0 12),.lst (z9 i 12 3),.lst (z9 i 0 15),.lst [.int i]]
noncomputable def wN (x:Str):Option Nat:=if x = "NoTable" then some 0 else none
def XG (h:wN x=some i):(x = "NoTable" /\ i=0):=by
 unfold wN at h
 by_cases h0:x = "NoTable"
 ·rw[ah h0]at h;cases h;exact⟨h0,rfl⟩
 ·rw[ar h0]at h;cases h
def NF (a:wN x=some i)(u:W)(A:Hx):Kh [some u,some (.xc x),none,none] A=.ok (.rt (.ref (A.length+9))) (A++GX i):=by
 have two:=XG a;unfold Kh;have d:∀(m:Option W)(A:Hx),(zc (qC (qS qu "NoTable") zw) (zc (qC (qS qu "NotSteady") zw) (zc (qC (qS qu "NoPlace") zw) zl))) [some u,some (.xc x),none,m] A=.ok (z9 i 0 3) A:=λm A=>by
  rcases two with ⟨rfl,rfl⟩<;>kernel_rfl
 have a1:∀(m:Option W)(A:Hx),(zc (qC (qS qu "NoKind") zw) (zc (qC (qS qu "NoMix") zw) (zc (qC (qS qu "NoNumber") zw) zl))) [some u,some (.xc x),none,m] A=.ok (z9 i 3 3) A:=λm A=>by
  rcases two with ⟨rfl,rfl⟩<;>kernel_rfl
 have a2:∀(m:Option W)(A:Hx),(zc (qC (qS qu "NoLot") zw) (zc (qC (qS qu "NoKinds") zw) (zc (qC (qS qu "NoPaper") zw) zl))) [some u,some (.xc x),none,m] A=.ok (z9 i 6 3) A:=λm A=>by
  rcases two with ⟨rfl,rfl⟩<;>kernel_rfl
 have c:∀(m:Option W)(A:Hx),(zc (qC (qS qu "NoParting") zw) (zc (qC (qS qu "NoClosed") zw) (zc (qC (qS qu "TooMany") zw) zl))) [some u,some (.xc x),none,m] A=.ok (z9 i 9 3) A:=λm A=>by
  rcases two with ⟨rfl,rfl⟩<;>kernel_rfl
 have b:∀(m:Option W)(A:Hx),(zc (qC (qS qu "NoText") zw) (zc (qC (qS qu "NoLine") zw) (zc (qC (qS qu "NoDeed") zw) zl))) [some u,some (.xc x),none,m] A=.ok (z9 i 12 3) A:=λm A=>by
  rcases two with ⟨rfl,rfl⟩<;>kernel_rfl
 have ap:∀n,z9 i 0 n++z9 i n 3=z9 i 0 (n+3):=λn=>by
  unfold z9;rw[<- ba]
  congr 1
  have:=List.range'_append_1 (s:=0) (m:=n) (n:=3)
  rw[Nat.zero_add]at this;exact this
 have E:zZ 3 (qc (zc (qC (qS qu "NoTable") zw) (zc (qC (qS qu "NotSteady") zw) (zc (qC (qS qu "NoPlace") zw) zl)))) [some u,some (.xc x),none,none] A=.ok (.nx [some u,some (.xc x),none,some (.ref (A.length+0))]) (A++[.lst (z9 i 0 3)]):=(qP (yf (d _ A))).trans rfl;refine(zT E).trans ?_;refine(zT (J2 (A:=A) (L:=[.lst (z9 i 0 3)]) (j:=0) (xs:=z9 i 0 3) (ys:=z9 i 3 3) (zs:=z9 i 0 6) rfl a1 (by simp[z9]) (ap 3))).trans ?_
 refine(zT (J2 (A:=A) (L:=[.lst (z9 i 0 3),.lst (z9 i 3 3),.lst (z9 i 0 6)]) (j:=2) (xs:=z9 i 0 6) (ys:=z9 i 6 3) (zs:=z9 i 0 9) rfl a2 (by simp[z9]) (ap 6))).trans ?_
 refine(zT (J2 (A:=A) (L:=[.lst (z9 i 0 3),.lst (z9 i 3 3),.lst (z9 i 0 6),.lst (z9 i 6 3),.lst (z9 i 0 9)]) (j:=4) (xs:=z9 i 0 9) (ys:=z9 i 9 3) (zs:=z9 i 0 12) rfl c (by simp[z9]) (ap 9))).trans ?_
 refine(zT (J2 (A:=A) (L:=[.lst (z9 i 0 3),.lst (z9 i 3 3),.lst (z9 i 0 6),.lst (z9 i 6 3),.lst (z9 i 0 9),.lst (z9 i 9 3),.lst (z9 i 0 12)]) (j:=6) (xs:=z9 i 0 12) (ys:=z9 i 12 3) (zs:=z9 i 0 15) rfl b (by simp[z9]) (ap 12))).trans ?_
 generalize H:A++([.lst (z9 i 0 3),.lst (z9 i 3 3),.lst (z9 i 0 6),.lst (z9 i 6 3),.lst (z9 i 0 9),.lst (z9 i 9 3),.lst (z9 i 0 12)]++[.lst (z9 i 12 3),.lst (z9 i 0 15)])=B;have l:B.length=A.length+9:=by rw[<- H];simp
 have hm:B[A.length+8]? =some (.lst (z9 i 0 15)):=by rw[<- H,au (by omega),show A.length+8-A.length=8 by omega];rfl
 refine(zT (ρ1:=[some u,some (.xc x),none,some (.ref (A.length+8))]) (A1:=B) ((yh (A1:=B) (wc (k:=true) ?_)).trans rfl)).trans (qI (jv ?_))
 ·rcases two with ⟨rfl,rfl⟩<;>kernel_rfl
 have e:=XA (cap:=[3]) (mi:=jE (zH (.int 15))) (j:=yZ 0 15) (ifs:=zh zG zw zp) (me:=qh 0) (ρ:=[some u,some (.xc x),none,some (.ref (A.length+8))]) (A:=B) (N:=15) (item:=λk=>.int (0+(k:Int))) (g:=λk=>.int (0+(k:Int))) (keep:=λk=>decide (k=i)) rfl rfl (by unfold z8;omega) (λk h=>Q0 h) (QS (by omega))
  (λk h=>by
   refine(zX (zy (i:=1) (w:=.ref (A.length+8)) rfl) (zy (i:=0) (w:=.int (0+(k:Int))) rfl)).trans ?_;rw[zero_add];refine gv hm ?_;unfold z9;rw[av,List.getElem?_range' (by omega)]
   simp) (λk h _=>rfl)
 rw[gq e,l];have hf:((List.range 15).filter λk=>decide (k=i)).map (λk:Nat=>W.int (0+(k:Int)))=[.int i]:=by
  rcases two with ⟨rfl,rfl⟩<;>rfl
 rw[hf,<- H,aN]
 rfl
def Ej (h:wN x=some i):qu.contains x=true:=by
 rcases XG h with ⟨rfl,_⟩<;>decide +kernel
abbrev LS:List Lm:=g8 wI
def RF (k:Nat)(ws:List W)(A:Hx):R W:=match yA LS k ws A with
 |.exc x A1=>(match wN x with
  |some i=>.ok (.ref (A1.length+9)) (A1++GX i)|none=>.bad)
 |_=>.bad
def Ms {PG:jq}(H:yA LS k ws A=.exc x A1)(h:wN x=some i):
  q9 4 (QD PG (yA LS)) [.clo k ws (PG k)] A=.ok (.ref (A1.length+9)) (A1++GX i):=by
 have E:Yv 0 PG (yA LS) [some (.clo k ws (PG k)),some .non,none,none] A=.exc x A1:=by
  unfold Yv;refine(ah rfl).trans H
 have e:Jp 0 1 2 qu PG (yA LS) [some (.clo k ws (PG k)),some .non,none,none] A=.ok (.nx [some (.clo k ws (PG k)),some (.xc x),none,none]) A1:=by
  unfold Jp;rw[E];dsimp only;rw[ah (Ej h)]
  rfl
 refine jb ?_;unfold QD;refine(zT (ρ1:=[some (.clo k ws (PG k)),some .non,none,none]) (A1:=A) rfl).trans ?_;exact(zT e).trans (NF h _ A1)
def UX (H:yA LS k ws A=.exc x A1)(h:wN x=some i):RF k ws A=.ok (.ref (A1.length+9)) (A1++GX i):=by
 unfold RF;rw[H];dsimp only;rw[h]
def Ia {PG:jq}(us:List W)(A:Hx):Zh PG RF us A=.bad∨q9 4 (QD PG (yA LS)) us A=Zh PG RF us A:=by
 by_cases H:Zh PG RF us A=.bad
 ·exact .inl H
 right
 unfold Zh at H ⊢
 split
 ·rename_i k ws P
  dsimp only at H
  by_cases a:P=PG k
  ·subst a
   rw[ah rfl]at H ⊢;cases e:yA LS k ws A with
   |exc x A1=>
    cases hm:wN x with
    |none=>exfalso;apply H;unfold RF;rw[e];dsimp only;rw[hm]|some i=>rw[Ms e hm,UX e hm]
   |ok w A1=>exfalso;apply H;unfold RF;rw[e]|bad=>exfalso;apply H;unfold RF;rw[e]
  ·rw[ar a]at H;exact absurd rfl H
 ·rename_i h
  exfalso
  apply H
  split
  ·rename_i k ws P
   exact(h k ws P rfl).elim
  ·rfl
section
def Li {t:Lm}(h:ls[k]? =some t):yA ls k ws A=t.m (ws.map some) A:=by unfold yA;rw[h]
end
def Rq:wN "NoTable"=some 0:=by decide +kernel
section
variable {g:Nat}{t:Lm}{PF:jq}
def M1 (h:A[1]? =some (.tab jM Pt))(k:Nat):gz 1 jM Pt k (PF k) ρ A=.ok (.clo k [] (PF k)) A:=by
 unfold gz;rw[h];dsimp only;rw[ah ⟨rfl,rfl⟩]
def Pm (d:A[1]? =some (.tab jM Pt))(H:LS[k]? =some t)(c:gE t.idx ρ=some ws)(a:yA LS k ws A=.exc x A)(h:wN x=some g):∃B,zh jC (Qc LS PF (Qj RF) (zc (gz 1 jM Pt k (PF k)) zl)) (qc (zc (zH (.int (g:Int))) zl)) ρ A=.ok (.bl false) B/\Ext A B:=by
 have e:Qc LS PF (Qj RF) (zc (gz 1 jM Pt k (PF k)) zl) ρ A=.ok (.ref (A.length+9)) (A++GX g):=by
  unfold Qc;rw[qF (M1 d k) qW,zF]
  have:wW LS PF ρ [.clo k [] (PF k)]=some [.clo k ws (PF k)]:=by
   unfold wW Jk;dsimp only;rw[ah rfl,H];dsimp only;rw[c]
   rfl
  rw[this];exact UX a h
 have X:Ext A (A++GX g):=⟨_,rfl⟩;have b:(A++GX g)[A.length+9]? =some (.lst [.int (g:Int)]):=by rw[au (by omega),show A.length+9-A.length=9 by omega];rfl
 refine⟨A++GX g++[.lst [.int (g:Int)]],(zX e (yf (qF jm qW))).trans ((Qu (l:=[(g:Int)]) (m:=[(g:Int)]) (yC b) jG).trans ?_),X.app⟩;rw[aC rfl]<;>rfl
end
section
variable {w:W}
def Mk (h:qG t)(A:Hx):k8 [zU t] A=.ok (.bl true) A:=V3 h A
def M3 (h:kD A w):k8 [w] A=.ok (.bl false) A:=h A λ_ _ z=>z
def PJ (h:qG t)(A:Hx):QC [zU t] A=.ok .non A:=by
 refine Lv (ρ:=[some (zU t)]) ?_;unfold Kg;refine(zT (ρ1:=[some (zU t)]) (A1:=A) ((yh (A1:=A) ?_).trans rfl)).trans rfl;exact g7 (wc (k:=true) ((qV (ws:=[zU t]) (A1:=A) rfl).trans (Mk h A)))
def Oi (h:kD A w):QC [w] A=.exc "NoTable" A:=by
 refine Vv ?_;unfold Kg;exact Wd ((wV (A1:=A) (g7 (wc (k:=false) ((qV (ws:=[w]) (A1:=A) rfl).trans (M3 h))))).trans (Wd rfl))
end
section
variable {f:Fn}{us:List W}
def OJ (v:Int)(A:Hx):q9 2 (gk f) [.int v,.int v] A=.ok (.bl true) A:=by
 refine jb ?_;unfold gk;refine(zT (ρ1:=[some (.int v),some (.int v)]) (A1:=A) ((yh (A1:=A) rfl).trans rfl)).trans (qI (jv ?_));exact(Zw (A1:=A) ((zX (zy (i:=0) rfl) (zy (i:=1) rfl)).trans ((Qw _ _ _).trans (by rw[aC rfl])))).trans rfl
def XS {x y:W}{ty:Ty}(H:zV x A=some ws)(h:zV y A=some ws)(T:ye x A=some ty)(t:ye y A=some ty)(b:ty=.tup∨ty=.lst)(l:ws.length<=1000)(hf:∀w∈ws,f [w,w] A=.ok (.bl true) A):q9 2 (gk f) [x,y] A=.ok (.bl true) A:=by
 refine jb ?_;unfold gk;have d:mQ qR (qp (qh 0)) [some x,some y] A=.ok (.int ws.length) A:=yi (yW (w:=x) (A1:=A) (zy rfl) H);have E:mQ qR (qp (qh 1)) [some x,some y] A=.ok (.int ws.length) A:=yi (yW (w:=y) (A1:=A) (zy rfl) h);have I:YA .tup .lst (qh 1) [some x,some y] A=.ok (.bl true) A:=by
  unfold YA;rw[zy (w:=y) rfl,zF,t];rcases b with rfl|rfl<;>rfl
 have n1:∀c,zh jC (yv c (qh 0)) (yv c (qh 1)) [some x,some y] A=.ok (.bl false) A:=λc=>(zX (Yl (w:=x) (zy rfl) T) (Yl (w:=y) (zy rfl) t)).trans ((TH _ _ _).trans (by rw[a7];rfl))
 refine qI ((wV (A1:=A) I).trans ?_);refine(zT (ρ1:=[some x,some y]) (A1:=A) ((yh (A1:=A) ((Yt (A1:=A) (n1 .tup)).trans (n1 .lst))).trans kj)).trans ?_;refine(zT (ρ1:=[some x,some y]) (A1:=A) ((yh (A1:=A) ((zX d E).trans ((Tw _ _ _).trans (by rw[aC rfl];rfl)))).trans kj)).trans (qI (jv ?_))
 have z:Yy (qh 0) (qh 1) [some x,some y] A=.ok (YQ x y ws.length) A:=by
  unfold Yy;rw[zy (w:=x) rfl,zF,zy (w:=y) rfl,zF,H,h]
 have j:=RN (A:=A) (cap:=[]) (ρ:=[some x,some y]) (me:=zK f (zc (qh 0) (zc (qh 1) zl))) (N:=ws.length) (u:=λi=>ws.getD i .non) (v:=λi=>ws.getD i .non) (g:=λ_=>.bl true) z rfl l
  (λi a=>by
   show(match zV x A,zV y A with|some us,some vs=>some (zip2 us[i]? vs[i]?)|_,_=>none)=_
   rw[H,h];show some (zip2 ws[i]? ws[i]?)=_;rw[ae,aa a];rfl)
  (by
   show(match zV x A,zV y A with|some us,some vs=>some (zip2 us[ws.length]? vs[ws.length]?)|_,_=>none)=_
   rw[H,h];show some (zip2 ws[ws.length]? ws[ws.length]?)=_;rw[aH (aw _)];rfl)
  (λi a=>by
   have e:ws.getD i .non=ws[i]:=by rw[ae,aa a];rfl
   rw[e];exact(qV (ws:=[ws[i],ws[i]]) (A1:=A) rfl).trans (hf _ (aO a)))
 exact(yi j).trans (QW (p:=λ_=>true) λ_ _=>rfl)
def Oa {r:bH}(h:r.length<=100)(A:Hx):KA [zR r,zR r] A=.ok (.bl true) A:=
 XS (ws:=r.map W.int) (ty:=.tup) rfl rfl rfl rfl (.inl rfl) (by simp;omega) λw hw=>by
  obtain⟨v,_,rfl⟩:=bZ.mp hw;exact OJ v A
def Np (h:t.length<=100)(a:∀r∈t,r.length<=100)(A:Hx):kH [zU t,zU t] A=.ok (.bl true) A:=
 XS (ws:=t.map zR) (ty:=.tup) rfl rfl rfl rfl (.inl rfl) (by simp;omega) λw hw=>by
  obtain⟨r,H,rfl⟩:=bZ.mp hw;exact Oa (a r H) A
variable {a:Ea}
def EU {a:W}(h:ρ[i]? =some (some a)):gE [i] ρ=some [a]:=by
 unfold gE;rw[h]
 rfl
end
noncomputable def jl (s:bL):List (bL)->List Nat
 |[]=>[]|[x]=>x|x::y::r=>x++s++jl s (y::r)
theorem QU (sep:Str):∀ps:bM,(Str.join sep ps).cps.toList=jl sep.cps.toList (ps.map λp=>p.cps.toList)
 |[]=>rfl|[x]=>rfl|x::y::r=>by
  show((x++sep++Str.join sep (y::r)).cps).toList=x.cps.toList++sep.cps.toList++jl sep.cps.toList ((y::r).map λp=>p.cps.toList);rw[<- QU sep (y::r)];show(x.cps++sep.cps++(Str.join sep (y::r)).cps).toList=_;rw[toList_append,toList_append]
theorem Ub {c:Nat}:∀{a b x y:bL},c∉a->c∉b->a++[c]++x=b++[c]++y->a=b/\x=y
 |[],[],_,_,_,_,h=>⟨rfl,by simpa using h⟩|[],d::b,_,_,_,H,h=>by
  simp at h;exact absurd (bX.mpr (.inl h.1)) H
 |d::a,[],_,_,f,_,h=>by
  simp at h;exact absurd (bX.mpr (.inl h.1.symm)) f
 |d::a,e::b,x,y,f,H,h=>by
  simp at h;obtain⟨i,g⟩:=h;obtain⟨g1,g2⟩:=Ub (a:=a) (b:=b) (x:=x) (y:=y) (λz=>f (ai _ z)) (λz=>H (ai _ z)) (by simpa using g)
  exact⟨by rw[i,g1],g2⟩
theorem Up {c:Nat}:∀{as bs:List (bL)},as≠[]->bs≠[]->(∀a∈as,c∉a)->(∀b∈bs,c∉b)->jl [c] as=jl [c] bs->as=bs
 |[],_,h,_,_,_,_=>absurd rfl h|_,[],_,h,_,_,_=>absurd rfl h|[a],[b],_,_,_,_,h=>by rw[show a=b from h]|[a],b::B::r,_,_,d,_,h=>by
  have h':a=b++[c]++jl [c] (B::r):=h;exact absurd (by rw[h'];simp) (d a (cb.mpr rfl))
 |a::A::r,[b],_,_,_,H,h=>by
  have h':a++[c]++jl [c] (A::r)=b:=h;exact absurd (by rw[<- h'];simp) (H b (cb.mpr rfl))
 |a::A::r,b::B::f,_,_,d,H,h=>by
  have h':a++[c]++jl [c] (A::r)=b++[c]++jl [c] (B::f):=h;obtain⟨g,E⟩:=Ub (d a (ax ..)) (H b (ax ..)) h';rw[g,Up (as:=A::r) (bs:=B::f) (by simp) (by simp) (λx e=>d x (ai _ e)) (λx e=>H x (ai _ e)) E]
def Mj {y:Str}(h:x.cps.toList=y.cps.toList):x=y:=by
 cases x with
 |mk a=>cases y with
  |mk b=>rw[show a=b from Array.toList_inj.mp h]
theorem Vp:∀{ps Q:bM},(ps.map λp=>p.cps.toList)=(Q.map λp=>p.cps.toList)->ps=Q
 |[],[],_=>rfl|[],_::_,h=>by cases h|_::_,[],h=>by cases h|p::ps,q::Q,h=>by
  rw[aV,aV]at h;injection h with a H
  rw[Mj a,Vp H]
def Pu {c:Nat}(hn:ps≠[])(hf:∀p∈ps,c∉p.cps.toList):Txt.split (Txt.join ⟨#[c]⟩ ps) ⟨#[c]⟩=ps:=by
 have E:Str.join ⟨#[c]⟩ (Txt.split (Txt.join ⟨#[c]⟩ ps) ⟨#[c]⟩)=Str.join ⟨#[c]⟩ ps:=(StrLaws.join_split _ _).trans (StrLaws.glued_eq_join _ _);have e:=congrArg (λx:Str=>x.cps.toList) E;rw[QU,QU]at e;have b:=PyProof.Rows.split_pos (Txt.join ⟨#[c]⟩ ps) ⟨#[c]⟩;refine Vp (Up (c:=c) (λz=>?_) (λz=>hn (List.map_eq_nil_iff.mp z)) (λa H=>?_) (λa H=>?_) e)
 ·have:=congrArg List.length z
  rw[aj]at this;simp at this;rw[this]at b;exact absurd b (by decide)
 ·obtain⟨p,h,rfl⟩:=bZ.mp H
  exact StrLaws.split_free _ c p h
 ·obtain⟨p,h,rfl⟩:=bZ.mp H
  exact hf p h
noncomputable def YE (r:bH):bL:=r.map λv=>48+v.toNat
def jx (r:bH):Str:=Txt.join "" (r.map kQ)
def txt (t:bG):Str:=Txt.join "/" (t.map jx)
def LH:∀v:Nat,v<8->kQ (v:Int)=⟨#[48+v]⟩:=by decide +kernel
def VM {v:Int}(h0:0<=v)(h:v<8):kQ v=⟨#[48+v.toNat]⟩:=by
 obtain⟨k,rfl⟩:=aX h0;exact LH k (by omega)
theorem Ul:∀l:List (bL),jl [] l=l.flatten
 |[]=>rfl|[x]=>by simp[jl]|x::y::r=>by
  show x++[]++jl [] (y::r)=x++(y::r).flatten;rw[Ul (y::r),bo]
def JU {r:bH}(h:∀v∈r,0<=v/\v<8):(jx r).cps.toList=YE r:=by
 have e:jx r=Str.join "" (r.map kQ):=StrLaws.glued_eq_join _ _;rw[e,QU];show jl [] _=_;rw[Ul,aP];unfold YE
 induction r with
 |nil=>rfl|cons v r i=>
  have:=h v (ax ..)
  rw[aV,aV,aR,i (λx H=>h x (ai _ H)) (StrLaws.glued_eq_join _ _)];show(kQ v).cps.toList++_=_;rw[VM this.1 this.2]
  rfl
def Wc {r:bH}(h:∀v∈r,0<=v/\v<8):(jx r).length=r.length:=by
 show(jx r).cps.size=_;rw[<- aM,JU h];unfold YE;exact aj ..
section
variable {r:bH}
def _root_.Mi.qG.lo8 (h:qG t):∀r∈t,∀v∈r,0<=v/\v<8:=λr a v H=>by
 have:=h.lo r a v H
 have:=h.n8
 omega
def U7 {sep:Str}{l:bM}{b:Nat}(a:∀y∈l,y.length<=b)(h:l.length<=8)(c:b<=8)(H:sep.length<=1):JoinOk sep l=true:=by
 unfold JoinOk;rw[not_eq_true'];refine StrLaws.joinFits a ?_;have e:l.length * b<=8 * 8:=Nat.mul_le_mul h c;have d:l.length * sep.length<=8 * 1:=Nat.mul_le_mul h H;omega
def P6 (h:qG t):Txt.split (txt t) "/"=t.map jx:=by
 refine Pu (c:=47) (λz=>?_) (λp a=>?_)
 ·have:=h.n1
  rw[List.map_eq_nil_iff]at z;rw[z]at this;exact absurd this (by decide)
 ·obtain⟨r,H,rfl⟩:=bZ.mp a
  rw[JU (h.lo8 r H)];intro hm;obtain⟨v,_,e⟩:=bZ.mp hm;omega
def LK (h:qG t):(txt t).length<=1000:=by
 have e:txt t=Str.join "/" (t.map jx):=StrLaws.glued_eq_join _ _;rw[e];refine a8 (StrLaws.join_length_le _ _) ?_;have c:=StrLaws.sumLen_le (B:=8) (t.map jx) (λy a=>by
  obtain⟨r,H,rfl⟩:=bZ.mp a;rw[Wc (h.lo8 r H),h.sq r H];exact h.n8)
 have d:=h.n8;rw[aj]at c ⊢;have b:("/":Str).length=1:=by decide +kernel
 rw[b];omega
theorem Ut {c:Nat}:∀{l:List (bL)}{x:Nat},x∈jl [c] l->x=c∨∃a∈l,x∈a
 |[],x,h=>by cases h|[a],x,h=>.inr ⟨a,cb.mpr rfl,h⟩|a::b::r,x,h=>by
  have h':x∈a++[c]++jl [c] (b::r):=h;rcases List.mem_append.mp h' with h'|h'
  ·rcases List.mem_append.mp h' with h'|h'
   ·exact .inr ⟨a,ax ..,h'⟩
   ·exact .inl (cb.mp h')
  ·rcases Ut h' with e|⟨y,H,d⟩
   ·exact .inl e
   ·exact .inr ⟨y,ai _ H,d⟩
def IK (h:qG t):PyData.strOk (txt t)=true:=by
 unfold PyData.strOk;rw[Array.all_eq_true'];intro x d;have e:(txt t).cps.toList=jl [47] ((t.map jx).map λp=>p.cps.toList):=by
  rw[<- show(("/":Str)).cps.toList=[47] by decide +kernel,<- QU]
  exact congrArg (λx:Str=>x.cps.toList) (StrLaws.glued_eq_join _ _)
 have b:=Array.mem_toList_iff.mpr d;rw[e]at b;refine aC ?_;rcases Ut b with rfl|⟨a,i,H⟩
 ·decide
 ·obtain⟨p,g,rfl⟩:=bZ.mp i
  obtain⟨r,c,rfl⟩:=bZ.mp g;rw[JU (h.lo8 r c)]at H;obtain⟨v,f,rfl⟩:=bZ.mp H
  have:=h.lo8 r c v f
  omega
variable {C:Hx}{w v:W}
def strs_map (l:bM):strsOf (l.map W.str)=some l:=by
 induction l with
 |nil=>rfl|cons x l i=>show(strsOf (l.map W.str)).map (x::·)=_;rw[i];rfl
def V6 {ma mb:Ev}{A2:Hx}{sep:Str}{p:Nat}{l:bM}(a:ma ρ A=.ok (.str sep) A1)(H:mb ρ A1=.ok (.ref p) A2)(h:A2[p]? =some (.lst (l.map W.str)))(hok:JoinOk sep l=true):j5 kM ma mb ρ A=.ok (.str (Txt.join sep l)) A2:=by
 unfold j5;rw[a,zF];dsimp only;rw[H,zF];unfold kM;dsimp only;rw[h];dsimp only;rw[strs_map];dsimp only;rw[ah hok]
abbrev Gz:Ev:=j5 kM (zH (.str "")) (qg (zQ 1 [] (qt zp) (zI 0) zW (zM (jf Zg zp))))
def rw_ok (h:∀v∈r,0<=v/\v<8)(l:r.length<=8)(h0:ρ[0]? =some (some (zR r)))(A:Hx):Gz ρ A=.ok (.str (jx r)) (A++[.lst ((r.map kQ).map W.str)]):=by
 have e:=QO (cap:=[]) (A:=A) (ρ:=ρ) (ws:=r.map W.int) (me:=jf Zg zp) (g:=λw=>match w with|.int i=>.str (kQ i)|_=>.non) (zy h0) (by rw[aj];unfold z8;omega) (λw hw=>by
  obtain⟨v,H,rfl⟩:=bZ.mp hw
  have:=h v H
  show(R.ok (W.int v) A).bind (λx A1=>Zg x A1)=_;rw[zF];show(if 0<=v/\v<1000 then R.ok (W.str (kQ v)) A else R.bad)=R.ok (W.str (kQ v)) A;rw[ah (by omega)])
 rw[aP]at e;refine V6 jm (gq e) (jG.trans (by rw[aP];rfl)) (U7 (b:=1) (λy a=>?_) (by rw[aj];exact l) (by decide) (by decide +kernel)) |>.trans ?_
 ·obtain⟨v,H,rfl⟩:=bZ.mp a
  have:=h v H
  rw[VM this.1 this.2];exact aw _
 ·rw[aP]
  rfl
abbrev TV (m:Ev):Ev:=j5 kM (zH (.str "/")) (qg (zQ 1 [] (qt m) (zI 0) zW (zM Gz)))
def U0 {m:Ev}(H:qG t)(h:m ρ A=.ok (zU t) A):∃B,TV m ρ A=.ok (.str (txt t)) B/\Ext A B:=by
 have f:=H.n8;have l:(t.map zR).length=t.length:=aj ..;obtain⟨j,acc,C,e,_,a,x⟩:=JM (nl:=1) (cap:=[]) (mi:=qt m) (tw:=zI 0) (ifs:=zW) (em:=zM Gz) (N:=t.length) (ρ:=ρ) (A:=A)
  (I:=λi ρ acc D=>(∃y,ρ=[y])/\acc=(t.take i).map (λr=>W.str (jx r))/\Ext A D) (Zt (ws:=t.map zR) h) l
  (λi ρ acc D d ⟨⟨y,c⟩,a,x⟩=>by
   subst c a;have hm:=aO d;refine⟨zR t[i],[some (zR t[i])],by show some ((t.map zR)[i]?)=_;rw[av,aa d];rfl,rfl,.inl ⟨D,_,_,_,rfl,JW (rw_ok (H.lo8 _ hm) (by rw[H.sq _ hm];exact f) rfl D) (by rw[aj,bw];unfold z8;omega),⟨_,rfl⟩,?_,x.app⟩⟩
   rw[take_succ d,ba]
   rfl)
  (λρ acc D _=>by show some ((t.map zR)[t.length]?)=_;rw[aH (by omega)]) ⟨⟨none,rfl⟩,rfl,Ext.refl⟩
 rw[take_length]at a;subst a;refine⟨C++[.lst (t.map λr=>W.str (jx r))],V6 jm (gq e) (jG.trans (by rw[aP];rfl)) (U7 (b:=8) (λy k=>?_) (by rw[aj];exact f) (by decide) (by decide +kernel)),x.app⟩
 obtain⟨r,g,rfl⟩:=bZ.mp k;rw[Wc (H.lo8 r g),H.sq r g];exact f
def LP (h:qG t)(A:Hx):Ku [zU t] A=.ok (.str (txt t)) A:=by
 obtain⟨B,e,_⟩:=U0 (m:=zp) (ρ:=[some (zU t)]) (A:=[]) h (zy rfl);refine Qe (A1:=B) (Y4 t) rfl (jb ?_);unfold Xm;exact qI (jv e)
def IM (h:qG t)(A:Hx):ZY [zU t] A=.ok (.str (txt t)) A:=by
 refine Qe (A1:=[]) (Y4 t) rfl (g7 (V2 ?_));unfold Ks;exact(zT (Um ((qV (qF (zy rfl) qW)).trans (PJ h [])))).trans (g7 (qI (jv ((qV (qF (zy rfl) qW)).trans (LP h [])))))
def Iz (h:kD A w):wI [w] A=.exc "NoTable" A:=by
 refine Vv ?_;unfold Ks;exact Wd (Lu ((qV (qF (zy rfl) qW)).trans (Oi h)))
def Nc:∀v:Nat,v<8->Txt.find "0123456789" ⟨#[48+v]⟩=(v:Int):=by decide +kernel
def F5 {v:Int}(h0:0<=v)(h:v<8)(A:Hx):ZW [.str ⟨#[48+v.toNat]⟩] A=.ok (.int v) A:=by
 obtain⟨k,rfl⟩:=aX h0;refine Qe (A1:=[]) rfl rfl (jb ?_);unfold GZ;refine qI (jv ((Fm (A1:=[]) ?_).trans ?_))
 ·rfl
 ·show R.ok (W.int (Txt.find "0123456789" ⟨#[48+(k:Int).toNat]⟩)) []=_
  rw[aL,Nc k (by omega)]
def HE (h:∀v∈r,0<=v/\v<8)(l:r.length<=8)(h0:ρ[0]? =some (some (.str (jx r))))(A:Hx):mQ yS (zQ 1 [] (ZN zp) (zI 0) zW (zM (zK ZW (zc zp zl)))) ρ A=.ok (zR r) A:=by
 have b:=JU h;have z:(jx r).cps.size=r.length:=Wc h;have t:∀i (H:i<r.length),(jx r).cps[i]? =some (48+r[i].toNat):=λi H=>by
  rw[<- bh,b];unfold YE;rw[av,aa H]
  rfl
 have hm:ZN zp ρ A=.ok (Gi (jx r)) A:=by
  unfold ZN;rw[show zp ρ A=.ok (.str (jx r)) A from zy h0,zF]
  dsimp only;refine ah ?_;unfold YB;rw[Array.all_eq_true'];intro x d;have a:=Array.mem_toList_iff.mpr d;rw[b]at a;obtain⟨v,e,rfl⟩:=bZ.mp a
  have:=h v e
  exact aC (by omega)
 have E:=Zo (cap:=[]) (mi:=ZN zp) (j:=Gi (jx r)) (me:=zK ZW (zc zp zl)) (ρ:=ρ) (A:=A) (N:=r.length) (item:=λi=>.str ⟨#[48+(r.getD i 0).toNat]⟩) (g:=λi=>.int (r.getD i 0)) hm z (by unfold z8;omega)
  (λi H=>by
   show some (((jx r).cps[i]?).map λc=>W.str ⟨#[c]⟩)=_;rw[t i H,ae,aa H]
   rfl)
  (by show some (((jx r).cps[r.length]?).map λc=>W.str ⟨#[c]⟩)=_;rw[Array.getElem?_eq_none (by omega)];rfl)
  (λi H=>by
   have:=h (r.getD i 0) (by rw[ae,aa H];exact aO H)
   exact(qV (qF (zy rfl) qW)).trans (F5 this.1 this.2 A))
 refine(Qg E).trans ?_;unfold zR;rw[ZV r 0 W.int]
def Uu (H:qG t)(A:Hx):gN [.str (txt t)] A=.ok (zU t) A:=by
 have l:=H.n8;refine Qe (A1:=[.lst ((t.map jx).map W.str)]) rfl (J6 t) (g7 (V2 ?_));unfold Xa;have E:j5 gx zp (zH (.str "/")) [some (.str (txt t)),none] []=.ok (.ref 0) [.lst ((t.map jx).map W.str)]:=by
  show gx (.str (txt t)) (.str "/") []=_;unfold gx;dsimp only
  have:=LK H
  rw[ah ⟨by decide +kernel,by omega⟩,P6 H]
  rfl
 have f:([.lst ((t.map jx).map W.str)]:Hx)[0]? =some (.lst ((t.map jx).map W.str)):=rfl;have z:((t.map jx).map W.str).length=t.length:=by rw[aj,aj]
 obtain⟨g,acc,C,e,_,j,a⟩:=JM (nl:=1) (cap:=[]) (mi:=qt (j5 gx zp (zH (.str "/")))) (tw:=zI 0) (ifs:=zW) (em:=zM (mQ yS (zQ 1 [] (ZN zp) (zI 0) zW (zM (zK ZW (zc zp zl)))))) (N:=t.length) (ρ:=[some (.str (txt t)),none]) (A:=[])
  (I:=λi ρ acc D=>(∃y,ρ=[y])/\D=[.lst ((t.map jx).map W.str)]/\acc=(t.take i).map zR) (J9 E f) z
  (λi ρ acc D c ⟨⟨y,b⟩,d,a⟩=>by
   subst b d a;have hm:=aO c;refine⟨.str (jx t[i]),[some (.str (jx t[i]))],HJ f (by rw[av,av,aa c];rfl),rfl,.inl ⟨_,_,_,_,rfl,JW (HE (H.lo8 _ hm) (by rw[H.sq _ hm];exact l) rfl _) (by rw[aj,bw];unfold z8;omega),⟨_,rfl⟩,rfl,?_⟩⟩
   rw[take_succ c,ba]
   rfl)
  (λρ acc D h=>by obtain⟨_,d,_⟩:=h;subst d;exact HS f (by omega)) ⟨⟨none,rfl⟩,rfl,rfl⟩
 rw[take_length]at a;subst j a;refine(zT ((yh (A1:=[]) (g7 (wc (k:=true) rfl))).trans kj)).trans ?_;refine(zT (qP (Qg e))).trans ?_;refine(zT ((yh (g7 (wc (k:=true) ((qV (qF (zy rfl) qW)).trans (V3 H _))))).trans kj)).trans ?_;exact g7 (qI (jv (zy rfl)))
def HC (h:PyData.strOk x=true)(A:Hx):kH [.str x,.str x] A=.ok (.bl true) A:=by
 unfold kH Xs;refine jb ?_;unfold gk;have E:zh je zp zw [some (.str x),some (.str x)] A=.ok (.bl true) A:=(zX (zy rfl) (zy rfl)).trans (by
  show gf false (.str x) (.str x) A=_;unfold gf;have e:qf A 8 (.str x)=some (.str x):=by unfold qf;rw[ah h]
  rw[e];dsimp only;rw[ar (by simp)]
  congr 2
  show(x==x)=true;exact a7 x)
 exact(zT ((yh (A1:=A) rfl).trans kj)).trans (qI (jv ((Zw E).trans rfl)))
end
section
variable {g:Nat}{u:W}{PF:jq}
def Er (A:Hx):yA LS 0 [u] A=wI [u] A:=by
 rw[Li (t:=Z7 wI) rfl];unfold Z7 Tf;dsimp only;exact qV (ws:=[u]) (A1:=A) rfl
abbrev BL (P:Addr)(PF:jq):Ex:=zq (zZ 2 (zK ZX (zc zp (zc zw zl)))) (zq (zZ 3 (zK Zm (zc qd zl))) (zq (zZ 4 (TV qa)) (zq (qO (kS (yu (zK kH (zc (zK ZY (zc qa zl)) (zc jB zl)))) (yu (zK kH (zc (zK gN (zc jB zl)) (zc qa zl))))) wH zE) (zq (zZ 5 (zK Zl (zc qd zl))) (zq (qO (zh jC (Qc (g8 wI) PF (Qj RF) (zc (gz 1 jM P 0 (PF 0)) zl)) (qc (zc zD zl))) wH zE) zE)))))
def MZ {x2 x3 x4 x5:Option W}(h0:A[0]? =some (.ro (ns.map W.int)))(d:A[1]? =some (.tab jM Pt)):
  ∃j i Y y B,BL Pt PF [some (.ref 0),some (.int (k:Int)),x2,x3,x4,x5] A=.ok (.nx [some (.ref 0),some (.int (k:Int)),j,i,Y,y]) B/\B[0]? =some (.ro (ns.map W.int))/\B[1]? =some (.tab jM Pt):=by
 obtain⟨o,e,s1⟩:=Mn h0 k;have H:=gr d;have f:(A++[o])[0]? =some (.ro (ns.map W.int)):=yC h0;have g1:(A++[o])[1]? =some (.tab jM Pt):=yC d;generalize q:A++[o]=A1 at e s1 f g1;generalize A.length=n at e s1 H;obtain⟨t,A2,v,h,k2⟩:=Ie s1;have w:=h.n8;obtain⟨a,u,X⟩:=U0 (m:=qa) (ρ:=[some (.ref 0),some (.int (k:Int)),some (.ref n),some (zU t),x4,x5]) (A:=A2) h (zy rfl);have k3:=k2.trans (Kn.ext k2.st X);obtain⟨bad,b,s,p,k5⟩:=FI k3.st;have K:=k3.trans k5;have T:b[1]? =some (.tab jM Pt):=K.kp.get g1 (by omega)
 obtain⟨B,E,c⟩:=Pm (k:=0) (g:=0) (PF:=PF) (ρ:=[some (.ref 0),some (.int (k:Int)),some (.ref n),some (zU t),some (.str (txt t)),some bad]) (A:=b) (t:=Z7 wI) (ws:=[bad]) (x := "NoTable") T rfl (EU rfl) ((Er b).trans (Iz p)) Rq;refine⟨some (.ref n),some (zU t),some (.str (txt t)),some bad,B,?_,c.at (K.kp.get f (by omega)),c.at T⟩
 refine(zT (qP ((qV (qF (zy rfl) (qF (zy rfl) qW))).trans e))).trans ?_;refine(zT (qP ((qV (qF (zy rfl) qW)).trans v))).trans ?_;refine(zT (qP u)).trans ?_;refine(zT ((yh ((Yt (wc (k:=true) ((qV (qF ((qV (qF (zy rfl) qW)).trans (IM h a)) (qF (zy rfl) qW))).trans (HC (IK h) a)))).trans (wc (k:=true) ((qV (qF ((qV (qF (zy rfl) qW)).trans (Uu h a)) (qF (zy rfl) qW))).trans (Np (by omega) (λr l=>by rw[h.sq r l];omega) a))))).trans kj)).trans ?_
 refine(zT (qP ((qV (qF (zy rfl) qW)).trans s))).trans ?_;exact(zT ((yh E).trans kj)).trans kj
end
def LU:qG [[0]]:=VW (by decide +kernel)
def M8:txt [[0]] = "0":=by decide +kernel
def WQ (P:Addr)(PF:jq):Fn:=q9 6 (WZ Zl kH ZX Zm gN ZY wI RF P PF)
def NX:Ug jM WQ:=λns u P PF=>by
 have s:zV (.ref 0) [.ro (ns.map W.int),.tab jM P]=some (ns.map W.int):=rfl;have p:mQ qR (qp zp) [some (.ref 0),none,none,none,none,none] [.ro (ns.map W.int),.tab jM P]=.ok (.int ns.length) [.ro (ns.map W.int),.tab jM P]:=by
  rw[yi (yW (w:=.ref 0) (A1:=[.ro (ns.map W.int),.tab jM P]) (zy rfl) s)];unfold qR;rw[aj]
 have em:zh WL zL (zh Zc (mQ qR (qp zp)) Jm) [some (.ref 0),none,none,none,none,none] [.ro (ns.map W.int),.tab jM P]=
   .ok (.int (if (if (10:Int)<ns.length then 10 else(ns.length:Int)) > 1 then(if (10:Int)<ns.length then 10 else(ns.length:Int)) else 1)) [.ro (ns.map W.int),.tab jM P]:=
  (zX (jm (w:=.int 1)) ((zX p (jm (w:=.int 10))).trans rfl)).trans rfl
 generalize l:(if (if (10:Int)<ns.length then 10 else(ns.length:Int)) > 1 then(if (10:Int)<ns.length then 10 else(ns.length:Int)) else 1)=v at em;have H:jy v=true:=by
  have:0<=v/\v<1000:=by
   rw[<- l]
   split<;>split<;>omega
  obtain⟨k,rfl⟩:=aX this.1;exact RU (by omega)
 obtain⟨g,B,e,_,_,c,b,a,Y,y,h⟩:=KP (j:=yZ 0 v.toNat) (st:=turn (zI 1) (BL P PF)) (N:=v.toNat) (I:=λ_ ρ B=>B[0]? =some (.ro (ns.map W.int))/\B[1]? =some (.tab jM P)/\∃c b a Y y,ρ=[some (.ref 0),c,b,a,Y,y])
  (λi ρ B n ⟨h0,o,c,b,a,Y,y,h⟩=>by
   subst h;obtain⟨t,r,Z,z,q,e,f,d⟩:=MZ (k:=i) (PF:=PF) (x2:=b) (x3:=a) (x4:=Y) (x5:=y) h0 o;refine⟨_,_,q,Q0 n,(QP (ρ1:=[some (.ref 0),some (.int (i:Int)),b,a,Y,y]) ?_).trans e,f,d,_,_,_,_,_,rfl⟩;rw[zero_add];rfl)
  (λρ B _=>QS (by omega)) v.toNat 0 [some (.ref 0),none,none,none,none,none] [.ro (ns.map W.int),.tab jM P] (by omega) ⟨rfl,rfl,_,_,_,_,_,rfl⟩
 subst h;refine⟨B,jb ?_⟩;unfold WZ;have E:zK gN (zc (zH (.str "0")) zl) [some (.ref 0),c,b,a,Y,y] B=.ok (zU [[0]]) B:=(qV (qF jm qW)).trans (by rw[<- M8];exact Uu LU B)
 refine(zT ((QQ (K7 em H)).trans e)).trans (qI (jv ((zX E (Wn (qF (Wn (qF jm qW)) qW))).trans ?_)))
 kernel_rfl
section
variable {K:Frag}
def So (Z:Zz K h mg){PG:jq}{lam:Nat->Fn}(H:∀k,ZF P w K mg base 7 (PG k) (lam k)):zS P w K mg base 8 "_law_refused" 1 ((q9 4 (QD PG lam))):=by
 obtain⟨f,fd,F,a⟩:=Z.T.Sw;exact(SD (k:=7) Z.B Z.C Z.T.F0 F (a3 Z.X Z.G a) (aw _) H)
def IV (Z:Zz K h mg)(F:kf K "law" "law" Jb f fd)(hn:nsIn K mainGlobals "law"=some (some (.ref f)))(H:tabIn K "law"=some (c,Pt))(a:BMain mg base)(C:CodeHd base c Pt):j7 P w K mg base kZ 9 f fd ["_law_script"] (spT K 1 (WQ Pt)):=
 o_law (k:=8) (j:=6) (kk:=8) Z.B F hn H a C (Sh Z).up (RP Z).up (Ro Z).up (RB Z).up (Rp Z).up (RK Z).up (by decide)
  (Eb (k:=6) Z.B (λbase=>(G3 Z).up)) (λbase PG L=>(So Z L).imp λus A _=>Ia us A)
def all_mk {l:PySem.W.OpenLaw}{i:Addr}(X:K.In h)(Gl:h.Ns mainGlobals mg)(b:mg "law"=some (.ref i))(T:Tx K)(H:∃c,tabIn K "law"=some (c,Pt)/\codeHdIn K c Pt=true):
  ∃fd:FuncData,(∀(s:Shared)(v:Value),BindsTo s fd ⟨[v],[]⟩ [("_law_script",v)])/\∀base:Heap,K.In base->base.Ns mainGlobals mg->BMain mg base->j7 l.prog w K mg base kZ 9 i fd ["_law_script"] (spT K 1 (WQ Pt)):=by
 obtain⟨c,H,d⟩:=H;obtain⟨f,fd,F,a⟩:=T.Fs;have e:=b.symm.trans (a3 X Gl a);cases e;obtain⟨n,j,kV,doc,pm,an,C,ct,o,rfl,lk,g⟩:=id F.ex;exact⟨_,λs v=>.of_eq rfl,λbase k nb B=>IV (zz X Gl T) F a H B (codeHd_of_K k d)⟩
end
end G
namespace PySem.W.Fast
def tw5427734837690255956:Nat:=0
def tw8588796283334183951:Nat:=0
def tw156822552446093891:Nat:=0
def tw6398821996739062478:Nat:=0
def tw15479523010449518911:Nat:=0
def tw10475158733303466822:Nat:=0
def tw934131313673546888:Nat:=0
def tw8104824829890675022:Nat:=0
def tw7183417613047033033:Nat:=0
def tw12221894529358790261:Nat:=0
def tw18274623479591770061:Nat:=0
def tw8190092167151893761:Nat:=0
def tw2654292086732338837:Nat:=0
def tw849862682238609666:Nat:=0
def tw9007160133591905087:Nat:=0
def tw9061172664299327466:Nat:=0
def tw4447806085122673266:Nat:=0
def tw193302471638880381:Nat:=0
def tw10148991272074656394:Nat:=0
def tw3979352276012458275:Nat:=0
def tw9224502381207061669:Nat:=0
def tw7698852837082865300:Nat:=0
def tw5136521417847341325:Nat:=0
def tw11163032471341408752:Nat:=0
def tw8316522823867607278:Nat:=0
def tw17065035046618044936:Nat:=0
def tw11294957071584260620:Nat:=0
def tw8937924044268910072:Nat:=0
def tw14024173245116988915:Nat:=0
def tw10602373116764565785:Nat:=0
def tw10726002953110818990:Nat:=0
def tw1408599400593123653:Nat:=0
def tw13228288196544712895:Nat:=0
def tw12551006660758128416:Nat:=0
def tw8960633913072839975:Nat:=0
def tw4970591472717576298:Nat:=0
def tw4878448156207341081:Nat:=0
def tw12215279678420316902:Nat:=0
def tw18214218094662601365:Nat:=0
def tw5176592081599829970:Nat:=0
def tw2858111378397294648:Nat:=0
def tw6316512341866074143:Nat:=0
end PySem.W.Fast
open PySem PySem.W PyProof.Rows
set_option maxRecDepth 100000 in
set_option maxHeartbeats 0 in
theorem PySem.Challenge.cw_nearkinds_k90_texts_of_tables_holds : PySem.Challenge.rw_nearkinds_k90_texts_of_tables.Holds := by
 w_on;o_law;k_head;(case hw=>w_witness2)
 k_fill
 refine' Mi.Fe (l:=PySem.Challenge.rw_nearkinds_k90_texts_of_tables) (k:=9) (x := "_law_script") G.NX rfl rfl ⟨rfl,by decide,by decide⟩ (λw h Y=>PySem.W.km_in_of Y) (λw h Y=>PySem.W.km_tabs_of Y _ (ax ..)) ?ht ?hKP ?F
 case ht=>exact λp=>by kernel_rfl
 case hKP=>exact λp=>by kernel_rfl
 case F=>
  intro w mg fa h KX Gl hmg ht;have T:G.Tx (L2.Tt KX):=by
   dsimp only [L2.Tt]
   apply G.Tx.mk<;>first | (refine' Mi.F4 ?a ?l ?c ?k;(case a=>k_is);(case l=>k_is);(case c=>k_is);(case k=>k_is)) | (refine' Mi.FR ?a;(case a=>k_is)) | (refine' Mi.HN ?a;(case a=>k_is)) | k_is|kernel_rfl
  exact G.all_mk KX Gl hmg T ht
