import PyProof.Rows.All
import Wide.All
import OpenK.AllK
import Wide.FinOn
import Lean
import PyProof.EqAt
import PyProof.EqKinds
import PyProof.TupleCall
import OpenK.KOwn
import PyProof.Rows.FStr
import PyProof.FString
import PyProof.NsDelKeeps
import KE.KIsAll
import PyProof.ExcArgs
import KE.KLam
import KE.KNestM
import PyProof.Rows.SetFrom
import PyProof.ListMulRoad
import PyProof.FactsAll.set_1
import PyProof.FactsAll.set_2
import PyProof.CollectIter
import PyProof.TupleIter
import PyProof.CollectWalk
import PyProof.Rows.SortShell
import PyProof.SumAny
import PyProof.ListOps
import KE.KDictList
import PyProof.NoPylong
import KE.KUnpack
import KE.KSortTup
import PySem.Challenge.RW_nearkinds_k50_lots_of_told_nearness
noncomputable section
open PySem.W (Frag)
open List (all_map any_cons concat_eq_append cons_append drop_length drop_zero eq_nil_or_concat ext_getElem? filter_append forIn_cons forIn_nil length_nil length_set lookup_cons map_id map_nil mem_append_left mem_cons mem_map mem_of_getElem? mem_range nil_append of_mem_zip range_eq_range' range_succ reverse_cons take_zero)
open Nat (le_add_right le_of_eq le_succ lt_or_ge lt_trans zero_le)
open Int (emod_nonneg)
open Option (any_eq_true)
open PySem.W (CodeHd callWith_K cellsFrom_some codeHdIn codeHd_of_K codeIn envX fnOf hideAll hideAll_none hideAll_size instObj keepIn kitAny kitOne kitx_bool kitx_dict kitx_float kitx_int kitx_list kitx_none kitx_str kitx_tuple kla_fn kla_obj lookIn methodObj nsIn of_hideAll plainGet tabIn tabObj)
open PySem.F (args_tuple_add_2 entry_tuple_add plain_sum_loop slot_set_iter slot_tuple_add)
abbrev aa:=@List.getElem?_eq_getElem
abbrev ae:=@List.getD_eq_getElem?_getD
abbrev af:=@PySem.Heap.get?_push_of_some
abbrev ag:=@List.length_map
abbrev ah:=@if_pos
abbrev ai:=@decide_eq_true_iff
abbrev aj:=@if_neg
abbrev ak:=@Bool.and_eq_true
abbrev ao:=@List.getElem?_append_left
abbrev aq:=@List.mem_cons_of_mem
abbrev ar:=@Nat.le_refl
abbrev au:=@List.mem_cons_self
abbrev av:=@PySem.Heap.get?_push_size
abbrev aw:=@List.length_append
abbrev ax:=@List.getElem?_map
abbrev ay:=@List.getElem?_append_right
abbrev az:=@decide_eq_true
abbrev aA:=@Bool.false_ne_true
abbrev aB:=@List.size_toArray
abbrev aC:=@Option.some.inj
abbrev aD:=@Nat.lt_of_lt_of_le
abbrev aE:=@List.getElem?_eq_none
abbrev aF:=@PySem.Heap.lt_size
abbrev aG:=@List.getElem?_set_ne
abbrev aH:=@List.getElem?_set_self
abbrev aI:=@Nat.ne_of_lt
abbrev aJ:=@decide_eq_false
abbrev aK:=@Int.toNat_natCast
abbrev aL:=@List.map_append
abbrev aM:=@List.getElem_mem
abbrev aN:=@beq_iff_eq
abbrev aO:=@List.append_assoc
abbrev aP:=@List.map_map
abbrev aQ:=@PySem.Heap.get?_update_other
abbrev aR:=@Array.length_toList
abbrev aS:=@List.length_singleton
abbrev aT:=@Nat.lt_irrefl
abbrev aU:=@List.mem_append_right
abbrev aV:=@List.length_range
abbrev aW:=@List.map_cons
abbrev aX:=@PySem.W.mg_of
abbrev aY:=@List.flatten_cons
abbrev aZ:=@List.pairwise_singleton
abbrev a5:=@PySem.W.mg_none_of
abbrev a6:=@Nat.lt_succ_of_lt
abbrev a7:=@List.replicate_succ
abbrev a8:=@List.append_nil
abbrev a9:=@Bool.false_eq_true
abbrev ba:=@PySem.Heap.get?_update_self
abbrev bb:=@Nat.le_trans
abbrev bc:=@List.length_take
abbrev bf:=@List.getElem?_range
abbrev bg:=@PySem.Heap.size_push
abbrev bh:=@Nat.lt_succ_self
abbrev bj:=@List.length_cons
abbrev bo:=@Int.eq_ofNat_of_zero_le
abbrev bp:=@List.filterMap_cons
abbrev bq:=@List.take_length
abbrev br:=@Nat.ne_of_gt
abbrev bt:=@beq_self_eq_true
abbrev bw:=@List.map_congr_left
abbrev bx:=@List.getElem_of_mem
abbrev bz:=@List.ext_getElem
abbrev bA:=@List.all_eq_true
abbrev bB:=@List.length_filter_le
abbrev bC:=@Nat.le_of_lt
abbrev bD:=@Bool.or_eq_true
abbrev bE:=@Array.getElem?_toList
abbrev bF:=@List.getElem?_replicate
abbrev bG:=@List.filter_cons_of_pos
abbrev bH:=@List.pairwise_map
abbrev bI:=@PySem.W.kia_one
abbrev bJ:=@List.mem_filter
abbrev bK:=@List.length_replicate
abbrev bL:=@List.length_drop
abbrev bM:=@Int.toNat_of_nonneg
abbrev bN:=@PySem.W.hideAll_get
abbrev bO:=@Int.zero_add
abbrev bP:=@Int.emod_lt_of_pos
abbrev bQ:=@List.range'_succ
abbrev bR:=@List.pairwise_lt_range
abbrev bS:=@List.not_mem_nil
abbrev bT:=List (List Int)
abbrev bU:=List Int
abbrev bV:=List PySem.Value
abbrev bW:=List PySem.Addr
abbrev bX:=List (PySem.Addr×PySem.Obj)
abbrev bY:=List Nat
abbrev bZ:=List PySem.Str
abbrev b8:=PySem.Value->PySem.Shared->Prop
abbrev b9:=List PySem.Expr
abbrev cb:=Option Int
abbrev cc:=PySem.Str->Option PySem.Value
abbrev cf:=List PySem.Env
abbrev cg:=List (PySem.Str×PySem.Addr)
abbrev ck:=List PySem.Keyword
abbrev cm:=Option PySem.Addr
abbrev cn:=List PySem.Stmt
abbrev cq:=@PySem.wpAny_bind
abbrev cu:=@PySem.wpAny_pure
abbrev cx:=@List.getElem?_eq_some_iff
abbrev cw:=@List.mem_cons
abbrev cB:=@List.all_eq_true
abbrev cz:=@List.mem_range
abbrev cy:=@List.mem_map
abbrev cA:=@List.mem_singleton
abbrev cC:=@List.mem_append
set_option Elab.async false
set_option linter.all false
set_option maxRecDepth 1000000
set_option maxHeartbeats 4000000
variable {XP:(PySem.Str->Option PySem.Value)->PySem.Heap->Prop}{D Pt a b c f:PySem.Addr}{osl:Array (Option PySem.Value)}{items:Array PySem.Value}{led:Bool}{op:PySem.CmpOp}{env:PySem.Env}{e elt iter tg:PySem.Expr}{fd:PySem.FuncData}{base h:PySem.Heap}{pins:List (PySem.Addr×PySem.Obj)}{es:List (Int×PySem.Value)}{ks t:bT}{cells:List (PySem.Str×PySem.Addr)}{fp φ:List PySem.Addr}{gens gs:List PySem.Comprehension}{elts ifs:List PySem.Expr}{ns:bU}{cap vs:bY}{body:List PySem.Stmt}{N ps:List PySem.Str}{its us:List PySem.Value}{M:PySem.Model}{i j k kk n t':Nat}{μ:Nat->Nat->Int}{p pos tpos:PySem.Pos}{P:PySem.Program}{d:PySem.PyData}{sc scope:PySem.Scope}{s s':PySem.Shared}{qual x:PySem.Str}{mg:PySem.Str->Option PySem.Value}{α:Type}{u:PySem.Value}{E Q:PySem.Value->PySem.Shared->Prop}{w:PySem.World}
namespace L2
open PySem PySem.Spec PyProof.Rows
noncomputable abbrev Key:=Sum Int Str
noncomputable def MZ:Key->Value->Bool
 |.inl k,v=>Value.isInt k v|.inr x,v=>Value.isStrOf x v
noncomputable def cD (w:World):Key->Int
 |.inl k=>hashInt k|.inr x=>hashStr w x
theorem Qa:∀{k:Key}{v:Value},MZ k v=true->(∃i t,k=Sum.inl i/\v=Value.int i t)∨(∃x t,k=Sum.inr x/\v=Value.str x t)
 |.inl i,v,h=>by
  obtain⟨t,e⟩:=Value.isInt_shape (k:=i) (v:=v) h;exact .inl ⟨i,t,rfl,e⟩
 |.inr x,v,h=>by
  obtain⟨t,e⟩:=Value.isStrOf_shape (x:=x) (v:=v) h;exact .inr ⟨x,t,rfl,e⟩
def cE (a b:Int):decide ((Sum.inl a:Key)=Sum.inl b)=(a==b):=by
 by_cases e:a=b
 ·subst e;simp
 ·have h:¬(Sum.inl a:Key)=Sum.inl b:=λq=>e (Sum.inl.inj q)
  rw[aJ h];exact(beq_eq_false_iff_ne.mpr e).symm
def cF (a b:Str):decide ((Sum.inr a:Key)=Sum.inr b)=decide (a=b):=by
 by_cases e:a=b
 ·subst e;simp
 ·have h:¬(Sum.inr a:Key)=Sum.inr b:=λq=>e (Sum.inr.inj q)
  rw[aJ h,aJ e]
def cG (a:Int)(b:Str):decide ((Sum.inl a:Key)=Sum.inr b)=false:=aJ (λq=>nomatch q)
def cH (a:Str)(b:Int):decide ((Sum.inr a:Key)=Sum.inl b)=false:=aJ (λq=>nomatch q)
def Uu (prog:Program)(w:World):PySem.KeyKind prog w Key where
 is:=MZ
 hash:=cD w
 inj:=λv a b f c=>by
  rcases Qa f with ⟨i,t,rfl,rfl⟩|⟨x,t,rfl,rfl⟩
  ·rcases Qa c with ⟨j,u,rfl,e⟩|⟨y,u,rfl,e⟩
   ·injection e with E _;rw[E]
   ·exact nomatch e
  ·rcases Qa c with ⟨j,u,rfl,e⟩|⟨y,u,rfl,e⟩
   ·exact nomatch e
   ·injection e with E _;rw[E]
 byValue:=λk v h=>by
  rcases Qa h with ⟨i,t,rfl,rfl⟩|⟨x,t,rfl,rfl⟩<;>rfl
 pyHash:=λH h=>by
  rcases Qa H with ⟨i,t,rfl,rfl⟩|⟨x,t,rfl,rfl⟩
  ·exact wpAny_pyHash_int h
  ·exact wpAny_pyHash_str h
 eqBool:=λd H h=>by
  rcases Qa d with ⟨i,t,rfl,rfl⟩|⟨x,t,rfl,rfl⟩
  ·rcases Qa H with ⟨j,u,rfl,rfl⟩|⟨y,u,rfl,rfl⟩
   ·rw[cE]at h;exact wpAny_eqBool_int h
   ·rw[cG]at h;exact SeqAt.EqAt.int_str i t y u _ _ _ _ h
  ·rcases Qa H with ⟨j,u,rfl,rfl⟩|⟨y,u,rfl,rfl⟩
   ·rw[cH]at h;exact SeqAt.EqAt.str_int x t j u _ _ _ _ h
   ·rw[cF]at h;exact wpAny_eqBool_str h
 «strs»:=λk x t v h=>by
  rcases Qa h with ⟨i,u,rfl,e⟩|⟨y,u,rfl,e⟩
  ·exact nomatch e
  ·injection e with E _
   subst E;cases v<;>rfl
inductive V where
 |non|bl (b:Bool)|int (i:Int)|str (x:Str)|byt (b:Array UInt8)|flt (b:UInt64)|ref (a:Addr)|ty (n:String)
 deriving DecidableEq
noncomputable def RelV:V->Value->Prop
 |.non,u=>u=Value.none|.bl b,u=>u=Value.bool b|.int i,u=>∃t,u=Value.int i t|.str x,u=>∃t,u=Value.str x t|.byt b,u=>∃t,u=Value.bytes b t|.flt b,u=>∃t,u=Value.float b t|.ref a,u=>u=Value.ref a|.ty n,u=>u=Value.type n
abbrev Vals:List V->List Value->Prop:=Paired RelV
theorem Vals.length {xs:List V}(r:Vals xs us):xs.length=us.length:=Paired.length r
theorem Vals.get:∀{xs:List V}{us:bV}{i:Nat}{x:V},Vals xs us->xs[i]? =some x->∃u,us[i]? =some u/\RelV x u
 |_,_,_,_,.nil,e=>by simp at e|_,_,0,_,.cons r _,e=>by simp at e;subst e;exact⟨_,rfl,r⟩|_,_,i+1,x,.cons _ t,e=>by
  obtain⟨u,H,h⟩:=Vals.get (i:=i) (x:=x) t (by simpa using e)
  exact⟨u,by simpa using H,h⟩
theorem Vals.set {x:V}(r:RelV x u):∀{xs:List V}{us:bV}(i:Nat),Vals xs us->Vals (xs.set i x) (us.set i u)
 |_,_,_,.nil=>.nil|_,_,0,.cons _ t=>.cons r t|_,_,i+1,.cons q t=>.cons q (Vals.set r i t)
theorem Vals.append:∀{xs ys:List V}{us ws:bV},Vals xs us->Vals ys ws->Vals (xs++ys) (us++ws)
 |_,_,_,_,.nil,s=>s|_,_,_,_,.cons r t,s=>.cons r (Vals.append t s)
theorem Vals.take:∀{xs:List V}{us:bV}(n:Nat),Vals xs us->Vals (xs.take n) (us.take n)
 |_,_,0,_=>.nil|_,_,_+1,.nil=>.nil|_,_,n+1,.cons r t=>.cons r (Vals.take n t)
theorem Vals.drop:∀{xs:List V}{us:bV}(n:Nat),Vals xs us->Vals (xs.drop n) (us.drop n)
 |_,_,0,r=>r|_,_,_+1,.nil=>.nil|_,_,n+1,.cons _ t=>Vals.drop n t
def Vals.none_of:∀{xs:List V}{us:bV}{i:Nat},Vals xs us->xs[i]? =none->us[i]? =none:=λ {xs us i} r e=>by
 have H:=r.length;have h:xs.length<=i:=List.getElem?_eq_none_iff.mp e;exact List.getElem?_eq_none_iff.mpr (by omega)
def TR:Option V->Option Value->Prop
 |some v,some u=>RelV v u|none,none=>True|_,_=>False
def KV {κ:Type}:List (κ×V)->List (κ×Value)->Prop:=Paired λ(p:κ×V) (q:κ×Value)=>p.1=q.1/\RelV p.2 q.2
noncomputable def kV:Key->V
 |.inl i=>.int i|.inr x=>.str x
inductive HO where
 |lst (xs:List V)
 |tup (xs:List V)
 |dK (kvs:List (Key×V))|dT (kvs:List (List Key×V))
 |set (S:Int->Bool) (n:Nat)
 |ins (C dx:Addr) (fs:List (Str×V))
 |own (x:Addr)
 |xd (fs:List (Str×V))
 |met (f x:Addr)
 |rng (lo hi:Int)
 |frz (o:Obj) (u:HO)
 |tbl (ps:Array Value)
 |ext (φ:Heap->Prop)
noncomputable abbrev Hp:=Addr->Option HO
noncomputable def upd (H:Hp)(a:Addr)(o:HO):Hp:=λb=>if b=a then some o else H b
def jS {H:Hp}{o:HO}:upd H a o a=some o:=by unfold upd;rw[ah rfl]
def qI {H:Hp}{o:HO}(h:b≠a):upd H a o b=H b:=by unfold upd;rw[aj h]
def K9 {H:Hp}{o u:HO}(h:H a=some o)(h':H b=some u)(d:o≠u):a≠b:=by
 intro e;subst e;rw[h]at h';exact d (aC h')
def wH {H:Hp}{o:HO}(h:H a=some o)(h':H b=none):a≠b:=by
 intro e;subst e;rw[h]at h';cases h'
def Qs (h:Heap)(a:Addr)(items:Array Value):Prop:=∃o,h.get? a=some o/\(o.cls=.type "tuple" /\ o.dict=none)/\∃n,o.data=.seq items n
def Qs.tup {h:Heap}{a:Addr}{items:Array Value}(x:Qs h a items):IsTup h a items:=let ⟨o,e,c,d⟩:=x;⟨o,e,c.1,d⟩
def Qs.new (h:Heap)(items:Array Value):Qs (h.push { cls:=.type "tuple",data:=.seq items }) h.objs.size items:=⟨_,av h rfl,⟨rfl,rfl⟩,0,rfl⟩
section
variable (P:Program)(w:World)
def jF (H:Hp)(h:Heap)(a:Addr):HO->Prop
 |.lst xs=>xs.length<=sizeLine/\∃(its:bV) (n:Nat),Vals xs its/\h.get? a=some { cls:=.type "list",data:=.seq its.toArray n }
 |.tup xs=>xs.length<=sizeLine/\∃its:bV,Vals xs its/\Qs h a its.toArray|.dK k=>k.length<=sizeLine/\(a==sysModules)=false/\∃vs,KV k vs/\h.DictOf (Uu P w) a vs|.dT k=>k.length<=sizeLine/\(a==sysModules)=false/\∃xs:List (List Key×Addr×Value),
   Paired (λ(p:List Key×V) (q:List Key×Addr×Value)=>p.1=q.1/\H q.2.1=some (.tup (p.1.map kV))/\RelV p.2 q.2.2) k xs/\
   ∃o e E,h.get? a=some o/\o.ExactDict/\o.data=.dict e E/\e.toList=xs.map (entryOfKey (tupleKind (Uu P w)))/\(xs.map (·.1)).Nodup
 |.set S n=>h.SetOf (intKind P w) a S n|.ins C d fs=>H d=some (.own a)/\fs.length<=1000/\d≠a/\h.get? a=some (instObj C d)/\
   ∃M,h.Ns1 d M/\(∀f,TR (fs.lookup f) (M f))/\PySem.Within M (fs.map (·.1))
 |.own _=>∃o,h.get? a=some o|.xd fs=>∃M,h.Ns1 a M/\∀f,TR (fs.lookup f) (M f)|.rng lo hi=>∃t u v,h.get? a=some { cls:=.type "range",data:=.fields #[.int lo t,.int hi u,.int 1 v] }
 |.frz o u=>h.get? a=some o/\jF H h a u|.tbl ps=>h.get? a=some { cls:=.none,data:=.fields ps }|.met f x=>h.get? a=some (methodObj (.ref f) (.ref x))|.ext φ=>φ h/\(∃o,h.get? a=some o)/\∀c b:Heap,φ c->(∀o,c.get? a=some o->b.get? a=some o)->φ b
def yF (H:Hp)(h:Heap):Prop:=∀a o,H a=some o->jF P w H h a o
end
section
variable {H H':Hp}{h':Heap}{o:HO}
theorem jF.lt (x:jF P w H h a o):a<h.objs.size:=by
 cases o with
 |lst xs=>obtain⟨_,_,_,_,e⟩:=x;exact aF e|tup xs=>obtain⟨_,_,_,p⟩:=x;exact p.tup.lt|dK k=>obtain⟨_,_,_,_,o,_,_,e,_⟩:=x;exact aF e|dT k=>obtain⟨_,_,_,_,o,_,_,e,_⟩:=x;exact aF e|set S n=>obtain⟨o,_,_,_,e,_⟩:=x;exact aF e|ins C d fs=>obtain⟨_,_,_,e,_⟩:=x;exact aF e|own y=>obtain⟨_,e⟩:=x;exact aF e|xd fs=>obtain⟨_,⟨_,_,_,e,_⟩,_⟩:=x;exact aF e|rng lo hi=>obtain⟨_,_,_,e⟩:=x;exact aF e|frz ob u=>obtain⟨e,_⟩:=x;exact aF e|tbl ps=>exact aF (show h.get? a=some _ from x)|met f y=>exact aF (show h.get? a=some _ from x)|ext φ=>obtain⟨_,⟨_,e⟩,_⟩:=x;exact aF e
theorem Paired.mapP {β:Type}{F G:α->β->Prop}:∀{L:List α}{l:List β},Paired F L l->(∀a b,F a b->G a b)->Paired G L l
 |_,_,.nil,_=>.nil|_,_,.cons r t,f=>.cons (f _ _ r) (Paired.mapP t f)
def jF.stay (x:jF P w H h a o)(k:∀b u,(b=a∨H b=some (.own a))->h.get? b=some u->h'.get? b=some u)
  (s:∀b,H b=some (.own a)->H' b=some (.own a))(l:∀b xs,H b=some (.tup xs)->H' b=some (.tup xs)):jF P w H' h' a o:=by
 induction o with
 |lst xs=>obtain⟨z,i,n,r,e⟩:=x;exact⟨z,i,n,r,k _ _ (.inl rfl) e⟩|tup xs=>obtain⟨z,i,r,ob,e,c⟩:=x;exact⟨z,i,r,ob,k _ _ (.inl rfl) e,c⟩|dK K=>obtain⟨z,y,vs,r,ob,E,g,e,c⟩:=x;exact⟨z,y,vs,r,ob,E,g,k _ _ (.inl rfl) e,c⟩|dT K=>
  obtain⟨z,y,xs,r,ob,E,g,e,c⟩:=x;exact⟨z,y,xs,Paired.mapP r λp q z=>⟨z.1,l _ _ z.2.1,z.2.2⟩,ob,E,g,k _ _ (.inl rfl) e,c⟩
 |set S n=>obtain⟨ob,E,g,t,e,c⟩:=x;exact⟨ob,E,g,t,k _ _ (.inl rfl) e,c⟩|ins C D fs=>
  obtain⟨d,z,ne,e,M,⟨j,E,g,A,c⟩,r⟩:=x;exact⟨s _ d,z,ne,k _ _ (.inl rfl) e,M,⟨j,E,g,k _ _ (.inr d) A,c⟩,r⟩
 |own y=>obtain⟨ob,e⟩:=x;exact⟨ob,k _ _ (.inl rfl) e⟩|xd fs=>obtain⟨M,⟨j,E,g,e,c⟩,r⟩:=x;exact⟨M,⟨j,E,g,k _ _ (.inl rfl) e,c⟩,r⟩|rng lo hi=>obtain⟨t,u,v,e⟩:=x;exact⟨t,u,v,k _ _ (.inl rfl) e⟩|frz ob u I=>obtain⟨e,q⟩:=x;exact⟨k _ _ (.inl rfl) e,I q⟩|tbl ps=>
  have e:h.get? a=some { cls:=.none,data:=.fields ps }:=x;show h'.get? a=some { cls:=.none,data:=.fields ps };exact k a _ (.inl rfl) e
 |met f y=>
  have e:h.get? a=some (methodObj (.ref f) (.ref y)):=x;show h'.get? a=some (methodObj (.ref f) (.ref y));exact k a _ (.inl rfl) e
 |ext φ=>obtain⟨p,⟨o,e⟩,st⟩:=x;exact⟨st _ _ p λo q=>k _ _ (.inl rfl) q,⟨o,k _ _ (.inl rfl) e⟩,st⟩
theorem yF.lt (x:yF P w H h)(e:H a=some o):a<h.objs.size:=(x a o e).lt
def yF.fresh (x:yF P w H h)(e:h.objs.size<=a):H a=none:=by
 cases q:H a with
 |none=>rfl|some u=>exact absurd (aD (x.lt q) e) (aT _)
def yF.kept (x:yF P w H h)(k:∀b u,h.get? b=some u->h'.get? b=some u):yF P w H h':=λa o e=>
 (x a o e).stay (λb u _ q=>k b u q) (λ_ q=>q) λ_ _ q=>q
def yF.laid (x:yF P w H h)(k:∀b u,h.get? b=some u->h'.get? b=some u)(p:h.objs.size<=a)(new:jF P w (upd H a o) h' a o):yF P w (upd H a o) h':=λb u e=>by
 have hn:=x.fresh p
 by_cases d:b=a
 ·subst d;rw[jS]at e;cases e;exact new
 ·rw[qI d]at e
  exact(x b u e).stay (λc v _ q=>k c v q) (λc q=>by rw[qI (wH q hn)];exact q) λc xs q=>by rw[qI (wH q hn)];exact q
end
def Rd (H:Hp)(a:Addr)(u:HO):Prop:=H a=some u∨∃o,H a=some (.frz o u)
def Rd.ok {H:Hp}{u:HO}(r:Rd H a u)(x:yF P w H h):jF P w H h a u:=by
 rcases r with r|⟨o,r⟩
 ·exact x a u r
 ·obtain⟨_,q⟩:=x a _ r
  exact q
noncomputable def XC:Option HO->Prop
 |some (.lst _)=>True|some (.dK _)=>True|some (.dT _)=>True|some (.set _ _)=>True|some (.ins _ _ _)=>True|some (.ext _)=>True|_=>False
section
variable {H:Hp}{h':Heap}{x e:Addr}{o':HO}
def yF.write (ok:yF P w H h)(M:XC (H x))(he:e=x∨H e=some (.own x))(k:∀b u,b≠e->h.get? b=some u->h'.get? b=some u)(o:∃u,h'.get? e=some u)
  (new:jF P w (upd H x o') h' x o'):yF P w (upd H x o') h':=λb u q=>by
 have n:∀c y,H c=some (.own y)->c≠x:=λc y r z=>by subst z;rw[r]at M;exact M
 have N:∀c xs,H c=some (.tup xs)->c≠x:=λc xs r z=>by subst z;rw[r]at M;exact M
 by_cases f:b=x
 ·subst f;rw[jS]at q;cases q;exact new
 ·rw[qI f]at q
  by_cases a:b=e
  ·have Q:H b=some (.own x):=by
    rcases he with z|z
    ·exact absurd (a.trans z) f
    ·rw[a];exact z
   rw[q]at Q;cases Q;obtain⟨v,g⟩:=o;exact⟨v,by rw[a];exact g⟩
  ·refine(ok b u q).stay (λc v d r=>k c v ?_ r) (λc r=>by rw[qI (n c b r)];exact r) λc xs r=>by rw[qI (N c xs r)];exact r
   rcases d with rfl|d
   ·exact a
   ·rintro rfl
    rcases he with z|z
    ·exact n c b d z
    ·rw[d]at z;cases z;exact f rfl
end
structure Un (fs ex:bW)(H H':Hp)(h h':Heap):Prop where
 keep:∀b o,h.get? b=some o->H b=none->b∉fs->b∉ex->h'.get? b=some o
 slot:∀b o,h.get? b=some o->H b=none->b∈fs->b∉ex->∃sl,h'.get? b=some { o with slots:=sl }
 free:∀b o,h.get? b=some o->H b=none->b∉ex->H' b=none
 there:∀b o,h.get? b=some o->b∉ex->∃o',h'.get? b=some o'
 tups:∀b xs,H b=some (.tup xs)->H' b=some (.tup xs)
 frzs:∀b o u,H b=some (.frz o u)->H' b=some (.frz o u)
 tbls:∀b ps,H b=some (.tbl ps)->∃more,H' b=some (.tbl (ps++more))
section
variable {fs ex:bW}{H H1:Hp}{h1 h':Heap}{x e:Addr}{o:HO}
def Un.any (u:Un fs ex H H1 h h1){ob:Obj}(q:h.get? b=some ob)(n:H b=none)(x:b∉ex):∃s,h1.get? b=some { ob with slots:=s }:=by
 by_cases a:b∈fs
 ·exact u.slot b ob q n a x
 ·exact⟨ob.slots,u.keep b ob q n a x⟩
def Un.kept (k:∀b u,h.get? b=some u->h'.get? b=some u):Un fs ex H H h h':=
 ⟨λb ob q _ _ _=>k b ob q,λb ob q _ _ _=>⟨ob.slots,k b ob q⟩,λ_ _ _ n _=>n,λb ob q _=>⟨ob,k b ob q⟩,λ_ _ q=>q,λ_ _ _ q=>q,λ_ ps q=>⟨#[],by rw[q];simp⟩⟩
def Un.refl:Un fs ex H H h h:=Un.kept λ_ _ q=>q
def Un.laid (k:∀b u,h.get? b=some u->h'.get? b=some u)(p:h.objs.size<=a)(hn:H a=none):Un fs ex H (upd H a o) h h' where
 keep:=λb u q _ _ _=>k b u q
 slot:=λb u q _ _ _=>⟨u.slots,k b u q⟩
 free:=λb u q n _=>by rw[qI (aI (aD (aF q) p))];exact n
 there:=λb u q _=>⟨u,k b u q⟩
 tups:=λb xs q=>by rw[qI (wH q hn)];exact q
 frzs:=λb u xs q=>by rw[qI (wH q hn)];exact q
 tbls:=λb ps q=>⟨#[],by rw[qI (wH q hn),q];simp⟩
def Un.write (M:XC (H x))(he:e=x∨H e=some (.own x))(k:∀b u,b≠e->h.get? b=some u->h'.get? b=some u)(c:∃u,h'.get? e=some u):Un fs ex H (upd H x o) h h':=by
 have d:∀b,H b=none->b≠x:=λb n z=>by subst z;rw[n]at M;exact M
 have f:∀b,H b=none->b≠e:=λb n z=>by
  subst z;rcases he with r|r
  ·exact d b n r
  ·rw[n]at r;cases r
 have hm:∀b u,H b=some u->¬XC (some u)->b≠x:=λb u q nm z=>by subst z;rw[q]at M;exact nm M
 refine⟨λb u q n _ _=>k b u (f b n) q,λb u q n _ _=>⟨u.slots,k b u (f b n) q⟩,λb u q n _=>by rw[qI (d b n)];exact n,λb u q _=>?_,
  λb xs q=>by rw[qI (hm b _ q λz=>z)];exact q,λb u xs q=>by rw[qI (hm b _ q λz=>z)];exact q,λb ps q=>⟨#[],by rw[qI (hm b _ q λz=>z),q];simp⟩⟩
 by_cases a:b=e
 ·subst a;exact c
 ·exact⟨u,k b u a q⟩
end
noncomputable def XD (h:Heap)(H:Hp):bW:=(List.range h.objs.size).filter λa=>(H a).isSome
def Z1 (h:Heap)(H:Hp):Heap:=hideAll h (XD h H)
def EI (h:Heap)(H:Hp):(Z1 h H).objs.size=h.objs.size:=hideAll_size _ _
def CT {H:Hp}{o:Obj}(e:h.get? b=some o)(n:H b=none):(Z1 h H).get? b=some o:=
 bN _ e λhm=>by
  have q:(H b).isSome=true:=(List.mem_filter.mp hm).2;rw[n]at q;simp at q
def Bw {H:Hp}{o:Obj}(e:(Z1 h H).get? b=some o):h.get? b=some o/\H b=none:=by
 have E:h.get? b=some o:=of_hideAll (XD h H) e;refine⟨E,?_⟩;cases q:H b with
 |none=>rfl|some x=>
  have hm:b∈XD h H:=List.mem_filter.mpr ⟨cz.mpr (aF E),by simp[q]⟩
  have z:(Z1 h H).get? b=none:=hideAll_none (XD h H) hm;rw[z]at e;cases e
structure Mod (K:Frag)(mg:cc)(base:Heap):Prop where
 kin:K.In base
 glob:base.Ns mainGlobals mg
 blt:∃mb,base.Ns builtinsNs mb/\∀x:Str,x ≠ "__name__" -> mb x=bootBuiltins x
 nolimit:base.NoLimit
structure Cx where
 prog:Program
 w:World
 K:Frag
 mg:Str->Option Value
 base:Heap
 A:Around
 N:bZ
 s0:Shared
 H0:Hp
 env:Env
 outer:cf
 stack:cf
 ex:bW
 fn:Str->Bool
 calm:Bool
 pn:bX
 xe:Value->Shared->Prop
noncomputable def qR (l:cf):bW:=l.filterMap (·.frame)
abbrev Cx.fs (X:Cx):bW:=qR X.outer
def Y3 (sc:Scope)(x:Str):Prop:=sc.names.lookup x=some .local∨sc.names.lookup x=some .cell∨sc.names.lookup x=some .free
def Loc (sc:Scope)(x:Str):Prop:=sc.names.lookup x=some .local∨sc.names.lookup x=some .cell
def Look (env:Env)(h:Heap)(m:cc)(x:Str)(u:Value):Prop:=
 (env.kindOf x=some .local/\m x=some u)∨((env.kindOf x=some .cell∨env.kindOf x=some .free)/\∃c,env.cells.lookup x=some c/\h.IsCell c (some u))
structure Cx.Ok (X:Cx):Prop where
 mod:Mod X.K X.mg X.base
 kind:X.env.scope.kind=.function
 glob:X.env.globals=mainGlobals
 blt:X.env.builtins=builtinsNs
 above:X.s0.heap.objs.size<=X.env.locals
 inj:∀x y c,X.env.cells.lookup x=some c->X.env.cells.lookup y=some c->x=y
 has:∀x,(X.env.kindOf x=some .cell∨X.env.kindOf x=some .free)->∃c,X.env.cells.lookup x=some c
 cab:∀x c,X.fn x=true->X.env.cells.lookup x=some c->X.s0.heap.objs.size<=c
 hd:X.calm=true->X.A.handled=none
 frames:X.A.frames=some X.stack
 stk:X.stack=X.outer∨(X.stack=X.env::X.outer/\X.env.frame=some X.env.locals)
 exf:∀b∈X.ex,b≠X.env.locals/\∀x c,X.env.cells.lookup x=some c->c≠b
 bs:∀b o,X.base.get? b=some o->X.s0.heap.get? b=some o/\X.H0 b=none
 bsz:X.base.objs.size<=X.s0.heap.objs.size
 noex:∀b o,X.base.get? b=some o->b∉X.ex
 exfs:∀b∈X.ex,b∉X.fs
 funs:X.s0.heap.FunFrames X.base X.outer
 frf:∀b∈X.fs,X.H0 b=none
structure Inv (X:Cx)(pins:bX)(σ:List (Option V))(H:Hp)(s:Shared):Prop where
 ok:X.Ok
 os:s.os=X.s0.os
 bare:AllBare s.gens
 base:Un X.fs X.ex X.H0 H X.s0.heap s.heap
 loc:∃m,s.heap.Ns X.env.locals m/\∀(i:Nat)(x:Str)(v:V),X.N[i]? =some x->σ[i]? =some (some v)->Y3 X.env.scope x->∃u,RelV v u/\Look X.env s.heap m x u
 cell:∀x c,X.env.cells.lookup x=some c->∃v,s.heap.IsCell c v
 free:H X.env.locals=none
 freeC:∀x c,X.env.cells.lookup x=some c->H c=none
 pin:∀p∈X.pn++pins,s.heap.get? p.1=some p.2/\H p.1=none/\p.1≠X.env.locals/\p.1∉X.fs/\∀v,p.2.data≠.cell v
 hok:yF X.prog X.w H s.heap
 len:σ.length=X.N.length
section
variable {X:Cx}{σ:List (Option V)}{H H':Hp}{h':Heap}
def Cx.Ok.nofr (ok:X.Ok){o:Obj}(e:X.base.get? b=some o):b∉X.fs:=λh=>by
 have:=(ok.funs.mem h).1
 rw[e]at this;cases this
theorem Inv.bs (I:Inv X pins σ H s):∀b o,X.base.get? b=some o->s.heap.get? b=some o/\H b=none:=λb o e=>
 ⟨I.base.keep b o (I.ok.bs b o e).1 (I.ok.bs b o e).2 (I.ok.nofr e) (I.ok.noex b o e),I.base.free b o (I.ok.bs b o e).1 (I.ok.bs b o e).2 (I.ok.noex b o e)⟩
def Inv.bk (I:Inv X pins σ H s):∀b o,X.base.get? b=some o->s.heap.get? b=some o:=λb o e=>(I.bs b o e).1
theorem Inv.mod (I:Inv X pins σ H s):Mod X.K X.mg X.base:=I.ok.mod
def Inv.kIn (I:Inv X pins σ H s):X.K.In s.heap:=I.ok.mod.kin.keeps I.bk
theorem Inv.lt (I:Inv X pins σ H s):X.env.locals<s.heap.objs.size:=let ⟨_,hn,_⟩:=I.loc;hn.lt
def Inv.sz (I:Inv X pins σ H s):X.s0.heap.objs.size<=s.heap.objs.size:=bb I.ok.above (bC I.lt)
def Inv.nofs (I:Inv X pins σ H s)(h:s.heap.objs.size<=a):a∉X.fs:=λc=>by
 obtain⟨_,o,b,_⟩:=I.ok.funs.mem c;exact absurd (aD (aF b) (bb I.sz h)) (aT _)
def Inv.cne (I:Inv X pins σ H s):∀x c,X.env.cells.lookup x=some c->c≠X.env.locals:=λx c e z=>by
 obtain⟨v,o,b,hd⟩:=I.cell x c e;obtain⟨m,⟨o',E,p,h,a,_⟩,_⟩:=I.loc;rw[z,h]at b;cases b;rw[a]at hd;cases hd
theorem Inv.funs (I:Inv X pins σ H s):s.heap.FunFrames X.base X.outer:=by
 have all:∀(l:cf),(∀b∈qR l,b∈X.fs)->X.s0.heap.FunFrames X.base l->s.heap.FunFrames X.base l:=by
  intro l
  induction l with
  |nil=>intro _ _;trivial|cons env r i=>
   intro c g;obtain⟨k,⟨L,o,hf,hn,f,hd⟩,d⟩:=g;have a:L∈X.fs:=c L (by unfold qR;rw[bp,hf];exact au)
   obtain⟨S,e⟩:=I.base.slot L o f (I.ok.frf L a) a λz=>I.ok.exfs L z a;exact⟨k,⟨L,_,hf,hn,e,hd⟩,i (λb h=>c b (by unfold qR;rw[bp,hf];exact aq _ h)) d⟩
 exact all X.outer (λ_ h=>h) I.ok.funs
theorem Inv.stack (I:Inv X pins σ H s):s.heap.FunFrames X.base X.stack:=by
 rcases I.ok.stk with e|⟨e,hf⟩
 ·rw[e];exact I.funs
 ·rw[e]
  obtain⟨m,hn,_⟩:=I.loc;refine .cons (by rw[I.ok.kind];decide) hf hn ?_ I.funs
  exact Heap.get?_none_of_le (bb I.ok.bsz I.ok.above)
def Inv.stkSub (I:Inv X pins σ H s):∀b∈qR X.stack,b∈X.env.locals::X.fs:=λb h=>by
 rcases I.ok.stk with e|⟨e,hf⟩
 ·rw[e]at h;exact aq _ h
 ·rw[e]at h
  unfold qR at h;rw[bp,hf]at h;exact h
def Inv.stkFree (I:Inv X pins σ H s):∀b∈qR X.stack,H b=none:=λb h=>by
 rcases cw.mp (I.stkSub b h) with e|h
 ·rw[e];exact I.free
 ·obtain⟨_,o,a,_⟩:=I.ok.funs.mem h
  exact I.base.free b o a (I.ok.frf b h) λz=>I.ok.exfs b z h
def Inv.step {g':Array GenState}{d':Drawn}{ch:bW}(I:Inv X pins σ H s)
  (a:∀b∈ch,(b∈X.ex∨X.s0.heap.objs.size<=b)/\b≠X.env.locals/\(∀x c,X.env.cells.lookup x=some c->c≠b)/\∀p∈X.pn++pins,p.1≠b)
  (keep:∀b o,b≠X.env.locals->b∉X.fs->b∉ch->s.heap.get? b=some o->H b=none->h'.get? b=some o)
  (slot:∀b o,b≠X.env.locals->b∈X.fs->b∉ch->s.heap.get? b=some o->H b=none->∃t,h'.get? b=some { o with slots:=t })(free:∀b o,b∉ch->s.heap.get? b=some o->H b=none->H' b=none)
  (there:∀b o,b∉ch->s.heap.get? b=some o->∃o',h'.get? b=some o')
  (tups:∀b xs,H b=some (.tup xs)->H' b=some (.tup xs))(frzs:∀b o u,H b=some (.frz o u)->H' b=some (.frz o u))(tbls:∀b ps,H b=some (.tbl ps)->∃more,H' b=some (.tbl (ps++more)))
  (ns:∀m,s.heap.Ns X.env.locals m->h'.Ns X.env.locals m)(hok:yF X.prog X.w H' h')(J:AllBare g'):
  Inv X pins σ H' { s with heap:=h',gens:=g',drawn:=d',toks:=t' }:=by
 have Ka:∀b o,X.s0.heap.get? b=some o->b≠X.env.locals:=λb o e=>aI (aD (aF e) I.ok.above);have C:∀b o,X.s0.heap.get? b=some o->b∉X.ex->b∉ch:=λb o e h f=>by
  rcases(a b f).1 with z|z
  ·exact h z
  ·exact absurd (aD (aF e) z) (aT _)
 have cellK:∀x c,X.env.cells.lookup x=some c->∀v,s.heap.IsCell c v->h'.IsCell c v:=λx c e v ⟨o,g,hd⟩=>by
  have N:c∉ch:=λz=>(a c z).2.2.1 x c e rfl
  by_cases B:c∈X.fs
  ·obtain⟨t,q⟩:=slot c o (I.cne x c e) B N g (I.freeC x c e)
   exact⟨_,q,hd⟩
  ·exact⟨o,keep c o (I.cne x c e) B N g (I.freeC x c e),hd⟩
 refine⟨I.ok,I.os,J,⟨λb o e n f h=>?_,λb o e n f h=>?_,λb o e n h=>?_,λb o e h=>?_,λb xs e=>tups b xs (I.base.tups b xs e),λb o xs e=>frzs b o xs (I.base.frzs b o xs e),λb ps e=>?_⟩,?_,λx c e=>?_,?_,λx c e=>?_,λp A=>?_,hok,I.len⟩
 ·exact keep b o (Ka b o e) f (C b o e h) (I.base.keep b o e n f h) (I.base.free b o e n h)
 ·obtain⟨t,E⟩:=I.base.slot b o e n f h
  obtain⟨S,j⟩:=slot b _ (Ka b o e) f (C b o e h) E (I.base.free b o e n h);exact⟨S,j⟩
 ·obtain⟨o',E⟩:=I.base.there b o e h
  exact free b o' (C b o e h) E (I.base.free b o e n h)
 ·obtain⟨o',E⟩:=I.base.there b o e h
  exact there b o' (C b o e h) E
 ·obtain⟨m1,E⟩:=I.base.tbls b ps e
  obtain⟨m2,j⟩:=tbls b _ E;exact⟨m1++m2,by rw[j,Array.append_assoc]⟩
 ·obtain⟨m,hn,D⟩:=I.loc
  refine⟨m,ns m hn,λi x v E j K=>?_⟩;obtain⟨u,r,l⟩:=D i x v E j K;refine⟨u,r,?_⟩;rcases l with l|⟨k,c,e,z⟩
  ·exact .inl l
  ·exact .inr ⟨k,c,e,cellK x c e _ z⟩
 ·obtain⟨v,z⟩:=I.cell x c e
  exact⟨v,cellK x c e v z⟩
 ·obtain⟨m,⟨o,_,_,g,_⟩,_⟩:=I.loc
  exact free _ o (λz=>(a _ z).2.1 rfl) g I.free
 ·obtain⟨v,o,g,hd⟩:=I.cell x c e
  exact free c o (λz=>(a c z).2.2.1 x c e rfl) g (I.freeC x c e)
 ·obtain⟨e,n,ne,y,d⟩:=I.pin p A
  have N:p.1∉ch:=λz=>(a p.1 z).2.2.2 p A rfl;exact⟨keep p.1 p.2 ne y N e n,free p.1 p.2 N e n,ne,y,d⟩
def Inv.un (I:Inv X pins σ H s)(u:Un X.fs [] H H' s.heap h')(hok:yF X.prog X.w H' h'):Inv X pins σ H' { s with heap:=h',toks:=t' }:=by
 obtain⟨m,⟨o,f,p,c,r⟩,_⟩:=id I.loc;obtain⟨S,L⟩:=u.any c I.free (by simp)
 exact I.step (g':=s.gens) (d':=s.drawn) (ch:=[]) (λ_ z=>nomatch z) (λb o _ a _ e n=>u.keep b o e n a (by simp)) (λb o _ a _ e n=>u.slot b o e n a (by simp)) (λb o _ e n=>u.free b o e n (by simp)) (λb o _ e=>u.there b o e (by simp)) u.tups u.frzs u.tbls (λm' hm=>by
  obtain⟨o',es',E,h,d⟩:=hm;rw[c]at h;cases h;exact⟨_,es',E,L,d⟩) hok I.bare
def Inv.call {g':Array GenState}{d':Drawn}{ch:bW}(I:Inv X pins σ H s)(u:Un (qR X.stack) ch H H' s.heap h')(hok:yF X.prog X.w H' h')(i:AllBare g')
  (d:∀b∈ch,(b∈X.ex∨X.s0.heap.objs.size<=b)/\b≠X.env.locals/\(∀x c,X.env.cells.lookup x=some c->c≠b)/\∀p∈X.pn++pins,p.1≠b):
  Inv X pins σ H' { s with heap:=h',gens:=g',drawn:=d',toks:=t' }:=by
 obtain⟨m,⟨o,k,l,f,r⟩,_⟩:=id I.loc;obtain⟨S,L⟩:=u.any f I.free λz=>(d _ z).2.1 rfl;exact I.step (ch:=ch) d (λb o L j h e n=>u.keep b o e n (λz=>(cw.mp (I.stkSub b z)).elim L j) h) (λb o _ _ h e n=>u.any e n h) (λb o h e n=>u.free b o e n h) (λb o h e=>u.there b o e h) u.tups u.frzs u.tbls (λm' hm=>by
  obtain⟨o',es',E,a,g⟩:=hm;rw[f]at a;cases a;exact⟨_,es',E,L,g⟩) hok i
def Inv.turned {it:Addr}(I:Inv X pins σ H s)(k:∀b o,b≠it->s.heap.get? b=some o->h'.get? b=some o)(hn:H it=none)(L:it≠X.env.locals)
  (i:it∈X.ex∨X.s0.heap.objs.size<=it)(g:∀x c,X.env.cells.lookup x=some c->c≠it)(f:∀p∈X.pn++pins,p.1≠it):Inv X pins σ H { s with heap:=h',toks:=t' }:=by
 have N:∀b u,H b=some u->b≠it:=λb u e z=>by rw[z,hn]at e;cases e
 refine I.step (g':=s.gens) (d':=s.drawn) (ch:=[it]) (λb d=>?_) (λb o _ _ h e _=>k b o (λz=>h (by simp[z])) e) (λb o _ _ h e _=>⟨o.slots,k b o (λz=>h (by simp[z])) e⟩) (λ_ _ _ _ n=>n)
  (λb o h e=>⟨o,k b o (λz=>h (by simp[z])) e⟩) (λ_ _ e=>e) (λ_ _ _ e=>e) (λb ps e=>⟨#[],by rw[e];simp⟩) (λm hm=>?_) (λb u e=>?_) I.bare
 ·have e:b=it:=by simpa using d
  subst e;exact⟨i,L,g,f⟩
 ·obtain⟨o,E,j,a,r⟩:=hm
  exact⟨o,E,j,k _ o (Ne.symm L) a,r⟩
 ·refine(I.hok b u e).stay (λc v h q=>k c v ?_ q) (λ_ q=>q) λ_ _ q=>q
  rcases h with z|z
  ·rw[z];exact N b u e
  ·exact N c _ z
def Inv.tok (I:Inv X pins σ H s)(t:Nat):Inv X pins σ H { s with toks:=t }:=I.un (h':=s.heap) (t':=t) Un.refl I.hok
theorem Inv.kept (I:Inv X pins σ H s)(k:∀b u,s.heap.get? b=some u->h'.get? b=some u):Inv X pins σ H { s with heap:=h',toks:=t' }:=I.un (Un.kept k) (I.hok.kept k)
theorem Inv.laid {o:HO}(I:Inv X pins σ H s)(k:∀b u,s.heap.get? b=some u->h'.get? b=some u)(h:s.heap.objs.size<=a)(new:jF X.prog X.w (upd H a o) h' a o):
  Inv X pins σ (upd H a o) { s with heap:=h',toks:=t' }:=I.un (Un.laid k h (I.hok.fresh h)) (I.hok.laid k h new)
theorem Inv.write {x e:Addr}{o:HO}(I:Inv X pins σ H s)(M:XC (H x))(he:e=x∨H e=some (.own x))(k:∀b u,b≠e->s.heap.get? b=some u->h'.get? b=some u)(h:∃u,h'.get? e=some u)
  (new:jF X.prog X.w (upd H x o) h' x o):Inv X pins σ (upd H x o) { s with heap:=h',toks:=t' }:=I.un (Un.write M he k h) (I.hok.write M he k h new)
def Inv.pins_of {P:bX}(I:Inv X pins σ H s)(h:∀p∈P,s.heap.get? p.1=some p.2/\H p.1=none/\p.1≠X.env.locals/\p.1∉X.fs/\∀v,p.2.data≠.cell v):Inv X P σ H s:=
 ⟨I.ok,I.os,I.bare,I.base,I.loc,I.cell,I.free,I.freeC,λp a=>(cC.mp a).elim (λz=>I.pin p (mem_append_left _ z)) (h p),I.hok,I.len⟩
def V0 (h:N.Nodup)(a:N[i]? =some x)(b:N[j]? =some x):i=j:=by
 obtain⟨c,E⟩:=cx.mp a;obtain⟨H,e⟩:=cx.mp b;exact(List.getElem_inj h).mp (E.trans e.symm)
def Oa {A:Around}{v:V}{Q:Unit->Shared->Prop}(I:Inv X pins σ H s)(hN:X.N.Nodup)(hi:X.N[i]? =some x)(t:Loc X.env.scope x)(r:RelV v u)
  (h:∀s',Inv X pins (σ.set i (some v)) H s'->(∃a,Heap.SameBut a s.heap s'.heap/\(a=X.env.locals∨X.env.cells.lookup x=some a))->Q () s')(hf:X.fn x=true∨X.env.scope.names.lookup x=some .local:=by first|exact .inl rfl|exact .inr rfl|assumption):wpAny M A (storeName X.env x u) Q E s:=by
 obtain⟨m,hn,hl⟩:=id I.loc;have U:(X.env.scope.kind==.class || (X.env.scope.kind==.module&&X.env.locals != X.env.globals))=false:=by rw[I.ok.kind];rfl
 have J:i < σ.length:=by rw[I.len];exact(cx.mp hi).1
 have cne:=I.cne;have tracked:∀{a:Addr}{h':Heap},(∃o,s.heap.get? a=some o/\H a=none)->Heap.SameBut a s.heap h'->yF X.prog X.w H h':=λ {a h'} ha f b ob e=>by
  obtain⟨_,_,B⟩:=ha;refine(I.hok b ob e).stay (λc w' l q=>(f.2 c ?_).trans q) (λ_ q=>q) λ_ _ q=>q
  rintro rfl
  rcases l with rfl|l
  ·rw[B]at e;cases e
  ·rw[B]at l;cases l
 rcases t with D|D
 ·refine wpAny_storeName_local D hn (λh' hn' f=>?_) U
  obtain⟨oL,_,_,hoL,_⟩:=id hn;refine h _ ⟨I.ok,I.os,I.bare,⟨λb o e n P t=>?_,λb o e n P t=>?_,I.base.free,λb o e t=>?_,I.base.tups,I.base.frzs,I.base.tbls⟩,⟨_,hn',λj y v' g C e3=>?_⟩,λy c e=>?_,I.free,I.freeC,λp hp=>?_,tracked ⟨oL,hoL,I.free⟩ f,by simpa using I.len⟩ ⟨_,f,.inl rfl⟩
  ·exact(f.2 b (aI (aD (aF e) I.ok.above))).trans (I.base.keep b o e n P t)
  ·obtain⟨sl,g⟩:=I.base.slot b o e n P t
   exact⟨sl,(f.2 b (aI (aD (aF e) I.ok.above))).trans g⟩
  ·obtain⟨o',g⟩:=I.base.there b o e t
   exact⟨o',(f.2 b (aI (aD (aF e) I.ok.above))).trans g⟩
  ·by_cases K:j=i
   ·subst K
    rw[hi]at g;cases g;rw[aH J]at C;cases C;exact⟨u,r,.inl ⟨D,by simp⟩⟩
   ·rw[aG (Ne.symm K)]at C
    obtain⟨u',r',q⟩:=hl j y v' g C e3;refine⟨u',r',?_⟩;rcases q with ⟨k,e⟩|⟨k,c,e,z⟩
    ·refine .inl ⟨k,?_⟩
     have:y≠x:=λe=>K (V0 hN g (e ▸ hi))
     simp[this,e]
    ·exact .inr ⟨k,c,e,z.sameBut f (cne y c e)⟩
  ·obtain⟨w',z⟩:=I.cell y c e
   exact⟨w',z.sameBut f (cne y c e)⟩
  ·obtain⟨e,n,ne,nf,d⟩:=I.pin p hp
   exact⟨(f.2 p.1 ne).trans e,n,ne,nf,d⟩
 ·have L:X.fn x=true:=by
   rcases hf with z|z
   ·exact z
   ·rw[z]at D;cases D
  obtain⟨c,l⟩:=I.ok.has x (.inl D);obtain⟨w',z⟩:=I.cell x c l;refine wpAny_storeName_cell I.ok.kind D l z (λh' Z f=>?_);obtain⟨oc,T,S⟩:=id z;refine h { s with heap:=h' } ⟨I.ok,I.os,I.bare,⟨λb o e n P t=>?_,λb o e n P t=>?_,I.base.free,λb o e t=>?_,I.base.tups,I.base.frzs,I.base.tbls⟩,⟨m,hn.sameBut f (Ne.symm (cne x c l)),λj y v' g C e3=>?_⟩,λy c' e=>?_,I.free,I.freeC,λp hp=>?_,tracked ⟨oc,T,I.freeC x c l⟩ f,by simpa using I.len⟩ ⟨c,f,.inr l⟩
  ·exact(f.2 b (aI (aD (aF e) (I.ok.cab x c L l)))).trans (I.base.keep b o e n P t)
  ·obtain⟨sl,g⟩:=I.base.slot b o e n P t
   exact⟨sl,(f.2 b (aI (aD (aF e) (I.ok.cab x c L l)))).trans g⟩
  ·obtain⟨o',g⟩:=I.base.there b o e t
   exact⟨o',(f.2 b (aI (aD (aF e) (I.ok.cab x c L l)))).trans g⟩
  ·by_cases K:j=i
   ·subst K
    rw[hi]at g;cases g;rw[aH J]at C;cases C;exact⟨u,r,.inr ⟨.inl D,c,l,Z⟩⟩
   ·rw[aG (Ne.symm K)]at C
    obtain⟨u',r',q⟩:=hl j y v' g C e3;refine⟨u',r',?_⟩;rcases q with q|⟨k,c',e,z'⟩
    ·exact .inl q
    ·refine .inr ⟨k,c',e,z'.sameBut f ?_⟩
     rintro rfl
     exact K (V0 hN g (I.ok.inj _ _ _ e l ▸ hi))
  ·by_cases Y:c'=c
   ·subst Y;exact⟨_,Z⟩
   ·obtain⟨w2,z2⟩:=I.cell y c' e
    exact⟨w2,z2.sameBut f Y⟩
  ·obtain⟨e,n,ne,nf,d⟩:=I.pin p hp
   refine⟨(f.2 p.1 ?_).trans e,n,ne,nf,d⟩;intro q;rw[q,T]at e;have q':oc=p.2:=aC e;exact d w' (by rw[<- q'];exact S)
def YE {A:Around}{v:V}{Q:Unit->Shared->Prop}(I:Inv X pins σ H s)(b:X.N.Nodup)(hi:X.N[i]? =some x)(a:Loc X.env.scope x)(r:RelV v u)
  (h:∀s',Inv X pins (σ.set i (some v)) H s'->Q () s')(hf:X.fn x=true∨X.env.scope.names.lookup x=some .local:=by first|exact .inl rfl|exact .inr rfl|assumption):wpAny M A (storeName X.env x u) Q E s:=
 Oa I b hi a r (λs' c _=>h s' c) hf
def Inv.call' {ch:bW}(I:Inv X pins σ H s)(o:s'.os=s.os)(u:Un (qR X.stack) ch H H' s.heap s'.heap)(hok:yF X.prog X.w H' s'.heap)(g:AllBare s'.gens)
  (h:∀b∈ch,(b∈X.ex∨X.s0.heap.objs.size<=b)/\b≠X.env.locals/\(∀x c,X.env.cells.lookup x=some c->c≠b)/\∀p∈X.pn++pins,p.1≠b):Inv X pins σ H' s':=by
 obtain⟨h',g',d',t',o'⟩:=s';have e:o'=s.os:=o;subst e;exact I.call (g':=g') (t':=t') (d':=d') u hok g h
end
abbrev XK:=Value->Option Addr->Hp->Prop
noncomputable abbrev St:=List (Option V)
abbrev VK:=V->Hp->Prop
abbrev TE:=St->Hp->VK->Prop
abbrev TT:=St->Hp->(Bool->Hp->Prop)->Prop
abbrev TA:=St->Hp->(List V->Hp->Prop)->Prop
structure Ends where
 nx:St->Hp->Prop
 rt:VK
 bk:St->Hp->Prop:=λ_ _=>False
 ct:St->Hp->Prop:=λ_ _=>False
abbrev TS:=Ends->St->Hp->Prop
inductive EP (X:Cx)(pins:bX)(σ:St)(Q:VK)(u:Value)(s':Shared):Prop
 |mk (v:V) (H':Hp) (I:Inv X pins σ H' s') (r:RelV v u) (q:Q v H')
def TP (X:Cx)(pins:bX)(σ:St)(Q:Bool->Hp->Prop)(b:Bool)(s':Shared):Prop:=∃H,Inv X pins σ H s'/\Q b H
inductive AP (X:Cx)(pins:bX)(σ:St)(Q:List V->Hp->Prop)(us:bV)(s':Shared):Prop
 |mk (vs:List V) (H':Hp) (I:Inv X pins σ H' s') (r:Vals vs us) (q:Q vs H')
def SP (X:Cx)(pins:bX)(D:Ends)(f:Flow)(s':Shared):Prop:=
 match f with
 |.next=>∃a H,Inv X pins a H s'/\D.nx a H|.brk=>∃a H,Inv X pins a H s'/\D.bk a H|.cont=>∃a H,Inv X pins a H s'/\D.ct a H|.ret u=>∃v a H,Inv X pins a H s'/\RelV v u/\D.rt v H
def PE (X:Cx)(e:Expr)(t:TE):Prop:=
 ∀(pins:bX)(s:Shared)(σ:St)(H:Hp)(Q:VK),Inv X pins σ H s->t σ H Q->wpAny (model X.prog X.w) X.A (eval e X.env) (EP X pins σ Q) X.xe s
def PT (X:Cx)(e:Expr)(t:TT):Prop:=
 ∀(pins:bX)(s:Shared)(σ:St)(H:Hp)(Q:Bool->Hp->Prop),Inv X pins σ H s->t σ H Q->wpAny (model X.prog X.w) X.A (isTrue e X.env (eval e X.env)) (TP X pins σ Q) X.xe s
def PW (X:Cx)(e:Expr)(t:TT):Prop:=
 ∀(whole:Sem Value)(pins:bX)(s:Shared)(σ:St)(H:Hp)(Q:Bool->Hp->Prop),Inv X pins σ H s->t σ H Q->wpAny (model X.prog X.w) X.A (isTrue e X.env whole) (TP X pins σ Q) X.xe s
def PW.pt {X:Cx}{t:TT}(h:PW X e t):PT X e t:=h _
def PA (X:Cx)(e:b9)(t:TA):Prop:=
 ∀(pos:Pos)(pins:bX)(s:Shared)(σ:St)(H:Hp)(Q:List V->Hp->Prop),Inv X pins σ H s->t σ H Q->wpAny (model X.prog X.w) X.A (spliced (backTo pos (starEach e X.env))) (AP X pins σ Q) X.xe s
def PS (X:Cx)(st:Stmt)(t:TS):Prop:=
 ∀(pins:bX)(s:Shared)(σ:St)(H:Hp)(D:Ends),Inv X pins σ H s->t D σ H->wpAny (model X.prog X.w) X.A (exec st X.env) (SP X pins D) X.xe s
def kq (X:Cx)(st:cn)(t:TS):Prop:=
 ∀(pins:bX)(s:Shared)(σ:St)(H:Hp)(D:Ends),Inv X pins σ H s->t D σ H->wpAny (model X.prog X.w) X.A (execs st X.env) (SP X pins D) X.xe s
def qc {t:Sem α}{Q Q':α->Shared->Prop}{A:Around}(h:wpAny M A t Q E s)(H:∀a s,Q a s->Q' a s):wpAny M A t Q' E s:=wpAny_mono h H λ_ _ x=>x
section
variable {X:Cx}
noncomputable def cI (i:Nat):TE:=λσ H Q=>∃v,σ[i]? =some (some v)/\Q v H
noncomputable def tC (v:V):TE:=λ_ H Q=>Q v H
def MU (j:X.N[i]? =some x)(f:Y3 X.env.scope x)(hd:(x==("__debug__":Str))=false:=by decide)(d:(x==("__classdict__":Str))=false:=by decide):PE X (.Name x pos) (cI i):=by
 intro pins s σ H Q I h;obtain⟨v,e,h⟩:=h;obtain⟨m,hn,g⟩:=I.loc;obtain⟨u,r,l⟩:=g i x v j e f;have fin:EP X pins σ Q u s:=⟨v,H,I,r,h⟩;rcases l with ⟨k,hm⟩|⟨k,c,b,a⟩
 ·exact wpAny_Name (wpAny_loadName_local I.ok.kind k hn hm fin) hd
 ·rcases k with k|k
  ·exact wpAny_Name (wpAny_loadName_cell I.ok.kind k b a fin) hd
  ·exact wpAny_Name (wpAny_loadName_free I.ok.kind k b a fin d) hd
def cJ {i j pos}:PE X (.Constant (.int i) j pos) (tC (.int i)):=λ_ _ _ H _ I h=>wpAny_Constant_int ⟨.int i,H,I.tok _,⟨_,rfl⟩,h⟩
def cK {b j pos}:PE X (.Constant (.bool b) j pos) (tC (.bl b)):=λ_ _ _ H _ I h=>Constant_bool ⟨.bl b,H,I,rfl,h⟩
def cL {j pos}:PE X (.Constant .none j pos) (tC .non):=λ_ _ _ H _ I h=>Constant_none ⟨.non,H,I,rfl,h⟩
def cM {x j pos}:PE X (.Constant (.str x) j pos) (tC (.str x)):=λ_ _ _ H _ I h=>Calls.Constant_str ⟨.str x,H,I.tok _,⟨_,rfl⟩,h⟩
def Gl (X:Cx)(x:Str):Prop:=X.env.kindOf x=some .globalImplicit
def YH {σ:St}{H:Hp}(I:Inv X pins σ H s)(g:Gl X x)(hm:X.mg x=some u)(h:Q u s)
  (hd:(x==("__debug__":Str))=false:=by decide):wpAny (model X.prog X.w) X.A (eval (.Name x pos) X.env) Q E s:=
 Calls.Name_function_global I.ok.kind g (Calls.loadGlobal_global (by rw[I.ok.glob];exact I.mod.glob.keeps I.bk) hm h) hd
def Qr {σ:St}{H:Hp}(I:Inv X pins σ H s)(g:Gl X x)(hm:X.mg x=none)(v:bootBuiltins x=some u)(h:Q u s)
  (hn:x ≠ "__name__":=by decide)(hd:(x==("__debug__":Str))=false:=by decide):wpAny (model X.prog X.w) X.A (eval (.Name x pos) X.env) Q E s:=by
 obtain⟨mb,b,a⟩:=I.mod.blt;exact Calls.Name_function_global I.ok.kind g (Calls.loadGlobal_builtin (by rw[I.ok.glob];exact I.mod.glob.keeps I.bk) hm (by rw[I.ok.blt];exact b.keeps I.bk) ((a x hn).trans v) h) hd
def Bc {v:V}(g:Gl X x)(hm:X.mg x=some u)(r:RelV v u)(hd:(x==("__debug__":Str))=false:=by decide):PE X (.Name x pos) (tC v):=
 λ_ _ _ H _ I h=>YH I g hm ⟨v,H,I,r,h⟩ hd
def Gw {v:V}(g:Gl X x)(hm:X.mg x=none)(a:bootBuiltins x=some u)(r:RelV v u)(hn:x ≠ "__name__":=by decide)(hd:(x==("__debug__":Str))=false:=by decide):PE X (.Name x pos) (tC v):=
 λ_ _ _ H _ I h=>Qr I g hm a ⟨v,H,I,r,h⟩ hn hd
variable {a b:Expr}{ta tb:TE}
def CI (b:Expr)(h:op≠.In)(H:op≠.NotIn):behindInMarks op b=false:=by
 have E:(op==CmpOp.In)=false:=by cases op<;>first|rfl|exact absurd rfl h
 have e:(op==CmpOp.NotIn)=false:=by cases op<;>first|rfl|exact absurd rfl H
 cases b<;>simp[behindInMarks,E,e]
noncomputable def tB (t:TE):TT:=λσ H Q=>t σ H λx H1=>∃c,x=.bl c/\Q c H1
def cN {t:TE}(h:PE X e t)(he:∀whole,isTrue e X.env whole=(do let v <- whole;standAt e.pos;holding [v] (truthy v)):=by intro _;rfl):PT X e (tB t):=by
 intro pins s σ H Q I hw;refine isTrue_plain (qc (h pins s σ H _ I hw) λv s1 ⟨x,H1,i,r,a⟩=>?_) (he _);obtain⟨d,rfl,q⟩:=a;cases r;exact wpAny_truthy_bool ⟨H1,i,q⟩
variable {tA tB':TT}{rest:b9}
noncomputable def cO (t u:TT):TT:=λσ H Q=>t σ H λc H1=>if c=true then u σ H1 Q else Q false H1
noncomputable def cP (t u:TT):TT:=λσ H Q=>t σ H λc H1=>if c=true then Q true H1 else u σ H1 Q
noncomputable def cQ (t:TT):TT:=λσ H Q=>t σ H λc H1=>Q (!c) H1
def pw_and1 (b:PT X a tA):PW X (.BoolOp .And [a] pos) tA:=by
 intro w pins s σ H Q I h;refine isTrue_and (qc (b pins s σ H Q I h) λc s1 e=>?_);cases c with
 |true=>exact isTrue_and_nil e|false=>exact e
def pw_or1 (b:PT X a tA):PW X (.BoolOp .Or [a] pos) tA:=by
 intro w pins s σ H Q I h;refine isTrue_or (qc (b pins s σ H Q I h) λc s1 e=>?_);cases c with
 |false=>exact isTrue_or_nil e|true=>exact e
def pw_and (e:PT X a tA)(d:PW X (.BoolOp .And (b::rest) pos) tB'):PW X (.BoolOp .And (a::b::rest) pos) (cO tA tB'):=by
 intro w pins s σ H Q I h;refine isTrue_and (qc (e pins s σ H _ I h) λc s1 ⟨H1,i,q⟩=>?_);cases c with
 |true=>exact d w pins s1 σ H1 Q i q|false=>exact⟨H1,i,q⟩
def pw_or (e:PT X a tA)(d:PW X (.BoolOp .Or (b::rest) pos) tB'):PW X (.BoolOp .Or (a::b::rest) pos) (cP tA tB'):=by
 intro w pins s σ H Q I h;refine isTrue_or (qc (e pins s σ H _ I h) λc s1 ⟨H1,i,q⟩=>?_);cases c with
 |true=>exact⟨H1,i,q⟩|false=>exact d w pins s1 σ H1 Q i q
def cR (b:PT X a tA):PT X (.UnaryOp .Not a pos) (cQ tA):=by
 intro pins s σ H Q I h;exact isTrue_not (b pins s σ H (λc H1=>Q (!c) H1) I h)
noncomputable def cS (T t:TE):TE:=λσ H Q=>T σ H λx H1=>∃c,x=.bl c/\if c=true then t σ H1 Q else Q (.bl false) H1
noncomputable def cT (t:TE):TE:=λσ H Q=>t σ H λx H1=>∃c,x=.bl c/\Q (.bl (!c)) H1
def cU {op}{t:TE}(h:PE X a t):PE X (.BoolOp op [a] pos) t:=λpins s σ H Q I hw=>BoolOp_one (h pins s σ H Q I hw)
def cV (e:PE X a ta)(d:PE X (.BoolOp .And (b::rest) pos) tb):PE X (.BoolOp .And (a::b::rest) pos) (cS ta tb):=by
 intro pins s σ H Q I h;refine BoolOp_and (qc (e pins s σ H _ I h) λv s1 ⟨x,H1,i,r,q⟩=>?_);obtain⟨c,rfl,q⟩:=q;cases r;refine wpAny_truthy_bool ?_;cases c with
 |true=>exact d pins s1 σ H1 Q i q|false=>exact⟨.bl false,H1,i,rfl,q⟩
def cX (b:PE X a ta):PE X (.UnaryOp .Not a pos) (cT ta):=by
 intro pins s σ H Q I h;refine UnaryOp_ (qc (b pins s σ H _ I h) λv s1 ⟨x,H1,i,r,q⟩=>?_);obtain⟨c,rfl,q⟩:=q;cases r;exact not_of (wpAny_truthy_bool ⟨.bl (!c),H1,i,rfl,q⟩)
noncomputable def cY (t:TT)(a T:TE):TE:=λσ H Q=>t σ H λc H1=>if c=true then a σ H1 Q else T σ H1 Q
def CJ {c:Expr}(e:PT X c tA)(g:PE X a ta)(f:PE X b tb):PE X (.IfExp c a b pos) (cY tA ta tb):=by
 intro pins s σ H Q I h;refine wpAny_IfExp (qc (e pins s σ H _ I h) λd s1 ⟨H1,i,q⟩=>?_);cases d with
 |true=>exact g pins s1 σ H1 Q i q|false=>exact f pins s1 σ H1 Q i q
end
def jj (K:Frag)(H:Hp)(a:Addr)(xs:List V):Prop:=
 Rd H a (.lst xs)∨
  ∃(o:Obj) (its:Array Value) (n:Nat),K.lookup a=some o/\o.cls=.type "list" /\ o.dict=none/\o.data=.seq its n/\its.size<=sizeLine/\Vals xs its.toList
def qQ (K:Frag)(H:Hp)(a:Addr)(xs:List V):Prop:=
 Rd H a (.tup xs)∨
  ∃(o:Obj) (its:Array Value) (n:Nat),K.lookup a=some o/\(o.cls=.type "tuple" /\ o.dict=none)/\o.data=.seq its n/\its.size<=sizeLine/\Vals xs its.toList
noncomputable def cZ:Value->Option V
 |.none=>some .non|.bool b=>some (.bl b)|.int i _=>some (.int i)|.str x _=>some (.str x)|.bytes b _=>some (.byt b)|.float b _=>some (.flt b)|.ref a=>some (.ref a)|.type n=>some (.ty n)|_=>none
def RelV.abs {x:V}(r:RelV x u):cZ u=some x:=by
 cases x with
 |non=>cases r;rfl|bl _=>cases r;rfl|int _=>obtain⟨t,rfl⟩:=r;rfl|str _=>obtain⟨t,rfl⟩:=r;rfl|byt _=>obtain⟨t,rfl⟩:=r;rfl|flt _=>obtain⟨t,rfl⟩:=r;rfl|ref _=>cases r;rfl|ty _=>cases r;rfl
def RelV.inj {x y:V}(r:RelV x u)(q:RelV y u):x=y:=aC (r.abs.symm.trans q.abs)
theorem Vals.inj:∀{xs ys:List V}{us:bV},Vals xs us->Vals ys us->xs=ys
 |_,_,_,.nil,.nil=>rfl|_,_,_,.cons r t,.cons a t'=>by rw[r.inj a,Vals.inj t t']
section
variable {X:Cx}{σ:St}{H:Hp}{xs ys:List V}
def jj.of {K:Frag}(h:H a=some (.lst xs)):jj K H a xs:=.inl (.inl h)
def qQ.of {K:Frag}(h:H a=some (.tup xs)):qQ K H a xs:=.inl (.inl h)
def Inv.list (I:Inv X pins σ H s)(h:jj X.K H a xs):∃i:bV,Vals xs i/\PlainL s.heap a i.toArray/\xs.length<=sizeLine:=by
 rcases h with h|⟨o,i,n,k,c,hd,b,d,r⟩
 ·obtain⟨z,i,n,r,e⟩:=h.ok I.hok
  exact⟨i,r,⟨_,n,e,rfl,rfl,rfl⟩,z⟩
 ·refine⟨i.toList,r,⟨o,n,I.kIn a o k,c,hd,by simpa using b⟩,?_⟩
  have e:=r.length;simp only[aR]at e;omega
def Inv.tuple (I:Inv X pins σ H s)(h:qQ X.K H a xs):∃i:bV,Vals xs i/\IsTup s.heap a i.toArray/\xs.length<=sizeLine:=by
 rcases h with h|⟨o,i,n,k,c,b,d,r⟩
 ·obtain⟨z,i,r,p⟩:=h.ok I.hok
  exact⟨i,r,p.tup,z⟩
 ·refine⟨i.toList,r,⟨o,I.kIn a o k,c.1,n,by simpa using b⟩,?_⟩
  have e:=r.length;simp only[aR]at e;omega
def Inv.list_inj (I:Inv X pins σ H s)(h:jj X.K H a xs)(h':jj X.K H a ys):xs=ys:=by
 obtain⟨i,r,⟨o,n,e,_,_,d⟩,_⟩:=I.list h;obtain⟨its',b,⟨o',N,E,_,_,d'⟩,_⟩:=I.list h';rw[e]at E;cases E;rw[d]at d';injection d' with D _
 have:i=its':=by simpa using congrArg Array.toList D
 subst this;exact r.inj b
def Inv.tuple_inj (I:Inv X pins σ H s)(h:qQ X.K H a xs)(h':qQ X.K H a ys):xs=ys:=by
 obtain⟨i,r,⟨o,e,_,n,d⟩,_⟩:=I.tuple h;obtain⟨its',b,⟨o',E,_,N,d'⟩,_⟩:=I.tuple h';rw[e]at E;cases E;rw[d]at d';injection d' with D _
 have:i=its':=by simpa using congrArg Array.toList D
 subst this;exact r.inj b
end
noncomputable abbrev Cx.wish (X:Cx)(E:b8):Cx:={ X with xe:=E }
noncomputable abbrev Cx.nox (X:Cx):Cx:=X.wish λ_ _=>False
theorem Cx.Ok.wish {X:Cx}(ok:X.Ok)(E:b8):(X.wish E).Ok:=
 ⟨ok.mod,ok.kind,ok.glob,ok.blt,ok.above,ok.inj,ok.has,ok.cab,ok.hd,ok.frames,ok.stk,ok.exf,ok.bs,ok.bsz,ok.noex,ok.exfs,ok.funs,ok.frf⟩
def Cx.Ok.unwish {X:Cx}(ok:(X.wish E).Ok):X.Ok:=
 ⟨ok.mod,ok.kind,ok.glob,ok.blt,ok.above,ok.inj,ok.has,ok.cab,ok.hd,ok.frames,ok.stk,ok.exf,ok.bs,ok.bsz,ok.noex,ok.exfs,ok.funs,ok.frf⟩
section
variable {X:Cx}{σ:St}{H:Hp}
theorem Inv.wish (I:Inv X pins σ H s)(E:b8):Inv (X.wish E) pins σ H s:=⟨I.ok.wish E,I.os,I.bare,I.base,I.loc,I.cell,I.free,I.freeC,I.pin,I.hok,I.len⟩
theorem Inv.unwish (I:Inv (X.wish E) pins σ H s):Inv X pins σ H s:=⟨I.ok.unwish,I.os,I.bare,I.base,I.loc,I.cell,I.free,I.freeC,I.pin,I.hok,I.len⟩
theorem SP.unwish {D:Ends}{f:Flow}(h:SP (X.wish E) pins D f s'):SP X pins D f s':=by
 cases f with
 |next=>obtain⟨a,H,I,q⟩:=h;exact⟨a,H,I.unwish,q⟩|brk=>obtain⟨a,H,I,q⟩:=h;exact⟨a,H,I.unwish,q⟩|cont=>obtain⟨a,H,I,q⟩:=h;exact⟨a,H,I.unwish,q⟩|ret u=>obtain⟨v,a,H,I,r,q⟩:=h;exact⟨v,a,H,I.unwish,r,q⟩
theorem PT.nox {t:TT}(h:PT X.nox e t):PT X e t:=λpins s σ H Q I hw=>
 wpAny_mono (h pins s σ H Q (I.wish _) hw) (λ_ _ ⟨a,i,q⟩=>⟨a,i.unwish,q⟩) λ_ _ z=>False.elim z
theorem kq.nox {st:cn}{t:TS}(h:kq X.nox st t):kq X st t:=λpins s σ H D I hw=>
 wpAny_mono (h pins s σ H D (I.wish _) hw) (λ_ _ q=>q.unwish) λ_ _ z=>False.elim z
end
section
variable {X:Cx}{st:Stmt}{rest:cn}{t u:TS}{te:TE}
noncomputable def c4:TS:=λD σ H=>D.nx σ H
noncomputable def c5 (t u:TS):TS:=λD σ H=>t { D with nx:=u D } σ H
def Ai:kq X [] c4:=λ_ _ σ H _ I h=>wpAny_execs_nil ⟨σ,H,I,h⟩
def Cu (c:PS X st t)(b:kq X rest u):kq X (st::rest) (c5 t u):=by
 intro pins s σ H D I h;refine wpAny_execs_cons (qc (c pins s σ H { D with nx:=u D } I h) λf s1 q=>?_)
 cases f with
 |next=>
  obtain⟨a,d,i,q⟩:=q;exact b pins s1 a d D i q
 |ret v=>exact q|brk=>exact q|cont=>exact q
def Inv.quiet {σ:St}{H:Hp}(I:Inv X pins σ H s):interactive X.env=false:=by simp[interactive,I.ok.kind]
noncomputable def c6 (t:TE):TS:=λD σ H=>t σ H λ_ H1=>D.nx σ H1
def Bh (he:PE X e te)(a:swapsWith e none pos.line X.env=pure false:=by rfl):PS X (.Expr e pos) (c6 te):=by
 intro pins s σ H D I h;exact wpAny_Expr_any (qc (he pins s σ H _ I h) λv s1 ⟨x,H1,i,r,q⟩=>⟨σ,H1,i,q⟩) I.quiet a
noncomputable def c7 (t:TE):TS:=λD σ H=>t σ H D.rt
def c8 (he:PE X e te):PS X (.Return (some e) pos) (c7 te):=by
 intro pins s σ H D I h;exact wpAny_Return_some (qc (he pins s σ H _ I h) λv s1 ⟨x,H1,i,r,q⟩=>⟨x,σ,H1,i,r,q⟩)
noncomputable def c9 (c:TT)(t u:TS):TS:=λD σ H=>c σ H λb H1=>if b=true then t D σ H1 else u D σ H1
def da {c:Expr}{a b:cn}{T:TT}(e:PT X c T)(g:kq X a t)(f:kq X b u):PS X (.If c a b pos) (c9 T t u):=by
 intro pins s σ H D I h;refine wpAny_If (qc (e pins s σ H _ I h) λd s1 ⟨H1,i,q⟩=>?_);cases d with
 |true=>exact g pins s1 σ H1 D i q|false=>exact f pins s1 σ H1 D i q
end
abbrev TG:=V->St->Hp->(St->Hp->Prop)->Prop
abbrev Yh:=List V->St->Hp->(St->Hp->Prop)->Prop
def PG (X:Cx)(target:Expr)(t:TG):Prop:=
 ∀(pins:bX)(s:Shared)(σ:St)(H:Hp)(v:V)(u:Value)(Q:St->Hp->Prop),Inv X pins σ H s->RelV v u->t v σ H Q->
  wpAny (model X.prog X.w) X.A (assign target X.env u) (λ_ s'=>∃a h,Inv X pins a h s'/\Q a h) X.xe s
def XF (X:Cx)(T:b9)(t:Yh):Prop:=
 ∀(pins:bX)(s:Shared)(σ:St)(H:Hp)(vs:List V)(us:bV)(Q:St->Hp->Prop),Inv X pins σ H s->Vals vs us->t vs σ H Q->
  wpAny (model X.prog X.w) X.A (assignInOrder ((assignEach T X.env).map (·.2)) us) (λ_ s'=>∃a h,Inv X pins a h s'/\Q a h) X.xe s
abbrev Yc:=V->V->V->Hp->(Hp->Prop)->Prop
def Xl (X:Cx)(t:Yc):Prop:=
 ∀(pins:bX)(s:Shared)(σ:St)(H:Hp)(o i v:V)(a I u:Value)(Q:Hp->Prop),Inv X pins σ H s->RelV o a->RelV i I->RelV v u->t o i v H Q->
  wpAny (model X.prog X.w) X.A (setItem a I u) (λ_ s'=>∃h,Inv X pins σ h s'/\Q h) X.xe s
abbrev Xr:=V->V->Hp->VK->Prop
def LP (X:Cx)(op:Operator)(t:Xr):Prop:=
 ∀(pins:bX)(s:Shared)(σ:St)(H:Hp)(x y:V)(v u:Value)(Q:VK),Inv X pins σ H s->RelV x v->RelV y u->t x y H Q->
  wpAny (model X.prog X.w) X.A (inplaceOp op v u) (EP X pins σ Q) X.xe s
section
variable {X:Cx}
noncomputable def G0 (i:Nat):TG:=λv σ H Q=>Q (σ.set i (some v)) H
def Uc (b:X.N.Nodup)(hi:X.N[i]? =some x)(a:Loc X.env.scope x)(hf:X.fn x=true∨X.env.scope.names.lookup x=some .local:=by first|exact .inl rfl|exact .inr rfl|assumption):PG X (.Name x pos) (G0 i):=by
 intro pins s σ H v u Q I r h;exact wpAny_assign_Name (YE I b hi a r (λs' c=>⟨_,H,c,h⟩) hf)
noncomputable def dc:Yh:=λvs σ H Q=>vs=[]/\Q σ H
noncomputable def de (t:TG)(u:Yh):Yh:=λvs σ H Q=>∃v r,vs=v::r/\t v σ H λa h=>u r a h Q
def BB:XF X [] dc:=by
 intro pins s σ H vs us Q I r h;obtain⟨e,h⟩:=h;subst e;cases r;exact assignInOrder_nil ⟨σ,H,I,h⟩
def OU {E:b9}{t:TG}{u:Yh}(f:PG X e t)(d:XF X E u)
  (c:(assignEach (e::E) X.env).map (·.2)=assign e X.env::(assignEach E X.env).map (·.2):=by rfl):XF X (e::E) (de t u):=by
 intro pins s σ H vs us Q I r h;obtain⟨v,j,g,h⟩:=h;subst g;cases r with
 |cons r b=>
  rw[c];refine assignInOrder_cons (qc (f pins s σ H _ _ _ I r h) λ_ s1 ⟨a,H1,i,q⟩=>?_);exact d pins s1 a H1 _ _ Q i b q
noncomputable def wO (K:Frag)(n:Nat)(t:Yh):TG:=λv σ H Q=>∃a xs,v=.ref a/\qQ K H a xs/\xs.length=n/\t xs σ H Q
def df {E:b9}{t:Yh}(g:X.calm=true)(h:XF X E t)
  (hn:(assignEach E X.env).length=n:=by rfl)(c:(assignEach E X.env).findIdx? (·.1)=none:=by rfl):PG X (.Tuple E k pos) (wO X.K n t):=by
 intro pins s σ H v u Q I r hw;obtain⟨a,xs,j,q,l,hw⟩:=hw;subst j;cases r;obtain⟨i,d,f,z⟩:=I.tuple q;refine assign_Tuple_tuple (I.ok.hd g) f (by simp[hn,<- l,d.length]) c λh' x=>?_
 have p:Inv X pins σ H { s with heap:=h' }:=I.kept (t':=s.toks) λb o e=>x b o (aI (aF e)) e
 exact h pins _ σ H xs _ Q p (by simpa using d) hw
noncomputable def yw (to ti:TE)(t:Yc):TG:=λv σ H Q=>to σ H λo H1=>ti σ H1 λi a=>t o i v a λh=>Q σ h
def dh {o i:Expr}{to ti:TE}{t:Yc}(f:PE X o to)(hi:PE X i ti)(e:Xl X t)
  (g:∀v,assign (.Subscript o i pos) X.env v=(do
   let ov <- holding [v] (eval o X.env)
   let iv <- holding [v,ov] (eval i X.env)
   standAt pos
   holding [v,ov,iv] (setItem ov iv v)
   release [v,ov,iv] []):=by intro _;rfl):PG X (.Subscript o i pos) (yw to ti t):=by
 intro pins s σ H v u Q I r h;rw[g];refine cq (wpAny_holding (qc (f pins s σ H _ I h) λov s1 ⟨x,H1,l,b,d⟩=>?_));refine cq (wpAny_holding (qc (hi pins s1 σ H1 _ l d) λiv s2 ⟨y,p,k,a,c⟩=>?_));refine cq (wpAny_standAt (cq (wpAny_holding (qc (e pins s2 σ p x y v ov iv u _ k b a r c) λ_ s3 ⟨n,j,q⟩=>?_))));exact wpAny_release ⟨σ,n,j,q⟩
noncomputable def Xc (t:TE)(g:TG):TS:=λD σ H=>t σ H λx H1=>g x σ H1 D.nx
def Md {t:TE}{g:TG}(he:PE X e t)(b:PG X tg g)(a:swapsWithSole [tg] e pos.line X.env=pure false:=by rfl)(hw:swappedStores [tg] e X.env=pure none:=by rfl)
  (c:(assignEach [tg] X.env).map (·.2)=[assign tg X.env]:=by rfl):PS X (.Assign [tg] e pos) (Xc t g):=by
 intro pins s σ H D I h;refine wpAny_Assign_stores (qc (he pins s σ H _ I h) λv s1 ⟨x,H1,i,r,Q⟩=>?_) a hw;rw[c];exact qc (b pins s1 σ H1 x v _ i r Q) λ_ s2 q=>q
def di {t:TE}{pos':Pos}(c:X.N.Nodup)(hi:X.N[i]? =some x)(a:Loc X.env.scope x)(he:PE X e t)(b:swapsWith e (some (.Name x pos')) pos.line X.env=pure false:=by rfl)(hf:X.fn x=true∨X.env.scope.names.lookup x=some .local:=by first|exact .inl rfl|exact .inr rfl|assumption):
  PS X (.Assign [.Name x pos'] e pos) (Xc t (G0 i)):=by
 intro pins s σ H D I h;refine wpAny_Assign_Name (qc (he pins s σ H _ I h) λv s1 ⟨y,H1,f,r,q⟩=>?_) b;exact YE f c hi a r (λs2 d=>⟨_,H1,d,q⟩) hf
noncomputable def dj (i j:Nat)(t:TA):TS:=λD σ H=>t σ H λvs H1=>∃v w,vs=[v,w]/\D.nx ((σ.set i (some v)).set j (some w)) H1
def dk {y:Str}{a b:Expr}{t:TA}{P py pt:Pos}{kt k2 pt2}(K:X.calm=true)(k:X.N.Nodup)(hi:X.N[i]? =some x)(J:X.N[j]? =some y)(d:i≠j)
  (g:X.env.scope.names.lookup x=some .local)(f:X.env.scope.names.lookup y=some .local)(L:PA X [a,b] t)
  (hw:swappedStores [.Tuple [.Name x P,.Name y py] kt pt] (.Tuple [a,b] k2 pt2) X.env=pure (some [x,y]))
  (E:swapsWithSole [.Tuple [.Name x P,.Name y py] kt pt] (.Tuple [a,b] k2 pt2) pos.line X.env=pure false:=by rfl):
  PS X (.Assign [.Tuple [.Name x P,.Name y py] kt pt] (.Tuple [a,b] k2 pt2) pos) (dj i j t):=by
 intro pins s σ H D I h;rw[exec_Assign_arm];refine cq (wpAny_standAt ?_);rw[E];refine cq (cu ?_);rw[aj (by decide)]
 refine cq (Tuple_ (qc (L _ pins s σ H _ I h) λus s1 ⟨vs,H1,Z,z,Q⟩=>?_));obtain⟨v,w,M,Q⟩:=Q;subst M;obtain⟨U,u,rfl,n,r⟩:∃U u,us=[U,u]/\RelV v U/\RelV w u:=by
  cases z with
  |cons p q=>
   cases q with
   |cons C B=>
    cases B;exact⟨_,_,rfl,p,C⟩
 refine wpAny_newObj_type ?_ (by show 2<=sizeLine;decide)
 have Y:Inv X pins σ H1 { s1 with heap:=s1.heap.push { cls:=.type "tuple",data:=.seq [U,u].toArray } }:=Z.kept (t':=s1.toks) λb o e=>af _ e
 rw[hw];refine cq (cu ?_);show wpAny (model X.prog X.w) X.A (do rule "assign.swapped-stores";let items <- unpackItems (.ref s1.heap.objs.size) 2 none;assignInOrder [λv=>bindName X.env y v,λv=>bindName X.env x v] items.reverse;pure Flow.next) _ _ _
 refine cq (wpAny_rule (cq (unpackItems_tuple (items:=#[U,u]) (I.ok.hd K) (IsTup.new s1.heap _) λh' c=>?_)));have T:=Y.kept (h':=h') (t':=s1.toks) λb o e=>c b o (aI (aF e)) e;show wpAny _ _ (assignInOrder [λv=>bindName X.env y v,λv=>bindName X.env x v] [u,U] >>= λ_=>pure Flow.next) _ _ _;refine cq (assignInOrder_cons (wpAny_bindName (YE T k J (.inl f) r (λs2 S=>?_) (.inr f))));refine assignInOrder_cons (wpAny_bindName (YE S k hi (.inl g) n (λs3 l=>assignInOrder_nil (cu ?_)) (.inr g)));rw[List.set_comm _ _ (Ne.symm d)]at l;exact⟨_,H1,l,Q⟩
noncomputable def dm (to ti e:TE)(T:V->V->Hp->VK->Prop)(p:Xr)(t:Yc):TS:=λD σ H=>to σ H λo H1=>ti σ H1 λi d=>T o i d λx c=>e σ c λy b=>p x y b λz a=>t o i z a λh=>D.nx σ h
def LF (X:Cx)(t:V->V->Hp->VK->Prop):Prop:=
 ∀(pins:bX)(s:Shared)(σ:St)(H:Hp)(o i:V)(v I:Value)(Q:VK),Inv X pins σ H s->RelV o v->RelV i I->t o i H Q->
  wpAny (model X.prog X.w) X.A (getItem v I) (EP X pins σ Q) X.xe s
def Ap {o i:Expr}{to ti c:TE}{T:V->V->Hp->VK->Prop}{p:Xr}{t:Yc}{op:Operator}(y:PE X o to)(hi:PE X i ti)(z:LF X T)(he:PE X e c)(x:LP X op p)(w:Xl X t)
  (A:∀a b new,augStore i a b new=(do holding [new,a,b] (setItem a b new);release [new,a,b] [];pure .next):=by intros;rfl):PS X (.AugAssign (.Subscript o i tpos) op e pos) (dm to ti c T p t):=by
 intro pins s σ H D I h;refine wpAny_AugAssign_SubscriptAny (qc (y pins s σ H _ I h) λa s1 ⟨x1,H1,L,d,u⟩=>?_) A;refine qc (hi pins s1 σ H1 _ L u) λb s2 ⟨x2,U,K,r,n⟩=>?_;refine qc (z pins s2 σ U x1 x2 a b _ K d r n) λold s3 ⟨x3,S,J,j,l⟩=>?_;refine qc (he pins s3 σ S _ J l) λv s4 ⟨x4,P,E,g,k⟩=>?_;refine qc (x pins s4 σ P x3 x4 old v _ E j g k) λnew s5 ⟨x5,N,C,f,Q⟩=>?_;exact qc (w pins s5 σ N x1 x2 x5 a b new _ C d r f Q) λ_ Y ⟨M,B,q⟩=>⟨σ,M,B,q⟩
noncomputable def dq (f:Int->Int->Int):Xr:=λx y H Q=>∃i j,x=.int i/\y=.int j/\Q (.int (f i j)) H
def dr:LP X .Add (dq λi j=>i+j):=by
 intro pins s σ H x y v u Q I a r h;obtain⟨i,j,E,e,q⟩:=h;subst E;subst e;obtain⟨t,rfl⟩:=a;obtain⟨t',rfl⟩:=r;exact iadd_int ⟨.int _,H,I.tok _,⟨_,rfl⟩,q⟩
def dt (c:TT)(t:TS):TS:=λD σ H=>∃W:Nat->St->Hp->Prop,(∃m,W m σ H)/\∀m σ H,W m σ H->
 c σ H λb H1=>if b=true then ∃N:St->Hp->Prop,(∀a h,N a h->∃m',m'<m/\W m' a h)/\t { D with nx:=N,ct:=N,bk:=D.nx } σ H1 else D.nx σ H1
def CB {c:Expr}{t:TT}{T:TS}(p:PassesOwn (model X.prog X.w) X.A X.env X.xe)(z:PT X c t)(B:kq X body T):PS X (.While c body [] pos) (dt t T):=by
 intro pins s σ H D I h;obtain⟨W,⟨m0,y⟩,turn⟩:=h;refine wpAny_While (codeAny_whileLoop (λn s'=>∃e u,Inv X pins e u s'/\W n e u) ?_ m0 ⟨σ,H,I,y⟩)
 rintro n s1 ⟨d,H1,C,x⟩
 refine wpAny_passesOwn p (qc (z pins s1 d H1 _ C (turn n d H1 x)) λb s2 ⟨r,o,Q⟩=>?_);cases b with
 |true=>
  obtain⟨N,l,Q⟩:=Q;rw[ah rfl];refine wpAny_passesOwn p (qc (B pins s2 d r _ o Q) λf s3 q=>?_);cases f with
  |next=>
   obtain⟨a,g,k,j⟩:=q;obtain⟨m',hm,i⟩:=l a g j;exact⟨m',hm,a,g,k,i⟩
  |cont=>
   obtain⟨a,g,k,j⟩:=q;obtain⟨m',hm,i⟩:=l a g j;exact⟨m',hm,a,g,k,i⟩
  |brk=>exact q|ret v=>exact q
 |false=>
  rw[aj aA];exact wpAny_execs_nil ⟨d,r,o,Q⟩
end
structure It where
 go:Nat->Hp->Prop
 yld:Nat->Hp->V->Hp->Prop
 stop:Nat->Hp->Prop
def wc (X:Cx)(pins:bX)(H:Hp)(b:Addr):Prop:=
 H b=none/\b≠X.env.locals/\b∉X.fs/\(b∈X.ex∨X.s0.heap.objs.size<=b)/\(∀x c,X.env.cells.lookup x=some c->c≠b)/\∀p∈X.pn++pins,p.1≠b
def Inv.fpOk {X:Cx}{σ:St}{H a:Hp}(I:Inv X pins σ H s)(h:s.heap.objs.size<=b)(hn:a b=none):wc X pins a b:=by
 refine⟨hn,br (aD I.lt h),I.nofs h,.inr (bb I.sz h),λx c e z=>?_,λp d z=>?_⟩
 ·obtain⟨v,q⟩:=I.cell x c e
  exact absurd (aD q.lt (by rw[z];exact h)) (aT _)
 ·exact absurd (aD (aF (I.pin p d).1) (by rw[z];exact h)) (aT _)
structure Turn (P:Program)(w:World)(K:Frag)(tg:Expr)(J:It)(fp:bW)(it:Addr)(tn:Nat->Heap->Prop):Prop where
 mem:it∈fp
 obj:∀i h,tn i h->∀b∈fp,∃o,h.get? b=some o/\∀v,o.data≠.cell v
 keep:∀i h h',tn i h->(∀b∈fp,∀o,h.get? b=some o->h'.get? b=some o)->tn i h'
 item:∀(X:Cx),X.prog=P->X.w=w->X.K=K->X.calm=true->∀(i:Nat)(pins:bX)(s:Shared)(σ:St)(H:Hp)(E:b8),Inv X pins σ H s->(∀b∈fp,wc X pins H b)->tn i s.heap->J.go i H->
  wpAny (model P w) X.A (pyNext (.ref it)) (λr s1=>∃u,r=some u/\
   wpAny (model P w) X.A (letOwnedTupleGo tg (.ref it) u) (λ_ s2=>∃x H',Inv X pins σ H' s2/\RelV x u/\J.yld i H x H'/\tn (i+1) s2.heap/\∀b∈fp,H' b=none) E s1) E s
 done:∀(X:Cx),X.prog=P->X.w=w->X.K=K->X.calm=true->∀(i:Nat)(pins:bX)(s:Shared)(σ:St)(H:Hp)(E:b8),Inv X pins σ H s->(∀b∈fp,wc X pins H b)->tn i s.heap->J.stop i H->
  wpAny (model P w) X.A (pyNext (.ref it)) (λr s1=>r=none/\Inv X pins σ H s1) E s
 self:∀(A:Around)(i:Nat)(s:Shared)(Q:b8)(E:b8),tn i s.heap->Q (.ref it) s->wpAny (model P w) A (pyIter (.ref it)) Q E s
abbrev TI:=St->Hp->(It->Hp->Prop)->Prop
inductive LJ (X:Cx)(pins:bX)(σ:St)(tg:Expr)(R:It->Hp->Prop)(itv:Value)(s2:Shared):Prop
 |mk (it:Addr) (fp:bW) (tn:Nat->Heap->Prop) (J:It) (H':Hp) (e:itv=.ref it) (I:Inv X pins σ H' s2) (T:Turn X.prog X.w X.K tg J fp it tn) (t0:tn 0 s2.heap) (f:(∀b∈fp,wc X pins H' b)) (q:R J H')
def PI (X:Cx)(t iter:Expr)(wi:TI):Prop:=
 ∀(pins:bX)(s:Shared)(σ:St)(H:Hp)(R:It->Hp->Prop),Inv X pins σ H s->wi σ H R->
  wpAny (model X.prog X.w) X.A (eval iter X.env) (λv s1=>wpAny (model X.prog X.w) X.A (pyIter v) (LJ X pins σ t R) X.xe s1) X.xe s
def Tq {A:Around}{it:Addr}{o:Obj}{n:String}{vs:Array Value}{Q:Unit->Shared->Prop}(a:s.heap.get? it=some o)(c:o.cls=.type n)(hd:o.data=.fields vs)
  (hn:["enumerate","zip","dict_itemiterator","dict_reverseitemiterator","odict_iterator","itertools.zip_longest","itertools.pairwise"].contains n=false)(H:Q () s):wpAny M A (letOwnedTupleGo tg (.ref it) u) Q E s:=by
 unfold letOwnedTupleGo;cases tg<;>first
  |exact cu H
  |(cases u<;>first
    |exact cu H
    |(
      refine cq (wpAny_load a ?_);rw[c,hd];show wpAny M A (if (["enumerate","zip","dict_itemiterator","dict_reverseitemiterator","odict_iterator","itertools.zip_longest","itertools.pairwise"].contains n&&vs[0]?==some (rawInt _))=true then _ else _) Q E s;rw[aj (by intro h;rw[hn,Bool.false_and]at h;cases h)]
      exact cu H))
noncomputable def LY (K:Frag)(a:Addr):It:=
 ⟨λi H=>∃xs x,jj K H a xs/\xs[i]? =some x,λi H x h=>h=H/\∀xs,jj K H a xs->xs[i]? =some x,λi H=>∃xs,jj K H a xs/\xs.length<=i⟩
noncomputable def LU (K:Frag)(a:Addr):It:=
 ⟨λi H=>∃xs x,qQ K H a xs/\xs[i]? =some x,λi H x h=>h=H/\∀xs,qQ K H a xs->xs[i]? =some x,λi H=>∃xs,qQ K H a xs/\xs.length<=i⟩
noncomputable def Wr (lo:Int)(n:Nat):It:=⟨λi _=>i<n,λi H x h=>h=H/\x=.int (lo+i),λi _=>n<=i⟩
def Dk {K:Frag}(a it:Addr):Turn P w K tg (LY K a) [it] it (λi h=>h.IsListIter it a i) where
 mem:=by simp
 obj:=λi h st b f=>by
  have e:b=it:=by simpa using f
  subst e;obtain⟨o,e,c,d⟩:=st;exact⟨o,e,λv z=>by rw[d]at z;cases z⟩
 keep:=λi h h' st k=>st.at λo e=>k it (by simp) o e
 item:=by
  intro X n hw t B i pins s σ H E I hf st l;subst n hw t;obtain⟨xs,x,q,j⟩:=l;obtain⟨g,r,p,J⟩:=I.list q;obtain⟨u,M,D⟩:=r.get j;obtain⟨f0,f1,f2,A,f4,y⟩:=hf it (by simp)
  refine wpAny_pyNext_list_item st p.isList (x:=u) (by simpa using M) λh' S C=>?_
  have Q:Inv X pins σ H { s with heap:=h' }:=I.turned (t':=s.toks) (λb o f e=>(C.2 b f).trans e) f0 f1 A f4 y
  obtain⟨o,e,c,d⟩:=id S;exact⟨u,rfl,Tq (s:={ s with heap:=h' }) e c d (by decide) ⟨x,H,Q,D,⟨rfl,λys L=>by rw[I.list_inj L q];exact j⟩,S,λb f=>(hf b f).1⟩⟩
 done:=by
  intro X n hw t B i pins s σ H E I hf st l;subst n hw t;obtain⟨xs,q,j⟩:=l;obtain⟨g,r,p,J⟩:=I.list q;obtain⟨f0,f1,f2,A,f4,y⟩:=hf it (by simp)
  have T:=r.length;exact wpAny_pyNext_list_end (I.ok.hd B) st p.isList (by simp;omega) λh' N=>⟨rfl,I.turned (t':=s.toks) (λb o f e=>N b o f e) f0 f1 A f4 y⟩
 self:=λ_ _ _ _ _ st h=>wpAny_pyIter_listiter st h
def FO {K:Frag}(a it:Addr):Turn P w K tg (LU K a) [it] it (λi h=>h.IsTupleIter it a i) where
 mem:=by simp
 obj:=λi h st b g=>by
  have e:b=it:=by simpa using g
  subst e;obtain⟨o,e,c,d⟩:=st;exact⟨o,e,λv z=>by rw[d]at z;cases z⟩
 keep:=λi h h' st k=>st.at λo e=>k it (by simp) o e
 item:=by
  intro X n hw t B i pins s σ H E I hf st l;subst n hw t;obtain⟨xs,x,q,j⟩:=l;obtain⟨f,r,p,J⟩:=I.tuple q;obtain⟨u,M,D⟩:=r.get j;obtain⟨f0,f1,f2,A,f4,y⟩:=hf it (by simp)
  refine wpAny_pyNext_tuple_item st (show s.heap.IsTuple a f.toArray from p) (x:=u) (by simpa using M) λh' S C=>?_
  have Q:Inv X pins σ H { s with heap:=h' }:=I.turned (t':=s.toks) (λb o g e=>(C.2 b g).trans e) f0 f1 A f4 y
  obtain⟨o,e,c,d⟩:=id S;exact⟨u,rfl,Tq (s:={ s with heap:=h' }) e c d (by decide) ⟨x,H,Q,D,⟨rfl,λys L=>by rw[I.tuple_inj L q];exact j⟩,S,λb g=>(hf b g).1⟩⟩
 done:=by
  intro X n hw t B i pins s σ H E I hf st l;subst n hw t;obtain⟨xs,q,j⟩:=l;obtain⟨f,r,p,J⟩:=I.tuple q;obtain⟨f0,f1,f2,A,f4,y⟩:=hf it (by simp)
  have T:=r.length;exact wpAny_pyNext_tuple_end (I.ok.hd B) st (show s.heap.IsTuple a f.toArray from p) (by simp;omega) λh' N=>⟨rfl,I.turned (t':=s.toks) (λb o g e=>N b o g e) f0 f1 A f4 y⟩
 self:=λ_ _ _ _ _ st h=>wpAny_pyIter_tupleiter st h
def FZ {K:Frag}(it:Addr)(lo:Int)(n:Nat):Turn P w K tg (Wr lo n) [it] it (λi h=>IsRangeIter h it (lo+(i:Nat) * 1) ((n:Int)-(i:Nat)) 1) where
 mem:=by simp
 obj:=λi h st b a=>by
  have e:b=it:=by simpa using a
  subst e;exact⟨_,st,λv z=>by
   have Z:Data.fields _=Data.cell v:=z;cases Z⟩
 keep:=λi h h' st k=>k it (by simp) _ st
 item:=by
  intro X d hw f c i pins s σ H E I hf st g;subst d hw f;obtain⟨f0,f1,f2,l,f4,j⟩:=hf it (by simp)
  have W:=Walks.range (prog:=X.prog) (w:=X.w) (I.ok.hd c) it lo 1 n;refine W.item i s _ _ g st λv h' tk p S kk=>?_;obtain⟨t,rfl⟩:=p;have r:Inv X pins σ H { s with heap:=h',toks:=tk }:=I.turned (λb o a e=>kk b o (by simpa using a) e) f0 f1 l f4 j
  refine⟨_,rfl,Tq (s:={ s with heap:=h',toks:=tk }) (n := "range_iterator") S rfl rfl (by decide) ⟨.int (lo+i),H,r,⟨t,?_⟩,⟨rfl,rfl⟩,S,λb a=>(hf b a).1⟩⟩
  rw[Int.mul_one]
 done:=by
  intro X d hw f c i pins s σ H E I hf st g;subst d hw f;obtain⟨f0,f1,f2,l,f4,j⟩:=hf it (by simp)
  exact wpAny_pyNext_range_end (I.ok.hd c) st (by have:n<=i:=g;omega) λh' q=>⟨rfl,I.turned (t':=s.toks) (λb o a e=>q b o a e) f0 f1 l f4 j⟩
 self:=λ_ _ _ _ _ st h=>wpAny_pyIter_rangeiter st h
section
variable {X:Cx}
def OS {σ:St}{H:Hp}{R:It->Hp->Prop}{lo hi:Int}{t u v:Tok}{tk:Nat}(I:Inv X pins σ H s)(f:-(2 ^ 62)<=lo)(d:lo<2 ^ 62)(c:-(2 ^ 62)<=hi)(a:hi<2 ^ 62)
  (q:R (Wr lo (hi-lo).toNat) H):wpAny (model X.prog X.w) X.A (pyIter (.ref s.heap.objs.size)) (LJ X pins σ tg R) E { s with heap:=s.heap.push { cls:=.type "range",data:=.fields #[.int lo t,.int hi u,.int 1 v] },toks:=tk }:=by
 refine wpAny_pyIter_range (IsRange.new ..) (small_one f d c a) ?_;have i:Inv X pins σ H { s with heap:=s.heap.push { cls:=.type "range",data:=.fields #[.int lo t,.int hi u,.int 1 v] },toks:=tk }:=I.kept λb o e=>af _ e
 refine⟨(s.heap.push { cls:=.type "range",data:=.fields #[.int lo t,.int hi u,.int 1 v] }).objs.size,[(s.heap.push { cls:=.type "range",data:=.fields #[.int lo t,.int hi u,.int 1 v] }).objs.size],_,_,H,rfl,
  i.kept (t':=tk) λb o e=>af _ e,FZ _ lo (hi-lo).toNat,?_,λb h=>?_,q⟩
 ·have j:lo+((0:Nat):Int) * 1=lo:=by simp
  have g:(((hi-lo).toNat:Nat):Int)-((0:Nat):Int)=Builtin.Range.rangeSize lo hi 1:=by rw[rangeSize_one];split<;>omega
  show IsRangeIter _ _ (lo+((0:Nat):Int) * 1) ((((hi-lo).toNat:Nat):Int)-((0:Nat):Int)) 1;rw[j,g];exact av _ rfl
 ·have e:b=(s.heap.push { cls:=.type "range",data:=.fields #[.int lo t,.int hi u,.int 1 v] }).objs.size:=by simpa using h
  subst e;exact i.fpOk (ar _) (i.hok.fresh (ar _))
def du (t:TA):TI:=λσ H R=>t σ H λvs H1=>∃j:Int,vs=[.int j]/\-(2 ^ 62)<=j/\j<2 ^ 62/\R (Wr 0 j.toNat) H1
def dv (t:TA):TI:=λσ H R=>t σ H λvs H1=>∃i j:Int,vs=[.int i,.int j]/\(-(2 ^ 62)<=i/\i<2 ^ 62/\-(2 ^ 62)<=j/\j<2 ^ 62)/\R (Wr i (j-i).toNat) H1
def E4 {a:Expr}{T:TA}(g:Gl X "range")(hm:X.mg "range"=none)(i:PA X [a] T)(f:starEach [a] X.env=[(false,eval a X.env)]:=by rfl):PI X tg (.Call (.Name "range" p) [a] [] pos) (du T):=by
 intro pins s σ H R I h;refine Call_ (Qr I g hm boot_range (PyProof.Rows.callWith_type1 (qc (i pos pins s σ H _ I h) λus s1 ⟨vs,H1,k,c,Q⟩=>?_) f rfl));obtain⟨j,e,Q,d,q⟩:=Q;subst e;cases c with
 |cons r b=>
  cases b;obtain⟨t,rfl⟩:=r;exact call_range_1 (OS k (by omega) (by omega) Q d (by simpa using q))
def De {a b:Expr}{T:TA}(u:Gl X "range")(hm:X.mg "range"=none)(v:PA X [a,b] T)(o:starEach [a,b] X.env=[(false,eval a X.env),(false,eval b X.env)]:=by rfl)(c:starEach [b] X.env=[(false,eval b X.env)]:=by rfl):
  PI X tg (.Call (.Name "range" p) [a,b] [] pos) (dv T):=by
 intro pins s σ H R I h;refine Call_ (Qr I u hm boot_range (PyProof.Rows.callWith_type1 (qc (v pos pins s σ H _ I h) λus s1 ⟨vs,H1,w,f,Q⟩=>?_) (by rw[o,c]) (by rw[c];rfl)))
 obtain⟨i,j,e,⟨Q,n,l,k⟩,q⟩:=Q;subst e;cases f with
 |cons r d=>
  cases d with
  |cons g d=>
   cases d;obtain⟨t,rfl⟩:=r;obtain⟨t',rfl⟩:=g;exact call_range_2 (OS w Q n l k q)
def dw (wi:TI)(g:TG)(t:TS):TS:=λD σ H=>wi σ H λJ H1=>∃W:Nat->Nat->St->Hp->Prop,(∃m,W 0 m σ H1)/\∀i m σ H,W i m σ H->
 (J.stop i H/\D.nx σ H)∨(J.go i H/\∃N:St->Hp->Prop,(∀a h,N a h->∃m',m'<m/\W (i+1) m' a h)/\∀x h,J.yld i H x h->g x σ h λb c=>t { D with nx:=N,ct:=N,bk:=D.nx } b c)
noncomputable def K2 (fp:bW)(h:Heap):bX:=fp.filterMap λb=>(h.get? b).map λo=>(b,o)
def W0 {o:Obj}(H:b∈fp)(e:h.get? b=some o):(b,o)∈K2 fp h:=List.mem_filterMap.mpr ⟨b,H,by rw[e];rfl⟩
def EK {p:Addr×Obj}(H:p∈K2 fp h):p.1∈fp/\h.get? p.1=some p.2:=by
 obtain⟨b,a,e⟩:=List.mem_filterMap.mp H;cases q:h.get? b with
 |none=>rw[q]at e;cases e|some o=>
  rw[q]at e;have E:(b,o)=p:=aC e;subst E;exact⟨a,q⟩
def Inv.pinned {σ:St}{H:Hp}(I:Inv X pins σ H s)(hf:∀b∈fp,wc X pins H b)(c:∀b∈fp,∃o,s.heap.get? b=some o/\∀v,o.data≠.cell v):Inv X (pins++K2 fp s.heap) σ H s:=
 I.pins_of λp a=>(cC.mp a).elim (λz=>I.pin p (aU _ z)) λz=>by
  obtain⟨h,e⟩:=EK z;obtain⟨f0,f1,f2,_⟩:=hf p.1 h;obtain⟨o,E,d⟩:=c p.1 h;rw[e]at E;cases E;exact⟨e,f0,f1,f2,d⟩
def Inv.unpinned {P:bX}{σ:St}{H:Hp}(I:Inv X (pins++P) σ H s):Inv X pins σ H s:=I.pins_of λp h=>I.pin p (aU _ (mem_append_left _ h))
def dy {wi:TI}{g:TG}{U:TS}(z:PassesOwn (model X.prog X.w) X.A X.env X.xe)(Y:X.calm=true)(hi:PI X tg iter wi)(hg:PG X tg g)(k:kq X body U)
  (hs:∀x,foldedSetIterable iter X.env x=pure x:=by intro _;rfl):PS X (.For tg iter body [] pos) (dw wi g U):=by
 intro pins s σ H D I h;refine wpAny_For (qc (hi pins s σ H _ I h) λv s1 h1=>qc h1 λitv s2 h2=>?_) hs;obtain⟨it,fp,Q,J,H2,e,I2,T,Zd,f2,W,⟨m0,w0⟩,turn⟩:=h2;subst e;have S:∀{H':Hp},(∀b∈fp,H' b=none)->∀b∈fp,wc X pins H' b:=λhn b k=>⟨hn b k,(f2 b k).2⟩;refine codeAny_forLoop_any (λn s'=>∃i j H',Inv X pins j H' s'/\Q i s'.heap/\(∀b∈fp,H' b=none)/\W i n j H') ?_ m0 ⟨0,σ,H2,I2,Zd,λb k=>(f2 b k).1,w0⟩
 rintro n s3 ⟨i,c,C,Z,Zy,B,w3⟩
 rcases turn i n c C w3 with ⟨stop,qn⟩|⟨go,N,hN,step⟩
 ·refine wpAny_passesOwn z (qc (T.done X rfl rfl rfl Y i pins s3 c C X.xe Z (S B) Zy stop) λr s4 ⟨L,I4⟩=>?_)
  subst L;exact wpAny_execs_nil ⟨c,C,I4,qn⟩
 ·refine wpAny_passesOwn z (qc (T.item X rfl rfl rfl Y i pins s3 c C X.xe Z (S B) Zy go) λr s4 ⟨u,L,h4⟩=>?_)
  subst L;refine wpAny_passesOwn z (qc h4 λ_ s5 ⟨x,H5,I5,r5,y5,t,M⟩=>?_);have P:=I5.pinned (S M) (T.obj _ _ t);refine wpAny_passesOwn z (qc (hg _ s5 c H5 x u _ P r5 (step x H5 y5)) λ_ s6 ⟨E,H6,I6,q6⟩=>?_);refine wpAny_passesOwn z (qc (k _ s6 E H6 _ I6 q6) λf K q=>?_);have again:∀{a:St}{p:Hp},Inv X (pins++K2 fp s5.heap) a p K->N a p->∃m,m<n/\∃i j H',Inv X pins j H' K/\Q i K.heap/\(∀b∈fp,H' b=none)/\W i m j H':=λ {a p} l y=>by
   obtain⟨m',hm,w7⟩:=hN a p y;refine⟨m',hm,i+1,a,p,l.unpinned,T.keep _ _ _ t λb k o e=>(l.pin (b,o) (aU _ (aU _ (W0 k e)))).1,λb k=>?_,w7⟩;obtain⟨o,e,d⟩:=T.obj _ _ t b k;exact(l.pin (b,o) (aU _ (aU _ (W0 k e)))).2.1
  cases f with
  |next=>obtain⟨a,p,l,y⟩:=q;exact again l y|cont=>obtain⟨a,p,l,y⟩:=q;exact again l y|brk=>obtain⟨a,p,l,q⟩:=q;exact⟨a,p,l.unpinned,q⟩|ret v=>obtain⟨x7,a,p,l,r7,q⟩:=q;exact⟨x7,a,p,l.unpinned,r7,q⟩
end
abbrev R2:=V->V->Hp->VK->Prop
def ji (X:Cx)(f:Value->Value->Sem Value)(r:R2):Prop:=
 ∀(pins:bX)(s:Shared)(σ:St)(H:Hp)(x y:V)(v u:Value)(Q:VK),Inv X pins σ H s->RelV x v->RelV y u->r x y H Q->
  wpAny (model X.prog X.w) X.A (f v u) (EP X pins σ Q) X.xe s
def Xx (X:Cx)(f:Value->Sem Value)(r:V->Hp->VK->Prop):Prop:=
 ∀(pins:bX)(s:Shared)(σ:St)(H:Hp)(x:V)(v:Value)(Q:VK),Inv X pins σ H s->RelV x v->r x H Q->
  wpAny (model X.prog X.w) X.A (f v) (EP X pins σ Q) X.xe s
def yv (X:Cx)(f:Value)(r:List V->Hp->VK->Prop):Prop:=
 ∀(pins:bX)(s:Shared)(σ:St)(H:Hp)(xs:List V)(us:bV)(Q:VK),Inv X pins σ H s->Vals xs us->r xs H Q->
  wpAny (model X.prog X.w) X.A (call f us) (EP X pins σ Q) X.xe s
def dz (X:Cx)(r:V->Hp->(Bool->Hp->Prop)->Prop):Prop:=
 ∀(pins:bX)(s:Shared)(σ:St)(H:Hp)(x:V)(v:Value)(Q:Bool->Hp->Prop),Inv X pins σ H s->RelV x v->r x H Q->
  wpAny (model X.prog X.w) X.A (truthy v) (TP X pins σ Q) X.xe s
noncomputable def Wv (r:R2)(T t:TE):TE:=λσ H Q=>T σ H λx H1=>t σ H1 λy h=>r x y h Q
noncomputable def LN (r:V->Hp->VK->Prop)(t:TE):TE:=λσ H Q=>t σ H λx H1=>r x H1 Q
noncomputable def rI (C:Int->Int->Prop)(g:Int->Int->V):R2:=λx y H Q=>∃i j,x=.int i/\y=.int j/\C i j/\Q (g i j) H
noncomputable def Zv (g:Int->Int->V):R2:=λx y H Q=>∃i j,x=.int i/\y=.int j/\Q (g i j) H
noncomputable def rU (g:Int->V):V->Hp->VK->Prop:=λx H Q=>∃i,x=.int i/\Q (g i) H
section
variable {X:Cx}{a b:Expr}{ta tb:TE}
def TB (j:PE X a ta)(i:PE X b tb){σ:St}{H:Hp}{R:V->V->Hp->Prop}(I:Inv X pins σ H s)
  (h:ta σ H λx H1=>tb σ H1 λy c=>R x y c){f:Value->Value->Sem Value}
  (hf:∀v u s2 x y c,Inv X pins σ c s2->RelV x v->RelV y u->R x y c->wpAny (model X.prog X.w) X.A (f v u) Q X.xe s2):
  wpAny (model X.prog X.w) X.A (eval a X.env) (λv d=>wpAny (model X.prog X.w) X.A (eval b X.env) (λu S=>wpAny (model X.prog X.w) X.A (f v u) Q X.xe S) X.xe d) X.xe s:=by
 refine qc (j pins s σ H _ I h) λv s1 ⟨x,H1,l,e,g⟩=>?_;refine qc (i pins s1 σ H1 _ l g) λu s2 ⟨y,c,k,r,q⟩=>?_;exact hf v u s2 x y c k e r q
def dA {op:Operator}{r:R2}(o:ji X (binaryOp op) r)(f:PE X a ta)(e:PE X b tb):PE X (.BinOp a op b pos) (Wv r ta tb):=by
 intro pins s σ H Q I h;exact wpAny_BinOp (TB f e I h λv u s2 x y g i d c q=>o pins s2 σ g x y v u Q i d c q)
def dB {op:UnaryOp}{r:V->Hp->VK->Prop}(o:Xx X (unaryOp op) r)(c:PE X a ta):PE X (.UnaryOp op a pos) (LN r ta):=by
 intro pins s σ H Q I h;exact UnaryOp_ (qc (c pins s σ H _ I h) λv s1 ⟨x,H1,i,b,q⟩=>o pins s1 σ H1 x v Q i b q)
def Xu {f:Value->Value->Sem Value}{C:Int->Int->Prop}{g:Int->Int->Int}
  (rule:∀(i j:Int)(t u:Tok)(s:Shared)(Q:b8)(E:b8),C i j->Q (.int (g i j) s.toks) { s with toks:=s.toks+1 }->wpAny (model X.prog X.w) X.A (f (.int i t) (.int j u)) Q E s):
  ji X f (rI C λi j=>.int (g i j)):=by
 intro pins s σ H x y v u Q I a r h;obtain⟨i,j,rfl,rfl,c,q⟩:=h;obtain⟨t,rfl⟩:=a;obtain⟨t',rfl⟩:=r;exact rule i j t t' s _ _ c ⟨.int (g i j),H,I.tok _,⟨_,rfl⟩,q⟩
def TN {f:Value->Value->Sem Value}{g:Int->Int->Int}
  (rule:∀(i j:Int)(t u:Tok)(s:Shared)(Q:b8)(E:b8),Q (.int (g i j) s.toks) { s with toks:=s.toks+1 }->wpAny (model X.prog X.w) X.A (f (.int i t) (.int j u)) Q E s):
  ji X f (Zv λi j=>.int (g i j)):=by
 intro pins s σ H x y v u Q I a r h;obtain⟨i,j,rfl,rfl,q⟩:=h;obtain⟨t,rfl⟩:=a;obtain⟨t',rfl⟩:=r;exact rule i j t t' s _ _ ⟨.int (g i j),H,I.tok _,⟨_,rfl⟩,q⟩
def G9 {f:Value->Value->Sem Value}{g:Int->Int->Bool}
  (rule:∀(i j:Int)(t u:Tok)(s:Shared)(Q:b8)(E:b8),Q (.bool (g i j)) s->wpAny (model X.prog X.w) X.A (f (.int i t) (.int j u)) Q E s):
  ji X f (Zv λi j=>.bl (g i j)):=by
 intro pins s σ H x y v u Q I a r h;obtain⟨i,j,rfl,rfl,q⟩:=h;obtain⟨t,rfl⟩:=a;obtain⟨t',rfl⟩:=r;exact rule i j t t' s _ _ ⟨.bl (g i j),H,I,rfl,q⟩
def Lz (i j:Int):Prop:=0<=j/\j<=1000000/\i.natAbs<2 ^ 64
def Wn (i j:Int):Prop:=(-(2 ^ 64)<i/\i<2 ^ 64)∨(-(2 ^ 64)<j/\j<2 ^ 64)
def Wn.ok {i j:Int}(h:Wn i j):IntMulOk i j:=by
 rcases h with ⟨a,H⟩|⟨a,H⟩
 ·exact .of_left (intBits_le_64 a H)
 ·exact .of_right (intBits_le_64 a H)
def dC:ji X (binaryOp .Add) (Zv λi j=>.int (i+j)):=TN λ_ _ _ _ _ _ _ q=>add_int q
def dD:ji X (binaryOp .Sub) (Zv λi j=>.int (i-j)):=TN λ_ _ _ _ _ _ _ q=>sub_int q
def dE:ji X (binaryOp .Mult) (rI Wn λi j=>.int (i * j)):=Xu λ_ _ _ _ _ _ _ h q=>mul_int q h.ok
def dF:ji X (binaryOp .Mod) (rI (λ_ j=>0<j) λi j=>.int (i%j)):=Xu λi j _ _ _ _ _ h q=>by
 have H:(0:Int)<j:=h;exact mod_int' (by omega) (by rw[Int.fmod_eq_emod_of_nonneg i (by omega)];exact q)
def dG:ji X (binaryOp .Pow) (rI Lz λi j=>.int (i ^ j.toNat)):=Xu λ_ _ _ _ _ _ _ h q=>pow_int_small h.1 h.2.1 h.2.2 q
def dH:ji X (binaryOp .BitXor) (Zv λi j=>.int (Builtin.bitXor i j)):=TN λ_ _ _ _ _ _ _ q=>xor_int q
def dI {f:Value->Sem Value}{g:Int->Int}
  (rule:∀(i:Int)(t:Tok)(s:Shared)(Q:b8)(E:b8),Q (.int (g i) s.toks) { s with toks:=s.toks+1 }->wpAny (model X.prog X.w) X.A (f (.int i t)) Q E s):
  Xx X f (rU λi=>.int (g i)):=by
 intro pins s σ H x v Q I r h;obtain⟨i,rfl,q⟩:=h;obtain⟨t,rfl⟩:=r;exact rule i t s _ _ ⟨.int (g i),H,I.tok _,⟨_,rfl⟩,q⟩
def dJ:Xx X (unaryOp .USub) (rU λi=>.int (-i)):=dI λ_ _ _ _ _ q=>neg_int q
variable {c:Expr}{tc:TE}
def dM:ji X (compareOp .Lt) (Zv λi j=>.bl (decide (i<j))):=G9 λ_ _ _ _ _ _ _ q=>lt_int q
def dN:ji X (compareOp .LtE) (Zv λi j=>.bl (decide (i<=j))):=G9 λ_ _ _ _ _ _ _ q=>le_int q
def dO:ji X (compareOp .Gt) (Zv λi j=>.bl (decide (j<i))):=G9 λ_ _ _ _ _ _ _ q=>gt_int q
def dP:ji X (compareOp .GtE) (Zv λi j=>.bl (decide (j<=i))):=G9 λ_ _ _ _ _ _ _ q=>ge_int q
def ji.or {f:Value->Value->Sem Value}{r c:R2}(h:ji X f r)(h':ji X f c):ji X f (λx y H Q=>r x y H Q∨c x y H Q):=by
 intro pins s σ H x y v u Q I b a q;rcases q with q|q
 ·exact h pins s σ H x y v u Q I b a q
 ·exact h' pins s σ H x y v u Q I b a q
def BC {r:R2}(o:ji X (compareOp op) r)(f:PE X a ta)(e:PE X b tb)(hm:behindInMarks op b=false):PE X (.Compare a [op] [b] pos) (Wv r ta tb):=by
 intro pins s σ H Q I h;exact wpAny_Compare1 (TB f e I h λv u s2 x y g i d c q=>o pins s2 σ g x y v u Q i d c q) hm
noncomputable def MW (t:TE):TT:=λσ H Q=>t σ H λx h=>∃k,x=.bl k/\Q k h
def AY {r:R2}(o:ji X (compareOp op) r)(n:PE X a ta)(l:PE X b tb)(hm:behindInMarks op b=false):PT X (.Compare a [op] [b] pos) (MW (Wv r ta tb)):=by
 intro pins s σ H Q I h;refine wpAny_isTrue_Compare1 (qc (n pins s σ H _ I h) λv s1 ⟨x,H1,w,g,j⟩=>qc (l pins s1 σ H1 _ w j) λu s2 ⟨y,B,t,f,i⟩=>
  qc (o pins s2 σ B x y v u _ t g f i) λc s3 ⟨z,A,p,d,k,e,q⟩=>?_) hm
 subst e;cases d;exact wpAny_truthy_bool ⟨A,p,q⟩
noncomputable def UE (r b:R2)(a T t:TE):TE:=λσ H Q=>a σ H λx H1=>T σ H1 λy d=>r x y d λz h=>∃k,z=.bl k/\
 (if k=true then t σ h λw c=>b y w c Q else Q (.bl false) h)
def CK {o:CmpOp}{r i:R2}(D:ji X (compareOp op) r)(f:ji X (compareOp o) i)(K:PE X a ta)(J:PE X b tb)(E:PE X c tc)
  (hm:lastMarks [op,o] [b,c]=false:=by with_unfolding_all rfl):PE X (.Compare a [op,o] [b,c] pos) (UE r i ta tb tc):=by
 intro pins s σ H Q I h;refine Compare_chain (qc (K pins s σ H _ I h) λv s1 ⟨x,H1,N,t,C⟩=>chain_link (qc (J pins s1 σ H1 _ N C) λu s2 ⟨y,S,M,g,B⟩=>
  qc (D pins s2 σ S x y v u _ M t g B) λd s3 ⟨z,l,j,p,k,e,q⟩=>?_)) hm
 subst e;cases p;refine wpAny_truthy_bool ?_;cases k with
 |false=>exact ite_ff ⟨.bl false,l,j,rfl,q⟩|true=>exact ite_tt (chain_last (qc (E pins s3 σ l _ j q) λw s4 ⟨Z,P,L,n,A⟩=>f pins s4 σ P y Z u w Q L g n A))
def D8 {o:CmpOp}{r i:R2}(K:ji X (compareOp op) r)(f:ji X (compareOp o) i)(N:PE X a ta)(M:PE X b tb)(L:PE X c tc)
  (hm:lastMarks [op,o] [b,c]=false:=by with_unfolding_all rfl):PT X (.Compare a [op,o] [b,c] pos) (MW (UE r i ta tb tc)):=by
 intro pins s σ H Q I h;refine isTrue_chain (qc (N pins s σ H _ I h) λv s1 ⟨x,H1,I1,A,E⟩=>test_link (qc (M pins s1 σ H1 _ I1 E) λu s2 ⟨y,H2,Y,g,D⟩=>
  qc (K pins s2 σ H2 x y v u _ Y A g D) λd s3 ⟨z,l,j,t,k,e,q⟩=>?_)) hm
 subst e;cases t;refine wpAny_truthy_bool ?_;cases k with
 |false=>
  obtain⟨k',S,J⟩:=q;cases S;exact ite_ff ⟨l,j,J⟩
 |true=>
  refine ite_tt (test_last (qc (L pins s3 σ l _ j q) λw s4 ⟨Z,H4,U,p,C⟩=>qc (f pins s4 σ H4 y Z u w _ U g p C) λd' s5 ⟨z2,H5,T,n,k2,P,B⟩=>?_));subst P;cases n;exact wpAny_truthy_bool ⟨H5,T,B⟩
def Lo (K:Frag)(x:V)(H:Hp)(k:Bool):Prop:=
 match x with
 |.non=>k=false|.bl b=>k=b|.int i=>k=(i != 0)|.str y=>y.length<=sizeLine/\k=((y.length:Int) != 0)|.byt y=>y.size<=sizeLine/\k=((y.size:Int) != 0)|.ref p=>(∃xs,jj K H p xs/\k = !xs.isEmpty)∨(∃xs,qQ K H p xs/\k = !xs.isEmpty)∨∃s,H p=some (.dK s)/\k = !s.isEmpty|_=>False
def FF {κ:Type}{k:List (κ×V)}{vs:List (κ×Value)}(r:KV k vs):(!vs.isEmpty) = !k.isEmpty:=by
 cases r<;>rfl
def PH {xs:List V}(r:Vals xs its):(!its.toArray.isEmpty) = !xs.isEmpty:=by
 cases r<;>simp
def JQ:(sizeLine:Nat)<2 ^ 63:=by rw[sizeLine_eq];decide
def dQ:dz X (λx H Q=>∃k,Lo X.K x H k/\Q k H):=by
 intro pins s σ H x v Q I c h;obtain⟨k,e,q⟩:=h;have n:=JQ;have j:sizeLine=16777216:=sizeLine_eq;cases x with
 |non=>
  cases c;have E:k=false:=e;subst E;exact truthy_none ⟨H,I,q⟩
 |bl b=>
  cases c;have E:k=b:=e;subst E;exact wpAny_truthy_bool ⟨H,I,q⟩
 |int i=>
  obtain⟨t,rfl⟩:=c;have E:k=(i != 0):=e;subst E;exact PySem.P.truthy_int ⟨H,I,q⟩
 |str y=>
  obtain⟨t,rfl⟩:=c;obtain⟨g,E⟩:y.length<=sizeLine/\k=((y.length:Int) != 0):=e;subst E;exact PySem.P.truthy_str (by omega) ⟨H,I.tok _,q⟩
 |byt y=>
  obtain⟨t,rfl⟩:=c;obtain⟨g,E⟩:y.size<=sizeLine/\k=((y.size:Int) != 0):=e;subst E;exact PySem.W.truthy_bytes (by omega) ⟨H,I.tok _,q⟩
 |ref p=>
  cases c;have E:(∃xs,jj X.K H p xs/\k = !xs.isEmpty)∨(∃xs,qQ X.K H p xs/\k = !xs.isEmpty)∨∃a,H p=some (.dK a)/\k = !a.isEmpty:=e;rcases E with ⟨xs,d,E⟩|⟨xs,d,E⟩|⟨a,d,E⟩
  ·subst E
   obtain⟨f,r,l,z⟩:=I.list d;have hlen:=r.length;exact wpAny_truthy_list l.isList (by simp only[aB];omega) ⟨H,I.tok _,by rw[PH r];exact q⟩
  ·subst E
   obtain⟨f,r,l,z⟩:=I.tuple d;have hlen:=r.length;exact truthy_tuple l (by simp only[aB];omega) ⟨H,I.tok _,by rw[PH r];exact q⟩
  ·subst E
   obtain⟨z,S,vs,r,m⟩:a.length<=sizeLine/\(p==sysModules)=false/\∃vs,KV a vs/\s.heap.DictOf (Uu X.prog X.w) p vs:=I.hok p _ d;have hlen:a.length=vs.length:=Paired.length r;exact wpAny_truthy_dict S m (by omega) ⟨H,I.tok _,by rw[FF r];exact q⟩
 |_=>exact(show False from e).elim
def DN (c:PE X a ta)(he:∀whole,isTrue a X.env whole=(do let v <- whole;standAt a.pos;holding [v] (truthy v))):
  PT X a (λσ H Q=>ta σ H λx b=>∃k,Lo X.K x b k/\Q k b):=by
 intro pins s σ H Q I h;exact isTrue_plain (qc (c pins s σ H _ I h) λv s1 ⟨x,H1,i,r,q⟩=>dQ pins s1 σ H1 x v Q i r q) (he _)
def vals1 {x:V}(r:Vals [x] us):∃u,us=[u]/\RelV x u:=by
 cases r with
 |cons b a=>cases a;exact⟨_,rfl,b⟩
def vals2 {x y:V}(r:Vals [x,y] us):∃u w,us=[u,w]/\RelV x u/\RelV y w:=by
 cases r with
 |cons d c=>
  cases c with
  |cons b a=>cases a;exact⟨_,_,rfl,d,b⟩
def DE:yv X (.builtin "abs") (λxs H Q=>∃i,xs=[.int i]/\Q (.int (if i<0 then -i else i)) H):=by
 intro pins s σ H xs us Q I r h;obtain⟨i,rfl,q⟩:=h;obtain⟨u,rfl,t,rfl⟩:=vals1 r;exact call_abs_int λu tk=>⟨.int (if i<0 then -i else i),H,I.tok _,⟨_,rfl⟩,q⟩
def Eh (c:X.calm=true):yv X (.builtin "max") (λxs H Q=>∃i j,xs=[.int i,.int j]/\Q (.int (if j > i then j else i)) H):=by
 intro pins s σ H xs us Q I r h;obtain⟨i,j,rfl,q⟩:=h;obtain⟨u,w,rfl,⟨t,rfl⟩,⟨t',rfl⟩⟩:=vals2 r;refine max_two_ints (I.ok.hd c) λh' tk k=>⟨_,H,I.kept k,?_,q⟩
 by_cases a:j > i
 ·rw[ah a,ah a];exact⟨_,rfl⟩
 ·rw[aj a,aj a];exact⟨_,rfl⟩
def EU (c:X.calm=true):yv X (.builtin "min") (λxs H Q=>∃i j,xs=[.int i,.int j]/\Q (.int (if j<i then j else i)) H):=by
 intro pins s σ H xs us Q I r h;obtain⟨i,j,rfl,q⟩:=h;obtain⟨u,w,rfl,⟨t,rfl⟩,⟨t',rfl⟩⟩:=vals2 r;refine min_two_ints (I.ok.hd c) λh' tk k=>⟨_,H,I.kept k,?_,q⟩
 by_cases a:j<i
 ·rw[ah a,ah a];exact⟨_,rfl⟩
 ·rw[aj a,aj a];exact⟨_,rfl⟩
def Dj:yv X (.type "int") (λxs H Q=>(∃i,xs=[.int i]/\Q (.int i) H)∨∃k,xs=[.bl k]/\Q (.int (if k then 1 else 0)) H):=by
 intro pins s σ H xs us Q I r h;rcases h with ⟨i,rfl,q⟩|⟨k,rfl,q⟩
 ·obtain⟨u,rfl,t,rfl⟩:=vals1 r
  exact call_int_int ⟨.int i,H,I,⟨_,rfl⟩,q⟩
 ·obtain⟨u,rfl,a⟩:=vals1 r
  cases a;exact call_int_bool ⟨.int (if k then 1 else 0),H,I.tok _,⟨_,rfl⟩,q⟩
end
structure TF (h:Heap)(x dx C:Addr)(mA:cc):Prop where
 obj:h.get? x=some (instObj C dx)
 ns:h.Ns1 dx mA
 ne:dx≠x
def Di {D:Addr}{M:cc}(n:h.Ns1 D M):∃d,h.get? D=some d/\∀name,lookIn name d=some (M name):=by
 obtain⟨o,E,p,c,hd,k,_,hm⟩:=n;refine⟨o,c,λname=>?_⟩;have e:=hm name;unfold nsFind findBy at e;rw[<- Array.find?_toList]at e;unfold lookIn;rw[hd];dsimp only
 split
 ·rename_i y q
  rw[q]at e;exact congrArg some e
 ·rename_i q
  rw[q]at e;have a:E.toList.any (·.refKey)=false:=by
   rw[List.any_eq_false];intro y b;obtain⟨z,t,H⟩:=k y (Array.mem_toList_iff.mp b);simp[DictEntry.refKey,H]
  have A:¬E.toList.any (·.refKey)=true:=by rw[a];exact aA
  rw[aj A];exact congrArg some e
def TF.look {x d C:Addr}{M:cc}(I:TF h x d C M):∃o,PySem.W.InstAt h x (instObj C d) C (some o)/\∀name,lookIn name o=some (M name):=
 let ⟨o,H,l⟩:=Di I.ns
 ⟨o,⟨I.obj,rfl,rfl,H⟩,l⟩
section
variable {H:Hp}{C dx:Addr}{fs:List (Str×V)}
def AQ (hok:yF P w H h)(e:H a=some (.ins C dx fs)):∃M,TF h a dx C M/\(∀f,TR (fs.lookup f) (M f))/\PySem.Within M (fs.map (·.1))/\fs.length<=1000/\H dx=some (.own a):=by
 obtain⟨d,z,ne,ob,M,n,r,q⟩:=(show jF P w H h a (.ins C dx fs) from hok a _ e)
 exact⟨M,⟨ob,n,ne⟩,r,q,z,d⟩
end
structure gu (K:Frag)(C:Addr):Prop where
 pg:plainGet K C Str.empty=true
 hd:PySem.W.hasDictIn K C=true
 po:PySem.W.plainOver K C=true
 sa:PySem.W.findIn K (.ref C) "__setattr__"=some (some (.builtin "object.__setattr__"))
def gu.get {K:Frag}{C:Addr}(c:gu K C)(f:Str):plainGet K C f=true:=c.pg
section
variable {X:Cx}{σ:St}{H:Hp}{A:Around}{c:Value}{b:Bool}
inductive gK (K:Frag)(H:Hp):V->Value->Prop where
 |non:gK K H .non (.type "NoneType")
 |bl (x:Bool):gK K H (.bl x) (.type "bool")
 |int (i:Int):gK K H (.int i) (.type "int")
 |str (x:Str):gK K H (.str x) (.type "str")
 |flt (x:UInt64):gK K H (.flt x) (.type "float")
 |lst {a:Addr} {xs:List V} (e:H a=some (.lst xs)):gK K H (.ref a) (.type "list")
 |frz {a:Addr} {o:Obj} {xs:List V} (e:H a=some (.frz o (.lst xs))):gK K H (.ref a) (.type "list")
 |tup {a:Addr} {xs:List V} (e:H a=some (.tup xs)):gK K H (.ref a) (.type "tuple")
 |dK {a:Addr} {kvs:List (Key×V)} (e:H a=some (.dK kvs)):gK K H (.ref a) (.type "dict")
 |dT {a:Addr} {kvs:List (List Key×V)} (e:H a=some (.dT kvs)):gK K H (.ref a) (.type "dict")
 |ins {a C dx:Addr} {fs:List (Str×V)} (e:H a=some (.ins C dx fs)) (cl:gu K C) (ha:PySem.W.findIn K (.ref C) "__class__"=some (some (.builtin "object.__class__")))
   (hn:PySem.W.specialIn K (.builtin "object.__class__") "__get__"=some (some (.builtin "getset_descriptor.__get__"))) (htk:PySem.W.takesIn K (.builtin "object.__class__")=some true)
   (hm:PySem.W.mroIn K C (.type "object")=some true):gK K H (.ref a) (.ref C)
def Oh {x:V}{t:Value}(I:Inv X pins σ H s)(r:RelV x u)(ty:gK X.K H x t)(e:kitOne X.K t c=some b)(h:∀tk,Q (.bool b) { s with toks:=tk }):
  wpAny (model X.prog X.w) A (call (.builtin "isinstance") [u,c]) Q E s:=by
 cases ty with
 |non=>cases (show u=Value.none from r);exact bI kitx_none I.kIn True.intro e (λz=>nomatch z) h
 |bl y=>cases (show u=Value.bool y from r);exact bI kitx_bool I.kIn True.intro e (λz=>nomatch z) h
 |int i=>obtain⟨t,q⟩:=(show ∃t,u=Value.int i t from r);cases q;exact bI kitx_int I.kIn True.intro e (λz=>nomatch z) h
 |str y=>obtain⟨t,q⟩:=(show ∃t,u=Value.str y t from r);cases q;exact bI kitx_str I.kIn True.intro e (λz=>nomatch z) h
 |flt y=>obtain⟨t,q⟩:=(show ∃t,u=Value.float y t from r);cases q;exact bI kitx_float I.kIn True.intro e (λz=>nomatch z) h
 |@lst a xs ea=>
  cases (show u=Value.ref a from r)
  obtain⟨_,_,n,_,d⟩:=(show jF X.prog X.w H s.heap a (.lst xs) from I.hok a _ ea)
  exact bI kitx_list I.kIn ⟨_,d,rfl⟩ e (λz=>nomatch z) h
 |@frz a ob xs ea=>
  cases (show u=Value.ref a from r)
  obtain⟨_,_,_,n,_,d⟩:=(show jF X.prog X.w H s.heap a (.frz ob (.lst xs)) from I.hok a _ ea)
  exact bI kitx_list I.kIn ⟨_,d,rfl⟩ e (λz=>nomatch z) h
 |@tup a xs ea=>
  cases (show u=Value.ref a from r)
  obtain⟨_,_,_,p⟩:=(show jF X.prog X.w H s.heap a (.tup xs) from I.hok a _ ea)
  obtain⟨o,d,f,_⟩:=p;exact bI kitx_tuple I.kIn ⟨o,d,f.1⟩ e (λz=>nomatch z) h
 |@dK a k ea=>
  cases (show u=Value.ref a from r)
  obtain⟨_,_,vs,_,p⟩:=(show jF X.prog X.w H s.heap a (.dK k) from I.hok a _ ea)
  obtain⟨o,l,v,d,f,_⟩:=p;exact bI kitx_dict I.kIn ⟨o,d,f.1⟩ e (λz=>nomatch z) h
 |@dT a k ea=>
  cases (show u=Value.ref a from r)
  obtain⟨_,_,xs,_,o,l,v,d,f,_⟩:=(show jF X.prog X.w H s.heap a (.dT k) from I.hok a _ ea)
  exact bI kitx_dict I.kIn ⟨o,d,f.1⟩ e (λz=>nomatch z) h
 |@ins a C dx fs ea cl j hn g hm=>
  cases (show u=Value.ref a from r)
  obtain⟨M,O,_⟩:=AQ I.hok ea;obtain⟨B,J,_⟩:=O.look;exact bI (PySem.W.kitx_own (cl.get _) cl.hd j hn g hm) I.kIn J e (λz=>nomatch z) h
end
structure jR (k:Nat)(A:Around):Prop where
 hd:A.handled=none
 dp:A.depth+3 * k+5<recursionLimit
 un:A.units+16 * k+200<cLine
def jR.mono {A:Around}(r:jR k A)(h:j<=k):jR j A:=⟨r.hd,by have:=r.dp;omega,by have:=r.un;omega⟩
theorem jR.deeper {A:Around}(r:jR (k+1) A)(env:Env):jR k (A.deeper env):=
 ⟨r.hd,by have:=r.dp;show A.depth+1+3 * k+5<_;omega,by have:=r.un;show A.units+3+16 * k+200<_;omega⟩
theorem jR.depth {A:Around}(r:jR k A):A.depth<recursionLimit:=by have:=r.dp;omega
theorem jR.units {A:Around}(r:jR k A):A.units+64<cLine:=by have:=r.un;omega
noncomputable def TQ:TA:=λ_ H Q=>Q [] H
noncomputable def G4 (T:TE)(t:TA):TA:=λσ H Q=>T σ H λx H1=>t σ H1 λxs h=>Q (x::xs) h
section
variable {X:Cx}{es:b9}{te:TE}{t:TA}
def yj:PA X [] TQ:=λ_ _ _ _ H Q I h=>Calls.spliced_nil ⟨[],H,I,.nil,h⟩
def jw (f:PE X e te)(d:PA X es t)(c:starEach (e::es) X.env=(false,eval e X.env)::starEach es X.env:=by rfl):PA X (e::es) (G4 te t):=by
 intro pos pins s σ H Q I h;rw[c];show wpAny _ _ (spliced ((false,eval e X.env)::backTo pos (starEach es X.env))) _ _ s;refine Calls.spliced_cons (qc (f pins s σ H _ I h) λu s1 ⟨x,H1,g,a,b⟩=>?_);exact qc (d pos pins s1 σ H1 _ g b) λus s2 ⟨xs,j,i,r,q⟩=>⟨x::xs,j,i,.cons a r,q⟩
def dR (t:TA):TE:=λσ H Q=>t σ H λxs H1=>xs.length<=sizeLine/\∀p,H1 p=none->Q (.ref p) (upd H1 p (.tup xs))
def dS (t:TA):TE:=λσ H Q=>t σ H λxs H1=>xs.length<=sizeLine/\∀p,H1 p=none->Q (.ref p) (upd H1 p (.lst xs))
def MH {x1}(h:PA X es t):PE X (.Tuple es x1 pos) (dR t):=by
 intro pins s σ H Q I a;refine wpAny_Tuple_spliced (qc (h pos pins s σ H _ I a) λus s1 ⟨xs,H1,i,r,z,q⟩=>⟨by rw[<- r.length];exact z,?_⟩)
 have hf:H1 s1.heap.objs.size=none:=i.hok.fresh (ar _);refine⟨.ref s1.heap.objs.size,upd H1 s1.heap.objs.size (.tup xs),i.laid (t':=s1.toks) (λb u e=>af _ e) (ar _) ?_,rfl,q _ hf⟩;exact⟨z,us,r,⟨_,av _ rfl,⟨rfl,rfl⟩,_,rfl⟩⟩
def dU (h:PA X es t):PE X (.List es pos) (dS t):=by
 intro pins s σ H Q I a;refine wpAny_List_spliced (qc (h pos pins s σ H _ I a) λus s1 ⟨xs,H1,i,r,z,q⟩=>⟨by rw[<- r.length];exact z,?_⟩)
 have hf:H1 s1.heap.objs.size=none:=i.hok.fresh (ar _);refine⟨.ref s1.heap.objs.size,upd H1 s1.heap.objs.size (.lst xs),i.laid (t':=s1.toks) (λb u e=>af _ e) (ar _) ?_,rfl,q _ hf⟩;exact⟨z,us,0,r,av _ rfl⟩
end
abbrev Sp:=List V->Hp->VK->XK->Prop
abbrev Zf:=List Env->Hp->Shared->XK->Value->Shared->Prop
structure Yb (P:Program)(w:World)(K:Frag)(mg:cc)(base:Heap)(A:Around)(outer:cf)(s:Shared)(H:Hp):Prop where
 frames:A.frames=some outer
 mod:Mod K mg base
 bs:∀b o,base.get? b=some o->s.heap.get? b=some o/\H b=none
 bsz:base.objs.size<=s.heap.objs.size
 funs:s.heap.FunFrames base outer
 frf:∀b∈qR outer,H b=none
 hok:yF P w H s.heap
 bare:AllBare s.gens
inductive CE (outer:cf)(P:Program)(w:World)(H:Hp)(s:Shared)(Q:VK)(u:Value)(s':Shared):Prop
 |mk (v:V) (H':Hp) (os:s'.os=s.os) (b:AllBare s'.gens) (un:Un (qR outer) [] H H' s.heap s'.heap) (hk:yF P w H' s'.heap) (r:RelV v u) (q:Q v H')
def CR (C:Zf)(outer:cf)(P:Program)(w:World)(H:Hp)(s:Shared)(Q:VK)(E:XK)(r:Result)(s':Shared):Prop:=
 match r with
 |.ok (.ret u)=>CE outer P w H s Q u s'|.ok _=>False|.error e=>C outer H s E e s'
structure ko (P:Program)(w:World)(K:Frag)(mg:cc)(base:Heap)(CX:Zf)(k:Nat)(f:Addr)(fd:FuncData)(ps:bZ)(sp:Sp):Prop where
 len:∀vs H Q E,sp vs H Q E->vs.length=ps.length
 run:∀(A:Around)(outer:cf)(s:Shared)(H:Hp)(args:Args)(us:bV)(vs:List V)(Q:VK)(E:XK),jR k A->Yb P w K mg base A outer s H->BindsTo s fd args (ps.zip us)->Vals vs us->sp vs H Q E->
  codeAny (model P w) A (.call (.ref f) args) (CR CX outer P w H s Q E) s
theorem ko.mono {K:Frag}{C:Zf}{sp:Sp}(F:ko P w K mg base C j f fd ps sp)(h:j<=k):
  ko P w K mg base C k f fd ps sp:=⟨F.len,λA outer s H args us vs Q E r=>F.run A outer s H args us vs Q E (r.mono h)⟩
def ko.imp {K:Frag}{C:Zf}{sp S:Sp}(F:ko P w K mg base C k f fd ps sp)
  (h:∀vs H Q E,S vs H Q E->sp vs H Q E):ko P w K mg base C k f fd ps S:=
 ⟨λvs H Q E q=>F.len vs H Q E (h _ _ _ _ q),λA outer s H args us vs Q E r he b v a=>F.run A outer s H args us vs Q E r he b v (h _ _ _ _ a)⟩
section
variable {X:Cx}{σ:St}{H:Hp}
def Inv.env0 (I:Inv X pins σ H s):Yb X.prog X.w X.K X.mg X.base X.A X.stack s H:=
 ⟨I.ok.frames,I.ok.mod,I.bs,bb I.ok.bsz I.sz,I.stack,I.stkFree,I.hok,I.bare⟩
def Inv.after {Q:VK}(I:Inv X pins σ H s)(h:CE X.stack X.prog X.w H s Q u s'):EP X pins σ Q u s':=by
 obtain⟨v,c,os,bare,un,hok,r,q⟩:=h;obtain⟨a,g,d,t,o⟩:=s';obtain rfl:o=s.os:=os;exact⟨v,c,I.call (h':=a) (g':=g) (d':=d) (t':=t) (ch:=[]) un hok bare (λb z=>absurd z (by simp)),r,q⟩
end
noncomputable def dV (sp:Sp)(d:List V)(E:XK)(t:TA):TE:=λσ H Q=>t σ H λvs H1=>sp (vs++d) H1 Q E
def Binds (K:Frag)(fd:FuncData)(ps:bZ)(ds:bV):Prop:=
 ∀(s:Shared)(us:bV),K.In s.heap->(us++ds).length=ps.length->BindsTo s fd ⟨us,[]⟩ (ps.zip (us++ds))
def Binds.all {K:Frag}(h:∀us:bV,us.length=ps.length->bindArgs fd ⟨us,[]⟩=pure (ps.zip us)):Binds K fd ps []:=λs us _ H=>by
 rw[a8]at H ⊢;exact .of_eq (h us H)
def Passes (C:Zf)(X:Cx)(E:XK):Prop:=∀(pins:bX)(σ:St)(H:Hp)(s:Shared)(e:Value)(s':Shared),Inv X pins σ H s->C X.stack H s E e s'->X.xe e s'
section
variable {X:Cx}{CX:Zf}{sp:Sp}{dvs:List V}{ds:bV}{E:XK}{es:b9}{t:TA}
def dW {σ:St}{H:Hp}{Q:VK}{vs:List V}(F:ko X.prog X.w X.K X.mg X.base CX k f fd ps sp)(b:jR k X.A)(c:Binds X.K fd ps ds)(hd:Vals dvs ds)(x:Passes CX X E)
  (I:Inv X pins σ H s)(r:Vals vs us)(h:sp (vs++dvs) H Q E):wpAny (model X.prog X.w) X.A (call (.ref f) us) (EP X pins σ Q) X.xe s:=by
 have a:Vals (vs++dvs) (us++ds):=r.append hd;have l:(us++ds).length=ps.length:=by rw[<- a.length];exact F.len _ _ _ _ h
 refine wpAny_call (codeAny_mono (F.run X.A X.stack s H ⟨us,[]⟩ (us++ds) (vs++dvs) Q E b I.env0 (c s us I.kIn l) a h) λr s' q=>?_);cases r with
 |error e=>exact x pins σ H s e s' I q|ok d=>
  cases d with
  |ret u=>exact I.after q|next=>exact False.elim q|brk=>exact False.elim q|cont=>exact False.elim q
def Nf (F:ko X.prog X.w X.K X.mg X.base CX k f fd ps sp)(c:jR k X.A)(g:Gl X x)(hm:X.mg x=some (.ref f))(d:keepIn X.K (.ref f)=true)(j:Binds X.K fd ps ds)(hd:Vals dvs ds)(a:Passes CX X E)
  (n:PA X (e::es) t)(b:(x==("__debug__":Str))=false:=by decide)(he:starEach (e::es) X.env=(false,eval e X.env)::starEach es X.env:=by rfl)(l:(backTo pos (starEach es X.env)).any (·.1)=false:=by rfl):
  PE X (.Call (.Name x p) (e::es) [] pos) (dV sp dvs E t):=by
 intro pins s σ H Q I h;refine wpAny_Call_Name_kw (YH I g hm ?_ b);refine callWith_K (h₀:=X.base) I.ok.mod.kin d (qc (n pos pins s σ H _ I h) λus s1 ⟨vs,H1,i,r,q⟩=>⟨i.kIn,?_⟩) he l;exact dW F c j hd a i r q
end
structure qX (N P:bZ)(sc:Scope):Prop where
 kind:sc.kind=.function
 co:sc.isCoroutine=false
 gen:sc.isGenerator=false
 nd:N.Nodup
 pre:N.take P.length=P
 par:∀x∈P,sc.names.lookup x=some .local∨sc.names.lookup x=some .cell
 nofree:∀y∈sc.names,y.2≠.free
theorem Oj {kindOf:Str->Option NameKind}:∀{binds:List (Str×Value)}{m:cc},(∀v,(x,v)∉binds)->bindL kindOf binds m x=m x
 |[],_,_=>rfl|(n,v)::r,m,h=>by
  unfold bindL;rw[Oj λw hw=>h w (aq _ hw)]
  split
  ·have:x≠n:=by rintro rfl;exact h v au
   simp[this]
  ·rfl
theorem PY {kindOf:Str->Option NameKind}:∀{binds:List (Str×Value)}{m:cc},(∀v,(x,v)∉binds)->bindC kindOf binds m x=m x
 |[],_,_=>rfl|(n,v)::r,m,h=>by
  unfold bindC;rw[PY λw hw=>h w (aq _ hw)]
  split
  ·rfl
  ·have:x≠n:=by rintro rfl;exact h v au
   simp[this]
theorem P1 {kindOf:Str->Option NameKind}{v:Value}:∀{P:bZ}{vs:bV}{i:Nat}{m:cc},P.Nodup->P[i]? =some x->vs[i]? =some v->kindOf x=some .local->
  bindL kindOf (P.zip vs) m x=some v
 |[],_,_,_,_,h,_,_=>by simp at h|_::_,[],_,_,_,_,h,_=>by simp at h|p::P,w::vs,0,m,nd,h1,H,k=>by
  simp at h1 H;subst h1;subst H;show bindL kindOf ((p,w)::P.zip vs) m p=_;unfold bindL;rw[Oj λv a=>(List.nodup_cons.mp nd).1 (of_mem_zip a).1,ah k];simp
 |p::P,w::vs,i+1,m,nd,h1,H,k=>by
  show bindL kindOf ((p,w)::P.zip vs) m x=_;unfold bindL;exact P1 (i:=i) (List.nodup_cons.mp nd).2 (by simpa using h1) (by simpa using H) k
theorem P9 {kindOf:Str->Option NameKind}{v:Value}:∀{P:bZ}{vs:bV}{i:Nat}{m:cc},P.Nodup->P[i]? =some x->vs[i]? =some v->kindOf x≠some .local->
  bindC kindOf (P.zip vs) m x=some v
 |[],_,_,_,_,h,_,_=>by simp at h|_::_,[],_,_,_,_,h,_=>by simp at h|p::P,w::vs,0,m,nd,h1,H,k=>by
  simp at h1 H;subst h1;subst H;show bindC kindOf ((p,w)::P.zip vs) m p=_;unfold bindC;rw[PY λv a=>(List.nodup_cons.mp nd).1 (of_mem_zip a).1,aj k];simp
 |p::P,w::vs,i+1,m,nd,h1,H,k=>by
  show bindC kindOf ((p,w)::P.zip vs) m x=_;unfold bindC;exact P9 (i:=i) (List.nodup_cons.mp nd).2 (by simpa using h1) (by simpa using H) k
noncomputable def start (N:bZ)(vs:List V):St:=vs.map some++List.replicate (N.length-vs.length) none
noncomputable def wQ (C:Zf)(P:Program)(w:World)(K:Frag)(mg:cc)(base:Heap)(N:bZ)(qual:Str)(scope:Scope)(f:Addr)(cd:Value)(A:Around)(outer:cf)(s:Shared)(H:Hp)(E:XK):Cx where
 prog:=P
 w:=w
 K:=K
 mg:=mg
 base:=base
 A:=A.deeper (envOfC qual scope s.heap.objs.size f cd)
 N:=N
 s0:=s
 H0:=H
 env:=envOfC qual scope s.heap.objs.size f cd
 outer:=outer
 stack:=envOfC qual scope s.heap.objs.size f cd::outer
 ex:=[]
 calm:=true
 fn:=λ_=>true
 pn:=[]
 xe:=λe s'=>wpAny (model P w) (A.deeper (envOfC qual scope s.heap.objs.size f cd)) (leaving (envOfC qual scope s.heap.objs.size f cd) e) (λ_ S=>C outer H s E e S) (λa S=>C outer H s E a S) s'
def OG (h:sc.names.lookup x=some .cell):∃c,(cellsFrom n sc.names []).lookup x=some c:=by
 have q:=cellsFrom_some sc.names n [] (.inl h);exact Option.isSome_iff_exists.mp q
def E8 {X:Zf}{K:Frag}{cd:Value}{A:Around}{outer:cf}{s1:Shared}{H:Hp}{E:XK}{vs:List V}
  (S:qX N ps scope)(hd:A.handled=none)(g:Yb P w K mg base A outer s H)(M:vs.length=ps.length)(r:Vals vs us)
  (x:InCallC s s.heap.objs.size (bindL (envOfC qual scope s.heap.objs.size f cd).kindOf (ps.zip us) λ_=>none) (cellsFrom (s.heap.objs.size+1) scope.names []) (bindC (envOfC qual scope s.heap.objs.size f cd).kindOf (ps.zip us) λ_=>none) s1):
  Inv (wQ X P w K mg base N qual scope f cd A outer s H E) [] (start N vs) H s1:=by
 have J:ps.length<=N.length:=by have:=congrArg List.length S.pre;rw[bc]at this;omega
 obtain⟨B,tk,rfl,D⟩:=x.done;have j:∀b:Addr,b∉(wQ X P w K mg base N qual scope f cd A outer s H E).ex:=λb z=>absurd (show b∈([]:bW) from z) (by simp)
 refine⟨⟨g.mod,S.kind,rfl,rfl,ar _,λy z c B d=>?_,λy l=>?_,λy c _ h=>?_,λ_=>hd,Around.frames_deeper g.frames,.inr ⟨rfl,rfl⟩,λb z=>absurd z (j b),g.bs,g.bsz,λb _ _=>j b,λb z=>absurd z (j b),g.funs,g.frf⟩,
  rfl,g.bare,Un.kept D,⟨_,x.toInCall.ns,λi y v B d Q=>?_⟩,λy c h=>⟨_,x.cell y c h⟩,g.hok.fresh (ar _),λy c h=>?_,λp t=>absurd (show p∈([]:bX) from t) (by simp),g.hok.kept D,?_⟩
 ·exact name_of_addr x.apart (PySem.mem_of_lookup B) (PySem.mem_of_lookup d)
 ·have l:scope.names.lookup y=some .cell∨scope.names.lookup y=some .free:=l
  rcases l with l|l
  ·exact OG l
  ·exact absurd rfl (S.nofree _ (PySem.mem_of_lookup l))
 ·exact bC (x.above y c (PySem.mem_of_lookup h))
 ·have hi:i<vs.length:=by
   unfold start at d
   by_cases hi:i<vs.length
   ·exact hi
   ·rw[ay (by simpa using hi)]at d
    rw[bF]at d
    split at d<;>cases d
  have L:vs[i]? =some v:=by
   unfold start at d;rw[ao (by simpa using hi),ax]at d
   cases e:vs[i]? with
   |none=>rw[e]at d;cases d|some a=>rw[e]at d;cases d;rfl
  obtain⟨u,C,I⟩:=r.get L;have t:ps[i]? =some y:=by
   rw[<- S.pre,List.getElem?_take_of_lt (by omega)];exact B
  have o:ps.Nodup:=by rw[<- S.pre];exact S.nd.sublist (List.take_sublist _ _)
  refine⟨u,I,?_⟩;rcases S.par y (mem_of_getElem? t) with k|k
  ·exact .inl ⟨k,P1 o t C k⟩
  ·obtain⟨c,e⟩:=OG (n:=s.heap.objs.size+1) k
   refine .inr ⟨.inl k,c,e,?_⟩;have q:=x.cell y c e;rw[P9 o t C (by show scope.names.lookup y≠_;rw[k];decide)]at q
   exact q
 ·exact g.hok.fresh (bC (x.above y c (PySem.mem_of_lookup h)))
 ·unfold start
  show _=N.length;rw[aw,ag,bK];omega
def Th {C:Zf}{K:Frag}{name:Str}{params:Arguments}{D kV doc pm c ct M:Value}{an L:cm}
  {sp:Sp}(lk:K.lookup f=some ⟨M,L,.func (fnOf name qual params body scope D kV doc pm an c ct),osl⟩)(B:codeIn K c qual=true)(S:qX N ps scope)
  (len:∀vs H Q E,sp vs H Q E->vs.length=ps.length)
  (g:∀(A:Around)(outer:cf)(s:Shared)(H:Hp)(vs:List V)(Q:VK)(E:XK),jR k (A.deeper (envOfC qual scope s.heap.objs.size f c))->sp vs H Q E->
   ∃t,kq (wQ C P w K mg base N qual scope f c A outer s H E) body t/\t { nx:=λ_ h=>Q .non h,rt:=Q } (start N vs) H):
  ko P w K mg base C (k+1) f (fnOf name qual params body scope D kV doc pm an c ct) ps sp:=by
 refine⟨len,λA outer s H args us vs Q E z j hb r p=>?_⟩;have Z:=len _ _ _ _ p;have X:K.In s.heap:=j.mod.kin.keeps λb o e=>(j.bs b o e).1;have lim:s.heap.NoLimit:=j.mod.nolimit.keeps λb o e=>(j.bs b o e).1;have d:∀y∈ps.zip us,scope.names.lookup y.1=some .local∨(scope.names.lookup y.1=some .cell/\((cellsFrom (s.heap.objs.size+1) scope.names []).lookup y.1).isSome=true):=λ⟨n,v⟩ T=>by
  rcases S.par n (of_mem_zip T).1 with q|q
  ·exact .inl q
  ·exact .inr ⟨q,cellsFrom_some _ _ _ (.inl q)⟩
 refine codeAny_call_function z.depth (X _ _ lk) rfl S.co S.gen rfl (PySem.W.codeRec_of X B) (hb _ _ _ _ ?_);refine wpAny_newFunctionEnv_cells S.kind d λenv he s1 x=>?_;subst he;refine⟨lim.keeps x.toInCall.keep,codeAny_func ?_⟩;obtain⟨t,U,Y⟩:=g A outer s H vs Q E (z.deeper _) p;have I:Inv (wQ C P w K mg base N qual scope f c A outer s H E) [] (start N vs) H s1:=E8 S z.hd j Z r x;refine wpAny_mono (U [] s1 (start N vs) H _ I Y) (λfl s' i=>?_) λe s' i=>i;have fin:∀{a:St}{h:Hp}{v:V}{u:Value},Inv (wQ C P w K mg base N qual scope f c A outer s H E) [] a h s'->RelV v u->Q v h->CE outer P w H s Q u s':=
  λ {a h v u} J l q=>⟨v,h,J.os,J.bare,J.base,J.hok,l,q⟩
 cases fl with
 |ret u=>
  obtain⟨v,a,h,J,l,q⟩:=i;exact fin J l q
 |next=>
  obtain⟨a,h,J,q⟩:=i;exact fin (v:=V.non) (u:=Value.none) J rfl q
 |brk=>
  obtain⟨_,_,_,q⟩:=i;exact False.elim q
 |cont=>
  obtain⟨_,_,_,q⟩:=i;exact False.elim q
section
variable {X:Cx}{es:b9}{t:TA}{id T:String}{r:List V->Hp->VK->Prop}
noncomputable def Xq (r:List V->Hp->VK->Prop)(t:TA):TE:=λσ H Q=>t σ H λvs H1=>r vs H1 Q
def ZJ (c:yv X (.builtin id) r)(g:Gl X x)(hm:X.mg x=none)(v:bootBuiltins x=some (.builtin id))(d:PA X (e::es) t)(hn:x ≠ "__name__":=by decide)(b:(x==("__debug__":Str))=false:=by decide)
  (he:starEach (e::es) X.env=(false,eval e X.env)::starEach es X.env:=by rfl)(l:(backTo pos (starEach es X.env)).any (·.1)=false:=by rfl):PE X (.Call (.Name x p) (e::es) [] pos) (Xq r t):=by
 intro pins s σ H Q I h;refine wpAny_Call_Name_kw (Qr I g hm v ?_ hn b);exact PyProof.Rows.callWith_builtin1 (qc (d pos pins s σ H _ I h) λus s1 ⟨vs,H1,i,a,q⟩=>c pins s1 σ H1 vs us Q i a q) he l
def JH (c:yv X (.type T) r)(g:Gl X x)(hm:X.mg x=none)(v:bootBuiltins x=some (.type T))(d:PA X (e::es) t)(hn:x ≠ "__name__":=by decide)(b:(x==("__debug__":Str))=false:=by decide)
  (he:starEach (e::es) X.env=(false,eval e X.env)::starEach es X.env:=by rfl)(l:(backTo pos (starEach es X.env)).any (·.1)=false:=by rfl):PE X (.Call (.Name x p) (e::es) [] pos) (Xq r t):=by
 intro pins s σ H Q I h;refine wpAny_Call_Name_kw (Qr I g hm v ?_ hn b);exact PyProof.Rows.callWith_type1 (qc (d pos pins s σ H _ I h) λus s1 ⟨vs,H1,i,a,q⟩=>c pins s1 σ H1 vs us Q i a q) he l
end
end L2
variable {X:L2.Cx}{H:L2.Hp}{xs ys:List L2.V}{r:List L2.V->L2.Hp->L2.VK->Prop}{σ:L2.St}{v:L2.V}
namespace HT
open PySem PyProof.Rows
section
open PySem.SeqAt
open PySem.AutoSeq1 (wpAny_loadPart')
open PySem.MeetsSeq PySem.MeetsSeq2 PySem.MeetsSeq3
end
section
variable {prog:Program}{A:Around}
def Ar {t:Addr}{vs ws:bV}(a:IsTup s.heap t vs.toArray)(f:IsTup s.heap b ws.toArray)(v:vs≠[])
  (i:ws=[]->Q (.ref t) s)(g:ws≠[]->Q (.ref s.heap.objs.size) { s with heap:=s.heap.push { cls:=.type "tuple",data:=.seq (vs++ws).toArray } })
  (z:vs.length+ws.length<=sizeLine):wpAny (model prog w) A (binaryOp .Add (.ref t) (.ref b)) Q E s:=by
 obtain⟨⟨cls,dd,data,l⟩,o,c,n,hd⟩:=id a;obtain⟨⟨C,d,data2,S⟩,h,H,N,hd2⟩:=id f;simp only at c hd H hd2;subst c hd H hd2;have e:vs.toArray++ws.toArray=(vs++ws).toArray:=by simp
 by_cases hw:ws=[]
 ·exact concat_meets ⟨_,o,rfl⟩ ⟨_,h,rfl⟩ noFill_tuple_add seq_tuple_add slot_tuple_add entry_tuple_add (args_tuple_add_2 _ _)
   (tuple_addW1 t b vs.toArray ws.toArray n N dd d l S (by simpa using v) (by simp[hw])) ⟨o,h,i hw⟩
 ·refine concat_meets ⟨_,o,rfl⟩ ⟨_,h,rfl⟩ noFill_tuple_add seq_tuple_add slot_tuple_add entry_tuple_add (args_tuple_add_2 _ _)
   (tuple_addW2 t b vs.toArray ws.toArray n N dd d l S (by simpa using v) (by simpa using hw) (by rw[aB,aB];exact z)) ⟨o,h,?_⟩
  rw[e];exact g hw
noncomputable def qM (n d:Nat):Option Int->Nat
 |none=>d|some v=>if v<0 then(v+(n:Int)).toNat else min v.toNat n
def Ak (n d k:Nat):qM n d (some (k:Int))=min k n:=by
 show(if (k:Int)<0 then((k:Int)+(n:Int)).toNat else min (k:Int).toNat n)=min k n;rw[aj (by omega),aK]
def dX (n d:Nat)(hd:d<=n)(o:cb):qM n d o<=n:=by
 cases o with
 |none=>exact hd|some v=>
  show(if v<0 then(v+(n:Int)).toNat else min v.toNat n)<=n
  by_cases h:v<0
  ·rw[ah h];omega
  ·rw[aj h];exact Nat.min_le_right _ _
def NB (v:Int)(n d:Nat):(if v<0 then max (v+(n:Int)) 0 else min v (n:Int))=((qM n d (some v):Nat):Int):=by
 show(if v<0 then max (v+(n:Int)) 0 else min v (n:Int))=(((if v<0 then(v+(n:Int)).toNat else min v.toNat n):Nat):Int)
 by_cases h:v<0
 ·simp only[ah h];omega
 ·simp only[aj h];omega
def FK (lo hi:cb)(n:Nat):Builtin.Slice.sliceAdjust lo hi 1 (n:Int)=(((qM n 0 lo:Nat):Int),((qM n n hi:Nat):Int)):=by
 have h:¬((1:Int)<0):=by omega
 unfold Builtin.Slice.sliceAdjust;simp only[h,if_false];refine Prod.ext ?_ ?_
 ·cases lo with
  |none=>rfl|some v=>exact NB v n 0
 ·cases hi with
  |none=>rfl|some v=>exact NB v n n
def Ee (i j:Nat):Builtin.Slice.slicePlaces (i:Int) (j:Int) 1=j-i:=by
 unfold Builtin.Slice.slicePlaces;have h:(1:Int) > 0:=by omega
 simp only[h,if_true,Int.ediv_one]
 split<;>omega
def Kr {v:Value}{o:cb}{Q:Option Int->Shared->Prop}(p:IsPart v o)(h:Q o s):wpAny (model prog w) A (Builtin.Slice.slicePartIndex v) Q E s:=by
 cases p with
 |none=>exact slicePart_none h|int i t=>exact slicePart_int h
def S8 {S:Addr}{l v:Value}{lo hi:cb}{Q:Int×Int×Nat->Shared->Prop}(b:s.heap.IsSliceOf S l v .none)(p:IsPart l lo)(pu:IsPart v hi)
  (h:Q (((qM n 0 lo:Nat):Int),1,qM n n hi-qM n 0 lo) s):wpAny (model prog w) A (Builtin.Slice.sliceApplied (.ref S) (pure (n:Int))) Q E s:=by
 obtain⟨os,H,c,a⟩:=id b;unfold Builtin.Slice.sliceApplied Builtin.Slice.sliceFields;refine cq (cq (wpAny_field H a (x:=l) rfl (cq (wpAny_field H a (x:=v) rfl (cq (wpAny_field H a (x:=.none) rfl (cu ?_)))))));refine cq (slicePart_none ?_);show wpAny _ _ (if ((1:Int)==0)=true then _ else _) _ _ s;rw[aj (by decide)]
 refine cq (Kr p (cq (Kr pu (cq (cu ?_)))));show wpAny _ _ (match Builtin.Slice.sliceAdjust lo hi 1 (n:Int) with|(lo,hi)=>pure (lo,(1:Int),Builtin.Slice.slicePlaces lo hi 1)) _ _ s
 rw[FK lo hi n];show wpAny _ _ (pure (((qM n 0 lo:Nat):Int),(1:Int),Builtin.Slice.slicePlaces ((qM n 0 lo:Nat):Int) ((qM n n hi:Nat):Int) 1)) _ _ s;rw[Ee];exact cu h
def Cp (xs:Array Value)(i k:Nat):((List.range k).filterMap λ(m:Nat)=>xs[((i:Int)+(m:Int) * 1).toNat]?).toArray=((xs.toList.drop i).take k).toArray:=by
 have e:(λ(m:Nat)=>xs[((i:Int)+(m:Int) * 1).toNat]?)=λm=>xs[i+m]?:=by
  funext m
  have:((i:Int)+(m:Int) * 1).toNat=i+m:=by omega
  rw[this]
 rw[e]
 have:=pick_run xs i k
 rw[List.filterMap_map]at this;have E:((λx=>xs[x]?) ∘ λx=>i+x)=λm=>xs[i+m]?:=rfl;rw[E]at this;rw[this]
def ID {t S:Addr}{l v:Value}{lo hi:cb}(a:IsTup s.heap t items)(e:s.heap.IsSliceOf S l v .none)(p:IsPart l lo)(pu:IsPart v hi)
  (hw:¬(qM items.size 0 lo=0/\qM items.size items.size hi=items.size))
  (h:Q (.ref s.heap.objs.size) { s with heap:=s.heap.push { cls:=.type "tuple",data:=.seq ((items.toList.drop (qM items.size 0 lo)).take (qM items.size items.size hi-qM items.size 0 lo)).toArray } })
  (z:items.size<=sizeLine):wpAny (model prog w) A (getItem (.ref t) (.ref S)) Q E s:=by
 have H:sizeOk (.seq ((items.toList.drop (qM items.size 0 lo)).take (qM items.size items.size hi-qM items.size 0 lo)).toArray):=by
  show((items.toList.drop (qM items.size 0 lo)).take (qM items.size items.size hi-qM items.size 0 lo)).toArray.size<=sizeLine;rw[aB,bc,bL,aR];omega
 have j:qM items.size items.size hi<=items.size:=dX _ _ (ar _) hi;obtain⟨os,b,c,f⟩:=id e;have d:s.TypeIs (.ref S) "slice":=⟨os,b,c⟩;unfold getItem
 try with_reducible refine wpAny_holding ?_
 first|refine cq (cu ?_)|skip
 refine cq (wpAny_sequenceKey a.typeIs (by decide) ?_)
 refine cq (wpAny_callSpecial?_slot (name:=Str.ofString "__getitem__") a.typeIs PyProof.Rows.slot_tuple_getitem
  (wpAny_call_entry PyProof.Rows.slot_tuple_getitem a.typeIs entry_tuple_getitem ?_ (args_tuple_getitem _ _)))
 show wpAny _ _ (Builtin.Tuple.tupleItemsOf (.ref t) >>= _) _ _ s;refine cq (tupleItemsOf_ a ?_);refine cq (wpAny_typeOf d ?_);rw[ah (by decide)]
 refine cq (S8 e p pu ?_);have o:¬((((qM items.size 0 lo:Nat):Int)==0&&(1:Int)==1&&(qM items.size items.size hi-qM items.size 0 lo)==items.size)=true):=by
  intro q;rw[ak,ak]at q;have i:((qM items.size 0 lo:Nat):Int)=0:=eq_of_beq q.1.1;have g:qM items.size items.size hi-qM items.size 0 lo=items.size:=eq_of_beq q.2;exact hw ⟨by omega,by omega⟩
 show wpAny _ _ (if (((qM items.size 0 lo:Nat):Int)==0&&(1:Int)==1&&(qM items.size items.size hi-qM items.size 0 lo)==items.size)=true then _ else _) _ _ s;rw[aj o,Cp]
 first
  |exact cq (m:=Builtin.Tuple.tupleExact _) (wpAny_newObj_type (cu ⟨_,rfl,cu h⟩) H)
  |exact cq (m:=Builtin.Tuple.tupleExact _) (wpAny_newObj_type (cq (cu (cu ⟨_,rfl,cu h⟩))) H)
  |exact cq (cq (m:=Builtin.Tuple.tupleExact _) (wpAny_newObj_type (cu (cu ⟨_,rfl,cu h⟩)) H))
  |exact cq (cq (m:=Builtin.Tuple.tupleExact _) (wpAny_newObj_type (cu ⟨_,rfl,cu h⟩) H))
end
end HT
namespace L2
open PySem PySem.Spec PyProof.Rows
abbrev TO:=St->Hp->(Option Int->Hp->Prop)->Prop
def PO (X:Cx)(e:Option Expr)(t:TO):Prop:=
 ∀(pins:bX)(s:Shared)(σ:St)(H:Hp)(Q:Option Int->Hp->Prop),Inv X pins σ H s->t σ H Q->
  wpAny (model X.prog X.w) X.A (evalPart e X.env) (λu s'=>∃o h,Inv X pins σ h s'/\IsPart u o/\Q o h) X.xe s
noncomputable def Bq:TO:=λ_ H Q=>Q none H
noncomputable def dY (t:TE):TO:=λσ H Q=>t σ H λx H1=>∃i,x=.int i/\Q (some i) H1
section
variable {te:TE}{lo hi:Option Expr}{tl th:TO}{p2:Pos}
def BZ:PO X none Bq:=by
 intro pins s σ H Q I h;rw[evalPart_none];exact cu ⟨none,H,I,.none,h⟩
def Aa (h:PE X e te):PO X (some e) (dY te):=by
 intro pins s σ H Q I hw;rw[evalPart_some];refine qc (h pins s σ H _ I hw) λu s1 ⟨x,H1,b,r,a⟩=>?_;obtain⟨i,rfl,q⟩:=a;obtain⟨t,rfl⟩:=r;exact⟨some i,H1,b,.int i t,q⟩
def Sb (X:Cx)(r:V->Option Int->Option Int->Hp->VK->Prop):Prop:=
 ∀(pins:bX)(s:Shared)(σ:St)(H:Hp)(x:V)(v l u:Value)(lo hi:cb)(S:Addr)(Q:VK),Inv X pins σ H s->RelV x v->s.heap.IsSliceOf S l u .none->IsPart l lo->IsPart u hi->r x lo hi H Q->
  ∃T id,typeLookup (.type T) "__getitem__"=pure (some (.builtin id))/\s.TypeIs v T/\wpAny (model X.prog X.w) X.A (getItem v (.ref S)) (EP X pins σ Q) X.xe s
noncomputable def dZ (r:V->Option Int->Option Int->Hp->VK->Prop)(T:TE)(t th:TO):TE:=λσ H Q=>T σ H λx H1=>t σ H1 λl a=>th σ a λu h=>r x l u h Q
def CV {r:V->Option Int->Option Int->Hp->VK->Prop}(n:Sb X r)(he:PE X e te)(o:PO X lo tl)(k:PO X hi th):PE X (.Subscript e (.Slice lo hi none p2) pos) (dZ r te tl th):=by
 intro pins s σ H Q I h;refine Subscript_ (qc (he pins s σ H _ I h) λv s1 ⟨x,H1,E,f,j⟩=>?_);refine wpAny_Slice (qc (o pins s1 σ H1 _ E j) λc s2 ⟨l,J,D,p,i⟩=>qc (k pins s2 σ J _ D i) λa s3 ⟨u,d,C,pu,g⟩=>?_);rw[evalPart_none];refine cu ?_;have B:Inv X pins σ d { s3 with heap:=s3.heap.push { cls:=.type "slice",data:=.fields #[c,a,.none] } }:=C.kept (t':=s3.toks) λb ob q=>af _ q
 obtain⟨T,id,z,t,y⟩:=n pins { s3 with heap:=s3.heap.push { cls:=.type "slice",data:=.fields #[c,a,.none] } } σ d x v c a l u s3.heap.objs.size Q B f (Heap.IsSliceOf.new ..) p pu g
 show wpAny (model X.prog X.w) X.A (subscriptTail e (.Slice lo hi none p2) v (.ref s3.heap.objs.size)) (EP X pins σ Q) X.xe { s3 with heap:=s3.heap.push { cls:=.type "slice",data:=.fields #[c,a,.none] } }
 exact tail_any (ops:=[.ref s3.heap.objs.size,v]) t z y (by with_unfolding_all rfl)
noncomputable def J2 (xs:List V)(lo hi:cb):List V:=(xs.drop (HT.qM xs.length 0 lo)).take (HT.qM xs.length xs.length hi-HT.qM xs.length 0 lo)
def Fp (xs:List V)(lo hi:cb):(J2 xs lo hi).length<=xs.length:=by
 unfold J2;rw[bc,bL];omega
def d0 (K:Frag):V->Option Int->Option Int->Hp->VK->Prop:=λx lo hi H Q=>∃a xs,x=.ref a/\qQ K H a xs/\
 ¬(HT.qM xs.length 0 lo=0/\HT.qM xs.length xs.length hi=xs.length)/\∀p,H p=none->Q (.ref p) (upd H p (.tup (J2 xs lo hi)))
def d1:Sb X (d0 X.K):=by
 intro pins s σ H x v l u lo hi S Q I c e p pu h;obtain⟨a,xs,rfl,d,hw,q⟩:=h;cases c;obtain⟨i,r,t,z⟩:=I.tuple d;have hlen:i.toArray.size=xs.length:=by rw[aB];exact r.length.symm
 refine⟨"tuple",_,PyProof.Rows.slot_tuple_getitem.lookup,t.typeIs,?_⟩;refine HT.ID t e p pu (by rw[hlen];exact hw) ?_ (by rw[hlen];exact z)
 rw[hlen];refine⟨.ref s.heap.objs.size,_,I.laid (t':=s.toks) (o:=.tup (J2 xs lo hi)) (λb ob q=>af _ q) (ar _) ?_,rfl,q _ (I.hok.fresh (ar _))⟩;exact⟨bb (Fp xs lo hi) z,_,(r.drop (HT.qM xs.length 0 lo)).take (HT.qM xs.length xs.length hi-HT.qM xs.length 0 lo),Qs.new _ _⟩
def M7 (K:Frag):R2:=λx y H Q=>∃a b xs ys,x=.ref a/\y=.ref b/\qQ K H a xs/\qQ K H b ys/\xs≠[]/\xs.length+ys.length<=sizeLine/\
 (ys=[]->Q (.ref a) H)/\(ys≠[]->∀p,H p=none->Q (.ref p) (upd H p (.tup (xs++ys))))
def Vals.nil_iff (r:Vals xs us):us=[]↔xs=[]:=by
 cases r with
 |nil=>simp|cons _ _=>simp
def Bf:ji X (binaryOp .Add) (M7 X.K):=by
 intro pins s σ H x y v u Q I f e h;obtain⟨a,b,xs,ys,rfl,rfl,t,n,l,d,j,g⟩:=h;cases f;cases e;obtain⟨k,c,P,_⟩:=I.tuple t;obtain⟨i,r,p,_⟩:=I.tuple n;refine HT.Ar P p (λz=>l (c.nil_iff.mp z)) (λz=>⟨.ref a,H,I,rfl,j (r.nil_iff.mp z)⟩) (λz=>?_) (by rw[<- c.length,<- r.length];exact d)
 refine⟨.ref s.heap.objs.size,_,I.laid (t':=s.toks) (o:=.tup (xs++ys)) (λb ob q=>af _ q) (ar _) ?_,rfl,g (λw=>z (r.nil_iff.mpr w)) _ (I.hok.fresh (ar _))⟩;exact⟨by rw[aw];exact d,_,c.append r,Qs.new _ _⟩
end
noncomputable def gQ (n:Nat)(i:Int):Option Nat:=if 0<=i then(if i<n then some i.toNat else none) else if -(n:Int)<=i then some (i+n).toNat else none
def wg (xs:List α)(i:Int):Option α:=(gQ xs.length i).bind λj=>xs[j]?
def Nc {i:Int}(h:gQ n i=some j):seqIndex? i n=some j/\j<n/\-(n:Int)<=i/\i<n:=by
 unfold gQ at h
 by_cases h0:0<=i
 ·rw[ah h0]at h
  by_cases h1:i<n
  ·rw[ah h1]at h
   have e:i.toNat=j:=aC h;exact⟨by rw[seqIndex_of h0 h1,e],by omega,by omega,h1⟩
  ·rw[aj h1]at h;cases h
 ·rw[aj h0]at h
  by_cases h1:-(n:Int)<=i
  ·rw[ah h1]at h
   have e:(i+n).toNat=j:=aC h;exact⟨by rw[seqIndex_neg (by omega) h1,e],by omega,h1,by omega⟩
  ·rw[aj h1]at h;cases h
def UA {xs:List α}{i:Int}{v:α}(h:wg xs i=some v):∃j,seqIndex? i xs.length=some j/\xs[j]? =some v/\j<xs.length/\-(xs.length:Int)<=i/\i<xs.length:=by
 unfold wg at h;cases e:gQ xs.length i with
 |none=>rw[e]at h;cases h|some j=>
  rw[e]at h;obtain⟨c,b,a,H⟩:=Nc e;exact⟨j,c,h,b,a,H⟩
def GA {xs:List α}{v:α}(h:xs[j]? =some v):wg xs (j:Int)=some v:=by
 have H:j<xs.length:=(cx.mp h).1;have e:gQ xs.length (j:Int)=some j:=by
  unfold gQ;rw[ah (by omega),ah (by omega)];simp
 unfold wg;rw[e];exact h
def Nr (b:Expr):Prop:=∀o i,subscripted b false o i=operate [o,i] (getItem o i)
def QQ (X:Cx)(r:R2):Prop:=
 ∀(value slice:Expr)(pins:bX)(s:Shared)(σ:St)(H:Hp)(x y:V)(v u:Value)(Q:VK),Inv X pins σ H s->RelV x v->RelV y u->r x y H Q->
  subscripted slice false v u=operate [v,u] (getItem v u)->wpAny (model X.prog X.w) X.A (subscriptTail value slice v u) (EP X pins σ Q) X.xe s
def LO (X:Cx)(id:String)(r:V->List V->Hp->VK->Prop):Prop:=
 ∀(pins:bX)(s:Shared)(σ:St)(H:Hp)(x:V)(xs:List V)(v:Value)(us:bV)(Q:VK),Inv X pins σ H s->RelV x v->Vals xs us->r x xs H Q->
  wpAny (model X.prog X.w) X.A (call (.builtin id) (v::us)) (EP X pins σ Q) X.xe s
section
variable {a b:Expr}{ta tb:TE}
def QQ.or {r c:R2}(h:QQ X r)(h':QQ X c):QQ X (λx y H Q=>r x y H Q∨c x y H Q):=by
 intro value slice pins s σ H x y v u Q I b a q d;rcases q with q|q
 ·exact h value slice pins s σ H x y v u Q I b a q d
 ·exact h' value slice pins s σ H x y v u Q I b a q d
def d3 {r:R2}(f:QQ X r)(i:PE X a ta)(g:PE X b tb)(e:Nr b):PE X (.Subscript a b pos) (Wv r ta tb):=by
 intro pins s σ H Q I h;exact Subscript_ (TB i g I h λv u s2 x y k j d c q=>f a b pins s2 σ k x y v u Q j d c q (e _ _))
def LD (K:Frag):R2:=λx y H Q=>∃p xs i v,x=.ref p/\y=.int i/\jj K H p xs/\wg xs i=some v/\Q v H
def Lk (K:Frag):R2:=λx y H Q=>∃p xs i v,x=.ref p/\y=.int i/\qQ K H p xs/\wg xs i=some v/\Q v H
def LB:R2:=λx y H Q=>∃z i c,x=.str z/\y=.int i/\z.length<=sizeLine/\wg z.cps.toList i=some c/\Q (.str ⟨#[c]⟩) H
def AH:QQ X (LD X.K):=by
 intro value slice pins s σ H x y v u Q I g f h e;obtain⟨p,xs,i,z,rfl,rfl,k,he,q⟩:=h;cases g;obtain⟨t,rfl⟩:=f;obtain⟨c,r,P,B⟩:=I.list k;obtain⟨j,a,A,C,o,n⟩:=UA he;obtain⟨w,E,b⟩:=r.get A;have l:=r.length;have hn:=JQ;have fin:EP X pins σ Q w s:=⟨z,H,I,b,q⟩
 by_cases h0:0<=i
 ·have d:i.toNat=j:=by
   rw[seqIndex_of h0 n]at a;exact aC a
  exact item_listR P.isList h0 (by omega) (by rw[d];simpa using E) fin e
 ·have d:(i+(c.toArray.size:Int)).toNat=j:=by
   rw[seqIndex_neg (by omega) o]at a
   rw[aB,<- l];exact aC a
  exact subscriptTail_builtinR (x:=w) P.isList.typeIs slot_list_getitem.lookup
   (wpAny_getItem_list_neg (Q:=λr s'=>r=w/\EP X pins σ Q r s') P.isList (by omega) (by rw[aB]<;>omega) (by omega) (by rw[d];simpa using E) ⟨rfl,fin⟩) e
def d4:QQ X (Lk X.K):=by
 intro value slice pins s σ H x y v u Q I c b h e;obtain⟨p,xs,i,z,rfl,rfl,f,he,q⟩:=h;cases c;obtain⟨t,rfl⟩:=b;obtain⟨d,r,P,n⟩:=I.tuple f;obtain⟨j,k,g,B,A,o⟩:=UA he;obtain⟨w,E,a⟩:=r.get g;have l:=r.length;have hn:=JQ;have fin:EP X pins σ Q w s:=⟨z,H,I,a,q⟩;exact subscriptTail_builtinR (x:=w) P.typeIs slot_tuple_getitem.lookup
  (getItem_tuple (j:=j) (Q:=λr s'=>r=w/\EP X pins σ Q r s') P (by omega) (by omega) (by rw[aB,<- l];exact k) (by simpa using E) ⟨rfl,fin⟩) e
def d6:QQ X LB:=by
 intro value slice pins s σ H x y v u Q I b r h d;obtain⟨z,i,c,rfl,rfl,n,he,q⟩:=h;obtain⟨t,rfl⟩:=b;obtain⟨t',rfl⟩:=r;obtain⟨j,a,g,o,f,e⟩:=UA he;have l:z.cps.toList.length=z.length:=by simp[Str.length]
 rw[l]at a f e;have hn:=JQ;exact tail_any (typeIs_str s z t) slot_str_getitem.lookup (getItem_str (c:=c) (by
  have k:decide (i < -(2 ^ 63:Int))=false:=aJ (by omega)
  have E:decide (i ≥ 2 ^ 63)=false:=aJ (by omega)
  rw[k,E,Bool.or_false]) (by rw[a];simpa using g) ⟨.str ⟨#[c]⟩,H,I.tok _,⟨_,rfl⟩,q⟩) d
def LW (K:Frag):R2:=λx y H Q=>LD K x y H Q∨Lk K x y H Q∨LB x y H Q
def d7:QQ X (LW X.K):=AH.or (d4.or d6)
def F7 (i:bV)(n j:Nat)(u:Value):Obj.mapSeq (·.setIfInBounds j u) { cls:=.type "list",data:=.seq i.toArray n }={ cls:=.type "list",data:=.seq (i.set j u).toArray n }:=by
 simp[Obj.mapSeq]
theorem Inv.lst {pins:bX}{σ:St}{H:Hp}{s:Shared}{p:Addr}{xs:List V}(I:Inv X pins σ H s)(h:H p=some (.lst xs)):
  ∃(i:bV) (n:Nat),Vals xs i/\s.heap.get? p=some { cls:=.type "list",data:=.seq i.toArray n }/\xs.length<=sizeLine:=by
 obtain⟨z,i,n,r,e⟩:=I.hok p _ h;exact⟨i,n,r,e,z⟩
def Inv.lstUpd {p:Addr}{its':bV}{N:Nat}{f:Obj->Obj}(I:Inv X pins σ H s)(h:H p=some (.lst xs))
  (o:s.heap.get? p=some { cls:=.type "list",data:=.seq its.toArray n })(hf:f { cls:=.type "list",data:=.seq its.toArray n }={ cls:=.type "list",data:=.seq its'.toArray N })(r:Vals ys its')(z:ys.length<=sizeLine)(t:Nat):
  Inv X pins σ (upd H p (.lst ys)) { s with heap:=s.heap.update p f,toks:=t }:=by
 have e:(s.heap.update p f).get? p=some { cls:=.type "list",data:=.seq its'.toArray N }:=by
  rw[ba f o (by rw[hf]<;>rfl),hf]
 refine I.write (x:=p) (e:=p) (by rw[h];trivial) (.inl rfl) (λb u a q=>(aQ _ _ (Ne.symm a)).trans q) ⟨_,e⟩ ?_
 exact⟨z,its',N,r,e⟩
def M6:V->V->V->Hp->(Hp->Prop)->Prop:=λo i v H Q=>∃p xs k j,o=.ref p/\i=.int k/\H p=some (.lst xs)/\gQ xs.length k=some j/\Q (upd H p (.lst (xs.set j v)))
def set_list:Xl X M6:=by
 intro pins s σ H o i v B C u Q I ro y x h;obtain⟨p,xs,k,j,rfl,rfl,e,A,q⟩:=h;cases ro;obtain⟨t,rfl⟩:=y;obtain⟨a,n,r,c,z⟩:=I.lst e;obtain⟨b,D,g,f⟩:=Nc A;have l:=r.length;have hn:=JQ;have w:Inv X pins σ (upd H p (.lst (xs.set j v))) { s with heap:=s.heap.update p (Obj.mapSeq (·.setIfInBounds j u)) }:=
  I.lstUpd e c (F7 a n j u) (r.set x j) (by rw[length_set];exact z) s.toks
 by_cases h0:0<=k
 ·have d:k.toNat=j:=by
   rw[seqIndex_of h0 f]at b;exact aC b
  exact PySem.W.ki_setAt c h0 (by omega) (by rw[aB,<- l];exact f) (by rw[d];exact⟨_,w,q⟩)
 ·have d:(k+(a.toArray.size:Int)).toNat=j:=by
   rw[seqIndex_neg (by omega) g]at b
   rw[aB,<- l];exact aC b
  exact PySem.W.ki_setBack c (by omega) (by rw[aB,<- l];exact g) (by omega) (by rw[d];exact⟨_,w,q⟩)
noncomputable def ZW:V->Bool
 |.non=>true|.bl _=>true|.int _=>true|.str _=>true|_=>false
noncomputable def QO:V->V->Bool
 |.non,.non=>true|.bl a,.bl b=>a==b|.bl a,.int b=>(if a then 1 else 0)==b|.int a,.bl b=>a==(if b then 1 else 0)|.int a,.int b=>a==b|.str a,.str b=>a==b|_,_=>false
def d8 {A:Around}{y x:V}{v:Value}(c:RelV y u)(r:RelV x v)(d:ZW y=true)(f:ZW x=true):SeqAt.EqAt A s u v (QO y x):=by
 cases y with
 |non=>
  cases c;cases x with
  |non=>cases r;exact SeqAt.EqAt.same _|bl b=>cases r;exact SeqAt.EqAt.none_bool b|int b=>obtain⟨t,rfl⟩:=r;exact SeqAt.EqAt.none_int b t|str b=>obtain⟨t,rfl⟩:=r;exact SeqAt.EqAt.none_str b t|_=>exact absurd (show false=true from f) aA
 |bl a=>
  cases c;cases x with
  |non=>cases r;exact SeqAt.EqAt.bool_none a|bl b=>cases r;exact SeqAt.EqAt.bool_bool a b|int b=>obtain⟨t,rfl⟩:=r;exact SeqAt.EqAt.bool_int a b t|str b=>obtain⟨t,rfl⟩:=r;exact SeqAt.EqAt.bool_str a b t|_=>exact absurd (show false=true from f) aA
 |int a=>
  obtain⟨t',rfl⟩:=c;cases x with
  |non=>cases r;exact SeqAt.EqAt.int_none a t'|bl b=>cases r;exact SeqAt.EqAt.int_bool a t' b|int b=>obtain⟨t,rfl⟩:=r;exact SeqAt.EqAt.int_int a t' b t|str b=>obtain⟨t,rfl⟩:=r;exact SeqAt.EqAt.int_str a t' b t|_=>exact absurd (show false=true from f) aA
 |str a=>
  obtain⟨t',rfl⟩:=c;cases x with
  |non=>cases r;exact SeqAt.EqAt.str_none a t'|bl b=>cases r;exact SeqAt.EqAt.str_bool a t' b|int b=>obtain⟨t,rfl⟩:=r;exact SeqAt.EqAt.str_int a t' b t|str b=>obtain⟨t,rfl⟩:=r;exact SeqAt.EqAt.str_str a t' b t|_=>exact absurd (show false=true from f) aA
 |_=>exact absurd (show false=true from d) aA
def wR (x:V)(u:Value):Bool:=match u with
 |.none=>QO .non x|.bool b=>QO (.bl b) x|.int i _=>QO (.int i) x|.str z _=>QO (.str z) x|_=>false
def N9 {x y:V}(r:RelV y u)(f:ZW y=true):wR x u=QO y x:=by
 cases y with
 |non=>cases r;rfl|bl b=>cases r;rfl|int i=>obtain⟨t,rfl⟩:=r;rfl|str z=>obtain⟨t,rfl⟩:=r;rfl|_=>exact absurd (show false=true from f) aA
theorem KY {x:V}:∀{xs:List V}{us:bV},Vals xs us->xs.all ZW=true->us.any (wR x)=xs.any λy=>QO y x
 |_,_,.nil,_=>rfl|y::xs,u::us,.cons r t,f=>by
  rw[List.all_cons,ak]at f;rw[any_cons,any_cons,N9 r f.1,KY t f.2]
theorem KJ {A:Around}{x:V}{v:Value}(a:RelV x v)(b:ZW x=true):∀{xs:List V}{us:bV},Vals xs us->xs.all ZW=true->∀u∈us,SeqAt.EqAt A s u v (wR x u)
 |_,_,.nil,_=>λu h=>by cases h|y::xs,u::us,.cons r t,f=>λU h=>by
  rw[List.all_cons,ak]at f;rcases cw.mp h with rfl|h
  ·rw[N9 r f.1];exact d8 r a f.1 b
  ·exact KJ a b t f.2 U h
def Xy (x:V)(xs:List V):Bool:=xs.any λy=>QO y x
def Sh (K:Frag)(neg:Bool):R2:=λx y H Q=>∃p xs,y=.ref p/\(jj K H p xs∨qQ K H p xs)/\ZW x=true/\xs.all ZW=true/\Q (.bl (if neg then !Xy x xs else Xy x xs)) H
def E9:ji X (compareOp .In) (Sh X.K false):=by
 intro pins s σ H x y v u Q I b c h;obtain⟨p,xs,rfl,a,f,fs,q⟩:=h;cases c;rcases a with a|a
 ·obtain⟨i,r,P,z⟩:=I.list a
  refine SeqAt.in_listAt (wR x) P.isList (λw hw=>KJ b f r fs w (by simpa using hw)) ⟨.bl _,H,I,rfl,?_⟩
  rw[show i.toArray.any (wR x)=i.any (wR x) by simp,KY r fs]
  exact q
 ·obtain⟨i,r,P,z⟩:=I.tuple a
  refine SeqAt.in_tupleAt (wR x) P (λw hw=>KJ b f r fs w (by simpa using hw)) ⟨.bl _,H,I,rfl,?_⟩
  rw[show i.toArray.any (wR x)=i.any (wR x) by simp,KY r fs]
  exact q
def HW:ji X (compareOp .NotIn) (Sh X.K true):=by
 intro pins s σ H x y v u Q I b c h;obtain⟨p,xs,rfl,a,f,fs,q⟩:=h;cases c;rcases a with a|a
 ·obtain⟨i,r,P,z⟩:=I.list a
  refine SeqAt.notIn_listAt (wR x) P.isList (λw hw=>KJ b f r fs w (by simpa using hw)) ⟨.bl _,H,I,rfl,?_⟩
  rw[show i.toArray.any (wR x)=i.any (wR x) by simp,KY r fs]
  exact q
 ·obtain⟨i,r,P,z⟩:=I.tuple a
  refine SeqAt.notIn_tupleAt (wR x) P (λw hw=>KJ b f r fs w (by simpa using hw)) ⟨.bl _,H,I,rfl,?_⟩
  rw[show i.toArray.any (wR x)=i.any (wR x) by simp,KY r fs]
  exact q
def HV:yv X (.builtin "len") (λxs H Q=>∃p ys,xs=[.ref p]/\(jj X.K H p ys∨qQ X.K H p ys)/\Q (.int ys.length) H):=by
 intro pins s σ H xs us Q I r h;obtain⟨p,ys,rfl,a,q⟩:=h;obtain⟨u,rfl,x⟩:=vals1 r;cases x;have hn:=JQ;rcases a with a|a
 ·obtain⟨i,b,P,z⟩:=I.list a
  have hlen:=b.length;exact Calls.call_len_list P.isList (by simp only[aB]<;>omega) ⟨.int ys.length,H,I.tok _,⟨s.toks+1,by rw[aB,hlen]⟩,q⟩
 ·obtain⟨i,b,P,z⟩:=I.tuple a
  have hlen:=b.length;exact len_tuple P (by simp only[aB]<;>omega) ⟨.int ys.length,H,I.tok _,⟨s.toks+1,by rw[aB,hlen]⟩,q⟩
def H9:yv X (.type "list") (λxs H Q=>∃p ys,xs=[.ref p]/\(jj X.K H p ys∨qQ X.K H p ys)/\∀l,H l=none->Q (.ref l) (upd H l (.lst ys))):=by
 intro pins s σ H xs us Q I r h;obtain⟨p,ys,rfl,d,q⟩:=h;obtain⟨u,rfl,x⟩:=vals1 r;cases x;have fin:∀(its:bV),Vals ys its->ys.length<=sizeLine->∀(h':Heap)(c:Nat),(∀b o',s.heap.get? b=some o'->h'.get? b=some o')->
   h'.get? s.heap.objs.size=some { cls:=.type "list",dict:=none,data:=.seq its.toArray c,slots:=#[] }->EP X pins σ Q (.ref s.heap.objs.size) { s with heap:=h' }:=λits a z h' c kp e=>
  ⟨.ref s.heap.objs.size,_,I.laid (t':=s.toks) kp (ar _) (show jF X.prog X.w _ h' _ (.lst ys) from ⟨z,its,c,a,e⟩),rfl,q _ (I.hok.fresh (ar _))⟩
 rcases d with d|d
 ·obtain⟨its,a,P,z⟩:=I.list d
  have hlen:=a.length;obtain⟨o,f,g,n,hd⟩:=P.isList;exact call_list_seq p (.inl rfl) f g hd (λh' c kp e=>fin its a z h' c kp e) (by simp only[aB]<;>omega)
 ·obtain⟨its,a,P,z⟩:=I.tuple d
  have hlen:=a.length;obtain⟨o,f,g,n,hd⟩:=P;exact call_list_seq p (.inr rfl) f g hd (λh' c kp e=>fin its a z h' c kp e) (by simp only[aB]<;>omega)
def Hr:yv X (.type "tuple") (λxs H Q=>∃p ys,xs=[.ref p]/\((jj X.K H p ys/\∀l,H l=none->Q (.ref l) (upd H l (.tup ys)))∨(qQ X.K H p ys/\Q (.ref p) H))):=by
 intro pins s σ H xs us Q I r h;obtain⟨p,ys,rfl,h⟩:=h;obtain⟨u,rfl,x⟩:=vals1 r;cases x;rcases h with ⟨c,q⟩|⟨c,q⟩
 ·obtain⟨i,a,P,z⟩:=I.list c
  have hlen:=a.length;refine call_tuple_list P.isList (λh' kp=>?_) (by simp only[aB]<;>omega)
  have d:Inv X pins σ H { s with heap:=h' }:=I.kept (t':=s.toks) kp
  have f:Inv X pins σ (upd H h'.objs.size (.tup ys)) { s with heap:=h'.push { cls:=.type "tuple",data:=.seq i.toArray } }:=
   d.laid (t':=s.toks) (λb o e=>af _ e) (ar _) (show jF X.prog X.w _ _ _ (.tup ys) from ⟨z,i,a,Qs.new _ _⟩)
  exact⟨.ref h'.objs.size,_,f,rfl,q _ (d.hok.fresh (ar _))⟩
 ·obtain⟨i,a,P,z⟩:=I.tuple c
  exact call_tuple_same P ⟨.ref p,H,I,rfl,q⟩
def T9 (K:Frag)(T:String)(x:V)(H:Hp):Prop:=match x with
 |.str _=>T = "str"
 |.int _=>T = "int"
 |.ref p=>(T = "list" /\ ∃xs,jj K H p xs)∨(T = "tuple" /\ ∃o,K.lookup p=some o/\o.cls=.type "tuple" /\ o.dict=none)∨
   (T = "dict" /\ ((∃k,H p=some (.dK k))∨∃k,H p=some (.dT k)))∨(T = "set" /\ ∃S n,H p=some (.set S n))
 |_=>False
def d9 {T:String}{x:V}{v:Value}(I:Inv X pins σ H s)(r:RelV x v)(ty:T9 X.K T x H):
  s.TypeIs v T/\∀a,v=.ref a->∃ob,s.heap.get? a=some ob/\ob.dict=none:=by
 cases x with
 |str z=>
  obtain⟨t,rfl⟩:=r;cases (show T = "str" from ty)
  exact⟨typeIs_str s z t,λ_ e=>nomatch e⟩
 |int i=>
  obtain⟨t,rfl⟩:=r;cases (show T = "int" from ty)
  exact⟨typeIs_int s i t,λ_ e=>nomatch e⟩
 |ref p=>
  cases r;rcases ty with ⟨rfl,xs,q⟩|⟨rfl,o,h,d,hd⟩|⟨rfl,h⟩|⟨rfl,S,n,h⟩
  ·obtain⟨b,_,P,_⟩:=I.list q
   refine⟨P.isList.typeIs,λa e=>?_⟩;cases e;obtain⟨o,n,e,c,hd,_⟩:=P;exact⟨o,e,hd⟩
  ·refine⟨⟨o,I.kIn p o h,d⟩,λa e=>?_⟩
   cases e;exact⟨o,I.kIn _ o h,hd⟩
  ·have z:∃o,s.heap.get? p=some o/\o.ExactDict:=by
    rcases h with ⟨k,h⟩|⟨k,h⟩
    ·obtain⟨_,_,_,_,o,_,_,e,ex,_⟩:=I.hok p _ h
     exact⟨o,e,ex⟩
    ·obtain⟨_,_,_,_,o,_,_,e,ex,_⟩:=I.hok p _ h
     exact⟨o,e,ex⟩
   obtain⟨o,e,ex⟩:=z;refine⟨⟨o,e,ex.1⟩,λa E=>?_⟩;cases E;exact⟨o,e,ex.2.1⟩
  ·obtain⟨o,_,_,_,e,ex,_⟩:=I.hok p _ h
   refine⟨⟨o,e,ex.1⟩,λa E=>?_⟩;cases E;exact⟨o,e,ex.2.1⟩
 |_=>exact False.elim ty
noncomputable def eb (K:Frag)(T:String)(r:V->List V->Hp->VK->Prop)(to:TE)(t:TA):TE:=λσ H Q=>to σ H λx H1=>T9 K T x H1/\t σ H1 λxs h=>r x xs h Q
variable {o:Expr}{es:b9}{to:TE}{t:TA}{name:Str}{apos cpos:Pos}{T id:String}{r:V->List V->Hp->VK->Prop}
def ed (p:PlainAttrs T)(slot:Slot T name id)(y:typeOf (.builtin id)=pure (.type "method_descriptor"))(hm:LO X id r)(j:PE X o to)(k:PA X (e::es) t)
  (b:attributeBase o name X.env (eval o X.env)=eval o X.env:=by rfl)
  (w:((backTo cpos (starEach (e::es) X.env)).all (λx=>!x.1)&&(backToKw cpos (keywordEach [] X.env)).all (λx=>x.1.isSome)
   && decide ((e::es).length+([]:ck).length+(if ([]:ck).isEmpty then 0 else 1)<30))=true:=by rfl)
  (a:(apos.endLine==cpos.line)=true:=by rfl)(g:starEach (e::es) X.env=(false,eval e X.env)::starEach es X.env:=by rfl)(n:(backTo cpos (starEach es X.env)).any (·.1)=false:=by rfl):
  PE X (.Call (.Attribute o name apos) (e::es) [] cpos) (eb X.K T r to t):=by
 intro pins s σ H Q I h;refine wpAny_Call_method_late b w a rfl (qc (j pins s σ H _ I h) λv s1 ⟨x,H1,i,c,ty,f⟩=>?_);obtain⟨u,l⟩:=d9 i c ty;refine⟨T,id,p,slot,y,u,l,?_⟩;have A:=k cpos pins s1 σ H1 _ i f;rw[g]at A ⊢;refine Calls.callWith_builtin (by show(false || (backTo cpos (starEach es X.env)).any (·.1))=false;rw[n]<;>rfl) (Calls.evalArgs_plain ?_)
 exact qc A λus s2 ⟨vs,B,z,d,q⟩=>hm pins s2 σ B x vs v us Q z c d q
end
def T8 (X:Cx)(id:String)(r:V->List V->Hp->VK->Prop):Prop:=
 ∀(pins:bX)(s:Shared)(σ:St)(H:Hp)(x:V)(xs:List V)(v:Value)(us:bV)(Q:VK),Inv X pins σ H s->RelV x v->Vals xs us->r x xs H Q->
  wpAny (model X.prog X.w) X.A (call (.builtin id) (v::us)) (EP X pins σ Q) X.xe s
def Vals.one {x:V}(h:Vals [x] us):∃u,us=[u]/\RelV x u:=by
 cases h with
 |cons r t=>cases t;exact⟨_,rfl,r⟩
def Vals.two {x y:V}(h:Vals [x,y] us):∃u v,us=[u,v]/\RelV x u/\RelV y v:=by
 cases h with
 |cons r t=>exact(Vals.one t).elim λv e=>⟨_,v,by rw[e.1],r,e.2⟩
theorem Vals.zero:∀{us:bV},Vals [] us->us=[]
 |_,.nil=>rfl
theorem Vals.eraseIdx:∀{xs:List V}{us:bV}(i:Nat),Vals xs us->Vals (xs.eraseIdx i) (us.eraseIdx i)
 |_,_,_,.nil=>.nil|_,_,0,.cons _ t=>t|_,_,i+1,.cons r t=>.cons r (Vals.eraseIdx i t)
theorem Vals.rep (h:Vals xs us):∀k:Nat,Vals (List.replicate k xs).flatten (List.replicate k us).flatten
 |0=>.nil|k+1=>by
  rw[a7,a7,aY,aY];exact Vals.append h (Vals.rep h k)
theorem P0:∀(l:List α)(i:Nat),(l.eraseIdx i).length<=l.length
 |[],_=>ar _|_::_,0=>le_succ _|_::r,i+1=>Nat.succ_le_succ (P0 r i)
theorem foldl_rep (i:bV):∀(k:Nat)(acc:bV),
  List.foldl (λx1 x2=>x1++x2) acc.toArray (List.replicate k i.toArray)=(acc++(List.replicate k i).flatten).toArray
 |0,acc=>by simp|k+1,acc=>by
  have e:acc.toArray++i.toArray=(acc++i).toArray:=by simp
  have E:(acc++i)++(List.replicate k i).flatten=acc++(List.replicate (k+1) i).flatten:=by
   rw[a7,aY,aO]
  rw[<- E,<- foldl_rep i k (acc++i),<- e,a7,List.foldl_cons]
section
variable {l:Addr}
def Inv.lset {its':bV}{f:Array Value->Array Value}(I:Inv X pins σ H s)(c:H l=some (.lst xs))
  (e:s.heap.get? l=some { cls:=.type "list",data:=.seq its.toArray n })(hf:f its.toArray=its'.toArray)(v:Vals ys its')(h:ys.length<=sizeLine):
  Inv X pins σ (upd H l (.lst ys)) { s with heap:=s.heap.update l (Obj.mapSeq f),toks:=t' }:=by
 have q:=PySem.IsL.update e f;rw[hf]at q;refine I.write (x:=l) (e:=l) (by rw[c];exact trivial) (.inl rfl) (λB u b a=>(aQ s.heap (Obj.mapSeq f) (Ne.symm b)).trans a) ⟨_,q⟩ ?_
 exact⟨h,its',_,v,q⟩
def Inv.lnew (I:Inv X pins σ H s)(v:Vals ys its)(h:ys.length<=sizeLine):
  Inv X pins σ (upd H s.heap.objs.size (.lst ys)) { s with heap:=s.heap.push { cls:=.type "list",data:=.seq its.toArray },toks:=t' }:=
 I.laid (λ_ _ q=>af _ q) (ar _) ⟨h,its,0,v,av _ rfl⟩
theorem Inv.fresh (I:Inv X pins σ H s):H s.heap.objs.size=none:=I.hok.fresh (ar _)
def Inv.lstM (I:Inv X pins σ H s)(h:H l=some (.lst xs)):xs.length<=sizeLine/\∃(i:bV) (n:Nat),Vals xs i/\xs.length=i.length/\s.heap.get? l=some { cls:=.type "list",data:=.seq i.toArray n }:=by
 obtain⟨z,i,n,r,e⟩:=I.hok l _ h;exact⟨z,i,n,r,r.length,e⟩
def Ck (h:n<=sizeLine):Builtin.List.listTooLong n=false:=by
 unfold Builtin.List.listTooLong;exact aJ (by omega)
end
section
def AL:V->List V->Hp->VK->Prop:=λx vs H Q=>∃l xs y,x=.ref l/\vs=[y]/\H l=some (.lst xs)/\xs.length<sizeLine/\Q .non (upd H l (.lst (xs++[y])))
def Ot:T8 X "list.append" AL:=by
 intro pins s σ H x vs v us Q I b c h;obtain⟨l,xs,y,rfl,rfl,a,f,q⟩:=h;cases b;obtain⟨u,rfl,d⟩:=c.one;obtain⟨z,i,n,r,g,e⟩:=I.lstM a;refine call_meets F.slot_list_append ⟨_,e,rfl⟩ F.entry_list_append (F.args_list_append_2 _ _) (PySem.list_append l i.toArray n u (by rw[aB];omega)) ⟨e,?_⟩
 refine⟨.non,_,I.lset (its':=i++[u]) a e (by simp) (r.append (.cons d .nil)) ?_,rfl,q⟩
 rw[aw,aS];omega
def ee:V->List V->Hp->VK->Prop:=λx vs H Q=>∃l xs i k y,x=.ref l/\vs=[.int i]/\H l=some (.lst xs)/\-(2 ^ 63)<=i/\i<2 ^ 63/\seqIndex? i xs.length=some k/\xs[k]? =some y/\Q y (upd H l (.lst (xs.eraseIdx k)))
def C6:T8 X "list.pop" ee:=by
 intro pins s σ H x vs v us Q I d f h;obtain⟨l,xs,i,k,y,rfl,rfl,c,B,A,p,j,q⟩:=h;cases d;obtain⟨u,rfl,g⟩:=f.one;obtain⟨t,rfl⟩:=g;obtain⟨z,a,n,r,o,e⟩:=I.lstM c;obtain⟨w,hw,b⟩:=r.get j;refine call_meets F.slot_list_pop ⟨_,e,rfl⟩ F.entry_list_pop (F.args_list_pop_2 _ _)
  (MeetsSeq.list_pop_at l a.toArray n i t k w (fitsIndex_both B A) (by rw[aB,<- o];exact p) (by rw[<- bE];exact hw) (by rw[aB];omega)) ⟨e,?_⟩
 refine⟨y,_,I.lset (its':=a.eraseIdx k) c e ?_ (r.eraseIdx k) ?_,b,q⟩
 ·show a.toArray.eraseIdxIfInBounds k=(a.eraseIdx k).toArray
  rw[List.eraseIdxIfInBounds_toArray]
 ·have:=P0 xs k
  omega
def Ll:R2:=λx y H Q=>∃l b xs zs,x=.ref l/\y=.ref b/\H l=some (.lst xs)/\H b=some (.lst zs)/\xs.length+zs.length<=sizeLine/\∀p,H p=none->Q (.ref p) (upd H p (.lst (xs++zs)))
def eg:ji X (binaryOp .Add) Ll:=by
 intro pins s σ H x y v u Q I d c h;obtain⟨l,b,xs,zs,rfl,rfl,j,B,o,q⟩:=h;cases d;cases c;obtain⟨z,a,n,r,p,e⟩:=I.lstM j;obtain⟨Z,i,N,f,g,k⟩:=I.lstM B;refine PySem.P.add_list e k ?_ (by rw[aB,aB];omega)
 have E:a.toArray++i.toArray=(a++i).toArray:=by simp
 rw[E];exact⟨.ref _,_,I.lnew (t':=s.toks) (r.append f) (by rw[aw];omega),rfl,q _ I.fresh⟩
def Lw:R2:=λx y H Q=>∃l k xs,x=.ref l/\y=.int k/\H l=some (.lst xs)/\-(2 ^ 63)<=k/\k<2 ^ 63/\xs.length * k.toNat<=sizeLine/\
 ∀p,H p=none->Q (.ref p) (upd H p (.lst (List.replicate k.toNat xs).flatten))
def len_rep (xs:List α)(k:Nat):(List.replicate k xs).flatten.length=k * xs.length:=by
 induction k with
 |zero=>simp|succ k i=>rw[a7,aY,aw,i,Nat.succ_mul,Nat.add_comm]
def en:ji X (binaryOp .Mult) Lw:=by
 intro pins s σ H x y v u Q I f d h;obtain⟨l,k,xs,rfl,rfl,o,B,A,c,q⟩:=h;cases f;obtain⟨t,rfl⟩:=d;obtain⟨z,i,n,r,j,e⟩:=I.lstM o;have hlen:i.toArray.size * k.toNat<=sizeLine:=by rw[aB,<- j];exact c
 have p:¬i.toArray.size * k.toNat > (2 ^ 63-1)/8:=by
  have:(sizeLine:Nat)<=(2 ^ 63-1)/8:=by decide
  omega
 have b:¬(!Builtin.List.listFitsIndex k)=true:=by
  rw[fitsIndex_both B A];exact aA
 have g:¬Builtin.List.listTooLong (i.toArray.size * k.toNat)=true:=by
  rw[Ck hlen];exact aA
 have w:List.foldl (λx1 x2=>x1++x2) #[] (List.replicate (if i.toArray.isEmpty=true then 0 else k.toNat) i.toArray)=(List.replicate k.toNat i).flatten.toArray:=by
  have f0:∀m:Nat,List.foldl (λx1 x2=>x1++x2) #[] (List.replicate m i.toArray)=(List.replicate m i).flatten.toArray:=λm=>by
   have:=foldl_rep i m []
   rw[nil_append]at this;exact this
  rw[f0];cases i with
  |nil=>simp|cons a C=>rw[aj (by simp)]
 refine wpAny_binaryOp_repeat_ref (T := "list") (U := "int") (by decide) ⟨_,e,rfl⟩ (λs'=>typeIs_int s' k t) noFill_list_mul F.fills_int_mul F.slot_int_rmul repeat_list F.slot_int_index.lookup
  (call_meets F.slot_int_rmul (typeIs_int s k t) F.entry_int_rmul (F.args_int_rmul_2 _ _) (int___rmul___int_list k t l i.toArray n)
   ⟨e,rfl,⟨_,e,rfl⟩,call_meets F.slot_list_mul ⟨_,e,rfl⟩ F.entry_list_mul (F.args_list_mul_2 _ _) (AutoListH.list___mul___list_int_3 l i.toArray n k t b p g) ⟨e,?_⟩⟩)
 rw[w];exact⟨.ref _,_,I.lnew (t':=s.toks) (r.rep k.toNat) (by rw[len_rep,Nat.mul_comm];exact c),rfl,q _ I.fresh⟩
end
section
set_option maxRecDepth 100000 in
end
end L2
namespace Att
open PySem PySem.W PySem.Calls PyProof.Rows
def IL {P:Params}:∀(ns:bU)(vs:bV),WellAll P h vs (ns.map WData.int)->IntsAre vs ns:=by
 intro ns
 induction ns with
 |nil=>
  intro vs w;rw[map_nil]at w;cases w;exact .nil
 |cons n ns i=>
  intro vs w;rw[aW]at w;cases w with
  |cons a b=>
   cases a;exact .cons _ _ (i _ b)
def Et {l:OpenLaw}(hn:l.most=some n){P:Params}{args:List WData}{vals:bV}
  (H:l.row.toRowW.claim.pre args=true)(f:WellAll P h vals args):
  ∃a vs ns,vals=[Value.ref a]/\args=[WData.list (ns.map WData.int)]/\h.get? a=some { cls:=.type "list",data:=.seq vs.toArray }/\IntsAre vs ns/\ns.length<=n:=by
 have g:WShape.hasAll [] args [.list .int]=true:=(pre_splitW H).1;have i:l.pre.holds [] { args:=args }=true:=(pre_splitW H).2;obtain⟨d,r,rfl,s,p⟩:=hasAllW_cons g;obtain rfl:=hasAllW_nil p;obtain⟨xs,rfl,k⟩:=hasW_list s;obtain⟨ns,rfl⟩:=items_int k;have hlen:ns.length<=n:=by
  unfold OpenLaw.pre at i;have e:(WTm.not (.lt (.lit (.int (n:Int))) (.len (.arg 0)))).holds [] { args:=[.list (ns.map .int)] }=true:=by
   have e:=(holds_andW i).1;rw[hn]at e;exact e
  have c:=condW_of e (w_not (w_lt w_lit (w_len_list (w_arg rfl))));rw[ag]at c;refine Nat.le_of_not_lt λq=>?_;have Q:(n:Int)<((ns.length:Nat):Int):=by omega
  first
   |(rw[az Q]at c;exact absurd c (by decide))
   |(simp at c;omega)
 cases f with
 |cons j w=>
  cases w;cases j with
  |list o b=>exact⟨_,_,ns,rfl,rfl,o,IL ns _ b,hlen⟩
def Dn (l:OpenLaw)(args:List WData):l.row.toRowW.claim.post args (.bool true) args=true:=
 postW_of (r:=l.row.toRowW) (X:=(true==true))
  (show WShape.has [] (.bool true) .bool=true by first|rfl|decide|simp[WShape.has,WShape.arms,WShape.armsAll])
  (show(WTm.eq .res (.lit (.bool true))).value [] { args:=args,res:=some (.bool true),after:=args }=some (.bool (true==true)) from w_eq_bool (w_res rfl) w_lit) rfl
def Fe {l:OpenLaw}{q:Program}{loose:bZ}{P:World->Heap->Prop}{d:DefRec}
  (hn:l.most=some n)(e:d.params.defaults=[])
  (call:∀(w:World)(S s:Shared)(mg mb:cc)(b:Addr)(o:Obj)(pm cd doc:Value)(a:Addr)(vs:bV)(ns:bU),
   Ground q loose [] XP w S mg mb s.heap->P w s.heap->
   s.heap.get? b=some o->o.data=.func (docDef d.name d.params d.body d.scope pm cd doc)->s.heap.CodeRec cd d.name->mg d.name=some (.ref b)->
   s.heap.get? a=some { cls:=.type "list",data:=.seq vs.toArray }->IntsAre vs ns->ns.length<=n->s.gens=#[]->
   codeAny (model l.prog w) callerA (.call (.ref b) ⟨[.ref a],[]⟩) (λr s'=>r=.ok (.ret (.bool true))/\OldK s.heap s'.heap/\s'.os=s.os/\AllBare s'.gens) s):
  WalkO q loose XP P l.row.toRowW d [] (λf vs=>PySem.call f vs):=by
 intro w S s mg mb G Y b o pm cd doc A kV p hd i D g u args vals as h y j c t;obtain rfl:A=.none:=Dflts.none D e;obtain rfl:kV=.none:=Dflts.noKw D;obtain⟨a,vs,ns,rfl,rfl,H,hints,hlen⟩:=Et hn h c;refine enter_call (codeAny_mono (call w S s mg mb b o pm cd doc a vs ns G Y p (fd_plain hd) i g H hints hlen u) λr s' k=>?_);obtain⟨rfl,z,x,v⟩:=k;exact⟨.inl ⟨.bool true,.bool true,[],rfl,λ_=>rfl,.bool true,Dn l _,λ_=>⟨List.Pairwise.nil,λ_ hm=>(nomatch hm)⟩⟩,z,x,v⟩
end Att
namespace L2
open PySem PySem.Spec PyProof.Rows
theorem Kz:∀{vs:bV}{ns:bU},IntsAre vs ns->Vals (ns.map V.int) vs
 |_,_,.nil=>.nil|_,_,.cons n t h=>.cons ⟨t,rfl⟩ (Kz h)
noncomputable abbrev LI {K:Frag}(_:K.In h):Frag:=K
noncomputable def Qn (s:Stmt):Arguments:=match s with
 |.FunctionDef _ a _ _ _ _ _ _ _ _=>a|_=>{ posonlyargs:=[],args:=[],vararg:=none,kwonlyargs:=[],kw_defaults:=[],kwarg:=none,defaults:=[] }
noncomputable def yH (s:Stmt):cn:=match s with
 |.FunctionDef _ _ b _ _ _ _ _ _ _=>b|_=>[]
noncomputable def qo (s:Stmt):Scope:=match s with
 |.FunctionDef _ _ _ _ _ _ sc _ _ _=>sc|_=>{ kind:=.function,names:=[],isGenerator:=false,isCoroutine:=false }
noncomputable abbrev wX:Zf:=λ_ _ _ _ _ _=>False
noncomputable abbrev E0:XK:=λ_ _ _=>False
def eu:Passes wX X E0:=λ_ _ _ _ _ _ _ h=>h.elim
structure wd (K:Frag)(x qual:Str)(st:Stmt)(f:Addr)(fd:FuncData):Prop where
 ex:∃(oc:Value) (od:cm) (kV doc pm:Value) (an:cm) (cdv ct:Value) (osl:Array (Option Value)),
  fd=fnOf x qual (Qn st) (yH st) (qo st) .none kV doc pm an cdv ct/\K.lookup f=some ⟨oc,od,.func fd,osl⟩/\codeIn K cdv qual=true
 kp:keepIn K (.ref f)=true
section
variable {K:Frag}
def wd.ok {st:Stmt}{sp:Sp}(F:wd K x qual st f fd)(S:qX N ps (qo st))(len:∀vs H Q E,sp vs H Q E->vs.length=ps.length)
  (y:∀(c:Value)(A:Around)(outer:cf)(s:Shared)(H:Hp)(vs:List V)(Q:VK)(E:XK),jR k (A.deeper (envOfC qual (qo st) s.heap.objs.size f c))->sp vs H Q E->
   ∃t,kq (wQ wX P w K mg base N qual (qo st) f c A outer s H E).nox (yH st) t/\t { nx:=λ_ a=>Q .non a,rt:=Q } (start N vs) H):ko P w K mg base wX (k+1) f fd ps sp:=by
 obtain⟨e,b,kV,doc,pm,an,c,ct,o,rfl,lk,d⟩:=F.ex;refine Th lk d S len λA outer s H vs Q E r p=>?_;obtain⟨t,h,q⟩:=y c A outer s H vs Q E r p;exact⟨t,h.nox,q⟩
def wd.binds {st:Stmt}(F:wd K x qual st f fd)
  (h:∀(kV doc pm:Value)(an:cm)(c ct:Value)(us:bV),us.length=ps.length->bindArgs (fnOf x qual (Qn st) (yH st) (qo st) .none kV doc pm an c ct) ⟨us,[]⟩=pure (ps.zip us)):Binds K fd ps []:=by
 obtain⟨a,d,kV,doc,pm,an,c,ct,o,rfl,lk,H⟩:=F.ex;exact .all (h kV doc pm an c ct)
def ew {st:Stmt}{a:Value}{o an:cm}{kV doc pm C ct:Value}(l:K.lookup f=some ⟨a,o,.func (fnOf x qual (Qn st) (yH st) (qo st) .none kV doc pm an C ct),osl⟩)
  (c:codeIn K C qual=true)(k:keepIn K (.ref f)=true):wd K x qual st f (fnOf x qual (Qn st) (yH st) (qo st) .none kV doc pm an C ct):=⟨⟨a,o,kV,doc,pm,an,C,ct,osl,rfl,l,c⟩,k⟩
def Inv.big (I:Inv X pins σ H s):sysModules<s.heap.objs.size:=by
 have h:mainGlobals<s.heap.objs.size:=(I.mod.glob.keeps I.bk).lt;exact lt_trans (by decide) h
end
def DA (h:Heap)(b:sysModules<h.objs.size):jF P w H (h.push { cls:=.type "dict",data:=.dict #[] }) h.objs.size (.dK []):=
 ⟨zero_le _,beq_eq_false_iff_ne.mpr (Ne.symm (aI b)),[],.nil,Heap.DictOf.new h⟩
def ez:TE:=λ_ H Q=>∀p,H p=none->Q (.ref p) (upd H p (.dK []))
section
def DW:PE X (.Dict [] [] pos) ez:=λpins s σ H Q I h=>
 wpAny_Dict_empty ⟨.ref s.heap.objs.size,_,I.laid (a:=s.heap.objs.size) (o:=.dK []) (t':=s.toks) (λ_ _ q=>af _ q) (ar _) (DA s.heap I.big),rfl,h _ (I.hok.fresh (ar _))⟩
end
noncomputable def kZ (env:Env):List (Str×NameKind)->List (Str×Addr)->List (Str×Addr)
 |[],acc=>acc|(n,k)::r,acc=>kZ env r (if k==.free then(n,(env.cells.lookup n).getD 0)::acc else acc)
def CU (f:Str×NameKind->List (Str×Addr)->Sem (ForInStep (cg)))
  (hf:∀n k r,f (n,k) r=if (k==NameKind.free)=true then(do let c <- cellOf env n;pure (ForInStep.yield ((n,c)::r))) else pure (ForInStep.yield r)):
  ∀(names:List (Str×NameKind))(acc:cg),(∀y∈names,y.2=.free->∃c,env.cells.lookup y.1=some c)->(forIn names acc f:Sem (cg))=pure (kZ env names acc):=by
 intro names
 induction names with
 |nil=>intro acc _;rfl|cons y r i=>
  intro acc b;obtain⟨n,k⟩:=y;rw[forIn_cons,hf];unfold kZ;have h:=i (if k==.free then(n,(env.cells.lookup n).getD 0)::acc else acc) (λy g=>b y (aq _ g))
  by_cases a:k=.free
  ·subst a
   obtain⟨c,d⟩:=b (n,.free) au rfl;have e:cellOf env n=pure c:=by unfold cellOf;rw[d]
   have H:List.lookup n env.cells=some c:=d;simp only[e,H,Option.getD_some,bt,if_true]at h ⊢;exact h
  ·have j:(k==NameKind.free)=false:=by simpa using a
   simp only[j,a9,if_false]at h ⊢;exact h
def PJ (h:∀y∈scope.names,y.2=.free->∃c,env.cells.lookup y.1=some c):closureFor scope env=pure (kZ env scope.names []):=by
 unfold closureFor;dsimp only;rw[CU _ (λn k r=>rfl) scope.names [] h]
 rfl
theorem JD {n:Str}:∀(names:List (Str×NameKind))(acc:cg),(n,c)∈kZ env names acc->(n,c)∈acc∨((n,NameKind.free)∈names/\c=(env.cells.lookup n).getD 0)
 |[],acc,h=>.inl h|(x,k)::r,acc,h=>by
  unfold kZ at h;rcases JD r _ h with h|⟨d,a⟩
  ·by_cases H:k=.free
   ·subst H
    simp only[bt,if_true]at h;rcases cw.mp h with e|h
    ·cases e;exact .inr ⟨au,rfl⟩
    ·exact .inl h
   ·have b:(k==NameKind.free)=false:=by simpa using H
    simp only[b,a9,if_false]at h;exact .inl h
  ·exact .inr ⟨aq _ d,a⟩
theorem W4 {n:Str}:∀(names:List (Str×NameKind))(acc:cg),((n,NameKind.free)∈names∨(acc.lookup n).isSome=true)->((kZ env names acc).lookup n).isSome=true
 |[],acc,h=>by
  rcases h with h|h
  ·cases h
  ·exact h
 |(x,k)::r,acc,h=>by
  unfold kZ;refine W4 r _ ?_;rcases h with h|h
  ·rcases cw.mp h with e|h
   ·cases e
    right
    simp
   ·exact .inl h
  ·right
   by_cases H:(k==NameKind.free)=true
   ·rw[ah H,lookup_cons]
    cases a:n==x
    ·exact h
    ·rfl
   ·rw[aj H];exact h
theorem X6 {n:Str}:∀(names:List (Str×NameKind))(k:Nat)(acc:cg),(n,c)∈cellsFrom k names acc->(n,c)∈acc∨(k<=c/\(n,NameKind.cell)∈names)
 |[],_,_,h=>.inl h|(x,q)::r,k,acc,h=>by
  unfold cellsFrom at h
  by_cases a:(q==NameKind.cell)=true
  ·rw[ah a]at h
   have H:q=.cell:=by simpa using a
   rcases X6 r _ _ h with h|⟨d,b⟩
   ·rcases cw.mp h with e|h
    ·cases e;subst H;exact .inr ⟨ar _,au⟩
    ·exact .inl h
   ·exact .inr ⟨by omega,aq _ b⟩
  ·rw[aj a]at h
   rcases X6 r _ _ h with h|⟨d,b⟩
   ·exact .inl h
   ·exact .inr ⟨d,aq _ b⟩
theorem X5:∀(names:List (Str×NameKind))(k:Nat)(acc:cg),(∀n c,(n,c)∈acc->c<k)->(∀n N c,(n,c)∈acc->(N,c)∈acc->n=N)->∀n N c,(n,c)∈cellsFrom k names acc->(N,c)∈cellsFrom k names acc->n=N
 |[],_,_,_,hi,n,N,c,h,h'=>hi n N c h h'|(x,q)::r,k,acc,l,hi,n,N,c,h,h'=>by
  unfold cellsFrom at h h'
  by_cases a:(q==NameKind.cell)=true
  ·rw[ah a]at h h'
   refine X5 r (k+1) ((x,k)::acc) (λm d hm=>?_) (λm m' d hm H=>?_) n N c h h'
   ·rcases cw.mp hm with e|hm
    ·cases e;exact bh _
    ·exact a6 (l m d hm)
   ·rcases cw.mp hm with e|hm
    ·rcases cw.mp H with E|H
     ·cases e;cases E;rfl
     ·cases e;exact absurd (l m' _ H) (aT _)
    ·rcases cw.mp H with E|H
     ·cases E;exact absurd (l m _ hm) (aT _)
     ·exact hi m m' d hm H
  ·rw[aj a]at h h'
   exact X5 r k acc l hi n N c h h'
theorem X1 {n:Str}:∀(names:List (Str×NameKind))(h:Heap)(acc:cg),(n,c)∈cellsFrom h.objs.size names acc->(n,c)∈acc∨(pushCells h names).IsCell c none
 |[],_,_,q=>.inl q|(x,k)::r,h,acc,q=>by
  unfold cellsFrom at q;unfold pushCells
  by_cases H:(k==NameKind.cell)=true
  ·rw[ah H]at q ⊢
   have:=X1 r (h.push { cls:=.type "cell",data:=.cell none }) ((x,h.objs.size)::acc) (by rw[bg];exact q)
   rcases this with z|z
   ·rcases cw.mp z with e|z
    ·cases e
     exact .inr ⟨_,pushCells_keeps r _ _ _ (av _ rfl),rfl⟩
    ·exact .inl z
   ·exact .inr z
  ·rw[aj H]at q ⊢
   exact X1 r h acc q
def IE {A:Around}{globals:Addr}{cl:cg}{Q:Env->Shared->Prop}
  (h:Q { scope,locals:=s.heap.objs.size,globals,cells:=cellsFrom (s.heap.objs.size+1) scope.names cl,qual,func:=none,code:=env.code,frame:=env.frame,builtins:=env.builtins }
   { s with heap:=pushCells (s.heap.push { cls:=.type "dict",data:=.dict #[] }) scope.names }):
  wpAny M A (newFunctionEnv scope globals cl [] qual none .none (some env)) Q E s:=by
 simp only[newFunctionEnv,Option.isSome_some,if_true];refine cq (wpAny_alloc ?_);refine cq (wpAny_layCells _ (λname kind cells=>by cases H:kind==NameKind.cell<;>simp[H]) _ _ _ _ ?_)
 rw[show({ s with heap:=s.heap.push { cls:=.type "dict",data:=.dict #[] } }:Shared).heap.objs.size=s.heap.objs.size+1 from bg ..]
 rw[forIn_nil];exact cq (cu (cu h))
def jB (X:Cx)(N:bZ)(scope:Scope)(s:Shared)(H:Hp)(fp:bW)(xe:b8):Cx where
 prog:=X.prog
 w:=X.w
 K:=X.K
 mg:=X.mg
 base:=X.base
 A:=X.A
 N:=N
 s0:=s
 H0:=H
 env:={ scope:=relabel scope X.env,locals:=s.heap.objs.size,globals:=X.env.globals,cells:=cellsFrom (s.heap.objs.size+1) scope.names (kZ X.env scope.names []),qual:=X.env.qual,func:=none,code:=X.env.code,frame:=X.env.frame,builtins:=X.env.builtins }
 outer:=X.stack
 stack:=X.stack
 ex:=fp
 fn:=λx=>scope.names.lookup x==some .local || scope.names.lookup x==some .cell
 calm:=X.calm
 pn:=[]
 xe:=xe
structure Zm (X:Cx)(scope:Scope):Prop where
 kind:scope.kind=.function
 nd:(scope.names.map (·.1)).Nodup
 free:∀y∈scope.names,y.2=.free->X.env.kindOf y.1=some .cell∨X.env.kindOf y.1=some .free
theorem Yn {k:α}:∀{l:List (Str×α)},(l.map (·.1)).Nodup->(x,k)∈l->l.lookup x=some k
 |(y,q)::r,nd,h=>by
  rw[aW,List.nodup_cons]at nd;rw[lookup_cons];rcases cw.mp h with e|h
  ·cases e;simp
  ·have ne:(x==y)=false:=by
    rw[beq_eq_false_iff_ne];intro e
    apply nd.1
    rw[<- e];exact List.mem_map_of_mem (f:=(·.1)) h
   rw[ne];exact Yn nd.2 h
def X0 {k:NameKind}(h:(relabel scope env).names.lookup x=some k):scope.names.lookup x=some k∨(k=.cell/\scope.names.lookup x=some .free/\env.kindOf x=some .cell):=by
 unfold relabel at h;dsimp only at h;generalize scope.names=names at h ⊢
 induction names with
 |nil=>cases h|cons y r i=>
  obtain⟨n,q⟩:=y;rw[aW]at h;have split:(if (q==NameKind.free&&env.scope.kind==.function&&env.kindOf n==some .cell)=true then(n,NameKind.cell) else(n,q)).1=n:=by split<;>rfl
  rw[lookup_cons]at h ⊢;dsimp only at h;rw[split]at h;cases a:x==n with
  |false=>rw[a]at h;exact i h|true=>
   rw[a]at h;have e:x=n:=aN.mp a;subst e
   by_cases H:(q==NameKind.free&&env.scope.kind==.function&&env.kindOf x==some .cell)=true
   ·rw[ah H]at h
    simp only[ak,aN]at H;cases h
    right
    exact⟨rfl,by rw[H.1.1],H.2⟩
   ·rw[aj H]at h
    left
    exact h
section
def Inv.capt (I:Inv X pins σ H s)(S:Zm X scope)(h:(x,NameKind.free)∈scope.names):∃c,X.env.cells.lookup x=some c:=I.ok.has x (S.free _ h rfl)
def KH (I:Inv X pins σ H s)(S:Zm X scope)(h:(x,c)∈cellsFrom (s.heap.objs.size+1) scope.names (kZ X.env scope.names [])):
  ((x,NameKind.free)∈scope.names/\X.env.cells.lookup x=some c/\c<s.heap.objs.size)∨((x,NameKind.cell)∈scope.names/\s.heap.objs.size<c/\∀h0:Heap,h0.objs.size=s.heap.objs.size+1->(pushCells h0 scope.names).IsCell c none):=by
 rcases X6 _ _ _ h with b|⟨b,d⟩
 ·left
  rcases JD _ _ b with z|⟨z,e⟩
  ·cases z
  ·obtain⟨C,a⟩:=I.capt S z
   rw[a]at e;have E:c=C:=e;subst E;obtain⟨v,q⟩:=I.cell x c a;exact⟨z,a,q.lt⟩
 ·right
  refine⟨d,b,λh0 f=>?_⟩;have h':=h;rw[<- f]at h';rcases X1 _ h0 _ h' with z|z
  ·exfalso
   rcases JD _ _ z with z|⟨z,e⟩
   ·cases z
   ·obtain⟨C,a⟩:=I.capt S z
    rw[a]at e;have E:c=C:=e;subst E;obtain⟨v,q⟩:=I.cell x c a;exact aT _ (aD (a6 q.lt) b)
  ·exact z
def DX {xe:b8}{f:St}(I:Inv X pins σ H s)(S:Zm X scope)(hf:∀b∈fp,wc X pins H b)(A:∀b∈fp,b<s.heap.objs.size)(hl:f.length=N.length)
  (hs:∀(j:Nat)(x:Str)(v:V),N[j]? =some x->f[j]? =some (some v)->(x,NameKind.free)∈scope.names/\∃i:Nat,X.N[i]? =some x/\σ[i]? =some (some v)):
  Inv (jB X N scope s H fp xe) [] f H { s with heap:=pushCells (s.heap.push { cls:=.type "dict",data:=.dict #[] }) scope.names }:=by
 have M:∀b o,s.heap.get? b=some o->(pushCells (s.heap.push { cls:=.type "dict",data:=.dict #[] }) scope.names).get? b=some o:=λb o e=>pushCells_keeps _ _ _ _ (af _ e);have T:(s.heap.push { cls:=.type "dict",data:=.dict #[] }).objs.size=s.heap.objs.size+1:=bg ..;have l:∀{x:Str}{c:Addr},(jB X N scope s H fp xe).env.cells.lookup x=some c->(x,c)∈cellsFrom (s.heap.objs.size+1) scope.names (kZ X.env scope.names []):=λh=>PySem.mem_of_lookup h;have L:∀{x:Str},((jB X N scope s H fp xe).env.kindOf x=some .cell∨(jB X N scope s H fp xe).env.kindOf x=some .free)->∃c,(jB X N scope s H fp xe).env.cells.lookup x=some c:=λ {x} h=>by
  refine Option.isSome_iff_exists.mp (cellsFrom_some _ _ _ ?_);have two:scope.names.lookup x=some .cell∨scope.names.lookup x=some .free:=by
   rcases h with h|h
   ·rcases X0 h with z|⟨_,z,_⟩
    ·exact .inl z
    ·exact .inr z
   ·rcases X0 h with z|⟨z,_⟩
    ·exact .inr z
    ·cases z
  rcases two with z|z
  ·exact .inl z
  ·exact .inr (W4 _ _ (.inl (PySem.mem_of_lookup z)))
 have exP:∀b∈fp,∀x c,(jB X N scope s H fp xe).env.cells.lookup x=some c->c≠b:=λb a x c e=>by
  rcases KH I S (l e) with ⟨_,q,_⟩|⟨_,q,_⟩
  ·exact(hf b a).2.2.2.2.1 x c q
  ·intro z;subst z;exact aT _ (lt_trans q (A _ a))
 refine⟨⟨I.ok.mod,S.kind,I.ok.glob,I.ok.blt,ar _,λx y c h1 J=>?_,λx h=>L h,λx c g h=>?_,I.ok.hd,I.ok.frames,.inl rfl,λb a=>⟨?_,exP b a⟩,I.bs,bb I.ok.bsz I.sz,λb o e a=>?_,λb a z=>?_,I.stack,I.stkFree⟩,
  rfl,I.bare,Un.kept M,⟨λ_=>none,?_,λj x v h1 J h3=>?_⟩,λx c e=>?_,I.fresh,λx c e=>?_,λp hp=>?_,I.hok.kept M,hl⟩
 ·refine X5 _ _ _ (λn c h=>?_) (λn n' c h h'=>?_) x y c (l h1) (l J)
  ·rcases JD _ _ h with z|⟨z,e⟩
   ·cases z
   ·obtain⟨c',D⟩:=I.capt S z
    rw[D]at e;have P:c=c':=e;subst P;obtain⟨v,q⟩:=I.cell n c D;exact a6 q.lt
  ·rcases JD _ _ h with z|⟨z,e⟩
   ·cases z
   ·rcases JD _ _ h' with Z|⟨Z,P⟩
    ·cases Z
    ·obtain⟨d,hd⟩:=I.capt S z
     obtain⟨d',B⟩:=I.capt S Z;rw[hd]at e;rw[B]at P;have K:c=d:=e;have e2:c=d':=P;subst K;subst e2;exact I.ok.inj _ _ _ hd B
 ·rcases KH I S (l h) with ⟨z,_,_⟩|⟨_,z,_⟩
  ·exfalso
   have K:=Yn S.nd z;have t:(scope.names.lookup x==some .local || scope.names.lookup x==some .cell)=true:=g;rw[K]at t;cases t
  ·exact bC z
 ·exact aI (A b a)
 ·obtain⟨_,_,_,E,_⟩:=hf b a
  rcases E with E|E
  ·exact I.ok.noex b o e E
  ·exact absurd (aD (aF e) (bb I.ok.bsz E)) (aT _)
 ·obtain⟨_,J,h3,_⟩:=hf b a
  rcases cw.mp (I.stkSub b z) with e|e
  ·exact J e
  ·exact h3 e
 ·exact(Heap.Ns.new s.heap (.type "dict")).keeps (pushCells_keeps _ _)
 ·obtain⟨g,i,K,e2⟩:=hs j x v h1 J
  obtain⟨m,hn,Y⟩:=I.loc;have Q:Y3 X.env.scope x:=.inr (S.free _ g rfl);obtain⟨u,r,lk⟩:=Y i x v K e2 Q;refine⟨u,r,.inr ?_⟩;have w:(jB X N scope s H fp xe).env.kindOf x=some .cell∨(jB X N scope s H fp xe).env.kindOf x=some .free:=by
   rcases h3 with z|z|z
   ·exfalso
    rcases X0 z with Z|⟨Z,_⟩
    ·rw[Yn S.nd g]at Z;cases Z
    ·cases Z
   ·exact .inl z
   ·exact .inr z
  refine⟨w,?_⟩;obtain⟨c,D⟩:=L w;refine⟨c,D,?_⟩;rcases KH I S (l D) with ⟨_,q,_⟩|⟨q,_,_⟩
  ·rcases lk with ⟨z,_⟩|⟨_,c',C,cell⟩
   ·exfalso
    rcases S.free _ g rfl with k|k<;>(rw[k]at z;cases z)
   ·rw[q]at C;cases C
    exact cell.keeps M
  ·exfalso
   have a1:=Yn S.nd g;have a2:=Yn S.nd q;rw[a1]at a2;cases a2
 ·rcases KH I S (l e) with ⟨_,q,_⟩|⟨_,_,q⟩
  ·obtain⟨v,z⟩:=I.cell x c q
   exact⟨v,z.keeps M⟩
  ·exact⟨_,q _ T⟩
 ·rcases KH I S (l e) with ⟨_,q,_⟩|⟨_,q,_⟩
  ·exact I.freeC x c q
  ·exact I.hok.fresh (bC q)
 ·have U:p∈([]:bX):=hp
  cases U
end
abbrev gq:=Addr->St->Hp->(St->Hp->Prop)->Prop
noncomputable def Wm (elt:Expr)(gens:List Comprehension)(sc:Scope)(pos:Pos)(d:Nat)(acc:Value)(env:Env)(k:Sem Fin):Sem Fin:=
 match gens[d+1]? with
 |some g'=>do
  let x <- eval g'.iter env
  standAt g'.iter.pos
  let x <- foldedSetIterable g'.iter env x
  let _ <- runOwn (.compStart (.ListComp elt gens sc pos) (d+1) (<- holding [x] (pyIter x)) acc env) env
  k
 |none=>do
  (do let _ <- call (.builtin "list.append") [acc,<- eval elt env])
  k
theorem BK {d:Nat}{it acc:Value}(h:gens[d]? =some ⟨tg,iter,ifs,0⟩)(H:∀g',gens[d+1]? =some g'->g'.is_async=0):
  compTurn (.ListComp elt gens sc pos) d it acc env=(do
   standAt iter.pos
   match <- pyNext it with
   |none=>pure (.done .next)|some v=>
    letOwnedTupleGo tg it v
    assign tg env v
    let mut ok:=true
    for c in ifs do
     if ok then ok <- isTrue c env (eval c env)
    if ok then Wm elt gens sc pos d acc env (again (.compLoop (.ListComp elt gens sc pos) d it acc env))
    else again (.compLoop (.ListComp elt gens sc pos) d it acc env)):=by
 unfold compTurn Wm;dsimp only;rw[h];cases hn:gens[d+1]? with
 |none=>rfl|some g'=>
  obtain⟨t',i,f,a⟩:=g';have e:a=0:=H _ hn;subst e
  rfl
def QF (X:Cx)(ifs:b9)(t:TT):Prop:=
 ∀(pins:bX)(s:Shared)(σ:St)(H:Hp)(Q:Bool->Hp->Prop),Inv X pins σ H s->t σ H Q->
  wpAny (model X.prog X.w) X.A (forIn ifs true λc r=>if r=true then do let ok <- isTrue c X.env (eval c X.env);pure (ForInStep.yield ok) else pure (ForInStep.yield r)) (TP X pins σ Q) X.xe s
noncomputable def eA:TT:=λ_ H Q=>Q true H
def Dx:QF X [] eA:=λpins s σ H Q I h=>wpAny_tests_nil ⟨H,I,h⟩
def Cq {c:Expr}{t:TT}(h:PT X c t):QF X [c] t:=λpins s σ H Q I hw=>wpAny_tests_one (h pins s σ H Q I hw)
def wC (X:Cx)(elt:Expr)(gens:List Comprehension)(sc:Scope)(pos:Pos)(d:Nat)(t:gq):Prop:=
 ∀(pins:bX)(s:Shared)(σ:St)(H:Hp)(D:Addr)(Q:St->Hp->Prop)(k:Sem Fin)(Q':Fin->Shared->Prop)(E:b8),Inv X pins σ H s->t D σ H Q->
  (∀s' a h,Inv X pins a h s'->Q a h->wpAny (model X.prog X.w) X.A k Q' E s')->wpAny (model X.prog X.w) X.A (Wm elt gens sc pos d (.ref D) X.env k) Q' E s
def eB (t:TE):gq:=λD σ H Q=>t σ H λy H1=>∃ys,H1 D=some (.lst ys)/\ys.length<sizeLine/\Q σ (upd H1 D (.lst (ys++[y])))
def YU (J:It)(g:TG)(ti:TT)(tm:gq):gq:=λD σ H Q=>∃W:Nat->Nat->St->Hp->Prop,(∃m,W 0 m σ H)/\∀i m σ H,W i m σ H->
 (J.stop i H/\Q σ H)∨(J.go i H/\∃N:St->Hp->Prop,(∀c h,N c h->∃m',m'<m/\W (i+1) m' c h)/\∀x h,J.yld i H x h->g x σ h λa H1=>ti a H1 λb d=>if b=true then tm D a d N else N a d)
def eC (wi:TI)(g:TG)(ti:TT)(tm:gq):gq:=λD σ H Q=>wi σ H λJ H1=>YU J g ti tm D σ H1 Q
section
variable {d:Nat}
def YN (h:∀e s,X.xe e s->False){t:Sem α}{Q':α->Shared->Prop}(H:wpAny (model X.prog X.w) X.A t Q' X.xe s'):wpAny (model X.prog X.w) X.A t Q' E s':=
 wpAny_mono H (λ_ _ z=>z) λe s' z=>(h e s' z).elim
def Ox {t:TE}(x:∀e s,X.xe e s->False)(he:PE X elt t)(g:gens[d+1]? =none):wC X elt gens sc pos d (eB t):=by
 intro pins s σ H D Q k Q' E I h b;unfold Wm;rw[g];refine cq (cq (YN x (qc (he pins s σ H _ I h) λu s1 ⟨y,H1,f,r,ys,c,z,a⟩=>?_)));refine cq (YN x (qc (Ot pins s1 σ H1 (.ref D) [y] (.ref D) [u] (λ_ l=>Q σ l) f rfl (.cons r .nil) ⟨D,ys,y,rfl,rfl,c,z,a⟩) λ_ s2 ⟨_,j,i,_,q⟩=>?_));exact cu (b s2 σ j i q)
def Bm {g:TG}{ti:TT}{tm:gq}(U:∀e s,X.xe e s->False)(Y:X.calm=true)(hg:gens[d]? =some ⟨tg,iter,ifs,0⟩)(ha:∀g',gens[d+1]? =some g'->g'.is_async=0)(L:PG X tg g)(hi:QF X ifs ti)(hm:wC X elt gens sc pos d tm)
  {Q:St->Hp->Prop}{J:It}{it:Addr}{z:Nat->Heap->Prop}(T:Turn X.prog X.w X.K tg J fp it z)(I:Inv X pins σ H s)(st:z 0 s.heap)(hf:∀b∈fp,wc X pins H b)
  (h:YU J g ti tm D σ H Q){R:Result->Shared->Prop}(hR:∀s' a c,Inv X pins a c s'->Q a c->R (.ok .next) s'):
  codeAny (model X.prog X.w) X.A (.compLoop (.ListComp elt gens sc pos) d (.ref it) (.ref D) X.env) R s:=by
 obtain⟨W,⟨m0,w0⟩,turn⟩:=h;have S:∀{c:Hp},(∀b∈fp,c b=none)->∀b∈fp,wc X pins c b:=λhn b k=>⟨hn b k,(hf b k).2⟩;refine codeAny_loop rfl (λn s'=>∃i a c,Inv X pins a c s'/\z i s'.heap/\(∀b∈fp,c b=none)/\W i n a c) (λn s3 hI=>?_) m0 ⟨0,σ,H,I,st,λb k=>(hf b k).1,w0⟩;show wpAny _ X.A ((compTurn (.ListComp elt gens sc pos) d (.ref it) (.ref D) X.env).onRaise (λx=>do noteFrame x X.env;theTreesLotGoes x)) _ _ s3
 refine wpAny_noted ?_;rw[BK hg ha];refine cq (wpAny_standAt ?_);obtain⟨i,j,B,Z,Zy,y,w3⟩:=hI;rcases turn i n j B w3 with ⟨stop,qn⟩|⟨go,N,hN,step⟩
 ·refine cq (qc (T.done X rfl rfl rfl Y i pins s3 j B _ Z (S y) Zy stop) λr s4 ⟨E,I4⟩=>?_)
  subst E;exact cu (hR s4 j B I4 qn)
 ·refine cq (qc (T.item X rfl rfl rfl Y i pins s3 j B _ Z (S y) Zy go) λr s4 ⟨u,E,h4⟩=>?_)
  subst E;refine cq (qc h4 λ_ s5 ⟨x,H5,I5,r5,y5,l,M⟩=>?_);have P:=I5.pinned (S M) (T.obj _ _ l);have back:∀{f:St}{p:Hp}{q:Shared},Inv X (pins++K2 fp s5.heap) f p q->N f p->∃m,m<n/\∃i a c,Inv X pins a c q/\z i q.heap/\(∀b∈fp,c b=none)/\W i m a c:=λ {f p q} t n7=>by
   obtain⟨m',hm,w7⟩:=hN f p n7;refine⟨m',hm,i+1,f,p,t.unpinned,T.keep _ _ _ l λb k o e=>(t.pin (b,o) (aU _ (aU _ (W0 k e)))).1,λb k=>?_,w7⟩;obtain⟨o,e,d⟩:=T.obj _ _ l b k;exact(t.pin (b,o) (aU _ (aU _ (W0 k e)))).2.1
  refine cq (YN U (qc (L _ s5 j H5 x u _ P r5 (step x H5 y5)) λ_ s6 ⟨v,H6,I6,q6⟩=>?_));refine cq (YN U (qc (hi _ s6 v H6 _ I6 q6) λok q ⟨p,t,C⟩=>?_));cases ok with
  |false=>exact cu ⟨rfl,back t C⟩|true=>
   rw[ah rfl]at C;exact hm _ q v p D _ _ _ _ t C λs8 σ8 H8 I8 q8=>cu ⟨rfl,back I8 q8⟩
def Lf {g:TG}{ti:TT}{tm:gq}(i:∀e s,X.xe e s->False)(j:X.calm=true)(c:gens[d]? =some ⟨tg,iter,ifs,0⟩)(k:∀g',gens[d+1]? =some g'->g'.is_async=0)(t:PG X tg g)(hi:QF X ifs ti)(hm:wC X elt gens sc pos d tm)
  {Q:St->Hp->Prop}{J:It}{it:Addr}{n:Nat->Heap->Prop}(T:Turn X.prog X.w X.K tg J fp it n)(I:Inv X pins σ H s)(st:n 0 s.heap)(hf:∀b∈fp,wc X pins H b)
  (h:YU J g ti tm D σ H Q){R:Result->Shared->Prop}(o:∀s' a f,Inv X pins a f s'->Q a f->R (.ok .next) s'):
  codeAny (model X.prog X.w) X.A (.compStart (.ListComp elt gens sc pos) d (.ref it) (.ref D) X.env) R s:=by
 have loop:=Bm i j c k t hi hm T I st hf h o;refine codeAny_of_tree ?_;show wpAny _ _ ((compStart (.ListComp elt gens sc pos) d (.ref it) (.ref D) X.env).onRaise (λx=>do noteFrame x X.env;standAt theWindowsPlace)) _ _ s
 refine wpAny_notedAt ?_;unfold compStart;have l:(clausesOf (.ListComp elt gens sc pos))[d]? =some ⟨tg,iter,ifs,0⟩:=c;rw[l];show wpAny _ _ (ask >>= _) _ _ s;refine cq (wpAny_askSetting (wpAny_ite ?_))
 split
 ·first
   |exact cq (cu (cu (And.intro rfl loop)))
   |exact cu (And.intro rfl loop)
 ·first
   |exact cq (wpAny_rule (cq (wpAny_standAt (cq (T.self _ 0 s _ _ st (cu (And.intro rfl loop)))))))
   |(refine cq (wpAny_rule ?_);show wpAny _ _ (standAt iter.pos >>= _) _ _ s;exact cq (wpAny_standAt (cq (T.self _ 0 s _ _ st (cu (And.intro rfl loop))))))
def Cn {wi:TI}{g:TG}{ti:TT}{tm:gq}(b:∀e s,X.xe e s->False)(n:X.calm=true)(c:gens[d+1]? =some ⟨tg,iter,ifs,0⟩)(o:∀g',gens[d+2]? =some g'->g'.is_async=0)(hw:PI X tg iter wi)(t:PG X tg g)(hi:QF X ifs ti)(hm:wC X elt gens sc pos (d+1) tm)
  (j:∀x,foldedSetIterable iter X.env x=pure x:=by intro _;rfl):wC X elt gens sc pos d (eC wi g ti tm):=by
 intro pins s σ H D Q k Q' E I h l;unfold Wm;rw[c];refine cq (YN b (qc (hw pins s σ H _ I h) λv s1 r=>?_));refine cq (wpAny_standAt (cq (wpAny_of_eq (j v) ?_)));refine cq (wpAny_holding (YN b (qc r λi s2 p=>?_)));obtain⟨it,fp,z,J,A,e,u,T,Zd,f2,q⟩:=p;subst e;refine cq (wpAny_runOwn (Lf b n c o t hi hm T u Zd f2 q λs' a y w f=>?_));exact l s' a y w f
end
noncomputable def Zt (nl:Nat)(cap:bY)(σ:St):St:=List.replicate nl none++cap.map λi=>(σ[i]?).join
noncomputable def Qv (M N:bZ)(scope:Scope)(nl:Nat)(cap:bY):Bool:=
 N.length==nl+cap.length&&(List.range cap.length).all λk=>match N[nl+k]?,M[cap.getD k 0]? with
  |some x,some y=>x==y&&scope.names.any λz=>z.1==x&&z.2==NameKind.free|_,_=>false
def DB {M:bZ}{nl:Nat}(h:Qv M N scope nl cap=true):(Zt nl cap σ).length=N.length/\
  ∀(j:Nat)(x:Str)(v:V),N[j]? =some x->(Zt nl cap σ)[j]? =some (some v)->(x,NameKind.free)∈scope.names/\∃i:Nat,M[i]? =some x/\σ[i]? =some (some v):=by
 unfold Qv at h;rw[ak,aN]at h;obtain⟨n,l⟩:=h;refine⟨by unfold Zt;simp[n],λj x v r E=>?_⟩
 unfold Zt at E
 by_cases b:j<nl
 ·rw[ao (by simpa using b),bF]at E
  split at E<;>cases E
 ·rw[ay (by simpa using b),bK,ax]at E
  cases c:cap[j-nl]? with
  |none=>rw[c]at E;cases E|some i=>
   rw[c]at E;have e:(σ[i]?).join=some v:=aC E;have k:j-nl<cap.length:=(cx.mp c).1;have H:=cB.mp l (j-nl) (cz.mpr k);have p:nl+(j-nl)=j:=by omega
   rw[p,r]at H;have q:cap.getD (j-nl) 0=i:=by rw[ae,c];rfl
   rw[q]at H;cases hm:M[i]? with
   |none=>rw[hm]at H;cases H|some y=>
    rw[hm]at H;rw[ak,aN]at H;obtain⟨g,f⟩:=H;subst g;obtain⟨z,d,a⟩:=List.any_eq_true.mp f;rw[ak,aN,aN]at a;refine⟨?_,i,hm,?_⟩
    ·obtain⟨t,Z⟩:=z
     obtain⟨a1,a2⟩:=a;cases a1;cases a2;exact d
    ·cases s:σ[i]? with
     |none=>rw[s]at e;cases e|some o=>rw[s]at e;cases o with
      |none=>cases e|some w=>cases e;rfl
noncomputable abbrev yb:Value->Shared->Prop:=λ_ _=>False
def GZ (K:Frag)(wi:TI)(g:TG)(ti:TT)(tm:gq)(nl:Nat)(cap:bY):TE:=λσ H Q=>wi σ H λJ h=>∀D,h D=none->K.lookup D=none->YU J g ti tm D (Zt nl cap σ) (upd h D (.lst [])) λ_ a=>Q (.ref D) a
section
variable {wi:TI}{g:TG}{ti:TT}{tm:gq}{nl:Nat}
def Uk (hc:X.calm=true)(S:Zm X sc)(r:Qv X.N N sc nl cap=true)(ha:∀g',gs[0]? =some g'->g'.is_async=0)(hw:PI X tg iter wi)
  
  (Z:∀s H fp,Inv X pins σ H s->(∀b∈fp,wc X pins H b)->PG (jB X N sc s H fp yb) tg g/\QF (jB X N sc s H fp yb) ifs ti/\wC (jB X N sc s H fp yb) elt (⟨tg,iter,ifs,0⟩::gs) sc pos 0 tm)
  {Q:VK}(I:Inv X pins σ H s)(h:GZ X.K wi g ti tm nl cap σ H Q)
  {use:Option (Value->Sem Unit)}{Q':b8}
  (n:∀(D C:Addr)(s':Shared)(l:Hp)(m:cc),Inv X pins σ l s'->Q (.ref D) l->s'.heap.Ns C m->l C=none->C≠X.env.locals->X.s0.heap.objs.size<=C->(∀x c,X.env.cells.lookup x=some c->c≠C)->(∀q∈X.pn++pins,q.1≠C)->
   compPost (model X.prog X.w) X.A X.xe use Q' (.ref D) C (.ok .next) s')
  (hs:∀x,foldedSetIterable iter X.env x=pure x:=by intro _;rfl):
  wpAny (model X.prog X.w) X.A (comprehension (.ListComp elt (⟨tg,iter,ifs,0⟩::gs) sc pos) sc X.env p (newList []) false (eval iter X.env) use) Q' X.xe s:=by
 have j:∀y∈sc.names,y.2=.free->∃c,X.env.cells.lookup y.1=some c:=λy U e=>I.ok.has _ (S.free y U e);refine wpAny_comprehension_free (use:=use) rfl hs (PJ j) S.kind (λy U e=>by
  obtain⟨y1,y2⟩:=y;have e':y2=.local:=e;subst e';exact Yn S.nd U) ?_
 refine qc (hw pins s σ H _ I h) λv s1 h1=>qc h1 λitv s2 h2=>?_;obtain⟨it,fp,tn,J,L,e,I2,T,Zd,f2,q2⟩:=h2;subst e;refine wpAny_newObj_type ?_;have hD:L s2.heap.objs.size=none:=I2.fresh;have hKD:X.K.lookup s2.heap.objs.size=none:=by
  cases ek:X.K.lookup s2.heap.objs.size with
  |none=>rfl|some o=>exact absurd (aF (I2.kIn _ _ ek)) (aT _)
 have P:=q2 _ hD hKD;generalize Y:({ s2 with heap:=s2.heap.push { cls:=.type "list",data:=.seq ([]:bV).toArray } }:Shared)=s3
 have f:s3={ s2 with heap:=s2.heap.push { cls:=.type "list",data:=.seq ([]:bV).toArray } }:=Y.symm
 have i:Inv X pins σ (upd L s2.heap.objs.size (.lst [])) s3:=by
  rw[f];exact I2.laid (t':=s2.toks) (λb u e=>af _ e) (ar _) ⟨by simp,[],0,.nil,av _ rfl⟩
 have t:∀b∈fp,∃o,s2.heap.get? b=some o:=λb a=>let ⟨o,e,_⟩:=T.obj 0 _ Zd b a;⟨o,e⟩
 have M:s3.heap.objs.size=s2.heap.objs.size+1:=by rw[f];exact bg ..
 have Zy:tn 0 s3.heap:=T.keep _ _ _ Zd λb a o e=>by rw[f];exact af _ e
 have B:∀b∈fp,b<s3.heap.objs.size:=λb a=>by
  obtain⟨o,e⟩:=t b a;rw[M];exact a6 (aF e)
 have E:∀b∈fp,wc X pins (upd L s2.heap.objs.size (.lst [])) b:=λb a=>by
  obtain⟨o,e⟩:=t b a;refine⟨?_,(f2 b a).2⟩;rw[qI (aI (aF e))];exact(f2 b a).1
 generalize upd L s2.heap.objs.size (.lst [])=H3 at i E P;generalize s2.heap.objs.size=D at P ⊢;refine IE ?_;obtain⟨cl,cs⟩:=DB r (σ:=σ);have I4:=DX (xe:=yb) i S E B cl cs;obtain⟨hgt,hi,hm⟩:=Z s3 H3 fp i E;refine Lf (X:=jB X N sc s3 H3 fp yb) (gens:=⟨tg,iter,ifs,0⟩::gs) (d:=0) (λ_ _ z=>z) hc rfl ha hgt hi hm T I4 (T.keep _ _ _ Zy λb a o e=>pushCells_keeps _ _ _ _ (af _ e)) (λb a=>?_) P λs' σ' l k q'=>?_
 ·obtain⟨g1,g2,g3,g4,g5,g6⟩:=E b a
  refine⟨g1,aI (B b a),λz=>?_,.inl a,(I4.ok.exf b a).2,λp hp=>absurd (show p∈([]:bX) from hp) (by simp)⟩
  rcases cw.mp (i.stkSub b z) with e|e
  ·exact g2 e
  ·exact g3 e
 ·have I5:Inv X pins σ l s':=i.call' k.os k.base k.hok k.bare λb a=>by
   obtain⟨g1,g2,g3,g4,g5,g6⟩:=E b a;exact⟨g4,g2,g5,g6⟩
  obtain⟨m,hn,_⟩:=k.loc;refine n D _ s' l m I5 q' hn k.free (br i.lt) i.sz (λx c e z=>?_) λq hq z=>?_
  ·obtain⟨v,w⟩:=i.cell x c e
   exact aT _ (aD w.lt (by rw[z];exact ar _))
  ·exact aT _ (aD (aF (i.pin q hq).1) (by rw[z];exact ar _))
def AJ (d:X.calm=true)(S:Zm X sc)(p:Qv X.N N sc nl cap=true)(i:∀g',gs[0]? =some g'->g'.is_async=0)(hw:PI X tg iter wi)
  (n:∀s H fp,PG (jB X N sc s H fp yb) tg g/\QF (jB X N sc s H fp yb) ifs ti/\wC (jB X N sc s H fp yb) elt (⟨tg,iter,ifs,0⟩::gs) sc pos 0 tm)
  (c:∀x,foldedSetIterable iter X.env x=pure x:=by intro _;rfl):PE X (.ListComp elt (⟨tg,iter,ifs,0⟩::gs) sc pos) (GZ X.K wi g ti tm nl cap):=by
 intro pins s σ H Q I h;rw[eval_ListComp];refine Uk (use:=none) d S p i hw (λs H fp _ _=>n s H fp) I h (λD C s' v m u q hn t r l k j=>?_) c;exact⟨m,hn,λh' a=>⟨.ref D,v,u.turned (t':=s'.toks) (λb o f e=>(a.2 b f).trans e) t r (.inr l) k j,rfl,q⟩⟩
def FI {p:Pos}{c:Pos}(P:X.N.Nodup)(j:X.N[i]? =some x)(l:X.env.scope.names.lookup x=some .local)
  (w:swapsWith (.ListComp elt (⟨tg,iter,ifs,0⟩::gs) sc pos) (some (.Name x p)) c.line X.env=pure true)
  (J:X.calm=true)(S:Zm X sc)(d:Qv X.N N sc nl cap=true)(M:∀g',gs[0]? =some g'->g'.is_async=0)(hw:PI X tg iter wi)
  (n:∀s H fp,PG (jB X N sc s H fp yb) tg g/\QF (jB X N sc s H fp yb) ifs ti/\wC (jB X N sc s H fp yb) elt (⟨tg,iter,ifs,0⟩::gs) sc pos 0 tm)
  (B:∀x,foldedSetIterable iter X.env x=pure x:=by intro _;rfl):PS X (.Assign [.Name x p] (.ListComp elt (⟨tg,iter,ifs,0⟩::gs) sc pos) c) (Xc (GZ X.K wi g ti tm nl cap) (G0 i)):=by
 intro pins s σ H D I h;rw[exec_Assign_Name_used _ _ _ _ w];refine cq (wpAny_standAt (cq ?_));show wpAny _ X.A (do let _ <- comprehension (.ListComp elt (⟨tg,iter,ifs,0⟩::gs) sc pos) sc X.env _ (newList []) false (eval iter X.env) (some (assign (.Name x p) X.env))) _ _ s
 refine cq (wpAny_mono (Uk (use:=some (assign (.Name x p) X.env)) (Q':=λ_ s'=>SP X pins D .next s') J S d M hw (λs H fp _ _=>n s H fp) I h (λu C s' H' m I' q hn U t T r Q=>?_) B) (λ_ s' E=>cu (cu E)) λ_ _ e=>e);show wpAny _ X.A (assign (.Name x p) X.env (.ref u)) _ _ _;refine wpAny_assign_Name (Oa I' P j (.inl l) (v:=.ref u) rfl (λs2 Z ⟨a,y,Y⟩=>?_) (.inr l));have k:C≠a:=by
  rcases Y with e|e
  ·rw[e];exact t
  ·exactλz=>r x a e z.symm
 refine⟨m,hn.sameBut y k,λh' f=>⟨_,H',Z.turned (t':=s2.toks) (λb o L e=>(f.2 b L).trans e) U t (.inr T) r Q,q⟩⟩
end
end L2
namespace Mi
open PySem PySem.Spec PyProof.Rows L2
inductive W where
 |non|bl (b:Bool)|int (i:Int)|str (x:Str)|tup (xs:List W)|ref (n:Nat)
 |clo (k:Nat) (xs:List W) (P:Obj->Addr->Obj->List V->Prop)
 |xc (x:Str)
inductive O where
 |lst (xs:List W)|ro (xs:List W)|dct (kvs:List (Key×W))
 |tab (q:Str) (P:Addr)
noncomputable def O.mut:O->Bool
 |.ro _=>false|_=>true
noncomputable abbrev Hx:=List O
noncomputable abbrev En:=List (Option W)
inductive R (α:Type) where
 |ok (a:α) (A:Hx)|exc (x:Str) (A:Hx)|bad
noncomputable def R.bind {β:Type}(r:R α)(f:α->Hx->R β):R β:=match r with
 |.ok a A=>f a A|.exc x A=>.exc x A|.bad=>.bad
def R.post (r:R α)(P:α->Hx->Prop)(E:Str->Hx->Prop):Prop:=match r with
 |.ok a A=>P a A|.exc x A=>E x A|.bad=>False
noncomputable def R.nox (r:R α):R α:=match r with
 |.ok a A=>.ok a A|.exc _ _=>.bad|.bad=>.bad
section
variable {β:Type}{r:R α}{f:α->Hx->R β}{P Q:α->Hx->Prop}{P':β->Hx->Prop}{E F:Str->Hx->Prop}
def zL {a:α}{A:Hx}:(R.ok a A).bind f=f a A:=rfl
def OI {A:Hx}:(R.exc x A:R α).bind f=.exc x A:=rfl
def qd:(r.bind f).post P' E↔r.post (λa A=>(f a A).post P' E) E:=by cases r<;>exact Iff.rfl
def qL (h:r.post P E)(H:∀a A,P a A->Q a A)(b:∀x A,E x A->F x A):r.post Q F:=by
 cases r with
 |ok a A=>exact H _ _ h|exc x A=>exact b _ _ h|bad=>exact h
end
abbrev Ev:=En->Hx->R W
inductive zdE (K:Frag)(H:Hp)(R:List V->Prop)(v:V):Prop
 |mk (a:Addr) (vs:List V) (e:v=.ref a) (h:qQ K H a vs) (r:R vs)
inductive zdI (H:Hp)(P:Obj->Addr->Obj->List V->Prop)(R:List V->Prop)(v:V):Prop
 |mk (a:Addr) (ob:Obj) (u:HO) (c:Addr) (oc:Obj) (uc:HO) (vs:List V) (e:v=.ref a) (h1:H a=some (.frz ob u)) (h2:H c=some (.frz oc uc)) (p:P ob c oc vs) (r:R vs)
inductive zds (R:V->Prop)(Rs:List V->Prop)(vs:List V):Prop
 |mk (v:V) (r:List V) (e:vs=v::r) (h:R v) (t:Rs r)
mutual
noncomputable def RV (K:Frag)(φ:bW)(H:Hp):W->V->Prop
 |.non,v=>v=.non|.bl b,v=>v=.bl b|.int i,v=>v=.int i|.str x,v=>v=.str x|.tup ws,v=>zdE K H (zE K φ H ws) v|.ref n,v=>∃a,v=.ref a/\φ[n]? =some a|.clo _ ws P,v=>zdI H P (zE K φ H ws) v|.xc x,v=>∃a o u C,v=.ref a/\H a=some (.frz o u)/\o.cls=.ref C/\nsIn K mainGlobals x=some (some (.ref C))
noncomputable def zE (K:Frag)(φ:bW)(H:Hp):List W->List V->Prop
 |[],vs=>vs=[]|w::ws,vs=>zds (RV K φ H w) (zE K φ H ws) vs
end
structure Le (K:Frag)(φ:bW)(H:Hp)(φ':bW)(H':Hp):Prop where
 ex:∀(n:Nat)(a:Addr),φ[n]? =some a->φ'[n]? =some a
 tp:∀a vs,qQ K H a vs->qQ K H' a vs
 fr:∀a o,H a=some o->(∀n:Nat,φ[n]?≠some a)->H' a=some o
 nw:∀(n:Nat)(a:Addr),φ'[n]? =some a->φ[n]? =some a∨H a=none
 st:∀a,H' a=none->H a=none
 fz:∀a o u,H a=some (.frz o u)->H' a=some (.frz o u)
def Le.refl {K φ H}:Le K φ H φ H:=⟨λ_ _ h=>h,λ_ _ h=>h,λ_ _ h _=>h,λ_ _ h=>.inl h,λ_ h=>h,λ_ _ _ h=>h⟩
def Le.trans {K φ H φ1 H1 φ2 H2}(a:Le K φ H φ1 H1)(b:Le K φ1 H1 φ2 H2):Le K φ H φ2 H2 where
 ex:=λn x h=>b.ex n x (a.ex n x h)
 tp:=λn x h=>b.tp n x (a.tp n x h)
 fr:=λc o h n=>b.fr c o (a.fr c o h n) λk e=>by
  rcases a.nw k c e with e|e
  ·exact n k e
  ·rw[h]at e;cases e
 nw:=λn c e=>by
  rcases b.nw n c e with e|e
  ·exact a.nw n c e
  ·exact .inr (a.st c e)
 st:=λc e=>a.st c (b.st c e)
 fz:=λc o u h=>b.fz c o u (a.fz c o u h)
def Le.off {K φ H φ' H'}(l:Le K φ H φ' H'){o:HO}(h:H D=some o)(n:∀k:Nat,φ[k]?≠some D):H' D=some o/\∀k:Nat,φ'[k]?≠some D:=
 ⟨l.fr D o h n,λk e=>by
  rcases l.nw k D e with e|e
  ·exact n k e
  ·rw[h]at e;cases e⟩
section
variable {K:Frag}{φ':bW}{H':Hp}
structure ZD (K:Frag)(φ:bW)(H:Hp)(φ':bW)(H':Hp):Prop where
 ex:∀(n:Nat)(a:Addr),φ[n]? =some a->φ'[n]? =some a
 tp:∀a vs,qQ K H a vs->qQ K H' a vs
 fz:∀a o u,H a=some (.frz o u)->H' a=some (.frz o u)
mutual
theorem RV.monoW (l:ZD K φ H φ' H'):∀{w:W}{v:V},RV K φ H w v->RV K φ' H' w v
 |.non,_,h=>h|.bl _,_,h=>h|.int _,_,h=>h|.str _,_,h=>h|.tup ws,_,⟨a,vs,e,t,r⟩=>⟨a,vs,e,l.tp _ _ t,zE.monoW l r⟩|.ref n,_,⟨a,e,f⟩=>⟨a,e,l.ex _ _ f⟩|.clo _ ws P,_,⟨a,ob,u,c,g,uc,vs,e,d,b,i,r⟩=>⟨a,ob,u,c,g,uc,vs,e,l.fz _ _ _ d,l.fz _ _ _ b,i,zE.monoW l r⟩|.xc x,_,⟨a,o,u,C,e,d,b⟩=>⟨a,o,u,C,e,l.fz _ _ _ d,b⟩
theorem zE.monoW (l:ZD K φ H φ' H'):∀{ws:List W}{vs:List V},zE K φ H ws vs->zE K φ' H' ws vs
 |[],_,h=>h|w::ws,_,⟨v,r,e,h,t⟩=>⟨v,r,e,RV.monoW l h,zE.monoW l t⟩
end
def RV.mono {w:W}(h:RV K φ H w v)(l:Le K φ H φ' H'):RV K φ' H' w v:=RV.monoW ⟨l.ex,l.tp,l.fz⟩ h
def zE.mono {w:List W}{v:List V}(h:zE K φ H w v)(l:Le K φ H φ' H'):zE K φ' H' w v:=zE.monoW ⟨l.ex,l.tp,l.fz⟩ h
structure yO (K:Frag)(D:Addr)(φ:bW)(H:Hp)(φ':bW)(H':Hp):Prop where
 ex:∀(n:Nat)(a:Addr),φ[n]? =some a->φ'[n]? =some a
 tp:∀a vs,qQ K H a vs->qQ K H' a vs
 fr:∀a o,a≠D->H a=some o->(∀n:Nat,φ[n]?≠some a)->H' a=some o
 nw:∀(n:Nat)(a:Addr),φ'[n]? =some a->φ[n]? =some a∨H a=none
 st:∀a,H' a=none->H a=none
 fz:∀a o u,H a=some (.frz o u)->H' a=some (.frz o u)
def yO.refl {D}:yO K D φ H φ H:=⟨λ_ _ h=>h,λ_ _ h=>h,λ_ _ _ h _=>h,λ_ _ h=>.inl h,λ_ h=>h,λ_ _ _ h=>h⟩
def Le.toD {D}(l:Le K φ H φ' H'):yO K D φ H φ' H':=⟨l.ex,l.tp,λa o _ h n=>l.fr a o h n,l.nw,l.st,l.fz⟩
def yO.trans {D φ1 H1 φ2 H2}(a:yO K D φ H φ1 H1)(b:yO K D φ1 H1 φ2 H2):yO K D φ H φ2 H2 where
 ex:=λn x h=>b.ex n x (a.ex n x h)
 tp:=λn x h=>b.tp n x (a.tp n x h)
 fr:=λc o ne h n=>b.fr c o ne (a.fr c o ne h n) λk e=>by
  rcases a.nw k c e with e|e
  ·exact n k e
  ·rw[h]at e;cases e
 nw:=λn c e=>by
  rcases b.nw n c e with e|e
  ·exact a.nw n c e
  ·exact .inr (a.st c e)
 st:=λc e=>a.st c (b.st c e)
 fz:=λc o u h=>b.fz c o u (a.fz c o u h)
def RV.monoD {D}{w:W}(h:RV K φ H w v)(l:yO K D φ H φ' H'):RV K φ' H' w v:=RV.monoW ⟨l.ex,l.tp,l.fz⟩ h
def zE.monoD {D}{w:List W}{v:List V}(h:zE K φ H w v)(l:yO K D φ H φ' H'):zE K φ' H' w v:=zE.monoW ⟨l.ex,l.tp,l.fz⟩ h
theorem zE.length:∀{ws:List W}{vs:List V},zE K φ H ws vs->ws.length=vs.length
 |[],_,h=>by cases h;rfl|w::ws,_,⟨v,r,e,_,t⟩=>by subst e;simp[zE.length t]
theorem zE.get:∀{ws:List W}{vs:List V}{i:Nat}{w:W},zE K φ H ws vs->ws[i]? =some w->∃v,vs[i]? =some v/\RV K φ H w v
 |[],_,_,_,_,e=>by simp at e|w::ws,_,0,_,⟨v,r,e,h,t⟩,q=>by subst e;simp at q;subst q;exact⟨v,by simp,h⟩|w::ws,_,i+1,x,⟨v,r,e,h,t⟩,q=>by
  subst e;obtain⟨y,b,a⟩:=zE.get (i:=i) (w:=x) t (by simpa using q)
  exact⟨y,by simpa using b,a⟩
theorem zE.append:∀{ws us:List W}{vs xs:List V},zE K φ H ws vs->zE K φ H us xs->zE K φ H (ws++us) (vs++xs)
 |[],_,_,_,h,t=>by cases h;exact t|w::ws,_,_,_,⟨v,r,e,h,t⟩,T=>by subst e;exact⟨v,r++_,rfl,h,zE.append t T⟩
def zE.one {w:W}(h:RV K φ H w v):zE K φ H [w] [v]:=⟨v,[],rfl,h,rfl⟩
def zE.nil:zE K φ H [] []:=rfl
def zE.cons {w:W}{ws:List W}{vs:List V}(h:RV K φ H w v)(t:zE K φ H ws vs):zE K φ H (w::ws) (v::vs):=⟨v,vs,rfl,h,t⟩
theorem zE.set {w:W}(q:RV K φ H w v):∀{ws:List W}{vs:List V}(i:Nat),zE K φ H ws vs->zE K φ H (ws.set i w) (vs.set i v)
 |[],_,_,h=>by cases h;exact rfl|_::_,_,0,⟨a,r,e,h,t⟩=>by subst e;exact⟨v,r,rfl,q,t⟩|_::_,_,i+1,⟨a,r,e,h,t⟩=>by subst e;exact⟨a,_,rfl,h,zE.set q i t⟩
theorem zE.drop:∀{ws:List W}{vs:List V}(n:Nat),zE K φ H ws vs->zE K φ H (ws.drop n) (vs.drop n)
 |[],_,n,h=>by cases h;rw[List.drop_nil,List.drop_nil];exact zE.nil|_::_,_,0,h=>by simpa using h|_::_,_,n+1,⟨v,r,e,h,t⟩=>by subst e;simpa using zE.drop n t
theorem zE.take:∀{ws:List W}{vs:List V}(n:Nat),zE K φ H ws vs->zE K φ H (ws.take n) (vs.take n)
 |[],_,n,h=>by cases h;rw[List.take_nil,List.take_nil];exact zE.nil|_::_,_,0,h=>by rw[take_zero,take_zero];exact zE.nil|_::_,_,n+1,⟨v,r,e,h,t⟩=>by subst e;exact⟨v,_,rfl,h,zE.take n t⟩
theorem zE.erase:∀{ws:List W}{vs:List V}(n:Nat),zE K φ H ws vs->zE K φ H (ws.eraseIdx n) (vs.eraseIdx n)
 |[],_,n,h=>by cases h;rw[List.eraseIdx_nil,List.eraseIdx_nil];exact zE.nil|_::_,_,0,⟨v,r,e,h,t⟩=>by subst e;simpa using t|_::_,_,n+1,⟨v,r,e,h,t⟩=>by subst e;exact⟨v,_,rfl,h,zE.erase n t⟩
theorem zE.ints:∀{ns:bU}{vs:List V},zE K φ H (ns.map W.int) vs↔vs=ns.map V.int
 |[],vs=>Iff.rfl|n::ns,vs=>by
  constructor
  ·rintro⟨v,r,e,h,t⟩
   rw[e,(show v=V.int n from h),zE.ints.mp t];rfl
  ·intro e
   exact⟨V.int n,ns.map V.int,e,rfl,zE.ints.mpr rfl⟩
def Y9 (K:Frag)(H:Hp)(a:Addr)(xs:List V):Prop:=
 (∃ob,H a=some (.frz ob (.lst xs)))∨
  ∃(o:Obj) (its:Array Value) (n:Nat),K.lookup a=some o/\o.cls=.type "list" /\ o.dict=none/\o.data=.seq its n/\its.size<=sizeLine/\Vals xs its.toList
def Y9.sq (h:Y9 K H a xs):jj K H a xs:=by
 rcases h with h|h
 ·exact .inl (.inr h)
 ·exact .inr h
inductive TabAt (H:Hp)(q:Str)(cv:Value):Prop
 |mk (c:Addr) (oc:Obj) (u:HO) (vs:Array Value) (t:Tok) (e:cv=.ref c) (h:H c=some (.frz oc u)) (d:oc.data=.fields vs/\vs[1]? =some (.str q t))
def Wo (H:Hp)(q:Str)(ps:Array Value):Prop:=TriplesOk ps.toList/\∀pos cv,codeAmong pos ps.toList=some cv->TabAt H q cv
def Wo.mono {q:Str}{ps:Array Value}(h:Wo H q ps)(l:∀a o u,H a=some (.frz o u)->H' a=some (.frz o u)):Wo H' q ps:=
 ⟨h.1,λpos cv e=>by obtain⟨c,b,u,vs,t,g,f,d⟩:=h.2 pos cv e;exact⟨c,b,u,vs,t,g,l _ _ _ f,d⟩⟩
def OR (K:Frag)(φ:bW)(H:Hp)(a:Addr):O->Prop
 |.lst ws=>∃vs,H a=some (.lst vs)/\zE K φ H ws vs|.ro ws=>∃vs,Y9 K H a vs/\zE K φ H ws vs|.dct k=>∃us,H a=some (.dK us)/\us.map (·.1)=k.map (·.1)/\zE K φ H (k.map (·.2)) (us.map (·.2))|.tab q P=>a=P/\∃ps,H a=some (.tbl ps)/\Wo H q ps
structure zS (K:Frag)(φ:bW)(A:Hx)(H:Hp):Prop where
 len:φ.length=A.length
 inj:∀(i j:Nat)(a:Addr)(o o':O),φ[i]? =some a->φ[j]? =some a->A[i]? =some o->A[j]? =some o'->o.mut=true->o'.mut=true->i=j
 ob:∀(n:Nat)(o:O),A[n]? =some o->∃a,φ[n]? =some a/\OR K φ H a o
variable {A:Hx}
def OR.there {o:O}(h:OR K φ H a o)(m:o.mut=true):∃u,H a=some u/\(∀xs,u≠.tup xs)/\(∀ob v,u≠.frz ob v):=by
 cases o with
 |lst ws=>obtain⟨vs,e,_⟩:=h;exact⟨_,e,λ_ z=>(by cases z),λ_ _ z=>(by cases z)⟩|ro ws=>cases m|dct k=>obtain⟨vs,e,_⟩:=h;exact⟨_,e,λ_ z=>(by cases z),λ_ _ z=>(by cases z)⟩|tab q P=>obtain⟨_,vs,e,_⟩:=h;exact⟨_,e,λ_ z=>(by cases z),λ_ _ z=>(by cases z)⟩
def V4 {o:HO}{vs:List V}(h:qQ K H a vs)(n:∀xs,H b≠some (.tup xs))(N:∀ob u,H b≠some (.frz ob u)):qQ K (upd H b o) a vs:=by
 rcases h with (h|⟨ob,h⟩)|h
 ·exact .inl (.inl (by rw[qI];exact h;intro e;subst e;exact n _ h))
 ·exact .inl (.inr ⟨ob,by rw[qI];exact h;intro e;subst e;exact N _ _ h⟩)
 ·exact .inr h
theorem Le.upd {o:HO}(c:φ[k]? =some b)(n:∀xs,H b≠some (.tup xs))(N:∀ob u,H b≠some (.frz ob u)):Le K φ H φ (upd H b o) where
 ex:=λ_ _ h=>h
 tp:=λ_ _ h=>V4 h n N
 fr:=λa u h z=>by
  rw[qI];exact h;intro e;subst e;exact z k c
 nw:=λ_ _ h=>.inl h
 st:=λa h=>by
  by_cases e:a=b
  ·subst e;rw[jS]at h;cases h
  ·rw[qI e]at h;exact h
 fz:=λa ob u h=>by
  rw[qI];exact h;intro e;subst e;exact N _ _ h
def Le.new {p:Addr}{o:HO}(b:H p=none):Le K φ H φ (L2.upd H p o) where
 ex:=λ_ _ h=>h
 tp:=λ_ _ h=>V4 h (λxs z=>by rw[b]at z;cases z) (λ_ _ z=>by rw[b]at z;cases z)
 fr:=λa u h z=>by
  rw[qI];exact h;intro e;subst e;rw[b]at h;cases h
 nw:=λ_ _ h=>.inl h
 st:=λa h=>by
  by_cases e:a=p
  ·subst e;rw[jS]at h;cases h
  ·rw[qI e]at h;exact h
 fz:=λa ob u h=>by
  rw[qI];exact h;intro e;subst e;rw[b]at h;cases h
def Le.alloc {p:Addr}{o:HO}(b:H p=none):Le K φ H (φ++[p]) (L2.upd H p o) where
 ex:=λn a h=>by
  have:=(cx.mp h).1
  rw[ao this];exact h
 tp:=(Le.new (φ:=φ) b).tp
 fr:=(Le.new (K:=K) (φ:=φ) b).fr
 nw:=λn a h=>by
  by_cases hn:n < φ.length
  ·rw[ao hn]at h;exact .inl h
  ·rw[ay (by omega)]at h
   have e:a=p:=by
    have:=mem_of_getElem? h
    simpa using this
   subst e;exact .inr b
 st:=(Le.new (K:=K) (φ:=φ) b).st
 fz:=(Le.new (K:=K) (φ:=φ) b).fz
def Le.ofD {o:HO}(b:H D=none)(l:yO K D φ (L2.upd H D o) φ' H'):Le K φ H φ' H' where
 ex:=l.ex
 tp:=λa vs h=>l.tp a vs ((Le.new (K:=K) (φ:=φ) b).tp a vs h)
 fr:=λa u h n=>by
  have ne:a≠D:=by rintro rfl;rw[b]at h;cases h
  exact l.fr a u ne (by rw[qI ne];exact h) n
 nw:=λn a e=>by
  rcases l.nw n a e with e|e
  ·exact .inl e
  ·by_cases h:a=D
   ·subst h;rw[jS]at e;cases e
   ·rw[qI h]at e;exact .inr e
 st:=λa e=>by
  have E:=l.st a e
  by_cases h:a=D
  ·subst h;rw[jS]at E;cases E
  ·rw[qI h]at E;exact E
 fz:=λa ob u h=>l.fz a ob u (by rw[qI];exact h;rintro rfl;rw[b]at h;cases h)
theorem yO.upd {o:HO}(b:H D=some (.lst xs)):yO K D φ H φ (L2.upd H D o) where
 ex:=λ_ _ h=>h
 tp:=λa vs h=>V4 h (λxs z=>by rw[b]at z;cases z) (λ_ _ z=>by rw[b]at z;cases z)
 fr:=λa u ne h n=>by rw[qI ne];exact h
 nw:=λ_ _ h=>.inl h
 st:=λa e=>by
  by_cases h:a=D
  ·subst h;rw[jS]at e;cases e
  ·rw[qI h]at e;exact e
 fz:=λa ob u h=>by
  rw[qI];exact h;intro e;subst e;rw[b]at h;cases h
def OR.keep {o:O}(h:OR K φ H a o)(l:Le K φ H φ' H')(e:∀u,H a=some u->H' a=some u):OR K φ' H' a o:=by
 cases o with
 |lst ws=>obtain⟨vs,q,r⟩:=h;exact⟨vs,e _ q,r.mono l⟩|dct s=>obtain⟨vs,q,k,r⟩:=h;exact⟨vs,e _ q,k,r.mono l⟩|tab q P=>obtain⟨k,ps,q,r⟩:=h;exact⟨k,ps,e _ q,r.mono l.fz⟩|ro ws=>
  obtain⟨vs,q,r⟩:=h;refine⟨vs,?_,r.mono l⟩;rcases q with ⟨ob,q⟩|q
  ·exact .inl ⟨ob,e _ q⟩
  ·exact .inr q
theorem zS.alloc {p:Addr}{u:HO}{o:O}(S:zS K φ A H)(k:H p=none)(new:OR K (φ++[p]) (L2.upd H p u) p o):Le K φ H (φ++[p]) (L2.upd H p u)/\zS K (φ++[p]) (A++[o]) (L2.upd H p u):=by
 have l:Le K φ H (φ++[p]) (L2.upd H p u):=Le.alloc k;have old:∀(i:Nat) a,(φ++[p])[i]? =some a->i<A.length->φ[i]? =some a:=λi a e hi=>by
  rw[ao (by rw[S.len];exact hi)]at e;exact e
 refine⟨l,by simp[S.len],λi j a w v g f d b m1 m2=>?_,λn o' e=>?_⟩
 ·by_cases hi:i<A.length
  ·by_cases c:j<A.length
   ·rw[ao hi]at d
    rw[ao c]at b;exact S.inj i j a w v (old i a g hi) (old j a f c) d b m1 m2
   ·exfalso
    rw[ao hi]at d;have s:j=A.length:=by have:=(cx.mp b).1;simp at this;omega
    subst s;rw[ay (by rw[S.len];exact ar _),S.len]at f
    simp at f;obtain⟨y,E,q⟩:=S.ob i w d;rw[old i a g hi]at E;cases E;obtain⟨z,h,_⟩:=q.there m1;rw[<- f,k]at h;cases h
  ·have t:i=A.length:=by have:=(cx.mp d).1;simp at this;omega
   by_cases c:j<A.length
   ·exfalso
    rw[ao c]at b;subst t;rw[ay (by rw[S.len];exact ar _),S.len]at g
    simp at g;obtain⟨y,E,q⟩:=S.ob j v b;rw[old j a f c]at E;cases E;obtain⟨z,h,_⟩:=q.there m2;rw[<- g,k]at h;cases h
   ·have:=(cx.mp b).1;simp at this;omega
 ·by_cases hn:n<A.length
  ·rw[ao hn]at e
   obtain⟨a,E,q⟩:=S.ob n o' e;refine⟨a,l.ex _ _ E,q.keep l λz h=>?_⟩;rw[qI];exact h;intro x;subst x;rw[k]at h;cases h
  ·have r:n=A.length:=by have:=(cx.mp e).1;simp at this;omega
   subst r;rw[ay (ar _)]at e;simp at e;subst e;exact⟨p,by rw[ay (by rw[S.len];exact ar _),S.len];simp,new⟩
def zS.write {p:Addr}{u:HO}{o o':O}(S:zS K φ A H)(hn:A[n]? =some o)(m:o.mut=true)(m':o'.mut=true)(c:φ[n]? =some p)(new:OR K φ (L2.upd H p u) p o'):
  Le K φ H φ (L2.upd H p u)/\zS K φ (A.set n o') (L2.upd H p u):=by
 obtain⟨P,e,q⟩:=S.ob n o hn;rw[c]at e;cases e;obtain⟨z,h,x,N⟩:=q.there m;have l:Le K φ H φ (L2.upd H p u):=Le.upd c (λxs e=>by rw[h]at e;exact x xs (aC e)) λob v e=>by rw[h]at e;exact N ob v (aC e)
 have mt:∀(i:Nat)(w:O),(A.set n o')[i]? =some w->w.mut=true->∃d,A[i]? =some d/\d.mut=true:=λi w e M=>by
  by_cases hi:i=n
  ·subst hi;exact⟨o,hn,m⟩
  ·rw[aG (Ne.symm hi)]at e;exact⟨w,e,M⟩
 refine⟨l,by simp[S.len],λi j a t s D C B y m1 m2=>?_,λi w e=>?_⟩
 ·obtain⟨g,E,k1⟩:=mt i t B m1
  obtain⟨f,I,k2⟩:=mt j s y m2;exact S.inj i j a g f D C E I k1 k2
 ·by_cases hi:i=n
  ·subst hi
   have:i<A.length:=(cx.mp hn).1
   rw[aH this]at e;cases e;exact⟨p,c,new⟩
  ·rw[aG (Ne.symm hi)]at e
   obtain⟨a,E,r⟩:=S.ob i w e;refine⟨a,E,?_⟩
   by_cases hm:w.mut=true
   ·have ne:a≠p:=λz=>hi (S.inj i n a w o E (by rw[z];exact c) e hn hm m)
    exact r.keep l λz h=>by rw[qI ne];exact h
   ·cases w with
    |lst _=>exact absurd rfl hm|dct _=>exact absurd rfl hm|tab _ _=>exact absurd rfl hm|ro ws=>
     obtain⟨vs,b,k⟩:=r;refine⟨vs,?_,k.mono l⟩;rcases b with ⟨ob,b⟩|b
     ·refine .inl ⟨ob,?_⟩
      rw[qI];exact b;intro z;subst z;rw[h]at b;exact N _ _ (aC b)
     ·exact .inr b
def zS.lay {p:Addr}{u:HO}(S:zS K φ A H)(b:H p=none):zS K φ A (L2.upd H p u):=
 ⟨S.len,S.inj,λn o e=>by
  obtain⟨a,c,q⟩:=S.ob n o e;refine⟨a,c,q.keep (Le.new b) λz h=>?_⟩;rw[qI];exact h;intro E;subst E;rw[b]at h;cases h⟩
def zS.off {o:HO}(S:zS K φ A H)(h:H D=some (.lst xs))(n:∀k:Nat,φ[k]?≠some D):zS K φ A (L2.upd H D o):=
 ⟨S.len,S.inj,λk u e=>by
  obtain⟨a,E,q⟩:=S.ob k u e;have ne:a≠D:=λz=>n k (by rw[<- z];exact E)
  have l:yO K D φ H φ (L2.upd H D o):=yO.upd h;refine⟨a,E,?_⟩;cases u with
  |lst ws=>obtain⟨vs,q,r⟩:=q;exact⟨vs,by rw[qI ne];exact q,r.monoD l⟩|dct s=>obtain⟨vs,q,k,r⟩:=q;exact⟨vs,by rw[qI ne];exact q,k,r.monoD l⟩|tab _ _=>obtain⟨k,vs,q,r⟩:=q;exact⟨k,vs,by rw[qI ne];exact q,r.mono l.fz⟩|ro ws=>
   obtain⟨vs,q,r⟩:=q;refine⟨vs,?_,r.monoD l⟩;rcases q with ⟨ob,q⟩|q
   ·exact .inl ⟨ob,by rw[qI ne];exact q⟩
   ·exact .inr q⟩
def zS.notin (S:zS K φ A H)(b:H D=none)(d:K.lookup D=none):∀k:Nat,φ[k]?≠some D:=λk e=>by
 have c:k<A.length:=by rw[<- S.len];exact(cx.mp e).1
 obtain⟨a,E,q⟩:=S.ob k A[k] (by simp[c])
 rw[e]at E;cases E;cases h:A[k] with
 |lst ws=>rw[h]at q;obtain⟨vs,z,_⟩:=q;rw[b]at z;cases z|dct ws=>rw[h]at q;obtain⟨vs,z,_⟩:=q;rw[b]at z;cases z|tab _ _=>rw[h]at q;obtain⟨_,vs,z,_⟩:=q;rw[b]at z;cases z|ro ws=>
  rw[h]at q;obtain⟨vs,z,_⟩:=q;rcases z with ⟨ob,z⟩|⟨o,i,n,z,_⟩
  ·rw[b]at z;cases z
  ·rw[d]at z;cases z
def zS.YX {u:HO}{o:O}(S:zS K φ A H)(x:H D=some u)(n:∀k:Nat,φ[k]?≠some D)(new:OR K (φ++[D]) H D o):zS K (φ++[D]) (A++[o]) H:=by
 have l:ZD K φ H (φ++[D]) H:=⟨λn a h=>by
  have:=(cx.mp h).1
  rw[ao this];exact h,λ_ _ h=>h,λ_ _ _ h=>h⟩
 have old:∀(i:Nat) a,(φ++[D])[i]? =some a->i<A.length->φ[i]? =some a:=λi a e hi=>by
  rw[ao (by rw[S.len];exact hi)]at e;exact e
 have last:∀a,(φ++[D])[A.length]? =some a->a=D:=λa e=>by
  rw[ay (by rw[S.len];exact ar _),S.len]at e
  simpa using e.symm
 refine⟨by simp[S.len],λi j a w v t s p c m1 m2=>?_,λk o' e=>?_⟩
 ·by_cases hi:i<A.length
  ·by_cases b:j<A.length
   ·rw[ao hi]at p
    rw[ao b]at c;exact S.inj i j a w v (old i a t hi) (old j a s b) p c m1 m2
   ·exfalso
    have f:j=A.length:=by have:=(cx.mp c).1;simp at this;omega
    subst f;exact n i (by rw[<- last a s];exact old i a t hi)
  ·have g:i=A.length:=by have:=(cx.mp p).1;simp at this;omega
   by_cases b:j<A.length
   ·exfalso
    subst g;exact n j (by rw[<- last a t];exact old j a s b)
   ·have:=(cx.mp c).1;simp at this;omega
 ·by_cases hn:k<A.length
  ·rw[ao hn]at e
   obtain⟨a,E,q⟩:=S.ob k o' e;refine⟨a,l.ex _ _ E,?_⟩;cases o' with
   |lst ws=>obtain⟨vs,z,r⟩:=q;exact⟨vs,z,r.monoW l⟩|dct ws=>obtain⟨vs,z,Z,r⟩:=q;exact⟨vs,z,Z,r.monoW l⟩|tab _ _=>exact q|ro ws=>obtain⟨vs,z,r⟩:=q;exact⟨vs,z,r.monoW l⟩
  ·have d:k=A.length:=by have:=(cx.mp e).1;simp at this;omega
   subst d;rw[ay (ar _)]at e;simp at e;subst e;exact⟨D,by rw[ay (by rw[S.len];exact ar _),S.len];simp,new⟩
def Le.YX {b:bW}{H0:Hp}(l:Le K b H0 φ H)(h0:H0 D=none):Le K b H0 (φ++[D]) H where
 ex:=λn a h=>by
  have h':=l.ex n a h
  have:=(cx.mp h').1
  rw[ao this];exact h'
 tp:=l.tp
 fr:=l.fr
 nw:=λn a e=>by
  by_cases hn:n < φ.length
  ·rw[ao hn]at e;exact l.nw n a e
  ·rw[ay (by omega)]at e
   have E:a=D:=by
    have:=mem_of_getElem? e
    simpa using this
   subst E;exact .inr h0
 st:=l.st
 fz:=l.fz
end
noncomputable abbrev St:=L2.St
abbrev XR:=Str->Hp->Prop
def PB (K:Frag)(φ:bW)(H:Hp)(Q:VK):W->Hx->Prop:=λw A=>∀a h v,Le K φ H a h->zS K a A h->RV K a h w v->Q v h
def eD (K:Frag)(φ:bW)(H:Hp)(Q:List V->Hp->Prop):List W->Hx->Prop:=λw A=>∀a h v,Le K φ H a h->zS K a A h->zE K a h w v->Q v h
noncomputable def EB (K:Frag)(φ:bW)(H:Hp)(X:XR):Str->Hx->Prop:=λx A=>∀a h,Le K φ H a h->zS K a A h->X x h
structure RE (K:Frag)(φ:bW)(H:Hp)(ρ:En)(σ:St):Prop where
 len:σ.length=ρ.length
 get:∀(i:Nat)(w:W),ρ[i]? =some (some w)->∃v,σ[i]? =some (some v)/\RV K φ H w v
section
variable {K:Frag}{φ1 φ':bW}{H1 H':Hp}{A:Hx}{ρ:En}{xr:XR}
theorem RE.mono (r:RE K φ H ρ σ)(l:Le K φ H φ' H'):RE K φ' H' ρ σ:=⟨r.len,λi w e=>let ⟨v,h1,h⟩:=r.get i w e;⟨v,h1,h.mono l⟩⟩
def PB.mono {Q:VK}{w:W}(h:PB K φ H Q w A)(l:Le K φ H φ1 H1):PB K φ1 H1 Q w A:=λa b v L=>h a b v (l.trans L)
def EB.mono (h:EB K φ H xr x A)(l:Le K φ H φ1 H1):EB K φ1 H1 xr x A:=λa b L=>h a b (l.trans L)
theorem RE.set {w:W}(r:RE K φ H ρ σ)(q:RV K φ H w v):RE K φ H (ρ.set i (some w)) (σ.set i (some v)):=
 ⟨by simp[r.len],λj u e=>by
  by_cases h:i=j
  ·subst h
   have hi:i < ρ.length:=by
    have:=(cx.mp e).1
    simpa using this
   rw[aH hi]at e;cases e;exact⟨v,by rw[aH (by rw[r.len];exact hi)],q⟩
  ·rw[aG h]at e
   obtain⟨x,b,a⟩:=r.get j u e;exact⟨x,by rw[aG h];exact b,a⟩⟩
end
inductive MM (K:Frag)(xr:XR)(m:Ev)(σ:St)(H:Hp)(Q:VK):Prop
 |mk (φ:bW) (A:Hx) (ρ:En) (S:zS K φ A H) (re:RE K φ H ρ σ) (h:(m ρ A).post (PB K φ H Q) (EB K φ H xr))
noncomputable def tM (K:Frag)(x:XR)(m:Ev):TE:=λσ H Q=>MM K x m σ H Q
inductive MT (K:Frag)(xr:XR)(m:Ev)(σ:St)(H:Hp)(Q:Bool->Hp->Prop):Prop
 |mk (φ:bW) (A:Hx) (ρ:En) (S:zS K φ A H) (re:RE K φ H ρ σ) (h:(m ρ A).post (λw A'=>∃b,w=.bl b/\∀φ' H',Le K φ H φ' H'->zS K φ' A' H'->Q b H') (EB K φ H xr))
noncomputable def tT (K:Frag)(x:XR)(m:Ev):TT:=λσ H Q=>MT K x m σ H Q
abbrev Ea:=En->Hx->R (List W)
inductive MA (K:Frag)(xr:XR)(m:Ea)(σ:St)(H:Hp)(Q:List V->Hp->Prop):Prop
 |mk (φ:bW) (A:Hx) (ρ:En) (S:zS K φ A H) (re:RE K φ H ρ σ) (h:(m ρ A).post (eD K φ H Q) (EB K φ H xr))
noncomputable def Xn (K:Frag)(x:XR)(m:Ea):TA:=λσ H Q=>MA K x m σ H Q
def SE (X:Cx)(x:XR)(e:Expr)(m:Ev):Prop:=PE X e (tM X.K x m)
def ST (X:Cx)(x:XR)(e:Expr)(m:Ev):Prop:=PT X e (tT X.K x m)
def SW (X:Cx)(x:XR)(e:Expr)(m:Ev):Prop:=PW X e (tT X.K x m)
def SA (X:Cx)(x:XR)(e:b9)(m:Ea):Prop:=PA X e (Xn X.K x m)
section
variable {xr:XR}{a b:Expr}{es:b9}{m ma mb mc:Ev}
def PE.imp {t t':TE}(h:PE X e t)(i:∀σ H Q,t' σ H Q->t σ H Q):PE X e t':=λpins s σ H Q I hw=>h pins s σ H Q I (i σ H Q hw)
def PT.imp {t t':TT}(h:PT X e t)(i:∀σ H Q,t' σ H Q->t σ H Q):PT X e t':=λpins s σ H Q I hw=>h pins s σ H Q I (i σ H Q hw)
def PW.imp {t t':TT}(h:PW X e t)(i:∀σ H Q,t' σ H Q->t σ H Q):PW X e t':=λw pins s σ H Q I hw=>h w pins s σ H Q I (i σ H Q hw)
def PA.imp {t t':TA}(h:PA X es t)(i:∀σ H Q,t' σ H Q->t σ H Q):PA X es t':=λp pins s σ H Q I hw=>h p pins s σ H Q I (i σ H Q hw)
def tM.go {K:Frag}{A:Hx}{ρ:En}{Q:VK}{G:W->Hx->Prop}(S:zS K φ A H)(r:RE K φ H ρ σ)(h:(m ρ A).post G (EB K φ H xr))
  (k:∀w A1 a H1 v,G w A1->Le K φ H a H1->zS K a A1 H1->RV K a H1 w v->Q v H1):tM K xr m σ H Q:=
 ⟨φ,A,ρ,S,r,qL h (λw A1 g a H1 v l s q=>k w A1 a H1 v g l s q) λ_ _ z=>z⟩
def Xn.go {K:Frag}{A:Hx}{ρ:En}{m:Ea}{Q:List V->Hp->Prop}{G:List W->Hx->Prop}(S:zS K φ A H)(r:RE K φ H ρ σ)(h:(m ρ A).post G (EB K φ H xr))
  (k:∀w A1 a H1 v,G w A1->Le K φ H a H1->zS K a A1 H1->zE K a H1 w v->Q v H1):Xn K xr m σ H Q:=
 ⟨φ,A,ρ,S,r,qL h (λw A1 g a H1 v l s q=>k w A1 a H1 v g l s q) λ_ _ z=>z⟩
def tT.go {K:Frag}{A:Hx}{ρ:En}{Q:Bool->Hp->Prop}{G:W->Hx->Prop}(S:zS K φ A H)(r:RE K φ H ρ σ)(h:(m ρ A).post G (EB K φ H xr))
  (k:∀w A1,G w A1->∃b,w=.bl b/\∀a H1,Le K φ H a H1->zS K a A1 H1->Q b H1):tT K xr m σ H Q:=
 ⟨φ,A,ρ,S,r,qL h (λw A1 g=>k w A1 g) λ_ _ z=>z⟩
noncomputable def qj (i:Nat):Ev:=λρ A=>match ρ[i]? with
 |some (some w)=>.ok w A|_=>.bad
noncomputable def zU (w:W):Ev:=λ_ A=>.ok w A
noncomputable def zj (g:W->W->Hx->R W)(a b:Ev):Ev:=λρ A=>(a ρ A).bind λx A1=>(b ρ A1).bind λy A2=>g x y A2
noncomputable def ju (g:W->Hx->R W)(a:Ev):Ev:=λρ A=>(a ρ A).bind λx A1=>g x A1
noncomputable abbrev gO:Str->Hx->Prop:=λ_ _=>False
def yZ (K:Frag)(r:R2)(g:W->W->Hx->R W):Prop:=∀φ A H x y u v Q,zS K φ A H->RV K φ H u x->RV K φ H v y->(g u v A).post (PB K φ H Q) gO->r x y H Q
def XH (K:Frag)(r:V->Hp->VK->Prop)(g:W->Hx->R W):Prop:=∀φ A H x u Q,zS K φ A H->RV K φ H u x->(g u A).post (PB K φ H Q) gO->r x H Q
def jh (r:R α):Prop:=∀x A,r≠.exc x A
def YG {r:R α}{P:α->Hx->Prop}{E:Str->Hx->Prop}(n:jh r)(h:r.post P E):r.post P gO:=by
 cases r with
 |ok a A=>exact h|exc x A=>exact absurd rfl (n x A)|bad=>exact h
def zj.read {g:W->W->Hx->R W}{r:R2}(hn:∀x y A,jh (g x y A))(e:yZ X.K r g):∀σ H Q,tM X.K xr (zj g ma mb) σ H Q->Wv r (tM X.K xr ma) (tM X.K xr mb) σ H Q:=by
 rintro σ H Q ⟨φ,A,ρ,S,re,h⟩
 refine tM.go S re (qd.mp h) λw A1 b H1 v i l j d=>?_;refine tM.go j (re.mono l) (qL (qd.mp i) (λ_ _ z=>z) λ_ _ z=>z.mono l) λc A2 a k v2 f L s q=>?_;exact e a A2 k v v2 w c Q s (d.mono L) q (qL (YG (hn _ _ _) f) (λ_ _ z=>z.mono (l.trans L)) λ_ _ z=>z)
def ju.read {g:W->Hx->R W}{r:V->Hp->VK->Prop}(hn:∀x A,jh (g x A))(b:XH X.K r g):∀σ H Q,tM X.K xr (ju g ma) σ H Q->LN r (tM X.K xr ma) σ H Q:=by
 rintro σ H Q ⟨φ,A,ρ,S,re,h⟩
 refine tM.go S re (qd.mp h) λw A1 a H1 v c l s q=>?_;exact b a A1 H1 v w Q s q (qL (YG (hn _ _) c) (λ_ _ z=>z.mono l) λ_ _ z=>z)
def JN {op:Operator}{r:R2}{g:W->W->Hx->R W}(h:ji X (binaryOp op) r)(hn:∀x y A,jh (g x y A))(H:yZ X.K r g)(d:SE X xr a ma)(c:SE X xr b mb):SE X xr (.BinOp a op b pos) (zj g ma mb):=
 PE.imp (dA h d c) (zj.read hn H)
def eE {op:UnaryOp}{r:V->Hp->VK->Prop}{g:W->Hx->R W}(h:Xx X (unaryOp op) r)(hn:∀x A,jh (g x A))(H:XH X.K r g)(b:SE X xr a ma):SE X xr (.UnaryOp op a pos) (ju g ma):=
 PE.imp (dB h b) (ju.read hn H)
def NV {r:R2}{g:W->W->Hx->R W}(h:ji X (compareOp op) r)(hn:∀x y A,jh (g x y A))(H:yZ X.K r g)(d:SE X xr a ma)(c:SE X xr b mb)(hm:behindInMarks op b=false):SE X xr (.Compare a [op] [b] pos) (zj g ma mb):=
 PE.imp (BC h d c hm) (zj.read hn H)
def tT.toM {K:Frag}{Q:Bool->Hp->Prop}(h:tT K xr m σ H Q):tM K xr m σ H λx d=>∃k,x=.bl k/\Q k d:=by
 obtain⟨φ,A,ρ,S,re,h⟩:=h;refine tM.go S re h λw A1 a H1 v ⟨b,e,q⟩ l s c=>?_;subst e;exact⟨b,c,q a H1 l s⟩
def MJ {r:R2}{g:W->W->Hx->R W}(o:ji X (compareOp op) r)(hn:∀x y A,jh (g x y A))(c:yZ X.K r g)(e:SE X xr a ma)(d:SE X xr b mb)(hm:behindInMarks op b=false):ST X xr (.Compare a [op] [b] pos) (zj g ma mb):=
 PT.imp (AY o e d hm) λσ H Q h=>zj.read hn c σ H _ h.toM
noncomputable def kx (g g':W->W->Hx->R W)(a b c:Ev):Ev:=λρ A=>(a ρ A).bind λx A1=>(b ρ A1).bind λy A2=>(g x y A2).bind λz d=>match z with
 |.bl true=>(c ρ d).bind λw e=>g' y w e|.bl false=>.ok (.bl false) d|_=>.bad
def kx.read {g g':W->W->Hx->R W}{r i:R2}(hn:∀x y A,jh (g x y A))(T:yZ X.K r g)(n:∀x y A,jh (g' x y A))(o:yZ X.K i g'):
  ∀σ H Q,tM X.K xr (kx g g' ma mb mc) σ H Q->UE r i (tM X.K xr ma) (tM X.K xr mb) (tM X.K xr mc) σ H Q:=by
 rintro σ H Q ⟨φ,A,ρ,S,re,h⟩
 refine tM.go S re (qd.mp h) λw A1 E H1 v Z L S1 P=>?_;refine tM.go S1 (re.mono L) (qL (qd.mp Z) (λ_ _ z=>z) λ_ _ z=>z.mono L) λf A2 b D v2 Y B S2 s=>?_;have j:=L.trans B;have p:=qd.mp Y;have a:(g w f A2).post (PB X.K b D λz c=>∃k,z=.bl k/\if k=true then tM X.K xr mc σ c λJ q=>i v2 J q Q else Q (.bl false) c) gO:=by
  refine qL (YG (hn _ _ _) p) (λz A3 a e c zv u C N=>?_) λ_ _ z=>z;have l:=j.trans u;cases z with
  |bl k=>
   refine⟨k,N,?_⟩;cases k with
   |true=>
    rw[ah rfl];refine tM.go C (re.mono l) (qL (qd.mp a) (λ_ _ z=>z) λ_ _ z=>z.mono l) λI A4 d q v4 U t S4 M=>?_;exact o d A4 q v2 v4 f I Q S4 ((s.mono u).mono t) M (qL (YG (n _ _ _) U) (λ_ _ z=>z.mono (l.trans t)) λ_ _ z=>z)
   |false=>
    rw[aj aA];exact a e c _ l C rfl
  |non=>cases a|int _=>cases a|str _=>cases a|tup _=>cases a|ref _=>cases a|clo _ _ _=>cases a|xc _=>cases a
 exact T b A2 D v v2 w f _ S2 (P.mono B) s a
def DF {c:Expr}{o:CmpOp}{r e:R2}{g g':W->W->Hx->R W}(f:ji X (compareOp op) r)(hn:∀x y A,jh (g x y A))(i:yZ X.K r g)(h:ji X (compareOp o) e)(H:∀x y A,jh (g' x y A))(d:yZ X.K e g')
  (l:SE X xr a ma)(k:SE X xr b mb)(j:SE X xr c mc)(hm:lastMarks [op,o] [b,c]=false:=by with_unfolding_all rfl):SE X xr (.Compare a [op,o] [b,c] pos) (kx g g' ma mb mc):=
 PE.imp (CK f h l k j hm) (kx.read hn i H d)
def Cz {c:Expr}{o:CmpOp}{r i:R2}{g g':W->W->Hx->R W}(j:ji X (compareOp op) r)(hn:∀x y A,jh (g x y A))(k:yZ X.K r g)(d:ji X (compareOp o) i)(e:∀x y A,jh (g' x y A))(f:yZ X.K i g')
  (p:SE X xr a ma)(n:SE X xr b mb)(l:SE X xr c mc)(hm:lastMarks [op,o] [b,c]=false:=by with_unfolding_all rfl):ST X xr (.Compare a [op,o] [b,c] pos) (kx g g' ma mb mc):=
 PT.imp (D8 j d p n l hm) λσ H Q h=>kx.read hn k e f σ H _ h.toM
noncomputable def yW (a b:Ev):Ev:=λρ A=>(a ρ A).bind λx A1=>match x with
 |.bl true=>b ρ A1|.bl false=>.ok (.bl false) A1|_=>.bad
noncomputable def wU (a b:Ev):Ev:=λρ A=>(a ρ A).bind λx A1=>match x with
 |.bl true=>.ok (.bl true) A1|.bl false=>b ρ A1|_=>.bad
noncomputable def jO (a:Ev):Ev:=λρ A=>(a ρ A).bind λx A1=>match x with
 |.bl k=>.ok (.bl (!k)) A1|_=>.bad
noncomputable def LV (c a b:Ev):Ev:=λρ A=>(c ρ A).bind λx A1=>match x with
 |.bl true=>a ρ A1|.bl false=>b ρ A1|_=>.bad
theorem tT.mono {K:Frag}{c:bW}{H1:Hp}{A1:Hx}{ρ:En}{Q:Bool->Hp->Prop}(S:zS K c A1 H1)(L:Le K φ H c H1)(re:RE K φ H ρ σ)
  (h:(m ρ A1).post (λw A'=>∃b,w=.bl b/\∀a d,Le K φ H a d->zS K a A' d->Q b d) (EB K φ H xr)):tT K xr m σ H1 Q:=
 ⟨c,A1,ρ,S,re.mono L,qL h (λw A' ⟨b,e,q⟩=>⟨b,e,λa d l s=>q a d (L.trans l) s⟩) λ_ _ z=>z.mono L⟩
noncomputable def zl:Ea:=λ_ A=>.ok [] A
noncomputable def zc (a:Ev)(r:Ea):Ea:=λρ A=>(a ρ A).bind λx A1=>(r ρ A1).bind λxs A2=>.ok (x::xs) A2
noncomputable def zG (a:Ea):Ev:=λρ A=>(a ρ A).bind λxs A1=>.ok (.tup xs) A1
noncomputable def zX (a:Ea):Ev:=λρ A=>(a ρ A).bind λxs A1=>.ok (.ref A1.length) (A1++[.lst xs])
def JR {K:Frag}{A:Hx}{p:Addr}{ws:List W}{vs:List V}(S:zS K φ A H)(h:H p=none)(r:zE K φ H ws vs):
  Le K φ H φ (upd H p (.tup vs))/\zS K φ A (upd H p (.tup vs))/\RV K φ (upd H p (.tup vs)) (.tup ws) (.ref p):=
 ⟨Le.new h,S.lay h,p,vs,rfl,qQ.of jS,r.mono (Le.new h)⟩
def Jc {K:Frag}{A:Hx}{p:Addr}{ws:List W}{vs:List V}(S:zS K φ A H)(h:H p=none)(r:zE K φ H ws vs):
  Le K φ H (φ++[p]) (upd H p (.lst vs))/\zS K (φ++[p]) (A++[.lst ws]) (upd H p (.lst vs))/\RV K (φ++[p]) (upd H p (.lst vs)) (.ref A.length) (.ref p):=by
 have l:Le K φ H (φ++[p]) (upd H p (.lst vs)):=Le.alloc h;obtain⟨b,a⟩:=S.alloc (o:=.lst ws) h ⟨vs,jS,r.mono l⟩;exact⟨b,a,p,rfl,by rw[<- S.len];simp⟩
def eF {M:Ea}(h:SA X xr es M)(c:∀ρ A ws A',M ρ A=.ok ws A'->ws.length<=sizeLine):SE X xr (.List es pos) (zX M):=
 PE.imp (dU h) λσ H Q ⟨φ,A,ρ,S,re,h⟩=>by
  have h':=qd.mp h;cases e:M ρ A with
  |ok ws A'=>
   rw[e]at h';refine⟨φ,A,ρ,S,re,?_⟩;rw[e];intro a H1 vs l s q;refine⟨by rw[<- q.length];exact c ρ A ws A' e,λp b=>?_⟩
   obtain⟨a1,a2,d⟩:=Jc s b q;exact h' _ _ _ (l.trans a1) a2 d
  |exc x A'=>rw[e]at h';refine⟨φ,A,ρ,S,re,?_⟩;rw[e];exact h'|bad=>rw[e]at h';exact h'.elim
end
inductive Fl where
 |nx (ρ:En)|rt (w:W)|bk (ρ:En)|ct (ρ:En)
abbrev Ex:=En->Hx->R Fl
def FB (K:Frag)(φ:bW)(H:Hp)(D:Ends):Fl->Hx->Prop
 |.nx ρ,A=>∀a h b,Le K φ H a h->zS K a A h->RE K a h ρ b->D.nx b h|.rt w,A=>∀a h v,Le K φ H a h->zS K a A h->RV K a h w v->D.rt v h|.bk ρ,A=>∀a h b,Le K φ H a h->zS K a A h->RE K a h ρ b->D.bk b h|.ct ρ,A=>∀a h b,Le K φ H a h->zS K a A h->RE K a h ρ b->D.ct b h
def FB.mono {K:Frag}{c:bW}{H1:Hp}{D:Ends}{f:Fl}{A:Hx}(h:FB K φ H D f A)(l:Le K φ H c H1):FB K c H1 D f A:=by
 cases f with
 |nx ρ=>exactλa b v L=>h a b v (l.trans L)|rt ρ=>exactλa b v L=>h a b v (l.trans L)|bk ρ=>exactλa b v L=>h a b v (l.trans L)|ct ρ=>exactλa b v L=>h a b v (l.trans L)
inductive MS (K:Frag)(xr:XR)(m:Ex)(D:Ends)(σ:St)(H:Hp):Prop
 |mk (φ:bW) (A:Hx) (ρ:En) (S:zS K φ A H) (re:RE K φ H ρ σ) (h:(m ρ A).post (FB K φ H D) (EB K φ H xr))
noncomputable def tS (K:Frag)(x:XR)(m:Ex):TS:=λD σ H=>MS K x m D σ H
def SS (X:Cx)(x:XR)(st:Stmt)(m:Ex):Prop:=PS X st (tS X.K x m)
def Y7 (X:Cx)(x:XR)(st:cn)(m:Ex):Prop:=kq X st (tS X.K x m)
section
variable {xr:XR}{a b c:Expr}{st:Stmt}{rest:cn}{m:Ev}{m1 m2:Ex}
def PS.imp {t t':TS}(h:PS X st t)(i:∀D σ H,t' D σ H->t D σ H):PS X st t':=λpins s σ H D I hw=>h pins s σ H D I (i D σ H hw)
def kq.imp {t t':TS}(h:kq X rest t)(i:∀D σ H,t' D σ H->t D σ H):kq X rest t':=λpins s σ H D I hw=>h pins s σ H D I (i D σ H hw)
noncomputable def zC:Ex:=λρ A=>.ok (.nx ρ) A
noncomputable def zo (m1 m2:Ex):Ex:=λρ A=>(m1 ρ A).bind λl A1=>match l with
 |.nx ρ1=>m2 ρ1 A1|f=>.ok f A1
noncomputable def jJ (m:Ev):Ex:=λρ A=>(m ρ A).bind λ_ A1=>.ok (.nx ρ) A1
noncomputable def qN (m:Ev):Ex:=λρ A=>(m ρ A).bind λw A1=>.ok (.rt w) A1
noncomputable def qP (c:Ev)(a b:Ex):Ex:=λρ A=>(c ρ A).bind λx A1=>match x with
 |.bl true=>a ρ A1|.bl false=>b ρ A1|_=>.bad
noncomputable def zZ (i:Nat)(m:Ev):Ex:=λρ A=>(m ρ A).bind λw A1=>.ok (.nx (ρ.set i (some w))) A1
def zZ.read:∀D σ H,tS X.K xr (zZ i m) D σ H->Xc (tM X.K xr m) (G0 i) D σ H:=by
 rintro D σ H ⟨φ,A,ρ,S,re,h⟩
 exact tM.go S re (qd.mp h) λw A1 a H1 v b l s q=>b a H1 _ l s ((re.mono l).set q)
noncomputable def w9 (g:W->W->W->Hx->R Unit)(me mo mi:Ev):Ex:=λρ A=>(me ρ A).bind λv A1=>(mo ρ A1).bind λo A2=>(mi ρ A2).bind λi b=>(g o i v b).bind λ_ a=>.ok (.nx ρ) a
def Lh (K:Frag)(t:Yc)(g:W->W->W->Hx->R Unit):Prop:=∀φ A H o i v w wi wv Q,zS K φ A H->RV K φ H w o->RV K φ H wi i->RV K φ H wv v->
 (g w wi wv A).post (λ_ A'=>∀a h,Le K φ H a h->zS K a A' h->Q h) gO->t o i v H Q
def CH {o i:Expr}{mo mi:Ev}{t:Yc}{g:W->W->W->Hx->R Unit}(M:Xl X t)(hn:∀o i v A,jh (g o i v A))(T:Lh X.K t g)(he:SE X xr e m)(P:SE X xr o mo)(hi:SE X xr i mi)
  (N:swapsWithSole [.Subscript o i tpos] e pos.line X.env=pure false:=by rfl)(hw:swappedStores [.Subscript o i tpos] e X.env=pure none:=by rfl)
  (j:(assignEach [.Subscript o i tpos] X.env).map (·.2)=[assign (.Subscript o i tpos) X.env]:=by rfl)
  (U:∀v,assign (.Subscript o i tpos) X.env v=(do
   let ov <- holding [v] (eval o X.env)
   let iv <- holding [v,ov] (eval i X.env)
   standAt tpos
   holding [v,ov,iv] (setItem ov iv v)
   release [v,ov,iv] []):=by intro _;rfl):SS X xr (.Assign [.Subscript o i tpos] e pos) (w9 g m mo mi):=
 PS.imp (Md he (dh P hi M U) N hw j) λD σ H ⟨φ,A,ρ,S,re,h⟩=>by
  refine tM.go S re (qd.mp h) λn A1 C H1 v1 j f S1 J=>?_;refine tM.go S1 (re.mono f) (qL (qd.mp j) (λ_ _ z=>z) λ_ _ z=>z.mono f) λk A2 B H2 v2 Y q S2 I=>?_;have l:=f.trans q;refine tM.go S2 (re.mono l) (qL (qd.mp Y) (λ_ _ z=>z) λ_ _ z=>z.mono l) λw y c H3 E a d S3 Q=>?_;have L:=l.trans d;refine T c y H3 v2 E v1 k w n _ S3 (I.mono d) Q (J.mono (q.trans d)) ?_;cases r:g k w n y with
  |ok u s=>
   rw[r]at a;exactλb H4 p Z=>a b H4 σ (L.trans p) Z (re.mono (L.trans p))
  |exc x s=>exact absurd r (hn _ _ _ _ x s)|bad=>rw[r]at a;exact a.elim
structure jY where
 at_:Hx->Nat->Option (Option W)
 len:Nat
def QK (K:Frag)(φ:bW)(H:Hp)(j:jY)(J:It):Prop:=∀i a h A',ZD K φ H a h->zS K a A' h->
 (∀w,j.at_ A' i=some (some w)->J.go i h/\∀x H1,J.yld i h x H1->Le K a h a H1/\zS K a A' H1/\RV K a H1 w x)/\(j.at_ A' i=some none->J.stop i h)
abbrev Ei:=En->Hx->R jY
inductive MI (K:Frag)(xr:XR)(mi:Ei)(σ:St)(H:Hp)(Rr:It->Hp->Prop):Prop
 |mk (φ:bW) (A:Hx) (ρ:En) (S:zS K φ A H) (re:RE K φ H ρ σ) (h:(mi ρ A).post (λj A1=>∀φ1 H1 J,Le K φ H φ1 H1->zS K φ1 A1 H1->QK K φ1 H1 j J->Rr J H1) (EB K φ H xr))
noncomputable def tI (K:Frag)(x:XR)(mi:Ei):TI:=λσ H r=>MI K x mi σ H r
def SI (X:Cx)(x:XR)(t iter:Expr)(mi:Ei):Prop:=PI X t iter (tI X.K x mi)
def PI.imp {t t':TI}(h:PI X tg e t)(i:∀σ H Q,t' σ H Q->t σ H Q):PI X tg e t':=λpins s σ H Q I hw=>h pins s σ H Q I (i σ H Q hw)
abbrev Tg:=W->En->Option En
inductive MG (K:Frag)(tw:Tg)(v:V)(σ:St)(H:Hp)(Q:St->Hp->Prop):Prop
 |mk (φ:bW) (A:Hx) (ρ:En) (w:W) (ρ':En) (S:zS K φ A H) (re:RE K φ H ρ σ) (rv:RV K φ H w v) (t:tw w ρ=some ρ') (q:∀σ',RE K φ H ρ' σ'->Q σ' H)
noncomputable def tG (K:Frag)(tw:Tg):TG:=λv σ H Q=>MG K tw v σ H Q
def SG (X:Cx)(t:Expr)(tw:Tg):Prop:=PG X t (tG X.K tw)
def PG.imp {t t':TG}(h:PG X tg t)(i:∀v σ H Q,t' v σ H Q->t v σ H Q):PG X tg t':=λpins s σ H v u Q I r hw=>h pins s σ H v u Q I r (i v σ H Q hw)
noncomputable def zH (i:Nat):Tg:=λw ρ=>some (ρ.set i (some w))
noncomputable def kH (i j:Nat):Tg:=λw ρ=>match w with
 |.tup [x,y]=>some ((ρ.set i (some x)).set j (some y))|_=>none
noncomputable def yJ (j:jY)(st:W->Ex):Nat->Nat->Ex
 |0,i,ρ,A=>match j.at_ A i with
  |some none=>.ok (.nx ρ) A|_=>.bad
 |f+1,i,ρ,A=>match j.at_ A i with
  |some none=>.ok (.nx ρ) A|some (some w)=>(st w ρ A).bind λl A1=>match l with
   |.nx ρ1=>yJ j st f (i+1) ρ1 A1|.ct ρ1=>yJ j st f (i+1) ρ1 A1|.bk ρ1=>.ok (.nx ρ1) A1|.rt w=>.ok (.rt w) A1
  |none=>.bad
noncomputable def turn (tw:Tg)(body:Ex)(w:W):Ex:=λρ A=>match tw w ρ with
 |some ρ1=>body ρ1 A|none=>.bad
def yk (mi:Ei)(tw:Tg)(body:Ex):Ex:=λρ A=>(mi ρ A).bind λj A1=>yJ j (turn tw body) j.len 0 ρ A1
inductive L4 (K:Frag)(xr:XR)(j:jY)(t:W->Ex)(D:Ends)(φ1:bW)(H1:Hp)(f i:Nat)(σ':St)(H':Hp):Prop
 |mk (φ2:bW) (A2:Hx) (ρ2:En) (l:Le K φ1 H1 φ2 H') (S:zS K φ2 A2 H') (re:RE K φ2 H' ρ2 σ') (h:(yJ j t f i ρ2 A2).post (FB K φ2 H' D) (EB K φ2 H' xr))
noncomputable def gJ (c:Ev)(body:Ex):Nat->Ex
 |0,ρ,A=>.bad|f+1,ρ,A=>(c ρ A).bind λx A1=>match x with
  |.bl true=>(body ρ A1).bind λl A2=>match l with
   |.nx ρ1=>gJ c body f ρ1 A2|.ct ρ1=>gJ c body f ρ1 A2|.bk ρ1=>.ok (.nx ρ1) A2|.rt w=>.ok (.rt w) A2
  |.bl false=>.ok (.nx ρ) A1|_=>.bad
def K7 (f:Nat)(c:Ev)(body:Ex):Ex:=gJ c body f
noncomputable def Qw (nl:Nat)(cap:bY)(ρ:En):En:=List.replicate nl none++cap.map λi=>(ρ[i]?).join
theorem RE.Zt {K:Frag}{ρ:En}{nl:Nat}(r:RE K φ H ρ σ):RE K φ H (Qw nl cap ρ) (L2.Zt nl cap σ):=by
 refine⟨by simp[Qw,L2.Zt],λi w e=>?_⟩
 unfold Qw at e;unfold L2.Zt
 by_cases hi:i<nl
 ·rw[ao (by simpa using hi),bF]at e
  split at e<;>cases e
 ·rw[ay (by simpa using hi),bK,ax]at e
  rw[ay (by simpa using hi),bK,ax]
  cases c:cap[i-nl]? with
  |none=>rw[c]at e;cases e|some k=>
   rw[c]at e;have E:(ρ[k]?).join=some w:=aC e;cases h:ρ[k]? with
   |none=>rw[h]at E;cases E|some o=>cases o with
    |none=>rw[h]at E;cases E|some d=>
     rw[h]at E;cases E;obtain⟨v,b,a⟩:=r.get k w h;exact⟨v,by simp[b],a⟩
abbrev Em:=En->List W->Hx->R (En×List W)
noncomputable def qf:Nat:=100000
def zQ (elt:Ev):Em:=λρ acc A=>(elt ρ A).bind λy A1=>if acc.length<qf then .ok (ρ,acc++[y]) A1 else .bad
noncomputable def qU (j:jY)(tw:Tg)(ifs:Ev)(em:Em):Nat->Nat->Em
 |0,i,ρ,acc,A=>match j.at_ A i with
  |some none=>.ok (ρ,acc) A|_=>.bad
 |f+1,i,ρ,acc,A=>match j.at_ A i with
  |some none=>.ok (ρ,acc) A|some (some w)=>match tw w ρ with
   |some ρ1=>(ifs ρ1 A).bind λc A1=>match c with
    |.bl true=>(em ρ1 acc A1).bind λp A2=>qU j tw ifs em f (i+1) p.1 p.2 A2|.bl false=>qU j tw ifs em f (i+1) ρ1 acc A1|_=>.bad
   |none=>.bad
  |none=>.bad
def Jj (mi:Ei)(tw:Tg)(ifs:Ev)(em:Em):Em:=λρ acc A=>(mi ρ A).bind λj A1=>qU j tw ifs em j.len 0 ρ acc A1
abbrev yn:=En->Hx->R (List W)
def zW (nl:Nat)(cap:bY)(mi:Ei)(tw:Tg)(ifs:Ev)(em:Em):yn:=λρ A=>(mi ρ A).bind λj A1=>(qU j tw ifs em j.len 0 (Qw nl cap ρ) [] A1).nox.bind λp A2=>.ok p.2 A2
def Wt (K:Frag)(D:Addr)(φ:bW)(H:Hp)(Q:St->Hp->Prop)(p:En×List W)(A1:Hx):Prop:=∀a H1 b zs,yO K D φ H a H1->(∀k:Nat,a[k]?≠some D)->zS K a A1 H1->RE K a H1 p.1 b->H1 D=some (.lst zs)->zE K a H1 p.2 zs->Q b H1
inductive ME (K:Frag)(em:Em)(D:Addr)(σ:St)(H:Hp)(Q:St->Hp->Prop):Prop
 |mk (φ:bW) (A:Hx) (ρ:En) (acc:List W) (ys:List V) (S:zS K φ A H) (re:RE K φ H ρ σ) (hD:H D=some (.lst ys)) (nD:∀k:Nat,φ[k]?≠some D) (rv:zE K φ H acc ys)
  (h:(em ρ acc A).post (Wt K D φ H Q) gO)
noncomputable def tE (K:Frag)(em:Em):gq:=λD σ H Q=>ME K em D σ H Q
noncomputable abbrev yx:XR:=λ_ _=>False
def SM (X:Cx)(elt:Expr)(gens:List Comprehension)(sc:Scope)(c:Pos)(d:Nat)(em:Em):Prop:=wC X elt gens sc c d (tE X.K em)
def wC.imp {d:Nat}{t t':gq}(h:wC X elt gens sc pos d t)(i:∀D σ H Q,t' D σ H Q->t D σ H Q):wC X elt gens sc pos d t':=
 λpins s σ H D Q k Q' E I hw a=>h pins s σ H D Q k Q' E I (i D σ H Q hw) a
def KD {K:Frag}{r:R α}{P:α->Hx->Prop}(h:r.post P gO):r.post P (EB K φ H yx):=qL h (λ_ _ z=>z) λ_ _ z=>z.elim
def Y4 (X:Cx)(ifs:b9)(m:Ev):Prop:=QF X ifs (tT X.K yx m)
def NI:Y4 X [] (zU (.bl true)):=λpins s σ H Q I ⟨φ,A,ρ,S,re,h⟩=>Dx pins s σ H Q I (by
 obtain⟨b,e,q⟩:=h;cases e;exact q φ H .refl S)
inductive Xs (tw:Tg)(ifs:Ev)(em:Em)(j:jY)(K:Frag)(D:Addr)(φ:bW)(H:Hp)(Q:St->Hp->Prop)(f i:Nat)(σ':St)(H':Hp):Prop
 |mk (φ2:bW) (A2:Hx) (ρ2:En) (acc2:List W) (ys2:List V) (l:yO K D φ H φ2 H') (S:zS K φ2 A2 H') (re:RE K φ2 H' ρ2 σ') (hD:H' D=some (.lst ys2)) (nD:∀k:Nat,φ2[k]?≠some D) (ra:zE K φ2 H' acc2 ys2) (h:(qU j tw ifs em f i ρ2 acc2 A2).post (Wt K D φ H Q) gO)
def qU.read {tw:Tg}{ifs:Ev}{em:Em}{j:jY}{J:It}{K:Frag}{A:Hx}{ρ:En}{acc:List W}{Q:St->Hp->Prop}{f:Nat}
  (jr:QK K φ H j J)
  (S:zS K φ A H)(re:RE K φ H ρ σ)(hD:H D=some (.lst ys))(nD:∀k:Nat,φ[k]?≠some D)(ra:zE K φ H acc ys)
  (h:(qU j tw ifs em f 0 ρ acc A).post (Wt K D φ H Q) gO):
  YU J (tG K tw) (tT K yx ifs) (tE K em) D σ H Q:=by
 refine⟨λi f b P=>Xs tw ifs em j K D φ H Q f i b P,
  ⟨f,φ,A,ρ,acc,ys,.refl,S,re,hD,nD,ra,h⟩,?_⟩
 rintro i f U H2 ⟨g,A2,s,e,Y,B,S2,t,M,u,n,a⟩
 obtain⟨j1,j2⟩:=jr i g H2 A2 ⟨B.ex,B.tp,B.fz⟩ S2;cases E:j.at_ A2 i with
 |none=>cases f<;>(unfold qU at a;rw[E]at a;exact a.elim)|some o=>
  cases o with
  |none=>
   left
   refine⟨j2 E,?_⟩;cases f<;>(unfold qU at a;rw[E]at a;exact a g H2 U Y B u S2 t M n)
  |some w=>
   right
   obtain⟨go,yl⟩:=j1 w E;cases f with
   |zero=>unfold qU at a;rw[E]at a;exact a.elim|succ f=>
    unfold qU at a;rw[E]at a;refine⟨go,λb P=>Xs tw ifs em j K D φ H Q f (i+1) b P,λb P z=>⟨f,bh _,z⟩,λx H3 y=>?_⟩;obtain⟨v,S3,q3⟩:=yl x H3 y;obtain⟨hD3,Z⟩:=v.off M u;dsimp only at a;cases et:tw w s with
    |none=>rw[et]at a;exact a.elim|some l=>
     rw[et]at a;refine⟨g,A2,s,w,l,S3,t.mono v,q3,et,λσ3 r=>?_⟩;refine tT.go S3 r (KD (qd.mp a)) λc A4 d=>?_;cases c with
     |bl k=>
      refine⟨k,rfl,λq H4 L S4=>?_⟩;obtain⟨I,N⟩:=L.off hD3 Z;have C:=(B.trans (v.trans L).toD);cases k with
      |true=>
       rw[ah rfl];refine⟨q,A4,l,e,Y,S4,r.mono L,I,N,n.mono (v.trans L),qL (qd.mp d) (λp A5 h5 T H5 σ5 zs l5 n5 S5 X d5 r5=>?_) λ_ _ z=>z⟩;exact⟨T,A5,p.1,p.2,zs,C.trans l5,S5,X,d5,n5,r5,h5⟩
      |false=>
       rw[aj aA];exact⟨q,A4,l,e,Y,C,S4,r.mono L,I,N,n.mono (v.trans L),d⟩
     |non=>cases d|int _=>cases d|str _=>cases d|tup _=>cases d|ref _=>cases d|clo _ _ _=>cases d|xc _=>cases d
def QK.mono {K:Frag}{b:bW}{H1:Hp}{j:jY}{J:It}(h:QK K φ H j J)(l:ZD K φ H b H1):QK K b H1 j J:=
 λi c d A' L=>h i c d A' ⟨λn a e=>L.ex n a (l.ex n a e),λa vs e=>L.tp a vs (l.tp a vs e),λa o u e=>L.fz a o u (l.fz a o u e)⟩
inductive MF (K:Frag)(xr:XR)(mq:yn)(σ:St)(H:Hp)(Q:VK):Prop
 |mk (φ:bW) (A:Hx) (ρ:En) (S:zS K φ A H) (re:RE K φ H ρ σ) (h:(mq ρ A).post (λws A1=>∀φ1 H1 D ys,Le K φ H φ1 H1->zS K φ1 A1 H1->H D=none->H1 D=some (.lst ys)->(∀k:Nat,φ1[k]?≠some D)->zE K φ1 H1 ws ys->Q (.ref D) H1) (EB K φ H xr))
noncomputable def tF (K:Frag)(x:XR)(M:yn):TE:=λσ H Q=>MF K x M σ H Q
def SF (X:Cx)(x:XR)(e:Expr)(M:yn):Prop:=PE X e (tF X.K x M)
theorem zW.read {mi:Ei}{tw:Tg}{M:Ev}{em:Em}{nl:Nat}:∀σ H Q,tF X.K xr (zW nl cap mi tw M em) σ H Q->GZ X.K (tI X.K xr mi) (tG X.K tw) (tT X.K yx M) (tE X.K em) nl cap σ H Q:=by
 rintro σ H Q ⟨φ,A,ρ,S,re,h⟩
 refine⟨φ,A,ρ,S,re,qL (qd.mp h) (λj A1 t b H1 J l s o D c q=>?_) λ_ _ z=>z⟩;have ln:Le X.K b H1 b (upd H1 D (.lst [])):=Le.new c;have a:=qd.mp t;refine qU.read (o.mono ⟨ln.ex,ln.tp,ln.fz⟩) (s.lay c) ((re.mono (l.trans ln)).Zt) jS (s.notin c q) .nil ?_ (f:=j.len) (acc:=[]);cases e:qU j tw M em j.len 0 (Qw nl cap ρ) [] A1 with
 |ok p A2=>
  rw[e]at a;intro d w g zs k n v r u i;have L:=l.trans (Le.ofD c k);exact a d w D zs L v (l.st D c) u n i
 |exc x A2=>rw[e]at a;exact a.elim|bad=>rw[e]at a;exact a.elim
noncomputable def qu (q:yn):Ev:=λρ A=>(q ρ A).bind λws A1=>.ok (.ref A1.length) (A1++[.lst ws])
def qu.read {q:yn}{K:Frag}:∀σ H Q,tM K xr (qu q) σ H Q->tF K xr q σ H Q:=by
 rintro σ H Q ⟨φ,A,ρ,S,re,h⟩
 refine⟨φ,A,ρ,S,re,qL (qd.mp h) (λws A1 d b H1 D ys l s h0 c N r=>?_) λ_ _ z=>z⟩;have ll:Le K φ H (b++[D]) H1:=l.YX h0;have lw:ZD K b H1 (b++[D]) H1:=⟨λn a h=>by
  have:=(cx.mp h).1
  rw[ao this];exact h,λ_ _ h=>h,λ_ _ _ h=>h⟩
 refine d _ _ _ ll (s.YX (o:=.lst ws) c N ⟨ys,c,r.monoW lw⟩) ⟨D,rfl,?_⟩;rw[<- s.len];simp
inductive MQ (K:Frag)(xr:XR)(mq:yn)(σ:St)(H:Hp)(Q:VK):Prop
 |mk (φ:bW) (A:Hx) (ρ:En) (S:zS K φ A H) (re:RE K φ H ρ σ) (h:(mq ρ A).post (λws A1=>∀φ1 H1 a ys,Le K φ H φ1 H1->zS K φ1 A1 H1->(jj K H1 a ys∨qQ K H1 a ys)->zE K φ1 H1 ws ys->Q (.ref a) H1) (EB K φ H xr))
noncomputable def tQ (K:Frag)(x:XR)(M:yn):TE:=λσ H Q=>MQ K x M σ H Q
def SQ (X:Cx)(x:XR)(e:Expr)(M:yn):Prop:=PE X e (tQ X.K x M)
noncomputable def zV (w:W)(A:Hx):Option (List W):=match w with
 |.tup ws=>some ws|.ref n=>match A[n]? with
  |some (.lst ws)=>some ws|some (.ro ws)=>some ws|_=>none
 |_=>none
def WY {K:Frag}{A:Hx}{w:W}{ws:List W}(S:zS K φ A H)(q:RV K φ H w v)(e:zV w A=some ws):∃a ys,v=.ref a/\(jj K H a ys∨qQ K H a ys)/\zE K φ H ws ys:=by
 unfold zV at e;cases w with
 |tup xs=>cases e;obtain⟨a,ys,b,d,E⟩:=q;exact⟨a,ys,b,.inr d,E⟩|ref n=>
  obtain⟨a,b,d⟩:=q;dsimp only at e;cases ea:A[n]? with
  |none=>rw[ea]at e;cases e|some o=>
   rw[ea]at e;obtain⟨f,E,r⟩:=S.ob n o ea;rw[d]at E;cases E;cases o with
   |lst xs=>cases e;obtain⟨ys,c,h⟩:=r;exact⟨a,ys,b,.inl (jj.of c),h⟩|ro xs=>cases e;obtain⟨ys,c,h⟩:=r;exact⟨a,ys,b,.inl c.sq,h⟩|dct xs=>cases e|tab _ _=>cases e
 |non=>cases e|bl _=>cases e|clo _ _ _=>cases e|xc _=>cases e|int _=>cases e|str _=>cases e
def qg (m:Ev):yn:=λρ A=>(m ρ A).bind λw A1=>match zV w A1 with
 |some ws=>.ok ws A1|none=>.bad
def Wi (w:W)(A:Hx):Option jY:=match zV w A with
 |some ws=>some ⟨λA i=>(zV w A).map λws=>ws[i]?,ws.length⟩|none=>none
def qe (m:Ev):Ei:=λρ A=>(m ρ A).bind λw A1=>match Wi w A1 with
 |some j=>.ok j A1|none=>.bad
def eG (K:Frag)(t:TE):TI:=λσ H r=>t σ H λx H1=>∃a,x=.ref a/\(((∃xs,jj K H1 a xs)/\r (LY K a) H1)∨((∃xs,qQ K H1 a xs)/\r (LU K a) H1))
def eH {l:Expr}{t:TE}(j:PE X l t):PI X tg l (eG X.K t):=by
 intro pins s σ H n I h;refine qc (j pins s σ H _ I h) λv s1 ⟨x,H1,i,g,Q⟩=>?_;obtain⟨a,e,q⟩:=Q;subst e;cases g;have f:∀b∈[s1.heap.objs.size],wc X pins H1 b:=λb k=>by
  have e:b=s1.heap.objs.size:=by simpa using k
  subst e;exact i.fpOk (ar _) (i.hok.fresh (ar _))
 rcases q with ⟨⟨xs,d⟩,q⟩|⟨⟨xs,d⟩,q⟩
 ·obtain⟨c,r,p,z⟩:=i.list d
  refine wpAny_pyIter_list p.isList ?_;exact⟨s1.heap.objs.size,[s1.heap.objs.size],_,_,H1,rfl,i.kept (t':=s1.toks) λb o e=>af _ e,Dk a _,⟨_,av _ rfl,rfl,rfl⟩,f,q⟩
 ·obtain⟨c,r,p,z⟩:=i.tuple d
  refine wpAny_pyIter_tuple (show s1.heap.IsTuple a c.toArray from p) ?_
  exact⟨s1.heap.objs.size,[s1.heap.objs.size],_,_,H1,rfl,i.kept (t':=s1.toks) λb o e=>af _ e,FO a _,⟨_,av _ rfl,rfl,rfl⟩,f,q⟩
noncomputable def yV (lo:Int)(n:Nat):jY:=⟨λ_ i=>if i<n then some (some (.int (lo+i))) else some none,n⟩
def Mj {K:Frag}{lo:Int}:QK K φ H (yV lo n) (Wr lo n):=λi a h A' lw S=>by
 unfold yV;dsimp only
 by_cases hi:i<n
 ·rw[ah hi]
  refine⟨λw e=>?_,λe=>by cases e⟩
  cases e;exact⟨hi,λx H1 ⟨b,E⟩=>by subst b;exact⟨.refl,S,E⟩⟩
 ·rw[aj hi]
  exact⟨λw e=>(by cases e),λ_=>Nat.le_of_not_lt hi⟩
noncomputable def jD (i:Int):Bool:=decide (-(2 ^ 62)<=i)&&decide (i<2 ^ 62)
def QZ {i:Int}(h:jD i=true):-(2 ^ 62)<=i/\i<2 ^ 62:=by
 unfold jD at h;rw[ak,ai,ai]at h;exact h
def jG (m:Ev):Ei:=λρ A=>(m ρ A).bind λw A1=>match w with
 |.int j=>if jD j then .ok (yV 0 j.toNat) A1 else .bad|_=>.bad
def Qy (m m':Ev):Ei:=λρ A=>(m ρ A).bind λw A1=>(m' ρ A1).bind λa A2=>match w,a with
 |.int i,.int j=>if jD i&&jD j then .ok (yV i (j-i).toNat) A2 else .bad|_,_=>.bad
end
abbrev Fn:=List W->Hx->R W
def kI (K:Frag)(x:Str)(C:Value):Prop:=nsIn K mainGlobals x=some (some C)
def XE (K:Frag)(E:XK)(x:Str)(H:Hp):Prop:=∀C d,kI K x C->E C d H
inductive ZA (K:Frag)(n:Nat)(f:Fn)(vs:List V)(H:Hp)(Q:VK)(E:XK):Prop
 |mk (len:vs.length=n) (φ:bW) (A:Hx) (ws:List W) (S:zS K φ A H) (r:zE K φ H ws vs) (q:(f ws A).post (PB K φ H Q) (EB K φ H (XE K E)))
def ZA.len {K:Frag}{f:Fn}{vs:List V}{Q:VK}{E:XK}(h:ZA K n f vs H Q E):vs.length=n:=by cases h;assumption
inductive zR (P:Program)(w:World)(K:Frag)(mg:cc)(base:Heap)(k:Nat)(x:Str)(n:Nat)(f:Fn):Prop
 |mk (fa:Addr) (fd:FuncData) (ps:bZ) (F:ko P w K mg base wX k fa fd ps (ZA K n f)) (at_:mg x=some (.ref fa)) (kp:keepIn K (.ref fa)=true) (bi:Binds K fd ps [])
noncomputable def zA (f:Fn)(a:Ea):Ev:=λρ A=>(a ρ A).bind λws A1=>f ws A1
section
variable {m ma:Ev}
def Z5 (m:Ea)(n:Nat):Prop:=∀ρ A ws A',m ρ A=.ok ws A'->ws.length=n
def zM:Z5 zl 0:=λ_ _ _ _ h=>by unfold zl at h;cases h;rfl
def zq {M:Ea}(h:Z5 M n):Z5 (zc ma M) (n+1):=λρ A ws A' e=>by
 unfold zc at e;cases h1:ma ρ A with
 |ok x A1=>
  rw[h1,zL]at e;cases H:M ρ A1 with
  |ok xs A2=>rw[H,zL]at e;cases e;simp[h ρ A1 xs _ H]|exc x A2=>rw[H]at e;cases e|bad=>rw[H]at e;cases e
 |exc x A1=>rw[h1]at e;cases e|bad=>rw[h1]at e;cases e
end
noncomputable def qV (n:Nat)(m:Ex):Fn:=λws A=>(m (ws.map some++List.replicate (n-ws.length) none) A).nox.bind λf A1=>match f with
 |.rt w=>.ok w A1|.nx _=>.ok .non A1|_=>.bad
theorem RE.start {K:Frag}{ws:List W}{vs:List V}(h:zE K φ H ws vs):RE K φ H (ws.map some++List.replicate (N.length-ws.length) none) (L2.start N vs):=by
 unfold L2.start;refine⟨by simp[h.length],λi w e=>?_⟩
 by_cases hi:i<ws.length
 ·rw[ao (by simpa using hi),ax]at e
  cases hw:ws[i]? with
  |none=>rw[hw]at e;cases e|some c=>
   rw[hw]at e;cases e;obtain⟨v,b,a⟩:=h.get hw;refine⟨v,?_,a⟩;rw[ao (by rw[ag,<- h.length];exact hi),ax,b];rfl
 ·rw[ay (by simpa using hi),bF]at e
  split at e<;>cases e
section
variable {K:Frag}
theorem zR.mono {f:Fn}(F:zR P w K mg base j x n f)(h:j<=k):zR P w K mg base k x n f:=by cases F with|mk d fd ps F a b c=>exact⟨d,fd,ps,F.mono h,a,b,c⟩
theorem zR.imp {f g:Fn}(F:zR P w K mg base k x n f)(h:∀ws A,ws.length=n->g ws A=.bad∨f ws A=g ws A):zR P w K mg base k x n g:=by
 obtain⟨d,fd,ps,F,a,b,c⟩:=F;refine⟨d,fd,ps,F.imp λvs H Q E ⟨l,φ,A,ws,S,r,q⟩=>⟨l,φ,A,ws,S,r,?_⟩,a,b,c⟩;rcases h ws A (by rw[r.length];exact l) with e|e
 ·rw[e]at q;exact q.elim
 ·rw[e];exact q
end
section
variable {K:Frag}
def yR {a:α}{A:Hx}:jh (R.ok a A):=λ_ _ h=>by cases h
def jx:jh (R.bad:R α):=λ_ _ h=>by cases h
def Qu {c:Prop} [Decidable c] {a b:R α}(H:jh a)(h:jh b):jh (if c then a else b):=by split<;>assumption
noncomputable def ZE (f:Int->Int->W):W->W->Hx->R W
 |.int i,.int j,A=>.ok (f i j) A|_,_,_=>.bad
def Ji {f:Int->Int->W}:∀x y A,jh (ZE f x y A):=λx y A=>by
 unfold ZE;split
 ·exact yR
 ·exact jx
noncomputable def QM (c:Int->Int->Bool)(f:Int->Int->W):W->W->Hx->R W
 |.int i,.int j,A=>if c i j then .ok (f i j) A else .bad|_,_,_=>.bad
def Tt {c:Int->Int->Bool}{f:Int->Int->W}:∀x y A,jh (QM c f x y A):=λx y A=>by
 unfold QM;split
 ·exact Qu yR jx
 ·exact jx
def Je {f:Int->Int->W}{g:Int->Int->V}(h:∀i j φ H,RV K φ H (f i j) (g i j)):yZ K (Zv g) (ZE f):=λφ A H x y u v Q S a q p=>by
 cases u with
 |int i=>cases v with
  |int j=>obtain rfl:=a;obtain rfl:=q;exact⟨i,j,rfl,rfl,p φ H _ .refl S (h i j φ H)⟩|_=>exact p.elim
 |_=>exact p.elim
def UZ {c:Int->Int->Bool}{C:Int->Int->Prop}{f:Int->Int->W}{g:Int->Int->V}(d:∀i j,c i j=true->C i j)(h:∀i j φ H,RV K φ H (f i j) (g i j)):yZ K (rI C g) (QM c f):=λφ A H x y u v Q S b q p=>by
 cases u with
 |int i=>cases v with
  |int j=>
   obtain rfl:=b;obtain rfl:=q;unfold QM at p;dsimp only at p
   by_cases a:c i j=true
   ·rw[ah a]at p;exact⟨i,j,rfl,rfl,d i j a,p φ H _ .refl S (h i j φ H)⟩
   ·rw[aj a]at p;exact p.elim
  |_=>exact p.elim
 |_=>exact p.elim
noncomputable def Wj (i j:Int):Bool:=(decide (-(2 ^ 64)<i)&&decide (i<2 ^ 64)) || (decide (-(2 ^ 64)<j)&&decide (j<2 ^ 64))
noncomputable def G8 (_ j:Int):Bool:=decide (0<j)
def AA (i j:Int)(h:Wj i j=true):Wn i j:=by
 unfold Wj at h;simp only[bD,ak,decide_eq_true_eq]at h;exact h
def AK (i j:Int)(h:G8 i j=true):(λ_ j=>0<j) i j:=by
 unfold G8 at h;simpa using h
def yw:=ZE λi j=>.int (i-j)
def wM:=QM G8 λi j=>.int (i%j)
def TX:=ZE λi j=>.int (Builtin.bitXor i j)
def Js:=ZE λi j=>.bl (decide (i<j))
def wm:=ZE λi j=>.bl (decide (i<=j))
def T7:=ZE λi j=>.bl (decide (j<i))
def Sa:=ZE λi j=>.bl (decide (j<=i))
noncomputable def TZ (i j:Int):Bool:=decide (0<=j)&&decide (j<=1000000)&&decide (i.natAbs<2 ^ 64)
def AS (i j:Int)(h:TZ i j=true):Lz i j:=by
 unfold TZ at h;simp only[ak,decide_eq_true_eq]at h;exact⟨h.1.1,h.1.2,h.2⟩
def JY:=QM TZ λi j=>.int (i ^ j.toNat)
variable {a b c:Expr}
noncomputable def km:W->Hx->R W
 |.int i,A=>.ok (.int (-i)) A|_,_=>.bad
structure gF (X:Cx)(op:CmpOp)(g:W->W->Hx->R W):Prop where
 ex:∃r:R2,ji X (compareOp op) r/\(∀x y A,jh (g x y A))/\yZ X.K r g
 mks:∀b,op≠.In->op≠.NotIn->behindInMarks op b=false
def YM {r:R2}{g:W->W->Hx->R W}(a:ji X (compareOp op) r)(H:∀x y A,jh (g x y A))(h:yZ X.K r g):gF X op g:=⟨⟨r,a,H,h⟩,λb a1 a2=>CI b a1 a2⟩
def TC:gF X .Lt Js:=YM dM Ji (Je λ_ _ _ _=>rfl)
def J3:gF X .LtE wm:=YM dN Ji (Je λ_ _ _ _=>rfl)
def eI:gF X .Gt T7:=YM dO Ji (Je λ_ _ _ _=>rfl)
def eJ:gF X .GtE Sa:=YM dP Ji (Je λ_ _ _ _=>rfl)
end
inductive Ty where
 |non|bl|int|str|tup|lst|dct
 deriving DecidableEq
noncomputable def Ty.nm:Ty->String
 |.non => "NoneType" | .bl => "bool" | .int => "int" | .str => "str" | .tup => "tuple" | .lst => "list" | .dct => "dict"
noncomputable def jP (w:W)(A:Hx):Option Ty:=match w with
 |.non=>some .non|.bl _=>some .bl|.int _=>some .int|.str _=>some .str|.tup _=>some .tup|.ref n=>match A[n]? with
  |some (.lst _)=>some .lst|some (.dct _)=>some .dct|_=>none
 |_=>none
noncomputable def kM (a b:Ty):Bool:=a==b || (a==.bl&&b==.int)
def Gs {K:Frag}(a b:Ty):kitOne K (.type a.nm) (.type b.nm)=some (kM a b):=by
 cases a<;>cases b<;>rfl
section
variable {xr:XR}{K:Frag}{a c:Expr}{es:b9}{m:Ev}
def Yg (K:Frag)(H:Hp)(x:V)(t:Ty):Prop:=gK K H x (.type t.nm)∨∃a xs,x=.ref a/\qQ K H a xs/\t=.tup
def OA {A:Hx}{w:W}{t:Ty}(S:zS K φ A H)(q:RV K φ H w v)(e:jP w A=some t):Yg K H v t:=by
 cases w with
 |non=>cases e;obtain rfl:=q;exact .inl .non|bl k=>cases e;obtain rfl:=q;exact .inl (.bl k)|clo _ _ _=>cases e|xc _=>cases e|int k=>cases e;obtain rfl:=q;exact .inl (.int k)|str k=>cases e;obtain rfl:=q;exact .inl (.str k)|tup ws=>cases e;obtain⟨a,vs,rfl,h,_⟩:=q;exact .inr ⟨a,vs,rfl,h,rfl⟩|ref n=>
  obtain⟨a,rfl,c⟩:=q;unfold jP at e;dsimp only at e;cases E:A[n]? with
  |none=>rw[E]at e;cases e|some o=>
   rw[E]at e;obtain⟨d,b,r⟩:=S.ob n o E;rw[c]at b;cases b;cases o with
   |lst ws=>cases e;obtain⟨vs,z,_⟩:=r;exact .inl (.lst z)|dct ws=>cases e;obtain⟨vs,z,_⟩:=r;exact .inl (.dK z)|tab _ _=>cases e|ro ws=>cases e
def Yg.kit {x:V}{t:Ty}(I:Inv X pins σ H s)(r:RelV x u)(h:Yg X.K H x t):
  (∀{Q:b8}{E:b8}{A:Around}{c:Ty},(∀tk,Q (.bool (kM t c)) { s with toks:=tk })->wpAny (model X.prog X.w) A (call (.builtin "isinstance") [u,.type c.nm]) Q E s):=by
 intro Q E A c q;rcases h with h|⟨a,xs,rfl,h,rfl⟩
 ·exact Oh I r h (Gs t c) q
 ·cases (show u=Value.ref a from r)
  obtain⟨i,_,⟨o,d,b,_⟩,_⟩:=I.tuple h;exact bI kitx_tuple I.kIn ⟨o,d,b⟩ (Gs .tup c) (λz=>nomatch z) q
def eK (K:Frag):List V->Hp->VK->Prop:=λxs H Q=>∃x t c,xs=[x,.ty (Ty.nm c)]/\Yg K H x t/\Q (.bl (kM t c)) H
def BY:yv X (.builtin "isinstance") (eK X.K):=by
 intro pins s σ H xs us Q I r h;obtain⟨x,t,c,rfl,d,q⟩:=h;obtain⟨u,U,rfl,b,a⟩:=vals2 r;cases (show U=Value.type c.nm from a)
 exact d.kit I b λtk=>⟨.bl (kM t c),H,I.tok tk,rfl,q⟩
def yY (t:Ty)(m:Ev):Ev:=λρ A=>(m ρ A).bind λw A1=>match jP w A1 with
 |some t'=>.ok (.bl (kM t' t)) A1|none=>.bad
def zJ:W->W->Hx->R W:=λx y A=>match zV x A,y with
 |some ws,.int i=>match wg ws i with
  |some w=>.ok w A|none=>.bad
 |_,_=>.bad
def eL:∀x y A,jh (zJ x y A):=λx y A=>by
 unfold zJ;split
 ·split
  ·exact yR
  ·exact jx
 ·exact jx
def Cb {ws:List W}{i:Int}{w:W}(r:zE K φ H ws ys)(e:wg ws i=some w):∃y,wg ys i=some y/\RV K φ H w y:=by
 unfold wg at e ⊢;rw[<- r.length];cases h:gQ ws.length i with
 |none=>rw[h]at e;cases e|some j=>
  rw[h]at e;obtain⟨y,b,a⟩:=r.get (i:=j) e;exact⟨y,b,a⟩
def eM:yZ K (LW K) zJ:=λφ A H x y u v Q S c q p=>by
 unfold zJ at p;cases es:zV u A with
 |none=>rw[es]at p;exact p.elim|some ws=>
  rw[es]at p;cases v with
  |int i=>
   obtain rfl:=q;dsimp only at p;cases e:wg ws i with
   |none=>rw[e]at p;exact p.elim|some w=>
    rw[e]at p;obtain⟨a,ys,rfl,z,r⟩:=WY S c es;obtain⟨Y,b,h⟩:=Cb r e;rcases z with z|z
    ·exact .inl ⟨a,ys,i,Y,rfl,rfl,z,b,p φ H _ .refl S h⟩
    ·exact .inr (.inl ⟨a,ys,i,Y,rfl,rfl,z,b,p φ H _ .refl S h⟩)
  |non=>exact p.elim|bl _=>exact p.elim|str _=>exact p.elim|tup _=>exact p.elim|ref _=>exact p.elim|clo _ _ _=>exact p.elim|xc _=>exact p.elim
def Yk (K:Frag)(r:List V->Hp->VK->Prop)(g:List W->Hx->R W):Prop:=∀φ A H a ys ws Q,zS K φ A H->(jj K H a ys∨qQ K H a ys)->zE K φ H ws ys->(g ws A).post (PB K φ H Q) gO->r [.ref a] H Q
noncomputable def mQ (g:List W->Hx->R W)(q:yn):Ev:=λρ A=>(q ρ A).bind λws A1=>g ws A1
def mQ.read {g:List W->Hx->R W}{q:yn}(hn:∀ws A,jh (g ws A))(c:Yk X.K r g):∀σ H Q,tM X.K xr (mQ g q) σ H Q->Xq r (G4 (tQ X.K xr q) TQ) σ H Q:=by
 rintro σ H Q ⟨φ,A,ρ,S,re,h⟩
 refine⟨φ,A,ρ,S,re,qL (qd.mp h) (λws A1 d b H1 a ys l s z r=>?_) λ_ _ z=>z⟩;exact c b A1 H1 a ys ws Q s z r (qL (YG (hn _ _) d) (λ_ _ z=>z.mono l) λ_ _ z=>z)
def U8 {id:String}{g:List W->Hx->R W}{q:yn}(d:yv X (.builtin id) r)(hn:∀ws A,jh (g ws A))(a:Yk X.K r g)(hm:X.mg x=none)(v:bootBuiltins x=some (.builtin id))(f:SQ X xr e q)(c:Gl X x:=by rfl)
  (H:x ≠ "__name__":=by decide)(b:(x==("__debug__":Str))=false:=by decide)(he:starEach [e] X.env=(false,eval e X.env)::starEach [] X.env:=by rfl)(h:(backTo pos (starEach [] X.env)).any (·.1)=false:=by rfl):
  SE X xr (.Call (.Name x p) [e] [] pos) (mQ g q):=PE.imp (ZJ d c hm v (jw f yj he) H b he h) (mQ.read hn a)
def eN {id:String}{g:List W->Hx->R W}{q:yn}(d:yv X (.type id) r)(hn:∀ws A,jh (g ws A))(a:Yk X.K r g)(hm:X.mg x=none)(v:bootBuiltins x=some (.type id))(f:SQ X xr e q)(c:Gl X x:=by rfl)
  (H:x ≠ "__name__":=by decide)(b:(x==("__debug__":Str))=false:=by decide)(he:starEach [e] X.env=(false,eval e X.env)::starEach [] X.env:=by rfl)(h:(backTo pos (starEach [] X.env)).any (·.1)=false:=by rfl):
  SE X xr (.Call (.Name x p) [e] [] pos) (mQ g q):=PE.imp (JH d c hm v (jw f yj he) H b he h) (mQ.read hn a)
noncomputable def qx:List W->Hx->R W:=λws A=>.ok (.int ws.length) A
def Bp:Yk K (λxs H Q=>∃p ys,xs=[.ref p]/\(jj K H p ys∨qQ K H p ys)/\Q (.int ys.length) H) qx:=λφ A H a ys ws Q S z r p=>
 ⟨a,ys,rfl,z,by rw[<- r.length];exact p φ H _ .refl S rfl⟩
noncomputable def wO:List W->Hx->R W:=λws A=>.ok (.tup ws) A
def BJ:Yk K (λxs H Q=>∃p ys,xs=[.ref p]/\((jj K H p ys/\∀l,H l=none->Q (.ref l) (upd H l (.tup ys)))∨(qQ K H p ys/\Q (.ref p) H))) wO:=λφ A H a ys ws Q S z r p=>by
 refine⟨a,ys,rfl,?_⟩;rcases z with z|z
 ·refine .inl ⟨z,λl h=>?_⟩
  obtain⟨a1,a2,b⟩:=JR S h r;exact p _ _ _ a1 a2 b
 ·exact .inr ⟨z,p φ H _ .refl S ⟨a,ys,rfl,z,r⟩⟩
variable {b:Expr}
def Oz {a:Addr}(I:Inv X pins σ H s)(l:X.calm=true)(z:jj X.K H a ys∨qQ X.K H a ys)
  (h:∀(c:bV)(j:Addr)(fp wr:bW)(S:Nat->Heap->Prop)(s2:Shared),Vals ys c->ys.length<=sizeLine->Walks X.prog X.w X.A.in1 j fp wr c.length (λi v=>c[i]? =some v) S->S 0 s2.heap->(∀b∈fp,b<s2.heap.objs.size)->
   (∀(h':Heap)(tk:Nat),(∀b o,b∉wr->s2.heap.get? b=some o->h'.get? b=some o)->Inv X pins σ H { s2 with heap:=h',toks:=tk })->Q (.ref j) s2):
  wpAny (model X.prog X.w) X.A.in1 (pyIter (.ref a)) Q E s:=by
 have g:X.A.in1.handled=none:=I.ok.hd l;have keep:∀(o:Obj)(h':Heap)(tk:Nat),(∀b u,b∉[s.heap.objs.size]->(s.heap.push o).get? b=some u->h'.get? b=some u)->Inv X pins σ H { s with heap:=h',toks:=tk }:=λo h' tk k=>I.kept λb u e=>k b u (by
  intro hm;have q:b=s.heap.objs.size:=by simpa using hm
  exact absurd (q ▸ aF e) (aT _)) (af _ e)
 rcases z with z|z
 ·obtain⟨c,r,p,f⟩:=I.list z
  have t:a<s.heap.objs.size:=by obtain⟨o,n,e,_⟩:=p;exact aF e
  refine wpAny_pyIter_list p.isList ?_;have W:=Walks.list (prog:=X.prog) (w:=X.w) g s.heap.objs.size a (aI t) c.toArray;rw[aB]at W;simp only[List.getElem?_toArray]at W;refine h c s.heap.objs.size _ _ _ _ r f W ⟨⟨_,av _ rfl,rfl,rfl⟩,p.isList.at λo e=>af _ e⟩ (λb d=>?_) λh' tk k=>keep _ h' tk k;show b<(s.heap.push _).objs.size;rw[bg];rcases cw.mp d with e|d
  ·rw[e];exact bh _
  ·have e:b=a:=by simpa using d
   rw[e];exact a6 t
 ·obtain⟨c,r,p,f⟩:=I.tuple z
  have t:a<s.heap.objs.size:=p.lt;have P:s.heap.IsTuple a c.toArray:=p;refine wpAny_pyIter_tuple P ?_;have W:=Walks.tuple (prog:=X.prog) (w:=X.w) g s.heap.objs.size a (aI t) c.toArray;rw[aB]at W;simp only[List.getElem?_toArray]at W;refine h c s.heap.objs.size _ _ _ _ r f W ⟨⟨_,av _ rfl,rfl,rfl⟩,P.at λo e=>af _ e⟩ (λb d=>?_) λh' tk k=>keep _ h' tk k;show b<(s.heap.push _).objs.size;rw[bg];rcases cw.mp d with e|d
  ·rw[e];exact bh _
  ·have e:b=a:=by simpa using d
   rw[e];exact a6 t
noncomputable def Wk:V->Option Bool
 |.bl b=>some b|.int i=>some (i != 0)|.non=>some false|_=>none
noncomputable def Wh:W->Option Bool
 |.bl b=>some b|.int i=>some (i != 0)|.non=>some false|_=>none
def D2 {w:W}{k:Bool}(q:RV K φ H w v)(e:Wh w=some k):Wk v=some k:=by
 cases w<;>first
  |(cases e;done)
  |(obtain rfl:=q;exact e)
def EH {A:Around}{k:Bool}{Q:Bool->Shared->Prop}(r:RelV v u)(e:Wk v=some k)(h:Q k s):wpAny (model X.prog X.w) A (truthy u) Q E s:=by
 cases v with
 |bl b=>cases e;cases r;exact wpAny_truthy_bool h|int i=>
  cases e;obtain⟨t,rfl⟩:=r;exact PySem.P.truthy_int h
 |non=>cases e;cases r;exactλ_ _ _=>h|_=>cases e
def Zn:List W->Option (List Bool)
 |[]=>some []|w::ws=>match Wh w,Zn ws with
  |some k,some ks=>some (k::ks)|_,_=>none
theorem R9:∀{ws:List W}{ys:List V}{ks:List Bool},zE K φ H ws ys->Zn ws=some ks->∀(i:Nat)(y:V),ys[i]? =some y->∃k,ks[i]? =some k/\Wk y=some k
 |[],_,_,r,e,i,y,h=>by cases r;simp at h|w::ws,_,ks,⟨v,r,g,q,t⟩,e,i,y,h=>by
  subst g;unfold Zn at e;cases E:Wh w with
  |none=>rw[E]at e;cases e|some k=>
   cases a:Zn ws with
   |none=>rw[E,a]at e;cases e|some b=>
    rw[E,a]at e;cases e;cases i with
    |zero=>simp at h;subst h;exact⟨k,by simp,D2 q E⟩|succ i=>simp at h;obtain⟨c,f,d⟩:=R9 t a i y h;exact⟨c,by simpa using f,d⟩
theorem PN:∀{ws:List W}{ks:List Bool},Zn ws=some ks->ks.length=ws.length
 |[],_,e=>by cases e;rfl|w::ws,ks,e=>by
  unfold Zn at e;cases a:Wh w with
  |none=>rw[a]at e;cases e|some k=>
   cases E:Zn ws with
   |none=>rw[a,E]at e;cases e|some K=>rw[a,E]at e;cases e;simp[PN E]
def range_all (ks:List Bool):(List.range ks.length).all (λi=>ks.getD i false)=ks.all id:=by
 rw[Bool.eq_iff_iff,bA,bA]
 constructor
 ·intro h x a
  obtain⟨i,hi,rfl⟩:=bx a
  have:=h i (cz.mpr hi)
  rw[ae,aa hi]at this;exact this
 ·intro h i hi
  have H:=cz.mp hi;rw[ae,aa H];exact h _ (aM H)
def LG (K:Frag)(f:List Bool->Bool):List V->Hp->VK->Prop:=λxs H Q=>∃a ys ks,xs=[.ref a]/\(jj K H a ys∨qQ K H a ys)/\ks.length=ys.length/\(∀(i:Nat)(y:V),ys[i]? =some y->∃k,ks[i]? =some k/\Wk y=some k)/\Q (.bl (f ks)) H
def CZ {ks:List Bool}{A:Around}(r:Vals ys its)(l:ks.length=ys.length)(t:∀(i:Nat)(y:V),ys[i]? =some y->∃k,ks[i]? =some k/\Wk y=some k):TruthOf X.prog X.w A (λi v=>its[i]? =some v) λi=>ks.getD i false:=by
 intro i v s Q E P H;have hi:i<its.length:=(cx.mp P).1;have h:i<ys.length:=by rw[r.length];exact hi
 obtain⟨u,a,d⟩:=r.get (i:=i) (x:=ys[i]) (by simp[h])
 rw[P]at a;cases a;obtain⟨k,c,b⟩:=t i ys[i] (by simp[h])
 dsimp only at H;rw[ae,c]at H;exact EH d b H
def Ce (d:X.calm=true):yv X (.builtin "all") (LG X.K λks=>ks.all id):=by
 intro pins s σ H xs us Q I r h;obtain⟨a,ys,ks,rfl,z,l,t,q⟩:=h;obtain⟨u,rfl,c⟩:=vals1 r;cases c;refine call_all_walk (Oz I d z λb f fp wr S s2 v g W st p back=>?_);refine⟨f,fp,wr,_,_,S,λi=>ks.getD i false,rfl,W,st,CZ v l t,λh' tk k=>?_⟩;have e:b.length=ks.length:=by rw[l,v.length]
 rw[e,range_all];exact⟨.bl _,H,back h' tk k,rfl,q⟩
def gH (f:List Bool->Bool):List W->Hx->R W:=λws A=>match Zn ws with
 |some ks=>.ok (.bl (f ks)) A|none=>.bad
def eO {f:List Bool->Bool}:∀ws A,jh (gH f ws A):=λws A=>by
 unfold gH;split
 ·exact yR
 ·exact jx
def BS {f:List Bool->Bool}:Yk K (LG K f) (gH f):=λφ A H a ys ws Q S z r p=>by
 unfold gH at p;cases e:Zn ws with
 |none=>rw[e]at p;exact p.elim|some ks=>
  rw[e]at p;exact⟨a,ys,ks,rfl,z,by rw[PN e,r.length],R9 r e,p φ H _ .refl S rfl⟩
abbrev gI:=gH λks=>ks.all id
end
noncomputable def Ly (outer sc:Scope):Bool:=sc.kind==.function&&decide ((sc.names.map (·.1)).Nodup)&&sc.names.all λy=>y.2 != .free || (outer.names.lookup y.1==some .cell || outer.names.lookup y.1==some .free)
def cps (h:Ly X.env.scope sc=true):Zm X sc:=by
 unfold Ly at h;rw[ak,ak,ai,aN,bA]at h;refine⟨h.1.1,h.1.2,λy H e=>?_⟩
 have:=h.2 y H
 rw[e]at this;simp only[bne_self_eq_false,Bool.false_or,bD,aN]at this;exact this
section
variable {xr:XR}{K:Frag}{a b:Expr}{ma mb:Ev}
theorem zS.lst {φ:bW}{A:Hx}{H:Hp}{n:Nat}{ws:List W}{v:V}(S:zS K φ A H)(q:RV K φ H (.ref n) v)(e:A[n]? =some (.lst ws)):∃p vs,v=.ref p/\φ[n]? =some p/\H p=some (.lst vs)/\zE K φ H ws vs:=by
 obtain⟨p,rfl,a⟩:=q;obtain⟨P,h,vs,c,b⟩:=S.ob n _ e;rw[a]at h;cases h;exact⟨p,vs,rfl,a,c,b⟩
def DV {prog:Program}{A:Around}{t b:Addr}{ws:bV}(a:IsTup s.heap t ([]:bV).toArray)(e:IsTup s.heap b ws.toArray)(h0:Q (.ref b) s):
  wpAny (model prog w) A (binaryOp .Add (.ref t) (.ref b)) Q E s:=by
 obtain⟨⟨cls,dd,data,l⟩,o,c,n,hd⟩:=id a;obtain⟨⟨C,d,data2,S⟩,h,H,N,hd2⟩:=id e;simp only at c hd H hd2;subst c hd H hd2;exact concat_meets ⟨_,o,rfl⟩ ⟨_,h,rfl⟩ noFill_tuple_add seq_tuple_add slot_tuple_add entry_tuple_add (args_tuple_add_2 _ _)
   (tuple_addW0 t b ([]:bV).toArray ws.toArray n N dd d l S (by simp)) ⟨o,h,h0⟩
noncomputable def N3 (K:Frag):R2:=λx y H Q=>∃a b ys,x=.ref a/\y=.ref b/\qQ K H a []/\qQ K H b ys/\Q (.ref b) H
def D1:ji X (binaryOp .Add) (N3 X.K):=by
 intro pins s σ H x y v u Q I c r h;obtain⟨a,b,ys,rfl,rfl,g,f,q⟩:=h;cases c;cases r;obtain⟨e,d,P,_⟩:=I.tuple g;obtain⟨i,j,p,_⟩:=I.tuple f;cases d;exact DV P p ⟨.ref b,H,I,rfl,q⟩
def qa:W->W->Hx->R W:=λx y A=>match x,y with
 |.int i,.int j=>.ok (.int (i+j)) A|.tup xs,.tup ys=>if xs.length+ys.length<=qf then .ok (.tup (xs++ys)) A else .bad|.ref n,.ref k=>match A[n]?,A[k]? with
  |some (.lst xs),some (.lst ys)=>if xs.length+ys.length<=qf then .ok (.ref A.length) (A++[.lst (xs++ys)]) else .bad|_,_=>.bad
 |_,_=>.bad
def eQ:∀x y A,jh (qa x y A):=λx y A=>by
 unfold qa
 split
 ·exact yR
 ·exact Qu yR jx
 ·split
  ·exact Qu yR jx
  ·exact jx
 ·exact jx
def Qf (h:n<=qf):n<=sizeLine:=by
 have:sizeLine=16777216:=sizeLine_eq
 unfold qf at h;omega
def BW:yZ K (λx y H Q=>Zv (λi j=>.int (i+j)) x y H Q∨M7 K x y H Q∨N3 K x y H Q∨Ll x y H Q) qa:=λφ A H x y u v Q S f q p=>by
 cases u with
 |int i=>cases v with
  |int j=>obtain rfl:=f;obtain rfl:=q;exact .inl ⟨i,j,rfl,rfl,p φ H _ .refl S rfl⟩|_=>exact p.elim
 |tup xs=>cases v with
  |tup ys=>
   obtain⟨a1,b,rfl,t1,c⟩:=f;obtain⟨a2,a,rfl,t,r⟩:=q;unfold qa at p;dsimp only at p
   by_cases h:xs.length+ys.length<=qf
   ·rw[ah h]at p
    by_cases z:b=[]
    ·subst z
     have o:xs=[]:=by
      have:=c.length
      simpa using this
     subst o;exact .inr (.inr (.inl ⟨a1,a2,a,rfl,rfl,t1,t,p φ H _ .refl S ⟨a2,a,rfl,t,r⟩⟩))
    ·refine .inr (.inl ⟨a1,a2,b,a,rfl,rfl,t1,t,z,by rw[<- c.length,<- r.length];exact Qf h,λe=>?_,λne l g=>?_⟩)
     ·subst e
      have o:ys=[]:=by
       have:=r.length
       simpa using this
      subst o;rw[a8]at p;exact p φ H _ .refl S ⟨a1,b,rfl,t1,c⟩
     ·obtain⟨w,s,B⟩:=JR S g (c.append r)
      exact p _ _ _ w s B
   ·rw[aj h]at p;exact p.elim
  |_=>exact p.elim
 |ref n=>cases v with
  |ref k=>
   unfold qa at p;dsimp only at p;cases E:A[n]? with
   |none=>rw[E]at p;exact p.elim|some I=>cases I with
    |lst xs=>
     cases d:A[k]? with
     |none=>rw[E,d]at p;exact p.elim|some D=>cases D with
      |lst ys=>
       rw[E,d]at p;dsimp only at p;obtain⟨C,v1,rfl,f1,g1,c⟩:=S.lst f E;obtain⟨P,v2,rfl,f2,g2,r⟩:=S.lst q d
       by_cases h:xs.length+ys.length<=qf
       ·rw[ah h]at p
        refine .inr (.inr (.inr ⟨C,P,v1,v2,rfl,rfl,g1,g2,by rw[<- c.length,<- r.length];exact Qf h,λl g=>?_⟩))
        obtain⟨w,s,B⟩:=Jc S g (c.append r);exact p _ _ _ w s B
       ·rw[aj h]at p;exact p.elim
      |_=>rw[E,d]at p;exact p.elim
    |_=>rw[E]at p;exact p.elim
  |_=>exact p.elim
 |_=>cases v<;>exact p.elim
def jk:W->W->Hx->R W:=λx y A=>match x,y with
 |.int i,.int j=>if Wj i j then .ok (.int (i * j)) A else .bad|.ref n,.int k=>match A[n]? with
  |some (.lst xs)=>if jD k&&decide (xs.length * k.toNat<=qf) then .ok (.ref A.length) (A++[.lst (List.replicate k.toNat xs).flatten]) else .bad|_=>.bad
 |_,_=>.bad
def eR:∀x y A,jh (jk x y A):=λx y A=>by
 unfold jk
 split
 ·exact Qu yR jx
 ·split
  ·exact Qu yR jx
  ·exact jx
 ·exact jx
theorem zE.rep {ws:List W}{vs:List V}(r:zE K φ H ws vs):∀n:Nat,zE K φ H (List.replicate n ws).flatten (List.replicate n vs).flatten
 |0=>.nil|n+1=>by rw[a7,a7,aY,aY];exact r.append (zE.rep r n)
def AO:yZ K (λx y H Q=>rI Wn (λi j=>.int (i * j)) x y H Q∨Lw x y H Q) jk:=λφ A H x y u v Q S a q p=>by
 cases v with
 |int j=>cases u with
  |int i=>
   obtain rfl:=a;obtain rfl:=q;unfold jk at p;dsimp only at p
   by_cases c:Wj i j=true
   ·rw[ah c]at p;exact .inl ⟨i,j,rfl,rfl,AA i j c,p φ H _ .refl S rfl⟩
   ·rw[aj c]at p;exact p.elim
  |ref n=>
   obtain rfl:=q;unfold jk at p;dsimp only at p;cases e:A[n]? with
   |none=>rw[e]at p;exact p.elim|some o=>cases o with
    |lst xs=>
     rw[e]at p;dsimp only at p;obtain⟨P,v1,rfl,f1,g1,r⟩:=S.lst a e
     by_cases h:(jD j&&decide (xs.length * j.toNat<=qf))=true
     ·rw[ah h]at p
      rw[ak,ai]at h;obtain⟨g,B⟩:=QZ h.1;refine .inr ⟨P,j,v1,rfl,rfl,g1,by omega,by omega,by rw[<- r.length];exact Qf h.2,λl b=>?_⟩
      obtain⟨f,d,C⟩:=Jc S b (r.rep j.toNat);exact p _ _ _ f d C
     ·rw[aj h]at p;exact p.elim
    |_=>rw[e]at p;exact p.elim
  |_=>exact p.elim
 |_=>cases u<;>exact p.elim
def yi:W->W->Hx->R W:=λx y A=>match x with
 |.ref n=>match A[n]? with
  |some (.lst ws)=>if ws.length<qf then .ok .non (A.set n (.lst (ws++[y]))) else .bad|_=>.bad
 |_=>.bad
noncomputable def Y5 (x:W)(A:Hx):Bool:=match x with
 |.ref n=>match A[n]? with
  |some (.lst _)=>true|_=>false
 |_=>false
def CC {A:Hx}{w:W}(S:zS K φ A H)(q:RV K φ H w v)(e:Y5 w A=true):T9 K "list" v H:=by
 unfold Y5 at e;cases w with
 |ref n=>
  dsimp only at e;cases E:A[n]? with
  |none=>rw[E]at e;cases e|some o=>cases o with
   |lst ws=>obtain⟨p,vs,rfl,_,h,_⟩:=S.lst q E;exact .inl ⟨rfl,_,jj.of h⟩|_=>rw[E]at e;cases e
 |_=>cases e
def jU (g:W->W->Hx->R W)(a b:Ev):Ev:=λρ A=>(a ρ A).bind λx A1=>if Y5 x A1 then(b ρ A1).bind λy A2=>g x y A2 else .bad
def To {nm:Str}{id:String}{r:V->List V->Hp->VK->Prop}{g:W->W->Hx->R W}{apos c:Pos}(slot:Slot "list" nm id)(k:typeOf (.builtin id)=pure (.type "method_descriptor"))(hm:LO X id r)(hn:∀x y A,jh (g x y A))
  (D:∀φ A H x y u v Q,zS X.K φ A H->RV X.K φ H u x->RV X.K φ H v y->(g u v A).post (PB X.K φ H Q) gO->r x [y] H Q)(C:SE X xr a ma)(he:SE X xr b mb)
  (s:starEach [b] X.env=(false,eval b X.env)::starEach [] X.env)(d:attributeBase a nm X.env (eval a X.env)=eval a X.env)
  (f:((backTo c (starEach [b] X.env)).all (λx=>!x.1)&&(backToKw c (keywordEach [] X.env)).all (λx=>x.1.isSome)
   && decide ([b].length+([]:ck).length+(if ([]:ck).isEmpty then 0 else 1)<30))=true)(e:(apos.endLine==c.line)=true):
  SE X xr (.Call (.Attribute a nm apos) [b] [] c) (jU g ma mb):=
 PE.imp (ed PySem.F.plainAttrs_list slot k hm C (jw he yj s) d f e s (by rfl)) λσ H Q ⟨φ,A,ρ,S,re,h⟩=>by
  refine tM.go S re (qd.mp h) λw A1 p H1 v i l o q=>?_
  by_cases n:Y5 w A1=true
  ·rw[ah n]at i
   refine⟨CC o q n,?_⟩;refine tM.go o (re.mono l) (qL (qd.mp i) (λ_ _ z=>z) λ_ _ z=>z.mono l) λt A2 j J v2 E L I B=>?_;exact D j A2 J v v2 w t Q I (q.mono L) B (qL (YG (hn _ _ _) E) (λ_ _ z=>z.mono (l.trans L)) λ_ _ z=>z)
  ·rw[aj n]at i;exact i.elim
def EM:∀x y A,jh (yi x y A):=λx y A=>by
 unfold yi
 split
 ·split
  ·exact Qu yR jx
  ·exact jx
 ·exact jx
def ZN:W->W->Hx->R W:=λx y A=>match x,y with
 |.ref n,.int i=>match A[n]? with
  |some (.lst ws)=>match (if jD i then seqIndex? i ws.length else none) with
   |some k=>match ws[k]? with
    |some w=>.ok w (A.set n (.lst (ws.eraseIdx k)))|none=>.bad
   |none=>.bad
  |_=>.bad
 |_,_=>.bad
def Ct:∀x y A,jh (ZN x y A):=λx y A=>by
 unfold ZN
 split
 ·split
  ·split
   ·split
    ·exact yR
    ·exact jx
   ·exact jx
  ·exact jx
 ·exact jx
def kK:W->W->W->Hx->R Unit:=λo i v A=>match o,i with
 |.ref n,.int k=>match A[n]? with
  |some (.lst ws)=>match gQ ws.length k with
   |some j=>.ok () (A.set n (.lst (ws.set j v)))|none=>.bad
  |_=>.bad
 |_,_=>.bad
def Mg:∀o i v A,jh (kK o i v A):=λo i v A=>by
 unfold kK
 split
 ·split
  ·split
   ·exact yR
   ·exact jx
  ·exact jx
 ·exact jx
def Ng:Lh K M6 kK:=λφ A H o i v w wi wv Q S d c q p=>by
 unfold kK at p;cases w with
 |ref n=>cases wi with
  |int k=>
   obtain rfl:=c;dsimp only at p;cases e:A[n]? with
   |none=>rw[e]at p;exact p.elim|some f=>cases f with
    |lst ws=>
     rw[e]at p;dsimp only at p;cases E:gQ ws.length k with
     |none=>rw[E]at p;exact p.elim|some j=>
      rw[E]at p;obtain⟨l,vs,rfl,f1,g1,r⟩:=S.lst d e;have ln:Le K φ H φ (upd H l (.lst (vs.set j v))):=Le.upd f1 (λxs z=>by rw[g1]at z;cases z) (λ_ _ z=>by rw[g1]at z;cases z)
      obtain⟨b,a⟩:=S.write (o:=.lst ws) (o':=.lst (ws.set j wv)) e rfl rfl f1 ⟨_,jS,(r.mono ln).set (q.mono ln) j⟩;exact⟨l,vs,k,j,rfl,rfl,g1,by rw[<- r.length];exact E,p _ _ b a⟩
    |_=>rw[e]at p;exact p.elim
  |_=>exact p.elim
 |_=>cases wi<;>exact p.elim
variable {es:b9}{m:Ev}
def eS {id:String}{g:W->Hx->R W}(i:yv X (.builtin id) r)(hn:∀w A,jh (g w A))(f:XH X.K (λv=>r [v]) g)(hm:X.mg x=none)(d:bootBuiltins x=some (.builtin id))(j:SE X xr e m)(b:Gl X x:=by rfl)
  (a:x ≠ "__name__":=by decide)(c:(x==("__debug__":Str))=false:=by decide)(he:starEach [e] X.env=(false,eval e X.env)::starEach [] X.env:=by rfl)(l:(backTo pos (starEach [] X.env)).any (·.1)=false:=by rfl):
  SE X xr (.Call (.Name x p) [e] [] pos) (ju g m):=PE.imp (ZJ i b hm d (jw j yj he) a c he l) λσ H Q h=>ju.read (r:=λv=>r [v]) hn f σ H Q h
def eT {id:String}{g:W->Hx->R W}(i:yv X (.type id) r)(hn:∀w A,jh (g w A))(f:XH X.K (λv=>r [v]) g)(hm:X.mg x=none)(d:bootBuiltins x=some (.type id))(j:SE X xr e m)(b:Gl X x:=by rfl)
  (a:x ≠ "__name__":=by decide)(c:(x==("__debug__":Str))=false:=by decide)(he:starEach [e] X.env=(false,eval e X.env)::starEach [] X.env:=by rfl)(l:(backTo pos (starEach [] X.env)).any (·.1)=false:=by rfl):
  SE X xr (.Call (.Name x p) [e] [] pos) (ju g m):=PE.imp (JH i b hm d (jw j yj he) a c he l) λσ H Q h=>ju.read (r:=λv=>r [v]) hn f σ H Q h
def Tu {id:String}{g:W->W->Hx->R W}(o:yv X (.builtin id) r)(hn:∀w j A,jh (g w j A))(n:yZ X.K (λv c=>r [v,c]) g)(hm:X.mg x=none)(k:bootBuiltins x=some (.builtin id))(s:SE X xr a ma)(q:SE X xr b mb)(e:Gl X x)
  (d:x ≠ "__name__")(f:(x==("__debug__":Str))=false)(i:starEach [a,b] X.env=(false,eval a X.env)::starEach [b] X.env)(t:starEach [b] X.env=(false,eval b X.env)::starEach [] X.env)(l:(backTo pos (starEach [b] X.env)).any (·.1)=false):
  SE X xr (.Call (.Name x p) [a,b] [] pos) (zj g ma mb):=PE.imp (ZJ o e hm k (jw s (jw q yj t) i) d f i l) λσ H Q h=>zj.read (r:=λv c=>r [v,c]) hn n σ H Q h
noncomputable def Wf:W->Hx->R W
 |.int i,A=>.ok (.int (if i<0 then -i else i)) A|_,_=>.bad
noncomputable def J5:W->Hx->R W
 |.int i,A=>.ok (.int i) A|.bl k,A=>.ok (.int (if k then 1 else 0)) A|_,_=>.bad
def Tn:=ZE λi j=>.int (if j > i then j else i)
def Jl:=ZE λi j=>.int (if j<i then j else i)
noncomputable def gh:W->Bool
 |.tup _=>false|.ref _=>false|.clo _ _ _=>false|.xc _=>false|_=>true
noncomputable def TU:W->W->Bool
 |.non,.non=>true|.bl a,.bl b=>a==b|.bl a,.int b=>(if a then 1 else 0)==b|.int a,.bl b=>a==(if b then 1 else 0)|.int a,.int b=>a==b|.str a,.str b=>a==b|_,_=>false
def Z6 (x:W)(xs:List W):Bool:=xs.any λy=>TU y x
def Ou {w:W}(q:RV K φ H w v)(e:gh w=true):ZW v=true:=by
 cases w<;>first
  |(cases e;done)
  |(obtain rfl:=q;rfl)
def Dm {w a:W}{b:V}(q:RV K φ H w v)(Q:RV K φ H a b)(e:gh w=true)(E:gh a=true):QO v b=TU w a:=by
 cases w<;>cases a<;>first
  |(cases e;done)
  |(cases E;done)
  |(obtain rfl:=q;obtain rfl:=Q;rfl)
theorem Ow {x:W}(q:RV K φ H x v)(e:gh x=true):∀{xs:List W}{vs:List V},zE K φ H xs vs->xs.all gh=true->vs.all ZW=true/\Xy v vs=Z6 x xs
 |[],_,r,_=>by cases r;exact⟨rfl,rfl⟩|w::ws,_,⟨y,r,E,h,t⟩,a=>by
  subst E;rw[List.all_cons,ak]at a;obtain⟨I,i⟩:=Ow q e t a.2;refine⟨by rw[List.all_cons,Ou h a.1,I];rfl,?_⟩
  unfold Xy Z6 at i ⊢;rw[any_cons,any_cons,i,Dm h q a.1 e]
def Z3 (neg:Bool):W->W->Hx->R W:=λx y A=>match zV y A with
 |some ws=>if gh x&&ws.all gh then .ok (.bl (if neg then !Z6 x ws else Z6 x ws)) A else .bad|none=>.bad
abbrev Y8:=Z3 false
abbrev YT:=Z3 true
def Mx {n:Bool}:∀x y A,jh (Z3 n x y A):=λx y A=>by
 unfold Z3
 split
 ·exact Qu yR jx
 ·exact jx
def Ma {n:Bool}:yZ K (Sh K n) (Z3 n):=λφ A H x y u v Q S q b p=>by
 unfold Z3 at p;cases es:zV v A with
 |none=>rw[es]at p;exact p.elim|some ws=>
  rw[es]at p;dsimp only at p
  by_cases hf:(gh u&&ws.all gh)=true
  ·rw[ah hf]at p
   rw[ak]at hf;obtain⟨a,ys,rfl,z,r⟩:=WY S b es;obtain⟨I,i⟩:=Ow q hf.1 r hf.2;exact⟨a,ys,rfl,z,Ou q hf.1,I,by rw[i];exact p φ H _ .refl S rfl⟩
  ·rw[aj hf]at p;exact p.elim
structure Xa (X:Cx)(op:CmpOp)(g:W->W->Hx->R W):Prop where
 ex:∃r:R2,ji X (compareOp op) r/\(∀x y A,jh (g x y A))/\yZ X.K r g
def TK:Xa X .In Y8:=⟨_,E9,Mx,Ma⟩
def Ba:Xa X .NotIn YT:=⟨_,HW,Mx,Ma⟩
end
noncomputable def j9 (f:W->Option PyData):List W->Option (List PyData)
 |[]=>some []|w::ws=>match f w,j9 f ws with
  |some d,some ds=>some (d::ds)|_,_=>none
def qm (A:Hx):Nat->W->Option PyData
 |_,.non=>some .none|_,.bl b=>some (.bool b)|_,.int i=>some (.int i)|_,.str x=>if PyData.strOk x then some (.str x) else none|_,.clo _ _ _=>none|_,.xc _=>none|0,.tup _=>none|0,.ref _=>none|n+1,.tup ws=>(j9 (qm A n) ws).map .tuple|n+1,.ref k=>match zV (.ref k) A with
  |some ws=>(j9 (qm A n) ws).map .list|none=>none
def Dz {K:Frag}{A:Hx}{us:List W}(S:zS K φ A H)(q:RV K φ H (.ref n) v)(e:zV (.ref n) A=some us):∃a ys,v=.ref a/\jj K H a ys/\zE K φ H us ys:=by
 obtain⟨a,rfl,d⟩:=q;unfold zV at e;dsimp only at e;cases E:A[n]? with
 |none=>rw[E]at e;cases e|some o=>
  rw[E]at e;obtain⟨f,c,r⟩:=S.ob n o E;rw[d]at c;cases c;cases o with
  |lst xs=>cases e;obtain⟨ys,b,h⟩:=r;exact⟨a,ys,rfl,jj.of b,h⟩|ro xs=>cases e;obtain⟨ys,b,h⟩:=r;exact⟨a,ys,rfl,b.sq,h⟩|dct xs=>cases e|tab _ _=>cases e
section
variable {a:Expr}
theorem VE {K:Frag}{f:W->Option PyData}(hf:∀w v u d,RV K φ H w v->RelV v u->f w=some d->∃as,Reads h u d as):
  ∀{ws:List W}{vs:List V}{us:bV}{ds:List PyData},zE K φ H ws vs->Vals vs us->j9 f ws=some ds->∃as,ReadsAll h us ds as
 |[],_,_,_,r,a,e=>by cases r;cases a;cases e;exact⟨[],.nil⟩|w::ws,_,_,ds,⟨v,r,k,q,t⟩,a,e=>by
  subst k;cases a with
  |cons g c=>
   unfold j9 at e;cases E:f w with
   |none=>rw[E]at e;cases e|some d=>
    cases b:j9 f ws with
    |none=>rw[E,b]at e;cases e|some D=>
     rw[E,b]at e;cases e;obtain⟨as,j⟩:=hf w v _ d q g E;obtain⟨bs,i⟩:=VE hf t c b;exact⟨_,.cons j i⟩
def YF {A:Hx}(I:Inv X pins σ H s)(S:zS X.K φ A H):∀(n:Nat)(w:W)(v:V)(u:Value)(d:PyData),RV X.K φ H w v->RelV v u->qm A n w=some d->∃as,Reads s.heap u d as:=by
 intro n
 induction n with
 |zero=>
  intro w v u d q r e;cases w with
  |non=>obtain rfl:=q;cases r;cases e;exact⟨_,.none⟩|bl k=>obtain rfl:=q;cases r;cases e;exact⟨_,.bool k⟩|int k=>obtain rfl:=q;obtain⟨t,rfl⟩:=r;cases e;exact⟨_,.int k t⟩|str k=>
   obtain rfl:=q;obtain⟨t,rfl⟩:=r;unfold qm at e
   split at e
   ·cases e;exact⟨_,.str k t⟩
   ·cases e
  |tup _=>cases e|ref _=>cases e|clo _ _ _=>unfold qm at e;cases e|xc _=>unfold qm at e;cases e
 |succ n x=>
  intro w v u d q r e;cases w with
  |non=>obtain rfl:=q;cases r;cases e;exact⟨_,.none⟩|bl k=>obtain rfl:=q;cases r;cases e;exact⟨_,.bool k⟩|clo _ _ _=>unfold qm at e;cases e|xc _=>unfold qm at e;cases e|int k=>obtain rfl:=q;obtain⟨t,rfl⟩:=r;cases e;exact⟨_,.int k t⟩|str k=>
   obtain rfl:=q;obtain⟨t,rfl⟩:=r;unfold qm at e
   split at e
   ·cases e;exact⟨_,.str k t⟩
   ·cases e
  |tup ws=>
   obtain⟨a,vs,rfl,h,c⟩:=q;cases r;unfold qm at e;cases E:j9 (qm A n) ws with
   |none=>rw[E]at e;cases e|some ds=>
    rw[E]at e;cases e;obtain⟨i,b,⟨o,l,j,k,g⟩,_⟩:=I.tuple h;obtain⟨as,f⟩:=VE x c b E;exact⟨_,.tuple l j g (by simpa using f)⟩
  |ref k=>
   unfold qm at e;cases E:zV (.ref k) A with
   |none=>rw[E]at e;cases e|some ws=>
    rw[E]at e;dsimp only at e;obtain⟨a,ys,rfl,h,c⟩:=Dz S q E;cases r;cases p:j9 (qm A n) ws with
    |none=>rw[p]at e;cases e|some ds=>
     rw[p]at e;cases e;obtain⟨i,b,⟨o,y,l,j,_,g⟩,_⟩:=I.list h;obtain⟨as,f⟩:=VE x c b p;exact⟨_,.list l j g (by simpa using f)⟩
def VL {A:Hx}:∀(n:Nat)(w:W)(d:PyData),qm A n w=some d->d.canLay0=true/\d.depth<=n:=by
 intro n;have lst:∀{n:Nat},(∀(w:W)(d:PyData),qm A n w=some d->d.canLay0=true/\d.depth<=n)->∀(ws:List W)(ds:List PyData),j9 (qm A n) ws=some ds->PyData.canLayAll0 ds=true/\PyData.depthAll ds<=n:=by
  intro n i ws
  induction ws with
  |nil=>intro ds e;cases e;exact⟨by simp[PyData.canLayAll0],by simp[PyData.depthAll]⟩|cons w ws I=>
   intro ds e;unfold j9 at e;cases E:qm A n w with
   |none=>rw[E]at e;cases e|some d=>
    cases b:j9 (qm A n) ws with
    |none=>rw[E,b]at e;cases e|some D=>
     rw[E,b]at e;cases e;obtain⟨h,c⟩:=i w d E;obtain⟨f,g⟩:=I D b;refine⟨by simp[PyData.canLayAll0,h,f],?_⟩
     simp only[PyData.depthAll];omega
 induction n with
 |zero=>
  intro w d e;cases w with
  |tup _=>cases e|ref _=>cases e|clo _ _ _=>unfold qm at e;cases e|xc _=>unfold qm at e;cases e|str x=>
   unfold qm at e
   split at e
   ·rename_i H;cases e;exact⟨by simp[PyData.canLay0,H],by simp[PyData.depth]⟩
   ·cases e
  |_=>cases e;exact⟨by simp[PyData.canLay0],by simp[PyData.depth]⟩
 |succ n i=>
  intro w d e;cases w with
  |clo _ _ _=>unfold qm at e;cases e|xc _=>unfold qm at e;cases e|tup ws=>
   unfold qm at e;cases a:j9 (qm A n) ws with
   |none=>rw[a]at e;cases e|some ds=>
    rw[a]at e;cases e;obtain⟨h,c⟩:=lst i ws ds a;refine⟨by simp[PyData.canLay0,h],?_⟩
    simp only[PyData.depth];omega
  |ref k=>
   unfold qm at e;cases a:zV (.ref k) A with
   |none=>rw[a]at e;cases e|some ws=>
    rw[a]at e;dsimp only at e;cases E:j9 (qm A n) ws with
    |none=>rw[E]at e;cases e|some ds=>
     rw[E]at e;cases e;obtain⟨h,c⟩:=lst i ws ds E;refine⟨by simp[PyData.canLay0,h],?_⟩
     simp only[PyData.depth];omega
  |str x=>
   unfold qm at e
   split at e
   ·rename_i H;cases e;exact⟨by simp[PyData.canLay0,H],by simp[PyData.depth]⟩
   ·cases e
  |_=>cases e;exact⟨by simp[PyData.canLay0],by simp[PyData.depth]⟩
def wy (neg:Bool):W->W->Hx->R W:=λx y A=>match qm A 8 x,qm A 8 y with
 |some d,some d'=>.ok (.bl (if neg then !PyData.eqv d d' else PyData.eqv d d')) A|_,_=>.bad
abbrev jd:=wy false
abbrev jf:=wy true
def ML {n:Bool}:∀x y A,jh (wy n x y A):=λx y A=>by
 unfold wy
 split
 ·exact yR
 ·exact jx
def TY (K:Frag)(neg:Bool):R2:=λx y H Q=>∃φ A u v d d',zS K φ A H/\RV K φ H u x/\RV K φ H v y/\qm A 8 u=some d/\qm A 8 v=some d'/\Q (.bl (if neg then !PyData.eqv d d' else PyData.eqv d d')) H
def GB {A:Hx}{w:W}(h:qm A 8 w=some d):SeqAt.shaped d=true:=by
 obtain⟨H,a⟩:=VL 8 w d h;unfold SeqAt.shaped;rw[H,Bool.true_and,ai];omega
def eU (g:X.A.units+64<cLine):ji X (compareOp .Eq) (TY X.K false):=by
 intro pins s σ H x y v u Q I b r h;obtain⟨φ,A,a,w,d,d',S,f,c,E,e,q⟩:=h;obtain⟨as,j⟩:=YF I S 8 a x v d f b E;obtain⟨bs,i⟩:=YF I S 8 w y u d' c r e;exact eq_dataH j i (GB E) (GB e) g ⟨.bl _,H,I,rfl,q⟩
def eV (g:X.A.units+64<cLine):ji X (compareOp .NotEq) (TY X.K true):=by
 intro pins s σ H x y v u Q I b r h;obtain⟨φ,A,a,w,d,d',S,f,c,E,e,q⟩:=h;obtain⟨as,j⟩:=YF I S 8 a x v d f b E;obtain⟨bs,i⟩:=YF I S 8 w y u d' c r e;exact ne_dataH j i (GB E) (GB e) g ⟨.bl _,H,I,rfl,q⟩
def NP {K:Frag}{n:Bool}:yZ K (TY K n) (wy n):=λφ A H x y u v Q S a q p=>by
 unfold wy at p;cases e:qm A 8 u with
 |none=>rw[e]at p;exact p.elim|some d=>
  cases E:qm A 8 v with
  |none=>rw[e,E]at p;exact p.elim|some d'=>
   rw[e,E]at p;exact⟨φ,A,u,v,d,d',S,a,q,e,E,p φ H _ .refl S rfl⟩
def kj (h:jR k X.A):gF X .Eq jd:=YM (eU h.units) ML NP
def wa (h:jR k X.A):gF X .NotEq jf:=YM (eV h.units) ML NP
end
mutual
noncomputable def W.nr:W->Bool
 |.tup ws=>jv ws|.ref _=>false|.clo _ ws _=>jv ws|_=>true
noncomputable def jv:List W->Bool
 |[]=>true|w::ws=>w.nr&&jv ws
end
def iso (f:Fn):Fn:=λus A=>if jv us then(match f us [] with
 |.ok w A1=>(match w with
  |.ref n=>(match A1[n]? with
   |some (.lst ws)=>if jv ws then .ok (.ref A.length) (A++[.lst ws]) else .bad|some (.dct k)=>if jv (k.map (·.2)) then .ok (.ref A.length) (A++[.dct k]) else .bad|_=>.bad)
  |w=>if w.nr then .ok w A else .bad)
 |_=>.bad) else .bad
def Zb (f:Fn):Fn:=λus A=>match us with
 |.ref n::us=>(match A[n]? with
  |some (.lst ws)=>if jv ws&&jv us then(match f (.ref 0::us) [.lst ws] with
   |.ok w A1=>(match (List.head? A1:Option O) with
    |some (.lst a)=>if jv a&&w.nr then .ok w (A.set n (.lst a)) else .bad|_=>.bad)
   |_=>.bad) else .bad
  |_=>.bad)
 |_=>.bad
section
variable {K:Frag}{φ' φ1:bW}{H' H1:Hp}{A A1:Hx}
mutual
theorem RV.nrm (tp:∀a vs,qQ K H a vs->qQ K H' a vs)(fz:∀a o u,H a=some (.frz o u)->H' a=some (.frz o u)):∀{w:W}{v:V},w.nr=true->RV K φ H w v->RV K φ' H' w v
 |.non,_,_,h=>h|.bl _,_,_,h=>h|.int _,_,_,h=>h|.str _,_,_,h=>h|.tup ws,_,n,⟨a,vs,e,t,r⟩=>⟨a,vs,e,tp _ _ t,zE.nrm tp fz n r⟩|.ref _,_,n,_=>nomatch n
 |.clo _ ws P,_,n,⟨a,ob,u,c,g,uc,vs,e,d,b,i,r⟩=>⟨a,ob,u,c,g,uc,vs,e,fz _ _ _ d,fz _ _ _ b,i,zE.nrm tp fz n r⟩|.xc _,_,_,⟨a,f,u,C,e,d,b⟩=>⟨a,f,u,C,e,fz _ _ _ d,b⟩
theorem zE.nrm (tp:∀a vs,qQ K H a vs->qQ K H' a vs)(fz:∀a o u,H a=some (.frz o u)->H' a=some (.frz o u)):∀{ws:List W}{vs:List V},jv ws=true->zE K φ H ws vs->zE K φ' H' ws vs
 |[],_,_,h=>h|w::ws,_,n,⟨v,r,e,h,t⟩=>by
  have N:(w.nr&&jv ws)=true:=n;rw[ak]at N;exact⟨v,r,e,RV.nrm tp fz N.1 h,zE.nrm tp fz N.2 t⟩
end
def zS.none:zS K [] [] H:=⟨rfl,λi j a o o' _ _ h=>by simp at h,λn o h=>by simp at h⟩
def zS.frame (S:zS K φ A H)(k:∀a o,H a=some o->H1 a=some o)(l:Le K φ H φ H1):zS K φ A H1:=
 ⟨S.len,S.inj,λn o e=>let ⟨a,h1,q⟩:=S.ob n o e;⟨a,h1,q.keep l λu h=>k a u h⟩⟩
def Le.apart (l:Le K [] H φ1 H1):Le K φ H φ H1/\∀a o,H a=some o->H1 a=some o:=
 have k:∀a o,H a=some o->H1 a=some o:=λa o h=>l.fr a o h λn e=>by simp at e
 ⟨⟨λ_ _ h=>h,l.tp,λa o h _=>k a o h,λ_ _ h=>.inl h,l.st,l.fz⟩,k⟩
def zS.trackN {u:HO}{o:O}(S:zS K φ A H)(x:H D=some u)(n:∀(k:Nat)(q:O),φ[k]? =some D->A[k]? =some q->q.mut=false)(new:OR K (φ++[D]) H D o):zS K (φ++[D]) (A++[o]) H:=by
 have l:ZD K φ H (φ++[D]) H:=⟨λn a h=>by
  have:=(cx.mp h).1
  rw[ao this];exact h,λ_ _ h=>h,λ_ _ _ h=>h⟩
 have old:∀(i:Nat) a,(φ++[D])[i]? =some a->i<A.length->φ[i]? =some a:=λi a e hi=>by
  rw[ao (by rw[S.len];exact hi)]at e;exact e
 have last:∀a,(φ++[D])[A.length]? =some a->a=D:=λa e=>by
  rw[ay (by rw[S.len];exact ar _),S.len]at e
  simpa using e.symm
 refine⟨by simp[S.len],λi j a w v t s d b m1 m2=>?_,λk o' e=>?_⟩
 ·by_cases hi:i<A.length
  ·rw[ao hi]at d
   by_cases c:j<A.length
   ·rw[ao c]at b
    exact S.inj i j a w v (old i a t hi) (old j a s c) d b m1 m2
   ·exfalso
    have g:j=A.length:=by have:=(cx.mp b).1;simp at this;omega
    subst g;have z:=n i w (by rw[<- last a s];exact old i a t hi) d
    rw[m1]at z;cases z
  ·have p:i=A.length:=by have:=(cx.mp d).1;simp at this;omega
   by_cases c:j<A.length
   ·exfalso
    rw[ao c]at b;subst p;have z:=n j v (by rw[<- last a t];exact old j a s c) b
    rw[m2]at z;cases z
   ·have:=(cx.mp b).1;simp at this;omega
 ·by_cases hn:k<A.length
  ·rw[ao hn]at e
   obtain⟨a,E,q⟩:=S.ob k o' e;refine⟨a,l.ex _ _ E,?_⟩;cases o' with
   |lst ws=>obtain⟨vs,z,r⟩:=q;exact⟨vs,z,r.monoW l⟩|dct ws=>obtain⟨vs,z,Z,r⟩:=q;exact⟨vs,z,Z,r.monoW l⟩|tab _ _=>exact q|ro ws=>obtain⟨vs,z,r⟩:=q;exact⟨vs,z,r.monoW l⟩
  ·have f:k=A.length:=by have:=(cx.mp e).1;simp at this;omega
   subst f;rw[ay (ar _)]at e;simp at e;subst e;exact⟨D,by rw[ay (by rw[S.len];exact ar _),S.len];simp,new⟩
def zS.adopt {o:O}(S:zS K φ A H)(l:Le K [] H φ1 H1)(d:φ1[n]? =some a)(m:∃u,H1 a=some u)(new:OR K (φ++[a]) H1 a o):
  Le K φ H (φ++[a]) H1/\zS K (φ++[a]) (A++[o]) H1/\RV K (φ++[a]) H1 (.ref A.length) (.ref a):=by
 obtain⟨la,k⟩:=l.apart (φ:=φ);have h0:H a=Option.none:=by
  rcases l.nw n a d with e|e
  ·simp at e
  ·exact e
 obtain⟨u,b⟩:=m;have s:=S.frame k la;refine⟨la.YX h0,s.trackN b (λk q g f=>?_) new,a,rfl,by rw[<- S.len];simp⟩
 cases c:q.mut with
 |false=>rfl|true=>
  obtain⟨i,E,r⟩:=S.ob k q f;rw[g]at E;cases E;obtain⟨z,h,_⟩:=r.there c;rw[h0]at h;cases h
def OR.nrL {ws:List W}(h:OR K φ H a (.lst ws))(n:jv ws=true):OR K φ' H a (.lst ws):=let ⟨vs,e,r⟩:=h;⟨vs,e,r.nrm (λ_ _ t=>t) (λ_ _ _ t=>t) n⟩
def OR.nrD {k:List (Key×W)}(h:OR K φ H a (.dct k))(n:jv (k.map (·.2))=true):OR K φ' H a (.dct k):=let ⟨vs,e,E,r⟩:=h;⟨vs,e,E,r.nrm (λ_ _ t=>t) (λ_ _ _ t=>t) n⟩
theorem zR.iso {f:Fn}(F:zR P w K mg base k x n f):zR P w K mg base k x n (iso f):=by
 obtain⟨C,fd,ps,F,a,b,c⟩:=F;refine⟨C,fd,ps,F.imp λvs H Q E ⟨z,φ,A,ws,S,r,q⟩=>?_,a,b,c⟩;unfold Mi.iso at q
 by_cases hn:jv ws=true
 ·rw[ah hn]at q
  refine⟨z,[],[],ws,zS.none,r.nrm (λ_ _ t=>t) (λ_ _ _ t=>t) hn,?_⟩;cases hf:f ws [] with
  |ok w A1=>
   rw[hf]at q;dsimp only at q;intro u H1 v l D g;cases w with
   |ref m=>
    dsimp only at q;cases hm:A1[m]? with
    |none=>rw[hm]at q;exact q.elim|some o=>
     rw[hm]at q;obtain⟨I,j,d⟩:=D.ob m o hm;obtain⟨a2,rfl,e⟩:=g;rw[j]at e;cases e;cases o with
     |lst us=>
      dsimp only at q
      by_cases h:jv us=true
      ·rw[ah h]at q
       obtain⟨t,i,_⟩:=d.there rfl;obtain⟨s,p,B⟩:=S.adopt l j ⟨t,i⟩ (o:=.lst us) (d.nrL h);exact q _ _ _ s p B
      ·rw[aj h]at q;exact q.elim
     |dct us=>
      dsimp only at q
      by_cases h:jv (us.map (·.2))=true
      ·rw[ah h]at q
       obtain⟨t,i,_⟩:=d.there rfl;obtain⟨s,p,B⟩:=S.adopt l j ⟨t,i⟩ (o:=.dct us) (d.nrD h);exact q _ _ _ s p B
      ·rw[aj h]at q;exact q.elim
     |ro us=>exact q.elim|tab _ _=>exact q.elim
   |_=>
    all_goals
     dsimp only at q;obtain⟨la,kk⟩:=l.apart (φ:=φ)
     first
      |exact q φ H1 v la (S.frame kk la) g
      |(
        split at q
        ·rename_i hw
         exact q φ H1 v la (S.frame kk la) (RV.nrm (λ_ _ t=>t) (λ_ _ _ t=>t) hw g)
        ·exact q.elim)
  |exc y A1=>rw[hf]at q;exact q.elim|bad=>rw[hf]at q;exact q.elim
 ·rw[aj hn]at q;exact q.elim
theorem zR.Zb {f:Fn}(F:zR P w K mg base k x n f):zR P w K mg base k x n (Zb f):=by
 obtain⟨fa,fd,ps,F,a,b,c⟩:=F;refine⟨fa,fd,ps,F.imp λvs H Q E ⟨hl,φ,A,ws,S,r,q⟩=>?_,a,b,c⟩;unfold Mi.Zb at q;cases ws with
 |nil=>exact q.elim|cons Y us=>cases Y with
  |ref n=>
   dsimp only at q;cases g:A[n]? with
   |none=>rw[g]at q;exact q.elim|some o=>cases o with
    |lst xs=>
     rw[g]at q;dsimp only at q
     by_cases hn:(jv xs&&jv us)=true
     ·rw[ah hn]at q
      rw[ak]at hn;obtain⟨v0,vr,rfl,q0,Z⟩:=r;obtain⟨p,ys,rfl,f1,g1,d⟩:=S.lst q0 g;have S0:zS K [p] [.lst xs] H:=by
       refine⟨rfl,λi j a o o' D C T N _ _=>?_,λm o e=>?_⟩
       ·have:=(cx.mp D).1
        have:=(cx.mp C).1
        simp at*;omega
       ·have:m=0:=by have:=(cx.mp e).1;simp at this;omega
        subst this;simp at e;subst e;exact⟨p,rfl,ys,g1,d.nrm (λ_ _ t=>t) (λ_ _ _ t=>t) hn.1⟩
      refine⟨hl,[p],[.lst xs],.ref 0::us,S0,.cons ⟨p,rfl,rfl⟩ (Z.nrm (λ_ _ t=>t) (λ_ _ _ t=>t) hn.2),?_⟩;cases hf:f (.ref 0::us) [.lst xs] with
      |ok w A1=>
       rw[hf]at q;dsimp only at q;intro s H1 v L S1 q1;cases h0:List.head? A1 with
       |none=>rw[h0]at q;exact q.elim|some o=>cases o with
        |lst zs=>
         rw[h0]at q;dsimp only at q
         by_cases hw:(jv zs&&w.nr)=true
         ·rw[ah hw]at q
          rw[ak]at hw;have apart:∀a o,a≠p->H a=some o->H1 a=some o:=λa o ne h=>L.fr a o h λm e=>by
           have:m=0:=by have:=(cx.mp e).1;simp at this;omega
           subst this;simp at e;exact ne e.symm
          have lf:Le K φ H φ H1:=⟨λ_ _ h=>h,L.tp,λa o h nn=>apart a o (λe=>nn n (by rw[e];exact f1)) h,λ_ _ h=>.inl h,L.st,L.fz⟩
          have hp:s[0]? =some p:=L.ex 0 p rfl;obtain⟨p',l,u,I,B⟩:=S1.ob 0 _ (by rw[<- List.head?_eq_getElem?];exact h0)
          rw[hp]at l;cases l;refine q φ H1 v lf ?_ (RV.nrm (λ_ _ t=>t) (λ_ _ _ t=>t) hw.2 q1);have mt:∀(i:Nat)(w:O),(A.set n (.lst zs))[i]? =some w->w.mut=true->∃J,A[i]? =some J/\J.mut=true:=λi w e mw=>by
           by_cases hi:i=n
           ·subst hi;exact⟨_,g,rfl⟩
           ·rw[aG (Ne.symm hi)]at e;exact⟨w,e,mw⟩
          refine⟨by simp[S.len],λi j a o1 o2 D C T N m1 m2=>?_,λi w e=>?_⟩
          ·obtain⟨X,l,k1⟩:=mt i o1 T m1
           obtain⟨U,I,k2⟩:=mt j o2 N m2;exact S.inj i j a X U D C l I k1 k2
          ·by_cases hi:i=n
           ·subst hi
            have:i<A.length:=(cx.mp g).1
            rw[aH this]at e;cases e;exact⟨p,f1,u,I,B.nrm (λ_ _ t=>t) (λ_ _ _ t=>t) hw.1⟩
           ·rw[aG (Ne.symm hi)]at e
            obtain⟨a,l,M⟩:=S.ob i w e;refine⟨a,l,?_⟩
            by_cases hm:w.mut=true
            ·have ne:a≠p:=λz=>hi (S.inj i n a w _ l (by rw[z];exact f1) e g hm rfl)
             exact M.keep lf λz hz=>apart a z ne hz
            ·cases w with
             |lst _=>exact absurd rfl hm|dct _=>exact absurd rfl hm|tab _ _=>exact absurd rfl hm|ro ws=>
              obtain⟨vs,d,B⟩:=M;refine⟨vs,?_,B.mono lf⟩;rcases d with ⟨ob,d⟩|d
              ·refine .inl ⟨ob,apart a _ ?_ d⟩
               intro z;subst z;rw[g1]at d;cases d
              ·exact .inr d
         ·rw[aj hw]at q;exact q.elim
        |_=>rw[h0]at q;exact q.elim
      |exc y A1=>rw[hf]at q;exact q.elim|bad=>rw[hf]at q;exact q.elim
     ·rw[aj hn]at q;exact q.elim
    |_=>rw[g]at q;exact q.elim
  |_=>exact q.elim
end
section
variable {K:Frag}{a b:Expr}{m:Ev}{st:Stmt}
noncomputable def intsOf:List W->Option (bU)
 |[]=>some []|w::ws=>match w with
  |.int i=>match intsOf ws with
   |some is=>some (i::is)|none=>none
  |_=>none
theorem Kx:∀{ws:List W}{ns:bU},intsOf ws=some ns->ws=ns.map W.int
 |[],_,e=>by cases e;rfl|w::ws,ns,e=>by
  unfold intsOf at e;cases w with
  |int i=>
   dsimp only at e;cases E:intsOf ws with
   |none=>rw[E]at e;cases e|some is=>rw[E]at e;cases e;rw[Kx E];rfl
  |_=>cases e
noncomputable def yK:List Int->Int->Int
 |[],m=>m|i::is,m=>yK is (if i > m then i else m)
def Ez (ns:bU):∀(k:Nat)(a:k<ns.length),yK (ns.drop (k+1)) (ns.getD (argBest (λi j=>decide (ns.getD i 0 > ns.getD j 0)) k) 0)=yK ns.tail (ns.getD 0 0):=by
 intro k
 induction k with
 |zero=>intro _;rw[show argBest _ 0=0 from rfl,List.drop_one]|succ k I=>
  intro a;have H:k<ns.length:=by omega
  rw[<- I H];have e:ns.drop (k+1)=ns[k+1]::ns.drop (k+1+1):=List.drop_eq_getElem_cons a;rw[e];have E:ns.getD (k+1) 0=ns[k+1]:=by rw[ae,aa a];rfl
  show yK _ (ns.getD (if decide (ns.getD (k+1) 0 > ns.getD (argBest _ k) 0)=true then k+1 else argBest _ k) 0)=yK _ (if ns[k+1] > ns.getD (argBest _ k) 0 then ns[k+1] else ns.getD (argBest _ k) 0);rw[E]
  by_cases h:ns[k+1] > ns.getD (argBest (λi j=>decide (ns.getD i 0 > ns.getD j 0)) k) 0
  ·rw[ah (by rw[ai];exact h),ah h,E]
  ·rw[aj (by rw[ai];exact h),aj h]
noncomputable def M8 (K:Frag)(C:List Int->Prop)(f:List Int->Int):List V->Hp->VK->Prop:=λxs H Q=>∃a ns,xs=[.ref a]/\(jj K H a (ns.map V.int)∨qQ K H a (ns.map V.int))/\C ns/\Q (.int (f ns)) H
def V9 (r:Vals (ns.map V.int) its){v:Value}(h:its[i]? =some v):∃t,v=.int (ns.getD i 0) t:=by
 have hi:i<its.length:=(cx.mp h).1;have H:i<ns.length:=by have:=r.length;rw[ag]at this;omega
 obtain⟨u,a,b⟩:=r.get (i:=i) (x:=V.int ns[i]) (by simp[H])
 rw[h]at a;cases a;obtain⟨t,rfl⟩:=b;exact⟨t,by rw[ae,aa H];rfl⟩
def Dl (n:X.calm=true):yv X (.builtin "max") (M8 X.K (λns=>ns≠[]) λns=>yK ns.tail (ns.getD 0 0)):=by
 intro pins s σ H xs us Q I r h;obtain⟨a,ns,rfl,z,f,q⟩:=h;obtain⟨u,rfl,g⟩:=vals1 r;cases g;have M:0<ns.length:=List.length_pos_iff.mpr f;refine call_max_walk (Oz I n z λd C fp wr S s2 c L W st p back=>?_);have e:d.length=ns.length:=by have:=c.length;rw[ag]at this;omega
 refine⟨C,fp,wr,_,_,S,λi j=>decide (ns.getD i 0 > ns.getD j 0),rfl,W,st,p,by omega,?_,λv h' tk l k=>?_⟩
 ·intro i j J D s' Q' E y x o
  obtain⟨t1,rfl⟩:=V9 c y;obtain⟨T,rfl⟩:=V9 c x;exact(PyProof.Rows.gt_int o:wpAny (model X.prog X.w) X.A.in1 (compareOp .Gt (.int (ns.getD i 0) t1) (.int (ns.getD j 0) T)) Q' E s')
 ·obtain⟨t,rfl⟩:=V9 c l
  rw[e];have b:=Ez ns (ns.length-1) (by omega)
  rw[show ns.length-1+1=ns.length by omega,drop_length]at b
  have B:ns.getD (argBest (λi j=>decide (ns.getD i 0 > ns.getD j 0)) (ns.length-1)) 0=yK ns.tail (ns.getD 0 0):=b;rw[B];exact⟨.int _,H,back h' tk k,⟨_,rfl⟩,q⟩
def yC:List W->Hx->R W:=λws A=>match intsOf ws with
 |some (i::is)=>.ok (.int (yK is i)) A|_=>.bad
def eX:∀ws A,jh (yC ws A):=λws A=>by
 unfold yC;split
 ·exact yR
 ·exact jx
def ER {ws:List W}{a:Addr}(z:jj K H a ys∨qQ K H a ys)(r:zE K φ H ws ys)(e:intsOf ws=some ns):jj K H a (ns.map V.int)∨qQ K H a (ns.map V.int):=by
 rw[Kx e]at r;rw[<- zE.ints.mp r];exact z
def Bb:Yk K (M8 K (λns=>ns≠[]) λns=>yK ns.tail (ns.getD 0 0)) yC:=λφ A H a ys ws Q S z r p=>by
 unfold yC at p;cases e:intsOf ws with
 |none=>rw[e]at p;exact p.elim|some ns=>cases ns with
  |nil=>rw[e]at p;exact p.elim|cons i is=>rw[e]at p;exact⟨a,i::is,rfl,ER z r e,(by intro z;cases z),p φ H _ .refl S rfl⟩
def eY (y:W):List W->Nat->Nat
 |[],n=>n|w::ws,n=>eY y ws (if TU w y then n+1 else n)
noncomputable def eZ (lo d:Int)(n:Nat):It:=⟨λi _=>i<n,λi H x h=>h=H/\x=.int (lo+i * d),λi _=>n<=i⟩
def zdR (t:TA):TI:=λσ H R=>t σ H λvs H1=>∃i j:Int,vs=[.int i,.int j,.int (-1)]/\(-(2 ^ 62)<=i/\i<2 ^ 62/\-(2 ^ 62)<=j/\j<2 ^ 62)/\R (eZ i (-1) (i-j).toNat) H1
noncomputable def e8 (hi:Int)(n:Nat):jY:=⟨λ_ i=>if i<n then some (some (.int (hi-i))) else some none,n⟩
def zdS (m m':Ev):Ei:=λρ A=>(m ρ A).bind λw A1=>(m' ρ A1).bind λa A2=>match w,a with
 |.int i,.int j=>if jD i&&jD j then .ok (e8 i (i-j).toNat) A2 else .bad|_,_=>.bad
def fb (t:TA):TE:=λσ H Q=>t σ H λvs H1=>∃j:Int,vs=[.int j]/\∀p,H1 p=none->Q (.ref p) (upd H1 p (.rng 0 j))
def Aw {T:TA}(g:Gl X "range")(hm:X.mg "range"=none)(e:PA X [a] T)(d:starEach [a] X.env=[(false,eval a X.env)]):PE X (.Call (.Name "range" p) [a] [] pos) (fb T):=by
 intro pins s σ H Q I h;refine Call_ (Qr I g hm boot_range (PyProof.Rows.callWith_type1 (qc (e pos pins s σ H _ I h) λus s1 ⟨vs,H1,i,r,c⟩=>?_) d rfl));obtain⟨j,rfl,q⟩:=c;obtain⟨u,rfl,⟨t,rfl⟩⟩:=r.one;refine call_range_1 ⟨.ref _,_,i.laid (o:=.rng 0 j) (λb o E=>af _ E) (ar _) ?_,rfl,q _ (i.hok.fresh (ar _))⟩;exact⟨_,_,_,av _ rfl⟩
noncomputable def JX (n:Nat):List V:=(List.range n).map λ(i:Nat)=>V.int i
def FP (A:X.calm=true):yv X (.type "list") (λxs H Q=>∃(r:Addr) (j:Int),xs=[.ref r]/\H r=some (.rng 0 j)/\(-(2 ^ 62)<=j/\j<2 ^ 62)/\j.toNat<=sizeLine/\∀l,H l=none->Q (.ref l) (upd H l (.lst (JX j.toNat)))):=by
 intro pins s σ H xs us Q I r h;obtain⟨p,j,rfl,x,⟨D,B⟩,z,q⟩:=h;obtain⟨u,rfl,g⟩:=vals1 r;cases g;obtain⟨t1,T,t3,y⟩:=I.hok p _ x;have E:sizeLine=16777216:=sizeLine_eq;refine PySem.call_list_range (n:=j.toNat) (I.ok.hd A) (show IsRange s.heap p 0 j 1 t1 T t3 from y) (small_one (by omega) (by omega) D B) (by rw[rangeSize_one];split<;>omega) (by omega) λh' tk acc C kk S ⟨hn,d⟩=>?_
 refine⟨.ref s.heap.objs.size,_,I.laid (t':=tk) (o:=.lst (JX j.toNat)) kk (ar _) ?_,rfl,q _ (I.hok.fresh (ar _))⟩;refine⟨by unfold JX;simpa using z,acc.toList,C,?_,by simpa using S⟩
 have a:∀(l:bV)(k:Nat),(∀(i:Nat) v,l[i]? =some v->∃t,v=.int ((k+i:Nat):Int) t)->Vals ((List.range' k l.length).map λ(i:Nat)=>V.int i) l:=by
  intro l
  induction l with
  |nil=>intro k _;exact .nil|cons v l w=>
   intro k e;rw[bj,bQ,aW];refine .cons ?_ (w (k+1) λi f a=>?_)
   ·obtain⟨t,rfl⟩:=e 0 v rfl
    exact⟨t,rfl⟩
   ·obtain⟨t,rfl⟩:=e (i+1) f (by simpa using a)
    exact⟨t,by congr 1;omega⟩
 have b:acc.toList.length=j.toNat:=by simpa using hn
 have:=a acc.toList 0 λi v c=>by
  obtain⟨t,rfl⟩:=d i v (by simpa using c)
  exact⟨t,by congr 1;omega⟩
 rw[b]at this;unfold JX;rw[range_eq_range'];exact this
def KU (m:Ev):Ev:=λρ A=>(m ρ A).bind λw A1=>match w with
 |.int j=>if jD j&&decide (j.toNat<=qf) then .ok (.ref A1.length) (A1++[.lst ((List.range j.toNat).map λ(i:Nat)=>W.int i)]) else .bad|_=>.bad
noncomputable def zdT (i:Nat)(m:Ev):Ex:=λρ A=>match ρ[i]? with
 |some (some (.int x))=>(m ρ A).bind λw A1=>match w with
  |.int y=>.ok (.nx (ρ.set i (some (.int (x+y))))) A1|_=>.bad
 |_=>.bad
noncomputable def fc:V->V->Hp->VK->Prop:=λo i H Q=>∃p xs k v,o=.ref p/\i=.int k/\0<=k/\H p=some (.lst xs)/\xs[k.toNat]? =some v/\Q v H
def CF:LF X fc:=by
 intro pins s σ H o i g j Q I ro d h;obtain⟨p,xs,k,v,rfl,rfl,h0,f,e,q⟩:=h;cases ro;obtain⟨t,rfl⟩:=d;obtain⟨a,r,P,z⟩:=I.list (jj.of f);obtain⟨u,b,c⟩:=r.get e;have hn:=JQ;have l:=r.length;have n:k.toNat<a.length:=(cx.mp b).1;exact wpAny_getItem_list P.isList h0 (by omega) (by simpa using b) ⟨v,H,I,c,q⟩
def ZV (mo mi me:Ev):Ex:=λρ A=>(mo ρ A).bind λo A1=>(mi ρ A1).bind λi A2=>match o,i with
 |.ref n,.int k=>if 0<=k then(match (A2[n]?:Option O) with
  |some (.lst ws)=>match ws[k.toNat]? with
   |some (.int x)=>(me ρ A2).bind λy b=>match y with
    |.int y=>(kK (.ref n) (.int k) (.int (x+y)) b).bind λ_ a=>.ok (.nx ρ) a|_=>.bad
   |_=>.bad
  |_=>.bad) else .bad
 |_,_=>.bad
end
def j4 (k:Bool)(h:Heap)(it a:Addr)(i:Nat):Prop:=if k=true then h.IsListIter it a i else h.IsTupleIter it a i
def yD (k:Bool)(h:Heap)(a:Addr)(items:Array Value):Prop:=if k=true then h.IsList a items else h.IsTuple a items
def wk (k:Bool)(K:Frag)(H:Hp)(a:Addr)(xs:List V):Prop:=if k=true then jj K H a xs else qQ K H a xs
noncomputable def JS (k:Bool):String:=if k then "list_iterator" else "tuple_iterator"
def j4.ob {k:Bool}{it:Addr}(x:j4 k h it a i):∃o,h.get? it=some o/\o.cls=.type (JS k)/\o.data=.fields #[.ref a,.int i 0]:=by
 cases k<;>exact x
def j4.mk {k:Bool}{it:Addr}(x:∃o,h.get? it=some o/\o.cls=.type (JS k)/\o.data=.fields #[.ref a,.int i 0]):j4 k h it a i:=by
 cases k<;>exact x
def j4.to {k:Bool}{h':Heap}{it:Addr}(x:j4 k h it a i)(e:∀o,h.get? it=some o->h'.get? it=some o):j4 k h' it a i:=let ⟨o,h1,r⟩:=x.ob;.mk ⟨o,e o h1,r⟩
def yD.ob {k:Bool}(x:yD k h a items):∃o,h.get? a=some o/\o.cls=.type (if k then "list" else "tuple")/\∃n,o.data=.seq items n:=by
 cases k<;>exact x
def yD.to {k:Bool}{h':Heap}(x:yD k h a items)(e:∀o,h.get? a=some o->h'.get? a=some o):yD k h' a items:=by
 cases k with
 |false=>exact let ⟨o,h1,r⟩:=x.ob;⟨o,e o h1,r⟩|true=>exact let ⟨o,h1,r⟩:=x.ob;⟨o,e o h1,r⟩
section
variable {prog:Program}{A:Around}{k:Bool}{it:Addr}
def Nj (h:yD k s.heap a items)(H:Q (.ref s.heap.objs.size) { s with heap:=s.heap.push { cls:=.type (JS k),data:=.fields #[.ref a,.int 0 0] } }):wpAny (model prog w) A (pyIter (.ref a)) Q E s:=by
 cases k with
 |true=>exact wpAny_pyIter_list h H|false=>exact wpAny_pyIter_tuple h H
def Gr {x:Value}(hit:j4 k s.heap it a i)(l:yD k s.heap a items)(f:items[i]? =some x)
  (g:∀h',j4 k h' it a (i+1)->Heap.SameBut it s.heap h'->Q x { s with heap:=h' }):wpAny (model prog w) A (Builtin.SmallTypes.nextOf (.ref it)) Q E s:=by
 cases k with
 |true=>exact wpAny_nextOf_list_item hit l f g|false=>
  have h:s.heap.IsTupleIter it a i:=hit;obtain⟨o,b,e,H⟩:=id h;obtain⟨j,c,_,na,d⟩:s.heap.IsTuple a items:=l;unfold Builtin.SmallTypes.nextOf;refine cq (wpAny_callSpecial?_slot (name:=Str.ofString "__next__") h.typeIs F.slot_tuple_iterator_next (wpAny_call_entry F.slot_tuple_iterator_next h.typeIs F.entry_tuple_iterator_next ?_ (F.args_tuple_iterator_next_1 _)));show wpAny _ _ (field (.ref it) 0 >>= _) _ _ s;refine cq (wpAny_field b H (x:=.ref a) rfl ?_);show wpAny _ _ (if (Value.ref a==Value.none)=true then _ else _) _ _ s;rw[aj (show ¬((Value.ref a==Value.none)=true) from aA)]
  show wpAny _ _ (field (.ref it) 1 >>= _) _ _ s;refine cq (wpAny_field b H (x:=.int i 0) rfl ?_);show wpAny _ _ (seqItems? (.ref a) >>= _) _ _ s;refine cq (wpAny_seqItems c d ?_);simp only[aK,f];refine cq (wpAny_setField b H (by simp) (cu ⟨x,rfl,cu (g _ (.mk ?_) (Heap.SameBut.update ..))⟩))
  exact⟨_,ba _ b (Obj.isFreed_of_fields (Obj.data_mapFields H _)),(Obj.cls_mapFields ..).trans e,by rw[Obj.data_mapFields H];simp[rawInt]⟩
def UP (d:A.handled=none)(hit:j4 k s.heap it a i)(l:yD k s.heap a items)(g:items[i]? =none)
  (j:∀h' e,Heap.ExtBut it s.heap h'->(∃o,h'.get? e=some o/\o.cls=.type "StopIteration")->E (.ref e) { s with heap:=h' }):wpAny (model prog w) A (Builtin.SmallTypes.nextOf (.ref it)) Q E s:=by
 cases k with
 |true=>exact wpAny_nextOf_list_end d hit l g j|false=>
  have h:s.heap.IsTupleIter it a i:=hit;obtain⟨p,H,n,b⟩:=id h;obtain⟨q,c,_,na,f⟩:s.heap.IsTuple a items:=l;unfold Builtin.SmallTypes.nextOf;refine cq (wpAny_callSpecial?_slot (name:=Str.ofString "__next__") h.typeIs F.slot_tuple_iterator_next (wpAny_call_entry F.slot_tuple_iterator_next h.typeIs F.entry_tuple_iterator_next ?_ (F.args_tuple_iterator_next_1 _)));show wpAny _ _ (field (.ref it) 0 >>= _) _ _ s;refine cq (wpAny_field H b (x:=.ref a) rfl ?_);show wpAny _ _ (if (Value.ref a==Value.none)=true then _ else _) _ _ s;rw[aj (show ¬((Value.ref a==Value.none)=true) from aA)]
  show wpAny _ _ (field (.ref it) 1 >>= _) _ _ s;refine cq (wpAny_field H b (x:=.int i 0) rfl ?_);show wpAny _ _ (seqItems? (.ref a) >>= _) _ _ s;refine cq (wpAny_seqItems c f ?_);simp only[aK,g];refine cq (wpAny_rule (cq (wpAny_setField H b (by simp) ?_)))
  show wpAny _ _ (newExc (.type "StopIteration") [] >>= _) _ _ _;refine cq ?_;simp only[newExc,newTuple];refine cq (wpAny_newObj_type ?_ (by size_fits))
  refine cq (m:=firstArgMember _ _) (wpAny_of_eq (a:=Value.none) (by first|rfl|(simp only[firstArgMember];rfl)) ?_);refine wpAny_newObj_type ?_ (by size_fits)
  simp only[raiseNew];refine cq (wpAny_handled ?_)
  first|rw[show A.in1.handled=none from d]|rw[d]
  refine cq (cu (wpAny_throw ?_));exact j _ _ (((Heap.SameBut.update ..).extBut.push _).push _) ⟨_,av _ rfl,rfl⟩
def OL (g:A.handled=none)(c:a≠it):Draws prog w A it [it,a] items.size (λi v=>items[i]? =some v) (λi h=>j4 k h it a i/\yD k h a items) where
 live:=λ_ _ st=>let ⟨o,f,_⟩:=st.1.ob;⟨o,f⟩
 frame:=λ_ _ _ st d=>⟨st.1.to λo e=>d it (by simp) o e,st.2.to λo e=>d a (by simp) o e⟩
 item:=λi s Q E hi st j=>Gr st.1 st.2 (x:=items[i]) (by simp[hi]) λh' b H=>j _ h' s.toks (by simp[hi]) ⟨b,st.2.to λo e=>H.extBut a o c e⟩ H
 done:=λs Q E st l=>UP g st.1 st.2 (by simp) l
end
section
variable {h':Heap}
def _root_.L2.Inv.spun {T:Addr}{o:HO}(I:Inv X pins σ H s)(k:∀b u,b∉fp->s.heap.get? b=some u->h'.get? b=some u)(hf:∀b∈fp,wc X pins H b)(d:s.heap.objs.size<=T)
  (new:jF X.prog X.w (upd H T o) h' T o):Inv X pins σ (upd H T o) { s with heap:=h',toks:=t' }:=by
 have hn:H T=none:=I.hok.fresh d;have lt:∀b u,s.heap.get? b=some u->b≠T:=λb u e=>aI (aD (aF e) d);have N:∀b u,H b=some u->b∉fp:=λb u e z=>by rw[(hf b z).1]at e;cases e
 refine I.step (g':=s.gens) (d':=s.drawn) (ch:=fp) (λb a=>let ⟨_,f1,_,i,f4,g⟩:=hf b a;⟨i,f1,f4,g⟩) (λb o _ _ h e _=>k b o h e) (λb o _ _ h e _=>⟨o.slots,k b o h e⟩)
  (λb o _ e n=>by rw[qI (lt b o e)];exact n) (λb o h e=>⟨o,k b o h e⟩) (λb xs e=>by rw[qI (wH e hn)];exact e) (λb u xs e=>by rw[qI (wH e hn)];exact e)
  (λb ps e=>⟨#[],by rw[qI (wH e hn),e];simp⟩) (λm hm=>?_) (λb u e=>?_) I.bare
 ·obtain⟨o,E,p,f,r⟩:=hm
  exact⟨o,E,p,k _ o (λz=>(hf _ z).2.1 rfl) f,r⟩
 ·by_cases a:b=T
  ·subst a;rw[jS]at e;cases e;exact new
  ·rw[qI a]at e
   refine(I.hok b u e).stay (λc v h q=>k c v ?_ q) (λc q=>by rw[qI (wH q hn)];exact q) λc xs q=>by rw[qI (wH q hn)];exact q
   rcases h with z|z
   ·rw[z];exact N b u e
   ·exact N c _ z
def _root_.L2.Inv.spun0 (I:Inv X pins σ H s)(k:∀b u,b∉fp->s.heap.get? b=some u->h'.get? b=some u)(hf:∀b∈fp,wc X pins H b):Inv X pins σ H { s with heap:=h',toks:=t' }:=by
 have N:∀b u,H b=some u->b∉fp:=λb u e z=>by rw[(hf b z).1]at e;cases e
 refine I.step (g':=s.gens) (d':=s.drawn) (ch:=fp) (λb d=>let ⟨_,f1,_,g,f4,f⟩:=hf b d;⟨g,f1,f4,f⟩) (λb o _ _ h e _=>k b o h e) (λb o _ _ h e _=>⟨o.slots,k b o h e⟩)
  (λb o _ e n=>n) (λb o h e=>⟨o,k b o h e⟩) (λb xs e=>e) (λb u xs e=>e) (λb ps e=>⟨#[],by rw[e];simp⟩) (λm hm=>?_) (λb u e=>?_) I.bare
 ·obtain⟨o,E,p,a,r⟩:=hm
  exact⟨o,E,p,k _ o (λz=>(hf _ z).2.1 rfl) a,r⟩
 ·refine(I.hok b u e).stay (λc v h q=>k c v ?_ q) (λc q=>q) λc xs q=>q
  rcases h with z|z
  ·rw[z];exact N b u e
  ·exact N c _ z
def _root_.L2.Inv.sq {k:Bool}(I:Inv X pins σ H s)(h:wk k X.K H a xs):∃i:bV,Vals xs i/\yD k s.heap a i.toArray/\xs.length<=sizeLine:=by
 cases k with
 |true=>obtain⟨i,r,p,z⟩:=I.list h;exact⟨i,r,p.isList,z⟩|false=>obtain⟨i,r,p,z⟩:=I.tuple h;exact⟨i,r,(show s.heap.IsTuple a i.toArray from p),z⟩
def _root_.L2.Inv.sq_inj {k:Bool}(I:Inv X pins σ H s)(h:wk k X.K H a xs)(h':wk k X.K H a ys):xs=ys:=by
 cases k with
 |true=>exact I.list_inj h h'|false=>exact I.tuple_inj h h'
end
def Se (k:Bool)(K:Frag)(a:Addr):It:=
 ⟨λi H=>∃xs x,wk k K H a xs/\xs[i]? =some x,λi H x h=>∃p y,(∀xs,wk k K H a xs->xs[i]? =some y)/\H p=none/\x=.ref p/\h=upd H p (.tup [.int i,y]),λi H=>∃xs,wk k K H a xs/\xs.length=i⟩
def Du {K:Frag}(k:Bool)(a n it:Addr):Turn P w K (.Tuple elts kk tpos) (Se k K a) [n,it] n (λi h=>(∃old,IsEnum h n it i old)/\j4 k h it a i/\n≠it) where
 mem:=by simp
 obj:=λi h st b f=>by
  obtain⟨⟨old,he⟩,hi,_⟩:=st;rcases cw.mp f with rfl|f
  ·exact⟨_,he,λv z=>nomatch z⟩
  ·rw[cA.mp f]
   obtain⟨o,Q,_,hd⟩:=hi.ob;exact⟨o,Q,λv z=>by rw[hd]at z;cases z⟩
 keep:=λi h h' ⟨⟨old,he⟩,hi,ne⟩ kp=>⟨⟨old,kp n (by simp) _ he⟩,hi.to λo p=>kp it (by simp) o p,ne⟩
 item:=by
  intro X hP hw hK hc i pins s σ H E I hf st T;subst hP hw hK;obtain⟨⟨old,he⟩,hi,ne⟩:=st;obtain⟨xs,x,C,B⟩:=T;obtain⟨d,D,r,hz⟩:=I.sq C;obtain⟨u,hu,ru⟩:=D.get B;have S:i<d.toArray.size:=by simpa using (cx.mp hu).1
  obtain⟨oa,g,Z,na,e⟩:=r.ob;have A:a≠it:=λz=>by
   obtain⟨oi,c,Y,l⟩:=hi.ob;rw[<- z,g]at c;cases c;rw[l]at e;cases e
  have ane:n≠a:=λz=>by
   have t:s.heap.get? a=_:=z ▸ he;rw[g]at t;cases t;cases e
  refine wpAny_pyNext_enum_itemD (OL (k:=k) (items:=d.toArray) (I.ok.hd hc) A) he ⟨hi,r⟩ S ne (by simp[ne,ane]) λy h1 tk J Q N hT hsz hk=>?_
  have ey:y=u:=by
   have:d[i]? =some y:=by simpa using J
   rw[hu]at this;exact(aC this).symm
  subst ey;refine⟨_,rfl,wpAny_letOwnedTupleGo_enum Q λh2 U j=>?_⟩;have L:n<s.heap.objs.size:=aF he;have hT2:h2.get? s.heap.objs.size=some { cls:=.type "tuple",data:=.seq #[.int i tk,y] }:=j.extBut _ _ (br L) hT;refine⟨.ref s.heap.objs.size,upd H s.heap.objs.size (.tup [.int i,x]),?_,rfl,⟨s.heap.objs.size,x,λys J=>by rw[I.sq_inj J C];exact B,I.hok.fresh (ar _),rfl,rfl⟩,⟨⟨_,by simpa using U⟩,?_,ne⟩,λb f=>?_⟩
  ·refine I.spun (fp:=[n,it]) (t':=tk+1) (λb o f p=>?_) hf (ar _) ?_
   ·exact j.extBut _ _ (λz=>f (by simp[z])) (hk b o (λz=>f (by simp[z])) (λz=>f (by simp[z])) p)
   ·exact⟨by show 2<=sizeLine;decide,[.int i tk,y],.cons ⟨tk,rfl⟩ (.cons ru .nil),_,hT2,⟨rfl,rfl⟩,0,rfl⟩
  ·exact N.1.to λo p=>j.extBut _ _ (λz=>ne z.symm) p
  ·have bn:b≠s.heap.objs.size:=λz=>by
    rcases cw.mp f with q|q
    ·exact absurd L (by rw[<- q,z];exact aT _)
    ·obtain⟨oi,c,_⟩:=hi.ob
     exact absurd (aF c) (by rw[<- cA.mp q,z];exact aT _)
   show upd H s.heap.objs.size _ b=none;rw[qI bn];exact(hf b f).1
 done:=by
  intro X hP hw hK hc i pins s σ H E I hf st T;subst hP hw hK;obtain⟨⟨old,he⟩,hi,ne⟩:=st;obtain⟨xs,C,B⟩:=T;obtain⟨d,D,r,hz⟩:=I.sq C;have en':d.toArray.size=i:=by rw[aB,<- D.length];exact B
  obtain⟨oa,g,Z,na,e⟩:=r.ob;have A:a≠it:=λz=>by
   obtain⟨oi,c,Y,l⟩:=hi.ob;rw[<- z,g]at c;cases c;rw[l]at e;cases e
  refine wpAny_pyNext_enum_endD (OL (k:=k) (items:=d.toArray) (I.ok.hd hc) A) he ⟨by rw[en'];exact hi,r⟩ λh1 M=>⟨rfl,?_⟩
  exact I.spun0 (fp:=[n,it]) (t':=s.toks) (λb o f p=>M b o (λz=>f (by simp[z])) p) hf
 self:=λ_ _ _ _ _ ⟨⟨_,he⟩,_⟩ h=>wpAny_pyIter_enum he h
open AutoSeq1 (wpAny_loadPart')
abbrev Xe (h:Heap)(k:Bool)(a:Addr):Heap:=h.push { cls:=.type (JS k),data:=.fields #[.ref a,.int 0 0] }
abbrev Ln (h:Heap)(k:Bool)(a:Addr):Heap:=(Xe h k a).push { cls:=.type "enumerate",data:=.fields #[.none,.bool false,.ref h.objs.size,rawInt 0,.none,.none] }
def Ff (a:Addr)(items:Array Value)(n:Nat)(dd:cm)(S:Array (Option Value)):
  Meets (Builtin.«enumerate.__new__» ⟨[.type "enumerate",.ref a],[]⟩) (λ_ R s=>s.heap.get? a=some { cls:=.type "tuple",dict:=dd,data:=.seq items n,slots:=S }/\R (.ok (.ret (.ref (Xe s.heap false a).objs.size))) { s with heap:=Ln s.heap false a }):=
 .of_wp λprog w A R s h=>by
  obtain⟨p,g,d,tk,os⟩:=s;obtain⟨H,h⟩:=h;have b:=sub_enumerate;have T:Heap.IsTuple (Shared.heap ⟨p,g,d,tk,os⟩) a items:=⟨_,H,rfl,n,rfl⟩
  wp_walk using wpAny_loadPart' H
  refine wpAny_stack_any λst=>cu ?_;split
  ·rename_i c _ _ _ _ _
   cases (c==Value.type "enumerate")<;>(wp_walk using wpAny_loadPart' H,wpAny_pyIter_tuple T;exact⟨_,rfl,h⟩)
  ·wp_walk using wpAny_loadPart' H,wpAny_pyIter_tuple T
   exact⟨_,rfl,h⟩
section
variable {prog:Program}{A:Around}
def EZ {k:Bool}(l:yD k s.heap a items)
  (h:∀h',IsEnum h' (s.heap.objs.size+1) s.heap.objs.size 0 .none->j4 k h' s.heap.objs.size a 0->(∀b o,s.heap.get? b=some o->h'.get? b=some o)->Q (.ref (s.heap.objs.size+1)) { s with heap:=h' }):
  wpAny (model prog w) A (call (.type "enumerate") [.ref a]) Q E s:=by
 cases k with
 |true=>exact call_enumerate_list l λh' g f _ e=>h h' g f e|false=>
  obtain⟨⟨c,dd,D,S⟩,d,H,n,hd⟩:=(show s.heap.IsTuple a items from l)
  replace H:c=.type "tuple":=H
  replace hd:D=.seq items n:=hd
  subst H hd;refine callType_new F.called_enumerate (by decide) (F.typeCall_enumerate_1 _) (F.newCall_enumerate_1 _) (λobj=>F.args_object_init_2 obj _) F.entry_enumerate_new (Ff a items n dd S) ⟨d,?_⟩
  have z:(Xe s.heap false a).objs.size=s.heap.objs.size+1:=bg ..;have he:IsEnum (Ln s.heap false a) (Xe s.heap false a).objs.size s.heap.objs.size 0 .none:=av _ rfl;show _/\_;rw[z]at he ⊢;exact⟨⟨_,he,rfl⟩,h _ he (.mk ⟨_,af _ (av _ rfl),rfl,rfl⟩) λb o x=>af _ (af _ x)⟩
end
section
variable {a b:Expr}{m:Ev}
def fe (K:Frag)(t:TA):TI:=λσ H R=>t σ H λvs H1=>∃p k xs,vs=[.ref p]/\wk k K H1 p xs/\R (Se k K p) H1
def boot_enumerate:bootBuiltins "enumerate"=some (.type "enumerate"):=by rfl
def boot_zip:bootBuiltins "zip"=some (.type "zip"):=by rfl
def Bk {t:TA}(l:Gl X "enumerate")(hm:X.mg "enumerate"=none)(o:PA X [a] t)(g:starEach [a] X.env=[(false,eval a X.env)]):
  PI X (.Tuple elts kk tpos) (.Call (.Name "enumerate" p) [a] [] pos) (fe X.K t):=by
 intro pins s σ H R I h;refine Call_ (Qr I l hm boot_enumerate (PyProof.Rows.callWith_type1 (qc (o pos pins s σ H _ I h) λus s1 ⟨vs,H1,i,d,Q⟩=>?_) g rfl));obtain⟨p,k,xs,rfl,j,q⟩:=Q;obtain⟨u,rfl,r⟩:=d.one;cases r;obtain⟨f,w,sq,x⟩:=i.sq j;refine EZ sq λh' e v E=>wpAny_pyIter_enum e ?_;refine⟨s1.heap.objs.size+1,[s1.heap.objs.size+1,s1.heap.objs.size],_,_,H1,rfl,i.kept (t':=s1.toks) E,Du k p _ _,⟨⟨_,by simpa using e⟩,v,Nat.succ_ne_self _⟩,λb n=>?_,q⟩
 have c:s1.heap.objs.size<=b:=by
  rcases cw.mp n with z|z
  ·rw[z];exact le_succ _
  ·rw[cA.mp z];exact ar _
 exact i.fpOk c (i.hok.fresh c)
noncomputable def atEnd (ws:List W)(i:Nat)(f:W->W):Option (Option W):=match ws[i]? with
 |some x=>some (some (f x))|none=>if ws.length=i then some none else none
def Z2 (w:W)(n:Nat):jY:=⟨λA i=>match zV w A with
 |some ws=>atEnd ws i λx=>.tup [.int i,x]|none=>none,n⟩
noncomputable def Jp (w:W):Bool:=match w with
 |.tup _=>false|_=>true
def Gk {K:Frag}{A:Hx}{w:W}{ws:List W}(S:zS K φ A H)(q:RV K φ H w v)(e:zV w A=some ws):∃p ys,v=.ref p/\wk (Jp w) K H p ys/\zE K φ H ws ys:=by
 cases w with
 |tup us=>cases e;obtain⟨a,vs,E,t,r⟩:=q;exact⟨a,vs,E,t,r⟩|ref n=>
  obtain⟨a,E,f⟩:=q;unfold zV at e;dsimp only at e;cases c:A[n]? with
  |none=>rw[c]at e;cases e|some o=>
   rw[c]at e;obtain⟨g,d,r⟩:=S.ob n o c;rw[f]at d;cases d;cases o with
   |lst xs=>cases e;obtain⟨y,b,h⟩:=r;exact⟨a,y,E,jj.of b,h⟩|ro xs=>cases e;obtain⟨y,b,h⟩:=r;exact⟨a,y,E,b.sq,h⟩|dct xs=>cases e|tab _ _=>cases e
 |non=>cases e|bl _=>cases e|clo _ _ _=>cases e|xc _=>cases e|int _=>cases e|str _=>cases e
def VA {K:Frag}{a:bW}{A':Hx}{h:Hp}{w:W}{b:List W}{p:Addr}(q:RV K φ H w (.ref p))(lw:ZD K φ H a h)(S:zS K a A' h)(E:zV w A'=some b):∃y,wk (Jp w) K h p y/\zE K a h b y:=by
 obtain⟨P,ys,e,d,c⟩:=Gk S (RV.monoW lw q) E;cases e;exact⟨ys,d,c⟩
def fg {K:Frag}{w:W}{p:Addr}(q:RV K φ H w (.ref p)):QK K φ H (Z2 w n) (Se (Jp w) K p):=λi c k A' lw S=>by
 unfold Z2;dsimp only;cases es:zV w A' with
 |none=>exact⟨λ_ z=>(by cases z),λz=>(by cases z)⟩|some ws=>
  dsimp only;obtain⟨ys,a,b⟩:=VA q lw S es;unfold atEnd;cases E:ws[i]? with
  |none=>
   dsimp only
   by_cases h:ws.length=i
   ·rw[ah h]
    exact⟨λ_ z=>(by cases z),λ_=>⟨ys,a,by rw[<- b.length];exact h⟩⟩
   ·rw[aj h]
    exact⟨λ_ z=>(by cases z),λz=>(by cases z)⟩
  |some x=>
   dsimp only;refine⟨λu z=>?_,λz=>(by cases z)⟩
   cases z;obtain⟨y,e,j⟩:=b.get E;refine⟨⟨ys,y,a,e⟩,λX H1 ⟨t,Y,d,f,ex,g⟩=>?_⟩;subst ex g
   have:=d ys a
   rw[e]at this;cases this;obtain⟨a1,a2,A⟩:=JR S f (.cons (w:=.int i) (v:=.int i) rfl (.one j));exact⟨a1,a2,A⟩
def Jo (m:Ev):Ei:=λρ A=>(m ρ A).bind λw A1=>match zV w A1 with
 |some ws=>.ok (Z2 w ws.length) A1|none=>.bad
end
section
variable {prog:Program}{A:Around}{z TI TO i1 i2 l1 l2:Addr}{n1 n2:Nat}{c1 c2:Bool}{xs ys:Array Value}{x y a b:Value}
def Ag (D:ZipApart z TI TO i1 i2 l1 l2)(H:IsZip s.heap z TI TO .none)(I:IsPair s.heap TI (.ref i1) (.ref i2))(u:IsPair s.heap TO a b)
  (g1:j4 c1 s.heap i1 l1 n1)(g2:j4 c2 s.heap i2 l2 n2)(s1:yD c1 s.heap l1 xs)(s2:yD c2 s.heap l2 ys)(Y:xs[n1]? =some x)(X:ys[n2]? =some y)
  (hQ:∀h',IsZip h' z TI TO (rawInt s.heap.objs.size)->IsPair h' TI (.ref i1) (.ref i2)->IsPair h' TO x y->j4 c1 h' i1 l1 (n1+1)->j4 c2 h' i2 l2 (n2+1)->IsPair h' s.heap.objs.size x y->
   (∀c o,c≠z->c≠TO->c≠i1->c≠i2->s.heap.get? c=some o->h'.get? c=some o)->Q (.ref s.heap.objs.size) { s with heap:=h' }):
  wpAny (model prog w) A (Builtin.«zip.__next__» ⟨[.ref z],[]⟩) (λfin s'=>∃v,fin=.done (.ret v)/\Q v s') E s:=by
 show wpAny _ _ (field (.ref z) 2 >>= _) _ _ _;refine cq (wpAny_field H rfl (x:=.bool false) rfl ?_);show wpAny _ _ (field (.ref z) 3 >>= _) _ _ _;refine cq (wpAny_field H rfl (x:=.ref TI) rfl (cq (wpAny_seqItems I rfl ?_)));show wpAny _ _ (Builtin.SmallTypes.ownedTupleIsFree (.ref z) >>= _) _ _ _;refine cq ?_;unfold Builtin.SmallTypes.ownedTupleIsFree;refine cq (wpAny_field H rfl (x:=.none) rfl (cu ?_));simp only[if_true];refine cq (wpAny_rule (cq (wpAny_field H rfl (x:=.ref TO) rfl ?_)));refine cq (wpAny_setField_rec H (by simp) λha p sa=>?_);replace p:IsZip ha z TI TO .ellipsis:=p
 refine cq ?_;simp only[List.zipIdx_cons,List.zipIdx_nil,forIn_cons,forIn_nil];refine cq (cq (wpAny_onRaise ?_));show wpAny _ _ (Builtin.SmallTypes.nextOf (.ref i1) >>= _) _ _ _;refine cq (Gr (g1.to λo e=>sa.extBut _ _ D.i1z e) (s1.to λo e=>sa.extBut _ _ D.l1z e) Y λhb gb j=>cu ?_);have K:IsPair hb TO a b:=j.extBut _ _ D.TOi1 (sa.extBut _ _ D.TOz u);refine cq (wpAny_seqItems K rfl (cq (wpAny_updateSeq_pair K λP T sc=>cq (wpAny_letGo (cu ?_)))));replace T:IsPair P TO x b:=T;refine cq (cq (wpAny_onRaise ?_));show wpAny _ _ (Builtin.SmallTypes.nextOf (.ref i2) >>= _) _ _ _;have up:∀c o,c≠z->c≠i1->c≠TO->s.heap.get? c=some o->P.get? c=some o:=λc o f d h e=>sc.extBut _ _ h (j.extBut _ _ d (sa.extBut _ _ f e));refine cq (Gr (g2.to λo e=>up _ o D.i2z D.i12.symm D.TOi2.symm e) (s2.to λo e=>up _ o D.l2z D.l2i1 D.l2TO e) X λhd gd g=>cu ?_);have J:IsPair hd TO x b:=g.extBut _ _ D.TOi2 T;refine cq (wpAny_seqItems J rfl (cq (wpAny_updateSeq_pair J λhe t S=>cq (wpAny_letGo (cu (cu ?_))))));replace t:IsPair he TO x y:=t;refine cq (wpAny_seqItems t rfl (cq (wpAny_newTuple ?_)));have i:he.objs.size=s.heap.objs.size:=by rw[S.1,g.1,sc.1,j.1,sa.1]
 have C:IsZip he z TI TO .ellipsis:=S.extBut _ _ D.TOz.symm (g.extBut _ _ D.i2z.symm (sc.extBut _ _ D.TOz.symm (j.extBut _ _ D.i1z.symm p)));have N:∀c o,c≠z->c≠TO->c≠i1->c≠i2->s.heap.get? c=some o->he.get? c=some o:=λc o f d h r e=>S.extBut _ _ d (g.extBut _ _ r (up c o f h d e));have ge1:j4 c1 he i1 l1 (n1+1):=((gb.to λo e=>sc.extBut _ _ D.TOi1.symm e).to λo e=>g.extBut _ _ D.i12 e).to λo e=>S.extBut _ _ D.TOi1.symm e;have B:j4 c2 he i2 l2 (n2+1):=gd.to λo e=>S.extBut _ _ D.TOi2.symm e;have Z:z<he.objs.size:=aF C;show wpAny _ _ (Builtin.SmallTypes.ownedTupleHandOut (.ref z) (.ref he.objs.size) >>= _) _ _ _;refine cq ?_;unfold Builtin.SmallTypes.ownedTupleHandOut;have U:IsZip (he.push { cls:=.type "tuple",data:=.seq #[x,y] }) z TI TO .ellipsis:=af _ C;refine cq (wpAny_setField_rec U (by simp) λhg n M=>?_);replace n:IsZip hg z TI TO (rawInt he.objs.size):=n
 refine wpAny_setField_rec n (by simp) λl k L=>?_;replace k:IsZip l z TI TO (rawInt he.objs.size):=k
 have fin:∀c o,c≠z->he.get? c=some o->l.get? c=some o:=λc o q e=>L.extBut _ _ q (M.extBut _ _ q (af _ e));have tk:IsPair l he.objs.size x y:=L.extBut _ _ (br Z) (M.extBut _ _ (br Z) (av _ rfl));rw[i]at k tk;refine cu ⟨_,rfl,?_⟩;show Q (.ref he.objs.size) _;rw[i];exact hQ l k (fin _ _ D.TIz (N _ _ D.TIz D.TITO D.TIi1 D.TIi2 I)) (fin _ _ D.TOz t) (ge1.to λo e=>fin _ o D.i1z e) (B.to λo e=>fin _ o D.i2z e) tk λc o f d h r e=>fin c o f (N c o f d h r e)
def fh {Q:Fin->Shared->Prop}(J:A.handled=none)(D:ZipApart z TI TO i1 i2 l1 l2)(i:IsZip s.heap z TI TO .none)(I:IsPair s.heap TI (.ref i1) (.ref i2))(u:IsPair s.heap TO a b)
  (g1:j4 c1 s.heap i1 l1 n1)(g2:j4 c2 s.heap i2 l2 n2)(s1:yD c1 s.heap l1 xs)(s2:yD c2 s.heap l2 ys)(j:xs[n1]? =none∨ys[n2]? =none)
  (K:∀h' e,(∀c o,c≠z->c≠TO->c≠i1->c≠i2->s.heap.get? c=some o->h'.get? c=some o)->(∃o,h'.get? e=some o/\o.cls=.type "StopIteration")->E (.ref e) { s with heap:=h' }):
  wpAny (model prog w) A (Builtin.«zip.__next__» ⟨[.ref z],[]⟩) Q E s:=by
 show wpAny _ _ (field (.ref z) 2 >>= _) _ _ _;refine cq (wpAny_field i rfl (x:=.bool false) rfl ?_);show wpAny _ _ (field (.ref z) 3 >>= _) _ _ _;refine cq (wpAny_field i rfl (x:=.ref TI) rfl (cq (wpAny_seqItems I rfl ?_)));show wpAny _ _ (Builtin.SmallTypes.ownedTupleIsFree (.ref z) >>= _) _ _ _;refine cq ?_;unfold Builtin.SmallTypes.ownedTupleIsFree;refine cq (wpAny_field i rfl (x:=.none) rfl (cu ?_));simp only[if_true];refine cq (wpAny_rule (cq (wpAny_field i rfl (x:=.ref TO) rfl ?_)));refine cq (wpAny_setField_rec i (by simp) λt Z sa=>?_);replace Z:IsZip t z TI TO .ellipsis:=Z
 refine cq ?_;simp only[List.zipIdx_cons,List.zipIdx_nil,forIn_cons,forIn_nil];refine cq (cq (wpAny_onRaise ?_));show wpAny _ _ (Builtin.SmallTypes.nextOf (.ref i1) >>= _) _ _ _;have ga:=g1.to (h':=t) λo e=>sa.extBut _ _ D.i1z e;have Y:=s1.to (h':=t) λo e=>sa.extBut _ _ D.l1z e;cases n:xs[n1]? with
 |none=>
  refine cq (UP J ga Y n λr e S he=>?_);obtain⟨l,h,H⟩:=he;have y:IsZip r z TI TO .ellipsis:=S _ _ D.i1z.symm Z;have f:e≠z:=λq=>by subst q;rw[y]at h;cases h;simp at H
  exact wpAny_setField_rec y (by simp) λp _ sc=>K p e (λc o d _ g _ q=>sc.extBut _ _ d (S _ _ g (sa.extBut _ _ d q))) ⟨l,sc.extBut _ _ f h,H⟩
 |some x=>
  have M:ys[n2]? =none:=by
   rcases j with q|q
   ·rw[n]at q;cases q
   ·exact q
  refine cq (Gr ga Y n λr P S=>cu ?_);have T:IsPair r TO a b:=S.extBut _ _ D.TOi1 (sa.extBut _ _ D.TOz u);refine cq (wpAny_seqItems T rfl (cq (wpAny_updateSeq_pair T λp N sc=>cq (wpAny_letGo (cu ?_)))));refine cq (cq (wpAny_onRaise ?_));show wpAny _ _ (Builtin.SmallTypes.nextOf (.ref i2) >>= _) _ _ _;have up:∀c o,c≠z->c≠i1->c≠TO->s.heap.get? c=some o->p.get? c=some o:=λc o d k g e=>sc.extBut _ _ g (S.extBut _ _ k (sa.extBut _ _ d e));refine cq (UP J (g2.to λo e=>up _ o D.i2z D.i12.symm D.TOi2.symm e) (s2.to λo e=>up _ o D.l2z D.l2i1 D.l2TO e) M λhd e C he=>?_);obtain⟨l,h,H⟩:=he;have v:IsZip hd z TI TO .ellipsis:=C _ _ D.i2z.symm (sc.extBut _ _ D.TOz.symm (S.extBut _ _ D.i1z.symm Z));have f:e≠z:=λq=>by subst q;rw[v]at h;cases h;simp at H
  exact wpAny_setField_rec v (by simp) λhf _ B=>K hf e (λc o d k g L q=>B.extBut _ _ d (C _ _ L (up c o d g k q))) ⟨l,B.extBut _ _ f h,H⟩
def AR {Q:Option Value->Shared->Prop}(D:ZipApart z TI TO i1 i2 l1 l2)(d:IsZip s.heap z TI TO .none)(H:IsPair s.heap TI (.ref i1) (.ref i2))(h:IsPair s.heap TO a b)
  (g1:j4 c1 s.heap i1 l1 n1)(g2:j4 c2 s.heap i2 l2 n2)(s1:yD c1 s.heap l1 xs)(s2:yD c2 s.heap l2 ys)(n:xs[n1]? =some x)(l:ys[n2]? =some y)
  (p:∀h',IsZip h' z TI TO (rawInt s.heap.objs.size)->IsPair h' TI (.ref i1) (.ref i2)->IsPair h' TO x y->j4 c1 h' i1 l1 (n1+1)->j4 c2 h' i2 l2 (n2+1)->IsPair h' s.heap.objs.size x y->
   (∀c o,c≠z->c≠TO->c≠i1->c≠i2->s.heap.get? c=some o->h'.get? c=some o)->Q (some (.ref s.heap.objs.size)) { s with heap:=h' }):wpAny (model prog w) A (pyNext (.ref z)) Q E s:=by
 have T:s.TypeIs (.ref z) "zip":=⟨_,d,rfl⟩;unfold pyNext;exact cq (wpAny_attempt (wpAny_callSpecial?_slot (name:=Str.ofString "__next__") T F.slot_zip_next (wpAny_call_entry F.slot_zip_next T F.entry_zip_next
  (Ag D d H h g1 g2 s1 s2 n l λh' k j i g f e q=>cu (p h' k j i g f e q)) (F.args_zip_next_1 _))))
def Bv {Q:Option Value->Shared->Prop}(i:A.handled=none)(D:ZipApart z TI TO i1 i2 l1 l2)(d:IsZip s.heap z TI TO .none)(I:IsPair s.heap TI (.ref i1) (.ref i2))(H:IsPair s.heap TO a b)
  (g1:j4 c1 s.heap i1 l1 n1)(g2:j4 c2 s.heap i2 l2 n2)(s1:yD c1 s.heap l1 xs)(s2:yD c2 s.heap l2 ys)(h:xs[n1]? =none∨ys[n2]? =none)
  (l:∀h',(∀c o,c≠z->c≠TO->c≠i1->c≠i2->s.heap.get? c=some o->h'.get? c=some o)->Q none { s with heap:=h' }):wpAny (model prog w) A (pyNext (.ref z)) Q E s:=by
 have f:s.TypeIs (.ref z) "zip":=⟨_,d,rfl⟩;unfold pyNext;refine cq (wpAny_attempt (wpAny_callSpecial?_slot (name:=Str.ofString "__next__") f F.slot_zip_next (wpAny_call_entry F.slot_zip_next f F.entry_zip_next (fh i D d I H g1 g2 s1 s2 h λh' e k he=>?_) (F.args_zip_next_1 _))));obtain⟨o,g,j⟩:=he;exact cq (wpAny_isInstance (T := "StopIteration") (b:=true) ⟨o,g,j⟩ isSubtype_stop (cu (l _ k)))
end
abbrev Xj (h:Heap)(c:Bool)(l:Addr):Heap:=h.push { cls:=.type (JS c),data:=.fields #[.ref l,.int 0 0] }
abbrev Xk (h:Heap)(C c:Bool)(L l:Addr):Heap:=(Xj h C L).push { cls:=.type (JS c),data:=.fields #[.ref l,.int 0 0] }
abbrev G7 (h:Heap)(c C:Bool)(l L:Addr):Heap:=(Xk h c C l L).push { cls:=.type "tuple",data:=.seq #[.ref h.objs.size,.ref (Xj h c l).objs.size] }
abbrev Xg (h:Heap)(C c:Bool)(L l:Addr):Heap:=(G7 h C c L l).push { cls:=.type "tuple",data:=.seq #[.none,.none] }
abbrev YZ (h:Heap)(C c:Bool)(L l:Addr):Heap:=(Xg h C c L l).push { cls:=.type "zip",data:=.fields #[.none,.bool false,.bool false,.ref (Xk h C c L l).objs.size,.ref (G7 h C c L l).objs.size] }
def Dt (c C:Bool)(l L:Addr)(xs ys:Array Value):
  Meets (Builtin.«zip.__new__» ⟨[.type "zip",.ref l,.ref L],[]⟩) (λ_ R s=>yD c s.heap l xs/\yD C s.heap L ys/\R (.ok (.ret (.ref (Xg s.heap c C l L).objs.size))) { s with heap:=YZ s.heap c C l L }):=
 .of_wp λprog w A R s h=>by
  obtain⟨p,g,d,tk,os⟩:=s;obtain⟨Q,q,h⟩:=h;have H:=sub_zip;have k1:yD c (Shared.heap ⟨p,g,d,tk,os⟩) l xs:=Q;have k2:yD C (Shared.heap ⟨p.push { cls:=.type (JS c),data:=.fields #[.ref l,.int 0 0] },g,d,tk,os⟩) L ys:=q.to λo e=>af _ e
  wp_walk using Nj k1,Nj k2
  exact⟨_,rfl,h⟩
section
variable {prog:Program}{A:Around}{c1 c2:Bool}{l1 l2:Addr}{xs ys:Array Value}
def CN (s1:yD c1 s.heap l1 xs)(s2:yD c2 s.heap l2 ys)
  (h:∀h' n,n=s.heap.objs.size->IsZip h' (n+4) (n+2) (n+3) .none->IsPair h' (n+2) (.ref n) (.ref (n+1))->IsPair h' (n+3) .none .none->j4 c1 h' n l1 0->j4 c2 h' (n+1) l2 0->
   (∀c o,s.heap.get? c=some o->h'.get? c=some o)->Q (.ref (n+4)) { s with heap:=h' }):wpAny (model prog w) A (call (.type "zip") [.ref l1,.ref l2]) Q E s:=by
 refine callType_new F.called_zip (by decide) (F.typeCall_zip_2 _ _) (F.newCall_zip_2 _ _) (λobj=>F.args_object_init_3 obj _ _) F.entry_zip_new (Dt c1 c2 l1 l2 xs ys) ⟨s1,s2,?_⟩
 have a:(Xj s.heap c1 l1).objs.size=s.heap.objs.size+1:=bg ..;have Z:(Xk s.heap c1 c2 l1 l2).objs.size=s.heap.objs.size+2:=by rw[bg,a]
 have z:(G7 s.heap c1 c2 l1 l2).objs.size=s.heap.objs.size+3:=by rw[bg,Z]
 have b:(Xg s.heap c1 c2 l1 l2).objs.size=s.heap.objs.size+4:=by rw[bg,z]
 have y:(YZ s.heap c1 c2 l1 l2).get? (Xg s.heap c1 c2 l1 l2).objs.size=some _:=av _ rfl;have Y:(YZ s.heap c1 c2 l1 l2).get? (G7 s.heap c1 c2 l1 l2).objs.size=some _:=af _ (av _ rfl);have d:(YZ s.heap c1 c2 l1 l2).get? (Xk s.heap c1 c2 l1 l2).objs.size=some _:=af _ (af _ (av _ rfl));have e:(YZ s.heap c1 c2 l1 l2).get? (Xj s.heap c1 l1).objs.size=some _:=af _ (af _ (af _ (av _ rfl)));have f:(YZ s.heap c1 c2 l1 l2).get? s.heap.objs.size=some _:=af _ (af _ (af _ (af _ (av _ rfl))));show _/\_;rw[Z,z,b]at y;rw[a,Z]at d;rw[z]at Y;rw[a]at e;rw[b];exact⟨⟨_,y,rfl⟩,h _ _ rfl y d Y (.mk ⟨_,f,rfl,rfl⟩) (.mk ⟨_,e,rfl,rfl⟩) λc o q=>
  af _ (af _ (af _ (af _ (af _ q))))⟩
end
def T4 (C c:Bool)(K:Frag)(p q:Addr):It:=
 ⟨λi H=>∃xs ys x y,wk C K H p xs/\wk c K H q ys/\xs[i]? =some x/\ys[i]? =some y,
  λi H v h=>∃t x y,(∀xs,wk C K H p xs->xs[i]? =some x)/\(∀ys,wk c K H q ys->ys[i]? =some y)/\H t=none/\v=.ref t/\h=upd H t (.tup [x,y]),
  λi H=>∃xs ys,wk C K H p xs/\wk c K H q ys/\(xs[i]? =none∨ys[i]? =none)⟩
def CA {K:Frag}(c1 c2:Bool)(p q z TI TO t r:Addr)(D:ZipApart z TI TO t r p q):
  Turn P w K (.Tuple elts kk tpos) (T4 c1 c2 K p q) [z,TI,TO,t,r] z (λi h=>IsZip h z TI TO .none/\IsPair h TI (.ref t) (.ref r)/\(∃a b,IsPair h TO a b)/\j4 c1 h t p i/\j4 c2 h r q i) where
 mem:=by simp
 obj:=λi h st b d=>by
  obtain⟨j,g,⟨T,Q,f⟩,g1,g2⟩:=st;simp only[mem_cons,bS,or_false]at d;rcases d with rfl|rfl|rfl|rfl|rfl
  ·exact⟨_,j,λv e=>nomatch e⟩
  ·exact⟨_,g,λv e=>nomatch e⟩
  ·exact⟨_,f,λv e=>nomatch e⟩
  ·obtain⟨o,B,_,hd⟩:=g1.ob;exact⟨o,B,λv e=>by rw[hd]at e;cases e⟩
  ·obtain⟨o,B,_,hd⟩:=g2.ob;exact⟨o,B,λv e=>by rw[hd]at e;cases e⟩
 keep:=λi h h' ⟨j,g,⟨T,Q,f⟩,g1,g2⟩ k=>⟨k z (by simp) _ j,k TI (by simp) _ g,⟨T,Q,k TO (by simp) _ f⟩,g1.to λo e=>k t (by simp) o e,g2.to λo e=>k r (by simp) o e⟩
 item:=by
  intro X hP hw hK hc i pins s σ H E I hf st hg;subst hP hw hK;obtain⟨j,g,⟨T,Q,f⟩,g1,g2⟩:=st;obtain⟨xs,ys,x,y,N,M,ex,ey⟩:=hg;obtain⟨n,r1,u,_⟩:=I.sq N;obtain⟨l,r2,S,_⟩:=I.sq M;obtain⟨Y,eu1,ru1⟩:=r1.get ex;obtain⟨U,eu2,Z⟩:=r2.get ey;refine AR D j g f g1 g2 u S (x:=Y) (y:=U) (by simpa using eu1) (by simpa using eu2) λhh z1 z2 z3 z4 z5 z6 kp=>?_
  refine⟨_,rfl,wpAny_letOwnedTupleGo_zip z1 λhk zk J=>?_⟩;have lt:∀{c o},s.heap.get? c=some o->c≠s.heap.objs.size:=λe=>aI (aF e);have T2:IsPair hk s.heap.objs.size Y U:=J.extBut _ _ (lt j).symm z6;have fre:∀b∈[z,TI,TO,t,r],b≠s.heap.objs.size:=λb d=>by
   simp only[mem_cons,bS,or_false]at d;rcases d with rfl|rfl|rfl|rfl|rfl
   ·exact lt j
   ·exact lt g
   ·exact lt f
   ·obtain⟨o,B,_⟩:=g1.ob;exact lt B
   ·obtain⟨o,B,_⟩:=g2.ob;exact lt B
  refine⟨.ref s.heap.objs.size,upd H s.heap.objs.size (.tup [x,y]),?_,rfl,⟨s.heap.objs.size,x,y,λzs A=>by rw[I.sq_inj A N];exact ex,λzs A=>by rw[I.sq_inj A M];exact ey,I.hok.fresh (ar _),rfl,rfl⟩,
   ⟨zk,J.extBut _ _ D.TIz z2,⟨_,_,J.extBut _ _ D.TOz z3⟩,z4.to λo e=>J.extBut _ _ D.i1z e,z5.to λo e=>J.extBut _ _ D.i2z e⟩,λb d=>?_⟩
  ·refine I.spun (fp:=[z,TI,TO,t,r]) (t':=s.toks) (λb o d eo=>?_) hf (ar _) ?_
   ·exact J.extBut _ _ (λe=>d (by simp[e])) (kp b o (λe=>d (by simp[e])) (λe=>d (by simp[e])) (λe=>d (by simp[e])) (λe=>d (by simp[e])) eo)
   ·exact⟨by show 2<=sizeLine;decide,[Y,U],.cons ru1 (.cons Z .nil),_,T2,⟨rfl,rfl⟩,0,rfl⟩
  ·show upd H s.heap.objs.size _ b=none
   rw[qI (fre b d)];exact(hf b d).1
 done:=by
  intro X hP hw hK hc i pins s σ H E I hf st hg;subst hP hw hK;obtain⟨j,g,⟨T,Q,f⟩,g1,g2⟩:=st;obtain⟨xs,ys,N,M,L⟩:=hg;obtain⟨n,r1,u,_⟩:=I.sq N;obtain⟨l,r2,S,_⟩:=I.sq M;have C:n.toArray[i]? =none∨l.toArray[i]? =none:=by
   rcases L with e|e
   ·exact .inl (by simpa using r1.none_of e)
   ·exact .inr (by simpa using r2.none_of e)
  exact Bv (I.ok.hd hc) D j g f g1 g2 u S C λhh kp=>⟨rfl,I.spun0 (fp:=[z,TI,TO,t,r]) (t':=s.toks) (λb o d eo=>kp b o (λe=>d (by simp[e])) (λe=>d (by simp[e])) (λe=>d (by simp[e])) (λe=>d (by simp[e])) eo) hf⟩
 self:=λ_ _ _ _ _ st h=>wpAny_pyIter_zip st.1 h
section
variable {a b:Expr}{m:Ev}
def fi (K:Frag)(t:TA):TI:=λσ H R=>t σ H λvs H1=>∃p q C c xs ys,vs=[.ref p,.ref q]/\wk C K H1 p xs/\wk c K H1 q ys/\R (T4 C c K p q) H1
def fj {T:TA}(P:Gl X "zip")(hm:X.mg "zip"=none)(U:PA X [a,b] T)(M:starEach [a,b] X.env=(false,eval a X.env)::starEach [b] X.env)(N:(backTo pos (starEach [b] X.env)).any (·.1)=false):
  PI X (.Tuple elts kk tpos) (.Call (.Name "zip" p) [a,b] [] pos) (fi X.K T):=by
 intro pins s σ H R I h;refine Call_ (Qr I P hm boot_zip (PyProof.Rows.callWith_type1 (qc (U pos pins s σ H _ I h) λus s1 ⟨vs,H1,g,J,Q⟩=>?_) M N));obtain⟨p,q,c1,c2,xs,ys,rfl,h1,h2,Y⟩:=Q;obtain⟨u1,u2,rfl,k,r⟩:=J.two;cases k;cases r;obtain⟨v,C,d,_⟩:=g.sq h1;obtain⟨u,B,S,_⟩:=g.sq h2;obtain⟨op,t,_⟩:=d.ob;obtain⟨oq,o,_⟩:=S.ob;have L:p<s1.heap.objs.size:=aF t;have l:q<s1.heap.objs.size:=aF o;refine CN d S λh' n E z A y x Z kp=>wpAny_pyIter_zip z ?_;rw[<- E]at L l;have ne1:∀(i j:Nat),i≠j->n+i≠n+j:=λi j h e=>h (Nat.add_left_cancel e);have ne2:∀(c:Nat)(i:Nat),c<n->c≠n+i:=λc i h e=>absurd h (by rw[e];exact Nat.not_lt.mpr (le_add_right n i))
 have D:ZipApart (n+4) (n+2) (n+3) (n+0) (n+1) p q:=⟨ne1 2 4 (by decide),ne1 3 4 (by decide),ne1 0 4 (by decide),ne1 1 4 (by decide),ne1 2 3 (by decide),ne1 2 0 (by decide),ne1 2 1 (by decide),ne1 3 0 (by decide),ne1 3 1 (by decide),ne1 0 1 (by decide),
  ne2 p 4 L,ne2 p 3 L,ne2 p 0 L,ne2 p 1 L,ne2 q 4 l,ne2 q 3 l,ne2 q 0 l,ne2 q 1 l⟩
 refine⟨n+4,[n+4,n+2,n+3,n,n+1],_,_,H1,rfl,g.kept (t':=s1.toks) kp,CA c1 c2 p q _ _ _ _ _ D,⟨z,A,⟨_,_,y⟩,x,Z⟩,λc w=>?_,Y⟩;have f:s1.heap.objs.size<=c:=by
  rw[<- E];simp only[mem_cons,bS,or_false]at w;rcases w with rfl|rfl|rfl|rfl|rfl
  ·exact le_add_right _ _
  ·exact le_add_right _ _
  ·exact le_add_right _ _
  ·exact ar _
  ·exact le_add_right _ _
 exact g.fpOk f (g.hok.fresh f)
noncomputable def zip2:Option W->Option W->Option W
 |some x,some y=>some (.tup [x,y])|_,_=>none
def Ya (w a:W)(n:Nat):jY:=⟨λA i=>match zV w A,zV a A with
 |some us,some vs=>some (zip2 us[i]? vs[i]?)|_,_=>none,n⟩
def fk {K:Frag}{w a:W}{p P:Addr}(q:RV K φ H w (.ref p))(Q:RV K φ H a (.ref P)):QK K φ H (Ya w a n) (T4 (Jp w) (Jp a) K p P):=λi c C A' lw S=>by
 unfold Ya;dsimp only;cases es:zV w A' with
 |none=>exact⟨λ_ z=>(by cases z),λz=>(by cases z)⟩|some us=>
  cases es':zV a A' with
  |none=>exact⟨λ_ z=>(by cases z),λz=>(by cases z)⟩|some vs=>
   dsimp only;obtain⟨xs,b,f⟩:=VA q lw S es;obtain⟨ys,h,d⟩:=VA Q lw S es';have non:∀{us:List W}{xs:List V},zE K c C us xs->us[i]? =none->xs[i]? =none:=λr e=>by
    rw[List.getElem?_eq_none_iff]at e ⊢;rw[<- r.length];exact e
   cases j:us[i]? with
   |none=>exact⟨λ_ z=>(by cases z),λ_=>⟨xs,ys,b,h,.inl (non f j)⟩⟩|some x=>
    cases E:vs[i]? with
    |none=>exact⟨λ_ z=>(by cases z),λ_=>⟨xs,ys,b,h,.inr (non d E)⟩⟩|some y=>
     refine⟨λu z=>?_,λz=>(by cases z)⟩
     cases z;obtain⟨k,f1,f2⟩:=f.get j;obtain⟨v,g,f4⟩:=d.get E;refine⟨⟨xs,ys,k,v,b,h,f1,g⟩,λX H1 ⟨t,D,Y,o,l,s,ex,A⟩=>?_⟩;subst ex A;have g1:=o xs b;have g2:=l ys h;rw[f1]at g1;cases g1;rw[g]at g2;cases g2;obtain⟨a1,a2,B⟩:=JR S s (.cons f2 (.one f4));exact⟨a1,a2,B⟩
def QH (m m':Ev):Ei:=λρ A=>(m ρ A).bind λw A1=>(m' ρ A1).bind λa A2=>match zV w A2,zV a A2 with
 |some us,some _=>.ok (Ya w a us.length) A2|_,_=>.bad
end
section
noncomputable def J6:Ev:=λ_ A=>.ok (.ref A.length) (A++[.dct []])
end
mutual
noncomputable def W.beq:W->W->Bool
 |.non,.non=>true|.bl a,.bl b=>a==b|.int a,.int b=>decide (a=b)|.str a,.str b=>decide (a=b)|.tup a,.tup b=>Wc a b|_,_=>false
noncomputable def Wc:List W->List W->Bool
 |[],[]=>true|a::as,b::bs=>a.beq b&&Wc as bs|_,_=>false
end
mutual
theorem W.eq_of:∀{a b:W},a.beq b=true->a=b
 |.non,.non,_=>rfl|.bl a,.bl b,h=>by have h':(a==b)=true:=h;rw[aN]at h';rw[h']|.int a,.int b,h=>by have h':decide (a=b)=true:=h;rw[ai]at h';rw[h']|.str a,.str b,h=>by have h':decide (a=b)=true:=h;rw[ai]at h';rw[h']|.tup a,.tup b,h=>by have h':Wc a b=true:=h;rw[N8 h']|.non,.bl _,h=>nomatch h|.non,.int _,h=>nomatch h|.non,.str _,h=>nomatch h|.non,.tup _,h=>nomatch h|.non,.ref _,h=>nomatch h
 |.bl _,.non,h=>nomatch h|.bl _,.int _,h=>nomatch h|.bl _,.str _,h=>nomatch h|.bl _,.tup _,h=>nomatch h|.bl _,.ref _,h=>nomatch h
 |.int _,.non,h=>nomatch h|.int _,.bl _,h=>nomatch h|.int _,.str _,h=>nomatch h|.int _,.tup _,h=>nomatch h|.int _,.ref _,h=>nomatch h
 |.str _,.non,h=>nomatch h|.str _,.bl _,h=>nomatch h|.str _,.int _,h=>nomatch h|.str _,.tup _,h=>nomatch h|.str _,.ref _,h=>nomatch h
 |.tup _,.non,h=>nomatch h|.tup _,.bl _,h=>nomatch h|.tup _,.int _,h=>nomatch h|.tup _,.str _,h=>nomatch h|.tup _,.ref _,h=>nomatch h
 |.ref _,.non,h=>nomatch h|.ref _,.bl _,h=>nomatch h|.ref _,.int _,h=>nomatch h|.ref _,.str _,h=>nomatch h|.ref _,.tup _,h=>nomatch h|.ref _,.ref _,h=>nomatch h
theorem N8:∀{a b:List W},Wc a b=true->a=b
 |[],[],_=>rfl|a::as,b::bs,h=>by
  have h':(a.beq b&&Wc as bs)=true:=h;rw[ak]at h';rw[W.eq_of h'.1,N8 h'.2]
 |[],_::_,h=>nomatch h
 |_::_,[],h=>nomatch h
end
section
variable {K:Frag}
def FD (K:Frag)(x:Str)(st:Stmt):Prop:=∃f fd,wd K x x st f fd/\nsIn K mainGlobals x=some (some (.ref f))
def zc1 {st:Stmt}{b:Value}{o an:cm}{kV doc pm C ct:Value}(a:nsIn K mainGlobals x=some (some (.ref f)))
  (l:K.lookup f=some ⟨b,o,.func (fnOf x x (Qn st) (yH st) (qo st) .none kV doc pm an C ct),osl⟩)(c:codeIn K C x=true)(k:keepIn K (.ref f)=true):FD K x st:=⟨f,_,ew l c k,a⟩
def CD (K:Frag)(x:Str)(i:Int):Prop:=∃t,nsIn K mainGlobals x=some (some (.int i t))
def zcq {i:Int}{t:Tok}(a:nsIn K mainGlobals x=some (some (.int i t))):CD K x i:=⟨t,a⟩
end
open PySem PySem.Spec PyProof.Rows L2 Mi
@[irreducible] noncomputable def zD (X:Cx)(x:XR)(e:Expr)(m:Ev):Prop:=Mi.SE X x e m
def GQ:@zD=@Mi.SE:=by
 funext X xr e m
 unfold zD
 rfl
@[irreducible] noncomputable def gr (X:Cx)(x:XR)(e:b9)(m:Ea):Prop:=Mi.SA X x e m
def U5:@gr=@Mi.SA:=by
 funext X xr es m
 unfold gr
 rfl
@[irreducible] noncomputable def yU (X:Cx)(x:XR)(e:Expr)(m:Ev):Prop:=Mi.ST X x e m
def US:@yU=@Mi.ST:=by
 funext X xr e m
 unfold yU
 rfl
@[irreducible] noncomputable def Zh (X:Cx)(x:XR)(e:Expr)(m:Ev):Prop:=Mi.SW X x e m
def U2:@Zh=@Mi.SW:=by
 funext X xr e m
 unfold Zh
 rfl
@[irreducible] noncomputable def kN (X:Cx)(x:XR)(st:Stmt)(m:Ex):Prop:=Mi.SS X x st m
def UN:@kN=@Mi.SS:=by
 funext X xr st m
 unfold kN
 rfl
@[irreducible] noncomputable def kU (X:Cx)(x:XR)(st:cn)(m:Ex):Prop:=Mi.Y7 X x st m
def Uy:@kU=@Mi.Y7:=by
 funext X xr st m
 unfold kU
 rfl
@[irreducible] noncomputable def wF (X:Cx)(x:XR)(t e:Expr)(m:Ei):Prop:=Mi.SI X x t e m
def UK:@wF=@Mi.SI:=by
 funext X xr tg e m
 unfold wF
 rfl
@[irreducible] noncomputable def gn (X:Cx)(t:Expr)(m:Tg):Prop:=Mi.SG X t m
def UX:@gn=@Mi.SG:=by
 funext X tg m
 unfold gn
 rfl
@[irreducible] noncomputable def QJ (X:Cx)(x:XR)(e:Expr)(m:yn):Prop:=Mi.SF X x e m
def UY:@QJ=@Mi.SF:=by
 funext X xr e m
 unfold QJ
 rfl
@[irreducible] noncomputable def Zc (X:Cx)(x:XR)(e:Expr)(m:yn):Prop:=Mi.SQ X x e m
def UL:@Zc=@Mi.SQ:=by
 funext X xr e m
 unfold Zc
 rfl
@[irreducible] noncomputable def Zq (X:Cx)(e:b9)(m:Ev):Prop:=Mi.Y4 X e m
def V7:@Zq=@Mi.Y4:=by
 funext X es m
 unfold Zq
 rfl
@[irreducible] noncomputable def Ze (X:Cx)(elt:Expr)(gens:List Comprehension)(sc:Scope)(c:Pos)(d:Nat)(em:Em):Prop:=Mi.SM X elt gens sc c d em
def UH:@Ze=@Mi.SM:=by
 funext X elt gens sc cpos d em
 unfold Ze
 rfl
section
variable {xr:XR}{K:Frag}{a b c:Expr}{es:b9}{m ma mb mc:Ev}{m1 m2:Ex}{st:Stmt}{rest:cn}
def qi:@zD=@Mi.SE/\@gr=@Mi.SA/\@yU=@Mi.ST/\@Zh=@Mi.SW/\@kN=@Mi.SS/\@kU=@Mi.Y7/\@wF=@Mi.SI/\@gn=@Mi.SG/\@QJ=@Mi.SF/\@Zc=@Mi.SQ/\@Zq=@Mi.Y4/\@Ze=@Mi.SM:=⟨GQ,U5,US,U2,UN,Uy,UK,UX,UY,UL,V7,UH⟩
def zi {M:Ea}(d:zD X xr e ma)(r:gr X xr es M)(s:starEach (e::es) X.env=(false,eval e X.env)::starEach es X.env:=by rfl):gr X xr (e::es) (zc ma M):=by
 try simp only[qi]at*
 exact PA.imp (jw d r s) λσ H Q ⟨φ,A,ρ,S,re,h⟩=>by
   refine tM.go S re (qd.mp h) λw A1 b H1 v g l j c=>?_;refine Xn.go j (re.mono l) (qL (qd.mp g) (λ_ _ z=>z) λ_ _ z=>z.mono l) λn A2 a k v2 f L i q=>?_;exact f a k _ (l.trans L) i (.cons (c.mono L) q)
def zu:gr X xr [] zl:=by
 try simp only[qi]at*
 exact PA.imp yj λσ H Q ⟨φ,A,ρ,S,re,h⟩=>h φ H [] .refl S .nil
def jC (H:zD X xr a ma)(h:zD X xr b mb):zD X xr (.BinOp a .Add b pos) (zj qa ma mb):=by
 try simp only[qi]at*
 exact JN (dC.or (Bf.or (D1.or eg))) eQ BW H h
def Qh {q:yn}(H:X.calm=true)(hm:X.mg "all"=none)(a:Zc X xr e q)(h:Gl X "all":=by rfl)(he:starEach [e] X.env=(false,eval e X.env)::starEach [] X.env:=by rfl):
  zD X xr (.Call (.Name "all" p) [e] [] pos) (mQ gI q):=by
 try simp only[qi]at*
 exact U8 (Ce H) eO BS hm (by rfl) a h (by decide) (by decide) he (by rfl)
def Qo {rest:b9}(f:zD X xr a ma)(e:zD X xr (.BoolOp .And (b::rest) pos) mb):zD X xr (.BoolOp .And (a::b::rest) pos) (yW ma mb):=by
 try simp only[qi]at*
 exact PE.imp (cV f e) λσ H Q ⟨φ,A,ρ,S,re,h⟩=>by
   refine tM.go S re (qd.mp h) λw A1 d H1 v c l s q=>?_;cases w with
   |bl k=>
    refine⟨k,q,?_⟩;cases k with
    |true=>rw[ah rfl];exact⟨d,A1,ρ,s,re.mono l,qL c (λ_ _ z=>z.mono l) λ_ _ z=>z.mono l⟩|false=>rw[aj aA];exact c d H1 _ l s rfl
   |non=>cases c|int _=>cases c|str _=>cases c|tup _=>cases c|ref _=>cases c|clo _ _ _=>cases c|xc _=>cases c
def yo {i j}:zD X xr (.Constant (.bool i) j pos) (zU (.bl i)):=by
 try simp only[qi]at*
 exact PE.imp cK λσ H Q ⟨φ,A,ρ,S,r,h⟩=>h φ H _ .refl S rfl
def gE {g:W->W->Hx->R W}(h:gF X op g)(c:zD X xr a ma)(H:zD X xr b mb)(e:op≠.In:=by decide)(d:op≠.NotIn:=by decide):zD X xr (.Compare a [op] [b] pos) (zj g ma mb):=by
 try simp only[qi]at*
 exact let ⟨r,a1,a2,A⟩:=h.ex;NV a1 a2 A c H (h.mks b e d)
def NT {o:CmpOp}{g g':W->W->Hx->R W}(h:gF X op g)(h':gF X o g')(e:zD X xr a ma)(d:zD X xr b mb)(H:zD X xr c mc)(hm:lastMarks [op,o] [b,c]=false:=by with_unfolding_all rfl):
  zD X xr (.Compare a [op,o] [b,c] pos) (kx g g' ma mb mc):=by
 try simp only[qi]at*
 exact let ⟨r,a1,a2,A⟩:=h.ex;let ⟨j,i,f,B⟩:=h'.ex;DF a1 a2 A i f B e d H hm
def ql {f:Fn}{M:Ea}(F:zR X.prog X.w X.K X.mg X.base k x n f)(r:jR k X.A)(s:gr X yx (e::es) M)(g:Z5 M n:=by repeat' (first|exact zM|refine zq ?_))(j:Gl X x:=by rfl)
  (c:(x==("__debug__":Str))=false:=by decide)(he:starEach (e::es) X.env=(false,eval e X.env)::starEach es X.env:=by rfl)(l:(backTo pos (starEach es X.env)).any (·.1)=false:=by rfl):
  zD X yx (.Call (.Name x p) (e::es) [] pos) (zA f M):=by
 try simp only[qi]at*
 obtain⟨B,fd,ps,F,hm,i,o⟩:=F;refine PE.imp (Nf F r j hm i o .nil eu s c he l) λσ H Q ⟨φ,A,ρ,S,re,h⟩=>?_;have h':=qd.mp h;refine⟨φ,A,ρ,S,re,?_⟩;cases E:M ρ A with
 |ok ws A1=>
  rw[E]at h';intro b H1 vs L u q;have v:vs.length=n:=by rw[<- q.length];exact g ρ A ws A1 E
  rw[a8];exact⟨v,b,A1,ws,u,q,qL h' (λ_ _ z=>z.mono L) λx A2 z a y d t=>(z a y (L.trans d) t).elim⟩
 |exc x A1=>rw[E]at h';exact h'|bad=>rw[E]at h';exact h'
def My {g:W->W->Hx->R W}(h:Xa X op g)(c:zD X xr a ma)(H:zD X xr b mb)(hm:behindInMarks op b=false:=by rfl):zD X xr (.Compare a [op] [b] pos) (zj g ma mb):=by
 try simp only[qi]at*
 exact let ⟨r,a1,a2,A⟩:=h.ex;NV a1 a2 A c H hm
def Ny:zD X xr (.Dict [] [] pos) J6:=by
 try simp only[qi]at*
 exact PE.imp DW λσ H Q ⟨φ,A,ρ,S,re,h⟩ p a=>by
  obtain⟨l,s⟩:=S.alloc (o:=.dct []) a (u:=.dK []) ⟨[],jS,rfl,.nil⟩;exact h _ _ _ l s ⟨p,rfl,by rw[<- S.len];simp⟩
def CS {i:Int}{t:Tok}(g:Gl X x)(hm:X.mg x=some (.int i t))(hd:(x==("__debug__":Str))=false:=by decide):zD X xr (.Name x pos) (zU (.int i)):=by
 try simp only[qi]at*
 exact PE.imp (Bc g hm (v:=.int i) ⟨t,rfl⟩ hd) λσ H Q ⟨φ,A,ρ,S,r,h⟩=>h φ H _ .refl S rfl
def fm {c:Expr}(f:yU X xr c mc)(i:zD X xr a ma)(g:zD X xr b mb):zD X xr (.IfExp c a b pos) (LV mc ma mb):=by
 try simp only[qi]at*
 exact PE.imp (CJ f i g) λσ H Q ⟨φ,A,ρ,S,re,h⟩=>by
   refine tT.go S re (qd.mp h) λw A1 d=>?_;cases w with
   |bl k=>
    refine⟨k,rfl,λe H1 l s=>?_⟩;cases k with
    |true=>rw[ah rfl];exact⟨e,A1,ρ,s,re.mono l,qL d (λ_ _ z=>z.mono l) λ_ _ z=>z.mono l⟩|false=>rw[aj aA];exact⟨e,A1,ρ,s,re.mono l,qL d (λ_ _ z=>z.mono l) λ_ _ z=>z.mono l⟩
   |non=>cases d|int _=>cases d|str _=>cases d|tup _=>cases d|ref _=>cases d|clo _ _ _=>cases d|xc _=>cases d
def zr {i j}:zD X xr (.Constant (.int i) j pos) (zU (.int i)):=by
 try simp only[qi]at*
 exact PE.imp cJ λσ H Q ⟨φ,A,ρ,S,r,h⟩=>h φ H _ .refl S rfl
def w8 (t:Ty){P:Pos}(hm:X.mg "isinstance"=none)(c:X.mg x=none)(f:bootBuiltins x=some (.type t.nm))(i:zD X xr e m)(g:Gl X "isinstance":=by rfl)(d:Gl X x:=by rfl)
  (hn:x ≠ "__name__":=by decide)(hd:(x==("__debug__":Str))=false:=by decide)
  (a:starEach [e,.Name x P] X.env=(false,eval e X.env)::starEach [.Name x P] X.env:=by rfl)(j:(backTo pos (starEach [.Name x P] X.env)).any (·.1)=false:=by rfl):
  zD X xr (.Call (.Name "isinstance" p) [e,.Name x P] [] pos) (yY t m):=by
 try simp only[qi]at*
 exact PE.imp (ZJ BY g hm (by rfl) (jw i (jw (Gw d c f (v:=.ty t.nm) rfl hn hd) yj) a) (by decide) (by decide) a j) λσ H Q ⟨φ,A,ρ,S,re,h⟩=>by
   refine tM.go S re (qd.mp h) λw A1 b H1 v a l s q=>?_;cases E:jP w A1 with
   |none=>rw[E]at a;exact a.elim|some t'=>
    rw[E]at a;exact⟨v,t',t,rfl,OA s q E,a b H1 _ l s rfl⟩
def qY (c:zD X xr a ma)(H:zD X xr b mb)(h:Nr b:=by intro _ _;rfl):zD X xr (.Subscript a b pos) (zj zJ ma mb):=by
 try simp only[qi]at*
 exact PE.imp (d3 d7 c H h) (zj.read eL eM)
def yP {q:yn}(hm:X.mg "len"=none)(H:Zc X xr e q)(h:Gl X "len":=by rfl)(he:starEach [e] X.env=(false,eval e X.env)::starEach [] X.env:=by rfl):
  zD X xr (.Call (.Name "len" p) [e] [] pos) (mQ qx q):=by
 try simp only[qi]at*
 exact U8 HV (λ_ _=>yR) Bp hm (by rfl) H h (by decide) (by decide) he (by rfl)
def yG {q:yn}(h:QJ X xr e q):zD X xr e (qu q):=by
 try simp only[qi]at*
 exact PE.imp h qu.read
def FL {P pos':Pos}(t:X.calm=true)(hm:X.mg "list"=none)(f:X.mg "range"=none)(u:zD X xr a ma)(o:Gl X "list":=by rfl)(g:Gl X "range":=by rfl)(s:starEach [a] X.env=[(false,eval a X.env)]:=by rfl)
  (d:starEach [.Call (.Name "range" P) [a] [] pos'] X.env=(false,eval (.Call (.Name "range" P) [a] [] pos') X.env)::starEach [] X.env:=by rfl):
  zD X xr (.Call (.Name "list" p) [.Call (.Name "range" P) [a] [] pos'] [] pos) (KU ma):=by
 try simp only[qi]at*
 exact PE.imp (JH (FP t) o hm (by rfl) (jw (Aw g f (jw u yj (by rw[s];rfl)) s) yj d) (by decide) (by decide) d (by rfl)) λσ H Q ⟨φ,A,ρ,S,re,h⟩=>by
   refine tM.go S re (qd.mp h) λw A1 b H1 v c L z q=>?_;cases w with
   |int j=>
    obtain rfl:=q;dsimp only at c
    by_cases e:(jD j&&decide (j.toNat<=qf))=true
    ·rw[ah e]at c
     rw[ak,ai]at e;refine⟨j,rfl,λp k=>⟨p,j,rfl,jS,QZ e.1,Qf e.2,λl n=>?_⟩⟩;have ln:Le X.K b H1 b (upd H1 p (.rng 0 j)):=Le.new k;have r:zE X.K b (upd H1 p (.rng 0 j)) ((List.range j.toNat).map λ(i:Nat)=>W.int i) (JX j.toNat):=by
      have:=(zE.ints (K:=X.K) (φ:=b) (H:=upd H1 p (.rng 0 j)) (ns:=(List.range j.toNat).map λ(i:Nat)=>(i:Int)) (vs:=JX j.toNat)).mpr (by unfold JX;simp)
      rw[aP]at this;exact this
     obtain⟨y,x,B⟩:=Jc (z.lay k) n r;exact c _ _ _ ((L.trans ln).trans y) x B
    ·rw[aj e]at c;exact c.elim
   |_=>exact c.elim
def ja {M:Ea}(h:gr X xr es M)(H:Z5 M n)(hn:n<=qf:=by decide):zD X xr (.List es pos) (zX M):=by
 try simp only[qi]at*
 exact eF h λρ A ws A' e=>by rw[H ρ A ws A' e];exact Qf hn
def Q5 {q:yn}(H:X.calm=true)(hm:X.mg "max"=none)(a:Zc X xr e q)(h:Gl X "max":=by rfl)(he:starEach [e] X.env=(false,eval e X.env)::starEach [] X.env:=by rfl):
  zD X xr (.Call (.Name "max" p) [e] [] pos) (mQ yC q):=by
 try simp only[qi]at*
 exact U8 (Dl H) eX Bb hm (by rfl) a h (by decide) (by decide) he (by rfl)
def VS (e:X.calm=true)(hm:X.mg "min"=none)(n:zD X xr a ma)(k:zD X xr b mb)(l:Gl X "min":=by rfl)(r:starEach [a,b] X.env=(false,eval a X.env)::starEach [b] X.env:=by rfl)(o:starEach [b] X.env=(false,eval b X.env)::starEach [] X.env:=by rfl)(h:(backTo pos (starEach [b] X.env)).any (·.1)=false:=by rfl):
  zD X xr (.Call (.Name "min" p) [a,b] [] pos) (zj Jl ma mb):=by
 try simp only[qi]at*
 exact Tu (EU e) Ji (λφ A H x y u v Q S d c p=>by
   obtain⟨i,j,s,E,q⟩:=Je (K:=X.K) (f:=λi j=>.int (if j<i then j else i)) (g:=λi j=>.int (if j<i then j else i)) (λ_ _ _ _=>rfl) φ A H x y u v Q S d c p;subst s;subst E;exact⟨i,j,rfl,q⟩) hm (by rfl) n k l (by decide) (by decide) r o h
def Q7 (H:zD X xr a ma)(h:zD X xr b mb):zD X xr (.BinOp a .Mod b pos) (zj wM ma mb):=by
 try simp only[qi]at*
 exact JN dF Tt (UZ AK λ_ _ _ _=>rfl) H h
def wq (H:zD X xr a ma)(h:zD X xr b mb):zD X xr (.BinOp a .Mult b pos) (zj jk ma mb):=by
 try simp only[qi]at*
 exact JN (dE.or en) eR AO H h
def YK (h:zD X xr a ma):zD X xr (.UnaryOp .USub a pos) (ju km ma):=by
 try simp only[qi]at*
 exact eE dJ (λx A=>by unfold km;split;exact yR;exact jx) (λφ A H x u Q S q p=>by
  cases u with
  |int i=>obtain rfl:=q;exact⟨i,rfl,p φ H _ .refl S rfl⟩|_=>exact p.elim) h
def YJ {j}:zD X xr (.Constant .none j pos) (zU .non):=by
 try simp only[qi]at*
 exact PE.imp cL λσ H Q ⟨φ,A,ρ,S,r,h⟩=>h φ H _ .refl S rfl
def Nn (d:zD X xr a ma):zD X xr (.UnaryOp .Not a pos) (jO ma):=by
 try simp only[qi]at*
 exact PE.imp (cX d) λσ H Q ⟨φ,A,ρ,S,re,h⟩=>by
   refine tM.go S re (qd.mp h) λw A1 c H1 v b l s q=>?_;cases w with
   |bl k=>exact⟨k,q,b c H1 _ l s rfl⟩|non=>cases b|int _=>cases b|str _=>cases b|tup _=>cases b|ref _=>cases b|clo _ _ _=>cases b|xc _=>cases b
def Q6 {op}(h:zD X xr a ma):zD X xr (.BoolOp op [a] pos) ma:=by
 try simp only[qi]at*
 exact cU h
def gy (H:zD X xr a ma)(h:zD X xr b mb):zD X xr (.BinOp a .Sub b pos) (zj yw ma mb):=by
 try simp only[qi]at*
 exact JN dD Ji (Je λ_ _ _ _=>rfl) H h
def qt {x1}{M:Ea}(h:gr X xr es M)(c:Z5 M n)(hn:n<=qf:=by decide):zD X xr (.Tuple es x1 pos) (zG M):=by
 try simp only[qi]at*
 exact PE.imp (MH h) λσ H Q ⟨φ,A,ρ,S,re,h⟩=>by
   have h':=qd.mp h;cases e:M ρ A with
   |ok ws A'=>
    rw[e]at h';refine⟨φ,A,ρ,S,re,?_⟩;rw[e];intro a H1 vs l s q;refine⟨by rw[<- q.length,c ρ A ws A' e];exact Qf hn,λp b=>?_⟩
    obtain⟨a1,a2,d⟩:=JR s b q;exact h' _ _ _ (l.trans a1) a2 d
   |exc x A'=>rw[e]at h';refine⟨φ,A,ρ,S,re,?_⟩;rw[e];exact h'|bad=>rw[e]at h';exact h'.elim
def Yz {q:yn}(hm:X.mg "tuple"=none)(H:Zc X xr e q)(h:Gl X "tuple":=by rfl)(he:starEach [e] X.env=(false,eval e X.env)::starEach [] X.env:=by rfl):
  zD X xr (.Call (.Name "tuple" p) [e] [] pos) (mQ wO q):=by
 try simp only[qi]at*
 exact eN Hr (λ_ _=>yR) BJ hm (by rfl) H h (by decide) (by decide) he (by rfl)
def zh (i:Nat)(b:X.N[i]? =some x:=by rfl)(a:Y3 X.env.scope x:=by first|exact Or.inl rfl|exact Or.inr (Or.inl rfl)|exact Or.inr (Or.inr rfl))(hd:(x==("__debug__":Str))=false:=by decide)
  (d:(x==("__classdict__":Str))=false:=by decide):zD X xr (.Name x pos) (qj i):=by
 try simp only[qi]at*
 exact PE.imp (MU b a hd d) λσ H Q ⟨φ,A,ρ,S,r,h⟩=>by
  unfold qj at h;cases e:ρ[i]? with
  |none=>rw[e]at h;cases h|some o=>cases o with
   |none=>rw[e]at h;cases h|some w=>
    rw[e]at h;obtain⟨v,f,c⟩:=r.get i w e;exact⟨v,f,h φ H v .refl S c⟩
def Cs {mi:Ei}{tw:Tg}{M:Ev}{em:Em}(nl:Nat)(cap:bY)(c:X.calm=true)(S:Zm X sc)(p:Qv X.N N sc nl cap=true)(hw:wF X xr tg iter mi)
  (n:∀s H fp,gn (jB X N sc s H fp yb) tg tw/\Zq (jB X N sc s H fp yb) ifs M/\Ze (jB X N sc s H fp yb) elt (⟨tg,iter,ifs,0⟩::gs) sc pos 0 em)
  (b:∀g',gs[0]? =some g'->g'.is_async=0:=by intro _ h;cases h<;>rfl)
  (a:∀x,foldedSetIterable iter X.env x=pure x:=by intro _;rfl):QJ X xr (.ListComp elt (⟨tg,iter,ifs,0⟩::gs) sc pos) (zW nl cap mi tw M em):=by
 try simp only[qi]at*
 exact PE.imp (AJ (g:=tG X.K tw) (ti:=tT X.K yx M) (tm:=tE X.K em) c S p b hw n a) zW.read
def JJ (i j:Nat){y:Str}{q:Pos}(n:X.calm=true)(h:X.N.Nodup)(hi:X.N[i]? =some x:=by rfl)(f:Loc X.env.scope x:=by first|exact Or.inl rfl|exact Or.inr rfl)(hf:X.fn x=true∨X.env.scope.names.lookup x=some .local:=by first|exact .inl rfl|exact .inr rfl)
  (g:X.N[j]? =some y:=by rfl)(d:Loc X.env.scope y:=by first|exact Or.inl rfl|exact Or.inr rfl)(l:X.fn y=true∨X.env.scope.names.lookup y=some .local:=by first|exact .inl rfl|exact .inr rfl):gn X (.Tuple [.Name x p,.Name y q] k pos) (kH i j):=by
 try simp only[qi]at*
 exact PG.imp (df n (OU (Uc h hi f hf) (OU (Uc h g d l) BB))) λv σ H Q ⟨φ,A,ρ,w,b,S,re,c,e,kk⟩=>by
   unfold kH at e
   split at e
   ·rename_i x1 Y
    have E:=aC e;subst E;obtain⟨a,vs,rfl,s,rs⟩:=c;obtain⟨v1,u,rfl,r,v2,t,rfl,o,rfl⟩:=rs;exact⟨a,[v1,v2],rfl,s,rfl,v1,[v2],rfl,v2,[],rfl,rfl,kk _ ((re.set r).set o)⟩
   ·cases e
def qH (i:Nat)(b:X.N.Nodup)(hi:X.N[i]? =some x:=by rfl)(h:Loc X.env.scope x:=by first|exact Or.inl rfl|exact Or.inr rfl)(hf:X.fn x=true∨X.env.scope.names.lookup x=some .local:=by first|exact .inl rfl|exact .inr rfl):gn X (.Name x pos) (zH i):=by
 try simp only[qi]at*
 exact PG.imp (Uc b hi h hf) λv σ H Q ⟨φ,A,ρ,w,a,S,re,q,e,k⟩=>by
   have E:ρ.set i (some w)=a:=aC e;subst E;exact k _ (re.set q)
def jN (h:zD X xr e m):wF X xr tg e (qe m):=by
 try simp only[qi]at*
 exact PI.imp (eH h) λσ H Z ⟨φ,A,ρ,S,re,h⟩=>by
  refine tM.go S re (qd.mp h) λw A1 f H1 v d N M Q=>?_;unfold Wi at d;cases e:zV w A1 with
  |none=>rw[e]at d;exact d.elim|some ws=>
   rw[e]at d;dsimp only at d;cases w with
   |tup us=>
    obtain⟨a,ys,rfl,g,p⟩:=Q;refine⟨a,rfl,.inr ⟨⟨ys,g⟩,d f H1 _ N M λi c j A' lw s=>⟨λu b=>?_,λb=>?_⟩⟩⟩
    ·have E:us[i]? =some u:=aC b
     obtain⟨y,k,C⟩:=(p.monoW lw).get E;refine⟨⟨ys,y,lw.tp _ _ g,k⟩,λx U t=>?_⟩;obtain⟨L,J⟩:=t;subst L;have l:=J ys (lw.tp _ _ g);rw[k]at l;cases l;exact⟨.refl,s,C⟩
    ·have E:us[i]? =none:=aC b
     refine⟨ys,lw.tp _ _ g,?_⟩;rw[<- p.length];exact List.getElem?_eq_none_iff.mp E
   |ref n=>
    obtain⟨a,rfl,g⟩:=Q;have read:∀{c j A' us},ZD X.K f H1 c j->zS X.K c A' j->zV (.ref n) A'=some us->∃ys,jj X.K j a ys/\zE X.K c j us ys:=λ {c j A' us} lw s es=>by
     obtain⟨T,ys,P,z,r⟩:=WY (w:=.ref n) (v:=.ref a) s ⟨a,rfl,lw.ex _ _ g⟩ es;cases P;unfold zV at es;dsimp only at es;cases I:A'[n]? with
     |none=>rw[I]at es;cases es|some o=>
      rw[I]at es;obtain⟨T,p,r⟩:=s.ob n o I;rw[lw.ex _ _ g]at p;cases p;cases o with
      |lst xs=>cases es;obtain⟨ys,d,D⟩:=r;exact⟨ys,jj.of d,D⟩|ro xs=>cases es;obtain⟨ys,d,D⟩:=r;exact⟨ys,d.sq,D⟩|dct xs=>cases es|tab _ _=>cases es
    obtain⟨Y,B,_⟩:=read ⟨λ_ _ h=>h,λ_ _ h=>h,λ_ _ _ h=>h⟩ M e;refine⟨a,rfl,.inl ⟨⟨Y,B⟩,d f H1 _ N M λi c j A' lw s=>⟨λu b=>?_,λb=>?_⟩⟩⟩
    ·dsimp only at b
     cases es:zV (.ref n) A' with
     |none=>rw[es]at b;cases b|some us=>
      rw[es]at b;have E:us[i]? =some u:=aC b;obtain⟨ys,q,r⟩:=read lw s es;obtain⟨y,k,C⟩:=r.get E;refine⟨⟨ys,y,q,k⟩,λx U t=>?_⟩;obtain⟨L,J⟩:=t;subst L;have l:=J ys q;rw[k]at l;cases l;exact⟨.refl,s,C⟩
    ·dsimp only at b
     cases es:zV (.ref n) A' with
     |none=>rw[es]at b;cases b|some us=>
      rw[es]at b;have E:us[i]? =none:=aC b;obtain⟨ys,q,r⟩:=read lw s es;refine⟨ys,q,?_⟩;rw[<- r.length];exact List.getElem?_eq_none_iff.mp E
   |non=>cases e|bl _=>cases e|clo _ _ _=>cases e|xc _=>cases e|int _=>cases e|str _=>cases e
def V1 (g:Gl X "enumerate")(hm:X.mg "enumerate"=none)(e:zD X xr a ma)(s:starEach [a] X.env=[(false,eval a X.env)]:=by rfl):wF X xr (.Tuple elts kk tpos) (.Call (.Name "enumerate" p) [a] [] pos) (Jo ma):=by
 try simp only[qi]at*
 exact PI.imp (Bk g hm (jw e yj (by rw[s];rfl)) s) λσ H r ⟨φ,A,ρ,S,re,h⟩=>by
   refine tM.go S re (qd.mp h) λw A1 c H1 v b l d q=>?_;cases es:zV w A1 with
   |none=>rw[es]at b;exact b.elim|some ws=>
    rw[es]at b;obtain⟨p,ys,rfl,z,Z⟩:=Gk d q es;exact⟨p,Jp w,ys,rfl,z,b c H1 _ l d (fg q)⟩
def yB (g:Gl X "range")(hm:X.mg "range"=none)(e:zD X xr a ma)(s:starEach [a] X.env=[(false,eval a X.env)]:=by rfl):wF X xr tg (.Call (.Name "range" p) [a] [] pos) (jG ma):=by
 try simp only[qi]at*
 exact PI.imp (E4 g hm (jw e yj (by rw[s];rfl)) s) λσ H r ⟨φ,A,ρ,S,re,h⟩=>by
   refine tM.go S re (qd.mp h) λw A1 c H1 v b l i q=>?_;cases w with
   |int j=>
    obtain rfl:=q;dsimp only at b
    by_cases d:jD j=true
    ·rw[ah d]at b
     obtain⟨f,B⟩:=QZ d;exact⟨j,rfl,f,B,b c H1 _ l i Mj⟩
    ·rw[aj d]at b;exact b.elim
   |non=>exact b.elim|bl _=>exact b.elim|str _=>exact b.elim|tup _=>exact b.elim|ref _=>exact b.elim|clo _ _ _=>exact b.elim|xc _=>exact b.elim
def Ov (n:Gl X "range")(hm:X.mg "range"=none)(r:zD X xr a ma)(o:zD X xr b mb)(s:starEach [a,b] X.env=[(false,eval a X.env),(false,eval b X.env)]:=by rfl)(d:starEach [b] X.env=[(false,eval b X.env)]:=by rfl):wF X xr tg (.Call (.Name "range" p) [a,b] [] pos) (Qy ma mb):=by
 try simp only[qi]at*
 exact PI.imp (De n hm (jw r (jw o yj (by rw[d];rfl)) (by rw[s,d])) s d) λσ H I ⟨φ,A,ρ,S,re,h⟩=>by
   refine tM.go S re (qd.mp h) λw A1 g H1 v t l D Q=>?_;refine tM.go D (re.mono l) (qL (qd.mp t) (λ_ _ z=>z) λ_ _ z=>z.mono l) λk A2 f E v2 c L C q=>?_;cases w with
   |int i=>
    obtain rfl:=Q;cases k with
    |int j=>
     obtain rfl:=q;dsimp only at c
     by_cases e:(jD i&&jD j)=true
     ·rw[ah e]at c
      rw[ak]at e;obtain⟨y,x⟩:=QZ e.1;obtain⟨u,B⟩:=QZ e.2;exact⟨i,j,rfl,⟨y,x,u,B⟩,c f E _ (l.trans L) C Mj⟩
     ·rw[aj e]at c;exact c.elim
    |non=>exact c.elim|bl _=>exact c.elim|str _=>exact c.elim|tup _=>exact c.elim|ref _=>exact c.elim|clo _ _ _=>exact c.elim|xc _=>exact c.elim
   |non=>exact c.elim|bl _=>exact c.elim|str _=>exact c.elim|tup _=>exact c.elim|ref _=>exact c.elim|clo _ _ _=>exact c.elim|xc _=>exact c.elim
def NN (o:Gl X "zip")(hm:X.mg "zip"=none)(t:zD X xr a ma)(r:zD X xr b mb)(g:starEach [a,b] X.env=(false,eval a X.env)::starEach [b] X.env:=by rfl)(e:starEach [b] X.env=(false,eval b X.env)::starEach [] X.env:=by rfl)(n:(backTo pos (starEach [b] X.env)).any (·.1)=false:=by rfl):
  wF X xr (.Tuple elts kk tpos) (.Call (.Name "zip" p) [a,b] [] pos) (QH ma mb):=by
 try simp only[qi]at*
 exact PI.imp (fj o hm (jw t (jw r yj e) g) g n) λσ H D ⟨φ,A,ρ,S,re,h⟩=>by
   refine tM.go S re (qd.mp h) λw A1 i H1 v u l x k=>?_;refine tM.go x (re.mono l) (qL (qd.mp u) (λ_ _ z=>z) λ_ _ z=>z.mono l) λf A2 d y v2 c L s Q=>?_;cases es:zV w A2 with
   |none=>rw[es]at c;exact c.elim|some us=>
    cases es':zV f A2 with
    |none=>rw[es,es']at c;exact c.elim|some vs=>
     rw[es,es']at c;have q:=k.mono L;obtain⟨p,xs,rfl,j,C⟩:=Gk s q es;obtain⟨P,ys,rfl,Z,B⟩:=Gk s Q es';exact⟨p,P,Jp w,Jp f,xs,ys,rfl,j,Z,c d y _ (l.trans L) s (fk q Q)⟩
def Af {d:Nat}{me:Ev}(x:∀e s,X.xe e s->False)(he:zD X yx elt me)(k:gens[d+1]? =none):Ze X elt gens sc pos d (zQ me):=by
 try simp only[qi]at*
 exact wC.imp (Ox x he k) λD σ H Q ⟨φ,A,ρ,acc,ys,S,re,o,n,r,h⟩=>by
   refine tM.go S re (KD (qd.mp h)) λw A1 g H1 v f l p q=>?_;obtain⟨c,n1⟩:=l.off o n
   by_cases z:acc.length<qf
   ·rw[ah z]at f
    have j:=r.length;refine⟨ys,c,?_,?_⟩
    ·rw[<- j]
     have:sizeLine=16777216:=sizeLine_eq
     unfold qf at z;omega
    ·exact f g _ σ _ (l.toD.trans (yO.upd c)) n1 (p.off c n1) ⟨re.len,λi w e=>let ⟨v,a,b⟩:=re.get i w e;⟨v,a,(b.mono l).monoD (yO.upd c)⟩⟩ jS
      (((r.mono l).monoD (yO.upd c)).append (.one (q.monoD (yO.upd c))))
   ·rw[aj z]at f;exact f.elim
def Nv {d:Nat}{mi:Ei}{tw:Tg}{M:Ev}{em:Em}(k:∀e s,X.xe e s->False)(u:X.calm=true)(q:gens[d+1]? =some ⟨tg,iter,ifs,0⟩)(v:∀g',gens[d+2]? =some g'->g'.is_async=0)
  (hw:wF X yx tg iter mi)(t:gn X tg tw)(hi:Zq X ifs M)(hm:Ze X elt gens sc pos (d+1) em)(o:∀x,foldedSetIterable iter X.env x=pure x:=by intro _;rfl):Ze X elt gens sc pos d (Jj mi tw M em):=by
 try simp only[qi]at*
 exact wC.imp (Cn k u q v hw t hi hm o) λD σ H Q ⟨φ,A,ρ,acc,ys,S,re,w,n,f,h⟩=>by
   refine⟨φ,A,ρ,S,re,qL (KD (qd.mp h)) (λj A1 B c H1 J l K i=>?_) λ_ _ z=>z⟩;obtain⟨E,n1⟩:=l.off w n;exact qU.read i K (re.mono l) E n1 (f.mono l) (qL B (λp A2 y a P b zs L N I r C g=>y a P b zs (l.toD.trans L) N I r C g) λ_ _ z=>z)
def j3 (h:zD X xr e m):Zc X xr e (qg m):=by
 try simp only[qi]at*
 exact PE.imp h λσ H Q ⟨φ,A,ρ,S,re,h⟩=>by
  refine tM.go S re (qd.mp h) λw A1 c H1 v b l s q=>?_;cases e:zV w A1 with
  |none=>rw[e]at b;exact b.elim|some ws=>
   rw[e]at b;obtain⟨a,ys,rfl,d,E⟩:=WY s q e;exact b c H1 a ys l s d E
def kz {q:yn}(h:QJ X xr e q):Zc X xr e q:=by
 try simp only[qi]at*
 exact PE.imp h λσ H Q ⟨φ,A,ρ,S,re,h⟩=>
  ⟨φ,A,ρ,S,re,qL h (λws A1 c a H1 D ys l s h0 b n r=>c a H1 D ys l s (.inl (jj.of b)) r) λ_ _ z=>z⟩
def OT {o i:Expr}{mo mi:Ev}(ho:zD X xr o mo)(hi:zD X xr i mi)(he:zD X xr e m)
  (ha:∀c I new,augStore i c I new=(do holding [new,c,I] (setItem c I new);release [new,c,I] [];pure .next):=by intros;rfl):kN X xr (.AugAssign (.Subscript o i tpos) .Add e pos) (ZV mo mi m):=by
 try simp only[qi]at*
 exact PS.imp (Ap ho hi CF he dr set_list ha) λD σ H ⟨φ,A,ρ,S,re,h⟩=>by
   refine tM.go S re (qd.mp h) λU A1 N H1 v1 h1 q S1 Q=>?_;refine tM.go S1 (re.mono q) (qL (qd.mp h1) (λ_ _ z=>z) λ_ _ z=>z.mono q) λw A2 M H2 v2 a j B q2=>?_;have l:=q.trans j;cases U with
   |ref n=>cases w with
    |int k=>
     obtain rfl:=q2;dsimp only at a
     by_cases h0:0<=k
     ·rw[ah h0]at a
      cases d:(A2[n]?:Option O) with
      |none=>rw[d]at a;exact a.elim|some ob=>cases ob with
       |lst ws=>
        rw[d]at a;dsimp only at a;obtain⟨p,vs,rfl,f1,g1,Z⟩:=B.lst (Q.mono j) d;cases E:ws[k.toNat]? with
        |none=>rw[E]at a;exact a.elim|some P=>cases P with
         |int x=>
          rw[E]at a;dsimp only at a;obtain⟨v,hv,Y⟩:=Z.get E;obtain rfl:=Y;refine⟨p,vs,k,_,rfl,rfl,h0,g1,hv,?_⟩;refine tM.go B (re.mono l) (qL (qd.mp a) (λ_ _ z=>z) λ_ _ z=>z.mono l) λT J g H3 v3 b t S3 q3=>?_;have L:=l.trans t;cases T with
          |int y=>
           obtain rfl:=q3;dsimp only at b;refine⟨x,y,rfl,rfl,?_⟩;refine Ng (K:=X.K) g J H3 (.ref p) (.int k) (.int (x+y)) (.ref n) (.int k) (.int (x+y)) _ S3 ((Q.mono j).mono t) rfl rfl ?_;cases r:kK (.ref n) (.int k) (.int (x+y)) J with
           |ok u C=>
            rw[r]at b;exactλf H4 s S4=>b f H4 σ (L.trans s) S4 (re.mono (L.trans s))
           |exc z C=>exact absurd r (Mg _ _ _ _ z C)|bad=>rw[r]at b;exact b.elim
          |_=>exact b.elim
         |_=>rw[E]at a;exact a.elim
       |_=>rw[d]at a;exact a.elim
     ·rw[aj h0]at a;exact a.elim
    |_=>exact a.elim
   |_=>cases w<;>exact a.elim
def zt (a:kN X xr st m1)(d:kU X xr rest m2):kU X xr (st::rest) (zo m1 m2):=by
 try simp only[qi]at*
 exact kq.imp (Cu a d) λD σ H ⟨φ,A,ρ,S,re,h⟩=>by
   refine⟨φ,A,ρ,S,re,qL (qd.mp h) (λf A1 a=>?_) λ_ _ z=>z⟩;cases f with
   |nx ρ1=>exactλb e c l s r=>⟨b,A1,ρ1,s,r,qL a (λ_ _ z=>z.mono l) λ_ _ z=>z.mono l⟩|rt w=>exact a|bk ρ1=>exact a|ct ρ1=>exact a
def kF (he:zD X xr e m)(s:swapsWith e none pos.line X.env=pure false:=by rfl):kN X xr (.Expr e pos) (jJ m):=by
 try simp only[qi]at*
 exact PS.imp (Bh he s) λD σ H ⟨φ,A,ρ,S,re,h⟩=>tM.go S re (qd.mp h) λw A1 a H1 v b l c q=>b a H1 σ l c (re.mono l)
def w6 {mi:Ei}{tw:Tg}(hp:PassesOwn (model X.prog X.w) X.A X.env X.xe)(hc:X.calm=true)(hi:wF X xr tg iter mi)(hg:gn X tg tw)(hb:kU X xr body m1)
  (hs:∀x,foldedSetIterable iter X.env x=pure x:=by intro _;rfl):kN X xr (.For tg iter body [] pos) (yk mi tw m1):=by
 try simp only[qi]at*
 exact PS.imp (dy hp hc hi hg hb hs) λD σ H ⟨φ,A,ρ,S,re,h⟩=>by
   refine⟨φ,A,ρ,S,re,qL (qd.mp h) (λj A1 h1 g H1 J N S1 jr=>?_) λ_ _ z=>z⟩;refine⟨λi f d C=>L4 X.K xr j (turn tw m1) D g H1 f i d C,
    ⟨j.len,g,A1,ρ,.refl,S1,re.mono N,qL h1 (λ_ _ z=>z.mono N) λ_ _ z=>z.mono N⟩,?_⟩
   rintro i f I U ⟨c,A2,p,t,T,q,b⟩
   obtain⟨j1,j2⟩:=jr i c U A2 ⟨t.ex,t.tp,t.fz⟩ T;cases E:j.at_ A2 i with
   |none=>cases f<;>(unfold yJ at b;rw[E]at b;exact b.elim)|some o=>
    cases o with
    |none=>
     left
     refine⟨j2 E,?_⟩;cases f<;>(unfold yJ at b;rw[E]at b;exact b c U I .refl T q)
    |some w=>
     right
     obtain⟨go,yl⟩:=j1 w E;cases f with
     |zero=>unfold yJ at b;rw[E]at b;exact b.elim|succ f=>
      unfold yJ at b;rw[E]at b;refine⟨go,λd C=>L4 X.K xr j (turn tw m1) D g H1 f (i+1) d C,λd C z=>⟨f,bh _,z⟩,λx H3 y=>?_⟩;obtain⟨L,Q,q3⟩:=yl x H3 y;have u:=qd.mp b;unfold turn at u;cases P:tw w p with
      |none=>rw[P]at u;exact u.elim|some n=>
       rw[P]at u;refine⟨c,A2,p,w,n,Q,q.mono L,q3,P,λZ M=>?_⟩;refine⟨c,A2,n,Q,M,qL u (λfl Y B=>?_) λ_ _ z=>z.mono L⟩;cases fl with
       |nx e=>exactλa v k l s r=>⟨a,Y,e,(t.trans L).trans l,s,r,qL B (λ_ _ z=>z.mono (L.trans l)) λ_ _ z=>z.mono (L.trans l)⟩|ct e=>exactλa v k l s r=>⟨a,Y,e,(t.trans L).trans l,s,r,qL B (λ_ _ z=>z.mono (L.trans l)) λ_ _ z=>z.mono (L.trans l)⟩|bk e=>exactλa v k l s r=>B a v k (L.trans l) s r|rt w4=>exactλa v v4 l s q4=>B a v v4 (L.trans l) s q4
def jE {sa s:cn}(e:yU X xr c mc)(g:kU X xr sa m1)(f:kU X xr s m2):kN X xr (.If c sa s pos) (qP mc m1 m2):=by
 try simp only[qi]at*
 exact PS.imp (da e g f) λD σ H ⟨φ,A,ρ,S,re,h⟩=>by
   refine tT.go S re (qd.mp h) λw A1 a=>?_;cases w with
   |bl k=>
    refine⟨k,rfl,λb H1 l d=>?_⟩;cases k with
    |true=>rw[ah rfl];exact⟨b,A1,ρ,d,re.mono l,qL a (λ_ _ z=>z.mono l) λ_ _ z=>z.mono l⟩|false=>rw[aj aA];exact⟨b,A1,ρ,d,re.mono l,qL a (λ_ _ z=>z.mono l) λ_ _ z=>z.mono l⟩
   |non=>cases a|int _=>cases a|str _=>cases a|tup _=>cases a|ref _=>cases a|clo _ _ _=>cases a|xc _=>cases a
def zK:kU X xr [] zC:=by
 try simp only[qi]at*
 exact kq.imp Ai λD σ H ⟨φ,A,ρ,S,re,h⟩=>h φ H σ .refl S re
def qw (he:zD X xr e m):kN X xr (.Return (some e) pos) (qN m):=by
 try simp only[qi]at*
 exact PS.imp (c8 he) λD σ H ⟨φ,A,ρ,S,re,h⟩=>tM.go S re (qd.mp h) λw A1 a H1 v b l s q=>b a H1 v l s q
def qO (i:Nat){pos':Pos}(a:X.N.Nodup)(he:zD X xr e m)(hi:X.N[i]? =some x:=by rfl)(h:Loc X.env.scope x:=by first|exact Or.inl rfl|exact Or.inr rfl)(H:swapsWith e (some (.Name x pos')) pos.line X.env=pure false:=by rfl)
  (hf:X.fn x=true∨X.env.scope.names.lookup x=some .local:=by first|exact .inl rfl|exact .inr rfl):kN X xr (.Assign [.Name x pos'] e pos) (zZ i m):=by
 try simp only[qi]at*
 exact PS.imp (di a hi h he H hf) zZ.read
def WT (i:Nat){mi:Ei}{tw:Tg}{M:Ev}{em:Em}{P a:Pos}(nl:Nat)(cap:bY)(j:X.N.Nodup)
  (e:X.calm=true)(S:Zm X sc)(p:Qv X.N N sc nl cap=true)(hw:wF X xr tg iter mi)
  (n:∀s H fp,gn (jB X N sc s H fp yb) tg tw/\Zq (jB X N sc s H fp yb) ifs M/\Ze (jB X N sc s H fp yb) elt (⟨tg,iter,ifs,0⟩::gs) sc pos 0 em)
  (b:X.N[i]? =some x:=by rfl)(c:X.env.scope.names.lookup x=some .local:=by rfl)
  (w:swapsWith (.ListComp elt (⟨tg,iter,ifs,0⟩::gs) sc pos) (some (.Name x P)) a.line X.env=pure true:=by rfl)
  (f:∀g',gs[0]? =some g'->g'.is_async=0:=by intro _ h;cases h<;>rfl)
  (d:∀x,foldedSetIterable iter X.env x=pure x:=by intro _;rfl):kN X xr (.Assign [.Name x P] (.ListComp elt (⟨tg,iter,ifs,0⟩::gs) sc pos) a) (zZ i (qu (zW nl cap mi tw M em))):=by
 try simp only[qi]at*
 exact PS.imp (L2.FI (g:=tG X.K tw) (ti:=tT X.K yx M) (tm:=tE X.K em) j b c w e S p f hw n d) λD σ H h=>zW.read σ H _ (qu.read σ H _ (zZ.read D σ H h))
def JI (h:Zh X xr e m):yU X xr e m:=by
 try simp only[qi]at*
 exact PW.pt h
def yg {g:W->W->Hx->R W}(h:gF X op g)(c:zD X xr a ma)(H:zD X xr b mb)(e:op≠.In:=by decide)(d:op≠.NotIn:=by decide):yU X xr (.Compare a [op] [b] pos) (zj g ma mb):=by
 try simp only[qi]at*
 exact let ⟨r,a1,a2,A⟩:=h.ex;MJ a1 a2 A c H (h.mks b e d)
def Mv {o:CmpOp}{g g':W->W->Hx->R W}(h:gF X op g)(h':gF X o g')(e:zD X xr a ma)(d:zD X xr b mb)(H:zD X xr c mc)(hm:lastMarks [op,o] [b,c]=false:=by with_unfolding_all rfl):
  yU X xr (.Compare a [op,o] [b,c] pos) (kx g g' ma mb mc):=by
 try simp only[qi]at*
 exact let ⟨r,a1,a2,A⟩:=h.ex;let ⟨j,i,f,B⟩:=h'.ex;Cz a1 a2 A i f B e d H hm
def Mf {g:W->W->Hx->R W}(h:Xa X op g)(c:zD X xr a ma)(H:zD X xr b mb)(hm:behindInMarks op b=false:=by rfl):yU X xr (.Compare a [op] [b] pos) (zj g ma mb):=by
 try simp only[qi]at*
 exact let ⟨r,a1,a2,A⟩:=h.ex;MJ a1 a2 A c H hm
def kY (f:yU X xr a ma):yU X xr (.UnaryOp .Not a pos) (jO ma):=by
 try simp only[qi]at*
 exact PT.imp (cR f) λσ H Q ⟨φ,A,ρ,S,re,h⟩=>by
   refine tT.go S re (qd.mp h) λw A1 c=>?_;cases w with
   |bl k=>obtain⟨b,e,q⟩:=c;cases e;exact⟨k,rfl,λd H1 l s=>q d H1 l s⟩|non=>cases c|int _=>cases c|str _=>cases c|tup _=>cases c|ref _=>cases c|clo _ _ _=>cases c|xc _=>cases c
def kf (h:zD X xr e m)(he:∀whole,isTrue e X.env whole=(do let v <- whole;standAt e.pos;holding [v] (truthy v)):=by intro _;rfl):yU X xr e m:=by
 try simp only[qi]at*
 exact PT.imp (cN h he) λσ H Q h=>h.toM
def jl:Zq X [] (zU (.bl true)):=by
 try simp only[qi]at*
 exact Mi.NI
def ZK (h:yU X yx c mc):Zq X [c] mc:=by
 try simp only[qi]at*
 exact Cq h
def NQ {rest:b9}(g:yU X xr a ma)(f:Zh X xr (.BoolOp .And (b::rest) pos) mb):Zh X xr (.BoolOp .And (a::b::rest) pos) (yW ma mb):=by
 try simp only[qi]at*
 exact PW.imp (pw_and g f) λσ H Q ⟨φ,A,ρ,S,re,h⟩=>by
   refine tT.go S re (qd.mp h) λw A1 c=>?_;cases w with
   |bl k=>
    refine⟨k,rfl,λd H1 l s=>?_⟩;cases k with
    |true=>rw[ah rfl];exact tT.mono s l re c|false=>rw[aj aA];obtain⟨b,e,q⟩:=c;cases e;exact q d H1 l s
   |non=>cases c|int _=>cases c|str _=>cases c|tup _=>cases c|ref _=>cases c|clo _ _ _=>cases c|xc _=>cases c
def OJ (h:yU X xr a ma):Zh X xr (.BoolOp .And [a] pos) ma:=by
 try simp only[qi]at*
 exact pw_and1 h
def K1 {rest:b9}(g:yU X xr a ma)(f:Zh X xr (.BoolOp .Or (b::rest) pos) mb):Zh X xr (.BoolOp .Or (a::b::rest) pos) (wU ma mb):=by
 try simp only[qi]at*
 exact PW.imp (pw_or g f) λσ H Q ⟨φ,A,ρ,S,re,h⟩=>by
   refine tT.go S re (qd.mp h) λw A1 c=>?_;cases w with
   |bl k=>
    refine⟨k,rfl,λd H1 l s=>?_⟩;cases k with
    |false=>rw[aj aA];exact tT.mono s l re c|true=>rw[ah rfl];obtain⟨b,e,q⟩:=c;cases e;exact q d H1 l s
   |non=>cases c|int _=>cases c|str _=>cases c|tup _=>cases c|ref _=>cases c|clo _ _ _=>cases c|xc _=>cases c
def KR (h:yU X xr a ma):Zh X xr (.BoolOp .Or [a] pos) ma:=by
 try simp only[qi]at*
 exact pw_or1 h
def j6 {K:Frag}{st:Stmt}{m:Ex}(F:wd K x x st f fd)(hm:mg x=some (.ref f))(S:qX N ps (qo st))
  (i:∀(kV doc pm:Value)(an:cm)(c ct:Value)(us:bV),us.length=ps.length->bindArgs (fnOf x x (Qn st) (yH st) (qo st) .none kV doc pm an c ct) ⟨us,[]⟩=pure (ps.zip us))
  (a:∀(c:Value)(A:Around)(outer:cf)(s:Shared)(H:Hp)(E:XK),jR k (A.deeper (envOfC x (qo st) s.heap.objs.size f c))->kU (wQ wX P w K mg base N x (qo st) f c A outer s H E).nox yx (yH st) m):
  zR P w K mg base (k+1) x ps.length (qV N.length m):=by
 try simp only[qi]at*
 refine⟨f,fd,ps,?_,hm,F.kp,F.binds i⟩;refine F.ok S (λvs H Q E h=>h.len) λc A outer s H vs Q E g ⟨q,φ,A1,ws,n,r,h⟩=>⟨_,a c A outer s H E g,?_⟩;refine⟨φ,A1,ws.map some++List.replicate (N.length-ws.length) none,n,RE.start r,?_⟩;have h':=qd.mp h;show R.post _ (FB K φ H _) _;cases e:m (ws.map some++List.replicate (N.length-ws.length) none) A1 with
 |ok j A2=>
  rw[e]at h';cases j with
  |rt w=>exact h'|nx ρ=>exactλb p d l o _=>h' b p .non l o rfl|bk ρ=>exact h'.elim|ct ρ=>exact h'.elim
 |exc y A2=>
  rw[e]at h';exact h'.elim
 |bad=>rw[e]at h';exact h'.elim
def fo {K:Frag}{st:Stmt}{m:Ex}(F:wd K x x st f fd)(S:qX N ps (qo st))
  (a:∀(c:Value)(A:Around)(outer:cf)(s:Shared)(H:Hp)(E:XK),jR k (A.deeper (envOfC x (qo st) s.heap.objs.size f c))->kU (wQ wX P w K mg base N x (qo st) f c A outer s H E).nox yx (yH st) m):
  ko P w K mg base wX (k+1) f fd ps (ZA K ps.length (qV N.length m)):=by
 try simp only[qi]at*
 refine F.ok S (λvs H Q E h=>h.len) λc A outer s H vs Q E g ⟨p,φ,A1,ws,j,r,h⟩=>⟨_,a c A outer s H E g,?_⟩;refine⟨φ,A1,ws.map some++List.replicate (N.length-ws.length) none,j,RE.start r,?_⟩;have h':=qd.mp h;show R.post _ (FB K φ H _) _;cases e:m (ws.map some++List.replicate (N.length-ws.length) none) A1 with
 |ok i A2=>
  rw[e]at h';cases i with
  |rt w=>exact h'|nx ρ=>exactλb o d l n _=>h' b o .non l n rfl|bk ρ=>exact h'.elim|ct ρ=>exact h'.elim
 |exc y A2=>rw[e]at h';exact h'.elim|bad=>rw[e]at h';exact h'.elim
def Ue (hm:X.mg "abs"=none)(a:zD X xr e m)(h:Gl X "abs":=by rfl)(he:starEach [e] X.env=(false,eval e X.env)::starEach [] X.env:=by rfl):zD X xr (.Call (.Name "abs" p) [e] [] pos) (ju Wf m):=by
 try simp only[qi]at*
 exact eS DE (λw A=>by unfold Wf;split;exact yR;exact jx) (λφ A H x u Q S q p=>by
   cases u with
   |int i=>obtain rfl:=q;exact⟨i,rfl,p φ H _ .refl S rfl⟩|_=>exact p.elim) hm (by rfl) a h (by decide) (by decide) he (by rfl)
def ZH {apos c:Pos}(j:zD X xr a ma)(he:zD X xr b mb)(s:starEach [b] X.env=(false,eval b X.env)::starEach [] X.env:=by rfl)
  (e:attributeBase a "append" X.env (eval a X.env)=eval a X.env:=by rfl)
  (w:((backTo c (starEach [b] X.env)).all (λx=>!x.1)&&(backToKw c (keywordEach [] X.env)).all (λx=>x.1.isSome)
   && decide ([b].length+([]:ck).length+(if ([]:ck).isEmpty then 0 else 1)<30))=true:=by rfl)(h:(apos.endLine==c.line)=true:=by rfl):
  zD X xr (.Call (.Attribute a "append" apos) [b] [] c) (jU yi ma mb):=by
 try simp only[qi]at*
 exact To PySem.F.slot_list_append PySem.F.type_list_append Ot EM (λφ A H x y u v Q S i q p=>by
   unfold yi at p;cases u with
   |ref n=>
    dsimp only at p;cases E:A[n]? with
    |none=>rw[E]at p;exact p.elim|some o=>cases o with
     |lst ws=>
      rw[E]at p;dsimp only at p
      by_cases d:ws.length<qf
      ·rw[ah d]at p
       obtain⟨l,vs,rfl,f1,g1,r⟩:=S.lst i E;refine⟨l,vs,y,rfl,rfl,g1,?_,?_⟩
       ·rw[<- r.length]
        have:sizeLine=16777216:=sizeLine_eq
        unfold qf at d;omega
       ·have ln:Le X.K φ H φ (upd H l (.lst (vs++[y]))):=Le.upd f1 (λxs z=>by rw[g1]at z;cases z) (λ_ _ z=>by rw[g1]at z;cases z)
        obtain⟨g,f⟩:=S.write (o:=.lst ws) (o':=.lst (ws++[v])) E rfl rfl f1 ⟨_,jS,(r.mono ln).append (.one (q.mono ln))⟩;exact p _ _ _ g f rfl
      ·rw[aj d]at p;exact p.elim
     |_=>rw[E]at p;exact p.elim
   |_=>exact p.elim) j he s e w h
def Kt (hm:X.mg "int"=none)(a:zD X xr e m)(h:Gl X "int":=by rfl)(he:starEach [e] X.env=(false,eval e X.env)::starEach [] X.env:=by rfl):zD X xr (.Call (.Name "int" p) [e] [] pos) (ju J5 m):=by
 try simp only[qi]at*
 exact eT Dj (λw A=>by unfold J5;split;exact yR;exact yR;exact jx) (λφ A H x u Q S q p=>by
   cases u with
   |int i=>obtain rfl:=q;exact .inl ⟨i,rfl,p φ H _ .refl S rfl⟩|bl k=>obtain rfl:=q;exact .inr ⟨k,rfl,p φ H _ .refl S rfl⟩|_=>exact p.elim) hm (by rfl) a h (by decide) (by decide) he (by rfl)
def Cr (e:X.calm=true)(hm:X.mg "max"=none)(n:zD X xr a ma)(k:zD X xr b mb)(l:Gl X "max":=by rfl)(r:starEach [a,b] X.env=(false,eval a X.env)::starEach [b] X.env:=by rfl)(o:starEach [b] X.env=(false,eval b X.env)::starEach [] X.env:=by rfl)(h:(backTo pos (starEach [b] X.env)).any (·.1)=false:=by rfl):
  zD X xr (.Call (.Name "max" p) [a,b] [] pos) (zj Tn ma mb):=by
 try simp only[qi]at*
 exact Tu (Eh e) Ji (λφ A H x y u v Q S d c p=>by
   obtain⟨i,j,s,E,q⟩:=Je (K:=X.K) (f:=λi j=>.int (if j > i then j else i)) (g:=λi j=>.int (if j > i then j else i)) (λ_ _ _ _=>rfl) φ A H x y u v Q S d c p;subst s;subst E;exact⟨i,j,rfl,q⟩) hm (by rfl) n k l (by decide) (by decide) r o h
def Eg {apos c:Pos}(D:zD X xr a ma)(he:zD X xr b mb)(C:starEach [b] X.env=(false,eval b X.env)::starEach [] X.env:=by rfl)
  (e:attributeBase a "pop" X.env (eval a X.env)=eval a X.env:=by rfl)
  (d:((backTo c (starEach [b] X.env)).all (λx=>!x.1)&&(backToKw c (keywordEach [] X.env)).all (λx=>x.1.isSome)
   && decide ([b].length+([]:ck).length+(if ([]:ck).isEmpty then 0 else 1)<30))=true:=by rfl)(h:(apos.endLine==c.line)=true:=by rfl):
  zD X xr (.Call (.Attribute a "pop" apos) [b] [] c) (jU ZN ma mb):=by
 try simp only[qi]at*
 exact To PySem.F.slot_list_pop PySem.F.type_list_pop C6 Ct (λφ A H x y u v Q S B t p=>by
   unfold ZN at p;cases u with
   |ref n=>cases v with
    |int i=>
     obtain rfl:=t;dsimp only at p;cases E:A[n]? with
     |none=>rw[E]at p;exact p.elim|some o=>cases o with
      |lst ws=>
       rw[E]at p;dsimp only at p
       by_cases f:jD i=true
       ·rw[ah f]at p
        obtain⟨M,L⟩:=QZ f;cases j:seqIndex? i ws.length with
        |none=>rw[j]at p;exact p.elim|some k=>
         rw[j]at p;dsimp only at p;cases g:ws[k]? with
         |none=>rw[g]at p;exact p.elim|some w=>
          rw[g]at p;obtain⟨l,vs,rfl,f1,g1,r⟩:=S.lst B E;obtain⟨y,J,I⟩:=r.get g;have ln:Le X.K φ H φ (upd H l (.lst (vs.eraseIdx k))):=Le.upd f1 (λxs z=>by rw[g1]at z;cases z) (λ_ _ z=>by rw[g1]at z;cases z)
          obtain⟨q,s⟩:=S.write (o:=.lst ws) (o':=.lst (ws.eraseIdx k)) E rfl rfl f1 ⟨_,jS,(r.erase k).mono ln⟩;exact⟨l,vs,i,k,y,rfl,rfl,g1,by omega,by omega,by rw[<- r.length];exact j,J,p _ _ _ q s (I.mono q)⟩
       ·rw[aj f]at p;exact p.elim
      |_=>rw[E]at p;exact p.elim
    |_=>exact p.elim
   |_=>cases v<;>exact p.elim) D he C e d h
def Um (H:zD X xr a ma)(h:zD X xr b mb):zD X xr (.BinOp a .Pow b pos) (zj JY ma mb):=by
 try simp only[qi]at*
 exact JN dG Tt (UZ AS λ_ _ _ _=>rfl) H h
def KQ {x j}:zD X xr (.Constant (.str x) j pos) (zU (.str x)):=by
 try simp only[qi]at*
 exact PE.imp cM λσ H Q ⟨φ,A,ρ,S,r,h⟩=>h φ H _ .refl S rfl
def Nw (H:zD X xr a ma)(h:zD X xr b mb):zD X xr (.BinOp a .BitXor b pos) (zj TX ma mb):=by
 try simp only[qi]at*
 exact JN dH Ji (Je λ_ _ _ _=>rfl) H h
def KL {q:yn}(hm:X.mg "list"=none)(d:Zc X xr e q)(g:Gl X "list":=by rfl)(he:starEach [e] X.env=(false,eval e X.env)::starEach [] X.env:=by rfl):
  zD X xr (.Call (.Name "list" p) [e] [] pos) (qu q):=by
 try simp only[qi]at*
 exact PE.imp (JH H9 g hm (by rfl) (jw d yj he) (by decide) (by decide) he (by rfl)) λσ H Q ⟨φ,A,ρ,S,re,h⟩=>by
   refine⟨φ,A,ρ,S,re,qL (qd.mp h) (λws A1 f b H1 a ys L s z r=>?_) λ_ _ z=>z⟩;refine⟨a,ys,rfl,z,λl c=>?_⟩;obtain⟨a1,a2,i⟩:=Jc s c r;exact f _ _ _ (L.trans a1) a2 i
def YL {o i:Expr}{mo mi:Ev}(he:zD X xr e m)(H:zD X xr o mo)(hi:zD X xr i mi)
  (h:swapsWithSole [.Subscript o i tpos] e pos.line X.env=pure false:=by rfl)(hw:swappedStores [.Subscript o i tpos] e X.env=pure none:=by rfl)
  (b:(assignEach [.Subscript o i tpos] X.env).map (·.2)=[assign (.Subscript o i tpos) X.env]:=by rfl)
  (a:∀v,assign (.Subscript o i tpos) X.env v=(do
   let ov <- holding [v] (eval o X.env)
   let iv <- holding [v,ov] (eval i X.env)
   standAt tpos
   holding [v,ov,iv] (setItem ov iv v)
   release [v,ov,iv] []):=by intro _;rfl):kN X xr (.Assign [.Subscript o i tpos] e pos) (w9 kK m mo mi):=by
 try simp only[qi]at*
 exact CH set_list Mg Ng he H hi h hw b a
def P5 (f:Nat)(C:PassesOwn (model X.prog X.w) X.A X.env X.xe)(E:yU X xr c mc)(I:kU X xr body m1):kN X xr (.While c body [] pos) (K7 f mc m1):=by
 try simp only[qi]at*
 exact PS.imp (CB C E I) λD σ H ⟨φ,A,ρ,S,re,h⟩=>by
   refine⟨λf g e=>∃a A2 d,Le X.K φ H a e/\zS X.K a A2 e/\RE X.K a e d g/\(gJ mc m1 f d A2).post (FB X.K a e D) (EB X.K a e xr),⟨f,φ,A,ρ,.refl,S,re,h⟩,?_⟩
   rintro f u U ⟨a,A2,d,x,M,o,v⟩
   cases f with
   |zero=>exact v.elim|succ f=>
    unfold gJ at v;refine tT.go M o (qd.mp v) λw P j=>?_;cases w with
    |bl k=>
     refine⟨k,rfl,λp N l y=>?_⟩;cases k with
     |true=>
      rw[ah rfl];refine⟨λg e=>∃a A2 d,Le X.K φ H a e/\zS X.K a A2 e/\RE X.K a e d g/\(gJ mc m1 f d A2).post (FB X.K a e D) (EB X.K a e xr),λg e z=>⟨f,bh _,z⟩,?_⟩;refine⟨p,P,d,y,o.mono l,qL (qd.mp j) (λJ B t=>?_) λ_ _ z=>z.mono l⟩;cases J with
      |nx i=>exactλb q n L s r=>⟨b,B,i,(x.trans l).trans L,s,r,qL t (λ_ _ z=>z.mono (l.trans L)) λ_ _ z=>z.mono (l.trans L)⟩|ct i=>exactλb q n L s r=>⟨b,B,i,(x.trans l).trans L,s,r,qL t (λ_ _ z=>z.mono (l.trans L)) λ_ _ z=>z.mono (l.trans L)⟩|bk i=>exactλb q n L s r=>t b q n (l.trans L) s r|rt T=>exactλb q v4 L s Q=>t b q v4 (l.trans L) s Q
     |false=>
      rw[aj aA];exact j p N u l y (o.mono l)
    |non=>cases j|int _=>cases j|str _=>cases j|tup _=>cases j|ref _=>cases j|clo _ _ _=>cases j|xc _=>cases j
end
end Mi
variable {mr:Mi.Ea}{mi:Mi.Ei}{em:Mi.Em}{ρ:Mi.En}{me:Mi.Ev}{A A1 B:Mi.Hx}{ws:List Mi.W}{I:Nat->Mi.En->List Mi.W->Mi.Hx->Prop}{o:Mi.O}{tw:Mi.Tg}{g:Mi.W->Mi.W->Mi.Hx->Mi.R Mi.W}{xr:Mi.XR}{q:Mi.yn}
set_option maxHeartbeats 4000000
namespace Mi
open PySem L2
section
variable {ρ1:En}{A2:Hx}{w x y:W}{m ma mb mc:Ev}{m1 m2:Ex}{f:Fn}
def zp (h:ρ[i]? =some (some w)):qj i ρ A=.ok w A:=by unfold qj;rw[h]
def qy:zU w ρ A=.ok w A:=rfl
def zT (H:ma ρ A=.ok x A1)(h:mb ρ A1=.ok y A2):zj g ma mb ρ A=g x y A2:=by unfold zj;rw[H,zL,h,zL]
def fq {g:W->Hx->R W}(h:ma ρ A=.ok x A1):ju g ma ρ A=g x A1:=by unfold ju;rw[h,zL]
def yu {k:Bool}(h:ma ρ A=.ok (.bl k) A1):jO ma ρ A=.ok (.bl (!k)) A1:=by unfold jO;rw[h,zL]
def ZO (h:ma ρ A=.ok (.bl true) A1):yW ma mb ρ A=mb ρ A1:=by unfold yW;rw[h,zL]
def JP (h:ma ρ A=.ok (.bl false) A1):yW ma mb ρ A=.ok (.bl false) A1:=by unfold yW;rw[h,zL]
def fv (h:ma ρ A=.ok (.bl true) A1):wU ma mb ρ A=.ok (.bl true) A1:=by unfold wU;rw[h,zL]
def K8 (h:ma ρ A=.ok (.bl false) A1):wU ma mb ρ A=mb ρ A1:=by unfold wU;rw[h,zL]
def qb {a:Ea}(h:a ρ A=.ok ws A1):zA f a ρ A=f ws A1:=by unfold zA;rw[h,zL]
def zY:zl ρ A=.ok [] A:=rfl
def zF {r:Ea}(H:ma ρ A=.ok x A1)(h:r ρ A1=.ok ws A2):zc ma r ρ A=.ok (x::ws) A2:=by unfold zc;rw[H,zL,h,zL]
def Q9 {a:Ea}(h:a ρ A=.ok ws A1):zG a ρ A=.ok (.tup ws) A1:=by unfold zG;rw[h,zL]
def j0 {a:Ea}(h:a ρ A=.ok ws A1):zX a ρ A=.ok (.ref A1.length) (A1++[.lst ws]):=by unfold zX;rw[h,zL]
def zN (h:m1 ρ A=.ok (.nx ρ1) A1):zo m1 m2 ρ A=m2 ρ1 A1:=by unfold zo;rw[h,zL]
def qA (h:m1 ρ A=.ok (.rt w) A1):zo m1 m2 ρ A=.ok (.rt w) A1:=by unfold zo;rw[h,zL]
def jK:zC ρ A=.ok (.nx ρ) A:=rfl
def qW (h:m ρ A=.ok w A1):zZ i m ρ A=.ok (.nx (ρ.set i (some w))) A1:=by unfold zZ;rw[h,zL]
def ki (h:m ρ A=.ok w A1):jJ m ρ A=.ok (.nx ρ) A1:=by unfold jJ;rw[h,zL]
def qZ (h:m ρ A=.ok w A1):qN m ρ A=.ok (.rt w) A1:=by unfold qN;rw[h,zL]
def kJ (h:mc ρ A=.ok (.bl true) A1):qP mc m1 m2 ρ A=m1 ρ A1:=by unfold qP;rw[h,zL]
def j7 (h:mc ρ A=.ok (.bl false) A1):qP mc m1 m2 ρ A=m2 ρ A1:=by unfold qP;rw[h,zL]
def Qp {j:jY}(h:mi ρ A=.ok j A1):yk mi tw m1 ρ A=yJ j (turn tw m1) j.len 0 ρ A1:=by unfold yk;rw[h,zL]
def Zj (h:tw w ρ=some ρ1):turn tw m1 w ρ A=m1 ρ1 A:=by unfold turn;rw[h]
def Vx {j:jY}{st:W->Ex}(h:j.at_ A i=some none):yJ j st n i ρ A=.ok (.nx ρ) A:=by
 cases n with
 |zero=>unfold yJ;rw[h]|succ n=>unfold yJ;rw[h]
def Gg {j:jY}{st:W->Ex}(h:j.at_ A i=some (some w))(H:st w ρ A=.ok (.nx ρ1) A1):yJ j st (n+1) i ρ A=yJ j st n (i+1) ρ1 A1:=by
 rw[yJ,h];dsimp only;rw[H,zL]
def Q3 {k:Int}(h:m ρ A=.ok (.int k) A1)(H:jD k=true):jG m ρ A=.ok (yV 0 k.toNat) A1:=by unfold jG;rw[h,zL];dsimp only;rw[ah H]
def g7 {lo:Int}(h:i<k):(yV lo k).at_ A i=some (some (.int (lo+i))):=by unfold yV;dsimp only;rw[ah h]
def gX {lo:Int}(h:¬i<k):(yV lo k).at_ A i=some none:=by unfold yV;dsimp only;rw[aj h]
def qT (h:m1 (ws.map some++List.replicate (n-ws.length) none) A=.ok (.rt w) A1):qV n m1 ws A=.ok w A1:=by unfold qV;rw[h];rfl
def ZQ {w:W}(hn:jv ws=true)(hw:w.nr=true)(h:f ws []=.ok w A1):iso f ws A=.ok w A:=by
 unfold iso;rw[ah hn,h];cases w with
 |ref k=>cases hw|_=>dsimp only;rw[ah hw]
end
end Mi
set_option maxHeartbeats 4000000
namespace Mi
open PySem L2
def C0 {j:jY}{ifs:Ev}{c:En}{N:Nat}{item g:Nat->W}{keep:Nat->Bool}(t:∀i,i<N->j.at_ A i=some (some (item i)))(d:j.at_ A N=some none)
  (hi:∀i,i<N->ifs (some (item i)::c) A=.ok (.bl (keep i)) A)(he:∀i,i<N->keep i=true->me (some (item i)::c) A=.ok (g i) A):
  ∀(n i:Nat)(x:Option W)(acc:List W),i+n=N->acc.length+n<=qf->∃y,qU j (zH 0) ifs (zQ me) n i (x::c) acc A=.ok (y::c,acc++((List.range' i n).filter keep).map g) A:=by
 intro n
 induction n with
 |zero=>
  intro i x acc h _
  have:i=N:=by omega
  subst this;refine⟨x,?_⟩;unfold qU;rw[d];simp
 |succ n I=>
  intro i x acc h l;have H:i<N:=by omega
  rw[qU,t i H];dsimp only[zH,List.set];rw[hi i H,zL];rw[bQ];cases k:keep i with
  |true=>
   dsimp only;obtain⟨y,e⟩:=I (i+1) (some (item i)) (acc++[g i]) (by omega) (by rw[aw,aS];omega)
   refine⟨y,?_⟩;have E:zQ me (some (item i)::c) acc A=.ok (some (item i)::c,acc++[g i]) A:=by
    unfold zQ;rw[he i H k,zL,ah (by omega)]
   rw[E,zL];dsimp only;rw[e,bG k,aW,aO]
   rfl
  |false=>
   dsimp only;obtain⟨y,e⟩:=I (i+1) (some (item i)) acc (by omega) (by omega)
   exact⟨y,by rw[e,List.filter_cons_of_neg (by rw[k];exact aA)]⟩
def PL {j:jY}{ifs:Ev}{N:Nat}{item g:Nat->W}{keep:Nat->Bool}(hm:mi ρ A=.ok j A)(a:j.len=N)(b:N<=qf)
  (H:∀i,i<N->j.at_ A i=some (some (item i)))(h:j.at_ A N=some none)(hi:∀i,i<N->ifs (some (item i)::cap.map λi=>(ρ[i]?).join) A=.ok (.bl (keep i)) A)
  (he:∀i,i<N->keep i=true->me (some (item i)::cap.map λi=>(ρ[i]?).join) A=.ok (g i) A):
  zW 1 cap mi (zH 0) ifs (zQ me) ρ A=.ok (((List.range N).filter keep).map g) A:=by
 obtain⟨y,e⟩:=C0 H h hi he N 0 none [] (Nat.zero_add N) (by simpa using b)
 unfold zW;rw[hm,zL,a];have c:Qw 1 cap ρ=none::cap.map λi=>(ρ[i]?).join:=rfl;rw[c,e,nil_append,<- range_eq_range']
 rfl
def JF {j:jY}{N:Nat}{item g:Nat->W}(hm:mi ρ A=.ok j A)(a:j.len=N)(b:N<=qf)
  (t:∀i,i<N->j.at_ A i=some (some (item i)))(H:j.at_ A N=some none)(he:∀i,i<N->me (some (item i)::cap.map λi=>(ρ[i]?).join) A=.ok (g i) A):
  zW 1 cap mi (zH 0) (zU (.bl true)) (zQ me) ρ A=.ok ((List.range N).map g) A:=by
 have h:=PL (ifs:=zU (.bl true)) (keep:=λ_=>true) hm a b t H (λ_ _=>rfl) λi hi _=>he i hi;have f:(List.range N).filter (λ_=>true)=List.range N:=List.filter_eq_self.mpr λ_ _=>rfl;rw[f]at h;exact h
def yq {g:List W->Hx->R W}(h:q ρ A=.ok ws A1):mQ g q ρ A=g ws A1:=by unfold mQ;rw[h,zL]
def kS (h:q ρ A=.ok ws A1):qu q ρ A=.ok (.ref A1.length) (A1++[.lst ws]):=by unfold qu;rw[h,zL]
def kG {m:Ev}{w:W}(h:m ρ A=.ok w A1)(H:zV w A1=some ws):qg m ρ A=.ok ws A1:=by unfold qg;rw[h,zL,H]
open PySem PySem.Spec PyProof.Rows L2
inductive zdf (H:Hp)(h g:Heap)(e:Addr)(vs:Array Value):Prop
 |mk (T:Addr) (oT:Obj) (ts:Array Value) (h1:vs[1]? =some (.ref T)) (ne:T≠e) (ng:g.get? T=none) (nH:H T=none) (hT:h.get? T=some oT) (hd:oT.data=.fields ts) (h3:ts[3]? =some .none)
inductive gG (H:Hp)(h g:Heap)(e:Addr)(C:Value):Prop
 |mk (ng:g.get? e=none) (nH:H e=none) (oe:Obj) (vs:Array Value) (a0:Value) (he:h.get? e=some oe) (hc:oe.cls=C) (hd:oe.data=.fields vs) (h0:vs[0]? =some a0) (h1:vs[1]? =some .none∨zdf H h g e vs)
inductive Tr (h:Heap)(e:Addr):Prop
 |mk (oe:Obj) (vs:Array Value) (T:Addr) (he:h.get? e=some oe) (hd:oe.data=.fields vs) (h1:vs[1]? =some (.ref T))
section
variable {A:Around}{outer:cf}{L e:Addr}{C:Value}{g:Heap}
theorem frames_at {B:Heap}:∀{l:cf},s.heap.FunFrames base l->(∀b∈qR l,B.get? b=none)->s.heap.FunFrames B l
 |[],_,_=>trivial|e::r,⟨k,⟨L,o,hf,hn,a,hd⟩,H⟩,h=>⟨k,⟨L,o,hf,h L (by unfold qR;rw[bp,hf];exact au ..),a,hd⟩,frames_at H λb c=>h b (by
   unfold qR;rw[bp,hf];exact aq _ c)⟩
def Ml {Q:Unit->Shared->Prop}(w:A.frames=some (env::outer))(hf:env.frame=some L)(I:s.heap.FunFrames base (env::outer))(x:gG H s.heap g e C)
  (tr:∀b u,H b=some u->∃o,s.heap.get? b=some o)(th:∀b o,g.get? b=some o->∃o',s.heap.get? b=some o')
  (hQ:∀h',(∀b o,s.heap.get? b=some o->b∉qR (env::outer)->((∃o',g.get? b=some o')∨∃u,H b=some u)->h'.get? b=some o)->(∀b o,s.heap.get? b=some o->b∈qR (env::outer)->∃sl,h'.get? b=some { o with slots:=sl })->
   gG H h' g e C->Tr h' e->Q () { s with heap:=h' }):wpAny M A (leaving env (.ref e)) Q E s:=by
 obtain⟨N,U,oe,vs,a0,he,hc,hd,h0,B⟩:=x;have fin:∀(d:bW),(∀b∈qR (env::outer),b∈d)->(∀b∈d,b∉qR (env::outer)->g.get? b=none/\H b=none)->∀h',Heap.LeftW (hideAll s.heap d) (env::outer) e C a0 s.heap h'->Q () { s with heap:=h' }:=by
  intro d hi1 r h' ⟨st,ff,p,us⟩;refine hQ h' (λb o h nb hx=>?_) (λb o h mb=>?_) ?_ (by obtain⟨i,v,T,D,t,j,_,k,n,_⟩:=p;exact⟨i,v,T,j,k,n⟩)
  ·refine st b o (bN d h λhm=>?_)
   obtain⟨z1,z2⟩:=r b hm nb;rcases hx with ⟨o',q⟩|⟨u,q⟩
   ·rw[z1]at q;cases q
   ·rw[z2]at q;cases q
  ·obtain⟨_,o',a,f⟩:=I.mem mb
   rw[h]at a;cases a;exact us b o h f
  ·obtain⟨i,v,T,D,t,j,⟨P,Y⟩,k,n,y,l,J,c,X⟩:=p
   have nT:T∉qR (env::outer):=λhm=>by
    obtain⟨_,o',a,f⟩:=I.mem hm;obtain⟨sl,z⟩:=us T o' a f;rw[J]at z;cases z;exact f t c
   have both:g.get? T=none/\H T=none:=by
    cases q:s.heap.get? T with
    |some o=>
     by_cases hm:T∈d
     ·exact r T hm nT
     ·rw[bN d q hm]at y;cases y
    |none=>
     constructor
     ·cases z:g.get? T with
      |none=>rfl|some o=>obtain⟨o',Z⟩:=th T o z;rw[q]at Z;cases Z
     ·cases z:H T with
      |none=>rfl|some u=>obtain⟨o',Z⟩:=tr T u z;rw[q]at Z;cases Z
   exact⟨N,U,i,v,a0,j,P,k,Y,.inr ⟨T,D,t,n,l,both.1,both.2,J,c,X⟩⟩
 have stay:∀d:bW,(hideAll s.heap d).StaysIn s.heap:=λd b o q=>of_hideAll d q;rcases B with B|⟨T,D,t,B,l,K,S,J,c,X⟩
 ·have hn:∀b∈e::qR (env::outer),(hideAll s.heap (e::qR (env::outer))).get? b=none:=λb h=>hideAll_none _ h
  refine wpAny_leaving_firstW (base:=hideAll s.heap (e::qR (env::outer))) w (frames_at I λb h=>hn b (aq _ h)) hf he (stay _) (hn e (au ..)) hd B h0 ?_;rw[hc];refine fin _ (λb h=>aq _ h) λb h nb=>?_;rcases cw.mp h with rfl|h
  ·exact⟨N,U⟩
  ·exact absurd h nb
 ·have hn:∀b∈e::T::qR (env::outer),(hideAll s.heap (e::T::qR (env::outer))).get? b=none:=λb h=>hideAll_none _ h
  refine wpAny_leaving_nextW (base:=hideAll s.heap (e::T::qR (env::outer))) w (frames_at I λb h=>hn b (aq _ (aq _ h))) hf
   ⟨oe,vs,T,D,t,he,⟨hc,h0⟩,hd,B,hn T (aq _ (au ..)),l,J,c,X⟩ (stay _) (hn e (au ..)) ?_
  refine fin _ (λb h=>aq _ (aq _ h)) λb h nb=>?_;rcases cw.mp h with rfl|h
  ·exact⟨N,U⟩
  ·rcases cw.mp h with rfl|h
   ·exact⟨K,S⟩
   ·exact absurd h nb
end
inductive MX (P:Program)(w:World)(outer:cf)(H:Hp)(s:Shared)(E:XK)(e:Value)(s':Shared):Prop
 |mk (ea C:Addr) (H':Hp) (he:e=.ref ea) (os:s'.os=s.os) (b:AllBare s'.gens) (un:Un (qR outer) [] H H' s.heap s'.heap) (hk:yF P w H' s'.heap) (ly:gG H' s'.heap s.heap ea (.ref C)) (tr:Tr s'.heap ea) (q:E (.ref C) none H')
noncomputable def Zg (P:Program)(w:World):Zf:=λouter H s E e s'=>MX P w outer H s E e s'
def _root_.L2.jF.obj {o:HO}(x:jF P w H h a o):∃ob,h.get? a=some ob:=by
 cases o with
 |lst xs=>obtain⟨_,_,_,_,e⟩:=x;exact⟨_,e⟩|tup xs=>obtain⟨_,_,_,o,e,_⟩:=x;exact⟨o,e⟩|dK k=>obtain⟨_,_,_,_,o,_,_,e,_⟩:=x;exact⟨o,e⟩|dT k=>obtain⟨_,_,_,_,o,_,_,e,_⟩:=x;exact⟨o,e⟩|set S n=>obtain⟨o,_,_,_,e,_⟩:=x;exact⟨o,e⟩|ins C d fs=>obtain⟨_,_,_,e,_⟩:=x;exact⟨_,e⟩|own y=>exact x|xd fs=>obtain⟨_,⟨o,_,_,e,_⟩,_⟩:=x;exact⟨o,e⟩|rng lo hi=>obtain⟨_,_,_,e⟩:=x;exact⟨_,e⟩|frz ob u=>exact⟨ob,x.1⟩|tbl ps=>exact⟨_,(show h.get? a=some _ from x)⟩|met f y=>exact⟨_,(show h.get? a=some _ from x)⟩|ext φ=>exact x.2.1
def ED {K:Frag}{cd:Value}{A:Around}{outer:cf}{E:XK}
  {h:Hp}{a C:Addr}(I:Inv (wQ (Zg P w) P w K mg base N qual scope f cd A outer s H E) pins σ h s')(x:gG h s'.heap s.heap a (.ref C))(p:E (.ref C) none h):
  (wQ (Zg P w) P w K mg base N qual scope f cd A outer s H E).xe (.ref a) s':=by
 have bs:Un (qR outer) [] H h s.heap s'.heap:=I.base;have stk:∀b∈qR (envOfC qual scope s.heap.objs.size f cd::outer),h b=none:=I.stkFree;have k:s.heap.get? s.heap.objs.size=none:=Heap.get?_none_of_le (ar _);have g:(envOfC qual scope s.heap.objs.size f cd).frame=some s.heap.objs.size:=rfl;have mem:∀b,b∈qR (envOfC qual scope s.heap.objs.size f cd::outer)↔b=s.heap.objs.size∨b∈qR outer:=λb=>by
  unfold qR;rw[bp,g];exact mem_cons
 show wpAny (model P w) (A.deeper (envOfC qual scope s.heap.objs.size f cd)) (leaving (envOfC qual scope s.heap.objs.size f cd) (.ref a)) _ _ s';refine Ml (base:=base) (L:=s.heap.objs.size) I.ok.frames rfl I.stack x (λb u e=>(I.hok b u e).obj) (λb o e=>bs.there b o e (by simp)) λh' k1 k2 X t=>?_
 have r:∀b u,h b=some u->b∉qR (envOfC qual scope s.heap.objs.size f cd::outer):=λb u e hm=>by rw[stk b hm]at e;cases e
 refine⟨a,C,h,rfl,I.os,I.bare,⟨λb o e n nb _=>?_,λb o e n mb _=>?_,λb o e n d=>bs.free b o e n d,λb o e d=>?_,bs.tups,bs.frzs,bs.tbls⟩,λb u e=>?_,X,t,p⟩
 ·have i:b≠s.heap.objs.size:=λz=>by rw[z,k]at e;cases e
  exact k1 b o (bs.keep b o e n nb (by simp)) (λhm=>(mem b).mp hm |>.elim i nb) (.inl ⟨o,e⟩)
 ·obtain⟨l,q⟩:=bs.slot b o e n mb (by simp)
  obtain⟨S,Q⟩:=k2 b _ q ((mem b).mpr (.inr mb));exact⟨S,Q⟩
 ·obtain⟨o',q⟩:=bs.there b o e d
  by_cases hm:b∈qR (envOfC qual scope s.heap.objs.size f cd::outer)
  ·obtain⟨l,z⟩:=k2 b o' q hm;exact⟨_,z⟩
  ·exact⟨o',k1 b o' q hm (.inl ⟨o,e⟩)⟩
 ·refine(I.hok b u e).stay (λc v j q=>?_) (λ_ q=>q) λ_ _ q=>q
  rcases j with z|z
  ·rw[z]at q ⊢;exact k1 b v q (r b u e) (.inr ⟨u,e⟩)
  ·exact k1 c v q (r c _ z) (.inr ⟨_,z⟩)
def PZ {E:XK}{e:Value}(I:Inv X pins σ H s)(h:Zg X.prog X.w X.stack H s E e s')(g:Heap)(p:∀b o,g.get? b=some o->∃o',s.heap.get? b=some o'):
  ∃a C c,e=.ref a/\Inv X pins σ c s'/\gG c s'.heap g a (.ref C)/\Tr s'.heap a/\E (.ref C) none c:=by
 obtain⟨a,C,c,rfl,os,bare,un,hok,x,r,u⟩:=h;obtain⟨l,v,d,t,f⟩:=s';obtain rfl:f=s.os:=os;refine⟨a,C,c,rfl,I.call (h':=l) (g':=v) (d':=d) (t':=t) (ch:=[]) un hok bare (λb z=>absurd z (by simp)),?_,r,u⟩
 have up:∀b,s.heap.get? b=none->g.get? b=none:=λb n=>by
  cases z:g.get? b with
  |none=>rfl|some o=>obtain⟨o',q⟩:=p b o z;rw[n]at q;cases q
 obtain⟨a1,a2,j,vs,U,S,Q,P,N,B⟩:=x;refine⟨up a a1,a2,j,vs,U,S,Q,P,N,?_⟩;rcases B with B|⟨T,k,i,M,L,K,J,D,A,y⟩
 ·exact .inl B
 ·exact .inr ⟨T,k,i,M,L,up T K,J,D,A,y⟩
noncomputable def Zw (K:Frag)(E:XK):XR:=λx H=>∀C:Addr,kI K x (.ref C)->E (.ref C) none H
inductive XA (K:Frag)(n:Nat)(f:Fn)(vs:List V)(H:Hp)(Q:VK)(E:XK):Prop
 |mk (len:vs.length=n) (φ:bW) (A:Hx) (ws:List W) (S:zS K φ A H) (r:zE K φ H ws vs) (q:(f ws A).post (PB K φ H Q) (EB K φ H (Zw K E)))
def XA.len {K:Frag}{f:Fn}{vs:List V}{Q:VK}{E:XK}(h:XA K n f vs H Q E):vs.length=n:=by cases h;assumption
inductive jX (P:Program)(w:World)(K:Frag)(mg:cc)(base:Heap)(k:Nat)(x:Str)(n:Nat)(f:Fn):Prop
 |mk (fa:Addr) (fd:FuncData) (ps:bZ) (F:ko P w K mg base (Zg P w) k fa fd ps (XA K n f)) (at_:mg x=some (.ref fa)) (kp:keepIn K (.ref fa)=true) (bi:Binds K fd ps [])
structure Zs (X:Cx)(g:Heap)(xr:XR):Prop where
 th:∀pins σ H s,Inv X pins σ H s->∀b o,g.get? b=some o->∃o',s.heap.get? b=some o'
 out:∀pins σ H s ea C x,Inv X pins σ H s->gG H s.heap g ea (.ref C)->kI X.K x (.ref C)->xr x H->X.xe (.ref ea) s
def fw {K:Frag}{cd:Value}{A:Around}{outer:cf}{E:XK}:
  Zs (wQ (Zg P w) P w K mg base N qual scope f cd A outer s H E) s.heap (Zw K E) where
 th:=λpins σ h s' I b o e=>(show Un (qR outer) [] H h s.heap s'.heap from I.base).there b o e (by simp)
 out:=λpins σ h s' d C x I l c a=>ED I l (a C c)
section
variable {g:Heap}{c:Expr}
noncomputable def fx (K:Frag)(X:XR):XK:=λc _ H=>∃x C,c=.ref C/\kI K x (.ref C)/\X x H
def Zs.passes (x:Zs X g xr):Passes (Zg X.prog X.w) X (fx X.K xr):=λpins σ H s e s' I h=>by
 obtain⟨b,C,d,rfl,i,l,_,nm,f,E,c,a⟩:=PZ I h g (x.th pins σ H s I);cases E;exact x.out pins σ d s' b C nm i l c a
end
noncomputable def gj (n:Nat)(m:Ex):Fn:=λws A=>(m (ws.map some++List.replicate (n-ws.length) none) A).bind λf A1=>match f with
 |.rt w=>.ok w A1|.nx _=>.ok .non A1|_=>.bad
inductive Ti (C:Addr)(bmB:bV)(newId:String)(h:Heap):Prop
 |mk (tl N nm q bs hdct sn sub ab col dd k0 k1 k2 k3 k5 mN:_) (obj:h.get? C=some (excClassObj nm q C N bs tl hdct sn sub ab col dd k0 k1 k2 k3 k5 newId)) (ns:h.Ns N mN) (init:mN "__init__"=none) (tail:OwnTail h bmB tl)
noncomputable def fy (d:Data):Option { c:ClassData // d=.cls c }:=match d with
 |.cls c=>some ⟨c,rfl⟩|_=>none
def Zo (K:Frag)(C:Addr)(b:bV)(newId:String):Bool:=(K.lookup C).any λo=>(fy o.data).any λc=>
 o.cls==.type "type" && c.1.mro==.ref C::c.1.mro.tail&&o.slots.toList==[o.slots.toList.getD 0 none,o.slots.toList.getD 1 none,o.slots.toList.getD 2 none,o.slots.toList.getD 3 none,some (.builtin newId),o.slots.toList.getD 5 none]
  && c.1.hasDel==false&&PySem.W.tailIn K b c.1.mro.tail&&PySem.W.nsOkIn K c.1.ns&&nsIn K c.1.ns "__init__" == some none
def Tp {K:Frag}{C:Addr}{b:bV}{newId:String}(X:K.In h)(q:Zo K C b newId=true):Ti C b newId h:=by
 obtain⟨⟨o,dd,dat,⟨s⟩⟩,H,q⟩:=(any_eq_true _ _).mp q;obtain⟨⟨⟨nm,bs,mro,ns,Q,hd,sn,sub,ab,col,del⟩,i⟩,-,q⟩:=(any_eq_true _ _).mp q;simp only[ak,aN]at q;obtain⟨⟨⟨⟨⟨⟨g,f⟩,d⟩,c⟩,a⟩,e⟩,E⟩:=q;cases i;cases g;cases c;exact⟨mro.tail,ns,nm,Q,bs,hd,sn,sub,ab,col,dd,_,_,_,_,_,_,X _ _ (by rw[H,f,d];rfl),.of_isNs (PySem.W.isNs_of_in X e),PySem.W.nsMap_none_of_in X e E,PySem.W.tail_of_in X a⟩
noncomputable def KZ (x:Str)(M:Ea):Ex:=λρ A=>(M ρ A).bind λ_ A1=>.exc x A1
section
variable {g:Heap}{es:b9}{np cpos:Pos}{C:Addr}{B newId initId:String}{bmB:bV}
def Bg {h':Heap}{e:Addr}{vs:bV}(x:Zs X g xr)(I:Inv X pins σ H s)(m:Heap.MadeExcOf s.heap h' e (.ref C) vs):
  Inv X pins σ H { s with heap:=h' }/\gG H h' g e (.ref C):=by
 have N:∀b,s.heap.get? b=none->H b=none:=λb z=>by
  cases q:H b with
  |none=>rfl|some u=>obtain⟨o,k⟩:=(I.hok b u q).obj;rw[z]at k;cases k
 have n:∀b,s.heap.get? b=none->g.get? b=none:=λb z=>by
  cases q:g.get? b with
  |none=>rfl|some o=>obtain⟨o',k⟩:=x.th pins σ H s I b o q;rw[z]at k;cases k
 obtain⟨t,he,a,h⟩:=m.there;refine⟨I.call' (s':={ s with heap:=h' }) (ch:=[]) rfl ⟨λb o q _ _ _=>m.keeps b o q,λb o q _ _ _=>⟨o.slots,m.keeps b o q⟩,λb o q z _=>z,λb o q _=>⟨o,m.keeps b o q⟩,λ_ _ q=>q,λ_ _ _ q=>q,λb ps q=>⟨#[],by rw[Array.append_empty];exact q⟩⟩
  (λb u q=>(I.hok b u q).stay (λc v _ z=>m.keeps c v z) (λ_ z=>z) λ_ _ z=>z) I.bare (λb z=>absurd z (by simp)),?_⟩
 exact⟨n e m.new,N e m.new,_,_,_,he,rfl,rfl,rfl,.inl rfl⟩
def CQ (o:Zs X g xr)(f:kI X.K x (.ref C))(ex:Zo X.K C bmB newId=true)(FB:ExcBaseFacts B newId initId bmB)(w:SA X xr (e::es) mr)(u:Z5 mr n)(hn:n<=sizeLine:=by decide)(v:Gl X x:=by rfl)(a:X.calm=true:=by rfl)
  (d:(x==("__debug__":Str))=false:=by decide)(he:starEach (e::es) X.env=(false,eval e X.env)::starEach es X.env:=by rfl)(l:(backTo cpos (starEach es X.env)).any (·.1)=false:=by rfl):
  SS X xr (.Raise (some (.Call (.Name x np) (e::es) [] cpos)) none pos) (KZ x mr):=by
 intro pins s σ H D I ⟨φ,A,ρ,S,re,h⟩;have hm:X.mg x=some (.ref C):=aX I.mod.kin I.mod.glob f;obtain⟨t,N,nm,q,bs,hdct,sn,sub,ab,col,dd,k0,k1,k2,k3,k5,mN,J,z,c,T⟩:=Tp I.mod.kin ex;refine wpAny_Raise_call_subT (C:=C) (nm:=nm) (q:=q) (N:=N) (bs:=bs) (bm:=t) (hdct:=hdct) (sn:=sn) (sub:=sub) (ab:=ab) (col:=col) (dd:=dd) (k0:=k0) (k1:=k1) (k2:=k2) (k3:=k3) (k5:=k5)
  FB (mN:=mN) (T.hasType FB.hasBase) (I.ok.hd a) (by rw[he];show(false || (backTo cpos (starEach es X.env)).any (·.1))=false;rw[l];rfl) c (YH I v hm ⟨rfl,?_⟩ d)
 have h':=qd.mp h;have j:=w cpos pins s σ H (λvs H1=>vs.length<=sizeLine/\xr x H1) I ⟨φ,A,ρ,S,re,?_⟩
 ·rw[he]at j ⊢
  refine Calls.evalArgs_plain (wpAny_mono j (λus s2 M=>?_) λ_ _ y=>y);obtain⟨vs,Z,i,r,hlen,p⟩:=M;refine⟨rfl,?_,i.bk _ _ J,z.keeps i.bk,T.keeps i.bk,λh3 P m=>?_⟩
  ·rw[<- r.length];exact hlen
  ·obtain⟨Y,L⟩:=Bg o i m
   exact o.out pins σ Z _ P C x Y L f p
 ·cases E:mr ρ A with
  |ok ws A1=>
   rw[E]at h';intro b H1 vs k U Q;refine⟨?_,h' b H1 k U⟩;rw[<- Q.length,u ρ A ws A1 E];exact hn
  |exc y A1=>rw[E]at h';exact h'|bad=>rw[E]at h';exact h'
end
noncomputable def mJ:List Ev->Str->Ev
 |[],acc=>λ_ A=>.ok (.str acc) A|m::ms,acc=>λρ A=>(m ρ A).bind λw A1=>match w with
  |.str y=>if (acc++y).length<=sizeLine then mJ ms (acc++y) ρ A1 else .bad|_=>.bad
section
variable {es:b9}{m:Ev}{ms:List Ev}
inductive SJ (X:Cx)(xr:XR):List Expr->List Ev->Prop where
 |nil:SJ X xr [] []
 |cons {e:Expr} {es:b9} {m:Ev} {ms:List Ev} (h:SE X xr e m) (r:SJ X xr es ms):SJ X xr (e::es) (m::ms)
end
section
variable {A:Around}{e C:Addr}{oe:Obj}{bmB bmD:bV}{newId newD:String}{Q:Bool->Shared->Prop}
def NX (h:Heap)(C D:Addr):Prop:=∃o cd,h.get? C=some o/\o.data=.cls cd/\cd.mro.contains (.ref D)=true
def FY (lc:Ti C bmB newId s.heap)(ld:Ti D bmD newD s.heap)(j:bmD.contains (.type "BaseException")=true)(he:s.heap.get? e=some oe)(a:oe.cls=.ref C)(up:NX s.heap C D)(v:Q true s):
  wpAny M A (excMatches (.ref e) (.ref D)) Q E s:=by
 obtain⟨h,g,d,t,os⟩:=s;obtain⟨l,N,nm,q,bs,hdct,sn,sub,ab,col,dd,k0,k1,k2,k3,k5,mN,k,_,_,_⟩:=lc;obtain⟨T,Y,r,I,x,c,p,S,y,o,w,X,U,P,K,L,u,n,_,_,z⟩:=ld;obtain⟨J,cd,b,hd,hm⟩:=up;rw[k]at b;cases b;have H:(excClassObj nm q C N bs l hdct sn sub ab col dd k0 k1 k2 k3 k5 newId).data=.cls cd:=hd;unfold excClassObj at H;cases H;have B:(Value.ref D::T).contains (.type "BaseException")=true:=by rw[List.contains_cons,z.hasType j,Bool.or_true]
 have i:(Value.ref C::l).contains (.ref D)=true:=hm;have f:=tc_notTuple;unfold excMatches
 repeat (first|(with_reducible refine wpAny_loadPart_at he ?_;rw[a])|with_reducible refine wpAny_loadPart_at n ?_|with_reducible refine wpAny_loadPart_at k ?_|(with_reducible refine wpAny_isSubtype_exc n ?_;rw[B])|(with_reducible refine wpAny_isSubtype_exc k ?_;rw[i])|wp_step)
 exact v
end
section
variable {H0:Hp}{s0:Shared}{ea C:Addr}
def landed {h':Heap}{T:Addr}{a0:Value}(g:Inv X pins σ H0 s0)(I:Inv X pins σ H s)(x:gG H s.heap s0.heap ea (.ref C))(nT:s0.heap.get? T=none)(hT:H T=none)
  (th:∀b o,s0.heap.get? b=some o->∃o',s.heap.get? b=some o')
  (fl:Heap.FlyingW (hideAll s.heap (ea::T::qR X.stack)) X.stack ea (.ref C) a0 h')(us:s.heap.UpToSlots h'):
  Inv X pins σ H { s with heap:=h' }/\gG H h' s0.heap ea (.ref C)/\Tr h' ea/\∀b o,s0.heap.get? b=some o->∃o',h'.get? b=some o':=by
 obtain⟨st,_,ff,oe,vs,t,oT,P,he,⟨A,h0⟩,hd,h1,l,B,D,w,h3⟩:=fl;have ng:s0.heap.get? ea=none:=by cases x;assumption
 have nH:H ea=none:=by cases x;assumption
 have kept:∀b o,s.heap.get? b=some o->b∉qR X.stack->b≠ea->b≠T->h'.get? b=some o:=λb o q n1 j N=>st b o (bN _ q λhm=>by
  rcases cw.mp hm with z|hm
  ·exact j z
  rcases cw.mp hm with z|hm
  ·exact N z
  ·exact n1 hm)
 have slot:∀b o,s.heap.get? b=some o->b∈qR X.stack->∃S,h'.get? b=some { o with slots:=S }:=λb o q hm=>by
  obtain⟨_,o',h,f⟩:=I.stack.mem hm;rw[q]at h;cases h;exact us b o q f
 have off:∀b u,H b=some u->b∉qR X.stack/\b≠ea/\b≠T:=λb u q=>⟨λhm=>(by rw[I.stkFree b hm]at q;cases q),λz=>(by rw[z,nH]at q;cases q),λz=>(by rw[z,hT]at q;cases q)⟩
 have ne:∀b o,s0.heap.get? b=some o->b≠ea/\b≠T:=λb o q=>⟨λz=>(by rw[z,ng]at q;cases q),λz=>(by rw[z,nT]at q;cases q)⟩
 have any:∀b o o',s0.heap.get? b=some o'->s.heap.get? b=some o->∃S,h'.get? b=some { o with slots:=S }:=λb o o' Q q=>by
  by_cases hm:b∈qR X.stack
  ·exact slot b o q hm
  ·exact⟨o.slots,kept b o q hm (ne b o' Q).1 (ne b o' Q).2⟩
 have cell:∀y c,X.env.cells.lookup y=some c->∀v,s.heap.IsCell c v->h'.IsCell c v:=λy c e v ⟨o,L,hd⟩=>by
  obtain⟨_,o0,d,_⟩:=g.cell y c e;obtain⟨S,z⟩:=any c o o0 d L;exact⟨_,z,hd⟩
 have inv:Inv X pins σ H { s with heap:=h' }:=by
  refine⟨I.ok,I.os,I.bare,⟨λb o q n K nx=>?_,λb o q n hf nx=>?_,I.base.free,λb o q nx=>?_,I.base.tups,I.base.frzs,I.base.tbls⟩,?_,λy c e=>?_,I.free,I.freeC,λp hp=>?_,λb u q=>?_,I.len⟩
  ·have a:=I.base.keep b o q n K nx
   have Q:=g.base.keep b o q n K nx;refine kept b o a (λhm=>?_) (ne b o Q).1 (ne b o Q).2;rcases cw.mp (I.stkSub b hm) with z|z
   ·exact absurd (aD (aF q) I.ok.above) (by rw[z];exact aT _)
   ·exact K z
  ·obtain⟨S,a⟩:=I.base.slot b o q n hf nx
   obtain⟨sl0,Q⟩:=g.base.slot b o q n hf nx;obtain⟨E,z⟩:=any b _ _ Q a;exact⟨E,z⟩
  ·obtain⟨J,a⟩:=I.base.there b o q nx
   obtain⟨o0,Q⟩:=g.base.there b o q nx;obtain⟨S,z⟩:=any b J o0 Q a;exact⟨_,z⟩
  ·obtain⟨m,⟨o,es,ep,L,r⟩,k⟩:=I.loc
   obtain⟨_,⟨o0,_,_,d,_⟩,_⟩:=g.loc;obtain⟨S,z⟩:=any _ o o0 d L;refine⟨m,⟨_,es,ep,z,r⟩,λi y v e1 e2 e3=>?_⟩;obtain⟨u,ru,lk⟩:=k i y v e1 e2 e3;refine⟨u,ru,?_⟩;rcases lk with lk|⟨lk,c,ec,M⟩
   ·exact .inl lk
   ·exact .inr ⟨lk,c,ec,cell y c ec _ M⟩
  ·obtain⟨v,hv⟩:=I.cell y c e
   exact⟨v,cell y c e v hv⟩
  ·obtain⟨p1,p2,Y,U,p5⟩:=I.pin p hp
   have Z:=(g.pin p hp).1;refine⟨kept _ _ p1 (λhm=>?_) (ne _ _ Z).1 (ne _ _ Z).2,p2,Y,U,p5⟩;rcases cw.mp (I.stkSub _ hm) with z|z
   ·exact Y z
   ·exact U z
  ·refine(I.hok b u q).stay (λc v M z=>?_) (λ_ z=>z) λ_ _ z=>z
   rcases M with e|e
   ·obtain⟨n1,j,N⟩:=off b u q
    rw[e]at z ⊢;exact kept b v z n1 j N
   ·obtain⟨n1,j,N⟩:=off c _ e
    exact kept c v z n1 j N
 have both:s0.heap.get? t=none/\H t=none:=by
  cases q:s.heap.get? t with
  |some o=>
   by_cases hm:t∈ea::T::qR X.stack
   ·rcases cw.mp hm with z|hm
    ·exact absurd z B
    rcases cw.mp hm with z|hm
    ·rw[z];exact⟨nT,hT⟩
    ·obtain⟨S,z⟩:=slot t o q hm
     obtain⟨_,o',h,f⟩:=I.stack.mem hm;rw[q]at h;cases h;rw[D]at z;cases z;exact absurd w (f P)
   ·rw[bN _ q hm]at l;cases l
  |none=>
   constructor
   ·cases z:s0.heap.get? t with
    |none=>rfl|some o=>obtain⟨o',k⟩:=th t o z;rw[q]at k;cases k
   ·cases z:H t with
    |none=>rfl|some u=>obtain⟨o',k⟩:=(I.hok t u z).obj;rw[q]at k;cases k
 exact⟨inv,⟨ng,nH,oe,vs,a0,he,A,hd,h0,.inr ⟨t,oT,P,h1,B,both.1,both.2,D,w,h3⟩⟩,⟨oe,vs,t,he,hd,h1⟩,λb o q=>by
  obtain⟨J,a⟩:=th b o q;obtain⟨S,z⟩:=any b J o q a;exact⟨_,z⟩⟩
def flying (I:Inv X pins σ H s)(x:gG H s.heap s0.heap ea (.ref C))(r:Tr s.heap ea):
  ∃T A,s0.heap.get? T=none/\H T=none/\Heap.FlyingW (hideAll s.heap (ea::T::qR X.stack)) X.stack ea (.ref C) A s.heap:=by
 obtain⟨y,z,l,vs,A,he,p,hd,h0,d⟩:=x;obtain⟨k,v,B,h,a,c⟩:=r;rw[he]at h;cases h;rw[hd]at a;cases a;rcases d with d|⟨T,n,t,d,i,e,j,u,f,w⟩
 ·rw[d]at c;cases c
 ·have hn:∀b∈ea::T::qR X.stack,(hideAll s.heap (ea::T::qR X.stack)).get? b=none:=λb g=>hideAll_none _ g
  exact⟨T,A,e,j,λb o q=>of_hideAll _ q,hn ea (au ..),frames_at I.stack λb g=>hn b (aq _ (aq _ g)),
   l,vs,T,n,t,he,⟨p,h0⟩,hd,d,hn T (aq _ (au ..)),i,u,f,w⟩
end
noncomputable def Wd (o:Obj):HO:=.frz o (.own 0)
noncomputable def J4 (K:Frag)(C D:Addr):Bool:=match K.lookup C with
 |some ⟨_,_,.cls cd,_⟩=>cd.mro.contains (.ref D)|_=>false
def fA {K:Frag}{C:Addr}(X:K.In h)(e:J4 K C D=true):NX h C D:=by
 unfold J4 at e
 split at e
 ·rename_i H
  exact⟨_,_,X _ _ H,rfl,e⟩
 ·cases e
section
variable {H0:Hp}{s0:Shared}{ea C L:Addr}
def YX (i:Inv X pins σ H0 s0)(I:Inv X pins σ H s)(x:gG H s.heap s0.heap ea (.ref C)):∃a,a.cls=.ref C/\H ea=none/\Inv X pins σ (upd H ea (Wd a)) s:=by
 obtain⟨k,d,a,vs,A,he,l,_⟩:=x;refine⟨a,l,d,?_⟩;have ne:∀b o,s0.heap.get? b=some o->b≠ea:=λb o q z=>by rw[z,k]at q;cases q
 have at_:∀b,b≠ea->upd H ea (Wd a) b=H b:=λb n=>by unfold upd;exact aj n
 have N:∀b u,H b=some u->upd H ea (Wd a) b=some u:=λb u q=>by
  rw[at_ b λz=>by rw[z,d]at q;cases q];exact q
 refine⟨I.ok,I.os,I.bare,⟨I.base.keep,I.base.slot,λb o q n nx=>?_,I.base.there,λb xs q=>N _ _ (I.base.tups b xs q),λb o u q=>N _ _ (I.base.frzs b o u q),λb ps q=>?_⟩,I.loc,I.cell,?_,λy c e=>?_,λp f=>?_,λb u q=>?_,I.len⟩
 ·obtain⟨o0,Q⟩:=i.base.there b o q nx
  rw[at_ b (ne b o0 Q)];exact I.base.free b o q n nx
 ·obtain⟨more,z⟩:=I.base.tbls b ps q
  exact⟨more,N _ _ z⟩
 ·obtain⟨m,⟨o0,_,_,h,_⟩,_⟩:=i.loc
  rw[at_ _ (ne _ o0 h)];exact I.free
 ·obtain⟨v,o0,h,_⟩:=i.cell y c e
  rw[at_ _ (ne _ o0 h)];exact I.freeC y c e
 ·obtain⟨j,g,P⟩:=I.pin p f
  refine⟨j,?_,P⟩;rw[at_ _ (ne _ _ (i.pin p f).1)];exact g
 ·by_cases z:b=ea
  ·subst z
   have:u=Wd a:=by
    unfold upd at q;rw[ah rfl]at q;exact(aC q).symm
   subst this;exact⟨he,⟨a,he⟩⟩
  ·rw[at_ b z]at q
   exact(I.hok b u q).stay (λ_ _ _ z=>z) (λc z=>N c _ z) λc xs z=>N c _ z
def fB (X:Cx)(pins:bX)(σ:St)(s0:Shared)(D:Addr)(k:Addr->Addr->Hp->Prop)(e:Value)(s:Shared):Prop:=
 ∃E C H B n,e=.ref E/\Inv X pins σ H s/\gG H s.heap s0.heap E (.ref C)/\Tr s.heap E/\(∀b o,s0.heap.get? b=some o->∃o',s.heap.get? b=some o')/\Mi.Zo X.K C B n=true/\J4 X.K C D=true/\∀a,a.cls=.ref C->H E=none->k E C (upd H E (Wd a))
def fC {l n:Str}{p:bV}{newD:String}{S:cn}{B:Stmt}{np hp:Pos}{Q:Flow->Shared->Prop}{k:Addr->Addr->Hp->Prop}
  (I0:Inv X pins σ H0 s0)(t:X.stack=X.env::X.outer)(hL:X.env.frame=some L)(hD:kI X.K l (.ref D))(exD:Mi.Zo X.K D p newD=true)(hbD:p.contains (.type "BaseException")=true)
  (hN:X.N.Nodup)(hi:X.N[i]? =some n)(hx:Loc X.env.scope n)
  (y:wpAny (model X.prog X.w) X.A (execs body X.env) (λf s1=>f=.next/\Q .next s1) (fB X pins σ s0 D k) s0)
  (b:∀E C H s2,Inv X pins (σ.set i (some (.ref E))) H s2->k E C H->∀E',wpAny (model X.prog X.w) (X.A.mark (some (.ref E))) (execs (B::S) X.env)
   (λf s4=>wpAny (model X.prog X.w) X.A (do bindName X.env n .none;unbindBehindTheSuite X.env n hp) (λ_ s5=>Q f s5) X.xe s4) E' s2)
  (hg:Gl X l)(Z:(l==("__debug__":Str))=false:=by decide)(hf:X.fn n=true∨X.env.scope.names.lookup n=some .local:=by first|exact .inl rfl|exact .inr rfl|assumption):
  wpAny (model X.prog X.w) X.A (exec (.Try body [.ExceptHandler (some (.Name l np)) (some n) (B::S) hp] [] [] pos) X.env) Q X.xe s0:=by
 refine wpAny_Try_except (wpAny_mono y (λf s1 ⟨ef,q⟩=>?_) λe s1 h=>?_)
 ·subst ef
  exact wpAny_execs_nil q
 obtain⟨E,C,H,bmC,newC,rfl,I,x,tr,th,exC,up,hk⟩:=h;have hm:X.mg l=some (.ref D):=aX I.mod.kin I.mod.glob hD;obtain⟨T,a0,nT,hT,fl⟩:=flying I x tr;have Y:X.A.frames=some (X.env::X.outer):=by rw[<- t];exact I.ok.frames
 refine wpAny_looks_onW Y hL (by rw[<- t];exact fl) λh₄ g d=>?_
 refine wpAny_landsW g λo a U=>?_;obtain⟨c,x5,r,z⟩:=landed I0 I x nT hT th (by rw[<- t]at a;exact a) (d.trans U)
 obtain⟨_,_,oe,_,_,he,hc,_⟩:=id x5;refine wpAny_handleBy_cons (codeAny_handlers_test (Calls.Name_function_global c.ok.kind hg (Calls.loadGlobal_global (by rw[c.ok.glob];exact c.mod.glob.keeps c.bk) hm ?_) Z)) (by intro q;cases q)
 refine FY (s:={ s1 with heap:=o }) (Tp c.kIn exC) (Tp c.kIn exD) hbD he hc (fA c.kIn up) ?_
 refine codeAny_handlers_suite_as ?_;obtain⟨T',a0',M,hT',fl'⟩:=flying c x5 r;refine lands_againW fl' λh₆ j u=>?_;obtain⟨I6,x6,_,_⟩:=landed I0 c x5 M hT' z j u;obtain⟨of,P,J,I7⟩:=YX I0 I6 x6;exact YE (v:=.ref E) I7 hN hi hx rfl (λs7 I7=>b E C _ s7 I7 (hk of P J) _) hf
end
section
variable {A:Around}
def name_goes {n:Str}{Q:Unit->Shared->Prop}(I:Inv X pins σ H s)(hN:X.N.Nodup)(hi:X.N[i]? =some n)(Y:X.env.scope.names.lookup n=some .local)
  (h:∀s',Inv X pins (σ.set i none) H s'->Q () s'):wpAny M A (do bindName X.env n .none;unbindBehindTheSuite X.env n pos) Q E s:=by
 obtain⟨m,hn,T⟩:=id I.loc;have f:i < σ.length:=by rw[I.len];exact(cx.mp hi).1
 refine wpAny_nameGoes_keeps Y hn (by rw[I.ok.kind];rfl) λh' v w t=>h _ ?_
 have old:∀b o,b≠X.env.locals->s.heap.get? b=some o->h'.get? b=some o:=λb o n q=>(t.2 b n).trans q;have nl:∀{b:Addr}{u:HO},H b=some u->b≠X.env.locals:=λq z=>by rw[z,I.free]at q;cases q
 have ab:∀{b:Addr}{k:Nat},b<k->k<=X.env.locals->b≠X.env.locals:=λl g=>aI (aD l g);refine⟨I.ok,I.os,I.bare,⟨λb o e z C x=>?_,λb o e z C x=>?_,I.base.free,λb o e x=>?_,I.base.tups,I.base.frzs,I.base.tbls⟩,⟨_,w,λj y J a r e3=>?_⟩,λy c e=>?_,I.free,I.freeC,λp P=>?_,λb u q=>?_,by simpa using I.len⟩
 ·exact old b o (ab (aF e) I.ok.above) (I.base.keep b o e z C x)
 ·obtain⟨S,a⟩:=I.base.slot b o e z C x
  exact⟨S,old b _ (ab (aF e) I.ok.above) a⟩
 ·obtain⟨o',a⟩:=I.base.there b o e x
  exact⟨o',old b _ (ab (aF e) I.ok.above) a⟩
 ·by_cases B:j=i
  ·subst B
   rw[aH f]at r;cases r
  ·rw[aG (Ne.symm B)]at r
   obtain⟨U,K,q⟩:=T j y J a r e3;refine⟨U,K,?_⟩;rcases q with ⟨k,e⟩|⟨k,c,e,z⟩
   ·have:y≠n:=λe=>B (V0 hN a (e ▸ hi))
    exact .inl ⟨k,by simp[this,e]⟩
   ·exact .inr ⟨k,c,e,z.sameBut t (I.cne y c e)⟩
 ·obtain⟨D,z⟩:=I.cell y c e
  exact⟨D,z.sameBut t (I.cne y c e)⟩
 ·obtain⟨e,z,ne,L,d⟩:=I.pin p P
  exact⟨old _ _ ne e,z,ne,L,d⟩
 ·refine(I.hok b u q).stay (λc v Z z=>old c v ?_ z) (λ_ z=>z) λ_ _ z=>z
  rcases Z with e|e
  ·rw[e];exact nl q
  ·exact nl e
def Ef {n y:Str}{E:Addr}{np Y ap p:Pos}{Q:Flow->Shared->Prop}{z:b8}(I:Inv X pins (σ.set i (some (.ref E))) H s)(c:X.N.Nodup)(hi:X.N[i]? =some n)(t:X.N[j]? =some y)
  (h:X.env.scope.names.lookup n=some .local)(d:Loc X.env.scope y)(q:∀s',Inv X pins (((σ.set i (some (.ref E))).set j (some (.ref E))).set i none) H s'->Q .next s')
  (g:swapsWith (.Name n np) (some (.Name y Y)) ap.line X.env=pure false)(hf:X.fn y=true∨X.env.scope.names.lookup y=some .local)
  (b:(n==("__debug__":Str))=false:=by decide):
  wpAny (model X.prog X.w) A (execs [.Assign [.Name y Y] (.Name n np) ap] X.env) (λf s4=>wpAny (model X.prog X.w) X.A (do bindName X.env n .none;unbindBehindTheSuite X.env n p) (λ_ s5=>Q f s5) X.xe s4) z s:=by
 obtain⟨m,hn,o⟩:=I.loc;have a:i < σ.length:=by have:=I.len;rw[length_set]at this;rw[this];exact(cx.mp hi).1
 obtain⟨u,r,l⟩:=o i n (.ref E) hi (aH a) (.inl h);obtain rfl:u=Value.ref E:=r;have hm:m n=some (.ref E):=by
  rcases l with ⟨_,e⟩|⟨k|k,_⟩
  ·exact e
  ·rw[show X.env.kindOf n=some .local from h]at k;cases k
  ·rw[show X.env.kindOf n=some .local from h]at k;cases k
 refine wpAny_execs_cons (wpAny_Assign_Name (wpAny_Name (wpAny_loadName_local I.ok.kind h hn hm ?_) b) g);exact YE (v:=.ref E) I c t d rfl (λs5 x=>wpAny_execs_nil (name_goes x c hi h q)) hf
end
open PySem PySem.W PySem.Spec PySem.Calls PyProof.Rows Builtin Builtin.ObjectAttr Builtin.Getset_descriptor
section
variable {prog:Program}{A:Around}{K:Frag}{x:Addr}{name:Str}
def fD {a g:Value}(X:K.In h)(b:findIn K (.ref D) name=some (some a))(hn:specialIn K a "__get__"=some (some g))(H:takesIn K a=some true):Looks M h (find (.ref x) (.ref D) name) (.bind g a):=
 (looks_findIn (M:=M) X b).andThen ((show Looks M h (getOf (some a)) (some g) from looks_specialIn X hn).andThen
  ((show Looks M h (dataDescriptor? (some a) (some g)) (some (g,a)) from (looks_takesIn (M:=M) X H).andThen .now).andThen (Looks.tag .now)))
def AW {tp:Value}{R:Result->Shared->Prop}(X:K.In s.heap)(l:Looks (model prog w) s.heap (typeOf (.ref x)) (.ref D))(hm:mroIn K D (.type "object")=some true)(h:R (.ok (.ret (.ref D))) s):
  codeAny (model prog w) A (.call (.builtin "getset_descriptor.__get__") ⟨[.builtin "object.__class__",.ref x,tp],[]⟩) R s:=by
 obtain⟨h0,g,d,t0,o0⟩:=s;have L:=looks_mroIn (M:=model prog w) X hm;have S:=KF.slot_gs;refine codeAny_call_builtin S.plain KF.entry_gs (S.check _ _ _ _ _ _ _ _ KF.type_class (KF.args_gs _ _ _) ?_);unfold «getset_descriptor.__get__» descrGet;rw[dga_obj];refine cq (cu ?_);unfold descrGetter descrCheckInstance isInstance descrNameAndClass;simp only[KF.owner_class]
 repeat lk
 refine And.intro (Code.quiet_builtin _ (by decide +kernel)) (codeAny_builtin KF.entry_class ?_)
 unfold «object.__class__» shownTypeOf
 repeat lk
 exact h
def Ed {rest:bV}{kw:List (Str×Value)}{Q:Unit->Shared->Prop}(X:K.In s.heap)(l:Looks M s.heap (typeOf (.ref x)) (.ref D))(hm:mroIn K D (.type "BaseException")=some true)
  (ok:argsOk "BaseException.__getattribute__" ⟨.ref x::rest,kw⟩)(h:Q () s):wpAny M A (checkBuiltinCall "BaseException.__getattribute__" ⟨.ref x::rest,kw⟩) Q E s:=by
 have cut:splitId "BaseException.__getattribute__"=some ("BaseException","__getattribute__"):=by first|rfl|decide +kernel
 have kinds:builtinKind "BaseException.__getattribute__"=some .slot∨builtinKind "BaseException.__getattribute__"=some .method:=by
  simp only[builtinKind,cut]
  first|exact .inl (by decide +kernel)|exact .inr (by decide +kernel)
 have L:=looks_mroIn (M:=M) X hm;have r:wpAny M A (match Manifest.signature? "BaseException.__getattribute__" with|some sig=>Bind.checkArgs "BaseException.__getattribute__" sig ⟨.ref x::rest,kw⟩|none=>pure ()) Q E s:=wpAny_of_eq ok h
 rcases kinds with k|k
 all_goals
  unfold checkBuiltinCall;rw[k,cut];dsimp only;unfold isInstance;refine cq (cq (l.at (L.at ?_)));exact r
def HA {Q:Option Value->Shared->Prop}(b:findIn K (.ref D) "__getattribute__"=some (some (.builtin "BaseException.__getattribute__")))(n:findIn K (.ref D) "__getattr__"=some none)
  (e:findIn K (.ref D) "__class__"=some (some (.builtin "object.__class__")))
  (hn:specialIn K (.builtin "object.__class__") "__get__"=some (some (.builtin "getset_descriptor.__get__")))(H:takesIn K (.builtin "object.__class__")=some true)(hm:mroIn K D (.type "object")=some true)(a:mroIn K D (.type "BaseException")=some true)
  (X:K.In s.heap)(L:Looks (model prog w) s.heap (typeOf (.ref x)) (.ref D))(h:Q (some (.ref D)) { s with toks:=s.toks+1 }):wpAny (model prog w) A (getAttr? (.ref x) "__class__") Q E s:=by
 obtain⟨c,g,d,t,os⟩:=s;have l:=looks_findIn (M:=model prog w) X b;have L2:=fD (M:=model prog w) (x:=x) X e hn H;have f:=looks_findIn (M:=model prog w) X n;unfold getAttr?;unfold getAttrBy?;unfold getAttrBy;refine cq (wpAny_mkText (cq (wpAny_attempt (wpAny_holding (cq (L.at (cq (l.at ?_))))))));show wpAny _ _ (getAttrByItsOwn (.ref x) (.str "__class__" t) (.ref D) (.builtin "BaseException.__getattribute__") false false) _ _ _;unfold getAttrByItsOwn;refine cq ?_;show wpAny _ _ (typeLookup (.ref D) "__getattr__") _ _ _;refine f.at (cq (wpAny_attempt (wpAny_holding ?_)));show wpAny _ _ (bindSpecial (.builtin "BaseException.__getattribute__") (.ref x) >>= _) _ _ _;refine cq (wpAny_of_eq (F.excAttr_ValueError.ga.bind _) ?_);refine wpAny_call (codeAny_call_builtin F.excAttr_ValueError.ga.plain F.entry_bexc_ga (Ed X L a (F.args_bexc_ga _ _) ?_));unfold «object.__getattribute__»;refine cq (wpAny_of_eq (show slotArgs "__getattribute__" 1 ⟨[.ref x]++[.str "__class__" t],[]⟩=pure (.ref x,[.str "__class__" t]) from rfl) ?_)
 refine cq (wpAny_of_eq (show attrName (.str "__class__" t)=pure ("__class__":Str) from rfl) (cq (L.at (cq (L2.at ?_)))))
 show wpAny _ _ (holding [Value.builtin "object.__class__"] (call (.builtin "getset_descriptor.__get__") [.builtin "object.__class__",.ref x,.ref D]) >>= ret) _ _ _;refine cq (wpAny_holding (wpAny_call (AW (s:=⟨c,g,d,t+1,os⟩) X L hm ?_)));refine cu ?_;exact handed_on rfl (cu h)
end
def GJ (x D:Addr)(h:Heap):Prop:=∃o,h.get? x=some o/\o.cls=.ref D
def GJ.ty {x:Addr}(p:GJ x D h):Looks M h (typeOf (.ref x)) (.ref D):=by
 obtain⟨o,H,c⟩:=p;rw[<- c];exact(Looks.ld H).andThen .now
def DL {K:Frag}{x:Addr}(d:(clsIn K D).isSome=true)(c:findIn K (.ref D) "__getattribute__"=some (some (.builtin "BaseException.__getattribute__")))(b:findIn K (.ref D) "__getattr__"=some none)(e:findIn K (.ref D) "__class__"=some (some (.builtin "object.__class__")))
  (hn:specialIn K (.builtin "object.__class__") "__get__"=some (some (.builtin "getset_descriptor.__get__")))(H:takesIn K (.builtin "object.__class__")=some true)(hm:mroIn K D (.type "object")=some true)(a:mroIn K D (.type "BaseException")=some true):
  KitX K (.ref x) (.ref D) (GJ x D) where
 ty:=λ_ _ _ p=>p.ty
 it:=λ_ _ X _=>by
  obtain⟨C,h⟩:=Option.isSome_iff_exists.mp d;unfold clsIn at h
  split at h
  ·rename_i g d' f s o
   intro A' Q' E s' k q;unfold isType loadHead;exact cq (wpAny_loadPart (k _ _ (X D _ o)) (cu q))
  ·cases h
 ne:=λ_ tp dd i n S X t=>by
  obtain⟨C,h⟩:=Option.isSome_iff_exists.mp d;rw[Bool.eq_false_iff];intro q;cases Value.ref.inj (aN.mp q);unfold clsIn at h
  split at h
  ·rename_i o
   cases (X _ _ o).symm.trans t
  ·cases h
 ca:=λX p k=>HA c b e hn H hm a X p.ty k
noncomputable def K0 (K:Frag)(C:Addr):Bool:=(PySem.W.clsIn K C).isSome&&(PySem.W.findIn K (.ref C) "__getattribute__" == some (some (.builtin "BaseException.__getattribute__")))&&(PySem.W.findIn K (.ref C) "__getattr__" == some none)&&(PySem.W.findIn K (.ref C) "__class__" == some (some (.builtin "object.__class__")))&&
 (PySem.W.specialIn K (.builtin "object.__class__") "__get__" == some (some (.builtin "getset_descriptor.__get__")))&&(PySem.W.takesIn K (.builtin "object.__class__")==some true)&&(PySem.W.mroIn K C (.type "object")==some true)&&(PySem.W.mroIn K C (.type "BaseException")==some true)
section
variable {A:Around}{c:Value}{b:Bool}{ea C:Addr}
def fE {o:Obj}{u:HO}(I:Inv X pins σ H s)(e:H ea=some (.frz o u))(d:o.cls=.ref C)(k:K0 X.K C=true)(q:kitOne X.K (.ref C) c=some b)(h:∀tk,Q (.bool b) { s with toks:=tk }):
  wpAny (model X.prog X.w) A (call (.builtin "isinstance") [.ref ea,c]) Q E s:=by
 have p:GJ ea C s.heap:=⟨o,(show jF X.prog X.w H s.heap ea (.frz o u) from I.hok ea _ e).1,d⟩
 unfold K0 at k;simp only[ak,aN]at k;obtain⟨⟨⟨⟨⟨⟨⟨k1,k2⟩,a⟩,k3⟩,i⟩,k5⟩,g⟩,f⟩:=k;exact bI (DL k1 k2 a k3 i k5 g f) I.kIn p q (λz=>nomatch z) h
def fF (I:Inv X pins σ H s)(q:kitOne X.K (.type "NoneType") c=some b)(h:∀tk,Q (.bool b) { s with toks:=tk }):wpAny (model X.prog X.w) A (call (.builtin "isinstance") [.none,c]) Q E s:=
 Oh I (x:=.non) rfl .non q h
end
def Z7 (P:Program)(w:World)(K:Frag)(mg:cc)(base:Heap)(N:bZ)(qual:Str)(scope:Scope)(f:Addr)(cd:Value)(cl:cg)(A:Around)(outer:cf)(s:Shared)(H:Hp)(E:XK):Cx where
 prog:=P
 w:=w
 K:=K
 mg:=mg
 base:=base
 A:=A.deeper (envX qual scope s.heap.objs.size f cd cl)
 N:=N
 s0:=s
 H0:=H
 env:=envX qual scope s.heap.objs.size f cd cl
 outer:=outer
 stack:=envX qual scope s.heap.objs.size f cd cl::outer
 ex:=[]
 calm:=true
 fn:=λ_=>false
 pn:=[]
 xe:=λe s'=>wpAny (model P w) (A.deeper (envX qual scope s.heap.objs.size f cd cl)) (leaving (envX qual scope s.heap.objs.size f cd cl) e) (λ_ S=>Zg P w outer H s E e S) (λa S=>Zg P w outer H s E a S) s'
section
variable {K:Frag}{cd:Value}{cl:cg}{A:Around}{outer:cf}{E:XK}
def EY {h:Hp}{a C:Addr}(I:Inv (Z7 P w K mg base N qual scope f cd cl A outer s H E) pins σ h s')(x:gG h s'.heap s.heap a (.ref C))(p:E (.ref C) none h):
  (Z7 P w K mg base N qual scope f cd cl A outer s H E).xe (.ref a) s':=by
 have bs:Un (qR outer) [] H h s.heap s'.heap:=I.base;have stk:∀b∈qR (envX qual scope s.heap.objs.size f cd cl::outer),h b=none:=I.stkFree;have k:s.heap.get? s.heap.objs.size=none:=Heap.get?_none_of_le (ar _);have g:(envX qual scope s.heap.objs.size f cd cl).frame=some s.heap.objs.size:=rfl;have mem:∀b,b∈qR (envX qual scope s.heap.objs.size f cd cl::outer)↔b=s.heap.objs.size∨b∈qR outer:=λb=>by
  unfold qR;rw[bp,g];exact mem_cons
 show wpAny (model P w) (A.deeper (envX qual scope s.heap.objs.size f cd cl)) (leaving (envX qual scope s.heap.objs.size f cd cl) (.ref a)) _ _ s';refine Ml (base:=base) (L:=s.heap.objs.size) I.ok.frames rfl I.stack x (λb u e=>(I.hok b u e).obj) (λb o e=>bs.there b o e (by simp)) λh' k1 k2 X t=>?_
 have r:∀b u,h b=some u->b∉qR (envX qual scope s.heap.objs.size f cd cl::outer):=λb u e hm=>by rw[stk b hm]at e;cases e
 refine⟨a,C,h,rfl,I.os,I.bare,⟨λb o e n nb _=>?_,λb o e n mb _=>?_,λb o e n d=>bs.free b o e n d,λb o e d=>?_,bs.tups,bs.frzs,bs.tbls⟩,λb u e=>?_,X,t,p⟩
 ·have i:b≠s.heap.objs.size:=λz=>by rw[z,k]at e;cases e
  exact k1 b o (bs.keep b o e n nb (by simp)) (λhm=>(mem b).mp hm |>.elim i nb) (.inl ⟨o,e⟩)
 ·obtain⟨l,q⟩:=bs.slot b o e n mb (by simp)
  obtain⟨S,Q⟩:=k2 b _ q ((mem b).mpr (.inr mb));exact⟨S,Q⟩
 ·obtain⟨o',q⟩:=bs.there b o e d
  by_cases hm:b∈qR (envX qual scope s.heap.objs.size f cd cl::outer)
  ·obtain⟨l,z⟩:=k2 b o' q hm;exact⟨_,z⟩
  ·exact⟨o',k1 b o' q hm (.inl ⟨o,e⟩)⟩
 ·refine(I.hok b u e).stay (λc v j q=>?_) (λ_ q=>q) λ_ _ q=>q
  rcases j with z|z
  ·rw[z]at q ⊢;exact k1 b v q (r b u e) (.inr ⟨u,e⟩)
  ·exact k1 c v q (r c _ z) (.inr ⟨_,z⟩)
def fG:Zs (Z7 P w K mg base N qual scope f cd cl A outer s H E) s.heap (Zw K E) where
 th:=λpins σ h s' I b o e=>(show Un (qR outer) [] H h s.heap s'.heap from I.base).there b o e (by simp)
 out:=λpins σ h s' d C x I l c a=>EY I l (a C c)
structure VP (N:bZ)(sc:Scope):Prop where
 kind:sc.kind=.function
 co:sc.isCoroutine=false
 gen:sc.isGenerator=false
 nocell:∀y∈sc.names,y.2≠.cell
structure Ge (base:Heap)(N:bZ)(scope:Scope)(cl:cg)(vs:List V):Prop where
 len:vs.length=N.length
 inj:∀x y c,cl.lookup x=some c->cl.lookup y=some c->x=y
 has:∀x,scope.names.lookup x=some .free->∃c,cl.lookup x=some c
 cell:∀x c,cl.lookup x=some c->∃v,base.IsCell c v
 val:∀(i:Nat)(x:Str)(v:V),N[i]? =some x->vs[i]? =some v->∃c u,scope.names.lookup x=some .free/\cl.lookup x=some c/\base.IsCell c (some u)/\RelV v u
def BI {vs:List V}{l:Heap}{tk:Tok}(S:VP N scope)(hd:A.handled=none)(g:Yb P w K mg base A outer s H)(C:Ge base N scope cl vs)(q:∃m,l.Ns s.heap.objs.size m)(t:∀b o,s.heap.get? b=some o->l.get? b=some o):
  Inv (Z7 P w K mg base N qual scope f cd cl A outer s H E) [] (L2.start N vs) H { s with heap:=l,toks:=tk }:=by
 have n:∀b:Addr,b∉(Z7 P w K mg base N qual scope f cd cl A outer s H E).ex:=λb z=>absurd (show b∈([]:bW) from z) (by simp)
 have bk:∀c v,base.IsCell c v->l.IsCell c v/\H c=none:=λc v ⟨o,x,hd⟩=>⟨⟨o,t _ _ (g.bs _ _ x).1,hd⟩,(g.bs _ _ x).2⟩;obtain⟨m,hm⟩:=q;refine⟨⟨g.mod,S.kind,rfl,rfl,ar _,C.inj,λy j=>?_,λy c z _=>(nomatch z),λ_=>hd,Around.frames_deeper g.frames,.inr ⟨rfl,rfl⟩,λb z=>absurd z (n b),g.bs,g.bsz,λb _ _=>n b,λb z=>absurd z (n b),g.funs,g.frf⟩,
  rfl,g.bare,Un.kept t,⟨m,hm,λi y v l d I=>?_⟩,λy c h=>?_,g.hok.fresh (ar _),λy c h=>?_,λp B=>absurd (show p∈([]:bX) from B) (by simp),g.hok.kept t,?_⟩
 ·have j:scope.names.lookup y=some .cell∨scope.names.lookup y=some .free:=j
  rcases j with j|j
  ·exact absurd rfl (S.nocell _ (PySem.mem_of_lookup j))
  ·exact C.has y j
 ·have hi:i<vs.length:=by
   unfold L2.start at d
   by_cases hi:i<vs.length
   ·exact hi
   ·rw[ay (by simpa using hi)]at d
    rw[bF]at d
    split at d<;>cases d
  have D:vs[i]? =some v:=by
   unfold L2.start at d;rw[ao (by simpa using hi),ax]at d
   cases e:vs[i]? with
   |none=>rw[e]at d;cases d|some a=>rw[e]at d;cases d;rfl
  obtain⟨c,u,k,e,z,r⟩:=C.val i y v l D;exact⟨u,r,.inr ⟨.inr k,c,e,(bk _ _ z).1⟩⟩
 ·obtain⟨v,z⟩:=C.cell y c h
  exact⟨v,(bk _ _ z).1⟩
 ·obtain⟨v,z⟩:=C.cell y c h
  exact(bk _ _ z).2
 ·unfold L2.start
  show _=N.length;rw[aw,ag,bK,C.len];omega
def MC (o:Obj)(q:Str):Prop:=∃vs t,o.data=.fields vs/\vs[1]? =some (.str q t)
def fH {name:Str}{params:Arguments}{body:Expr}{pm ctv:Value}{i:Obj}{u uc:HO}{vs:List V}{m:Ev}(S:VP N scope)(C:Ge base N scope cl vs)(p:MC i qual)
  (g:∀(A:Around)(outer:cf)(s:Shared)(H:Hp)(E:XK),jR k (A.deeper (envX qual scope s.heap.objs.size a (.ref c) cl))->Zs (Z7 P w K mg base N qual scope a (.ref c) cl A outer s H E) s.heap (Zw K E)->
   SE (Z7 P w K mg base N qual scope a (.ref c) cl A outer s H E) (Zw K E) body m):
  ko P w K mg base (Zg P w) (k+1) a (kla_fn name qual params body scope cl pm (.ref c) ctv) [] (λus H Q E=>us=[]/\H a=some (.frz (kla_obj name qual params body scope cl pm c ctv) u)/\H c=some (.frz i uc)/\
   ∃φ A ws,zS K φ A H/\zE K φ H ws vs/\(m (ws.map some) A).post (PB K φ H Q) (EB K φ H (Zw K E))):=by
 refine⟨λus H Q E h=>by rw[h.1];rfl,λA outer s H args us D Q E n l hb r h=>?_⟩
 obtain⟨rfl,h1,h2,φ,A1,ws,Sm,B,Y⟩:=h;cases r;have Z:s.heap.get? a=some (kla_obj name qual params body scope cl pm c ctv):=(show jF P w H s.heap a (.frz _ u) from l.hok a _ h1).1
 have hc:s.heap.get? c=some i:=(show jF P w H s.heap c (.frz i uc) from l.hok c _ h2).1
 have lim:s.heap.NoLimit:=l.mod.nolimit.keeps λb o e=>(l.bs b o e).1;obtain⟨L,T,z,hd2⟩:=p;refine PySem.W.kla_callFunE n.depth Z rfl S.co S.gen rfl ⟨c,i,L,T,rfl,hc,z,hd2⟩ (hb _ _ _ _ ?_);refine wpAny_newFunctionEnv S.nocell (λy U=>absurd (show y∈([]:List (Str×Value)) from U) (by simp)) (λd t j=>⟨lim.fresh _ j,?_⟩) S.kind
 show codeAny _ _ (.expr body (envX qual scope s.heap.objs.size a (.ref c) cl)) _ _;have f:∀b o,s.heap.get? b=some o->d.get? b=some o:=λb o e=>j.extBut b o (aI (aF e)) (af _ e);have I:∀tk,Inv (Z7 P w K mg base N qual scope a (.ref c) cl A outer s H E) [] (L2.start N vs) H { s with heap:=d,toks:=tk }:=λtk=>BI S n.hd l C ⟨_,t⟩ f
 refine PySem.W.kla_codeExpr (wpAny_mono (g A outer s H E (n.deeper _) fG [] _ (L2.start N vs) H Q (I _) ⟨φ,A1,_,Sm,RE.start (N:=N) B,?_⟩) (λv s' X=>?_) λ_ _ y=>y)
 ·have:N.length-ws.length=0:=by rw[B.length,C.len];omega
  rw[this,List.replicate_zero,a8];exact Y
 ·obtain⟨x,H',J,M,q⟩:=X
  exact⟨x,H',J.os,J.bare,J.base,J.hok,M,q⟩
end
inductive zcl (K:Frag)(a:Addr)(ob:Obj)(u:HO)(c:Addr)(oc:Obj)(uc:HO)(vs:List V)(g:Fn)(us:List V)(H:Hp)(Q:VK)(E:XK):Prop
 |mk (e:us=[]) (h1:H a=some (.frz ob u)) (h2:H c=some (.frz oc uc)) (φ:bW) (A:Hx) (ws:List W) (S:zS K φ A H) (r:zE K φ H ws vs) (q:(g ws A).post (PB K φ H Q) (EB K φ H (Zw K E)))
def ZY (P:Program)(w:World)(K:Frag)(mg:cc)(base:Heap)(j:Nat)(p:Obj->Addr->Obj->List V->Prop)(g:Fn):Prop:=
 ∀a ob u c o uc vs,p ob c o vs->(∃fd,ob.data=.func fd)/\∃fd,ko P w K mg base (Zg P w) j a fd [] (zcl K a ob u c o uc vs g)/\∀s,BindsTo s fd ⟨[],[]⟩ []
open Classical in
noncomputable def Xf (i:Nat)(PG:Nat->Obj->Addr->Obj->List V->Prop)(lam:Nat->Fn):Ev:=λρ A=>match ρ[i]? with
 |some (some (.clo k ws P))=>if P=PG k then lam k ws A else .bad|_=>.bad
def We (i j l:Nat)(cs:bZ)(PG:Nat->Obj->Addr->Obj->List V->Prop)(lam:Nat->Fn):Ex:=λρ A=>match Xf i PG lam ρ A with
 |.ok _ A1=>.ok (.nx ρ) A1|.exc x A1=>if cs.contains x then .ok (.nx (((ρ.set l (some (.xc x))).set j (some (.xc x))).set l none)) A1 else .bad|.bad=>.bad
section
variable {K:Frag}
def RE.unset (r:RE K φ H ρ σ):RE K φ H (ρ.set i none) (σ.set i none):=
 ⟨by simp[r.len],λj u e=>by
  by_cases h:i=j
  ·subst h
   have hi:i < ρ.length:=by
    have:=(cx.mp e).1
    simpa using this
   rw[aH hi]at e;cases e
  ·rw[aG h]at e
   obtain⟨x,b,a⟩:=r.get j u e;exact⟨x,by rw[aG h];exact b,a⟩⟩
end
def LA (K:Frag)(φ:bW)(H:Hp)(ρ:En)(j l:Nat)(D:Ends)(x:Str)(A':Hx):Prop:=∀a h b,Le K φ H a h->zS K a A' h->RE K a h (((ρ.set l (some (.xc x))).set j (some (.xc x))).set l none) b->D.nx b h
inductive zdp (K:Frag)(φ:bW)(H:Hp)(ρ:En)(j l:Nat)(D0:Ends)(ea C:Addr)(H':Hp):Prop
 |mk (xn:Str) (φ':bW) (A':Hx) (le:Le K φ H φ' H') (S:zS K φ' A' H') (rv:RV K φ' H' (.xc xn) (.ref ea)) (n:LA K φ H ρ j l D0 xn A')
inductive zdm (K:Frag)(φ:bW)(H:Hp)(ρ:En)(j l:Nat)(D0:Ends)(cs:bZ)(Cv:Value)(d:cm)(H1:Hp):Prop
 |mk (xn:Str) (Ca:Addr) (e:Cv=.ref Ca) (hC:kI K xn (.ref Ca)) (hc:cs.contains xn=true) (φ1:bW) (A1:Hx) (le:Le K φ H φ1 H1) (S:zS K φ1 A1 H1) (n:LA K φ H ρ j l D0 xn A1)
def LC (K:Frag)(f:Str->Option Bool)(cv:V):List V->Hp->VK->Prop:=λxs H Q=>∃x,xs=[x,cv]/\((x=.non/\Q (.bl false) H)∨∃a o u C nm b,x=.ref a/\H a=some (.frz o u)/\o.cls=.ref C/\kI K nm (.ref C)/\f nm=some b/\Q (.bl b) H)
structure Wb (K:Frag)(f:Str->Option Bool)(c:Value):Prop where
 non:kitOne K (.type "NoneType") c=some false
 exc:∀nm C b,f nm=some b->kI K nm (.ref C)->K0 K C=true/\kitOne K (.ref C) c=some b
def jm (f:Str->Option Bool)(m:Ev):Ev:=λρ A=>(m ρ A).bind λw A1=>match w with
 |.non=>.ok (.bl false) A1|.xc nm=>(match f nm with
  |some b=>.ok (.bl b) A1|none=>.bad)
 |_=>.bad
section
variable {m:Ev}{f:Str->Option Bool}
def OF {cv:V}{c:Value}(g:Wb X.K f c)(rc:∀u,RelV cv u->u=c):yv X (.builtin "isinstance") (LC X.K f cv):=by
 intro pins s σ H xs us Q I r h;obtain⟨x,rfl,h⟩:=h;obtain⟨u,n,rfl,e,d⟩:=vals2 r;cases rc _ d;rcases h with ⟨rfl,q⟩|⟨a,o,U,C,nm,b,rfl,l,k,j,i,q⟩
 ·cases (show u=Value.none from e)
  exact fF I g.non λtk=>⟨.bl false,H,I.tok tk,rfl,q⟩
 ·cases (show u=Value.ref a from e)
  obtain⟨k1,k2⟩:=g.exc nm C b i j;exact fE I l k k1 k2 λtk=>⟨.bl b,H,I.tok tk,rfl,q⟩
def jm.read {cv:V}{t:TE}(i:∀σ H Q,Q cv H->t σ H Q):∀σ H Q,tM X.K xr (jm f m) σ H Q->Xq (LC X.K f cv) (G4 (tM X.K xr m) (G4 t TQ)) σ H Q:=by
 rintro σ H Q ⟨φ,A,ρ,S,re,h⟩
 refine tM.go S re (qd.mp h) λw A1 d H1 v c l s q=>?_;refine i σ H1 _ ?_;cases w with
 |non=>
  obtain rfl:=q;exact⟨.non,rfl,.inl ⟨rfl,c d H1 _ l s rfl⟩⟩
 |xc nm=>
  dsimp only at c;cases e:f nm with
  |none=>rw[e]at c;exact c.elim|some b=>
   rw[e]at c;obtain⟨a,o,u,C,rfl,g,Z,z⟩:=q;exact⟨.ref a,rfl,.inr ⟨a,o,u,C,nm,b,rfl,g,Z,z,e,c d H1 _ l s rfl⟩⟩
 |bl _=>exact c.elim|int _=>exact c.elim|str _=>exact c.elim|tup _=>exact c.elim|ref _=>exact c.elim|clo _ _ _=>exact c.elim
end
def Hg {a b:Int}{c cv:Value}(l:bV)(h:TriplesOk l)(e:codeAmong pos (l++[rawInt a,rawInt b,c])=some cv):codeAmong pos l=some cv∨cv=c:=by
 fun_induction TriplesOk l with
 |case1=>
  right
  simp only[nil_append,codeAmong,rawInt]at e
  split at e
  ·exact(aC e).symm
  ·cases e
 |case2 A t B u x rest i=>
  simp only[cons_append,codeAmong]at e ⊢
  split at e
  ·rename_i H;rw[ah H];exact .inl e
  ·rename_i H;rw[aj H];exact i h e
 |case3 l f d=>exact h.elim
def BMain (mg:cc)(base:Heap):Prop:=∃bm o,mg "__builtins__"=some (.ref bm)/\bm≠builtinsNs/\bm≠mainGlobals/\base.get? bm=some o/\o.cls=.type "module" /\ o.dict=some builtinsNs/\o.data=.plain
noncomputable def Xd (q:Str)(params:Arguments)(body:Expr)(scope:Scope)(C:cg):Obj->Addr->Obj->List V->Prop:=λob c o _=>(∃pm ctv,ob=kla_obj "<lambda>" q params body scope C pm c ctv)/\MC o q
noncomputable def yh (n:Nat)(q:Str)(P:Addr)(k:Nat)(PF:Obj->Addr->Obj->List V->Prop):Ev:=λ_ A=>match A[n]? with
 |some (.tab Q P')=>if Q=q/\P'=P then .ok (.clo k [] PF) A else .bad|_=>.bad
section
variable {q:Str}{P:Addr}{params:Arguments}{body:Expr}{clos:cg}
def fI (hB:BMain X.mg X.base)(y:X.env.code=.ref c)(C:CodeHd X.base c P)(hcl:closureFor scope X.env=pure clos)(hq:X.env.qual ++ "<lambda>"=q)(hdef:defaultsOf params X.env=([],[]):=by rfl):
  SE X xr (.Lambda params body scope pos) (yh n q P k (Xd q params body scope clos)):=by
 intro pins s σ H Q I ⟨φ,A,ρ,S,re,h⟩;unfold yh at h;cases Z:A[n]? with
 |none=>rw[Z]at h;exact h.elim|some o=>
  rw[Z]at h;cases o with
  |tab L P'=>
   dsimp only at h
   by_cases hc:L=q/\P'=P
   ·rw[ah hc]at h
    obtain⟨rfl,rfl⟩:=hc;obtain⟨a,ha,eaP,ps,t,Y⟩:=S.ob n _ Z;subst eaP;have hP:s.heap.get? a=some (tabObj ps):=(show jF X.prog X.w H s.heap a (.tbl ps) from I.hok a _ t)
    have hg:s.heap.Ns mainGlobals X.mg:=I.mod.glob.keeps I.bk;have hgP:mainGlobals≠a:=λz=>by
     obtain⟨o,es,ep,e,hd,_⟩:=hg;rw[z,hP]at e;cases e;cases hd
    have r:s.heap.BuiltinsAt X.mg a:=by
     obtain⟨bm,o,b1,b2,b3,b4,b5⟩:=hB;refine⟨bm,o,b1,b2,b3,λz=>?_,I.bk _ _ b4,b5⟩
     have:=(I.bs _ _ b4).2
     rw[z,t]at this;cases this
    refine PySem.W.kla_eval hdef ?_;rw[hq];have M:∀b,s.heap.objs.size<=b->H b=none:=λb r=>I.hok.fresh r;cases hf:codeAmong pos ps.toList with
    |none=>
     refine PySem.W.kla_makeFunction (mg:=X.mg) hcl I.ok.glob hg y (C.keeps I.bk) hP Y.1 hf hgP r λf ctv h' tk hx x U hrec htb=>?_;obtain⟨c2,g,vc,tc,ec,hoc,D,hd2⟩:=hrec;cases ec;generalize j:kla_obj "<lambda>" L params body scope clos ((X.mg "__name__").getD .none) f ctv=ob;have hPc:a<s.heap.objs.size:=aF hP;have nPc:a≠f:=aI (aD hPc x);have nPf:a≠h'.objs.size:=aI (lt_trans (aD hPc x) U);have T:f≠h'.objs.size:=aI U;have hsf:s.heap.objs.size<=h'.objs.size:=bb x (bC U);have E:H f=none:=M f x;have l:H h'.objs.size=none:=M _ hsf;have H1f:upd H f (.frz g (.own 0)) h'.objs.size=none:=by rw[qI (Ne.symm T)];exact l
     generalize B:ps++#[rawInt pos.line,rawInt pos.col,.ref f]=p at htb;have S1:=S.lay (u:=.frz g (.own 0)) E;have S2:=S1.lay (u:=.frz ob (.own 0)) H1f;have fz:∀b o u,upd (upd H f (.frz g (.own 0))) h'.objs.size (.frz ob (.own 0)) b=some (.frz o u)->upd (upd (upd H f (.frz g (.own 0))) h'.objs.size (.frz ob (.own 0))) a (.tbl p) b=some (.frz o u):=λb o u e=>by
      rw[qI];exact e;intro z;rw[z,qI nPf,qI nPc,t]at e;cases e
     have fz0:∀b o u,H b=some (.frz o u)->upd (upd H f (.frz g (.own 0))) h'.objs.size (.frz ob (.own 0)) b=some (.frz o u):=λb o u e=>by
      rw[qI (wH e l),qI (wH e E)];exact e
     have tg':Wo (upd (upd (upd H f (.frz g (.own 0))) h'.objs.size (.frz ob (.own 0))) a (.tbl p)) L p:=by
      rw[<- B];refine⟨by rw[Array.toList_append];exact TriplesOk_snoc _ _ _ _ Y.1,λpos' cv e=>?_⟩
      rw[Array.toList_append]at e;rcases Hg _ Y.1 e with e|e
      ·obtain⟨c0,oc0,u0,vs0,t0,g1,g2,g3⟩:=Y.2 pos' cv e
       exact⟨c0,oc0,u0,vs0,t0,g1,by rw[B];exact fz _ _ _ (fz0 _ _ _ g2),g3⟩
      ·exact⟨f,g,.own 0,vc,tc,e,by rw[B];exact fz _ _ _ (by rw[qI T,jS]),D,hd2⟩
     obtain⟨l3,S3⟩:=S2.write (o:=.tab L a) (o':=.tab L a) Z rfl rfl ha (u:=.tbl p) ⟨rfl,p,jS,tg'⟩;have l03:Le X.K φ H φ _:=((Le.new E).trans (Le.new H1f)).trans l3;have set3:A.set n (.tab L a)=A:=by
      apply ext_getElem?
      intro i
      by_cases hi:n=i
      ·subst hi
       rw[aH (cx.mp Z).1,Z]
      ·rw[aG hi]
     rw[set3]at S3;have eP:upd (upd (upd H f (.frz g (.own 0))) h'.objs.size (.frz ob (.own 0))) a (.tbl p) a=some (.tbl p):=jS;have ec:upd (upd (upd H f (.frz g (.own 0))) h'.objs.size (.frz ob (.own 0))) a (.tbl p) f=some (.frz g (.own 0)):=by rw[qI (Ne.symm nPc),qI T,jS]
     have ef:upd (upd (upd H f (.frz g (.own 0))) h'.objs.size (.frz ob (.own 0))) a (.tbl p) h'.objs.size=some (.frz ob (.own 0)):=by rw[qI (Ne.symm nPf),jS]
     have J:∀b,b≠a->b≠f->b≠h'.objs.size->upd (upd (upd H f (.frz g (.own 0))) h'.objs.size (.frz ob (.own 0))) a (.tbl p) b=H b:=λb n1 n2 n3=>by rw[qI n1,qI n3,qI n2]
     generalize upd (upd (upd H f (.frz g (.own 0))) h'.objs.size (.frz ob (.own 0))) a (.tbl p)=H3 at S3 l03 eP ec ef J;have kp:∀b o,b≠a->s.heap.get? b=some o->(h'.push ob).get? b=some o:=λb o n e=>af _ (hx b o n e);have old:∀b o,s.heap.get? b=some o->b≠f/\b≠h'.objs.size:=λb o e=>⟨aI (aD (aF e) x),aI (aD (aF e) hsf)⟩;have N:∀b u,H b=some u->b≠f/\b≠h'.objs.size:=λb u e=>⟨wH e E,wH e l⟩;have gP:(h'.push ob).get? a=some (tabObj p):=af _ htb;have I3:Inv X pins σ H3 { s with heap:=h'.push ob,toks:=tk }:=by
      refine I.un ⟨λb o e z r _=>?_,λb o e z r _=>?_,λb o e z _=>?_,λb o e _=>?_,λb xs e=>?_,λb o u e=>?_,λb qs e=>?_⟩ λb u e=>?_
      ·exact kp b o (λw=>by rw[w,t]at z;cases z) e
      ·exact⟨o.slots,kp b o (λw=>by rw[w,t]at z;cases z) e⟩
      ·rw[J b (λw=>by rw[w,t]at z;cases z) (old b o e).1 (old b o e).2];exact z
      ·by_cases r:b=a
       ·rw[r];exact⟨_,gP⟩
       ·exact⟨o,kp b o r e⟩
      ·rw[J b (K9 e t (by intro w;cases w)) (N b _ e).1 (N b _ e).2];exact e
      ·rw[J b (K9 e t (by intro w;cases w)) (N b _ e).1 (N b _ e).2];exact e
      ·by_cases r:b=a
       ·subst r
        rw[t]at e;cases e;exact⟨_,by rw[eP,<- B]⟩
       ·exact⟨#[],by rw[J b r (N b _ e).1 (N b _ e).2,e];simp⟩
      ·by_cases h1:b=a
       ·subst h1
        rw[eP]at e;cases e;exact gP
       ·by_cases h2:b=f
        ·subst h2
         rw[ec]at e;cases e;exact⟨af _ hoc,⟨_,af _ hoc⟩⟩
        ·by_cases h3:b=h'.objs.size
         ·subst h3
          rw[ef]at e;cases e;exact⟨av _ (by rw[<- j];rfl),⟨_,av _ (by rw[<- j];rfl)⟩⟩
         ·rw[J b h1 h2 h3]at e
          refine(I.hok b u e).stay (λd v hd z=>kp d v ?_ z) (λd z=>?_) λd xs z=>?_
          ·rcases hd with w|w
           ·rw[w];exact h1
           ·exact K9 w t (by intro w;cases w)
          ·rw[J d (K9 z t (by intro w;cases w)) (N d _ z).1 (N d _ z).2];exact z
          ·rw[J d (K9 z t (by intro w;cases w)) (N d _ z).1 (N d _ z).2];exact z
     exact⟨.ref h'.objs.size,H3,I3,rfl,h φ H3 _ l03 S3 ⟨h'.objs.size,ob,.own 0,f,g,.own 0,[],rfl,ef,ec,⟨⟨_,_,j.symm⟩,vc,tc,D,hd2⟩,rfl⟩⟩
    |some cv=>
     obtain⟨f,g,u0,vc,tc,rfl,hHc,D,hd2⟩:=Y.2 pos cv hf;refine PySem.W.kla_makeFunctionHit (mg:=X.mg) hcl I.ok.glob hg y (C.keeps I.bk) hP Y.1 hf r λctv h' tk hx hsz=>?_;generalize j:({ cls:=.type "function",data:=.func (kla_fn "<lambda>" L params body scope clos ((X.mg "__name__").getD .none) (.ref f) ctv) }:Obj)=ob;have l:H h'.objs.size=none:=M _ hsz;have I3:Inv X pins σ (upd H h'.objs.size (.frz ob (.own 0))) { s with heap:=h'.push ob,toks:=tk }:=
      I.laid (λb o e=>af _ (hx b o e)) hsz ⟨av _ (by rw[<- j];rfl),⟨_,av _ (by rw[<- j];rfl)⟩⟩
     refine⟨.ref h'.objs.size,_,I3,rfl,h φ _ _ (Le.new l) (S.lay l) ⟨h'.objs.size,ob,.own 0,f,g,u0,[],rfl,jS,?_,⟨⟨_,_,j.symm⟩,vc,tc,D,hd2⟩,rfl⟩⟩;rw[qI (wH hHc l)];exact hHc
   ·rw[aj hc]at h;exact h.elim
  |_=>exact h.elim
end
section
variable {K:Frag}
theorem RE.monoW {a:bW}{h:Hp}(r:RE K φ H ρ σ)(l:ZD K φ H a h):RE K a h ρ σ:=⟨r.len,λi w e=>let ⟨v,h1,b⟩:=r.get i w e;⟨v,h1,b.monoW l⟩⟩
inductive MMg (G:List Addr->Hp->Prop)(K:Frag)(xr:XR)(m:Ev)(σ:St)(H:Hp)(Q:VK):Prop
 |mk (φ:bW) (A:Hx) (ρ:En) (S:zS K φ A H) (re:RE K φ H ρ σ) (g:G φ H) (h:(m ρ A).post (PB K φ H Q) (EB K φ H xr))
noncomputable def LR (G:List Addr->Hp->Prop)(K:Frag)(x:XR)(m:Ev):TE:=λσ H Q=>MMg G K x m σ H Q
inductive MEg (G:List Addr->Hp->Prop)(K:Frag)(em:Em)(D:Addr)(σ:St)(H:Hp)(Q:St->Hp->Prop):Prop
 |mk (φ:bW) (A:Hx) (ρ:En) (acc:List W) (ys:List V) (S:zS K φ A H) (re:RE K φ H ρ σ) (g:G φ H) (hD:H D=some (.lst ys)) (nD:∀k:Nat,φ[k]?≠some D) (rv:zE K φ H acc ys)
  (h:(em ρ acc A).post (Wt K D φ H Q) gO)
noncomputable def T6 (G:List Addr->Hp->Prop)(K:Frag)(em:Em):gq:=λD σ H Q=>MEg G K em D σ H Q
def Br {G:List Addr->Hp->Prop}{d:Nat}(x:∀e s,X.xe e s->False)(he:PE X elt (LR G X.K yx me))(p:gens[d+1]? =none):wC X elt gens sc pos d (T6 G X.K (zQ me)):=
 wC.imp (Ox x he p) λD σ H Q ⟨φ,A,ρ,acc,ys,S,re,g,t,n,r,h⟩=>by
  refine⟨φ,A,ρ,S,re,g,qL (KD (qd.mp h)) (λw A1 f j H1 v l u q=>?_) λ_ _ z=>z⟩;obtain⟨c,n1⟩:=l.off t n
  by_cases k:acc.length<qf
  ·rw[ah k]at f
   have o:=r.length;refine⟨ys,c,?_,?_⟩
   ·rw[<- o]
    have:sizeLine=16777216:=sizeLine_eq
    unfold qf at k;omega
   ·exact f j _ σ _ (l.toD.trans (yO.upd c)) n1 (u.off c n1) ⟨re.len,λi w e=>let ⟨v,a,b⟩:=re.get i w e;⟨v,a,(b.mono l).monoD (yO.upd c)⟩⟩ jS
     (((r.mono l).monoD (yO.upd c)).append (.one (q.monoD (yO.upd c))))
  ·rw[aj k]at f;exact f.elim
def qU.readG {G:List Addr->Hp->Prop}{ifs:Ev}{j:jY}{J:It}{K:Frag}{acc:List W}{Q:St->Hp->Prop}{f:Nat}
  (gm:∀φ H v t,ZD K φ H v t->G φ H->G v t)(g:G φ H)(jr:QK K φ H j J)
  (S:zS K φ A H)(re:RE K φ H ρ σ)(hD:H D=some (.lst ys))(nD:∀k:Nat,φ[k]?≠some D)(ra:zE K φ H acc ys)
  (h:(qU j tw ifs em f 0 ρ acc A).post (Wt K D φ H Q) gO):
  YU J (tG K tw) (tT K yx ifs) (T6 G K em) D σ H Q:=by
 refine⟨λi f b t=>Xs tw ifs em j K D φ H Q f i b t,
  ⟨f,φ,A,ρ,acc,ys,.refl,S,re,hD,nD,ra,h⟩,?_⟩
 rintro i f Z H2 ⟨n,A2,B,e,Y,P,S2,C,U,I,s,a⟩
 obtain⟨j1,j2⟩:=jr i n H2 A2 ⟨P.ex,P.tp,P.fz⟩ S2;cases E:j.at_ A2 i with
 |none=>cases f<;>(unfold qU at a;rw[E]at a;exact a.elim)|some o=>
  cases o with
  |none=>
   left
   refine⟨j2 E,?_⟩;cases f<;>(unfold qU at a;rw[E]at a;exact a n H2 Z Y P I S2 C U s)
  |some w=>
   right
   obtain⟨go,yl⟩:=j1 w E;cases f with
   |zero=>unfold qU at a;rw[E]at a;exact a.elim|succ f=>
    unfold qU at a;rw[E]at a;refine⟨go,λb t=>Xs tw ifs em j K D φ H Q f (i+1) b t,λb t z=>⟨f,bh _,z⟩,λx H3 y=>?_⟩;obtain⟨M,S3,q3⟩:=yl x H3 y;obtain⟨hD3,nD3⟩:=M.off U I;dsimp only at a;cases et:tw w B with
    |none=>rw[et]at a;exact a.elim|some q=>
     rw[et]at a;refine⟨n,A2,B,w,q,S3,C.mono M,q3,et,λσ3 r=>?_⟩;refine tT.go S3 r (KD (qd.mp a)) λc A4 d=>?_;cases c with
     |bl k=>
      refine⟨k,rfl,λu H4 L S4=>?_⟩;obtain⟨T,N⟩:=L.off hD3 nD3;have l:=(P.trans (M.trans L).toD);cases k with
      |true=>
       rw[ah rfl];refine⟨u,A4,q,e,Y,S4,r.mono L,gm _ _ _ _ ⟨l.ex,l.tp,l.fz⟩ g,T,N,s.mono (M.trans L),qL (qd.mp d) (λp A5 h5 X H5 σ5 zs l5 n5 S5 re5 d5 r5=>?_) λ_ _ z=>z⟩;exact⟨X,A5,p.1,p.2,zs,l.trans l5,S5,re5,d5,n5,r5,h5⟩
      |false=>
       rw[aj aA];exact⟨u,A4,q,e,Y,l,S4,r.mono L,T,N,s.mono (M.trans L),d⟩
     |non=>cases d|int _=>cases d|str _=>cases d|tup _=>cases d|ref _=>cases d|clo _ _ _=>cases d|xc _=>cases d
end
structure Lm where
 N:bZ
 idx:bY
 params:Arguments
 body:Expr
 scope:Scope
 m:Ev
noncomputable def wA:List Nat->En->Option (List W)
 |[],_=>some []|j::J,ρ=>match ρ[j]?,wA J ρ with
  |some (some w),some ws=>some (w::ws)|_,_=>none
noncomputable def QG:List Nat->St->Option (List V)
 |[],_=>some []|j::J,σ=>match σ[j]?,QG J σ with
  |some (some w),some ws=>some (w::ws)|_,_=>none
theorem VI {K:Frag}(r:RE K φ H ρ σ):∀{J:bY}{ws:List W},wA J ρ=some ws->∃vs,QG J σ=some vs/\zE K φ H ws vs
 |[],ws,e=>by cases e;exact⟨[],rfl,.nil⟩|j::J,ws,e=>by
  unfold wA at e;cases E:ρ[j]? with
  |none=>rw[E]at e;cases e|some o=>cases o with
   |none=>rw[E]at e;cases e|some w=>
    rw[E]at e;cases a:wA J ρ with
    |none=>rw[a]at e;cases e|some b=>
     rw[a]at e;cases e;obtain⟨v,f,d⟩:=r.get j w E;obtain⟨vs,c,h⟩:=VI r a;exact⟨v::vs,by unfold QG;rw[f,c],.cons d h⟩
theorem OO:∀{J:bY}{vs:List V},QG J σ=some vs->vs.length=J.length/\∀(i:Nat)(v:V),vs[i]? =some v->∃j,J[i]? =some j/\σ[j]? =some (some v)
 |[],vs,e=>by cases e;exact⟨rfl,λi v h=>by simp at h⟩|j::J,vs,e=>by
  unfold QG at e;cases E:σ[j]? with
  |none=>rw[E]at e;cases e|some o=>cases o with
   |none=>rw[E]at e;cases e|some w=>
    rw[E]at e;cases r:QG J σ with
    |none=>rw[r]at e;cases e|some c=>
     rw[r]at e;cases e;obtain⟨f,H⟩:=OO r;refine⟨by simp[f],λi v h=>?_⟩
     cases i with
     |zero=>simp at h;subst h;exact⟨j,by simp,E⟩|succ i=>simp at h;obtain⟨d,a,b⟩:=H i v h;exact⟨d,by simpa using a,b⟩
noncomputable def yX (ls:List Lm)(k:Nat):Fn:=λws A=>match ls[k]? with
 |some t=>t.m (ws.map some) A|none=>.bad
def kP (env:Env)(q:Str)(ls:List Lm)(k:Nat):Obj->Addr->Obj->List V->Prop:=λob c o vs=>∃t,ls[k]? =some t/\Xd q t.params t.body t.scope (kZ env t.scope.names []) ob c o vs
def QP (env:Env)(q:Str)(ls:List Lm)(σ:St)(k:Nat):Obj->Addr->Obj->List V->Prop:=λob c o vs=>∃t,ls[k]? =some t/\Xd q t.params t.body t.scope (kZ env t.scope.names []) ob c o vs/\QG t.idx σ=some vs
structure wb (P:Program)(w:World)(K:Frag)(mg:cc)(j:Nat)(q:Str)(t:Lm):Prop where
 sc:VP t.N t.scope
 bind:∀(cl:cg)(pm cdv ctv:Value),bindArgs (kla_fn "<lambda>" q t.params t.body t.scope cl pm cdv ctv) ⟨[],[]⟩=pure []
 body:∀(base:Heap)(cl:cg)(a c:Addr)(A:Around)(outer:cf)(s:Shared)(H:Hp)(E:XK),jR j (A.deeper (envX q t.scope s.heap.objs.size a (.ref c) cl))->Zs (Z7 P w K mg base t.N q t.scope a (.ref c) cl A outer s H E) s.heap (Zw K E)->
  SE (Z7 P w K mg base t.N q t.scope a (.ref c) cl A outer s H E) (Zw K E) t.body t.m
section
variable {K:Frag}{q:Str}{ls:List Lm}
def Mz (l:∀t∈ls,wb P w K mg j q t)(f:∀t∈ls,∀vs,QG t.idx σ=some vs->Ge base t.N t.scope (kZ env t.scope.names []) vs)(k:Nat):ZY P w K mg base (j+1) (QP env q ls σ k) (yX ls k):=by
 rintro a ob u c o uc vs ⟨t,d,⟨⟨pm,ctv,rfl⟩,b⟩,v⟩
 have mt:t∈ls:=mem_of_getElem? d;have L:=l t mt;refine⟨⟨_,rfl⟩,_,((fH (name := "<lambda>") (params:=t.params) (body:=t.body) (pm:=pm) (ctv:=ctv) (a:=a) (c:=c) (u:=u) (uc:=uc) (m:=t.m) L.sc (f t mt vs v) b λA outer s H E e x=>L.body base _ a c A outer s H E e x)).imp λus H Q E h=>?_,λs=>.of_eq (L.bind _ _ _ _)⟩;obtain⟨n,i,g,φ,A,ws,S,r,h⟩:=h;refine⟨n,i,g,φ,A,ws,S,r,?_⟩;unfold yX at h;rw[d]at h;exact h
end
noncomputable abbrev jW:=Nat->Obj->Addr->Obj->List V->Prop
open Classical in
noncomputable def Za (PG:jW)(RF:Nat->List W->Hx->R W):Fn:=λus A=>match us with
 |[.clo k ws P]=>if P=PG k then RF k ws A else .bad|_=>.bad
open Classical in
def QI (i:Nat)(PF:jW)(ls:List Lm)(RF:Nat->List W->Hx->R W)(a:En):Ev:=λρ A=>match ρ[i]? with
 |some (some (.clo k _ P))=>if P=PF k then(match ls[k]? with
  |some t=>(match wA t.idx a with
   |some ws=>RF k ws A|none=>.bad)
  |none=>.bad) else .bad
 |_=>.bad
structure QC (X:Cx)(t:Lm):Prop where
 len:t.idx.length=t.N.length
 nm:∀(i:Nat)(x:Str)(j:Nat),t.N[i]? =some x->t.idx[i]? =some j->X.N[j]? =some x/\t.scope.names.lookup x=some .free
 free:∀y∈t.scope.names,y.2=.free->X.env.kindOf y.1=some .cell∨X.env.kindOf y.1=some .free
section
def Ga (I:Inv X pins σ H s){t:Lm}(L:QC X t)(h:(kZ X.env t.scope.names []).lookup x=some c):X.env.cells.lookup x=some c:=by
 rcases JD _ _ (PySem.mem_of_lookup h) with z|⟨z,e⟩
 ·cases z
 ·obtain⟨C,a⟩:=I.ok.has x (L.free _ z rfl)
  rw[a]at e ⊢;exact congrArg some e.symm
def Oy (I:Inv X pins σ H s)(g:∀x c v,X.env.cells.lookup x=some c->s.heap.IsCell c v->base.IsCell c v){t:Lm}(L:QC X t){vs:List V}(n:QG t.idx σ=some vs):Ge base t.N t.scope (kZ X.env t.scope.names []) vs:=by
 obtain⟨v1,v2⟩:=OO n;refine⟨v1.trans L.len,λx y c d b=>I.ok.inj x y c (Ga I L d) (Ga I L b),λx h=>?_,λx c h=>?_,λi x v d b=>?_⟩
 ·exact Option.isSome_iff_exists.mp (W4 _ _ (.inl (PySem.mem_of_lookup h)))
 ·have e:=Ga I L h
  obtain⟨v,z⟩:=I.cell x c e;exact⟨v,g x c v e z⟩
 ·obtain⟨j,w,q⟩:=v2 i v b
  obtain⟨p,E⟩:=L.nm i x j d w;have fr:=L.free _ (PySem.mem_of_lookup E) rfl;obtain⟨m,hn,o⟩:=I.loc;obtain⟨u,r,lk⟩:=o j x v p q (.inr fr);obtain⟨c,f⟩:=Option.isSome_iff_exists.mp (W4 (env:=X.env) t.scope.names [] (.inl (PySem.mem_of_lookup E)));have l:=Ga I L f;rcases lk with ⟨z,_⟩|⟨_,C,a,cell⟩
  ·exfalso
   rcases fr with k|k<;>(rw[k]at z;cases z)
  ·rw[l]at a
   cases a;exact⟨c,u,E,f,g x c _ l cell,r⟩
def Uw (I:Inv X pins σ H s)(h:∀x,X.fn x=true)(e:X.env.cells.lookup x=some c):c∉qR X.stack:=λhm=>by
 rcases cw.mp (I.stkSub c hm) with z|z
 ·exact I.cne x c e z
 ·obtain⟨_,o,a,_⟩:=I.ok.funs.mem z
  exact absurd (aD (aF a) (I.ok.cab x c (h x) e)) (aT _)
noncomputable def wu (base h:Heap)(cells:cg):Heap:=hideAll h ((List.range h.objs.size).filter λb=>(base.get? b).isNone&&!(cells.any λp=>cells.lookup p.1==some b))
def Gb {o:Obj}(e:(wu base h cells).get? b=some o):h.get? b=some o/\((∃o',base.get? b=some o')∨∃x,cells.lookup x=some b):=by
 have E:=of_hideAll _ e;refine⟨E,?_⟩
 by_cases hm:b∈(List.range h.objs.size).filter λb=>(base.get? b).isNone&&!(cells.any λp=>cells.lookup p.1==some b)
 ·unfold wu at e
  rw[hideAll_none _ hm]at e;cases e
 ·rw[bJ]at hm
  have c:b∈List.range h.objs.size:=cz.mpr (aF E);cases g:base.get? b with
  |some o'=>exact .inl ⟨o',rfl⟩|none=>
   right
   by_cases H:(cells.any λp=>cells.lookup p.1==some b)=true
   ·obtain⟨p,_,a⟩:=List.any_eq_true.mp H
    exact⟨p.1,aN.mp a⟩
   ·exact absurd ⟨c,by rw[g];simpa using H⟩ hm
def Pz (k:∀b o,base.get? b=some o->h.get? b=some o){o:Obj}(e:base.get? b=some o):(wu base h cells).get? b=some o:=
 bN _ (k b o e) λhm=>by
  rw[bJ,e]at hm;simp at hm
def PM {o:Obj}(l:cells.lookup x=some c)(e:h.get? c=some o):(wu base h cells).get? c=some o:=
 bN _ e λhm=>by
  rw[bJ,ak,Bool.not_eq_true']at hm
  have:=hm.2.2
  rw[List.any_eq_false]at this;exact this _ (PySem.mem_of_lookup l) (by simpa using l)
variable {H3:Hp}{s3:Shared}{ls:List Lm}{q f:Str}{ρ0:En}{RF:Nat->List W->Hx->R W}{p2:Pos}
def O2 (I:Inv X pins σ H3 s3)(D:∀b∈fp,wc X pins H3 b)(H:∀x,X.fn x=true)(B:∀t∈ls,wb X.prog X.w X.K X.mg j q t)(g:∀t∈ls,QC X t)
  {p:bX}{f:St}{a:Hp}(i:Inv (jB X N sc s3 H3 fp yb) p f a s'):
  Yb X.prog X.w X.K X.mg (wu X.base s'.heap X.env.cells) X.A X.stack s' a/\∀k,ZY X.prog X.w X.K X.mg (wu X.base s'.heap X.env.cells) (j+1) (QP X.env q ls σ k) (yX ls k):=by
 have un:Un (qR X.stack) fp H3 a s3.heap s'.heap:=i.base;have bk:∀b o,X.base.get? b=some o->s'.heap.get? b=some o:=λb o e=>(show _ from i.bk b o e)
 have C:∀y c,X.env.cells.lookup y=some c->∀o,s3.heap.get? c=some o->s'.heap.get? c=some o/\a c=none:=λy c e o h=>
  have n:c∉fp:=λz=>(D c z).2.2.2.2.1 y c e rfl
  ⟨un.keep c o h (I.freeC y c e) (Uw I H e) n,un.free c o h (I.freeC y c e) n⟩
 have d:∀b o,X.base.get? b=some o->(wu X.base s'.heap X.env.cells).get? b=some o:=λb o e=>Pz bk e;have M:Mod X.K X.mg (wu X.base s'.heap X.env.cells):=by
  obtain⟨mb,P,L⟩:=I.mod.blt;exact⟨I.mod.kin.keeps d,I.mod.glob.keeps d,⟨mb,P.keeps d,L⟩,I.mod.nolimit.keeps d⟩
 have bs:∀b o,(wu X.base s'.heap X.env.cells).get? b=some o->s'.heap.get? b=some o/\a b=none:=λb o e=>by
  obtain⟨J,E⟩:=Gb e;refine⟨J,?_⟩;rcases E with ⟨o',E⟩|⟨y,E⟩
  ·exact(i.bs b o' E).2
  ·obtain⟨Q,r,h,_⟩:=I.cell y b E
   exact(C y b E r h).2
 refine⟨⟨i.ok.frames,M,bs,le_of_eq (hideAll_size _ _),frames_at (show s'.heap.FunFrames X.base X.stack from i.stack) λb l=>?_,i.stkFree,i.hok,i.bare⟩,
  λk=>Mz B (λt u vs s=>Oy I (λy c v e ⟨o,h,hd⟩=>⟨o,PM e (C y c e o h).1,hd⟩) (g t u) s) k⟩
 cases e:(wu X.base s'.heap X.env.cells).get? b with
 |none=>rfl|some o=>
  exfalso;rcases(Gb e).2 with ⟨o',E⟩|⟨y,E⟩
  ·have:=(I.stack.mem l).1
   rw[E]at this;cases this
  ·exact Uw I H E l
def BP (I3:Inv X pins σ H3 s3)(f3:∀b∈fp,wc X pins H3 b)(B:∀x,X.fn x=true)(hl:∀t∈ls,wb X.prog X.w X.K X.mg j q t)(s:∀t∈ls,QC X t)
  (hR:∀base PG,(∀k,ZY X.prog X.w X.K X.mg base (j+1) (PG k) (yX ls k))->zR X.prog X.w X.K X.mg base kk f 1 (Za PG RF))(hr:jR kk X.A)
  (hi:N[i]? =some x)(hv:Y3 (relabel sc X.env) x)(hg:Gl (jB X N sc s3 H3 fp yb) f)(hdx:(x==("__debug__":Str))=false:=by decide)(hcx:(x==("__classdict__":Str))=false:=by decide)(hdf:(f==("__debug__":Str))=false:=by decide)
  (he:starEach [.Name x p2] (jB X N sc s3 H3 fp yb).env=(false,eval (.Name x p2) (jB X N sc s3 H3 fp yb).env)::starEach [] (jB X N sc s3 H3 fp yb).env:=by rfl)(Y:(backTo pos (starEach [] (jB X N sc s3 H3 fp yb).env)).any (·.1)=false:=by rfl):
  PE (jB X N sc s3 H3 fp yb) (.Call (.Name f p) [.Name x p2] [] pos) (LR (λφ H=>RE X.K φ H ρ0 σ) X.K yx (QI i (kP X.env q ls) ls RF ρ0)):=by
 intro d s' L H' Q I' ⟨φ,A,ρ,S,re,M,h⟩;unfold QI at h;cases D:ρ[i]? with
 |none=>rw[D]at h;exact h.elim|some ow=>cases ow with
  |none=>rw[D]at h;exact h.elim|some w0=>
   rw[D]at h;cases w0 with
   |clo k xs P=>
    dsimp only at h
    by_cases hP:P=kP X.env q ls k
    ·rw[ah hP]at h
     subst hP;cases C:ls[k]? with
     |none=>rw[C]at h;exact h.elim|some t=>
      rw[C]at h;dsimp only at h;cases ec:wA t.idx ρ0 with
      |none=>rw[ec]at h;exact h.elim|some ws=>
       rw[ec]at h;dsimp only at h;obtain⟨v,U,a,ob,u,c,oc,uc,vs0,rfl,g1,g2,⟨t',E,gp⟩,_⟩:=re.get i _ D;rw[C]at E;cases E;obtain⟨vs,cv,rv⟩:=VI M ec;obtain⟨fa,fd,ps,F,hm,hk,hb⟩:=hR _ _ (O2 I3 f3 B hl s I').2;refine wpAny_Call_Name_kw (YH I' hg hm ?_ hdf);refine callWith_K (h₀:=X.base) I3.mod.kin hk (qc (jw (MU (X:=jB X N sc s3 H3 fp yb) hi hv hdx hcx) yj he pos d s' L H' (λg H1=>g=[.ref a]/\H1=H') I' ⟨.ref a,U,rfl,rfl⟩) λus s1 ⟨g,H1,I,r1,ev,eh⟩=>⟨I.kIn,?_⟩) he Y;subst ev;subst eh;obtain⟨e0,hL⟩:=O2 I3 f3 B hl s I;obtain⟨fa',fd',T,F',o,hk',hb'⟩:=hR _ _ hL;rw[hm]at o;cases o;have l:ZA X.K 1 (Za (QP X.env q ls σ) RF) [.ref a] H1 Q E0:=by
        refine⟨rfl,φ,A,[.clo k ws (QP X.env q ls σ k)],S,.one ⟨a,ob,u,c,oc,uc,vs,rfl,g1,g2,⟨t,C,gp,cv⟩,rv⟩,?_⟩;unfold Za;dsimp only;rw[ah rfl];exact qL h (λ_ _ z=>z) λy A2 z J H2 l2 S2=>(z J H2 l2 S2).elim
       have Z:=F'.len _ _ _ _ l;have hu:us.length=T.length:=by rw[<- r1.length];exact Z
       refine wpAny_call (codeAny_mono (F'.run X.A X.stack s1 H1 ⟨[]++us,[]⟩ us [.ref a] Q E0 hr e0 ?_ r1 l) λr s2 n=>?_)
       ·have:=hb' s1 us (show _ from I.kIn) (by rw[a8];exact hu)
        rw[a8]at this;exact this
       ·cases r with
        |error e=>exact False.elim n|ok fl=>
         cases fl with
         |ret u1=>exact I.after n|next=>exact False.elim n|brk=>exact False.elim n|cont=>exact False.elim n
    ·rw[aj hP]at h;exact h.elim
   |_=>exact h.elim
end
def JV (nl:Nat)(mi:Ei)(tw:Tg)(i:Nat)(PF:jW)(ls:List Lm)(RF:Nat->List W->Hx->R W):yn:=λρ A=>zW nl [] mi tw (zU (.bl true)) (zQ (QI i PF ls RF ρ)) ρ A
def Eu {K:Frag}{mb:cc}{Y:Addr}{sp:Sp}{S:Shared}{vs:bV}
  (KX:K.In S.heap)(y:S.heap.Ns mainGlobals mg)(c:S.heap.Ns builtinsNs mb)(T:∀x:Str,x ≠ "__name__" -> mb x=bootBuiltins x)(A:S.heap.NoLimit)(hg:S.gens=#[])
  (p:S.heap.get? a=some { cls:=.type "list",data:=.seq vs.toArray })(hi:IntsAre vs ns)(hl:ns.length<=sizeLine)(hr:jR k callerA)
  (t:S.heap.get? Pt=some (tabObj #[]))(U:K.lookup Pt=none)(M:isCodeTable S.heap Pt)(Q:BMain mg S.heap)
  (F:∀base:Heap,K.In base->base.Ns mainGlobals mg->BMain mg base->ko P w K mg base wX k Y fd [x] sp)(l:∀(s:Shared)(u:Value),BindsTo s fd ⟨[u],[]⟩ [(x,u)])
  (I:∀H:Hp,H Pt=some (.tbl #[])->Y9 K H a (ns.map V.int)->sp [.ref a] H (λv _=>v=.bl true) λ_ _ _=>False):
  codeAny (model P w) callerA (.call (.ref Y) ⟨[.ref a],[]⟩) (λr s'=>r=.ok (.ret (.bool true))/\OldK S.heap s'.heap/\s'.os=S.os/\AllBare s'.gens) S:=by
 have rv:=Kz hi;have L:=hi.length;have j:a≠Pt:=λz=>by rw[z,t]at p;cases p
 have core:∀H:Hp,H Pt=some (.tbl #[])->Y9 K H a (ns.map V.int)->yF P w H S.heap->(∀b,H b≠none->b=a∨b=Pt)->(∀u,H a=some u->K.lookup a=none/\∃o xs,u=.frz o (.lst xs))->
   codeAny (model P w) callerA (.call (.ref Y) ⟨[.ref a],[]⟩) (λr s'=>r=.ok (.ret (.bool true))/\OldK S.heap s'.heap/\s'.os=S.os/\AllBare s'.gens) S:=by
  intro H hO hS hok D hK;have base_of:∀{b:Addr}{o:Obj},S.heap.get? b=some o->H b=none->(Z1 S.heap H).get? b=some o:=λe n=>CT e n;have E:∀{b:Addr}{o:Obj}{es:Array DictEntry}{ep:Nat},S.heap.get? b=some o->o.data=.dict es ep->H b=none:=λ {b o es ep} e d=>by
   cases q:H b with
   |none=>rfl|some u=>
    rcases D b (by rw[q];simp) with z|z
    ·subst z
     rw[p]at e;cases e;have d':Data.seq vs.toArray _=Data.dict es ep:=d;cases d'
    ·subst z
     rw[t]at e;cases e;cases d
  have N:∀{b:Addr}{m:cc},S.heap.Ns b m->(Z1 S.heap H).Ns b m:=λ {b m} ⟨o,es,ep,e,d,r⟩=>⟨o,es,ep,base_of e (E e d),d,r⟩;have B:K.In (Z1 S.heap H):=λb o e=>base_of (KX b o e) (by
   cases q:H b with
   |none=>rfl|some u=>
    rcases D b (by rw[q];simp) with z|z
    ·subst z
     rw[(hK u q).1]at e;cases e
    ·subst z
     rw[U]at e;cases e)
  have X:BMain mg (Z1 S.heap H):=by
   obtain⟨bm,o,b1,b2,b3,C,b5,b6,b7⟩:=Q;refine⟨bm,o,b1,b2,b3,base_of C ?_,b5,b6,b7⟩;cases q:H bm with
   |none=>rfl|some u=>
    rcases D bm (by rw[q];simp) with z|z
    ·subst z
     rw[p]at C;cases C;exact absurd b5 (by intro q;injection q with q;exact absurd q (by decide))
    ·subst z
     rw[t]at C;cases C;cases b5
  have hM:Mod K mg (Z1 S.heap H):=⟨B,N y,⟨mb,N c,T⟩,let ⟨mc,h1,h2⟩:=A;⟨mc,N h1,h2⟩⟩
  have e0:Yb P w K mg (Z1 S.heap H) callerA [] S H:=⟨rfl,hM,λb o e=>Bw e,le_of_eq (EI _ _),trivial,λb c=>absurd (show b∈([]:bW) from c) (by simp),hok,.of_eq hg⟩
  refine codeAny_mono ((F _ B (N y) X).run callerA [] S H ⟨[.ref a],[]⟩ [.ref a] [.ref a] _ _ hr e0 (l S (.ref a)) (.cons rfl .nil) (I H hO hS)) λr s' h=>?_;cases r with
  |error e=>exact False.elim h|ok fl=>
   cases fl with
   |next=>exact False.elim h|brk=>exact False.elim h|cont=>exact False.elim h|ret u=>
    obtain⟨v,H',os,bare,un,g,r',q⟩:=h;have q':v=.bl true:=q;subst q';obtain rfl:u=Value.bool true:=r';refine⟨rfl,⟨λb o e=>?_,λb o e=>un.there b o e (by simp)⟩,os,bare⟩
    cases q:H b with
    |none=>exact .inl (un.keep b o e q (by intro z;exact absurd (show b∈([]:bW) from z) (by simp)) (by simp))|some u=>
     rcases D b (by rw[q];simp) with z|z
     ·subst z
      obtain⟨ob,xs,rfl⟩:=(hK u q).2;have i:=un.frzs _ ob _ q;obtain⟨e1,_⟩:=hok _ _ q;obtain⟨e2,_⟩:=g _ _ i;rw[e]at e1;cases e1;exact .inl e2
     ·subst z
      rw[t]at e;cases e;obtain⟨more,i⟩:=un.tbls _ _ hO;exact .inr (.inl ⟨M,rfl,#[],more,rfl,g _ _ i⟩)
 cases J:K.lookup a with
 |some o=>
  have e:=KX a o J;rw[p]at e;cases e;refine core (λb=>if b=Pt then some (.tbl #[]) else none) (ah rfl) (.inr ⟨_,vs.toArray,_,J,rfl,rfl,rfl,by rw[aB,L];exact hl,by simpa using rv⟩) (λb u z=>?_) (λb z=>?_) λu z=>?_
  ·by_cases c:b=Pt
   ·have Z:=(ah c).symm.trans z
    cases Z;rw[c];exact t
   ·have Z:=(aj c).symm.trans z
    cases Z
  ·by_cases c:b=Pt
   ·exact .inr c
   ·exact absurd (aj c) z
  ·have Z:=(aj j).symm.trans z
   cases Z
 |none=>
  refine core (λb=>if b=Pt then some (.tbl #[]) else if b=a then some (.frz { cls:=.type "list",data:=.seq vs.toArray } (.lst (ns.map V.int))) else none) (ah rfl)
   (.inl ⟨{ cls:=.type "list",data:=.seq vs.toArray },(aj j).trans (ah rfl)⟩) (λb u z=>?_) (λb z=>?_) λu z=>?_
  ·by_cases c:b=Pt
   ·have Z:=(ah c).symm.trans z
    cases Z;rw[c];exact t
   ·have Z:=(aj c).symm.trans z
    by_cases f:b=a
    ·have i:=(ah f).symm.trans Z
     cases i;subst f;exact⟨p,by rw[ag];exact hl,vs,_,rv,p⟩
    ·have i:=(aj f).symm.trans Z
     cases i
  ·by_cases c:b=Pt
   ·exact .inr c
   ·by_cases f:b=a
    ·exact .inl f
    ·exact absurd ((aj c).trans (aj f)) z
  ·have Z:=((aj j).trans (ah rfl)).symm.trans z
   cases Z;exact⟨J,_,_,rfl⟩
inductive spT (K:Frag)(n:Nat)(fs:jW->Fn)(vs:List V)(H:Hp)(Q:VK)(E:XK):Prop
 |mk (len:vs.length=n) (φ:bW) (A:Hx) (ws:List W) (S:zS K φ A H) (r:zE K φ H ws vs) (q:∀PF,(fs PF ws A).post (PB K φ H Q) (EB K φ H (XE K E)))
def spT.len {K:Frag}{fs:jW->Fn}{vs:List V}{Q:VK}{E:XK}(h:spT K n fs vs H Q E):vs.length=n:=by cases h;assumption
def Eb {K:Frag}{q:Str}(P:H Pt=some (.tbl #[]))(S:Y9 K H a (ns.map V.int)):zS K [a,Pt] [.ro (ns.map W.int),.tab q Pt] H:=by
 refine⟨rfl,λi j b o o' g f d c m1 m2=>?_,λn o h=>?_⟩
 ·match i,j,d,c with
  |0,_,d,_=>simp at d;subst d;cases m1|_,0,_,c=>simp at c;subst c;cases m2|1,1,_,_=>rfl|i+2,_,d,_=>simp at d|_,j+2,_,c=>simp at c
 ·match n,h with
  |0,h=>simp at h;subst h;exact⟨a,rfl,ns.map V.int,S,zE.ints.mpr rfl⟩|1,h=>simp at h;subst h;exact⟨Pt,rfl,rfl,#[],P,trivial,λpos cv e=>nomatch e⟩
  |n+2,h=>simp at h
section
variable {K:Frag}
def DT {a:Value}{o:cm}(hn:nsIn K mainGlobals x=some (some (.ref f)))(lk:K.lookup f=some ⟨a,o,.func fd,osl⟩)(h:tabIn K x=some (c,Pt)):fd.code=.ref c:=by
 unfold tabIn at h;rw[hn]at h;dsimp only at h;rw[lk]at h;dsimp only at h
 split at h
 ·rename_i C H
  split at h
  ·split at h
   ·cases h;exact H
   ·cases h
  ·cases h
 ·cases h
def fJ {q:Str}{st:Stmt}{ls:List Lm}{m:jW->Ex}(F:wd K x x st f fd)(hn:nsIn K mainGlobals x=some (some (.ref f)))(t:tabIn K x=some (c,Pt))(S:qX N ps (qo st))
  (a:∀(A:Around)(outer:cf)(s:Shared)(H:Hp)(E:XK),jR k (A.deeper (envOfC x (qo st) s.heap.objs.size f (.ref c)))->
   Y7 (wQ wX P w K mg base N x (qo st) f (.ref c) A outer s H E).nox yx (yH st) (m (kP (envOfC x (qo st) s.heap.objs.size f (.ref c)) q ls))):
  ko P w K mg base wX (k+1) f fd ps (spT K ps.length λPF=>qV N.length (m PF)):=by
 obtain⟨B,z,kV,doc,pm,an,C,ct,o,rfl,lk,d⟩:=F.ex;have v:C=.ref c:=DT hn lk t;subst v;refine Th lk d S (λvs H Q E h=>h.len) λA outer s H vs Q E i ⟨D,φ,A1,ws,n,r,h⟩=>⟨_,kq.nox (a A outer s H E i),?_⟩;refine⟨φ,A1,ws.map some++List.replicate (N.length-ws.length) none,n,RE.start r,?_⟩;have h':=qd.mp (h (kP (envOfC x (qo st) s.heap.objs.size f (.ref c)) q ls));show R.post _ (FB K φ H _) _;cases e:m (kP (envOfC x (qo st) s.heap.objs.size f (.ref c)) q ls) (ws.map some++List.replicate (N.length-ws.length) none) A1 with
 |ok j A2=>
  rw[e]at h';cases j with
  |rt w=>exact h'|nx ρ=>exactλb u g l p _=>h' b u .non l p rfl|bk ρ=>exact h'.elim|ct ρ=>exact h'.elim
 |exc y A2=>rw[e]at h';exact h'.elim|bad=>rw[e]at h';exact h'.elim
end
noncomputable def UT (K:Frag)(x:Str)(Pt:Addr):Bool:=match tabIn K x with
 |some (c,P)=>P==Pt&&codeHdIn K c Pt|none=>false
def P7 {K:Frag}(h:UT K x Pt=true):∃c,tabIn K x=some (c,Pt)/\codeHdIn K c Pt=true:=by
 unfold UT at h
 split at h
 ·rename_i c P e
  rw[ak,aN]at h;obtain⟨rfl,H⟩:=h;exact⟨c,e,H⟩
 ·cases h
def jX.m {K:Frag}{f:Fn}(F:jX P w K mg base k x n f):zR P w K mg base k x n λws A=>(f ws A).nox:=by
 obtain⟨i,fd,ps,F,hm,c,d⟩:=F;have up:∀vs H Q E,ZA K n (λws A=>(f ws A).nox) vs H Q E->XA K n f vs H Q (λ_ _ _=>False):=λvs H Q E ⟨l,φ,A,ws,S,r,h⟩=>⟨l,φ,A,ws,S,r,by
  cases a:f ws A with
  |ok u A1=>(try dsimp only at h);rw[a]at h;exact h|exc y A1=>(try dsimp only at h);rw[a]at h;exact h.elim|bad=>(try dsimp only at h);rw[a]at h;exact h.elim⟩
 refine⟨i,fd,ps,⟨λvs H Q E h=>F.len vs H Q _ (up vs H Q E h),λA outer s H args us vs Q E b he t v h=>?_⟩,hm,c,d⟩;refine codeAny_mono (F.run A outer s H args us vs Q _ b he t v (up vs H Q E h)) λr s' h'=>?_;cases r with
 |error e=>
  unfold CR at h';obtain⟨_,_,_,_,_,_,_,_,_,_,z⟩:=h';exact z.elim
 |ok g=>cases g<;>exact h'
theorem jX.mono {K:Frag}{f:Fn}(F:jX P w K mg base j x n f)(h:j<=k):jX P w K mg base k x n f:=by cases F with|mk d fd ps F a b c=>exact⟨d,fd,ps,F.mono h,a,b,c⟩
noncomputable abbrev Xz:bV:=[.type "ValueError",.type "Exception",.type "BaseException",.type "object"]
noncomputable abbrev Xm:String := "ValueError.__new__"
section
variable {K:Frag}{cs:bZ}{top nm:Str}
noncomputable def clsAt (K:Frag)(x:Str):Addr:=match nsIn K mainGlobals x with
 |some (some (.ref C))=>C|_=>0
def isAt (K:Frag)(x:Str):Bool:=nsIn K mainGlobals x==some (some (.ref (clsAt K x)))
def jH (cs:bZ)(x:Str):Str->Option Bool:=λnm=>if cs.contains nm then some (nm==x) else none
def T3 (cs:bZ):Str->Option Bool:=λnm=>if cs.contains nm then some true else none
def Jd (K:Frag)(cs:bZ)(x:Str):Bool:=isAt K x&&kitOne K (.type "NoneType") (.ref (clsAt K x))==some false&&cs.all λnm=>kitOne K (.ref (clsAt K nm)) (.ref (clsAt K x))==some (nm==x)
def GP (K:Frag)(top nm:Str):Bool:=isAt K nm&&K0 K (clsAt K nm)&&Mi.Zo K (clsAt K nm) Xz Xm&&J4 K (clsAt K nm) (clsAt K top)&&kitOne K (.ref (clsAt K nm)) (.type "ValueError")==some true
def UI (K:Frag)(top:Str):Bool:=isAt K top&&Mi.Zo K (clsAt K top) Xz Xm&&kitOne K (.type "NoneType") (.type "ValueError")==some false
def Ub (h:isAt K x=true):kI K x (.ref (clsAt K x)):=aN.mp h
def VU {C:Addr}(h:kI K x (.ref C)):C=clsAt K x:=by
 unfold clsAt;unfold kI at h;rw[h]
structure VZ (K:Frag)(top nm:Str):Prop where
 at_:kI K nm (.ref (clsAt K nm))
 kit:K0 K (clsAt K nm)=true
 exc:Mi.Zo K (clsAt K nm) Xz Xm=true
 up:J4 K (clsAt K nm) (clsAt K top)=true
 val:kitOne K (.ref (clsAt K nm)) (.type "ValueError")=some true
def fK (h:GP K top nm=true):VZ K top nm:=by
 unfold GP at h;simp only[ak,aN]at h;obtain⟨⟨⟨⟨d,c⟩,b⟩,a⟩,H⟩:=h;exact⟨Ub d,c,b,a,H⟩
structure gu (K:Frag)(cs:bZ)(top:Str):Prop where
 exc:∀nm,cs.contains nm=true->VZ K top nm
 top_at:kI K top (.ref (clsAt K top))
 top_exc:Mi.Zo K (clsAt K top) Xz Xm=true
 non:kitOne K (.type "NoneType") (.type "ValueError")=some false
def fL (h:cs.all (GP K top ·)=true)(t:UI K top=true):gu K cs top:=by
 unfold UI at t;simp only[ak,aN]at t;obtain⟨⟨t1,T⟩,t3⟩:=t;exact⟨λnm e=>fK (cB.mp h nm (List.contains_iff_mem.mp e)),Ub t1,T,t3⟩
def gu.isx (c:gu K cs top)(h:Jd K cs x=true):Wb K (jH cs x) (.ref (clsAt K x)):=by
 unfold Jd at h;simp only[ak,aN]at h;obtain⟨⟨f,d⟩,a⟩:=h;refine⟨d,λnm C b e H=>?_⟩;unfold jH at e
 by_cases hm:cs.contains nm=true
 ·rw[ah hm]at e
  cases e;cases VU H;exact⟨(c.exc nm hm).kit,aN.mp (cB.mp a nm (List.contains_iff_mem.mp hm))⟩
 ·rw[aj hm]at e;cases e
def wL (h:Jd K cs x=true):kI K x (.ref (clsAt K x)):=by
 unfold Jd at h;simp only[ak,aN]at h;exact Ub h.1.1
def gu.isv (c:gu K cs top):Wb K (T3 cs) (.type "ValueError"):=by
 refine⟨c.non,λnm C b e h=>?_⟩;unfold T3 at e
 by_cases hm:cs.contains nm=true
 ·rw[ah hm]at e
  cases e;cases VU h;exact⟨(c.exc nm hm).kit,(c.exc nm hm).val⟩
 ·rw[aj hm]at e;cases e
def gu.under (c:gu K cs top):∀nm,cs.contains nm=true->∀C,kI K nm (.ref C)->∃b n,Mi.Zo K C b n=true/\J4 K C (clsAt K top)=true:=λnm hm C h=>by
 cases VU h;exact⟨_,_,(c.exc nm hm).exc,(c.exc nm hm).up⟩
end
noncomputable def G3 (M:bZ)(sc:Scope)(t:Lm):Bool:=t.idx.length==t.N.length&&((List.range t.N.length).all λi=>match t.N[i]?,t.idx[i]? with
 |some x,some j=>M[j]?==some x&&t.scope.names.lookup x==some .free|_,_=>false)&&t.scope.names.all λy=>!(y.2==.free) || (sc.names.lookup y.1==some .cell || sc.names.lookup y.1==some .free)
def NO {t:Lm}(h:G3 X.N X.env.scope t=true):QC X t:=by
 unfold G3 at h;rw[ak,ak]at h;obtain⟨⟨c,b⟩,a⟩:=h;refine⟨aN.mp c,λi x j E d=>?_,λy H e=>?_⟩
 ·have hi:i<t.N.length:=(cx.mp E).1
  have q:=cB.mp b i (cz.mpr hi);rw[E,d]at q;dsimp only at q;rw[ak]at q;exact⟨aN.mp q.1,aN.mp q.2⟩
 ·have q:=cB.mp a y H
  rw[e]at q;rw[bD,bD]at q;rcases q with q|q|q
  ·cases q
  ·exact .inl (aN.mp q)
  ·exact .inr (aN.mp q)
def all_nil {p:α->Prop}:∀t∈([]:List α),p t:=λ_ h=>nomatch h
def all_cons {p:α->Prop}{a:α}{l:List α}(h:p a)(r:∀t∈l,p t):∀t∈a::l,p t:=λt H=>by
 rcases cw.mp H with e|e
 ·rw[e];exact h
 ·exact r t e
def fM {q:Str}{ls:List Lm}{t:Lm}(H:ls[k]? =some t):kP env q ls k=Xd q t.params t.body t.scope (kZ env t.scope.names []):=by
 funext ob c o vs
 refine propext ⟨λ⟨t',e,h⟩=>?_,λh=>⟨t,H,h⟩⟩;rw[H]at e;cases e;exact h
noncomputable def gC:Stmt:=.Pass ⟨0,0,0,0⟩
noncomputable def Jm:Expr:=.Constant .none 0 ⟨0,0,0,0⟩
def Lp (s:Stmt)(i:Nat):Stmt:=match s with
 |.For _ _ b _ _=>b.getD i gC|.If _ b _ _=>b.getD i gC|.While _ b _ _=>b.getD i gC|_=>gC
def J8 (s:Stmt):Expr:=match s with
 |.Assign _ v _=>v|.Expr v _=>v|.Return (some v) _=>v|_=>Jm
def QD (e:Expr)(i:Nat):Expr:=match e with
 |.Call _ a _ _=>a.getD i Jm|.List E _=>E.getD i Jm|.Tuple E _ _=>E.getD i Jm|.BinOp a _ b _=>if i=0 then a else b|_=>Jm
noncomputable def fN (e:Expr):Arguments:=match e with
 |.Lambda a _ _ _=>a|_=>{ posonlyargs:=[],args:=[],vararg:=none,kwonlyargs:=[],kw_defaults:=[],kwarg:=none,defaults:=[] }
def fO (e:Expr):Expr:=match e with
 |.Lambda _ b _ _=>b|_=>Jm
noncomputable def fP (e:Expr):Scope:=match e with
 |.Lambda _ _ s _=>s|_=>{ kind:=.function,names:=[],isGenerator:=false,isCoroutine:=false }
def QE (e:Expr)(N:bZ)(idx:bY)(m:Ev):Lm:=⟨N,idx,fN e,fO e,fP e,m⟩
def fQ {K:Frag}{st:Stmt}(F:wd K x x st f fd)(hm:mg x=some (.ref f))
  (b:∀(kV doc pm:Value)(an:cm)(c ct:Value)(us:bV),us.length=ps.length->bindArgs (fnOf x x (Qn st) (yH st) (qo st) .none kV doc pm an c ct) ⟨us,[]⟩=pure (ps.zip us)):zR P w K mg base k x ps.length (λ_ _=>.bad):=
 ⟨f,fd,ps,⟨λvs H Q E h=>h.1,λA outer s H args us vs Q E _ _ _ _ h=>by obtain⟨_,_,_,_,_,_,z⟩:=h;exact z.elim⟩,hm,F.kp,F.binds b⟩
def Bz {K:Frag}(t a b:Ty):kitAny K (.type t.nm) [.type a.nm,.type b.nm]=some (kM t a || kM t b):=by
 unfold kitAny;rw[Gs];cases kM t a with
 |true=>rfl|false=>
  dsimp only;unfold kitAny;rw[Gs];cases kM t b<;>rfl
section
variable {a b:Expr}{m ma mb:Ev}
def Yg.kitx {x:V}{t:Ty}(I:Inv X pins σ H s)(r:RelV x u)(h:Yg X.K H x t):∃d:Heap->Prop,PySem.W.KitX X.K u (.type t.nm) d/\d s.heap/\u≠.builtin "__main__.__loader__#opaque":=by
 rcases h with h|⟨a,xs,rfl,h,rfl⟩
 ·generalize f:Value.type t.nm=T at h
  cases h with
  |non=>cases (show u=Value.none from r);exact⟨_,kitx_none,True.intro,λz=>nomatch z⟩
  |bl y=>cases (show u=Value.bool y from r);exact⟨_,kitx_bool,True.intro,λz=>nomatch z⟩
  |int i=>obtain⟨t,q⟩:=(show ∃t,u=Value.int i t from r);cases q;exact⟨_,kitx_int,True.intro,λz=>nomatch z⟩
  |str y=>obtain⟨t,q⟩:=(show ∃t,u=Value.str y t from r);cases q;exact⟨_,kitx_str,True.intro,λz=>nomatch z⟩
  |flt y=>obtain⟨t,q⟩:=(show ∃t,u=Value.float y t from r);cases q;exact⟨_,kitx_float,True.intro,λz=>nomatch z⟩
  |@lst a xs ea=>
   cases (show u=Value.ref a from r)
   obtain⟨_,_,n,_,b⟩:=(show jF X.prog X.w H s.heap a (.lst xs) from I.hok a _ ea)
   exact⟨_,kitx_list,⟨_,b,rfl⟩,λz=>nomatch z⟩
  |@frz a ob xs ea=>
   cases (show u=Value.ref a from r)
   obtain⟨_,_,_,n,_,b⟩:=(show jF X.prog X.w H s.heap a (.frz ob (.lst xs)) from I.hok a _ ea)
   exact⟨_,kitx_list,⟨_,b,rfl⟩,λz=>nomatch z⟩
  |@tup a xs ea=>
   cases (show u=Value.ref a from r)
   obtain⟨_,_,_,p⟩:=(show jF X.prog X.w H s.heap a (.tup xs) from I.hok a _ ea)
   obtain⟨o,b,c,_⟩:=p;exact⟨_,kitx_tuple,⟨o,b,c.1⟩,λz=>nomatch z⟩
  |@dK a k ea=>
   cases (show u=Value.ref a from r)
   obtain⟨_,_,_,_,o,_,_,b,c,_⟩:=(show jF X.prog X.w H s.heap a (.dK k) from I.hok a _ ea)
   exact⟨_,kitx_dict,⟨o,b,c.1⟩,λz=>nomatch z⟩
  |@dT a k ea=>
   cases (show u=Value.ref a from r)
   obtain⟨_,_,_,_,o,_,_,b,c,_⟩:=(show jF X.prog X.w H s.heap a (.dT k) from I.hok a _ ea)
   exact⟨_,kitx_dict,⟨o,b,c.1⟩,λz=>nomatch z⟩
  |ins=>cases f
 ·cases (show u=Value.ref a from r)
  obtain⟨e,_,⟨o,b,c,_⟩,_⟩:=I.tuple h;exact⟨_,kitx_tuple,⟨o,b,c⟩,λz=>nomatch z⟩
def fR (K:Frag)(a b:Ty):List V->Hp->VK->Prop:=λxs H Q=>∃x t l,xs=[x,.ref l]/\qQ K H l [.ty (Ty.nm a),.ty (Ty.nm b)]/\Yg K H x t/\Q (.bl (kM t a || kM t b)) H
def D4 {a b:Ty}:yv X (.builtin "isinstance") (fR X.K a b):=by
 intro pins s σ H xs us Q I r h;obtain⟨x,t,l,rfl,y,w,q⟩:=h;obtain⟨u,e,rfl,f,c⟩:=vals2 r;cases (show e=Value.ref l from c)
 obtain⟨p,v,⟨o,C,B,k,A⟩,_⟩:=I.tuple y;obtain⟨d,U,rfl,i,g⟩:=vals2 v;cases (show d=Value.type a.nm from i)
 cases (show U=Value.type b.nm from g)
 obtain⟨J,Z,z,ne⟩:=w.kitx I f;obtain⟨n,E,j,D⟩:=o;cases (show n=_ from B)
 cases (show j=_ from A)
 exact PySem.W.kia_tup Z I.kIn z C (Bz t a b) ne λtk=>⟨.bl (kM t a || kM t b),H,I.tok tk,rfl,q⟩
def Xb (t T:Ty)(m:Ev):Ev:=λρ A=>(m ρ A).bind λw A1=>match jP w A1 with
 |some t'=>.ok (.bl (kM t' t || kM t' T)) A1
 |none=>.bad
noncomputable def Jq (m:Ev)(tw:Tg):Ex:=λρ A=>(m ρ A).bind λw A1=>match tw w ρ with
 |some a=>.ok (.nx a) A1|none=>.bad
noncomputable def Wg (i j:Nat)(ma mb:Ev):Ex:=λρ A=>(ma ρ A).bind λx A1=>(mb ρ A1).bind λy A2=>.ok (.nx ((ρ.set i (some x)).set j (some y))) A2
end
noncomputable def G5 (PG:jW):W->W
 |.clo k ws _=>.clo k ws (PG k)|w=>w
open Classical in
def Wq (ls:List Lm)(PF:jW)(ρ:En):W->Option W
 |.clo k [] P=>if P=PF k then(match ls[k]? with
  |some t=>(wA t.idx ρ).map λws=>.clo k ws P|none=>none) else none
 |.clo _ _ _=>none|w=>some w
def ZX (ls:List Lm)(PF:jW)(ρ:En):List W->Option (List W)
 |[]=>some []|w::r=>match Wq ls PF ρ w,ZX ls PF ρ r with
  |some u,some us=>some (u::us)|_,_=>none
def Jg (ls:List Lm)(PF:jW)(f:Fn)(a:Ea):Ev:=λρ A=>(a ρ A).bind λws A1=>match ZX ls PF ρ ws with
 |some us=>f us A1|none=>.bad
section
variable {ls:List Lm}{q:Str}
def OE (I:Inv X pins σ H s)(n:∀x,X.fn x=true)(l:∀t∈ls,wb X.prog X.w X.K X.mg j q t)(c:∀t∈ls,QC X t):
  Yb X.prog X.w X.K X.mg (wu X.base s.heap X.env.cells) X.A X.stack s H/\∀k,ZY X.prog X.w X.K X.mg (wu X.base s.heap X.env.cells) (j+1) (QP X.env q ls σ k) (yX ls k):=by
 have a:∀b o,X.base.get? b=some o->(wu X.base s.heap X.env.cells).get? b=some o:=λb o e=>Pz I.bk e;have M:Mod X.K X.mg (wu X.base s.heap X.env.cells):=by
  obtain⟨mb,p,B⟩:=I.mod.blt;exact⟨I.mod.kin.keeps a,I.mod.glob.keeps a,⟨mb,p.keeps a,B⟩,I.mod.nolimit.keeps a⟩
 have bs:∀b o,(wu X.base s.heap X.env.cells).get? b=some o->s.heap.get? b=some o/\H b=none:=λb o e=>by
  obtain⟨i,E⟩:=Gb e;refine⟨i,?_⟩;rcases E with ⟨o',E⟩|⟨y,E⟩
  ·exact(I.bs b o' E).2
  ·exact I.freeC y b E
 refine⟨⟨I.ok.frames,M,bs,le_of_eq (hideAll_size _ _),frames_at I.stack λb d=>?_,I.stkFree,I.hok,I.bare⟩,
  λk=>Mz l (λt f vs h=>Oy I (λy C v e ⟨o,g,hd⟩=>⟨o,PM e g,hd⟩) (c t f) h) k⟩
 cases e:(wu X.base s.heap X.env.cells).get? b with
 |none=>rfl|some o=>
  exfalso;rcases(Gb e).2 with ⟨o',E⟩|⟨y,E⟩
  ·have:=(I.stack.mem d).1
   rw[E]at this;cases this
  ·exact Uw I n E d
theorem Pp {K:Frag}(re:RE K φ H ρ σ):∀{ws us:List W}{vs:List V},ZX ls (kP env q ls) ρ ws=some us->zE K φ H ws vs->zE K φ H (us.map (G5 (QP env q ls σ))) vs
 |[],us,vs,e,r=>by cases e;exact r|w::r,us,vs,e,⟨v,A,ev,j,y⟩=>by
  subst ev;unfold ZX at e;cases E:Wq ls (kP env q ls) ρ w with
  |none=>rw[E]at e;cases e|some u=>
   cases i:ZX ls (kP env q ls) ρ r with
   |none=>rw[E,i]at e;cases e|some U=>
    rw[E,i]at e;cases e;rw[aW];refine .cons ?_ (Pp re i y);cases w with
    |clo k xs P=>
     cases xs with
     |cons x xs=>unfold Wq at E;cases E|nil=>
      unfold Wq at E;dsimp only at E
      by_cases h:P=kP env q ls k
      ·rw[ah h]at E
       subst h;cases d:ls[k]? with
       |none=>rw[d]at E;cases E|some t=>
        rw[d]at E;dsimp only at E;cases g:wA t.idx ρ with
        |none=>rw[g]at E;cases E|some l=>
         rw[g]at E;cases E;obtain⟨a,ob,o,c,s,uc,n,rfl,g1,g2,⟨t',b,z⟩,_⟩:=j;rw[d]at b;cases b;obtain⟨f,cv,p⟩:=VI re g;exact⟨a,ob,o,c,s,uc,f,rfl,g1,g2,⟨t,d,z,cv⟩,p⟩
      ·rw[aj h]at E;cases E
    |_=>cases E;exact j
end
section
noncomputable abbrev yL (led:Bool):Obj:={ cls:=.type "set",dict:=none,data:=.set #[] 0 (.fresh 0 0 led) }
end
def intsAre_of:∀{ns:bU}{i:bV},Vals (ns.map V.int) i->IntsAre i ns:=by
 intro ns
 induction ns with
 |nil=>intro i h;cases h;exact .nil|cons n ns I=>
  intro i h;cases h with
  |cons r t=>obtain⟨tk,rfl⟩:=r;exact .cons n tk (I t)
def Lr (s:Stmt):Expr:=match s with
 |.If t _ _ _=>t|_=>Jm
section
open PySem.SeqAt
open PySem.AutoSeq1 (wpAny_loadPart')
open PySem.MeetsSeq PySem.MeetsSeq2 PySem.MeetsSeq3
end
section
variable {K:Frag}
def Ci {w:W}{ds:List PyData}(h:qm A 8 w=some (.list ds)):PyData.canLayAll0 ds=true/\PyData.depthAll ds<=8:=by
 obtain⟨H,a⟩:=VL 8 w _ h;simp only[PyData.canLay0,PyData.depth]at H a;exact⟨H,by omega⟩
def zdU:W->W->Hx->R W:=λx y A=>match qm A 8 x,qm A 8 y with
 |some d,some (.list ds)=>.ok (.bl (ds.any λz=>PyData.eqv z d)) A|_,_=>.bad
noncomputable def Z0 (p:PyData->Bool):List PyData->Option Nat
 |[]=>none|d::ds=>if p d then some 0 else(Z0 p ds).map (· + 1)
theorem OQ {p:PyData->Bool}:∀{ds:List PyData}{j:Nat},Z0 p ds=some j->∃h:j<ds.length,p ds[j]=true/\∀m (hm:m<ds.length),m<j->p ds[m]=false
 |[],_,e=>by cases e|d::ds,j,e=>by
  unfold Z0 at e
  by_cases hd:p d=true
  ·rw[ah hd]at e
   cases e;exact⟨Nat.zero_lt_succ _,hd,λm _ z=>absurd z (Nat.not_lt_zero _)⟩
  ·rw[aj hd]at e
   cases E:Z0 p ds with
   |none=>rw[E]at e;cases e|some J=>
    rw[E]at e;cases e;obtain⟨b,a,H⟩:=OQ E;refine⟨Nat.succ_lt_succ b,a,λm hm z=>?_⟩;cases m with
    |zero=>exact Bool.eq_false_iff.mpr hd|succ m=>exact H m (Nat.lt_of_succ_lt_succ hm) (Nat.lt_of_succ_lt_succ z)
def Ah (K:Frag):V->List V->Hp->VK->Prop:=λx vs H Q=>∃φ A u v y d ds j,vs=[y]/\zS K φ A H/\RV K φ H u x/\RV K φ H v y/\qm A 8 u=some (.list ds)/\qm A 8 v=some d/\Z0 (λz=>PyData.eqv z d) ds=some j/\j<1000000/\Q (.int j) H
def Dh (M:X.A.units+64<cLine):T8 X "list.index" (Ah X.K):=by
 intro pins s σ H x vs v us Q I r i h;obtain⟨φ,A,f,w,y,d,ds,j,rfl,S,t,p,a,E,J,N,q⟩:=h;obtain⟨u,rfl,k⟩:=i.one;obtain⟨as,C⟩:=YF I S 8 f x v _ t r a;obtain⟨bs,B⟩:=YF I S 8 w y u d p k E;obtain⟨g1,g2⟩:=VL 8 w d E;obtain⟨g3,P⟩:=Ci a;obtain⟨f1,f2,D⟩:=OQ J;cases C with
 |list a1 a2 c b=>
  rename_i l o items n L
  obtain⟨cls,dd,data,g⟩:=o;simp only at a2 c;subst a2 c;have hm:=SeqAt.readsAll_map _ _ _ g3 b;have hlen:items.size=ds.length:=by rw[<- hm];simp
  have at_:∀m (h:m<items.size) (h':m<ds.length),SeqAt.readOf s.heap items[m]=ds[m]:=λm h h'=>by
   have e:(items.toList.map (SeqAt.readOf s.heap))[m]? =ds[m]?:=by rw[hm]
   rw[ax,aa h',bE,Array.getElem?_eq_getElem h]at e;exact aC e
  refine call_meets F.slot_list_index ⟨_,a1,rfl⟩ F.entry_list_index (F.args_list_index_2 _ _)
   (SeqAt.list_indexAt l items n dd g u (λz=>PyData.eqv (SeqAt.readOf s.heap z) d) j (by omega) (by omega) (by rw[at_ j (by omega) f1];exact f2) (λm h z=>by rw[at_ m h (by omega)];exact D m (by omega) z)) ⟨a1,SeqAt.items_eqAt b B g3 g1 (by omega),?_⟩
  exact⟨.int j,H,I.tok _,⟨_,rfl⟩,q⟩
def ZP:W->W->Hx->R W:=λx y A=>match qm A 8 x,qm A 8 y with
 |some (.list ds),some d=>(match Z0 (λz=>PyData.eqv z d) ds with
  |some j=>if j<1000000 then .ok (.int j) A else .bad|none=>.bad)
 |_,_=>.bad
def DD:∀x y A,jh (ZP x y A):=λx y A=>by
 unfold ZP
 split
 ·split
  ·exact Qu yR jx
  ·exact jx
 ·exact jx
end
end Mi
variable {ls:List Mi.Lm}
namespace Mi
open PySem
noncomputable def qk (n:Nat):bY:=(List.range 8).filter λi=>n.testBit i
def jq (led:Bool)(n:Nat):SetTable:=if (qk n).length<5 then⟨7,(qk n).toArray,#[],0,led,0,true⟩ else⟨31,(qk n).toArray,#[],0,led,1,true⟩
noncomputable def jM (n v:Nat):Nat:=n ||| (1 <<< v)
def Zr (n v:Nat):Nat:=((qk n).filter λi=>decide (i<v)).length
def wz (led:Bool)(n v:Nat):SetTable:={ jq led n with place:=(qk (jM n v)).toArray }
def G1 (led:Bool)(n v:Nat):Bool:=n.testBit v || (((jq led n).freeSlot (v:Int)==some (v,false))&&((jq led n).put v==(wz led n v,Zr n v))&&(qk (jM n v)==(qk n).take (Zr n v)++v::(qk n).drop (Zr n v))&&
 (wz led n v).fits (qk (jM n v)).length&&((wz led n v).tooFull==((qk (jM n v)).length==5))&&
 (if (qk (jM n v)).length==5 then(wz led n v).relaid ((qk (jM n v)).map λ(i:Nat)=>(i:Int)).toArray 20==some (jq led (jM n v),#[0,1,2,3,4]) else jq led (jM n v)==wz led n v)&&
 (jq led (jM n v)).fits (qk (jM n v)).length&&decide (jM n v<256))
def AX:((List.range 256).all λn=>(List.range 8).all λv=>G1 true n v&&G1 false n v)=true:=by decide +kernel
open PySem PySem.Spec PyProof.Rows
inductive jI:List (Int×Value)->List Nat->Prop
 |nil:jI [] []
 |cons {es:List (Int×Value)} {vs:bY} (v:Nat) (tk:Tok) (h:jI es vs):jI (((v:Int),.int (v:Int) tk)::es) (v::vs)
theorem jI.length (h:jI es vs):es.length=vs.length:=by
 induction h with
 |nil=>rfl|cons v tk h i=>simp[i]
def jI.map1 (h:jI es vs):es.map (·.1)=vs.map λ(i:Nat)=>(i:Int):=by
 induction h with
 |nil=>rfl|cons v tk h I=>simp[I]
theorem jI.take (h:jI es vs):∀k,jI (es.take k) (vs.take k):=by
 induction h with
 |nil=>intro k;simp;exact .nil|cons v tk h i=>
  intro k;cases k with
  |zero=>exact .nil|succ k=>exact .cons v tk (i k)
theorem jI.drop (h:jI es vs):∀k,jI (es.drop k) (vs.drop k):=by
 induction h with
 |nil=>intro k;simp;exact .nil|cons v tk h i=>
  intro k;cases k with
  |zero=>exact .cons v tk h|succ k=>exact i k
def jI.app {es':List (Int×Value)}{a:bY}(h:jI es vs)(h':jI es' a):jI (es++es') (vs++a):=by
 induction h with
 |nil=>exact h'|cons v tk h i=>exact .cons v tk i
def PD:∀v,v<8->hashInt ((v:Nat):Int)=(v:Int):=by decide
section
variable {prog:Program}
def jI.elems (h:jI es vs)(H:∀v∈vs,v<8):ElemsOf (intKind prog w) es:=by
 induction h with
 |nil=>intro e he;cases he|cons v tk h i=>
  intro e he;rcases cw.mp he with rfl|he
  ·exact⟨⟨(v:Int),intKind_is _ _ _ _,(PD v (H v (au ..))).symm⟩,rfl⟩
  ·exact i (λu a=>H u (aq _ a)) e he
def jI.find (h:jI es vs)(v:Nat):(es.findIdx? λe=>(intKind prog w).is (v:Int) e.2)=vs.findIdx? λu=>decide (u=v):=by
 induction h with
 |nil=>rfl|cons u tk h i=>
  rw[List.findIdx?_cons,List.findIdx?_cons,i]
  have:(intKind prog w).is (v:Int) (Value.int (u:Int) tk)=decide (u=v):=by
   show Value.isInt (v:Int) (Value.int (u:Int) tk)=_;unfold Value.isInt;rw[Bool.eq_iff_iff];simp;omega
  rw[this]
end
def U1 {v:Nat}:v∈qk n↔v<8/\n.testBit v=true:=by
 unfold qk;rw[bJ,mem_range]
def ym (h:Heap)(a:Addr)(led:Bool)(n:Nat):Prop:=∃o e E,h.get? a=some o/\o.ExactSet/\o.data=.set e E (jq led n)/\jI e.toList (qk n)/\n<256
def ym.keep {h':Heap}(x:ym h a led n)(k:∀o,h.get? a=some o->h'.get? a=some o):ym h' a led n:=
 let ⟨o,es,ep,H,r⟩:=x;⟨o,es,ep,k o H,r⟩
def DK {v:Nat}(hn:n<256)(H:v<8)(led:Bool):G1 led n v=true:=by
 have h:=cB.mp (cB.mp AX n (cz.mpr hn)) v (cz.mpr H);rw[ak]at h;cases led
 ·exact h.2
 ·exact h.1
def Cg:((List.range 256).all λn=>(jq true n).fits (qk n).length&&(jq false n).fits (qk n).length)=true:=by decide +kernel
def VM (led:Bool)(n:Nat):(jq led n).plain=true:=by unfold jq;split<;>rfl
def Bd (led:Bool)(n:Nat):(jq led n).led=led:=by unfold jq;split<;>rfl
def Om (led:Bool)(n:Nat):(jq led n).place=(qk n).toArray:=by unfold jq;split<;>rfl
def fits_of (hn:n<256)(led:Bool):(jq led n).fits (qk n).length=true:=by
 have h:=cB.mp Cg n (cz.mpr hn);rw[ak]at h;cases led
 ·exact h.2
 ·exact h.1
def YQ (n:Nat):(qk n).length<=8:=by
 unfold qk;exact bb (bB _ _) (by simp)
structure Xh (led:Bool)(n v:Nat):Prop where
 free:(jq led n).freeSlot (v:Int)=some (v,false)
 put:(jq led n).put v=(wz led n v,Zr n v)
 vs:qk (jM n v)=(qk n).take (Zr n v)++v::(qk n).drop (Zr n v)
 fits:(wz led n v).fits (qk (jM n v)).length=true
 full:(wz led n v).tooFull=((qk (jM n v)).length==5)
 TJ:(qk (jM n v)).length=5->(wz led n v).relaid ((qk (jM n v)).map λ(i:Nat)=>(i:Int)).toArray 20=some (jq led (jM n v),#[0,1,2,3,4])
 less:(qk (jM n v)).length≠5->jq led (jM n v)=wz led n v
 lt:jM n v<256
def Dd {v:Nat}(hn:n<256)(a:v<8)(led:Bool)(b:n.testBit v=false):Xh led n v:=by
 have h:=DK hn a led;unfold G1 at h;rw[b,Bool.false_or]at h;simp only[ak,aN,ai]at h;obtain⟨⟨⟨⟨⟨⟨⟨j,i⟩,g⟩,f⟩,d⟩,H⟩,k⟩,c⟩:=h;refine⟨j,i,g,f,d,λe=>?_,λe=>?_,c⟩
 ·rw[ah e]at H;exact of_decide_eq_true (by simpa using H)
 ·rw[aj e]at H;simpa using H
def jV (n v:Nat):Nat:=if n.testBit v then n else jM n v
section
variable {prog:Program}{A:Around}
def DI {e:Array (Int×Value)}{v:Nat}{x:Value}(f:Xh led n v)(he:jI e.toList (qk n)):layNew (jq led n) e (v:Int) x=(SetTable.insertAt e (Zr n v) ((v:Int),x),wz led n v,false,false):=by
 have h:(SetTable.insertAt e (Zr n v) ((v:Int),x)).size=(qk (jM n v)).length:=by
  rw[<- aR,SetTable.toList_insertAt,f.vs,aw,aw,bj,bj,bc,bc,bL,bL,he.length]
 unfold layNew;rw[f.free];dsimp only;rw[f.put];dsimp only;rw[h];unfold SetTable.orStandIn;rw[ah f.fits,f.fits]
 rfl
def Aq {E:Array (Int×Value)}{v:Nat}(f:Xh led n v)(g:(qk (jM n v)).length=5)(he:jI E.toList (qk (jM n v))):relayAll (wz led n v) E 20=(E,jq led (jM n v),false):=by
 have hm:E.map (·.1)=((qk (jM n v)).map λ(i:Nat)=>(i:Int)).toArray:=by
  apply Array.toList_inj.mp
  rw[Array.toList_map,he.map1]
 have h:E.size=5:=by rw[<- aR,he.length,g]
 have H:(#[0,1,2,3,4]:Array Nat).filterMap (E[·]?)=E:=by
  apply Array.toList_inj.mp
  rw[Array.toList_filterMap];have h0:E.toList.length=5:=by rw[aR];exact h
  have j:∀i,E[i]? =E.toList[i]?:=λi=>by rw[bE]
  simp only[j];generalize E.toList=l at h0;obtain⟨a,b,c,d,e,rfl⟩:∃a b c d e,l=[a,b,c,d,e]:=by
   match l,h0 with
   |[a,b,c,d,e],_=>exact⟨a,b,c,d,e,rfl⟩
  rfl
 unfold relayAll;rw[hm,f.TJ g];dsimp only;rw[H];have k:coversAll #[0,1,2,3,4] E.size=true:=by rw[h];decide +kernel
 have hf:(jq led (jM n v)).fits E.size=true:=by rw[h,<- g];exact fits_of f.lt led
 rw[k,hf]
 rfl
def jI.insert {e:Array (Int×Value)}{v:Nat}{tk:Tok}(f:Xh led n v)(he:jI e.toList (qk n)):jI (SetTable.insertAt e (Zr n v) ((v:Int),.int (v:Int) tk)).toList (qk (jM n v)):=by
 rw[SetTable.toList_insertAt,f.vs];exact(he.take _).app (.cons v tk (he.drop _))
def PK {o:Obj}{E es':Array (Int×Value)}{e:Nat}{t:SetTable}{t':SetTable}(H:h.get? a=some o)(hd:o.data=.set E e t):(h.update a (Obj.putSet es' t')).get? a=some { o with data:=.set es' (e+1) t' }:=by
 have:=ba (Obj.putSet es' t') H (by rw[putSet_of es' t' hd];rfl)
 rw[putSet_of es' t' hd]at this;exact this
def F1 {v:Nat}{tk:Tok}{Q:Bool->Shared->Prop}(T:ym s.heap a led n)(y:v<8)
  (h:∀h' b,Heap.SameBut a s.heap h'->ym h' a led (jV n v)->Q b { s with heap:=h' }):
  wpAny (model prog w) A (setAddHashed a (.int (v:Int) tk) ((intKind prog w).hash (v:Int))) Q E s:=by
 obtain⟨o,l,D,q,hex,hd,he,hn⟩:=T;have hlen:l.size=(qk n).length:=by rw[<- aR,he.length]
 have hf:(jq led n).fits l.size=true:=by rw[hlen];exact fits_of hn led
 have r:ElemsOf (intKind prog w) l.toList:=he.elems λu J=>(U1.mp J).1;have k:l.size<scanBound:=by rw[hlen];have:=YQ n;unfold scanBound;omega
 unfold setAddHashed setAddHashedIn;refine wpAny_holding (cq (wpAny_setState_of q hd hf ?_));dsimp only;rw[byScan_of (x:=.int (v:Int) tk) rfl k r];simp only[↓reduceIte];unfold setAddByScan;refine cq ?_;refine cq (wpAny_rule ?_);refine cq (wpAny_setScan_of (knd:=intKind prog w) (intKind_is _ _ _ _) q hd hf r ?_);rw[he.find];cases I:(qk n).findIdx? λu=>decide (u=v) with
 |some j=>
  dsimp only;have k:n.testBit v=true:=by
   obtain⟨N,B,_⟩:=List.findIdx?_eq_some_iff_getElem.mp I
   have:=of_decide_eq_true B
   exact(U1.mp (this ▸ aM N)).2
  refine cu (cu ?_);have e:s={ s with heap:=s.heap }:=by cases s;rfl
  rw[e];refine h s.heap false (Heap.SameBut.refl a s.heap) ?_;unfold jV;rw[ah k];exact⟨o,l,D,q,hex,hd,he,hn⟩
 |none=>
  dsimp only;have k:n.testBit v=false:=by
   cases M:n.testBit v with
   |false=>rfl|true=>
    have:=List.findIdx?_eq_none_iff.mp I v (U1.mpr ⟨y,M⟩)
    simp at this
  have f:=Dd hn y led k;have P:(intKind prog w).hash (v:Int)=(v:Int):=PD v y;rw[P];rw[DI f he];have H:=he.insert (tk:=tk) f;have i:(SetTable.insertAt l (Zr n v) ((v:Int),Value.int (v:Int) tk)).size=(qk (jM n v)).length:=by rw[<- aR,H.length]
  generalize SetTable.insertAt l (Zr n v) ((v:Int),Value.int (v:Int) tk)=c at H i;dsimp only;refine cq (cu ?_);have L:(wz led n v).plain=true:=by unfold wz;exact VM led n
  rw[L];simp only[↓reduceIte];refine cq ?_;rw[hashByValue_scannable 8 (x:=.int (v:Int) tk) rfl];refine cu ?_;have z:plainKind (.int (v:Int) tk)=true:=rfl;rw[z];simp only[↓reduceIte];have p:c.size<=sizeLine:=by rw[i,sizeLine_eq];have:=YQ (jM n v);omega
  refine cq (wpAny_storeSet_of q hd ?_ p);have g:=PK (es':=c) (t':=wz led n v) q hd;have d:=Heap.SameBut.update s.heap a (Obj.putSet c (wz led n v));rw[f.full]
  by_cases t:(qk (jM n v)).length=5
  ·have S:SetTable.grown c.size=20:=by rw[i,t];rfl
   rw[S,Aq f t H,t];simp only[Bool.not_false,Bool.true_and,bt,↓reduceIte];refine cq (cu ?_);refine cq (wpAny_storeSet_of g rfl ?_ p);refine cu ?_;dsimp only;refine cu ?_;have C:=PK (es':=c) (t':=jq led (jM n v)) g rfl;refine h _ true (d.trans (Heap.SameBut.update _ a _)) ?_;unfold jV;rw[k];exact⟨_,c,D+1+1,C,hex,rfl,H,f.lt⟩
  ·have K:((qk (jM n v)).length==5)=false:=by simpa using t
   rw[K];simp only[Bool.not_false,Bool.and_false,a9,↓reduceIte];refine cu ?_;dsimp only;refine cu ?_;refine h _ true d ?_;unfold jV;rw[k,aj aA,];refine⟨_,c,D+1,g,hex,?_,H,f.lt⟩;rw[f.less t]
end
noncomputable abbrev jA (w:World):Bool:=!w.params.followText "set-order"
def Zp (val:Nat->Nat)(i:Nat):Nat:=((List.range i).map val).foldl jV 0
def EC (val:Nat->Nat)(i:Nat):Zp val (i+1)=jV (Zp val i) (val i):=by
 unfold Zp;rw[range_succ,aL,List.foldl_append]
 rfl
section
variable {prog:Program}{A:Around}
def Rp (a:Value){Q1:b8}(h:Q1 (.ref s.heap.objs.size) { s with heap:=s.heap.push (yL (jA w)) }):
  codeAny (model prog w) A (.call (.builtin "set.__new__") ⟨[.type "set",a],[]⟩) (wants Q1 E) s:=by
 refine codeAny_of_tree ?_;show wpAny _ A.in1 (do checkBuiltinCall "set.__new__" ⟨[.type "set",a],[]⟩;again (.builtin "set.__new__" ⟨[.type "set",a],[]⟩)) _ _ s
 refine cq (wpAny_of_eq (F.newCall_set_1 a) (cu ⟨plainId_quiet F.plain_set_new _,codeAny_builtin F.entry_set_new ?_⟩));rw[Around.under_plainId F.plain_set_new _];unfold Builtin.«set.__new__» Builtin.Frozenset.newClass;have H:=sub_set_self;obtain⟨p,g,d,tk,os⟩:=s;dsimp only
 wp_walk
 refine wpAny_askSetting (cu ?_);dsimp only;simp only[newObj];refine cq (wpAny_alloc (cu ?_));exact cu h
end
section
variable {prog:Program}{A:Around}{R:Result->Shared->Prop}{I:Addr}{wr:bW}{G:Array GenState->Array GenState->Prop}{P:Nat->Value->Prop}{St:Nat->Shared->Prop}
def Oq (W:WalksS prog w A.in1 I fp wr G n P St)(S:Addr)(q:S∉fp)(led:Bool)(val:Nat->Nat)(l:∀i v,P i v->∃t,v=.int ((val i:Nat):Int) t)(M:∀i,i<n->val i<8):
  ∀(k i:Nat)(s:Shared),n-i=k->i<=n->St i s->ym s.heap S led (Zp val i)->
   (∀s',Moved (S::wr) G s s'->ym s'.heap S led (Zp val n)->R (.ok (.ret .none)) s')->
   codeAny (model prog w) A (.builtin "set.update.loop" ⟨[.ref S,.ref I],[]⟩) R s:=by
 have p:S∉wr:=λh=>q (W.sub _ h);have H:∀b∈wr,b∈S::wr:=λb j=>aq _ j;intro k
 induction k with
 |zero=>
  intro i s K hi a D E;have y:i=n:=by omega
  subst y;refine codeAny_builtin F.entry_set_update_loop ?_;rw[Around.under_plainId F.plain_set_update_loop _];show wpAny _ A.in1 (pyNext (.ref I) >>= _) _ _ s;refine cq (W.done s _ _ a λs' hm=>?_);show wpAny _ A.in1 (ret Value.none) _ _ s';exact cu (E s' (hm.mono H) (D.keep λo x=>hm.heap S _ p x))
 |succ k J=>
  intro i s K hi a D E;have c:i<n:=by omega
  refine codeAny_builtin F.entry_set_update_loop ?_;rw[Around.under_plainId F.plain_set_update_loop _];show wpAny _ A.in1 (pyNext (.ref I) >>= _) _ _ s;refine cq (W.item i s _ _ c a λv s' L d hm=>?_);obtain⟨t,rfl⟩:=l i v L;have C:ym s'.heap S led (Zp val i):=D.keep λo x=>hm.heap S _ p x;show wpAny _ A.in1 (holding [Value.int ((val i:Nat):Int) t] (setAdd S (.int ((val i:Nat):Int) t)) >>= _) _ _ s';refine cq (wpAny_holding ?_);unfold setAdd;refine wpAny_holding ?_;refine cq ((intKind prog w).pyHash (k:=((val i:Nat):Int)) (intKind_is _ _ _ _) ?_);refine F1 (s:={ s' with toks:=s'.toks+1 }) C (M i c) λh' b f B=>?_
  have z:ym h' S led (Zp val (i+1)):=by rw[EC];exact B
  refine cu ⟨plainId_quiet F.plain_set_update_loop _,J (i+1) _ (by omega) c (W.frame _ s' _ _ d (le_succ _) λb j o e=>?_) z λu g r=>?_⟩
  ·rw[f.2 b (λh:b=S=>q (by rw[<- h];exact j))];exact e
  ·refine E u (Moved.trans W.gtrans ((hm.mono H).then_heap (le_succ _) λb o j e=>?_) g) r
   rw[f.2 b (λh:b=S=>j (by rw[h];exact au))];exact e
end
section
variable {prog:Program}{A:Around}
def Me (led:Bool)(g:h.get? a=some (yL led)):ym h a led 0:=
 ⟨_,#[],0,g,⟨rfl,rfl,rfl⟩,(by cases led<;>rfl),.nil,by decide⟩
def Hd {l:Addr}(B:A.handled=none)(x:s.heap.IsList l its.toArray)(j:IntsAre its (vs.map λ(v:Nat)=>(v:Int)))(C:∀v∈vs,v<8)
  (h:∀(h':Heap)(tk:Nat),ym h' s.heap.objs.size led (vs.foldl jV 0)->
   (∀b o,b<s.heap.objs.size->s.heap.get? b=some o->h'.get? b=some o)->Q .none { s with heap:=h',toks:=tk }):
  codeAny (model prog w) A (.call (.builtin "set.__init__") ⟨[.ref s.heap.objs.size,.ref l],[]⟩) (wants Q E) { s with heap:=s.heap.push (yL led) }:=by
 have hlen:its.length=vs.length:=by
  have:∀{its:bV}{ns:bU},IntsAre its ns->its.length=ns.length:=λh=>by
   induction h with
   |nil=>rfl|cons _ _ _ I=>simp[I]
  rw[this j,ag]
 have S:(s.heap.push (yL led)).get? s.heap.objs.size=some (yL led):=av _ rfl;refine codeAny_call_builtin F.called_set.init.plain F.entry_set_init (check_set_init_1 ⟨_,S,rfl⟩ ?_);obtain⟨ob,d,a,n,k⟩:=x;obtain⟨N,K,u,r⟩:=ob;dsimp only at a k;cases a;cases k;have g1:=af (yL led) d;have n1:=F.sub_list_set;have U:=F.sub_list_frozenset;have P:(Value.type "list" == Value.type "dict")=false:=by decide
 have p:(s.heap.push (yL led)).IsList l its.toArray:=⟨_,g1,rfl,n,rfl⟩;unfold Builtin.«set.__init__» noKeywords Builtin.Frozenset.updateFrom;generalize y:pyIter=PI
 wp_walk
 subst y;refine wpAny_pyIter_list p (cq (wpAny_runValue ?_));have lt:l<s.heap.objs.size:=aF d;have sz:(s.heap.push (yL led)).objs.size=s.heap.objs.size+1:=bg ..;have ne:l≠(s.heap.push (yL led)).objs.size:=by rw[sz];exact aI (a6 lt)
 have W:=(Walks.list (prog:=prog) (w:=w) (A:=A.in1.in1) (by simp[B]) (s.heap.push (yL led)).objs.size l ne its.toArray).toS
 have f:its.toArray.size=vs.length:=by rw[aB];exact hlen
 rw[f]at W;have off:s.heap.objs.size∉[(s.heap.push (yL led)).objs.size,l]:=by
  rw[sz];intro hm;rcases cw.mp hm with z|hm
  ·exact aI (bh _) z
  ·exact br lt (cA.mp hm)
 have H:Zp (λi=>vs.getD i 0) vs.length=vs.foldl jV 0:=by
  unfold Zp
  congr 1
  apply bz
  ·simp
  ·intro i d a
   have hi:i<vs.length:=by simpa using a
   simp[ae,aa hi]
 refine Oq W s.heap.objs.size off led (λi=>vs.getD i 0) (λi v e=>?_) (λi hi=>?_) vs.length 0 _ rfl (zero_le _) ⟨⟨_,av _ rfl,rfl,rfl⟩,p.push _⟩ ?_ ?_
 ·obtain⟨t,g⟩:=IntsAre.int_at j i v (by simpa using e)
  refine⟨t,g.trans ?_⟩;have hi:i<vs.length:=by
   have:=(cx.mp (show its[i]? =some v by simpa using e)).1
   omega
  congr 1
  simp[ae,ax,aa hi]
 ·rw[ae,aa hi]
  exact C _ (aM hi)
 ·exact Me led (af _ S)
 ·intro s' M q
  rw[H]at q;obtain⟨h',g',d',T,c⟩:=s';have J:g'=s.gens:=M.gens;have g:d'=s.drawn:=M.drawn;have D:c=s.os:=M.os;subst J g D;refine cu ?_;show wpAny _ _ (ret Value.none) _ _ _;refine cu (h h' T q λb o L e=>M.heap b o (λhm=>?_) (af _ (af _ e)));rcases cw.mp hm with z|hm
  ·exact aI L z
  ·exact aI (a6 L) ((cA.mp hm).trans sz)
def IZ {l:Addr}(j:A.handled=none)(t:s.heap.IsList l its.toArray)(i:IntsAre its (vs.map λ(v:Nat)=>(v:Int)))(n:∀v∈vs,v<8)
  (h:∀(h':Heap)(tk:Nat),ym h' s.heap.objs.size (jA w) (vs.foldl jV 0)->
   (∀b o,b<s.heap.objs.size->s.heap.get? b=some o->h'.get? b=some o)->Q (.ref s.heap.objs.size) { s with heap:=h',toks:=tk }):
  wpAny (model prog w) A (call (.type "set") [.ref l]) Q E s:=by
 obtain⟨c,q,d⟩:=F.called_set.mro;have a1:=F.called_set.made;have a2:=F.called_set.sub;have C:=F.called_set.notType;have z:=F.called_set.canCreate;have y:=F.typeCall_set_1 (.ref l);refine wpAny_call (codeAny_of_tree ?_);show wpAny _ _ (callAny (.type "set") _) _ _ _;refine cu ⟨Code.quiet_builtin _ (by decide +kernel),codeAny_builtin F.entry_type_call ?_⟩
 rw[Around.under_plain (weight_type_call_type "set" [.ref l] []) rfl]
 repeat (any_goals (first|assumption|wp_step))
 refine codeAny_mono (Rp (.ref l) (E:=E) (Q1:=λu s1=>u=.ref s.heap.objs.size/\s1={ s with heap:=s.heap.push (yL (jA w)) }) ⟨rfl,rfl⟩) λr s1 a=>?_
 cases r with
 |error e=>exact a|ok p=>
  cases p with
  |ret u=>
   obtain⟨rfl,rfl⟩:=a;have T:Shared.TypeIs { s with heap:=s.heap.push (yL (jA w)) } (.ref s.heap.objs.size) "set":=⟨_,av _ rfl,rfl⟩
   have x:=F.called_set.init.lookup;have B:=F.called_set.init.bind (.ref s.heap.objs.size)
   repeat (any_goals (first|assumption|wp_step))
   refine codeAny_mono (Hd (E:=E) (Q:=λv s2=>v=.none/\∃h' tk,s2={ s with heap:=h',toks:=tk }/\ym h' s.heap.objs.size (jA w) (vs.foldl jV 0)/\
    ∀b o,b<s.heap.objs.size->s.heap.get? b=some o->h'.get? b=some o) (by simp[j]) t i n λh' tk S k=>⟨rfl,h',tk,rfl,S,k⟩) λg s2 H=>?_
   cases g with
   |error e=>exact H|ok f=>
    cases f with
    |ret v=>
     obtain⟨rfl,h',tk,rfl,S,k⟩:=H
     repeat (any_goals (first|assumption|wp_step))
     exact h _ _ S k
    |_=>exact H.elim
  |_=>exact a.elim
end
theorem PQ:∀{l:List α}{k:Nat}{w:α},l[k]? =some w->l.Perm (w::l.eraseIdx k)
 |[],_,_,h=>by simp at h|x::l,0,w,h=>by
  simp at h;subst h;simp
 |x::l,k+1,w,h=>by
  rw[List.getElem?_cons_succ]at h;rw[List.eraseIdx_cons_succ];exact((PQ h).cons x).trans (List.Perm.swap w x _)
def Bj (next:Nat->Nat):∀(f k:Nat)(left:List α)(out:Array α),left.length=f->(pickOrder.go next f k left out).toList.Perm (out.toList++left):=by
 intro f
 induction f with
 |zero=>
  intro k left out h
  have:left=[]:=List.length_eq_zero_iff.mp h
  subst this;unfold pickOrder.go;simp
 |succ f i=>
  intro k left out h;have H:next k%left.length<left.length:=Nat.mod_lt _ (by omega)
  unfold pickOrder.go;rw[aa H];dsimp only;refine(i (k+1) _ _ (by rw[List.length_eraseIdx_of_lt H];omega)).trans ?_
  rw[Array.toList_push,aO];exact List.Perm.append_left _ (PQ (aa H)).symm
def E3 (next:Nat->Nat)(xs:Array α):(pickOrder next xs).toList.Perm xs.toList:=by
 unfold pickOrder
 have:=Bj next xs.size 0 xs.toList #[] (by simp)
 simpa using this
namespace F
def IW:entryFor table "set.__iter__"=some Builtin.«frozenset.__iter__»:=entryFor_alias (id' := "frozenset.__iter__") (by kernel_rfl) rfl (by decide +kernel) (by kernel_rfl)
def L6:entryFor table "set_iterator.__iter__"=some Builtin.«dict_keyiterator.__iter__»:=entryFor_alias (id' := "dict_keyiterator.__iter__") (by kernel_rfl) rfl (by decide +kernel) (by kernel_rfl)
def SN:Manifest.owners.lookup (String.ofList ['r','o','t','a','r','e','t','i','_','t','e','s'].reverse)=some Manifest.sig_set_iterator:=by kernel_rfl
def Yl:Slot "set_iterator" "__next__" "set_iterator.__next__":=
 .of (owner := "set_iterator") (n := "__next__") (by rw[typeLookup_type,builtinLookup_eq_fast];kernel_rfl) (by decide +kernel) (by decide +kernel) (by decide +kernel)
  (by first|exact .inl (by decide +kernel)|exact .inr (by decide +kernel)) (by rw[isSubtype_type];kernel_rfl)
def Sn:entryFor table "set_iterator.__next__"=some Builtin.«set_iterator.__next__»:=entryFor_of_tree (by kernel_rfl)
def Sl (a:Value):argsOk "set_iterator.__next__" ⟨[a],[]⟩:=by
 unfold argsOk;rw[signature?_of (id := "set_iterator.__next__") (n:=['_','_','t','x','e','n','_','_']) (o:=['r','o','t','a','r','e','t','i','_','t','e','s']) (by kernel_rfl) SN];kernel_rfl
def L5 (a:Value):argsOk "set_iterator.__iter__" ⟨[a],[]⟩:=by
 unfold argsOk;rw[signature?_of (id := "set_iterator.__iter__") (n:=['_','_','r','e','t','i','_','_']) (o:=['r','o','t','a','r','e','t','i','_','t','e','s']) (by kernel_rfl) SN];kernel_rfl
def So:Slot "set_iterator" "__iter__" "set_iterator.__iter__":=
 .of (owner := "set_iterator") (n := "__iter__") (by rw[typeLookup_type,builtinLookup_eq_fast];kernel_rfl) (by decide +kernel) (by decide +kernel) (by decide +kernel)
  (by first|exact .inl (by decide +kernel)|exact .inr (by decide +kernel)) (by rw[isSubtype_type];kernel_rfl)
end F
def Wa (n i:Nat):Nat:=match i with
 |0=>0|i+1=>(qk n).getD i 0+1
def Mc (n i:Nat):Bool:=decide ((qk n).length<i) || (SetTable.below (qk n).toArray (Wa n i)==i)
def C4:((List.range 256).all λn=>(List.range 9).all λi=>Mc n i)=true:=by decide +kernel
def CY (hn:n<256)(hi:i<=(qk n).length):SetTable.below (qk n).toArray (Wa n i)=i:=by
 have H:=YQ n;have h:=cB.mp (cB.mp C4 n (cz.mpr hn)) i (cz.mpr (by omega))
 unfold Mc at h;rw[aJ (by omega),Bool.false_or,aN]at h
 exact h
def JG (h:Heap)(I S:Addr)(slot i n e:Nat):Prop:=∃o,h.get? I=some o/\o.cls=.type "set_iterator" /\ o.data=.fields #[.int slot 0,.int i 0,.ref S,.int n 0,.int e 0]
noncomputable def kL (w:World)(a:Addr)(E:Nat)(e:Array (Int×Value)):Array (Int×Value):=if w.params.followText "set-order" then pickOrder (w.params.setOrder a E) e else e
def Kv (w:World)(a:Addr)(E:Nat)(e:Array (Int×Value)):(kL w a E e).toList.Perm e.toList:=by
 unfold kL
 split
 ·exact E3 _ _
 ·exact List.Perm.refl _
def gf (w:World)(n i:Nat):Nat:=if w.params.followText "set-order" then 0 else Wa n i
section
variable {prog:Program}{A:Around}{o:Obj}{es:Array (Int×Value)}{ep:Nat}
def Ve {Q:Bool->Shared->Prop}(h:Q (w.params.followText "set-order") s):wpAny (model prog w) A setsByText Q E s:=by
 unfold setsByText;exact cq (wpAny_askSetting (cu h))
def IB (H:s.heap.get? a=some o)(hex:o.ExactSet)(hd:o.data=.set es ep (jq (jA w) n))(he:jI es.toList (qk n))(hn:n<256)
  (c:Q (.ref s.heap.objs.size) { s with heap:=s.heap.push { cls:=.type "set_iterator",data:=.fields #[.int 0 0,.int 0 0,.ref a,.int es.size 0,.int ep 0] } }):
  wpAny (model prog w) A (pyIter (.ref a)) Q E s:=by
 have T:s.TypeIs (.ref a) "set":=⟨o,H,hex.1⟩;have hlen:es.size=(qk n).length:=by rw[<- aR,he.length]
 have hf:(jq (jA w) n).fits es.size=true:=by rw[hlen];exact fits_of hn _
 refine wpAny_pyIter_slot T slot_set_iter (wpAny_call_entry slot_set_iter T F.IW ?_ (PySem.F.args_set_iter_1 _));unfold Builtin.«frozenset.__iter__»;show wpAny _ _ (Builtin.Frozenset.sizeOf a >>= _) _ _ s;unfold Builtin.Frozenset.sizeOf;refine cq (cq (wpAny_setEntries_of H hd hf (cu ?_)));unfold setDrawn;refine cq (cq (wpAny_setState_of H hd hf ?_));dsimp only;refine cq (Ve (cu ?_));rw[aj (λh=>by
  have b:(!w.params.followText "set-order" && (!(jq (jA w) n).plain&&decide (es.size > 1)))=true:=h;rw[VM]at b;simp at b)]
 refine cq (cu ?_);refine cq (wpAny_setEpoch_of H hd hf ?_);exact cq (wpAny_newObj_type (cu ⟨_,rfl,"set_iterator",_,⟨_,av _ rfl,rfl⟩,F.Yl.lookup,c⟩))
def Rl {Q:Option (Value×Nat)->Shared->Prop}(c:s.heap.get? a=some o)(hd:o.data=.set es ep (jq (jA w) n))(he:jI es.toList (qk n))(hn:n<256)(hi:i<=es.size)
  (h:Q (((kL w a ep es)[i]?).map λe=>(e.2,gf w n (i+1))) s):wpAny (model prog w) A (setNext a (gf w n i) i ep) Q E s:=by
 have hlen:es.size=(qk n).length:=by rw[<- aR,he.length]
 have hf:(jq (jA w) n).fits es.size=true:=by rw[hlen];exact fits_of hn _
 unfold setNext;refine cq (wpAny_setState_of c hd hf ?_);dsimp only;refine cq (Ve ?_);unfold kL gf at h;cases t:w.params.followText "set-order" with
 |true=>
  rw[t]at h;simp only[↓reduceIte]at h ⊢;have p:¬((ep != ep)=true):=by simp
  rw[aj p];unfold setWalk;refine cq (cq (wpAny_setState_of c hd hf ?_));dsimp only;refine cq (Ve ?_);rw[t];simp only[↓reduceIte];refine cq (wpAny_askSetting (cu (cu ?_)));unfold gf;rw[t];exact h
 |false=>
  rw[t]at h;simp only[a9,↓reduceIte]at h ⊢;rw[aj (λh=>by
   have f:(!(jq (jA w) n).plain&&decide (es.size > 1))=true:=h;rw[VM]at f;simp at f)]
  have d:(jq (jA w) n).led=true:=by rw[Bd];unfold jA;rw[t];rfl
  refine cq ?_;show wpAny _ _ (if (!(jq (jA w) n).led&&!es.isEmpty)=true then unsupported "set:maker-not-led" else pure ()) _ _ _;rw[d];simp only[Bool.not_true,Bool.false_and,a9,↓reduceIte];refine cu ?_;have k:SetTable.below (jq (jA w) n).place (gf w n i)=i:=by
   rw[Om];unfold gf;rw[t];exact CY hn (by omega)
  rw[k,Om];refine cu ?_
  by_cases b:i<es.size
  ·have v:(qk n)[i]? =some ((qk n)[i]'(by omega)):=aa (by omega)
   have j:(qk n).toArray[i]? =some ((qk n)[i]'(by omega)):=by rw[List.getElem?_toArray];exact v
   have H:es[i]? =some es[i]:=Array.getElem?_eq_getElem b;rw[H]at h;rw[H,j];dsimp only;have g:Wa n (i+1)=(qk n)[i]'(by omega)+1:=by
    show(qk n).getD i 0+1=_;rw[ae,v]
    rfl
   rw[g]at h;exact h
  ·have H:es[i]? =none:=Array.getElem?_eq_none (by omega)
   rw[H]at h;rw[H];exact h
def L7 {I:Addr}{e:Int×Value}{Q:Option Value->Shared->Prop}(hit:JG s.heap I a (gf w n i) i es.size ep)(d:s.heap.get? a=some o)(hex:o.ExactSet)(hd:o.data=.set es ep (jq (jA w) n))(he:jI es.toList (qk n))(hn:n<256)(x:(kL w a ep es)[i]? =some e)
  (g:∀h',JG h' I a (gf w n (i+1)) (i+1) es.size ep->Heap.SameBut I s.heap h'->Q (some e.2) { s with heap:=h' }):
  wpAny (model prog w) A (pyNext (.ref I)) Q E s:=by
 obtain⟨c,H,f,h⟩:=id hit;have T:s.TypeIs (.ref I) "set_iterator":=⟨c,H,f⟩;have hlen:es.size=(qk n).length:=by rw[<- aR,he.length]
 have hf:(jq (jA w) n).fits es.size=true:=by rw[hlen];exact fits_of hn _
 unfold pyNext;refine cq (wpAny_attempt (wpAny_callSpecial?_slot (name:=Str.ofString "__next__") T F.Yl
  (wpAny_call_entry F.Yl T F.Sn ?_ (F.Sl _))))
 unfold Builtin.«set_iterator.__next__»;show wpAny _ _ (fieldsOf (.ref I) >>= _) _ _ s;refine cq (wpAny_fieldsOf H h ?_);dsimp only;refine cq (wpAny_setEntries_of d hd hf ?_);rw[aj (by simp)]
 have hi:i<es.size:=by
  have b:=(Array.getElem?_eq_some_iff.mp x).1;have j:=(Kv w a ep es).length_eq;simp at j;omega
 simp only[aK];refine cq (Rl d hd he hn (bC hi) ?_);rw[x];dsimp only[Option.map_some];refine cq (wpAny_setField H h (by simp) ?_)
 have b:(s.heap.update I (Obj.mapFields (·.setIfInBounds 0 (rawInt (gf w n (i+1)))))).get? I=some (Obj.mapFields (·.setIfInBounds 0 (rawInt (gf w n (i+1)))) c):=ba _ H (Obj.isFreed_of_fields (Obj.data_mapFields h _));refine cq (wpAny_setField b (Obj.data_mapFields h _) (by simp) ?_)
 refine cu ⟨e.2,rfl,cu (g _ ?_ ((Heap.SameBut.update ..).trans (Heap.SameBut.update ..)))⟩;refine⟨_,ba _ b (Obj.isFreed_of_fields (Obj.data_mapFields (Obj.data_mapFields h _) _)),(Obj.cls_mapFields ..).trans ((Obj.cls_mapFields ..).trans f),?_⟩;rw[Obj.data_mapFields (Obj.data_mapFields h _)];simp[rawInt]
def Ic {I:Addr}{Q:Option Value->Shared->Prop}(d:A.handled=none)(hit:JG s.heap I a (gf w n es.size) es.size es.size ep)(c:s.heap.get? a=some o)(hex:o.ExactSet)(hd:o.data=.set es ep (jq (jA w) n))(he:jI es.toList (qk n))(hn:n<256)
  (g:∀h',Heap.ExtBut I s.heap h'->Q none { s with heap:=h' }):wpAny (model prog w) A (pyNext (.ref I)) Q E s:=by
 obtain⟨i,h,f,H⟩:=id hit;have e:s.TypeIs (.ref I) "set_iterator":=⟨i,h,f⟩;have hlen:es.size=(qk n).length:=by rw[<- aR,he.length]
 have hf:(jq (jA w) n).fits es.size=true:=by rw[hlen];exact fits_of hn _
 unfold pyNext;refine cq (wpAny_attempt (wpAny_callSpecial?_slot (name:=Str.ofString "__next__") e F.Yl
  (wpAny_call_entry F.Yl e F.Sn ?_ (F.Sl _))))
 unfold Builtin.«set_iterator.__next__»;show wpAny _ _ (fieldsOf (.ref I) >>= _) _ _ s;refine cq (wpAny_fieldsOf h H ?_);dsimp only;refine cq (wpAny_setEntries_of c hd hf ?_);rw[aj (by simp)]
 simp only[aK];refine cq (Rl c hd he hn (ar _) ?_);have x:(kL w a ep es)[es.size]? =none:=Array.getElem?_eq_none (by
  have j:=(Kv w a ep es).length_eq;simp at j;omega)
 rw[x];dsimp only[Option.map_none];refine cq (wpAny_setField h H (by simp) ?_)
 show wpAny _ _ (newExc (.type "StopIteration") [] >>= _) _ _ _;refine cq ?_;simp only[newExc,newTuple];refine cq (wpAny_newObj_type ?_ (by size_fits))
 refine cq (m:=firstArgMember _ _) (wpAny_of_eq (a:=Value.none) (by first|rfl|(simp only[firstArgMember];rfl)) ?_)
 refine wpAny_newObj_type ?_ (by size_fits)
 simp only[raiseNew];refine cq (wpAny_handled ?_)
 first|rw[show A.in1.handled=none from d]|rw[d]
 refine cq (cu (wpAny_throw ?_));refine cq (wpAny_isInstance (T := "StopIteration") (b:=true) ⟨_,av _ rfl,rfl⟩ isSubtype_stop ?_);exact cu (g _ (((Heap.SameBut.update ..).extBut.push _).push _))
end
def JG.typeIs {I S:Addr}{slot e:Nat}(h:JG s.heap I S slot i n e):s.TypeIs (.ref I) "set_iterator":=let ⟨o,H,c,_⟩:=h;⟨o,H,c⟩
section
variable {prog:Program}{A:Around}{o:Obj}{es:Array (Int×Value)}{ep:Nat}
def Ie {I S:Addr}{slot m e:Nat}(hit:JG s.heap I S slot i m e)(h:Q (.ref I) s):wpAny (model prog w) A (pyIter (.ref I)) Q E s:=by
 refine wpAny_pyIter_slot hit.typeIs F.So (wpAny_call_entry F.So hit.typeIs F.L6 ?_ (F.L5 _));show wpAny _ _ (ret (.ref I)) _ _ s;exact cu ⟨_,rfl,"set_iterator",_,hit.typeIs,F.Yl.lookup,h⟩
def Walks.setP (p:A.handled=none)(I a:Addr)(g:a≠I)(hex:o.ExactSet)(hd:o.data=.set es ep (jq (jA w) n))(he:jI es.toList (qk n))(hn:n<256):
  Walks prog w A I [I,a] [I] es.size (λi v=>∃e,(kL w a ep es)[i]? =some e/\v=e.2) (λi h=>JG h I a (gf w n i) i es.size ep/\h.get? a=some o) where
 sub:=λb H=>by simp at H;simp[H]
 frame:=λ_ _ _ st l=>⟨let ⟨x,h1,q⟩:=st.1;⟨x,l I (by simp) x h1,q⟩,l a (by simp) o st.2⟩
 item:=λi s Q E hi st f=>by
  have z:(kL w a ep es).size=es.size:=by have:=(Kv w a ep es).length_eq;simpa using this
  have k:(kL w a ep es)[i]? =some ((kL w a ep es)[i]'(by omega)):=Array.getElem?_eq_getElem (by omega)
  refine L7 st.1 st.2 hex hd he hn k λh' d c=>?_;refine f _ h' s.toks ⟨_,k,rfl⟩ ⟨d,?_⟩ λb o H e=>c.extBut b o (λh=>H (by simp[h])) e
  exact c.extBut a o g st.2
 done:=λs Q E st f=>Ic p st.1 st.2 hex hd he hn λh' j=>f h' s.toks λb o H e=>j b o (λh=>H (by simp[h])) e
 self:=λ_ _ _ _ st f=>Ie st.1 f
def F2:typeLookup (.type "set") "__len__"=pure (some (.builtin "set.__len__")):=by rw[typeLookup_type,builtinLookup_eq_fast];kernel_rfl
def Iq {Q:List Value->Shared->Prop}(hh:A.handled=none)(I:s.heap.get? a=some o)(hex:o.ExactSet)(hd:o.data=.set es ep (jq (jA w) n))(he:jI es.toList (qk n))(hn:n<256)
  (hQ:∀(h':Heap)(tk:Nat),(∀b o,b<s.heap.objs.size->s.heap.get? b=some o->h'.get? b=some o)->s.heap.objs.size<=h'.objs.size->Q ((kL w a ep es).toList.map (·.2)) { s with heap:=h',toks:=tk }):
  wpAny (model prog w) A (collect (.ref a)) Q E s:=by
 have hT0:s.TypeIs (.ref a) "set":=⟨o,I,hex.1⟩;have t:a<s.heap.objs.size:=aF I;unfold collect;refine cq (wpAny_runValue (codeAny_builtin PySem.F.entry_proto_collect ?_));rw[Around.under_plainId PySem.F.plain_proto_collect _];show wpAny _ A.in1 (newList [] >>= λl=>again (.builtin "list.__iadd__" ⟨[l,.ref a],[]⟩)) _ _ s;refine cq (wpAny_newObj_type ?_);refine cu ⟨plainId_quiet PySem.F.plain_list_iadd _,codeAny_builtin PySem.F.entry_list_iadd ?_⟩;rw[Around.under_plainId PySem.F.plain_list_iadd _];show wpAny _ A.in1 (Builtin.List.listExtendWith (.ref s.heap.objs.size) (.ref a) (.ref s.heap.objs.size)) _ _ _;have f:(s.heap.push { cls:=.type "list",data:=.seq ([]:bV).toArray }).get? a=some o:=af _ I;have hT:Shared.TypeIs { s with heap:=s.heap.push { cls:=.type "list",data:=.seq ([]:bV).toArray } } (.ref a) "set":=⟨o,f,hex.1⟩
 unfold Builtin.List.listExtendWith;refine cq (wpAny_typeOf hT ?_);have B:Builtin.List.listSameRef (.ref s.heap.objs.size) (.ref a)=false:=by simp[Builtin.List.listSameRef];exact br t
 have X:(Value.type "set" == Value.type "list")=false:=by decide
 have U:(Value.type "set" == Value.type "tuple")=false:=by decide
 simp only[B,X,U,Bool.or_false,a9,if_false];refine cq (IB f hex hd he hn ?_);refine cq (wpAny_holding ?_);unfold Builtin.List.listLengthHint;generalize y:s.heap.push { cls:=.type "list",data:=.seq ([]:bV).toArray }=H;have k:H.objs.size=s.heap.objs.size+1:=by rw[<- y,bg]
 have q:H.get? a=some o:=by rw[<- y];exact f
 have P:H.get? s.heap.objs.size=some { cls:=.type "list",data:=.seq ([]:bV).toArray }:=by rw[<- y];exact av _ rfl
 generalize i:({ cls:=.type "set_iterator",data:=.fields #[.int 0 0,.int 0 0,.ref a,.int es.size 0,.int ep 0] }:Obj)=io;have g:Shared.TypeIs { s with heap:=H.push io } (.ref a) "set":=⟨o,af _ q,hex.1⟩
 have L:(H.push io).get? H.objs.size=some io:=av _ (by rw[<- i];rfl)
 refine cq (wpAny_specialOf g F2 ?_)
 wp_delta
 refine cq (wpAny_isInstance (b:=true) g (by rw[isSubtype_type];kernel_rfl) ?_)
 show wpAny _ A.in1 (typeOf (Value.ref a) >>= _) _ _ _;refine cq (wpAny_typeOf g ?_);refine cu ?_;show wpAny _ A.in1 (rule "list.extend.makes-room" >>= λ_=>Builtin.List.listTouch (.ref s.heap.objs.size) >>= λ_=>
  again (.builtin "list.extend.loop" ⟨[.ref s.heap.objs.size,.ref H.objs.size,.ref s.heap.objs.size],[]⟩)) _ _ _
 refine cq (wpAny_rule ?_);have u:(H.push io).get? s.heap.objs.size=some { cls:=.type "list",data:=.seq ([]:bV).toArray }:=af _ P;refine cq ?_;show wpAny _ A.in1 (updateSeq s.heap.objs.size (·.push .none) >>= λ_=>updateSeq s.heap.objs.size (·.pop)) _ _ _;refine cq (wpAny_updateSeq u rfl ?_);have r:=ba (Obj.mapSeq (·.push Value.none)) u rfl;refine wpAny_updateSeq r rfl ?_;have N:=ba (Obj.mapSeq (·.pop)) r rfl;have d:∀b o,b≠s.heap.objs.size->(H.push io).get? b=some o->(((H.push io).update s.heap.objs.size (Obj.mapSeq (·.push Value.none))).update s.heap.objs.size (Obj.mapSeq (·.pop))).get? b=some o:=
  λb o p e=>(aQ _ _ (Ne.symm p)).trans ((aQ _ _ (Ne.symm p)).trans e)
 have J:a≠H.objs.size:=by rw[k];exact aI (a6 t)
 have x:H.objs.size≠s.heap.objs.size:=by rw[k];exact Nat.succ_ne_self _
 have S:a≠s.heap.objs.size:=aI t;have W:=(Walks.setP (prog:=prog) (w:=w) (A:=A.in1) (by simp[hh]) H.objs.size a J hex hd he hn).toS
 have M:s.heap.objs.size∉[H.objs.size,a]:=λhm=>by
  rcases cw.mp hm with z|hm
  ·exact x z.symm
  ·exact S (cA.mp hm).symm
 have hlen:es.size=(qk n).length:=by rw[<- aR,he.length]
 have h8:=YQ n;refine cu ⟨plainId_quiet PySem.F.plain_extend_loop _,codeAny_extend_loopS W (by rw[sizeLine_eq];omega) _ M _ es.size 0 _ _ _ rfl (zero_le _) ⟨?_,d a o S (af _ q)⟩ N (ItemsOf.nil _) λs' c c' hm v h=>?_⟩
 ·refine⟨io,d _ _ x L,by rw[<- i],?_⟩
  rw[<- i]
  have:gf w n 0=0:=by unfold gf Wa;split<;>rfl
  rw[this]
  rfl
 show wpAny _ A (load s.heap.objs.size >>= _) _ _ s';refine cq (wpAny_load v ?_);have Z:c.toList=(kL w a ep es).toList.map (·.2):=by
  have D:(kL w a ep es).size=es.size:=by have:=(Kv w a ep es).length_eq;simpa using this
  apply ext_getElem?
  intro j
  by_cases Y:j<es.size
  ·have B:c[j]? =some (c[j]'(by rw[h.1];exact Y)):=Array.getElem?_eq_getElem (by rw[h.1];exact Y)
   obtain⟨e,X,U⟩:=h.2 j _ B;rw[bE,B,ax,bE,X,U]
   rfl
  ·rw[aE (by rw[aR,h.1];omega),aE (by rw[ag,aR,D];omega)]
 show wpAny _ A (pure c.toList) _ _ s';rw[Z];obtain⟨h',g',d',T,C⟩:=s';have e1:g'=s.gens:=hm.gens;have e2:d'=s.drawn:=hm.drawn;have e3:C=s.os:=hm.os;subst e1 e2 e3;refine cu (hQ h' T (λb ob p e=>?_) ?_)
 ·refine hm.heap b ob (λK=>?_) (d b ob (aI p) (af _ (by rw[<- y];exact af _ e)))
  rcases cw.mp K with z|z
  ·exact aI p z
  ·exact aI (a6 p) ((cA.mp z).trans k)
 ·exact bC (aF (show h'.get? s.heap.objs.size=_ from v))
end
open PySem PySem.Spec PyProof.Rows L2
theorem P4:∀{a b:bU},a.Perm b->a.Pairwise (·<=·)->b.Pairwise (·<=·)->a=b
 |[],b,p,_,_=>by rw[List.nil_perm.mp p]|x::a,[],p,_,_=>absurd p.length_eq (by simp)|x::a,y::b,p,H,h=>by
  have d:x∈y::b:=p.mem_iff.mp (au ..);have c:y∈x::a:=p.mem_iff.mpr (au ..);have e:x=y:=by
   rcases cw.mp d with e|e
   ·exact e
   ·rcases cw.mp c with E|E
    ·exact E.symm
    ·have g:=(List.pairwise_cons.mp h).1 x e
     have f:=(List.pairwise_cons.mp H).1 y E;omega
  subst e;rw[P4 (List.Perm.cons_inv p) (List.pairwise_cons.mp H).2 (List.pairwise_cons.mp h).2]
def An (n v i:Nat):(jV n v).testBit i=(n.testBit i || decide (i=v)):=by
 unfold jV
 by_cases h:n.testBit v=true
 ·rw[ah h]
  by_cases e:i=v
  ·subst e;simp[h]
  ·simp[e]
 ·rw[aj h]
  unfold jM;rw[Nat.testBit_or,Nat.one_shiftLeft,Nat.testBit_two_pow]
  congr 1
  by_cases e:v=i
  ·subst e;simp
  ·simp[e,Ne.symm e]
theorem OM (i:Nat):∀(vs:bY)(n:Nat),(vs.foldl jV n).testBit i=(n.testBit i || decide (i∈vs))
 |[],n=>by simp|v::vs,n=>by
  rw[List.foldl_cons,OM i vs,An]
  by_cases e:i=v
  ·simp[e]
  ·simp[e]
def P8 (vs:bY):qk (vs.foldl jV 0)=(List.range 8).filter λi=>decide (i∈vs):=by
 unfold qk
 congr 1
 funext i
 rw[OM];simp
def EV (n:Nat):((qk n).map λ(i:Nat)=>(i:Int)).Pairwise (·<=·):=by
 rw[bH];unfold qk;refine List.Pairwise.imp ?_ (List.Pairwise.filter _ bR);intro a b h;omega
def jI.snd (h:jI es vs):∀e∈es,∃tk,e.2=.int e.1 tk:=by
 induction h with
 |nil=>intro e he;cases he|cons v tk h i=>
  intro e he;rcases cw.mp he with rfl|he
  ·exact⟨tk,rfl⟩
  ·exact i e he
theorem Rz:∀{l:List (Int×Value)},(∀e∈l,∃tk,e.2=.int e.1 tk)->IntsAre (l.map (·.2)) (l.map (·.1))
 |[],_=>.nil|e::l,h=>by
  obtain⟨tk,he⟩:=h e (au ..);rw[aW,aW,he];exact .cons _ tk (Rz λx H=>h x (aq _ H))
section
variable {prog:Program}{A:Around}{o:Obj}{es:Array (Int×Value)}{ep:Nat}
def Fj (t:A.handled=none)(S:ym s.heap a (jA w) n)
  (h:∀(h':Heap)(tk:Nat)(l:Addr)(I:bV)(c:Nat),s.heap.objs.size<=l->h'.get? l=some { cls:=.type "list",data:=.seq I.toArray c }->IntsAre I ((qk n).map λ(i:Nat)=>(i:Int))->
   (∀b o,s.heap.get? b=some o->h'.get? b=some o)->Q (.ref l) { s with heap:=h',toks:=tk }):
  wpAny (model prog w) A (call (.builtin "sorted") [.ref a]) Q E s:=by
 obtain⟨o,f,p,r,hex,hd,he,hn⟩:=S;refine Calls.call_function_entry kind_sorted plain_sorted entry_sorted (args_sorted1 _) ?_;unfold Builtin.«sorted»;refine cq (m:=checkCount "sorted" 1 1 _) (cu ?_);refine cq (Iq (by simp[t]) r hex hd he hn λd tk kp hle=>?_)
 have g:=Kv w a p f;have k:IntsAre ((kL w a p f).toList.map (·.2)) ((kL w a p f).toList.map (·.1)):=Rz λe hm=>he.snd e (g.mem_iff.mp hm);have H:((kL w a p f).toList.map (·.1)).Perm ((qk n).map λ(i:Nat)=>(i:Int)):=by
  rw[<- he.map1];exact g.map _
 have hlen:((kL w a p f).toList.map (·.2)).length<=8:=by
  rw[ag,g.length_eq,he.length];exact YQ n
 generalize (kL w a p f).toList.map (·.2)=vs at k hlen;generalize (kL w a p f).toList.map (·.1)=ns at k H;refine cq (wpAny_newList ?_);have L:(d.push (seqObj "list" vs.toArray 0)).get? d.objs.size=some (seqObj "list" vs.toArray 0):=av _ rfl;show wpAny _ _ _ _ _ { s with heap:=d.push (seqObj "list" vs.toArray 0),toks:=tk }
 refine cq (wpAny_holding (wpAny_call_entry slot_list_sort ⟨_,L,rfl⟩ entry_list_sort (list_sort_tree L k (by omega) λout N a1 a2 y=>⟨_,rfl,?_⟩) (args_list_sort _)))
 have j:N=(qk n).map λ(i:Nat)=>(i:Int):=P4 (a2.trans H) y (EV n);subst j;refine cu ⟨_,rfl,?_⟩;have x:=get?_update_seq L (λ_=>(#[]:Array Value));have v:=af (seqObj "list" #[] 0) (af (seqObj "tuple" vs.toArray 0) x);obtain⟨c,u⟩:∃c,(sortedHeap (d.push (seqObj "list" vs.toArray 0)) d.objs.size vs out).get? d.objs.size=some (seqObj "list" out c):=⟨_,get?_update_seq v (λ_=>out)⟩;refine h _ tk d.objs.size out.toList c hle ?_ a1 λb ob e=>?_
 ·rw[Array.toArray_toList]
  exact u
 ·have q:b<s.heap.objs.size:=aF e
  have k1:=kp b ob q e;have nb:d.objs.size≠b:=br (aD q hle);unfold sortedHeap;refine(aQ _ _ nb).trans ?_;refine af _ (af _ ?_);exact(aQ _ _ nb).trans (af _ k1)
end
section
variable {m:Ev}
def fS (K:Frag)(w:World):List V->Hp->VK->Prop:=λxs H Q=>∃(p:Addr) (vs:bY),xs=[.ref p]/\jj K H p (vs.map λ(v:Nat)=>V.int (v:Int))/\(∀v∈vs,v<8)/\∀l,H l=none->Q (.ref l) (upd H l (.ext λh=>ym h l (jA w) (vs.foldl jV 0)))
def Dq (l:X.calm=true):yv X (.type "set") (fS X.K X.w):=by
 intro pins s σ H xs us Q I r h;obtain⟨p,vs,rfl,g,n,q⟩:=h;obtain⟨u,rfl,d⟩:=vals1 r;cases d;obtain⟨i,c,⟨o,k,x,t,C,E⟩,_⟩:=I.list g;have f:Vals ((vs.map λ(v:Nat)=>(v:Int)).map V.int) i:=by rw[aP];exact c
 refine IZ (I.ok.hd l) ⟨o,x,t,k,E⟩ (intsAre_of f) n λh' tk S kp=>?_;refine⟨.ref s.heap.objs.size,_,I.laid (t':=tk) (o:=.ext λh=>ym h s.heap.objs.size (jA X.w) (vs.foldl jV 0)) (λb o e=>kp b o (aF e) e) (ar _) ⟨S,?_,λz y a b=>a.keep b⟩,rfl,q _ (I.hok.fresh (ar _))⟩;obtain⟨o,A,B,j,_⟩:=S;exact⟨o,j⟩
theorem Kz:∀{ns:bU}{i:bV},IntsAre i ns->Vals (ns.map V.int) i
 |_,_,.nil=>.nil|_,_,.cons n t h=>.cons ⟨t,rfl⟩ (Kz h)
def RJ (f:X.calm=true):yv X (.builtin "sorted") (λxs H Q=>∃(p:Addr) (n:Nat),xs=[.ref p]/\H p=some (.ext λh=>ym h p (jA X.w) n)/\∀l,H l=none->Q (.ref l) (upd H l (.lst ((qk n).map λ(v:Nat)=>V.int (v:Int))))):=by
 intro pins s σ H xs us Q I r h;obtain⟨p,n,rfl,e,q⟩:=h;obtain⟨u,rfl,d⟩:=vals1 r;cases d;have S:ym s.heap p (jA X.w) n:=(show jF X.prog X.w H s.heap p (.ext λh=>ym h p (jA X.w) n) from I.hok p _ e).1
 refine Fj (I.ok.hd f) S λh' tk l i c b g hi kp=>?_;have a:=Kz hi;rw[aP]at a;refine⟨.ref l,_,I.laid (t':=tk) (o:=.lst ((qk n).map λ(v:Nat)=>V.int (v:Int))) kp b ⟨?_,i,c,a,g⟩,rfl,q _ (I.hok.fresh b)⟩;rw[ag,sizeLine_eq]
 have:=YQ n
 omega
noncomputable def ZT:List Int->Option (bY)
 |[]=>some []|i::is=>if 0<=i/\i<8 then(ZT is).map (i.toNat::·) else none
theorem VG:∀{is:bU}{vs:bY},ZT is=some vs->is=vs.map (λ(v:Nat)=>(v:Int))/\∀v∈vs,v<8
 |[],_,e=>by cases e;exact⟨rfl,λv H=>by cases H⟩|i::is,vs,e=>by
  unfold ZT at e
  by_cases h:0<=i/\i<8
  ·rw[ah h]at e
   cases E:ZT is with
   |none=>rw[E]at e;cases e|some us=>
    rw[E]at e;cases e;obtain⟨b,a⟩:=VG E;refine⟨?_,λv H=>?_⟩
    ·rw[aW,<- b,bM h.1]
    ·rcases cw.mp H with rfl|H
     ·omega
     ·exact a v H
  ·rw[aj h]at e;cases e
def VV:W->Hx->R W:=λw A=>match w with
 |.ref n=>match A[n]? with
  |some (.lst ws)=>match intsOf ws with
   |some is=>match ZT is with
    |some vs=>.ok (.ref A.length) (A++[.lst (((List.range 8).filter λi=>decide (i∈vs)).map λ(i:Nat)=>W.int (i:Int))])|none=>.bad
   |none=>.bad
  |_=>.bad
 |_=>.bad
def Gf (m:Ev):Ev:=λρ A=>(m ρ A).bind λw A1=>VV w A1
end
def Ew (a b:Value):argsOk "sum" ⟨[a,b],[]⟩:=by unfold argsOk;kernel_rfl
def sub_list_str:isSubtype (.type "list") (.type "str")=pure false:=by rw[isSubtype_type];kernel_rfl
def sub_list_bytes:isSubtype (.type "list") (.type "bytes")=pure false:=by rw[isSubtype_type];kernel_rfl
def sub_list_bytearray:isSubtype (.type "list") (.type "bytearray")=pure false:=by rw[isSubtype_type];kernel_rfl
noncomputable abbrev gL (xs:Array Value)(c:Nat):Obj:={ cls:=.type "list",dict:=none,data:=.seq xs c,slots:=#[] }
section
variable {prog:Program}{A:Around}{R:Result->Shared->Prop}{I:Addr}{wr:bW}{G:Array GenState->Array GenState->Prop}{P:Nat->Value->Prop}{St:Nat->Shared->Prop}
def Es (W:WalksS prog w A.in1 I fp wr G n P St)(S B:Addr)(C:S∉fp)(hBS:B<=S)(ad:Nat->Addr)(a:Nat->List Value)(r:∀i v,P i v->v=.ref (ad i))(p:∀i,i<n->ad i≠S/\ad i∉wr)(hwS:∀b∈wr,b<S):
  ∀(k i:Nat)(s:Shared)(T:Addr)(c Q:Nat)(acc:bV),n-i=k->i<=n->St i s->s.heap.get? S=some (gL #[.ref T] c)->T≠S->T∉wr->s.heap.get? T=some (gL acc.toArray Q)->
   (∀j,i<=j->j<n->∃cj,s.heap.get? (ad j)=some (gL (a j).toArray cj))->(acc++(((List.range' i k).map a).flatten)).length<=sizeLine->
   (∀s' U c',Moved (S::wr) G s s'->s'.heap.get? U=some (gL (acc++(((List.range' i k).map a).flatten)).toArray c')->((k=0/\U=T)∨B<=U)->R (.ok (.ret (.ref U))) s')->
   codeAny (model prog w) A (.builtin "sum.loop" ⟨[.ref I,.ref S,rawInt 2,rawInt 0],[]⟩) R s:=by
 have hSw:S∉wr:=λh=>C (W.sub _ h);have d:∀b∈wr,b∈S::wr:=λb f=>aq _ f;intro k
 induction k with
 |zero=>
  intro i s T c Q acc hk hi t L hTS q hT hl K M;have hin:i=n:=by omega
  subst hin;refine codeAny_builtin PySem.F.entry_sum_loop ?_;rw[Around.under_plainId plain_sum_loop _];show wpAny _ A.in1 (seqItems? (.ref S) >>= _) _ _ s;refine cq (wpAny_seqItems L rfl ?_);show wpAny _ A.in1 (tryCatch (pyNext (.ref I)) _ >>= _) _ _ s;refine cq (wpAny_tryCatch (W.done s _ _ t λs' hm=>?_));refine cu (M s' T Q (hm.mono d) ?_ (.inl ⟨rfl,rfl⟩))
  have:=hm.heap T _ q hT
  simpa using this
 |succ k ih=>
  intro i s T c Q acc hk hi t L hTS q hT hl K M;have H:i<n:=by omega
  refine codeAny_builtin PySem.F.entry_sum_loop ?_;rw[Around.under_plainId plain_sum_loop _];show wpAny _ A.in1 (seqItems? (.ref S) >>= _) _ _ s;refine cq (wpAny_seqItems L rfl ?_);show wpAny _ A.in1 (tryCatch (pyNext (.ref I)) _ >>= _) _ _ s;refine cq (wpAny_tryCatch (W.item i s _ _ H t λv s' hP u hm=>?_));have hv:=r i v hP;subst hv;have J:=hm.heap S _ hSw L;have hT':=hm.heap T _ q hT;obtain⟨ci,hli⟩:=hl i (ar _) H;have y:=hm.heap (ad i) _ (p i H).2 hli;rw[bQ,aW,aY,<- aO]at K M;have Z:(acc++a i).length<=sizeLine:=by rw[aw]at K;omega
  show wpAny _ A.in1 ((holding [Value.ref (ad i)] (binaryOp .Add (.ref T) (.ref (ad i)))).attempt >>= _) _ _ _;refine cq (wpAny_attempt (wpAny_holding (PySem.P.add_list hT' y ?_ (by rw[aB,aB,<- aw];exact Z))))
  have ea:acc.toArray++(a i).toArray=(acc++a i).toArray:=by simp
  rw[ea];have l:S<s'.heap.objs.size:=aF J;have E:=af (gL (acc++a i).toArray 0) J;have hN1:(s'.heap.push (gL (acc++a i).toArray 0)).get? s'.heap.objs.size=some (gL (acc++a i).toArray 0):=av _ rfl;show wpAny _ A.in1 (updateSeq S (λ_=>#[.ref s'.heap.objs.size]) >>= _) _ _ _;refine cq (wpAny_updateSeq E rfl ?_);have D:=ba (Obj.mapSeq λ_=>#[Value.ref s'.heap.objs.size]) E rfl;refine cq (wpAny_letGo ?_);have N:s'.heap.objs.size≠S:=br l;have g:∀b o,b≠S->s'.heap.get? b=some o->(((s'.heap.push (gL (acc++a i).toArray 0)).update S (Obj.mapSeq λ_=>#[Value.ref s'.heap.objs.size])).update S (Obj.mapSeq λ_=>#[Value.ref s'.heap.objs.size])).get? b=some o:=
   λb o f e=>(aQ _ _ (Ne.symm f)).trans ((aQ _ _ (Ne.symm f)).trans (af _ e))
  have Y:s'.heap.objs.size∉wr:=λhm2=>aT _ (lt_trans (hwS _ hm2) l);refine cq (wpAny_updateSeq D rfl (cu ⟨plainId_quiet plain_sum_loop _,ih (i+1) _ s'.heap.objs.size _ 0 (acc++a i) (by omega) H (W.frame _ s' _ _ u (by first|exact ar _|exact le_succ _|omega) λb f o e=>g b o (λh=>C (h ▸ f)) e) (ba _ D rfl) N Y ?_ ?_ K λX T'' c'' x z hor=>?_⟩))
  ·exact(aQ _ _ (Ne.symm N)).trans ((aQ _ _ (Ne.symm N)).trans hN1)
  ·intro j h1 h2
   obtain⟨cj,hj⟩:=hl j (by omega) h2
   exact⟨cj,g _ _ (p j h2).1 (hm.heap _ _ (p j h2).2 hj)⟩
  ·refine M X T'' c'' (Moved.trans W.gtrans ((hm.mono d).then_heap (by first|exact ar _|exact le_succ _|omega) λb o f e=>g b o (λh=>f (by rw[h];exact au)) e) x) z (.inr ?_)
   rcases hor with ⟨_,rfl⟩|h
   ·exact bC (Nat.lt_of_le_of_lt hBS l)
   ·exact h
def Dg {p q:Addr}{N:Nat}{a:bW}{itss:List (bV)}(hh:A.handled=none)(x:s.heap.IsList p (a.map Value.ref).toArray)(S:s.heap.get? q=some (gL #[] N))
  (hlen:a.length=itss.length)(U:∀i,i<a.length->∃c,s.heap.get? (a.getD i 0)=some (gL (itss.getD i []).toArray c))(B:a≠[])(Y:itss.flatten.length<=sizeLine)
  (h:∀(h':Heap)(tk:Nat)(l:Addr)(c:Nat),s.heap.objs.size<=l->h'.get? l=some (gL itss.flatten.toArray c)->(∀b o,s.heap.get? b=some o->h'.get? b=some o)->Q (.ref l) { s with heap:=h',toks:=tk }):
  wpAny (model prog w) A (call (.builtin "sum") [.ref p,.ref q]) Q E s:=by
 refine call_function_tree PySem.F.kind_sum PySem.F.plain_sum PySem.F.entry_sum (Ew _ _) ?_;unfold Builtin.«sum»;simp only[bj,length_nil];rw[aj (by decide)]
 refine cq (wpAny_of_eq (show Builtin.Builtins.bindParams "sum" ["start"] 0 ⟨[.ref q],[]⟩=pure [some (.ref q)] from rfl) ?_)
 refine cq (wpAny_pyIter_list x ?_);refine cq (cu ?_);generalize d:({ cls:=.type "list_iterator",data:=.fields #[.ref p,.int 0 0] }:Obj)=io;have k:(s.heap.push io).get? q=some (gL #[] N):=af _ S;have I:Shared.TypeIs { s with heap:=s.heap.push io } (.ref q) "list":=⟨_,k,rfl⟩
 simp only[forIn_cons,forIn_nil];refine cq (cq (cq (wpAny_isInstance (b:=false) I sub_list_str ?_)));simp only[a9,if_false];refine cu (cq (cq (wpAny_isInstance (b:=false) I sub_list_bytes ?_)));simp only[a9,if_false];refine cu (cq (cq (wpAny_isInstance (b:=false) I sub_list_bytearray ?_)));simp only[a9,if_false];refine cu (cu ?_);refine cq (wpAny_newObj_type ?_);have sz:(s.heap.push io).objs.size=s.heap.objs.size+1:=bg ..;have g:p<s.heap.objs.size:=by obtain⟨o,e,_⟩:=x;exact aF e
 have f:q<s.heap.objs.size:=aF S;have ltI:s.heap.objs.size<(s.heap.push io).objs.size:=by rw[sz];exact bh _
 have L:∀b,b<s.heap.objs.size->b<(s.heap.push io).objs.size:=λb D=>lt_trans D ltI;have W:=(Walks.list (prog:=prog) (w:=w) (A:=A.in1) (by simp[hh]) s.heap.objs.size p (aI g) (a.map Value.ref).toArray).toS
 have M:(a.map Value.ref).toArray.size=a.length:=by simp
 rw[M]at W;have J:(s.heap.push io).objs.size∉[s.heap.objs.size,p]:=λhm=>by
  rcases cw.mp hm with z|hm
  ·exact br ltI z
  ·exact br (L p g) (cA.mp hm)
 have t:∀i,i<a.length->a.getD i 0<s.heap.objs.size:=λi hi=>by obtain⟨c,e⟩:=U i hi;exact aF e
 have K:(s.heap.push io).get? s.heap.objs.size=some io:=av _ (by rw[<- d];rfl)
 have H:((List.range' 0 a.length).map λj=>itss.getD j []).flatten=itss.flatten:=by
  congr 1
  rw[hlen]
  apply bz
  ·simp
  ·intro i h1 h2
   simp[ae,aa h2]
 refine cu ⟨plainId_quiet plain_sum_loop _,Es W (s.heap.push io).objs.size s.heap.objs.size J (bC ltI) (λi=>a.getD i 0) (λi=>itss.getD i []) (λi v e=>?_) (λi hi=>⟨aI (L _ (t i hi)),λhm=>?_⟩) (λb D=>?_)
  a.length 0 _ q 0 N [] (by omega) (zero_le _) ⟨⟨io,af _ K,by rw[<- d],by rw[<- d];rfl⟩,(x.push _).push _⟩ (av _ rfl) (aI (L q f)) (λhm=>?_) (af _ k) (λj _ Z=>?_) ?_ λs' X c' hm n y=>?_⟩
 ·have hi:i<a.length:=by
   have:=(Array.getElem?_eq_some_iff.mp e).1
   simpa using this
  have r:(a.map Value.ref)[i]? =some v:=by simpa using e
  rw[ax,aa hi]at r;rw[ae,aa hi];exact(aC r).symm
 ·exact aI (t i hi) (cA.mp hm)
 ·rw[cA.mp D];exact ltI
 ·exact aI f (cA.mp hm)
 ·obtain⟨c,e⟩:=U j Z
  exact⟨c,af _ (af _ e)⟩
 ·rw[nil_append,H];exact Y
 ·rw[nil_append,H]at n
  have hB:s.heap.objs.size<=X:=by
   rcases y with ⟨h0,_⟩|h0
   ·exact absurd (List.length_eq_zero_iff.mp h0) B
   ·exact h0
  obtain⟨h',g',d',T,u⟩:=s';have e1:g'=s.gens:=hm.gens;have r:d'=s.drawn:=hm.drawn;have e3:u=s.os:=hm.os;subst e1 r e3;refine h h' T X c' hB n λb o e=>hm.heap b o (λC=>?_) (af _ (af _ e));have P:b<s.heap.objs.size:=aF e;rcases cw.mp C with z|z
  ·exact aI (L b P) z
  ·exact aI P (cA.mp z)
end
section
variable {K:Frag}
def M0 (K:Frag):List V->Hp->VK->Prop:=λxs H Q=>∃(p q:Addr) (ls:List (Addr×List V)),xs=[.ref p,.ref q]/\H p=some (.lst (ls.map λl=>V.ref l.1))/\H q=some (.lst [])/\(∀l∈ls,H l.1=some (.lst l.2))/\ls≠[]/\(ls.map (·.2)).flatten.length<=qf/\
 ∀l,H l=none->Q (.ref l) (upd H l (.lst (ls.map (·.2)).flatten))
theorem Ol:∀{ls:List (Addr×List V)}{us:bV},Vals (ls.map λl=>V.ref l.1) us->us=(ls.map (·.1)).map Value.ref
 |[],_,h=>by cases h;rfl|l::ls,_,h=>by
  cases h with
  |cons r t=>cases r;rw[Ol t];rfl
def Ds (Y:X.calm=true):yv X (.builtin "sum") (M0 X.K):=by
 intro pins s σ H xs us Q I r h;obtain⟨p,q,ls,rfl,S,P,T,j,z,k⟩:=h;obtain⟨u,v,rfl,B,A⟩:=Vals.two r;cases B;cases A;obtain⟨_,J,np,D,_,Z⟩:=I.lstM S;obtain⟨_,g,nq,C,lq,eq⟩:=I.lstM P;have b:g=[]:=by cases C;rfl
 subst b;have d:=Ol D;subst d;have hex:∀L:List (Addr×List V),(∀l∈L,H l.1=some (.lst l.2))->∃itss:List (bV),itss.length=L.length/\(∀i,i<L.length->∃c,s.heap.get? ((L.map (·.1)).getD i 0)=some (gL (itss.getD i []).toArray c))/\Vals (L.map (·.2)).flatten itss.flatten:=by
  intro L
  induction L with
  |nil=>intro _;exact⟨[],rfl,λi hi=>absurd hi (Nat.not_lt_zero _),.nil⟩|cons l L M=>
   intro hm;obtain⟨itss,y,w,f⟩:=M λx N=>hm x (aq _ N);obtain⟨_,it,n,E,_,e1⟩:=I.lstM (hm l (au ..));refine⟨it::itss,by simp[y],λi hi=>?_,?_⟩
   ·cases i with
    |zero=>exact⟨n,e1⟩|succ i=>exact w i (by simpa using hi)
   ·rw[aW,aY,aY]
    exact E.append f
 obtain⟨itss,y,w,f⟩:=hex ls T;have t:itss.flatten.length=(ls.map (·.2)).flatten.length:=f.length.symm;refine Dg (I.ok.hd Y) (itss:=itss) ⟨_,Z,rfl,np,rfl⟩ eq (by simp[y]) (λi hi=>w i (by simpa using hi)) (λe=>j (List.map_eq_nil_iff.mp e)) (by rw[t];exact Qf z) λh' tk l c a U kp=>?_
 exact⟨.ref l,_,I.laid (t':=tk) (o:=.lst (ls.map (·.2)).flatten) kp a ⟨Qf z,itss.flatten,c,f,U⟩,rfl,k _ (I.hok.fresh a)⟩
noncomputable def gZ (A:Hx):List W->Option (List (List W))
 |[]=>some []|.ref k::us=>match A[k]? with
  |some (.lst ws)=>(gZ A us).map (ws::·)|_=>none
 |_::_=>none
def QA:W->W->Hx->R W:=λx y A=>match x,y with
 |.ref n,.ref k=>match A[n]?,A[k]? with
  |some (.lst us),some (.lst [])=>match gZ A us with
   |some w=>if us≠[]/\w.flatten.length<=qf then .ok (.ref A.length) (A++[.lst w.flatten]) else .bad|none=>.bad
  |_,_=>.bad
 |_,_=>.bad
def Be:∀x y A,jh (QA x y A):=λx y A=>by
 unfold QA
 split
 ·split
  ·split
   ·exact Qu yR jx
   ·exact jx
  ·exact jx
 ·exact jx
theorem zE.app:∀{ws us:List W}{xs ys:List V},zE K φ H ws xs->zE K φ H us ys->zE K φ H (ws++us) (xs++ys)
 |[],_,_,_,h,a=>by cases h;exact a|w::ws,_,_,_,⟨v,r,e,h,t⟩,a=>by subst e;exact⟨v,_,rfl,h,zE.app t a⟩
theorem R7 (S:zS K φ A H):∀{us:List W}{w:List (List W)}{vs:List V},gZ A us=some w->zE K φ H us vs->∃ls:List (Addr×List V),vs=ls.map (λl=>V.ref l.1)/\(∀l∈ls,H l.1=some (.lst l.2))/\zE K φ H w.flatten (ls.map (·.2)).flatten/\ls.length=us.length
 |[],_,_,e,h=>by cases e;cases h;exact⟨[],rfl,λl a=>(by cases a),rfl,rfl⟩|u::us,w,_,e,⟨v,r,n,h,t⟩=>by
  subst n;cases u with
  |ref k=>
   unfold gZ at e;cases E:A[k]? with
   |none=>rw[E]at e;cases e|some o=>cases o with
    |lst ws=>
     rw[E]at e;dsimp only at e;cases b:gZ A us with
     |none=>rw[b]at e;cases e|some c=>
      rw[b]at e;cases e;obtain⟨p,xs,rfl,_,f,d⟩:=S.lst h E;obtain⟨ls,rfl,j,i,g⟩:=R7 S b t;refine⟨(p,xs)::ls,rfl,λl a=>?_,zE.app d i,by simp[g]⟩
      rcases cw.mp a with rfl|a
      ·exact f
      ·exact j l a
    |_=>rw[E]at e;cases e
  |_=>cases e
def Cf:yZ K (λx y=>M0 K [x,y]) QA:=λφ A H x y u v Q S g q p=>by
 unfold QA at p;cases u with
 |ref n=>cases v with
  |ref k=>
   dsimp only at p;cases E:A[n]? with
   |none=>rw[E]at p;exact p.elim|some o=>cases o with
    |lst us=>
     cases a:A[k]? with
     |none=>rw[E,a]at p;exact p.elim|some j=>cases j with
      |lst zs=>cases zs with
       |nil=>
        rw[E,a]at p;dsimp only at p;cases b:gZ A us with
        |none=>rw[b]at p;exact p.elim|some w=>
         rw[b]at p;dsimp only at p
         by_cases h:us≠[]/\w.flatten.length<=qf
         ·rw[ah h]at p
          obtain⟨i,xs,rfl,_,t,f⟩:=S.lst g E;obtain⟨P,ys,rfl,_,s,r⟩:=S.lst q a;cases r;obtain⟨ls,rfl,B,d,c⟩:=R7 S b f;refine⟨i,P,ls,rfl,t,s,B,λe=>?_,by rw[<- d.length];exact h.2,λl z=>?_⟩
          ·rw[e]at c
           exact h.1 (List.length_eq_zero_iff.mp c.symm)
          ·obtain⟨a1,a2,C⟩:=Jc S z d
           exact p _ _ _ a1 a2 C
         ·rw[aj h]at p;exact p.elim
       |cons _ _=>rw[E,a]at p;exact p.elim
      |_=>rw[E,a]at p;exact p.elim
    |_=>rw[E]at p;exact p.elim
  |_=>exact p.elim
 |_=>cases v<;>exact p.elim
variable {a b:Expr}{ma mb:Ev}
def fT (t:TA):TE:=λσ H Q=>t σ H λvs H1=>∃i j:Int,vs=[.int i,.int j]/\∀p,H1 p=none->Q (.ref p) (upd H1 p (.rng i j))
def Co {T:TA}(g:Gl X "range")(hm:X.mg "range"=none)(k:PA X [a,b] T)(f:starEach [a,b] X.env=[(false,eval a X.env),(false,eval b X.env)])(c:starEach [b] X.env=[(false,eval b X.env)]):PE X (.Call (.Name "range" p) [a,b] [] pos) (fT T):=by
 intro pins s σ H Q I h;refine Call_ (Qr I g hm boot_range (PyProof.Rows.callWith_type1 (qc (k pos pins s σ H _ I h) λus s1 ⟨vs,H1,d,r,e⟩=>?_) (by rw[f,c]) (by rw[c];rfl)))
 obtain⟨i,j,rfl,q⟩:=e;obtain⟨u,v,rfl,⟨t,rfl⟩,⟨l,rfl⟩⟩:=Vals.two r;refine call_range_2 ⟨.ref _,_,d.laid (o:=.rng i j) (λb o E=>af _ E) (ar _) ?_,rfl,q _ (d.hok.fresh (ar _))⟩;exact⟨_,_,_,av _ rfl⟩
noncomputable def JT (lo:Int)(n:Nat):List V:=(List.range n).map λ(i:Nat)=>V.int (lo+i)
def Fz (A:X.calm=true):yv X (.type "list") (λxs H Q=>∃(r:Addr) (i j:Int),xs=[.ref r]/\H r=some (.rng i j)/\(-(2 ^ 62)<=i/\i<2 ^ 62)/\(-(2 ^ 62)<=j/\j<2 ^ 62)/\(j-i).toNat<=sizeLine/\∀l,H l=none->Q (.ref l) (upd H l (.lst (JT i (j-i).toNat)))):=by
 intro pins s σ H xs us Q I r h;obtain⟨p,i,j,rfl,x,⟨a1,a2⟩,⟨D,B⟩,z,q⟩:=h;obtain⟨u,rfl,g⟩:=vals1 r;cases g;obtain⟨t1,T,t3,y⟩:=I.hok p _ x;have E:sizeLine=16777216:=sizeLine_eq;refine PySem.call_list_range (n:=(j-i).toNat) (I.ok.hd A) (show IsRange s.heap p i j 1 t1 T t3 from y) (small_one (by omega) (by omega) D B) (by rw[rangeSize_one];split<;>omega) (by omega) λh' tk acc C kk S ⟨hn,d⟩=>?_
 refine⟨.ref s.heap.objs.size,_,I.laid (t':=tk) (o:=.lst (JT i (j-i).toNat)) kk (ar _) ?_,rfl,q _ (I.hok.fresh (ar _))⟩;refine⟨by unfold JT;simpa using z,acc.toList,C,?_,by simpa using S⟩
 have a:∀(l:bV)(k:Nat),(∀(m:Nat) v,l[m]? =some v->∃t,v=.int (i+((k+m:Nat):Int)) t)->Vals ((List.range' k l.length).map λ(m:Nat)=>V.int (i+(m:Int))) l:=by
  intro l
  induction l with
  |nil=>intro k _;exact .nil|cons v l w=>
   intro k e;rw[bj,bQ,aW];refine .cons ?_ (w (k+1) λm f a=>?_)
   ·obtain⟨t,rfl⟩:=e 0 v rfl
    exact⟨t,rfl⟩
   ·obtain⟨t,rfl⟩:=e (m+1) f (by simpa using a)
    exact⟨t,by first|rfl|(congr 1<;>omega)|(simp;omega)⟩
 have b:acc.toList.length=(j-i).toNat:=by simpa using hn
 have:=a acc.toList 0 λm v c=>by
  obtain⟨t,rfl⟩:=d m v (by simpa using c)
  exact⟨t,by first|rfl|(congr 1<;>omega)|(simp;omega)⟩
 rw[b]at this;unfold JT;rw[range_eq_range'];exact this
def KS (ma mb:Ev):Ev:=λρ A=>(ma ρ A).bind λx A1=>(mb ρ A1).bind λy A2=>match x,y with
 |.int i,.int j=>if jD i&&(jD j&&decide ((j-i).toNat<=qf)) then .ok (.ref A2.length) (A2++[.lst ((List.range (j-i).toNat).map λ(k:Nat)=>W.int (i+k))]) else .bad|_,_=>.bad
variable {prog:Program}{A:Around}
def Im {t S:Addr}{l v:Value}{lo hi:cb}(H:IsTup s.heap t items)(d:s.heap.IsSliceOf S l v .none)(p:IsPart l lo)(pu:IsPart v hi)
  (hw:HT.qM items.size 0 lo=0/\HT.qM items.size items.size hi=items.size)(h:Q (.ref t) s):wpAny (model prog w) A (getItem (.ref t) (.ref S)) Q E s:=by
 obtain⟨os,a,b,e⟩:=id d;have c:s.TypeIs (.ref S) "slice":=⟨os,a,b⟩;unfold getItem
 try with_reducible refine wpAny_holding ?_
 first|refine cq (cu ?_)|skip
 refine cq (wpAny_sequenceKey H.typeIs (by decide) ?_)
 refine cq (wpAny_callSpecial?_slot (name:=Str.ofString "__getitem__") H.typeIs PyProof.Rows.slot_tuple_getitem
  (wpAny_call_entry PyProof.Rows.slot_tuple_getitem H.typeIs PyProof.Rows.entry_tuple_getitem ?_ (PyProof.Rows.args_tuple_getitem _ _)))
 show wpAny _ _ (Builtin.Tuple.tupleItemsOf (.ref t) >>= _) _ _ s;refine cq (PyProof.Rows.tupleItemsOf_ H ?_);refine cq (wpAny_typeOf c ?_);rw[ah (by decide)]
 refine cq (HT.S8 d p pu ?_);show wpAny _ _ (if (((HT.qM items.size 0 lo:Nat):Int)==0&&(1:Int)==1&&(HT.qM items.size items.size hi-HT.qM items.size 0 lo)==items.size)=true then _ else _) _ _ s;rw[ah (by rw[hw.1,hw.2];simp)]
 unfold Builtin.Tuple.tupleIsExact;refine cq (cq (wpAny_typeOf H.typeIs (cu ?_)));rw[ah (by decide)]
 refine cq (wpAny_rule ?_)
 first
  |exact cu ⟨_,rfl,cu h⟩
  |exact cq (cu (cu ⟨_,rfl,cu h⟩))
end
section
variable {a:Expr}{m:Ev}{lo hi:Option Expr}{K:Frag}
def fU (K:Frag):V->Option Int->Option Int->Hp->VK->Prop:=λx lo hi H Q=>∃a xs,x=.ref a/\qQ K H a xs/\
 ((HT.qM xs.length 0 lo=0/\HT.qM xs.length xs.length hi=xs.length)->Q (.ref a) H)/\
 (¬(HT.qM xs.length 0 lo=0/\HT.qM xs.length xs.length hi=xs.length)->∀p,H p=none->Q (.ref p) (upd H p (.tup (J2 xs lo hi))))
def BX:Sb X (fU X.K):=by
 intro pins s σ H x v l u lo hi S Q I b d p pu h;obtain⟨a,xs,rfl,c,e,q⟩:=h
 by_cases hw:HT.qM xs.length 0 lo=0/\HT.qM xs.length xs.length hi=xs.length
 ·cases b
  obtain⟨i,r,t,z⟩:=I.tuple c;have hlen:i.toArray.size=xs.length:=by rw[aB];exact r.length.symm
  exact⟨"tuple",_,PyProof.Rows.slot_tuple_getitem.lookup,t.typeIs,Im t d p pu (by rw[hlen];exact hw) ⟨.ref a,H,I,rfl,e hw⟩⟩
 ·exact d1 pins s σ H _ v l u lo hi S Q I b d p pu ⟨a,xs,rfl,c,hw,q hw⟩
abbrev Po:=En->Hx->R (cb)
noncomputable def yz:Po:=λ_ A=>.ok none A
noncomputable def j5 (m:Ev):Po:=λρ A=>(m ρ A).bind λw A1=>match w with
 |.int i=>.ok (some i) A1|_=>.bad
noncomputable def kA (ws:List W)(lo hi:cb):List W:=(ws.drop (HT.qM ws.length 0 lo)).take (HT.qM ws.length ws.length hi-HT.qM ws.length 0 lo)
def yc (m:Ev)(p pu:Po):Ev:=λρ A=>(m ρ A).bind λw A1=>(p ρ A1).bind λl A2=>(pu ρ A2).bind λu a=>match w with
 |.tup ws=>.ok (.tup (kA ws l u)) a|_=>.bad
inductive MP (K:Frag)(xr:XR)(p:Po)(σ:St)(H:Hp)(Q:Option Int->Hp->Prop):Prop
 |mk (φ:bW) (A:Hx) (ρ:En) (S:zS K φ A H) (re:RE K φ H ρ σ) (h:(p ρ A).post (λo A1=>∀φ1 H1,Le K φ H φ1 H1->zS K φ1 A1 H1->Q o H1) (EB K φ H xr))
noncomputable def tP (K:Frag)(x:XR)(p:Po):TO:=λσ H Q=>MP K x p σ H Q
def SP (X:Cx)(x:XR)(e:Option Expr)(p:Po):Prop:=PO X e (tP X.K x p)
def PO.imp {e:Option Expr}{t t':TO}(h:PO X e t)(i:∀σ H Q,t' σ H Q->t σ H Q):PO X e t':=λpins s σ H Q I hw=>h pins s σ H Q I (i σ H Q hw)
def Mq (c:SE X xr e m):SP X xr (some e) (j5 m):=PO.imp (Aa c) λσ H Q ⟨φ,A,ρ,S,re,h⟩=>by
 refine tM.go S re (qd.mp h) λw A1 a H1 v b l s q=>?_;cases w with
 |int i=>obtain rfl:=q;exact⟨i,rfl,b a H1 l s⟩|_=>exact b.elim
end
def DM (xs:Array Value):((List.range xs.size).filterMap λ(k:Nat)=>xs[(((xs.size:Int)-1)+(k:Int) * (-1)).toNat]?).toArray=xs.toList.reverse.toArray:=by
 congr 1
 have e:∀k,k<xs.size->xs[(((xs.size:Int)-1)+(k:Int) * (-1)).toNat]? =some (xs.toList.reverse.getD k .none):=λk h=>by
  have H:(((xs.size:Int)-1)+(k:Int) * (-1)).toNat=xs.size-1-k:=by omega
  rw[H,ae,List.getElem?_reverse (by simpa using h),bE,aR,Array.getElem?_eq_getElem (by omega)]
  rfl
 have E:((List.range xs.size).filterMap λ(k:Nat)=>xs[(((xs.size:Int)-1)+(k:Int) * (-1)).toNat]?)=(List.range xs.size).map λk=>xs.toList.reverse.getD k .none:=by
  have b:∀l:bY,(∀k∈l,k<xs.size)->(l.filterMap λ(k:Nat)=>xs[(((xs.size:Int)-1)+(k:Int) * (-1)).toNat]?)=l.map λk=>xs.toList.reverse.getD k .none:=by
   intro l
   induction l with
   |nil=>intro _;rfl|cons k l I=>
    intro h;rw[bp,e k (h k (au ..)),aW,I λj a=>h j (aq _ a)]
  exact b _ λk h=>cz.mp h
 rw[E]
 apply bz
 ·simp
 ·intro i H c
  rw[List.getElem_map,List.getElem_range,ae,aa c]
  rfl
section
variable {K:Frag}
def HF (h:Vals xs us):Vals xs.reverse us.reverse:=by
 induction h with
 |nil=>exact .nil|cons r t i=>rw[reverse_cons,reverse_cons];exact i.append (.cons r .nil)
theorem zE.rev:∀{ws:List W}{vs:List V},zE K φ H ws vs->zE K φ H ws.reverse vs.reverse
 |[],_,h=>by cases h;rfl|w::ws,_,⟨v,r,e,h,t⟩=>by
  subst e;rw[reverse_cons,reverse_cons];exact zE.app (zE.rev t) ⟨v,[],rfl,h,rfl⟩
end
noncomputable def GY (_ j:Int):Bool:=decide (0<j)&&decide (j<1152921504606846976)
def La (i j:Int):Prop:=0<j/\j<1152921504606846976
def DY (i j:Int)(h:GY i j=true):La i j:=by
 unfold GY at h;rw[ak]at h;exact⟨of_decide_eq_true h.1,of_decide_eq_true h.2⟩
def C5:ji X (binaryOp .FloorDiv) (rI La λi j=>.int (i/j)):=Xu λi j _ _ _ _ _ h q=>by
 have a:(0:Int)<j:=h.1;have H:j<1152921504606846976:=h.2;refine floordiv_int (by omega) (by rw[Int.fdiv_eq_ediv_of_nonneg i (by omega)];exact q) (.inl (PyProof.noPylong_of_log2 ?_))
 have h0:j.natAbs≠0:=by omega
 have:j.natAbs.log2<60:=(Nat.log2_lt h0).mpr (by omega)
 omega
def ZU:=QM GY λi j=>.int (i/j)
noncomputable def Jn (RF:Nat->List W->Hx->R W):Fn:=λus A=>match us with
 |[.clo k ws _]=>RF k ws A|_=>.bad
def OH {RF:Nat->List W->Hx->R W}(PG:jW)(us:List W)(A:Hx):Jn RF us A=.bad∨Za PG RF (us.map (G5 PG)) A=Jn RF us A:=by
 cases us with
 |nil=>exact .inl rfl|cons u us=>
  cases us with
  |cons v us=>cases u<;>exact .inl rfl|nil=>
   cases u with
   |clo k ws P=>
    refine .inr ?_;show Za PG RF [.clo k ws (PG k)] A=RF k ws A;unfold Za;dsimp only;rw[ah rfl]
   |_=>exact .inl rfl
def Lq (e:Expr):Expr:=match e with
 |.Compare l _ _ _=>l|_=>Jm
open Classical in
def NS (q:Str)(fs:Addr->Fn):Prop:=∀ns:bU,ns.length<=63->∀Pt,∃A,fs Pt [.ref 0] [.ro (ns.map W.int),.tab q Pt]=.ok (.bl true) A
def zcw {y:Str}{l:PySem.W.OpenLaw}{q:Program}{loose:bZ}{J:World->Heap->Prop}{d:DefRec}{Kp:Params->Frag}{Q:Str}{fs:Addr->Fn}(ok:NS Q fs)
  (hn:l.most=some 63)(B:d.params.defaults=[])(Z:jR k callerA)(hY:∀(w:World)(h:Heap),J w h->(Kp w.params).In h)(hT:∀(w:World)(h:Heap),J w h->h.get? Pt=some (tabObj #[]))(M:∀p,UT (Kp p) y Pt=true)(P:∀p,(Kp p).lookup Pt=none)
  (F:∀(w:World)(mg:cc)(i:Addr)(h:Heap),(Kp w.params).In h->h.Ns mainGlobals mg->mg d.name=some (.ref i)->(∃c,tabIn (Kp w.params) y=some (c,Pt)/\codeHdIn (Kp w.params) c Pt=true)->
   ∃fd:FuncData,(∀(s:Shared)(u:Value),BindsTo s fd ⟨[u],[]⟩ [(x,u)])/\∀base:Heap,(Kp w.params).In base->base.Ns mainGlobals mg->BMain mg base->ko l.prog w (Kp w.params) mg base wX k i fd [x] (ZA (Kp w.params) 1 (fs Pt))):
  PySem.W.WalkO q loose XP J l.row.toRowW d [] (λf vs=>PySem.call f vs):=by
 refine Att.Fe (n:=63) hn B λw L S mg mb i o pm cd doc a vs ns G Y ho hd N t j hints hlen hg=>?_;have K:=hY w _ Y;obtain⟨fd,hb,hF⟩:=F w mg i _ K G.T.g t (P7 (M w.params));obtain⟨c,_,C⟩:=P7 (M w.params);have U:=hT w _ Y;have hc:isCodeTable S.heap Pt:=((codeHd_of_K K C).tab U).isCodeTable;have D:BMain mg S.heap:=by
  obtain⟨bm,ob,b1,b2,I,b4,b5,E⟩:=G.T.bmain;refine⟨bm,ob,b1,b2,λz=>?_,I,b4,b5,E⟩;obtain⟨o,es,ep,e,hd,_⟩:=G.T.g;rw[z,e]at I;cases I;rw[hd]at E;cases E
 refine Eu K G.T.g G.T.b G.T.builtins G.T.nolimit hg j hints (bb hlen (by decide)) Z U (P w.params) hc D hF hb λH h1 h2=>?_
 refine⟨rfl,[a,Pt],[.ro (ns.map W.int),.tab Q Pt],[.ref 0],Eb h1 h2,.one ⟨a,rfl,rfl⟩,?_⟩;obtain⟨A,e⟩:=ok ns hlen Pt;rw[e];exactλX H' v _ _ r=>r
def Xi (q:Str)(Pt:Addr)(g:jW->Fn)(us:List W)(A:Hx)(r:R W):Prop:=
 ∃n vs ws w a,us=.ref n::vs/\A[n]? =some (.lst ws)/\A[1]? =some (.tab q Pt)/\jv ws=true/\jv vs=true/\jv a=true/\w.nr=true/\r=.ok w (A.set n (.lst a))/\
  ∀PF,∃A1,g PF (.ref 0::vs) [.lst ws,.tab q Pt]=.ok w A1/\A1[0]? =some (.lst a)/\A1[1]? =some (.tab q Pt)
open Classical in
noncomputable def Y0 (q:Str)(Pt:Addr)(g:jW->Fn):Fn:=λus A=>if h:∃r,Xi q Pt g us A r then h.choose else .bad
def Nh {q:Str}{g:jW->Fn}{us:List W}{r:R W}(h:Xi q Pt g us A r):Y0 q Pt g us A=r:=by
 have H:∃r,Xi q Pt g us A r:=⟨r,h⟩;unfold Y0;rw[dif_pos H];obtain⟨n,vs,ws,w,d,k,j,s,_,_,_,_,i,E⟩:=H.choose_spec;obtain⟨N,v,e,l,a,f1,f2,p,_,_,_,_,f4,f⟩:=h;rw[k]at f1;cases f1;rw[j]at f2;cases f2;obtain⟨A1,g1,g2,g3⟩:=E λ_ _ _ _ _=>True;obtain⟨A2,c,b,o⟩:=f λ_ _ _ _ _=>True;rw[g1]at c;cases c;rw[g2]at b;cases b;rw[i,f4]
end Mi
namespace PySem.SeqAt
open PySem
end PySem.SeqAt
namespace Mi
open PySem PySem.Spec PyProof.Rows L2
section
variable {prog:Program}{A:Around}
def Hh {l:Addr}(B:A.handled=none)(x:s.heap.IsTuple l its.toArray)(j:IntsAre its (vs.map λ(v:Nat)=>(v:Int)))(C:∀v∈vs,v<8)
  (h:∀(h':Heap)(tk:Nat),ym h' s.heap.objs.size led (vs.foldl jV 0)->
   (∀b o,b<s.heap.objs.size->s.heap.get? b=some o->h'.get? b=some o)->Q .none { s with heap:=h',toks:=tk }):
  codeAny (model prog w) A (.call (.builtin "set.__init__") ⟨[.ref s.heap.objs.size,.ref l],[]⟩) (wants Q E) { s with heap:=s.heap.push (yL led) }:=by
 have hlen:its.length=vs.length:=by
  have:∀{its:bV}{ns:bU},IntsAre its ns->its.length=ns.length:=λh=>by
   induction h with
   |nil=>rfl|cons _ _ _ I=>simp[I]
  rw[this j,ag]
 have S:(s.heap.push (yL led)).get? s.heap.objs.size=some (yL led):=av _ rfl;refine codeAny_call_builtin F.called_set.init.plain F.entry_set_init (check_set_init_1 ⟨_,S,rfl⟩ ?_);obtain⟨ob,d,a,n,k⟩:=x;obtain⟨N,K,u,r⟩:=ob;dsimp only at a k;cases a;cases k;have g1:=af (yL led) d;have n1:=F.sub_tuple_set;have U:=F.sub_tuple_frozenset;have P:(Value.type "tuple" == Value.type "dict")=false:=by decide
 have p:(s.heap.push (yL led)).IsTuple l its.toArray:=⟨_,g1,rfl,n,rfl⟩;unfold Builtin.«set.__init__» noKeywords Builtin.Frozenset.updateFrom;generalize y:pyIter=PI
 wp_walk
 subst y;refine wpAny_pyIter_tuple p (cq (wpAny_runValue ?_));have lt:l<s.heap.objs.size:=aF d;have sz:(s.heap.push (yL led)).objs.size=s.heap.objs.size+1:=bg ..;have ne:l≠(s.heap.push (yL led)).objs.size:=by rw[sz];exact aI (a6 lt)
 have W:=(Walks.tuple (prog:=prog) (w:=w) (A:=A.in1.in1) (by simp[B]) (s.heap.push (yL led)).objs.size l ne its.toArray).toS
 have f:its.toArray.size=vs.length:=by rw[aB];exact hlen
 rw[f]at W;have off:s.heap.objs.size∉[(s.heap.push (yL led)).objs.size,l]:=by
  rw[sz];intro hm;rcases cw.mp hm with z|hm
  ·exact aI (bh _) z
  ·exact br lt (cA.mp hm)
 have H:Zp (λi=>vs.getD i 0) vs.length=vs.foldl jV 0:=by
  unfold Zp
  congr 1
  apply bz
  ·simp
  ·intro i d a
   have hi:i<vs.length:=by simpa using a
   simp[ae,aa hi]
 refine Oq W s.heap.objs.size off led (λi=>vs.getD i 0) (λi v e=>?_) (λi hi=>?_) vs.length 0 _ rfl (zero_le _) ⟨⟨_,av _ rfl,rfl,rfl⟩,p.push _⟩ ?_ ?_
 ·obtain⟨t,g⟩:=IntsAre.int_at j i v (by simpa using e)
  refine⟨t,g.trans ?_⟩;have hi:i<vs.length:=by
   have:=(cx.mp (show its[i]? =some v by simpa using e)).1
   omega
  congr 1
  simp[ae,ax,aa hi]
 ·rw[ae,aa hi]
  exact C _ (aM hi)
 ·exact Me led (af _ S)
 ·intro s' M q
  rw[H]at q;obtain⟨h',g',d',T,c⟩:=s';have J:g'=s.gens:=M.gens;have g:d'=s.drawn:=M.drawn;have D:c=s.os:=M.os;subst J g D;refine cu ?_;show wpAny _ _ (ret Value.none) _ _ _;refine cu (h h' T q λb o L e=>M.heap b o (λhm=>?_) (af _ (af _ e)));rcases cw.mp hm with z|hm
  ·exact aI L z
  ·exact aI (a6 L) ((cA.mp hm).trans sz)
def Hs {l:Addr}(j:A.handled=none)(t:s.heap.IsTuple l its.toArray)(i:IntsAre its (vs.map λ(v:Nat)=>(v:Int)))(n:∀v∈vs,v<8)
  (h:∀(h':Heap)(tk:Nat),ym h' s.heap.objs.size (jA w) (vs.foldl jV 0)->
   (∀b o,b<s.heap.objs.size->s.heap.get? b=some o->h'.get? b=some o)->Q (.ref s.heap.objs.size) { s with heap:=h',toks:=tk }):
  wpAny (model prog w) A (call (.type "set") [.ref l]) Q E s:=by
 obtain⟨c,q,d⟩:=F.called_set.mro;have a1:=F.called_set.made;have a2:=F.called_set.sub;have C:=F.called_set.notType;have z:=F.called_set.canCreate;have y:=F.typeCall_set_1 (.ref l);refine wpAny_call (codeAny_of_tree ?_);show wpAny _ _ (callAny (.type "set") _) _ _ _;refine cu ⟨Code.quiet_builtin _ (by decide +kernel),codeAny_builtin F.entry_type_call ?_⟩
 rw[Around.under_plain (weight_type_call_type "set" [.ref l] []) rfl]
 repeat (any_goals (first|assumption|wp_step))
 refine codeAny_mono (Rp (.ref l) (E:=E) (Q1:=λu s1=>u=.ref s.heap.objs.size/\s1={ s with heap:=s.heap.push (yL (jA w)) }) ⟨rfl,rfl⟩) λr s1 a=>?_
 cases r with
 |error e=>exact a|ok p=>
  cases p with
  |ret u=>
   obtain⟨rfl,rfl⟩:=a;have T:Shared.TypeIs { s with heap:=s.heap.push (yL (jA w)) } (.ref s.heap.objs.size) "set":=⟨_,av _ rfl,rfl⟩
   have x:=F.called_set.init.lookup;have B:=F.called_set.init.bind (.ref s.heap.objs.size)
   repeat (any_goals (first|assumption|wp_step))
   refine codeAny_mono (Hh (E:=E) (Q:=λv s2=>v=.none/\∃h' tk,s2={ s with heap:=h',toks:=tk }/\ym h' s.heap.objs.size (jA w) (vs.foldl jV 0)/\
    ∀b o,b<s.heap.objs.size->s.heap.get? b=some o->h'.get? b=some o) (by simp[j]) t i n λh' tk S k=>⟨rfl,h',tk,rfl,S,k⟩) λg s2 H=>?_
   cases g with
   |error e=>exact H|ok f=>
    cases f with
    |ret v=>
     obtain⟨rfl,h',tk,rfl,S,k⟩:=H
     repeat (any_goals (first|assumption|wp_step))
     exact h _ _ S k
    |_=>exact H.elim
  |_=>exact a.elim
end
section
variable {m:Ev}
def fV (K:Frag)(w:World):List V->Hp->VK->Prop:=λxs H Q=>∃(p:Addr) (vs:bY),xs=[.ref p]/\qQ K H p (vs.map λ(v:Nat)=>V.int (v:Int))/\(∀v∈vs,v<8)/\∀l,H l=none->Q (.ref l) (upd H l (.ext λh=>ym h l (jA w) (vs.foldl jV 0)))
def E6 (k:X.calm=true):yv X (.type "set") (fV X.K X.w):=by
 intro pins s σ H xs us Q I r h;obtain⟨p,vs,rfl,g,l,q⟩:=h;obtain⟨u,rfl,d⟩:=vals1 r;cases d;obtain⟨i,c,P,_⟩:=I.tuple g;have f:Vals ((vs.map λ(v:Nat)=>(v:Int)).map V.int) i:=by rw[aP];exact c
 refine Hs (I.ok.hd k) P (intsAre_of f) l λh' tk S kp=>?_;refine⟨.ref s.heap.objs.size,_,I.laid (t':=tk) (o:=.ext λh=>ym h s.heap.objs.size (jA X.w) (vs.foldl jV 0)) (λb o e=>kp b o (aF e) e) (ar _) ⟨S,?_,λt n a b=>a.keep b⟩,rfl,q _ (I.hok.fresh (ar _))⟩;obtain⟨o,E,x,j,_⟩:=S;exact⟨o,j⟩
def VD:W->Hx->R W:=λw A=>match w with
 |.tup ws=>match intsOf ws with
  |some is=>match ZT is with
   |some vs=>.ok (.ref A.length) (A++[.lst (((List.range 8).filter λi=>decide (i∈vs)).map λ(i:Nat)=>W.int (i:Int))])|none=>.bad
  |none=>.bad
 |_=>.bad
def W5 (m:Ev):Ev:=λρ A=>(m ρ A).bind λw A1=>VD w A1
end
section
variable {prog:Program}{A:Around}
def Io {t S:Addr}{tk:Tok}(c:IsTup s.heap t items)(g:s.heap.IsSliceOf S .none .none (.int (-1) tk))
  (h:Q (.ref s.heap.objs.size) { s with heap:=s.heap.push { cls:=.type "tuple",data:=.seq items.toList.reverse.toArray } })(z:items.size<=sizeLine):wpAny (model prog w) A (getItem (.ref t) (.ref S)) Q E s:=by
 obtain⟨os,a,d,b⟩:=id g;have e:s.TypeIs (.ref S) "slice":=⟨os,a,d⟩;have H:sizeOk (.seq items.toList.reverse.toArray):=by
  show items.toList.reverse.toArray.size<=sizeLine;simpa using z
 unfold getItem
 try with_reducible refine wpAny_holding ?_
 first|refine cq (cu ?_)|skip
 refine cq (wpAny_sequenceKey c.typeIs (by decide) ?_)
 refine cq (wpAny_callSpecial?_slot (name:=Str.ofString "__getitem__") c.typeIs PyProof.Rows.slot_tuple_getitem
  (wpAny_call_entry PyProof.Rows.slot_tuple_getitem c.typeIs PyProof.Rows.entry_tuple_getitem ?_ (PyProof.Rows.args_tuple_getitem _ _)))
 show wpAny _ _ (Builtin.Tuple.tupleItemsOf (.ref t) >>= _) _ _ s;refine cq (PyProof.Rows.tupleItemsOf_ c ?_);refine cq (wpAny_typeOf e ?_);rw[ah (by decide)]
 have p:∀{Q':Int×Int×Nat->Shared->Prop},Q' ((items.size:Int)-1,-1,items.size) s->wpAny (model prog w) A.in1 (Builtin.Slice.sliceApplied (.ref S) (pure (items.size:Int))) Q' E s:=λ {Q'} q=>by
  unfold Builtin.Slice.sliceApplied Builtin.Slice.sliceFields;refine cq (cq (wpAny_field a b (x:=.none) rfl (cq (wpAny_field a b (x:=.none) rfl (cq (wpAny_field a b (x:=.int (-1) tk) rfl (cu ?_)))))));refine cq (HT.Kr (.int (-1) tk) ?_);show wpAny _ _ (if (((-1:Int))==0)=true then _ else _) _ _ s;rw[aj (by decide)]
  refine cq (HT.Kr .none (cq (HT.Kr .none (cq (cu ?_)))));have j:Builtin.Slice.sliceAdjust none none (-1) (items.size:Int)=((items.size:Int)-1,-1):=rfl;show wpAny _ _ (match Builtin.Slice.sliceAdjust none none (-1) (items.size:Int) with|(lo,hi)=>pure (lo,(-1:Int),Builtin.Slice.slicePlaces lo hi (-1))) _ _ s
  rw[j];have i:Builtin.Slice.slicePlaces ((items.size:Int)-1) (-1) (-1)=items.size:=by
   unfold Builtin.Slice.slicePlaces;rw[aj (by decide)]
   by_cases f:items.size=0
   ·rw[f,aj (by decide)];rfl
   ·rw[ah (by omega)]
    simp
  show wpAny _ _ (pure ((items.size:Int)-1,(-1:Int),Builtin.Slice.slicePlaces ((items.size:Int)-1) (-1) (-1))) _ _ s;rw[i];exact cu q
 refine cq (p ?_);show wpAny _ _ (if (((items.size:Int)-1==0&&(-1:Int)==1&&items.size==items.size))=true then _ else _) _ _ s;rw[aj (by simp),DM]
 first
  |exact cq (m:=Builtin.Tuple.tupleExact _) (wpAny_newObj_type (cu ⟨_,rfl,cu h⟩) H)
  |exact cq (m:=Builtin.Tuple.tupleExact _) (wpAny_newObj_type (cq (cu (cu ⟨_,rfl,cu h⟩))) H)
  |exact cq (cq (m:=Builtin.Tuple.tupleExact _) (wpAny_newObj_type (cu (cu ⟨_,rfl,cu h⟩)) H))
  |exact cq (cq (m:=Builtin.Tuple.tupleExact _) (wpAny_newObj_type (cu ⟨_,rfl,cu h⟩) H))
end
section
variable {st:Expr}{m ms:Ev}{te:TE}{ts:TO}{p2:Pos}{K:Frag}
def fW (K:Frag):V->Hp->VK->Prop:=λx H Q=>∃a xs,x=.ref a/\qQ K H a xs/\∀p,H p=none->Q (.ref p) (upd H p (.tup xs.reverse))
def Bs (he:PE X e te)(l:PO X (some st) ts):PE X (.Subscript e (.Slice none none (some st) p2) pos) (λσ H Q=>te σ H λx H1=>ts σ H1 λo B=>o=some (-1)/\fW X.K x B Q):=by
 intro pins s σ H Q I h;refine Subscript_ (qc (he pins s σ H _ I h) λv s1 ⟨x,H1,u,f,j⟩=>?_);refine wpAny_Slice ?_;rw[evalPart_none];refine cu (cu ?_);refine qc (l pins s1 σ H1 _ u j) λvs s3 ⟨o,y,p,po,g⟩=>?_;obtain⟨rfl,a,xs,rfl,k,q⟩:=g;cases f;cases po with
 |int i tk=>
  have d:Inv X pins σ y { s3 with heap:=s3.heap.push { cls:=.type "slice",data:=.fields #[.none,.none,.int (-1) tk] } }:=p.kept (t':=s3.toks) λb ob q=>af _ q
  obtain⟨c,r,t,z⟩:=d.tuple k;have hlen:c.toArray.size=xs.length:=by rw[aB];exact r.length.symm
  have n:wpAny (model X.prog X.w) X.A (getItem (.ref a) (.ref s3.heap.objs.size)) (EP X pins σ Q) X.xe { s3 with heap:=s3.heap.push { cls:=.type "slice",data:=.fields #[.none,.none,.int (-1) tk] } }:=by
   refine Io t (Heap.IsSliceOf.new ..) ?_ (by rw[hlen];exact z)
   refine⟨.ref _,_,d.laid (t':=s3.toks) (o:=.tup xs.reverse) (λb ob q=>af _ q) (ar _) ?_,rfl,q _ (d.hok.fresh (ar _))⟩;exact⟨by rw[List.length_reverse];exact z,c.reverse,HF r,Qs.new _ _⟩
  show wpAny (model X.prog X.w) X.A (subscriptTail e (.Slice none none (some st) p2) (.ref a) (.ref s3.heap.objs.size)) (EP X pins σ Q) X.xe _;exact tail_any (ops:=[.ref a,.ref s3.heap.objs.size]) t.typeIs PyProof.Rows.slot_tuple_getitem.lookup n (by with_unfolding_all rfl)
def YY (m ms:Ev):Ev:=λρ A=>(m ρ A).bind λw A1=>(j5 ms ρ A1).bind λo A2=>match w with
 |.tup ws=>if o=some (-1) then .ok (.tup ws.reverse) A2 else .bad|_=>.bad
noncomputable def J7 (m:Ev):Ev:=λρ A=>(m ρ A).bind λw A1=>match w with
 |.ref n=>match A1[n]? with
  |some (.lst ws)=>.ok (.bl (!ws.isEmpty)) A1|_=>.bad
 |_=>.bad
end
open PySem.W (KasT kas_rev kas_asc kas_desc kas_tail3 kas_descPart kas_count kas_place kas_bin kas_sort)
noncomputable def TW (n:Nat)(c:Nat->Nat->Bool):KasT α->(α->Prop)->Prop
 |.ret a,Q=>Q a|.ask i j k,Q=>i<n/\j<n/\TW n c (k (c i j)) Q
theorem TW.bind {β:Type}{c:Nat->Nat->Bool}{f:α->KasT β}{Q:β->Prop}:∀(t:KasT α),TW n c t (λa=>TW n c (f a) Q)->TW n c (t.bind f) Q
 |.ret _,h=>h|.ask i j k,h=>⟨h.1,h.2.1,TW.bind (k (c i j)) h.2.2⟩
theorem TW.wp {c:Nat->Nat->Bool}{cmp:Nat->Nat->(Bool->Shared->Prop)->Shared->Prop}{G:α->Shared->Prop}(H:∀i j C,i<n->j<n->C (c i j) s->cmp i j C s):
  ∀(t:KasT α),TW n c t (λa=>G a s)->t.kasWp cmp G s
 |.ret _,h=>h|.ask i j k,h=>H i j _ h.1 h.2.1 (TW.wp H (k (c i j)) h.2.2)
section
variable {O:KeyOrd}{key:Nat->O.α}
noncomputable def gk (key:Nat->O.α)(p:Array Nat)(i:Nat):O.α:=key (p.getD i 0)
noncomputable abbrev kc (key:Nat->O.α)(i j:Nat):Bool:=O.blt (key i) (key j)
def wV (key:Nat->O.α)(p:Array Nat)(m:Nat):Prop:=∀i j,i<=j->j<m->O.kle (gk key p i) (gk key p j)
def gM (key:Nat->O.α)(p:Array Nat)(m:Nat):Prop:=∀i j,i<=j->j<m->O.kle (gk key p j) (gk key p i)
structure yN (n:Nat)(p:Array Nat):Prop where
 pm:p.Perm (List.range n).toArray
theorem yN.size {p:Array Nat}(h:yN n p):p.size=n:=by rw[h.pm.size_eq];simp
def yN.lt {p:Array Nat}(h:yN n p)(hn:0<n)(i:Nat):p.getD i 0<n:=by
 by_cases hi:i<p.size
 ·have e:p.getD i 0=p[i]:=by simp[Array.getD,hi]
  have m:p[i]∈p.toList:=Array.mem_toList_iff.mpr (Array.getElem_mem hi)
  have:=(Array.perm_iff_toList_perm.mp h.pm).mem_iff.mp m
  rw[e];simpa using this
 ·have e:p.getD i 0=0:=by simp[Array.getD,hi]
  rw[e];exact hn
def yN.rev {p:Array Nat}(h:yN n p)(i j:Nat):yN n (kas_rev p i j):=⟨(mirror_perm _ _ _ _).trans h.pm⟩
def yN.bub {p:Array Nat}(h:yN n p)(i j:Nat):yN n (bubble p i j):=⟨(bubble_perm _ _ _).trans h.pm⟩
def KI {p q:Array Nat}(h:p[i]? =q[j]?):gk key p i=gk key q j:=by
 unfold gk;rw[Array.getD_eq_getD_getElem?,Array.getD_eq_getD_getElem?,h]
def UD {p:Array Nat}(h:j<=p.size)(k:Nat):gk key (kas_rev p i j) k=if i<=k/\k<j then gk key p (i+j-1-k) else gk key p k:=by
 have e:=getElem?_mirror_all (xs:=p) (i:=i) h k
 by_cases c:i<=k/\k<j
 ·rw[ah c]at e
  rw[ah c];exact KI e
 ·rw[aj c]at e
  rw[aj c];exact KI e
def Vq {p:Array Nat}(H:j<=p.size)(h:∀k,i<=k->k<j->gk key p k=gk key p (j-1))(k:Nat):gk key (kas_rev p i j) k=gk key p k:=by
 rw[UD H]
 by_cases c:i<=k/\k<j
 ·rw[ah c,h k c.1 c.2]
  exact h _ (by omega) (by omega)
 ·rw[aj c]
def N7 {p:Array Nat}{a d:Nat}(h:a<p.size)(hd:d<=a)(k:Nat):gk key (bubble p a d) k=if k=a-d then gk key p a else if a-d<k/\k<=a then gk key p (k-1) else gk key p k:=by
 have e:=getElem?_bubble h d hd k
 by_cases c:k=a-d
 ·rw[ah c]at e
  rw[ah c];exact KI e
 ·rw[aj c]at e
  rw[aj c]
  by_cases c2:a-d<k/\k<=a
  ·rw[ah c2]at e
   rw[ah c2];exact KI e
  ·rw[aj c2]at e
   rw[aj c2];exact KI e
def wV.one {p:Array Nat}:wV key p 1:=λi j H h=>by
 obtain rfl:i=0:=by omega
 obtain rfl:j=0:=by omega
 exact KeyOrd.kle_refl _
def wV.more {p:Array Nat}{m:Nat}(h:wV key p m)(hm:1<=m)(H:O.kle (gk key p (m-1)) (gk key p m)):wV key p (m+1):=λi j a b=>by
 rcases lt_or_ge j m with c|c
 ·exact h i j a c
 ·obtain rfl:j=m:=by omega
  rcases lt_or_ge i j with C|C
  ·exact KeyOrd.kle_trans (h i (j-1) (by omega) (by omega)) H
  ·obtain rfl:i=j:=by omega
   exact KeyOrd.kle_refl _
def gM.more {p:Array Nat}{m:Nat}(h:gM key p m)(hm:1<=m)(H:O.kle (gk key p m) (gk key p (m-1))):gM key p (m+1):=λi j a b=>by
 rcases lt_or_ge j m with c|c
 ·exact h i j a c
 ·obtain rfl:j=m:=by omega
  rcases lt_or_ge i j with C|C
  ·exact KeyOrd.kle_trans H (h i (j-1) (by omega) (by omega))
  ·obtain rfl:i=j:=by omega
   exact KeyOrd.kle_refl _
def gM.same {p q:Array Nat}{m:Nat}(h:gM key p m)(e:∀k,gk key q k=gk key p k):gM key q m:=λi j a H=>by
 rw[e,e];exact h i j a H
theorem Tf {p:Array Nat}(P:yN n p)(hn:0<n):∀(f a:Nat){Q:Nat->Prop},1<=a->wV key p a->(∀m,a<=m->m<=a+f->wV key p m->m=a+f∨O.klt (gk key p m) (gk key p (m-1))->Q m)->TW n (kc key) (kas_asc p f a) Q
 |0,a,Q,_,H,h=>h a (ar _) (ar _) H (.inl rfl)|f+1,a,Q,h1,H,h=>by
  refine⟨P.lt hn _,P.lt hn _,?_⟩;cases e:kc key (p.getD a 0) (p.getD (a-1) 0) with
  |true=>exact h a (ar _) (by omega) H (.inr e)|false=>exact Tf P hn f (a+1) (by omega) (H.more h1 e) λm d c b o=>h m (by omega) (by omega) b (by rcases o with o|o;exact .inl (by omega);exact .inr o)
theorem GU (hn:0<n):∀(f:Nat)(p:Array Nat)(a q:Nat){Q:Array Nat×Nat×Nat->Prop},yN n p->q+1<=a->a+f<=n->gM key p a->(∀k,a-(q+1)<=k->k<a->gk key p k=gk key p (a-1))->
  (∀b m d,yN n b->a<=m->m<=a+f->gM key b m->d+1<=m->(∀k,m-(d+1)<=k->k<m->gk key b k=gk key b (m-1))->Q (b,m,d))->TW n (kc key) (kas_desc f p a q) Q
 |0,p,a,q,Q,P,g,o,H,he,h=>h p a q P (ar _) (ar _) H g he|f+1,p,a,q,Q,P,g,o,H,he,h=>by
  refine⟨P.lt hn _,P.lt hn _,?_⟩;have one:∀r:Array Nat,∀k,a+1-(0+1)<=k->k<a+1->gk key r k=gk key r (a+1-1):=λr k x y=>by
   obtain rfl:k=a:=by omega
   rfl
  have up:∀b m d,yN n b->a+1<=m->m<=a+1+f->gM key b m->d+1<=m->(∀k,m-(d+1)<=k->k<m->gk key b k=gk key b (m-1))->Q (b,m,d):=λb m d a1 a2 v u t A=>h b m d a1 (by omega) (by omega) u t A
  cases e:kc key (p.getD a 0) (p.getD (a-1) 0) with
  |true=>
   show TW n (kc key) (if q > 0 then _ else _) Q;have lt:O.kle (gk key p a) (gk key p (a-1)):=KeyOrd.kle_of_klt e
   by_cases l:q > 0
   ·rw[ah l]
    have E:=Vq (key:=key) (p:=p) (i:=a-(q+1)) (j:=a) (by rw[P.size];omega) he
    exact GU hn f _ (a+1) 0 (P.rev _ _) (by omega) (by omega) ((H.more (by omega) lt).same E) (one _) up
   ·rw[aj l]
    exact GU hn f _ (a+1) 0 P (by omega) (by omega) (H.more (by omega) lt) (one _) up
  |false=>
   refine⟨P.lt hn _,P.lt hn _,?_⟩;cases s:kc key (p.getD (a-1) 0) (p.getD a 0) with
   |true=>exact h p a q P (ar _) (by omega) H g he|false=>
    have eq:gk key p a=gk key p (a-1):=KeyOrd.kle_antisymm (show O.kle (gk key p a) (gk key p (a-1)) from s) (show O.kle (gk key p (a-1)) (gk key p a) from e)
    refine GU hn f p (a+1) (q+1) P (by omega) (by omega) (H.more (by omega) (by rw[eq];exact KeyOrd.kle_refl _)) (λk x y=>?_) up
    show gk key p k=gk key p a;rcases lt_or_ge k a with c|c
    ·rw[eq];exact he k (by omega) c
    ·obtain rfl:k=a:=by omega
     rfl
def NZ {p:Array Nat}{a r:Nat}{Q:Nat×Array Nat->Prop}(hn:0<n)(P:yN n p)(c:1<=a)(e:a<=r)(d:r<=n)(s:gM key p a)(h:∀m b,yN n b->1<=m->m<=r->wV key b m->Q (m,b)):TW n (kc key) (kas_tail3 a r p) Q:=by
 refine TW.bind _ (Tf (P.rev _ _) hn _ _ c (λi j x y=>?_) λm x y H _=>h m _ (P.rev _ _) (by omega) (by omega) H)
 have z:a<=p.size:=by rw[P.size];omega
 rw[UD z,UD z,ah (by omega),ah (by omega)]
 exact s _ _ (by omega) (by omega)
def MV {p:Array Nat}{a r:Nat}{Q:Nat×Array Nat->Prop}(hn:0<n)(P:yN n p)(g:a+1<=r)(e:r<=n)(s:gM key p (a+1))(h:∀m b,yN n b->1<=m->m<=r->wV key b m->Q (m,b)):TW n (kc key) (kas_descPart a r p) Q:=by
 refine TW.bind _ (GU hn _ _ _ _ P (by omega) (by omega) s (λk x y=>?_) λb m q d x y H f he=>?_)
 ·obtain rfl:k=a:=by omega
  rfl
 ·show TW n (kc key) (if q > 0 then kas_tail3 m r (kas_rev b (m-(q+1)) m) else kas_tail3 m r b) Q
  by_cases c:q > 0
  ·rw[ah c]
   exact NZ hn (d.rev _ _) (by omega) (by omega) e (H.same (Vq (by rw[d.size];omega) he)) h
  ·rw[aj c]
   exact NZ hn d (by omega) (by omega) e H h
def w_count {p:Array Nat}{r:Nat}{Q:Nat×Array Nat->Prop}(hn:0<n)(P:yN n p)(l:1<=r)(f:r<=n)(h:∀m d,yN n d->1<=m->m<=r->wV key d m->Q (m,d)):TW n (kc key) (kas_count r p) Q:=by
 refine TW.bind _ (Tf P hn _ _ (ar _) wV.one λm x y H o=>?_)
 by_cases c:m=r
 ·rw[ah (by simp[c])]
  exact h m p P x (by omega) H
 ·rw[aj (by simp[c])]
  have lt:O.klt (gk key p m) (gk key p (m-1)):=o.resolve_left (by omega)
  by_cases c2:m > 1
  ·rw[ah c2]
   refine⟨P.lt hn _,P.lt hn _,?_⟩;cases e:kc key (p.getD 0 0) (p.getD (m-1) 0) with
   |true=>exact h m p P x (by omega) H|false=>
    have all:∀k,0<=k->k<m->gk key p k=gk key p (m-1):=λk _ g=>
     KeyOrd.kle_antisymm (H k (m-1) (by omega) (by omega)) (KeyOrd.kle_trans (show O.kle (gk key p (m-1)) (gk key p 0) from e) (H 0 k (by omega) g))
    have s:gM key p m:=λi j a b=>by
     rw[all i (by omega) (by omega),all j (by omega) b]
     exact KeyOrd.kle_refl _
    exact MV hn (P.rev _ _) (by omega) f ((s.more x (KeyOrd.kle_of_klt lt)).same (Vq (by rw[P.size];omega) all)) h
  ·rw[aj c2]
   obtain rfl:m=1:=by omega
   have s:gM key p 1:=λi j a b=>by
    obtain rfl:i=j:=by omega
    exact KeyOrd.kle_refl _
   exact MV hn P (by omega) f (s.more x (KeyOrd.kle_of_klt lt)) h
theorem V3 {p:Array Nat}(hn:0<n)(P:yN n p)(H:wV key p k):∀(f l r:Nat){Q:Nat->Prop},l<=r->r<=k->r-l<=f->(∀i,i<l->O.kle (gk key p i) (gk key p k))->(∀i,r<=i->i<k->O.klt (gk key p k) (gk key p i))->
  (∀m,m<=k->(∀i,i<m->O.kle (gk key p i) (gk key p k))->(∀i,m<=i->i<k->O.klt (gk key p k) (gk key p i))->Q m)->TW n (kc key) (kas_place p k f l r) Q
 |0,l,r,Q,j,d,g,lo,hi,h=>h l (by omega) lo (λi a b=>hi i (by omega) b)|f+1,l,r,Q,j,d,g,lo,hi,h=>by
  show TW n (kc key) (if l ≥ r then _ else _) Q
  by_cases c:l ≥ r
  ·rw[ah c]
   exact h l (by omega) lo (λi a b=>hi i (by omega) b)
  ·rw[aj c]
   refine⟨P.lt hn _,P.lt hn _,?_⟩;cases e:kc key (p.getD k 0) (p.getD ((l+r)/2) 0) with
   |true=>exact V3 hn P H f l ((l+r)/2) (by omega) (by omega) (by omega) lo (λi a b=>KeyOrd.klt_of_klt_of_kle e (H _ _ a b)) h|false=>exact V3 hn P H f ((l+r)/2+1) r (by omega) d (by omega) (λi a=>KeyOrd.kle_trans (H i ((l+r)/2) (by omega) (by omega)) e) hi h
theorem M3 (hn:0<n):∀(f:Nat)(p:Array Nat)(k:Nat){Q:Array Nat->Prop},yN n p->k+f=n->wV key p k->(∀d,yN n d->wV key d n->Q d)->TW n (kc key) (kas_bin f p k) Q
 |0,p,k,Q,P,e,H,h=>h p P (by rw[<- e];exact H)|f+1,p,k,Q,P,e,H,h=>by
  refine TW.bind _ (V3 hn P H k 0 k (by omega) (by omega) (by omega) (λi a=>by omega) (λi a b=>by omega) λm hm lo hi=>?_)
  refine M3 hn f _ (k+1) (P.bub _ _) (by omega) (λi j a b=>?_) h
  have z:k<p.size:=by rw[P.size];omega
  rw[N7 z (by omega),N7 z (by omega),show k-(k-m)=m by omega]
  by_cases ci:i=m
  ·rw[ah ci]
   by_cases c:j=m
   ·rw[ah c];exact KeyOrd.kle_refl _
   ·rw[aj c,ah (by omega)]
    exact KeyOrd.kle_of_klt (hi _ (by omega) (by omega))
  ·rw[aj ci]
   by_cases c:j=m
   ·rw[ah c,aj (by omega)]
    exact lo i (by omega)
   ·rw[aj c]
    by_cases g:m<i/\i<=k
    ·rw[ah g,ah (by omega)]
     exact H _ _ (by omega) (by omega)
    ·rw[aj g]
     by_cases D:m<j/\j<=k
     ·rw[ah D]
      exact H _ _ (by omega) (by omega)
     ·rw[aj D]
      exact H _ _ a (by omega)
def fX {Q:Array Nat->Prop}(a:2<=n)(h:∀p,yN n p->wV key p n->Q p):TW n (kc key) (kas_sort n) Q:=by
 refine TW.bind _ (w_count (by omega) ⟨Array.Perm.refl _⟩ (by omega) (ar _) λm p P b hm H=>?_)
 show TW n (kc key) (if m<n then _ else _) Q
 by_cases c:m<n
 ·rw[ah c]
  show TW n (kc key) (kas_bin (n-max m 1) p (max m 1)) Q;rw[show max m 1=m by omega]
  exact M3 (by omega) _ _ _ P (by omega) H h
 ·rw[aj c]
  obtain rfl:m=n:=by omega
  exact h p P H
end
open PySem.W (KasT kas_sort kas_ask kat_run kat_snds kat_kind kat_lt kat_cons kat_nil kat_yes kat_no kat_one KatLex KatGo KatTups)
noncomputable def j8:List Int->List Int->Bool
 |[],[]=>false|[],_::_=>true|_::_,[]=>false|a::x,b::y=>if a=b then j8 x y else decide (a<b)
theorem VX:∀x:bU,j8 x x=false
 |[]=>rfl|a::x=>by unfold j8;rw[ah rfl];exact VX x
theorem Nq:∀x y z:bU,j8 x y=true->j8 y z=true->j8 x z=true
 |[],[],_,h,_=>by cases h|[],_::_,[],_,h=>by cases h|[],_::_,_::_,_,_=>rfl|_::_,[],_,h,_=>by cases h|_::_,_::_,[],_,h=>by cases h|a::x,b::y,c::z,h1,H=>by
  unfold j8 at*
  by_cases E:a=b
  ·subst E
   rw[ah rfl]at h1
   by_cases e:a=c
   ·rw[ah e]at H ⊢
    exact Nq x y z h1 H
   ·rw[aj e]at H ⊢
    exact H
  ·rw[aj E]at h1
   have f:=of_decide_eq_true h1
   by_cases e:b=c
   ·subst e
    rw[aj E];exact h1
   ·rw[aj e]at H
    have d:=of_decide_eq_true H;rw[aj (by omega)]
    exact az (by omega)
theorem Nz:∀x y z:bU,j8 x z=true->j8 x y=true∨j8 y z=true
 |[],[],_,h=>.inr h|[],_::_,_,_=>.inl rfl|_::_,_,[],h=>by cases h|_::_,[],_::_,_=>.inr rfl|a::x,b::y,c::z,h=>by
  unfold j8 at*
  by_cases E:a=b
  ·subst E
   rw[ah rfl]
   by_cases e:a=c
   ·rw[ah e]at h ⊢
    exact Nz x y z h
   ·rw[aj e]at h ⊢
    exact .inr h
  ·rw[aj E]
   by_cases e:a=c
   ·subst e
    rw[aj (Ne.symm E)];rcases Int.lt_or_gt_of_ne E with l|l
    ·exact .inl (az l)
    ·exact .inr (az l)
   ·rw[aj e]at h
    have h':=of_decide_eq_true h
    by_cases d:b=c
    ·subst d
     exact .inl h
    ·rw[aj d]
     rcases Int.lt_or_gt_of_ne E with l|l
     ·exact .inl (az l)
     ·exact .inr (az (by omega))
theorem V2:∀x y:bU,j8 x y=false->j8 y x=false->x=y
 |[],[],_,_=>rfl|[],_::_,h,_=>by cases h|_::_,[],_,h=>by cases h|a::x,b::y,h1,H=>by
  unfold j8 at*
  by_cases e:a=b
  ·subst e
   rw[ah rfl]at h1 H;rw[V2 x y h1 H]
  ·rw[aj e]at h1
   rw[aj (Ne.symm e)]at H;have a1:=of_decide_eq_false h1;have a2:=of_decide_eq_false H;omega
def Xv:KeyOrd:=⟨bU,j8,VX,Nq,Nz,V2⟩
def Y2 (x:bU):List (bU)->List (bU)
 |[]=>[x]|y::l=>if j8 y x then y::Y2 x l else x::y::l
def g8:List (bU)->List (bU)
 |[]=>[]|x::l=>Y2 x (g8 l)
theorem VH (x:bU):∀l,(Y2 x l).Perm (x::l)
 |[]=>List.Perm.refl _|y::l=>by
  unfold Y2
  split
  ·exact((VH x l).cons y).trans (List.Perm.swap x y l)
  ·exact List.Perm.refl _
theorem VB:∀l,(g8 l).Perm l
 |[]=>List.Perm.refl _|x::l=>(VH x (g8 l)).trans ((VB l).cons x)
abbrev Ju (x y:bU):Prop:=j8 y x=false
def fY {x y z:bU}(H:Ju x y)(h:Ju y z):Ju x z:=KeyOrd.kle_trans (O:=Xv) H h
theorem R1 (x:bU):∀{l:bT},l.Pairwise Ju->(Y2 x l).Pairwise Ju
 |[],_=>aZ _ _|y::l,h=>by
  unfold Y2;cases c:j8 y x with
  |true=>
   rw[ah rfl];refine List.pairwise_cons.mpr ⟨λz H=>?_,R1 x (List.pairwise_cons.mp h).2⟩;rcases cw.mp ((VH x l).mem_iff.mp H) with rfl|H
   ·exact KeyOrd.kle_of_klt (O:=Xv) c
   ·exact(List.pairwise_cons.mp h).1 z H
  |false=>
   rw[aj (by simp)]
   refine List.pairwise_cons.mpr ⟨λz H=>?_,h⟩;rcases cw.mp H with rfl|H
   ·exact c
   ·exact fY c ((List.pairwise_cons.mp h).1 z H)
theorem Vf:∀l,(g8 l).Pairwise Ju
 |[]=>.nil|x::l=>R1 x (Vf l)
theorem VQ:∀{a b:bT},a.Perm b->a.Pairwise Ju->b.Pairwise Ju->a=b
 |[],b,p,_,_=>by rw[List.nil_perm.mp p]|x::a,[],p,_,_=>absurd p.length_eq (by simp)|x::a,y::b,p,H,c=>by
  have f:x∈y::b:=p.mem_iff.mp (au ..);have d:y∈x::a:=p.mem_iff.mpr (au ..);have e:x=y:=by
   rcases cw.mp f with e|e
   ·exact e
   ·rcases cw.mp d with E|E
    ·exact E.symm
    ·exact V2 _ _ ((List.pairwise_cons.mp H).1 y E |> λh=>(List.pairwise_cons.mp c).1 x e) ((List.pairwise_cons.mp H).1 y E)
  subst e;rw[VQ (List.Perm.cons_inv p) (List.pairwise_cons.mp H).2 (List.pairwise_cons.mp c).2]
theorem FV:∀{l:bT},l.length<2->l=g8 l
 |[],_=>rfl|[_],_=>rfl|_::_::_,h=>absurd h (by simp)
def Tz {d:α}(l:List α):((List.range l.length).map λi=>l.getD i d)=l:=by
 refine bz (by simp) λi a b=>?_
 simp at a;simp[a]
def AZ (vs:bV):(vs.toArray.zip vs.toArray).map (·.2)=vs.toArray:=by
 apply Array.toList_inj.mp
 rw[Array.toList_map];simp only[Array.toList_zip,List.toList_toArray];exact List.map_snd_zip (ar _)
section
variable {prog:Program}{A:Around}
def fZ {b:Bool}{x y:Int}{t u:Tok}{Q:Bool->Shared->Prop}(h:Q (decide (x<y)) s):wpAny (model prog w) A (oneLt' b (.int x t) (.int y u)) Q E s:=by
 cases b with
 |true=>exact oneLt_int h|false=>exact kat_one _ _ (wpAny_lt_int h)
theorem MK {Q:Bool->Shared->Prop}{b:Bool}:∀{xs ys:bV}{as bs:bU}{i:Nat},IntsAre xs as->IntsAre ys bs->Q (j8 as bs) s->KatLex prog w A b (decide (xs.length<ys.length)) Q (xs.zip ys) i s
 |_,_,_,_,_,.nil,.nil,h=>h|_,_,_,_,_,.nil,.cons _ _ _,h=>by
  refine kat_nil (s:=s) ?_;simpa[j8] using h
 |_,_,_,_,_,.cons _ _ _,.nil,h=>by
  refine kat_nil (s:=s) ?_;simpa[j8] using h
 |_,_,_,_,i,.cons (vs:=xs) a t d,.cons (vs:=ys) c u r,h=>by
  refine kat_cons (wpAny_eqBool_int ?_);unfold j8 at h
  by_cases e:a=c
  ·subst e
   rw[ah rfl]at h;rw[bt];refine kat_yes ?_;show KatLex prog w A b (decide (xs.length+1<ys.length+1)) Q (xs.zip ys) (i+1) s;rw[show decide (xs.length+1<ys.length+1)=decide (xs.length<ys.length) by simp]
   exact MK d r h
  ·rw[aj e]at h
   rw[show(a==c)=false by simp[e]]
   exact kat_no (fZ h)
def J1 (h:Heap)(v:Value)(k:bU):Prop:=∃(a:Addr) (o:Obj) (its:bV) (n:Nat),v=.ref a/\h.get? a=some o/\o.cls=.type "tuple" /\ o.data=.seq its.toArray n/\IntsAre its k
def J1.keep {h':Heap}{v:Value}{k:bU}(t:J1 h v k)(kp:∀b o,h.get? b=some o->h'.get? b=some o):J1 h' v k:=by
 obtain⟨a,o,i,n,e,f,d,c,H⟩:=t;exact⟨a,o,i,n,e,kp _ _ f,d,c,H⟩
def f5 {x y:Value}{k l:bU}{b:Bool}{Q:Bool->Shared->Prop}(f:J1 s.heap x k)(e:J1 s.heap y l)(h:Q (j8 k l) s):wpAny (model prog w) A (keyLt' (tuples' b) x y) Q E s:=by
 obtain⟨a,o,I,n,rfl,p,_,j,g⟩:=f;obtain⟨q,o',its',N,rfl,d,_,c,H⟩:=e;refine kat_lt p j d c ?_
 have:=MK (prog:=prog) (w:=w) (A:=A) (b:=b) (i:=0) g H h
 simpa using this
inductive wN (h:Heap):List Value->List (bU)->Prop
 |nil:wN h [] []
 |cons {v:Value} {k:bU} {vs:bV} {ks:bT} (t:J1 h v k) (ne:k≠[]) (r:wN h vs ks):wN h (v::vs) (k::ks)
theorem wN.length:∀{vs:bV}{ks:bT},wN h vs ks->vs.length=ks.length
 |_,_,.nil=>rfl|_,_,.cons _ _ r=>by simp[r.length]
theorem wN.keep {h':Heap}(kp:∀b o,h.get? b=some o->h'.get? b=some o):∀{vs:bV}{ks:bT},wN h vs ks->wN h' vs ks
 |_,_,.nil=>.nil|_,_,.cons t ne r=>.cons (t.keep kp) ne (r.keep kp)
theorem wN.at:∀{vs:bV}{ks:bT}(i:Nat),wN h vs ks->i<ks.length->J1 h (vs.getD i Value.none) (ks.getD i [])
 |_,_,_,.nil,hi=>by simp at hi|_,_,0,.cons t _ _,_=>t|_,_,i+1,.cons _ _ r,hi=>r.at i (by simpa using hi)
theorem wN.firsts:∀{vs:bV}{ks:bT},wN h vs ks->∃fs:bV,KatTups h vs fs/\fs.length=vs.length/\∀v∈fs,∃i t,v=Value.int i t
 |_,_,.nil=>⟨[],trivial,rfl,λv H=>by cases H⟩|_,_,.cons (k:=k) ⟨a,o,its,n,e,h1,d,c,b⟩ ne r=>by
  obtain⟨fs,t,l,hf⟩:=r.firsts;cases b with
  |nil=>exact absurd rfl ne|cons i tk q=>
   refine⟨Value.int i tk::fs,⟨⟨a,o,_,n,e,h1,d,c,rfl⟩,t⟩,by simp[l],λv H=>?_⟩
   rcases cw.mp H with rfl|H
   ·exact⟨i,tk,rfl⟩
   ·exact hf v H
def F5 {vs:bV}{P:PySem.Fin->Shared->Prop}(g:s.heap.get? a=some (seqObj "list" vs.toArray n))(M:∀h':Heap,(∀b o,b≠a->s.heap.get? b=some o->h'.get? b=some o)->wN h' vs ks)(y:vs.length<64)
  (h:∀p:Array Nat,p.Perm (List.range ks.length).toArray->(p.toList.map λi=>ks.getD i [])=g8 ks->P (.done (.ret .none)) { s with heap:=sortedHeap s.heap a vs (p.toList.map λi=>vs.getD i Value.none).toArray }):
  wpAny (model prog w) A (Builtin.«list.sort» ⟨[.ref a],[]⟩) P E s:=by
 have ha:a<s.heap.objs.size:=aF g;obtain⟨D,f⟩:∃D,(s.heap.update a (Obj.mapSeq λ_=>(#[]:Array Value))).get? a=some (seqObj "list" #[] D):=⟨_,get?_update_seq g λ_=>#[]⟩;have kp:∀b o,b≠a->s.heap.get? b=some o->(((s.heap.update a (Obj.mapSeq λ_=>(#[]:Array Value))).push (seqObj "tuple" vs.toArray 0)).push (seqObj "list" #[] 0)).get? b=some o:=λb o ne e=>
  af _ (af _ ((aQ _ _ (Ne.symm ne)).trans e))
 have T:=M _ kp;have l:=T.length;have H:=af (seqObj "list" #[] 0) (af (seqObj "tuple" vs.toArray 0) f);have d:vs.toArray.size=vs.length:=by simp
 rw[list_sort_plain];refine cq (listItems_at g rfl ?_);refine cq (listUpdate_at g rfl ?_ (by rw[d,sizeLine_eq];omega) (zero_le _))
 refine cq (seqEpoch_at f rfl ?_);refine cq (wpAny_newTuple ?_ (by show vs.length<=_;rw[sizeLine_eq];omega))
 refine cq (wpAny_newList ?_ (zero_le _));refine wpAny_holding ?_;show wpAny (model prog w) A _ P E { s with heap:=((s.heap.update a (Obj.mapSeq λ_=>(#[]:Array Value))).push (seqObj "tuple" vs.toArray 0)).push (seqObj "list" #[] 0) }
 dsimp only
 by_cases c:vs.toArray.size<2
 ·rw[ah c,ah c]
  refine cq (cu ?_);rw[StateT.run_pure];refine cq (cu ?_);dsimp only;have Z:((vs.toArray.zip vs.toArray).map (·.2))=((List.range ks.length).toArray.toList.map λi=>vs.getD i Value.none).toArray:=by
   rw[<- l,List.toList_toArray,Tz];exact AZ vs
  refine cq (seqEpoch_at H rfl ?_);show wpAny _ _ (Builtin.List.listUpdate (.ref a) (λ_=>(vs.toArray.zip vs.toArray).map (·.2)) >>= _) _ _ _;rw[Z];refine cq (listUpdate_at H rfl ?_ (zero_le _) (by rw[aB,ag];simp;rw[<- l,sizeLine_eq];omega))
  simp only[bne_self_eq_false,a9,if_false];refine cu (h (List.range ks.length).toArray (Array.Perm.refl _) ?_);rw[List.toList_toArray,Tz];rw[d,l]at c;exact FV c
 ·rw[aj c,aj c]
  have X:2<=vs.length:=by omega
  obtain⟨fs,t,fl,hf⟩:=T.firsts;refine cq (kat_kind (T:=.type "int") t (by omega) (λv J=>by obtain⟨i,tk,rfl⟩:=hf v J;exact PySem.W.Looks.of_pure rfl) rfl ?_)
  refine cq (wpAny_mono (kat_run (ks:=vs) (G:=λp s'=>s'={ s with heap:=((s.heap.update a (Obj.mapSeq λ_=>(#[]:Array Value))).push (seqObj "tuple" vs.toArray 0)).push (seqObj "list" #[] 0) }/\p.Perm (List.range ks.length).toArray/\(p.toList.map λi=>ks.getD i [])=g8 ks)
   (Q:=λS s'=>∃p:Array Nat,p.size=vs.length/\arrOf S=p.map (PySem.W.kas_item (vs.toArray.zip vs.toArray))/\failedOf S=none/\s'={ s with heap:=((s.heap.update a (Obj.mapSeq λ_=>(#[]:Array Value))).push (seqObj "tuple" vs.toArray 0)).push (seqObj "list" #[] 0) }/\p.Perm (List.range ks.length).toArray/\(p.toList.map λi=>ks.getD i [])=g8 ks)
   rfl X y (λp S s' a1 a2 a3 a4=>⟨p,a1,a2,a3,a4⟩) ?_) ?_ λ_ _ e=>e)
  ·rw[l]
   refine TW.wp (n:=ks.length) (c:=kc (O:=Xv) λi=>ks.getD i []) (λi j C hi q U=>?_) _ (fX (by omega) λp P K=>⟨rfl,P.pm,?_⟩)
   ·exact f5 (T.at i hi) (T.at j q) U
   ·refine VQ ?_ ?_ (Vf ks)
    ·have B:(p.toList.map λi=>ks.getD i []).Perm ((List.range ks.length).map λi=>ks.getD i []):=(Array.perm_iff_toList_perm.mp P.pm).map _
     rw[Tz]at B;exact B.trans (VB ks).symm
    ·rw[bH,List.pairwise_iff_getElem]
     intro i j hi q N;have z:p.size=ks.length:=P.size;have r:i<p.size:=by simpa using hi
     have k:j<p.size:=by simpa using q
     have:=K i j (by omega) (by omega)
     unfold gk at this;have ei:p.getD i 0=p.toList[i]:=by simp[Array.getD,r]
     have ej:p.getD j 0=p.toList[j]:=by simp[Array.getD,k]
     rw[ei,ej]at this;exact this
  ·rintro⟨⟨⟩,S⟩ s' ⟨p,L,x,u,rfl,pm,Y⟩
   dsimp only;rw[kat_snds rfl x];have I:(List.toArray (p.toList.map λi=>vs.getD i Value.none)).size=vs.length:=by rw[aB,ag,aR,L]
   refine cq (seqEpoch_at H rfl ?_);refine cq (listUpdate_at H rfl ?_ (zero_le _) (by rw[I,sizeLine_eq];omega))
   rw[u];simp only[bne_self_eq_false,a9,if_false];exact cu (h p pm Y)
def HC {l:Addr}{vs:bV}(g:s.heap.IsList l vs.toArray)(T:wN s.heap vs ks)(f:vs.length<64)
  (h:∀(h':Heap)(a:Addr)(p:Array Nat)(c:Nat),s.heap.objs.size<=a->p.Perm (List.range ks.length).toArray->(p.toList.map λi=>ks.getD i [])=g8 ks->h'.get? a=some { cls:=.type "list",data:=.seq (p.toList.map λi=>vs.getD i Value.none).toArray c }->
   (∀b o,s.heap.get? b=some o->h'.get? b=some o)->Q (.ref a) { s with heap:=h' }):
  wpAny (model prog w) A (call (.builtin "sorted") [.ref l]) Q E s:=by
 refine Calls.call_function_entry kind_sorted plain_sorted entry_sorted (args_sorted1 _) ?_;unfold Builtin.«sorted»;refine cq (m:=checkCount "sorted" 1 1 _) (cu ?_);refine cq (collect_list g ?_ (by rw[sizeLine_eq];omega))
 refine cq (wpAny_newList ?_ (by rw[sizeLine_eq];omega))
 have d:((s.heap.push (seqObj "list" #[] 0)).update s.heap.objs.size (Obj.mapSeq (·++vs.toArray))).objs.size=s.heap.objs.size+1:=by rw[Heap.size_update,size_push']
 show wpAny _ _ _ _ _ { s with heap:=((s.heap.push (seqObj "list" #[] 0)).update s.heap.objs.size (Obj.mapSeq (·++vs.toArray))).push (seqObj "list" vs.toArray 0) }
 have K:∀b o,s.heap.get? b=some o->((s.heap.push (seqObj "list" #[] 0)).update s.heap.objs.size (Obj.mapSeq (·++vs.toArray))).get? b=some o:=λb o e=>
  (aQ _ _ (br (aF e))).trans (af _ e)
 generalize (s.heap.push (seqObj "list" #[] 0)).update s.heap.objs.size (Obj.mapSeq (·++vs.toArray))=h1 at d K;have H:(h1.push (seqObj "list" vs.toArray 0)).get? h1.objs.size=some (seqObj "list" vs.toArray 0):=av _ rfl;have k:∀b o,s.heap.get? b=some o->(h1.push (seqObj "list" vs.toArray 0)).get? b=some o:=λb o e=>af _ (K b o e);have nb:∀b o,s.heap.get? b=some o->b≠h1.objs.size:=λb o e z=>by
  subst z
  have:h1.objs.size<s.heap.objs.size:=aF e
  omega
 refine cq (wpAny_holding (wpAny_call_entry slot_list_sort ⟨_,H,rfl⟩ entry_list_sort (F5 (ks:=ks) H (λh' kp=>T.keep λb o e=>kp b o (nb b o e) (k b o e)) f λp pm j=>⟨_,rfl,?_⟩) (args_list_sort _)));refine cu ⟨_,rfl,?_⟩;have r:=get?_update_seq H (λ_=>(#[]:Array Value));have q:=af (seqObj "list" #[] 0) (af (seqObj "tuple" vs.toArray 0) r);obtain⟨c,n⟩:∃c,(sortedHeap (h1.push (seqObj "list" vs.toArray 0)) h1.objs.size vs (p.toList.map λi=>vs.getD i Value.none).toArray).get? h1.objs.size=some (seqObj "list" (p.toList.map λi=>vs.getD i Value.none).toArray c):=⟨_,get?_update_seq q (λ_=>(p.toList.map λi=>vs.getD i Value.none).toArray)⟩;refine h _ h1.objs.size p c (by omega) pm j n λb o e=>?_
 unfold sortedHeap;exact(aQ _ _ (Ne.symm (nb b o e))).trans (af _ (af _ ((aQ _ _ (Ne.symm (nb b o e))).trans (k b o e))))
end
noncomputable def Wu (k:bU):W:=.tup (k.map W.int)
def Qz:List W->Option (bT)
 |[]=>some []|.tup xs::ws=>match intsOf xs with
  |some k=>if k=[] then none else(Qz ws).map (k::·)|none=>none
 |_::_=>none
theorem OK:∀{ws:List W}{ks:bT},Qz ws=some ks->ws=ks.map Wu/\∀k∈ks,k≠[]
 |[],_,h=>by cases h;exact⟨rfl,λk a=>by cases a⟩|w::ws,ks,h=>by
  cases w with
  |tup xs=>
   unfold Qz at h;cases E:intsOf xs with
   |none=>rw[E]at h;cases h|some k=>
    rw[E]at h;dsimp only at h
    by_cases c:k=[]
    ·rw[ah c]at h;cases h
    ·rw[aj c]at h
     cases e:Qz ws with
     |none=>rw[e]at h;cases h|some ls=>
      rw[e]at h;cases h;obtain⟨a1,a2⟩:=OK e;refine⟨by rw[aW,<- a1,Kx E];rfl,λx H=>?_⟩
      rcases cw.mp H with rfl|H
      ·exact c
      ·exact a2 x H
  |_=>cases h
theorem Vals.sel (h:Vals ys us):∀(l:bY),(∀i∈l,i<ys.length)->Vals (l.map λi=>ys.getD i .non) (l.map λi=>us.getD i Value.none)
 |[],_=>.nil|i::l,hi=>by
  have a:=h.length;have I:i<ys.length:=hi i (au ..);obtain⟨u,E,e⟩:=h.get (i:=i) (x:=ys[i]) (aa I);refine .cons ?_ (Vals.sel h l λj H=>hi j (aq _ H));show L2.RelV (ys.getD i V.non) (us.getD i Value.none);rw[ae,ae,E,aa I];exact e
theorem zE.sel {K:Frag}{f:List Int->W}:∀{ks:bT}{ys:List V}(i:Nat),zE K φ H (ks.map f) ys->i<ks.length->RV K φ H (f (ks.getD i [])) (ys.getD i .non)
 |[],_,_,_,hi=>by simp at hi|k::ks,_,0,⟨v,r,e,h,t⟩,_=>by subst e;exact h|k::ks,_,i+1,⟨v,r,e,h,t⟩,hi=>by subst e;exact zE.sel i t (by simpa using hi)
theorem zE.sels {K:Frag}{f:List Int->W}(h:zE K φ H (ks.map f) ys):∀(l:bY),(∀i∈l,i<ks.length)->zE K φ H ((l.map λi=>ks.getD i []).map f) (l.map λi=>ys.getD i .non)
 |[],_=>rfl|i::l,hi=>⟨_,_,rfl,zE.sel i h (hi i (au ..)),zE.sels h l λj a=>hi j (aq _ a)⟩
section
variable {m:Ev}
theorem NF {σ:List (Option V)}(I:Inv X pins σ H s):∀{ks:bT}{ys:List V}{i:bV},zE X.K φ H (ks.map Wu) ys->(∀k∈ks,k≠[])->Vals ys i->wN s.heap i ks
 |[],_,_,e,_,b=>by
  have E:_=([]:List V):=e;subst E;rw[Vals.zero b];exact .nil
 |k::ks,_,_,⟨v,r,e,h,t⟩,ne,b=>by
  subst e;cases b with
  |cons c b=>
   obtain⟨a,vs,e,T,d⟩:=h;subst e;have ev:=zE.ints.mp d;subst ev;obtain⟨i,hi,⟨o,g1,g2,n,g3⟩,_⟩:=I.tuple T;cases c;exact .cons ⟨a,o,i,n,rfl,g1,g2,g3,intsAre_of hi⟩ (ne k (au ..)) (NF I t (λk f=>ne k (aq _ f)) b)
def HQ:yv X (.builtin "sorted") (λxs H Q=>∃(p:Addr) (ys:List V) (ks:bT) (φ:bW),xs=[.ref p]/\jj X.K H p ys/\zE X.K φ H (ks.map Wu) ys/\(∀k∈ks,k≠[])/\ks.length<64/\
  ∀l zs,H l=none->zE X.K φ H ((g8 ks).map Wu) zs->Q (.ref l) (upd H l (.lst zs))):=by
 intro pins s σ H xs us Q I r h;obtain⟨p,ys,ks,φ,rfl,g,b,ne,t,q⟩:=h;obtain⟨u,rfl,e⟩:=vals1 r;cases e;obtain⟨f,v,⟨o,k,A,x,C,w⟩,B⟩:=I.list g;have T:=NF I b ne v;have j:=T.length;have y:ys.length=ks.length:=by rw[v.length];exact j
 refine HC ⟨o,A,x,k,w⟩ T (by omega) λh' a p c d pm E n kp=>?_
 have lt:∀i∈p.toList,i<ks.length:=λi hi=>by
  have:=(Array.perm_iff_toList_perm.mp pm).mem_iff.mp hi
  simpa using this
 have P:p.toList.length=ks.length:=by rw[aR,pm.size_eq];simp
 have z:=zE.sels b p.toList lt;rw[E]at z;refine⟨.ref a,_,I.laid (t':=s.toks) (o:=.lst (p.toList.map λi=>ys.getD i .non)) kp d ⟨?_,_,c,Vals.sel v p.toList λi hi=>by rw[y];exact lt i hi,n⟩,rfl,q _ _ (I.hok.fresh d) z⟩
 rw[ag,P,sizeLine_eq];omega
def UR:W->Hx->R W:=λw A=>match w with
 |.ref n=>match A[n]? with
  |some (.lst ws)=>match Qz ws with
   |some ks=>if ks.length<64 then .ok (.ref A.length) (A++[.lst ((g8 ks).map Wu)]) else .bad|none=>.bad
  |_=>.bad
 |_=>.bad
def GS (m:Ev):Ev:=λρ A=>(m ρ A).bind λw A1=>UR w A1
end
@[irreducible] noncomputable def Xt (X:Cx)(x:XR)(e:b9)(ms:List Ev):Prop:=Mi.SJ X x e ms
def MO:@Xt=@Mi.SJ:=by
 funext X xr es ms
 unfold Xt
 rfl
section
def yI:@zD=@Mi.SE/\@gr=@Mi.SA/\@yU=@Mi.ST/\@Zh=@Mi.SW/\@kN=@Mi.SS/\@kU=@Mi.Y7/\@wF=@Mi.SI/\@gn=@Mi.SG/\@QJ=@Mi.SF/\@Zc=@Mi.SQ/\@Zq=@Mi.Y4/\@Ze=@Mi.SM/\@Xt=@Mi.SJ:=⟨GQ,U5,US,U2,UN,Uy,UK,UX,UY,UL,V7,UH,MO⟩
def kR {g:Heap}{E:b9}{f:Fn}(o:Zs X g xr)(F:jX X.prog X.w X.K X.mg X.base k x n f)(i:jR k X.A)(B:gr X xr (e::E) mr)(j:Z5 mr n:=by repeat' (first|exact zM|refine zq ?_))(t:Gl X x:=by rfl)
  (c:(x==("__debug__":Str))=false:=by decide)(he:starEach (e::E) X.env=(false,eval e X.env)::starEach E X.env:=by rfl)(l:(backTo pos (starEach E X.env)).any (·.1)=false:=by rfl):
  zD X xr (.Call (.Name x p) (e::E) [] pos) (zA f mr):=by
 try simp only[yI]at*
 obtain⟨N,fd,ps,F,hm,s,u⟩:=F;refine PE.imp (Nf F i t hm s u .nil o.passes B c he l) λσ H Q ⟨φ,A,ρ,S,re,h⟩=>?_;have h':=qd.mp h;refine⟨φ,A,ρ,S,re,?_⟩;cases r:mr ρ A with
 |ok ws A1=>
  rw[r]at h';intro b H1 vs L I q;have v:vs.length=n:=by rw[<- q.length];exact j ρ A ws A1 r
  rw[a8];refine⟨v,b,A1,ws,I,q,qL h' (λ_ _ z=>z.mono L) λy A2 z a J d D M C=>?_⟩;exact⟨y,M,rfl,C,z a J (L.trans d) D⟩
 |exc y A1=>rw[r]at h';exact h'|bad=>rw[r]at h';exact h'
def Uj {m:Ev}(h:yU X.nox yx e m):yU X xr e λρ A=>(m ρ A).nox:=by
 try simp only[yI]at*
 refine PT.imp (PT.nox h) λσ H Q ⟨φ,A,ρ,S,re,q⟩=>⟨φ,A,ρ,S,re,?_⟩;cases E:m ρ A with
 |ok w A1=>(try dsimp only at q);rw[E]at q;exact q|exc y A1=>(try dsimp only at q);rw[E]at q;exact q.elim|bad=>(try dsimp only at q);rw[E]at q;exact q.elim
def Gh {m1:Ex}{s:cn}(h:kU X.nox yx s m1):kU X xr s λρ A=>(m1 ρ A).nox:=by
 try simp only[yI]at*
 refine kq.imp (kq.nox h) λD σ H ⟨φ,A,ρ,S,re,q⟩=>⟨φ,A,ρ,S,re,?_⟩;cases e:m1 ρ A with
 |ok w A1=>(try dsimp only at q);rw[e]at q;exact q|exc y A1=>(try dsimp only at q);rw[e]at q;exact q.elim|bad=>(try dsimp only at q);rw[e]at q;exact q.elim
def Vz {g:Heap}{E:b9}{top:Str}{np:Pos}{C:Pos}(o:Zs X g xr)(c:VZ X.K top x)(d:gr X xr (e::E) mr)(l:Z5 mr n:=by repeat' (first|exact zM|refine zq ?_))(hn:n<=sizeLine:=by decide)(a:Gl X x:=by rfl)(h:X.calm=true:=by rfl)
  (b:(x==("__debug__":Str))=false:=by decide)(he:starEach (e::E) X.env=(false,eval e X.env)::starEach E X.env:=by rfl)(H:(backTo C (starEach E X.env)).any (·.1)=false:=by rfl):
  kN X xr (.Raise (some (.Call (.Name x np) (e::E) [] C)) none pos) (KZ x mr):=by
 try simp only[yI]at*
 exact CQ o c.at_ c.exc PySem.F.excBase_ValueError d l hn a h b he H
def J9 {K:Frag}{st:Stmt}{m:Ex}(F:wd K x x st f fd)(hm:mg x=some (.ref f))(S:qX N ps (qo st))
  (j:∀(kV doc pm:Value)(an:cm)(c ct:Value)(us:bV),us.length=ps.length->bindArgs (fnOf x x (Qn st) (yH st) (qo st) .none kV doc pm an c ct) ⟨us,[]⟩=pure (ps.zip us))
  (a:∀(c:Value)(A:Around)(outer:cf)(s:Shared)(H:Hp)(E:XK),jR k (A.deeper (envOfC x (qo st) s.heap.objs.size f c))->
   Zs (wQ (Zg P w) P w K mg base N x (qo st) f c A outer s H E) s.heap (Zw K E)->kU (wQ (Zg P w) P w K mg base N x (qo st) f c A outer s H E) (Zw K E) (yH st) m):
  jX P w K mg base (k+1) x ps.length (gj N.length m):=by
 try simp only[yI]at*
 refine⟨f,fd,ps,?_,hm,F.kp,F.binds j⟩;obtain⟨v,u,kV,doc,pm,an,c,ct,o,rfl,lk,d⟩:=F.ex;refine Th lk d S (λvs H Q E h=>h.len) λA outer s H vs Q E i ⟨z,φ,A1,ws,p,r,h⟩=>⟨_,a c A outer s H E i fw,?_⟩;refine⟨φ,A1,ws.map some++List.replicate (N.length-ws.length) none,p,RE.start r,?_⟩;have h':=qd.mp h;show R.post _ (FB K φ H _) _;cases e:m (ws.map some++List.replicate (N.length-ws.length) none) A1 with
 |ok n A2=>
  rw[e]at h';cases n with
  |rt w=>exact h'|nx ρ=>exactλb t g l q _=>h' b t .non l q rfl|bk ρ=>exact h'.elim|ct ρ=>exact h'.elim
 |exc y A2=>rw[e]at h';exact h'|bad=>rw[e]at h';exact h'.elim
def AU {L:Addr}{l:Nat}{n:Str}{y:Str}{Z:Str}{cs:bZ}{PG:Nat->Obj->Addr->Obj->List V->Prop}{lam:Nat->Fn}{U:bV}{newD:String}{np:Pos}{cp:Pos}{ep:Pos}{dp:Pos}{yp:Pos}{J:Pos}{ap:Pos}{hp:Pos}(hL:∀k,ZY X.prog X.w X.K X.mg X.base kk (PG k) (lam k))(hr:jR kk X.A)(hst:X.stack=X.env::X.outer)(hFr:X.env.frame=some L)(hD:kI X.K Z (.ref D))(exD:Mi.Zo X.K D U newD=true)(hbD:U.contains (.type "BaseException")=true)
  (hcs:∀c,cs.contains c=true->∀C,kI X.K c (.ref C)->∃B f,Mi.Zo X.K C B f=true/\J4 X.K C D=true)
  (hN:X.N.Nodup)(hi:X.N[i]? =some x)(hx:X.env.scope.names.lookup x=some .local)(hl:X.N[l]? =some n)(hn:X.env.scope.names.lookup n=some .local)(hj:X.N[j]? =some y)(hy:X.env.scope.names.lookup y=some .local)
  (hg:Gl X Z)(hs1:swapsWith (.Call (.Name x np) [] [] cp) none ep.line X.env=pure false:=by rfl)(hs2:swapsWith (.Name n J) (some (.Name y yp)) ap.line X.env=pure false:=by rfl)
  (hdx:(x==("__debug__":Str))=false:=by decide)(hdn:(n==("__debug__":Str))=false:=by decide)(hdD:(Z==("__debug__":Str))=false:=by decide):
  kN X xr (.Try [.Expr (.Call (.Name x np) [] [] cp) ep] [.ExceptHandler (some (.Name Z dp)) (some n) [.Assign [.Name y yp] (.Name n J) ap] hp] [] [] pos) (We i j l cs PG lam):=by
 try simp only[yI]at*
 intro pins s σ H D0 I ⟨φ,A,ρ,S,re,h⟩;unfold We Xf at h;cases ei:ρ[i]? with
 |none=>rw[ei]at h;exact h.elim|some ow=>
  cases ow with
  |none=>rw[ei]at h;exact h.elim|some w=>
   rw[ei]at h;cases w with
   |clo k ws P=>
    dsimp only at h
    by_cases hP:P=PG k
    ·rw[ah hP]at h
     subst hP;obtain⟨v,hv,a,ob,u,c,oc,uc,vs,rfl,h1,h2,hp',rvs⟩:=re.get i _ ei;obtain⟨⟨fd0,hfd⟩,fd,F,hb⟩:=hL k a ob u c oc uc vs hp';have ho:s.heap.get? a=some ob:=(show jF X.prog X.w H s.heap a (.frz ob u) from I.hok a _ h1).1
     refine fC (i:=l) (L:=L) (k:=zdp X.K φ H ρ j l D0)
      I hst hFr hD exD hbD hN hl (.inl hn) ?body ?t hg hdD (.inr hn)
     case body=>
      refine wpAny_execs_cons (wpAny_Expr_any ?_ I.quiet hs1);obtain⟨m,hns,Q⟩:=I.loc;obtain⟨u',r',lk⟩:=Q i x (.ref a) hi hv (.inl hx);obtain rfl:u'=Value.ref a:=r';have hm:m x=some (.ref a):=by
       rcases lk with ⟨_,e⟩|⟨q|q,_⟩
       ·exact e
       ·rw[show X.env.kindOf x=some .local from hx]at q;cases q
       ·rw[show X.env.kindOf x=some .local from hx]at q;cases q
      refine wpAny_Call_Name_kw (wpAny_Name (wpAny_loadName_local I.ok.kind hx hns hm ?_) hdx);have hK:Frag.In [(a,ob)] s.heap:=λb o e=>by
       rw[lookup_cons]at e
       by_cases hb:b=a
       ·subst hb;simp at e;subst e;exact ho
       ·have:(b==a)=false:=by simpa using hb
        rw[this]at e;cases e
      have hkp:keepIn [(a,ob)] (.ref a)=true:=by
       unfold keepIn;obtain⟨o1,o2,o3,o4⟩:=ob;cases (show o3=_ from hfd)
       simp[lookup_cons]
      refine PySem.W.callWith_K0 (K:=[(a,ob)]) (first:=[]) hK hkp ?_;refine wpAny_call (codeAny_mono (F.run X.A X.stack s H ⟨[],[]⟩ [] [] (λ_ H1=>D0.nx σ H1)
       (zdm X.K φ H ρ j l D0 cs)
       hr I.env0 (hb s) .nil ⟨rfl,h1,h2,φ,A,ws,S,rvs,?_⟩) λr s' p=>?_)
      ·cases er:lam k ws A with
       |ok w1 A1=>
        rw[er]at h;exactλd H' v' z Y _=>h d H' σ z Y (re.mono z)
       |exc E A1=>
        rw[er]at h;dsimp only at h
        by_cases T:cs.contains E=true
        ·rw[ah T]at h
         exactλd H' z Y Ca g=>⟨E,Ca,rfl,g,T,d,A1,z,Y,h⟩
        ·rw[aj T]at h;exact h.elim
       |bad=>rw[er]at h;exact h.elim
      ·cases r with
       |error e=>
        unfold CR at p;dsimp only at p;have un:∀b o,s.heap.get? b=some o->∃o',s'.heap.get? b=some o':=by
         obtain⟨_,_,_,_,_,_,un,_⟩:=p;exactλb o e=>un.there b o e (by simp)
        obtain⟨ea,C,H',rfl,I',ly,tr,E,Ca,ec,g,T,φ1,A1,l1,S1,hn1⟩:=PZ I p s.heap λb o e=>⟨o,e⟩;cases ec;obtain⟨B,f,exC,up⟩:=hcs E T C g;exact⟨ea,C,H',B,f,rfl,I',ly,tr,un,exC,up,λoe hoe M=>⟨E,φ1,A1,l1.trans (Le.new M),S1.lay M,⟨ea,oe,.own 0,C,rfl,jS,hoe,g⟩,hn1⟩⟩
       |ok fl=>
        cases fl with
        |ret u1=>
         obtain⟨v1,H1,I1,_,q1⟩:=I.after p;exact wpAny_execs_nil ⟨rfl,σ,H1,I1,q1⟩
        |next=>exact False.elim p|brk=>exact False.elim p|cont=>exact False.elim p
     case t=>
      rintro ea C H2 s2 I2 ⟨E,d,A',z,Y,rx,hn'⟩ E'
      refine Ef (i:=l) (j:=j) I2 hN hl hj hn (.inl hy) (λs' I'=>?_) hs2 (.inr hy) hdn;exact⟨_,H2,I',hn' d H2 _ z Y ((((re.mono z).set rx).set rx).unset)⟩
    ·rw[aj hP]at h;exact h.elim
   |_=>exact h.elim
def wK {m:Ev}{P:Pos}{f:Str->Option Bool}{C:Addr}(c:Wb X.K f (.ref C))(i:kI X.K x (.ref C))(hm:X.mg "isinstance"=none)(j:zD X xr e m)(g:Gl X "isinstance":=by rfl)(a:Gl X x:=by rfl)(hd:(x==("__debug__":Str))=false:=by decide)
  (b:starEach [e,.Name x P] X.env=(false,eval e X.env)::starEach [.Name x P] X.env:=by rfl)(k:(backTo pos (starEach [.Name x P] X.env)).any (·.1)=false:=by rfl):
  zD X xr (.Call (.Name "isinstance" p) [e,.Name x P] [] pos) (jm f m):=by
 try simp only[yI]at*
 have d:PE X (.Name x P) (tC (.ref C)):=λpins s σ H Q I h=>YH I a (aX I.mod.kin I.mod.glob i) ⟨.ref C,H,I,rfl,h⟩ hd;exact PE.imp (ZJ (OF (cv:=.ref C) c λu r=>r) g hm (by rfl) (jw j (jw d yj) b) (by decide) (by decide) b k) (jm.read λσ H Q h=>h)
def DH {m:Ev}{P:Pos}{f:Str->Option Bool}{T:String}(d:Wb X.K f (.type T))(hm:X.mg "isinstance"=none)(a:X.mg x=none)(i:bootBuiltins x=some (.type T))(j:zD X xr e m)(g:Gl X "isinstance":=by rfl)(b:Gl X x:=by rfl)(hn:x ≠ "__name__":=by decide)(hd:(x==("__debug__":Str))=false:=by decide)
  (c:starEach [e,.Name x P] X.env=(false,eval e X.env)::starEach [.Name x P] X.env:=by rfl)(k:(backTo pos (starEach [.Name x P] X.env)).any (·.1)=false:=by rfl):
  zD X xr (.Call (.Name "isinstance" p) [e,.Name x P] [] pos) (jm f m):=by
 try simp only[yI]at*
 exact PE.imp (ZJ (OF (cv:=.ty T) d λu r=>r) g hm (by rfl) (jw j (jw (Gw b a i (v:=.ty T) rfl hn hd) yj) c) (by decide) (by decide) c k) (jm.read λσ H Q h=>h)
def Qg {q:Str}{t:Lm}(d:ls[k]? =some t)(L:G3 X.N X.env.scope t=true)(B:BMain X.mg X.base)(a:X.env.code=.ref c)(C:CodeHd X.base c Pt)(g:X.env.qual ++ "<lambda>"=q)(f:defaultsOf t.params X.env=([],[])):
  zD X xr (.Lambda t.params t.body t.scope pos) (yh n q Pt k (kP X.env q ls k)):=by
 try simp only[yI]at*
 intro pins s σ H Q I h;rw[fM d]at h;exact fI B a C (PJ λy b e=>I.ok.has _ ((NO L).free y b e)) g f pins s σ H Q I h
def OP {nl:Nat}{q:Str}{f:Str}{RF:Nat->List W->Hx->R W}{u:Pos}{p3:Pos}{P:Pos}(U:∀x,X.fn x=true)(hl:∀t∈ls,wb X.prog X.w X.K X.mg j q t)(E:∀t∈ls,QC X t)
  (hR:∀base PG,(∀k,ZY X.prog X.w X.K X.mg base (j+1) (PG k) (yX ls k))->zR X.prog X.w X.K X.mg base kk f 1 (Za PG RF))(hr:jR kk X.A)(hc:X.calm=true)(S:Zm X sc)(d:Qv X.N N sc nl []=true)(hw:wF X xr (.Name x P) iter mi)
  (M:∀s H fp,gn (jB X N sc s H fp yb) (.Name x P) tw)(hi:N[i]? =some x)(hv:Y3 (relabel sc X.env) x)(hg:∀s H fp,Gl (jB X N sc s H fp yb) f)(Y:(x==("__debug__":Str))=false:=by decide)(hcx:(x==("__classdict__":Str))=false:=by decide)(Z:(f==("__debug__":Str))=false:=by decide)
  (he:∀env:Env,starEach [.Name x u] env=(false,eval (.Name x u) env)::starEach [] env:=by intro _;rfl)(B:∀env:Env,(backTo p3 (starEach [] env)).any (·.1)=false:=by intro _;rfl)
  (hs:∀x,foldedSetIterable iter X.env x=pure x:=by intro _;rfl):
  zD X xr (.ListComp (.Call (.Name f p) [.Name x u] [] p3) [⟨.Name x P,iter,[],0⟩] sc pos) (qu (JV nl mi tw i (kP X.env q ls) ls RF)):=by
 try simp only[yI]at*
 intro pins s σ H Q I h;obtain⟨φ,A,ρ,Sm,re,h⟩:=qu.read σ H Q h;rw[eval_ListComp];refine Uk (use:=none) (N:=N) (nl:=nl) (cap:=[]) (wi:=tI X.K xr mi) (g:=tG X.K tw) (ti:=tT X.K yx (zU (.bl true))) (tm:=T6 (λφ H=>RE X.K φ H ρ σ) X.K (zQ (QI i (kP X.env q ls) ls RF ρ))) hc S d (λg' z=>by cases z) hw
  (λs3 H3 fp I3 f3=>⟨M s3 H3 fp,Mi.NI,Br (λ_ _ z=>z) (BP I3 f3 U hl E hR hr hi hv (hg s3 H3 fp) Y hcx Z (he _) (B _)) rfl⟩) I (Q:=Q) ?T (λD C s' H' m I' q hn h1 h2 h3 h4 h5=>?_) hs
 case T=>
  refine⟨φ,A,ρ,Sm,re,qL (qd.mp h) (λy A1 h1 c H1 J L S1 jr D n hK=>?_) λ_ _ z=>z⟩;have ln:Le X.K c H1 c (upd H1 D (.lst [])):=Le.new n;have a:=qd.mp h1;refine qU.readG (λφ H φ' H' l g=>RE.monoW g l) (re.mono (L.trans ln)) (jr.mono ⟨ln.ex,ln.tp,ln.fz⟩) (S1.lay n) ((re.mono (L.trans ln)).Zt) jS (S1.notin n hK) .nil ?_ (f:=y.len) (acc:=[]);cases er:qU y tw (zU (.bl true)) (zQ (QI i (kP X.env q ls) ls RF ρ)) y.len 0 (Qw nl [] ρ) [] A1 with
  |ok p A2=>
   rw[er]at a;intro r H2 σ2 zs l2 n2 S2 re2 d2 r2;have v:=L.trans (Le.ofD n l2);exact a r H2 D zs v S2 (L.st D n) d2 n2 r2
  |exc x A2=>rw[er]at a;exact a.elim|bad=>rw[er]at a;exact a.elim
 ·exact⟨m,hn,λh' sb=>⟨.ref D,H',I'.turned (t':=s'.toks) (λb o hb e=>(sb.2 b hb).trans e) h1 h2 (.inr h3) h4 h5,rfl,q⟩⟩
def AG {m:Ev}{b:Pos}{P:Pos}{pt:Pos}{x1:Str}{x2:Str}{kt:Nat}(t T:Ty)(hm:X.mg "isinstance"=none)(n:X.mg x1=none)(k:X.mg x2=none)(g:bootBuiltins x1=some (.type t.nm))(f:bootBuiltins x2=some (.type T.nm))(z:zD X xr e m)(y:Gl X "isinstance":=by rfl)(q:Gl X x1:=by rfl)(o:Gl X x2:=by rfl)
  (j:x1 ≠ "__name__":=by decide)(r:(x1==("__debug__":Str))=false:=by decide)(i:x2 ≠ "__name__":=by decide)(hd2:(x2==("__debug__":Str))=false:=by decide)
  (h0:starEach [.Name x1 b,.Name x2 P] X.env=(false,eval (.Name x1 b) X.env)::starEach [.Name x2 P] X.env:=by rfl)(s:starEach [.Name x2 P] X.env=(false,eval (.Name x2 P) X.env)::starEach [] X.env:=by rfl)
  (a:starEach [e,.Tuple [.Name x1 b,.Name x2 P] kt pt] X.env=(false,eval e X.env)::starEach [.Tuple [.Name x1 b,.Name x2 P] kt pt] X.env:=by rfl)(B:(backTo pos (starEach [.Tuple [.Name x1 b,.Name x2 P] kt pt] X.env)).any (·.1)=false:=by rfl):
  zD X xr (.Call (.Name "isinstance" p) [e,.Tuple [.Name x1 b,.Name x2 P] kt pt] [] pos) (Xb t T m):=by
 try simp only[yI]at*
 exact PE.imp (ZJ D4 y hm (by rfl) (jw z (jw (MH (jw (Gw q n g (v:=.ty t.nm) rfl j r) (jw (Gw o k f (v:=.ty T.nm) rfl i hd2) yj s) h0)) yj) a) (by decide) (by decide) a B) λσ H Q ⟨φ,A,ρ,S,re,h⟩=>by
   refine tM.go S re (qd.mp h) λw A1 d H1 v a L u x=>?_;cases E:jP w A1 with
   |none=>rw[E]at a;exact a.elim|some t'=>
    rw[E]at a;refine⟨by show 2<=sizeLine;decide,λl c=>⟨v,t',l,rfl,qQ.of jS,?_,a d _ _ (L.trans (Le.new c)) (u.lay c) rfl⟩⟩
    exact OA (u.lay c) (x.mono (Le.new c)) E
def Nb {m:Ev}(he:zD X xr e m)(g:gn X tg tw)(f:swapsWithSole [tg] e pos.line X.env=pure false:=by rfl)(hw:swappedStores [tg] e X.env=pure none:=by rfl)(a:(assignEach [tg] X.env).map (·.2)=[assign tg X.env]:=by rfl):kN X xr (.Assign [tg] e pos) (Jq m tw):=by
 try simp only[yI]at*
 exact PS.imp (Md he g f hw a) λD σ H ⟨φ,A,ρ,S,re,h⟩=>by
   refine tM.go S re (qd.mp h) λw A1 b H1 v a l s q=>?_;cases E:tw w ρ with
   |none=>rw[E]at a;exact a.elim|some d=>
    rw[E]at a;exact⟨b,A1,ρ,w,d,s,re.mono l,q,E,λc r=>a b H1 c l s r⟩
def BH {a:Expr}{b:Expr}{ma:Ev}{mb:Ev}{pt:Pos}{kt:Nat}(i j:Nat){y:Str}{P py p:Pos}{k2:Nat}(r:X.calm=true)(B:X.N.Nodup)(u:zD X xr a ma)(t:zD X xr b mb)(hi:X.N[i]? =some x:=by rfl)(o:X.N[j]? =some y:=by rfl)(d:i≠j:=by decide)
  (n:X.env.scope.names.lookup x=some .local:=by rfl)(k:X.env.scope.names.lookup y=some .local:=by rfl)
  (hw:swappedStores [.Tuple [.Name x P,.Name y py] kt pt] (.Tuple [a,b] k2 p) X.env=pure (some [x,y]):=by rfl)
  (s:swapsWithSole [.Tuple [.Name x P,.Name y py] kt pt] (.Tuple [a,b] k2 p) pos.line X.env=pure false:=by rfl)
  (f:starEach [a,b] X.env=(false,eval a X.env)::starEach [b] X.env:=by rfl)(e:starEach [b] X.env=(false,eval b X.env)::starEach [] X.env:=by rfl):
  kN X xr (.Assign [.Tuple [.Name x P,.Name y py] kt pt] (.Tuple [a,b] k2 p) pos) (Wg i j ma mb):=by
 try simp only[yI]at*
 exact PS.imp (dk r B hi o d n k (jw u (jw t yj e) f) hw s) λD σ H ⟨φ,A,ρ,S,re,h⟩=>by
   refine tM.go S re (qd.mp h) λw A1 g H1 v f l E Q=>?_;refine tM.go E (re.mono l) (qL (qd.mp f) (λ_ _ z=>z) λ_ _ z=>z.mono l) λJ A2 c I v2 e L C q=>?_;exact⟨v,v2,rfl,e c I _ (l.trans L) C (((re.mono (l.trans L)).set (Q.mono L)).set q)⟩
end
section
def Oe {q:Str}{E:b9}{f0:Fn}{N:jW->Fn}(g:∀x,X.fn x=true)(hl:∀t∈ls,wb X.prog X.w X.K X.mg j q t)(f:∀t∈ls,QC X t)
  (hR:∀base PG,(∀k,ZY X.prog X.w X.K X.mg base (j+1) (PG k) (yX ls k))->zR X.prog X.w X.K X.mg base kk x n (N PG))(hF:∀PG us A,f0 us A=.bad∨N PG (us.map (G5 PG)) A=f0 us A)(hr:jR kk X.A)
  (ha:gr X yx (e::E) mr)(hn:Z5 mr n:=by repeat' (first|exact zM|refine zq ?_))(hg:Gl X x:=by rfl)(L:(x==("__debug__":Str))=false:=by decide)
  (he:starEach (e::E) X.env=(false,eval e X.env)::starEach E X.env:=by rfl)(C:(backTo pos (starEach E X.env)).any (·.1)=false:=by rfl):
  zD X yx (.Call (.Name x p) (e::E) [] pos) (Jg ls (kP X.env q ls) f0 mr):=by
 try simp only[yI]at*
 intro pins s σ H Q I ⟨φ,A,ρ,S,re,h⟩;obtain⟨fa,fd,ps,F,hm,hk,hb⟩:=hR _ _ (OE I g hl f).2;refine wpAny_Call_Name_kw (YH I hg hm ?_ L);have h':=qd.mp h;refine callWith_K (h₀:=X.base) I.ok.mod.kin hk (qc (ha pos pins s σ H (λvs H1=>∃a A1 ws us,Le X.K φ H a H1/\zS X.K a A1 H1/\zE X.K a H1 ws vs/\ws.length=n/\ZX ls (kP X.env q ls) ρ ws=some us/\(f0 us A1).post (PB X.K a H1 Q) (EB X.K a H1 yx)) I ⟨φ,A,ρ,S,re,?_⟩) λus s1 ⟨vs,H1,o,Z,a,A1,ws,u,l,U,Y,B,hc,D⟩=>⟨o.kIn,?_⟩) he C
 ·cases i:mr ρ A with
  |ok ws A1=>
   rw[i]at h';intro a H1 vs l U q1;have h':(match ZX ls (kP X.env q ls) ρ ws with|some us=>f0 us A1|none=>.bad).post (PB X.K φ H Q) (EB X.K φ H yx):=h'
   cases T:ZX ls (kP X.env q ls) ρ ws with
   |none=>rw[T]at h';exact h'.elim|some us=>
    rw[T]at h';refine⟨a,A1,ws,us,l,U,q1,hn ρ A ws A1 i,T,qL h' (λ_ _ z=>z.mono l) λy A2 z=>z.mono l⟩
  |exc y A1=>rw[i]at h';exact h'|bad=>rw[i]at h';exact h'
 ·obtain⟨e0,hL⟩:=OE (q:=q) o g hl f
  obtain⟨fa',fd',P,F',d,hk',M⟩:=hR _ _ hL;rw[hm]at d;cases d;have b:ZA X.K n (N (QP X.env q ls σ)) vs H1 Q E0:=by
   refine⟨by rw[<- Y.length];exact B,a,A1,u.map (G5 (QP X.env q ls σ)),U,Pp (re.mono l) hc Y,?_⟩
   rcases hF (QP X.env q ls σ) u A1 with z|z
   ·rw[z]at D;exact D.elim
   ·rw[z]
    exact qL D (λ_ _ z=>z) λy A2 z v H2 l2 S2=>(z v H2 l2 S2).elim
  have J:=F'.len _ _ _ _ b;have hu:us.length=P.length:=by rw[<- Z.length];exact J
  refine wpAny_call (codeAny_mono (F'.run X.A X.stack s1 H1 ⟨[]++us,[]⟩ us vs Q E0 hr e0 ?_ Z b) λr s2 c=>?_)
  ·have:=M s1 us o.kIn (by rw[a8];exact hu)
   rw[a8]at this;exact this
  ·cases r with
   |error e=>exact False.elim c|ok fl=>
    cases fl with
    |ret u1=>exact o.after c|next=>exact False.elim c|brk=>exact False.elim c|cont=>exact False.elim c
end
def EF {a:Expr}{b:Expr}{ma:Ev}{mb:Ev}{apos c:Pos}(r:jR k X.A)(o:zD X xr a ma)(he:zD X xr b mb)(s:starEach [b] X.env=(false,eval b X.env)::starEach [] X.env:=by rfl)
  (e:attributeBase a "index" X.env (eval a X.env)=eval a X.env:=by rfl)
  (w:((backTo c (starEach [b] X.env)).all (λx=>!x.1)&&(backToKw c (keywordEach [] X.env)).all (λx=>x.1.isSome)
   && decide ([b].length+([]:ck).length+(if ([]:ck).isEmpty then 0 else 1)<30))=true:=by rfl)(h:(apos.endLine==c.line)=true:=by rfl):
  zD X xr (.Call (.Attribute a "index" apos) [b] [] c) (jU ZP ma mb):=by
 try simp only[yI]at*
 exact To PySem.F.slot_list_index PySem.F.type_list_index (Dh r.units) DD (λφ A H x y u v Q S l q p=>by
   unfold ZP at p;cases E:qm A 8 u with
   |none=>rw[E]at p;exact p.elim|some D=>
    cases i:qm A 8 v with
    |none=>
     rw[E,i]at p;cases D<;>exact p.elim
    |some d=>
     rw[E,i]at p;cases D with
     |list ds=>
      dsimp only at p;cases g:Z0 (λz=>PyData.eqv z d) ds with
      |none=>rw[g]at p;exact p.elim|some j=>
       rw[g]at p;dsimp only at p
       by_cases f:j<1000000
       ·rw[ah f]at p
        exact⟨φ,A,u,v,y,d,ds,j,rfl,S,l,q,E,i,g,f,p φ H _ .refl S rfl⟩
       ·rw[aj f]at p;exact p.elim
     |_=>exact p.elim) o he s e w h
def FE {m:Ev}{P pos':Pos}(z:X.calm=true)(hm:X.mg "sorted"=none)(d:X.mg "set"=none)(N:zD X xr e m)(M:Gl X "sorted":=by rfl)(g:Gl X "set":=by rfl)(x:starEach [e] X.env=(false,eval e X.env)::starEach [] X.env:=by rfl)
  (c:starEach [.Call (.Name "set" P) [e] [] pos'] X.env=(false,eval (.Call (.Name "set" P) [e] [] pos') X.env)::starEach [] X.env:=by rfl):
  zD X xr (.Call (.Name "sorted" p) [.Call (.Name "set" P) [e] [] pos'] [] pos) (Gf m):=by
 try simp only[yI]at*
 exact PE.imp (ZJ (RJ z) M hm (by rfl) (jw (JH (Dq z) g d (by rfl) (jw N yj x) (by decide) (by decide) x (by rfl)) yj c) (by decide) (by decide) c (by rfl)) λσ H Q ⟨φ,A,ρ,S,re,h⟩=>by
   refine tM.go S re (qd.mp h) λw A1 b H1 v a I s C=>?_;cases w with
   |ref n=>
    unfold VV at a;dsimp only at a;cases E:A1[n]? with
    |none=>rw[E]at a;exact a.elim|some u=>cases u with
     |lst ws=>
      rw[E]at a;dsimp only at a;obtain⟨t,ys,rfl,U,Z,B⟩:=s.lst C E;cases j:intsOf ws with
      |none=>rw[j]at a;exact a.elim|some is=>
       rw[j]at a;dsimp only at a;have Y:=Kx j;subst Y;have ev:=zE.ints.mp B;subst ev;cases q:ZT is with
       |none=>rw[q]at a;exact a.elim|some vs=>
        rw[q]at a;dsimp only at a;obtain⟨e3,T⟩:=VG q;have k:H1 t=some (.lst (vs.map λ(v:Nat)=>V.int (v:Int))):=by rw[Z,e3,aP];rfl
        refine⟨t,vs,rfl,jj.of k,T,λl y=>⟨l,vs.foldl jV 0,rfl,jS,λD f=>?_⟩⟩;have ln:Le X.K b H1 b (upd H1 l (.ext λh=>ym h l (jA X.w) (vs.foldl jV 0))):=Le.new y;have S2:=s.lay (u:=.ext λh=>ym h l (jA X.w) (vs.foldl jV 0)) y;have r:∀(ψ:bW)(G:Hp),zE X.K ψ G (((List.range 8).filter λi=>decide (i∈vs)).map λ(i:Nat)=>W.int (i:Int)) ((qk (vs.foldl jV 0)).map λ(v:Nat)=>V.int (v:Int)):=λψ G=>by
         rw[P8];have e4:∀l:bY,zE X.K ψ G (l.map λ(i:Nat)=>W.int (i:Int)) (l.map λ(v:Nat)=>V.int (v:Int)):=λl=>by
          induction l with
          |nil=>rfl|cons i l J=>exact⟨_,_,rfl,rfl,J⟩
         exact e4 _
        obtain⟨L,S3⟩:=S2.alloc (o:=.lst (((List.range 8).filter λi=>decide (i∈vs)).map λ(i:Nat)=>W.int (i:Int))) f (u:=.lst ((qk (vs.foldl jV 0)).map λ(v:Nat)=>V.int (v:Int))) ⟨_,jS,r _ _⟩;exact a _ _ _ (I.trans (ln.trans L)) S3 ⟨D,rfl,by rw[<- s.len];simp⟩
     |_=>rw[E]at a;exact a.elim
   |_=>exact a.elim
def DS {a:Expr}{b:Expr}{ma:Ev}{mb:Ev}(c:X.calm=true)(hm:X.mg "sum"=none)(e:zD X xr a ma)(d:zD X xr b mb)(H:Gl X "sum":=by rfl)(g:starEach [a,b] X.env=(false,eval a X.env)::starEach [b] X.env:=by rfl)
  (f:starEach [b] X.env=(false,eval b X.env)::starEach [] X.env:=by rfl)(h:(backTo pos (starEach [b] X.env)).any (·.1)=false:=by rfl):
  zD X xr (.Call (.Name "sum" p) [a,b] [] pos) (zj QA ma mb):=by
 try simp only[yI]at*
 exact Tu (Ds c) Be Cf hm (by rfl) e d H (by decide) (by decide) g f h
def F3 {a:Expr}{b:Expr}{ma:Ev}{mb:Ev}{P pos':Pos}(I:X.calm=true)(hm:X.mg "list"=none)(o:X.mg "range"=none)(M:zD X xr a ma)(J:zD X xr b mb)(E:Gl X "list":=by rfl)(q:Gl X "range":=by rfl)(s:starEach [a,b] X.env=[(false,eval a X.env),(false,eval b X.env)]:=by rfl)(d:starEach [b] X.env=[(false,eval b X.env)]:=by rfl)
  (g:starEach [.Call (.Name "range" P) [a,b] [] pos'] X.env=(false,eval (.Call (.Name "range" P) [a,b] [] pos') X.env)::starEach [] X.env:=by rfl):
  zD X xr (.Call (.Name "list" p) [.Call (.Name "range" P) [a,b] [] pos'] [] pos) (KS ma mb):=by
 try simp only[yI]at*
 exact PE.imp (JH (Fz I) E hm (by rfl) (jw (Co q o (jw M (jw J yj (by rw[d];rfl)) (by rw[s,d])) s d) yj g) (by decide) (by decide) g (by rfl)) λσ H Q ⟨φ,A,ρ,S,re,h⟩=>by
   refine tM.go S re (qd.mp h) λw A1 t H1 v N L S1 B=>?_;refine tM.go S1 (re.mono L) (qL (qd.mp N) (λ_ _ z=>z) λ_ _ z=>z.mono L) λu A2 c n v2 e C Z y=>?_;cases w with
   |int i=>
    obtain rfl:=B;cases u with
    |int j=>
     obtain rfl:=y;dsimp only at e
     by_cases f:(jD i&&(jD j&&decide ((j-i).toNat<=qf)))=true
     ·rw[ah f]at e
      rw[ak,ak,ai]at f;refine⟨i,j,rfl,λp r=>⟨p,i,j,rfl,jS,QZ f.1,QZ f.2.1,Qf f.2.2,λl D=>?_⟩⟩;have ln:Le X.K c n c (upd n p (.rng i j)):=Le.new r;have x:zE X.K c (upd n p (.rng i j)) ((List.range (j-i).toNat).map λ(k:Nat)=>W.int (i+k)) (JT i (j-i).toNat):=by
       have:=(zE.ints (K:=X.K) (φ:=c) (H:=upd n p (.rng i j)) (ns:=(List.range (j-i).toNat).map λ(k:Nat)=>(i+(k:Int))) (vs:=JT i (j-i).toNat)).mpr (by unfold JT;simp)
       rw[aP]at this;exact this
      obtain⟨Y,U,T⟩:=Jc (Z.lay r) D x;exact e _ _ _ (((L.trans C).trans ln).trans Y) U T
     ·rw[aj f]at e;exact e.elim
    |_=>exact e.elim
   |_=>exact e.elim
@[irreducible] noncomputable def Yi (X:Cx)(x:XR)(e:Option Expr)(p:Po):Prop:=Mi.SP X x e p
def f6:@Yi=@Mi.SP:=by
 funext X xr e p
 unfold Yi
 rfl
def UJ:@zD=@Mi.SE/\@gr=@Mi.SA/\@yU=@Mi.ST/\@Zh=@Mi.SW/\@kN=@Mi.SS/\@kU=@Mi.Y7/\@wF=@Mi.SI/\@gn=@Mi.SG/\@QJ=@Mi.SF/\@Zc=@Mi.SQ/\@Zq=@Mi.Y4/\@Ze=@Mi.SM/\@Xt=@Mi.SJ/\@Yi=@Mi.SP:=⟨GQ,U5,US,U2,UN,Uy,UK,UX,UY,UL,V7,UH,MO,f6⟩
def Qt:Yi X xr none yz:=by
 try simp only[UJ]at*
 exact PO.imp BZ λσ H Q ⟨φ,A,ρ,S,re,h⟩=>h φ H .refl S
def Qi {m:Ev}(h:zD X xr e m):Yi X xr (some e) (j5 m):=by
 try simp only[UJ]at*
 exact Mi.Mq h
def Ql {m:Ev}{lo hi:Option Expr}{P pu:Po}{o:Pos}(he:zD X xr e m)(B:Yi X xr lo P)(x:Yi X xr hi pu):zD X xr (.Subscript e (.Slice lo hi none o) pos) (yc m P pu):=by
 try simp only[UJ]at*
 exact PE.imp (CV BX he B x) λσ H Q ⟨φ,A,ρ,S,re,h⟩=>by
   refine tM.go S re (qd.mp h) λw A1 g H1 v D c J q=>?_;refine⟨g,A1,ρ,J,re.mono c,qL (qd.mp D) (λl A2 C f M d I=>?_) λ_ _ z=>z.mono c⟩;refine⟨f,A2,ρ,I,(re.mono c).mono d,qL (qd.mp C) (λu N i b k j s=>?_) λ_ _ z=>z.mono (c.trans d)⟩;have L:=(c.trans d).trans j;cases w with
   |tup ws=>
    obtain⟨a,vs,rfl,t,r⟩:=(q.mono d).mono j;have hlen:ws.length=vs.length:=r.length;refine⟨a,vs,rfl,t,λhw=>?_,λhw p y=>?_⟩
    ·refine i b k _ L s ⟨a,vs,rfl,t,?_⟩
     have:kA ws l u=ws:=by
      unfold kA;rw[hlen,hw.1,hw.2,Nat.sub_zero,drop_zero,<- hlen,bq]
     rw[this];exact r
    ·have n:zE X.K b k (kA ws l u) (J2 vs l u):=by
      unfold kA J2;rw[hlen];exact zE.take _ (zE.drop _ r)
     obtain⟨a1,a2,E⟩:=JR s y n;exact i _ _ _ (L.trans a1) a2 E
   |_=>exact i.elim
def YD {a b:Expr}{ma mb:Ev}(H:zD X xr a ma)(h:zD X xr b mb):zD X xr (.BinOp a .FloorDiv b pos) (zj ZU ma mb):=by
 try simp only[yI]at*
 exact JN C5 Tt (UZ DY λ_ _ _ _=>rfl) H h
def f7 {K:Frag}{q:Str}{st:Stmt}{m:jW->Ex}(F:wd K x x st f fd)(hn:nsIn K mainGlobals x=some (some (.ref f)))(ht:tabIn K x=some (c,Pt))(hm:mg x=some (.ref f))(S:qX N ps (qo st))
  (hb:∀(kV doc pm:Value)(an:cm)(cdv ct:Value)(us:bV),us.length=ps.length->bindArgs (fnOf x x (Qn st) (yH st) (qo st) .none kV doc pm an cdv ct) ⟨us,[]⟩=pure (ps.zip us))
  (y:∀(A:Around)(outer:cf)(s:Shared)(H:Hp)(E:XK),jR k (A.deeper (envOfC x (qo st) s.heap.objs.size f (.ref c)))->
   kU (wQ wX P w K mg base N x (qo st) f (.ref c) A outer s H E).nox yx (yH st) (m (kP (envOfC x (qo st) s.heap.objs.size f (.ref c)) q ls))):
  zR P w K mg base (k+1) x ps.length (Y0 q Pt λPF=>qV N.length (m PF)):=by
 try simp only[yI]at*
 refine⟨f,fd,ps,(fJ (q:=q) (ls:=ls) (m:=m) F hn ht S y).imp λvs H Q E ⟨hl,φ,A,ws,S,r,D⟩=>?_,hm,F.kp,F.binds hb⟩;have hx:∃r,Xi q Pt (λPF=>qV N.length (m PF)) ws A r:=by
  apply Classical.byContradiction
  intro z;unfold Y0 at D;rw[dif_neg z]at D;exact D.elim
 obtain⟨r0,J⟩:=hx;rw[Nh J]at D;obtain⟨n,us,xs,w0,zs,rfl,X,u,nx,nu,nz,nw,rfl,hg⟩:=J;obtain⟨v0,vr,rfl,q1,qr⟩:=r;obtain⟨p,ys,rfl,f1,g1,b⟩:=S.lst q1 X;obtain⟨pt,ft,rfl,pz,gt,rt⟩:=S.ob 1 _ u;have I:p≠pt:=λz=>by subst z;rw[g1]at gt;cases gt
 have S0:zS K [p,pt] [.lst xs,.tab q pt] H:=by
  refine⟨rfl,λi j a o o' d B h3 h4 _ _=>?_,λm o e=>?_⟩
  ·have L:=(cx.mp d).1
   have l2:=(cx.mp B).1;simp at L l2;have U:i=0∨i=1:=by omega
   have c2:j=0∨j=1:=by omega
   rcases U with rfl|rfl<;>rcases c2 with rfl|rfl
   ·rfl
   ·simp at d B;exact absurd (d.trans B.symm) I
   ·simp at d B;exact absurd (B.trans d.symm) I
   ·rfl
  ·have L:=(cx.mp e).1
   simp at L;have U:m=0∨m=1:=by omega
   rcases U with rfl|rfl
   ·simp at e;subst e;exact⟨p,rfl,ys,g1,b.nrm (λ_ _ t=>t) (λ_ _ _ t=>t) nx⟩
   ·simp at e;subst e;exact⟨pt,rfl,rfl,pz,gt,rt⟩
 refine⟨hl,[p,pt],[.lst xs,.tab q pt],.ref 0::us,S0,.cons ⟨p,rfl,rfl⟩ (qr.nrm (λ_ _ t=>t) (λ_ _ _ t=>t) nu),λPF=>?_⟩;obtain⟨A1,hf,h0,d⟩:=hg PF;dsimp only at hf;rw[hf];intro C H1 v L S1 qv;have apart:∀a o,a≠p->a≠pt->H a=some o->H1 a=some o:=λa o ne ne2 h=>L.fr a o h λm e=>by
  have l:=(cx.mp e).1;simp at l;have U:m=0∨m=1:=by omega
  rcases U with rfl|rfl
  ·simp at e;exact ne e.symm
  ·simp at e;exact ne2 e.symm
 have lf:Le K φ H φ H1:=⟨λ_ _ h=>h,L.tp,λa o h nn=>apart a o (λe=>nn n (by rw[e];exact f1)) (λe=>nn 1 (by rw[e];exact ft)) h,λ_ _ h=>.inl h,L.st,L.fz⟩
 have hp:C[0]? =some p:=L.ex 0 p rfl;have hp1:C[1]? =some pt:=L.ex 1 pt rfl;obtain⟨p',g,Y,e2,r2⟩:=S1.ob 0 _ h0;rw[hp]at g;cases g;obtain⟨p'',T,_,qz,e2',Z⟩:=S1.ob 1 _ d;rw[hp1]at T;cases T;refine D φ H1 v lf ?_ (RV.nrm (λ_ _ t=>t) (λ_ _ _ t=>t) nw qv);have mt:∀(i:Nat)(w:O),(A.set n (.lst zs))[i]? =some w->w.mut=true->∃w',A[i]? =some w'/\w'.mut=true:=λi w e mw=>by
  by_cases hi:i=n
  ·subst hi;exact⟨_,X,rfl⟩
  ·rw[aG (Ne.symm hi)]at e;exact⟨w,e,mw⟩
 refine⟨by simp[S.len],λi j a o1 o2 d B h3 h4 m1 m2=>?_,λi w e=>?_⟩
 ·obtain⟨w1,g,k1⟩:=mt i o1 h3 m1
  obtain⟨w2,e2,k2⟩:=mt j o2 h4 m2;exact S.inj i j a w1 w2 d B g e2 k1 k2
 ·by_cases hi:i=n
  ·subst hi
   have:i<A.length:=(cx.mp X).1
   rw[aH this]at e;cases e;exact⟨p,f1,Y,e2,r2.nrm (λ_ _ t=>t) (λ_ _ _ t=>t) nz⟩
  ·rw[aG (Ne.symm hi)]at e
   by_cases M:i=1
   ·subst M
    rw[u]at e;cases e;exact⟨pt,ft,rfl,qz,e2',Z⟩
   ·obtain⟨a,g,rr⟩:=S.ob i w e
    refine⟨a,g,?_⟩
    by_cases hm:w.mut=true
    ·have ne:a≠p:=λz=>hi (S.inj i n a w _ g (by rw[z];exact f1) e X hm rfl)
     have ne2:a≠pt:=λz=>M (S.inj i 1 a w _ g (by rw[z];exact ft) e u hm rfl)
     exact rr.keep lf λz hz=>apart a z ne ne2 hz
    ·cases w with
     |lst _=>exact absurd rfl hm|dct _=>exact absurd rfl hm|tab _ _=>exact absurd rfl hm|ro ws=>
      obtain⟨vs,b,r2⟩:=rr;refine⟨vs,?_,r2.mono lf⟩;rcases b with ⟨ob,b⟩|b
      ·refine .inl ⟨ob,apart a _ ?_ ?_ b⟩
       ·intro z;subst z;rw[g1]at b;cases b
       ·intro z;subst z;rw[gt]at b;cases b
      ·exact .inr b
def HL {m:Ev}{P pos':Pos}(t:X.calm=true)(hm:X.mg "sorted"=none)(d:X.mg "set"=none)(M:zD X xr e m)(J:Gl X "sorted":=by rfl)(g:Gl X "set":=by rfl)(s:starEach [e] X.env=(false,eval e X.env)::starEach [] X.env:=by rfl)
  (c:starEach [.Call (.Name "set" P) [e] [] pos'] X.env=(false,eval (.Call (.Name "set" P) [e] [] pos') X.env)::starEach [] X.env:=by rfl):
  zD X xr (.Call (.Name "sorted" p) [.Call (.Name "set" P) [e] [] pos'] [] pos) (W5 m):=by
 try simp only[yI]at*
 exact PE.imp (ZJ (RJ t) J hm (by rfl) (jw (JH (E6 t) g d (by rfl) (jw M yj s) (by decide) (by decide) s (by rfl)) yj c) (by decide) (by decide) c (by rfl)) λσ H Q ⟨φ,A,ρ,S,re,h⟩=>by
   refine tM.go S re (qd.mp h) λw A1 b H1 v a D y B=>?_;cases w with
   |tup ws=>
    unfold VD at a;dsimp only at a;obtain⟨n,ys,rfl,x,z⟩:=B;cases E:intsOf ws with
    |none=>rw[E]at a;exact a.elim|some is=>
     rw[E]at a;dsimp only at a;have T:=Kx E;subst T;have ev:=zE.ints.mp z;subst ev;cases k:ZT is with
     |none=>rw[k]at a;exact a.elim|some vs=>
      rw[k]at a;dsimp only at a;obtain⟨Y,N⟩:=VG k;have j:qQ X.K H1 n (vs.map λ(v:Nat)=>V.int (v:Int)):=by rw[Y,aP]at x;exact x
      refine⟨n,vs,rfl,j,N,λl q=>⟨l,vs.foldl jV 0,rfl,jS,λC f=>?_⟩⟩;have ln:Le X.K b H1 b (upd H1 l (.ext λh=>ym h l (jA X.w) (vs.foldl jV 0))):=Le.new q;have S2:=y.lay (u:=.ext λh=>ym h l (jA X.w) (vs.foldl jV 0)) q;have r:∀(ψ:bW)(G:Hp),zE X.K ψ G (((List.range 8).filter λi=>decide (i∈vs)).map λ(i:Nat)=>W.int (i:Int)) ((qk (vs.foldl jV 0)).map λ(v:Nat)=>V.int (v:Int)):=λψ G=>by
       rw[P8];have U:∀l:bY,zE X.K ψ G (l.map λ(i:Nat)=>W.int (i:Int)) (l.map λ(v:Nat)=>V.int (v:Int)):=λl=>by
        induction l with
        |nil=>rfl|cons i l I=>exact⟨_,_,rfl,rfl,I⟩
       exact U _
      obtain⟨L,Z⟩:=S2.alloc (o:=.lst (((List.range 8).filter λi=>decide (i∈vs)).map λ(i:Nat)=>W.int (i:Int))) f (u:=.lst ((qk (vs.foldl jV 0)).map λ(v:Nat)=>V.int (v:Int))) ⟨_,jS,r _ _⟩;exact a _ _ _ (D.trans (ln.trans L)) Z ⟨C,rfl,by rw[<- y.len];simp⟩
   |_=>exact a.elim
def DP {st:Expr}{m:Ev}{ms:Ev}{P:Pos}(he:zD X xr e m)(s:zD X xr st ms):zD X xr (.Subscript e (.Slice none none (some st) P) pos) (YY m ms):=by
 try simp only[yI]at*
 exact PE.imp (Bs he (Mi.Mq s)) λσ H Q ⟨φ,A,ρ,S,re,h⟩=>by
   refine tM.go S re (qd.mp h) λw A1 c H1 v i l n q=>?_;refine⟨c,A1,ρ,n,re.mono l,qL (qd.mp i) (λo A2 b f u L k=>?_) λ_ _ z=>z.mono l⟩;cases w with
   |tup ws=>
    dsimp only at b
    by_cases d:o=some (-1)
    ·rw[ah d]at b
     obtain⟨a,vs,rfl,t,r⟩:=q.mono L;refine⟨d,a,vs,rfl,t,λp g=>?_⟩
     ·obtain⟨a1,a2,j⟩:=JR k g (zE.rev r)
      exact b _ _ _ ((l.trans L).trans a1) a2 j
    ·rw[aj d]at b;exact b.elim
   |_=>exact b.elim
def BV {m:Ev}(h:zD X xr e m)(he:∀whole,isTrue e X.env whole=(do let v <- whole;standAt e.pos;holding [v] (truthy v)):=by intro _;rfl):yU X xr e (J7 m):=by
 try simp only[yI]at*
 exact PT.imp (DN h he) λσ H Q ⟨φ,A,ρ,S,re,h⟩=>by
   refine tM.go S re (qd.mp h) λw A1 c H1 v a L s d=>?_;cases w with
   |ref n=>
    dsimp only at a;cases E:A1[n]? with
    |none=>rw[E]at a;exact a.elim|some u=>cases u with
     |lst ws=>
      rw[E]at a;dsimp only at a;obtain⟨p,ys,rfl,f,i,r⟩:=s.lst d E;obtain⟨b,g,q⟩:=a;cases g;have l:=r.length;refine⟨!ws.isEmpty,.inl ⟨ys,jj.of i,?_⟩,q c H1 L s⟩;cases ws with
      |nil=>cases ys with
       |nil=>rfl|cons _ _=>cases l
      |cons _ _=>cases ys with
       |nil=>cases l|cons _ _=>rfl
     |_=>rw[E]at a;exact a.elim
   |_=>exact a.elim
def EL {m:Ev}(z:X.calm=true)(hm:X.mg "sorted"=none)(k:zD X xr e m)(j:Gl X "sorted":=by rfl)(s:starEach [e] X.env=(false,eval e X.env)::starEach [] X.env:=by rfl):zD X xr (.Call (.Name "sorted" p) [e] [] pos) (GS m):=by
 try simp only[yI]at*
 exact PE.imp (ZJ HQ j hm (by rfl) (jw k yj s) (by decide) (by decide) s (by rfl)) λσ H Q ⟨φ,A,ρ,S,re,h⟩=>by
   refine tM.go S re (qd.mp h) λw A1 c H1 v a L d q=>?_;cases w with
   |ref n=>
    unfold UR at a;dsimp only at a;cases E:A1[n]? with
    |none=>rw[E]at a;exact a.elim|some u=>cases u with
     |lst ws=>
      rw[E]at a;dsimp only at a;obtain⟨P,ys,rfl,o,x,f⟩:=d.lst q E;cases i:Qz ws with
      |none=>rw[i]at a;exact a.elim|some ks=>
       rw[i]at a;dsimp only at a;obtain⟨t,ne⟩:=OK i;subst t
       by_cases b:ks.length<64
       ·rw[ah b]at a
        refine⟨P,ys,ks,c,rfl,jj.of x,f,ne,b,λl zs g r=>?_⟩;obtain⟨a1,a2,y⟩:=Jc d g r;exact a _ _ _ (L.trans a1) a2 y
       ·rw[aj b]at a;exact a.elim
     |_=>rw[E]at a;exact a.elim
   |_=>exact a.elim
def zR.up {K:Frag}{f:Fn}(F:zR P w K mg base j x n f)(h:j<=k:=by decide):zR P w K mg base k x n f:=F.mono h
def jX.up {K:Frag}{f:Fn}(F:jX P w K mg base j x n f)(h:j<=k:=by decide):jX P w K mg base k x n f:=F.mono h
section
variable {C:List Value->Prop}
theorem wW (h:∀a,C [a]):∀us:bV,us.length=1->C us
 |[a],_=>h a
theorem wD (h:∀a b,C [a,b]):∀us:bV,us.length=2->C us
 |[a,b],_=>h a b
theorem Yf (h:∀a b c,C [a,b,c]):∀us:bV,us.length=3->C us
 |[a,b,c],_=>h a b c
theorem LZ (h:∀a b c d,C [a,b,c,d]):∀us:bV,us.length=4->C us
 |[a,b,c,d],_=>h a b c d
end
def qS {l:bZ}(h:decide l.Nodup=true):l.Nodup:=of_decide_eq_true h
noncomputable def LX (N P:bZ)(sc:Scope):Bool:=decide (sc.kind=.function)&&(!sc.isCoroutine&&(!sc.isGenerator&&(decide N.Nodup&&(decide (N.take P.length=P)&&(P.all (λx=>decide (sc.names.lookup x=some .local) || decide (sc.names.lookup x=some .cell))&&sc.names.all λy=>!decide (y.2=.free))))))
def jo {P:bZ}(h:LX N P sc=true):qX N P sc:=by
 unfold LX at h;simp only[ak,ai,Bool.not_eq_true',bA,bD,decide_eq_false_iff_not]at h;obtain⟨g,f,e,d,c,b,a⟩:=h;exact⟨g,f,e,d,c,b,λy H=>a y H⟩
section
def XB (h:(ls.all λt=>G3 X.N X.env.scope t)=true):∀t∈ls,QC X t:=λt H=>NO (cB.mp h t H)
def je {M:Ev}(nl:Nat)(cap:bY)(hw:wF X xr tg iter mi)
  (n:∀s H fp,gn (jB X N sc s H fp yb) tg tw/\Zq (jB X N sc s H fp yb) ifs M/\Ze (jB X N sc s H fp yb) elt (⟨tg,iter,ifs,0⟩::gs) sc pos 0 em)
  (c:X.calm=true:=by rfl)(S:Zm X sc:=by exact cps (by kernel_rfl))(p:Qv X.N N sc nl cap=true:=by kernel_rfl)
  (b:∀g',gs[0]? =some g'->g'.is_async=0:=by intro _ h;cases h<;>rfl)
  (a:∀x,foldedSetIterable iter X.env x=pure x:=by intro _;rfl):QJ X xr (.ListComp elt (⟨tg,iter,ifs,0⟩::gs) sc pos) (zW nl cap mi tw M em):=Cs nl cap c S p hw n b a
def q9 {d:Nat}(he:zD X yx elt me)(h:∀e s,X.xe e s->False:=by exactλ_ _ z=>z)(H:gens[d+1]? =none:=by rfl):Ze X elt gens sc pos d (zQ me):=Af h he H
end
open PySem L2
abbrev zm:Ev:=qj 0
abbrev zw:Ev:=qj 1
abbrev zB:Ev:=qj 2
abbrev zO:Ev:=qj 3
abbrev jy:Ev:=qj 4
abbrev yy:Ev:=qj 5
abbrev we:Ev:=qj 6
abbrev yA:Ev:=qj 7
abbrev XG:Ev:=qj 9
abbrev G6:Ev:=qj 10
abbrev zP:Ev:=zU (.int 0)
abbrev zI:Ev:=zU (.int 1)
abbrev qK:Ev:=zU (.int 2)
abbrev jz:Ev:=zU (.int 3)
abbrev kW:Ev:=zU (.int 4)
abbrev Xp:Ev:=zU (.int 5)
abbrev Ye:Ev:=zU (.int 6)
abbrev Ws:Ev:=zU (.int 7)
abbrev ZC:Ev:=zU (.int 8)
abbrev Jr:Ev:=zU (.int 10)
abbrev qh:Ev:=zU (.bl true)
abbrev Ww:Ev:=zU (.bl false)
abbrev Zu:Ev:=zU .non
abbrev yt:Ex:=zo (qN Ww) zC
end Mi
namespace G
open PySem L2 Mi
noncomputable def top (i:Nat):Stmt:=PySem.Challenge.pw_nearkinds_k50_lots_of_told_nearness.main.body.getD i (.Pass ⟨0,0,0,0⟩)
structure Bu (mg:cc):Prop where
 HE:mg "ValueError"=none
 Tb:mg "abs"=none
 Qx:mg "all"=none
 GH:mg "bool"=none
 Vt:mg "enumerate"=none
 JW:mg "int"=none
 jZ:mg "isinstance"=none
 yS:mg "len"=none
 ZS:mg "list"=none
 QB:mg "max"=none
 Ts:mg "min"=none
 yf:mg "range"=none
 M1:mg "set"=none
 VY:mg "sorted"=none
 zcQ:mg "sum"=none
 gx:mg "tuple"=none
 Li:mg "zip"=none
 Hn:∃t,mg "MOST_PLACES"=some (.int 8 t)
noncomputable abbrev jc:bZ:=["NoTable","NoLot","NoKinds"]
noncomputable abbrev W9:bZ:=["NoTable","NotSteady","NoPlace","NoKind","NoMix","NoNumber","NoLot","NoKinds","NoPaper","NoParting","NoClosed","TooMany","NoText","NoLine","NoDeed"]
def yd {K:Frag}(R:W9.all (Jd K jc)=true)(h:W9.contains x=true:=by decide +kernel):Jd K jc x=true:=cB.mp R x (List.contains_iff_mem.mp h)
def Qd {l:List (Str×NameKind)}(h:(l.all λy=>!(y.2==.cell))=true):∀y∈l,y.2≠.cell:=λy H e=>by
 have q:=cB.mp h y H;rw[e]at q;cases q
def yE {m:Ev}(h:zD X xr e m):SE X xr e m:=by rw[GQ]at h;exact h
abbrev PC:Stmt:=top 1
def Fm:qX ["thing"] ["thing"] (qo PC):=jo (by kernel_rfl)
def Pq:Ex:=zo (qN (yW (yY .int zm) (jO (yY .bl zm)))) zC
abbrev R0:Stmt:=top 2
def Fc:qX ["thing","many"] ["thing","many"] (qo R0):=jo (by kernel_rfl)
def Vp (v:Fn):Ex:=zo (qN (yW (yY .tup zm) (yW (zj jd (mQ qx (qg zm)) zw) (mQ gI (zW 1 [] (qe zm) (zH 0) qh (zQ (zA v (zc zm zl)))))))) zC
abbrev S6:Stmt:=top 3
def Iz:qX ["thing","many","limit"] ["thing","many","limit"] (qo S6):=jo (by kernel_rfl)
def XT (f:Fn):Ex:=zo (qN (yW (zA f (zc zm (zc zw zl))) (mQ gI (zW 1 [2] (qe zm) (zH 0) qh (zQ (kx wm Js zP zm zw)))))) zC
abbrev SD:Stmt:=top 4
def Il:qX ["thing","least","greatest"] ["thing","least","greatest"] (qo SD):=jo (by kernel_rfl)
def SK (v:Fn):Ex:=zo (qN (yW (zA v (zc zm zl)) (kx wm wm zw zm zB))) zC
abbrev R3:Stmt:=top 5
def HD:qX ["things"] ["things"] (qo R3):=jo (by kernel_rfl)
def R8:Ex:=zo (qN (mQ gI (zW 2 [] (QH zm (yc zm (j5 zI) yz)) (kH 0 1) qh (zQ (zj Js zm zw))))) zC
abbrev Sz:Stmt:=top 6
def Ik:qX ["thing","least","greatest"] ["thing","least","greatest"] (qo Sz):=jo (by kernel_rfl)
def XN (f:Fn)(I:Fn):Ex:=zo (qP (jO (yY .tup zm)) yt zC) (zo (qN (yW (mQ gI (zW 1 [1,2] (qe zm) (zH 0) qh (zQ (zA I (zc zm (zc zw (zc zB zl))))))) (zA f (zc zm zl)))) zC)
abbrev Py:Stmt:=top 26
def Pj:qX ["thing","many"] ["thing"] (qo Py):=jo (by kernel_rfl)
def WZ (E:Fn)(i:Fn)(I:Fn):Ex:=zo (qP (wU (jO (yY .tup zm)) (jO (kx wm wm zI (mQ qx (qg zm)) ZC))) yt zC) (zo (zZ 1 (mQ qx (qg zm))) (zo (qP (jO (mQ gI (zW 1 [1] (qe zm) (zH 0) qh (zQ (zA i (zc zm (zc zw (zc zw zl)))))))) yt zC) (zo (qN (yW (zA E (zc zm zl)) (zA I (zc zm zl)))) zC)))
abbrev PX:Stmt:=top 27
def Vw:qX ["rows","a","row","b","kind"] ["rows"] (qo PX):=jo (by kernel_rfl)
def PU:Ex:=zo (yk (Jo zm) (kH 1 2) (zo (yk (Jo zB) (kH 3 4) (zo (qP (wU (zj jf (zj jd jy zP) (zj jd zw zO)) (zj jf (zj zJ (zj zJ zm zO) zw) jy)) yt zC) zC)) zC)) (zo (qN qh) zC)
abbrev Ss:Stmt:=top 28
def Sr:qX ["rows","standing"] ["rows"] (qo Ss):=jo (by kernel_rfl)
def Su:Ex:=zo (zZ 1 (qu (zW 2 [] (qe zm) (zH 0) qh (Jj (qe zm) (zH 1) qh (zQ zw))))) (zo (qN (mQ gI (zW 1 [1] (jG (mQ yC (qg zw))) (zH 0) qh (zQ (zj Y8 zm zw))))) zC)
abbrev Ri:Stmt:=top 29
def IJ:qX ["table"] ["table"] (qo Ri):=jo (by kernel_rfl)
def XZ (f:Fn):Ex:=zo (qP ((λρ A=>((jO (zA f (zc zm zl))) ρ A).nox)) (zo (KZ "NoTable" (zc (zU (.str "this is no table")) zl)) zC) zC) zC
abbrev Rw:Stmt:=top 30
def IV:qX ["table"] ["table"] (qo Rw):=jo (by kernel_rfl)
def Rq:Ex:=zo (qN (zj qa (mQ yC (zW 1 [] (qe zm) (zH 0) qh (zQ (mQ yC (qg zm))))) zI)) zC
abbrev Ry:Stmt:=top 32
def IY:qX ["table","lot"] ["table","lot"] (qo Ry):=jo (by kernel_rfl)
def X7 (X:Fn):Ex:=zo (qP ((λρ A=>((jO (zA X (zc zw (zc zP (zc (zj yw (mQ qx (qg zm)) zI) zl))))) ρ A).nox)) (zo (KZ "NoLot" (zc (zU (.str "this is no lot of the table")) zl)) zC) zC) zC
abbrev Sw:Stmt:=top 33
def Ib:qX ["table","kinds"] ["table","kinds"] (qo Sw):=jo (by kernel_rfl)
def XJ (x:Fn)(X:Fn):Ex:=zo (qP ((λρ A=>((jO (zA X (zc zw (zc zI (zc (zj yw (zA x (zc zm zl)) zI) zl))))) ρ A).nox)) (zo (KZ "NoKinds" (zc (zU (.str "these are no told kinds of the table")) zl)) zC) zC) zC
abbrev OD:Stmt:=top 34
def W8:qX ["table","lot","counts","a","b"] ["table","lot"] (qo OD):=jo (by kernel_rfl)
def Gp (X:Fn)(x:Fn)(J:Fn):Ex:=zo (jJ (zA J (zc zm zl))) (zo (jJ (zA x (zc zm (zc zw zl)))) ((λρ A=>((zo (zZ 2 (zj jk (zX (zc zP zl)) (zA X (zc zm zl)))) (zo (yk (qe zw) (zH 3) (zo (yk (qe zw) (zH 4) (zo (ZV zB (zj zJ (zj zJ zm zO) jy) zI) zC)) zC)) (zo (qN zB) zC))) ρ A).nox)))
abbrev NL:Stmt:=top 35
def DR:qX ["table","kinds","lot","place"] ["table","kinds","lot","place"] (qo NL):=jo (by kernel_rfl)
def Nd:Ex:=zo (qN (mQ gI (zW 1 [0,1,3] (qe zB) (zH 0) qh (zQ (zj Y8 (zj zJ (zj zJ zw zm) zO) zB))))) zC
abbrev Od:Stmt:=top 36
def FN:qX ["table","kinds","lot"] ["table","kinds","lot"] (qo Od):=jo (by kernel_rfl)
def Ku (U:Fn)(X:Fn)(J:Fn)(K:Fn):Ex:=zo (jJ (zA J (zc zm zl))) (zo (jJ (zA K (zc zm (zc zw zl)))) (zo (jJ (zA X (zc zm (zc zB zl)))) ((λρ A=>((zo (qN (mQ gI (zW 2 [0,1,2] (Jo zB) (kH 0 1) qh (zQ (zA U (zc zB (zc zO (zc (yc jy yz (j5 zm)) (zc zw zl))))))))) zC) ρ A).nox))))
abbrev SU:Stmt:=top 37
def Ke:qX ["table","kinds","lots","longer"] ["table","kinds"] (qo SU):=jo (by kernel_rfl)
def SV (U:Fn):Ex:=zo (zZ 2 (zX zl)) (zo (zZ 3 (qu (zW 1 [] (jG (mQ qx (qg zm))) (zH 0) qh (zQ (zG (zc zm zl)))))) (zo (K7 1000 (J7 zO) (zo (zZ 2 zO) (zo (zZ 3 (qu (zW 2 [0,1] (qe zB) (zH 0) qh (Jj (Qy (zj qa (zj zJ zm (ju km zI)) zI) (mQ qx (qg zB))) (zH 1) (zA U (zc zB (zc zO (zc zm (zc zw zl))))) (zQ (zj qa zm (zG (zc zw zl)))))))) zC))) (zo (qN zB) zC)))
abbrev MR:Stmt:=top 38
def BF:qX ["table","kinds"] ["table","kinds"] (qo MR):=jo (by kernel_rfl)
def GW (X:Fn)(J:Fn)(K:Fn):Ex:=zo (jJ (zA J (zc zm zl))) (zo (jJ (zA K (zc zm (zc zw zl)))) ((λρ A=>((zo (qN (mQ qx (qg (zj zJ (zA X (zc zm (zc zw zl))) zP)))) zC) ρ A).nox)))
abbrev Pw:Stmt:=top 39
def Fs:qX ["table","kinds"] ["table","kinds"] (qo Pw):=jo (by kernel_rfl)
def W3 (X:Fn)(J:Fn)(K:Fn):Ex:=zo (jJ (zA J (zc zm zl))) (zo (jJ (zA K (zc zm (zc zw zl)))) ((λρ A=>((zo (qN (zA X (zc zm (zc zw zl)))) zC) ρ A).nox)))
abbrev Rm:Stmt:=top 41
def IM:qX ["_law_script","_law_k"] ["_law_script","_law_k"] (qo Rm):=jo (by kernel_rfl)
def X4:Ex:=zo (qP (zj Js zw (mQ qx (qg zm))) (zo (qN (zj zJ zm zw)) zC) zC) (zo (qN zP) zC)
abbrev RP:Stmt:=top 42
def RD:qX ["_law_script","_law_k","_law_cell"] ["_law_script","_law_k"] (qo RP):=jo (by kernel_rfl)
def Vj (H:Fn):Ex:=zo (zZ 2 (zA H (zc zm (zc zw zl)))) (zo (qP (zj Sa zB (zj JY Jr (zU (.int 18)))) (zo (qN (zX (zc (zj yw zB (zj JY Jr (zU (.int 18)))) (zc qh zl)))) zC) zC) (zo (qN (zX (zc (zj wM zB (zU (.int 2147483647))) (zc Ww zl)))) zC))
abbrev R5:Stmt:=top 43
def WS:qX ["_law_state_here","_law_many","_law_found","_law_stirred"] ["_law_state_here","_law_many"] (qo R5):=jo (by kernel_rfl)
def Vo:Ex:=zo (qP (zj zJ zm zI) (zo (zZ 2 (zj wM (zj zJ zm zP) zw)) (zo (w9 kK (zj ZU (zj zJ zm zP) zw) zm zP) (zo (qN zB) zC))) zC) (zo (w9 kK (zj wM (zj qa (zj jk (zj zJ zm zP) (zU (.int 48271))) (zU (.int 29))) (zU (.int 2147483647))) zm zP) (zo (zZ 3 (zj wM (zj qa (zj qa (zj jk (zj zJ zm zP) (zj zJ zm zP)) (zj jk (zU (.int 39373)) (zj zJ zm zP))) Ws) (zU (.int 2147483629)))) (zo (zZ 3 (zj wM (zj qa (zj jk zO zO) (zj jk (zU (.int 16807)) zO)) (zU (.int 2147483587)))) (zo (qN (zj wM (zj ZU zO ZC) zw)) zC))))
abbrev Rb:Stmt:=top 44
def XU:qX ["_law_state_here","_law_things","_law_left","_law_found"] ["_law_state_here","_law_things"] (qo Rb):=jo (by kernel_rfl)
def S9 (y:Fn):Ex:=zo (zZ 2 (qu (qg zw))) (zo (zZ 3 (zX zl)) (zo (K7 1000 (zj jf zB (zX zl)) (zo (jJ (jU yi zO (jU ZN zB (zA y (zc zm (zc (mQ qx (qg zB)) zl)))))) zC)) (zo (qN zO) zC)))
abbrev RG:Stmt:=top 45
def Rv:qX ["_law_rows","_law_some"] ["_law_rows"] (qo RG):=jo (by kernel_rfl)
def RN:Ex:=zo (zZ 1 (Gf (zj QA (qu (zW 1 [] (qe zm) (zH 0) qh (zQ (qu (qg zm))))) (zX zl)))) (zo (qN (mQ wO (zW 1 [1] (qe zm) (zH 0) qh (zQ (mQ wO (zW 1 [1] (qe zm) (zH 0) qh (zQ (jU ZP zw zm)))))))) zC)
abbrev RX:Stmt:=top 46
def wY:qX ["_law_state_here","_law_way","_law_many","_law_wide","_law_high","_law_some","_law_ring","_law_rows","_law_a","_law_near","_law_far"] ["_law_state_here"] (qo RX):=jo (by kernel_rfl)
def Vg (y:Fn):Ex:=zo (zZ 1 (zA y (zc zm (zc ZC zl)))) (zo (zZ 2 (zj zJ (zX (zc ZC (zc Ws (zc Ye (zc Xp (zc kW (zc jz (zc qK (zc zI zl))))))))) (zA y (zc zm (zc ZC zl))))) (zo (qP (zj jd zw zP) (zo (qN (qu (zW 1 [2] (jG zB) (zH 0) qh (zQ (qu (zW 1 [0,1] (jG zw) (zH 0) qh (zQ (zj Jl (ju Wf (zj yw zw zm)) (zj yw zB (ju Wf (zj yw zw zm))))))))))) zC) zC) (zo (qP (zj jd zw zI) (zo (zZ 2 (zj zJ (zX (zc ZC (zc kW (zc qK zl)))) (zA y (zc zm (zc jz zl))))) (zo (qN (qu (zW 1 [2] (jG zB) (zH 0) qh (zQ (qu (zW 1 [0] (jG zw) (zH 0) qh (zQ (zj zJ (zX (zc zP (zc zI (zc zI (zc qK (zc zI (zc qK (zc qK (zc jz zl))))))))) (zj TX zw zm))))))))) zC)) zC) (zo (qP (zj jd zw qK) (zo (qN (qu (zW 1 [2] (jG zB) (zH 0) qh (zQ (qu (zW 1 [0] (jG zw) (zH 0) qh (zQ (ju J5 (zj jf zw zm))))))))) zC) zC) (zo (qP (zj jd zw jz) (zo (Jq (zj zJ (zX (zc (zG (zc qK (zc kW zl))) (zc (zG (zc kW (zc qK zl))) (zc (zG (zc qK (zc jz zl))) (zc (zG (zc jz (zc qK zl))) (zc (zG (zc qK (zc qK zl))) zl)))))) (zA y (zc zm (zc Xp zl)))) (kH 3 4)) (zo (zZ 2 (zj jk zO jy)) (zo (qN (qu (zW 1 [2,3] (jG zB) (zH 0) qh (zQ (qu (zW 1 [0,2] (jG zw) (zH 0) qh (zQ (zj qa (ju J5 (zj jf zw zm)) (ju J5 (zj jf (zj ZU zw zB) (zj ZU zm zB))))))))))) zC))) zC) (zo (qP (zj jd zw kW) (zo (zZ 5 (zX (zc (zG (zc zP (zc zI zl))) (zc (zG (zc zP (zc qK zl))) (zc (zG (zc zP (zc jz zl))) (zc (zG (zc zI (zc qK zl))) (zc (zG (zc zI (zc jz zl))) (zc (zG (zc qK (zc jz zl))) zl)))))))) (zo (qN (qu (zW 1 [5] (qe yy) (zH 0) qh (zQ (qu (zW 1 [0] (qe zw) (zH 0) qh (zQ (zj yw qK (mQ qx (zW 1 [0] (qe zw) (zH 0) (zj Y8 zm zw) (zQ zm))))))))))) zC)) zC) (zo (qP (zj jd zw Xp) (zo (zZ 2 (zj zJ (zX (zc kW (zc ZC (zc qK zl)))) (zA y (zc zm (zc jz zl))))) (zo (qN (qu (zW 1 [2] (jG zB) (zH 0) qh (zQ (qu (zW 1 [0] (jG zw) (zH 0) qh (zQ (zj TX zw zm)))))))) zC)) zC) (zo (zZ 3 (zj zJ (zX (zc kW (zc jz (zc qK zl)))) (zA y (zc zm (zc jz zl))))) (zo (zZ 6 (zX (zc zP (zc zI (zc (zj zJ (zX (zc qK (zc zI zl))) (ju J5 (zj jd zO jz))) (zc zI zl)))))) (zo (zZ 7 (zX zl)) (zo (yk (jG (zj jk qK zO)) (zH 8) (zo (zZ 9 (qu (zW 1 [3,6,8] (jG (zj jk qK zO)) (zH 0) qh (zQ (zj zJ zB (zj wM (ju Wf (zj yw zO zm)) zw)))))) (zo (zZ 10 (qu (zW 1 [3,8] (jG (zj jk qK zO)) (zH 0) qh (zQ (ju J5 (zj jf (zj ZU zB zw) (zj ZU zm zw))))))) (zo (qP (zj jd zw Ye) (zo (jJ (jU yi yA (qu (zW 1 [9,10] (jG (zj jk qK zO)) (zH 0) qh (zQ (zj qa (zj jk jz (zj zJ zB zm)) (zj zJ zw zm))))))) zC) (zo (jJ (jU yi yA (qu (zW 1 [9,10] (jG (zj jk qK zO)) (zH 0) qh (zQ (LV (zj jd (zj zJ zB zm) zI) jz (zj zJ zw zm))))))) zC)) zC)))) (zo (qN yA) zC))))))))))))
abbrev RL:Stmt:=top 47
def WI:qX ["_law_state_here","_law_rows","_law_order","_law_kinds_here"] ["_law_state_here"] (qo RL):=jo (by kernel_rfl)
def RK (S:Fn)(w:Fn)(H:Fn):Ex:=zo (zZ 1 (zA w (zc (zA H (zc zm zl)) zl))) (zo (zZ 2 (zA S (zc zm (zc (KU (mQ qx (qg zw))) zl)))) (zo (zZ 3 (zj qa (zX (zc zP zl)) (zA S (zc zm (zc (KS zI (zj qa zI (mQ yC (zW 1 [] (qe zw) (zH 0) qh (zQ (mQ yC (qg zm))))))) zl))))) (zo (qN (mQ wO (zW 1 [1,2,3] (qe zB) (zH 0) qh (zQ (mQ wO (zW 1 [0,1,3] (qe zB) (zH 0) qh (zQ (zj zJ zO (zj zJ (zj zJ zB zw) zm))))))))) zC)))
abbrev RM:Stmt:=top 48
def Z8:qX ["_law_state_here","_law_way","_law_rows","_law_many","_law_a","_law_b","_law_far"] ["_law_state_here"] (qo RM):=jo (by kernel_rfl)
def RW (r:Fn)(w:Fn)(y:Fn):Ex:=zo (zZ 1 (zA y (zc zm (zc jz zl)))) (zo (qP (zj jd zw zP) (zo (qN (zA r (zc zm zl))) zC) zC) (zo (zZ 2 (qu (zW 1 [] (qe (zA r (zc zm zl))) (zH 0) qh (zQ (qu (qg zm)))))) (zo (zZ 3 (mQ qx (qg zB))) (zo (qP (yW (zj jd zw zI) (zj T7 zO zI)) (zo (zZ 4 (zA y (zc zm (zc zO zl)))) (zo (zZ 5 (zj wM (zj qa (zj qa jy zI) (zA y (zc zm (zc (zj yw zO zI) zl)))) zO)) (zo (w9 kK (zj qa zI (zA y (zc zm (zc (zj yw zO zI) zl)))) (zj zJ zB jy) yy) (zo (w9 kK (zj zJ (zj zJ zB jy) yy) (zj zJ zB yy) jy) (zo (qN (zA w (zc zB zl))) zC))))) zC) (zo (zZ 6 (zj zJ (zX (zc qK (zc jz (zc zI zl)))) (zA y (zc zm (zc jz zl))))) (zo (yk (jG zO) (zH 4) (zo (yk (jG jy) (zH 5) (zo (w9 kK (zj qa zI (zA y (zc zm (zc (zj Jl we (zj yw zO zI)) zl)))) (zj zJ zB jy) yy) (zo (w9 kK (zj zJ (zj zJ zB jy) yy) (zj zJ zB yy) jy) zC))) zC)) (zo (qN (zA w (zc zB zl))) zC)))))))
abbrev RH:Stmt:=top 49
def Hj:qX ["_law_table_here"] ["_law_table_here"] (qo RH):=jo (by kernel_rfl)
def RO:Ex:=zo (qN (zj qa zI (mQ yC (zW 1 [] (qe zm) (zH 0) qh (zQ (mQ yC (qg zm))))))) zC
abbrev Ph:Stmt:=top 51
def HU:qX ["_law_state_here","_law_table_here"] ["_law_state_here","_law_table_here"] (qo Ph):=jo (by kernel_rfl)
def Pc (Z:Fn)(y:Fn):Ex:=zo (qN (mQ wO (zW 1 [0] (Qy zI (zA Z (zc zw zl))) (zH 0) (zj jd (zA y (zc zw (zc qK zl))) zI) (zQ zm)))) zC
abbrev SR:Stmt:=top 52
def Wy:qX ["_law_state_here","_law_far","_law_some","_law_at","_law_odd","_law_found"] ["_law_state_here","_law_far","_law_some"] (qo SR):=jo (by kernel_rfl)
def SH (y:Fn):Ex:=zo (zZ 3 (zA y (zc zm (zc (zj qa (mQ qx (qg zB)) zI) zl)))) (zo (zZ 4 (zj zJ (zX (zc (zA y (zc zm (zc (zj qa zw zI) zl))) (zc zw (zc zP (zc (ju km zI) (zc qh (zc Zu (zc (zU (.str "0")) (zc (zG (zc zP zl)) (zc Ww (zc (zj JY Jr (zU (.int 29))) zl))))))))))) (zA y (zc zm (zc Jr zl))))) (zo (zZ 5 (zX (zc (zj qa (zj qa (yc zB yz (j5 zO)) (zG (zc jy zl))) (yc zB (j5 zO) yz)) (zc (zj qa (zj qa (yc zB yz (j5 zO)) (zG (zc jy zl))) (yc zB (j5 (zj qa zO zI)) yz)) (zc (zj qa (yc zB yz (j5 zO)) (yc zB (j5 (zj qa zO zI)) yz)) (zc (qu (qg zB)) zl)))))) (zo (qN (zj zJ (zj qa yy (zX (zc (YY zB (ju km zI)) (zc (zj qa zB (yc zB (j5 (ju km zI)) yz)) (zc Zu (zc J6 (zc zP (zc (zG (zc zB zl)) (zc (zG zl) zl))))))))) (zA y (zc zm (zc (zU (.int 11)) zl))))) zC)))
abbrev RZ:Stmt:=top 53
def Ht:qX ["_law_thing"] ["_law_thing"] (qo RZ):=jo (by kernel_rfl)
def RI:Ex:=zo (qN (yW (yY .int zm) (jO (yY .bl zm)))) zC
abbrev RC:Stmt:=top 54
def I9:qX ["_law_thing","_law_low","_law_high"] ["_law_thing","_law_low","_law_high"] (qo RC):=jo (by kernel_rfl)
def X9 (H:Fn):Ex:=zo (qP (wU (jO (yY .tup zm)) (zj jf (qu (zW 1 [] (qe zm) (zH 0) (jO (zA H (zc zm zl))) (zQ zm))) (zX zl))) yt zC) (zo (qP (zj jf (qu (zW 1 [1,2] (qe zm) (zH 0) (jO (kx wm wm zw zm zB)) (zQ zm))) (zX zl)) yt zC) (zo (qN (zj jd (qu (qg zm)) (W5 zm))) zC))
abbrev R6:Stmt:=top 55
def RR:qX ["_law_table_here","_law_kinds_here","_law_lot","_law_one"] ["_law_table_here","_law_kinds_here","_law_lot"] (qo R6):=jo (by kernel_rfl)
def Vm:Ex:=zo (yk (qe zB) (zH 3) (zo (qP (zj jf (qu (zW 1 [0,1,3] (qe zB) (zH 0) (yW (zj jf zm zO) (zj YT (zj zJ (zj zJ zw zO) zm) zB)) (zQ zm))) (zX zl)) yt zC) zC)) (zo (qN qh) zC)
abbrev Rh:Stmt:=top 56
def Yo:qX ["_law_table_here","_law_kinds_here","_law_lots","_law_place","_law_many"] ["_law_table_here","_law_kinds_here"] (qo Rh):=jo (by kernel_rfl)
def Rk (Y:Fn):Ex:=zo (zZ 2 (zX (zc (zG zl) zl))) (zo (yk (jG (mQ qx (qg zm))) (zH 3) (zo (zZ 2 (zj qa zB (qu (zW 1 [3] (qe zB) (zH 0) qh (zQ (zj qa zm (zG (zc zw zl)))))))) zC)) (zo (zZ 2 (qu (zW 1 [0,1] (qe zB) (zH 0) (zA Y (zc zw (zc zB (zc zm zl)))) (zQ zm)))) (zo (zZ 4 (mQ yC (zW 1 [] (qe zB) (zH 0) qh (zQ (mQ qx (qg zm)))))) (zo (qN (GS (qu (zW 1 [4] (qe zB) (zH 0) (zj jd (mQ qx (qg zm)) zw) (zQ zm))))) zC))))
abbrev Ra:Stmt:=top 57
def Kh:qX ["_law_state_here","_law_some"] ["_law_state_here"] (qo Ra):=jo (by kernel_rfl)
def Rc (y:Fn):Ex:=zo (zZ 1 (zX (zc Zu (zc zP (zc (zG zl) (zc (zG (zc (zG zl) zl)) (zc (zG (zc (zG (zc zI zl)) zl)) (zc (zX (zc (zX (zc zP zl)) zl)) (zc (zG (zc (zX (zc zP zl)) zl)) (zc (zG (zc (zG (zc zP zl)) (zc (zG (zc zP zl)) zl))) (zc (zG (zc (zG (zc zP (zc zI zl))) (zc (zG (zc qK (zc zP zl))) zl))) (zc (zG (zc (zG (zc zP (zc qK zl))) (zc (zG (zc qK (zc zP zl))) zl))) (zc J6 zl))))))))))))) (zo (zZ 1 (zj qa zw (zX (zc (zG (zc (zG (zc zP (zc zI zl))) (zc (zG (zc zI (zc zI zl))) zl))) (zc (zG (zc (zG (zc qh zl)) zl)) (zc (zG (zc (zG (zc zP (zc qh zl))) (zc (zG (zc qh (zc zP zl))) zl))) (zc (zG (zc (zG (zc zP (zc (ju km zI) zl))) (zc (zG (zc (ju km zI) (zc zP zl))) zl))) (zc (zG (zc (zG (zc zP (zc zI zl))) (zc (zG (zc zI (zc zP zl))) (zc (zG (zc zI (zc zI zl))) zl)))) zl)))))))) (zo (zZ 1 (zj qa zw (zX (zc (zG (zc (zG (zc zP (zc zI (zc qK zl)))) (zc (zG (zc zI (zc zP (zc qK zl)))) (zc (zG (zc qK (zc qK (zc zI zl)))) zl)))) (zc (zU (.str "0")) (zc (zG (zc (zG (zc zP (zc jz (zc jz zl)))) (zc (zG (zc jz (zc zP (zc zI zl)))) (zc (zG (zc jz (zc zI (zc zP zl)))) zl)))) (zc (zG (zc (zG (zc zP zl)) (zc (zG zl) zl))) (zc (zG (zc zP zl)) zl)))))))) (zo (zZ 1 (zj qa zw (zX (zc (zG (zc (zG (zc Zu zl)) zl)) (zc (zG (zc (zG (zc zP (zc zP zl))) (zc (zG (zc zP (zc zP zl))) zl))) zl))))) (zo (qN (zj zJ zw (zA y (zc zm (zc (zU (.int 23)) zl))))) zC))))
abbrev Vn:Stmt:=top 58
def HR:qX ["_law_found","_law_due"] ["_law_found","_law_due"] (qo Vn):=jo (by kernel_rfl)
def QX (g:Fn):Ex:=zo (qP (Xb .tup .lst zw) (zo (qP (wU (zj jf (yY .tup zm) (yY .tup zw)) (zj jf (yY .lst zm) (yY .lst zw))) yt zC) (zo (qP (zj jf (mQ qx (qg zm)) (mQ qx (qg zw))) yt zC) (zo (qN (mQ gI (zW 2 [] (QH zm zw) (kH 0 1) qh (zQ (zA g (zc zm (zc zw zl))))))) zC))) zC) (zo (qN (yW (zj jd zm zw) (zj jd (yY .bl zm) (yY .bl zw)))) zC)
def Vu {K:Frag}(T:Bu mg)(F:wd K "_law_same" "_law_same" Vn f fd)(hm:mg "_law_same"=some (.ref f)){g:Fn}(ku:zR P w K mg base k "_law_same" 2 g):zR P w K mg base (k+1) "_law_same" 2 (qV 2 (QX g)):=
 j6 F hm HR (λ_ _ _ _ _ _=>wD λ_ _=>rfl) λc A outer s H E h=>zt (jE (kf (AG .tup .lst T.jZ T.gx T.ZS (by rfl) (by rfl) (zh 1))) (zt (jE (JI (K1 (yg (wa h) (w8 .tup T.jZ T.gx (by rfl) (zh 0)) (w8 .tup T.jZ T.gx (by rfl) (zh 1))) (KR (yg (wa h) (w8 .lst T.jZ T.ZS (by rfl) (zh 0)) (w8 .lst T.jZ T.ZS (by rfl) (zh 1)))))) (zt (qw yo) zK) zK) (zt (jE (yg (wa h) (yP T.yS (j3 (zh 0))) (yP T.yS (j3 (zh 1)))) (zt (qw yo) zK) zK) (zt (qw (Qh rfl T.Qx (kz (je (N:=["_law_one","_law_other"]) 2 [] (NN rfl T.Li (zh 0) (zh 1)) (λ_ _ _=>⟨JJ 0 1 rfl (qS (by kernel_rfl)),jl,q9 (ql ku h (zi (zh 0) (zi (zh 1) zu)))⟩))))) zK))) zK) (zt (qw (Qo (gE (kj h) (zh 0) (zh 1)) (Q6 (gE (kj h) (w8 .bl T.jZ T.GH (by rfl) (zh 0)) (w8 .bl T.jZ T.GH (by rfl) (zh 1)))))) zK)
abbrev X3:Stmt:=top 59
def QU:qX ["_law_call","_law_error","e","_law_marks"] ["_law_call"] (qo X3):=jo (by kernel_rfl)
def XY:Ex:=zo (zZ 3 (zX (zc (jm (jH jc "NoTable") zw) (zc (jm (jH jc "NotSteady") zw) (zc (jm (jH jc "NoPlace") zw) zl))))) (zo (zZ 3 (zj qa zO (zX (zc (jm (jH jc "NoKind") zw) (zc (jm (jH jc "NoMix") zw) (zc (jm (jH jc "NoNumber") zw) zl)))))) (zo (zZ 3 (zj qa zO (zX (zc (jm (jH jc "NoLot") zw) (zc (jm (jH jc "NoKinds") zw) (zc (jm (jH jc "NoPaper") zw) zl)))))) (zo (zZ 3 (zj qa zO (zX (zc (jm (jH jc "NoParting") zw) (zc (jm (jH jc "NoClosed") zw) (zc (jm (jH jc "TooMany") zw) zl)))))) (zo (zZ 3 (zj qa zO (zX (zc (jm (jH jc "NoText") zw) (zc (jm (jH jc "NoLine") zw) (zc (jm (jH jc "NoDeed") zw) zl)))))) (zo (qP (jO (jm (T3 jc) zw)) (zo (qN Zu) zC) zC) (zo (qN (qu (zW 1 [3] (jG (zU (.int 15))) (zH 0) (zj zJ zw zm) (zQ zm)))) zC))))))
def Kj (PG:jW)(lam:Nat->Fn):Ex:=zo (zZ 1 Zu) (zo (We 0 1 2 jc PG lam) XY)
def Hc {K:Frag}(T:Bu mg)(C:gu K jc "NearError")(R:W9.all (Jd K jc)=true)(F:wd K "_law_refused" "_law_refused" X3 f fd)(hm:mg "_law_refused"=some (.ref f)){PG:jW}{lam:Nat->Fn}(h:kk<=k)(L:∀k,ZY P w K mg base kk (PG k) (lam k)):zR P w K mg base (k+1) "_law_refused" 1 (qV 4 (Kj PG lam)):=
 j6 F hm QU (λ_ _ _ _ _ _=>wW λ_=>rfl) λc A outer s H E r=>zt (qO 1 QU.nd YJ) (zt (AU L (r.mono h) rfl rfl C.top_at C.top_exc (by decide +kernel) C.under QU.nd rfl rfl rfl rfl rfl rfl rfl) (zt (qO 3 QU.nd (ja (zi (wK (C.isx (yd R)) (wL (yd R)) T.jZ (zh 1)) (zi (wK (C.isx (yd R)) (wL (yd R)) T.jZ (zh 1)) (zi (wK (C.isx (yd R)) (wL (yd R)) T.jZ (zh 1)) zu))) (zq (zq (zq zM))))) (zt (qO 3 QU.nd (jC (zh 3) (ja (zi (wK (C.isx (yd R)) (wL (yd R)) T.jZ (zh 1)) (zi (wK (C.isx (yd R)) (wL (yd R)) T.jZ (zh 1)) (zi (wK (C.isx (yd R)) (wL (yd R)) T.jZ (zh 1)) zu))) (zq (zq (zq zM)))))) (zt (qO 3 QU.nd (jC (zh 3) (ja (zi (wK (C.isx (yd R)) (wL (yd R)) T.jZ (zh 1)) (zi (wK (C.isx (yd R)) (wL (yd R)) T.jZ (zh 1)) (zi (wK (C.isx (yd R)) (wL (yd R)) T.jZ (zh 1)) zu))) (zq (zq (zq zM)))))) (zt (qO 3 QU.nd (jC (zh 3) (ja (zi (wK (C.isx (yd R)) (wL (yd R)) T.jZ (zh 1)) (zi (wK (C.isx (yd R)) (wL (yd R)) T.jZ (zh 1)) (zi (wK (C.isx (yd R)) (wL (yd R)) T.jZ (zh 1)) zu))) (zq (zq (zq zM)))))) (zt (qO 3 QU.nd (jC (zh 3) (ja (zi (wK (C.isx (yd R)) (wL (yd R)) T.jZ (zh 1)) (zi (wK (C.isx (yd R)) (wL (yd R)) T.jZ (zh 1)) (zi (wK (C.isx (yd R)) (wL (yd R)) T.jZ (zh 1)) zu))) (zq (zq (zq zM)))))) (zt (jE (kY (kf (DH C.isv T.jZ T.HE (by rfl) (zh 1)))) (zt (qw YJ) zK) zK) (zt (qw (yG (je (N:=["_law_k","_law_marks"]) 1 [3] (yB rfl T.yf zr) (λ_ _ _=>⟨qH 0 (qS (by kernel_rfl)),ZK (kf (qY (zh 1) (zh 0))),q9 (zh 0)⟩)))) zK))))))))
abbrev Rx:Stmt:=top 60
def WE:qX ["_law_table_here","_law_lot","_law_found","_law_one","_law_other"] ["_law_table_here","_law_lot"] (qo Rx):=jo (by kernel_rfl)
def RB (Z:Fn):Ex:=zo (zZ 2 (zj jk (zX (zc zP zl)) (zA Z (zc zm zl)))) (zo (yk (qe zw) (zH 3) (zo (yk (qe zw) (zH 4) (zo (ZV zB (zj zJ (zj zJ zm zO) jy) zI) zC)) zC)) (zo (qN zB) zC))
abbrev gR:Stmt:=top 61
def Kb:qX ["_law_state_here","_law_table_here","_law_kinds_here","_law_lot","_law_bad","_law_odd","_law_bent","_law_calls"] ["_law_state_here","_law_table_here","_law_kinds_here","_law_lot"] (qo gR):=jo (by kernel_rfl)
noncomputable abbrev qB:Str:=(("_law_refusals_right":Str)++(".<locals>.":Str))++("<lambda>":Str)
def Ug (D:Fn)(C:Fn)(Q:Fn)(q:Fn):Lm:=QE (QD (J8 ((yH gR).getD 2 gC)) 0) ["_law_bad","_law_bent"] [4,6] (zA q (zc zm (zc zw zl)))
def UB (D:Fn)(q:Fn)(Q:Fn)(E:Fn):Lm:=QE (QD (J8 ((yH gR).getD 3 gC)) 0) ["_law_bad","_law_odd","_law_bent"] [4,5,6] (zA q (zc zm (zc zw (zc zB zl))))
def Uq (D:Fn)(C:Fn)(q:Fn)(Q:Fn):Lm:=QE (QD (J8 ((yH gR).getD 4 gC)) 0) ["_law_bad","_law_odd"] [4,5] (zA q (zc zm (zc zw zl)))
def Uh (q:Fn)(C:Fn)(Q:Fn)(E:Fn):Lm:=QE (QD (J8 ((yH gR).getD 5 gC)) 0) ["_law_bad","_law_odd"] [4,5] (zA q (zc zm (zc zw zl)))
def Uv (D:Fn)(C:Fn)(Q:Fn)(q:Fn):Lm:=QE (QD (Lq (Lr (Lp ((yH gR).getD 7 gC) 0))) 0) ["_law_table_here","_law_bent"] [1,6] (zA q (zc zm (zc zw zl)))
def Ui (D:Fn)(q:Fn)(Q:Fn)(E:Fn):Lm:=QE (QD (Lq (Lr (Lp ((yH gR).getD 7 gC) 1))) 0) ["_law_table_here","_law_kinds_here","_law_bent"] [1,2,6] (zA q (zc zm (zc zw (zc zB zl))))
def Up (D:Fn)(q:Fn)(Q:Fn)(E:Fn):Lm:=QE (QD (J8 ((yH gR).getD 9 gC)) 0) ["_law_table_here","_law_odd","_law_bent"] [1,5,6] (zA q (zc zm (zc zw (zc zB zl))))
def V6 (D:Fn)(C:Fn)(q:Fn)(Q:Fn):Lm:=QE (QD (J8 ((yH gR).getD 10 gC)) 0) ["_law_table_here","_law_odd"] [1,5] (zA q (zc zm (zc zw zl)))
def Ul (q:Fn)(C:Fn)(Q:Fn)(E:Fn):Lm:=QE (QD (J8 ((yH gR).getD 11 gC)) 0) ["_law_table_here","_law_odd"] [1,5] (zA q (zc zm (zc zw zl)))
def kT (D:Fn)(C:Fn)(q:Fn)(Q:Fn):List Lm:=[Ug D C q Q,UB D C q Q,Uq D C q Q,Uh D C q Q,Uv D C q Q,Ui D C q Q,Up D C q Q,V6 D C q Q,Ul D C q Q]
section
variable {K:Frag}(T:Bu mg){qD:Fn}(gv:∀base,jX P w K mg base k "greatest" 2 qD){qC:Fn}(w5:∀base,jX P w K mg base k "is_free" 3 qC){qF:Fn}(gA:∀base,jX P w K mg base k "most" 2 qF){qE:Fn}(gw:∀base,jX P w K mg base k "spread" 2 qE)
include T gv w5 gA gw
theorem DZ:wb P w K mg k qB (Ug qD qC qF qE):=
 ⟨⟨rfl,rfl,rfl,Qd (by kernel_rfl)⟩,λ_ _ _ _=>rfl,λbase cl a c A outer s H E h x=>yE (kR x (gw base) h (zi (zh 0) (zi (zh 1) zu)))⟩
theorem C7:wb P w K mg k qB (UB qD qC qF qE):=
 ⟨⟨rfl,rfl,rfl,Qd (by kernel_rfl)⟩,λ_ _ _ _=>rfl,λbase cl a c A outer s H E h x=>yE (kR x (w5 base) h (zi (zh 0) (zi (zh 1) (zi (zh 2) zu))))⟩
theorem DG:wb P w K mg k qB (Uq qD qC qF qE):=
 ⟨⟨rfl,rfl,rfl,Qd (by kernel_rfl)⟩,λ_ _ _ _=>rfl,λbase cl a c A outer s H E h x=>yE (kR x (gA base) h (zi (zh 0) (zi (zh 1) zu)))⟩
theorem DJ:wb P w K mg k qB (Uh qD qC qF qE):=
 ⟨⟨rfl,rfl,rfl,Qd (by kernel_rfl)⟩,λ_ _ _ _=>rfl,λbase cl a c A outer s H E h x=>yE (kR x (gv base) h (zi (zh 0) (zi (zh 1) zu)))⟩
theorem DO:wb P w K mg k qB (Uv qD qC qF qE):=
 ⟨⟨rfl,rfl,rfl,Qd (by kernel_rfl)⟩,λ_ _ _ _=>rfl,λbase cl a c A outer s H E h x=>yE (kR x (gw base) h (zi (zh 0) (zi (zh 1) zu)))⟩
theorem DQ:wb P w K mg k qB (Ui qD qC qF qE):=
 ⟨⟨rfl,rfl,rfl,Qd (by kernel_rfl)⟩,λ_ _ _ _=>rfl,λbase cl a c A outer s H E h x=>yE (kR x (w5 base) h (zi (zh 0) (zi (zh 1) (zi (zh 2) zu))))⟩
theorem D7:wb P w K mg k qB (Up qD qC qF qE):=
 ⟨⟨rfl,rfl,rfl,Qd (by kernel_rfl)⟩,λ_ _ _ _=>rfl,λbase cl a c A outer s H E h x=>yE (kR x (w5 base) h (zi (zh 0) (zi (zh 1) (zi (zh 2) zu))))⟩
theorem D6:wb P w K mg k qB (V6 qD qC qF qE):=
 ⟨⟨rfl,rfl,rfl,Qd (by kernel_rfl)⟩,λ_ _ _ _=>rfl,λbase cl a c A outer s H E h x=>yE (kR x (gA base) h (zi (zh 0) (zi (zh 1) zu)))⟩
theorem Cy:wb P w K mg k qB (Ul qD qC qF qE):=
 ⟨⟨rfl,rfl,rfl,Qd (by kernel_rfl)⟩,λ_ _ _ _=>rfl,λbase cl a c A outer s H E h x=>yE (kR x (gv base) h (zi (zh 0) (zi (zh 1) zu)))⟩
end
def f9 {K:Frag}(T:Bu mg){D:Fn}(v:∀base,jX P w K mg base k "greatest" 2 D){C:Fn}(a:∀base,jX P w K mg base k "is_free" 3 C){q:Fn}(A:∀base,jX P w K mg base k "most" 2 q){Q:Fn}(g:∀base,jX P w K mg base k "spread" 2 Q):∀t∈kT D C q Q,wb P w K mg k qB t:=
 all_cons (DZ T v a A g) (all_cons (C7 T v a A g) (all_cons (DG T v a A g) (all_cons (DJ T v a A g) (all_cons (DO T v a A g) (all_cons (DQ T v a A g) (all_cons (D7 T v a A g) (all_cons (D6 T v a A g) (all_cons (Cy T v a A g) all_nil))))))))
def Kc (w:Fn)(k:Fn)(Z:Fn)(K:Fn)(D:Fn)(C:Fn)(q:Fn)(Q:Fn)(RF:Nat->List W->Hx->R W)(Pt:Addr)(PF:jW):Ex:=zo (zZ 4 (zA w (zc zm zl))) (zo (Jq (zG (zc (zA k (zc zm (zc (zA Z (zc zw zl)) (zc zB zl)))) (zc (zA k (zc zm (zc (mQ qx (qg zw)) (zc zO zl)))) zl))) (kH 5 6)) (zo (zZ 7 (zX (zc (yh 1 qB Pt 0 (PF 0)) zl))) (zo (jJ (jU yi yA (yh 1 qB Pt 1 (PF 1)))) (zo (jJ (jU yi yA (yh 1 qB Pt 2 (PF 2)))) (zo (jJ (jU yi yA (yh 1 qB Pt 3 (PF 3)))) (zo (qP (zj jf (qu (JV 1 (qe yA) (zH 0) 0 PF (kT D C q Q) RF)) (zj jk (zX (zc (zX (zc zP zl)) zl)) kW)) yt zC) (zo (qP (jO (zA K (zc we (zc zP (zc (zj yw (mQ qx (qg zw)) zI) zl))))) (zo (qP (zj jf (Jg (kT D C q Q) PF (Jn RF) (zc (yh 1 qB Pt 4 (PF 4)) zl)) (zX (zc Ye zl))) yt zC) (zo (qP (zj jf (Jg (kT D C q Q) PF (Jn RF) (zc (yh 1 qB Pt 5 (PF 5)) zl)) (zX (zc Ye zl))) yt zC) zC)) zC) (zo (qP (zA K (zc yy (zc zI (zc (zj yw (zA Z (zc zw zl)) zI) zl)))) (zo (qN qh) zC) zC) (zo (zZ 7 (zX (zc (yh 1 qB Pt 6 (PF 6)) zl))) (zo (jJ (jU yi yA (yh 1 qB Pt 7 (PF 7)))) (zo (jJ (jU yi yA (yh 1 qB Pt 8 (PF 8)))) (zo (qN (zj jd (qu (JV 1 (qe yA) (zH 0) 0 PF (kT D C q Q) RF)) (zj jk (zX (zc (zX (zc Ws zl)) zl)) jz))) zC))))))))))))
def L8 {K:Frag}(T:Bu mg)(F:wd K "_law_refusals_right" "_law_refusals_right" gR f fd)(hn:nsIn K mainGlobals "_law_refusals_right"=some (some (.ref f)))(o:tabIn K "_law_refusals_right"=some (c,Pt))(hm:mg "_law_refusals_right"=some (.ref f))(B:BMain mg base)(e:CodeHd base c Pt){i:Fn}(QS:zR P w K mg base k "_law_bad_table" 1 i){n:Fn}(ZF:zR P w K mg base k "_law_bent_rising" 3 n){Z:Fn}(gT:zR P w K mg base k "_law_kinds" 1 Z){l:Fn}(wZ:zR P w K mg base k "_law_rising" 3 l){D:Fn}{C:Fn}{Q:Fn}{a:Fn}{RF:Nat->List W->Hx->R W}(d:kk<=k)(b:∀t∈kT D C Q a,wb P w K mg j qB t)(g:∀base PG,(∀k,ZY P w K mg base (j+1) (PG k) (yX (kT D C Q a) k))->zR P w K mg base kk "_law_refused" 1 (Za PG RF)):zR P w K mg base (k+1) "_law_refusals_right" 4 (Y0 qB Pt λPF=>qV 8 (Kc i n Z l D C Q a RF Pt PF)):=
 f7 (ls:=kT D C Q a) F hn o hm Kb (λ_ _ _ _ _ _=>LZ λ_ _ _ _=>rfl) λA outer s H E h=>zt (qO 4 Kb.nd (ql QS h (zi (zh 0) zu))) (zt (Nb (qt (zi (ql ZF h (zi (zh 0) (zi (ql gT h (zi (zh 1) zu)) (zi (zh 2) zu)))) (zi (ql ZF h (zi (zh 0) (zi (yP T.yS (j3 (zh 1))) (zi (zh 3) zu)))) zu)) (zq (zq zM))) (JJ 5 6 rfl Kb.nd)) (zt (qO 7 Kb.nd (ja (zi (Qg (ls:=kT D C Q a) (t:=Ug D C Q a) rfl (by kernel_rfl) B rfl e rfl rfl) zu) (zq zM))) (zt (kF (ZH (zh 7) (Qg (ls:=kT D C Q a) (t:=UB D C Q a) rfl (by kernel_rfl) B rfl e rfl rfl))) (zt (kF (ZH (zh 7) (Qg (ls:=kT D C Q a) (t:=Uq D C Q a) rfl (by kernel_rfl) B rfl e rfl rfl))) (zt (kF (ZH (zh 7) (Qg (ls:=kT D C Q a) (t:=Uh D C Q a) rfl (by kernel_rfl) B rfl e rfl rfl))) (zt (jE (yg (wa h) (OP (N:=["_law_call"]) (q:=qB) (λ_=>rfl) b (XB (by kernel_rfl)) g (h.mono d) rfl (cps (by kernel_rfl)) (by kernel_rfl) (jN (zh 7)) (λ_ _ _=>qH 0 (qS (by kernel_rfl))) rfl (Or.inl rfl) (λ_ _ _=>rfl)) (wq (ja (zi (ja (zi zr zu) (zq zM)) zu) (zq zM)) zr)) (zt (qw yo) zK) zK) (zt (jE (kY (kf (ql wZ h (zi (zh 6) (zi zr (zi (gy (yP T.yS (j3 (zh 1))) zr) zu)))))) (zt (jE (yg (wa h) (Oe (q:=qB) (λ_=>rfl) b (XB (by kernel_rfl)) g OH (h.mono d) (zi (Qg (ls:=kT D C Q a) (t:=Uv D C Q a) rfl (by kernel_rfl) B rfl e rfl rfl) zu) (zq zM)) (ja (zi zr zu) (zq zM))) (zt (qw yo) zK) zK) (zt (jE (yg (wa h) (Oe (q:=qB) (λ_=>rfl) b (XB (by kernel_rfl)) g OH (h.mono d) (zi (Qg (ls:=kT D C Q a) (t:=Ui D C Q a) rfl (by kernel_rfl) B rfl e rfl rfl) zu) (zq zM)) (ja (zi zr zu) (zq zM))) (zt (qw yo) zK) zK) zK)) zK) (zt (jE (kf (ql wZ h (zi (zh 5) (zi zr (zi (gy (ql gT h (zi (zh 1) zu)) zr) zu))))) (zt (qw yo) zK) zK) (zt (qO 7 Kb.nd (ja (zi (Qg (ls:=kT D C Q a) (t:=Up D C Q a) rfl (by kernel_rfl) B rfl e rfl rfl) zu) (zq zM))) (zt (kF (ZH (zh 7) (Qg (ls:=kT D C Q a) (t:=V6 D C Q a) rfl (by kernel_rfl) B rfl e rfl rfl))) (zt (kF (ZH (zh 7) (Qg (ls:=kT D C Q a) (t:=Ul D C Q a) rfl (by kernel_rfl) B rfl e rfl rfl))) (zt (qw (gE (kj h) (OP (N:=["_law_call"]) (q:=qB) (λ_=>rfl) b (XB (by kernel_rfl)) g (h.mono d) rfl (cps (by kernel_rfl)) (by kernel_rfl) (jN (zh 7)) (λ_ _ _=>qH 0 (qS (by kernel_rfl))) rfl (Or.inl rfl) (λ_ _ _=>rfl)) (wq (ja (zi (ja (zi zr zu) (zq zM)) zu) (zq zM)) zr))) zK))))))))))))
abbrev G2:Stmt:=top 62
def ZR:qX ["_law_script","_law_k","_law_state_here","_law_table_here","_law_turn","_law_kinds_here","_law_lot","_law_due","_law_lap","_law_found","_law_some"] ["_law_script"] (qo G2):=jo (by kernel_rfl)
def Te (Y:Fn)(D:Fn)(w:Fn)(g:Fn)(H:Fn)(K:Fn)(Q:Fn)(y:Fn)(a:Fn)(c:Fn)(b:Fn)(d:Fn)(i:Fn):Ex:=zo (yk (jG (zj Tn zI (zj Jl (mQ qx (qg zm)) kW))) (zH 1) (zo (zZ 2 (zA K (zc zm (zc zw zl)))) (zo (zZ 3 (zA Q (zc zB zl))) (zo (yk (jG jz) (zH 4) (zo (zZ 5 (zA a (zc zB (zc zO zl)))) (zo (zZ 6 (mQ wO (zW 1 [2] (jG (mQ qx (qg zO))) (zH 0) (zj jd (zA y (zc zw (zc qK zl))) zI) (zQ zm)))) (zo (zZ 7 (zA D (zc zO (zc yy zl)))) (zo (qP (jO (zA g (zc (zA b (zc zO (zc yy (zc we zl)))) (zc (zA Y (zc zO (zc yy (zc we zl)))) zl)))) yt zC) (zo (qP (jO (zA g (zc (zA d (zc zO (zc yy zl))) (zc (mQ qx (qg (zj zJ yA zP))) zl)))) yt zC) (zo (yk (jG qK) (zH 8) (zo (Wg 9 10 (zA i (zc zO (zc we zl))) (zA c (zc zO (zc yy zl)))) (zo (qP (wU (jO (zA g (zc XG (zc (zA H (zc zO (zc we zl))) zl)))) (jO (zA g (zc G6 (zc yA zl))))) yt zC) (zo (jJ (jU yi XG zP)) (zo (jJ (jU yi G6 (zG zl))) zC))))) (zo (qP (jO (zA w (zc zB (zc zO (zc yy (zc we zl)))))) yt zC) zC)))))))) zC)))) (zo (qN qh) zC)
def o_law {K:Frag}(T:Bu mg)(F:wd K "law" "law" G2 f fd){Y:Fn}(QW:zR P w K mg base k "_law_free" 3 Y){D:Fn}(Yp:zR P w K mg base k "_law_greatest" 2 D){x:Fn}(I:zR P w K mg base k "_law_refusals_right" 4 x){g:Fn}(ku:zR P w K mg base k "_law_same" 2 g){c:Fn}(Yr:zR P w K mg base k "_law_spread" 2 c){b:Fn}(Yt:zR P w K mg base k "_law_state" 2 b){Q:Fn}(JA:zR P w K mg base k "_law_table" 1 Q){y:Fn}(jQ:zR P w K mg base k "_law_take" 2 y){a:Fn}(JC:zR P w K mg base k "_law_told" 2 a){e:Fn}(JE:zR P w K mg base k "greatest" 2 e){d:Fn}(YA:zR P w K mg base k "is_free" 3 d){j:Fn}(YS:zR P w K mg base k "most" 2 j){i:Fn}(YC:zR P w K mg base k "spread" 2 i):ko P w K mg base wX (k+1) f fd ["_law_script"] (ZA K 1 (qV 11 (Te Y D x g c b Q y a e d j i))):=
 fo F ZR λC A outer s H E h=>zt (w6 PassesOwn.never rfl (yB rfl T.yf (Cr rfl T.QB zr (VS rfl T.Ts (yP T.yS (j3 (zh 0))) zr))) (qH 1 ZR.nd) (zt (qO 2 ZR.nd (ql Yt h (zi (zh 0) (zi (zh 1) zu)))) (zt (qO 3 ZR.nd (ql JA h (zi (zh 2) zu))) (zt (w6 PassesOwn.never rfl (yB rfl T.yf zr) (qH 4 ZR.nd) (zt (qO 5 ZR.nd (ql JC h (zi (zh 2) (zi (zh 3) zu)))) (zt (qO 6 ZR.nd (Yz T.gx (kz (je (N:=["_law_place","_law_state_here"]) 1 [2] (yB rfl T.yf (yP T.yS (j3 (zh 3)))) (λ_ _ _=>⟨qH 0 (qS (by kernel_rfl)),ZK (yg (kj h) (ql jQ h (zi (zh 1) (zi zr zu))) zr),q9 (zh 0)⟩))))) (zt (qO 7 ZR.nd (ql Yp h (zi (zh 3) (zi (zh 5) zu)))) (zt (jE (kY (kf (ql ku h (zi (ql YA h (zi (zh 3) (zi (zh 5) (zi (zh 6) zu)))) (zi (ql QW h (zi (zh 3) (zi (zh 5) (zi (zh 6) zu)))) zu))))) (zt (qw yo) zK) zK) (zt (jE (kY (kf (ql ku h (zi (ql YS h (zi (zh 3) (zi (zh 5) zu))) (zi (yP T.yS (j3 (qY (zh 7) zr))) zu))))) (zt (qw yo) zK) zK) (zt (w6 PassesOwn.never rfl (yB rfl T.yf zr) (qH 8 ZR.nd) (zt (BH 9 10 rfl ZR.nd (ql YC h (zi (zh 3) (zi (zh 6) zu))) (ql JE h (zi (zh 3) (zi (zh 5) zu)))) (zt (jE (JI (K1 (kY (kf (ql ku h (zi (zh 9) (zi (ql Yr h (zi (zh 3) (zi (zh 6) zu))) zu))))) (KR (kY (kf (ql ku h (zi (zh 10) (zi (zh 7) zu)))))))) (zt (qw yo) zK) zK) (zt (kF (ZH (zh 9) zr)) (zt (kF (ZH (zh 10) (qt zu zM))) zK))))) (zt (jE (kY (kf (ql I h (zi (zh 2) (zi (zh 3) (zi (zh 5) (zi (zh 6) zu))))))) (zt (qw yo) zK) zK) zK)))))))) zK)))) (zt (qw yo) zK)
def WX:Fn:=qV 1 Pq
def QY:Fn :=  WX
def Vr:Fn:=qV 1 R8
def WU:Fn :=  Vr
def Og:Fn:=qV 5 PU
def VF:Fn:=iso Og
def Sv:Fn:=qV 2 Su
def XM:Fn:=iso Sv
def Ru:Fn:=qV 1 Rq
def Km:Fn:=iso Ru
def O9:Fn:=qV 4 Nd
def Jb:Fn:=iso O9
def Ro:Fn:=qV 2 X4
def WG:Fn :=  Ro
def Kq:Fn:=qV 4 Vo
def jQ:Fn:=Zb Kq
def Va:Fn:=qV 2 RN
def JB:Fn :=  Va
def RT:Fn:=qV 1 RO
def gT:Fn:=iso RT
def Vd:Fn:=qV 1 RI
def Ko:Fn :=  Vd
def Pa:Fn:=qV 4 Vm
def QW:Fn:=iso Pa
def WV:Fn:=qV 2 (Vp QY)
def Yv:Fn :=  WV
def Sx:Fn:=qV 3 (SK QY)
def Kg:Fn:=iso Sx
def SY:Fn:=qV 4 (SV Jb)
def Ki:Fn:=iso SY
def RY:Fn:=qV 3 (Vj WG)
def Yt:Fn :=  RY
def XW:Fn:=qV 4 (S9 jQ)
def Ym:Fn :=  XW
def Vc:Fn:=qV 11 (Vg jQ)
def WO:Fn :=  Vc
def Vl:Fn:=qV 2 (Pc gT jQ)
def JC:Fn :=  Vl
def XO:Fn:=qV 6 (SH jQ)
def ZF:Fn :=  XO
def WJ:Fn:=qV 3 (X9 Ko)
def wZ:Fn :=  WJ
def Rg:Fn:=qV 5 (Rk QW)
def Yp:Fn:=iso Rg
def XX:Fn:=qV 2 (Rc jQ)
def QS:Fn :=  XX
def RA:Fn:=qV 5 (RB gT)
def Yr:Fn:=iso RA
def WA:Fn:=qV 3 (XT Yv)
def QR:Fn :=  WA
def Wz:Fn:=qV 3 (XN WU Kg)
def kQ:Fn :=  Wz
def WN:Fn:=qV 4 (RK Ym JB WO)
def Ys:Fn:=Zb WN
def Hz:Fn:=qV 2 (QX (λ_ _=>.bad))
def RS:Fn :=  Hz
def HH:Fn:=qV 2 (QX RS)
def Vh:Fn :=  HH
def R4:Fn:=qV 2 (QX Vh)
def ku:Fn :=  R4
def Ks:Fn:=qV 2 (WZ VF QR XM)
def ZG:Fn :=  Ks
def Yq:Fn:=gj 2 (X7 kQ)
def Jy:Fn:=gj 2 (XJ Km kQ)
def WL:Fn:=qV 7 (RW Ys JB jQ)
def JA:Fn:=Zb WL
def QT:Fn:=gj 1 (XZ ZG)
def Q2:Fn:=gj 5 (Gp Km Yq QT)
def YC:Fn:=iso (λws A=>(Q2 ws A).nox)
def Qc:Fn:=gj 3 (Ku Jb Yq QT Jy)
def YA:Fn:=iso (λws A=>(Qc ws A).nox)
def Q8:Fn:=gj 2 (GW Ki QT Jy)
def YS:Fn:=iso (λws A=>(Q8 ws A).nox)
def QV:Fn:=gj 2 (W3 Ki QT Jy)
def JE:Fn:=iso (λws A=>(QV ws A).nox)
structure Tx (K:Frag):Prop where
 FX:FD K "is_whole" PC
 Fq:FD K "is_rising" R3
 Ej:FD K "is_even" PX
 Ig:FD K "leaves_no_kind_out" Ss
 Hi:FD K "count_kinds" Rw
 AN:FD K "joins" NL
 He:FD K "_law_cell_at" Rm
 Fi:FD K "_law_take" R5
 HK:FD K "_law_named" RG
 HN:FD K "_law_kinds" RH
 Hw:FD K "_law_whole" RZ
 Fv:FD K "_law_free" R6
 Fy:FD K "is_wholes" R0
 Ir:FD K "is_whole_between" SD
 IA:FD K "search_greatest" SU
 HM:FD K "_law_state" RP
 IK:FD K "_law_mixed_row" Rb
 Hv:FD K "_law_plain" RX
 Fw:FD K "_law_told" Ph
 Iw:FD K "_law_bent_rising" SR
 Hk:FD K "_law_rising" RC
 IT:FD K "_law_greatest" Rh
 II:FD K "_law_bad_table" Ra
 Hl:FD K "_law_spread" Rx
 IC:FD K "is_wholes_below" S6
 Ip:FD K "is_rising_wholes" Sz
 Fd:FD K "_law_known" RL
 Vs:FD K "_law_same" Vn
 F0:FD K "is_table" Py
 Hu:FD K "require_lot" Ry
 Ih:FD K "require_told_kinds" Sw
 HB:FD K "_law_table" RM
 IS:FD K "require_table" Ri
 Cj:FD K "spread" OD
 EA:FD K "is_free" Od
 zbq:FD K "most" MR
 F9:FD K "greatest" Pw
 IX:FD K "_law_refused" X3
 L9:FD K "_law_refusals_right" gR
 zcr:FD K "law" G2
 HS:nsIn K mainGlobals "ValueError"=some none
 zdd:nsIn K mainGlobals "abs"=some none
 zcS:nsIn K mainGlobals "all"=some none
 za9:nsIn K mainGlobals "bool"=some none
 FA:nsIn K mainGlobals "enumerate"=some none
 zcU:nsIn K mainGlobals "int"=some none
 Hy:nsIn K mainGlobals "isinstance"=some none
 zb3:nsIn K mainGlobals "len"=some none
 zay:nsIn K mainGlobals "list"=some none
 zci:nsIn K mainGlobals "max"=some none
 zcI:nsIn K mainGlobals "min"=some none
 Ax:nsIn K mainGlobals "range"=some none
 zcz:nsIn K mainGlobals "set"=some none
 Dy:nsIn K mainGlobals "sorted"=some none
 zc8:nsIn K mainGlobals "sum"=some none
 Ab:nsIn K mainGlobals "tuple"=some none
 zcA:nsIn K mainGlobals "zip"=some none
 Ho:CD K "MOST_PLACES" 8
 zcF:jc.all (GP K "NearError" ·)=true
 zcD:UI K "NearError"=true
 zcL:W9.all (Jd K jc)=true
section
variable {K:Frag}
def bu (X:K.In h)(G:h.Ns mainGlobals mg)(T:Tx K):Bu mg:=⟨a5 X G T.HS,a5 X G T.zdd,a5 X G T.zcS,a5 X G T.za9,a5 X G T.FA,a5 X G T.zcU,a5 X G T.Hy,a5 X G T.zb3,a5 X G T.zay,a5 X G T.zci,a5 X G T.zcI,a5 X G T.Ax,a5 X G T.zcz,a5 X G T.Dy,a5 X G T.zc8,a5 X G T.Ab,a5 X G T.zcA,(let ⟨t,e⟩:=T.Ho;⟨t,aX X G e⟩)⟩
def cl (T:Tx K):gu K jc "NearError":=fL T.zcF T.zcD
structure Zz (K:Frag)(h:Heap)(mg:cc):Prop where
 X:K.In h
 G:h.Ns mainGlobals mg
 T:Tx K
 B:Bu mg
 C:gu K jc "NearError"
def zz (X:K.In h)(G:h.Ns mainGlobals mg)(T:Tx K):Zz K h mg:=⟨X,G,T,bu X G T,cl T⟩
def Pn (Z:Zz K h mg):zR P w K mg base 1 "is_whole" 1 QY:=by
 obtain⟨f,fd,F,a⟩:=Z.T.FX;exact(j6 F (aX Z.X Z.G a) Fm (λ_ _ _ _ _ _=>wW λ_=>rfl) λc A outer s H E r=>zt (qw (Qo (w8 .int Z.B.jZ Z.B.JW (by rfl) (zh 0)) (Q6 (Nn (w8 .bl Z.B.jZ Z.B.GH (by rfl) (zh 0)))))) (zK):zR P w K mg base 1 "is_whole" 1 WX)
def Fx (Z:Zz K h mg):zR P w K mg base 1 "is_rising" 1 WU:=by
 obtain⟨f,fd,F,a⟩:=Z.T.Fq;exact(j6 F (aX Z.X Z.G a) HD (λ_ _ _ _ _ _=>wW λ_=>rfl) λc A outer s H E r=>zt (qw (Qh rfl Z.B.Qx (kz (je (N:=["one","other"]) 2 [] (NN rfl Z.B.Li (zh 0) (Ql (zh 0) (Qi zr) Qt)) (λ_ _ _=>⟨JJ 0 1 rfl (qS (by kernel_rfl)),jl,q9 (gE TC (zh 0) (zh 1))⟩))))) (zK):zR P w K mg base 1 "is_rising" 1 Vr)
def Ey (Z:Zz K h mg):zR P w K mg base 1 "is_even" 1 VF:=by
 obtain⟨f,fd,F,a⟩:=Z.T.Ej;exact(j6 F (aX Z.X Z.G a) Vw (λ_ _ _ _ _ _=>wW λ_=>rfl) λc A outer s H E r=>zt (w6 PassesOwn.never rfl (V1 rfl Z.B.Vt (zh 0)) (JJ 1 2 rfl Vw.nd) (zt (w6 PassesOwn.never rfl (V1 rfl Z.B.Vt (zh 2)) (JJ 3 4 rfl Vw.nd) (zt (jE (JI (K1 (yg (wa r) (gE (kj r) (zh 4) zr) (gE (kj r) (zh 1) (zh 3))) (KR (yg (wa r) (qY (qY (zh 0) (zh 3)) (zh 1)) (zh 4))))) (zt (qw yo) zK) zK) zK)) zK)) (zt (qw yo) zK):zR P w K mg base 1 "is_even" 1 Og).iso
def Ij (Z:Zz K h mg):zR P w K mg base 1 "leaves_no_kind_out" 1 XM:=by
 obtain⟨f,fd,F,a⟩:=Z.T.Ig;exact(j6 F (aX Z.X Z.G a) Sr (λ_ _ _ _ _ _=>wW λ_=>rfl) λc A outer s H E r=>zt (qO 1 Sr.nd (yG (je (N:=["row","kind"]) 2 [] (jN (zh 0)) (λ_ _ _=>⟨qH 0 (qS (by kernel_rfl)),jl,Nv (λ_ _ z=>z) rfl rfl (by intro _ h;cases h<;>rfl) (jN (zh 0)) (qH 1 (qS (by kernel_rfl))) jl (q9 (zh 1))⟩)))) (zt (qw (Qh rfl Z.B.Qx (kz (je (N:=["kind","standing"]) 1 [1] (yB rfl Z.B.yf (Q5 rfl Z.B.QB (j3 (zh 1)))) (λ_ _ _=>⟨qH 0 (qS (by kernel_rfl)),jl,q9 (My TK (zh 0) (zh 1))⟩))))) zK):zR P w K mg base 1 "leaves_no_kind_out" 1 Sv).iso
def Rt (Z:Zz K h mg):zR P w K mg base 1 "count_kinds" 1 Km:=by
 obtain⟨f,fd,F,a⟩:=Z.T.Hi;exact(j6 F (aX Z.X Z.G a) IV (λ_ _ _ _ _ _=>wW λ_=>rfl) λc A outer s H E r=>zt (qw (jC (Q5 rfl Z.B.QB (kz (je (N:=["row"]) 1 [] (jN (zh 0)) (λ_ _ _=>⟨qH 0 (qS (by kernel_rfl)),jl,q9 (Q5 rfl Z.B.QB (j3 (zh 0)))⟩)))) zr)) (zK):zR P w K mg base 1 "count_kinds" 1 Ru).iso
def ND (Z:Zz K h mg):zR P w K mg base 1 "joins" 4 Jb:=by
 obtain⟨f,fd,F,a⟩:=Z.T.AN;exact(j6 F (aX Z.X Z.G a) DR (λ_ _ _ _ _ _=>LZ λ_ _ _ _=>rfl) λc A outer s H E r=>zt (qw (Qh rfl Z.B.Qx (kz (je (N:=["other","table","kinds","place"]) 1 [0,1,3] (jN (zh 2)) (λ_ _ _=>⟨qH 0 (qS (by kernel_rfl)),jl,q9 (My TK (qY (qY (zh 1) (zh 0)) (zh 3)) (zh 2))⟩))))) (zK):zR P w K mg base 1 "joins" 4 O9).iso
def IU (Z:Zz K h mg):zR P w K mg base 1 "_law_cell_at" 2 WG:=by
 obtain⟨f,fd,F,a⟩:=Z.T.He;exact(j6 F (aX Z.X Z.G a) IM (λ_ _ _ _ _ _=>wD λ_ _=>rfl) λc A outer s H E r=>zt (jE (yg TC (zh 1) (yP Z.B.yS (j3 (zh 0)))) (zt (qw (qY (zh 0) (zh 1))) zK) zK) (zt (qw zr) zK):zR P w K mg base 1 "_law_cell_at" 2 Ro)
def kr (Z:Zz K h mg):zR P w K mg base 1 "_law_take" 2 jQ:=by
 obtain⟨f,fd,F,a⟩:=Z.T.Fi;exact(j6 F (aX Z.X Z.G a) WS (λ_ _ _ _ _ _=>wD λ_ _=>rfl) λc A outer s H E r=>zt (jE (kf (qY (zh 0) zr)) (zt (qO 2 WS.nd (Q7 (qY (zh 0) zr) (zh 1))) (zt (YL (YD (qY (zh 0) zr) (zh 1)) (zh 0) zr) (zt (qw (zh 2)) zK))) zK) (zt (YL (Q7 (jC (wq (qY (zh 0) zr) zr) zr) zr) (zh 0) zr) (zt (qO 3 WS.nd (Q7 (jC (jC (wq (qY (zh 0) zr) (qY (zh 0) zr)) (wq zr (qY (zh 0) zr))) zr) zr)) (zt (qO 3 WS.nd (Q7 (jC (wq (zh 3) (zh 3)) (wq zr (zh 3))) zr)) (zt (qw (Q7 (YD (zh 3) zr) (zh 1))) zK)))):zR P w K mg base 1 "_law_take" 2 Kq).Zb
def Vb (Z:Zz K h mg):zR P w K mg base 1 "_law_named" 1 JB:=by
 obtain⟨f,fd,F,a⟩:=Z.T.HK;exact(j6 F (aX Z.X Z.G a) Rv (λ_ _ _ _ _ _=>wW λ_=>rfl) λc A outer s H E r=>zt (qO 1 Rv.nd (FE rfl Z.B.VY Z.B.M1 (DS rfl Z.B.zcQ (yG (je (N:=["_law_row"]) 1 [] (jN (zh 0)) (λ_ _ _=>⟨qH 0 (qS (by kernel_rfl)),jl,q9 (KL Z.B.ZS (j3 (zh 0)))⟩))) (ja zu zM)))) (zt (qw (Yz Z.B.gx (kz (je (N:=["_law_row","_law_some"]) 1 [1] (jN (zh 0)) (λ_ _ _=>⟨qH 0 (qS (by kernel_rfl)),jl,q9 (Yz Z.B.gx (kz (je (N:=["_law_kind","_law_some"]) 1 [1] (jN (zh 0)) (λ_ _ _=>⟨qH 0 (qS (by kernel_rfl)),jl,q9 (EF r (zh 1) (zh 0))⟩))))⟩))))) zK):zR P w K mg base 1 "_law_named" 1 Va)
def Vi (Z:Zz K h mg):zR P w K mg base 1 "_law_kinds" 1 gT:=by
 obtain⟨f,fd,F,a⟩:=Z.T.HN;exact(j6 F (aX Z.X Z.G a) Hj (λ_ _ _ _ _ _=>wW λ_=>rfl) λc A outer s H E r=>zt (qw (jC zr (Q5 rfl Z.B.QB (kz (je (N:=["_law_row"]) 1 [] (jN (zh 0)) (λ_ _ _=>⟨qH 0 (qS (by kernel_rfl)),jl,q9 (Q5 rfl Z.B.QB (j3 (zh 0)))⟩)))))) (zK):zR P w K mg base 1 "_law_kinds" 1 RT).iso
def HP (Z:Zz K h mg):zR P w K mg base 1 "_law_whole" 1 Ko:=by
 obtain⟨f,fd,F,a⟩:=Z.T.Hw;exact(j6 F (aX Z.X Z.G a) Ht (λ_ _ _ _ _ _=>wW λ_=>rfl) λc A outer s H E r=>zt (qw (Qo (w8 .int Z.B.jZ Z.B.JW (by rfl) (zh 0)) (Q6 (Nn (w8 .bl Z.B.jZ Z.B.GH (by rfl) (zh 0)))))) (zK):zR P w K mg base 1 "_law_whole" 1 Vd)
def Pd (Z:Zz K h mg):zR P w K mg base 1 "_law_free" 3 QW:=by
 obtain⟨f,fd,F,a⟩:=Z.T.Fv;exact(j6 F (aX Z.X Z.G a) RR (λ_ _ _ _ _ _=>Yf λ_ _ _=>rfl) λc A outer s H E r=>zt (w6 PassesOwn.never rfl (jN (zh 2)) (qH 3 RR.nd) (zt (jE (yg (wa r) (yG (je (N:=["_law_other","_law_table_here","_law_kinds_here","_law_one"]) 1 [0,1,3] (jN (zh 2)) (λ_ _ _=>⟨qH 0 (qS (by kernel_rfl)),ZK (JI (NQ (yg (wa r) (zh 0) (zh 3)) (OJ (Mf Ba (qY (qY (zh 1) (zh 3)) (zh 0)) (zh 2))))),q9 (zh 0)⟩))) (ja zu zM)) (zt (qw yo) zK) zK) zK)) (zt (qw yo) zK):zR P w K mg base 1 "_law_free" 3 Pa).iso
def Fh (Z:Zz K h mg):zR P w K mg base 2 "is_wholes" 2 Yv:=by
 obtain⟨f,fd,F,a⟩:=Z.T.Fy;exact(j6 F (aX Z.X Z.G a) Fc (λ_ _ _ _ _ _=>wD λ_ _=>rfl) λc A outer s H E r=>zt (qw (Qo (w8 .tup Z.B.jZ Z.B.gx (by rfl) (zh 0)) (Qo (gE (kj r) (yP Z.B.yS (j3 (zh 0))) (zh 1)) (Q6 (Qh rfl Z.B.Qx (kz (je (N:=["part"]) 1 [] (jN (zh 0)) (λ_ _ _=>⟨qH 0 (qS (by kernel_rfl)),jl,q9 (ql (Pn Z).up r (zi (zh 0) zu))⟩)))))))) (zK):zR P w K mg base 2 "is_wholes" 2 WV)
def Iy (Z:Zz K h mg):zR P w K mg base 2 "is_whole_between" 3 Kg:=by
 obtain⟨f,fd,F,a⟩:=Z.T.Ir;exact(j6 F (aX Z.X Z.G a) Il (λ_ _ _ _ _ _=>Yf λ_ _ _=>rfl) λc A outer s H E r=>zt (qw (Qo (ql (Pn Z).up r (zi (zh 0) zu)) (Q6 (NT J3 J3 (zh 1) (zh 0) (zh 2))))) (zK):zR P w K mg base 2 "is_whole_between" 3 Sx).iso
def SX (Z:Zz K h mg):zR P w K mg base 2 "search_greatest" 2 Ki:=by
 obtain⟨f,fd,F,a⟩:=Z.T.IA;exact(j6 F (aX Z.X Z.G a) Ke (λ_ _ _ _ _ _=>wD λ_ _=>rfl) λc A outer s H E r=>zt (qO 2 Ke.nd (ja zu zM)) (zt (WT 3 (N:=["place"]) 1 [] Ke.nd rfl (cps (by kernel_rfl)) (by kernel_rfl) (yB rfl Z.B.yf (yP Z.B.yS (j3 (zh 0)))) (λ_ _ _=>⟨qH 0 (qS (by kernel_rfl)),jl,q9 (qt (zi (zh 0) zu) (zq zM))⟩)) (zt (P5 1000 PassesOwn.never (BV (zh 3)) (zt (qO 2 Ke.nd (zh 3)) (zt (WT 3 (N:=["lot","place","table","kinds"]) 2 [0,1] Ke.nd rfl (cps (by kernel_rfl)) (by kernel_rfl) (jN (zh 2)) (λ_ _ _=>⟨qH 0 (qS (by kernel_rfl)),jl,Nv (λ_ _ z=>z) rfl rfl (by intro _ h;cases h<;>rfl) (Ov rfl Z.B.yf (jC (qY (zh 0) (YK zr)) zr) (yP Z.B.yS (j3 (zh 2)))) (qH 1 (qS (by kernel_rfl))) (ZK (kf (ql (ND Z).up r (zi (zh 2) (zi (zh 3) (zi (zh 0) (zi (zh 1) zu))))))) (q9 (jC (zh 0) (qt (zi (zh 1) zu) (zq zM))))⟩)) zK))) (zt (qw (zh 2)) zK))):zR P w K mg base 2 "search_greatest" 2 SY).iso
def Fb (Z:Zz K h mg):zR P w K mg base 2 "_law_state" 2 Yt:=by
 obtain⟨f,fd,F,a⟩:=Z.T.HM;exact(j6 F (aX Z.X Z.G a) RD (λ_ _ _ _ _ _=>wD λ_ _=>rfl) λc A outer s H E r=>zt (qO 2 RD.nd (ql (IU Z).up r (zi (zh 0) (zi (zh 1) zu)))) (zt (jE (yg eJ (zh 2) (Um zr zr)) (zt (qw (ja (zi (gy (zh 2) (Um zr zr)) (zi yo zu)) (zq (zq zM)))) zK) zK) (zt (qw (ja (zi (Q7 (zh 2) zr) (zi yo zu)) (zq (zq zM)))) zK)):zR P w K mg base 2 "_law_state" 2 RY)
def Rf (Z:Zz K h mg):zR P w K mg base 2 "_law_mixed_row" 2 Ym:=by
 obtain⟨f,fd,F,a⟩:=Z.T.IK;exact(j6 F (aX Z.X Z.G a) XU (λ_ _ _ _ _ _=>wD λ_ _=>rfl) λc A outer s H E r=>zt (qO 2 XU.nd (KL Z.B.ZS (j3 (zh 1)))) (zt (qO 3 XU.nd (ja zu zM)) (zt (P5 1000 PassesOwn.never (yg (wa r) (zh 2) (ja zu zM)) (zt (kF (ZH (zh 3) (Eg (zh 2) (ql (kr Z).up r (zi (zh 0) (zi (yP Z.B.yS (j3 (zh 2))) zu)))))) zK)) (zt (qw (zh 3)) zK))):zR P w K mg base 2 "_law_mixed_row" 2 XW)
def HY (Z:Zz K h mg):zR P w K mg base 2 "_law_plain" 1 WO:=by
 obtain⟨f,fd,F,a⟩:=Z.T.Hv;exact(j6 F (aX Z.X Z.G a) wY (λ_ _ _ _ _ _=>wW λ_=>rfl) λc A outer s H E r=>zt (qO 1 wY.nd (ql (kr Z).up r (zi (zh 0) (zi zr zu)))) (zt (qO 2 wY.nd (qY (ja (zi zr (zi zr (zi zr (zi zr (zi zr (zi zr (zi zr (zi zr zu)))))))) (zq (zq (zq (zq (zq (zq (zq (zq zM))))))))) (ql (kr Z).up r (zi (zh 0) (zi zr zu))))) (zt (jE (yg (kj r) (zh 1) zr) (zt (qw (yG (je (N:=["_law_a","_law_many"]) 1 [2] (yB rfl Z.B.yf (zh 2)) (λ_ _ _=>⟨qH 0 (qS (by kernel_rfl)),jl,q9 (yG (je (N:=["_law_b","_law_a","_law_many"]) 1 [0,1] (yB rfl Z.B.yf (zh 1)) (λ_ _ _=>⟨qH 0 (qS (by kernel_rfl)),jl,q9 (VS rfl Z.B.Ts (Ue Z.B.Tb (gy (zh 1) (zh 0))) (gy (zh 2) (Ue Z.B.Tb (gy (zh 1) (zh 0)))))⟩)))⟩)))) zK) zK) (zt (jE (yg (kj r) (zh 1) zr) (zt (qO 2 wY.nd (qY (ja (zi zr (zi zr (zi zr zu))) (zq (zq (zq zM)))) (ql (kr Z).up r (zi (zh 0) (zi zr zu))))) (zt (qw (yG (je (N:=["_law_a","_law_many"]) 1 [2] (yB rfl Z.B.yf (zh 2)) (λ_ _ _=>⟨qH 0 (qS (by kernel_rfl)),jl,q9 (yG (je (N:=["_law_b","_law_a"]) 1 [0] (yB rfl Z.B.yf (zh 1)) (λ_ _ _=>⟨qH 0 (qS (by kernel_rfl)),jl,q9 (qY (ja (zi zr (zi zr (zi zr (zi zr (zi zr (zi zr (zi zr (zi zr zu)))))))) (zq (zq (zq (zq (zq (zq (zq (zq zM))))))))) (Nw (zh 1) (zh 0)))⟩)))⟩)))) zK)) zK) (zt (jE (yg (kj r) (zh 1) zr) (zt (qw (yG (je (N:=["_law_a","_law_many"]) 1 [2] (yB rfl Z.B.yf (zh 2)) (λ_ _ _=>⟨qH 0 (qS (by kernel_rfl)),jl,q9 (yG (je (N:=["_law_b","_law_a"]) 1 [0] (yB rfl Z.B.yf (zh 1)) (λ_ _ _=>⟨qH 0 (qS (by kernel_rfl)),jl,q9 (Kt Z.B.JW (gE (wa r) (zh 1) (zh 0)))⟩)))⟩)))) zK) zK) (zt (jE (yg (kj r) (zh 1) zr) (zt (Nb (qY (ja (zi (qt (zi zr (zi zr zu)) (zq (zq zM))) (zi (qt (zi zr (zi zr zu)) (zq (zq zM))) (zi (qt (zi zr (zi zr zu)) (zq (zq zM))) (zi (qt (zi zr (zi zr zu)) (zq (zq zM))) (zi (qt (zi zr (zi zr zu)) (zq (zq zM))) zu))))) (zq (zq (zq (zq (zq zM)))))) (ql (kr Z).up r (zi (zh 0) (zi zr zu)))) (JJ 3 4 rfl wY.nd)) (zt (qO 2 wY.nd (wq (zh 3) (zh 4))) (zt (qw (yG (je (N:=["_law_a","_law_many","_law_wide"]) 1 [2,3] (yB rfl Z.B.yf (zh 2)) (λ_ _ _=>⟨qH 0 (qS (by kernel_rfl)),jl,q9 (yG (je (N:=["_law_b","_law_a","_law_wide"]) 1 [0,2] (yB rfl Z.B.yf (zh 1)) (λ_ _ _=>⟨qH 0 (qS (by kernel_rfl)),jl,q9 (jC (Kt Z.B.JW (gE (wa r) (zh 1) (zh 0))) (Kt Z.B.JW (gE (wa r) (YD (zh 1) (zh 2)) (YD (zh 0) (zh 2)))))⟩)))⟩)))) zK))) zK) (zt (jE (yg (kj r) (zh 1) zr) (zt (qO 5 wY.nd (ja (zi (qt (zi zr (zi zr zu)) (zq (zq zM))) (zi (qt (zi zr (zi zr zu)) (zq (zq zM))) (zi (qt (zi zr (zi zr zu)) (zq (zq zM))) (zi (qt (zi zr (zi zr zu)) (zq (zq zM))) (zi (qt (zi zr (zi zr zu)) (zq (zq zM))) (zi (qt (zi zr (zi zr zu)) (zq (zq zM))) zu)))))) (zq (zq (zq (zq (zq (zq zM)))))))) (zt (qw (yG (je (N:=["_law_a","_law_some"]) 1 [5] (jN (zh 5)) (λ_ _ _=>⟨qH 0 (qS (by kernel_rfl)),jl,q9 (yG (je (N:=["_law_b","_law_a"]) 1 [0] (jN (zh 1)) (λ_ _ _=>⟨qH 0 (qS (by kernel_rfl)),jl,q9 (gy zr (yP Z.B.yS (kz (je (N:=["_law_one","_law_b"]) 1 [0] (jN (zh 1)) (λ_ _ _=>⟨qH 0 (qS (by kernel_rfl)),ZK (Mf TK (zh 0) (zh 1)),q9 (zh 0)⟩)))))⟩)))⟩)))) zK)) zK) (zt (jE (yg (kj r) (zh 1) zr) (zt (qO 2 wY.nd (qY (ja (zi zr (zi zr (zi zr zu))) (zq (zq (zq zM)))) (ql (kr Z).up r (zi (zh 0) (zi zr zu))))) (zt (qw (yG (je (N:=["_law_a","_law_many"]) 1 [2] (yB rfl Z.B.yf (zh 2)) (λ_ _ _=>⟨qH 0 (qS (by kernel_rfl)),jl,q9 (yG (je (N:=["_law_b","_law_a"]) 1 [0] (yB rfl Z.B.yf (zh 1)) (λ_ _ _=>⟨qH 0 (qS (by kernel_rfl)),jl,q9 (Nw (zh 1) (zh 0))⟩)))⟩)))) zK)) zK) (zt (qO 3 wY.nd (qY (ja (zi zr (zi zr (zi zr zu))) (zq (zq (zq zM)))) (ql (kr Z).up r (zi (zh 0) (zi zr zu))))) (zt (qO 6 wY.nd (ja (zi zr (zi zr (zi (qY (ja (zi zr (zi zr zu)) (zq (zq zM))) (Kt Z.B.JW (gE (kj r) (zh 3) zr))) (zi zr zu)))) (zq (zq (zq (zq zM)))))) (zt (qO 7 wY.nd (ja zu zM)) (zt (w6 PassesOwn.never rfl (yB rfl Z.B.yf (wq zr (zh 3))) (qH 8 wY.nd) (zt (qO 9 wY.nd (yG (je (N:=["_law_b","_law_wide","_law_ring","_law_a"]) 1 [3,6,8] (yB rfl Z.B.yf (wq zr (zh 3))) (λ_ _ _=>⟨qH 0 (qS (by kernel_rfl)),jl,q9 (qY (zh 2) (Q7 (Ue Z.B.Tb (gy (zh 3) (zh 0))) (zh 1)))⟩)))) (zt (qO 10 wY.nd (yG (je (N:=["_law_b","_law_wide","_law_a"]) 1 [3,8] (yB rfl Z.B.yf (wq zr (zh 3))) (λ_ _ _=>⟨qH 0 (qS (by kernel_rfl)),jl,q9 (Kt Z.B.JW (gE (wa r) (YD (zh 2) (zh 1)) (YD (zh 0) (zh 1))))⟩)))) (zt (jE (yg (kj r) (zh 1) zr) (zt (kF (ZH (zh 7) (yG (je (N:=["_law_b","_law_near","_law_far"]) 1 [9,10] (yB rfl Z.B.yf (wq zr (zh 3))) (λ_ _ _=>⟨qH 0 (qS (by kernel_rfl)),jl,q9 (jC (wq zr (qY (zh 2) (zh 0))) (qY (zh 1) (zh 0)))⟩))))) zK) (zt (kF (ZH (zh 7) (yG (je (N:=["_law_b","_law_near","_law_far"]) 1 [9,10] (yB rfl Z.B.yf (wq zr (zh 3))) (λ_ _ _=>⟨qH 0 (qS (by kernel_rfl)),jl,q9 (fm (yg (kj r) (qY (zh 2) (zh 0)) zr) zr (qY (zh 1) (zh 0)))⟩))))) zK)) zK)))) (zt (qw (zh 7)) zK)))))))))))):zR P w K mg base 2 "_law_plain" 1 Vc)
def Fo (Z:Zz K h mg):zR P w K mg base 2 "_law_told" 2 JC:=by
 obtain⟨f,fd,F,a⟩:=Z.T.Fw;exact(j6 F (aX Z.X Z.G a) HU (λ_ _ _ _ _ _=>wD λ_ _=>rfl) λc A outer s H E r=>zt (qw (Yz Z.B.gx (kz (je (N:=["_law_kind","_law_state_here"]) 1 [0] (Ov rfl Z.B.yf zr (ql (Vi Z).up r (zi (zh 1) zu))) (λ_ _ _=>⟨qH 0 (qS (by kernel_rfl)),ZK (yg (kj r) (ql (kr Z).up r (zi (zh 1) (zi zr zu))) zr),q9 (zh 0)⟩))))) (zK):zR P w K mg base 2 "_law_told" 2 Vl)
def Iv (Z:Zz K h mg):zR P w K mg base 2 "_law_bent_rising" 3 ZF:=by
 obtain⟨f,fd,F,a⟩:=Z.T.Iw;exact(j6 F (aX Z.X Z.G a) Wy (λ_ _ _ _ _ _=>Yf λ_ _ _=>rfl) λc A outer s H E r=>zt (qO 3 Wy.nd (ql (kr Z).up r (zi (zh 0) (zi (jC (yP Z.B.yS (j3 (zh 2))) zr) zu)))) (zt (qO 4 Wy.nd (qY (ja (zi (ql (kr Z).up r (zi (zh 0) (zi (jC (zh 1) zr) zu))) (zi (zh 1) (zi zr (zi (YK zr) (zi yo (zi YJ (zi KQ (zi (qt (zi zr zu) (zq zM)) (zi yo (zi (Um zr zr) zu)))))))))) (zq (zq (zq (zq (zq (zq (zq (zq (zq (zq zM))))))))))) (ql (kr Z).up r (zi (zh 0) (zi zr zu))))) (zt (qO 5 Wy.nd (ja (zi (jC (jC (Ql (zh 2) Qt (Qi (zh 3))) (qt (zi (zh 4) zu) (zq zM))) (Ql (zh 2) (Qi (zh 3)) Qt)) (zi (jC (jC (Ql (zh 2) Qt (Qi (zh 3))) (qt (zi (zh 4) zu) (zq zM))) (Ql (zh 2) (Qi (jC (zh 3) zr)) Qt)) (zi (jC (Ql (zh 2) Qt (Qi (zh 3))) (Ql (zh 2) (Qi (jC (zh 3) zr)) Qt)) (zi (KL Z.B.ZS (j3 (zh 2))) zu)))) (zq (zq (zq (zq zM)))))) (zt (qw (qY (jC (zh 5) (ja (zi (DP (zh 2) (YK zr)) (zi (jC (zh 2) (Ql (zh 2) (Qi (YK zr)) Qt)) (zi YJ (zi Ny (zi zr (zi (qt (zi (zh 2) zu) (zq zM)) (zi (qt zu zM) zu))))))) (zq (zq (zq (zq (zq (zq (zq zM))))))))) (ql (kr Z).up r (zi (zh 0) (zi zr zu))))) zK))):zR P w K mg base 2 "_law_bent_rising" 3 XO)
def Hm (Z:Zz K h mg):zR P w K mg base 2 "_law_rising" 3 wZ:=by
 obtain⟨f,fd,F,a⟩:=Z.T.Hk;exact(j6 F (aX Z.X Z.G a) I9 (λ_ _ _ _ _ _=>Yf λ_ _ _=>rfl) λc A outer s H E r=>zt (jE (JI (K1 (kY (kf (w8 .tup Z.B.jZ Z.B.gx (by rfl) (zh 0)))) (KR (yg (wa r) (yG (je (N:=["_law_one"]) 1 [] (jN (zh 0)) (λ_ _ _=>⟨qH 0 (qS (by kernel_rfl)),ZK (kY (kf (ql (HP Z).up r (zi (zh 0) zu)))),q9 (zh 0)⟩))) (ja zu zM))))) (zt (qw yo) zK) zK) (zt (jE (yg (wa r) (yG (je (N:=["_law_one","_law_low","_law_high"]) 1 [1,2] (jN (zh 0)) (λ_ _ _=>⟨qH 0 (qS (by kernel_rfl)),ZK (kY (Mv J3 J3 (zh 1) (zh 0) (zh 2))),q9 (zh 0)⟩))) (ja zu zM)) (zt (qw yo) zK) zK) (zt (qw (gE (kj r) (KL Z.B.ZS (j3 (zh 0))) (HL rfl Z.B.VY Z.B.M1 (zh 0)))) zK)):zR P w K mg base 2 "_law_rising" 3 WJ)
def IP (Z:Zz K h mg):zR P w K mg base 2 "_law_greatest" 2 Yp:=by
 obtain⟨f,fd,F,a⟩:=Z.T.IT;exact(j6 F (aX Z.X Z.G a) Yo (λ_ _ _ _ _ _=>wD λ_ _=>rfl) λc A outer s H E r=>zt (qO 2 Yo.nd (ja (zi (qt zu zM) zu) (zq zM))) (zt (w6 PassesOwn.never rfl (yB rfl Z.B.yf (yP Z.B.yS (j3 (zh 0)))) (qH 3 Yo.nd) (zt (qO 2 Yo.nd (jC (zh 2) (yG (je (N:=["_law_lot","_law_place"]) 1 [3] (jN (zh 2)) (λ_ _ _=>⟨qH 0 (qS (by kernel_rfl)),jl,q9 (jC (zh 0) (qt (zi (zh 1) zu) (zq zM)))⟩))))) zK)) (zt (WT 2 (N:=["_law_lot","_law_table_here","_law_kinds_here"]) 1 [0,1] Yo.nd rfl (cps (by kernel_rfl)) (by kernel_rfl) (jN (zh 2)) (λ_ _ _=>⟨qH 0 (qS (by kernel_rfl)),ZK (kf (ql (Pd Z).up r (zi (zh 1) (zi (zh 2) (zi (zh 0) zu))))),q9 (zh 0)⟩)) (zt (qO 4 Yo.nd (Q5 rfl Z.B.QB (kz (je (N:=["_law_lot"]) 1 [] (jN (zh 2)) (λ_ _ _=>⟨qH 0 (qS (by kernel_rfl)),jl,q9 (yP Z.B.yS (j3 (zh 0)))⟩))))) (zt (qw (EL rfl Z.B.VY (yG (je (N:=["_law_lot","_law_many"]) 1 [4] (jN (zh 2)) (λ_ _ _=>⟨qH 0 (qS (by kernel_rfl)),ZK (yg (kj r) (yP Z.B.yS (j3 (zh 0))) (zh 1)),q9 (zh 0)⟩))))) zK)))):zR P w K mg base 2 "_law_greatest" 2 Rg).iso
def IH (Z:Zz K h mg):zR P w K mg base 2 "_law_bad_table" 1 QS:=by
 obtain⟨f,fd,F,a⟩:=Z.T.II;exact(j6 F (aX Z.X Z.G a) Kh (λ_ _ _ _ _ _=>wW λ_=>rfl) λc A outer s H E r=>zt (qO 1 Kh.nd (ja (zi YJ (zi zr (zi (qt zu zM) (zi (qt (zi (qt zu zM) zu) (zq zM)) (zi (qt (zi (qt (zi zr zu) (zq zM)) zu) (zq zM)) (zi (ja (zi (ja (zi zr zu) (zq zM)) zu) (zq zM)) (zi (qt (zi (ja (zi zr zu) (zq zM)) zu) (zq zM)) (zi (qt (zi (qt (zi zr zu) (zq zM)) (zi (qt (zi zr zu) (zq zM)) zu)) (zq (zq zM))) (zi (qt (zi (qt (zi zr (zi zr zu)) (zq (zq zM))) (zi (qt (zi zr (zi zr zu)) (zq (zq zM))) zu)) (zq (zq zM))) (zi (qt (zi (qt (zi zr (zi zr zu)) (zq (zq zM))) (zi (qt (zi zr (zi zr zu)) (zq (zq zM))) zu)) (zq (zq zM))) (zi Ny zu))))))))))) (zq (zq (zq (zq (zq (zq (zq (zq (zq (zq (zq zM))))))))))))) (zt (qO 1 Kh.nd (jC (zh 1) (ja (zi (qt (zi (qt (zi zr (zi zr zu)) (zq (zq zM))) (zi (qt (zi zr (zi zr zu)) (zq (zq zM))) zu)) (zq (zq zM))) (zi (qt (zi (qt (zi yo zu) (zq zM)) zu) (zq zM)) (zi (qt (zi (qt (zi zr (zi yo zu)) (zq (zq zM))) (zi (qt (zi yo (zi zr zu)) (zq (zq zM))) zu)) (zq (zq zM))) (zi (qt (zi (qt (zi zr (zi (YK zr) zu)) (zq (zq zM))) (zi (qt (zi (YK zr) (zi zr zu)) (zq (zq zM))) zu)) (zq (zq zM))) (zi (qt (zi (qt (zi zr (zi zr zu)) (zq (zq zM))) (zi (qt (zi zr (zi zr zu)) (zq (zq zM))) (zi (qt (zi zr (zi zr zu)) (zq (zq zM))) zu))) (zq (zq (zq zM)))) zu))))) (zq (zq (zq (zq (zq zM)))))))) (zt (qO 1 Kh.nd (jC (zh 1) (ja (zi (qt (zi (qt (zi zr (zi zr (zi zr zu))) (zq (zq (zq zM)))) (zi (qt (zi zr (zi zr (zi zr zu))) (zq (zq (zq zM)))) (zi (qt (zi zr (zi zr (zi zr zu))) (zq (zq (zq zM)))) zu))) (zq (zq (zq zM)))) (zi KQ (zi (qt (zi (qt (zi zr (zi zr (zi zr zu))) (zq (zq (zq zM)))) (zi (qt (zi zr (zi zr (zi zr zu))) (zq (zq (zq zM)))) (zi (qt (zi zr (zi zr (zi zr zu))) (zq (zq (zq zM)))) zu))) (zq (zq (zq zM)))) (zi (qt (zi (qt (zi zr zu) (zq zM)) (zi (qt zu zM) zu)) (zq (zq zM))) (zi (qt (zi zr zu) (zq zM)) zu))))) (zq (zq (zq (zq (zq zM)))))))) (zt (qO 1 Kh.nd (jC (zh 1) (ja (zi (qt (zi (qt (zi YJ zu) (zq zM)) zu) (zq zM)) (zi (qt (zi (qt (zi zr (zi zr zu)) (zq (zq zM))) (zi (qt (zi zr (zi zr zu)) (zq (zq zM))) zu)) (zq (zq zM))) zu)) (zq (zq zM))))) (zt (qw (qY (zh 1) (ql (kr Z).up r (zi (zh 0) (zi zr zu))))) zK)))):zR P w K mg base 2 "_law_bad_table" 1 XX)
def Hf (Z:Zz K h mg):zR P w K mg base 2 "_law_spread" 2 Yr:=by
 obtain⟨f,fd,F,a⟩:=Z.T.Hl;exact(j6 F (aX Z.X Z.G a) WE (λ_ _ _ _ _ _=>wD λ_ _=>rfl) λc A outer s H E r=>zt (qO 2 WE.nd (wq (ja (zi zr zu) (zq zM)) (ql (Vi Z).up r (zi (zh 0) zu)))) (zt (w6 PassesOwn.never rfl (jN (zh 1)) (qH 3 WE.nd) (zt (w6 PassesOwn.never rfl (jN (zh 1)) (qH 4 WE.nd) (zt (OT (zh 2) (qY (qY (zh 0) (zh 3)) (zh 4)) zr) zK)) zK)) (zt (qw (zh 2)) zK)):zR P w K mg base 2 "_law_spread" 2 RA).iso
def IG (Z:Zz K h mg):zR P w K mg base 3 "is_wholes_below" 3 QR:=by
 obtain⟨f,fd,F,a⟩:=Z.T.IC;exact(j6 F (aX Z.X Z.G a) Iz (λ_ _ _ _ _ _=>Yf λ_ _ _=>rfl) λc A outer s H E r=>zt (qw (Qo (ql (Fh Z).up r (zi (zh 0) (zi (zh 1) zu))) (Q6 (Qh rfl Z.B.Qx (kz (je (N:=["part","limit"]) 1 [2] (jN (zh 0)) (λ_ _ _=>⟨qH 0 (qS (by kernel_rfl)),jl,q9 (NT J3 TC zr (zh 0) (zh 1))⟩))))))) (zK):zR P w K mg base 3 "is_wholes_below" 3 WA)
def SO (Z:Zz K h mg):zR P w K mg base 3 "is_rising_wholes" 3 kQ:=by
 obtain⟨f,fd,F,a⟩:=Z.T.Ip;exact(j6 F (aX Z.X Z.G a) Ik (λ_ _ _ _ _ _=>Yf λ_ _ _=>rfl) λc A outer s H E r=>zt (jE (kY (kf (w8 .tup Z.B.jZ Z.B.gx (by rfl) (zh 0)))) (zt (qw yo) zK) zK) (zt (qw (Qo (Qh rfl Z.B.Qx (kz (je (N:=["part","least","greatest"]) 1 [1,2] (jN (zh 0)) (λ_ _ _=>⟨qH 0 (qS (by kernel_rfl)),jl,q9 (ql (Iy Z).up r (zi (zh 0) (zi (zh 1) (zi (zh 2) zu))))⟩)))) (Q6 (ql (Fx Z).up r (zi (zh 0) zu))))) zK):zR P w K mg base 3 "is_rising_wholes" 3 Wz)
def RQ (Z:Zz K h mg):zR P w K mg base 3 "_law_known" 1 Ys:=by
 obtain⟨f,fd,F,a⟩:=Z.T.Fd;exact(j6 F (aX Z.X Z.G a) WI (λ_ _ _ _ _ _=>wW λ_=>rfl) λc A outer s H E r=>zt (qO 1 WI.nd (ql (Vb Z).up r (zi (ql (HY Z).up r (zi (zh 0) zu)) zu))) (zt (qO 2 WI.nd (ql (Rf Z).up r (zi (zh 0) (zi (FL rfl Z.B.ZS Z.B.yf (yP Z.B.yS (j3 (zh 1)))) zu)))) (zt (qO 3 WI.nd (jC (ja (zi zr zu) (zq zM)) (ql (Rf Z).up r (zi (zh 0) (zi (F3 rfl Z.B.ZS Z.B.yf zr (jC zr (Q5 rfl Z.B.QB (kz (je (N:=["_law_row"]) 1 [] (jN (zh 1)) (λ_ _ _=>⟨qH 0 (qS (by kernel_rfl)),jl,q9 (Q5 rfl Z.B.QB (j3 (zh 0)))⟩)))))) zu))))) (zt (qw (Yz Z.B.gx (kz (je (N:=["_law_a","_law_rows","_law_order","_law_kinds_here"]) 1 [1,2,3] (jN (zh 2)) (λ_ _ _=>⟨qH 0 (qS (by kernel_rfl)),jl,q9 (Yz Z.B.gx (kz (je (N:=["_law_b","_law_a","_law_rows","_law_kinds_here"]) 1 [0,1,3] (jN (zh 2)) (λ_ _ _=>⟨qH 0 (qS (by kernel_rfl)),jl,q9 (qY (zh 3) (qY (qY (zh 2) (zh 1)) (zh 0)))⟩))))⟩))))) zK))):zR P w K mg base 3 "_law_known" 1 WN).Zb
def HX (Z:Zz K h mg):zR P w K mg base 1 "_law_same" 2 RS:=by
 obtain⟨f,fd,F,a⟩:=Z.T.Vs;exact(Vu (k:=0) Z.B F (aX Z.X Z.G a) (fQ (ps:=["_law_found","_law_due"]) F (aX Z.X Z.G a) (λ_ _ _ _ _ _=>wD λ_ _=>rfl)))
def HI (Z:Zz K h mg):zR P w K mg base 2 "_law_same" 2 Vh:=by
 obtain⟨f,fd,F,a⟩:=Z.T.Vs;exact(Vu (k:=1) Z.B F (aX Z.X Z.G a) (HX Z))
def Fu (Z:Zz K h mg):zR P w K mg base 3 "_law_same" 2 ku:=by
 obtain⟨f,fd,F,a⟩:=Z.T.Vs;exact(Vu (k:=2) Z.B F (aX Z.X Z.G a) (HI Z))
def Ec (Z:Zz K h mg):zR P w K mg base 4 "is_table" 1 ZG:=by
 obtain⟨f,fd,F,a⟩:=Z.T.F0;exact(j6 F (aX Z.X Z.G a) Pj (λ_ _ _ _ _ _=>wW λ_=>rfl) λc A outer s H E r=>zt (jE (JI (K1 (kY (kf (w8 .tup Z.B.jZ Z.B.gx (by rfl) (zh 0)))) (KR (kY (Mv J3 J3 zr (yP Z.B.yS (j3 (zh 0))) (CS rfl Z.B.Hn.choose_spec)))))) (zt (qw yo) zK) zK) (zt (qO 1 Pj.nd (yP Z.B.yS (j3 (zh 0)))) (zt (jE (kY (kf (Qh rfl Z.B.Qx (kz (je (N:=["row","many"]) 1 [1] (jN (zh 0)) (λ_ _ _=>⟨qH 0 (qS (by kernel_rfl)),jl,q9 (ql (IG Z).up r (zi (zh 0) (zi (zh 1) (zi (zh 1) zu))))⟩)))))) (zt (qw yo) zK) zK) (zt (qw (Qo (ql (Ey Z).up r (zi (zh 0) zu)) (Q6 (ql (Ij Z).up r (zi (zh 0) zu))))) zK))):zR P w K mg base 4 "is_table" 1 Ks)
def Rn (Z:Zz K h mg):jX P w K mg base 4 "require_lot" 2 Yq:=by
 obtain⟨f,fd,F,a⟩:=Z.T.Hu;exact(J9 F (aX Z.X Z.G a) IY (λ_ _ _ _ _ _=>wD λ_ _=>rfl) λc A outer s H E r x=>zt (jE (Uj (kY (kf (ql (SO Z).up r (zi (zh 1) (zi zr (zi (gy (yP Z.B.yS (j3 (zh 0))) zr) zu))))))) (zt (Vz x (Z.C.exc "NoLot" (by decide +kernel)) (zi KQ zu) (zq zM)) zK) zK) (zK):jX P w K mg base 4 "require_lot" 2 Yq)
def XI (Z:Zz K h mg):jX P w K mg base 4 "require_told_kinds" 2 Jy:=by
 obtain⟨f,fd,F,a⟩:=Z.T.Ih;exact(J9 F (aX Z.X Z.G a) Ib (λ_ _ _ _ _ _=>wD λ_ _=>rfl) λc A outer s H E r x=>zt (jE (Uj (kY (kf (ql (SO Z).up r (zi (zh 1) (zi zr (zi (gy (ql (Rt Z).up r (zi (zh 0) zu)) zr) zu))))))) (zt (Vz x (Z.C.exc "NoKinds" (by decide +kernel)) (zi KQ zu) (zq zM)) zK) zK) (zK):jX P w K mg base 4 "require_told_kinds" 2 Jy)
def HJ (Z:Zz K h mg):zR P w K mg base 4 "_law_table" 1 JA:=by
 obtain⟨f,fd,F,a⟩:=Z.T.HB;exact(j6 F (aX Z.X Z.G a) Z8 (λ_ _ _ _ _ _=>wW λ_=>rfl) λc A outer s H E r=>zt (qO 1 Z8.nd (ql (kr Z).up r (zi (zh 0) (zi zr zu)))) (zt (jE (yg (kj r) (zh 1) zr) (zt (qw (ql (RQ Z).up r (zi (zh 0) zu))) zK) zK) (zt (WT 2 (N:=["_law_row"]) 1 [] Z8.nd rfl (cps (by kernel_rfl)) (by kernel_rfl) (jN (ql (RQ Z).up r (zi (zh 0) zu))) (λ_ _ _=>⟨qH 0 (qS (by kernel_rfl)),jl,q9 (KL Z.B.ZS (j3 (zh 0)))⟩)) (zt (qO 3 Z8.nd (yP Z.B.yS (j3 (zh 2)))) (zt (jE (JI (NQ (yg (kj r) (zh 1) zr) (OJ (yg eI (zh 3) zr)))) (zt (qO 4 Z8.nd (ql (kr Z).up r (zi (zh 0) (zi (zh 3) zu)))) (zt (qO 5 Z8.nd (Q7 (jC (jC (zh 4) zr) (ql (kr Z).up r (zi (zh 0) (zi (gy (zh 3) zr) zu)))) (zh 3))) (zt (YL (jC zr (ql (kr Z).up r (zi (zh 0) (zi (gy (zh 3) zr) zu)))) (qY (zh 2) (zh 4)) (zh 5)) (zt (YL (qY (qY (zh 2) (zh 4)) (zh 5)) (qY (zh 2) (zh 5)) (zh 4)) (zt (qw (ql (Vb Z).up r (zi (zh 2) zu))) zK))))) zK) (zt (qO 6 Z8.nd (qY (ja (zi zr (zi zr (zi zr zu))) (zq (zq (zq zM)))) (ql (kr Z).up r (zi (zh 0) (zi zr zu))))) (zt (w6 PassesOwn.never rfl (yB rfl Z.B.yf (zh 3)) (qH 4 Z8.nd) (zt (w6 PassesOwn.never rfl (yB rfl Z.B.yf (zh 4)) (qH 5 Z8.nd) (zt (YL (jC zr (ql (kr Z).up r (zi (zh 0) (zi (VS rfl Z.B.Ts (zh 6) (gy (zh 3) zr)) zu)))) (qY (zh 2) (zh 4)) (zh 5)) (zt (YL (qY (qY (zh 2) (zh 4)) (zh 5)) (qY (zh 2) (zh 5)) (zh 4)) zK))) zK)) (zt (qw (ql (Vb Z).up r (zi (zh 2) zu))) zK))))))):zR P w K mg base 4 "_law_table" 1 WL).Zb
def WC (Z:Zz K h mg):jX P w K mg base 5 "require_table" 1 QT:=by
 obtain⟨f,fd,F,a⟩:=Z.T.IS;exact(J9 F (aX Z.X Z.G a) IJ (λ_ _ _ _ _ _=>wW λ_=>rfl) λc A outer s H E r x=>zt (jE (Uj (kY (kf (ql (Ec Z).up r (zi (zh 0) zu))))) (zt (Vz x (Z.C.exc "NoTable" (by decide +kernel)) (zi KQ zu) (zq zM)) zK) zK) (zK):jX P w K mg base 5 "require_table" 1 QT)
def Oo (Z:Zz K h mg):jX P w K mg base 6 "spread" 2 Q2:=by
 obtain⟨f,fd,F,a⟩:=Z.T.Cj;exact(J9 F (aX Z.X Z.G a) W8 (λ_ _ _ _ _ _=>wD λ_ _=>rfl) λc A outer s H E r x=>zt (kF (kR x (WC Z).up r (zi (zh 0) zu))) (zt (kF (kR x (Rn Z).up r (zi (zh 0) (zi (zh 1) zu)))) (Gh (zt (qO 2 W8.nd (wq (ja (zi zr zu) (zq zM)) (ql (Rt Z).up r (zi (zh 0) zu)))) (zt (w6 PassesOwn.never rfl (jN (zh 1)) (qH 3 W8.nd) (zt (w6 PassesOwn.never rfl (jN (zh 1)) (qH 4 W8.nd) (zt (OT (zh 2) (qY (qY (zh 0) (zh 3)) (zh 4)) zr) zK)) zK)) (zt (qw (zh 2)) zK))))):jX P w K mg base 6 "spread" 2 Q2)
def DC (Z:Zz K h mg):zR P w K mg base 6 "spread" 2 YC:=(Oo Z).m.iso
def Px (Z:Zz K h mg):jX P w K mg base 6 "is_free" 3 Qc:=by
 obtain⟨f,fd,F,a⟩:=Z.T.EA;exact(J9 F (aX Z.X Z.G a) FN (λ_ _ _ _ _ _=>Yf λ_ _ _=>rfl) λc A outer s H E r x=>zt (kF (kR x (WC Z).up r (zi (zh 0) zu))) (zt (kF (kR x (XI Z).up r (zi (zh 0) (zi (zh 1) zu)))) (zt (kF (kR x (Rn Z).up r (zi (zh 0) (zi (zh 2) zu)))) (Gh (zt (qw (Qh rfl Z.B.Qx (kz (je (N:=["at","place","table","kinds","lot"]) 2 [0,1,2] (V1 rfl Z.B.Vt (zh 2)) (λ_ _ _=>⟨JJ 0 1 rfl (qS (by kernel_rfl)),jl,q9 (ql (ND Z).up r (zi (zh 2) (zi (zh 3) (zi (Ql (zh 4) Qt (Qi (zh 0))) (zi (zh 1) zu)))))⟩))))) zK)))):jX P w K mg base 6 "is_free" 3 Qc)
def EN (Z:Zz K h mg):zR P w K mg base 6 "is_free" 3 YA:=(Px Z).m.iso
def NG (Z:Zz K h mg):jX P w K mg base 6 "most" 2 Q8:=by
 obtain⟨f,fd,F,a⟩:=Z.T.zbq;exact(J9 F (aX Z.X Z.G a) BF (λ_ _ _ _ _ _=>wD λ_ _=>rfl) λc A outer s H E r x=>zt (kF (kR x (WC Z).up r (zi (zh 0) zu))) (zt (kF (kR x (XI Z).up r (zi (zh 0) (zi (zh 1) zu)))) (Gh (zt (qw (yP Z.B.yS (j3 (qY (ql (SX Z).up r (zi (zh 0) (zi (zh 1) zu))) zr)))) zK))):jX P w K mg base 6 "most" 2 Q8)
def gg (Z:Zz K h mg):zR P w K mg base 6 "most" 2 YS:=(NG Z).m.iso
def Pb (Z:Zz K h mg):jX P w K mg base 6 "greatest" 2 QV:=by
 obtain⟨f,fd,F,a⟩:=Z.T.F9;exact(J9 F (aX Z.X Z.G a) Fs (λ_ _ _ _ _ _=>wD λ_ _=>rfl) λc A outer s H E r x=>zt (kF (kR x (WC Z).up r (zi (zh 0) zu))) (zt (kF (kR x (XI Z).up r (zi (zh 0) (zi (zh 1) zu)))) (Gh (zt (qw (ql (SX Z).up r (zi (zh 0) (zi (zh 1) zu)))) zK))):jX P w K mg base 6 "greatest" 2 QV)
def FW (Z:Zz K h mg):zR P w K mg base 6 "greatest" 2 JE:=(Pb Z).m.iso
end
end G
namespace Mi
open PySem L2
section
variable {m:Ev}
def Qk (h:m ρ A=.ok (.tup ws) A1):qe m ρ A=.ok ⟨λA i=>(zV (.tup ws) A).map λws=>ws[i]?,ws.length⟩ A1:=by
 unfold qe Wi;rw[h,zL]
 rfl
def YB (h:m ρ A=.ok (.tup ws) A)(H:ws.length<=qf){g:W->W}(he:∀w∈ws,me (some w::cap.map λi=>(ρ[i]?).join) A=.ok (g w) A):
  zW 1 cap (qe m) (zH 0) qh (zQ me) ρ A=.ok (ws.map g) A:=by
 have e:=JF (cap:=cap) (me:=me) (ρ:=ρ) (A:=A) (N:=ws.length) (item:=λi=>ws.getD i .non) (g:=λi=>g (ws.getD i .non)) (Qk h) rfl H
  (λi hi=>by show some ws[i]? =_;rw[aa hi,ae,aa hi];rfl)
  (by show some ws[ws.length]? =_;rw[aE (ar _)])
  (λi hi=>by
   have:ws.getD i .non=ws[i]:=by rw[ae,aa hi];rfl
   rw[this];exact he _ (aM hi))
 rw[e]
 congr 1
 apply bz
 ·simp
 ·intro i b a
  have hi:i<ws.length:=by simpa using a
  simp[ae,aa hi]
theorem Kw (p:α->Bool):∀l:List α,Zn (l.map λx=>W.bl (p x))=some (l.map p)
 |[]=>rfl|x::l=>by
  show(match Wh (.bl (p x)),Zn (l.map λx=>W.bl (p x)) with|some k,some ks=>some (k::ks)|_,_=>none)=_
  rw[Kw p l];rfl
def KN {p:α->Bool}{l:List α}(h:∀x∈l,p x=true):gI (l.map λx=>W.bl (p x)) A=.ok (.bl true) A:=by
 show gH (λks=>ks.all id) _ A=_;unfold gH;rw[Kw];dsimp only
 have:(l.map p).all id=true:=by
  rw[all_map];exact cB.mpr λx H=>h x H
 rw[this]
theorem YI {f:α->W}(h:∀x,(f x).nr=true):∀l:List α,jv (l.map f)=true
 |[]=>rfl|x::l=>by
  show((f x).nr&&jv (l.map f))=true;rw[h x,YI h l];rfl
def QL (i j:Int)(A:Hx):jd (.int i) (.int j) A=.ok (.bl (decide (i=j))) A:=by
 show R.ok (W.bl (PyData.eqv (.int i) (.int j))) A=_;simp[PyData.eqv]
 rfl
def Sf (i j:Int)(A:Hx):jf (.int i) (.int j) A=.ok (.bl (!decide (i=j))) A:=by
 show R.ok (W.bl (!PyData.eqv (.int i) (.int j))) A=_;simp[PyData.eqv]
 rfl
def LH (i j:Bool)(A:Hx):jf (.bl i) (.bl j) A=.ok (.bl (!(i==j))) A:=by
 cases i<;>cases j<;>rfl
end
noncomputable def zy (r:bU):W:=.tup (r.map W.int)
def zx (t:bT):W:=.tup (t.map zy)
def Qm (r:bU):(zy r).nr=true:=by
 show jv (r.map W.int)=true;exact YI (λ_=>rfl) r
def ZM (t:bT):(zx t).nr=true:=by
 show jv (t.map zy)=true;exact YI Qm t
def PV {j:jY}{st:W->Ex}{N:Nat}{item:Nat->W}{I:En->Prop}(t:∀i,i<N->j.at_ A i=some (some (item i)))(H:j.at_ A N=some none)
  (s:∀i,i<N->∀ρ,I ρ->∃a,st (item i) ρ A=.ok (.nx a) A/\I a):∀(n i:Nat)(ρ:En),i+n=N->I ρ->∃a,yJ j st n i ρ A=.ok (.nx a) A/\I a:=by
 intro n
 induction n with
 |zero=>
  intro i ρ h c
  have:i=N:=by omega
  subst this;exact⟨ρ,Vx H,c⟩
 |succ n d=>
  intro i ρ h c;obtain⟨ρ1,E,g⟩:=s i (by omega) ρ c
  obtain⟨b,e,f⟩:=d (i+1) ρ1 (by omega) g
  exact⟨b,(Gg (t i (by omega)) E).trans e,f⟩
def VN {m:Ev}(h:m ρ A=.ok (.tup ws) A1):Jo m ρ A=.ok (Z2 (.tup ws) ws.length) A1:=by
 unfold Jo;rw[h,zL]
 rfl
def Tj {w:W}(h:ws[i]? =some w):(Z2 (.tup ws) ws.length).at_ A i=some (some (.tup [.int i,w])):=by
 show atEnd ws i _=_;unfold atEnd;rw[h]
def UW:(Z2 (.tup ws) ws.length).at_ A ws.length=some none:=by
 show atEnd ws _ _=_;unfold atEnd;rw[aE (ar _)];exact ah rfl
noncomputable def at2 (t:bT)(a b:Nat):Int:=(t.getD a []).getD b 0
structure qp (t:bT):Prop where
 n1:1<=t.length
 n8:t.length<=8
 sq:∀r∈t,r.length=t.length
 lo:∀r∈t,∀v∈r,0<=v/\v<(t.length:Int)
 dg:∀a b,a<t.length->b<t.length->(at2 t a b=0↔a=b)
 sy:∀a b,a<t.length->b<t.length->at2 t a b=at2 t b a
 fu:∀k:Nat,(∃v∈t.flatten,(k:Int)<v)->(k:Int)∈t.flatten
section
variable {a b:Nat}
def U4 (h:a<t.length):(t.map zy)[a]? =some (zy (t.getD a [])):=by
 rw[ax,ae,aa h];rfl
def wJ (h:a<t.length):t.getD a []∈t:=by
 rw[ae,aa h];exact aM h
def K4 (h:a<t.length):zJ (zx t) (.int a) A=.ok (zy (t.getD a [])) A:=by
 unfold zJ;show(match wg (t.map zy) (a:Int) with|some w=>R.ok w A|none=>R.bad)=_
 rw[GA (U4 h)]
def int_at {r:bU}(h:b<r.length):(r.map W.int)[b]? =some (.int (r.getD b 0)):=by
 rw[ax,ae,aa h];rfl
def K3 {r:bU}(h:b<r.length):zJ (zy r) (.int b) A=.ok (.int (r.getD b 0)) A:=by
 unfold zJ;show(match wg (r.map W.int) (b:Int) with|some w=>R.ok w A|none=>R.bad)=_
 rw[GA (v:=.int (r.getD b 0)) (by rw[ax,ae,aa h];rfl)]
end
section
def D9 {j:jY}{c:Option W}(a:∀i,i<ws.length->j.at_ A i=some (some (ws.getD i .non)))(H:j.at_ A ws.length=some none)(he:∀w,me [c,some w] A=.ok w A):
  ∀(f i:Nat)(x:Option W)(acc:List W),i+f=ws.length->acc.length+f<=qf->∃y,qU j (zH 1) (zU (.bl true)) (zQ me) f i [c,x] acc A=.ok ([c,y],acc++ws.drop i) A:=by
 intro f
 induction f with
 |zero=>
  intro i x acc h l
  have:i=ws.length:=by omega
  subst this;refine⟨x,?_⟩;unfold qU;rw[H,drop_length,a8]
 |succ f I=>
  intro i x acc h l;have hi:i<ws.length:=by omega
  have E:ws.getD i .non=ws[i]:=by rw[ae,aa hi];rfl
  obtain⟨y,e⟩:=I (i+1) (some ws[i]) (acc++[ws[i]]) (by omega) (by rw[aw,aS];omega)
  refine⟨y,?_⟩;rw[qU,a i hi,E];dsimp only[zH,List.set,zU];rw[zL];dsimp only;have b:zQ me [c,some ws[i]] acc A=.ok ([c,some ws[i]],acc++[ws[i]]) A:=by
   unfold zQ;rw[he,zL,ah (by omega)]
  rw[b,zL];rw[e,aO]
  congr 3
  rw[List.singleton_append,<- List.drop_eq_getElem_cons hi]
def EE {j:jY}(b:∀i,i<t.length->j.at_ A i=some (some (zy (t.getD i []))))(H:j.at_ A t.length=some none):
  ∀(f i:Nat)(x y:Option W)(acc:List W),i+f=t.length->acc.length+(t.drop i).flatten.length<=qf->
   ∃ρ,qU j (zH 0) (zU (.bl true)) (Jj (qe (qj 0)) (zH 1) (zU (.bl true)) (zQ (qj 1))) f i [x,y] acc A=.ok (ρ,acc++(t.drop i).flatten.map W.int) A:=by
 intro f
 induction f with
 |zero=>
  intro i x y acc h l
  have:i=t.length:=by omega
  subst this;refine⟨[x,y],?_⟩;unfold qU;rw[H,drop_length];simp
 |succ f I=>
  intro i x y acc h l;have hi:i<t.length:=by omega
  have r:t.getD i []=t[i]:=by rw[ae,aa hi];rfl
  have e:t.drop i=t[i]::t.drop (i+1):=List.drop_eq_getElem_cons hi;rw[e,aY,aw]at l;obtain⟨z,E⟩:=D9 (A:=A) (j:=⟨λA i_1=>(zV (zy t[i]) A).map λws=>ws[i_1]?,(t[i].map W.int).length⟩) (me:=qj 1) (ws:=t[i].map W.int) (c:=some (zy t[i]))
   (λk a=>by
    show some (t[i].map W.int)[k]? =_;rw[ae,aa a];rfl)
   (by show some (t[i].map W.int)[(t[i].map W.int).length]? =_;rw[aE (ar _)])
   (λw=>zp rfl) (t[i].map W.int).length 0 y acc (by omega) (by rw[ag];omega)
  rw[drop_zero]at E;obtain⟨ρ,g⟩:=I (i+1) (some (zy t[i])) z (acc++t[i].map W.int) (by omega) (by rw[aw,ag];omega)
  refine⟨ρ,?_⟩;rw[qU,b i hi,r];dsimp only[zH,List.set,zU];rw[zL];dsimp only;have d:Jj (qe (qj 0)) (zH 1) (zU (.bl true)) (zQ (qj 1)) [some (zy t[i]),y] acc A=.ok ([some (zy t[i]),z],acc++t[i].map W.int) A:=by
   unfold Jj;rw[Qk (ws:=t[i].map W.int) (A1:=A) (zp (i:=0) rfl),zL];exact E
  rw[d,zL];rw[g,e,aY,aL,aO]
def By {m:Ev}(h:m ρ A=.ok (zx t) A)(H:t.flatten.length<=qf):
  zW 2 [] (qe m) (zH 0) qh (Jj (qe zm) (zH 1) qh (zQ zw)) ρ A=.ok (t.flatten.map W.int) A:=by
 have hlen:(t.map zy).length=t.length:=ag ..;obtain⟨a,e⟩:=EE (t:=t) (A:=A) (j:=⟨λA i=>(zV (zx t) A).map λws=>ws[i]?,(t.map zy).length⟩) (λi hi=>by show some (t.map zy)[i]? =_;rw[U4 hi])
  (by show some (t.map zy)[t.length]? =_;rw[aE (by omega)]) t.length 0 none none [] (by omega) (by simpa using H)
 unfold zW;rw[Qk (ws:=t.map zy) h,zL];show R.bind (R.nox (qU ⟨λA i=>(zV (zx t) A).map λws=>ws[i]?,(t.map zy).length⟩ _ _ _ (t.map zy).length 0 [none,none] [] A)) _=_;rw[hlen]at e ⊢;rw[e];simp
 rfl
end
theorem Yw:∀l:bU,intsOf (l.map W.int)=some l
 |[]=>rfl|i::l=>by
  show(match intsOf (l.map W.int) with|some is=>some (i::is)|none=>none)=_
  rw[Yw l]
theorem VT:∀(l:bU)(m:Int),yK l m=m∨yK l m∈l
 |[],_=>.inl rfl|i::l,m=>by
  show yK l (if i > m then i else m)=m∨yK l (if i > m then i else m)∈i::l;rcases VT l (if i > m then i else m) with e|e
  ·by_cases h:i > m
   ·rw[ah h]at e ⊢;exact .inr (by rw[e];exact au ..)
   ·rw[aj h]at e ⊢;exact .inl e
  ·exact .inr (aq _ e)
end Mi
namespace G
open PySem L2 Mi
def Cw (h:qp t):t.flatten.length<=64:=by
 have:∀l:bT,(∀r∈l,r.length<=8)->l.flatten.length<=8 * l.length:=by
  intro l
  induction l with
  |nil=>intro _;simp|cons r l i=>
   intro H;have e:=H r (au ..);have d:=i λb a=>H b (aq _ a);rw[aY,aw,bj];omega
 have c:=h.n8
 have:=this t λr H=>by rw[h.sq r H];exact h.n8
 omega
section
def ZI (h:n<1000000):jD (n:Int)=true:=by
 unfold jD;simp;omega
end
def KW {m:Ev}(h:m ρ A=.ok (.ref n) A1)(H:A1[n]? =some (.lst ws)):qe m ρ A=.ok ⟨λA i=>(zV (.ref n) A).map λws=>ws[i]?,ws.length⟩ A1:=by
 unfold qe Wi;rw[h,zL];have e:zV (.ref n) A1=some ws:=by unfold zV;dsimp only;rw[H]
 rw[e]
def Jf (h:A[n]? =some (.lst ws)):((zV (.ref n) A).map λws=>ws[i]?)=some ws[i]?:=by
 have e:zV (.ref n) A=some ws:=by unfold zV;dsimp only;rw[h]
 rw[e];rfl
def gi:List Int->Int
 |[]=>0|i::is=>yK is i
def Ux {r:bU}(h:r≠[]):yC (r.map W.int) A=.ok (.int (gi r)) A:=by
 unfold yC;rw[Yw];cases r with
 |nil=>exact absurd rfl h|cons i is=>rfl
def KA {r:bU}(h:r≠[]):gi r∈r:=by
 cases r with
 |nil=>exact absurd rfl h|cons i is=>
  rcases VT is i with e|e
  ·show yK is i∈_;rw[e];exact au ..
  ·exact aq _ e
def jg (t:bT):Int:=gi (t.map gi)+1
section
def _root_.Mi.qp.row_ne (h:qp t){r:bU}(H:r∈t):r≠[]:=λe=>by
 have a:=h.sq r H;have b:=h.n1;rw[e,length_nil]at a;omega
def _root_.Mi.qp.map_ne (h:qp t):t.map gi≠[]:=λe=>by
 have:=h.n1
 rw[List.map_eq_nil_iff]at e;rw[e]at this;simp at this
def Jk (h:qp t):1<=jg t/\jg t<=8:=by
 obtain⟨r,H,e⟩:=cy.mp (KA h.map_ne)
 have:=h.lo r H _ (KA (h.row_ne H))
 have:=h.n8
 unfold jg;rw[<- e];omega
def U9 (h:qp t){a b:Nat}(H:a<t.length)(d:b<t.length):0<=at2 t a b/\at2 t a b<8:=by
 have c:=h.sq _ (wJ H)
 have:(t.getD a []).getD b 0∈t.getD a []:=by
  rw[ae (l:=t.getD a []),aa (by omega)];exact aM _
 have e:=h.lo _ (wJ H) _ this
 have:=h.n8
 unfold at2;omega
def YR (h:q ρ A=.ok ws A1):mQ wO q ρ A=.ok (.tup ws) A1:=(yq h).trans rfl
end
end G
namespace Mi
open PySem L2
def gz {w:W}{s:Nat}(h:A[n]? =some (.lst ws))(H:ws[s]? =some w):zJ (.ref n) (.int (s:Int)) A=.ok w A:=by
 unfold zJ;have e:zV (.ref n) A=some ws:=by unfold zV;dsimp only;rw[h]
 rw[e];dsimp only;rw[GA H]
def jT {u:O}(h:A[n]? =some o):(A++[u])[n]? =some o:=by
 have:=(cx.mp h).1
 rw[ao this];exact h
def qJ {u:O}:(A++[u])[A.length]? =some u:=by simp
theorem GR:∀(n:Nat)(ks:bU),ks.Nodup->(∀r∈ks,0<=r/\r<(n:Int))->ks.length<=n
 |0,ks,_,h=>by
  cases ks with
  |nil=>exact ar _|cons r l=>have:=h r (au ..);omega
 |n+1,ks,nd,h=>by
  by_cases hm:(n:Int)∈ks
  ·have c:=GR n (ks.erase (n:Int)) (nd.erase _) λr H=>by
    have b:=h r (List.mem_of_mem_erase H);have a:r≠(n:Int):=λz=>(List.Nodup.mem_erase_iff nd).mp H |>.1 z;omega
   rw[List.length_erase_of_mem hm]at c;omega
  ·have:=GR n ks nd λr H=>by
    have b:=h r H;have a:r≠(n:Int):=λz=>hm (z ▸ H);omega
   omega
noncomputable def Z4 (μ:Nat->Nat->Int)(a b:Nat)(k:Int):Nat->Nat->Int:=λi j=>if i=a/\j=b then k else μ i j
structure Mu (n:Nat)(μ:Nat->Nat->Int)(c:Nat)(done:Nat->Nat->Prop):Prop where
 dg:∀i,μ i i=0
 sy:∀i j,μ i j=μ j i
 dn:∀i j,i<j->j<n->done i j->1<=μ i j/\μ i j<=(c:Int)
 un:∀i j,i<j->j<n->¬done i j->μ i j=0
 fu:∀k:Nat,1<=k->k<=c->∃i j,i<n/\j<n/\μ i j=(k:Int)
noncomputable def kC (n:Nat)(μ:Nat->Nat->Int):bT:=(List.range n).map λi=>(List.range n).map (μ i)
def Ja (hi:i<n)(h:j<n):at2 (kC n μ) i j=μ i j:=by
 unfold at2 kC;rw[ae (l:=(List.range n).map λi=>(List.range n).map (μ i)),ax,bf hi];show((List.range n).map (μ i)).getD j 0=_;rw[ae,ax,bf h]
 rfl
def Mu.tab {c:Nat}{d:Nat->Nat->Prop}(h:Mu n μ c d)(all:∀i j,i<j->j<n->d i j)(n1:1<=n)(n8:n<=8)(y:n=1∨c<n):qp (kC n μ):=by
 have len:(kC n μ).length=n:=by unfold kC;simp
 have val:∀i j,i<n->j<n->i≠j->1<=μ i j/\μ i j<=(c:Int):=λi j hi H ne=>by
  rcases Nat.lt_or_gt_of_ne ne with q|q
  ·exact h.dn i j q H (all i j q H)
  ·rw[h.sy];exact h.dn j i q hi (all j i q hi)
 have mem:∀r∈kC n μ,∀v∈r,∃i j,i<n/\j<n/\v=μ i j:=λr f v o=>by
  unfold kC at f;obtain⟨i,hi,rfl⟩:=cy.mp f;obtain⟨j,H,rfl⟩:=cy.mp o;exact⟨i,j,cz.mp hi,cz.mp H,rfl⟩
 have I:∀i j,i<n->j<n->μ i j∈(kC n μ).flatten:=λi j hi H=>List.mem_flatten.mpr ⟨_,cy.mpr ⟨i,cz.mpr hi,rfl⟩,cy.mpr ⟨j,cz.mpr H,rfl⟩⟩;refine⟨by rw[len];exact n1,by rw[len];exact n8,λr f=>?_,λr f v o=>?_,λa b l g=>?_,λa b l g=>?_,λk x=>?_⟩
 ·rw[len]
  unfold kC at f;obtain⟨i,hi,rfl⟩:=cy.mp f;simp
 ·rw[len]
  obtain⟨i,j,hi,H,rfl⟩:=mem r f v o
  by_cases q:i=j
  ·subst q;rw[h.dg];omega
  ·have:=val i j hi H q
   omega
 ·rw[len]at l g
  rw[Ja l g]
  constructor
  ·intro e
   by_cases q:a=b
   ·exact q
   ·have:=val a b l g q;omega
  ·intro e;subst e;exact h.dg a
 ·rw[len]at l g
  rw[Ja l g,Ja g l];exact h.sy a b
 ·obtain⟨v,o,t⟩:=x
  obtain⟨r,f,p⟩:=List.mem_flatten.mp o;obtain⟨i,j,hi,H,rfl⟩:=mem r f v p
  by_cases k0:k=0
  ·subst k0
   have:=I 0 0 (by omega) (by omega)
   rw[h.dg]at this;exact this
  ·by_cases q:i=j
   ·subst q;rw[h.dg]at t;omega
   ·have:=val i j hi H q
    obtain⟨w,J,u,s,e⟩:=h.fu k (by omega) (by omega)
    have:=I w J u s
    rw[e]at this;exact this
end Mi
namespace G
open PySem L2 Mi
def K5 {i j:Int}(H:-(2 ^ 64)<i)(h:i<2 ^ 64):jk (.int i) (.int j) A=.ok (.int (i * j)) A:=by
 unfold jk;dsimp only;rw[ah];unfold Wj;rw[bD,ak,ai,ai];exact .inl ⟨H,h⟩
def JO {i j:Int}(h:0<j):wM (.int i) (.int j) A=.ok (.int (i%j)) A:=by
 unfold wM QM;dsimp only;rw[ah];unfold G8;exact az h
def N1 {i j:Int}(h:0<j)(H:j<1152921504606846976):ZU (.int i) (.int j) A=.ok (.int (i/j)) A:=by
 unfold ZU QM;dsimp only;rw[ah];unfold GY;rw[ak,ai,ai];exact⟨h,H⟩
def gS {c m:Int}(h:0<m)(H:m<1000000000000000):Kq [.ref 0,.int m] [.lst [.int c,.bl true]]=.ok (.int (c%m)) [.lst [.int (c/m),.bl true]]:=by
 refine qT ?_;unfold Vo;refine qA (A1:=[.lst [.int (c/m),.bl true]]) ?_;refine(kJ (A1:=[.lst [.int c,.bl true]]) rfl).trans ?_;refine(zN (ρ1:=[some (.ref 0),some (.int m),some (.int (c%m)),none]) (A1:=[.lst [.int c,.bl true]]) ?_).trans ?_
 ·refine(qW (w:=.int (c%m)) (A1:=[.lst [.int c,.bl true]]) ?_).trans rfl
  exact(zT (x:=.int c) (y:=.int m) (A1:=[.lst [.int c,.bl true]]) (A2:=[.lst [.int c,.bl true]]) rfl rfl).trans (JO h)
 ·refine(zN (ρ1:=[some (.ref 0),some (.int m),some (.int (c%m)),none]) (A1:=[.lst [.int (c/m),.bl true]]) ?_).trans rfl
  have e:zj ZU (zj zJ zm zP) zw [some (.ref 0),some (.int m),some (.int (c%m)),none] [.lst [.int c,.bl true]]=.ok (.int (c/m)) [.lst [.int c,.bl true]]:=
   (zT (x:=.int c) (y:=.int m) (A1:=[.lst [.int c,.bl true]]) (A2:=[.lst [.int c,.bl true]]) rfl rfl).trans (N1 h (by omega))
  unfold w9;rw[e,zL]
  rfl
noncomputable def Jx (c:Int):Int:=(c * 48271+29)%2147483647
noncomputable def Zd (d:Int):Int:=(d * d+39373 * d+7)%2147483629
noncomputable def Zy (e:Int):Int:=(e * e+16807 * e)%2147483587
def Tw (c:Int):0<=Jx c/\Jx c<2147483647:=⟨emod_nonneg _ (by decide),bP _ (by decide)⟩
def gU (c:Int):0<=Zd c/\Zd c<2147483629:=⟨emod_nonneg _ (by decide),bP _ (by decide)⟩
def gV {c m:Int}(i:0<=c)(h:c<2147483647)(H:0<m)(j:m<1000000000000000):Kq [.ref 0,.int m] [.lst [.int c,.bl false]]=.ok (.int (Zy (Zd (Jx c))/8%m)) [.lst [.int (Jx c),.bl false]]:=by
 have k:=Tw c;refine qT ?_;unfold Vo;refine(zN (ρ1:=[some (.ref 0),some (.int m),none,none]) (A1:=[.lst [.int c,.bl false]]) ((j7 (A1:=[.lst [.int c,.bl false]]) rfl).trans rfl)).trans ?_;have g:zj wM (zj qa (zj jk (zj zJ zm zP) (zU (.int 48271))) (zU (.int 29))) (zU (.int 2147483647)) [some (.ref 0),some (.int m),none,none] [.lst [.int c,.bl false]]=.ok (.int (Jx c)) [.lst [.int c,.bl false]]:=by
  have em:zj jk (zj zJ zm zP) (zU (.int 48271)) [some (.ref 0),some (.int m),none,none] [.lst [.int c,.bl false]]=.ok (.int (c * 48271)) [.lst [.int c,.bl false]]:=
   (zT (x:=.int c) (y:=.int 48271) (A1:=[.lst [.int c,.bl false]]) (A2:=[.lst [.int c,.bl false]]) rfl rfl).trans (K5 (by omega) (by omega))
  refine(zT (x:=.int (c * 48271+29)) (y:=.int 2147483647) (A1:=[.lst [.int c,.bl false]]) (A2:=[.lst [.int c,.bl false]]) ((zT em rfl).trans rfl) rfl).trans ?_;exact JO (by decide)
 refine(zN (ρ1:=[some (.ref 0),some (.int m),none,none]) (A1:=[.lst [.int (Jx c),.bl false]]) ?_).trans ?_
 ·unfold w9
  rw[g,zL]
  rfl
 generalize Jx c=d at*;have b:zj wM (zj qa (zj qa (zj jk (zj zJ zm zP) (zj zJ zm zP)) (zj jk (zU (.int 39373)) (zj zJ zm zP))) Ws) (zU (.int 2147483629)) [some (.ref 0),some (.int m),none,none] [.lst [.int d,.bl false]]=
   .ok (.int (Zd d)) [.lst [.int d,.bl false]]:=by
  have em:zj jk (zj zJ zm zP) (zj zJ zm zP) [some (.ref 0),some (.int m),none,none] [.lst [.int d,.bl false]]=.ok (.int (d * d)) [.lst [.int d,.bl false]]:=
   (zT (x:=.int d) (y:=.int d) (A1:=[.lst [.int d,.bl false]]) (A2:=[.lst [.int d,.bl false]]) rfl rfl).trans (K5 (by omega) (by omega))
  have E:zj jk (zU (.int 39373)) (zj zJ zm zP) [some (.ref 0),some (.int m),none,none] [.lst [.int d,.bl false]]=.ok (.int (39373 * d)) [.lst [.int d,.bl false]]:=
   (zT (x:=.int 39373) (y:=.int d) (A1:=[.lst [.int d,.bl false]]) (A2:=[.lst [.int d,.bl false]]) rfl rfl).trans (K5 (by decide) (by decide))
  have s:zj qa (zj jk (zj zJ zm zP) (zj zJ zm zP)) (zj jk (zU (.int 39373)) (zj zJ zm zP)) [some (.ref 0),some (.int m),none,none] [.lst [.int d,.bl false]]=.ok (.int (d * d+39373 * d)) [.lst [.int d,.bl false]]:=
   (zT em E).trans rfl
  refine(zT (x:=.int (d * d+39373 * d+7)) (y:=.int 2147483629) (A1:=[.lst [.int d,.bl false]]) (A2:=[.lst [.int d,.bl false]]) ((zT s rfl).trans rfl) rfl).trans ?_;exact JO (by decide)
 refine(zN (qW b)).trans ?_;have B:=gU d;generalize Zd d=e at*;have a:zj wM (zj qa (zj jk zO zO) (zj jk (zU (.int 16807)) zO)) (zU (.int 2147483587)) [some (.ref 0),some (.int m),none,some (.int e)] [.lst [.int d,.bl false]]=.ok (.int (Zy e)) [.lst [.int d,.bl false]]:=by
  have em:zj jk zO zO [some (.ref 0),some (.int m),none,some (.int e)] [.lst [.int d,.bl false]]=.ok (.int (e * e)) [.lst [.int d,.bl false]]:=
   (zT (x:=.int e) (y:=.int e) (A1:=[.lst [.int d,.bl false]]) (A2:=[.lst [.int d,.bl false]]) rfl rfl).trans (K5 (by omega) (by omega))
  have E:zj jk (zU (.int 16807)) zO [some (.ref 0),some (.int m),none,some (.int e)] [.lst [.int d,.bl false]]=.ok (.int (16807 * e)) [.lst [.int d,.bl false]]:=
   (zT (x:=.int 16807) (y:=.int e) (A1:=[.lst [.int d,.bl false]]) (A2:=[.lst [.int d,.bl false]]) rfl rfl).trans (K5 (by decide) (by decide))
  refine(zT (x:=.int (e * e+16807 * e)) (y:=.int 2147483587) (A1:=[.lst [.int d,.bl false]]) (A2:=[.lst [.int d,.bl false]]) ((zT em E).trans rfl) rfl).trans ?_;exact JO (by decide)
 refine(zN (qW a)).trans ?_;generalize Zy e=f at*;refine qA (qZ ?_);refine(zT (x:=.int (f/8)) (y:=.int m) (A1:=[.lst [.int d,.bl false]]) (A2:=[.lst [.int d,.bl false]]) ?_ rfl).trans (JO H);exact(zT (x:=.int f) (y:=.int 8) (A1:=[.lst [.int d,.bl false]]) (A2:=[.lst [.int d,.bl false]]) rfl rfl).trans (N1 (by decide) (by decide))
def jb (n:Nat)(A:Hx):Prop:=∃c b,A[n]? =some (.lst [.int c,.bl b])/\0<=c/\(b=false->c<2147483647)
def Mw (h:jb n A){m:Int}(H:0<m)(g:m<1000000000000000):∃r o,jQ [.ref n,.int m] A=.ok (.int r) (A.set n o)/\0<=r/\r<m/\jb n (A.set n o):=by
 obtain⟨c,b,f,d,i⟩:=h;have hn:n<A.length:=(cx.mp f).1;have fin:∀(r C:Int),Kq [.ref 0,.int m] [.lst [.int c,.bl b]]=.ok (.int r) [.lst [.int C,.bl b]]->jQ [.ref n,.int m] A=.ok (.int r) (A.set n (.lst [.int C,.bl b])):=λr C e=>by
  unfold jQ Zb;dsimp only;rw[f];dsimp only;have a:(jv [W.int c,W.bl b]&&jv [W.int m])=true:=rfl;rw[ah a,e]
  rfl
 cases b with
 |true=>
  refine⟨c%m,_,fin _ _ (gS H g),emod_nonneg _ (by omega),bP _ H,c/m,true,aH hn,Int.ediv_nonneg d (by omega),λz=>nomatch z⟩
 |false=>
  exact⟨_,_,fin _ _ (gV d (i rfl) H g),emod_nonneg _ (by omega),bP _ H,Jx c,false,aH hn,(Tw c).1,λ_=>(Tw c).2⟩
end G
namespace Mi
open PySem L2
def KG {xs ys:List W}(h:A[n]? =some (.lst xs))(a:A[k]? =some (.lst ys))(H:xs.length+ys.length<=qf):qa (.ref n) (.ref k) A=.ok (.ref A.length) (A++[.lst (xs++ys)]):=by
 unfold qa;dsimp only;rw[h,a];dsimp only;rw[ah H]
def Ext (A A':Hx):Prop:=∃l,A'=A++l
def Ext.refl:Ext A A:=⟨[],by simp⟩
def Ext.trans {C:Hx}(a:Ext A B)(b:Ext B C):Ext A C:=let ⟨l,e⟩:=a;let ⟨k,f⟩:=b;⟨l++k,by rw[f,e,aO]⟩
def Ext.one:Ext A (A++[o]):=⟨[o],rfl⟩
def Ext.at {A':Hx}(x:Ext A A')(h:A[n]? =some o):A'[n]? =some o:=by
 obtain⟨l,rfl⟩:=x
 have:=(cx.mp h).1
 rw[ao this];exact h
def ON {j:jY}{ifs:Ev}{N:Nat}
  (H:∀i ρ acc A,i<N->I i ρ acc A->∃w ρ1,j.at_ A i=some (some w)/\tw w ρ=some ρ1/\((∃A1 c a A2,ifs ρ1 A=.ok (.bl true) A1/\em ρ1 acc A1=.ok (c,a) A2/\I (i+1) c a A2)∨(∃A1,ifs ρ1 A=.ok (.bl false) A1/\I (i+1) ρ1 acc A1)))
  (e:∀ρ acc A,I N ρ acc A->j.at_ A N=some none):
  ∀(f i:Nat)(ρ:En)(acc:List W)(A:Hx),i+f=N->I i ρ acc A->∃d b A',qU j tw ifs em f i ρ acc A=.ok (d,b) A'/\I N d b A':=by
 intro f
 induction f with
 |zero=>
  intro i ρ acc A h g
  have:i=N:=by omega
  subst this;refine⟨ρ,acc,A,?_,g⟩;unfold qU;rw[e _ _ _ g]
 |succ f l=>
  intro i ρ acc A h g;obtain⟨w,ρ1,p,o,n⟩:=H i ρ acc A (by omega) g
  rw[qU,p];dsimp only;rw[o];dsimp only;rcases n with ⟨A1,c,a,A2,k,q,E⟩|⟨A1,k,E⟩
  ·rw[k,zL]
   dsimp only;rw[q,zL];exact l (i+1) _ _ _ (by omega) E
  ·rw[k,zL]
   dsimp only;exact l (i+1) _ _ _ (by omega) E
def Qb {nl:Nat}{j:jY}{ifs:Ev}{N:Nat}(hm:mi ρ A=.ok j A1)(f:j.len=N)
  (h:∀i ρ acc A,i<N->I i ρ acc A->∃w ρ1,j.at_ A i=some (some w)/\tw w ρ=some ρ1/\((∃A1 d b A2,ifs ρ1 A=.ok (.bl true) A1/\em ρ1 acc A1=.ok (d,b) A2/\I (i+1) d b A2)∨(∃A1,ifs ρ1 A=.ok (.bl false) A1/\I (i+1) ρ1 acc A1)))
  (H:∀ρ acc A,I N ρ acc A->j.at_ A N=some none)(h0:I 0 (Qw nl cap ρ) [] A1):∃c a A',zW nl cap mi tw ifs em ρ A=.ok a A'/\I N c a A':=by
 obtain⟨c,a,A',e,g⟩:=ON h H N 0 _ _ _ (by omega) h0
 refine⟨c,a,A',?_,g⟩;unfold zW;rw[hm,zL,f,e]
 rfl
def Q0 {j:jY}{st:W->Ex}{N:Nat}{I:Nat->En->Hx->Prop}
  (H:∀i ρ A,i<N->I i ρ A->∃w ρ1 A1,j.at_ A i=some (some w)/\st w ρ A=.ok (.nx ρ1) A1/\I (i+1) ρ1 A1)(d:∀ρ A,I N ρ A->j.at_ A N=some none):
  ∀(f i:Nat)(ρ:En)(A:Hx),i+f=N->I i ρ A->∃a A',yJ j st f i ρ A=.ok (.nx a) A'/\I N a A':=by
 intro f
 induction f with
 |zero=>
  intro i ρ A h b
  have:i=N:=by omega
  subst this;exact⟨ρ,A,Vx (d _ _ b),b⟩
 |succ f c=>
  intro i ρ A h b;obtain⟨w,ρ1,A1,k,g,e⟩:=H i ρ A (by omega) b
  rw[Gg k g];exact c (i+1) _ _ (by omega) e
def ZL {acc:List W}{y:W}(h:me ρ A=.ok y A1)(H:acc.length<qf):zQ me ρ acc A=.ok (ρ,acc++[y]) A1:=by
 unfold zQ;rw[h,zL,ah H]
theorem take_succ {l:List α}(h:i<l.length):l.take (i+1)=l.take i++[l[i]]:=by
 rw[List.take_succ,aa h];rfl
theorem Ext.set (x:Ext A B)(h:A.length<=n):Ext A (B.set n o):=by
 obtain⟨l,rfl⟩:=x;exact⟨l.set (n-A.length) o,by rw[List.set_append_right _ _ h]⟩
def Ext.app {l:Hx}(x:Ext A B):Ext A (B++l):=x.trans ⟨l,rfl⟩
def Ext.len (x:Ext A B):A.length<=B.length:=by obtain⟨l,rfl⟩:=x;simp
def Zi (h:A[n]? =some o):n<A.length:=(cx.mp h).1
end Mi
namespace G
open PySem L2 Mi
def Mb {w:W}(H:A[n]? =some (.lst ws))(h:ws[i]? =some w):((zV (.ref n) A).map λws=>ws[i]?)=some (some w):=by
 rw[Jf H,h]
def Mn (H:A[n]? =some (.lst ws))(h:ws.length<=i):((zV (.ref n) A).map λws=>ws[i]?)=some none:=by
 rw[Jf H,aE h]
theorem Gx:∀(l:bU)(m:Int),m<=yK l m/\∀x∈l,x<=yK l m
 |[],m=>⟨Int.le_refl _,λx h=>by cases h⟩|y::l,m=>by
  unfold yK
  split
  ·rename_i c
   obtain⟨b,a⟩:=Gx l y;refine⟨by omega,λx H=>?_⟩
   rcases cw.mp H with rfl|H
   ·exact b
   ·exact a x H
  ·rename_i c
   obtain⟨b,a⟩:=Gx l m;refine⟨b,λx H=>?_⟩;rcases cw.mp H with rfl|H
   ·omega
   ·exact a x H
theorem Pm:∀{l:List α}{k:Nat}{w:α},l[k]? =some w->l.Perm (w::l.eraseIdx k)
 |[],_,_,h=>by simp at h|x::l,0,w,h=>by
  simp at h;subst h;simp
 |x::l,k+1,w,h=>by
  rw[List.getElem?_cons_succ]at h;rw[List.eraseIdx_cons_succ];exact((Pm h).cons x).trans (List.Perm.swap w x _)
def FU {i:Int}{w:W}(h:A[n]? =some (.lst ws))(hw:ws[k]? =some w)(H:jD i=true)(e:seqIndex? i ws.length=some k):ZN (.ref n) (.int i) A=.ok w (A.set n (.lst (ws.eraseIdx k))):=by
 unfold ZN;dsimp only;rw[h];dsimp only;rw[ah H,e];dsimp only;rw[hw]
def g0 (h:k<n):seqIndex? (k:Int) n=some k:=by
 have:=PySem.StrLaws.seqIndex_nonneg (i:=(k:Int)) (n:=n) (by omega) (by omega)
 rw[aK]at this;exact this
def E5 {w:W}(h:A[n]? =some (.lst ws))(hw:ws[k]? =some w)(H:k<1000000):ZN (.ref n) (.int (k:Int)) A=.ok w (A.set n (.lst (ws.eraseIdx k))):=
 FU h hw (G.ZI H) (g0 (cx.mp hw).1)
theorem Of {β:Type}(f:α->β):∀(l:List α)(k:Nat),(l.map f).eraseIdx k=(l.eraseIdx k).map f
 |[],_=>rfl|_::_,0=>rfl|a::l,k+1=>by
  rw[aW,List.eraseIdx_cons_succ,List.eraseIdx_cons_succ,aW,Of f l k]
def Q4 {a b:Ev}{y:W}(c:a ρ A=.ok (.ref n) A)(d:A[n]? =some (.lst ws))(H:b ρ A=.ok y A1):jU g a b ρ A=g (.ref n) y A1:=by
 unfold jU;have h:Y5 (.ref n) A=true:=by unfold Y5;dsimp only;rw[d]
 rw[c,zL,ah h,H,zL]
def Yx {y:W}(h:A[n]? =some (.lst ws))(H:ws.length<1000):yi (.ref n) y A=.ok .non (A.set n (.lst (ws++[y]))):=by
 unfold yi;dsimp only;rw[h];dsimp only;rw[ah (by unfold qf;omega)]
def Na {f:Fn}{us:List W}{c C:Int}{b B:Bool}{w:W}(a:A[n]? =some (.lst [.int c,.bl b]))(H:jv us=true)(h:f (.ref 0::us) [.lst [.int c,.bl b]]=.ok w A1)(g:A1[0]? =some (.lst [.int C,.bl B]))(hw:w.nr=true):Zb f (.ref n::us) A=.ok w (A.set n (.lst [.int C,.bl B])):=by
 unfold Zb;dsimp only;rw[a];dsimp only;have e:(jv [W.int c,W.bl b]&&jv us)=true:=by rw[H];rfl
 rw[ah e,h];dsimp only;rw[List.head?_eq_getElem?,g];dsimp only;have d:(jv [W.int C,W.bl B]&&w.nr)=true:=by rw[hw];rfl
 rw[ah d]
noncomputable abbrev iL (l:bY):List W:=l.map λ(a:Nat)=>W.int (a:Int)
def E7 {m:Ev}(h:m ρ A=.ok (.int (n:Int)) A1)(hn:n<=100):KU m ρ A=.ok (.ref A1.length) (A1++[.lst (iL (List.range n))]):=by
 unfold KU;rw[h,zL];dsimp only;rw[ZI (by omega),aK,az (by unfold qf;omega)]
 rfl
def CL {m:Ev}{o:List α}{f:α->W}{G:α->W}(h:m ρ A=.ok (.tup (o.map f)) A)(H:o.length<=qf)(he:∀a∈o,me (some (f a)::cap.map λi=>(ρ[i]?).join) A=.ok (G a) A):
  zW 1 cap (qe m) (zH 0) qh (zQ me) ρ A=.ok (o.map G) A:=by
 by_cases h0:o=[]
 ·subst h0
  have e:=JF (cap:=cap) (me:=me) (ρ:=ρ) (A:=A) (N:=0) (item:=λ_=>.non) (g:=λ_=>.non) (Qk h) rfl (by unfold qf;omega) (λi hi=>by omega) rfl (λi hi=>by omega)
  exact e
 ·obtain⟨x,c⟩:∃x,x∈o:=List.exists_mem_of_ne_nil o h0
  have e:=JF (cap:=cap) (me:=me) (ρ:=ρ) (A:=A) (N:=o.length) (item:=λi=>f (o.getD i x)) (g:=λi=>G (o.getD i x)) (Qk h) (ag ..) H
   (λi hi=>by show some (o.map f)[i]? =_;rw[ax,aa hi,ae,aa hi];rfl)
   (by show some (o.map f)[o.length]? =_;rw[aE (by rw[ag];exact ar _)])
   (λi hi=>by
    have:o.getD i x=o[i]:=by rw[ae,aa hi];rfl
    rw[this];exact he _ (aM hi))
  rw[e]
  congr 1
  apply bz
  ·simp
  ·intro i d b
   have hi:i<o.length:=by simpa using b
   simp[ae,aa hi]
def Kk {β:Type}(o:List α)(x:α)(f:α->β):o.map f=(List.range o.length).map λi=>f (o.getD i x):=by
 apply bz
 ·simp
 ·intro i h H
  have hi:i<o.length:=by simpa using h
  simp[ae,aa hi]
def JK (q:∀r∈t,r.length=t.length){v:Int}(h:v∈t.flatten):∃a b,a<t.length/\b<t.length/\at2 t a b=v:=by
 obtain⟨r,H,e⟩:=List.mem_flatten.mp h;obtain⟨a,d,g⟩:=bx H;obtain⟨b,c,f⟩:=bx e;refine⟨a,b,d,by rw[<- q r H];exact c,?_⟩
 unfold at2;have E:t.getD a []=r:=by rw[ae,aa d];exact g
 rw[E,ae,aa c];exact f
def Gz (q:∀r∈t,r.length=t.length){a b:Nat}(e:a<t.length)(d:b<t.length):∃r∈t,at2 t a b∈r/\at2 t a b∈t.flatten:=by
 have H:t.getD a []∈t:=wJ e;have c:at2 t a b∈t.getD a []:=by
  unfold at2;have h:b<(t.getD a []).length:=by rw[q _ H];exact d
  rw[ae (l:=t.getD a []),aa h];exact aM _
 exact⟨_,H,c,List.mem_flatten.mpr ⟨_,H,c⟩⟩
def Uo {r:bU}{x:Int}(h:x∈r):x<=gi r:=by
 cases r with
 |nil=>cases h|cons i is=>
  show x<=yK is i;rcases cw.mp h with rfl|h
  ·exact(Gx is x).1
  ·exact(Gx is i).2 x h
section
def UC (h:qp t){a b:Nat}(d:a<t.length)(c:b<t.length):at2 t a b<jg t:=by
 obtain⟨r,H,e,_⟩:=Gz h.sq d c;have f:=Uo e;have E:=Uo (cy.mpr ⟨r,H,rfl⟩:gi r∈t.map gi);unfold jg;omega
def V8 (h:qp t):jg t-1∈t.flatten:=by
 obtain⟨r,H,e⟩:=cy.mp (KA h.map_ne)
 have:jg t-1=gi r:=by unfold jg;omega
 rw[this];exact List.mem_flatten.mpr ⟨r,H,KA (h.row_ne H)⟩
def hA (h:qp t):jg t<=(t.length:Int):=by
 obtain⟨r,a,H⟩:=List.mem_flatten.mp (V8 h)
 have:=h.lo r a _ H
 omega
def hE (h:qp t){v:Nat}(H:(v:Int)<jg t):∃a b,a<t.length/\b<t.length/\at2 t a b=(v:Int):=by
 by_cases e:(v:Int)=jg t-1
 ·rw[e];exact JK h.sq (V8 h)
 ·exact JK h.sq (h.fu v ⟨_,V8 h,by omega⟩)
noncomputable def yM (p:bY):bU:=0::p.map λ(k:Nat)=>1+(k:Int)
def Jh (t:bT)(p o:bY):bT:=o.map λa=>o.map λb=>(yM p).getD (at2 t a b).toNat 0
def NM {p:bY}{v:Nat}(H:1<=v)(h:v<=p.length):(yM p).getD v 0=1+((p[v-1]'(by omega):Nat):Int):=by
 obtain⟨v,rfl⟩:∃u,v=u+1:=⟨v-1,by omega⟩
 unfold yM;rw[ae,List.getElem?_cons_succ,ax,aa (by omega)]
 rfl
def Df (h:qp t){p o:bY}(n:p.Perm (List.range (jg t-1).toNat))(f:o.Perm (List.range t.length)):qp (Jh t p o)/\(Jh t p o).length=t.length:=by
 have l:o.length=t.length:=by rw[f.length_eq,aV]
 have L:=Jk h;have K:=hA h;have A:p.length=(jg t-1).toNat:=by rw[n.length_eq,aV]
 have n1:=h.n1;have H:∀i,o.getD i 0<t.length:=λi=>by
  by_cases hi:i<o.length
  ·rw[ae,aa hi]
   exact cz.mp (f.mem_iff.mp (aM hi))
  ·rw[ae,aE (by omega)]
   exact n1
 have u:o.Nodup:=(f.nodup_iff).mpr List.nodup_range;have r:∀a,a<t.length->∃i,i<t.length/\o.getD i 0=a:=λa y=>by
  obtain⟨i,hi,e⟩:=bx (f.mem_iff.mpr (cz.mpr y));exact⟨i,by omega,by rw[ae,aa hi];exact e⟩
 have c:∀q (g:q<p.length),p[q]<p.length:=λq g=>by
  have:=cz.mp (n.mem_iff.mp (aM g))
  omega
 have M:Mu t.length (λi j=>(yM p).getD (at2 t (o.getD i 0) (o.getD j 0)).toNat 0) p.length (λ_ _=>True):=by
  refine⟨λi=>?_,λi j=>?_,λi j B z _=>?_,λi j _ _ hn=>absurd trivial hn,λk k1 kc=>?_⟩
  ·show(yM p).getD (at2 t (o.getD i 0) (o.getD i 0)).toNat 0=0
   rw[(h.dg _ _ (H i) (H i)).mpr rfl]
   rfl
  ·show(yM p).getD (at2 t (o.getD i 0) (o.getD j 0)).toNat 0=(yM p).getD (at2 t (o.getD j 0) (o.getD i 0)).toNat 0
   rw[h.sy _ _ (H i) (H j)]
  ·show 1<=(yM p).getD (at2 t (o.getD i 0) (o.getD j 0)).toNat 0/\(yM p).getD (at2 t (o.getD i 0) (o.getD j 0)).toNat 0<=(p.length:Int)
   have s:o.getD i 0≠o.getD j 0:=by
    have x:i<o.length:=by omega
    have w:j<o.length:=by omega
    rw[ae,aa x,ae,aa w];intro e;have J:o[i]=o[j]:=e
    have:=(List.getElem_inj u).mp J
    omega
   have d:=h.dg _ _ (H i) (H j);have Q:=U9 h (H i) (H j);have P:=UC h (H i) (H j);have N:at2 t (o.getD i 0) (o.getD j 0)≠0:=λe=>s (d.mp e);rw[NM (by omega) (by omega)]
   have:=c ((at2 t (o.getD i 0) (o.getD j 0)).toNat-1) (by omega)
   omega
  ·obtain⟨q,g,e⟩:=bx (n.mem_iff.mpr (cz.mpr (by omega:k-1<(jg t-1).toNat)))
   obtain⟨a,b,y,C,I⟩:=hE h (v:=q+1) (by omega)
   obtain⟨i,hi,D⟩:=r a y;obtain⟨j,z,E⟩:=r b C;refine⟨i,j,hi,z,?_⟩;show(yM p).getD (at2 t (o.getD i 0) (o.getD j 0)).toNat 0=(k:Int);rw[D,E,I,aK,NM (by omega) (by omega)]
   have:p[q+1-1]'(by omega)=k-1:=e
   rw[this];omega
 have T:Jh t p o=kC t.length (λi j=>(yM p).getD (at2 t (o.getD i 0) (o.getD j 0)).toNat 0):=by
  unfold Jh kC;rw[Kk o 0,l]
  congr 1
  funext i
  rw[Kk o 0 (λb=>(yM p).getD (at2 t (o.getD i 0) b).toNat 0),l]
 refine⟨?_,by unfold Jh;rw[ag,l]⟩
 rw[T];exact M.tab (λ_ _ _ _=>trivial) n1 h.n8 (.inr (by omega))
end
end G
namespace Mi
open PySem L2
def NA {r b:Nat}{v:W}(h:A[r]? =some (.lst ws))(H:b<ws.length):kK (.ref r) (.int (b:Int)) v A=.ok () (A.set r (.lst (ws.set b v))):=by
 have e:gQ ws.length (b:Int)=some b:=by unfold gQ;rw[ah (by omega),ah (by omega),aK]
 unfold kK;dsimp only;rw[h];dsimp only;rw[e]
structure Kp (n:Nat)(A B:Hx):Prop where
 len:A.length<=B.length
 at_:∀i,i<A.length->i≠n->B[i]? =A[i]?
section
variable {C:Hx}
def Kp.refl:Kp n A A:=⟨ar _,λ_ _ _=>rfl⟩
theorem Kp.trans (a:Kp n A B)(b:Kp n B C):Kp n A C:=⟨bb a.len b.len,λi H h=>(b.at_ i (aD H a.len) h).trans (a.at_ i H h)⟩
theorem Kp.set:Kp n A (A.set n o):=⟨by rw[length_set];exact ar _,λi _ h=>aG (Ne.symm h)⟩
def Kp.ext (x:Ext A B):Kp n A B:=by
 obtain⟨l,rfl⟩:=x;exact⟨by simp,λi h _=>ao h⟩
def Kp.put (a:Kp n A B)(h:A.length<=k):Kp n A (B.set k o):=⟨by rw[length_set];exact a.len,λi b H=>by rw[aG (by omega)];exact a.at_ i b H⟩
def Kp.get (a:Kp n A B)(h:A[i]? =some o)(hn:i≠n):B[i]? =some o:=by rw[a.at_ i (Zi h) hn];exact h
end
def Gn:(kC n μ).length=n:=by unfold kC;simp
def Ud:∀r∈kC n μ,r.length=(kC n μ).length:=λr h=>by
 obtain⟨i,_,rfl⟩:=cy.mp h;rw[Gn];simp
end Mi
namespace G
open PySem L2 Mi
section
abbrev Sq (t:bT):Prop:=∀r∈t,r.length=t.length
end
def TV (t:bT):Bool:=decide (1<=t.length)&&(decide (t.length<=8)&&((t.all λr=>r.length==t.length&&r.all λv=>decide (0<=v)&&decide (v<(t.length:Int)))&&
 (((List.range t.length).all λa=>(List.range t.length).all λb=>(decide (at2 t a b=0)==decide (a=b))&&decide (at2 t a b=at2 t b a))&&(List.range 8).all λk=>!(t.flatten.any λv=>decide ((k:Int)<v)) || t.flatten.contains (k:Int))))
def AD (h:TV t=true):qp t:=by
 unfold TV at h;rw[ak,ak,ak,ak,ai,ai]at h;obtain⟨n1,n8,i,s,hf⟩:=h;have rw_:∀r∈t,r.length=t.length/\∀v∈r,0<=v/\v<(t.length:Int):=λr hm=>by
  have:=cB.mp i r hm
  rw[ak,aN]at this;refine⟨this.1,λv d=>?_⟩
  have:=cB.mp this.2 v d
  rw[ak,ai,ai]at this;exact this
 have at_:∀a b,a<t.length->b<t.length->(decide (at2 t a b=0)==decide (a=b))=true/\at2 t a b=at2 t b a:=λa b c H=>by
  have:=cB.mp (cB.mp s a (cz.mpr c)) b (cz.mpr H)
  rw[ak,ai]at this;exact this
 refine⟨n1,n8,λr hm=>(rw_ r hm).1,λr hm=>(rw_ r hm).2,λa b c H=>?_,λa b c H=>(at_ a b c H).2,λk j=>?_⟩
 ·have:=aN.mp (at_ a b c H).1
  by_cases q:a=b
  ·rw[az q]at this;exact⟨λ_=>q,λ_=>of_decide_eq_true this⟩
  ·rw[aJ q]at this;exact⟨λz=>absurd z (of_decide_eq_false this),λz=>absurd z q⟩
 ·obtain⟨v,d,f⟩:=j
  obtain⟨r,hm,e⟩:=List.mem_flatten.mp d
  have:=(rw_ r hm).2 v e
  have g:=cB.mp hf k (cz.mpr (by omega))
  rw[bD]at g;rcases g with z|z
  ·exfalso
   have:(t.flatten.any λv=>decide ((k:Int)<v))=true:=List.any_eq_true.mpr ⟨v,d,az f⟩
   rw[this]at z;cases z
  ·exact List.contains_iff_mem.mp z
def Xw (t:bT):((zx t).nr&&true)=true:=by rw[ZM];rfl
noncomputable def Zx:W->Bool
 |.int _=>true|_=>false
def ZZ {m:Ev}{w:W}{ty c:Ty}(h:m ρ A=.ok w A1)(H:jP w A1=some ty):yY c m ρ A=.ok (.bl (kM ty c)) A1:=by
 unfold yY;rw[h,zL,H]
def Ta (h:ρ[i]? =some (some (.tup ws))):mQ qx (qg (qj i)) ρ A=.ok (.int ws.length) A:=by
 rw[yq (kG (w:=.tup ws) (A1:=A) (zp h) rfl)]
 rfl
def FH (i:Int)(A:Hx):QY [.int i] A=.ok (.bl true) A:=by
 unfold QY WX;exact qT (w:=.bl true) (A1:=A) rfl
def C8 {r:bU}(h:r.length<=8)(A:Hx):Yv [zy r,.int r.length] A=.ok (.bl true) A:=by
 unfold Yv WV;refine qT ?_;unfold Vp;refine qA (qZ ?_);refine(ZO (A1:=A) rfl).trans ?_;have e:mQ qx (qg zm) [some (zy r),some (.int r.length)] A=.ok (.int r.length) A:=by
  rw[yq (kG (w:=zy r) (A1:=A) (zp rfl) rfl)];unfold qx;rw[ag]
 refine(ZO (A1:=A) ((zT e (zp (i:=1) rfl)).trans ((QL _ _ _).trans (by rw[az rfl])))).trans ?_
 have E:=YB (cap:=[]) (A:=A) (ρ:=[some (zy r),some (.int r.length)]) (ws:=r.map W.int) (me:=zA QY (zc zm zl)) (g:=λ_=>.bl true) (zp (i:=0) rfl) (by rw[ag];unfold qf;omega) (λw hw=>by
  obtain⟨i,_,rfl⟩:=cy.mp hw;exact(qb (ws:=[.int i]) (A1:=A) rfl).trans (FH i A))
 exact(yq E).trans (KN (p:=λ_=>true) λ_ _=>rfl)
def BD {r:bU}(l:r.length<=8)(H:∀v∈r,0<=v/\v<r.length)(A:Hx):QR [zy r,.int r.length,.int r.length] A=.ok (.bl true) A:=by
 unfold QR WA;refine qT ?_;unfold XT;refine qA (qZ ?_);refine(ZO (A1:=A) ((qb (ws:=[zy r,.int r.length]) (A1:=A) rfl).trans (C8 l A))).trans ?_;have e:=YB (cap:=[2]) (A:=A) (ρ:=[some (zy r),some (.int r.length),some (.int r.length)]) (ws:=r.map W.int) (me:=kx wm Js (zU (.int 0)) (qj 0) (qj 1)) (g:=λ_=>.bl true) (zp (i:=0) rfl) (by rw[ag];unfold qf;omega) (λw hw=>by
  obtain⟨v,h,rfl⟩:=cy.mp hw;obtain⟨b,a⟩:=H v h;unfold kx;rw[qy,zL,zp (i:=0) (w:=.int v) rfl,zL];show R.bind (R.ok (W.bl (decide ((0:Int)<=v))) A) _=_;rw[az b,zL];dsimp only;rw[zp (i:=1) (w:=.int r.length) rfl,zL];show R.ok (W.bl (decide (v<(r.length:Int)))) A=_;rw[az a])
 exact(yq e).trans (KN (p:=λ_=>true) λ_ _=>rfl)
def hG (h:qp t)(A:Hx):VF [zx t] A=.ok (.bl true) A:=by
 refine ZQ (A1:=[]) (Xw t) rfl (qT ?_);unfold PU;obtain⟨d,e,_⟩:=PV (A:=[]) (N:=t.length) (item:=λi=>.tup [.int i,zy (t.getD i [])]) (I:=λρ=>∃k g Y y,ρ=[some (zx t),k,g,Y,y])
  (j:=Z2 (zx t) (t.map zy).length) (st:=turn (kH 1 2) (zo (yk (Jo zB) (kH 3 4) (zo (qP (wU (zj jf (zj jd jy zP) (zj jd zw zO)) (zj jf (zj zJ (zj zJ zm zO) zw) jy)) yt zC) zC)) zC))
  (λi hi=>Tj (U4 hi)) (by have:=UW (A:=[]) (ws:=t.map zy);rw[ag]at this;rw[ag];exact this) (λa f ρ H=>by
   obtain⟨k,g,Y,y,rfl⟩:=H;have l:=h.sq _ (wJ f);obtain⟨n,E,o,Z,p⟩:=PV (A:=[]) (N:=t.length) (item:=λi=>.tup [.int i,.int ((t.getD a []).getD i 0)]) (I:=λρ=>∃Y y,ρ=[some (zx t),some (.int a),some (zy (t.getD a [])),Y,y])
    (j:=Z2 (zy (t.getD a [])) ((t.getD a []).map W.int).length) (st:=turn (kH 3 4) (zo (qP (wU (zj jf (zj jd jy zP) (zj jd zw zO)) (zj jf (zj zJ (zj zJ zm zO) zw) jy)) yt zC) zC))
    (λi hi=>Tj (int_at (by omega)))
    (by have:=UW (A:=[]) (ws:=(t.getD a []).map W.int);rw[ag,l]at this;rw[ag,l];exact this)
    (λb c ρ H=>by
     obtain⟨Y,y,rfl⟩:=H;refine⟨[some (zx t),some (.int a),some (zy (t.getD a [])),some (.int b),some (.int ((t.getD a []).getD b 0))],?_,_,_,rfl⟩;refine(Zj rfl).trans ?_;refine(zN ((j7 (A1:=[]) ?_).trans rfl)).trans rfl;have u:zj jf (zj jd jy zP) (zj jd zw zO) [some (zx t),some (.int a),some (zy (t.getD a [])),some (.int b),some (.int ((t.getD a []).getD b 0))] []=.ok (.bl false) []:=by
      refine(zT ((zT (zp (i:=4) rfl) (qy (w:=.int 0))).trans (QL _ _ _)) ((zT (zp (i:=1) rfl) (zp (i:=3) rfl)).trans (QL _ _ _))).trans ((LH _ _ _).trans ?_);have hd:(t.getD a []).getD b 0=0↔a=b:=h.dg a b f c
      have:decide ((t.getD a []).getD b 0=0)=decide ((a:Int)=(b:Int)):=by
       by_cases q:a=b
       ·rw[az (hd.mpr q),az (by omega)]
       ·rw[aJ (λz=>q (hd.mp z)),aJ (by omega)]
      rw[this];simp
     have E:zj jf (zj zJ (zj zJ zm zO) zw) jy [some (zx t),some (.int a),some (zy (t.getD a [])),some (.int b),some (.int ((t.getD a []).getD b 0))] []=.ok (.bl false) []:=by
      have r:=h.sq _ (wJ c);refine(zT ((zT ((zT (zp (i:=0) rfl) (zp (i:=3) rfl)).trans (K4 c)) (zp (i:=1) rfl)).trans (K3 (by omega))) (zp (i:=4) rfl)).trans ((Sf _ _ _).trans ?_)
      have s:(t.getD b []).getD a 0=(t.getD a []).getD b 0:=(h.sy a b f c).symm;rw[s,az rfl]
      rfl
     exact(K8 u).trans E) t.length 0 [some (zx t),some (.int a),some (zy (t.getD a [])),Y,y] (by omega) ⟨_,_,rfl⟩
   refine⟨[some (zx t),some (.int a),some (zy (t.getD a [])),o,Z],?_,_,_,_,_,rfl⟩;refine(Zj rfl).trans ?_;rw[p]at E;have hlen:((t.getD a []).map W.int).length=t.length:=by rw[ag,l]
   refine(zN ((Qp (VN (zp (i:=2) rfl))).trans ?_)).trans rfl;show yJ (Z2 (zy (t.getD a [])) ((t.getD a []).map W.int).length) _ ((t.getD a []).map W.int).length 0 _ _=_;rw[hlen]at E ⊢;exact E) t.length 0 [some (zx t),none,none,none,none] (by omega) ⟨_,_,_,_,rfl⟩
 refine(zN (ρ1:=d) (A1:=[]) ((Qp (VN (zp (i:=0) rfl))).trans ?_)).trans (qA rfl);show yJ (Z2 (zx t) (t.map zy).length) _ (t.map zy).length 0 _ _=_;have hlen:(t.map zy).length=t.length:=ag ..;rw[hlen]at e ⊢;exact e
def Bi (h:qp t)(A:Hx):XM [zx t] A=.ok (.bl true) A:=by
 have f:=Cw h;have c:t.flatten≠[]:=by
  intro e;have q:=h.n1;have b:=h.sq _ (wJ (t:=t) (a:=0) (by omega))
  have:t.getD 0 []=[]:=by
   have:=List.flatten_eq_nil_iff.mp e _ (wJ (t:=t) (a:=0) (by omega))
   exact this
  rw[this]at b;simp at b;omega
 obtain⟨v0,l,E⟩:=List.exists_cons_of_ne_nil c;refine ZQ (A1:=[.lst (t.flatten.map W.int)]) (Xw t) rfl (qT ?_);unfold Su;refine(zN (qW (kS (By (zp rfl) (by unfold qf;omega))))).trans (qA (qZ ?_))
 generalize k:[O.lst (t.flatten.map W.int)]=B;have s:zV (.ref 0) B=some (t.flatten.map W.int):=by rw[<- k];rfl
 have em:mQ yC (qg zw) [some (zx t),some (.ref 0)] B=.ok (.int (yK l v0)) B:=by
  rw[yq (kG (w:=.ref 0) (A1:=B) (zp rfl) s)];unfold yC;rw[Yw,E]
 have H:yK l v0∈t.flatten:=by
  rw[E];rcases VT l v0 with e|e
  ·rw[e];exact au ..
  ·exact aq _ e
 have d:0<=yK l v0/\yK l v0<8:=by
  obtain⟨r,b,v⟩:=List.mem_flatten.mp H
  have:=h.lo r b _ v
  have:=h.n8
  omega
 generalize yK l v0=M at em H d;obtain⟨K,rfl⟩:=bo d.1;have o:=JF (cap:=[1]) (me:=zj Y8 zm zw) (ρ:=[some (zx t),some (.ref 0)]) (A:=B) (N:=K) (j:=yV 0 K) (item:=λi=>.int (0+i)) (g:=λ_=>.bl true)
  ((Q3 em (by unfold jD;simp;omega)).trans (by rw[aK])) rfl (by unfold qf;omega) (λi hi=>g7 hi) (gX (by omega))
  (λi hi=>by
   refine(zT (zp (i:=0) (w:=.int (0+i)) rfl) (zp (i:=1) (w:=.ref 0) rfl)).trans ?_;show Z3 false _ _ _=_;unfold Z3;rw[s];dsimp only;have hf:(gh (.int (0+(i:Int)))&&(t.flatten.map W.int).all gh)=true:=by
    have:(t.flatten.map W.int).all gh=true:=cB.mpr λw hw=>by obtain⟨x,_,rfl⟩:=cy.mp hw;rfl
    rw[this];rfl
   rw[ah hf];have n:Z6 (.int (0+(i:Int))) (t.flatten.map W.int)=true:=by
    unfold Z6;refine List.any_eq_true.mpr ⟨.int i,cy.mpr ⟨(i:Int),h.fu i ⟨_,H,by omega⟩,rfl⟩,?_⟩
    show((i:Int)==0+(i:Int))=true;rw[bO];exact bt _
   rw[n]
   rfl)
 refine(yq o).trans ?_;exact KN (p:=λ_=>true) λ_ _=>rfl
def AF (h:qp t)(A:Hx):ZG [zx t] A=.ok (.bl true) A:=by
 have n1:=h.n1;have n8:=h.n8;unfold ZG Ks;refine qT ?_;unfold WZ;have e:∀ρ:En,mQ qx (qg (qj 0)) (some (zx t)::ρ) A=.ok (.int t.length) A:=λρ=>by
  rw[yq (kG (w:=zx t) (A1:=A) (zp rfl) rfl)];unfold qx;rw[ag]
 refine(zN (ρ1:=[some (zx t),none]) (A1:=A) ((j7 (A1:=A) ?_).trans rfl)).trans ?_
 ·refine(K8 (A1:=A) rfl).trans ?_
  refine yu (k:=true) ?_;show kx wm wm (zU (.int 1)) (mQ qx (qg (qj 0))) (zU (.int 8)) [some (zx t),none] A=_;unfold kx;rw[qy,zL,e,zL];show R.bind (R.ok (W.bl (decide ((1:Int)<=t.length))) A) _=_;rw[az (by omega),zL]
  dsimp only;rw[qy,zL];show R.ok (W.bl (decide ((t.length:Int)<=8))) A=_;rw[az (by omega)]
 refine(zN (qW (e _))).trans ?_;have E:=YB (cap:=[1]) (A:=A) (ρ:=[some (zx t),some (.int t.length)]) (ws:=t.map zy) (me:=zA QR (zc (qj 0) (zc (qj 1) (zc (qj 1) zl)))) (g:=λ_=>.bl true) (zp (i:=0) rfl) (by rw[ag];unfold qf;omega) (λw hw=>by
  obtain⟨r,H,rfl⟩:=cy.mp hw;have l:=h.sq r H;refine(qb (ws:=[zy r,.int t.length,.int t.length]) (A1:=A) rfl).trans ?_;rw[<- l];exact BD (by omega) (λv a=>by have:=h.lo r H v a;omega) A)
 refine(zN (ρ1:=[some (zx t),some (.int t.length)]) (A1:=A) ((j7 (A1:=A) (yu (k:=true) ((yq E).trans (KN (p:=λ_=>true) λ_ _=>rfl)))).trans rfl)).trans (qA (qZ ?_));refine(ZO (A1:=A) ((qb (ws:=[zx t]) (A1:=A) rfl).trans (hG h A))).trans ?_;exact(qb (ws:=[zx t]) (A1:=A) rfl).trans (Bi h A)
end G
namespace Mi
open PySem L2
theorem Vv:∀(l m:bU),PyData.eqvAll (l.map PyData.int) (m.map PyData.int)=decide (l=m)
 |[],[]=>by simp[PyData.eqvAll]|[],_::_=>by simp[PyData.eqvAll]|_::_,[]=>by simp[PyData.eqvAll]|a::l,b::m=>by
  simp only[aW,PyData.eqvAll,Vv l m,PyData.eqv];rw[Bool.eq_iff_iff];simp
theorem Oi:∀l:bU,j9 (qm A n) (l.map W.int)=some (l.map PyData.int)
 |[]=>rfl|i::l=>by
  have:qm A n (.int i)=some (.int i):=by cases n<;>rfl
  show(match qm A n (.int i),j9 (qm A n) (l.map W.int) with|some d,some ds=>some (d::ds)|_,_=>none)=_
  rw[this,Oi l]
  rfl
def K6 {r:Nat}{l:bU}(h:A[r]? =some (.lst (l.map W.int))):qm A 8 (.ref r)=some (.list (l.map PyData.int)):=by
 show(match zV (.ref r) A with|some ws=>(j9 (qm A 7) ws).map PyData.list|none=>none)=_
 have:zV (.ref r) A=some (l.map W.int):=by unfold zV;dsimp only;rw[h]
 rw[this];dsimp only;rw[Oi]
 rfl
def hH {r s:Nat}{l m:bU}(h:A[r]? =some (.lst (l.map W.int)))(H:A[s]? =some (.lst (m.map W.int))):jd (.ref r) (.ref s) A=.ok (.bl (decide (l=m))) A:=by
 show wy false _ _ A=_;unfold wy;rw[K6 h,K6 H];dsimp only;rw[PyData.eqv,Vv]
 rfl
def Ky (A B:Hx):Prop:=∀w ty,jP w A=some ty->jP w B=some ty
def Ext.ky (x:Ext A B):Ky A B:=λw ty h=>by
 cases w with
 |ref n=>
  unfold jP at h ⊢;dsimp only at h ⊢;cases e:A[n]? with
  |none=>rw[e]at h;cases h|some o=>rw[e]at h;rw[x.at e];exact h
 |_=>exact h
def Ky.trans {C:Hx}(a:Ky A B)(b:Ky B C):Ky A C:=λw ty h=>b w ty (a w ty h)
section
def UQ:jP (.ref A.length) (A++[.lst ws])=some .lst:=by
 unfold jP;dsimp only;rw[qJ]
end
structure Kn (n:Nat)(A B:Hx):Prop where
 kp:Kp n A B
 st:G.jb n B
def _root_.G.jb.ty (h:G.jb n A):jP (.ref n) A=some .lst:=by
 obtain⟨c,b,e,_⟩:=h;unfold jP;dsimp only;rw[e]
def _root_.G.jb.lt (h:G.jb n A):n<A.length:=by
 obtain⟨c,b,e,_⟩:=h;exact Zi e
def _root_.G.jb.ext (h:G.jb n A)(x:Ext A B):G.jb n B:=by
 obtain⟨c,b,e,r⟩:=h;exact⟨c,b,x.at e,r⟩
def _root_.G.jb.put (h:G.jb n A)(H:k≠n):G.jb n (A.set k o):=by
 obtain⟨c,b,e,r⟩:=h;exact⟨c,b,by rw[aG H];exact e,r⟩
def Kn.ky (s:G.jb n A)(k:Kn n A B):Ky A B:=λw ty h=>by
 cases w with
 |ref i=>
  by_cases q:i=n
  ·subst q
   rw[s.ty]at h;rw[k.st.ty];exact h
  ·unfold jP at h ⊢
   dsimp only at h ⊢
   by_cases z:i<A.length
   ·rw[k.kp.at_ i z q];exact h
   ·rw[aE (by omega)]at h;cases h
 |_=>exact h
theorem Kn.trans {C:Hx}(a:Kn n A B)(b:Kn n B C):Kn n A C:=⟨a.kp.trans b.kp,b.st⟩
theorem Kn.ext (s:G.jb n A)(x:Ext A B):Kn n A B:=⟨Kp.ext x,s.ext x⟩
end Mi
namespace G
open PySem L2 Mi
def UO (h:jb n A){m:Int}(c:0<m)(H:m<1000000000000000):∃(r:Nat) (B:Hx),jQ [.ref n,.int m] A=.ok (.int r) B/\(r:Int)<m/\Kn n A B/\B.length=A.length:=by
 obtain⟨r,o,e,a,b,s⟩:=Mw h c H;exact⟨r.toNat,A.set n o,by rw[e,bM a],by omega,⟨Kp.set,s⟩,length_set ..⟩
def Zl {m:Int}(h:jb n A)(h0:ρ[0]? =some (some (.ref n)))(hm:me ρ A=.ok (.int m) A)(b:0<m)(H:m<1000000000000000):∃(r:Nat) (B:Hx),zA jQ (zc zm (zc me zl)) ρ A=.ok (.int r) B/\(r:Int)<m/\Kn n A B/\B.length=A.length:=by
 obtain⟨r,B,e,a⟩:=UO h b H;exact⟨r,B,(qb (zF (zp h0) (zF hm zY))).trans e,a⟩
def U6 {ty:Ty}(h:ty≠.tup):kM ty .tup=false:=by
 cases ty<;>first|rfl|exact absurd rfl h
def wj (A:Hx)(w:W):Prop:=∀B,Ky A B->ZG [w] B=.ok (.bl false) B
def wj.mono {w:W}(k:Ky A B)(h:wj A w):wj B w:=λC q=>h C (k.trans q)
def Lb {w:W}{ty:Ty}(h:jP w A=some ty)(hn:ty≠.tup):wj A w:=λB k=>by
 unfold ZG Ks;refine qT ?_;unfold WZ;have e:yY .tup zm [some w,none] B=.ok (.bl false) B:=(ZZ (zp rfl) (k _ _ h)).trans (by rw[U6 hn])
 have E:wU (jO (yY .tup zm)) (jO (kx wm wm zI (mQ qx (qg zm)) ZC)) [some w,none] B=.ok (.bl true) B:=by
  unfold wU;rw[yu e,zL]
  rfl
 exact qA ((kJ E).trans (qA (qZ qy)))
def hJ (h:jP (.ref j) A=some .lst):wj A (.tup [.ref j]):=λB k=>by
 unfold ZG Ks;refine qT ?_;unfold WZ;have H:=k _ _ h;have e:Yv [.ref j,.int 1] B=.ok (.bl false) B:=by
  unfold Yv WV;refine qT ?_;unfold Vp;exact qA (qZ (JP ((ZZ (zp rfl) H).trans rfl)))
 have b:QR [.ref j,.int 1,.int 1] B=.ok (.bl false) B:=by
  unfold QR WA;refine qT ?_;unfold XT;exact qA (qZ (JP ((qb (ws:=[.ref j,.int 1]) (A1:=B) rfl).trans e)))
 have E:=YB (cap:=[1]) (A:=B) (ρ:=[some (.tup [.ref j]),some (.int 1)]) (ws:=[.ref j]) (me:=zA QR (zc zm (zc zw (zc zw zl)))) (g:=λ_=>.bl false) (zp (i:=0) rfl) (by simp[qf]) (λw hw=>by
  rw[cA.mp hw];exact(qb (ws:=[.ref j,.int 1,.int 1]) (A1:=B) rfl).trans b)
 refine(zN (ρ1:=[some (.tup [.ref j]),none]) (A1:=B) rfl).trans ((zN (ρ1:=[some (.tup [.ref j]),some (.int 1)]) (A1:=B) rfl).trans ?_);exact qA ((kJ (yu (k:=false) ((yq E).trans rfl))).trans (qA (qZ qy)))
def ET (m:Ev)(ρ:En):Prop:=∀A,∃w A1,m ρ A=.ok w A1/\Ext A A1/\wj A1 w
def AT (a:Ea)(ρ:En)(k:Nat):Prop:=∀A,∃ws A1,a ρ A=.ok ws A1/\Ext A A1/\ws.length=k/\∀w∈ws,wj A1 w
section
variable {m:Ev}{a:Ea}{w:W}
def GD:AT zl ρ 0:=λA=>⟨[],A,rfl,Ext.refl,rfl,λ_ h=>by cases h⟩
def yQ (h:ET m ρ)(t:AT a ρ k):AT (zc m a) ρ (k+1):=λA=>by
 obtain⟨w,A1,E,x1,c⟩:=h A;obtain⟨ws,A2,e,x2,l,b⟩:=t A1;refine⟨w::ws,A2,zF E e,x1.trans x2,by rw[bj,l],λy H=>?_⟩
 rcases cw.mp H with rfl|H
 ·exact c.mono x2.ky
 ·exact b y H
def kv (h:∀A,m ρ A=.ok w A)(hf:∀B,ZG [w] B=.ok (.bl false) B:=by intro B;kernel_rfl):ET m ρ:=λA=>⟨w,A,h A,Ext.refl,λB _=>hf B⟩
def hU:ET J6 ρ:=λA=>⟨.ref A.length,A++[.dct []],rfl,Ext.one,Lb (ty:=.dct) (by unfold jP;dsimp only;rw[qJ]) (by decide)⟩
end
section
variable {a:Ea}
structure TL (A:Hx)(r k:Nat)(B:Hx):Prop where
 at_:∃ws,B[r]? =some (.lst ws)/\ws.length=k/\∀w∈ws,wj B w
 nw:A.length<=r
 ext:Ext A B
def hV (h:AT a ρ k)(A:Hx):∃r B,zX a ρ A=.ok (.ref r) B/\TL A r k B:=by
 obtain⟨ws,A1,e,x,l,hw⟩:=h A;exact⟨_,_,j0 e,⟨ws,qJ,l,λw H=>(hw w H).mono Ext.one.ky⟩,x.len,x.app⟩
def UG {r:Nat}(t:TL A r j B)(h:AT a ρ k)(hi:ρ[i]? =some (some (.ref r)))(d:j+k<=100):∃b C,zj qa (qj i) (zX a) ρ B=.ok (.ref b) C/\TL A b (j+k) C:=by
 obtain⟨ws,e,l,hw⟩:=t.at_;obtain⟨us,c,E,x1,L,u⟩:=h B;have x2:Ext B (c++[.lst us]):=x1.app;refine⟨_,_,(zT (zp hi) (j0 E)).trans (KG (x2.at e) qJ (by unfold qf;omega)),⟨ws++us,qJ,by rw[aw,l,L],λw H=>?_⟩,?_,(t.ext.trans x2).app⟩
 ·rcases cC.mp H with q|q
  ·exact(hw w q).mono (x2.app).ky
  ·exact(u w q).mono (Ext.one.trans Ext.one).ky
 ·have:=t.ext.len
  have:=x2.len
  omega
def Ay {r:Nat}{m:Int}{mm:Ev}(s:jb n A)(t:TL A r k B)(hi:ρ[i]? =some (some (.ref r)))(h0:ρ[0]? =some (some (.ref n)))(hm:∀A,mm ρ A=.ok (.int m) A)(b:(k:Int)=m)(a:0<m)(d:m<1000):∃w C,zj zJ (qj i) (zA jQ (zc zm (zc mm zl))) ρ B=.ok w C/\wj C w/\Kn n A C:=by
 obtain⟨ws,e,l,hw⟩:=t.at_;have sB:=s.ext t.ext;obtain⟨j,C,E,c,kn,_⟩:=Zl sB h0 (hm B) a (by omega)
 have h:j<ws.length:=by omega
 have H:r≠n:=by have:=s.lt;have:=t.nw;omega
 refine⟨ws[j],C,(zT (zp hi) E).trans (gz (kn.kp.get e H) (aa h)),(hw _ (aM h)).mono (kn.ky sB),(Kn.ext s t.ext).trans kn⟩
end
def hW (s:jb n A):∃w B,QS [.ref n] A=.ok w B/\wj B w/\Kn n A B:=by
 unfold QS XX;unfold Rc;have E:∀ρ,ET (zX (zc (zX (zc zP zl)) zl)) ρ:=λρ A=>⟨_,_,j0 (zF (j0 (zF qy zY)) zY),Ext.one.app,Lb UQ (by decide)⟩
 have e:∀ρ,ET (zG (zc (zX (zc zP zl)) zl)) ρ:=λρ A=>⟨_,_,Q9 (zF (j0 (zF qy zY)) zY),Ext.one,hJ UQ⟩;obtain⟨d,u,l,t1⟩:=hV (k:=11) (ρ:=[some (.ref n),none]) (a:=zc Zu (zc zP (zc (zG zl) (zc (zG (zc (zG zl) zl)) (zc (zG (zc (zG (zc zI zl)) zl)) (zc (zX (zc (zX (zc zP zl)) zl)) (zc (zG (zc (zX (zc zP zl)) zl)) (zc (zG (zc (zG (zc zP zl)) (zc (zG (zc zP zl)) zl))) (zc (zG (zc (zG (zc zP (zc zI zl))) (zc (zG (zc qK (zc zP zl))) zl))) (zc (zG (zc (zG (zc zP (zc qK zl))) (zc (zG (zc qK (zc zP zl))) zl))) (zc J6 zl))))))))))) (yQ (kv (λ_=>rfl)) (yQ (kv (λ_=>rfl)) (yQ (kv (w:=.tup []) (λ_=>rfl)) (yQ (kv (w:=.tup [.tup []]) (λ_=>rfl)) (yQ (kv (w:=.tup [.tup [.int 1]]) (λ_=>rfl)) (yQ (E _) (yQ (e _) (yQ (kv (w:=.tup [.tup [.int 0],.tup [.int 0]]) (λ_=>rfl))
  (yQ (kv (w:=.tup [.tup [.int 0,.int 1],.tup [.int 2,.int 0]]) (λ_=>rfl)) (yQ (kv (w:=.tup [.tup [.int 0,.int 2],.tup [.int 2,.int 0]]) (λ_=>rfl)) (yQ hU GD))))))))))) A
 obtain⟨c,q,j,T⟩:=UG (k:=5) (i:=1) (ρ:=[some (.ref n),some (.ref d)]) (a:=zc (zG (zc (zG (zc zP (zc zI zl))) (zc (zG (zc zI (zc zI zl))) zl))) (zc (zG (zc (zG (zc qh zl)) zl)) (zc (zG (zc (zG (zc zP (zc qh zl))) (zc (zG (zc qh (zc zP zl))) zl))) (zc (zG (zc (zG (zc zP (zc (ju km zI) zl))) (zc (zG (zc (ju km zI) (zc zP zl))) zl))) (zc (zG (zc (zG (zc zP (zc zI zl))) (zc (zG (zc zI (zc zP zl))) (zc (zG (zc zI (zc zI zl))) zl)))) zl))))) t1 (yQ (kv (w:=.tup [.tup [.int 0,.int 1],.tup [.int 1,.int 1]]) (λ_=>rfl)) (yQ (kv (w:=.tup [.tup [.bl true]]) (λ_=>rfl)) (yQ (kv (w:=.tup [.tup [.int 0,.bl true],.tup [.bl true,.int 0]]) (λ_=>rfl))
  (yQ (kv (w:=.tup [.tup [.int 0,.int (-1)],.tup [.int (-1),.int 0]]) (λ_=>rfl)) (yQ (kv (w:=.tup [.tup [.int 0,.int 1],.tup [.int 1,.int 0],.tup [.int 1,.int 1]]) (λ_=>rfl)) GD))))) rfl (by omega)
 obtain⟨b,p,h,t3⟩:=UG (k:=5) (i:=1) (ρ:=[some (.ref n),some (.ref c)]) (a:=zc (zG (zc (zG (zc zP (zc zI (zc qK zl)))) (zc (zG (zc zI (zc zP (zc qK zl)))) (zc (zG (zc qK (zc qK (zc zI zl)))) zl)))) (zc (zU (.str "0")) (zc (zG (zc (zG (zc zP (zc jz (zc jz zl)))) (zc (zG (zc jz (zc zP (zc zI zl)))) (zc (zG (zc jz (zc zI (zc zP zl)))) zl)))) (zc (zG (zc (zG (zc zP zl)) (zc (zG zl) zl))) (zc (zG (zc zP zl)) zl))))) T (yQ (kv (w:=.tup [.tup [.int 0,.int 1,.int 2],.tup [.int 1,.int 0,.int 2],.tup [.int 2,.int 2,.int 1]]) (λ_=>rfl)) (yQ (kv (λ_=>rfl))
  (yQ (kv (w:=.tup [.tup [.int 0,.int 3,.int 3],.tup [.int 3,.int 0,.int 1],.tup [.int 3,.int 1,.int 0]]) (λ_=>rfl)) (yQ (kv (w:=.tup [.tup [.int 0],.tup []]) (λ_=>rfl)) (yQ (kv (w:=.tup [.int 0]) (λ_=>rfl)) GD))))) rfl (by omega)
 obtain⟨r,o,g,t⟩:=UG (k:=2) (i:=1) (ρ:=[some (.ref n),some (.ref b)]) (a:=zc (zG (zc (zG (zc Zu zl)) zl)) (zc (zG (zc (zG (zc zP (zc zP zl))) (zc (zG (zc zP (zc zP zl))) zl))) zl)) t3 (yQ (kv (w:=.tup [.tup [.non]]) (λ_=>rfl)) (yQ (kv (w:=.tup [.tup [.int 0,.int 0],.tup [.int 0,.int 0]]) (λ_=>rfl)) GD)) rfl (by omega)
 obtain⟨w,C,f,hw,kn⟩:=Ay (i:=1) (ρ:=[some (.ref n),some (.ref r)]) (mm:=zU (.int 23)) (m:=23) s t rfl rfl (λ_=>rfl) rfl (by decide) (by decide)
 refine⟨w,C,qT ?_,hw,kn⟩;refine(zN ((qW l).trans rfl)).trans ((zN ((qW j).trans rfl)).trans ((zN ((qW h).trans rfl)).trans ((zN ((qW g).trans rfl)).trans (qA (qZ f)))))
section
variable {N a:Nat}
def F8 (g:t.length<=8)(q:Sq t){m:Ev}{c:Hx}(H:m ρ c=.ok (zx t) B):qu (zW 1 [] (qe m) (zH 0) qh (zQ (qu (qg zm)))) ρ c=
  .ok (.ref (B.length+t.length)) (B++(t.map λr=>O.lst (r.map W.int))++[O.lst ((List.range t.length).map λi=>W.ref (B.length+i))]):=by
 obtain⟨b,d,j,e,⟨z,g1⟩,g2,g3⟩:=Qb (nl:=1) (cap:=[]) (tw:=zH 0) (ifs:=zU (.bl true)) (em:=zQ (qu (qg zm))) (ρ:=ρ) (A:=c) (N:=t.length)
  (I:=λp b a C=>(∃z,b=[z])/\C=B++((t.take p).map λr=>O.lst (r.map W.int))/\a=(List.range p).map λi=>W.ref (B.length+i)) (Qk H) (by simp)
  (λp b a C h ⟨⟨z,f1⟩,f2,f⟩=>by
   subst f1 f2 f;refine⟨zy t[p],[some (zy t[p])],?_,rfl,.inl ⟨_,_,_,_,rfl,ZL (kS (kG (w:=zy t[p]) (ws:=t[p].map W.int) (zp rfl) rfl)) ?_,⟨_,rfl⟩,?_,?_⟩⟩
   ·show some (t.map zy)[p]? =_
    rw[ax,aa h];rfl
   ·simp;unfold qf;omega
   ·rw[take_succ h,aL,aO];rfl
   ·rw[range_succ,aL,aw,ag,bc,Nat.min_eq_left (bC h)];rfl)
  (λb a C _=>by show some (t.map zy)[t.length]? =_;rw[aE (by simp)]) ⟨⟨none,rfl⟩,by simp,by simp⟩
 rw[kS e,g2,g3,bq];simp
def O0 (hi:i<t.length):(B++(t.map λr=>O.lst (r.map W.int))++[O.lst ((List.range t.length).map λi=>W.ref (B.length+i))])[B.length+i]? =some (.lst ((t.getD i []).map W.int)):=by
 rw[ao (by simp;omega),ay (by omega),show B.length+i-B.length=i by omega,ax,ae,aa hi]
 rfl
def OX:(B++(t.map λr=>O.lst (r.map W.int))++[O.lst ((List.range t.length).map λi=>W.ref (B.length+i))])[B.length+t.length]? =some (.lst ((List.range t.length).map λi=>W.ref (B.length+i))):=by
 have:B.length+t.length=(B++(t.map λr=>O.lst (r.map W.int))).length:=by simp
 rw[this,qJ]
end
def Ka {r s:Nat}{l m:bU}(h:A[r]? =some (.lst (l.map W.int)))(H:A[s]? =some (.lst (m.map W.int))):jf (.ref r) (.ref s) A=.ok (.bl (!decide (l=m))) A:=by
 show wy true _ _ A=_;unfold wy;rw[K6 h,K6 H];dsimp only;rw[PyData.eqv,Vv]
 rfl
section
variable {p f:Nat}
def CM {x:Option W}(U:A.length<=p)(hf:A.length<=f)(hn:n<A.length)(h:p≠f):∀(k fu:Nat)(l fd:bU)(B:Hx),l.length=k->k<fu->fd.length+l.length<=100->Kn n A B->B[p]? =some (.lst (l.map W.int))->B[f]? =some (.lst (fd.map W.int))->
  ∃(j:Hx) (b:bU),gJ (zj jf zB (zX zl)) (zo (jJ (jU yi zO (jU ZN zB (zA jQ (zc zm (zc (mQ qx (qg zB)) zl)))))) zC) fu [some (.ref n),x,some (.ref p),some (.ref f)] B=.ok (.nx [some (.ref n),x,some (.ref p),some (.ref f)]) j/\Kn n A j/\j[f]? =some (.lst (b.map W.int))/\b.Perm (fd++l):=by
 intro k
 induction k with
 |zero=>
  intro fu l fd B H z _ kn r D;obtain⟨fu,rfl⟩:∃J,fu=J+1:=⟨fu-1,by omega⟩
  have:l=[]:=List.length_eq_zero_iff.mp H
  subst this;refine⟨B++[.lst []],fd,?_,kn.trans (Kn.ext kn.st Ext.one),jT D,by simp⟩
  unfold gJ;have s:zj jf zB (zX zl) [some (.ref n),x,some (.ref p),some (.ref f)] B=.ok (.bl false) (B++[.lst []]):=(zT (zp (i:=2) rfl) (j0 zY)).trans (Ka (l:=[]) (m:=[]) (jT r) qJ);rw[s,zL]
 |succ k S=>
  intro fu l fd B H z X kn r D;obtain⟨fu,rfl⟩:∃J,fu=J+1:=⟨fu-1,by omega⟩
  have s:zj jf zB (zX zl) [some (.ref n),x,some (.ref p),some (.ref f)] B=.ok (.bl true) (B++[.lst []]):=by
   refine(zT (zp (i:=2) rfl) (j0 zY)).trans ((Ka (m:=[]) (jT r) qJ).trans ?_);have y:l≠[]:=λe=>by rw[e]at H;cases H
   rw[aJ y]
   rfl
  have K:=kn.trans (Kn.ext kn.st (Ext.one (o:=.lst [])));have g1:=jT (u:=.lst []) r;have g2:=jT (u:=.lst []) D;generalize B++[O.lst []]=L at s K g1 g2;have E:mQ qx (qg zB) [some (.ref n),x,some (.ref p),some (.ref f)] L=.ok (.int (l.length:Int)) L:=by
   rw[yq (kG (w:=.ref p) (A1:=L) (ws:=l.map W.int) (zp rfl) (by unfold zV;dsimp only;rw[g1]))]
   unfold qx;rw[ag]
  obtain⟨q,P,e1,T,k2,_⟩:=Zl (ρ:=[some (.ref n),x,some (.ref p),some (.ref f)]) K.st rfl E (by omega) (by omega)
  have v:q<l.length:=by omega
  have d:=k2.kp.get g1 (by omega)
  have I:=k2.kp.get g2 (by omega)
  have hw:(l.map W.int)[q]? =some (.int l[q]):=by rw[ax,aa v];rfl
  have N:=(Q4 (g:=ZN) (a:=qj 2) (zp rfl) g1 e1).trans (E5 d hw (by omega))
  rw[Of]at N;have c:(P.set p (.lst ((l.eraseIdx q).map W.int)))[f]? =some (.lst (fd.map W.int)):=by rw[aG h];exact I
  have M:=(Q4 (g:=yi) (a:=qj 3) (zp rfl) g2 N).trans (Yx c (by rw[ag];omega))
  have C:fd.map W.int++[.int l[q]]=(fd++[l[q]]).map W.int:=by rw[aL];rfl
  rw[C]at M;have hlen:(l.eraseIdx q).length=k:=by rw[List.length_eraseIdx_of_lt v];omega
  have t:Kn n A ((P.set p (.lst ((l.eraseIdx q).map W.int))).set f (.lst ((fd++[l[q]]).map W.int))):=⟨((K.trans k2).kp.put U).put hf,((k2.st).put (by omega)).put (by omega)⟩
  obtain⟨j,b,Z,s4,a4,Q⟩:=S fu (l.eraseIdx q) (fd++[l[q]]) _ hlen (by omega) (by rw[aw,aS];omega) t
   (by rw[aG (Ne.symm h),aH (Zi d)]) (by rw[aH (Zi c)])
  refine⟨j,b,?_,s4,a4,Q.trans ?_⟩
  ·unfold gJ
   rw[s,zL];dsimp only;have Y:=(zN (m2:=zC) (ki M)).trans jK;rw[Y,zL];exact Z
  ·rw[aO]
   exact List.Perm.append_left fd (Pm (aa v)).symm
def Nx {q:Nat}{l:bU}(s:jb n A)(h:A[q]? =some (.lst (l.map W.int)))(H:l.length<=100):∃(r:Nat) (B:Hx) (fd:bU),Ym [.ref n,.ref q] A=.ok (.ref r) B/\B[r]? =some (.lst (fd.map W.int))/\fd.Perm l/\Kn n A B/\A.length<=r:=by
 unfold Ym XW;unfold S9;have a:qu (qg zw) [some (.ref n),some (.ref q),none,none] A=.ok (.ref A.length) (A++[.lst (l.map W.int)]):=kS (kG (w:=.ref q) (zp rfl) (by unfold zV;dsimp only;rw[h]))
 have x0:Ext A (A++[.lst (l.map W.int)]++[.lst []]):=Ext.one.app;have hlen:(A++[O.lst (l.map W.int)]).length=A.length+1:=by simp
 have a2:(A++[.lst (l.map W.int)]++[.lst []])[A.length+1]? =some (.lst (([]:bU).map W.int)):=by rw[<- hlen];exact qJ
 obtain⟨B,fd,E,kn,e,P⟩:=CM (A:=A) (p:=A.length) (f:=A.length+1) (x:=some (.ref q)) (ar _) (by omega) s.lt (by omega) l.length 1000 l [] _ rfl (by omega) (by simp;omega) (Kn.ext s x0) (jT qJ) a2
 refine⟨A.length+1,B,fd,qT ?_,e,by simpa using P,kn,by omega⟩
 refine(zN ((qW a).trans rfl)).trans ((zN (ρ1:=[some (.ref n),some (.ref q),some (.ref A.length),some (.ref (A.length+1))]) (A1:=A++[.lst (l.map W.int)]++[.lst []]) ?_).trans ((zN (m1:=K7 1000 _ _) E).trans (qA (qZ (zp rfl)))));refine(qW (j0 zY)).trans ?_;rw[hlen]
 rfl
end
noncomputable def dist (t:bT):bY:=(List.range 8).filter λi=>decide ((i:Int)∈t.flatten)
def gN (t:bT)(v:Int):Int:=((dist t).idxOf v.toNat:Nat)
def kh (t:bT):bT:=t.map λr=>r.map (gN t)
def KC:i∈dist t↔i<8/\(i:Int)∈t.flatten:=by
 unfold dist;rw[bJ,mem_range,ai]
def F6 (t:bT):(dist t).Nodup:=List.Pairwise.filter _ List.nodup_range
theorem VC:∀{l:bU},(∀v∈l,0<=v/\v<8)->ZT l=some (l.map Int.toNat)
 |[],_=>rfl|v::l,h=>by
  unfold ZT;rw[ah (h v (au ..)),VC λx H=>h x (aq _ H)]
  rfl
theorem P2:∀{kws:List (Nat×List W)},(∀p∈kws,A[p.1]? =some (.lst p.2))->gZ A (kws.map λ(p:Nat×List W)=>W.ref p.1)=some (kws.map (·.2))
 |[],_=>rfl|p::kws,h=>by
  show(match A[p.1]? with|some (.lst ws)=>(gZ A (kws.map λ(p:Nat×List W)=>W.ref p.1)).map (ws::·)|_=>none)=_
  rw[h p (au ..)];dsimp only;rw[P2 λx H=>h x (aq _ H)]
  rfl
theorem O6 (v:Nat):∀{l:bY},v∈l->Z0 (λz=>PyData.eqv z (.int (v:Int))) (l.map λ(i:Nat)=>PyData.int (i:Int))=some (l.idxOf v)
 |[],h=>by cases h|a::l,h=>by
  rw[aW,Z0,List.idxOf_cons]
  have:PyData.eqv (.int (a:Int)) (.int (v:Int))=(a==v):=by
   rw[PyData.eqv,Bool.eq_iff_iff];simp;omega
  rw[this]
  by_cases q:a=v
  ·subst q
   simp
  ·have Q:(a==v)=false:=by simp[q]
   rw[Q,aj (by simp)]
   rw[O6 v ((cw.mp h).resolve_left (Ne.symm q))]
   rfl
def LL (t:bT)(r:Nat)(B:Hx):Prop:=∃ks:bY,B[r]? =some (.lst (ks.map W.ref))/\ks.length=t.length/\∀i,i<t.length->B[ks.getD i 0]? =some (.lst ((t.getD i []).map W.int))
def VR {m:Ev}(h:m ρ A=.ok (.ref k) A)(H:A[k]? =some (.lst ws))(l:ws.length<=qf){g:W->W}(he:∀w∈ws,me (some w::cap.map λi=>(ρ[i]?).join) A=.ok (g w) A):
  zW 1 cap (qe m) (zH 0) qh (zQ me) ρ A=.ok (ws.map g) A:=by
 have e:=JF (cap:=cap) (me:=me) (ρ:=ρ) (A:=A) (N:=ws.length) (item:=λi=>ws.getD i .non) (g:=λi=>g (ws.getD i .non)) (KW h H) rfl l
  (λi hi=>(Jf H).trans (by rw[aa hi,ae,aa hi];rfl))
  ((Jf H).trans (by rw[aE (ar _)]))
  (λi hi=>by
   have:ws.getD i .non=ws[i]:=by rw[ae,aa hi];rfl
   rw[this];exact he _ (aM hi))
 rw[e]
 congr 1
 apply bz
 ·simp
 ·intro i b a
  have hi:i<ws.length:=by simpa using a
  simp[ae,aa hi]
noncomputable def LK (f:Int->Int):W->W
 |.int v=>.int (f v)|w=>w
def Ae (f:Int->Int)(l:bU):(l.map W.int).map (LK f)=(l.map f).map W.int:=by
 rw[aP,aP];rfl
section
variable {r:Nat}
def Dc (j:t.length<=8)(L:LL t r B)(h0:ρ[i]? =some (some (.ref r))):qu (zW 1 [] (qe (qj i)) (zH 0) qh (zQ (qu (qg zm)))) ρ B=
  .ok (.ref (B.length+t.length)) (B++(t.map λr=>O.lst (r.map W.int))++[O.lst ((List.range t.length).map λi=>W.ref (B.length+i))]):=by
 obtain⟨ks,E,k,f⟩:=L;obtain⟨b,d,l,e,⟨z,g1⟩,g2,g3⟩:=Qb (nl:=1) (cap:=[]) (tw:=zH 0) (ifs:=zU (.bl true)) (em:=zQ (qu (qg zm))) (ρ:=ρ) (A:=B) (N:=t.length)
  (I:=λp b a C=>(∃z,b=[z])/\C=B++((t.take p).map λr=>O.lst (r.map W.int))/\a=(List.range p).map λi=>W.ref (B.length+i)) (KW (zp h0) E) (by simp[k])
  (λp b a C H ⟨⟨z,f1⟩,f2,g⟩=>by
   subst f1 f2 g;have x:Ext B (B++((t.take p).map λr=>O.lst (r.map W.int))):=⟨_,rfl⟩;have h:=x.at (f p H);have c:t.getD p []=t[p]:=by rw[ae,aa H];rfl
   rw[c]at h;refine⟨.ref (ks.getD p 0),[some (.ref (ks.getD p 0))],?_,rfl,.inl ⟨_,_,_,_,rfl,ZL (kS (kG (w:=.ref (ks.getD p 0)) (ws:=t[p].map W.int) (zp rfl) (by unfold zV;dsimp only;rw[h]))) ?_,⟨_,rfl⟩,?_,?_⟩⟩
   ·refine(Jf (x.at E)).trans ?_
    rw[ax,ae,aa (by omega)];rfl
   ·simp;unfold qf;omega
   ·rw[take_succ H,aL,aO];rfl
   ·rw[range_succ,aL,aw,ag,bc,Nat.min_eq_left (bC H)];rfl)
  (λb a C ⟨_,f2,_⟩=>by
   subst f2;exact(Jf (Ext.at ⟨_,rfl⟩ E)).trans (by rw[aE (by simp[k])])) ⟨⟨none,rfl⟩,by simp,by simp⟩
 rw[kS e,g2,g3,bq];simp
def LL.mono (x:Ext A B)(h:LL t r A):LL t r B:=by
 obtain⟨ks,e,k,H⟩:=h;exact⟨ks,x.at e,k,λi hi=>x.at (H i hi)⟩
def Nu (U:1<=t.length)(E:t.length<=8)(C:Sq t)(q:∀v∈t.flatten,0<=v/\v<8)(L:LL t r A):∃B,JB [.ref r] A=.ok (zx (kh t)) B/\Ext A B:=by
 have T:t.flatten.length<=64:=by
  have:∀l:bT,(∀r∈l,r.length<=8)->l.flatten.length<=8 * l.length:=by
   intro l
   induction l with
   |nil=>intro _;simp|cons r l P=>
    intro e;have U:=e r (au ..);have Y:=P λM s=>e M (aq _ s);rw[aY,aw,bj];omega
  have:=this t λr e=>by rw[C r e];exact E
  omega
 unfold JB Va;unfold RN;have K:=Dc (ρ:=[some (.ref r),none]) (i:=0) E L rfl;have x1:Ext A (A++(t.map λr=>O.lst (r.map W.int))++[O.lst ((List.range t.length).map λi=>W.ref (A.length+i))]):=⟨(t.map λr=>O.lst (r.map W.int))++[O.lst ((List.range t.length).map λi=>W.ref (A.length+i))],by rw[aO]⟩
 have a:∀i,i<t.length->_:=λi hi=>O0 (B:=A) (t:=t) (i:=i) hi;have H:=OX (B:=A) (t:=t);generalize A++(t.map λr=>O.lst (r.map W.int))++[O.lst ((List.range t.length).map λi=>W.ref (A.length+i))]=b at K x1 a H;have J:zj QA (qu (zW 1 [] (qe zm) (zH 0) qh (zQ (qu (qg zm))))) (zX zl) [some (.ref r),none] A=.ok (.ref (b.length+1)) (b++[.lst []]++[.lst (t.flatten.map W.int)]):=by
  refine(zT K (j0 zY)).trans ?_;have n:=P2 (A:=b++[.lst []]) (kws:=(List.range t.length).map λi=>(A.length+i,(t.getD i []).map W.int)) (λp Q=>by
   obtain⟨i,hi,rfl⟩:=cy.mp Q;exact jT (a i (cz.mp hi)))
  rw[aP,aP]at n;have y:((λp:Nat×List W=>W.ref p.1) ∘ λi=>(A.length+i,(t.getD i []).map W.int))=λi=>W.ref (A.length+i):=rfl;have x:((λp:Nat×List W=>p.2) ∘ λi=>(A.length+i,(t.getD i []).map W.int))=λi=>(t.getD i []).map W.int:=rfl;rw[y,x,<- Kk t [] λr=>r.map W.int]at n;have hf:(t.map λr=>r.map W.int).flatten=t.flatten.map W.int:=by rw[List.map_flatten]
  unfold QA;dsimp only;rw[jT H,qJ];dsimp only;rw[n];dsimp only;rw[ah ⟨λz=>(by have:=congrArg List.length z;rw[ag,aV]at this;exact absurd this (by rw[length_nil];omega)),by rw[hf,ag];unfold qf;omega⟩,hf]
  simp
 have x2:Ext A (b++[.lst []]++[.lst (t.flatten.map W.int)]):=x1.app.app;have f:(b++[.lst []]++[.lst (t.flatten.map W.int)])[b.length+1]? =some (.lst (t.flatten.map W.int)):=by
  have:b.length+1=(b++[O.lst []]).length:=by simp
  rw[this,qJ]
 generalize b++[.lst []]++[.lst (t.flatten.map W.int)]=c at J x2 f;have I:Gf (zj QA (qu (zW 1 [] (qe zm) (zH 0) qh (zQ (qu (qg zm))))) (zX zl)) [some (.ref r),none] A=.ok (.ref c.length) (c++[.lst (((dist t).map λ(i:Nat)=>(i:Int)).map W.int)]):=by
  unfold Gf;rw[J,zL];unfold VV;dsimp only;rw[f];dsimp only;rw[Yw];dsimp only;rw[VC q];dsimp only
  have:((List.range 8).filter λi=>decide (i∈t.flatten.map Int.toNat))=dist t:=by
   unfold dist
   apply List.filter_congr
   intro i _;rw[decide_eq_decide]
   constructor
   ·intro z
    obtain⟨v,h,rfl⟩:=cy.mp z;rw[bM (q v h).1];exact h
   ·intro z
    exact cy.mpr ⟨_,z,rfl⟩
  rw[this,aP]
  rfl
 have x3:=x2.app (l:=[.lst (((dist t).map λ(i:Nat)=>(i:Int)).map W.int)]);have d:(c++[.lst (((dist t).map λ(i:Nat)=>(i:Int)).map W.int)])[c.length]? =some (.lst (((dist t).map λ(i:Nat)=>(i:Int)).map W.int)):=qJ;generalize c++[.lst (((dist t).map λ(i:Nat)=>(i:Int)).map W.int)]=k at I x3 d;obtain⟨ks,k0,D,e⟩:=LL.mono x3 L;refine⟨k,qT ((zN ((qW I).trans rfl)).trans (qA (qZ ?_))),x3⟩;have idx:∀v,v∈t.flatten->ZP (.ref c.length) (.int v) k=.ok (.int (gN t v)) k:=λv h=>by
  obtain⟨u,rfl⟩:=bo (q v h).1;have hm:u∈dist t:=KC.mpr ⟨by have:=q _ h;omega,h⟩
  unfold ZP;rw[K6 d];show(match Z0 (λz=>PyData.eqv z (.int (u:Int))) (((dist t).map λ(i:Nat)=>(i:Int)).map PyData.int) with|some j=>if j<1000000 then R.ok (W.int (j:Int)) k else .bad|none=>.bad)=_
  have:((dist t).map λ(i:Nat)=>(i:Int)).map PyData.int=(dist t).map λ(i:Nat)=>PyData.int (i:Int):=by rw[aP];rfl
  rw[this,O6 u hm];dsimp only;have n:(dist t).idxOf u<(dist t).length:=List.idxOf_lt_length_of_mem hm;have S:(dist t).length<=8:=by unfold dist;exact bb (bB _ _) (by simp)
  rw[ah (by omega)]
  rfl
 have X:=JF (cap:=[1]) (me:=mQ wO (zW 1 [1] (qe zm) (zH 0) qh (zQ (jU ZP zw zm)))) (ρ:=[some (.ref r),some (.ref c.length)]) (A:=k) (N:=t.length) (item:=λi=>.ref (ks.getD i 0)) (g:=λi=>zy ((t.getD i []).map (gN t))) (KW (zp (i:=0) rfl) k0) (by simp[D]) (by unfold qf;omega)
  (λj o=>(Jf k0).trans (by rw[ax,ae,aa (by omega)];rfl)) ((Jf k0).trans (by rw[aE (by simp[D])]))
  (λj o=>by
   have:=VR (cap:=[1]) (m:=qj 0) (me:=jU ZP zw zm) (ρ:=[some (.ref (ks.getD j 0)),some (.ref c.length)]) (g:=LK (gN t)) (zp rfl) (e j o) (by rw[ag,C _ (wJ o)];unfold qf;omega) (λw hw=>by
    obtain⟨v,h,rfl⟩:=cy.mp hw;exact(Q4 (g:=ZP) (zp rfl) d (zp (i:=0) rfl)).trans (idx v (List.mem_flatten.mpr ⟨_,wJ o,h⟩)))
   rw[Ae]at this;exact YR this)
 refine(YR X).trans ?_;unfold zx kh;rw[aP,Kk t [] (zy ∘ λr=>r.map (gN t))]
 rfl
def Dr (Q:1<=t.length)(P:t.length<=8)(o:Sq t)(dg:∀a b,a<t.length->b<t.length->(at2 t a b=0↔a=b))(sy:∀a b,a<t.length->b<t.length->at2 t a b=at2 t b a)
  (lo:∀a b,a<t.length->b<t.length->0<=at2 t a b/\at2 t a b<(t.length:Int)):qp (kh t):=by
 have w:∀v∈t.flatten,0<=v/\v<(t.length:Int):=λv n=>by
  obtain⟨a,b,f,w,rfl⟩:=JK o n;exact lo a b f w
 have hlen:(kh t).length=t.length:=by unfold kh;rw[ag]
 have q:∀r∈kh t,r.length=t.length:=λr g=>by
  obtain⟨s,E,rfl⟩:=cy.mp g;rw[ag];exact o s E
 have j:∀a b,a<t.length->b<t.length->at2 (kh t) a b=gN t (at2 t a b):=λa b f w=>by
  have z:=o _ (wJ f);unfold at2 kh;rw[ae (l:=t.map _),ax,aa f];have e:t.getD a []=t[a]:=by rw[ae,aa f];rfl
  rw[e]at z ⊢;show(t[a].map (gN t)).getD b 0=_;rw[ae,ax,ae,aa (by omega)]
  rfl
 have mem:∀a b,a<t.length->b<t.length->(at2 t a b).toNat∈dist t:=λa b f H=>by
  obtain⟨_,_,_,x⟩:=Gz o f H
  have:=w _ x
  rw[KC,bM this.1];exact⟨by omega,x⟩
 have nd:=F6 t;have dl:(dist t).length<=t.length:=by
  have:=GR t.length ((dist t).map λ(i:Nat)=>(i:Int)) (by
   rw[List.nodup_iff_pairwise_ne,bH];exact nd.imp λh=>by omega) (λr g=>by
   obtain⟨i,hi,rfl⟩:=cy.mp g
   have:=w _ (KC.mp hi).2
   exact this)
  rw[ag]at this;exact this
 have Z:(0:Nat)∈dist t:=by
  have:=mem 0 0 (by omega) (by omega)
  rw[(dg 0 0 (by omega) (by omega)).mpr rfl]at this
  exact this
 have M:∃l,dist t=0::l:=by
  have g:List.range 8=0::[1,2,3,4,5,6,7]:=by decide
  have D:=(KC.mp Z).2;refine⟨[1,2,3,4,5,6,7].filter λi=>decide ((i:Int)∈t.flatten),?_⟩;unfold dist;rw[g,bG (by exact az D)]
 obtain⟨N,u⟩:=M;have y:∀a b,a<t.length->b<t.length->0<=gN t (at2 t a b)/\gN t (at2 t a b)<(t.length:Int):=λa b f H=>by
  have:=List.idxOf_lt_length_of_mem (mem a b f H)
  unfold gN;omega
 refine⟨by omega,by omega,λr g=>by rw[hlen];exact q r g,λr g v n=>?_,λa b f H=>?_,λa b f H=>?_,λk C=>?_⟩
 ·have:v∈(kh t).flatten:=List.mem_flatten.mpr ⟨r,g,n⟩
  obtain⟨a,b,f,H,e⟩:=JK (λr g=>by rw[hlen];exact q r g) this
  rw[hlen]at f H ⊢;rw[<- e,j a b f H];exact y a b f H
 ·rw[hlen]at f H
  rw[j a b f H,<- dg a b f H];unfold gN;have m:=mem a b f H;have n:=lo a b f H
  constructor
  ·intro e
   have L:(dist t).idxOf (at2 t a b).toNat=0:=by omega
   have A:=List.idxOf_lt_length_of_mem m
   have:=List.getElem_idxOf A
   have h0:(dist t)[(dist t).idxOf (at2 t a b).toNat]? =some (at2 t a b).toNat:=by rw[aa A,this]
   rw[L,u]at h0;simp at h0;omega
  ·intro e
   rw[e,u];simp
 ·rw[hlen]at f H
  rw[j a b f H,j b a H f,sy a b f H]
 ·obtain⟨v,n,C⟩:=C
  obtain⟨a,b,f,H,e⟩:=JK (λr g=>by rw[hlen];exact q r g) n
  rw[hlen]at f H;rw[j a b f H]at e;have A:=List.idxOf_lt_length_of_mem (mem a b f H);have p:k<(dist t).length:=by unfold gN at e;omega
  have hd:=KC.mp (aM p);obtain⟨c,d,I,B,K⟩:=JK o hd.2;have J:at2 (kh t) c d=(k:Int):=by
   rw[j c d I B,K];unfold gN;rw[aK,nd.idxOf_getElem k p]
  obtain⟨_,_,_,x⟩:=Gz (t:=kh t) (λr g=>by rw[hlen];exact q r g) (by omega:c<(kh t).length) (by omega:d<(kh t).length)
  rw[J]at x;exact x
end
noncomputable def wB:Nat->List (bU)
 |0=>[[0,1,2,3,4,3,2,1],[1,0,1,2,3,4,3,2],[2,1,0,1,2,3,4,3],[3,2,1,0,1,2,3,4],[4,3,2,1,0,1,2,3],[3,4,3,2,1,0,1,2],[2,3,4,3,2,1,0,1],[1,2,3,4,3,2,1,0]]|1=>[[0,1,2,3,3,2,1],[1,0,1,2,3,3,2],[2,1,0,1,2,3,3],[3,2,1,0,1,2,3],[3,3,2,1,0,1,2],[2,3,3,2,1,0,1],[1,2,3,3,2,1,0]]|2=>[[0,1,2,3,2,1],[1,0,1,2,3,2],[2,1,0,1,2,3],[3,2,1,0,1,2],[2,3,2,1,0,1],[1,2,3,2,1,0]]|3=>[[0,1,2,2,1],[1,0,1,2,2],[2,1,0,1,2],[2,2,1,0,1],[1,2,2,1,0]]|4=>[[0,1,2,1],[1,0,1,2],[2,1,0,1],[1,2,1,0]]|5=>[[0,1,1],[1,0,1],[1,1,0]]|6=>[[0,1],[1,0]]|7=>[[0]]|8=>[[0,1,1,2,1,2,2,3],[1,0,2,1,2,1,3,2],[1,2,0,1,2,3,1,2],[2,1,1,0,3,2,2,1],[1,2,2,3,0,1,1,2],[2,1,3,2,1,0,2,1],[2,3,1,2,1,2,0,1],[3,2,2,1,2,1,1,0]]|9=>[[0,1,1,2],[1,0,2,1],[1,2,0,1],[2,1,1,0]]|10=>[[0,1],[1,0]]|11=>[[0,1,1,1,1,1,1,1],[1,0,1,1,1,1,1,1],[1,1,0,1,1,1,1,1],[1,1,1,0,1,1,1,1],[1,1,1,1,0,1,1,1],[1,1,1,1,1,0,1,1],[1,1,1,1,1,1,0,1],[1,1,1,1,1,1,1,0]]|12=>[[0,1,1,1,1,1,1],[1,0,1,1,1,1,1],[1,1,0,1,1,1,1],[1,1,1,0,1,1,1],[1,1,1,1,0,1,1],[1,1,1,1,1,0,1],[1,1,1,1,1,1,0]]|13=>[[0,1,1,1,1,1],[1,0,1,1,1,1],[1,1,0,1,1,1],[1,1,1,0,1,1],[1,1,1,1,0,1],[1,1,1,1,1,0]]|14=>[[0,1,1,1,1],[1,0,1,1,1],[1,1,0,1,1],[1,1,1,0,1],[1,1,1,1,0]]|15=>[[0,1,1,1],[1,0,1,1],[1,1,0,1],[1,1,1,0]]|16=>[[0,1,1],[1,0,1],[1,1,0]]|17=>[[0,1],[1,0]]|18=>[[0]]|19=>[[0,1,2,2,2,2,2,2],[1,0,2,2,2,2,2,2],[2,2,0,1,2,2,2,2],[2,2,1,0,2,2,2,2],[2,2,2,2,0,1,2,2],[2,2,2,2,1,0,2,2],[2,2,2,2,2,2,0,1],[2,2,2,2,2,2,1,0]]|20=>[[0,1,1,1,2,2,2,2],[1,0,1,1,2,2,2,2],[1,1,0,1,2,2,2,2],[1,1,1,0,2,2,2,2],[2,2,2,2,0,1,1,1],[2,2,2,2,1,0,1,1],[2,2,2,2,1,1,0,1],[2,2,2,2,1,1,1,0]]|21=>[[0,1,2,2,2,2],[1,0,2,2,2,2],[2,2,0,1,2,2],[2,2,1,0,2,2],[2,2,2,2,0,1],[2,2,2,2,1,0]]|22=>[[0,1,1,2,2,2],[1,0,1,2,2,2],[1,1,0,2,2,2],[2,2,2,0,1,1],[2,2,2,1,0,1],[2,2,2,1,1,0]]|23=>[[0,1,2,2],[1,0,2,2],[2,2,0,1],[2,2,1,0]]|24=>[[0,1,1,1,1,2],[1,0,1,1,2,1],[1,1,0,2,1,1],[1,1,2,0,1,1],[1,2,1,1,0,1],[2,1,1,1,1,0]]|25=>[[0,1,2,3],[1,0,3,2],[2,3,0,1],[3,2,1,0]]|26=>[[0,1,2,3,4,5,6,7],[1,0,3,2,5,4,7,6],[2,3,0,1,6,7,4,5],[3,2,1,0,7,6,5,4],[4,5,6,7,0,1,2,3],[5,4,7,6,1,0,3,2],[6,7,4,5,2,3,0,1],[7,6,5,4,3,2,1,0]]|27=>[[0,1],[1,0]]|28=>[[0,1,2,1,3,4,5,4],[1,0,1,2,4,3,4,5],[2,1,0,1,5,4,3,4],[1,2,1,0,4,5,4,3],[3,4,5,4,0,1,2,1],[4,3,4,5,1,0,1,2],[5,4,3,4,2,1,0,1],[4,5,4,3,1,2,1,0]]|29=>[[0,1,1,3,4,4],[1,0,1,4,3,4],[1,1,0,4,4,3],[3,4,4,0,1,1],[4,3,4,1,0,1],[4,4,3,1,1,0]]|30=>[[0,1,3,4],[1,0,4,3],[3,4,0,1],[4,3,1,0]]|31=>[[0,1,2,1,3,3,3,3],[1,0,1,2,3,3,3,3],[2,1,0,1,3,3,3,3],[1,2,1,0,3,3,3,3],[3,3,3,3,0,1,2,1],[3,3,3,3,1,0,1,2],[3,3,3,3,2,1,0,1],[3,3,3,3,1,2,1,0]]|32=>[[0,1,1,3,3,3],[1,0,1,3,3,3],[1,1,0,3,3,3],[3,3,3,0,1,1],[3,3,3,1,0,1],[3,3,3,1,1,0]]|33=>[[0,1,3,3],[1,0,3,3],[3,3,0,1],[3,3,1,0]]|_=>[]
def hX:((List.range 34).all λi=>TV (kh (wB i))&&((wB i).all λr=>r.length==(wB i).length)&&((wB i).flatten.all λv=>decide (0<=v)&&decide (v<8)))=true:=by decide +kernel
def Ao (h:i<34):qp (kh (wB i))/\G.Sq (wB i)/\∀v∈(wB i).flatten,0<=v/\v<8:=by
 have:=cB.mp hX i (cz.mpr h)
 rw[ak,ak]at this;refine⟨AD this.1.1,λr a=>?_,λv H=>?_⟩
 ·exact eq_of_beq (cB.mp this.1.2 r a)
 ·have:=cB.mp this.2 v H
  rw[ak,ai,ai]at this;exact this
theorem O7:∀{us:List W}{w:List (List W)},gZ A us=some w->∃ks:bY,us=ks.map W.ref/\ks.length=w.length/\∀i,i<w.length->A[ks.getD i 0]? =some (.lst (w.getD i []))
 |[],w,e=>by
  cases e;exact⟨[],rfl,rfl,λi hi=>by cases hi⟩
 |.ref k::us,w,e=>by
  unfold gZ at e;cases h:A[k]? with
  |none=>rw[h]at e;cases e|some o=>
   rw[h]at e;cases o with
   |lst ws=>
    dsimp only at e;cases H:gZ A us with
    |none=>rw[H]at e;cases e|some v=>
     rw[H]at e;cases e;obtain⟨ks,rfl,l,a⟩:=O7 H;refine⟨k::ks,rfl,by simp[l],λi hi=>?_⟩
     cases i with
     |zero=>exact h|succ i=>exact a i (by simpa using hi)
   |_=>cases e
 |.non::_,_,e=>by cases e|.bl _::_,_,e=>by cases e|.int _::_,_,e=>by cases e|.str _::_,_,e=>by cases e|.tup _::_,_,e=>by cases e|.clo _ _ _::_,_,e=>by cases e|.xc _::_,_,e=>by cases e
def TH (x:R Fl):Option (Option O×Option (List (List W))):=match x with
 |.ok (.rt (.ref r)) B=>some (B[0]?,match B[r]? with
  |some (.lst us)=>gZ B us|_=>none)
 |_=>none
def Az {x:R Fl}(h:TH x=some (some o,some (t.map λr=>r.map W.int))):∃r B,x=.ok (.rt (.ref r)) B/\B[0]? =some o/\LL t r B:=by
 unfold TH at h
 split at h
 ·rename_i r B
  injection h with h
  injection h with b H
  cases a:B[r]? with
  |none=>rw[a]at H;cases H|some o'=>
   rw[a]at H;cases o' with
   |lst us=>
    dsimp only at H;obtain⟨ks,rfl,l,k⟩:=O7 H;rw[ag]at l k;refine⟨r,B,rfl,b,ks,a,l,λi hi=>(k i hi).trans ?_⟩;rw[ae,ax,ae,aa hi]
    rfl
   |_=>cases H
 ·cases h
def Plain (X:Ex)(ρ:En)(A:Hx):Prop:=∃i,i<34/\∃r B,X ρ A=.ok (.rt (.ref r)) B/\jb 0 B/\LL (wB i) r B
section
variable {m1 m2:Ex}{ρ1:En}{L:Hx}{c:Ev}
def g9 (h:m1 ρ A=.ok (.nx ρ1) A1)(q:Plain m2 ρ1 A1):Plain (zo m1 m2) ρ A:=by
 unfold Plain;rw[zN h];exact q
def YV (q:Plain m1 ρ A):Plain (zo m1 m2) ρ A:=by
 obtain⟨i,hi,r,B,e,s,l⟩:=q;exact⟨i,hi,r,B,qA e,s,l⟩
def Y1 (h:c ρ A=.ok (.bl true) A1)(q:Plain m1 ρ A1):Plain (qP c m1 m2) ρ A:=by
 unfold Plain;rw[kJ h];exact q
def yr {m:Ex}(h:c ρ A=.ok (.bl false) A)(q:Plain m ρ A):Plain (zo (qP c m1 zC) m) ρ A:=g9 ((j7 h).trans jK) q
def hZ {l:Hx}(s:jb 0 (o::L)):jb 0 (o::l):=s
def jL (i:Nat)(hi:i<34)(s:jb 0 (o::L))(h:TH (m1 ρ A)=some (some o,some ((wB i).map λr=>r.map W.int))):Plain m1 ρ A:=by
 obtain⟨r,B,e,h0,l⟩:=Az h;obtain⟨c,b,a,q⟩:=s;have E:some o=some (O.lst [.int c,.bl b]):=a;exact⟨i,hi,r,B,e,⟨c,b,by rw[h0];exact E,q⟩,l⟩
def take1 (s:jb 0 (o::L)){m:Int}(H:0<m)(h:m<1000000000000000):∃(r:Nat) (o':O),jQ [.ref 0,.int m] (o::L)=.ok (.int (r:Int)) (o'::L)/\(r:Int)<m/\jb 0 (o'::L):=by
 obtain⟨r,o',e,a,b,s'⟩:=Mw s H h;exact⟨r.toNat,o',by rw[e,bM a];rfl,by omega,s'⟩
def Yy {a:Ea}{vs:List W}(s:jb 0 (o::L))(h0:ρ[0]? =some (some (.ref 0)))(b:∀A,a ρ A=.ok vs A)(d:vs.length=k)(k1:0<k)(k2:k<1000):∃(j:Nat) (w:W) (o':O),zj zJ (zX a) (zA jQ (zc zm (zc (zU (.int (k:Int))) zl))) ρ (o::L)=.ok w (o'::(L++[.lst vs]))/\j<k/\vs[j]? =some w/\jb 0 (o'::(L++[.lst vs])):=by
 obtain⟨r,o',e,c,s'⟩:=take1 (L:=L++[.lst vs]) (m:=(k:Int)) (hZ s) (by omega) (by omega)
 have h:r<vs.length:=by omega
 refine⟨r,vs[r],o',?_,by omega,aa h,s'⟩
 refine(zT (j0 (b _)) ((qb (zF (zp h0) (zF qy zY))).trans e)).trans ?_;have H:(o'::(L++[O.lst vs]))[(o::L).length]? =some (.lst vs):=by
  show(L++[O.lst vs])[L.length]? =_;exact qJ
 exact gz H (aa h)
end
def three (h:j<3):j=0∨j=1∨j=2:=by omega
def TJ (h:j<5):j=0∨j=1∨j=2∨j=3∨j=4:=by omega
def Tv (h:j<8):j=0∨j=1∨j=2∨j=3∨j=4∨j=5∨j=6∨j=7:=by omega
def Ac (s:jb 0 [o]):Plain (Vg jQ) [some (.ref 0),none,none,none,none,none,none,none,none,none,none] [o]:=by
 unfold Vg;obtain⟨way,p,n,hw,s1⟩:=take1 s (m:=8) (by decide) (by decide)
 refine g9 (ρ1:=[some (.ref 0),some (.int (way:Int)),none,none,none,none,none,none,none,none,none]) (A1:=[p]) ((qW ((qb (ws:=[.ref 0,.int 8]) (A1:=[o]) rfl).trans n)).trans rfl) ?_;obtain⟨j,w,c,E,l,f,s2⟩:=Yy (k:=8) (ρ:=[some (.ref 0),some (.int (way:Int)),none,none,none,none,none,none,none,none,none]) (a:=zc ZC (zc Ws (zc Ye (zc Xp (zc kW (zc jz (zc qK (zc zI zl)))))))) (vs:=[.int 8,.int 7,.int 6,.int 5,.int 4,.int 3,.int 2,.int 1]) s1 rfl (λ_=>rfl) rfl (by decide) (by decide)
 refine g9 (ρ1:=[some (.ref 0),some (.int (way:Int)),some w,none,none,none,none,none,none,none,none]) (A1:=[c,.lst [.int 8,.int 7,.int 6,.int 5,.int 4,.int 3,.int 2,.int 1]]) ((qW E).trans rfl) ?_;have y:way<8:=by omega
 clear n E hw s s1;rcases Tv y with rfl|rfl|rfl|rfl|rfl|rfl|rfl|rfl
 ·refine YV (Y1 (A1:=[c,.lst [.int 8,.int 7,.int 6,.int 5,.int 4,.int 3,.int 2,.int 1]]) (by kernel_rfl) ?_)
  rcases Tv l with rfl|rfl|rfl|rfl|rfl|rfl|rfl|rfl<;>cases f
  ·exact jL 0 (by decide) s2 (by kernel_rfl)
  ·exact jL 1 (by decide) s2 (by kernel_rfl)
  ·exact jL 2 (by decide) s2 (by kernel_rfl)
  ·exact jL 3 (by decide) s2 (by kernel_rfl)
  ·exact jL 4 (by decide) s2 (by kernel_rfl)
  ·exact jL 5 (by decide) s2 (by kernel_rfl)
  ·exact jL 6 (by decide) s2 (by kernel_rfl)
  ·exact jL 7 (by decide) s2 (by kernel_rfl)
 ·refine yr (by kernel_rfl) (YV (Y1 (A1:=[c,.lst [.int 8,.int 7,.int 6,.int 5,.int 4,.int 3,.int 2,.int 1]]) (by kernel_rfl) ?_))
  obtain⟨J,g,i,e,b,H,s3⟩:=Yy (k:=3) (ρ:=[some (.ref 0),some (.int ((1:Nat):Int)),some w,none,none,none,none,none,none,none,none]) (a:=zc ZC (zc kW (zc qK zl))) (vs:=[.int 8,.int 4,.int 2]) s2 rfl (λ_=>rfl) rfl (by decide) (by decide)
  refine g9 ((qW e).trans rfl) ?_;rcases three b with rfl|rfl|rfl<;>cases H
  ·exact jL 8 (by decide) s3 (by kernel_rfl)
  ·exact jL 9 (by decide) s3 (by kernel_rfl)
  ·exact jL 10 (by decide) s3 (by kernel_rfl)
 ·refine yr (by kernel_rfl) (yr (by kernel_rfl) (YV (Y1 (A1:=[c,.lst [.int 8,.int 7,.int 6,.int 5,.int 4,.int 3,.int 2,.int 1]]) (by kernel_rfl) ?_)))
  rcases Tv l with rfl|rfl|rfl|rfl|rfl|rfl|rfl|rfl<;>cases f
  ·exact jL 11 (by decide) s2 (by kernel_rfl)
  ·exact jL 12 (by decide) s2 (by kernel_rfl)
  ·exact jL 13 (by decide) s2 (by kernel_rfl)
  ·exact jL 14 (by decide) s2 (by kernel_rfl)
  ·exact jL 15 (by decide) s2 (by kernel_rfl)
  ·exact jL 16 (by decide) s2 (by kernel_rfl)
  ·exact jL 17 (by decide) s2 (by kernel_rfl)
  ·exact jL 18 (by decide) s2 (by kernel_rfl)
 ·refine yr (by kernel_rfl) (yr (by kernel_rfl) (yr (by kernel_rfl) (YV (Y1 (A1:=[c,.lst [.int 8,.int 7,.int 6,.int 5,.int 4,.int 3,.int 2,.int 1]]) (by kernel_rfl) ?_))))
  obtain⟨J,g,i,e,b,H,s3⟩:=Yy (k:=5) (ρ:=[some (.ref 0),some (.int ((3:Nat):Int)),some w,none,none,none,none,none,none,none,none]) (a:=zc (zG (zc qK (zc kW zl))) (zc (zG (zc kW (zc qK zl))) (zc (zG (zc qK (zc jz zl))) (zc (zG (zc jz (zc qK zl))) (zc (zG (zc qK (zc qK zl))) zl))))) (vs:=[.tup [.int 2,.int 4],.tup [.int 4,.int 2],.tup [.int 2,.int 3],.tup [.int 3,.int 2],.tup [.int 2,.int 2]]) s2 rfl (λ_=>rfl) rfl (by decide) (by decide)
  have asg:∀{m:Ev}{tw:Tg}{ρ d:En}{A A1:Hx}{w:W},m ρ A=.ok w A1->tw w ρ=some d->Jq m tw ρ A=.ok (.nx d) A1:=λh h'=>by
   unfold Jq;rw[h,zL,h']
  rcases TJ b with rfl|rfl|rfl|rfl|rfl<;>cases H
  ·exact g9 (asg e rfl) (jL 19 (by decide) s3 (by kernel_rfl))
  ·exact g9 (asg e rfl) (jL 20 (by decide) s3 (by kernel_rfl))
  ·exact g9 (asg e rfl) (jL 21 (by decide) s3 (by kernel_rfl))
  ·exact g9 (asg e rfl) (jL 22 (by decide) s3 (by kernel_rfl))
  ·exact g9 (asg e rfl) (jL 23 (by decide) s3 (by kernel_rfl))
 ·exact yr (by kernel_rfl) (yr (by kernel_rfl) (yr (by kernel_rfl) (yr (by kernel_rfl) (YV (Y1 (A1:=[c,.lst [.int 8,.int 7,.int 6,.int 5,.int 4,.int 3,.int 2,.int 1]]) (by kernel_rfl) (jL 24 (by decide) s2 (by kernel_rfl)))))))
 ·refine yr (by kernel_rfl) (yr (by kernel_rfl) (yr (by kernel_rfl) (yr (by kernel_rfl) (yr (by kernel_rfl) (YV (Y1 (A1:=[c,.lst [.int 8,.int 7,.int 6,.int 5,.int 4,.int 3,.int 2,.int 1]]) (by kernel_rfl) ?_))))))
  obtain⟨J,g,i,e,b,H,s3⟩:=Yy (k:=3) (ρ:=[some (.ref 0),some (.int ((5:Nat):Int)),some w,none,none,none,none,none,none,none,none]) (a:=zc kW (zc ZC (zc qK zl))) (vs:=[.int 4,.int 8,.int 2]) s2 rfl (λ_=>rfl) rfl (by decide) (by decide)
  refine g9 ((qW e).trans rfl) ?_;rcases three b with rfl|rfl|rfl<;>cases H
  ·exact jL 25 (by decide) s3 (by kernel_rfl)
  ·exact jL 26 (by decide) s3 (by kernel_rfl)
  ·exact jL 27 (by decide) s3 (by kernel_rfl)
 ·refine yr (by kernel_rfl) (yr (by kernel_rfl) (yr (by kernel_rfl) (yr (by kernel_rfl) (yr (by kernel_rfl) (yr (by kernel_rfl) ?_)))))
  obtain⟨J,g,i,e,b,H,s3⟩:=Yy (k:=3) (ρ:=[some (.ref 0),some (.int ((6:Nat):Int)),some w,none,none,none,none,none,none,none,none]) (a:=zc kW (zc jz (zc qK zl))) (vs:=[.int 4,.int 3,.int 2]) s2 rfl (λ_=>rfl) rfl (by decide) (by decide)
  refine g9 ((qW e).trans rfl) ?_;rcases three b with rfl|rfl|rfl<;>cases H
  ·exact jL 28 (by decide) s3 (by kernel_rfl)
  ·exact jL 29 (by decide) s3 (by kernel_rfl)
  ·exact jL 30 (by decide) s3 (by kernel_rfl)
 ·refine yr (by kernel_rfl) (yr (by kernel_rfl) (yr (by kernel_rfl) (yr (by kernel_rfl) (yr (by kernel_rfl) (yr (by kernel_rfl) ?_)))))
  obtain⟨J,g,i,e,b,H,s3⟩:=Yy (k:=3) (ρ:=[some (.ref 0),some (.int ((7:Nat):Int)),some w,none,none,none,none,none,none,none,none]) (a:=zc kW (zc jz (zc qK zl))) (vs:=[.int 4,.int 3,.int 2]) s2 rfl (λ_=>rfl) rfl (by decide) (by decide)
  refine g9 ((qW e).trans rfl) ?_;rcases three b with rfl|rfl|rfl<;>cases H
  ·exact jL 31 (by decide) s3 (by kernel_rfl)
  ·exact jL 32 (by decide) s3 (by kernel_rfl)
  ·exact jL 33 (by decide) s3 (by kernel_rfl)
def BN (s:jb 0 [o]):∃i,i<34/\∃r B,WO [.ref 0] [o]=.ok (.ref r) B/\jb 0 B/\LL (wB i) r B:=by
 obtain⟨i,hi,r,B,e,q⟩:=Ac s;refine⟨i,hi,r,B,?_,q⟩;unfold WO Vc;exact qT e
noncomputable def Si (g:Nat->W):W->W
 |.int v=>g v.toNat|w=>w
def O4 (g:Nat->W)(o:bY):((o.map λ(a:Nat)=>(a:Int)).map W.int).map (Si g)=o.map g:=by
 rw[aP,aP]
 apply bw
 intro a _;show g (Int.toNat (a:Int))=g a;rw[aK]
def OC {fd:bU}{M:Nat}{s:Int}(h:fd.Perm ((List.range M).map λ(k:Nat)=>s+(k:Int))):∃p:bY,fd=p.map (λ(k:Nat)=>s+(k:Int))/\p.Perm (List.range M):=by
 refine⟨fd.map λv=>(v-s).toNat,?_,?_⟩
 ·rw[aP]
  conv=>lhs;rw[<- map_id fd]
  apply bw
  intro v H;obtain⟨k,_,rfl⟩:=cy.mp (h.mem_iff.mp H);show s+(k:Int)=s+(((s+(k:Int)-s).toNat:Nat):Int);omega
 ·have:=h.map λv=>(v-s).toNat
  rw[aP]at this;have e:(List.range M).map ((λv:Int=>(v-s).toNat) ∘ λ(k:Nat)=>s+(k:Int))=List.range M:=by
   conv=>rhs;rw[<- map_id (List.range M)]
   apply bw
   intro k _;show(s+(k:Int)-s).toNat=k;omega
  rw[e]at this;exact this
section
def Ur (h:qp t)(hi:ρ[i]? =some (some (zx t))):mQ yC (zW 1 [] (qe (qj i)) (zH 0) qh (zQ (mQ yC (qg zm)))) ρ A=.ok (.int (jg t-1)) A:=by
 have n8:=h.n8;have e:=CL (cap:=[]) (A:=A) (ρ:=ρ) (o:=t) (f:=zy) (m:=qj i) (me:=mQ yC (qg zm)) (G:=λr=>.int (gi r)) (zp hi) (by unfold qf;omega) (λr H=>(yq (kG (w:=zy r) (ws:=r.map W.int) (A1:=A) (zp rfl) rfl)).trans (Ux (h.row_ne H)))
 have em:(t.map λr=>W.int (gi r))=(t.map gi).map W.int:=by rw[aP];rfl
 rw[em]at e;refine((yq e).trans (Ux h.map_ne)).trans ?_
 have:jg t-1=gi (t.map gi):=by unfold jg;omega
 rw[this]
def Eo {ma mb:Ev}{M:Nat}(H:ma ρ A=.ok (.int 1) A)(h:mb ρ A=.ok (.int (1+(M:Int))) A)(a:M<=100):KS ma mb ρ A=.ok (.ref A.length) (A++[.lst (((List.range M).map λ(k:Nat)=>1+(k:Int)).map W.int)]):=by
 unfold KS;rw[H,zL,h,zL];dsimp only;have e:(1+(M:Int)-1).toNat=M:=by omega
 rw[ah (by
  have s1:jD 1=true:=by decide
  have s2:jD (1+(M:Int))=true:=by unfold jD;simp;omega
  rw[s1,s2,e,az (by unfold qf;omega)];rfl),e,aP]
 rfl
def Known (t:bT):Prop:=∃i p o,i<34/\p.Perm (List.range (jg (kh (wB i))-1).toNat)/\o.Perm (List.range (kh (wB i)).length)/\t=Jh (kh (wB i)) p o
def BQ (s:jb 0 [o]):∃t B,WN [.ref 0] [o]=.ok (zx t) B/\jb 0 B/\qp t/\Known t:=by
 obtain⟨i,hi,r,B0,e0,s0,X⟩:=BN s;obtain⟨tt,sq,q⟩:=Ao hi;have hlen:(kh (wB i)).length=(wB i).length:=by unfold kh;rw[ag]
 have m1:=tt.n1;have m8:=tt.n8;obtain⟨B1,e1,x1⟩:=Nu (by omega) (by omega) sq q X
 have s1:=s0.ext x1;generalize J:kh (wB i)=u at*;clear hlen X;have n1:=tt.n1;have n8:=tt.n8;have kb:=Jk tt;obtain⟨M,hM⟩:=bo (show 0<=jg u-1 by omega)
 have el:=Ta (ws:=u.map zy) (ρ:=[some (.ref 0),some (zx u),none,none]) (i:=1) (A:=B1) rfl;rw[ag]at el;have e2:=E7 el (by omega)
 have Q:iL (List.range u.length)=((List.range u.length).map λ(a:Nat)=>0+(a:Int)).map W.int:=by
  rw[aP]
  apply bw
  intro a _;show W.int (a:Int)=W.int (0+(a:Int));rw[bO]
 rw[Q]at e2;have s2:=s1.ext (Ext.one (o:=.lst (((List.range u.length).map λ(a:Nat)=>0+(a:Int)).map W.int)));obtain⟨j,h,fd,e3,T,p2,k2,N⟩:=Nx s2 qJ (by simp;omega)
 obtain⟨d,rfl,po⟩:=OC p2;have K:(d.map λ(k:Nat)=>(0:Int)+(k:Int))=d.map λ(k:Nat)=>(k:Int):=bw λa _=>by omega
 rw[K]at T;have U:zA Ym (zc zm (zc (KU (mQ qx (qg zw))) zl)) [some (.ref 0),some (zx u),none,none] B1=.ok (.ref j) h:=(qb (zF (zp (i:=0) rfl) (zF e2 zY))).trans e3;have Z:0<j:=by have:=s1.lt;simp at N;omega
 have e4:zX (zc zP zl) [some (.ref 0),some (zx u),some (.ref j),none] h=.ok (.ref h.length) (h++[.lst [.int 0]]):=j0 (zF qy zY);have s3:=k2.st.ext (Ext.one (o:=.lst [.int 0]));have C:=jT (u:=.lst [.int 0]) T;have Y:(h++[.lst [.int 0]])[h.length]? =some (.lst [.int 0]):=qJ;have h2l:=Zi T;have hB2:0<h.length:=by omega
 generalize h++[.lst [.int 0]]=B3 at e4 s3 C Y;have D:=Ur tt (ρ:=[some (.ref 0),some (zx u),some (.ref j),none]) (i:=1) (A:=B3) rfl;rw[hM]at D;have e5:=Eo (ρ:=[some (.ref 0),some (zx u),some (.ref j),none]) (A:=B3) (M:=M) (ma:=zU (.int 1)) (mb:=zj qa zI (mQ yC (zW 1 [] (qe zw) (zH 0) qh (zQ (mQ yC (qg zm)))))) qy ((zT qy D).trans rfl) (by omega)
 have s4:=s3.ext (Ext.one (o:=.lst (((List.range M).map λ(k:Nat)=>1+(k:Int)).map W.int)));obtain⟨r3,f,fd3,e6,h3,p3,k3,nw3⟩:=Nx s4 qJ (by simp;omega)
 obtain⟨P,rfl,pp⟩:=OC p3;have z:=k3.kp.get (jT C) (by omega)
 have I:=k3.kp.get (jT Y) (by omega)
 have E:zj qa (zX (zc zP zl)) (zA Ym (zc zm (zc (KS zI (zj qa zI (mQ yC (zW 1 [] (qe zw) (zH 0) qh (zQ (mQ yC (qg zm))))))) zl))) [some (.ref 0),some (zx u),some (.ref j),none] h=.ok (.ref f.length) (f++[.lst ((yM P).map W.int)]):=by
  refine(zT e4 ((qb (zF (zp (i:=0) rfl) (zF e5 zY))).trans e6)).trans ((KG I h3 ?_).trans rfl)
  have:=pp.length_eq
  rw[aV]at this;rw[ag,ag,this];unfold qf;simp;omega
 have S:=jT (u:=.lst ((yM P).map W.int)) z;have h6:(f++[.lst ((yM P).map W.int)])[f.length]? =some (.lst ((yM P).map W.int)):=qJ;have s5:=k3.st.ext (Ext.one (o:=.lst ((yM P).map W.int)));generalize hB5:f++[.lst ((yM P).map W.int)]=c at E S h6 s5;have hol:d.length=u.length:=by rw[po.length_eq,aV]
 have n:∀a∈d,a<u.length:=λa x=>cz.mp (po.mem_iff.mp x);have hpl:P.length=M:=by rw[pp.length_eq,aV]
 have y:(jg u-1).toNat=M:=by omega
 have res:=Df tt (p:=P) (o:=d) (by rw[y];exact pp) po
 refine⟨Jh u P d,c,?_,s5,res.1,i,P,d,hi,by rw[J,y];exact pp,by rw[J];exact po,by rw[J]⟩
 unfold WN;refine qT ?_;unfold RK;refine(zN ((qW ((qb (zF ((qb (zF (zp (i:=0) rfl) zY)).trans e0) zY)).trans e1)).trans rfl)).trans ((zN ((qW U).trans rfl)).trans ((zN ((qW E).trans rfl)).trans (qA (qZ ?_))));have inner:∀a,a∈d->∀b,b∈d->zj zJ zO (zj zJ (zj zJ zB zw) zm) [some (.int (b:Int)),some (.int (a:Int)),some (zx u),some (.ref f.length)] c=.ok (.int ((yM P).getD (at2 u a b).toNat 0)) c:=λa x b q=>by
  have la:=n a x;have L:=n b q;have bd:=U9 tt la L;have kg:=UC tt la L;obtain⟨v,H⟩:=bo bd.1;have e:zj zJ (zj zJ zB zw) zm [some (.int (b:Int)),some (.int (a:Int)),some (zx u),some (.ref f.length)] c=.ok (.int (v:Int)) c:=by
   rw[<- H];exact(zT ((zT (zp rfl) (zp rfl)).trans (K4 la)) (zp rfl)).trans (K3 (by rw[tt.sq _ (wJ la)];exact L))
  have l:v<(yM P).length:=by
   show v<(P.map _).length+1;rw[ag];omega
  refine(zT (zp (i:=3) rfl) e).trans (gz h6 ?_);rw[H,aK,ax,aa l,ae,aa l]
  rfl
 have ec:=VR (cap:=[1,2,3]) (m:=qj 2) (me:=mQ wO (zW 1 [0,1,3] (qe zB) (zH 0) qh (zQ (zj zJ zO (zj zJ (zj zJ zB zw) zm))))) (ρ:=[some (.ref 0),some (zx u),some (.ref j),some (.ref f.length)]) (A:=c) (g:=Si λa=>zy (d.map λb=>(yM P).getD (at2 u a b).toNat 0)) (zp rfl) S (by simp;unfold qf;omega) (λw hw=>by
  obtain⟨v,H,rfl⟩:=cy.mp hw;obtain⟨a,x,rfl⟩:=cy.mp H;have ei:=VR (cap:=[0,1,3]) (m:=qj 2) (me:=zj zJ zO (zj zJ (zj zJ zB zw) zm)) (ρ:=[some (.int (a:Int)),some (zx u),some (.ref j),some (.ref f.length)]) (A:=c) (g:=Si λb=>.int ((yM P).getD (at2 u a b).toNat 0)) (zp rfl) S (by simp;unfold qf;omega) (λw hw=>by
   obtain⟨v,H,rfl⟩:=cy.mp hw;obtain⟨b,q,rfl⟩:=cy.mp H;refine(inner a x b q).trans ?_;show _=R.ok (W.int ((yM P).getD (at2 u a (Int.toNat (b:Int))).toNat 0)) c;rw[aK])
  rw[O4]at ei;refine(YR ei).trans ?_;show _=R.ok (zy (d.map λb=>(yM P).getD (at2 u (Int.toNat (a:Int)) b).toNat 0)) c;rw[aK];unfold zy;rw[aP]
  rfl)
 rw[O4]at ec;refine(YR ec).trans ?_;unfold zx Jh;rw[aP]
 rfl
def Bl (s:jb n A):∃t B,Ys [.ref n] A=.ok (zx t) B/\qp t/\Known t/\Kn n A B/\B.length=A.length:=by
 obtain⟨c,b,a,f,g⟩:=s;have hm:=Zi a;obtain⟨t,A1,e,⟨C,d,E,h,H⟩,T,kn⟩:=BQ (o:=.lst [.int c,.bl b]) ⟨c,b,rfl,f,g⟩;refine⟨t,A.set n (.lst [.int C,.bl d]),?_,T,kn,⟨Kp.set,C,d,aH hm,h,H⟩,length_set ..⟩;unfold Ys;exact Na a rfl e E (ZM t)
end
structure LM (N b0 r:Nat)(μ:Nat->Nat->Int)(C:Hx):Prop where
 top:C[r]? =some (.lst ((List.range N).map λi=>W.ref (b0+i)))
 row:∀i,i<N->C[b0+i]? =some (.lst ((List.range N).map λj=>W.int (μ i j)))
 lt:b0+N<=r
 pos:0<b0
 st:jb 0 C
structure Sy (N:Nat)(μ:Nat->Nat->Int):Prop where
 dg:∀a b,a<N->b<N->(μ a b=0↔a=b)
 sy:∀a b,a<N->b<N->μ a b=μ b a
 lo:∀a b,a<N->b<N->0<=μ a b/\μ a b<(N:Int)
section
variable {N b0 r a b:Nat}{C:Hx}
def Sy.step (h:Sy N μ)(g:a<N)(f:b<N)(e:a≠b){k:Int}(k1:1<=k)(k2:k<(N:Int)):Sy N (Z4 (Z4 μ a b k) b a k):=by
 have at_:∀i j,Z4 (Z4 μ a b k) b a k i j=if (i=b/\j=a)∨(i=a/\j=b) then k else μ i j:=λi j=>by
  unfold Z4
  by_cases d:i=b/\j=a
  ·rw[ah d,ah (.inl d)]
  ·rw[aj d]
   by_cases Q:i=a/\j=b
   ·rw[ah Q,ah (.inr Q)]
   ·rw[aj Q,aj (by rintro(z|z);exact d z;exact Q z)]
 refine⟨λi j hi H=>?_,λi j hi H=>?_,λi j hi H=>?_⟩
 ·rw[at_]
  by_cases q:(i=b/\j=a)∨(i=a/\j=b)
  ·rw[ah q]
   constructor
   ·intro z;omega
   ·intro z;omega
  ·rw[aj q];exact h.dg i j hi H
 ·rw[at_,at_]
  by_cases q:(i=b/\j=a)∨(i=a/\j=b)
  ·rw[ah q,ah (by rcases q with ⟨c,Z⟩|⟨c,Z⟩;exact .inr ⟨Z,c⟩;exact .inl ⟨Z,c⟩)]
  ·rw[aj q,aj (by rintro(⟨c,Z⟩|⟨c,Z⟩);exact q (.inr ⟨Z,c⟩);exact q (.inl ⟨Z,c⟩))]
   exact h.sy i j hi H
 ·rw[at_]
  by_cases q:(i=b/\j=a)∨(i=a/\j=b)
  ·rw[ah q];omega
  ·rw[aj q];exact h.lo i j hi H
def NJ {g:Nat->Int}{k:Int}(h:b<N):((List.range N).map λj=>W.int (g j)).set b (.int k)=(List.range N).map λj=>W.int (if j=b then k else g j):=by
 apply ext_getElem?
 intro i
 by_cases hi:i<N
 ·by_cases q:b=i
  ·subst q
   rw[aH (by simpa using hi),ax,bf hi]
   simp
  ·rw[aG q,ax,ax,bf hi]
   simp[Ne.symm q]
 ·rw[aE (by simp;omega),aE (by simp;omega)]
theorem LM.put (h:LM N b0 r μ C)(f:a<N)(e:b<N)(k:Int):∃d,kK (.ref (b0+a)) (.int (b:Int)) (.int k) C=.ok () d/\LM N b0 r (Z4 μ a b k) d:=by
 have c:=h.row a f;have H:=Zi c;have l:=h.lt;have g:=h.pos;refine⟨_,NA c (by simp;omega),?_,λi hi=>?_,l,g,h.st.put (by omega)⟩
 ·rw[aG (by omega)];exact h.top
 ·by_cases q:i=a
  ·subst q
   rw[aH H,NJ e]
   congr 3
   funext j
   unfold Z4
   by_cases z:j=b
   ·rw[ah z,ah ⟨rfl,z⟩]
   ·rw[aj z,aj (by rintro⟨_,w⟩;exact z w)]
  ·rw[aG (by omega),h.row i hi]
   congr 3
   funext j
   unfold Z4;rw[aj (by rintro⟨w,_⟩;exact q w)]
def LM.kn {c:Hx}(h:LM N b0 r μ C)(k:Kn 0 C c):LM N b0 r μ c:=by
 have a:=h.lt;have H:=h.pos;exact⟨k.kp.get h.top (by omega),λi hi=>k.kp.get (h.row i hi) (by omega),a,H,k.st⟩
def LM.ix (h:LM N b0 r μ C){m:Ev}(hm:m ρ C=.ok (.ref r) C)(hi:ρ[i]? =some (some (.int (a:Int))))(H:a<N):zj zJ m (qj i) ρ C=.ok (.ref (b0+a)) C:=
 (zT hm (zp hi)).trans (gz h.top (by rw[ax,bf H];rfl))
def LM.ix2 (h:LM N b0 r μ C){m:Ev}(hm:m ρ C=.ok (.ref r) C)(hi:ρ[i]? =some (some (.int (a:Int))))(c:ρ[j]? =some (some (.int (b:Int))))(H:a<N)(d:b<N):zj zJ (zj zJ m (qj i)) (qj j) ρ C=.ok (.int (μ a b)) C:=
 (zT (h.ix hm hi H) (zp c)).trans (gz (h.row a H) (by rw[ax,bf d];rfl))
abbrev Sg (me:Ev)(rest:Ex):Ex:=zo (w9 kK (zj qa zI (zA jQ (zc zm (zc me zl)))) (zj zJ zB jy) yy) (zo (w9 kK (zj zJ (zj zJ zB jy) yy) (zj zJ zB yy) jy) rest)
def Np (h:LM N b0 r μ C)(q:Sy N μ)(d:a<N)(H:b<N)(f:a≠b)(h0:ρ[0]? =some (some (.ref 0)))(j:ρ[2]? =some (some (.ref r)))(i:ρ[4]? =some (some (.int (a:Int))))(g:ρ[5]? =some (some (.int (b:Int)))){m:Int}(hm:me ρ C=.ok (.int m) C)(m1:0<m)(m2:m<(N:Int))(x:N<=8)(rest:Ex):
  ∃c p,Sg me rest ρ C=rest ρ p/\LM N b0 r c p/\Sy N c:=by
 obtain⟨k,e,u,v,k1,_⟩:=Zl h.st h0 hm m1 (by omega)
 have L:=h.kn k1;obtain⟨n,t,l⟩:=L.put d H (1+(k:Int));obtain⟨o,E,s⟩:=l.put H d (1+(k:Int));refine⟨_,o,?_,s,q.step d H f (by omega) (by omega)⟩
 refine(zN (ρ1:=ρ) (A1:=n) ?_).trans (zN (ρ1:=ρ) (A1:=o) ?_)
 ·unfold w9
  rw[(zT (qy (w:=.int 1)) u).trans (show qa (.int 1) (.int (k:Int)) e=.ok (.int (1+(k:Int))) e from rfl),zL,L.ix (zp j) i d,zL,(show yy ρ e=.ok (.int (b:Int)) e from zp g),zL,t,zL]
 ·have ev:Z4 μ a b (1+(k:Int)) a b=1+(k:Int):=by unfold Z4;rw[ah ⟨rfl,rfl⟩]
  unfold w9;rw[l.ix2 (zp j) i g d H,zL,l.ix (zp j) g H,zL,(show jy ρ n=.ok (.int (a:Int)) n from zp i),zL,ev,E,zL]
def LM.ll (h:LM N b0 r μ C):LL (kC N μ) r C:=by
 refine⟨(List.range N).map λi=>b0+i,by rw[h.top,aP];rfl,by rw[Gn];simp,λi hi=>?_⟩
 rw[Gn]at hi;have E:((List.range N).map λi=>b0+i).getD i 0=b0+i:=by rw[ae,ax,bf hi];rfl
 have e:(kC N μ).getD i []=(List.range N).map (μ i):=by unfold kC;rw[ae,ax,bf hi];rfl
 rw[E,e,h.row i hi,aP]
 rfl
def LM.fin (h:LM N b0 r μ C)(q:Sy N μ)(n1:1<=N)(n8:N<=8)(f:ρ[2]? =some (some (.ref r))):∃u B,zA JB (zc zB zl) ρ C=.ok (zx u) B/\qp u/\jb 0 B:=by
 have l:=Gn (n:=N) (μ:=μ);have H:∀v∈(kC N μ).flatten,0<=v/\v<(N:Int):=λv d=>by
  obtain⟨a,b,c,H,rfl⟩:=JK Ud d;rw[l]at c H;rw[Ja c H];exact q.lo a b c H
 obtain⟨B,e,x⟩:=Nu (t:=kC N μ) (by omega) (by omega) Ud (λv d=>by have:=H v d;omega) h.ll
 refine⟨_,B,(qb (zF (zp f) zY)).trans e,Dr (by omega) (by omega) Ud ?_ ?_ ?_,h.st.ext x⟩
 ·intro a b c H;rw[l]at c H;rw[Ja c H];exact q.dg a b c H
 ·intro a b c H;rw[l]at c H;rw[Ja c H,Ja H c];exact q.sy a b c H
 ·intro a b c H;rw[l]at c H ⊢;rw[Ja c H];exact q.lo a b c H
def Aj (h:qp t)(s:jb 0 B):LM t.length B.length (B.length+t.length) (at2 t) (B++(t.map λr=>O.lst (r.map W.int))++[O.lst ((List.range t.length).map λi=>W.ref (B.length+i))])/\Sy t.length (at2 t):=by
 refine⟨⟨OX,λi hi=>?_,ar _,s.lt,s.ext ⟨(t.map λr=>O.lst (r.map W.int))++[O.lst ((List.range t.length).map λi=>W.ref (B.length+i))],by rw[aO]⟩⟩,h.dg,h.sy,λa b e d=>?_⟩
 ·rw[O0 hi]
  congr 2
  have H:=h.sq _ (wJ hi)
  have:=Kk (t.getD i []) 0 W.int
  rw[this,H]
  rfl
 ·obtain⟨c,g,f,_⟩:=Gz h.sq e d
  exact h.lo c g _ f
noncomputable abbrev eW (w r N:Nat)(l:En):En:=some (.ref 0)::some (.int (w:Int))::some (.ref r)::some (.int (N:Int))::l
def BM (s:jb 0 [o]):∃t B,WL [.ref 0] [o]=.ok (zx t) B/\jb 0 B/\qp t:=by
 unfold WL;unfold RW;obtain⟨way,P,e0,hw,k0,_⟩:=Zl (ρ:=[some (.ref 0),none,none,none,none,none,none]) (me:=zU (.int 3)) s rfl qy (by decide:(0:Int)<3) (by decide)
 have go:∀m2:Ex,zo (zZ 1 (zA jQ (zc zm (zc jz zl)))) m2 [some (.ref 0),none,none,none,none,none,none] [o]=m2 [some (.ref 0),some (.int (way:Int)),none,none,none,none,none] P:=λm2=>zN ((qW e0).trans rfl);obtain⟨t,v,e1,E,_,k1,_⟩:=Bl k0.st;have n1:=E.n1;have n8:=E.n8;have L:zj jd zw zP [some (.ref 0),some (.int (way:Int)),none,none,none,none,none] P=.ok (.bl (decide ((way:Int)=0))) P:=(zT (zp rfl) qy).trans (QL _ _ _);have ek:zA Ys (zc zm zl) [some (.ref 0),some (.int (way:Int)),none,none,none,none,none] P=.ok (zx t) v:=(qb (zF (zp rfl) zY)).trans e1
 by_cases q0:(way:Int)=0
 ·rw[az q0]at L
  exact⟨t,v,qT ((go _).trans (qA ((kJ L).trans (qA (qZ ek))))),k1.st,E⟩
 ·rw[aJ q0]at L
  have er:=F8 (B:=v) n8 E.sq ek;obtain⟨lm,sy⟩:=Aj E k1.st;generalize v++(t.map λr=>O.lst (r.map W.int))++[O.lst ((List.range t.length).map λi=>W.ref (v.length+i))]=C at er lm;generalize v.length+t.length=r at er lm;generalize v.length=b0 at lm;generalize at2 t=μ at lm sy;generalize hN:t.length=N at lm sy n1 n8;have J:mQ qx (qg zB) [some (.ref 0),some (.int (way:Int)),some (.ref r),none,none,none,none] C=.ok (.int (N:Int)) C:=by
   rw[yq (kG (w:=.ref r) (A1:=C) (zp rfl) (by unfold zV;dsimp only;rw[lm.top]))]
   unfold qx;simp
  have go2:∀m1 m2:Ex,zo (zZ 1 (zA jQ (zc zm (zc jz zl)))) (zo (qP (zj jd zw zP) m1 zC) (zo (zZ 2 (qu (zW 1 [] (qe (zA Ys (zc zm zl))) (zH 0) qh (zQ (qu (qg zm)))))) (zo (zZ 3 (mQ qx (qg zB))) m2))) [some (.ref 0),none,none,none,none,none,none] [o]=m2 (eW way r N [none,none,none]) C:=λm1 m2=>
   (go _).trans ((zN ((j7 L).trans jK)).trans ((zN ((qW er).trans rfl)).trans (zN ((qW J).trans rfl))))
  have M:yW (zj jd zw zI) (zj T7 zO zI) (eW way r N [none,none,none]) C=.ok (.bl (decide ((way:Int)=1)&&decide ((1:Int)<(N:Int)))) C:=by
   have e:zj jd zw zI (eW way r N [none,none,none]) C=.ok (.bl (decide ((way:Int)=1))) C:=(zT (zp rfl) qy).trans (QL _ _ _)
   by_cases z:(way:Int)=1
   ·rw[az z]at e ⊢
    exact(ZO e).trans ((zT (zp rfl) qy).trans rfl)
   ·rw[aJ z]at e ⊢
    exact JP e
  cases hd:(decide ((way:Int)=1)&&decide ((1:Int)<(N:Int))) with
  |true=>
   rw[hd]at M;have hN2:2<=N:=by
    rw[ak,ai,ai]at hd;omega
   obtain⟨a,d,K,ha,k2,_⟩:=Zl (ρ:=(eW way r N [none,none,none])) (me:=qj 3) lm.st rfl (zp rfl) (by omega:(0:Int)<(N:Int)) (by omega)
   obtain⟨q,C2,e3,hq,k3,_⟩:=Zl (ρ:=(eW way r N [some (.int (a:Int)),none,none])) (me:=zj yw zO zI) (m:=(N:Int)-1) k2.st rfl ((zT (zp rfl) qy).trans rfl) (by omega) (by omega)
   have Jt:=(lm.kn k2).kn k3;have Z:(a+1+q)%N<N:=Nat.mod_lt _ (by omega)
   have hab:a≠(a+1+q)%N:=by
    intro z
    by_cases g:a+1+q<N
    ·rw[Nat.mod_eq_of_lt g]at z;omega
    ·rw[Nat.mod_eq_sub_mod (by omega),Nat.mod_eq_of_lt (by omega)]at z
     omega
   have e4:zj wM (zj qa (zj qa jy zI) (zA jQ (zc zm (zc (zj yw zO zI) zl)))) zO (eW way r N [some (.int (a:Int)),none,none]) d=.ok (.int (((a+1+q)%N:Nat):Int)) C2:=by
    refine(zT ((zT ((zT (zp rfl) qy).trans (show qa (.int (a:Int)) (.int 1) d=.ok (.int ((a:Int)+1)) d from rfl)) e3).trans (show qa (.int ((a:Int)+1)) (.int (q:Int)) C2=.ok (.int ((a:Int)+1+(q:Int))) C2 from rfl)) (zp (i:=3) rfl)).trans ((JO (by omega)).trans ?_)
    congr 2
   obtain⟨c,C3,e5,Yj,S⟩:=Np (ρ:=(eW way r N [some (.int (a:Int)),some (.int (((a+1+q)%N:Nat):Int)),none])) (me:=zj yw zO zI) (m:=(N:Int)-1) Jt sy (by omega) Z hab rfl rfl rfl rfl ((zT (zp rfl) qy).trans rfl) (by omega) (by omega) n8 (zo (qN (zA JB (zc zB zl))) zC)
   obtain⟨u,B,e6,U,sB⟩:=Yj.fin S n1 n8 (ρ:=(eW way r N [some (.int (a:Int)),some (.int (((a+1+q)%N:Nat):Int)),none])) rfl;refine⟨u,B,qT ((go2 _ _).trans (qA ((kJ M).trans ?_))),sB,U⟩;exact(zN ((qW K).trans rfl)).trans ((zN ((qW e4).trans rfl)).trans (e5.trans (qA (qZ e6))))
  |false=>
   rw[hd]at M;have xo:Ext C (C++[.lst [.int 2,.int 3,.int 1]]):=Ext.one;obtain⟨j,d,K,hj,k2,_⟩:=Zl (ρ:=(eW way r N [none,none,none])) (me:=zU (.int 3)) (lm.st.ext xo) rfl qy (by decide:(0:Int)<3) (by decide)
   have T:LM N b0 r μ d:=(lm.kn (Kn.ext lm.st xo)).kn k2;obtain⟨far,hf1,ef⟩:∃far:Int,1<=far/\zj zJ (zX (zc qK (zc jz (zc zI zl)))) (zA jQ (zc zm (zc jz zl))) (eW way r N [none,none,none]) C=.ok (.int far) d:=by
    have p:=k2.kp.get (qJ (A:=C)) (by have:=lm.st.lt;omega)
    have X:j<3:=by omega
    rcases three X with rfl|rfl|rfl
    ·exact⟨2,by decide,(zT (j0 rfl) K).trans (gz p rfl)⟩
    ·exact⟨3,by decide,(zT (j0 rfl) K).trans (gz p rfl)⟩
    ·exact⟨1,by decide,(zT (j0 rfl) K).trans (gz p rfl)⟩
   have rng:∀(i:Nat)(ρ:En)(D:Hx)(k:Nat),k<=8->ρ[i]? =some (some (.int (k:Int)))->jG (qj i) ρ D=.ok (yV 0 k) D:=λi ρ D k hk h=>by
    have:=Q3 (m:=qj i) (A:=D) (zp h) (ZI (n:=k) (by omega))
    rw[aK]at this;exact this
   obtain⟨Q,D,e3,⟨c,Yj,S⟩,Y,y,H⟩:=Q0 (j:=yV 0 N) (st:=turn (zH 4) (zo (yk (jG jy) (zH 5) (Sg (zj Jl we (zj yw zO zI)) zC)) zC)) (N:=N)
    (I:=λ_ ρ D=>(∃μ,LM N b0 r μ D/\Sy N μ)/\∃Y y,ρ=(eW way r N [Y,y,some (.int far)]))
    (λa ρ D ha ⟨⟨μ,lm,sy⟩,Y,y,H⟩=>by
     subst H;obtain⟨Q,D',e,⟨c,l,f⟩,y5',x⟩:=Q0 (j:=yV 0 a) (st:=turn (zH 5) (Sg (zj Jl we (zj yw zO zI)) zC)) (N:=a)
      (I:=λ_ ρ D=>(∃μ,LM N b0 r μ D/\Sy N μ)/\∃y,ρ=(eW way r N [some (.int (a:Int)),y,some (.int far)]))
      (λb ρ D Z ⟨⟨μ,lm,sy⟩,y,H⟩=>by
       subst H;have em:zj Jl we (zj yw zO zI) (eW way r N [some (.int (a:Int)),some (.int (b:Int)),some (.int far)]) D=.ok (.int (if (N:Int)-1<far then(N:Int)-1 else far)) D:=(zT (zp rfl) ((zT (zp rfl) qy).trans rfl)).trans rfl;obtain⟨c,D',e,l,f⟩:=Np (ρ:=(eW way r N [some (.int (a:Int)),some (.int (b:Int)),some (.int far)])) lm sy ha (by omega:b<N) (by omega) rfl rfl rfl rfl em (by split<;>omega) (by split<;>omega) n8 zC
       refine⟨_,_,D',g7 Z,(Zj (ρ1:=(eW way r N [some (.int (a:Int)),some (.int (b:Int)),some (.int far)])) ?_).trans e,⟨c,l,f⟩,_,rfl⟩;rw[bO];rfl)
      (λρ D _=>gX (by omega)) a 0 (eW way r N [some (.int (a:Int)),y,some (.int far)]) D (by omega) ⟨⟨μ,lm,sy⟩,_,rfl⟩
     subst x;refine⟨_,_,D',g7 ha,(Zj (ρ1:=(eW way r N [some (.int (a:Int)),y,some (.int far)])) ?_).trans ((zN ((Qp (rng 4 _ D a (by omega) rfl)).trans e)).trans jK),⟨c,l,f⟩,_,_,rfl⟩
     rw[bO];rfl)
    (λρ D _=>gX (by omega)) N 0 (eW way r N [none,none,some (.int far)]) d (by omega) ⟨⟨μ,T,sy⟩,_,_,rfl⟩
   subst H;obtain⟨u,B,e6,U,sB⟩:=Yj.fin S n1 n8 (ρ:=(eW way r N [Y,y,some (.int far)])) rfl;refine⟨u,B,qT ((go2 _ _).trans ((zN ((j7 M).trans jK)).trans ((zN ((qW ef).trans rfl)).trans ((zN ((Qp (rng 3 _ d N n8 rfl)).trans e3)).trans (qA (qZ e6)))))),sB,U⟩
def h7 (s:jb n A):∃t B,JA [.ref n] A=.ok (zx t) B/\qp t/\Kn n A B:=by
 obtain⟨c,b,a,f,g⟩:=s;have hm:=Zi a;obtain⟨t,A1,e,⟨C,d,E,h,H⟩,T⟩:=BM (o:=.lst [.int c,.bl b]) ⟨c,b,rfl,f,g⟩;refine⟨t,A.set n (.lst [.int C,.bl d]),?_,T,⟨Kp.set,C,d,aH hm,h,H⟩⟩;unfold JA;exact Na a rfl e E (ZM t)
end
def EG {c:En}{j:jY}{N:Nat}{u v g:Nat->W}(t:∀i,i<N->j.at_ A i=some (some (.tup [u i,v i])))(H:j.at_ A N=some none)(he:∀i,i<N->me (some (u i)::some (v i)::c) A=.ok (g i) A):
  ∀(f i:Nat)(x y:Option W)(acc:List W),i+f=N->acc.length+f<=qf->∃ρ,qU j (kH 0 1) (zU (.bl true)) (zQ me) f i (x::y::c) acc A=.ok (ρ,acc++(List.range' i f).map g) A:=by
 intro f
 induction f with
 |zero=>
  intro i x y acc h l
  have:i=N:=by omega
  subst this;refine⟨x::y::c,?_⟩;unfold qU;rw[H];simp
 |succ f I=>
  intro i x y acc h l;obtain⟨ρ,e⟩:=I (i+1) (some (u i)) (some (v i)) (acc++[g i]) (by omega) (by rw[aw,aS];omega)
  refine⟨ρ,?_⟩;rw[qU,t i (by omega)]
  dsimp only;rw[show kH 0 1 (.tup [u i,v i]) (x::y::c)=some (some (u i)::some (v i)::c) from rfl]
  dsimp only[zU];rw[zL];dsimp only;have E:zQ me (some (u i)::some (v i)::c) acc A=.ok (some (u i)::some (v i)::c,acc++[g i]) A:=by
   unfold zQ;rw[he i (by omega),zL,ah (by omega)]
  rw[E,zL];rw[e,aO,bQ,aW]
  rfl
def Ft {j:jY}{N:Nat}{u v g:Nat->W}(hm:mi ρ A=.ok j A)(b:j.len=N)(d:N<=1000)(H:∀i,i<N->j.at_ A i=some (some (.tup [u i,v i])))(h:j.at_ A N=some none)
  (he:∀i,i<N->me (some (u i)::some (v i)::cap.map λi=>(ρ[i]?).join) A=.ok (g i) A):zW 2 cap mi (kH 0 1) qh (zQ me) ρ A=.ok ((List.range N).map g) A:=by
 obtain⟨a,e⟩:=EG (A:=A) (c:=cap.map λi=>(ρ[i]?).join) H h he N 0 none none [] (by omega) (by unfold qf;simp;omega)
 unfold zW;rw[hm,zL,b];show R.bind (R.nox (qU j _ _ _ N 0 (none::none::cap.map λi=>(ρ[i]?).join) [] A)) _=_;rw[e,<- range_eq_range',nil_append]
 rfl
def gc {r:R α}{a:α}(h:r=.ok a A):r.nox=.ok a A:=by rw[h];rfl
def Gv {m:Ex}{w:W}(h:m (ws.map some++List.replicate (n-ws.length) none) A=.ok (.rt w) A1):gj n m ws A=.ok w A1:=by unfold gj;rw[h];rfl
def V5 {m:Ex}(h:m (ws.map some++List.replicate (n-ws.length) none) A=.ok (.nx ρ) A1):gj n m ws A=.ok .non A1:=by unfold gj;rw[h];rfl
def wI {m1 m2:Ex}(h:m1 ρ A=.exc x A1):zo m1 m2 ρ A=.exc x A1:=by unfold zo;rw[h,OI]
def Qj {m:Ev}(h:m ρ A=.exc x A1):jJ m ρ A=.exc x A1:=by unfold jJ;rw[h,OI]
def gW {m:Ex}(h:m (ws.map some++List.replicate (n-ws.length) none) A=.exc x A1):gj n m ws A=.exc x A1:=by unfold gj;rw[h];rfl
def DU {m m':Ev}{us vs:List W}(h:m ρ A=.ok (.tup us) A)(h':m' ρ A=.ok (.tup vs) A):QH m m' ρ A=.ok (Ya (.tup us) (.tup vs) us.length) A:=by
 unfold QH;rw[h,zL,h',zL]
 rfl
def F4 {a:Ea}{xs ys:List W}{r:Nat}{u e:Option W}(H:A[r]? =some (.lst xs))(h:a [u,e,none,some (.ref r)] A=.ok ys A)(l:xs.length+ys.length<=100):
  zZ 3 (zj qa zO (zX a)) [u,e,none,some (.ref r)] A=.ok (.nx [u,e,none,some (.ref (A.length+1))]) (A++[.lst ys]++[.lst (xs++ys)]):=by
 refine(qW ((zT (zp (i:=3) rfl) (j0 h)).trans (KG (jT H) qJ (by unfold qf;omega)))).trans ?_
 rw[aw,aS]
 rfl
def Gm {a:Ea}{xs ys zs:List W}{L:Hx}{u e:Option W}(c:L[j]? =some (.lst xs))(b:∀m A,a [u,e,none,m] A=.ok ys A)(H:xs.length+ys.length<=100)(h:xs++ys=zs):
  zZ 3 (zj qa zO (zX a)) [u,e,none,some (.ref (A.length+j))] (A++L)=.ok (.nx [u,e,none,some (.ref (A.length+(L.length+1)))]) (A++(L++[.lst ys,.lst zs])):=by
 have d:(A++L)[A.length+j]? =some (.lst xs):=by rw[ay (by omega),show A.length+j-A.length=j by omega];exact c
 rw[F4 d (b _ _) H,h,aw,aO,aO,Nat.add_assoc]
 rfl
noncomputable def qG (i a n:Nat):List W:=(List.range' a n).map λk=>W.bl (decide (k=i))
def KP {f:Fn}{us:List W}(hn:jv us=true)(h:f us []=.ok (.ref k) A1)(H:A1[k]? =some (.lst ws))(hw:jv ws=true):iso f us A=.ok (.ref A.length) (A++[.lst ws]):=by
 unfold iso;rw[ah hn,h];dsimp only;rw[H];dsimp only;rw[ah hw]
end G
namespace Mi
open PySem L2
section
variable {j:jY}{c:En}{f:Nat}{x:Option W}{w y:W}{acc:List W}{m:Ev}
def Pf (h:n<1000000):jD (n:Int)=true:=by
 unfold jD;rw[ak,ai,ai];omega
def EX (h:j.at_ A i=some none):qU j (zH 0) (zU (.bl true)) (zQ me) f i ρ acc A=.ok (ρ,acc) A:=by
 cases f<;>(unfold qU;rw[h])
def E2 (h:j.at_ A i=some (some w))(he:me (some w::c) A=.ok y A1)(H:acc.length<qf):qU j (zH 0) (zU (.bl true)) (zQ me) (f+1) i (x::c) acc A=qU j (zH 0) (zU (.bl true)) (zQ me) f (i+1) (some w::c) (acc++[y]) A1:=by
 rw[qU,h];dsimp only[zH,List.set,zU];rw[zL];dsimp only;have e:zQ me (some w::c) acc A=.ok (some w::c,acc++[y]) A1:=by
  unfold zQ;rw[he,zL,ah H]
 rw[e,zL]
def h9 (h:m ρ A=.ok (.ref n) A1)(H:A1[n]? =some (.lst ws)):qe m ρ A=.ok ⟨λA i=>(zV (.ref n) A).map λws=>ws[i]?,ws.length⟩ A1:=by
 unfold qe Wi;rw[h,zL];have e:zV (.ref n) A1=some ws:=by unfold zV;dsimp only;rw[H]
 rw[e]
def MY (h:A[n]? =some (.lst ws)):((zV (.ref n) A).map λws=>ws[i]?)=some ws[i]?:=by
 have e:zV (.ref n) A=some ws:=by unfold zV;dsimp only;rw[h]
 rw[e];rfl
def Ob {g:W->Option PyData}{ds:List PyData}(h:g w=some d)(r:j9 g ws=some ds):j9 g (w::ws)=some (d::ds):=by
 unfold j9;rw[h,r]
theorem PR {g:W->Option PyData}{f:Nat->W}:∀(n:Nat)(s:Nat),(∀t,s<=t->t<s+n->g (f t)=some d)->j9 g ((List.range' s n).map f)=some (List.replicate n d)
 |0,_,_=>rfl|n+1,s,h=>by
  rw[bQ,aW,a7];exact Ob (h s (by omega) (by omega)) (PR n (s+1) λt a H=>h t (by omega) (by omega))
theorem OY {g:W->Option PyData}{w:W}(h:g w=some d):∀n:Nat,j9 g (List.replicate n w)=some (List.replicate n d)
 |0=>rfl|n+1=>by rw[a7,a7];exact Ob h (OY h n)
def O3 {v:Int}(h:A[n]? =some (.lst [.int v])):qm A (k+1) (.ref n)=some (.list [.int v]):=by
 unfold qm;have e:zV (.ref n) A=some [.int v]:=by unfold zV;dsimp only;rw[h]
 rw[e];cases k<;>rfl
def OZ {ds:List PyData}(h:A[n]? =some (.lst ws))(hd:j9 (qm A k) ws=some ds):qm A (k+1) (.ref n)=some (.list ds):=by
 unfold qm;have e:zV (.ref n) A=some ws:=by unfold zV;dsimp only;rw[h]
 rw[e];dsimp only;rw[hd]
 rfl
def ia {a b:W}(c:qm A 8 a=some d)(H:qm A 8 b=some d)(h:PyData.eqv d d=true):jf a b A=.ok (.bl false) A:=by
 show wy true a b A=_;unfold wy;rw[c,H];dsimp only;rw[ah rfl,h]
 rfl
end
end Mi
namespace G
open PySem L2 Mi
section
def ib (a:A[0]? =some (.ro (ns.map W.int)))(k:Nat):∃x:Int,WG [.ref 0,.int k] A=.ok (.int x) A:=by
 have H:zV (.ref 0) A=some (ns.map W.int):=by unfold zV;dsimp only;rw[a]
 have l:mQ qx (qg zm) [some (.ref 0),some (.int k)] A=.ok (.int ns.length) A:=by
  rw[yq (kG (w:=.ref 0) (A1:=A) (zp rfl) H)];unfold qx;rw[ag]
 have e:zj Js zw (mQ qx (qg zm)) [some (.ref 0),some (.int k)] A=.ok (.bl (decide ((k:Int)<ns.length))) A:=(zT (zp (w:=.int k) rfl) l).trans rfl
 by_cases h:k<ns.length
 ·refine⟨ns[k],qT ?_⟩
  unfold X4;rw[az (by omega)]at e
  refine qA ((kJ e).trans (qA (qZ ?_)));refine(zT (x:=.ref 0) (y:=.int k) (A1:=A) (A2:=A) (zp rfl) (zp rfl)).trans ?_;unfold zJ;rw[H];dsimp only;rw[GA (v:=.int ns[k]) (by rw[ax,aa h];rfl)]
 ·refine⟨0,qT ?_⟩
  unfold X4;rw[aJ (by omega)]at e
  exact(zN ((j7 e).trans rfl)).trans rfl
def BO (H:A[0]? =some (.ro (ns.map W.int)))(k:Nat):∃o,Yt [.ref 0,.int k] A=.ok (.ref A.length) (A++[o])/\jb A.length (A++[o]):=by
 obtain⟨x,e⟩:=ib H k;have a:zZ 2 (zA WG (zc zm (zc zw zl))) [some (.ref 0),some (.int k),none] A=.ok (.nx [some (.ref 0),some (.int k),some (.int x)]) A:=by
  refine(qW (w:=.int x) (A1:=A) ?_).trans rfl;rw[qb (ws:=[.ref 0,.int k]) (A1:=A) rfl];exact e
 have E:zj Sa zB (zj JY Jr (zU (.int 18))) [some (.ref 0),some (.int k),some (.int x)] A=.ok (.bl (decide ((1000000000000000000:Int)<=x))) A:=(zT (x:=.int x) (y:=.int 1000000000000000000) (A1:=A) (A2:=A) (zp rfl) rfl).trans rfl
 by_cases h:(1000000000000000000:Int)<=x
 ·refine⟨.lst [.int (x-1000000000000000000),.bl true],qT ?_,x-1000000000000000000,true,qJ,by omega,λz=>nomatch z⟩
  unfold Vj;rw[az h]at E;refine(zN a).trans (qA ((kJ E).trans (qA (qZ (j0 ?_)))))
  rfl
 ·refine⟨.lst [.int (x%2147483647),.bl false],qT ?_,x%2147483647,false,qJ,emod_nonneg _ (by decide),λ_=>bP _ (by decide)⟩
  unfold Vj;rw[aJ h]at E;refine(zN a).trans ((zN ((j7 E).trans rfl)).trans (qA (qZ (j0 ?_))));refine zF (A1:=A) (A2:=A) ((zT (x:=.int x) (y:=.int 2147483647) (A1:=A) (A2:=A) (zp rfl) rfl).trans (JO (by decide))) rfl
end
def GX (i:Nat):Hx:=[.lst (qG i 0 3),.lst (qG i 3 3),.lst (qG i 0 6),.lst (qG i 6 3),.lst (qG i 0 9),.lst (qG i 9 3),.lst (qG i 0 12),.lst (qG i 12 3),.lst (qG i 0 15),.lst [.int i]]
noncomputable def gB (x:Str):Option Nat:=if x = "NoTable" then some 0 else if x = "NoLot" then some 6 else if x = "NoKinds" then some 7 else none
def Pl (h:gB x=some i):(x = "NoTable" /\ i=0)∨(x = "NoLot" /\ i=6)∨(x = "NoKinds" /\ i=7):=by
 unfold gB at h
 by_cases h0:x = "NoTable"
 ·rw[ah h0]at h;cases h;exact .inl ⟨h0,rfl⟩
 ·rw[aj h0]at h
  by_cases h1:x = "NoLot"
  ·rw[ah h1]at h;cases h;exact .inr (.inl ⟨h1,rfl⟩)
  ·rw[aj h1]at h
   by_cases H:x = "NoKinds"
   ·rw[ah H]at h;cases h;exact .inr (.inr (⟨H,rfl⟩))
   ·rw[aj H]at h;cases h
def Dw (a:gB x=some i)(u:W)(A:Hx):XY [some u,some (.xc x),none,none] A=.ok (.rt (.ref (A.length+9))) (A++GX i):=by
 have two:=Pl a;unfold XY;have d:∀(m:Option W)(A:Hx),(zc (jm (jH jc "NoTable") zw) (zc (jm (jH jc "NotSteady") zw) (zc (jm (jH jc "NoPlace") zw) zl))) [some u,some (.xc x),none,m] A=.ok (qG i 0 3) A:=λm A=>by
  rcases two with ⟨rfl,rfl⟩|⟨rfl,rfl⟩|⟨rfl,rfl⟩<;>kernel_rfl
 have a1:∀(m:Option W)(A:Hx),(zc (jm (jH jc "NoKind") zw) (zc (jm (jH jc "NoMix") zw) (zc (jm (jH jc "NoNumber") zw) zl))) [some u,some (.xc x),none,m] A=.ok (qG i 3 3) A:=λm A=>by
  rcases two with ⟨rfl,rfl⟩|⟨rfl,rfl⟩|⟨rfl,rfl⟩<;>kernel_rfl
 have a2:∀(m:Option W)(A:Hx),(zc (jm (jH jc "NoLot") zw) (zc (jm (jH jc "NoKinds") zw) (zc (jm (jH jc "NoPaper") zw) zl))) [some u,some (.xc x),none,m] A=.ok (qG i 6 3) A:=λm A=>by
  rcases two with ⟨rfl,rfl⟩|⟨rfl,rfl⟩|⟨rfl,rfl⟩<;>kernel_rfl
 have c:∀(m:Option W)(A:Hx),(zc (jm (jH jc "NoParting") zw) (zc (jm (jH jc "NoClosed") zw) (zc (jm (jH jc "TooMany") zw) zl))) [some u,some (.xc x),none,m] A=.ok (qG i 9 3) A:=λm A=>by
  rcases two with ⟨rfl,rfl⟩|⟨rfl,rfl⟩|⟨rfl,rfl⟩<;>kernel_rfl
 have b:∀(m:Option W)(A:Hx),(zc (jm (jH jc "NoText") zw) (zc (jm (jH jc "NoLine") zw) (zc (jm (jH jc "NoDeed") zw) zl))) [some u,some (.xc x),none,m] A=.ok (qG i 12 3) A:=λm A=>by
  rcases two with ⟨rfl,rfl⟩|⟨rfl,rfl⟩|⟨rfl,rfl⟩<;>kernel_rfl
 have ap:∀n,qG i 0 n++qG i n 3=qG i 0 (n+3):=λn=>by
  unfold qG;rw[<- aL]
  congr 1
  have:=List.range'_append_1 (s:=0) (m:=n) (n:=3)
  rw[Nat.zero_add]at this;exact this
 have E:zZ 3 (zX (zc (jm (jH jc "NoTable") zw) (zc (jm (jH jc "NotSteady") zw) (zc (jm (jH jc "NoPlace") zw) zl)))) [some u,some (.xc x),none,none] A=.ok (.nx [some u,some (.xc x),none,some (.ref (A.length+0))]) (A++[.lst (qG i 0 3)]):=(qW (j0 (d _ A))).trans rfl;refine(zN E).trans ?_;refine(zN (Gm (A:=A) (L:=[.lst (qG i 0 3)]) (j:=0) (xs:=qG i 0 3) (ys:=qG i 3 3) (zs:=qG i 0 6) rfl a1 (by simp[qG]) (ap 3))).trans ?_
 refine(zN (Gm (A:=A) (L:=[.lst (qG i 0 3),.lst (qG i 3 3),.lst (qG i 0 6)]) (j:=2) (xs:=qG i 0 6) (ys:=qG i 6 3) (zs:=qG i 0 9) rfl a2 (by simp[qG]) (ap 6))).trans ?_
 refine(zN (Gm (A:=A) (L:=[.lst (qG i 0 3),.lst (qG i 3 3),.lst (qG i 0 6),.lst (qG i 6 3),.lst (qG i 0 9)]) (j:=4) (xs:=qG i 0 9) (ys:=qG i 9 3) (zs:=qG i 0 12) rfl c (by simp[qG]) (ap 9))).trans ?_
 refine(zN (Gm (A:=A) (L:=[.lst (qG i 0 3),.lst (qG i 3 3),.lst (qG i 0 6),.lst (qG i 6 3),.lst (qG i 0 9),.lst (qG i 9 3),.lst (qG i 0 12)]) (j:=6) (xs:=qG i 0 12) (ys:=qG i 12 3) (zs:=qG i 0 15) rfl b (by simp[qG]) (ap 12))).trans ?_
 generalize H:A++([.lst (qG i 0 3),.lst (qG i 3 3),.lst (qG i 0 6),.lst (qG i 6 3),.lst (qG i 0 9),.lst (qG i 9 3),.lst (qG i 0 12)]++[.lst (qG i 12 3),.lst (qG i 0 15)])=B;have l:B.length=A.length+9:=by rw[<- H];simp
 have hm:B[A.length+8]? =some (.lst (qG i 0 15)):=by rw[<- H,ay (by omega),show A.length+8-A.length=8 by omega];rfl
 refine(zN (ρ1:=[some u,some (.xc x),none,some (.ref (A.length+8))]) (A1:=B) ((j7 (A1:=B) (yu (k:=true) ?_)).trans rfl)).trans (qA (qZ ?_))
 ·rcases two with ⟨rfl,rfl⟩|⟨rfl,rfl⟩|⟨rfl,rfl⟩<;>kernel_rfl
 have e:=PL (cap:=[3]) (mi:=jG (zU (.int 15))) (j:=yV 0 15) (ifs:=zj zJ zw zm) (me:=qj 0) (ρ:=[some u,some (.xc x),none,some (.ref (A.length+8))]) (A:=B) (N:=15) (item:=λk=>.int (0+(k:Int))) (g:=λk=>.int (0+(k:Int))) (keep:=λk=>decide (k=i)) rfl rfl (by unfold qf;omega) (λk h=>g7 h) (gX (by omega))
  (λk h=>by
   refine(zT (zp (i:=1) (w:=.ref (A.length+8)) rfl) (zp (i:=0) (w:=.int (0+(k:Int))) rfl)).trans ?_;rw[bO];refine gz hm ?_;unfold qG;rw[ax,List.getElem?_range' (by omega)]
   simp) (λk h _=>rfl)
 rw[kS e,l];have hf:((List.range 15).filter λk=>decide (k=i)).map (λk:Nat=>W.int (0+(k:Int)))=[.int i]:=by
  rcases two with ⟨rfl,rfl⟩|⟨rfl,rfl⟩|⟨rfl,rfl⟩<;>rfl
 rw[hf,<- H,aO]
 rfl
def ic (h:gB x=some i):jc.contains x=true:=by
 rcases Pl h with ⟨rfl,_⟩|⟨rfl,_⟩|⟨rfl,_⟩<;>decide +kernel
abbrev LS:List Lm:=kT QV Qc Q8 Q2
def RF (k:Nat)(ws:List W)(A:Hx):R W:=match yX LS k ws A with
 |.exc x A1=>(match gB x with
  |some i=>.ok (.ref (A1.length+9)) (A1++GX i)|none=>.bad)
 |_=>.bad
def B7 {PG:jW}(H:yX LS k ws A=.exc x A1)(h:gB x=some i):
  qV 4 (Kj PG (yX LS)) [.clo k ws (PG k)] A=.ok (.ref (A1.length+9)) (A1++GX i):=by
 have E:Xf 0 PG (yX LS) [some (.clo k ws (PG k)),some .non,none,none] A=.exc x A1:=by
  unfold Xf;refine(ah rfl).trans H
 have e:We 0 1 2 jc PG (yX LS) [some (.clo k ws (PG k)),some .non,none,none] A=.ok (.nx [some (.clo k ws (PG k)),some (.xc x),none,none]) A1:=by
  unfold We;rw[E];dsimp only;rw[ah (ic h)]
  rfl
 refine qT ?_;unfold Kj;refine(zN (ρ1:=[some (.clo k ws (PG k)),some .non,none,none]) (A1:=A) rfl).trans ?_;exact(zN e).trans (Dw h _ A1)
def Td (H:yX LS k ws A=.exc x A1)(h:gB x=some i):RF k ws A=.ok (.ref (A1.length+9)) (A1++GX i):=by
 unfold RF;rw[H];dsimp only;rw[h]
def ie {PG:jW}(us:List W)(A:Hx):Za PG RF us A=.bad∨qV 4 (Kj PG (yX LS)) us A=Za PG RF us A:=by
 by_cases H:Za PG RF us A=.bad
 ·exact .inl H
 right
 unfold Za at H ⊢
 split
 ·rename_i k ws P
  dsimp only at H
  by_cases a:P=PG k
  ·subst a
   rw[ah rfl]at H ⊢;cases e:yX LS k ws A with
   |exc x A1=>
    cases hm:gB x with
    |none=>exfalso;apply H;unfold RF;rw[e];dsimp only;rw[hm]|some i=>rw[B7 e hm,Td e hm]
   |ok w A1=>exfalso;apply H;unfold RF;rw[e]|bad=>exfalso;apply H;unfold RF;rw[e]
  ·rw[aj a]at H;exact absurd rfl H
 ·rename_i h
  exfalso
  apply H
  split
  ·rename_i k ws P
   exact(h k ws P rfl).elim
  ·rfl
section
def O8 {t:Lm}(h:ls[k]? =some t):yX ls k ws A=t.m (ws.map some) A:=by unfold yX;rw[h]
end
def WR:gB "NoTable"=some 0:=by decide +kernel
def Pr:gB "NoLot"=some 6:=by decide +kernel
def Vk:gB "NoKinds"=some 7:=by decide +kernel
section
variable {A0:Hx}{PF:jW}{c g:Nat}{ks:bY}
def kE (g i:Nat):Hx:=(List.replicate i (GX g)).flatten
def Gu (g i:Nat):(kE g i).length=10 * i:=by
 unfold kE;rw[len_rep];show i * 10=_;omega
def OW (g i:Nat):kE g i++GX g=kE g (i+1):=by
 unfold kE;rw[List.replicate_succ',List.flatten_append];simp
theorem Mm (g:Nat):∀(i t:Nat),t<i->(kE g i)[10 * t+9]? =some (.lst [.int (g:Int)])
 |0,_,h=>absurd h (Nat.not_lt_zero _)|i+1,t,h=>by
  rw[<- OW]
  by_cases H:t<i
  ·rw[ao (by rw[Gu];omega)]
   exact Mm g i t H
  ·have:t=i:=by omega
   subst this;rw[ay (by rw[Gu];omega),Gu,show 10 * t+9-10 * t=9 by omega]
   rfl
def Wl (g:Nat)(a:Hx)(ρ:En)(ks:bY):Prop:=∀k∈ks,∃t ws,LS[k]? =some t/\wA t.idx ρ=some ws/\∀A,Ext a A->RF k ws A=.ok (.ref (A.length+9)) (A++GX g)
def ig (h:Wl g A0 ρ ks)(b:Ext A0 A)(H:k∈ks):QI 0 PF LS RF ρ [some (.clo k [] (PF k))] A=.ok (.ref (A.length+9)) (A++GX g):=by
 obtain⟨t,ws,d,c,a⟩:=h k H;unfold QI;refine(ah rfl).trans ?_;rw[d];dsimp only;rw[c];exact a A b
def Av (h:Wl g A0 ρ ks)(b:Ext A0 A)(d:A[c]? =some (O.lst (ks.map λk=>.clo k [] (PF k))))(l:ks.length<=100):∀(f i:Nat)(x:Option W),i+f=ks.length->∃y,
  qU ⟨λA i=>(zV (.ref c) A).map λws=>ws[i]?,ks.length⟩ (zH 0) (zU (.bl true)) (zQ (QI 0 PF LS RF ρ)) f i [x] ((List.range' 0 i).map λt=>W.ref (A.length+(10 * t+9))) (A++kE g i)=
   .ok ([y],(List.range' 0 ks.length).map λt=>W.ref (A.length+(10 * t+9))) (A++kE g ks.length):=by
 intro f
 induction f with
 |zero=>
  intro i x hi
  have:i=ks.length:=by omega
  subst this;refine⟨x,EX ?_⟩;have a:=Ext.at (A':=A++kE g ks.length) ⟨_,rfl⟩ d;show((zV (.ref c) _).map λws=>ws[ks.length]?)=some none;rw[MY a,aE (by simp)]
 |succ f I=>
  intro i x hi;have H:i<ks.length:=by omega
  obtain⟨y,e⟩:=I (i+1) (some (.clo ks[i] [] (PF ks[i]))) (by omega)
  refine⟨y,?_⟩;have a:=Ext.at (A':=A++kE g i) ⟨_,rfl⟩ d;rw[E2 (w:=.clo ks[i] [] (PF ks[i])) (y:=.ref ((A++kE g i).length+9)) (A1:=A++kE g i++GX g) ?_ (ig h (b.trans ⟨_,rfl⟩) (aM H)) (by simp;unfold qf;omega)]
  ·have j:A++kE g i++GX g=A++kE g (i+1):=by rw[aO,OW]
   have E:((List.range' 0 i).map λt=>W.ref (A.length+(10 * t+9)))++[W.ref ((A++kE g i).length+9)]=(List.range' 0 (i+1)).map λt=>W.ref (A.length+(10 * t+9)):=by
    rw[List.range'_concat,aL,List.map_singleton,aw,Gu]
    congr 3
    omega
   rw[j,E];exact e
  ·show((zV (.ref c) _).map λws=>ws[i]?)=some (some _)
   rw[MY a,ax,aa H]
   rfl
def O1 {op:W->W->Hx->R W}{x:W}(w:∀{A:Hx}{a b:W}{d:PyData},qm A 8 a=some d->qm A 8 b=some d->PyData.eqv d d=true->op a b A=.ok x A)(h:Wl g A0 ρ ks)(b:Ext A0 A)(r:A[c]? =some (O.lst (ks.map λk=>.clo k [] (PF k))))(o:ρ[7]? =some (some (.ref c)))(z:ks.length<=100)(hn:n=ks.length)
  (he:PyData.eqv (.list (List.replicate ks.length (.list [.int (g:Int)]))) (.list (List.replicate ks.length (.list [.int (g:Int)])))=true):
  ∃A',zj op (qu (JV 1 (qe yA) (zH 0) 0 PF LS RF)) (zj jk (zX (zc (zX (zc (zU (.int (g:Int))) zl)) zl)) (zU (.int n))) ρ A=.ok x A'/\Ext A A':=by
 subst hn;obtain⟨y,e⟩:=Av (PF:=PF) h b r z ks.length 0 none (by omega)
 have u:JV 1 (qe yA) (zH 0) 0 PF LS RF ρ A=.ok ((List.range' 0 ks.length).map λt=>W.ref (A.length+(10 * t+9))) (A++kE g ks.length):=by
  unfold JV zW;rw[h9 (zp o) r,zL];have p:(ks.map λk=>W.clo k [] (PF k)).length=ks.length:=by simp
  dsimp only;rw[p];have L:qU ⟨λA i=>(zV (.ref c) A).map λws=>ws[i]?,ks.length⟩ (zH 0) qh (zQ (QI 0 PF LS RF ρ)) ks.length 0 (Qw 1 [] ρ) [] A=.ok ([y],(List.range' 0 ks.length).map λt=>W.ref (A.length+(10 * t+9))) (A++kE g ks.length):=by
   have:=e
   rw[show kE g 0=[] from rfl,a8]at this
   exact this
  rw[L]
  rfl
 have H:∀t,t<ks.length->(A++kE g ks.length)[A.length+(10 * t+9)]? =some (.lst [.int (g:Int)]):=λt j=>by
  rw[ay (by omega),show A.length+(10 * t+9)-A.length=10 * t+9 by omega]
  exact Mm _ _ _ j
 generalize K:A++kE g ks.length=B at u H;have s:=kS u;generalize f:((List.range' 0 ks.length).map λt=>W.ref (A.length+(10 * t+9)))=acc at s;have E:zj jk (zX (zc (zX (zc (zU (.int (g:Int))) zl)) zl)) (zU (.int ks.length)) ρ (B++[O.lst acc])=
   .ok (.ref (B++[O.lst acc]++[O.lst [.int (g:Int)]]++[O.lst [.ref (B++[O.lst acc]).length]]).length) (B++[O.lst acc]++[O.lst [.int (g:Int)]]++[O.lst [.ref (B++[O.lst acc]).length]]++[O.lst (List.replicate ks.length (.ref (B++[O.lst acc]).length))]):=by
  refine(zT (x:=.ref (B++[O.lst acc]++[O.lst [.int (g:Int)]]).length) (y:=.int ks.length) (A1:=B++[O.lst acc]++[O.lst [.int (g:Int)]]++[O.lst [.ref (B++[O.lst acc]).length]]) (j0 (zF (j0 (ws:=[.int (g:Int)]) (A1:=B++[O.lst acc]) rfl) rfl)) rfl).trans ?_;unfold jk;dsimp only;rw[qJ];dsimp only;rw[ah ?_,aK,List.flatten_replicate_singleton];rw[ak,ai,aK];refine⟨Pf (by omega),?_⟩
  show 1 * ks.length<=qf;unfold qf;omega
 generalize J:B++[O.lst acc]++[O.lst [.int (g:Int)]]++[O.lst [.ref (B++[O.lst acc]).length]]=C at E;have q:Ext B (B++[O.lst acc]):=.one;have X:Ext (B++[O.lst acc]++[O.lst [.int (g:Int)]]) (C++[O.lst (List.replicate ks.length (.ref (B++[O.lst acc]).length))]):=by rw[<- J];exact Ext.one.trans .one
 have v:Ext A (C++[O.lst (List.replicate ks.length (.ref (B++[O.lst acc]).length))]):=Ext.trans ⟨_,K.symm⟩ (q.trans (Ext.one.trans X));have l:∀D:Hx,(∀t,t<ks.length->D[A.length+(10 * t+9)]? =some (O.lst [.int (g:Int)]))->j9 (qm D 7) acc=some (List.replicate ks.length (.list [.int (g:Int)])):=λD I=>by
  rw[<- f];exact PR _ _ λt _ j=>O3 (I t (by omega))
 refine⟨_,(zT s E).trans (w (d:=.list (List.replicate ks.length (.list [.int (g:Int)]))) ?_ ?_ he),v⟩
 ·refine OZ (k:=7) ((Ext.one.trans X).at qJ) ?_
  exact l _ λt j=>(q.trans (Ext.one.trans X)).at (H t j)
 ·refine OZ (k:=7) qJ ?_
  exact OY (O3 (X.at qJ)) _
variable {t:Lm}
def KO (h:A[1]? =some (.tab qB Pt))(k:Nat):yh 1 qB Pt k (PF k) ρ A=.ok (.clo k [] (PF k)) A:=by
 unfold yh;rw[h];dsimp only;rw[ah ⟨rfl,rfl⟩]
def Pu (d:A[1]? =some (.tab qB Pt))(H:LS[k]? =some t)(c:wA t.idx ρ=some ws)(a:yX LS k ws A=.exc x A)(h:gB x=some g):∃B,zj jf (Jg LS PF (Jn RF) (zc (yh 1 qB Pt k (PF k)) zl)) (zX (zc (zU (.int (g:Int))) zl)) ρ A=.ok (.bl false) B/\Ext A B:=by
 have e:Jg LS PF (Jn RF) (zc (yh 1 qB Pt k (PF k)) zl) ρ A=.ok (.ref (A.length+9)) (A++GX g):=by
  unfold Jg;rw[zF (KO d k) zY,zL]
  have:ZX LS PF ρ [.clo k [] (PF k)]=some [.clo k ws (PF k)]:=by
   unfold ZX Wq;dsimp only;rw[ah rfl,H];dsimp only;rw[c]
   rfl
  rw[this];exact Td a h
 have x1:Ext A (A++GX g):=⟨_,rfl⟩;have b:(A++GX g)[A.length+9]? =some (.lst [.int (g:Int)]):=by rw[ay (by omega),show A.length+9-A.length=9 by omega];rfl
 refine⟨A++GX g++[.lst [.int (g:Int)]],(zT e (j0 (zF qy zY))).trans ((Ka (l:=[(g:Int)]) (m:=[(g:Int)]) (jT b) qJ).trans ?_),x1.app⟩;rw[az rfl]<;>rfl
end
section
variable {w:W}
def Bo (h:qp t)(A:Hx):ZG [zx t] A=.ok (.bl true) A:=AF h A
def AI (h:wj A w):ZG [w] A=.ok (.bl false) A:=h A λ_ _ z=>z
def Qe (h:qp t)(A:Hx):QT [zx t] A=.ok .non A:=by
 refine V5 (ρ:=[some (zx t)]) ?_;unfold XZ;refine(zN (ρ1:=[some (zx t)]) (A1:=A) ((j7 (A1:=A) ?_).trans rfl)).trans rfl;exact gc (yu (k:=true) ((qb (ws:=[zx t]) (A1:=A) rfl).trans (Bo h A)))
def W6 (h:wj A w):QT [w] A=.exc "NoTable" A:=by
 refine gW ?_;unfold XZ;exact wI ((kJ (A1:=A) (gc (yu (k:=false) ((qb (ws:=[w]) (A1:=A) rfl).trans (AI h))))).trans (wI rfl))
variable {a b:Nat}
def N4 {ty:Ty}(h:jP w A=some ty):(kM ty .int&&!kM ty .bl)=Zx w:=by
 cases w with
 |ref k=>
  unfold jP at h;dsimp only at h
  split at h
  ·cases h;rfl
  ·cases h;rfl
  ·cases h
 |clo _ _ _=>cases h|xc _=>cases h|_=>cases h;rfl
def Lc {a b:Ev}{p q:Bool}(h:a ρ A=.ok (.bl p) A)(H:b ρ A=.ok (.bl q) A):yW a b ρ A=.ok (.bl (p&&q)) A:=by
 cases p with
 |true=>exact(ZO h).trans H|false=>exact JP h
def Bx {ty:Ty}(h:jP w A=some ty):QY [w] A=.ok (.bl (Zx w)) A:=by
 unfold QY WX Pq;refine qT (qA (qZ ((Lc (ZZ (zp rfl) h) (yu (ZZ (zp rfl) h))).trans ?_)));rw[N4 h]
def O5 (h:qp t)(A:Hx):Km [zx t] A=.ok (.int (jg t)) A:=by
 refine ZQ (A1:=[]) (Xw t) rfl (qT ?_);unfold Rq;refine qA (qZ ((zT (Ur h rfl) qy).trans ?_));show R.ok (W.int (jg t-1+1)) []=_
 congr 2
 omega
def Gj (h:qp t)(A:Hx):gT [zx t] A=.ok (.int (jg t)) A:=by
 refine ZQ (A1:=[]) (Xw t) rfl (qT ?_);unfold RO;refine qA (qZ ((zT qy (Ur h rfl)).trans ?_));show R.ok (W.int (1+(jg t-1))) []=_
 congr 2
 omega
def len_tab (hi:ρ[i]? =some (some (zx t))):mQ qx (qg (qj i)) ρ A=.ok (.int (t.length:Int)) A:=by
 have:=Ta (ws:=t.map zy) (A:=A) hi
 rw[ag]at this;exact this
end
section
variable {f:Fn}{us:List W}
def VJ (v:Int)(A:Hx):qV 2 (QX f) [.int v,.int v] A=.ok (.bl true) A:=by
 refine qT ?_;unfold QX;refine(zN (ρ1:=[some (.int v),some (.int v)]) (A1:=A) ((j7 (A1:=A) rfl).trans rfl)).trans (qA (qZ ?_));exact(ZO (A1:=A) ((zT (zp (i:=0) rfl) (zp (i:=1) rfl)).trans ((QL _ _ _).trans (by rw[az rfl])))).trans rfl
def VO {x y:W}{ty:Ty}(H:zV x A=some ws)(h:zV y A=some ws)(T:jP x A=some ty)(t:jP y A=some ty)(a:ty=.tup∨ty=.lst)(l:ws.length<=1000)(hf:∀w∈ws,f [w,w] A=.ok (.bl true) A):qV 2 (QX f) [x,y] A=.ok (.bl true) A:=by
 refine qT ?_;unfold QX;have b:mQ qx (qg (qj 0)) [some x,some y] A=.ok (.int ws.length) A:=yq (kG (w:=x) (A1:=A) (zp rfl) H);have E:mQ qx (qg (qj 1)) [some x,some y] A=.ok (.int ws.length) A:=yq (kG (w:=y) (A1:=A) (zp rfl) h);have I:Xb .tup .lst (qj 1) [some x,some y] A=.ok (.bl true) A:=by
  unfold Xb;rw[zp (w:=y) rfl,zL,t];rcases a with rfl|rfl<;>rfl
 have n1:∀c,zj jf (yY c (qj 0)) (yY c (qj 1)) [some x,some y] A=.ok (.bl false) A:=λc=>(zT (ZZ (w:=x) (zp rfl) T) (ZZ (w:=y) (zp rfl) t)).trans ((LH _ _ _).trans (by rw[bt];rfl))
 refine qA ((kJ (A1:=A) I).trans ?_);refine(zN (ρ1:=[some x,some y]) (A1:=A) ((j7 (A1:=A) ((K8 (A1:=A) (n1 .tup)).trans (n1 .lst))).trans jK)).trans ?_;refine(zN (ρ1:=[some x,some y]) (A1:=A) ((j7 (A1:=A) ((zT b E).trans ((Sf _ _ _).trans (by rw[az rfl];rfl)))).trans jK)).trans (qA (qZ ?_))
 have z:QH (qj 0) (qj 1) [some x,some y] A=.ok (Ya x y ws.length) A:=by
  unfold QH;rw[zp (w:=x) rfl,zL,zp (w:=y) rfl,zL,H,h]
 have d:=Ft (A:=A) (cap:=[]) (ρ:=[some x,some y]) (me:=zA f (zc (qj 0) (zc (qj 1) zl))) (N:=ws.length) (u:=λi=>ws.getD i .non) (v:=λi=>ws.getD i .non) (g:=λ_=>.bl true) z rfl l
  (λi hi=>by
   show(match zV x A,zV y A with|some us,some vs=>some (zip2 us[i]? vs[i]?)|_,_=>none)=_
   rw[H,h];show some (zip2 ws[i]? ws[i]?)=_;rw[ae,aa hi];rfl)
  (by
   show(match zV x A,zV y A with|some us,some vs=>some (zip2 us[ws.length]? vs[ws.length]?)|_,_=>none)=_
   rw[H,h];show some (zip2 ws[ws.length]? ws[ws.length]?)=_;rw[aE (ar _)];rfl)
  (λi hi=>by
   have e:ws.getD i .non=ws[i]:=by rw[ae,aa hi];rfl
   rw[e];exact(qb (ws:=[ws[i],ws[i]]) (A1:=A) rfl).trans (hf _ (aM hi)))
 exact(yq d).trans (KN (p:=λ_=>true) λ_ _=>rfl)
def ij (v:Int)(A:Hx):ku [.int v,.int v] A=.ok (.bl true) A:=VJ v A
def El {r:bU}(h:r.length<=100)(A:Hx):Vh [zy r,zy r] A=.ok (.bl true) A:=
 VO (ws:=r.map W.int) (ty:=.tup) rfl rfl rfl rfl (.inl rfl) (by simp;omega) λw hw=>by
  obtain⟨v,_,rfl⟩:=cy.mp hw;exact VJ v A
def CW {p q:Nat}{l:bU}(a:A[p]? =some (.lst (l.map W.int)))(H:A[q]? =some (.lst (l.map W.int)))(h:l.length<=100):ku [.ref p,.ref q] A=.ok (.bl true) A:=
 VO (ws:=l.map W.int) (ty:=.lst) (by unfold zV;dsimp only;rw[a]) (by unfold zV;dsimp only;rw[H]) (by unfold jP;dsimp only;rw[a]) (by unfold jP;dsimp only;rw[H]) (.inr rfl) (by simp;omega) λw hw=>by
  obtain⟨v,_,rfl⟩:=cy.mp hw;exact VJ v A
end
section
def rep1 (w:W):∀n:Nat,(List.replicate n [w]).flatten=(List.range n).map λ_=>w:=λn=>by
 rw[List.map_const',aV]
 induction n with
 |zero=>rfl|succ n i=>rw[a7,aY,i];rfl
end
section
variable {w x:W}{PF:jW}{a:Ea}
def BE {m:Ev}{a:En}{w:W}(h:m ρ A=.ok w A1)(h':tw w ρ=some a):Jq m tw ρ A=.ok (.nx a) A1:=by
 unfold Jq;rw[h,zL,h']
def ik {a:W}(h:ρ[i]? =some (some a)):wA [i] ρ=some [a]:=by
 unfold wA;rw[h]
 rfl
def Yd {a b:W}(H:ρ[i]? =some (some a))(h:ρ[j]? =some (some b)):wA [i,j] ρ=some [a,b]:=by
 unfold wA;rw[H,ik h]
def TM {l:Nat}{a b c:W}(d:ρ[i]? =some (some a))(H:ρ[j]? =some (some b))(h:ρ[l]? =some (some c)):wA [i,j,l] ρ=some [a,b,c]:=by
 unfold wA;rw[d,Yd H h]
def NU {l:Nat}{x0 x1 x2 x3 x4 x5 x6 x7:Option W}(h:A[1]? =some (.tab qB Pt))(m:Ex):
  zo (zZ 7 (zX (zc (yh 1 qB Pt i (PF i)) zl))) (zo (jJ (jU yi yA (yh 1 qB Pt j (PF j)))) (zo (jJ (jU yi yA (yh 1 qB Pt l (PF l)))) m)) [x0,x1,x2,x3,x4,x5,x6,x7] A=
   m [x0,x1,x2,x3,x4,x5,x6,some (.ref A.length)] (A++[.lst ([i,j,l].map λk=>.clo k [] (PF k))]):=by
 have set_new:∀o o':O,(A++[o]).set A.length o'=A++[o']:=λo o'=>by rw[List.set_append_right _ _ (ar _),Nat.sub_self];rfl
 refine(zN (qW (j0 (zF (KO h i) zY)))).trans ?_;refine(zN (ρ1:=[x0,x1,x2,x3,x4,x5,x6,some (.ref A.length)]) (A1:=A++[.lst [.clo i [] (PF i),.clo j [] (PF j)]]) (ki (w:=.non) ?_)).trans ?_
 ·exact(Q4 (zp rfl) qJ (KO (jT h) j)).trans ((Yx qJ (by simp)).trans (by rw[set_new];rfl))
 refine zN (ki (w:=.non) ?_);exact(Q4 (zp rfl) qJ (KO (jT h) l)).trans ((Yx qJ (by simp)).trans (by rw[set_new];rfl))
def J0 {x:Str}{g:Nat}(H:yX LS k ws A=.exc x A)(h:gB x=some g):RF k ws A=.ok (.ref (A.length+9)) (A++GX g):=Td H h
end
def take_one {l:List α}{q:Nat}{x:α}(h:l[q]? =some x):l.take (q+1)=l.take q++[x]:=by
 rw[List.take_add_one,h]
 rfl
section
variable {m:bU}{v:Int}
def D3 (h:m.length<=100):qa (zy m) (.tup [.int v]) A=.ok (zy (m++[v])) A:=by
 unfold qa zy;dsimp only;rw[ah (by rw[ag];unfold qf;simp;omega),aL]
 rfl
end
structure QN (K:Nat)(ks:bU):Prop where
 lo:∀k∈ks,1<=k/\k<(K:Int)
 up:ks.Pairwise (· < ·)
 len:ks.length<=8
end G
namespace Mi
open PySem L2
noncomputable def Lx (r:bU):PyData:=.tuple (r.map .int)
theorem OV {f:W->Option PyData}{g:α->W}{h:α->PyData}(e:∀a,f (g a)=some (h a)):∀l:List α,j9 f (l.map g)=some (l.map h)
 |[]=>rfl|a::l=>by
  rw[aW,j9,e a,OV e l]
  rfl
def AE (A:Hx)(n:Nat)(r:bU):qm A (n+1) (zy r)=some (Lx r):=by
 show(j9 (qm A n) (r.map W.int)).map PyData.tuple=_;rw[OV (h:=PyData.int) (λi=>by cases n<;>rfl)]
 rfl
def Dp {j:jY}{ifs:Ev}{N:Nat}
  (p:∀i ρ acc A,i<N->I i ρ acc A->∃w ρ1,j.at_ A i=some (some w)/\tw w ρ=some ρ1/\∃A1 c a A2,ifs ρ1 A=.ok (.bl true) A1/\em ρ1 acc A1=.ok (c,a) A2/\I (i+1) c a A2)
  (H:∀ρ acc A,I N ρ acc A->j.at_ A N=some none):
  ∀(f i:Nat)(ρ:En)(acc:List W)(A:Hx),i<=N->N<=i+f->I i ρ acc A->∃e b A',qU j tw ifs em f i ρ acc A=.ok (e,b) A'/\I N e b A':=by
 intro f
 induction f with
 |zero=>
  intro i ρ acc A h h' d
  have:i=N:=by omega
  subst this;refine⟨ρ,acc,A,?_,d⟩;unfold qU;rw[H _ _ _ d]
 |succ f g=>
  intro i ρ acc A h h' d
  by_cases hi:i=N
  ·subst hi
   refine⟨ρ,acc,A,?_,d⟩;rw[qU,H _ _ _ d]
  ·obtain⟨w,ρ1,l,k,A1,c,a,A2,o,n,E⟩:=p i ρ acc A (by omega) d
   rw[qU,l];dsimp only;rw[k];dsimp only;rw[o,zL];dsimp only;rw[n,zL];exact g (i+1) _ _ _ (by omega) (by omega) E
def Pe {ifs:Ev}{p:W->Bool}(h:ρ[0]? =some (some (.tup ws)))(g:ws.length<=1000)(hi:∀w∈ws,ifs (some w::cap.map λi=>(ρ[i]?).join) A=.ok (.bl (p w)) A):zW 1 cap (qe zm) (zH 0) ifs (zQ zm) ρ A=.ok (ws.filter p) A:=by
 obtain⟨a,acc,B,e,_,f,d⟩:=Qb (nl:=1) (cap:=cap) (mi:=qe zm) (tw:=zH 0) (ifs:=ifs) (em:=zQ zm) (N:=ws.length) (ρ:=ρ) (A:=A)
  (I:=λi a acc B=>(∃y,a=y::cap.map λi=>(ρ[i]?).join)/\B=A/\acc=(ws.take i).filter p) (Qk (zp h)) rfl
  (λi a acc B H ⟨⟨y,c⟩,f,d⟩=>by
   subst c f d;have hm:ws[i]? =some ws[i]:=aa H;have t:ws.take (i+1)=ws.take i++[ws[i]]:=by rw[List.take_add_one,hm];rfl
   refine⟨ws[i],some ws[i]::cap.map λi=>(ρ[i]?).join,?_,rfl,?_⟩
   ·show((zV (.tup ws) B).map λws=>ws[i]?)=some (some ws[i])
    show some (ws[i]?)=_;rw[hm]
   ·have q:=hi ws[i] (aM H)
    cases b:p ws[i] with
    |true=>
     rw[b]at q;refine .inl ⟨B,_,_,B,q,ZL (zp rfl) ?_,⟨_,rfl⟩,rfl,?_⟩
     ·have:=bB p (ws.take i)
      rw[bc]at this;unfold qf;omega
     ·rw[t,filter_append,bG (by rw[b])]
      rfl
    |false=>
     rw[b]at q;refine .inr ⟨B,q,⟨_,rfl⟩,rfl,?_⟩;rw[t,filter_append,List.filter_cons_of_neg (l:=[]) (by rw[b];simp)]
     simp)
  (λa acc B _=>by
   show some (ws[ws.length]?)=_;rw[aE (ar _)]) ⟨⟨none,rfl⟩,rfl,rfl⟩
 subst f d;rw[bq]at e;exact e
end Mi
namespace G
open PySem L2 Mi
structure It (w:W):Prop where
 ty:∃ty,∀A,jP w A=some ty
 nr:w.nr=true
 dat:∃d,∀A,qm A 7 w=some d
def Qq (v:Int):It (.int v):=⟨⟨.int,λ_=>rfl⟩,rfl,⟨.int v,λ_=>rfl⟩⟩
def Mh (r:bU):It (zy r):=⟨⟨.tup,λ_=>rfl⟩,Qm r,⟨Lx r,λA=>AE A 6 r⟩⟩
noncomputable def kX (lo hi:Int):W->Bool
 |.int v=>decide (lo<=v)&&decide (v<=hi)|_=>false
noncomputable def yT (ws:List W):bU:=ws.map λw=>match w with
 |.int v=>v|_=>0
noncomputable def JZ (r:bU):Bool:=(List.range (r.length-1)).all λi=>decide (r.getD i 0<r.getD (i+1) 0)
theorem Uz {lo hi:Int}:∀{ws:List W},ws.all (kX lo hi)=true->ws=(yT ws).map W.int/\∀v∈yT ws,lo<=v/\v<=hi
 |[],_=>⟨rfl,λv a=>by cases a⟩|w::ws,h=>by
  rw[List.all_cons,ak]at h;obtain⟨c,b⟩:=Uz h.2;cases w with
  |int v=>
   have a:(decide (lo<=v)&&decide (v<=hi))=true:=h.1;rw[ak,ai,ai]at a;refine⟨?_,λu H=>?_⟩
   ·show W.int v::ws=W.int v::(yT ws).map W.int
    rw[<- c]
   ·have H:u∈v::yT ws:=H
    rcases cw.mp H with rfl|H
    ·exact a
    ·exact b u H
  |_=>cases h.1
def il {r:bU}(e:r=vs.map λ(v:Nat)=>(v:Int))(c:∀v∈vs,v<8)(s:vs.Pairwise (· < ·)):(List.range 8).filter (λi=>decide (i∈vs))=vs:=by
 have H:((List.range 8).filter λi=>decide (i∈vs)).Pairwise (· < ·):=List.Pairwise.filter _ bR;have h:∀x,x∈(List.range 8).filter (λi=>decide (i∈vs))↔x∈vs:=λx=>by
  rw[bJ,mem_range,ai];exact⟨λz=>z.2,λz=>⟨c x z,z⟩⟩
 generalize (List.range 8).filter (λi=>decide (i∈vs))=us at H h;clear e c
 induction us generalizing vs with
 |nil=>
  cases vs with
  |nil=>rfl|cons v vs=>exact absurd ((h v).mpr (au ..)) (by intro z;cases z)
 |cons u us I=>
  cases vs with
  |nil=>exact absurd ((h u).mp (au ..)) (by intro z;cases z)|cons v vs=>
   rw[List.pairwise_cons]at H s;have E:u=v:=by
    have a:=(h u).mp (au ..);have b:=(h v).mpr (au ..);rcases cw.mp a with a|a
    ·exact a
    ·rcases cw.mp b with b|b
     ·exact b.symm
     ·have:=s.1 u a
      have:=H.1 v b
      omega
   subst E
   congr 1
   refine I s.2 H.2 λx=>?_
   constructor
   ·intro z
    rcases cw.mp ((h x).mp (aq _ z)) with rfl|q
    ·exact absurd (H.1 x z) (aT _)
    ·exact q
   ·intro z
    rcases cw.mp ((h x).mpr (aq _ z)) with rfl|q
    ·exact absurd (s.1 x z) (aT _)
    ·exact q
def ip:∀{r:bU},JZ r=true->r.Pairwise (· < ·):=λ {r} h=>by
 rw[List.pairwise_iff_getElem];unfold JZ at h;rw[bA]at h;have st:∀i (hi:i+1<r.length),r[i]<r[i+1]:=λi hi=>by
  have:=of_decide_eq_true (h i (cz.mpr (by omega)))
  rw[ae,aa (by omega),ae,aa hi]at this
  exact this
 intro i j hi H a
 induction j with
 |zero=>omega|succ j I=>
  by_cases e:i=j
  ·subst e;exact st i H
  ·have:=I (by omega) (by omega)
   have:=st j H
   omega
def pw_ris {r:bU}(h:r.Pairwise (· < ·)):JZ r=true:=by
 unfold JZ;rw[bA];intro i hi;have hi:=cz.mp hi;rw[ai,ae,aa (by omega),ae,aa (by omega)]
 exact List.pairwise_iff_getElem.mp h i (i+1) (by omega) (by omega) (by omega)
section
variable {w:W}{lo hi:Int}{ty:Ty}{r:bU}
def Cm {ty:Ty}(h:jP w A=some ty):Ko [w] A=.ok (.bl (Zx w)) A:=by
 unfold Ko Vd RI;refine qT (qA (qZ ((Lc (ZZ (zp rfl) h) (yu (ZZ (zp rfl) h))).trans ?_)));rw[N4 h]
def Ni {a b c:Ev}{v:Int}(d:a ρ A=.ok (.int lo) A)(H:b ρ A=.ok (.int v) A)(h:c ρ A=.ok (.int hi) A):kx wm wm a b c ρ A=.ok (.bl (decide (lo<=v)&&decide (v<=hi))) A:=by
 unfold kx;rw[d,zL,H,zL];show R.bind (R.ok (W.bl (decide (lo<=v))) A) _=_;rw[zL]
 by_cases q:lo<=v
 ·rw[az q]
  dsimp only;rw[h,zL,Bool.true_and]
  rfl
 ·rw[aJ q]
  rfl
def Er (h:It w)(lo hi:Int)(A:Hx):Kg [w,.int lo,.int hi] A=.ok (.bl (kX lo hi w)) A:=by
 obtain⟨ty,H⟩:=h.ty;refine ZQ (A1:=[]) (by show(w.nr&&true)=true;rw[h.nr];rfl) rfl (qT ?_)
 unfold SK;refine qA (qZ ?_);have e:=(qb (ws:=[w]) (A1:=[]) (ρ:=[some w,some (.int lo),some (.int hi)]) (a:=zc (qj 0) zl) (A:=[]) rfl).trans (Bx (H []));cases w with
 |int v=>
  exact(ZO e).trans (Ni (zp rfl) (zp rfl) (zp rfl))
 |_=>exact JP e
def Cd (k:r.length<=100)(A:Hx):WU [zy r] A=.ok (.bl (JZ r)) A:=by
 unfold WU Vr;refine qT ?_;unfold R8;have H:kA (r.map W.int) (some 1) none=(r.map W.int).drop 1:=by
  unfold kA;cases r with
  |nil=>rfl|cons v r=>
   have g:HT.qM ((v::r).map W.int).length 0 (some 1)=1:=by unfold HT.qM;simp
   have f:HT.qM ((v::r).map W.int).length ((v::r).map W.int).length none=((v::r).map W.int).length:=rfl;rw[g,f];exact List.take_of_length_le (by rw[bL];exact ar _)
 have z:QH (qj 0) (yc (qj 0) (j5 (zU (.int 1))) yz) [some (zy r)] A=.ok (Ya (.tup (r.map W.int)) (.tup ((r.map W.int).drop 1)) (r.map W.int).length) A:=DU (zp rfl) (by
  unfold yc;rw[zp (w:=zy r) rfl,zL];show R.ok (W.tup (kA (r.map W.int) (some 1) none)) A=_;rw[H])
 obtain⟨d,acc,B,e,_,b,a⟩:=Dp (j:=Ya (.tup (r.map W.int)) (.tup ((r.map W.int).drop 1)) (r.map W.int).length) (tw:=kH 0 1) (ifs:=zU (.bl true)) (em:=zQ (zj Js (qj 0) (qj 1))) (N:=r.length-1)
  (I:=λi ρ acc B=>(∃c Y,ρ=[c,Y])/\B=A/\acc=(List.range i).map λi=>W.bl (decide (r.getD i 0<r.getD (i+1) 0)))
  (λi ρ acc B hi ⟨⟨c,Y,h⟩,b,a⟩=>by
   subst h b a;refine⟨.tup [.int (r.getD i 0),.int (r.getD (i+1) 0)],[some (.int (r.getD i 0)),some (.int (r.getD (i+1) 0))],?_,rfl,B,_,_,B,rfl,ZL (y:=.bl (decide (r.getD i 0<r.getD (i+1) 0))) ((zT (zp rfl) (zp rfl)).trans rfl) (by rw[ag,aV];unfold qf;omega),⟨_,_,rfl⟩,rfl,?_⟩
   ·show some (zip2 (r.map W.int)[i]? ((r.map W.int).drop 1)[i]?)=_
    rw[int_at (by omega),List.getElem?_drop,Nat.add_comm 1 i,int_at (by omega)]
    rfl
   ·rw[range_succ,aL]
    rfl)
  (λρ acc B _=>by
   show some (zip2 (r.map W.int)[r.length-1]? ((r.map W.int).drop 1)[r.length-1]?)=_;rw[aE (l:=(r.map W.int).drop 1) (by rw[bL,ag];exact ar _)]
   cases (r.map W.int)[r.length-1]?<;>rfl) (r.map W.int).length 0 [none,none] [] A (by omega) (by rw[ag];omega) ⟨⟨_,_,rfl⟩,rfl,rfl⟩
 subst b a;have E:zW 2 [] (QH (qj 0) (yc (qj 0) (j5 (zU (.int 1))) yz)) (kH 0 1) (zU (.bl true)) (zQ (zj Js (qj 0) (qj 1))) [some (zy r)] B=.ok ((List.range (r.length-1)).map λi=>W.bl (decide (r.getD i 0<r.getD (i+1) 0))) B:=by
  unfold zW;rw[z,zL];show(R.nox (qU _ _ _ _ (r.map W.int).length 0 [none,none] [] B)).bind _=_;rw[e]
  rfl
 refine qA (qZ ((yq E).trans ?_));show gH (λks=>ks.all id) _ B=_;unfold gH;rw[Kw];show R.ok (W.bl (((List.range (r.length-1)).map λi=>decide (r.getD i 0<r.getD (i+1) 0)).all id)) B=_;rw[all_map]
 rfl
def rw_N (h:jP w A=some ty)(hn:ty≠.tup):kQ [w,.int lo,.int hi] A=.ok (.bl false) A:=by
 unfold kQ Wz;refine qT ?_;unfold XN;exact qA ((kJ (yu (k:=false) ((ZZ (zp rfl) h).trans (by rw[U6 hn])))).trans (qA (qZ qy)))
def rw_T (l:ws.length<=100)(hw:∀x∈ws,It x)(A:Hx):kQ [.tup ws,.int lo,.int hi] A=.ok (.bl (ws.all (kX lo hi)&&JZ (yT ws))) A:=by
 unfold kQ Wz;refine qT ?_;unfold XN;refine(zN ((j7 (A1:=A) (yu (k:=true) rfl)).trans jK)).trans (qA (qZ ?_));have c:=YB (cap:=[1,2]) (A:=A) (ρ:=[some (.tup ws),some (.int lo),some (.int hi)]) (ws:=ws) (m:=qj 0) (me:=zA Kg (zc zm (zc zw (zc zB zl)))) (g:=λw=>.bl (kX lo hi w)) (zp rfl) (by unfold qf;omega) (λw h=>(qb (ws:=[w,.int lo,.int hi]) (A1:=A) rfl).trans (Er (hw w h) lo hi A))
 have E:mQ gI (zW 1 [1,2] (qe zm) (zH 0) qh (zQ (zA Kg (zc zm (zc zw (zc zB zl)))))) [some (.tup ws),some (.int lo),some (.int hi)] A=.ok (.bl (ws.all (kX lo hi))) A:=by
  refine(yq c).trans ?_;show gH (λks=>ks.all id) _ A=_;unfold gH;rw[Kw];show R.ok (W.bl ((ws.map (kX lo hi)).all id)) A=_;rw[all_map]
  rfl
 cases H:ws.all (kX lo hi) with
 |false=>
  rw[H]at E;exact JP E
 |true=>
  rw[H]at E;refine(ZO E).trans ((qb (ws:=[.tup ws]) (A1:=A) rfl).trans ?_);obtain⟨a,_⟩:=Uz H;have e:=Cd (r:=yT ws) (by unfold yT;rw[ag];exact l) A
  unfold zy at e;rw[<- a]at e;exact e
def iq (h:jP w A=some ty)(hn:ty≠.tup):wZ [w,.int lo,.int hi] A=.ok (.bl false) A:=by
 unfold wZ WJ;refine qT ?_;unfold X9;exact qA ((kJ (fv (yu (k:=false) ((ZZ (zp rfl) h).trans (by rw[U6 hn]))))).trans (qA (qZ qy)))
theorem Nm:∀{us:List W},(∀w∈us,∃d,qm A n w=some d)->∃ds,j9 (qm A n) us=some ds/\ds.length=us.length
 |[],_=>⟨[],rfl,rfl⟩|w::us,h=>by
  obtain⟨d,hd⟩:=h w (au ..);obtain⟨ds,e,l⟩:=Nm (us:=us) λx H=>h x (aq _ H);refine⟨d::ds,?_,by rw[bj,bj,l]⟩
  show(match qm A n w,j9 (qm A n) us with|some d,some ds=>some (d::ds)|_,_=>none)=_
  rw[hd,e]
def ne_nil {us:List W}{p q:Nat}(b:B[p]? =some (.lst us))(a:B[q]? =some (.lst []))(hw:∀w∈us,It w):jf (.ref p) (.ref q) B=.ok (.bl (!us.isEmpty)) B:=by
 obtain⟨ds,e,H⟩:=Nm (A:=B) (n:=7) (us:=us) λw h=>by obtain⟨d,hd⟩:=(hw w h).dat;exact⟨d,hd B⟩
 have c:qm B 8 (.ref p)=some (.list ds):=by
  show(match zV (.ref p) B with|some ws=>(j9 (qm B 7) ws).map PyData.list|none=>none)=_
  have:zV (.ref p) B=some us:=by unfold zV;dsimp only;rw[b]
  rw[this];dsimp only;rw[e]
  rfl
 have E:qm B 8 (.ref q)=some (.list []):=by
  show(match zV (.ref q) B with|some ws=>(j9 (qm B 7) ws).map PyData.list|none=>none)=_
  have:zV (.ref q) B=some []:=by unfold zV;dsimp only;rw[a]
  rw[this]
  rfl
 show wy true _ _ B=_;unfold wy;rw[c,E];dsimp only;rw[ah rfl];cases us with
 |nil=>
  have:ds=[]:=List.length_eq_zero_iff.mp H
  subst this;simp[PyData.eqv,PyData.eqvAll]
 |cons w us=>
  cases ds with
  |nil=>cases H|cons d ds=>simp[PyData.eqv,PyData.eqvAll]
def ir (U:ws.length<=100)(hw:∀x∈ws,It x)(h0:0<=lo)(X:hi<8)(A:Hx):∃b B,wZ [.tup ws,.int lo,.int hi] A=.ok (.bl b) B/\Ext A B/\((ws.all (kX lo hi)&&JZ (yT ws))=true->b=true):=by
 unfold wZ WJ;unfold X9;have K:=kS (Pe (cap:=[]) (ρ:=[some (.tup ws),some (.int lo),some (.int hi)]) (A:=A) (ifs:=jO (zA Ko (zc (qj 0) zl))) (p:=λw=>!Zx w) rfl (by omega) (λw h=>by
  obtain⟨ty,N⟩:=(hw w h).ty;exact yu ((qb (ws:=[w]) (A1:=A) rfl).trans (Cm (N A)))))
 have L:=(zT K (j0 zY)).trans (ne_nil (jT (u:=.lst []) (qJ (A:=A) (u:=.lst (ws.filter λw=>!Zx w)))) qJ λw h=>hw w (List.mem_filter.mp h).1);generalize D:A++[O.lst (ws.filter λw=>!Zx w)]++[O.lst []]=A2 at L;have x2:Ext A A2:=⟨_,by rw[<- D,aO]⟩
 have E:=(K8 (ma:=jO (yY .tup (qj 0))) (A1:=A) (ρ:=[some (.tup ws),some (.int lo),some (.int hi)]) (yu (k:=true) rfl)).trans L;cases q:(ws.filter λw=>!Zx w).isEmpty with
 |false=>
  rw[q]at E;refine⟨false,A2,qT (qA ((kJ E).trans (qA (qZ qy)))),x2,λz=>?_⟩;exfalso;rw[ak]at z;have H:=cB.mp z.1
  have:(ws.filter λw=>!Zx w)=[]:=List.filter_eq_nil_iff.mpr λw h=>by
   have:=H w h
   cases w with
   |int v=>simp[Zx]|_=>cases this
  rw[this]at q;cases q
 |true=>
  rw[q]at E;have hint:∀w∈ws,Zx w=true:=λw h=>by
   have I:=List.filter_eq_nil_iff.mp (List.isEmpty_iff.mp q) w h;cases d:Zx w with
   |true=>rfl|false=>exact absurd (by rw[d];rfl) I
  have J:=kS (Pe (cap:=[1,2]) (ρ:=[some (.tup ws),some (.int lo),some (.int hi)]) (A:=A2) (ifs:=jO (kx wm wm (qj 1) (qj 0) (qj 2))) (p:=λw=>!kX lo hi w) rfl (by omega) (λw h=>by
   have o:=hint w h;cases w with
   |int v=>
    exact yu (k:=kX lo hi (.int v)) (Ni (zp rfl) (zp rfl) (zp rfl))
   |_=>cases o))
  have j:=(zT J (j0 zY)).trans (ne_nil (jT (u:=.lst []) (qJ (A:=A2) (u:=.lst (ws.filter λw=>!kX lo hi w)))) qJ λw h=>hw w (List.mem_filter.mp h).1);generalize C:A2++[O.lst (ws.filter λw=>!kX lo hi w)]++[O.lst []]=e at j;have x3:Ext A2 e:=⟨_,by rw[<- C,aO]⟩
  cases c:(ws.filter λw=>!kX lo hi w).isEmpty with
  |false=>
   rw[c]at j;refine⟨false,e,qT ((zN ((j7 E).trans jK)).trans (qA ((kJ j).trans (qA (qZ qy))))),x2.trans x3,λz=>?_⟩;exfalso;rw[ak]at z;have H:=cB.mp z.1
   have:(ws.filter λw=>!kX lo hi w)=[]:=List.filter_eq_nil_iff.mpr λw h=>by rw[H w h];simp
   rw[this]at c;cases c
  |true=>
   rw[c]at j;have H:ws.all (kX lo hi)=true:=cB.mpr λw h=>by
    have I:=List.filter_eq_nil_iff.mp (List.isEmpty_iff.mp c) w h;cases d:kX lo hi w with
    |true=>rfl|false=>exact absurd (by rw[d];rfl) I
   obtain⟨s,d⟩:=Uz H;have hn:=VC (l:=yT ws) λv f=>by have:=d v f;omega
   have S:W5 (qj 0) [some (.tup ws),some (.int lo),some (.int hi)] (e++[.lst ws])=.ok (.ref (e++[O.lst ws]).length) (e++[.lst ws]++[.lst (((List.range 8).filter λi=>decide (i∈(yT ws).map Int.toNat)).map λ(i:Nat)=>W.int (i:Int))]):=by
    unfold W5;rw[zp (w:=.tup ws) rfl,zL];unfold VD;dsimp only
    have:intsOf ws=some (yT ws):=by
     have:=Yw (yT ws)
     rw[<- s]at this;exact this
    rw[this];dsimp only;rw[hn]
   have T:=(zT (g:=jd) (kS (kG (m:=qj 0) (ρ:=[some (.tup ws),some (.int lo),some (.int hi)]) (A:=e) (A1:=e) (w:=.tup ws) (ws:=ws) (zp rfl) rfl)) S).trans (hH (l:=yT ws) (m:=((List.range 8).filter λi=>decide (i∈(yT ws).map Int.toNat)).map λ(i:Nat)=>(i:Int)) (by rw[<- s];exact jT qJ) (by rw[aP];exact qJ))
   refine⟨_,_,qT ((zN ((j7 E).trans jK)).trans ((zN ((j7 j).trans jK)).trans (qA (qZ T)))),(x2.trans x3).trans (Ext.one.app),λz=>?_⟩;rw[ak]at z;have n:=ip z.2;rw[ai];have t:yT ws=((yT ws).map Int.toNat).map λ(v:Nat)=>(v:Int):=by
    rw[aP]
    have:(yT ws).map ((λ(v:Nat)=>(v:Int)) ∘ Int.toNat)=(yT ws).map id:=bw λv f=>by
     have:=d v f
     show((v.toNat:Nat):Int)=v;omega
    rw[this,map_id]
   rw[il (r:=yT ws) t (λv f=>by
    obtain⟨u,M,rfl⟩:=cy.mp f
    have:=d u M
    omega) (by
    rw[bH];refine List.Pairwise.imp_of_mem ?_ n;intro a b Q y P
    have:=d a Q
    have:=d b y
    omega)]
   exact t
end
section
variable {x ks:bU}{e K:Nat}{w:W}
def LQ (h:qp t)(H:jg t=(K:Int))(h0:ρ[0]? =some (some (zx t)))(A:Hx):zj yw (zA Km (zc zm zl)) zI ρ A=.ok (.int ((K:Int)-1)) A:=
 (zT ((qb (zF (zp h0) zY)).trans ((O5 h A).trans (by rw[H]))) qy).trans rfl
def iu (h:QN K ks)(A:Hx):kQ [zy ks,.int 1,.int ((K:Int)-1)] A=.ok (.bl true) A:=by
 have e:=rw_T (ws:=ks.map W.int) (lo:=1) (hi:=(K:Int)-1) (by rw[ag];have:=h.len;omega) (λx H=>by obtain⟨v,_,rfl⟩:=cy.mp H;exact Qq v) A
 have hi:yT (ks.map W.int)=ks:=by
  unfold yT;rw[aP];exact map_id _
 have b:(ks.map W.int).all (kX 1 ((K:Int)-1))=true:=cB.mpr λx H=>by
  obtain⟨v,a,rfl⟩:=cy.mp H
  have:=h.lo v a
  show(decide (1<=v)&&decide (v<=(K:Int)-1))=true;rw[ak,ai,ai];omega
 rw[hi,b,pw_ris h.up]at e;exact e
def GG (H:qp t)(a:jg t=(K:Int))(h:QN K ks)(A:Hx):Jy [zx t,zy ks] A=.ok .non A:=by
 refine V5 (ρ:=[some (zx t),some (zy ks)]) ?_;unfold XJ;exact(zN ((j7 (gc (yu (k:=true) ((qb (zF (zp rfl) (zF qy (zF (LQ H a rfl A) zY)))).trans (iu h A))))).trans jK)).trans jK
def UU (H:qp t)(a:jg t=(K:Int))(h:kQ [w,.int 1,.int ((K:Int)-1)] A=.ok (.bl false) A):Jy [zx t,w] A=.exc "NoKinds" A:=by
 refine gW ?_;unfold XJ;exact wI ((kJ (gc (yu (k:=false) ((qb (zF (zp rfl) (zF qy (zF (LQ H a rfl A) zY)))).trans h)))).trans (wI rfl))
end
def jn (t:bT)(ks:bU)(l:bY)(p:Nat):Bool:=l.all λo=>decide (at2 t o p∈ks)
noncomputable def la (l:bY):Nat:=l.getLastD 0
def xt (t:bT)(ks:bU)(l:bY):List (bY):=(((List.range (t.length-(la l+1))).map λi=>la l+1+i).filter (jn t ks l)).map λp=>l++[p]
def Lv (t:bT)(ks:bU):Nat->List (bY)
 |0=>(List.range t.length).map λp=>[p]|k+1=>(Lv t ks k).flatMap (xt t ks)
structure kD (t:bT)(ks:bU)(l:bY):Prop where
 up:l.Pairwise (· < ·)
 lt:∀a∈l,a<t.length
 fr:l.Pairwise λa b=>at2 t a b∈ks
section
variable {ks:bU}{l m:bY}{p:Nat}
def GO:la (l++[p])=p:=by unfold la;simp
def NW (h:m.Pairwise (· < ·)){a:Nat}(H:a∈m):a<=la m:=by
 rcases eq_nil_or_concat m with rfl|⟨m',q,rfl⟩
 ·cases H
 ·rw[concat_eq_append]at h H ⊢
  rw[GO];rcases cC.mp H with H|H
  ·have:=(List.pairwise_append.mp h).2.2 a H q (cA.mpr rfl)
   omega
  ·rw[cA.mp H]
   exact ar _
def GK (h:m≠[]):la m∈m:=by
 rcases eq_nil_or_concat m with rfl|⟨m',q,rfl⟩
 ·exact absurd rfl h
 ·rw[concat_eq_append,GO]
  simp
def GI:l∈xt t ks m↔∃p,la m<p/\p<t.length/\jn t ks m p=true/\l=m++[p]:=by
 unfold xt;rw[mem_map]
 constructor
 ·rintro⟨p,a,rfl⟩
  obtain⟨H,h⟩:=List.mem_filter.mp a;obtain⟨i,hi,rfl⟩:=cy.mp H
  have:=cz.mp hi
  exact⟨_,by omega,by omega,h,rfl⟩
 ·rintro⟨p,H,h,b,rfl⟩
  refine⟨p,List.mem_filter.mpr ⟨cy.mpr ⟨p-(la m+1),cz.mpr (by omega),by omega⟩,b⟩,rfl⟩
def GN:jn t ks m p=true↔∀o∈m,at2 t o p∈ks:=by
 unfold jn;rw[bA];exact⟨λh o H=>of_decide_eq_true (h o H),λh o H=>az (h o H)⟩
theorem gD:∀{k:Nat}{l:bY},l∈Lv t ks k↔l.length=k+1/\kD t ks l
 |0,l=>by
  show l∈(List.range t.length).map (λp=>[p])↔_;rw[mem_map]
  constructor
  ·rintro⟨p,f,rfl⟩
   refine⟨rfl,aZ _ _,λa h=>?_,aZ _ _⟩;rw[cA.mp h];exact cz.mp f
  ·rintro⟨c,H⟩
   obtain⟨p,rfl⟩:=List.length_eq_one_iff.mp c;exact⟨p,cz.mpr (H.lt p (cA.mpr rfl)),rfl⟩
 |k+1,l=>by
  show l∈(Lv t ks k).flatMap (xt t ks)↔_;rw[List.mem_flatMap]
  constructor
  ·rintro⟨m,hm,i⟩
   obtain⟨c,H⟩:=gD.mp hm;obtain⟨p,g1,g2,g3,rfl⟩:=GI.mp i;refine⟨by rw[aw,c];rfl,List.pairwise_append.mpr ⟨H.up,aZ _ _,λa h b d=>?_⟩,λa h=>?_,List.pairwise_append.mpr ⟨H.fr,aZ _ _,λa h b d=>?_⟩⟩
   ·rw[cA.mp d]
    have:=NW H.up h
    omega
   ·rcases cC.mp h with h|h
    ·exact H.lt a h
    ·rw[cA.mp h];exact g2
   ·rw[cA.mp d]
    exact GN.mp g3 a h
  ·rintro⟨c,H⟩
   rcases eq_nil_or_concat l with rfl|⟨m,p,rfl⟩
   ·cases c
   ·rw[concat_eq_append]at c H ⊢
    rw[aw,aS]at c;obtain⟨U,_,u⟩:=List.pairwise_append.mp H.up;obtain⟨f1,_,j⟩:=List.pairwise_append.mp H.fr;have hm:kD t ks m:=⟨U,λa h=>H.lt a (mem_append_left _ h),f1⟩;have e:m≠[]:=by intro z;rw[z]at c;cases c
    refine⟨m,gD.mpr ⟨by omega,hm⟩,GI.mpr ⟨p,u _ (GK e) p (cA.mpr rfl),H.lt p (by simp),GN.mpr λo g=>j o g p (cA.mpr rfl),rfl⟩⟩
def wt (n:Nat)(l:bY):Nat:=2 ^ (n-1-la l)
noncomputable def sN (l:bY):Nat:=l.foldr (· + ·) 0
def iw (a b:bY):sN (a++b)=sN a+sN b:=by
 induction a with
 |nil=>simp[sN]|cons x a i=>
  show x+sN (a++b)=x+sN a+sN b;rw[i];omega
theorem Oc (q:α->Bool)(f:α->Nat):∀l:List α,sN ((l.filter q).map f)<=sN (l.map f)
 |[]=>ar _|x::l=>by
  have:=Oc q f l
  cases h:q x with
  |true=>
   rw[bG h];show f x+sN ((l.filter q).map f)<=f x+sN (l.map f);omega
  |false=>
   rw[List.filter_cons_of_neg (by rw[h];simp)]
   show sN ((l.filter q).map f)<=f x+sN (l.map f);omega
theorem T5:∀m:Nat,sN ((List.range m).map λi=>2 ^ (m-1-i))+1=2 ^ m
 |0=>rfl|m+1=>by
  rw[List.range_succ_eq_map,aW,aP];show 2 ^ (m+1-1-0)+sN _+1=_
  have:((λi=>2 ^ (m+1-1-i)) ∘ Nat.succ)=λi=>2 ^ (m-1-i):=funext λi=>by
   show 2 ^ (m+1-1-(i+1))=_
   congr 1
   omega
  rw[this];have e:=T5 m;have E:2 ^ (m+1-1-0)=2 ^ m:=by congr 1
  rw[E,Nat.pow_succ];omega
def iy (h:la m<t.length):sN ((xt t ks m).map (wt t.length))<wt t.length m:=by
 unfold xt;rw[aP];have a:((wt t.length) ∘ λp=>m++[p])=λp=>2 ^ (t.length-1-p):=funext λp=>by
  show 2 ^ (t.length-1-la (m++[p]))=_;rw[GO]
 rw[a];refine Nat.lt_of_le_of_lt (Oc _ _ _) ?_;rw[aP];have H:((λp=>2 ^ (t.length-1-p)) ∘ λi=>la m+1+i)=λi=>2 ^ (t.length-(la m+1)-1-i):=funext λi=>by
  show 2 ^ (t.length-1-(la m+1+i))=_
  congr 1
  omega
 rw[H]
 have:=T5 (t.length-(la m+1))
 unfold wt;have e:t.length-1-la m=t.length-(la m+1):=by omega
 rw[e];omega
theorem Lj:∀{L:List (bY)},(∀m∈L,la m<t.length)->sN ((L.flatMap (xt t ks)).map (wt t.length))<=sN (L.map (wt t.length))
 |[],_=>ar _|m::L,h=>by
  rw[List.flatMap_cons,aL,iw,aW];have b:=iy (ks:=ks) (h m (au ..));have a:=Lj (L:=L) λx H=>h x (aq _ H);show _<=wt t.length m+sN (L.map (wt t.length));omega
theorem NY (n:Nat):∀L:List (bY),L.length<=sN (L.map (wt n))
 |[]=>ar _|m::L=>by
  have H:=NY n L;have h:0<wt n m:=Nat.pos_of_ne_zero (by unfold wt;exact br (Nat.pow_pos (by omega)))
  show L.length+1<=wt n m+sN (L.map (wt n));omega
def iz {m:bY}(h:m∈Lv t ks k):la m<t.length:=by
 obtain⟨H,a⟩:=gD.mp h;exact a.lt _ (GK (by intro z;rw[z]at H;cases H))
theorem M5 (h:t.length<=8):∀k,sN ((Lv t ks k).map (wt t.length))<=255
 |0=>by
  show sN (((List.range t.length).map λp=>[p]).map (wt t.length))<=255;rw[aP]
  have:=T5 t.length
  have e:(wt t.length ∘ λp=>[p])=λi=>2 ^ (t.length-1-i):=rfl;rw[e]
  have:2 ^ t.length<=2 ^ 8:=Nat.pow_le_pow_right (by omega) h
  omega
 |k+1=>bb (Lj λm hm=>iz hm) (M5 h k)
def GV (h:t.length<=8)(k:Nat):(Lv t ks k).length<=255:=bb (NY t.length _) (M5 h k)
def C9 {β:Type}(L:List α)(f:α->List β)(i:Nat):((L.take i).flatMap f).length<=(L.flatMap f).length:=by
 have:L.flatMap f=(L.take i).flatMap f++(L.drop i).flatMap f:=by rw[<- List.flatMap_append,List.take_append_drop]
 rw[this,aw];omega
def MN {l:bY}(h:l.Nodup)(c:∀a∈l,a<n):l.length<=n:=by
 have:=GR n (l.map λ(a:Nat)=>(a:Int)) (List.pairwise_map.mpr (h.imp λH z=>H (by omega))) (λr b=>by
  obtain⟨a,d,rfl⟩:=cy.mp b
  have:=c a d
  omega)
 rwa[ag]at this
def kD.nd (h:kD t ks l):l.Nodup:=h.up.imp λH=>aI H
def kD.len (h:kD t ks l):l.length<=t.length:=MN h.nd h.lt
def iA:Lv t ks t.length=[]:=by
 rcases H:Lv t ks t.length with _|⟨l,L⟩
 ·rfl
 ·have h:l∈Lv t ks t.length:=by rw[H];exact au ..
  obtain⟨b,a⟩:=gD.mp h
  have:=a.len
  omega
structure Mo (t:bT)(ks:bU)(m:Nat):Prop where
 ex:∃l,kD t ks l/\l.length=m
 le:∀l,kD t ks l->l.length<=m
def Mo.uniq {a b:Nat}(h:Mo t ks a)(h':Mo t ks b):a=b:=by
 obtain⟨l,c,e⟩:=h.ex;obtain⟨L,H,E⟩:=h'.ex
 have:=h.le L H
 have:=h'.le l c
 omega
def kD.pre {l m:bY}(h:kD t ks (l++m)):kD t ks l:=
 ⟨(List.pairwise_append.mp h.up).1,λa H=>h.lt a (mem_append_left _ H),(List.pairwise_append.mp h.fr).1⟩
theorem kD.take (h:kD t ks l)(i:Nat):kD t ks (l.take i):=by
 have:l=l.take i++l.drop i:=(List.take_append_drop i l).symm
 rw[this]at h;exact h.pre
def M4 (f:Lv t ks k≠[])(d:Lv t ks (k+1)=[]):Mo t ks (k+1):=by
 obtain⟨l,L,c⟩:∃l L,Lv t ks k=l::L:=List.exists_cons_of_ne_nil f;have b:l∈Lv t ks k:=by rw[c];exact au ..
 obtain⟨e,g⟩:=gD.mp b;refine⟨⟨l,g,e⟩,λa h=>?_⟩;refine Nat.le_of_not_lt λH=>?_;have hm:a.take (k+2)∈Lv t ks (k+1):=gD.mpr ⟨by rw[bc];omega,h.take _⟩
 rw[d]at hm;cases hm
end
noncomputable abbrev nI (l:bY):bU:=l.map λ(a:Nat)=>(a:Int)
def lw (l:bY):W:=zy (nI l)
def YW (l:bY):(lw l).nr=true:=Qm _
def UM (L:List (bY)):jv (L.map lw)=true:=YI YW L
section
variable {ks:bU}{l m:bY}{p q:Nat}{C:Hx}{w:W}
def iB (v:Int)(r:bU):Z6 (.int v) (r.map W.int)=decide (v∈r):=by
 induction r with
 |nil=>rfl|cons x r i=>
  unfold Z6 at i ⊢;rw[aW,any_cons,i];show((x==v) || decide (v∈r))=_
  by_cases h:x=v
  ·subst h
   simp
  ·have:(x==v)=false:=by simp[h]
   rw[this,Bool.false_or];have h':¬v=x:=λz=>h z.symm;simp[h']
def N6 {b:Bool}(v:Int)(r:bU)(A:Hx):Z3 b (.int v) (zy r) A=.ok (.bl (if b then !decide (v∈r) else decide (v∈r))) A:=by
 unfold Z3;show(if gh (.int v)&&(r.map W.int).all gh then R.ok (W.bl (if b then !Z6 (.int v) (r.map W.int) else Z6 (.int v) (r.map W.int))) A else .bad)=_;rw[iB,ah];rw[all_map];show(true&&r.all λ_=>true)=true;simp
def N5 (f:α->Bool)(l:List α)(A:Hx):gI (l.map λx=>W.bl (f x)) A=.ok (.bl (l.all f)) A:=by
 show gH (λks=>ks.all id) _ A=_;unfold gH;rw[Kw];show R.ok (W.bl ((l.map f).all id)) A=_;rw[all_map]
 rfl
def NH (d:qp t)(i:l.length<=100)(h:∀a∈l,a<t.length)(f:p<t.length)(A:Hx):Jb [zx t,zy ks,lw l,.int (p:Int)] A=.ok (.bl (jn t ks l p)) A:=by
 refine ZQ (A1:=[]) (by show((zx t).nr&&((zy ks).nr&&((lw l).nr&&true)))=true;rw[ZM,Qm,YW];rfl) rfl (qT ?_)
 unfold Nd;have e:=YB (cap:=[0,1,3]) (A:=[]) (ρ:=[some (zx t),some (zy ks),some (lw l),some (.int (p:Int))]) (ws:=(nI l).map W.int) (m:=zB) (me:=zj Y8 (zj zJ (zj zJ zw zm) zO) zB) (g:=λw=>match w with|.int v=>.bl (decide (at2 t v.toNat p∈ks))|w=>w) (zp rfl) (by rw[ag,ag];unfold qf;omega) (λw hw=>by
  obtain⟨v,c,rfl⟩:=cy.mp hw;obtain⟨a,H,rfl⟩:=cy.mp c;refine(zT ((zT ((zT (zp rfl) (zp rfl)).trans (K4 (h a H))) (zp rfl)).trans (K3 ?_)) (zp rfl)).trans ?_
  ·rw[d.sq _ (wJ (h a H))];exact f
  ·exact N6 (b:=false) _ _ _)
 have em:(((nI l).map W.int).map λw=>match w with|.int v=>W.bl (decide (at2 t v.toNat p∈ks))|w=>w)=l.map λa=>W.bl (decide (at2 t a p∈ks)):=by
  rw[aP,aP];rfl
 rw[em]at e;exact qA (qZ ((yq e).trans (N5 _ l [])))
def AM {m m':Ev}{A2:Hx}{i j:Int}(h:m ρ A=.ok (.int i) A1)(h':m' ρ A1=.ok (.int j) A2)(hi:jD i=true)(H:jD j=true):Qy m m' ρ A=.ok (yV i (j-i).toNat) A2:=by
 unfold Qy;rw[h,zL,h',zL];dsimp only;rw[hi,H]
 rfl
def Al (hm:m≠[])(A:Hx):zJ (lw m) (.int (-1)) A=.ok (.int (la m:Int)) A:=by
 rcases eq_nil_or_concat m with rfl|⟨m',z,rfl⟩
 ·exact absurd rfl hm
 ·rw[concat_eq_append,GO]
  unfold zJ lw zy;show(match wg ((nI (m'++[z])).map W.int) (-1) with|some w=>R.ok w A|none=>R.bad)=_
  have e:(nI (m'++[z])).map W.int=(nI m').map W.int++[.int (z:Int)]:=by unfold nI;rw[aL,aL];rfl
  rw[e]
  have:wg ((nI m').map W.int++[W.int (z:Int)]) (-1)=some (.int (z:Int)):=by
   have H:(m'.length:Int)+1 ≥ 1:=by omega
   unfold wg gQ;simp only[aw,ag,aS];rw[aj (by omega),ah (by omega)]
   have h:((-1:Int)+((m'.length+1:Nat):Int)).toNat=((nI m').map W.int).length:=by rw[ag,ag];omega
   show((nI m').map W.int++[W.int (z:Int)])[_]? =_;rw[h];simp
  rw[this]
abbrev sE:Em:=Jj (Qy (zj qa (zj zJ zm (ju km zI)) zI) (mQ qx (qg zB))) (zH 1) (zA Jb (zc zB (zc zO (zc zm (zc zw zl))))) (zQ (zj qa zm (zG (zc zw zl))))
def Mk (h:m.length<=100):qa (lw m) (.tup [.int (p:Int)]) A=.ok (lw (m++[p])) A:=by
 have:=D3 (m:=nI m) (v:=(p:Int)) (A:=A) (by rw[ag];exact h)
 unfold lw;rw[this];unfold nI;rw[aL]
 rfl
def iC {y:Option W}{acc:List W}(g:qp t)(hm:m≠[])(k:∀a∈m,a<t.length)(q:m.length<=8)(J:acc.length<=50000):∃Y,sE [some (lw m),y,some (zx t),some (zy ks)] acc C=.ok ([some (lw m),Y,some (zx t),some (zy ks)],acc++(xt t ks m).map lw) C:=by
 have K:=g.n8;have s:=k _ (GK hm);have r:=AM (ρ:=[some (lw m),y,some (zx t),some (zy ks)]) (A:=C) (A1:=C) (A2:=C) (m:=zj qa (zj zJ zm (ju km zI)) zI) (m':=mQ qx (qg zB)) (i:=(la m:Int)+1) (j:=(t.length:Int)) ((zT ((zT (zp rfl) ((fq qy).trans rfl)).trans (Al hm C)) qy).trans rfl) (len_tab rfl) (by
  have:=ZI (n:=la m+1) (by omega)
  rw[Int.natCast_succ]at this;exact this) (ZI (by omega))
 have w:((t.length:Int)-((la m:Int)+1)).toNat=t.length-(la m+1):=by omega
 rw[w]at r;obtain⟨o,b,L,e,⟨Y,h⟩,v,d⟩:=ON (j:=yV ((la m:Int)+1) (t.length-(la m+1))) (tw:=zH 1) (ifs:=zA Jb (zc zB (zc zO (zc zm (zc zw zl))))) (em:=zQ (zj qa zm (zG (zc zw zl)))) (N:=t.length-(la m+1))
  (I:=λi ρ b D=>(∃y,ρ=[some (lw m),y,some (zx t),some (zy ks)])/\D=C/\b=acc++(((((List.range i).map λi=>la m+1+i).filter (jn t ks m)).map λp=>m++[p]).map lw))
  (λi ρ b D hi ⟨⟨y,h⟩,u,d⟩=>by
   subst h u d;have B:((la m:Int)+1+(i:Int))=((la m+1+i:Nat):Int):=by omega
   have z:=NH (ks:=ks) g (l:=m) (p:=la m+1+i) (by omega) k (by omega) D
   refine⟨.int ((la m+1+i:Nat):Int),[some (lw m),some (.int ((la m+1+i:Nat):Int)),some (zx t),some (zy ks)],(g7 hi).trans (by rw[B]),rfl,?_⟩
   have E:=(qb (f:=Jb) (ρ:=[some (lw m),some (.int ((la m+1+i:Nat):Int)),some (zx t),some (zy ks)]) (A:=D) (a:=zc zB (zc zO (zc zm (zc zw zl)))) (A1:=D) rfl).trans z;have c:=bB (jn t ks m) ((List.range i).map λi=>la m+1+i);rw[ag,aV]at c;have x:(List.range (i+1)).map (λi=>la m+1+i)=(List.range i).map (λi=>la m+1+i)++[la m+1+i]:=by rw[range_succ,aL];rfl
   cases H:jn t ks m (la m+1+i) with
   |true=>
    rw[H]at E;refine .inl ⟨D,_,_,D,E,ZL (y:=lw (m++[la m+1+i])) ((zT (zp rfl) (Q9 (zF (zp rfl) zY))).trans (Mk (by omega))) ?_,⟨_,rfl⟩,rfl,?_⟩
    ·rw[aw,ag,ag]
     unfold qf;omega
    ·rw[x,filter_append,bG H,List.filter_nil,aL,aL,aO]
     rfl
   |false=>
    rw[H]at E;refine .inr ⟨D,E,⟨_,rfl⟩,rfl,?_⟩;rw[x,filter_append,List.filter_cons_of_neg (l:=[]) (by rw[H];simp),List.filter_nil,a8])
  (λρ b D _=>gX (by omega)) (t.length-(la m+1)) 0 [some (lw m),y,some (zx t),some (zy ks)] acc C (by omega) ⟨⟨_,rfl⟩,rfl,by simp⟩
 subst h v d;refine⟨Y,?_⟩;show(Qy _ _ _ _).bind _=_;rw[r,zL];exact e
def NC {mm:Ev}(h:mm ρ A=.ok (.ref n) A1)(H:A1[n]? =some (.lst ws)):J7 mm ρ A=.ok (.bl (!ws.isEmpty)) A1:=by
 unfold J7;rw[h,zL];dsimp only;rw[H]
def iD (a:qp t){x2 x3:Option W}(f:A[p]? =some (.lst ((Lv t ks k).map lw))):qu (zW 2 [0,1] (qe zB) (zH 0) qh sE) [some (zx t),some (zy ks),some (.ref p),x3] A=.ok (.ref A.length) (A++[.lst ((Lv t ks (k+1)).map lw)]):=by
 have hlen:=GV (ks:=ks) a.n8 k;have H:=GV (ks:=ks) a.n8 (k+1);obtain⟨l,acc,C,e,_,o,c⟩:=Qb (nl:=2) (cap:=[0,1]) (mi:=qe zB) (tw:=zH 0) (ifs:=qh) (em:=sE) (N:=(Lv t ks k).length) (ρ:=[some (zx t),some (zy ks),some (.ref p),x3]) (A:=A)
  (I:=λi ρ acc D=>(∃g Y,ρ=[g,Y,some (zx t),some (zy ks)])/\D=A/\acc=(((Lv t ks k).take i).flatMap (xt t ks)).map lw) (KW (zp rfl) f) (by show((Lv t ks k).map lw).length=_;rw[ag])
  (λi ρ acc D hi ⟨⟨g,Y,b⟩,d,c⟩=>by
   subst b d c;have h:(Lv t ks k)[i]? =some (Lv t ks k)[i]:=aa hi;obtain⟨g1,g2⟩:=gD.mp (aM hi);have g3:=g2.len;have n:=C9 (Lv t ks k) (xt t ks) i;have j:((Lv t ks k).flatMap (xt t ks)).length<=255:=H;obtain⟨q,e⟩:=iC (ks:=ks) (m:=(Lv t ks k)[i]) (y:=Y) (acc:=(((Lv t ks k).take i).flatMap (xt t ks)).map lw) (C:=D) a (by intro z;rw[z]at g1;cases g1) g2.lt (by have:=a.n8;omega) (by rw[ag];omega)
   refine⟨lw (Lv t ks k)[i],[some (lw (Lv t ks k)[i]),Y,some (zx t),some (zy ks)],Mb f (by rw[ax,h];rfl),rfl,.inl ⟨D,_,_,D,rfl,e,⟨_,_,rfl⟩,rfl,?_⟩⟩
   rw[take_one h,List.flatMap_append,aL];simp)
  (λρ acc D ⟨_,d,_⟩=>by subst d;exact Mn f (by rw[ag];exact ar _)) ⟨⟨_,_,rfl⟩,rfl,rfl⟩
 subst o c;rw[bq]at e;exact kS e
abbrev sB:Ex:=zo (zZ 2 zO) (zo (zZ 3 (qu (zW 2 [0,1] (qe zB) (zH 0) qh sE))) zC)
theorem NR (b:qp t):∀(d k f p:Nat)(x2:Option W)(A:Hx),k+d=t.length->d<f->Lv t ks k≠[]->A[p]? =some (.lst ((Lv t ks k).map lw))->∃K q P B,Lv t ks K≠[]/\Lv t ks (K+1)=[]/\gJ (J7 zO) sB f [some (zx t),some (zy ks),x2,some (.ref p)] A=.ok (.nx [some (zx t),some (zy ks),some (.ref q),some (.ref P)]) B/\B[q]? =some (.lst ((Lv t ks K).map lw))
 |0,k,f,p,x2,A,a,hf,h,H=>by
  have:k=t.length:=by omega
  subst this;exact absurd iA h
 |d+1,k,0,p,x2,A,a,hf,h,H=>by omega|d+1,k,1,p,x2,A,a,hf,h,H=>by omega|d+1,k,f+2,p,x2,A,a,hf,h,H=>by
  have E:J7 zO [some (zx t),some (zy ks),x2,some (.ref p)] A=.ok (.bl true) A:=(NC (zp rfl) H).trans (by
   cases c:Lv t ks k with
   |nil=>exact absurd c h|cons l L=>rfl)
  have e:sB [some (zx t),some (zy ks),x2,some (.ref p)] A=.ok (.nx [some (zx t),some (zy ks),some (.ref p),some (.ref A.length)]) (A++[.lst ((Lv t ks (k+1)).map lw)]):=
   (zN ((qW (zp rfl)).trans rfl)).trans ((zN ((qW (iD (x2:=none) b H)).trans rfl)).trans jK)
  by_cases hn:Lv t ks (k+1)=[]
  ·refine⟨k,p,A.length,A++[.lst ((Lv t ks (k+1)).map lw)],h,hn,?_,jT H⟩
   have i:J7 zO [some (zx t),some (zy ks),some (.ref p),some (.ref A.length)] (A++[.lst ((Lv t ks (k+1)).map lw)])=.ok (.bl false) (A++[.lst ((Lv t ks (k+1)).map lw)]):=(NC (zp rfl) qJ).trans (by rw[hn];rfl)
   rw[gJ,E,zL];dsimp only;rw[e,zL];dsimp only;rw[gJ,i,zL]
  ·obtain⟨K,q,P,B,g1,g2,g3,g⟩:=NR b d (k+1) (f+1) A.length (some (.ref p)) (A++[.lst ((Lv t ks (k+1)).map lw)]) (by omega) (by omega) hn qJ
   refine⟨K,q,P,B,g1,g2,?_,g⟩;rw[gJ,E,zL];dsimp only;rw[e,zL];exact g3
def OB (h:qp t):∃k,Lv t ks k≠[]/\Lv t ks (k+1)=[]/\∀A:Hx,Ki [zx t,zy ks] A=.ok (.ref A.length) (A++[.lst ((Lv t ks k).map lw)]):=by
 have hm:=Q3 (k:=(t.length:Int)) (len_tab (A:=[.lst []]) (ρ:=[some (zx t),some (zy ks),some (.ref 0),none]) (i:=0) rfl) (ZI (by have:=h.n8;omega))
 rw[aK]at hm;have e:=kS (JF (cap:=[]) (me:=zG (zc zm zl)) (N:=t.length) (item:=λi=>.int (0+(i:Int))) (g:=λi=>lw [i]) hm rfl (by unfold qf;have:=h.n8;omega) (λi hi=>g7 hi) (gX (by omega)) (λi hi=>(Q9 (zF (zp rfl) zY)).trans (by rw[bO];rfl)))
 have E:((List.range t.length).map λi=>lw [i])=(Lv t ks 0).map lw:=by
  show _=((List.range t.length).map λp=>[p]).map lw;rw[aP]
  rfl
 rw[E]at e;have H:Lv t ks 0≠[]:=by
  intro z;have b:=h.n1
  have:((List.range t.length).map λp=>[p]).length=0:=by
   have Z:((List.range t.length).map λp=>[p])=[]:=z;rw[Z]
   rfl
  rw[ag,aV]at this;omega
 obtain⟨k,q,P,B,g1,g2,g3,a⟩:=NR (ks:=ks) h t.length 0 1000 1 (some (.ref 0)) ([.lst []]++[.lst ((Lv t ks 0).map lw)]) (by omega) (by have:=h.n8;omega) H rfl
 refine⟨k,g1,g2,λA=>KP (k:=q) (A1:=B) (by show((zx t).nr&&((zy ks).nr&&true))=true;rw[ZM,Qm];rfl) (qT ?_) a (UM _)⟩
 unfold SV;exact(zN ((qW (j0 zY)).trans rfl)).trans ((zN ((qW e).trans rfl)).trans ((zN (m1:=K7 1000 _ _) g3).trans (qA (qZ (zp rfl)))))
end
end G
namespace Mi
open PySem L2
def TE (m:Ev)(ρ:En)(ws:List W):Prop:=∀A,m ρ A=.ok (.tup ws) A
section
variable {m m':Ev}{xs ys:List W}{pl pu:Po}{l u:cb}
def YO (h:TE m ρ xs)(h':TE m' ρ ys)(H:xs.length+ys.length<=1000):TE (zj qa m m') ρ (xs++ys):=λA=>(zT (h A) (h' A)).trans (by
 unfold qa;dsimp only;rw[ah (by unfold qf;omega)])
def iE {A2 a:Hx}(h:m ρ A=.ok (.tup xs) A1)(b:pl ρ A1=.ok l A2)(H:pu ρ A2=.ok u a):yc m pl pu ρ A=.ok (.tup (kA xs l u)) a:=by
 unfold yc;rw[h,zL,b,zL,H,zL]
def GL (h:TE m ρ xs)(a:∀A,pl ρ A=.ok l A)(H:∀A,pu ρ A=.ok u A):TE (yc m pl pu) ρ (kA xs l u):=λA=>iE (h A) (a A) (H A)
def U0 {w:W}(h:∀A,m ρ A=.ok w A):TE (zG (zc m zl)) ρ [w]:=λA=>Q9 (zF (h A) zY)
def JL {x:W}(h:x∈kA xs l u):x∈xs:=List.mem_of_mem_drop (List.mem_of_mem_take h)
def GC:(kA xs l u).length<=xs.length:=by
 unfold kA;rw[bc,bL];omega
end
end Mi
namespace G
open PySem L2 Mi
def BR (A:Hx)(w:W):Prop:=(∃ws,w=.tup ws/\ws.length<=100/\∀x∈ws,It x)∨∃ty,jP w A=some ty/\ty≠.tup
def BR.mono {w:W}(k:Ky A B)(h:BR A w):BR B w:=by
 rcases h with h|⟨ty,h,hn⟩
 ·exact .inl h
 ·exact .inr ⟨ty,k _ _ h,hn⟩
def BR.ris {w:W}{lo hi:Int}(h:BR A w)(h0:0<=lo)(c:hi<8):∃b a B,kQ [w,.int lo,.int hi] A=.ok (.bl b) A/\wZ [w,.int lo,.int hi] A=.ok (.bl a) B/\Ext A B/\(b=true->a=true):=by
 rcases h with ⟨ws,rfl,H,hw⟩|⟨ty,h,hn⟩
 ·obtain⟨a,B,e,x,q⟩:=ir (lo:=lo) (hi:=hi) H hw h0 c A
  exact⟨_,a,B,rw_T H hw A,e,x,q⟩
 ·exact⟨false,false,A,rw_N h hn,iq h hn,Ext.refl,λz=>z⟩
section
variable {C:Hx}{w:W}{r:bU}{m:Ev}{a:Ea}
def EB (C:Hx)(m:Ev)(ρ:En):Prop:=∀A,Ext C A->∃w A1,m ρ A=.ok w A1/\Ext A A1/\BR A1 w
def AB (C:Hx)(a:Ea)(ρ:En)(k:Nat):Prop:=∀A,Ext C A->∃ws A1,a ρ A=.ok ws A1/\Ext A A1/\ws.length=k/\∀w∈ws,BR A1 w
def Mt:AB C zl ρ 0:=λA _=>⟨[],A,rfl,Ext.refl,rfl,λ_ h=>by cases h⟩
def Zk (h:EB C m ρ)(t:AB C a ρ k):AB C (zc m a) ρ (k+1):=λA x=>by
 obtain⟨w,A1,E,x1,c⟩:=h A x;obtain⟨ws,A2,e,x2,l,b⟩:=t A1 (x.trans x1);refine⟨w::ws,A2,zF E e,x1.trans x2,by rw[bj,l],λy H=>?_⟩
 rcases cw.mp H with rfl|H
 ·exact c.mono x2.ky
 ·exact b y H
def N0 {ty:Ty}(h:∀A,m ρ A=.ok w A)(hw:∀A,jP w A=some ty)(hn:ty≠.tup):EB C m ρ:=λA _=>⟨w,A,h A,Ext.refl,.inr ⟨ty,hw A,hn⟩⟩
def JU (h:TE m ρ ws)(l:ws.length<=100)(H:∀x∈ws,It x):EB C m ρ:=λA x=>⟨.tup ws,A,h A,Ext.refl,.inl ⟨ws,rfl,l,H⟩⟩
def iF:∀w∈([.int 0,.int (-1),.bl true,.non,.str "0",.tup [.int 0],.bl false,.int (10 ^ 29)]:List W),It w:=λw hw=>by
 simp only[mem_cons,bS,or_false]at hw;rcases hw with rfl|rfl|rfl|rfl|rfl|rfl|rfl|rfl
 ·exact Qq _
 ·exact Qq _
 ·exact⟨⟨.bl,λ_=>rfl⟩,rfl,⟨_,λ_=>rfl⟩⟩
 ·exact⟨⟨.non,λ_=>rfl⟩,rfl,⟨_,λ_=>rfl⟩⟩
 ·exact⟨⟨.str,λ_=>rfl⟩,rfl,⟨.str "0",λ_=>by show(if PyData.strOk (Str.ofString "0")=true then some (PyData.str (Str.ofString "0")) else none)=_;rw[ah (by decide +kernel)]⟩⟩
 ·exact Mh [0]
 ·exact⟨⟨.bl,λ_=>rfl⟩,rfl,⟨_,λ_=>rfl⟩⟩
 ·exact Qq _
def Ut {i:Int}(h:m ρ A=.ok (.int i) A):j5 m ρ A=.ok (some i) A:=by
 unfold j5;rw[h,zL]
def MD {far:Nat}(s:jb n A)(hr:r.length<=8)(hf:far<=8):∃w B,ZF [.ref n,.int (far:Int),zy r] A=.ok w B/\BR B w/\Kn n A B:=by
 unfold ZF XO;unfold SH;have Y:=Ta (ws:=r.map W.int) (ρ:=[some (.ref n),some (.int (far:Int)),some (zy r),none,none,none]) (i:=2) (A:=A) rfl;rw[ag]at Y;obtain⟨a,B1,e1,ha,k1,_⟩:=Zl (ρ:=[some (.ref n),some (.int (far:Int)),some (zy r),none,none,none]) (me:=zj qa (mQ qx (qg zB)) zI) (m:=(r.length:Int)+1) s rfl ((zT Y qy).trans rfl) (by omega) (by omega)
 obtain⟨v,S,e2,hv,k2,_⟩:=Zl (ρ:=[some (.ref n),some (.int (far:Int)),some (zy r),some (.int (a:Int)),none,none]) (me:=zj qa zw zI) (m:=(far:Int)+1) k1.st rfl ((zT (zp rfl) qy).trans rfl) (by omega) (by omega)
 have er:(zc zw (zc zP (zc (ju km zI) (zc qh (zc Zu (zc (zU (.str "0")) (zc (zG (zc zP zl)) (zc Ww (zc (zj JY Jr (zU (.int 29))) zl)))))))):Ea) [some (.ref n),some (.int (far:Int)),some (zy r),some (.int (a:Int)),none,none] S=.ok [.int (far:Int),.int 0,.int (-1),.bl true,.non,.str "0",.tup [.int 0],.bl false,.int (10 ^ 29)] S:=by
  refine zF (zp rfl) ?_
  kernel_rfl
 have eo:=j0 (zF e2 er);obtain⟨j,D,e3,hj,k3,_⟩:=Zl (ρ:=[some (.ref n),some (.int (far:Int)),some (zy r),some (.int (a:Int)),none,none]) (me:=zU (.int 10)) (k2.st.ext (Ext.one (o:=.lst [.int (v:Int),.int (far:Int),.int 0,.int (-1),.bl true,.non,.str "0",.tup [.int 0],.bl false,.int (10 ^ 29)]))) rfl qy (by decide:(0:Int)<10) (by decide)
 have hB2:=k2.st.lt;have L:=k3.kp.get (qJ (A:=S)) (by omega)
 have p:j < [W.int (v:Int),.int (far:Int),.int 0,.int (-1),.bl true,.non,.str "0",.tup [.int 0],.bl false,.int (10 ^ 29)].length:=by show j<10;omega
 obtain⟨f,J,ev⟩:∃f,It f/\zj zJ (zX (zc (zA jQ (zc zm (zc (zj qa zw zI) zl))) (zc zw (zc zP (zc (ju km zI) (zc qh (zc Zu (zc (zU (.str "0")) (zc (zG (zc zP zl)) (zc Ww (zc (zj JY Jr (zU (.int 29))) zl))))))))))) (zA jQ (zc zm (zc Jr zl))) [some (.ref n),some (.int (far:Int)),some (zy r),some (.int (a:Int)),none,none] B1=.ok f D:=by
  refine⟨_,?_,(zT eo e3).trans (gz L (aa p))⟩;have hm:=aM p;rcases cw.mp hm with h|hm
  ·rw[h];exact Qq _
  ·rcases cw.mp hm with h|hm
   ·rw[h];exact Qq _
   ·exact iF _ hm
 have k:Kn n A D:=((k1.trans k2).trans (Kn.ext k2.st Ext.one)).trans k3;generalize H:([some (.ref n),some (.int (far:Int)),some (zy r),some (.int (a:Int)),some f,none]:En)=ρ;have tt:TE zB ρ (r.map W.int):=λA=>by subst H;rfl
 have tl:(r.map W.int).length=r.length:=ag ..;have pi:∀x∈r.map W.int,It x:=λx d=>by obtain⟨v,_,rfl⟩:=cy.mp d;exact Qq v
 have E:∀A,qj 3 ρ A=.ok (.int (a:Int)) A:=λA=>by subst H;rfl
 have v4:∀A,qj 4 ρ A=.ok f A:=λA=>by subst H;rfl
 have Q:TE (yc zB yz (j5 zO)) ρ (kA (r.map W.int) none (some (a:Int))):=GL tt (λ_=>rfl) (λA=>Ut (E A));have c2:TE (yc zB (j5 zO) yz) ρ (kA (r.map W.int) (some (a:Int)) none):=GL tt (λA=>Ut (E A)) (λ_=>rfl);have c3:TE (yc zB (j5 (zj qa zO zI)) yz) ρ (kA (r.map W.int) (some ((a:Int)+1)) none):=GL tt (λA=>Ut ((zT (E A) qy).trans rfl)) (λ_=>rfl);have z1:=GC (xs:=r.map W.int) (l:=none) (u:=some (a:Int));have z2:=GC (xs:=r.map W.int) (l:=some (a:Int)) (u:=none);have z3:=GC (xs:=r.map W.int) (l:=some ((a:Int)+1)) (u:=none);have z4:=GC (xs:=r.map W.int) (l:=some (-1)) (u:=none);have two:∀{xs ys:List W},(∀x∈xs,It x)->(∀x∈ys,It x)->∀x∈xs++ys,It x:=λh1 h2 x d=>by
  rcases cC.mp d with d|d
  ·exact h1 x d
  ·exact h2 x d
 have one:∀x∈[f],It x:=λx d=>by rw[cA.mp d];exact J
 have sB:=k.st;obtain⟨ws,e,e4,x4,l4,h4⟩:=Zk (m:=zj qa (zj qa (yc zB yz (j5 zO)) (zG (zc jy zl))) (yc zB (j5 zO) yz)) (ρ:=ρ) (C:=D)
   (JU (YO (YO Q (U0 v4) (by simp;omega)) c2 (by rw[aw,aS];omega)) (by rw[aw,aw,aS];omega) (two (two (λx h=>pi x (JL h)) one) λx h=>pi x (JL h)))
  (Zk (m:=zj qa (zj qa (yc zB yz (j5 zO)) (zG (zc jy zl))) (yc zB (j5 (zj qa zO zI)) yz))
   (JU (YO (YO Q (U0 v4) (by simp;omega)) c3 (by rw[aw,aS];omega)) (by rw[aw,aw,aS];omega) (two (two (λx h=>pi x (JL h)) one) λx h=>pi x (JL h)))
  (Zk (m:=zj qa (yc zB yz (j5 zO)) (yc zB (j5 (zj qa zO zI)) yz))
   (JU (YO Q c3 (by omega)) (by rw[aw];omega) (two (λx h=>pi x (JL h)) λx h=>pi x (JL h)))
  (Zk (m:=qu (qg zB)) (λA _=>⟨_,_,kS (kG (tt A) rfl),Ext.one,.inr ⟨.lst,UQ,by decide⟩⟩) Mt))) D Ext.refl
 have s4:=sB.ext x4;have n4:n<e.length:=s4.lt;generalize c:ρ.set 5 (some (.ref e.length))=b;have t:TE zB b (r.map W.int):=λA=>by subst c H;rfl
 have P:TE (yc zB (j5 (ju km zI)) yz) b (kA (r.map W.int) (some (-1)) none):=GL t (λA=>rfl) (λ_=>rfl);have N:TE (YY zB (ju km zI)) b (r.map W.int).reverse:=λA=>by
  unfold YY;rw[t A,zL]
  have:j5 (ju km zI) b A=.ok (some (-1)) A:=rfl
  rw[this,zL];dsimp only;rw[ah rfl]
 obtain⟨us,z,e6,x6,l6,h6⟩:=Zk (m:=YY zB (ju km zI)) (ρ:=b) (C:=e++[.lst ws]) (JU N (by rw[List.length_reverse];omega) λx h=>pi x (List.mem_reverse.mp h))
  (Zk (m:=zj qa zB (yc zB (j5 (ju km zI)) yz)) (JU (YO t P (by omega)) (by rw[aw];omega) (two pi λx h=>pi x (JL h)))
  (Zk (m:=zU .non) (N0 (w:=.non) (ty:=.non) (λ_=>rfl) (λ_=>rfl) (by decide))
  (Zk (m:=J6) (λA _=>⟨.ref A.length,A++[.dct []],rfl,Ext.one,.inr ⟨.dct,by unfold jP;dsimp only;rw[qJ],by decide⟩⟩)
  (Zk (m:=zU (.int 0)) (N0 (w:=.int 0) (ty:=.int) (λ_=>rfl) (λ_=>rfl) (by decide))
  (Zk (m:=zG (zc zB zl)) (JU (U0 t) (by simp) (λx d=>by rw[cA.mp d];exact Mh r))
  (Zk (m:=zG zl) (JU (ws:=[]) (λA=>rfl) (by simp) (λx d=>by cases d)) Mt)))))) (e++[.lst ws]) Ext.refl
 have s6:=(s4.ext (Ext.one (o:=.lst ws))).ext x6;have I:(z++[O.lst us])[e.length]? =some (.lst ws):=jT (x6.at qJ);have Z:=(zT (ma:=qj 5) (mb:=zX (zc (YY zB (ju km zI)) (zc (zj qa zB (yc zB (j5 (ju km zI)) yz)) (zc Zu (zc J6 (zc zP (zc (zG (zc zB zl)) (zc (zG zl) zl)))))))) (ρ:=b) (A:=e++[.lst ws]) (x:=.ref e.length) (by subst c H;rfl) (j0 e6)).trans (KG I qJ (by unfold qf;omega))
 have x8:Ext z (z++[O.lst us]++[O.lst (ws++us)]):=Ext.one.app;generalize M:z++[O.lst us]++[O.lst (ws++us)]=B8 at Z x8;have h8:B8[(z++[O.lst us]).length]? =some (.lst (ws++us)):=by rw[<- M];exact qJ
 have T:=s6.ext x8;obtain⟨q,B9,e9,hq,K,_⟩:=Zl (ρ:=b) (me:=zU (.int 11)) T (by subst c H;rfl) qy (by decide:(0:Int)<11) (by decide)
 have g:q<(ws++us).length:=by rw[aw,l4,l6];omega
 have y:=K.kp.get h8 (by rw[aw];have:=x6.len;rw[aw]at this;omega)
 have X:Ext e B8:=((Ext.one (o:=.lst ws)).trans x6).trans x8;have kn:Kn n A B9:=((k.trans (Kn.ext sB x4)).trans (Kn.ext s4 X)).trans K;refine⟨(ws++us)[q],B9,qT ?_,?_,kn⟩
 ·refine(zN ((qW e1).trans rfl)).trans ((zN (ρ1:=ρ) (A1:=D) ((qW ev).trans (by subst H;rfl))).trans ((zN (ρ1:=b) (A1:=e++[.lst ws]) ((qW (j0 e4)).trans (by subst c;rfl))).trans (qA (qZ ?_))))
  exact(zT Z e9).trans (gz y (aa g))
 ·have U:=K.ky T
  rcases cC.mp (aM g) with hm|hm
  ·exact((h4 _ hm).mono X.ky).mono U
  ·exact((h6 _ hm).mono x8.ky).mono U
end
def FJ {j:jY}{st:W->Ex}{N:Nat}{I:Nat->En->Hx->Prop}{Q:W->Hx->Prop}
  (p:∀i ρ A,i<N->I i ρ A->∃w,j.at_ A i=some (some w)/\((∃ρ1 A1,st w ρ A=.ok (.nx ρ1) A1/\I (i+1) ρ1 A1)∨∃r A1,st w ρ A=.ok (.rt r) A1/\Q r A1))(d:∀ρ A,I N ρ A->j.at_ A N=some none):
  ∀(f i:Nat)(ρ:En)(A:Hx),i+f=N->I i ρ A->(∃a A',yJ j st f i ρ A=.ok (.nx a) A'/\I N a A')∨∃r A',yJ j st f i ρ A=.ok (.rt r) A'/\Q r A':=by
 intro f
 induction f with
 |zero=>
  intro i ρ A h b
  have:i=N:=by omega
  subst this;exact .inl ⟨ρ,A,Vx (d _ _ b),b⟩
 |succ f k=>
  intro i ρ A h b;obtain⟨w,g,H|H⟩:=p i ρ A (by omega) b
  ·obtain⟨ρ1,A1,H,c⟩:=H
   rcases k (i+1) ρ1 A1 (by omega) c with ⟨a,A',e,q⟩|⟨r,A',e,q⟩
   ·exact .inl ⟨a,A',(Gg g H).trans e,q⟩
   ·exact .inr ⟨r,A',(Gg g H).trans e,q⟩
  ·obtain⟨r,A1,H,c⟩:=H
   refine .inr ⟨r,A1,?_,c⟩;unfold yJ;rw[g];dsimp only;rw[H]
   rfl
section
variable {ks:bU}{l m:bY}{K a b:Nat}{C:Hx}{w:W}
structure kO (n:Nat)(l:bY):Prop where
 up:l.Pairwise (· < ·)
 lt:∀a∈l,a<n
def kO.nd (h:kO n l):l.Nodup:=h.up.imp λH=>aI H
def kO.len (h:kO n l):l.length<=n:=MN h.nd h.lt
def iG (h:qp t)(d:jg t=(K:Int))(c:a<t.length)(H:b<t.length):((at2 t a b).toNat:Int)=at2 t a b/\(at2 t a b).toNat<K:=by
 have f:=U9 h c H;have e:=UC h c H;omega
def Sj (t:bT)(r:bU):jv [zx t,zy r]=true:=by show((zx t).nr&&((zy r).nr&&true))=true;rw[ZM,Qm];rfl
def iH (H:qp t)(i:jg t=(K:Int))(h:QN K ks):∃c,Mo t ks c/\∀A:Hx,YS [zx t,zy ks] A=.ok (.int (c:Int)) A:=by
 obtain⟨k,d,j,e⟩:=OB (ks:=ks) H;obtain⟨l,L,b⟩:∃l L,Lv t ks k=l::L:=List.exists_cons_of_ne_nil d;have g:l∈Lv t ks k:=by rw[b];exact au ..
 obtain⟨g1,g2⟩:=gD.mp g;refine⟨k+1,M4 d j,λA=>ZQ (A1:=[]++[.lst ((Lv t ks k).map lw)]) (Sj t ks) rfl (gc (Gv ?_))⟩;unfold GW;refine(zN (ki ((qb (zF (zp rfl) zY)).trans (Qe H [])))).trans ((zN (ki ((qb (zF (zp rfl) (zF (zp rfl) zY))).trans (GG H i h [])))).trans (gc (qA (qZ ?_))));have E:=(zT ((qb (f:=Ki) (ρ:=[some (zx t),some (zy ks)]) (A:=[]) (a:=zc zm (zc zw zl)) (A1:=[]) rfl).trans (e [])) (qy (w:=.int 0))).trans (gz (w:=lw l) (s:=0) qJ (by rw[b];rfl))
 refine(yq (kG E (ws:=(nI l).map W.int) rfl)).trans ?_;unfold qx;rw[ag,ag,g1]
def FQ (H:qp t)(c:jg t=(K:Int))(h:QN K ks):∃k,Mo t ks (k+1)/\Lv t ks k≠[]/\Lv t ks (k+1)=[]/\∀A:Hx,JE [zx t,zy ks] A=.ok (.ref A.length) (A++[.lst ((Lv t ks k).map lw)]):=by
 obtain⟨k,b,a,e⟩:=OB (ks:=ks) H;refine⟨k,M4 b a,b,a,λA=>KP (k:=0) (A1:=[]++[.lst ((Lv t ks k).map lw)]) (Sj t ks) (gc (Gv ?_)) rfl (UM _)⟩;unfold W3;exact(zN (ki ((qb (zF (zp rfl) zY)).trans (Qe H [])))).trans ((zN (ki ((qb (zF (zp rfl) (zF (zp rfl) zY))).trans (GG H c h [])))).trans (gc (qA (qZ ((qb (zF (zp rfl) (zF (zp rfl) zY))).trans (e []))))))
def Ld (d:qp t)(h:kO t.length l)(A:Hx):Yq [zx t,lw l] A=.ok .non A:=by
 have g:=d.n8;have f:=h.len;have e:=rw_T (ws:=(nI l).map W.int) (lo:=0) (hi:=(t.length:Int)-1) (by rw[ag,ag];omega) (λx H=>by obtain⟨v,_,rfl⟩:=cy.mp H;exact Qq v) A
 have hi:yT ((nI l).map W.int)=nI l:=by
  unfold yT;rw[aP];exact map_id _
 have b:((nI l).map W.int).all (kX 0 ((t.length:Int)-1))=true:=cB.mpr λx H=>by
  obtain⟨v,c,rfl⟩:=cy.mp H;obtain⟨a,b,rfl⟩:=cy.mp c
  have:=h.lt a b
  show(decide (0<=(a:Int))&&decide ((a:Int)<=(t.length:Int)-1))=true;rw[ak,ai,ai];omega
 rw[hi,b,pw_ris (List.pairwise_map.mpr (h.up.imp λz=>by omega))]at e
 refine V5 (ρ:=[some (zx t),some (lw l)]) ?_;unfold X7;exact(zN ((j7 (gc (yu (k:=true) ((qb (zF (zp rfl) (zF qy (zF ((zT (len_tab rfl) qy).trans rfl) zY)))).trans e)))).trans jK)).trans jK
def M9 (H:qp t)(h:kQ [w,.int 0,.int ((t.length:Int)-1)] A=.ok (.bl false) A):Yq [zx t,w] A=.exc "NoLot" A:=by
 refine gW ?_;unfold X7;exact wI ((kJ (gc (yu (k:=false) ((qb (zF (zp rfl) (zF qy (zF ((zT (len_tab rfl) qy).trans rfl) zY)))).trans h)))).trans (wI rfl))
def iI {r:bU}:kA (r.map W.int) none (some (i:Int))=(r.take i).map W.int:=by
 unfold kA;have H:HT.qM (r.map W.int).length 0 none=0:=rfl;rw[H,HT.Ak,drop_zero,Nat.sub_zero,List.map_take]
 by_cases h:i<=(r.map W.int).length
 ·rw[Nat.min_eq_left h]
 ·rw[Nat.min_eq_right (by omega),List.take_of_length_le (ar _),List.take_of_length_le (by omega)]
def Y6 (t:bT)(ks:bU)(l:bY):Bool:=(List.range l.length).all λi=>jn t ks (l.take i) (l.getD i 0)
def iJ (H:qp t)(o:jg t=(K:Int))(k:QN K ks)(h:kO t.length l)(A:Hx):YA [zx t,zy ks,lw l] A=.ok (.bl (Y6 t ks l)) A:=by
 have s:=H.n8;have r:=h.len;have b:((nI l).map W.int).length=l.length:=by rw[ag,ag]
 refine ZQ (A1:=[]) (by show((zx t).nr&&((zy ks).nr&&((lw l).nr&&true)))=true;rw[ZM,Qm,YW];rfl) rfl (gc (Gv ?_))
 unfold Ku;refine(zN (ki ((qb (zF (zp rfl) zY)).trans (Qe H [])))).trans ((zN (ki ((qb (zF (zp rfl) (zF (zp rfl) zY))).trans (GG H o k [])))).trans ((zN (ki ((qb (zF (zp rfl) (zF (zp rfl) zY))).trans (Ld H h [])))).trans (gc (qA (qZ ?_)))));obtain⟨j,acc,C,e,_,q,c⟩:=Qb (nl:=2) (cap:=[0,1,2]) (mi:=Jo zB) (tw:=kH 0 1) (ifs:=qh) (em:=zQ (zA Jb (zc zB (zc zO (zc (yc jy yz (j5 zm)) (zc zw zl)))))) (N:=l.length) (ρ:=[some (zx t),some (zy ks),some (lw l)]) (A:=[])
  (I:=λi ρ acc D=>(∃g Y,ρ=[g,Y,some (zx t),some (zy ks),some (lw l)])/\D=[]/\acc=(List.range i).map λi=>W.bl (jn t ks (l.take i) (l.getD i 0))) (VN (ws:=(nI l).map W.int) (zp rfl)) b
  (λi ρ acc D hi ⟨⟨g,Y,d⟩,p,c⟩=>by
   subst d p c;have f:(nI l).getD i 0=((l[i]:Nat):Int):=by
    rw[ae,ax,aa hi];rfl
   have hit:((nI l).map W.int)[i]? =some (.int ((l[i]:Nat):Int)):=by rw[int_at (by rw[ag];exact hi),f]
   have n:l.getD i 0=l[i]:=by rw[ae,aa hi];rfl
   refine⟨.tup [.int (i:Int),.int ((l[i]:Nat):Int)],[some (.int (i:Int)),some (.int ((l[i]:Nat):Int)),some (zx t),some (zy ks),some (lw l)],Tj hit,rfl,.inl ⟨[],_,_,[],rfl,ZL (y:=.bl (jn t ks (l.take i) (l.getD i 0))) ?_ ?_,⟨_,_,rfl⟩,rfl,?_⟩⟩
   ·have E:yc jy yz (j5 zm) [some (.int (i:Int)),some (.int ((l[i]:Nat):Int)),some (zx t),some (zy ks),some (lw l)] []=.ok (lw (l.take i)) []:=by
     show R.ok (W.tup (kA ((nI l).map W.int) none (some (i:Int)))) []=_;rw[iI];unfold lw zy nI;simp only[List.map_take]
    exact(qb (zF (zp rfl) (zF (zp rfl) (zF E (zF (zp rfl) zY))))).trans ((NH H (by rw[bc];omega) (λa c=>h.lt a (List.mem_of_mem_take c)) (h.lt _ (aM hi)) []).trans (by rw[n]))
   ·rw[ag,aV]
    unfold qf;omega
   ·rw[range_succ,aL]
    rfl)
  (λρ acc D _=>by have:=UW (A:=D) (ws:=(nI l).map W.int);rw[b]at this ⊢;exact this) ⟨⟨_,_,rfl⟩,rfl,rfl⟩
 subst q c;exact(yq e).trans (N5 (λi=>jn t ks (l.take i) (l.getD i 0)) (List.range l.length) [])
def Gq {m1:Ex}{mm:Ev}{N:Nat}{z:R Fl}(hm:mm ρ A=.ok (.tup ws) B)(h:ws.length=N)(e:yJ ⟨λA i=>(zV (.tup ws) A).map λws=>ws[i]?,ws.length⟩ (turn tw m1) N 0 ρ B=z):yk (qe mm) tw m1 ρ A=z:=by
 subst h;exact(Qp (Qk hm)).trans e
def wG (t:bT)(m l:bY):bY:=m.flatMap λa=>l.map λb=>(at2 t a b).toNat
noncomputable def cW (K:Nat)(P:bY):List W:=(List.range K).map λk=>W.int ((P.count k:Nat):Int)
def iK {P:bY}{v:Nat}(H:v<K):(cW K P).set v (.int (((P.count v:Nat):Int)+1))=cW K (P++[v]):=by
 unfold cW;rw[NJ (g:=λk=>((P.count k:Nat):Int)) H];refine bw λj _=>?_;rw[List.count_append]
 by_cases h:j=v
 ·subst h
  rw[ah rfl];simp
 ·rw[aj h,List.count_singleton]
  have:(v==j)=false:=by simp;exactλz=>h z.symm
  rw[this];simp
def iM {mo mi:Ev}{P:bY}{v r:Nat}(o:mo ρ C=.ok (.ref r) C)(hi:mi ρ C=.ok (.int (v:Int)) C)(H:C[r]? =some (.lst (cW K P)))(h:v<K):ZV mo mi zI ρ C=.ok (.nx ρ) (C.set r (.lst (cW K (P++[v])))):=by
 unfold ZV;rw[o,zL,hi,zL];dsimp only;rw[ah (by omega),H]
 dsimp only;have x:(cW K P)[(v:Int).toNat]? =some (.int ((P.count v:Nat):Int)):=by
  rw[aK];unfold cW;rw[ax,bf h]
  rfl
 rw[x];show R.bind (kK (.ref r) (.int (v:Int)) (.int (((P.count v:Nat):Int)+1)) C) _=_;rw[NA H (by unfold cW;rw[ag,aV];exact h),zL,iK h]
abbrev iN:Ex:=zo (yk (qe zw) (zH 3) (zo (yk (qe zw) (zH 4) (zo (ZV zB (zj zJ (zj zJ zm zO) jy) zI) zC)) zC)) (zo (qN zB) zC)
def NK (o:qp t)(q:jg t=(K:Int))(h:kO t.length l):iN [some (zx t),some (lw l),some (.ref 1),none,none] [.lst [.int 0],.lst (cW K [])]=.ok (.rt (.ref 1)) [.lst [.int 0],.lst (cW K (wG t l l))]:=by
 have s:=h.len;have c:((nI l).map W.int).length=l.length:=by rw[ag,ag]
 have hit:∀i (hi:i<l.length),((nI l).map W.int)[i]? =some (.int ((l[i]:Nat):Int)):=λi hi=>by
  rw[ax,ax,aa hi];rfl
 obtain⟨k,C,e,Y,y,H,r⟩:=Q0 (j:=⟨λA i=>(zV (lw l) A).map λws=>ws[i]?,((nI l).map W.int).length⟩) (st:=turn (zH 3) (zo (yk (qe zw) (zH 4) (zo (ZV zB (zj zJ (zj zJ zm zO) jy) zI) zC)) zC)) (N:=l.length)
  (I:=λi ρ D=>∃Y y,ρ=[some (zx t),some (lw l),some (.ref 1),Y,y]/\D=[.lst [.int 0],.lst (cW K (wG t (l.take i) l))])
  (λi ρ D hi ⟨Y,y,H,f⟩=>by
   subst H f;have a:=h.lt _ (aM hi);obtain⟨k,g,e,p,H,f⟩:=Q0 (j:=⟨λA i=>(zV (lw l) A).map λws=>ws[i]?,((nI l).map W.int).length⟩) (st:=turn (zH 4) (zo (ZV zB (zj zJ (zj zJ zm zO) jy) zI) zC)) (N:=l.length)
    (I:=λj ρ g=>∃y,ρ=[some (zx t),some (lw l),some (.ref 1),some (.int ((l[i]:Nat):Int)),y]/\g=[.lst [.int 0],.lst (cW K (wG t (l.take i) l++(l.take j).map λb=>(at2 t l[i] b).toNat))])
    (λj ρ g n ⟨y,H,f⟩=>by
     subst H f;have d:=h.lt _ (aM n);obtain⟨v1,v2⟩:=iG o q a d;have E:zj zJ (zj zJ zm zO) jy [some (zx t),some (lw l),some (.ref 1),some (.int ((l[i]:Nat):Int)),some (.int ((l[j]:Nat):Int))] [.lst [.int 0],.lst (cW K (wG t (l.take i) l++(l.take j).map λb=>(at2 t l[i] b).toNat))]=.ok (.int (((at2 t l[i] l[j]).toNat:Nat):Int)) [.lst [.int 0],.lst (cW K (wG t (l.take i) l++(l.take j).map λb=>(at2 t l[i] b).toNat))]:=
      (zT ((zT (zp rfl) (zp rfl)).trans (K4 a)) (zp rfl)).trans ((K3 (by rw[o.sq _ (wJ a)];exact d)).trans (by rw[v1];rfl))
     refine⟨.int ((l[j]:Nat):Int),_,_,?_,(Zj (ρ1:=[some (zx t),some (lw l),some (.ref 1),some (.int ((l[i]:Nat):Int)),some (.int ((l[j]:Nat):Int))]) rfl).trans ((zN (iM (zp rfl) E rfl v2)).trans jK),_,rfl,?_⟩
     ·show some (((nI l).map W.int)[j]?)=_
      rw[hit j n]
     ·rw[take_succ n,aL,aO]
      rfl)
    (λρ g _=>by show some (((nI l).map W.int)[l.length]?)=_;rw[aE (by omega)]) l.length 0 [some (zx t),some (lw l),some (.ref 1),some (.int ((l[i]:Nat):Int)),y] [.lst [.int 0],.lst (cW K (wG t (l.take i) l))] (by omega) ⟨_,rfl,by rw[take_zero,map_nil,a8]⟩
   subst H f;rw[bq]at e;have hf:yk (qe zw) (zH 4) (zo (ZV zB (zj zJ (zj zJ zm zO) jy) zI) zC) [some (zx t),some (lw l),some (.ref 1),some (.int ((l[i]:Nat):Int)),y] [.lst [.int 0],.lst (cW K (wG t (l.take i) l))]=_:=Gq (ws:=(nI l).map W.int) (zp rfl) c e;refine⟨.int ((l[i]:Nat):Int),_,_,?_,(Zj (ρ1:=[some (zx t),some (lw l),some (.ref 1),some (.int ((l[i]:Nat):Int)),y]) rfl).trans ((zN hf).trans jK),_,_,rfl,?_⟩
   ·show some (((nI l).map W.int)[i]?)=_
    rw[hit i hi]
   ·rw[take_succ hi]
    unfold wG;rw[List.flatMap_append];simp)
  (λρ D _=>by show some (((nI l).map W.int)[l.length]?)=_;rw[aE (by omega)]) l.length 0 [some (zx t),some (lw l),some (.ref 1),none,none] [.lst [.int 0],.lst (cW K [])] (by omega) ⟨_,_,rfl,rfl⟩
 subst H r;rw[bq]at e;have hf:yk (qe zw) (zH 3) (zo (yk (qe zw) (zH 4) (zo (ZV zB (zj zJ (zj zJ zm zO) jy) zI) zC)) zC) [some (zx t),some (lw l),some (.ref 1),none,none] [.lst [.int 0],.lst (cW K [])]=_:=Gq (ws:=(nI l).map W.int) (zp rfl) c e;exact(zN hf).trans (qA (qZ (zp rfl)))
def Mr {f:Fn}(k:K<=8)(hf:∀A,f [zx t] A=.ok (.int (K:Int)) A):zj jk (zX (zc zP zl)) (zA f (zc zm zl)) [some (zx t),some (lw l),none,none,none] []=.ok (.ref 1) [.lst [.int 0],.lst (cW K [])]:=by
 refine(zT (j0 (zF qy zY)) ((qb (zF (zp rfl) zY)).trans (hf _))).trans ?_;unfold jk;show(if jD (K:Int)&&decide ([W.int 0].length * (K:Int).toNat<=qf) then R.ok (W.ref 1) [.lst [.int 0],.lst (List.replicate (K:Int).toNat [W.int 0]).flatten] else .bad)=_;rw[ah (by rw[ZI (by omega),aK];simp;unfold qf;omega),aK,rep1]
 rfl
def Lu (t:bT)(l:bY):jv [zx t,lw l]=true:=by show((zx t).nr&&((lw l).nr&&true))=true;rw[ZM,YW];rfl
def CG (H:qp t)(a:jg t=(K:Int))(h:kO t.length l)(A:Hx):YC [zx t,lw l] A=.ok (.ref A.length) (A++[.lst (cW K (wG t l l))]):=by
 have b:=Jk H;refine KP (k:=1) (A1:=[.lst [.int 0],.lst (cW K (wG t l l))]) (Lu t l) (gc (Gv ?_)) rfl (YI (λ_=>rfl) _);unfold Gp;exact(zN (ki ((qb (zF (zp rfl) zY)).trans (Qe H [])))).trans ((zN (ki ((qb (zF (zp rfl) (zF (zp rfl) zY))).trans (Ld H h [])))).trans (gc ((zN ((qW (Mr (by omega) λA=>(O5 H A).trans (by rw[a]))).trans rfl)).trans (NK H a h))))
def ES (H:qp t)(a:jg t=(K:Int))(h:kO t.length l)(A:Hx):Yr [zx t,lw l] A=.ok (.ref A.length) (A++[.lst (cW K (wG t l l))]):=by
 have b:=Jk H;refine KP (k:=1) (A1:=[.lst [.int 0],.lst (cW K (wG t l l))]) (Lu t l) (qT ?_) rfl (YI (λ_=>rfl) _);unfold RB;exact(zN ((qW (Mr (by omega) λA=>(Gj H A).trans (by rw[a]))).trans rfl)).trans (NK H a h)
end
def Jw (t:bT)(ks:bU)(l:bY)(a:Nat):Bool:=l.all λb=>decide (b=a) || decide (at2 t a b∈ks)
def ka (t:bT)(ks:bU)(l:bY):Bool:=l.all (Jw t ks l)
section
variable {ks:bU}{l:bY}{p a b:Nat}{C:Hx}{w:W}
def AV:Y6 t ks l=true↔l.Pairwise λa b=>at2 t a b∈ks:=by
 unfold Y6;rw[bA,List.pairwise_iff_getElem]
 constructor
 ·intro h i j hi H d
  have:=h j (cz.mpr H)
  rw[ae,aa H]at this;have g:=GN.mp this;refine g l[i] ?_;rw[List.mem_take_iff_getElem];exact⟨i,by omega,rfl⟩
 ·intro h i hi
  have hi:=cz.mp hi;rw[ae,aa hi];refine GN.mpr λo c=>?_;obtain⟨j,H,e⟩:=List.mem_take_iff_getElem.mp c;subst e;exact h j i (by omega) hi (by omega)
def kD.any (n:qp t)(h:kD t ks l){a b:Nat}(k:a∈l)(f:b∈l)(H:a≠b):at2 t a b∈ks:=by
 obtain⟨i,hi,rfl⟩:=bx k;obtain⟨j,e,rfl⟩:=bx f;have d:i≠j:=λz=>H (by subst z;rfl)
 have g:=List.pairwise_iff_getElem.mp h.fr;rcases Nat.lt_or_gt_of_ne d with c|c
 ·exact g i j hi e c
 ·rw[n.sy _ _ (h.lt _ k) (h.lt _ f)]
  exact g j i e hi c
def JM (d:qp t)(h:kO t.length l):ka t ks l=true↔kD t ks l:=by
 unfold ka Jw
 constructor
 ·intro g
  refine⟨h.up,h.lt,List.Pairwise.imp_of_mem ?_ h.up⟩;intro a b c H f;have g2:=cB.mp (cB.mp g a c) b H;rw[bD,ai,ai]at g2;exact g2.resolve_left (by omega)
 ·intro g
  refine cB.mpr λa c=>cB.mpr λb H=>?_;rw[bD,ai,ai]
  by_cases e:b=a
  ·exact .inl e
  ·exact .inr (g.any d c H (Ne.symm e))
def Ek (H:qp t)(h:kO t.length l):Y6 t ks l=ka t ks l:=by
 have:Y6 t ks l=true↔ka t ks l=true:=AV.trans ⟨λg=>(JM H h).mpr ⟨h.up,h.lt,g⟩,λg=>((JM H h).mp g).fr⟩
 cases E:Y6 t ks l<;>cases e:ka t ks l<;>simp_all
abbrev Xo:yn:=zW 1 [0,1,3] (qe zB) (zH 0) (yW (zj jf zm zO) (zj YT (zj zJ (zj zJ zw zO) zm) zB)) (zQ zm)
def lit (l:bY)(i:Nat)(hi:i<l.length):((nI l).map W.int)[i]? =some (.int ((l[i]:Nat):Int)):=by
 rw[ax,ax,aa hi];rfl
def Jv (l:bY):((nI l).map W.int).length=l.length:=by rw[ag,ag]
def Rj (p:α->Bool)(l:List α)(i:Nat):((l.take i).filter p).length<=l.length:=bb (bB ..) (by rw[bc];omega)
def Pg (p:α->Bool){l:List α}(h:i<l.length):(l.take (i+1)).filter p=(l.take i).filter p++(if p l[i] then [l[i]] else []):=by
 rw[take_succ h,filter_append]
 congr 1
 cases e:p l[i]<;>simp[e]
def iO (g:qp t)(h:kO t.length l)(j:a<t.length)(A:Hx):Xo [some (zx t),some (zy ks),some (lw l),some (.int (a:Int))] A=.ok ((l.filter λb=>!(decide (b=a) || decide (at2 t a b∈ks))).map λ(b:Nat)=>W.int (b:Int)) A:=by
 have s:=g.n8;have r:=h.len;obtain⟨k,acc,C,e,_,p,H⟩:=Qb (nl:=1) (cap:=[0,1,3]) (mi:=qe zB) (tw:=zH 0) (ifs:=yW (zj jf zm zO) (zj YT (zj zJ (zj zJ zw zO) zm) zB)) (em:=zQ zm) (N:=l.length) (ρ:=[some (zx t),some (zy ks),some (lw l),some (.int (a:Int))]) (A:=A)
  (I:=λi ρ acc D=>(∃y,ρ=[y,some (zx t),some (zy ks),some (.int (a:Int))])/\D=A/\acc=((l.take i).filter λb=>!(decide (b=a) || decide (at2 t a b∈ks))).map λ(b:Nat)=>W.int (b:Int)) (Qk (ws:=(nI l).map W.int) (zp rfl)) (Jv l)
  (λi ρ acc D hi ⟨⟨y,f⟩,o,H⟩=>by
   subst f o H;have n:=h.lt _ (aM hi);refine⟨.int ((l[i]:Nat):Int),[some (.int ((l[i]:Nat):Int)),some (zx t),some (zy ks),some (.int (a:Int))],by show some (((nI l).map W.int)[i]?)=_;rw[lit l i hi],rfl,?_⟩
   have d:zj jf zm zO [some (.int ((l[i]:Nat):Int)),some (zx t),some (zy ks),some (.int (a:Int))] D=.ok (.bl (!decide (l[i]=a))) D:=(zT (zp rfl) (zp rfl)).trans ((Sf _ _ _).trans (by rw[show decide (((l[i]:Nat):Int)=(a:Int))=decide (l[i]=a) from decide_eq_decide.mpr (by omega)]))
   have q:zj YT (zj zJ (zj zJ zw zO) zm) zB [some (.int ((l[i]:Nat):Int)),some (zx t),some (zy ks),some (.int (a:Int))] D=.ok (.bl (!decide (at2 t a l[i]∈ks))) D:=
    (zT ((zT ((zT (zp rfl) (zp rfl)).trans (K4 j)) (zp rfl)).trans (K3 (by rw[g.sq _ (wJ j)];exact n))) (zp rfl)).trans (N6 (b:=true) _ _ _)
   have E:yW (zj jf zm zO) (zj YT (zj zJ (zj zJ zw zO) zm) zB) [some (.int ((l[i]:Nat):Int)),some (zx t),some (zy ks),some (.int (a:Int))] D=.ok (.bl (!(decide (l[i]=a) || decide (at2 t a l[i]∈ks)))) D:=by
    by_cases c:l[i]=a
    ·rw[az c]at d ⊢
     exact JP d
    ·rw[aJ c]at d ⊢
     exact(ZO d).trans (q.trans (by rw[Bool.false_or]))
   have hf:=Pg (λb=>!(decide (b=a) || decide (at2 t a b∈ks))) hi;cases c:!(decide (l[i]=a) || decide (at2 t a l[i]∈ks)) with
   |true=>
    rw[c]at E;refine .inl ⟨D,_,_,D,E,ZL (zp rfl) ?_,⟨_,rfl⟩,rfl,?_⟩
    ·rw[ag]
     have:=Rj (λb=>!(decide (b=a) || decide (at2 t a b∈ks))) l i
     unfold qf;omega
    ·rw[hf,ah c,aL]
     rfl
   |false=>
    rw[c]at E;refine .inr ⟨D,E,⟨_,rfl⟩,rfl,?_⟩;rw[hf,aj (by rw[c];simp),a8])
  (λρ acc D _=>by show some (((nI l).map W.int)[l.length]?)=_;rw[aE (by rw[Jv];omega)]) ⟨⟨_,rfl⟩,rfl,rfl⟩
 subst p H;rw[bq]at e;exact e
def Nk (u:qp t)(h:kO t.length l)(A:Hx):QW [zx t,zy ks,lw l] A=.ok (.bl (ka t ks l)) A:=by
 have T:∀(a:Nat)(C:Hx),a<t.length->∃o,zo (qP (zj jf (qu Xo) (zX zl)) yt zC) zC [some (zx t),some (zy ks),some (lw l),some (.int (a:Int))] C=(if Jw t ks l a then .ok (.nx [some (zx t),some (zy ks),some (lw l),some (.int (a:Int))]) o else .ok (.rt (.bl false)) o):=λa C d=>by
  have p:=kS (iO (ks:=ks) u h d C);generalize s:((l.filter λb=>!(decide (b=a) || decide (at2 t a b∈ks))).map λ(b:Nat)=>W.int (b:Int))=us at p;have x:zX zl [some (zx t),some (zy ks),some (lw l),some (.int (a:Int))] (C++[.lst us])=.ok (.ref (C++[O.lst us]).length) (C++[.lst us]++[.lst []]):=j0 zY;have E:zj jf (qu Xo) (zX zl) [some (zx t),some (zy ks),some (lw l),some (.int (a:Int))] C=.ok (.bl (!us.isEmpty)) (C++[.lst us]++[.lst []]):=(zT p x).trans (ne_nil (jT qJ) qJ (λw hw=>by
   rw[<- s]at hw;obtain⟨b,_,rfl⟩:=cy.mp hw;exact Qq _))
  refine⟨C++[.lst us]++[.lst []],?_⟩;have v:us.isEmpty=Jw t ks l a:=by
   rw[<- s];unfold Jw
   have:((l.filter λb=>!(decide (b=a) || decide (at2 t a b∈ks))).map λ(b:Nat)=>W.int (b:Int)).isEmpty=true↔(l.all λb=>decide (b=a) || decide (at2 t a b∈ks))=true:=by
    rw[List.isEmpty_iff,List.map_eq_nil_iff,List.filter_eq_nil_iff,bA];exact⟨λg b n=>by have:=g b n;revert this;cases (decide (b=a) || decide (at2 t a b∈ks))<;>decide,λg b n=>by have:=g b n;revert this;cases (decide (b=a) || decide (at2 t a b∈ks))<;>decide⟩
   cases c1:((l.filter λb=>!(decide (b=a) || decide (at2 t a b∈ks))).map λ(b:Nat)=>W.int (b:Int)).isEmpty with
   |true=>exact(this.mp c1).symm|false=>
    cases c2:(l.all λb=>decide (b=a) || decide (at2 t a b∈ks)) with
    |false=>rfl|true=>rw[this.mpr c2]at c1;cases c1
  rw[v]at E;cases c:Jw t ks l a with
  |true=>
   rw[c]at E;rw[ah rfl];exact(zN ((j7 E).trans jK)).trans jK
  |false=>
   rw[c]at E;rw[aj (by simp)]
   exact qA ((kJ E).trans (qA (qZ qy)))
 have go:=FJ (j:=⟨λA i=>(zV (lw l) A).map λws=>ws[i]?,((nI l).map W.int).length⟩) (st:=turn (zH 3) (zo (qP (zj jf (qu Xo) (zX zl)) yt zC) zC)) (N:=l.length)
  (I:=λi ρ _=>(∃y,ρ=[some (zx t),some (zy ks),some (lw l),y])/\∀a∈l.take i,Jw t ks l a=true) (Q:=λr _=>r=.bl false/\ka t ks l=false)
  (λi ρ D hi ⟨⟨y,k⟩,H⟩=>by
   subst k;refine⟨.int ((l[i]:Nat):Int),by show some (((nI l).map W.int)[i]?)=_;rw[lit l i hi],?_⟩
   obtain⟨o,e⟩:=T l[i] D (h.lt _ (aM hi));have f:=(Zj (ρ1:=[some (zx t),some (zy ks),some (lw l),some (.int ((l[i]:Nat):Int))]) (tw:=zH 3) (w:=.int ((l[i]:Nat):Int)) (ρ:=[some (zx t),some (zy ks),some (lw l),y]) rfl).trans e;cases c:Jw t ks l l[i] with
   |true=>
    rw[ah c]at f;refine .inl ⟨_,_,f,⟨_,rfl⟩,λa d=>?_⟩;rw[take_succ hi]at d;rcases cC.mp d with d|d
    ·exact H a d
    ·rw[cA.mp d];exact c
   |false=>
    rw[aj (by rw[c];simp)]at f
    refine .inr ⟨_,_,f,rfl,?_⟩;cases z:ka t ks l with
    |false=>rfl|true=>rw[cB.mp z _ (aM hi)]at c;cases c)
  (λρ D _=>by show some (((nI l).map W.int)[l.length]?)=_;rw[aE (by rw[Jv];omega)]) l.length 0 [some (zx t),some (zy ks),some (lw l),none] [] (by omega) ⟨⟨_,rfl⟩,λa d=>by rw[take_zero]at d;cases d⟩
 have nr:jv [zx t,zy ks,lw l]=true:=by show((zx t).nr&&((zy ks).nr&&((lw l).nr&&true)))=true;rw[ZM,Qm,YW];rfl
 rcases go with ⟨q,B,e,_,H⟩|⟨r,B,e,rfl,hf⟩
 ·rw[bq]at H
  rw[show ka t ks l=true from cB.mpr H]
  refine ZQ (A1:=B) nr rfl (qT ?_);unfold Vm;exact(zN (Gq (ws:=(nI l).map W.int) (zp rfl) (Jv l) e)).trans (qA (qZ qy))
 ·rw[hf]
  refine ZQ (A1:=B) nr rfl (qT ?_);unfold Vm;exact qA (Gq (ws:=(nI l).map W.int) (zp rfl) (Jv l) e)
end
noncomputable def As:Nat->List (bY)
 |0=>[[]]|n+1=>As n++(As n).map λl=>l++[n]
theorem Mp:∀n,(As n).length=2 ^ n
 |0=>rfl|n+1=>by
  show(As n++(As n).map λl=>l++[n]).length=_;rw[aw,ag,Mp n,Nat.pow_succ];omega
theorem gY:∀{n:Nat}{l:bY},l∈As n↔kO n l
 |0,l=>by
  show l∈[[]]↔_;rw[List.mem_singleton]
  constructor
  ·rintro rfl
   exact⟨.nil,λa H=>by cases H⟩
  ·intro h
   cases l with
   |nil=>rfl|cons a l=>exact absurd (h.lt a (au ..)) (by omega)
 |n+1,l=>by
  show l∈As n++(As n).map (λl=>l++[n])↔_;rw[List.mem_append,mem_map]
  constructor
  ·rintro(h|⟨m,h,rfl⟩)
   ·have g:=gY.mp h
    exact⟨g.up,λa H=>by have:=g.lt a H;omega⟩
   ·have g:=gY.mp h
    refine⟨List.pairwise_append.mpr ⟨g.up,aZ _ _,λa H b i=>?_⟩,λa H=>?_⟩
    ·rw[cA.mp i]
     exact g.lt a H
    ·rcases cC.mp H with H|H
     ·have:=g.lt a H;omega
     ·rw[cA.mp H];omega
  ·intro h
   by_cases c:n∈l
   ·right
    have d:l≠[]:=λz=>by rw[z]at c;cases c
    have f:la l=n:=by
     have k:=NW h.up c;have j:=h.lt _ (GK d);omega
    refine⟨l.dropLast,gY.mpr ⟨h.up.sublist (List.dropLast_sublist l),λa H=>?_⟩,?_⟩
    ·have e:l=l.dropLast++[la l]:=by
      unfold la;rw[List.getLastD_eq_getLast?,List.getLast?_eq_getLast d];exact(List.dropLast_concat_getLast d).symm
     have up:=h.up;rw[e]at up
     have:=(List.pairwise_append.mp up).2.2 a H _ (cA.mpr rfl)
     omega
    ·rw[<- f]
     unfold la;rw[List.getLastD_eq_getLast?,List.getLast?_eq_getLast d];exact List.dropLast_concat_getLast d
   ·left
    refine gY.mpr ⟨h.up,λa H=>?_⟩
    have:=h.lt a H
    have:a≠n:=λz=>c (z ▸ H)
    omega
theorem U7:∀n,(As n).Nodup
 |0=>aZ _ _|n+1=>by
  show(As n++(As n).map λl=>l++[n]).Nodup;refine List.nodup_append.mpr ⟨U7 n,?_,λl H m hm e=>?_⟩
  ·exact List.Pairwise.map _ (λa b h z=>h (List.append_cancel_right z)) (U7 n)
  ·subst e
   obtain⟨x,c,rfl⟩:=cy.mp hm
   have:=(gY.mp H).lt n (aU _ (cA.mpr rfl))
   omega
section
variable {ks:bU}{l m:bY}{p q a b:Nat}{C:Hx}
theorem Nt {x y u v:bU}:∀{x y:bU},x.length=y.length->j8 x y=true->j8 (x++u) (y++v)=true
 |[],[],_,h=>by cases h|[],_::_,h,_=>by cases h|_::_,[],h,_=>by cases h|a::x,b::y,H,h=>by
  rw[cons_append,cons_append];unfold j8 at h ⊢
  by_cases e:a=b
  ·rw[ah e]at h ⊢
   exact Nt (x:=x) (y:=y) (by simpa using H) h
  ·rw[aj e]at h ⊢
   exact h
theorem Ua {a b:Int}:∀{x:bU},a<b->j8 (x++[a]) (x++[b])=true
 |[],h=>by
  show(if a=b then j8 [] [] else decide (a<b))=true;rw[aj (by omega),az h]
 |c::x,h=>by
  rw[cons_append,cons_append];unfold j8;rw[ah rfl];exact Ua h
theorem U3:∀k,(Lv t ks k).Pairwise λa b=>j8 (nI a) (nI b)=true
 |0=>by
  show((List.range t.length).map λp=>[p]).Pairwise _;rw[bH];refine List.pairwise_lt_range.imp λ {a b} H=>?_;exact Ua (a:=(a:Int)) (b:=(b:Int)) (x:=[]) (by omega)
 |k+1=>by
  show((Lv t ks k).flatMap (xt t ks)).Pairwise _;rw[List.pairwise_flatMap];refine⟨λm hm=>?_,List.Pairwise.imp_of_mem ?_ (U3 k)⟩
  ·unfold xt
   rw[bH];refine List.Pairwise.filter _ (List.pairwise_map.mpr (List.pairwise_lt_range.imp λ {a b} H=>?_));unfold nI;rw[aL,aL];exact Ua (a:=((la m+1+a:Nat):Int)) (b:=((la m+1+b:Nat):Int)) (by omega)
  ·intro x y d c h u f v e
   obtain⟨p,_,_,_,rfl⟩:=GI.mp f;obtain⟨q,_,_,_,rfl⟩:=GI.mp e;unfold nI;rw[aL,aL];refine Nt (x:=[]) (y:=[]) ?_ h;rw[ag,ag,(gD.mp d).1,(gD.mp c).1]
def Gd (t:bT)(ks:bU)(c:Nat):List (bY):=((As t.length).filter (ka t ks)).filter λl=>decide ((l.length:Int)=(c:Int))
def MB (H:qp t){c:Nat}:l∈Gd t ks c↔kD t ks l/\l.length=c:=by
 unfold Gd;rw[bJ,bJ,ai]
 constructor
 ·rintro⟨⟨h,a⟩,b⟩
  exact⟨(JM H (gY.mp h)).mp a,by omega⟩
 ·rintro⟨h,a⟩
  have r:kO t.length l:=⟨h.up,h.lt⟩;exact⟨⟨gY.mpr r,(JM H r).mpr h⟩,by omega⟩
def iP {c:Nat}:(Gd t ks c).Nodup:=((U7 _).filter _).filter _
def BU (H:qp t):(Gd t ks (k+1)).Perm (Lv t ks k):=by
 have nd:(Lv t ks k).Nodup:=(U3 k).imp λ {a b} h z=>by
  rw[z,VX]at h;cases h
 refine(List.perm_ext_iff_of_nodup iP nd).mpr λl=>?_;rw[MB H,gD,And.comm]
def Au (H:qp t):g8 ((Gd t ks (k+1)).map nI)=(Lv t ks k).map nI:=by
 refine VQ ((VB _).trans ((BU H).map _)) (Vf _) ?_;rw[bH];exact(U3 k).imp λ {a b} h=>PyProof.Rows.KeyOrd.kle_of_klt (O:=Xv) h
def iQ:∀n,n<9->∀c,c<9->(n=8/\c=4)∨(As n).countP (λl=>decide (l.length=c))<64:=by decide +kernel
def iR:∀b,b<8->∀a,a<b->(As 8).countP (λl=>decide (l.length=4)&&!(l.contains a&&l.contains b))<64:=by decide +kernel
def iS (d:qp t){c:Nat}(h:Mo t ks c):(Gd t ks c).length<64:=by
 have s:=d.n8;obtain⟨l,e,q⟩:=h.ex;have j:c<=8:=by have:=e.len;omega
 unfold Gd;rw[List.filter_filter,<- List.countP_eq_length_filter];rcases iQ t.length (by omega) c (by omega) with ⟨E,u⟩|g
 ·obtain⟨a,b,H,f,hn⟩:∃a b,a<b/\b<8/\at2 t a b∉ks:=by
   refine Classical.byContradiction λo=>?_;have r:kD t ks (List.range t.length):=⟨bR,λa i=>cz.mp i,by
    refine List.Pairwise.imp_of_mem ?_ (bR (n:=t.length));intro a b i f H;refine Classical.byContradiction λz=>o ⟨a,b,H,?_,z⟩
    have:=cz.mp f
    omega⟩
   have:=h.le _ r
   rw[aV]at this;omega
  rw[E];refine Nat.lt_of_le_of_lt (List.countP_mono_left λl e p=>?_) (iR b f a H);rw[ak]at p;have k:=of_decide_eq_true p.1;have g:=(JM d (by rw[E];exact gY.mp e)).mp p.2
  rw[ak,ai];refine⟨by omega,?_⟩
  cases z:(l.contains a&&l.contains b) with
  |false=>rfl|true=>
   rw[ak,List.contains_iff_mem,List.contains_iff_mem]at z;exact absurd (g.any d z.1 z.2 (by omega)) hn
 ·refine Nat.lt_of_le_of_lt (List.countP_mono_left λl _ p=>?_) g
  rw[ak]at p
  have:=of_decide_eq_true p.1
  exact az (by omega)
theorem Ms:∀{L:List (bY)},(∀l∈L,l≠[])->Qz (L.map lw)=some (L.map nI)
 |[],_=>rfl|l::L,h=>by
  have e:=Ms λm hm=>h m (aq _ hm);show Qz (.tup ((nI l).map W.int)::L.map lw)=_;unfold Qz;rw[Yw];dsimp only;rw[aj (λz=>h l (au ..) (List.map_eq_nil_iff.mp z)),e]
  rfl
def VW {mi:Ev}{ifs:Ev}{f g:α->W}{L:List α}{P:α->Bool}{r:Nat}(hm:mi ρ A=.ok (.ref r) A)(j:A[r]? =some (.lst (L.map f)))(o:L.length<=1000)(hi:∀x∈L,ifs (some (f x)::cap.map λi=>(ρ[i]?).join) A=.ok (.bl (P x)) A)(he:∀x∈L,P x=true->me (some (f x)::cap.map λi=>(ρ[i]?).join) A=.ok (g x) A):
  zW 1 cap (qe mi) (zH 0) ifs (zQ me) ρ A=.ok ((L.filter P).map g) A:=by
 obtain⟨a,acc,C,e,_,n,H⟩:=Qb (nl:=1) (cap:=cap) (mi:=qe mi) (tw:=zH 0) (ifs:=ifs) (em:=zQ me) (N:=L.length) (ρ:=ρ) (A:=A)
  (I:=λi a acc D=>(∃y,a=y::cap.map λi=>(ρ[i]?).join)/\D=A/\acc=((L.take i).filter P).map g) (KW hm j) (ag ..)
  (λi a acc D b ⟨⟨y,d⟩,k,H⟩=>by
   subst d k H;have l:=aM b;refine⟨f L[i],some (f L[i])::cap.map λi=>(ρ[i]?).join,Mb j (by rw[ax,aa b];rfl),rfl,?_⟩
   have hf:=Pg P b;have E:=hi _ l;cases c:P L[i] with
   |true=>
    rw[c]at E;refine .inl ⟨D,_,_,D,E,ZL (he _ l c) ?_,⟨_,rfl⟩,rfl,?_⟩
    ·rw[ag]
     have:=Rj P L i
     unfold qf;omega
    ·rw[hf,ah c,aL]
     rfl
   |false=>
    rw[c]at E;refine .inr ⟨D,E,⟨_,rfl⟩,rfl,?_⟩;rw[hf,aj (by rw[c];simp),a8])
  (λa acc D h=>by obtain⟨_,k,_⟩:=h;subst k;exact Mn j (by rw[ag];omega)) ⟨⟨none,rfl⟩,rfl,rfl⟩
 subst n H;rw[bq]at e;exact e
def P6 {mi:Ev}{f g:α->W}{L:List α}{r:Nat}(hm:mi ρ A=.ok (.ref r) A)(H:A[r]? =some (.lst (L.map f)))(l:L.length<=1000)(he:∀x∈L,me (some (f x)::cap.map λi=>(ρ[i]?).join) A=.ok (g x) A):
  zW 1 cap (qe mi) (zH 0) qh (zQ me) ρ A=.ok (L.map g) A:=by
 have:=VW (P:=λ_=>true) (ifs:=qh) (cap:=cap) hm H l (λx _=>qy) λx h _=>he x h
 rwa[List.filter_eq_self.mpr λ_ _=>rfl]at this
abbrev L1:Ex:=zo (zZ 2 (zj qa zB (qu (zW 1 [3] (qe zB) (zH 0) qh (zQ (zj qa zm (zG (zc zw zl)))))))) zC
def Nl (h:n<=8):(As n).length<=256:=by
 rw[Mp];exact Nat.pow_le_pow_right (by decide) h
def iT (h:n<=8)(H:l∈As n):l.length<=8:=by have:=(gY.mp H).len;omega
def Am (b:qp t):∃p y B,yJ (yV 0 t.length) (turn (zH 3) L1) t.length 0 [some (zx t),some (zy ks),some (.ref 0),none,none] [.lst [.tup []]]=.ok (.nx [some (zx t),some (zy ks),some (.ref p),y,none]) B/\B[p]? =some (.lst ((As t.length).map lw)):=by
 have q:=b.n8;obtain⟨a,B,e,p,y,h,d⟩:=Q0 (j:=yV 0 t.length) (st:=turn (zH 3) L1) (N:=t.length)
  (I:=λi ρ D=>∃p y,ρ=[some (zx t),some (zy ks),some (.ref p),y,none]/\D[p]? =some (.lst ((As i).map lw)))
  (λi ρ D hi ⟨p,y,h,H⟩=>by
   subst h;have o:=Nl (n:=i) (by omega)
   have k:=P6 (cap:=[3]) (me:=zj qa zm (zG (zc zw zl))) (ρ:=[some (zx t),some (zy ks),some (.ref p),some (.int (0+(i:Int))),none]) (A:=D) (f:=lw) (g:=λl=>lw (l++[i])) (L:=As i) (zp (i:=2) rfl) H (by omega) (λl c=>by
    have:=iT (by omega) c
    refine(zT (zp rfl) (Q9 (zF (zp rfl) zY))).trans ?_;rw[bO];exact Mk (by omega))
   have E:qa (.ref p) (.ref D.length) (D++[.lst ((As i).map λl=>lw (l++[i]))])=_:=KG (jT H) qJ (by rw[ag,ag];unfold qf;omega)
   refine⟨_,_,_,g7 hi,(Zj (ρ1:=[some (zx t),some (zy ks),some (.ref p),some (.int (0+(i:Int))),none]) rfl).trans ((zN ((qW ((zT (zp rfl) (kS k)).trans E)).trans rfl)).trans jK),_,_,rfl,?_⟩;rw[qJ];show _=some (O.lst ((As i++(As i).map λl=>l++[i]).map lw));rw[aL,aP]
   rfl)
  (λρ D _=>gX (by omega)) t.length 0 [some (zx t),some (zy ks),some (.ref 0),none,none] [.lst [.tup []]] (by omega) ⟨0,none,rfl,rfl⟩
 subst h;exact⟨p,y,B,e,d⟩
def D5 (a:qp t)(hm:Mo t ks (k+1))(A:Hx):Yp [zx t,zy ks] A=.ok (.ref A.length) (A++[.lst ((Lv t ks k).map lw)]):=by
 have M:=a.n8;have J:=Nl (n:=t.length) M;obtain⟨p,y,B,e,K⟩:=Am (ks:=ks) a;have D:=VW (cap:=[0,1]) (ifs:=zA QW (zc zw (zc zB (zc zm zl)))) (me:=zm) (ρ:=[some (zx t),some (zy ks),some (.ref p),y,none]) (A:=B) (f:=lw) (g:=lw) (P:=ka t ks) (L:=As t.length) (zp (i:=2) rfl) K (by omega)
  (λl H=>(qb (zF (zp rfl) (zF (zp rfl) (zF (zp rfl) zY)))).trans (Nk a (gY.mp H) B)) (λl _ _=>zp rfl)
 have T:((As t.length).filter (ka t ks)).length<=256:=bb (bB ..) J;have v:∀l∈(As t.length).filter (ka t ks),kD t ks l:=λl H=>by
  obtain⟨w,I⟩:=List.mem_filter.mp H;exact(JM a (gY.mp w)).mp I
 generalize o:B++[O.lst (((As t.length).filter (ka t ks)).map lw)]=b;have c:b[B.length]? =some (.lst (((As t.length).filter (ka t ks)).map lw)):=by rw[<- o];exact qJ
 have E:∀(l:bY)(ρ:En)(A:Hx),ρ[0]? =some (some (lw l))->mQ qx (qg zm) ρ A=.ok (.int (l.length:Int)) A:=λl ρ A h=>by
  refine(yq (kG (ws:=(nI l).map W.int) (zp h) rfl)).trans ?_;unfold qx;rw[Jv]
 have r:=P6 (cap:=[]) (me:=mQ qx (qg zm)) (ρ:=[some (zx t),some (zy ks),some (.ref B.length),y,none]) (A:=b) (f:=lw) (g:=λl=>W.int (l.length:Int)) (L:=(As t.length).filter (ka t ks)) (zp (i:=2) rfl) c (by omega) (λl _=>E l _ _ rfl)
 have x:mQ yC (zW 1 [] (qe zB) (zH 0) qh (zQ (mQ qx (qg zm)))) [some (zx t),some (zy ks),some (.ref B.length),y,none] b=.ok (.int ((k+1:Nat):Int)) b:=by
  obtain⟨l,H,S⟩:=hm.ex;have d:l∈(As t.length).filter (ka t ks):=List.mem_filter.mpr ⟨gY.mpr ⟨H.up,H.lt⟩,(JM a ⟨H.up,H.lt⟩).mpr H⟩;have Q:(((As t.length).filter (ka t ks)).map λl=>W.int (l.length:Int))=(((As t.length).filter (ka t ks)).map λl=>(l.length:Int)).map W.int:=by rw[aP];rfl
  have j:(((As t.length).filter (ka t ks)).map λl=>(l.length:Int))≠[]:=λz=>by
   rw[List.map_eq_nil_iff]at z;rw[z]at d;cases d
  rw[Q]at r;refine(yq r).trans ((Ux j).trans ?_);have w:=Uo (cy.mpr ⟨l,d,rfl⟩:(l.length:Int)∈((As t.length).filter (ka t ks)).map λl=>(l.length:Int));obtain⟨m,u,s⟩:=cy.mp (KA j);have I:=hm.le m (v m u);rw[<- s]at w ⊢
  congr 2
  omega
 have C:=VW (cap:=[4]) (ifs:=zj jd (mQ qx (qg zm)) zw) (me:=zm) (ρ:=[some (zx t),some (zy ks),some (.ref B.length),y,some (.int ((k+1:Nat):Int))]) (A:=b) (f:=lw) (g:=lw) (P:=λl=>decide ((l.length:Int)=((k+1:Nat):Int))) (L:=(As t.length).filter (ka t ks)) (zp (i:=2) rfl) c (by omega)
  (λl H=>(zT (E l _ _ rfl) (zp rfl)).trans (QL _ _ _)) (λl _ _=>zp rfl)
 have q:zW 1 [4] (qe zB) (zH 0) (zj jd (mQ qx (qg zm)) zw) (zQ zm) [some (zx t),some (zy ks),some (.ref B.length),y,some (.int ((k+1:Nat):Int))] b=.ok ((Gd t ks (k+1)).map lw) b:=C;have N:GS (qu (zW 1 [4] (qe zB) (zH 0) (zj jd (mQ qx (qg zm)) zw) (zQ zm))) [some (zx t),some (zy ks),some (.ref B.length),y,some (.int ((k+1:Nat):Int))] b=.ok (.ref (b++[O.lst ((Gd t ks (k+1)).map lw)]).length) (b++[.lst ((Gd t ks (k+1)).map lw)]++[.lst ((Lv t ks k).map lw)]):=by
  unfold GS;rw[kS q,zL];unfold UR;dsimp only;rw[qJ];dsimp only;rw[Ms (λl H z=>by have:=((MB a).mp H).2;rw[z]at this;cases this)]
  dsimp only;rw[ah (by rw[ag];exact iS a hm),Au a,aP]
  rfl
 refine KP (k:=(b++[O.lst ((Gd t ks (k+1)).map lw)]).length) (A1:=b++[.lst ((Gd t ks (k+1)).map lw)]++[.lst ((Lv t ks k).map lw)]) (Sj t ks) (qT ?_) qJ (UM _);unfold Rk;refine(zN (qW (j0 (zF (Q9 zY) zY)))).trans ?_;refine(zN ((Qp (Q3 (len_tab rfl) (ZI (by omega)))).trans (by rw[aK];exact e))).trans ?_
 refine(zN (ρ1:=[some (zx t),some (zy ks),some (.ref B.length),y,none]) (A1:=b) ((qW (kS D)).trans (by rw[o];rfl))).trans ?_
 refine(zN (qW x)).trans ?_;exact qA (qZ N)
end
def iU {a b:W}(c:qm A 8 a=some d)(H:qm A 8 b=some d)(h:PyData.eqv d d=true):jd a b A=.ok (.bl true) A:=by
 show wy false a b A=_;unfold wy;rw[c,H];dsimp only;rw[aj (by simp),h]
section
variable {ks:bU}{l:bY}{K g:Nat}{C:Hx}{w u v z:W}{PF:jW}
def Ad {ma mb:Ev}{A2:Hx}(H:ma ρ A=.ok u A1)(h:mb ρ A1=.ok v A2):Wg i j ma mb ρ A=.ok (.nx ((ρ.set i (some u)).set j (some v))) A2:=by
 unfold Wg;rw[H,zL,h,zL]
def Dv (h:wj A w):Q2 [w,u] A=.exc "NoTable" A:=by
 refine gW ?_;unfold Gp;exact wI (Qj ((qb (zF (zp rfl) zY)).trans (W6 h)))
def EO (h:wj A w):Qc [w,u,z] A=.exc "NoTable" A:=by
 refine gW ?_;unfold Ku;exact wI (Qj ((qb (zF (zp rfl) zY)).trans (W6 h)))
def EW (H:qp t)(a:jg t=(K:Int))(h:kQ [u,.int 1,.int ((K:Int)-1)] A=.ok (.bl false) A):Qc [zx t,u,z] A=.exc "NoKinds" A:=by
 refine gW ?_;unfold Ku;exact(zN (ki ((qb (zF (zp rfl) zY)).trans (Qe H A)))).trans (wI (Qj ((qb (zF (zp rfl) (zF (zp rfl) zY))).trans (UU H a h))))
def iV (h:wj A w):Q8 [w,u] A=.exc "NoTable" A:=by
 refine gW ?_;unfold GW;exact wI (Qj ((qb (zF (zp rfl) zY)).trans (W6 h)))
def iW (H:qp t)(a:jg t=(K:Int))(h:kQ [u,.int 1,.int ((K:Int)-1)] A=.ok (.bl false) A):Q8 [zx t,u] A=.exc "NoKinds" A:=by
 refine gW ?_;unfold GW;exact(zN (ki ((qb (zF (zp rfl) zY)).trans (Qe H A)))).trans (wI (Qj ((qb (zF (zp rfl) (zF (zp rfl) zY))).trans (UU H a h))))
def FT (h:wj A w):QV [w,u] A=.exc "NoTable" A:=by
 refine gW ?_;unfold W3;exact wI (Qj ((qb (zF (zp rfl) zY)).trans (W6 h)))
def FR (H:qp t)(a:jg t=(K:Int))(h:kQ [u,.int 1,.int ((K:Int)-1)] A=.ok (.bl false) A):QV [zx t,u] A=.exc "NoKinds" A:=by
 refine gW ?_;unfold W3;exact(zN (ki ((qb (zF (zp rfl) zY)).trans (Qe H A)))).trans (wI (Qj ((qb (zF (zp rfl) (zF (zp rfl) zY))).trans (UU H a h))))
def CP (H:qp t)(h:kQ [u,.int 0,.int ((t.length:Int)-1)] A=.ok (.bl false) A):Q2 [zx t,u] A=.exc "NoLot" A:=by
 refine gW ?_;unfold Gp;exact(zN (ki ((qb (zF (zp rfl) zY)).trans (Qe H A)))).trans (wI (Qj ((qb (zF (zp rfl) (zF (zp rfl) zY))).trans (M9 H h))))
def E1 (H:qp t)(a:jg t=(K:Int))(s:QN K ks)(h:kQ [z,.int 0,.int ((t.length:Int)-1)] A=.ok (.bl false) A):Qc [zx t,zy ks,z] A=.exc "NoLot" A:=by
 refine gW ?_;unfold Ku;exact(zN (ki ((qb (zF (zp rfl) zY)).trans (Qe H A)))).trans ((zN (ki ((qb (zF (zp rfl) (zF (zp rfl) zY))).trans (GG H a s A)))).trans (wI (Qj ((qb (zF (zp rfl) (zF (zp rfl) zY))).trans (M9 H h)))))
def Jt {f:Fn}{t:Lm}(h:LS[k]? =some t)(e:t.m=zA f (zc zm (zc zw zl))):yX LS k [u,v] A=f [u,v] A:=by
 rw[O8 h,e];exact qb rfl
def Yj {f:Fn}{t:Lm}(h:LS[k]? =some t)(e:t.m=zA f (zc zm (zc zw (zc zB zl)))):yX LS k [u,v,z] A=f [u,v,z] A:=by
 rw[O8 h,e];exact qb rfl
def iX (s:jb n A)(l:qp t)(r:jg t=(K:Int)):∃ks B,JC [.ref n,zx t] A=.ok (zy ks) B/\QN K ks/\Kn n A B:=by
 have v:=Jk l;have hm:Qy (zU (.int 1)) (zA gT (zc (qj 1) zl)) [some (.ref n),some (zx t)] A=.ok (yV 1 (K-1)) A:=by
  unfold Qy;rw[qy,zL,(qb (zF (zp rfl) zY)).trans ((Gj l A).trans (by rw[r])),zL]
  dsimp only;have H:jD (K:Int)=true:=ZI (by omega)
  rw[H,show(((K:Int)-1).toNat)=K-1 by omega]
  rfl
 obtain⟨o,acc,B,e,_,⟨ks,c,H,d,u⟩,kn⟩:=Qb (nl:=1) (cap:=[0]) (tw:=zH 0) (ifs:=zj jd (zA jQ (zc (qj 1) (zc (zU (.int 2)) zl))) (zU (.int 1))) (em:=zQ (qj 0)) (N:=K-1)
  (I:=λi ρ acc C=>(∃y,ρ=[y,some (.ref n)])/\(∃ks:bU,acc=ks.map W.int/\(∀k∈ks,1<=k/\k<1+(i:Int))/\ks.Pairwise (· < ·)/\ks.length<=i)/\Kn n A C) hm rfl
  (λi ρ acc C hi ⟨⟨y,g⟩,⟨ks,c,H,d,u⟩,kn⟩=>by
   subst g c;obtain⟨q,f,e,w,j,_⟩:=UO kn.st (m:=2) (by decide) (by decide)
   have E:zj jd (zA jQ (zc (qj 1) (zc (zU (.int 2)) zl))) (zU (.int 1)) [some (.int (1+(i:Int))),some (.ref n)] C=.ok (.bl (decide ((q:Int)=1))) f:=(zT ((qb (zF (zp rfl) (zF qy zY))).trans e) qy).trans (QL _ _ _);refine⟨_,[some (.int (1+(i:Int))),some (.ref n)],g7 hi,rfl,?_⟩
   by_cases z:(q:Int)=1
   ·rw[az z]at E
    refine .inl ⟨f,_,_,f,E,ZL (zp rfl) (by rw[ag];unfold qf;omega),⟨_,rfl⟩,⟨ks++[1+(i:Int)],by rw[aL];rfl,λk h=>?_,?_,by rw[aw,aS];omega⟩,kn.trans j⟩
    ·rcases cC.mp h with h|h
     ·have:=H k h;omega
     ·rw[cA.mp h];omega
    ·rw[List.pairwise_append]
     refine⟨d,aZ _ _,λa c b p=>?_⟩;rw[cA.mp p]
     have:=H a c
     omega
   ·rw[aJ z]at E
    exact .inr ⟨f,E,⟨_,rfl⟩,⟨ks,rfl,λk h=>by have:=H k h;omega,d,by omega⟩,kn.trans j⟩)
  (λρ acc C _=>gX (by omega)) ⟨⟨none,rfl⟩,⟨[],rfl,λk h=>by(cases h),.nil,by simp⟩,⟨Kp.refl,s⟩⟩
 subst c;unfold JC Vl;refine⟨ks,B,qT ?_,⟨λk h=>by have:=H k h;omega,d,by omega⟩,kn⟩
 unfold Pc;exact qA (qZ (YR e))
def BR.no {lo hi:Int}(h:BR A w)(x:Ext A B)(e:kQ [w,.int lo,.int hi] A=.ok (.bl false) A):kQ [w,.int lo,.int hi] B=.ok (.bl false) B:=by
 rcases h with ⟨ws,rfl,H,hw⟩|⟨ty,h,hn⟩
 ·rw[rw_T H hw B]
  rw[rw_T H hw A]at e;injection e with e
  rw[e]
 ·exact rw_N (x.ky _ _ h) hn
def iY {l q:Nat}{x0 x1 x2 x3 x4 x5 x6 x7:Option W}(h:A[1]? =some (.tab qB Pt))(m:Ex):
  zo (zZ 7 (zX (zc (yh 1 qB Pt i (PF i)) zl))) (zo (jJ (jU yi yA (yh 1 qB Pt j (PF j)))) (zo (jJ (jU yi yA (yh 1 qB Pt l (PF l)))) (zo (jJ (jU yi yA (yh 1 qB Pt q (PF q)))) m))) [x0,x1,x2,x3,x4,x5,x6,x7] A=
   m [x0,x1,x2,x3,x4,x5,x6,some (.ref A.length)] (A++[.lst ([i,j,l,q].map λk=>.clo k [] (PF k))]):=by
 have set_new:∀o o':O,(A++[o]).set A.length o'=A++[o']:=λo o'=>by rw[List.set_append_right _ _ (ar _),Nat.sub_self];rfl
 refine(NU h _).trans (zN (ki (w:=.non) ?_));exact(Q4 (zp rfl) qJ (KO (jT h) q)).trans ((Yx qJ (by simp)).trans (by rw[set_new];rfl))
def BG {b:Bool}{c:Int}(s:jb 0 [.lst [.int c,.bl b],.tab qB Pt])(d:qp t)(z:jg t=(K:Int))(P:QN K ks)(hl:kO t.length l):
  ∃(Y:Int) (Z:Bool),(0<=Y/\(Z=false->Y<2147483647))/\∀PF,∃B,qV 8 (Kc QS ZF gT wZ QV Qc Q8 Q2 RF Pt PF) [.ref 0,zx t,zy ks,lw l] [.lst [.int c,.bl b],.tab qB Pt]=.ok (.bl true) B/\B[0]? =some (.lst [.int Y,.bl Z])/\B[1]? =some (.tab qB Pt):=by
 have kb:=Jk d;have n8:=d.n8;have n1:=d.n1;have hll:=hl.len;obtain⟨bad,A1,e1,hb,k1⟩:=hW s;obtain⟨o,A2,e2,hod,k2⟩:=MD (far:=K) (r:=ks) k1.st P.len (by omega)
 obtain⟨f,j,e3,hbt,k3⟩:=MD (far:=t.length) (r:=nI l) k2.st (by rw[ag];omega) n8
 have k13:=(k1.trans k2).trans k3;have t3:j[1]? =some (.tab qB Pt):=k13.kp.get (by rfl) (by decide)
 have b3:=hb.mono ((k2.trans k3).ky k1.st);have od3:=hod.mono (k3.ky k2.st);obtain⟨Y,Z,s3,g3⟩:=k3.st;refine⟨Y,Z,g3,λPF=>?_⟩;generalize h:([some (.ref 0),some (zx t),some (zy ks),some (lw l),some bad,some o,some f,some (.ref j.length)]:En)=a;generalize u:j++[O.lst (([0,1,2,3]:bY).map λk=>W.clo k [] (PF k))]=A4;have J:Ext j A4:=⟨_,u.symm⟩;have bk:∀B,Ext j B->wj B bad:=λB y=>b3.mono y.ky;have r4:Wl 0 j a [0,1,2,3]:=λk S=>by
  simp only[mem_cons,bS,or_false]at S;rcases S with rfl|rfl|rfl|rfl
  ·exact⟨_,[bad,f],rfl,by rw[<- h];exact Yd rfl rfl,λA y=>J0 ((Jt rfl rfl).trans (Dv (bk A y))) WR⟩
  ·exact⟨_,[bad,o,f],rfl,by rw[<- h];exact TM rfl rfl rfl,λA y=>J0 ((Yj rfl rfl).trans (EO (bk A y))) WR⟩
  ·exact⟨_,[bad,o],rfl,by rw[<- h];exact Yd rfl rfl,λA y=>J0 ((Jt rfl rfl).trans (iV (bk A y))) WR⟩
  ·exact⟨_,[bad,o],rfl,by rw[<- h];exact Yd rfl rfl,λA y=>J0 ((Jt rfl rfl).trans (FT (bk A y))) WR⟩
 obtain⟨A5,e5,x5⟩:=O1 ia (PF:=PF) (n:=4) (c:=j.length) (g:=0) r4 J (by rw[<- u];exact qJ) (by rw[<- h];rfl) (by simp) rfl (by decide +kernel)
 have I:=J.trans x5;have v:=hbt.mono I.ky;obtain⟨q1,L,A6,f1,f2,x6,N⟩:=v.ris (lo:=0) (hi:=(t.length:Int)-1) (by decide) (by omega)
 have p:=I.trans x6;have U:zA wZ (zc we (zc zP (zc (zj yw (mQ qx (qg zw)) zI) zl))) a A5=.ok (.bl L) A6:=by
  subst h;exact(qb (ws:=[f,.int 0,.int ((t.length:Int)-1)]) (A1:=A5) (zF (zp rfl) (zF qy (zF ((zT (len_tab rfl) qy).trans rfl) zY)))).trans f2
 obtain⟨C,e7,x7⟩:∃C,qP (jO (zA wZ (zc we (zc zP (zc (zj yw (mQ qx (qg zw)) zI) zl))))) (zo (qP (zj jf (Jg LS PF (Jn RF) (zc (yh 1 qB Pt 4 (PF 4)) zl)) (zX (zc Ye zl))) yt zC) (zo (qP (zj jf (Jg LS PF (Jn RF) (zc (yh 1 qB Pt 5 (PF 5)) zl)) (zX (zc Ye zl))) yt zC) zC)) zC a A5=.ok (.nx a) C/\Ext A6 C:=by
  cases L with
  |true=>exact⟨A6,(j7 (yu U)).trans jK,Ext.refl⟩|false=>
   have hq:q1=false:=by
    cases q1 with
    |false=>rfl|true=>exact absurd (N rfl) aA
   subst hq;obtain⟨B1,g1,y1⟩:=Pu (k:=4) (g:=6) (PF:=PF) (ρ:=a) (A:=A6) (ws:=[zx t,f]) (x := "NoLot") (p.at t3) rfl (by rw[<- h];exact Yd rfl rfl) ((Jt rfl rfl).trans (CP d (v.no x6 f1))) Pr
   obtain⟨B2,g2,y2⟩:=Pu (k:=5) (g:=6) (PF:=PF) (ρ:=a) (A:=B1) (ws:=[zx t,zy ks,f]) (x := "NoLot") ((p.trans y1).at t3) rfl (by rw[<- h];exact TM rfl rfl rfl) ((Yj rfl rfl).trans (E1 d z P (v.no (x6.trans y1) f1))) Pr
   exact⟨B2,(kJ (yu U)).trans ((zN ((j7 g1).trans jK)).trans ((zN ((j7 g2).trans jK)).trans jK)),y1.trans y2⟩
 have E:=p.trans x7;have e:=od3.mono E.ky;obtain⟨q2,Q,w,f3,f4,x8,M⟩:=e.ris (lo:=1) (hi:=(K:Int)-1) (by decide) (by omega)
 have X:=E.trans x8;have T:zA wZ (zc yy (zc zI (zc (zj yw (zA gT (zc zw zl)) zI) zl))) a C=.ok (.bl Q) w:=by
  subst h;exact(qb (ws:=[o,.int 1,.int ((K:Int)-1)]) (A1:=C) (zF (zp rfl) (zF qy (zF ((zT ((qb (zF (zp rfl) zY)).trans ((Gj d C).trans (by rw[z]))) qy).trans rfl) zY)))).trans f4
 have start:∀r,(zo (qP (zj jf (qu (JV 1 (qe yA) (zH 0) 0 PF LS RF)) (zj jk (zX (zc (zX (zc zP zl)) zl)) kW)) yt zC) r a A4:R Fl)=r a A5:=λr=>zN ((j7 e5).trans jK);have pre:∀r,(zo (zZ 4 (zA QS (zc zm zl))) (zo (Jq (zG (zc (zA ZF (zc zm (zc (zA gT (zc zw zl)) (zc zB zl)))) (zc (zA ZF (zc zm (zc (mQ qx (qg zw)) (zc zO zl)))) zl))) (kH 5 6)) (zo (zZ 7 (zX (zc (yh 1 qB Pt 0 (PF 0)) zl))) (zo (jJ (jU yi yA (yh 1 qB Pt 1 (PF 1)))) (zo (jJ (jU yi yA (yh 1 qB Pt 2 (PF 2)))) (zo (jJ (jU yi yA (yh 1 qB Pt 3 (PF 3)))) r))))) [some (.ref 0),some (zx t),some (zy ks),some (lw l),none,none,none,none] [.lst [.int c,.bl b],.tab qB Pt]:R Fl)=r a A4:=λr=>by
  refine(zN (qW ((qb (zF (zp rfl) zY)).trans e1))).trans ?_;refine(zN (ρ1:=[some (.ref 0),some (zx t),some (zy ks),some (lw l),some bad,some o,some f,none]) (A1:=j) (BE (Q9 (zF ((qb (zF (zp rfl) (zF ((qb (zF (zp rfl) zY)).trans ((Gj d A1).trans (by rw[z]))) (zF (zp rfl) zY)))).trans e2) (zF ((qb (zF (zp rfl) (zF (len_tab rfl) (zF (zp rfl) zY)))).trans e3) zY))) rfl)).trans ?_
  refine(iY t3 r).trans ?_;rw[h,u]
 cases Q with
 |true=>
  refine⟨w,qT ?_,X.at s3,X.at t3⟩;unfold Kc;refine(pre _).trans ((start _).trans ((zN e7).trans ?_));exact qA ((kJ T).trans (qA (qZ qy)))
 |false=>
  have hq:q2=false:=by
   cases q2 with
   |false=>rfl|true=>exact absurd (M rfl) aA
  subst hq;generalize H:([some (.ref 0),some (zx t),some (zy ks),some (lw l),some bad,some o,some f,some (.ref w.length)]:En)=ρ9;generalize q:w++[O.lst (([6,7,8]:bY).map λk=>W.clo k [] (PF k))]=A9;have D:Ext w A9:=⟨_,q.symm⟩;have r9:Wl 7 w ρ9 [6,7,8]:=λk S=>by
   simp only[mem_cons,bS,or_false]at S;rcases S with rfl|rfl|rfl
   ·exact⟨_,[zx t,o,f],rfl,by rw[<- H];exact TM rfl rfl rfl,λA y=>J0 ((Yj rfl rfl).trans (EW d z (e.no (x8.trans y) f3))) Vk⟩
   ·exact⟨_,[zx t,o],rfl,by rw[<- H];exact Yd rfl rfl,λA y=>J0 ((Jt rfl rfl).trans (iW d z (e.no (x8.trans y) f3))) Vk⟩
   ·exact⟨_,[zx t,o],rfl,by rw[<- H];exact Yd rfl rfl,λA y=>J0 ((Jt rfl rfl).trans (FR d z (e.no (x8.trans y) f3))) Vk⟩
  obtain⟨A10,e10,x10⟩:=O1 iU (PF:=PF) (n:=3) (c:=w.length) (g:=7) r9 D (by rw[<- q];exact qJ) (by rw[<- H];rfl) (by simp) rfl (by decide +kernel)
  have i:=(X.trans D).trans x10;refine⟨A10,qT ?_,i.at s3,i.at t3⟩;unfold Kc;refine(pre _).trans ((start _).trans ((zN e7).trans ((zN ((j7 T).trans jK)).trans ?_)));subst h;refine(NU (X.at t3) _).trans ?_;rw[H,q];exact qA (qZ e10)
def Gy (Pt:Addr):Fn:=Y0 qB Pt λPF=>qV 8 (Kc QS ZF gT wZ QV Qc Q8 Q2 RF Pt PF)
def Bt (s:jb n A)(k:A[1]? =some (.tab qB Pt))(d:qp t)(j:jg t=(K:Int))(H:QN K ks)(r:kO t.length l):∃B,Gy Pt [.ref n,zx t,zy ks,lw l] A=.ok (.bl true) B/\Kn n A B:=by
 obtain⟨c,b,e,i⟩:=s;have f:=Zi e;obtain⟨C,a,g,h⟩:=BG (Pt:=Pt) (b:=b) (c:=c) ⟨c,b,rfl,i⟩ d j H r;refine⟨A.set n (.lst [.int C,.bl a]),Nh ⟨n,[zx t,zy ks,lw l],[.int c,.bl b],.bl true,[.int C,.bl a],rfl,e,k,rfl,by show((zx t).nr&&((zy ks).nr&&((lw l).nr&&true)))=true;rw[ZM,Qm,YW];rfl,rfl,rfl,rfl,h⟩,Kp.set,C,a,aH f,g⟩
variable {p:Nat}
def iZ (s:jb n A)(p:qp t)(H:ρ[2]? =some (some (.ref n)))(j:ρ[3]? =some (some (zx t))):∃l B,mQ wO (zW 1 [2] (jG (mQ qx (qg zO))) (zH 0) (zj jd (zA jQ (zc zw (zc qK zl))) zI) (zQ zm)) ρ A=.ok (lw l) B/\kO t.length l/\Kn n A B:=by
 have n8:=p.n8;have hm:=Q3 (len_tab (t:=t) (i:=3) (ρ:=ρ) (A:=A) j) (ZI (n:=t.length) (by omega))
 rw[aK]at hm;obtain⟨o,acc,B,e,_,⟨l,c,d,H,j⟩,kn⟩:=Qb (nl:=1) (cap:=[2]) (tw:=zH 0) (ifs:=zj jd (zA jQ (zc zw (zc qK zl))) zI) (em:=zQ zm) (N:=t.length)
  (I:=λi ρ acc C=>(∃y,ρ=[y,some (.ref n)])/\(∃l:bY,acc=(nI l).map W.int/\(∀k∈l,k<i)/\l.Pairwise (· < ·)/\l.length<=i)/\Kn n A C) hm rfl
  (λi ρ acc C hi ⟨⟨y,g⟩,⟨l,c,d,H,j⟩,kn⟩=>by
   subst g c;obtain⟨q,f,e,u,K,_⟩:=UO kn.st (m:=2) (by decide) (by decide)
   have E:zj jd (zA jQ (zc zw (zc qK zl))) zI [some (.int (0+(i:Int))),some (.ref n)] C=.ok (.bl (decide ((q:Int)=1))) f:=(zT ((qb (zF (zp rfl) (zF qy zY))).trans e) qy).trans (QL _ _ _);refine⟨_,[some (.int (0+(i:Int))),some (.ref n)],g7 hi,rfl,?_⟩
   by_cases z:(q:Int)=1
   ·rw[az z]at E
    refine .inl ⟨f,_,_,f,E,ZL (zp rfl) (by rw[Jv];unfold qf;omega),⟨_,rfl⟩,⟨l++[i],by unfold nI;rw[aL,aL,bO];rfl,λk h=>?_,?_,by rw[aw,aS];omega⟩,kn.trans K⟩
    ·rcases cC.mp h with h|h
     ·have:=d k h;omega
     ·rw[cA.mp h];omega
    ·rw[List.pairwise_append]
     refine⟨H,aZ _ _,λa c b r=>?_⟩;rw[cA.mp r];exact d a c
   ·rw[aJ z]at E
    exact .inr ⟨f,E,⟨_,rfl⟩,⟨l,rfl,λk h=>by have:=d k h;omega,H,by omega⟩,kn.trans K⟩)
  (λρ acc C _=>gX (by omega)) ⟨⟨none,by show [none,(ρ[2]?).join]=_;rw[H];rfl⟩,⟨[],rfl,λk h=>by(cases h),.nil,by simp⟩,⟨Kp.refl,s⟩⟩
 subst c;exact⟨l,B,YR e,⟨H,d⟩,kn⟩
def Ep {q:Nat}{L:List (bY)}(a:A[p]? =some (.lst (L.map lw)))(H:A[q]? =some (.lst (L.map lw)))(h:L.length<=300)(c:∀l∈L,l.length<=100):ku [.ref p,.ref q] A=.ok (.bl true) A:=
 VO (ws:=L.map lw) (ty:=.lst) (by unfold zV;dsimp only;rw[a]) (by unfold zV;dsimp only;rw[H]) (by unfold jP;dsimp only;rw[a]) (by unfold jP;dsimp only;rw[H]) (.inr rfl) (by rw[ag];omega) λw hw=>by
  obtain⟨l,b,rfl⟩:=cy.mp hw;exact El (by rw[ag];exact c l b) A
def i0 (P:bY):cW K P=((List.range K).map λk=>((P.count k:Nat):Int)).map W.int:=by unfold cW;rw[aP];rfl
abbrev Sk:Ex:=zo (Wg 9 10 (zA YC (zc zO (zc we zl))) (zA JE (zc zO (zc yy zl)))) (zo (qP (wU (jO (zA ku (zc XG (zc (zA Yr (zc zO (zc we zl))) zl)))) (jO (zA ku (zc G6 (zc yA zl))))) yt zC) (zo (jJ (jU yi XG zP)) (zo (jJ (jU yi G6 (zG zl))) zC)))
def i3 {x0 x1 x2 x4 x8 x9 x10:Option W}(a:qp t)(o:jg t=(K:Int))(b:kO t.length l)(v:∀A:Hx,JE [zx t,zy ks] A=.ok (.ref A.length) (A++[.lst ((Lv t ks k).map lw)]))(g:A[p]? =some (.lst ((Lv t ks k).map lw))):
  ∃Y y B,Sk [x0,x1,x2,some (zx t),x4,some (zy ks),some (lw l),some (.ref p),x8,x9,x10] A=.ok (.nx [x0,x1,x2,some (zx t),x4,some (zy ks),some (lw l),some (.ref p),x8,Y,y]) B/\Ext A B:=by
 have n8:=a.n8;have w:=Jk a;have r:=CG a o b A;have E:=v (A++[.lst (cW K (wG t l l))]);have e:=ES a o b (A++[.lst (cW K (wG t l l))]++[.lst ((Lv t ks k).map lw)]);generalize s:cW K (wG t l l)=sp at r E e;generalize n:(Lv t ks k).map lw=L at E e g;have u:=Zi g;have d:(A++[.lst sp]++[.lst L]++[.lst sp])[A.length]? =some (.lst sp):=jT (jT qJ);have c:(A++[.lst sp]++[.lst L]++[.lst sp])[(A++[O.lst sp]).length]? =some (.lst L):=jT qJ;have q:(A++[.lst sp]++[.lst L]++[.lst sp])[(A++[O.lst sp]++[O.lst L]).length]? =some (.lst sp):=qJ;have j:(A++[.lst sp]++[.lst L]++[.lst sp])[p]? =some (.lst L):=jT (jT (jT g));have x:Ext A (A++[.lst sp]++[.lst L]++[.lst sp]):=(Ext.one.app).app;have ln:(A++[O.lst sp]).length=A.length+1:=by simp
 generalize A++[.lst sp]++[.lst L]++[.lst sp]=D at e d c q j x;have s1:ku [.ref A.length,.ref (A++[O.lst sp]++[O.lst L]).length] D=.ok (.bl true) D:=by
  have h:sp=((List.range K).map λk=>(((wG t l l).count k:Nat):Int)).map W.int:=s.symm.trans (i0 _);exact CW (d.trans (by rw[h])) (q.trans (by rw[h])) (by rw[ag,aV];omega)
 have s2:ku [.ref (A++[O.lst sp]).length,.ref p] D=.ok (.bl true) D:=by
  rw[<- n]at c j;exact Ep c j (bb (GV n8 k) (by decide)) λl b=>by have:=(gD.mp b).2.len;omega
 have f:sp.length<1000:=by rw[<- s];unfold cW;rw[ag,aV];omega
 have i:L.length<1000:=by rw[<- n,ag];have:=GV (ks:=ks) n8 k;omega
 have H:(D.set A.length (.lst (sp++[.int 0])))[(A++[O.lst sp]).length]? =some (.lst L):=by rw[aG (by omega)];exact c
 refine⟨some (.ref A.length),some (.ref (A++[O.lst sp]).length),(D.set A.length (.lst (sp++[.int 0]))).set (A++[O.lst sp]).length (.lst (L++[.tup []])),?_,(x.set (ar _)).set (by omega)⟩
 refine(zN (Ad ((qb (zF (zp rfl) (zF (zp rfl) zY))).trans r) ((qb (zF (zp rfl) (zF (zp rfl) zY))).trans E))).trans ?_;refine(zN ((j7 ((K8 (yu (k:=true) ((qb (zF (zp rfl) (zF ((qb (zF (zp rfl) (zF (zp rfl) zY))).trans e) zY))).trans s1))).trans (yu (k:=true) ((qb (zF (zp rfl) (zF (zp rfl) zY))).trans s2)))).trans jK)).trans ?_;refine(zN (ki ((Q4 (zp rfl) d qy).trans (Yx d f)))).trans ?_;exact(zN (ki ((Q4 (zp rfl) H (Q9 zY)).trans (Yx H i)))).trans jK
abbrev Sd (Pt:Addr):Ex:=zo (zZ 5 (zA JC (zc zB (zc zO zl)))) (zo (zZ 6 (mQ wO (zW 1 [2] (jG (mQ qx (qg zO))) (zH 0) (zj jd (zA jQ (zc zw (zc qK zl))) zI) (zQ zm)))) (zo (zZ 7 (zA Yp (zc zO (zc yy zl)))) (zo (qP (jO (zA ku (zc (zA YA (zc zO (zc yy (zc we zl)))) (zc (zA QW (zc zO (zc yy (zc we zl)))) zl)))) yt zC) (zo (qP (jO (zA ku (zc (zA YS (zc zO (zc yy zl))) (zc (mQ qx (qg (zj zJ yA zP))) zl)))) yt zC) (zo (yk (jG qK) (zH 8) Sk) (zo (qP (jO (zA (Gy Pt) (zc zB (zc zO (zc yy (zc we zl)))))) yt zC) zC))))))
def BA (b:Bool)(A:Hx):ku [.bl b,.bl b] A=.ok (.bl true) A:=by
 unfold ku R4;refine qT (w:=.bl true) (A1:=A) ?_;cases b<;>rfl
def Cc {x0 x1 x4 x5 x6 x7 x8 x9 x10:Option W}(s:jb n A)(h1:A[1]? =some (.tab qB Pt))(hn:n≠1)(h:qp t)(g:jg t=(K:Int)):
  ∃S Q P d Y y B,Sd Pt [x0,x1,some (.ref n),some (zx t),x4,x5,x6,x7,x8,x9,x10] A=.ok (.nx [x0,x1,some (.ref n),some (zx t),x4,S,Q,P,d,Y,y]) B/\Kn n A B:=by
 have n8:=h.n8;obtain⟨ks,A1,e1,H,k1⟩:=iX s h g;obtain⟨l,A2,e2,q,k2⟩:=iZ (ρ:=[x0,x1,some (.ref n),some (zx t),x4,some (zy ks),x6,x7,x8,x9,x10]) k1.st h rfl rfl;obtain⟨k,hm,v,D,U⟩:=FQ h g H;have J:=D5 (ks:=ks) h hm A2;have u:=k1.trans k2;have k3:=u.trans (Kn.ext k2.st (Ext.one (o:=.lst ((Lv t ks k).map lw))));have C:(A2++[O.lst ((Lv t ks k).map lw)])[A2.length]? =some (.lst ((Lv t ks k).map lw)):=qJ;generalize hA3:A2++[O.lst ((Lv t ks k).map lw)]=a at J k3 C;obtain⟨c,hc,em⟩:=iH h g H;have z:=hc.uniq hm;subst z;obtain⟨M,A4,e4,X,d,Y,y,b⟩:=Q0 (j:=yV 0 2) (st:=turn (zH 8) Sk) (N:=2) (I:=λ_ ρ B=>Ext a B/\∃d Y y,ρ=[x0,x1,some (.ref n),some (zx t),x4,some (zy ks),some (lw l),some (.ref A2.length),d,Y,y])
  (λi ρ B hi ⟨x,d,Y,y,b⟩=>by
   subst b;obtain⟨z9,Z,B',e,T⟩:=i3 (x0:=x0) (x1:=x1) (x2:=some (.ref n)) (x4:=x4) (x8:=some (.int (0+(i:Int)))) (x9:=Y) (x10:=y) (p:=A2.length) h g q U (x.at C);exact⟨_,_,B',g7 hi,(Zj rfl).trans e,x.trans T,_,_,_,rfl⟩)
  (λρ B _=>gX (by omega)) 2 0 [x0,x1,some (.ref n),some (zx t),x4,some (zy ks),some (lw l),some (.ref A2.length),x8,x9,x10] a (by omega) ⟨Ext.refl,_,_,_,rfl⟩
 subst b;have r:=k3.trans (Kn.ext k3.st X);obtain⟨A5,e5,k5⟩:=Bt (Pt:=Pt) r.st (r.kp.get h1 (Ne.symm hn)) h g H q;refine⟨some (zy ks),some (lw l),some (.ref A2.length),d,Y,y,A5,?_,r.trans k5⟩;refine(zN (qW ((qb (zF (zp rfl) (zF (zp rfl) zY))).trans e1))).trans ?_;refine(zN (qW e2)).trans ?_;refine(zN (qW ((qb (zF (zp rfl) (zF (zp rfl) zY))).trans J))).trans ?_;refine(zN ((j7 (yu (k:=true) ((qb (zF ((qb (zF (zp rfl) (zF (zp rfl) (zF (zp rfl) zY)))).trans (iJ h g H q a)) (zF ((qb (zF (zp rfl) (zF (zp rfl) (zF (zp rfl) zY)))).trans ((Nk h q a).trans (by rw[Ek h q]))) zY))).trans (BA _ a)))).trans jK)).trans ?_
 obtain⟨f,L,E⟩:∃f L,Lv t ks k=f::L:=List.exists_cons_of_ne_nil v;have hf:f.length=k+1:=(gD.mp (by rw[E];exact au ..)).1
 have el:mQ qx (qg (zj zJ yA zP)) [x0,x1,some (.ref n),some (zx t),x4,some (zy ks),some (lw l),some (.ref A2.length),x8,x9,x10] a=.ok (.int ((k+1:Nat):Int)) a:=by
  refine(yq (kG (ws:=(nI f).map W.int) ((zT (zp rfl) (qy (w:=.int 0))).trans (gz (w:=lw f) (s:=0) C (by rw[E];rfl))) rfl)).trans ?_
  unfold qx;rw[Jv,hf]
 refine(zN ((j7 (yu (k:=true) ((qb (zF ((qb (zF (zp rfl) (zF (zp rfl) zY))).trans (em a)) (zF el zY))).trans (ij _ a)))).trans jK)).trans ?_;refine(zN ((Qp (Q3 (k:=2) qy (by decide))).trans e4)).trans ?_
 exact(zN ((j7 (yu (k:=true) ((qb (zF (zp rfl) (zF (zp rfl) (zF (zp rfl) (zF (zp rfl) zY))))).trans e5))).trans jK)).trans jK
abbrev BL (Pt:Addr):Ex:=zo (zZ 2 (zA Yt (zc zm (zc zw zl)))) (zo (zZ 3 (zA JA (zc zB zl))) (zo (yk (jG jz) (zH 4) (Sd Pt)) zC))
def Bn {x2 x3 x4 x5 x6 x7 x8 x9 x10:Option W}(h0:A[0]? =some (.ro (ns.map W.int)))(l:A[1]? =some (.tab qB Pt)):∃r q g f d c b Y y B,BL Pt [some (.ref 0),some (.int (i:Int)),x2,x3,x4,x5,x6,x7,x8,x9,x10] A=.ok (.nx [some (.ref 0),some (.int (i:Int)),r,q,g,f,d,c,b,Y,y]) B/\B[0]? =some (.ro (ns.map W.int))/\B[1]? =some (.tab qB Pt):=by
 obtain⟨o,E,S⟩:=BO h0 i;have U:=Zi l;have D:=jT (u:=o) h0;have a1:=jT (u:=o) l;generalize hn:A.length=n at*;generalize A++[o]=A1 at*;obtain⟨t,A2,C,H,k2⟩:=h7 S;have T:=Jk H;obtain⟨K,w⟩:=bo (show 0<=jg t by omega)
 obtain⟨p,B,x,s,g,f,d,c,b,Y,y,h⟩:=Q0 (j:=yV 0 3) (st:=turn (zH 4) (Sd Pt)) (N:=3) (I:=λ_ ρ B=>Kn n A2 B/\∃g f d c b Y y,ρ=[some (.ref 0),some (.int (i:Int)),some (.ref n),some (zx t),g,f,d,c,b,Y,y])
  (λa ρ B hi ⟨kn,g,f,d,c,b,Y,y,h⟩=>by
   subst h;obtain⟨Q,P,M,L,Z,z,J,e,v⟩:=Cc (Pt:=Pt) (x0:=some (.ref 0)) (x1:=some (.int (i:Int))) (x4:=some (.int (0+(a:Int)))) (x5:=f) (x6:=d) (x7:=c) (x8:=b) (x9:=Y) (x10:=y) kn.st ((k2.trans kn).kp.get a1 (by omega)) (by omega) H w
   exact⟨_,_,J,g7 hi,(Zj rfl).trans e,kn.trans v,_,_,_,_,_,_,_,rfl⟩)
  (λρ B _=>gX (by omega)) 3 0 [some (.ref 0),some (.int (i:Int)),some (.ref n),some (zx t),x4,x5,x6,x7,x8,x9,x10] A2 (by omega) ⟨⟨Kp.refl,k2.st⟩,_,_,_,_,_,_,_,rfl⟩
 subst h;have k3:=k2.trans s;refine⟨some (.ref n),some (zx t),g,f,d,c,b,Y,y,B,?_,k3.kp.get D (by omega),k3.kp.get a1 (by omega)⟩
 refine(zN (qW ((qb (ws:=[.ref 0,.int i]) (A1:=A) rfl).trans E))).trans ?_;refine(zN (qW ((qb (ws:=[.ref n]) (A1:=A1) rfl).trans C))).trans ?_;exact(zN ((Qp (Q3 (k:=3) qy (by decide))).trans x)).trans jK
end
def Tc (Pt:Addr):Fn:=qV 11 (Te QW Yp (Gy Pt) ku Yr Yt JA jQ JC JE YA YS YC)
def CO:NS qB Tc:=λns M Pt=>by
 have s:zV (.ref 0) [.ro (ns.map W.int),.tab qB Pt]=some (ns.map W.int):=rfl;have E:mQ qx (qg zm) [some (.ref 0),none,none,none,none,none,none,none,none,none,none] [.ro (ns.map W.int),.tab qB Pt]=.ok (.int ns.length) [.ro (ns.map W.int),.tab qB Pt]:=by
  rw[yq (kG (w:=.ref 0) (A1:=[.ro (ns.map W.int),.tab qB Pt]) (zp rfl) s)];unfold qx;rw[ag]
 have em:zj Tn zI (zj Jl (mQ qx (qg zm)) kW) [some (.ref 0),none,none,none,none,none,none,none,none,none,none] [.ro (ns.map W.int),.tab qB Pt]=
   .ok (.int (if (if (4:Int)<ns.length then 4 else(ns.length:Int)) > 1 then(if (4:Int)<ns.length then 4 else(ns.length:Int)) else 1)) [.ro (ns.map W.int),.tab qB Pt]:=
  (zT (qy (w:=.int 1)) ((zT E (qy (w:=.int 4))).trans rfl)).trans rfl
 generalize r:(if (if (4:Int)<ns.length then 4 else(ns.length:Int)) > 1 then(if (4:Int)<ns.length then 4 else(ns.length:Int)) else 1)=v at em;have l:jD v=true:=by
  have:0<=v/\v<1000:=by
   rw[<- r]
   split<;>split<;>omega
  obtain⟨k,rfl⟩:=bo this.1;exact Pf (by omega)
 obtain⟨q,B,e,_⟩:=Q0 (j:=yV 0 v.toNat) (st:=turn (zH 1) (BL Pt)) (N:=v.toNat) (I:=λ_ ρ B=>B[0]? =some (.ro (ns.map W.int))/\B[1]? =some (.tab qB Pt)/\∃p h g f d c b a Y y,ρ=[some (.ref 0),p,h,g,f,d,c,b,a,Y,y])
  (λi ρ B hi ⟨h0,t,p,h,g,f,d,c,b,a,Y,y,H⟩=>by
   subst H;obtain⟨L,K,J,D,C,A,x,Z,z,u,e,o,n⟩:=Bn (i:=i) (x2:=h) (x3:=g) (x4:=f) (x5:=d) (x6:=c) (x7:=b) (x8:=a) (x9:=Y) (x10:=y) h0 t;refine⟨_,_,u,g7 hi,(Zj (ρ1:=[some (.ref 0),some (.int (i:Int)),h,g,f,d,c,b,a,Y,y]) ?_).trans e,o,n,_,_,_,_,_,_,_,_,_,_,rfl⟩;rw[bO];rfl)
  (λρ B _=>gX (by omega)) v.toNat 0 [some (.ref 0),none,none,none,none,none,none,none,none,none,none] [.ro (ns.map W.int),.tab qB Pt] (by omega) ⟨rfl,rfl,_,_,_,_,_,_,_,_,_,_,rfl⟩
 refine⟨B,qT ?_⟩;unfold Te;exact(zN ((Qp (Q3 em l)).trans e)).trans (qA (qZ qy))
section
variable {K:Frag}
def IQ (Z:Zz K h mg){PG:jW}{lam:Nat->Fn}(H:∀k,ZY P w K mg base 7 (PG k) (lam k)):zR P w K mg base 8 "_law_refused" 1 ((qV 4 (Kj PG lam))):=by
 obtain⟨f,fd,F,a⟩:=Z.T.IX;exact(Hc (k:=7) Z.B Z.C Z.T.zcL F (aX Z.X Z.G a) (ar _) H)
def i4 (Z:Zz K h mg)(H:tabIn K "_law_refusals_right"=some (c,Pt))(b:BMain mg base)(C:CodeHd base c Pt):zR P w K mg base 9 "_law_refusals_right" 4 (Gy Pt):=by
 obtain⟨f,fd,F,a⟩:=Z.T.L9;exact L8 (k:=8) (j:=6) (kk:=8) Z.B F a H (aX Z.X Z.G a) b C (IH Z).up (Iv Z).up (Vi Z).up (Hm Z).up (by decide)
  (f9 (k:=6) Z.B (λbase=>(Pb Z).up) (λbase=>(Px Z).up) (λbase=>(NG Z).up) (λbase=>(Oo Z).up)) (λbase PG L=>(IQ Z L).imp λus A _=>ie us A)
def i5 (Z:Zz K h mg)(F:wd K "law" "law" G2 f fd)(H:tabIn K "_law_refusals_right"=some (c,Pt))(a:BMain mg base)(C:CodeHd base c Pt):ko P w K mg base wX 10 f fd ["_law_script"] (ZA K 1 (Tc Pt)):=
 o_law (k:=9) Z.B F (Pd Z).up (IP Z).up (i4 Z H a C) (Fu Z).up (Hf Z).up (Fb Z).up (HJ Z).up (kr Z).up (Fo Z).up (FW Z).up (EN Z).up (gg Z).up (DC Z).up
def all_mk {l:PySem.W.OpenLaw}{i:Addr}(X:K.In h)(Gl:h.Ns mainGlobals mg)(b:mg "law"=some (.ref i))(T:Tx K)(H:∃c,tabIn K "_law_refusals_right"=some (c,Pt)/\codeHdIn K c Pt=true):
  ∃fd:FuncData,(∀(s:Shared)(v:Value),BindsTo s fd ⟨[v],[]⟩ [("_law_script",v)])/\∀base:Heap,K.In base->base.Ns mainGlobals mg->BMain mg base->ko l.prog w K mg base wX 10 i fd ["_law_script"] (ZA K 1 (Tc Pt)):=by
 obtain⟨c,H,d⟩:=H;obtain⟨f,fd,F,a⟩:=T.zcr;have e:=b.symm.trans (aX X Gl a);cases e;obtain⟨n,j,kV,doc,pm,an,C,ct,o,rfl,lk,g⟩:=id F.ex;exact⟨_,λs v=>.of_eq rfl,λbase k nb B=>i5 (zz X Gl T) F H B (codeHd_of_K k d)⟩
end
end G
namespace PySem.W.Fast
def tw11357856580878167479:Nat:=0
def tw12902477386566617428:Nat:=0
def tw6962526089844504527:Nat:=0
def tw2112280139071810364:Nat:=0
def tw13779884109086767161:Nat:=0
def tw13855266288503041899:Nat:=0
def tw5830495390621565849:Nat:=0
def tw5383955938859545441:Nat:=0
def tw4330550786557672492:Nat:=0
def tw6494289116732475596:Nat:=0
def tw2630520486474875387:Nat:=0
def tw9592008140526324537:Nat:=0
def tw854993514613278381:Nat:=0
def tw14396261634625191229:Nat:=0
def tw1572663123594630828:Nat:=0
def tw16201864527574152350:Nat:=0
def tw15437142859901945062:Nat:=0
def tw13932182836379532985:Nat:=0
def tw11639835541744550071:Nat:=0
def tw7483295842254602845:Nat:=0
def tw5417785863327255884:Nat:=0
def tw11430839004573445461:Nat:=0
def tw2760425015433358245:Nat:=0
def tw15955491747307866242:Nat:=0
def tw15572347657544623602:Nat:=0
def tw13226298679454212659:Nat:=0
def tw8332296343762119571:Nat:=0
def tw11982785009858609759:Nat:=0
def tw13205477334517124323:Nat:=0
def tw4343807939008295092:Nat:=0
def tw13154073359927472569:Nat:=0
def tw7206857794253898771:Nat:=0
def tw13250892442313577529:Nat:=0
def tw10985358869529982433:Nat:=0
def tw8014339246309124326:Nat:=0
def tw16015419820677617167:Nat:=0
def tw16574747153253636892:Nat:=0
def tw1765676154970047407:Nat:=0
def tw9360075971621562986:Nat:=0
def tw9583546829191694798:Nat:=0
def tw4068694796893562528:Nat:=0
def tw8520137473328654418:Nat:=0
def tw16929393593394433166:Nat:=0
def tw1739410627668095953:Nat:=0
end PySem.W.Fast
open PySem PySem.W PyProof.Rows
set_option maxRecDepth 100000 in
set_option maxHeartbeats 0 in
theorem PySem.Challenge.cw_nearkinds_k50_lots_of_told_nearness_holds : PySem.Challenge.rw_nearkinds_k50_lots_of_told_nearness.Holds := by
 w_on;o_law;k_head;(case hw=>w_witness2)
 k_fill
 refine' Mi.zcw (y := "_law_refusals_right") (l:=PySem.Challenge.rw_nearkinds_k50_lots_of_told_nearness) (k:=10) (x := "_law_script") G.CO rfl rfl ⟨rfl,by decide,by decide⟩ (λw h Y=>PySem.W.km_in_of Y) (λw h Y=>PySem.W.km_tabs_of Y _ (au ..)) ?ht ?hKP ?F
 case ht=>exact λp=>by kernel_rfl
 case hKP=>exact λp=>by kernel_rfl
 case F=>
  intro w mg fa h KX Gl hmg ht;have T:G.Tx (L2.LI KX):=by
   dsimp only [L2.LI]
   apply G.Tx.mk<;>first | (refine' Mi.zc1 ?a ?l ?c ?k;(case a=>k_is);(case l=>k_is);(case c=>k_is);(case k=>k_is)) | (refine' Mi.zcq ?a;(case a=>k_is)) | k_is|kernel_rfl
  exact G.all_mk KX Gl hmg T ht
