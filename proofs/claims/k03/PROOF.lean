import PyProof.Rows.All
import Wide.All
import OpenK.AllK
import Wide.FinOn
import Lean
import PyProof.EqAt
import PyProof.EqKinds
import PyProof.TupleCall
import OpenK.KOwn
import PyProof.Rows.FStr
import PyProof.FString
import PyProof.NsDelKeeps
import KE.KIsAll
import PyProof.ExcArgs
import KE.KLam
import KE.KNestM
import PyProof.Rows.SetFrom
import PyProof.ListMulRoad
import PyProof.FactsAll.set_1
import PyProof.FactsAll.set_2
import PyProof.CollectIter
import PyProof.TupleIter
import PyProof.CollectWalk
import PyProof.Rows.SortShell
import PyProof.SumAny
import PyProof.ListOps
import KE.KDictList
import PyProof.NoPylong
import KE.KUnpack
import KE.KSortTup
import KE.KIntText
import PyProof.Rows.TupDisplay
import PyProof.AttrMiss
import PyProof.IsiH_list
import KE.KDictOf
import PySem.Challenge.RW_nearkinds_k03_steady_or_broken
noncomputable section
open PySem.W (Frag)
open List (all_eq_true all_map any_cons drop_length ext_getElem? find?_cons forIn_cons forIn_nil head?_append length_drop length_filter_le length_nil length_set lookup_cons map_id map_nil mem_filter of_mem_zip range_eq_range' reverse_cons)
open Nat (le_succ lt_trans mul_le_mul not_lt_zero zero_le)
open Int (emod_nonneg)
open Option (any_eq_true getD_none isSome_some)
open PySem.W (CodeHd callWith_K cellsFrom_some codeHdIn codeHd_of_K codeIn envX fnOf hideAll hideAll_none hideAll_size instObj keepIn kitAny kitOne kitx_bool kitx_dict kitx_float kitx_int kitx_list kitx_none kitx_str kitx_tuple kla_fn kla_obj lookIn methodObj nsIn of_hideAll plainGet tabIn tabObj)
open PySem.F (args_tuple_add_2 entry_tuple_add plain_sum_loop slot_set_iter slot_tuple_add)
abbrev aa:=@List.getElem?_eq_getElem
abbrev ae:=@PySem.Heap.get?_push_of_some
abbrev af:=@List.getD_eq_getElem?_getD
abbrev ag:=@if_pos
abbrev ah:=@List.length_map
abbrev ai:=@List.getElem?_append_left
abbrev aj:=@if_neg
abbrev ak:=@List.length_append
abbrev ao:=@decide_eq_true_iff
abbrev aq:=@List.mem_cons_of_mem
abbrev ar:=@Bool.and_eq_true
abbrev au:=@PySem.Heap.get?_push_size
abbrev av:=@Nat.le_refl
abbrev aw:=@List.getElem?_append_right
abbrev ax:=@List.getElem?_map
abbrev ay:=@List.mem_cons_self
abbrev az:=@decide_eq_true
abbrev aA:=@Bool.false_ne_true
abbrev aB:=@Option.some.inj
abbrev aC:=@List.size_toArray
abbrev aD:=@decide_eq_false
abbrev aE:=@Nat.lt_of_lt_of_le
abbrev aF:=@PySem.Heap.lt_size
abbrev aG:=@List.getElem?_set_ne
abbrev aH:=@Int.toNat_natCast
abbrev aI:=@List.getElem?_eq_none
abbrev aJ:=@List.getElem?_set_self
abbrev aK:=@Nat.ne_of_lt
abbrev aL:=@List.map_map
abbrev aM:=@beq_iff_eq
abbrev aN:=@List.map_cons
abbrev aO:=@List.getElem_mem
abbrev aP:=@List.append_assoc
abbrev aQ:=@List.length_singleton
abbrev aR:=@List.map_append
abbrev aS:=@List.mem_append_right
abbrev aT:=@Array.length_toList
abbrev aU:=@Int.eq_ofNat_of_zero_le
abbrev aV:=@Nat.lt_irrefl
abbrev aW:=@PySem.W.mg_none_of
abbrev aX:=@List.mem_append_left
abbrev aY:=@List.flatten_cons
abbrev aZ:=@PySem.Heap.get?_update_other
abbrev a3:=@List.replicate_succ
abbrev a5:=@List.map_congr_left
abbrev a6:=@List.getElem?_range
abbrev a7:=@PySem.W.mg_of
abbrev a8:=@List.length_range
abbrev a9:=@PySem.Heap.get?_update_self
abbrev ba:=@Nat.lt_succ_of_lt
abbrev bb:=@List.length_cons
abbrev bc:=@Bool.false_eq_true
abbrev bf:=@PySem.Heap.size_push
abbrev bg:=@Nat.le_trans
abbrev bh:=@List.length_replicate
abbrev bj:=@List.filterMap_cons
abbrev bo:=@Nat.lt_succ_self
abbrev bp:=@beq_self_eq_true
abbrev bq:=@Nat.ne_of_gt
abbrev br:=@List.length_take
abbrev bt:=@List.ext_getElem
abbrev bw:=@List.drop_eq_getElem_cons
abbrev bx:=@List.append_nil
abbrev bz:=@Nat.le_of_lt
abbrev bA:=@List.nil_append
abbrev bB:=@Array.getElem?_toList
abbrev bC:=@List.getElem?_replicate
abbrev bD:=@List.not_mem_nil
abbrev bE:=@Int.zero_add
abbrev bF:=@Nat.le_add_right
abbrev bG:=@List.getElem_of_mem
abbrev bH:=@List.flatMap_append
abbrev bI:=@PySem.W.kia_one
abbrev bJ:=@Int.toNat_of_nonneg
abbrev bL:=@List.mem_of_getElem?
abbrev bM:=@PySem.W.hideAll_get
abbrev bN:=@Int.emod_lt_of_pos
abbrev bO:=@List.range_succ
abbrev bP:=@Bool.or_eq_true
abbrev bQ:=@List.mem_cons
abbrev bR:=@List.all_append
abbrev bS:=@List.take_length
abbrev bT:=@List.range'_succ
abbrev bU:=List (List Int)
abbrev bV:=List Int
abbrev bX:=List PySem.Value
abbrev bY:=List PySem.Addr
abbrev bZ:=List (PySem.Addr×PySem.Obj)
abbrev b8:=List Nat
abbrev b9:=List PySem.Str
abbrev cb:=PySem.Value->PySem.Shared->Prop
abbrev cc:=List PySem.Expr
abbrev cf:=Option Int
abbrev cg:=PySem.Str->Option PySem.Value
abbrev ck:=List PySem.Env
abbrev cm:=List (PySem.Str×PySem.Addr)
abbrev cn:=List PySem.Keyword
abbrev cq:=Option PySem.Addr
abbrev cu:=List PySem.Stmt
abbrev cw:=@PySem.wpAny_bind
abbrev cx:=@PySem.wpAny_pure
abbrev cA:=@List.getElem?_eq_some_iff
abbrev cz:=@List.mem_cons
abbrev cD:=@List.all_eq_true
abbrev cB:=@List.mem_range
abbrev cy:=@List.mem_map
abbrev cC:=@List.mem_singleton
abbrev cE:=@List.mem_append
set_option Elab.async false
set_option linter.all false
set_option maxRecDepth 1000000
set_option maxHeartbeats 4000000
variable {XP:(PySem.Str->Option PySem.Value)->PySem.Heap->Prop}{D a b c f:PySem.Addr}{osl:Array (Option PySem.Value)}{items:Array PySem.Value}{led:Bool}{op:PySem.CmpOp}{env:PySem.Env}{e elt iter tg:PySem.Expr}{fd:PySem.FuncData}{base h h':PySem.Heap}{pins:List (PySem.Addr×PySem.Obj)}{es:List (Int×PySem.Value)}{zs:List (List Int×PySem.Addr×PySem.Value)}{t:bU}{cells:List (PySem.Str×PySem.Addr)}{fp φ:List PySem.Addr}{gens gs:List PySem.Comprehension}{elts ifs:List PySem.Expr}{ns:bV}{cap:b8}{ds:List PySem.PyData}{body:List PySem.Stmt}{N ps:List PySem.Str}{its us:List PySem.Value}{M:PySem.Model}{i j k kk n t':Nat}{μ:Nat->Nat->Int}{cpos p pos tpos:PySem.Pos}{P:PySem.Program}{sc scope:PySem.Scope}{s s':PySem.Shared}{qual x:PySem.Str}{mg:PySem.Str->Option PySem.Value}{α:Type}{u:PySem.Value}{E Q:PySem.Value->PySem.Shared->Prop}{w:PySem.World}
namespace L2
open PySem PySem.Spec PyProof.Rows
noncomputable abbrev Key:=Sum Int Str
noncomputable def JQ:Key->Value->Bool
 |.inl k,v=>Value.isInt k v|.inr x,v=>Value.isStrOf x v
noncomputable def cF (w:World):Key->Int
 |.inl k=>hashInt k|.inr x=>hashStr w x
theorem Zx:∀{k:Key}{v:Value},JQ k v=true->(∃i t,k=Sum.inl i/\v=Value.int i t)∨(∃x t,k=Sum.inr x/\v=Value.str x t)
 |.inl i,v,h=>by
  obtain⟨t,e⟩:=Value.isInt_shape (k:=i) (v:=v) h;exact .inl ⟨i,t,rfl,e⟩
 |.inr x,v,h=>by
  obtain⟨t,e⟩:=Value.isStrOf_shape (x:=x) (v:=v) h;exact .inr ⟨x,t,rfl,e⟩
def FT (i:Int)(t:Tok):JQ (.inl i) (.int i t)=true:=by simp[JQ,Value.isInt]
def Ff (x:Str)(t:Tok):JQ (.inr x) (.str x t)=true:=by simp[JQ,Value.isStrOf]
def cG (a b:Int):decide ((Sum.inl a:Key)=Sum.inl b)=(a==b):=by
 by_cases e:a=b
 ·subst e;simp
 ·have h:¬(Sum.inl a:Key)=Sum.inl b:=λq=>e (Sum.inl.inj q)
  rw[aD h];exact(beq_eq_false_iff_ne.mpr e).symm
def cH (a b:Str):decide ((Sum.inr a:Key)=Sum.inr b)=decide (a=b):=by
 by_cases e:a=b
 ·subst e;simp
 ·have h:¬(Sum.inr a:Key)=Sum.inr b:=λq=>e (Sum.inr.inj q)
  rw[aD h,aD e]
def cI (a:Int)(b:Str):decide ((Sum.inl a:Key)=Sum.inr b)=false:=aD (λq=>nomatch q)
def cJ (a:Str)(b:Int):decide ((Sum.inr a:Key)=Sum.inl b)=false:=aD (λq=>nomatch q)
def jx (prog:Program)(w:World):PySem.KeyKind prog w Key where
 is:=JQ
 hash:=cF w
 inj:=λv a b f c=>by
  rcases Zx f with ⟨i,t,rfl,rfl⟩|⟨x,t,rfl,rfl⟩
  ·rcases Zx c with ⟨j,u,rfl,e⟩|⟨y,u,rfl,e⟩
   ·injection e with E _;rw[E]
   ·exact nomatch e
  ·rcases Zx c with ⟨j,u,rfl,e⟩|⟨y,u,rfl,e⟩
   ·exact nomatch e
   ·injection e with E _;rw[E]
 byValue:=λk v h=>by
  rcases Zx h with ⟨i,t,rfl,rfl⟩|⟨x,t,rfl,rfl⟩<;>rfl
 pyHash:=λH h=>by
  rcases Zx H with ⟨i,t,rfl,rfl⟩|⟨x,t,rfl,rfl⟩
  ·exact wpAny_pyHash_int h
  ·exact wpAny_pyHash_str h
 eqBool:=λd H h=>by
  rcases Zx d with ⟨i,t,rfl,rfl⟩|⟨x,t,rfl,rfl⟩
  ·rcases Zx H with ⟨j,u,rfl,rfl⟩|⟨y,u,rfl,rfl⟩
   ·rw[cG]at h;exact wpAny_eqBool_int h
   ·rw[cI]at h;exact SeqAt.EqAt.int_str i t y u _ _ _ _ h
  ·rcases Zx H with ⟨j,u,rfl,rfl⟩|⟨y,u,rfl,rfl⟩
   ·rw[cJ]at h;exact SeqAt.EqAt.str_int x t j u _ _ _ _ h
   ·rw[cH]at h;exact wpAny_eqBool_str h
 «strs»:=λk x t v h=>by
  rcases Zx h with ⟨i,u,rfl,e⟩|⟨y,u,rfl,e⟩
  ·exact nomatch e
  ·injection e with E _
   subst E;cases v<;>rfl
def HQ (prog:Program)(w:World)(k:Key)(v:Value):(jx prog w).is k v=JQ k v:=rfl
def He (prog:Program)(w:World)(i:Int)(t:Tok):(jx prog w).is (.inl i) (.int i t)=true:=FT i t
def IX (prog:Program)(w:World)(x:Str)(t:Tok):(jx prog w).is (.inr x) (.str x t)=true:=Ff x t
inductive V where
 |non|bl (b:Bool)|int (i:Int)|str (x:Str)|byt (b:Array UInt8)|flt (b:UInt64)|ref (a:Addr)|ty (n:String)
 deriving DecidableEq
noncomputable def RelV:V->Value->Prop
 |.non,u=>u=Value.none|.bl b,u=>u=Value.bool b|.int i,u=>∃t,u=Value.int i t|.str x,u=>∃t,u=Value.str x t|.byt b,u=>∃t,u=Value.bytes b t|.flt b,u=>∃t,u=Value.float b t|.ref a,u=>u=Value.ref a|.ty n,u=>u=Value.type n
abbrev Vals:List V->List Value->Prop:=Paired RelV
theorem Vals.length {xs:List V}(r:Vals xs us):xs.length=us.length:=Paired.length r
theorem Vals.get:∀{xs:List V}{us:bX}{i:Nat}{x:V},Vals xs us->xs[i]? =some x->∃u,us[i]? =some u/\RelV x u
 |_,_,_,_,.nil,e=>by simp at e|_,_,0,_,.cons r _,e=>by simp at e;subst e;exact⟨_,rfl,r⟩|_,_,i+1,x,.cons _ t,e=>by
  obtain⟨u,H,h⟩:=Vals.get (i:=i) (x:=x) t (by simpa using e)
  exact⟨u,by simpa using H,h⟩
theorem Vals.set {x:V}(r:RelV x u):∀{xs:List V}{us:bX}(i:Nat),Vals xs us->Vals (xs.set i x) (us.set i u)
 |_,_,_,.nil=>.nil|_,_,0,.cons _ t=>.cons r t|_,_,i+1,.cons q t=>.cons q (Vals.set r i t)
theorem Vals.append:∀{xs ys:List V}{us ws:bX},Vals xs us->Vals ys ws->Vals (xs++ys) (us++ws)
 |_,_,_,_,.nil,s=>s|_,_,_,_,.cons r t,s=>.cons r (Vals.append t s)
theorem Vals.take:∀{xs:List V}{us:bX}(n:Nat),Vals xs us->Vals (xs.take n) (us.take n)
 |_,_,0,_=>.nil|_,_,_+1,.nil=>.nil|_,_,n+1,.cons r t=>.cons r (Vals.take n t)
theorem Vals.drop:∀{xs:List V}{us:bX}(n:Nat),Vals xs us->Vals (xs.drop n) (us.drop n)
 |_,_,0,r=>r|_,_,_+1,.nil=>.nil|_,_,n+1,.cons _ t=>Vals.drop n t
def Vals.none_of:∀{xs:List V}{us:bX}{i:Nat},Vals xs us->xs[i]? =none->us[i]? =none:=λ {xs us i} r e=>by
 have H:=r.length;have h:xs.length<=i:=List.getElem?_eq_none_iff.mp e;exact List.getElem?_eq_none_iff.mpr (by omega)
def Qs:Option V->Option Value->Prop
 |some v,some u=>RelV v u|none,none=>True|_,_=>False
def KV {κ:Type}:List (κ×V)->List (κ×Value)->Prop:=Paired λ(p:κ×V) (q:κ×Value)=>p.1=q.1/\RelV p.2 q.2
noncomputable def kV:Key->V
 |.inl i=>.int i|.inr x=>.str x
inductive HO where
 |lst (xs:List V)
 |tup (xs:List V)
 |dK (kvs:List (Key×V))|dT (kvs:List (List Key×V))
 |set (S:Int->Bool) (n:Nat)
 |ins (C dx:Addr) (fs:List (Str×V))
 |own (x:Addr)
 |xd (fs:List (Str×V))
 |met (f x:Addr)
 |rng (lo hi:Int)
 |frz (o:Obj) (u:HO)
 |tbl (ps:Array Value)
 |ext (φ:Heap->Prop)
noncomputable abbrev Hp:=Addr->Option HO
noncomputable def upd (H:Hp)(a:Addr)(o:HO):Hp:=λb=>if b=a then some o else H b
def jA {H:Hp}{o:HO}:upd H a o a=some o:=by unfold upd;rw[ag rfl]
def qk {H:Hp}{o:HO}(h:b≠a):upd H a o b=H b:=by unfold upd;rw[aj h]
def YF {H:Hp}{o u:HO}(h:H a=some o)(h':H b=some u)(d:o≠u):a≠b:=by
 intro e;subst e;rw[h]at h';exact d (aB h')
def kQ {H:Hp}{o:HO}(h:H a=some o)(h':H b=none):a≠b:=by
 intro e;subst e;rw[h]at h';cases h'
def Qf (h:Heap)(a:Addr)(items:Array Value):Prop:=∃o,h.get? a=some o/\(o.cls=.type "tuple" /\ o.dict=none)/\∃n,o.data=.seq items n
def Qf.tup {h:Heap}{a:Addr}{items:Array Value}(x:Qf h a items):IsTup h a items:=let ⟨o,e,c,d⟩:=x;⟨o,e,c.1,d⟩
def Qf.new (h:Heap)(items:Array Value):Qf (h.push { cls:=.type "tuple",data:=.seq items }) h.objs.size items:=⟨_,au h rfl,⟨rfl,rfl⟩,0,rfl⟩
section
variable (P:Program)(w:World)
def jh (H:Hp)(h:Heap)(a:Addr):HO->Prop
 |.lst xs=>xs.length<=sizeLine/\∃(its:bX) (n:Nat),Vals xs its/\h.get? a=some { cls:=.type "list",data:=.seq its.toArray n }
 |.tup xs=>xs.length<=sizeLine/\∃its:bX,Vals xs its/\Qf h a its.toArray|.dK kvs=>kvs.length<=sizeLine/\(a==sysModules)=false/\∃vs,KV kvs vs/\h.DictOf (jx P w) a vs|.dT kvs=>kvs.length<=sizeLine/\(a==sysModules)=false/\∃xs:List (List Key×Addr×Value),
   Paired (λ(p:List Key×V) (q:List Key×Addr×Value)=>p.1=q.1/\H q.2.1=some (.tup (p.1.map kV))/\RelV p.2 q.2.2) kvs xs/\
   ∃o e E,h.get? a=some o/\o.ExactDict/\o.data=.dict e E/\e.toList=xs.map (entryOfKey (tupleKind (jx P w)))/\(xs.map (·.1)).Nodup
 |.set S n=>h.SetOf (intKind P w) a S n|.ins C d fs=>H d=some (.own a)/\fs.length<=1000/\d≠a/\h.get? a=some (instObj C d)/\
   ∃M,h.Ns1 d M/\(∀f,Qs (fs.lookup f) (M f))/\PySem.Within M (fs.map (·.1))
 |.own _=>∃o,h.get? a=some o|.xd fs=>∃M,h.Ns1 a M/\∀f,Qs (fs.lookup f) (M f)|.rng lo i=>∃t u v,h.get? a=some { cls:=.type "range",data:=.fields #[.int lo t,.int i u,.int 1 v] }
 |.frz o u=>h.get? a=some o/\jh H h a u|.tbl ps=>h.get? a=some { cls:=.none,data:=.fields ps }|.met f x=>h.get? a=some (methodObj (.ref f) (.ref x))|.ext φ=>φ h/\(∃o,h.get? a=some o)/\∀c b:Heap,φ c->(∀o,c.get? a=some o->b.get? a=some o)->φ b
def ye (H:Hp)(h:Heap):Prop:=∀a o,H a=some o->jh P w H h a o
end
section
variable {H H':Hp}{o:HO}
theorem jh.lt (x:jh P w H h a o):a<h.objs.size:=by
 cases o with
 |lst xs=>obtain⟨_,_,_,_,e⟩:=x;exact aF e|tup xs=>obtain⟨_,_,_,p⟩:=x;exact p.tup.lt|dK kvs=>obtain⟨_,_,_,_,o,_,_,e,_⟩:=x;exact aF e|dT kvs=>obtain⟨_,_,_,_,o,_,_,e,_⟩:=x;exact aF e|set S n=>obtain⟨o,_,_,_,e,_⟩:=x;exact aF e|ins C d fs=>obtain⟨_,_,_,e,_⟩:=x;exact aF e|own y=>obtain⟨_,e⟩:=x;exact aF e|xd fs=>obtain⟨_,⟨_,_,_,e,_⟩,_⟩:=x;exact aF e|rng lo i=>obtain⟨_,_,_,e⟩:=x;exact aF e|frz ob u=>obtain⟨e,_⟩:=x;exact aF e|tbl ps=>exact aF (show h.get? a=some _ from x)|met f y=>exact aF (show h.get? a=some _ from x)|ext φ=>obtain⟨_,⟨_,e⟩,_⟩:=x;exact aF e
theorem Paired.mapP {β:Type}{F G:α->β->Prop}:∀{L:List α}{l:List β},Paired F L l->(∀a b,F a b->G a b)->Paired G L l
 |_,_,.nil,_=>.nil|_,_,.cons r t,f=>.cons (f _ _ r) (Paired.mapP t f)
def jh.stay (x:jh P w H h a o)(k:∀b u,(b=a∨H b=some (.own a))->h.get? b=some u->h'.get? b=some u)
  (s:∀b,H b=some (.own a)->H' b=some (.own a))(l:∀b xs,H b=some (.tup xs)->H' b=some (.tup xs)):jh P w H' h' a o:=by
 induction o with
 |lst xs=>obtain⟨z,i,n,r,e⟩:=x;exact⟨z,i,n,r,k _ _ (.inl rfl) e⟩|tup xs=>obtain⟨z,i,r,ob,e,c⟩:=x;exact⟨z,i,r,ob,k _ _ (.inl rfl) e,c⟩|dK kvs=>obtain⟨z,y,vs,r,ob,E,g,e,c⟩:=x;exact⟨z,y,vs,r,ob,E,g,k _ _ (.inl rfl) e,c⟩|dT kvs=>
  obtain⟨z,y,xs,r,ob,E,g,e,c⟩:=x;exact⟨z,y,xs,Paired.mapP r λp q z=>⟨z.1,l _ _ z.2.1,z.2.2⟩,ob,E,g,k _ _ (.inl rfl) e,c⟩
 |set S n=>obtain⟨ob,E,g,t,e,c⟩:=x;exact⟨ob,E,g,t,k _ _ (.inl rfl) e,c⟩|ins C D fs=>
  obtain⟨d,z,ne,e,M,⟨j,E,g,A,c⟩,r⟩:=x;exact⟨s _ d,z,ne,k _ _ (.inl rfl) e,M,⟨j,E,g,k _ _ (.inr d) A,c⟩,r⟩
 |own y=>obtain⟨ob,e⟩:=x;exact⟨ob,k _ _ (.inl rfl) e⟩|xd fs=>obtain⟨M,⟨j,E,g,e,c⟩,r⟩:=x;exact⟨M,⟨j,E,g,k _ _ (.inl rfl) e,c⟩,r⟩|rng lo B=>obtain⟨t,u,v,e⟩:=x;exact⟨t,u,v,k _ _ (.inl rfl) e⟩|frz ob u I=>obtain⟨e,q⟩:=x;exact⟨k _ _ (.inl rfl) e,I q⟩|tbl ps=>
  have e:h.get? a=some { cls:=.none,data:=.fields ps }:=x;show h'.get? a=some { cls:=.none,data:=.fields ps };exact k a _ (.inl rfl) e
 |met f y=>
  have e:h.get? a=some (methodObj (.ref f) (.ref y)):=x;show h'.get? a=some (methodObj (.ref f) (.ref y));exact k a _ (.inl rfl) e
 |ext φ=>obtain⟨p,⟨o,e⟩,st⟩:=x;exact⟨st _ _ p λo q=>k _ _ (.inl rfl) q,⟨o,k _ _ (.inl rfl) e⟩,st⟩
theorem ye.lt (x:ye P w H h)(e:H a=some o):a<h.objs.size:=(x a o e).lt
def ye.fresh (x:ye P w H h)(e:h.objs.size<=a):H a=none:=by
 cases q:H a with
 |none=>rfl|some u=>exact absurd (aE (x.lt q) e) (aV _)
def ye.kept (x:ye P w H h)(k:∀b u,h.get? b=some u->h'.get? b=some u):ye P w H h':=λa o e=>
 (x a o e).stay (λb u _ q=>k b u q) (λ_ q=>q) λ_ _ q=>q
def ye.laid (x:ye P w H h)(k:∀b u,h.get? b=some u->h'.get? b=some u)(hp:h.objs.size<=a)(new:jh P w (upd H a o) h' a o):ye P w (upd H a o) h':=λb u e=>by
 have hn:=x.fresh hp
 by_cases d:b=a
 ·subst d;rw[jA]at e;cases e;exact new
 ·rw[qk d]at e
  exact(x b u e).stay (λc v _ q=>k c v q) (λc q=>by rw[qk (kQ q hn)];exact q) λc xs q=>by rw[qk (kQ q hn)];exact q
end
def Rd (H:Hp)(a:Addr)(u:HO):Prop:=H a=some u∨∃o,H a=some (.frz o u)
def Rd.ok {H:Hp}{u:HO}(r:Rd H a u)(x:ye P w H h):jh P w H h a u:=by
 rcases r with r|⟨o,r⟩
 ·exact x a u r
 ·obtain⟨_,q⟩:=x a _ r
  exact q
noncomputable def Wa:Option HO->Prop
 |some (.lst _)=>True|some (.dK _)=>True|some (.dT _)=>True|some (.set _ _)=>True|some (.ins _ _ _)=>True|some (.ext _)=>True|_=>False
section
variable {H:Hp}{x e:Addr}{o':HO}
def ye.write (ok:ye P w H h)(M:Wa (H x))(he:e=x∨H e=some (.own x))(k:∀b u,b≠e->h.get? b=some u->h'.get? b=some u)(o:∃u,h'.get? e=some u)
  (new:jh P w (upd H x o') h' x o'):ye P w (upd H x o') h':=λb u q=>by
 have n:∀c y,H c=some (.own y)->c≠x:=λc y r z=>by subst z;rw[r]at M;exact M
 have N:∀c xs,H c=some (.tup xs)->c≠x:=λc xs r z=>by subst z;rw[r]at M;exact M
 by_cases f:b=x
 ·subst f;rw[jA]at q;cases q;exact new
 ·rw[qk f]at q
  by_cases a:b=e
  ·have Q:H b=some (.own x):=by
    rcases he with z|z
    ·exact absurd (a.trans z) f
    ·rw[a];exact z
   rw[q]at Q;cases Q;obtain⟨v,g⟩:=o;exact⟨v,by rw[a];exact g⟩
  ·refine(ok b u q).stay (λc v d r=>k c v ?_ r) (λc r=>by rw[qk (n c b r)];exact r) λc xs r=>by rw[qk (N c xs r)];exact r
   rcases d with rfl|d
   ·exact a
   ·rintro rfl
    rcases he with z|z
    ·exact n c b d z
    ·rw[d]at z;cases z;exact f rfl
end
structure Un (fs ex:bY)(H H':Hp)(h h':Heap):Prop where
 keep:∀b o,h.get? b=some o->H b=none->b∉fs->b∉ex->h'.get? b=some o
 slot:∀b o,h.get? b=some o->H b=none->b∈fs->b∉ex->∃sl,h'.get? b=some { o with slots:=sl }
 free:∀b o,h.get? b=some o->H b=none->b∉ex->H' b=none
 there:∀b o,h.get? b=some o->b∉ex->∃o',h'.get? b=some o'
 tups:∀b xs,H b=some (.tup xs)->H' b=some (.tup xs)
 frzs:∀b o u,H b=some (.frz o u)->H' b=some (.frz o u)
 tbls:∀b ps,H b=some (.tbl ps)->∃more,H' b=some (.tbl (ps++more))
section
variable {fs ex:bY}{H H1:Hp}{h1:Heap}{x e:Addr}{o:HO}
def Un.any (u:Un fs ex H H1 h h1){ob:Obj}(q:h.get? b=some ob)(n:H b=none)(x:b∉ex):∃s,h1.get? b=some { ob with slots:=s }:=by
 by_cases a:b∈fs
 ·exact u.slot b ob q n a x
 ·exact⟨ob.slots,u.keep b ob q n a x⟩
def Un.kept (k:∀b u,h.get? b=some u->h'.get? b=some u):Un fs ex H H h h':=
 ⟨λb ob q _ _ _=>k b ob q,λb ob q _ _ _=>⟨ob.slots,k b ob q⟩,λ_ _ _ n _=>n,λb ob q _=>⟨ob,k b ob q⟩,λ_ _ q=>q,λ_ _ _ q=>q,λ_ ps q=>⟨#[],by rw[q];simp⟩⟩
def Un.refl:Un fs ex H H h h:=Un.kept λ_ _ q=>q
def Un.laid (k:∀b u,h.get? b=some u->h'.get? b=some u)(hp:h.objs.size<=a)(hn:H a=none):Un fs ex H (upd H a o) h h' where
 keep:=λb u q _ _ _=>k b u q
 slot:=λb u q _ _ _=>⟨u.slots,k b u q⟩
 free:=λb u q n _=>by rw[qk (aK (aE (aF q) hp))];exact n
 there:=λb u q _=>⟨u,k b u q⟩
 tups:=λb xs q=>by rw[qk (kQ q hn)];exact q
 frzs:=λb u xs q=>by rw[qk (kQ q hn)];exact q
 tbls:=λb ps q=>⟨#[],by rw[qk (kQ q hn),q];simp⟩
def Un.write (M:Wa (H x))(he:e=x∨H e=some (.own x))(k:∀b u,b≠e->h.get? b=some u->h'.get? b=some u)(c:∃u,h'.get? e=some u):Un fs ex H (upd H x o) h h':=by
 have d:∀b,H b=none->b≠x:=λb n z=>by subst z;rw[n]at M;exact M
 have f:∀b,H b=none->b≠e:=λb n z=>by
  subst z;rcases he with r|r
  ·exact d b n r
  ·rw[n]at r;cases r
 have hm:∀b u,H b=some u->¬Wa (some u)->b≠x:=λb u q nm z=>by subst z;rw[q]at M;exact nm M
 refine⟨λb u q n _ _=>k b u (f b n) q,λb u q n _ _=>⟨u.slots,k b u (f b n) q⟩,λb u q n _=>by rw[qk (d b n)];exact n,λb u q _=>?_,
  λb xs q=>by rw[qk (hm b _ q λz=>z)];exact q,λb u xs q=>by rw[qk (hm b _ q λz=>z)];exact q,λb ps q=>⟨#[],by rw[qk (hm b _ q λz=>z),q];simp⟩⟩
 by_cases a:b=e
 ·subst a;exact c
 ·exact⟨u,k b u a q⟩
end
noncomputable def Xm (h:Heap)(H:Hp):bY:=(List.range h.objs.size).filter λa=>(H a).isSome
def ZY (h:Heap)(H:Hp):Heap:=hideAll h (Xm h H)
def FV (h:Heap)(H:Hp):(ZY h H).objs.size=h.objs.size:=hideAll_size _ _
def DD {H:Hp}{o:Obj}(e:h.get? b=some o)(n:H b=none):(ZY h H).get? b=some o:=
 bM _ e λhm=>by
  have q:(H b).isSome=true:=(List.mem_filter.mp hm).2;rw[n]at q;simp at q
def Cz {H:Hp}{o:Obj}(e:(ZY h H).get? b=some o):h.get? b=some o/\H b=none:=by
 have E:h.get? b=some o:=of_hideAll (Xm h H) e;refine⟨E,?_⟩;cases q:H b with
 |none=>rfl|some x=>
  have hm:b∈Xm h H:=List.mem_filter.mpr ⟨cB.mpr (aF E),by simp[q]⟩
  have z:(ZY h H).get? b=none:=hideAll_none (Xm h H) hm;rw[z]at e;cases e
structure Mod (K:Frag)(mg:cg)(base:Heap):Prop where
 kin:K.In base
 glob:base.Ns mainGlobals mg
 blt:∃mb,base.Ns builtinsNs mb/\∀x:Str,x ≠ "__name__" -> mb x=bootBuiltins x
 nolimit:base.NoLimit
structure Cx where
 prog:Program
 w:World
 K:Frag
 mg:Str->Option Value
 base:Heap
 A:Around
 N:b9
 s0:Shared
 H0:Hp
 env:Env
 outer:ck
 stack:ck
 ex:bY
 fn:Str->Bool
 calm:Bool
 pn:bZ
 xe:Value->Shared->Prop
noncomputable def qK (l:ck):bY:=l.filterMap (·.frame)
abbrev Cx.fs (X:Cx):bY:=qK X.outer
def Y1 (sc:Scope)(x:Str):Prop:=sc.names.lookup x=some .local∨sc.names.lookup x=some .cell∨sc.names.lookup x=some .free
def Loc (sc:Scope)(x:Str):Prop:=sc.names.lookup x=some .local∨sc.names.lookup x=some .cell
def Look (env:Env)(h:Heap)(m:cg)(x:Str)(u:Value):Prop:=
 (env.kindOf x=some .local/\m x=some u)∨((env.kindOf x=some .cell∨env.kindOf x=some .free)/\∃c,env.cells.lookup x=some c/\h.IsCell c (some u))
structure Cx.Ok (X:Cx):Prop where
 mod:Mod X.K X.mg X.base
 kind:X.env.scope.kind=.function
 glob:X.env.globals=mainGlobals
 blt:X.env.builtins=builtinsNs
 above:X.s0.heap.objs.size<=X.env.locals
 inj:∀x y c,X.env.cells.lookup x=some c->X.env.cells.lookup y=some c->x=y
 has:∀x,(X.env.kindOf x=some .cell∨X.env.kindOf x=some .free)->∃c,X.env.cells.lookup x=some c
 cab:∀x c,X.fn x=true->X.env.cells.lookup x=some c->X.s0.heap.objs.size<=c
 hd:X.calm=true->X.A.handled=none
 frames:X.A.frames=some X.stack
 stk:X.stack=X.outer∨(X.stack=X.env::X.outer/\X.env.frame=some X.env.locals)
 exf:∀b∈X.ex,b≠X.env.locals/\∀x c,X.env.cells.lookup x=some c->c≠b
 bs:∀b o,X.base.get? b=some o->X.s0.heap.get? b=some o/\X.H0 b=none
 bsz:X.base.objs.size<=X.s0.heap.objs.size
 noex:∀b o,X.base.get? b=some o->b∉X.ex
 exfs:∀b∈X.ex,b∉X.fs
 funs:X.s0.heap.FunFrames X.base X.outer
 frf:∀b∈X.fs,X.H0 b=none
structure Inv (X:Cx)(pins:bZ)(σ:List (Option V))(H:Hp)(s:Shared):Prop where
 ok:X.Ok
 os:s.os=X.s0.os
 bare:AllBare s.gens
 base:Un X.fs X.ex X.H0 H X.s0.heap s.heap
 loc:∃m,s.heap.Ns X.env.locals m/\∀(i:Nat)(x:Str)(v:V),X.N[i]? =some x->σ[i]? =some (some v)->Y1 X.env.scope x->∃u,RelV v u/\Look X.env s.heap m x u
 cell:∀x c,X.env.cells.lookup x=some c->∃v,s.heap.IsCell c v
 free:H X.env.locals=none
 freeC:∀x c,X.env.cells.lookup x=some c->H c=none
 pin:∀p∈X.pn++pins,s.heap.get? p.1=some p.2/\H p.1=none/\p.1≠X.env.locals/\p.1∉X.fs/\∀v,p.2.data≠.cell v
 hok:ye X.prog X.w H s.heap
 len:σ.length=X.N.length
section
variable {X:Cx}{σ:List (Option V)}{H H':Hp}
def Cx.Ok.nofr (ok:X.Ok){o:Obj}(e:X.base.get? b=some o):b∉X.fs:=λh=>by
 have:=(ok.funs.mem h).1
 rw[e]at this;cases this
theorem Inv.bs (I:Inv X pins σ H s):∀b o,X.base.get? b=some o->s.heap.get? b=some o/\H b=none:=λb o e=>
 ⟨I.base.keep b o (I.ok.bs b o e).1 (I.ok.bs b o e).2 (I.ok.nofr e) (I.ok.noex b o e),I.base.free b o (I.ok.bs b o e).1 (I.ok.bs b o e).2 (I.ok.noex b o e)⟩
def Inv.bk (I:Inv X pins σ H s):∀b o,X.base.get? b=some o->s.heap.get? b=some o:=λb o e=>(I.bs b o e).1
theorem Inv.mod (I:Inv X pins σ H s):Mod X.K X.mg X.base:=I.ok.mod
def Inv.kIn (I:Inv X pins σ H s):X.K.In s.heap:=I.ok.mod.kin.keeps I.bk
theorem Inv.lt (I:Inv X pins σ H s):X.env.locals<s.heap.objs.size:=let ⟨_,hn,_⟩:=I.loc;hn.lt
def Inv.sz (I:Inv X pins σ H s):X.s0.heap.objs.size<=s.heap.objs.size:=bg I.ok.above (bz I.lt)
def Inv.nofs (I:Inv X pins σ H s)(h:s.heap.objs.size<=a):a∉X.fs:=λc=>by
 obtain⟨_,o,b,_⟩:=I.ok.funs.mem c;exact absurd (aE (aF b) (bg I.sz h)) (aV _)
def Inv.cne (I:Inv X pins σ H s):∀x c,X.env.cells.lookup x=some c->c≠X.env.locals:=λx c e z=>by
 obtain⟨v,o,b,hd⟩:=I.cell x c e;obtain⟨m,⟨o',E,p,h,a,_⟩,_⟩:=I.loc;rw[z,h]at b;cases b;rw[a]at hd;cases hd
theorem Inv.funs (I:Inv X pins σ H s):s.heap.FunFrames X.base X.outer:=by
 have all:∀(l:ck),(∀b∈qK l,b∈X.fs)->X.s0.heap.FunFrames X.base l->s.heap.FunFrames X.base l:=by
  intro l
  induction l with
  |nil=>intro _ _;trivial|cons env r i=>
   intro c g;obtain⟨k,⟨L,o,hf,hn,f,hd⟩,d⟩:=g;have a:L∈X.fs:=c L (by unfold qK;rw[bj,hf];exact ay)
   obtain⟨S,e⟩:=I.base.slot L o f (I.ok.frf L a) a λz=>I.ok.exfs L z a;exact⟨k,⟨L,_,hf,hn,e,hd⟩,i (λb h=>c b (by unfold qK;rw[bj,hf];exact aq _ h)) d⟩
 exact all X.outer (λ_ h=>h) I.ok.funs
theorem Inv.stack (I:Inv X pins σ H s):s.heap.FunFrames X.base X.stack:=by
 rcases I.ok.stk with e|⟨e,hf⟩
 ·rw[e];exact I.funs
 ·rw[e]
  obtain⟨m,hn,_⟩:=I.loc;refine .cons (by rw[I.ok.kind];decide) hf hn ?_ I.funs
  exact Heap.get?_none_of_le (bg I.ok.bsz I.ok.above)
def Inv.stkSub (I:Inv X pins σ H s):∀b∈qK X.stack,b∈X.env.locals::X.fs:=λb h=>by
 rcases I.ok.stk with e|⟨e,hf⟩
 ·rw[e]at h;exact aq _ h
 ·rw[e]at h
  unfold qK at h;rw[bj,hf]at h;exact h
def Inv.stkFree (I:Inv X pins σ H s):∀b∈qK X.stack,H b=none:=λb h=>by
 rcases cz.mp (I.stkSub b h) with e|h
 ·rw[e];exact I.free
 ·obtain⟨_,o,a,_⟩:=I.ok.funs.mem h
  exact I.base.free b o a (I.ok.frf b h) λz=>I.ok.exfs b z h
def Inv.step {g':Array GenState}{d':Drawn}{ch:bY}(I:Inv X pins σ H s)
  (a:∀b∈ch,(b∈X.ex∨X.s0.heap.objs.size<=b)/\b≠X.env.locals/\(∀x c,X.env.cells.lookup x=some c->c≠b)/\∀p∈X.pn++pins,p.1≠b)
  (keep:∀b o,b≠X.env.locals->b∉X.fs->b∉ch->s.heap.get? b=some o->H b=none->h'.get? b=some o)
  (slot:∀b o,b≠X.env.locals->b∈X.fs->b∉ch->s.heap.get? b=some o->H b=none->∃t,h'.get? b=some { o with slots:=t })(free:∀b o,b∉ch->s.heap.get? b=some o->H b=none->H' b=none)
  (there:∀b o,b∉ch->s.heap.get? b=some o->∃o',h'.get? b=some o')
  (tups:∀b xs,H b=some (.tup xs)->H' b=some (.tup xs))(frzs:∀b o u,H b=some (.frz o u)->H' b=some (.frz o u))(tbls:∀b ps,H b=some (.tbl ps)->∃more,H' b=some (.tbl (ps++more)))
  (ns:∀m,s.heap.Ns X.env.locals m->h'.Ns X.env.locals m)(hok:ye X.prog X.w H' h')(D:AllBare g'):
  Inv X pins σ H' { s with heap:=h',gens:=g',drawn:=d',toks:=t' }:=by
 have Wb:∀b o,X.s0.heap.get? b=some o->b≠X.env.locals:=λb o e=>aK (aE (aF e) I.ok.above);have C:∀b o,X.s0.heap.get? b=some o->b∉X.ex->b∉ch:=λb o e h f=>by
  rcases(a b f).1 with z|z
  ·exact h z
  ·exact absurd (aE (aF e) z) (aV _)
 have cellK:∀x c,X.env.cells.lookup x=some c->∀v,s.heap.IsCell c v->h'.IsCell c v:=λx c e v ⟨o,g,hd⟩=>by
  have N:c∉ch:=λz=>(a c z).2.2.1 x c e rfl
  by_cases A:c∈X.fs
  ·obtain⟨t,q⟩:=slot c o (I.cne x c e) A N g (I.freeC x c e)
   exact⟨_,q,hd⟩
  ·exact⟨o,keep c o (I.cne x c e) A N g (I.freeC x c e),hd⟩
 refine⟨I.ok,I.os,D,⟨λb o e n f h=>?_,λb o e n f h=>?_,λb o e n h=>?_,λb o e h=>?_,λb xs e=>tups b xs (I.base.tups b xs e),λb o xs e=>frzs b o xs (I.base.frzs b o xs e),λb ps e=>?_⟩,?_,λx c e=>?_,?_,λx c e=>?_,λp hp=>?_,hok,I.len⟩
 ·exact keep b o (Wb b o e) f (C b o e h) (I.base.keep b o e n f h) (I.base.free b o e n h)
 ·obtain⟨t,E⟩:=I.base.slot b o e n f h
  obtain⟨S,j⟩:=slot b _ (Wb b o e) f (C b o e h) E (I.base.free b o e n h);exact⟨S,j⟩
 ·obtain⟨o',E⟩:=I.base.there b o e h
  exact free b o' (C b o e h) E (I.base.free b o e n h)
 ·obtain⟨o',E⟩:=I.base.there b o e h
  exact there b o' (C b o e h) E
 ·obtain⟨m1,E⟩:=I.base.tbls b ps e
  obtain⟨m2,j⟩:=tbls b _ E;exact⟨m1++m2,by rw[j,Array.append_assoc]⟩
 ·obtain⟨m,hn,B⟩:=I.loc
  refine⟨m,ns m hn,λi x v E j J=>?_⟩;obtain⟨u,r,l⟩:=B i x v E j J;refine⟨u,r,?_⟩;rcases l with l|⟨k,c,e,z⟩
  ·exact .inl l
  ·exact .inr ⟨k,c,e,cellK x c e _ z⟩
 ·obtain⟨v,z⟩:=I.cell x c e
  exact⟨v,cellK x c e v z⟩
 ·obtain⟨m,⟨o,_,_,g,_⟩,_⟩:=I.loc
  exact free _ o (λz=>(a _ z).2.1 rfl) g I.free
 ·obtain⟨v,o,g,hd⟩:=I.cell x c e
  exact free c o (λz=>(a c z).2.2.1 x c e rfl) g (I.freeC x c e)
 ·obtain⟨e,n,ne,y,d⟩:=I.pin p hp
  have N:p.1∉ch:=λz=>(a p.1 z).2.2.2 p hp rfl;exact⟨keep p.1 p.2 ne y N e n,free p.1 p.2 N e n,ne,y,d⟩
def Inv.un (I:Inv X pins σ H s)(u:Un X.fs [] H H' s.heap h')(hok:ye X.prog X.w H' h'):Inv X pins σ H' { s with heap:=h',toks:=t' }:=by
 obtain⟨m,⟨o,f,p,c,r⟩,_⟩:=id I.loc;obtain⟨S,L⟩:=u.any c I.free (by simp)
 exact I.step (g':=s.gens) (d':=s.drawn) (ch:=[]) (λ_ z=>nomatch z) (λb o _ a _ e n=>u.keep b o e n a (by simp)) (λb o _ a _ e n=>u.slot b o e n a (by simp)) (λb o _ e n=>u.free b o e n (by simp)) (λb o _ e=>u.there b o e (by simp)) u.tups u.frzs u.tbls (λM hm=>by
  obtain⟨o',es',E,h,d⟩:=hm;rw[c]at h;cases h;exact⟨_,es',E,L,d⟩) hok I.bare
def Inv.call {g':Array GenState}{d':Drawn}{ch:bY}(I:Inv X pins σ H s)(u:Un (qK X.stack) ch H H' s.heap h')(hok:ye X.prog X.w H' h')(i:AllBare g')
  (d:∀b∈ch,(b∈X.ex∨X.s0.heap.objs.size<=b)/\b≠X.env.locals/\(∀x c,X.env.cells.lookup x=some c->c≠b)/\∀p∈X.pn++pins,p.1≠b):
  Inv X pins σ H' { s with heap:=h',gens:=g',drawn:=d',toks:=t' }:=by
 obtain⟨m,⟨o,k,l,f,r⟩,_⟩:=id I.loc;obtain⟨S,L⟩:=u.any f I.free λz=>(d _ z).2.1 rfl;exact I.step (ch:=ch) d (λb o L j h e n=>u.keep b o e n (λz=>(cz.mp (I.stkSub b z)).elim L j) h) (λb o _ _ h e n=>u.any e n h) (λb o h e n=>u.free b o e n h) (λb o h e=>u.there b o e h) u.tups u.frzs u.tbls (λM hm=>by
  obtain⟨o',es',E,a,g⟩:=hm;rw[f]at a;cases a;exact⟨_,es',E,L,g⟩) hok i
def Inv.turned {it:Addr}(I:Inv X pins σ H s)(k:∀b o,b≠it->s.heap.get? b=some o->h'.get? b=some o)(hn:H it=none)(L:it≠X.env.locals)
  (i:it∈X.ex∨X.s0.heap.objs.size<=it)(g:∀x c,X.env.cells.lookup x=some c->c≠it)(f:∀p∈X.pn++pins,p.1≠it):Inv X pins σ H { s with heap:=h',toks:=t' }:=by
 have N:∀b u,H b=some u->b≠it:=λb u e z=>by rw[z,hn]at e;cases e
 refine I.step (g':=s.gens) (d':=s.drawn) (ch:=[it]) (λb d=>?_) (λb o _ _ h e _=>k b o (λz=>h (by simp[z])) e) (λb o _ _ h e _=>⟨o.slots,k b o (λz=>h (by simp[z])) e⟩) (λ_ _ _ _ n=>n)
  (λb o h e=>⟨o,k b o (λz=>h (by simp[z])) e⟩) (λ_ _ e=>e) (λ_ _ _ e=>e) (λb ps e=>⟨#[],by rw[e];simp⟩) (λm hm=>?_) (λb u e=>?_) I.bare
 ·have e:b=it:=by simpa using d
  subst e;exact⟨i,L,g,f⟩
 ·obtain⟨o,E,j,a,r⟩:=hm
  exact⟨o,E,j,k _ o (Ne.symm L) a,r⟩
 ·refine(I.hok b u e).stay (λc v h q=>k c v ?_ q) (λ_ q=>q) λ_ _ q=>q
  rcases h with z|z
  ·rw[z];exact N b u e
  ·exact N c _ z
def Inv.tok (I:Inv X pins σ H s)(t:Nat):Inv X pins σ H { s with toks:=t }:=I.un (h':=s.heap) (t':=t) Un.refl I.hok
theorem Inv.kept (I:Inv X pins σ H s)(k:∀b u,s.heap.get? b=some u->h'.get? b=some u):Inv X pins σ H { s with heap:=h',toks:=t' }:=I.un (Un.kept k) (I.hok.kept k)
theorem Inv.laid {o:HO}(I:Inv X pins σ H s)(k:∀b u,s.heap.get? b=some u->h'.get? b=some u)(hp:s.heap.objs.size<=a)(new:jh X.prog X.w (upd H a o) h' a o):
  Inv X pins σ (upd H a o) { s with heap:=h',toks:=t' }:=I.un (Un.laid k hp (I.hok.fresh hp)) (I.hok.laid k hp new)
theorem Inv.write {x e:Addr}{o:HO}(I:Inv X pins σ H s)(M:Wa (H x))(he:e=x∨H e=some (.own x))(k:∀b u,b≠e->s.heap.get? b=some u->h'.get? b=some u)(h:∃u,h'.get? e=some u)
  (new:jh X.prog X.w (upd H x o) h' x o):Inv X pins σ (upd H x o) { s with heap:=h',toks:=t' }:=I.un (Un.write M he k h) (I.hok.write M he k h new)
def Inv.pins_of {P:bZ}(I:Inv X pins σ H s)(h:∀p∈P,s.heap.get? p.1=some p.2/\H p.1=none/\p.1≠X.env.locals/\p.1∉X.fs/\∀v,p.2.data≠.cell v):Inv X P σ H s:=
 ⟨I.ok,I.os,I.bare,I.base,I.loc,I.cell,I.free,I.freeC,λp hp=>(cE.mp hp).elim (λz=>I.pin p (aX _ z)) (h p),I.hok,I.len⟩
def VG (h:N.Nodup)(a:N[i]? =some x)(b:N[j]? =some x):i=j:=by
 obtain⟨c,E⟩:=cA.mp a;obtain⟨H,e⟩:=cA.mp b;exact(List.getElem_inj h).mp (E.trans e.symm)
def RW {A:Around}{v:V}{Q:Unit->Shared->Prop}(I:Inv X pins σ H s)(hN:X.N.Nodup)(U:X.N[i]? =some x)(t:Loc X.env.scope x)(r:RelV v u)
  (h:∀s',Inv X pins (σ.set i (some v)) H s'->(∃a,Heap.SameBut a s.heap s'.heap/\(a=X.env.locals∨X.env.cells.lookup x=some a))->Q () s')(hf:X.fn x=true∨X.env.scope.names.lookup x=some .local:=by first|exact .inl rfl|exact .inr rfl|assumption):wpAny M A (storeName X.env x u) Q E s:=by
 obtain⟨m,hn,hl⟩:=id I.loc;have Y:(X.env.scope.kind==.class || (X.env.scope.kind==.module&&X.env.locals != X.env.globals))=false:=by rw[I.ok.kind];rfl
 have J:i < σ.length:=by rw[I.len];exact(cA.mp U).1
 have cne:=I.cne;have tracked:∀{a:Addr}{h':Heap},(∃o,s.heap.get? a=some o/\H a=none)->Heap.SameBut a s.heap h'->ye X.prog X.w H h':=λ {a h'} ha f b ob e=>by
  obtain⟨_,_,B⟩:=ha;refine(I.hok b ob e).stay (λc w' l q=>(f.2 c ?_).trans q) (λ_ q=>q) λ_ _ q=>q
  rintro rfl
  rcases l with rfl|l
  ·rw[B]at e;cases e
  ·rw[B]at l;cases l
 rcases t with D|D
 ·refine wpAny_storeName_local D hn (λh' hn' f=>?_) Y
  obtain⟨oL,_,_,hoL,_⟩:=id hn;refine h _ ⟨I.ok,I.os,I.bare,⟨λb o e n P t=>?_,λb o e n P t=>?_,I.base.free,λb o e t=>?_,I.base.tups,I.base.frzs,I.base.tbls⟩,⟨_,hn',λj y v' g C e3=>?_⟩,λy c e=>?_,I.free,I.freeC,λp hp=>?_,tracked ⟨oL,hoL,I.free⟩ f,by simpa using I.len⟩ ⟨_,f,.inl rfl⟩
  ·exact(f.2 b (aK (aE (aF e) I.ok.above))).trans (I.base.keep b o e n P t)
  ·obtain⟨sl,g⟩:=I.base.slot b o e n P t
   exact⟨sl,(f.2 b (aK (aE (aF e) I.ok.above))).trans g⟩
  ·obtain⟨o',g⟩:=I.base.there b o e t
   exact⟨o',(f.2 b (aK (aE (aF e) I.ok.above))).trans g⟩
  ·by_cases K:j=i
   ·subst K
    rw[U]at g;cases g;rw[aJ J]at C;cases C;exact⟨u,r,.inl ⟨D,by simp⟩⟩
   ·rw[aG (Ne.symm K)]at C
    obtain⟨u',r',q⟩:=hl j y v' g C e3;refine⟨u',r',?_⟩;rcases q with ⟨k,e⟩|⟨k,c,e,z⟩
    ·refine .inl ⟨k,?_⟩
     have:y≠x:=λe=>K (VG hN g (e ▸ U))
     simp[this,e]
    ·exact .inr ⟨k,c,e,z.sameBut f (cne y c e)⟩
  ·obtain⟨w',z⟩:=I.cell y c e
   exact⟨w',z.sameBut f (cne y c e)⟩
  ·obtain⟨e,n,ne,nf,d⟩:=I.pin p hp
   exact⟨(f.2 p.1 ne).trans e,n,ne,nf,d⟩
 ·have L:X.fn x=true:=by
   rcases hf with z|z
   ·exact z
   ·rw[z]at D;cases D
  obtain⟨c,l⟩:=I.ok.has x (.inl D);obtain⟨w',z⟩:=I.cell x c l;refine wpAny_storeName_cell I.ok.kind D l z (λh' hc' f=>?_);obtain⟨oc,T,S⟩:=id z;refine h { s with heap:=h' } ⟨I.ok,I.os,I.bare,⟨λb o e n P t=>?_,λb o e n P t=>?_,I.base.free,λb o e t=>?_,I.base.tups,I.base.frzs,I.base.tbls⟩,⟨m,hn.sameBut f (Ne.symm (cne x c l)),λj y v' g C e3=>?_⟩,λy c' e=>?_,I.free,I.freeC,λp hp=>?_,tracked ⟨oc,T,I.freeC x c l⟩ f,by simpa using I.len⟩ ⟨c,f,.inr l⟩
  ·exact(f.2 b (aK (aE (aF e) (I.ok.cab x c L l)))).trans (I.base.keep b o e n P t)
  ·obtain⟨sl,g⟩:=I.base.slot b o e n P t
   exact⟨sl,(f.2 b (aK (aE (aF e) (I.ok.cab x c L l)))).trans g⟩
  ·obtain⟨o',g⟩:=I.base.there b o e t
   exact⟨o',(f.2 b (aK (aE (aF e) (I.ok.cab x c L l)))).trans g⟩
  ·by_cases K:j=i
   ·subst K
    rw[U]at g;cases g;rw[aJ J]at C;cases C;exact⟨u,r,.inr ⟨.inl D,c,l,hc'⟩⟩
   ·rw[aG (Ne.symm K)]at C
    obtain⟨u',r',q⟩:=hl j y v' g C e3;refine⟨u',r',?_⟩;rcases q with q|⟨k,c',e,z'⟩
    ·exact .inl q
    ·refine .inr ⟨k,c',e,z'.sameBut f ?_⟩
     rintro rfl
     exact K (VG hN g (I.ok.inj _ _ _ e l ▸ U))
  ·by_cases Z:c'=c
   ·subst Z;exact⟨_,hc'⟩
   ·obtain⟨w2,z2⟩:=I.cell y c' e
    exact⟨w2,z2.sameBut f Z⟩
  ·obtain⟨e,n,ne,nf,d⟩:=I.pin p hp
   refine⟨(f.2 p.1 ?_).trans e,n,ne,nf,d⟩;intro q;rw[q,T]at e;have q':oc=p.2:=aB e;exact d w' (by rw[<- q'];exact S)
def W8 {A:Around}{v:V}{Q:Unit->Shared->Prop}(I:Inv X pins σ H s)(c:X.N.Nodup)(b:X.N[i]? =some x)(a:Loc X.env.scope x)(r:RelV v u)
  (h:∀s',Inv X pins (σ.set i (some v)) H s'->Q () s')(hf:X.fn x=true∨X.env.scope.names.lookup x=some .local:=by first|exact .inl rfl|exact .inr rfl|assumption):wpAny M A (storeName X.env x u) Q E s:=
 RW I c b a r (λs' d _=>h s' d) hf
def Inv.call' {ch:bY}(I:Inv X pins σ H s)(o:s'.os=s.os)(u:Un (qK X.stack) ch H H' s.heap s'.heap)(hok:ye X.prog X.w H' s'.heap)(g:AllBare s'.gens)
  (h:∀b∈ch,(b∈X.ex∨X.s0.heap.objs.size<=b)/\b≠X.env.locals/\(∀x c,X.env.cells.lookup x=some c->c≠b)/\∀p∈X.pn++pins,p.1≠b):Inv X pins σ H' s':=by
 obtain⟨h',g',d',t',o'⟩:=s';have e:o'=s.os:=o;subst e;exact I.call (g':=g') (t':=t') (d':=d') u hok g h
end
abbrev XK:=Value->Option Addr->Hp->Prop
noncomputable abbrev St:=List (Option V)
abbrev VK:=V->Hp->Prop
abbrev TE:=St->Hp->VK->Prop
abbrev TT:=St->Hp->(Bool->Hp->Prop)->Prop
abbrev TA:=St->Hp->(List V->Hp->Prop)->Prop
structure Ends where
 nx:St->Hp->Prop
 rt:VK
 bk:St->Hp->Prop:=λ_ _=>False
 ct:St->Hp->Prop:=λ_ _=>False
abbrev TS:=Ends->St->Hp->Prop
inductive EP (X:Cx)(pins:bZ)(σ:St)(Q:VK)(u:Value)(s':Shared):Prop
 |mk (v:V) (H':Hp) (I:Inv X pins σ H' s') (r:RelV v u) (q:Q v H')
def TP (X:Cx)(pins:bZ)(σ:St)(Q:Bool->Hp->Prop)(b:Bool)(s':Shared):Prop:=∃H,Inv X pins σ H s'/\Q b H
inductive AP (X:Cx)(pins:bZ)(σ:St)(Q:List V->Hp->Prop)(us:bX)(s':Shared):Prop
 |mk (vs:List V) (H':Hp) (I:Inv X pins σ H' s') (r:Vals vs us) (q:Q vs H')
def SP (X:Cx)(pins:bZ)(D:Ends)(f:Flow)(s':Shared):Prop:=
 match f with
 |.next=>∃a H,Inv X pins a H s'/\D.nx a H|.brk=>∃a H,Inv X pins a H s'/\D.bk a H|.cont=>∃a H,Inv X pins a H s'/\D.ct a H|.ret u=>∃v a H,Inv X pins a H s'/\RelV v u/\D.rt v H
def PE (X:Cx)(e:Expr)(t:TE):Prop:=
 ∀(pins:bZ)(s:Shared)(σ:St)(H:Hp)(Q:VK),Inv X pins σ H s->t σ H Q->wpAny (model X.prog X.w) X.A (eval e X.env) (EP X pins σ Q) X.xe s
def PT (X:Cx)(e:Expr)(t:TT):Prop:=
 ∀(pins:bZ)(s:Shared)(σ:St)(H:Hp)(Q:Bool->Hp->Prop),Inv X pins σ H s->t σ H Q->wpAny (model X.prog X.w) X.A (isTrue e X.env (eval e X.env)) (TP X pins σ Q) X.xe s
def PW (X:Cx)(e:Expr)(t:TT):Prop:=
 ∀(whole:Sem Value)(pins:bZ)(s:Shared)(σ:St)(H:Hp)(Q:Bool->Hp->Prop),Inv X pins σ H s->t σ H Q->wpAny (model X.prog X.w) X.A (isTrue e X.env whole) (TP X pins σ Q) X.xe s
def PW.pt {X:Cx}{t:TT}(h:PW X e t):PT X e t:=h _
def PA (X:Cx)(e:cc)(t:TA):Prop:=
 ∀(pos:Pos)(pins:bZ)(s:Shared)(σ:St)(H:Hp)(Q:List V->Hp->Prop),Inv X pins σ H s->t σ H Q->wpAny (model X.prog X.w) X.A (spliced (backTo pos (starEach e X.env))) (AP X pins σ Q) X.xe s
def PS (X:Cx)(st:Stmt)(t:TS):Prop:=
 ∀(pins:bZ)(s:Shared)(σ:St)(H:Hp)(D:Ends),Inv X pins σ H s->t D σ H->wpAny (model X.prog X.w) X.A (exec st X.env) (SP X pins D) X.xe s
def yY (X:Cx)(st:cu)(t:TS):Prop:=
 ∀(pins:bZ)(s:Shared)(σ:St)(H:Hp)(D:Ends),Inv X pins σ H s->t D σ H->wpAny (model X.prog X.w) X.A (execs st X.env) (SP X pins D) X.xe s
def zZ {t:Sem α}{Q Q':α->Shared->Prop}{A:Around}(h:wpAny M A t Q E s)(H:∀a s,Q a s->Q' a s):wpAny M A t Q' E s:=wpAny_mono h H λ_ _ x=>x
section
variable {X:Cx}
noncomputable def cK (i:Nat):TE:=λσ H Q=>∃v,σ[i]? =some (some v)/\Q v H
noncomputable def tC (v:V):TE:=λ_ H Q=>Q v H
def Na (j:X.N[i]? =some x)(f:Y1 X.env.scope x)(hd:(x==("__debug__":Str))=false:=by decide)(d:(x==("__classdict__":Str))=false:=by decide):PE X (.Name x pos) (cK i):=by
 intro pins s σ H Q I h;obtain⟨v,e,h⟩:=h;obtain⟨m,hn,g⟩:=I.loc;obtain⟨u,r,l⟩:=g i x v j e f;have fin:EP X pins σ Q u s:=⟨v,H,I,r,h⟩;rcases l with ⟨k,hm⟩|⟨k,c,b,a⟩
 ·exact wpAny_Name (wpAny_loadName_local I.ok.kind k hn hm fin) hd
 ·rcases k with k|k
  ·exact wpAny_Name (wpAny_loadName_cell I.ok.kind k b a fin) hd
  ·exact wpAny_Name (wpAny_loadName_free I.ok.kind k b a fin d) hd
def cL {i j pos}:PE X (.Constant (.int i) j pos) (tC (.int i)):=λ_ _ _ H _ I h=>wpAny_Constant_int ⟨.int i,H,I.tok _,⟨_,rfl⟩,h⟩
def cM {b j pos}:PE X (.Constant (.bool b) j pos) (tC (.bl b)):=λ_ _ _ H _ I h=>Constant_bool ⟨.bl b,H,I,rfl,h⟩
def Aw {j pos}:PE X (.Constant .none j pos) (tC .non):=λ_ _ _ H _ I h=>Constant_none ⟨.non,H,I,rfl,h⟩
def cN {x j pos}:PE X (.Constant (.str x) j pos) (tC (.str x)):=λ_ _ _ H _ I h=>Calls.Constant_str ⟨.str x,H,I.tok _,⟨_,rfl⟩,h⟩
def Gl (X:Cx)(x:Str):Prop:=X.env.kindOf x=some .globalImplicit
def Ku {σ:St}{H:Hp}(I:Inv X pins σ H s)(g:Gl X x)(hm:X.mg x=some u)(h:Q u s)
  (hd:(x==("__debug__":Str))=false:=by decide):wpAny (model X.prog X.w) X.A (eval (.Name x pos) X.env) Q E s:=
 Calls.Name_function_global I.ok.kind g (Calls.loadGlobal_global (by rw[I.ok.glob];exact I.mod.glob.keeps I.bk) hm h) hd
def QZ {σ:St}{H:Hp}(I:Inv X pins σ H s)(g:Gl X x)(hm:X.mg x=none)(v:bootBuiltins x=some u)(h:Q u s)
  (hn:x ≠ "__name__":=by decide)(hd:(x==("__debug__":Str))=false:=by decide):wpAny (model X.prog X.w) X.A (eval (.Name x pos) X.env) Q E s:=by
 obtain⟨mb,b,a⟩:=I.mod.blt;exact Calls.Name_function_global I.ok.kind g (Calls.loadGlobal_builtin (by rw[I.ok.glob];exact I.mod.glob.keeps I.bk) hm (by rw[I.ok.blt];exact b.keeps I.bk) ((a x hn).trans v) h) hd
def CF {v:V}(g:Gl X x)(hm:X.mg x=some u)(r:RelV v u)(hd:(x==("__debug__":Str))=false:=by decide):PE X (.Name x pos) (tC v):=
 λ_ _ _ H _ I h=>Ku I g hm ⟨v,H,I,r,h⟩ hd
def Gk {v:V}(g:Gl X x)(hm:X.mg x=none)(a:bootBuiltins x=some u)(r:RelV v u)(hn:x ≠ "__name__":=by decide)(hd:(x==("__debug__":Str))=false:=by decide):PE X (.Name x pos) (tC v):=
 λ_ _ _ H _ I h=>QZ I g hm a ⟨v,H,I,r,h⟩ hn hd
variable {a b:Expr}{ta tb:TE}
def DM (b:Expr)(h:op≠.In)(H:op≠.NotIn):behindInMarks op b=false:=by
 have E:(op==CmpOp.In)=false:=by cases op<;>first|rfl|exact absurd rfl h
 have e:(op==CmpOp.NotIn)=false:=by cases op<;>first|rfl|exact absurd rfl H
 cases b<;>simp[behindInMarks,E,e]
noncomputable def tB (t:TE):TT:=λσ H Q=>t σ H λx H1=>∃c,x=.bl c/\Q c H1
def cO {t:TE}(h:PE X e t)(he:∀whole,isTrue e X.env whole=(do let v <- whole;standAt e.pos;holding [v] (truthy v)):=by intro _;rfl):PT X e (tB t):=by
 intro pins s σ H Q I hw;refine isTrue_plain (zZ (h pins s σ H _ I hw) λv s1 ⟨x,H1,i,r,a⟩=>?_) (he _);obtain⟨d,rfl,q⟩:=a;cases r;exact wpAny_truthy_bool ⟨H1,i,q⟩
variable {tA tB':TT}{rest:cc}
noncomputable def cP (t u:TT):TT:=λσ H Q=>t σ H λc H1=>if c=true then u σ H1 Q else Q false H1
noncomputable def cQ (t u:TT):TT:=λσ H Q=>t σ H λc H1=>if c=true then Q true H1 else u σ H1 Q
noncomputable def cR (t:TT):TT:=λσ H Q=>t σ H λc H1=>Q (!c) H1
def pw_and1 (b:PT X a tA):PW X (.BoolOp .And [a] pos) tA:=by
 intro w pins s σ H Q I h;refine isTrue_and (zZ (b pins s σ H Q I h) λc s1 e=>?_);cases c with
 |true=>exact isTrue_and_nil e|false=>exact e
def pw_or1 (b:PT X a tA):PW X (.BoolOp .Or [a] pos) tA:=by
 intro w pins s σ H Q I h;refine isTrue_or (zZ (b pins s σ H Q I h) λc s1 e=>?_);cases c with
 |false=>exact isTrue_or_nil e|true=>exact e
def pw_and (e:PT X a tA)(d:PW X (.BoolOp .And (b::rest) pos) tB'):PW X (.BoolOp .And (a::b::rest) pos) (cP tA tB'):=by
 intro w pins s σ H Q I h;refine isTrue_and (zZ (e pins s σ H _ I h) λc s1 ⟨H1,i,q⟩=>?_);cases c with
 |true=>exact d w pins s1 σ H1 Q i q|false=>exact⟨H1,i,q⟩
def pw_or (e:PT X a tA)(d:PW X (.BoolOp .Or (b::rest) pos) tB'):PW X (.BoolOp .Or (a::b::rest) pos) (cQ tA tB'):=by
 intro w pins s σ H Q I h;refine isTrue_or (zZ (e pins s σ H _ I h) λc s1 ⟨H1,i,q⟩=>?_);cases c with
 |true=>exact⟨H1,i,q⟩|false=>exact d w pins s1 σ H1 Q i q
def cS (b:PT X a tA):PT X (.UnaryOp .Not a pos) (cR tA):=by
 intro pins s σ H Q I h;exact isTrue_not (b pins s σ H (λc H1=>Q (!c) H1) I h)
noncomputable def cT (T t:TE):TE:=λσ H Q=>T σ H λx H1=>∃c,x=.bl c/\if c=true then t σ H1 Q else Q (.bl false) H1
noncomputable def cU (t:TE):TE:=λσ H Q=>t σ H λx H1=>∃c,x=.bl c/\Q (.bl (!c)) H1
def AJ {op}{t:TE}(h:PE X a t):PE X (.BoolOp op [a] pos) t:=λpins s σ H Q I hw=>BoolOp_one (h pins s σ H Q I hw)
def cV (e:PE X a ta)(d:PE X (.BoolOp .And (b::rest) pos) tb):PE X (.BoolOp .And (a::b::rest) pos) (cT ta tb):=by
 intro pins s σ H Q I h;refine BoolOp_and (zZ (e pins s σ H _ I h) λv s1 ⟨x,H1,i,r,q⟩=>?_);obtain⟨c,rfl,q⟩:=q;cases r;refine wpAny_truthy_bool ?_;cases c with
 |true=>exact d pins s1 σ H1 Q i q|false=>exact⟨.bl false,H1,i,rfl,q⟩
def cW (b:PE X a ta):PE X (.UnaryOp .Not a pos) (cU ta):=by
 intro pins s σ H Q I h;refine UnaryOp_ (zZ (b pins s σ H _ I h) λv s1 ⟨x,H1,i,r,q⟩=>?_);obtain⟨c,rfl,q⟩:=q;cases r;exact not_of (wpAny_truthy_bool ⟨.bl (!c),H1,i,rfl,q⟩)
noncomputable def cX (t:TT)(a T:TE):TE:=λσ H Q=>t σ H λc H1=>if c=true then a σ H1 Q else T σ H1 Q
def Dg {c:Expr}(e:PT X c tA)(g:PE X a ta)(f:PE X b tb):PE X (.IfExp c a b pos) (cX tA ta tb):=by
 intro pins s σ H Q I h;refine wpAny_IfExp (zZ (e pins s σ H _ I h) λd s1 ⟨H1,i,q⟩=>?_);cases d with
 |true=>exact g pins s1 σ H1 Q i q|false=>exact f pins s1 σ H1 Q i q
end
def jj (K:Frag)(H:Hp)(a:Addr)(xs:List V):Prop:=
 Rd H a (.lst xs)∨
  ∃(o:Obj) (its:Array Value) (n:Nat),K.lookup a=some o/\o.cls=.type "list" /\ o.dict=none/\o.data=.seq its n/\its.size<=sizeLine/\Vals xs its.toList
def qo (K:Frag)(H:Hp)(a:Addr)(xs:List V):Prop:=
 Rd H a (.tup xs)∨
  ∃(o:Obj) (its:Array Value) (n:Nat),K.lookup a=some o/\(o.cls=.type "tuple" /\ o.dict=none)/\o.data=.seq its n/\its.size<=sizeLine/\Vals xs its.toList
noncomputable def cY:Value->Option V
 |.none=>some .non|.bool b=>some (.bl b)|.int i _=>some (.int i)|.str x _=>some (.str x)|.bytes b _=>some (.byt b)|.float b _=>some (.flt b)|.ref a=>some (.ref a)|.type n=>some (.ty n)|_=>none
def RelV.abs {x:V}(r:RelV x u):cY u=some x:=by
 cases x with
 |non=>cases r;rfl|bl _=>cases r;rfl|int _=>obtain⟨t,rfl⟩:=r;rfl|str _=>obtain⟨t,rfl⟩:=r;rfl|byt _=>obtain⟨t,rfl⟩:=r;rfl|flt _=>obtain⟨t,rfl⟩:=r;rfl|ref _=>cases r;rfl|ty _=>cases r;rfl
def RelV.inj {x y:V}(r:RelV x u)(q:RelV y u):x=y:=aB (r.abs.symm.trans q.abs)
theorem Vals.inj:∀{xs ys:List V}{us:bX},Vals xs us->Vals ys us->xs=ys
 |_,_,_,.nil,.nil=>rfl|_,_,_,.cons r t,.cons a t'=>by rw[r.inj a,Vals.inj t t']
section
variable {X:Cx}{σ:St}{H:Hp}{xs ys:List V}
def jj.of {K:Frag}(h:H a=some (.lst xs)):jj K H a xs:=.inl (.inl h)
def qo.of {K:Frag}(h:H a=some (.tup xs)):qo K H a xs:=.inl (.inl h)
def Inv.list (I:Inv X pins σ H s)(h:jj X.K H a xs):∃i:bX,Vals xs i/\PlainL s.heap a i.toArray/\xs.length<=sizeLine:=by
 rcases h with h|⟨o,i,n,k,c,hd,b,d,r⟩
 ·obtain⟨z,i,n,r,e⟩:=h.ok I.hok
  exact⟨i,r,⟨_,n,e,rfl,rfl,rfl⟩,z⟩
 ·refine⟨i.toList,r,⟨o,n,I.kIn a o k,c,hd,by simpa using b⟩,?_⟩
  have e:=r.length;simp only[aT]at e;omega
def Inv.tuple (I:Inv X pins σ H s)(h:qo X.K H a xs):∃i:bX,Vals xs i/\IsTup s.heap a i.toArray/\xs.length<=sizeLine:=by
 rcases h with h|⟨o,i,n,k,c,b,d,r⟩
 ·obtain⟨z,i,r,p⟩:=h.ok I.hok
  exact⟨i,r,p.tup,z⟩
 ·refine⟨i.toList,r,⟨o,I.kIn a o k,c.1,n,by simpa using b⟩,?_⟩
  have e:=r.length;simp only[aT]at e;omega
def Inv.list_inj (I:Inv X pins σ H s)(h:jj X.K H a xs)(h':jj X.K H a ys):xs=ys:=by
 obtain⟨i,r,⟨o,n,e,_,_,d⟩,_⟩:=I.list h;obtain⟨its',b,⟨o',N,E,_,_,d'⟩,_⟩:=I.list h';rw[e]at E;cases E;rw[d]at d';injection d' with D _
 have:i=its':=by simpa using congrArg Array.toList D
 subst this;exact r.inj b
def Inv.tuple_inj (I:Inv X pins σ H s)(h:qo X.K H a xs)(h':qo X.K H a ys):xs=ys:=by
 obtain⟨i,r,⟨o,e,_,n,d⟩,_⟩:=I.tuple h;obtain⟨its',b,⟨o',E,_,N,d'⟩,_⟩:=I.tuple h';rw[e]at E;cases E;rw[d]at d';injection d' with D _
 have:i=its':=by simpa using congrArg Array.toList D
 subst this;exact r.inj b
end
noncomputable abbrev Cx.wish (X:Cx)(E:cb):Cx:={ X with xe:=E }
noncomputable abbrev Cx.nox (X:Cx):Cx:=X.wish λ_ _=>False
theorem Cx.Ok.wish {X:Cx}(ok:X.Ok)(E:cb):(X.wish E).Ok:=
 ⟨ok.mod,ok.kind,ok.glob,ok.blt,ok.above,ok.inj,ok.has,ok.cab,ok.hd,ok.frames,ok.stk,ok.exf,ok.bs,ok.bsz,ok.noex,ok.exfs,ok.funs,ok.frf⟩
def Cx.Ok.unwish {X:Cx}(ok:(X.wish E).Ok):X.Ok:=
 ⟨ok.mod,ok.kind,ok.glob,ok.blt,ok.above,ok.inj,ok.has,ok.cab,ok.hd,ok.frames,ok.stk,ok.exf,ok.bs,ok.bsz,ok.noex,ok.exfs,ok.funs,ok.frf⟩
section
variable {X:Cx}{σ:St}{H:Hp}
theorem Inv.wish (I:Inv X pins σ H s)(E:cb):Inv (X.wish E) pins σ H s:=⟨I.ok.wish E,I.os,I.bare,I.base,I.loc,I.cell,I.free,I.freeC,I.pin,I.hok,I.len⟩
theorem Inv.unwish (I:Inv (X.wish E) pins σ H s):Inv X pins σ H s:=⟨I.ok.unwish,I.os,I.bare,I.base,I.loc,I.cell,I.free,I.freeC,I.pin,I.hok,I.len⟩
theorem SP.unwish {D:Ends}{f:Flow}(h:SP (X.wish E) pins D f s'):SP X pins D f s':=by
 cases f with
 |next=>obtain⟨a,H,I,q⟩:=h;exact⟨a,H,I.unwish,q⟩|brk=>obtain⟨a,H,I,q⟩:=h;exact⟨a,H,I.unwish,q⟩|cont=>obtain⟨a,H,I,q⟩:=h;exact⟨a,H,I.unwish,q⟩|ret u=>obtain⟨v,a,H,I,r,q⟩:=h;exact⟨v,a,H,I.unwish,r,q⟩
theorem PT.nox {t:TT}(h:PT X.nox e t):PT X e t:=λpins s σ H Q I hw=>
 wpAny_mono (h pins s σ H Q (I.wish _) hw) (λ_ _ ⟨a,i,q⟩=>⟨a,i.unwish,q⟩) λ_ _ z=>False.elim z
theorem yY.nox {st:cu}{t:TS}(h:yY X.nox st t):yY X st t:=λpins s σ H D I hw=>
 wpAny_mono (h pins s σ H D (I.wish _) hw) (λ_ _ q=>q.unwish) λ_ _ z=>False.elim z
end
section
variable {X:Cx}{st:Stmt}{rest:cu}{t u:TS}{te:TE}
noncomputable def cZ:TS:=λD σ H=>D.nx σ H
noncomputable def c4 (t u:TS):TS:=λD σ H=>t { D with nx:=u D } σ H
def Ah:yY X [] cZ:=λ_ _ σ H _ I h=>wpAny_execs_nil ⟨σ,H,I,h⟩
def DE (c:PS X st t)(b:yY X rest u):yY X (st::rest) (c4 t u):=by
 intro pins s σ H D I h;refine wpAny_execs_cons (zZ (c pins s σ H { D with nx:=u D } I h) λf s1 q=>?_)
 cases f with
 |next=>
  obtain⟨a,d,i,q⟩:=q;exact b pins s1 a d D i q
 |ret v=>exact q|brk=>exact q|cont=>exact q
def Inv.quiet {σ:St}{H:Hp}(I:Inv X pins σ H s):interactive X.env=false:=by simp[interactive,I.ok.kind]
noncomputable def c5 (t:TE):TS:=λD σ H=>t σ H λ_ H1=>D.nx σ H1
def Bp (he:PE X e te)(a:swapsWith e none pos.line X.env=pure false:=by rfl):PS X (.Expr e pos) (c5 te):=by
 intro pins s σ H D I h;exact wpAny_Expr_any (zZ (he pins s σ H _ I h) λv s1 ⟨x,H1,i,r,q⟩=>⟨σ,H1,i,q⟩) I.quiet a
noncomputable def c6 (t:TE):TS:=λD σ H=>t σ H D.rt
def c7 (he:PE X e te):PS X (.Return (some e) pos) (c6 te):=by
 intro pins s σ H D I h;exact wpAny_Return_some (zZ (he pins s σ H _ I h) λv s1 ⟨x,H1,i,r,q⟩=>⟨x,σ,H1,i,r,q⟩)
noncomputable def c8 (c:TT)(t u:TS):TS:=λD σ H=>c σ H λb H1=>if b=true then t D σ H1 else u D σ H1
def c9 {c:Expr}{a b:cu}{T:TT}(e:PT X c T)(g:yY X a t)(f:yY X b u):PS X (.If c a b pos) (c8 T t u):=by
 intro pins s σ H D I h;refine wpAny_If (zZ (e pins s σ H _ I h) λd s1 ⟨H1,i,q⟩=>?_);cases d with
 |true=>exact g pins s1 σ H1 D i q|false=>exact f pins s1 σ H1 D i q
end
abbrev TG:=V->St->Hp->(St->Hp->Prop)->Prop
abbrev J2:=List V->St->Hp->(St->Hp->Prop)->Prop
def PG (X:Cx)(target:Expr)(t:TG):Prop:=
 ∀(pins:bZ)(s:Shared)(σ:St)(H:Hp)(v:V)(u:Value)(Q:St->Hp->Prop),Inv X pins σ H s->RelV v u->t v σ H Q->
  wpAny (model X.prog X.w) X.A (assign target X.env u) (λ_ s'=>∃a h,Inv X pins a h s'/\Q a h) X.xe s
def Xo (X:Cx)(ts:cc)(t:J2):Prop:=
 ∀(pins:bZ)(s:Shared)(σ:St)(H:Hp)(vs:List V)(us:bX)(Q:St->Hp->Prop),Inv X pins σ H s->Vals vs us->t vs σ H Q->
  wpAny (model X.prog X.w) X.A (assignInOrder ((assignEach ts X.env).map (·.2)) us) (λ_ s'=>∃a h,Inv X pins a h s'/\Q a h) X.xe s
abbrev JX:=V->V->V->Hp->(Hp->Prop)->Prop
def GZ (X:Cx)(t:JX):Prop:=
 ∀(pins:bZ)(s:Shared)(σ:St)(H:Hp)(o i v:V)(a I u:Value)(Q:Hp->Prop),Inv X pins σ H s->RelV o a->RelV i I->RelV v u->t o i v H Q->
  wpAny (model X.prog X.w) X.A (setItem a I u) (λ_ s'=>∃h,Inv X pins σ h s'/\Q h) X.xe s
abbrev Xw:=V->V->Hp->VK->Prop
def Mz (X:Cx)(op:Operator)(t:Xw):Prop:=
 ∀(pins:bZ)(s:Shared)(σ:St)(H:Hp)(x y:V)(v u:Value)(Q:VK),Inv X pins σ H s->RelV x v->RelV y u->t x y H Q->
  wpAny (model X.prog X.w) X.A (inplaceOp op v u) (EP X pins σ Q) X.xe s
section
variable {X:Cx}
noncomputable def GO (i:Nat):TG:=λv σ H Q=>Q (σ.set i (some v)) H
def ZK (c:X.N.Nodup)(b:X.N[i]? =some x)(a:Loc X.env.scope x)(hf:X.fn x=true∨X.env.scope.names.lookup x=some .local:=by first|exact .inl rfl|exact .inr rfl|assumption):PG X (.Name x pos) (GO i):=by
 intro pins s σ H v u Q I r h;exact wpAny_assign_Name (W8 I c b a r (λs' d=>⟨_,H,d,h⟩) hf)
noncomputable def da:J2:=λvs σ H Q=>vs=[]/\Q σ H
noncomputable def dc (t:TG)(u:J2):J2:=λvs σ H Q=>∃v r,vs=v::r/\t v σ H λa h=>u r a h Q
def Gr:Xo X [] da:=by
 intro pins s σ H vs us Q I r h;obtain⟨e,h⟩:=h;subst e;cases r;exact assignInOrder_nil ⟨σ,H,I,h⟩
def ZD {E:cc}{t:TG}{u:J2}(f:PG X e t)(d:Xo X E u)
  (c:(assignEach (e::E) X.env).map (·.2)=assign e X.env::(assignEach E X.env).map (·.2):=by rfl):Xo X (e::E) (dc t u):=by
 intro pins s σ H vs us Q I r h;obtain⟨v,j,g,h⟩:=h;subst g;cases r with
 |cons r b=>
  rw[c];refine assignInOrder_cons (zZ (f pins s σ H _ _ _ I r h) λ_ s1 ⟨a,H1,i,q⟩=>?_);exact d pins s1 a H1 _ _ Q i b q
noncomputable def yW (K:Frag)(n:Nat)(t:J2):TG:=λv σ H Q=>∃a xs,v=.ref a/\qo K H a xs/\xs.length=n/\t xs σ H Q
def Gx {E:cc}{t:J2}(g:X.calm=true)(h:Xo X E t)
  (hn:(assignEach E X.env).length=n:=by rfl)(c:(assignEach E X.env).findIdx? (·.1)=none:=by rfl):PG X (.Tuple E k pos) (yW X.K n t):=by
 intro pins s σ H v u Q I r hw;obtain⟨a,xs,j,q,l,hw⟩:=hw;subst j;cases r;obtain⟨i,d,f,z⟩:=I.tuple q;refine assign_Tuple_tuple (I.ok.hd g) f (by simp[hn,<- l,d.length]) c λh' x=>?_
 have p:Inv X pins σ H { s with heap:=h' }:=I.kept (t':=s.toks) λb o e=>x b o (aK (aF e)) e
 exact h pins _ σ H xs _ Q p (by simpa using d) hw
noncomputable def kN (to ti:TE)(t:JX):TG:=λv σ H Q=>to σ H λo H1=>ti σ H1 λi a=>t o i v a λh=>Q σ h
def de {o i:Expr}{to ti:TE}{t:JX}(f:PE X o to)(g:PE X i ti)(e:GZ X t)
  (j:∀v,assign (.Subscript o i pos) X.env v=(do
   let ov <- holding [v] (eval o X.env)
   let iv <- holding [v,ov] (eval i X.env)
   standAt pos
   holding [v,ov,iv] (setItem ov iv v)
   release [v,ov,iv] []):=by intro _;rfl):PG X (.Subscript o i pos) (kN to ti t):=by
 intro pins s σ H v u Q I r h;rw[j];refine cw (wpAny_holding (zZ (f pins s σ H _ I h) λov s1 ⟨x,H1,n,b,d⟩=>?_));refine cw (wpAny_holding (zZ (g pins s1 σ H1 _ n d) λiv s2 ⟨y,w,l,a,c⟩=>?_));refine cw (wpAny_standAt (cw (wpAny_holding (zZ (e pins s2 σ w x y v ov iv u _ l b a r c) λ_ s3 ⟨p,k,q⟩=>?_))));exact wpAny_release ⟨σ,p,k,q⟩
noncomputable def G3 (t:TE)(g:TG):TS:=λD σ H=>t σ H λx H1=>g x σ H1 D.nx
def O9 {t:TE}{g:TG}(he:PE X e t)(b:PG X tg g)(a:swapsWithSole [tg] e pos.line X.env=pure false:=by rfl)(hw:swappedStores [tg] e X.env=pure none:=by rfl)
  (c:(assignEach [tg] X.env).map (·.2)=[assign tg X.env]:=by rfl):PS X (.Assign [tg] e pos) (G3 t g):=by
 intro pins s σ H D I h;refine wpAny_Assign_stores (zZ (he pins s σ H _ I h) λv s1 ⟨x,H1,i,r,Q⟩=>?_) a hw;rw[c];exact zZ (b pins s1 σ H1 x v _ i r Q) λ_ s2 q=>q
def Ax {t:TE}{pos':Pos}(d:X.N.Nodup)(c:X.N[i]? =some x)(a:Loc X.env.scope x)(he:PE X e t)(b:swapsWith e (some (.Name x pos')) pos.line X.env=pure false:=by rfl)(hf:X.fn x=true∨X.env.scope.names.lookup x=some .local:=by first|exact .inl rfl|exact .inr rfl|assumption):
  PS X (.Assign [.Name x pos'] e pos) (G3 t (GO i)):=by
 intro pins s σ H D I h;refine wpAny_Assign_Name (zZ (he pins s σ H _ I h) λv s1 ⟨y,H1,g,r,q⟩=>?_) b;exact W8 g d c a r (λs2 f=>⟨_,H1,f,q⟩) hf
noncomputable def df (to ti e:TE)(T:V->V->Hp->VK->Prop)(p:Xw)(t:JX):TS:=λD σ H=>to σ H λo H1=>ti σ H1 λi d=>T o i d λx c=>e σ c λy b=>p x y b λz a=>t o i z a λh=>D.nx σ h
def Mg (X:Cx)(t:V->V->Hp->VK->Prop):Prop:=
 ∀(pins:bZ)(s:Shared)(σ:St)(H:Hp)(o i:V)(v I:Value)(Q:VK),Inv X pins σ H s->RelV o v->RelV i I->t o i H Q->
  wpAny (model X.prog X.w) X.A (getItem v I) (EP X pins σ Q) X.xe s
def Ao {o i:Expr}{to ti c:TE}{T:V->V->Hp->VK->Prop}{p:Xw}{t:JX}{op:Operator}(x:PE X o to)(y:PE X i ti)(z:Mg X T)(he:PE X e c)(hp:Mz X op p)(w:GZ X t)
  (A:∀a b new,augStore i a b new=(do holding [new,a,b] (setItem a b new);release [new,a,b] [];pure .next):=by intros;rfl):PS X (.AugAssign (.Subscript o i tpos) op e pos) (df to ti c T p t):=by
 intro pins s σ H D I h;refine wpAny_AugAssign_SubscriptAny (zZ (x pins s σ H _ I h) λa s1 ⟨x1,H1,L,d,u⟩=>?_) A;refine zZ (y pins s1 σ H1 _ L u) λb s2 ⟨x2,U,K,r,n⟩=>?_;refine zZ (z pins s2 σ U x1 x2 a b _ K d r n) λold s3 ⟨x3,S,J,j,l⟩=>?_;refine zZ (he pins s3 σ S _ J l) λv s4 ⟨x4,P,E,g,k⟩=>?_;refine zZ (hp pins s4 σ P x3 x4 old v _ E j g k) λnew s5 ⟨x5,N,C,f,Q⟩=>?_;exact zZ (w pins s5 σ N x1 x2 x5 a b new _ C d r f Q) λ_ Y ⟨M,B,q⟩=>⟨σ,M,B,q⟩
noncomputable def dh (f:Int->Int->Int):Xw:=λx y H Q=>∃i j,x=.int i/\y=.int j/\Q (.int (f i j)) H
def AO:Mz X .Add (dh λi j=>i+j):=by
 intro pins s σ H x y v u Q I a r h;obtain⟨i,j,E,e,q⟩:=h;subst E;subst e;obtain⟨t,rfl⟩:=a;obtain⟨t',rfl⟩:=r;exact iadd_int ⟨.int _,H,I.tok _,⟨_,rfl⟩,q⟩
def di (c:TT)(t:TS):TS:=λD σ H=>∃W:Nat->St->Hp->Prop,(∃m,W m σ H)/\∀m σ H,W m σ H->
 c σ H λb H1=>if b=true then ∃N:St->Hp->Prop,(∀a h,N a h->∃M,M<m/\W M a h)/\t { D with nx:=N,ct:=N,bk:=D.nx } σ H1 else D.nx σ H1
def D5 {c:Expr}{t:TT}{T:TS}(hp:PassesOwn (model X.prog X.w) X.A X.env X.xe)(y:PT X c t)(z:yY X body T):PS X (.While c body [] pos) (di t T):=by
 intro pins s σ H D I h;obtain⟨W,⟨m0,x⟩,turn⟩:=h;refine wpAny_While (codeAny_whileLoop (λn s'=>∃e r,Inv X pins e r s'/\W n e r) ?_ m0 ⟨σ,H,I,x⟩)
 rintro n s1 ⟨d,H1,B,u⟩
 refine wpAny_passesOwn hp (zZ (y pins s1 d H1 _ B (turn n d H1 u)) λb s2 ⟨p,o,Q⟩=>?_);cases b with
 |true=>
  obtain⟨N,l,Q⟩:=Q;rw[ag rfl];refine wpAny_passesOwn hp (zZ (z pins s2 d p _ o Q) λf s3 q=>?_);cases f with
  |next=>
   obtain⟨a,g,k,j⟩:=q;obtain⟨M,hm,i⟩:=l a g j;exact⟨M,hm,a,g,k,i⟩
  |cont=>
   obtain⟨a,g,k,j⟩:=q;obtain⟨M,hm,i⟩:=l a g j;exact⟨M,hm,a,g,k,i⟩
  |brk=>exact q|ret v=>exact q
 |false=>
  rw[aj aA];exact wpAny_execs_nil ⟨d,p,o,Q⟩
end
structure It where
 go:Nat->Hp->Prop
 yld:Nat->Hp->V->Hp->Prop
 stop:Nat->Hp->Prop
def kY (X:Cx)(pins:bZ)(H:Hp)(b:Addr):Prop:=
 H b=none/\b≠X.env.locals/\b∉X.fs/\(b∈X.ex∨X.s0.heap.objs.size<=b)/\(∀x c,X.env.cells.lookup x=some c->c≠b)/\∀p∈X.pn++pins,p.1≠b
def Inv.fpOk {X:Cx}{σ:St}{H a:Hp}(I:Inv X pins σ H s)(h:s.heap.objs.size<=b)(hn:a b=none):kY X pins a b:=by
 refine⟨hn,bq (aE I.lt h),I.nofs h,.inr (bg I.sz h),λx c e z=>?_,λp hp z=>?_⟩
 ·obtain⟨v,q⟩:=I.cell x c e
  exact absurd (aE q.lt (by rw[z];exact h)) (aV _)
 ·exact absurd (aE (aF (I.pin p hp).1) (by rw[z];exact h)) (aV _)
structure Turn (P:Program)(w:World)(K:Frag)(tg:Expr)(J:It)(fp:bY)(it:Addr)(tn:Nat->Heap->Prop):Prop where
 mem:it∈fp
 obj:∀i h,tn i h->∀b∈fp,∃o,h.get? b=some o/\∀v,o.data≠.cell v
 keep:∀i h h',tn i h->(∀b∈fp,∀o,h.get? b=some o->h'.get? b=some o)->tn i h'
 item:∀(X:Cx),X.prog=P->X.w=w->X.K=K->X.calm=true->∀(i:Nat)(pins:bZ)(s:Shared)(σ:St)(H:Hp)(E:cb),Inv X pins σ H s->(∀b∈fp,kY X pins H b)->tn i s.heap->J.go i H->
  wpAny (model P w) X.A (pyNext (.ref it)) (λr s1=>∃u,r=some u/\
   wpAny (model P w) X.A (letOwnedTupleGo tg (.ref it) u) (λ_ s2=>∃x H',Inv X pins σ H' s2/\RelV x u/\J.yld i H x H'/\tn (i+1) s2.heap/\∀b∈fp,H' b=none) E s1) E s
 done:∀(X:Cx),X.prog=P->X.w=w->X.K=K->X.calm=true->∀(i:Nat)(pins:bZ)(s:Shared)(σ:St)(H:Hp)(E:cb),Inv X pins σ H s->(∀b∈fp,kY X pins H b)->tn i s.heap->J.stop i H->
  wpAny (model P w) X.A (pyNext (.ref it)) (λr s1=>r=none/\Inv X pins σ H s1) E s
 self:∀(A:Around)(i:Nat)(s:Shared)(Q:cb)(E:cb),tn i s.heap->Q (.ref it) s->wpAny (model P w) A (pyIter (.ref it)) Q E s
abbrev TI:=St->Hp->(It->Hp->Prop)->Prop
inductive MJ (X:Cx)(pins:bZ)(σ:St)(tg:Expr)(R:It->Hp->Prop)(itv:Value)(s2:Shared):Prop
 |mk (it:Addr) (fp:bY) (tn:Nat->Heap->Prop) (J:It) (H':Hp) (e:itv=.ref it) (I:Inv X pins σ H' s2) (T:Turn X.prog X.w X.K tg J fp it tn) (t0:tn 0 s2.heap) (f:(∀b∈fp,kY X pins H' b)) (q:R J H')
def PI (X:Cx)(t iter:Expr)(wi:TI):Prop:=
 ∀(pins:bZ)(s:Shared)(σ:St)(H:Hp)(R:It->Hp->Prop),Inv X pins σ H s->wi σ H R->
  wpAny (model X.prog X.w) X.A (eval iter X.env) (λv s1=>wpAny (model X.prog X.w) X.A (pyIter v) (MJ X pins σ t R) X.xe s1) X.xe s
def UO {A:Around}{it:Addr}{o:Obj}{n:String}{vs:Array Value}{Q:Unit->Shared->Prop}(a:s.heap.get? it=some o)(c:o.cls=.type n)(hd:o.data=.fields vs)
  (hn:["enumerate","zip","dict_itemiterator","dict_reverseitemiterator","odict_iterator","itertools.zip_longest","itertools.pairwise"].contains n=false)(H:Q () s):wpAny M A (letOwnedTupleGo tg (.ref it) u) Q E s:=by
 unfold letOwnedTupleGo;cases tg<;>first
  |exact cx H
  |(cases u<;>first
    |exact cx H
    |(
      refine cw (wpAny_load a ?_);rw[c,hd];show wpAny M A (if (["enumerate","zip","dict_itemiterator","dict_reverseitemiterator","odict_iterator","itertools.zip_longest","itertools.pairwise"].contains n&&vs[0]?==some (rawInt _))=true then _ else _) Q E s;rw[aj (by intro h;rw[hn,Bool.false_and]at h;cases h)]
      exact cx H))
noncomputable def Mv (K:Frag)(a:Addr):It:=
 ⟨λi H=>∃xs x,jj K H a xs/\xs[i]? =some x,λi H x h=>h=H/\∀xs,jj K H a xs->xs[i]? =some x,λi H=>∃xs,jj K H a xs/\xs.length<=i⟩
noncomputable def MD (K:Frag)(a:Addr):It:=
 ⟨λi H=>∃xs x,qo K H a xs/\xs[i]? =some x,λi H x h=>h=H/\∀xs,qo K H a xs->xs[i]? =some x,λi H=>∃xs,qo K H a xs/\xs.length<=i⟩
noncomputable def Xt (lo:Int)(n:Nat):It:=⟨λi _=>i<n,λi H x h=>h=H/\x=.int (lo+i),λi _=>n<=i⟩
def Fp {K:Frag}(a it:Addr):Turn P w K tg (Mv K a) [it] it (λi h=>h.IsListIter it a i) where
 mem:=by simp
 obj:=λi h st b f=>by
  have e:b=it:=by simpa using f
  subst e;obtain⟨o,e,c,d⟩:=st;exact⟨o,e,λv z=>by rw[d]at z;cases z⟩
 keep:=λi h h' st k=>st.at λo e=>k it (by simp) o e
 item:=by
  intro X n hw t B i pins s σ H E I hf st l;subst n hw t;obtain⟨xs,x,q,j⟩:=l;obtain⟨g,r,p,J⟩:=I.list q;obtain⟨u,M,D⟩:=r.get j;obtain⟨f0,f1,f2,A,f4,y⟩:=hf it (by simp)
  refine wpAny_pyNext_list_item st p.isList (x:=u) (by simpa using M) λh' S C=>?_
  have Q:Inv X pins σ H { s with heap:=h' }:=I.turned (t':=s.toks) (λb o f e=>(C.2 b f).trans e) f0 f1 A f4 y
  obtain⟨o,e,c,d⟩:=id S;exact⟨u,rfl,UO (s:={ s with heap:=h' }) e c d (by decide) ⟨x,H,Q,D,⟨rfl,λys L=>by rw[I.list_inj L q];exact j⟩,S,λb f=>(hf b f).1⟩⟩
 done:=by
  intro X n hw t B i pins s σ H E I hf st l;subst n hw t;obtain⟨xs,q,j⟩:=l;obtain⟨g,r,p,J⟩:=I.list q;obtain⟨f0,f1,f2,A,f4,y⟩:=hf it (by simp)
  have T:=r.length;exact wpAny_pyNext_list_end (I.ok.hd B) st p.isList (by simp;omega) λh' N=>⟨rfl,I.turned (t':=s.toks) (λb o f e=>N b o f e) f0 f1 A f4 y⟩
 self:=λ_ _ _ _ _ st h=>wpAny_pyIter_listiter st h
def Hw {K:Frag}(a it:Addr):Turn P w K tg (MD K a) [it] it (λi h=>h.IsTupleIter it a i) where
 mem:=by simp
 obj:=λi h st b g=>by
  have e:b=it:=by simpa using g
  subst e;obtain⟨o,e,c,d⟩:=st;exact⟨o,e,λv z=>by rw[d]at z;cases z⟩
 keep:=λi h h' st k=>st.at λo e=>k it (by simp) o e
 item:=by
  intro X n hw t B i pins s σ H E I hf st l;subst n hw t;obtain⟨xs,x,q,j⟩:=l;obtain⟨f,r,p,J⟩:=I.tuple q;obtain⟨u,M,D⟩:=r.get j;obtain⟨f0,f1,f2,A,f4,y⟩:=hf it (by simp)
  refine wpAny_pyNext_tuple_item st (show s.heap.IsTuple a f.toArray from p) (x:=u) (by simpa using M) λh' S C=>?_
  have Q:Inv X pins σ H { s with heap:=h' }:=I.turned (t':=s.toks) (λb o g e=>(C.2 b g).trans e) f0 f1 A f4 y
  obtain⟨o,e,c,d⟩:=id S;exact⟨u,rfl,UO (s:={ s with heap:=h' }) e c d (by decide) ⟨x,H,Q,D,⟨rfl,λys L=>by rw[I.tuple_inj L q];exact j⟩,S,λb g=>(hf b g).1⟩⟩
 done:=by
  intro X n hw t B i pins s σ H E I hf st l;subst n hw t;obtain⟨xs,q,j⟩:=l;obtain⟨f,r,p,J⟩:=I.tuple q;obtain⟨f0,f1,f2,A,f4,y⟩:=hf it (by simp)
  have T:=r.length;exact wpAny_pyNext_tuple_end (I.ok.hd B) st (show s.heap.IsTuple a f.toArray from p) (by simp;omega) λh' N=>⟨rfl,I.turned (t':=s.toks) (λb o g e=>N b o g e) f0 f1 A f4 y⟩
 self:=λ_ _ _ _ _ st h=>wpAny_pyIter_tupleiter st h
def Ho {K:Frag}(it:Addr)(lo:Int)(n:Nat):Turn P w K tg (Xt lo n) [it] it (λi h=>IsRangeIter h it (lo+(i:Nat) * 1) ((n:Int)-(i:Nat)) 1) where
 mem:=by simp
 obj:=λi h st b a=>by
  have e:b=it:=by simpa using a
  subst e;exact⟨_,st,λv z=>by
   have Z:Data.fields _=Data.cell v:=z;cases Z⟩
 keep:=λi h h' st k=>k it (by simp) _ st
 item:=by
  intro X d hw f c i pins s σ H E I hf st g;subst d hw f;obtain⟨f0,f1,f2,l,f4,j⟩:=hf it (by simp)
  have W:=Walks.range (prog:=X.prog) (w:=X.w) (I.ok.hd c) it lo 1 n;refine W.item i s _ _ g st λv h' tk p S kk=>?_;obtain⟨t,rfl⟩:=p;have r:Inv X pins σ H { s with heap:=h',toks:=tk }:=I.turned (λb o a e=>kk b o (by simpa using a) e) f0 f1 l f4 j
  refine⟨_,rfl,UO (s:={ s with heap:=h',toks:=tk }) (n := "range_iterator") S rfl rfl (by decide) ⟨.int (lo+i),H,r,⟨t,?_⟩,⟨rfl,rfl⟩,S,λb a=>(hf b a).1⟩⟩
  rw[Int.mul_one]
 done:=by
  intro X d hw f c i pins s σ H E I hf st g;subst d hw f;obtain⟨f0,f1,f2,l,f4,j⟩:=hf it (by simp)
  exact wpAny_pyNext_range_end (I.ok.hd c) st (by have:n<=i:=g;omega) λh' q=>⟨rfl,I.turned (t':=s.toks) (λb o a e=>q b o a e) f0 f1 l f4 j⟩
 self:=λ_ _ _ _ _ st h=>wpAny_pyIter_rangeiter st h
section
variable {X:Cx}
def DB {σ:St}{H:Hp}{R:It->Hp->Prop}{lo h:Int}{t u v:Tok}{tk:Nat}(I:Inv X pins σ H s)(g:-(2 ^ 62)<=lo)(f:lo<2 ^ 62)(d:-(2 ^ 62)<=h)(c:h<2 ^ 62)
  (q:R (Xt lo (h-lo).toNat) H):wpAny (model X.prog X.w) X.A (pyIter (.ref s.heap.objs.size)) (MJ X pins σ tg R) E { s with heap:=s.heap.push { cls:=.type "range",data:=.fields #[.int lo t,.int h u,.int 1 v] },toks:=tk }:=by
 refine wpAny_pyIter_range (IsRange.new ..) (small_one g f d c) ?_;have i:Inv X pins σ H { s with heap:=s.heap.push { cls:=.type "range",data:=.fields #[.int lo t,.int h u,.int 1 v] },toks:=tk }:=I.kept λb o e=>ae _ e
 refine⟨(s.heap.push { cls:=.type "range",data:=.fields #[.int lo t,.int h u,.int 1 v] }).objs.size,[(s.heap.push { cls:=.type "range",data:=.fields #[.int lo t,.int h u,.int 1 v] }).objs.size],_,_,H,rfl,
  i.kept (t':=tk) λb o e=>ae _ e,Ho _ lo (h-lo).toNat,?_,λb a=>?_,q⟩
 ·have k:lo+((0:Nat):Int) * 1=lo:=by simp
  have j:(((h-lo).toNat:Nat):Int)-((0:Nat):Int)=Builtin.Range.rangeSize lo h 1:=by rw[rangeSize_one];split<;>omega
  show IsRangeIter _ _ (lo+((0:Nat):Int) * 1) ((((h-lo).toNat:Nat):Int)-((0:Nat):Int)) 1;rw[k,j];exact au _ rfl
 ·have e:b=(s.heap.push { cls:=.type "range",data:=.fields #[.int lo t,.int h u,.int 1 v] }).objs.size:=by simpa using a
  subst e;exact i.fpOk (av _) (i.hok.fresh (av _))
def dj (t:TA):TI:=λσ H R=>t σ H λvs H1=>∃j:Int,vs=[.int j]/\-(2 ^ 62)<=j/\j<2 ^ 62/\R (Xt 0 j.toNat) H1
def Eb {a:Expr}{T:TA}(g:Gl X "range")(hm:X.mg "range"=none)(i:PA X [a] T)(f:starEach [a] X.env=[(false,eval a X.env)]:=by rfl):PI X tg (.Call (.Name "range" p) [a] [] pos) (dj T):=by
 intro pins s σ H R I h;refine Call_ (QZ I g hm boot_range (PyProof.Rows.callWith_type1 (zZ (i pos pins s σ H _ I h) λus s1 ⟨vs,H1,k,c,Q⟩=>?_) f rfl));obtain⟨j,e,Q,d,q⟩:=Q;subst e;cases c with
 |cons r b=>
  cases b;obtain⟨t,rfl⟩:=r;exact call_range_1 (DB k (by omega) (by omega) Q d (by simpa using q))
def dk (wi:TI)(g:TG)(t:TS):TS:=λD σ H=>wi σ H λJ H1=>∃W:Nat->Nat->St->Hp->Prop,(∃m,W 0 m σ H1)/\∀i m σ H,W i m σ H->
 (J.stop i H/\D.nx σ H)∨(J.go i H/\∃N:St->Hp->Prop,(∀a h,N a h->∃M,M<m/\W (i+1) M a h)/\∀x h,J.yld i H x h->g x σ h λb c=>t { D with nx:=N,ct:=N,bk:=D.nx } b c)
noncomputable def KD (fp:bY)(h:Heap):bZ:=fp.filterMap λb=>(h.get? b).map λo=>(b,o)
def WO {o:Obj}(H:b∈fp)(e:h.get? b=some o):(b,o)∈KD fp h:=List.mem_filterMap.mpr ⟨b,H,by rw[e];rfl⟩
def FO {p:Addr×Obj}(hp:p∈KD fp h):p.1∈fp/\h.get? p.1=some p.2:=by
 obtain⟨b,H,e⟩:=List.mem_filterMap.mp hp;cases q:h.get? b with
 |none=>rw[q]at e;cases e|some o=>
  rw[q]at e;have E:(b,o)=p:=aB e;subst E;exact⟨H,q⟩
def Inv.pinned {σ:St}{H:Hp}(I:Inv X pins σ H s)(hf:∀b∈fp,kY X pins H b)(a:∀b∈fp,∃o,s.heap.get? b=some o/\∀v,o.data≠.cell v):Inv X (pins++KD fp s.heap) σ H s:=
 I.pins_of λp hp=>(cE.mp hp).elim (λz=>I.pin p (aS _ z)) λz=>by
  obtain⟨h,e⟩:=FO z;obtain⟨f0,f1,f2,_⟩:=hf p.1 h;obtain⟨o,E,d⟩:=a p.1 h;rw[e]at E;cases E;exact⟨e,f0,f1,f2,d⟩
def Inv.unpinned {pl:bZ}{σ:St}{H:Hp}(I:Inv X (pins++pl) σ H s):Inv X pins σ H s:=I.pins_of λp hp=>I.pin p (aS _ (aX _ hp))
def dm {wi:TI}{g:TG}{Q:TS}(hp:PassesOwn (model X.prog X.w) X.A X.env X.xe)(U:X.calm=true)(hi:PI X tg iter wi)(hg:PG X tg g)(k:yY X body Q)
  (hs:∀x,foldedSetIterable iter X.env x=pure x:=by intro _;rfl):PS X (.For tg iter body [] pos) (dk wi g Q):=by
 intro pins s σ H D I h;refine wpAny_For (zZ (hi pins s σ H _ I h) λv s1 h1=>zZ h1 λitv s2 h2=>?_) hs;obtain⟨it,fp,P,J,H2,e,I2,T,gB,f2,W,⟨m0,w0⟩,turn⟩:=h2;subst e;have S:∀{H':Hp},(∀b∈fp,H' b=none)->∀b∈fp,kY X pins H' b:=λhn b k=>⟨hn b k,(f2 b k).2⟩;refine codeAny_forLoop_any (λn s'=>∃i j H',Inv X pins j H' s'/\P i s'.heap/\(∀b∈fp,H' b=none)/\W i n j H') ?_ m0 ⟨0,σ,H2,I2,gB,λb k=>(f2 b k).1,w0⟩
 rintro n s3 ⟨i,c,B,Y,gQ,z,w3⟩
 rcases turn i n c B w3 with ⟨stop,qn⟩|⟨go,N,hN,step⟩
 ·refine wpAny_passesOwn hp (zZ (T.done X rfl rfl rfl U i pins s3 c B X.xe Y (S z) gQ stop) λr s4 ⟨K,I4⟩=>?_)
  subst K;exact wpAny_execs_nil ⟨c,B,I4,qn⟩
 ·refine wpAny_passesOwn hp (zZ (T.item X rfl rfl rfl U i pins s3 c B X.xe Y (S z) gQ go) λr s4 ⟨u,K,h4⟩=>?_)
  subst K;refine wpAny_passesOwn hp (zZ h4 λ_ s5 ⟨x,Z,I5,r5,y5,t,L⟩=>?_);have M:=I5.pinned (S L) (T.obj _ _ t);refine wpAny_passesOwn hp (zZ (hg _ s5 c Z x u _ M r5 (step x Z y5)) λ_ s6 ⟨C,H6,I6,q6⟩=>?_);refine wpAny_passesOwn hp (zZ (k _ s6 C H6 _ I6 q6) λf E q=>?_);have again:∀{a:St}{p:Hp},Inv X (pins++KD fp s5.heap) a p E->N a p->∃m,m<n/\∃i j H',Inv X pins j H' E/\P i E.heap/\(∀b∈fp,H' b=none)/\W i m j H':=λ {a p} l y=>by
   obtain⟨m',hm,w7⟩:=hN a p y;refine⟨m',hm,i+1,a,p,l.unpinned,T.keep _ _ _ t λb k o e=>(l.pin (b,o) (aS _ (aS _ (WO k e)))).1,λb k=>?_,w7⟩;obtain⟨o,e,d⟩:=T.obj _ _ t b k;exact(l.pin (b,o) (aS _ (aS _ (WO k e)))).2.1
  cases f with
  |next=>obtain⟨a,p,l,y⟩:=q;exact again l y|cont=>obtain⟨a,p,l,y⟩:=q;exact again l y|brk=>obtain⟨a,p,l,q⟩:=q;exact⟨a,p,l.unpinned,q⟩|ret v=>obtain⟨x7,a,p,l,r7,q⟩:=q;exact⟨x7,a,p,l.unpinned,r7,q⟩
end
abbrev R2:=V->V->Hp->VK->Prop
def qY (X:Cx)(f:Value->Value->Sem Value)(r:R2):Prop:=
 ∀(pins:bZ)(s:Shared)(σ:St)(H:Hp)(x y:V)(v u:Value)(Q:VK),Inv X pins σ H s->RelV x v->RelV y u->r x y H Q->
  wpAny (model X.prog X.w) X.A (f v u) (EP X pins σ Q) X.xe s
def Xq (X:Cx)(f:Value->Sem Value)(r:V->Hp->VK->Prop):Prop:=
 ∀(pins:bZ)(s:Shared)(σ:St)(H:Hp)(x:V)(v:Value)(Q:VK),Inv X pins σ H s->RelV x v->r x H Q->
  wpAny (model X.prog X.w) X.A (f v) (EP X pins σ Q) X.xe s
def yt (X:Cx)(f:Value)(r:List V->Hp->VK->Prop):Prop:=
 ∀(pins:bZ)(s:Shared)(σ:St)(H:Hp)(xs:List V)(us:bX)(Q:VK),Inv X pins σ H s->Vals xs us->r xs H Q->
  wpAny (model X.prog X.w) X.A (call f us) (EP X pins σ Q) X.xe s
noncomputable def K6 (r:R2)(T t:TE):TE:=λσ H Q=>T σ H λx H1=>t σ H1 λy h=>r x y h Q
noncomputable def Ml (r:V->Hp->VK->Prop)(t:TE):TE:=λσ H Q=>t σ H λx H1=>r x H1 Q
noncomputable def rI (C:Int->Int->Prop)(g:Int->Int->V):R2:=λx y H Q=>∃i j,x=.int i/\y=.int j/\C i j/\Q (g i j) H
noncomputable def Zr (g:Int->Int->V):R2:=λx y H Q=>∃i j,x=.int i/\y=.int j/\Q (g i j) H
noncomputable def rU (g:Int->V):V->Hp->VK->Prop:=λx H Q=>∃i,x=.int i/\Q (g i) H
section
variable {X:Cx}{a b:Expr}{ta tb:TE}
def U8 (j:PE X a ta)(i:PE X b tb){σ:St}{H:Hp}{R:V->V->Hp->Prop}(I:Inv X pins σ H s)
  (h:ta σ H λx H1=>tb σ H1 λy c=>R x y c){f:Value->Value->Sem Value}
  (hf:∀v u s2 x y c,Inv X pins σ c s2->RelV x v->RelV y u->R x y c->wpAny (model X.prog X.w) X.A (f v u) Q X.xe s2):
  wpAny (model X.prog X.w) X.A (eval a X.env) (λv d=>wpAny (model X.prog X.w) X.A (eval b X.env) (λu S=>wpAny (model X.prog X.w) X.A (f v u) Q X.xe S) X.xe d) X.xe s:=by
 refine zZ (j pins s σ H _ I h) λv s1 ⟨x,H1,l,e,g⟩=>?_;refine zZ (i pins s1 σ H1 _ l g) λu s2 ⟨y,c,k,r,q⟩=>?_;exact hf v u s2 x y c k e r q
def dq {op:Operator}{r:R2}(o:qY X (binaryOp op) r)(f:PE X a ta)(e:PE X b tb):PE X (.BinOp a op b pos) (K6 r ta tb):=by
 intro pins s σ H Q I h;exact wpAny_BinOp (U8 f e I h λv u s2 x y g i d c q=>o pins s2 σ g x y v u Q i d c q)
def dr {op:UnaryOp}{r:V->Hp->VK->Prop}(o:Xq X (unaryOp op) r)(c:PE X a ta):PE X (.UnaryOp op a pos) (Ml r ta):=by
 intro pins s σ H Q I h;exact UnaryOp_ (zZ (c pins s σ H _ I h) λv s1 ⟨x,H1,i,b,q⟩=>o pins s1 σ H1 x v Q i b q)
def Xd {f:Value->Value->Sem Value}{C:Int->Int->Prop}{g:Int->Int->Int}
  (rule:∀(i j:Int)(t u:Tok)(s:Shared)(Q:cb)(E:cb),C i j->Q (.int (g i j) s.toks) { s with toks:=s.toks+1 }->wpAny (model X.prog X.w) X.A (f (.int i t) (.int j u)) Q E s):
  qY X f (rI C λi j=>.int (g i j)):=by
 intro pins s σ H x y v u Q I a r h;obtain⟨i,j,rfl,rfl,c,q⟩:=h;obtain⟨t,rfl⟩:=a;obtain⟨t',rfl⟩:=r;exact rule i j t t' s _ _ c ⟨.int (g i j),H,I.tok _,⟨_,rfl⟩,q⟩
def Ta {f:Value->Value->Sem Value}{g:Int->Int->Int}
  (rule:∀(i j:Int)(t u:Tok)(s:Shared)(Q:cb)(E:cb),Q (.int (g i j) s.toks) { s with toks:=s.toks+1 }->wpAny (model X.prog X.w) X.A (f (.int i t) (.int j u)) Q E s):
  qY X f (Zr λi j=>.int (g i j)):=by
 intro pins s σ H x y v u Q I a r h;obtain⟨i,j,rfl,rfl,q⟩:=h;obtain⟨t,rfl⟩:=a;obtain⟨t',rfl⟩:=r;exact rule i j t t' s _ _ ⟨.int (g i j),H,I.tok _,⟨_,rfl⟩,q⟩
def G4 {f:Value->Value->Sem Value}{g:Int->Int->Bool}
  (rule:∀(i j:Int)(t u:Tok)(s:Shared)(Q:cb)(E:cb),Q (.bool (g i j)) s->wpAny (model X.prog X.w) X.A (f (.int i t) (.int j u)) Q E s):
  qY X f (Zr λi j=>.bl (g i j)):=by
 intro pins s σ H x y v u Q I a r h;obtain⟨i,j,rfl,rfl,q⟩:=h;obtain⟨t,rfl⟩:=a;obtain⟨t',rfl⟩:=r;exact rule i j t t' s _ _ ⟨.bl (g i j),H,I,rfl,q⟩
def Me (i j:Int):Prop:=0<=j/\j<=1000000/\i.natAbs<2 ^ 64
def KU (i j:Int):Prop:=(-(2 ^ 64)<i/\i<2 ^ 64)∨(-(2 ^ 64)<j/\j<2 ^ 64)
def KU.ok {i j:Int}(h:KU i j):IntMulOk i j:=by
 rcases h with ⟨a,H⟩|⟨a,H⟩
 ·exact .of_left (intBits_le_64 a H)
 ·exact .of_right (intBits_le_64 a H)
def AI:qY X (binaryOp .Add) (Zr λi j=>.int (i+j)):=Ta λ_ _ _ _ _ _ _ q=>add_int q
def du:qY X (binaryOp .Sub) (Zr λi j=>.int (i-j)):=Ta λ_ _ _ _ _ _ _ q=>sub_int q
def dv:qY X (binaryOp .Mult) (rI KU λi j=>.int (i * j)):=Xd λ_ _ _ _ _ _ _ h q=>mul_int q h.ok
def dw:qY X (binaryOp .Mod) (rI (λ_ j=>0<j) λi j=>.int (i%j)):=Xd λi j _ _ _ _ _ h q=>by
 have H:(0:Int)<j:=h;exact mod_int' (by omega) (by rw[Int.fmod_eq_emod_of_nonneg i (by omega)];exact q)
def Az:qY X (binaryOp .Pow) (rI Me λi j=>.int (i ^ j.toNat)):=Xd λ_ _ _ _ _ _ _ h q=>pow_int_small h.1 h.2.1 h.2.2 q
def dy:qY X (binaryOp .BitXor) (Zr λi j=>.int (Builtin.bitXor i j)):=Ta λ_ _ _ _ _ _ _ q=>xor_int q
def dz {f:Value->Sem Value}{g:Int->Int}
  (rule:∀(i:Int)(t:Tok)(s:Shared)(Q:cb)(E:cb),Q (.int (g i) s.toks) { s with toks:=s.toks+1 }->wpAny (model X.prog X.w) X.A (f (.int i t)) Q E s):
  Xq X f (rU λi=>.int (g i)):=by
 intro pins s σ H x v Q I r h;obtain⟨i,rfl,q⟩:=h;obtain⟨t,rfl⟩:=r;exact rule i t s _ _ ⟨.int (g i),H,I.tok _,⟨_,rfl⟩,q⟩
def dA:Xq X (unaryOp .USub) (rU λi=>.int (-i)):=dz λ_ _ _ _ _ q=>neg_int q
variable {c:Expr}{tc:TE}
def dB {σ:St}{H:Hp}{Q:VK}{k K:Bool}(I:Inv X pins σ H s)(q:Q (.bl k) H)(e:k=K):EP X pins σ Q (.bool K) s:=by
 subst e;exact⟨.bl k,H,I,rfl,q⟩
def dC:qY X (compareOp .Lt) (Zr λi j=>.bl (decide (i<j))):=G4 λ_ _ _ _ _ _ _ q=>lt_int q
def dD:qY X (compareOp .LtE) (Zr λi j=>.bl (decide (i<=j))):=G4 λ_ _ _ _ _ _ _ q=>le_int q
def dE:qY X (compareOp .Gt) (Zr λi j=>.bl (decide (j<i))):=G4 λ_ _ _ _ _ _ _ q=>gt_int q
def dF:qY X (compareOp .GtE) (Zr λi j=>.bl (decide (j<=i))):=G4 λ_ _ _ _ _ _ _ q=>ge_int q
def AR:qY X (compareOp .Is) (λx y H Q=>y=.non/\Q (.bl (decide (x=.non))) H):=by
 intro pins s σ H x y v u Q I r a h;obtain⟨rfl,q⟩:=h;cases a;refine is_none_gen (dB I q ?_);cases x<;>first
  |(cases r;rfl)
  |(obtain⟨t,rfl⟩:=r;rfl)
def qY.or {f:Value->Value->Sem Value}{r c:R2}(h:qY X f r)(h':qY X f c):qY X f (λx y H Q=>r x y H Q∨c x y H Q):=by
 intro pins s σ H x y v u Q I b a q;rcases q with q|q
 ·exact h pins s σ H x y v u Q I b a q
 ·exact h' pins s σ H x y v u Q I b a q
def Bh {r:R2}(o:qY X (compareOp op) r)(f:PE X a ta)(e:PE X b tb)(hm:behindInMarks op b=false):PE X (.Compare a [op] [b] pos) (K6 r ta tb):=by
 intro pins s σ H Q I h;exact wpAny_Compare1 (U8 f e I h λv u s2 x y g i d c q=>o pins s2 σ g x y v u Q i d c q) hm
noncomputable def NK (t:TE):TT:=λσ H Q=>t σ H λx h=>∃k,x=.bl k/\Q k h
def CT {r:R2}(o:qY X (compareOp op) r)(n:PE X a ta)(l:PE X b tb)(hm:behindInMarks op b=false):PT X (.Compare a [op] [b] pos) (NK (K6 r ta tb)):=by
 intro pins s σ H Q I h;refine wpAny_isTrue_Compare1 (zZ (n pins s σ H _ I h) λv s1 ⟨x,H1,w,g,j⟩=>zZ (l pins s1 σ H1 _ w j) λu s2 ⟨y,B,t,f,i⟩=>
  zZ (o pins s2 σ B x y v u _ t g f i) λc s3 ⟨z,A,p,d,k,e,q⟩=>?_) hm
 subst e;cases d;exact wpAny_truthy_bool ⟨A,p,q⟩
noncomputable def Uo (r b:R2)(a T t:TE):TE:=λσ H Q=>a σ H λx H1=>T σ H1 λy d=>r x y d λz h=>∃k,z=.bl k/\
 (if k=true then t σ h λw c=>b y w c Q else Q (.bl false) h)
def EA {o:CmpOp}{r i:R2}(D:qY X (compareOp op) r)(f:qY X (compareOp o) i)(K:PE X a ta)(J:PE X b tb)(E:PE X c tc)
  (hm:lastMarks [op,o] [b,c]=false:=by with_unfolding_all rfl):PE X (.Compare a [op,o] [b,c] pos) (Uo r i ta tb tc):=by
 intro pins s σ H Q I h;refine Compare_chain (zZ (K pins s σ H _ I h) λv s1 ⟨x,H1,N,t,C⟩=>chain_link (zZ (J pins s1 σ H1 _ N C) λu s2 ⟨y,S,M,g,B⟩=>
  zZ (D pins s2 σ S x y v u _ M t g B) λd s3 ⟨z,l,j,p,k,e,q⟩=>?_)) hm
 subst e;cases p;refine wpAny_truthy_bool ?_;cases k with
 |false=>exact ite_ff ⟨.bl false,l,j,rfl,q⟩|true=>exact ite_tt (chain_last (zZ (E pins s3 σ l _ j q) λw s4 ⟨Z,P,L,n,A⟩=>f pins s4 σ P y Z u w Q L g n A))
def EY {o:CmpOp}{r i:R2}(K:qY X (compareOp op) r)(f:qY X (compareOp o) i)(N:PE X a ta)(M:PE X b tb)(L:PE X c tc)
  (hm:lastMarks [op,o] [b,c]=false:=by with_unfolding_all rfl):PT X (.Compare a [op,o] [b,c] pos) (NK (Uo r i ta tb tc)):=by
 intro pins s σ H Q I h;refine isTrue_chain (zZ (N pins s σ H _ I h) λv s1 ⟨x,H1,I1,A,E⟩=>test_link (zZ (M pins s1 σ H1 _ I1 E) λu s2 ⟨y,H2,Y,g,D⟩=>
  zZ (K pins s2 σ H2 x y v u _ Y A g D) λd s3 ⟨z,l,j,t,k,e,q⟩=>?_)) hm
 subst e;cases t;refine wpAny_truthy_bool ?_;cases k with
 |false=>
  obtain⟨k',S,J⟩:=q;cases S;exact ite_ff ⟨l,j,J⟩
 |true=>
  refine ite_tt (test_last (zZ (L pins s3 σ l _ j q) λw s4 ⟨Z,H4,U,p,C⟩=>zZ (f pins s4 σ H4 y Z u w _ U g p C) λd' s5 ⟨z2,H5,T,n,k2,P,B⟩=>?_));subst P;cases n;exact wpAny_truthy_bool ⟨H5,T,B⟩
def YD:(sizeLine:Nat)<2 ^ 63:=by rw[sizeLine_eq];decide
def vals1 {x:V}(r:Vals [x] us):∃u,us=[u]/\RelV x u:=by
 cases r with
 |cons b a=>cases a;exact⟨_,rfl,b⟩
def vals2 {x y:V}(r:Vals [x,y] us):∃u w,us=[u,w]/\RelV x u/\RelV y w:=by
 cases r with
 |cons d c=>
  cases c with
  |cons b a=>cases a;exact⟨_,_,rfl,d,b⟩
def DY:yt X (.builtin "abs") (λxs H Q=>∃i,xs=[.int i]/\Q (.int (if i<0 then -i else i)) H):=by
 intro pins s σ H xs us Q I r h;obtain⟨i,rfl,q⟩:=h;obtain⟨u,rfl,t,rfl⟩:=vals1 r;exact call_abs_int λu tk=>⟨.int (if i<0 then -i else i),H,I.tok _,⟨_,rfl⟩,q⟩
def Fe (c:X.calm=true):yt X (.builtin "max") (λxs H Q=>∃i j,xs=[.int i,.int j]/\Q (.int (if j > i then j else i)) H):=by
 intro pins s σ H xs us Q I r h;obtain⟨i,j,rfl,q⟩:=h;obtain⟨u,w,rfl,⟨t,rfl⟩,⟨t',rfl⟩⟩:=vals2 r;refine max_two_ints (I.ok.hd c) λh' tk k=>⟨_,H,I.kept k,?_,q⟩
 by_cases a:j > i
 ·rw[ag a,ag a];exact⟨_,rfl⟩
 ·rw[aj a,aj a];exact⟨_,rfl⟩
def FX (c:X.calm=true):yt X (.builtin "min") (λxs H Q=>∃i j,xs=[.int i,.int j]/\Q (.int (if j<i then j else i)) H):=by
 intro pins s σ H xs us Q I r h;obtain⟨i,j,rfl,q⟩:=h;obtain⟨u,w,rfl,⟨t,rfl⟩,⟨t',rfl⟩⟩:=vals2 r;refine min_two_ints (I.ok.hd c) λh' tk k=>⟨_,H,I.kept k,?_,q⟩
 by_cases a:j<i
 ·rw[ag a,ag a];exact⟨_,rfl⟩
 ·rw[aj a,aj a];exact⟨_,rfl⟩
def F5:yt X (.type "int") (λxs H Q=>(∃i,xs=[.int i]/\Q (.int i) H)∨∃k,xs=[.bl k]/\Q (.int (if k then 1 else 0)) H):=by
 intro pins s σ H xs us Q I r h;rcases h with ⟨i,rfl,q⟩|⟨k,rfl,q⟩
 ·obtain⟨u,rfl,t,rfl⟩:=vals1 r
  exact call_int_int ⟨.int i,H,I,⟨_,rfl⟩,q⟩
 ·obtain⟨u,rfl,a⟩:=vals1 r
  cases a;exact call_int_bool ⟨.int (if k then 1 else 0),H,I.tok _,⟨_,rfl⟩,q⟩
end
structure U4 (h:Heap)(x dx C:Addr)(mA:cg):Prop where
 obj:h.get? x=some (instObj C dx)
 ns:h.Ns1 dx mA
 ne:dx≠x
def Er {D:Addr}{M:cg}(n:h.Ns1 D M):∃d,h.get? D=some d/\∀name,lookIn name d=some (M name):=by
 obtain⟨o,E,p,c,hd,k,_,hm⟩:=n;refine⟨o,c,λname=>?_⟩;have e:=hm name;unfold nsFind findBy at e;rw[<- Array.find?_toList]at e;unfold lookIn;rw[hd];dsimp only
 split
 ·rename_i y q
  rw[q]at e;exact congrArg some e
 ·rename_i q
  rw[q]at e;have a:E.toList.any (·.refKey)=false:=by
   rw[List.any_eq_false];intro y b;obtain⟨z,t,H⟩:=k y (Array.mem_toList_iff.mp b);simp[DictEntry.refKey,H]
  have A:¬E.toList.any (·.refKey)=true:=by rw[a];exact aA
  rw[aj A];exact congrArg some e
def U4.look {x d C:Addr}{M:cg}(I:U4 h x d C M):∃o,PySem.W.InstAt h x (instObj C d) C (some o)/\∀name,lookIn name o=some (M name):=
 let ⟨o,H,l⟩:=Er I.ns
 ⟨o,⟨I.obj,rfl,rfl,H⟩,l⟩
def Qs.some_of {v:V}{o:Option Value}(r:Qs (some v) o):∃u,o=some u/\RelV v u:=by
 cases o with
 |none=>exact(show False from r).elim|some u=>exact⟨u,rfl,r⟩
def Qs.none_of {o:Option Value}(r:Qs none o):o=none:=by
 cases o with
 |none=>rfl|some u=>exact(show False from r).elim
section
variable {H:Hp}{C dx:Addr}{fs:List (Str×V)}
def Am (hok:ye P w H h)(e:H a=some (.ins C dx fs)):∃M,U4 h a dx C M/\(∀f,Qs (fs.lookup f) (M f))/\PySem.Within M (fs.map (·.1))/\fs.length<=1000/\H dx=some (.own a):=by
 obtain⟨d,z,ne,ob,M,n,r,q⟩:=(show jh P w H h a (.ins C dx fs) from hok a _ e)
 exact⟨M,⟨ob,n,ne⟩,r,q,z,d⟩
end
structure wY (K:Frag)(C:Addr):Prop where
 pg:plainGet K C Str.empty=true
 hd:PySem.W.hasDictIn K C=true
 po:PySem.W.plainOver K C=true
 sa:PySem.W.findIn K (.ref C) "__setattr__"=some (some (.builtin "object.__setattr__"))
def wY.get {K:Frag}{C:Addr}(c:wY K C)(f:Str):plainGet K C f=true:=c.pg
section
variable {X:Cx}{σ:St}{H:Hp}{A:Around}{c:Value}{b:Bool}
inductive gq (K:Frag)(H:Hp):V->Value->Prop where
 |non:gq K H .non (.type "NoneType")
 |bl (x:Bool):gq K H (.bl x) (.type "bool")
 |int (i:Int):gq K H (.int i) (.type "int")
 |str (x:Str):gq K H (.str x) (.type "str")
 |flt (x:UInt64):gq K H (.flt x) (.type "float")
 |lst {a:Addr} {xs:List V} (e:H a=some (.lst xs)):gq K H (.ref a) (.type "list")
 |frz {a:Addr} {o:Obj} {xs:List V} (e:H a=some (.frz o (.lst xs))):gq K H (.ref a) (.type "list")
 |tup {a:Addr} {xs:List V} (e:H a=some (.tup xs)):gq K H (.ref a) (.type "tuple")
 |dK {a:Addr} {kvs:List (Key×V)} (e:H a=some (.dK kvs)):gq K H (.ref a) (.type "dict")
 |dT {a:Addr} {kvs:List (List Key×V)} (e:H a=some (.dT kvs)):gq K H (.ref a) (.type "dict")
 |ins {a C dx:Addr} {fs:List (Str×V)} (e:H a=some (.ins C dx fs)) (cl:wY K C) (ha:PySem.W.findIn K (.ref C) "__class__"=some (some (.builtin "object.__class__")))
   (hn:PySem.W.specialIn K (.builtin "object.__class__") "__get__"=some (some (.builtin "getset_descriptor.__get__"))) (htk:PySem.W.takesIn K (.builtin "object.__class__")=some true)
   (hm:PySem.W.mroIn K C (.type "object")=some true):gq K H (.ref a) (.ref C)
def Ph {x:V}{t:Value}(I:Inv X pins σ H s)(r:RelV x u)(ty:gq X.K H x t)(e:kitOne X.K t c=some b)(h:∀tk,Q (.bool b) { s with toks:=tk }):
  wpAny (model X.prog X.w) A (call (.builtin "isinstance") [u,c]) Q E s:=by
 cases ty with
 |non=>cases (show u=Value.none from r);exact bI kitx_none I.kIn True.intro e (λz=>nomatch z) h
 |bl y=>cases (show u=Value.bool y from r);exact bI kitx_bool I.kIn True.intro e (λz=>nomatch z) h
 |int i=>obtain⟨t,q⟩:=(show ∃t,u=Value.int i t from r);cases q;exact bI kitx_int I.kIn True.intro e (λz=>nomatch z) h
 |str y=>obtain⟨t,q⟩:=(show ∃t,u=Value.str y t from r);cases q;exact bI kitx_str I.kIn True.intro e (λz=>nomatch z) h
 |flt y=>obtain⟨t,q⟩:=(show ∃t,u=Value.float y t from r);cases q;exact bI kitx_float I.kIn True.intro e (λz=>nomatch z) h
 |@lst a xs ea=>
  cases (show u=Value.ref a from r)
  obtain⟨_,_,n,_,d⟩:=(show jh X.prog X.w H s.heap a (.lst xs) from I.hok a _ ea)
  exact bI kitx_list I.kIn ⟨_,d,rfl⟩ e (λz=>nomatch z) h
 |@frz a ob xs ea=>
  cases (show u=Value.ref a from r)
  obtain⟨_,_,_,n,_,d⟩:=(show jh X.prog X.w H s.heap a (.frz ob (.lst xs)) from I.hok a _ ea)
  exact bI kitx_list I.kIn ⟨_,d,rfl⟩ e (λz=>nomatch z) h
 |@tup a xs ea=>
  cases (show u=Value.ref a from r)
  obtain⟨_,_,_,p⟩:=(show jh X.prog X.w H s.heap a (.tup xs) from I.hok a _ ea)
  obtain⟨o,d,f,_⟩:=p;exact bI kitx_tuple I.kIn ⟨o,d,f.1⟩ e (λz=>nomatch z) h
 |@dK a kvs ea=>
  cases (show u=Value.ref a from r)
  obtain⟨_,_,vs,_,p⟩:=(show jh X.prog X.w H s.heap a (.dK kvs) from I.hok a _ ea)
  obtain⟨o,j,l,d,f,_⟩:=p;exact bI kitx_dict I.kIn ⟨o,d,f.1⟩ e (λz=>nomatch z) h
 |@dT a kvs ea=>
  cases (show u=Value.ref a from r)
  obtain⟨_,_,xs,_,o,j,l,d,f,_⟩:=(show jh X.prog X.w H s.heap a (.dT kvs) from I.hok a _ ea)
  exact bI kitx_dict I.kIn ⟨o,d,f.1⟩ e (λz=>nomatch z) h
 |@ins a C dx fs ea cl g hn k hm=>
  cases (show u=Value.ref a from r)
  obtain⟨M,O,_⟩:=Am I.hok ea;obtain⟨v,J,_⟩:=O.look;exact bI (PySem.W.kitx_own (cl.get _) cl.hd g hn k hm) I.kIn J e (λz=>nomatch z) h
end
structure jv (k:Nat)(A:Around):Prop where
 hd:A.handled=none
 dp:A.depth+3 * k+5<recursionLimit
 un:A.units+16 * k+200<cLine
def jv.mono {A:Around}(r:jv k A)(h:j<=k):jv j A:=⟨r.hd,by have:=r.dp;omega,by have:=r.un;omega⟩
theorem jv.deeper {A:Around}(r:jv (k+1) A)(env:Env):jv k (A.deeper env):=
 ⟨r.hd,by have:=r.dp;show A.depth+1+3 * k+5<_;omega,by have:=r.un;show A.units+3+16 * k+200<_;omega⟩
theorem jv.depth {A:Around}(r:jv k A):A.depth<recursionLimit:=by have:=r.dp;omega
theorem jv.units {A:Around}(r:jv k A):A.units+64<cLine:=by have:=r.un;omega
noncomputable def UY:TA:=λ_ H Q=>Q [] H
noncomputable def GH (t:TE)(tr:TA):TA:=λσ H Q=>t σ H λx H1=>tr σ H1 λxs h=>Q (x::xs) h
section
variable {X:Cx}{es:cc}{te:TE}{t:TA}
def yy:PA X [] UY:=λ_ _ _ _ H Q I h=>Calls.spliced_nil ⟨[],H,I,.nil,h⟩
def jG (f:PE X e te)(d:PA X es t)(c:starEach (e::es) X.env=(false,eval e X.env)::starEach es X.env:=by rfl):PA X (e::es) (GH te t):=by
 intro pos pins s σ H Q I h;rw[c];show wpAny _ _ (spliced ((false,eval e X.env)::backTo pos (starEach es X.env))) _ _ s;refine Calls.spliced_cons (zZ (f pins s σ H _ I h) λu s1 ⟨x,H1,g,a,b⟩=>?_);exact zZ (d pos pins s1 σ H1 _ g b) λus s2 ⟨xs,j,i,r,q⟩=>⟨x::xs,j,i,.cons a r,q⟩
def dG (t:TA):TE:=λσ H Q=>t σ H λxs H1=>xs.length<=sizeLine/\∀p,H1 p=none->Q (.ref p) (upd H1 p (.tup xs))
def dH (t:TA):TE:=λσ H Q=>t σ H λxs H1=>xs.length<=sizeLine/\∀p,H1 p=none->Q (.ref p) (upd H1 p (.lst xs))
def Ni {x1}(h:PA X es t):PE X (.Tuple es x1 pos) (dG t):=by
 intro pins s σ H Q I a;refine wpAny_Tuple_spliced (zZ (h pos pins s σ H _ I a) λus s1 ⟨xs,H1,i,r,z,q⟩=>⟨by rw[<- r.length];exact z,?_⟩)
 have hf:H1 s1.heap.objs.size=none:=i.hok.fresh (av _);refine⟨.ref s1.heap.objs.size,upd H1 s1.heap.objs.size (.tup xs),i.laid (t':=s1.toks) (λb u e=>ae _ e) (av _) ?_,rfl,q _ hf⟩;exact⟨z,us,r,⟨_,au _ rfl,⟨rfl,rfl⟩,_,rfl⟩⟩
def dI (h:PA X es t):PE X (.List es pos) (dH t):=by
 intro pins s σ H Q I a;refine wpAny_List_spliced (zZ (h pos pins s σ H _ I a) λus s1 ⟨xs,H1,i,r,z,q⟩=>⟨by rw[<- r.length];exact z,?_⟩)
 have hf:H1 s1.heap.objs.size=none:=i.hok.fresh (av _);refine⟨.ref s1.heap.objs.size,upd H1 s1.heap.objs.size (.lst xs),i.laid (t':=s1.toks) (λb u e=>ae _ e) (av _) ?_,rfl,q _ hf⟩;exact⟨z,us,0,r,au _ rfl⟩
end
abbrev Sp:=List V->Hp->VK->XK->Prop
abbrev gT:=List Env->Hp->Shared->XK->Value->Shared->Prop
structure YU (P:Program)(w:World)(K:Frag)(mg:cg)(base:Heap)(A:Around)(outer:ck)(s:Shared)(H:Hp):Prop where
 frames:A.frames=some outer
 mod:Mod K mg base
 bs:∀b o,base.get? b=some o->s.heap.get? b=some o/\H b=none
 bsz:base.objs.size<=s.heap.objs.size
 funs:s.heap.FunFrames base outer
 frf:∀b∈qK outer,H b=none
 hok:ye P w H s.heap
 bare:AllBare s.gens
inductive CE (outer:ck)(P:Program)(w:World)(H:Hp)(s:Shared)(Q:VK)(u:Value)(s':Shared):Prop
 |mk (v:V) (H':Hp) (os:s'.os=s.os) (b:AllBare s'.gens) (un:Un (qK outer) [] H H' s.heap s'.heap) (hk:ye P w H' s'.heap) (r:RelV v u) (q:Q v H')
def CR (C:gT)(outer:ck)(P:Program)(w:World)(H:Hp)(s:Shared)(Q:VK)(E:XK)(r:Result)(s':Shared):Prop:=
 match r with
 |.ok (.ret u)=>CE outer P w H s Q u s'|.ok _=>False|.error e=>C outer H s E e s'
structure km (P:Program)(w:World)(K:Frag)(mg:cg)(base:Heap)(CX:gT)(k:Nat)(f:Addr)(fd:FuncData)(ps:b9)(sp:Sp):Prop where
 len:∀vs H Q E,sp vs H Q E->vs.length=ps.length
 run:∀(A:Around)(outer:ck)(s:Shared)(H:Hp)(args:Args)(us:bX)(vs:List V)(Q:VK)(E:XK),jv k A->YU P w K mg base A outer s H->BindsTo s fd args (ps.zip us)->Vals vs us->sp vs H Q E->
  codeAny (model P w) A (.call (.ref f) args) (CR CX outer P w H s Q E) s
theorem km.mono {K:Frag}{C:gT}{sp:Sp}(F:km P w K mg base C j f fd ps sp)(h:j<=k):
  km P w K mg base C k f fd ps sp:=⟨F.len,λA outer s H args us vs Q E r=>F.run A outer s H args us vs Q E (r.mono h)⟩
def km.imp {K:Frag}{C:gT}{sp S:Sp}(F:km P w K mg base C k f fd ps sp)
  (h:∀vs H Q E,S vs H Q E->sp vs H Q E):km P w K mg base C k f fd ps S:=
 ⟨λvs H Q E q=>F.len vs H Q E (h _ _ _ _ q),λA outer s H args us vs Q E r he b v a=>F.run A outer s H args us vs Q E r he b v (h _ _ _ _ a)⟩
section
variable {X:Cx}{σ:St}{H:Hp}
def Inv.env0 (I:Inv X pins σ H s):YU X.prog X.w X.K X.mg X.base X.A X.stack s H:=
 ⟨I.ok.frames,I.ok.mod,I.bs,bg I.ok.bsz I.sz,I.stack,I.stkFree,I.hok,I.bare⟩
def Inv.after {Q:VK}(I:Inv X pins σ H s)(h:CE X.stack X.prog X.w H s Q u s'):EP X pins σ Q u s':=by
 obtain⟨v,c,os,bare,un,hok,r,q⟩:=h;obtain⟨a,g,d,t,o⟩:=s';obtain rfl:o=s.os:=os;exact⟨v,c,I.call (h':=a) (g':=g) (d':=d) (t':=t) (ch:=[]) un hok bare (λb z=>absurd z (by simp)),r,q⟩
end
noncomputable def dJ (sp:Sp)(d:List V)(E:XK)(t:TA):TE:=λσ H Q=>t σ H λvs H1=>sp (vs++d) H1 Q E
def Binds (K:Frag)(fd:FuncData)(ps:b9)(ds:bX):Prop:=
 ∀(s:Shared)(us:bX),K.In s.heap->(us++ds).length=ps.length->BindsTo s fd ⟨us,[]⟩ (ps.zip (us++ds))
def Binds.all {K:Frag}(h:∀us:bX,us.length=ps.length->bindArgs fd ⟨us,[]⟩=pure (ps.zip us)):Binds K fd ps []:=λs us _ H=>by
 rw[bx]at H ⊢;exact .of_eq (h us H)
def Passes (C:gT)(X:Cx)(E:XK):Prop:=∀(pins:bZ)(σ:St)(H:Hp)(s:Shared)(e:Value)(s':Shared),Inv X pins σ H s->C X.stack H s E e s'->X.xe e s'
section
variable {X:Cx}{CX:gT}{sp:Sp}{dvs:List V}{ds:bX}{E:XK}{es:cc}{t:TA}
def dM {σ:St}{H:Hp}{Q:VK}{vs:List V}(F:km X.prog X.w X.K X.mg X.base CX k f fd ps sp)(b:jv k X.A)(c:Binds X.K fd ps ds)(hd:Vals dvs ds)(x:Passes CX X E)
  (I:Inv X pins σ H s)(r:Vals vs us)(h:sp (vs++dvs) H Q E):wpAny (model X.prog X.w) X.A (call (.ref f) us) (EP X pins σ Q) X.xe s:=by
 have a:Vals (vs++dvs) (us++ds):=r.append hd;have l:(us++ds).length=ps.length:=by rw[<- a.length];exact F.len _ _ _ _ h
 refine wpAny_call (codeAny_mono (F.run X.A X.stack s H ⟨us,[]⟩ (us++ds) (vs++dvs) Q E b I.env0 (c s us I.kIn l) a h) λr s' q=>?_);cases r with
 |error e=>exact x pins σ H s e s' I q|ok d=>
  cases d with
  |ret u=>exact I.after q|next=>exact False.elim q|brk=>exact False.elim q|cont=>exact False.elim q
def OU (F:km X.prog X.w X.K X.mg X.base CX k f fd ps sp)(c:jv k X.A)(g:Gl X x)(hm:X.mg x=some (.ref f))(d:keepIn X.K (.ref f)=true)(j:Binds X.K fd ps ds)(hd:Vals dvs ds)(a:Passes CX X E)
  (n:PA X (e::es) t)(b:(x==("__debug__":Str))=false:=by decide)(he:starEach (e::es) X.env=(false,eval e X.env)::starEach es X.env:=by rfl)(l:(backTo pos (starEach es X.env)).any (·.1)=false:=by rfl):
  PE X (.Call (.Name x p) (e::es) [] pos) (dJ sp dvs E t):=by
 intro pins s σ H Q I h;refine wpAny_Call_Name_kw (Ku I g hm ?_ b);refine callWith_K (h₀:=X.base) I.ok.mod.kin d (zZ (n pos pins s σ H _ I h) λus s1 ⟨vs,H1,i,r,q⟩=>⟨i.kIn,?_⟩) he l;exact dM F c j hd a i r q
end
structure jg (N P:b9)(sc:Scope):Prop where
 kind:sc.kind=.function
 co:sc.isCoroutine=false
 gen:sc.isGenerator=false
 nd:N.Nodup
 pre:N.take P.length=P
 par:∀x∈P,sc.names.lookup x=some .local∨sc.names.lookup x=some .cell
 nofree:∀y∈sc.names,y.2≠.free
theorem R9 {kindOf:Str->Option NameKind}:∀{binds:List (Str×Value)}{m:cg},(∀v,(x,v)∉binds)->bindL kindOf binds m x=m x
 |[],_,_=>rfl|(n,v)::r,m,h=>by
  unfold bindL;rw[R9 λw hw=>h w (aq _ hw)]
  split
  ·have:x≠n:=by rintro rfl;exact h v ay
   simp[this]
  ·rfl
theorem RY {kindOf:Str->Option NameKind}:∀{binds:List (Str×Value)}{m:cg},(∀v,(x,v)∉binds)->bindC kindOf binds m x=m x
 |[],_,_=>rfl|(n,v)::r,m,h=>by
  unfold bindC;rw[RY λw hw=>h w (aq _ hw)]
  split
  ·rfl
  ·have:x≠n:=by rintro rfl;exact h v ay
   simp[this]
theorem R5 {kindOf:Str->Option NameKind}{v:Value}:∀{P:b9}{vs:bX}{i:Nat}{m:cg},P.Nodup->P[i]? =some x->vs[i]? =some v->kindOf x=some .local->
  bindL kindOf (P.zip vs) m x=some v
 |[],_,_,_,_,h,_,_=>by simp at h|_::_,[],_,_,_,_,h,_=>by simp at h|p::P,w::vs,0,m,nd,h1,H,k=>by
  simp at h1 H;subst h1;subst H;show bindL kindOf ((p,w)::P.zip vs) m p=_;unfold bindL;rw[R9 λv a=>(List.nodup_cons.mp nd).1 (of_mem_zip a).1,ag k];simp
 |p::P,w::vs,i+1,m,nd,h1,H,k=>by
  show bindL kindOf ((p,w)::P.zip vs) m x=_;unfold bindL;exact R5 (i:=i) (List.nodup_cons.mp nd).2 (by simpa using h1) (by simpa using H) k
theorem Pg {kindOf:Str->Option NameKind}{v:Value}:∀{P:b9}{vs:bX}{i:Nat}{m:cg},P.Nodup->P[i]? =some x->vs[i]? =some v->kindOf x≠some .local->
  bindC kindOf (P.zip vs) m x=some v
 |[],_,_,_,_,h,_,_=>by simp at h|_::_,[],_,_,_,_,h,_=>by simp at h|p::P,w::vs,0,m,nd,h1,H,k=>by
  simp at h1 H;subst h1;subst H;show bindC kindOf ((p,w)::P.zip vs) m p=_;unfold bindC;rw[RY λv a=>(List.nodup_cons.mp nd).1 (of_mem_zip a).1,aj k];simp
 |p::P,w::vs,i+1,m,nd,h1,H,k=>by
  show bindC kindOf ((p,w)::P.zip vs) m x=_;unfold bindC;exact Pg (i:=i) (List.nodup_cons.mp nd).2 (by simpa using h1) (by simpa using H) k
noncomputable def start (N:b9)(vs:List V):St:=vs.map some++List.replicate (N.length-vs.length) none
noncomputable def gn (C:gT)(P:Program)(w:World)(K:Frag)(mg:cg)(base:Heap)(N:b9)(qual:Str)(scope:Scope)(f:Addr)(cd:Value)(A:Around)(outer:ck)(s:Shared)(H:Hp)(E:XK):Cx where
 prog:=P
 w:=w
 K:=K
 mg:=mg
 base:=base
 A:=A.deeper (envOfC qual scope s.heap.objs.size f cd)
 N:=N
 s0:=s
 H0:=H
 env:=envOfC qual scope s.heap.objs.size f cd
 outer:=outer
 stack:=envOfC qual scope s.heap.objs.size f cd::outer
 ex:=[]
 calm:=true
 fn:=λ_=>true
 pn:=[]
 xe:=λe s'=>wpAny (model P w) (A.deeper (envOfC qual scope s.heap.objs.size f cd)) (leaving (envOfC qual scope s.heap.objs.size f cd) e) (λ_ S=>C outer H s E e S) (λa S=>C outer H s E a S) s'
def PK (h:sc.names.lookup x=some .cell):∃c,(cellsFrom n sc.names []).lookup x=some c:=by
 have q:=cellsFrom_some sc.names n [] (.inl h);exact Option.isSome_iff_exists.mp q
def H9 {X:gT}{K:Frag}{cd:Value}{A:Around}{outer:ck}{s1:Shared}{H:Hp}{E:XK}{vs:List V}
  (S:jg N ps scope)(hd:A.handled=none)(g:YU P w K mg base A outer s H)(M:vs.length=ps.length)(r:Vals vs us)
  (x:InCallC s s.heap.objs.size (bindL (envOfC qual scope s.heap.objs.size f cd).kindOf (ps.zip us) λ_=>none) (cellsFrom (s.heap.objs.size+1) scope.names []) (bindC (envOfC qual scope s.heap.objs.size f cd).kindOf (ps.zip us) λ_=>none) s1):
  Inv (gn X P w K mg base N qual scope f cd A outer s H E) [] (start N vs) H s1:=by
 have J:ps.length<=N.length:=by have:=congrArg List.length S.pre;rw[br]at this;omega
 obtain⟨B,tk,rfl,D⟩:=x.done;have j:∀b:Addr,b∉(gn X P w K mg base N qual scope f cd A outer s H E).ex:=λb z=>absurd (show b∈([]:bY) from z) (by simp)
 refine⟨⟨g.mod,S.kind,rfl,rfl,av _,λy z c B d=>?_,λy l=>?_,λy c _ h=>?_,λ_=>hd,Around.frames_deeper g.frames,.inr ⟨rfl,rfl⟩,λb z=>absurd z (j b),g.bs,g.bsz,λb _ _=>j b,λb z=>absurd z (j b),g.funs,g.frf⟩,
  rfl,g.bare,Un.kept D,⟨_,x.toInCall.ns,λi y v B d Q=>?_⟩,λy c h=>⟨_,x.cell y c h⟩,g.hok.fresh (av _),λy c h=>?_,λp hp=>absurd (show p∈([]:bZ) from hp) (by simp),g.hok.kept D,?_⟩
 ·exact name_of_addr x.apart (PySem.mem_of_lookup B) (PySem.mem_of_lookup d)
 ·have l:scope.names.lookup y=some .cell∨scope.names.lookup y=some .free:=l
  rcases l with l|l
  ·exact PK l
  ·exact absurd rfl (S.nofree _ (PySem.mem_of_lookup l))
 ·exact bz (x.above y c (PySem.mem_of_lookup h))
 ·have t:i<vs.length:=by
   unfold start at d
   by_cases t:i<vs.length
   ·exact t
   ·rw[aw (by simpa using t)]at d
    rw[bC]at d
    split at d<;>cases d
  have L:vs[i]? =some v:=by
   unfold start at d;rw[ai (by simpa using t),ax]at d
   cases e:vs[i]? with
   |none=>rw[e]at d;cases d|some a=>rw[e]at d;cases d;rfl
  obtain⟨u,C,I⟩:=r.get L;have hp:ps[i]? =some y:=by
   rw[<- S.pre,List.getElem?_take_of_lt (by omega)];exact B
  have o:ps.Nodup:=by rw[<- S.pre];exact S.nd.sublist (List.take_sublist _ _)
  refine⟨u,I,?_⟩;rcases S.par y (bL hp) with k|k
  ·exact .inl ⟨k,R5 o hp C k⟩
  ·obtain⟨c,e⟩:=PK (n:=s.heap.objs.size+1) k
   refine .inr ⟨.inl k,c,e,?_⟩;have q:=x.cell y c e;rw[Pg o hp C (by show scope.names.lookup y≠_;rw[k];decide)]at q
   exact q
 ·exact g.hok.fresh (bz (x.above y c (PySem.mem_of_lookup h)))
 ·unfold start
  show _=N.length;rw[ak,ah,bh];omega
def Uz {C:gT}{K:Frag}{name:Str}{params:Arguments}{D kV doc pm c ct M:Value}{an L:cq}
  {sp:Sp}(lk:K.lookup f=some ⟨M,L,.func (fnOf name qual params body scope D kV doc pm an c ct),osl⟩)(B:codeIn K c qual=true)(S:jg N ps scope)
  (len:∀vs H Q E,sp vs H Q E->vs.length=ps.length)
  (g:∀(A:Around)(outer:ck)(s:Shared)(H:Hp)(vs:List V)(Q:VK)(E:XK),jv k (A.deeper (envOfC qual scope s.heap.objs.size f c))->sp vs H Q E->
   ∃t,yY (gn C P w K mg base N qual scope f c A outer s H E) body t/\t { nx:=λ_ h=>Q .non h,rt:=Q } (start N vs) H):
  km P w K mg base C (k+1) f (fnOf name qual params body scope D kV doc pm an c ct) ps sp:=by
 refine⟨len,λA outer s H args us vs Q E z j hb r p=>?_⟩;have Z:=len _ _ _ _ p;have X:K.In s.heap:=j.mod.kin.keeps λb o e=>(j.bs b o e).1;have lim:s.heap.NoLimit:=j.mod.nolimit.keeps λb o e=>(j.bs b o e).1;have d:∀y∈ps.zip us,scope.names.lookup y.1=some .local∨(scope.names.lookup y.1=some .cell/\((cellsFrom (s.heap.objs.size+1) scope.names []).lookup y.1).isSome=true):=λ⟨n,v⟩ T=>by
  rcases S.par n (of_mem_zip T).1 with q|q
  ·exact .inl q
  ·exact .inr ⟨q,cellsFrom_some _ _ _ (.inl q)⟩
 refine codeAny_call_function z.depth (X _ _ lk) rfl S.co S.gen rfl (PySem.W.codeRec_of X B) (hb _ _ _ _ ?_);refine wpAny_newFunctionEnv_cells S.kind d λenv he s1 x=>?_;subst he;refine⟨lim.keeps x.toInCall.keep,codeAny_func ?_⟩;obtain⟨t,U,Y⟩:=g A outer s H vs Q E (z.deeper _) p;have I:Inv (gn C P w K mg base N qual scope f c A outer s H E) [] (start N vs) H s1:=H9 S z.hd j Z r x;refine wpAny_mono (U [] s1 (start N vs) H _ I Y) (λfl s' i=>?_) λe s' i=>i;have fin:∀{a:St}{h:Hp}{v:V}{u:Value},Inv (gn C P w K mg base N qual scope f c A outer s H E) [] a h s'->RelV v u->Q v h->CE outer P w H s Q u s':=
  λ {a h v u} J l q=>⟨v,h,J.os,J.bare,J.base,J.hok,l,q⟩
 cases fl with
 |ret u=>
  obtain⟨v,a,h,J,l,q⟩:=i;exact fin J l q
 |next=>
  obtain⟨a,h,J,q⟩:=i;exact fin (v:=V.non) (u:=Value.none) J rfl q
 |brk=>
  obtain⟨_,_,_,q⟩:=i;exact False.elim q
 |cont=>
  obtain⟨_,_,_,q⟩:=i;exact False.elim q
section
variable {X:Cx}{es:cc}{t:TA}{id T:String}{r:List V->Hp->VK->Prop}
noncomputable def Xl (r:List V->Hp->VK->Prop)(t:TA):TE:=λσ H Q=>t σ H λvs H1=>r vs H1 Q
def QO (c:yt X (.builtin id) r)(g:Gl X x)(hm:X.mg x=none)(v:bootBuiltins x=some (.builtin id))(d:PA X (e::es) t)(hn:x ≠ "__name__":=by decide)(b:(x==("__debug__":Str))=false:=by decide)
  (he:starEach (e::es) X.env=(false,eval e X.env)::starEach es X.env:=by rfl)(l:(backTo pos (starEach es X.env)).any (·.1)=false:=by rfl):PE X (.Call (.Name x p) (e::es) [] pos) (Xl r t):=by
 intro pins s σ H Q I h;refine wpAny_Call_Name_kw (QZ I g hm v ?_ hn b);exact PyProof.Rows.callWith_builtin1 (zZ (d pos pins s σ H _ I h) λus s1 ⟨vs,H1,i,a,q⟩=>c pins s1 σ H1 vs us Q i a q) he l
def Yn (c:yt X (.type T) r)(g:Gl X x)(hm:X.mg x=none)(v:bootBuiltins x=some (.type T))(d:PA X (e::es) t)(hn:x ≠ "__name__":=by decide)(b:(x==("__debug__":Str))=false:=by decide)
  (he:starEach (e::es) X.env=(false,eval e X.env)::starEach es X.env:=by rfl)(l:(backTo pos (starEach es X.env)).any (·.1)=false:=by rfl):PE X (.Call (.Name x p) (e::es) [] pos) (Xl r t):=by
 intro pins s σ H Q I h;refine wpAny_Call_Name_kw (QZ I g hm v ?_ hn b);exact PyProof.Rows.callWith_type1 (zZ (d pos pins s σ H _ I h) λus s1 ⟨vs,H1,i,a,q⟩=>c pins s1 σ H1 vs us Q i a q) he l
end
end L2
variable {X:L2.Cx}{H:L2.Hp}{xs:List (List Int×PySem.Addr×L2.V)}{vs ys:List L2.V}{r:List L2.V->L2.Hp->L2.VK->Prop}{σ:L2.St}{v:L2.V}
namespace HT
open PySem PyProof.Rows
section
open PySem.SeqAt
open PySem.AutoSeq1 (wpAny_loadPart')
open PySem.MeetsSeq PySem.MeetsSeq2 PySem.MeetsSeq3
end
section
variable {prog:Program}{A:Around}
def Ck {t:Addr}{vs ws:bX}(a:IsTup s.heap t vs.toArray)(f:IsTup s.heap b ws.toArray)(v:vs≠[])
  (i:ws=[]->Q (.ref t) s)(g:ws≠[]->Q (.ref s.heap.objs.size) { s with heap:=s.heap.push { cls:=.type "tuple",data:=.seq (vs++ws).toArray } })
  (hsz:vs.length+ws.length<=sizeLine):wpAny (model prog w) A (binaryOp .Add (.ref t) (.ref b)) Q E s:=by
 obtain⟨⟨cls,dd,data,l⟩,o,c,n,hd⟩:=id a;obtain⟨⟨C,d,data2,S⟩,h,H,N,hd2⟩:=id f;simp only at c hd H hd2;subst c hd H hd2;have e:vs.toArray++ws.toArray=(vs++ws).toArray:=by simp
 by_cases hw:ws=[]
 ·exact concat_meets ⟨_,o,rfl⟩ ⟨_,h,rfl⟩ noFill_tuple_add seq_tuple_add slot_tuple_add entry_tuple_add (args_tuple_add_2 _ _)
   (tuple_addW1 t b vs.toArray ws.toArray n N dd d l S (by simpa using v) (by simp[hw])) ⟨o,h,i hw⟩
 ·refine concat_meets ⟨_,o,rfl⟩ ⟨_,h,rfl⟩ noFill_tuple_add seq_tuple_add slot_tuple_add entry_tuple_add (args_tuple_add_2 _ _)
   (tuple_addW2 t b vs.toArray ws.toArray n N dd d l S (by simpa using v) (by simpa using hw) (by rw[aC,aC];exact hsz)) ⟨o,h,?_⟩
  rw[e];exact g hw
noncomputable def qm (n d:Nat):Option Int->Nat
 |none=>d|some v=>if v<0 then(v+(n:Int)).toNat else min v.toNat n
def dN (n d:Nat)(hd:d<=n)(o:cf):qm n d o<=n:=by
 cases o with
 |none=>exact hd|some v=>
  show(if v<0 then(v+(n:Int)).toNat else min v.toNat n)<=n
  by_cases h:v<0
  ·rw[ag h];omega
  ·rw[aj h];exact Nat.min_le_right _ _
def O0 (v:Int)(n d:Nat):(if v<0 then max (v+(n:Int)) 0 else min v (n:Int))=((qm n d (some v):Nat):Int):=by
 show(if v<0 then max (v+(n:Int)) 0 else min v (n:Int))=(((if v<0 then(v+(n:Int)).toNat else min v.toNat n):Nat):Int)
 by_cases h:v<0
 ·simp only[ag h];omega
 ·simp only[aj h];omega
def Ht (lo h:cf)(n:Nat):Builtin.Slice.sliceAdjust lo h 1 (n:Int)=(((qm n 0 lo:Nat):Int),((qm n n h:Nat):Int)):=by
 have H:¬((1:Int)<0):=by omega
 unfold Builtin.Slice.sliceAdjust;simp only[H,if_false];refine Prod.ext ?_ ?_
 ·cases lo with
  |none=>rfl|some v=>exact O0 v n 0
 ·cases h with
  |none=>rfl|some v=>exact O0 v n n
def HF (i j:Nat):Builtin.Slice.slicePlaces (i:Int) (j:Int) 1=j-i:=by
 unfold Builtin.Slice.slicePlaces;have h:(1:Int) > 0:=by omega
 simp only[h,if_true,Int.ediv_one]
 split<;>omega
def Kc {v:Value}{o:cf}{Q:Option Int->Shared->Prop}(p:IsPart v o)(h:Q o s):wpAny (model prog w) A (Builtin.Slice.slicePartIndex v) Q E s:=by
 cases p with
 |none=>exact slicePart_none h|int i t=>exact slicePart_int h
def TV {S:Addr}{l v:Value}{lo i:cf}{Q:Int×Int×Nat->Shared->Prop}(b:s.heap.IsSliceOf S l v .none)(pl:IsPart l lo)(pu:IsPart v i)
  (h:Q (((qm n 0 lo:Nat):Int),1,qm n n i-qm n 0 lo) s):wpAny (model prog w) A (Builtin.Slice.sliceApplied (.ref S) (pure (n:Int))) Q E s:=by
 obtain⟨os,H,c,a⟩:=id b;unfold Builtin.Slice.sliceApplied Builtin.Slice.sliceFields;refine cw (cw (wpAny_field H a (x:=l) rfl (cw (wpAny_field H a (x:=v) rfl (cw (wpAny_field H a (x:=.none) rfl (cx ?_)))))));refine cw (slicePart_none ?_);show wpAny _ _ (if ((1:Int)==0)=true then _ else _) _ _ s;rw[aj (by decide)]
 refine cw (Kc pl (cw (Kc pu (cw (cx ?_)))));show wpAny _ _ (match Builtin.Slice.sliceAdjust lo i 1 (n:Int) with|(lo,i)=>pure (lo,(1:Int),Builtin.Slice.slicePlaces lo i 1)) _ _ s
 rw[Ht lo i n];show wpAny _ _ (pure (((qm n 0 lo:Nat):Int),(1:Int),Builtin.Slice.slicePlaces ((qm n 0 lo:Nat):Int) ((qm n n i:Nat):Int) 1)) _ _ s;rw[HF];exact cx h
def E7 (xs:Array Value)(i k:Nat):((List.range k).filterMap λ(m:Nat)=>xs[((i:Int)+(m:Int) * 1).toNat]?).toArray=((xs.toList.drop i).take k).toArray:=by
 have e:(λ(m:Nat)=>xs[((i:Int)+(m:Int) * 1).toNat]?)=λm=>xs[i+m]?:=by
  funext m
  have:((i:Int)+(m:Int) * 1).toNat=i+m:=by omega
  rw[this]
 rw[e]
 have:=pick_run xs i k
 rw[List.filterMap_map]at this;have E:((λx=>xs[x]?) ∘ λx=>i+x)=λm=>xs[i+m]?:=rfl;rw[E]at this;rw[this]
def Lb {t S:Addr}{l v:Value}{lo i:cf}(a:IsTup s.heap t items)(e:s.heap.IsSliceOf S l v .none)(pl:IsPart l lo)(pu:IsPart v i)
  (hw:¬(qm items.size 0 lo=0/\qm items.size items.size i=items.size))
  (h:Q (.ref s.heap.objs.size) { s with heap:=s.heap.push { cls:=.type "tuple",data:=.seq ((items.toList.drop (qm items.size 0 lo)).take (qm items.size items.size i-qm items.size 0 lo)).toArray } })
  (hsz:items.size<=sizeLine):wpAny (model prog w) A (getItem (.ref t) (.ref S)) Q E s:=by
 have H:sizeOk (.seq ((items.toList.drop (qm items.size 0 lo)).take (qm items.size items.size i-qm items.size 0 lo)).toArray):=by
  show((items.toList.drop (qm items.size 0 lo)).take (qm items.size items.size i-qm items.size 0 lo)).toArray.size<=sizeLine;rw[aC,br,length_drop,aT];omega
 have k:qm items.size items.size i<=items.size:=dN _ _ (av _) i;obtain⟨os,b,c,f⟩:=id e;have d:s.TypeIs (.ref S) "slice":=⟨os,b,c⟩;unfold getItem
 try with_reducible refine wpAny_holding ?_
 first|refine cw (cx ?_)|skip
 refine cw (wpAny_sequenceKey a.typeIs (by decide) ?_)
 refine cw (wpAny_callSpecial?_slot (name:=Str.ofString "__getitem__") a.typeIs PyProof.Rows.slot_tuple_getitem
  (wpAny_call_entry PyProof.Rows.slot_tuple_getitem a.typeIs entry_tuple_getitem ?_ (args_tuple_getitem _ _)))
 show wpAny _ _ (Builtin.Tuple.tupleItemsOf (.ref t) >>= _) _ _ s;refine cw (tupleItemsOf_ a ?_);refine cw (wpAny_typeOf d ?_);rw[ag (by decide)]
 refine cw (TV e pl pu ?_);have o:¬((((qm items.size 0 lo:Nat):Int)==0&&(1:Int)==1&&(qm items.size items.size i-qm items.size 0 lo)==items.size)=true):=by
  intro q;rw[ar,ar]at q;have j:((qm items.size 0 lo:Nat):Int)=0:=eq_of_beq q.1.1;have g:qm items.size items.size i-qm items.size 0 lo=items.size:=eq_of_beq q.2;exact hw ⟨by omega,by omega⟩
 show wpAny _ _ (if (((qm items.size 0 lo:Nat):Int)==0&&(1:Int)==1&&(qm items.size items.size i-qm items.size 0 lo)==items.size)=true then _ else _) _ _ s;rw[aj o,E7]
 first
  |exact cw (m:=Builtin.Tuple.tupleExact _) (wpAny_newObj_type (cx ⟨_,rfl,cx h⟩) H)
  |exact cw (m:=Builtin.Tuple.tupleExact _) (wpAny_newObj_type (cw (cx (cx ⟨_,rfl,cx h⟩))) H)
  |exact cw (cw (m:=Builtin.Tuple.tupleExact _) (wpAny_newObj_type (cx (cx ⟨_,rfl,cx h⟩)) H))
  |exact cw (cw (m:=Builtin.Tuple.tupleExact _) (wpAny_newObj_type (cx ⟨_,rfl,cx h⟩) H))
end
end HT
namespace L2
open PySem PySem.Spec PyProof.Rows
abbrev TO:=St->Hp->(Option Int->Hp->Prop)->Prop
def PO (X:Cx)(e:Option Expr)(t:TO):Prop:=
 ∀(pins:bZ)(s:Shared)(σ:St)(H:Hp)(Q:Option Int->Hp->Prop),Inv X pins σ H s->t σ H Q->
  wpAny (model X.prog X.w) X.A (evalPart e X.env) (λu s'=>∃o h,Inv X pins σ h s'/\IsPart u o/\Q o h) X.xe s
noncomputable def BA:TO:=λ_ H Q=>Q none H
noncomputable def dO (t:TE):TO:=λσ H Q=>t σ H λx H1=>∃i,x=.int i/\Q (some i) H1
section
variable {te:TE}{lo hi:Option Expr}{tl th:TO}{p2:Pos}
def Co:PO X none BA:=by
 intro pins s σ H Q I h;rw[evalPart_none];exact cx ⟨none,H,I,.none,h⟩
def C0 (h:PE X e te):PO X (some e) (dO te):=by
 intro pins s σ H Q I hw;rw[evalPart_some];refine zZ (h pins s σ H _ I hw) λu s1 ⟨x,H1,b,r,a⟩=>?_;obtain⟨i,rfl,q⟩:=a;obtain⟨t,rfl⟩:=r;exact⟨some i,H1,b,.int i t,q⟩
def Xh (X:Cx)(r:V->Option Int->Option Int->Hp->VK->Prop):Prop:=
 ∀(pins:bZ)(s:Shared)(σ:St)(H:Hp)(x:V)(v l u:Value)(lo hi:cf)(sl:Addr)(Q:VK),Inv X pins σ H s->RelV x v->s.heap.IsSliceOf sl l u .none->IsPart l lo->IsPart u hi->r x lo hi H Q->
  ∃T id,typeLookup (.type T) "__getitem__"=pure (some (.builtin id))/\s.TypeIs v T/\wpAny (model X.prog X.w) X.A (getItem v (.ref sl)) (EP X pins σ Q) X.xe s
noncomputable def dP (r:V->Option Int->Option Int->Hp->VK->Prop)(T:TE)(t th:TO):TE:=λσ H Q=>T σ H λx H1=>t σ H1 λl a=>th σ a λu h=>r x l u h Q
def P6 {r:V->Option Int->Option Int->Hp->VK->Prop}(n:Xh X r)(he:PE X e te)(o:PO X lo tl)(k:PO X hi th):PE X (.Subscript e (.Slice lo hi none p2) pos) (dP r te tl th):=by
 intro pins s σ H Q I h;refine Subscript_ (zZ (he pins s σ H _ I h) λv s1 ⟨x,H1,C,f,j⟩=>?_);refine wpAny_Slice (zZ (o pins s1 σ H1 _ C j) λc s2 ⟨l,D,B,pl,i⟩=>zZ (k pins s2 σ D _ B i) λa s3 ⟨u,d,z,pu,g⟩=>?_);rw[evalPart_none];refine cx ?_;have y:Inv X pins σ d { s3 with heap:=s3.heap.push { cls:=.type "slice",data:=.fields #[c,a,.none] } }:=z.kept (t':=s3.toks) λb ob q=>ae _ q
 obtain⟨T,id,hT,t,p⟩:=n pins { s3 with heap:=s3.heap.push { cls:=.type "slice",data:=.fields #[c,a,.none] } } σ d x v c a l u s3.heap.objs.size Q y f (Heap.IsSliceOf.new ..) pl pu g
 show wpAny (model X.prog X.w) X.A (subscriptTail e (.Slice lo hi none p2) v (.ref s3.heap.objs.size)) (EP X pins σ Q) X.xe { s3 with heap:=s3.heap.push { cls:=.type "slice",data:=.fields #[c,a,.none] } }
 exact tail_any (ops:=[.ref s3.heap.objs.size,v]) t hT p (by with_unfolding_all rfl)
noncomputable def Zp (xs:List V)(lo h:cf):List V:=(xs.drop (HT.qm xs.length 0 lo)).take (HT.qm xs.length xs.length h-HT.qm xs.length 0 lo)
def Ru (xs:List V)(lo h:cf):(Zp xs lo h).length<=xs.length:=by
 unfold Zp;rw[br,length_drop];omega
def dQ (K:Frag):V->Option Int->Option Int->Hp->VK->Prop:=λx lo h H Q=>∃a xs,x=.ref a/\qo K H a xs/\
 ¬(HT.qm xs.length 0 lo=0/\HT.qm xs.length xs.length h=xs.length)/\∀p,H p=none->Q (.ref p) (upd H p (.tup (Zp xs lo h)))
def AU:Xh X (dQ X.K):=by
 intro pins s σ H x v l u lo c S Q I d f pl pu h;obtain⟨a,xs,rfl,e,hw,q⟩:=h;cases d;obtain⟨i,r,t,z⟩:=I.tuple e;have hlen:i.toArray.size=xs.length:=by rw[aC];exact r.length.symm
 refine⟨"tuple",_,PyProof.Rows.slot_tuple_getitem.lookup,t.typeIs,?_⟩;refine HT.Lb t f pl pu (by rw[hlen];exact hw) ?_ (by rw[hlen];exact z)
 rw[hlen];refine⟨.ref s.heap.objs.size,_,I.laid (t':=s.toks) (o:=.tup (Zp xs lo c)) (λb ob q=>ae _ q) (av _) ?_,rfl,q _ (I.hok.fresh (av _))⟩;exact⟨bg (Ru xs lo c) z,_,(r.drop (HT.qm xs.length 0 lo)).take (HT.qm xs.length xs.length c-HT.qm xs.length 0 lo),Qf.new _ _⟩
def N1 (K:Frag):R2:=λx y H Q=>∃a b xs ys,x=.ref a/\y=.ref b/\qo K H a xs/\qo K H b ys/\xs≠[]/\xs.length+ys.length<=sizeLine/\
 (ys=[]->Q (.ref a) H)/\(ys≠[]->∀p,H p=none->Q (.ref p) (upd H p (.tup (xs++ys))))
def Vals.nil_iff {xs:List V}(r:Vals xs us):us=[]↔xs=[]:=by
 cases r with
 |nil=>simp|cons _ _=>simp
def Bf:qY X (binaryOp .Add) (N1 X.K):=by
 intro pins s σ H x y v u Q I f e h;obtain⟨a,b,xs,ys,rfl,rfl,t,n,l,d,j,g⟩:=h;cases f;cases e;obtain⟨k,c,P,_⟩:=I.tuple t;obtain⟨i,r,p,_⟩:=I.tuple n;refine HT.Ck P p (λz=>l (c.nil_iff.mp z)) (λz=>⟨.ref a,H,I,rfl,j (r.nil_iff.mp z)⟩) (λz=>?_) (by rw[<- c.length,<- r.length];exact d)
 refine⟨.ref s.heap.objs.size,_,I.laid (t':=s.toks) (o:=.tup (xs++ys)) (λb ob q=>ae _ q) (av _) ?_,rfl,g (λw=>z (r.nil_iff.mpr w)) _ (I.hok.fresh (av _))⟩;exact⟨by rw[ak];exact d,_,c.append r,Qf.new _ _⟩
end
noncomputable def gW (n:Nat)(i:Int):Option Nat:=if 0<=i then(if i<n then some i.toNat else none) else if -(n:Int)<=i then some (i+n).toNat else none
def w5 (xs:List α)(i:Int):Option α:=(gW xs.length i).bind λj=>xs[j]?
def OW {i:Int}(h:gW n i=some j):seqIndex? i n=some j/\j<n/\-(n:Int)<=i/\i<n:=by
 unfold gW at h
 by_cases h0:0<=i
 ·rw[ag h0]at h
  by_cases h1:i<n
  ·rw[ag h1]at h
   have e:i.toNat=j:=aB h;exact⟨by rw[seqIndex_of h0 h1,e],by omega,by omega,h1⟩
  ·rw[aj h1]at h;cases h
 ·rw[aj h0]at h
  by_cases h1:-(n:Int)<=i
  ·rw[ag h1]at h
   have e:(i+n).toNat=j:=aB h;exact⟨by rw[seqIndex_neg (by omega) h1,e],by omega,h1,by omega⟩
  ·rw[aj h1]at h;cases h
def VP {xs:List α}{i:Int}{v:α}(h:w5 xs i=some v):∃j,seqIndex? i xs.length=some j/\xs[j]? =some v/\j<xs.length/\-(xs.length:Int)<=i/\i<xs.length:=by
 unfold w5 at h;cases e:gW xs.length i with
 |none=>rw[e]at h;cases h|some j=>
  rw[e]at h;obtain⟨c,b,a,H⟩:=OW e;exact⟨j,c,h,b,a,H⟩
def Gs {xs:List α}{v:α}(h:xs[j]? =some v):w5 xs (j:Int)=some v:=by
 have H:j<xs.length:=(cA.mp h).1;have e:gW xs.length (j:Int)=some j:=by
  unfold gW;rw[ag (by omega),ag (by omega)];simp
 unfold w5;rw[e];exact h
def OE (b:Expr):Prop:=∀o i,subscripted b false o i=operate [o,i] (getItem o i)
def QC (X:Cx)(r:R2):Prop:=
 ∀(value slice:Expr)(pins:bZ)(s:Shared)(σ:St)(H:Hp)(x y:V)(v u:Value)(Q:VK),Inv X pins σ H s->RelV x v->RelV y u->r x y H Q->
  subscripted slice false v u=operate [v,u] (getItem v u)->wpAny (model X.prog X.w) X.A (subscriptTail value slice v u) (EP X pins σ Q) X.xe s
def Th (X:Cx)(id:String)(r:V->List V->Hp->VK->Prop):Prop:=
 ∀(pins:bZ)(s:Shared)(σ:St)(H:Hp)(x:V)(xs:List V)(v:Value)(us:bX)(Q:VK),Inv X pins σ H s->RelV x v->Vals xs us->r x xs H Q->
  wpAny (model X.prog X.w) X.A (call (.builtin id) (v::us)) (EP X pins σ Q) X.xe s
section
variable {a b:Expr}{ta tb:TE}
def QC.or {r c:R2}(h:QC X r)(h':QC X c):QC X (λx y H Q=>r x y H Q∨c x y H Q):=by
 intro value slice pins s σ H x y v u Q I b a q d;rcases q with q|q
 ·exact h value slice pins s σ H x y v u Q I b a q d
 ·exact h' value slice pins s σ H x y v u Q I b a q d
def dR {r:R2}(f:QC X r)(i:PE X a ta)(g:PE X b tb)(e:OE b):PE X (.Subscript a b pos) (K6 r ta tb):=by
 intro pins s σ H Q I h;exact Subscript_ (U8 i g I h λv u s2 x y k j d c q=>f a b pins s2 σ k x y v u Q j d c q (e _ _))
def Mk (K:Frag):R2:=λx y H Q=>∃p xs i v,x=.ref p/\y=.int i/\jj K H p xs/\w5 xs i=some v/\Q v H
def Mc (K:Frag):R2:=λx y H Q=>∃p xs i v,x=.ref p/\y=.int i/\qo K H p xs/\w5 xs i=some v/\Q v H
def N6:R2:=λx y H Q=>∃z i c,x=.str z/\y=.int i/\z.length<=sizeLine/\w5 z.cps.toList i=some c/\Q (.str ⟨#[c]⟩) H
def CQ:QC X (Mk X.K):=by
 intro value slice pins s σ H x y v u Q I g f h e;obtain⟨p,xs,i,z,rfl,rfl,k,he,q⟩:=h;cases g;obtain⟨t,rfl⟩:=f;obtain⟨c,r,pl,B⟩:=I.list k;obtain⟨j,a,A,C,o,n⟩:=VP he;obtain⟨w,E,b⟩:=r.get A;have l:=r.length;have hn:=YD;have fin:EP X pins σ Q w s:=⟨z,H,I,b,q⟩
 by_cases h0:0<=i
 ·have d:i.toNat=j:=by
   rw[seqIndex_of h0 n]at a;exact aB a
  exact item_listR pl.isList h0 (by omega) (by rw[d];simpa using E) fin e
 ·have d:(i+(c.toArray.size:Int)).toNat=j:=by
   rw[seqIndex_neg (by omega) o]at a
   rw[aC,<- l];exact aB a
  exact subscriptTail_builtinR (x:=w) pl.isList.typeIs slot_list_getitem.lookup
   (wpAny_getItem_list_neg (Q:=λr s'=>r=w/\EP X pins σ Q r s') pl.isList (by omega) (by rw[aC]<;>omega) (by omega) (by rw[d];simpa using E) ⟨rfl,fin⟩) e
def AG:QC X (Mc X.K):=by
 intro value slice pins s σ H x y v u Q I c b h e;obtain⟨p,xs,i,z,rfl,rfl,f,he,q⟩:=h;cases c;obtain⟨t,rfl⟩:=b;obtain⟨d,r,pl,n⟩:=I.tuple f;obtain⟨j,k,g,B,A,o⟩:=VP he;obtain⟨w,E,a⟩:=r.get g;have l:=r.length;have hn:=YD;have fin:EP X pins σ Q w s:=⟨z,H,I,a,q⟩;exact subscriptTail_builtinR (x:=w) pl.typeIs slot_tuple_getitem.lookup
  (getItem_tuple (j:=j) (Q:=λr s'=>r=w/\EP X pins σ Q r s') pl (by omega) (by omega) (by rw[aC,<- l];exact k) (by simpa using E) ⟨rfl,fin⟩) e
def AD:QC X N6:=by
 intro value slice pins s σ H x y v u Q I b r h d;obtain⟨z,i,c,rfl,rfl,n,he,q⟩:=h;obtain⟨t,rfl⟩:=b;obtain⟨t',rfl⟩:=r;obtain⟨j,a,g,o,f,e⟩:=VP he;have l:z.cps.toList.length=z.length:=by simp[Str.length]
 rw[l]at a f e;have hn:=YD;exact tail_any (typeIs_str s z t) slot_str_getitem.lookup (getItem_str (c:=c) (by
  have k:decide (i < -(2 ^ 63:Int))=false:=aD (by omega)
  have E:decide (i ≥ 2 ^ 63)=false:=aD (by omega)
  rw[k,E,Bool.or_false]) (by rw[a];simpa using g) ⟨.str ⟨#[c]⟩,H,I.tok _,⟨_,rfl⟩,q⟩) d
def MN (K:Frag):R2:=λx y H Q=>Mk K x y H Q∨Mc K x y H Q∨N6 x y H Q
def AA:QC X (MN X.K):=CQ.or (AG.or AD)
def Hg (i:bX)(n j:Nat)(u:Value):Obj.mapSeq (·.setIfInBounds j u) { cls:=.type "list",data:=.seq i.toArray n }={ cls:=.type "list",data:=.seq (i.set j u).toArray n }:=by
 simp[Obj.mapSeq]
theorem Inv.lst {pins:bZ}{σ:St}{H:Hp}{s:Shared}{p:Addr}{xs:List V}(I:Inv X pins σ H s)(h:H p=some (.lst xs)):
  ∃(i:bX) (n:Nat),Vals xs i/\s.heap.get? p=some { cls:=.type "list",data:=.seq i.toArray n }/\xs.length<=sizeLine:=by
 obtain⟨z,i,n,r,e⟩:=I.hok p _ h;exact⟨i,n,r,e,z⟩
def Inv.lstUpd {p:Addr}{xs:List V}{its':bX}{N:Nat}{f:Obj->Obj}(I:Inv X pins σ H s)(h:H p=some (.lst xs))
  (o:s.heap.get? p=some { cls:=.type "list",data:=.seq its.toArray n })(hf:f { cls:=.type "list",data:=.seq its.toArray n }={ cls:=.type "list",data:=.seq its'.toArray N })(r:Vals ys its')(z:ys.length<=sizeLine)(t:Nat):
  Inv X pins σ (upd H p (.lst ys)) { s with heap:=s.heap.update p f,toks:=t }:=by
 have e:(s.heap.update p f).get? p=some { cls:=.type "list",data:=.seq its'.toArray N }:=by
  rw[a9 f o (by rw[hf]<;>rfl),hf]
 refine I.write (x:=p) (e:=p) (by rw[h];trivial) (.inl rfl) (λb u a q=>(aZ _ _ (Ne.symm a)).trans q) ⟨_,e⟩ ?_
 exact⟨z,its',N,r,e⟩
def NP:V->V->V->Hp->(Hp->Prop)->Prop:=λo i v H Q=>∃p xs k j,o=.ref p/\i=.int k/\H p=some (.lst xs)/\gW xs.length k=some j/\Q (upd H p (.lst (xs.set j v)))
def set_list:GZ X NP:=by
 intro pins s σ H o i v A B u Q I ro x w h;obtain⟨p,xs,k,j,rfl,rfl,hp,y,q⟩:=h;cases ro;obtain⟨t,rfl⟩:=x;obtain⟨a,n,r,c,z⟩:=I.lst hp;obtain⟨b,C,f,e⟩:=OW y;have l:=r.length;have hn:=YD;have g:Inv X pins σ (upd H p (.lst (xs.set j v))) { s with heap:=s.heap.update p (Obj.mapSeq (·.setIfInBounds j u)) }:=
  I.lstUpd hp c (Hg a n j u) (r.set w j) (by rw[length_set];exact z) s.toks
 by_cases h0:0<=k
 ·have d:k.toNat=j:=by
   rw[seqIndex_of h0 e]at b;exact aB b
  exact PySem.W.ki_setAt c h0 (by omega) (by rw[aC,<- l];exact e) (by rw[d];exact⟨_,g,q⟩)
 ·have d:(k+(a.toArray.size:Int)).toNat=j:=by
   rw[seqIndex_neg (by omega) f]at b
   rw[aC,<- l];exact aB b
  exact PySem.W.ki_setBack c (by omega) (by rw[aC,<- l];exact f) (by omega) (by rw[d];exact⟨_,g,q⟩)
def Ir (lo H:cf)(n:Nat):(sliceBounds lo H none n).1=((HT.qm n 0 lo:Nat):Int)/\(sliceBounds lo H none n).2.1=((HT.qm n n H:Nat):Int)/\(sliceBounds lo H none n).2.2=1:=by
 refine⟨?_,?_,rfl⟩
 ·cases lo with
  |none=>simp[sliceBounds,HT.qm]|some i=>
   simp only[sliceBounds,HT.qm,getD_none,show(1:Int) > 0 by decide,if_true]
   by_cases h:i<0
   ·simp only[h,if_true]<;>omega
   ·simp only[h,if_false]<;>omega
 ·cases H with
  |none=>simp[sliceBounds,HT.qm]|some i=>
   simp only[sliceBounds,HT.qm,getD_none,show(1:Int) > 0 by decide,if_true]
   by_cases h:i<0
   ·simp only[h,if_true]<;>omega
   ·simp only[h,if_false]<;>omega
def L8 (i:bX)(lo h:cf):slicePick i.toArray lo h none=((i.drop (HT.qm i.length 0 lo)).take (HT.qm i.length i.length h-HT.qm i.length 0 lo)).toArray:=by
 obtain⟨b,a,H⟩:=Ir lo h i.toArray.size;unfold slicePick;rw[b,a,H];simp only[sliceRange_one,pick_run,aC]<;>rfl
def dS (K:Frag):V->Option Int->Option Int->Hp->VK->Prop:=λx lo h H Q=>∃a xs,x=.ref a/\jj K H a xs/\∀p,H p=none->Q (.ref p) (upd H p (.lst (Zp xs lo h)))
def Ae:Xh X (dS X.K):=by
 intro pins s σ H x v l u lo i S Q I c f pl pu h;obtain⟨a,xs,rfl,e,q⟩:=h;cases c;obtain⟨d,r,t,z⟩:=I.list e;have hlen:=r.length;refine⟨"list",_,slot_list_getitem.lookup,t.isList.typeIs,?_⟩;refine wpAny_getItem_list_slice t.isList f pl pu .none (by simp) ?_ (by rw[aC]<;>omega)
 rw[L8,<- hlen];refine⟨.ref s.heap.objs.size,_,I.laid (t':=s.toks) (o:=.lst (Zp xs lo i)) (λb ob q=>ae _ q) (av _) ?_,rfl,q _ (I.hok.fresh (av _))⟩;exact⟨bg (Ru xs lo i) z,_,0,(r.drop (HT.qm xs.length 0 lo)).take (HT.qm xs.length xs.length i-HT.qm xs.length 0 lo),au _ rfl⟩
noncomputable def ZT:V->Bool
 |.non=>true|.bl _=>true|.int _=>true|.str _=>true|_=>false
noncomputable def QE:V->V->Bool
 |.non,.non=>true|.bl a,.bl b=>a==b|.bl a,.int b=>(if a then 1 else 0)==b|.int a,.bl b=>a==(if b then 1 else 0)|.int a,.int b=>a==b|.str a,.str b=>a==b|_,_=>false
def dU {A:Around}{y x:V}{v:Value}(c:RelV y u)(r:RelV x v)(d:ZT y=true)(f:ZT x=true):SeqAt.EqAt A s u v (QE y x):=by
 cases y with
 |non=>
  cases c;cases x with
  |non=>cases r;exact SeqAt.EqAt.same _|bl b=>cases r;exact SeqAt.EqAt.none_bool b|int b=>obtain⟨t,rfl⟩:=r;exact SeqAt.EqAt.none_int b t|str b=>obtain⟨t,rfl⟩:=r;exact SeqAt.EqAt.none_str b t|_=>exact absurd (show false=true from f) aA
 |bl a=>
  cases c;cases x with
  |non=>cases r;exact SeqAt.EqAt.bool_none a|bl b=>cases r;exact SeqAt.EqAt.bool_bool a b|int b=>obtain⟨t,rfl⟩:=r;exact SeqAt.EqAt.bool_int a b t|str b=>obtain⟨t,rfl⟩:=r;exact SeqAt.EqAt.bool_str a b t|_=>exact absurd (show false=true from f) aA
 |int a=>
  obtain⟨t',rfl⟩:=c;cases x with
  |non=>cases r;exact SeqAt.EqAt.int_none a t'|bl b=>cases r;exact SeqAt.EqAt.int_bool a t' b|int b=>obtain⟨t,rfl⟩:=r;exact SeqAt.EqAt.int_int a t' b t|str b=>obtain⟨t,rfl⟩:=r;exact SeqAt.EqAt.int_str a t' b t|_=>exact absurd (show false=true from f) aA
 |str a=>
  obtain⟨t',rfl⟩:=c;cases x with
  |non=>cases r;exact SeqAt.EqAt.str_none a t'|bl b=>cases r;exact SeqAt.EqAt.str_bool a t' b|int b=>obtain⟨t,rfl⟩:=r;exact SeqAt.EqAt.str_int a t' b t|str b=>obtain⟨t,rfl⟩:=r;exact SeqAt.EqAt.str_str a t' b t|_=>exact absurd (show false=true from f) aA
 |_=>exact absurd (show false=true from d) aA
def QF (x:V)(u:Value):Bool:=match u with
 |.none=>QE .non x|.bool b=>QE (.bl b) x|.int i _=>QE (.int i) x|.str z _=>QE (.str z) x|_=>false
def NA {x y:V}(r:RelV y u)(f:ZT y=true):QF x u=QE y x:=by
 cases y with
 |non=>cases r;rfl|bl b=>cases r;rfl|int i=>obtain⟨t,rfl⟩:=r;rfl|str z=>obtain⟨t,rfl⟩:=r;rfl|_=>exact absurd (show false=true from f) aA
theorem VU {x:V}:∀{xs:List V}{us:bX},Vals xs us->xs.all ZT=true->us.any (QF x)=xs.any λy=>QE y x
 |_,_,.nil,_=>rfl|y::xs,u::us,.cons r t,f=>by
  rw[List.all_cons,ar]at f;rw[any_cons,any_cons,NA r f.1,VU t f.2]
theorem Vu {A:Around}{x:V}{v:Value}(a:RelV x v)(b:ZT x=true):∀{xs:List V}{us:bX},Vals xs us->xs.all ZT=true->∀u∈us,SeqAt.EqAt A s u v (QF x u)
 |_,_,.nil,_=>λu h=>by cases h|y::xs,u::us,.cons r t,f=>λU h=>by
  rw[List.all_cons,ar]at f;rcases cz.mp h with rfl|h
  ·rw[NA r f.1];exact dU r a f.1 b
  ·exact Vu a b t f.2 U h
def Xu (x:V)(xs:List V):Bool:=xs.any λy=>QE y x
def ML (K:Frag)(neg:Bool):R2:=λx y H Q=>∃p xs,y=.ref p/\(jj K H p xs∨qo K H p xs)/\ZT x=true/\xs.all ZT=true/\Q (.bl (if neg then !Xu x xs else Xu x xs)) H
def Eg:qY X (compareOp .In) (ML X.K false):=by
 intro pins s σ H x y v u Q I b c h;obtain⟨p,xs,rfl,a,f,fs,q⟩:=h;cases c;rcases a with a|a
 ·obtain⟨i,r,pl,z⟩:=I.list a
  refine SeqAt.in_listAt (QF x) pl.isList (λw hw=>Vu b f r fs w (by simpa using hw)) ⟨.bl _,H,I,rfl,?_⟩
  rw[show i.toArray.any (QF x)=i.any (QF x) by simp,VU r fs]
  exact q
 ·obtain⟨i,r,pl,z⟩:=I.tuple a
  refine SeqAt.in_tupleAt (QF x) pl (λw hw=>Vu b f r fs w (by simpa using hw)) ⟨.bl _,H,I,rfl,?_⟩
  rw[show i.toArray.any (QF x)=i.any (QF x) by simp,VU r fs]
  exact q
def Iq:yt X (.builtin "len") (λxs H Q=>∃p ys,xs=[.ref p]/\(jj X.K H p ys∨qo X.K H p ys)/\Q (.int ys.length) H):=by
 intro pins s σ H xs us Q I r h;obtain⟨p,ys,rfl,a,q⟩:=h;obtain⟨u,rfl,x⟩:=vals1 r;cases x;have hn:=YD;rcases a with a|a
 ·obtain⟨i,b,pl,z⟩:=I.list a
  have hlen:=b.length;exact Calls.call_len_list pl.isList (by simp only[aC]<;>omega) ⟨.int ys.length,H,I.tok _,⟨s.toks+1,by rw[aC,hlen]⟩,q⟩
 ·obtain⟨i,b,pl,z⟩:=I.tuple a
  have hlen:=b.length;exact len_tuple pl (by simp only[aC]<;>omega) ⟨.int ys.length,H,I.tok _,⟨s.toks+1,by rw[aC,hlen]⟩,q⟩
def Iz:yt X (.type "list") (λxs H Q=>∃p ys,xs=[.ref p]/\(jj X.K H p ys∨qo X.K H p ys)/\∀l,H l=none->Q (.ref l) (upd H l (.lst ys))):=by
 intro pins s σ H xs us Q I r h;obtain⟨p,ys,rfl,d,q⟩:=h;obtain⟨u,rfl,x⟩:=vals1 r;cases x;have fin:∀(its:bX),Vals ys its->ys.length<=sizeLine->∀(h':Heap)(c:Nat),(∀b o',s.heap.get? b=some o'->h'.get? b=some o')->
   h'.get? s.heap.objs.size=some { cls:=.type "list",dict:=none,data:=.seq its.toArray c,slots:=#[] }->EP X pins σ Q (.ref s.heap.objs.size) { s with heap:=h' }:=λits a z h' c kp e=>
  ⟨.ref s.heap.objs.size,_,I.laid (t':=s.toks) kp (av _) (show jh X.prog X.w _ h' _ (.lst ys) from ⟨z,its,c,a,e⟩),rfl,q _ (I.hok.fresh (av _))⟩
 rcases d with d|d
 ·obtain⟨its,a,pl,z⟩:=I.list d
  have hlen:=a.length;obtain⟨o,f,g,n,hd⟩:=pl.isList;exact call_list_seq p (.inl rfl) f g hd (λh' c kp e=>fin its a z h' c kp e) (by simp only[aC]<;>omega)
 ·obtain⟨its,a,pl,z⟩:=I.tuple d
  have hlen:=a.length;obtain⟨o,f,g,n,hd⟩:=pl;exact call_list_seq p (.inr rfl) f g hd (λh' c kp e=>fin its a z h' c kp e) (by simp only[aC]<;>omega)
def LN:yt X (.type "tuple") (λxs H Q=>∃p ys,xs=[.ref p]/\((jj X.K H p ys/\∀l,H l=none->Q (.ref l) (upd H l (.tup ys)))∨(qo X.K H p ys/\Q (.ref p) H))):=by
 intro pins s σ H xs us Q I r h;obtain⟨p,ys,rfl,h⟩:=h;obtain⟨u,rfl,x⟩:=vals1 r;cases x;rcases h with ⟨c,q⟩|⟨c,q⟩
 ·obtain⟨i,a,pl,z⟩:=I.list c
  have hlen:=a.length;refine call_tuple_list pl.isList (λh' kp=>?_) (by simp only[aC]<;>omega)
  have d:Inv X pins σ H { s with heap:=h' }:=I.kept (t':=s.toks) kp
  have f:Inv X pins σ (upd H h'.objs.size (.tup ys)) { s with heap:=h'.push { cls:=.type "tuple",data:=.seq i.toArray } }:=
   d.laid (t':=s.toks) (λb o e=>ae _ e) (av _) (show jh X.prog X.w _ _ _ (.tup ys) from ⟨z,i,a,Qf.new _ _⟩)
  exact⟨.ref h'.objs.size,_,f,rfl,q _ (d.hok.fresh (av _))⟩
 ·obtain⟨i,a,pl,z⟩:=I.tuple c
  exact call_tuple_same pl ⟨.ref p,H,I,rfl,q⟩
def Xg (K:Frag)(T:String)(x:V)(H:Hp):Prop:=match x with
 |.str _=>T = "str"
 |.int _=>T = "int"
 |.ref p=>(T = "list" /\ ∃xs,jj K H p xs)∨(T = "tuple" /\ ∃o,K.lookup p=some o/\o.cls=.type "tuple" /\ o.dict=none)∨
   (T = "dict" /\ ((∃kvs,H p=some (.dK kvs))∨∃kvs,H p=some (.dT kvs)))∨(T = "set" /\ ∃S n,H p=some (.set S n))
 |_=>False
def dV {T:String}{x:V}{v:Value}(I:Inv X pins σ H s)(r:RelV x v)(ty:Xg X.K T x H):
  s.TypeIs v T/\∀a,v=.ref a->∃ob,s.heap.get? a=some ob/\ob.dict=none:=by
 cases x with
 |str z=>
  obtain⟨t,rfl⟩:=r;cases (show T = "str" from ty)
  exact⟨typeIs_str s z t,λ_ e=>nomatch e⟩
 |int i=>
  obtain⟨t,rfl⟩:=r;cases (show T = "int" from ty)
  exact⟨typeIs_int s i t,λ_ e=>nomatch e⟩
 |ref p=>
  cases r;rcases ty with ⟨rfl,xs,q⟩|⟨rfl,o,h,d,hd⟩|⟨rfl,h⟩|⟨rfl,S,n,h⟩
  ·obtain⟨b,_,pl,_⟩:=I.list q
   refine⟨pl.isList.typeIs,λa e=>?_⟩;cases e;obtain⟨o,n,e,c,hd,_⟩:=pl;exact⟨o,e,hd⟩
  ·refine⟨⟨o,I.kIn p o h,d⟩,λa e=>?_⟩
   cases e;exact⟨o,I.kIn _ o h,hd⟩
  ·have z:∃o,s.heap.get? p=some o/\o.ExactDict:=by
    rcases h with ⟨kvs,h⟩|⟨kvs,h⟩
    ·obtain⟨_,_,_,_,o,_,_,e,ex,_⟩:=I.hok p _ h
     exact⟨o,e,ex⟩
    ·obtain⟨_,_,_,_,o,_,_,e,ex,_⟩:=I.hok p _ h
     exact⟨o,e,ex⟩
   obtain⟨o,e,ex⟩:=z;refine⟨⟨o,e,ex.1⟩,λa E=>?_⟩;cases E;exact⟨o,e,ex.2.1⟩
  ·obtain⟨o,_,_,_,e,ex,_⟩:=I.hok p _ h
   refine⟨⟨o,e,ex.1⟩,λa E=>?_⟩;cases E;exact⟨o,e,ex.2.1⟩
 |_=>exact False.elim ty
noncomputable def dW (K:Frag)(T:String)(r:V->List V->Hp->VK->Prop)(to:TE)(t:TA):TE:=λσ H Q=>to σ H λx H1=>Xg K T x H1/\t σ H1 λxs h=>r x xs h Q
variable {o:Expr}{es:cc}{to:TE}{t:TA}{name:Str}{apos:Pos}{T id:String}{r:V->List V->Hp->VK->Prop}
def NO (p:PlainAttrs T)(slot:Slot T name id)(y:typeOf (.builtin id)=pure (.type "method_descriptor"))(hm:Th X id r)(j:PE X o to)(k:PA X (e::es) t)
  (b:attributeBase o name X.env (eval o X.env)=eval o X.env:=by rfl)
  (w:((backTo cpos (starEach (e::es) X.env)).all (λx=>!x.1)&&(backToKw cpos (keywordEach [] X.env)).all (λx=>x.1.isSome)
   && decide ((e::es).length+([]:cn).length+(if ([]:cn).isEmpty then 0 else 1)<30))=true:=by rfl)
  (a:(apos.endLine==cpos.line)=true:=by rfl)(g:starEach (e::es) X.env=(false,eval e X.env)::starEach es X.env:=by rfl)(n:(backTo cpos (starEach es X.env)).any (·.1)=false:=by rfl):
  PE X (.Call (.Attribute o name apos) (e::es) [] cpos) (dW X.K T r to t):=by
 intro pins s σ H Q I h;refine wpAny_Call_method_late b w a rfl (zZ (j pins s σ H _ I h) λv s1 ⟨x,H1,i,c,ty,f⟩=>?_);obtain⟨u,l⟩:=dV i c ty;refine⟨T,id,p,slot,y,u,l,?_⟩;have A:=k cpos pins s1 σ H1 _ i f;rw[g]at A ⊢;refine Calls.callWith_builtin (by show(false || (backTo cpos (starEach es X.env)).any (·.1))=false;rw[n]<;>rfl) (Calls.evalArgs_plain ?_)
 exact zZ A λus s2 ⟨vs,B,z,d,q⟩=>hm pins s2 σ B x vs v us Q z c d q
end
def Xp (X:Cx)(id:String)(r:V->List V->Hp->VK->Prop):Prop:=
 ∀(pins:bZ)(s:Shared)(σ:St)(H:Hp)(x:V)(xs:List V)(v:Value)(us:bX)(Q:VK),Inv X pins σ H s->RelV x v->Vals xs us->r x xs H Q->
  wpAny (model X.prog X.w) X.A (call (.builtin id) (v::us)) (EP X pins σ Q) X.xe s
def Vals.one {x:V}(h:Vals [x] us):∃u,us=[u]/\RelV x u:=by
 cases h with
 |cons r t=>cases t;exact⟨_,rfl,r⟩
def Vals.two {x y:V}(h:Vals [x,y] us):∃u v,us=[u,v]/\RelV x u/\RelV y v:=by
 cases h with
 |cons r t=>exact(Vals.one t).elim λv e=>⟨_,v,by rw[e.1],r,e.2⟩
theorem Vals.eraseIdx:∀{xs:List V}{us:bX}(i:Nat),Vals xs us->Vals (xs.eraseIdx i) (us.eraseIdx i)
 |_,_,_,.nil=>.nil|_,_,0,.cons _ t=>t|_,_,i+1,.cons r t=>.cons r (Vals.eraseIdx i t)
theorem Vals.rep {xs:List V}(h:Vals xs us):∀k:Nat,Vals (List.replicate k xs).flatten (List.replicate k us).flatten
 |0=>.nil|k+1=>by
  rw[a3,a3,aY,aY];exact Vals.append h (Vals.rep h k)
theorem Pp:∀(l:List α)(i:Nat),(l.eraseIdx i).length<=l.length
 |[],_=>av _|_::_,0=>le_succ _|_::r,i+1=>Nat.succ_le_succ (Pp r i)
theorem foldl_rep (i:bX):∀(k:Nat)(acc:bX),
  List.foldl (λx1 x2=>x1++x2) acc.toArray (List.replicate k i.toArray)=(acc++(List.replicate k i).flatten).toArray
 |0,acc=>by simp|k+1,acc=>by
  have e:acc.toArray++i.toArray=(acc++i).toArray:=by simp
  have E:(acc++i)++(List.replicate k i).flatten=acc++(List.replicate (k+1) i).flatten:=by
   rw[a3,aY,aP]
  rw[<- E,<- foldl_rep i k (acc++i),<- e,a3,List.foldl_cons]
section
variable {l:Addr}{xs:List V}
def Inv.lset {its':bX}{f:Array Value->Array Value}(I:Inv X pins σ H s)(c:H l=some (.lst xs))
  (e:s.heap.get? l=some { cls:=.type "list",data:=.seq its.toArray n })(hf:f its.toArray=its'.toArray)(v:Vals ys its')(h:ys.length<=sizeLine):
  Inv X pins σ (upd H l (.lst ys)) { s with heap:=s.heap.update l (Obj.mapSeq f),toks:=t' }:=by
 have q:=PySem.IsL.update e f;rw[hf]at q;refine I.write (x:=l) (e:=l) (by rw[c];exact trivial) (.inl rfl) (λB u b a=>(aZ s.heap (Obj.mapSeq f) (Ne.symm b)).trans a) ⟨_,q⟩ ?_
 exact⟨h,its',_,v,q⟩
def Inv.lnew (I:Inv X pins σ H s)(v:Vals ys its)(h:ys.length<=sizeLine):
  Inv X pins σ (upd H s.heap.objs.size (.lst ys)) { s with heap:=s.heap.push { cls:=.type "list",data:=.seq its.toArray },toks:=t' }:=
 I.laid (λ_ _ q=>ae _ q) (av _) ⟨h,its,0,v,au _ rfl⟩
theorem Inv.fresh (I:Inv X pins σ H s):H s.heap.objs.size=none:=I.hok.fresh (av _)
def Inv.lstM (I:Inv X pins σ H s)(h:H l=some (.lst xs)):xs.length<=sizeLine/\∃(i:bX) (n:Nat),Vals xs i/\xs.length=i.length/\s.heap.get? l=some { cls:=.type "list",data:=.seq i.toArray n }:=by
 obtain⟨z,i,n,r,e⟩:=I.hok l _ h;exact⟨z,i,n,r,r.length,e⟩
def PH (h:n<=sizeLine):Builtin.List.listTooLong n=false:=by
 unfold Builtin.List.listTooLong;exact aD (by omega)
end
section
def Bq:V->List V->Hp->VK->Prop:=λx vs H Q=>∃l xs y,x=.ref l/\vs=[y]/\H l=some (.lst xs)/\xs.length<sizeLine/\Q .non (upd H l (.lst (xs++[y])))
def Py:Xp X "list.append" Bq:=by
 intro pins s σ H x vs v us Q I b c h;obtain⟨l,xs,y,rfl,rfl,a,f,q⟩:=h;cases b;obtain⟨u,rfl,d⟩:=c.one;obtain⟨z,i,n,r,g,e⟩:=I.lstM a;refine call_meets F.slot_list_append ⟨_,e,rfl⟩ F.entry_list_append (F.args_list_append_2 _ _) (PySem.list_append l i.toArray n u (by rw[aC];omega)) ⟨e,?_⟩
 refine⟨.non,_,I.lset (its':=i++[u]) a e (by simp) (r.append (.cons d .nil)) ?_,rfl,q⟩
 rw[ak,aQ];omega
def Cn:V->List V->Hp->VK->Prop:=λx vs H Q=>∃l b xs zs,x=.ref l/\vs=[.ref b]/\H l=some (.lst xs)/\H b=some (.lst zs)/\xs.length+zs.length<=sizeLine/\Q .non (upd H l (.lst (xs++zs)))
def FL:Xp X "list.extend" Cn:=by
 intro pins s σ H x vs v us Q I d f h;obtain⟨l,b,xs,zs,rfl,rfl,c,B,p,q⟩:=h;cases d;obtain⟨u,rfl,j⟩:=f.one;cases j;obtain⟨z,a,n,r,t,e⟩:=I.lstM c;obtain⟨Z,i,N,k,o,E⟩:=I.lstM B;have hsz:a.toArray.size+i.toArray.size<=sizeLine:=by rw[aC,aC];omega
 have g:¬(!a.toArray.isEmpty&&Builtin.List.listTooLong (a.toArray.size+i.toArray.size))=true:=by
  rw[PH hsz,Bool.and_false];exact aA
 refine call_meets F.slot_list_extend ⟨_,e,rfl⟩ F.entry_list_extend (F.args_list_extend_2 _ _)
  (AutoSeq1.list_extend_list_list_0 l a.toArray n b i.toArray N g (by rw[aC];omega) (by omega)) ⟨e,E,?_⟩
 refine⟨.non,_,I.lset (its':=a++i) c e (by simp) (r.append k) ?_,rfl,q⟩
 rw[ak];omega
def dX:V->List V->Hp->VK->Prop:=λx vs H Q=>∃l xs i k y,x=.ref l/\vs=[.int i]/\H l=some (.lst xs)/\-(2 ^ 63)<=i/\i<2 ^ 63/\seqIndex? i xs.length=some k/\xs[k]? =some y/\Q y (upd H l (.lst (xs.eraseIdx k)))
def DX:Xp X "list.pop" dX:=by
 intro pins s σ H x vs v us Q I d f h;obtain⟨l,xs,i,k,y,rfl,rfl,c,B,A,p,j,q⟩:=h;cases d;obtain⟨u,rfl,g⟩:=f.one;obtain⟨t,rfl⟩:=g;obtain⟨z,a,n,r,o,e⟩:=I.lstM c;obtain⟨w,hw,b⟩:=r.get j;refine call_meets F.slot_list_pop ⟨_,e,rfl⟩ F.entry_list_pop (F.args_list_pop_2 _ _)
  (MeetsSeq.list_pop_at l a.toArray n i t k w (fitsIndex_both B A) (by rw[aC,<- o];exact p) (by rw[<- bB];exact hw) (by rw[aC];omega)) ⟨e,?_⟩
 refine⟨y,_,I.lset (its':=a.eraseIdx k) c e ?_ (r.eraseIdx k) ?_,b,q⟩
 ·show a.toArray.eraseIdxIfInBounds k=(a.eraseIdx k).toArray
  rw[List.eraseIdxIfInBounds_toArray]
 ·have:=Pp xs k
  omega
def N7:R2:=λx y H Q=>∃l b xs zs,x=.ref l/\y=.ref b/\H l=some (.lst xs)/\H b=some (.lst zs)/\xs.length+zs.length<=sizeLine/\∀p,H p=none->Q (.ref p) (upd H p (.lst (xs++zs)))
def dY:qY X (binaryOp .Add) N7:=by
 intro pins s σ H x y v u Q I d c h;obtain⟨l,b,xs,zs,rfl,rfl,j,B,o,q⟩:=h;cases d;cases c;obtain⟨z,a,n,r,p,e⟩:=I.lstM j;obtain⟨Z,i,N,f,g,k⟩:=I.lstM B;refine PySem.P.add_list e k ?_ (by rw[aC,aC];omega)
 have E:a.toArray++i.toArray=(a++i).toArray:=by simp
 rw[E];exact⟨.ref _,_,I.lnew (t':=s.toks) (r.append f) (by rw[ak];omega),rfl,q _ I.fresh⟩
def Mb:R2:=λx y H Q=>∃l k xs,x=.ref l/\y=.int k/\H l=some (.lst xs)/\-(2 ^ 63)<=k/\k<2 ^ 63/\xs.length * k.toNat<=sizeLine/\
 ∀p,H p=none->Q (.ref p) (upd H p (.lst (List.replicate k.toNat xs).flatten))
def len_rep (xs:List α)(k:Nat):(List.replicate k xs).flatten.length=k * xs.length:=by
 induction k with
 |zero=>simp|succ k i=>rw[a3,aY,ak,i,Nat.succ_mul,Nat.add_comm]
def AB:qY X (binaryOp .Mult) Mb:=by
 intro pins s σ H x y v u Q I f d h;obtain⟨l,k,xs,rfl,rfl,o,B,A,c,q⟩:=h;cases f;obtain⟨t,rfl⟩:=d;obtain⟨z,i,n,r,j,e⟩:=I.lstM o;have hlen:i.toArray.size * k.toNat<=sizeLine:=by rw[aC,<- j];exact c
 have p:¬i.toArray.size * k.toNat > (2 ^ 63-1)/8:=by
  have:(sizeLine:Nat)<=(2 ^ 63-1)/8:=by decide
  omega
 have b:¬(!Builtin.List.listFitsIndex k)=true:=by
  rw[fitsIndex_both B A];exact aA
 have g:¬Builtin.List.listTooLong (i.toArray.size * k.toNat)=true:=by
  rw[PH hlen];exact aA
 have w:List.foldl (λx1 x2=>x1++x2) #[] (List.replicate (if i.toArray.isEmpty=true then 0 else k.toNat) i.toArray)=(List.replicate k.toNat i).flatten.toArray:=by
  have f0:∀m:Nat,List.foldl (λx1 x2=>x1++x2) #[] (List.replicate m i.toArray)=(List.replicate m i).flatten.toArray:=λm=>by
   have:=foldl_rep i m []
   rw[bA]at this;exact this
  rw[f0];cases i with
  |nil=>simp|cons a C=>rw[aj (by simp)]
 refine wpAny_binaryOp_repeat_ref (T := "list") (U := "int") (by decide) ⟨_,e,rfl⟩ (λs'=>typeIs_int s' k t) noFill_list_mul F.fills_int_mul F.slot_int_rmul repeat_list F.slot_int_index.lookup
  (call_meets F.slot_int_rmul (typeIs_int s k t) F.entry_int_rmul (F.args_int_rmul_2 _ _) (int___rmul___int_list k t l i.toArray n)
   ⟨e,rfl,⟨_,e,rfl⟩,call_meets F.slot_list_mul ⟨_,e,rfl⟩ F.entry_list_mul (F.args_list_mul_2 _ _) (AutoListH.list___mul___list_int_3 l i.toArray n k t b p g) ⟨e,?_⟩⟩)
 rw[w];exact⟨.ref _,_,I.lnew (t':=s.toks) (r.rep k.toNat) (by rw[len_rep,Nat.mul_comm];exact c),rfl,q _ I.fresh⟩
end
section
set_option maxRecDepth 100000 in
end
end L2
namespace Att
open PySem PySem.W PySem.Calls PyProof.Rows
def Li {P:Params}:∀(ns:bV)(vs:bX),WellAll P h vs (ns.map WData.int)->IntsAre vs ns:=by
 intro ns
 induction ns with
 |nil=>
  intro vs w;rw[map_nil]at w;cases w;exact .nil
 |cons n ns i=>
  intro vs w;rw[aN]at w;cases w with
  |cons a b=>
   cases a;exact .cons _ _ (i _ b)
def Fo {l:OpenLaw}(hn:l.most=some n){P:Params}{args:List WData}{vals:bX}
  (H:l.row.toRowW.claim.pre args=true)(f:WellAll P h vals args):
  ∃a vs ns,vals=[Value.ref a]/\args=[WData.list (ns.map WData.int)]/\h.get? a=some { cls:=.type "list",data:=.seq vs.toArray }/\IntsAre vs ns/\ns.length<=n:=by
 have g:WShape.hasAll [] args [.list .int]=true:=(pre_splitW H).1;have i:l.pre.holds [] { args:=args }=true:=(pre_splitW H).2;obtain⟨d,r,rfl,s,p⟩:=hasAllW_cons g;obtain rfl:=hasAllW_nil p;obtain⟨xs,rfl,k⟩:=hasW_list s;obtain⟨ns,rfl⟩:=items_int k;have hlen:ns.length<=n:=by
  unfold OpenLaw.pre at i;have e:(WTm.not (.lt (.lit (.int (n:Int))) (.len (.arg 0)))).holds [] { args:=[.list (ns.map .int)] }=true:=by
   have e:=(holds_andW i).1;rw[hn]at e;exact e
  have c:=condW_of e (w_not (w_lt w_lit (w_len_list (w_arg rfl))));rw[ah]at c;refine Nat.le_of_not_lt λq=>?_;have Q:(n:Int)<((ns.length:Nat):Int):=by omega
  first
   |(rw[az Q]at c;exact absurd c (by decide))
   |(simp at c;omega)
 cases f with
 |cons j w=>
  cases w;cases j with
  |list o b=>exact⟨_,_,ns,rfl,rfl,o,Li ns _ b,hlen⟩
def FY (l:OpenLaw)(args:List WData):l.row.toRowW.claim.post args (.bool true) args=true:=
 postW_of (r:=l.row.toRowW) (X:=(true==true))
  (show WShape.has [] (.bool true) .bool=true by first|rfl|decide|simp[WShape.has,WShape.arms,WShape.armsAll])
  (show(WTm.eq .res (.lit (.bool true))).value [] { args:=args,res:=some (.bool true),after:=args }=some (.bool (true==true)) from w_eq_bool (w_res rfl) w_lit) rfl
def IM {l:OpenLaw}{q:Program}{loose:b9}{P:World->Heap->Prop}{d:DefRec}
  (hn:l.most=some n)(e:d.params.defaults=[])
  (call:∀(w:World)(S s:Shared)(mg mb:cg)(b:Addr)(o:Obj)(pm cd doc:Value)(a:Addr)(vs:bX)(ns:bV),
   Ground q loose [] XP w S mg mb s.heap->P w s.heap->
   s.heap.get? b=some o->o.data=.func (docDef d.name d.params d.body d.scope pm cd doc)->s.heap.CodeRec cd d.name->mg d.name=some (.ref b)->
   s.heap.get? a=some { cls:=.type "list",data:=.seq vs.toArray }->IntsAre vs ns->ns.length<=n->s.gens=#[]->
   codeAny (model l.prog w) callerA (.call (.ref b) ⟨[.ref a],[]⟩) (λr s'=>r=.ok (.ret (.bool true))/\OldK s.heap s'.heap/\s'.os=s.os/\AllBare s'.gens) s):
  WalkO q loose XP P l.row.toRowW d [] (λf vs=>PySem.call f vs):=by
 intro w S s mg mb G Y b o pm cd doc A kV p hd i D g u args vals as h y j c t;obtain rfl:A=.none:=Dflts.none D e;obtain rfl:kV=.none:=Dflts.noKw D;obtain⟨a,vs,ns,rfl,rfl,H,hints,hlen⟩:=Fo hn h c;refine enter_call (codeAny_mono (call w S s mg mb b o pm cd doc a vs ns G Y p (fd_plain hd) i g H hints hlen u) λr s' k=>?_);obtain⟨rfl,z,x,v⟩:=k;exact⟨.inl ⟨.bool true,.bool true,[],rfl,λ_=>rfl,.bool true,FY l _,λ_=>⟨List.Pairwise.nil,λ_ hm=>(nomatch hm)⟩⟩,z,x,v⟩
end Att
namespace L2
open PySem PySem.Spec PyProof.Rows
theorem Ke:∀{vs:bX}{ns:bV},IntsAre vs ns->Vals (ns.map V.int) vs
 |_,_,.nil=>.nil|_,_,.cons n t h=>.cons ⟨t,rfl⟩ (Ke h)
noncomputable abbrev Mw {K:Frag}(_:K.In h):Frag:=K
noncomputable def QP (s:Stmt):Arguments:=match s with
 |.FunctionDef _ a _ _ _ _ _ _ _ _=>a|_=>{ posonlyargs:=[],args:=[],vararg:=none,kwonlyargs:=[],kw_defaults:=[],kwarg:=none,defaults:=[] }
noncomputable def wz (s:Stmt):cu:=match s with
 |.FunctionDef _ _ b _ _ _ _ _ _ _=>b|_=>[]
noncomputable def qE (s:Stmt):Scope:=match s with
 |.FunctionDef _ _ _ _ _ _ sc _ _ _=>sc|_=>{ kind:=.function,names:=[],isGenerator:=false,isCoroutine:=false }
noncomputable abbrev gU:gT:=λ_ _ _ _ _ _=>False
noncomputable abbrev E0:XK:=λ_ _ _=>False
def dZ:Passes gU X E0:=λ_ _ _ _ _ _ _ h=>h.elim
structure w6 (K:Frag)(x qual:Str)(st:Stmt)(f:Addr)(fd:FuncData):Prop where
 ex:∃(oc:Value) (od:cq) (kV doc pm:Value) (an:cq) (cdv ct:Value) (osl:Array (Option Value)),
  fd=fnOf x qual (QP st) (wz st) (qE st) .none kV doc pm an cdv ct/\K.lookup f=some ⟨oc,od,.func fd,osl⟩/\codeIn K cdv qual=true
 kp:keepIn K (.ref f)=true
section
variable {K:Frag}
def w6.ok {st:Stmt}{sp:Sp}(F:w6 K x qual st f fd)(S:jg N ps (qE st))(len:∀vs H Q E,sp vs H Q E->vs.length=ps.length)
  (y:∀(c:Value)(A:Around)(outer:ck)(s:Shared)(H:Hp)(vs:List V)(Q:VK)(E:XK),jv k (A.deeper (envOfC qual (qE st) s.heap.objs.size f c))->sp vs H Q E->
   ∃t,yY (gn gU P w K mg base N qual (qE st) f c A outer s H E).nox (wz st) t/\t { nx:=λ_ a=>Q .non a,rt:=Q } (start N vs) H):km P w K mg base gU (k+1) f fd ps sp:=by
 obtain⟨e,b,kV,doc,pm,an,c,ct,o,rfl,lk,d⟩:=F.ex;refine Uz lk d S len λA outer s H vs Q E r p=>?_;obtain⟨t,h,q⟩:=y c A outer s H vs Q E r p;exact⟨t,h.nox,q⟩
def w6.binds {st:Stmt}(F:w6 K x qual st f fd)
  (h:∀(kV doc pm:Value)(an:cq)(c ct:Value)(us:bX),us.length=ps.length->bindArgs (fnOf x qual (QP st) (wz st) (qE st) .none kV doc pm an c ct) ⟨us,[]⟩=pure (ps.zip us)):Binds K fd ps []:=by
 obtain⟨a,d,kV,doc,pm,an,c,ct,o,rfl,lk,H⟩:=F.ex;exact .all (h kV doc pm an c ct)
def d0 {st:Stmt}{a:Value}{o an:cq}{kV doc pm C ct:Value}(l:K.lookup f=some ⟨a,o,.func (fnOf x qual (QP st) (wz st) (qE st) .none kV doc pm an C ct),osl⟩)
  (c:codeIn K C qual=true)(k:keepIn K (.ref f)=true):w6 K x qual st f (fnOf x qual (QP st) (wz st) (qE st) .none kV doc pm an C ct):=⟨⟨a,o,kV,doc,pm,an,C,ct,osl,rfl,l,c⟩,k⟩
end
def NZ {A:Around}(h:jv k A):A.units+1<cLine:=Nat.lt_of_le_of_lt (Nat.add_le_add_left (by decide:1<=64) _) h.units
section
variable {κ:Type}[DecidableEq κ]
noncomputable def wX (kvs:List (κ×V))(k:κ):Option V:=(kvs.find? λK=>decide (K.1=k)).map (·.2)
noncomputable def putK (kvs:List (κ×V))(k:κ)(v:V):List (κ×V):=
 if (kvs.any λK=>decide (K.1=k))=true then kvs.map (λK=>if K.1=k then(K.1,v) else K) else kvs++[(k,v)]
def VA {p:κ×V}{r:List (κ×V)}{k:κ}(e:p.1=k):wX (p::r) k=some p.2:=by simp[wX,find?_cons,e]
def Vt {p:κ×V}{r:List (κ×V)}{k:κ}(e:¬p.1=k):wX (p::r) k=wX r k:=by simp[wX,find?_cons,e]
theorem PU (k:κ):∀kvs:List (κ×V),(kvs.any λK=>decide (K.1=k))=(wX kvs k).isSome
 |[]=>rfl|p::r=>by
  rw[any_cons]
  by_cases e:p.1=k
  ·simp only[VA e,az e,Bool.true_or,isSome_some]
  ·rw[Vt e,aD e,Bool.false_or];exact PU k r
def IY (kvs:List (κ×V))(k:κ)(v:V):(putK kvs k v).length<=kvs.length+1:=by
 unfold putK
 split
 ·rw[ah];omega
 ·rw[ak,bb,length_nil];omega
def Cd {kvs:List (κ×V)}{k:κ}(v:V)(h:wX kvs k=none):putK kvs k v=kvs++[(k,v)]:=by
 unfold putK;rw[PU,h];exact aj (by decide)
def KV.val {kvs:List (κ×V)}{vs:List (κ×Value)}(r:KV kvs vs)(k:κ):Qs (wX kvs k) (valueAt vs k):=by
 unfold KV at r
 induction r with
 |nil=>exact True.intro|@cons p q ps Q h t i=>
  obtain⟨H,a⟩:=h
  by_cases e:p.1=k
  ·have E:q.1=k:=H.symm.trans e
   have b:valueAt (q::Q) k=some q.2:=by simp[valueAt,find?_cons,E]
   rw[VA e,b];exact a
  ·have E:¬q.1=k:=λz=>e (H.trans z)
   have b:valueAt (q::Q) k=valueAt Q k:=by simp[valueAt,find?_cons,E]
   rw[Vt e,b];exact i
theorem KV.any {kvs:List (κ×V)}{vs:List (κ×Value)}(r:KV kvs vs)(k:κ):(kvs.any λK=>decide (K.1=k))=vs.any λK=>decide (K.1=k):=by
 unfold KV at r
 induction r with
 |nil=>rfl|cons h t i=>rw[any_cons,any_cons,i,h.1]
def KV.repl {kvs:List (κ×V)}{vs:List (κ×Value)}(r:KV kvs vs)(k:κ){y:V}(a:RelV y u):
  KV (kvs.map λK=>if K.1=k then(K.1,y) else K) (vs.map λK=>if K.1=k then(K.1,u) else K):=by
 unfold KV at r ⊢
 induction r with
 |nil=>exact .nil|@cons p q ps Q h t i=>
  rw[aN,aN];refine .cons ?_ i;obtain⟨H,b⟩:=h
  by_cases e:p.1=k
  ·rw[ag e,ag (H.symm.trans e)];exact⟨H,a⟩
  ·rw[aj e,aj (λz=>e (H.trans z))];exact⟨H,b⟩
def KV.put {kvs:List (κ×V)}{vs:List (κ×Value)}(r:KV kvs vs)(k:κ){y:V}(a:RelV y u):KV (putK kvs k y) (stored vs k u):=by
 unfold putK stored;rw[r.any k]
 by_cases e:(vs.any λK=>decide (K.1=k))=true
 ·rw[ag e,ag e];exact r.repl k a
 ·rw[aj e,aj e];exact Paired.snoc r ⟨rfl,a⟩
theorem KV.length {kvs:List (κ×V)}{vs:List (κ×Value)}(r:KV kvs vs):kvs.length=vs.length:=Paired.length r
end
def NY {k:Key}(r:RelV (kV k) u):(jx P w).is k u=true:=by
 cases k with
 |inl i=>obtain⟨t,e⟩:=(show ∃t,u=Value.int i t from r);subst e;exact He P w i t|inr x=>obtain⟨t,e⟩:=(show ∃t,u=Value.str x t from r);subst e;exact IX P w x t
theorem Pl:∀{ks:List Key}{us:bX},Vals (ks.map kV) us->ItemsAre (jx P w) ks us
 |[],_,r=>by rw[map_nil]at r;cases r;exact .nil|k::ks,_,r=>by
  rw[aN]at r;cases r with
  |cons h t=>exact .cons (NY h) (Pl t)
section
def d1 {u:HO}(ok:ye P w H h)(e:Rd H a u):jh P w H h a u:=e.ok ok
def d3 {kvs:List (Key×V)}(ok:ye P w H h)(e:Rd H a (.dK kvs)):kvs.length<=sizeLine/\(a==sysModules)=false/\∃vs,KV kvs vs/\h.DictOf (jx P w) a vs:=
 show jh P w H h a (.dK kvs) from d1 ok e
def N0 {kvs:List (Key×V)}(ok:ye P w H h)(e:H a=some (.dK kvs)):kvs.length<=sizeLine/\(a==sysModules)=false/\∃vs,KV kvs vs/\h.DictOf (jx P w) a vs:=d3 ok (.inl e)
end
section
def Inv.big (I:Inv X pins σ H s):sysModules<s.heap.objs.size:=by
 have h:mainGlobals<s.heap.objs.size:=(I.mod.glob.keeps I.bk).lt;exact lt_trans (by decide) h
def CU {ob:HO}(I:Inv X pins σ H s)(M:Wa (H a))(h:Heap.SameBut a s.heap h')(he:∃q,h'.get? a=some q)(new:jh X.prog X.w (upd H a ob) h' a ob):
  Inv X pins σ (upd H a ob) { s with heap:=h',toks:=t' }:=
 I.write (x:=a) (e:=a) M (.inl rfl) (λb q c z=>(h.2 b c).trans z) he new
def d4 {H:Hp}{kvs:List (Key×V)}{vs:List (Key×Value)}(z:kvs.length<=sizeLine)(hd:(a==sysModules)=false)(rel:KV kvs vs)(dd:h'.DictOf (jx P w) a vs):
  jh P w H h' a (.dK kvs):=⟨z,hd,vs,rel,dd⟩
end
def U2 (i:Expr):Prop:=∀o I,subscripted i false o I=operate [o,I] (getItem o I)
def C4 {prog:Program}{A:Around}{value slice:Expr}{T id:String}
  (l:typeLookup (.type T) "__getitem__"=pure (some (.builtin id)))(e:U2 slice)
  (h:wpAny (model prog w) A (eval value env) (λo b=>wpAny (model prog w) A (eval slice env) (λi S=>S.TypeIs o T/\wpAny (model prog w) A (getItem o i) Q E S) E b) E s):
  wpAny (model prog w) A (eval (.Subscript value slice pos) env) Q E s:=by
 refine Subscript_ (wpAny_mono h (λo b d=>wpAny_mono d (λi S H=>?_) λ_ _ x=>x) λ_ _ x=>x);obtain⟨hT,H⟩:=H;unfold subscriptTail;refine cw ?_;rw[getitemInPython_of_ne hT.not_modules];refine cw (wpAny_specialOf hT l ?_);have fin:wpAny (model prog w) A (subscripted slice false o i) (λr a=>wpAny (model prog w) A (letTemporaryGo value o r >>= λ_=>pure r) Q E a) E S:=by
  rw[e o i];exact wpAny_operating (wpAny_mono H (λr a c=>cw (wpAny_letTemporaryGo (cx c))) λ_ _ x=>x)
 first
  |exact cx (cw fin)
  |exact cw (cx (cw fin))
  |exact cw fin
def DQ (h:Heap)(b:sysModules<h.objs.size):jh P w H (h.push { cls:=.type "dict",data:=.dict #[] }) h.objs.size (.dK []):=
 ⟨zero_le _,beq_eq_false_iff_ne.mpr (Ne.symm (aK b)),[],.nil,Heap.DictOf.new h⟩
def AL:TE:=λ_ H Q=>∀p,H p=none->Q (.ref p) (upd H p (.dK []))
section
def D7:PE X (.Dict [] [] pos) AL:=λpins s σ H Q I h=>
 wpAny_Dict_empty ⟨.ref s.heap.objs.size,_,I.laid (a:=s.heap.objs.size) (o:=.dK []) (t':=s.toks) (λ_ _ q=>ae _ q) (av _) (DQ s.heap I.big),rfl,h _ (I.hok.fresh (av _))⟩
end
noncomputable def kT (env:Env):List (Str×NameKind)->List (Str×Addr)->List (Str×Addr)
 |[],acc=>acc|(n,k)::r,acc=>kT env r (if k==.free then(n,(env.cells.lookup n).getD 0)::acc else acc)
def DZ (f:Str×NameKind->List (Str×Addr)->Sem (ForInStep (cm)))
  (hf:∀n k r,f (n,k) r=if (k==NameKind.free)=true then(do let c <- cellOf env n;pure (ForInStep.yield ((n,c)::r))) else pure (ForInStep.yield r)):
  ∀(names:List (Str×NameKind))(acc:cm),(∀y∈names,y.2=.free->∃c,env.cells.lookup y.1=some c)->(forIn names acc f:Sem (cm))=pure (kT env names acc):=by
 intro names
 induction names with
 |nil=>intro acc _;rfl|cons y r i=>
  intro acc b;obtain⟨n,k⟩:=y;rw[forIn_cons,hf];unfold kT;have h:=i (if k==.free then(n,(env.cells.lookup n).getD 0)::acc else acc) (λy g=>b y (aq _ g))
  by_cases a:k=.free
  ·subst a
   obtain⟨c,d⟩:=b (n,.free) ay rfl;have e:cellOf env n=pure c:=by unfold cellOf;rw[d]
   have H:List.lookup n env.cells=some c:=d;simp only[e,H,Option.getD_some,bp,if_true]at h ⊢;exact h
  ·have j:(k==NameKind.free)=false:=by simpa using a
   simp only[j,bc,if_false]at h ⊢;exact h
def RQ (h:∀y∈scope.names,y.2=.free->∃c,env.cells.lookup y.1=some c):closureFor scope env=pure (kT env scope.names []):=by
 unfold closureFor;dsimp only;rw[DZ _ (λn k r=>rfl) scope.names [] h]
 rfl
theorem Jr {n:Str}:∀(names:List (Str×NameKind))(acc:cm),(n,c)∈kT env names acc->(n,c)∈acc∨((n,NameKind.free)∈names/\c=(env.cells.lookup n).getD 0)
 |[],acc,h=>.inl h|(x,k)::r,acc,h=>by
  unfold kT at h;rcases Jr r _ h with h|⟨d,a⟩
  ·by_cases H:k=.free
   ·subst H
    simp only[bp,if_true]at h;rcases cz.mp h with e|h
    ·cases e;exact .inr ⟨ay,rfl⟩
    ·exact .inl h
   ·have b:(k==NameKind.free)=false:=by simpa using H
    simp only[b,bc,if_false]at h;exact .inl h
  ·exact .inr ⟨aq _ d,a⟩
theorem WM {n:Str}:∀(names:List (Str×NameKind))(acc:cm),((n,NameKind.free)∈names∨(acc.lookup n).isSome=true)->((kT env names acc).lookup n).isSome=true
 |[],acc,h=>by
  rcases h with h|h
  ·cases h
  ·exact h
 |(x,k)::r,acc,h=>by
  unfold kT;refine WM r _ ?_;rcases h with h|h
  ·rcases cz.mp h with e|h
   ·cases e
    right
    simp
   ·exact .inl h
  ·right
   by_cases H:(k==NameKind.free)=true
   ·rw[ag H,lookup_cons]
    cases a:n==x
    ·exact h
    ·rfl
   ·rw[aj H];exact h
theorem XS {n:Str}:∀(names:List (Str×NameKind))(k:Nat)(acc:cm),(n,c)∈cellsFrom k names acc->(n,c)∈acc∨(k<=c/\(n,NameKind.cell)∈names)
 |[],_,_,h=>.inl h|(x,q)::r,k,acc,h=>by
  unfold cellsFrom at h
  by_cases a:(q==NameKind.cell)=true
  ·rw[ag a]at h
   have H:q=.cell:=by simpa using a
   rcases XS r _ _ h with h|⟨d,b⟩
   ·rcases cz.mp h with e|h
    ·cases e;subst H;exact .inr ⟨av _,ay⟩
    ·exact .inl h
   ·exact .inr ⟨by omega,aq _ b⟩
  ·rw[aj a]at h
   rcases XS r _ _ h with h|⟨d,b⟩
   ·exact .inl h
   ·exact .inr ⟨d,aq _ b⟩
theorem XU:∀(names:List (Str×NameKind))(k:Nat)(acc:cm),(∀n c,(n,c)∈acc->c<k)->(∀n N c,(n,c)∈acc->(N,c)∈acc->n=N)->∀n N c,(n,c)∈cellsFrom k names acc->(N,c)∈cellsFrom k names acc->n=N
 |[],_,_,_,hi,n,N,c,h,h'=>hi n N c h h'|(x,q)::r,k,acc,l,hi,n,N,c,h,h'=>by
  unfold cellsFrom at h h'
  by_cases a:(q==NameKind.cell)=true
  ·rw[ag a]at h h'
   refine XU r (k+1) ((x,k)::acc) (λm d hm=>?_) (λm M d hm H=>?_) n N c h h'
   ·rcases cz.mp hm with e|hm
    ·cases e;exact bo _
    ·exact ba (l m d hm)
   ·rcases cz.mp hm with e|hm
    ·rcases cz.mp H with E|H
     ·cases e;cases E;rfl
     ·cases e;exact absurd (l M _ H) (aV _)
    ·rcases cz.mp H with E|H
     ·cases E;exact absurd (l m _ hm) (aV _)
     ·exact hi m M d hm H
  ·rw[aj a]at h h'
   exact XU r k acc l hi n N c h h'
theorem XO {n:Str}:∀(names:List (Str×NameKind))(h:Heap)(acc:cm),(n,c)∈cellsFrom h.objs.size names acc->(n,c)∈acc∨(pushCells h names).IsCell c none
 |[],_,_,q=>.inl q|(x,k)::r,h,acc,q=>by
  unfold cellsFrom at q;unfold pushCells
  by_cases H:(k==NameKind.cell)=true
  ·rw[ag H]at q ⊢
   have:=XO r (h.push { cls:=.type "cell",data:=.cell none }) ((x,h.objs.size)::acc) (by rw[bf];exact q)
   rcases this with z|z
   ·rcases cz.mp z with e|z
    ·cases e
     exact .inr ⟨_,pushCells_keeps r _ _ _ (au _ rfl),rfl⟩
    ·exact .inl z
   ·exact .inr z
  ·rw[aj H]at q ⊢
   exact XO r h acc q
def La {A:Around}{globals:Addr}{cl:cm}{Q:Env->Shared->Prop}
  (h:Q { scope,locals:=s.heap.objs.size,globals,cells:=cellsFrom (s.heap.objs.size+1) scope.names cl,qual,func:=none,code:=env.code,frame:=env.frame,builtins:=env.builtins }
   { s with heap:=pushCells (s.heap.push { cls:=.type "dict",data:=.dict #[] }) scope.names }):
  wpAny M A (newFunctionEnv scope globals cl [] qual none .none (some env)) Q E s:=by
 simp only[newFunctionEnv,isSome_some,if_true];refine cw (wpAny_alloc ?_);refine cw (wpAny_layCells _ (λname kind cells=>by cases H:kind==NameKind.cell<;>simp[H]) _ _ _ _ ?_)
 rw[show({ s with heap:=s.heap.push { cls:=.type "dict",data:=.dict #[] } }:Shared).heap.objs.size=s.heap.objs.size+1 from bf ..]
 rw[forIn_nil];exact cw (cx (cx h))
def jo (X:Cx)(N:b9)(scope:Scope)(s:Shared)(H:Hp)(fp:bY)(xe:cb):Cx where
 prog:=X.prog
 w:=X.w
 K:=X.K
 mg:=X.mg
 base:=X.base
 A:=X.A
 N:=N
 s0:=s
 H0:=H
 env:={ scope:=relabel scope X.env,locals:=s.heap.objs.size,globals:=X.env.globals,cells:=cellsFrom (s.heap.objs.size+1) scope.names (kT X.env scope.names []),qual:=X.env.qual,func:=none,code:=X.env.code,frame:=X.env.frame,builtins:=X.env.builtins }
 outer:=X.stack
 stack:=X.stack
 ex:=fp
 fn:=λx=>scope.names.lookup x==some .local || scope.names.lookup x==some .cell
 calm:=X.calm
 pn:=[]
 xe:=xe
structure Zb (X:Cx)(scope:Scope):Prop where
 kind:scope.kind=.function
 nd:(scope.names.map (·.1)).Nodup
 free:∀y∈scope.names,y.2=.free->X.env.kindOf y.1=some .cell∨X.env.kindOf y.1=some .free
theorem J9 {k:α}:∀{l:List (Str×α)},(l.map (·.1)).Nodup->(x,k)∈l->l.lookup x=some k
 |(y,q)::r,nd,h=>by
  rw[aN,List.nodup_cons]at nd;rw[lookup_cons];rcases cz.mp h with e|h
  ·cases e;simp
  ·have ne:(x==y)=false:=by
    rw[beq_eq_false_iff_ne];intro e
    apply nd.1
    rw[<- e];exact List.mem_map_of_mem (f:=(·.1)) h
   rw[ne];exact J9 nd.2 h
def XN {k:NameKind}(h:(relabel scope env).names.lookup x=some k):scope.names.lookup x=some k∨(k=.cell/\scope.names.lookup x=some .free/\env.kindOf x=some .cell):=by
 unfold relabel at h;dsimp only at h;generalize scope.names=names at h ⊢
 induction names with
 |nil=>cases h|cons y r i=>
  obtain⟨n,q⟩:=y;rw[aN]at h;have split:(if (q==NameKind.free&&env.scope.kind==.function&&env.kindOf n==some .cell)=true then(n,NameKind.cell) else(n,q)).1=n:=by split<;>rfl
  rw[lookup_cons]at h ⊢;dsimp only at h;rw[split]at h;cases a:x==n with
  |false=>rw[a]at h;exact i h|true=>
   rw[a]at h;have e:x=n:=aM.mp a;subst e
   by_cases H:(q==NameKind.free&&env.scope.kind==.function&&env.kindOf x==some .cell)=true
   ·rw[ag H]at h
    simp only[ar,aM]at H;cases h
    right
    exact⟨rfl,by rw[H.1.1],H.2⟩
   ·rw[aj H]at h
    left
    exact h
section
def Inv.capt (I:Inv X pins σ H s)(S:Zb X scope)(h:(x,NameKind.free)∈scope.names):∃c,X.env.cells.lookup x=some c:=I.ok.has x (S.free _ h rfl)
def Kl (I:Inv X pins σ H s)(S:Zb X scope)(h:(x,c)∈cellsFrom (s.heap.objs.size+1) scope.names (kT X.env scope.names [])):
  ((x,NameKind.free)∈scope.names/\X.env.cells.lookup x=some c/\c<s.heap.objs.size)∨((x,NameKind.cell)∈scope.names/\s.heap.objs.size<c/\∀h0:Heap,h0.objs.size=s.heap.objs.size+1->(pushCells h0 scope.names).IsCell c none):=by
 rcases XS _ _ _ h with b|⟨b,d⟩
 ·left
  rcases Jr _ _ b with z|⟨z,e⟩
  ·cases z
  ·obtain⟨C,a⟩:=I.capt S z
   rw[a]at e;have E:c=C:=e;subst E;obtain⟨v,q⟩:=I.cell x c a;exact⟨z,a,q.lt⟩
 ·right
  refine⟨d,b,λh0 f=>?_⟩;have h':=h;rw[<- f]at h';rcases XO _ h0 _ h' with z|z
  ·exfalso
   rcases Jr _ _ z with z|⟨z,e⟩
   ·cases z
   ·obtain⟨C,a⟩:=I.capt S z
    rw[a]at e;have E:c=C:=e;subst E;obtain⟨v,q⟩:=I.cell x c a;exact aV _ (aE (ba q.lt) b)
  ·exact z
def Dm {xe:cb}{f:St}(I:Inv X pins σ H s)(S:Zb X scope)(hf:∀b∈fp,kY X pins H b)(A:∀b∈fp,b<s.heap.objs.size)(hl:f.length=N.length)
  (hs:∀(j:Nat)(x:Str)(v:V),N[j]? =some x->f[j]? =some (some v)->(x,NameKind.free)∈scope.names/\∃i:Nat,X.N[i]? =some x/\σ[i]? =some (some v)):
  Inv (jo X N scope s H fp xe) [] f H { s with heap:=pushCells (s.heap.push { cls:=.type "dict",data:=.dict #[] }) scope.names }:=by
 have M:∀b o,s.heap.get? b=some o->(pushCells (s.heap.push { cls:=.type "dict",data:=.dict #[] }) scope.names).get? b=some o:=λb o e=>pushCells_keeps _ _ _ _ (ae _ e);have hsz:(s.heap.push { cls:=.type "dict",data:=.dict #[] }).objs.size=s.heap.objs.size+1:=bf ..;have l:∀{x:Str}{c:Addr},(jo X N scope s H fp xe).env.cells.lookup x=some c->(x,c)∈cellsFrom (s.heap.objs.size+1) scope.names (kT X.env scope.names []):=λh=>PySem.mem_of_lookup h;have L:∀{x:Str},((jo X N scope s H fp xe).env.kindOf x=some .cell∨(jo X N scope s H fp xe).env.kindOf x=some .free)->∃c,(jo X N scope s H fp xe).env.cells.lookup x=some c:=λ {x} h=>by
  refine Option.isSome_iff_exists.mp (cellsFrom_some _ _ _ ?_);have two:scope.names.lookup x=some .cell∨scope.names.lookup x=some .free:=by
   rcases h with h|h
   ·rcases XN h with z|⟨_,z,_⟩
    ·exact .inl z
    ·exact .inr z
   ·rcases XN h with z|⟨z,_⟩
    ·exact .inr z
    ·cases z
  rcases two with z|z
  ·exact .inl z
  ·exact .inr (WM _ _ (.inl (PySem.mem_of_lookup z)))
 have exP:∀b∈fp,∀x c,(jo X N scope s H fp xe).env.cells.lookup x=some c->c≠b:=λb a x c e=>by
  rcases Kl I S (l e) with ⟨_,q,_⟩|⟨_,q,_⟩
  ·exact(hf b a).2.2.2.2.1 x c q
  ·intro z;subst z;exact aV _ (lt_trans q (A _ a))
 refine⟨⟨I.ok.mod,S.kind,I.ok.glob,I.ok.blt,av _,λx y c h1 J=>?_,λx h=>L h,λx c g h=>?_,I.ok.hd,I.ok.frames,.inl rfl,λb a=>⟨?_,exP b a⟩,I.bs,bg I.ok.bsz I.sz,λb o e a=>?_,λb a z=>?_,I.stack,I.stkFree⟩,
  rfl,I.bare,Un.kept M,⟨λ_=>none,?_,λj x v h1 J Y=>?_⟩,λx c e=>?_,I.fresh,λx c e=>?_,λp hp=>?_,I.hok.kept M,hl⟩
 ·refine XU _ _ _ (λn c h=>?_) (λn n' c h h'=>?_) x y c (l h1) (l J)
  ·rcases Jr _ _ h with z|⟨z,e⟩
   ·cases z
   ·obtain⟨c',D⟩:=I.capt S z
    rw[D]at e;have P:c=c':=e;subst P;obtain⟨v,q⟩:=I.cell n c D;exact ba q.lt
  ·rcases Jr _ _ h with z|⟨z,e⟩
   ·cases z
   ·rcases Jr _ _ h' with Z|⟨Z,P⟩
    ·cases Z
    ·obtain⟨d,hd⟩:=I.capt S z
     obtain⟨d',B⟩:=I.capt S Z;rw[hd]at e;rw[B]at P;have K:c=d:=e;have e2:c=d':=P;subst K;subst e2;exact I.ok.inj _ _ _ hd B
 ·rcases Kl I S (l h) with ⟨z,_,_⟩|⟨_,z,_⟩
  ·exfalso
   have K:=J9 S.nd z;have t:(scope.names.lookup x==some .local || scope.names.lookup x==some .cell)=true:=g;rw[K]at t;cases t
  ·exact bz z
 ·exact aK (A b a)
 ·obtain⟨_,_,_,E,_⟩:=hf b a
  rcases E with E|E
  ·exact I.ok.noex b o e E
  ·exact absurd (aE (aF e) (bg I.ok.bsz E)) (aV _)
 ·obtain⟨_,J,Y,_⟩:=hf b a
  rcases cz.mp (I.stkSub b z) with e|e
  ·exact J e
  ·exact Y e
 ·exact(Heap.Ns.new s.heap (.type "dict")).keeps (pushCells_keeps _ _)
 ·obtain⟨g,i,K,e2⟩:=hs j x v h1 J
  obtain⟨m,hn,U⟩:=I.loc;have Q:Y1 X.env.scope x:=.inr (S.free _ g rfl);obtain⟨u,r,lk⟩:=U i x v K e2 Q;refine⟨u,r,.inr ?_⟩;have w:(jo X N scope s H fp xe).env.kindOf x=some .cell∨(jo X N scope s H fp xe).env.kindOf x=some .free:=by
   rcases Y with z|z|z
   ·exfalso
    rcases XN z with Z|⟨Z,_⟩
    ·rw[J9 S.nd g]at Z;cases Z
    ·cases Z
   ·exact .inl z
   ·exact .inr z
  refine⟨w,?_⟩;obtain⟨c,D⟩:=L w;refine⟨c,D,?_⟩;rcases Kl I S (l D) with ⟨_,q,_⟩|⟨q,_,_⟩
  ·rcases lk with ⟨z,_⟩|⟨_,c',C,cell⟩
   ·exfalso
    rcases S.free _ g rfl with k|k<;>(rw[k]at z;cases z)
   ·rw[q]at C;cases C
    exact cell.keeps M
  ·exfalso
   have a1:=J9 S.nd g;have a2:=J9 S.nd q;rw[a1]at a2;cases a2
 ·rcases Kl I S (l e) with ⟨_,q,_⟩|⟨_,_,q⟩
  ·obtain⟨v,z⟩:=I.cell x c q
   exact⟨v,z.keeps M⟩
  ·exact⟨_,q _ hsz⟩
 ·rcases Kl I S (l e) with ⟨_,q,_⟩|⟨_,q,_⟩
  ·exact I.freeC x c q
  ·exact I.hok.fresh (bz q)
 ·have T:p∈([]:bZ):=hp
  cases T
end
abbrev w8:=Addr->St->Hp->(St->Hp->Prop)->Prop
noncomputable def KR (elt:Expr)(gens:List Comprehension)(sc:Scope)(pos:Pos)(d:Nat)(acc:Value)(env:Env)(k:Sem Fin):Sem Fin:=
 match gens[d+1]? with
 |some g'=>do
  let x <- eval g'.iter env
  standAt g'.iter.pos
  let x <- foldedSetIterable g'.iter env x
  let _ <- runOwn (.compStart (.ListComp elt gens sc pos) (d+1) (<- holding [x] (pyIter x)) acc env) env
  k
 |none=>do
  (do let _ <- call (.builtin "list.append") [acc,<- eval elt env])
  k
theorem Aa {d:Nat}{it acc:Value}(h:gens[d]? =some ⟨tg,iter,ifs,0⟩)(H:∀g',gens[d+1]? =some g'->g'.is_async=0):
  compTurn (.ListComp elt gens sc pos) d it acc env=(do
   standAt iter.pos
   match <- pyNext it with
   |none=>pure (.done .next)|some v=>
    letOwnedTupleGo tg it v
    assign tg env v
    let mut ok:=true
    for c in ifs do
     if ok then ok <- isTrue c env (eval c env)
    if ok then KR elt gens sc pos d acc env (again (.compLoop (.ListComp elt gens sc pos) d it acc env))
    else again (.compLoop (.ListComp elt gens sc pos) d it acc env)):=by
 unfold compTurn KR;dsimp only;rw[h];cases hn:gens[d+1]? with
 |none=>rfl|some g'=>
  obtain⟨t',i,f,a⟩:=g';have e:a=0:=H _ hn;subst e
  rfl
def Qw (X:Cx)(ifs:cc)(t:TT):Prop:=
 ∀(pins:bZ)(s:Shared)(σ:St)(H:Hp)(Q:Bool->Hp->Prop),Inv X pins σ H s->t σ H Q->
  wpAny (model X.prog X.w) X.A (forIn ifs true λc r=>if r=true then do let ok <- isTrue c X.env (eval c X.env);pure (ForInStep.yield ok) else pure (ForInStep.yield r)) (TP X pins σ Q) X.xe s
noncomputable def d6:TT:=λ_ H Q=>Q true H
def DL:Qw X [] d6:=λpins s σ H Q I h=>wpAny_tests_nil ⟨H,I,h⟩
def Cc {c:Expr}{t:TT}(h:PT X c t):Qw X [c] t:=λpins s σ H Q I hw=>wpAny_tests_one (h pins s σ H Q I hw)
def wm (X:Cx)(elt:Expr)(gens:List Comprehension)(sc:Scope)(pos:Pos)(d:Nat)(t:w8):Prop:=
 ∀(pins:bZ)(s:Shared)(σ:St)(H:Hp)(D:Addr)(Q:St->Hp->Prop)(k:Sem Fin)(Q':Fin->Shared->Prop)(E:cb),Inv X pins σ H s->t D σ H Q->
  (∀s' a h,Inv X pins a h s'->Q a h->wpAny (model X.prog X.w) X.A k Q' E s')->wpAny (model X.prog X.w) X.A (KR elt gens sc pos d (.ref D) X.env k) Q' E s
def d7 (t:TE):w8:=λD σ H Q=>t σ H λy H1=>∃ys,H1 D=some (.lst ys)/\ys.length<sizeLine/\Q σ (upd H1 D (.lst (ys++[y])))
def YM (J:It)(g:TG)(ti:TT)(tm:w8):w8:=λD σ H Q=>∃W:Nat->Nat->St->Hp->Prop,(∃m,W 0 m σ H)/\∀i m σ H,W i m σ H->
 (J.stop i H/\Q σ H)∨(J.go i H/\∃N:St->Hp->Prop,(∀c h,N c h->∃M,M<m/\W (i+1) M c h)/\∀x h,J.yld i H x h->g x σ h λa H1=>ti a H1 λb d=>if b=true then tm D a d N else N a d)
def d8 (wi:TI)(g:TG)(ti:TT)(tm:w8):w8:=λD σ H Q=>wi σ H λJ H1=>YM J g ti tm D σ H1 Q
section
variable {d:Nat}
def Yz (h:∀e s,X.xe e s->False){t:Sem α}{Q':α->Shared->Prop}(H:wpAny (model X.prog X.w) X.A t Q' X.xe s'):wpAny (model X.prog X.w) X.A t Q' E s':=
 wpAny_mono H (λ_ _ z=>z) λe s' z=>(h e s' z).elim
def Of {t:TE}(x:∀e s,X.xe e s->False)(he:PE X elt t)(g:gens[d+1]? =none):wm X elt gens sc pos d (d7 t):=by
 intro pins s σ H D Q k Q' E I h b;unfold KR;rw[g];refine cw (cw (Yz x (zZ (he pins s σ H _ I h) λu s1 ⟨y,H1,f,r,ys,c,z,a⟩=>?_)));refine cw (Yz x (zZ (Py pins s1 σ H1 (.ref D) [y] (.ref D) [u] (λ_ l=>Q σ l) f rfl (.cons r .nil) ⟨D,ys,y,rfl,rfl,c,z,a⟩) λ_ s2 ⟨_,j,i,_,q⟩=>?_));exact cx (b s2 σ j i q)
def Ac {g:TG}{ti:TT}{tm:w8}(U:∀e s,X.xe e s->False)(Y:X.calm=true)(hg:gens[d]? =some ⟨tg,iter,ifs,0⟩)(ha:∀g',gens[d+1]? =some g'->g'.is_async=0)(L:PG X tg g)(hi:Qw X ifs ti)(hm:wm X elt gens sc pos d tm)
  {Q:St->Hp->Prop}{J:It}{it:Addr}{z:Nat->Heap->Prop}(T:Turn X.prog X.w X.K tg J fp it z)(I:Inv X pins σ H s)(st:z 0 s.heap)(hf:∀b∈fp,kY X pins H b)
  (h:YM J g ti tm D σ H Q){R:Result->Shared->Prop}(hR:∀s' a c,Inv X pins a c s'->Q a c->R (.ok .next) s'):
  codeAny (model X.prog X.w) X.A (.compLoop (.ListComp elt gens sc pos) d (.ref it) (.ref D) X.env) R s:=by
 obtain⟨W,⟨m0,w0⟩,turn⟩:=h;have S:∀{c:Hp},(∀b∈fp,c b=none)->∀b∈fp,kY X pins c b:=λhn b k=>⟨hn b k,(hf b k).2⟩;refine codeAny_loop rfl (λn s'=>∃i a c,Inv X pins a c s'/\z i s'.heap/\(∀b∈fp,c b=none)/\W i n a c) (λn s3 hI=>?_) m0 ⟨0,σ,H,I,st,λb k=>(hf b k).1,w0⟩;show wpAny _ X.A ((compTurn (.ListComp elt gens sc pos) d (.ref it) (.ref D) X.env).onRaise (λx=>do noteFrame x X.env;theTreesLotGoes x)) _ _ s3
 refine wpAny_noted ?_;rw[Aa hg ha];refine cw (wpAny_standAt ?_);obtain⟨i,j,B,Z,gQ,y,w3⟩:=hI;rcases turn i n j B w3 with ⟨stop,qn⟩|⟨go,N,hN,step⟩
 ·refine cw (zZ (T.done X rfl rfl rfl Y i pins s3 j B _ Z (S y) gQ stop) λr s4 ⟨E,I4⟩=>?_)
  subst E;exact cx (hR s4 j B I4 qn)
 ·refine cw (zZ (T.item X rfl rfl rfl Y i pins s3 j B _ Z (S y) gQ go) λr s4 ⟨u,E,h4⟩=>?_)
  subst E;refine cw (zZ h4 λ_ s5 ⟨x,H5,I5,r5,y5,l,M⟩=>?_);have P:=I5.pinned (S M) (T.obj _ _ l);have back:∀{f:St}{p:Hp}{q:Shared},Inv X (pins++KD fp s5.heap) f p q->N f p->∃m,m<n/\∃i a c,Inv X pins a c q/\z i q.heap/\(∀b∈fp,c b=none)/\W i m a c:=λ {f p q} t n7=>by
   obtain⟨m',hm,w7⟩:=hN f p n7;refine⟨m',hm,i+1,f,p,t.unpinned,T.keep _ _ _ l λb k o e=>(t.pin (b,o) (aS _ (aS _ (WO k e)))).1,λb k=>?_,w7⟩;obtain⟨o,e,d⟩:=T.obj _ _ l b k;exact(t.pin (b,o) (aS _ (aS _ (WO k e)))).2.1
  refine cw (Yz U (zZ (L _ s5 j H5 x u _ P r5 (step x H5 y5)) λ_ s6 ⟨v,H6,I6,q6⟩=>?_));refine cw (Yz U (zZ (hi _ s6 v H6 _ I6 q6) λok q ⟨p,t,C⟩=>?_));cases ok with
  |false=>exact cx ⟨rfl,back t C⟩|true=>
   rw[ag rfl]at C;exact hm _ q v p D _ _ _ _ t C λs8 σ8 H8 I8 q8=>cx ⟨rfl,back I8 q8⟩
def NR {g:TG}{ti:TT}{tm:w8}(i:∀e s,X.xe e s->False)(k:X.calm=true)(c:gens[d]? =some ⟨tg,iter,ifs,0⟩)(o:∀g',gens[d+1]? =some g'->g'.is_async=0)(t:PG X tg g)(j:Qw X ifs ti)(hm:wm X elt gens sc pos d tm)
  {Q:St->Hp->Prop}{J:It}{it:Addr}{n:Nat->Heap->Prop}(T:Turn X.prog X.w X.K tg J fp it n)(I:Inv X pins σ H s)(st:n 0 s.heap)(hf:∀b∈fp,kY X pins H b)
  (h:YM J g ti tm D σ H Q){R:Result->Shared->Prop}(p:∀s' a f,Inv X pins a f s'->Q a f->R (.ok .next) s'):
  codeAny (model X.prog X.w) X.A (.compStart (.ListComp elt gens sc pos) d (.ref it) (.ref D) X.env) R s:=by
 have loop:=Ac i k c o t j hm T I st hf h p;refine codeAny_of_tree ?_;show wpAny _ _ ((compStart (.ListComp elt gens sc pos) d (.ref it) (.ref D) X.env).onRaise (λx=>do noteFrame x X.env;standAt theWindowsPlace)) _ _ s
 refine wpAny_notedAt ?_;unfold compStart;have l:(clausesOf (.ListComp elt gens sc pos))[d]? =some ⟨tg,iter,ifs,0⟩:=c;rw[l];show wpAny _ _ (ask >>= _) _ _ s;refine cw (wpAny_askSetting (wpAny_ite ?_))
 split
 ·first
   |exact cw (cx (cx (And.intro rfl loop)))
   |exact cx (And.intro rfl loop)
 ·first
   |exact cw (wpAny_rule (cw (wpAny_standAt (cw (T.self _ 0 s _ _ st (cx (And.intro rfl loop)))))))
   |(refine cw (wpAny_rule ?_);show wpAny _ _ (standAt iter.pos >>= _) _ _ s;exact cw (wpAny_standAt (cw (T.self _ 0 s _ _ st (cx (And.intro rfl loop))))))
def Dz {wi:TI}{g:TG}{ti:TT}{tm:w8}(b:∀e s,X.xe e s->False)(o:X.calm=true)(c:gens[d+1]? =some ⟨tg,iter,ifs,0⟩)(p:∀g',gens[d+2]? =some g'->g'.is_async=0)(hw:PI X tg iter wi)(t:PG X tg g)(n:Qw X ifs ti)(hm:wm X elt gens sc pos (d+1) tm)
  (j:∀x,foldedSetIterable iter X.env x=pure x:=by intro _;rfl):wm X elt gens sc pos d (d8 wi g ti tm):=by
 intro pins s σ H D Q k Q' E I h l;unfold KR;rw[c];refine cw (Yz b (zZ (hw pins s σ H _ I h) λv s1 u=>?_));refine cw (wpAny_standAt (cw (wpAny_of_eq (j v) ?_)));refine cw (wpAny_holding (Yz b (zZ u λi s2 r=>?_)));obtain⟨it,fp,A,J,B,e,w,T,gB,f2,q⟩:=r;subst e;refine cw (wpAny_runOwn (NR b o c p t n hm T w gB f2 q λs' a z y f=>?_));exact l s' a z y f
end
noncomputable def Zj (nl:Nat)(cap:b8)(σ:St):St:=List.replicate nl none++cap.map λi=>(σ[i]?).join
noncomputable def Qk (M N:b9)(scope:Scope)(nl:Nat)(cap:b8):Bool:=
 N.length==nl+cap.length&&(List.range cap.length).all λk=>match N[nl+k]?,M[cap.getD k 0]? with
  |some x,some y=>x==y&&scope.names.any λz=>z.1==x&&z.2==NameKind.free|_,_=>false
def EH {M:b9}{nl:Nat}(h:Qk M N scope nl cap=true):(Zj nl cap σ).length=N.length/\
  ∀(j:Nat)(x:Str)(v:V),N[j]? =some x->(Zj nl cap σ)[j]? =some (some v)->(x,NameKind.free)∈scope.names/\∃i:Nat,M[i]? =some x/\σ[i]? =some (some v):=by
 unfold Qk at h;rw[ar,aM]at h;obtain⟨n,l⟩:=h;refine⟨by unfold Zj;simp[n],λj x v r E=>?_⟩
 unfold Zj at E
 by_cases b:j<nl
 ·rw[ai (by simpa using b),bC]at E
  split at E<;>cases E
 ·rw[aw (by simpa using b),bh,ax]at E
  cases c:cap[j-nl]? with
  |none=>rw[c]at E;cases E|some i=>
   rw[c]at E;have e:(σ[i]?).join=some v:=aB E;have k:j-nl<cap.length:=(cA.mp c).1;have H:=cD.mp l (j-nl) (cB.mpr k);have p:nl+(j-nl)=j:=by omega
   rw[p,r]at H;have q:cap.getD (j-nl) 0=i:=by rw[af,c];rfl
   rw[q]at H;cases hm:M[i]? with
   |none=>rw[hm]at H;cases H|some y=>
    rw[hm]at H;rw[ar,aM]at H;obtain⟨g,f⟩:=H;subst g;obtain⟨z,d,a⟩:=List.any_eq_true.mp f;rw[ar,aM,aM]at a;refine⟨?_,i,hm,?_⟩
    ·obtain⟨t,Z⟩:=z
     obtain⟨a1,a2⟩:=a;cases a1;cases a2;exact d
    ·cases s:σ[i]? with
     |none=>rw[s]at e;cases e|some o=>rw[s]at e;cases o with
      |none=>cases e|some w=>cases e;rfl
noncomputable abbrev jT:Value->Shared->Prop:=λ_ _=>False
def GQ (K:Frag)(wi:TI)(g:TG)(ti:TT)(tm:w8)(nl:Nat)(cap:b8):TE:=λσ H Q=>wi σ H λJ h=>∀D,h D=none->K.lookup D=none->YM J g ti tm D (Zj nl cap σ) (upd h D (.lst [])) λ_ a=>Q (.ref D) a
section
variable {wi:TI}{g:TG}{ti:TT}{tm:w8}{nl:Nat}
def VS (hc:X.calm=true)(S:Zb X sc)(r:Qk X.N N sc nl cap=true)(ha:∀g',gs[0]? =some g'->g'.is_async=0)(hw:PI X tg iter wi)
  
  (Z:∀s H fp,Inv X pins σ H s->(∀b∈fp,kY X pins H b)->PG (jo X N sc s H fp jT) tg g/\Qw (jo X N sc s H fp jT) ifs ti/\wm (jo X N sc s H fp jT) elt (⟨tg,iter,ifs,0⟩::gs) sc pos 0 tm)
  {Q:VK}(I:Inv X pins σ H s)(h:GQ X.K wi g ti tm nl cap σ H Q)
  {use:Option (Value->Sem Unit)}{Q':cb}
  (n:∀(D C:Addr)(s':Shared)(l:Hp)(m:cg),Inv X pins σ l s'->Q (.ref D) l->s'.heap.Ns C m->l C=none->C≠X.env.locals->X.s0.heap.objs.size<=C->(∀x c,X.env.cells.lookup x=some c->c≠C)->(∀q∈X.pn++pins,q.1≠C)->
   compPost (model X.prog X.w) X.A X.xe use Q' (.ref D) C (.ok .next) s')
  (hs:∀x,foldedSetIterable iter X.env x=pure x:=by intro _;rfl):
  wpAny (model X.prog X.w) X.A (comprehension (.ListComp elt (⟨tg,iter,ifs,0⟩::gs) sc pos) sc X.env p (newList []) false (eval iter X.env) use) Q' X.xe s:=by
 have j:∀y∈sc.names,y.2=.free->∃c,X.env.cells.lookup y.1=some c:=λy U e=>I.ok.has _ (S.free y U e);refine wpAny_comprehension_free (use:=use) rfl hs (RQ j) S.kind (λy U e=>by
  obtain⟨y1,y2⟩:=y;have e':y2=.local:=e;subst e';exact J9 S.nd U) ?_
 refine zZ (hw pins s σ H _ I h) λv s1 h1=>zZ h1 λitv s2 h2=>?_;obtain⟨it,fp,tn,J,L,e,I2,T,gB,f2,q2⟩:=h2;subst e;refine wpAny_newObj_type ?_;have hD:L s2.heap.objs.size=none:=I2.fresh;have hKD:X.K.lookup s2.heap.objs.size=none:=by
  cases ek:X.K.lookup s2.heap.objs.size with
  |none=>rfl|some o=>exact absurd (aF (I2.kIn _ _ ek)) (aV _)
 have P:=q2 _ hD hKD;generalize Y:({ s2 with heap:=s2.heap.push { cls:=.type "list",data:=.seq ([]:bX).toArray } }:Shared)=s3
 have f:s3={ s2 with heap:=s2.heap.push { cls:=.type "list",data:=.seq ([]:bX).toArray } }:=Y.symm
 have i:Inv X pins σ (upd L s2.heap.objs.size (.lst [])) s3:=by
  rw[f];exact I2.laid (t':=s2.toks) (λb u e=>ae _ e) (av _) ⟨by simp,[],0,.nil,au _ rfl⟩
 have t:∀b∈fp,∃o,s2.heap.get? b=some o:=λb a=>let ⟨o,e,_⟩:=T.obj 0 _ gB b a;⟨o,e⟩
 have M:s3.heap.objs.size=s2.heap.objs.size+1:=by rw[f];exact bf ..
 have gQ:tn 0 s3.heap:=T.keep _ _ _ gB λb a o e=>by rw[f];exact ae _ e
 have B:∀b∈fp,b<s3.heap.objs.size:=λb a=>by
  obtain⟨o,e⟩:=t b a;rw[M];exact ba (aF e)
 have E:∀b∈fp,kY X pins (upd L s2.heap.objs.size (.lst [])) b:=λb a=>by
  obtain⟨o,e⟩:=t b a;refine⟨?_,(f2 b a).2⟩;rw[qk (aK (aF e))];exact(f2 b a).1
 generalize upd L s2.heap.objs.size (.lst [])=H3 at i E P;generalize s2.heap.objs.size=D at P ⊢;refine La ?_;obtain⟨cl,cs⟩:=EH r (σ:=σ);have I4:=Dm (xe:=jT) i S E B cl cs;obtain⟨hgt,hi,hm⟩:=Z s3 H3 fp i E;refine NR (X:=jo X N sc s3 H3 fp jT) (gens:=⟨tg,iter,ifs,0⟩::gs) (d:=0) (λ_ _ z=>z) hc rfl ha hgt hi hm T I4 (T.keep _ _ _ gQ λb a o e=>pushCells_keeps _ _ _ _ (ae _ e)) (λb a=>?_) P λs' σ' l k q'=>?_
 ·obtain⟨g1,g2,g3,g4,g5,g6⟩:=E b a
  refine⟨g1,aK (B b a),λz=>?_,.inl a,(I4.ok.exf b a).2,λp hp=>absurd (show p∈([]:bZ) from hp) (by simp)⟩
  rcases cz.mp (i.stkSub b z) with e|e
  ·exact g2 e
  ·exact g3 e
 ·have I5:Inv X pins σ l s':=i.call' k.os k.base k.hok k.bare λb a=>by
   obtain⟨g1,g2,g3,g4,g5,g6⟩:=E b a;exact⟨g4,g2,g5,g6⟩
  obtain⟨m,hn,_⟩:=k.loc;refine n D _ s' l m I5 q' hn k.free (bq i.lt) i.sz (λx c e z=>?_) λq hq z=>?_
  ·obtain⟨v,w⟩:=i.cell x c e
   exact aV _ (aE w.lt (by rw[z];exact av _))
  ·exact aV _ (aE (aF (i.pin q hq).1) (by rw[z];exact av _))
def Ba (d:X.calm=true)(S:Zb X sc)(p:Qk X.N N sc nl cap=true)(i:∀g',gs[0]? =some g'->g'.is_async=0)(hw:PI X tg iter wi)
  (n:∀s H fp,PG (jo X N sc s H fp jT) tg g/\Qw (jo X N sc s H fp jT) ifs ti/\wm (jo X N sc s H fp jT) elt (⟨tg,iter,ifs,0⟩::gs) sc pos 0 tm)
  (c:∀x,foldedSetIterable iter X.env x=pure x:=by intro _;rfl):PE X (.ListComp elt (⟨tg,iter,ifs,0⟩::gs) sc pos) (GQ X.K wi g ti tm nl cap):=by
 intro pins s σ H Q I h;rw[eval_ListComp];refine VS (use:=none) d S p i hw (λs H fp _ _=>n s H fp) I h (λD C s' v m u q hn t r l k j=>?_) c;exact⟨m,hn,λh' a=>⟨.ref D,v,u.turned (t':=s'.toks) (λb o f e=>(a.2 b f).trans e) t r (.inr l) k j,rfl,q⟩⟩
def Hr {p:Pos}{c:Pos}(P:X.N.Nodup)(j:X.N[i]? =some x)(l:X.env.scope.names.lookup x=some .local)
  (w:swapsWith (.ListComp elt (⟨tg,iter,ifs,0⟩::gs) sc pos) (some (.Name x p)) c.line X.env=pure true)
  (J:X.calm=true)(S:Zb X sc)(d:Qk X.N N sc nl cap=true)(M:∀g',gs[0]? =some g'->g'.is_async=0)(hw:PI X tg iter wi)
  (n:∀s H fp,PG (jo X N sc s H fp jT) tg g/\Qw (jo X N sc s H fp jT) ifs ti/\wm (jo X N sc s H fp jT) elt (⟨tg,iter,ifs,0⟩::gs) sc pos 0 tm)
  (B:∀x,foldedSetIterable iter X.env x=pure x:=by intro _;rfl):PS X (.Assign [.Name x p] (.ListComp elt (⟨tg,iter,ifs,0⟩::gs) sc pos) c) (G3 (GQ X.K wi g ti tm nl cap) (GO i)):=by
 intro pins s σ H D I h;rw[exec_Assign_Name_used _ _ _ _ w];refine cw (wpAny_standAt (cw ?_));show wpAny _ X.A (do let _ <- comprehension (.ListComp elt (⟨tg,iter,ifs,0⟩::gs) sc pos) sc X.env _ (newList []) false (eval iter X.env) (some (assign (.Name x p) X.env))) _ _ s
 refine cw (wpAny_mono (VS (use:=some (assign (.Name x p) X.env)) (Q':=λ_ s'=>SP X pins D .next s') J S d M hw (λs H fp _ _=>n s H fp) I h (λu C s' H' m I' q hn U t T r Q=>?_) B) (λ_ s' E=>cx (cx E)) λ_ _ e=>e);show wpAny _ X.A (assign (.Name x p) X.env (.ref u)) _ _ _;refine wpAny_assign_Name (RW I' P j (.inl l) (v:=.ref u) rfl (λs2 Z ⟨a,y,Y⟩=>?_) (.inr l));have k:C≠a:=by
  rcases Y with e|e
  ·rw[e];exact t
  ·exactλz=>r x a e z.symm
 refine⟨m,hn.sameBut y k,λh' f=>⟨_,H',Z.turned (t':=s2.toks) (λb o L e=>(f.2 b L).trans e) U t (.inr T) r Q,q⟩⟩
end
end L2
namespace Mi
open PySem PySem.Spec PyProof.Rows L2
inductive W where
 |non|bl (b:Bool)|int (i:Int)|str (x:Str)|tup (xs:List W)|ref (n:Nat)
 |clo (k:Nat) (xs:List W) (P:Obj->Addr->Obj->List V->Prop)
 |xc (x:Str)
inductive O where
 |lst (xs:List W)|ro (xs:List W)|dct (kvs:List (Key×W))
 |td (kvs:List (List Int×W))
 |tr (kvs:List (List Int×W))
 |tab (q:Str) (P:Addr)
noncomputable def O.mut:O->Bool
 |.ro _=>false|.tr _=>false|_=>true
noncomputable abbrev Hx:=List O
noncomputable abbrev En:=List (Option W)
inductive R (α:Type) where
 |ok (a:α) (A:Hx)|exc (x:Str) (A:Hx)|bad
noncomputable def R.bind {β:Type}(r:R α)(f:α->Hx->R β):R β:=match r with
 |.ok a A=>f a A|.exc x A=>.exc x A|.bad=>.bad
def R.post (r:R α)(P:α->Hx->Prop)(E:Str->Hx->Prop):Prop:=match r with
 |.ok a A=>P a A|.exc x A=>E x A|.bad=>False
noncomputable def R.nox (r:R α):R α:=match r with
 |.ok a A=>.ok a A|.exc _ _=>.bad|.bad=>.bad
section
variable {β:Type}{r:R α}{f:α->Hx->R β}{P Q:α->Hx->Prop}{P':β->Hx->Prop}{E F:Str->Hx->Prop}
def zP {a:α}{A:Hx}:(R.ok a A).bind f=f a A:=rfl
def Oi {A:Hx}:(R.exc x A:R α).bind f=.exc x A:=rfl
def qa:(r.bind f).post P' E↔r.post (λa A=>(f a A).post P' E) E:=by cases r<;>exact Iff.rfl
def qA (h:r.post P E)(H:∀a A,P a A->Q a A)(b:∀x A,E x A->F x A):r.post Q F:=by
 cases r with
 |ok a A=>exact H _ _ h|exc x A=>exact b _ _ h|bad=>exact h
end
abbrev Ev:=En->Hx->R W
inductive zdd (K:Frag)(H:Hp)(R:List V->Prop)(v:V):Prop
 |mk (a:Addr) (vs:List V) (e:v=.ref a) (h:qo K H a vs) (r:R vs)
inductive zde (H:Hp)(P:Obj->Addr->Obj->List V->Prop)(R:List V->Prop)(v:V):Prop
 |mk (a:Addr) (ob:Obj) (u:HO) (c:Addr) (oc:Obj) (uc:HO) (vs:List V) (e:v=.ref a) (h1:H a=some (.frz ob u)) (h2:H c=some (.frz oc uc)) (p:P ob c oc vs) (r:R vs)
inductive zcU (R:V->Prop)(Rs:List V->Prop)(vs:List V):Prop
 |mk (v:V) (r:List V) (e:vs=v::r) (h:R v) (t:Rs r)
mutual
noncomputable def RV (K:Frag)(φ:bY)(H:Hp):W->V->Prop
 |.non,v=>v=.non|.bl b,v=>v=.bl b|.int i,v=>v=.int i|.str x,v=>v=.str x|.tup ws,v=>zdd K H (zD K φ H ws) v|.ref n,v=>∃a,v=.ref a/\φ[n]? =some a|.clo _ ws P,v=>zde H P (zD K φ H ws) v|.xc x,v=>∃a o u C,v=.ref a/\H a=some (.frz o u)/\o.cls=.ref C/\nsIn K mainGlobals x=some (some (.ref C))
noncomputable def zD (K:Frag)(φ:bY)(H:Hp):List W->List V->Prop
 |[],vs=>vs=[]|w::ws,vs=>zcU (RV K φ H w) (zD K φ H ws) vs
end
structure Le (K:Frag)(φ:bY)(H:Hp)(φ':bY)(H':Hp):Prop where
 ex:∀(n:Nat)(a:Addr),φ[n]? =some a->φ'[n]? =some a
 tp:∀a vs,qo K H a vs->qo K H' a vs
 fr:∀a o,H a=some o->(∀n:Nat,φ[n]?≠some a)->H' a=some o
 nw:∀(n:Nat)(a:Addr),φ'[n]? =some a->φ[n]? =some a∨H a=none
 st:∀a,H' a=none->H a=none
 fz:∀a o u,H a=some (.frz o u)->H' a=some (.frz o u)
def Le.refl {K φ H}:Le K φ H φ H:=⟨λ_ _ h=>h,λ_ _ h=>h,λ_ _ h _=>h,λ_ _ h=>.inl h,λ_ h=>h,λ_ _ _ h=>h⟩
def Le.trans {K φ H φ1 H1 φ2 H2}(a:Le K φ H φ1 H1)(b:Le K φ1 H1 φ2 H2):Le K φ H φ2 H2 where
 ex:=λn x h=>b.ex n x (a.ex n x h)
 tp:=λn x h=>b.tp n x (a.tp n x h)
 fr:=λc o h n=>b.fr c o (a.fr c o h n) λk e=>by
  rcases a.nw k c e with e|e
  ·exact n k e
  ·rw[h]at e;cases e
 nw:=λn c e=>by
  rcases b.nw n c e with e|e
  ·exact a.nw n c e
  ·exact .inr (a.st c e)
 st:=λc e=>a.st c (b.st c e)
 fz:=λc o u h=>b.fz c o u (a.fz c o u h)
def Le.off {K φ H φ' H'}(l:Le K φ H φ' H'){o:HO}(h:H D=some o)(n:∀k:Nat,φ[k]?≠some D):H' D=some o/\∀k:Nat,φ'[k]?≠some D:=
 ⟨l.fr D o h n,λk e=>by
  rcases l.nw k D e with e|e
  ·exact n k e
  ·rw[h]at e;cases e⟩
section
variable {K:Frag}{φ':bY}{H':Hp}
structure Zt (K:Frag)(φ:bY)(H:Hp)(φ':bY)(H':Hp):Prop where
 ex:∀(n:Nat)(a:Addr),φ[n]? =some a->φ'[n]? =some a
 tp:∀a vs,qo K H a vs->qo K H' a vs
 fz:∀a o u,H a=some (.frz o u)->H' a=some (.frz o u)
mutual
theorem RV.monoW (l:Zt K φ H φ' H'):∀{w:W}{v:V},RV K φ H w v->RV K φ' H' w v
 |.non,_,h=>h|.bl _,_,h=>h|.int _,_,h=>h|.str _,_,h=>h|.tup ws,_,⟨a,vs,e,t,r⟩=>⟨a,vs,e,l.tp _ _ t,zD.monoW l r⟩|.ref n,_,⟨a,e,f⟩=>⟨a,e,l.ex _ _ f⟩|.clo _ ws P,_,⟨a,ob,u,c,g,uc,vs,e,d,b,i,r⟩=>⟨a,ob,u,c,g,uc,vs,e,l.fz _ _ _ d,l.fz _ _ _ b,i,zD.monoW l r⟩|.xc x,_,⟨a,o,u,C,e,d,b⟩=>⟨a,o,u,C,e,l.fz _ _ _ d,b⟩
theorem zD.monoW (l:Zt K φ H φ' H'):∀{ws:List W}{vs:List V},zD K φ H ws vs->zD K φ' H' ws vs
 |[],_,h=>h|w::ws,_,⟨v,r,e,h,t⟩=>⟨v,r,e,RV.monoW l h,zD.monoW l t⟩
end
def RV.mono {w:W}(h:RV K φ H w v)(l:Le K φ H φ' H'):RV K φ' H' w v:=RV.monoW ⟨l.ex,l.tp,l.fz⟩ h
def zD.mono {w:List W}{v:List V}(h:zD K φ H w v)(l:Le K φ H φ' H'):zD K φ' H' w v:=zD.monoW ⟨l.ex,l.tp,l.fz⟩ h
structure yB (K:Frag)(D:Addr)(φ:bY)(H:Hp)(φ':bY)(H':Hp):Prop where
 ex:∀(n:Nat)(a:Addr),φ[n]? =some a->φ'[n]? =some a
 tp:∀a vs,qo K H a vs->qo K H' a vs
 fr:∀a o,a≠D->H a=some o->(∀n:Nat,φ[n]?≠some a)->H' a=some o
 nw:∀(n:Nat)(a:Addr),φ'[n]? =some a->φ[n]? =some a∨H a=none
 st:∀a,H' a=none->H a=none
 fz:∀a o u,H a=some (.frz o u)->H' a=some (.frz o u)
def yB.refl {D}:yB K D φ H φ H:=⟨λ_ _ h=>h,λ_ _ h=>h,λ_ _ _ h _=>h,λ_ _ h=>.inl h,λ_ h=>h,λ_ _ _ h=>h⟩
def Le.toD {D}(l:Le K φ H φ' H'):yB K D φ H φ' H':=⟨l.ex,l.tp,λa o _ h n=>l.fr a o h n,l.nw,l.st,l.fz⟩
def yB.trans {D φ1 H1 φ2 H2}(a:yB K D φ H φ1 H1)(b:yB K D φ1 H1 φ2 H2):yB K D φ H φ2 H2 where
 ex:=λn x h=>b.ex n x (a.ex n x h)
 tp:=λn x h=>b.tp n x (a.tp n x h)
 fr:=λc o ne h n=>b.fr c o ne (a.fr c o ne h n) λk e=>by
  rcases a.nw k c e with e|e
  ·exact n k e
  ·rw[h]at e;cases e
 nw:=λn c e=>by
  rcases b.nw n c e with e|e
  ·exact a.nw n c e
  ·exact .inr (a.st c e)
 st:=λc e=>a.st c (b.st c e)
 fz:=λc o u h=>b.fz c o u (a.fz c o u h)
def RV.monoD {D}{w:W}(h:RV K φ H w v)(l:yB K D φ H φ' H'):RV K φ' H' w v:=RV.monoW ⟨l.ex,l.tp,l.fz⟩ h
def zD.monoD {D}{w:List W}{v:List V}(h:zD K φ H w v)(l:yB K D φ H φ' H'):zD K φ' H' w v:=zD.monoW ⟨l.ex,l.tp,l.fz⟩ h
theorem zD.length:∀{ws:List W}{vs:List V},zD K φ H ws vs->ws.length=vs.length
 |[],_,h=>by cases h;rfl|w::ws,_,⟨v,r,e,_,t⟩=>by subst e;simp[zD.length t]
theorem zD.get:∀{ws:List W}{vs:List V}{i:Nat}{w:W},zD K φ H ws vs->ws[i]? =some w->∃v,vs[i]? =some v/\RV K φ H w v
 |[],_,_,_,_,e=>by simp at e|w::ws,_,0,_,⟨v,r,e,h,t⟩,q=>by subst e;simp at q;subst q;exact⟨v,by simp,h⟩|w::ws,_,i+1,x,⟨v,r,e,h,t⟩,q=>by
  subst e;obtain⟨y,b,a⟩:=zD.get (i:=i) (w:=x) t (by simpa using q)
  exact⟨y,by simpa using b,a⟩
theorem zD.append:∀{ws us:List W}{vs xs:List V},zD K φ H ws vs->zD K φ H us xs->zD K φ H (ws++us) (vs++xs)
 |[],_,_,_,h,t=>by cases h;exact t|w::ws,_,_,_,⟨v,r,e,h,t⟩,T=>by subst e;exact⟨v,r++_,rfl,h,zD.append t T⟩
def zD.one {w:W}(h:RV K φ H w v):zD K φ H [w] [v]:=⟨v,[],rfl,h,rfl⟩
def zD.nil:zD K φ H [] []:=rfl
def zD.cons {w:W}{v:V}{ws:List W}{vs:List V}(h:RV K φ H w v)(t:zD K φ H ws vs):zD K φ H (w::ws) (v::vs):=⟨v,vs,rfl,h,t⟩
theorem zD.set {w:W}(q:RV K φ H w v):∀{ws:List W}{vs:List V}(i:Nat),zD K φ H ws vs->zD K φ H (ws.set i w) (vs.set i v)
 |[],_,_,h=>by cases h;exact rfl|_::_,_,0,⟨a,r,e,h,t⟩=>by subst e;exact⟨v,r,rfl,q,t⟩|_::_,_,i+1,⟨a,r,e,h,t⟩=>by subst e;exact⟨a,_,rfl,h,zD.set q i t⟩
theorem zD.drop:∀{ws:List W}{vs:List V}(n:Nat),zD K φ H ws vs->zD K φ H (ws.drop n) (vs.drop n)
 |[],_,n,h=>by cases h;rw[List.drop_nil,List.drop_nil];exact zD.nil|_::_,_,0,h=>by simpa using h|_::_,_,n+1,⟨v,r,e,h,t⟩=>by subst e;simpa using zD.drop n t
theorem zD.take:∀{ws:List W}{vs:List V}(n:Nat),zD K φ H ws vs->zD K φ H (ws.take n) (vs.take n)
 |[],_,n,h=>by cases h;rw[List.take_nil,List.take_nil];exact zD.nil|_::_,_,0,h=>by rw[List.take_zero,List.take_zero];exact zD.nil|_::_,_,n+1,⟨v,r,e,h,t⟩=>by subst e;exact⟨v,_,rfl,h,zD.take n t⟩
theorem zD.erase:∀{ws:List W}{vs:List V}(n:Nat),zD K φ H ws vs->zD K φ H (ws.eraseIdx n) (vs.eraseIdx n)
 |[],_,n,h=>by cases h;rw[List.eraseIdx_nil,List.eraseIdx_nil];exact zD.nil|_::_,_,0,⟨v,r,e,h,t⟩=>by subst e;simpa using t|_::_,_,n+1,⟨v,r,e,h,t⟩=>by subst e;exact⟨v,_,rfl,h,zD.erase n t⟩
theorem zD.ints:∀{ns:bV}{vs:List V},zD K φ H (ns.map W.int) vs↔vs=ns.map V.int
 |[],vs=>Iff.rfl|n::ns,vs=>by
  constructor
  ·rintro⟨v,r,e,h,t⟩
   rw[e,(show v=V.int n from h),zD.ints.mp t];rfl
  ·intro e
   exact⟨V.int n,ns.map V.int,e,rfl,zD.ints.mpr rfl⟩
def YZ (K:Frag)(H:Hp)(a:Addr)(xs:List V):Prop:=
 (∃ob,H a=some (.frz ob (.lst xs)))∨
  ∃(o:Obj) (its:Array Value) (n:Nat),K.lookup a=some o/\o.cls=.type "list" /\ o.dict=none/\o.data=.seq its n/\its.size<=sizeLine/\Vals xs its.toList
def YZ.sq {xs:List V}(h:YZ K H a xs):jj K H a xs:=by
 rcases h with h|h
 ·exact .inl (.inr h)
 ·exact .inr h
inductive TabAt (H:Hp)(q:Str)(cv:Value):Prop
 |mk (c:Addr) (oc:Obj) (u:HO) (vs:Array Value) (t:Tok) (e:cv=.ref c) (h:H c=some (.frz oc u)) (d:oc.data=.fields vs/\vs[1]? =some (.str q t))
def KZ (H:Hp)(q:Str)(ps:Array Value):Prop:=TriplesOk ps.toList/\∀pos cv,codeAmong pos ps.toList=some cv->TabAt H q cv
def KZ.mono {q:Str}{ps:Array Value}(h:KZ H q ps)(l:∀a o u,H a=some (.frz o u)->H' a=some (.frz o u)):KZ H' q ps:=
 ⟨h.1,λpos cv e=>by obtain⟨c,b,u,vs,t,g,f,d⟩:=h.2 pos cv e;exact⟨c,b,u,vs,t,g,l _ _ _ f,d⟩⟩
noncomputable def hT (ks:bV):Int:=reduceHash (Builtin.Tuple.tupleHashOf (ks.map hashInt))
def gD (a:Addr)(xs:List (List Int×Addr×V))(h:Heap):Prop:=(a==sysModules)=false/\xs.length<=sizeLine/\∃zs:List (List Int×Addr×Value),
 Paired (λ(p:List Int×Addr×V) (q:List Int×Addr×Value)=>p.1=q.1/\p.2.1=q.2.1/\RelV p.2.2 q.2.2) xs zs/\
 ∃o e E,h.get? a=some o/\o.ExactDict/\o.data=.dict e E/\e.toList=zs.map (λx=>(⟨hT x.1,.ref x.2.1,x.2.2⟩:DictEntry))/\(zs.map (·.1)).Nodup
def MB (a:Addr)(xs:List (List Int×Addr×V))(o:Obj):Prop:=(a==sysModules)=false/\xs.length<=sizeLine/\∃zs:List (List Int×Addr×Value),
 Paired (λ(p:List Int×Addr×V) (q:List Int×Addr×Value)=>p.1=q.1/\p.2.1=q.2.1/\RelV p.2.2 q.2.2) xs zs/\
 ∃e E,o.ExactDict/\o.data=.dict e E/\e.toList=zs.map (λx=>(⟨hT x.1,.ref x.2.1,x.2.2⟩:DictEntry))/\(zs.map (·.1)).Nodup
def OR (K:Frag)(φ:bY)(H:Hp)(a:Addr):O->Prop
 |.lst ws=>∃vs,H a=some (.lst vs)/\zD K φ H ws vs|.ro ws=>∃vs,YZ K H a vs/\zD K φ H ws vs|.dct kvs=>∃us,H a=some (.dK us)/\us.map (·.1)=kvs.map (·.1)/\zD K φ H (kvs.map (·.2)) (us.map (·.2))|.td kvs=>∃xs:List (List Int×Addr×V),H a=some (.ext (gD a xs))/\xs.map (·.1)=kvs.map (·.1)/\(∀x∈xs,qo K H x.2.1 (x.1.map V.int))/\zD K φ H (kvs.map (·.2)) (xs.map (·.2.2))|.tr kvs=>∃(ob:Obj) (u:HO) (xs:List (List Int×Addr×V)),H a=some (.frz ob u)/\MB a xs ob/\xs.map (·.1)=kvs.map (·.1)/\(∀x∈xs,qo K H x.2.1 (x.1.map V.int))/\zD K φ H (kvs.map (·.2)) (xs.map (·.2.2))|.tab q P=>a=P/\∃ps,H a=some (.tbl ps)/\KZ H q ps
structure zN (K:Frag)(φ:bY)(A:Hx)(H:Hp):Prop where
 len:φ.length=A.length
 inj:∀(i j:Nat)(a:Addr)(o o':O),φ[i]? =some a->φ[j]? =some a->A[i]? =some o->A[j]? =some o'->o.mut=true->o'.mut=true->i=j
 ob:∀(n:Nat)(o:O),A[n]? =some o->∃a,φ[n]? =some a/\OR K φ H a o
variable {A:Hx}
def OR.there {o:O}(h:OR K φ H a o)(m:o.mut=true):∃u,H a=some u/\(∀xs,u≠.tup xs)/\(∀ob v,u≠.frz ob v):=by
 cases o with
 |lst ws=>obtain⟨vs,e,_⟩:=h;exact⟨_,e,λ_ z=>(by cases z),λ_ _ z=>(by cases z)⟩|ro ws=>cases m|dct kvs=>obtain⟨vs,e,_⟩:=h;exact⟨_,e,λ_ z=>(by cases z),λ_ _ z=>(by cases z)⟩|td kvs=>obtain⟨vs,e,_⟩:=h;exact⟨_,e,λ_ z=>(by cases z),λ_ _ z=>(by cases z)⟩|tr _=>cases m|tab q P=>obtain⟨_,vs,e,_⟩:=h;exact⟨_,e,λ_ z=>(by cases z),λ_ _ z=>(by cases z)⟩
def Ge {o:HO}(h:qo K H a vs)(n:∀xs,H b≠some (.tup xs))(N:∀ob u,H b≠some (.frz ob u)):qo K (upd H b o) a vs:=by
 rcases h with (h|⟨ob,h⟩)|h
 ·exact .inl (.inl (by rw[qk];exact h;intro e;subst e;exact n _ h))
 ·exact .inl (.inr ⟨ob,by rw[qk];exact h;intro e;subst e;exact N _ _ h⟩)
 ·exact .inr h
theorem Le.upd {o:HO}(c:φ[k]? =some b)(n:∀xs,H b≠some (.tup xs))(N:∀ob u,H b≠some (.frz ob u)):Le K φ H φ (upd H b o) where
 ex:=λ_ _ h=>h
 tp:=λ_ _ h=>Ge h n N
 fr:=λa u h z=>by
  rw[qk];exact h;intro e;subst e;exact z k c
 nw:=λ_ _ h=>.inl h
 st:=λa h=>by
  by_cases e:a=b
  ·subst e;rw[jA]at h;cases h
  ·rw[qk e]at h;exact h
 fz:=λa ob u h=>by
  rw[qk];exact h;intro e;subst e;exact N _ _ h
def Le.new {p:Addr}{o:HO}(hp:H p=none):Le K φ H φ (L2.upd H p o) where
 ex:=λ_ _ h=>h
 tp:=λ_ _ h=>Ge h (λxs z=>by rw[hp]at z;cases z) (λ_ _ z=>by rw[hp]at z;cases z)
 fr:=λa u h z=>by
  rw[qk];exact h;intro e;subst e;rw[hp]at h;cases h
 nw:=λ_ _ h=>.inl h
 st:=λa h=>by
  by_cases e:a=p
  ·subst e;rw[jA]at h;cases h
  ·rw[qk e]at h;exact h
 fz:=λa ob u h=>by
  rw[qk];exact h;intro e;subst e;rw[hp]at h;cases h
def Le.alloc {p:Addr}{o:HO}(hp:H p=none):Le K φ H (φ++[p]) (L2.upd H p o) where
 ex:=λn a h=>by
  have:=(cA.mp h).1
  rw[ai this];exact h
 tp:=(Le.new (φ:=φ) hp).tp
 fr:=(Le.new (K:=K) (φ:=φ) hp).fr
 nw:=λn a h=>by
  by_cases hn:n < φ.length
  ·rw[ai hn]at h;exact .inl h
  ·rw[aw (by omega)]at h
   have e:a=p:=by
    have:=bL h
    simpa using this
   subst e;exact .inr hp
 st:=(Le.new (K:=K) (φ:=φ) hp).st
 fz:=(Le.new (K:=K) (φ:=φ) hp).fz
def Le.ofD {o:HO}(b:H D=none)(l:yB K D φ (L2.upd H D o) φ' H'):Le K φ H φ' H' where
 ex:=l.ex
 tp:=λa vs h=>l.tp a vs ((Le.new (K:=K) (φ:=φ) b).tp a vs h)
 fr:=λa u h n=>by
  have ne:a≠D:=by rintro rfl;rw[b]at h;cases h
  exact l.fr a u ne (by rw[qk ne];exact h) n
 nw:=λn a e=>by
  rcases l.nw n a e with e|e
  ·exact .inl e
  ·by_cases h:a=D
   ·subst h;rw[jA]at e;cases e
   ·rw[qk h]at e;exact .inr e
 st:=λa e=>by
  have E:=l.st a e
  by_cases h:a=D
  ·subst h;rw[jA]at E;cases E
  ·rw[qk h]at E;exact E
 fz:=λa ob u h=>l.fz a ob u (by rw[qk];exact h;rintro rfl;rw[b]at h;cases h)
theorem yB.upd {o:HO}{xs:List V}(b:H D=some (.lst xs)):yB K D φ H φ (L2.upd H D o) where
 ex:=λ_ _ h=>h
 tp:=λa vs h=>Ge h (λxs z=>by rw[b]at z;cases z) (λ_ _ z=>by rw[b]at z;cases z)
 fr:=λa u ne h n=>by rw[qk ne];exact h
 nw:=λ_ _ h=>.inl h
 st:=λa e=>by
  by_cases h:a=D
  ·subst h;rw[jA]at e;cases e
  ·rw[qk h]at e;exact e
 fz:=λa ob u h=>by
  rw[qk];exact h;intro e;subst e;rw[b]at h;cases h
def OR.keep {o:O}(h:OR K φ H a o)(l:Le K φ H φ' H')(e:∀u,H a=some u->H' a=some u):OR K φ' H' a o:=by
 cases o with
 |lst ws=>obtain⟨vs,q,r⟩:=h;exact⟨vs,e _ q,r.mono l⟩|dct kvs=>obtain⟨vs,q,k,r⟩:=h;exact⟨vs,e _ q,k,r.mono l⟩|td kvs=>obtain⟨vs,q,k,t,r⟩:=h;exact⟨vs,e _ q,k,λx b=>l.tp _ _ (t x b),r.mono l⟩|tr kvs=>obtain⟨ob,u,vs,q,d,k,t,r⟩:=h;exact⟨ob,u,vs,e _ q,d,k,λx b=>l.tp _ _ (t x b),r.mono l⟩|tab q P=>obtain⟨k,ps,q,r⟩:=h;exact⟨k,ps,e _ q,r.mono l.fz⟩|ro ws=>
  obtain⟨vs,q,r⟩:=h;refine⟨vs,?_,r.mono l⟩;rcases q with ⟨ob,q⟩|q
  ·exact .inl ⟨ob,e _ q⟩
  ·exact .inr q
theorem zN.alloc {p:Addr}{u:HO}{o:O}(S:zN K φ A H)(hp:H p=none)(new:OR K (φ++[p]) (L2.upd H p u) p o):Le K φ H (φ++[p]) (L2.upd H p u)/\zN K (φ++[p]) (A++[o]) (L2.upd H p u):=by
 have l:Le K φ H (φ++[p]) (L2.upd H p u):=Le.alloc hp;have old:∀(i:Nat) a,(φ++[p])[i]? =some a->i<A.length->φ[i]? =some a:=λi a e b=>by
  rw[ai (by rw[S.len];exact b)]at e;exact e
 refine⟨l,by simp[S.len],λi j a w v k g f c m1 m2=>?_,λn o' e=>?_⟩
 ·by_cases b:i<A.length
  ·by_cases d:j<A.length
   ·rw[ai b]at f
    rw[ai d]at c;exact S.inj i j a w v (old i a k b) (old j a g d) f c m1 m2
   ·exfalso
    rw[ai b]at f;have s:j=A.length:=by have:=(cA.mp c).1;simp at this;omega
    subst s;rw[aw (by rw[S.len];exact av _),S.len]at g
    simp at g;obtain⟨y,E,q⟩:=S.ob i w f;rw[old i a k b]at E;cases E;obtain⟨z,h,_⟩:=q.there m1;rw[<- g,hp]at h;cases h
  ·have t:i=A.length:=by have:=(cA.mp f).1;simp at this;omega
   by_cases d:j<A.length
   ·exfalso
    rw[ai d]at c;subst t;rw[aw (by rw[S.len];exact av _),S.len]at k
    simp at k;obtain⟨y,E,q⟩:=S.ob j v c;rw[old j a g d]at E;cases E;obtain⟨z,h,_⟩:=q.there m2;rw[<- k,hp]at h;cases h
   ·have:=(cA.mp c).1;simp at this;omega
 ·by_cases hn:n<A.length
  ·rw[ai hn]at e
   obtain⟨a,E,q⟩:=S.ob n o' e;refine⟨a,l.ex _ _ E,q.keep l λz h=>?_⟩;rw[qk];exact h;intro x;subst x;rw[hp]at h;cases h
  ·have r:n=A.length:=by have:=(cA.mp e).1;simp at this;omega
   subst r;rw[aw (av _)]at e;simp at e;subst e;exact⟨p,by rw[aw (by rw[S.len];exact av _),S.len];simp,new⟩
def zN.write {p:Addr}{u:HO}{o o':O}(S:zN K φ A H)(hn:A[n]? =some o)(m:o.mut=true)(U:o'.mut=true)(hp:φ[n]? =some p)(new:OR K φ (L2.upd H p u) p o'):
  Le K φ H φ (L2.upd H p u)/\zN K φ (A.set n o') (L2.upd H p u):=by
 obtain⟨T,e,q⟩:=S.ob n o hn;rw[hp]at e;cases e;obtain⟨z,h,C,N⟩:=q.there m;have l:Le K φ H φ (L2.upd H p u):=Le.upd hp (λxs e=>by rw[h]at e;exact C xs (aB e)) λob v e=>by rw[h]at e;exact N ob v (aB e)
 have mt:∀(i:Nat)(w:O),(A.set n o')[i]? =some w->w.mut=true->∃c,A[i]? =some c/\c.mut=true:=λi w e M=>by
  by_cases hi:i=n
  ·subst hi;exact⟨o,hn,m⟩
  ·rw[aG (Ne.symm hi)]at e;exact⟨w,e,M⟩
 refine⟨l,by simp[S.len],λi j a B y P L J I m1 m2=>?_,λi w e=>?_⟩
 ·obtain⟨g,E,k1⟩:=mt i B J m1
  obtain⟨f,Q,k2⟩:=mt j y I m2;exact S.inj i j a g f P L E Q k1 k2
 ·by_cases hi:i=n
  ·subst hi
   have:i<A.length:=(cA.mp hn).1
   rw[aJ this]at e;cases e;exact⟨p,hp,new⟩
  ·rw[aG (Ne.symm hi)]at e
   obtain⟨a,E,r⟩:=S.ob i w e;refine⟨a,E,?_⟩
   by_cases hm:w.mut=true
   ·have ne:a≠p:=λz=>hi (S.inj i n a w o E (by rw[z];exact hp) e hn hm m)
    exact r.keep l λz h=>by rw[qk ne];exact h
   ·cases w with
    |lst _=>exact absurd rfl hm|dct _=>exact absurd rfl hm|td _=>exact absurd rfl hm|tr _=>obtain⟨ob,u,vs,q,d,k,t,r⟩:=r;exact⟨ob,u,vs,l.fz _ _ _ q,d,k,λx D=>l.tp _ _ (t x D),r.mono l⟩|tab _ _=>exact absurd rfl hm|ro ws=>
     obtain⟨vs,b,s⟩:=r;refine⟨vs,?_,s.mono l⟩;rcases b with ⟨ob,b⟩|b
     ·refine .inl ⟨ob,?_⟩
      rw[qk];exact b;intro z;subst z;rw[h]at b;exact N _ _ (aB b)
     ·exact .inr b
def zN.lay {p:Addr}{u:HO}(S:zN K φ A H)(hp:H p=none):zN K φ A (L2.upd H p u):=
 ⟨S.len,S.inj,λn o e=>by
  obtain⟨a,b,q⟩:=S.ob n o e;refine⟨a,b,q.keep (Le.new hp) λz h=>?_⟩;rw[qk];exact h;intro E;subst E;rw[hp]at h;cases h⟩
def zN.off {o:HO}{xs:List V}(S:zN K φ A H)(b:H D=some (.lst xs))(n:∀k:Nat,φ[k]?≠some D):zN K φ A (L2.upd H D o):=
 ⟨S.len,S.inj,λk u e=>by
  obtain⟨a,E,q⟩:=S.ob k u e;have ne:a≠D:=λz=>n k (by rw[<- z];exact E)
  have l:yB K D φ H φ (L2.upd H D o):=yB.upd b;refine⟨a,E,?_⟩;cases u with
  |lst ws=>obtain⟨vs,q,r⟩:=q;exact⟨vs,by rw[qk ne];exact q,r.monoD l⟩|dct kvs=>obtain⟨vs,q,k,r⟩:=q;exact⟨vs,by rw[qk ne];exact q,k,r.monoD l⟩|td kvs=>obtain⟨vs,q,k,t,r⟩:=q;exact⟨vs,by rw[qk ne];exact q,k,λx h=>l.tp _ _ (t x h),r.monoD l⟩|tr kvs=>obtain⟨ob,u,vs,q,d,k,t,r⟩:=q;exact⟨ob,u,vs,l.fz _ _ _ q,d,k,λx h=>l.tp _ _ (t x h),r.monoD l⟩|tab _ _=>obtain⟨k,vs,q,r⟩:=q;exact⟨k,vs,by rw[qk ne];exact q,r.mono l.fz⟩|ro ws=>
   obtain⟨vs,q,r⟩:=q;refine⟨vs,?_,r.monoD l⟩;rcases q with ⟨ob,q⟩|q
   ·exact .inl ⟨ob,by rw[qk ne];exact q⟩
   ·exact .inr q⟩
def zN.notin (S:zN K φ A H)(b:H D=none)(d:K.lookup D=none):∀k:Nat,φ[k]?≠some D:=λk e=>by
 have c:k<A.length:=by rw[<- S.len];exact(cA.mp e).1
 obtain⟨a,E,q⟩:=S.ob k A[k] (by simp[c])
 rw[e]at E;cases E;cases h:A[k] with
 |lst ws=>rw[h]at q;obtain⟨vs,z,_⟩:=q;rw[b]at z;cases z|dct ws=>rw[h]at q;obtain⟨vs,z,_⟩:=q;rw[b]at z;cases z|td _=>rw[h]at q;obtain⟨vs,z,_⟩:=q;rw[b]at z;cases z|tr _=>rw[h]at q;obtain⟨_,_,_,z,_⟩:=q;rw[b]at z;cases z|tab _ _=>rw[h]at q;obtain⟨_,vs,z,_⟩:=q;rw[b]at z;cases z|ro ws=>
  rw[h]at q;obtain⟨vs,z,_⟩:=q;rcases z with ⟨ob,z⟩|⟨o,i,n,z,_⟩
  ·rw[b]at z;cases z
  ·rw[d]at z;cases z
def zN.YI {u:HO}{o:O}(S:zN K φ A H)(J:H D=some u)(n:∀k:Nat,φ[k]?≠some D)(new:OR K (φ++[D]) H D o):zN K (φ++[D]) (A++[o]) H:=by
 have l:Zt K φ H (φ++[D]) H:=⟨λn a h=>by
  have:=(cA.mp h).1
  rw[ai this];exact h,λ_ _ h=>h,λ_ _ _ h=>h⟩
 have old:∀(i:Nat) a,(φ++[D])[i]? =some a->i<A.length->φ[i]? =some a:=λi a e b=>by
  rw[ai (by rw[S.len];exact b)]at e;exact e
 have last:∀a,(φ++[D])[A.length]? =some a->a=D:=λa e=>by
  rw[aw (by rw[S.len];exact av _),S.len]at e
  simpa using e.symm
 refine⟨by simp[S.len],λi j a E C B y w f m1 m2=>?_,λk o' e=>?_⟩
 ·by_cases b:i<A.length
  ·by_cases c:j<A.length
   ·rw[ai b]at w
    rw[ai c]at f;exact S.inj i j a E C (old i a B b) (old j a y c) w f m1 m2
   ·exfalso
    have s:j=A.length:=by have:=(cA.mp f).1;simp at this;omega
    subst s;exact n i (by rw[<- last a y];exact old i a B b)
  ·have v:i=A.length:=by have:=(cA.mp w).1;simp at this;omega
   by_cases c:j<A.length
   ·exfalso
    subst v;exact n j (by rw[<- last a B];exact old j a y c)
   ·have:=(cA.mp f).1;simp at this;omega
 ·by_cases hn:k<A.length
  ·rw[ai hn]at e
   obtain⟨a,I,q⟩:=S.ob k o' e;refine⟨a,l.ex _ _ I,?_⟩;cases o' with
   |lst ws=>obtain⟨vs,z,r⟩:=q;exact⟨vs,z,r.monoW l⟩|dct ws=>obtain⟨vs,z,Z,r⟩:=q;exact⟨vs,z,Z,r.monoW l⟩|td _=>obtain⟨vs,z,Z,t,r⟩:=q;exact⟨vs,z,Z,λx g=>l.tp _ _ (t x g),r.monoW l⟩|tr _=>obtain⟨ob,u,vs,z,d,Z,t,r⟩:=q;exact⟨ob,u,vs,z,d,Z,λx g=>l.tp _ _ (t x g),r.monoW l⟩|tab _ _=>exact q|ro ws=>obtain⟨vs,z,r⟩:=q;exact⟨vs,z,r.monoW l⟩
  ·have p:k=A.length:=by have:=(cA.mp e).1;simp at this;omega
   subst p;rw[aw (av _)]at e;simp at e;subst e;exact⟨D,by rw[aw (by rw[S.len];exact av _),S.len];simp,new⟩
def Le.YI {b:bY}{H0:Hp}(l:Le K b H0 φ H)(h0:H0 D=none):Le K b H0 (φ++[D]) H where
 ex:=λn a h=>by
  have h':=l.ex n a h
  have:=(cA.mp h').1
  rw[ai this];exact h'
 tp:=l.tp
 fr:=l.fr
 nw:=λn a e=>by
  by_cases hn:n < φ.length
  ·rw[ai hn]at e;exact l.nw n a e
  ·rw[aw (by omega)]at e
   have E:a=D:=by
    have:=bL e
    simpa using this
   subst E;exact .inr h0
 st:=l.st
 fz:=l.fz
end
noncomputable abbrev St:=L2.St
abbrev XR:=Str->Hp->Prop
def PB (K:Frag)(φ:bY)(H:Hp)(Q:VK):W->Hx->Prop:=λw A=>∀a h v,Le K φ H a h->zN K a A h->RV K a h w v->Q v h
def d9 (K:Frag)(φ:bY)(H:Hp)(Q:List V->Hp->Prop):List W->Hx->Prop:=λw A=>∀a h v,Le K φ H a h->zN K a A h->zD K a h w v->Q v h
noncomputable def EB (K:Frag)(φ:bY)(H:Hp)(X:XR):Str->Hx->Prop:=λx A=>∀a h,Le K φ H a h->zN K a A h->X x h
structure RE (K:Frag)(φ:bY)(H:Hp)(ρ:En)(σ:St):Prop where
 len:σ.length=ρ.length
 get:∀(i:Nat)(w:W),ρ[i]? =some (some w)->∃v,σ[i]? =some (some v)/\RV K φ H w v
section
variable {K:Frag}{φ1 φ':bY}{H1 H':Hp}{A:Hx}{ρ:En}{xr:XR}
theorem RE.mono (r:RE K φ H ρ σ)(l:Le K φ H φ' H'):RE K φ' H' ρ σ:=⟨r.len,λi w e=>let ⟨v,h1,h⟩:=r.get i w e;⟨v,h1,h.mono l⟩⟩
def PB.mono {Q:VK}{w:W}(h:PB K φ H Q w A)(l:Le K φ H φ1 H1):PB K φ1 H1 Q w A:=λa b v L=>h a b v (l.trans L)
def EB.mono (h:EB K φ H xr x A)(l:Le K φ H φ1 H1):EB K φ1 H1 xr x A:=λa b L=>h a b (l.trans L)
theorem RE.set {w:W}(r:RE K φ H ρ σ)(q:RV K φ H w v):RE K φ H (ρ.set i (some w)) (σ.set i (some v)):=
 ⟨by simp[r.len],λj u e=>by
  by_cases h:i=j
  ·subst h
   have a:i < ρ.length:=by
    have:=(cA.mp e).1
    simpa using this
   rw[aJ a]at e;cases e;exact⟨v,by rw[aJ (by rw[r.len];exact a)],q⟩
  ·rw[aG h]at e
   obtain⟨x,c,b⟩:=r.get j u e;exact⟨x,by rw[aG h];exact c,b⟩⟩
end
inductive MM (K:Frag)(xr:XR)(m:Ev)(σ:St)(H:Hp)(Q:VK):Prop
 |mk (φ:bY) (A:Hx) (ρ:En) (S:zN K φ A H) (re:RE K φ H ρ σ) (h:(m ρ A).post (PB K φ H Q) (EB K φ H xr))
noncomputable def tM (K:Frag)(x:XR)(m:Ev):TE:=λσ H Q=>MM K x m σ H Q
inductive MT (K:Frag)(xr:XR)(m:Ev)(σ:St)(H:Hp)(Q:Bool->Hp->Prop):Prop
 |mk (φ:bY) (A:Hx) (ρ:En) (S:zN K φ A H) (re:RE K φ H ρ σ) (h:(m ρ A).post (λw A'=>∃b,w=.bl b/\∀φ' H',Le K φ H φ' H'->zN K φ' A' H'->Q b H') (EB K φ H xr))
noncomputable def tT (K:Frag)(x:XR)(m:Ev):TT:=λσ H Q=>MT K x m σ H Q
abbrev Ea:=En->Hx->R (List W)
inductive MA (K:Frag)(xr:XR)(m:Ea)(σ:St)(H:Hp)(Q:List V->Hp->Prop):Prop
 |mk (φ:bY) (A:Hx) (ρ:En) (S:zN K φ A H) (re:RE K φ H ρ σ) (h:(m ρ A).post (d9 K φ H Q) (EB K φ H xr))
noncomputable def Xv (K:Frag)(x:XR)(m:Ea):TA:=λσ H Q=>MA K x m σ H Q
def SE (X:Cx)(x:XR)(e:Expr)(m:Ev):Prop:=PE X e (tM X.K x m)
def ST (X:Cx)(x:XR)(e:Expr)(m:Ev):Prop:=PT X e (tT X.K x m)
def SW (X:Cx)(x:XR)(e:Expr)(m:Ev):Prop:=PW X e (tT X.K x m)
def SA (X:Cx)(x:XR)(e:cc)(m:Ea):Prop:=PA X e (Xv X.K x m)
section
variable {xr:XR}{a b:Expr}{es:cc}{m ma mb mc:Ev}
def PE.imp {t t':TE}(h:PE X e t)(i:∀σ H Q,t' σ H Q->t σ H Q):PE X e t':=λpins s σ H Q I hw=>h pins s σ H Q I (i σ H Q hw)
def PT.imp {t t':TT}(h:PT X e t)(i:∀σ H Q,t' σ H Q->t σ H Q):PT X e t':=λpins s σ H Q I hw=>h pins s σ H Q I (i σ H Q hw)
def PW.imp {t t':TT}(h:PW X e t)(i:∀σ H Q,t' σ H Q->t σ H Q):PW X e t':=λw pins s σ H Q I hw=>h w pins s σ H Q I (i σ H Q hw)
def PA.imp {t t':TA}(h:PA X es t)(i:∀σ H Q,t' σ H Q->t σ H Q):PA X es t':=λp pins s σ H Q I hw=>h p pins s σ H Q I (i σ H Q hw)
def tM.go {K:Frag}{A:Hx}{ρ:En}{Q:VK}{G:W->Hx->Prop}(S:zN K φ A H)(r:RE K φ H ρ σ)(h:(m ρ A).post G (EB K φ H xr))
  (k:∀w A1 a H1 v,G w A1->Le K φ H a H1->zN K a A1 H1->RV K a H1 w v->Q v H1):tM K xr m σ H Q:=
 ⟨φ,A,ρ,S,r,qA h (λw A1 g a H1 v l s q=>k w A1 a H1 v g l s q) λ_ _ z=>z⟩
def Xv.go {K:Frag}{A:Hx}{ρ:En}{m:Ea}{Q:List V->Hp->Prop}{G:List W->Hx->Prop}(S:zN K φ A H)(r:RE K φ H ρ σ)(h:(m ρ A).post G (EB K φ H xr))
  (k:∀w A1 a H1 v,G w A1->Le K φ H a H1->zN K a A1 H1->zD K a H1 w v->Q v H1):Xv K xr m σ H Q:=
 ⟨φ,A,ρ,S,r,qA h (λw A1 g a H1 v l s q=>k w A1 a H1 v g l s q) λ_ _ z=>z⟩
def tT.go {K:Frag}{A:Hx}{ρ:En}{Q:Bool->Hp->Prop}{G:W->Hx->Prop}(S:zN K φ A H)(r:RE K φ H ρ σ)(h:(m ρ A).post G (EB K φ H xr))
  (k:∀w A1,G w A1->∃b,w=.bl b/\∀a H1,Le K φ H a H1->zN K a A1 H1->Q b H1):tT K xr m σ H Q:=
 ⟨φ,A,ρ,S,r,qA h (λw A1 g=>k w A1 g) λ_ _ z=>z⟩
noncomputable def zh (i:Nat):Ev:=λρ A=>match ρ[i]? with
 |some (some w)=>.ok w A|_=>.bad
noncomputable def zo (w:W):Ev:=λ_ A=>.ok w A
noncomputable def zi (g:W->W->Hx->R W)(a b:Ev):Ev:=λρ A=>(a ρ A).bind λx A1=>(b ρ A1).bind λy A2=>g x y A2
noncomputable def jn (g:W->Hx->R W)(a:Ev):Ev:=λρ A=>(a ρ A).bind λx A1=>g x A1
noncomputable abbrev gx:Str->Hx->Prop:=λ_ _=>False
def yx (K:Frag)(r:R2)(g:W->W->Hx->R W):Prop:=∀φ A H x y u v Q,zN K φ A H->RV K φ H u x->RV K φ H v y->(g u v A).post (PB K φ H Q) gx->r x y H Q
def Wd (K:Frag)(r:V->Hp->VK->Prop)(g:W->Hx->R W):Prop:=∀φ A H x u Q,zN K φ A H->RV K φ H u x->(g u A).post (PB K φ H Q) gx->r x H Q
def qR (r:R α):Prop:=∀x A,r≠.exc x A
def Ys {r:R α}{P:α->Hx->Prop}{E:Str->Hx->Prop}(n:qR r)(h:r.post P E):r.post P gx:=by
 cases r with
 |ok a A=>exact h|exc x A=>exact absurd rfl (n x A)|bad=>exact h
def zi.read {g:W->W->Hx->R W}{r:R2}(hn:∀x y A,qR (g x y A))(e:yx X.K r g):∀σ H Q,tM X.K xr (zi g ma mb) σ H Q->K6 r (tM X.K xr ma) (tM X.K xr mb) σ H Q:=by
 rintro σ H Q ⟨φ,A,ρ,S,re,h⟩
 refine tM.go S re (qa.mp h) λw A1 b H1 v i l j d=>?_;refine tM.go j (re.mono l) (qA (qa.mp i) (λ_ _ z=>z) λ_ _ z=>z.mono l) λc A2 a k v2 f L s q=>?_;exact e a A2 k v v2 w c Q s (d.mono L) q (qA (Ys (hn _ _ _) f) (λ_ _ z=>z.mono (l.trans L)) λ_ _ z=>z)
def jn.read {g:W->Hx->R W}{r:V->Hp->VK->Prop}(hn:∀x A,qR (g x A))(b:Wd X.K r g):∀σ H Q,tM X.K xr (jn g ma) σ H Q->Ml r (tM X.K xr ma) σ H Q:=by
 rintro σ H Q ⟨φ,A,ρ,S,re,h⟩
 refine tM.go S re (qa.mp h) λw A1 a H1 v c l s q=>?_;exact b a A1 H1 v w Q s q (qA (Ys (hn _ _) c) (λ_ _ z=>z.mono l) λ_ _ z=>z)
def JE {op:Operator}{r:R2}{g:W->W->Hx->R W}(h:qY X (binaryOp op) r)(hn:∀x y A,qR (g x y A))(H:yx X.K r g)(d:SE X xr a ma)(c:SE X xr b mb):SE X xr (.BinOp a op b pos) (zi g ma mb):=
 PE.imp (dq h d c) (zi.read hn H)
def ed {op:UnaryOp}{r:V->Hp->VK->Prop}{g:W->Hx->R W}(h:Xq X (unaryOp op) r)(hn:∀x A,qR (g x A))(H:Wd X.K r g)(b:SE X xr a ma):SE X xr (.UnaryOp op a pos) (jn g ma):=
 PE.imp (dr h b) (jn.read hn H)
def Nv {r:R2}{g:W->W->Hx->R W}(h:qY X (compareOp op) r)(hn:∀x y A,qR (g x y A))(H:yx X.K r g)(d:SE X xr a ma)(c:SE X xr b mb)(hm:behindInMarks op b=false):SE X xr (.Compare a [op] [b] pos) (zi g ma mb):=
 PE.imp (Bh h d c hm) (zi.read hn H)
def tT.toM {K:Frag}{Q:Bool->Hp->Prop}(h:tT K xr m σ H Q):tM K xr m σ H λx d=>∃k,x=.bl k/\Q k d:=by
 obtain⟨φ,A,ρ,S,re,h⟩:=h;refine tM.go S re h λw A1 a H1 v ⟨b,e,q⟩ l s c=>?_;subst e;exact⟨b,c,q a H1 l s⟩
def Nj {r:R2}{g:W->W->Hx->R W}(o:qY X (compareOp op) r)(hn:∀x y A,qR (g x y A))(c:yx X.K r g)(e:SE X xr a ma)(d:SE X xr b mb)(hm:behindInMarks op b=false):ST X xr (.Compare a [op] [b] pos) (zi g ma mb):=
 PT.imp (CT o e d hm) λσ H Q h=>zi.read hn c σ H _ h.toM
noncomputable def kL (g g':W->W->Hx->R W)(a b c:Ev):Ev:=λρ A=>(a ρ A).bind λx A1=>(b ρ A1).bind λy A2=>(g x y A2).bind λz d=>match z with
 |.bl true=>(c ρ d).bind λw e=>g' y w e|.bl false=>.ok (.bl false) d|_=>.bad
def kL.read {g g':W->W->Hx->R W}{r i:R2}(hn:∀x y A,qR (g x y A))(T:yx X.K r g)(n:∀x y A,qR (g' x y A))(o:yx X.K i g'):
  ∀σ H Q,tM X.K xr (kL g g' ma mb mc) σ H Q->Uo r i (tM X.K xr ma) (tM X.K xr mb) (tM X.K xr mc) σ H Q:=by
 rintro σ H Q ⟨φ,A,ρ,S,re,h⟩
 refine tM.go S re (qa.mp h) λw A1 E H1 v Z L S1 P=>?_;refine tM.go S1 (re.mono L) (qA (qa.mp Z) (λ_ _ z=>z) λ_ _ z=>z.mono L) λf A2 b D v2 Y B S2 s=>?_;have j:=L.trans B;have p:=qa.mp Y;have a:(g w f A2).post (PB X.K b D λz c=>∃k,z=.bl k/\if k=true then tM X.K xr mc σ c λJ q=>i v2 J q Q else Q (.bl false) c) gx:=by
  refine qA (Ys (hn _ _ _) p) (λz A3 a e c zv u C N=>?_) λ_ _ z=>z;have l:=j.trans u;cases z with
  |bl k=>
   refine⟨k,N,?_⟩;cases k with
   |true=>
    rw[ag rfl];refine tM.go C (re.mono l) (qA (qa.mp a) (λ_ _ z=>z) λ_ _ z=>z.mono l) λI A4 d q v4 U t S4 M=>?_;exact o d A4 q v2 v4 f I Q S4 ((s.mono u).mono t) M (qA (Ys (n _ _ _) U) (λ_ _ z=>z.mono (l.trans t)) λ_ _ z=>z)
   |false=>
    rw[aj aA];exact a e c _ l C rfl
  |non=>cases a|int _=>cases a|str _=>cases a|tup _=>cases a|ref _=>cases a|clo _ _ _=>cases a|xc _=>cases a
 exact T b A2 D v v2 w f _ S2 (P.mono B) s a
def E4 {c:Expr}{o:CmpOp}{r e:R2}{g g':W->W->Hx->R W}(f:qY X (compareOp op) r)(hn:∀x y A,qR (g x y A))(i:yx X.K r g)(h:qY X (compareOp o) e)(H:∀x y A,qR (g' x y A))(d:yx X.K e g')
  (l:SE X xr a ma)(k:SE X xr b mb)(j:SE X xr c mc)(hm:lastMarks [op,o] [b,c]=false:=by with_unfolding_all rfl):SE X xr (.Compare a [op,o] [b,c] pos) (kL g g' ma mb mc):=
 PE.imp (EA f h l k j hm) (kL.read hn i H d)
def Dk {c:Expr}{o:CmpOp}{r i:R2}{g g':W->W->Hx->R W}(j:qY X (compareOp op) r)(hn:∀x y A,qR (g x y A))(k:yx X.K r g)(d:qY X (compareOp o) i)(e:∀x y A,qR (g' x y A))(f:yx X.K i g')
  (p:SE X xr a ma)(n:SE X xr b mb)(l:SE X xr c mc)(hm:lastMarks [op,o] [b,c]=false:=by with_unfolding_all rfl):ST X xr (.Compare a [op,o] [b,c] pos) (kL g g' ma mb mc):=
 PT.imp (EY j d p n l hm) λσ H Q h=>kL.read hn k e f σ H _ h.toM
noncomputable def yj (a b:Ev):Ev:=λρ A=>(a ρ A).bind λx A1=>match x with
 |.bl true=>b ρ A1|.bl false=>.ok (.bl false) A1|_=>.bad
noncomputable def gE (a b:Ev):Ev:=λρ A=>(a ρ A).bind λx A1=>match x with
 |.bl true=>.ok (.bl true) A1|.bl false=>b ρ A1|_=>.bad
noncomputable def yc (a:Ev):Ev:=λρ A=>(a ρ A).bind λx A1=>match x with
 |.bl k=>.ok (.bl (!k)) A1|_=>.bad
noncomputable def Mx (c a b:Ev):Ev:=λρ A=>(c ρ A).bind λx A1=>match x with
 |.bl true=>a ρ A1|.bl false=>b ρ A1|_=>.bad
theorem tT.mono {K:Frag}{c:bY}{H1:Hp}{A1:Hx}{ρ:En}{Q:Bool->Hp->Prop}(S:zN K c A1 H1)(L:Le K φ H c H1)(re:RE K φ H ρ σ)
  (h:(m ρ A1).post (λw A'=>∃b,w=.bl b/\∀a d,Le K φ H a d->zN K a A' d->Q b d) (EB K φ H xr)):tT K xr m σ H1 Q:=
 ⟨c,A1,ρ,S,re.mono L,qA h (λw A' ⟨b,e,q⟩=>⟨b,e,λa d l s=>q a d (L.trans l) s⟩) λ_ _ z=>z.mono L⟩
noncomputable def zl:Ea:=λ_ A=>.ok [] A
noncomputable def zc (a:Ev)(r:Ea):Ea:=λρ A=>(a ρ A).bind λx A1=>(r ρ A1).bind λxs A2=>.ok (x::xs) A2
noncomputable def zE (a:Ea):Ev:=λρ A=>(a ρ A).bind λxs A1=>.ok (.tup xs) A1
noncomputable def zU (a:Ea):Ev:=λρ A=>(a ρ A).bind λxs A1=>.ok (.ref A1.length) (A1++[.lst xs])
def QV {K:Frag}{A:Hx}{p:Addr}{ws:List W}(S:zN K φ A H)(hp:H p=none)(r:zD K φ H ws vs):
  Le K φ H φ (upd H p (.tup vs))/\zN K φ A (upd H p (.tup vs))/\RV K φ (upd H p (.tup vs)) (.tup ws) (.ref p):=
 ⟨Le.new hp,S.lay hp,p,vs,rfl,qo.of jA,r.mono (Le.new hp)⟩
def QU {K:Frag}{A:Hx}{p:Addr}{ws:List W}(S:zN K φ A H)(hp:H p=none)(r:zD K φ H ws vs):
  Le K φ H (φ++[p]) (upd H p (.lst vs))/\zN K (φ++[p]) (A++[.lst ws]) (upd H p (.lst vs))/\RV K (φ++[p]) (upd H p (.lst vs)) (.ref A.length) (.ref p):=by
 have l:Le K φ H (φ++[p]) (upd H p (.lst vs)):=Le.alloc hp;obtain⟨a,h⟩:=S.alloc (o:=.lst ws) hp ⟨vs,jA,r.mono l⟩;exact⟨a,h,p,rfl,by rw[<- S.len];simp⟩
def eg {M:Ea}(h:SA X xr es M)(b:∀ρ A ws A',M ρ A=.ok ws A'->ws.length<=sizeLine):SE X xr (.List es pos) (zU M):=
 PE.imp (dI h) λσ H Q ⟨φ,A,ρ,S,re,h⟩=>by
  have h':=qa.mp h;cases e:M ρ A with
  |ok ws A'=>
   rw[e]at h';refine⟨φ,A,ρ,S,re,?_⟩;rw[e];intro a H1 vs l s q;refine⟨by rw[<- q.length];exact b ρ A ws A' e,λp hp=>?_⟩
   obtain⟨a1,a2,c⟩:=QU s hp q;exact h' _ _ _ (l.trans a1) a2 c
  |exc x A'=>rw[e]at h';refine⟨φ,A,ρ,S,re,?_⟩;rw[e];exact h'|bad=>rw[e]at h';exact h'.elim
end
inductive Fl where
 |nx (ρ:En)|rt (w:W)|bk (ρ:En)|ct (ρ:En)
abbrev Ex:=En->Hx->R Fl
def FB (K:Frag)(φ:bY)(H:Hp)(D:Ends):Fl->Hx->Prop
 |.nx ρ,A=>∀a h b,Le K φ H a h->zN K a A h->RE K a h ρ b->D.nx b h|.rt w,A=>∀a h v,Le K φ H a h->zN K a A h->RV K a h w v->D.rt v h|.bk ρ,A=>∀a h b,Le K φ H a h->zN K a A h->RE K a h ρ b->D.bk b h|.ct ρ,A=>∀a h b,Le K φ H a h->zN K a A h->RE K a h ρ b->D.ct b h
def FB.mono {K:Frag}{c:bY}{H1:Hp}{D:Ends}{f:Fl}{A:Hx}(h:FB K φ H D f A)(l:Le K φ H c H1):FB K c H1 D f A:=by
 cases f with
 |nx ρ=>exactλa b v L=>h a b v (l.trans L)|rt ρ=>exactλa b v L=>h a b v (l.trans L)|bk ρ=>exactλa b v L=>h a b v (l.trans L)|ct ρ=>exactλa b v L=>h a b v (l.trans L)
inductive MS (K:Frag)(xr:XR)(m:Ex)(D:Ends)(σ:St)(H:Hp):Prop
 |mk (φ:bY) (A:Hx) (ρ:En) (S:zN K φ A H) (re:RE K φ H ρ σ) (h:(m ρ A).post (FB K φ H D) (EB K φ H xr))
noncomputable def tS (K:Frag)(x:XR)(m:Ex):TS:=λD σ H=>MS K x m D σ H
def SS (X:Cx)(x:XR)(st:Stmt)(m:Ex):Prop:=PS X st (tS X.K x m)
def K8 (X:Cx)(x:XR)(st:cu)(m:Ex):Prop:=yY X st (tS X.K x m)
section
variable {xr:XR}{a b c:Expr}{st:Stmt}{rest:cu}{m:Ev}{m1 m2:Ex}
def PS.imp {t t':TS}(h:PS X st t)(i:∀D σ H,t' D σ H->t D σ H):PS X st t':=λpins s σ H D I hw=>h pins s σ H D I (i D σ H hw)
def yY.imp {t t':TS}(h:yY X rest t)(i:∀D σ H,t' D σ H->t D σ H):yY X rest t':=λpins s σ H D I hw=>h pins s σ H D I (i D σ H hw)
noncomputable def zC:Ex:=λρ A=>.ok (.nx ρ) A
noncomputable def zq (m1 m2:Ex):Ex:=λρ A=>(m1 ρ A).bind λl A1=>match l with
 |.nx ρ1=>m2 ρ1 A1|f=>.ok f A1
noncomputable def yk (m:Ev):Ex:=λρ A=>(m ρ A).bind λ_ A1=>.ok (.nx ρ) A1
noncomputable def qD (m:Ev):Ex:=λρ A=>(m ρ A).bind λw A1=>.ok (.rt w) A1
noncomputable def qZ (c:Ev)(a b:Ex):Ex:=λρ A=>(c ρ A).bind λx A1=>match x with
 |.bl true=>a ρ A1|.bl false=>b ρ A1|_=>.bad
noncomputable def zW (i:Nat)(m:Ev):Ex:=λρ A=>(m ρ A).bind λw A1=>.ok (.nx (ρ.set i (some w))) A1
def zW.read:∀D σ H,tS X.K xr (zW i m) D σ H->G3 (tM X.K xr m) (GO i) D σ H:=by
 rintro D σ H ⟨φ,A,ρ,S,re,h⟩
 exact tM.go S re (qa.mp h) λw A1 a H1 v b l s q=>b a H1 _ l s ((re.mono l).set q)
noncomputable def wM (g:W->W->W->Hx->R Unit)(me mo mi:Ev):Ex:=λρ A=>(me ρ A).bind λv A1=>(mo ρ A1).bind λo A2=>(mi ρ A2).bind λi b=>(g o i v b).bind λ_ a=>.ok (.nx ρ) a
def NW (K:Frag)(t:JX)(g:W->W->W->Hx->R Unit):Prop:=∀φ A H o i v w wi wv Q,zN K φ A H->RV K φ H w o->RV K φ H wi i->RV K φ H wv v->
 (g w wi wv A).post (λ_ A'=>∀a h,Le K φ H a h->zN K a A' h->Q h) gx->t o i v H Q
def D9 {o i:Expr}{mo mi:Ev}{t:JX}{g:W->W->W->Hx->R Unit}(M:GZ X t)(hn:∀o i v A,qR (g o i v A))(U:NW X.K t g)(he:SE X xr e m)(P:SE X xr o mo)(T:SE X xr i mi)
  (N:swapsWithSole [.Subscript o i tpos] e pos.line X.env=pure false:=by rfl)(hw:swappedStores [.Subscript o i tpos] e X.env=pure none:=by rfl)
  (j:(assignEach [.Subscript o i tpos] X.env).map (·.2)=[assign (.Subscript o i tpos) X.env]:=by rfl)
  (Y:∀v,assign (.Subscript o i tpos) X.env v=(do
   let ov <- holding [v] (eval o X.env)
   let iv <- holding [v,ov] (eval i X.env)
   standAt tpos
   holding [v,ov,iv] (setItem ov iv v)
   release [v,ov,iv] []):=by intro _;rfl):SS X xr (.Assign [.Subscript o i tpos] e pos) (wM g m mo mi):=
 PS.imp (O9 he (de P T M Y) N hw j) λD σ H ⟨φ,A,ρ,S,re,h⟩=>by
  refine tM.go S re (qa.mp h) λn A1 C H1 v1 j f S1 J=>?_;refine tM.go S1 (re.mono f) (qA (qa.mp j) (λ_ _ z=>z) λ_ _ z=>z.mono f) λk A2 B H2 v2 Z q S2 I=>?_;have l:=f.trans q;refine tM.go S2 (re.mono l) (qA (qa.mp Z) (λ_ _ z=>z) λ_ _ z=>z.mono l) λw y c H3 E a d S3 Q=>?_;have L:=l.trans d;refine U c y H3 v2 E v1 k w n _ S3 (I.mono d) Q (J.mono (q.trans d)) ?_;cases r:g k w n y with
  |ok u s=>
   rw[r]at a;exactλb H4 p S4=>a b H4 σ (L.trans p) S4 (re.mono (L.trans p))
  |exc x s=>exact absurd r (hn _ _ _ _ x s)|bad=>rw[r]at a;exact a.elim
structure jE where
 at_:Hx->Nat->Option (Option W)
 len:Nat
def ZZ (K:Frag)(φ:bY)(H:Hp)(j:jE)(J:It):Prop:=∀i a h A',Zt K φ H a h->zN K a A' h->
 (∀w,j.at_ A' i=some (some w)->J.go i h/\∀x H1,J.yld i h x H1->Le K a h a H1/\zN K a A' H1/\RV K a H1 w x)/\(j.at_ A' i=some none->J.stop i h)
abbrev Ei:=En->Hx->R jE
inductive MI (K:Frag)(xr:XR)(mi:Ei)(σ:St)(H:Hp)(Rr:It->Hp->Prop):Prop
 |mk (φ:bY) (A:Hx) (ρ:En) (S:zN K φ A H) (re:RE K φ H ρ σ) (h:(mi ρ A).post (λj A1=>∀φ1 H1 J,Le K φ H φ1 H1->zN K φ1 A1 H1->ZZ K φ1 H1 j J->Rr J H1) (EB K φ H xr))
noncomputable def tI (K:Frag)(x:XR)(mi:Ei):TI:=λσ H r=>MI K x mi σ H r
def SI (X:Cx)(x:XR)(t iter:Expr)(mi:Ei):Prop:=PI X t iter (tI X.K x mi)
def PI.imp {t t':TI}(h:PI X tg e t)(i:∀σ H Q,t' σ H Q->t σ H Q):PI X tg e t':=λpins s σ H Q I hw=>h pins s σ H Q I (i σ H Q hw)
abbrev Tg:=W->En->Option En
inductive MG (K:Frag)(tw:Tg)(v:V)(σ:St)(H:Hp)(Q:St->Hp->Prop):Prop
 |mk (φ:bY) (A:Hx) (ρ:En) (w:W) (ρ':En) (S:zN K φ A H) (re:RE K φ H ρ σ) (rv:RV K φ H w v) (t:tw w ρ=some ρ') (q:∀σ',RE K φ H ρ' σ'->Q σ' H)
noncomputable def tG (K:Frag)(tw:Tg):TG:=λv σ H Q=>MG K tw v σ H Q
def SG (X:Cx)(t:Expr)(tw:Tg):Prop:=PG X t (tG X.K tw)
def PG.imp {t t':TG}(h:PG X tg t)(i:∀v σ H Q,t' v σ H Q->t v σ H Q):PG X tg t':=λpins s σ H v u Q I r hw=>h pins s σ H v u Q I r (i v σ H Q hw)
noncomputable def zG (i:Nat):Tg:=λw ρ=>some (ρ.set i (some w))
noncomputable def jW (i j:Nat):Tg:=λw ρ=>match w with
 |.tup [x,y]=>some ((ρ.set i (some x)).set j (some y))|_=>none
noncomputable def yP (j:jE)(st:W->Ex):Nat->Nat->Ex
 |0,i,ρ,A=>match j.at_ A i with
  |some none=>.ok (.nx ρ) A|_=>.bad
 |f+1,i,ρ,A=>match j.at_ A i with
  |some none=>.ok (.nx ρ) A|some (some w)=>(st w ρ A).bind λl A1=>match l with
   |.nx ρ1=>yP j st f (i+1) ρ1 A1|.ct ρ1=>yP j st f (i+1) ρ1 A1|.bk ρ1=>.ok (.nx ρ1) A1|.rt w=>.ok (.rt w) A1
  |none=>.bad
noncomputable def turn (tw:Tg)(body:Ex)(w:W):Ex:=λρ A=>match tw w ρ with
 |some ρ1=>body ρ1 A|none=>.bad
def jK (mi:Ei)(tw:Tg)(body:Ex):Ex:=λρ A=>(mi ρ A).bind λj A1=>yP j (turn tw body) j.len 0 ρ A1
inductive MH (K:Frag)(xr:XR)(j:jE)(t:W->Ex)(D:Ends)(φ1:bY)(H1:Hp)(f i:Nat)(σ':St)(H':Hp):Prop
 |mk (φ2:bY) (A2:Hx) (ρ2:En) (l:Le K φ1 H1 φ2 H') (S:zN K φ2 A2 H') (re:RE K φ2 H' ρ2 σ') (h:(yP j t f i ρ2 A2).post (FB K φ2 H' D) (EB K φ2 H' xr))
noncomputable def Qt (c:Ev)(body:Ex):Nat->Ex
 |0,ρ,A=>.bad|f+1,ρ,A=>(c ρ A).bind λx A1=>match x with
  |.bl true=>(body ρ A1).bind λl A2=>match l with
   |.nx ρ1=>Qt c body f ρ1 A2|.ct ρ1=>Qt c body f ρ1 A2|.bk ρ1=>.ok (.nx ρ1) A2|.rt w=>.ok (.rt w) A2
  |.bl false=>.ok (.nx ρ) A1|_=>.bad
def Ud (f:Nat)(c:Ev)(body:Ex):Ex:=Qt c body f
noncomputable def Qg (nl:Nat)(cap:b8)(ρ:En):En:=List.replicate nl none++cap.map λi=>(ρ[i]?).join
theorem RE.Zj {K:Frag}{ρ:En}{nl:Nat}(r:RE K φ H ρ σ):RE K φ H (Qg nl cap ρ) (L2.Zj nl cap σ):=by
 refine⟨by simp[Qg,L2.Zj],λi w e=>?_⟩
 unfold Qg at e;unfold L2.Zj
 by_cases hi:i<nl
 ·rw[ai (by simpa using hi),bC]at e
  split at e<;>cases e
 ·rw[aw (by simpa using hi),bh,ax]at e
  rw[aw (by simpa using hi),bh,ax]
  cases c:cap[i-nl]? with
  |none=>rw[c]at e;cases e|some k=>
   rw[c]at e;have E:(ρ[k]?).join=some w:=aB e;cases h:ρ[k]? with
   |none=>rw[h]at E;cases E|some o=>cases o with
    |none=>rw[h]at E;cases E|some d=>
     rw[h]at E;cases E;obtain⟨v,b,a⟩:=r.get k w h;exact⟨v,by simp[b],a⟩
abbrev Em:=En->List W->Hx->R (En×List W)
noncomputable def zR:Nat:=100000
def zM (elt:Ev):Em:=λρ acc A=>(elt ρ A).bind λy A1=>if acc.length<zR then .ok (ρ,acc++[y]) A1 else .bad
noncomputable def qX (j:jE)(tw:Tg)(ifs:Ev)(em:Em):Nat->Nat->Em
 |0,i,ρ,acc,A=>match j.at_ A i with
  |some none=>.ok (ρ,acc) A|_=>.bad
 |f+1,i,ρ,acc,A=>match j.at_ A i with
  |some none=>.ok (ρ,acc) A|some (some w)=>match tw w ρ with
   |some ρ1=>(ifs ρ1 A).bind λc A1=>match c with
    |.bl true=>(em ρ1 acc A1).bind λp A2=>qX j tw ifs em f (i+1) p.1 p.2 A2|.bl false=>qX j tw ifs em f (i+1) ρ1 acc A1|_=>.bad
   |none=>.bad
  |none=>.bad
def YG (mi:Ei)(tw:Tg)(ifs:Ev)(em:Em):Em:=λρ acc A=>(mi ρ A).bind λj A1=>qX j tw ifs em j.len 0 ρ acc A1
abbrev ym:=En->Hx->R (List W)
def zV (nl:Nat)(cap:b8)(mi:Ei)(tw:Tg)(ifs:Ev)(em:Em):ym:=λρ A=>(mi ρ A).bind λj A1=>(qX j tw ifs em j.len 0 (Qg nl cap ρ) [] A1).nox.bind λp A2=>.ok p.2 A2
def We (K:Frag)(D:Addr)(φ:bY)(H:Hp)(Q:St->Hp->Prop)(p:En×List W)(A1:Hx):Prop:=∀a H1 b zs,yB K D φ H a H1->(∀k:Nat,a[k]?≠some D)->zN K a A1 H1->RE K a H1 p.1 b->H1 D=some (.lst zs)->zD K a H1 p.2 zs->Q b H1
inductive ME (K:Frag)(em:Em)(D:Addr)(σ:St)(H:Hp)(Q:St->Hp->Prop):Prop
 |mk (φ:bY) (A:Hx) (ρ:En) (acc:List W) (ys:List V) (S:zN K φ A H) (re:RE K φ H ρ σ) (hD:H D=some (.lst ys)) (nD:∀k:Nat,φ[k]?≠some D) (rv:zD K φ H acc ys)
  (h:(em ρ acc A).post (We K D φ H Q) gx)
noncomputable def tE (K:Frag)(em:Em):w8:=λD σ H Q=>ME K em D σ H Q
noncomputable abbrev ko:XR:=λ_ _=>False
def SM (X:Cx)(elt:Expr)(gens:List Comprehension)(sc:Scope)(c:Pos)(d:Nat)(em:Em):Prop:=wm X elt gens sc c d (tE X.K em)
def wm.imp {d:Nat}{t t':w8}(h:wm X elt gens sc pos d t)(i:∀D σ H Q,t' D σ H Q->t D σ H Q):wm X elt gens sc pos d t':=
 λpins s σ H D Q k Q' E I hw a=>h pins s σ H D Q k Q' E I (i D σ H Q hw) a
def Kk {K:Frag}{r:R α}{P:α->Hx->Prop}(h:r.post P gx):r.post P (EB K φ H ko):=qA h (λ_ _ z=>z) λ_ _ z=>z.elim
def YV (X:Cx)(ifs:cc)(m:Ev):Prop:=Qw X ifs (tT X.K ko m)
def O4:YV X [] (zo (.bl true)):=λpins s σ H Q I ⟨φ,A,ρ,S,re,h⟩=>DL pins s σ H Q I (by
 obtain⟨b,e,q⟩:=h;cases e;exact q φ H .refl S)
inductive Xn (tw:Tg)(ifs:Ev)(em:Em)(j:jE)(K:Frag)(D:Addr)(φ:bY)(H:Hp)(Q:St->Hp->Prop)(f i:Nat)(σ':St)(H':Hp):Prop
 |mk (φ2:bY) (A2:Hx) (ρ2:En) (acc2:List W) (ys2:List V) (l:yB K D φ H φ2 H') (S:zN K φ2 A2 H') (re:RE K φ2 H' ρ2 σ') (hD:H' D=some (.lst ys2)) (nD:∀k:Nat,φ2[k]?≠some D) (ra:zD K φ2 H' acc2 ys2) (h:(qX j tw ifs em f i ρ2 acc2 A2).post (We K D φ H Q) gx)
def qX.read {tw:Tg}{ifs:Ev}{em:Em}{j:jE}{J:It}{K:Frag}{A:Hx}{ρ:En}{acc:List W}{Q:St->Hp->Prop}{f:Nat}
  (jr:ZZ K φ H j J)
  (S:zN K φ A H)(re:RE K φ H ρ σ)(hD:H D=some (.lst ys))(nD:∀k:Nat,φ[k]?≠some D)(ra:zD K φ H acc ys)
  (h:(qX j tw ifs em f 0 ρ acc A).post (We K D φ H Q) gx):
  YM J (tG K tw) (tT K ko ifs) (tE K em) D σ H Q:=by
 refine⟨λi f b P=>Xn tw ifs em j K D φ H Q f i b P,
  ⟨f,φ,A,ρ,acc,ys,.refl,S,re,hD,nD,ra,h⟩,?_⟩
 rintro i f U H2 ⟨g,A2,s,e,Y,B,S2,t,M,u,n,a⟩
 obtain⟨j1,j2⟩:=jr i g H2 A2 ⟨B.ex,B.tp,B.fz⟩ S2;cases E:j.at_ A2 i with
 |none=>cases f<;>(unfold qX at a;rw[E]at a;exact a.elim)|some o=>
  cases o with
  |none=>
   left
   refine⟨j2 E,?_⟩;cases f<;>(unfold qX at a;rw[E]at a;exact a g H2 U Y B u S2 t M n)
  |some w=>
   right
   obtain⟨go,yl⟩:=j1 w E;cases f with
   |zero=>unfold qX at a;rw[E]at a;exact a.elim|succ f=>
    unfold qX at a;rw[E]at a;refine⟨go,λb P=>Xn tw ifs em j K D φ H Q f (i+1) b P,λb P z=>⟨f,bo _,z⟩,λx H3 y=>?_⟩;obtain⟨v,S3,q3⟩:=yl x H3 y;obtain⟨hD3,Z⟩:=v.off M u;dsimp only at a;cases et:tw w s with
    |none=>rw[et]at a;exact a.elim|some l=>
     rw[et]at a;refine⟨g,A2,s,w,l,S3,t.mono v,q3,et,λσ3 r=>?_⟩;refine tT.go S3 r (Kk (qa.mp a)) λc A4 d=>?_;cases c with
     |bl k=>
      refine⟨k,rfl,λq H4 L S4=>?_⟩;obtain⟨I,N⟩:=L.off hD3 Z;have C:=(B.trans (v.trans L).toD);cases k with
      |true=>
       rw[ag rfl];refine⟨q,A4,l,e,Y,S4,r.mono L,I,N,n.mono (v.trans L),qA (qa.mp d) (λp A5 h5 T H5 σ5 zs l5 n5 S5 X d5 r5=>?_) λ_ _ z=>z⟩;exact⟨T,A5,p.1,p.2,zs,C.trans l5,S5,X,d5,n5,r5,h5⟩
      |false=>
       rw[aj aA];exact⟨q,A4,l,e,Y,C,S4,r.mono L,I,N,n.mono (v.trans L),d⟩
     |non=>cases d|int _=>cases d|str _=>cases d|tup _=>cases d|ref _=>cases d|clo _ _ _=>cases d|xc _=>cases d
def ZZ.mono {K:Frag}{b:bY}{H1:Hp}{j:jE}{J:It}(h:ZZ K φ H j J)(l:Zt K φ H b H1):ZZ K b H1 j J:=
 λi c d A' L=>h i c d A' ⟨λn a e=>L.ex n a (l.ex n a e),λa vs e=>L.tp a vs (l.tp a vs e),λa o u e=>L.fz a o u (l.fz a o u e)⟩
inductive MF (K:Frag)(xr:XR)(mq:ym)(σ:St)(H:Hp)(Q:VK):Prop
 |mk (φ:bY) (A:Hx) (ρ:En) (S:zN K φ A H) (re:RE K φ H ρ σ) (h:(mq ρ A).post (λws A1=>∀φ1 H1 D ys,Le K φ H φ1 H1->zN K φ1 A1 H1->H D=none->H1 D=some (.lst ys)->(∀k:Nat,φ1[k]?≠some D)->zD K φ1 H1 ws ys->Q (.ref D) H1) (EB K φ H xr))
noncomputable def tF (K:Frag)(x:XR)(M:ym):TE:=λσ H Q=>MF K x M σ H Q
def SF (X:Cx)(x:XR)(e:Expr)(M:ym):Prop:=PE X e (tF X.K x M)
theorem zV.read {mi:Ei}{tw:Tg}{M:Ev}{em:Em}{nl:Nat}:∀σ H Q,tF X.K xr (zV nl cap mi tw M em) σ H Q->GQ X.K (tI X.K xr mi) (tG X.K tw) (tT X.K ko M) (tE X.K em) nl cap σ H Q:=by
 rintro σ H Q ⟨φ,A,ρ,S,re,h⟩
 refine⟨φ,A,ρ,S,re,qA (qa.mp h) (λj A1 t b H1 J l s o D c q=>?_) λ_ _ z=>z⟩;have ln:Le X.K b H1 b (upd H1 D (.lst [])):=Le.new c;have a:=qa.mp t;refine qX.read (o.mono ⟨ln.ex,ln.tp,ln.fz⟩) (s.lay c) ((re.mono (l.trans ln)).Zj) jA (s.notin c q) .nil ?_ (f:=j.len) (acc:=[]);cases e:qX j tw M em j.len 0 (Qg nl cap ρ) [] A1 with
 |ok p A2=>
  rw[e]at a;intro d w g zs k n v r u i;have L:=l.trans (Le.ofD c k);exact a d w D zs L v (l.st D c) u n i
 |exc x A2=>rw[e]at a;exact a.elim|bad=>rw[e]at a;exact a.elim
noncomputable def qg (q:ym):Ev:=λρ A=>(q ρ A).bind λws A1=>.ok (.ref A1.length) (A1++[.lst ws])
def qg.read {q:ym}{K:Frag}:∀σ H Q,tM K xr (qg q) σ H Q->tF K xr q σ H Q:=by
 rintro σ H Q ⟨φ,A,ρ,S,re,h⟩
 refine⟨φ,A,ρ,S,re,qA (qa.mp h) (λws A1 d b H1 D ys l s h0 c N r=>?_) λ_ _ z=>z⟩;have ll:Le K φ H (b++[D]) H1:=l.YI h0;have lw:Zt K b H1 (b++[D]) H1:=⟨λn a h=>by
  have:=(cA.mp h).1
  rw[ai this];exact h,λ_ _ h=>h,λ_ _ _ h=>h⟩
 refine d _ _ _ ll (s.YI (o:=.lst ws) c N ⟨ys,c,r.monoW lw⟩) ⟨D,rfl,?_⟩;rw[<- s.len];simp
inductive MQ (K:Frag)(xr:XR)(mq:ym)(σ:St)(H:Hp)(Q:VK):Prop
 |mk (φ:bY) (A:Hx) (ρ:En) (S:zN K φ A H) (re:RE K φ H ρ σ) (h:(mq ρ A).post (λws A1=>∀φ1 H1 a ys,Le K φ H φ1 H1->zN K φ1 A1 H1->(jj K H1 a ys∨qo K H1 a ys)->zD K φ1 H1 ws ys->Q (.ref a) H1) (EB K φ H xr))
noncomputable def tQ (K:Frag)(x:XR)(M:ym):TE:=λσ H Q=>MQ K x M σ H Q
def SQ (X:Cx)(x:XR)(e:Expr)(M:ym):Prop:=PE X e (tQ X.K x M)
noncomputable def zT (w:W)(A:Hx):Option (List W):=match w with
 |.tup ws=>some ws|.ref n=>match A[n]? with
  |some (.lst ws)=>some ws|some (.ro ws)=>some ws|_=>none
 |_=>none
def WL {K:Frag}{A:Hx}{w:W}{ws:List W}(S:zN K φ A H)(q:RV K φ H w v)(e:zT w A=some ws):∃a ys,v=.ref a/\(jj K H a ys∨qo K H a ys)/\zD K φ H ws ys:=by
 unfold zT at e;cases w with
 |tup xs=>cases e;obtain⟨a,ys,b,d,E⟩:=q;exact⟨a,ys,b,.inr d,E⟩|ref n=>
  obtain⟨a,b,d⟩:=q;dsimp only at e;cases ea:A[n]? with
  |none=>rw[ea]at e;cases e|some o=>
   rw[ea]at e;obtain⟨f,E,r⟩:=S.ob n o ea;rw[d]at E;cases E;cases o with
   |lst xs=>cases e;obtain⟨ys,c,h⟩:=r;exact⟨a,ys,b,.inl (jj.of c),h⟩|ro xs=>cases e;obtain⟨ys,c,h⟩:=r;exact⟨a,ys,b,.inl c.sq,h⟩|dct xs=>cases e|td _=>cases e|tr _=>cases e|tab _ _=>cases e
 |non=>cases e|bl _=>cases e|clo _ _ _=>cases e|xc _=>cases e|int _=>cases e|str _=>cases e
def qb (m:Ev):ym:=λρ A=>(m ρ A).bind λw A1=>match zT w A1 with
 |some ws=>.ok ws A1|none=>.bad
def K1 (w:W)(A:Hx):Option jE:=match zT w A with
 |some ws=>some ⟨λA i=>(zT w A).map λws=>ws[i]?,ws.length⟩|none=>none
def qh (m:Ev):Ei:=λρ A=>(m ρ A).bind λw A1=>match K1 w A1 with
 |some j=>.ok j A1|none=>.bad
def ej (K:Frag)(t:TE):TI:=λσ H r=>t σ H λx H1=>∃a,x=.ref a/\(((∃xs,jj K H1 a xs)/\r (Mv K a) H1)∨((∃xs,qo K H1 a xs)/\r (MD K a) H1))
def eu {l:Expr}{t:TE}(j:PE X l t):PI X tg l (ej X.K t):=by
 intro pins s σ H n I h;refine zZ (j pins s σ H _ I h) λv s1 ⟨x,H1,i,g,Q⟩=>?_;obtain⟨a,e,q⟩:=Q;subst e;cases g;have f:∀b∈[s1.heap.objs.size],kY X pins H1 b:=λb k=>by
  have e:b=s1.heap.objs.size:=by simpa using k
  subst e;exact i.fpOk (av _) (i.hok.fresh (av _))
 rcases q with ⟨⟨xs,d⟩,q⟩|⟨⟨xs,d⟩,q⟩
 ·obtain⟨c,r,p,z⟩:=i.list d
  refine wpAny_pyIter_list p.isList ?_;exact⟨s1.heap.objs.size,[s1.heap.objs.size],_,_,H1,rfl,i.kept (t':=s1.toks) λb o e=>ae _ e,Fp a _,⟨_,au _ rfl,rfl,rfl⟩,f,q⟩
 ·obtain⟨c,r,p,z⟩:=i.tuple d
  refine wpAny_pyIter_tuple (show s1.heap.IsTuple a c.toArray from p) ?_
  exact⟨s1.heap.objs.size,[s1.heap.objs.size],_,_,H1,rfl,i.kept (t':=s1.toks) λb o e=>ae _ e,Hw a _,⟨_,au _ rfl,rfl,rfl⟩,f,q⟩
noncomputable def yO (lo:Int)(n:Nat):jE:=⟨λ_ i=>if i<n then some (some (.int (lo+i))) else some none,n⟩
def ew {K:Frag}{lo:Int}:ZZ K φ H (yO lo n) (Xt lo n):=λi a h A' lw S=>by
 unfold yO;dsimp only
 by_cases hi:i<n
 ·rw[ag hi]
  refine⟨λw e=>?_,λe=>by cases e⟩
  cases e;exact⟨hi,λx H1 ⟨b,E⟩=>by subst b;exact⟨.refl,S,E⟩⟩
 ·rw[aj hi]
  exact⟨λw e=>(by cases e),λ_=>Nat.le_of_not_lt hi⟩
noncomputable def yg (i:Int):Bool:=decide (-(2 ^ 62)<=i)&&decide (i<2 ^ 62)
def Yj {i:Int}(h:yg i=true):-(2 ^ 62)<=i/\i<2 ^ 62:=by
 unfold yg at h;rw[ar,ao,ao]at h;exact h
def qT (m:Ev):Ei:=λρ A=>(m ρ A).bind λw A1=>match w with
 |.int j=>if yg j then .ok (yO 0 j.toNat) A1 else .bad|_=>.bad
end
abbrev Fn:=List W->Hx->R W
def kC (K:Frag)(x:Str)(C:Value):Prop:=nsIn K mainGlobals x=some (some C)
def XE (K:Frag)(E:XK)(x:Str)(H:Hp):Prop:=∀C d,kC K x C->E C d H
inductive K5 (K:Frag)(n:Nat)(f:Fn)(vs:List V)(H:Hp)(Q:VK)(E:XK):Prop
 |mk (len:vs.length=n) (φ:bY) (A:Hx) (ws:List W) (S:zN K φ A H) (r:zD K φ H ws vs) (q:(f ws A).post (PB K φ H Q) (EB K φ H (XE K E)))
def K5.len {K:Frag}{f:Fn}{Q:VK}{E:XK}(h:K5 K n f vs H Q E):vs.length=n:=by cases h;assumption
inductive zS (P:Program)(w:World)(K:Frag)(mg:cg)(base:Heap)(k:Nat)(x:Str)(n:Nat)(f:Fn):Prop
 |mk (fa:Addr) (fd:FuncData) (ps:b9) (F:km P w K mg base gU k fa fd ps (K5 K n f)) (at_:mg x=some (.ref fa)) (kp:keepIn K (.ref fa)=true) (bi:Binds K fd ps [])
noncomputable def zF (f:Fn)(a:Ea):Ev:=λρ A=>(a ρ A).bind λws A1=>f ws A1
section
variable {m ma:Ev}
def Qo (m:Ea)(n:Nat):Prop:=∀ρ A ws A',m ρ A=.ok ws A'->ws.length=n
def zJ:Qo zl 0:=λ_ _ _ _ h=>by unfold zl at h;cases h;rfl
def zp {M:Ea}(h:Qo M n):Qo (zc ma M) (n+1):=λρ A ws A' e=>by
 unfold zc at e;cases h1:ma ρ A with
 |ok x A1=>
  rw[h1,zP]at e;cases H:M ρ A1 with
  |ok xs A2=>rw[H,zP]at e;cases e;simp[h ρ A1 xs _ H]|exc x A2=>rw[H]at e;cases e|bad=>rw[H]at e;cases e
 |exc x A1=>rw[h1]at e;cases e|bad=>rw[h1]at e;cases e
end
noncomputable def je (n:Nat)(m:Ex):Fn:=λws A=>(m (ws.map some++List.replicate (n-ws.length) none) A).nox.bind λf A1=>match f with
 |.rt w=>.ok w A1|.nx _=>.ok .non A1|_=>.bad
theorem RE.start {K:Frag}{ws:List W}(h:zD K φ H ws vs):RE K φ H (ws.map some++List.replicate (N.length-ws.length) none) (L2.start N vs):=by
 unfold L2.start;refine⟨by simp[h.length],λi w e=>?_⟩
 by_cases hi:i<ws.length
 ·rw[ai (by simpa using hi),ax]at e
  cases hw:ws[i]? with
  |none=>rw[hw]at e;cases e|some c=>
   rw[hw]at e;cases e;obtain⟨v,b,a⟩:=h.get hw;refine⟨v,?_,a⟩;rw[ai (by rw[ah,<- h.length];exact hi),ax,b];rfl
 ·rw[aw (by simpa using hi),bC]at e
  split at e<;>cases e
section
variable {K:Frag}
theorem zS.mono {f:Fn}(F:zS P w K mg base j x n f)(h:j<=k):zS P w K mg base k x n f:=by cases F with|mk d fd ps F a b c=>exact⟨d,fd,ps,F.mono h,a,b,c⟩
theorem zS.imp {f g:Fn}(F:zS P w K mg base k x n f)(h:∀ws A,ws.length=n->g ws A=.bad∨f ws A=g ws A):zS P w K mg base k x n g:=by
 obtain⟨d,fd,ps,F,a,b,c⟩:=F;refine⟨d,fd,ps,F.imp λvs H Q E ⟨l,φ,A,ws,S,r,q⟩=>⟨l,φ,A,ws,S,r,?_⟩,a,b,c⟩;rcases h ws A (by rw[r.length];exact l) with e|e
 ·rw[e]at q;exact q.elim
 ·rw[e];exact q
end
section
variable {K:Frag}
def jY {a:α}{A:Hx}:qR (R.ok a A):=λ_ _ h=>by cases h
def qP:qR (R.bad:R α):=λ_ _ h=>by cases h
def Zd {c:Prop} [Decidable c] {a b:R α}(H:qR a)(h:qR b):qR (if c then a else b):=by split<;>assumption
noncomputable def Zs (f:Int->Int->W):W->W->Hx->R W
 |.int i,.int j,A=>.ok (f i j) A|_,_,_=>.bad
def Q5 {f:Int->Int->W}:∀x y A,qR (Zs f x y A):=λx y A=>by
 unfold Zs;split
 ·exact jY
 ·exact qP
noncomputable def QD (c:Int->Int->Bool)(f:Int->Int->W):W->W->Hx->R W
 |.int i,.int j,A=>if c i j then .ok (f i j) A else .bad|_,_,_=>.bad
def UD {c:Int->Int->Bool}{f:Int->Int->W}:∀x y A,qR (QD c f x y A):=λx y A=>by
 unfold QD;split
 ·exact Zd jY qP
 ·exact qP
def QX {f:Int->Int->W}{g:Int->Int->V}(h:∀i j φ H,RV K φ H (f i j) (g i j)):yx K (Zr g) (Zs f):=λφ A H x y u v Q S a q p=>by
 cases u with
 |int i=>cases v with
  |int j=>obtain rfl:=a;obtain rfl:=q;exact⟨i,j,rfl,rfl,p φ H _ .refl S (h i j φ H)⟩|_=>exact p.elim
 |_=>exact p.elim
def Ul {c:Int->Int->Bool}{C:Int->Int->Prop}{f:Int->Int->W}{g:Int->Int->V}(d:∀i j,c i j=true->C i j)(h:∀i j φ H,RV K φ H (f i j) (g i j)):yx K (rI C g) (QD c f):=λφ A H x y u v Q S b q p=>by
 cases u with
 |int i=>cases v with
  |int j=>
   obtain rfl:=b;obtain rfl:=q;unfold QD at p;dsimp only at p
   by_cases a:c i j=true
   ·rw[ag a]at p;exact⟨i,j,rfl,rfl,d i j a,p φ H _ .refl S (h i j φ H)⟩
   ·rw[aj a]at p;exact p.elim
  |_=>exact p.elim
 |_=>exact p.elim
noncomputable def KY (i j:Int):Bool:=(decide (-(2 ^ 64)<i)&&decide (i<2 ^ 64)) || (decide (-(2 ^ 64)<j)&&decide (j<2 ^ 64))
noncomputable def GW (_ j:Int):Bool:=decide (0<j)
def CO (i j:Int)(h:KY i j=true):KU i j:=by
 unfold KY at h;simp only[bP,ar,decide_eq_true_eq]at h;exact h
def CA (i j:Int)(h:GW i j=true):(λ_ j=>0<j) i j:=by
 unfold GW at h;simpa using h
def kN:=Zs λi j=>.int (i-j)
def wC:=QD GW λi j=>.int (i%j)
def U6:=Zs λi j=>.int (Builtin.bitXor i j)
def J5:=Zs λi j=>.bl (decide (i<j))
def Zv:=Zs λi j=>.bl (decide (i<=j))
def Tq:=Zs λi j=>.bl (decide (j<i))
def To:=Zs λi j=>.bl (decide (j<=i))
noncomputable def U5 (i j:Int):Bool:=decide (0<=j)&&decide (j<=1000000)&&decide (i.natAbs<2 ^ 64)
def CN (i j:Int)(h:U5 i j=true):Me i j:=by
 unfold U5 at h;simp only[ar,decide_eq_true_eq]at h;exact⟨h.1.1,h.1.2,h.2⟩
def Xa:=QD U5 λi j=>.int (i ^ j.toNat)
variable {a b c:Expr}
noncomputable def wF:W->Hx->R W
 |.int i,A=>.ok (.int (-i)) A|_,_=>.bad
structure wQ (X:Cx)(op:CmpOp)(g:W->W->Hx->R W):Prop where
 ex:∃r:R2,qY X (compareOp op) r/\(∀x y A,qR (g x y A))/\yx X.K r g
 mks:∀b,op≠.In->op≠.NotIn->behindInMarks op b=false
def JD {r:R2}{g:W->W->Hx->R W}(a:qY X (compareOp op) r)(H:∀x y A,qR (g x y A))(h:yx X.K r g):wQ X op g:=⟨⟨r,a,H,h⟩,λb a1 a2=>DM b a1 a2⟩
def Ma:wQ X .Lt J5:=JD dC Q5 (QX λ_ _ _ _=>rfl)
def U1:wQ X .LtE Zv:=JD dD Q5 (QX λ_ _ _ _=>rfl)
def ez:wQ X .Gt Tq:=JD dE Q5 (QX λ_ _ _ _=>rfl)
def eA:wQ X .GtE To:=JD dF Q5 (QX λ_ _ _ _=>rfl)
end
inductive Ty where
 |non|bl|int|str|tup|lst|dct
 deriving DecidableEq
noncomputable def Ty.nm:Ty->String
 |.non => "NoneType" | .bl => "bool" | .int => "int" | .str => "str" | .tup => "tuple" | .lst => "list" | .dct => "dict"
noncomputable def jO (w:W)(A:Hx):Option Ty:=match w with
 |.non=>some .non|.bl _=>some .bl|.int _=>some .int|.str _=>some .str|.tup _=>some .tup|.ref n=>match A[n]? with
  |some (.lst _)=>some .lst|some (.dct _)=>some .dct|_=>none
 |_=>none
noncomputable def kE (a b:Ty):Bool:=a==b || (a==.bl&&b==.int)
def Gf {K:Frag}(a b:Ty):kitOne K (.type a.nm) (.type b.nm)=some (kE a b):=by
 cases a<;>cases b<;>rfl
section
variable {xr:XR}{K:Frag}{a c:Expr}{es:cc}{m:Ev}
def J3 (K:Frag)(H:Hp)(x:V)(t:Ty):Prop:=gq K H x (.type t.nm)∨∃a xs,x=.ref a/\qo K H a xs/\t=.tup
def PX {A:Hx}{w:W}{t:Ty}(S:zN K φ A H)(q:RV K φ H w v)(e:jO w A=some t):J3 K H v t:=by
 cases w with
 |non=>cases e;obtain rfl:=q;exact .inl .non|bl k=>cases e;obtain rfl:=q;exact .inl (.bl k)|clo _ _ _=>cases e|xc _=>cases e|int k=>cases e;obtain rfl:=q;exact .inl (.int k)|str k=>cases e;obtain rfl:=q;exact .inl (.str k)|tup ws=>cases e;obtain⟨a,vs,rfl,h,_⟩:=q;exact .inr ⟨a,vs,rfl,h,rfl⟩|ref n=>
  obtain⟨a,rfl,c⟩:=q;unfold jO at e;dsimp only at e;cases E:A[n]? with
  |none=>rw[E]at e;cases e|some o=>
   rw[E]at e;obtain⟨d,b,r⟩:=S.ob n o E;rw[c]at b;cases b;cases o with
   |lst ws=>cases e;obtain⟨vs,z,_⟩:=r;exact .inl (.lst z)|dct ws=>cases e;obtain⟨vs,z,_⟩:=r;exact .inl (.dK z)|td _=>cases e|tr _=>cases e|tab _ _=>cases e|ro ws=>cases e
def J3.kit {x:V}{t:Ty}(I:Inv X pins σ H s)(r:RelV x u)(h:J3 X.K H x t):
  (∀{Q:cb}{E:cb}{A:Around}{c:Ty},(∀tk,Q (.bool (kE t c)) { s with toks:=tk })->wpAny (model X.prog X.w) A (call (.builtin "isinstance") [u,.type c.nm]) Q E s):=by
 intro Q E A c q;rcases h with h|⟨a,xs,rfl,h,rfl⟩
 ·exact Ph I r h (Gf t c) q
 ·cases (show u=Value.ref a from r)
  obtain⟨i,_,⟨o,d,b,_⟩,_⟩:=I.tuple h;exact bI kitx_tuple I.kIn ⟨o,d,b⟩ (Gf .tup c) (λz=>nomatch z) q
def eC (K:Frag):List V->Hp->VK->Prop:=λxs H Q=>∃x t c,xs=[x,.ty (Ty.nm c)]/\J3 K H x t/\Q (.bl (kE t c)) H
def Bm:yt X (.builtin "isinstance") (eC X.K):=by
 intro pins s σ H xs us Q I r h;obtain⟨x,t,c,rfl,d,q⟩:=h;obtain⟨u,U,rfl,b,a⟩:=vals2 r;cases (show U=Value.type c.nm from a)
 exact d.kit I b λtk=>⟨.bl (kE t c),H,I.tok tk,rfl,q⟩
def yS (t:Ty)(m:Ev):Ev:=λρ A=>(m ρ A).bind λw A1=>match jO w A1 with
 |some t'=>.ok (.bl (kE t' t)) A1|none=>.bad
def zy:W->W->Hx->R W:=λx y A=>match zT x A,y with
 |some ws,.int i=>match w5 ws i with
  |some w=>.ok w A|none=>.bad
 |_,_=>.bad
def eD:∀x y A,qR (zy x y A):=λx y A=>by
 unfold zy;split
 ·split
  ·exact jY
  ·exact qP
 ·exact qP
def D4 {ws:List W}{i:Int}{w:W}(r:zD K φ H ws ys)(e:w5 ws i=some w):∃y,w5 ys i=some y/\RV K φ H w y:=by
 unfold w5 at e ⊢;rw[<- r.length];cases h:gW ws.length i with
 |none=>rw[h]at e;cases e|some j=>
  rw[h]at e;obtain⟨y,b,a⟩:=r.get (i:=j) e;exact⟨y,b,a⟩
def eE:yx K (MN K) zy:=λφ A H x y u v Q S c q p=>by
 unfold zy at p;cases es:zT u A with
 |none=>rw[es]at p;exact p.elim|some ws=>
  rw[es]at p;cases v with
  |int i=>
   obtain rfl:=q;dsimp only at p;cases e:w5 ws i with
   |none=>rw[e]at p;exact p.elim|some w=>
    rw[e]at p;obtain⟨a,ys,rfl,z,r⟩:=WL S c es;obtain⟨Y,b,h⟩:=D4 r e;rcases z with z|z
    ·exact .inl ⟨a,ys,i,Y,rfl,rfl,z,b,p φ H _ .refl S h⟩
    ·exact .inr (.inl ⟨a,ys,i,Y,rfl,rfl,z,b,p φ H _ .refl S h⟩)
  |non=>exact p.elim|bl _=>exact p.elim|str _=>exact p.elim|tup _=>exact p.elim|ref _=>exact p.elim|clo _ _ _=>exact p.elim|xc _=>exact p.elim
def J4 (K:Frag)(r:List V->Hp->VK->Prop)(g:List W->Hx->R W):Prop:=∀φ A H a ys ws Q,zN K φ A H->(jj K H a ys∨qo K H a ys)->zD K φ H ws ys->(g ws A).post (PB K φ H Q) gx->r [.ref a] H Q
noncomputable def mQ (g:List W->Hx->R W)(q:ym):Ev:=λρ A=>(q ρ A).bind λws A1=>g ws A1
def mQ.read {g:List W->Hx->R W}{q:ym}(hn:∀ws A,qR (g ws A))(c:J4 X.K r g):∀σ H Q,tM X.K xr (mQ g q) σ H Q->Xl r (GH (tQ X.K xr q) UY) σ H Q:=by
 rintro σ H Q ⟨φ,A,ρ,S,re,h⟩
 refine⟨φ,A,ρ,S,re,qA (qa.mp h) (λws A1 d b H1 a ys l s z r=>?_) λ_ _ z=>z⟩;exact c b A1 H1 a ys ws Q s z r (qA (Ys (hn _ _) d) (λ_ _ z=>z.mono l) λ_ _ z=>z)
def UN {id:String}{g:List W->Hx->R W}{q:ym}(d:yt X (.builtin id) r)(hn:∀ws A,qR (g ws A))(a:J4 X.K r g)(hm:X.mg x=none)(v:bootBuiltins x=some (.builtin id))(f:SQ X xr e q)(c:Gl X x:=by rfl)
  (H:x ≠ "__name__":=by decide)(b:(x==("__debug__":Str))=false:=by decide)(he:starEach [e] X.env=(false,eval e X.env)::starEach [] X.env:=by rfl)(h:(backTo pos (starEach [] X.env)).any (·.1)=false:=by rfl):
  SE X xr (.Call (.Name x p) [e] [] pos) (mQ g q):=PE.imp (QO d c hm v (jG f yy he) H b he h) (mQ.read hn a)
def eG {id:String}{g:List W->Hx->R W}{q:ym}(d:yt X (.type id) r)(hn:∀ws A,qR (g ws A))(a:J4 X.K r g)(hm:X.mg x=none)(v:bootBuiltins x=some (.type id))(f:SQ X xr e q)(c:Gl X x:=by rfl)
  (H:x ≠ "__name__":=by decide)(b:(x==("__debug__":Str))=false:=by decide)(he:starEach [e] X.env=(false,eval e X.env)::starEach [] X.env:=by rfl)(h:(backTo pos (starEach [] X.env)).any (·.1)=false:=by rfl):
  SE X xr (.Call (.Name x p) [e] [] pos) (mQ g q):=PE.imp (Yn d c hm v (jG f yy he) H b he h) (mQ.read hn a)
noncomputable def qt:List W->Hx->R W:=λws A=>.ok (.int ws.length) A
def CL:J4 K (λxs H Q=>∃p ys,xs=[.ref p]/\(jj K H p ys∨qo K H p ys)/\Q (.int ys.length) H) qt:=λφ A H a ys ws Q S z r p=>
 ⟨a,ys,rfl,z,by rw[<- r.length];exact p φ H _ .refl S rfl⟩
noncomputable def yW:List W->Hx->R W:=λws A=>.ok (.tup ws) A
def Cj:J4 K (λxs H Q=>∃p ys,xs=[.ref p]/\((jj K H p ys/\∀l,H l=none->Q (.ref l) (upd H l (.tup ys)))∨(qo K H p ys/\Q (.ref p) H))) yW:=λφ A H a ys ws Q S z r p=>by
 refine⟨a,ys,rfl,?_⟩;rcases z with z|z
 ·refine .inl ⟨z,λl h=>?_⟩
  obtain⟨a1,a2,b⟩:=QV S h r;exact p _ _ _ a1 a2 b
 ·exact .inr ⟨z,p φ H _ .refl S ⟨a,ys,rfl,z,r⟩⟩
variable {b:Expr}
def Oh {a:Addr}(I:Inv X pins σ H s)(l:X.calm=true)(z:jj X.K H a ys∨qo X.K H a ys)
  (h:∀(c:bX)(j:Addr)(fp wr:bY)(S:Nat->Heap->Prop)(s2:Shared),Vals ys c->ys.length<=sizeLine->Walks X.prog X.w X.A.in1 j fp wr c.length (λi v=>c[i]? =some v) S->S 0 s2.heap->(∀b∈fp,b<s2.heap.objs.size)->
   (∀(h':Heap)(tk:Nat),(∀b o,b∉wr->s2.heap.get? b=some o->h'.get? b=some o)->Inv X pins σ H { s2 with heap:=h',toks:=tk })->Q (.ref j) s2):
  wpAny (model X.prog X.w) X.A.in1 (pyIter (.ref a)) Q E s:=by
 have g:X.A.in1.handled=none:=I.ok.hd l;have keep:∀(o:Obj)(h':Heap)(tk:Nat),(∀b u,b∉[s.heap.objs.size]->(s.heap.push o).get? b=some u->h'.get? b=some u)->Inv X pins σ H { s with heap:=h',toks:=tk }:=λo h' tk k=>I.kept λb u e=>k b u (by
  intro hm;have q:b=s.heap.objs.size:=by simpa using hm
  exact absurd (q ▸ aF e) (aV _)) (ae _ e)
 rcases z with z|z
 ·obtain⟨c,r,p,f⟩:=I.list z
  have t:a<s.heap.objs.size:=by obtain⟨o,n,e,_⟩:=p;exact aF e
  refine wpAny_pyIter_list p.isList ?_;have W:=Walks.list (prog:=X.prog) (w:=X.w) g s.heap.objs.size a (aK t) c.toArray;rw[aC]at W;simp only[List.getElem?_toArray]at W;refine h c s.heap.objs.size _ _ _ _ r f W ⟨⟨_,au _ rfl,rfl,rfl⟩,p.isList.at λo e=>ae _ e⟩ (λb d=>?_) λh' tk k=>keep _ h' tk k;show b<(s.heap.push _).objs.size;rw[bf];rcases cz.mp d with e|d
  ·rw[e];exact bo _
  ·have e:b=a:=by simpa using d
   rw[e];exact ba t
 ·obtain⟨c,r,p,f⟩:=I.tuple z
  have t:a<s.heap.objs.size:=p.lt;have P:s.heap.IsTuple a c.toArray:=p;refine wpAny_pyIter_tuple P ?_;have W:=Walks.tuple (prog:=X.prog) (w:=X.w) g s.heap.objs.size a (aK t) c.toArray;rw[aC]at W;simp only[List.getElem?_toArray]at W;refine h c s.heap.objs.size _ _ _ _ r f W ⟨⟨_,au _ rfl,rfl,rfl⟩,P.at λo e=>ae _ e⟩ (λb d=>?_) λh' tk k=>keep _ h' tk k;show b<(s.heap.push _).objs.size;rw[bf];rcases cz.mp d with e|d
  ·rw[e];exact bo _
  ·have e:b=a:=by simpa using d
   rw[e];exact ba t
noncomputable def K4:V->Option Bool
 |.bl b=>some b|.int i=>some (i != 0)|.non=>some false|_=>none
noncomputable def KW:W->Option Bool
 |.bl b=>some b|.int i=>some (i != 0)|.non=>some false|_=>none
def E2 {w:W}{k:Bool}(q:RV K φ H w v)(e:KW w=some k):K4 v=some k:=by
 cases w<;>first
  |(cases e;done)
  |(obtain rfl:=q;exact e)
def F4 {A:Around}{k:Bool}{Q:Bool->Shared->Prop}(r:RelV v u)(e:K4 v=some k)(h:Q k s):wpAny (model X.prog X.w) A (truthy u) Q E s:=by
 cases v with
 |bl b=>cases e;cases r;exact wpAny_truthy_bool h|int i=>
  cases e;obtain⟨t,rfl⟩:=r;exact PySem.P.truthy_int h
 |non=>cases e;cases r;exactλ_ _ _=>h|_=>cases e
def Zc:List W->Option (List Bool)
 |[]=>some []|w::ws=>match KW w,Zc ws with
  |some k,some ks=>some (k::ks)|_,_=>none
theorem Rx:∀{ws:List W}{ys:List V}{ks:List Bool},zD K φ H ws ys->Zc ws=some ks->∀(i:Nat)(y:V),ys[i]? =some y->∃k,ks[i]? =some k/\K4 y=some k
 |[],_,_,r,e,i,y,h=>by cases r;simp at h|w::ws,_,ks,⟨v,r,g,q,t⟩,e,i,y,h=>by
  subst g;unfold Zc at e;cases E:KW w with
  |none=>rw[E]at e;cases e|some k=>
   cases a:Zc ws with
   |none=>rw[E,a]at e;cases e|some b=>
    rw[E,a]at e;cases e;cases i with
    |zero=>simp at h;subst h;exact⟨k,by simp,E2 q E⟩|succ i=>simp at h;obtain⟨c,f,d⟩:=Rx t a i y h;exact⟨c,by simpa using f,d⟩
theorem RJ:∀{ws:List W}{ks:List Bool},Zc ws=some ks->ks.length=ws.length
 |[],_,e=>by cases e;rfl|w::ws,ks,e=>by
  unfold Zc at e;cases a:KW w with
  |none=>rw[a]at e;cases e|some k=>
   cases E:Zc ws with
   |none=>rw[a,E]at e;cases e|some K=>rw[a,E]at e;cases e;simp[RJ E]
def range_all (ks:List Bool):(List.range ks.length).all (λi=>ks.getD i false)=ks.all id:=by
 rw[Bool.eq_iff_iff,all_eq_true,all_eq_true]
 constructor
 ·intro h x b
  obtain⟨i,a,rfl⟩:=bG b
  have:=h i (cB.mpr a)
  rw[af,aa a]at this;exact this
 ·intro h i a
  have H:=cB.mp a;rw[af,aa H];exact h _ (aO H)
def Mj (K:Frag)(f:List Bool->Bool):List V->Hp->VK->Prop:=λxs H Q=>∃a ys ks,xs=[.ref a]/\(jj K H a ys∨qo K H a ys)/\ks.length=ys.length/\(∀(i:Nat)(y:V),ys[i]? =some y->∃k,ks[i]? =some k/\K4 y=some k)/\Q (.bl (f ks)) H
def DG {ks:List Bool}{A:Around}(r:Vals ys its)(l:ks.length=ys.length)(t:∀(i:Nat)(y:V),ys[i]? =some y->∃k,ks[i]? =some k/\K4 y=some k):TruthOf X.prog X.w A (λi v=>its[i]? =some v) λi=>ks.getD i false:=by
 intro i v s Q E P H;have b:i<its.length:=(cA.mp P).1;have h:i<ys.length:=by rw[r.length];exact b
 obtain⟨u,a,e⟩:=r.get (i:=i) (x:=ys[i]) (by simp[h])
 rw[P]at a;cases a;obtain⟨k,d,c⟩:=t i ys[i] (by simp[h])
 dsimp only at H;rw[af,d]at H;exact F4 e c H
def D6 (d:X.calm=true):yt X (.builtin "all") (Mj X.K λks=>ks.all id):=by
 intro pins s σ H xs us Q I r h;obtain⟨a,ys,ks,rfl,z,l,t,q⟩:=h;obtain⟨u,rfl,c⟩:=vals1 r;cases c;refine call_all_walk (Oh I d z λb f fp wr S s2 v g W st p back=>?_);refine⟨f,fp,wr,_,_,S,λi=>ks.getD i false,rfl,W,st,DG v l t,λh' tk k=>?_⟩;have e:b.length=ks.length:=by rw[l,v.length]
 rw[e,range_all];exact⟨.bl _,H,back h' tk k,rfl,q⟩
def ZX (f:List Bool->Bool):List W->Hx->R W:=λws A=>match Zc ws with
 |some ks=>.ok (.bl (f ks)) A|none=>.bad
def eH {f:List Bool->Bool}:∀ws A,qR (ZX f ws A):=λws A=>by
 unfold ZX;split
 ·exact jY
 ·exact qP
def Bk {f:List Bool->Bool}:J4 K (Mj K f) (ZX f):=λφ A H a ys ws Q S z r p=>by
 unfold ZX at p;cases e:Zc ws with
 |none=>rw[e]at p;exact p.elim|some ks=>
  rw[e]at p;exact⟨a,ys,ks,rfl,z,by rw[RJ e,r.length],Rx r e,p φ H _ .refl S rfl⟩
abbrev Qn:=ZX λks=>ks.all id
def AK:qY X (compareOp .Is) (λx y H Q=>∃i j,x=.bl i/\y=.bl j/\Q (.bl (i==j)) H):=by
 intro pins s σ H x y v u Q I a r h;obtain⟨i,j,rfl,rfl,q⟩:=h;cases a;cases r;exact is_bool ⟨.bl _,H,I,rfl,q⟩
noncomputable def UM:W->Bool
 |.non=>true|_=>false
def Hu {w:W}(q:RV K φ H w v):decide (v=.non)=UM w:=by
 cases w with
 |non=>obtain rfl:=q;rfl|bl b=>obtain rfl:=q;rfl|clo _ _ _=>obtain⟨a,_,_,_,_,_,_,rfl,_⟩:=q;rfl|xc _=>obtain⟨a,_,_,_,rfl,_⟩:=q;rfl|int b=>obtain rfl:=q;rfl|str b=>obtain rfl:=q;rfl|tup ws=>obtain⟨a,vs,rfl,_⟩:=q;rfl|ref n=>obtain⟨a,rfl,_⟩:=q;rfl
def Wc (neg:Bool):W->W->Hx->R W:=λx y A=>match x,y with
 |.bl i,.bl j=>.ok (.bl (if neg then !(i==j) else i==j)) A|w,.non=>.ok (.bl (if neg then !UM w else UM w)) A|_,_=>.bad
def eI {n:Bool}:∀x y A,qR (Wc n x y A):=λx y A=>by
 unfold Wc;split
 ·exact jY
 ·exact jY
 ·exact qP
def eJ:yx K (λx y H Q=>(y=.non/\Q (.bl (decide (x=.non))) H)∨∃i j,x=.bl i/\y=.bl j/\Q (.bl (i==j)) H) (Wc false):=λφ A H x y u v Q S b a p=>by
 cases v with
 |non=>
  have q:y=.non:=a;refine .inl ⟨q,?_⟩;rw[Hu b];cases u<;>exact p φ H _ .refl S rfl
 |bl j=>
  cases u with
  |bl i=>obtain rfl:=b;obtain rfl:=a;exact .inr ⟨i,j,rfl,rfl,p φ H _ .refl S rfl⟩|_=>exact p.elim
 |_=>cases u<;>exact p.elim
def eK:wQ X .Is (Wc false):=JD (AR.or AK) eI eJ
end
noncomputable def Mf (outer sc:Scope):Bool:=sc.kind==.function&&decide ((sc.names.map (·.1)).Nodup)&&sc.names.all λy=>y.2 != .free || (outer.names.lookup y.1==some .cell || outer.names.lookup y.1==some .free)
def cps (h:Mf X.env.scope sc=true):Zb X sc:=by
 unfold Mf at h;rw[ar,ar,ao,aM,all_eq_true]at h;refine⟨h.1.1,h.1.2,λy H e=>?_⟩
 have:=h.2 y H
 rw[e]at this;simp only[bne_self_eq_false,Bool.false_or,bP,aM]at this;exact this
section
variable {xr:XR}{K:Frag}{a b:Expr}{ma mb:Ev}
theorem zN.lst {φ:bY}{A:Hx}{H:Hp}{n:Nat}{ws:List W}{v:V}(S:zN K φ A H)(q:RV K φ H (.ref n) v)(e:A[n]? =some (.lst ws)):∃p vs,v=.ref p/\φ[n]? =some p/\H p=some (.lst vs)/\zD K φ H ws vs:=by
 obtain⟨p,rfl,a⟩:=q;obtain⟨P,h,vs,c,b⟩:=S.ob n _ e;rw[a]at h;cases h;exact⟨p,vs,rfl,a,c,b⟩
def EX {prog:Program}{A:Around}{t b:Addr}{ws:bX}(a:IsTup s.heap t ([]:bX).toArray)(e:IsTup s.heap b ws.toArray)(h0:Q (.ref b) s):
  wpAny (model prog w) A (binaryOp .Add (.ref t) (.ref b)) Q E s:=by
 obtain⟨⟨cls,dd,data,l⟩,o,c,n,hd⟩:=id a;obtain⟨⟨C,d,data2,S⟩,h,H,N,hd2⟩:=id e;simp only at c hd H hd2;subst c hd H hd2;exact concat_meets ⟨_,o,rfl⟩ ⟨_,h,rfl⟩ noFill_tuple_add seq_tuple_add slot_tuple_add entry_tuple_add (args_tuple_add_2 _ _)
   (tuple_addW0 t b ([]:bX).toArray ws.toArray n N dd d l S (by simp)) ⟨o,h,h0⟩
noncomputable def Ny (K:Frag):R2:=λx y H Q=>∃a b ys,x=.ref a/\y=.ref b/\qo K H a []/\qo K H b ys/\Q (.ref b) H
def DO:qY X (binaryOp .Add) (Ny X.K):=by
 intro pins s σ H x y v u Q I c r h;obtain⟨a,b,ys,rfl,rfl,g,f,q⟩:=h;cases c;cases r;obtain⟨e,d,P,_⟩:=I.tuple g;obtain⟨i,j,p,_⟩:=I.tuple f;cases d;exact EX P p ⟨.ref b,H,I,rfl,q⟩
def zY:W->W->Hx->R W:=λx y A=>match x,y with
 |.int i,.int j=>.ok (.int (i+j)) A|.tup xs,.tup ys=>if xs.length+ys.length<=zR then .ok (.tup (xs++ys)) A else .bad|.ref n,.ref k=>match A[n]?,A[k]? with
  |some (.lst xs),some (.lst ys)=>if xs.length+ys.length<=zR then .ok (.ref A.length) (A++[.lst (xs++ys)]) else .bad|_,_=>.bad
 |_,_=>.bad
def AY:∀x y A,qR (zY x y A):=λx y A=>by
 unfold zY
 split
 ·exact jY
 ·exact Zd jY qP
 ·split
  ·exact Zd jY qP
  ·exact qP
 ·exact qP
def g8 (h:n<=zR):n<=sizeLine:=by
 have:sizeLine=16777216:=sizeLine_eq
 unfold zR at h;omega
def Af:yx K (λx y H Q=>Zr (λi j=>.int (i+j)) x y H Q∨N1 K x y H Q∨Ny K x y H Q∨N7 x y H Q) zY:=λφ A H x y u v Q S f q p=>by
 cases u with
 |int i=>cases v with
  |int j=>obtain rfl:=f;obtain rfl:=q;exact .inl ⟨i,j,rfl,rfl,p φ H _ .refl S rfl⟩|_=>exact p.elim
 |tup xs=>cases v with
  |tup ys=>
   obtain⟨a1,b,rfl,t1,c⟩:=f;obtain⟨a2,a,rfl,t,r⟩:=q;unfold zY at p;dsimp only at p
   by_cases h:xs.length+ys.length<=zR
   ·rw[ag h]at p
    by_cases z:b=[]
    ·subst z
     have o:xs=[]:=by
      have:=c.length
      simpa using this
     subst o;exact .inr (.inr (.inl ⟨a1,a2,a,rfl,rfl,t1,t,p φ H _ .refl S ⟨a2,a,rfl,t,r⟩⟩))
    ·refine .inr (.inl ⟨a1,a2,b,a,rfl,rfl,t1,t,z,by rw[<- c.length,<- r.length];exact g8 h,λe=>?_,λne l g=>?_⟩)
     ·subst e
      have o:ys=[]:=by
       have:=r.length
       simpa using this
      subst o;rw[bx]at p;exact p φ H _ .refl S ⟨a1,b,rfl,t1,c⟩
     ·obtain⟨w,s,B⟩:=QV S g (c.append r)
      exact p _ _ _ w s B
   ·rw[aj h]at p;exact p.elim
  |_=>exact p.elim
 |ref n=>cases v with
  |ref k=>
   unfold zY at p;dsimp only at p;cases E:A[n]? with
   |none=>rw[E]at p;exact p.elim|some I=>cases I with
    |lst xs=>
     cases d:A[k]? with
     |none=>rw[E,d]at p;exact p.elim|some D=>cases D with
      |lst ys=>
       rw[E,d]at p;dsimp only at p;obtain⟨C,v1,rfl,f1,g1,c⟩:=S.lst f E;obtain⟨P,v2,rfl,f2,g2,r⟩:=S.lst q d
       by_cases h:xs.length+ys.length<=zR
       ·rw[ag h]at p
        refine .inr (.inr (.inr ⟨C,P,v1,v2,rfl,rfl,g1,g2,by rw[<- c.length,<- r.length];exact g8 h,λl g=>?_⟩))
        obtain⟨w,s,B⟩:=QU S g (c.append r);exact p _ _ _ w s B
       ·rw[aj h]at p;exact p.elim
      |_=>rw[E,d]at p;exact p.elim
    |_=>rw[E]at p;exact p.elim
  |_=>exact p.elim
 |_=>cases v<;>exact p.elim
def jd:W->W->Hx->R W:=λx y A=>match x,y with
 |.int i,.int j=>if KY i j then .ok (.int (i * j)) A else .bad|.ref n,.int k=>match A[n]? with
  |some (.lst xs)=>if yg k&&decide (xs.length * k.toNat<=zR) then .ok (.ref A.length) (A++[.lst (List.replicate k.toNat xs).flatten]) else .bad|_=>.bad
 |_,_=>.bad
def eL:∀x y A,qR (jd x y A):=λx y A=>by
 unfold jd
 split
 ·exact Zd jY qP
 ·split
  ·exact Zd jY qP
  ·exact qP
 ·exact qP
theorem zD.rep {ws:List W}(r:zD K φ H ws vs):∀n:Nat,zD K φ H (List.replicate n ws).flatten (List.replicate n vs).flatten
 |0=>.nil|n+1=>by rw[a3,a3,aY,aY];exact r.append (zD.rep r n)
def C9:yx K (λx y H Q=>rI KU (λi j=>.int (i * j)) x y H Q∨Mb x y H Q) jd:=λφ A H x y u v Q S a q p=>by
 cases v with
 |int j=>cases u with
  |int i=>
   obtain rfl:=a;obtain rfl:=q;unfold jd at p;dsimp only at p
   by_cases c:KY i j=true
   ·rw[ag c]at p;exact .inl ⟨i,j,rfl,rfl,CO i j c,p φ H _ .refl S rfl⟩
   ·rw[aj c]at p;exact p.elim
  |ref n=>
   obtain rfl:=q;unfold jd at p;dsimp only at p;cases e:A[n]? with
   |none=>rw[e]at p;exact p.elim|some o=>cases o with
    |lst xs=>
     rw[e]at p;dsimp only at p;obtain⟨P,v1,rfl,f1,g1,r⟩:=S.lst a e
     by_cases h:(yg j&&decide (xs.length * j.toNat<=zR))=true
     ·rw[ag h]at p
      rw[ar,ao]at h;obtain⟨g,B⟩:=Yj h.1;refine .inr ⟨P,j,v1,rfl,rfl,g1,by omega,by omega,by rw[<- r.length];exact g8 h.2,λl b=>?_⟩
      obtain⟨f,d,C⟩:=QU S b (r.rep j.toNat);exact p _ _ _ f d C
     ·rw[aj h]at p;exact p.elim
    |_=>rw[e]at p;exact p.elim
  |_=>exact p.elim
 |_=>cases u<;>exact p.elim
def yq:W->W->Hx->R W:=λx y A=>match x with
 |.ref n=>match A[n]? with
  |some (.lst ws)=>if ws.length<zR then .ok .non (A.set n (.lst (ws++[y]))) else .bad|_=>.bad
 |_=>.bad
noncomputable def YX (x:W)(A:Hx):Bool:=match x with
 |.ref n=>match A[n]? with
  |some (.lst _)=>true|_=>false
 |_=>false
def E9 {A:Hx}{w:W}(S:zN K φ A H)(q:RV K φ H w v)(e:YX w A=true):Xg K "list" v H:=by
 unfold YX at e;cases w with
 |ref n=>
  dsimp only at e;cases E:A[n]? with
  |none=>rw[E]at e;cases e|some o=>cases o with
   |lst ws=>obtain⟨p,vs,rfl,_,h,_⟩:=S.lst q E;exact .inl ⟨rfl,_,jj.of h⟩|_=>rw[E]at e;cases e
 |_=>cases e
def j0 (g:W->W->Hx->R W)(a b:Ev):Ev:=λρ A=>(a ρ A).bind λx A1=>if YX x A1 then(b ρ A1).bind λy A2=>g x y A2 else .bad
def GJ {nm:Str}{id:String}{r:V->List V->Hp->VK->Prop}{g:W->W->Hx->R W}{apos:Pos}(slot:Slot "list" nm id)(j:typeOf (.builtin id)=pure (.type "method_descriptor"))(hm:Th X id r)(hn:∀x y A,qR (g x y A))
  (C:∀φ A H x y u v Q,zN X.K φ A H->RV X.K φ H u x->RV X.K φ H v y->(g u v A).post (PB X.K φ H Q) gx->r x [y] H Q)(B:SE X xr a ma)(he:SE X xr b mb)
  (s:starEach [b] X.env=(false,eval b X.env)::starEach [] X.env)(c:attributeBase a nm X.env (eval a X.env)=eval a X.env)
  (d:((backTo cpos (starEach [b] X.env)).all (λx=>!x.1)&&(backToKw cpos (keywordEach [] X.env)).all (λx=>x.1.isSome)
   && decide ([b].length+([]:cn).length+(if ([]:cn).isEmpty then 0 else 1)<30))=true)(e:(apos.endLine==cpos.line)=true):
  SE X xr (.Call (.Attribute a nm apos) [b] [] cpos) (j0 g ma mb):=
 PE.imp (NO PySem.F.plainAttrs_list slot j hm B (jG he yy s) c d e s (by rfl)) λσ H Q ⟨φ,A,ρ,S,re,h⟩=>by
  refine tM.go S re (qa.mp h) λw A1 o H1 v f l n q=>?_
  by_cases k:YX w A1=true
  ·rw[ag k]at f
   refine⟨E9 n q k,?_⟩;refine tM.go n (re.mono l) (qA (qa.mp f) (λ_ _ z=>z) λ_ _ z=>z.mono l) λp A2 i I v2 D L E t=>?_;exact C i A2 I v v2 w p Q E (q.mono L) t (qA (Ys (hn _ _ _) D) (λ_ _ z=>z.mono (l.trans L)) λ_ _ z=>z)
  ·rw[aj k]at f;exact f.elim
def FQ:∀x y A,qR (yq x y A):=λx y A=>by
 unfold yq
 split
 ·split
  ·exact Zd jY qP
  ·exact qP
 ·exact qP
def ZO:W->W->Hx->R W:=λx y A=>match x,y with
 |.ref n,.int i=>match A[n]? with
  |some (.lst ws)=>match (if yg i then seqIndex? i ws.length else none) with
   |some k=>match ws[k]? with
    |some w=>.ok w (A.set n (.lst (ws.eraseIdx k)))|none=>.bad
   |none=>.bad
  |_=>.bad
 |_,_=>.bad
def Ds:∀x y A,qR (ZO x y A):=λx y A=>by
 unfold ZO
 split
 ·split
  ·split
   ·split
    ·exact jY
    ·exact qP
   ·exact qP
  ·exact qP
 ·exact qP
def kj:W->W->W->Hx->R Unit:=λo i v A=>match o,i with
 |.ref n,.int k=>match A[n]? with
  |some (.lst ws)=>match gW ws.length k with
   |some j=>.ok () (A.set n (.lst (ws.set j v)))|none=>.bad
  |_=>.bad
 |_,_=>.bad
def NI:∀o i v A,qR (kj o i v A):=λo i v A=>by
 unfold kj
 split
 ·split
  ·split
   ·exact jY
   ·exact qP
  ·exact qP
 ·exact qP
def OM:NW K NP kj:=λφ A H o i v w wi wv Q S d c q p=>by
 unfold kj at p;cases w with
 |ref n=>cases wi with
  |int k=>
   obtain rfl:=c;dsimp only at p;cases e:A[n]? with
   |none=>rw[e]at p;exact p.elim|some f=>cases f with
    |lst ws=>
     rw[e]at p;dsimp only at p;cases E:gW ws.length k with
     |none=>rw[E]at p;exact p.elim|some j=>
      rw[E]at p;obtain⟨l,vs,rfl,f1,g1,r⟩:=S.lst d e;have ln:Le K φ H φ (upd H l (.lst (vs.set j v))):=Le.upd f1 (λxs z=>by rw[g1]at z;cases z) (λ_ _ z=>by rw[g1]at z;cases z)
      obtain⟨b,a⟩:=S.write (o:=.lst ws) (o':=.lst (ws.set j wv)) e rfl rfl f1 ⟨_,jA,(r.mono ln).set (q.mono ln) j⟩;exact⟨l,vs,k,j,rfl,rfl,g1,by rw[<- r.length];exact E,p _ _ b a⟩
    |_=>rw[e]at p;exact p.elim
  |_=>exact p.elim
 |_=>cases wi<;>exact p.elim
variable {es:cc}{m:Ev}
def eM {id:String}{g:W->Hx->R W}(i:yt X (.builtin id) r)(hn:∀w A,qR (g w A))(f:Wd X.K (λv=>r [v]) g)(hm:X.mg x=none)(d:bootBuiltins x=some (.builtin id))(j:SE X xr e m)(b:Gl X x:=by rfl)
  (a:x ≠ "__name__":=by decide)(c:(x==("__debug__":Str))=false:=by decide)(he:starEach [e] X.env=(false,eval e X.env)::starEach [] X.env:=by rfl)(l:(backTo pos (starEach [] X.env)).any (·.1)=false:=by rfl):
  SE X xr (.Call (.Name x p) [e] [] pos) (jn g m):=PE.imp (QO i b hm d (jG j yy he) a c he l) λσ H Q h=>jn.read (r:=λv=>r [v]) hn f σ H Q h
def Nn {id:String}{g:W->Hx->R W}(i:yt X (.type id) r)(hn:∀w A,qR (g w A))(f:Wd X.K (λv=>r [v]) g)(hm:X.mg x=none)(d:bootBuiltins x=some (.type id))(j:SE X xr e m)(b:Gl X x:=by rfl)
  (a:x ≠ "__name__":=by decide)(c:(x==("__debug__":Str))=false:=by decide)(he:starEach [e] X.env=(false,eval e X.env)::starEach [] X.env:=by rfl)(l:(backTo pos (starEach [] X.env)).any (·.1)=false:=by rfl):
  SE X xr (.Call (.Name x p) [e] [] pos) (jn g m):=PE.imp (Yn i b hm d (jG j yy he) a c he l) λσ H Q h=>jn.read (r:=λv=>r [v]) hn f σ H Q h
def UI {id:String}{g:W->W->Hx->R W}(o:yt X (.builtin id) r)(hn:∀w j A,qR (g w j A))(n:yx X.K (λv c=>r [v,c]) g)(hm:X.mg x=none)(k:bootBuiltins x=some (.builtin id))(s:SE X xr a ma)(q:SE X xr b mb)(e:Gl X x)
  (d:x ≠ "__name__")(f:(x==("__debug__":Str))=false)(i:starEach [a,b] X.env=(false,eval a X.env)::starEach [b] X.env)(t:starEach [b] X.env=(false,eval b X.env)::starEach [] X.env)(l:(backTo pos (starEach [b] X.env)).any (·.1)=false):
  SE X xr (.Call (.Name x p) [a,b] [] pos) (zi g ma mb):=PE.imp (QO o e hm k (jG s (jG q yy t) i) d f i l) λσ H Q h=>zi.read (r:=λv c=>r [v,c]) hn n σ H Q h
noncomputable def K2:W->Hx->R W
 |.int i,A=>.ok (.int (if i<0 then -i else i)) A|_,_=>.bad
noncomputable def JU:W->Hx->R W
 |.int i,A=>.ok (.int i) A|.bl k,A=>.ok (.int (if k then 1 else 0)) A|_,_=>.bad
def Ux:=Zs λi j=>.int (if j > i then j else i)
def Q4:=Zs λi j=>.int (if j<i then j else i)
noncomputable def gL:W->Bool
 |.tup _=>false|.ref _=>false|.clo _ _ _=>false|.xc _=>false|_=>true
noncomputable def U7:W->W->Bool
 |.non,.non=>true|.bl a,.bl b=>a==b|.bl a,.int b=>(if a then 1 else 0)==b|.int a,.bl b=>a==(if b then 1 else 0)|.int a,.int b=>a==b|.str a,.str b=>a==b|_,_=>false
def Y0 (x:W)(xs:List W):Bool:=xs.any λy=>U7 y x
def R0 {w:W}(q:RV K φ H w v)(e:gL w=true):ZT v=true:=by
 cases w<;>first
  |(cases e;done)
  |(obtain rfl:=q;rfl)
def Fz {w a:W}{b:V}(q:RV K φ H w v)(Q:RV K φ H a b)(e:gL w=true)(E:gL a=true):QE v b=U7 w a:=by
 cases w<;>cases a<;>first
  |(cases e;done)
  |(cases E;done)
  |(obtain rfl:=q;obtain rfl:=Q;rfl)
theorem P2 {x:W}(q:RV K φ H x v)(e:gL x=true):∀{xs:List W}{vs:List V},zD K φ H xs vs->xs.all gL=true->vs.all ZT=true/\Xu v vs=Y0 x xs
 |[],_,r,_=>by cases r;exact⟨rfl,rfl⟩|w::ws,_,⟨y,r,E,h,t⟩,a=>by
  subst E;rw[List.all_cons,ar]at a;obtain⟨I,i⟩:=P2 q e t a.2;refine⟨by rw[List.all_cons,R0 h a.1,I];rfl,?_⟩
  unfold Xu Y0 at i ⊢;rw[any_cons,any_cons,i,Fz h q a.1 e]
def JT (neg:Bool):W->W->Hx->R W:=λx y A=>match zT y A with
 |some ws=>if gL x&&ws.all gL then .ok (.bl (if neg then !Y0 x ws else Y0 x ws)) A else .bad|none=>.bad
abbrev Xe:=JT false
def eN {n:Bool}:∀x y A,qR (JT n x y A):=λx y A=>by
 unfold JT
 split
 ·exact Zd jY qP
 ·exact qP
def eO {n:Bool}:yx K (ML K n) (JT n):=λφ A H x y u v Q S q b p=>by
 unfold JT at p;cases es:zT v A with
 |none=>rw[es]at p;exact p.elim|some ws=>
  rw[es]at p;dsimp only at p
  by_cases hf:(gL u&&ws.all gL)=true
  ·rw[ag hf]at p
   rw[ar]at hf;obtain⟨a,ys,rfl,z,r⟩:=WL S b es;obtain⟨I,i⟩:=P2 q hf.1 r hf.2;exact⟨a,ys,rfl,z,R0 q hf.1,I,by rw[i];exact p φ H _ .refl S rfl⟩
  ·rw[aj hf]at p;exact p.elim
structure KS (X:Cx)(op:CmpOp)(g:W->W->Hx->R W):Prop where
 ex:∃r:R2,qY X (compareOp op) r/\(∀x y A,qR (g x y A))/\yx X.K r g
def N9:KS X .In Xe:=⟨_,Eg,eN,eO⟩
end
noncomputable def jH (f:W->Option PyData):List W->Option (List PyData)
 |[]=>some []|w::ws=>match f w,jH f ws with
  |some d,some ds=>some (d::ds)|_,_=>none
def qd (A:Hx):Nat->W->Option PyData
 |_,.non=>some .none|_,.bl b=>some (.bool b)|_,.int i=>some (.int i)|_,.str x=>if PyData.strOk x then some (.str x) else none|_,.clo _ _ _=>none|_,.xc _=>none|0,.tup _=>none|0,.ref _=>none|n+1,.tup ws=>(jH (qd A n) ws).map .tuple|n+1,.ref k=>match zT (.ref k) A with
  |some ws=>(jH (qd A n) ws).map .list|none=>none
def E3 {K:Frag}{A:Hx}{us:List W}(S:zN K φ A H)(q:RV K φ H (.ref n) v)(e:zT (.ref n) A=some us):∃a ys,v=.ref a/\jj K H a ys/\zD K φ H us ys:=by
 obtain⟨a,rfl,d⟩:=q;unfold zT at e;dsimp only at e;cases E:A[n]? with
 |none=>rw[E]at e;cases e|some o=>
  rw[E]at e;obtain⟨f,c,r⟩:=S.ob n o E;rw[d]at c;cases c;cases o with
  |lst xs=>cases e;obtain⟨ys,b,h⟩:=r;exact⟨a,ys,rfl,jj.of b,h⟩|ro xs=>cases e;obtain⟨ys,b,h⟩:=r;exact⟨a,ys,rfl,b.sq,h⟩|dct xs=>cases e|td _=>cases e|tr _=>cases e|tab _ _=>cases e
section
variable {a:Expr}
theorem Vm {K:Frag}{f:W->Option PyData}(hf:∀w v u d,RV K φ H w v->RelV v u->f w=some d->∃as,Reads h u d as):
  ∀{ws:List W}{vs:List V}{us:bX}{ds:List PyData},zD K φ H ws vs->Vals vs us->jH f ws=some ds->∃as,ReadsAll h us ds as
 |[],_,_,_,r,a,e=>by cases r;cases a;cases e;exact⟨[],.nil⟩|w::ws,_,_,ds,⟨v,r,k,q,t⟩,a,e=>by
  subst k;cases a with
  |cons g c=>
   unfold jH at e;cases E:f w with
   |none=>rw[E]at e;cases e|some d=>
    cases b:jH f ws with
    |none=>rw[E,b]at e;cases e|some D=>
     rw[E,b]at e;cases e;obtain⟨as,j⟩:=hf w v _ d q g E;obtain⟨bs,i⟩:=Vm hf t c b;exact⟨_,.cons j i⟩
def QN {A:Hx}(I:Inv X pins σ H s)(S:zN X.K φ A H):∀(n:Nat)(w:W)(v:V)(u:Value)(d:PyData),RV X.K φ H w v->RelV v u->qd A n w=some d->∃as,Reads s.heap u d as:=by
 intro n
 induction n with
 |zero=>
  intro w v u d q r e;cases w with
  |non=>obtain rfl:=q;cases r;cases e;exact⟨_,.none⟩|bl k=>obtain rfl:=q;cases r;cases e;exact⟨_,.bool k⟩|int k=>obtain rfl:=q;obtain⟨t,rfl⟩:=r;cases e;exact⟨_,.int k t⟩|str k=>
   obtain rfl:=q;obtain⟨t,rfl⟩:=r;unfold qd at e
   split at e
   ·cases e;exact⟨_,.str k t⟩
   ·cases e
  |tup _=>cases e|ref _=>cases e|clo _ _ _=>unfold qd at e;cases e|xc _=>unfold qd at e;cases e
 |succ n x=>
  intro w v u d q r e;cases w with
  |non=>obtain rfl:=q;cases r;cases e;exact⟨_,.none⟩|bl k=>obtain rfl:=q;cases r;cases e;exact⟨_,.bool k⟩|clo _ _ _=>unfold qd at e;cases e|xc _=>unfold qd at e;cases e|int k=>obtain rfl:=q;obtain⟨t,rfl⟩:=r;cases e;exact⟨_,.int k t⟩|str k=>
   obtain rfl:=q;obtain⟨t,rfl⟩:=r;unfold qd at e
   split at e
   ·cases e;exact⟨_,.str k t⟩
   ·cases e
  |tup ws=>
   obtain⟨a,vs,rfl,h,c⟩:=q;cases r;unfold qd at e;cases E:jH (qd A n) ws with
   |none=>rw[E]at e;cases e|some ds=>
    rw[E]at e;cases e;obtain⟨i,b,⟨o,l,j,k,g⟩,_⟩:=I.tuple h;obtain⟨as,f⟩:=Vm x c b E;exact⟨_,.tuple l j g (by simpa using f)⟩
  |ref k=>
   unfold qd at e;cases E:zT (.ref k) A with
   |none=>rw[E]at e;cases e|some ws=>
    rw[E]at e;dsimp only at e;obtain⟨a,ys,rfl,h,c⟩:=E3 S q E;cases r;cases p:jH (qd A n) ws with
    |none=>rw[p]at e;cases e|some ds=>
     rw[p]at e;cases e;obtain⟨i,b,⟨o,y,l,j,_,g⟩,_⟩:=I.list h;obtain⟨as,f⟩:=Vm x c b p;exact⟨_,.list l j g (by simpa using f)⟩
def WS {A:Hx}:∀(n:Nat)(w:W)(d:PyData),qd A n w=some d->d.canLay0=true/\d.depth<=n:=by
 intro n;have lst:∀{n:Nat},(∀(w:W)(d:PyData),qd A n w=some d->d.canLay0=true/\d.depth<=n)->∀(ws:List W)(ds:List PyData),jH (qd A n) ws=some ds->PyData.canLayAll0 ds=true/\PyData.depthAll ds<=n:=by
  intro n i ws
  induction ws with
  |nil=>intro ds e;cases e;exact⟨by simp[PyData.canLayAll0],by simp[PyData.depthAll]⟩|cons w ws I=>
   intro ds e;unfold jH at e;cases E:qd A n w with
   |none=>rw[E]at e;cases e|some d=>
    cases b:jH (qd A n) ws with
    |none=>rw[E,b]at e;cases e|some D=>
     rw[E,b]at e;cases e;obtain⟨h,c⟩:=i w d E;obtain⟨f,g⟩:=I D b;refine⟨by simp[PyData.canLayAll0,h,f],?_⟩
     simp only[PyData.depthAll];omega
 induction n with
 |zero=>
  intro w d e;cases w with
  |tup _=>cases e|ref _=>cases e|clo _ _ _=>unfold qd at e;cases e|xc _=>unfold qd at e;cases e|str x=>
   unfold qd at e
   split at e
   ·rename_i H;cases e;exact⟨by simp[PyData.canLay0,H],by simp[PyData.depth]⟩
   ·cases e
  |_=>cases e;exact⟨by simp[PyData.canLay0],by simp[PyData.depth]⟩
 |succ n i=>
  intro w d e;cases w with
  |clo _ _ _=>unfold qd at e;cases e|xc _=>unfold qd at e;cases e|tup ws=>
   unfold qd at e;cases a:jH (qd A n) ws with
   |none=>rw[a]at e;cases e|some ds=>
    rw[a]at e;cases e;obtain⟨h,c⟩:=lst i ws ds a;refine⟨by simp[PyData.canLay0,h],?_⟩
    simp only[PyData.depth];omega
  |ref k=>
   unfold qd at e;cases a:zT (.ref k) A with
   |none=>rw[a]at e;cases e|some ws=>
    rw[a]at e;dsimp only at e;cases E:jH (qd A n) ws with
    |none=>rw[E]at e;cases e|some ds=>
     rw[E]at e;cases e;obtain⟨h,c⟩:=lst i ws ds E;refine⟨by simp[PyData.canLay0,h],?_⟩
     simp only[PyData.depth];omega
  |str x=>
   unfold qd at e
   split at e
   ·rename_i H;cases e;exact⟨by simp[PyData.canLay0,H],by simp[PyData.depth]⟩
   ·cases e
  |_=>cases e;exact⟨by simp[PyData.canLay0],by simp[PyData.depth]⟩
def wU (neg:Bool):W->W->Hx->R W:=λx y A=>match qd A 8 x,qd A 8 y with
 |some d,some d'=>.ok (.bl (if neg then !PyData.eqv d d' else PyData.eqv d d')) A|_,_=>.bad
abbrev qL:=wU false
abbrev jf:=wU true
def Nu {n:Bool}:∀x y A,qR (wU n x y A):=λx y A=>by
 unfold wU
 split
 ·exact jY
 ·exact qP
def U3 (K:Frag)(neg:Bool):R2:=λx y H Q=>∃φ A u v d d',zN K φ A H/\RV K φ H u x/\RV K φ H v y/\qd A 8 u=some d/\qd A 8 v=some d'/\Q (.bl (if neg then !PyData.eqv d d' else PyData.eqv d d')) H
def Gi {A:Hx}{w:W}{d:PyData}(h:qd A 8 w=some d):SeqAt.shaped d=true:=by
 obtain⟨H,a⟩:=WS 8 w d h;unfold SeqAt.shaped;rw[H,Bool.true_and,ao];omega
def AE (g:X.A.units+64<cLine):qY X (compareOp .Eq) (U3 X.K false):=by
 intro pins s σ H x y v u Q I b r h;obtain⟨φ,A,a,w,d,d',S,f,c,E,e,q⟩:=h;obtain⟨as,j⟩:=QN I S 8 a x v d f b E;obtain⟨bs,i⟩:=QN I S 8 w y u d' c r e;exact eq_dataH j i (Gi E) (Gi e) g ⟨.bl _,H,I,rfl,q⟩
def Ap (g:X.A.units+64<cLine):qY X (compareOp .NotEq) (U3 X.K true):=by
 intro pins s σ H x y v u Q I b r h;obtain⟨φ,A,a,w,d,d',S,f,c,E,e,q⟩:=h;obtain⟨as,j⟩:=QN I S 8 a x v d f b E;obtain⟨bs,i⟩:=QN I S 8 w y u d' c r e;exact ne_dataH j i (Gi E) (Gi e) g ⟨.bl _,H,I,rfl,q⟩
def Oj {K:Frag}{n:Bool}:yx K (U3 K n) (wU n):=λφ A H x y u v Q S a q p=>by
 unfold wU at p;cases e:qd A 8 u with
 |none=>rw[e]at p;exact p.elim|some d=>
  cases E:qd A 8 v with
  |none=>rw[e,E]at p;exact p.elim|some d'=>
   rw[e,E]at p;exact⟨φ,A,u,v,d,d',S,a,q,e,E,p φ H _ .refl S rfl⟩
def yJ (h:jv k X.A):wQ X .Eq qL:=JD (AE h.units) Nu Oj
def wD (h:jv k X.A):wQ X .NotEq jf:=JD (Ap h.units) Nu Oj
end
mutual
noncomputable def W.nr:W->Bool
 |.tup ws=>jl ws|.ref _=>false|.clo _ ws _=>jl ws|_=>true
noncomputable def jl:List W->Bool
 |[]=>true|w::ws=>w.nr&&jl ws
end
def iso (f:Fn):Fn:=λus A=>if jl us then(match f us [] with
 |.ok w A1=>(match w with
  |.ref n=>(match A1[n]? with
   |some (.lst ws)=>if jl ws then .ok (.ref A.length) (A++[.lst ws]) else .bad|some (.dct kvs)=>if jl (kvs.map (·.2)) then .ok (.ref A.length) (A++[.dct kvs]) else .bad|_=>.bad)
  |w=>if w.nr then .ok w A else .bad)
 |_=>.bad) else .bad
def gN (f:Fn):Fn:=λus A=>match us with
 |.ref n::us=>(match A[n]? with
  |some (.lst ws)=>if jl ws&&jl us then(match f (.ref 0::us) [.lst ws] with
   |.ok w A1=>(match (List.head? A1:Option O) with
    |some (.lst a)=>if jl a&&w.nr then .ok w (A.set n (.lst a)) else .bad|_=>.bad)
   |_=>.bad) else .bad
  |_=>.bad)
 |_=>.bad
section
variable {K:Frag}{φ' φ1:bY}{H' H1:Hp}{A A1:Hx}
mutual
theorem RV.nrm (tp:∀a vs,qo K H a vs->qo K H' a vs)(fz:∀a o u,H a=some (.frz o u)->H' a=some (.frz o u)):∀{w:W}{v:V},w.nr=true->RV K φ H w v->RV K φ' H' w v
 |.non,_,_,h=>h|.bl _,_,_,h=>h|.int _,_,_,h=>h|.str _,_,_,h=>h|.tup ws,_,n,⟨a,vs,e,t,r⟩=>⟨a,vs,e,tp _ _ t,zD.nrm tp fz n r⟩|.ref _,_,n,_=>nomatch n
 |.clo _ ws P,_,n,⟨a,ob,u,c,g,uc,vs,e,d,b,i,r⟩=>⟨a,ob,u,c,g,uc,vs,e,fz _ _ _ d,fz _ _ _ b,i,zD.nrm tp fz n r⟩|.xc _,_,_,⟨a,f,u,C,e,d,b⟩=>⟨a,f,u,C,e,fz _ _ _ d,b⟩
theorem zD.nrm (tp:∀a vs,qo K H a vs->qo K H' a vs)(fz:∀a o u,H a=some (.frz o u)->H' a=some (.frz o u)):∀{ws:List W}{vs:List V},jl ws=true->zD K φ H ws vs->zD K φ' H' ws vs
 |[],_,_,h=>h|w::ws,_,n,⟨v,r,e,h,t⟩=>by
  have N:(w.nr&&jl ws)=true:=n;rw[ar]at N;exact⟨v,r,e,RV.nrm tp fz N.1 h,zD.nrm tp fz N.2 t⟩
end
def zN.none:zN K [] [] H:=⟨rfl,λi j a o o' _ _ h=>by simp at h,λn o h=>by simp at h⟩
def zN.frame (S:zN K φ A H)(k:∀a o,H a=some o->H1 a=some o)(l:Le K φ H φ H1):zN K φ A H1:=
 ⟨S.len,S.inj,λn o e=>let ⟨a,h1,q⟩:=S.ob n o e;⟨a,h1,q.keep l λu h=>k a u h⟩⟩
def Le.apart (l:Le K [] H φ1 H1):Le K φ H φ H1/\∀a o,H a=some o->H1 a=some o:=
 have k:∀a o,H a=some o->H1 a=some o:=λa o h=>l.fr a o h λn e=>by simp at e
 ⟨⟨λ_ _ h=>h,l.tp,λa o h _=>k a o h,λ_ _ h=>.inl h,l.st,l.fz⟩,k⟩
def zN.trackN {u:HO}{o:O}(S:zN K φ A H)(J:H D=some u)(n:∀(k:Nat)(q:O),φ[k]? =some D->A[k]? =some q->q.mut=false)(new:OR K (φ++[D]) H D o):zN K (φ++[D]) (A++[o]) H:=by
 have l:Zt K φ H (φ++[D]) H:=⟨λn a h=>by
  have:=(cA.mp h).1
  rw[ai this];exact h,λ_ _ h=>h,λ_ _ _ h=>h⟩
 have old:∀(i:Nat) a,(φ++[D])[i]? =some a->i<A.length->φ[i]? =some a:=λi a e f=>by
  rw[ai (by rw[S.len];exact f)]at e;exact e
 have last:∀a,(φ++[D])[A.length]? =some a->a=D:=λa e=>by
  rw[aw (by rw[S.len];exact av _),S.len]at e
  simpa using e.symm
 refine⟨by simp[S.len],λi j a E C B y g b m1 m2=>?_,λk o' e=>?_⟩
 ·by_cases f:i<A.length
  ·rw[ai f]at g
   by_cases c:j<A.length
   ·rw[ai c]at b
    exact S.inj i j a E C (old i a B f) (old j a y c) g b m1 m2
   ·exfalso
    have v:j=A.length:=by have:=(cA.mp b).1;simp at this;omega
    subst v;have z:=n i E (by rw[<- last a y];exact old i a B f) g
    rw[m1]at z;cases z
  ·have w:i=A.length:=by have:=(cA.mp g).1;simp at this;omega
   by_cases c:j<A.length
   ·exfalso
    rw[ai c]at b;subst w;have z:=n j C (by rw[<- last a B];exact old j a y c) b
    rw[m2]at z;cases z
   ·have:=(cA.mp b).1;simp at this;omega
 ·by_cases hn:k<A.length
  ·rw[ai hn]at e
   obtain⟨a,I,q⟩:=S.ob k o' e;refine⟨a,l.ex _ _ I,?_⟩;cases o' with
   |lst ws=>obtain⟨vs,z,r⟩:=q;exact⟨vs,z,r.monoW l⟩|dct ws=>obtain⟨vs,z,Z,r⟩:=q;exact⟨vs,z,Z,r.monoW l⟩|td _=>obtain⟨vs,z,Z,t,r⟩:=q;exact⟨vs,z,Z,λx p=>l.tp _ _ (t x p),r.monoW l⟩|tr _=>obtain⟨ob,u,vs,z,d,Z,t,r⟩:=q;exact⟨ob,u,vs,z,d,Z,λx p=>l.tp _ _ (t x p),r.monoW l⟩|tab _ _=>exact q|ro ws=>obtain⟨vs,z,r⟩:=q;exact⟨vs,z,r.monoW l⟩
  ·have s:k=A.length:=by have:=(cA.mp e).1;simp at this;omega
   subst s;rw[aw (av _)]at e;simp at e;subst e;exact⟨D,by rw[aw (by rw[S.len];exact av _),S.len];simp,new⟩
def zN.adopt {o:O}(S:zN K φ A H)(l:Le K [] H φ1 H1)(d:φ1[n]? =some a)(m:∃u,H1 a=some u)(new:OR K (φ++[a]) H1 a o):
  Le K φ H (φ++[a]) H1/\zN K (φ++[a]) (A++[o]) H1/\RV K (φ++[a]) H1 (.ref A.length) (.ref a):=by
 obtain⟨L,k⟩:=l.apart (φ:=φ);have h0:H a=Option.none:=by
  rcases l.nw n a d with e|e
  ·simp at e
  ·exact e
 obtain⟨u,b⟩:=m;have s:=S.frame k L;refine⟨L.YI h0,s.trackN b (λk q g f=>?_) new,a,rfl,by rw[<- S.len];simp⟩
 cases c:q.mut with
 |false=>rfl|true=>
  obtain⟨i,E,r⟩:=S.ob k q f;rw[g]at E;cases E;obtain⟨z,h,_⟩:=r.there c;rw[h0]at h;cases h
def OR.nrL {ws:List W}(h:OR K φ H a (.lst ws))(n:jl ws=true):OR K φ' H a (.lst ws):=let ⟨vs,e,r⟩:=h;⟨vs,e,r.nrm (λ_ _ t=>t) (λ_ _ _ t=>t) n⟩
def OR.nrD {kvs:List (Key×W)}(h:OR K φ H a (.dct kvs))(n:jl (kvs.map (·.2))=true):OR K φ' H a (.dct kvs):=let ⟨vs,e,E,r⟩:=h;⟨vs,e,E,r.nrm (λ_ _ t=>t) (λ_ _ _ t=>t) n⟩
theorem zS.iso {f:Fn}(F:zS P w K mg base k x n f):zS P w K mg base k x n (iso f):=by
 obtain⟨C,fd,ps,F,a,b,c⟩:=F;refine⟨C,fd,ps,F.imp λvs H Q E ⟨z,φ,A,ws,S,r,q⟩=>?_,a,b,c⟩;unfold Mi.iso at q
 by_cases hn:jl ws=true
 ·rw[ag hn]at q
  refine⟨z,[],[],ws,zN.none,r.nrm (λ_ _ t=>t) (λ_ _ _ t=>t) hn,?_⟩;cases hf:f ws [] with
  |ok w A1=>
   rw[hf]at q;dsimp only at q;intro u H1 v L D g;cases w with
   |ref m=>
    dsimp only at q;cases hm:A1[m]? with
    |none=>rw[hm]at q;exact q.elim|some o=>
     rw[hm]at q;obtain⟨I,j,d⟩:=D.ob m o hm;obtain⟨a2,rfl,e⟩:=g;rw[j]at e;cases e;cases o with
     |lst us=>
      dsimp only at q
      by_cases h:jl us=true
      ·rw[ag h]at q
       obtain⟨t,i,_⟩:=d.there rfl;obtain⟨s,p,B⟩:=S.adopt L j ⟨t,i⟩ (o:=.lst us) (d.nrL h);exact q _ _ _ s p B
      ·rw[aj h]at q;exact q.elim
     |dct us=>
      dsimp only at q
      by_cases h:jl (us.map (·.2))=true
      ·rw[ag h]at q
       obtain⟨t,i,_⟩:=d.there rfl;obtain⟨s,p,B⟩:=S.adopt L j ⟨t,i⟩ (o:=.dct us) (d.nrD h);exact q _ _ _ s p B
      ·rw[aj h]at q;exact q.elim
     |ro us=>exact q.elim|td _=>exact q.elim|tr _=>exact q.elim|tab _ _=>exact q.elim
   |_=>
    all_goals
     dsimp only at q;obtain⟨l,kk⟩:=L.apart (φ:=φ)
     first
      |exact q φ H1 v l (S.frame kk l) g
      |(
        split at q
        ·rename_i hw
         exact q φ H1 v l (S.frame kk l) (RV.nrm (λ_ _ t=>t) (λ_ _ _ t=>t) hw g)
        ·exact q.elim)
  |exc y A1=>rw[hf]at q;exact q.elim|bad=>rw[hf]at q;exact q.elim
 ·rw[aj hn]at q;exact q.elim
theorem zS.gN {f:Fn}(F:zS P w K mg base k x n f):zS P w K mg base k x n (gN f):=by
 obtain⟨fa,fd,ps,F,a,b,c⟩:=F;refine⟨fa,fd,ps,F.imp λvs H Q E ⟨hl,φ,A,ws,S,r,q⟩=>?_,a,b,c⟩;unfold Mi.gN at q;cases ws with
 |nil=>exact q.elim|cons w0 us=>cases w0 with
  |ref n=>
   dsimp only at q;cases l:A[n]? with
   |none=>rw[l]at q;exact q.elim|some o=>cases o with
    |lst xs=>
     rw[l]at q;dsimp only at q
     by_cases hn:(jl xs&&jl us)=true
     ·rw[ag hn]at q
      rw[ar]at hn;obtain⟨v0,vr,rfl,q0,qr⟩:=r;obtain⟨p,ys,rfl,f1,g1,g⟩:=S.lst q0 l;have S0:zN K [p] [.lst xs] H:=by
       refine⟨rfl,λi j a o o' J I X T _ _=>?_,λm o e=>?_⟩
       ·have:=(cA.mp J).1
        have:=(cA.mp I).1
        simp at*;omega
       ·have:m=0:=by have:=(cA.mp e).1;simp at this;omega
        subst this;simp at e;subst e;exact⟨p,rfl,ys,g1,g.nrm (λ_ _ t=>t) (λ_ _ _ t=>t) hn.1⟩
      refine⟨hl,[p],[.lst xs],.ref 0::us,S0,.cons ⟨p,rfl,rfl⟩ (qr.nrm (λ_ _ t=>t) (λ_ _ _ t=>t) hn.2),?_⟩;cases hf:f (.ref 0::us) [.lst xs] with
      |ok w A1=>
       rw[hf]at q;dsimp only at q;intro B H1 v L S1 q1;cases h0:List.head? A1 with
       |none=>rw[h0]at q;exact q.elim|some o=>cases o with
        |lst zs=>
         rw[h0]at q;dsimp only at q
         by_cases hw:(jl zs&&w.nr)=true
         ·rw[ag hw]at q
          rw[ar]at hw;have apart:∀a o,a≠p->H a=some o->H1 a=some o:=λa o ne h=>L.fr a o h λm e=>by
           have:m=0:=by have:=(cA.mp e).1;simp at this;omega
           subst this;simp at e;exact ne e.symm
          have lf:Le K φ H φ H1:=⟨λ_ _ h=>h,L.tp,λa o h nn=>apart a o (λe=>nn n (by rw[e];exact f1)) h,λ_ _ h=>.inl h,L.st,L.fz⟩
          have hp:B[0]? =some p:=L.ex 0 p rfl;obtain⟨p',s,U,M,D⟩:=S1.ob 0 _ (by rw[<- List.head?_eq_getElem?];exact h0)
          rw[hp]at s;cases s;refine q φ H1 v lf ?_ (RV.nrm (λ_ _ t=>t) (λ_ _ _ t=>t) hw.2 q1);have mt:∀(i:Nat)(w:O),(A.set n (.lst zs))[i]? =some w->w.mut=true->∃N,A[i]? =some N/\N.mut=true:=λi w e mw=>by
           by_cases hi:i=n
           ·subst hi;exact⟨_,l,rfl⟩
           ·rw[aG (Ne.symm hi)]at e;exact⟨w,e,mw⟩
          refine⟨by simp[S.len],λi j a o1 o2 J I X T m1 m2=>?_,λi w e=>?_⟩
          ·obtain⟨Z,s,k1⟩:=mt i o1 X m1
           obtain⟨Y,M,k2⟩:=mt j o2 T m2;exact S.inj i j a Z Y J I s M k1 k2
          ·by_cases hi:i=n
           ·subst hi
            have:i<A.length:=(cA.mp l).1
            rw[aJ this]at e;cases e;exact⟨p,f1,U,M,D.nrm (λ_ _ t=>t) (λ_ _ _ t=>t) hw.1⟩
           ·rw[aG (Ne.symm hi)]at e
            obtain⟨a,s,C⟩:=S.ob i w e;refine⟨a,s,?_⟩
            by_cases hm:w.mut=true
            ·have ne:a≠p:=λz=>hi (S.inj i n a w _ s (by rw[z];exact f1) e l hm rfl)
             exact C.keep lf λz hz=>apart a z ne hz
            ·cases w with
             |lst _=>exact absurd rfl hm|dct _=>exact absurd rfl hm|td _=>exact absurd rfl hm|tr _=>obtain⟨ob,u,vs,q,d,k,t,r⟩:=C;exact⟨ob,u,vs,lf.fz _ _ _ q,d,k,λx hx=>lf.tp _ _ (t x hx),r.mono lf⟩|tab _ _=>exact absurd rfl hm|ro ws=>
              obtain⟨vs,g,D⟩:=C;refine⟨vs,?_,D.mono lf⟩;rcases g with ⟨ob,g⟩|g
              ·refine .inl ⟨ob,apart a _ ?_ g⟩
               intro z;subst z;rw[g1]at g;cases g
              ·exact .inr g
         ·rw[aj hw]at q;exact q.elim
        |_=>rw[h0]at q;exact q.elim
      |exc y A1=>rw[hf]at q;exact q.elim|bad=>rw[hf]at q;exact q.elim
     ·rw[aj hn]at q;exact q.elim
    |_=>rw[l]at q;exact q.elim
  |_=>exact q.elim
end
section
variable {K:Frag}{a b:Expr}{m:Ev}{st:Stmt}
noncomputable def intsOf:List W->Option (bV)
 |[]=>some []|w::ws=>match w with
  |.int i=>match intsOf ws with
   |some is=>some (i::is)|none=>none
  |_=>none
theorem WR:∀{ws:List W}{ns:bV},intsOf ws=some ns->ws=ns.map W.int
 |[],_,e=>by cases e;rfl|w::ws,ns,e=>by
  unfold intsOf at e;cases w with
  |int i=>
   dsimp only at e;cases E:intsOf ws with
   |none=>rw[E]at e;cases e|some is=>rw[E]at e;cases e;rw[WR E];rfl
  |_=>cases e
noncomputable def yA:List Int->Int->Int
 |[],m=>m|i::is,m=>yA is (if i > m then i else m)
def F3 (ns:bV):∀(k:Nat)(a:k<ns.length),yA (ns.drop (k+1)) (ns.getD (argBest (λi j=>decide (ns.getD i 0 > ns.getD j 0)) k) 0)=yA ns.tail (ns.getD 0 0):=by
 intro k
 induction k with
 |zero=>intro _;rw[show argBest _ 0=0 from rfl,List.drop_one]|succ k I=>
  intro a;have H:k<ns.length:=by omega
  rw[<- I H];have e:ns.drop (k+1)=ns[k+1]::ns.drop (k+1+1):=bw a;rw[e];have E:ns.getD (k+1) 0=ns[k+1]:=by rw[af,aa a];rfl
  show yA _ (ns.getD (if decide (ns.getD (k+1) 0 > ns.getD (argBest _ k) 0)=true then k+1 else argBest _ k) 0)=yA _ (if ns[k+1] > ns.getD (argBest _ k) 0 then ns[k+1] else ns.getD (argBest _ k) 0);rw[E]
  by_cases h:ns[k+1] > ns.getD (argBest (λi j=>decide (ns.getD i 0 > ns.getD j 0)) k) 0
  ·rw[ag (by rw[ao];exact h),ag h,E]
  ·rw[aj (by rw[ao];exact h),aj h]
noncomputable def NS (K:Frag)(C:List Int->Prop)(f:List Int->Int):List V->Hp->VK->Prop:=λxs H Q=>∃a ns,xs=[.ref a]/\(jj K H a (ns.map V.int)∨qo K H a (ns.map V.int))/\C ns/\Q (.int (f ns)) H
def VR (r:Vals (ns.map V.int) its){v:Value}(h:its[i]? =some v):∃t,v=.int (ns.getD i 0) t:=by
 have c:i<its.length:=(cA.mp h).1;have H:i<ns.length:=by have:=r.length;rw[ah]at this;omega
 obtain⟨u,a,b⟩:=r.get (i:=i) (x:=V.int ns[i]) (by simp[H])
 rw[h]at a;cases a;obtain⟨t,rfl⟩:=b;exact⟨t,by rw[af,aa H];rfl⟩
def FH (n:X.calm=true):yt X (.builtin "max") (NS X.K (λns=>ns≠[]) λns=>yA ns.tail (ns.getD 0 0)):=by
 intro pins s σ H xs us Q I r h;obtain⟨a,ns,rfl,z,f,q⟩:=h;obtain⟨u,rfl,g⟩:=vals1 r;cases g;have hp:0<ns.length:=List.length_pos_iff.mpr f;refine call_max_walk (Oh I n z λd C fp wr S s2 c L W st p back=>?_);have e:d.length=ns.length:=by have:=c.length;rw[ah]at this;omega
 refine⟨C,fp,wr,_,_,S,λi j=>decide (ns.getD i 0 > ns.getD j 0),rfl,W,st,p,by omega,?_,λv h' tk l k=>?_⟩
 ·intro i j J D s' Q' E y x o
  obtain⟨t1,rfl⟩:=VR c y;obtain⟨T,rfl⟩:=VR c x;exact(PyProof.Rows.gt_int o:wpAny (model X.prog X.w) X.A.in1 (compareOp .Gt (.int (ns.getD i 0) t1) (.int (ns.getD j 0) T)) Q' E s')
 ·obtain⟨t,rfl⟩:=VR c l
  rw[e];have b:=F3 ns (ns.length-1) (by omega)
  rw[show ns.length-1+1=ns.length by omega,drop_length]at b
  have B:ns.getD (argBest (λi j=>decide (ns.getD i 0 > ns.getD j 0)) (ns.length-1)) 0=yA ns.tail (ns.getD 0 0):=b;rw[B];exact⟨.int _,H,back h' tk k,⟨_,rfl⟩,q⟩
def yz:List W->Hx->R W:=λws A=>match intsOf ws with
 |some (i::is)=>.ok (.int (yA is i)) A|_=>.bad
def eQ:∀ws A,qR (yz ws A):=λws A=>by
 unfold yz;split
 ·exact jY
 ·exact qP
def Et {ws:List W}{a:Addr}(z:jj K H a ys∨qo K H a ys)(r:zD K φ H ws ys)(e:intsOf ws=some ns):jj K H a (ns.map V.int)∨qo K H a (ns.map V.int):=by
 rw[WR e]at r;rw[<- zD.ints.mp r];exact z
def BN:J4 K (NS K (λns=>ns≠[]) λns=>yA ns.tail (ns.getD 0 0)) yz:=λφ A H a ys ws Q S z r p=>by
 unfold yz at p;cases e:intsOf ws with
 |none=>rw[e]at p;exact p.elim|some ns=>cases ns with
  |nil=>rw[e]at p;exact p.elim|cons i is=>rw[e]at p;exact⟨a,i::is,rfl,Et z r e,(by intro z;cases z),p φ H _ .refl S rfl⟩
def eR (y:W):List W->Nat->Nat
 |[],n=>n|w::ws,n=>eR y ws (if U7 w y then n+1 else n)
noncomputable def eT (lo d:Int)(n:Nat):It:=⟨λi _=>i<n,λi H x h=>h=H/\x=.int (lo+i * d),λi _=>n<=i⟩
def zdu (t:TA):TI:=λσ H R=>t σ H λvs H1=>∃i j:Int,vs=[.int i,.int j,.int (-1)]/\(-(2 ^ 62)<=i/\i<2 ^ 62/\-(2 ^ 62)<=j/\j<2 ^ 62)/\R (eT i (-1) (i-j).toNat) H1
noncomputable def eU (h:Int)(n:Nat):jE:=⟨λ_ i=>if i<n then some (some (.int (h-i))) else some none,n⟩
def zds (m M:Ev):Ei:=λρ A=>(m ρ A).bind λw A1=>(M ρ A1).bind λa A2=>match w,a with
 |.int i,.int j=>if yg i&&yg j then .ok (eU i (i-j).toNat) A2 else .bad|_,_=>.bad
def eV (t:TA):TE:=λσ H Q=>t σ H λvs H1=>∃j:Int,vs=[.int j]/\∀p,H1 p=none->Q (.ref p) (upd H1 p (.rng 0 j))
def CG {T:TA}(g:Gl X "range")(hm:X.mg "range"=none)(e:PA X [a] T)(d:starEach [a] X.env=[(false,eval a X.env)]):PE X (.Call (.Name "range" p) [a] [] pos) (eV T):=by
 intro pins s σ H Q I h;refine Call_ (QZ I g hm boot_range (PyProof.Rows.callWith_type1 (zZ (e pos pins s σ H _ I h) λus s1 ⟨vs,H1,i,r,c⟩=>?_) d rfl));obtain⟨j,rfl,q⟩:=c;obtain⟨u,rfl,⟨t,rfl⟩⟩:=r.one;refine call_range_1 ⟨.ref _,_,i.laid (o:=.rng 0 j) (λb o E=>ae _ E) (av _) ?_,rfl,q _ (i.hok.fresh (av _))⟩;exact⟨_,_,_,au _ rfl⟩
noncomputable def JY (n:Nat):List V:=(List.range n).map λ(i:Nat)=>V.int i
def HY (y:X.calm=true):yt X (.type "list") (λxs H Q=>∃(r:Addr) (j:Int),xs=[.ref r]/\H r=some (.rng 0 j)/\(-(2 ^ 62)<=j/\j<2 ^ 62)/\j.toNat<=sizeLine/\∀l,H l=none->Q (.ref l) (upd H l (.lst (JY j.toNat)))):=by
 intro pins s σ H xs us Q I r h;obtain⟨p,j,rfl,hp,⟨A,B⟩,z,q⟩:=h;obtain⟨u,rfl,g⟩:=vals1 r;cases g;obtain⟨t1,T,t3,x⟩:=I.hok p _ hp;have D:sizeLine=16777216:=sizeLine_eq;refine PySem.call_list_range (n:=j.toNat) (I.ok.hd y) (show IsRange s.heap p 0 j 1 t1 T t3 from x) (small_one (by omega) (by omega) A B) (by rw[rangeSize_one];split<;>omega) (by omega) λh' tk acc C kk S ⟨hn,d⟩=>?_
 refine⟨.ref s.heap.objs.size,_,I.laid (t':=tk) (o:=.lst (JY j.toNat)) kk (av _) ?_,rfl,q _ (I.hok.fresh (av _))⟩;refine⟨by unfold JY;simpa using z,acc.toList,C,?_,by simpa using S⟩
 have a:∀(l:bX)(k:Nat),(∀(i:Nat) v,l[i]? =some v->∃t,v=.int ((k+i:Nat):Int) t)->Vals ((List.range' k l.length).map λ(i:Nat)=>V.int i) l:=by
  intro l
  induction l with
  |nil=>intro k _;exact .nil|cons v l w=>
   intro k e;rw[bb,bT,aN];refine .cons ?_ (w (k+1) λi f a=>?_)
   ·obtain⟨t,rfl⟩:=e 0 v rfl
    exact⟨t,rfl⟩
   ·obtain⟨t,rfl⟩:=e (i+1) f (by simpa using a)
    exact⟨t,by congr 1;omega⟩
 have b:acc.toList.length=j.toNat:=by simpa using hn
 have:=a acc.toList 0 λi v c=>by
  obtain⟨t,rfl⟩:=d i v (by simpa using c)
  exact⟨t,by congr 1;omega⟩
 rw[b]at this;unfold JY;rw[range_eq_range'];exact this
def Kq (m:Ev):Ev:=λρ A=>(m ρ A).bind λw A1=>match w with
 |.int j=>if yg j&&decide (j.toNat<=zR) then .ok (.ref A1.length) (A1++[.lst ((List.range j.toNat).map λ(i:Nat)=>W.int i)]) else .bad|_=>.bad
noncomputable def zdw (i:Nat)(m:Ev):Ex:=λρ A=>match ρ[i]? with
 |some (some (.int x))=>(m ρ A).bind λw A1=>match w with
  |.int y=>.ok (.nx (ρ.set i (some (.int (x+y))))) A1|_=>.bad
 |_=>.bad
noncomputable def eX:V->V->Hp->VK->Prop:=λo i H Q=>∃p xs k v,o=.ref p/\i=.int k/\0<=k/\H p=some (.lst xs)/\xs[k.toNat]? =some v/\Q v H
def EF:Mg X eX:=by
 intro pins s σ H o i f g Q I ro d h;obtain⟨p,xs,k,v,rfl,rfl,h0,hp,e,q⟩:=h;cases ro;obtain⟨t,rfl⟩:=d;obtain⟨a,r,pl,z⟩:=I.list (jj.of hp);obtain⟨u,b,c⟩:=r.get e;have hn:=YD;have l:=r.length;have j:k.toNat<a.length:=(cA.mp b).1;exact wpAny_getItem_list pl.isList h0 (by omega) (by simpa using b) ⟨v,H,I,c,q⟩
def JN (mo mi me:Ev):Ex:=λρ A=>(mo ρ A).bind λo A1=>(mi ρ A1).bind λi A2=>match o,i with
 |.ref n,.int k=>if 0<=k then(match (A2[n]?:Option O) with
  |some (.lst ws)=>match ws[k.toNat]? with
   |some (.int x)=>(me ρ A2).bind λy b=>match y with
    |.int y=>(kj (.ref n) (.int k) (.int (x+y)) b).bind λ_ a=>.ok (.nx ρ) a|_=>.bad
   |_=>.bad
  |_=>.bad) else .bad
 |_,_=>.bad
noncomputable def Yx (i j k:Nat):Tg:=λw ρ=>match w with
 |.tup [x,.tup [y,z]]=>some (((ρ.set i (some x)).set j (some y)).set k (some z))|_=>none
end
def jN (k:Bool)(h:Heap)(it a:Addr)(i:Nat):Prop:=if k=true then h.IsListIter it a i else h.IsTupleIter it a i
def yv (k:Bool)(h:Heap)(a:Addr)(items:Array Value):Prop:=if k=true then h.IsList a items else h.IsTuple a items
def wc (k:Bool)(K:Frag)(H:Hp)(a:Addr)(xs:List V):Prop:=if k=true then jj K H a xs else qo K H a xs
noncomputable def JP (k:Bool):String:=if k then "list_iterator" else "tuple_iterator"
def jN.ob {k:Bool}{it:Addr}(x:jN k h it a i):∃o,h.get? it=some o/\o.cls=.type (JP k)/\o.data=.fields #[.ref a,.int i 0]:=by
 cases k<;>exact x
def jN.mk {k:Bool}{it:Addr}(x:∃o,h.get? it=some o/\o.cls=.type (JP k)/\o.data=.fields #[.ref a,.int i 0]):jN k h it a i:=by
 cases k<;>exact x
def jN.to {k:Bool}{it:Addr}(x:jN k h it a i)(e:∀o,h.get? it=some o->h'.get? it=some o):jN k h' it a i:=let ⟨o,h1,r⟩:=x.ob;.mk ⟨o,e o h1,r⟩
def yv.ob {k:Bool}(x:yv k h a items):∃o,h.get? a=some o/\o.cls=.type (if k then "list" else "tuple")/\∃n,o.data=.seq items n:=by
 cases k<;>exact x
def yv.to {k:Bool}(x:yv k h a items)(e:∀o,h.get? a=some o->h'.get? a=some o):yv k h' a items:=by
 cases k with
 |false=>exact let ⟨o,h1,r⟩:=x.ob;⟨o,e o h1,r⟩|true=>exact let ⟨o,h1,r⟩:=x.ob;⟨o,e o h1,r⟩
section
variable {prog:Program}{A:Around}{k:Bool}{it:Addr}
def OB (h:yv k s.heap a items)(H:Q (.ref s.heap.objs.size) { s with heap:=s.heap.push { cls:=.type (JP k),data:=.fields #[.ref a,.int 0 0] } }):wpAny (model prog w) A (pyIter (.ref a)) Q E s:=by
 cases k with
 |true=>exact wpAny_pyIter_list h H|false=>exact wpAny_pyIter_tuple h H
def Gh {x:Value}(hit:jN k s.heap it a i)(l:yv k s.heap a items)(f:items[i]? =some x)
  (g:∀h',jN k h' it a (i+1)->Heap.SameBut it s.heap h'->Q x { s with heap:=h' }):wpAny (model prog w) A (Builtin.SmallTypes.nextOf (.ref it)) Q E s:=by
 cases k with
 |true=>exact wpAny_nextOf_list_item hit l f g|false=>
  have h:s.heap.IsTupleIter it a i:=hit;obtain⟨o,b,e,H⟩:=id h;obtain⟨j,c,_,na,d⟩:s.heap.IsTuple a items:=l;unfold Builtin.SmallTypes.nextOf;refine cw (wpAny_callSpecial?_slot (name:=Str.ofString "__next__") h.typeIs F.slot_tuple_iterator_next (wpAny_call_entry F.slot_tuple_iterator_next h.typeIs F.entry_tuple_iterator_next ?_ (F.args_tuple_iterator_next_1 _)));show wpAny _ _ (field (.ref it) 0 >>= _) _ _ s;refine cw (wpAny_field b H (x:=.ref a) rfl ?_);show wpAny _ _ (if (Value.ref a==Value.none)=true then _ else _) _ _ s;rw[aj (show ¬((Value.ref a==Value.none)=true) from aA)]
  show wpAny _ _ (field (.ref it) 1 >>= _) _ _ s;refine cw (wpAny_field b H (x:=.int i 0) rfl ?_);show wpAny _ _ (seqItems? (.ref a) >>= _) _ _ s;refine cw (wpAny_seqItems c d ?_);simp only[aH,f];refine cw (wpAny_setField b H (by simp) (cx ⟨x,rfl,cx (g _ (.mk ?_) (Heap.SameBut.update ..))⟩))
  exact⟨_,a9 _ b (Obj.isFreed_of_fields (Obj.data_mapFields H _)),(Obj.cls_mapFields ..).trans e,by rw[Obj.data_mapFields H];simp[rawInt]⟩
def Uk (d:A.handled=none)(hit:jN k s.heap it a i)(l:yv k s.heap a items)(g:items[i]? =none)
  (j:∀h' e,Heap.ExtBut it s.heap h'->(∃o,h'.get? e=some o/\o.cls=.type "StopIteration")->E (.ref e) { s with heap:=h' }):wpAny (model prog w) A (Builtin.SmallTypes.nextOf (.ref it)) Q E s:=by
 cases k with
 |true=>exact wpAny_nextOf_list_end d hit l g j|false=>
  have h:s.heap.IsTupleIter it a i:=hit;obtain⟨p,H,n,b⟩:=id h;obtain⟨q,c,_,na,f⟩:s.heap.IsTuple a items:=l;unfold Builtin.SmallTypes.nextOf;refine cw (wpAny_callSpecial?_slot (name:=Str.ofString "__next__") h.typeIs F.slot_tuple_iterator_next (wpAny_call_entry F.slot_tuple_iterator_next h.typeIs F.entry_tuple_iterator_next ?_ (F.args_tuple_iterator_next_1 _)));show wpAny _ _ (field (.ref it) 0 >>= _) _ _ s;refine cw (wpAny_field H b (x:=.ref a) rfl ?_);show wpAny _ _ (if (Value.ref a==Value.none)=true then _ else _) _ _ s;rw[aj (show ¬((Value.ref a==Value.none)=true) from aA)]
  show wpAny _ _ (field (.ref it) 1 >>= _) _ _ s;refine cw (wpAny_field H b (x:=.int i 0) rfl ?_);show wpAny _ _ (seqItems? (.ref a) >>= _) _ _ s;refine cw (wpAny_seqItems c f ?_);simp only[aH,g];refine cw (wpAny_rule (cw (wpAny_setField H b (by simp) ?_)))
  show wpAny _ _ (newExc (.type "StopIteration") [] >>= _) _ _ _;refine cw ?_;simp only[newExc,newTuple];refine cw (wpAny_newObj_type ?_ (by size_fits))
  refine cw (m:=firstArgMember _ _) (wpAny_of_eq (a:=Value.none) (by first|rfl|(simp only[firstArgMember];rfl)) ?_);refine wpAny_newObj_type ?_ (by size_fits)
  simp only[raiseNew];refine cw (wpAny_handled ?_)
  first|rw[show A.in1.handled=none from d]|rw[d]
  refine cw (cx (wpAny_throw ?_));exact j _ _ (((Heap.SameBut.update ..).extBut.push _).push _) ⟨_,au _ rfl,rfl⟩
def Oe (j:A.handled=none)(c:a≠it):Draws prog w A it [it,a] items.size (λi v=>items[i]? =some v) (λi h=>jN k h it a i/\yv k h a items) where
 live:=λ_ _ st=>let ⟨o,g,_⟩:=st.1.ob;⟨o,g⟩
 frame:=λ_ _ _ st d=>⟨st.1.to λo e=>d it (by simp) o e,st.2.to λo e=>d a (by simp) o e⟩
 item:=λi s Q E f st l=>Gh st.1 st.2 (x:=items[i]) (by simp[f]) λh' b H=>l _ h' s.toks (by simp[f]) ⟨b,st.2.to λo e=>H.extBut a o c e⟩ H
 done:=λs Q E st n=>Uk j st.1 st.2 (by simp) n
end
section
def _root_.L2.Inv.spun {T:Addr}{o:HO}(I:Inv X pins σ H s)(k:∀b u,b∉fp->s.heap.get? b=some u->h'.get? b=some u)(hf:∀b∈fp,kY X pins H b)(hT:s.heap.objs.size<=T)
  (new:jh X.prog X.w (upd H T o) h' T o):Inv X pins σ (upd H T o) { s with heap:=h',toks:=t' }:=by
 have hn:H T=none:=I.hok.fresh hT;have lt:∀b u,s.heap.get? b=some u->b≠T:=λb u e=>aK (aE (aF e) hT);have N:∀b u,H b=some u->b∉fp:=λb u e z=>by rw[(hf b z).1]at e;cases e
 refine I.step (g':=s.gens) (d':=s.drawn) (ch:=fp) (λb a=>let ⟨_,f1,_,g,f4,f⟩:=hf b a;⟨g,f1,f4,f⟩) (λb o _ _ h e _=>k b o h e) (λb o _ _ h e _=>⟨o.slots,k b o h e⟩)
  (λb o _ e n=>by rw[qk (lt b o e)];exact n) (λb o h e=>⟨o,k b o h e⟩) (λb xs e=>by rw[qk (kQ e hn)];exact e) (λb u xs e=>by rw[qk (kQ e hn)];exact e)
  (λb ps e=>⟨#[],by rw[qk (kQ e hn),e];simp⟩) (λm hm=>?_) (λb u e=>?_) I.bare
 ·obtain⟨o,E,p,d,r⟩:=hm
  exact⟨o,E,p,k _ o (λz=>(hf _ z).2.1 rfl) d,r⟩
 ·by_cases a:b=T
  ·subst a;rw[jA]at e;cases e;exact new
  ·rw[qk a]at e
   refine(I.hok b u e).stay (λc v h q=>k c v ?_ q) (λc q=>by rw[qk (kQ q hn)];exact q) λc xs q=>by rw[qk (kQ q hn)];exact q
   rcases h with z|z
   ·rw[z];exact N b u e
   ·exact N c _ z
def _root_.L2.Inv.spun0 (I:Inv X pins σ H s)(k:∀b u,b∉fp->s.heap.get? b=some u->h'.get? b=some u)(hf:∀b∈fp,kY X pins H b):Inv X pins σ H { s with heap:=h',toks:=t' }:=by
 have N:∀b u,H b=some u->b∉fp:=λb u e z=>by rw[(hf b z).1]at e;cases e
 refine I.step (g':=s.gens) (d':=s.drawn) (ch:=fp) (λb d=>let ⟨_,f1,_,g,f4,f⟩:=hf b d;⟨g,f1,f4,f⟩) (λb o _ _ h e _=>k b o h e) (λb o _ _ h e _=>⟨o.slots,k b o h e⟩)
  (λb o _ e n=>n) (λb o h e=>⟨o,k b o h e⟩) (λb xs e=>e) (λb u xs e=>e) (λb ps e=>⟨#[],by rw[e];simp⟩) (λm hm=>?_) (λb u e=>?_) I.bare
 ·obtain⟨o,E,p,a,r⟩:=hm
  exact⟨o,E,p,k _ o (λz=>(hf _ z).2.1 rfl) a,r⟩
 ·refine(I.hok b u e).stay (λc v h q=>k c v ?_ q) (λc q=>q) λc xs q=>q
  rcases h with z|z
  ·rw[z];exact N b u e
  ·exact N c _ z
def _root_.L2.Inv.sq {k:Bool}{xs:List V}(I:Inv X pins σ H s)(h:wc k X.K H a xs):∃i:bX,Vals xs i/\yv k s.heap a i.toArray/\xs.length<=sizeLine:=by
 cases k with
 |true=>obtain⟨i,r,p,z⟩:=I.list h;exact⟨i,r,p.isList,z⟩|false=>obtain⟨i,r,p,z⟩:=I.tuple h;exact⟨i,r,(show s.heap.IsTuple a i.toArray from p),z⟩
def _root_.L2.Inv.sq_inj {k:Bool}{xs:List V}(I:Inv X pins σ H s)(h:wc k X.K H a xs)(h':wc k X.K H a ys):xs=ys:=by
 cases k with
 |true=>exact I.list_inj h h'|false=>exact I.tuple_inj h h'
end
def Tu (k:Bool)(K:Frag)(a:Addr):It:=
 ⟨λi H=>∃xs x,wc k K H a xs/\xs[i]? =some x,λi H x h=>∃p y,(∀xs,wc k K H a xs->xs[i]? =some y)/\H p=none/\x=.ref p/\h=upd H p (.tup [.int i,y]),λi H=>∃xs,wc k K H a xs/\xs.length=i⟩
def Ep {K:Frag}(k:Bool)(a n it:Addr):Turn P w K (.Tuple elts kk tpos) (Tu k K a) [n,it] n (λi h=>(∃old,IsEnum h n it i old)/\jN k h it a i/\n≠it) where
 mem:=by simp
 obj:=λi h st b f=>by
  obtain⟨⟨old,he⟩,g,_⟩:=st;rcases cz.mp f with rfl|f
  ·exact⟨_,he,λv z=>nomatch z⟩
  ·rw[cC.mp f]
   obtain⟨o,S,_,hd⟩:=g.ob;exact⟨o,S,λv z=>by rw[hd]at z;cases z⟩
 keep:=λi h h' ⟨⟨old,he⟩,g,ne⟩ kp=>⟨⟨old,kp n (by simp) _ he⟩,g.to λo r=>kp it (by simp) o r,ne⟩
 item:=by
  intro X hP hw hK hc i pins s σ H E I hf st U;subst hP hw hK;obtain⟨⟨old,he⟩,g,ne⟩:=st;obtain⟨xs,x,D,C⟩:=U;obtain⟨d,J,t,hz⟩:=I.sq D;obtain⟨u,hu,ru⟩:=J.get C;have T:i<d.toArray.size:=by simpa using (cA.mp hu).1
  obtain⟨oa,j,hca,na,e⟩:=t.ob;have A:a≠it:=λz=>by
   obtain⟨oi,c,Z,p⟩:=g.ob;rw[<- z,j]at c;cases c;rw[p]at e;cases e
  have ane:n≠a:=λz=>by
   have B:s.heap.get? a=_:=z ▸ he;rw[j]at B;cases B;cases e
  refine wpAny_pyNext_enum_itemD (Oe (k:=k) (items:=d.toArray) (I.ok.hd hc) A) he ⟨g,t⟩ T ne (by simp[ne,ane]) λy h1 tk M S Q hT hsz hk=>?_
  have ey:y=u:=by
   have:d[i]? =some y:=by simpa using M
   rw[hu]at this;exact(aB this).symm
  subst ey;refine⟨_,rfl,wpAny_letOwnedTupleGo_enum S λh2 Y l=>?_⟩;have L:n<s.heap.objs.size:=aF he;have hT2:h2.get? s.heap.objs.size=some { cls:=.type "tuple",data:=.seq #[.int i tk,y] }:=l.extBut _ _ (bq L) hT;refine⟨.ref s.heap.objs.size,upd H s.heap.objs.size (.tup [.int i,x]),?_,rfl,⟨s.heap.objs.size,x,λys M=>by rw[I.sq_inj M D];exact C,I.hok.fresh (av _),rfl,rfl⟩,⟨⟨_,by simpa using Y⟩,?_,ne⟩,λb f=>?_⟩
  ·refine I.spun (fp:=[n,it]) (t':=tk+1) (λb o f r=>?_) hf (av _) ?_
   ·exact l.extBut _ _ (λz=>f (by simp[z])) (hk b o (λz=>f (by simp[z])) (λz=>f (by simp[z])) r)
   ·exact⟨by show 2<=sizeLine;decide,[.int i tk,y],.cons ⟨tk,rfl⟩ (.cons ru .nil),_,hT2,⟨rfl,rfl⟩,0,rfl⟩
  ·exact Q.1.to λo r=>l.extBut _ _ (λz=>ne z.symm) r
  ·have bn:b≠s.heap.objs.size:=λz=>by
    rcases cz.mp f with q|q
    ·exact absurd L (by rw[<- q,z];exact aV _)
    ·obtain⟨oi,c,_⟩:=g.ob
     exact absurd (aF c) (by rw[<- cC.mp q,z];exact aV _)
   show upd H s.heap.objs.size _ b=none;rw[qk bn];exact(hf b f).1
 done:=by
  intro X hP hw hK hc i pins s σ H E I hf st U;subst hP hw hK;obtain⟨⟨old,he⟩,g,ne⟩:=st;obtain⟨xs,D,C⟩:=U;obtain⟨d,J,t,hz⟩:=I.sq D;have en':d.toArray.size=i:=by rw[aC,<- J.length];exact C
  obtain⟨oa,j,hca,na,e⟩:=t.ob;have A:a≠it:=λz=>by
   obtain⟨oi,c,Z,p⟩:=g.ob;rw[<- z,j]at c;cases c;rw[p]at e;cases e
  refine wpAny_pyNext_enum_endD (Oe (k:=k) (items:=d.toArray) (I.ok.hd hc) A) he ⟨by rw[en'];exact g,t⟩ λh1 N=>⟨rfl,?_⟩
  exact I.spun0 (fp:=[n,it]) (t':=s.toks) (λb o f r=>N b o (λz=>f (by simp[z])) r) hf
 self:=λ_ _ _ _ _ ⟨⟨_,he⟩,_⟩ h=>wpAny_pyIter_enum he h
open AutoSeq1 (wpAny_loadPart')
abbrev Xc (h:Heap)(k:Bool)(a:Addr):Heap:=h.push { cls:=.type (JP k),data:=.fields #[.ref a,.int 0 0] }
abbrev N5 (h:Heap)(k:Bool)(a:Addr):Heap:=(Xc h k a).push { cls:=.type "enumerate",data:=.fields #[.none,.bool false,.ref h.objs.size,rawInt 0,.none,.none] }
def IW (a:Addr)(items:Array Value)(n:Nat)(dd:cq)(S:Array (Option Value)):
  Meets (Builtin.«enumerate.__new__» ⟨[.type "enumerate",.ref a],[]⟩) (λ_ R s=>s.heap.get? a=some { cls:=.type "tuple",dict:=dd,data:=.seq items n,slots:=S }/\R (.ok (.ret (.ref (Xc s.heap false a).objs.size))) { s with heap:=N5 s.heap false a }):=
 .of_wp λprog w A R s h=>by
  obtain⟨hp,g,d,tk,os⟩:=s;obtain⟨H,h⟩:=h;have b:=sub_enumerate;have hT:Heap.IsTuple (Shared.heap ⟨hp,g,d,tk,os⟩) a items:=⟨_,H,rfl,n,rfl⟩
  wp_walk using wpAny_loadPart' H
  refine wpAny_stack_any λst=>cx ?_;split
  ·rename_i c _ _ _ _ _
   cases (c==Value.type "enumerate")<;>(wp_walk using wpAny_loadPart' H,wpAny_pyIter_tuple hT;exact⟨_,rfl,h⟩)
  ·wp_walk using wpAny_loadPart' H,wpAny_pyIter_tuple hT
   exact⟨_,rfl,h⟩
section
variable {prog:Program}{A:Around}
def Es {k:Bool}(l:yv k s.heap a items)
  (h:∀h',IsEnum h' (s.heap.objs.size+1) s.heap.objs.size 0 .none->jN k h' s.heap.objs.size a 0->(∀b o,s.heap.get? b=some o->h'.get? b=some o)->Q (.ref (s.heap.objs.size+1)) { s with heap:=h' }):
  wpAny (model prog w) A (call (.type "enumerate") [.ref a]) Q E s:=by
 cases k with
 |true=>exact call_enumerate_list l λh' g f _ e=>h h' g f e|false=>
  obtain⟨⟨c,dd,dt,S⟩,d,H,n,hd⟩:=(show s.heap.IsTuple a items from l)
  replace H:c=.type "tuple":=H
  replace hd:dt=.seq items n:=hd
  subst H hd;refine callType_new F.called_enumerate (by decide) (F.typeCall_enumerate_1 _) (F.newCall_enumerate_1 _) (λobj=>F.args_object_init_2 obj _) F.entry_enumerate_new (IW a items n dd S) ⟨d,?_⟩
  have z:(Xc s.heap false a).objs.size=s.heap.objs.size+1:=bf ..;have he:IsEnum (N5 s.heap false a) (Xc s.heap false a).objs.size s.heap.objs.size 0 .none:=au _ rfl;show _/\_;rw[z]at he ⊢;exact⟨⟨_,he,rfl⟩,h _ he (.mk ⟨_,ae _ (au _ rfl),rfl,rfl⟩) λb o x=>ae _ (ae _ x)⟩
end
section
variable {a b:Expr}{m:Ev}
def eY (K:Frag)(t:TA):TI:=λσ H R=>t σ H λvs H1=>∃p k xs,vs=[.ref p]/\wc k K H1 p xs/\R (Tu k K p) H1
def boot_enumerate:bootBuiltins "enumerate"=some (.type "enumerate"):=by rfl
def boot_zip:bootBuiltins "zip"=some (.type "zip"):=by rfl
def Cq {t:TA}(l:Gl X "enumerate")(hm:X.mg "enumerate"=none)(o:PA X [a] t)(g:starEach [a] X.env=[(false,eval a X.env)]):
  PI X (.Tuple elts kk tpos) (.Call (.Name "enumerate" p) [a] [] pos) (eY X.K t):=by
 intro pins s σ H R I h;refine Call_ (QZ I l hm boot_enumerate (PyProof.Rows.callWith_type1 (zZ (o pos pins s σ H _ I h) λus s1 ⟨vs,H1,i,d,Q⟩=>?_) g rfl));obtain⟨p,k,xs,rfl,j,q⟩:=Q;obtain⟨u,rfl,r⟩:=d.one;cases r;obtain⟨f,w,sq,x⟩:=i.sq j;refine Es sq λh' e v E=>wpAny_pyIter_enum e ?_;refine⟨s1.heap.objs.size+1,[s1.heap.objs.size+1,s1.heap.objs.size],_,_,H1,rfl,i.kept (t':=s1.toks) E,Ep k p _ _,⟨⟨_,by simpa using e⟩,v,Nat.succ_ne_self _⟩,λb n=>?_,q⟩
 have c:s1.heap.objs.size<=b:=by
  rcases cz.mp n with z|z
  ·rw[z];exact le_succ _
  ·rw[cC.mp z];exact av _
 exact i.fpOk c (i.hok.fresh c)
noncomputable def atEnd (ws:List W)(i:Nat)(f:W->W):Option (Option W):=match ws[i]? with
 |some x=>some (some (f x))|none=>if ws.length=i then some none else none
def kM (w:W)(n:Nat):jE:=⟨λA i=>match zT w A with
 |some ws=>atEnd ws i λx=>.tup [.int i,x]|none=>none,n⟩
noncomputable def Q3 (w:W):Bool:=match w with
 |.tup _=>false|_=>true
def W2 {K:Frag}{A:Hx}{w:W}{ws:List W}(S:zN K φ A H)(q:RV K φ H w v)(e:zT w A=some ws):∃p ys,v=.ref p/\wc (Q3 w) K H p ys/\zD K φ H ws ys:=by
 cases w with
 |tup us=>cases e;obtain⟨a,vs,E,t,r⟩:=q;exact⟨a,vs,E,t,r⟩|ref n=>
  obtain⟨a,E,f⟩:=q;unfold zT at e;dsimp only at e;cases c:A[n]? with
  |none=>rw[c]at e;cases e|some o=>
   rw[c]at e;obtain⟨g,d,r⟩:=S.ob n o c;rw[f]at d;cases d;cases o with
   |lst xs=>cases e;obtain⟨y,b,h⟩:=r;exact⟨a,y,E,jj.of b,h⟩|ro xs=>cases e;obtain⟨y,b,h⟩:=r;exact⟨a,y,E,b.sq,h⟩|dct xs=>cases e|td _=>cases e|tr _=>cases e|tab _ _=>cases e
 |non=>cases e|bl _=>cases e|clo _ _ _=>cases e|xc _=>cases e|int _=>cases e|str _=>cases e
def Vk {K:Frag}{a:bY}{A':Hx}{h:Hp}{w:W}{b:List W}{p:Addr}(q:RV K φ H w (.ref p))(lw:Zt K φ H a h)(S:zN K a A' h)(E:zT w A'=some b):∃y,wc (Q3 w) K h p y/\zD K a h b y:=by
 obtain⟨P,ys,e,d,c⟩:=W2 S (RV.monoW lw q) E;cases e;exact⟨ys,d,c⟩
def eZ {K:Frag}{w:W}{p:Addr}(q:RV K φ H w (.ref p)):ZZ K φ H (kM w n) (Tu (Q3 w) K p):=λi c k A' lw S=>by
 unfold kM;dsimp only;cases es:zT w A' with
 |none=>exact⟨λ_ z=>(by cases z),λz=>(by cases z)⟩|some ws=>
  dsimp only;obtain⟨ys,a,b⟩:=Vk q lw S es;unfold atEnd;cases E:ws[i]? with
  |none=>
   dsimp only
   by_cases h:ws.length=i
   ·rw[ag h]
    exact⟨λ_ z=>(by cases z),λ_=>⟨ys,a,by rw[<- b.length];exact h⟩⟩
   ·rw[aj h]
    exact⟨λ_ z=>(by cases z),λz=>(by cases z)⟩
  |some x=>
   dsimp only;refine⟨λu z=>?_,λz=>(by cases z)⟩
   cases z;obtain⟨y,e,j⟩:=b.get E;refine⟨⟨ys,y,a,e⟩,λX H1 ⟨t,Y,d,f,ex,g⟩=>?_⟩;subst ex g
   have:=d ys a
   rw[e]at this;cases this;obtain⟨a1,a2,A⟩:=QV S f (.cons (w:=.int i) (v:=.int i) rfl (.one j));exact⟨a1,a2,A⟩
def wd (m:Ev):Ei:=λρ A=>(m ρ A).bind λw A1=>match zT w A1 with
 |some ws=>.ok (kM w ws.length) A1|none=>.bad
end
section
variable {prog:Program}{A:Around}{z TI TO i1 i2 l1 l2:Addr}{n1 n2:Nat}{c1 c2:Bool}{xs ys:Array Value}{x y a b:Value}
def Bc (D:ZipApart z TI TO i1 i2 l1 l2)(H:IsZip s.heap z TI TO .none)(I:IsPair s.heap TI (.ref i1) (.ref i2))(r:IsPair s.heap TO a b)
  (g1:jN c1 s.heap i1 l1 n1)(g2:jN c2 s.heap i2 l2 n2)(s1:yv c1 s.heap l1 xs)(s2:yv c2 s.heap l2 ys)(U:xs[n1]? =some x)(P:ys[n2]? =some y)
  (hQ:∀h',IsZip h' z TI TO (rawInt s.heap.objs.size)->IsPair h' TI (.ref i1) (.ref i2)->IsPair h' TO x y->jN c1 h' i1 l1 (n1+1)->jN c2 h' i2 l2 (n2+1)->IsPair h' s.heap.objs.size x y->
   (∀c o,c≠z->c≠TO->c≠i1->c≠i2->s.heap.get? c=some o->h'.get? c=some o)->Q (.ref s.heap.objs.size) { s with heap:=h' }):
  wpAny (model prog w) A (Builtin.«zip.__next__» ⟨[.ref z],[]⟩) (λfin s'=>∃v,fin=.done (.ret v)/\Q v s') E s:=by
 show wpAny _ _ (field (.ref z) 2 >>= _) _ _ _;refine cw (wpAny_field H rfl (x:=.bool false) rfl ?_);show wpAny _ _ (field (.ref z) 3 >>= _) _ _ _;refine cw (wpAny_field H rfl (x:=.ref TI) rfl (cw (wpAny_seqItems I rfl ?_)));show wpAny _ _ (Builtin.SmallTypes.ownedTupleIsFree (.ref z) >>= _) _ _ _;refine cw ?_;unfold Builtin.SmallTypes.ownedTupleIsFree;refine cw (wpAny_field H rfl (x:=.none) rfl (cx ?_));simp only[if_true];refine cw (wpAny_rule (cw (wpAny_field H rfl (x:=.ref TO) rfl ?_)));refine cw (wpAny_setField_rec H (by simp) λha n sa=>?_);replace n:IsZip ha z TI TO .ellipsis:=n
 refine cw ?_;simp only[List.zipIdx_cons,List.zipIdx_nil,forIn_cons,forIn_nil];refine cw (cw (wpAny_onRaise ?_));show wpAny _ _ (Builtin.SmallTypes.nextOf (.ref i1) >>= _) _ _ _;refine cw (Gh (g1.to λo e=>sa.extBut _ _ D.i1z e) (s1.to λo e=>sa.extBut _ _ D.l1z e) U λY gb i=>cx ?_);have C:IsPair Y TO a b:=i.extBut _ _ D.TOi1 (sa.extBut _ _ D.TOz r);refine cw (wpAny_seqItems C rfl (cw (wpAny_updateSeq_pair C λM T sc=>cw (wpAny_letGo (cx ?_)))));replace T:IsPair M TO x b:=T;refine cw (cw (wpAny_onRaise ?_));show wpAny _ _ (Builtin.SmallTypes.nextOf (.ref i2) >>= _) _ _ _;have up:∀c o,c≠z->c≠i1->c≠TO->s.heap.get? c=some o->M.get? c=some o:=λc o f d h e=>sc.extBut _ _ h (i.extBut _ _ d (sa.extBut _ _ f e));refine cw (Gh (g2.to λo e=>up _ o D.i2z D.i12.symm D.TOi2.symm e) (s2.to λo e=>up _ o D.l2z D.l2i1 D.l2TO e) P λhd gd g=>cx ?_);have td:IsPair hd TO x b:=g.extBut _ _ D.TOi2 T;refine cw (wpAny_seqItems td rfl (cw (wpAny_updateSeq_pair td λhe t S=>cw (wpAny_letGo (cx (cx ?_))))));replace t:IsPair he TO x y:=t;refine cw (wpAny_seqItems t rfl (cw (wpAny_newTuple ?_)));have hsz:he.objs.size=s.heap.objs.size:=by rw[S.1,g.1,sc.1,i.1,sa.1]
 have B:IsZip he z TI TO .ellipsis:=S.extBut _ _ D.TOz.symm (g.extBut _ _ D.i2z.symm (sc.extBut _ _ D.TOz.symm (i.extBut _ _ D.i1z.symm n)));have L:∀c o,c≠z->c≠TO->c≠i1->c≠i2->s.heap.get? c=some o->he.get? c=some o:=λc o f d h p e=>S.extBut _ _ d (g.extBut _ _ p (up c o f h d e));have ge1:jN c1 he i1 l1 (n1+1):=((gb.to λo e=>sc.extBut _ _ D.TOi1.symm e).to λo e=>g.extBut _ _ D.i12 e).to λo e=>S.extBut _ _ D.TOi1.symm e;have u:jN c2 he i2 l2 (n2+1):=gd.to λo e=>S.extBut _ _ D.TOi2.symm e;have Z:z<he.objs.size:=aF B;show wpAny _ _ (Builtin.SmallTypes.ownedTupleHandOut (.ref z) (.ref he.objs.size) >>= _) _ _ _;refine cw ?_;unfold Builtin.SmallTypes.ownedTupleHandOut;have N:IsZip (he.push { cls:=.type "tuple",data:=.seq #[x,y] }) z TI TO .ellipsis:=ae _ B;refine cw (wpAny_setField_rec N (by simp) λX l K=>?_);replace l:IsZip X z TI TO (rawInt he.objs.size):=l
 refine wpAny_setField_rec l (by simp) λj k J=>?_;replace k:IsZip j z TI TO (rawInt he.objs.size):=k
 have fin:∀c o,c≠z->he.get? c=some o->j.get? c=some o:=λc o q e=>J.extBut _ _ q (K.extBut _ _ q (ae _ e));have tk:IsPair j he.objs.size x y:=J.extBut _ _ (bq Z) (K.extBut _ _ (bq Z) (au _ rfl));rw[hsz]at k tk;refine cx ⟨_,rfl,?_⟩;show Q (.ref he.objs.size) _;rw[hsz];exact hQ j k (fin _ _ D.TIz (L _ _ D.TIz D.TITO D.TIi1 D.TIi2 I)) (fin _ _ D.TOz t) (ge1.to λo e=>fin _ o D.i1z e) (u.to λo e=>fin _ o D.i2z e) tk λc o f d h p e=>fin c o f (L c o f d h p e)
def e9 {Q:Fin->Shared->Prop}(J:A.handled=none)(D:ZipApart z TI TO i1 i2 l1 l2)(i:IsZip s.heap z TI TO .none)(I:IsPair s.heap TI (.ref i1) (.ref i2))(u:IsPair s.heap TO a b)
  (g1:jN c1 s.heap i1 l1 n1)(g2:jN c2 s.heap i2 l2 n2)(s1:yv c1 s.heap l1 xs)(s2:yv c2 s.heap l2 ys)(j:xs[n1]? =none∨ys[n2]? =none)
  (K:∀h' e,(∀c o,c≠z->c≠TO->c≠i1->c≠i2->s.heap.get? c=some o->h'.get? c=some o)->(∃o,h'.get? e=some o/\o.cls=.type "StopIteration")->E (.ref e) { s with heap:=h' }):
  wpAny (model prog w) A (Builtin.«zip.__next__» ⟨[.ref z],[]⟩) Q E s:=by
 show wpAny _ _ (field (.ref z) 2 >>= _) _ _ _;refine cw (wpAny_field i rfl (x:=.bool false) rfl ?_);show wpAny _ _ (field (.ref z) 3 >>= _) _ _ _;refine cw (wpAny_field i rfl (x:=.ref TI) rfl (cw (wpAny_seqItems I rfl ?_)));show wpAny _ _ (Builtin.SmallTypes.ownedTupleIsFree (.ref z) >>= _) _ _ _;refine cw ?_;unfold Builtin.SmallTypes.ownedTupleIsFree;refine cw (wpAny_field i rfl (x:=.none) rfl (cx ?_));simp only[if_true];refine cw (wpAny_rule (cw (wpAny_field i rfl (x:=.ref TO) rfl ?_)));refine cw (wpAny_setField_rec i (by simp) λt Z sa=>?_);replace Z:IsZip t z TI TO .ellipsis:=Z
 refine cw ?_;simp only[List.zipIdx_cons,List.zipIdx_nil,forIn_cons,forIn_nil];refine cw (cw (wpAny_onRaise ?_));show wpAny _ _ (Builtin.SmallTypes.nextOf (.ref i1) >>= _) _ _ _;have ga:=g1.to (h':=t) λo e=>sa.extBut _ _ D.i1z e;have Y:=s1.to (h':=t) λo e=>sa.extBut _ _ D.l1z e;cases n:xs[n1]? with
 |none=>
  refine cw (Uk J ga Y n λr e S he=>?_);obtain⟨l,h,H⟩:=he;have y:IsZip r z TI TO .ellipsis:=S _ _ D.i1z.symm Z;have f:e≠z:=λq=>by subst q;rw[y]at h;cases h;simp at H
  exact wpAny_setField_rec y (by simp) λp _ sc=>K p e (λc o d _ g _ q=>sc.extBut _ _ d (S _ _ g (sa.extBut _ _ d q))) ⟨l,sc.extBut _ _ f h,H⟩
 |some x=>
  have M:ys[n2]? =none:=by
   rcases j with q|q
   ·rw[n]at q;cases q
   ·exact q
  refine cw (Gh ga Y n λr P S=>cx ?_);have T:IsPair r TO a b:=S.extBut _ _ D.TOi1 (sa.extBut _ _ D.TOz u);refine cw (wpAny_seqItems T rfl (cw (wpAny_updateSeq_pair T λp N sc=>cw (wpAny_letGo (cx ?_)))));refine cw (cw (wpAny_onRaise ?_));show wpAny _ _ (Builtin.SmallTypes.nextOf (.ref i2) >>= _) _ _ _;have up:∀c o,c≠z->c≠i1->c≠TO->s.heap.get? c=some o->p.get? c=some o:=λc o d k g e=>sc.extBut _ _ g (S.extBut _ _ k (sa.extBut _ _ d e));refine cw (Uk J (g2.to λo e=>up _ o D.i2z D.i12.symm D.TOi2.symm e) (s2.to λo e=>up _ o D.l2z D.l2i1 D.l2TO e) M λhd e C he=>?_);obtain⟨l,h,H⟩:=he;have v:IsZip hd z TI TO .ellipsis:=C _ _ D.i2z.symm (sc.extBut _ _ D.TOz.symm (S.extBut _ _ D.i1z.symm Z));have f:e≠z:=λq=>by subst q;rw[v]at h;cases h;simp at H
  exact wpAny_setField_rec v (by simp) λhf _ B=>K hf e (λc o d k g L q=>B.extBut _ _ d (C _ _ L (up c o d g k q))) ⟨l,B.extBut _ _ f h,H⟩
def BM {Q:Option Value->Shared->Prop}(D:ZipApart z TI TO i1 i2 l1 l2)(d:IsZip s.heap z TI TO .none)(H:IsPair s.heap TI (.ref i1) (.ref i2))(h:IsPair s.heap TO a b)
  (g1:jN c1 s.heap i1 l1 n1)(g2:jN c2 s.heap i2 l2 n2)(s1:yv c1 s.heap l1 xs)(s2:yv c2 s.heap l2 ys)(n:xs[n1]? =some x)(l:ys[n2]? =some y)
  (p:∀h',IsZip h' z TI TO (rawInt s.heap.objs.size)->IsPair h' TI (.ref i1) (.ref i2)->IsPair h' TO x y->jN c1 h' i1 l1 (n1+1)->jN c2 h' i2 l2 (n2+1)->IsPair h' s.heap.objs.size x y->
   (∀c o,c≠z->c≠TO->c≠i1->c≠i2->s.heap.get? c=some o->h'.get? c=some o)->Q (some (.ref s.heap.objs.size)) { s with heap:=h' }):wpAny (model prog w) A (pyNext (.ref z)) Q E s:=by
 have hT:s.TypeIs (.ref z) "zip":=⟨_,d,rfl⟩;unfold pyNext;exact cw (wpAny_attempt (wpAny_callSpecial?_slot (name:=Str.ofString "__next__") hT F.slot_zip_next (wpAny_call_entry F.slot_zip_next hT F.entry_zip_next
  (Bc D d H h g1 g2 s1 s2 n l λh' k j i g f e q=>cx (p h' k j i g f e q)) (F.args_zip_next_1 _))))
def CP {Q:Option Value->Shared->Prop}(g:A.handled=none)(D:ZipApart z TI TO i1 i2 l1 l2)(d:IsZip s.heap z TI TO .none)(I:IsPair s.heap TI (.ref i1) (.ref i2))(H:IsPair s.heap TO a b)
  (g1:jN c1 s.heap i1 l1 n1)(g2:jN c2 s.heap i2 l2 n2)(s1:yv c1 s.heap l1 xs)(s2:yv c2 s.heap l2 ys)(h:xs[n1]? =none∨ys[n2]? =none)
  (j:∀h',(∀c o,c≠z->c≠TO->c≠i1->c≠i2->s.heap.get? c=some o->h'.get? c=some o)->Q none { s with heap:=h' }):wpAny (model prog w) A (pyNext (.ref z)) Q E s:=by
 have hT:s.TypeIs (.ref z) "zip":=⟨_,d,rfl⟩;unfold pyNext;refine cw (wpAny_attempt (wpAny_callSpecial?_slot (name:=Str.ofString "__next__") hT F.slot_zip_next (wpAny_call_entry F.slot_zip_next hT F.entry_zip_next (e9 g D d I H g1 g2 s1 s2 h λh' e k he=>?_) (F.args_zip_next_1 _))));obtain⟨o,f,i⟩:=he;exact cw (wpAny_isInstance (T := "StopIteration") (b:=true) ⟨o,f,i⟩ isSubtype_stop (cx (j _ k)))
end
abbrev G9 (h:Heap)(c:Bool)(l:Addr):Heap:=h.push { cls:=.type (JP c),data:=.fields #[.ref l,.int 0 0] }
abbrev G6 (h:Heap)(C c:Bool)(L l:Addr):Heap:=(G9 h C L).push { cls:=.type (JP c),data:=.fields #[.ref l,.int 0 0] }
abbrev G2 (h:Heap)(c C:Bool)(l L:Addr):Heap:=(G6 h c C l L).push { cls:=.type "tuple",data:=.seq #[.ref h.objs.size,.ref (G9 h c l).objs.size] }
abbrev G0 (h:Heap)(C c:Bool)(L l:Addr):Heap:=(G2 h C c L l).push { cls:=.type "tuple",data:=.seq #[.none,.none] }
abbrev YT (h:Heap)(C c:Bool)(L l:Addr):Heap:=(G0 h C c L l).push { cls:=.type "zip",data:=.fields #[.none,.bool false,.bool false,.ref (G6 h C c L l).objs.size,.ref (G2 h C c L l).objs.size] }
def F2 (c C:Bool)(l L:Addr)(xs ys:Array Value):
  Meets (Builtin.«zip.__new__» ⟨[.type "zip",.ref l,.ref L],[]⟩) (λ_ R s=>yv c s.heap l xs/\yv C s.heap L ys/\R (.ok (.ret (.ref (G0 s.heap c C l L).objs.size))) { s with heap:=YT s.heap c C l L }):=
 .of_wp λprog w A R s h=>by
  obtain⟨hp,g,d,tk,os⟩:=s;obtain⟨Q,q,h⟩:=h;have H:=sub_zip;have k1:yv c (Shared.heap ⟨hp,g,d,tk,os⟩) l xs:=Q;have k2:yv C (Shared.heap ⟨hp.push { cls:=.type (JP c),data:=.fields #[.ref l,.int 0 0] },g,d,tk,os⟩) L ys:=q.to λo e=>ae _ e
  wp_walk using OB k1,OB k2
  exact⟨_,rfl,h⟩
section
variable {prog:Program}{A:Around}{c1 c2:Bool}{l1 l2:Addr}{xs ys:Array Value}
def Eu (s1:yv c1 s.heap l1 xs)(s2:yv c2 s.heap l2 ys)
  (h:∀h' n,n=s.heap.objs.size->IsZip h' (n+4) (n+2) (n+3) .none->IsPair h' (n+2) (.ref n) (.ref (n+1))->IsPair h' (n+3) .none .none->jN c1 h' n l1 0->jN c2 h' (n+1) l2 0->
   (∀c o,s.heap.get? c=some o->h'.get? c=some o)->Q (.ref (n+4)) { s with heap:=h' }):wpAny (model prog w) A (call (.type "zip") [.ref l1,.ref l2]) Q E s:=by
 refine callType_new F.called_zip (by decide) (F.typeCall_zip_2 _ _) (F.newCall_zip_2 _ _) (λobj=>F.args_object_init_3 obj _ _) F.entry_zip_new (F2 c1 c2 l1 l2 xs ys) ⟨s1,s2,?_⟩
 have a:(G9 s.heap c1 l1).objs.size=s.heap.objs.size+1:=bf ..;have Z:(G6 s.heap c1 c2 l1 l2).objs.size=s.heap.objs.size+2:=by rw[bf,a]
 have z:(G2 s.heap c1 c2 l1 l2).objs.size=s.heap.objs.size+3:=by rw[bf,Z]
 have b:(G0 s.heap c1 c2 l1 l2).objs.size=s.heap.objs.size+4:=by rw[bf,z]
 have y:(YT s.heap c1 c2 l1 l2).get? (G0 s.heap c1 c2 l1 l2).objs.size=some _:=au _ rfl;have y4:(YT s.heap c1 c2 l1 l2).get? (G2 s.heap c1 c2 l1 l2).objs.size=some _:=ae _ (au _ rfl);have Y:(YT s.heap c1 c2 l1 l2).get? (G6 s.heap c1 c2 l1 l2).objs.size=some _:=ae _ (ae _ (au _ rfl));have d:(YT s.heap c1 c2 l1 l2).get? (G9 s.heap c1 l1).objs.size=some _:=ae _ (ae _ (ae _ (au _ rfl)));have e:(YT s.heap c1 c2 l1 l2).get? s.heap.objs.size=some _:=ae _ (ae _ (ae _ (ae _ (au _ rfl))));show _/\_;rw[Z,z,b]at y;rw[a,Z]at Y;rw[z]at y4;rw[a]at d;rw[b];exact⟨⟨_,y,rfl⟩,h _ _ rfl y Y y4 (.mk ⟨_,e,rfl,rfl⟩) (.mk ⟨_,d,rfl,rfl⟩) λc o q=>
  ae _ (ae _ (ae _ (ae _ (ae _ q))))⟩
end
def Tf (C c:Bool)(K:Frag)(p q:Addr):It:=
 ⟨λi H=>∃xs ys x y,wc C K H p xs/\wc c K H q ys/\xs[i]? =some x/\ys[i]? =some y,
  λi H v h=>∃t x y,(∀xs,wc C K H p xs->xs[i]? =some x)/\(∀ys,wc c K H q ys->ys[i]? =some y)/\H t=none/\v=.ref t/\h=upd H t (.tup [x,y]),
  λi H=>∃xs ys,wc C K H p xs/\wc c K H q ys/\(xs[i]? =none∨ys[i]? =none)⟩
def DS {K:Frag}(c1 c2:Bool)(p q z TI TO t r:Addr)(D:ZipApart z TI TO t r p q):
  Turn P w K (.Tuple elts kk tpos) (Tf c1 c2 K p q) [z,TI,TO,t,r] z (λi h=>IsZip h z TI TO .none/\IsPair h TI (.ref t) (.ref r)/\(∃a b,IsPair h TO a b)/\jN c1 h t p i/\jN c2 h r q i) where
 mem:=by simp
 obj:=λi h st b d=>by
  obtain⟨j,g,⟨T,Q,f⟩,g1,g2⟩:=st;simp only[bQ,bD,or_false]at d;rcases d with rfl|rfl|rfl|rfl|rfl
  ·exact⟨_,j,λv e=>nomatch e⟩
  ·exact⟨_,g,λv e=>nomatch e⟩
  ·exact⟨_,f,λv e=>nomatch e⟩
  ·obtain⟨o,B,_,hd⟩:=g1.ob;exact⟨o,B,λv e=>by rw[hd]at e;cases e⟩
  ·obtain⟨o,B,_,hd⟩:=g2.ob;exact⟨o,B,λv e=>by rw[hd]at e;cases e⟩
 keep:=λi h h' ⟨j,g,⟨T,Q,f⟩,g1,g2⟩ k=>⟨k z (by simp) _ j,k TI (by simp) _ g,⟨T,Q,k TO (by simp) _ f⟩,g1.to λo e=>k t (by simp) o e,g2.to λo e=>k r (by simp) o e⟩
 item:=by
  intro X hP hw hK hc i pins s σ H E I hf st hg;subst hP hw hK;obtain⟨j,g,⟨T,Q,f⟩,g1,g2⟩:=st;obtain⟨xs,ys,x,y,N,M,ex,ey⟩:=hg;obtain⟨n,r1,u,_⟩:=I.sq N;obtain⟨l,r2,S,_⟩:=I.sq M;obtain⟨Y,eu1,ru1⟩:=r1.get ex;obtain⟨U,eu2,Z⟩:=r2.get ey;refine BM D j g f g1 g2 u S (x:=Y) (y:=U) (by simpa using eu1) (by simpa using eu2) λhh z1 z2 z3 z4 z5 z6 kp=>?_
  refine⟨_,rfl,wpAny_letOwnedTupleGo_zip z1 λhk zk J=>?_⟩;have lt:∀{c o},s.heap.get? c=some o->c≠s.heap.objs.size:=λe=>aK (aF e);have T2:IsPair hk s.heap.objs.size Y U:=J.extBut _ _ (lt j).symm z6;have fre:∀b∈[z,TI,TO,t,r],b≠s.heap.objs.size:=λb d=>by
   simp only[bQ,bD,or_false]at d;rcases d with rfl|rfl|rfl|rfl|rfl
   ·exact lt j
   ·exact lt g
   ·exact lt f
   ·obtain⟨o,B,_⟩:=g1.ob;exact lt B
   ·obtain⟨o,B,_⟩:=g2.ob;exact lt B
  refine⟨.ref s.heap.objs.size,upd H s.heap.objs.size (.tup [x,y]),?_,rfl,⟨s.heap.objs.size,x,y,λzs A=>by rw[I.sq_inj A N];exact ex,λzs A=>by rw[I.sq_inj A M];exact ey,I.hok.fresh (av _),rfl,rfl⟩,
   ⟨zk,J.extBut _ _ D.TIz z2,⟨_,_,J.extBut _ _ D.TOz z3⟩,z4.to λo e=>J.extBut _ _ D.i1z e,z5.to λo e=>J.extBut _ _ D.i2z e⟩,λb d=>?_⟩
  ·refine I.spun (fp:=[z,TI,TO,t,r]) (t':=s.toks) (λb o d eo=>?_) hf (av _) ?_
   ·exact J.extBut _ _ (λe=>d (by simp[e])) (kp b o (λe=>d (by simp[e])) (λe=>d (by simp[e])) (λe=>d (by simp[e])) (λe=>d (by simp[e])) eo)
   ·exact⟨by show 2<=sizeLine;decide,[Y,U],.cons ru1 (.cons Z .nil),_,T2,⟨rfl,rfl⟩,0,rfl⟩
  ·show upd H s.heap.objs.size _ b=none
   rw[qk (fre b d)];exact(hf b d).1
 done:=by
  intro X hP hw hK hc i pins s σ H E I hf st hg;subst hP hw hK;obtain⟨j,g,⟨T,Q,f⟩,g1,g2⟩:=st;obtain⟨xs,ys,N,M,L⟩:=hg;obtain⟨n,r1,u,_⟩:=I.sq N;obtain⟨l,r2,S,_⟩:=I.sq M;have C:n.toArray[i]? =none∨l.toArray[i]? =none:=by
   rcases L with e|e
   ·exact .inl (by simpa using r1.none_of e)
   ·exact .inr (by simpa using r2.none_of e)
  exact CP (I.ok.hd hc) D j g f g1 g2 u S C λhh kp=>⟨rfl,I.spun0 (fp:=[z,TI,TO,t,r]) (t':=s.toks) (λb o d eo=>kp b o (λe=>d (by simp[e])) (λe=>d (by simp[e])) (λe=>d (by simp[e])) (λe=>d (by simp[e])) eo) hf⟩
 self:=λ_ _ _ _ _ st h=>wpAny_pyIter_zip st.1 h
section
variable {a b:Expr}{m:Ev}
def fb (K:Frag)(t:TA):TI:=λσ H R=>t σ H λvs H1=>∃p q C c xs ys,vs=[.ref p,.ref q]/\wc C K H1 p xs/\wc c K H1 q ys/\R (Tf C c K p q) H1
def fc {T:TA}(N:Gl X "zip")(hm:X.mg "zip"=none)(P:PA X [a,b] T)(M:starEach [a,b] X.env=(false,eval a X.env)::starEach [b] X.env)(hp:(backTo pos (starEach [b] X.env)).any (·.1)=false):
  PI X (.Tuple elts kk tpos) (.Call (.Name "zip" p) [a,b] [] pos) (fb X.K T):=by
 intro pins s σ H R I h;refine Call_ (QZ I N hm boot_zip (PyProof.Rows.callWith_type1 (zZ (P pos pins s σ H _ I h) λus s1 ⟨vs,H1,g,J,Q⟩=>?_) M hp));obtain⟨p,q,c1,c2,xs,ys,rfl,h1,Y,U⟩:=Q;obtain⟨u1,u2,rfl,k,r⟩:=J.two;cases k;cases r;obtain⟨v,C,d,_⟩:=g.sq h1;obtain⟨u,B,S,_⟩:=g.sq Y;obtain⟨op,t,_⟩:=d.ob;obtain⟨oq,o,_⟩:=S.ob;have L:p<s1.heap.objs.size:=aF t;have l:q<s1.heap.objs.size:=aF o;refine Eu d S λh' n E z A y x Z kp=>wpAny_pyIter_zip z ?_;rw[<- E]at L l;have ne1:∀(i j:Nat),i≠j->n+i≠n+j:=λi j h e=>h (Nat.add_left_cancel e);have ne2:∀(c:Nat)(i:Nat),c<n->c≠n+i:=λc i h e=>absurd h (by rw[e];exact Nat.not_lt.mpr (bF n i))
 have D:ZipApart (n+4) (n+2) (n+3) (n+0) (n+1) p q:=⟨ne1 2 4 (by decide),ne1 3 4 (by decide),ne1 0 4 (by decide),ne1 1 4 (by decide),ne1 2 3 (by decide),ne1 2 0 (by decide),ne1 2 1 (by decide),ne1 3 0 (by decide),ne1 3 1 (by decide),ne1 0 1 (by decide),
  ne2 p 4 L,ne2 p 3 L,ne2 p 0 L,ne2 p 1 L,ne2 q 4 l,ne2 q 3 l,ne2 q 0 l,ne2 q 1 l⟩
 refine⟨n+4,[n+4,n+2,n+3,n,n+1],_,_,H1,rfl,g.kept (t':=s1.toks) kp,DS c1 c2 p q _ _ _ _ _ D,⟨z,A,⟨_,_,y⟩,x,Z⟩,λc w=>?_,U⟩;have f:s1.heap.objs.size<=c:=by
  rw[<- E];simp only[bQ,bD,or_false]at w;rcases w with rfl|rfl|rfl|rfl|rfl
  ·exact bF _ _
  ·exact bF _ _
  ·exact bF _ _
  ·exact av _
  ·exact bF _ _
 exact g.fpOk f (g.hok.fresh f)
noncomputable def zip2:Option W->Option W->Option W
 |some x,some y=>some (.tup [x,y])|_,_=>none
def JZ (w a:W)(n:Nat):jE:=⟨λA i=>match zT w A,zT a A with
 |some us,some vs=>some (zip2 us[i]? vs[i]?)|_,_=>none,n⟩
def fe {K:Frag}{w a:W}{p P:Addr}(q:RV K φ H w (.ref p))(Q:RV K φ H a (.ref P)):ZZ K φ H (JZ w a n) (Tf (Q3 w) (Q3 a) K p P):=λi c C A' lw S=>by
 unfold JZ;dsimp only;cases es:zT w A' with
 |none=>exact⟨λ_ z=>(by cases z),λz=>(by cases z)⟩|some us=>
  cases es':zT a A' with
  |none=>exact⟨λ_ z=>(by cases z),λz=>(by cases z)⟩|some vs=>
   dsimp only;obtain⟨xs,b,f⟩:=Vk q lw S es;obtain⟨ys,h,d⟩:=Vk Q lw S es';have non:∀{us:List W}{xs:List V},zD K c C us xs->us[i]? =none->xs[i]? =none:=λr e=>by
    rw[List.getElem?_eq_none_iff]at e ⊢;rw[<- r.length];exact e
   cases j:us[i]? with
   |none=>exact⟨λ_ z=>(by cases z),λ_=>⟨xs,ys,b,h,.inl (non f j)⟩⟩|some x=>
    cases E:vs[i]? with
    |none=>exact⟨λ_ z=>(by cases z),λ_=>⟨xs,ys,b,h,.inr (non d E)⟩⟩|some y=>
     refine⟨λu z=>?_,λz=>(by cases z)⟩
     cases z;obtain⟨k,f1,f2⟩:=f.get j;obtain⟨v,g,f4⟩:=d.get E;refine⟨⟨xs,ys,k,v,b,h,f1,g⟩,λX H1 ⟨t,D,Y,o,l,s,ex,A⟩=>?_⟩;subst ex A;have g1:=o xs b;have g2:=l ys h;rw[f1]at g1;cases g1;rw[g]at g2;cases g2;obtain⟨a1,a2,B⟩:=QV S s (.cons f2 (.one f4));exact⟨a1,a2,B⟩
def JS (m M:Ev):Ei:=λρ A=>(m ρ A).bind λw A1=>(M ρ A1).bind λa A2=>match zT w A2,zT a A2 with
 |some us,some _=>.ok (JZ w a us.length) A2|_,_=>.bad
variable {K:Frag}{c:Expr}
noncomputable def Q9:Ev:=λ_ A=>.ok (.ref A.length) (A++[.dct []])
noncomputable def UU:W->Option Key
 |.int i=>some (.inl i)|_=>none
noncomputable def wW (k:Key):List (Key×W)->Option W
 |[]=>none|(j,w)::r=>if j=k then some w else wW k r
theorem Pn (k:Key):∀{kvs:List (Key×W)}{us:List (Key×V)},us.map (·.1)=kvs.map (·.1)->zD K φ H (kvs.map (·.2)) (us.map (·.2))->
  (∀w,wW k kvs=some w->∃v,wX us k=some v/\RV K φ H w v)/\(wW k kvs=none->wX us k=none)
 |[],[],_,_=>⟨λw h=>(by cases h),λ_=>rfl⟩|[],_::_,h,_=>by simp at h|_::_,[],h,_=>by simp at h|(j,w)::kvs,(J,v)::us,h,r=>by
  simp only[aN,List.cons.injEq]at h;obtain⟨g,l,e,d,c⟩:=r;simp only[aN,List.cons.injEq]at e;obtain⟨rfl,rfl⟩:=e;have i:=Pn k h.2 c;have b:J=j:=h.1;subst b
  by_cases a:J=k
  ·refine⟨λf hw=>⟨v,VA a,?_⟩,λhn=>?_⟩
   ·unfold wW at hw;rw[ag a]at hw;cases hw;exact d
   ·unfold wW at hn;rw[ag a]at hn;cases hn
  ·unfold wW
   rw[aj a,Vt (p:=(J,v)) a];exact i
theorem zN.dct {A:Hx}{kvs:List (Key×W)}(S:zN K φ A H)(q:RV K φ H (.ref n) v)(e:A[n]? =some (.dct kvs)):∃p us,v=.ref p/\φ[n]? =some p/\H p=some (.dK us)/\us.map (·.1)=kvs.map (·.1)/\zD K φ H (kvs.map (·.2)) (us.map (·.2)):=by
 obtain⟨p,rfl,a⟩:=q;obtain⟨P,h,us,d,c,b⟩:=S.ob n _ e;rw[a]at h;cases h;exact⟨p,us,rfl,a,d,c,b⟩
def zdt:W->W->Hx->R W:=λd k A=>match d,UU k with
 |.ref n,some k=>match A[n]? with
  |some (.dct kvs)=>match wW k kvs with
   |some w=>.ok w A|none=>.bad
  |_=>.bad
 |_,_=>.bad
def Ai:V->List V->Hp->VK->Prop:=λx vs H Q=>∃p us k d,x=.ref p/\vs=[kV k,d]/\H p=some (.dK us)/\us.length<sizeLine/\(∀v,wX us k=some v->Q v H)/\(wX us k=none->Q d (upd H p (.dK (putK us k d))))
def Fx:Th X "dict.setdefault" Ai:=by
 intro pins s σ H x vs v us Q I f g h;obtain⟨p,kvs,k,d,rfl,rfl,hp,y,l,j⟩:=h;cases f;obtain⟨U,u,rfl,i,c⟩:=g.two;obtain⟨z,hd,ws,rel,dd⟩:=N0 I.hok hp;refine call_meetsIn PySem.F.slot_dict_setdefault dd.typeIs PySem.F.entry_dict_setdefault (PySem.F.args_dict_setdefault_3 _ _ _) (kt_meets_setdefault (jx X.prog X.w) p (NY i) hd u) ⟨ws,dd,by rw[<- rel.length];exact z,λv n=>?_,λhn h' D o=>?_⟩
 ·have r:=rel.val k
  rw[n]at r;cases e:wX kvs k with
  |none=>rw[e]at r;exact r.elim|some a=>rw[e]at r;exact⟨a,H,I.tok _,r,l a e⟩
 ·have r:=rel.val k
  rw[hn]at r;cases e:wX kvs k with
  |some a=>rw[e]at r;exact r.elim|none=>
   have b:(putK kvs k d).length<=sizeLine:=by have:=IY kvs k d;omega
   have he:∃q,h'.get? p=some q:=let ⟨q,_,_,t,_⟩:=D;⟨q,t⟩
   exact⟨d,_,CU I (by rw[hp];exact True.intro) o he (d4 b hd (rel.put k c) D),c,j e⟩
noncomputable def Xj (x:W)(A:Hx):Bool:=match x with
 |.ref n=>match A[n]? with
  |some (.dct _)=>true|_=>false
 |_=>false
def Z8:W->W->W->Hx->R W:=λd k v A=>match d,UU k with
 |.ref n,some k=>match A[n]? with
  |some (.dct kvs)=>if kvs.length<zR then(match wW k kvs with
   |some w=>.ok w A|none=>.ok v (A.set n (.dct (kvs++[(k,v)])))) else .bad
  |_=>.bad
 |_,_=>.bad
def YC (g:W->W->W->Hx->R W)(a b c:Ev):Ev:=λρ A=>(a ρ A).bind λx A1=>if Xj x A1 then(b ρ A1).bind λy A2=>(c ρ A2).bind λz d=>g x y z d else .bad
def E8 {A:Hx}{w:W}(S:zN K φ A H)(q:RV K φ H w v)(e:Xj w A=true):Xg K "dict" v H:=by
 unfold Xj at e;cases w with
 |ref n=>
  dsimp only at e;cases E:A[n]? with
  |none=>rw[E]at e;cases e|some o=>cases o with
   |dct ws=>obtain⟨p,us,rfl,_,h,_⟩:=S.dct q E;exact .inr (.inr (.inl ⟨rfl,.inl ⟨us,h⟩⟩))|_=>rw[E]at e;cases e
 |_=>cases e
end
def Tv (d:Addr)(o:Obj)(us:List (Key×V)):It:=
 ⟨λi H=>H d=some (.frz o (.dK us))/\i<us.length,λi H x h=>∃t p,us[i]? =some p/\H t=none/\x=.ref t/\h=upd H t (.tup [kV p.1,p.2]),λi H=>H d=some (.frz o (.dK us))/\us[i]? =none⟩
def fg {k:Key}(h:(jx P w).is k u=true):RelV (kV k) u:=by
 rw[HQ]at h;rcases Zx h with ⟨i,t,rfl,rfl⟩|⟨x,t,rfl,rfl⟩
 ·exact⟨t,rfl⟩
 ·exact⟨t,rfl⟩
theorem KV.at:∀{us:List (Key×V)}{vs:List (Key×Value)}{i:Nat}{p:Key×V},KV us vs->us[i]? =some p->∃u,vs[i]? =some (p.1,u)/\RelV p.2 u
 |[],_,_,_,_,e=>by simp at e|q::us,_,0,p,.cons (b:=b) r t,e=>by
  simp at e;subst e;exact⟨b.2,by simp only[List.getElem?_cons_zero];rw[r.1],r.2⟩
 |q::us,_,i+1,p,.cons r t,e=>by
  obtain⟨u,H,h⟩:=KV.at (i:=i) (p:=p) t (by simpa using e)
  exact⟨u,by simpa using H,h⟩
section
def _root_.L2.Inv.frzD {d:Addr}{o:Obj}{us:List (Key×V)}{f:Nat}(I:Inv X pins σ H s)(h:H d=some (.frz o (.dK us)))(p:∃E,o.data=.dict E f):∃vs,KV us vs/\s.heap.DictAt (jx X.prog X.w) d vs f:=by
 obtain⟨a,z,hd,vs,rel,dd⟩:=I.hok d _ h;obtain⟨i,o',es',e,g,c,r⟩:=dd.dictAt;rw[a]at e;cases e;obtain⟨E,he⟩:=p;have b:=c;rw[he]at b;injection b with k j
 subst j;exact⟨vs,rel,o,es',a,g,c,r⟩
end
def EN:entryFor table "dict_itemiterator.__iter__"=some Builtin.«dict_keyiterator.__iter__»:=entryFor_alias (id' := "dict_keyiterator.__iter__") (by kernel_rfl)
 (by first|rfl|decide +kernel|(unfold String.splitOn;simp +decide [String.splitOnAux])) (by decide +kernel) (by kernel_rfl)
def HE {K:Frag}(d it:Addr)(o:Obj)(us:List (Key×V))(l:Nat)(j:∃U,o.data=.dict U l):
  Turn P w K (.Tuple elts kk tpos) (Tv d o us) [it] it (λi h=>∃ok a,IsItemIter h it d i us.length l ok a) where
 mem:=by simp
 obj:=λi h ⟨ok,a,st⟩ b c=>by
  rw[cC.mp c];exact⟨_,st,λv e=>nomatch e⟩
 keep:=λi h h' ⟨ok,a,st⟩ k=>⟨ok,a,k it (by simp) _ st⟩
 item:=by
  intro X r hw t B i pins s σ H E I hf st n;subst r hw t;obtain⟨ok,a,st⟩:=st;obtain⟨hd,g⟩:=n;obtain⟨vs,rel,D⟩:=I.frzD hd j;obtain⟨u,L,C⟩:=KV.at rel (i:=i) (p:=us[i]) (by simp[g])
  have S:IsItemIter s.heap it d i vs.length l ok a:=by rw[<- rel.length];exact st
  refine wpAny_pyNext_items_item S D L λkey T y M hT hsz kp=>⟨_,rfl,wpAny_letOwnedTupleGo_items M λN q f=>?_⟩;have lt:it<s.heap.objs.size:=aF st;have Y:N.get? s.heap.objs.size=some { cls:=.type "tuple",data:=.seq #[key,u] }:=f.extBut _ _ (bq lt) hT;refine⟨.ref s.heap.objs.size,upd H s.heap.objs.size (.tup [kV us[i].1,us[i].2]),?_,rfl,⟨s.heap.objs.size,us[i],by simp[g],I.hok.fresh (av _),rfl,rfl⟩,⟨_,_,by rw[rel.length];exact q⟩,λb c=>?_⟩
  ·refine I.spun (fp:=[it]) (t':=s.toks) (λb ob c x=>?_) hf (av _) ?_
   ·exact f.extBut _ _ (λz=>c (by simp[z])) (kp b ob (λz=>c (by simp[z])) x)
   ·exact⟨by show 2<=sizeLine;decide,[key,u],.cons (fg y) (.cons C .nil),_,Y,⟨rfl,rfl⟩,0,rfl⟩
  ·show upd H s.heap.objs.size _ b=none
   have bn:b≠s.heap.objs.size:=λz=>by rw[cC.mp c]at z;exact absurd lt (by rw[z];exact aV _)
   rw[qk bn];exact(hf b c).1
 done:=by
  intro X r hw t B i pins s σ H E I hf st n;subst r hw t;obtain⟨ok,a,st⟩:=st;obtain⟨hd,g⟩:=n;obtain⟨vs,rel,D⟩:=I.frzD hd j;have S:IsItemIter s.heap it d i vs.length l ok a:=by rw[<- rel.length];exact st
  have hn:vs[i]? =none:=by
   rw[List.getElem?_eq_none_iff]at g ⊢;rw[<- rel.length];exact g
  exact wpAny_pyNext_items_end (I.ok.hd B) S D hn λT J=>⟨rfl,I.spun0 (fp:=[it]) (t':=s.toks) (λb ob c x=>J b ob (λz=>c (by simp[z])) x) hf⟩
 self:=λA i s Q E ⟨ok,a,st⟩ h=>by
  have hT:s.TypeIs (.ref it) "dict_itemiterator":=⟨_,st,rfl⟩;refine wpAny_pyIter_slot hT F.slot_dict_itemiterator_iter (wpAny_call_entry F.slot_dict_itemiterator_iter hT EN ?_ (F.args_dict_itemiterator_iter_1 _));show wpAny _ _ (ret (.ref it)) _ _ s;exact cx ⟨_,rfl,"dict_itemiterator",_,hT,F.slot_dict_itemiterator_next.lookup,h⟩
section
variable {a b:Expr}{m:Ev}
def Ar (td:TE):TI:=λσ H R=>td σ H λx H1=>∃d us,x=.ref d/\H1 d=some (.dK us)/\∀o,R (Tv d o us) (upd H1 d (.frz o (.dK us)))
def DA {apos:Pos}{td:TE}(u:PE X a td)(i:attributeBase a "items" X.env (eval a X.env)=eval a X.env)(g:(apos.endLine==cpos.line)=true):
  PI X (.Tuple elts kk tpos) (.Call (.Attribute a "items" apos) [] [] cpos) (Ar td):=by
 intro pins s σ H R I h;refine wpAny_Call_method0_late i g (zZ (u pins s σ H _ I h) λv s1 ⟨x,H1,l,n,d,us,ex,hd,q⟩=>?_);subst ex;cases n;obtain⟨z,f,vs,rel,dd⟩:=N0 l.hok hd;obtain⟨o,k,p,c,hex,t,r⟩:=id dd;refine⟨"dict","dict.items",PySem.F.plainAttrs_dict,PySem.F.slot_dict_items,PySem.F.type_dict_items,dd.typeIs,λb E=>by cases E;exact⟨o,c,hex.2.1⟩,Calls.callWith_builtin rfl (PySem.evalArgs_none ?_)⟩
 refine call_meetsIn PySem.F.slot_dict_items dd.typeIs PySem.F.entry_dict_items (PySem.F.args_dict_items_1 _) (meets_dict_items (jx X.prog X.w) d f) ⟨⟨vs,dd⟩,?_⟩;have A:Inv X pins σ (upd H1 d (.frz o (.dK us))) { s1 with heap:=s1.heap,toks:=s1.toks }:=l.write (x:=d) (e:=d) (o:=.frz o (.dK us)) (t':=s1.toks) (h':=s1.heap) (by rw[hd];exact True.intro) (.inl rfl) (λ_ _ _ q=>q) ⟨o,c⟩ ⟨c,z,f,vs,rel,dd⟩
 have j:Inv X pins σ (upd H1 d (.frz o (.dK us))) { s1 with heap:=s1.heap.push { cls:=.type "dict_items",data:=.fields #[.ref d] } }:=A.kept (t':=s1.toks) λb ob q=>ae _ q
 have D:(s1.heap.push { cls:=.type "dict_items",data:=.fields #[.ref d] }).DictAt (jx X.prog X.w) d vs p:=⟨o,k,ae _ c,hex,t,r⟩;refine wpAny_pyIter_items (s:={ s1 with heap:=s1.heap.push { cls:=.type "dict_items",data:=.fields #[.ref d] } }) ⟨_,au _ rfl,rfl,rfl⟩ D ?_
 refine⟨_,[_],_,_,_,rfl,j.kept (t':=s1.toks) λb ob q=>ae _ q,HE d _ o us p ⟨k,t⟩,⟨.none,.none,?_⟩,λb y=>?_,q o⟩
 ·rw[rel.length];exact au _ rfl
 ·have E:=cC.mp y
  subst E;exact j.fpOk (av _) (j.hok.fresh (av _))
noncomputable def kW:Key->W
 |.inl i=>.int i|.inr x=>.str x
def YQ (kvs:List (Key×W)):jE:=⟨λ_ i=>some (kvs[i]?.map λp=>.tup [kW p.1,p.2]),kvs.length⟩
def KC (m:Ev):Ei:=λρ A=>match A with
 |[]=>(m ρ []).bind λw A1=>match w,A1 with
  |.ref 0,[.dct kvs]=>if jl (kvs.map (·.2)) then .ok (YQ kvs) [] else .bad|_,_=>.bad
 |_=>.bad
def fh {K:Frag}{d:Addr}{o:Obj}{us:List (Key×V)}{kvs:List (Key×W)}(hd:H d=some (.frz o (.dK us)))(f:us.map (·.1)=kvs.map (·.1))(A:zD K φ H (kvs.map (·.2)) (us.map (·.2)))(n:jl (kvs.map (·.2))=true):
  ZZ K φ H (YQ kvs) (Tv d o us):=λi a g A' lw S=>by
 unfold YQ;dsimp only;have h:=lw.fz d o _ hd;have E:zD K a g (kvs.map (·.2)) (us.map (·.2)):=A.nrm lw.tp lw.fz n;have l:us.length=kvs.length:=by have:=congrArg List.length f;simpa using this
 cases e:kvs[i]? with
 |none=>
  refine⟨λ_ z=>(by cases z),λ_=>⟨h,?_⟩⟩
  rw[List.getElem?_eq_none_iff]at e ⊢;rw[l];exact e
 |some p=>
  have r:i<kvs.length:=(cA.mp e).1;refine⟨λu z=>?_,λz=>(by cases z)⟩
  cases z;refine⟨⟨h,by rw[l];exact r⟩,λx H1 ⟨t,q,b,j,ex,y⟩=>?_⟩
  subst ex y;have k1:q.1=p.1:=by
   have a1:(us.map (·.1))[i]? =some q.1:=by simp[b]
   rw[f]at a1;simp[e]at a1;exact a1.symm
  have a2:(kvs.map (·.2))[i]? =some p.2:=by simp[e]
  obtain⟨v,c,w⟩:=E.get a2;have s:v=q.2:=by simp[b]at c;exact c.symm
  subst s;rw[k1];have k:RV K a g (kW p.1) (kV p.1):=by cases p.1<;>rfl
  obtain⟨D,C,B⟩:=QV S j (.cons k (.one w));exact⟨D,C,B⟩
end
mutual
noncomputable def W.beq:W->W->Bool
 |.non,.non=>true|.bl a,.bl b=>a==b|.int a,.int b=>decide (a=b)|.str a,.str b=>decide (a=b)|.tup a,.tup b=>K0 a b|_,_=>false
noncomputable def K0:List W->List W->Bool
 |[],[]=>true|a::as,b::bs=>a.beq b&&K0 as bs|_,_=>false
end
mutual
theorem W.eq_of:∀{a b:W},a.beq b=true->a=b
 |.non,.non,_=>rfl|.bl a,.bl b,h=>by have h':(a==b)=true:=h;rw[aM]at h';rw[h']|.int a,.int b,h=>by have h':decide (a=b)=true:=h;rw[ao]at h';rw[h']|.str a,.str b,h=>by have h':decide (a=b)=true:=h;rw[ao]at h';rw[h']|.tup a,.tup b,h=>by have h':K0 a b=true:=h;rw[NF h']|.non,.bl _,h=>nomatch h|.non,.int _,h=>nomatch h|.non,.str _,h=>nomatch h|.non,.tup _,h=>nomatch h|.non,.ref _,h=>nomatch h
 |.bl _,.non,h=>nomatch h|.bl _,.int _,h=>nomatch h|.bl _,.str _,h=>nomatch h|.bl _,.tup _,h=>nomatch h|.bl _,.ref _,h=>nomatch h
 |.int _,.non,h=>nomatch h|.int _,.bl _,h=>nomatch h|.int _,.str _,h=>nomatch h|.int _,.tup _,h=>nomatch h|.int _,.ref _,h=>nomatch h
 |.str _,.non,h=>nomatch h|.str _,.bl _,h=>nomatch h|.str _,.int _,h=>nomatch h|.str _,.tup _,h=>nomatch h|.str _,.ref _,h=>nomatch h
 |.tup _,.non,h=>nomatch h|.tup _,.bl _,h=>nomatch h|.tup _,.int _,h=>nomatch h|.tup _,.str _,h=>nomatch h|.tup _,.ref _,h=>nomatch h
 |.ref _,.non,h=>nomatch h|.ref _,.bl _,h=>nomatch h|.ref _,.int _,h=>nomatch h|.ref _,.str _,h=>nomatch h|.ref _,.tup _,h=>nomatch h|.ref _,.ref _,h=>nomatch h
theorem NF:∀{a b:List W},K0 a b=true->a=b
 |[],[],_=>rfl|a::as,b::bs,h=>by
  have h':(a.beq b&&K0 as bs)=true:=h;rw[ar]at h';rw[W.eq_of h'.1,NF h'.2]
 |[],_::_,h=>nomatch h
 |_::_,[],h=>nomatch h
end
section
variable {K:Frag}
def FD (K:Frag)(x:Str)(st:Stmt):Prop:=∃f fd,w6 K x x st f fd/\nsIn K mainGlobals x=some (some (.ref f))
def zch {st:Stmt}{b:Value}{o an:cq}{kV doc pm C ct:Value}(a:nsIn K mainGlobals x=some (some (.ref f)))
  (l:K.lookup f=some ⟨b,o,.func (fnOf x x (QP st) (wz st) (qE st) .none kV doc pm an C ct),osl⟩)(c:codeIn K C x=true)(k:keepIn K (.ref f)=true):FD K x st:=⟨f,_,d0 l c k,a⟩
def CD (K:Frag)(x:Str)(i:Int):Prop:=∃t,nsIn K mainGlobals x=some (some (.int i t))
def zbC {i:Int}{t:Tok}(a:nsIn K mainGlobals x=some (some (.int i t))):CD K x i:=⟨t,a⟩
end
open PySem PySem.Spec PyProof.Rows L2 Mi
@[irreducible] noncomputable def zA (X:Cx)(x:XR)(e:Expr)(m:Ev):Prop:=Mi.SE X x e m
def Gz:@zA=@Mi.SE:=by
 funext X xr e m
 unfold zA
 rfl
@[irreducible] noncomputable def gC (X:Cx)(x:XR)(e:cc)(m:Ea):Prop:=Mi.SA X x e m
def Us:@gC=@Mi.SA:=by
 funext X xr es m
 unfold gC
 rfl
@[irreducible] noncomputable def yR (X:Cx)(x:XR)(e:Expr)(m:Ev):Prop:=Mi.ST X x e m
def Ut:@yR=@Mi.ST:=by
 funext X xr e m
 unfold yR
 rfl
@[irreducible] noncomputable def gR (X:Cx)(x:XR)(e:Expr)(m:Ev):Prop:=Mi.SW X x e m
def Ue:@gR=@Mi.SW:=by
 funext X xr e m
 unfold gR
 rfl
@[irreducible] noncomputable def kO (X:Cx)(x:XR)(st:Stmt)(m:Ex):Prop:=Mi.SS X x st m
def Ur:@kO=@Mi.SS:=by
 funext X xr st m
 unfold kO
 rfl
@[irreducible] noncomputable def wa (X:Cx)(x:XR)(st:cu)(m:Ex):Prop:=Mi.K8 X x st m
def VN:@wa=@Mi.K8:=by
 funext X xr st m
 unfold wa
 rfl
@[irreducible] noncomputable def wj (X:Cx)(x:XR)(t e:Expr)(m:Ei):Prop:=Mi.SI X x t e m
def Up:@wj=@Mi.SI:=by
 funext X xr tg e m
 unfold wj
 rfl
@[irreducible] noncomputable def wg (X:Cx)(t:Expr)(m:Tg):Prop:=Mi.SG X t m
def V8:@wg=@Mi.SG:=by
 funext X tg m
 unfold wg
 rfl
@[irreducible] noncomputable def Qz (X:Cx)(x:XR)(e:Expr)(m:ym):Prop:=Mi.SF X x e m
def V7:@Qz=@Mi.SF:=by
 funext X xr e m
 unfold Qz
 rfl
@[irreducible] noncomputable def gY (X:Cx)(x:XR)(e:Expr)(m:ym):Prop:=Mi.SQ X x e m
def V9:@gY=@Mi.SQ:=by
 funext X xr e m
 unfold gY
 rfl
@[irreducible] noncomputable def Zk (X:Cx)(e:cc)(m:Ev):Prop:=Mi.YV X e m
def VV:@Zk=@Mi.YV:=by
 funext X es m
 unfold Zk
 rfl
@[irreducible] noncomputable def gZ (X:Cx)(elt:Expr)(gens:List Comprehension)(sc:Scope)(c:Pos)(d:Nat)(em:Em):Prop:=Mi.SM X elt gens sc c d em
def Uc:@gZ=@Mi.SM:=by
 funext X elt gens sc cpos d em
 unfold gZ
 rfl
section
variable {xr:XR}{K:Frag}{a b c:Expr}{es:cc}{m ma mb mc:Ev}{m1 m2:Ex}{st:Stmt}{rest:cu}
def qc:@zA=@Mi.SE/\@gC=@Mi.SA/\@yR=@Mi.ST/\@gR=@Mi.SW/\@kO=@Mi.SS/\@wa=@Mi.K8/\@wj=@Mi.SI/\@wg=@Mi.SG/\@Qz=@Mi.SF/\@gY=@Mi.SQ/\@Zk=@Mi.YV/\@gZ=@Mi.SM:=⟨Gz,Us,Ut,Ue,Ur,VN,Up,V8,V7,V9,VV,Uc⟩
def zm {M:Ea}(d:zA X xr e ma)(r:gC X xr es M)(s:starEach (e::es) X.env=(false,eval e X.env)::starEach es X.env:=by rfl):gC X xr (e::es) (zc ma M):=by
 try simp only[qc]at*
 exact PA.imp (jG d r s) λσ H Q ⟨φ,A,ρ,S,re,h⟩=>by
   refine tM.go S re (qa.mp h) λw A1 b H1 v g l j c=>?_;refine Xv.go j (re.mono l) (qA (qa.mp g) (λ_ _ z=>z) λ_ _ z=>z.mono l) λn A2 a k v2 f L i q=>?_;exact f a k _ (l.trans L) i (.cons (c.mono L) q)
def zx:gC X xr [] zl:=by
 try simp only[qc]at*
 exact PA.imp yy λσ H Q ⟨φ,A,ρ,S,re,h⟩=>h φ H [] .refl S .nil
def ju (H:zA X xr a ma)(h:zA X xr b mb):zA X xr (.BinOp a .Add b pos) (zi zY ma mb):=by
 try simp only[qc]at*
 exact JE (AI.or (Bf.or (DO.or dY))) AY Af H h
def Ko {q:ym}(H:X.calm=true)(hm:X.mg "all"=none)(a:gY X xr e q)(h:Gl X "all":=by rfl)(he:starEach [e] X.env=(false,eval e X.env)::starEach [] X.env:=by rfl):
  zA X xr (.Call (.Name "all" p) [e] [] pos) (mQ Qn q):=by
 try simp only[qc]at*
 exact UN (D6 H) eH Bk hm (by rfl) a h (by decide) (by decide) he (by rfl)
def ZI {rest:cc}(f:zA X xr a ma)(e:zA X xr (.BoolOp .And (b::rest) pos) mb):zA X xr (.BoolOp .And (a::b::rest) pos) (yj ma mb):=by
 try simp only[qc]at*
 exact PE.imp (cV f e) λσ H Q ⟨φ,A,ρ,S,re,h⟩=>by
   refine tM.go S re (qa.mp h) λw A1 d H1 v c l s q=>?_;cases w with
   |bl k=>
    refine⟨k,q,?_⟩;cases k with
    |true=>rw[ag rfl];exact⟨d,A1,ρ,s,re.mono l,qA c (λ_ _ z=>z.mono l) λ_ _ z=>z.mono l⟩|false=>rw[aj aA];exact c d H1 _ l s rfl
   |non=>cases c|int _=>cases c|str _=>cases c|tup _=>cases c|ref _=>cases c|clo _ _ _=>cases c|xc _=>cases c
def ka {i j}:zA X xr (.Constant (.bool i) j pos) (zo (.bl i)):=by
 try simp only[qc]at*
 exact PE.imp cM λσ H Q ⟨φ,A,ρ,S,r,h⟩=>h φ H _ .refl S rfl
def kU {g:W->W->Hx->R W}(h:wQ X op g)(c:zA X xr a ma)(H:zA X xr b mb)(e:op≠.In:=by decide)(d:op≠.NotIn:=by decide):zA X xr (.Compare a [op] [b] pos) (zi g ma mb):=by
 try simp only[qc]at*
 exact let ⟨r,a1,a2,A⟩:=h.ex;Nv a1 a2 A c H (h.mks b e d)
def fi {o:CmpOp}{g g':W->W->Hx->R W}(h:wQ X op g)(h':wQ X o g')(e:zA X xr a ma)(d:zA X xr b mb)(H:zA X xr c mc)(hm:lastMarks [op,o] [b,c]=false:=by with_unfolding_all rfl):
  zA X xr (.Compare a [op,o] [b,c] pos) (kL g g' ma mb mc):=by
 try simp only[qc]at*
 exact let ⟨r,a1,a2,A⟩:=h.ex;let ⟨j,i,f,B⟩:=h'.ex;E4 a1 a2 A i f B e d H hm
def qu {f:Fn}{M:Ea}(F:zS X.prog X.w X.K X.mg X.base k x n f)(r:jv k X.A)(s:gC X ko (e::es) M)(g:Qo M n:=by repeat' (first|exact zJ|refine zp ?_))(j:Gl X x:=by rfl)
  (c:(x==("__debug__":Str))=false:=by decide)(he:starEach (e::es) X.env=(false,eval e X.env)::starEach es X.env:=by rfl)(l:(backTo pos (starEach es X.env)).any (·.1)=false:=by rfl):
  zA X ko (.Call (.Name x p) (e::es) [] pos) (zF f M):=by
 try simp only[qc]at*
 obtain⟨B,fd,ps,F,hm,i,o⟩:=F;refine PE.imp (OU F r j hm i o .nil dZ s c he l) λσ H Q ⟨φ,A,ρ,S,re,h⟩=>?_;have h':=qa.mp h;refine⟨φ,A,ρ,S,re,?_⟩;cases E:M ρ A with
 |ok ws A1=>
  rw[E]at h';intro b H1 vs L u q;have v:vs.length=n:=by rw[<- q.length];exact g ρ A ws A1 E
  rw[bx];exact⟨v,b,A1,ws,u,q,qA h' (λ_ _ z=>z.mono L) λx A2 z a y d t=>(z a y (L.trans d) t).elim⟩
 |exc x A1=>rw[E]at h';exact h'|bad=>rw[E]at h';exact h'
def O7 {g:W->W->Hx->R W}(h:KS X op g)(c:zA X xr a ma)(H:zA X xr b mb)(hm:behindInMarks op b=false:=by rfl):zA X xr (.Compare a [op] [b] pos) (zi g ma mb):=by
 try simp only[qc]at*
 exact let ⟨r,a1,a2,A⟩:=h.ex;Nv a1 a2 A c H hm
def VZ:zA X xr (.Dict [] [] pos) Q9:=by
 try simp only[qc]at*
 exact PE.imp D7 λσ H Q ⟨φ,A,ρ,S,re,h⟩ p hp=>by
  obtain⟨l,s⟩:=S.alloc (o:=.dct []) hp (u:=.dK []) ⟨[],jA,rfl,.nil⟩;exact h _ _ _ l s ⟨p,rfl,by rw[<- S.len];simp⟩
def DJ {i:Int}{t:Tok}(g:Gl X x)(hm:X.mg x=some (.int i t))(hd:(x==("__debug__":Str))=false:=by decide):zA X xr (.Name x pos) (zo (.int i)):=by
 try simp only[qc]at*
 exact PE.imp (CF g hm (v:=.int i) ⟨t,rfl⟩ hd) λσ H Q ⟨φ,A,ρ,S,r,h⟩=>h φ H _ .refl S rfl
def fj {c:Expr}(f:yR X xr c mc)(i:zA X xr a ma)(g:zA X xr b mb):zA X xr (.IfExp c a b pos) (Mx mc ma mb):=by
 try simp only[qc]at*
 exact PE.imp (Dg f i g) λσ H Q ⟨φ,A,ρ,S,re,h⟩=>by
   refine tT.go S re (qa.mp h) λw A1 d=>?_;cases w with
   |bl k=>
    refine⟨k,rfl,λe H1 l s=>?_⟩;cases k with
    |true=>rw[ag rfl];exact⟨e,A1,ρ,s,re.mono l,qA d (λ_ _ z=>z.mono l) λ_ _ z=>z.mono l⟩|false=>rw[aj aA];exact⟨e,A1,ρ,s,re.mono l,qA d (λ_ _ z=>z.mono l) λ_ _ z=>z.mono l⟩
   |non=>cases d|int _=>cases d|str _=>cases d|tup _=>cases d|ref _=>cases d|clo _ _ _=>cases d|xc _=>cases d
def zt {i j}:zA X xr (.Constant (.int i) j pos) (zo (.int i)):=by
 try simp only[qc]at*
 exact PE.imp cL λσ H Q ⟨φ,A,ρ,S,r,h⟩=>h φ H _ .refl S rfl
def gj (t:Ty){P:Pos}(hm:X.mg "isinstance"=none)(c:X.mg x=none)(f:bootBuiltins x=some (.type t.nm))(i:zA X xr e m)(g:Gl X "isinstance":=by rfl)(d:Gl X x:=by rfl)
  (hn:x ≠ "__name__":=by decide)(hd:(x==("__debug__":Str))=false:=by decide)
  (a:starEach [e,.Name x P] X.env=(false,eval e X.env)::starEach [.Name x P] X.env:=by rfl)(j:(backTo pos (starEach [.Name x P] X.env)).any (·.1)=false:=by rfl):
  zA X xr (.Call (.Name "isinstance" p) [e,.Name x P] [] pos) (yS t m):=by
 try simp only[qc]at*
 exact PE.imp (QO Bm g hm (by rfl) (jG i (jG (Gk d c f (v:=.ty t.nm) rfl hn hd) yy) a) (by decide) (by decide) a j) λσ H Q ⟨φ,A,ρ,S,re,h⟩=>by
   refine tM.go S re (qa.mp h) λw A1 b H1 v a l s q=>?_;cases E:jO w A1 with
   |none=>rw[E]at a;exact a.elim|some t'=>
    rw[E]at a;exact⟨v,t',t,rfl,PX s q E,a b H1 _ l s rfl⟩
def qj (c:zA X xr a ma)(H:zA X xr b mb)(h:OE b:=by intro _ _;rfl):zA X xr (.Subscript a b pos) (zi zy ma mb):=by
 try simp only[qc]at*
 exact PE.imp (dR AA c H h) (zi.read eD eE)
def yZ {q:ym}(hm:X.mg "len"=none)(H:gY X xr e q)(h:Gl X "len":=by rfl)(he:starEach [e] X.env=(false,eval e X.env)::starEach [] X.env:=by rfl):
  zA X xr (.Call (.Name "len" p) [e] [] pos) (mQ qt q):=by
 try simp only[qc]at*
 exact UN Iq (λ_ _=>jY) CL hm (by rfl) H h (by decide) (by decide) he (by rfl)
def yo {q:ym}(h:Qz X xr e q):zA X xr e (qg q):=by
 try simp only[qc]at*
 exact PE.imp h qg.read
def HR {P pos':Pos}(o:X.calm=true)(hm:X.mg "list"=none)(f:X.mg "range"=none)(t:zA X xr a ma)(n:Gl X "list":=by rfl)(g:Gl X "range":=by rfl)(s:starEach [a] X.env=[(false,eval a X.env)]:=by rfl)
  (d:starEach [.Call (.Name "range" P) [a] [] pos'] X.env=(false,eval (.Call (.Name "range" P) [a] [] pos') X.env)::starEach [] X.env:=by rfl):
  zA X xr (.Call (.Name "list" p) [.Call (.Name "range" P) [a] [] pos'] [] pos) (Kq ma):=by
 try simp only[qc]at*
 exact PE.imp (Yn (HY o) n hm (by rfl) (jG (CG g f (jG t yy (by rw[s];rfl)) s) yy d) (by decide) (by decide) d (by rfl)) λσ H Q ⟨φ,A,ρ,S,re,h⟩=>by
   refine tM.go S re (qa.mp h) λw A1 b H1 v c L y q=>?_;cases w with
   |int j=>
    obtain rfl:=q;dsimp only at c
    by_cases e:(yg j&&decide (j.toNat<=zR))=true
    ·rw[ag e]at c
     rw[ar,ao]at e;refine⟨j,rfl,λp hp=>⟨p,j,rfl,jA,Yj e.1,g8 e.2,λl k=>?_⟩⟩;have ln:Le X.K b H1 b (upd H1 p (.rng 0 j)):=Le.new hp;have r:zD X.K b (upd H1 p (.rng 0 j)) ((List.range j.toNat).map λ(i:Nat)=>W.int i) (JY j.toNat):=by
      have:=(zD.ints (K:=X.K) (φ:=b) (H:=upd H1 p (.rng 0 j)) (ns:=(List.range j.toNat).map λ(i:Nat)=>(i:Int)) (vs:=JY j.toNat)).mpr (by unfold JY;simp)
      rw[aL]at this;exact this
     obtain⟨x,u,B⟩:=QU (y.lay hp) k r;exact c _ _ _ ((L.trans ln).trans x) u B
    ·rw[aj e]at c;exact c.elim
   |_=>exact c.elim
def q9 {M:Ea}(h:gC X xr es M)(H:Qo M n)(hn:n<=zR:=by decide):zA X xr (.List es pos) (zU M):=by
 try simp only[qc]at*
 exact eg h λρ A ws A' e=>by rw[H ρ A ws A' e];exact g8 hn
def QL {q:ym}(H:X.calm=true)(hm:X.mg "max"=none)(a:gY X xr e q)(h:Gl X "max":=by rfl)(he:starEach [e] X.env=(false,eval e X.env)::starEach [] X.env:=by rfl):
  zA X xr (.Call (.Name "max" p) [e] [] pos) (mQ yz q):=by
 try simp only[qc]at*
 exact UN (FH H) eQ BN hm (by rfl) a h (by decide) (by decide) he (by rfl)
def Vx (e:X.calm=true)(hm:X.mg "min"=none)(n:zA X xr a ma)(k:zA X xr b mb)(l:Gl X "min":=by rfl)(r:starEach [a,b] X.env=(false,eval a X.env)::starEach [b] X.env:=by rfl)(o:starEach [b] X.env=(false,eval b X.env)::starEach [] X.env:=by rfl)(h:(backTo pos (starEach [b] X.env)).any (·.1)=false:=by rfl):
  zA X xr (.Call (.Name "min" p) [a,b] [] pos) (zi Q4 ma mb):=by
 try simp only[qc]at*
 exact UI (FX e) Q5 (λφ A H x y u v Q S d c p=>by
   obtain⟨i,j,s,E,q⟩:=QX (K:=X.K) (f:=λi j=>.int (if j<i then j else i)) (g:=λi j=>.int (if j<i then j else i)) (λ_ _ _ _=>rfl) φ A H x y u v Q S d c p;subst s;subst E;exact⟨i,j,rfl,q⟩) hm (by rfl) n k l (by decide) (by decide) r o h
def QR (H:zA X xr a ma)(h:zA X xr b mb):zA X xr (.BinOp a .Mod b pos) (zi wC ma mb):=by
 try simp only[qc]at*
 exact JE dw UD (Ul CA λ_ _ _ _=>rfl) H h
def wu (H:zA X xr a ma)(h:zA X xr b mb):zA X xr (.BinOp a .Mult b pos) (zi jd ma mb):=by
 try simp only[qc]at*
 exact JE (dv.or AB) eL C9 H h
def Kw (h:zA X xr a ma):zA X xr (.UnaryOp .USub a pos) (jn wF ma):=by
 try simp only[qc]at*
 exact ed dA (λx A=>by unfold wF;split;exact jY;exact qP) (λφ A H x u Q S q p=>by
  cases u with
  |int i=>obtain rfl:=q;exact⟨i,rfl,p φ H _ .refl S rfl⟩|_=>exact p.elim) h
def Z9 {j}:zA X xr (.Constant .none j pos) (zo .non):=by
 try simp only[qc]at*
 exact PE.imp Aw λσ H Q ⟨φ,A,ρ,S,r,h⟩=>h φ H _ .refl S rfl
def Ow (d:zA X xr a ma):zA X xr (.UnaryOp .Not a pos) (yc ma):=by
 try simp only[qc]at*
 exact PE.imp (cW d) λσ H Q ⟨φ,A,ρ,S,re,h⟩=>by
   refine tM.go S re (qa.mp h) λw A1 c H1 v b l s q=>?_;cases w with
   |bl k=>exact⟨k,q,b c H1 _ l s rfl⟩|non=>cases b|int _=>cases b|str _=>cases b|tup _=>cases b|ref _=>cases b|clo _ _ _=>cases b|xc _=>cases b
def QT {op}(h:zA X xr a ma):zA X xr (.BoolOp op [a] pos) ma:=by
 try simp only[qc]at*
 exact AJ h
def Hl {apos:Pos}(ho:zA X xr a ma)(he:zA X xr b mb)(hf:zA X xr c mc)(k:starEach [b,c] X.env=(false,eval b X.env)::starEach [c] X.env:=by rfl)(N:starEach [c] X.env=(false,eval c X.env)::starEach [] X.env:=by rfl)
  (j:attributeBase a "setdefault" X.env (eval a X.env)=eval a X.env:=by rfl)
  (r:((backTo cpos (starEach [b,c] X.env)).all (λx=>!x.1)&&(backToKw cpos (keywordEach [] X.env)).all (λx=>x.1.isSome)
   && decide ([b,c].length+([]:cn).length+(if ([]:cn).isEmpty then 0 else 1)<30))=true:=by rfl)(g:(apos.endLine==cpos.line)=true:=by rfl)(M:(backTo cpos (starEach [c] X.env)).any (·.1)=false:=by rfl):
  zA X xr (.Call (.Attribute a "setdefault" apos) [b,c] [] cpos) (YC Z8 ma mb mc):=by
 try simp only[qc]at*
 exact PE.imp (NO PySem.F.plainAttrs_dict PySem.F.slot_dict_setdefault PySem.F.type_dict_setdefault Fx ho (jG he (jG hf yy N) k) j r g k M) λσ H Q ⟨φ,A,ρ,S,re,h⟩=>by
   refine tM.go S re (qa.mp h) λw A1 φ1 H1 v k D S1 q1=>?_
   by_cases hd:Xj w A1=true
   ·rw[ag hd]at k
    refine⟨E8 S1 q1 hd,?_⟩;refine tM.go S1 (re.mono D) (qA (qa.mp k) (λ_ _ z=>z) λ_ _ z=>z.mono D) λt A2 φ2 H2 v2 N l2 S2 q2=>?_;have l:=D.trans l2;refine tM.go S2 (re.mono l) (qA (qa.mp N) (λ_ _ z=>z) λ_ _ z=>z.mono l) λw3 A3 f T q d l3 P Z=>?_;have L:=l.trans l3;unfold Z8 at d;cases w with
    |ref n=>cases t with
     |int i=>
      obtain rfl:=q2;dsimp only[UU]at d;cases s:A3[n]? with
      |none=>rw[s]at d;exact d.elim|some o=>cases o with
       |dct kvs=>
        rw[s]at d;dsimp only at d;obtain⟨p,us,rfl,f1,g1,g2,g3⟩:=P.dct ((q1.mono l2).mono l3) s;have hlen:us.length=kvs.length:=by have:=congrArg List.length g2;simpa using this
        by_cases I:kvs.length<zR
        ·rw[ag I]at d
         have C:=Pn (.inl i) g2 g3;refine⟨p,us,.inl i,q,rfl,rfl,g1,?_,λv' J=>?_,λhn=>?_⟩
         ·rw[hlen]
          have:sizeLine=16777216:=sizeLine_eq
          unfold zR at I;omega
         ·cases E:wW (.inl i) kvs with
          |none=>rw[C.2 E]at J;cases J|some y=>
           rw[E]at d;obtain⟨B,e,Y⟩:=C.1 y E;rw[J]at e;cases e;exact d f T _ L P Y
         ·cases E:wW (.inl i) kvs with
          |some y=>obtain⟨B,e,Y⟩:=C.1 y E;rw[hn]at e;cases e|none=>
           rw[E]at d;dsimp only at d;rw[Cd q hn];have ln:Le X.K f T f (upd T p (.dK (us++[(.inl i,q)]))):=Le.upd f1 (λxs z=>by rw[g1]at z;cases z) (λ_ _ z=>by rw[g1]at z;cases z)
           obtain⟨U,t⟩:=P.write (o:=.dct kvs) (o':=.dct (kvs++[(.inl i,w3)])) s rfl rfl f1 (u:=.dK (us++[(.inl i,q)])) ⟨us++[(.inl i,q)],jA,by simp[g2],by
            rw[aR,aR];exact(g3.mono ln).append (.one (Z.mono ln))⟩
           exact d _ _ _ (L.trans U) t (Z.mono U)
        ·rw[aj I]at d;exact d.elim
       |_=>rw[s]at d;exact d.elim
     |_=>exact d.elim
    |_=>exact d.elim
   ·rw[aj hd]at k;exact k.elim
def Qb (H:zA X xr a ma)(h:zA X xr b mb):zA X xr (.BinOp a .Sub b pos) (zi kN ma mb):=by
 try simp only[qc]at*
 exact JE du Q5 (QX λ_ _ _ _=>rfl) H h
def qi {x1}{M:Ea}(h:gC X xr es M)(b:Qo M n)(hn:n<=zR:=by decide):zA X xr (.Tuple es x1 pos) (zE M):=by
 try simp only[qc]at*
 exact PE.imp (Ni h) λσ H Q ⟨φ,A,ρ,S,re,h⟩=>by
   have h':=qa.mp h;cases e:M ρ A with
   |ok ws A'=>
    rw[e]at h';refine⟨φ,A,ρ,S,re,?_⟩;rw[e];intro a H1 vs l s q;refine⟨by rw[<- q.length,b ρ A ws A' e];exact g8 hn,λp hp=>?_⟩
    obtain⟨a1,a2,c⟩:=QV s hp q;exact h' _ _ _ (l.trans a1) a2 c
   |exc x A'=>rw[e]at h';refine⟨φ,A,ρ,S,re,?_⟩;rw[e];exact h'|bad=>rw[e]at h';exact h'.elim
def Z6 {q:ym}(hm:X.mg "tuple"=none)(H:gY X xr e q)(h:Gl X "tuple":=by rfl)(he:starEach [e] X.env=(false,eval e X.env)::starEach [] X.env:=by rfl):
  zA X xr (.Call (.Name "tuple" p) [e] [] pos) (mQ yW q):=by
 try simp only[qc]at*
 exact eG LN (λ_ _=>jY) Cj hm (by rfl) H h (by decide) (by decide) he (by rfl)
def zj (i:Nat)(b:X.N[i]? =some x:=by rfl)(a:Y1 X.env.scope x:=by first|exact Or.inl rfl|exact Or.inr (Or.inl rfl)|exact Or.inr (Or.inr rfl))(hd:(x==("__debug__":Str))=false:=by decide)
  (d:(x==("__classdict__":Str))=false:=by decide):zA X xr (.Name x pos) (zh i):=by
 try simp only[qc]at*
 exact PE.imp (Na b a hd d) λσ H Q ⟨φ,A,ρ,S,r,h⟩=>by
  unfold zh at h;cases e:ρ[i]? with
  |none=>rw[e]at h;cases h|some o=>cases o with
   |none=>rw[e]at h;cases h|some w=>
    rw[e]at h;obtain⟨v,f,c⟩:=r.get i w e;exact⟨v,f,h φ H v .refl S c⟩
def DN {mi:Ei}{tw:Tg}{M:Ev}{em:Em}(nl:Nat)(cap:b8)(c:X.calm=true)(S:Zb X sc)(p:Qk X.N N sc nl cap=true)(hw:wj X xr tg iter mi)
  (n:∀s H fp,wg (jo X N sc s H fp jT) tg tw/\Zk (jo X N sc s H fp jT) ifs M/\gZ (jo X N sc s H fp jT) elt (⟨tg,iter,ifs,0⟩::gs) sc pos 0 em)
  (b:∀g',gs[0]? =some g'->g'.is_async=0:=by intro _ h;cases h<;>rfl)
  (a:∀x,foldedSetIterable iter X.env x=pure x:=by intro _;rfl):Qz X xr (.ListComp elt (⟨tg,iter,ifs,0⟩::gs) sc pos) (zV nl cap mi tw M em):=by
 try simp only[qc]at*
 exact PE.imp (Ba (g:=tG X.K tw) (ti:=tT X.K ko M) (tm:=tE X.K em) c S p b hw n a) zV.read
def Z7 (i j:Nat){y:Str}{q:Pos}(o:X.calm=true)(h:X.N.Nodup)(l:X.N[i]? =some x:=by rfl)(f:Loc X.env.scope x:=by first|exact Or.inl rfl|exact Or.inr rfl)(hf:X.fn x=true∨X.env.scope.names.lookup x=some .local:=by first|exact .inl rfl|exact .inr rfl)
  (g:X.N[j]? =some y:=by rfl)(d:Loc X.env.scope y:=by first|exact Or.inl rfl|exact Or.inr rfl)(n:X.fn y=true∨X.env.scope.names.lookup y=some .local:=by first|exact .inl rfl|exact .inr rfl):wg X (.Tuple [.Name x p,.Name y q] k pos) (jW i j):=by
 try simp only[qc]at*
 exact PG.imp (Gx o (ZD (ZK h l f hf) (ZD (ZK h g d n) Gr))) λv σ H Q ⟨φ,A,ρ,w,b,S,re,c,e,kk⟩=>by
   unfold jW at e
   split at e
   ·rename_i x1 Y
    have E:=aB e;subst E;obtain⟨a,vs,rfl,s,rs⟩:=c;obtain⟨v1,z,rfl,t,v2,u,rfl,r,rfl⟩:=rs;exact⟨a,[v1,v2],rfl,s,rfl,v1,[v2],rfl,v2,[],rfl,rfl,kk _ ((re.set t).set r)⟩
   ·cases e
def FN (i j k:Nat){y z:Str}{q r pp:Pos}{s:Nat}(f:X.calm=true)(c:X.N.Nodup)(I:X.N[i]? =some x:=by rfl)(B:Loc X.env.scope x:=by first|exact Or.inl rfl|exact Or.inr rfl)(hf:X.fn x=true∨X.env.scope.names.lookup x=some .local:=by first|exact .inl rfl|exact .inr rfl)
  (E:X.N[j]? =some y:=by rfl)(u:Loc X.env.scope y:=by first|exact Or.inl rfl|exact Or.inr rfl)(K:X.fn y=true∨X.env.scope.names.lookup y=some .local:=by first|exact .inl rfl|exact .inr rfl)
  (D:X.N[k]? =some z:=by rfl)(t:Loc X.env.scope z:=by first|exact Or.inl rfl|exact Or.inr rfl)(J:X.fn z=true∨X.env.scope.names.lookup z=some .local:=by first|exact .inl rfl|exact .inr rfl):
  wg X (.Tuple [.Name x p,.Tuple [.Name y q,.Name z r] s pp] n pos) (Yx i j k):=by
 try simp only[qc]at*
 exact PG.imp (Gx f (ZD (ZK c I B hf) (ZD (Gx f (ZD (ZK c E u K) (ZD (ZK c D t J) Gr))) Gr))) λv σ H Q ⟨φ,A,ρ,w,g,S,re,o,e,kk⟩=>by
   unfold Yx at e
   split at e
   ·rename_i x1 Y Z
    have U:=aB e;subst U;obtain⟨a,vs,rfl,C,rs⟩:=o;obtain⟨v1,r1,rfl,T,v2,r2,rfl,P,rfl⟩:=rs;obtain⟨a2,l,rfl,h,b⟩:=P;obtain⟨d,r3,rfl,M,v4,r4,rfl,L,rfl⟩:=b;exact⟨a,[v1,.ref a2],rfl,C,rfl,v1,[.ref a2],rfl,.ref a2,[],rfl,a2,[d,v4],rfl,h,rfl,d,[v4],rfl,v4,[],rfl,rfl,rfl,kk _ (((re.set T).set M).set L)⟩
   ·cases e
def qB (i:Nat)(c:X.N.Nodup)(b:X.N[i]? =some x:=by rfl)(h:Loc X.env.scope x:=by first|exact Or.inl rfl|exact Or.inr rfl)(hf:X.fn x=true∨X.env.scope.names.lookup x=some .local:=by first|exact .inl rfl|exact .inr rfl):wg X (.Name x pos) (zG i):=by
 try simp only[qc]at*
 exact PG.imp (ZK c b h hf) λv σ H Q ⟨φ,A,ρ,w,a,S,re,q,e,k⟩=>by
   have E:ρ.set i (some w)=a:=aB e;subst E;exact k _ (re.set q)
def j9 (h:zA X xr e m):wj X xr tg e (qh m):=by
 try simp only[qc]at*
 exact PI.imp (eu h) λσ H Z ⟨φ,A,ρ,S,re,h⟩=>by
  refine tM.go S re (qa.mp h) λw A1 f H1 v d N M Q=>?_;unfold K1 at d;cases e:zT w A1 with
  |none=>rw[e]at d;exact d.elim|some ws=>
   rw[e]at d;dsimp only at d;cases w with
   |tup us=>
    obtain⟨a,ys,rfl,g,p⟩:=Q;refine⟨a,rfl,.inr ⟨⟨ys,g⟩,d f H1 _ N M λi c j A' lw s=>⟨λu b=>?_,λb=>?_⟩⟩⟩
    ·have E:us[i]? =some u:=aB b
     obtain⟨y,k,C⟩:=(p.monoW lw).get E;refine⟨⟨ys,y,lw.tp _ _ g,k⟩,λx U t=>?_⟩;obtain⟨L,J⟩:=t;subst L;have l:=J ys (lw.tp _ _ g);rw[k]at l;cases l;exact⟨.refl,s,C⟩
    ·have E:us[i]? =none:=aB b
     refine⟨ys,lw.tp _ _ g,?_⟩;rw[<- p.length];exact List.getElem?_eq_none_iff.mp E
   |ref n=>
    obtain⟨a,rfl,g⟩:=Q;have read:∀{c j A' us},Zt X.K f H1 c j->zN X.K c A' j->zT (.ref n) A'=some us->∃ys,jj X.K j a ys/\zD X.K c j us ys:=λ {c j A' us} lw s es=>by
     obtain⟨T,ys,P,z,r⟩:=WL (w:=.ref n) (v:=.ref a) s ⟨a,rfl,lw.ex _ _ g⟩ es;cases P;unfold zT at es;dsimp only at es;cases I:A'[n]? with
     |none=>rw[I]at es;cases es|some o=>
      rw[I]at es;obtain⟨T,p,r⟩:=s.ob n o I;rw[lw.ex _ _ g]at p;cases p;cases o with
      |lst xs=>cases es;obtain⟨ys,d,D⟩:=r;exact⟨ys,jj.of d,D⟩|ro xs=>cases es;obtain⟨ys,d,D⟩:=r;exact⟨ys,d.sq,D⟩|dct xs=>cases es|td _=>cases es|tr _=>cases es|tab _ _=>cases es
    obtain⟨Y,B,_⟩:=read ⟨λ_ _ h=>h,λ_ _ h=>h,λ_ _ _ h=>h⟩ M e;refine⟨a,rfl,.inl ⟨⟨Y,B⟩,d f H1 _ N M λi c j A' lw s=>⟨λu b=>?_,λb=>?_⟩⟩⟩
    ·dsimp only at b
     cases es:zT (.ref n) A' with
     |none=>rw[es]at b;cases b|some us=>
      rw[es]at b;have E:us[i]? =some u:=aB b;obtain⟨ys,q,r⟩:=read lw s es;obtain⟨y,k,C⟩:=r.get E;refine⟨⟨ys,y,q,k⟩,λx U t=>?_⟩;obtain⟨L,J⟩:=t;subst L;have l:=J ys q;rw[k]at l;cases l;exact⟨.refl,s,C⟩
    ·dsimp only at b
     cases es:zT (.ref n) A' with
     |none=>rw[es]at b;cases b|some us=>
      rw[es]at b;have E:us[i]? =none:=aB b;obtain⟨ys,q,r⟩:=read lw s es;refine⟨ys,q,?_⟩;rw[<- r.length];exact List.getElem?_eq_none_iff.mp E
   |non=>cases e|bl _=>cases e|clo _ _ _=>cases e|xc _=>cases e|int _=>cases e|str _=>cases e
def Yp (g:Gl X "enumerate")(hm:X.mg "enumerate"=none)(e:zA X xr a ma)(s:starEach [a] X.env=[(false,eval a X.env)]:=by rfl):wj X xr (.Tuple elts kk tpos) (.Call (.Name "enumerate" p) [a] [] pos) (wd ma):=by
 try simp only[qc]at*
 exact PI.imp (Cq g hm (jG e yy (by rw[s];rfl)) s) λσ H r ⟨φ,A,ρ,S,re,h⟩=>by
   refine tM.go S re (qa.mp h) λw A1 c H1 v b l d q=>?_;cases es:zT w A1 with
   |none=>rw[es]at b;exact b.elim|some ws=>
    rw[es]at b;obtain⟨p,ys,rfl,z,Z⟩:=W2 d q es;exact⟨p,Q3 w,ys,rfl,z,b c H1 _ l d (eZ q)⟩
def Fw {apos:Pos}(k:zA X xr a ma)(d:attributeBase a "items" X.env (eval a X.env)=eval a X.env:=by rfl)(e:(apos.endLine==cpos.line)=true:=by rfl):
  wj X xr (.Tuple elts kk tpos) (.Call (.Attribute a "items" apos) [] [] cpos) (KC ma):=by
 try simp only[qc]at*
 exact PI.imp (DA k d e) λσ H r ⟨φ,A,ρ,S,re,h⟩=>by
   unfold KC at h;cases A with
   |cons o A=>exact h.elim|nil=>
    dsimp only at h;have i:φ=[]:=by have:=S.len;simpa using this
    subst i;refine tM.go S re (qa.mp h) λw A1 j H1 v f l s q=>?_
    split at f
    ·rename_i kvs
     by_cases hn:jl (kvs.map (·.2))=true
     ·rw[ag hn]at f
      obtain⟨p,us,rfl,f1,g1,g2,g3⟩:=s.dct q (kvs:=kvs) rfl;have h0:H p=none:=by
       rcases l.nw 0 p f1 with z|z
       ·simp at z
       ·exact z
      refine⟨p,us,rfl,g1,λo=>?_⟩;have tp:∀c vs,qo X.K H1 c vs->qo X.K (upd H1 p (.frz o (.dK us))) c vs:=λc vs t=>Ge t (λxs z=>by rw[g1]at z;cases z) (λ_ _ z=>by rw[g1]at z;cases z)
      have le:Le X.K [] H [] (upd H1 p (.frz o (.dK us))):=by
       refine⟨λn c z=>z,λc vs t=>tp c vs (l.tp c vs t),λc u b nn=>?_,λn c z=>.inl z,λc z=>?_,λc u U b=>?_⟩
       ·rw[qk (kQ b h0)];exact l.fr c u b nn
       ·by_cases g:c=p
        ·rw[g];exact h0
        ·rw[qk g]at z;exact l.st c z
       ·rw[qk (kQ b h0)];exact l.fz c u U b
      exact f [] _ _ le zN.none (fh (o:=o) jA g2 (g3.nrm tp (λc u U b=>by rw[qk (YF b g1 (by intro z;cases z))];exact b) hn) hn)
     ·rw[aj hn]at f;exact f.elim
    ·exact f.elim
def jR (g:Gl X "range")(hm:X.mg "range"=none)(e:zA X xr a ma)(s:starEach [a] X.env=[(false,eval a X.env)]:=by rfl):wj X xr tg (.Call (.Name "range" p) [a] [] pos) (qT ma):=by
 try simp only[qc]at*
 exact PI.imp (Eb g hm (jG e yy (by rw[s];rfl)) s) λσ H r ⟨φ,A,ρ,S,re,h⟩=>by
   refine tM.go S re (qa.mp h) λw A1 c H1 v b l i q=>?_;cases w with
   |int j=>
    obtain rfl:=q;dsimp only at b
    by_cases d:yg j=true
    ·rw[ag d]at b
     obtain⟨f,B⟩:=Yj d;exact⟨j,rfl,f,B,b c H1 _ l i ew⟩
    ·rw[aj d]at b;exact b.elim
   |non=>exact b.elim|bl _=>exact b.elim|str _=>exact b.elim|tup _=>exact b.elim|ref _=>exact b.elim|clo _ _ _=>exact b.elim|xc _=>exact b.elim
def OY (n:Gl X "zip")(hm:X.mg "zip"=none)(r:zA X xr a ma)(o:zA X xr b mb)(g:starEach [a,b] X.env=(false,eval a X.env)::starEach [b] X.env:=by rfl)(e:starEach [b] X.env=(false,eval b X.env)::starEach [] X.env:=by rfl)(hp:(backTo pos (starEach [b] X.env)).any (·.1)=false:=by rfl):
  wj X xr (.Tuple elts kk tpos) (.Call (.Name "zip" p) [a,b] [] pos) (JS ma mb):=by
 try simp only[qc]at*
 exact PI.imp (fc n hm (jG r (jG o yy e) g) g hp) λσ H C ⟨φ,A,ρ,S,re,h⟩=>by
   refine tM.go S re (qa.mp h) λw A1 i H1 v t l u k=>?_;refine tM.go u (re.mono l) (qA (qa.mp t) (λ_ _ z=>z) λ_ _ z=>z.mono l) λf A2 d x v2 c L s Q=>?_;cases es:zT w A2 with
   |none=>rw[es]at c;exact c.elim|some us=>
    cases es':zT f A2 with
    |none=>rw[es,es']at c;exact c.elim|some vs=>
     rw[es,es']at c;have q:=k.mono L;obtain⟨p,xs,rfl,j,B⟩:=W2 s q es;obtain⟨P,ys,rfl,Z,y⟩:=W2 s Q es';exact⟨p,P,Q3 w,Q3 f,xs,ys,rfl,j,Z,c d x _ (l.trans L) s (fe q Q)⟩
def BD {d:Nat}{me:Ev}(x:∀e s,X.xe e s->False)(he:zA X ko elt me)(k:gens[d+1]? =none):gZ X elt gens sc pos d (zM me):=by
 try simp only[qc]at*
 exact wm.imp (Of x he k) λD σ H Q ⟨φ,A,ρ,acc,ys,S,re,o,n,r,h⟩=>by
   refine tM.go S re (Kk (qa.mp h)) λw A1 g H1 v f l p q=>?_;obtain⟨c,n1⟩:=l.off o n
   by_cases z:acc.length<zR
   ·rw[ag z]at f
    have j:=r.length;refine⟨ys,c,?_,?_⟩
    ·rw[<- j]
     have:sizeLine=16777216:=sizeLine_eq
     unfold zR at z;omega
    ·exact f g _ σ _ (l.toD.trans (yB.upd c)) n1 (p.off c n1) ⟨re.len,λi w e=>let ⟨v,a,b⟩:=re.get i w e;⟨v,a,(b.mono l).monoD (yB.upd c)⟩⟩ jA
      (((r.mono l).monoD (yB.upd c)).append (.one (q.monoD (yB.upd c))))
   ·rw[aj z]at f;exact f.elim
def BR {d:Nat}{mi:Ei}{tw:Tg}{M:Ev}{em:Em}(k:∀e s,X.xe e s->False)(v:X.calm=true)(u:gens[d+1]? =some ⟨tg,iter,ifs,0⟩)(w:∀g',gens[d+2]? =some g'->g'.is_async=0)
  (hw:wj X ko tg iter mi)(t:wg X tg tw)(q:Zk X ifs M)(hm:gZ X elt gens sc pos (d+1) em)(o:∀x,foldedSetIterable iter X.env x=pure x:=by intro _;rfl):gZ X elt gens sc pos d (YG mi tw M em):=by
 try simp only[qc]at*
 exact wm.imp (Dz k v u w hw t q hm o) λD σ H Q ⟨φ,A,ρ,acc,ys,S,re,y,n,f,h⟩=>by
   refine⟨φ,A,ρ,S,re,qA (Kk (qa.mp h)) (λj A1 C c H1 J l P i=>?_) λ_ _ z=>z⟩;obtain⟨I,n1⟩:=l.off y n;exact qX.read i P (re.mono l) I n1 (f.mono l) (qA C (λp A2 B a T b zs L N K r E g=>B a T b zs (l.toD.trans L) N K r E g) λ_ _ z=>z)
def jX (h:zA X xr e m):gY X xr e (qb m):=by
 try simp only[qc]at*
 exact PE.imp h λσ H Q ⟨φ,A,ρ,S,re,h⟩=>by
  refine tM.go S re (qa.mp h) λw A1 c H1 v b l s q=>?_;cases e:zT w A1 with
  |none=>rw[e]at b;exact b.elim|some ws=>
   rw[e]at b;obtain⟨a,ys,rfl,d,E⟩:=WL s q e;exact b c H1 a ys l s d E
def kX {q:ym}(h:Qz X xr e q):gY X xr e q:=by
 try simp only[qc]at*
 exact PE.imp h λσ H Q ⟨φ,A,ρ,S,re,h⟩=>
  ⟨φ,A,ρ,S,re,qA h (λws A1 c a H1 D ys l s h0 b n r=>c a H1 D ys l s (.inl (jj.of b)) r) λ_ _ z=>z⟩
def PN {o i:Expr}{mo mi:Ev}(ho:zA X xr o mo)(hi:zA X xr i mi)(he:zA X xr e m)
  (ha:∀c I new,augStore i c I new=(do holding [new,c,I] (setItem c I new);release [new,c,I] [];pure .next):=by intros;rfl):kO X xr (.AugAssign (.Subscript o i tpos) .Add e pos) (JN mo mi m):=by
 try simp only[qc]at*
 exact PS.imp (Ao ho hi EF he AO set_list ha) λD σ H ⟨φ,A,ρ,S,re,h⟩=>by
   refine tM.go S re (qa.mp h) λU A1 N H1 v1 h1 q S1 Q=>?_;refine tM.go S1 (re.mono q) (qA (qa.mp h1) (λ_ _ z=>z) λ_ _ z=>z.mono q) λw A2 M H2 v2 a j B q2=>?_;have l:=q.trans j;cases U with
   |ref n=>cases w with
    |int k=>
     obtain rfl:=q2;dsimp only at a
     by_cases h0:0<=k
     ·rw[ag h0]at a
      cases d:(A2[n]?:Option O) with
      |none=>rw[d]at a;exact a.elim|some ob=>cases ob with
       |lst ws=>
        rw[d]at a;dsimp only at a;obtain⟨p,vs,rfl,f1,g1,Z⟩:=B.lst (Q.mono j) d;cases E:ws[k.toNat]? with
        |none=>rw[E]at a;exact a.elim|some P=>cases P with
         |int x=>
          rw[E]at a;dsimp only at a;obtain⟨v,hv,Y⟩:=Z.get E;obtain rfl:=Y;refine⟨p,vs,k,_,rfl,rfl,h0,g1,hv,?_⟩;refine tM.go B (re.mono l) (qA (qa.mp a) (λ_ _ z=>z) λ_ _ z=>z.mono l) λT J g H3 v3 b t S3 q3=>?_;have L:=l.trans t;cases T with
          |int y=>
           obtain rfl:=q3;dsimp only at b;refine⟨x,y,rfl,rfl,?_⟩;refine OM (K:=X.K) g J H3 (.ref p) (.int k) (.int (x+y)) (.ref n) (.int k) (.int (x+y)) _ S3 ((Q.mono j).mono t) rfl rfl ?_;cases r:kj (.ref n) (.int k) (.int (x+y)) J with
           |ok u C=>
            rw[r]at b;exactλf H4 s S4=>b f H4 σ (L.trans s) S4 (re.mono (L.trans s))
           |exc z C=>exact absurd r (NI _ _ _ _ z C)|bad=>rw[r]at b;exact b.elim
          |_=>exact b.elim
         |_=>rw[E]at a;exact a.elim
       |_=>rw[d]at a;exact a.elim
     ·rw[aj h0]at a;exact a.elim
    |_=>exact a.elim
   |_=>cases w<;>exact a.elim
def zw (a:kO X xr st m1)(d:wa X xr rest m2):wa X xr (st::rest) (zq m1 m2):=by
 try simp only[qc]at*
 exact yY.imp (DE a d) λD σ H ⟨φ,A,ρ,S,re,h⟩=>by
   refine⟨φ,A,ρ,S,re,qA (qa.mp h) (λf A1 a=>?_) λ_ _ z=>z⟩;cases f with
   |nx ρ1=>exactλb e c l s r=>⟨b,A1,ρ1,s,r,qA a (λ_ _ z=>z.mono l) λ_ _ z=>z.mono l⟩|rt w=>exact a|bk ρ1=>exact a|ct ρ1=>exact a
def gG (he:zA X xr e m)(s:swapsWith e none pos.line X.env=pure false:=by rfl):kO X xr (.Expr e pos) (yk m):=by
 try simp only[qc]at*
 exact PS.imp (Bp he s) λD σ H ⟨φ,A,ρ,S,re,h⟩=>tM.go S re (qa.mp h) λw A1 a H1 v b l c q=>b a H1 σ l c (re.mono l)
def kz {mi:Ei}{tw:Tg}(hp:PassesOwn (model X.prog X.w) X.A X.env X.xe)(hc:X.calm=true)(hi:wj X xr tg iter mi)(hg:wg X tg tw)(hb:wa X xr body m1)
  (hs:∀x,foldedSetIterable iter X.env x=pure x:=by intro _;rfl):kO X xr (.For tg iter body [] pos) (jK mi tw m1):=by
 try simp only[qc]at*
 exact PS.imp (dm hp hc hi hg hb hs) λD σ H ⟨φ,A,ρ,S,re,h⟩=>by
   refine⟨φ,A,ρ,S,re,qA (qa.mp h) (λj A1 h1 g H1 J N S1 jr=>?_) λ_ _ z=>z⟩;refine⟨λi f d C=>MH X.K xr j (turn tw m1) D g H1 f i d C,
    ⟨j.len,g,A1,ρ,.refl,S1,re.mono N,qA h1 (λ_ _ z=>z.mono N) λ_ _ z=>z.mono N⟩,?_⟩
   rintro i f I U ⟨c,A2,p,t,T,q,b⟩
   obtain⟨j1,j2⟩:=jr i c U A2 ⟨t.ex,t.tp,t.fz⟩ T;cases E:j.at_ A2 i with
   |none=>cases f<;>(unfold yP at b;rw[E]at b;exact b.elim)|some o=>
    cases o with
    |none=>
     left
     refine⟨j2 E,?_⟩;cases f<;>(unfold yP at b;rw[E]at b;exact b c U I .refl T q)
    |some w=>
     right
     obtain⟨go,yl⟩:=j1 w E;cases f with
     |zero=>unfold yP at b;rw[E]at b;exact b.elim|succ f=>
      unfold yP at b;rw[E]at b;refine⟨go,λd C=>MH X.K xr j (turn tw m1) D g H1 f (i+1) d C,λd C z=>⟨f,bo _,z⟩,λx H3 y=>?_⟩;obtain⟨L,Q,q3⟩:=yl x H3 y;have u:=qa.mp b;unfold turn at u;cases P:tw w p with
      |none=>rw[P]at u;exact u.elim|some n=>
       rw[P]at u;refine⟨c,A2,p,w,n,Q,q.mono L,q3,P,λZ M=>?_⟩;refine⟨c,A2,n,Q,M,qA u (λfl Y B=>?_) λ_ _ z=>z.mono L⟩;cases fl with
       |nx e=>exactλa v k l s r=>⟨a,Y,e,(t.trans L).trans l,s,r,qA B (λ_ _ z=>z.mono (L.trans l)) λ_ _ z=>z.mono (L.trans l)⟩|ct e=>exactλa v k l s r=>⟨a,Y,e,(t.trans L).trans l,s,r,qA B (λ_ _ z=>z.mono (L.trans l)) λ_ _ z=>z.mono (L.trans l)⟩|bk e=>exactλa v k l s r=>B a v k (L.trans l) s r|rt w4=>exactλa v v4 l s q4=>B a v v4 (L.trans l) s q4
def j8 {sa s:cu}(e:yR X xr c mc)(g:wa X xr sa m1)(f:wa X xr s m2):kO X xr (.If c sa s pos) (qZ mc m1 m2):=by
 try simp only[qc]at*
 exact PS.imp (c9 e g f) λD σ H ⟨φ,A,ρ,S,re,h⟩=>by
   refine tT.go S re (qa.mp h) λw A1 a=>?_;cases w with
   |bl k=>
    refine⟨k,rfl,λb H1 l d=>?_⟩;cases k with
    |true=>rw[ag rfl];exact⟨b,A1,ρ,d,re.mono l,qA a (λ_ _ z=>z.mono l) λ_ _ z=>z.mono l⟩|false=>rw[aj aA];exact⟨b,A1,ρ,d,re.mono l,qA a (λ_ _ z=>z.mono l) λ_ _ z=>z.mono l⟩
   |non=>cases a|int _=>cases a|str _=>cases a|tup _=>cases a|ref _=>cases a|clo _ _ _=>cases a|xc _=>cases a
def zO:wa X xr [] zC:=by
 try simp only[qc]at*
 exact yY.imp Ah λD σ H ⟨φ,A,ρ,S,re,h⟩=>h φ H σ .refl S re
def qG (he:zA X xr e m):kO X xr (.Return (some e) pos) (qD m):=by
 try simp only[qc]at*
 exact PS.imp (c7 he) λD σ H ⟨φ,A,ρ,S,re,h⟩=>tM.go S re (qa.mp h) λw A1 a H1 v b l s q=>b a H1 v l s q
def qC (i:Nat){pos':Pos}(b:X.N.Nodup)(he:zA X xr e m)(a:X.N[i]? =some x:=by rfl)(h:Loc X.env.scope x:=by first|exact Or.inl rfl|exact Or.inr rfl)(H:swapsWith e (some (.Name x pos')) pos.line X.env=pure false:=by rfl)
  (hf:X.fn x=true∨X.env.scope.names.lookup x=some .local:=by first|exact .inl rfl|exact .inr rfl):kO X xr (.Assign [.Name x pos'] e pos) (zW i m):=by
 try simp only[qc]at*
 exact PS.imp (Ax b a h he H hf) zW.read
def WG (i:Nat){mi:Ei}{tw:Tg}{M:Ev}{em:Em}{P a:Pos}(nl:Nat)(cap:b8)(j:X.N.Nodup)
  (e:X.calm=true)(S:Zb X sc)(p:Qk X.N N sc nl cap=true)(hw:wj X xr tg iter mi)
  (n:∀s H fp,wg (jo X N sc s H fp jT) tg tw/\Zk (jo X N sc s H fp jT) ifs M/\gZ (jo X N sc s H fp jT) elt (⟨tg,iter,ifs,0⟩::gs) sc pos 0 em)
  (b:X.N[i]? =some x:=by rfl)(c:X.env.scope.names.lookup x=some .local:=by rfl)
  (w:swapsWith (.ListComp elt (⟨tg,iter,ifs,0⟩::gs) sc pos) (some (.Name x P)) a.line X.env=pure true:=by rfl)
  (f:∀g',gs[0]? =some g'->g'.is_async=0:=by intro _ h;cases h<;>rfl)
  (d:∀x,foldedSetIterable iter X.env x=pure x:=by intro _;rfl):kO X xr (.Assign [.Name x P] (.ListComp elt (⟨tg,iter,ifs,0⟩::gs) sc pos) a) (zW i (qg (zV nl cap mi tw M em))):=by
 try simp only[qc]at*
 exact PS.imp (L2.Hr (g:=tG X.K tw) (ti:=tT X.K ko M) (tm:=tE X.K em) j b c w e S p f hw n d) λD σ H h=>zV.read σ H _ (qg.read σ H _ (zW.read D σ H h))
def Jw (h:gR X xr e m):yR X xr e m:=by
 try simp only[qc]at*
 exact PW.pt h
def yr {g:W->W->Hx->R W}(h:wQ X op g)(c:zA X xr a ma)(H:zA X xr b mb)(e:op≠.In:=by decide)(d:op≠.NotIn:=by decide):yR X xr (.Compare a [op] [b] pos) (zi g ma mb):=by
 try simp only[qc]at*
 exact let ⟨r,a1,a2,A⟩:=h.ex;Nj a1 a2 A c H (h.mks b e d)
def fk {o:CmpOp}{g g':W->W->Hx->R W}(h:wQ X op g)(h':wQ X o g')(e:zA X xr a ma)(d:zA X xr b mb)(H:zA X xr c mc)(hm:lastMarks [op,o] [b,c]=false:=by with_unfolding_all rfl):
  yR X xr (.Compare a [op,o] [b,c] pos) (kL g g' ma mb mc):=by
 try simp only[qc]at*
 exact let ⟨r,a1,a2,A⟩:=h.ex;let ⟨j,i,f,B⟩:=h'.ex;Dk a1 a2 A i f B e d H hm
def Nx {g:W->W->Hx->R W}(h:KS X op g)(c:zA X xr a ma)(H:zA X xr b mb)(hm:behindInMarks op b=false:=by rfl):yR X xr (.Compare a [op] [b] pos) (zi g ma mb):=by
 try simp only[qc]at*
 exact let ⟨r,a1,a2,A⟩:=h.ex;Nj a1 a2 A c H hm
def ZH (f:yR X xr a ma):yR X xr (.UnaryOp .Not a pos) (yc ma):=by
 try simp only[qc]at*
 exact PT.imp (cS f) λσ H Q ⟨φ,A,ρ,S,re,h⟩=>by
   refine tT.go S re (qa.mp h) λw A1 c=>?_;cases w with
   |bl k=>obtain⟨b,e,q⟩:=c;cases e;exact⟨k,rfl,λd H1 l s=>q d H1 l s⟩|non=>cases c|int _=>cases c|str _=>cases c|tup _=>cases c|ref _=>cases c|clo _ _ _=>cases c|xc _=>cases c
def gH (h:zA X xr e m)(he:∀whole,isTrue e X.env whole=(do let v <- whole;standAt e.pos;holding [v] (truthy v)):=by intro _;rfl):yR X xr e m:=by
 try simp only[qc]at*
 exact PT.imp (cO h he) λσ H Q h=>h.toM
def jb:Zk X [] (zo (.bl true)):=by
 try simp only[qc]at*
 exact Mi.O4
def Vv (h:yR X ko c mc):Zk X [c] mc:=by
 try simp only[qc]at*
 exact Cc h
def VO {rest:cc}(g:yR X xr a ma)(f:gR X xr (.BoolOp .And (b::rest) pos) mb):gR X xr (.BoolOp .And (a::b::rest) pos) (yj ma mb):=by
 try simp only[qc]at*
 exact PW.imp (pw_and g f) λσ H Q ⟨φ,A,ρ,S,re,h⟩=>by
   refine tT.go S re (qa.mp h) λw A1 c=>?_;cases w with
   |bl k=>
    refine⟨k,rfl,λd H1 l s=>?_⟩;cases k with
    |true=>rw[ag rfl];exact tT.mono s l re c|false=>rw[aj aA];obtain⟨b,e,q⟩:=c;cases e;exact q d H1 l s
   |non=>cases c|int _=>cases c|str _=>cases c|tup _=>cases c|ref _=>cases c|clo _ _ _=>cases c|xc _=>cases c
def VF (h:yR X xr a ma):gR X xr (.BoolOp .And [a] pos) ma:=by
 try simp only[qc]at*
 exact pw_and1 h
def GG {rest:cc}(g:yR X xr a ma)(f:gR X xr (.BoolOp .Or (b::rest) pos) mb):gR X xr (.BoolOp .Or (a::b::rest) pos) (gE ma mb):=by
 try simp only[qc]at*
 exact PW.imp (pw_or g f) λσ H Q ⟨φ,A,ρ,S,re,h⟩=>by
   refine tT.go S re (qa.mp h) λw A1 c=>?_;cases w with
   |bl k=>
    refine⟨k,rfl,λd H1 l s=>?_⟩;cases k with
    |false=>rw[aj aA];exact tT.mono s l re c|true=>rw[ag rfl];obtain⟨b,e,q⟩:=c;cases e;exact q d H1 l s
   |non=>cases c|int _=>cases c|str _=>cases c|tup _=>cases c|ref _=>cases c|clo _ _ _=>cases c|xc _=>cases c
def Gd (h:yR X xr a ma):gR X xr (.BoolOp .Or [a] pos) ma:=by
 try simp only[qc]at*
 exact pw_or1 h
def yb {K:Frag}{st:Stmt}{m:Ex}(F:w6 K x x st f fd)(hm:mg x=some (.ref f))(S:jg N ps (qE st))
  (i:∀(kV doc pm:Value)(an:cq)(c ct:Value)(us:bX),us.length=ps.length->bindArgs (fnOf x x (QP st) (wz st) (qE st) .none kV doc pm an c ct) ⟨us,[]⟩=pure (ps.zip us))
  (a:∀(c:Value)(A:Around)(outer:ck)(s:Shared)(H:Hp)(E:XK),jv k (A.deeper (envOfC x (qE st) s.heap.objs.size f c))->wa (gn gU P w K mg base N x (qE st) f c A outer s H E).nox ko (wz st) m):
  zS P w K mg base (k+1) x ps.length (je N.length m):=by
 try simp only[qc]at*
 refine⟨f,fd,ps,?_,hm,F.kp,F.binds i⟩;refine F.ok S (λvs H Q E h=>h.len) λc A outer s H vs Q E g ⟨q,φ,A1,ws,n,r,h⟩=>⟨_,a c A outer s H E g,?_⟩;refine⟨φ,A1,ws.map some++List.replicate (N.length-ws.length) none,n,RE.start r,?_⟩;have h':=qa.mp h;show R.post _ (FB K φ H _) _;cases e:m (ws.map some++List.replicate (N.length-ws.length) none) A1 with
 |ok j A2=>
  rw[e]at h';cases j with
  |rt w=>exact h'|nx ρ=>exactλb p d l o _=>h' b p .non l o rfl|bk ρ=>exact h'.elim|ct ρ=>exact h'.elim
 |exc y A2=>
  rw[e]at h';exact h'.elim
 |bad=>rw[e]at h';exact h'.elim
def V3 (hm:X.mg "abs"=none)(a:zA X xr e m)(h:Gl X "abs":=by rfl)(he:starEach [e] X.env=(false,eval e X.env)::starEach [] X.env:=by rfl):zA X xr (.Call (.Name "abs" p) [e] [] pos) (jn K2 m):=by
 try simp only[qc]at*
 exact eM DY (λw A=>by unfold K2;split;exact jY;exact qP) (λφ A H x u Q S q p=>by
   cases u with
   |int i=>obtain rfl:=q;exact⟨i,rfl,p φ H _ .refl S rfl⟩|_=>exact p.elim) hm (by rfl) a h (by decide) (by decide) he (by rfl)
def Jq {apos:Pos}(i:zA X xr a ma)(he:zA X xr b mb)(s:starEach [b] X.env=(false,eval b X.env)::starEach [] X.env:=by rfl)
  (e:attributeBase a "append" X.env (eval a X.env)=eval a X.env:=by rfl)
  (w:((backTo cpos (starEach [b] X.env)).all (λx=>!x.1)&&(backToKw cpos (keywordEach [] X.env)).all (λx=>x.1.isSome)
   && decide ([b].length+([]:cn).length+(if ([]:cn).isEmpty then 0 else 1)<30))=true:=by rfl)(h:(apos.endLine==cpos.line)=true:=by rfl):
  zA X xr (.Call (.Attribute a "append" apos) [b] [] cpos) (j0 yq ma mb):=by
 try simp only[qc]at*
 exact GJ PySem.F.slot_list_append PySem.F.type_list_append Py FQ (λφ A H x y u v Q S g q p=>by
   unfold yq at p;cases u with
   |ref n=>
    dsimp only at p;cases E:A[n]? with
    |none=>rw[E]at p;exact p.elim|some o=>cases o with
     |lst ws=>
      rw[E]at p;dsimp only at p
      by_cases c:ws.length<zR
      ·rw[ag c]at p
       obtain⟨l,vs,rfl,f1,g1,r⟩:=S.lst g E;refine⟨l,vs,y,rfl,rfl,g1,?_,?_⟩
       ·rw[<- r.length]
        have:sizeLine=16777216:=sizeLine_eq
        unfold zR at c;omega
       ·have ln:Le X.K φ H φ (upd H l (.lst (vs++[y]))):=Le.upd f1 (λxs z=>by rw[g1]at z;cases z) (λ_ _ z=>by rw[g1]at z;cases z)
        obtain⟨f,d⟩:=S.write (o:=.lst ws) (o':=.lst (ws++[v])) E rfl rfl f1 ⟨_,jA,(r.mono ln).append (.one (q.mono ln))⟩;exact p _ _ _ f d rfl
      ·rw[aj c]at p;exact p.elim
     |_=>rw[E]at p;exact p.elim
   |_=>exact p.elim) i he s e w h
def Kf (hm:X.mg "int"=none)(a:zA X xr e m)(h:Gl X "int":=by rfl)(he:starEach [e] X.env=(false,eval e X.env)::starEach [] X.env:=by rfl):zA X xr (.Call (.Name "int" p) [e] [] pos) (jn JU m):=by
 try simp only[qc]at*
 exact Nn F5 (λw A=>by unfold JU;split;exact jY;exact jY;exact qP) (λφ A H x u Q S q p=>by
   cases u with
   |int i=>obtain rfl:=q;exact .inl ⟨i,rfl,p φ H _ .refl S rfl⟩|bl k=>obtain rfl:=q;exact .inr ⟨k,rfl,p φ H _ .refl S rfl⟩|_=>exact p.elim) hm (by rfl) a h (by decide) (by decide) he (by rfl)
def DF (e:X.calm=true)(hm:X.mg "max"=none)(n:zA X xr a ma)(k:zA X xr b mb)(l:Gl X "max":=by rfl)(r:starEach [a,b] X.env=(false,eval a X.env)::starEach [b] X.env:=by rfl)(o:starEach [b] X.env=(false,eval b X.env)::starEach [] X.env:=by rfl)(h:(backTo pos (starEach [b] X.env)).any (·.1)=false:=by rfl):
  zA X xr (.Call (.Name "max" p) [a,b] [] pos) (zi Ux ma mb):=by
 try simp only[qc]at*
 exact UI (Fe e) Q5 (λφ A H x y u v Q S d c p=>by
   obtain⟨i,j,s,E,q⟩:=QX (K:=X.K) (f:=λi j=>.int (if j > i then j else i)) (g:=λi j=>.int (if j > i then j else i)) (λ_ _ _ _=>rfl) φ A H x y u v Q S d c p;subst s;subst E;exact⟨i,j,rfl,q⟩) hm (by rfl) n k l (by decide) (by decide) r o h
def FJ {apos:Pos}(C:zA X xr a ma)(he:zA X xr b mb)(B:starEach [b] X.env=(false,eval b X.env)::starEach [] X.env:=by rfl)
  (e:attributeBase a "pop" X.env (eval a X.env)=eval a X.env:=by rfl)
  (c:((backTo cpos (starEach [b] X.env)).all (λx=>!x.1)&&(backToKw cpos (keywordEach [] X.env)).all (λx=>x.1.isSome)
   && decide ([b].length+([]:cn).length+(if ([]:cn).isEmpty then 0 else 1)<30))=true:=by rfl)(h:(apos.endLine==cpos.line)=true:=by rfl):
  zA X xr (.Call (.Attribute a "pop" apos) [b] [] cpos) (j0 ZO ma mb):=by
 try simp only[qc]at*
 exact GJ PySem.F.slot_list_pop PySem.F.type_list_pop DX Ds (λφ A H x y u v Q S t s p=>by
   unfold ZO at p;cases u with
   |ref n=>cases v with
    |int i=>
     obtain rfl:=s;dsimp only at p;cases E:A[n]? with
     |none=>rw[E]at p;exact p.elim|some o=>cases o with
      |lst ws=>
       rw[E]at p;dsimp only at p
       by_cases d:yg i=true
       ·rw[ag d]at p
        obtain⟨L,J⟩:=Yj d;cases g:seqIndex? i ws.length with
        |none=>rw[g]at p;exact p.elim|some k=>
         rw[g]at p;dsimp only at p;cases f:ws[k]? with
         |none=>rw[f]at p;exact p.elim|some w=>
          rw[f]at p;obtain⟨l,vs,rfl,f1,g1,r⟩:=S.lst t E;obtain⟨y,I,D⟩:=r.get f;have ln:Le X.K φ H φ (upd H l (.lst (vs.eraseIdx k))):=Le.upd f1 (λxs z=>by rw[g1]at z;cases z) (λ_ _ z=>by rw[g1]at z;cases z)
          obtain⟨j,q⟩:=S.write (o:=.lst ws) (o':=.lst (ws.eraseIdx k)) E rfl rfl f1 ⟨_,jA,(r.erase k).mono ln⟩;exact⟨l,vs,i,k,y,rfl,rfl,g1,by omega,by omega,by rw[<- r.length];exact g,I,p _ _ _ j q (D.mono j)⟩
       ·rw[aj d]at p;exact p.elim
      |_=>rw[E]at p;exact p.elim
    |_=>exact p.elim
   |_=>cases v<;>exact p.elim) C he B e c h
def Ol (H:zA X xr a ma)(h:zA X xr b mb):zA X xr (.BinOp a .Pow b pos) (zi Xa ma mb):=by
 try simp only[qc]at*
 exact JE Az UD (Ul CN λ_ _ _ _=>rfl) H h
def VJ {x j}:zA X xr (.Constant (.str x) j pos) (zo (.str x)):=by
 try simp only[qc]at*
 exact PE.imp cN λσ H Q ⟨φ,A,ρ,S,r,h⟩=>h φ H _ .refl S rfl
def Om (H:zA X xr a ma)(h:zA X xr b mb):zA X xr (.BinOp a .BitXor b pos) (zi U6 ma mb):=by
 try simp only[qc]at*
 exact JE dy Q5 (QX λ_ _ _ _=>rfl) H h
def W9 {q:ym}(hm:X.mg "list"=none)(d:gY X xr e q)(g:Gl X "list":=by rfl)(he:starEach [e] X.env=(false,eval e X.env)::starEach [] X.env:=by rfl):
  zA X xr (.Call (.Name "list" p) [e] [] pos) (qg q):=by
 try simp only[qc]at*
 exact PE.imp (Yn Iz g hm (by rfl) (jG d yy he) (by decide) (by decide) he (by rfl)) λσ H Q ⟨φ,A,ρ,S,re,h⟩=>by
   refine⟨φ,A,ρ,S,re,qA (qa.mp h) (λws A1 f b H1 a ys L s z r=>?_) λ_ _ z=>z⟩;refine⟨a,ys,rfl,z,λl c=>?_⟩;obtain⟨a1,a2,i⟩:=QU s c r;exact f _ _ _ (L.trans a1) a2 i
def Yt {o i:Expr}{mo mi:Ev}(he:zA X xr e m)(H:zA X xr o mo)(a:zA X xr i mi)
  (h:swapsWithSole [.Subscript o i tpos] e pos.line X.env=pure false:=by rfl)(hw:swappedStores [.Subscript o i tpos] e X.env=pure none:=by rfl)
  (c:(assignEach [.Subscript o i tpos] X.env).map (·.2)=[assign (.Subscript o i tpos) X.env]:=by rfl)
  (b:∀v,assign (.Subscript o i tpos) X.env v=(do
   let ov <- holding [v] (eval o X.env)
   let iv <- holding [v,ov] (eval i X.env)
   standAt tpos
   holding [v,ov,iv] (setItem ov iv v)
   release [v,ov,iv] []):=by intro _;rfl):kO X xr (.Assign [.Subscript o i tpos] e pos) (wM kj m mo mi):=by
 try simp only[qc]at*
 exact D9 set_list NI OM he H a h hw c b
def FG (f:Nat)(hp:PassesOwn (model X.prog X.w) X.A X.env X.xe)(C:yR X xr c mc)(E:wa X xr body m1):kO X xr (.While c body [] pos) (Ud f mc m1):=by
 try simp only[qc]at*
 exact PS.imp (D5 hp C E) λD σ H ⟨φ,A,ρ,S,re,h⟩=>by
   refine⟨λf g e=>∃a A2 d,Le X.K φ H a e/\zN X.K a A2 e/\RE X.K a e d g/\(Qt mc m1 f d A2).post (FB X.K a e D) (EB X.K a e xr),⟨f,φ,A,ρ,.refl,S,re,h⟩,?_⟩
   rintro f u T ⟨a,A2,d,x,J,o,v⟩
   cases f with
   |zero=>exact v.elim|succ f=>
    unfold Qt at v;refine tT.go J o (qa.mp v) λw N j=>?_;cases w with
    |bl k=>
     refine⟨k,rfl,λp M l y=>?_⟩;cases k with
     |true=>
      rw[ag rfl];refine⟨λg e=>∃a A2 d,Le X.K φ H a e/\zN X.K a A2 e/\RE X.K a e d g/\(Qt mc m1 f d A2).post (FB X.K a e D) (EB X.K a e xr),λg e z=>⟨f,bo _,z⟩,?_⟩;refine⟨p,N,d,y,o.mono l,qA (qa.mp j) (λI B t=>?_) λ_ _ z=>z.mono l⟩;cases I with
      |nx i=>exactλb q n L s r=>⟨b,B,i,(x.trans l).trans L,s,r,qA t (λ_ _ z=>z.mono (l.trans L)) λ_ _ z=>z.mono (l.trans L)⟩|ct i=>exactλb q n L s r=>⟨b,B,i,(x.trans l).trans L,s,r,qA t (λ_ _ z=>z.mono (l.trans L)) λ_ _ z=>z.mono (l.trans L)⟩|bk i=>exactλb q n L s r=>t b q n (l.trans L) s r|rt P=>exactλb q v4 L s Q=>t b q v4 (l.trans L) s Q
     |false=>
      rw[aj aA];exact j p M u l y (o.mono l)
    |non=>cases j|int _=>cases j|str _=>cases j|tup _=>cases j|ref _=>cases j|clo _ _ _=>cases j|xc _=>cases j
end
end Mi
variable {mi:Mi.Ei}{em:Mi.Em}{ρ:Mi.En}{me:Mi.Ev}{A A1 B:Mi.Hx}{kvs:List (List Int×Mi.W)}{ws:List Mi.W}{o:Mi.O}{tw:Mi.Tg}{g:Mi.W->Mi.W->Mi.Hx->Mi.R Mi.W}{xr:Mi.XR}{q:Mi.ym}
set_option maxHeartbeats 4000000
namespace Mi
open PySem L2
section
variable {ρ1:En}{A2:Hx}{w x y:W}{m ma mb mc:Ev}{m1 m2:Ex}{f:Fn}
def zu (h:ρ[i]? =some (some w)):zh i ρ A=.ok w A:=by unfold zh;rw[h]
def qM:zo w ρ A=.ok w A:=rfl
def zL (H:ma ρ A=.ok x A1)(h:mb ρ A1=.ok y A2):zi g ma mb ρ A=g x y A2:=by unfold zi;rw[H,zP,h,zP]
def Nb {g:W->Hx->R W}(h:ma ρ A=.ok x A1):jn g ma ρ A=g x A1:=by unfold jn;rw[h,zP]
def wy {k:Bool}(h:ma ρ A=.ok (.bl k) A1):yc ma ρ A=.ok (.bl (!k)) A1:=by unfold yc;rw[h,zP]
def gI (h:ma ρ A=.ok (.bl true) A1):yj ma mb ρ A=mb ρ A1:=by unfold yj;rw[h,zP]
def ZQ (h:ma ρ A=.ok (.bl false) A1):yj ma mb ρ A=.ok (.bl false) A1:=by unfold yj;rw[h,zP]
def GL (h:ma ρ A=.ok (.bl false) A1):gE ma mb ρ A=mb ρ A1:=by unfold gE;rw[h,zP]
def qp {a:Ea}(h:a ρ A=.ok ws A1):zF f a ρ A=f ws A1:=by unfold zF;rw[h,zP]
def qy:zl ρ A=.ok [] A:=rfl
def zX {r:Ea}(H:ma ρ A=.ok x A1)(h:r ρ A1=.ok ws A2):zc ma r ρ A=.ok (x::ws) A2:=by unfold zc;rw[H,zP,h,zP]
def Jx {a:Ea}(h:a ρ A=.ok ws A1):zE a ρ A=.ok (.tup ws) A1:=by unfold zE;rw[h,zP]
def jM {a:Ea}(h:a ρ A=.ok ws A1):zU a ρ A=.ok (.ref A1.length) (A1++[.lst ws]):=by unfold zU;rw[h,zP]
def zH (h:m1 ρ A=.ok (.nx ρ1) A1):zq m1 m2 ρ A=m2 ρ1 A1:=by unfold zq;rw[h,zP]
def qv (h:m1 ρ A=.ok (.rt w) A1):zq m1 m2 ρ A=.ok (.rt w) A1:=by unfold zq;rw[h,zP]
def jF:zC ρ A=.ok (.nx ρ) A:=rfl
def qI (h:m ρ A=.ok w A1):zW i m ρ A=.ok (.nx (ρ.set i (some w))) A1:=by unfold zW;rw[h,zP]
def Zg (h:m ρ A=.ok w A1):yk m ρ A=.ok (.nx ρ) A1:=by unfold yk;rw[h,zP]
def qV (h:m ρ A=.ok w A1):qD m ρ A=.ok (.rt w) A1:=by unfold qD;rw[h,zP]
def wB (h:mc ρ A=.ok (.bl true) A1):qZ mc m1 m2 ρ A=m1 ρ A1:=by unfold qZ;rw[h,zP]
def yQ (h:mc ρ A=.ok (.bl false) A1):qZ mc m1 m2 ρ A=m2 ρ A1:=by unfold qZ;rw[h,zP]
def kA {j:jE}(h:mi ρ A=.ok j A1):jK mi tw m1 ρ A=yP j (turn tw m1) j.len 0 ρ A1:=by unfold jK;rw[h,zP]
def kK (h:tw w ρ=some ρ1):turn tw m1 w ρ A=m1 ρ1 A:=by unfold turn;rw[h]
def Vl {j:jE}{st:W->Ex}(h:j.at_ A i=some none):yP j st n i ρ A=.ok (.nx ρ) A:=by
 cases n with
 |zero=>unfold yP;rw[h]|succ n=>unfold yP;rw[h]
def W5 {j:jE}{st:W->Ex}(h:j.at_ A i=some (some w))(H:st w ρ A=.ok (.nx ρ1) A1):yP j st (n+1) i ρ A=yP j st n (i+1) ρ1 A1:=by
 rw[yP,h];dsimp only;rw[H,zP]
def g9 {k:Int}(h:m ρ A=.ok (.int k) A1)(H:yg k=true):qT m ρ A=.ok (yO 0 k.toNat) A1:=by unfold qT;rw[h,zP];dsimp only;rw[ag H]
def wL {lo:Int}(h:i<k):(yO lo k).at_ A i=some (some (.int (lo+i))):=by unfold yO;dsimp only;rw[ag h]
def wK {lo:Int}(h:¬i<k):(yO lo k).at_ A i=some none:=by unfold yO;dsimp only;rw[aj h]
def qQ (h:m1 (ws.map some++List.replicate (n-ws.length) none) A=.ok (.rt w) A1):je n m1 ws A=.ok w A1:=by unfold je;rw[h];rfl
def Zf {w:W}(hn:jl ws=true)(hw:w.nr=true)(h:f ws []=.ok w A1):iso f ws A=.ok w A:=by
 unfold iso;rw[ag hn,h];cases w with
 |ref k=>cases hw|_=>dsimp only;rw[ag hw]
end
end Mi
set_option maxHeartbeats 4000000
namespace Mi
open PySem L2
def Du {j:jE}{ifs:Ev}{c:En}{N:Nat}{item g:Nat->W}{keep:Nat->Bool}(t:∀i,i<N->j.at_ A i=some (some (item i)))(d:j.at_ A N=some none)
  (a:∀i,i<N->ifs (some (item i)::c) A=.ok (.bl (keep i)) A)(he:∀i,i<N->keep i=true->me (some (item i)::c) A=.ok (g i) A):
  ∀(n i:Nat)(x:Option W)(acc:List W),i+n=N->acc.length+n<=zR->∃y,qX j (zG 0) ifs (zM me) n i (x::c) acc A=.ok (y::c,acc++((List.range' i n).filter keep).map g) A:=by
 intro n
 induction n with
 |zero=>
  intro i x acc h _
  have:i=N:=by omega
  subst this;refine⟨x,?_⟩;unfold qX;rw[d];simp
 |succ n I=>
  intro i x acc h l;have H:i<N:=by omega
  rw[qX,t i H];dsimp only[zG,List.set];rw[a i H,zP];rw[bT];cases k:keep i with
  |true=>
   dsimp only;obtain⟨y,e⟩:=I (i+1) (some (item i)) (acc++[g i]) (by omega) (by rw[ak,aQ];omega)
   refine⟨y,?_⟩;have E:zM me (some (item i)::c) acc A=.ok (some (item i)::c,acc++[g i]) A:=by
    unfold zM;rw[he i H k,zP,ag (by omega)]
   rw[E,zP];dsimp only;rw[e,List.filter_cons_of_pos k,aN,aP]
   rfl
  |false=>
   dsimp only;obtain⟨y,e⟩:=I (i+1) (some (item i)) acc (by omega) (by omega)
   exact⟨y,by rw[e,List.filter_cons_of_neg (by rw[k];exact aA)]⟩
def Vi {j:jE}{ifs:Ev}{N:Nat}{item g:Nat->W}{keep:Nat->Bool}(hm:mi ρ A=.ok j A)(a:j.len=N)(d:N<=zR)
  (H:∀i,i<N->j.at_ A i=some (some (item i)))(h:j.at_ A N=some none)(b:∀i,i<N->ifs (some (item i)::cap.map λi=>(ρ[i]?).join) A=.ok (.bl (keep i)) A)
  (he:∀i,i<N->keep i=true->me (some (item i)::cap.map λi=>(ρ[i]?).join) A=.ok (g i) A):
  zV 1 cap mi (zG 0) ifs (zM me) ρ A=.ok (((List.range N).filter keep).map g) A:=by
 obtain⟨y,e⟩:=Du H h b he N 0 none [] (Nat.zero_add N) (by simpa using d)
 unfold zV;rw[hm,zP,a];have c:Qg 1 cap ρ=none::cap.map λi=>(ρ[i]?).join:=rfl;rw[c,e,bA,<- range_eq_range']
 rfl
def Jp {j:jE}{N:Nat}{item g:Nat->W}(hm:mi ρ A=.ok j A)(a:j.len=N)(c:N<=zR)
  (t:∀i,i<N->j.at_ A i=some (some (item i)))(H:j.at_ A N=some none)(he:∀i,i<N->me (some (item i)::cap.map λi=>(ρ[i]?).join) A=.ok (g i) A):
  zV 1 cap mi (zG 0) (zo (.bl true)) (zM me) ρ A=.ok ((List.range N).map g) A:=by
 have h:=Vi (ifs:=zo (.bl true)) (keep:=λ_=>true) hm a c t H (λ_ _=>rfl) λi b _=>he i b;have f:(List.range N).filter (λ_=>true)=List.range N:=List.filter_eq_self.mpr λ_ _=>rfl;rw[f]at h;exact h
def yK {g:List W->Hx->R W}(h:q ρ A=.ok ws A1):mQ g q ρ A=g ws A1:=by unfold mQ;rw[h,zP]
def kR (h:q ρ A=.ok ws A1):qg q ρ A=.ok (.ref A1.length) (A1++[.lst ws]):=by unfold qg;rw[h,zP]
def kS {m:Ev}{w:W}(h:m ρ A=.ok w A1)(H:zT w A1=some ws):qb m ρ A=.ok ws A1:=by unfold qb;rw[h,zP,H]
open PySem PySem.Spec PyProof.Rows L2
inductive zcX (H:Hp)(h g:Heap)(e:Addr)(vs:Array Value):Prop
 |mk (T:Addr) (oT:Obj) (ts:Array Value) (h1:vs[1]? =some (.ref T)) (ne:T≠e) (ng:g.get? T=none) (nH:H T=none) (hT:h.get? T=some oT) (hd:oT.data=.fields ts) (h3:ts[3]? =some .none)
inductive gk (H:Hp)(h g:Heap)(e:Addr)(C:Value):Prop
 |mk (ng:g.get? e=none) (nH:H e=none) (oe:Obj) (vs:Array Value) (a0:Value) (he:h.get? e=some oe) (hc:oe.cls=C) (hd:oe.data=.fields vs) (h0:vs[0]? =some a0) (h1:vs[1]? =some .none∨zcX H h g e vs)
inductive Tr (h:Heap)(e:Addr):Prop
 |mk (oe:Obj) (vs:Array Value) (T:Addr) (he:h.get? e=some oe) (hd:oe.data=.fields vs) (h1:vs[1]? =some (.ref T))
section
variable {A:Around}{outer:ck}{L e:Addr}{C:Value}{g:Heap}
theorem frames_at {B:Heap}:∀{l:ck},s.heap.FunFrames base l->(∀b∈qK l,B.get? b=none)->s.heap.FunFrames B l
 |[],_,_=>trivial|e::r,⟨k,⟨L,o,hf,hn,a,hd⟩,H⟩,h=>⟨k,⟨L,o,hf,h L (by unfold qK;rw[bj,hf];exact ay ..),a,hd⟩,frames_at H λb c=>h b (by
   unfold qK;rw[bj,hf];exact aq _ c)⟩
def Nk {Q:Unit->Shared->Prop}(r:A.frames=some (env::outer))(hf:env.frame=some L)(D:s.heap.FunFrames base (env::outer))(x:gk H s.heap g e C)
  (tr:∀b u,H b=some u->∃o,s.heap.get? b=some o)(th:∀b o,g.get? b=some o->∃o',s.heap.get? b=some o')
  (hQ:∀h',(∀b o,s.heap.get? b=some o->b∉qK (env::outer)->((∃o',g.get? b=some o')∨∃u,H b=some u)->h'.get? b=some o)->(∀b o,s.heap.get? b=some o->b∈qK (env::outer)->∃X,h'.get? b=some { o with slots:=X })->
   gk H h' g e C->Tr h' e->Q () { s with heap:=h' }):wpAny M A (leaving env (.ref e)) Q E s:=by
 obtain⟨J,P,oe,vs,a0,he,Y,hd,h0,y⟩:=x;have fin:∀(d:bY),(∀b∈qK (env::outer),b∈d)->(∀b∈d,b∉qK (env::outer)->g.get? b=none/\H b=none)->∀h',Heap.LeftW (hideAll s.heap d) (env::outer) e C a0 s.heap h'->Q () { s with heap:=h' }:=by
  intro d hi1 p h' ⟨st,ff,t,us⟩;refine hQ h' (λb o h nb hx=>?_) (λb o h mb=>?_) ?_ (by obtain⟨i,v,T,B,ts,j,_,k,n,_⟩:=t;exact⟨i,v,T,j,k,n⟩)
  ·refine st b o (bM d h λhm=>?_)
   obtain⟨z1,z2⟩:=p b hm nb;rcases hx with ⟨o',q⟩|⟨u,q⟩
   ·rw[z1]at q;cases q
   ·rw[z2]at q;cases q
  ·obtain⟨_,o',a,f⟩:=D.mem mb
   rw[h]at a;cases a;exact us b o h f
  ·obtain⟨i,v,T,B,ts,j,⟨K,U⟩,k,n,w,l,hT,c,S⟩:=t
   have nT:T∉qK (env::outer):=λhm=>by
    obtain⟨_,o',a,f⟩:=D.mem hm;obtain⟨X,z⟩:=us T o' a f;rw[hT]at z;cases z;exact f ts c
   have both:g.get? T=none/\H T=none:=by
    cases q:s.heap.get? T with
    |some o=>
     by_cases hm:T∈d
     ·exact p T hm nT
     ·rw[bM d q hm]at w;cases w
    |none=>
     constructor
     ·cases z:g.get? T with
      |none=>rfl|some o=>obtain⟨o',Z⟩:=th T o z;rw[q]at Z;cases Z
     ·cases z:H T with
      |none=>rfl|some u=>obtain⟨o',Z⟩:=tr T u z;rw[q]at Z;cases Z
   exact⟨J,P,i,v,a0,j,K,k,U,.inr ⟨T,B,ts,n,l,both.1,both.2,hT,c,S⟩⟩
 have stay:∀d:bY,(hideAll s.heap d).StaysIn s.heap:=λd b o q=>of_hideAll d q;rcases y with y|⟨T,B,ts,y,l,I,N,hT,c,S⟩
 ·have hn:∀b∈e::qK (env::outer),(hideAll s.heap (e::qK (env::outer))).get? b=none:=λb h=>hideAll_none _ h
  refine wpAny_leaving_firstW (base:=hideAll s.heap (e::qK (env::outer))) r (frames_at D λb h=>hn b (aq _ h)) hf he (stay _) (hn e (ay ..)) hd y h0 ?_;rw[Y];refine fin _ (λb h=>aq _ h) λb h nb=>?_;rcases cz.mp h with rfl|h
  ·exact⟨J,P⟩
  ·exact absurd h nb
 ·have hn:∀b∈e::T::qK (env::outer),(hideAll s.heap (e::T::qK (env::outer))).get? b=none:=λb h=>hideAll_none _ h
  refine wpAny_leaving_nextW (base:=hideAll s.heap (e::T::qK (env::outer))) r (frames_at D λb h=>hn b (aq _ (aq _ h))) hf
   ⟨oe,vs,T,B,ts,he,⟨Y,h0⟩,hd,y,hn T (aq _ (ay ..)),l,hT,c,S⟩ (stay _) (hn e (ay ..)) ?_
  refine fin _ (λb h=>aq _ (aq _ h)) λb h nb=>?_;rcases cz.mp h with rfl|h
  ·exact⟨J,P⟩
  ·rcases cz.mp h with rfl|h
   ·exact⟨I,N⟩
   ·exact absurd h nb
end
inductive MX (P:Program)(w:World)(outer:ck)(H:Hp)(s:Shared)(E:XK)(e:Value)(s':Shared):Prop
 |mk (ea C:Addr) (H':Hp) (he:e=.ref ea) (os:s'.os=s.os) (b:AllBare s'.gens) (un:Un (qK outer) [] H H' s.heap s'.heap) (hk:ye P w H' s'.heap) (ly:gk H' s'.heap s.heap ea (.ref C)) (tr:Tr s'.heap ea) (q:E (.ref C) none H')
noncomputable def gO (P:Program)(w:World):gT:=λouter H s E e s'=>MX P w outer H s E e s'
def _root_.L2.jh.obj {o:HO}(x:jh P w H h a o):∃ob,h.get? a=some ob:=by
 cases o with
 |lst xs=>obtain⟨_,_,_,_,e⟩:=x;exact⟨_,e⟩|tup xs=>obtain⟨_,_,_,o,e,_⟩:=x;exact⟨o,e⟩|dK kvs=>obtain⟨_,_,_,_,o,_,_,e,_⟩:=x;exact⟨o,e⟩|dT kvs=>obtain⟨_,_,_,_,o,_,_,e,_⟩:=x;exact⟨o,e⟩|set S n=>obtain⟨o,_,_,_,e,_⟩:=x;exact⟨o,e⟩|ins C d fs=>obtain⟨_,_,_,e,_⟩:=x;exact⟨_,e⟩|own y=>exact x|xd fs=>obtain⟨_,⟨o,_,_,e,_⟩,_⟩:=x;exact⟨o,e⟩|rng lo i=>obtain⟨_,_,_,e⟩:=x;exact⟨_,e⟩|frz ob u=>exact⟨ob,x.1⟩|tbl ps=>exact⟨_,(show h.get? a=some _ from x)⟩|met f y=>exact⟨_,(show h.get? a=some _ from x)⟩|ext φ=>exact x.2.1
def FZ {K:Frag}{cd:Value}{A:Around}{outer:ck}{E:XK}
  {h:Hp}{a C:Addr}(I:Inv (gn (gO P w) P w K mg base N qual scope f cd A outer s H E) pins σ h s')(x:gk h s'.heap s.heap a (.ref C))(p:E (.ref C) none h):
  (gn (gO P w) P w K mg base N qual scope f cd A outer s H E).xe (.ref a) s':=by
 have bs:Un (qK outer) [] H h s.heap s'.heap:=I.base;have stk:∀b∈qK (envOfC qual scope s.heap.objs.size f cd::outer),h b=none:=I.stkFree;have k:s.heap.get? s.heap.objs.size=none:=Heap.get?_none_of_le (av _);have g:(envOfC qual scope s.heap.objs.size f cd).frame=some s.heap.objs.size:=rfl;have mem:∀b,b∈qK (envOfC qual scope s.heap.objs.size f cd::outer)↔b=s.heap.objs.size∨b∈qK outer:=λb=>by
  unfold qK;rw[bj,g];exact bQ
 show wpAny (model P w) (A.deeper (envOfC qual scope s.heap.objs.size f cd)) (leaving (envOfC qual scope s.heap.objs.size f cd) (.ref a)) _ _ s';refine Nk (base:=base) (L:=s.heap.objs.size) I.ok.frames rfl I.stack x (λb u e=>(I.hok b u e).obj) (λb o e=>bs.there b o e (by simp)) λh' k1 k2 X t=>?_
 have r:∀b u,h b=some u->b∉qK (envOfC qual scope s.heap.objs.size f cd::outer):=λb u e hm=>by rw[stk b hm]at e;cases e
 refine⟨a,C,h,rfl,I.os,I.bare,⟨λb o e n nb _=>?_,λb o e n mb _=>?_,λb o e n d=>bs.free b o e n d,λb o e d=>?_,bs.tups,bs.frzs,bs.tbls⟩,λb u e=>?_,X,t,p⟩
 ·have i:b≠s.heap.objs.size:=λz=>by rw[z,k]at e;cases e
  exact k1 b o (bs.keep b o e n nb (by simp)) (λhm=>(mem b).mp hm |>.elim i nb) (.inl ⟨o,e⟩)
 ·obtain⟨l,q⟩:=bs.slot b o e n mb (by simp)
  obtain⟨S,Q⟩:=k2 b _ q ((mem b).mpr (.inr mb));exact⟨S,Q⟩
 ·obtain⟨o',q⟩:=bs.there b o e d
  by_cases hm:b∈qK (envOfC qual scope s.heap.objs.size f cd::outer)
  ·obtain⟨l,z⟩:=k2 b o' q hm;exact⟨_,z⟩
  ·exact⟨o',k1 b o' q hm (.inl ⟨o,e⟩)⟩
 ·refine(I.hok b u e).stay (λc v j q=>?_) (λ_ q=>q) λ_ _ q=>q
  rcases j with z|z
  ·rw[z]at q ⊢;exact k1 b v q (r b u e) (.inr ⟨u,e⟩)
  ·exact k1 c v q (r c _ z) (.inr ⟨_,z⟩)
def Pu {E:XK}{e:Value}(I:Inv X pins σ H s)(h:gO X.prog X.w X.stack H s E e s')(g:Heap)(l:∀b o,g.get? b=some o->∃o',s.heap.get? b=some o'):
  ∃a C c,e=.ref a/\Inv X pins σ c s'/\gk c s'.heap g a (.ref C)/\Tr s'.heap a/\E (.ref C) none c:=by
 obtain⟨a,C,c,rfl,os,bare,un,hok,x,tr,p⟩:=h;obtain⟨k,r,d,t,f⟩:=s';obtain rfl:f=s.os:=os;refine⟨a,C,c,rfl,I.call (h':=k) (g':=r) (d':=d) (t':=t) (ch:=[]) un hok bare (λb z=>absurd z (by simp)),?_,tr,p⟩
 have up:∀b,s.heap.get? b=none->g.get? b=none:=λb n=>by
  cases z:g.get? b with
  |none=>rfl|some o=>obtain⟨o',q⟩:=l b o z;rw[n]at q;cases q
 obtain⟨a1,a2,i,vs,Q,P,N,M,L,B⟩:=x;refine⟨up a a1,a2,i,vs,Q,P,N,M,L,?_⟩;rcases B with B|⟨T,j,ts,K,J,D,A,y,v,u⟩
 ·exact .inl B
 ·exact .inr ⟨T,j,ts,K,J,up T D,A,y,v,u⟩
noncomputable def Zq (K:Frag)(E:XK):XR:=λx H=>∀C:Addr,kC K x (.ref C)->E (.ref C) none H
inductive Xi (K:Frag)(n:Nat)(f:Fn)(vs:List V)(H:Hp)(Q:VK)(E:XK):Prop
 |mk (len:vs.length=n) (φ:bY) (A:Hx) (ws:List W) (S:zN K φ A H) (r:zD K φ H ws vs) (q:(f ws A).post (PB K φ H Q) (EB K φ H (Zq K E)))
def Xi.len {K:Frag}{f:Fn}{Q:VK}{E:XK}(h:Xi K n f vs H Q E):vs.length=n:=by cases h;assumption
inductive yC (P:Program)(w:World)(K:Frag)(mg:cg)(base:Heap)(k:Nat)(x:Str)(n:Nat)(f:Fn):Prop
 |mk (fa:Addr) (fd:FuncData) (ps:b9) (F:km P w K mg base (gO P w) k fa fd ps (Xi K n f)) (at_:mg x=some (.ref fa)) (kp:keepIn K (.ref fa)=true) (bi:Binds K fd ps [])
structure Zn (X:Cx)(g:Heap)(xr:XR):Prop where
 th:∀pins σ H s,Inv X pins σ H s->∀b o,g.get? b=some o->∃o',s.heap.get? b=some o'
 out:∀pins σ H s ea C x,Inv X pins σ H s->gk H s.heap g ea (.ref C)->kC X.K x (.ref C)->xr x H->X.xe (.ref ea) s
def fm {K:Frag}{cd:Value}{A:Around}{outer:ck}{E:XK}:
  Zn (gn (gO P w) P w K mg base N qual scope f cd A outer s H E) s.heap (Zq K E) where
 th:=λpins σ h s' I b o e=>(show Un (qK outer) [] H h s.heap s'.heap from I.base).there b o e (by simp)
 out:=λpins σ h s' d C x I l c a=>FZ I l (a C c)
section
variable {g:Heap}{c:Expr}
noncomputable def fo (K:Frag)(X:XR):XK:=λc _ H=>∃x C,c=.ref C/\kC K x (.ref C)/\X x H
def Zn.passes (x:Zn X g xr):Passes (gO X.prog X.w) X (fo X.K xr):=λpins σ H s e s' I h=>by
 obtain⟨b,C,d,rfl,i,l,_,nm,f,E,c,a⟩:=Pu I h g (x.th pins σ H s I);cases E;exact x.out pins σ d s' b C nm i l c a
end
noncomputable def Zm (n:Nat)(m:Ex):Fn:=λws A=>(m (ws.map some++List.replicate (n-ws.length) none) A).bind λf A1=>match f with
 |.rt w=>.ok w A1|.nx _=>.ok .non A1|_=>.bad
inductive UA (C:Addr)(bmB:bX)(newId:String)(h:Heap):Prop
 |mk (tl N nm q bs hdct sn sub ab col dd k0 k1 k2 k3 k5 mN:_) (obj:h.get? C=some (excClassObj nm q C N bs tl hdct sn sub ab col dd k0 k1 k2 k3 k5 newId)) (ns:h.Ns N mN) (init:mN "__init__"=none) (tail:OwnTail h bmB tl)
noncomputable def fq (d:Data):Option { c:ClassData // d=.cls c }:=match d with
 |.cls c=>some ⟨c,rfl⟩|_=>none
def Zo (K:Frag)(C:Addr)(b:bX)(newId:String):Bool:=(K.lookup C).any λo=>(fq o.data).any λc=>
 o.cls==.type "type" && c.1.mro==.ref C::c.1.mro.tail&&o.slots.toList==[o.slots.toList.getD 0 none,o.slots.toList.getD 1 none,o.slots.toList.getD 2 none,o.slots.toList.getD 3 none,some (.builtin newId),o.slots.toList.getD 5 none]
  && c.1.hasDel==false&&PySem.W.tailIn K b c.1.mro.tail&&PySem.W.nsOkIn K c.1.ns&&nsIn K c.1.ns "__init__" == some none
def UG {K:Frag}{C:Addr}{b:bX}{newId:String}(X:K.In h)(q:Zo K C b newId=true):UA C b newId h:=by
 obtain⟨⟨o,dd,dat,⟨s⟩⟩,H,q⟩:=(any_eq_true _ _).mp q;obtain⟨⟨⟨nm,bs,mro,ns,Q,hd,sn,sub,ab,col,del⟩,i⟩,-,q⟩:=(any_eq_true _ _).mp q;simp only[ar,aM]at q;obtain⟨⟨⟨⟨⟨⟨g,f⟩,d⟩,c⟩,a⟩,e⟩,E⟩:=q;cases i;cases g;cases c;exact⟨mro.tail,ns,nm,Q,bs,hd,sn,sub,ab,col,dd,_,_,_,_,_,_,X _ _ (by rw[H,f,d];rfl),.of_isNs (PySem.W.isNs_of_in X e),PySem.W.nsMap_none_of_in X e E,PySem.W.tail_of_in X a⟩
noncomputable def Uh (x:Str)(M:Ea):Ex:=λρ A=>(M ρ A).bind λ_ A1=>.exc x A1
section
variable {g:Heap}{es:cc}{mr:Ea}{np:Pos}{C:Addr}{B newId initId:String}{bmB:bX}
def BV {e:Addr}{vs:bX}(x:Zn X g xr)(I:Inv X pins σ H s)(m:Heap.MadeExcOf s.heap h' e (.ref C) vs):
  Inv X pins σ H { s with heap:=h' }/\gk H h' g e (.ref C):=by
 have N:∀b,s.heap.get? b=none->H b=none:=λb z=>by
  cases q:H b with
  |none=>rfl|some u=>obtain⟨o,k⟩:=(I.hok b u q).obj;rw[z]at k;cases k
 have n:∀b,s.heap.get? b=none->g.get? b=none:=λb z=>by
  cases q:g.get? b with
  |none=>rfl|some o=>obtain⟨o',k⟩:=x.th pins σ H s I b o q;rw[z]at k;cases k
 obtain⟨t,he,a,h⟩:=m.there;refine⟨I.call' (s':={ s with heap:=h' }) (ch:=[]) rfl ⟨λb o q _ _ _=>m.keeps b o q,λb o q _ _ _=>⟨o.slots,m.keeps b o q⟩,λb o q z _=>z,λb o q _=>⟨o,m.keeps b o q⟩,λ_ _ q=>q,λ_ _ _ q=>q,λb ps q=>⟨#[],by rw[Array.append_empty];exact q⟩⟩
  (λb u q=>(I.hok b u q).stay (λc v _ z=>m.keeps c v z) (λ_ z=>z) λ_ _ z=>z) I.bare (λb z=>absurd z (by simp)),?_⟩
 exact⟨n e m.new,N e m.new,_,_,_,he,rfl,rfl,rfl,.inl rfl⟩
def E1 (o:Zn X g xr)(f:kC X.K x (.ref C))(ex:Zo X.K C bmB newId=true)(FB:ExcBaseFacts B newId initId bmB)(w:SA X xr (e::es) mr)(u:Qo mr n)(hn:n<=sizeLine:=by decide)(v:Gl X x:=by rfl)(a:X.calm=true:=by rfl)
  (d:(x==("__debug__":Str))=false:=by decide)(he:starEach (e::es) X.env=(false,eval e X.env)::starEach es X.env:=by rfl)(l:(backTo cpos (starEach es X.env)).any (·.1)=false:=by rfl):
  SS X xr (.Raise (some (.Call (.Name x np) (e::es) [] cpos)) none pos) (Uh x mr):=by
 intro pins s σ H D I ⟨φ,A,ρ,S,re,h⟩;have hm:X.mg x=some (.ref C):=a7 I.mod.kin I.mod.glob f;obtain⟨t,N,nm,q,bs,hdct,sn,sub,ab,col,dd,k0,k1,k2,k3,k5,mN,J,z,c,T⟩:=UG I.mod.kin ex;refine wpAny_Raise_call_subT (C:=C) (nm:=nm) (q:=q) (N:=N) (bs:=bs) (bm:=t) (hdct:=hdct) (sn:=sn) (sub:=sub) (ab:=ab) (col:=col) (dd:=dd) (k0:=k0) (k1:=k1) (k2:=k2) (k3:=k3) (k5:=k5)
  FB (mN:=mN) (T.hasType FB.hasBase) (I.ok.hd a) (by rw[he];show(false || (backTo cpos (starEach es X.env)).any (·.1))=false;rw[l];rfl) c (Ku I v hm ⟨rfl,?_⟩ d)
 have h':=qa.mp h;have j:=w cpos pins s σ H (λvs H1=>vs.length<=sizeLine/\xr x H1) I ⟨φ,A,ρ,S,re,?_⟩
 ·rw[he]at j ⊢
  refine Calls.evalArgs_plain (wpAny_mono j (λus s2 M=>?_) λ_ _ y=>y);obtain⟨vs,Z,i,r,hlen,p⟩:=M;refine⟨rfl,?_,i.bk _ _ J,z.keeps i.bk,T.keeps i.bk,λh3 P m=>?_⟩
  ·rw[<- r.length];exact hlen
  ·obtain⟨Y,L⟩:=BV o i m
   exact o.out pins σ Z _ P C x Y L f p
 ·cases E:mr ρ A with
  |ok ws A1=>
   rw[E]at h';intro b H1 vs k U Q;refine⟨?_,h' b H1 k U⟩;rw[<- Q.length,u ρ A ws A1 E];exact hn
  |exc y A1=>rw[E]at h';exact h'|bad=>rw[E]at h';exact h'
end
noncomputable def mJ:List Ev->Str->Ev
 |[],acc=>λ_ A=>.ok (.str acc) A|m::ms,acc=>λρ A=>(m ρ A).bind λw A1=>match w with
  |.str y=>if (acc++y).length<=sizeLine then mJ ms (acc++y) ρ A1 else .bad|_=>.bad
section
variable {es:cc}{m:Ev}{ms:List Ev}
inductive SJ (X:Cx)(xr:XR):List Expr->List Ev->Prop where
 |nil:SJ X xr [] []
 |cons {e:Expr} {es:cc} {m:Ev} {ms:List Ev} (h:SE X xr e m) (r:SJ X xr es ms):SJ X xr (e::es) (m::ms)
end
section
variable {A:Around}{e C:Addr}{oe:Obj}{bmB bmD:bX}{newId newD:String}{Q:Bool->Shared->Prop}
def Nd (h:Heap)(C D:Addr):Prop:=∃o cd,h.get? C=some o/\o.data=.cls cd/\cd.mro.contains (.ref D)=true
def Hi (lc:UA C bmB newId s.heap)(ld:UA D bmD newD s.heap)(j:bmD.contains (.type "BaseException")=true)(he:s.heap.get? e=some oe)(a:oe.cls=.ref C)(up:Nd s.heap C D)(v:Q true s):
  wpAny M A (excMatches (.ref e) (.ref D)) Q E s:=by
 obtain⟨h,g,d,t,os⟩:=s;obtain⟨l,N,nm,q,bs,hdct,sn,sub,ab,col,dd,k0,k1,k2,k3,k5,mN,k,_,_,_⟩:=lc;obtain⟨T,Y,r,I,x,c,p,S,y,o,w,X,U,P,K,L,u,n,_,_,z⟩:=ld;obtain⟨J,cd,b,hd,hm⟩:=up;rw[k]at b;cases b;have H:(excClassObj nm q C N bs l hdct sn sub ab col dd k0 k1 k2 k3 k5 newId).data=.cls cd:=hd;unfold excClassObj at H;cases H;have B:(Value.ref D::T).contains (.type "BaseException")=true:=by rw[List.contains_cons,z.hasType j,Bool.or_true]
 have i:(Value.ref C::l).contains (.ref D)=true:=hm;have f:=tc_notTuple;unfold excMatches
 repeat (first|(with_reducible refine wpAny_loadPart_at he ?_;rw[a])|with_reducible refine wpAny_loadPart_at n ?_|with_reducible refine wpAny_loadPart_at k ?_|(with_reducible refine wpAny_isSubtype_exc n ?_;rw[B])|(with_reducible refine wpAny_isSubtype_exc k ?_;rw[i])|wp_step)
 exact v
end
section
variable {H0:Hp}{s0:Shared}{ea C:Addr}
def landed {T:Addr}{a0:Value}(g:Inv X pins σ H0 s0)(I:Inv X pins σ H s)(x:gk H s.heap s0.heap ea (.ref C))(nT:s0.heap.get? T=none)(hT:H T=none)
  (th:∀b o,s0.heap.get? b=some o->∃o',s.heap.get? b=some o')
  (fl:Heap.FlyingW (hideAll s.heap (ea::T::qK X.stack)) X.stack ea (.ref C) a0 h')(us:s.heap.UpToSlots h'):
  Inv X pins σ H { s with heap:=h' }/\gk H h' s0.heap ea (.ref C)/\Tr h' ea/\∀b o,s0.heap.get? b=some o->∃o',h'.get? b=some o':=by
 obtain⟨st,_,ff,Z,vs,t,oT,ts,he,⟨A,h0⟩,hd,h1,l,B,D,w,h3⟩:=fl;have ng:s0.heap.get? ea=none:=by cases x;assumption
 have nH:H ea=none:=by cases x;assumption
 have kept:∀b o,s.heap.get? b=some o->b∉qK X.stack->b≠ea->b≠T->h'.get? b=some o:=λb o q n1 j N=>st b o (bM _ q λhm=>by
  rcases cz.mp hm with z|hm
  ·exact j z
  rcases cz.mp hm with z|hm
  ·exact N z
  ·exact n1 hm)
 have slot:∀b o,s.heap.get? b=some o->b∈qK X.stack->∃S,h'.get? b=some { o with slots:=S }:=λb o q hm=>by
  obtain⟨_,o',h,f⟩:=I.stack.mem hm;rw[q]at h;cases h;exact us b o q f
 have off:∀b u,H b=some u->b∉qK X.stack/\b≠ea/\b≠T:=λb u q=>⟨λhm=>(by rw[I.stkFree b hm]at q;cases q),λz=>(by rw[z,nH]at q;cases q),λz=>(by rw[z,hT]at q;cases q)⟩
 have ne:∀b o,s0.heap.get? b=some o->b≠ea/\b≠T:=λb o q=>⟨λz=>(by rw[z,ng]at q;cases q),λz=>(by rw[z,nT]at q;cases q)⟩
 have any:∀b o o',s0.heap.get? b=some o'->s.heap.get? b=some o->∃S,h'.get? b=some { o with slots:=S }:=λb o o' Q q=>by
  by_cases hm:b∈qK X.stack
  ·exact slot b o q hm
  ·exact⟨o.slots,kept b o q hm (ne b o' Q).1 (ne b o' Q).2⟩
 have cell:∀y c,X.env.cells.lookup y=some c->∀v,s.heap.IsCell c v->h'.IsCell c v:=λy c e v ⟨o,L,hd⟩=>by
  obtain⟨_,o0,d,_⟩:=g.cell y c e;obtain⟨S,z⟩:=any c o o0 d L;exact⟨_,z,hd⟩
 have inv:Inv X pins σ H { s with heap:=h' }:=by
  refine⟨I.ok,I.os,I.bare,⟨λb o q n K nx=>?_,λb o q n hf nx=>?_,I.base.free,λb o q nx=>?_,I.base.tups,I.base.frzs,I.base.tbls⟩,?_,λy c e=>?_,I.free,I.freeC,λp hp=>?_,λb u q=>?_,I.len⟩
  ·have a:=I.base.keep b o q n K nx
   have Q:=g.base.keep b o q n K nx;refine kept b o a (λhm=>?_) (ne b o Q).1 (ne b o Q).2;rcases cz.mp (I.stkSub b hm) with z|z
   ·exact absurd (aE (aF q) I.ok.above) (by rw[z];exact aV _)
   ·exact K z
  ·obtain⟨S,a⟩:=I.base.slot b o q n hf nx
   obtain⟨sl0,Q⟩:=g.base.slot b o q n hf nx;obtain⟨E,z⟩:=any b _ _ Q a;exact⟨E,z⟩
  ·obtain⟨J,a⟩:=I.base.there b o q nx
   obtain⟨o0,Q⟩:=g.base.there b o q nx;obtain⟨S,z⟩:=any b J o0 Q a;exact⟨_,z⟩
  ·obtain⟨m,⟨o,es,ep,L,r⟩,k⟩:=I.loc
   obtain⟨_,⟨o0,_,_,d,_⟩,_⟩:=g.loc;obtain⟨S,z⟩:=any _ o o0 d L;refine⟨m,⟨_,es,ep,z,r⟩,λi y v e1 e2 e3=>?_⟩;obtain⟨u,ru,lk⟩:=k i y v e1 e2 e3;refine⟨u,ru,?_⟩;rcases lk with lk|⟨lk,c,ec,M⟩
   ·exact .inl lk
   ·exact .inr ⟨lk,c,ec,cell y c ec _ M⟩
  ·obtain⟨v,hv⟩:=I.cell y c e
   exact⟨v,cell y c e v hv⟩
  ·obtain⟨p1,p2,U,P,p5⟩:=I.pin p hp
   have Y:=(g.pin p hp).1;refine⟨kept _ _ p1 (λhm=>?_) (ne _ _ Y).1 (ne _ _ Y).2,p2,U,P,p5⟩;rcases cz.mp (I.stkSub _ hm) with z|z
   ·exact U z
   ·exact P z
  ·refine(I.hok b u q).stay (λc v M z=>?_) (λ_ z=>z) λ_ _ z=>z
   rcases M with e|e
   ·obtain⟨n1,j,N⟩:=off b u q
    rw[e]at z ⊢;exact kept b v z n1 j N
   ·obtain⟨n1,j,N⟩:=off c _ e
    exact kept c v z n1 j N
 have both:s0.heap.get? t=none/\H t=none:=by
  cases q:s.heap.get? t with
  |some o=>
   by_cases hm:t∈ea::T::qK X.stack
   ·rcases cz.mp hm with z|hm
    ·exact absurd z B
    rcases cz.mp hm with z|hm
    ·rw[z];exact⟨nT,hT⟩
    ·obtain⟨S,z⟩:=slot t o q hm
     obtain⟨_,o',h,f⟩:=I.stack.mem hm;rw[q]at h;cases h;rw[D]at z;cases z;exact absurd w (f ts)
   ·rw[bM _ q hm]at l;cases l
  |none=>
   constructor
   ·cases z:s0.heap.get? t with
    |none=>rfl|some o=>obtain⟨o',k⟩:=th t o z;rw[q]at k;cases k
   ·cases z:H t with
    |none=>rfl|some u=>obtain⟨o',k⟩:=(I.hok t u z).obj;rw[q]at k;cases k
 exact⟨inv,⟨ng,nH,Z,vs,a0,he,A,hd,h0,.inr ⟨t,oT,ts,h1,B,both.1,both.2,D,w,h3⟩⟩,⟨Z,vs,t,he,hd,h1⟩,λb o q=>by
  obtain⟨J,a⟩:=th b o q;obtain⟨S,z⟩:=any b J o q a;exact⟨_,z⟩⟩
def flying (I:Inv X pins σ H s)(x:gk H s.heap s0.heap ea (.ref C))(tr:Tr s.heap ea):
  ∃T A,s0.heap.get? T=none/\H T=none/\Heap.FlyingW (hideAll s.heap (ea::T::qK X.stack)) X.stack ea (.ref C) A s.heap:=by
 obtain⟨t,u,l,vs,A,he,p,hd,h0,d⟩:=x;obtain⟨k,v,w,h,a,c⟩:=tr;rw[he]at h;cases h;rw[hd]at a;cases a;rcases d with d|⟨T,n,ts,d,i,e,j,hT,f,r⟩
 ·rw[d]at c;cases c
 ·have hn:∀b∈ea::T::qK X.stack,(hideAll s.heap (ea::T::qK X.stack)).get? b=none:=λb g=>hideAll_none _ g
  exact⟨T,A,e,j,λb o q=>of_hideAll _ q,hn ea (ay ..),frames_at I.stack λb g=>hn b (aq _ (aq _ g)),
   l,vs,T,n,ts,he,⟨p,h0⟩,hd,d,hn T (aq _ (ay ..)),i,hT,f,r⟩
end
noncomputable def KQ (o:Obj):HO:=.frz o (.own 0)
noncomputable def JV (K:Frag)(C D:Addr):Bool:=match K.lookup C with
 |some ⟨_,_,.cls cd,_⟩=>cd.mro.contains (.ref D)|_=>false
def ft {K:Frag}{C:Addr}(X:K.In h)(e:JV K C D=true):Nd h C D:=by
 unfold JV at e
 split at e
 ·rename_i H
  exact⟨_,_,X _ _ H,rfl,e⟩
 ·cases e
section
variable {H0:Hp}{s0:Shared}{ea C L:Addr}
def YI (i:Inv X pins σ H0 s0)(I:Inv X pins σ H s)(x:gk H s.heap s0.heap ea (.ref C)):∃a,a.cls=.ref C/\H ea=none/\Inv X pins σ (upd H ea (KQ a)) s:=by
 obtain⟨j,d,a,vs,A,he,k,_⟩:=x;refine⟨a,k,d,?_⟩;have ne:∀b o,s0.heap.get? b=some o->b≠ea:=λb o q z=>by rw[z,j]at q;cases q
 have at_:∀b,b≠ea->upd H ea (KQ a) b=H b:=λb n=>by unfold upd;exact aj n
 have N:∀b u,H b=some u->upd H ea (KQ a) b=some u:=λb u q=>by
  rw[at_ b λz=>by rw[z,d]at q;cases q];exact q
 refine⟨I.ok,I.os,I.bare,⟨I.base.keep,I.base.slot,λb o q n nx=>?_,I.base.there,λb xs q=>N _ _ (I.base.tups b xs q),λb o u q=>N _ _ (I.base.frzs b o u q),λb ps q=>?_⟩,I.loc,I.cell,?_,λy c e=>?_,λp hp=>?_,λb u q=>?_,I.len⟩
 ·obtain⟨o0,Q⟩:=i.base.there b o q nx
  rw[at_ b (ne b o0 Q)];exact I.base.free b o q n nx
 ·obtain⟨more,z⟩:=I.base.tbls b ps q
  exact⟨more,N _ _ z⟩
 ·obtain⟨m,⟨o0,_,_,h,_⟩,_⟩:=i.loc
  rw[at_ _ (ne _ o0 h)];exact I.free
 ·obtain⟨v,o0,h,_⟩:=i.cell y c e
  rw[at_ _ (ne _ o0 h)];exact I.freeC y c e
 ·obtain⟨g,f,P⟩:=I.pin p hp
  refine⟨g,?_,P⟩;rw[at_ _ (ne _ _ (i.pin p hp).1)];exact f
 ·by_cases z:b=ea
  ·subst z
   have:u=KQ a:=by
    unfold upd at q;rw[ag rfl]at q;exact(aB q).symm
   subst this;exact⟨he,⟨a,he⟩⟩
  ·rw[at_ b z]at q
   exact(I.hok b u q).stay (λ_ _ _ z=>z) (λc z=>N c _ z) λc xs z=>N c _ z
def fv (X:Cx)(pins:bZ)(σ:St)(s0:Shared)(D:Addr)(k:Addr->Addr->Hp->Prop)(e:Value)(s:Shared):Prop:=
 ∃E C H B n,e=.ref E/\Inv X pins σ H s/\gk H s.heap s0.heap E (.ref C)/\Tr s.heap E/\(∀b o,s0.heap.get? b=some o->∃o',s.heap.get? b=some o')/\Mi.Zo X.K C B n=true/\JV X.K C D=true/\∀a,a.cls=.ref C->H E=none->k E C (upd H E (KQ a))
def fw {l n:Str}{p:bX}{newD:String}{S:cu}{B:Stmt}{np hp:Pos}{Q:Flow->Shared->Prop}{k:Addr->Addr->Hp->Prop}
  (I0:Inv X pins σ H0 s0)(t:X.stack=X.env::X.outer)(hL:X.env.frame=some L)(hD:kC X.K l (.ref D))(exD:Mi.Zo X.K D p newD=true)(hbD:p.contains (.type "BaseException")=true)
  (hN:X.N.Nodup)(hi:X.N[i]? =some n)(hx:Loc X.env.scope n)
  (y:wpAny (model X.prog X.w) X.A (execs body X.env) (λf s1=>f=.next/\Q .next s1) (fv X pins σ s0 D k) s0)
  (b:∀E C H s2,Inv X pins (σ.set i (some (.ref E))) H s2->k E C H->∀E',wpAny (model X.prog X.w) (X.A.mark (some (.ref E))) (execs (B::S) X.env)
   (λf s4=>wpAny (model X.prog X.w) X.A (do bindName X.env n .none;unbindBehindTheSuite X.env n hp) (λ_ s5=>Q f s5) X.xe s4) E' s2)
  (hg:Gl X l)(Z:(l==("__debug__":Str))=false:=by decide)(hf:X.fn n=true∨X.env.scope.names.lookup n=some .local:=by first|exact .inl rfl|exact .inr rfl|assumption):
  wpAny (model X.prog X.w) X.A (exec (.Try body [.ExceptHandler (some (.Name l np)) (some n) (B::S) hp] [] [] pos) X.env) Q X.xe s0:=by
 refine wpAny_Try_except (wpAny_mono y (λf s1 ⟨ef,q⟩=>?_) λe s1 h=>?_)
 ·subst ef
  exact wpAny_execs_nil q
 obtain⟨E,C,H,bmC,newC,rfl,I,x,tr,th,exC,up,hk⟩:=h;have hm:X.mg l=some (.ref D):=a7 I.mod.kin I.mod.glob hD;obtain⟨T,a0,nT,hT,fl⟩:=flying I x tr;have Y:X.A.frames=some (X.env::X.outer):=by rw[<- t];exact I.ok.frames
 refine wpAny_looks_onW Y hL (by rw[<- t];exact fl) λh₄ g d=>?_
 refine wpAny_landsW g λo a U=>?_;obtain⟨c,x5,r,z⟩:=landed I0 I x nT hT th (by rw[<- t]at a;exact a) (d.trans U)
 obtain⟨_,_,oe,_,_,he,hc,_⟩:=id x5;refine wpAny_handleBy_cons (codeAny_handlers_test (Calls.Name_function_global c.ok.kind hg (Calls.loadGlobal_global (by rw[c.ok.glob];exact c.mod.glob.keeps c.bk) hm ?_) Z)) (by intro q;cases q)
 refine Hi (s:={ s1 with heap:=o }) (UG c.kIn exC) (UG c.kIn exD) hbD he hc (ft c.kIn up) ?_
 refine codeAny_handlers_suite_as ?_;obtain⟨T',a0',M,hT',fl'⟩:=flying c x5 r;refine lands_againW fl' λh₆ j u=>?_;obtain⟨I6,x6,_,_⟩:=landed I0 c x5 M hT' z j u;obtain⟨of,P,J,I7⟩:=YI I0 I6 x6;exact W8 (v:=.ref E) I7 hN hi hx rfl (λs7 I7=>b E C _ s7 I7 (hk of P J) _) hf
end
section
variable {A:Around}
def name_goes {n:Str}{Q:Unit->Shared->Prop}(I:Inv X pins σ H s)(hN:X.N.Nodup)(D:X.N[i]? =some n)(Y:X.env.scope.names.lookup n=some .local)
  (h:∀s',Inv X pins (σ.set i none) H s'->Q () s'):wpAny M A (do bindName X.env n .none;unbindBehindTheSuite X.env n pos) Q E s:=by
 obtain⟨m,hn,T⟩:=id I.loc;have f:i < σ.length:=by rw[I.len];exact(cA.mp D).1
 refine wpAny_nameGoes_keeps Y hn (by rw[I.ok.kind];rfl) λh' v w t=>h _ ?_
 have old:∀b o,b≠X.env.locals->s.heap.get? b=some o->h'.get? b=some o:=λb o n q=>(t.2 b n).trans q;have nl:∀{b:Addr}{u:HO},H b=some u->b≠X.env.locals:=λq z=>by rw[z,I.free]at q;cases q
 have ab:∀{b:Addr}{k:Nat},b<k->k<=X.env.locals->b≠X.env.locals:=λl g=>aK (aE l g);refine⟨I.ok,I.os,I.bare,⟨λb o e z C x=>?_,λb o e z C x=>?_,I.base.free,λb o e x=>?_,I.base.tups,I.base.frzs,I.base.tbls⟩,⟨_,w,λj y K a r e3=>?_⟩,λy c e=>?_,I.free,I.freeC,λp hp=>?_,λb u q=>?_,by simpa using I.len⟩
 ·exact old b o (ab (aF e) I.ok.above) (I.base.keep b o e z C x)
 ·obtain⟨S,a⟩:=I.base.slot b o e z C x
  exact⟨S,old b _ (ab (aF e) I.ok.above) a⟩
 ·obtain⟨o',a⟩:=I.base.there b o e x
  exact⟨o',old b _ (ab (aF e) I.ok.above) a⟩
 ·by_cases B:j=i
  ·subst B
   rw[aJ f]at r;cases r
  ·rw[aG (Ne.symm B)]at r
   obtain⟨U,L,q⟩:=T j y K a r e3;refine⟨U,L,?_⟩;rcases q with ⟨k,e⟩|⟨k,c,e,z⟩
   ·have:y≠n:=λe=>B (VG hN a (e ▸ D))
    exact .inl ⟨k,by simp[this,e]⟩
   ·exact .inr ⟨k,c,e,z.sameBut t (I.cne y c e)⟩
 ·obtain⟨J,z⟩:=I.cell y c e
  exact⟨J,z.sameBut t (I.cne y c e)⟩
 ·obtain⟨e,z,ne,P,d⟩:=I.pin p hp
  exact⟨old _ _ ne e,z,ne,P,d⟩
 ·refine(I.hok b u q).stay (λc v Z z=>old c v ?_ z) (λ_ z=>z) λ_ _ z=>z
  rcases Z with e|e
  ·rw[e];exact nl q
  ·exact nl e
def HN {n y:Str}{E:Addr}{np Y ap hp:Pos}{Q:Flow->Shared->Prop}{z:cb}(I:Inv X pins (σ.set i (some (.ref E))) H s)(d:X.N.Nodup)(b:X.N[i]? =some n)(t:X.N[j]? =some y)
  (h:X.env.scope.names.lookup n=some .local)(g:Loc X.env.scope y)(q:∀s',Inv X pins (((σ.set i (some (.ref E))).set j (some (.ref E))).set i none) H s'->Q .next s')
  (o:swapsWith (.Name n np) (some (.Name y Y)) ap.line X.env=pure false)(hf:X.fn y=true∨X.env.scope.names.lookup y=some .local)
  (c:(n==("__debug__":Str))=false:=by decide):
  wpAny (model X.prog X.w) A (execs [.Assign [.Name y Y] (.Name n np) ap] X.env) (λf s4=>wpAny (model X.prog X.w) X.A (do bindName X.env n .none;unbindBehindTheSuite X.env n hp) (λ_ s5=>Q f s5) X.xe s4) z s:=by
 obtain⟨m,hn,p⟩:=I.loc;have a:i < σ.length:=by have:=I.len;rw[length_set]at this;rw[this];exact(cA.mp b).1
 obtain⟨u,r,l⟩:=p i n (.ref E) b (aJ a) (.inl h);obtain rfl:u=Value.ref E:=r;have hm:m n=some (.ref E):=by
  rcases l with ⟨_,e⟩|⟨k|k,_⟩
  ·exact e
  ·rw[show X.env.kindOf n=some .local from h]at k;cases k
  ·rw[show X.env.kindOf n=some .local from h]at k;cases k
 refine wpAny_execs_cons (wpAny_Assign_Name (wpAny_Name (wpAny_loadName_local I.ok.kind h hn hm ?_) c) o);exact W8 (v:=.ref E) I d t g rfl (λs5 x=>wpAny_execs_nil (name_goes x d b h q)) hf
end
open PySem PySem.W PySem.Spec PySem.Calls PyProof.Rows Builtin Builtin.ObjectAttr Builtin.Getset_descriptor
section
variable {prog:Program}{A:Around}{K:Frag}{x:Addr}{name:Str}
def fx {a g:Value}(X:K.In h)(b:findIn K (.ref D) name=some (some a))(hn:specialIn K a "__get__"=some (some g))(H:takesIn K a=some true):Looks M h (find (.ref x) (.ref D) name) (.bind g a):=
 (looks_findIn (M:=M) X b).andThen ((show Looks M h (getOf (some a)) (some g) from looks_specialIn X hn).andThen
  ((show Looks M h (dataDescriptor? (some a) (some g)) (some (g,a)) from (looks_takesIn (M:=M) X H).andThen .now).andThen (Looks.tag .now)))
def CH {tp:Value}{R:Result->Shared->Prop}(X:K.In s.heap)(l:Looks (model prog w) s.heap (typeOf (.ref x)) (.ref D))(hm:mroIn K D (.type "object")=some true)(h:R (.ok (.ret (.ref D))) s):
  codeAny (model prog w) A (.call (.builtin "getset_descriptor.__get__") ⟨[.builtin "object.__class__",.ref x,tp],[]⟩) R s:=by
 obtain⟨h0,g,d,t0,o0⟩:=s;have L:=looks_mroIn (M:=model prog w) X hm;have S:=KF.slot_gs;refine codeAny_call_builtin S.plain KF.entry_gs (S.check _ _ _ _ _ _ _ _ KF.type_class (KF.args_gs _ _ _) ?_);unfold «getset_descriptor.__get__» descrGet;rw[dga_obj];refine cw (cx ?_);unfold descrGetter descrCheckInstance isInstance descrNameAndClass;simp only[KF.owner_class]
 repeat lk
 refine And.intro (Code.quiet_builtin _ (by decide +kernel)) (codeAny_builtin KF.entry_class ?_)
 unfold «object.__class__» shownTypeOf
 repeat lk
 exact h
def Hv {rest:bX}{kw:List (Str×Value)}{Q:Unit->Shared->Prop}(X:K.In s.heap)(l:Looks M s.heap (typeOf (.ref x)) (.ref D))(hm:mroIn K D (.type "BaseException")=some true)
  (ok:argsOk "BaseException.__getattribute__" ⟨.ref x::rest,kw⟩)(h:Q () s):wpAny M A (checkBuiltinCall "BaseException.__getattribute__" ⟨.ref x::rest,kw⟩) Q E s:=by
 have cut:splitId "BaseException.__getattribute__"=some ("BaseException","__getattribute__"):=by first|rfl|decide +kernel
 have kinds:builtinKind "BaseException.__getattribute__"=some .slot∨builtinKind "BaseException.__getattribute__"=some .method:=by
  simp only[builtinKind,cut]
  first|exact .inl (by decide +kernel)|exact .inr (by decide +kernel)
 have L:=looks_mroIn (M:=M) X hm;have r:wpAny M A (match Manifest.signature? "BaseException.__getattribute__" with|some sig=>Bind.checkArgs "BaseException.__getattribute__" sig ⟨.ref x::rest,kw⟩|none=>pure ()) Q E s:=wpAny_of_eq ok h
 rcases kinds with k|k
 all_goals
  unfold checkBuiltinCall;rw[k,cut];dsimp only;unfold isInstance;refine cw (cw (l.at (L.at ?_)));exact r
def Ij {Q:Option Value->Shared->Prop}(b:findIn K (.ref D) "__getattribute__"=some (some (.builtin "BaseException.__getattribute__")))(n:findIn K (.ref D) "__getattr__"=some none)
  (e:findIn K (.ref D) "__class__"=some (some (.builtin "object.__class__")))
  (hn:specialIn K (.builtin "object.__class__") "__get__"=some (some (.builtin "getset_descriptor.__get__")))(H:takesIn K (.builtin "object.__class__")=some true)(hm:mroIn K D (.type "object")=some true)(a:mroIn K D (.type "BaseException")=some true)
  (X:K.In s.heap)(L:Looks (model prog w) s.heap (typeOf (.ref x)) (.ref D))(h:Q (some (.ref D)) { s with toks:=s.toks+1 }):wpAny (model prog w) A (getAttr? (.ref x) "__class__") Q E s:=by
 obtain⟨c,g,d,t,os⟩:=s;have l:=looks_findIn (M:=model prog w) X b;have L2:=fx (M:=model prog w) (x:=x) X e hn H;have f:=looks_findIn (M:=model prog w) X n;unfold getAttr?;unfold getAttrBy?;unfold getAttrBy;refine cw (wpAny_mkText (cw (wpAny_attempt (wpAny_holding (cw (L.at (cw (l.at ?_))))))));show wpAny _ _ (getAttrByItsOwn (.ref x) (.str "__class__" t) (.ref D) (.builtin "BaseException.__getattribute__") false false) _ _ _;unfold getAttrByItsOwn;refine cw ?_;show wpAny _ _ (typeLookup (.ref D) "__getattr__") _ _ _;refine f.at (cw (wpAny_attempt (wpAny_holding ?_)));show wpAny _ _ (bindSpecial (.builtin "BaseException.__getattribute__") (.ref x) >>= _) _ _ _;refine cw (wpAny_of_eq (F.excAttr_ValueError.ga.bind _) ?_);refine wpAny_call (codeAny_call_builtin F.excAttr_ValueError.ga.plain F.entry_bexc_ga (Hv X L a (F.args_bexc_ga _ _) ?_));unfold «object.__getattribute__»;refine cw (wpAny_of_eq (show slotArgs "__getattribute__" 1 ⟨[.ref x]++[.str "__class__" t],[]⟩=pure (.ref x,[.str "__class__" t]) from rfl) ?_)
 refine cw (wpAny_of_eq (show attrName (.str "__class__" t)=pure ("__class__":Str) from rfl) (cw (L.at (cw (L2.at ?_)))))
 show wpAny _ _ (holding [Value.builtin "object.__class__"] (call (.builtin "getset_descriptor.__get__") [.builtin "object.__class__",.ref x,.ref D]) >>= ret) _ _ _;refine cw (wpAny_holding (wpAny_call (CH (s:=⟨c,g,d,t+1,os⟩) X L hm ?_)));refine cx ?_;exact handed_on rfl (cx h)
end
def GC (x D:Addr)(h:Heap):Prop:=∃o,h.get? x=some o/\o.cls=.ref D
def GC.ty {x:Addr}(p:GC x D h):Looks M h (typeOf (.ref x)) (.ref D):=by
 obtain⟨o,H,c⟩:=p;rw[<- c];exact(Looks.ld H).andThen .now
def ED {K:Frag}{x:Addr}(d:(clsIn K D).isSome=true)(c:findIn K (.ref D) "__getattribute__"=some (some (.builtin "BaseException.__getattribute__")))(b:findIn K (.ref D) "__getattr__"=some none)(e:findIn K (.ref D) "__class__"=some (some (.builtin "object.__class__")))
  (hn:specialIn K (.builtin "object.__class__") "__get__"=some (some (.builtin "getset_descriptor.__get__")))(H:takesIn K (.builtin "object.__class__")=some true)(hm:mroIn K D (.type "object")=some true)(a:mroIn K D (.type "BaseException")=some true):
  KitX K (.ref x) (.ref D) (GC x D) where
 ty:=λ_ _ _ p=>p.ty
 it:=λ_ _ X _=>by
  obtain⟨C,h⟩:=Option.isSome_iff_exists.mp d;unfold clsIn at h
  split at h
  ·rename_i g d' f s o
   intro A' Q' E s' k q;unfold isType loadHead;exact cw (wpAny_loadPart (k _ _ (X D _ o)) (cx q))
  ·cases h
 ne:=λ_ tp dd i n S X t=>by
  obtain⟨C,h⟩:=Option.isSome_iff_exists.mp d;rw[Bool.eq_false_iff];intro q;cases Value.ref.inj (aM.mp q);unfold clsIn at h
  split at h
  ·rename_i o
   cases (X _ _ o).symm.trans t
  ·cases h
 ca:=λX p k=>Ij c b e hn H hm a X p.ty k
noncomputable def Kz (K:Frag)(C:Addr):Bool:=(PySem.W.clsIn K C).isSome&&(PySem.W.findIn K (.ref C) "__getattribute__" == some (some (.builtin "BaseException.__getattribute__")))&&(PySem.W.findIn K (.ref C) "__getattr__" == some none)&&(PySem.W.findIn K (.ref C) "__class__" == some (some (.builtin "object.__class__")))&&
 (PySem.W.specialIn K (.builtin "object.__class__") "__get__" == some (some (.builtin "getset_descriptor.__get__")))&&(PySem.W.takesIn K (.builtin "object.__class__")==some true)&&(PySem.W.mroIn K C (.type "object")==some true)&&(PySem.W.mroIn K C (.type "BaseException")==some true)
section
variable {A:Around}{c:Value}{b:Bool}{ea C:Addr}
def fy {o:Obj}{u:HO}(I:Inv X pins σ H s)(e:H ea=some (.frz o u))(d:o.cls=.ref C)(k:Kz X.K C=true)(q:kitOne X.K (.ref C) c=some b)(h:∀tk,Q (.bool b) { s with toks:=tk }):
  wpAny (model X.prog X.w) A (call (.builtin "isinstance") [.ref ea,c]) Q E s:=by
 have p:GC ea C s.heap:=⟨o,(show jh X.prog X.w H s.heap ea (.frz o u) from I.hok ea _ e).1,d⟩
 unfold Kz at k;simp only[ar,aM]at k;obtain⟨⟨⟨⟨⟨⟨⟨k1,k2⟩,a⟩,k3⟩,i⟩,k5⟩,g⟩,f⟩:=k;exact bI (ED k1 k2 a k3 i k5 g f) I.kIn p q (λz=>nomatch z) h
def fA (I:Inv X pins σ H s)(q:kitOne X.K (.type "NoneType") c=some b)(h:∀tk,Q (.bool b) { s with toks:=tk }):wpAny (model X.prog X.w) A (call (.builtin "isinstance") [.none,c]) Q E s:=
 Ph I (x:=.non) rfl .non q h
end
def Z1 (P:Program)(w:World)(K:Frag)(mg:cg)(base:Heap)(N:b9)(qual:Str)(scope:Scope)(f:Addr)(cd:Value)(cl:cm)(A:Around)(outer:ck)(s:Shared)(H:Hp)(E:XK):Cx where
 prog:=P
 w:=w
 K:=K
 mg:=mg
 base:=base
 A:=A.deeper (envX qual scope s.heap.objs.size f cd cl)
 N:=N
 s0:=s
 H0:=H
 env:=envX qual scope s.heap.objs.size f cd cl
 outer:=outer
 stack:=envX qual scope s.heap.objs.size f cd cl::outer
 ex:=[]
 calm:=true
 fn:=λ_=>false
 pn:=[]
 xe:=λe s'=>wpAny (model P w) (A.deeper (envX qual scope s.heap.objs.size f cd cl)) (leaving (envX qual scope s.heap.objs.size f cd cl) e) (λ_ S=>gO P w outer H s E e S) (λa S=>gO P w outer H s E a S) s'
section
variable {K:Frag}{cd:Value}{cl:cm}{A:Around}{outer:ck}{E:XK}
def Ed {h:Hp}{a C:Addr}(I:Inv (Z1 P w K mg base N qual scope f cd cl A outer s H E) pins σ h s')(x:gk h s'.heap s.heap a (.ref C))(p:E (.ref C) none h):
  (Z1 P w K mg base N qual scope f cd cl A outer s H E).xe (.ref a) s':=by
 have bs:Un (qK outer) [] H h s.heap s'.heap:=I.base;have stk:∀b∈qK (envX qual scope s.heap.objs.size f cd cl::outer),h b=none:=I.stkFree;have k:s.heap.get? s.heap.objs.size=none:=Heap.get?_none_of_le (av _);have g:(envX qual scope s.heap.objs.size f cd cl).frame=some s.heap.objs.size:=rfl;have mem:∀b,b∈qK (envX qual scope s.heap.objs.size f cd cl::outer)↔b=s.heap.objs.size∨b∈qK outer:=λb=>by
  unfold qK;rw[bj,g];exact bQ
 show wpAny (model P w) (A.deeper (envX qual scope s.heap.objs.size f cd cl)) (leaving (envX qual scope s.heap.objs.size f cd cl) (.ref a)) _ _ s';refine Nk (base:=base) (L:=s.heap.objs.size) I.ok.frames rfl I.stack x (λb u e=>(I.hok b u e).obj) (λb o e=>bs.there b o e (by simp)) λh' k1 k2 X t=>?_
 have r:∀b u,h b=some u->b∉qK (envX qual scope s.heap.objs.size f cd cl::outer):=λb u e hm=>by rw[stk b hm]at e;cases e
 refine⟨a,C,h,rfl,I.os,I.bare,⟨λb o e n nb _=>?_,λb o e n mb _=>?_,λb o e n d=>bs.free b o e n d,λb o e d=>?_,bs.tups,bs.frzs,bs.tbls⟩,λb u e=>?_,X,t,p⟩
 ·have i:b≠s.heap.objs.size:=λz=>by rw[z,k]at e;cases e
  exact k1 b o (bs.keep b o e n nb (by simp)) (λhm=>(mem b).mp hm |>.elim i nb) (.inl ⟨o,e⟩)
 ·obtain⟨l,q⟩:=bs.slot b o e n mb (by simp)
  obtain⟨S,Q⟩:=k2 b _ q ((mem b).mpr (.inr mb));exact⟨S,Q⟩
 ·obtain⟨o',q⟩:=bs.there b o e d
  by_cases hm:b∈qK (envX qual scope s.heap.objs.size f cd cl::outer)
  ·obtain⟨l,z⟩:=k2 b o' q hm;exact⟨_,z⟩
  ·exact⟨o',k1 b o' q hm (.inl ⟨o,e⟩)⟩
 ·refine(I.hok b u e).stay (λc v j q=>?_) (λ_ q=>q) λ_ _ q=>q
  rcases j with z|z
  ·rw[z]at q ⊢;exact k1 b v q (r b u e) (.inr ⟨u,e⟩)
  ·exact k1 c v q (r c _ z) (.inr ⟨_,z⟩)
def fB:Zn (Z1 P w K mg base N qual scope f cd cl A outer s H E) s.heap (Zq K E) where
 th:=λpins σ h s' I b o e=>(show Un (qK outer) [] H h s.heap s'.heap from I.base).there b o e (by simp)
 out:=λpins σ h s' d C x I l c a=>Ed I l (a C c)
structure Vs (N:b9)(sc:Scope):Prop where
 kind:sc.kind=.function
 co:sc.isCoroutine=false
 gen:sc.isGenerator=false
 nocell:∀y∈sc.names,y.2≠.cell
structure W0 (base:Heap)(N:b9)(scope:Scope)(cl:cm)(vs:List V):Prop where
 len:vs.length=N.length
 inj:∀x y c,cl.lookup x=some c->cl.lookup y=some c->x=y
 has:∀x,scope.names.lookup x=some .free->∃c,cl.lookup x=some c
 cell:∀x c,cl.lookup x=some c->∃v,base.IsCell c v
 val:∀(i:Nat)(x:Str)(v:V),N[i]? =some x->vs[i]? =some v->∃c u,scope.names.lookup x=some .free/\cl.lookup x=some c/\base.IsCell c (some u)/\RelV v u
def CC {l:Heap}{tk:Tok}(S:Vs N scope)(hd:A.handled=none)(g:YU P w K mg base A outer s H)(C:W0 base N scope cl vs)(t:∃m,l.Ns s.heap.objs.size m)(x:∀b o,s.heap.get? b=some o->l.get? b=some o):
  Inv (Z1 P w K mg base N qual scope f cd cl A outer s H E) [] (L2.start N vs) H { s with heap:=l,toks:=tk }:=by
 have n:∀b:Addr,b∉(Z1 P w K mg base N qual scope f cd cl A outer s H E).ex:=λb z=>absurd (show b∈([]:bY) from z) (by simp)
 have bk:∀c v,base.IsCell c v->l.IsCell c v/\H c=none:=λc v ⟨o,B,hd⟩=>⟨⟨o,x _ _ (g.bs _ _ B).1,hd⟩,(g.bs _ _ B).2⟩;obtain⟨m,hm⟩:=t;refine⟨⟨g.mod,S.kind,rfl,rfl,av _,C.inj,λy j=>?_,λy c z _=>(nomatch z),λ_=>hd,Around.frames_deeper g.frames,.inr ⟨rfl,rfl⟩,λb z=>absurd z (n b),g.bs,g.bsz,λb _ _=>n b,λb z=>absurd z (n b),g.funs,g.frf⟩,
  rfl,g.bare,Un.kept x,⟨m,hm,λi y v l d I=>?_⟩,λy c h=>?_,g.hok.fresh (av _),λy c h=>?_,λp hp=>absurd (show p∈([]:bZ) from hp) (by simp),g.hok.kept x,?_⟩
 ·have j:scope.names.lookup y=some .cell∨scope.names.lookup y=some .free:=j
  rcases j with j|j
  ·exact absurd rfl (S.nocell _ (PySem.mem_of_lookup j))
  ·exact C.has y j
 ·have q:i<vs.length:=by
   unfold L2.start at d
   by_cases q:i<vs.length
   ·exact q
   ·rw[aw (by simpa using q)]at d
    rw[bC]at d
    split at d<;>cases d
  have D:vs[i]? =some v:=by
   unfold L2.start at d;rw[ai (by simpa using q),ax]at d
   cases e:vs[i]? with
   |none=>rw[e]at d;cases d|some a=>rw[e]at d;cases d;rfl
  obtain⟨c,u,k,e,z,r⟩:=C.val i y v l D;exact⟨u,r,.inr ⟨.inr k,c,e,(bk _ _ z).1⟩⟩
 ·obtain⟨v,z⟩:=C.cell y c h
  exact⟨v,(bk _ _ z).1⟩
 ·obtain⟨v,z⟩:=C.cell y c h
  exact(bk _ _ z).2
 ·unfold L2.start
  show _=N.length;rw[ak,ah,bh,C.len];omega
def Nf (o:Obj)(q:Str):Prop:=∃vs t,o.data=.fields vs/\vs[1]? =some (.str q t)
def Aq {name:Str}{params:Arguments}{body:Expr}{pm ctv:Value}{i:Obj}{u uc:HO}{m:Ev}(S:Vs N scope)(C:W0 base N scope cl vs)(p:Nf i qual)
  (g:∀(A:Around)(outer:ck)(s:Shared)(H:Hp)(E:XK),jv k (A.deeper (envX qual scope s.heap.objs.size a (.ref c) cl))->Zn (Z1 P w K mg base N qual scope a (.ref c) cl A outer s H E) s.heap (Zq K E)->
   SE (Z1 P w K mg base N qual scope a (.ref c) cl A outer s H E) (Zq K E) body m):
  km P w K mg base (gO P w) (k+1) a (kla_fn name qual params body scope cl pm (.ref c) ctv) [] (λus H Q E=>us=[]/\H a=some (.frz (kla_obj name qual params body scope cl pm c ctv) u)/\H c=some (.frz i uc)/\
   ∃φ A ws,zN K φ A H/\zD K φ H ws vs/\(m (ws.map some) A).post (PB K φ H Q) (EB K φ H (Zq K E))):=by
 refine⟨λus H Q E h=>by rw[h.1];rfl,λA outer s H args us D Q E n l hb r h=>?_⟩
 obtain⟨rfl,h1,h2,φ,A1,ws,Sm,B,hp⟩:=h;cases r;have Y:s.heap.get? a=some (kla_obj name qual params body scope cl pm c ctv):=(show jh P w H s.heap a (.frz _ u) from l.hok a _ h1).1
 have Z:s.heap.get? c=some i:=(show jh P w H s.heap c (.frz i uc) from l.hok c _ h2).1
 have lim:s.heap.NoLimit:=l.mod.nolimit.keeps λb o e=>(l.bs b o e).1;obtain⟨L,T,z,hd2⟩:=p;refine PySem.W.kla_callFunE n.depth Y rfl S.co S.gen rfl ⟨c,i,L,T,rfl,Z,z,hd2⟩ (hb _ _ _ _ ?_);refine wpAny_newFunctionEnv S.nocell (λy U=>absurd (show y∈([]:List (Str×Value)) from U) (by simp)) (λd t j=>⟨lim.fresh _ j,?_⟩) S.kind
 show codeAny _ _ (.expr body (envX qual scope s.heap.objs.size a (.ref c) cl)) _ _;have f:∀b o,s.heap.get? b=some o->d.get? b=some o:=λb o e=>j.extBut b o (aK (aF e)) (ae _ e);have I:∀tk,Inv (Z1 P w K mg base N qual scope a (.ref c) cl A outer s H E) [] (L2.start N vs) H { s with heap:=d,toks:=tk }:=λtk=>CC S n.hd l C ⟨_,t⟩ f
 refine PySem.W.kla_codeExpr (wpAny_mono (g A outer s H E (n.deeper _) fB [] _ (L2.start N vs) H Q (I _) ⟨φ,A1,_,Sm,RE.start (N:=N) B,?_⟩) (λv s' X=>?_) λ_ _ y=>y)
 ·have:N.length-ws.length=0:=by rw[B.length,C.len];omega
  rw[this,List.replicate_zero,bx];exact hp
 ·obtain⟨x,H',J,M,q⟩:=X
  exact⟨x,H',J.os,J.bare,J.base,J.hok,M,q⟩
end
inductive zcN (K:Frag)(a:Addr)(ob:Obj)(u:HO)(c:Addr)(oc:Obj)(uc:HO)(vs:List V)(g:Fn)(us:List V)(H:Hp)(Q:VK)(E:XK):Prop
 |mk (e:us=[]) (h1:H a=some (.frz ob u)) (h2:H c=some (.frz oc uc)) (φ:bY) (A:Hx) (ws:List W) (S:zN K φ A H) (r:zD K φ H ws vs) (q:(g ws A).post (PB K φ H Q) (EB K φ H (Zq K E)))
def Q6 (P:Program)(w:World)(K:Frag)(mg:cg)(base:Heap)(j:Nat)(p:Obj->Addr->Obj->List V->Prop)(g:Fn):Prop:=
 ∀a ob u c o uc vs,p ob c o vs->(∃fd,ob.data=.func fd)/\∃fd,km P w K mg base (gO P w) j a fd [] (zcN K a ob u c o uc vs g)/\∀s,BindsTo s fd ⟨[],[]⟩ []
open Classical in
noncomputable def GU (i:Nat)(PG:Nat->Obj->Addr->Obj->List V->Prop)(lam:Nat->Fn):Ev:=λρ A=>match ρ[i]? with
 |some (some (.clo k ws P))=>if P=PG k then lam k ws A else .bad|_=>.bad
def K3 (i j l:Nat)(cs:b9)(PG:Nat->Obj->Addr->Obj->List V->Prop)(lam:Nat->Fn):Ex:=λρ A=>match GU i PG lam ρ A with
 |.ok _ A1=>.ok (.nx ρ) A1|.exc x A1=>if cs.contains x then .ok (.nx (((ρ.set l (some (.xc x))).set j (some (.xc x))).set l none)) A1 else .bad|.bad=>.bad
section
variable {K:Frag}
def RE.unset (r:RE K φ H ρ σ):RE K φ H (ρ.set i none) (σ.set i none):=
 ⟨by simp[r.len],λj u e=>by
  by_cases h:i=j
  ·subst h
   have a:i < ρ.length:=by
    have:=(cA.mp e).1
    simpa using this
   rw[aJ a]at e;cases e
  ·rw[aG h]at e
   obtain⟨x,c,b⟩:=r.get j u e;exact⟨x,by rw[aG h];exact c,b⟩⟩
end
def Mh (K:Frag)(φ:bY)(H:Hp)(ρ:En)(j l:Nat)(D:Ends)(x:Str)(A':Hx):Prop:=∀a h b,Le K φ H a h->zN K a A' h->RE K a h (((ρ.set l (some (.xc x))).set j (some (.xc x))).set l none) b->D.nx b h
inductive zc3 (K:Frag)(φ:bY)(H:Hp)(ρ:En)(j l:Nat)(D0:Ends)(ea C:Addr)(H':Hp):Prop
 |mk (xn:Str) (φ':bY) (A':Hx) (le:Le K φ H φ' H') (S:zN K φ' A' H') (rv:RV K φ' H' (.xc xn) (.ref ea)) (n:Mh K φ H ρ j l D0 xn A')
inductive zcQ (K:Frag)(φ:bY)(H:Hp)(ρ:En)(j l:Nat)(D0:Ends)(cs:b9)(Cv:Value)(d:cq)(H1:Hp):Prop
 |mk (xn:Str) (Ca:Addr) (e:Cv=.ref Ca) (hC:kC K xn (.ref Ca)) (hc:cs.contains xn=true) (φ1:bY) (A1:Hx) (le:Le K φ H φ1 H1) (S:zN K φ1 A1 H1) (n:Mh K φ H ρ j l D0 xn A1)
def Md (K:Frag)(f:Str->Option Bool)(cv:V):List V->Hp->VK->Prop:=λxs H Q=>∃x,xs=[x,cv]/\((x=.non/\Q (.bl false) H)∨∃a o u C nm b,x=.ref a/\H a=some (.frz o u)/\o.cls=.ref C/\kC K nm (.ref C)/\f nm=some b/\Q (.bl b) H)
structure KI (K:Frag)(f:Str->Option Bool)(c:Value):Prop where
 non:kitOne K (.type "NoneType") c=some false
 exc:∀nm C b,f nm=some b->kC K nm (.ref C)->Kz K C=true/\kitOne K (.ref C) c=some b
def ji (f:Str->Option Bool)(m:Ev):Ev:=λρ A=>(m ρ A).bind λw A1=>match w with
 |.non=>.ok (.bl false) A1|.xc nm=>(match f nm with
  |some b=>.ok (.bl b) A1|none=>.bad)
 |_=>.bad
section
variable {m:Ev}{f:Str->Option Bool}
def P0 {cv:V}{c:Value}(g:KI X.K f c)(rc:∀u,RelV cv u->u=c):yt X (.builtin "isinstance") (Md X.K f cv):=by
 intro pins s σ H xs us Q I r h;obtain⟨x,rfl,h⟩:=h;obtain⟨u,n,rfl,e,d⟩:=vals2 r;cases rc _ d;rcases h with ⟨rfl,q⟩|⟨a,o,U,C,nm,b,rfl,l,k,j,i,q⟩
 ·cases (show u=Value.none from e)
  exact fA I g.non λtk=>⟨.bl false,H,I.tok tk,rfl,q⟩
 ·cases (show u=Value.ref a from e)
  obtain⟨k1,k2⟩:=g.exc nm C b i j;exact fy I l k k1 k2 λtk=>⟨.bl b,H,I.tok tk,rfl,q⟩
def ji.read {cv:V}{t:TE}(i:∀σ H Q,Q cv H->t σ H Q):∀σ H Q,tM X.K xr (ji f m) σ H Q->Xl (Md X.K f cv) (GH (tM X.K xr m) (GH t UY)) σ H Q:=by
 rintro σ H Q ⟨φ,A,ρ,S,re,h⟩
 refine tM.go S re (qa.mp h) λw A1 d H1 v c l s q=>?_;refine i σ H1 _ ?_;cases w with
 |non=>
  obtain rfl:=q;exact⟨.non,rfl,.inl ⟨rfl,c d H1 _ l s rfl⟩⟩
 |xc nm=>
  dsimp only at c;cases e:f nm with
  |none=>rw[e]at c;exact c.elim|some b=>
   rw[e]at c;obtain⟨a,o,u,C,rfl,g,Z,z⟩:=q;exact⟨.ref a,rfl,.inr ⟨a,o,u,C,nm,b,rfl,g,Z,z,e,c d H1 _ l s rfl⟩⟩
 |bl _=>exact c.elim|int _=>exact c.elim|str _=>exact c.elim|tup _=>exact c.elim|ref _=>exact c.elim|clo _ _ _=>exact c.elim
end
def LU {a b:Int}{c cv:Value}(l:bX)(h:TriplesOk l)(e:codeAmong pos (l++[rawInt a,rawInt b,c])=some cv):codeAmong pos l=some cv∨cv=c:=by
 fun_induction TriplesOk l with
 |case1=>
  right
  simp only[bA,codeAmong,rawInt]at e
  split at e
  ·exact(aB e).symm
  ·cases e
 |case2 A t B u x rest i=>
  simp only[List.cons_append,codeAmong]at e ⊢
  split at e
  ·rename_i H;rw[ag H];exact .inl e
  ·rename_i H;rw[aj H];exact i h e
 |case3 l f d=>exact h.elim
def BMain (mg:cg)(base:Heap):Prop:=∃bm o,mg "__builtins__"=some (.ref bm)/\bm≠builtinsNs/\bm≠mainGlobals/\base.get? bm=some o/\o.cls=.type "module" /\ o.dict=some builtinsNs/\o.data=.plain
noncomputable def G1 (q:Str)(params:Arguments)(body:Expr)(scope:Scope)(C:cm):Obj->Addr->Obj->List V->Prop:=λob c o _=>(∃pm ctv,ob=kla_obj "<lambda>" q params body scope C pm c ctv)/\Nf o q
noncomputable def wV (n:Nat)(q:Str)(P:Addr)(k:Nat)(PF:Obj->Addr->Obj->List V->Prop):Ev:=λ_ A=>match A[n]? with
 |some (.tab Q P')=>if Q=q/\P'=P then .ok (.clo k [] PF) A else .bad|_=>.bad
section
variable {q:Str}{P:Addr}{params:Arguments}{body:Expr}{clos:cm}
def fC (hB:BMain X.mg X.base)(y:X.env.code=.ref c)(C:CodeHd X.base c P)(hcl:closureFor scope X.env=pure clos)(hq:X.env.qual ++ "<lambda>"=q)(hdef:defaultsOf params X.env=([],[]):=by rfl):
  SE X xr (.Lambda params body scope pos) (wV n q P k (G1 q params body scope clos)):=by
 intro pins s σ H Q I ⟨φ,A,ρ,S,re,h⟩;unfold wV at h;cases Z:A[n]? with
 |none=>rw[Z]at h;exact h.elim|some o=>
  rw[Z]at h;cases o with
  |tab L P'=>
   dsimp only at h
   by_cases hc:L=q/\P'=P
   ·rw[ag hc]at h
    obtain⟨rfl,rfl⟩:=hc;obtain⟨a,ha,eaP,ps,t,Y⟩:=S.ob n _ Z;subst eaP;have hP:s.heap.get? a=some (tabObj ps):=(show jh X.prog X.w H s.heap a (.tbl ps) from I.hok a _ t)
    have hg:s.heap.Ns mainGlobals X.mg:=I.mod.glob.keeps I.bk;have hgP:mainGlobals≠a:=λz=>by
     obtain⟨o,es,ep,e,hd,_⟩:=hg;rw[z,hP]at e;cases e;cases hd
    have r:s.heap.BuiltinsAt X.mg a:=by
     obtain⟨bm,o,b1,b2,b3,b4,b5⟩:=hB;refine⟨bm,o,b1,b2,b3,λz=>?_,I.bk _ _ b4,b5⟩
     have:=(I.bs _ _ b4).2
     rw[z,t]at this;cases this
    refine PySem.W.kla_eval hdef ?_;rw[hq];have M:∀b,s.heap.objs.size<=b->H b=none:=λb r=>I.hok.fresh r;cases hf:codeAmong pos ps.toList with
    |none=>
     refine PySem.W.kla_makeFunction (mg:=X.mg) hcl I.ok.glob hg y (C.keeps I.bk) hP Y.1 hf hgP r λf ctv h' tk hx x U hrec htb=>?_;obtain⟨c2,g,vc,tc,ec,hoc,D,hd2⟩:=hrec;cases ec;generalize j:kla_obj "<lambda>" L params body scope clos ((X.mg "__name__").getD .none) f ctv=ob;have hPc:a<s.heap.objs.size:=aF hP;have nPc:a≠f:=aK (aE hPc x);have nPf:a≠h'.objs.size:=aK (lt_trans (aE hPc x) U);have T:f≠h'.objs.size:=aK U;have hsf:s.heap.objs.size<=h'.objs.size:=bg x (bz U);have E:H f=none:=M f x;have l:H h'.objs.size=none:=M _ hsf;have H1f:upd H f (.frz g (.own 0)) h'.objs.size=none:=by rw[qk (Ne.symm T)];exact l
     generalize B:ps++#[rawInt pos.line,rawInt pos.col,.ref f]=p at htb;have S1:=S.lay (u:=.frz g (.own 0)) E;have S2:=S1.lay (u:=.frz ob (.own 0)) H1f;have fz:∀b o u,upd (upd H f (.frz g (.own 0))) h'.objs.size (.frz ob (.own 0)) b=some (.frz o u)->upd (upd (upd H f (.frz g (.own 0))) h'.objs.size (.frz ob (.own 0))) a (.tbl p) b=some (.frz o u):=λb o u e=>by
      rw[qk];exact e;intro z;rw[z,qk nPf,qk nPc,t]at e;cases e
     have fz0:∀b o u,H b=some (.frz o u)->upd (upd H f (.frz g (.own 0))) h'.objs.size (.frz ob (.own 0)) b=some (.frz o u):=λb o u e=>by
      rw[qk (kQ e l),qk (kQ e E)];exact e
     have tg':KZ (upd (upd (upd H f (.frz g (.own 0))) h'.objs.size (.frz ob (.own 0))) a (.tbl p)) L p:=by
      rw[<- B];refine⟨by rw[Array.toList_append];exact TriplesOk_snoc _ _ _ _ Y.1,λpos' cv e=>?_⟩
      rw[Array.toList_append]at e;rcases LU _ Y.1 e with e|e
      ·obtain⟨c0,oc0,u0,vs0,t0,g1,g2,g3⟩:=Y.2 pos' cv e
       exact⟨c0,oc0,u0,vs0,t0,g1,by rw[B];exact fz _ _ _ (fz0 _ _ _ g2),g3⟩
      ·exact⟨f,g,.own 0,vc,tc,e,by rw[B];exact fz _ _ _ (by rw[qk T,jA]),D,hd2⟩
     obtain⟨l3,S3⟩:=S2.write (o:=.tab L a) (o':=.tab L a) Z rfl rfl ha (u:=.tbl p) ⟨rfl,p,jA,tg'⟩;have l03:Le X.K φ H φ _:=((Le.new E).trans (Le.new H1f)).trans l3;have set3:A.set n (.tab L a)=A:=by
      apply ext_getElem?
      intro i
      by_cases hi:n=i
      ·subst hi
       rw[aJ (cA.mp Z).1,Z]
      ·rw[aG hi]
     rw[set3]at S3;have eP:upd (upd (upd H f (.frz g (.own 0))) h'.objs.size (.frz ob (.own 0))) a (.tbl p) a=some (.tbl p):=jA;have ec:upd (upd (upd H f (.frz g (.own 0))) h'.objs.size (.frz ob (.own 0))) a (.tbl p) f=some (.frz g (.own 0)):=by rw[qk (Ne.symm nPc),qk T,jA]
     have ef:upd (upd (upd H f (.frz g (.own 0))) h'.objs.size (.frz ob (.own 0))) a (.tbl p) h'.objs.size=some (.frz ob (.own 0)):=by rw[qk (Ne.symm nPf),jA]
     have J:∀b,b≠a->b≠f->b≠h'.objs.size->upd (upd (upd H f (.frz g (.own 0))) h'.objs.size (.frz ob (.own 0))) a (.tbl p) b=H b:=λb n1 n2 n3=>by rw[qk n1,qk n3,qk n2]
     generalize upd (upd (upd H f (.frz g (.own 0))) h'.objs.size (.frz ob (.own 0))) a (.tbl p)=H3 at S3 l03 eP ec ef J;have kp:∀b o,b≠a->s.heap.get? b=some o->(h'.push ob).get? b=some o:=λb o n e=>ae _ (hx b o n e);have old:∀b o,s.heap.get? b=some o->b≠f/\b≠h'.objs.size:=λb o e=>⟨aK (aE (aF e) x),aK (aE (aF e) hsf)⟩;have N:∀b u,H b=some u->b≠f/\b≠h'.objs.size:=λb u e=>⟨kQ e E,kQ e l⟩;have gP:(h'.push ob).get? a=some (tabObj p):=ae _ htb;have I3:Inv X pins σ H3 { s with heap:=h'.push ob,toks:=tk }:=by
      refine I.un ⟨λb o e z r _=>?_,λb o e z r _=>?_,λb o e z _=>?_,λb o e _=>?_,λb xs e=>?_,λb o u e=>?_,λb qs e=>?_⟩ λb u e=>?_
      ·exact kp b o (λw=>by rw[w,t]at z;cases z) e
      ·exact⟨o.slots,kp b o (λw=>by rw[w,t]at z;cases z) e⟩
      ·rw[J b (λw=>by rw[w,t]at z;cases z) (old b o e).1 (old b o e).2];exact z
      ·by_cases r:b=a
       ·rw[r];exact⟨_,gP⟩
       ·exact⟨o,kp b o r e⟩
      ·rw[J b (YF e t (by intro w;cases w)) (N b _ e).1 (N b _ e).2];exact e
      ·rw[J b (YF e t (by intro w;cases w)) (N b _ e).1 (N b _ e).2];exact e
      ·by_cases r:b=a
       ·subst r
        rw[t]at e;cases e;exact⟨_,by rw[eP,<- B]⟩
       ·exact⟨#[],by rw[J b r (N b _ e).1 (N b _ e).2,e];simp⟩
      ·by_cases h1:b=a
       ·subst h1
        rw[eP]at e;cases e;exact gP
       ·by_cases h2:b=f
        ·subst h2
         rw[ec]at e;cases e;exact⟨ae _ hoc,⟨_,ae _ hoc⟩⟩
        ·by_cases h3:b=h'.objs.size
         ·subst h3
          rw[ef]at e;cases e;exact⟨au _ (by rw[<- j];rfl),⟨_,au _ (by rw[<- j];rfl)⟩⟩
         ·rw[J b h1 h2 h3]at e
          refine(I.hok b u e).stay (λd v hd z=>kp d v ?_ z) (λd z=>?_) λd xs z=>?_
          ·rcases hd with w|w
           ·rw[w];exact h1
           ·exact YF w t (by intro w;cases w)
          ·rw[J d (YF z t (by intro w;cases w)) (N d _ z).1 (N d _ z).2];exact z
          ·rw[J d (YF z t (by intro w;cases w)) (N d _ z).1 (N d _ z).2];exact z
     exact⟨.ref h'.objs.size,H3,I3,rfl,h φ H3 _ l03 S3 ⟨h'.objs.size,ob,.own 0,f,g,.own 0,[],rfl,ef,ec,⟨⟨_,_,j.symm⟩,vc,tc,D,hd2⟩,rfl⟩⟩
    |some cv=>
     obtain⟨f,g,u0,vc,tc,rfl,hHc,D,hd2⟩:=Y.2 pos cv hf;refine PySem.W.kla_makeFunctionHit (mg:=X.mg) hcl I.ok.glob hg y (C.keeps I.bk) hP Y.1 hf r λctv h' tk hx hsz=>?_;generalize j:({ cls:=.type "function",data:=.func (kla_fn "<lambda>" L params body scope clos ((X.mg "__name__").getD .none) (.ref f) ctv) }:Obj)=ob;have l:H h'.objs.size=none:=M _ hsz;have I3:Inv X pins σ (upd H h'.objs.size (.frz ob (.own 0))) { s with heap:=h'.push ob,toks:=tk }:=
      I.laid (λb o e=>ae _ (hx b o e)) hsz ⟨au _ (by rw[<- j];rfl),⟨_,au _ (by rw[<- j];rfl)⟩⟩
     refine⟨.ref h'.objs.size,_,I3,rfl,h φ _ _ (Le.new l) (S.lay l) ⟨h'.objs.size,ob,.own 0,f,g,u0,[],rfl,jA,?_,⟨⟨_,_,j.symm⟩,vc,tc,D,hd2⟩,rfl⟩⟩;rw[qk (kQ hHc l)];exact hHc
   ·rw[aj hc]at h;exact h.elim
  |_=>exact h.elim
end
section
variable {K:Frag}
theorem RE.monoW {a:bY}{h:Hp}(r:RE K φ H ρ σ)(l:Zt K φ H a h):RE K a h ρ σ:=⟨r.len,λi w e=>let ⟨v,h1,b⟩:=r.get i w e;⟨v,h1,b.monoW l⟩⟩
inductive MMg (G:List Addr->Hp->Prop)(K:Frag)(xr:XR)(m:Ev)(σ:St)(H:Hp)(Q:VK):Prop
 |mk (φ:bY) (A:Hx) (ρ:En) (S:zN K φ A H) (re:RE K φ H ρ σ) (g:G φ H) (h:(m ρ A).post (PB K φ H Q) (EB K φ H xr))
noncomputable def MK (G:List Addr->Hp->Prop)(K:Frag)(x:XR)(m:Ev):TE:=λσ H Q=>MMg G K x m σ H Q
inductive MEg (G:List Addr->Hp->Prop)(K:Frag)(em:Em)(D:Addr)(σ:St)(H:Hp)(Q:St->Hp->Prop):Prop
 |mk (φ:bY) (A:Hx) (ρ:En) (acc:List W) (ys:List V) (S:zN K φ A H) (re:RE K φ H ρ σ) (g:G φ H) (hD:H D=some (.lst ys)) (nD:∀k:Nat,φ[k]?≠some D) (rv:zD K φ H acc ys)
  (h:(em ρ acc A).post (We K D φ H Q) gx)
noncomputable def Tw (G:List Addr->Hp->Prop)(K:Frag)(em:Em):w8:=λD σ H Q=>MEg G K em D σ H Q
def An {G:List Addr->Hp->Prop}{d:Nat}(x:∀e s,X.xe e s->False)(he:PE X elt (MK G X.K ko me))(p:gens[d+1]? =none):wm X elt gens sc pos d (Tw G X.K (zM me)):=
 wm.imp (Of x he p) λD σ H Q ⟨φ,A,ρ,acc,ys,S,re,g,t,n,r,h⟩=>by
  refine⟨φ,A,ρ,S,re,g,qA (Kk (qa.mp h)) (λw A1 f j H1 v l u q=>?_) λ_ _ z=>z⟩;obtain⟨c,n1⟩:=l.off t n
  by_cases k:acc.length<zR
  ·rw[ag k]at f
   have o:=r.length;refine⟨ys,c,?_,?_⟩
   ·rw[<- o]
    have:sizeLine=16777216:=sizeLine_eq
    unfold zR at k;omega
   ·exact f j _ σ _ (l.toD.trans (yB.upd c)) n1 (u.off c n1) ⟨re.len,λi w e=>let ⟨v,a,b⟩:=re.get i w e;⟨v,a,(b.mono l).monoD (yB.upd c)⟩⟩ jA
     (((r.mono l).monoD (yB.upd c)).append (.one (q.monoD (yB.upd c))))
  ·rw[aj k]at f;exact f.elim
def qX.readG {G:List Addr->Hp->Prop}{ifs:Ev}{j:jE}{J:It}{K:Frag}{acc:List W}{Q:St->Hp->Prop}{f:Nat}
  (gm:∀φ H v t,Zt K φ H v t->G φ H->G v t)(g:G φ H)(jr:ZZ K φ H j J)
  (S:zN K φ A H)(re:RE K φ H ρ σ)(hD:H D=some (.lst ys))(nD:∀k:Nat,φ[k]?≠some D)(ra:zD K φ H acc ys)
  (h:(qX j tw ifs em f 0 ρ acc A).post (We K D φ H Q) gx):
  YM J (tG K tw) (tT K ko ifs) (Tw G K em) D σ H Q:=by
 refine⟨λi f b t=>Xn tw ifs em j K D φ H Q f i b t,
  ⟨f,φ,A,ρ,acc,ys,.refl,S,re,hD,nD,ra,h⟩,?_⟩
 rintro i f Z H2 ⟨n,A2,B,e,Y,P,S2,C,U,I,s,a⟩
 obtain⟨j1,j2⟩:=jr i n H2 A2 ⟨P.ex,P.tp,P.fz⟩ S2;cases E:j.at_ A2 i with
 |none=>cases f<;>(unfold qX at a;rw[E]at a;exact a.elim)|some o=>
  cases o with
  |none=>
   left
   refine⟨j2 E,?_⟩;cases f<;>(unfold qX at a;rw[E]at a;exact a n H2 Z Y P I S2 C U s)
  |some w=>
   right
   obtain⟨go,yl⟩:=j1 w E;cases f with
   |zero=>unfold qX at a;rw[E]at a;exact a.elim|succ f=>
    unfold qX at a;rw[E]at a;refine⟨go,λb t=>Xn tw ifs em j K D φ H Q f (i+1) b t,λb t z=>⟨f,bo _,z⟩,λx H3 y=>?_⟩;obtain⟨M,S3,q3⟩:=yl x H3 y;obtain⟨hD3,nD3⟩:=M.off U I;dsimp only at a;cases et:tw w B with
    |none=>rw[et]at a;exact a.elim|some q=>
     rw[et]at a;refine⟨n,A2,B,w,q,S3,C.mono M,q3,et,λσ3 r=>?_⟩;refine tT.go S3 r (Kk (qa.mp a)) λc A4 d=>?_;cases c with
     |bl k=>
      refine⟨k,rfl,λu H4 L S4=>?_⟩;obtain⟨T,N⟩:=L.off hD3 nD3;have l:=(P.trans (M.trans L).toD);cases k with
      |true=>
       rw[ag rfl];refine⟨u,A4,q,e,Y,S4,r.mono L,gm _ _ _ _ ⟨l.ex,l.tp,l.fz⟩ g,T,N,s.mono (M.trans L),qA (qa.mp d) (λp A5 h5 X H5 σ5 zs l5 n5 S5 re5 d5 r5=>?_) λ_ _ z=>z⟩;exact⟨X,A5,p.1,p.2,zs,l.trans l5,S5,re5,d5,n5,r5,h5⟩
      |false=>
       rw[aj aA];exact⟨u,A4,q,e,Y,l,S4,r.mono L,T,N,s.mono (M.trans L),d⟩
     |non=>cases d|int _=>cases d|str _=>cases d|tup _=>cases d|ref _=>cases d|clo _ _ _=>cases d|xc _=>cases d
end
structure Lm where
 N:b9
 idx:b8
 params:Arguments
 body:Expr
 scope:Scope
 m:Ev
noncomputable def Qu:List Nat->En->Option (List W)
 |[],_=>some []|j::J,ρ=>match ρ[j]?,Qu J ρ with
  |some (some w),some ws=>some (w::ws)|_,_=>none
noncomputable def Qr:List Nat->St->Option (List V)
 |[],_=>some []|j::J,σ=>match σ[j]?,Qr J σ with
  |some (some w),some ws=>some (w::ws)|_,_=>none
theorem Pd {K:Frag}(r:RE K φ H ρ σ):∀{J:b8}{ws:List W},Qu J ρ=some ws->∃vs,Qr J σ=some vs/\zD K φ H ws vs
 |[],ws,e=>by cases e;exact⟨[],rfl,.nil⟩|j::J,ws,e=>by
  unfold Qu at e;cases E:ρ[j]? with
  |none=>rw[E]at e;cases e|some o=>cases o with
   |none=>rw[E]at e;cases e|some w=>
    rw[E]at e;cases a:Qu J ρ with
    |none=>rw[a]at e;cases e|some b=>
     rw[a]at e;cases e;obtain⟨v,f,d⟩:=r.get j w E;obtain⟨vs,c,h⟩:=Pd r a;exact⟨v::vs,by unfold Qr;rw[f,c],.cons d h⟩
theorem P8:∀{J:b8}{vs:List V},Qr J σ=some vs->vs.length=J.length/\∀(i:Nat)(v:V),vs[i]? =some v->∃j,J[i]? =some j/\σ[j]? =some (some v)
 |[],vs,e=>by cases e;exact⟨rfl,λi v h=>by simp at h⟩|j::J,vs,e=>by
  unfold Qr at e;cases E:σ[j]? with
  |none=>rw[E]at e;cases e|some o=>cases o with
   |none=>rw[E]at e;cases e|some w=>
    rw[E]at e;cases r:Qr J σ with
    |none=>rw[r]at e;cases e|some c=>
     rw[r]at e;cases e;obtain⟨f,H⟩:=P8 r;refine⟨by simp[f],λi v h=>?_⟩
     cases i with
     |zero=>simp at h;subst h;exact⟨j,by simp,E⟩|succ i=>simp at h;obtain⟨d,a,b⟩:=H i v h;exact⟨d,by simpa using a,b⟩
noncomputable def ki (ls:List Lm)(k:Nat):Fn:=λws A=>match ls[k]? with
 |some t=>t.m (ws.map some) A|none=>.bad
def Z2 (env:Env)(q:Str)(ls:List Lm)(k:Nat):Obj->Addr->Obj->List V->Prop:=λob c o vs=>∃t,ls[k]? =some t/\G1 q t.params t.body t.scope (kT env t.scope.names []) ob c o vs
def Xr (env:Env)(q:Str)(ls:List Lm)(σ:St)(k:Nat):Obj->Addr->Obj->List V->Prop:=λob c o vs=>∃t,ls[k]? =some t/\G1 q t.params t.body t.scope (kT env t.scope.names []) ob c o vs/\Qr t.idx σ=some vs
structure Qv (P:Program)(w:World)(K:Frag)(mg:cg)(j:Nat)(q:Str)(t:Lm):Prop where
 sc:Vs t.N t.scope
 bind:∀(cl:cm)(pm cdv ctv:Value),bindArgs (kla_fn "<lambda>" q t.params t.body t.scope cl pm cdv ctv) ⟨[],[]⟩=pure []
 body:∀(base:Heap)(cl:cm)(a c:Addr)(A:Around)(outer:ck)(s:Shared)(H:Hp)(E:XK),jv j (A.deeper (envX q t.scope s.heap.objs.size a (.ref c) cl))->Zn (Z1 P w K mg base t.N q t.scope a (.ref c) cl A outer s H E) s.heap (Zq K E)->
  SE (Z1 P w K mg base t.N q t.scope a (.ref c) cl A outer s H E) (Zq K E) t.body t.m
section
variable {K:Frag}{q:Str}{ls:List Lm}
def fD (l:∀t∈ls,Qv P w K mg j q t)(f:∀t∈ls,∀vs,Qr t.idx σ=some vs->W0 base t.N t.scope (kT env t.scope.names []) vs)(k:Nat):Q6 P w K mg base (j+1) (Xr env q ls σ k) (ki ls k):=by
 rintro a ob u c o uc vs ⟨t,d,⟨⟨pm,ctv,rfl⟩,b⟩,v⟩
 have mt:t∈ls:=bL d;have L:=l t mt;refine⟨⟨_,rfl⟩,_,((Aq (name := "<lambda>") (params:=t.params) (body:=t.body) (pm:=pm) (ctv:=ctv) (a:=a) (c:=c) (u:=u) (uc:=uc) (m:=t.m) L.sc (f t mt vs v) b λA outer s H E e x=>L.body base _ a c A outer s H E e x)).imp λus H Q E h=>?_,λs=>.of_eq (L.bind _ _ _ _)⟩;obtain⟨n,i,g,φ,A,ws,S,r,h⟩:=h;refine⟨n,i,g,φ,A,ws,S,r,?_⟩;unfold ki at h;rw[d]at h;exact h
end
noncomputable abbrev yi:=Nat->Obj->Addr->Obj->List V->Prop
open Classical in
noncomputable def Ql (PG:yi)(RF:Nat->List W->Hx->R W):Fn:=λus A=>match us with
 |[.clo k ws P]=>if P=PG k then RF k ws A else .bad|_=>.bad
open Classical in
def Qx (i:Nat)(PF:yi)(ls:List Lm)(RF:Nat->List W->Hx->R W)(a:En):Ev:=λρ A=>match ρ[i]? with
 |some (some (.clo k _ P))=>if P=PF k then(match ls[k]? with
  |some t=>(match Qu t.idx a with
   |some ws=>RF k ws A|none=>.bad)
  |none=>.bad) else .bad
 |_=>.bad
structure JR (X:Cx)(t:Lm):Prop where
 len:t.idx.length=t.N.length
 nm:∀(i:Nat)(x:Str)(j:Nat),t.N[i]? =some x->t.idx[i]? =some j->X.N[j]? =some x/\t.scope.names.lookup x=some .free
 free:∀y∈t.scope.names,y.2=.free->X.env.kindOf y.1=some .cell∨X.env.kindOf y.1=some .free
section
def WZ (I:Inv X pins σ H s){t:Lm}(L:JR X t)(h:(kT X.env t.scope.names []).lookup x=some c):X.env.cells.lookup x=some c:=by
 rcases Jr _ _ (PySem.mem_of_lookup h) with z|⟨z,e⟩
 ·cases z
 ·obtain⟨C,a⟩:=I.ok.has x (L.free _ z rfl)
  rw[a]at e ⊢;exact congrArg some e.symm
def DR (I:Inv X pins σ H s)(g:∀x c v,X.env.cells.lookup x=some c->s.heap.IsCell c v->base.IsCell c v){t:Lm}(L:JR X t)(n:Qr t.idx σ=some vs):W0 base t.N t.scope (kT X.env t.scope.names []) vs:=by
 obtain⟨v1,v2⟩:=P8 n;refine⟨v1.trans L.len,λx y c d b=>I.ok.inj x y c (WZ I L d) (WZ I L b),λx h=>?_,λx c h=>?_,λi x v d b=>?_⟩
 ·exact Option.isSome_iff_exists.mp (WM _ _ (.inl (PySem.mem_of_lookup h)))
 ·have e:=WZ I L h
  obtain⟨v,z⟩:=I.cell x c e;exact⟨v,g x c v e z⟩
 ·obtain⟨j,w,q⟩:=v2 i v b
  obtain⟨p,E⟩:=L.nm i x j d w;have fr:=L.free _ (PySem.mem_of_lookup E) rfl;obtain⟨m,hn,o⟩:=I.loc;obtain⟨u,r,lk⟩:=o j x v p q (.inr fr);obtain⟨c,f⟩:=Option.isSome_iff_exists.mp (WM (env:=X.env) t.scope.names [] (.inl (PySem.mem_of_lookup E)));have l:=WZ I L f;rcases lk with ⟨z,_⟩|⟨_,C,a,cell⟩
  ·exfalso
   rcases fr with k|k<;>(rw[k]at z;cases z)
  ·rw[l]at a
   cases a;exact⟨c,u,E,f,g x c _ l cell,r⟩
def OG (I:Inv X pins σ H s)(h:∀x,X.fn x=true)(e:X.env.cells.lookup x=some c):c∉qK X.stack:=λhm=>by
 rcases cz.mp (I.stkSub c hm) with z|z
 ·exact I.cne x c e z
 ·obtain⟨_,o,a,_⟩:=I.ok.funs.mem z
  exact absurd (aE (aF a) (I.ok.cab x c (h x) e)) (aV _)
noncomputable def ZW (base h:Heap)(cells:cm):Heap:=hideAll h ((List.range h.objs.size).filter λb=>(base.get? b).isNone&&!(cells.any λp=>cells.lookup p.1==some b))
def P9 {o:Obj}(e:(ZW base h cells).get? b=some o):h.get? b=some o/\((∃o',base.get? b=some o')∨∃x,cells.lookup x=some b):=by
 have E:=of_hideAll _ e;refine⟨E,?_⟩
 by_cases hm:b∈(List.range h.objs.size).filter λb=>(base.get? b).isNone&&!(cells.any λp=>cells.lookup p.1==some b)
 ·unfold ZW at e
  rw[hideAll_none _ hm]at e;cases e
 ·rw[mem_filter]at hm
  have a:b∈List.range h.objs.size:=cB.mpr (aF E);cases g:base.get? b with
  |some o'=>exact .inl ⟨o',rfl⟩|none=>
   right
   by_cases H:(cells.any λp=>cells.lookup p.1==some b)=true
   ·obtain⟨p,_,hp⟩:=List.any_eq_true.mp H
    exact⟨p.1,aM.mp hp⟩
   ·exact absurd ⟨a,by rw[g];simpa using H⟩ hm
def Hf (k:∀b o,base.get? b=some o->h.get? b=some o){o:Obj}(e:base.get? b=some o):(ZW base h cells).get? b=some o:=
 bM _ (k b o e) λhm=>by
  rw[mem_filter,e]at hm;simp at hm
def HA {o:Obj}(l:cells.lookup x=some c)(e:h.get? c=some o):(ZW base h cells).get? c=some o:=
 bM _ e λhm=>by
  rw[mem_filter,ar,Bool.not_eq_true']at hm
  have:=hm.2.2
  rw[List.any_eq_false]at this;exact this _ (PySem.mem_of_lookup l) (by simpa using l)
variable {H3:Hp}{s3:Shared}{ls:List Lm}{q f:Str}{ρ0:En}{RF:Nat->List W->Hx->R W}{p2:Pos}
def OK (I:Inv X pins σ H3 s3)(D:∀b∈fp,kY X pins H3 b)(H:∀x,X.fn x=true)(B:∀t∈ls,Qv X.prog X.w X.K X.mg j q t)(g:∀t∈ls,JR X t)
  {p:bZ}{f:St}{a:Hp}(i:Inv (jo X N sc s3 H3 fp jT) p f a s'):
  YU X.prog X.w X.K X.mg (ZW X.base s'.heap X.env.cells) X.A X.stack s' a/\∀k,Q6 X.prog X.w X.K X.mg (ZW X.base s'.heap X.env.cells) (j+1) (Xr X.env q ls σ k) (ki ls k):=by
 have un:Un (qK X.stack) fp H3 a s3.heap s'.heap:=i.base;have bk:∀b o,X.base.get? b=some o->s'.heap.get? b=some o:=λb o e=>(show _ from i.bk b o e)
 have C:∀y c,X.env.cells.lookup y=some c->∀o,s3.heap.get? c=some o->s'.heap.get? c=some o/\a c=none:=λy c e o h=>
  have n:c∉fp:=λz=>(D c z).2.2.2.2.1 y c e rfl
  ⟨un.keep c o h (I.freeC y c e) (OG I H e) n,un.free c o h (I.freeC y c e) n⟩
 have d:∀b o,X.base.get? b=some o->(ZW X.base s'.heap X.env.cells).get? b=some o:=λb o e=>Hf bk e;have M:Mod X.K X.mg (ZW X.base s'.heap X.env.cells):=by
  obtain⟨mb,P,L⟩:=I.mod.blt;exact⟨I.mod.kin.keeps d,I.mod.glob.keeps d,⟨mb,P.keeps d,L⟩,I.mod.nolimit.keeps d⟩
 have bs:∀b o,(ZW X.base s'.heap X.env.cells).get? b=some o->s'.heap.get? b=some o/\a b=none:=λb o e=>by
  obtain⟨J,E⟩:=P9 e;refine⟨J,?_⟩;rcases E with ⟨o',E⟩|⟨y,E⟩
  ·exact(i.bs b o' E).2
  ·obtain⟨Q,r,h,_⟩:=I.cell y b E
   exact(C y b E r h).2
 refine⟨⟨i.ok.frames,M,bs,Nat.le_of_eq (hideAll_size _ _),frames_at (show s'.heap.FunFrames X.base X.stack from i.stack) λb l=>?_,i.stkFree,i.hok,i.bare⟩,
  λk=>fD B (λt u vs s=>DR I (λy c v e ⟨o,h,hd⟩=>⟨o,HA e (C y c e o h).1,hd⟩) (g t u) s) k⟩
 cases e:(ZW X.base s'.heap X.env.cells).get? b with
 |none=>rfl|some o=>
  exfalso;rcases(P9 e).2 with ⟨o',E⟩|⟨y,E⟩
  ·have:=(I.stack.mem l).1
   rw[E]at this;cases this
  ·exact OG I H E l
def BI (I3:Inv X pins σ H3 s3)(f3:∀b∈fp,kY X pins H3 b)(B:∀x,X.fn x=true)(hl:∀t∈ls,Qv X.prog X.w X.K X.mg j q t)(s:∀t∈ls,JR X t)
  (hR:∀base PG,(∀k,Q6 X.prog X.w X.K X.mg base (j+1) (PG k) (ki ls k))->zS X.prog X.w X.K X.mg base kk f 1 (Ql PG RF))(hr:jv kk X.A)
  (hi:N[i]? =some x)(hv:Y1 (relabel sc X.env) x)(hg:Gl (jo X N sc s3 H3 fp jT) f)(hdx:(x==("__debug__":Str))=false:=by decide)(hcx:(x==("__classdict__":Str))=false:=by decide)(hdf:(f==("__debug__":Str))=false:=by decide)
  (he:starEach [.Name x p2] (jo X N sc s3 H3 fp jT).env=(false,eval (.Name x p2) (jo X N sc s3 H3 fp jT).env)::starEach [] (jo X N sc s3 H3 fp jT).env:=by rfl)(Y:(backTo pos (starEach [] (jo X N sc s3 H3 fp jT).env)).any (·.1)=false:=by rfl):
  PE (jo X N sc s3 H3 fp jT) (.Call (.Name f p) [.Name x p2] [] pos) (MK (λφ H=>RE X.K φ H ρ0 σ) X.K ko (Qx i (Z2 X.env q ls) ls RF ρ0)):=by
 intro d s' L H' Q I' ⟨φ,A,ρ,S,re,M,h⟩;unfold Qx at h;cases D:ρ[i]? with
 |none=>rw[D]at h;exact h.elim|some ow=>cases ow with
  |none=>rw[D]at h;exact h.elim|some w0=>
   rw[D]at h;cases w0 with
   |clo k xs P=>
    dsimp only at h
    by_cases hP:P=Z2 X.env q ls k
    ·rw[ag hP]at h
     subst hP;cases C:ls[k]? with
     |none=>rw[C]at h;exact h.elim|some t=>
      rw[C]at h;dsimp only at h;cases ec:Qu t.idx ρ0 with
      |none=>rw[ec]at h;exact h.elim|some ws=>
       rw[ec]at h;dsimp only at h;obtain⟨v,U,a,ob,u,c,oc,uc,vs0,rfl,g1,g2,⟨t',E,gp⟩,_⟩:=re.get i _ D;rw[C]at E;cases E;obtain⟨vs,cv,rv⟩:=Pd M ec;obtain⟨fa,fd,ps,F,hm,hk,hb⟩:=hR _ _ (OK I3 f3 B hl s I').2;refine wpAny_Call_Name_kw (Ku I' hg hm ?_ hdf);refine callWith_K (h₀:=X.base) I3.mod.kin hk (zZ (jG (Na (X:=jo X N sc s3 H3 fp jT) hi hv hdx hcx) yy he pos d s' L H' (λg H1=>g=[.ref a]/\H1=H') I' ⟨.ref a,U,rfl,rfl⟩) λus s1 ⟨g,H1,I,r1,ev,eh⟩=>⟨I.kIn,?_⟩) he Y;subst ev;subst eh;obtain⟨e0,hL⟩:=OK I3 f3 B hl s I;obtain⟨fa',fd',T,F',o,hk',hb'⟩:=hR _ _ hL;rw[hm]at o;cases o;have l:K5 X.K 1 (Ql (Xr X.env q ls σ) RF) [.ref a] H1 Q E0:=by
        refine⟨rfl,φ,A,[.clo k ws (Xr X.env q ls σ k)],S,.one ⟨a,ob,u,c,oc,uc,vs,rfl,g1,g2,⟨t,C,gp,cv⟩,rv⟩,?_⟩;unfold Ql;dsimp only;rw[ag rfl];exact qA h (λ_ _ z=>z) λy A2 z J H2 l2 S2=>(z J H2 l2 S2).elim
       have Z:=F'.len _ _ _ _ l;have hu:us.length=T.length:=by rw[<- r1.length];exact Z
       refine wpAny_call (codeAny_mono (F'.run X.A X.stack s1 H1 ⟨[]++us,[]⟩ us [.ref a] Q E0 hr e0 ?_ r1 l) λr s2 n=>?_)
       ·have:=hb' s1 us (show _ from I.kIn) (by rw[bx];exact hu)
        rw[bx]at this;exact this
       ·cases r with
        |error e=>exact False.elim n|ok fl=>
         cases fl with
         |ret u1=>exact I.after n|next=>exact False.elim n|brk=>exact False.elim n|cont=>exact False.elim n
    ·rw[aj hP]at h;exact h.elim
   |_=>exact h.elim
end
def YO (nl:Nat)(mi:Ei)(tw:Tg)(i:Nat)(PF:yi)(ls:List Lm)(RF:Nat->List W->Hx->R W):ym:=λρ A=>zV nl [] mi tw (zo (.bl true)) (zM (Qx i PF ls RF ρ)) ρ A
def Fu {K:Frag}{mb:cg}{Y Pt:Addr}{sp:Sp}{S:Shared}{vs:bX}
  (KX:K.In S.heap)(y:S.heap.Ns mainGlobals mg)(c:S.heap.Ns builtinsNs mb)(T:∀x:Str,x ≠ "__name__" -> mb x=bootBuiltins x)(A:S.heap.NoLimit)(hg:S.gens=#[])
  (p:S.heap.get? a=some { cls:=.type "list",data:=.seq vs.toArray })(hi:IntsAre vs ns)(hl:ns.length<=sizeLine)(hr:jv k callerA)
  (t:S.heap.get? Pt=some (tabObj #[]))(U:K.lookup Pt=none)(M:isCodeTable S.heap Pt)(Q:BMain mg S.heap)
  (F:∀base:Heap,K.In base->base.Ns mainGlobals mg->BMain mg base->km P w K mg base gU k Y fd [x] sp)(l:∀(s:Shared)(u:Value),BindsTo s fd ⟨[u],[]⟩ [(x,u)])
  (I:∀H:Hp,H Pt=some (.tbl #[])->YZ K H a (ns.map V.int)->sp [.ref a] H (λv _=>v=.bl true) λ_ _ _=>False):
  codeAny (model P w) callerA (.call (.ref Y) ⟨[.ref a],[]⟩) (λr s'=>r=.ok (.ret (.bool true))/\OldK S.heap s'.heap/\s'.os=S.os/\AllBare s'.gens) S:=by
 have rv:=Ke hi;have L:=hi.length;have j:a≠Pt:=λz=>by rw[z,t]at p;cases p
 have core:∀H:Hp,H Pt=some (.tbl #[])->YZ K H a (ns.map V.int)->ye P w H S.heap->(∀b,H b≠none->b=a∨b=Pt)->(∀u,H a=some u->K.lookup a=none/\∃o xs,u=.frz o (.lst xs))->
   codeAny (model P w) callerA (.call (.ref Y) ⟨[.ref a],[]⟩) (λr s'=>r=.ok (.ret (.bool true))/\OldK S.heap s'.heap/\s'.os=S.os/\AllBare s'.gens) S:=by
  intro H hO hS hok D hK;have base_of:∀{b:Addr}{o:Obj},S.heap.get? b=some o->H b=none->(ZY S.heap H).get? b=some o:=λe n=>DD e n;have E:∀{b:Addr}{o:Obj}{es:Array DictEntry}{ep:Nat},S.heap.get? b=some o->o.data=.dict es ep->H b=none:=λ {b o es ep} e d=>by
   cases q:H b with
   |none=>rfl|some u=>
    rcases D b (by rw[q];simp) with z|z
    ·subst z
     rw[p]at e;cases e;have d':Data.seq vs.toArray _=Data.dict es ep:=d;cases d'
    ·subst z
     rw[t]at e;cases e;cases d
  have N:∀{b:Addr}{m:cg},S.heap.Ns b m->(ZY S.heap H).Ns b m:=λ {b m} ⟨o,es,ep,e,d,r⟩=>⟨o,es,ep,base_of e (E e d),d,r⟩;have B:K.In (ZY S.heap H):=λb o e=>base_of (KX b o e) (by
   cases q:H b with
   |none=>rfl|some u=>
    rcases D b (by rw[q];simp) with z|z
    ·subst z
     rw[(hK u q).1]at e;cases e
    ·subst z
     rw[U]at e;cases e)
  have X:BMain mg (ZY S.heap H):=by
   obtain⟨bm,o,b1,b2,b3,C,b5,b6,b7⟩:=Q;refine⟨bm,o,b1,b2,b3,base_of C ?_,b5,b6,b7⟩;cases q:H bm with
   |none=>rfl|some u=>
    rcases D bm (by rw[q];simp) with z|z
    ·subst z
     rw[p]at C;cases C;exact absurd b5 (by intro q;injection q with q;exact absurd q (by decide))
    ·subst z
     rw[t]at C;cases C;cases b5
  have hM:Mod K mg (ZY S.heap H):=⟨B,N y,⟨mb,N c,T⟩,let ⟨mc,h1,h2⟩:=A;⟨mc,N h1,h2⟩⟩
  have e0:YU P w K mg (ZY S.heap H) callerA [] S H:=⟨rfl,hM,λb o e=>Cz e,Nat.le_of_eq (FV _ _),trivial,λb c=>absurd (show b∈([]:bY) from c) (by simp),hok,.of_eq hg⟩
  refine codeAny_mono ((F _ B (N y) X).run callerA [] S H ⟨[.ref a],[]⟩ [.ref a] [.ref a] _ _ hr e0 (l S (.ref a)) (.cons rfl .nil) (I H hO hS)) λr s' h=>?_;cases r with
  |error e=>exact False.elim h|ok fl=>
   cases fl with
   |next=>exact False.elim h|brk=>exact False.elim h|cont=>exact False.elim h|ret u=>
    obtain⟨v,H',os,bare,un,g,r',q⟩:=h;have q':v=.bl true:=q;subst q';obtain rfl:u=Value.bool true:=r';refine⟨rfl,⟨λb o e=>?_,λb o e=>un.there b o e (by simp)⟩,os,bare⟩
    cases q:H b with
    |none=>exact .inl (un.keep b o e q (by intro z;exact absurd (show b∈([]:bY) from z) (by simp)) (by simp))|some u=>
     rcases D b (by rw[q];simp) with z|z
     ·subst z
      obtain⟨ob,xs,rfl⟩:=(hK u q).2;have i:=un.frzs _ ob _ q;obtain⟨e1,_⟩:=hok _ _ q;obtain⟨e2,_⟩:=g _ _ i;rw[e]at e1;cases e1;exact .inl e2
     ·subst z
      rw[t]at e;cases e;obtain⟨more,i⟩:=un.tbls _ _ hO;exact .inr (.inl ⟨M,rfl,#[],more,rfl,g _ _ i⟩)
 cases J:K.lookup a with
 |some o=>
  have e:=KX a o J;rw[p]at e;cases e;refine core (λb=>if b=Pt then some (.tbl #[]) else none) (ag rfl) (.inr ⟨_,vs.toArray,_,J,rfl,rfl,rfl,by rw[aC,L];exact hl,by simpa using rv⟩) (λb u z=>?_) (λb z=>?_) λu z=>?_
  ·by_cases c:b=Pt
   ·have Z:=(ag c).symm.trans z
    cases Z;rw[c];exact t
   ·have Z:=(aj c).symm.trans z
    cases Z
  ·by_cases c:b=Pt
   ·exact .inr c
   ·exact absurd (aj c) z
  ·have Z:=(aj j).symm.trans z
   cases Z
 |none=>
  refine core (λb=>if b=Pt then some (.tbl #[]) else if b=a then some (.frz { cls:=.type "list",data:=.seq vs.toArray } (.lst (ns.map V.int))) else none) (ag rfl)
   (.inl ⟨{ cls:=.type "list",data:=.seq vs.toArray },(aj j).trans (ag rfl)⟩) (λb u z=>?_) (λb z=>?_) λu z=>?_
  ·by_cases c:b=Pt
   ·have Z:=(ag c).symm.trans z
    cases Z;rw[c];exact t
   ·have Z:=(aj c).symm.trans z
    by_cases f:b=a
    ·have i:=(ag f).symm.trans Z
     cases i;subst f;exact⟨p,by rw[ah];exact hl,vs,_,rv,p⟩
    ·have i:=(aj f).symm.trans Z
     cases i
  ·by_cases c:b=Pt
   ·exact .inr c
   ·by_cases f:b=a
    ·exact .inl f
    ·exact absurd ((aj c).trans (aj f)) z
  ·have Z:=((aj j).trans (ag rfl)).symm.trans z
   cases Z;exact⟨J,_,_,rfl⟩
inductive spT (K:Frag)(n:Nat)(fs:yi->Fn)(vs:List V)(H:Hp)(Q:VK)(E:XK):Prop
 |mk (len:vs.length=n) (φ:bY) (A:Hx) (ws:List W) (S:zN K φ A H) (r:zD K φ H ws vs) (q:∀PF,(fs PF ws A).post (PB K φ H Q) (EB K φ H (XE K E)))
def spT.len {K:Frag}{fs:yi->Fn}{Q:VK}{E:XK}(h:spT K n fs vs H Q E):vs.length=n:=by cases h;assumption
def NH (q:Str)(fs:Addr->yi->Fn):Prop:=∀ns:bV,ns.length<=63->∀Pt PF,∃A,fs Pt PF [.ref 0] [.ro (ns.map W.int),.tab q Pt]=.ok (.bl true) A
def Hk {K:Frag}{Pt:Addr}{q:Str}(P:H Pt=some (.tbl #[]))(S:YZ K H a (ns.map V.int)):zN K [a,Pt] [.ro (ns.map W.int),.tab q Pt] H:=by
 refine⟨rfl,λi j b o o' g f d c m1 m2=>?_,λn o h=>?_⟩
 ·match i,j,d,c with
  |0,_,d,_=>simp at d;subst d;cases m1|_,0,_,c=>simp at c;subst c;cases m2|1,1,_,_=>rfl|i+2,_,d,_=>simp at d|_,j+2,_,c=>simp at c
 ·match n,h with
  |0,h=>simp at h;subst h;exact⟨a,rfl,ns.map V.int,S,zD.ints.mpr rfl⟩|1,h=>simp at h;subst h;exact⟨Pt,rfl,rfl,#[],P,trivial,λpos cv e=>nomatch e⟩
  |n+2,h=>simp at h
section
variable {K:Frag}
def EZ {Pt:Addr}{a:Value}{o:cq}(hn:nsIn K mainGlobals x=some (some (.ref f)))(lk:K.lookup f=some ⟨a,o,.func fd,osl⟩)(h:tabIn K x=some (c,Pt)):fd.code=.ref c:=by
 unfold tabIn at h;rw[hn]at h;dsimp only at h;rw[lk]at h;dsimp only at h
 split at h
 ·rename_i C H
  split at h
  ·split at h
   ·cases h;exact H
   ·cases h
  ·cases h
 ·cases h
end
noncomputable def Ub (K:Frag)(x:Str)(Pt:Addr):Bool:=match tabIn K x with
 |some (c,P)=>P==Pt&&codeHdIn K c Pt|none=>false
def RU {K:Frag}{Pt:Addr}(h:Ub K x Pt=true):∃c,tabIn K x=some (c,Pt)/\codeHdIn K c Pt=true:=by
 unfold Ub at h
 split at h
 ·rename_i c P e
  rw[ar,aM]at h;obtain⟨rfl,H⟩:=h;exact⟨c,e,H⟩
 ·cases h
def zcc {l:PySem.W.OpenLaw}{q:Program}{loose:b9}{I:World->Heap->Prop}{d:DefRec}{Kp:Params->Frag}{Q:Str}{fs:Addr->yi->Fn}{Pt:Addr}(ok:NH Q fs)
  (hn:l.most=some 63)(y:d.params.defaults=[])(X:jv k callerA)(hY:∀(w:World)(h:Heap),I w h->(Kp w.params).In h)(hT:∀(w:World)(h:Heap),I w h->h.get? Pt=some (tabObj #[]))(L:∀p,Ub (Kp p) d.name Pt=true)(P:∀p,(Kp p).lookup Pt=none)
  (F:∀(w:World)(mg:cg)(i:Addr)(h:Heap),(Kp w.params).In h->h.Ns mainGlobals mg->mg d.name=some (.ref i)->(∃c,tabIn (Kp w.params) d.name=some (c,Pt)/\codeHdIn (Kp w.params) c Pt=true)->
   ∃fd:FuncData,(∀(s:Shared)(u:Value),BindsTo s fd ⟨[u],[]⟩ [(x,u)])/\∀base:Heap,(Kp w.params).In base->base.Ns mainGlobals mg->BMain mg base->km l.prog w (Kp w.params) mg base gU k i fd [x] (spT (Kp w.params) 1 (fs Pt))):
  PySem.W.WalkO q loose XP I l.row.toRowW d [] (λf vs=>PySem.call f vs):=by
 refine Att.IM (n:=63) hn y λw J S mg mb i o pm cd doc a vs ns G Y ho hd M t j hints hlen Z=>?_;have K:=hY w _ Y;obtain⟨fd,hb,hF⟩:=F w mg i _ K G.T.g t (RU (L w.params));obtain⟨c,_,B⟩:=RU (L w.params);have N:=hT w _ Y;have hc:isCodeTable S.heap Pt:=((codeHd_of_K K B).tab N).isCodeTable;have C:BMain mg S.heap:=by
  obtain⟨bm,ob,b1,b2,E,b4,b5,D⟩:=G.T.bmain;refine⟨bm,ob,b1,b2,λz=>?_,E,b4,b5,D⟩;obtain⟨o,es,ep,e,hd,_⟩:=G.T.g;rw[z,e]at E;cases E;rw[hd]at D;cases D
 refine Fu K G.T.g G.T.b G.T.builtins G.T.nolimit Z j hints (bg hlen (by decide)) X N (P w.params) hc C hF hb λH h1 h2=>?_
 refine⟨rfl,[a,Pt],[.ro (ns.map W.int),.tab Q Pt],[.ref 0],Hk h1 h2,.one ⟨a,rfl,rfl⟩,λPF=>?_⟩;obtain⟨A,e⟩:=ok ns hlen Pt PF;rw[e];exactλU H' v _ _ r=>r
def yC.m {K:Frag}{f:Fn}(F:yC P w K mg base k x n f):zS P w K mg base k x n λws A=>(f ws A).nox:=by
 obtain⟨i,fd,ps,F,hm,c,d⟩:=F;have up:∀vs H Q E,K5 K n (λws A=>(f ws A).nox) vs H Q E->Xi K n f vs H Q (λ_ _ _=>False):=λvs H Q E ⟨l,φ,A,ws,S,r,h⟩=>⟨l,φ,A,ws,S,r,by
  cases a:f ws A with
  |ok u A1=>(try dsimp only at h);rw[a]at h;exact h|exc y A1=>(try dsimp only at h);rw[a]at h;exact h.elim|bad=>(try dsimp only at h);rw[a]at h;exact h.elim⟩
 refine⟨i,fd,ps,⟨λvs H Q E h=>F.len vs H Q _ (up vs H Q E h),λA outer s H args us vs Q E b he t v h=>?_⟩,hm,c,d⟩;refine codeAny_mono (F.run A outer s H args us vs Q _ b he t v (up vs H Q E h)) λr s' h'=>?_;cases r with
 |error e=>
  unfold CR at h';obtain⟨_,_,_,_,_,_,_,_,_,_,z⟩:=h';exact z.elim
 |ok g=>cases g<;>exact h'
theorem yC.mono {K:Frag}{f:Fn}(F:yC P w K mg base j x n f)(h:j<=k):yC P w K mg base k x n f:=by cases F with|mk d fd ps F a b c=>exact⟨d,fd,ps,F.mono h,a,b,c⟩
noncomputable abbrev Xf:bX:=[.type "ValueError",.type "Exception",.type "BaseException",.type "object"]
noncomputable abbrev G7:String := "ValueError.__new__"
section
variable {K:Frag}{cs:b9}{top nm:Str}
noncomputable def clsAt (K:Frag)(x:Str):Addr:=match nsIn K mainGlobals x with
 |some (some (.ref C))=>C|_=>0
def isAt (K:Frag)(x:Str):Bool:=nsIn K mainGlobals x==some (some (.ref (clsAt K x)))
def jy (cs:b9)(x:Str):Str->Option Bool:=λnm=>if cs.contains nm then some (nm==x) else none
def Tn (cs:b9):Str->Option Bool:=λnm=>if cs.contains nm then some true else none
def Q0 (K:Frag)(cs:b9)(x:Str):Bool:=isAt K x&&kitOne K (.type "NoneType") (.ref (clsAt K x))==some false&&cs.all λnm=>kitOne K (.ref (clsAt K nm)) (.ref (clsAt K x))==some (nm==x)
def Gu (K:Frag)(top nm:Str):Bool:=isAt K nm&&Kz K (clsAt K nm)&&Mi.Zo K (clsAt K nm) Xf G7&&JV K (clsAt K nm) (clsAt K top)&&kitOne K (.ref (clsAt K nm)) (.type "ValueError")==some true
def Uj (K:Frag)(top:Str):Bool:=isAt K top&&Mi.Zo K (clsAt K top) Xf G7&&kitOne K (.type "NoneType") (.type "ValueError")==some false
def VX (h:isAt K x=true):kC K x (.ref (clsAt K x)):=aM.mp h
def VB {C:Addr}(h:kC K x (.ref C)):C=clsAt K x:=by
 unfold clsAt;unfold kC at h;rw[h]
structure VD (K:Frag)(top nm:Str):Prop where
 at_:kC K nm (.ref (clsAt K nm))
 kit:Kz K (clsAt K nm)=true
 exc:Mi.Zo K (clsAt K nm) Xf G7=true
 up:JV K (clsAt K nm) (clsAt K top)=true
 val:kitOne K (.ref (clsAt K nm)) (.type "ValueError")=some true
def fE (h:Gu K top nm=true):VD K top nm:=by
 unfold Gu at h;simp only[ar,aM]at h;obtain⟨⟨⟨⟨d,c⟩,b⟩,a⟩,H⟩:=h;exact⟨VX d,c,b,a,H⟩
structure wY (K:Frag)(cs:b9)(top:Str):Prop where
 exc:∀nm,cs.contains nm=true->VD K top nm
 top_at:kC K top (.ref (clsAt K top))
 top_exc:Mi.Zo K (clsAt K top) Xf G7=true
 non:kitOne K (.type "NoneType") (.type "ValueError")=some false
def fF (h:cs.all (Gu K top ·)=true)(t:Uj K top=true):wY K cs top:=by
 unfold Uj at t;simp only[ar,aM]at t;obtain⟨⟨t1,T⟩,t3⟩:=t;exact⟨λnm e=>fE (cD.mp h nm (List.contains_iff_mem.mp e)),VX t1,T,t3⟩
def wY.isx (c:wY K cs top)(h:Q0 K cs x=true):KI K (jy cs x) (.ref (clsAt K x)):=by
 unfold Q0 at h;simp only[ar,aM]at h;obtain⟨⟨f,d⟩,a⟩:=h;refine⟨d,λnm C b e H=>?_⟩;unfold jy at e
 by_cases hm:cs.contains nm=true
 ·rw[ag hm]at e
  cases e;cases VB H;exact⟨(c.exc nm hm).kit,aM.mp (cD.mp a nm (List.contains_iff_mem.mp hm))⟩
 ·rw[aj hm]at e;cases e
def wA (h:Q0 K cs x=true):kC K x (.ref (clsAt K x)):=by
 unfold Q0 at h;simp only[ar,aM]at h;exact VX h.1.1
def wY.isv (c:wY K cs top):KI K (Tn cs) (.type "ValueError"):=by
 refine⟨c.non,λnm C b e h=>?_⟩;unfold Tn at e
 by_cases hm:cs.contains nm=true
 ·rw[ag hm]at e
  cases e;cases VB h;exact⟨(c.exc nm hm).kit,(c.exc nm hm).val⟩
 ·rw[aj hm]at e;cases e
def wY.under (c:wY K cs top):∀nm,cs.contains nm=true->∀C,kC K nm (.ref C)->∃b n,Mi.Zo K C b n=true/\JV K C (clsAt K top)=true:=λnm hm C h=>by
 cases VB h;exact⟨_,_,(c.exc nm hm).exc,(c.exc nm hm).up⟩
end
noncomputable def GI (M:b9)(sc:Scope)(t:Lm):Bool:=t.idx.length==t.N.length&&((List.range t.N.length).all λi=>match t.N[i]?,t.idx[i]? with
 |some x,some j=>M[j]?==some x&&t.scope.names.lookup x==some .free|_,_=>false)&&t.scope.names.all λy=>!(y.2==.free) || (sc.names.lookup y.1==some .cell || sc.names.lookup y.1==some .free)
def OS {t:Lm}(h:GI X.N X.env.scope t=true):JR X t:=by
 unfold GI at h;rw[ar,ar]at h;obtain⟨⟨d,c⟩,b⟩:=h;refine⟨aM.mp d,λi x j E f=>?_,λy H e=>?_⟩
 ·have a:i<t.N.length:=(cA.mp E).1
  have q:=cD.mp c i (cB.mpr a);rw[E,f]at q;dsimp only at q;rw[ar]at q;exact⟨aM.mp q.1,aM.mp q.2⟩
 ·have q:=cD.mp b y H
  rw[e]at q;rw[bP,bP]at q;rcases q with q|q|q
  ·cases q
  ·exact .inl (aM.mp q)
  ·exact .inr (aM.mp q)
def all_nil {p:α->Prop}:∀t∈([]:List α),p t:=λ_ h=>nomatch h
def all_cons {p:α->Prop}{a:α}{l:List α}(h:p a)(r:∀t∈l,p t):∀t∈a::l,p t:=λt H=>by
 rcases cz.mp H with e|e
 ·rw[e];exact h
 ·exact r t e
def fG {q:Str}{ls:List Lm}{t:Lm}(H:ls[k]? =some t):Z2 env q ls k=G1 q t.params t.body t.scope (kT env t.scope.names []):=by
 funext ob c o vs
 refine propext ⟨λ⟨t',e,h⟩=>?_,λh=>⟨t,H,h⟩⟩;rw[H]at e;cases e;exact h
noncomputable def JF:Stmt:=.Pass ⟨0,0,0,0⟩
noncomputable def YK:Expr:=.Constant .none 0 ⟨0,0,0,0⟩
def UR (s:Stmt)(i:Nat):Stmt:=match s with
 |.For _ _ b _ _=>b.getD i JF|.If _ b _ _=>b.getD i JF|.While _ b _ _=>b.getD i JF|_=>JF
def UX (s:Stmt):Expr:=match s with
 |.Assign _ v _=>v|.Expr v _=>v|.Return (some v) _=>v|_=>YK
def UQ (e:Expr)(i:Nat):Expr:=match e with
 |.Call _ a _ _=>a.getD i YK|.List E _=>E.getD i YK|.Tuple E _ _=>E.getD i YK|.BinOp a _ b _=>if i=0 then a else b|_=>YK
noncomputable def fH (e:Expr):Arguments:=match e with
 |.Lambda a _ _ _=>a|_=>{ posonlyargs:=[],args:=[],vararg:=none,kwonlyargs:=[],kw_defaults:=[],kwarg:=none,defaults:=[] }
def fI (e:Expr):Expr:=match e with
 |.Lambda _ b _ _=>b|_=>YK
noncomputable def fJ (e:Expr):Scope:=match e with
 |.Lambda _ _ s _=>s|_=>{ kind:=.function,names:=[],isGenerator:=false,isCoroutine:=false }
def YR (e:Expr)(N:b9)(idx:b8)(m:Ev):Lm:=⟨N,idx,fH e,fI e,fJ e,m⟩
def fK {K:Frag}{st:Stmt}(F:w6 K x x st f fd)(hm:mg x=some (.ref f))
  (b:∀(kV doc pm:Value)(an:cq)(c ct:Value)(us:bX),us.length=ps.length->bindArgs (fnOf x x (QP st) (wz st) (qE st) .none kV doc pm an c ct) ⟨us,[]⟩=pure (ps.zip us)):zS P w K mg base k x ps.length (λ_ _=>.bad):=
 ⟨f,fd,ps,⟨λvs H Q E h=>h.1,λA outer s H args us vs Q E _ _ _ _ h=>by obtain⟨_,_,_,_,_,_,z⟩:=h;exact z.elim⟩,hm,F.kp,F.binds b⟩
def BU {K:Frag}(t a b:Ty):kitAny K (.type t.nm) [.type a.nm,.type b.nm]=some (kE t a || kE t b):=by
 unfold kitAny;rw[Gf];cases kE t a with
 |true=>rfl|false=>
  dsimp only;unfold kitAny;rw[Gf];cases kE t b<;>rfl
section
variable {a b:Expr}{m:Ev}
def J3.kitx {x:V}{t:Ty}(I:Inv X pins σ H s)(r:RelV x u)(h:J3 X.K H x t):∃d:Heap->Prop,PySem.W.KitX X.K u (.type t.nm) d/\d s.heap/\u≠.builtin "__main__.__loader__#opaque":=by
 rcases h with h|⟨a,xs,rfl,h,rfl⟩
 ·generalize hT:Value.type t.nm=T at h
  cases h with
  |non=>cases (show u=Value.none from r);exact⟨_,kitx_none,True.intro,λz=>nomatch z⟩
  |bl y=>cases (show u=Value.bool y from r);exact⟨_,kitx_bool,True.intro,λz=>nomatch z⟩
  |int i=>obtain⟨t,q⟩:=(show ∃t,u=Value.int i t from r);cases q;exact⟨_,kitx_int,True.intro,λz=>nomatch z⟩
  |str y=>obtain⟨t,q⟩:=(show ∃t,u=Value.str y t from r);cases q;exact⟨_,kitx_str,True.intro,λz=>nomatch z⟩
  |flt y=>obtain⟨t,q⟩:=(show ∃t,u=Value.float y t from r);cases q;exact⟨_,kitx_float,True.intro,λz=>nomatch z⟩
  |@lst a xs ea=>
   cases (show u=Value.ref a from r)
   obtain⟨_,_,n,_,b⟩:=(show jh X.prog X.w H s.heap a (.lst xs) from I.hok a _ ea)
   exact⟨_,kitx_list,⟨_,b,rfl⟩,λz=>nomatch z⟩
  |@frz a ob xs ea=>
   cases (show u=Value.ref a from r)
   obtain⟨_,_,_,n,_,b⟩:=(show jh X.prog X.w H s.heap a (.frz ob (.lst xs)) from I.hok a _ ea)
   exact⟨_,kitx_list,⟨_,b,rfl⟩,λz=>nomatch z⟩
  |@tup a xs ea=>
   cases (show u=Value.ref a from r)
   obtain⟨_,_,_,p⟩:=(show jh X.prog X.w H s.heap a (.tup xs) from I.hok a _ ea)
   obtain⟨o,b,c,_⟩:=p;exact⟨_,kitx_tuple,⟨o,b,c.1⟩,λz=>nomatch z⟩
  |@dK a kvs ea=>
   cases (show u=Value.ref a from r)
   obtain⟨_,_,_,_,o,_,_,b,c,_⟩:=(show jh X.prog X.w H s.heap a (.dK kvs) from I.hok a _ ea)
   exact⟨_,kitx_dict,⟨o,b,c.1⟩,λz=>nomatch z⟩
  |@dT a kvs ea=>
   cases (show u=Value.ref a from r)
   obtain⟨_,_,_,_,o,_,_,b,c,_⟩:=(show jh X.prog X.w H s.heap a (.dT kvs) from I.hok a _ ea)
   exact⟨_,kitx_dict,⟨o,b,c.1⟩,λz=>nomatch z⟩
  |ins=>cases hT
 ·cases (show u=Value.ref a from r)
  obtain⟨e,_,⟨o,b,c,_⟩,_⟩:=I.tuple h;exact⟨_,kitx_tuple,⟨o,b,c⟩,λz=>nomatch z⟩
def fL (K:Frag)(a b:Ty):List V->Hp->VK->Prop:=λxs H Q=>∃x t l,xs=[x,.ref l]/\qo K H l [.ty (Ty.nm a),.ty (Ty.nm b)]/\J3 K H x t/\Q (.bl (kE t a || kE t b)) H
def DI {a b:Ty}:yt X (.builtin "isinstance") (fL X.K a b):=by
 intro pins s σ H xs us Q I r h;obtain⟨x,t,l,rfl,y,w,q⟩:=h;obtain⟨u,e,rfl,f,c⟩:=vals2 r;cases (show e=Value.ref l from c)
 obtain⟨p,v,⟨o,C,B,k,A⟩,_⟩:=I.tuple y;obtain⟨d,U,rfl,i,g⟩:=vals2 v;cases (show d=Value.type a.nm from i)
 cases (show U=Value.type b.nm from g)
 obtain⟨J,Z,z,ne⟩:=w.kitx I f;obtain⟨n,E,j,D⟩:=o;cases (show n=_ from B)
 cases (show j=_ from A)
 exact PySem.W.kia_tup Z I.kIn z C (BU t a b) ne λtk=>⟨.bl (kE t a || kE t b),H,I.tok tk,rfl,q⟩
def Xb (t T:Ty)(m:Ev):Ev:=λρ A=>(m ρ A).bind λw A1=>match jO w A1 with
 |some t'=>.ok (.bl (kE t' t || kE t' T)) A1
 |none=>.bad
noncomputable def Jb (m:Ev)(tw:Tg):Ex:=λρ A=>(m ρ A).bind λw A1=>match tw w ρ with
 |some a=>.ok (.nx a) A1|none=>.bad
end
open Classical in
def JC:W->W->Hx->R W:=λx y A=>match x,y with
 |.ref n,.ref k=>match A[n]?,A[k]? with
  |some (.lst ws),some (.lst us)=>if ws.length+us.length<=zR then .ok .non (A.set n (.lst (ws++us))) else .bad|_,_=>.bad
 |_,_=>.bad
def Fb:∀x y A,qR (JC x y A):=λx y A=>by
 unfold JC
 split
 ·split
  ·exact Zd jY qP
  ·exact qP
 ·exact qP
section
noncomputable abbrev gv (led:Bool):Obj:={ cls:=.type "set",dict:=none,data:=.set #[] 0 (.fresh 0 0 led) }
end
def intsAre_of:∀{ns:bV}{i:bX},Vals (ns.map V.int) i->IntsAre i ns:=by
 intro ns
 induction ns with
 |nil=>intro i h;cases h;exact .nil|cons n ns I=>
  intro i h;cases h with
  |cons r t=>obtain⟨tk,rfl⟩:=r;exact .cons n tk (I t)
section
open PySem.SeqAt
open PySem.AutoSeq1 (wpAny_loadPart')
open PySem.MeetsSeq PySem.MeetsSeq2 PySem.MeetsSeq3
end
section
variable {K:Frag}
def PD {w:W}(h:qd A 8 w=some (.list ds)):PyData.canLayAll0 ds=true/\PyData.depthAll ds<=8:=by
 obtain⟨H,a⟩:=WS 8 w _ h;simp only[PyData.canLay0,PyData.depth]at H a;exact⟨H,by omega⟩
def zdv:W->W->Hx->R W:=λx y A=>match qd A 8 x,qd A 8 y with
 |some d,some (.list ds)=>.ok (.bl (ds.any λz=>PyData.eqv z d)) A|_,_=>.bad
noncomputable def ZU (p:PyData->Bool):List PyData->Option Nat
 |[]=>none|d::ds=>if p d then some 0 else(ZU p ds).map (· + 1)
theorem Og {p:PyData->Bool}:∀{ds:List PyData}{j:Nat},ZU p ds=some j->∃h:j<ds.length,p ds[j]=true/\∀m (hm:m<ds.length),m<j->p ds[m]=false
 |[],_,e=>by cases e|d::ds,j,e=>by
  unfold ZU at e
  by_cases hd:p d=true
  ·rw[ag hd]at e
   cases e;exact⟨Nat.zero_lt_succ _,hd,λm _ z=>absurd z (not_lt_zero _)⟩
  ·rw[aj hd]at e
   cases E:ZU p ds with
   |none=>rw[E]at e;cases e|some J=>
    rw[E]at e;cases e;obtain⟨b,a,H⟩:=Og E;refine⟨Nat.succ_lt_succ b,a,λm hm z=>?_⟩;cases m with
    |zero=>exact Bool.eq_false_iff.mpr hd|succ m=>exact H m (Nat.lt_of_succ_lt_succ hm) (Nat.lt_of_succ_lt_succ z)
def Cw (K:Frag):V->List V->Hp->VK->Prop:=λx vs H Q=>∃φ A u v y d ds j,vs=[y]/\zN K φ A H/\RV K φ H u x/\RV K φ H v y/\qd A 8 u=some (.list ds)/\qd A 8 v=some d/\ZU (λz=>PyData.eqv z d) ds=some j/\j<1000000/\Q (.int j) H
def FC (M:X.A.units+64<cLine):Xp X "list.index" (Cw X.K):=by
 intro pins s σ H x vs v us Q I r i h;obtain⟨φ,A,f,w,y,d,ds,j,rfl,S,t,p,a,E,J,N,q⟩:=h;obtain⟨u,rfl,k⟩:=i.one;obtain⟨as,C⟩:=QN I S 8 f x v _ t r a;obtain⟨bs,B⟩:=QN I S 8 w y u d p k E;obtain⟨g1,g2⟩:=WS 8 w d E;obtain⟨g3,P⟩:=PD a;obtain⟨f1,f2,D⟩:=Og J;cases C with
 |list a1 a2 c b=>
  rename_i l o items n L
  obtain⟨cls,dd,data,g⟩:=o;simp only at a2 c;subst a2 c;have hm:=SeqAt.readsAll_map _ _ _ g3 b;have hlen:items.size=ds.length:=by rw[<- hm];simp
  have at_:∀m (h:m<items.size) (h':m<ds.length),SeqAt.readOf s.heap items[m]=ds[m]:=λm h h'=>by
   have e:(items.toList.map (SeqAt.readOf s.heap))[m]? =ds[m]?:=by rw[hm]
   rw[ax,aa h',bB,Array.getElem?_eq_getElem h]at e;exact aB e
  refine call_meets F.slot_list_index ⟨_,a1,rfl⟩ F.entry_list_index (F.args_list_index_2 _ _)
   (SeqAt.list_indexAt l items n dd g u (λz=>PyData.eqv (SeqAt.readOf s.heap z) d) j (by omega) (by omega) (by rw[at_ j (by omega) f1];exact f2) (λm h z=>by rw[at_ m h (by omega)];exact D m (by omega) z)) ⟨a1,SeqAt.items_eqAt b B g3 g1 (by omega),?_⟩
  exact⟨.int j,H,I.tok _,⟨_,rfl⟩,q⟩
def ZN:W->W->Hx->R W:=λx y A=>match qd A 8 x,qd A 8 y with
 |some (.list ds),some d=>(match ZU (λz=>PyData.eqv z d) ds with
  |some j=>if j<1000000 then .ok (.int j) A else .bad|none=>.bad)
 |_,_=>.bad
def EK:∀x y A,qR (ZN x y A):=λx y A=>by
 unfold ZN
 split
 ·split
  ·exact Zd jY qP
  ·exact qP
 ·exact qP
end
end Mi
variable {ls:List Mi.Lm}
namespace Mi
open PySem
noncomputable def qe (n:Nat):b8:=(List.range 8).filter λi=>n.testBit i
def jk (led:Bool)(n:Nat):SetTable:=if (qe n).length<5 then⟨7,(qe n).toArray,#[],0,led,0,true⟩ else⟨31,(qe n).toArray,#[],0,led,1,true⟩
noncomputable def jC (n v:Nat):Nat:=n ||| (1 <<< v)
def Zl (n v:Nat):Nat:=((qe n).filter λi=>decide (i<v)).length
def we (led:Bool)(n v:Nat):SetTable:={ jk led n with place:=(qe (jC n v)).toArray }
def kh (led:Bool)(n v:Nat):Bool:=n.testBit v || (((jk led n).freeSlot (v:Int)==some (v,false))&&((jk led n).put v==(we led n v,Zl n v))&&(qe (jC n v)==(qe n).take (Zl n v)++v::(qe n).drop (Zl n v))&&
 (we led n v).fits (qe (jC n v)).length&&((we led n v).tooFull==((qe (jC n v)).length==5))&&
 (if (qe (jC n v)).length==5 then(we led n v).relaid ((qe (jC n v)).map λ(i:Nat)=>(i:Int)).toArray 20==some (jk led (jC n v),#[0,1,2,3,4]) else jk led (jC n v)==we led n v)&&
 (jk led (jC n v)).fits (qe (jC n v)).length&&decide (jC n v<256))
def add_0:((List.range' 0 32).all λn=>(List.range 8).all λv=>kh true n v&&kh false n v)=true:=by decide +kernel
def fM:((List.range' 32 32).all λn=>(List.range 8).all λv=>kh true n v&&kh false n v)=true:=by decide +kernel
def fN:((List.range' 64 32).all λn=>(List.range 8).all λv=>kh true n v&&kh false n v)=true:=by decide +kernel
def fO:((List.range' 96 32).all λn=>(List.range 8).all λv=>kh true n v&&kh false n v)=true:=by decide +kernel
def fP:((List.range' 128 32).all λn=>(List.range 8).all λv=>kh true n v&&kh false n v)=true:=by decide +kernel
def fQ:((List.range' 160 32).all λn=>(List.range 8).all λv=>kh true n v&&kh false n v)=true:=by decide +kernel
def fR:((List.range' 192 32).all λn=>(List.range 8).all λv=>kh true n v&&kh false n v)=true:=by decide +kernel
def fS:((List.range' 224 32).all λn=>(List.range 8).all λv=>kh true n v&&kh false n v)=true:=by decide +kernel
def BQ:((List.range 256).all λn=>(List.range 8).all λv=>kh true n v&&kh false n v)=true:=by
 rw[show List.range 256=List.range' 0 32++(List.range' 32 32++(List.range' 64 32++(List.range' 96 32++(List.range' 128 32++(List.range' 160 32++(List.range' 192 32++List.range' 224 32)))))) by decide +kernel,bR,bR,bR,bR,bR,bR,bR,add_0,fM,fN,fO,fP,fQ,fR,fS]
 rfl
open PySem PySem.Spec PyProof.Rows
inductive jz:List (Int×Value)->List Nat->Prop
 |nil:jz [] []
 |cons {es:List (Int×Value)} {vs:b8} (v:Nat) (tk:Tok) (h:jz es vs):jz (((v:Int),.int (v:Int) tk)::es) (v::vs)
theorem jz.length {vs:b8}(h:jz es vs):es.length=vs.length:=by
 induction h with
 |nil=>rfl|cons v tk h i=>simp[i]
def jz.map1 {vs:b8}(h:jz es vs):es.map (·.1)=vs.map λ(i:Nat)=>(i:Int):=by
 induction h with
 |nil=>rfl|cons v tk h I=>simp[I]
theorem jz.take {vs:b8}(h:jz es vs):∀k,jz (es.take k) (vs.take k):=by
 induction h with
 |nil=>intro k;simp;exact .nil|cons v tk h i=>
  intro k;cases k with
  |zero=>exact .nil|succ k=>exact .cons v tk (i k)
theorem jz.drop {vs:b8}(h:jz es vs):∀k,jz (es.drop k) (vs.drop k):=by
 induction h with
 |nil=>intro k;simp;exact .nil|cons v tk h i=>
  intro k;cases k with
  |zero=>exact .cons v tk h|succ k=>exact i k
def jz.app {es':List (Int×Value)}{vs a:b8}(h:jz es vs)(h':jz es' a):jz (es++es') (vs++a):=by
 induction h with
 |nil=>exact h'|cons v tk h i=>exact .cons v tk i
def RR:∀v,v<8->hashInt ((v:Nat):Int)=(v:Int):=by decide
section
variable {prog:Program}
def jz.elems {vs:b8}(h:jz es vs)(H:∀v∈vs,v<8):ElemsOf (intKind prog w) es:=by
 induction h with
 |nil=>intro e he;cases he|cons v tk h i=>
  intro e he;rcases cz.mp he with rfl|he
  ·exact⟨⟨(v:Int),intKind_is _ _ _ _,(RR v (H v (ay ..))).symm⟩,rfl⟩
  ·exact i (λu a=>H u (aq _ a)) e he
def jz.find {vs:b8}(h:jz es vs)(v:Nat):(es.findIdx? λe=>(intKind prog w).is (v:Int) e.2)=vs.findIdx? λu=>decide (u=v):=by
 induction h with
 |nil=>rfl|cons u tk h i=>
  rw[List.findIdx?_cons,List.findIdx?_cons,i]
  have:(intKind prog w).is (v:Int) (Value.int (u:Int) tk)=decide (u=v):=by
   show Value.isInt (v:Int) (Value.int (u:Int) tk)=_;unfold Value.isInt;rw[Bool.eq_iff_iff];simp;omega
  rw[this]
end
def Ug {v:Nat}:v∈qe n↔v<8/\n.testBit v=true:=by
 unfold qe;rw[mem_filter,List.mem_range]
def yV (h:Heap)(a:Addr)(led:Bool)(n:Nat):Prop:=∃o e E,h.get? a=some o/\o.ExactSet/\o.data=.set e E (jk led n)/\jz e.toList (qe n)/\n<256
def yV.keep (x:yV h a led n)(k:∀o,h.get? a=some o->h'.get? a=some o):yV h' a led n:=
 let ⟨o,es,ep,H,r⟩:=x;⟨o,es,ep,k o H,r⟩
def EL {v:Nat}(hn:n<256)(H:v<8)(led:Bool):kh led n v=true:=by
 have h:=cD.mp (cD.mp BQ n (cB.mpr hn)) v (cB.mpr H);rw[ar]at h;cases led
 ·exact h.2
 ·exact h.1
def Cb:((List.range 256).all λn=>(jk true n).fits (qe n).length&&(jk false n).fits (qe n).length)=true:=by decide +kernel
def Vo (led:Bool)(n:Nat):(jk led n).plain=true:=by unfold jk;split<;>rfl
def C8 (led:Bool)(n:Nat):(jk led n).led=led:=by unfold jk;split<;>rfl
def Pw (led:Bool)(n:Nat):(jk led n).place=(qe n).toArray:=by unfold jk;split<;>rfl
def fits_of (hn:n<256)(led:Bool):(jk led n).fits (qe n).length=true:=by
 have h:=cD.mp Cb n (cB.mpr hn);rw[ar]at h;cases led
 ·exact h.2
 ·exact h.1
def YE (n:Nat):(qe n).length<=8:=by
 unfold qe;exact bg (length_filter_le _ _) (by simp)
structure GS (led:Bool)(n v:Nat):Prop where
 free:(jk led n).freeSlot (v:Int)=some (v,false)
 put:(jk led n).put v=(we led n v,Zl n v)
 vs:qe (jC n v)=(qe n).take (Zl n v)++v::(qe n).drop (Zl n v)
 fits:(we led n v).fits (qe (jC n v)).length=true
 full:(we led n v).tooFull=((qe (jC n v)).length==5)
 UW:(qe (jC n v)).length=5->(we led n v).relaid ((qe (jC n v)).map λ(i:Nat)=>(i:Int)).toArray 20=some (jk led (jC n v),#[0,1,2,3,4])
 less:(qe (jC n v)).length≠5->jk led (jC n v)=we led n v
 lt:jC n v<256
def FA {v:Nat}(hn:n<256)(a:v<8)(led:Bool)(b:n.testBit v=false):GS led n v:=by
 have h:=EL hn a led;unfold kh at h;rw[b,Bool.false_or]at h;simp only[ar,aM,ao]at h;obtain⟨⟨⟨⟨⟨⟨⟨j,i⟩,g⟩,f⟩,d⟩,H⟩,k⟩,c⟩:=h;refine⟨j,i,g,f,d,λe=>?_,λe=>?_,c⟩
 ·rw[ag e]at H;exact of_decide_eq_true (by simpa using H)
 ·rw[aj e]at H;simpa using H
def yU (n v:Nat):Nat:=if n.testBit v then n else jC n v
section
variable {prog:Program}{A:Around}
def DK {e:Array (Int×Value)}{v:Nat}{x:Value}(f:GS led n v)(he:jz e.toList (qe n)):layNew (jk led n) e (v:Int) x=(SetTable.insertAt e (Zl n v) ((v:Int),x),we led n v,false,false):=by
 have hsz:(SetTable.insertAt e (Zl n v) ((v:Int),x)).size=(qe (jC n v)).length:=by
  rw[<- aT,SetTable.toList_insertAt,f.vs,ak,ak,bb,bb,br,br,length_drop,length_drop,he.length]
 unfold layNew;rw[f.free];dsimp only;rw[f.put];dsimp only;rw[hsz];unfold SetTable.orStandIn;rw[ag f.fits,f.fits]
 rfl
def CW {E:Array (Int×Value)}{v:Nat}(f:GS led n v)(H:(qe (jC n v)).length=5)(he:jz E.toList (qe (jC n v))):relayAll (we led n v) E 20=(E,jk led (jC n v),false):=by
 have hm:E.map (·.1)=((qe (jC n v)).map λ(i:Nat)=>(i:Int)).toArray:=by
  apply Array.toList_inj.mp
  rw[Array.toList_map,he.map1]
 have hsz:E.size=5:=by rw[<- aT,he.length,H]
 have h:(#[0,1,2,3,4]:Array Nat).filterMap (E[·]?)=E:=by
  apply Array.toList_inj.mp
  rw[Array.toList_filterMap];have h0:E.toList.length=5:=by rw[aT];exact hsz
  have g:∀i,E[i]? =E.toList[i]?:=λi=>by rw[bB]
  simp only[g];generalize E.toList=l at h0;obtain⟨a,b,c,d,e,rfl⟩:∃a b c d e,l=[a,b,c,d,e]:=by
   match l,h0 with
   |[a,b,c,d,e],_=>exact⟨a,b,c,d,e,rfl⟩
  rfl
 unfold relayAll;rw[hm,f.UW H];dsimp only;rw[h];have j:coversAll #[0,1,2,3,4] E.size=true:=by rw[hsz];decide +kernel
 have hf:(jk led (jC n v)).fits E.size=true:=by rw[hsz,<- H];exact fits_of f.lt led
 rw[j,hf]
 rfl
def jz.insert {e:Array (Int×Value)}{v:Nat}{tk:Tok}(f:GS led n v)(he:jz e.toList (qe n)):jz (SetTable.insertAt e (Zl n v) ((v:Int),.int (v:Int) tk)).toList (qe (jC n v)):=by
 rw[SetTable.toList_insertAt,f.vs];exact(he.take _).app (.cons v tk (he.drop _))
def RM {o:Obj}{E es':Array (Int×Value)}{e:Nat}{t:SetTable}{t':SetTable}(H:h.get? a=some o)(hd:o.data=.set E e t):(h.update a (Obj.putSet es' t')).get? a=some { o with data:=.set es' (e+1) t' }:=by
 have:=a9 (Obj.putSet es' t') H (by rw[putSet_of es' t' hd];rfl)
 rw[putSet_of es' t' hd]at this;exact this
def Hj {v:Nat}{tk:Tok}{Q:Bool->Shared->Prop}(S:yV s.heap a led n)(y:v<8)
  (h:∀h' b,Heap.SameBut a s.heap h'->yV h' a led (yU n v)->Q b { s with heap:=h' }):
  wpAny (model prog w) A (setAddHashed a (.int (v:Int) tk) ((intKind prog w).hash (v:Int))) Q E s:=by
 obtain⟨o,l,D,q,hex,hd,he,hn⟩:=S;have hlen:l.size=(qe n).length:=by rw[<- aT,he.length]
 have hf:(jk led n).fits l.size=true:=by rw[hlen];exact fits_of hn led
 have r:ElemsOf (intKind prog w) l.toList:=he.elems λu J=>(Ug.mp J).1;have k:l.size<scanBound:=by rw[hlen];have:=YE n;unfold scanBound;omega
 unfold setAddHashed setAddHashedIn;refine wpAny_holding (cw (wpAny_setState_of q hd hf ?_));dsimp only;rw[byScan_of (x:=.int (v:Int) tk) rfl k r];simp only[↓reduceIte];unfold setAddByScan;refine cw ?_;refine cw (wpAny_rule ?_);refine cw (wpAny_setScan_of (knd:=intKind prog w) (intKind_is _ _ _ _) q hd hf r ?_);rw[he.find];cases I:(qe n).findIdx? λu=>decide (u=v) with
 |some j=>
  dsimp only;have k:n.testBit v=true:=by
   obtain⟨M,B,_⟩:=List.findIdx?_eq_some_iff_getElem.mp I
   have:=of_decide_eq_true B
   exact(Ug.mp (this ▸ aO M)).2
  refine cx (cx ?_);have e:s={ s with heap:=s.heap }:=by cases s;rfl
  rw[e];refine h s.heap false (Heap.SameBut.refl a s.heap) ?_;unfold yU;rw[ag k];exact⟨o,l,D,q,hex,hd,he,hn⟩
 |none=>
  dsimp only;have k:n.testBit v=false:=by
   cases L:n.testBit v with
   |false=>rfl|true=>
    have:=List.findIdx?_eq_none_iff.mp I v (Ug.mpr ⟨y,L⟩)
    simp at this
  have f:=FA hn y led k;have N:(intKind prog w).hash (v:Int)=(v:Int):=RR v y;rw[N];rw[DK f he];have H:=he.insert (tk:=tk) f;have i:(SetTable.insertAt l (Zl n v) ((v:Int),Value.int (v:Int) tk)).size=(qe (jC n v)).length:=by rw[<- aT,H.length]
  generalize SetTable.insertAt l (Zl n v) ((v:Int),Value.int (v:Int) tk)=c at H i;dsimp only;refine cw (cx ?_);have hp:(we led n v).plain=true:=by unfold we;exact Vo led n
  rw[hp];simp only[↓reduceIte];refine cw ?_;rw[hashByValue_scannable 8 (x:=.int (v:Int) tk) rfl];refine cx ?_;have z:plainKind (.int (v:Int) tk)=true:=rfl;rw[z];simp only[↓reduceIte];have p:c.size<=sizeLine:=by rw[i,sizeLine_eq];have:=YE (jC n v);omega
  refine cw (wpAny_storeSet_of q hd ?_ p);have g:=RM (es':=c) (t':=we led n v) q hd;have d:=Heap.SameBut.update s.heap a (Obj.putSet c (we led n v));rw[f.full]
  by_cases t:(qe (jC n v)).length=5
  ·have P:SetTable.grown c.size=20:=by rw[i,t];rfl
   rw[P,CW f t H,t];simp only[Bool.not_false,Bool.true_and,bp,↓reduceIte];refine cw (cx ?_);refine cw (wpAny_storeSet_of g rfl ?_ p);refine cx ?_;dsimp only;refine cx ?_;have C:=RM (es':=c) (t':=jk led (jC n v)) g rfl;refine h _ true (d.trans (Heap.SameBut.update _ a _)) ?_;unfold yU;rw[k];exact⟨_,c,D+1+1,C,hex,rfl,H,f.lt⟩
  ·have K:((qe (jC n v)).length==5)=false:=by simpa using t
   rw[K];simp only[Bool.not_false,Bool.and_false,bc,↓reduceIte];refine cx ?_;dsimp only;refine cx ?_;refine h _ true d ?_;unfold yU;rw[k,aj aA,];refine⟨_,c,D+1,g,hex,?_,H,f.lt⟩;rw[f.less t]
end
noncomputable abbrev jZ (w:World):Bool:=!w.params.followText "set-order"
def Qm (val:Nat->Nat)(i:Nat):Nat:=((List.range i).map val).foldl yU 0
def Fs (val:Nat->Nat)(i:Nat):Qm val (i+1)=yU (Qm val i) (val i):=by
 unfold Qm;rw[bO,aR,List.foldl_append]
 rfl
section
variable {prog:Program}{A:Around}
def LJ (a:Value){Q1:cb}(h:Q1 (.ref s.heap.objs.size) { s with heap:=s.heap.push (gv (jZ w)) }):
  codeAny (model prog w) A (.call (.builtin "set.__new__") ⟨[.type "set",a],[]⟩) (wants Q1 E) s:=by
 refine codeAny_of_tree ?_;show wpAny _ A.in1 (do checkBuiltinCall "set.__new__" ⟨[.type "set",a],[]⟩;again (.builtin "set.__new__" ⟨[.type "set",a],[]⟩)) _ _ s
 refine cw (wpAny_of_eq (F.newCall_set_1 a) (cx ⟨plainId_quiet F.plain_set_new _,codeAny_builtin F.entry_set_new ?_⟩));rw[Around.under_plainId F.plain_set_new _];unfold Builtin.«set.__new__» Builtin.Frozenset.newClass;have H:=sub_set_self;obtain⟨hp,g,d,tk,os⟩:=s;dsimp only
 wp_walk
 refine wpAny_askSetting (cx ?_);dsimp only;simp only[newObj];refine cw (wpAny_alloc (cx ?_));exact cx h
end
section
variable {prog:Program}{A:Around}{R:Result->Shared->Prop}{I:Addr}{wr:bY}{G:Array GenState->Array GenState->Prop}{P:Nat->Value->Prop}{St:Nat->Shared->Prop}
def Fm (W:WalksS prog w A.in1 I fp wr G n P St)(S:Addr)(q:S∉fp)(led:Bool)(val:Nat->Nat)(l:∀i v,P i v->∃t,v=.int ((val i:Nat):Int) t)(N:∀i,i<n->val i<8):
  ∀(k i:Nat)(s:Shared),n-i=k->i<=n->St i s->yV s.heap S led (Qm val i)->
   (∀s',Moved (S::wr) G s s'->yV s'.heap S led (Qm val n)->R (.ok (.ret .none)) s')->
   codeAny (model prog w) A (.builtin "set.update.loop" ⟨[.ref S,.ref I],[]⟩) R s:=by
 have p:S∉wr:=λh=>q (W.sub _ h);have H:∀b∈wr,b∈S::wr:=λb j=>aq _ j;intro k
 induction k with
 |zero=>
  intro i s K L a D E;have y:i=n:=by omega
  subst y;refine codeAny_builtin F.entry_set_update_loop ?_;rw[Around.under_plainId F.plain_set_update_loop _];show wpAny _ A.in1 (pyNext (.ref I) >>= _) _ _ s;refine cw (W.done s _ _ a λs' hm=>?_);show wpAny _ A.in1 (ret Value.none) _ _ s';exact cx (E s' (hm.mono H) (D.keep λo x=>hm.heap S _ p x))
 |succ k J=>
  intro i s K L a D E;have c:i<n:=by omega
  refine codeAny_builtin F.entry_set_update_loop ?_;rw[Around.under_plainId F.plain_set_update_loop _];show wpAny _ A.in1 (pyNext (.ref I) >>= _) _ _ s;refine cw (W.item i s _ _ c a λv s' M d hm=>?_);obtain⟨t,rfl⟩:=l i v M;have C:yV s'.heap S led (Qm val i):=D.keep λo x=>hm.heap S _ p x;show wpAny _ A.in1 (holding [Value.int ((val i:Nat):Int) t] (setAdd S (.int ((val i:Nat):Int) t)) >>= _) _ _ s';refine cw (wpAny_holding ?_);unfold setAdd;refine wpAny_holding ?_;refine cw ((intKind prog w).pyHash (k:=((val i:Nat):Int)) (intKind_is _ _ _ _) ?_);refine Hj (s:={ s' with toks:=s'.toks+1 }) C (N i c) λh' b f B=>?_
  have z:yV h' S led (Qm val (i+1)):=by rw[Fs];exact B
  refine cx ⟨plainId_quiet F.plain_set_update_loop _,J (i+1) _ (by omega) c (W.frame _ s' _ _ d (le_succ _) λb j o e=>?_) z λu g r=>?_⟩
  ·rw[f.2 b (λh:b=S=>q (by rw[<- h];exact j))];exact e
  ·refine E u (Moved.trans W.gtrans ((hm.mono H).then_heap (le_succ _) λb o j e=>?_) g) r
   rw[f.2 b (λh:b=S=>j (by rw[h];exact ay))];exact e
end
section
variable {prog:Program}{A:Around}
def fT (led:Bool)(g:h.get? a=some (gv led)):yV h a led 0:=
 ⟨_,#[],0,g,⟨rfl,rfl,rfl⟩,(by cases led<;>rfl),.nil,by decide⟩
def Lq {l:Addr}{vs:b8}(B:A.handled=none)(y:s.heap.IsList l its.toArray)(k:IntsAre its (vs.map λ(v:Nat)=>(v:Int)))(C:∀v∈vs,v<8)
  (h:∀(h':Heap)(tk:Nat),yV h' s.heap.objs.size led (vs.foldl yU 0)->
   (∀b o,b<s.heap.objs.size->s.heap.get? b=some o->h'.get? b=some o)->Q .none { s with heap:=h',toks:=tk }):
  codeAny (model prog w) A (.call (.builtin "set.__init__") ⟨[.ref s.heap.objs.size,.ref l],[]⟩) (wants Q E) { s with heap:=s.heap.push (gv led) }:=by
 have hlen:its.length=vs.length:=by
  have:∀{its:bX}{ns:bV},IntsAre its ns->its.length=ns.length:=λh=>by
   induction h with
   |nil=>rfl|cons _ _ _ I=>simp[I]
  rw[this k,ah]
 have S:(s.heap.push (gv led)).get? s.heap.objs.size=some (gv led):=au _ rfl;refine codeAny_call_builtin F.called_set.init.plain F.entry_set_init (check_set_init_1 ⟨_,S,rfl⟩ ?_);obtain⟨ob,f,a,n,p⟩:=y;obtain⟨N,K,x,u⟩:=ob;dsimp only at a p;cases a;cases p;have g1:=ae (gv led) f;have n1:=F.sub_list_set;have U:=F.sub_list_frozenset;have P:(Value.type "list" == Value.type "dict")=false:=by decide
 have q:(s.heap.push (gv led)).IsList l its.toArray:=⟨_,g1,rfl,n,rfl⟩;unfold Builtin.«set.__init__» noKeywords Builtin.Frozenset.updateFrom;generalize hp:pyIter=PI
 wp_walk
 subst hp;refine wpAny_pyIter_list q (cw (wpAny_runValue ?_));have lt:l<s.heap.objs.size:=aF f;have sz:(s.heap.push (gv led)).objs.size=s.heap.objs.size+1:=bf ..;have ne:l≠(s.heap.push (gv led)).objs.size:=by rw[sz];exact aK (ba lt)
 have W:=(Walks.list (prog:=prog) (w:=w) (A:=A.in1.in1) (by simp[B]) (s.heap.push (gv led)).objs.size l ne its.toArray).toS
 have g:its.toArray.size=vs.length:=by rw[aC];exact hlen
 rw[g]at W;have off:s.heap.objs.size∉[(s.heap.push (gv led)).objs.size,l]:=by
  rw[sz];intro hm;rcases cz.mp hm with z|hm
  ·exact aK (bo _) z
  ·exact bq lt (cC.mp hm)
 have c:Qm (λi=>vs.getD i 0) vs.length=vs.foldl yU 0:=by
  unfold Qm
  congr 1
  apply bt
  ·simp
  ·intro i f a
   have H:i<vs.length:=by simpa using a
   simp[af,aa H]
 refine Fm W s.heap.objs.size off led (λi=>vs.getD i 0) (λi v e=>?_) (λi H=>?_) vs.length 0 _ rfl (zero_le _) ⟨⟨_,au _ rfl,rfl,rfl⟩,q.push _⟩ ?_ ?_
 ·obtain⟨t,j⟩:=IntsAre.int_at k i v (by simpa using e)
  refine⟨t,j.trans ?_⟩;have H:i<vs.length:=by
   have:=(cA.mp (show its[i]? =some v by simpa using e)).1
   omega
  congr 1
  simp[af,ax,aa H]
 ·rw[af,aa H]
  exact C _ (aO H)
 ·exact fT led (ae _ S)
 ·intro s' M r
  rw[c]at r;obtain⟨h',g',d',T,d⟩:=s';have J:g'=s.gens:=M.gens;have j:d'=s.drawn:=M.drawn;have D:d=s.os:=M.os;subst J j D;refine cx ?_;show wpAny _ _ (ret Value.none) _ _ _;refine cx (h h' T r λb o L e=>M.heap b o (λhm=>?_) (ae _ (ae _ e)));rcases cz.mp hm with z|hm
  ·exact aK L z
  ·exact aK (ba L) ((cC.mp hm).trans sz)
def Lv {l:Addr}{vs:b8}(j:A.handled=none)(t:s.heap.IsList l its.toArray)(i:IntsAre its (vs.map λ(v:Nat)=>(v:Int)))(n:∀v∈vs,v<8)
  (h:∀(h':Heap)(tk:Nat),yV h' s.heap.objs.size (jZ w) (vs.foldl yU 0)->
   (∀b o,b<s.heap.objs.size->s.heap.get? b=some o->h'.get? b=some o)->Q (.ref s.heap.objs.size) { s with heap:=h',toks:=tk }):
  wpAny (model prog w) A (call (.type "set") [.ref l]) Q E s:=by
 obtain⟨c,q,d⟩:=F.called_set.mro;have a1:=F.called_set.made;have a2:=F.called_set.sub;have C:=F.called_set.notType;have z:=F.called_set.canCreate;have y:=F.typeCall_set_1 (.ref l);refine wpAny_call (codeAny_of_tree ?_);show wpAny _ _ (callAny (.type "set") _) _ _ _;refine cx ⟨Code.quiet_builtin _ (by decide +kernel),codeAny_builtin F.entry_type_call ?_⟩
 rw[Around.under_plain (weight_type_call_type "set" [.ref l] []) rfl]
 repeat (any_goals (first|assumption|wp_step))
 refine codeAny_mono (LJ (.ref l) (E:=E) (Q1:=λu s1=>u=.ref s.heap.objs.size/\s1={ s with heap:=s.heap.push (gv (jZ w)) }) ⟨rfl,rfl⟩) λr s1 a=>?_
 cases r with
 |error e=>exact a|ok p=>
  cases p with
  |ret u=>
   obtain⟨rfl,rfl⟩:=a;have T:Shared.TypeIs { s with heap:=s.heap.push (gv (jZ w)) } (.ref s.heap.objs.size) "set":=⟨_,au _ rfl,rfl⟩
   have x:=F.called_set.init.lookup;have B:=F.called_set.init.bind (.ref s.heap.objs.size)
   repeat (any_goals (first|assumption|wp_step))
   refine codeAny_mono (Lq (E:=E) (Q:=λv s2=>v=.none/\∃h' tk,s2={ s with heap:=h',toks:=tk }/\yV h' s.heap.objs.size (jZ w) (vs.foldl yU 0)/\
    ∀b o,b<s.heap.objs.size->s.heap.get? b=some o->h'.get? b=some o) (by simp[j]) t i n λh' tk S k=>⟨rfl,h',tk,rfl,S,k⟩) λg s2 H=>?_
   cases g with
   |error e=>exact H|ok f=>
    cases f with
    |ret v=>
     obtain⟨rfl,h',tk,rfl,S,k⟩:=H
     repeat (any_goals (first|assumption|wp_step))
     exact h _ _ S k
    |_=>exact H.elim
  |_=>exact a.elim
end
theorem RP:∀{l:List α}{k:Nat}{w:α},l[k]? =some w->l.Perm (w::l.eraseIdx k)
 |[],_,_,h=>by simp at h|x::l,0,w,h=>by
  simp at h;subst h;simp
 |x::l,k+1,w,h=>by
  rw[List.getElem?_cons_succ]at h;rw[List.eraseIdx_cons_succ];exact((RP h).cons x).trans (List.Perm.swap w x _)
def Bw (next:Nat->Nat):∀(f k:Nat)(left:List α)(out:Array α),left.length=f->(pickOrder.go next f k left out).toList.Perm (out.toList++left):=by
 intro f
 induction f with
 |zero=>
  intro k left out h
  have:left=[]:=List.length_eq_zero_iff.mp h
  subst this;unfold pickOrder.go;simp
 |succ f i=>
  intro k left out h;have H:next k%left.length<left.length:=Nat.mod_lt _ (by omega)
  unfold pickOrder.go;rw[aa H];dsimp only;refine(i (k+1) _ _ (by rw[List.length_eraseIdx_of_lt H];omega)).trans ?_
  rw[Array.toList_push,aP];exact List.Perm.append_left _ (RP (aa H)).symm
def F0 (next:Nat->Nat)(xs:Array α):(pickOrder next xs).toList.Perm xs.toList:=by
 unfold pickOrder
 have:=Bw next xs.size 0 xs.toList #[] (by simp)
 simpa using this
namespace F
def Lz:entryFor table "set.__iter__"=some Builtin.«frozenset.__iter__»:=entryFor_alias (id' := "frozenset.__iter__") (by kernel_rfl) rfl (by decide +kernel) (by kernel_rfl)
def MV:entryFor table "set_iterator.__iter__"=some Builtin.«dict_keyiterator.__iter__»:=entryFor_alias (id' := "dict_keyiterator.__iter__") (by kernel_rfl) rfl (by decide +kernel) (by kernel_rfl)
def TM:Manifest.owners.lookup (String.ofList ['r','o','t','a','r','e','t','i','_','t','e','s'].reverse)=some Manifest.sig_set_iterator:=by kernel_rfl
def J6:Slot "set_iterator" "__next__" "set_iterator.__next__":=
 .of (owner := "set_iterator") (n := "__next__") (by rw[typeLookup_type,builtinLookup_eq_fast];kernel_rfl) (by decide +kernel) (by decide +kernel) (by decide +kernel)
  (by first|exact .inl (by decide +kernel)|exact .inr (by decide +kernel)) (by rw[isSubtype_type];kernel_rfl)
def TB:entryFor table "set_iterator.__next__"=some Builtin.«set_iterator.__next__»:=entryFor_of_tree (by kernel_rfl)
def Tz (a:Value):argsOk "set_iterator.__next__" ⟨[a],[]⟩:=by
 unfold argsOk;rw[signature?_of (id := "set_iterator.__next__") (n:=['_','_','t','x','e','n','_','_']) (o:=['r','o','t','a','r','e','t','i','_','t','e','s']) (by kernel_rfl) TM];kernel_rfl
def MU (a:Value):argsOk "set_iterator.__iter__" ⟨[a],[]⟩:=by
 unfold argsOk;rw[signature?_of (id := "set_iterator.__iter__") (n:=['_','_','r','e','t','i','_','_']) (o:=['r','o','t','a','r','e','t','i','_','t','e','s']) (by kernel_rfl) TM];kernel_rfl
def TC:Slot "set_iterator" "__iter__" "set_iterator.__iter__":=
 .of (owner := "set_iterator") (n := "__iter__") (by rw[typeLookup_type,builtinLookup_eq_fast];kernel_rfl) (by decide +kernel) (by decide +kernel) (by decide +kernel)
  (by first|exact .inl (by decide +kernel)|exact .inr (by decide +kernel)) (by rw[isSubtype_type];kernel_rfl)
end F
def KL (n i:Nat):Nat:=match i with
 |0=>0|i+1=>(qe n).getD i 0+1
def NC (n i:Nat):Bool:=decide ((qe n).length<i) || (SetTable.below (qe n).toArray (KL n i)==i)
def EU:((List.range 256).all λn=>(List.range 9).all λi=>NC n i)=true:=by decide +kernel
def E5 (hn:n<256)(H:i<=(qe n).length):SetTable.below (qe n).toArray (KL n i)=i:=by
 have a:=YE n;have h:=cD.mp (cD.mp EU n (cB.mpr hn)) i (cB.mpr (by omega))
 unfold NC at h;rw[aD (by omega),Bool.false_or,aM]at h
 exact h
def Jt (h:Heap)(I S:Addr)(slot i n e:Nat):Prop:=∃o,h.get? I=some o/\o.cls=.type "set_iterator" /\ o.data=.fields #[.int slot 0,.int i 0,.ref S,.int n 0,.int e 0]
noncomputable def kG (w:World)(a:Addr)(E:Nat)(e:Array (Int×Value)):Array (Int×Value):=if w.params.followText "set-order" then pickOrder (w.params.setOrder a E) e else e
def Kg (w:World)(a:Addr)(E:Nat)(e:Array (Int×Value)):(kG w a E e).toList.Perm e.toList:=by
 unfold kG
 split
 ·exact F0 _ _
 ·exact List.Perm.refl _
def wO (w:World)(n i:Nat):Nat:=if w.params.followText "set-order" then 0 else KL n i
section
variable {prog:Program}{A:Around}{o:Obj}{es:Array (Int×Value)}{ep:Nat}
def X5 {Q:Bool->Shared->Prop}(h:Q (w.params.followText "set-order") s):wpAny (model prog w) A setsByText Q E s:=by
 unfold setsByText;exact cw (wpAny_askSetting (cx h))
def M9 (H:s.heap.get? a=some o)(hex:o.ExactSet)(hd:o.data=.set es ep (jk (jZ w) n))(he:jz es.toList (qe n))(hn:n<256)
  (c:Q (.ref s.heap.objs.size) { s with heap:=s.heap.push { cls:=.type "set_iterator",data:=.fields #[.int 0 0,.int 0 0,.ref a,.int es.size 0,.int ep 0] } }):
  wpAny (model prog w) A (pyIter (.ref a)) Q E s:=by
 have hT:s.TypeIs (.ref a) "set":=⟨o,H,hex.1⟩;have hlen:es.size=(qe n).length:=by rw[<- aT,he.length]
 have hf:(jk (jZ w) n).fits es.size=true:=by rw[hlen];exact fits_of hn _
 refine wpAny_pyIter_slot hT slot_set_iter (wpAny_call_entry slot_set_iter hT F.Lz ?_ (PySem.F.args_set_iter_1 _));unfold Builtin.«frozenset.__iter__»;show wpAny _ _ (Builtin.Frozenset.sizeOf a >>= _) _ _ s;unfold Builtin.Frozenset.sizeOf;refine cw (cw (wpAny_setEntries_of H hd hf (cx ?_)));unfold setDrawn;refine cw (cw (wpAny_setState_of H hd hf ?_));dsimp only;refine cw (X5 (cx ?_));rw[aj (λh=>by
  have b:(!w.params.followText "set-order" && (!(jk (jZ w) n).plain&&decide (es.size > 1)))=true:=h;rw[Vo]at b;simp at b)]
 refine cw (cx ?_);refine cw (wpAny_setEpoch_of H hd hf ?_);exact cw (wpAny_newObj_type (cx ⟨_,rfl,"set_iterator",_,⟨_,au _ rfl,rfl⟩,F.J6.lookup,c⟩))
def T6 {Q:Option (Value×Nat)->Shared->Prop}(c:s.heap.get? a=some o)(hd:o.data=.set es ep (jk (jZ w) n))(he:jz es.toList (qe n))(hn:n<256)(k:i<=es.size)
  (h:Q (((kG w a ep es)[i]?).map λe=>(e.2,wO w n (i+1))) s):wpAny (model prog w) A (setNext a (wO w n i) i ep) Q E s:=by
 have hlen:es.size=(qe n).length:=by rw[<- aT,he.length]
 have hf:(jk (jZ w) n).fits es.size=true:=by rw[hlen];exact fits_of hn _
 unfold setNext;refine cw (wpAny_setState_of c hd hf ?_);dsimp only;refine cw (X5 ?_);unfold kG wO at h;cases t:w.params.followText "set-order" with
 |true=>
  rw[t]at h;simp only[↓reduceIte]at h ⊢;have p:¬((ep != ep)=true):=by simp
  rw[aj p];unfold setWalk;refine cw (cw (wpAny_setState_of c hd hf ?_));dsimp only;refine cw (X5 ?_);rw[t];simp only[↓reduceIte];refine cw (wpAny_askSetting (cx (cx ?_)));unfold wO;rw[t];exact h
 |false=>
  rw[t]at h;simp only[bc,↓reduceIte]at h ⊢;rw[aj (λh=>by
   have f:(!(jk (jZ w) n).plain&&decide (es.size > 1))=true:=h;rw[Vo]at f;simp at f)]
  have d:(jk (jZ w) n).led=true:=by rw[C8];unfold jZ;rw[t];rfl
  refine cw ?_;show wpAny _ _ (if (!(jk (jZ w) n).led&&!es.isEmpty)=true then unsupported "set:maker-not-led" else pure ()) _ _ _;rw[d];simp only[Bool.not_true,Bool.false_and,bc,↓reduceIte];refine cx ?_;have j:SetTable.below (jk (jZ w) n).place (wO w n i)=i:=by
   rw[Pw];unfold wO;rw[t];exact E5 hn (by omega)
  rw[j,Pw];refine cx ?_
  by_cases b:i<es.size
  ·have v:(qe n)[i]? =some ((qe n)[i]'(by omega)):=aa (by omega)
   have hp:(qe n).toArray[i]? =some ((qe n)[i]'(by omega)):=by rw[List.getElem?_toArray];exact v
   have H:es[i]? =some es[i]:=Array.getElem?_eq_getElem b;rw[H]at h;rw[H,hp];dsimp only;have g:KL n (i+1)=(qe n)[i]'(by omega)+1:=by
    show(qe n).getD i 0+1=_;rw[af,v]
    rfl
   rw[g]at h;exact h
  ·have H:es[i]? =none:=Array.getElem?_eq_none (by omega)
   rw[H]at h;rw[H];exact h
def MW {I:Addr}{e:Int×Value}{Q:Option Value->Shared->Prop}(hit:Jt s.heap I a (wO w n i) i es.size ep)(d:s.heap.get? a=some o)(hex:o.ExactSet)(hd:o.data=.set es ep (jk (jZ w) n))(he:jz es.toList (qe n))(hn:n<256)(x:(kG w a ep es)[i]? =some e)
  (j:∀h',Jt h' I a (wO w n (i+1)) (i+1) es.size ep->Heap.SameBut I s.heap h'->Q (some e.2) { s with heap:=h' }):
  wpAny (model prog w) A (pyNext (.ref I)) Q E s:=by
 obtain⟨c,H,f,h⟩:=id hit;have hT:s.TypeIs (.ref I) "set_iterator":=⟨c,H,f⟩;have hlen:es.size=(qe n).length:=by rw[<- aT,he.length]
 have hf:(jk (jZ w) n).fits es.size=true:=by rw[hlen];exact fits_of hn _
 unfold pyNext;refine cw (wpAny_attempt (wpAny_callSpecial?_slot (name:=Str.ofString "__next__") hT F.J6
  (wpAny_call_entry F.J6 hT F.TB ?_ (F.Tz _))))
 unfold Builtin.«set_iterator.__next__»;show wpAny _ _ (fieldsOf (.ref I) >>= _) _ _ s;refine cw (wpAny_fieldsOf H h ?_);dsimp only;refine cw (wpAny_setEntries_of d hd hf ?_);rw[aj (by simp)]
 have g:i<es.size:=by
  have b:=(Array.getElem?_eq_some_iff.mp x).1;have k:=(Kg w a ep es).length_eq;simp at k;omega
 simp only[aH];refine cw (T6 d hd he hn (bz g) ?_);rw[x];dsimp only[Option.map_some];refine cw (wpAny_setField H h (by simp) ?_)
 have b:(s.heap.update I (Obj.mapFields (·.setIfInBounds 0 (rawInt (wO w n (i+1)))))).get? I=some (Obj.mapFields (·.setIfInBounds 0 (rawInt (wO w n (i+1)))) c):=a9 _ H (Obj.isFreed_of_fields (Obj.data_mapFields h _));refine cw (wpAny_setField b (Obj.data_mapFields h _) (by simp) ?_)
 refine cx ⟨e.2,rfl,cx (j _ ?_ ((Heap.SameBut.update ..).trans (Heap.SameBut.update ..)))⟩;refine⟨_,a9 _ b (Obj.isFreed_of_fields (Obj.data_mapFields (Obj.data_mapFields h _) _)),(Obj.cls_mapFields ..).trans ((Obj.cls_mapFields ..).trans f),?_⟩;rw[Obj.data_mapFields (Obj.data_mapFields h _)];simp[rawInt]
def MY {I:Addr}{Q:Option Value->Shared->Prop}(d:A.handled=none)(hit:Jt s.heap I a (wO w n es.size) es.size es.size ep)(c:s.heap.get? a=some o)(hex:o.ExactSet)(hd:o.data=.set es ep (jk (jZ w) n))(he:jz es.toList (qe n))(hn:n<256)
  (f:∀h',Heap.ExtBut I s.heap h'->Q none { s with heap:=h' }):wpAny (model prog w) A (pyNext (.ref I)) Q E s:=by
 obtain⟨i,h,e,H⟩:=id hit;have hT:s.TypeIs (.ref I) "set_iterator":=⟨i,h,e⟩;have hlen:es.size=(qe n).length:=by rw[<- aT,he.length]
 have hf:(jk (jZ w) n).fits es.size=true:=by rw[hlen];exact fits_of hn _
 unfold pyNext;refine cw (wpAny_attempt (wpAny_callSpecial?_slot (name:=Str.ofString "__next__") hT F.J6
  (wpAny_call_entry F.J6 hT F.TB ?_ (F.Tz _))))
 unfold Builtin.«set_iterator.__next__»;show wpAny _ _ (fieldsOf (.ref I) >>= _) _ _ s;refine cw (wpAny_fieldsOf h H ?_);dsimp only;refine cw (wpAny_setEntries_of c hd hf ?_);rw[aj (by simp)]
 simp only[aH];refine cw (T6 c hd he hn (av _) ?_);have x:(kG w a ep es)[es.size]? =none:=Array.getElem?_eq_none (by
  have g:=(Kg w a ep es).length_eq;simp at g;omega)
 rw[x];dsimp only[Option.map_none];refine cw (wpAny_setField h H (by simp) ?_)
 show wpAny _ _ (newExc (.type "StopIteration") [] >>= _) _ _ _;refine cw ?_;simp only[newExc,newTuple];refine cw (wpAny_newObj_type ?_ (by size_fits))
 refine cw (m:=firstArgMember _ _) (wpAny_of_eq (a:=Value.none) (by first|rfl|(simp only[firstArgMember];rfl)) ?_)
 refine wpAny_newObj_type ?_ (by size_fits)
 simp only[raiseNew];refine cw (wpAny_handled ?_)
 first|rw[show A.in1.handled=none from d]|rw[d]
 refine cw (cx (wpAny_throw ?_));refine cw (wpAny_isInstance (T := "StopIteration") (b:=true) ⟨_,au _ rfl,rfl⟩ isSubtype_stop ?_);exact cx (f _ (((Heap.SameBut.update ..).extBut.push _).push _))
end
def Jt.typeIs {I S:Addr}{slot e:Nat}(h:Jt s.heap I S slot i n e):s.TypeIs (.ref I) "set_iterator":=let ⟨o,H,c,_⟩:=h;⟨o,H,c⟩
section
variable {prog:Program}{A:Around}{o:Obj}{es:Array (Int×Value)}{ep:Nat}
def M0 {I S:Addr}{slot m e:Nat}(hit:Jt s.heap I S slot i m e)(h:Q (.ref I) s):wpAny (model prog w) A (pyIter (.ref I)) Q E s:=by
 refine wpAny_pyIter_slot hit.typeIs F.TC (wpAny_call_entry F.TC hit.typeIs F.MV ?_ (F.MU _));show wpAny _ _ (ret (.ref I)) _ _ s;exact cx ⟨_,rfl,"set_iterator",_,hit.typeIs,F.J6.lookup,h⟩
def Walks.setP (p:A.handled=none)(I a:Addr)(g:a≠I)(hex:o.ExactSet)(hd:o.data=.set es ep (jk (jZ w) n))(he:jz es.toList (qe n))(hn:n<256):
  Walks prog w A I [I,a] [I] es.size (λi v=>∃e,(kG w a ep es)[i]? =some e/\v=e.2) (λi h=>Jt h I a (wO w n i) i es.size ep/\h.get? a=some o) where
 sub:=λb H=>by simp at H;simp[H]
 frame:=λ_ _ _ st l=>⟨let ⟨x,h1,q⟩:=st.1;⟨x,l I (by simp) x h1,q⟩,l a (by simp) o st.2⟩
 item:=λi s Q E r st f=>by
  have hsz:(kG w a ep es).size=es.size:=by have:=(Kg w a ep es).length_eq;simpa using this
  have k:(kG w a ep es)[i]? =some ((kG w a ep es)[i]'(by omega)):=Array.getElem?_eq_getElem (by omega)
  refine MW st.1 st.2 hex hd he hn k λh' d c=>?_;refine f _ h' s.toks ⟨_,k,rfl⟩ ⟨d,?_⟩ λb o H e=>c.extBut b o (λh=>H (by simp[h])) e
  exact c.extBut a o g st.2
 done:=λs Q E st f=>MY p st.1 st.2 hex hd he hn λh' j=>f h' s.toks λb o H e=>j b o (λh=>H (by simp[h])) e
 self:=λ_ _ _ _ st f=>M0 st.1 f
def HZ:typeLookup (.type "set") "__len__"=pure (some (.builtin "set.__len__")):=by rw[typeLookup_type,builtinLookup_eq_fast];kernel_rfl
def M5 {Q:List Value->Shared->Prop}(Y:A.handled=none)(C:s.heap.get? a=some o)(hex:o.ExactSet)(hd:o.data=.set es ep (jk (jZ w) n))(he:jz es.toList (qe n))(hn:n<256)
  (hQ:∀(h':Heap)(tk:Nat),(∀b o,b<s.heap.objs.size->s.heap.get? b=some o->h'.get? b=some o)->s.heap.objs.size<=h'.objs.size->Q ((kG w a ep es).toList.map (·.2)) { s with heap:=h',toks:=tk }):
  wpAny (model prog w) A (collect (.ref a)) Q E s:=by
 have Z:s.TypeIs (.ref a) "set":=⟨o,C,hex.1⟩;have t:a<s.heap.objs.size:=aF C;unfold collect;refine cw (wpAny_runValue (codeAny_builtin PySem.F.entry_proto_collect ?_));rw[Around.under_plainId PySem.F.plain_proto_collect _];show wpAny _ A.in1 (newList [] >>= λl=>again (.builtin "list.__iadd__" ⟨[l,.ref a],[]⟩)) _ _ s;refine cw (wpAny_newObj_type ?_);refine cx ⟨plainId_quiet PySem.F.plain_list_iadd _,codeAny_builtin PySem.F.entry_list_iadd ?_⟩;rw[Around.under_plainId PySem.F.plain_list_iadd _];show wpAny _ A.in1 (Builtin.List.listExtendWith (.ref s.heap.objs.size) (.ref a) (.ref s.heap.objs.size)) _ _ _;have d:(s.heap.push { cls:=.type "list",data:=.seq ([]:bX).toArray }).get? a=some o:=ae _ C;have hT:Shared.TypeIs { s with heap:=s.heap.push { cls:=.type "list",data:=.seq ([]:bX).toArray } } (.ref a) "set":=⟨o,d,hex.1⟩
 unfold Builtin.List.listExtendWith;refine cw (wpAny_typeOf hT ?_);have y:Builtin.List.listSameRef (.ref s.heap.objs.size) (.ref a)=false:=by simp[Builtin.List.listSameRef];exact bq t
 have P:(Value.type "set" == Value.type "list")=false:=by decide
 have N:(Value.type "set" == Value.type "tuple")=false:=by decide
 simp only[y,P,N,Bool.or_false,bc,if_false];refine cw (M9 d hex hd he hn ?_);refine cw (wpAny_holding ?_);unfold Builtin.List.listLengthHint;generalize x:s.heap.push { cls:=.type "list",data:=.seq ([]:bX).toArray }=H;have i:H.objs.size=s.heap.objs.size+1:=by rw[<- x,bf]
 have p:H.get? a=some o:=by rw[<- x];exact d
 have M:H.get? s.heap.objs.size=some { cls:=.type "list",data:=.seq ([]:bX).toArray }:=by rw[<- x];exact au _ rfl
 generalize g:({ cls:=.type "set_iterator",data:=.fields #[.int 0 0,.int 0 0,.ref a,.int es.size 0,.int ep 0] }:Obj)=io;have f:Shared.TypeIs { s with heap:=H.push io } (.ref a) "set":=⟨o,ae _ p,hex.1⟩
 have J:(H.push io).get? H.objs.size=some io:=au _ (by rw[<- g];rfl)
 refine cw (wpAny_specialOf f HZ ?_)
 wp_delta
 refine cw (wpAny_isInstance (b:=true) f (by rw[isSubtype_type];kernel_rfl) ?_)
 show wpAny _ A.in1 (typeOf (Value.ref a) >>= _) _ _ _;refine cw (wpAny_typeOf f ?_);refine cx ?_;show wpAny _ A.in1 (rule "list.extend.makes-room" >>= λ_=>Builtin.List.listTouch (.ref s.heap.objs.size) >>= λ_=>
  again (.builtin "list.extend.loop" ⟨[.ref s.heap.objs.size,.ref H.objs.size,.ref s.heap.objs.size],[]⟩)) _ _ _
 refine cw (wpAny_rule ?_);have r:(H.push io).get? s.heap.objs.size=some { cls:=.type "list",data:=.seq ([]:bX).toArray }:=ae _ M;refine cw ?_;show wpAny _ A.in1 (updateSeq s.heap.objs.size (·.push .none) >>= λ_=>updateSeq s.heap.objs.size (·.pop)) _ _ _;refine cw (wpAny_updateSeq r rfl ?_);have q:=a9 (Obj.mapSeq (·.push Value.none)) r rfl;refine wpAny_updateSeq q rfl ?_;have L:=a9 (Obj.mapSeq (·.pop)) q rfl;have oth:∀b o,b≠s.heap.objs.size->(H.push io).get? b=some o->(((H.push io).update s.heap.objs.size (Obj.mapSeq (·.push Value.none))).update s.heap.objs.size (Obj.mapSeq (·.pop))).get? b=some o:=
  λb o k e=>(aZ _ _ (Ne.symm k)).trans ((aZ _ _ (Ne.symm k)).trans e)
 have D:a≠H.objs.size:=by rw[i];exact aK (ba t)
 have v:H.objs.size≠s.heap.objs.size:=by rw[i];exact Nat.succ_ne_self _
 have S:a≠s.heap.objs.size:=aK t;have W:=(Walks.setP (prog:=prog) (w:=w) (A:=A.in1) (by simp[Y]) H.objs.size a D hex hd he hn).toS
 have K:s.heap.objs.size∉[H.objs.size,a]:=λhm=>by
  rcases cz.mp hm with z|hm
  ·exact v z.symm
  ·exact S (cC.mp hm).symm
 have hlen:es.size=(qe n).length:=by rw[<- aT,he.length]
 have h8:=YE n;refine cx ⟨plainId_quiet PySem.F.plain_extend_loop _,codeAny_extend_loopS W (by rw[sizeLine_eq];omega) _ K _ es.size 0 _ _ _ rfl (zero_le _) ⟨?_,oth a o S (ae _ p)⟩ L (ItemsOf.nil _) λs' c c' hm u h=>?_⟩
 ·refine⟨io,oth _ _ v J,by rw[<- g],?_⟩
  rw[<- g]
  have:wO w n 0=0:=by unfold wO KL;split<;>rfl
  rw[this]
  rfl
 show wpAny _ A (load s.heap.objs.size >>= _) _ _ s';refine cw (wpAny_load u ?_);have X:c.toList=(kG w a ep es).toList.map (·.2):=by
  have hsz:(kG w a ep es).size=es.size:=by have:=(Kg w a ep es).length_eq;simpa using this
  apply ext_getElem?
  intro j
  by_cases U:j<es.size
  ·have y:c[j]? =some (c[j]'(by rw[h.1];exact U)):=Array.getElem?_eq_getElem (by rw[h.1];exact U)
   obtain⟨e,P,N⟩:=h.2 j _ y;rw[bB,y,ax,bB,P,N]
   rfl
  ·rw[aI (by rw[aT,h.1];omega),aI (by rw[ah,aT,hsz];omega)]
 show wpAny _ A (pure c.toList) _ _ s';rw[X];obtain⟨h',g',d',T,B⟩:=s';have e1:g'=s.gens:=hm.gens;have e2:d'=s.drawn:=hm.drawn;have e3:B=s.os:=hm.os;subst e1 e2 e3;refine cx (hQ h' T (λb ob k e=>?_) ?_)
 ·refine hm.heap b ob (λI=>?_) (oth b ob (aK k) (ae _ (by rw[<- x];exact ae _ e)))
  rcases cz.mp I with z|z
  ·exact aK k z
  ·exact aK (ba k) ((cC.mp z).trans i)
 ·exact bz (aF (show h'.get? s.heap.objs.size=_ from u))
end
open PySem PySem.Spec PyProof.Rows L2
theorem Pc:∀{a b:bV},a.Perm b->a.Pairwise (·<=·)->b.Pairwise (·<=·)->a=b
 |[],b,p,_,_=>by rw[List.nil_perm.mp p]|x::a,[],p,_,_=>absurd p.length_eq (by simp)|x::a,y::b,p,H,h=>by
  have d:x∈y::b:=p.mem_iff.mp (ay ..);have c:y∈x::a:=p.mem_iff.mpr (ay ..);have e:x=y:=by
   rcases cz.mp d with e|e
   ·exact e
   ·rcases cz.mp c with E|E
    ·exact E.symm
    ·have g:=(List.pairwise_cons.mp h).1 x e
     have f:=(List.pairwise_cons.mp H).1 y E;omega
  subst e;rw[Pc (List.Perm.cons_inv p) (List.pairwise_cons.mp H).2 (List.pairwise_cons.mp h).2]
def Cp (n v i:Nat):(yU n v).testBit i=(n.testBit i || decide (i=v)):=by
 unfold yU
 by_cases h:n.testBit v=true
 ·rw[ag h]
  by_cases e:i=v
  ·subst e;simp[h]
  ·simp[e]
 ·rw[aj h]
  unfold jC;rw[Nat.testBit_or,Nat.one_shiftLeft,Nat.testBit_two_pow]
  congr 1
  by_cases e:v=i
  ·subst e;simp
  ·simp[e,Ne.symm e]
theorem PJ (i:Nat):∀(vs:b8)(n:Nat),(vs.foldl yU n).testBit i=(n.testBit i || decide (i∈vs))
 |[],n=>by simp|v::vs,n=>by
  rw[List.foldl_cons,PJ i vs,Cp]
  by_cases e:i=v
  ·simp[e]
  ·simp[e]
def Eo (vs:b8):qe (vs.foldl yU 0)=(List.range 8).filter λi=>decide (i∈vs):=by
 unfold qe
 congr 1
 funext i
 rw[PJ];simp
def F1 (n:Nat):((qe n).map λ(i:Nat)=>(i:Int)).Pairwise (·<=·):=by
 rw[List.pairwise_map];unfold qe;refine List.Pairwise.imp ?_ (List.Pairwise.filter _ List.pairwise_lt_range);intro a b h;omega
def jz.snd {vs:b8}(h:jz es vs):∀e∈es,∃tk,e.2=.int e.1 tk:=by
 induction h with
 |nil=>intro e he;cases he|cons v tk h i=>
  intro e he;rcases cz.mp he with rfl|he
  ·exact⟨tk,rfl⟩
  ·exact i e he
theorem Sv:∀{l:List (Int×Value)},(∀e∈l,∃tk,e.2=.int e.1 tk)->IntsAre (l.map (·.2)) (l.map (·.1))
 |[],_=>.nil|e::l,h=>by
  obtain⟨tk,he⟩:=h e (ay ..);rw[aN,aN,he];exact .cons _ tk (Sv λx H=>h x (aq _ H))
section
variable {prog:Program}{A:Around}{o:Obj}{es:Array (Int×Value)}{ep:Nat}
def Ha (r:A.handled=none)(S:yV s.heap a (jZ w) n)
  (h:∀(h':Heap)(tk:Nat)(l:Addr)(I:bX)(c:Nat),s.heap.objs.size<=l->h'.get? l=some { cls:=.type "list",data:=.seq I.toArray c }->IntsAre I ((qe n).map λ(i:Nat)=>(i:Int))->
   (∀b o,s.heap.get? b=some o->h'.get? b=some o)->Q (.ref l) { s with heap:=h',toks:=tk }):
  wpAny (model prog w) A (call (.builtin "sorted") [.ref a]) Q E s:=by
 obtain⟨o,f,p,q,hex,hd,he,hn⟩:=S;refine Calls.call_function_entry kind_sorted plain_sorted entry_sorted (args_sorted1 _) ?_;unfold Builtin.«sorted»;refine cw (m:=checkCount "sorted" 1 1 _) (cx ?_);refine cw (M5 (by simp[r]) q hex hd he hn λd tk kp hle=>?_)
 have hp:=Kg w a p f;have j:IntsAre ((kG w a p f).toList.map (·.2)) ((kG w a p f).toList.map (·.1)):=Sv λe hm=>he.snd e (hp.mem_iff.mp hm);have H:((kG w a p f).toList.map (·.1)).Perm ((qe n).map λ(i:Nat)=>(i:Int)):=by
  rw[<- he.map1];exact hp.map _
 have hlen:((kG w a p f).toList.map (·.2)).length<=8:=by
  rw[ah,hp.length_eq,he.length];exact YE n
 generalize (kG w a p f).toList.map (·.2)=vs at j hlen;generalize (kG w a p f).toList.map (·.1)=ns at j H;refine cw (wpAny_newList ?_);have L:(d.push (seqObj "list" vs.toArray 0)).get? d.objs.size=some (seqObj "list" vs.toArray 0):=au _ rfl;show wpAny _ _ _ _ _ { s with heap:=d.push (seqObj "list" vs.toArray 0),toks:=tk }
 refine cw (wpAny_holding (wpAny_call_entry slot_list_sort ⟨_,L,rfl⟩ entry_list_sort (list_sort_tree L j (by omega) λout N a1 a2 x=>⟨_,rfl,?_⟩) (args_list_sort _)))
 have g:N=(qe n).map λ(i:Nat)=>(i:Int):=Pc (a2.trans H) x (F1 n);subst g;refine cx ⟨_,rfl,?_⟩;have v:=get?_update_seq L (λ_=>(#[]:Array Value));have u:=ae (seqObj "list" #[] 0) (ae (seqObj "tuple" vs.toArray 0) v);obtain⟨c,t⟩:∃c,(sortedHeap (d.push (seqObj "list" vs.toArray 0)) d.objs.size vs out).get? d.objs.size=some (seqObj "list" out c):=⟨_,get?_update_seq u (λ_=>out)⟩;refine h _ tk d.objs.size out.toList c hle ?_ a1 λb ob e=>?_
 ·rw[Array.toArray_toList]
  exact t
 ·have k:b<s.heap.objs.size:=aF e
  have k1:=kp b ob k e;have nb:d.objs.size≠b:=bq (aE k hle);unfold sortedHeap;refine(aZ _ _ nb).trans ?_;refine ae _ (ae _ ?_);exact(aZ _ _ nb).trans (ae _ k1)
end
section
variable {m:Ev}
def fU (K:Frag)(w:World):List V->Hp->VK->Prop:=λxs H Q=>∃(p:Addr) (vs:b8),xs=[.ref p]/\jj K H p (vs.map λ(v:Nat)=>V.int (v:Int))/\(∀v∈vs,v<8)/\∀l,H l=none->Q (.ref l) (upd H l (.ext λh=>yV h l (jZ w) (vs.foldl yU 0)))
def Ej (l:X.calm=true):yt X (.type "set") (fU X.K X.w):=by
 intro pins s σ H xs us Q I r h;obtain⟨p,vs,rfl,g,n,q⟩:=h;obtain⟨u,rfl,d⟩:=vals1 r;cases d;obtain⟨i,c,⟨o,k,x,t,C,E⟩,_⟩:=I.list g;have f:Vals ((vs.map λ(v:Nat)=>(v:Int)).map V.int) i:=by rw[aL];exact c
 refine Lv (I.ok.hd l) ⟨o,x,t,k,E⟩ (intsAre_of f) n λh' tk S kp=>?_;refine⟨.ref s.heap.objs.size,_,I.laid (t':=tk) (o:=.ext λh=>yV h s.heap.objs.size (jZ X.w) (vs.foldl yU 0)) (λb o e=>kp b o (aF e) e) (av _) ⟨S,?_,λz y a b=>a.keep b⟩,rfl,q _ (I.hok.fresh (av _))⟩;obtain⟨o,A,B,j,_⟩:=S;exact⟨o,j⟩
theorem Ke:∀{ns:bV}{i:bX},IntsAre i ns->Vals (ns.map V.int) i
 |_,_,.nil=>.nil|_,_,.cons n t h=>.cons ⟨t,rfl⟩ (Ke h)
def Ib (j:X.calm=true):yt X (.builtin "sorted") (λxs H Q=>∃(p:Addr) (n:Nat),xs=[.ref p]/\H p=some (.ext λh=>yV h p (jZ X.w) n)/\∀l,H l=none->Q (.ref l) (upd H l (.lst ((qe n).map λ(v:Nat)=>V.int (v:Int))))):=by
 intro pins s σ H xs us Q I r h;obtain⟨p,n,rfl,e,q⟩:=h;obtain⟨u,rfl,d⟩:=vals1 r;cases d;have S:yV s.heap p (jZ X.w) n:=(show jh X.prog X.w H s.heap p (.ext λh=>yV h p (jZ X.w) n) from I.hok p _ e).1
 refine Ha (I.ok.hd j) S λh' tk l i c b g f kp=>?_;have a:=Ke f;rw[aL]at a;refine⟨.ref l,_,I.laid (t':=tk) (o:=.lst ((qe n).map λ(v:Nat)=>V.int (v:Int))) kp b ⟨?_,i,c,a,g⟩,rfl,q _ (I.hok.fresh b)⟩;rw[ah,sizeLine_eq]
 have:=YE n
 omega
noncomputable def QY:List Int->Option (b8)
 |[]=>some []|i::is=>if 0<=i/\i<8 then(QY is).map (i.toNat::·) else none
theorem Pj:∀{is:bV}{vs:b8},QY is=some vs->is=vs.map (λ(v:Nat)=>(v:Int))/\∀v∈vs,v<8
 |[],_,e=>by cases e;exact⟨rfl,λv H=>by cases H⟩|i::is,vs,e=>by
  unfold QY at e
  by_cases h:0<=i/\i<8
  ·rw[ag h]at e
   cases E:QY is with
   |none=>rw[E]at e;cases e|some us=>
    rw[E]at e;cases e;obtain⟨b,a⟩:=Pj E;refine⟨?_,λv H=>?_⟩
    ·rw[aN,<- b,bJ h.1]
    ·rcases cz.mp H with rfl|H
     ·omega
     ·exact a v H
  ·rw[aj h]at e;cases e
def Vz:W->Hx->R W:=λw A=>match w with
 |.ref n=>match A[n]? with
  |some (.lst ws)=>match intsOf ws with
   |some is=>match QY is with
    |some vs=>.ok (.ref A.length) (A++[.lst (((List.range 8).filter λi=>decide (i∈vs)).map λ(i:Nat)=>W.int (i:Int))])|none=>.bad
   |none=>.bad
  |_=>.bad
 |_=>.bad
def W4 (m:Ev):Ev:=λρ A=>(m ρ A).bind λw A1=>Vz w A1
end
def FU (a b:Value):argsOk "sum" ⟨[a,b],[]⟩:=by unfold argsOk;kernel_rfl
def sub_list_str:isSubtype (.type "list") (.type "str")=pure false:=by rw[isSubtype_type];kernel_rfl
def sub_list_bytes:isSubtype (.type "list") (.type "bytes")=pure false:=by rw[isSubtype_type];kernel_rfl
def sub_list_bytearray:isSubtype (.type "list") (.type "bytearray")=pure false:=by rw[isSubtype_type];kernel_rfl
noncomputable abbrev wZ (xs:Array Value)(c:Nat):Obj:={ cls:=.type "list",dict:=none,data:=.seq xs c,slots:=#[] }
section
variable {prog:Program}{A:Around}{R:Result->Shared->Prop}{I:Addr}{wr:bY}{G:Array GenState->Array GenState->Prop}{P:Nat->Value->Prop}{St:Nat->Shared->Prop}
def Fc (W:WalksS prog w A.in1 I fp wr G n P St)(S B:Addr)(z:S∉fp)(hBS:B<=S)(ad:Nat->Addr)(a:Nat->List Value)(q:∀i v,P i v->v=.ref (ad i))(g:∀i,i<n->ad i≠S/\ad i∉wr)(Z:∀b∈wr,b<S):
  ∀(k i:Nat)(s:Shared)(T:Addr)(c M:Nat)(acc:bX),n-i=k->i<=n->St i s->s.heap.get? S=some (wZ #[.ref T] c)->T≠S->T∉wr->s.heap.get? T=some (wZ acc.toArray M)->
   (∀j,i<=j->j<n->∃cj,s.heap.get? (ad j)=some (wZ (a j).toArray cj))->(acc++(((List.range' i k).map a).flatten)).length<=sizeLine->
   (∀s' Q c',Moved (S::wr) G s s'->s'.heap.get? Q=some (wZ (acc++(((List.range' i k).map a).flatten)).toArray c')->((k=0/\Q=T)∨B<=Q)->R (.ok (.ret (.ref Q))) s')->
   codeAny (model prog w) A (.builtin "sum.loop" ⟨[.ref I,.ref S,rawInt 2,rawInt 0],[]⟩) R s:=by
 have hSw:S∉wr:=λh=>z (W.sub _ h);have d:∀b∈wr,b∈S::wr:=λb f=>aq _ f;intro k
 induction k with
 |zero=>
  intro i s T c M acc hk hi t K hTS p hT hl J L;have hin:i=n:=by omega
  subst hin;refine codeAny_builtin PySem.F.entry_sum_loop ?_;rw[Around.under_plainId plain_sum_loop _];show wpAny _ A.in1 (seqItems? (.ref S) >>= _) _ _ s;refine cw (wpAny_seqItems K rfl ?_);show wpAny _ A.in1 (tryCatch (pyNext (.ref I)) _ >>= _) _ _ s;refine cw (wpAny_tryCatch (W.done s _ _ t λs' hm=>?_));refine cx (L s' T M (hm.mono d) ?_ (.inl ⟨rfl,rfl⟩))
  have:=hm.heap T _ p hT
  simpa using this
 |succ k ih=>
  intro i s T c M acc hk hi t K hTS p hT hl J L;have H:i<n:=by omega
  refine codeAny_builtin PySem.F.entry_sum_loop ?_;rw[Around.under_plainId plain_sum_loop _];show wpAny _ A.in1 (seqItems? (.ref S) >>= _) _ _ s;refine cw (wpAny_seqItems K rfl ?_);show wpAny _ A.in1 (tryCatch (pyNext (.ref I)) _ >>= _) _ _ s;refine cw (wpAny_tryCatch (W.item i s _ _ H t λv s' hP r hm=>?_));have hv:=q i v hP;subst hv;have E:=hm.heap S _ hSw K;have hT':=hm.heap T _ p hT;obtain⟨ci,hli⟩:=hl i (av _) H;have x:=hm.heap (ad i) _ (g i H).2 hli;rw[bT,aN,aY,<- aP]at J L;have Y:(acc++a i).length<=sizeLine:=by rw[ak]at J;omega
  show wpAny _ A.in1 ((holding [Value.ref (ad i)] (binaryOp .Add (.ref T) (.ref (ad i)))).attempt >>= _) _ _ _;refine cw (wpAny_attempt (wpAny_holding (PySem.P.add_list hT' x ?_ (by rw[aC,aC,<- ak];exact Y))))
  have ea:acc.toArray++(a i).toArray=(acc++a i).toArray:=by simp
  rw[ea];have l:S<s'.heap.objs.size:=aF E;have D:=ae (wZ (acc++a i).toArray 0) E;have hN1:(s'.heap.push (wZ (acc++a i).toArray 0)).get? s'.heap.objs.size=some (wZ (acc++a i).toArray 0):=au _ rfl;show wpAny _ A.in1 (updateSeq S (λ_=>#[.ref s'.heap.objs.size]) >>= _) _ _ _;refine cw (wpAny_updateSeq D rfl ?_);have C:=a9 (Obj.mapSeq λ_=>#[Value.ref s'.heap.objs.size]) D rfl;refine cw (wpAny_letGo ?_);have N:s'.heap.objs.size≠S:=bq l;have oth:∀b o,b≠S->s'.heap.get? b=some o->(((s'.heap.push (wZ (acc++a i).toArray 0)).update S (Obj.mapSeq λ_=>#[Value.ref s'.heap.objs.size])).update S (Obj.mapSeq λ_=>#[Value.ref s'.heap.objs.size])).get? b=some o:=
   λb o f e=>(aZ _ _ (Ne.symm f)).trans ((aZ _ _ (Ne.symm f)).trans (ae _ e))
  have X:s'.heap.objs.size∉wr:=λhm2=>aV _ (lt_trans (Z _ hm2) l);refine cw (wpAny_updateSeq C rfl (cx ⟨plainId_quiet plain_sum_loop _,ih (i+1) _ s'.heap.objs.size _ 0 (acc++a i) (by omega) H (W.frame _ s' _ _ r (by first|exact av _|exact le_succ _|omega) λb f o e=>oth b o (λh=>z (h ▸ f)) e) (a9 _ C rfl) N X ?_ ?_ J λU T'' c'' u y hor=>?_⟩))
  ·exact(aZ _ _ (Ne.symm N)).trans ((aZ _ _ (Ne.symm N)).trans hN1)
  ·intro j h1 h2
   obtain⟨cj,hj⟩:=hl j (by omega) h2
   exact⟨cj,oth _ _ (g j h2).1 (hm.heap _ _ (g j h2).2 hj)⟩
  ·refine L U T'' c'' (Moved.trans W.gtrans ((hm.mono d).then_heap (by first|exact av _|exact le_succ _|omega) λb o f e=>oth b o (λh=>f (by rw[h];exact ay)) e) u) y (.inr ?_)
   rcases hor with ⟨_,rfl⟩|h
   ·exact bz (Nat.lt_of_le_of_lt hBS l)
   ·exact h
def Eh {p q:Addr}{M:Nat}{a:bY}{itss:List (bX)}(Z:A.handled=none)(hp:s.heap.IsList p (a.map Value.ref).toArray)(P:s.heap.get? q=some (wZ #[] M))
  (hlen:a.length=itss.length)(S:∀i,i<a.length->∃c,s.heap.get? (a.getD i 0)=some (wZ (itss.getD i []).toArray c))(B:a≠[])(X:itss.flatten.length<=sizeLine)
  (h:∀(h':Heap)(tk:Nat)(l:Addr)(c:Nat),s.heap.objs.size<=l->h'.get? l=some (wZ itss.flatten.toArray c)->(∀b o,s.heap.get? b=some o->h'.get? b=some o)->Q (.ref l) { s with heap:=h',toks:=tk }):
  wpAny (model prog w) A (call (.builtin "sum") [.ref p,.ref q]) Q E s:=by
 refine call_function_tree PySem.F.kind_sum PySem.F.plain_sum PySem.F.entry_sum (FU _ _) ?_;unfold Builtin.«sum»;simp only[bb,length_nil];rw[aj (by decide)]
 refine cw (wpAny_of_eq (show Builtin.Builtins.bindParams "sum" ["start"] 0 ⟨[.ref q],[]⟩=pure [some (.ref q)] from rfl) ?_)
 refine cw (wpAny_pyIter_list hp ?_);refine cw (cx ?_);generalize d:({ cls:=.type "list_iterator",data:=.fields #[.ref p,.int 0 0] }:Obj)=io;have n:(s.heap.push io).get? q=some (wZ #[] M):=ae _ P;have hT:Shared.TypeIs { s with heap:=s.heap.push io } (.ref q) "list":=⟨_,n,rfl⟩
 simp only[forIn_cons,forIn_nil];refine cw (cw (cw (wpAny_isInstance (b:=false) hT sub_list_str ?_)));simp only[bc,if_false];refine cx (cw (cw (wpAny_isInstance (b:=false) hT sub_list_bytes ?_)));simp only[bc,if_false];refine cx (cw (cw (wpAny_isInstance (b:=false) hT sub_list_bytearray ?_)));simp only[bc,if_false];refine cx (cx ?_);refine cw (wpAny_newObj_type ?_);have sz:(s.heap.push io).objs.size=s.heap.objs.size+1:=bf ..;have k:p<s.heap.objs.size:=by obtain⟨o,e,_⟩:=hp;exact aF e
 have g:q<s.heap.objs.size:=aF P;have ltI:s.heap.objs.size<(s.heap.push io).objs.size:=by rw[sz];exact bo _
 have L:∀b,b<s.heap.objs.size->b<(s.heap.push io).objs.size:=λb D=>lt_trans D ltI;have W:=(Walks.list (prog:=prog) (w:=w) (A:=A.in1) (by simp[Z]) s.heap.objs.size p (aK k) (a.map Value.ref).toArray).toS
 have K:(a.map Value.ref).toArray.size=a.length:=by simp
 rw[K]at W;have I:(s.heap.push io).objs.size∉[s.heap.objs.size,p]:=λhm=>by
  rcases cz.mp hm with z|hm
  ·exact bq ltI z
  ·exact bq (L p k) (cC.mp hm)
 have t:∀i,i<a.length->a.getD i 0<s.heap.objs.size:=λi f=>by obtain⟨c,e⟩:=S i f;exact aF e
 have J:(s.heap.push io).get? s.heap.objs.size=some io:=au _ (by rw[<- d];rfl)
 have H:((List.range' 0 a.length).map λj=>itss.getD j []).flatten=itss.flatten:=by
  congr 1
  rw[hlen]
  apply bt
  ·simp
  ·intro i h1 h2
   simp[af,aa h2]
 refine cx ⟨plainId_quiet plain_sum_loop _,Fc W (s.heap.push io).objs.size s.heap.objs.size I (bz ltI) (λi=>a.getD i 0) (λi=>itss.getD i []) (λi v e=>?_) (λi f=>⟨aK (L _ (t i f)),λhm=>?_⟩) (λb D=>?_)
  a.length 0 _ q 0 M [] (by omega) (zero_le _) ⟨⟨io,ae _ J,by rw[<- d],by rw[<- d];rfl⟩,(hp.push _).push _⟩ (au _ rfl) (aK (L q g)) (λhm=>?_) (ae _ n) (λj _ Y=>?_) ?_ λs' U c' hm r y=>?_⟩
 ·have f:i<a.length:=by
   have:=(Array.getElem?_eq_some_iff.mp e).1
   simpa using this
  have u:(a.map Value.ref)[i]? =some v:=by simpa using e
  rw[ax,aa f]at u;rw[af,aa f];exact(aB u).symm
 ·exact aK (t i f) (cC.mp hm)
 ·rw[cC.mp D];exact ltI
 ·exact aK g (cC.mp hm)
 ·obtain⟨c,e⟩:=S j Y
  exact⟨c,ae _ (ae _ e)⟩
 ·rw[bA,H];exact X
 ·rw[bA,H]at r
  have hB:s.heap.objs.size<=U:=by
   rcases y with ⟨h0,_⟩|h0
   ·exact absurd (List.length_eq_zero_iff.mp h0) B
   ·exact h0
  obtain⟨h',g',d',T,x⟩:=s';have e1:g'=s.gens:=hm.gens;have u:d'=s.drawn:=hm.drawn;have e3:x=s.os:=hm.os;subst e1 u e3;refine h h' T U c' hB r λb o e=>hm.heap b o (λC=>?_) (ae _ (ae _ e));have N:b<s.heap.objs.size:=aF e;rcases cz.mp C with z|z
  ·exact aK (L b N) z
  ·exact aK N (cC.mp z)
end
section
variable {K:Frag}
def NL (K:Frag):List V->Hp->VK->Prop:=λxs H Q=>∃(p q:Addr) (ls:List (Addr×List V)),xs=[.ref p,.ref q]/\H p=some (.lst (ls.map λl=>V.ref l.1))/\H q=some (.lst [])/\(∀l∈ls,H l.1=some (.lst l.2))/\ls≠[]/\(ls.map (·.2)).flatten.length<=zR/\
 ∀l,H l=none->Q (.ref l) (upd H l (.lst (ls.map (·.2)).flatten))
theorem R3:∀{ls:List (Addr×List V)}{us:bX},Vals (ls.map λl=>V.ref l.1) us->us=(ls.map (·.1)).map Value.ref
 |[],_,h=>by cases h;rfl|l::ls,_,h=>by
  cases h with
  |cons r t=>cases r;rw[R3 t];rfl
def F8 (Y:X.calm=true):yt X (.builtin "sum") (NL X.K):=by
 intro pins s σ H xs us Q I r h;obtain⟨p,q,ls,rfl,hp,S,T,t,A,k⟩:=h;obtain⟨u,v,rfl,C,B⟩:=Vals.two r;cases C;cases B;obtain⟨_,M,np,E,_,Z⟩:=I.lstM hp;obtain⟨_,j,nq,D,lq,eq⟩:=I.lstM S;have b:j=[]:=by cases D;rfl
 subst b;have d:=R3 E;subst d;have hex:∀L:List (Addr×List V),(∀l∈L,H l.1=some (.lst l.2))->∃itss:List (bX),itss.length=L.length/\(∀i,i<L.length->∃c,s.heap.get? ((L.map (·.1)).getD i 0)=some (wZ (itss.getD i []).toArray c))/\Vals (L.map (·.2)).flatten itss.flatten:=by
  intro L
  induction L with
  |nil=>intro _;exact⟨[],rfl,λi f=>absurd f (not_lt_zero _),.nil⟩|cons l L N=>
   intro hm;obtain⟨itss,z,y,g⟩:=N λx P=>hm x (aq _ P);obtain⟨_,it,n,J,_,e1⟩:=I.lstM (hm l (ay ..));refine⟨it::itss,by simp[z],λi f=>?_,?_⟩
   ·cases i with
    |zero=>exact⟨n,e1⟩|succ i=>exact y i (by simpa using f)
   ·rw[aN,aY,aY]
    exact J.append g
 obtain⟨itss,z,y,g⟩:=hex ls T;have w:itss.flatten.length=(ls.map (·.2)).flatten.length:=g.length.symm;refine Eh (I.ok.hd Y) (itss:=itss) ⟨_,Z,rfl,np,rfl⟩ eq (by simp[z]) (λi f=>y i (by simpa using f)) (λe=>t (List.map_eq_nil_iff.mp e)) (by rw[w];exact g8 A) λh' tk l c a U kp=>?_
 exact⟨.ref l,_,I.laid (t':=tk) (o:=.lst (ls.map (·.2)).flatten) kp a ⟨g8 A,itss.flatten,c,g,U⟩,rfl,k _ (I.hok.fresh a)⟩
noncomputable def gJ (A:Hx):List W->Option (List (List W))
 |[]=>some []|.ref k::us=>match A[k]? with
  |some (.lst ws)=>(gJ A us).map (ws::·)|_=>none
 |_::_=>none
def Qi:W->W->Hx->R W:=λx y A=>match x,y with
 |.ref n,.ref k=>match A[n]?,A[k]? with
  |some (.lst us),some (.lst [])=>match gJ A us with
   |some w=>if us≠[]/\w.flatten.length<=zR then .ok (.ref A.length) (A++[.lst w.flatten]) else .bad|none=>.bad
  |_,_=>.bad
 |_,_=>.bad
def BJ:∀x y A,qR (Qi x y A):=λx y A=>by
 unfold Qi
 split
 ·split
  ·split
   ·exact Zd jY qP
   ·exact qP
  ·exact qP
 ·exact qP
theorem zD.app:∀{ws us:List W}{xs ys:List V},zD K φ H ws xs->zD K φ H us ys->zD K φ H (ws++us) (xs++ys)
 |[],_,_,_,h,a=>by cases h;exact a|w::ws,_,_,_,⟨v,r,e,h,t⟩,a=>by subst e;exact⟨v,_,rfl,h,zD.app t a⟩
theorem Rt (S:zN K φ A H):∀{us:List W}{w:List (List W)}{vs:List V},gJ A us=some w->zD K φ H us vs->∃ls:List (Addr×List V),vs=ls.map (λl=>V.ref l.1)/\(∀l∈ls,H l.1=some (.lst l.2))/\zD K φ H w.flatten (ls.map (·.2)).flatten/\ls.length=us.length
 |[],_,_,e,h=>by cases e;cases h;exact⟨[],rfl,λl a=>(by cases a),rfl,rfl⟩|u::us,w,_,e,⟨v,r,j,h,t⟩=>by
  subst j;cases u with
  |ref k=>
   unfold gJ at e;cases E:A[k]? with
   |none=>rw[E]at e;cases e|some o=>cases o with
    |lst ws=>
     rw[E]at e;dsimp only at e;cases b:gJ A us with
     |none=>rw[b]at e;cases e|some c=>
      rw[b]at e;cases e;obtain⟨p,xs,rfl,_,hp,d⟩:=S.lst h E;obtain⟨ls,rfl,i,g,f⟩:=Rt S b t;refine⟨(p,xs)::ls,rfl,λl a=>?_,zD.app d g,by simp[f]⟩
      rcases cz.mp a with rfl|a
      ·exact hp
      ·exact i l a
    |_=>rw[E]at e;cases e
  |_=>cases e
def Dl:yx K (λx y=>NL K [x,y]) Qi:=λφ A H x y u v Q S g q p=>by
 unfold Qi at p;cases u with
 |ref n=>cases v with
  |ref k=>
   dsimp only at p;cases E:A[n]? with
   |none=>rw[E]at p;exact p.elim|some o=>cases o with
    |lst us=>
     cases a:A[k]? with
     |none=>rw[E,a]at p;exact p.elim|some j=>cases j with
      |lst zs=>cases zs with
       |nil=>
        rw[E,a]at p;dsimp only at p;cases b:gJ A us with
        |none=>rw[b]at p;exact p.elim|some w=>
         rw[b]at p;dsimp only at p
         by_cases h:us≠[]/\w.flatten.length<=zR
         ·rw[ag h]at p
          obtain⟨i,xs,rfl,_,hp,f⟩:=S.lst g E;obtain⟨P,ys,rfl,_,s,r⟩:=S.lst q a;cases r;obtain⟨ls,rfl,z,d,c⟩:=Rt S b f;refine⟨i,P,ls,rfl,hp,s,z,λe=>?_,by rw[<- d.length];exact h.2,λl t=>?_⟩
          ·rw[e]at c
           exact h.1 (List.length_eq_zero_iff.mp c.symm)
          ·obtain⟨a1,a2,B⟩:=QU S t d
           exact p _ _ _ a1 a2 B
         ·rw[aj h]at p;exact p.elim
       |cons _ _=>rw[E,a]at p;exact p.elim
      |_=>rw[E,a]at p;exact p.elim
    |_=>rw[E]at p;exact p.elim
  |_=>exact p.elim
 |_=>cases v<;>exact p.elim
variable {a b:Expr}{ma mb:Ev}
def AN (t:TA):TE:=λσ H Q=>t σ H λvs H1=>∃i j:Int,vs=[.int i,.int j]/\∀p,H1 p=none->Q (.ref p) (upd H1 p (.rng i j))
def DV {T:TA}(g:Gl X "range")(hm:X.mg "range"=none)(k:PA X [a,b] T)(f:starEach [a,b] X.env=[(false,eval a X.env),(false,eval b X.env)])(c:starEach [b] X.env=[(false,eval b X.env)]):PE X (.Call (.Name "range" p) [a,b] [] pos) (AN T):=by
 intro pins s σ H Q I h;refine Call_ (QZ I g hm boot_range (PyProof.Rows.callWith_type1 (zZ (k pos pins s σ H _ I h) λus s1 ⟨vs,H1,d,r,e⟩=>?_) (by rw[f,c]) (by rw[c];rfl)))
 obtain⟨i,j,rfl,q⟩:=e;obtain⟨u,v,rfl,⟨t,rfl⟩,⟨l,rfl⟩⟩:=Vals.two r;refine call_range_2 ⟨.ref _,_,d.laid (o:=.rng i j) (λb o E=>ae _ E) (av _) ?_,rfl,q _ (d.hok.fresh (av _))⟩;exact⟨_,_,_,au _ rfl⟩
noncomputable def JO (lo:Int)(n:Nat):List V:=(List.range n).map λ(i:Nat)=>V.int (lo+i)
def IV (y:X.calm=true):yt X (.type "list") (λxs H Q=>∃(r:Addr) (i j:Int),xs=[.ref r]/\H r=some (.rng i j)/\(-(2 ^ 62)<=i/\i<2 ^ 62)/\(-(2 ^ 62)<=j/\j<2 ^ 62)/\(j-i).toNat<=sizeLine/\∀l,H l=none->Q (.ref l) (upd H l (.lst (JO i (j-i).toNat)))):=by
 intro pins s σ H xs us Q I r h;obtain⟨p,i,j,rfl,hp,⟨a1,a2⟩,⟨A,B⟩,z,q⟩:=h;obtain⟨u,rfl,g⟩:=vals1 r;cases g;obtain⟨t1,T,t3,x⟩:=I.hok p _ hp;have D:sizeLine=16777216:=sizeLine_eq;refine PySem.call_list_range (n:=(j-i).toNat) (I.ok.hd y) (show IsRange s.heap p i j 1 t1 T t3 from x) (small_one (by omega) (by omega) A B) (by rw[rangeSize_one];split<;>omega) (by omega) λh' tk acc C kk S ⟨hn,d⟩=>?_
 refine⟨.ref s.heap.objs.size,_,I.laid (t':=tk) (o:=.lst (JO i (j-i).toNat)) kk (av _) ?_,rfl,q _ (I.hok.fresh (av _))⟩;refine⟨by unfold JO;simpa using z,acc.toList,C,?_,by simpa using S⟩
 have a:∀(l:bX)(k:Nat),(∀(m:Nat) v,l[m]? =some v->∃t,v=.int (i+((k+m:Nat):Int)) t)->Vals ((List.range' k l.length).map λ(m:Nat)=>V.int (i+(m:Int))) l:=by
  intro l
  induction l with
  |nil=>intro k _;exact .nil|cons v l w=>
   intro k e;rw[bb,bT,aN];refine .cons ?_ (w (k+1) λm f a=>?_)
   ·obtain⟨t,rfl⟩:=e 0 v rfl
    exact⟨t,rfl⟩
   ·obtain⟨t,rfl⟩:=e (m+1) f (by simpa using a)
    exact⟨t,by first|rfl|(congr 1<;>omega)|(simp;omega)⟩
 have b:acc.toList.length=(j-i).toNat:=by simpa using hn
 have:=a acc.toList 0 λm v c=>by
  obtain⟨t,rfl⟩:=d m v (by simpa using c)
  exact⟨t,by first|rfl|(congr 1<;>omega)|(simp;omega)⟩
 rw[b]at this;unfold JO;rw[range_eq_range'];exact this
def Kt (ma mb:Ev):Ev:=λρ A=>(ma ρ A).bind λx A1=>(mb ρ A1).bind λy A2=>match x,y with
 |.int i,.int j=>if yg i&&(yg j&&decide ((j-i).toNat<=zR)) then .ok (.ref A2.length) (A2++[.lst ((List.range (j-i).toNat).map λ(k:Nat)=>W.int (i+k))]) else .bad|_,_=>.bad
variable {prog:Program}{A:Around}
def M4 {t S:Addr}{l v:Value}{lo i:cf}(H:IsTup s.heap t items)(d:s.heap.IsSliceOf S l v .none)(pl:IsPart l lo)(pu:IsPart v i)
  (hw:HT.qm items.size 0 lo=0/\HT.qm items.size items.size i=items.size)(h:Q (.ref t) s):wpAny (model prog w) A (getItem (.ref t) (.ref S)) Q E s:=by
 obtain⟨os,a,b,e⟩:=id d;have c:s.TypeIs (.ref S) "slice":=⟨os,a,b⟩;unfold getItem
 try with_reducible refine wpAny_holding ?_
 first|refine cw (cx ?_)|skip
 refine cw (wpAny_sequenceKey H.typeIs (by decide) ?_)
 refine cw (wpAny_callSpecial?_slot (name:=Str.ofString "__getitem__") H.typeIs PyProof.Rows.slot_tuple_getitem
  (wpAny_call_entry PyProof.Rows.slot_tuple_getitem H.typeIs PyProof.Rows.entry_tuple_getitem ?_ (PyProof.Rows.args_tuple_getitem _ _)))
 show wpAny _ _ (Builtin.Tuple.tupleItemsOf (.ref t) >>= _) _ _ s;refine cw (PyProof.Rows.tupleItemsOf_ H ?_);refine cw (wpAny_typeOf c ?_);rw[ag (by decide)]
 refine cw (HT.TV d pl pu ?_);show wpAny _ _ (if (((HT.qm items.size 0 lo:Nat):Int)==0&&(1:Int)==1&&(HT.qm items.size items.size i-HT.qm items.size 0 lo)==items.size)=true then _ else _) _ _ s;rw[ag (by rw[hw.1,hw.2];simp)]
 unfold Builtin.Tuple.tupleIsExact;refine cw (cw (wpAny_typeOf H.typeIs (cx ?_)));rw[ag (by decide)]
 refine cw (wpAny_rule ?_)
 first
  |exact cx ⟨_,rfl,cx h⟩
  |exact cw (cx (cx ⟨_,rfl,cx h⟩))
end
section
variable {a:Expr}{m:Ev}{lo hi:Option Expr}{K:Frag}
def fV (K:Frag):V->Option Int->Option Int->Hp->VK->Prop:=λx lo h H Q=>∃a xs,x=.ref a/\qo K H a xs/\
 ((HT.qm xs.length 0 lo=0/\HT.qm xs.length xs.length h=xs.length)->Q (.ref a) H)/\
 (¬(HT.qm xs.length 0 lo=0/\HT.qm xs.length xs.length h=xs.length)->∀p,H p=none->Q (.ref p) (upd H p (.tup (Zp xs lo h))))
def BY:Xh X (fV X.K):=by
 intro pins s σ H x v l u lo e S Q I b d pl pu h;obtain⟨a,xs,rfl,c,f,q⟩:=h
 by_cases hw:HT.qm xs.length 0 lo=0/\HT.qm xs.length xs.length e=xs.length
 ·cases b
  obtain⟨i,r,t,z⟩:=I.tuple c;have hlen:i.toArray.size=xs.length:=by rw[aC];exact r.length.symm
  exact⟨"tuple",_,PyProof.Rows.slot_tuple_getitem.lookup,t.typeIs,M4 t d pl pu (by rw[hlen];exact hw) ⟨.ref a,H,I,rfl,f hw⟩⟩
 ·exact AU pins s σ H _ v l u lo e S Q I b d pl pu ⟨a,xs,rfl,c,hw,q hw⟩
abbrev Po:=En->Hx->R (cf)
noncomputable def jL:Po:=λ_ A=>.ok none A
noncomputable def jD (m:Ev):Po:=λρ A=>(m ρ A).bind λw A1=>match w with
 |.int i=>.ok (some i) A1|_=>.bad
noncomputable def yu (ws:List W)(lo h:cf):List W:=(ws.drop (HT.qm ws.length 0 lo)).take (HT.qm ws.length ws.length h-HT.qm ws.length 0 lo)
def j3 (m:Ev)(pl pu:Po):Ev:=λρ A=>(m ρ A).bind λw A1=>(pl ρ A1).bind λl A2=>(pu ρ A2).bind λu a=>match w with
 |.tup ws=>.ok (.tup (yu ws l u)) a|_=>.bad
inductive MP (K:Frag)(xr:XR)(p:Po)(σ:St)(H:Hp)(Q:Option Int->Hp->Prop):Prop
 |mk (φ:bY) (A:Hx) (ρ:En) (S:zN K φ A H) (re:RE K φ H ρ σ) (h:(p ρ A).post (λo A1=>∀φ1 H1,Le K φ H φ1 H1->zN K φ1 A1 H1->Q o H1) (EB K φ H xr))
noncomputable def tP (K:Frag)(x:XR)(p:Po):TO:=λσ H Q=>MP K x p σ H Q
def SP (X:Cx)(x:XR)(e:Option Expr)(p:Po):Prop:=PO X e (tP X.K x p)
def PO.imp {e:Option Expr}{t t':TO}(h:PO X e t)(i:∀σ H Q,t' σ H Q->t σ H Q):PO X e t':=λpins s σ H Q I hw=>h pins s σ H Q I (i σ H Q hw)
def Nl (c:SE X xr e m):SP X xr (some e) (jD m):=PO.imp (C0 c) λσ H Q ⟨φ,A,ρ,S,re,h⟩=>by
 refine tM.go S re (qa.mp h) λw A1 a H1 v b l s q=>?_;cases w with
 |int i=>obtain rfl:=q;exact⟨i,rfl,b a H1 l s⟩|_=>exact b.elim
end
def D3 (xs:Array Value):((List.range xs.size).filterMap λ(k:Nat)=>xs[(((xs.size:Int)-1)+(k:Int) * (-1)).toNat]?).toArray=xs.toList.reverse.toArray:=by
 congr 1
 have e:∀k,k<xs.size->xs[(((xs.size:Int)-1)+(k:Int) * (-1)).toNat]? =some (xs.toList.reverse.getD k .none):=λk h=>by
  have H:(((xs.size:Int)-1)+(k:Int) * (-1)).toNat=xs.size-1-k:=by omega
  rw[H,af,List.getElem?_reverse (by simpa using h),bB,aT,Array.getElem?_eq_getElem (by omega)]
  rfl
 have E:((List.range xs.size).filterMap λ(k:Nat)=>xs[(((xs.size:Int)-1)+(k:Int) * (-1)).toNat]?)=(List.range xs.size).map λk=>xs.toList.reverse.getD k .none:=by
  have b:∀l:b8,(∀k∈l,k<xs.size)->(l.filterMap λ(k:Nat)=>xs[(((xs.size:Int)-1)+(k:Int) * (-1)).toNat]?)=l.map λk=>xs.toList.reverse.getD k .none:=by
   intro l
   induction l with
   |nil=>intro _;rfl|cons k l I=>
    intro h;rw[bj,e k (h k (ay ..)),aN,I λj a=>h j (aq _ a)]
  exact b _ λk h=>cB.mp h
 rw[E]
 apply bt
 ·simp
 ·intro i H c
  rw[List.getElem_map,List.getElem_range,af,aa c]
  rfl
section
variable {K:Frag}
def L9 {xs:List V}(h:Vals xs us):Vals xs.reverse us.reverse:=by
 induction h with
 |nil=>exact .nil|cons r t i=>rw[reverse_cons,reverse_cons];exact i.append (.cons r .nil)
theorem zD.rev:∀{ws:List W}{vs:List V},zD K φ H ws vs->zD K φ H ws.reverse vs.reverse
 |[],_,h=>by cases h;rfl|w::ws,_,⟨v,r,e,h,t⟩=>by
  subst e;rw[reverse_cons,reverse_cons];exact zD.app (zD.rev t) ⟨v,[],rfl,h,rfl⟩
end
noncomputable def GP (_ j:Int):Bool:=decide (0<j)&&decide (j<1152921504606846976)
def NT (i j:Int):Prop:=0<j/\j<1152921504606846976
def Dw (i j:Int)(h:GP i j=true):NT i j:=by
 unfold GP at h;rw[ar]at h;exact⟨of_decide_eq_true h.1,of_decide_eq_true h.2⟩
def Cf:qY X (binaryOp .FloorDiv) (rI NT λi j=>.int (i/j)):=Xd λi j _ _ _ _ _ h q=>by
 have a:(0:Int)<j:=h.1;have H:j<1152921504606846976:=h.2;refine floordiv_int (by omega) (by rw[Int.fdiv_eq_ediv_of_nonneg i (by omega)];exact q) (.inl (PyProof.noPylong_of_log2 ?_))
 have h0:j.natAbs≠0:=by omega
 have:j.natAbs.log2<60:=(Nat.log2_lt h0).mpr (by omega)
 omega
def ZV:=QD GP λi j=>.int (i/j)
section
variable {K:Frag}
def O3 (K:Frag):R2:=λx y H Q=>∃φ A u v d ds,zN K φ A H/\RV K φ H u x/\RV K φ H v y/\qd A 8 u=some d/\qd A 8 v=some (.list ds)/\Q (.bl (!(ds.any λz=>PyData.eqv z d))) H
def FF (j:X.A.units+64<cLine):qY X (compareOp .NotIn) (O3 X.K):=by
 intro pins s σ H x y v u Q I b r h;obtain⟨φ,A,w,a,d,ds,S,f,c,E,e,q⟩:=h;obtain⟨as,i⟩:=QN I S 8 w x v d f b E;obtain⟨bs,g⟩:=QN I S 8 a y u _ c r e;obtain⟨g1,g2⟩:=WS 8 w d E;obtain⟨g3,k⟩:=PD e;exact SeqAt.notIn_list_reads g i g3 g1 (by omega) ⟨.bl _,H,I,rfl,q⟩
def ZF:W->W->Hx->R W:=λx y A=>match qd A 8 x,qd A 8 y with
 |some d,some (.list ds)=>.ok (.bl (!(ds.any λz=>PyData.eqv z d))) A|_,_=>.bad
def Fv:∀x y A,qR (ZF x y A):=λx y A=>by
 unfold ZF
 split
 ·exact jY
 ·exact qP
def Hn:yx K (O3 K) ZF:=λφ A H x y u v Q S a q p=>by
 unfold ZF at p;cases e:qd A 8 u with
 |none=>rw[e]at p;exact p.elim|some d=>
  cases E:qd A 8 v with
  |none=>rw[e,E]at p;exact p.elim|some D=>
   rw[e,E]at p;cases D with
   |list ds=>exact⟨φ,A,u,v,d,ds,S,a,q,e,E,p φ H _ .refl S rfl⟩|_=>exact p.elim
def Ce (h:jv k X.A):KS X .NotIn ZF:=⟨_,FF h.units,Fv,Hn⟩
end
end Mi
namespace PySem.SeqAt
open PySem
end PySem.SeqAt
namespace Mi
open PySem PySem.Spec PyProof.Rows L2
noncomputable def GR (i j k l:Nat):Tg:=λw ρ=>match w with
 |.tup [x,y,z,u]=>some ((((ρ.set i (some x)).set j (some y)).set k (some z)).set l (some u))|_=>none
section
variable {prog:Program}{A:Around}
def M6 {t S:Addr}{tk:Tok}(c:IsTup s.heap t items)(f:s.heap.IsSliceOf S .none .none (.int (-1) tk))
  (h:Q (.ref s.heap.objs.size) { s with heap:=s.heap.push { cls:=.type "tuple",data:=.seq items.toList.reverse.toArray } })(hsz:items.size<=sizeLine):wpAny (model prog w) A (getItem (.ref t) (.ref S)) Q E s:=by
 obtain⟨os,a,d,b⟩:=id f;have e:s.TypeIs (.ref S) "slice":=⟨os,a,d⟩;have H:sizeOk (.seq items.toList.reverse.toArray):=by
  show items.toList.reverse.toArray.size<=sizeLine;simpa using hsz
 unfold getItem
 try with_reducible refine wpAny_holding ?_
 first|refine cw (cx ?_)|skip
 refine cw (wpAny_sequenceKey c.typeIs (by decide) ?_)
 refine cw (wpAny_callSpecial?_slot (name:=Str.ofString "__getitem__") c.typeIs PyProof.Rows.slot_tuple_getitem
  (wpAny_call_entry PyProof.Rows.slot_tuple_getitem c.typeIs PyProof.Rows.entry_tuple_getitem ?_ (PyProof.Rows.args_tuple_getitem _ _)))
 show wpAny _ _ (Builtin.Tuple.tupleItemsOf (.ref t) >>= _) _ _ s;refine cw (PyProof.Rows.tupleItemsOf_ c ?_);refine cw (wpAny_typeOf e ?_);rw[ag (by decide)]
 have p:∀{Q':Int×Int×Nat->Shared->Prop},Q' ((items.size:Int)-1,-1,items.size) s->wpAny (model prog w) A.in1 (Builtin.Slice.sliceApplied (.ref S) (pure (items.size:Int))) Q' E s:=λ {Q'} q=>by
  unfold Builtin.Slice.sliceApplied Builtin.Slice.sliceFields;refine cw (cw (wpAny_field a b (x:=.none) rfl (cw (wpAny_field a b (x:=.none) rfl (cw (wpAny_field a b (x:=.int (-1) tk) rfl (cx ?_)))))));refine cw (HT.Kc (.int (-1) tk) ?_);show wpAny _ _ (if (((-1:Int))==0)=true then _ else _) _ _ s;rw[aj (by decide)]
  refine cw (HT.Kc .none (cw (HT.Kc .none (cw (cx ?_)))));have i:Builtin.Slice.sliceAdjust none none (-1) (items.size:Int)=((items.size:Int)-1,-1):=rfl;show wpAny _ _ (match Builtin.Slice.sliceAdjust none none (-1) (items.size:Int) with|(lo,hi)=>pure (lo,(-1:Int),Builtin.Slice.slicePlaces lo hi (-1))) _ _ s
  rw[i];have g:Builtin.Slice.slicePlaces ((items.size:Int)-1) (-1) (-1)=items.size:=by
   unfold Builtin.Slice.slicePlaces;rw[aj (by decide)]
   by_cases z:items.size=0
   ·rw[z,aj (by decide)];rfl
   ·rw[ag (by omega)]
    simp
  show wpAny _ _ (pure ((items.size:Int)-1,(-1:Int),Builtin.Slice.slicePlaces ((items.size:Int)-1) (-1) (-1))) _ _ s;rw[g];exact cx q
 refine cw (p ?_);show wpAny _ _ (if (((items.size:Int)-1==0&&(-1:Int)==1&&items.size==items.size))=true then _ else _) _ _ s;rw[aj (by simp),D3]
 first
  |exact cw (m:=Builtin.Tuple.tupleExact _) (wpAny_newObj_type (cx ⟨_,rfl,cx h⟩) H)
  |exact cw (m:=Builtin.Tuple.tupleExact _) (wpAny_newObj_type (cw (cx (cx ⟨_,rfl,cx h⟩))) H)
  |exact cw (cw (m:=Builtin.Tuple.tupleExact _) (wpAny_newObj_type (cx (cx ⟨_,rfl,cx h⟩)) H))
  |exact cw (cw (m:=Builtin.Tuple.tupleExact _) (wpAny_newObj_type (cx ⟨_,rfl,cx h⟩) H))
end
section
variable {st:Expr}{m ms:Ev}{te:TE}{ts:TO}{p2:Pos}{K:Frag}
def fW (K:Frag):V->Hp->VK->Prop:=λx H Q=>∃a xs,x=.ref a/\qo K H a xs/\∀p,H p=none->Q (.ref p) (upd H p (.tup xs.reverse))
def BE (he:PE X e te)(l:PO X (some st) ts):PE X (.Subscript e (.Slice none none (some st) p2) pos) (λσ H Q=>te σ H λx H1=>ts σ H1 λo B=>o=some (-1)/\fW X.K x B Q):=by
 intro pins s σ H Q I h;refine Subscript_ (zZ (he pins s σ H _ I h) λv s1 ⟨x,H1,u,f,j⟩=>?_);refine wpAny_Slice ?_;rw[evalPart_none];refine cx (cx ?_);refine zZ (l pins s1 σ H1 _ u j) λvs s3 ⟨o,y,p,po,g⟩=>?_;obtain⟨rfl,a,xs,rfl,k,q⟩:=g;cases f;cases po with
 |int i tk=>
  have d:Inv X pins σ y { s3 with heap:=s3.heap.push { cls:=.type "slice",data:=.fields #[.none,.none,.int (-1) tk] } }:=p.kept (t':=s3.toks) λb ob q=>ae _ q
  obtain⟨c,r,t,z⟩:=d.tuple k;have hlen:c.toArray.size=xs.length:=by rw[aC];exact r.length.symm
  have n:wpAny (model X.prog X.w) X.A (getItem (.ref a) (.ref s3.heap.objs.size)) (EP X pins σ Q) X.xe { s3 with heap:=s3.heap.push { cls:=.type "slice",data:=.fields #[.none,.none,.int (-1) tk] } }:=by
   refine M6 t (Heap.IsSliceOf.new ..) ?_ (by rw[hlen];exact z)
   refine⟨.ref _,_,d.laid (t':=s3.toks) (o:=.tup xs.reverse) (λb ob q=>ae _ q) (av _) ?_,rfl,q _ (d.hok.fresh (av _))⟩;exact⟨by rw[List.length_reverse];exact z,c.reverse,L9 r,Qf.new _ _⟩
  show wpAny (model X.prog X.w) X.A (subscriptTail e (.Slice none none (some st) p2) (.ref a) (.ref s3.heap.objs.size)) (EP X pins σ Q) X.xe _;exact tail_any (ops:=[.ref a,.ref s3.heap.objs.size]) t.typeIs PyProof.Rows.slot_tuple_getitem.lookup n (by with_unfolding_all rfl)
def KO (m ms:Ev):Ev:=λρ A=>(m ρ A).bind λw A1=>(jD ms ρ A1).bind λo A2=>match w with
 |.tup ws=>if o=some (-1) then .ok (.tup ws.reverse) A2 else .bad|_=>.bad
def JK (m:Ev)(pl pu:Po):Ev:=λρ A=>(m ρ A).bind λw A1=>(pl ρ A1).bind λl A2=>(pu ρ A2).bind λu a=>match w with
 |.ref n=>match a[n]? with
  |some (.lst ws)=>.ok (.ref a.length) (a++[.lst (yu ws l u)])|_=>.bad
 |_=>.bad
end
open PySem.W (KasT kas_rev kas_asc kas_desc kas_tail3 kas_descPart kas_count kas_place kas_bin kas_sort)
open PySem.W (KasT kas_sort kas_ask kat_run kat_snds kat_kind kat_lt kat_cons kat_nil kat_yes kat_no kat_one KatLex KatGo KatTups)
noncomputable abbrev kI (ks:bV):List Key:=ks.map Sum.inl
def zI (x:List Int×Addr×Value):List Key×Addr×Value:=(kI x.1,x.2)
abbrev PZ:List (List Int×Addr×V)->List (List Int×Addr×Value)->Prop:=Paired λp q=>p.1=q.1/\p.2.1=q.2.1/\RelV p.2.2 q.2.2
structure TD (K:Frag)(H:Hp)(a:Addr)(xs:List (List Int×Addr×V)):Prop where
 s:H a=some (.ext (gD a xs))∨∃ob u,H a=some (.frz ob u)/\MB a xs ob
 k:∀x∈xs,qo K H x.2.1 (x.1.map V.int)
def fX (ks:bV):(kI ks).map kV=ks.map V.int:=by rw[aL];rfl
def KA {a b:bV}:kI a=kI b↔a=b:=List.map_inj_right λx y h=>by injection h
def NQ (ks:bV):tupleKeyHash (jx P w) (kI ks)=hT ks:=by
 unfold tupleKeyHash hT;rw[aL]
 rfl
theorem PZ.mem {z:List Int×Addr×Value}:∀{xs:List (List Int×Addr×V)}{zs:List (List Int×Addr×Value)},PZ xs zs->z∈zs->∃x∈xs,x.1=z.1/\x.2.1=z.2.1
 |_,_,.nil,h=>by cases h|_,_,.cons q t,h=>by
  rcases cz.mp h with rfl|h
  ·exact⟨_,ay ..,q.1,q.2.1⟩
  ·obtain⟨x,H,e⟩:=PZ.mem t h
   exact⟨x,aq _ H,e⟩
noncomputable def gr (xs:List (List Int×Addr×V))(k:bV):Option V:=(xs.find? λx=>decide (x.1=k)).map (·.2.2)
def PC {x:List Int×Addr×V}{k:bV}:gr (x::xs) k=if x.1=k then some x.2.2 else gr xs k:=by
 unfold gr;rw[find?_cons]
 by_cases h:x.1=k
 ·rw[az h,ag h];rfl
 ·rw[aD h,aj h]
def HM {z:List Int×Addr×Value}{zs:List (List Key×Addr×Value)}{k:bV}:atKey (zI z::zs) (kI k)=if z.1=k then some z.2 else atKey zs (kI k):=by
 unfold atKey;rw[find?_cons]
 by_cases h:z.1=k
 ·rw[show decide ((zI z).1=kI k)=true from az (KA.mpr h),ag h];rfl
 ·rw[show decide ((zI z).1=kI k)=false from aD λe=>h (KA.mp e),aj h]
theorem PZ.val (k:bV):∀{xs:List (List Int×Addr×V)}{zs:List (List Int×Addr×Value)},PZ xs zs->Qs (gr xs k) ((atKey (zs.map zI) (kI k)).map (·.2))
 |_,_,.nil=>trivial|_,_,.cons (a:=x) (b:=z) q t=>by
  rw[PC,aN,HM]
  by_cases h:x.1=k
  ·rw[ag h,ag (q.1 ▸ h)]
   exact q.2.2
  ·rw[aj h,aj (q.1 ▸ h)]
   exact PZ.val k t
section
variable {ks:bV}
def G5 (I:Inv X pins σ H s)(h:qo X.K H b (ks.map V.int)):(tupleKind (jx X.prog X.w)).is s.heap (kI ks) b:=by
 obtain⟨i,r,⟨o,d,c,n,a⟩,_⟩:=I.tuple h;exact⟨o,i.toArray,n,d,c,a,by simpa using Pl (ks:=kI ks) (by rw[fX];exact r)⟩
def TD.core (I:Inv X pins σ H s)(h:TD X.K H a xs):gD a xs s.heap:=by
 rcases h.s with e|⟨ob,u,e,d⟩
 ·exact(I.hok a _ e).1
 ·obtain⟨c,D,zs,p,E,b,r⟩:=d
  exact⟨c,D,zs,p,ob,E,b,(I.hok a _ e).1,r⟩
def TD.dict (I:Inv X pins σ H s)(h:TD X.K H a xs):∃zs,PZ xs zs/\s.heap.DictOfH (tupleKind (jx X.prog X.w)) a (zs.map zI)/\(a==sysModules)=false/\xs.length<=sizeLine:=by
 obtain⟨i,g,zs,p,o,E,j,f,b,hd,he,hn⟩:=h.core I;refine⟨zs,p,⟨o,E,j,f,b,hd,?_,λz c=>?_,?_⟩,i,g⟩
 ·rw[he,aL]
  refine a5 λx _=>?_;show _=(⟨tupleKeyHash (jx X.prog X.w) (kI x.1),.ref x.2.1,x.2.2⟩:DictEntry);rw[NQ]
 ·obtain⟨y,d,rfl⟩:=cy.mp c
  obtain⟨x,b,n,l⟩:=PZ.mem p d;show(tupleKind (jx X.prog X.w)).is s.heap (kI y.1) y.2.1;rw[<- n,<- l];exact G5 I (h.k x b)
 ·rw[aL,show((λx:List Key×Addr×Value=>x.1) ∘ zI)=kI ∘ (λx:List Int×Addr×Value=>x.1) from rfl,<- aL]
  exact List.Pairwise.map _ (λ_ _ h e=>h (KA.mp e)) hn
end
def fY (K:Frag)(td ty:TE):TE:=λσ H Q=>td σ H λx H1=>ty σ H1 λy h=>∃a xs b k v,x=.ref a/\y=.ref b/\TD K h a xs/\qo K h b (k.map V.int)/\gr xs k=some v/\Q v h
section
variable {o i:Expr}{td ty:TE}
def Bg (B:X.A.units+1<cLine)(D:PE X o td)(E:PE X i ty)(C:U2 i):PE X (.Subscript o i pos) (fY X.K td ty):=by
 intro pins s σ H Q I h;refine C4 PySem.F.slot_dict_getitem.lookup C (zZ (D pins s σ H _ I h) λu s1 g1=>?_);obtain⟨x,H1,M,j,l⟩:=g1;refine zZ (E pins s1 σ H1 _ M l) λt s2 g2=>?_;obtain⟨y,N,e,g,a,xs,b,k,v,rfl,rfl,d,L,w,q⟩:=g2;cases j;cases g;obtain⟨zs,p,dd,_,_⟩:=d.dict e;have r:=p.val k;rw[w]at r;obtain⟨z,n,f⟩:=r.some_of;obtain⟨c,J,rfl⟩:=Option.map_eq_some_iff.mp n;exact⟨dd.typeIs,wpAny_getItem_heap (tupleKind_room_in1 B) (G5 e L) dd J ⟨v,N,e.tok _,f,q⟩⟩
end
def gu (xs:List (List Int×Addr×V))(k:bV)(b:Addr)(v:V):List (List Int×Addr×V):=if (gr xs k).isSome=true then xs.map (λx=>if x.1=k then(x.1,x.2.1,v) else x) else xs++[(k,b,v)]
def Zi (zs:List (List Int×Addr×Value))(k:bV)(b:Addr)(v:Value):List (List Int×Addr×Value):=if (atKey (zs.map zI) (kI k)).isSome=true then zs.map (λx=>if x.1=k then(x.1,x.2.1,v) else x) else zs++[(k,b,v)]
def Bo (zs:List (List Int×Addr×Value))(k:bV)(b:Addr)(v:Value):storedH (zs.map zI) (kI k) b v=(Zi zs k b v).map zI:=by
 unfold storedH Zi
 by_cases h:(atKey (zs.map zI) (kI k)).isSome=true
 ·rw[ag h,ag h,aL,aL]
  refine a5 λx _=>?_;show putAt (kI k) v (zI x)=zI (if x.1=k then(x.1,x.2.1,v) else x);unfold putAt
  by_cases e:x.1=k
  ·rw[ag (show(zI x).1=kI k from KA.mpr e),ag e];rfl
  ·rw[aj (show ¬(zI x).1=kI k from λz=>e (KA.mp z)),aj e]
 ·rw[aj h,aj h,aR]
  rfl
def OA {k:bV}(p:PZ xs zs):(gr xs k).isSome=(atKey (zs.map zI) (kI k)).isSome:=by
 have r:=p.val k;cases e:gr xs k with
 |some v=>
  rw[e]at r;obtain⟨z,h,_⟩:=r.some_of;obtain⟨c,H,_⟩:=Option.map_eq_some_iff.mp h;rw[H];rfl
 |none=>
  rw[e]at r
  have:=r.none_of
  rw[Option.map_eq_none_iff]at this;rw[this];rfl
def PZ.put {k:bV}(r:RelV v u)(p:PZ xs zs):PZ (gu xs k b v) (Zi zs k b u):=by
 unfold gu Zi;rw[OA p (k:=k)]
 by_cases h:(atKey (zs.map zI) (kI k)).isSome=true
 ·rw[ag h,ag h]
  clear h
  induction p with
  |nil=>exact .nil|@cons x z l m q t i=>
   rw[aN,aN];refine .cons ?_ i
   by_cases e:x.1=k
   ·rw[ag e,ag (q.1 ▸ e)]
    exact⟨q.1,q.2.1,r⟩
   ·rw[aj e,aj (q.1 ▸ e)]
    exact q
 ·rw[aj h,aj h]
  clear h
  induction p with
  |nil=>exact .cons ⟨rfl,rfl,r⟩ .nil|cons q t i=>exact .cons q i
def DW (xs:List (List Int×Addr×V))(k:bV)(b:Addr)(v:V):(gu xs k b v).length<=xs.length+1:=by
 unfold gu
 split
 ·rw[ah];omega
 ·rw[ak];exact av _
def gD.keeps (d:gD a xs h)(k:∀o,h.get? a=some o->h'.get? a=some o):gD a xs h':=by
 obtain⟨c,b,zs,p,o,e,E,H,r⟩:=d;exact⟨c,b,zs,p,o,e,E,k o H,r⟩
def AQ (d:gD a xs h):jh P w H h a (.ext (gD a xs)):=by
 obtain⟨e,c,zs,p,o,E,f,b,r⟩:=id d;exact⟨d,⟨o,b⟩,λ_ _ d k=>d.keeps k⟩
def keyT?:W->Option (bV)
 |.tup ws=>intsOf ws|_=>none
noncomputable def kF (k:bV):List (List Int×W)->Option W
 |[]=>none|(j,w)::r=>if j=k then some w else kF k r
noncomputable def Q8:O->Option (List (List Int×W))
 |.td kvs=>some kvs|.tr kvs=>some kvs|_=>none
section
variable {K:Frag}{b:Expr}
def VC {w:W}{k:bV}(q:RV K φ H w v)(e:keyT? w=some k):∃b,v=.ref b/\qo K H b (k.map V.int):=by
 cases w with
 |tup ws=>
  obtain⟨b,vs,rfl,h,r⟩:=q;rw[WR (show intsOf ws=some k from e)]at r
  rw[<- zD.ints.mp r];exact⟨b,rfl,h⟩
 |_=>cases e
theorem WW (k:bV):∀{kvs:List (List Int×W)}{xs:List (List Int×Addr×V)},xs.map (·.1)=kvs.map (·.1)->zD K φ H (kvs.map (·.2)) (xs.map (·.2.2))->
  (∀w,kF k kvs=some w->∃v,gr xs k=some v/\RV K φ H w v)/\(kF k kvs=none->gr xs k=none)
 |[],[],_,_=>⟨λw h=>(by cases h),λ_=>rfl⟩|[],_::_,h,_=>by simp at h|_::_,[],h,_=>by simp at h|(j,w)::kvs,x::xs,h,r=>by
  simp only[aN,List.cons.injEq]at h;obtain⟨f,g,e,c,b⟩:=r;simp only[aN,List.cons.injEq]at e;obtain⟨rfl,rfl⟩:=e;have i:=WW k h.2 b;rw[PC,h.1];unfold kF
  by_cases a:j=k
  ·rw[ag a,ag a]
   exact⟨λd hw=>by cases hw;exact⟨_,rfl,c⟩,λz=>by cases z⟩
  ·rw[aj a,aj a]
   exact i
def zN.tdr (S:zN K φ A H)(q:RV K φ H (.ref n) v)(e:A[n]? =some o)(E:Q8 o=some kvs):
  ∃p xs,v=.ref p/\φ[n]? =some p/\TD K H p xs/\xs.map (·.1)=kvs.map (·.1)/\zD K φ H (kvs.map (·.2)) (xs.map (·.2.2)):=by
 obtain⟨p,rfl,f⟩:=q;obtain⟨P,g,r⟩:=S.ob n _ e;rw[f]at g;cases g;cases o with
 |td k=>
  cases E;obtain⟨xs,c,b,a,h⟩:=r;exact⟨p,xs,rfl,f,⟨.inl c,a⟩,b,h⟩
 |tr k=>
  cases E;obtain⟨ob,u,xs,c,d,b,a,h⟩:=r;exact⟨p,xs,rfl,f,⟨.inr ⟨ob,u,c,d⟩,a⟩,b,h⟩
 |_=>cases E
def kD:W->W->Hx->R W:=λd k A=>match d,keyT? k with
 |.ref n,some k=>match (A[n]?).bind Q8 with
  |some kvs=>match kF k kvs with
   |some w=>.ok w A|none=>.bad
  |none=>.bad
 |_,_=>.bad
def OZ (h:(A[n]?).bind Q8=some kvs):∃o,A[n]? =some o/\Q8 o=some kvs:=Option.bind_eq_some_iff.mp h
def Qh (kvs:List (List Int×W))(k:bV)(v:W):List (List Int×W):=if (kF k kvs).isSome=true then kvs.map (λx=>if x.1=k then(x.1,v) else x) else kvs++[(k,v)]
theorem Pq (k:bV){w:W}(q:RV K φ H w v):∀{kvs:List (List Int×W)}{xs:List (List Int×Addr×V)},xs.map (·.1)=kvs.map (·.1)->zD K φ H (kvs.map (·.2)) (xs.map (·.2.2))->
  (xs.map (λx=>if x.1=k then(x.1,x.2.1,v) else x)).map (·.1)=(kvs.map (λx=>if x.1=k then(x.1,w) else x)).map (·.1)/\zD K φ H ((kvs.map (λx=>if x.1=k then(x.1,w) else x)).map (·.2)) ((xs.map (λx=>if x.1=k then(x.1,x.2.1,v) else x)).map (·.2.2))
 |[],[],_,r=>⟨rfl,r⟩|[],_::_,h,_=>by simp at h|_::_,[],h,_=>by simp at h|y::kvs,x::xs,h,r=>by
  simp only[aN,List.cons.injEq]at h;obtain⟨d,f,e,c,b⟩:=r;simp only[aN,List.cons.injEq]at e;obtain⟨rfl,rfl⟩:=e;obtain⟨I,i⟩:=Pq k q h.2 b;simp only[aN];rw[I,h.1]
  by_cases a:y.1=k
  ·rw[ag a,ag a]
   exact⟨rfl,⟨v,_,rfl,q,i⟩⟩
  ·rw[aj a,aj a]
   exact⟨by rw[h.1],⟨x.2.2,_,rfl,c,i⟩⟩
def Dq {k:bV}{b:Addr}{P:Addr->List Int->Prop}(h:∀x∈xs,P x.2.1 x.1)(c:P b k):∀x∈gu xs k b v,P x.2.1 x.1:=by
 intro x H;unfold gu at H
 split at H
 ·obtain⟨y,a,rfl⟩:=cy.mp H
  split
  ·exact h y a
  ·exact h y a
 ·rcases cE.mp H with H|H
  ·exact h x H
  ·rw[cC.mp H];exact c
def fZ {d:Addr}(dd:h.DictOfH (tupleKind (jx P w)) d (zs.map zI))(p:PZ xs zs)(hd:(d==sysModules)=false)(l:xs.length<=sizeLine):gD d xs h:=by
 obtain⟨a,E,g,hw,f,c,b,_,H⟩:=dd;refine⟨hd,l,zs,p,a,E,g,hw,f,c,?_,?_⟩
 ·rw[b,aL]
  refine a5 λx _=>?_;show(⟨tupleKeyHash (jx P w) (kI x.1),.ref x.2.1,x.2.2⟩:DictEntry)=_;rw[NQ]
 ·rw[aL,show((λx:List Key×Addr×Value=>x.1) ∘ zI)=kI ∘ (λx:List Int×Addr×Value=>x.1) from rfl,<- aL]at H
  exact(List.pairwise_map.mp H).imp λh e=>h (by rw[e])
end
def Iv:typeLookup (.type "list") "keys"=pure none:=by rw[typeLookup_type,builtinLookup_eq_fast];kernel_rfl
def HJ:typeLookup (.type "list") "__getattr__"=pure none:=by rw[typeLookup_type,builtinLookup_eq_fast];kernel_rfl
section
variable {prog:Program}{A:Around}{g:Array GenState}{d:Drawn}{t:Nat}{os:OsState}{its:Array Value}{sl:Array (Option Value)}{tk:Tok}
def HS {Q:Fin->Shared->Prop}(H:h.get? a=some ⟨.type "list",none,.seq its n,sl⟩)(b:A.handled=none)
  (q:∀h' t' e,Heap.NewAttrErr h h' e (.ref a) "keys" -> E (.ref e) ⟨h',g,d,t',os⟩):
  wpAny (model prog w) A (Builtin.«object.__getattribute__» ⟨[.ref a,.str "keys" tk],[]⟩) Q E ⟨h,g,d,t,os⟩:=by
 have hT:(⟨h,g,d,t,os⟩:Shared).TypeIs (.ref a) "list":=⟨_,H,rfl⟩;have f4:=Iv
 repeat (any_goals (first|assumption|wp_step))
 exact wpAny_raiseAttrError b q (attrMsg_fits (by decide +kernel) (by size_fits))
def Ct (H:h.get? a=some ⟨.type "list",none,.seq its n,sl⟩)(b:A.handled=none)
  (q:∀h' t' e,Heap.NewAttrErr h h' e (.ref a) "keys" -> E (.ref e) ⟨h',g,d,t',os⟩):wpAny (model prog w) A (getAttrBy (.ref a) (.str "keys" tk) false) Q E ⟨h,g,d,t,os⟩:=by
 have hT:(⟨h,g,d,t,os⟩:Shared).TypeIs (.ref a) "list":=⟨_,H,rfl⟩;have f1:=sub_AttributeError;have f2:=F.slot_list_getattribute.lookup;have c:=F.slot_list_getattribute.bind (.ref a);have f:=HJ
 repeat (any_goals (first|assumption|wp_step))
 refine codeAny_call_builtin F.slot_list_getattribute.plain F.entry_list_ga (F.slot_list_getattribute.check _ _ _ _ _ _ _ _ (show(⟨h,g,d,t,os⟩:Shared).TypeIs (.ref a) "list" from ⟨_,H,rfl⟩) (F.args_list_getattribute_2 _ _) (HS H b λh' t' e z=>?_))
 obtain⟨T,u,he⟩:=z.there
 repeat (any_goals (first|assumption|wp_step))
 exact q _ _ _ z
def Ef {Q:Option Value->Shared->Prop}(H:h.get? a=some ⟨.type "list",none,.seq its n,sl⟩)(c:A.handled=none)
  (q:∀h' t',(∀b z,h.get? b=some z->h'.get? b=some z)->Q none ⟨h',g,d,t',os⟩):wpAny (model prog w) A (getAttr? (.ref a) "keys") Q E ⟨h,g,d,t,os⟩:=by
 unfold getAttr? getAttrBy?;have f1:=sub_AttributeError
 repeat (any_goals (first|assumption|(with_reducible refine Ct H c λh' t' e z=>?_)|wp_step))
 obtain⟨T,u,he⟩:=z.there
 repeat (any_goals (first|assumption|wp_step))
 exact q _ _ z.keeps
end
def WJ:plainId "dict.update.loop"=true:=by decide +kernel
def RO:entryFor table "dict.update.loop"=some Builtin.«dict.update.loop»:=entryFor_of_fast (by kernel_rfl)
noncomputable abbrev Pt:=Addr×List Int×Addr×Value
def Uu (zs:List (List Int×Addr×Value))(ts:List Pt):List (List Int×Addr×Value):=ts.foldl (λzs t=>Zi zs t.2.1 t.2.2.1 t.2.2.2) zs
def Fh {k:bV}{v:Value}{P:Addr->Prop}(h:∀z∈zs,P z.2.1)(c:P b):∀z∈Zi zs k b v,P z.2.1:=by
 intro z H;unfold Zi at H
 split at H
 ·obtain⟨y,a,rfl⟩:=cy.mp H
  split
  ·exact h y a
  ·exact h y a
 ·rcases cE.mp H with H|H
  ·exact h z H
  ·rw[cC.mp H];exact c
def ER (zs:List (List Int×Addr×Value))(k:bV)(b:Addr)(v:Value):(Zi zs k b v).length<=zs.length+1:=by
 unfold Zi
 split
 ·rw[ah];omega
 ·rw[ak];exact av _
section
variable {prog:Program}{A:Around}{R:Result->Shared->Prop}{I:Addr}{wr:bY}{G:Array GenState->Array GenState->Prop}{P:Nat->Value->Prop}{St:Nat->Shared->Prop}
def WX {k:bV}(x:(tupleKind (jx prog w)).is h (kI k) b)(kp:∀o,h.get? b=some o->h'.get? b=some o):(tupleKind (jx prog w)).is h' (kI k) b:=
 let ⟨o,items,n,e,r⟩:=x
 ⟨o,items,n,kp o e,r⟩
def V4 (x:h.DictOfH (tupleKind (jx prog w)) D (zs.map zI))(K:∀o,h.get? D=some o->h'.get? D=some o)(kp:∀z∈zs,∀o,h.get? z.2.1=some o->h'.get? z.2.1=some o):h'.DictOfH (tupleKind (jx prog w)) D (zs.map zI):=by
 obtain⟨o,E,p,g,f,e,d,c,b⟩:=x;refine⟨o,E,p,K o g,f,e,d,λy H=>?_,b⟩;obtain⟨z,a,rfl⟩:=cy.mp H;exact WX (k:=z.1) (c _ H) (kp z a)
def EE (W:WalksS prog w A.in1 I fp wr G n P St)(D:Addr)(J:D∉fp)(hu:A.units+8<cLine)(ts:List Pt)(l:∀i v,P i v->∃t,ts[i]? =some t/\v=.ref t.1)(hts:ts.length=n)(d:∀t∈ts,t.1∉D::wr/\t.2.2.1∉D::wr):
  ∀(k i:Nat)(s:Shared)(zs:List (List Int×Addr×Value)),n-i=k->i<=n->St i s->s.heap.DictOfH (tupleKind (jx prog w)) D (zs.map zI)->(∀z∈zs,z.2.1∉D::wr)->
   (∀t∈ts,s.heap.IsTuple t.1 #[.ref t.2.2.1,t.2.2.2]/\(tupleKind (jx prog w)).is s.heap (kI t.2.1) t.2.2.1)->zs.length+k<=sizeLine->
   (∀s',Moved (D::wr) G s s'->s'.heap.DictOfH (tupleKind (jx prog w)) D ((Uu zs (ts.drop i)).map zI)->R (.ok (.ret .none)) s')->
   codeAny (model prog w) A (.builtin "dict.update.loop" ⟨[.ref D,.ref I,rawInt i,.none],[]⟩) R s:=by
 have C:D∉wr:=λh=>J (W.sub _ h);have H:∀b∈wr,b∈D::wr:=λb B=>aq _ B;intro k
 induction k with
 |zero=>
  intro i s zs hk hi f Z N u hl X;have U:i=n:=by omega
  subst U;refine codeAny_builtin RO ?_;rw[Around.under_plainId WJ _];show wpAny _ A.in1 (pyNext (.ref I) >>= _) _ _ s;refine cw (W.done s _ _ f λs' hm=>?_);show wpAny _ _ (Builtin.Dict.addKeywords D [] >>= _) _ _ _;refine cw (cx (cx (X s' (hm.mono H) ?_)));rw[List.drop_of_length_le (by omega)]
  exact V4 Z (λo e=>hm.heap D _ C e) λz c o e=>hm.heap _ _ (λq=>N z c (H _ q)) e
 |succ k ih=>
  intro i s zs hk hi f Z N u hl X;have r:i<n:=by omega
  refine codeAny_builtin RO ?_;rw[Around.under_plainId WJ _];show wpAny _ A.in1 (pyNext (.ref I) >>= _) _ _ s;refine cw (W.item i s _ _ r f λv s' hP j hm=>?_);obtain⟨t,et,rfl⟩:=l i v hP;have mt:=bL et;have Y:=V4 Z (λo e=>hm.heap D _ C e) λz c o e=>hm.heap _ _ (λq=>N z c (H _ q)) e;have g:∀t∈ts,s'.heap.IsTuple t.1 #[.ref t.2.2.1,t.2.2.2]/\(tupleKind (jx prog w)).is s'.heap (kI t.2.1) t.2.2.1:=λt T=>by
   obtain⟨⟨o,E,L⟩,y⟩:=u t T;exact⟨⟨o,hm.heap _ _ (λq=>(d t T).1 (H _ q)) E,L⟩,WX y λo e=>hm.heap _ _ (λq=>(d t T).2 (H _ q)) e⟩
  obtain⟨⟨o,E,L,nn,e3⟩,x⟩:=g t mt;have hT:s'.TypeIs (.ref t.1) "tuple":=⟨o,E,L⟩;show wpAny _ _ (holding [Value.ref t.1] _ >>= _) _ _ _;refine cw (wpAny_holding (cw (wpAny_tryCatch ?_)));unfold Builtin.Dict.pairItems;refine cw (wpAny_typeOf hT ?_);rw[ag (by decide)]
  refine cw (wpAny_seqItems E e3 (cx ?_));show wpAny _ _ (holding [Value.ref t.2.2.1,t.2.2.2] (dictSet D (.ref t.2.2.1) t.2.2.2)) _ _ _;refine wpAny_holding (wpAny_dictSet_heap (hsz:=by rw[ah];omega) (knd:=tupleKind (jx prog w)) ?_ x Y λh' M Q=>?_)
  ·show A.units+1<cLine
   omega
  ·rw[Bo]at M
   have hnz:=ER zs t.2.1 t.2.2.1 t.2.2.2;refine cx ⟨plainId_quiet WJ _,ih (i+1) _ (Zi zs t.2.1 t.2.2.1 t.2.2.2) (by omega) r (W.frame _ s' _ _ j ?_ λb B o e=>(Q.2 b λq=>J (q ▸ B)).trans e) M (Fh (P:=λb=>b∉D::wr) N (d t mt).2) (λt' a=>?_) (by omega) λS p K=>?_⟩
   ·exact bF _ _
   ·obtain⟨⟨o,E,L⟩,y⟩:=g t' a
    exact⟨⟨o,(Q.2 _ λq=>(d t' a).1 (q ▸ ay ..)).trans E,L⟩,WX y λo e=>(Q.2 _ λq=>(d t' a).2 (q ▸ ay ..)).trans e⟩
   ·refine X S (Moved.trans W.gtrans ((hm.mono H).then_heap ?_ λb o B e=>(Q.2 b λq=>B (q ▸ ay ..)).trans e) p) ?_
    ·exact bF _ _
    ·rw[bw (by omega)]
     have:ts[i]=t:=by rw[aa (by omega)]at et;exact aB et
     rw[this];exact K
def HB {p:Addr}{c:Nat}{ts:List Pt}(C:A.handled=none)(N:A.units+16<cLine)(hp:s.heap.get? p=some (wZ (ts.map λt=>Value.ref t.1).toArray c))(D:ts.length<=zR)
  (B:∀t∈ts,s.heap.IsTuple t.1 #[.ref t.2.2.1,t.2.2.2]/\(tupleKind (jx prog w)).is s.heap (kI t.2.1) t.2.2.1)
  (h:∀(h':Heap)(tk:Nat),h'.DictOfH (tupleKind (jx prog w)) s.heap.objs.size ((Uu [] ts).map zI)->(∀b o,s.heap.get? b=some o->h'.get? b=some o)->Q (.ref s.heap.objs.size) { s with heap:=h',toks:=tk }):
  wpAny (model prog w) A (call (.type "dict") [.ref p]) Q E s:=by
 refine callType_codes (Q₁:=λobj S=>obj=.ref s.heap.objs.size/\S={ s with heap:=s.heap.push { cls:=.type "dict",data:=.dict #[] } }) F.kt_called_dict (F.kt_typeCall_dict_1 _) F.entry_dict_init (kt_code_dict_new _ ⟨rfl,rfl⟩) ?_
 rintro obj S ⟨rfl,rfl⟩
 have H:(s.heap.push { cls:=.type "dict",data:=.dict #[] }).DictOfH (tupleKind (jx prog w)) s.heap.objs.size (([]:List (List Int×Addr×Value)).map zI):=Heap.DictOfH.new s.heap;have d:=ae { cls:=.type "dict",data:=.dict #[] } hp;refine⟨H.typeIs,F.args_dict_init_2 _ _,?_⟩;unfold Builtin.«dict.__init__»;refine cw ?_;unfold Builtin.Dict.selfAndRest;refine cw (wpAny_notOrdered_dict H.typeIs ?_);show wpAny _ _ (pure (s.heap.objs.size,[Value.ref p])) _ _ _;refine cx ?_;show wpAny _ _ (Builtin.Dict.updateFrom "dict.__init__" s.heap.objs.size (.ref p) [] .none) _ _ _;unfold Builtin.Dict.updateFrom;refine cw (wpAny_typeOf (T := "list") ⟨_,d,rfl⟩ ?_);rw[ag (by decide)]
 refine cw (Ef d C λj t1 k1=>?_);show wpAny _ _ (rule _ >>= λ_=>pyIter (.ref p) >>= λit=>again (.builtin "dict.update.loop" ⟨[.ref s.heap.objs.size,it,rawInt 0,.none],[]⟩)) _ _ _;refine cw (wpAny_rule (cw (wpAny_pyIter_list (show Heap.IsList j p _ from ⟨_,k1 _ _ d,rfl,c,rfl⟩) (cx ⟨plainId_quiet WJ _,?_⟩))))
 have L:p<s.heap.objs.size:=aF hp;have l:s.heap.objs.size<j.objs.size:=aF (k1 _ _ (au _ rfl));have kk:∀b o,s.heap.get? b=some o->j.get? b=some o:=λb o e=>k1 b o (ae _ e);generalize g:({ cls:=.type "list_iterator",data:=.fields #[.ref p,.int 0 0] }:Obj)=io;have W:=(Walks.list (prog:=prog) (w:=w) (A:=A.in1.in1) C j.objs.size p (aK (lt_trans L l)) (ts.map λt=>Value.ref t.1).toArray).toS;have r:(ts.map λt=>Value.ref t.1).toArray.size=ts.length:=by simp
 rw[r]at W;have q:(j.push io).get? j.objs.size=some io:=au _ (by rw[<- g];rfl)
 have f:∀b o,s.heap.get? b=some o->b∉s.heap.objs.size::[j.objs.size]:=λb o e hm=>by
  have x:=aF e;rcases cz.mp hm with z|z
  ·exact aK x z
  ·exact aK (lt_trans x l) (cC.mp z)
 refine EE (A:=A.in1) W s.heap.objs.size (λhm=>?_) (show A.units+1+8<cLine by omega) ts (λi v e=>?_) rfl (λt a=>?_) ts.length 0 _ [] (by omega) (zero_le _)
  ⟨⟨io,q,by rw[<- g],by rw[<- g];rfl⟩,⟨_,ae _ (kk _ _ hp),rfl,c,rfl⟩⟩ (V4 H (λo e=>ae _ (k1 _ _ e)) λz n=>(by cases n)) (λz n=>(by cases n)) (λt a=>?_) ?_ λs' hm I=>⟨rfl,?_⟩
 ·rcases cz.mp hm with z|z
  ·exact aK l z
  ·exact bq L (cC.mp z)
 ·have k:(ts.map λt=>Value.ref t.1)[i]? =some v:=by simpa using e
  rw[ax]at k;obtain⟨t,K,J⟩:=Option.map_eq_some_iff.mp k;exact⟨t,K,J.symm⟩
 ·obtain⟨⟨o,u,_⟩,⟨M,_,_,k,_⟩⟩:=B t a
  exact⟨f _ _ u,f _ _ k⟩
 ·obtain⟨⟨o,u,k⟩,y⟩:=B t a
  exact⟨⟨o,ae _ (kk _ _ u),k⟩,WX y λo e=>ae _ (kk _ _ e)⟩
 ·have:=g8 D
  simpa using this
 ·rw[Moved.eq_with hm]
  refine h _ _ I λb o e=>hm.heap b o (f b o e) (ae _ (kk _ _ e))
end
section
variable {a b:Expr}{K:Frag}
noncomputable abbrev Px:=Addr×List Int×Addr×V
def ZS (xs:List (List Int×Addr×V))(ts:List Px):List (List Int×Addr×V):=ts.foldl (λxs t=>gu xs t.2.1 t.2.2.1 t.2.2.2) xs
def UB (K:Frag)(H:Hp)(t:Px):Prop:=qo K H t.1 [.ref t.2.2.1,t.2.2.2]/\qo K H t.2.2.1 (t.2.1.map V.int)
def NG (K:Frag):List V->Hp->VK->Prop:=λxs H Q=>∃(p:Addr) (ts:List Px),xs=[.ref p]/\H p=some (.lst (ts.map λt=>V.ref t.1))/\(∀t∈ts,UB K H t)/\ts.length<=zR/\∀l,H l=none->Q (.ref l) (upd H l (.ext (gD l (ZS [] ts))))
theorem Ou:∀{ts:List Px}{us:bX},Vals (ts.map λt=>V.ref t.1) us->us=(ts.map (·.1)).map Value.ref
 |[],_,h=>by cases h;rfl|t::ts,_,h=>by
  cases h with
  |cons r q=>cases r;rw[Ou q];rfl
theorem OC:∀{ts:List Px}{ps:List Pt}{xs:List (List Int×Addr×V)}{zs:List (List Int×Addr×Value)},Paired (λ(t:Px) (p:Pt)=>t.1=p.1/\t.2.1=p.2.1/\t.2.2.1=p.2.2.1/\RelV t.2.2.2 p.2.2.2) ts ps->PZ xs zs->PZ (ZS xs ts) (Uu zs ps)
 |_,_,_,_,.nil,h=>h|_,_,_,_,.cons (a:=t) (b:=p) ⟨c,E,e,r⟩ q,h=>by
  refine OC (xs:=gu _ t.2.1 t.2.2.1 t.2.2.2) (zs:=Zi _ p.2.1 p.2.2.1 p.2.2.2) q ?_;rw[E,e];exact h.put r
theorem Pa:∀(ts:List Px)(xs:List (List Int×Addr×V)),(ZS xs ts).length<=xs.length+ts.length
 |[],xs=>av _|t::ts,xs=>by
  have H:=Pa ts (gu xs t.2.1 t.2.2.1 t.2.2.2);have h:=DW xs t.2.1 t.2.2.1 t.2.2.2;show(ZS (gu xs t.2.1 t.2.2.1 t.2.2.2) ts).length<=_;rw[bb];omega
def HP (S:X.calm=true)(P:jv k X.A):yt X (.type "dict") (NG X.K):=by
 intro pins s σ H xs us Q I r h;obtain⟨p,ts,rfl,hp,N,l,q⟩:=h;obtain⟨u,rfl,i⟩:=vals1 r;cases i;obtain⟨_,J,np,z,_,E⟩:=I.lstM hp;have b:=Ou z;subst b;have hex:∀T:List Px,(∀t∈T,UB X.K H t)->∃ps:List Pt,Paired (λ(t:Px) (p:Pt)=>t.1=p.1/\t.2.1=p.2.1/\t.2.2.1=p.2.2.1/\RelV t.2.2.2 p.2.2.2) T ps/\T.map (·.1)=ps.map (·.1)/\∀t∈ps,s.heap.IsTuple t.1 #[.ref t.2.2.1,t.2.2.2]/\(tupleKind (jx X.prog X.w)).is s.heap (kI t.2.1) t.2.2.1:=by
  intro T
  induction T with
  |nil=>intro _;exact⟨[],.nil,rfl,λt h=>(by cases h)⟩|cons t T L=>
   intro hm;obtain⟨ps,d,g,f⟩:=L λx M=>hm x (aq _ M);obtain⟨g1,g2⟩:=hm t (ay ..);obtain⟨D,j,⟨o,Z,Y,n,U⟩,_⟩:=I.tuple g1;obtain⟨u,v,rfl,C,B⟩:=Vals.two j;cases C;refine⟨(t.1,t.2.1,t.2.2.1,v)::ps,.cons ⟨rfl,rfl,rfl,B⟩ d,by simp[g],λy e=>?_⟩
   rcases cz.mp e with rfl|e
   ·exact⟨⟨o,Z,Y,n,U⟩,G5 I g2⟩
   ·exact f y e
 obtain⟨ps,d,g,f⟩:=hex ts N;rw[g]at E;have hlen:ts.length=ps.length:=d.length;refine HB (I.ok.hd S) (by have:=P.units;omega) (ts:=ps) (c:=np) (by rw[aL]at E;exact E) (by rw[<- hlen];exact l) f λh' tk dd kp=>?_
 refine⟨.ref s.heap.objs.size,_,I.laid (a:=s.heap.objs.size) (t':=tk) (o:=.ext (gD s.heap.objs.size (ZS [] ts))) kp (av _) (AQ (fZ dd (OC d .nil) (beq_eq_false_iff_ne.mpr (Ne.symm (aK I.big))) ?_)),rfl,q _ (I.hok.fresh (av _))⟩
 have:=Pa ts []
 have:=g8 l
 simp at*;omega
def pairsOf:List W->Option (List (List Int×W))
 |[]=>some []|.tup [k,v]::us=>match keyT? k,pairsOf us with
  |some k,some r=>some ((k,v)::r)|_,_=>none
 |_::_=>none
def wN (kvs ps:List (List Int×W)):List (List Int×W):=ps.foldl (λkvs p=>Qh kvs p.1 p.2) kvs
def gK:W->Hx->R W:=λx A=>match x with
 |.ref n=>match A[n]? with
  |some (.lst us)=>match pairsOf us with
   |some ps=>if ps.length<=zR then .ok (.ref A.length) (A++[.td (wN [] ps)]) else .bad|none=>.bad
  |_=>.bad
 |_=>.bad
def Ey:∀x A,qR (gK x A):=λx A=>by
 unfold gK
 split
 ·split
  ·split
   ·exact Zd jY qP
   ·exact qP
  ·exact qP
 ·exact qP
def Bs {k:bV}{b:Addr}{w:W}(q:RV K φ H w v)(g2:xs.map (·.1)=kvs.map (·.1))(g3:zD K φ H (kvs.map (·.2)) (xs.map (·.2.2))):
  (gu xs k b v).map (·.1)=(Qh kvs k w).map (·.1)/\zD K φ H ((Qh kvs k w).map (·.2)) ((gu xs k b v).map (·.2.2)):=by
 have r:=WW k g2 g3;have h:(gr xs k).isSome=(kF k kvs).isSome:=by
  cases ev:kF k kvs with
  |none=>rw[r.2 ev];rfl|some w=>obtain⟨d,c,_⟩:=r.1 w ev;rw[c];rfl
 unfold gu Qh;rw[h]
 by_cases a:(kF k kvs).isSome=true
 ·rw[ag a,ag a]
  exact Pq k q g2 g3
 ·rw[aj a,aj a]
  refine⟨by simp[g2],?_⟩
  rw[aR,aR];exact g3.append (.one q)
theorem RK {A:Hx}:∀{us:List W}{ps:List (List Int×W)}{vs:List V},pairsOf us=some ps->zD K φ H us vs->∃ts:List Px,vs=ts.map (λt=>V.ref t.1)/\(∀t∈ts,UB K H t)/\ts.length=ps.length/\
   ∀{kvs:List (List Int×W)}{xs:List (List Int×Addr×V)},xs.map (·.1)=kvs.map (·.1)->zD K φ H (kvs.map (·.2)) (xs.map (·.2.2))->(∀x∈xs,qo K H x.2.1 (x.1.map V.int))->(ZS xs ts).map (·.1)=(wN kvs ps).map (·.1)/\zD K φ H ((wN kvs ps).map (·.2)) ((ZS xs ts).map (·.2.2))/\∀x∈ZS xs ts,qo K H x.2.1 (x.1.map V.int)
 |[],_,_,e,h=>by cases e;cases h;exact⟨[],rfl,λl g=>(by cases g),rfl,λd n i=>⟨d,n,i⟩⟩|u::us,ps,_,e,⟨v,r,w,h,t⟩=>by
  subst w;unfold pairsOf at e
  split at e
  ·cases ‹_::_=[]›
  ·rename_i L I U s
   cases s
   split at e
   ·rename_i k J p o
    cases e;obtain⟨b,vs,rfl,d,f⟩:=h;obtain⟨x1,_,rfl,Q,x2,_,rfl,q,z⟩:=f;cases z;obtain⟨c,rfl,E⟩:=VC Q p;obtain⟨ts,rfl,g1,g2,g3⟩:=RK (A:=A) o t;refine⟨(b,k,c,x2)::ts,rfl,λy a=>?_,by simp[g2],λa1 a2 D=>?_⟩
    ·rcases cz.mp a with rfl|a
     ·exact⟨d,E⟩
     ·exact g1 y a
    ·obtain⟨C,B⟩:=Bs (k:=k) (b:=c) q a1 a2
     exact g3 C B (Dq (v:=x2) (P:=λc j=>qo K H c (j.map V.int)) D E)
   ·cases e
  ·cases e
def FK:Wd K (λv=>NG K [v]) gK:=λφ A H x u Q S q p=>by
 unfold gK at p;cases u with
 |ref n=>
  dsimp only at p;cases e:A[n]? with
  |none=>rw[e]at p;exact p.elim|some o=>cases o with
   |lst us=>
    rw[e]at p;dsimp only at p;cases E:pairsOf us with
    |none=>rw[E]at p;exact p.elim|some ps=>
     rw[E]at p;dsimp only at p
     by_cases c:ps.length<=zR
     ·rw[ag c]at p
      obtain⟨P,xs,rfl,_,hp,r⟩:=S.lst q e;obtain⟨ts,rfl,g,f,d⟩:=RK (A:=A) E r;refine⟨P,ts,rfl,hp,g,by rw[f];exact c,λl a=>?_⟩
      obtain⟨g1,g2,g3⟩:=d (kvs:=[]) (xs:=[]) rfl .nil λ_ h=>(by cases h)
      have ln:Le K φ H (φ++[l]) (upd H l (.ext (gD l (ZS [] ts)))):=Le.alloc a;obtain⟨L,s⟩:=S.alloc (o:=.td (wN [] ps)) a (u:=.ext (gD l (ZS [] ts))) ⟨_,jA,g1,λx b=>ln.tp _ _ (g3 x b),g2.mono ln⟩;exact p _ _ _ L s ⟨l,rfl,by rw[<- S.len];simp⟩
     ·rw[aj c]at p;exact p.elim
   |_=>rw[e]at p;exact p.elim
 |_=>exact p.elim
def N4 (K:Frag):R2:=λx y H Q=>∃a xs b k,x=.ref b/\y=.ref a/\TD K H a xs/\qo K H b (k.map V.int)/\Q (.bl (gr xs k).isSome) H
def f5 (e:X.A.units+1<cLine):qY X (compareOp .In) (N4 X.K):=by
 intro pins s σ H x y v u Q I c r h;obtain⟨a,xs,b,k,rfl,rfl,d,E,q⟩:=h;cases c;cases r;obtain⟨zs,p,dd,hd,_⟩:=d.dict I;refine wpAny_in_heap (tupleKind_room_in1 e) (G5 I E) hd dd ⟨.bl _,H,I.tok _,?_,q⟩;rw[OA p (k:=k)]
 rfl
def Qq:W->W->Hx->R W:=λk d A=>match d,keyT? k with
 |.ref n,some k=>match (A[n]?).bind Q8 with
  |some kvs=>.ok (.bl (kF k kvs).isSome) A|none=>.bad
 |_,_=>.bad
def AH:∀x y A,qR (Qq x y A):=λx y A=>by
 unfold Qq
 split
 ·split
  ·exact jY
  ·exact qP
 ·exact qP
def By:yx K (N4 K) Qq:=λφ A H x y u v Q S a q p=>by
 unfold Qq at p;cases v with
 |ref n=>
  cases e:keyT? u with
  |none=>rw[e]at p;exact p.elim|some k=>
   rw[e]at p;dsimp only at p;cases E:(A[n]?).bind Q8 with
   |none=>rw[E]at p;exact p.elim|some kvs=>
    rw[E]at p;dsimp only at p;obtain⟨o,f,t⟩:=OZ E;obtain⟨c,xs,rfl,f1,d,g2,g3⟩:=S.tdr q f t;obtain⟨B,rfl,g⟩:=VC a e;have r:=WW k g2 g3;have h:(gr xs k).isSome=(kF k kvs).isSome:=by
     cases ev:kF k kvs with
     |none=>rw[r.2 ev];rfl|some w=>obtain⟨i,b,_⟩:=r.1 w ev;rw[b];rfl
    refine⟨c,xs,B,k,rfl,rfl,d,g,?_⟩;rw[h];exact p φ H _ .refl S rfl
 |_=>exact p.elim
def f6 (h:jv k X.A):KS X .In Qq:=⟨_,f5 (NZ h),AH,By⟩
end
@[irreducible] noncomputable def Xk (X:Cx)(x:XR)(e:cc)(ms:List Ev):Prop:=Mi.SJ X x e ms
def NB:@Xk=@Mi.SJ:=by
 funext X xr es ms
 unfold Xk
 rfl
section
def yI:@zA=@Mi.SE/\@gC=@Mi.SA/\@yR=@Mi.ST/\@gR=@Mi.SW/\@kO=@Mi.SS/\@wa=@Mi.K8/\@wj=@Mi.SI/\@wg=@Mi.SG/\@Qz=@Mi.SF/\@gY=@Mi.SQ/\@Zk=@Mi.YV/\@gZ=@Mi.SM/\@Xk=@Mi.SJ:=⟨Gz,Us,Ut,Ue,Ur,VN,Up,V8,V7,V9,VV,Uc,NB⟩
def Yl {g:Heap}{E:cc}{f:Fn}{M:Ea}(o:Zn X g xr)(F:yC X.prog X.w X.K X.mg X.base k x n f)(i:jv k X.A)(B:gC X xr (e::E) M)(j:Qo M n:=by repeat' (first|exact zJ|refine zp ?_))(t:Gl X x:=by rfl)
  (c:(x==("__debug__":Str))=false:=by decide)(he:starEach (e::E) X.env=(false,eval e X.env)::starEach E X.env:=by rfl)(l:(backTo pos (starEach E X.env)).any (·.1)=false:=by rfl):
  zA X xr (.Call (.Name x p) (e::E) [] pos) (zF f M):=by
 try simp only[yI]at*
 obtain⟨P,fd,ps,F,hm,s,u⟩:=F;refine PE.imp (OU F i t hm s u .nil o.passes B c he l) λσ H Q ⟨φ,A,ρ,S,re,h⟩=>?_;have h':=qa.mp h;refine⟨φ,A,ρ,S,re,?_⟩;cases r:M ρ A with
 |ok ws A1=>
  rw[r]at h';intro b H1 vs L I q;have v:vs.length=n:=by rw[<- q.length];exact j ρ A ws A1 r
  rw[bx];refine⟨v,b,A1,ws,I,q,qA h' (λ_ _ z=>z.mono L) λy A2 z a J d D N C=>?_⟩;exact⟨y,N,rfl,C,z a J (L.trans d) D⟩
 |exc y A1=>rw[r]at h';exact h'|bad=>rw[r]at h';exact h'
def Aj {m:Ev}(h:yR X.nox ko e m):yR X xr e λρ A=>(m ρ A).nox:=by
 try simp only[yI]at*
 refine PT.imp (PT.nox h) λσ H Q ⟨φ,A,ρ,S,re,q⟩=>⟨φ,A,ρ,S,re,?_⟩;cases E:m ρ A with
 |ok w A1=>(try dsimp only at q);rw[E]at q;exact q|exc y A1=>(try dsimp only at q);rw[E]at q;exact q.elim|bad=>(try dsimp only at q);rw[E]at q;exact q.elim
def Vy {m1:Ex}{s:cu}(h:wa X.nox ko s m1):wa X xr s λρ A=>(m1 ρ A).nox:=by
 try simp only[yI]at*
 refine yY.imp (yY.nox h) λD σ H ⟨φ,A,ρ,S,re,q⟩=>⟨φ,A,ρ,S,re,?_⟩;cases e:m1 ρ A with
 |ok w A1=>(try dsimp only at q);rw[e]at q;exact q|exc y A1=>(try dsimp only at q);rw[e]at q;exact q.elim|bad=>(try dsimp only at q);rw[e]at q;exact q.elim
def HX {g:Heap}{E:cc}{M:Ea}{top:Str}{np:Pos}(o:Zn X g xr)(c:VD X.K top x)(d:gC X xr (e::E) M)(l:Qo M n:=by repeat' (first|exact zJ|refine zp ?_))(hn:n<=sizeLine:=by decide)(a:Gl X x:=by rfl)(h:X.calm=true:=by rfl)
  (b:(x==("__debug__":Str))=false:=by decide)(he:starEach (e::E) X.env=(false,eval e X.env)::starEach E X.env:=by rfl)(H:(backTo cpos (starEach E X.env)).any (·.1)=false:=by rfl):
  kO X xr (.Raise (some (.Call (.Name x np) (e::E) [] cpos)) none pos) (Uh x M):=by
 try simp only[yI]at*
 exact E1 o c.at_ c.exc PySem.F.excBase_ValueError d l hn a h b he H
def GV {K:Frag}{st:Stmt}{m:Ex}(F:w6 K x x st f fd)(hm:mg x=some (.ref f))(S:jg N ps (qE st))
  (j:∀(kV doc pm:Value)(an:cq)(c ct:Value)(us:bX),us.length=ps.length->bindArgs (fnOf x x (QP st) (wz st) (qE st) .none kV doc pm an c ct) ⟨us,[]⟩=pure (ps.zip us))
  (a:∀(c:Value)(A:Around)(outer:ck)(s:Shared)(H:Hp)(E:XK),jv k (A.deeper (envOfC x (qE st) s.heap.objs.size f c))->
   Zn (gn (gO P w) P w K mg base N x (qE st) f c A outer s H E) s.heap (Zq K E)->wa (gn (gO P w) P w K mg base N x (qE st) f c A outer s H E) (Zq K E) (wz st) m):
  yC P w K mg base (k+1) x ps.length (Zm N.length m):=by
 try simp only[yI]at*
 refine⟨f,fd,ps,?_,hm,F.kp,F.binds j⟩;obtain⟨v,u,kV,doc,pm,an,c,ct,o,rfl,lk,d⟩:=F.ex;refine Uz lk d S (λvs H Q E h=>h.len) λA outer s H vs Q E i ⟨z,φ,A1,ws,p,r,h⟩=>⟨_,a c A outer s H E i fm,?_⟩;refine⟨φ,A1,ws.map some++List.replicate (N.length-ws.length) none,p,RE.start r,?_⟩;have h':=qa.mp h;show R.post _ (FB K φ H _) _;cases e:m (ws.map some++List.replicate (N.length-ws.length) none) A1 with
 |ok n A2=>
  rw[e]at h';cases n with
  |rt w=>exact h'|nx ρ=>exactλb t g l q _=>h' b t .non l q rfl|bk ρ=>exact h'.elim|ct ρ=>exact h'.elim
 |exc y A2=>rw[e]at h';exact h'|bad=>rw[e]at h';exact h'.elim
def BK {L:Addr}{l:Nat}{n:Str}{y:Str}{Z:Str}{cs:b9}{PG:Nat->Obj->Addr->Obj->List V->Prop}{lam:Nat->Fn}{U:bX}{newD:String}{np:Pos}{cp:Pos}{ep:Pos}{dp:Pos}{yp:Pos}{J:Pos}{ap:Pos}{hp:Pos}(hL:∀k,Q6 X.prog X.w X.K X.mg X.base kk (PG k) (lam k))(hr:jv kk X.A)(hst:X.stack=X.env::X.outer)(hFr:X.env.frame=some L)(hD:kC X.K Z (.ref D))(exD:Mi.Zo X.K D U newD=true)(hbD:U.contains (.type "BaseException")=true)
  (hcs:∀c,cs.contains c=true->∀C,kC X.K c (.ref C)->∃B f,Mi.Zo X.K C B f=true/\JV X.K C D=true)
  (hN:X.N.Nodup)(hi:X.N[i]? =some x)(hx:X.env.scope.names.lookup x=some .local)(hl:X.N[l]? =some n)(hn:X.env.scope.names.lookup n=some .local)(hj:X.N[j]? =some y)(hy:X.env.scope.names.lookup y=some .local)
  (hg:Gl X Z)(hs1:swapsWith (.Call (.Name x np) [] [] cp) none ep.line X.env=pure false:=by rfl)(hs2:swapsWith (.Name n J) (some (.Name y yp)) ap.line X.env=pure false:=by rfl)
  (hdx:(x==("__debug__":Str))=false:=by decide)(hdn:(n==("__debug__":Str))=false:=by decide)(hdD:(Z==("__debug__":Str))=false:=by decide):
  kO X xr (.Try [.Expr (.Call (.Name x np) [] [] cp) ep] [.ExceptHandler (some (.Name Z dp)) (some n) [.Assign [.Name y yp] (.Name n J) ap] hp] [] [] pos) (K3 i j l cs PG lam):=by
 try simp only[yI]at*
 intro pins s σ H D0 I ⟨φ,A,ρ,S,re,h⟩;unfold K3 GU at h;cases ei:ρ[i]? with
 |none=>rw[ei]at h;exact h.elim|some ow=>
  cases ow with
  |none=>rw[ei]at h;exact h.elim|some w=>
   rw[ei]at h;cases w with
   |clo k ws P=>
    dsimp only at h
    by_cases hP:P=PG k
    ·rw[ag hP]at h
     subst hP;obtain⟨v,hv,a,ob,u,c,oc,uc,vs,rfl,h1,h2,hp',rvs⟩:=re.get i _ ei;obtain⟨⟨fd0,hfd⟩,fd,F,hb⟩:=hL k a ob u c oc uc vs hp';have ho:s.heap.get? a=some ob:=(show jh X.prog X.w H s.heap a (.frz ob u) from I.hok a _ h1).1
     refine fw (i:=l) (L:=L) (k:=zc3 X.K φ H ρ j l D0)
      I hst hFr hD exD hbD hN hl (.inl hn) ?body ?t hg hdD (.inr hn)
     case body=>
      refine wpAny_execs_cons (wpAny_Expr_any ?_ I.quiet hs1);obtain⟨m,hns,Q⟩:=I.loc;obtain⟨u',r',lk⟩:=Q i x (.ref a) hi hv (.inl hx);obtain rfl:u'=Value.ref a:=r';have hm:m x=some (.ref a):=by
       rcases lk with ⟨_,e⟩|⟨q|q,_⟩
       ·exact e
       ·rw[show X.env.kindOf x=some .local from hx]at q;cases q
       ·rw[show X.env.kindOf x=some .local from hx]at q;cases q
      refine wpAny_Call_Name_kw (wpAny_Name (wpAny_loadName_local I.ok.kind hx hns hm ?_) hdx);have hK:Frag.In [(a,ob)] s.heap:=λb o e=>by
       rw[lookup_cons]at e
       by_cases hb:b=a
       ·subst hb;simp at e;subst e;exact ho
       ·have:(b==a)=false:=by simpa using hb
        rw[this]at e;cases e
      have hkp:keepIn [(a,ob)] (.ref a)=true:=by
       unfold keepIn;obtain⟨o1,o2,o3,o4⟩:=ob;cases (show o3=_ from hfd)
       simp[lookup_cons]
      refine PySem.W.callWith_K0 (K:=[(a,ob)]) (first:=[]) hK hkp ?_;refine wpAny_call (codeAny_mono (F.run X.A X.stack s H ⟨[],[]⟩ [] [] (λ_ H1=>D0.nx σ H1)
       (zcQ X.K φ H ρ j l D0 cs)
       hr I.env0 (hb s) .nil ⟨rfl,h1,h2,φ,A,ws,S,rvs,?_⟩) λr s' p=>?_)
      ·cases er:lam k ws A with
       |ok w1 A1=>
        rw[er]at h;exactλd H' v' z Y _=>h d H' σ z Y (re.mono z)
       |exc E A1=>
        rw[er]at h;dsimp only at h
        by_cases T:cs.contains E=true
        ·rw[ag T]at h
         exactλd H' z Y Ca g=>⟨E,Ca,rfl,g,T,d,A1,z,Y,h⟩
        ·rw[aj T]at h;exact h.elim
       |bad=>rw[er]at h;exact h.elim
      ·cases r with
       |error e=>
        unfold CR at p;dsimp only at p;have un:∀b o,s.heap.get? b=some o->∃o',s'.heap.get? b=some o':=by
         obtain⟨_,_,_,_,_,_,un,_⟩:=p;exactλb o e=>un.there b o e (by simp)
        obtain⟨ea,C,H',rfl,I',ly,tr,E,Ca,ec,g,T,φ1,A1,l1,S1,hn1⟩:=Pu I p s.heap λb o e=>⟨o,e⟩;cases ec;obtain⟨B,f,exC,up⟩:=hcs E T C g;exact⟨ea,C,H',B,f,rfl,I',ly,tr,un,exC,up,λoe hoe M=>⟨E,φ1,A1,l1.trans (Le.new M),S1.lay M,⟨ea,oe,.own 0,C,rfl,jA,hoe,g⟩,hn1⟩⟩
       |ok fl=>
        cases fl with
        |ret u1=>
         obtain⟨v1,H1,I1,_,q1⟩:=I.after p;exact wpAny_execs_nil ⟨rfl,σ,H1,I1,q1⟩
        |next=>exact False.elim p|brk=>exact False.elim p|cont=>exact False.elim p
     case t=>
      rintro ea C H2 s2 I2 ⟨E,d,A',z,Y,rx,hn'⟩ E'
      refine HN (i:=l) (j:=j) I2 hN hl hj hn (.inl hy) (λs' I'=>?_) hs2 (.inr hy) hdn;exact⟨_,H2,I',hn' d H2 _ z Y ((((re.mono z).set rx).set rx).unset)⟩
    ·rw[aj hP]at h;exact h.elim
   |_=>exact h.elim
def wt {m:Ev}{P:Pos}{f:Str->Option Bool}{C:Addr}(c:KI X.K f (.ref C))(d:kC X.K x (.ref C))(hm:X.mg "isinstance"=none)(i:zA X xr e m)(g:Gl X "isinstance":=by rfl)(a:Gl X x:=by rfl)(hd:(x==("__debug__":Str))=false:=by decide)
  (b:starEach [e,.Name x P] X.env=(false,eval e X.env)::starEach [.Name x P] X.env:=by rfl)(j:(backTo pos (starEach [.Name x P] X.env)).any (·.1)=false:=by rfl):
  zA X xr (.Call (.Name "isinstance" p) [e,.Name x P] [] pos) (ji f m):=by
 try simp only[yI]at*
 have hp:PE X (.Name x P) (tC (.ref C)):=λpins s σ H Q I h=>Ku I a (a7 I.mod.kin I.mod.glob d) ⟨.ref C,H,I,rfl,h⟩ hd;exact PE.imp (QO (P0 (cv:=.ref C) c λu r=>r) g hm (by rfl) (jG i (jG hp yy) b) (by decide) (by decide) b j) (ji.read λσ H Q h=>h)
def EG {m:Ev}{P:Pos}{f:Str->Option Bool}{T:String}(d:KI X.K f (.type T))(hm:X.mg "isinstance"=none)(a:X.mg x=none)(i:bootBuiltins x=some (.type T))(j:zA X xr e m)(g:Gl X "isinstance":=by rfl)(b:Gl X x:=by rfl)(hn:x ≠ "__name__":=by decide)(hd:(x==("__debug__":Str))=false:=by decide)
  (c:starEach [e,.Name x P] X.env=(false,eval e X.env)::starEach [.Name x P] X.env:=by rfl)(k:(backTo pos (starEach [.Name x P] X.env)).any (·.1)=false:=by rfl):
  zA X xr (.Call (.Name "isinstance" p) [e,.Name x P] [] pos) (ji f m):=by
 try simp only[yI]at*
 exact PE.imp (QO (P0 (cv:=.ty T) d λu r=>r) g hm (by rfl) (jG j (jG (Gk b a i (v:=.ty T) rfl hn hd) yy) c) (by decide) (by decide) c k) (ji.read λσ H Q h=>h)
def VE {q:Str}{Pt:Addr}{t:Lm}(d:ls[k]? =some t)(L:GI X.N X.env.scope t=true)(B:BMain X.mg X.base)(a:X.env.code=.ref c)(C:CodeHd X.base c Pt)(g:X.env.qual ++ "<lambda>"=q)(f:defaultsOf t.params X.env=([],[])):
  zA X xr (.Lambda t.params t.body t.scope pos) (wV n q Pt k (Z2 X.env q ls k)):=by
 try simp only[yI]at*
 intro pins s σ H Q I h;rw[fG d]at h;exact fC B a C (RQ λy b e=>I.ok.has _ ((OS L).free y b e)) g f pins s σ H Q I h
def D8 {nl:Nat}{q:Str}{f:Str}{RF:Nat->List W->Hx->R W}{u:Pos}{p3:Pos}{P:Pos}(U:∀x,X.fn x=true)(hl:∀t∈ls,Qv X.prog X.w X.K X.mg j q t)(E:∀t∈ls,JR X t)
  (hR:∀base PG,(∀k,Q6 X.prog X.w X.K X.mg base (j+1) (PG k) (ki ls k))->zS X.prog X.w X.K X.mg base kk f 1 (Ql PG RF))(hr:jv kk X.A)(hc:X.calm=true)(S:Zb X sc)(d:Qk X.N N sc nl []=true)(hw:wj X xr (.Name x P) iter mi)
  (M:∀s H fp,wg (jo X N sc s H fp jT) (.Name x P) tw)(hi:N[i]? =some x)(hv:Y1 (relabel sc X.env) x)(hg:∀s H fp,Gl (jo X N sc s H fp jT) f)(Y:(x==("__debug__":Str))=false:=by decide)(hcx:(x==("__classdict__":Str))=false:=by decide)(Z:(f==("__debug__":Str))=false:=by decide)
  (he:∀env:Env,starEach [.Name x u] env=(false,eval (.Name x u) env)::starEach [] env:=by intro _;rfl)(B:∀env:Env,(backTo p3 (starEach [] env)).any (·.1)=false:=by intro _;rfl)
  (hs:∀x,foldedSetIterable iter X.env x=pure x:=by intro _;rfl):
  zA X xr (.ListComp (.Call (.Name f p) [.Name x u] [] p3) [⟨.Name x P,iter,[],0⟩] sc pos) (qg (YO nl mi tw i (Z2 X.env q ls) ls RF)):=by
 try simp only[yI]at*
 intro pins s σ H Q I h;obtain⟨φ,A,ρ,Sm,re,h⟩:=qg.read σ H Q h;rw[eval_ListComp];refine VS (use:=none) (N:=N) (nl:=nl) (cap:=[]) (wi:=tI X.K xr mi) (g:=tG X.K tw) (ti:=tT X.K ko (zo (.bl true))) (tm:=Tw (λφ H=>RE X.K φ H ρ σ) X.K (zM (Qx i (Z2 X.env q ls) ls RF ρ))) hc S d (λg' z=>by cases z) hw
  (λs3 H3 fp I3 f3=>⟨M s3 H3 fp,Mi.O4,An (λ_ _ z=>z) (BI I3 f3 U hl E hR hr hi hv (hg s3 H3 fp) Y hcx Z (he _) (B _)) rfl⟩) I (Q:=Q) ?T (λD C s' H' m I' q hn h1 h2 h3 h4 h5=>?_) hs
 case T=>
  refine⟨φ,A,ρ,Sm,re,qA (qa.mp h) (λy A1 h1 c H1 J L S1 jr D n hK=>?_) λ_ _ z=>z⟩;have ln:Le X.K c H1 c (upd H1 D (.lst [])):=Le.new n;have a:=qa.mp h1;refine qX.readG (λφ H φ' H' l g=>RE.monoW g l) (re.mono (L.trans ln)) (jr.mono ⟨ln.ex,ln.tp,ln.fz⟩) (S1.lay n) ((re.mono (L.trans ln)).Zj) jA (S1.notin n hK) .nil ?_ (f:=y.len) (acc:=[]);cases er:qX y tw (zo (.bl true)) (zM (Qx i (Z2 X.env q ls) ls RF ρ)) y.len 0 (Qg nl [] ρ) [] A1 with
  |ok p A2=>
   rw[er]at a;intro r H2 σ2 zs l2 n2 S2 re2 d2 r2;have v:=L.trans (Le.ofD n l2);exact a r H2 D zs v S2 (L.st D n) d2 n2 r2
  |exc x A2=>rw[er]at a;exact a.elim|bad=>rw[er]at a;exact a.elim
 ·exact⟨m,hn,λh' sb=>⟨.ref D,H',I'.turned (t':=s'.toks) (λb o hb e=>(sb.2 b hb).trans e) h1 h2 (.inr h3) h4 h5,rfl,q⟩⟩
def f7 {K:Frag}{q:Str}{st:Stmt}{Pt:Addr}{m:yi->Ex}(F:w6 K x x st f fd)(hn:nsIn K mainGlobals x=some (some (.ref f)))(t:tabIn K x=some (c,Pt))(S:jg N ps (qE st))
  (a:∀(A:Around)(outer:ck)(s:Shared)(H:Hp)(E:XK),jv k (A.deeper (envOfC x (qE st) s.heap.objs.size f (.ref c)))->
   wa (gn gU P w K mg base N x (qE st) f (.ref c) A outer s H E).nox ko (wz st) (m (Z2 (envOfC x (qE st) s.heap.objs.size f (.ref c)) q ls))):
  km P w K mg base gU (k+1) f fd ps (spT K ps.length λPF=>je N.length (m PF)):=by
 try simp only[yI]at*
 obtain⟨B,z,kV,doc,pm,an,C,ct,o,rfl,lk,d⟩:=F.ex;have v:C=.ref c:=EZ hn lk t;subst v;refine Uz lk d S (λvs H Q E h=>h.len) λA outer s H vs Q E i ⟨D,φ,A1,ws,n,r,h⟩=>⟨_,yY.nox (a A outer s H E i),?_⟩;refine⟨φ,A1,ws.map some++List.replicate (N.length-ws.length) none,n,RE.start r,?_⟩;have h':=qa.mp (h (Z2 (envOfC x (qE st) s.heap.objs.size f (.ref c)) q ls));show R.post _ (FB K φ H _) _;cases e:m (Z2 (envOfC x (qE st) s.heap.objs.size f (.ref c)) q ls) (ws.map some++List.replicate (N.length-ws.length) none) A1 with
 |ok j A2=>
  rw[e]at h';cases j with
  |rt w=>exact h'|nx ρ=>exactλb u g l p _=>h' b u .non l p rfl|bk ρ=>exact h'.elim|ct ρ=>exact h'.elim
 |exc y A2=>rw[e]at h';exact h'.elim|bad=>rw[e]at h';exact h'.elim
def Ab {m:Ev}{b:Pos}{P:Pos}{pt:Pos}{x1:Str}{x2:Str}{kt:Nat}(t T:Ty)(hm:X.mg "isinstance"=none)(n:X.mg x1=none)(k:X.mg x2=none)(g:bootBuiltins x1=some (.type t.nm))(f:bootBuiltins x2=some (.type T.nm))(z:zA X xr e m)(y:Gl X "isinstance":=by rfl)(q:Gl X x1:=by rfl)(o:Gl X x2:=by rfl)
  (j:x1 ≠ "__name__":=by decide)(r:(x1==("__debug__":Str))=false:=by decide)(i:x2 ≠ "__name__":=by decide)(hd2:(x2==("__debug__":Str))=false:=by decide)
  (h0:starEach [.Name x1 b,.Name x2 P] X.env=(false,eval (.Name x1 b) X.env)::starEach [.Name x2 P] X.env:=by rfl)(s:starEach [.Name x2 P] X.env=(false,eval (.Name x2 P) X.env)::starEach [] X.env:=by rfl)
  (a:starEach [e,.Tuple [.Name x1 b,.Name x2 P] kt pt] X.env=(false,eval e X.env)::starEach [.Tuple [.Name x1 b,.Name x2 P] kt pt] X.env:=by rfl)(B:(backTo pos (starEach [.Tuple [.Name x1 b,.Name x2 P] kt pt] X.env)).any (·.1)=false:=by rfl):
  zA X xr (.Call (.Name "isinstance" p) [e,.Tuple [.Name x1 b,.Name x2 P] kt pt] [] pos) (Xb t T m):=by
 try simp only[yI]at*
 exact PE.imp (QO DI y hm (by rfl) (jG z (jG (Ni (jG (Gk q n g (v:=.ty t.nm) rfl j r) (jG (Gk o k f (v:=.ty T.nm) rfl i hd2) yy s) h0)) yy) a) (by decide) (by decide) a B) λσ H Q ⟨φ,A,ρ,S,re,h⟩=>by
   refine tM.go S re (qa.mp h) λw A1 d H1 v a L u x=>?_;cases E:jO w A1 with
   |none=>rw[E]at a;exact a.elim|some t'=>
    rw[E]at a;refine⟨by show 2<=sizeLine;decide,λl c=>⟨v,t',l,rfl,qo.of jA,?_,a d _ _ (L.trans (Le.new c)) (u.lay c) rfl⟩⟩
    exact PX (u.lay c) (x.mono (Le.new c)) E
def Oq {m:Ev}(he:zA X xr e m)(g:wg X tg tw)(f:swapsWithSole [tg] e pos.line X.env=pure false:=by rfl)(hw:swappedStores [tg] e X.env=pure none:=by rfl)(a:(assignEach [tg] X.env).map (·.2)=[assign tg X.env]:=by rfl):kO X xr (.Assign [tg] e pos) (Jb m tw):=by
 try simp only[yI]at*
 exact PS.imp (O9 he g f hw a) λD σ H ⟨φ,A,ρ,S,re,h⟩=>by
   refine tM.go S re (qa.mp h) λw A1 b H1 v a l s q=>?_;cases E:tw w ρ with
   |none=>rw[E]at a;exact a.elim|some d=>
    rw[E]at a;exact⟨b,A1,ρ,w,d,s,re.mono l,q,E,λc r=>a b H1 c l s r⟩
end
section
def HH {a:Expr}{b:Expr}{ma:Ev}{mb:Ev}{apos:Pos}(B:zA X xr a ma)(he:zA X xr b mb)(t:starEach [b] X.env=(false,eval b X.env)::starEach [] X.env:=by rfl)
  (e:attributeBase a "extend" X.env (eval a X.env)=eval a X.env:=by rfl)
  (w:((backTo cpos (starEach [b] X.env)).all (λx=>!x.1)&&(backToKw cpos (keywordEach [] X.env)).all (λx=>x.1.isSome)
   && decide ([b].length+([]:cn).length+(if ([]:cn).isEmpty then 0 else 1)<30))=true:=by rfl)(h:(apos.endLine==cpos.line)=true:=by rfl):
  zA X xr (.Call (.Attribute a "extend" apos) [b] [] cpos) (j0 JC ma mb):=by
 try simp only[yI]at*
 exact GJ PySem.F.slot_list_extend (by kernel_rfl) FL Fb (λφ A H x y u v Q S j q p=>by
   unfold JC at p;cases u with
   |ref n=>
    cases v with
    |ref k=>
     dsimp only at p;cases c:A[n]? with
     |none=>rw[c]at p;exact p.elim|some o=>cases o with
      |lst ws=>
       cases E:A[k]? with
       |none=>rw[c,E]at p;exact p.elim|some s=>cases s with
        |lst us=>
         rw[c,E]at p;dsimp only at p
         by_cases d:ws.length+us.length<=zR
         ·rw[ag d]at p
          obtain⟨l,xs,rfl,f1,g1,f⟩:=S.lst j c;obtain⟨C,zs,rfl,f2,g2,r⟩:=S.lst q E;refine⟨l,C,xs,zs,rfl,rfl,g1,g2,?_,?_⟩
          ·rw[<- f.length,<- r.length]
           have:sizeLine=16777216:=sizeLine_eq
           unfold zR at d;omega
          ·obtain⟨i,g⟩:=S.write (o:=.lst ws) (o':=.lst (ws++us)) c rfl rfl f1 (u:=.lst (xs++zs)) ⟨xs++zs,jA,(f.append r).mono (Le.upd f1 (λ_ z=>by rw[g1]at z;cases z) λ_ _ z=>by rw[g1]at z;cases z)⟩
           exact p _ _ _ i g rfl
         ·rw[aj d]at p;exact p.elim
        |_=>rw[c,E]at p;exact p.elim
      |_=>rw[c]at p;cases E:A[k]? with
       |none=>rw[E]at p;exact p.elim|some _=>rw[E]at p;exact p.elim
    |_=>exact p.elim
   |_=>cases v<;>exact p.elim) B he t e w h
end
def El {a:Expr}{b:Expr}{ma:Ev}{mb:Ev}{apos:Pos}(r:jv k X.A)(o:zA X xr a ma)(he:zA X xr b mb)(s:starEach [b] X.env=(false,eval b X.env)::starEach [] X.env:=by rfl)
  (e:attributeBase a "index" X.env (eval a X.env)=eval a X.env:=by rfl)
  (w:((backTo cpos (starEach [b] X.env)).all (λx=>!x.1)&&(backToKw cpos (keywordEach [] X.env)).all (λx=>x.1.isSome)
   && decide ([b].length+([]:cn).length+(if ([]:cn).isEmpty then 0 else 1)<30))=true:=by rfl)(h:(apos.endLine==cpos.line)=true:=by rfl):
  zA X xr (.Call (.Attribute a "index" apos) [b] [] cpos) (j0 ZN ma mb):=by
 try simp only[yI]at*
 exact GJ PySem.F.slot_list_index PySem.F.type_list_index (FC r.units) EK (λφ A H x y u v Q S i q p=>by
   unfold ZN at p;cases E:qd A 8 u with
   |none=>rw[E]at p;exact p.elim|some D=>
    cases g:qd A 8 v with
    |none=>
     rw[E,g]at p;cases D<;>exact p.elim
    |some d=>
     rw[E,g]at p;cases D with
     |list ds=>
      dsimp only at p;cases f:ZU (λz=>PyData.eqv z d) ds with
      |none=>rw[f]at p;exact p.elim|some j=>
       rw[f]at p;dsimp only at p
       by_cases c:j<1000000
       ·rw[ag c]at p
        exact⟨φ,A,u,v,y,d,ds,j,rfl,S,i,q,E,g,f,c,p φ H _ .refl S rfl⟩
       ·rw[aj c]at p;exact p.elim
     |_=>exact p.elim) o he s e w h
def II {m:Ev}{P pos':Pos}(y:X.calm=true)(hm:X.mg "sorted"=none)(d:X.mg "set"=none)(M:zA X xr e m)(J:Gl X "sorted":=by rfl)(g:Gl X "set":=by rfl)(t:starEach [e] X.env=(false,eval e X.env)::starEach [] X.env:=by rfl)
  (c:starEach [.Call (.Name "set" P) [e] [] pos'] X.env=(false,eval (.Call (.Name "set" P) [e] [] pos') X.env)::starEach [] X.env:=by rfl):
  zA X xr (.Call (.Name "sorted" p) [.Call (.Name "set" P) [e] [] pos'] [] pos) (W4 m):=by
 try simp only[yI]at*
 exact PE.imp (QO (Ib y) J hm (by rfl) (jG (Yn (Ej y) g d (by rfl) (jG M yy t) (by decide) (by decide) t (by rfl)) yy c) (by decide) (by decide) c (by rfl)) λσ H Q ⟨φ,A,ρ,S,re,h⟩=>by
   refine tM.go S re (qa.mp h) λw A1 b H1 v a D s B=>?_;cases w with
   |ref n=>
    unfold Vz at a;dsimp only at a;cases E:A1[n]? with
    |none=>rw[E]at a;exact a.elim|some u=>cases u with
     |lst ws=>
      rw[E]at a;dsimp only at a;obtain⟨pl,ys,rfl,T,Y,z⟩:=s.lst B E;cases j:intsOf ws with
      |none=>rw[j]at a;exact a.elim|some is=>
       rw[j]at a;dsimp only at a;have U:=WR j;subst U;have ev:=zD.ints.mp z;subst ev;cases q:QY is with
       |none=>rw[q]at a;exact a.elim|some vs=>
        rw[q]at a;dsimp only at a;obtain⟨e3,N⟩:=Pj q;have k:H1 pl=some (.lst (vs.map λ(v:Nat)=>V.int (v:Int))):=by rw[Y,e3,aL];rfl
        refine⟨pl,vs,rfl,jj.of k,N,λl x=>⟨l,vs.foldl yU 0,rfl,jA,λC f=>?_⟩⟩;have ln:Le X.K b H1 b (upd H1 l (.ext λh=>yV h l (jZ X.w) (vs.foldl yU 0))):=Le.new x;have S2:=s.lay (u:=.ext λh=>yV h l (jZ X.w) (vs.foldl yU 0)) x;have r:∀(ψ:bY)(G:Hp),zD X.K ψ G (((List.range 8).filter λi=>decide (i∈vs)).map λ(i:Nat)=>W.int (i:Int)) ((qe (vs.foldl yU 0)).map λ(v:Nat)=>V.int (v:Int)):=λψ G=>by
         rw[Eo];have Z:∀l:b8,zD X.K ψ G (l.map λ(i:Nat)=>W.int (i:Int)) (l.map λ(v:Nat)=>V.int (v:Int)):=λl=>by
          induction l with
          |nil=>rfl|cons i l I=>exact⟨_,_,rfl,rfl,I⟩
         exact Z _
        obtain⟨L,S3⟩:=S2.alloc (o:=.lst (((List.range 8).filter λi=>decide (i∈vs)).map λ(i:Nat)=>W.int (i:Int))) f (u:=.lst ((qe (vs.foldl yU 0)).map λ(v:Nat)=>V.int (v:Int))) ⟨_,jA,r _ _⟩;exact a _ _ _ (D.trans (ln.trans L)) S3 ⟨C,rfl,by rw[<- s.len];simp⟩
     |_=>rw[E]at a;exact a.elim
   |_=>exact a.elim
def DU {a:Expr}{b:Expr}{ma:Ev}{mb:Ev}(c:X.calm=true)(hm:X.mg "sum"=none)(e:zA X xr a ma)(d:zA X xr b mb)(H:Gl X "sum":=by rfl)(g:starEach [a,b] X.env=(false,eval a X.env)::starEach [b] X.env:=by rfl)
  (f:starEach [b] X.env=(false,eval b X.env)::starEach [] X.env:=by rfl)(h:(backTo pos (starEach [b] X.env)).any (·.1)=false:=by rfl):
  zA X xr (.Call (.Name "sum" p) [a,b] [] pos) (zi Qi ma mb):=by
 try simp only[yI]at*
 exact UI (F8 c) BJ Dl hm (by rfl) e d H (by decide) (by decide) g f h
def HK {a:Expr}{b:Expr}{ma:Ev}{mb:Ev}{P pos':Pos}(E:X.calm=true)(hm:X.mg "list"=none)(o:X.mg "range"=none)(J:zA X xr a ma)(I:zA X xr b mb)(D:Gl X "list":=by rfl)(q:Gl X "range":=by rfl)(s:starEach [a,b] X.env=[(false,eval a X.env),(false,eval b X.env)]:=by rfl)(d:starEach [b] X.env=[(false,eval b X.env)]:=by rfl)
  (g:starEach [.Call (.Name "range" P) [a,b] [] pos'] X.env=(false,eval (.Call (.Name "range" P) [a,b] [] pos') X.env)::starEach [] X.env:=by rfl):
  zA X xr (.Call (.Name "list" p) [.Call (.Name "range" P) [a,b] [] pos'] [] pos) (Kt ma mb):=by
 try simp only[yI]at*
 exact PE.imp (Yn (IV E) D hm (by rfl) (jG (DV q o (jG J (jG I yy (by rw[d];rfl)) (by rw[s,d])) s d) yy g) (by decide) (by decide) g (by rfl)) λσ H Q ⟨φ,A,ρ,S,re,h⟩=>by
   refine tM.go S re (qa.mp h) λw A1 r H1 v M L Z y=>?_;refine tM.go Z (re.mono L) (qA (qa.mp M) (λ_ _ z=>z) λ_ _ z=>z.mono L) λt A2 c n v2 e B Y x=>?_;cases w with
   |int i=>
    obtain rfl:=y;cases t with
    |int j=>
     obtain rfl:=x;dsimp only at e
     by_cases f:(yg i&&(yg j&&decide ((j-i).toNat<=zR)))=true
     ·rw[ag f]at e
      rw[ar,ar,ao]at f;refine⟨i,j,rfl,λp hp=>⟨p,i,j,rfl,jA,Yj f.1,Yj f.2.1,g8 f.2.2,λl C=>?_⟩⟩;have ln:Le X.K c n c (upd n p (.rng i j)):=Le.new hp;have u:zD X.K c (upd n p (.rng i j)) ((List.range (j-i).toNat).map λ(k:Nat)=>W.int (i+k)) (JO i (j-i).toNat):=by
       have:=(zD.ints (K:=X.K) (φ:=c) (H:=upd n p (.rng i j)) (ns:=(List.range (j-i).toNat).map λ(k:Nat)=>(i+(k:Int))) (vs:=JO i (j-i).toNat)).mpr (by unfold JO;simp)
       rw[aL]at this;exact this
      obtain⟨U,T,N⟩:=QU (Y.lay hp) C u;exact e _ _ _ (((L.trans B).trans ln).trans U) T N
     ·rw[aj f]at e;exact e.elim
    |_=>exact e.elim
   |_=>exact e.elim
@[irreducible] noncomputable def QB (X:Cx)(x:XR)(e:Option Expr)(p:Po):Prop:=Mi.SP X x e p
def f9:@QB=@Mi.SP:=by
 funext X xr e p
 unfold QB
 rfl
def GF:@zA=@Mi.SE/\@gC=@Mi.SA/\@yR=@Mi.ST/\@gR=@Mi.SW/\@kO=@Mi.SS/\@wa=@Mi.K8/\@wj=@Mi.SI/\@wg=@Mi.SG/\@Qz=@Mi.SF/\@gY=@Mi.SQ/\@Zk=@Mi.YV/\@gZ=@Mi.SM/\@Xk=@Mi.SJ/\@QB=@Mi.SP:=⟨Gz,Us,Ut,Ue,Ur,VN,Up,V8,V7,V9,VV,Uc,NB,f9⟩
def ZR:QB X xr none jL:=by
 try simp only[GF]at*
 exact PO.imp Co λσ H Q ⟨φ,A,ρ,S,re,h⟩=>h φ H .refl S
def ZJ {m:Ev}(h:zA X xr e m):QB X xr (some e) (jD m):=by
 try simp only[GF]at*
 exact Mi.Nl h
def QQ {m:Ev}{lo k:Option Expr}{pl pu:Po}{P:Pos}(he:zA X xr e m)(y:QB X xr lo pl)(x:QB X xr k pu):zA X xr (.Subscript e (.Slice lo k none P) pos) (j3 m pl pu):=by
 try simp only[GF]at*
 exact PE.imp (P6 BY he y x) λσ H Q ⟨φ,A,ρ,S,re,h⟩=>by
   refine tM.go S re (qa.mp h) λw A1 g H1 v C c I q=>?_;refine⟨g,A1,ρ,I,re.mono c,qA (qa.mp C) (λl A2 B f J d E=>?_) λ_ _ z=>z.mono c⟩;refine⟨f,A2,ρ,E,(re.mono c).mono d,qA (qa.mp B) (λu M i b n j s=>?_) λ_ _ z=>z.mono (c.trans d)⟩;have L:=(c.trans d).trans j;cases w with
   |tup ws=>
    obtain⟨a,vs,rfl,t,r⟩:=(q.mono d).mono j;have hlen:ws.length=vs.length:=r.length;refine⟨a,vs,rfl,t,λhw=>?_,λhw p hp=>?_⟩
    ·refine i b n _ L s ⟨a,vs,rfl,t,?_⟩
     have:yu ws l u=ws:=by
      unfold yu;rw[hlen,hw.1,hw.2,Nat.sub_zero,List.drop_zero,<- hlen,bS]
     rw[this];exact r
    ·have o:zD X.K b n (yu ws l u) (Zp vs l u):=by
      unfold yu Zp;rw[hlen];exact zD.take _ (zD.drop _ r)
     obtain⟨a1,a2,D⟩:=QV s hp o;exact i _ _ _ (L.trans a1) a2 D
   |_=>exact i.elim
def Yo {a b:Expr}{ma mb:Ev}(H:zA X xr a ma)(h:zA X xr b mb):zA X xr (.BinOp a .FloorDiv b pos) (zi ZV ma mb):=by
 try simp only[yI]at*
 exact JE Cf UD (Ul Dw λ_ _ _ _=>rfl) H h
def EW (i j k l:Nat){y z u:Str}{q r t:Pos}(L:X.calm=true)(h:X.N.Nodup)(I:X.N[i]? =some x:=by rfl)(o:Loc X.env.scope x:=by first|exact Or.inl rfl|exact Or.inr rfl)(hf:X.fn x=true∨X.env.scope.names.lookup x=some .local:=by first|exact .inl rfl|exact .inr rfl)
  (E:X.N[j]? =some y:=by rfl)(g:Loc X.env.scope y:=by first|exact Or.inl rfl|exact Or.inr rfl)(K:X.fn y=true∨X.env.scope.names.lookup y=some .local:=by first|exact .inl rfl|exact .inr rfl)
  (D:X.N[k]? =some z:=by rfl)(f:Loc X.env.scope z:=by first|exact Or.inl rfl|exact Or.inr rfl)(J:X.fn z=true∨X.env.scope.names.lookup z=some .local:=by first|exact .inl rfl|exact .inr rfl)
  (C:X.N[l]? =some u:=by rfl)(s:Loc X.env.scope u:=by first|exact Or.inl rfl|exact Or.inr rfl)(hd:X.fn u=true∨X.env.scope.names.lookup u=some .local:=by first|exact .inl rfl|exact .inr rfl):
  wg X (.Tuple [.Name x p,.Name y q,.Name z r,.Name u t] n pos) (GR i j k l):=by
 try simp only[yI]at*
 exact PG.imp (Gx L (ZD (ZK h I o hf) (ZD (ZK h E g K) (ZD (ZK h D f J) (ZD (ZK h C s hd) Gr))))) λv σ H Q ⟨φ,A,ρ,w,c,S,re,d,e,kk⟩=>by
   unfold GR at e
   split at e
   ·rename_i x1 y1 Z u1
    have Y:=aB e;subst Y;obtain⟨a,vs,rfl,B,rs⟩:=d;obtain⟨v1,r1,rfl,U,v2,r2,rfl,T,b,r3,rfl,P,v4,r4,rfl,M,rfl⟩:=rs;exact⟨a,[v1,v2,b,v4],rfl,B,rfl,v1,[v2,b,v4],rfl,v2,[b,v4],rfl,b,[v4],rfl,v4,[],rfl,rfl,kk _ ((((re.set U).set T).set P).set M)⟩
   ·cases e
def EI {st:Expr}{m:Ev}{ms:Ev}{P:Pos}(he:zA X xr e m)(s:zA X xr st ms):zA X xr (.Subscript e (.Slice none none (some st) P) pos) (KO m ms):=by
 try simp only[yI]at*
 exact PE.imp (BE he (Mi.Nl s)) λσ H Q ⟨φ,A,ρ,S,re,h⟩=>by
   refine tM.go S re (qa.mp h) λw A1 c H1 v g l k q=>?_;refine⟨c,A1,ρ,k,re.mono l,qA (qa.mp g) (λo A2 b f n L j=>?_) λ_ _ z=>z.mono l⟩;cases w with
   |tup ws=>
    dsimp only at b
    by_cases d:o=some (-1)
    ·rw[ag d]at b
     obtain⟨a,vs,rfl,t,r⟩:=q.mono L;refine⟨d,a,vs,rfl,t,λp hp=>?_⟩
     ·obtain⟨a1,a2,i⟩:=QV j hp (zD.rev r)
      exact b _ _ _ ((l.trans L).trans a1) a2 i
    ·rw[aj d]at b;exact b.elim
   |_=>exact b.elim
def PR {m:Ev}{lo k:Option Expr}{pl pu:Po}{P:Pos}(he:zA X xr e m)(y:QB X xr lo pl)(x:QB X xr k pu):zA X xr (.Subscript e (.Slice lo k none P) pos) (JK m pl pu):=by
 try simp only[GF]at*
 exact PE.imp (P6 Ae he y x) λσ H Q ⟨φ,A,ρ,S,re,h⟩=>by
   refine tM.go S re (qa.mp h) λw A1 g H1 v C L N t=>?_;refine⟨g,A1,ρ,N,re.mono L,qA (qa.mp C) (λl A2 B f Y c M=>?_) λ_ _ z=>z.mono L⟩;refine⟨f,A2,ρ,M,(re.mono L).mono c,qA (qa.mp B) (λu U b d T j s=>?_) λ_ _ z=>z.mono (L.trans c)⟩;have i:=(L.trans c).trans j;cases w with
   |ref n=>
    dsimp only at b;cases E:U[n]? with
    |none=>rw[E]at b;exact b.elim|some o=>cases o with
     |lst ws=>
      rw[E]at b;dsimp only at b;obtain⟨a,vs,rfl,D,I,r⟩:=s.lst ((t.mono c).mono j) E;have hlen:ws.length=vs.length:=r.length;refine⟨a,vs,rfl,jj.of I,λp hp=>?_⟩;have q:zD X.K d T (yu ws l u) (Zp vs l u):=by
       unfold yu Zp;rw[hlen];exact zD.take _ (zD.drop _ r)
      obtain⟨a1,a2,J⟩:=QU s hp q;exact b _ _ _ (i.trans a1) a2 J
     |_=>rw[E]at b;exact b.elim
   |_=>exact b.elim
section
variable {a b:Expr}{ma mb:Ev}
def W6 (C:jv k X.A)(I:zA X xr a ma)(D:zA X xr b mb)(B:U2 b:=by intro _ _;rfl):zA X xr (.Subscript a b pos) (zi kD ma mb):=by
 try simp only[yI]at*
 exact PE.imp (Bg (NZ C) I D B) λσ H Q ⟨φ,A,ρ,S,re,h⟩=>by
   refine tM.go S re (qa.mp h) λw A1 j H1 v J l T x=>?_;refine tM.go T (re.mono l) (qA (qa.mp J) (λ_ _ z=>z) λ_ _ z=>z.mono l) λq A2 e U v2 c L s u=>?_;unfold kD at c;cases w with
   |ref n=>
    cases E:keyT? q with
    |none=>rw[E]at c;exact c.elim|some k=>
     rw[E]at c;dsimp only at c;cases g:(A2[n]?).bind Q8 with
     |none=>rw[g]at c;exact c.elim|some kvs=>
      rw[g]at c;dsimp only at c;obtain⟨o,M,K⟩:=OZ g;obtain⟨p,xs,rfl,f1,d,g2,g3⟩:=s.tdr (x.mono L) M K;obtain⟨P,rfl,N⟩:=VC u E;cases f:kF k kvs with
      |none=>rw[f]at c;exact c.elim|some r=>
       rw[f]at c;obtain⟨i,y,t⟩:=(WW k g2 g3).1 r f;exact⟨p,xs,P,k,i,rfl,rfl,d,N,y,c e U i (l.trans L) s t⟩
   |_=>exact c.elim
variable {m:Ev}
def Pb (c:X.calm=true)(r:jv k X.A)(hm:X.mg "dict"=none)(a:zA X xr e m)(H:Gl X "dict":=by rfl)(he:starEach [e] X.env=(false,eval e X.env)::starEach [] X.env:=by rfl)(h:(backTo pos (starEach [] X.env)).any (·.1)=false:=by rfl):
  zA X xr (.Call (.Name "dict" p) [e] [] pos) (jn gK m):=by
 try simp only[yI]at*
 exact Nn (HP c r) Ey FK hm (by rfl) a H (by decide) (by decide) he h
end
def zS.up {K:Frag}{f:Fn}(F:zS P w K mg base j x n f)(h:j<=k:=by decide):zS P w K mg base k x n f:=F.mono h
def yC.up {K:Frag}{f:Fn}(F:yC P w K mg base j x n f)(h:j<=k:=by decide):yC P w K mg base k x n f:=F.mono h
section
variable {C:List Value->Prop}
theorem yX (h:∀a,C [a]):∀us:bX,us.length=1->C us
 |[a],_=>h a
theorem Jd (h:∀a b,C [a,b]):∀us:bX,us.length=2->C us
 |[a,b],_=>h a b
theorem Xs (h:∀a b c,C [a,b,c]):∀us:bX,us.length=3->C us
 |[a,b,c],_=>h a b c
end
def qS {l:b9}(h:decide l.Nodup=true):l.Nodup:=of_decide_eq_true h
noncomputable def Mr (N P:b9)(sc:Scope):Bool:=decide (sc.kind=.function)&&(!sc.isCoroutine&&(!sc.isGenerator&&(decide N.Nodup&&(decide (N.take P.length=P)&&(P.all (λx=>decide (sc.names.lookup x=some .local) || decide (sc.names.lookup x=some .cell))&&sc.names.all λy=>!decide (y.2=.free))))))
def jI {P:b9}(h:Mr N P sc=true):jg N P sc:=by
 unfold Mr at h;simp only[ar,ao,Bool.not_eq_true',all_eq_true,bP,decide_eq_false_iff_not]at h;obtain⟨g,f,e,d,c,b,a⟩:=h;exact⟨g,f,e,d,c,b,λy H=>a y H⟩
section
def gg (h:(ls.all λt=>GI X.N X.env.scope t)=true):∀t∈ls,JR X t:=λt H=>OS (cD.mp h t H)
def jc {M:Ev}(nl:Nat)(cap:b8)(hw:wj X xr tg iter mi)
  (n:∀s H fp,wg (jo X N sc s H fp jT) tg tw/\Zk (jo X N sc s H fp jT) ifs M/\gZ (jo X N sc s H fp jT) elt (⟨tg,iter,ifs,0⟩::gs) sc pos 0 em)
  (c:X.calm=true:=by rfl)(S:Zb X sc:=by exact cps (by kernel_rfl))(p:Qk X.N N sc nl cap=true:=by kernel_rfl)
  (b:∀g',gs[0]? =some g'->g'.is_async=0:=by intro _ h;cases h<;>rfl)
  (a:∀x,foldedSetIterable iter X.env x=pure x:=by intro _;rfl):Qz X xr (.ListComp elt (⟨tg,iter,ifs,0⟩::gs) sc pos) (zV nl cap mi tw M em):=DN nl cap c S p hw n b a
def qW {d:Nat}(he:zA X ko elt me)(h:∀e s,X.xe e s->False:=by exactλ_ _ z=>z)(H:gens[d+1]? =none:=by rfl):gZ X elt gens sc pos d (zM me):=BD h he H
end
open PySem L2
abbrev zB:Ev:=zh 0
abbrev zK:Ev:=zh 1
abbrev qH:Ev:=zh 2
abbrev qx:Ev:=zh 3
abbrev jq:Ev:=zh 4
abbrev yn:Ev:=zh 5
abbrev Z0:Ev:=zh 6
abbrev Qy:Ev:=zh 7
abbrev MR:Ev:=zh 8
abbrev UT:Ev:=zh 10
abbrev ql:Ev:=zo (.int 0)
abbrev qf:Ev:=zo (.int 1)
abbrev jw:Ev:=zo (.int 2)
abbrev j4:Ev:=zo (.int 3)
abbrev Zu:Ev:=zo (.int 4)
abbrev Wg:Ev:=zo (.int 5)
abbrev Td:Ev:=zo (.int 6)
abbrev Tp:Ev:=zo (.int 7)
abbrev QA:Ev:=zo (.int 8)
abbrev gS:Ev:=zo (.int 9)
abbrev N8:Ev:=zo (.int 10)
abbrev qJ:Ev:=zo (.bl true)
abbrev Tt:Ev:=zo (.bl false)
abbrev gy:Ev:=zo .non
abbrev gX:Ex:=zq (qD Tt) zC
end Mi
namespace G
open PySem L2 Mi
noncomputable def top (i:Nat):Stmt:=PySem.Challenge.pw_nearkinds_k03_steady_or_broken.main.body.getD i (.Pass ⟨0,0,0,0⟩)
structure Bu (mg:cg):Prop where
 IF:mg "ValueError"=none
 Uw:mg "abs"=none
 KJ:mg "all"=none
 Gv:mg "bool"=none
 Nq:mg "dict"=none
 Yg:mg "enumerate"=none
 JL:mg "int"=none
 jP:mg "isinstance"=none
 kf:mg "len"=none
 Qe:mg "list"=none
 Qj:mg "max"=none
 UE:mg "min"=none
 jJ:mg "range"=none
 zbR:mg "set"=none
 De:mg "sorted"=none
 zcI:mg "sum"=none
 wq:mg "tuple"=none
 NU:mg "zip"=none
 L5:∃t,mg "MOST_PLACES"=some (.int 8 t)
noncomputable abbrev ja:b9:=["NoTable"]
noncomputable abbrev W7:b9:=["NoTable","NotSteady","NoPlace","NoKind","NoMix","NoNumber","NoLot","NoKinds","NoPaper","NoParting","NoClosed","TooMany","NoText","NoLine","NoDeed"]
def jU {K:Frag}(R:W7.all (Q0 K ja)=true)(h:W7.contains x=true:=by decide +kernel):Q0 K ja x=true:=cD.mp R x (List.contains_iff_mem.mp h)
def Vr {l:List (Str×NameKind)}(h:(l.all λy=>!(y.2==.cell))=true):∀y∈l,y.2≠.cell:=λy H e=>by
 have q:=cD.mp h y H;rw[e]at q;cases q
def yE {m:Ev}(h:zA X xr e m):SE X xr e m:=by rw[Gz]at h;exact h
abbrev RG:Stmt:=top 1
def IQ:jg ["thing"] ["thing"] (qE RG):=jI (by kernel_rfl)
def RH:Ex:=zq (qD (yj (yS .int zB) (yc (yS .bl zB)))) zC
abbrev Rq:Stmt:=top 2
def ID:jg ["thing","many"] ["thing","many"] (qE Rq):=jI (by kernel_rfl)
def Kb (H:Fn):Ex:=zq (qD (yj (yS .tup zB) (yj (zi qL (mQ qt (qb zB)) zK) (mQ Qn (zV 1 [] (qh zB) (zG 0) qJ (zM (zF H (zc zB zl)))))))) zC
abbrev TN:Stmt:=top 3
def M7:jg ["thing","many","limit"] ["thing","many","limit"] (qE TN):=jI (by kernel_rfl)
def J7 (I:Fn):Ex:=zq (qD (yj (zF I (zc zB (zc zK zl))) (mQ Qn (zV 1 [2] (qh zB) (zG 0) qJ (zM (kL Zv J5 ql zB zK)))))) zC
abbrev RD:Stmt:=top 23
def RA:jg ["thing","many"] ["thing"] (qE RD):=jI (by kernel_rfl)
def WH (f:Fn)(X:Fn)(M:Fn):Ex:=zq (qZ (gE (yc (yS .tup zB)) (yc (kL Zv Zv qf (mQ qt (qb zB)) QA))) gX zC) (zq (zW 1 (mQ qt (qb zB))) (zq (qZ (yc (mQ Qn (zV 1 [1] (qh zB) (zG 0) qJ (zM (zF X (zc zB (zc zK (zc zK zl)))))))) gX zC) (zq (qD (yj (zF f (zc zB zl)) (zF M (zc zB zl)))) zC)))
abbrev RS:Stmt:=top 24
def Vj:jg ["rows","a","row","b","kind"] ["rows"] (qE RS):=jI (by kernel_rfl)
def R6:Ex:=zq (jK (wd zB) (jW 1 2) (zq (jK (wd qH) (jW 3 4) (zq (qZ (gE (zi jf (zi qL jq ql) (zi qL zK qx)) (zi jf (zi zy (zi zy zB qx) zK) jq)) gX zC) zC)) zC)) (zq (qD qJ) zC)
abbrev TK:Stmt:=top 25
def TF:jg ["rows","standing"] ["rows"] (qE TK):=jI (by kernel_rfl)
def TH:Ex:=zq (zW 1 (qg (zV 2 [] (qh zB) (zG 0) qJ (YG (qh zB) (zG 1) qJ (zM zK))))) (zq (qD (mQ Qn (zV 1 [1] (qT (mQ yz (qb zK))) (zG 0) qJ (zM (zi Xe zB zK))))) zC)
abbrev T4:Stmt:=top 26
def Lh:jg ["table"] ["table"] (qE T4):=jI (by kernel_rfl)
def XF (H:Fn):Ex:=zq (qZ ((λρ A=>((yc (zF H (zc zB zl))) ρ A).nox)) (zq (Uh "NoTable" (zc (zo (.str "this is no table")) zl)) zC) zC) zC
abbrev SO:Stmt:=top 27
def Lp:jg ["table"] ["table"] (qE SO):=jI (by kernel_rfl)
def Ss:Ex:=zq (qD (zi zY (mQ yz (zV 1 [] (qh zB) (zG 0) qJ (zM (mQ yz (qb zB))))) qf)) zC
abbrev Sd:Stmt:=top 28
def Wi:jg ["table","one","other","many","counts","i","j"] ["table","one","other"] (qE Sd):=jI (by kernel_rfl)
def T9 (L:Fn):Ex:=zq (zW 3 (zF L (zc zB zl))) (zq (zW 4 (qg (zV 1 [3] (qT qx) (zG 0) qJ (zM (zi jd (zU (zc ql zl)) zK))))) (zq (jK (JS (zi zy zB zK) (zi zy zB qH)) (jW 5 6) (zq (JN (zi zy jq yn) Z0 qf) zC)) (zq (qD (mQ yW (zV 1 [] (qh jq) (zG 0) qJ (zM (mQ yW (qb zB)))))) zC)))
abbrev Sj:Stmt:=top 29
def Wl:jg ["table","firsts","a","row","b","kind"] ["table"] (qE Sj):=jI (by kernel_rfl)
def Sk:Ex:=zq (zW 1 Q9) (zq (jK (wd zB) (jW 2 3) (zq (jK (wd qx) (jW 4 5) (zq (yk (YC Z8 zK yn (zE (zc qH (zc jq zl))))) zC)) zC)) (zq (qD zK) zC))
abbrev Sa:Stmt:=top 30
def Y5:jg ["table","kind","a","b","shares","c","row","e","by"] ["table"] (qE Sa):=jI (by kernel_rfl)
def XG (Y:Fn)(L:Fn):Ex:=zq (jK (KC (zF L (zc zB zl))) (Yx 1 2 3) (zq (zW 4 (zF Y (zc zB (zc qH (zc qx zl))))) (zq (jK (wd zB) (jW 5 6) (zq (jK (wd Z0) (jW 7 8) (zq (qZ (yj (zi qL MR zK) (zi jf (zF Y (zc zB (zc yn (zc Qy zl)))) jq)) (zq (qD (zE (zc qH (zc qx (zc yn (zc Qy zl)))))) zC) zC) zC)) zC)) zC))) (zq (qD gy) zC)
abbrev SH:Stmt:=top 31
def Ln:jg ["table"] ["table"] (qE SH):=jI (by kernel_rfl)
def XW (X:Fn)(Y:Fn):Ex:=zq (yk (zF Y (zc zB zl))) ((λρ A=>((zq (qD (zF X (zc zB zl))) zC) ρ A).nox))
abbrev Rp:Stmt:=top 32
def Ip:jg ["table"] ["table"] (qE Rp):=jI (by kernel_rfl)
def Vd (X:Fn)(Y:Fn):Ex:=zq (yk (zF Y (zc zB zl))) ((λρ A=>((zq (qD (zi (Wc false) (zF X (zc zB zl)) gy)) zC) ρ A).nox))
abbrev RI:Stmt:=top 33
def RB:jg ["table","thing","a","b","c","e"] ["table","thing"] (qE RI):=jI (by kernel_rfl)
def WI (Y:Fn)(X:Fn)(y:Fn):Ex:=zq (yk (zF y (zc zB zl))) ((λρ A=>((zq (qZ (yc (zF X (zc zK (zc Zu (zc (mQ qt (qb zB)) zl))))) gX zC) (zq (Jb zK (GR 2 3 4 5)) (zq (qD (yj (zi qL (zi zy (zi zy zB qH) qx) (zi zy (zi zy zB jq) yn)) (zi jf (zF Y (zc zB (zc qH (zc qx zl)))) (zF Y (zc zB (zc jq (zc yn zl))))))) zC))) ρ A).nox))
abbrev Sb:Stmt:=top 35
def Lj:jg ["_law_script","_law_k"] ["_law_script","_law_k"] (qE Sb):=jI (by kernel_rfl)
def XJ:Ex:=zq (qZ (zi J5 zK (mQ qt (qb zB))) (zq (qD (zi zy zB zK)) zC) zC) (zq (qD ql) zC)
abbrev SV:Stmt:=top 36
def Sn:jg ["_law_script","_law_k","_law_cell"] ["_law_script","_law_k"] (qE SV):=jI (by kernel_rfl)
def X1 (L:Fn):Ex:=zq (zW 2 (zF L (zc zB (zc zK zl)))) (zq (qZ (zi To qH (zi Xa N8 (zo (.int 18)))) (zq (qD (zU (zc (zi kN qH (zi Xa N8 (zo (.int 18)))) (zc qJ zl)))) zC) zC) (zq (qD (zU (zc (zi wC qH (zo (.int 2147483647))) (zc Tt zl)))) zC))
abbrev Rv:Stmt:=top 37
def Wz:jg ["_law_state_here","_law_many","_law_found","_law_stirred"] ["_law_state_here","_law_many"] (qE Rv):=jI (by kernel_rfl)
def Va:Ex:=zq (qZ (zi zy zB qf) (zq (zW 2 (zi wC (zi zy zB ql) zK)) (zq (wM kj (zi ZV (zi zy zB ql) zK) zB ql) (zq (qD qH) zC))) zC) (zq (wM kj (zi wC (zi zY (zi jd (zi zy zB ql) (zo (.int 48271))) (zo (.int 29))) (zo (.int 2147483647))) zB ql) (zq (zW 3 (zi wC (zi zY (zi zY (zi jd (zi zy zB ql) (zi zy zB ql)) (zi jd (zo (.int 39373)) (zi zy zB ql))) Tp) (zo (.int 2147483629)))) (zq (zW 3 (zi wC (zi zY (zi jd qx qx) (zi jd (zo (.int 16807)) qx)) (zo (.int 2147483587)))) (zq (qD (zi wC (zi ZV qx QA) zK)) zC))))
abbrev TY:Stmt:=top 38
def Xz:jg ["_law_state_here","_law_things","_law_left","_law_found"] ["_law_state_here","_law_things"] (qE TY):=jI (by kernel_rfl)
def TZ (y:Fn):Ex:=zq (zW 2 (qg (qb zK))) (zq (zW 3 (zU zl)) (zq (Ud 1000 (zi jf qH (zU zl)) (zq (yk (j0 yq qx (j0 ZO qH (zF y (zc zB (zc (mQ qt (qb qH)) zl)))))) zC)) (zq (qD qx) zC)))
abbrev Ri:Stmt:=top 39
def Sx:jg ["_law_rows","_law_some"] ["_law_rows"] (qE Ri):=jI (by kernel_rfl)
def Rn:Ex:=zq (zW 1 (W4 (zi Qi (qg (zV 1 [] (qh zB) (zG 0) qJ (zM (qg (qb zB))))) (zU zl)))) (zq (qD (mQ yW (zV 1 [1] (qh zB) (zG 0) qJ (zM (mQ yW (zV 1 [1] (qh zB) (zG 0) qJ (zM (j0 ZN zK zB)))))))) zC)
abbrev Rg:Stmt:=top 40
def wI:jg ["_law_state_here","_law_way","_law_many","_law_wide","_law_high","_law_some","_law_ring","_law_rows","_law_a","_law_near","_law_far"] ["_law_state_here"] (qE Rg):=jI (by kernel_rfl)
def X2 (y:Fn):Ex:=zq (zW 1 (zF y (zc zB (zc QA zl)))) (zq (zW 2 (zi zy (zU (zc QA (zc Tp (zc Td (zc Wg (zc Zu (zc j4 (zc jw (zc qf zl))))))))) (zF y (zc zB (zc QA zl))))) (zq (qZ (zi qL zK ql) (zq (qD (qg (zV 1 [2] (qT qH) (zG 0) qJ (zM (qg (zV 1 [0,1] (qT zK) (zG 0) qJ (zM (zi Q4 (jn K2 (zi kN zK zB)) (zi kN qH (jn K2 (zi kN zK zB))))))))))) zC) zC) (zq (qZ (zi qL zK qf) (zq (zW 2 (zi zy (zU (zc QA (zc Zu (zc jw zl)))) (zF y (zc zB (zc j4 zl))))) (zq (qD (qg (zV 1 [2] (qT qH) (zG 0) qJ (zM (qg (zV 1 [0] (qT zK) (zG 0) qJ (zM (zi zy (zU (zc ql (zc qf (zc qf (zc jw (zc qf (zc jw (zc jw (zc j4 zl))))))))) (zi U6 zK zB))))))))) zC)) zC) (zq (qZ (zi qL zK jw) (zq (qD (qg (zV 1 [2] (qT qH) (zG 0) qJ (zM (qg (zV 1 [0] (qT zK) (zG 0) qJ (zM (jn JU (zi jf zK zB))))))))) zC) zC) (zq (qZ (zi qL zK j4) (zq (Jb (zi zy (zU (zc (zE (zc jw (zc Zu zl))) (zc (zE (zc Zu (zc jw zl))) (zc (zE (zc jw (zc j4 zl))) (zc (zE (zc j4 (zc jw zl))) (zc (zE (zc jw (zc jw zl))) zl)))))) (zF y (zc zB (zc Wg zl)))) (jW 3 4)) (zq (zW 2 (zi jd qx jq)) (zq (qD (qg (zV 1 [2,3] (qT qH) (zG 0) qJ (zM (qg (zV 1 [0,2] (qT zK) (zG 0) qJ (zM (zi zY (jn JU (zi jf zK zB)) (jn JU (zi jf (zi ZV zK qH) (zi ZV zB qH))))))))))) zC))) zC) (zq (qZ (zi qL zK Zu) (zq (zW 5 (zU (zc (zE (zc ql (zc qf zl))) (zc (zE (zc ql (zc jw zl))) (zc (zE (zc ql (zc j4 zl))) (zc (zE (zc qf (zc jw zl))) (zc (zE (zc qf (zc j4 zl))) (zc (zE (zc jw (zc j4 zl))) zl)))))))) (zq (qD (qg (zV 1 [5] (qh yn) (zG 0) qJ (zM (qg (zV 1 [0] (qh zK) (zG 0) qJ (zM (zi kN jw (mQ qt (zV 1 [0] (qh zK) (zG 0) (zi Xe zB zK) (zM zB))))))))))) zC)) zC) (zq (qZ (zi qL zK Wg) (zq (zW 2 (zi zy (zU (zc Zu (zc QA (zc jw zl)))) (zF y (zc zB (zc j4 zl))))) (zq (qD (qg (zV 1 [2] (qT qH) (zG 0) qJ (zM (qg (zV 1 [0] (qT zK) (zG 0) qJ (zM (zi U6 zK zB)))))))) zC)) zC) (zq (zW 3 (zi zy (zU (zc Zu (zc j4 (zc jw zl)))) (zF y (zc zB (zc j4 zl))))) (zq (zW 6 (zU (zc ql (zc qf (zc (zi zy (zU (zc jw (zc qf zl))) (jn JU (zi qL qx j4))) (zc qf zl)))))) (zq (zW 7 (zU zl)) (zq (jK (qT (zi jd jw qx)) (zG 8) (zq (zW 9 (qg (zV 1 [3,6,8] (qT (zi jd jw qx)) (zG 0) qJ (zM (zi zy qH (zi wC (jn K2 (zi kN qx zB)) zK)))))) (zq (zW 10 (qg (zV 1 [3,8] (qT (zi jd jw qx)) (zG 0) qJ (zM (jn JU (zi jf (zi ZV qH zK) (zi ZV zB zK))))))) (zq (qZ (zi qL zK Td) (zq (yk (j0 yq Qy (qg (zV 1 [9,10] (qT (zi jd jw qx)) (zG 0) qJ (zM (zi zY (zi jd j4 (zi zy qH zB)) (zi zy zK zB))))))) zC) (zq (yk (j0 yq Qy (qg (zV 1 [9,10] (qT (zi jd jw qx)) (zG 0) qJ (zM (Mx (zi qL (zi zy qH zB) qf) j4 (zi zy zK zB))))))) zC)) zC)))) (zq (qD Qy) zC))))))))))))
abbrev Rj:Stmt:=top 41
def Wt:jg ["_law_state_here","_law_rows","_law_order","_law_kinds_here"] ["_law_state_here"] (qE Rj):=jI (by kernel_rfl)
def Rk (T:Fn)(w:Fn)(I:Fn):Ex:=zq (zW 1 (zF w (zc (zF I (zc zB zl)) zl))) (zq (zW 2 (zF T (zc zB (zc (Kq (mQ qt (qb zK))) zl)))) (zq (zW 3 (zi zY (zU (zc ql zl)) (zF T (zc zB (zc (Kt qf (zi zY qf (mQ yz (zV 1 [] (qh zK) (zG 0) qJ (zM (mQ yz (qb zB))))))) zl))))) (zq (qD (mQ yW (zV 1 [1,2,3] (qh qH) (zG 0) qJ (zM (mQ yW (zV 1 [0,1,3] (qh qH) (zG 0) qJ (zM (zi zy qx (zi zy (zi zy qH zK) zB))))))))) zC)))
abbrev S6:Stmt:=top 42
def Z3:jg ["_law_state_here","_law_way","_law_rows","_law_many","_law_a","_law_b","_law_far"] ["_law_state_here"] (qE S6):=jI (by kernel_rfl)
def S9 (r:Fn)(w:Fn)(y:Fn):Ex:=zq (zW 1 (zF y (zc zB (zc j4 zl)))) (zq (qZ (zi qL zK ql) (zq (qD (zF r (zc zB zl))) zC) zC) (zq (zW 2 (qg (zV 1 [] (qh (zF r (zc zB zl))) (zG 0) qJ (zM (qg (qb zB)))))) (zq (zW 3 (mQ qt (qb qH))) (zq (qZ (yj (zi qL zK qf) (zi Tq qx qf)) (zq (zW 4 (zF y (zc zB (zc qx zl)))) (zq (zW 5 (zi wC (zi zY (zi zY jq qf) (zF y (zc zB (zc (zi kN qx qf) zl)))) qx)) (zq (wM kj (zi zY qf (zF y (zc zB (zc (zi kN qx qf) zl)))) (zi zy qH jq) yn) (zq (wM kj (zi zy (zi zy qH jq) yn) (zi zy qH yn) jq) (zq (qD (zF w (zc qH zl))) zC))))) zC) (zq (zW 6 (zi zy (zU (zc jw (zc j4 (zc qf zl)))) (zF y (zc zB (zc j4 zl))))) (zq (jK (qT qx) (zG 4) (zq (jK (qT jq) (zG 5) (zq (wM kj (zi zY qf (zF y (zc zB (zc (zi Q4 Z0 (zi kN qx qf)) zl)))) (zi zy qH jq) yn) (zq (wM kj (zi zy (zi zy qH jq) yn) (zi zy qH yn) jq) zC))) zC)) (zq (qD (zF w (zc qH zl))) zC)))))))
abbrev Rc:Stmt:=top 43
def L4:jg ["_law_table_here"] ["_law_table_here"] (qE Rc):=jI (by kernel_rfl)
def Rh:Ex:=zq (qD (zi zY qf (mQ yz (zV 1 [] (qh zB) (zG 0) qJ (zM (mQ yz (qb zB))))))) zC
abbrev SN:Stmt:=top 44
def Wj:jg ["_law_table_here","_law_a","_law_b","_law_many","_law_found","_law_c"] ["_law_table_here","_law_a","_law_b"] (qE SN):=jI (by kernel_rfl)
def Sz (X:Fn):Ex:=zq (zW 3 (zF X (zc zB zl))) (zq (zW 4 (qg (zV 1 [3] (qT qx) (zG 0) qJ (zM (zi jd (zU (zc ql zl)) zK))))) (zq (jK (qT (mQ qt (qb zB))) (zG 5) (zq (JN (zi zy jq (zi zy (zi zy zB zK) yn)) (zi zy (zi zy zB qH) yn) qf) zC)) (zq (qD (mQ yW (zV 1 [] (qh jq) (zG 0) qJ (zM (mQ yW (qb zB)))))) zC)))
abbrev Se:Stmt:=top 45
def Y4:jg ["_law_table_here","_law_found","_law_a","_law_b","_law_shares_here"] ["_law_table_here"] (qE Se):=jI (by kernel_rfl)
def T5 (x:Fn)(X:Fn):Ex:=zq (zW 1 (qg (zV 1 [] (qT (zF x (zc zB zl))) (zG 0) qJ (zM (zU zl))))) (zq (jK (qT (mQ qt (qb zB))) (zG 2) (zq (jK (qT (mQ qt (qb zB))) (zG 3) (zq (zW 4 (zF X (zc zB (zc qH (zc qx zl))))) (zq (qZ (zi ZF jq (zi zy zK (zi zy (zi zy zB qH) qx))) (zq (yk (j0 yq (zi zy zK (zi zy (zi zy zB qH) qx)) jq)) zC) zC) zC))) zC)) (zq (qD zK) zC))
abbrev Sl:Stmt:=top 46
def Lw:jg ["_law_table_here"] ["_law_table_here"] (qE Sl):=jI (by kernel_rfl)
def SD (L:Fn):Ex:=zq (qD (zi qL (mQ yz (zV 1 [] (qh (zF L (zc zB zl))) (zG 0) qJ (zM (mQ qt (qb zB))))) qf)) zC
abbrev SX:Stmt:=top 47
def LY:jg ["_law_thing"] ["_law_thing"] (qE SX):=jI (by kernel_rfl)
def Rl:Ex:=zq (qD (yj (yS .int zB) (yc (yS .bl zB)))) zC
abbrev TR:Stmt:=top 48
def Y2:jg ["_law_state_here","_law_some"] ["_law_state_here"] (qE TR):=jI (by kernel_rfl)
def TX (y:Fn):Ex:=zq (zW 1 (zU (zc gy (zc ql (zc (zE zl) (zc (zE (zc (zE zl) zl)) (zc (zE (zc (zE (zc qf zl)) zl)) (zc (zU (zc (zU (zc ql zl)) zl)) (zc (zE (zc (zU (zc ql zl)) zl)) (zc (zE (zc (zE (zc ql zl)) (zc (zE (zc ql zl)) zl))) (zc (zE (zc (zE (zc ql (zc qf zl))) (zc (zE (zc jw (zc ql zl))) zl))) (zc (zE (zc (zE (zc ql (zc jw zl))) (zc (zE (zc jw (zc ql zl))) zl))) (zc Q9 zl))))))))))))) (zq (zW 1 (zi zY zK (zU (zc (zE (zc (zE (zc ql (zc qf zl))) (zc (zE (zc qf (zc qf zl))) zl))) (zc (zE (zc (zE (zc qJ zl)) zl)) (zc (zE (zc (zE (zc ql (zc qJ zl))) (zc (zE (zc qJ (zc ql zl))) zl))) (zc (zE (zc (zE (zc ql (zc (jn wF qf) zl))) (zc (zE (zc (jn wF qf) (zc ql zl))) zl))) (zc (zE (zc (zE (zc ql (zc qf zl))) (zc (zE (zc qf (zc ql zl))) (zc (zE (zc qf (zc qf zl))) zl)))) zl)))))))) (zq (zW 1 (zi zY zK (zU (zc (zE (zc (zE (zc ql (zc qf (zc jw zl)))) (zc (zE (zc qf (zc ql (zc jw zl)))) (zc (zE (zc jw (zc jw (zc qf zl)))) zl)))) (zc (zo (.str "0")) (zc (zE (zc (zE (zc ql (zc j4 (zc j4 zl)))) (zc (zE (zc j4 (zc ql (zc qf zl)))) (zc (zE (zc j4 (zc qf (zc ql zl)))) zl)))) (zc (zE (zc (zE (zc ql zl)) (zc (zE zl) zl))) (zc (zE (zc ql zl)) zl)))))))) (zq (zW 1 (zi zY zK (zU (zc (zE (zc (zE (zc gy zl)) zl)) (zc (zE (zc (zE (zc ql (zc ql zl))) (zc (zE (zc ql (zc ql zl))) zl))) zl))))) (zq (qD (zi zy zK (zF y (zc zB (zc (zo (.int 23)) zl))))) zC))))
abbrev Ve:Stmt:=top 49
def Iy:jg ["_law_found","_law_due"] ["_law_found","_law_due"] (qE Ve):=jI (by kernel_rfl)
def QH (g:Fn):Ex:=zq (qZ (Xb .tup .lst zK) (zq (qZ (gE (zi jf (yS .tup zB) (yS .tup zK)) (zi jf (yS .lst zB) (yS .lst zK))) gX zC) (zq (qZ (zi jf (mQ qt (qb zB)) (mQ qt (qb zK))) gX zC) (zq (qD (mQ Qn (zV 2 [] (JS zB zK) (jW 0 1) qJ (zM (zF g (zc zB (zc zK zl))))))) zC))) zC) (zq (qD (yj (zi qL zB zK) (zi qL (yS .bl zB) (yS .bl zK)))) zC)
def Vg {K:Frag}(T:Bu mg)(F:w6 K "_law_same" "_law_same" Ve f fd)(hm:mg "_law_same"=some (.ref f)){g:Fn}(kP:zS P w K mg base k "_law_same" 2 g):zS P w K mg base (k+1) "_law_same" 2 (je 2 (QH g)):=
 yb F hm Iy (λ_ _ _ _ _ _=>Jd λ_ _=>rfl) λc A outer s H E h=>zw (j8 (gH (Ab .tup .lst T.jP T.wq T.Qe (by rfl) (by rfl) (zj 1))) (zw (j8 (Jw (GG (yr (wD h) (gj .tup T.jP T.wq (by rfl) (zj 0)) (gj .tup T.jP T.wq (by rfl) (zj 1))) (Gd (yr (wD h) (gj .lst T.jP T.Qe (by rfl) (zj 0)) (gj .lst T.jP T.Qe (by rfl) (zj 1)))))) (zw (qG ka) zO) zO) (zw (j8 (yr (wD h) (yZ T.kf (jX (zj 0))) (yZ T.kf (jX (zj 1)))) (zw (qG ka) zO) zO) (zw (qG (Ko rfl T.KJ (kX (jc (N:=["_law_one","_law_other"]) 2 [] (OY rfl T.NU (zj 0) (zj 1)) (λ_ _ _=>⟨Z7 0 1 rfl (qS (by kernel_rfl)),jb,qW (qu kP h (zm (zj 0) (zm (zj 1) zx)))⟩))))) zO))) zO) (zw (qG (ZI (kU (yJ h) (zj 0) (zj 1)) (QT (kU (yJ h) (gj .bl T.jP T.Gv (by rfl) (zj 0)) (gj .bl T.jP T.Gv (by rfl) (zj 1)))))) zO)
abbrev XM:Stmt:=top 50
def QG:jg ["_law_call","_law_error","e","_law_marks"] ["_law_call"] (qE XM):=jI (by kernel_rfl)
def XD:Ex:=zq (zW 3 (zU (zc (ji (jy ja "NoTable") zK) (zc (ji (jy ja "NotSteady") zK) (zc (ji (jy ja "NoPlace") zK) zl))))) (zq (zW 3 (zi zY qx (zU (zc (ji (jy ja "NoKind") zK) (zc (ji (jy ja "NoMix") zK) (zc (ji (jy ja "NoNumber") zK) zl)))))) (zq (zW 3 (zi zY qx (zU (zc (ji (jy ja "NoLot") zK) (zc (ji (jy ja "NoKinds") zK) (zc (ji (jy ja "NoPaper") zK) zl)))))) (zq (zW 3 (zi zY qx (zU (zc (ji (jy ja "NoParting") zK) (zc (ji (jy ja "NoClosed") zK) (zc (ji (jy ja "TooMany") zK) zl)))))) (zq (zW 3 (zi zY qx (zU (zc (ji (jy ja "NoText") zK) (zc (ji (jy ja "NoLine") zK) (zc (ji (jy ja "NoDeed") zK) zl)))))) (zq (qZ (yc (ji (Tn ja) zK)) (zq (qD gy) zC) zC) (zq (qD (qg (zV 1 [3] (qT (zo (.int 15))) (zG 0) (zi zy zK zB) (zM zB)))) zC))))))
def Y7 (PG:yi)(lam:Nat->Fn):Ex:=zq (zW 1 gy) (zq (K3 0 1 2 ja PG lam) XD)
def LA {K:Frag}(T:Bu mg)(C:wY K ja "NearError")(R:W7.all (Q0 K ja)=true)(F:w6 K "_law_refused" "_law_refused" XM f fd)(hm:mg "_law_refused"=some (.ref f)){PG:yi}{lam:Nat->Fn}(h:kk<=k)(L:∀k,Q6 P w K mg base kk (PG k) (lam k)):zS P w K mg base (k+1) "_law_refused" 1 (je 4 (Y7 PG lam)):=
 yb F hm QG (λ_ _ _ _ _ _=>yX λ_=>rfl) λc A outer s H E r=>zw (qC 1 QG.nd Z9) (zw (BK L (r.mono h) rfl rfl C.top_at C.top_exc (by decide +kernel) C.under QG.nd rfl rfl rfl rfl rfl rfl rfl) (zw (qC 3 QG.nd (q9 (zm (wt (C.isx (jU R)) (wA (jU R)) T.jP (zj 1)) (zm (wt (C.isx (jU R)) (wA (jU R)) T.jP (zj 1)) (zm (wt (C.isx (jU R)) (wA (jU R)) T.jP (zj 1)) zx))) (zp (zp (zp zJ))))) (zw (qC 3 QG.nd (ju (zj 3) (q9 (zm (wt (C.isx (jU R)) (wA (jU R)) T.jP (zj 1)) (zm (wt (C.isx (jU R)) (wA (jU R)) T.jP (zj 1)) (zm (wt (C.isx (jU R)) (wA (jU R)) T.jP (zj 1)) zx))) (zp (zp (zp zJ)))))) (zw (qC 3 QG.nd (ju (zj 3) (q9 (zm (wt (C.isx (jU R)) (wA (jU R)) T.jP (zj 1)) (zm (wt (C.isx (jU R)) (wA (jU R)) T.jP (zj 1)) (zm (wt (C.isx (jU R)) (wA (jU R)) T.jP (zj 1)) zx))) (zp (zp (zp zJ)))))) (zw (qC 3 QG.nd (ju (zj 3) (q9 (zm (wt (C.isx (jU R)) (wA (jU R)) T.jP (zj 1)) (zm (wt (C.isx (jU R)) (wA (jU R)) T.jP (zj 1)) (zm (wt (C.isx (jU R)) (wA (jU R)) T.jP (zj 1)) zx))) (zp (zp (zp zJ)))))) (zw (qC 3 QG.nd (ju (zj 3) (q9 (zm (wt (C.isx (jU R)) (wA (jU R)) T.jP (zj 1)) (zm (wt (C.isx (jU R)) (wA (jU R)) T.jP (zj 1)) (zm (wt (C.isx (jU R)) (wA (jU R)) T.jP (zj 1)) zx))) (zp (zp (zp zJ)))))) (zw (j8 (ZH (gH (EG C.isv T.jP T.IF (by rfl) (zj 1)))) (zw (qG Z9) zO) zO) (zw (qG (yo (jc (N:=["_law_k","_law_marks"]) 1 [3] (jR rfl T.jJ zt) (λ_ _ _=>⟨qB 0 (qS (by kernel_rfl)),Vv (gH (qj (zj 1) (zj 0))),qW (zj 0)⟩)))) zO))))))))
abbrev SR:Stmt:=top 51
def Ji:jg ["_law_table_here","_law_pairs","_law_a","_law_marks","_law_found","_law_one","_law_other"] ["_law_table_here"] (qE SR):=jI (by kernel_rfl)
def Si (X:Fn):Ex:=zq (zW 1 (zU zl)) (zq (jK (qT (mQ qt (qb zB))) (zG 2) (zq (yk (j0 JC zK (qg (zV 1 [2] (qT (mQ qt (qb zB))) (zG 0) qJ (zM (zE (zc zK (zc zB zl)))))))) zC)) (zq (zW 3 (jn gK (qg (zV 1 [0] (qh zK) (zG 0) qJ (zM (zE (zc zB (zc (zE (zc (zi zy (zi zy zK (zi zy zB ql)) (zi zy zB qf)) (zc (zF X (zc zK (zc (zi zy zB ql) (zc (zi zy zB qf) zl)))) zl))) zl)))))))) (zq (zW 4 (zU zl)) (zq (jK (qh zK) (zG 5) (zq (jK (qh zK) (zG 6) (zq (qZ (yj (zi qL (zi zy (zi kD qx yn) ql) (zi zy (zi kD qx Z0) ql)) (zi jf (zi zy (zi kD qx yn) qf) (zi zy (zi kD qx Z0) qf))) (zq (yk (j0 yq jq (zi zY yn Z0))) zC) zC) zC)) zC)) (zq (qD jq) zC)))))
abbrev Ro:Stmt:=top 52
def Y9:jg ["_law_state_here","_law_thing","_law_many","_law_at","_law_odd","_law_some"] ["_law_state_here","_law_thing","_law_many"] (qE Ro):=jI (by kernel_rfl)
def Rw (y:Fn):Ex:=zq (zW 3 (zF y (zc zB (zc Zu zl)))) (zq (zW 4 (zi zy (zU (zc (zF y (zc zB (zc (zi zY qH qf) zl))) (zc qH (zc (jn wF qf) (zc qJ (zc gy (zc (zo (.str "0")) (zc (zE (zc ql zl)) (zc Tt zl))))))))) (zF y (zc zB (zc QA zl))))) (zq (zW 5 (zU (zc (zi zY (zi zY (j3 zK jL (jD qx)) (zE (zc jq zl))) (j3 zK (jD (zi zY qx qf)) jL)) (zc (zi zY (zi zY (j3 zK jL (jD qx)) (zE (zc jq zl))) (j3 zK (jD qx) jL)) (zc (zi zY (j3 zK jL (jD qx)) (j3 zK (jD (zi zY qx qf)) jL)) zl))))) (zq (zW 5 (zi zY yn (zU (zc (KO zK (jn wF qf)) (zc (zi zY (j3 zK (jD jw) jL) (j3 zK jL (jD jw))) (zc (qg (qb zK)) (zc gy (zc Q9 (zc ql (zc (zE (zc zK zl)) zl)))))))))) (zq (qD (zi zy yn (zi zy (zU (zc ql (zc ql (zc ql (zc qf (zc jw (zc j4 (zc Zu (zc Wg (zc Td (zc Tp (zc QA (zc gS zl))))))))))))) (zF y (zc zB (zc (zo (.int 12)) zl)))))) zC))))
abbrev JM:Stmt:=top 53
def Ze:jg ["_law_script","_law_k","_law_state_here","_law_table_here","_law_due","_law_things","_law_known_here","_law_thing","_law_good","_law_bad","_law_calls"] ["_law_script"] (qE JM):=jI (by kernel_rfl)
noncomputable abbrev jV:Str:=(("law":Str)++(".<locals>.":Str))++("<lambda>":Str)
def Yv (a:Fn)(J:Fn)(j:Fn):Lm:=YR (UQ (UX (UR ((wz JM).getD 0 JF) 9)) 0) ["_law_bad"] [9] (zF j (zc zB zl))
def Yw (j:Fn)(J:Fn)(a:Fn):Lm:=YR (UQ (UX (UR ((wz JM).getD 0 JF) 10)) 0) ["_law_bad"] [9] (zF j (zc zB zl))
def Yu (a:Fn)(j:Fn)(J:Fn):Lm:=YR (UQ (UX (UR ((wz JM).getD 0 JF) 11)) 0) ["_law_bad"] [9] (zF j (zc zB (zc (zE (zc ql (zc ql (zc ql (zc ql zl))))) zl)))
def Qd (a:Fn)(j:Fn)(J:Fn):List Lm:=[Yv a j J,Yw a j J,Yu a j J]
section
variable {K:Frag}(T:Bu mg){j5:Fn}(Ya:∀base,yC P w K mg base k "first_break" 1 j5){j7:Fn}(Yi:∀base,yC P w K mg base k "is_break" 2 j7){j6:Fn}(Yf:∀base,yC P w K mg base k "is_steady" 1 j6)
include T Ya Yi Yf
theorem Dv:Qv P w K mg k jV (Yv j5 j7 j6):=
 ⟨⟨rfl,rfl,rfl,Vr (by kernel_rfl)⟩,λ_ _ _ _=>rfl,λbase cl a c A outer s H E h x=>yE (Yl x (Yf base) h (zm (zj 0) zx))⟩
theorem E6:Qv P w K mg k jV (Yw j5 j7 j6):=
 ⟨⟨rfl,rfl,rfl,Vr (by kernel_rfl)⟩,λ_ _ _ _=>rfl,λbase cl a c A outer s H E h x=>yE (Yl x (Ya base) h (zm (zj 0) zx))⟩
theorem Dx:Qv P w K mg k jV (Yu j5 j7 j6):=
 ⟨⟨rfl,rfl,rfl,Vr (by kernel_rfl)⟩,λ_ _ _ _=>rfl,λbase cl a c A outer s H E h x=>yE (Yl x (Yi base) h (zm (zj 0) (zm (qi (zm zt (zm zt (zm zt (zm zt zx)))) (zp (zp (zp (zp zJ))))) zx)))⟩
end
def gV {K:Frag}(T:Bu mg){b:Fn}(a:∀base,yC P w K mg base k "first_break" 1 b){j:Fn}(Y:∀base,yC P w K mg base k "is_break" 2 j){J:Fn}(y:∀base,yC P w K mg base k "is_steady" 1 J):∀t∈Qd b j J,Qv P w K mg k jV t:=
 all_cons (Dv T a Y y) (all_cons (E6 T a Y y) (all_cons (Dx T a Y y) all_nil))
def UL (h:Fn)(E:Fn)(q:Fn)(g:Fn)(u:Fn)(s:Fn)(w:Fn)(y:Fn)(b:Fn)(o:Fn)(N:Fn)(C:Fn)(a:Fn)(j:Fn)(J:Fn)(RF:Nat->List W->Hx->R W)(Pt:Addr)(PF:yi):Ex:=zq (jK (qT (zi Ux qf (zi Q4 (mQ qt (qb zB)) Wg))) (zG 1) (zq (zW 2 (zF u (zc zB (zc zK zl)))) (zq (zW 3 (zF w (zc qH zl))) (zq (zW 4 (zF q (zc qx zl))) (zq (qZ (gE (yc (zF g (zc (zF C (zc qx zl)) (zc (zi qL jq (zU zl)) zl)))) (zi jf (zF s (zc qx zl)) (zi qL jq (zU zl)))) gX zC) (zq (qZ (yc (zF g (zc (zF o (zc qx zl)) (zc (zi zy (zi zY jq (zU (zc gy zl))) ql) zl)))) gX zC) (zq (zW 5 (zi zY (zi zY (JK jq jL (jD qf)) (JK jq (jD (jn wF qf)) jL)) (qg (zV 1 [2,3] (qT j4) (zG 0) qJ (zM (mQ yW (zV 1 [1,2] (qT Zu) (zG 0) qJ (zM (zF y (zc zK (zc (mQ qt (qb qH)) zl))))))))))) (zq (zW 6 (jn gK (qg (zV 1 [] (qh jq) (zG 0) qJ (zM (zE (zc zB (zc qJ zl)))))))) (zq (jK (qh (zi zY yn (qg (zV 1 [2,3] (qh yn) (zG 0) qJ (zM (zF E (zc zK (zc zB (zc (mQ qt (qb qH)) zl))))))))) (zG 7) (zq (zW 8 (yj (yS .tup Qy) (yj (zi qL (qg (zV 1 [] (qh Qy) (zG 0) (yc (zF b (zc zB zl))) (zM zB))) (zU zl)) (zi Qq Qy Z0)))) (zq (qZ (yc (zF g (zc (zF N (zc qx (zc Qy zl))) (zc MR zl)))) gX zC) zC))) (zq (zW 9 (zF h (zc qH zl))) (zq (zW 10 (zU (zc (wV 1 jV Pt 0 (PF 0)) zl))) (zq (yk (j0 yq UT (wV 1 jV Pt 1 (PF 1)))) (zq (yk (j0 yq UT (wV 1 jV Pt 2 (PF 2)))) (zq (qZ (zi jf (qg (YO 1 (qh UT) (zG 0) 0 PF (Qd a j J) RF)) (zi jd (zU (zc (zU (zc ql zl)) zl)) j4)) gX zC) zC)))))))))))))) (zq (qD qJ) zC)
def o_law {K:Frag}(T:Bu mg){Pt:Addr}(F:w6 K "law" "law" JM f fd)(hn:nsIn K mainGlobals "law"=some (some (.ref f)))(D:tabIn K "law"=some (c,Pt))(B:BMain mg base)(C:CodeHd base c Pt){r:Fn}(Jf:zS P w K mg base k "_law_bad_table" 1 r){x:Fn}(QI:zS P w K mg base k "_law_bent" 3 x){o:Fn}(Yb:zS P w K mg base k "_law_breaks" 1 o){g:Fn}(kP:zS P w K mg base k "_law_same" 2 g){u:Fn}(Yc:zS P w K mg base k "_law_state" 2 u){n:Fn}(Jj:zS P w K mg base k "_law_steady" 1 n){i:Fn}(Jn:zS P w K mg base k "_law_table" 1 i){y:Fn}(jQ:zS P w K mg base k "_law_take" 2 y){l:Fn}(Z4:zS P w K mg base k "_law_whole" 1 l){p:Fn}(Jl:zS P w K mg base k "first_break" 1 p){v:Fn}(Zy:zS P w K mg base k "is_break" 2 v){z:Fn}(Jo:zS P w K mg base k "is_steady" 1 z){b:Fn}{J:Fn}{a:Fn}{RF:Nat->List W->Hx->R W}(e:kk<=k)(d:∀t∈Qd b J a,Qv P w K mg j jV t)(I:∀base PG,(∀k,Q6 P w K mg base (j+1) (PG k) (ki (Qd b J a) k))->zS P w K mg base kk "_law_refused" 1 (Ql PG RF)):km P w K mg base gU (k+1) f fd ["_law_script"] (spT K 1 λPF=>je 11 (UL r x o g u n i y l p v z b J a RF Pt PF)):=
 f7 (ls:=Qd b J a) F hn D Ze λA outer s H E h=>zw (kz PassesOwn.never rfl (jR rfl T.jJ (DF rfl T.Qj zt (Vx rfl T.UE (yZ T.kf (jX (zj 0))) zt))) (qB 1 Ze.nd) (zw (qC 2 Ze.nd (qu Yc h (zm (zj 0) (zm (zj 1) zx)))) (zw (qC 3 Ze.nd (qu Jn h (zm (zj 2) zx))) (zw (qC 4 Ze.nd (qu Yb h (zm (zj 3) zx))) (zw (j8 (Jw (GG (ZH (gH (qu kP h (zm (qu Jo h (zm (zj 3) zx)) (zm (kU (yJ h) (zj 4) (q9 zx zJ)) zx))))) (Gd (yr (wD h) (qu Jj h (zm (zj 3) zx)) (kU (yJ h) (zj 4) (q9 zx zJ)))))) (zw (qG ka) zO) zO) (zw (j8 (ZH (gH (qu kP h (zm (qu Jl h (zm (zj 3) zx)) (zm (qj (ju (zj 4) (q9 (zm Z9 zx) (zp zJ))) zt) zx))))) (zw (qG ka) zO) zO) (zw (qC 5 Ze.nd (ju (ju (PR (zj 4) ZR (ZJ zt)) (PR (zj 4) (ZJ (Kw zt)) ZR)) (yo (jc (N:=["_law_lap","_law_state_here","_law_table_here"]) 1 [2,3] (jR rfl T.jJ zt) (λ_ _ _=>⟨qB 0 (qS (by kernel_rfl)),jb,qW (Z6 T.wq (kX (jc (N:=["_law_turn","_law_state_here","_law_table_here"]) 1 [1,2] (jR rfl T.jJ zt) (λ_ _ _=>⟨qB 0 (qS (by kernel_rfl)),jb,qW (qu jQ h (zm (zj 1) (zm (yZ T.kf (jX (zj 2))) zx)))⟩))))⟩))))) (zw (qC 6 Ze.nd (Pb rfl h T.Nq (yo (jc (N:=["_law_thing"]) 1 [] (j9 (zj 4)) (λ_ _ _=>⟨qB 0 (qS (by kernel_rfl)),jb,qW (qi (zm (zj 0) (zm ka zx)) (zp (zp zJ)))⟩))))) (zw (kz PassesOwn.never rfl (j9 (ju (zj 5) (yo (jc (N:=["_law_one","_law_state_here","_law_table_here"]) 1 [2,3] (j9 (zj 5)) (λ_ _ _=>⟨qB 0 (qS (by kernel_rfl)),jb,qW (qu QI h (zm (zj 1) (zm (zj 0) (zm (yZ T.kf (jX (zj 2))) zx))))⟩))))) (qB 7 Ze.nd) (zw (qC 8 Ze.nd (ZI (gj .tup T.jP T.wq (by rfl) (zj 7)) (ZI (kU (yJ h) (yo (jc (N:=["_law_one"]) 1 [] (j9 (zj 7)) (λ_ _ _=>⟨qB 0 (qS (by kernel_rfl)),Vv (ZH (gH (qu Z4 h (zm (zj 0) zx)))),qW (zj 0)⟩))) (q9 zx zJ)) (QT (O7 (f6 h) (zj 7) (zj 6)))))) (zw (j8 (ZH (gH (qu kP h (zm (qu Zy h (zm (zj 3) (zm (zj 7) zx))) (zm (zj 8) zx))))) (zw (qG ka) zO) zO) zO))) (zw (qC 9 Ze.nd (qu Jf h (zm (zj 2) zx))) (zw (qC 10 Ze.nd (q9 (zm (VE (ls:=Qd b J a) (t:=Yv b J a) rfl (by kernel_rfl) B rfl C rfl rfl) zx) (zp zJ))) (zw (gG (Jq (zj 10) (VE (ls:=Qd b J a) (t:=Yw b J a) rfl (by kernel_rfl) B rfl C rfl rfl))) (zw (gG (Jq (zj 10) (VE (ls:=Qd b J a) (t:=Yu b J a) rfl (by kernel_rfl) B rfl C rfl rfl))) (zw (j8 (yr (wD h) (D8 (N:=["_law_call"]) (q:=jV) (λ_=>rfl) d (gg (by kernel_rfl)) I (h.mono e) rfl (cps (by kernel_rfl)) (by kernel_rfl) (j9 (zj 10)) (λ_ _ _=>qB 0 (qS (by kernel_rfl))) rfl (Or.inl rfl) (λ_ _ _=>rfl)) (wu (q9 (zm (q9 (zm zt zx) (zp zJ)) zx) (zp zJ)) zt)) (zw (qG ka) zO) zO) zO)))))))))))))) (zw (qG ka) zO)
def WQ:Fn:=je 1 RH
def QJ:Fn :=  WQ
def RT:Fn:=je 5 R6
def Vn:Fn:=iso RT
def TJ:Fn:=je 2 TH
def Xx:Fn:=iso TJ
def Sr:Fn:=je 1 Ss
def XQ:Fn:=iso Sr
def XT:Fn:=je 6 Sk
def Wr:Fn:=iso XT
def Sg:Fn:=je 2 XJ
def Wm:Fn :=  Sg
def Ka:Fn:=je 4 Va
def jQ:Fn:=gN Ka
def X3:Fn:=je 2 Rn
def Jm:Fn :=  X3
def S7:Fn:=je 1 Rh
def Ye:Fn:=iso S7
def X0:Fn:=je 1 Rl
def Z4:Fn :=  X0
def Yh:Fn:=je 2 (Kb QJ)
def Z5:Fn :=  Yh
def T7:Fn:=je 7 (T9 XQ)
def gF:Fn:=iso T7
def Ra:Fn:=je 3 (X1 Wm)
def Yc:Fn :=  Ra
def XA:Fn:=je 4 (TZ jQ)
def J8:Fn :=  XA
def XY:Fn:=je 11 (X2 jQ)
def WB:Fn :=  XY
def So:Fn:=je 6 (Sz Ye)
def Jk:Fn:=iso So
def XC:Fn:=je 2 (TX jQ)
def Jf:Fn :=  XC
def Vf:Fn:=je 6 (Rw jQ)
def QI:Fn :=  Vf
def Je:Fn:=je 3 (J7 Z5)
def ku:Fn :=  Je
def Sh:Fn:=je 9 (XG gF Wr)
def Wk:Fn:=iso Sh
def Wx:Fn:=je 4 (Rk J8 Jm WB)
def Yd:Fn:=gN Wx
def XH:Fn:=je 5 (T5 Ye Jk)
def Jh:Fn :=  XH
def Ii:Fn:=je 2 (QH (λ_ _=>.bad))
def Rb:Fn :=  Ii
def Ie:Fn:=je 2 (QH Rb)
def SU:Fn :=  Ie
def X8:Fn:=je 2 (QH SU)
def kP:Fn :=  X8
def SK:Fn:=je 7 (Si Jk)
def Yb:Fn:=iso SK
def Kd:Fn:=je 2 (WH Vn ku Xx)
def ZA:Fn :=  Kd
def WA:Fn:=je 7 (S9 Yd Jm jQ)
def Jn:Fn:=gN WA
def Su:Fn:=je 1 (SD Jh)
def Jj:Fn:=iso Su
def Jg:Fn:=Zm 1 (XF ZA)
def gc:Fn:=Zm 1 (XW Wk Jg)
def Jl:Fn:=iso (λws A=>(gc ws A).nox)
def gf:Fn:=Zm 1 (Vd Wk Jg)
def Jo:Fn:=iso (λws A=>(gf ws A).nox)
def gh:Fn:=Zm 6 (WI gF ku Jg)
def Zy:Fn:=(λws A=>(gh ws A).nox)
structure Tx (K:Frag):Prop where
 Hz:FD K "is_whole" RG
 Fq:FD K "is_even" RS
 M3:FD K "leaves_no_kind_out" TK
 LP:FD K "count_kinds" SO
 LI:FD K "first_pairs" Sj
 LB:FD K "_law_cell_at" Sb
 IP:FD K "_law_take" Rv
 Ik:FD K "_law_named" Ri
 Im:FD K "_law_kinds" Rc
 IE:FD K "_law_whole" SX
 IJ:FD K "is_wholes" Rq
 Lu:FD K "count_shares" Sd
 Ic:FD K "_law_state" SV
 Lf:FD K "_law_mixed_row" TY
 Iw:FD K "_law_plain" Rg
 LR:FD K "_law_shares" SN
 Ld:FD K "_law_bad_table" TR
 IT:FD K "_law_bent" Ro
 M8:FD K "is_wholes_below" TN
 Lx:FD K "search_break" Sa
 Io:FD K "_law_known" Rj
 Lo:FD K "_law_by_kind" Se
 X7:FD K "_law_same" Ve
 L6:FD K "_law_breaks" SR
 HW:FD K "is_table" RD
 IB:FD K "_law_table" S6
 LZ:FD K "_law_steady" Sl
 Ll:FD K "require_table" T4
 LW:FD K "first_break" SH
 Hc:FD K "is_steady" Rp
 HC:FD K "is_break" RI
 LF:FD K "_law_refused" XM
 zck:FD K "law" JM
 IH:nsIn K mainGlobals "ValueError"=some none
 zbL:nsIn K mainGlobals "abs"=some none
 zca:nsIn K mainGlobals "all"=some none
 AZ:nsIn K mainGlobals "bool"=some none
 zaP:nsIn K mainGlobals "dict"=some none
 Hd:nsIn K mainGlobals "enumerate"=some none
 zbJ:nsIn K mainGlobals "int"=some none
 Iu:nsIn K mainGlobals "isinstance"=some none
 zcu:nsIn K mainGlobals "len"=some none
 zaW:nsIn K mainGlobals "list"=some none
 zcn:nsIn K mainGlobals "max"=some none
 zco:nsIn K mainGlobals "min"=some none
 Bz:nsIn K mainGlobals "range"=some none
 zbA:nsIn K mainGlobals "set"=some none
 EC:nsIn K mainGlobals "sorted"=some none
 zbE:nsIn K mainGlobals "sum"=some none
 BF:nsIn K mainGlobals "tuple"=some none
 zcG:nsIn K mainGlobals "zip"=some none
 L1:CD K "MOST_PLACES" 8
 zcf:ja.all (Gu K "NearError" ·)=true
 zbY:Uj K "NearError"=true
 zcg:W7.all (Q0 K ja)=true
section
variable {K:Frag}
def bu (X:K.In h)(G:h.Ns mainGlobals mg)(T:Tx K):Bu mg:=⟨aW X G T.IH,aW X G T.zbL,aW X G T.zca,aW X G T.AZ,aW X G T.zaP,aW X G T.Hd,aW X G T.zbJ,aW X G T.Iu,aW X G T.zcu,aW X G T.zaW,aW X G T.zcn,aW X G T.zco,aW X G T.Bz,aW X G T.zbA,aW X G T.EC,aW X G T.zbE,aW X G T.BF,aW X G T.zcG,(let ⟨t,e⟩:=T.L1;⟨t,a7 X G e⟩)⟩
def cl (T:Tx K):wY K ja "NearError":=fF T.zcf T.zbY
structure Zz (K:Frag)(h:Heap)(mg:cg):Prop where
 X:K.In h
 G:h.Ns mainGlobals mg
 T:Tx K
 B:Bu mg
 C:wY K ja "NearError"
def zz (X:K.In h)(G:h.Ns mainGlobals mg)(T:Tx K):Zz K h mg:=⟨X,G,T,bu X G T,cl T⟩
def HD (Z:Zz K h mg):zS P w K mg base 1 "is_whole" 1 QJ:=by
 obtain⟨f,fd,F,a⟩:=Z.T.Hz;exact(yb F (a7 Z.X Z.G a) IQ (λ_ _ _ _ _ _=>yX λ_=>rfl) λc A outer s H E r=>zw (qG (ZI (gj .int Z.B.jP Z.B.JL (by rfl) (zj 0)) (QT (Ow (gj .bl Z.B.jP Z.B.Gv (by rfl) (zj 0)))))) (zO):zS P w K mg base 1 "is_whole" 1 WQ)
def FW (Z:Zz K h mg):zS P w K mg base 1 "is_even" 1 Vn:=by
 obtain⟨f,fd,F,a⟩:=Z.T.Fq;exact(yb F (a7 Z.X Z.G a) Vj (λ_ _ _ _ _ _=>yX λ_=>rfl) λc A outer s H E r=>zw (kz PassesOwn.never rfl (Yp rfl Z.B.Yg (zj 0)) (Z7 1 2 rfl Vj.nd) (zw (kz PassesOwn.never rfl (Yp rfl Z.B.Yg (zj 2)) (Z7 3 4 rfl Vj.nd) (zw (j8 (Jw (GG (yr (wD r) (kU (yJ r) (zj 4) zt) (kU (yJ r) (zj 1) (zj 3))) (Gd (yr (wD r) (qj (qj (zj 0) (zj 3)) (zj 1)) (zj 4))))) (zw (qG ka) zO) zO) zO)) zO)) (zw (qG ka) zO):zS P w K mg base 1 "is_even" 1 RT).iso
def M1 (Z:Zz K h mg):zS P w K mg base 1 "leaves_no_kind_out" 1 Xx:=by
 obtain⟨f,fd,F,a⟩:=Z.T.M3;exact(yb F (a7 Z.X Z.G a) TF (λ_ _ _ _ _ _=>yX λ_=>rfl) λc A outer s H E r=>zw (qC 1 TF.nd (yo (jc (N:=["row","kind"]) 2 [] (j9 (zj 0)) (λ_ _ _=>⟨qB 0 (qS (by kernel_rfl)),jb,BR (λ_ _ z=>z) rfl rfl (by intro _ h;cases h<;>rfl) (j9 (zj 0)) (qB 1 (qS (by kernel_rfl))) jb (qW (zj 1))⟩)))) (zw (qG (Ko rfl Z.B.KJ (kX (jc (N:=["kind","standing"]) 1 [1] (jR rfl Z.B.jJ (QL rfl Z.B.Qj (jX (zj 1)))) (λ_ _ _=>⟨qB 0 (qS (by kernel_rfl)),jb,qW (O7 N9 (zj 0) (zj 1))⟩))))) zO):zS P w K mg base 1 "leaves_no_kind_out" 1 TJ).iso
def LO (Z:Zz K h mg):zS P w K mg base 1 "count_kinds" 1 XQ:=by
 obtain⟨f,fd,F,a⟩:=Z.T.LP;exact(yb F (a7 Z.X Z.G a) Lp (λ_ _ _ _ _ _=>yX λ_=>rfl) λc A outer s H E r=>zw (qG (ju (QL rfl Z.B.Qj (kX (jc (N:=["row"]) 1 [] (j9 (zj 0)) (λ_ _ _=>⟨qB 0 (qS (by kernel_rfl)),jb,qW (QL rfl Z.B.Qj (jX (zj 0)))⟩)))) zt)) (zO):zS P w K mg base 1 "count_kinds" 1 Sr).iso
def L7 (Z:Zz K h mg):zS P w K mg base 1 "first_pairs" 1 Wr:=by
 obtain⟨f,fd,F,a⟩:=Z.T.LI;exact(yb F (a7 Z.X Z.G a) Wl (λ_ _ _ _ _ _=>yX λ_=>rfl) λc A outer s H E r=>zw (qC 1 Wl.nd VZ) (zw (kz PassesOwn.never rfl (Yp rfl Z.B.Yg (zj 0)) (Z7 2 3 rfl Wl.nd) (zw (kz PassesOwn.never rfl (Yp rfl Z.B.Yg (zj 3)) (Z7 4 5 rfl Wl.nd) (zw (gG (Hl (zj 1) (zj 5) (qi (zm (zj 2) (zm (zj 4) zx)) (zp (zp zJ))))) zO)) zO)) (zw (qG (zj 1)) zO)):zS P w K mg base 1 "first_pairs" 1 XT).iso
def Lr (Z:Zz K h mg):zS P w K mg base 1 "_law_cell_at" 2 Wm:=by
 obtain⟨f,fd,F,a⟩:=Z.T.LB;exact(yb F (a7 Z.X Z.G a) Lj (λ_ _ _ _ _ _=>Jd λ_ _=>rfl) λc A outer s H E r=>zw (j8 (yr Ma (zj 1) (yZ Z.B.kf (jX (zj 0)))) (zw (qG (qj (zj 0) (zj 1))) zO) zO) (zw (qG zt) zO):zS P w K mg base 1 "_law_cell_at" 2 Sg)
def kx (Z:Zz K h mg):zS P w K mg base 1 "_law_take" 2 jQ:=by
 obtain⟨f,fd,F,a⟩:=Z.T.IP;exact(yb F (a7 Z.X Z.G a) Wz (λ_ _ _ _ _ _=>Jd λ_ _=>rfl) λc A outer s H E r=>zw (j8 (gH (qj (zj 0) zt)) (zw (qC 2 Wz.nd (QR (qj (zj 0) zt) (zj 1))) (zw (Yt (Yo (qj (zj 0) zt) (zj 1)) (zj 0) zt) (zw (qG (zj 2)) zO))) zO) (zw (Yt (QR (ju (wu (qj (zj 0) zt) zt) zt) zt) (zj 0) zt) (zw (qC 3 Wz.nd (QR (ju (ju (wu (qj (zj 0) zt) (qj (zj 0) zt)) (wu zt (qj (zj 0) zt))) zt) zt)) (zw (qC 3 Wz.nd (QR (ju (wu (zj 3) (zj 3)) (wu zt (zj 3))) zt)) (zw (qG (QR (Yo (zj 3) zt) (zj 1))) zO)))):zS P w K mg base 1 "_law_take" 2 Ka).gN
def X4 (Z:Zz K h mg):zS P w K mg base 1 "_law_named" 1 Jm:=by
 obtain⟨f,fd,F,a⟩:=Z.T.Ik;exact(yb F (a7 Z.X Z.G a) Sx (λ_ _ _ _ _ _=>yX λ_=>rfl) λc A outer s H E r=>zw (qC 1 Sx.nd (II rfl Z.B.De Z.B.zbR (DU rfl Z.B.zcI (yo (jc (N:=["_law_row"]) 1 [] (j9 (zj 0)) (λ_ _ _=>⟨qB 0 (qS (by kernel_rfl)),jb,qW (W9 Z.B.Qe (jX (zj 0)))⟩))) (q9 zx zJ)))) (zw (qG (Z6 Z.B.wq (kX (jc (N:=["_law_row","_law_some"]) 1 [1] (j9 (zj 0)) (λ_ _ _=>⟨qB 0 (qS (by kernel_rfl)),jb,qW (Z6 Z.B.wq (kX (jc (N:=["_law_kind","_law_some"]) 1 [1] (j9 (zj 0)) (λ_ _ _=>⟨qB 0 (qS (by kernel_rfl)),jb,qW (El r (zj 1) (zj 0))⟩))))⟩))))) zO):zS P w K mg base 1 "_law_named" 1 X3)
def SY (Z:Zz K h mg):zS P w K mg base 1 "_law_kinds" 1 Ye:=by
 obtain⟨f,fd,F,a⟩:=Z.T.Im;exact(yb F (a7 Z.X Z.G a) L4 (λ_ _ _ _ _ _=>yX λ_=>rfl) λc A outer s H E r=>zw (qG (ju zt (QL rfl Z.B.Qj (kX (jc (N:=["_law_row"]) 1 [] (j9 (zj 0)) (λ_ _ _=>⟨qB 0 (qS (by kernel_rfl)),jb,qW (QL rfl Z.B.Qj (jX (zj 0)))⟩)))))) (zO):zS P w K mg base 1 "_law_kinds" 1 S7).iso
def IA (Z:Zz K h mg):zS P w K mg base 1 "_law_whole" 1 Z4:=by
 obtain⟨f,fd,F,a⟩:=Z.T.IE;exact(yb F (a7 Z.X Z.G a) LY (λ_ _ _ _ _ _=>yX λ_=>rfl) λc A outer s H E r=>zw (qG (ZI (gj .int Z.B.jP Z.B.JL (by rfl) (zj 0)) (QT (Ow (gj .bl Z.B.jP Z.B.Gv (by rfl) (zj 0)))))) (zO):zS P w K mg base 1 "_law_whole" 1 X0)
def IZ (Z:Zz K h mg):zS P w K mg base 2 "is_wholes" 2 Z5:=by
 obtain⟨f,fd,F,a⟩:=Z.T.IJ;exact(yb F (a7 Z.X Z.G a) ID (λ_ _ _ _ _ _=>Jd λ_ _=>rfl) λc A outer s H E r=>zw (qG (ZI (gj .tup Z.B.jP Z.B.wq (by rfl) (zj 0)) (ZI (kU (yJ r) (yZ Z.B.kf (jX (zj 0))) (zj 1)) (QT (Ko rfl Z.B.KJ (kX (jc (N:=["part"]) 1 [] (j9 (zj 0)) (λ_ _ _=>⟨qB 0 (qS (by kernel_rfl)),jb,qW (qu (HD Z).up r (zm (zj 0) zx))⟩)))))))) (zO):zS P w K mg base 2 "is_wholes" 2 Yh)
def Wn (Z:Zz K h mg):zS P w K mg base 2 "count_shares" 3 gF:=by
 obtain⟨f,fd,F,a⟩:=Z.T.Lu;exact(yb F (a7 Z.X Z.G a) Wi (λ_ _ _ _ _ _=>Xs λ_ _ _=>rfl) λc A outer s H E r=>zw (qC 3 Wi.nd (qu (LO Z).up r (zm (zj 0) zx))) (zw (WG 4 (N:=["kind","many"]) 1 [3] Wi.nd rfl (cps (by kernel_rfl)) (by kernel_rfl) (jR rfl Z.B.jJ (zj 3)) (λ_ _ _=>⟨qB 0 (qS (by kernel_rfl)),jb,qW (wu (q9 (zm zt zx) (zp zJ)) (zj 1))⟩)) (zw (kz PassesOwn.never rfl (OY rfl Z.B.NU (qj (zj 0) (zj 1)) (qj (zj 0) (zj 2))) (Z7 5 6 rfl Wi.nd) (zw (PN (qj (zj 4) (zj 5)) (zj 6) zt) zO)) (zw (qG (Z6 Z.B.wq (kX (jc (N:=["row"]) 1 [] (j9 (zj 4)) (λ_ _ _=>⟨qB 0 (qS (by kernel_rfl)),jb,qW (Z6 Z.B.wq (jX (zj 0)))⟩))))) zO))):zS P w K mg base 2 "count_shares" 3 T7).iso
def Ig (Z:Zz K h mg):zS P w K mg base 2 "_law_state" 2 Yc:=by
 obtain⟨f,fd,F,a⟩:=Z.T.Ic;exact(yb F (a7 Z.X Z.G a) Sn (λ_ _ _ _ _ _=>Jd λ_ _=>rfl) λc A outer s H E r=>zw (qC 2 Sn.nd (qu (Lr Z).up r (zm (zj 0) (zm (zj 1) zx)))) (zw (j8 (yr eA (zj 2) (Ol zt zt)) (zw (qG (q9 (zm (Qb (zj 2) (Ol zt zt)) (zm ka zx)) (zp (zp zJ)))) zO) zO) (zw (qG (q9 (zm (QR (zj 2) zt) (zm ka zx)) (zp (zp zJ)))) zO)):zS P w K mg base 2 "_law_state" 2 Ra)
def T3 (Z:Zz K h mg):zS P w K mg base 2 "_law_mixed_row" 2 J8:=by
 obtain⟨f,fd,F,a⟩:=Z.T.Lf;exact(yb F (a7 Z.X Z.G a) Xz (λ_ _ _ _ _ _=>Jd λ_ _=>rfl) λc A outer s H E r=>zw (qC 2 Xz.nd (W9 Z.B.Qe (jX (zj 1)))) (zw (qC 3 Xz.nd (q9 zx zJ)) (zw (FG 1000 PassesOwn.never (yr (wD r) (zj 2) (q9 zx zJ)) (zw (gG (Jq (zj 3) (FJ (zj 2) (qu (kx Z).up r (zm (zj 0) (zm (yZ Z.B.kf (jX (zj 2))) zx)))))) zO)) (zw (qG (zj 3)) zO))):zS P w K mg base 2 "_law_mixed_row" 2 XA)
def IC (Z:Zz K h mg):zS P w K mg base 2 "_law_plain" 1 WB:=by
 obtain⟨f,fd,F,a⟩:=Z.T.Iw;exact(yb F (a7 Z.X Z.G a) wI (λ_ _ _ _ _ _=>yX λ_=>rfl) λc A outer s H E r=>zw (qC 1 wI.nd (qu (kx Z).up r (zm (zj 0) (zm zt zx)))) (zw (qC 2 wI.nd (qj (q9 (zm zt (zm zt (zm zt (zm zt (zm zt (zm zt (zm zt (zm zt zx)))))))) (zp (zp (zp (zp (zp (zp (zp (zp zJ))))))))) (qu (kx Z).up r (zm (zj 0) (zm zt zx))))) (zw (j8 (yr (yJ r) (zj 1) zt) (zw (qG (yo (jc (N:=["_law_a","_law_many"]) 1 [2] (jR rfl Z.B.jJ (zj 2)) (λ_ _ _=>⟨qB 0 (qS (by kernel_rfl)),jb,qW (yo (jc (N:=["_law_b","_law_a","_law_many"]) 1 [0,1] (jR rfl Z.B.jJ (zj 1)) (λ_ _ _=>⟨qB 0 (qS (by kernel_rfl)),jb,qW (Vx rfl Z.B.UE (V3 Z.B.Uw (Qb (zj 1) (zj 0))) (Qb (zj 2) (V3 Z.B.Uw (Qb (zj 1) (zj 0)))))⟩)))⟩)))) zO) zO) (zw (j8 (yr (yJ r) (zj 1) zt) (zw (qC 2 wI.nd (qj (q9 (zm zt (zm zt (zm zt zx))) (zp (zp (zp zJ)))) (qu (kx Z).up r (zm (zj 0) (zm zt zx))))) (zw (qG (yo (jc (N:=["_law_a","_law_many"]) 1 [2] (jR rfl Z.B.jJ (zj 2)) (λ_ _ _=>⟨qB 0 (qS (by kernel_rfl)),jb,qW (yo (jc (N:=["_law_b","_law_a"]) 1 [0] (jR rfl Z.B.jJ (zj 1)) (λ_ _ _=>⟨qB 0 (qS (by kernel_rfl)),jb,qW (qj (q9 (zm zt (zm zt (zm zt (zm zt (zm zt (zm zt (zm zt (zm zt zx)))))))) (zp (zp (zp (zp (zp (zp (zp (zp zJ))))))))) (Om (zj 1) (zj 0)))⟩)))⟩)))) zO)) zO) (zw (j8 (yr (yJ r) (zj 1) zt) (zw (qG (yo (jc (N:=["_law_a","_law_many"]) 1 [2] (jR rfl Z.B.jJ (zj 2)) (λ_ _ _=>⟨qB 0 (qS (by kernel_rfl)),jb,qW (yo (jc (N:=["_law_b","_law_a"]) 1 [0] (jR rfl Z.B.jJ (zj 1)) (λ_ _ _=>⟨qB 0 (qS (by kernel_rfl)),jb,qW (Kf Z.B.JL (kU (wD r) (zj 1) (zj 0)))⟩)))⟩)))) zO) zO) (zw (j8 (yr (yJ r) (zj 1) zt) (zw (Oq (qj (q9 (zm (qi (zm zt (zm zt zx)) (zp (zp zJ))) (zm (qi (zm zt (zm zt zx)) (zp (zp zJ))) (zm (qi (zm zt (zm zt zx)) (zp (zp zJ))) (zm (qi (zm zt (zm zt zx)) (zp (zp zJ))) (zm (qi (zm zt (zm zt zx)) (zp (zp zJ))) zx))))) (zp (zp (zp (zp (zp zJ)))))) (qu (kx Z).up r (zm (zj 0) (zm zt zx)))) (Z7 3 4 rfl wI.nd)) (zw (qC 2 wI.nd (wu (zj 3) (zj 4))) (zw (qG (yo (jc (N:=["_law_a","_law_many","_law_wide"]) 1 [2,3] (jR rfl Z.B.jJ (zj 2)) (λ_ _ _=>⟨qB 0 (qS (by kernel_rfl)),jb,qW (yo (jc (N:=["_law_b","_law_a","_law_wide"]) 1 [0,2] (jR rfl Z.B.jJ (zj 1)) (λ_ _ _=>⟨qB 0 (qS (by kernel_rfl)),jb,qW (ju (Kf Z.B.JL (kU (wD r) (zj 1) (zj 0))) (Kf Z.B.JL (kU (wD r) (Yo (zj 1) (zj 2)) (Yo (zj 0) (zj 2)))))⟩)))⟩)))) zO))) zO) (zw (j8 (yr (yJ r) (zj 1) zt) (zw (qC 5 wI.nd (q9 (zm (qi (zm zt (zm zt zx)) (zp (zp zJ))) (zm (qi (zm zt (zm zt zx)) (zp (zp zJ))) (zm (qi (zm zt (zm zt zx)) (zp (zp zJ))) (zm (qi (zm zt (zm zt zx)) (zp (zp zJ))) (zm (qi (zm zt (zm zt zx)) (zp (zp zJ))) (zm (qi (zm zt (zm zt zx)) (zp (zp zJ))) zx)))))) (zp (zp (zp (zp (zp (zp zJ)))))))) (zw (qG (yo (jc (N:=["_law_a","_law_some"]) 1 [5] (j9 (zj 5)) (λ_ _ _=>⟨qB 0 (qS (by kernel_rfl)),jb,qW (yo (jc (N:=["_law_b","_law_a"]) 1 [0] (j9 (zj 1)) (λ_ _ _=>⟨qB 0 (qS (by kernel_rfl)),jb,qW (Qb zt (yZ Z.B.kf (kX (jc (N:=["_law_one","_law_b"]) 1 [0] (j9 (zj 1)) (λ_ _ _=>⟨qB 0 (qS (by kernel_rfl)),Vv (Nx N9 (zj 0) (zj 1)),qW (zj 0)⟩)))))⟩)))⟩)))) zO)) zO) (zw (j8 (yr (yJ r) (zj 1) zt) (zw (qC 2 wI.nd (qj (q9 (zm zt (zm zt (zm zt zx))) (zp (zp (zp zJ)))) (qu (kx Z).up r (zm (zj 0) (zm zt zx))))) (zw (qG (yo (jc (N:=["_law_a","_law_many"]) 1 [2] (jR rfl Z.B.jJ (zj 2)) (λ_ _ _=>⟨qB 0 (qS (by kernel_rfl)),jb,qW (yo (jc (N:=["_law_b","_law_a"]) 1 [0] (jR rfl Z.B.jJ (zj 1)) (λ_ _ _=>⟨qB 0 (qS (by kernel_rfl)),jb,qW (Om (zj 1) (zj 0))⟩)))⟩)))) zO)) zO) (zw (qC 3 wI.nd (qj (q9 (zm zt (zm zt (zm zt zx))) (zp (zp (zp zJ)))) (qu (kx Z).up r (zm (zj 0) (zm zt zx))))) (zw (qC 6 wI.nd (q9 (zm zt (zm zt (zm (qj (q9 (zm zt (zm zt zx)) (zp (zp zJ))) (Kf Z.B.JL (kU (yJ r) (zj 3) zt))) (zm zt zx)))) (zp (zp (zp (zp zJ)))))) (zw (qC 7 wI.nd (q9 zx zJ)) (zw (kz PassesOwn.never rfl (jR rfl Z.B.jJ (wu zt (zj 3))) (qB 8 wI.nd) (zw (qC 9 wI.nd (yo (jc (N:=["_law_b","_law_wide","_law_ring","_law_a"]) 1 [3,6,8] (jR rfl Z.B.jJ (wu zt (zj 3))) (λ_ _ _=>⟨qB 0 (qS (by kernel_rfl)),jb,qW (qj (zj 2) (QR (V3 Z.B.Uw (Qb (zj 3) (zj 0))) (zj 1)))⟩)))) (zw (qC 10 wI.nd (yo (jc (N:=["_law_b","_law_wide","_law_a"]) 1 [3,8] (jR rfl Z.B.jJ (wu zt (zj 3))) (λ_ _ _=>⟨qB 0 (qS (by kernel_rfl)),jb,qW (Kf Z.B.JL (kU (wD r) (Yo (zj 2) (zj 1)) (Yo (zj 0) (zj 1))))⟩)))) (zw (j8 (yr (yJ r) (zj 1) zt) (zw (gG (Jq (zj 7) (yo (jc (N:=["_law_b","_law_near","_law_far"]) 1 [9,10] (jR rfl Z.B.jJ (wu zt (zj 3))) (λ_ _ _=>⟨qB 0 (qS (by kernel_rfl)),jb,qW (ju (wu zt (qj (zj 2) (zj 0))) (qj (zj 1) (zj 0)))⟩))))) zO) (zw (gG (Jq (zj 7) (yo (jc (N:=["_law_b","_law_near","_law_far"]) 1 [9,10] (jR rfl Z.B.jJ (wu zt (zj 3))) (λ_ _ _=>⟨qB 0 (qS (by kernel_rfl)),jb,qW (fj (yr (yJ r) (qj (zj 2) (zj 0)) zt) zt (qj (zj 1) (zj 0)))⟩))))) zO)) zO)))) (zw (qG (zj 7)) zO)))))))))))):zS P w K mg base 2 "_law_plain" 1 XY)
def Sw (Z:Zz K h mg):zS P w K mg base 2 "_law_shares" 3 Jk:=by
 obtain⟨f,fd,F,a⟩:=Z.T.LR;exact(yb F (a7 Z.X Z.G a) Wj (λ_ _ _ _ _ _=>Xs λ_ _ _=>rfl) λc A outer s H E r=>zw (qC 3 Wj.nd (qu (SY Z).up r (zm (zj 0) zx))) (zw (WG 4 (N:=["_law_kind","_law_many"]) 1 [3] Wj.nd rfl (cps (by kernel_rfl)) (by kernel_rfl) (jR rfl Z.B.jJ (zj 3)) (λ_ _ _=>⟨qB 0 (qS (by kernel_rfl)),jb,qW (wu (q9 (zm zt zx) (zp zJ)) (zj 1))⟩)) (zw (kz PassesOwn.never rfl (jR rfl Z.B.jJ (yZ Z.B.kf (jX (zj 0)))) (qB 5 Wj.nd) (zw (PN (qj (zj 4) (qj (qj (zj 0) (zj 1)) (zj 5))) (qj (qj (zj 0) (zj 2)) (zj 5)) zt) zO)) (zw (qG (Z6 Z.B.wq (kX (jc (N:=["_law_row"]) 1 [] (j9 (zj 4)) (λ_ _ _=>⟨qB 0 (qS (by kernel_rfl)),jb,qW (Z6 Z.B.wq (jX (zj 0)))⟩))))) zO))):zS P w K mg base 2 "_law_shares" 3 So).iso
def Lc (Z:Zz K h mg):zS P w K mg base 2 "_law_bad_table" 1 Jf:=by
 obtain⟨f,fd,F,a⟩:=Z.T.Ld;exact(yb F (a7 Z.X Z.G a) Y2 (λ_ _ _ _ _ _=>yX λ_=>rfl) λc A outer s H E r=>zw (qC 1 Y2.nd (q9 (zm Z9 (zm zt (zm (qi zx zJ) (zm (qi (zm (qi zx zJ) zx) (zp zJ)) (zm (qi (zm (qi (zm zt zx) (zp zJ)) zx) (zp zJ)) (zm (q9 (zm (q9 (zm zt zx) (zp zJ)) zx) (zp zJ)) (zm (qi (zm (q9 (zm zt zx) (zp zJ)) zx) (zp zJ)) (zm (qi (zm (qi (zm zt zx) (zp zJ)) (zm (qi (zm zt zx) (zp zJ)) zx)) (zp (zp zJ))) (zm (qi (zm (qi (zm zt (zm zt zx)) (zp (zp zJ))) (zm (qi (zm zt (zm zt zx)) (zp (zp zJ))) zx)) (zp (zp zJ))) (zm (qi (zm (qi (zm zt (zm zt zx)) (zp (zp zJ))) (zm (qi (zm zt (zm zt zx)) (zp (zp zJ))) zx)) (zp (zp zJ))) (zm VZ zx))))))))))) (zp (zp (zp (zp (zp (zp (zp (zp (zp (zp (zp zJ))))))))))))) (zw (qC 1 Y2.nd (ju (zj 1) (q9 (zm (qi (zm (qi (zm zt (zm zt zx)) (zp (zp zJ))) (zm (qi (zm zt (zm zt zx)) (zp (zp zJ))) zx)) (zp (zp zJ))) (zm (qi (zm (qi (zm ka zx) (zp zJ)) zx) (zp zJ)) (zm (qi (zm (qi (zm zt (zm ka zx)) (zp (zp zJ))) (zm (qi (zm ka (zm zt zx)) (zp (zp zJ))) zx)) (zp (zp zJ))) (zm (qi (zm (qi (zm zt (zm (Kw zt) zx)) (zp (zp zJ))) (zm (qi (zm (Kw zt) (zm zt zx)) (zp (zp zJ))) zx)) (zp (zp zJ))) (zm (qi (zm (qi (zm zt (zm zt zx)) (zp (zp zJ))) (zm (qi (zm zt (zm zt zx)) (zp (zp zJ))) (zm (qi (zm zt (zm zt zx)) (zp (zp zJ))) zx))) (zp (zp (zp zJ)))) zx))))) (zp (zp (zp (zp (zp zJ)))))))) (zw (qC 1 Y2.nd (ju (zj 1) (q9 (zm (qi (zm (qi (zm zt (zm zt (zm zt zx))) (zp (zp (zp zJ)))) (zm (qi (zm zt (zm zt (zm zt zx))) (zp (zp (zp zJ)))) (zm (qi (zm zt (zm zt (zm zt zx))) (zp (zp (zp zJ)))) zx))) (zp (zp (zp zJ)))) (zm VJ (zm (qi (zm (qi (zm zt (zm zt (zm zt zx))) (zp (zp (zp zJ)))) (zm (qi (zm zt (zm zt (zm zt zx))) (zp (zp (zp zJ)))) (zm (qi (zm zt (zm zt (zm zt zx))) (zp (zp (zp zJ)))) zx))) (zp (zp (zp zJ)))) (zm (qi (zm (qi (zm zt zx) (zp zJ)) (zm (qi zx zJ) zx)) (zp (zp zJ))) (zm (qi (zm zt zx) (zp zJ)) zx))))) (zp (zp (zp (zp (zp zJ)))))))) (zw (qC 1 Y2.nd (ju (zj 1) (q9 (zm (qi (zm (qi (zm Z9 zx) (zp zJ)) zx) (zp zJ)) (zm (qi (zm (qi (zm zt (zm zt zx)) (zp (zp zJ))) (zm (qi (zm zt (zm zt zx)) (zp (zp zJ))) zx)) (zp (zp zJ))) zx)) (zp (zp zJ))))) (zw (qG (qj (zj 1) (qu (kx Z).up r (zm (zj 0) (zm zt zx))))) zO)))):zS P w K mg base 2 "_law_bad_table" 1 XC)
def IK (Z:Zz K h mg):zS P w K mg base 2 "_law_bent" 3 QI:=by
 obtain⟨f,fd,F,a⟩:=Z.T.IT;exact(yb F (a7 Z.X Z.G a) Y9 (λ_ _ _ _ _ _=>Xs λ_ _ _=>rfl) λc A outer s H E r=>zw (qC 3 Y9.nd (qu (kx Z).up r (zm (zj 0) (zm zt zx)))) (zw (qC 4 Y9.nd (qj (q9 (zm (qu (kx Z).up r (zm (zj 0) (zm (ju (zj 2) zt) zx))) (zm (zj 2) (zm (Kw zt) (zm ka (zm Z9 (zm VJ (zm (qi (zm zt zx) (zp zJ)) (zm ka zx)))))))) (zp (zp (zp (zp (zp (zp (zp (zp zJ))))))))) (qu (kx Z).up r (zm (zj 0) (zm zt zx))))) (zw (qC 5 Y9.nd (q9 (zm (ju (ju (QQ (zj 1) ZR (ZJ (zj 3))) (qi (zm (zj 4) zx) (zp zJ))) (QQ (zj 1) (ZJ (ju (zj 3) zt)) ZR)) (zm (ju (ju (QQ (zj 1) ZR (ZJ (zj 3))) (qi (zm (zj 4) zx) (zp zJ))) (QQ (zj 1) (ZJ (zj 3)) ZR)) (zm (ju (QQ (zj 1) ZR (ZJ (zj 3))) (QQ (zj 1) (ZJ (ju (zj 3) zt)) ZR)) zx))) (zp (zp (zp zJ))))) (zw (qC 5 Y9.nd (ju (zj 5) (q9 (zm (EI (zj 1) (Kw zt)) (zm (ju (QQ (zj 1) (ZJ zt) ZR) (QQ (zj 1) ZR (ZJ zt))) (zm (W9 Z.B.Qe (jX (zj 1))) (zm Z9 (zm VZ (zm zt (zm (qi (zm (zj 1) zx) (zp zJ)) zx))))))) (zp (zp (zp (zp (zp (zp (zp zJ)))))))))) (zw (qG (qj (zj 5) (qj (q9 (zm zt (zm zt (zm zt (zm zt (zm zt (zm zt (zm zt (zm zt (zm zt (zm zt (zm zt (zm zt zx)))))))))))) (zp (zp (zp (zp (zp (zp (zp (zp (zp (zp (zp (zp zJ))))))))))))) (qu (kx Z).up r (zm (zj 0) (zm zt zx)))))) zO)))):zS P w K mg base 2 "_law_bent" 3 Vf)
def TQ (Z:Zz K h mg):zS P w K mg base 3 "is_wholes_below" 3 ku:=by
 obtain⟨f,fd,F,a⟩:=Z.T.M8;exact(yb F (a7 Z.X Z.G a) M7 (λ_ _ _ _ _ _=>Xs λ_ _ _=>rfl) λc A outer s H E r=>zw (qG (ZI (qu (IZ Z).up r (zm (zj 0) (zm (zj 1) zx))) (QT (Ko rfl Z.B.KJ (kX (jc (N:=["part","limit"]) 1 [2] (j9 (zj 0)) (λ_ _ _=>⟨qB 0 (qS (by kernel_rfl)),jb,qW (fi U1 Ma zt (zj 0) (zj 1))⟩))))))) (zO):zS P w K mg base 3 "is_wholes_below" 3 Je)
def Sf (Z:Zz K h mg):zS P w K mg base 3 "search_break" 1 Wk:=by
 obtain⟨f,fd,F,a⟩:=Z.T.Lx;exact(yb F (a7 Z.X Z.G a) Y5 (λ_ _ _ _ _ _=>yX λ_=>rfl) λc A outer s H E r=>zw (kz PassesOwn.never rfl (Fw (qu (L7 Z).up r (zm (zj 0) zx))) (FN 1 2 3 rfl Y5.nd) (zw (qC 4 Y5.nd (qu (Wn Z).up r (zm (zj 0) (zm (zj 2) (zm (zj 3) zx))))) (zw (kz PassesOwn.never rfl (Yp rfl Z.B.Yg (zj 0)) (Z7 5 6 rfl Y5.nd) (zw (kz PassesOwn.never rfl (Yp rfl Z.B.Yg (zj 6)) (Z7 7 8 rfl Y5.nd) (zw (j8 (Jw (VO (yr (yJ r) (zj 8) (zj 1)) (VF (yr (wD r) (qu (Wn Z).up r (zm (zj 0) (zm (zj 5) (zm (zj 7) zx)))) (zj 4))))) (zw (qG (qi (zm (zj 2) (zm (zj 3) (zm (zj 5) (zm (zj 7) zx)))) (zp (zp (zp (zp zJ)))))) zO) zO) zO)) zO)) zO))) (zw (qG Z9) zO):zS P w K mg base 3 "search_break" 1 Sh).iso
def Rm (Z:Zz K h mg):zS P w K mg base 3 "_law_known" 1 Yd:=by
 obtain⟨f,fd,F,a⟩:=Z.T.Io;exact(yb F (a7 Z.X Z.G a) Wt (λ_ _ _ _ _ _=>yX λ_=>rfl) λc A outer s H E r=>zw (qC 1 Wt.nd (qu (X4 Z).up r (zm (qu (IC Z).up r (zm (zj 0) zx)) zx))) (zw (qC 2 Wt.nd (qu (T3 Z).up r (zm (zj 0) (zm (HR rfl Z.B.Qe Z.B.jJ (yZ Z.B.kf (jX (zj 1)))) zx)))) (zw (qC 3 Wt.nd (ju (q9 (zm zt zx) (zp zJ)) (qu (T3 Z).up r (zm (zj 0) (zm (HK rfl Z.B.Qe Z.B.jJ zt (ju zt (QL rfl Z.B.Qj (kX (jc (N:=["_law_row"]) 1 [] (j9 (zj 1)) (λ_ _ _=>⟨qB 0 (qS (by kernel_rfl)),jb,qW (QL rfl Z.B.Qj (jX (zj 0)))⟩)))))) zx))))) (zw (qG (Z6 Z.B.wq (kX (jc (N:=["_law_a","_law_rows","_law_order","_law_kinds_here"]) 1 [1,2,3] (j9 (zj 2)) (λ_ _ _=>⟨qB 0 (qS (by kernel_rfl)),jb,qW (Z6 Z.B.wq (kX (jc (N:=["_law_b","_law_a","_law_rows","_law_kinds_here"]) 1 [0,1,3] (j9 (zj 2)) (λ_ _ _=>⟨qB 0 (qS (by kernel_rfl)),jb,qW (qj (zj 3) (qj (qj (zj 2) (zj 1)) (zj 0)))⟩))))⟩))))) zO))):zS P w K mg base 3 "_law_known" 1 Wx).gN
def LD (Z:Zz K h mg):zS P w K mg base 3 "_law_by_kind" 1 Jh:=by
 obtain⟨f,fd,F,a⟩:=Z.T.Lo;exact(yb F (a7 Z.X Z.G a) Y4 (λ_ _ _ _ _ _=>yX λ_=>rfl) λc A outer s H E r=>zw (WG 1 (N:=["_law_kind"]) 1 [] Y4.nd rfl (cps (by kernel_rfl)) (by kernel_rfl) (jR rfl Z.B.jJ (qu (SY Z).up r (zm (zj 0) zx))) (λ_ _ _=>⟨qB 0 (qS (by kernel_rfl)),jb,qW (q9 zx zJ)⟩)) (zw (kz PassesOwn.never rfl (jR rfl Z.B.jJ (yZ Z.B.kf (jX (zj 0)))) (qB 2 Y4.nd) (zw (kz PassesOwn.never rfl (jR rfl Z.B.jJ (yZ Z.B.kf (jX (zj 0)))) (qB 3 Y4.nd) (zw (qC 4 Y4.nd (qu (Sw Z).up r (zm (zj 0) (zm (zj 2) (zm (zj 3) zx))))) (zw (j8 (Nx (Ce r) (zj 4) (qj (zj 1) (qj (qj (zj 0) (zj 2)) (zj 3)))) (zw (gG (Jq (qj (zj 1) (qj (qj (zj 0) (zj 2)) (zj 3))) (zj 4))) zO) zO) zO))) zO)) (zw (qG (zj 1)) zO)):zS P w K mg base 3 "_law_by_kind" 1 XH)
def Il (Z:Zz K h mg):zS P w K mg base 1 "_law_same" 2 Rb:=by
 obtain⟨f,fd,F,a⟩:=Z.T.X7;exact(Vg (k:=0) Z.B F (a7 Z.X Z.G a) (fK (ps:=["_law_found","_law_due"]) F (a7 Z.X Z.G a) (λ_ _ _ _ _ _=>Jd λ_ _=>rfl)))
def IG (Z:Zz K h mg):zS P w K mg base 2 "_law_same" 2 SU:=by
 obtain⟨f,fd,F,a⟩:=Z.T.X7;exact(Vg (k:=1) Z.B F (a7 Z.X Z.G a) (Il Z))
def I9 (Z:Zz K h mg):zS P w K mg base 3 "_law_same" 2 kP:=by
 obtain⟨f,fd,F,a⟩:=Z.T.X7;exact(Vg (k:=2) Z.B F (a7 Z.X Z.G a) (IG Z))
def LX (Z:Zz K h mg):zS P w K mg base 3 "_law_breaks" 1 Yb:=by
 obtain⟨f,fd,F,a⟩:=Z.T.L6;exact(yb F (a7 Z.X Z.G a) Ji (λ_ _ _ _ _ _=>yX λ_=>rfl) λc A outer s H E r=>zw (qC 1 Ji.nd (q9 zx zJ)) (zw (kz PassesOwn.never rfl (jR rfl Z.B.jJ (yZ Z.B.kf (jX (zj 0)))) (qB 2 Ji.nd) (zw (gG (HH (zj 1) (yo (jc (N:=["_law_b","_law_a"]) 1 [2] (jR rfl Z.B.jJ (yZ Z.B.kf (jX (zj 0)))) (λ_ _ _=>⟨qB 0 (qS (by kernel_rfl)),jb,qW (qi (zm (zj 1) (zm (zj 0) zx)) (zp (zp zJ)))⟩))))) zO)) (zw (qC 3 Ji.nd (Pb rfl r Z.B.Nq (yo (jc (N:=["_law_pair","_law_table_here"]) 1 [0] (j9 (zj 1)) (λ_ _ _=>⟨qB 0 (qS (by kernel_rfl)),jb,qW (qi (zm (zj 0) (zm (qi (zm (qj (qj (zj 1) (qj (zj 0) zt)) (qj (zj 0) zt)) (zm (qu (Sw Z).up r (zm (zj 1) (zm (qj (zj 0) zt) (zm (qj (zj 0) zt) zx)))) zx)) (zp (zp zJ))) zx)) (zp (zp zJ)))⟩))))) (zw (qC 4 Ji.nd (q9 zx zJ)) (zw (kz PassesOwn.never rfl (j9 (zj 1)) (qB 5 Ji.nd) (zw (kz PassesOwn.never rfl (j9 (zj 1)) (qB 6 Ji.nd) (zw (j8 (Jw (VO (yr (yJ r) (qj (W6 r (zj 3) (zj 5)) zt) (qj (W6 r (zj 3) (zj 6)) zt)) (VF (yr (wD r) (qj (W6 r (zj 3) (zj 5)) zt) (qj (W6 r (zj 3) (zj 6)) zt))))) (zw (gG (Jq (zj 4) (ju (zj 5) (zj 6)))) zO) zO) zO)) zO)) (zw (qG (zj 4)) zO))))):zS P w K mg base 3 "_law_breaks" 1 SK).iso
def HU (Z:Zz K h mg):zS P w K mg base 4 "is_table" 1 ZA:=by
 obtain⟨f,fd,F,a⟩:=Z.T.HW;exact(yb F (a7 Z.X Z.G a) RA (λ_ _ _ _ _ _=>yX λ_=>rfl) λc A outer s H E r=>zw (j8 (Jw (GG (ZH (gH (gj .tup Z.B.jP Z.B.wq (by rfl) (zj 0)))) (Gd (ZH (fk U1 U1 zt (yZ Z.B.kf (jX (zj 0))) (DJ rfl Z.B.L5.choose_spec)))))) (zw (qG ka) zO) zO) (zw (qC 1 RA.nd (yZ Z.B.kf (jX (zj 0)))) (zw (j8 (ZH (gH (Ko rfl Z.B.KJ (kX (jc (N:=["row","many"]) 1 [1] (j9 (zj 0)) (λ_ _ _=>⟨qB 0 (qS (by kernel_rfl)),jb,qW (qu (TQ Z).up r (zm (zj 0) (zm (zj 1) (zm (zj 1) zx))))⟩)))))) (zw (qG ka) zO) zO) (zw (qG (ZI (qu (FW Z).up r (zm (zj 0) zx)) (QT (qu (M1 Z).up r (zm (zj 0) zx))))) zO))):zS P w K mg base 4 "is_table" 1 Kd)
def Ih (Z:Zz K h mg):zS P w K mg base 4 "_law_table" 1 Jn:=by
 obtain⟨f,fd,F,a⟩:=Z.T.IB;exact(yb F (a7 Z.X Z.G a) Z3 (λ_ _ _ _ _ _=>yX λ_=>rfl) λc A outer s H E r=>zw (qC 1 Z3.nd (qu (kx Z).up r (zm (zj 0) (zm zt zx)))) (zw (j8 (yr (yJ r) (zj 1) zt) (zw (qG (qu (Rm Z).up r (zm (zj 0) zx))) zO) zO) (zw (WG 2 (N:=["_law_row"]) 1 [] Z3.nd rfl (cps (by kernel_rfl)) (by kernel_rfl) (j9 (qu (Rm Z).up r (zm (zj 0) zx))) (λ_ _ _=>⟨qB 0 (qS (by kernel_rfl)),jb,qW (W9 Z.B.Qe (jX (zj 0)))⟩)) (zw (qC 3 Z3.nd (yZ Z.B.kf (jX (zj 2)))) (zw (j8 (Jw (VO (yr (yJ r) (zj 1) zt) (VF (yr ez (zj 3) zt)))) (zw (qC 4 Z3.nd (qu (kx Z).up r (zm (zj 0) (zm (zj 3) zx)))) (zw (qC 5 Z3.nd (QR (ju (ju (zj 4) zt) (qu (kx Z).up r (zm (zj 0) (zm (Qb (zj 3) zt) zx)))) (zj 3))) (zw (Yt (ju zt (qu (kx Z).up r (zm (zj 0) (zm (Qb (zj 3) zt) zx)))) (qj (zj 2) (zj 4)) (zj 5)) (zw (Yt (qj (qj (zj 2) (zj 4)) (zj 5)) (qj (zj 2) (zj 5)) (zj 4)) (zw (qG (qu (X4 Z).up r (zm (zj 2) zx))) zO))))) zO) (zw (qC 6 Z3.nd (qj (q9 (zm zt (zm zt (zm zt zx))) (zp (zp (zp zJ)))) (qu (kx Z).up r (zm (zj 0) (zm zt zx))))) (zw (kz PassesOwn.never rfl (jR rfl Z.B.jJ (zj 3)) (qB 4 Z3.nd) (zw (kz PassesOwn.never rfl (jR rfl Z.B.jJ (zj 4)) (qB 5 Z3.nd) (zw (Yt (ju zt (qu (kx Z).up r (zm (zj 0) (zm (Vx rfl Z.B.UE (zj 6) (Qb (zj 3) zt)) zx)))) (qj (zj 2) (zj 4)) (zj 5)) (zw (Yt (qj (qj (zj 2) (zj 4)) (zj 5)) (qj (zj 2) (zj 5)) (zj 4)) zO))) zO)) (zw (qG (qu (X4 Z).up r (zm (zj 2) zx))) zO))))))):zS P w K mg base 4 "_law_table" 1 WA).gN
def LV (Z:Zz K h mg):zS P w K mg base 4 "_law_steady" 1 Jj:=by
 obtain⟨f,fd,F,a⟩:=Z.T.LZ;exact(yb F (a7 Z.X Z.G a) Lw (λ_ _ _ _ _ _=>yX λ_=>rfl) λc A outer s H E r=>zw (qG (kU (yJ r) (QL rfl Z.B.Qj (kX (jc (N:=["_law_some"]) 1 [] (j9 (qu (LD Z).up r (zm (zj 0) zx))) (λ_ _ _=>⟨qB 0 (qS (by kernel_rfl)),jb,qW (yZ Z.B.kf (jX (zj 0)))⟩)))) zt)) (zO):zS P w K mg base 4 "_law_steady" 1 Su).iso
def XB (Z:Zz K h mg):yC P w K mg base 5 "require_table" 1 Jg:=by
 obtain⟨f,fd,F,a⟩:=Z.T.Ll;exact(GV F (a7 Z.X Z.G a) Lh (λ_ _ _ _ _ _=>yX λ_=>rfl) λc A outer s H E r x=>zw (j8 (Aj (ZH (gH (qu (HU Z).up r (zm (zj 0) zx))))) (zw (HX x (Z.C.exc "NoTable" (by decide +kernel)) (zm VJ zx) (zp zJ)) zO) zO) (zO):yC P w K mg base 5 "require_table" 1 Jg)
def T8 (Z:Zz K h mg):yC P w K mg base 6 "first_break" 1 gc:=by
 obtain⟨f,fd,F,a⟩:=Z.T.LW;exact(GV F (a7 Z.X Z.G a) Ln (λ_ _ _ _ _ _=>yX λ_=>rfl) λc A outer s H E r x=>zw (gG (Yl x (XB Z).up r (zm (zj 0) zx))) (Vy (zw (qG (qu (Sf Z).up r (zm (zj 0) zx))) zO)):yC P w K mg base 6 "first_break" 1 gc)
def LK (Z:Zz K h mg):zS P w K mg base 6 "first_break" 1 Jl:=(T8 Z).m.iso
def S8 (Z:Zz K h mg):yC P w K mg base 6 "is_steady" 1 gf:=by
 obtain⟨f,fd,F,a⟩:=Z.T.Hc;exact(GV F (a7 Z.X Z.G a) Ip (λ_ _ _ _ _ _=>yX λ_=>rfl) λc A outer s H E r x=>zw (gG (Yl x (XB Z).up r (zm (zj 0) zx))) (Vy (zw (qG (kU eK (qu (Sf Z).up r (zm (zj 0) zx)) Z9)) zO)):yC P w K mg base 6 "is_steady" 1 gf)
def IL (Z:Zz K h mg):zS P w K mg base 6 "is_steady" 1 Jo:=(S8 Z).m.iso
def Rz (Z:Zz K h mg):yC P w K mg base 6 "is_break" 2 gh:=by
 obtain⟨f,fd,F,a⟩:=Z.T.HC;exact(GV F (a7 Z.X Z.G a) RB (λ_ _ _ _ _ _=>Jd λ_ _=>rfl) λc A outer s H E r x=>zw (gG (Yl x (XB Z).up r (zm (zj 0) zx))) (Vy (zw (j8 (ZH (gH (qu (TQ Z).up r (zm (zj 1) (zm zt (zm (yZ Z.B.kf (jX (zj 0))) zx)))))) (zw (qG ka) zO) zO) (zw (Oq (zj 1) (EW 2 3 4 5 rfl RB.nd)) (zw (qG (ZI (kU (yJ r) (qj (qj (zj 0) (zj 2)) (zj 3)) (qj (qj (zj 0) (zj 4)) (zj 5))) (QT (kU (wD r) (qu (Wn Z).up r (zm (zj 0) (zm (zj 2) (zm (zj 3) zx)))) (qu (Wn Z).up r (zm (zj 0) (zm (zj 4) (zm (zj 5) zx)))))))) zO)))):yC P w K mg base 6 "is_break" 2 gh)
def HG (Z:Zz K h mg):zS P w K mg base 6 "is_break" 2 Zy:=(Rz Z).m
end
end G
namespace Mi
open PySem L2
section
variable {m:Ev}
def JB (h:m ρ A=.ok (.tup ws) A1):qh m ρ A=.ok ⟨λA i=>(zT (.tup ws) A).map λws=>ws[i]?,ws.length⟩ A1:=by
 unfold qh K1;rw[h,zP]
 rfl
def Yq (h:m ρ A=.ok (.tup ws) A)(l:ws.length<=zR){g:W->W}(he:∀w∈ws,me (some w::cap.map λi=>(ρ[i]?).join) A=.ok (g w) A):
  zV 1 cap (qh m) (zG 0) (zo (.bl true)) (zM me) ρ A=.ok (ws.map g) A:=by
 have e:=Jp (cap:=cap) (me:=me) (ρ:=ρ) (A:=A) (N:=ws.length) (item:=λi=>ws.getD i .non) (g:=λi=>g (ws.getD i .non)) (JB h) rfl l
  (λi H=>by show some ws[i]? =_;rw[aa H,af,aa H];rfl)
  (by show some ws[ws.length]? =_;rw[aI (av _)])
  (λi H=>by
   have:ws.getD i .non=ws[i]:=by rw[af,aa H];rfl
   rw[this];exact he _ (aO H))
 rw[e]
 congr 1
 apply bt
 ·simp
 ·intro i b a
  have H:i<ws.length:=by simpa using a
  simp[af,aa H]
theorem WU (p:α->Bool):∀l:List α,Zc (l.map λx=>W.bl (p x))=some (l.map p)
 |[]=>rfl|x::l=>by
  show(match KW (.bl (p x)),Zc (l.map λx=>W.bl (p x)) with|some k,some ks=>some (k::ks)|_,_=>none)=_
  rw[WU p l];rfl
def Ks {p:α->Bool}{l:List α}(h:∀x∈l,p x=true):Qn (l.map λx=>W.bl (p x)) A=.ok (.bl true) A:=by
 show ZX (λks=>ks.all id) _ A=_;unfold ZX;rw[WU];dsimp only
 have:(l.map p).all id=true:=by
  rw[all_map];exact cD.mpr λx H=>h x H
 rw[this]
theorem VL {f:α->W}(h:∀x,(f x).nr=true):∀l:List α,jl (l.map f)=true
 |[]=>rfl|x::l=>by
  show((f x).nr&&jl (l.map f))=true;rw[h x,VL h l];rfl
def Zw (i j:Int)(A:Hx):qL (.int i) (.int j) A=.ok (.bl (decide (i=j))) A:=by
 show R.ok (W.bl (PyData.eqv (.int i) (.int j))) A=_;simp[PyData.eqv]
 rfl
def Mq (i j:Int)(A:Hx):jf (.int i) (.int j) A=.ok (.bl (!decide (i=j))) A:=by
 show R.ok (W.bl (!PyData.eqv (.int i) (.int j))) A=_;simp[PyData.eqv]
 rfl
def Te (i j:Bool)(A:Hx):jf (.bl i) (.bl j) A=.ok (.bl (!(i==j))) A:=by
 cases i<;>cases j<;>rfl
end
noncomputable def zQ (r:bV):W:=.tup (r.map W.int)
def zr (t:bU):W:=.tup (t.map zQ)
def Br (r:bV):(zQ r).nr=true:=by
 show jl (r.map W.int)=true;exact VL (λ_=>rfl) r
def Kr (t:bU):(zr t).nr=true:=by
 show jl (t.map zQ)=true;exact VL Br t
def Pm {j:jE}{st:W->Ex}{N:Nat}{item:Nat->W}{I:En->Prop}(t:∀i,i<N->j.at_ A i=some (some (item i)))(H:j.at_ A N=some none)
  (s:∀i,i<N->∀ρ,I ρ->∃a,st (item i) ρ A=.ok (.nx a) A/\I a):∀(n i:Nat)(ρ:En),i+n=N->I ρ->∃a,yP j st n i ρ A=.ok (.nx a) A/\I a:=by
 intro n
 induction n with
 |zero=>
  intro i ρ h c
  have:i=N:=by omega
  subst this;exact⟨ρ,Vl H,c⟩
 |succ n d=>
  intro i ρ h c;obtain⟨ρ1,E,g⟩:=s i (by omega) ρ c
  obtain⟨b,e,f⟩:=d (i+1) ρ1 (by omega) g
  exact⟨b,(W5 (t i (by omega)) E).trans e,f⟩
def Ym {m:Ev}(h:m ρ A=.ok (.tup ws) A1):wd m ρ A=.ok (kM (.tup ws) ws.length) A1:=by
 unfold wd;rw[h,zP]
 rfl
def YJ {w:W}(h:ws[i]? =some w):(kM (.tup ws) ws.length).at_ A i=some (some (.tup [.int i,w])):=by
 show atEnd ws i _=_;unfold atEnd;rw[h]
def Yy:(kM (.tup ws) ws.length).at_ A ws.length=some none:=by
 show atEnd ws _ _=_;unfold atEnd;rw[aI (av _)];exact ag rfl
noncomputable def at2 (t:bU)(a b:Nat):Int:=(t.getD a []).getD b 0
structure qN (t:bU):Prop where
 n1:1<=t.length
 n8:t.length<=8
 sq:∀r∈t,r.length=t.length
 lo:∀r∈t,∀v∈r,0<=v/\v<(t.length:Int)
 dg:∀a b,a<t.length->b<t.length->(at2 t a b=0↔a=b)
 sy:∀a b,a<t.length->b<t.length->at2 t a b=at2 t b a
 fu:∀k:Nat,(∃v∈t.flatten,(k:Int)<v)->(k:Int)∈t.flatten
section
variable {a b:Nat}
def Kx (h:a<t.length):(t.map zQ)[a]? =some (zQ (t.getD a [])):=by
 rw[ax,af,aa h];rfl
def yG (h:a<t.length):t.getD a []∈t:=by
 rw[af,aa h];exact aO h
def Qc (h:a<t.length):zy (zr t) (.int a) A=.ok (zQ (t.getD a [])) A:=by
 unfold zy;show(match w5 (t.map zQ) (a:Int) with|some w=>R.ok w A|none=>R.bad)=_
 rw[Gs (Kx h)]
def int_at {r:bV}(h:b<r.length):(r.map W.int)[b]? =some (.int (r.getD b 0)):=by
 rw[ax,af,aa h];rfl
def JJ {r:bV}(h:b<r.length):zy (zQ r) (.int b) A=.ok (.int (r.getD b 0)) A:=by
 unfold zy;show(match w5 (r.map W.int) (b:Int) with|some w=>R.ok w A|none=>R.bad)=_
 rw[Gs (v:=.int (r.getD b 0)) (by rw[ax,af,aa h];rfl)]
end
section
def Dr {j:jE}{c:Option W}(b:∀i,i<ws.length->j.at_ A i=some (some (ws.getD i .non)))(H:j.at_ A ws.length=some none)(he:∀w,me [c,some w] A=.ok w A):
  ∀(f i:Nat)(x:Option W)(acc:List W),i+f=ws.length->acc.length+f<=zR->∃y,qX j (zG 1) (zo (.bl true)) (zM me) f i [c,x] acc A=.ok ([c,y],acc++ws.drop i) A:=by
 intro f
 induction f with
 |zero=>
  intro i x acc h l
  have:i=ws.length:=by omega
  subst this;refine⟨x,?_⟩;unfold qX;rw[H,drop_length,bx]
 |succ f I=>
  intro i x acc h l;have a:i<ws.length:=by omega
  have E:ws.getD i .non=ws[i]:=by rw[af,aa a];rfl
  obtain⟨y,e⟩:=I (i+1) (some ws[i]) (acc++[ws[i]]) (by omega) (by rw[ak,aQ];omega)
  refine⟨y,?_⟩;rw[qX,b i a,E];dsimp only[zG,List.set,zo];rw[zP];dsimp only;have d:zM me [c,some ws[i]] acc A=.ok ([c,some ws[i]],acc++[ws[i]]) A:=by
   unfold zM;rw[he,zP,ag (by omega)]
  rw[d,zP];rw[e,aP]
  congr 3
  rw[List.singleton_append,<- bw a]
def FE {j:jE}(d:∀i,i<t.length->j.at_ A i=some (some (zQ (t.getD i []))))(H:j.at_ A t.length=some none):
  ∀(f i:Nat)(x y:Option W)(acc:List W),i+f=t.length->acc.length+(t.drop i).flatten.length<=zR->
   ∃ρ,qX j (zG 0) (zo (.bl true)) (YG (qh (zh 0)) (zG 1) (zo (.bl true)) (zM (zh 1))) f i [x,y] acc A=.ok (ρ,acc++(t.drop i).flatten.map W.int) A:=by
 intro f
 induction f with
 |zero=>
  intro i x y acc h l
  have:i=t.length:=by omega
  subst this;refine⟨[x,y],?_⟩;unfold qX;rw[H,drop_length];simp
 |succ f I=>
  intro i x y acc h l;have a:i<t.length:=by omega
  have r:t.getD i []=t[i]:=by rw[af,aa a];rfl
  have e:t.drop i=t[i]::t.drop (i+1):=bw a;rw[e,aY,ak]at l;obtain⟨z,E⟩:=Dr (A:=A) (j:=⟨λA i_1=>(zT (zQ t[i]) A).map λws=>ws[i_1]?,(t[i].map W.int).length⟩) (me:=zh 1) (ws:=t[i].map W.int) (c:=some (zQ t[i]))
   (λk b=>by
    show some (t[i].map W.int)[k]? =_;rw[af,aa b];rfl)
   (by show some (t[i].map W.int)[(t[i].map W.int).length]? =_;rw[aI (av _)])
   (λw=>zu rfl) (t[i].map W.int).length 0 y acc (by omega) (by rw[ah];omega)
  rw[List.drop_zero]at E;obtain⟨ρ,n⟩:=I (i+1) (some (zQ t[i])) z (acc++t[i].map W.int) (by omega) (by rw[ak,ah];omega)
  refine⟨ρ,?_⟩;rw[qX,d i a,r];dsimp only[zG,List.set,zo];rw[zP];dsimp only;have g:YG (qh (zh 0)) (zG 1) (zo (.bl true)) (zM (zh 1)) [some (zQ t[i]),y] acc A=.ok ([some (zQ t[i]),z],acc++t[i].map W.int) A:=by
   unfold YG;rw[JB (ws:=t[i].map W.int) (A1:=A) (zu (i:=0) rfl),zP];exact E
  rw[g,zP];rw[n,e,aY,aR,aP]
def CB {m:Ev}(h:m ρ A=.ok (zr t) A)(H:t.flatten.length<=zR):
  zV 2 [] (qh m) (zG 0) (zo (.bl true)) (YG (qh (zh 0)) (zG 1) (zo (.bl true)) (zM (zh 1))) ρ A=.ok (t.flatten.map W.int) A:=by
 have hlen:(t.map zQ).length=t.length:=ah ..;obtain⟨a,e⟩:=FE (t:=t) (A:=A) (j:=⟨λA i=>(zT (zr t) A).map λws=>ws[i]?,(t.map zQ).length⟩) (λi b=>by show some (t.map zQ)[i]? =_;rw[Kx b])
  (by show some (t.map zQ)[t.length]? =_;rw[aI (by omega)]) t.length 0 none none [] (by omega) (by simpa using H)
 unfold zV;rw[JB (ws:=t.map zQ) h,zP];show R.bind (R.nox (qX ⟨λA i=>(zT (zr t) A).map λws=>ws[i]?,(t.map zQ).length⟩ _ _ _ (t.map zQ).length 0 [none,none] [] A)) _=_;rw[hlen]at e ⊢;rw[e];simp
 rfl
end
theorem WD:∀l:bV,intsOf (l.map W.int)=some l
 |[]=>rfl|i::l=>by
  show(match intsOf (l.map W.int) with|some is=>some (i::is)|none=>none)=_
  rw[WD l]
theorem Vw:∀(l:bV)(m:Int),yA l m=m∨yA l m∈l
 |[],_=>.inl rfl|i::l,m=>by
  show yA l (if i > m then i else m)=m∨yA l (if i > m then i else m)∈i::l;rcases Vw l (if i > m then i else m) with e|e
  ·by_cases h:i > m
   ·rw[ag h]at e ⊢;exact .inr (by rw[e];exact ay ..)
   ·rw[aj h]at e ⊢;exact .inl e
  ·exact .inr (aq _ e)
end Mi
namespace G
open PySem L2 Mi
def Dp (h:qN t):t.flatten.length<=64:=by
 have:∀l:bU,(∀r∈l,r.length<=8)->l.flatten.length<=8 * l.length:=by
  intro l
  induction l with
  |nil=>intro _;simp|cons r l i=>
   intro H;have e:=H r (ay ..);have d:=i λb a=>H b (aq _ a);rw[aY,ak,bb];omega
 have c:=h.n8
 have:=this t λr H=>by rw[h.sq r H];exact h.n8
 omega
section
def ZC (h:n<1000000):yg (n:Int)=true:=by
 unfold yg;simp;omega
end
def JA {m:Ev}(h:m ρ A=.ok (.ref n) A1)(H:A1[n]? =some (.lst ws)):qh m ρ A=.ok ⟨λA i=>(zT (.ref n) A).map λws=>ws[i]?,ws.length⟩ A1:=by
 unfold qh K1;rw[h,zP];have e:zT (.ref n) A1=some ws:=by unfold zT;dsimp only;rw[H]
 rw[e]
def QW (h:A[n]? =some (.lst ws)):((zT (.ref n) A).map λws=>ws[i]?)=some ws[i]?:=by
 have e:zT (.ref n) A=some ws:=by unfold zT;dsimp only;rw[h]
 rw[e];rfl
def wR:List Int->Int
 |[]=>0|i::is=>yA is i
def V2 {r:bV}(h:r≠[]):yz (r.map W.int) A=.ok (.int (wR r)) A:=by
 unfold yz;rw[WD];cases r with
 |nil=>exact absurd rfl h|cons i is=>rfl
def Ki {r:bV}(h:r≠[]):wR r∈r:=by
 cases r with
 |nil=>exact absurd rfl h|cons i is=>
  rcases Vw is i with e|e
  ·show yA is i∈_;rw[e];exact ay ..
  ·exact aq _ e
def jm (t:bU):Int:=wR (t.map wR)+1
section
def _root_.Mi.qN.row_ne (h:qN t){r:bV}(H:r∈t):r≠[]:=λe=>by
 have a:=h.sq r H;have b:=h.n1;rw[e,length_nil]at a;omega
def _root_.Mi.qN.map_ne (h:qN t):t.map wR≠[]:=λe=>by
 have:=h.n1
 rw[List.map_eq_nil_iff]at e;rw[e]at this;simp at this
def Q2 (h:qN t):1<=jm t/\jm t<=8:=by
 obtain⟨r,H,e⟩:=cy.mp (Ki h.map_ne)
 have:=h.lo r H _ (Ki (h.row_ne H))
 have:=h.n8
 unfold jm;rw[<- e];omega
def UH (h:qN t){a b:Nat}(H:a<t.length)(d:b<t.length):0<=at2 t a b/\at2 t a b<8:=by
 have c:=h.sq _ (yG H)
 have:(t.getD a []).getD b 0∈t.getD a []:=by
  rw[af (l:=t.getD a []),aa (by omega)];exact aO _
 have e:=h.lo _ (yG H) _ this
 have:=h.n8
 unfold at2;omega
def JI (h:q ρ A=.ok ws A1):mQ yW q ρ A=.ok (.tup ws) A1:=(yK h).trans rfl
end
end G
namespace Mi
open PySem L2
def wJ {w:W}{s:Nat}(h:A[n]? =some (.lst ws))(H:ws[s]? =some w):zy (.ref n) (.int (s:Int)) A=.ok w A:=by
 unfold zy;have e:zT (.ref n) A=some ws:=by unfold zT;dsimp only;rw[h]
 rw[e];dsimp only;rw[Gs H]
def jS {u:O}(h:A[n]? =some o):(A++[u])[n]? =some o:=by
 have:=(cA.mp h).1
 rw[ai this];exact h
def qF {u:O}:(A++[u])[A.length]? =some u:=by simp
theorem Ua:∀(n:Nat)(ks:bV),ks.Nodup->(∀r∈ks,0<=r/\r<(n:Int))->ks.length<=n
 |0,ks,_,h=>by
  cases ks with
  |nil=>exact av _|cons r l=>have:=h r (ay ..);omega
 |n+1,ks,nd,h=>by
  by_cases hm:(n:Int)∈ks
  ·have c:=Ua n (ks.erase (n:Int)) (nd.erase _) λr H=>by
    have b:=h r (List.mem_of_mem_erase H);have a:r≠(n:Int):=λz=>(List.Nodup.mem_erase_iff nd).mp H |>.1 z;omega
   rw[List.length_erase_of_mem hm]at c;omega
  ·have:=Ua n ks nd λr H=>by
    have b:=h r H;have a:r≠(n:Int):=λz=>hm (z ▸ H);omega
   omega
noncomputable def wG (μ:Nat->Nat->Int)(a b:Nat)(k:Int):Nat->Nat->Int:=λi j=>if i=a/\j=b then k else μ i j
structure Mu (n:Nat)(μ:Nat->Nat->Int)(c:Nat)(done:Nat->Nat->Prop):Prop where
 dg:∀i,μ i i=0
 sy:∀i j,μ i j=μ j i
 dn:∀i j,i<j->j<n->done i j->1<=μ i j/\μ i j<=(c:Int)
 un:∀i j,i<j->j<n->¬done i j->μ i j=0
 fu:∀k:Nat,1<=k->k<=c->∃i j,i<n/\j<n/\μ i j=(k:Int)
noncomputable def yL (n:Nat)(μ:Nat->Nat->Int):bU:=(List.range n).map λi=>(List.range n).map (μ i)
def QS (H:i<n)(h:j<n):at2 (yL n μ) i j=μ i j:=by
 unfold at2 yL;rw[af (l:=(List.range n).map λi=>(List.range n).map (μ i)),ax,a6 H];show((List.range n).map (μ i)).getD j 0=_;rw[af,ax,a6 h]
 rfl
def Mu.tab {c:Nat}{d:Nat->Nat->Prop}(h:Mu n μ c d)(all:∀i j,i<j->j<n->d i j)(n1:1<=n)(n8:n<=8)(z:n=1∨c<n):qN (yL n μ):=by
 have len:(yL n μ).length=n:=by unfold yL;simp
 have val:∀i j,i<n->j<n->i≠j->1<=μ i j/\μ i j<=(c:Int):=λi j H f ne=>by
  rcases Nat.lt_or_gt_of_ne ne with q|q
  ·exact h.dn i j q f (all i j q f)
  ·rw[h.sy];exact h.dn j i q H (all j i q H)
 have mem:∀r∈yL n μ,∀v∈r,∃i j,i<n/\j<n/\v=μ i j:=λr g v p=>by
  unfold yL at g;obtain⟨i,H,rfl⟩:=cy.mp g;obtain⟨j,f,rfl⟩:=cy.mp p;exact⟨i,j,cB.mp H,cB.mp f,rfl⟩
 have I:∀i j,i<n->j<n->μ i j∈(yL n μ).flatten:=λi j H f=>List.mem_flatten.mpr ⟨_,cy.mpr ⟨i,cB.mpr H,rfl⟩,cy.mpr ⟨j,cB.mpr f,rfl⟩⟩;refine⟨by rw[len];exact n1,by rw[len];exact n8,λr g=>?_,λr g v p=>?_,λa b o l=>?_,λa b o l=>?_,λk y=>?_⟩
 ·rw[len]
  unfold yL at g;obtain⟨i,H,rfl⟩:=cy.mp g;simp
 ·rw[len]
  obtain⟨i,j,H,f,rfl⟩:=mem r g v p
  by_cases q:i=j
  ·subst q;rw[h.dg];omega
  ·have:=val i j H f q
   omega
 ·rw[len]at o l
  rw[QS o l]
  constructor
  ·intro e
   by_cases q:a=b
   ·exact q
   ·have:=val a b o l q;omega
  ·intro e;subst e;exact h.dg a
 ·rw[len]at o l
  rw[QS o l,QS l o];exact h.sy a b
 ·obtain⟨v,p,t⟩:=y
  obtain⟨r,g,s⟩:=List.mem_flatten.mp p;obtain⟨i,j,H,f,rfl⟩:=mem r g v s
  by_cases k0:k=0
  ·subst k0
   have:=I 0 0 (by omega) (by omega)
   rw[h.dg]at this;exact this
  ·by_cases q:i=j
   ·subst q;rw[h.dg]at t;omega
   ·have:=val i j H f q
    obtain⟨x,J,w,u,e⟩:=h.fu k (by omega) (by omega)
    have:=I x J w u
    rw[e]at this;exact this
end Mi
namespace G
open PySem L2 Mi
def KG {i j:Int}(H:-(2 ^ 64)<i)(h:i<2 ^ 64):jd (.int i) (.int j) A=.ok (.int (i * j)) A:=by
 unfold jd;dsimp only;rw[ag];unfold KY;rw[bP,ar,ao,ao];exact .inl ⟨H,h⟩
def JG {i j:Int}(h:0<j):wC (.int i) (.int j) A=.ok (.int (i%j)) A:=by
 unfold wC QD;dsimp only;rw[ag];unfold GW;exact az h
def O8 {i j:Int}(h:0<j)(H:j<1152921504606846976):ZV (.int i) (.int j) A=.ok (.int (i/j)) A:=by
 unfold ZV QD;dsimp only;rw[ag];unfold GP;rw[ar,ao,ao];exact⟨h,H⟩
def g0 {c m:Int}(h:0<m)(H:m<1000000000000000):Ka [.ref 0,.int m] [.lst [.int c,.bl true]]=.ok (.int (c%m)) [.lst [.int (c/m),.bl true]]:=by
 refine qQ ?_;unfold Va;refine qv (A1:=[.lst [.int (c/m),.bl true]]) ?_;refine(wB (A1:=[.lst [.int c,.bl true]]) rfl).trans ?_;refine(zH (ρ1:=[some (.ref 0),some (.int m),some (.int (c%m)),none]) (A1:=[.lst [.int c,.bl true]]) ?_).trans ?_
 ·refine(qI (w:=.int (c%m)) (A1:=[.lst [.int c,.bl true]]) ?_).trans rfl
  exact(zL (x:=.int c) (y:=.int m) (A1:=[.lst [.int c,.bl true]]) (A2:=[.lst [.int c,.bl true]]) rfl rfl).trans (JG h)
 ·refine(zH (ρ1:=[some (.ref 0),some (.int m),some (.int (c%m)),none]) (A1:=[.lst [.int (c/m),.bl true]]) ?_).trans rfl
  have e:zi ZV (zi zy (zh 0) (zo (.int 0))) (zh 1) [some (.ref 0),some (.int m),some (.int (c%m)),none] [.lst [.int c,.bl true]]=.ok (.int (c/m)) [.lst [.int c,.bl true]]:=
   (zL (x:=.int c) (y:=.int m) (A1:=[.lst [.int c,.bl true]]) (A2:=[.lst [.int c,.bl true]]) rfl rfl).trans (O8 h (by omega))
  unfold wM;rw[e,zP]
  rfl
noncomputable def Jc (c:Int):Int:=(c * 48271+29)%2147483647
noncomputable def gB (d:Int):Int:=(d * d+39373 * d+7)%2147483629
noncomputable def gQ (e:Int):Int:=(e * e+16807 * e)%2147483587
def UJ (c:Int):0<=Jc c/\Jc c<2147483647:=⟨emod_nonneg _ (by decide),bN _ (by decide)⟩
def g7 (c:Int):0<=gB c/\gB c<2147483629:=⟨emod_nonneg _ (by decide),bN _ (by decide)⟩
def AX {c m:Int}(i:0<=c)(h:c<2147483647)(H:0<m)(j:m<1000000000000000):Ka [.ref 0,.int m] [.lst [.int c,.bl false]]=.ok (.int (gQ (gB (Jc c))/8%m)) [.lst [.int (Jc c),.bl false]]:=by
 have k:=UJ c;refine qQ ?_;unfold Va;refine(zH (ρ1:=[some (.ref 0),some (.int m),none,none]) (A1:=[.lst [.int c,.bl false]]) ((yQ (A1:=[.lst [.int c,.bl false]]) rfl).trans rfl)).trans ?_;have g:zi wC (zi zY (zi jd (zi zy (zh 0) (zo (.int 0))) (zo (.int 48271))) (zo (.int 29))) (zo (.int 2147483647)) [some (.ref 0),some (.int m),none,none] [.lst [.int c,.bl false]]=.ok (.int (Jc c)) [.lst [.int c,.bl false]]:=by
  have em:zi jd (zi zy (zh 0) (zo (.int 0))) (zo (.int 48271)) [some (.ref 0),some (.int m),none,none] [.lst [.int c,.bl false]]=.ok (.int (c * 48271)) [.lst [.int c,.bl false]]:=
   (zL (x:=.int c) (y:=.int 48271) (A1:=[.lst [.int c,.bl false]]) (A2:=[.lst [.int c,.bl false]]) rfl rfl).trans (KG (by omega) (by omega))
  refine(zL (x:=.int (c * 48271+29)) (y:=.int 2147483647) (A1:=[.lst [.int c,.bl false]]) (A2:=[.lst [.int c,.bl false]]) ((zL em rfl).trans rfl) rfl).trans ?_;exact JG (by decide)
 refine(zH (ρ1:=[some (.ref 0),some (.int m),none,none]) (A1:=[.lst [.int (Jc c),.bl false]]) ?_).trans ?_
 ·unfold wM
  rw[g,zP]
  rfl
 generalize Jc c=d at*;have b:zi wC (zi zY (zi zY (zi jd (zi zy (zh 0) (zo (.int 0))) (zi zy (zh 0) (zo (.int 0)))) (zi jd (zo (.int 39373)) (zi zy (zh 0) (zo (.int 0))))) (zo (.int 7))) (zo (.int 2147483629)) [some (.ref 0),some (.int m),none,none] [.lst [.int d,.bl false]]=
   .ok (.int (gB d)) [.lst [.int d,.bl false]]:=by
  have em:zi jd (zi zy (zh 0) (zo (.int 0))) (zi zy (zh 0) (zo (.int 0))) [some (.ref 0),some (.int m),none,none] [.lst [.int d,.bl false]]=.ok (.int (d * d)) [.lst [.int d,.bl false]]:=
   (zL (x:=.int d) (y:=.int d) (A1:=[.lst [.int d,.bl false]]) (A2:=[.lst [.int d,.bl false]]) rfl rfl).trans (KG (by omega) (by omega))
  have E:zi jd (zo (.int 39373)) (zi zy (zh 0) (zo (.int 0))) [some (.ref 0),some (.int m),none,none] [.lst [.int d,.bl false]]=.ok (.int (39373 * d)) [.lst [.int d,.bl false]]:=
   (zL (x:=.int 39373) (y:=.int d) (A1:=[.lst [.int d,.bl false]]) (A2:=[.lst [.int d,.bl false]]) rfl rfl).trans (KG (by decide) (by decide))
  have s:zi zY (zi jd (zi zy (zh 0) (zo (.int 0))) (zi zy (zh 0) (zo (.int 0)))) (zi jd (zo (.int 39373)) (zi zy (zh 0) (zo (.int 0)))) [some (.ref 0),some (.int m),none,none] [.lst [.int d,.bl false]]=.ok (.int (d * d+39373 * d)) [.lst [.int d,.bl false]]:=
   (zL em E).trans rfl
  refine(zL (x:=.int (d * d+39373 * d+7)) (y:=.int 2147483629) (A1:=[.lst [.int d,.bl false]]) (A2:=[.lst [.int d,.bl false]]) ((zL s rfl).trans rfl) rfl).trans ?_;exact JG (by decide)
 refine(zH (ρ1:=[some (.ref 0),some (.int m),none,some (.int (gB d))]) (A1:=[.lst [.int d,.bl false]]) ((qI b).trans rfl)).trans ?_;have B:=g7 d;generalize gB d=e at*;have a:zi wC (zi zY (zi jd (zh 3) (zh 3)) (zi jd (zo (.int 16807)) (zh 3))) (zo (.int 2147483587)) [some (.ref 0),some (.int m),none,some (.int e)] [.lst [.int d,.bl false]]=.ok (.int (gQ e)) [.lst [.int d,.bl false]]:=by
  have em:zi jd (zh 3) (zh 3) [some (.ref 0),some (.int m),none,some (.int e)] [.lst [.int d,.bl false]]=.ok (.int (e * e)) [.lst [.int d,.bl false]]:=
   (zL (x:=.int e) (y:=.int e) (A1:=[.lst [.int d,.bl false]]) (A2:=[.lst [.int d,.bl false]]) rfl rfl).trans (KG (by omega) (by omega))
  have E:zi jd (zo (.int 16807)) (zh 3) [some (.ref 0),some (.int m),none,some (.int e)] [.lst [.int d,.bl false]]=.ok (.int (16807 * e)) [.lst [.int d,.bl false]]:=
   (zL (x:=.int 16807) (y:=.int e) (A1:=[.lst [.int d,.bl false]]) (A2:=[.lst [.int d,.bl false]]) rfl rfl).trans (KG (by decide) (by decide))
  refine(zL (x:=.int (e * e+16807 * e)) (y:=.int 2147483587) (A1:=[.lst [.int d,.bl false]]) (A2:=[.lst [.int d,.bl false]]) ((zL em E).trans rfl) rfl).trans ?_;exact JG (by decide)
 refine(zH (ρ1:=[some (.ref 0),some (.int m),none,some (.int (gQ e))]) (A1:=[.lst [.int d,.bl false]]) ((qI a).trans rfl)).trans ?_;generalize gQ e=f at*;refine qv (qV ?_);refine(zL (x:=.int (f/8)) (y:=.int m) (A1:=[.lst [.int d,.bl false]]) (A2:=[.lst [.int d,.bl false]]) ?_ rfl).trans (JG H);exact(zL (x:=.int f) (y:=.int 8) (A1:=[.lst [.int d,.bl false]]) (A2:=[.lst [.int d,.bl false]]) rfl rfl).trans (O8 (by decide) (by decide))
def qU (n:Nat)(A:Hx):Prop:=∃c b,A[n]? =some (.lst [.int c,.bl b])/\0<=c/\(b=false->c<2147483647)
def O6 (h:qU n A){m:Int}(H:0<m)(g:m<1000000000000000):∃r o,jQ [.ref n,.int m] A=.ok (.int r) (A.set n o)/\0<=r/\r<m/\qU n (A.set n o):=by
 obtain⟨c,b,f,d,i⟩:=h;have hn:n<A.length:=(cA.mp f).1;have fin:∀(r C:Int),Ka [.ref 0,.int m] [.lst [.int c,.bl b]]=.ok (.int r) [.lst [.int C,.bl b]]->jQ [.ref n,.int m] A=.ok (.int r) (A.set n (.lst [.int C,.bl b])):=λr C e=>by
  unfold jQ gN;dsimp only;rw[f];dsimp only;have a:(jl [W.int c,W.bl b]&&jl [W.int m])=true:=rfl;rw[ag a,e]
  rfl
 cases b with
 |true=>
  refine⟨c%m,_,fin _ _ (g0 H g),emod_nonneg _ (by omega),bN _ H,c/m,true,aJ hn,Int.ediv_nonneg d (by omega),λz=>nomatch z⟩
 |false=>
  exact⟨_,_,fin _ _ (AX d (i rfl) H g),emod_nonneg _ (by omega),bN _ H,Jc c,false,aJ hn,(UJ c).1,λ_=>(UJ c).2⟩
end G
namespace Mi
open PySem L2
def QK {xs ys:List W}(h:A[n]? =some (.lst xs))(a:A[k]? =some (.lst ys))(H:xs.length+ys.length<=zR):zY (.ref n) (.ref k) A=.ok (.ref A.length) (A++[.lst (xs++ys)]):=by
 unfold zY;dsimp only;rw[h,a];dsimp only;rw[ag H]
def Ext (A A':Hx):Prop:=∃l,A'=A++l
def Ext.refl:Ext A A:=⟨[],by simp⟩
def Ext.trans {C:Hx}(a:Ext A B)(b:Ext B C):Ext A C:=let ⟨l,e⟩:=a;let ⟨k,f⟩:=b;⟨l++k,by rw[f,e,aP]⟩
def Ext.one:Ext A (A++[o]):=⟨[o],rfl⟩
def Ext.at {A':Hx}(x:Ext A A')(h:A[n]? =some o):A'[n]? =some o:=by
 obtain⟨l,rfl⟩:=x
 have:=(cA.mp h).1
 rw[ai this];exact h
def Cg {j:jE}{ifs:Ev}{N:Nat}{I:Nat->En->List W->Hx->Prop}
  (H:∀i ρ acc A,i<N->I i ρ acc A->∃w ρ1,j.at_ A i=some (some w)/\tw w ρ=some ρ1/\((∃A1 c a A2,ifs ρ1 A=.ok (.bl true) A1/\em ρ1 acc A1=.ok (c,a) A2/\I (i+1) c a A2)∨(∃A1,ifs ρ1 A=.ok (.bl false) A1/\I (i+1) ρ1 acc A1)))
  (e:∀ρ acc A,I N ρ acc A->j.at_ A N=some none):
  ∀(f i:Nat)(ρ:En)(acc:List W)(A:Hx),i+f=N->I i ρ acc A->∃d b A',qX j tw ifs em f i ρ acc A=.ok (d,b) A'/\I N d b A':=by
 intro f
 induction f with
 |zero=>
  intro i ρ acc A h g
  have:i=N:=by omega
  subst this;refine⟨ρ,acc,A,?_,g⟩;unfold qX;rw[e _ _ _ g]
 |succ f l=>
  intro i ρ acc A h g;obtain⟨w,ρ1,p,o,n⟩:=H i ρ acc A (by omega) g
  rw[qX,p];dsimp only;rw[o];dsimp only;rcases n with ⟨A1,c,a,A2,k,q,E⟩|⟨A1,k,E⟩
  ·rw[k,zP]
   dsimp only;rw[q,zP];exact l (i+1) _ _ _ (by omega) E
  ·rw[k,zP]
   dsimp only;exact l (i+1) _ _ _ (by omega) E
def Js {nl:Nat}{j:jE}{ifs:Ev}{N:Nat}{I:Nat->En->List W->Hx->Prop}(hm:mi ρ A=.ok j A1)(f:j.len=N)
  (h:∀i ρ acc A,i<N->I i ρ acc A->∃w ρ1,j.at_ A i=some (some w)/\tw w ρ=some ρ1/\((∃A1 d b A2,ifs ρ1 A=.ok (.bl true) A1/\em ρ1 acc A1=.ok (d,b) A2/\I (i+1) d b A2)∨(∃A1,ifs ρ1 A=.ok (.bl false) A1/\I (i+1) ρ1 acc A1)))
  (H:∀ρ acc A,I N ρ acc A->j.at_ A N=some none)(h0:I 0 (Qg nl cap ρ) [] A1):∃c a A',zV nl cap mi tw ifs em ρ A=.ok a A'/\I N c a A':=by
 obtain⟨c,a,A',e,g⟩:=Cg h H N 0 _ _ _ (by omega) h0
 refine⟨c,a,A',?_,g⟩;unfold zV;rw[hm,zP,f,e]
 rfl
def gi {j:jE}{st:W->Ex}{N:Nat}{I:Nat->En->Hx->Prop}
  (H:∀i ρ A,i<N->I i ρ A->∃w ρ1 A1,j.at_ A i=some (some w)/\st w ρ A=.ok (.nx ρ1) A1/\I (i+1) ρ1 A1)(d:∀ρ A,I N ρ A->j.at_ A N=some none):
  ∀(f i:Nat)(ρ:En)(A:Hx),i+f=N->I i ρ A->∃a A',yP j st f i ρ A=.ok (.nx a) A'/\I N a A':=by
 intro f
 induction f with
 |zero=>
  intro i ρ A h b
  have:i=N:=by omega
  subst this;exact⟨ρ,A,Vl (d _ _ b),b⟩
 |succ f c=>
  intro i ρ A h b;obtain⟨w,ρ1,A1,k,g,e⟩:=H i ρ A (by omega) b
  rw[W5 k g];exact c (i+1) _ _ (by omega) e
def Ju {acc:List W}{y:W}(h:me ρ A=.ok y A1)(H:acc.length<zR):zM me ρ acc A=.ok (ρ,acc++[y]) A1:=by
 unfold zM;rw[h,zP,ag H]
theorem take_succ {l:List α}(h:i<l.length):l.take (i+1)=l.take i++[l[i]]:=by
 rw[List.take_succ,aa h];rfl
def Ext.app {l:Hx}(x:Ext A B):Ext A (B++l):=x.trans ⟨l,rfl⟩
def Ext.len (x:Ext A B):A.length<=B.length:=by obtain⟨l,rfl⟩:=x;simp
def Za (h:A[n]? =some o):n<A.length:=(cA.mp h).1
end Mi
namespace G
open PySem L2 Mi
def GB {w:W}(H:A[n]? =some (.lst ws))(h:ws[i]? =some w):((zT (.ref n) A).map λws=>ws[i]?)=some (some w):=by
 rw[QW H,h]
def GD (H:A[n]? =some (.lst ws))(h:ws.length<=i):((zT (.ref n) A).map λws=>ws[i]?)=some none:=by
 rw[QW H,aI h]
theorem Gm:∀(l:bV)(m:Int),m<=yA l m/\∀x∈l,x<=yA l m
 |[],m=>⟨Int.le_refl _,λx h=>by cases h⟩|y::l,m=>by
  unfold yA
  split
  ·rename_i c
   obtain⟨b,a⟩:=Gm l y;refine⟨by omega,λx H=>?_⟩
   rcases cz.mp H with rfl|H
   ·exact b
   ·exact a x H
  ·rename_i c
   obtain⟨b,a⟩:=Gm l m;refine⟨b,λx H=>?_⟩;rcases cz.mp H with rfl|H
   ·omega
   ·exact a x H
theorem RC:∀{l:List α}{k:Nat}{w:α},l[k]? =some w->l.Perm (w::l.eraseIdx k)
 |[],_,_,h=>by simp at h|x::l,0,w,h=>by
  simp at h;subst h;simp
 |x::l,k+1,w,h=>by
  rw[List.getElem?_cons_succ]at h;rw[List.eraseIdx_cons_succ];exact((RC h).cons x).trans (List.Perm.swap w x _)
def Hy {i:Int}{w:W}(h:A[n]? =some (.lst ws))(hw:ws[k]? =some w)(H:yg i=true)(e:seqIndex? i ws.length=some k):ZO (.ref n) (.int i) A=.ok w (A.set n (.lst (ws.eraseIdx k))):=by
 unfold ZO;dsimp only;rw[h];dsimp only;rw[ag H,e];dsimp only;rw[hw]
def hh (h:k<n):seqIndex? (k:Int) n=some k:=by
 have:=PySem.StrLaws.seqIndex_nonneg (i:=(k:Int)) (n:=n) (by omega) (by omega)
 rw[aH]at this;exact this
def F6 {w:W}(h:A[n]? =some (.lst ws))(hw:ws[k]? =some w)(H:k<1000000):ZO (.ref n) (.int (k:Int)) A=.ok w (A.set n (.lst (ws.eraseIdx k))):=
 Hy h hw (G.ZC H) (hh (cA.mp hw).1)
theorem R7 {β:Type}(f:α->β):∀(l:List α)(k:Nat),(l.map f).eraseIdx k=(l.eraseIdx k).map f
 |[],_=>rfl|_::_,0=>rfl|a::l,k+1=>by
  rw[aN,List.eraseIdx_cons_succ,List.eraseIdx_cons_succ,aN,R7 f l k]
def QM {a b:Ev}{y:W}(c:a ρ A=.ok (.ref n) A)(d:A[n]? =some (.lst ws))(H:b ρ A=.ok y A1):j0 g a b ρ A=g (.ref n) y A1:=by
 unfold j0;have h:YX (.ref n) A=true:=by unfold YX;dsimp only;rw[d]
 rw[c,zP,ag h,H,zP]
def WK {y:W}(h:A[n]? =some (.lst ws))(H:ws.length<1000):yq (.ref n) y A=.ok .non (A.set n (.lst (ws++[y]))):=by
 unfold yq;dsimp only;rw[h];dsimp only;rw[ag (by unfold zR;omega)]
def Ox {f:Fn}{us:List W}{c C:Int}{b B:Bool}{w:W}(a:A[n]? =some (.lst [.int c,.bl b]))(H:jl us=true)(h:f (.ref 0::us) [.lst [.int c,.bl b]]=.ok w A1)(g:A1[0]? =some (.lst [.int C,.bl B]))(hw:w.nr=true):gN f (.ref n::us) A=.ok w (A.set n (.lst [.int C,.bl B])):=by
 unfold gN;dsimp only;rw[a];dsimp only;have e:(jl [W.int c,W.bl b]&&jl us)=true:=by rw[H];rfl
 rw[ag e,h];dsimp only;rw[List.head?_eq_getElem?,g];dsimp only;have d:(jl [W.int C,W.bl B]&&w.nr)=true:=by rw[hw];rfl
 rw[ag d]
noncomputable abbrev iL (l:b8):List W:=l.map λ(a:Nat)=>W.int (a:Int)
def F9 {m:Ev}(h:m ρ A=.ok (.int (n:Int)) A1)(hn:n<=100):Kq m ρ A=.ok (.ref A1.length) (A1++[.lst (iL (List.range n))]):=by
 unfold Kq;rw[h,zP];dsimp only;rw[ZC (by omega),aH,az (by unfold zR;omega)]
 rfl
def Df {m:Ev}{o:List α}{f:α->W}{G:α->W}(h:m ρ A=.ok (.tup (o.map f)) A)(l:o.length<=zR)(he:∀a∈o,me (some (f a)::cap.map λi=>(ρ[i]?).join) A=.ok (G a) A):
  zV 1 cap (qh m) (zG 0) (zo (.bl true)) (zM me) ρ A=.ok (o.map G) A:=by
 by_cases h0:o=[]
 ·subst h0
  have e:=Jp (cap:=cap) (me:=me) (ρ:=ρ) (A:=A) (N:=0) (item:=λ_=>.non) (g:=λ_=>.non) (JB h) rfl (by unfold zR;omega) (λi H=>by omega) rfl (λi H=>by omega)
  exact e
 ·obtain⟨x,c⟩:∃x,x∈o:=List.exists_mem_of_ne_nil o h0
  have e:=Jp (cap:=cap) (me:=me) (ρ:=ρ) (A:=A) (N:=o.length) (item:=λi=>f (o.getD i x)) (g:=λi=>G (o.getD i x)) (JB h) (ah ..) l
   (λi H=>by show some (o.map f)[i]? =_;rw[ax,aa H,af,aa H];rfl)
   (by show some (o.map f)[o.length]? =_;rw[aI (by rw[ah];exact av _)])
   (λi H=>by
    have:o.getD i x=o[i]:=by rw[af,aa H];rfl
    rw[this];exact he _ (aO H))
  rw[e]
  congr 1
  apply bt
  ·simp
  ·intro i d b
   have H:i<o.length:=by simpa using b
   simp[af,aa H]
def Y8 {β:Type}(o:List α)(x:α)(f:α->β):o.map f=(List.range o.length).map λi=>f (o.getD i x):=by
 apply bt
 ·simp
 ·intro i H a
  have h:i<o.length:=by simpa using H
  simp[af,aa h]
def Jy (q:∀r∈t,r.length=t.length){v:Int}(h:v∈t.flatten):∃a b,a<t.length/\b<t.length/\at2 t a b=v:=by
 obtain⟨r,H,e⟩:=List.mem_flatten.mp h;obtain⟨a,d,g⟩:=bG H;obtain⟨b,c,f⟩:=bG e;refine⟨a,b,d,by rw[<- q r H];exact c,?_⟩
 unfold at2;have E:t.getD a []=r:=by rw[af,aa d];exact g
 rw[E,af,aa c];exact f
def Gq (q:∀r∈t,r.length=t.length){a b:Nat}(e:a<t.length)(d:b<t.length):∃r∈t,at2 t a b∈r/\at2 t a b∈t.flatten:=by
 have H:t.getD a []∈t:=yG e;have c:at2 t a b∈t.getD a []:=by
  unfold at2;have h:b<(t.getD a []).length:=by rw[q _ H];exact d
  rw[af (l:=t.getD a []),aa h];exact aO _
 exact⟨_,H,c,List.mem_flatten.mpr ⟨_,H,c⟩⟩
def V5 {r:bV}{x:Int}(h:x∈r):x<=wR r:=by
 cases r with
 |nil=>cases h|cons i is=>
  show x<=yA is i;rcases cz.mp h with rfl|h
  ·exact(Gm is x).1
  ·exact(Gm is i).2 x h
section
def Um (h:qN t){a b:Nat}(d:a<t.length)(c:b<t.length):at2 t a b<jm t:=by
 obtain⟨r,H,e,_⟩:=Gq h.sq d c;have f:=V5 e;have E:=V5 (cy.mpr ⟨r,H,rfl⟩:wR r∈t.map wR);unfold jm;omega
def V1 (h:qN t):jm t-1∈t.flatten:=by
 obtain⟨r,H,e⟩:=cy.mp (Ki h.map_ne)
 have:jm t-1=wR r:=by unfold jm;omega
 rw[this];exact List.mem_flatten.mpr ⟨r,H,Ki (h.row_ne H)⟩
def Au (h:qN t):jm t<=(t.length:Int):=by
 obtain⟨r,a,H⟩:=List.mem_flatten.mp (V1 h)
 have:=h.lo r a _ H
 omega
def Nr (h:qN t){v:Nat}(H:(v:Int)<jm t):∃a b,a<t.length/\b<t.length/\at2 t a b=(v:Int):=by
 by_cases e:(v:Int)=jm t-1
 ·rw[e];exact Jy h.sq (V1 h)
 ·exact Jy h.sq (h.fu v ⟨_,V1 h,by omega⟩)
noncomputable def yF (p:b8):bV:=0::p.map λ(k:Nat)=>1+(k:Int)
def Q7 (t:bU)(p o:b8):bU:=o.map λa=>o.map λb=>(yF p).getD (at2 t a b).toNat 0
def OD {p:b8}{v:Nat}(H:1<=v)(h:v<=p.length):(yF p).getD v 0=1+((p[v-1]'(by omega):Nat):Int):=by
 obtain⟨v,rfl⟩:∃u,v=u+1:=⟨v-1,by omega⟩
 unfold yF;rw[af,List.getElem?_cons_succ,ax,aa (by omega)]
 rfl
def Ft (h:qN t){p o:b8}(hp:p.Perm (List.range (jm t-1).toNat))(f:o.Perm (List.range t.length)):qN (Q7 t p o)/\(Q7 t p o).length=t.length:=by
 have l:o.length=t.length:=by rw[f.length_eq,a8]
 have L:=Q2 h;have K:=Au h;have z:p.length=(jm t-1).toNat:=by rw[hp.length_eq,a8]
 have n1:=h.n1;have H:∀i,o.getD i 0<t.length:=λi=>by
  by_cases hi:i<o.length
  ·rw[af,aa hi]
   exact cB.mp (f.mem_iff.mp (aO hi))
  ·rw[af,aI (by omega)]
   exact n1
 have s:o.Nodup:=(f.nodup_iff).mpr List.nodup_range;have r:∀a,a<t.length->∃i,i<t.length/\o.getD i 0=a:=λa x=>by
  obtain⟨i,hi,e⟩:=bG (f.mem_iff.mpr (cB.mpr x));exact⟨i,by omega,by rw[af,aa hi];exact e⟩
 have c:∀q (g:q<p.length),p[q]<p.length:=λq g=>by
  have:=cB.mp (hp.mem_iff.mp (aO g))
  omega
 have M:Mu t.length (λi j=>(yF p).getD (at2 t (o.getD i 0) (o.getD j 0)).toNat 0) p.length (λ_ _=>True):=by
  refine⟨λi=>?_,λi j=>?_,λi j A y _=>?_,λi j _ _ hn=>absurd trivial hn,λk k1 J=>?_⟩
  ·show(yF p).getD (at2 t (o.getD i 0) (o.getD i 0)).toNat 0=0
   rw[(h.dg _ _ (H i) (H i)).mpr rfl]
   rfl
  ·show(yF p).getD (at2 t (o.getD i 0) (o.getD j 0)).toNat 0=(yF p).getD (at2 t (o.getD j 0) (o.getD i 0)).toNat 0
   rw[h.sy _ _ (H i) (H j)]
  ·show 1<=(yF p).getD (at2 t (o.getD i 0) (o.getD j 0)).toNat 0/\(yF p).getD (at2 t (o.getD i 0) (o.getD j 0)).toNat 0<=(p.length:Int)
   have n:o.getD i 0≠o.getD j 0:=by
    have w:i<o.length:=by omega
    have u:j<o.length:=by omega
    rw[af,aa w,af,aa u];intro e;have I:o[i]=o[j]:=e
    have:=(List.getElem_inj s).mp I
    omega
   have d:=h.dg _ _ (H i) (H j);have Q:=UH h (H i) (H j);have P:=Um h (H i) (H j);have N:at2 t (o.getD i 0) (o.getD j 0)≠0:=λe=>n (d.mp e);rw[OD (by omega) (by omega)]
   have:=c ((at2 t (o.getD i 0) (o.getD j 0)).toNat-1) (by omega)
   omega
  ·obtain⟨q,g,e⟩:=bG (hp.mem_iff.mpr (cB.mpr (by omega:k-1<(jm t-1).toNat)))
   obtain⟨a,b,x,B,D⟩:=Nr h (v:=q+1) (by omega)
   obtain⟨i,hi,C⟩:=r a x;obtain⟨j,y,E⟩:=r b B;refine⟨i,j,hi,y,?_⟩;show(yF p).getD (at2 t (o.getD i 0) (o.getD j 0)).toNat 0=(k:Int);rw[C,E,D,aH,OD (by omega) (by omega)]
   have:p[q+1-1]'(by omega)=k-1:=e
   rw[this];omega
 have hT:Q7 t p o=yL t.length (λi j=>(yF p).getD (at2 t (o.getD i 0) (o.getD j 0)).toNat 0):=by
  unfold Q7 yL;rw[Y8 o 0,l]
  congr 1
  funext i
  rw[Y8 o 0 (λb=>(yF p).getD (at2 t (o.getD i 0) b).toNat 0),l]
 refine⟨?_,by unfold Q7;rw[ah,l]⟩
 rw[hT];exact M.tab (λ_ _ _ _=>trivial) n1 h.n8 (.inr (by omega))
end
end G
namespace Mi
open PySem L2
def O1 {r b:Nat}{v:W}(h:A[r]? =some (.lst ws))(H:b<ws.length):kj (.ref r) (.int (b:Int)) v A=.ok () (A.set r (.lst (ws.set b v))):=by
 have e:gW ws.length (b:Int)=some b:=by unfold gW;rw[ag (by omega),ag (by omega),aH]
 unfold kj;dsimp only;rw[h];dsimp only;rw[e]
structure Kp (n:Nat)(A B:Hx):Prop where
 len:A.length<=B.length
 at_:∀i,i<A.length->i≠n->B[i]? =A[i]?
section
variable {C:Hx}
def Kp.refl:Kp n A A:=⟨av _,λ_ _ _=>rfl⟩
theorem Kp.trans (a:Kp n A B)(b:Kp n B C):Kp n A C:=⟨bg a.len b.len,λi H h=>(b.at_ i (aE H a.len) h).trans (a.at_ i H h)⟩
theorem Kp.set:Kp n A (A.set n o):=⟨by rw[length_set];exact av _,λi _ h=>aG (Ne.symm h)⟩
def Kp.ext (x:Ext A B):Kp n A B:=by
 obtain⟨l,rfl⟩:=x;exact⟨by simp,λi h _=>ai h⟩
def Kp.put (a:Kp n A B)(h:A.length<=k):Kp n A (B.set k o):=⟨by rw[length_set];exact a.len,λi b H=>by rw[aG (by omega)];exact a.at_ i b H⟩
def Kp.get (a:Kp n A B)(h:A[i]? =some o)(hn:i≠n):B[i]? =some o:=by rw[a.at_ i (Za h) hn];exact h
end
def WY:(yL n μ).length=n:=by unfold yL;simp
def V6:∀r∈yL n μ,r.length=(yL n μ).length:=λr h=>by
 obtain⟨i,_,rfl⟩:=cy.mp h;rw[WY];simp
end Mi
namespace G
open PySem L2 Mi
section
abbrev Sq (t:bU):Prop:=∀r∈t,r.length=t.length
end
def US (t:bU):Bool:=decide (1<=t.length)&&(decide (t.length<=8)&&((t.all λr=>r.length==t.length&&r.all λv=>decide (0<=v)&&decide (v<(t.length:Int)))&&
 (((List.range t.length).all λa=>(List.range t.length).all λb=>(decide (at2 t a b=0)==decide (a=b))&&decide (at2 t a b=at2 t b a))&&(List.range 8).all λk=>!(t.flatten.any λv=>decide ((k:Int)<v)) || t.flatten.contains (k:Int))))
def Bt (h:US t=true):qN t:=by
 unfold US at h;rw[ar,ar,ar,ar,ao,ao]at h;obtain⟨n1,n8,i,s,hf⟩:=h;have rw_:∀r∈t,r.length=t.length/\∀v∈r,0<=v/\v<(t.length:Int):=λr hm=>by
  have:=cD.mp i r hm
  rw[ar,aM]at this;refine⟨this.1,λv d=>?_⟩
  have:=cD.mp this.2 v d
  rw[ar,ao,ao]at this;exact this
 have at_:∀a b,a<t.length->b<t.length->(decide (at2 t a b=0)==decide (a=b))=true/\at2 t a b=at2 t b a:=λa b c H=>by
  have:=cD.mp (cD.mp s a (cB.mpr c)) b (cB.mpr H)
  rw[ar,ao]at this;exact this
 refine⟨n1,n8,λr hm=>(rw_ r hm).1,λr hm=>(rw_ r hm).2,λa b c H=>?_,λa b c H=>(at_ a b c H).2,λk j=>?_⟩
 ·have:=aM.mp (at_ a b c H).1
  by_cases q:a=b
  ·rw[az q]at this;exact⟨λ_=>q,λ_=>of_decide_eq_true this⟩
  ·rw[aD q]at this;exact⟨λz=>absurd z (of_decide_eq_false this),λz=>absurd z q⟩
 ·obtain⟨v,d,f⟩:=j
  obtain⟨r,hm,e⟩:=List.mem_flatten.mp d
  have:=(rw_ r hm).2 v e
  have g:=cD.mp hf k (cB.mpr (by omega))
  rw[bP]at g;rcases g with z|z
  ·exfalso
   have:(t.flatten.any λv=>decide ((k:Int)<v))=true:=List.any_eq_true.mpr ⟨v,d,az f⟩
   rw[this]at z;cases z
  ·exact List.contains_iff_mem.mp z
def gz (t:bU):((zr t).nr&&true)=true:=by rw[Kr];rfl
noncomputable def kJ:W->Bool
 |.int _=>true|_=>false
def Zh {m:Ev}{w:W}{ty c:Ty}(h:m ρ A=.ok w A1)(H:jO w A1=some ty):yS c m ρ A=.ok (.bl (kE ty c)) A1:=by
 unfold yS;rw[h,zP,H]
def Uy (h:ρ[i]? =some (some (.tup ws))):mQ qt (qb (zh i)) ρ A=.ok (.int ws.length) A:=by
 rw[yK (kS (w:=.tup ws) (A1:=A) (zu h) rfl)]
 rfl
def Bl {v n:Int}(H:ρ[i]? =some (some (.int v)))(hn:me ρ A=.ok (.int n) A):kL Zv J5 (zo (.int 0)) (zh i) me ρ A=.ok (.bl (decide (0<=v)&&decide (v<n))) A:=by
 unfold kL;rw[qM,zP,zu H,zP];show R.bind (R.ok (W.bl (decide ((0:Int)<=v))) A) _=_
 by_cases h:0<=v
 ·rw[az h,zP]
  dsimp only;rw[hn,zP]
  rfl
 ·rw[aD h,zP]
  rfl
def HV (i:Int)(A:Hx):QJ [.int i] A=.ok (.bl true) A:=by
 unfold QJ WQ;exact qQ (w:=.bl true) (A1:=A) rfl
def Ez {r:bV}(h:r.length<=8)(A:Hx):Z5 [zQ r,.int r.length] A=.ok (.bl true) A:=by
 unfold Z5 Yh;refine qQ ?_;unfold Kb;refine qv (qV ?_);refine(gI (A1:=A) rfl).trans ?_;have e:mQ qt (qb (zh 0)) [some (zQ r),some (.int r.length)] A=.ok (.int r.length) A:=by
  rw[yK (kS (w:=zQ r) (A1:=A) (zu rfl) rfl)];unfold qt;rw[ah]
 refine(gI (A1:=A) ((zL e (zu (i:=1) rfl)).trans ((Zw _ _ _).trans (by rw[az rfl])))).trans ?_
 have E:=Yq (cap:=[]) (A:=A) (ρ:=[some (zQ r),some (.int r.length)]) (ws:=r.map W.int) (me:=zF QJ (zc (zh 0) zl)) (g:=λ_=>.bl true) (zu (i:=0) rfl) (by rw[ah];unfold zR;omega) (λw hw=>by
  obtain⟨i,_,rfl⟩:=cy.mp hw;exact(qp (ws:=[.int i]) (A1:=A) rfl).trans (HV i A))
 exact(yK E).trans (Ks (p:=λ_=>true) λ_ _=>rfl)
def Bx {r:bV}(l:r.length<=8)(H:∀v∈r,0<=v/\v<r.length)(A:Hx):ku [zQ r,.int r.length,.int r.length] A=.ok (.bl true) A:=by
 unfold ku Je;refine qQ ?_;unfold J7;refine qv (qV ?_);refine(gI (A1:=A) ((qp (ws:=[zQ r,.int r.length]) (A1:=A) rfl).trans (Ez l A))).trans ?_;have e:=Yq (cap:=[2]) (A:=A) (ρ:=[some (zQ r),some (.int r.length),some (.int r.length)]) (ws:=r.map W.int) (me:=kL Zv J5 (zo (.int 0)) (zh 0) (zh 1)) (g:=λ_=>.bl true) (zu (i:=0) rfl) (by rw[ah];unfold zR;omega) (λw hw=>by
  obtain⟨v,h,rfl⟩:=cy.mp hw;obtain⟨b,a⟩:=H v h;unfold kL;rw[qM,zP,zu (i:=0) (w:=.int v) rfl,zP];show R.bind (R.ok (W.bl (decide ((0:Int)<=v))) A) _=_;rw[az b,zP];dsimp only;rw[zu (i:=1) (w:=.int r.length) rfl,zP];show R.ok (W.bl (decide (v<(r.length:Int)))) A=_;rw[az a])
 exact(yK e).trans (Ks (p:=λ_=>true) λ_ _=>rfl)
def hE (h:qN t)(A:Hx):Vn [zr t] A=.ok (.bl true) A:=by
 refine Zf (A1:=[]) (gz t) rfl (qQ ?_);unfold R6;obtain⟨d,e,_⟩:=Pm (A:=[]) (N:=t.length) (item:=λi=>.tup [.int i,zQ (t.getD i [])]) (I:=λρ=>∃g Y y y4,ρ=[some (zr t),g,Y,y,y4])
  (j:=kM (zr t) (t.map zQ).length) (st:=turn (jW 1 2) (zq (jK (wd (zh 2)) (jW 3 4) (zq (qZ (gE (zi jf (zi qL (zh 4) (zo (.int 0))) (zi qL (zh 1) (zh 3))) (zi jf (zi zy (zi zy (zh 0) (zh 3)) (zh 1)) (zh 4))) (zq (qD (zo (.bl false))) zC) zC) zC)) zC))
  (λi k=>YJ (Kx k)) (by have:=Yy (A:=[]) (ws:=t.map zQ);rw[ah]at this;rw[ah];exact this) (λa f ρ H=>by
   obtain⟨g,Y,y,y4,rfl⟩:=H;have l:=h.sq _ (yG f);obtain⟨n,E,o,Z,p⟩:=Pm (A:=[]) (N:=t.length) (item:=λi=>.tup [.int i,.int ((t.getD a []).getD i 0)]) (I:=λρ=>∃y y4,ρ=[some (zr t),some (.int a),some (zQ (t.getD a [])),y,y4])
    (j:=kM (zQ (t.getD a [])) ((t.getD a []).map W.int).length) (st:=turn (jW 3 4) (zq (qZ (gE (zi jf (zi qL (zh 4) (zo (.int 0))) (zi qL (zh 1) (zh 3))) (zi jf (zi zy (zi zy (zh 0) (zh 3)) (zh 1)) (zh 4))) (zq (qD (zo (.bl false))) zC) zC) zC))
    (λi k=>YJ (int_at (by omega)))
    (by have:=Yy (A:=[]) (ws:=(t.getD a []).map W.int);rw[ah,l]at this;rw[ah,l];exact this)
    (λb c ρ H=>by
     obtain⟨y,y4,rfl⟩:=H;refine⟨[some (zr t),some (.int a),some (zQ (t.getD a [])),some (.int b),some (.int ((t.getD a []).getD b 0))],?_,_,_,rfl⟩;refine(kK rfl).trans ?_;refine(zH ((yQ (A1:=[]) ?_).trans rfl)).trans rfl;have u:zi jf (zi qL (zh 4) (zo (.int 0))) (zi qL (zh 1) (zh 3)) [some (zr t),some (.int a),some (zQ (t.getD a [])),some (.int b),some (.int ((t.getD a []).getD b 0))] []=.ok (.bl false) []:=by
      refine(zL ((zL (zu (i:=4) rfl) (qM (w:=.int 0))).trans (Zw _ _ _)) ((zL (zu (i:=1) rfl) (zu (i:=3) rfl)).trans (Zw _ _ _))).trans ((Te _ _ _).trans ?_);have hd:(t.getD a []).getD b 0=0↔a=b:=h.dg a b f c
      have:decide ((t.getD a []).getD b 0=0)=decide ((a:Int)=(b:Int)):=by
       by_cases q:a=b
       ·rw[az (hd.mpr q),az (by omega)]
       ·rw[aD (λz=>q (hd.mp z)),aD (by omega)]
      rw[this];simp
     have E:zi jf (zi zy (zi zy (zh 0) (zh 3)) (zh 1)) (zh 4) [some (zr t),some (.int a),some (zQ (t.getD a [])),some (.int b),some (.int ((t.getD a []).getD b 0))] []=.ok (.bl false) []:=by
      have r:=h.sq _ (yG c);refine(zL ((zL ((zL (zu (i:=0) rfl) (zu (i:=3) rfl)).trans (Qc c)) (zu (i:=1) rfl)).trans (JJ (by omega))) (zu (i:=4) rfl)).trans ((Mq _ _ _).trans ?_)
      have s:(t.getD b []).getD a 0=(t.getD a []).getD b 0:=(h.sy a b f c).symm;rw[s,az rfl]
      rfl
     exact(GL u).trans E) t.length 0 [some (zr t),some (.int a),some (zQ (t.getD a [])),y,y4] (by omega) ⟨_,_,rfl⟩
   refine⟨[some (zr t),some (.int a),some (zQ (t.getD a [])),o,Z],?_,_,_,_,_,rfl⟩;refine(kK rfl).trans ?_;rw[p]at E;have hlen:((t.getD a []).map W.int).length=t.length:=by rw[ah,l]
   refine(zH ((kA (Ym (zu (i:=2) rfl))).trans ?_)).trans rfl;show yP (kM (zQ (t.getD a [])) ((t.getD a []).map W.int).length) _ ((t.getD a []).map W.int).length 0 _ _=_;rw[hlen]at E ⊢;exact E) t.length 0 [some (zr t),none,none,none,none] (by omega) ⟨_,_,_,_,rfl⟩
 refine(zH (ρ1:=d) (A1:=[]) ((kA (Ym (zu (i:=0) rfl))).trans ?_)).trans (qv rfl);show yP (kM (zr t) (t.map zQ).length) _ (t.map zQ).length 0 _ _=_;have hlen:(t.map zQ).length=t.length:=ah ..;rw[hlen]at e ⊢;exact e
def Ad (h:qN t)(A:Hx):Xx [zr t] A=.ok (.bl true) A:=by
 have k:=Dp h;have c:t.flatten≠[]:=by
  intro e;have u:=h.n1;have b:=h.sq _ (yG (t:=t) (a:=0) (by omega))
  have:t.getD 0 []=[]:=by
   have:=List.flatten_eq_nil_iff.mp e _ (yG (t:=t) (a:=0) (by omega))
   exact this
  rw[this]at b;simp at b;omega
 obtain⟨v0,l,E⟩:=List.exists_cons_of_ne_nil c;refine Zf (A1:=[.lst (t.flatten.map W.int)]) (gz t) rfl (qQ ?_);unfold TH;refine(zH (ρ1:=[some (zr t),some (.ref 0)]) (A1:=[.lst (t.flatten.map W.int)]) ((qI (kR (CB (zu rfl) (by unfold zR;omega)))).trans rfl)).trans (qv (qV ?_))
 generalize o:[O.lst (t.flatten.map W.int)]=B;have s:zT (.ref 0) B=some (t.flatten.map W.int):=by rw[<- o];rfl
 have em:mQ yz (qb (zh 1)) [some (zr t),some (.ref 0)] B=.ok (.int (yA l v0)) B:=by
  rw[yK (kS (w:=.ref 0) (A1:=B) (zu rfl) s)];unfold yz;rw[WD,E]
 have H:yA l v0∈t.flatten:=by
  rw[E];rcases Vw l v0 with e|e
  ·rw[e];exact ay ..
  ·exact aq _ e
 have f:0<=yA l v0/\yA l v0<8:=by
  obtain⟨r,b,v⟩:=List.mem_flatten.mp H
  have:=h.lo r b _ v
  have:=h.n8
  omega
 generalize yA l v0=M at em H f;obtain⟨K,rfl⟩:=aU f.1;have q:=Jp (cap:=[1]) (me:=zi Xe (zh 0) (zh 1)) (ρ:=[some (zr t),some (.ref 0)]) (A:=B) (N:=K) (j:=yO 0 K) (item:=λi=>.int (0+i)) (g:=λ_=>.bl true)
  ((g9 em (by unfold yg;simp;omega)).trans (by rw[aH])) rfl (by unfold zR;omega) (λi d=>wL d) (wK (by omega))
  (λi d=>by
   refine(zL (zu (i:=0) (w:=.int (0+i)) rfl) (zu (i:=1) (w:=.ref 0) rfl)).trans ?_;show JT false _ _ _=_;unfold JT;rw[s];dsimp only;have hf:(gL (.int (0+(i:Int)))&&(t.flatten.map W.int).all gL)=true:=by
    have:(t.flatten.map W.int).all gL=true:=cD.mpr λw hw=>by obtain⟨x,_,rfl⟩:=cy.mp hw;rfl
    rw[this];rfl
   rw[ag hf];have n:Y0 (.int (0+(i:Int))) (t.flatten.map W.int)=true:=by
    unfold Y0;refine List.any_eq_true.mpr ⟨.int i,cy.mpr ⟨(i:Int),h.fu i ⟨_,H,by omega⟩,rfl⟩,?_⟩
    show((i:Int)==0+(i:Int))=true;rw[bE];exact bp _
   rw[n]
   rfl)
 refine(yK q).trans ?_;exact Ks (p:=λ_=>true) λ_ _=>rfl
def Cy (h:qN t)(A:Hx):ZA [zr t] A=.ok (.bl true) A:=by
 have n1:=h.n1;have n8:=h.n8;unfold ZA Kd;refine qQ ?_;unfold WH;have e:∀ρ:En,mQ qt (qb (zh 0)) (some (zr t)::ρ) A=.ok (.int t.length) A:=λρ=>by
  rw[yK (kS (w:=zr t) (A1:=A) (zu rfl) rfl)];unfold qt;rw[ah]
 refine(zH (ρ1:=[some (zr t),none]) (A1:=A) ((yQ (A1:=A) ?_).trans rfl)).trans ?_
 ·refine(GL (A1:=A) rfl).trans ?_
  refine wy (k:=true) ?_;show kL Zv Zv (zo (.int 1)) (mQ qt (qb (zh 0))) (zo (.int 8)) [some (zr t),none] A=_;unfold kL;rw[qM,zP,e,zP];show R.bind (R.ok (W.bl (decide ((1:Int)<=t.length))) A) _=_;rw[az (by omega),zP]
  dsimp only;rw[qM,zP];show R.ok (W.bl (decide ((t.length:Int)<=8))) A=_;rw[az (by omega)]
 refine(zH (ρ1:=[some (zr t),some (.int t.length)]) (A1:=A) ((qI (e _)).trans rfl)).trans ?_;have E:=Yq (cap:=[1]) (A:=A) (ρ:=[some (zr t),some (.int t.length)]) (ws:=t.map zQ) (me:=zF ku (zc (zh 0) (zc (zh 1) (zc (zh 1) zl)))) (g:=λ_=>.bl true) (zu (i:=0) rfl) (by rw[ah];unfold zR;omega) (λw hw=>by
  obtain⟨r,H,rfl⟩:=cy.mp hw;have l:=h.sq r H;refine(qp (ws:=[zQ r,.int t.length,.int t.length]) (A1:=A) rfl).trans ?_;rw[<- l];exact Bx (by omega) (λv a=>by have:=h.lo r H v a;omega) A)
 refine(zH (ρ1:=[some (zr t),some (.int t.length)]) (A1:=A) ((yQ (A1:=A) (wy (k:=true) ((yK E).trans (Ks (p:=λ_=>true) λ_ _=>rfl)))).trans rfl)).trans (qv (qV ?_));refine(gI (A1:=A) ((qp (ws:=[zr t]) (A1:=A) rfl).trans (hE h A))).trans ?_;exact(qp (ws:=[zr t]) (A1:=A) rfl).trans (Ad h A)
end G
namespace Mi
open PySem L2
theorem X9:∀(l m:bV),PyData.eqvAll (l.map PyData.int) (m.map PyData.int)=decide (l=m)
 |[],[]=>by simp[PyData.eqvAll]|[],_::_=>by simp[PyData.eqvAll]|_::_,[]=>by simp[PyData.eqvAll]|a::l,b::m=>by
  simp only[aN,PyData.eqvAll,X9 l m,PyData.eqv];rw[Bool.eq_iff_iff];simp
theorem Vq:∀l:bV,jH (qd A n) (l.map W.int)=some (l.map PyData.int)
 |[]=>rfl|i::l=>by
  have:qd A n (.int i)=some (.int i):=by cases n<;>rfl
  show(match qd A n (.int i),jH (qd A n) (l.map W.int) with|some d,some ds=>some (d::ds)|_,_=>none)=_
  rw[this,Vq l]
  rfl
def GA {r:Nat}{l:bV}(h:A[r]? =some (.lst (l.map W.int))):qd A 8 (.ref r)=some (.list (l.map PyData.int)):=by
 show(match zT (.ref r) A with|some ws=>(jH (qd A 7) ws).map PyData.list|none=>none)=_
 have:zT (.ref r) A=some (l.map W.int):=by unfold zT;dsimp only;rw[h]
 rw[this];dsimp only;rw[Vq]
 rfl
def Ky (A B:Hx):Prop:=∀w ty,jO w A=some ty->jO w B=some ty
def Ext.ky (x:Ext A B):Ky A B:=λw ty h=>by
 cases w with
 |ref n=>
  unfold jO at h ⊢;dsimp only at h ⊢;cases e:A[n]? with
  |none=>rw[e]at h;cases h|some o=>rw[e]at h;rw[x.at e];exact h
 |_=>exact h
def Ky.trans {C:Hx}(a:Ky A B)(b:Ky B C):Ky A C:=λw ty h=>b w ty (a w ty h)
section
def Uq:jO (.ref A.length) (A++[.lst ws])=some .lst:=by
 unfold jO;dsimp only;rw[qF]
end
structure Kn (n:Nat)(A B:Hx):Prop where
 kp:Kp n A B
 st:G.qU n B
def _root_.G.qU.ty (h:G.qU n A):jO (.ref n) A=some .lst:=by
 obtain⟨c,b,e,_⟩:=h;unfold jO;dsimp only;rw[e]
def _root_.G.qU.lt (h:G.qU n A):n<A.length:=by
 obtain⟨c,b,e,_⟩:=h;exact Za e
def _root_.G.qU.ext (h:G.qU n A)(x:Ext A B):G.qU n B:=by
 obtain⟨c,b,e,r⟩:=h;exact⟨c,b,x.at e,r⟩
def _root_.G.qU.put (h:G.qU n A)(H:k≠n):G.qU n (A.set k o):=by
 obtain⟨c,b,e,r⟩:=h;exact⟨c,b,by rw[aG H];exact e,r⟩
def Kn.ky (s:G.qU n A)(k:Kn n A B):Ky A B:=λw ty h=>by
 cases w with
 |ref i=>
  by_cases q:i=n
  ·subst q
   rw[s.ty]at h;rw[k.st.ty];exact h
  ·unfold jO at h ⊢
   dsimp only at h ⊢
   by_cases z:i<A.length
   ·rw[k.kp.at_ i z q];exact h
   ·rw[aI (by omega)]at h;cases h
 |_=>exact h
theorem Kn.trans {C:Hx}(a:Kn n A B)(b:Kn n B C):Kn n A C:=⟨a.kp.trans b.kp,b.st⟩
theorem Kn.ext (s:G.qU n A)(x:Ext A B):Kn n A B:=⟨Kp.ext x,s.ext x⟩
end Mi
namespace G
open PySem L2 Mi
def Nz (h:qU n A){m:Int}(c:0<m)(H:m<1000000000000000):∃(r:Nat) (B:Hx),jQ [.ref n,.int m] A=.ok (.int r) B/\(r:Int)<m/\Kn n A B/\B.length=A.length:=by
 obtain⟨r,o,e,a,b,s⟩:=O6 h c H;exact⟨r.toNat,A.set n o,by rw[e,bJ a],by omega,⟨Kp.set,s⟩,length_set ..⟩
def ZE {m:Int}(h:qU n A)(h0:ρ[0]? =some (some (.ref n)))(hm:me ρ A=.ok (.int m) A)(b:0<m)(H:m<1000000000000000):∃(r:Nat) (B:Hx),zF jQ (zc (zh 0) (zc me zl)) ρ A=.ok (.int r) B/\(r:Int)<m/\Kn n A B/\B.length=A.length:=by
 obtain⟨r,B,e,a⟩:=Nz h b H;exact⟨r,B,(qp (zX (zu h0) (zX hm qy))).trans e,a⟩
def UC {ty:Ty}(h:ty≠.tup):kE ty .tup=false:=by
 cases ty<;>first|rfl|exact absurd rfl h
def wb (A:Hx)(w:W):Prop:=∀B,Ky A B->ZA [w] B=.ok (.bl false) B
def wb.mono {w:W}(k:Ky A B)(h:wb A w):wb B w:=λC q=>h C (k.trans q)
def NN {w:W}{ty:Ty}(h:jO w A=some ty)(hn:ty≠.tup):wb A w:=λB k=>by
 unfold ZA Kd;refine qQ ?_;unfold WH;have e:yS .tup (zh 0) [some w,none] B=.ok (.bl false) B:=(Zh (zu rfl) (k _ _ h)).trans (by rw[UC hn])
 have E:gE (yc (yS .tup (zh 0))) (yc (kL Zv Zv (zo (.int 1)) (mQ qt (qb (zh 0))) (zo (.int 8)))) [some w,none] B=.ok (.bl true) B:=by
  unfold gE;rw[wy e,zP]
  rfl
 exact qv ((wB E).trans (qv (qV qM)))
def hG (h:jO (.ref j) A=some .lst):wb A (.tup [.ref j]):=λB k=>by
 unfold ZA Kd;refine qQ ?_;unfold WH;have H:=k _ _ h;have e:Z5 [.ref j,.int 1] B=.ok (.bl false) B:=by
  unfold Z5 Yh;refine qQ ?_;unfold Kb;exact qv (qV (ZQ ((Zh (zu rfl) H).trans rfl)))
 have b:ku [.ref j,.int 1,.int 1] B=.ok (.bl false) B:=by
  unfold ku Je;refine qQ ?_;unfold J7;exact qv (qV (ZQ ((qp (ws:=[.ref j,.int 1]) (A1:=B) rfl).trans e)))
 have E:=Yq (cap:=[1]) (A:=B) (ρ:=[some (.tup [.ref j]),some (.int 1)]) (ws:=[.ref j]) (me:=zF ku (zc (zh 0) (zc (zh 1) (zc (zh 1) zl)))) (g:=λ_=>.bl false) (zu (i:=0) rfl) (by simp[zR]) (λw hw=>by
  rw[cC.mp hw];exact(qp (ws:=[.ref j,.int 1,.int 1]) (A1:=B) rfl).trans b)
 refine(zH (ρ1:=[some (.tup [.ref j]),none]) (A1:=B) rfl).trans ((zH (ρ1:=[some (.tup [.ref j]),some (.int 1)]) (A1:=B) rfl).trans ?_);exact qv ((wB (wy (k:=false) ((yK E).trans rfl))).trans (qv (qV qM)))
def ET (m:Ev)(ρ:En):Prop:=∀A,∃w A1,m ρ A=.ok w A1/\Ext A A1/\wb A1 w
def AT (a:Ea)(ρ:En)(k:Nat):Prop:=∀A,∃ws A1,a ρ A=.ok ws A1/\Ext A A1/\ws.length=k/\∀w∈ws,wb A1 w
section
variable {m:Ev}{a:Ea}{w:W}
def Gy:AT zl ρ 0:=λA=>⟨[],A,rfl,Ext.refl,rfl,λ_ h=>by cases h⟩
def yH (h:ET m ρ)(t:AT a ρ k):AT (zc m a) ρ (k+1):=λA=>by
 obtain⟨w,A1,E,x1,c⟩:=h A;obtain⟨ws,A2,e,x2,l,b⟩:=t A1;refine⟨w::ws,A2,zX E e,x1.trans x2,by rw[bb,l],λy H=>?_⟩
 rcases cz.mp H with rfl|H
 ·exact c.mono x2.ky
 ·exact b y H
def y0 (h:∀A,m ρ A=.ok w A)(hf:∀B,ZA [w] B=.ok (.bl false) B:=by intro B;kernel_rfl):ET m ρ:=λA=>⟨w,A,h A,Ext.refl,λB _=>hf B⟩
def AS:ET Q9 ρ:=λA=>⟨.ref A.length,A++[.dct []],rfl,Ext.one,NN (ty:=.dct) (by unfold jO;dsimp only;rw[qF]) (by decide)⟩
end
section
variable {a:Ea}
structure TL (A:Hx)(r k:Nat)(B:Hx):Prop where
 at_:∃ws,B[r]? =some (.lst ws)/\ws.length=k/\∀w∈ws,wb B w
 nw:A.length<=r
 ext:Ext A B
def hH (h:AT a ρ k)(A:Hx):∃r B,zU a ρ A=.ok (.ref r) B/\TL A r k B:=by
 obtain⟨ws,A1,e,x,l,hw⟩:=h A;exact⟨_,_,jM e,⟨ws,qF,l,λw H=>(hw w H).mono Ext.one.ky⟩,x.len,x.app⟩
def Ui {r:Nat}(t:TL A r j B)(h:AT a ρ k)(c:ρ[i]? =some (some (.ref r)))(f:j+k<=100):∃b C,zi zY (zh i) (zU a) ρ B=.ok (.ref b) C/\TL A b (j+k) C:=by
 obtain⟨ws,e,l,hw⟩:=t.at_;obtain⟨us,d,E,x1,L,u⟩:=h B;have x2:Ext B (d++[.lst us]):=x1.app;refine⟨_,_,(zL (zu c) (jM E)).trans (QK (x2.at e) qF (by unfold zR;omega)),⟨ws++us,qF,by rw[ak,l,L],λw H=>?_⟩,?_,(t.ext.trans x2).app⟩
 ·rcases cE.mp H with q|q
  ·exact(hw w q).mono (x2.app).ky
  ·exact(u w q).mono (Ext.one.trans Ext.one).ky
 ·have:=t.ext.len
  have:=x2.len
  omega
def Bn {r:Nat}{m:Int}{mm:Ev}(s:qU n A)(t:TL A r k B)(a:ρ[i]? =some (some (.ref r)))(h0:ρ[0]? =some (some (.ref n)))(hm:∀A,mm ρ A=.ok (.int m) A)(c:(k:Int)=m)(b:0<m)(f:m<1000):∃w C,zi zy (zh i) (zF jQ (zc (zh 0) (zc mm zl))) ρ B=.ok w C/\wb C w/\Kn n A C:=by
 obtain⟨ws,e,l,hw⟩:=t.at_;have sB:=s.ext t.ext;obtain⟨j,C,E,d,kn,_⟩:=ZE sB h0 (hm B) b (by omega)
 have h:j<ws.length:=by omega
 have H:r≠n:=by have:=s.lt;have:=t.nw;omega
 refine⟨ws[j],C,(zL (zu a) E).trans (wJ (kn.kp.get e H) (aa h)),(hw _ (aO h)).mono (kn.ky sB),(Kn.ext s t.ext).trans kn⟩
end
def hJ (s:qU n A):∃w B,Jf [.ref n] A=.ok w B/\wb B w/\Kn n A B:=by
 unfold Jf XC;unfold TX;have E:∀ρ,ET (zU (zc (zU (zc (zo (.int 0)) zl)) zl)) ρ:=λρ A=>⟨_,_,jM (zX (jM (zX qM qy)) qy),Ext.one.app,NN Uq (by decide)⟩
 have e:∀ρ,ET (zE (zc (zU (zc (zo (.int 0)) zl)) zl)) ρ:=λρ A=>⟨_,_,Jx (zX (jM (zX qM qy)) qy),Ext.one,hG Uq⟩;obtain⟨d,q,l,t1⟩:=hH (k:=11) (ρ:=[some (.ref n),none]) (a:=zc (zo .non) (zc (zo (.int 0)) (zc (zE zl) (zc (zE (zc (zE zl) zl)) (zc (zE (zc (zE (zc (zo (.int 1)) zl)) zl)) (zc (zU (zc (zU (zc (zo (.int 0)) zl)) zl)) (zc (zE (zc (zU (zc (zo (.int 0)) zl)) zl)) (zc (zE (zc (zE (zc (zo (.int 0)) zl)) (zc (zE (zc (zo (.int 0)) zl)) zl))) (zc (zE (zc (zE (zc (zo (.int 0)) (zc (zo (.int 1)) zl))) (zc (zE (zc (zo (.int 2)) (zc (zo (.int 0)) zl))) zl))) (zc (zE (zc (zE (zc (zo (.int 0)) (zc (zo (.int 2)) zl))) (zc (zE (zc (zo (.int 2)) (zc (zo (.int 0)) zl))) zl))) (zc Q9 zl))))))))))) (yH (y0 (λ_=>rfl)) (yH (y0 (λ_=>rfl)) (yH (y0 (w:=.tup []) (λ_=>rfl)) (yH (y0 (w:=.tup [.tup []]) (λ_=>rfl)) (yH (y0 (w:=.tup [.tup [.int 1]]) (λ_=>rfl)) (yH (E _) (yH (e _) (yH (y0 (w:=.tup [.tup [.int 0],.tup [.int 0]]) (λ_=>rfl))
  (yH (y0 (w:=.tup [.tup [.int 0,.int 1],.tup [.int 2,.int 0]]) (λ_=>rfl)) (yH (y0 (w:=.tup [.tup [.int 0,.int 2],.tup [.int 2,.int 0]]) (λ_=>rfl)) (yH AS Gy))))))))))) A
 obtain⟨c,p,j,T⟩:=Ui (k:=5) (i:=1) (ρ:=[some (.ref n),some (.ref d)]) (a:=zc (zE (zc (zE (zc (zo (.int 0)) (zc (zo (.int 1)) zl))) (zc (zE (zc (zo (.int 1)) (zc (zo (.int 1)) zl))) zl))) (zc (zE (zc (zE (zc (zo (.bl true)) zl)) zl)) (zc (zE (zc (zE (zc (zo (.int 0)) (zc (zo (.bl true)) zl))) (zc (zE (zc (zo (.bl true)) (zc (zo (.int 0)) zl))) zl))) (zc (zE (zc (zE (zc (zo (.int 0)) (zc (jn wF (zo (.int 1))) zl))) (zc (zE (zc (jn wF (zo (.int 1))) (zc (zo (.int 0)) zl))) zl))) (zc (zE (zc (zE (zc (zo (.int 0)) (zc (zo (.int 1)) zl))) (zc (zE (zc (zo (.int 1)) (zc (zo (.int 0)) zl))) (zc (zE (zc (zo (.int 1)) (zc (zo (.int 1)) zl))) zl)))) zl))))) t1 (yH (y0 (w:=.tup [.tup [.int 0,.int 1],.tup [.int 1,.int 1]]) (λ_=>rfl)) (yH (y0 (w:=.tup [.tup [.bl true]]) (λ_=>rfl)) (yH (y0 (w:=.tup [.tup [.int 0,.bl true],.tup [.bl true,.int 0]]) (λ_=>rfl))
  (yH (y0 (w:=.tup [.tup [.int 0,.int (-1)],.tup [.int (-1),.int 0]]) (λ_=>rfl)) (yH (y0 (w:=.tup [.tup [.int 0,.int 1],.tup [.int 1,.int 0],.tup [.int 1,.int 1]]) (λ_=>rfl)) Gy))))) rfl (by omega)
 obtain⟨b,o,h,t3⟩:=Ui (k:=5) (i:=1) (ρ:=[some (.ref n),some (.ref c)]) (a:=zc (zE (zc (zE (zc (zo (.int 0)) (zc (zo (.int 1)) (zc (zo (.int 2)) zl)))) (zc (zE (zc (zo (.int 1)) (zc (zo (.int 0)) (zc (zo (.int 2)) zl)))) (zc (zE (zc (zo (.int 2)) (zc (zo (.int 2)) (zc (zo (.int 1)) zl)))) zl)))) (zc (zo (.str "0")) (zc (zE (zc (zE (zc (zo (.int 0)) (zc (zo (.int 3)) (zc (zo (.int 3)) zl)))) (zc (zE (zc (zo (.int 3)) (zc (zo (.int 0)) (zc (zo (.int 1)) zl)))) (zc (zE (zc (zo (.int 3)) (zc (zo (.int 1)) (zc (zo (.int 0)) zl)))) zl)))) (zc (zE (zc (zE (zc (zo (.int 0)) zl)) (zc (zE zl) zl))) (zc (zE (zc (zo (.int 0)) zl)) zl))))) T (yH (y0 (w:=.tup [.tup [.int 0,.int 1,.int 2],.tup [.int 1,.int 0,.int 2],.tup [.int 2,.int 2,.int 1]]) (λ_=>rfl)) (yH (y0 (λ_=>rfl))
  (yH (y0 (w:=.tup [.tup [.int 0,.int 3,.int 3],.tup [.int 3,.int 0,.int 1],.tup [.int 3,.int 1,.int 0]]) (λ_=>rfl)) (yH (y0 (w:=.tup [.tup [.int 0],.tup []]) (λ_=>rfl)) (yH (y0 (w:=.tup [.int 0]) (λ_=>rfl)) Gy))))) rfl (by omega)
 obtain⟨r,B4,g,t⟩:=Ui (k:=2) (i:=1) (ρ:=[some (.ref n),some (.ref b)]) (a:=zc (zE (zc (zE (zc (zo .non) zl)) zl)) (zc (zE (zc (zE (zc (zo (.int 0)) (zc (zo (.int 0)) zl))) (zc (zE (zc (zo (.int 0)) (zc (zo (.int 0)) zl))) zl))) zl)) t3 (yH (y0 (w:=.tup [.tup [.non]]) (λ_=>rfl)) (yH (y0 (w:=.tup [.tup [.int 0,.int 0],.tup [.int 0,.int 0]]) (λ_=>rfl)) Gy)) rfl (by omega)
 obtain⟨w,C,f,hw,kn⟩:=Bn (i:=1) (ρ:=[some (.ref n),some (.ref r)]) (mm:=zo (.int 23)) (m:=23) s t rfl rfl (λ_=>rfl) rfl (by decide) (by decide)
 refine⟨w,C,qQ ?_,hw,kn⟩;refine(zH ((qI l).trans rfl)).trans ((zH ((qI j).trans rfl)).trans ((zH ((qI h).trans rfl)).trans ((zH ((qI g).trans rfl)).trans (qv (qV f)))))
section
variable {N a:Nat}
def Hm (g:t.length<=8)(H:Sq t){m:Ev}{c:Hx}(h:m ρ c=.ok (zr t) B):qg (zV 1 [] (qh m) (zG 0) (zo (.bl true)) (zM (qg (qb (zh 0))))) ρ c=
  .ok (.ref (B.length+t.length)) (B++(t.map λr=>O.lst (r.map W.int))++[O.lst ((List.range t.length).map λi=>W.ref (B.length+i))]):=by
 obtain⟨b,d,j,e,⟨z,g1⟩,g2,g3⟩:=Js (nl:=1) (cap:=[]) (tw:=zG 0) (ifs:=zo (.bl true)) (em:=zM (qg (qb (zh 0)))) (ρ:=ρ) (A:=c) (N:=t.length)
  (I:=λp b a C=>(∃z,b=[z])/\C=B++((t.take p).map λr=>O.lst (r.map W.int))/\a=(List.range p).map λi=>W.ref (B.length+i)) (JB h) (by simp)
  (λp b a C hp ⟨⟨z,f1⟩,f2,f⟩=>by
   subst f1 f2 f;refine⟨zQ t[p],[some (zQ t[p])],?_,rfl,.inl ⟨_,_,_,_,rfl,Ju (kR (kS (w:=zQ t[p]) (ws:=t[p].map W.int) (zu rfl) rfl)) ?_,⟨_,rfl⟩,?_,?_⟩⟩
   ·show some (t.map zQ)[p]? =_
    rw[ax,aa hp];rfl
   ·simp;unfold zR;omega
   ·rw[take_succ hp,aR,aP];rfl
   ·rw[bO,aR,ak,ah,br,Nat.min_eq_left (bz hp)];rfl)
  (λb a C _=>by show some (t.map zQ)[t.length]? =_;rw[aI (by simp)]) ⟨⟨none,rfl⟩,by simp,by simp⟩
 rw[kR e,g2,g3,bS];simp
def OQ (h:i<t.length):(B++(t.map λr=>O.lst (r.map W.int))++[O.lst ((List.range t.length).map λi=>W.ref (B.length+i))])[B.length+i]? =some (.lst ((t.getD i []).map W.int)):=by
 rw[ai (by simp;omega),aw (by omega),show B.length+i-B.length=i by omega,ax,af,aa h]
 rfl
def Oa:(B++(t.map λr=>O.lst (r.map W.int))++[O.lst ((List.range t.length).map λi=>W.ref (B.length+i))])[B.length+t.length]? =some (.lst ((List.range t.length).map λi=>W.ref (B.length+i))):=by
 have:B.length+t.length=(B++(t.map λr=>O.lst (r.map W.int))).length:=by simp
 rw[this,qF]
end
def Wb {r s:Nat}{l m:bV}(h:A[r]? =some (.lst (l.map W.int)))(H:A[s]? =some (.lst (m.map W.int))):jf (.ref r) (.ref s) A=.ok (.bl (!decide (l=m))) A:=by
 show wU true _ _ A=_;unfold wU;rw[GA h,GA H];dsimp only;rw[PyData.eqv,X9]
 rfl
section
variable {p f:Nat}
def Dn {x:Option W}(hp:A.length<=p)(hf:A.length<=f)(hn:n<A.length)(h:p≠f):∀(k fu:Nat)(l fd:bV)(B:Hx),l.length=k->k<fu->fd.length+l.length<=100->Kn n A B->B[p]? =some (.lst (l.map W.int))->B[f]? =some (.lst (fd.map W.int))->
  ∃(j:Hx) (b:bV),Qt (zi jf (zh 2) (zU zl)) (zq (yk (j0 yq (zh 3) (j0 ZO (zh 2) (zF jQ (zc (zh 0) (zc (mQ qt (qb (zh 2))) zl)))))) zC) fu [some (.ref n),x,some (.ref p),some (.ref f)] B=.ok (.nx [some (.ref n),x,some (.ref p),some (.ref f)]) j/\Kn n A j/\j[f]? =some (.lst (b.map W.int))/\b.Perm (fd++l):=by
 intro k
 induction k with
 |zero=>
  intro fu l fd B H z _ kn r D;obtain⟨fu,rfl⟩:∃J,fu=J+1:=⟨fu-1,by omega⟩
  have:l=[]:=List.length_eq_zero_iff.mp H
  subst this;refine⟨B++[.lst []],fd,?_,kn.trans (Kn.ext kn.st Ext.one),jS D,by simp⟩
  unfold Qt;have s:zi jf (zh 2) (zU zl) [some (.ref n),x,some (.ref p),some (.ref f)] B=.ok (.bl false) (B++[.lst []]):=(zL (zu (i:=2) rfl) (jM qy)).trans (Wb (l:=[]) (m:=[]) (jS r) qF);rw[s,zP]
 |succ k S=>
  intro fu l fd B H z U kn r D;obtain⟨fu,rfl⟩:∃J,fu=J+1:=⟨fu-1,by omega⟩
  have s:zi jf (zh 2) (zU zl) [some (.ref n),x,some (.ref p),some (.ref f)] B=.ok (.bl true) (B++[.lst []]):=by
   refine(zL (zu (i:=2) rfl) (jM qy)).trans ((Wb (m:=[]) (jS r) qF).trans ?_);have y:l≠[]:=λe=>by rw[e]at H;cases H
   rw[aD y]
   rfl
  have K:=kn.trans (Kn.ext kn.st (Ext.one (o:=.lst [])));have g1:=jS (u:=.lst []) r;have g2:=jS (u:=.lst []) D;generalize B++[O.lst []]=L at s K g1 g2;have E:mQ qt (qb (zh 2)) [some (.ref n),x,some (.ref p),some (.ref f)] L=.ok (.int (l.length:Int)) L:=by
   rw[yK (kS (w:=.ref p) (A1:=L) (ws:=l.map W.int) (zu rfl) (by unfold zT;dsimp only;rw[g1]))]
   unfold qt;rw[ah]
  obtain⟨q,P,Z,T,k2,_⟩:=ZE (ρ:=[some (.ref n),x,some (.ref p),some (.ref f)]) K.st rfl E (by omega) (by omega)
  have v:q<l.length:=by omega
  have d:=k2.kp.get g1 (by omega)
  have I:=k2.kp.get g2 (by omega)
  have hw:(l.map W.int)[q]? =some (.int l[q]):=by rw[ax,aa v];rfl
  have N:=(QM (g:=ZO) (a:=zh 2) (zu rfl) g1 Z).trans (F6 d hw (by omega))
  rw[R7]at N;have c:(P.set p (.lst ((l.eraseIdx q).map W.int)))[f]? =some (.lst (fd.map W.int)):=by rw[aG h];exact I
  have M:=(QM (g:=yq) (a:=zh 3) (zu rfl) g2 N).trans (WK c (by rw[ah];omega))
  have C:fd.map W.int++[.int l[q]]=(fd++[l[q]]).map W.int:=by rw[aR];rfl
  rw[C]at M;have hlen:(l.eraseIdx q).length=k:=by rw[List.length_eraseIdx_of_lt v];omega
  have t:Kn n A ((P.set p (.lst ((l.eraseIdx q).map W.int))).set f (.lst ((fd++[l[q]]).map W.int))):=⟨((K.trans k2).kp.put hp).put hf,((k2.st).put (by omega)).put (by omega)⟩
  obtain⟨j,b,Y,s4,a4,Q⟩:=S fu (l.eraseIdx q) (fd++[l[q]]) _ hlen (by omega) (by rw[ak,aQ];omega) t
   (by rw[aG (Ne.symm h),aJ (Za d)]) (by rw[aJ (Za c)])
  refine⟨j,b,?_,s4,a4,Q.trans ?_⟩
  ·unfold Qt
   rw[s,zP];dsimp only;have X:=(zH (m2:=zC) (Zg M)).trans jF;rw[X,zP];exact Y
  ·rw[aP]
   exact List.Perm.append_left fd (RC (aa v)).symm
def OV {q:Nat}{l:bV}(s:qU n A)(h:A[q]? =some (.lst (l.map W.int)))(H:l.length<=100):∃(r:Nat) (B:Hx) (fd:bV),J8 [.ref n,.ref q] A=.ok (.ref r) B/\B[r]? =some (.lst (fd.map W.int))/\fd.Perm l/\Kn n A B/\A.length<=r:=by
 unfold J8 XA;unfold TZ;have a:qg (qb (zh 1)) [some (.ref n),some (.ref q),none,none] A=.ok (.ref A.length) (A++[.lst (l.map W.int)]):=kR (kS (w:=.ref q) (zu rfl) (by unfold zT;dsimp only;rw[h]))
 have x0:Ext A (A++[.lst (l.map W.int)]++[.lst []]):=Ext.one.app;have hlen:(A++[O.lst (l.map W.int)]).length=A.length+1:=by simp
 have a2:(A++[.lst (l.map W.int)]++[.lst []])[A.length+1]? =some (.lst (([]:bV).map W.int)):=by rw[<- hlen];exact qF
 obtain⟨B,fd,E,kn,e,P⟩:=Dn (A:=A) (p:=A.length) (f:=A.length+1) (x:=some (.ref q)) (av _) (by omega) s.lt (by omega) l.length 1000 l [] _ rfl (by omega) (by simp;omega) (Kn.ext s x0) (jS qF) a2
 refine⟨A.length+1,B,fd,qQ ?_,e,by simpa using P,kn,by omega⟩
 refine(zH ((qI a).trans rfl)).trans ((zH (ρ1:=[some (.ref n),some (.ref q),some (.ref A.length),some (.ref (A.length+1))]) (A1:=A++[.lst (l.map W.int)]++[.lst []]) ?_).trans ((zH (m1:=Ud 1000 _ _) E).trans (qv (qV (zu rfl)))));refine(qI (jM qy)).trans ?_;rw[hlen]
 rfl
end
noncomputable def dist (t:bU):b8:=(List.range 8).filter λi=>decide ((i:Int)∈t.flatten)
def gA (t:bU)(v:Int):Int:=((dist t).idxOf v.toNat:Nat)
def yT (t:bU):bU:=t.map λr=>r.map (gA t)
def Kj:i∈dist t↔i<8/\(i:Int)∈t.flatten:=by
 unfold dist;rw[mem_filter,List.mem_range,ao]
def Hh (t:bU):(dist t).Nodup:=List.Pairwise.filter _ List.nodup_range
theorem RX:∀{l:bV},(∀v∈l,0<=v/\v<8)->QY l=some (l.map Int.toNat)
 |[],_=>rfl|v::l,h=>by
  unfold QY;rw[ag (h v (ay ..)),RX λx H=>h x (aq _ H)]
  rfl
theorem Pz:∀{kws:List (Nat×List W)},(∀p∈kws,A[p.1]? =some (.lst p.2))->gJ A (kws.map λ(p:Nat×List W)=>W.ref p.1)=some (kws.map (·.2))
 |[],_=>rfl|p::kws,h=>by
  show(match A[p.1]? with|some (.lst ws)=>(gJ A (kws.map λ(p:Nat×List W)=>W.ref p.1)).map (ws::·)|_=>none)=_
  rw[h p (ay ..)];dsimp only;rw[Pz λx H=>h x (aq _ H)]
  rfl
theorem Oz (v:Nat):∀{l:b8},v∈l->ZU (λz=>PyData.eqv z (.int (v:Int))) (l.map λ(i:Nat)=>PyData.int (i:Int))=some (l.idxOf v)
 |[],h=>by cases h|a::l,h=>by
  rw[aN,ZU,List.idxOf_cons]
  have:PyData.eqv (.int (a:Int)) (.int (v:Int))=(a==v):=by
   rw[PyData.eqv,Bool.eq_iff_iff];simp;omega
  rw[this]
  by_cases q:a=v
  ·subst q
   simp
  ·have Q:(a==v)=false:=by simp[q]
   rw[Q,aj (by simp)]
   rw[Oz v ((cz.mp h).resolve_left (Ne.symm q))]
   rfl
def LL (t:bU)(r:Nat)(B:Hx):Prop:=∃ks:b8,B[r]? =some (.lst (ks.map W.ref))/\ks.length=t.length/\∀i,i<t.length->B[ks.getD i 0]? =some (.lst ((t.getD i []).map W.int))
def Jv {m:Ev}(h:m ρ A=.ok (.ref k) A)(a:A[k]? =some (.lst ws))(l:ws.length<=zR){g:W->W}(he:∀w∈ws,me (some w::cap.map λi=>(ρ[i]?).join) A=.ok (g w) A):
  zV 1 cap (qh m) (zG 0) (zo (.bl true)) (zM me) ρ A=.ok (ws.map g) A:=by
 have e:=Jp (cap:=cap) (me:=me) (ρ:=ρ) (A:=A) (N:=ws.length) (item:=λi=>ws.getD i .non) (g:=λi=>g (ws.getD i .non)) (JA h a) rfl l
  (λi H=>(QW a).trans (by rw[aa H,af,aa H];rfl))
  ((QW a).trans (by rw[aI (av _)]))
  (λi H=>by
   have:ws.getD i .non=ws[i]:=by rw[af,aa H];rfl
   rw[this];exact he _ (aO H))
 rw[e]
 congr 1
 apply bt
 ·simp
 ·intro i c b
  have H:i<ws.length:=by simpa using b
  simp[af,aa H]
noncomputable def Mo (f:Int->Int):W->W
 |.int v=>.int (f v)|w=>w
def Bv (f:Int->Int)(l:bV):(l.map W.int).map (Mo f)=(l.map f).map W.int:=by
 rw[aL,aL];rfl
section
variable {r:Nat}
def FP (g:t.length<=8)(L:LL t r B)(h0:ρ[i]? =some (some (.ref r))):qg (zV 1 [] (qh (zh i)) (zG 0) (zo (.bl true)) (zM (qg (qb (zh 0))))) ρ B=
  .ok (.ref (B.length+t.length)) (B++(t.map λr=>O.lst (r.map W.int))++[O.lst ((List.range t.length).map λi=>W.ref (B.length+i))]):=by
 obtain⟨ks,E,k,d⟩:=L;obtain⟨b,c,j,e,⟨z,g1⟩,g2,g3⟩:=Js (nl:=1) (cap:=[]) (tw:=zG 0) (ifs:=zo (.bl true)) (em:=zM (qg (qb (zh 0)))) (ρ:=ρ) (A:=B) (N:=t.length)
  (I:=λp b a C=>(∃z,b=[z])/\C=B++((t.take p).map λr=>O.lst (r.map W.int))/\a=(List.range p).map λi=>W.ref (B.length+i)) (JA (zu h0) E) (by simp[k])
  (λp b a C hp ⟨⟨z,f1⟩,f2,f⟩=>by
   subst f1 f2 f;have x:Ext B (B++((t.take p).map λr=>O.lst (r.map W.int))):=⟨_,rfl⟩;have h:=x.at (d p hp);have H:t.getD p []=t[p]:=by rw[af,aa hp];rfl
   rw[H]at h;refine⟨.ref (ks.getD p 0),[some (.ref (ks.getD p 0))],?_,rfl,.inl ⟨_,_,_,_,rfl,Ju (kR (kS (w:=.ref (ks.getD p 0)) (ws:=t[p].map W.int) (zu rfl) (by unfold zT;dsimp only;rw[h]))) ?_,⟨_,rfl⟩,?_,?_⟩⟩
   ·refine(QW (x.at E)).trans ?_
    rw[ax,af,aa (by omega)];rfl
   ·simp;unfold zR;omega
   ·rw[take_succ hp,aR,aP];rfl
   ·rw[bO,aR,ak,ah,br,Nat.min_eq_left (bz hp)];rfl)
  (λb a C ⟨_,f2,_⟩=>by
   subst f2;exact(QW (Ext.at ⟨_,rfl⟩ E)).trans (by rw[aI (by simp[k])])) ⟨⟨none,rfl⟩,by simp,by simp⟩
 rw[kR e,g2,g3,bS];simp
def LL.mono (x:Ext A B)(h:LL t r A):LL t r B:=by
 obtain⟨ks,e,k,H⟩:=h;exact⟨ks,x.at e,k,λi a=>x.at (H i a)⟩
def ON (U:1<=t.length)(I:t.length<=8)(D:Sq t)(q:∀v∈t.flatten,0<=v/\v<8)(L:LL t r A):∃B,Jm [.ref r] A=.ok (zr (yT t)) B/\Ext A B:=by
 have T:t.flatten.length<=64:=by
  have:∀l:bU,(∀r∈l,r.length<=8)->l.flatten.length<=8 * l.length:=by
   intro l
   induction l with
   |nil=>intro _;simp|cons r l Q=>
    intro e;have U:=e r (ay ..);have Y:=Q λP s=>e P (aq _ s);rw[aY,ak,bb];omega
  have:=this t λr e=>by rw[D r e];exact I
  omega
 unfold Jm X3;unfold Rn;have M:=FP (ρ:=[some (.ref r),none]) (i:=0) I L rfl;have x1:Ext A (A++(t.map λr=>O.lst (r.map W.int))++[O.lst ((List.range t.length).map λi=>W.ref (A.length+i))]):=⟨(t.map λr=>O.lst (r.map W.int))++[O.lst ((List.range t.length).map λi=>W.ref (A.length+i))],by rw[aP]⟩
 have a:∀i,i<t.length->_:=λi C=>OQ (B:=A) (t:=t) (i:=i) C;have H:=Oa (B:=A) (t:=t);generalize A++(t.map λr=>O.lst (r.map W.int))++[O.lst ((List.range t.length).map λi=>W.ref (A.length+i))]=b at M x1 a H;have K:zi Qi (qg (zV 1 [] (qh (zh 0)) (zG 0) (zo (.bl true)) (zM (qg (qb (zh 0)))))) (zU zl) [some (.ref r),none] A=.ok (.ref (b.length+1)) (b++[.lst []]++[.lst (t.flatten.map W.int)]):=by
  refine(zL M (jM qy)).trans ?_;have n:=Pz (A:=b++[.lst []]) (kws:=(List.range t.length).map λi=>(A.length+i,(t.getD i []).map W.int)) (λp hp=>by
   obtain⟨i,C,rfl⟩:=cy.mp hp;exact jS (a i (cB.mp C)))
  rw[aL,aL]at n;have y:((λp:Nat×List W=>W.ref p.1) ∘ λi=>(A.length+i,(t.getD i []).map W.int))=λi=>W.ref (A.length+i):=rfl;have x:((λp:Nat×List W=>p.2) ∘ λi=>(A.length+i,(t.getD i []).map W.int))=λi=>(t.getD i []).map W.int:=rfl;rw[y,x,<- Y8 t [] λr=>r.map W.int]at n;have hf:(t.map λr=>r.map W.int).flatten=t.flatten.map W.int:=by rw[List.map_flatten]
  unfold Qi;dsimp only;rw[jS H,qF];dsimp only;rw[n];dsimp only;rw[ag ⟨λz=>(by have:=congrArg List.length z;rw[ah,a8]at this;exact absurd this (by rw[length_nil];omega)),by rw[hf,ah];unfold zR;omega⟩,hf]
  simp
 have x2:Ext A (b++[.lst []]++[.lst (t.flatten.map W.int)]):=x1.app.app;have f:(b++[.lst []]++[.lst (t.flatten.map W.int)])[b.length+1]? =some (.lst (t.flatten.map W.int)):=by
  have:b.length+1=(b++[O.lst []]).length:=by simp
  rw[this,qF]
 generalize b++[.lst []]++[.lst (t.flatten.map W.int)]=c at K x2 f;have J:W4 (zi Qi (qg (zV 1 [] (qh (zh 0)) (zG 0) (zo (.bl true)) (zM (qg (qb (zh 0)))))) (zU zl)) [some (.ref r),none] A=.ok (.ref c.length) (c++[.lst (((dist t).map λ(i:Nat)=>(i:Int)).map W.int)]):=by
  unfold W4;rw[K,zP];unfold Vz;dsimp only;rw[f];dsimp only;rw[WD];dsimp only;rw[RX q];dsimp only
  have:((List.range 8).filter λi=>decide (i∈t.flatten.map Int.toNat))=dist t:=by
   unfold dist
   apply List.filter_congr
   intro i _;rw[decide_eq_decide]
   constructor
   ·intro z
    obtain⟨v,h,rfl⟩:=cy.mp z;rw[bJ (q v h).1];exact h
   ·intro z
    exact cy.mpr ⟨_,z,rfl⟩
  rw[this,aL]
  rfl
 have x3:=x2.app (l:=[.lst (((dist t).map λ(i:Nat)=>(i:Int)).map W.int)]);have d:(c++[.lst (((dist t).map λ(i:Nat)=>(i:Int)).map W.int)])[c.length]? =some (.lst (((dist t).map λ(i:Nat)=>(i:Int)).map W.int)):=qF;generalize c++[.lst (((dist t).map λ(i:Nat)=>(i:Int)).map W.int)]=k at J x3 d;obtain⟨ks,k0,E,e⟩:=LL.mono x3 L;refine⟨k,qQ ((zH ((qI J).trans rfl)).trans (qv (qV ?_))),x3⟩;have idx:∀v,v∈t.flatten->ZN (.ref c.length) (.int v) k=.ok (.int (gA t v)) k:=λv h=>by
  obtain⟨u,rfl⟩:=aU (q v h).1;have hm:u∈dist t:=Kj.mpr ⟨by have:=q _ h;omega,h⟩
  unfold ZN;rw[GA d];show(match ZU (λz=>PyData.eqv z (.int (u:Int))) (((dist t).map λ(i:Nat)=>(i:Int)).map PyData.int) with|some j=>if j<1000000 then R.ok (W.int (j:Int)) k else .bad|none=>.bad)=_
  have:((dist t).map λ(i:Nat)=>(i:Int)).map PyData.int=(dist t).map λ(i:Nat)=>PyData.int (i:Int):=by rw[aL];rfl
  rw[this,Oz u hm];dsimp only;have n:(dist t).idxOf u<(dist t).length:=List.idxOf_lt_length_of_mem hm;have S:(dist t).length<=8:=by unfold dist;exact bg (length_filter_le _ _) (by simp)
  rw[ag (by omega)]
  rfl
 have X:=Jp (cap:=[1]) (me:=mQ yW (zV 1 [1] (qh (zh 0)) (zG 0) (zo (.bl true)) (zM (j0 ZN (zh 1) (zh 0))))) (ρ:=[some (.ref r),some (.ref c.length)]) (A:=k) (N:=t.length) (item:=λi=>.ref (ks.getD i 0)) (g:=λi=>zQ ((t.getD i []).map (gA t))) (JA (zu (i:=0) rfl) k0) (by simp[E]) (by unfold zR;omega)
  (λj o=>(QW k0).trans (by rw[ax,af,aa (by omega)];rfl)) ((QW k0).trans (by rw[aI (by simp[E])]))
  (λj o=>by
   have:=Jv (cap:=[1]) (m:=zh 0) (me:=j0 ZN (zh 1) (zh 0)) (ρ:=[some (.ref (ks.getD j 0)),some (.ref c.length)]) (g:=Mo (gA t)) (zu rfl) (e j o) (by rw[ah,D _ (yG o)];unfold zR;omega) (λw hw=>by
    obtain⟨v,h,rfl⟩:=cy.mp hw;exact(QM (g:=ZN) (zu rfl) d (zu (i:=0) rfl)).trans (idx v (List.mem_flatten.mpr ⟨_,yG o,h⟩)))
   rw[Bv]at this;exact JI this)
 refine(JI X).trans ?_;unfold zr yT;rw[aL,Y8 t [] (zQ ∘ λr=>r.map (gA t))]
 rfl
def Fd (S:1<=t.length)(Q:t.length<=8)(o:Sq t)(dg:∀a b,a<t.length->b<t.length->(at2 t a b=0↔a=b))(sy:∀a b,a<t.length->b<t.length->at2 t a b=at2 t b a)
  (lo:∀a b,a<t.length->b<t.length->0<=at2 t a b/\at2 t a b<(t.length:Int)):qN (yT t):=by
 have w:∀v∈t.flatten,0<=v/\v<(t.length:Int):=λv n=>by
  obtain⟨a,b,f,w,rfl⟩:=Jy o n;exact lo a b f w
 have hlen:(yT t).length=t.length:=by unfold yT;rw[ah]
 have q:∀r∈yT t,r.length=t.length:=λr g=>by
  obtain⟨s,E,rfl⟩:=cy.mp g;rw[ah];exact o s E
 have j:∀a b,a<t.length->b<t.length->at2 (yT t) a b=gA t (at2 t a b):=λa b f w=>by
  have z:=o _ (yG f);unfold at2 yT;rw[af (l:=t.map _),ax,aa f];have e:t.getD a []=t[a]:=by rw[af,aa f];rfl
  rw[e]at z ⊢;show(t[a].map (gA t)).getD b 0=_;rw[af,ax,af,aa (by omega)]
  rfl
 have mem:∀a b,a<t.length->b<t.length->(at2 t a b).toNat∈dist t:=λa b f H=>by
  obtain⟨_,_,_,x⟩:=Gq o f H
  have:=w _ x
  rw[Kj,bJ this.1];exact⟨by omega,x⟩
 have nd:=Hh t;have dl:(dist t).length<=t.length:=by
  have:=Ua t.length ((dist t).map λ(i:Nat)=>(i:Int)) (by
   rw[List.nodup_iff_pairwise_ne,List.pairwise_map];exact nd.imp λh=>by omega) (λr g=>by
   obtain⟨i,I,rfl⟩:=cy.mp g
   have:=w _ (Kj.mp I).2
   exact this)
  rw[ah]at this;exact this
 have Z:(0:Nat)∈dist t:=by
  have:=mem 0 0 (by omega) (by omega)
  rw[(dg 0 0 (by omega) (by omega)).mpr rfl]at this
  exact this
 have N:∃l,dist t=0::l:=by
  have g:List.range 8=0::[1,2,3,4,5,6,7]:=by decide
  have D:=(Kj.mp Z).2;refine⟨[1,2,3,4,5,6,7].filter λi=>decide ((i:Int)∈t.flatten),?_⟩;unfold dist;rw[g,List.filter_cons_of_pos (by exact az D)]
 obtain⟨P,u⟩:=N;have y:∀a b,a<t.length->b<t.length->0<=gA t (at2 t a b)/\gA t (at2 t a b)<(t.length:Int):=λa b f H=>by
  have:=List.idxOf_lt_length_of_mem (mem a b f H)
  unfold gA;omega
 refine⟨by omega,by omega,λr g=>by rw[hlen];exact q r g,λr g v n=>?_,λa b f H=>?_,λa b f H=>?_,λk C=>?_⟩
 ·have:v∈(yT t).flatten:=List.mem_flatten.mpr ⟨r,g,n⟩
  obtain⟨a,b,f,H,e⟩:=Jy (λr g=>by rw[hlen];exact q r g) this
  rw[hlen]at f H ⊢;rw[<- e,j a b f H];exact y a b f H
 ·rw[hlen]at f H
  rw[j a b f H,<- dg a b f H];unfold gA;have m:=mem a b f H;have n:=lo a b f H
  constructor
  ·intro e
   have M:(dist t).idxOf (at2 t a b).toNat=0:=by omega
   have A:=List.idxOf_lt_length_of_mem m
   have:=List.getElem_idxOf A
   have h0:(dist t)[(dist t).idxOf (at2 t a b).toNat]? =some (at2 t a b).toNat:=by rw[aa A,this]
   rw[M,u]at h0;simp at h0;omega
  ·intro e
   rw[e,u];simp
 ·rw[hlen]at f H
  rw[j a b f H,j b a H f,sy a b f H]
 ·obtain⟨v,n,C⟩:=C
  obtain⟨a,b,f,H,e⟩:=Jy (λr g=>by rw[hlen];exact q r g) n
  rw[hlen]at f H;rw[j a b f H]at e;have A:=List.idxOf_lt_length_of_mem (mem a b f H);have p:k<(dist t).length:=by unfold gA at e;omega
  have hd:=Kj.mp (aO p);obtain⟨c,d,J,B,L⟩:=Jy o hd.2;have K:at2 (yT t) c d=(k:Int):=by
   rw[j c d J B,L];unfold gA;rw[aH,nd.idxOf_getElem k p]
  obtain⟨_,_,_,x⟩:=Gq (t:=yT t) (λr g=>by rw[hlen];exact q r g) (by omega:c<(yT t).length) (by omega:d<(yT t).length)
  rw[K]at x;exact x
end
noncomputable def wk:Nat->List (bV)
 |0=>[[0,1,2,3,4,3,2,1],[1,0,1,2,3,4,3,2],[2,1,0,1,2,3,4,3],[3,2,1,0,1,2,3,4],[4,3,2,1,0,1,2,3],[3,4,3,2,1,0,1,2],[2,3,4,3,2,1,0,1],[1,2,3,4,3,2,1,0]]|1=>[[0,1,2,3,3,2,1],[1,0,1,2,3,3,2],[2,1,0,1,2,3,3],[3,2,1,0,1,2,3],[3,3,2,1,0,1,2],[2,3,3,2,1,0,1],[1,2,3,3,2,1,0]]|2=>[[0,1,2,3,2,1],[1,0,1,2,3,2],[2,1,0,1,2,3],[3,2,1,0,1,2],[2,3,2,1,0,1],[1,2,3,2,1,0]]|3=>[[0,1,2,2,1],[1,0,1,2,2],[2,1,0,1,2],[2,2,1,0,1],[1,2,2,1,0]]|4=>[[0,1,2,1],[1,0,1,2],[2,1,0,1],[1,2,1,0]]|5=>[[0,1,1],[1,0,1],[1,1,0]]|6=>[[0,1],[1,0]]|7=>[[0]]|8=>[[0,1,1,2,1,2,2,3],[1,0,2,1,2,1,3,2],[1,2,0,1,2,3,1,2],[2,1,1,0,3,2,2,1],[1,2,2,3,0,1,1,2],[2,1,3,2,1,0,2,1],[2,3,1,2,1,2,0,1],[3,2,2,1,2,1,1,0]]|9=>[[0,1,1,2],[1,0,2,1],[1,2,0,1],[2,1,1,0]]|10=>[[0,1],[1,0]]|11=>[[0,1,1,1,1,1,1,1],[1,0,1,1,1,1,1,1],[1,1,0,1,1,1,1,1],[1,1,1,0,1,1,1,1],[1,1,1,1,0,1,1,1],[1,1,1,1,1,0,1,1],[1,1,1,1,1,1,0,1],[1,1,1,1,1,1,1,0]]|12=>[[0,1,1,1,1,1,1],[1,0,1,1,1,1,1],[1,1,0,1,1,1,1],[1,1,1,0,1,1,1],[1,1,1,1,0,1,1],[1,1,1,1,1,0,1],[1,1,1,1,1,1,0]]|13=>[[0,1,1,1,1,1],[1,0,1,1,1,1],[1,1,0,1,1,1],[1,1,1,0,1,1],[1,1,1,1,0,1],[1,1,1,1,1,0]]|14=>[[0,1,1,1,1],[1,0,1,1,1],[1,1,0,1,1],[1,1,1,0,1],[1,1,1,1,0]]|15=>[[0,1,1,1],[1,0,1,1],[1,1,0,1],[1,1,1,0]]|16=>[[0,1,1],[1,0,1],[1,1,0]]|17=>[[0,1],[1,0]]|18=>[[0]]|19=>[[0,1,2,2,2,2,2,2],[1,0,2,2,2,2,2,2],[2,2,0,1,2,2,2,2],[2,2,1,0,2,2,2,2],[2,2,2,2,0,1,2,2],[2,2,2,2,1,0,2,2],[2,2,2,2,2,2,0,1],[2,2,2,2,2,2,1,0]]|20=>[[0,1,1,1,2,2,2,2],[1,0,1,1,2,2,2,2],[1,1,0,1,2,2,2,2],[1,1,1,0,2,2,2,2],[2,2,2,2,0,1,1,1],[2,2,2,2,1,0,1,1],[2,2,2,2,1,1,0,1],[2,2,2,2,1,1,1,0]]|21=>[[0,1,2,2,2,2],[1,0,2,2,2,2],[2,2,0,1,2,2],[2,2,1,0,2,2],[2,2,2,2,0,1],[2,2,2,2,1,0]]|22=>[[0,1,1,2,2,2],[1,0,1,2,2,2],[1,1,0,2,2,2],[2,2,2,0,1,1],[2,2,2,1,0,1],[2,2,2,1,1,0]]|23=>[[0,1,2,2],[1,0,2,2],[2,2,0,1],[2,2,1,0]]|24=>[[0,1,1,1,1,2],[1,0,1,1,2,1],[1,1,0,2,1,1],[1,1,2,0,1,1],[1,2,1,1,0,1],[2,1,1,1,1,0]]|25=>[[0,1,2,3],[1,0,3,2],[2,3,0,1],[3,2,1,0]]|26=>[[0,1,2,3,4,5,6,7],[1,0,3,2,5,4,7,6],[2,3,0,1,6,7,4,5],[3,2,1,0,7,6,5,4],[4,5,6,7,0,1,2,3],[5,4,7,6,1,0,3,2],[6,7,4,5,2,3,0,1],[7,6,5,4,3,2,1,0]]|27=>[[0,1],[1,0]]|28=>[[0,1,2,1,3,4,5,4],[1,0,1,2,4,3,4,5],[2,1,0,1,5,4,3,4],[1,2,1,0,4,5,4,3],[3,4,5,4,0,1,2,1],[4,3,4,5,1,0,1,2],[5,4,3,4,2,1,0,1],[4,5,4,3,1,2,1,0]]|29=>[[0,1,1,3,4,4],[1,0,1,4,3,4],[1,1,0,4,4,3],[3,4,4,0,1,1],[4,3,4,1,0,1],[4,4,3,1,1,0]]|30=>[[0,1,3,4],[1,0,4,3],[3,4,0,1],[4,3,1,0]]|31=>[[0,1,2,1,3,3,3,3],[1,0,1,2,3,3,3,3],[2,1,0,1,3,3,3,3],[1,2,1,0,3,3,3,3],[3,3,3,3,0,1,2,1],[3,3,3,3,1,0,1,2],[3,3,3,3,2,1,0,1],[3,3,3,3,1,2,1,0]]|32=>[[0,1,1,3,3,3],[1,0,1,3,3,3],[1,1,0,3,3,3],[3,3,3,0,1,1],[3,3,3,1,0,1],[3,3,3,1,1,0]]|33=>[[0,1,3,3],[1,0,3,3],[3,3,0,1],[3,3,1,0]]|_=>[]
def hU:((List.range 34).all λi=>US (yT (wk i))&&((wk i).all λr=>r.length==(wk i).length)&&((wk i).flatten.all λv=>decide (0<=v)&&decide (v<8)))=true:=by decide +kernel
def BG (h:i<34):qN (yT (wk i))/\G.Sq (wk i)/\∀v∈(wk i).flatten,0<=v/\v<8:=by
 have:=cD.mp hU i (cB.mpr h)
 rw[ar,ar]at this;refine⟨Bt this.1.1,λr a=>?_,λv H=>?_⟩
 ·exact eq_of_beq (cD.mp this.1.2 r a)
 ·have:=cD.mp this.2 v H
  rw[ar,ao,ao]at this;exact this
theorem OJ:∀{us:List W}{w:List (List W)},gJ A us=some w->∃ks:b8,us=ks.map W.ref/\ks.length=w.length/\∀i,i<w.length->A[ks.getD i 0]? =some (.lst (w.getD i []))
 |[],w,e=>by
  cases e;exact⟨[],rfl,rfl,λi H=>by cases H⟩
 |.ref k::us,w,e=>by
  unfold gJ at e;cases h:A[k]? with
  |none=>rw[h]at e;cases e|some o=>
   rw[h]at e;cases o with
   |lst ws=>
    dsimp only at e;cases a:gJ A us with
    |none=>rw[a]at e;cases e|some v=>
     rw[a]at e;cases e;obtain⟨ks,rfl,l,b⟩:=OJ a;refine⟨k::ks,rfl,by simp[l],λi H=>?_⟩
     cases i with
     |zero=>exact h|succ i=>exact b i (by simpa using H)
   |_=>cases e
 |.non::_,_,e=>by cases e|.bl _::_,_,e=>by cases e|.int _::_,_,e=>by cases e|.str _::_,_,e=>by cases e|.tup _::_,_,e=>by cases e|.clo _ _ _::_,_,e=>by cases e|.xc _::_,_,e=>by cases e
def U0 (x:R Fl):Option (Option O×Option (List (List W))):=match x with
 |.ok (.rt (.ref r)) B=>some (B[0]?,match B[r]? with
  |some (.lst us)=>gJ B us|_=>none)
 |_=>none
def C6 {x:R Fl}(h:U0 x=some (some o,some (t.map λr=>r.map W.int))):∃r B,x=.ok (.rt (.ref r)) B/\B[0]? =some o/\LL t r B:=by
 unfold U0 at h
 split at h
 ·rename_i r B
  injection h with h
  injection h with c H
  cases a:B[r]? with
  |none=>rw[a]at H;cases H|some o'=>
   rw[a]at H;cases o' with
   |lst us=>
    dsimp only at H;obtain⟨ks,rfl,l,k⟩:=OJ H;rw[ah]at l k;refine⟨r,B,rfl,c,ks,a,l,λi b=>(k i b).trans ?_⟩;rw[af,ax,af,aa b]
    rfl
   |_=>cases H
 ·cases h
def Plain (X:Ex)(ρ:En)(A:Hx):Prop:=∃i,i<34/\∃r B,X ρ A=.ok (.rt (.ref r)) B/\qU 0 B/\LL (wk i) r B
section
variable {m1 m2:Ex}{ρ1:En}{L:Hx}{c:Ev}
def gM (h:m1 ρ A=.ok (.nx ρ1) A1)(q:Plain m2 ρ1 A1):Plain (zq m1 m2) ρ A:=by
 unfold Plain;rw[zH h];exact q
def YH (q:Plain m1 ρ A):Plain (zq m1 m2) ρ A:=by
 obtain⟨i,h,r,B,e,s,l⟩:=q;exact⟨i,h,r,B,qv e,s,l⟩
def YS (h:c ρ A=.ok (.bl true) A1)(q:Plain m1 ρ A1):Plain (qZ c m1 m2) ρ A:=by
 unfold Plain;rw[wB h];exact q
def yh {m:Ex}(h:c ρ A=.ok (.bl false) A)(q:Plain m ρ A):Plain (zq (qZ c m1 zC) m) ρ A:=gM ((yQ h).trans jF) q
def hV {l:Hx}(s:qU 0 (o::L)):qU 0 (o::l):=s
def jB (i:Nat)(H:i<34)(s:qU 0 (o::L))(h:U0 (m1 ρ A)=some (some o,some ((wk i).map λr=>r.map W.int))):Plain m1 ρ A:=by
 obtain⟨r,B,e,h0,l⟩:=C6 h;obtain⟨c,b,a,q⟩:=s;have E:some o=some (O.lst [.int c,.bl b]):=a;exact⟨i,H,r,B,e,⟨c,b,by rw[h0];exact E,q⟩,l⟩
def take1 (s:qU 0 (o::L)){m:Int}(H:0<m)(h:m<1000000000000000):∃(r:Nat) (o':O),jQ [.ref 0,.int m] (o::L)=.ok (.int (r:Int)) (o'::L)/\(r:Int)<m/\qU 0 (o'::L):=by
 obtain⟨r,o',e,a,b,s'⟩:=O6 s H h;exact⟨r.toNat,o',by rw[e,bJ a];rfl,by omega,s'⟩
def Yk {a:Ea}{vs:List W}(s:qU 0 (o::L))(h0:ρ[0]? =some (some (.ref 0)))(b:∀A,a ρ A=.ok vs A)(d:vs.length=k)(k1:0<k)(k2:k<1000):∃(j:Nat) (w:W) (o':O),zi zy (zU a) (zF jQ (zc (zh 0) (zc (zo (.int (k:Int))) zl))) ρ (o::L)=.ok w (o'::(L++[.lst vs]))/\j<k/\vs[j]? =some w/\qU 0 (o'::(L++[.lst vs])):=by
 obtain⟨r,o',e,c,s'⟩:=take1 (L:=L++[.lst vs]) (m:=(k:Int)) (hV s) (by omega) (by omega)
 have h:r<vs.length:=by omega
 refine⟨r,vs[r],o',?_,by omega,aa h,s'⟩
 refine(zL (jM (b _)) ((qp (zX (zu h0) (zX qM qy))).trans e)).trans ?_;have H:(o'::(L++[O.lst vs]))[(o::L).length]? =some (.lst vs):=by
  show(L++[O.lst vs])[L.length]? =_;exact qF
 exact wJ H (aa h)
end
def three (h:j<3):j=0∨j=1∨j=2:=by omega
def UW (h:j<5):j=0∨j=1∨j=2∨j=3∨j=4:=by omega
def Uv (h:j<8):j=0∨j=1∨j=2∨j=3∨j=4∨j=5∨j=6∨j=7:=by omega
def Bb (s:qU 0 [o]):Plain (X2 jQ) [some (.ref 0),none,none,none,none,none,none,none,none,none,none] [o]:=by
 unfold X2;obtain⟨way,p,n,hw,s1⟩:=take1 s (m:=8) (by decide) (by decide)
 refine gM (ρ1:=[some (.ref 0),some (.int (way:Int)),none,none,none,none,none,none,none,none,none]) (A1:=[p]) ((qI ((qp (ws:=[.ref 0,.int 8]) (A1:=[o]) rfl).trans n)).trans rfl) ?_;obtain⟨j,w,c,E,l,f,s2⟩:=Yk (k:=8) (ρ:=[some (.ref 0),some (.int (way:Int)),none,none,none,none,none,none,none,none,none]) (a:=zc (zo (.int 8)) (zc (zo (.int 7)) (zc (zo (.int 6)) (zc (zo (.int 5)) (zc (zo (.int 4)) (zc (zo (.int 3)) (zc (zo (.int 2)) (zc (zo (.int 1)) zl)))))))) (vs:=[.int 8,.int 7,.int 6,.int 5,.int 4,.int 3,.int 2,.int 1]) s1 rfl (λ_=>rfl) rfl (by decide) (by decide)
 refine gM (ρ1:=[some (.ref 0),some (.int (way:Int)),some w,none,none,none,none,none,none,none,none]) (A1:=[c,.lst [.int 8,.int 7,.int 6,.int 5,.int 4,.int 3,.int 2,.int 1]]) ((qI E).trans rfl) ?_;have y:way<8:=by omega
 clear n E hw s s1;rcases Uv y with rfl|rfl|rfl|rfl|rfl|rfl|rfl|rfl
 ·refine YH (YS (A1:=[c,.lst [.int 8,.int 7,.int 6,.int 5,.int 4,.int 3,.int 2,.int 1]]) (by kernel_rfl) ?_)
  rcases Uv l with rfl|rfl|rfl|rfl|rfl|rfl|rfl|rfl<;>cases f
  ·exact jB 0 (by decide) s2 (by kernel_rfl)
  ·exact jB 1 (by decide) s2 (by kernel_rfl)
  ·exact jB 2 (by decide) s2 (by kernel_rfl)
  ·exact jB 3 (by decide) s2 (by kernel_rfl)
  ·exact jB 4 (by decide) s2 (by kernel_rfl)
  ·exact jB 5 (by decide) s2 (by kernel_rfl)
  ·exact jB 6 (by decide) s2 (by kernel_rfl)
  ·exact jB 7 (by decide) s2 (by kernel_rfl)
 ·refine yh (by kernel_rfl) (YH (YS (A1:=[c,.lst [.int 8,.int 7,.int 6,.int 5,.int 4,.int 3,.int 2,.int 1]]) (by kernel_rfl) ?_))
  obtain⟨J,g,i,e,b,H,s3⟩:=Yk (k:=3) (ρ:=[some (.ref 0),some (.int ((1:Nat):Int)),some w,none,none,none,none,none,none,none,none]) (a:=zc (zo (.int 8)) (zc (zo (.int 4)) (zc (zo (.int 2)) zl))) (vs:=[.int 8,.int 4,.int 2]) s2 rfl (λ_=>rfl) rfl (by decide) (by decide)
  refine gM ((qI e).trans rfl) ?_;rcases three b with rfl|rfl|rfl<;>cases H
  ·exact jB 8 (by decide) s3 (by kernel_rfl)
  ·exact jB 9 (by decide) s3 (by kernel_rfl)
  ·exact jB 10 (by decide) s3 (by kernel_rfl)
 ·refine yh (by kernel_rfl) (yh (by kernel_rfl) (YH (YS (A1:=[c,.lst [.int 8,.int 7,.int 6,.int 5,.int 4,.int 3,.int 2,.int 1]]) (by kernel_rfl) ?_)))
  rcases Uv l with rfl|rfl|rfl|rfl|rfl|rfl|rfl|rfl<;>cases f
  ·exact jB 11 (by decide) s2 (by kernel_rfl)
  ·exact jB 12 (by decide) s2 (by kernel_rfl)
  ·exact jB 13 (by decide) s2 (by kernel_rfl)
  ·exact jB 14 (by decide) s2 (by kernel_rfl)
  ·exact jB 15 (by decide) s2 (by kernel_rfl)
  ·exact jB 16 (by decide) s2 (by kernel_rfl)
  ·exact jB 17 (by decide) s2 (by kernel_rfl)
  ·exact jB 18 (by decide) s2 (by kernel_rfl)
 ·refine yh (by kernel_rfl) (yh (by kernel_rfl) (yh (by kernel_rfl) (YH (YS (A1:=[c,.lst [.int 8,.int 7,.int 6,.int 5,.int 4,.int 3,.int 2,.int 1]]) (by kernel_rfl) ?_))))
  obtain⟨J,g,i,e,b,H,s3⟩:=Yk (k:=5) (ρ:=[some (.ref 0),some (.int ((3:Nat):Int)),some w,none,none,none,none,none,none,none,none]) (a:=zc (zE (zc (zo (.int 2)) (zc (zo (.int 4)) zl))) (zc (zE (zc (zo (.int 4)) (zc (zo (.int 2)) zl))) (zc (zE (zc (zo (.int 2)) (zc (zo (.int 3)) zl))) (zc (zE (zc (zo (.int 3)) (zc (zo (.int 2)) zl))) (zc (zE (zc (zo (.int 2)) (zc (zo (.int 2)) zl))) zl))))) (vs:=[.tup [.int 2,.int 4],.tup [.int 4,.int 2],.tup [.int 2,.int 3],.tup [.int 3,.int 2],.tup [.int 2,.int 2]]) s2 rfl (λ_=>rfl) rfl (by decide) (by decide)
  have asg:∀{m:Ev}{tw:Tg}{ρ d:En}{A A1:Hx}{w:W},m ρ A=.ok w A1->tw w ρ=some d->Jb m tw ρ A=.ok (.nx d) A1:=λh h'=>by
   unfold Jb;rw[h,zP,h']
  rcases UW b with rfl|rfl|rfl|rfl|rfl<;>cases H
  ·exact gM (asg e rfl) (jB 19 (by decide) s3 (by kernel_rfl))
  ·exact gM (asg e rfl) (jB 20 (by decide) s3 (by kernel_rfl))
  ·exact gM (asg e rfl) (jB 21 (by decide) s3 (by kernel_rfl))
  ·exact gM (asg e rfl) (jB 22 (by decide) s3 (by kernel_rfl))
  ·exact gM (asg e rfl) (jB 23 (by decide) s3 (by kernel_rfl))
 ·exact yh (by kernel_rfl) (yh (by kernel_rfl) (yh (by kernel_rfl) (yh (by kernel_rfl) (YH (YS (A1:=[c,.lst [.int 8,.int 7,.int 6,.int 5,.int 4,.int 3,.int 2,.int 1]]) (by kernel_rfl) (jB 24 (by decide) s2 (by kernel_rfl)))))))
 ·refine yh (by kernel_rfl) (yh (by kernel_rfl) (yh (by kernel_rfl) (yh (by kernel_rfl) (yh (by kernel_rfl) (YH (YS (A1:=[c,.lst [.int 8,.int 7,.int 6,.int 5,.int 4,.int 3,.int 2,.int 1]]) (by kernel_rfl) ?_))))))
  obtain⟨J,g,i,e,b,H,s3⟩:=Yk (k:=3) (ρ:=[some (.ref 0),some (.int ((5:Nat):Int)),some w,none,none,none,none,none,none,none,none]) (a:=zc (zo (.int 4)) (zc (zo (.int 8)) (zc (zo (.int 2)) zl))) (vs:=[.int 4,.int 8,.int 2]) s2 rfl (λ_=>rfl) rfl (by decide) (by decide)
  refine gM ((qI e).trans rfl) ?_;rcases three b with rfl|rfl|rfl<;>cases H
  ·exact jB 25 (by decide) s3 (by kernel_rfl)
  ·exact jB 26 (by decide) s3 (by kernel_rfl)
  ·exact jB 27 (by decide) s3 (by kernel_rfl)
 ·refine yh (by kernel_rfl) (yh (by kernel_rfl) (yh (by kernel_rfl) (yh (by kernel_rfl) (yh (by kernel_rfl) (yh (by kernel_rfl) ?_)))))
  obtain⟨J,g,i,e,b,H,s3⟩:=Yk (k:=3) (ρ:=[some (.ref 0),some (.int ((6:Nat):Int)),some w,none,none,none,none,none,none,none,none]) (a:=zc (zo (.int 4)) (zc (zo (.int 3)) (zc (zo (.int 2)) zl))) (vs:=[.int 4,.int 3,.int 2]) s2 rfl (λ_=>rfl) rfl (by decide) (by decide)
  refine gM ((qI e).trans rfl) ?_;rcases three b with rfl|rfl|rfl<;>cases H
  ·exact jB 28 (by decide) s3 (by kernel_rfl)
  ·exact jB 29 (by decide) s3 (by kernel_rfl)
  ·exact jB 30 (by decide) s3 (by kernel_rfl)
 ·refine yh (by kernel_rfl) (yh (by kernel_rfl) (yh (by kernel_rfl) (yh (by kernel_rfl) (yh (by kernel_rfl) (yh (by kernel_rfl) ?_)))))
  obtain⟨J,g,i,e,b,H,s3⟩:=Yk (k:=3) (ρ:=[some (.ref 0),some (.int ((7:Nat):Int)),some w,none,none,none,none,none,none,none,none]) (a:=zc (zo (.int 4)) (zc (zo (.int 3)) (zc (zo (.int 2)) zl))) (vs:=[.int 4,.int 3,.int 2]) s2 rfl (λ_=>rfl) rfl (by decide) (by decide)
  refine gM ((qI e).trans rfl) ?_;rcases three b with rfl|rfl|rfl<;>cases H
  ·exact jB 31 (by decide) s3 (by kernel_rfl)
  ·exact jB 32 (by decide) s3 (by kernel_rfl)
  ·exact jB 33 (by decide) s3 (by kernel_rfl)
def BC (s:qU 0 [o]):∃i,i<34/\∃r B,WB [.ref 0] [o]=.ok (.ref r) B/\qU 0 B/\LL (wk i) r B:=by
 obtain⟨i,h,r,B,e,q⟩:=Bb s;refine⟨i,h,r,B,?_,q⟩;unfold WB XY;exact qQ e
noncomputable def Tc (g:Nat->W):W->W
 |.int v=>g v.toNat|w=>w
def Ov (g:Nat->W)(o:b8):((o.map λ(a:Nat)=>(a:Int)).map W.int).map (Tc g)=o.map g:=by
 rw[aL,aL]
 apply a5
 intro a _;show g (Int.toNat (a:Int))=g a;rw[aH]
def Od {fd:bV}{M:Nat}{s:Int}(h:fd.Perm ((List.range M).map λ(k:Nat)=>s+(k:Int))):∃p:b8,fd=p.map (λ(k:Nat)=>s+(k:Int))/\p.Perm (List.range M):=by
 refine⟨fd.map λv=>(v-s).toNat,?_,?_⟩
 ·rw[aL]
  conv=>lhs;rw[<- map_id fd]
  apply a5
  intro v H;obtain⟨k,_,rfl⟩:=cy.mp (h.mem_iff.mp H);show s+(k:Int)=s+(((s+(k:Int)-s).toNat:Nat):Int);omega
 ·have:=h.map λv=>(v-s).toNat
  rw[aL]at this;have e:(List.range M).map ((λv:Int=>(v-s).toNat) ∘ λ(k:Nat)=>s+(k:Int))=List.range M:=by
   conv=>rhs;rw[<- map_id (List.range M)]
   apply a5
   intro k _;show(s+(k:Int)-s).toNat=k;omega
  rw[e]at this;exact this
section
def V0 (h:qN t)(a:ρ[i]? =some (some (zr t))):mQ yz (zV 1 [] (qh (zh i)) (zG 0) (zo (.bl true)) (zM (mQ yz (qb (zh 0))))) ρ A=.ok (.int (jm t-1)) A:=by
 have n8:=h.n8;have e:=Df (cap:=[]) (A:=A) (ρ:=ρ) (o:=t) (f:=zQ) (m:=zh i) (me:=mQ yz (qb (zh 0))) (G:=λr=>.int (wR r)) (zu a) (by unfold zR;omega) (λr H=>(yK (kS (w:=zQ r) (ws:=r.map W.int) (A1:=A) (zu rfl) rfl)).trans (V2 (h.row_ne H)))
 have em:(t.map λr=>W.int (wR r))=(t.map wR).map W.int:=by rw[aL];rfl
 rw[em]at e;refine((yK e).trans (V2 h.map_ne)).trans ?_
 have:jm t-1=wR (t.map wR):=by unfold jm;omega
 rw[this]
def Ek {ma mb:Ev}{M:Nat}(H:ma ρ A=.ok (.int 1) A)(h:mb ρ A=.ok (.int (1+(M:Int))) A)(a:M<=100):Kt ma mb ρ A=.ok (.ref A.length) (A++[.lst (((List.range M).map λ(k:Nat)=>1+(k:Int)).map W.int)]):=by
 unfold Kt;rw[H,zP,h,zP];dsimp only;have e:(1+(M:Int)-1).toNat=M:=by omega
 rw[ag (by
  have s1:yg 1=true:=by decide
  have s2:yg (1+(M:Int))=true:=by unfold yg;simp;omega
  rw[s1,s2,e,az (by unfold zR;omega)];rfl),e,aL]
 rfl
def Known (t:bU):Prop:=∃i p o,i<34/\p.Perm (List.range (jm (yT (wk i))-1).toNat)/\o.Perm (List.range (yT (wk i)).length)/\t=Q7 (yT (wk i)) p o
def CJ (s:qU 0 [o]):∃t B,Wx [.ref 0] [o]=.ok (zr t) B/\qU 0 B/\qN t/\Known t:=by
 obtain⟨i,hi,r,B0,e0,s0,X⟩:=BC s;obtain⟨tt,sq,n⟩:=BG hi;have hlen:(yT (wk i)).length=(wk i).length:=by unfold yT;rw[ah]
 have m1:=tt.n1;have m8:=tt.n8;obtain⟨B1,e1,x1⟩:=ON (by omega) (by omega) sq n X
 have s1:=s0.ext x1;generalize J:yT (wk i)=u at*;clear hlen X;have n1:=tt.n1;have n8:=tt.n8;have kb:=Q2 tt;obtain⟨M,hM⟩:=aU (show 0<=jm u-1 by omega)
 have el:=Uy (ws:=u.map zQ) (ρ:=[some (.ref 0),some (zr u),none,none]) (i:=1) (A:=B1) rfl;rw[ah]at el;have e2:=F9 el (by omega)
 have Q:iL (List.range u.length)=((List.range u.length).map λ(a:Nat)=>0+(a:Int)).map W.int:=by
  rw[aL]
  apply a5
  intro a _;show W.int (a:Int)=W.int (0+(a:Int));rw[bE]
 rw[Q]at e2;have s2:=s1.ext (Ext.one (o:=.lst (((List.range u.length).map λ(a:Nat)=>0+(a:Int)).map W.int)));obtain⟨h,f,fd,e3,T,p2,k2,N⟩:=OV s2 qF (by simp;omega)
 obtain⟨d,rfl,po⟩:=Od p2;have K:(d.map λ(k:Nat)=>(0:Int)+(k:Int))=d.map λ(k:Nat)=>(k:Int):=a5 λa _=>by omega
 rw[K]at T;have U:zF J8 (zc (zh 0) (zc (Kq (mQ qt (qb (zh 1)))) zl)) [some (.ref 0),some (zr u),none,none] B1=.ok (.ref h) f:=(qp (zX (zu (i:=0) rfl) (zX e2 qy))).trans e3;have Z:0<h:=by have:=s1.lt;simp at N;omega
 have e4:zU (zc (zo (.int 0)) zl) [some (.ref 0),some (zr u),some (.ref h),none] f=.ok (.ref f.length) (f++[.lst [.int 0]]):=jM (zX qM qy);have s3:=k2.st.ext (Ext.one (o:=.lst [.int 0]));have z:=jS (u:=.lst [.int 0]) T;have Y:(f++[.lst [.int 0]])[f.length]? =some (.lst [.int 0]):=qF;have h2l:=Za T;have hB2:0<f.length:=by omega
 generalize f++[.lst [.int 0]]=B3 at e4 s3 z Y;have C:=V0 tt (ρ:=[some (.ref 0),some (zr u),some (.ref h),none]) (i:=1) (A:=B3) rfl;rw[hM]at C;have e5:=Ek (ρ:=[some (.ref 0),some (zr u),some (.ref h),none]) (A:=B3) (M:=M) (ma:=zo (.int 1)) (mb:=zi zY (zo (.int 1)) (mQ yz (zV 1 [] (qh (zh 1)) (zG 0) (zo (.bl true)) (zM (mQ yz (qb (zh 0))))))) qM ((zL qM C).trans rfl) (by omega)
 have s4:=s3.ext (Ext.one (o:=.lst (((List.range M).map λ(k:Nat)=>1+(k:Int)).map W.int)));obtain⟨r3,B4,fd3,e6,h3,p3,k3,nw3⟩:=OV s4 qF (by simp;omega)
 obtain⟨P,rfl,pp⟩:=Od p3;have y:=k3.kp.get (jS z) (by omega)
 have I:=k3.kp.get (jS Y) (by omega)
 have E:zi zY (zU (zc (zo (.int 0)) zl)) (zF J8 (zc (zh 0) (zc (Kt (zo (.int 1)) (zi zY (zo (.int 1)) (mQ yz (zV 1 [] (qh (zh 1)) (zG 0) (zo (.bl true)) (zM (mQ yz (qb (zh 0)))))))) zl))) [some (.ref 0),some (zr u),some (.ref h),none] f=.ok (.ref B4.length) (B4++[.lst ((yF P).map W.int)]):=by
  refine(zL e4 ((qp (zX (zu (i:=0) rfl) (zX e5 qy))).trans e6)).trans ((QK I h3 ?_).trans rfl)
  have:=pp.length_eq
  rw[a8]at this;rw[ah,ah,this];unfold zR;simp;omega
 have S:=jS (u:=.lst ((yF P).map W.int)) y;have h6:(B4++[.lst ((yF P).map W.int)])[B4.length]? =some (.lst ((yF P).map W.int)):=qF;have s5:=k3.st.ext (Ext.one (o:=.lst ((yF P).map W.int)));generalize hB5:B4++[.lst ((yF P).map W.int)]=c at E S h6 s5;have hol:d.length=u.length:=by rw[po.length_eq,a8]
 have j:∀a∈d,a<u.length:=λa q=>cB.mp (po.mem_iff.mp q);have hpl:P.length=M:=by rw[pp.length_eq,a8]
 have x:(jm u-1).toNat=M:=by omega
 have res:=Ft tt (p:=P) (o:=d) (by rw[x];exact pp) po
 refine⟨Q7 u P d,c,?_,s5,res.1,i,P,d,hi,by rw[J,x];exact pp,by rw[J];exact po,by rw[J]⟩
 unfold Wx;refine qQ ?_;unfold Rk;refine(zH ((qI ((qp (zX ((qp (zX (zu (i:=0) rfl) qy)).trans e0) qy)).trans e1)).trans rfl)).trans ((zH ((qI U).trans rfl)).trans ((zH ((qI E).trans rfl)).trans (qv (qV ?_))));have inner:∀a,a∈d->∀b,b∈d->zi zy (zh 3) (zi zy (zi zy (zh 2) (zh 1)) (zh 0)) [some (.int (b:Int)),some (.int (a:Int)),some (zr u),some (.ref B4.length)] c=.ok (.int ((yF P).getD (at2 u a b).toNat 0)) c:=λa q b n=>by
  have L:=j a q;have D:=j b n;have bd:=UH tt L D;have kg:=Um tt L D;obtain⟨v,H⟩:=aU bd.1;have e:zi zy (zi zy (zh 2) (zh 1)) (zh 0) [some (.int (b:Int)),some (.int (a:Int)),some (zr u),some (.ref B4.length)] c=.ok (.int (v:Int)) c:=by
   rw[<- H];exact(zL ((zL (zu rfl) (zu rfl)).trans (Qc L)) (zu rfl)).trans (JJ (by rw[tt.sq _ (yG L)];exact D))
  have l:v<(yF P).length:=by
   show v<(P.map _).length+1;rw[ah];omega
  refine(zL (zu (i:=3) rfl) e).trans (wJ h6 ?_);rw[H,aH,ax,aa l,af,aa l]
  rfl
 have ec:=Jv (cap:=[1,2,3]) (m:=zh 2) (me:=mQ yW (zV 1 [0,1,3] (qh (zh 2)) (zG 0) (zo (.bl true)) (zM (zi zy (zh 3) (zi zy (zi zy (zh 2) (zh 1)) (zh 0)))))) (ρ:=[some (.ref 0),some (zr u),some (.ref h),some (.ref B4.length)]) (A:=c) (g:=Tc λa=>zQ (d.map λb=>(yF P).getD (at2 u a b).toNat 0)) (zu rfl) S (by simp;unfold zR;omega) (λw hw=>by
  obtain⟨v,H,rfl⟩:=cy.mp hw;obtain⟨a,q,rfl⟩:=cy.mp H;have ei:=Jv (cap:=[0,1,3]) (m:=zh 2) (me:=zi zy (zh 3) (zi zy (zi zy (zh 2) (zh 1)) (zh 0))) (ρ:=[some (.int (a:Int)),some (zr u),some (.ref h),some (.ref B4.length)]) (A:=c) (g:=Tc λb=>.int ((yF P).getD (at2 u a b).toNat 0)) (zu rfl) S (by simp;unfold zR;omega) (λw hw=>by
   obtain⟨v,H,rfl⟩:=cy.mp hw;obtain⟨b,n,rfl⟩:=cy.mp H;refine(inner a q b n).trans ?_;show _=R.ok (W.int ((yF P).getD (at2 u a (Int.toNat (b:Int))).toNat 0)) c;rw[aH])
  rw[Ov]at ei;refine(JI ei).trans ?_;show _=R.ok (zQ (d.map λb=>(yF P).getD (at2 u (Int.toNat (a:Int)) b).toNat 0)) c;rw[aH];unfold zQ;rw[aL]
  rfl)
 rw[Ov]at ec;refine(JI ec).trans ?_;unfold zr Q7;rw[aL]
 rfl
def CS (s:qU n A):∃t B,Yd [.ref n] A=.ok (zr t) B/\qN t/\Known t/\Kn n A B/\B.length=A.length:=by
 obtain⟨c,b,a,f,g⟩:=s;have hm:=Za a;obtain⟨t,A1,e,⟨C,d,E,h,H⟩,T,kn⟩:=CJ (o:=.lst [.int c,.bl b]) ⟨c,b,rfl,f,g⟩;refine⟨t,A.set n (.lst [.int C,.bl d]),?_,T,kn,⟨Kp.set,C,d,aJ hm,h,H⟩,length_set ..⟩;unfold Yd;exact Ox a rfl e E (Kr t)
end
def Fg {c:En}{j:jE}{N:Nat}{u v g:Nat->W}(t:∀i,i<N->j.at_ A i=some (some (.tup [u i,v i])))(H:j.at_ A N=some none)(he:∀i,i<N->me (some (u i)::some (v i)::c) A=.ok (g i) A):
  ∀(f i:Nat)(x y:Option W)(acc:List W),i+f=N->acc.length+f<=zR->∃ρ,qX j (jW 0 1) (zo (.bl true)) (zM me) f i (x::y::c) acc A=.ok (ρ,acc++(List.range' i f).map g) A:=by
 intro f
 induction f with
 |zero=>
  intro i x y acc h l
  have:i=N:=by omega
  subst this;refine⟨x::y::c,?_⟩;unfold qX;rw[H];simp
 |succ f I=>
  intro i x y acc h l;obtain⟨ρ,e⟩:=I (i+1) (some (u i)) (some (v i)) (acc++[g i]) (by omega) (by rw[ak,aQ];omega)
  refine⟨ρ,?_⟩;rw[qX,t i (by omega)]
  dsimp only;rw[show jW 0 1 (.tup [u i,v i]) (x::y::c)=some (some (u i)::some (v i)::c) from rfl]
  dsimp only[zo];rw[zP];dsimp only;have E:zM me (some (u i)::some (v i)::c) acc A=.ok (some (u i)::some (v i)::c,acc++[g i]) A:=by
   unfold zM;rw[he i (by omega),zP,ag (by omega)]
  rw[E,zP];rw[e,aP,bT,aN]
  rfl
def IS {j:jE}{N:Nat}{u v g:Nat->W}(hm:mi ρ A=.ok j A)(b:j.len=N)(d:N<=1000)(H:∀i,i<N->j.at_ A i=some (some (.tup [u i,v i])))(h:j.at_ A N=some none)
  (he:∀i,i<N->me (some (u i)::some (v i)::cap.map λi=>(ρ[i]?).join) A=.ok (g i) A):zV 2 cap mi (jW 0 1) (zo (.bl true)) (zM me) ρ A=.ok ((List.range N).map g) A:=by
 obtain⟨a,e⟩:=Fg (A:=A) (c:=cap.map λi=>(ρ[i]?).join) H h he N 0 none none [] (by omega) (by unfold zR;simp;omega)
 unfold zV;rw[hm,zP,b];show R.bind (R.nox (qX j _ _ _ N 0 (none::none::cap.map λi=>(ρ[i]?).join) [] A)) _=_;rw[e,<- range_eq_range',bA]
 rfl
def ZP {r:R α}{a:α}(h:r=.ok a A):r.nox=.ok a A:=by rw[h];rfl
def Gp {m:Ex}{w:W}(h:m (ws.map some++List.replicate (n-ws.length) none) A=.ok (.rt w) A1):Zm n m ws A=.ok w A1:=by unfold Zm;rw[h];rfl
def CV {m:Ex}(h:m (ws.map some++List.replicate (n-ws.length) none) A=.ok (.nx ρ) A1):Zm n m ws A=.ok .non A1:=by unfold Zm;rw[h];rfl
def Kh {m1 m2:Ex}(h:m1 ρ A=.exc x A1):zq m1 m2 ρ A=.exc x A1:=by unfold zq;rw[h,Oi]
def VY {m:Ev}(h:m ρ A=.exc x A1):yk m ρ A=.exc x A1:=by unfold yk;rw[h,Oi]
def Ga {m:Ex}(h:m (ws.map some++List.replicate (n-ws.length) none) A=.exc x A1):Zm n m ws A=.exc x A1:=by unfold Zm;rw[h];rfl
def Dy {m M:Ev}{us vs:List W}(h:m ρ A=.ok (.tup us) A)(h':M ρ A=.ok (.tup vs) A):JS m M ρ A=.ok (JZ (.tup us) (.tup vs) us.length) A:=by
 unfold JS;rw[h,zP,h',zP]
 rfl
def Hs {a:Ea}{xs ys:List W}{r:Nat}{u e:Option W}(H:A[r]? =some (.lst xs))(h:a [u,e,none,some (.ref r)] A=.ok ys A)(l:xs.length+ys.length<=100):
  zW 3 (zi zY (zh 3) (zU a)) [u,e,none,some (.ref r)] A=.ok (.nx [u,e,none,some (.ref (A.length+1))]) (A++[.lst ys]++[.lst (xs++ys)]):=by
 refine(qI ((zL (zu (i:=3) rfl) (jM h)).trans (QK (jS H) qF (by unfold zR;omega)))).trans ?_
 rw[ak,aQ]
 rfl
def Gb {a:Ea}{xs ys zs:List W}{L:Hx}{u e:Option W}(c:L[j]? =some (.lst xs))(b:∀m A,a [u,e,none,m] A=.ok ys A)(H:xs.length+ys.length<=100)(h:xs++ys=zs):
  zW 3 (zi zY (zh 3) (zU a)) [u,e,none,some (.ref (A.length+j))] (A++L)=.ok (.nx [u,e,none,some (.ref (A.length+(L.length+1)))]) (A++(L++[.lst ys,.lst zs])):=by
 have d:(A++L)[A.length+j]? =some (.lst xs):=by rw[aw (by omega),show A.length+j-A.length=j by omega];exact c
 rw[Hs d (b _ _) H,h,ak,aP,aP,Nat.add_assoc]
 rfl
noncomputable def qw (i a n:Nat):List W:=(List.range' a n).map λk=>W.bl (decide (k=i))
def CZ {f:Fn}{us:List W}(hn:jl us=true)(h:f us []=.ok (.ref k) A1)(H:A1[k]? =some (.lst ws))(hw:jl ws=true):iso f us A=.ok (.ref A.length) (A++[.lst ws]):=by
 unfold iso;rw[ag hn,h];dsimp only;rw[H];dsimp only;rw[ag hw]
end G
namespace Mi
open PySem L2
section
variable {j:jE}{c:En}{f:Nat}{x:Option W}{w y:W}{acc:List W}{m:Ev}
def Ry (h:n<1000000):yg (n:Int)=true:=by
 unfold yg;rw[ar,ao,ao];omega
def Ec (h:j.at_ A i=some none):qX j (zG 0) (zo (.bl true)) (zM me) f i ρ acc A=.ok (ρ,acc) A:=by
 cases f<;>(unfold qX;rw[h])
def Fy (h:j.at_ A i=some (some w))(he:me (some w::c) A=.ok y A1)(H:acc.length<zR):qX j (zG 0) (zo (.bl true)) (zM me) (f+1) i (x::c) acc A=qX j (zG 0) (zo (.bl true)) (zM me) f (i+1) (some w::c) (acc++[y]) A1:=by
 rw[qX,h];dsimp only[zG,List.set,zo];rw[zP];dsimp only;have e:zM me (some w::c) acc A=.ok (some w::c,acc++[y]) A1:=by
  unfold zM;rw[he,zP,ag H]
 rw[e,zP]
def hW (h:m ρ A=.ok (.ref n) A1)(H:A1[n]? =some (.lst ws)):qh m ρ A=.ok ⟨λA i=>(zT (.ref n) A).map λws=>ws[i]?,ws.length⟩ A1:=by
 unfold qh K1;rw[h,zP];have e:zT (.ref n) A1=some ws:=by unfold zT;dsimp only;rw[H]
 rw[e]
def NX (h:A[n]? =some (.lst ws)):((zT (.ref n) A).map λws=>ws[i]?)=some ws[i]?:=by
 have e:zT (.ref n) A=some ws:=by unfold zT;dsimp only;rw[h]
 rw[e];rfl
def Pe {g:W->Option PyData}{d:PyData}(h:g w=some d)(r:jH g ws=some ds):jH g (w::ws)=some (d::ds):=by
 unfold jH;rw[h,r]
theorem RL {g:W->Option PyData}{f:Nat->W}{d:PyData}:∀(n:Nat)(s:Nat),(∀t,s<=t->t<s+n->g (f t)=some d)->jH g ((List.range' s n).map f)=some (List.replicate n d)
 |0,_,_=>rfl|n+1,s,h=>by
  rw[bT,aN,a3];exact Pe (h s (by omega) (by omega)) (RL n (s+1) λt a H=>h t (by omega) (by omega))
theorem PQ {g:W->Option PyData}{w:W}{d:PyData}(h:g w=some d):∀n:Nat,jH g (List.replicate n w)=some (List.replicate n d)
 |0=>rfl|n+1=>by rw[a3,a3];exact Pe h (PQ h n)
def OX {v:Int}(h:A[n]? =some (.lst [.int v])):qd A (k+1) (.ref n)=some (.list [.int v]):=by
 unfold qd;have e:zT (.ref n) A=some [.int v]:=by unfold zT;dsimp only;rw[h]
 rw[e];cases k<;>rfl
def PM (h:A[n]? =some (.lst ws))(hd:jH (qd A k) ws=some ds):qd A (k+1) (.ref n)=some (.list ds):=by
 unfold qd;have e:zT (.ref n) A=some ws:=by unfold zT;dsimp only;rw[h]
 rw[e];dsimp only;rw[hd]
 rfl
def hX {a b:W}{d:PyData}(c:qd A 8 a=some d)(H:qd A 8 b=some d)(h:PyData.eqv d d=true):jf a b A=.ok (.bl false) A:=by
 show wU true a b A=_;unfold wU;rw[c,H];dsimp only;rw[ag rfl,h]
 rfl
end
end Mi
namespace G
open PySem L2 Mi
section
def hZ (a:A[0]? =some (.ro (ns.map W.int)))(k:Nat):∃x:Int,Wm [.ref 0,.int k] A=.ok (.int x) A:=by
 have H:zT (.ref 0) A=some (ns.map W.int):=by unfold zT;dsimp only;rw[a]
 have l:mQ qt (qb (zh 0)) [some (.ref 0),some (.int k)] A=.ok (.int ns.length) A:=by
  rw[yK (kS (w:=.ref 0) (A1:=A) (zu rfl) H)];unfold qt;rw[ah]
 have e:zi J5 (zh 1) (mQ qt (qb (zh 0))) [some (.ref 0),some (.int k)] A=.ok (.bl (decide ((k:Int)<ns.length))) A:=(zL (zu (w:=.int k) rfl) l).trans rfl
 by_cases h:k<ns.length
 ·refine⟨ns[k],qQ ?_⟩
  unfold XJ;rw[az (by omega)]at e
  refine qv ((wB e).trans (qv (qV ?_)));refine(zL (x:=.ref 0) (y:=.int k) (A1:=A) (A2:=A) (zu rfl) (zu rfl)).trans ?_;unfold zy;rw[H];dsimp only;rw[Gs (v:=.int ns[k]) (by rw[ax,aa h];rfl)]
 ·refine⟨0,qQ ?_⟩
  unfold XJ;rw[aD (by omega)]at e
  exact(zH ((yQ e).trans rfl)).trans rfl
def BO (H:A[0]? =some (.ro (ns.map W.int)))(k:Nat):∃o,Yc [.ref 0,.int k] A=.ok (.ref A.length) (A++[o])/\qU A.length (A++[o]):=by
 obtain⟨x,e⟩:=hZ H k;have a:zW 2 (zF Wm (zc (zh 0) (zc (zh 1) zl))) [some (.ref 0),some (.int k),none] A=.ok (.nx [some (.ref 0),some (.int k),some (.int x)]) A:=by
  refine(qI (w:=.int x) (A1:=A) ?_).trans rfl;rw[qp (ws:=[.ref 0,.int k]) (A1:=A) rfl];exact e
 have E:zi To (zh 2) (zi Xa (zo (.int 10)) (zo (.int 18))) [some (.ref 0),some (.int k),some (.int x)] A=.ok (.bl (decide ((1000000000000000000:Int)<=x))) A:=(zL (x:=.int x) (y:=.int 1000000000000000000) (A1:=A) (A2:=A) (zu rfl) rfl).trans rfl
 by_cases h:(1000000000000000000:Int)<=x
 ·refine⟨.lst [.int (x-1000000000000000000),.bl true],qQ ?_,x-1000000000000000000,true,qF,by omega,λz=>nomatch z⟩
  unfold X1;rw[az h]at E;refine(zH a).trans (qv ((wB E).trans (qv (qV (jM ?_)))))
  rfl
 ·refine⟨.lst [.int (x%2147483647),.bl false],qQ ?_,x%2147483647,false,qF,emod_nonneg _ (by decide),λ_=>bN _ (by decide)⟩
  unfold X1;rw[aD h]at E;refine(zH a).trans ((zH ((yQ E).trans rfl)).trans (qv (qV (jM ?_))));refine zX (A1:=A) (A2:=A) ((zL (x:=.int x) (y:=.int 2147483647) (A1:=A) (A2:=A) (zu rfl) rfl).trans (JG (by decide))) rfl
end
def GX (i:Nat):Hx:=[.lst (qw i 0 3),.lst (qw i 3 3),.lst (qw i 0 6),.lst (qw i 6 3),.lst (qw i 0 9),.lst (qw i 9 3),.lst (qw i 0 12),.lst (qw i 12 3),.lst (qw i 0 15),.lst [.int i]]
noncomputable def ZM (x:Str):Option Nat:=if x = "NoTable" then some 0 else none
def RN (h:ZM x=some i):(x = "NoTable" /\ i=0):=by
 unfold ZM at h
 by_cases h0:x = "NoTable"
 ·rw[ag h0]at h;cases h;exact⟨h0,rfl⟩
 ·rw[aj h0]at h;cases h
def EO (a:ZM x=some i)(u:W)(A:Hx):XD [some u,some (.xc x),none,none] A=.ok (.rt (.ref (A.length+9))) (A++GX i):=by
 have two:=RN a;unfold XD;have d:∀(m:Option W)(A:Hx),(zc (ji (jy ja "NoTable") (zh 1)) (zc (ji (jy ja "NotSteady") (zh 1)) (zc (ji (jy ja "NoPlace") (zh 1)) zl))) [some u,some (.xc x),none,m] A=.ok (qw i 0 3) A:=λm A=>by
  rcases two with ⟨rfl,rfl⟩<;>kernel_rfl
 have a1:∀(m:Option W)(A:Hx),(zc (ji (jy ja "NoKind") (zh 1)) (zc (ji (jy ja "NoMix") (zh 1)) (zc (ji (jy ja "NoNumber") (zh 1)) zl))) [some u,some (.xc x),none,m] A=.ok (qw i 3 3) A:=λm A=>by
  rcases two with ⟨rfl,rfl⟩<;>kernel_rfl
 have a2:∀(m:Option W)(A:Hx),(zc (ji (jy ja "NoLot") (zh 1)) (zc (ji (jy ja "NoKinds") (zh 1)) (zc (ji (jy ja "NoPaper") (zh 1)) zl))) [some u,some (.xc x),none,m] A=.ok (qw i 6 3) A:=λm A=>by
  rcases two with ⟨rfl,rfl⟩<;>kernel_rfl
 have c:∀(m:Option W)(A:Hx),(zc (ji (jy ja "NoParting") (zh 1)) (zc (ji (jy ja "NoClosed") (zh 1)) (zc (ji (jy ja "TooMany") (zh 1)) zl))) [some u,some (.xc x),none,m] A=.ok (qw i 9 3) A:=λm A=>by
  rcases two with ⟨rfl,rfl⟩<;>kernel_rfl
 have b:∀(m:Option W)(A:Hx),(zc (ji (jy ja "NoText") (zh 1)) (zc (ji (jy ja "NoLine") (zh 1)) (zc (ji (jy ja "NoDeed") (zh 1)) zl))) [some u,some (.xc x),none,m] A=.ok (qw i 12 3) A:=λm A=>by
  rcases two with ⟨rfl,rfl⟩<;>kernel_rfl
 have ap:∀n,qw i 0 n++qw i n 3=qw i 0 (n+3):=λn=>by
  unfold qw;rw[<- aR]
  congr 1
  have:=List.range'_append_1 (s:=0) (m:=n) (n:=3)
  rw[Nat.zero_add]at this;exact this
 have E:zW 3 (zU (zc (ji (jy ja "NoTable") (zh 1)) (zc (ji (jy ja "NotSteady") (zh 1)) (zc (ji (jy ja "NoPlace") (zh 1)) zl)))) [some u,some (.xc x),none,none] A=.ok (.nx [some u,some (.xc x),none,some (.ref (A.length+0))]) (A++[.lst (qw i 0 3)]):=(qI (jM (d _ A))).trans rfl;refine(zH E).trans ?_;refine(zH (Gb (A:=A) (L:=[.lst (qw i 0 3)]) (j:=0) (xs:=qw i 0 3) (ys:=qw i 3 3) (zs:=qw i 0 6) rfl a1 (by simp[qw]) (ap 3))).trans ?_
 refine(zH (Gb (A:=A) (L:=[.lst (qw i 0 3),.lst (qw i 3 3),.lst (qw i 0 6)]) (j:=2) (xs:=qw i 0 6) (ys:=qw i 6 3) (zs:=qw i 0 9) rfl a2 (by simp[qw]) (ap 6))).trans ?_
 refine(zH (Gb (A:=A) (L:=[.lst (qw i 0 3),.lst (qw i 3 3),.lst (qw i 0 6),.lst (qw i 6 3),.lst (qw i 0 9)]) (j:=4) (xs:=qw i 0 9) (ys:=qw i 9 3) (zs:=qw i 0 12) rfl c (by simp[qw]) (ap 9))).trans ?_
 refine(zH (Gb (A:=A) (L:=[.lst (qw i 0 3),.lst (qw i 3 3),.lst (qw i 0 6),.lst (qw i 6 3),.lst (qw i 0 9),.lst (qw i 9 3),.lst (qw i 0 12)]) (j:=6) (xs:=qw i 0 12) (ys:=qw i 12 3) (zs:=qw i 0 15) rfl b (by simp[qw]) (ap 12))).trans ?_
 generalize H:A++([.lst (qw i 0 3),.lst (qw i 3 3),.lst (qw i 0 6),.lst (qw i 6 3),.lst (qw i 0 9),.lst (qw i 9 3),.lst (qw i 0 12)]++[.lst (qw i 12 3),.lst (qw i 0 15)])=B;have l:B.length=A.length+9:=by rw[<- H];simp
 have hm:B[A.length+8]? =some (.lst (qw i 0 15)):=by rw[<- H,aw (by omega),show A.length+8-A.length=8 by omega];rfl
 refine(zH (ρ1:=[some u,some (.xc x),none,some (.ref (A.length+8))]) (A1:=B) ((yQ (A1:=B) (wy (k:=true) ?_)).trans rfl)).trans (qv (qV ?_))
 ·rcases two with ⟨rfl,rfl⟩<;>kernel_rfl
 have e:=Vi (cap:=[3]) (mi:=qT (zo (.int 15))) (j:=yO 0 15) (ifs:=zi zy (zh 1) (zh 0)) (me:=zh 0) (ρ:=[some u,some (.xc x),none,some (.ref (A.length+8))]) (A:=B) (N:=15) (item:=λk=>.int (0+(k:Int))) (g:=λk=>.int (0+(k:Int))) (keep:=λk=>decide (k=i)) rfl rfl (by unfold zR;omega) (λk h=>wL h) (wK (by omega))
  (λk h=>by
   refine(zL (zu (i:=1) (w:=.ref (A.length+8)) rfl) (zu (i:=0) (w:=.int (0+(k:Int))) rfl)).trans ?_;rw[bE];refine wJ hm ?_;unfold qw;rw[ax,List.getElem?_range' (by omega)]
   simp) (λk h _=>rfl)
 rw[kR e,l];have hf:((List.range 15).filter λk=>decide (k=i)).map (λk:Nat=>W.int (0+(k:Int)))=[.int i]:=by
  rcases two with ⟨rfl,rfl⟩<;>rfl
 rw[hf,<- H,aP]
 rfl
def h7 (h:ZM x=some i):ja.contains x=true:=by
 rcases RN h with ⟨rfl,_⟩<;>decide +kernel
abbrev LS:List Lm:=Qd gc gh gf
def RF (k:Nat)(ws:List W)(A:Hx):R W:=match ki LS k ws A with
 |.exc x A1=>(match ZM x with
  |some i=>.ok (.ref (A1.length+9)) (A1++GX i)|none=>.bad)
 |_=>.bad
def BP {PG:yi}(H:ki LS k ws A=.exc x A1)(h:ZM x=some i):
  je 4 (Y7 PG (ki LS)) [.clo k ws (PG k)] A=.ok (.ref (A1.length+9)) (A1++GX i):=by
 have E:GU 0 PG (ki LS) [some (.clo k ws (PG k)),some .non,none,none] A=.exc x A1:=by
  unfold GU;refine(ag rfl).trans H
 have e:K3 0 1 2 ja PG (ki LS) [some (.clo k ws (PG k)),some .non,none,none] A=.ok (.nx [some (.clo k ws (PG k)),some (.xc x),none,none]) A1:=by
  unfold K3;rw[E];dsimp only;rw[ag (h7 h)]
  rfl
 refine qQ ?_;unfold Y7;refine(zH (ρ1:=[some (.clo k ws (PG k)),some .non,none,none]) (A1:=A) rfl).trans ?_;exact(zH e).trans (EO h _ A1)
def NV (H:ki LS k ws A=.exc x A1)(h:ZM x=some i):RF k ws A=.ok (.ref (A1.length+9)) (A1++GX i):=by
 unfold RF;rw[H];dsimp only;rw[h]
def As {PG:yi}(us:List W)(A:Hx):Ql PG RF us A=.bad∨je 4 (Y7 PG (ki LS)) us A=Ql PG RF us A:=by
 by_cases H:Ql PG RF us A=.bad
 ·exact .inl H
 right
 unfold Ql at H ⊢
 split
 ·rename_i k ws P
  dsimp only at H
  by_cases a:P=PG k
  ·subst a
   rw[ag rfl]at H ⊢;cases e:ki LS k ws A with
   |exc x A1=>
    cases hm:ZM x with
    |none=>exfalso;apply H;unfold RF;rw[e];dsimp only;rw[hm]|some i=>rw[BP e hm,NV e hm]
   |ok w A1=>exfalso;apply H;unfold RF;rw[e]|bad=>exfalso;apply H;unfold RF;rw[e]
  ·rw[aj a]at H;exact absurd rfl H
 ·rename_i h
  exfalso
  apply H
  split
  ·rename_i k ws P
   exact(h k ws P rfl).elim
  ·rfl
section
def VT {t:Lm}(h:ls[k]? =some t):ki ls k ws A=t.m (ws.map some) A:=by unfold ki;rw[h]
end
def XZ:ZM "NoTable"=some 0:=by decide +kernel
section
variable {A0:Hx}{PF:yi}{c g:Nat}{ks:b8}
def kq (g i:Nat):Hx:=(List.replicate i (GX g)).flatten
def Gn (g i:Nat):(kq g i).length=10 * i:=by
 unfold kq;rw[len_rep];show i * 10=_;omega
def PY (g i:Nat):kq g i++GX g=kq g (i+1):=by
 unfold kq;rw[List.replicate_succ',List.flatten_append];simp
theorem Nc (g:Nat):∀(i t:Nat),t<i->(kq g i)[10 * t+9]? =some (.lst [.int (g:Int)])
 |0,_,h=>absurd h (not_lt_zero _)|i+1,t,h=>by
  rw[<- PY]
  by_cases H:t<i
  ·rw[ai (by rw[Gn];omega)]
   exact Nc g i t H
  ·have:t=i:=by omega
   subst this;rw[aw (by rw[Gn];omega),Gn,show 10 * t+9-10 * t=9 by omega]
   rfl
def GY (g:Nat)(a:Hx)(ρ:En)(ks:b8):Prop:=∀k∈ks,∃t ws,LS[k]? =some t/\Qu t.idx ρ=some ws/\∀A,Ext a A->RF k ws A=.ok (.ref (A.length+9)) (A++GX g)
def h9 (h:GY g A0 ρ ks)(b:Ext A0 A)(H:k∈ks):Qx 0 PF LS RF ρ [some (.clo k [] (PF k))] A=.ok (.ref (A.length+9)) (A++GX g):=by
 obtain⟨t,ws,d,c,a⟩:=h k H;unfold Qx;refine(ag rfl).trans ?_;rw[d];dsimp only;rw[c];exact a A b
def BZ (h:GY g A0 ρ ks)(b:Ext A0 A)(d:A[c]? =some (O.lst (ks.map λk=>.clo k [] (PF k))))(n:ks.length<=100):∀(f i:Nat)(x:Option W),i+f=ks.length->∃y,
  qX ⟨λA i=>(zT (.ref c) A).map λws=>ws[i]?,ks.length⟩ (zG 0) (zo (.bl true)) (zM (Qx 0 PF LS RF ρ)) f i [x] ((List.range' 0 i).map λt=>W.ref (A.length+(10 * t+9))) (A++kq g i)=
   .ok ([y],(List.range' 0 ks.length).map λt=>W.ref (A.length+(10 * t+9))) (A++kq g ks.length):=by
 intro f
 induction f with
 |zero=>
  intro i x j
  have:i=ks.length:=by omega
  subst this;refine⟨x,Ec ?_⟩;have a:=Ext.at (A':=A++kq g ks.length) ⟨_,rfl⟩ d;show((zT (.ref c) _).map λws=>ws[ks.length]?)=some none;rw[NX a,aI (by simp)]
 |succ f I=>
  intro i x j;have H:i<ks.length:=by omega
  obtain⟨y,e⟩:=I (i+1) (some (.clo ks[i] [] (PF ks[i]))) (by omega)
  refine⟨y,?_⟩;have a:=Ext.at (A':=A++kq g i) ⟨_,rfl⟩ d;rw[Fy (w:=.clo ks[i] [] (PF ks[i])) (y:=.ref ((A++kq g i).length+9)) (A1:=A++kq g i++GX g) ?_ (h9 h (b.trans ⟨_,rfl⟩) (aO H)) (by simp;unfold zR;omega)]
  ·have l:A++kq g i++GX g=A++kq g (i+1):=by rw[aP,PY]
   have E:((List.range' 0 i).map λt=>W.ref (A.length+(10 * t+9)))++[W.ref ((A++kq g i).length+9)]=(List.range' 0 (i+1)).map λt=>W.ref (A.length+(10 * t+9)):=by
    rw[List.range'_concat,aR,List.map_singleton,ak,Gn]
    congr 3
    omega
   rw[l,E];exact e
  ·show((zT (.ref c) _).map λws=>ws[i]?)=some (some _)
   rw[NX a,ax,aa H]
   rfl
def CY (h:GY g A0 ρ ks)(b:Ext A0 A)(q:A[c]? =some (O.lst (ks.map λk=>.clo k [] (PF k))))(j:ρ[10]? =some (some (.ref c)))(v:ks.length<=100)(hn:n=ks.length)
  (he:PyData.eqv (.list (List.replicate ks.length (.list [.int (g:Int)]))) (.list (List.replicate ks.length (.list [.int (g:Int)])))=true):
  ∃A',zi jf (qg (YO 1 (qh (zh 10)) (zG 0) 0 PF LS RF)) (zi jd (zU (zc (zU (zc (zo (.int (g:Int))) zl)) zl)) (zo (.int n))) ρ A=.ok (.bl false) A'/\Ext A A':=by
 subst hn;obtain⟨y,e⟩:=BZ (PF:=PF) h b q v ks.length 0 none (by omega)
 have s:YO 1 (qh (zh 10)) (zG 0) 0 PF LS RF ρ A=.ok ((List.range' 0 ks.length).map λt=>W.ref (A.length+(10 * t+9))) (A++kq g ks.length):=by
  unfold YO zV;rw[hW (zu j) q,zP];have o:(ks.map λk=>W.clo k [] (PF k)).length=ks.length:=by simp
  dsimp only;rw[o];have J:qX ⟨λA i=>(zT (.ref c) A).map λws=>ws[i]?,ks.length⟩ (zG 0) (zo (.bl true)) (zM (Qx 0 PF LS RF ρ)) ks.length 0 (Qg 1 [] ρ) [] A=.ok ([y],(List.range' 0 ks.length).map λt=>W.ref (A.length+(10 * t+9))) (A++kq g ks.length):=by
   have:=e
   rw[show kq g 0=[] from rfl,bx]at this
   exact this
  rw[J]
  rfl
 have H:∀t,t<ks.length->(A++kq g ks.length)[A.length+(10 * t+9)]? =some (.lst [.int (g:Int)]):=λt f=>by
  rw[aw (by omega),show A.length+(10 * t+9)-A.length=10 * t+9 by omega]
  exact Nc _ _ _ f
 generalize I:A++kq g ks.length=B at s H;have r:=kR s;generalize a:((List.range' 0 ks.length).map λt=>W.ref (A.length+(10 * t+9)))=acc at r;have E:zi jd (zU (zc (zU (zc (zo (.int (g:Int))) zl)) zl)) (zo (.int ks.length)) ρ (B++[O.lst acc])=
   .ok (.ref (B++[O.lst acc]++[O.lst [.int (g:Int)]]++[O.lst [.ref (B++[O.lst acc]).length]]).length) (B++[O.lst acc]++[O.lst [.int (g:Int)]]++[O.lst [.ref (B++[O.lst acc]).length]]++[O.lst (List.replicate ks.length (.ref (B++[O.lst acc]).length))]):=by
  refine(zL (x:=.ref (B++[O.lst acc]++[O.lst [.int (g:Int)]]).length) (y:=.int ks.length) (A1:=B++[O.lst acc]++[O.lst [.int (g:Int)]]++[O.lst [.ref (B++[O.lst acc]).length]]) (jM (zX (jM (ws:=[.int (g:Int)]) (A1:=B++[O.lst acc]) rfl) rfl)) rfl).trans ?_;unfold jd;dsimp only;rw[qF];dsimp only;rw[ag ?_,aH,List.flatten_replicate_singleton];rw[ar,ao,aH];refine⟨Ry (by omega),?_⟩
  show 1 * ks.length<=zR;unfold zR;omega
 generalize z:B++[O.lst acc]++[O.lst [.int (g:Int)]]++[O.lst [.ref (B++[O.lst acc]).length]]=C at E;have p:Ext B (B++[O.lst acc]):=.one;have X:Ext (B++[O.lst acc]++[O.lst [.int (g:Int)]]) (C++[O.lst (List.replicate ks.length (.ref (B++[O.lst acc]).length))]):=by rw[<- z];exact Ext.one.trans .one
 have u:Ext A (C++[O.lst (List.replicate ks.length (.ref (B++[O.lst acc]).length))]):=Ext.trans ⟨_,I.symm⟩ (p.trans (Ext.one.trans X));have l:∀D:Hx,(∀t,t<ks.length->D[A.length+(10 * t+9)]? =some (O.lst [.int (g:Int)]))->jH (qd D 7) acc=some (List.replicate ks.length (.list [.int (g:Int)])):=λD w=>by
  rw[<- a];exact RL _ _ λt _ f=>OX (w t (by omega))
 refine⟨_,(zL r E).trans (hX (d:=.list (List.replicate ks.length (.list [.int (g:Int)]))) ?_ ?_ he),u⟩
 ·refine PM (k:=7) ((Ext.one.trans X).at qF) ?_
  exact l _ λt f=>(p.trans (Ext.one.trans X)).at (H t f)
 ·refine PM (k:=7) qF ?_
  exact PQ (OX (X.at qF)) _
variable {Pt:Addr}
def VM (h:A[1]? =some (.tab jV Pt))(k:Nat):wV 1 jV Pt k (PF k) ρ A=.ok (.clo k [] (PF k)) A:=by
 unfold wV;rw[h];dsimp only;rw[ag ⟨rfl,rfl⟩]
end
section
variable {w:W}
def Ag (h:qN t)(A:Hx):ZA [zr t] A=.ok (.bl true) A:=Cy h A
def Bi (h:wb A w):ZA [w] A=.ok (.bl false) A:=h A λ_ _ z=>z
def WT (h:qN t)(A:Hx):Jg [zr t] A=.ok .non A:=by
 refine CV (ρ:=[some (zr t)]) ?_;unfold XF;refine(zH (ρ1:=[some (zr t)]) (A1:=A) ((yQ (A1:=A) ?_).trans rfl)).trans rfl;exact ZP (wy (k:=true) ((qp (ws:=[zr t]) (A1:=A) rfl).trans (Ag h A)))
def Vp (h:wb A w):Jg [w] A=.exc "NoTable" A:=by
 refine Ga ?_;unfold XF;exact Kh ((wB (A1:=A) (ZP (wy (k:=false) ((qp (ws:=[w]) (A1:=A) rfl).trans (Bi h))))).trans (Kh rfl))
variable {a b:Nat}
def Np {ty:Ty}(h:jO w A=some ty):(kE ty .int&&!kE ty .bl)=kJ w:=by
 cases w with
 |ref k=>
  unfold jO at h;dsimp only at h
  split at h
  ·cases h;rfl
  ·cases h;rfl
  ·cases h
 |clo _ _ _=>cases h|xc _=>cases h|_=>cases h;rfl
def KP {a b:Ev}{p q:Bool}(h:a ρ A=.ok (.bl p) A)(H:b ρ A=.ok (.bl q) A):yj a b ρ A=.ok (.bl (p&&q)) A:=by
 cases p with
 |true=>exact(gI h).trans H|false=>exact ZQ h
def BS {ty:Ty}(h:jO w A=some ty):QJ [w] A=.ok (.bl (kJ w)) A:=by
 unfold QJ WQ RH;refine qQ (qv (qV ((KP (Zh (zu rfl) h) (wy (Zh (zu rfl) h))).trans ?_)));rw[Np h]
def Be (h:qN t)(A:Hx):XQ [zr t] A=.ok (.int (jm t)) A:=by
 refine Zf (A1:=[]) (gz t) rfl (qQ ?_);unfold Ss;refine qv (qV ((zL (V0 h rfl) qM).trans ?_));show R.ok (W.int (jm t-1+1)) []=_
 congr 2
 omega
def P4 (h:qN t)(A:Hx):Ye [zr t] A=.ok (.int (jm t)) A:=by
 refine Zf (A1:=[]) (gz t) rfl (qQ ?_);unfold Rh;refine qv (qV ((zL qM (V0 h rfl)).trans ?_));show R.ok (W.int (1+(jm t-1))) []=_
 congr 2
 omega
def len_tab (h:ρ[i]? =some (some (zr t))):mQ qt (qb (zh i)) ρ A=.ok (.int (t.length:Int)) A:=by
 have:=Uy (ws:=t.map zQ) (A:=A) h
 rw[ah]at this;exact this
end
section
variable {N b:Nat}
def OP {g:Nat->Int}{k:Int}(h:b<N):((List.range N).map λj=>W.int (g j)).set b (.int k)=(List.range N).map λj=>W.int (if j=b then k else g j):=by
 apply ext_getElem?
 intro i
 by_cases hi:i<N
 ·by_cases q:b=i
  ·subst q
   rw[aJ (by simpa using hi),ax,a6 hi]
   simp
  ·rw[aG q,ax,ax,a6 hi]
   simp[Ne.symm q]
 ·rw[aI (by simp;omega),aI (by simp;omega)]
end
section
variable {f:Fn}{us:List W}
def Ee (v:Int)(A:Hx):je 2 (QH f) [.int v,.int v] A=.ok (.bl true) A:=by
 refine qQ ?_;unfold QH;refine(zH (ρ1:=[some (.int v),some (.int v)]) (A1:=A) ((yQ (A1:=A) rfl).trans rfl)).trans (qv (qV ?_));exact(gI (A1:=A) ((zL (zu (i:=0) rfl) (zu (i:=1) rfl)).trans ((Zw _ _ _).trans (by rw[az rfl])))).trans rfl
def FR {x y:W}{ty:Ty}(H:zT x A=some ws)(h:zT y A=some ws)(T:jO x A=some ty)(t:jO y A=some ty)(b:ty=.tup∨ty=.lst)(l:ws.length<=1000)(hf:∀w∈ws,f [w,w] A=.ok (.bl true) A):je 2 (QH f) [x,y] A=.ok (.bl true) A:=by
 refine qQ ?_;unfold QH;have d:mQ qt (qb (zh 0)) [some x,some y] A=.ok (.int ws.length) A:=yK (kS (w:=x) (A1:=A) (zu rfl) H);have E:mQ qt (qb (zh 1)) [some x,some y] A=.ok (.int ws.length) A:=yK (kS (w:=y) (A1:=A) (zu rfl) h);have I:Xb .tup .lst (zh 1) [some x,some y] A=.ok (.bl true) A:=by
  unfold Xb;rw[zu (w:=y) rfl,zP,t];rcases b with rfl|rfl<;>rfl
 have n1:∀c,zi jf (yS c (zh 0)) (yS c (zh 1)) [some x,some y] A=.ok (.bl false) A:=λc=>(zL (Zh (w:=x) (zu rfl) T) (Zh (w:=y) (zu rfl) t)).trans ((Te _ _ _).trans (by rw[bp];rfl))
 refine qv ((wB (A1:=A) I).trans ?_);refine(zH (ρ1:=[some x,some y]) (A1:=A) ((yQ (A1:=A) ((GL (A1:=A) (n1 .tup)).trans (n1 .lst))).trans jF)).trans ?_;refine(zH (ρ1:=[some x,some y]) (A1:=A) ((yQ (A1:=A) ((zL d E).trans ((Mq _ _ _).trans (by rw[az rfl];rfl)))).trans jF)).trans (qv (qV ?_))
 have z:JS (zh 0) (zh 1) [some x,some y] A=.ok (JZ x y ws.length) A:=by
  unfold JS;rw[zu (w:=x) rfl,zP,zu (w:=y) rfl,zP,H,h]
 have j:=IS (A:=A) (cap:=[]) (ρ:=[some x,some y]) (me:=zF f (zc (zh 0) (zc (zh 1) zl))) (N:=ws.length) (u:=λi=>ws.getD i .non) (v:=λi=>ws.getD i .non) (g:=λ_=>.bl true) z rfl l
  (λi a=>by
   show(match zT x A,zT y A with|some us,some vs=>some (zip2 us[i]? vs[i]?)|_,_=>none)=_
   rw[H,h];show some (zip2 ws[i]? ws[i]?)=_;rw[af,aa a];rfl)
  (by
   show(match zT x A,zT y A with|some us,some vs=>some (zip2 us[ws.length]? vs[ws.length]?)|_,_=>none)=_
   rw[H,h];show some (zip2 ws[ws.length]? ws[ws.length]?)=_;rw[aI (av _)];rfl)
  (λi a=>by
   have e:ws.getD i .non=ws[i]:=by rw[af,aa a];rfl
   rw[e];exact(qp (ws:=[ws[i],ws[i]]) (A1:=A) rfl).trans (hf _ (aO a)))
 exact(yK j).trans (Ks (p:=λ_=>true) λ_ _=>rfl)
end
structure LC (K:Nat)(μ:Nat->Nat->Int)(C:Hx):Prop where
 top:C[2 * K]? =some (.lst ((List.range K).map λi=>W.ref (2 * i+1)))
 row:∀i,i<K->C[2 * i+1]? =some (.lst ((List.range K).map λj=>W.int (μ i j)))
section
variable {K a b:Nat}{C:Hx}
def LC.put (h:LC K μ C)(f:i<K)(e:j<K)(k:Int):∃b,kj (.ref (2 * i+1)) (.int (j:Int)) (.int k) C=.ok () b/\LC K (wG μ i j k) b:=by
 have r:=h.row i f;have H:=Za r;refine⟨_,O1 r (by simp;omega),?_,λc d=>?_⟩
 ·rw[aG (by omega)];exact h.top
 ·by_cases q:c=i
  ·subst q
   rw[aJ H,OP e]
   congr 3
   funext a
   unfold wG
   by_cases z:a=j
   ·rw[ag z,ag ⟨rfl,z⟩]
   ·rw[aj z,aj (by rintro⟨_,w⟩;exact z w)]
  ·rw[aG (by omega),h.row c d]
   congr 3
   funext a
   unfold wG;rw[aj (by rintro⟨w,_⟩;exact q w)]
def LC.aug (h:LC K μ C){mo mi:Ev}(o:mo ρ C=.ok (.ref (2 * i+1)) C)(b:mi ρ C=.ok (.int (j:Int)) C)(a:i<K)(H:j<K):∃c,JN mo mi (zo (.int 1)) ρ C=.ok (.nx ρ) c/\LC K (wG μ i j (μ i j+1)) c:=by
 obtain⟨c,e,l⟩:=h.put a H (μ i j+1);refine⟨c,?_,l⟩;unfold JN;rw[o,zP,b,zP];dsimp only;rw[ag (by omega),h.row i a]
 dsimp only;rw[aH,ax,a6 H];show R.bind (kj (.ref (2 * i+1)) (.int (j:Int)) (.int (μ i j+1)) C) _=_;rw[e,zP]
def LC.ix (h:LC K μ C){m mi:Ev}(hm:m ρ C=.ok (.ref (2 * K)) C)(H:mi ρ C=.ok (.int (i:Int)) C)(a:i<K):zi zy m mi ρ C=.ok (.ref (2 * i+1)) C:=
 (zL hm H).trans (wJ h.top (by rw[ax,a6 a];rfl))
def rep1 (w:W):∀n:Nat,(List.replicate n [w]).flatten=(List.range n).map λ_=>w:=λn=>by
 rw[List.map_const',a8]
 induction n with
 |zero=>rfl|succ n i=>rw[a3,aY,i];rfl
def PV (n:K<=8){x0 x1 x2 x4:Option W}{l:List (Option W)}:∃C,qg (zV 1 [3] (qT (zh 3)) (zG 0) (zo (.bl true)) (zM (zi jd (zU (zc (zo (.int 0)) zl)) (zh 1)))) (x0::x1::x2::some (.int (K:Int))::x4::l) []=.ok (.ref (2 * K)) C/\LC K (λ_ _=>0) C:=by
 have hm:=g9 (m:=zh 3) (ρ:=x0::x1::x2::some (.int (K:Int))::x4::l) (A:=[]) (k:=(K:Int)) rfl (ZC (by omega))
 rw[aH]at hm;obtain⟨g,acc,B,e,_,H,h⟩:=Js (nl:=1) (cap:=[3]) (tw:=zG 0) (ifs:=zo (.bl true)) (em:=zM (zi jd (zU (zc (zo (.int 0)) zl)) (zh 1))) (N:=K)
  (I:=λi ρ acc B=>(∃y,ρ=[y,some (.int (K:Int))])/\(B.length=2 * i/\∀c,c<i->B[2 * c+1]? =some (.lst ((List.range K).map λj=>W.int 0)))/\acc=(List.range i).map λc=>W.ref (2 * c+1)) hm rfl
  (λi ρ acc B b ⟨⟨y,a⟩,⟨d,H⟩,h⟩=>by
   subst a h;refine⟨_,_,wL b,rfl,.inl ⟨B,_,_,B++[.lst [.int 0]]++[.lst ((List.range K).map λj=>W.int 0)],rfl,Ju (y:=.ref (2 * i+1)) ?_ (by rw[ah,a8];unfold zR;omega),⟨_,rfl⟩,⟨by simp;omega,λc f=>?_⟩,by rw[bO,aR];rfl⟩⟩
   ·refine(zL (jM (zX qM qy)) (zu (i:=1) (w:=.int (K:Int)) rfl)).trans ?_
    unfold jd;dsimp only;rw[qF];dsimp only;rw[ag (by rw[ZC (by omega),aH];simp;unfold zR;omega),aH,ak,d,rep1]
    rfl
   ·by_cases q:c=i
    ·subst q
     rw[aw (by simp;omega)]
     simp[d]
    ·rw[ai (by simp;omega),ai (by omega)]
     exact H c (by omega))
  (λρ acc B _=>wK (by omega)) ⟨⟨none,rfl⟩,⟨rfl,λc f=>absurd f (not_lt_zero _)⟩,rfl⟩
 subst h;refine⟨B++[.lst ((List.range K).map λc=>W.ref (2 * c+1))],?_,?_,λi b=>?_⟩
 ·rw[kR e,H.1]
 ·rw[<- H.1];exact qF
 ·exact jS (H.2 i b)
theorem LC.tup (h:LC K μ C)(d:K<=8){i:Nat}(b:ρ[i]? =some (some (.ref (2 * K)))):mQ yW (zV 1 [] (qh (zh i)) (zG 0) (zo (.bl true)) (zM (mQ yW (qb (zh 0))))) ρ C=.ok (zr (yL K μ)) C:=by
 have e:=Jv (cap:=[]) (ws:=(List.range K).map λi=>W.ref (2 * i+1)) (me:=mQ yW (qb (zh 0))) (zu b) h.top (by simp;unfold zR;omega) (g:=λw=>match w with|.ref n=>(match C[n]? with|some (.lst ws)=>.tup ws|_=>.non)|_=>.non) (λw hw=>by
  obtain⟨c,a,rfl⟩:=cy.mp hw;have H:=h.row c (cB.mp a);dsimp only;rw[H];exact JI (kS (w:=.ref (2 * c+1)) (A1:=C) (zu rfl) (by unfold zT;dsimp only;rw[H])))
 rw[JI e]
 congr 1
 unfold zr yL;rw[aL,aL]
 congr 1
 refine a5 λc a=>?_;have H:=h.row c (cB.mp a);show(match C[2 * c+1]? with|some (.lst ws)=>W.tup ws|_=>.non)=zQ ((List.range K).map (μ c))
 rw[H];unfold zQ;rw[aL]
 rfl
def shr (t:bU)(a b:Nat):Nat->Nat->Nat->Int
 |0=>λ_ _=>0|n+1=>wG (shr t a b n) (at2 t a n).toNat (at2 t b n).toNat (shr t a b n (at2 t a n).toNat (at2 t b n).toNat+1)
def yw (t:bU)(K a b:Nat):bU:=yL K (shr t a b t.length)
def YA (h:qN t)(d:jm t=(K:Int))(c:a<t.length)(H:b<t.length):((at2 t a b).toNat:Int)=at2 t a b/\(at2 t a b).toNat<K:=by
 have f:=UH h c H;have e:=Um h c H;omega
def WV (h:qN t)(g:jm t=(K:Int))(d:a<t.length)(c:b<t.length)(A:Hx):gF [zr t,.int (a:Int),.int (b:Int)] A=.ok (zr (yw t K a b)) A:=by
 have n8:=h.n8;have w:=Q2 h;have f:((t.getD a []).map W.int).length=t.length:=by rw[ah,h.sq _ (yG d)]
 have s:((t.getD b []).map W.int).length=t.length:=by rw[ah,h.sq _ (yG c)]
 obtain⟨C,u,p⟩:=PV (K:=K) (by omega) (x0:=some (zr t)) (x1:=some (.int (a:Int))) (x2:=some (.int (b:Int))) (x4:=none) (l:=[none,none])
 obtain⟨i,B,E,L,Y,y,H⟩:=gi (j:=JZ (.tup ((t.getD a []).map W.int)) (.tup ((t.getD b []).map W.int)) ((t.getD a []).map W.int).length) (st:=turn (jW 5 6) (zq (JN (zi zy (zh 4) (zh 5)) (zh 6) (zo (.int 1))) zC)) (N:=t.length)
  (I:=λn ρ B=>LC K (shr t a b n) B/\∃Y y,ρ=[some (zr t),some (.int (a:Int)),some (.int (b:Int)),some (.int (K:Int)),some (.ref (2 * K)),Y,y])
  (λn ρ B hn ⟨l,Y,y,H⟩=>by
   subst H;obtain⟨o,q⟩:=YA h g d hn;obtain⟨k,Q⟩:=YA h g c hn;obtain⟨v,e,r⟩:=l.aug (ρ:=[some (zr t),some (.int (a:Int)),some (.int (b:Int)),some (.int (K:Int)),some (.ref (2 * K)),some (.int (at2 t a n)),some (.int (at2 t b n))]) (mo:=zi zy (zh 4) (zh 5)) (mi:=zh 6) (l.ix (zu rfl) (zu (by rw[o];rfl)) q) (zu (by rw[k];rfl)) q Q
   refine⟨.tup [.int (at2 t a n),.int (at2 t b n)],_,v,?_,(kK rfl).trans ((zH e).trans jF),r,_,_,rfl⟩;show some (zip2 ((t.getD a []).map W.int)[n]? ((t.getD b []).map W.int)[n]?)=_;rw[int_at (by rw[h.sq _ (yG d)];exact hn),int_at (by rw[h.sq _ (yG c)];exact hn)]
   rfl)
  (λρ B _=>by
   show some (zip2 ((t.getD a []).map W.int)[t.length]? ((t.getD b []).map W.int)[t.length]?)=_;rw[aI (by omega),aI (by omega)]
   rfl) t.length 0 [some (zr t),some (.int (a:Int)),some (.int (b:Int)),some (.int (K:Int)),some (.ref (2 * K)),none,none] C (by omega) ⟨p,_,_,rfl⟩
 subst H;refine Zf (A1:=B) (gz t) (Kr _) (qQ ?_);unfold T9;refine(zH (ρ1:=[some (zr t),some (.int (a:Int)),some (.int (b:Int)),some (.int (K:Int)),none,none,none]) (A1:=[]) ((qI ((qp (zX (zu rfl) qy)).trans ((Be h []).trans (by rw[g])))).trans rfl)).trans ?_
 refine(zH (ρ1:=[some (zr t),some (.int (a:Int)),some (.int (b:Int)),some (.int (K:Int)),some (.ref (2 * K)),none,none]) (A1:=C) ((qI u).trans rfl)).trans ?_;refine(zH (ρ1:=[some (zr t),some (.int (a:Int)),some (.int (b:Int)),some (.int (K:Int)),some (.ref (2 * K)),Y,y]) (A1:=B) ((kA (Dy ((zL (zu rfl) (zu rfl)).trans (Qc d)) ((zL (zu rfl) (zu rfl)).trans (Qc c)))).trans ?_)).trans (qv (qV (L.tup (by omega) rfl)))
 have:(JZ (.tup ((t.getD a []).map W.int)) (.tup ((t.getD b []).map W.int)) ((t.getD a []).map W.int).length).len=t.length:=f
 rw[this];exact E
def Pf (H:qN t)(f:jm t=(K:Int))(d:a<t.length)(c:b<t.length)(A:Hx):Jk [zr t,.int (a:Int),.int (b:Int)] A=.ok (zr (yw t K a b)) A:=by
 have n8:=H.n8;have v:=Q2 H;obtain⟨C,s,p⟩:=PV (K:=K) (by omega) (x0:=some (zr t)) (x1:=some (.int (a:Int))) (x2:=some (.int (b:Int))) (x4:=none) (l:=[none])
 obtain⟨g,B,E,L,y,h⟩:=gi (j:=yO 0 t.length) (st:=turn (zG 5) (zq (JN (zi zy (zh 4) (zi zy (zi zy (zh 0) (zh 1)) (zh 5))) (zi zy (zi zy (zh 0) (zh 2)) (zh 5)) (zo (.int 1))) zC)) (N:=t.length)
  (I:=λn ρ B=>LC K (shr t a b n) B/\∃y,ρ=[some (zr t),some (.int (a:Int)),some (.int (b:Int)),some (.int (K:Int)),some (.ref (2 * K)),y])
  (λn ρ B hn ⟨l,y,h⟩=>by
   subst h;obtain⟨o,q⟩:=YA H f d hn;obtain⟨k,Q⟩:=YA H f c hn;have x1:zi zy (zi zy (zh 0) (zh 1)) (zh 5) [some (zr t),some (.int (a:Int)),some (.int (b:Int)),some (.int (K:Int)),some (.ref (2 * K)),some (.int (n:Int))] B=.ok (.int ((at2 t a n).toNat:Int)) B:=by
    rw[o];exact(zL ((zL (zu rfl) (zu rfl)).trans (Qc d)) (zu rfl)).trans (JJ (by rw[H.sq _ (yG d)];exact hn))
   have x2:zi zy (zi zy (zh 0) (zh 2)) (zh 5) [some (zr t),some (.int (a:Int)),some (.int (b:Int)),some (.int (K:Int)),some (.ref (2 * K)),some (.int (n:Int))] B=.ok (.int ((at2 t b n).toNat:Int)) B:=by
    rw[k];exact(zL ((zL (zu rfl) (zu rfl)).trans (Qc c)) (zu rfl)).trans (JJ (by rw[H.sq _ (yG c)];exact hn))
   obtain⟨u,e,r⟩:=l.aug (mo:=zi zy (zh 4) (zi zy (zi zy (zh 0) (zh 1)) (zh 5))) (l.ix (zu rfl) x1 q) x2 q Q;refine⟨.int (0+(n:Int)),_,u,wL hn,(kK (ρ1:=[some (zr t),some (.int (a:Int)),some (.int (b:Int)),some (.int (K:Int)),some (.ref (2 * K)),some (.int (n:Int))]) (by rw[bE];rfl)).trans ((zH e).trans jF),r,_,rfl⟩)
  (λρ B _=>wK (by omega)) t.length 0 [some (zr t),some (.int (a:Int)),some (.int (b:Int)),some (.int (K:Int)),some (.ref (2 * K)),none] C (by omega) ⟨p,_,rfl⟩
 subst h;refine Zf (A1:=B) (gz t) (Kr _) (qQ ?_);unfold Sz;have hm:=g9 (len_tab (t:=t) (i:=0) (ρ:=[some (zr t),some (.int (a:Int)),some (.int (b:Int)),some (.int (K:Int)),some (.ref (2 * K)),none]) (A:=C) rfl) (ZC (n:=t.length) (by omega))
 rw[aH]at hm;refine(zH (ρ1:=[some (zr t),some (.int (a:Int)),some (.int (b:Int)),some (.int (K:Int)),none,none]) (A1:=[]) ((qI ((qp (zX (zu rfl) qy)).trans ((P4 H []).trans (by rw[f])))).trans rfl)).trans ?_
 refine(zH (ρ1:=[some (zr t),some (.int (a:Int)),some (.int (b:Int)),some (.int (K:Int)),some (.ref (2 * K)),none]) (A1:=C) ((qI s).trans rfl)).trans ?_;exact(zH ((kA hm).trans E)).trans (qv (qV (L.tup (by omega) rfl)))
end
section
variable {w x:W}{a:Ea}
def Bd {m:Ev}{a:En}{w:W}(h:m ρ A=.ok w A1)(h':tw w ρ=some a):Jb m tw ρ A=.ok (.nx a) A1:=by
 unfold Jb;rw[h,zP,h']
def U9 {a:W}(h:ρ[i]? =some (some a)):Qu [i] ρ=some [a]:=by
 unfold Qu;rw[h]
 rfl
def UP {x:Str}{g:Nat}(H:ki LS k ws A=.exc x A)(h:ZM x=some g):RF k ws A=.ok (.ref (A.length+9)) (A++GX g):=NV H h
end
structure LM (N b0 r:Nat)(μ:Nat->Nat->Int)(C:Hx):Prop where
 top:C[r]? =some (.lst ((List.range N).map λi=>W.ref (b0+i)))
 row:∀i,i<N->C[b0+i]? =some (.lst ((List.range N).map λj=>W.int (μ i j)))
 lt:b0+N<=r
 pos:0<b0
 st:qU 0 C
structure Sy (N:Nat)(μ:Nat->Nat->Int):Prop where
 dg:∀a b,a<N->b<N->(μ a b=0↔a=b)
 sy:∀a b,a<N->b<N->μ a b=μ b a
 lo:∀a b,a<N->b<N->0<=μ a b/\μ a b<(N:Int)
section
variable {N b0 r a b:Nat}{C:Hx}
def Sy.step (h:Sy N μ)(l:a<N)(g:b<N)(f:a≠b){k:Int}(k1:1<=k)(k2:k<(N:Int)):Sy N (wG (wG μ a b k) b a k):=by
 have at_:∀i j,wG (wG μ a b k) b a k i j=if (i=b/\j=a)∨(i=a/\j=b) then k else μ i j:=λi j=>by
  unfold wG
  by_cases e:i=b/\j=a
  ·rw[ag e,ag (.inl e)]
  ·rw[aj e]
   by_cases Q:i=a/\j=b
   ·rw[ag Q,ag (.inr Q)]
   ·rw[aj Q,aj (by rintro(z|z);exact e z;exact Q z)]
 refine⟨λi j d H=>?_,λi j d H=>?_,λi j d H=>?_⟩
 ·rw[at_]
  by_cases q:(i=b/\j=a)∨(i=a/\j=b)
  ·rw[ag q]
   constructor
   ·intro z;omega
   ·intro z;omega
  ·rw[aj q];exact h.dg i j d H
 ·rw[at_,at_]
  by_cases q:(i=b/\j=a)∨(i=a/\j=b)
  ·rw[ag q,ag (by rcases q with ⟨c,Z⟩|⟨c,Z⟩;exact .inr ⟨Z,c⟩;exact .inl ⟨Z,c⟩)]
  ·rw[aj q,aj (by rintro(⟨c,Z⟩|⟨c,Z⟩);exact q (.inr ⟨Z,c⟩);exact q (.inl ⟨Z,c⟩))]
   exact h.sy i j d H
 ·rw[at_]
  by_cases q:(i=b/\j=a)∨(i=a/\j=b)
  ·rw[ag q];omega
  ·rw[aj q];exact h.lo i j d H
theorem LM.put (h:LM N b0 r μ C)(g:a<N)(f:b<N)(k:Int):∃d,kj (.ref (b0+a)) (.int (b:Int)) (.int k) C=.ok () d/\LM N b0 r (wG μ a b k) d:=by
 have c:=h.row a g;have H:=Za c;have n:=h.lt;have l:=h.pos;refine⟨_,O1 c (by simp;omega),?_,λi e=>?_,n,l,h.st.put (by omega)⟩
 ·rw[aG (by omega)];exact h.top
 ·by_cases q:i=a
  ·subst q
   rw[aJ H,OP f]
   congr 3
   funext j
   unfold wG
   by_cases z:j=b
   ·rw[ag z,ag ⟨rfl,z⟩]
   ·rw[aj z,aj (by rintro⟨_,w⟩;exact z w)]
  ·rw[aG (by omega),h.row i e]
   congr 3
   funext j
   unfold wG;rw[aj (by rintro⟨w,_⟩;exact q w)]
def LM.kn {c:Hx}(h:LM N b0 r μ C)(k:Kn 0 C c):LM N b0 r μ c:=by
 have b:=h.lt;have a:=h.pos;exact⟨k.kp.get h.top (by omega),λi H=>k.kp.get (h.row i H) (by omega),b,a,k.st⟩
def LM.ix (h:LM N b0 r μ C){m:Ev}(hm:m ρ C=.ok (.ref r) C)(H:ρ[i]? =some (some (.int (a:Int))))(b:a<N):zi zy m (zh i) ρ C=.ok (.ref (b0+a)) C:=
 (zL hm (zu H)).trans (wJ h.top (by rw[ax,a6 b];rfl))
def LM.ix2 (h:LM N b0 r μ C){m:Ev}(hm:m ρ C=.ok (.ref r) C)(d:ρ[i]? =some (some (.int (a:Int))))(c:ρ[j]? =some (some (.int (b:Int))))(H:a<N)(e:b<N):zi zy (zi zy m (zh i)) (zh j) ρ C=.ok (.int (μ a b)) C:=
 (zL (h.ix hm d H) (zu c)).trans (wJ (h.row a H) (by rw[ax,a6 e];rfl))
abbrev Ti (me:Ev)(rest:Ex):Ex:=zq (wM kj (zi zY qf (zF jQ (zc zB (zc me zl)))) (zi zy qH jq) yn) (zq (wM kj (zi zy (zi zy qH jq) yn) (zi zy qH yn) jq) rest)
def Oy (h:LM N b0 r μ C)(q:Sy N μ)(d:a<N)(H:b<N)(f:a≠b)(h0:ρ[0]? =some (some (.ref 0)))(j:ρ[2]? =some (some (.ref r)))(i:ρ[4]? =some (some (.int (a:Int))))(g:ρ[5]? =some (some (.int (b:Int)))){m:Int}(hm:me ρ C=.ok (.int m) C)(m1:0<m)(m2:m<(N:Int))(x:N<=8)(rest:Ex):
  ∃c p,Ti me rest ρ C=rest ρ p/\LM N b0 r c p/\Sy N c:=by
 obtain⟨k,e,u,v,k1,_⟩:=ZE h.st h0 hm m1 (by omega)
 have L:=h.kn k1;obtain⟨n,t,l⟩:=L.put d H (1+(k:Int));obtain⟨o,E,s⟩:=l.put H d (1+(k:Int));refine⟨_,o,?_,s,q.step d H f (by omega) (by omega)⟩
 refine(zH (ρ1:=ρ) (A1:=n) ?_).trans (zH (ρ1:=ρ) (A1:=o) ?_)
 ·unfold wM
  rw[(zL (qM (w:=.int 1)) u).trans (show zY (.int 1) (.int (k:Int)) e=.ok (.int (1+(k:Int))) e from rfl),zP,L.ix (zu j) i d,zP,(show yn ρ e=.ok (.int (b:Int)) e from zu g),zP,t,zP]
 ·have ev:wG μ a b (1+(k:Int)) a b=1+(k:Int):=by unfold wG;rw[ag ⟨rfl,rfl⟩]
  unfold wM;rw[l.ix2 (zu j) i g d H,zP,l.ix (zu j) g H,zP,(show jq ρ n=.ok (.int (a:Int)) n from zu i),zP,ev,E,zP]
def LM.ll (h:LM N b0 r μ C):LL (yL N μ) r C:=by
 refine⟨(List.range N).map λi=>b0+i,by rw[h.top,aL];rfl,by rw[WY];simp,λi H=>?_⟩
 rw[WY]at H;have E:((List.range N).map λi=>b0+i).getD i 0=b0+i:=by rw[af,ax,a6 H];rfl
 have e:(yL N μ).getD i []=(List.range N).map (μ i):=by unfold yL;rw[af,ax,a6 H];rfl
 rw[E,e,h.row i H,aL]
 rfl
def LM.fin (h:LM N b0 r μ C)(q:Sy N μ)(n1:1<=N)(n8:N<=8)(f:ρ[2]? =some (some (.ref r))):∃u B,zF Jm (zc qH zl) ρ C=.ok (zr u) B/\qN u/\qU 0 B:=by
 have l:=WY (n:=N) (μ:=μ);have H:∀v∈(yL N μ).flatten,0<=v/\v<(N:Int):=λv d=>by
  obtain⟨a,b,c,H,rfl⟩:=Jy V6 d;rw[l]at c H;rw[QS c H];exact q.lo a b c H
 obtain⟨B,e,x⟩:=ON (t:=yL N μ) (by omega) (by omega) V6 (λv d=>by have:=H v d;omega) h.ll
 refine⟨_,B,(qp (zX (zu f) qy)).trans e,Fd (by omega) (by omega) V6 ?_ ?_ ?_,h.st.ext x⟩
 ·intro a b c H;rw[l]at c H;rw[QS c H];exact q.dg a b c H
 ·intro a b c H;rw[l]at c H;rw[QS c H,QS H c];exact q.sy a b c H
 ·intro a b c H;rw[l]at c H ⊢;rw[QS c H];exact q.lo a b c H
def CK (h:qN t)(s:qU 0 B):LM t.length B.length (B.length+t.length) (at2 t) (B++(t.map λr=>O.lst (r.map W.int))++[O.lst ((List.range t.length).map λi=>W.ref (B.length+i))])/\Sy t.length (at2 t):=by
 refine⟨⟨Oa,λi H=>?_,av _,s.lt,s.ext ⟨(t.map λr=>O.lst (r.map W.int))++[O.lst ((List.range t.length).map λi=>W.ref (B.length+i))],by rw[aP]⟩⟩,h.dg,h.sy,λa b f e=>?_⟩
 ·rw[OQ H]
  congr 2
  have d:=h.sq _ (yG H)
  have:=Y8 (t.getD i []) 0 W.int
  rw[this,d]
  rfl
 ·obtain⟨c,j,g,_⟩:=Gq h.sq f e
  exact h.lo c j _ g
noncomputable abbrev eW (w r N:Nat)(l:En):En:=some (.ref 0)::some (.int (w:Int))::some (.ref r)::some (.int (N:Int))::l
def BX (s:qU 0 [o]):∃t B,WA [.ref 0] [o]=.ok (zr t) B/\qU 0 B/\qN t:=by
 unfold WA;unfold S9;obtain⟨way,T,e0,hw,k0,_⟩:=ZE (ρ:=[some (.ref 0),none,none,none,none,none,none]) (me:=zo (.int 3)) s rfl qM (by decide:(0:Int)<3) (by decide)
 have go:∀m2:Ex,zq (zW 1 (zF jQ (zc zB (zc j4 zl)))) m2 [some (.ref 0),none,none,none,none,none,none] [o]=m2 [some (.ref 0),some (.int (way:Int)),none,none,none,none,none] T:=λm2=>zH ((qI e0).trans rfl);obtain⟨t,x,e1,J,_,k1,_⟩:=CS k0.st;have n1:=J.n1;have n8:=J.n8;have P:zi qL zK ql [some (.ref 0),some (.int (way:Int)),none,none,none,none,none] T=.ok (.bl (decide ((way:Int)=0))) T:=(zL (zu rfl) qM).trans (Zw _ _ _);have ek:zF Yd (zc zB zl) [some (.ref 0),some (.int (way:Int)),none,none,none,none,none] T=.ok (zr t) x:=(qp (zX (zu rfl) qy)).trans e1
 by_cases q0:(way:Int)=0
 ·rw[az q0]at P
  exact⟨t,x,qQ ((go _).trans (qv ((wB P).trans (qv (qV ek))))),k1.st,J⟩
 ·rw[aD q0]at P
  have er:=Hm (B:=x) n8 J.sq ek;obtain⟨lm,sy⟩:=CK J k1.st;generalize x++(t.map λr=>O.lst (r.map W.int))++[O.lst ((List.range t.length).map λi=>W.ref (x.length+i))]=C at er lm;generalize x.length+t.length=r at er lm;generalize x.length=b0 at lm;generalize at2 t=μ at lm sy;generalize hN:t.length=N at lm sy n1 n8;have K:mQ qt (qb qH) [some (.ref 0),some (.int (way:Int)),some (.ref r),none,none,none,none] C=.ok (.int (N:Int)) C:=by
   rw[yK (kS (w:=.ref r) (A1:=C) (zu rfl) (by unfold zT;dsimp only;rw[lm.top]))]
   unfold qt;simp
  have go2:∀m1 m2:Ex,zq (zW 1 (zF jQ (zc zB (zc j4 zl)))) (zq (qZ (zi qL zK ql) m1 zC) (zq (zW 2 (qg (zV 1 [] (qh (zF Yd (zc zB zl))) (zG 0) qJ (zM (qg (qb zB)))))) (zq (zW 3 (mQ qt (qb qH))) m2))) [some (.ref 0),none,none,none,none,none,none] [o]=m2 (eW way r N [none,none,none]) C:=λm1 m2=>
   (go _).trans ((zH ((yQ P).trans jF)).trans ((zH ((qI er).trans rfl)).trans (zH ((qI K).trans rfl))))
  have Q:yj (zi qL zK qf) (zi Tq qx qf) (eW way r N [none,none,none]) C=.ok (.bl (decide ((way:Int)=1)&&decide ((1:Int)<(N:Int)))) C:=by
   have e:zi qL zK qf (eW way r N [none,none,none]) C=.ok (.bl (decide ((way:Int)=1))) C:=(zL (zu rfl) qM).trans (Zw _ _ _)
   by_cases z:(way:Int)=1
   ·rw[az z]at e ⊢
    exact(gI e).trans ((zL (zu rfl) qM).trans rfl)
   ·rw[aD z]at e ⊢
    exact ZQ e
  cases hd:(decide ((way:Int)=1)&&decide ((1:Int)<(N:Int))) with
  |true=>
   rw[hd]at Q;have hN2:2<=N:=by
    rw[ar,ao,ao]at hd;omega
   obtain⟨a,d,M,ha,k2,_⟩:=ZE (ρ:=(eW way r N [none,none,none])) (me:=zh 3) lm.st rfl (zu rfl) (by omega:(0:Int)<(N:Int)) (by omega)
   obtain⟨q,C2,e3,hq,k3,_⟩:=ZE (ρ:=(eW way r N [some (.int (a:Int)),none,none])) (me:=zi kN qx qf) (m:=(N:Int)-1) k2.st rfl ((zL (zu rfl) qM).trans rfl) (by omega) (by omega)
   have X:=(lm.kn k2).kn k3;have hb:(a+1+q)%N<N:=Nat.mod_lt _ (by omega)
   have hab:a≠(a+1+q)%N:=by
    intro z
    by_cases g:a+1+q<N
    ·rw[Nat.mod_eq_of_lt g]at z;omega
    ·rw[Nat.mod_eq_sub_mod (by omega),Nat.mod_eq_of_lt (by omega)]at z
     omega
   have e4:zi wC (zi zY (zi zY jq qf) (zF jQ (zc zB (zc (zi kN qx qf) zl)))) qx (eW way r N [some (.int (a:Int)),none,none]) d=.ok (.int (((a+1+q)%N:Nat):Int)) C2:=by
    refine(zL ((zL ((zL (zu rfl) qM).trans (show zY (.int (a:Int)) (.int 1) d=.ok (.int ((a:Int)+1)) d from rfl)) e3).trans (show zY (.int ((a:Int)+1)) (.int (q:Int)) C2=.ok (.int ((a:Int)+1+(q:Int))) C2 from rfl)) (zu (i:=3) rfl)).trans ((JG (by omega)).trans ?_)
    congr 2
   obtain⟨c,C3,e5,L,S⟩:=Oy (ρ:=(eW way r N [some (.int (a:Int)),some (.int (((a+1+q)%N:Nat):Int)),none])) (me:=zi kN qx qf) (m:=(N:Int)-1) X sy (by omega) hb hab rfl rfl rfl rfl ((zL (zu rfl) qM).trans rfl) (by omega) (by omega) n8 (zq (qD (zF Jm (zc qH zl))) zC)
   obtain⟨u,B,e6,Z,sB⟩:=L.fin S n1 n8 (ρ:=(eW way r N [some (.int (a:Int)),some (.int (((a+1+q)%N:Nat):Int)),none])) rfl;refine⟨u,B,qQ ((go2 _ _).trans (qv ((wB Q).trans ?_))),sB,Z⟩;exact(zH ((qI M).trans rfl)).trans ((zH ((qI e4).trans rfl)).trans (e5.trans (qv (qV e6))))
  |false=>
   rw[hd]at Q;have xo:Ext C (C++[.lst [.int 2,.int 3,.int 1]]):=Ext.one;obtain⟨j,d,M,hj,k2,_⟩:=ZE (ρ:=(eW way r N [none,none,none])) (me:=zo (.int 3)) (lm.st.ext xo) rfl qM (by decide:(0:Int)<3) (by decide)
   have Y:LM N b0 r μ d:=(lm.kn (Kn.ext lm.st xo)).kn k2;obtain⟨f,hf1,ef⟩:∃f:Int,1<=f/\zi zy (zU (zc jw (zc j4 (zc qf zl)))) (zF jQ (zc zB (zc j4 zl))) (eW way r N [none,none,none]) C=.ok (.int f) d:=by
    have v:=k2.kp.get (qF (A:=C)) (by have:=lm.st.lt;omega)
    have hj3:j<3:=by omega
    rcases three hj3 with rfl|rfl|rfl
    ·exact⟨2,by decide,(zL (jM rfl) M).trans (wJ v rfl)⟩
    ·exact⟨3,by decide,(zL (jM rfl) M).trans (wJ v rfl)⟩
    ·exact⟨1,by decide,(zL (jM rfl) M).trans (wJ v rfl)⟩
   have rng:∀(i:Nat)(ρ:En)(D:Hx)(k:Nat),k<=8->ρ[i]? =some (some (.int (k:Int)))->qT (zh i) ρ D=.ok (yO 0 k) D:=λi ρ D k hk h=>by
    have:=g9 (m:=zh i) (A:=D) (zu h) (ZC (n:=k) (by omega))
    rw[aH]at this;exact this
   obtain⟨U,D,e3,⟨c,L,S⟩,y4,y,H⟩:=gi (j:=yO 0 N) (st:=turn (zG 4) (zq (jK (qT jq) (zG 5) (Ti (zi Q4 Z0 (zi kN qx qf)) zC)) zC)) (N:=N)
    (I:=λ_ ρ D=>(∃μ,LM N b0 r μ D/\Sy N μ)/\∃y4 y,ρ=(eW way r N [y4,y,some (.int f)]))
    (λa ρ D ha ⟨⟨μ,lm,sy⟩,y4,y,H⟩=>by
     subst H;obtain⟨U,D',e,⟨c,p,l⟩,y5',E⟩:=gi (j:=yO 0 a) (st:=turn (zG 5) (Ti (zi Q4 Z0 (zi kN qx qf)) zC)) (N:=a)
      (I:=λ_ ρ D=>(∃μ,LM N b0 r μ D/\Sy N μ)/\∃y,ρ=(eW way r N [some (.int (a:Int)),y,some (.int f)]))
      (λb ρ D hb ⟨⟨μ,lm,sy⟩,y,H⟩=>by
       subst H;have em:zi Q4 Z0 (zi kN qx qf) (eW way r N [some (.int (a:Int)),some (.int (b:Int)),some (.int f)]) D=.ok (.int (if (N:Int)-1<f then(N:Int)-1 else f)) D:=(zL (zu rfl) ((zL (zu rfl) qM).trans rfl)).trans rfl;obtain⟨c,D',e,p,l⟩:=Oy (ρ:=(eW way r N [some (.int (a:Int)),some (.int (b:Int)),some (.int f)])) lm sy ha (by omega:b<N) (by omega) rfl rfl rfl rfl em (by split<;>omega) (by split<;>omega) n8 zC
       refine⟨_,_,D',wL hb,(kK (ρ1:=(eW way r N [some (.int (a:Int)),some (.int (b:Int)),some (.int f)])) ?_).trans e,⟨c,p,l⟩,_,rfl⟩;rw[bE];rfl)
      (λρ D _=>wK (by omega)) a 0 (eW way r N [some (.int (a:Int)),y,some (.int f)]) D (by omega) ⟨⟨μ,lm,sy⟩,_,rfl⟩
     subst E;refine⟨_,_,D',wL ha,(kK (ρ1:=(eW way r N [some (.int (a:Int)),y,some (.int f)])) ?_).trans ((zH ((kA (rng 4 _ D a (by omega) rfl)).trans e)).trans jF),⟨c,p,l⟩,_,_,rfl⟩
     rw[bE];rfl)
    (λρ D _=>wK (by omega)) N 0 (eW way r N [none,none,some (.int f)]) d (by omega) ⟨⟨μ,Y,sy⟩,_,_,rfl⟩
   subst H;obtain⟨u,B,e6,Z,sB⟩:=L.fin S n1 n8 (ρ:=(eW way r N [y4,y,some (.int f)])) rfl;refine⟨u,B,qQ ((go2 _ _).trans ((zH ((yQ Q).trans jF)).trans ((zH ((qI ef).trans rfl)).trans ((zH ((kA (rng 3 _ d N n8 rfl)).trans e3)).trans (qv (qV e6)))))),sB,Z⟩
def ia (s:qU n A):∃t B,Jn [.ref n] A=.ok (zr t) B/\qN t/\Kn n A B:=by
 obtain⟨c,b,a,f,g⟩:=s;have hm:=Za a;obtain⟨t,A1,e,⟨C,d,E,h,H⟩,T⟩:=BX (o:=.lst [.int c,.bl b]) ⟨c,b,rfl,f,g⟩;refine⟨t,A.set n (.lst [.int C,.bl d]),?_,T,⟨Kp.set,C,d,aJ hm,h,H⟩⟩;unfold Jn;exact Ox a rfl e E (Kr t)
end
def Vh {j:jE}{st:W->Ex}{N:Nat}{I:Nat->En->Hx->Prop}{Q:W->Hx->Prop}
  (p:∀i ρ A,i<N->I i ρ A->∃w,j.at_ A i=some (some w)/\((∃ρ1 A1,st w ρ A=.ok (.nx ρ1) A1/\I (i+1) ρ1 A1)∨∃r A1,st w ρ A=.ok (.rt r) A1/\Q r A1))(d:∀ρ A,I N ρ A->j.at_ A N=some none):
  ∀(f i:Nat)(ρ:En)(A:Hx),i+f=N->I i ρ A->(∃a A',yP j st f i ρ A=.ok (.nx a) A'/\I N a A')∨∃r A',yP j st f i ρ A=.ok (.rt r) A'/\Q r A':=by
 intro f
 induction f with
 |zero=>
  intro i ρ A h b
  have:i=N:=by omega
  subst this;exact .inl ⟨ρ,A,Vl (d _ _ b),b⟩
 |succ f k=>
  intro i ρ A h b;obtain⟨w,g,H|H⟩:=p i ρ A (by omega) b
  ·obtain⟨ρ1,A1,H,c⟩:=H
   rcases k (i+1) ρ1 A1 (by omega) c with ⟨a,A',e,q⟩|⟨r,A',e,q⟩
   ·exact .inl ⟨a,A',(W5 g H).trans e,q⟩
   ·exact .inr ⟨r,A',(W5 g H).trans e,q⟩
  ·obtain⟨r,A1,H,c⟩:=H
   refine .inr ⟨r,A1,?_,c⟩;unfold yP;rw[g];dsimp only;rw[H]
   rfl
noncomputable def JW (r:bV):PyData:=.tuple (r.map .int)
def Qp (t:bU):PyData:=.tuple (t.map JW)
theorem Km {f:W->Option PyData}{g:α->W}{h:α->PyData}(e:∀a,f (g a)=some (h a)):∀l:List α,jH f (l.map g)=some (l.map h)
 |[]=>rfl|a::l=>by
  rw[aN,jH,e a,Km e l]
  rfl
def OH (A:Hx)(n:Nat)(r:bV):qd A (n+1) (zQ r)=some (JW r):=by
 show(jH (qd A n) (r.map W.int)).map PyData.tuple=_;rw[Km (h:=PyData.int) (λi=>by cases n<;>rfl)]
 rfl
def Gj (A:Hx)(n:Nat)(t:bU):qd A (n+2) (zr t)=some (Qp t):=by
 show(jH (qd A (n+1)) (t.map zQ)).map PyData.tuple=_;rw[Km (h:=JW) (OH A n)]
 rfl
def EV {r:Nat}{ts:List (bU)}(h:A[r]? =some (.lst (ts.map zr))):qd A 8 (.ref r)=some (.list (ts.map Qp)):=by
 show(match zT (.ref r) A with|some ws=>(jH (qd A 7) ws).map PyData.list|none=>none)=_
 have:zT (.ref r) A=some (ts.map zr):=by unfold zT;dsimp only;rw[h]
 rw[this];dsimp only;rw[Km (h:=Qp) (Gj A 5)]
 rfl
section
variable {kvs:List (Key×W)}
def CI {f:Fn}{us:List W}(hn:jl us=true)(h:f us []=.ok (.ref k) A1)(H:A1[k]? =some (.dct kvs))(hw:jl (kvs.map (·.2))=true):iso f us A=.ok (.ref A.length) (A++[.dct kvs]):=by
 unfold iso;rw[ag hn,h];dsimp only;rw[H];dsimp only;rw[ag hw]
end
theorem Vc:∀s t:bU,PyData.eqvAll (s.map JW) (t.map JW)=decide (s=t)
 |[],[]=>by simp[PyData.eqvAll]|[],_::_=>by simp[PyData.eqvAll]|_::_,[]=>by simp[PyData.eqvAll]|a::l,b::m=>by
  simp only[aN,PyData.eqvAll,Vc l m,JW,PyData.eqv,X9];rw[Bool.eq_iff_iff];simp
def UZ (s t:bU)(A:Hx):jf (zr s) (zr t) A=.ok (.bl (!decide (s=t))) A:=by
 show wU true _ _ A=_;unfold wU;rw[Gj A 6 s,Gj A 6 t];dsimp only;rw[ag rfl,Qp,Qp,PyData.eqv,Vc]
noncomputable def G8 (a b c e:Nat):W:=.tup [.int (a:Int),.int (b:Int),.int (c:Int),.int (e:Int)]
noncomputable def pre (n a b:Nat):List (Nat×Nat):=((List.range a).flatMap λx=>(List.range n).map λy=>(x,y))++(List.range b).map λy=>(a,y)
def qz (n:Nat):List (Nat×Nat):=pre n n 0
section
variable {a b c e:Nat}
def GK:pre n a (b+1)=pre n a b++[(a,b)]:=by
 unfold pre;rw[bO,aR,<- aP]
 rfl
def YL:pre n a n=pre n (a+1) 0:=by
 unfold pre;rw[bO,bH];simp
def BW {x y:Nat}:(x,y)∈pre n a b↔(x<a/\y<n)∨(x=a/\y<b):=by
 unfold pre;rw[List.mem_append,List.mem_flatMap]
 constructor
 ·rintro(⟨z,h1,d⟩|h)
  ·obtain⟨u,c,H⟩:=cy.mp d
   cases H;exact .inl ⟨cB.mp h1,cB.mp c⟩
  ·obtain⟨u,c,H⟩:=cy.mp h
   cases H;exact .inr ⟨rfl,cB.mp c⟩
 ·rintro(⟨h1,d⟩|⟨rfl,h⟩)
  ·exact .inl ⟨x,cB.mpr h1,cy.mpr ⟨y,cB.mpr d,rfl⟩⟩
  ·exact .inr (cy.mpr ⟨y,cB.mpr h,rfl⟩)
def Qa {x y:Nat}:(x,y)∈qz n↔x<n/\y<n:=by
 unfold qz;rw[BW];omega
def AF (h:a<=n):∃r,qz n=pre n a 0++r:=by
 obtain⟨d,rfl⟩:∃d,n=a+d:=⟨n-a,by omega⟩
 have:∀d m,∃r,pre m (a+d) 0=pre m a 0++r:=by
  intro d
  induction d with
  |zero=>intro m;exact⟨[],by simp⟩|succ d i=>
   intro m;obtain⟨r,H⟩:=i m;refine⟨r++(List.range m).map λy=>(a+d,y),?_⟩;rw[<- Nat.add_assoc,<- YL,<- aP,<- H];unfold pre;simp
 exact this d _
def ib (h:a<n)(H:b<=n):∃r,pre n (a+1) 0=pre n a b++r:=by
 rw[<- YL];obtain⟨d,rfl⟩:∃d,n=b+d:=⟨n-b,by omega⟩
 refine⟨(List.range d).map λy=>(a,b+y),?_⟩;unfold pre;rw[List.range_add,aR,aP,aL];simp
def pre_split (h:c<n)(he:e<n):∃r,qz n=pre n c e++(c,e)::r:=by
 obtain⟨f,g⟩:=AF (n:=n) (a:=c+1) h;obtain⟨d,H⟩:=ib (n:=n) (a:=c) (b:=e+1) h he;exact⟨d++f,by rw[g,H,GK];simp⟩
def Kv:(pre n a b).length=a * n+b:=by
 unfold pre;rw[ak,ah,a8,List.length_flatMap]
 congr 1
 rw[a5 (g:=λ_=>n) (λx _=>by rw[ah,a8])]
 rw[List.map_const',List.sum_replicate_nat,a8]
variable {w:W}{acc L:List (Nat×Nat)}{p q:Nat×Nat}
abbrev qO (t:bU)(p:Nat×Nat):Int:=at2 t p.1 p.2
def Ja (t:bU)(acc:List (Nat×Nat))(p:Nat×Nat):List (Nat×Nat):=if acc.any (λq=>decide (qO t q=qO t p)) then acc else acc++[p]
def kZ (t:bU)(L:List (Nat×Nat)):List (Nat×Nat):=L.foldl (Ja t) []
def Gw:kZ t (L++[p])=Ja t (kZ t L) p:=by
 unfold kZ;rw[List.foldl_append]
 rfl
def snoc_ind {P:List α->Prop}(h0:P [])(h:∀l a,P l->P (l++[a])):∀l,P l:=λl=>by
 have:∀l:List α,P l.reverse:=λl=>by
  induction l with
  |nil=>exact h0|cons a l i=>rw[reverse_cons];exact h _ _ i
 have:=this l.reverse
 rwa[List.reverse_reverse]at this
def D2:(kZ t L).length<=L.length:=by
 refine snoc_ind (P:=λL=>(kZ t L).length<=L.length) (av _) (λl p i=>?_) L;rw[Gw,ak,aQ];unfold Ja
 split
 ·omega
 ·rw[ak,aQ];omega
def P1:∀p∈kZ t L,p∈L:=by
 refine snoc_ind (P:=λL=>∀p∈kZ t L,p∈L) (λ_ h=>h) (λl p i=>?_) L;intro q H;rw[Gw]at H;unfold Ja at H
 split at H
 ·exact aX _ (i q H)
 ·rcases cE.mp H with h|h
  ·exact aX _ (i q h)
  ·exact aS _ h
def Cu {γ:Type}{f:Nat×Nat->List γ}:(∀p∈L,∀q∈L,qO t p=qO t q->f p=[]->f q=[])->((kZ t L).flatMap f).head? =(L.flatMap f).head?:=by
 refine snoc_ind (P:=λL=>(∀p∈L,∀q∈L,qO t p=qO t q->f p=[]->f q=[])->((kZ t L).flatMap f).head? =(L.flatMap f).head?) (λ_=>rfl) (λl p i hf=>?_) L;have i:=i λx b y a=>hf x (aX _ b) y (aX _ a);rw[Gw,bH,head?_append,<- i];unfold Ja
 split
 ·rename_i c
  obtain⟨r,H,d⟩:=List.any_eq_true.mp c;cases h:((kZ t l).flatMap f).head? with
  |some x=>rfl|none=>
   rw[List.head?_eq_none_iff,List.flatMap_eq_nil_iff]at h
   have:=hf r (aX _ (P1 r H)) p (aS _ (cC.mpr rfl)) (of_decide_eq_true d) (h r H)
   simp[this]
 ·rw[bH,head?_append]
def yN (t:bU)(p:Nat×Nat):Key×W:=(.inl (qO t p),.tup [.int (p.1:Int),.int (p.2:Int)])
theorem Ot {v:Int}:∀acc:List (Nat×Nat),(wW (.inl v) (acc.map (yN t))).isSome=acc.any λq=>decide (qO t q=v)
 |[]=>rfl|q::l=>by
  show(if (Sum.inl (qO t q):Key)=.inl v then some _ else wW (.inl v) (l.map (yN t))).isSome=(decide (qO t q=v) || l.any λq=>decide (qO t q=v))
  by_cases h:qO t q=v
  ·rw[ag (by rw[h]),az h];rfl
  ·rw[aj (λe=>h (by injection e)),aD h,Ot l,Bool.false_or]
def Ci {x3:Option W}(H:acc.length<1000):
  ∃w,YC Z8 (zh 1) (zh 5) (zE (zc (zh 2) (zc (zh 4) zl))) [some (zr t),some (.ref 0),some (.int (a:Int)),x3,some (.int (b:Int)),some (.int (at2 t a b))] [.dct (acc.map (yN t))]=.ok w [.dct ((Ja t acc (a,b)).map (yN t))]:=by
 have E:YC Z8 (zh 1) (zh 5) (zE (zc (zh 2) (zc (zh 4) zl))) [some (zr t),some (.ref 0),some (.int (a:Int)),x3,some (.int (b:Int)),some (.int (at2 t a b))] [.dct (acc.map (yN t))]=Z8 (.ref 0) (.int (at2 t a b)) (.tup [.int (a:Int),.int (b:Int)]) [.dct (acc.map (yN t))]:=rfl;rw[E];unfold Z8;show ∃w,(if (acc.map (yN t)).length<zR then(match wW (.inl (at2 t a b)) (acc.map (yN t)) with|some w=>R.ok w [.dct (acc.map (yN t))]|none=>.ok (.tup [.int (a:Int),.int (b:Int)]) [O.dct (acc.map (yN t)++[((Sum.inl (at2 t a b):Key),W.tup [.int (a:Int),.int (b:Int)])])]) else .bad)=.ok w [.dct ((Ja t acc (a,b)).map (yN t))]
 rw[ag (by rw[ah];unfold zR;omega)]
 have h:=Ot (t:=t) (v:=at2 t a b) acc;unfold Ja;cases e:wW (.inl (at2 t a b)) (acc.map (yN t)) with
 |some w=>
  rw[e]at h;rw[ag (show(acc.any λq=>decide (qO t q=qO t (a,b)))=true from h.symm)]
  exact⟨w,rfl⟩
 |none=>
  rw[e]at h;rw[aj (show ¬(acc.any λq=>decide (qO t q=qO t (a,b)))=true from λz=>by have z:=h.trans z;cases z)]
  exact⟨_,by rw[aR];rfl⟩
def C7 (p:qN t):XT [zr t] []=.ok (.ref 0) [.dct ((kZ t (qz t.length)).map (yN t))]:=by
 have n8:=p.n8;have c:(t.map zQ).length=t.length:=ah ..;have n:∀a b,a<t.length->b<t.length->(kZ t (pre t.length a b)).length<1000:=λa b f q=>by
  have r:=D2 (t:=t) (L:=pre t.length a b);rw[Kv]at r
  have:a * t.length<=8 * 8:=mul_le_mul (by omega) n8
  omega
 obtain⟨g,B,e,H,l,k,y4,y,h⟩:=gi (j:=kM (zr t) t.length) (st:=turn (jW 2 3) (zq (jK (wd (zh 3)) (jW 4 5) (zq (yk (YC Z8 (zh 1) (zh 5) (zE (zc (zh 2) (zc (zh 4) zl))))) zC)) zC)) (N:=t.length)
  (I:=λa ρ B=>B=[.dct ((kZ t (pre t.length a 0)).map (yN t))]/\∃l k y4 y,ρ=[some (zr t),some (.ref 0),l,k,y4,y])
  (λa ρ B f ⟨H,l,k,y4,y,h⟩=>by
   subst H h;have o:=p.sq _ (yG f);have d:((t.getD a []).map W.int).length=t.length:=by rw[ah,o]
   obtain⟨g,B,e,H,i,Y,h⟩:=gi (j:=kM (.tup ((t.getD a []).map W.int)) ((t.getD a []).map W.int).length) (st:=turn (jW 4 5) (zq (yk (YC Z8 (zh 1) (zh 5) (zE (zc (zh 2) (zc (zh 4) zl))))) zC)) (N:=t.length)
    (I:=λb ρ B=>B=[.dct ((kZ t (pre t.length a b)).map (yN t))]/\∃y4 y,ρ=[some (zr t),some (.ref 0),some (.int (a:Int)),some (zQ (t.getD a [])),y4,y])
    (λb ρ B q ⟨H,y4,y,h⟩=>by
     subst H h;obtain⟨w,e⟩:=Ci (a:=a) (b:=b) (x3:=some (zQ (t.getD a []))) (n a b f q);rw[<- Gw,<- GK]at e;exact⟨_,_,_,YJ (int_at (by omega)),(kK rfl).trans ((zH (Zg e)).trans jF),rfl,_,_,rfl⟩)
    (λρ B _=>by have:=Yy (A:=B) (ws:=(t.getD a []).map W.int);rw[d]at this ⊢;exact this) t.length 0 [some (zr t),some (.ref 0),some (.int (a:Int)),some (zQ (t.getD a [])),y4,y] _ (by omega) ⟨rfl,_,_,rfl⟩
   rw[YL]at H;subst H h;refine⟨.tup [.int (a:Int),zQ (t.getD a [])],[some (zr t),some (.ref 0),some (.int (a:Int)),some (zQ (t.getD a [])),i,Y],_,?_,(kK (ρ1:=[some (zr t),some (.ref 0),some (.int (a:Int)),some (zQ (t.getD a [])),y4,y]) rfl).trans ((zH ((kA (Ym (zu rfl))).trans ?_)).trans jF),rfl,_,_,_,_,rfl⟩
   ·have:=YJ (A:=[O.dct ((kZ t (pre t.length a 0)).map (yN t))]) (Kx f)
    rw[c]at this;exact this
   ·have:(kM (.tup ((t.getD a []).map W.int)) ((t.getD a []).map W.int).length).len=t.length:=d
    rw[this];exact e)
  (λρ B _=>by have:=Yy (A:=B) (ws:=t.map zQ);rw[c]at this;exact this) t.length 0 [some (zr t),some (.ref 0),none,none,none,none] [.dct []] (by omega)
  ⟨rfl,_,_,_,_,rfl⟩
 subst H h;refine qQ ?_;unfold Sk;refine(zH (ρ1:=[some (zr t),some (.ref 0),none,none,none,none]) (A1:=[.dct []]) ((qI (w:=.ref 0) (A1:=[.dct []]) rfl).trans rfl)).trans ?_;have hm:wd (zh 0) [some (zr t),some (.ref 0),none,none,none,none] [.dct []]=.ok (kM (zr t) t.length) [.dct []]:=by
  have:=Ym (m:=zh 0) (ρ:=[some (zr t),some (.ref 0),none,none,none,none]) (A:=[.dct []]) (A1:=[.dct []]) (ws:=t.map zQ) (zu rfl)
  rw[c]at this;exact this
 exact(zH ((kA hm).trans e)).trans (qv (qV (zu rfl)))
def NM:jl ((acc.map (yN t)).map (·.2))=true:=by
 induction acc with
 |nil=>rfl|cons p l i=>exact i
end
noncomputable abbrev B4:=(Nat×Nat)×(Nat×Nat)
section
variable {a b c e K:Nat}{p q r:Nat×Nat}
abbrev yM (t:bU)(K:Nat)(p:Nat×Nat):bU:=yw t K p.1 p.2
def yD (t:bU)(K:Nat)(p q:Nat×Nat):Bool:=decide (qO t q=qO t p)&&!decide (yM t K q=yM t K p)
def kH (t:bU)(K:Nat)(p:Nat×Nat):List B4:=((qz t.length).filter (yD t K p)).map λq=>(p,q)
def yd (t:bU)(K:Nat):List B4:=(qz t.length).flatMap (kH t K)
def bW (x:B4):W:=G8 x.1.1 x.1.2 x.2.1 x.2.2
def YW:Option B4->W
 |none=>.non|some x=>bW x
def Gg:kH t K p=[]↔∀q∈qz t.length,yD t K p q=false:=by
 unfold kH;rw[List.map_eq_nil_iff,List.filter_eq_nil_iff];exact⟨λh q H=>Bool.eq_false_iff.mpr (h q H),λh q H=>Bool.eq_false_iff.mp (h q H)⟩
def KN:yD t K p q=false↔(qO t q=qO t p->yM t K q=yM t K p):=by
 unfold yD;rw[Bool.and_eq_false_iff,decide_eq_false_iff_not,Bool.not_eq_false',ao]
 constructor
 ·rintro(h|h) z
  ·exact absurd z h
  ·exact h
 ·intro h
  by_cases z:qO t q=qO t p
  ·exact .inr (h z)
  ·exact .inl z
def Dd (hp:p∈qz t.length)(a:q∈qz t.length)(h:qO t p=qO t q)(h0:kH t K p=[]):kH t K q=[]:=by
 rw[Gg]at h0 ⊢;intro r H;rw[KN];intro z;rw[KN.mp (h0 r H) (z.trans h.symm),KN.mp (h0 q a) h.symm]
def ic:((kZ t (qz t.length)).flatMap (kH t K)).head? =(yd t K).head?:=Cu λ_ hp _ H h h0=>Dd hp H h h0
def ie (a:c<t.length)(he:e<t.length)(h0:∀q∈pre t.length c e,yD t K p q=false)(b:yD t K p (c,e)=true):(kH t K p).head? =some (p,(c,e)):=by
 obtain⟨r,h⟩:=pre_split a he;unfold kH;rw[h,List.filter_append,List.filter_eq_nil_iff.mpr λq H=>Bool.eq_false_iff.mp (h0 q H),bA,List.filter_cons_of_pos b]
 rfl
abbrev Ts:Ex:=zq (qZ (yj (zi qL (zh 8) (zh 1)) (zi jf (zF gF (zc (zh 0) (zc (zh 5) (zc (zh 7) zl)))) (zh 4))) (zq (qD (zE (zc (zh 2) (zc (zh 3) (zc (zh 5) (zc (zh 7) zl)))))) zC) zC) zC
abbrev K7:Ex:=zq (jK (wd (zh 6)) (jW 7 8) Ts) zC
def Ob (J:qN t)(hK:jm t=(K:Int))(A:Hx):Wk [zr t] A=.ok (YW (yd t K).head?) A:=by
 have n8:=J.n8;have kb:=Q2 J;have C:(t.map zQ).length=t.length:=ah ..;have ef:=C7 J;generalize M:kZ t (qz t.length)=ps at ef;have hin:∀p∈ps,p.1<t.length/\p.2<t.length:=λp hp=>Qa.mp (P1 (t:=t) p (by rw[M];exact hp))
 have D:=ic (t:=t) (K:=K);rw[M]at D;have go:=Vh (j:=YQ (ps.map (yN t))) (st:=turn (Yx 1 2 3) (zq (zW 4 (zF gF (zc (zh 0) (zc (zh 2) (zc (zh 3) zl))))) (zq (jK (wd (zh 0)) (jW 5 6) K7) zC))) (N:=ps.length)
  (Q:=λr B=>B=[]/\∃x,(ps.flatMap (kH t K)).head? =some x/\r=bW x)
  (I:=λi ρ B=>B=[]/\(ps.take i).flatMap (kH t K)=[]/\∃U T S y4 l k Y y,ρ=[some (zr t),U,T,S,y4,l,k,Y,y])
  (λi ρ B X ⟨f,o,U,T,S,y4,l,k,Y,y,h⟩=>by
   subst f h;obtain⟨ha,hb⟩:=hin ps[i] (aO X);generalize hp:ps[i]=p at ha hb;obtain⟨a,b⟩:=p;dsimp only at ha hb;have hsp:ps=ps.take i++(a,b)::ps.drop (i+1):=by
    rw[<- hp,<- bw X,List.take_append_drop]
   refine⟨.tup [.int (at2 t a b),.tup [.int (a:Int),.int (b:Int)]],?_,?_⟩
   ·show some ((ps.map (yN t))[i]?.map λp=>W.tup [kW p.1,p.2])=_
    rw[ax,aa X,hp]
    rfl
   have hm:wd (zh 0) [some (zr t),some (.int (at2 t a b)),some (.int (a:Int)),some (.int (b:Int)),some (zr (yw t K a b)),l,k,Y,y] []=.ok (kM (zr t) t.length) []:=by
    have:=Ym (m:=zh 0) (ρ:=[some (zr t),some (.int (at2 t a b)),some (.int (a:Int)),some (.int (b:Int)),some (zr (yw t K a b)),l,k,Y,y]) (A:=[]) (A1:=[]) (ws:=t.map zQ) (zu rfl)
    rw[C]at this;exact this
   have e1:zW 4 (zF gF (zc (zh 0) (zc (zh 2) (zc (zh 3) zl)))) [some (zr t),some (.int (at2 t a b)),some (.int (a:Int)),some (.int (b:Int)),y4,l,k,Y,y] []=.ok (.nx [some (zr t),some (.int (at2 t a b)),some (.int (a:Int)),some (.int (b:Int)),some (zr (yw t K a b)),l,k,Y,y]) []:=(qI ((qp (zX (zu rfl) (zX (zu rfl) (zX (zu rfl) qy)))).trans (WV J hK ha hb []))).trans rfl;have go:=Vh (j:=kM (zr t) t.length) (st:=turn (jW 5 6) K7) (N:=t.length)
    (Q:=λr B=>B=[]/\∃x,(kH t K (a,b)).head? =some x/\r=bW x)
    (I:=λc ρ B=>B=[]/\(∀q∈pre t.length c 0,yD t K (a,b) q=false)/\∃l k Y y,ρ=[some (zr t),some (.int (at2 t a b)),some (.int (a:Int)),some (.int (b:Int)),some (zr (yw t K a b)),l,k,Y,y])
    (λc ρ B Z ⟨f,hq0,l,k,Y,y,h⟩=>by
     subst f h;have hrl:=J.sq _ (yG Z);have P:((t.getD c []).map W.int).length=t.length:=by rw[ah,hrl]
     have hl3:(kM (.tup ((t.getD c []).map W.int)) ((t.getD c []).map W.int).length).len=t.length:=P;refine⟨.tup [.int (c:Int),zQ (t.getD c [])],?_,?_⟩
     ·have:=YJ (A:=[]) (Kx Z)
      rw[C]at this;exact this
     have go:=Vh (j:=kM (.tup ((t.getD c []).map W.int)) ((t.getD c []).map W.int).length) (st:=turn (jW 7 8) Ts) (N:=t.length)
      (Q:=λr B=>B=[]/\∃x,(kH t K (a,b)).head? =some x/\r=bW x)
      (I:=λe ρ B=>B=[]/\(∀q∈pre t.length c e,yD t K (a,b) q=false)/\∃Y y,ρ=[some (zr t),some (.int (at2 t a b)),some (.int (a:Int)),some (.int (b:Int)),some (zr (yw t K a b)),some (.int (c:Int)),some (zQ (t.getD c [])),Y,y])
      (λe ρ B he ⟨f,n,Y,y,h⟩=>by
       subst f h;refine⟨_,YJ (int_at (by omega)),?_⟩
       generalize H:([some (zr t),some (.int (at2 t a b)),some (.int (a:Int)),some (.int (b:Int)),some (zr (yw t K a b)),some (.int (c:Int)),some (zQ (t.getD c [])),some (.int (e:Int)),some (.int (at2 t c e))]:En)=d;have ee:zi qL (zh 8) (zh 1) d []=.ok (.bl (decide (at2 t c e=at2 t a b))) []:=by subst H;exact(zL (zu rfl) (zu rfl)).trans (Zw _ _ [])
       have en:zi jf (zF gF (zc (zh 0) (zc (zh 5) (zc (zh 7) zl)))) (zh 4) d []=.ok (.bl (!decide (yw t K c e=yw t K a b))) []:=by subst H;exact(zL ((qp (zX (zu rfl) (zX (zu rfl) (zX (zu rfl) qy)))).trans (WV J hK Z he [])) (zu rfl)).trans (UZ _ _ _)
       have E:∀g:Ex,turn (jW 7 8) g (.tup [.int (e:Int),.int ((t.getD c []).getD e 0)]) [some (zr t),some (.int (at2 t a b)),some (.int (a:Int)),some (.int (b:Int)),some (zr (yw t K a b)),some (.int (c:Int)),some (zQ (t.getD c [])),Y,y] []=g d []:=λg=>by subst H;exact kK rfl
       have s:yj (zi qL (zh 8) (zh 1)) (zi jf (zF gF (zc (zh 0) (zc (zh 5) (zc (zh 7) zl)))) (zh 4)) d []=.ok (.bl (yD t K (a,b) (c,e))) []:=KP ee en;cases u:yD t K (a,b) (c,e) with
       |false=>
        rw[u]at s;refine .inl ⟨d,[],(E _).trans ((zH ((yQ s).trans jF)).trans jF),rfl,λq' L=>?_,_,_,H.symm⟩;rw[GK]at L;rcases cE.mp L with z|z
        ·exact n q' z
        ·rw[cC.mp z];exact u
       |true=>
        rw[u]at s;refine .inr ⟨G8 a b c e,[],(E _).trans (qv ((wB s).trans (qv (qV ?_)))),rfl,((a,b),(c,e)),ie Z he n u,rfl⟩;subst H;exact Jx (zX (zu rfl) (zX (zu rfl) (zX (zu rfl) (zX (zu rfl) qy)))))
      (λρ B _=>by have:=Yy (A:=B) (ws:=(t.getD c []).map W.int);rw[P]at this ⊢;exact this) t.length 0 [some (zr t),some (.int (at2 t a b)),some (.int (a:Int)),some (.int (b:Int)),some (zr (yw t K a b)),some (.int (c:Int)),some (zQ (t.getD c [])),Y,y] [] (by omega) ⟨rfl,hq0,_,_,rfl⟩
     have w:=(kA (tw:=jW 7 8) (m1:=Ts) (Ym (m:=zh 6) (ρ:=[some (zr t),some (.int (at2 t a b)),some (.int (a:Int)),some (.int (b:Int)),some (zr (yw t K a b)),some (.int (c:Int)),some (zQ (t.getD c [])),Y,y]) (A:=[]) (A1:=[]) (ws:=(t.getD c []).map W.int) (zu rfl)));rw[hl3]at w;have E:turn (jW 5 6) K7 (.tup [.int (c:Int),zQ (t.getD c [])]) [some (zr t),some (.int (at2 t a b)),some (.int (a:Int)),some (.int (b:Int)),some (zr (yw t K a b)),l,k,Y,y] []=K7 [some (zr t),some (.int (at2 t a b)),some (.int (a:Int)),some (.int (b:Int)),some (zr (yw t K a b)),some (.int (c:Int)),some (zQ (t.getD c [])),Y,y] []:=kK rfl;rcases go with ⟨d,B,e,f,n,y7',y8',h⟩|⟨r,B,e,hQ⟩
     ·subst f h
      rw[YL]at n;exact .inl ⟨_,[],E.trans ((zH (w.trans e)).trans jF),rfl,n,_,_,_,_,rfl⟩
     ·exact .inr ⟨r,B,E.trans (qv (w.trans e)),hQ⟩)
    (λρ B _=>by have:=Yy (A:=B) (ws:=t.map zQ);rw[C]at this;exact this) t.length 0 [some (zr t),some (.int (at2 t a b)),some (.int (a:Int)),some (.int (b:Int)),some (zr (yw t K a b)),l,k,Y,y] [] (by omega) ⟨rfl,(λq n=>(by rw[show pre t.length 0 0=[] from rfl]at n;cases n)),_,_,_,_,rfl⟩
   have E:∀g:Ex,turn (Yx 1 2 3) g (.tup [.int (at2 t a b),.tup [.int (a:Int),.int (b:Int)]]) [some (zr t),U,T,S,y4,l,k,Y,y] []=g [some (zr t),some (.int (at2 t a b)),some (.int (a:Int)),some (.int (b:Int)),y4,l,k,Y,y] []:=λg=>kK rfl;rcases go with ⟨d,B,e,f,n,y5',y6',y7',y8',h⟩|⟨r,B,e,f,x,w,hr⟩
   ·subst f h
    refine .inl ⟨_,[],(E _).trans ((zH e1).trans ((zH ((kA hm).trans e)).trans jF)),rfl,?_,_,_,_,_,_,_,_,_,rfl⟩;rw[List.take_succ,aa X,hp,bH,o,bA];show [(a,b)].flatMap _=_;rw[List.flatMap_singleton];exact Gg.mpr n
   ·subst f
    refine .inr ⟨r,[],(E _).trans ((zH e1).trans (qv ((kA hm).trans e))),rfl,x,?_,hr⟩;rw[hsp,bH,o,bA,List.flatMap_cons,head?_append,w]
    rfl)
  (λρ B _=>by
   show some ((ps.map (yN t))[ps.length]?.map λp=>W.tup [kW p.1,p.2])=_;rw[aI (by rw[ah];exact av _)]
   rfl) ps.length 0 [some (zr t),none,none,none,none,none,none,none,none] [] (by omega) ⟨rfl,rfl,_,_,_,_,_,_,_,_,rfl⟩
 have hit:KC (zF Wr (zc (zh 0) zl)) [some (zr t),none,none,none,none,none,none,none,none] []=.ok (YQ (ps.map (yN t))) []:=by
  unfold KC;dsimp only;have ec:zF Wr (zc (zh 0) zl) [some (zr t),none,none,none,none,none,none,none,none] []=.ok (.ref 0) [.dct (ps.map (yN t))]:=(qp (zX (zu rfl) qy)).trans (CI (gz t) ef rfl NM);rw[ec,zP];exact ag NM
 have hlen:(YQ (ps.map (yN t))).len=ps.length:=ah ..;have v:=kA (tw:=Yx 1 2 3) (m1:=zq (zW 4 (zF gF (zc (zh 0) (zc (zh 2) (zc (zh 3) zl))))) (zq (jK (wd (zh 0)) (jW 5 6) K7) zC)) hit;rw[hlen]at v;rcases go with ⟨d,B,e,f,o,U,T,S,y4,l,k,Y,y,h⟩|⟨r,B,e,f,x,w,rfl⟩
 ·subst f h
  rw[bS]at o;rw[<- D,o];refine Zf (A1:=[]) (gz t) rfl (qQ ?_);unfold XG;exact(zH (v.trans e)).trans (qv (qV qM))
 ·subst f
  rw[<- D,w];refine Zf (A1:=[]) (gz t) rfl (qQ ?_);unfold XG;exact qv (v.trans e)
end
section
variable {a b c e K:Nat}{w:W}{p q:Nat×Nat}{L:List (Nat×Nat)}
def ig (o:Option B4):(YW o).nr=true:=by cases o<;>rfl
def Dc (h:qN t)(H:jm t=(K:Int))(A:Hx):Jl [zr t] A=.ok (YW (yd t K).head?) A:=by
 refine Zf (A1:=[]) (gz t) (ig _) (ZP (Gp ?_));unfold XW;exact(zH (Zg ((qp (zX (zu rfl) qy)).trans (WT h [])))).trans (ZP (qv (qV ((qp (zX (zu rfl) qy)).trans (Ob h H [])))))
def ij (H:qN t)(a:jm t=(K:Int))(A:Hx):Jo [zr t] A=.ok (.bl (yd t K).isEmpty) A:=by
 refine Zf (A1:=[]) (gz t) rfl (ZP (Gp ?_));unfold Vd;refine(zH (Zg ((qp (zX (zu rfl) qy)).trans (WT H [])))).trans (ZP (qv (qV ((zL ((qp (zX (zu rfl) qy)).trans (Ob H a [])) qM).trans ?_))));cases h:yd t K<;>rfl
def KH (K:Nat)(f:Nat->List (bU)):Hx:=((List.range K).map λk=>O.lst ((f k).map zr))++[.lst ((List.range K).map λk=>W.ref k)]
variable {f:Nat->List (bU)}
def GN (h:k<K):(KH K f)[k]? =some (.lst ((f k).map zr)):=by
 unfold KH;rw[ai (by simpa using h)]
 simp[h]
def Nh:(KH K f)[K]? =some (.lst ((List.range K).map λk=>W.ref k)):=by
 unfold KH;rw[aw (by simp)]
 simp
def Ay {xs:List (bU)}(h:k<K):(KH K f).set k (.lst (xs.map zr))=KH K (λj=>if j=k then xs else f j):=by
 unfold KH;rw[List.set_append_left _ _ (by simpa using h)]
 congr 1
 apply bt
 ·simp
 ·intro i a H
  rw[List.getElem_set]
  by_cases z:k=i
  ·subst z;simp
  ·rw[aj z]
   simp[Ne.symm z]
def OT (s u:bU):PyData.eqv (Qp s) (Qp u)=decide (s=u):=by rw[Qp,Qp,PyData.eqv,Vc]
def notin_tab {s:bU}{xs:List (bU)}(h:A[k]? =some (.lst (xs.map zr))):ZF (zr s) (.ref k) A=.ok (.bl (!decide (s∈xs))) A:=by
 unfold ZF;rw[Gj A 6 s,EV h];dsimp only
 congr 2
 rw[List.any_map]
 congr 1
 rw[Bool.eq_iff_iff,List.any_eq_true,ao]
 constructor
 ·rintro⟨x,H,h⟩
  rw[Function.comp,OT,ao]at h;exact h ▸ H
 ·intro a
  exact⟨s,a,by rw[Function.comp,OT];exact az rfl⟩
structure KF (t:bU)(K:Nat)(L:List (Nat×Nat))(f:Nat->List (bU)):Prop where
 of:∀k x,x∈f k->∃p∈L,qO t p=(k:Int)/\x=yM t K p
 on:∀p∈L,yM t K p∈f (qO t p).toNat
 nd:∀k,(f k).Nodup
 ln:∀k,(f k).length<=L.length
def KF.step (h:KF t K L f)(hp:((qO t p).toNat:Int)=qO t p)(hn:yM t K p∉f (qO t p).toNat):KF t K (L++[p]) (λj=>if j=(qO t p).toNat then f (qO t p).toNat++[yM t K p] else f j):=by
 refine⟨λk x H=>?_,λq a=>?_,λk=>?_,λk=>?_⟩
 ·split at H
  ·rename_i z
   subst z;rcases cE.mp H with H|H
   ·obtain⟨q,c,b⟩:=h.of _ x H
    exact⟨q,aX _ c,b⟩
   ·exact⟨p,aS _ (cC.mpr rfl),hp.symm,cC.mp H⟩
  ·obtain⟨q,c,b⟩:=h.of _ x H
   exact⟨q,aX _ c,b⟩
 ·rcases cE.mp a with a|a
  ·have:=h.on q a
   split
   ·rename_i z;rw[z]at this;exact aX _ this
   ·exact this
  ·rw[cC.mp a,ag rfl]
   exact aS _ (cC.mpr rfl)
 ·split
  ·rw[List.nodup_append]
   refine⟨h.nd _,List.nodup_cons.mpr ⟨bD,List.nodup_nil⟩,λx H y d e=>?_⟩;rw[cC.mp d]at e;exact hn (e ▸ H)
  ·exact h.nd k
 ·rw[ak,aQ]
  have c:=h.ln k;have b:=h.ln (qO t p).toNat
  split
  ·rw[ak,aQ];omega
  ·omega
def KF.skip (h:KF t K L f)(hn:yM t K p∈f (qO t p).toNat):KF t K (L++[p]) f:=
 ⟨λk x a=>let ⟨q,h1,b⟩:=h.of k x a;⟨q,aX _ h1,b⟩,λq H=>by
  rcases cE.mp H with H|H
  ·exact h.on q H
  ·rw[cC.mp H];exact hn,h.nd,λk=>by rw[ak,aQ];have:=h.ln k;omega⟩
abbrev Tj:Ex:=zq (zW 4 (zF Jk (zc (zh 0) (zc (zh 2) (zc (zh 3) zl))))) (zq (qZ (zi ZF (zh 4) (zi zy (zh 1) (zi zy (zi zy (zh 0) (zh 2)) (zh 3)))) (zq (yk (j0 yq (zi zy (zh 1) (zi zy (zi zy (zh 0) (zh 2)) (zh 3))) (zh 4))) zC) zC) zC)
def ik {y4:Option W}(i:qN t)(k:jm t=(K:Int))(d:a<t.length)(j:b<t.length)(h:KF t K L f)(v:L.length<1000):
  ∃l,Tj [some (zr t),some (.ref K),some (.int (a:Int)),some (.int (b:Int)),y4] (KH K f)=.ok (.nx [some (zr t),some (.ref K),some (.int (a:Int)),some (.int (b:Int)),some (zr (yw t K a b))]) (KH K l)/\KF t K (L++[(a,b)]) l:=by
 obtain⟨Q,q⟩:=YA i k d j;have E:zW 4 (zF Jk (zc (zh 0) (zc (zh 2) (zc (zh 3) zl)))) [some (zr t),some (.ref K),some (.int (a:Int)),some (.int (b:Int)),y4] (KH K f)=.ok (.nx [some (zr t),some (.ref K),some (.int (a:Int)),some (.int (b:Int)),some (zr (yw t K a b))]) (KH K f):=
  (qI ((qp (zX (zu rfl) (zX (zu rfl) (zX (zu rfl) qy)))).trans (Pf i k d j _))).trans rfl
 generalize H:([some (zr t),some (.ref K),some (.int (a:Int)),some (.int (b:Int)),some (zr (yw t K a b))]:En)=ρ at E;have r:zi zy (zh 1) (zi zy (zi zy (zh 0) (zh 2)) (zh 3)) ρ (KH K f)=.ok (.ref (at2 t a b).toNat) (KH K f):=by
  subst H;refine(zL (zu rfl) ((zL ((zL (zu rfl) (zu rfl)).trans (Qc d)) (zu rfl)).trans (JJ (by rw[i.sq _ (yG d)];exact j)))).trans ?_
  show zy (.ref K) (.int (at2 t a b)) _=_;rw[<- Q];refine wJ Nh ?_;rw[aH,ax,a6 q]
  rfl
 have o:zh 4 ρ (KH K f)=.ok (zr (yw t K a b)) (KH K f):=by subst H;exact zu rfl
 have e:=(zL (g:=ZF) o r).trans (notin_tab (s:=yw t K a b) (GN q))
 by_cases c:yw t K a b∈f (at2 t a b).toNat
 ·rw[az c]at e
  exact⟨f,(zH E).trans ((zH ((yQ e).trans jF)).trans (by subst H;exact jF)),h.skip (p:=(a,b)) c⟩
 ·rw[aD c]at e
  have u:=h.ln (at2 t a b).toNat;have n:=(QM (g:=yq) r (GN q) o).trans (WK (GN q) (by rw[ah];omega))
  rw[<- List.map_singleton,<- aR,Ay q]at n;refine⟨_,(zH E).trans ((zH ((wB e).trans ((zH (Zg n)).trans jF))).trans (by subst H;exact jF)),h.step (p:=(a,b)) Q c⟩
def DH (q:qN t)(z:jm t=(K:Int)):∃f,Jh [zr t] []=.ok (.ref K) (KH K f)/\KF t K (qz t.length) f:=by
 have n8:=q.n8;have P:=Q2 q;have hm:=g9 (m:=zF Ye (zc (zh 0) zl)) (ρ:=[some (zr t),none,none,none,none]) (A:=[]) (k:=(K:Int)) ((qp (zX (zu rfl) qy)).trans ((P4 q []).trans (by rw[z]))) (ZC (by omega))
 rw[aH]at hm;obtain⟨l,acc,B,e,_,g,d⟩:=Js (nl:=1) (cap:=[]) (tw:=zG 0) (ifs:=zo (.bl true)) (em:=zM (zU zl)) (N:=K)
  (I:=λi ρ acc B=>(∃y,ρ=[y])/\B=List.replicate i (.lst [])/\acc=(List.range i).map λc=>W.ref c) hm rfl
  (λi ρ acc B L ⟨⟨y,h⟩,g,d⟩=>by
   subst h d g;refine⟨_,_,wL L,rfl,.inl ⟨_,_,_,List.replicate (i+1) (.lst []),rfl,Ju (y:=.ref i) ?_ (by rw[ah,a8];unfold zR;omega),⟨_,rfl⟩,rfl,by rw[bO,aR];rfl⟩⟩
   refine(jM qy).trans ?_;rw[bh,List.replicate_succ'])
  (λρ acc B _=>wK (by omega)) ⟨⟨none,rfl⟩,rfl,rfl⟩
 subst g d;have M:qg (zV 1 [] (qT (zF Ye (zc (zh 0) zl))) (zG 0) (zo (.bl true)) (zM (zU zl))) [some (zr t),none,none,none,none] []=.ok (.ref K) (KH K λ_=>[]):=by
  rw[kR e,bh]
  congr 2
  apply bt
  ·simp
  ·intro i S Q;simp
 have v:∀a b,a<t.length->b<t.length->(pre t.length a b).length<1000:=λa b s r=>by
  rw[Kv]
  have:a * t.length<=8 * 8:=mul_le_mul (by omega) n8
  omega
 have o:∀(x2 x3 x4:Option W)(B:Hx),qT (mQ qt (qb (zh 0))) [some (zr t),some (.ref K),x2,x3,x4] B=.ok (yO 0 t.length) B:=λx2 x3 x4 B=>by
  have hm:=g9 (len_tab (t:=t) (i:=0) (ρ:=[some (zr t),some (.ref K),x2,x3,x4]) (A:=B) rfl) (ZC (n:=t.length) (by omega))
  rw[aH]at hm;exact hm
 obtain⟨l,B,E,f,g,hf,u,Y,y4,h⟩:=gi (j:=yO 0 t.length) (st:=turn (zG 2) (zq (jK (qT (mQ qt (qb (zh 0)))) (zG 3) Tj) zC)) (N:=t.length)
  (I:=λa ρ B=>∃f,B=KH K f/\KF t K (pre t.length a 0) f/\∃u Y y4,ρ=[some (zr t),some (.ref K),u,Y,y4])
  (λa ρ B s ⟨f,g,hf,u,Y,y4,h⟩=>by
   subst g h;obtain⟨l,B,E,w,g,H,D,C,h⟩:=gi (j:=yO 0 t.length) (st:=turn (zG 3) Tj) (N:=t.length)
    (I:=λb ρ B=>∃f,B=KH K f/\KF t K (pre t.length a b) f/\∃Y y4,ρ=[some (zr t),some (.ref K),some (.int (a:Int)),Y,y4])
    (λb ρ B r ⟨f,g,hf,Y,y4,h⟩=>by
     subst g h;obtain⟨w,e,H⟩:=ik (y4:=y4) q z s r hf (v a b s r);rw[<- GK]at H;exact⟨.int (0+(b:Int)),_,_,wL r,(kK (ρ1:=[some (zr t),some (.ref K),some (.int (a:Int)),some (.int (b:Int)),y4]) (by rw[bE];rfl)).trans e,w,rfl,H,_,_,rfl⟩)
    (λρ B _=>wK (by omega)) t.length 0 [some (zr t),some (.ref K),some (.int (a:Int)),Y,y4] (KH K f) (by omega) ⟨f,rfl,hf,_,_,rfl⟩
   rw[YL]at H;subst g h;exact⟨.int (0+(a:Int)),_,_,wL s,(kK (ρ1:=[some (zr t),some (.ref K),some (.int (a:Int)),Y,y4]) (by rw[bE];rfl)).trans ((zH ((kA (o _ _ _ _)).trans E)).trans jF),w,rfl,H,_,_,_,rfl⟩)
  (λρ B _=>wK (by omega)) t.length 0 [some (zr t),some (.ref K),none,none,none] (KH K λ_=>[]) (by omega)
  ⟨_,rfl,⟨λk x J=>(by cases J),λp hp=>(by rw[show pre t.length 0 0=[] from rfl]at hp;cases hp),λ_=>List.nodup_nil,λ_=>zero_le _⟩,_,_,_,rfl⟩
 subst g h;refine⟨f,?_,hf⟩;unfold Jh XH;refine qQ ?_;unfold T5;exact(zH (ρ1:=[some (zr t),some (.ref K),none,none,none]) ((qI M).trans rfl)).trans ((zH ((kA (o _ _ _ _)).trans E)).trans (qv (qV (zu rfl))))
def Cm:yd t K=[]↔∀p∈qz t.length,∀q∈qz t.length,qO t q=qO t p->yM t K q=yM t K p:=by
 unfold yd;rw[List.flatMap_eq_nil_iff];exact⟨λh p hp q H=>KN.mp (Gg.mp (h p hp) q H),λh p hp=>Gg.mpr λq H=>KN.mpr (h p hp q H)⟩
def F7 (o:qN t)(I:jm t=(K:Int))(A:Hx):Jj [zr t] A=.ok (.bl (yd t K).isEmpty) A:=by
 have U:=Q2 o;obtain⟨f,P,hf⟩:=DH o I;refine Zf (A1:=KH K f) (gz t) rfl (qQ ?_);unfold SD;have Q:qh (zF Jh (zc (zh 0) zl)) [some (zr t)] []=qh (zo (.ref K)) [some (zr t)] (KH K f):=by
  unfold qh;rw[(qp (zX (zu rfl) qy)).trans P]
  rfl
 have T:=Jv (cap:=[]) (ρ:=[some (zr t)]) (A:=KH K f) (m:=zo (.ref K)) (me:=mQ qt (qb (zh 0))) (g:=λw=>match w with|.ref j=>.int ((f j).length:Int)|_=>.non) qM Nh (by simp;unfold zR;omega) (λw hw=>by
  obtain⟨k,H,rfl⟩:=cy.mp hw;have H:=cB.mp H;refine(yK (kS (w:=.ref k) (zu rfl) (by unfold zT;dsimp only;rw[GN H]))).trans ?_
  unfold qt;rw[ah])
 have S:zV 1 [] (qh (zF Jh (zc (zh 0) zl))) (zG 0) (zo (.bl true)) (zM (mQ qt (qb (zh 0)))) [some (zr t)] []=.ok (((List.range K).map λk=>((f k).length:Int)).map W.int) (KH K f):=by
  have:zV 1 [] (qh (zF Jh (zc (zh 0) zl))) (zG 0) (zo (.bl true)) (zM (mQ qt (qb (zh 0)))) [some (zr t)] []=zV 1 [] (qh (zo (.ref K))) (zG 0) (zo (.bl true)) (zM (mQ qt (qb (zh 0)))) [some (zr t)] (KH K f):=by
   unfold zV;rw[Q]
  rw[this,T,aL,aL]
  rfl
 have i:((List.range K).map λk=>((f k).length:Int))≠[]:=by
  intro z
  have:=congrArg List.length z
  simp at this;omega
 refine qv (qV ((zL ((yK S).trans (V2 i)) qM).trans ((Zw _ _ _).trans ?_)))
 congr 2
 rw[Bool.eq_iff_iff,ao,List.isEmpty_iff,Cm];have u:∀k,k<K->∃p∈qz t.length,qO t p=(k:Int):=λk H=>by
  obtain⟨a,b,N,M,e⟩:=Nr o (v:=k) (by omega)
  exact⟨(a,b),Qa.mpr ⟨N,M⟩,e⟩
 constructor
 ·intro D p hp q r s
  have c:=hf.on p hp;have d:=hf.on q r;rw[s]at d;have H:(qO t p).toNat<K:=(YA o I (Qa.mp hp).1 (Qa.mp hp).2).2;have E:((f (qO t p).toNat).length:Int)<=1:=by
   rw[<- D];exact V5 (cy.mpr ⟨_,cB.mpr H,rfl⟩)
  cases h:f (qO t p).toNat with
  |nil=>rw[h]at c;cases c|cons x l=>
   rw[h]at E c d;cases l with
   |nil=>rw[cC.mp c,cC.mp d]|cons y l=>simp at E;omega
 ·intro D
  have n:∀k,k<K->(f k).length=1:=λk H=>by
   obtain⟨p,hp,J⟩:=u k H;have C:=hf.on p hp;rw[J,aH]at C;have B:∀x∈f k,x=yM t K p:=λx L=>by
    obtain⟨q,r,eq,rfl⟩:=hf.of k x L;exact D p hp q r (eq.trans J.symm)
   have nd:=hf.nd k;cases h:f k with
   |nil=>rw[h]at C;cases C|cons x l=>cases l with
    |nil=>rfl|cons y l=>
     rw[h]at nd B
     have:=B x (ay ..)
     have:=B y (aq _ (ay ..))
     have:=(List.nodup_cons.mp nd).1
     exact absurd (by simp_all) this
  have hm:=Ki i;obtain⟨k,H,e⟩:=cy.mp hm;rw[<- e,n k (cB.mp H)]
  rfl
end
end G
namespace Mi
section
variable {g:List Int->W}{k j:bV}{ps:List (List Int×W)}
def J0 (g:List Int->W)(kvs:List (List Int×W)):Prop:=∀p∈kvs,p.2=g p.1
theorem VH:∀{kvs:List (List Int×W)},J0 g kvs->kF k kvs=if k∈kvs.map (·.1) then some (g k) else none
 |[],_=>by simp[kF]|(j,w)::r,h=>by
  have hw:w=g j:=h (j,w) (ay ..);have i:=VH (kvs:=r) λp hp=>h p (aq _ hp);unfold kF;rw[i,aN]
  by_cases e:j=k
  ·subst e
   rw[ag rfl,ag (ay ..),hw]
  ·rw[aj e]
   by_cases m:k∈r.map (·.1)
   ·rw[ag m,ag (aq _ m)]
   ·rw[aj m,aj λz=>(cz.mp z).elim (λq=>e q.symm) m]
def CM (h:J0 g kvs):J0 g (Qh kvs k (g k))/\∀j,j∈(Qh kvs k (g k)).map (·.1)↔j∈kvs.map (·.1)∨j=k:=by
 unfold Qh;rw[VH h]
 by_cases m:k∈kvs.map (·.1)
 ·rw[ag m,ag (show(some (g k)).isSome=true from rfl)]
  refine⟨λp hp=>?_,λj=>?_⟩
  ·obtain⟨q,H,rfl⟩:=cy.mp hp
   split
   ·rename_i e;show g k=g q.1;rw[e]
   ·exact h q H
  ·rw[aL,a5 (g:=λx:List Int×W=>x.1) (λx _=>by show(if x.1=k then(x.1,g k) else x).1=x.1;split<;>rfl)]
   exact⟨.inl,λz=>z.elim id λe=>e ▸ m⟩
 ·rw[aj m,aj (by intro z;cases z)]
  refine⟨λp hp=>?_,λj=>?_⟩
  ·rcases cE.mp hp with hp|hp
   ·exact h p hp
   ·rw[cC.mp hp]
  ·rw[aR,List.mem_append]
   simp
theorem Oc:∀{ps kvs:List (List Int×W)},J0 g ps->J0 g kvs->J0 g (wN kvs ps)/\∀j,j∈(wN kvs ps).map (·.1)↔j∈kvs.map (·.1)∨j∈ps.map (·.1)
 |[],kvs,_,h=>⟨h,λj=>by show j∈kvs.map (·.1)↔_;simp⟩|p::ps,kvs,h1,h=>by
  have hp:p.2=g p.1:=h1 p (ay ..);obtain⟨a1,a2⟩:=CM (k:=p.1) h;rw[<- hp]at a1 a2;obtain⟨B,b⟩:=Oc (ps:=ps) (kvs:=Qh kvs p.1 p.2) (λq H=>h1 q (aq _ H)) a1;refine⟨B,λj=>?_⟩;show j∈(wN (Qh kvs p.1 p.2) ps).map (·.1)↔_;rw[b,a2,aN,bQ,or_assoc]
def RZ (h:J0 g ps):kF k (wN [] ps)=if k∈ps.map (·.1) then some (g k) else none:=by
 obtain⟨a,b⟩:=Oc (kvs:=[]) h (λ_ h=>by cases h)
 rw[VH a]
 have:=b k
 simp only[map_nil,bD,false_or]at this
 by_cases m:k∈ps.map (·.1)
 ·rw[ag (this.mpr m),ag m]
 ·rw[aj λz=>m (this.mp z),aj m]
theorem Vb {f:α->W}{kk:α->W}{ks:α->List Int}(h:∀a,keyT? (kk a)=some (ks a)):∀l:List α,pairsOf (l.map λa=>.tup [kk a,f a])=some (l.map λa=>(ks a,f a))
 |[]=>rfl|a::l=>by
  rw[aN,pairsOf,h a,Vb h l]
  rfl
def P7 {us:List W}(h:A[n]? =some (.lst us))(hp:pairsOf us=some ps)(H:ps.length<=zR):gK (.ref n) A=.ok (.ref A.length) (A++[.td (wN [] ps)]):=by
 unfold gK;dsimp only;rw[h];dsimp only;rw[hp];dsimp only;rw[ag H]
def C5 {x v:W}(h:A[n]? =some (.td kvs))(a:keyT? x=some k)(H:kF k kvs=some v):kD (.ref n) x A=.ok v A:=by
 unfold kD;rw[a];dsimp only;rw[h];dsimp only[Option.bind,Q8];rw[H]
def il {x:W}(h:A[n]? =some (.td kvs))(H:keyT? x=some k):Qq x (.ref n) A=.ok (.bl (kF k kvs).isSome) A:=by
 unfold Qq;rw[H];dsimp only;rw[h]
 rfl
end
end Mi
namespace G
open PySem L2 Mi
section
variable {a b e K:Nat}{w:W}{p q r:Nat×Nat}{L:List (Nat×Nat)}
noncomputable def pW (p:Nat×Nat):W:=.tup [.int (p.1:Int),.int (p.2:Int)]
noncomputable def pK (p:Nat×Nat):bV:=[(p.1:Int),(p.2:Int)]
def wH (t:bU)(K:Nat)(p:Nat×Nat):W:=.tup [.int (qO t p),zr (yM t K p)]
def ip (t:bU)(K:Nat):List Int->W
 |[a,b]=>wH t K (a.toNat,b.toNat)|_=>.non
def N3 (p:Nat×Nat):keyT? (pW p)=some (pK p):=rfl
abbrev Mn:Ex:=zq (yk (j0 JC (zh 1) (qg (zV 1 [2] (qT (mQ qt (qb (zh 0)))) (zG 0) (zo (.bl true)) (zM (zE (zc (zh 1) (zc (zh 0) zl)))))))) zC
def iq {x3 x4 x5 x6:Option W}{R:Hx}(c:t.length<=8)(l:L.length<=1000):∃r,Mn [some (zr t),some (.ref 0),some (.int (a:Int)),x3,x4,x5,x6] (.lst (L.map pW)::R)=.ok (.nx [some (zr t),some (.ref 0),some (.int (a:Int)),x3,x4,x5,x6]) (.lst ((L++(List.range t.length).map λb=>(a,b)).map pW)::r):=by
 generalize h:([some (zr t),some (.ref 0),some (.int (a:Int)),x3,x4,x5,x6]:En)=ρ;have hm:=g9 (len_tab (t:=t) (i:=0) (ρ:=ρ) (A:=.lst (L.map pW)::R) (by subst h;rfl)) (ZC (n:=t.length) (by omega))
 rw[aH]at hm;have e:=Jp (cap:=[2]) (me:=zE (zc (zh 1) (zc (zh 0) zl))) (N:=t.length) (item:=λi=>W.int (0+(i:Int))) (g:=λb=>pW (a,b)) hm rfl (by unfold zR;omega) (λi H=>wL H) (wK (by omega)) (λi H=>by
  subst h;refine(Jx (zX (zu rfl) (zX (zu rfl) qy))).trans ?_;rw[bE];rfl)
 refine⟨R++[.lst ((List.range t.length).map λb=>pW (a,b))],(zH (Zg (w:=.non) ((QM (n:=0) (ws:=L.map pW) (by subst h;exact zu rfl) rfl (kR e)).trans ?_))).trans jF⟩
 unfold JC;dsimp only;rw[jS (show(O.lst (L.map pW)::R)[0]? =some (O.lst (L.map pW)) from rfl),qF]
 dsimp only;rw[ag (by simp;unfold zR;omega),aR,aL]
 rfl
structure BH (t:bU)(K d f:Nat)(X:List B4)(B:Hx):Prop where
 hp:B[0]? =some (.lst ((qz t.length).map pW))
 hd:B[d]? =some (.td (wN [] ((qz t.length).map λp=>(pK p,wH t K p))))
 hf:B[f]? =some (.lst (X.map bW))
 f0:f≠0
 fd:f≠d
def Ng (hp:p∈qz t.length){X:List B4}{d f:Nat}(h:BH t K d f X B):kD (.ref d) (pW p) B=.ok (wH t K p) B:=by
 refine C5 h.hd (N3 p) ?_;rw[RZ (g:=ip t K) λq H=>?_,ag ?_]
 ·rfl
 ·rw[aL];exact cy.mpr ⟨p,hp,rfl⟩
 ·obtain⟨r,_,rfl⟩:=cy.mp H
  rfl
abbrev My:Ev:=yj (zi qL (zi zy (zi kD (zh 3) (zh 5)) (zo (.int 0))) (zi zy (zi kD (zh 3) (zh 6)) (zo (.int 0)))) (zi jf (zi zy (zi kD (zh 3) (zh 5)) (zo (.int 1))) (zi zy (zi kD (zh 3) (zh 6)) (zo (.int 1))))
abbrev K9:Ex:=zq (qZ My (zq (yk (j0 yq (zh 4) (zi zY (zh 5) (zh 6)))) zC) zC) zC
def Fi {y:W}(h:A[n]? =some (.lst ws))(H:ws.length<10000):yq (.ref n) y A=.ok .non (A.set n (.lst (ws++[y]))):=by
 unfold yq;dsimp only;rw[h];dsimp only;rw[ag (by unfold zR;omega)]
def ir {x1 x2:Option W}{X:List B4}{d f:Nat}(h:BH t K d f X B)(hp:p∈qz t.length)(i:q∈qz t.length)(l:X.length<10000):
  ∃b,K9 [some (zr t),x1,x2,some (.ref d),some (.ref f),some (pW p),some (pW q)] B=.ok (.nx [some (zr t),x1,x2,some (.ref d),some (.ref f),some (pW p),some (pW q)]) b/\BH t K d f (X++if yD t K p q then [(p,q)] else []) b:=by
 generalize H:([some (zr t),x1,x2,some (.ref d),some (.ref f),some (pW p),some (pW q)]:En)=ρ;have a:zi kD (zh 3) (zh 5) ρ B=.ok (wH t K p) B:=by subst H;exact(zL (zu rfl) (zu rfl)).trans (Ng hp h)
 have g:zi kD (zh 3) (zh 6) ρ B=.ok (wH t K q) B:=by subst H;exact(zL (zu rfl) (zu rfl)).trans (Ng i h)
 have e:My ρ B=.ok (.bl (yD t K p q)) B:=by
  have k:zi qL (zi zy (zi kD (zh 3) (zh 5)) (zo (.int 0))) (zi zy (zi kD (zh 3) (zh 6)) (zo (.int 0))) ρ B=.ok (.bl (decide (qO t p=qO t q))) B:=(zL ((zL a qM).trans (show zy (wH t K p) (.int 0) B=.ok (.int (qO t p)) B from rfl)) ((zL g qM).trans (show zy (wH t K q) (.int 0) B=.ok (.int (qO t q)) B from rfl))).trans (Zw _ _ _)
  have j:zi jf (zi zy (zi kD (zh 3) (zh 5)) (zo (.int 1))) (zi zy (zi kD (zh 3) (zh 6)) (zo (.int 1))) ρ B=.ok (.bl (!decide (yM t K p=yM t K q))) B:=(zL ((zL a qM).trans (show zy (wH t K p) (.int 1) B=.ok (zr (yM t K p)) B from rfl)) ((zL g qM).trans (show zy (wH t K q) (.int 1) B=.ok (zr (yM t K q)) B from rfl))).trans (UZ _ _ _)
  refine(KP k j).trans ?_;unfold yD;rw[show decide (qO t p=qO t q)=decide (qO t q=qO t p) from decide_eq_decide.mpr eq_comm,show decide (yM t K p=yM t K q)=decide (yM t K q=yM t K p) from decide_eq_decide.mpr eq_comm]
 cases c:yD t K p q with
 |false=>
  rw[c]at e;refine⟨B,(zH ((yQ e).trans jF)).trans (by subst H;exact jF),?_⟩
  rw[aj (by intro z;cases z),bx]
  exact h
 |true=>
  rw[c]at e;have E:j0 yq (zh 4) (zi zY (zh 5) (zh 6)) ρ B=.ok .non (B.set f (.lst ((X++[(p,q)]).map bW))):=by
   subst H;refine(QM (n:=f) (ws:=X.map bW) (y:=bW (p,q)) (zu rfl) h.hf ((zL (zu rfl) (zu rfl)).trans rfl)).trans ((Fi h.hf (by rw[ah];exact l)).trans ?_)
   rw[aR]
   rfl
  refine⟨_,(zH ((wB e).trans ((zH (Zg E)).trans jF))).trans (by subst H;exact jF),?_⟩
  rw[ag rfl];have hf:f<B.length:=Za h.hf;exact⟨by rw[aG h.f0];exact h.hp,by rw[aG h.fd];exact h.hd,by rw[aJ hf],h.f0,h.fd⟩
def Dh (H:i<(qz t.length).length):(((qz t.length).take (i+1)).filter (yD t K p)).map (λq=>(p,q))=(((qz t.length).take i).filter (yD t K p)).map (λq=>(p,q))++if yD t K p (qz t.length)[i] then [(p,(qz t.length)[i])] else []:=by
 rw[List.take_succ,aa H,List.filter_append,aR]
 congr 1
 show([(qz t.length)[i]].filter (yD t K p)).map _=_;cases h:yD t K p (qz t.length)[i] with
 |true=>rw[List.filter_cons_of_pos h];rfl|false=>rw[List.filter_cons_of_neg (by rw[h];intro z;cases z)];rfl
def B9 (h:t.length<=8):(kH t K p).length<=64:=by
 unfold kH;rw[ah];refine bg (length_filter_le ..) ?_;unfold qz;rw[Kv]
 have:t.length * t.length<=8 * 8:=mul_le_mul h h
 omega
def R8 {l:List (Nat×Nat)}(h:t.length<=8):(l.flatMap (kH t K)).length<=64 * l.length:=by
 induction l with
 |nil=>exact av _|cons p l i=>
  rw[List.flatMap_cons,ak,bb]
  have:=B9 (K:=K) (p:=p) h
  omega
def OL (h:t.length<=8):(qz t.length).length<=64:=by
 unfold qz;rw[Kv]
 have:t.length * t.length<=8 * 8:=mul_le_mul h h
 omega
def EJ (Z:qN t)(hK:jm t=(K:Int))(A:Hx):Yb [zr t] A=.ok (.ref A.length) (A++[.lst ((yd t K).map bW)]):=by
 have n8:=Z.n8;have hpl:=OL (t:=t) n8;have hrl:∀(x2 x3 x4 x5 x6:Option W)(B:Hx),qT (mQ qt (qb (zh 0))) [some (zr t),some (.ref 0),x2,x3,x4,x5,x6] B=.ok (yO 0 t.length) B:=λx2 x3 x4 x5 x6 B=>by
  have hm:=g9 (len_tab (t:=t) (i:=0) (ρ:=[some (zr t),some (.ref 0),x2,x3,x4,x5,x6]) (A:=B) rfl) (ZC (n:=t.length) (by omega))
  rw[aH]at hm;exact hm
 obtain⟨ρ1,s,e1,⟨R1,r⟩,y,C⟩:=gi (j:=yO 0 t.length) (st:=turn (zG 2) Mn) (N:=t.length)
  (I:=λa ρ B=>(∃R,B=.lst ((pre t.length a 0).map pW)::R)/\∃y,ρ=[some (zr t),some (.ref 0),y,none,none,none,none])
  (λa ρ B J ⟨⟨R,H⟩,y,c⟩=>by
   subst H c;obtain⟨R',e⟩:=iq (t:=t) (a:=a) (x3:=none) (x4:=none) (x5:=none) (x6:=none) (L:=pre t.length a 0) (R:=R) n8 (by
    rw[Kv]
    have:a * t.length<=8 * 8:=mul_le_mul (by omega) n8
    omega)
   refine⟨.int (0+(a:Int)),_,_,wL J,(kK (ρ1:=[some (zr t),some (.ref 0),some (.int (a:Int)),none,none,none,none]) (by rw[bE];rfl)).trans e,⟨R',?_⟩,_,rfl⟩
   rw[<- YL];unfold pre;simp)
  (λρ B _=>wK (by omega)) t.length 0 [some (zr t),some (.ref 0),none,none,none,none,none] [.lst []] (by omega) ⟨⟨[],rfl⟩,_,rfl⟩
 subst r C;rw[show pre t.length t.length 0=qz t.length from rfl]at e1
 generalize r:(O.lst ((qz t.length).map pW)::R1)=s at e1;have h0:s[0]? =some (.lst ((qz t.length).map pW)):=by subst r;rfl
 clear r;have ec:=Jv (cap:=[0]) (ρ:=[some (zr t),some (.ref 0),y,none,none,none,none]) (A:=s) (m:=zh 1) (me:=zE (zc (zh 0) (zc (zE (zc (zi zy (zi zy (zh 1) (zi zy (zh 0) (zo (.int 0)))) (zi zy (zh 0) (zo (.int 1)))) (zc (zF Jk (zc (zh 1) (zc (zi zy (zh 0) (zo (.int 0))) (zc (zi zy (zh 0) (zo (.int 1))) zl)))) zl))) zl))) (g:=λw=>match w with|.tup [.int a,.int b]=>.tup [pW (a.toNat,b.toNat),wH t K (a.toNat,b.toNat)]|_=>.non) (zu rfl) h0 (by rw[ah];unfold zR;omega) (λw hw=>by
  obtain⟨⟨a,b⟩,hp,rfl⟩:=cy.mp hw;obtain⟨J,hb⟩:=Qa.mp hp;have i0:∀ρ:En,ρ[0]? =some (some (pW (a,b)))->zi zy (zh 0) (zo (.int 0)) ρ s=.ok (.int (a:Int)) s:=λρ h=>(zL (zu h) qM).trans rfl;have i1:∀ρ:En,ρ[0]? =some (some (pW (a,b)))->zi zy (zh 0) (zo (.int 1)) ρ s=.ok (.int (b:Int)) s:=λρ h=>(zL (zu h) qM).trans rfl;exact Jx (zX (zu rfl) (zX (Jx (zX ((zL ((zL (zu rfl) (i0 _ rfl)).trans (Qc J)) (i1 _ rfl)).trans (JJ (by rw[Z.sq _ (yG J)];exact hb))) (zX ((qp (zX (zu rfl) (zX (i0 _ rfl) (zX (i1 _ rfl) qy)))).trans (Pf Z hK J hb s)) qy))) qy)))
 have ec2:(((qz t.length).map pW).map λw=>match w with|.tup [.int a,.int b]=>W.tup [pW (a.toNat,b.toNat),wH t K (a.toNat,b.toNat)]|_=>.non)=(qz t.length).map λp=>.tup [pW p,wH t K p]:=by
  rw[aL]
  rfl
 rw[ec2]at ec;have U:=(Nb (g:=gK) (kR ec)).trans (P7 qF (Vb N3 _) (by rw[ah];unfold zR;omega))
 generalize hd:(s++[O.lst ((qz t.length).map λp=>.tup [pW p,wH t K p])])=Q at U;have T:Q[0]? =some (.lst ((qz t.length).map pW)):=by subst hd;exact jS h0
 clear hd;generalize o:(Q++[O.td (wN [] ((qz t.length).map λp=>(pK p,wH t K p)))])=u at U;have h3:u[0]? =some (.lst ((qz t.length).map pW)):=by subst o;exact jS T
 have M:u[Q.length]? =some (.td (wN [] ((qz t.length).map λp=>(pK p,wH t K p)))):=by subst o;exact qF
 have hl3:u.length=Q.length+1:=by subst o;simp
 generalize Q.length=d at U M hl3;clear o T;have S:BH t K d u.length [] (u++[.lst []]):=⟨jS h3,jS M,qF,by omega,by omega⟩
 generalize hf:u.length=f at S;generalize hB4:u++[O.lst []]=P at S;obtain⟨ρ5,B5,e5,h5,X,Y,z⟩:=gi (j:=⟨λA i=>(zT (.ref 0) A).map λws=>ws[i]?,((qz t.length).map pW).length⟩) (st:=turn (zG 5) (zq (jK (qh (zh 1)) (zG 6) K9) zC)) (N:=(qz t.length).length)
  (I:=λi ρ B=>BH t K d f (((qz t.length).take i).flatMap (kH t K)) B/\∃X Y,ρ=[some (zr t),some (.ref 0),y,some (.ref d),some (.ref f),X,Y])
  (λi ρ B hi ⟨H,X,Y,c⟩=>by
   subst c;have E:=aO hi;generalize hp:(qz t.length)[i]=p at E;obtain⟨ρ6,B6,e6,h6,y6',v⟩:=gi (j:=⟨λA i=>(zT (.ref 0) A).map λws=>ws[i]?,((qz t.length).map pW).length⟩) (st:=turn (zG 6) K9) (N:=(qz t.length).length)
    (I:=λj ρ B=>BH t K d f (((qz t.length).take i).flatMap (kH t K)++(((qz t.length).take j).filter (yD t K p)).map λq=>(p,q)) B/\∃Y,ρ=[some (zr t),some (.ref 0),y,some (.ref d),some (.ref f),some (pW p),Y])
    (λj ρ B hj ⟨H,Y,c⟩=>by
     subst c;obtain⟨B',e,h'⟩:=ir (x1:=some (.ref 0)) (x2:=y) H E (aO hj) (by
      rw[ak,ah];have h1:=R8 (t:=t) (K:=K) (l:=(qz t.length).take i) n8;have T:=length_filter_le (yD t K p) ((qz t.length).take j);rw[br]at h1 T;omega)
     rw[aP,<- Dh hj]at h';exact⟨pW (qz t.length)[j],_,B',GB H.hp (by rw[ax,aa hj];rfl),(kK (ρ1:=[some (zr t),some (.ref 0),y,some (.ref d),some (.ref f),some (pW p),some (pW (qz t.length)[j])]) rfl).trans e,h',_,rfl⟩)
    (λρ B ⟨H,_⟩=>GD H.hp (by rw[ah];exact av _)) (qz t.length).length 0 [some (zr t),some (.ref 0),y,some (.ref d),some (.ref f),some (pW p),Y] B (by omega) ⟨by simpa using H,_,rfl⟩
   subst v;rw[bS]at h6;have D:=(kA (tw:=zG 6) (m1:=K9) (JA (m:=zh 1) (ρ:=[some (zr t),some (.ref 0),y,some (.ref d),some (.ref f),some (pW p),Y]) (zu rfl) H.hp));rw[show(⟨λA i=>(zT (.ref 0) A).map λws=>ws[i]?,((qz t.length).map pW).length⟩:jE).len=(qz t.length).length from ah ..]at D
   refine⟨pW p,_,B6,GB H.hp (by rw[ax,aa hi,hp];rfl),(kK (ρ1:=[some (zr t),some (.ref 0),y,some (.ref d),some (.ref f),some (pW p),Y]) rfl).trans ((zH (D.trans e6)).trans jF),?_,_,_,rfl⟩
   rw[List.take_succ,aa hi,hp,bH];show BH t K d f (_++[p].flatMap (kH t K)) B6;rw[List.flatMap_singleton];exact h6)
  (λρ B ⟨H,_⟩=>GD H.hp (by rw[ah];exact av _)) (qz t.length).length 0 [some (zr t),some (.ref 0),y,some (.ref d),some (.ref f),none,none] P (by omega) ⟨S,_,_,rfl⟩
 subst z;rw[bS]at h5;refine CZ (gz t) (k:=f) (A1:=B5) (qQ ?_) h5.hf ?_
 ·unfold Si
  refine(zH (ρ1:=[some (zr t),some (.ref 0),none,none,none,none,none]) (A1:=[.lst []]) ((qI (jM qy)).trans rfl)).trans ?_;refine(zH ((kA (hrl _ _ _ _ _ _)).trans e1)).trans ?_;refine(zH (ρ1:=[some (zr t),some (.ref 0),y,some (.ref d),none,none,none]) ((qI U).trans rfl)).trans ?_;refine(zH (ρ1:=[some (zr t),some (.ref 0),y,some (.ref d),some (.ref f),none,none]) (A1:=P) ((qI ((jM qy).trans (by rw[hf,hB4]))).trans rfl)).trans ?_
  have D:=(kA (tw:=zG 5) (m1:=zq (jK (qh (zh 1)) (zG 6) K9) zC) (JA (m:=zh 1) (ρ:=[some (zr t),some (.ref 0),y,some (.ref d),some (.ref f),none,none]) (zu rfl) S.hp));rw[show(⟨λA i=>(zT (.ref 0) A).map λws=>ws[i]?,((qz t.length).map pW).length⟩:jE).len=(qz t.length).length from ah ..]at D
  exact(zH (D.trans e5)).trans (qv (qV (zu rfl)))
 ·have:∀l:List B4,jl (l.map bW)=true:=λl=>by
   induction l with
   |nil=>rfl|cons x l ih=>exact ih
  exact this _
end
structure Part (w:W):Prop where
 ty:∃ty,∀A,jO w A=some ty
 dt:∃d,∀A,qd A 7 w=some d
inductive gw (A:Hx)(w:W):Prop
 |tup (ws:List W) (e:w=.tup ws) (hl:ws.length<=100) (h:∀x∈ws,Part x)
 |oth (ty:Ty) (h:jO w A=some ty) (hn:ty≠.tup)
theorem all_ints:∀{ws:List W},ws.all kJ=true->∃r:bV,ws=r.map W.int
 |[],_=>⟨[],rfl⟩|w::ws,h=>by
  rw[List.all_cons,ar]at h;obtain⟨r,rfl⟩:=all_ints h.2;cases w with
  |int i=>exact⟨i::r,rfl⟩|_=>cases h.1
def DT (r:bV):(r.map W.int).all kJ=true:=by
 rw[all_map];exact cD.mpr λ_ _=>rfl
def BB (p:α->Bool)(l:List α):Qn (l.map λx=>W.bl (p x)) A=.ok (.bl (l.all p)) A:=by
 show ZX (λks=>ks.all id) _ A=_;unfold ZX;rw[WU];dsimp only;rw[all_map]
 rfl
def Yr (i:Int):Part (.int i):=⟨⟨.int,λ_=>rfl⟩,⟨.int i,λ_=>rfl⟩⟩
def PL (r:bV):Part (zQ r):=⟨⟨.tup,λ_=>rfl⟩,⟨.tuple (r.map PyData.int),λA=>by
 show(jH (qd A 6) (r.map W.int)).map PyData.tuple=_;rw[Vq];rfl⟩⟩
def iu:W->Bool
 |.non=>true|.bl _=>true|.int _=>true|.str x=>PyData.strOk x|.tup ws=>ws.all kJ|_=>false
def part_of {w:W}(h:iu w=true):Part w:=by
 cases w with
 |non=>exact⟨⟨_,λ_=>rfl⟩,⟨_,λ_=>rfl⟩⟩|bl b=>exact⟨⟨_,λ_=>rfl⟩,⟨_,λ_=>rfl⟩⟩|int i=>exact Yr i|str x=>exact⟨⟨_,λ_=>rfl⟩,⟨.str x,λA=>by show(if PyData.strOk x then some (PyData.str x) else none)=_;have h:PyData.strOk x=true:=h;rw[ag h]⟩⟩|tup ws=>
  obtain⟨r,rfl⟩:=all_ints h;exact PL r
 |_=>cases h
def TE (m:Ev)(ρ:En)(ws:List W):Prop:=∀A,m ρ A=.ok (.tup ws) A
section
variable {m m':Ev}{xs ys:List W}{pl pu:Po}{l u:cf}
def YB (h:TE m ρ xs)(h':TE m' ρ ys)(H:xs.length+ys.length<=1000):TE (zi zY m m') ρ (xs++ys):=λA=>(zL (h A) (h' A)).trans (by
 unfold zY;dsimp only;rw[ag (by unfold zR;omega)])
def iw {A2 a:Hx}(h:m ρ A=.ok (.tup xs) A1)(b:pl ρ A1=.ok l A2)(H:pu ρ A2=.ok u a):j3 m pl pu ρ A=.ok (.tup (yu xs l u)) a:=by
 unfold j3;rw[h,zP,b,zP,H,zP]
def JH (h:TE m ρ xs)(a:∀A,pl ρ A=.ok l A)(H:∀A,pu ρ A=.ok u A):TE (j3 m pl pu) ρ (yu xs l u):=λA=>iw (h A) (a A) (H A)
def NJ {w:W}(h:∀A,m ρ A=.ok w A):TE (zE (zc m zl)) ρ [w]:=λA=>Jx (zX (h A) qy)
def ZL {x:W}(h:x∈yu xs l u):x∈xs:=List.mem_of_mem_drop (List.mem_of_mem_take h)
def Jz:(yu xs l u).length<=xs.length:=by
 unfold yu;rw[br,length_drop];omega
end
section
variable {K:Nat}{w x z:W}
def P5 (l:ws.length<=100)(hw:∀x∈ws,∃ty,jO x A=some ty):Z5 [.tup ws,.int (K:Int)] A=.ok (.bl (decide (ws.length=K)&&ws.all kJ)) A:=by
 unfold Z5 Yh;refine qQ ?_;unfold Kb;refine qv (qV ?_);refine(gI (A1:=A) rfl).trans ?_;have e:=Uy (ws:=ws) (ρ:=[some (.tup ws),some (.int (K:Int))]) (i:=0) (A:=A) rfl;have eq:zi qL (mQ qt (qb (zh 0))) (zh 1) [some (.tup ws),some (.int (K:Int))] A=.ok (.bl (decide (ws.length=K))) A:=(zL e (zu (i:=1) rfl)).trans ((Zw _ _ _).trans (by congr 2;exact decide_eq_decide.mpr ⟨λz=>by omega,λz=>by omega⟩))
 by_cases q:ws.length=K
 ·rw[az q]at eq ⊢
  refine(gI eq).trans ?_;have E:=Yq (cap:=[]) (A:=A) (ρ:=[some (.tup ws),some (.int (K:Int))]) (ws:=ws) (me:=zF QJ (zc (zh 0) zl)) (g:=λw=>.bl (kJ w)) (zu (i:=0) rfl) (by unfold zR;omega) (λw H=>by
   obtain⟨ty,h⟩:=hw w H;exact(qp (ws:=[w]) (A1:=A) rfl).trans (BS h))
  refine(yK E).trans ?_;rw[Bool.true_and];unfold Qn ZX;rw[WU];show R.ok (W.bl ((ws.map kJ).all id)) A=_;rw[all_map]
  rfl
 ·rw[aD q]at eq ⊢
  exact ZQ eq
variable {N:Nat}{y:W}{r ks:bV}
noncomputable def Wf (N:Nat)(ks:bV):Bool:=ks.all λv=>decide (0<=v)&&decide (v<(N:Int))
def Oo (H:ws.length<=100)(hw:∀x∈ws,∃ty,jO x A=some ty)(h:(decide (ws.length=K)&&ws.all kJ)=false):ku [.tup ws,.int (K:Int),.int (N:Int)] A=.ok (.bl false) A:=by
 unfold ku Je;refine qQ ?_;unfold J7;exact qv (qV (ZQ ((qp (ws:=[.tup ws,.int (K:Int)]) (A1:=A) rfl).trans ((P5 H hw).trans (by rw[h])))))
def Cr (l:r.length<=100)(H:r.length=K):ku [zQ r,.int (K:Int),.int (N:Int)] A=.ok (.bl (Wf N r)) A:=by
 unfold ku Je;refine qQ ?_;unfold J7;refine qv (qV ?_);refine(gI (A1:=A) ((qp (ws:=[zQ r,.int (K:Int)]) (A1:=A) rfl).trans ((P5 (ws:=r.map W.int) (by rw[ah];exact l) (λx h=>by obtain⟨v,_,rfl⟩:=cy.mp h;exact⟨.int,rfl⟩)).trans (by rw[DT,ah,az H];rfl)))).trans ?_
 have e:=Yq (cap:=[2]) (A:=A) (ρ:=[some (zQ r),some (.int (K:Int)),some (.int (N:Int))]) (ws:=r.map W.int) (me:=kL Zv J5 (zo (.int 0)) (zh 0) (zh 1)) (g:=λw=>match w with|.int v=>.bl (decide (0<=v)&&decide (v<(N:Int)))|_=>.non) (zu (i:=0) rfl) (by rw[ah];unfold zR;omega) (λw hw=>by
  obtain⟨v,a,rfl⟩:=cy.mp hw;exact Bl rfl (zu rfl))
 refine(yK e).trans ?_;rw[aL];exact BB (λv:Int=>decide (0<=v)&&decide (v<(N:Int))) r
noncomputable def bK (x:B4):bV:=[(x.1.1:Int),(x.1.2:Int),(x.2.1:Int),(x.2.2:Int)]
def VI {a b c e:Nat}:((a,b),(c,e))∈yd t K↔(a<t.length/\b<t.length/\c<t.length/\e<t.length)/\yD t K (a,b) (c,e)=true:=by
 unfold yd;rw[List.mem_flatMap]
 constructor
 ·rintro⟨p,hp,h⟩
  unfold kH at h;obtain⟨q,H,e⟩:=cy.mp h;cases e;obtain⟨g,f⟩:=List.mem_filter.mp H;obtain⟨a1,a2⟩:=Qa.mp hp;obtain⟨d,A⟩:=Qa.mp g;exact⟨⟨a1,a2,d,A⟩,f⟩
 ·rintro⟨⟨a1,a2,d,A⟩,h⟩
  exact⟨(a,b),Qa.mpr ⟨a1,a2⟩,cy.mpr ⟨(c,e),List.mem_filter.mpr ⟨Qa.mpr ⟨d,A⟩,h⟩,rfl⟩⟩
def w9 (t:bU)(K:Nat)(ks:bV):Bool:=decide (ks∈(yd t K).map bK)
def J1 (t:bU)(K:Nat):W->Bool
 |.tup ws=>match intsOf ws with
  |some ks=>w9 t K ks|none=>false
 |_=>false
def Nw (h:w9 t K ks=true):ks.length=4/\Wf t.length ks=true:=by
 obtain⟨⟨⟨a,b⟩,⟨c,e⟩⟩,H,rfl⟩:=cy.mp (of_decide_eq_true h);obtain⟨⟨i,g,f,d⟩,_⟩:=VI.mp H;refine⟨rfl,?_⟩;unfold Wf bK;simp;omega
def AV {a b c e:Nat}(g:a<t.length)(f:b<t.length)(d:c<t.length)(he:e<t.length):w9 t K [(a:Int),(b:Int),(c:Int),(e:Int)]=yD t K (a,b) (c,e):=by
 rw[Bool.eq_iff_iff]
 constructor
 ·intro h
  obtain⟨⟨⟨A,B⟩,⟨C,E⟩⟩,H,e⟩:=cy.mp (of_decide_eq_true h);unfold bK at e;simp only[List.cons.injEq,Int.natCast_inj,and_true]at e;obtain⟨rfl,rfl,rfl,rfl⟩:=e;exact(VI.mp H).2
 ·intro h
  exact az (cy.mpr ⟨((a,b),(c,e)),VI.mpr ⟨⟨g,f,d,he⟩,h⟩,rfl⟩)
def W3 (r:bV):intsOf (r.map W.int)=some r:=by
 induction r with
 |nil=>rfl|cons v r i=>rw[aN,intsOf,i]
theorem VQ:∀{ws:List W},ws.all kJ=false->intsOf ws=none
 |[],h=>by cases h|w::ws,h=>by
  rw[List.all_cons]at h;unfold intsOf;cases w with
  |int v=>
   have h:ws.all kJ=false:=by simpa[kJ] using h
   dsimp only;rw[VQ h]
  |_=>rfl
def iy (f:qN t)(s:jm t=(K:Int))(q:r.length<=100):Zy [zr t,zQ r] A=.ok (.bl (w9 t K r)) A:=by
 unfold Zy;refine ZP (Gp ?_);unfold WI;refine(zH (Zg ((qp (zX (zu rfl) qy)).trans (WT f A)))).trans (ZP ?_);have go:∀{k:Bool}(h:ku [zQ r,.int (4:Int),.int (t.length:Int)] A=.ok (.bl k) A),yc (zF ku (zc (zh 1) (zc (zo (.int 4)) (zc (mQ qt (qb (zh 0))) zl)))) [some (zr t),some (zQ r),none,none,none,none] A=.ok (.bl (!k)) A:=λh=>
  wy ((qp (ws:=[zQ r,.int 4,.int (t.length:Int)]) (A1:=A) (zX (zu rfl) (zX qM (zX (len_tab rfl) qy)))).trans h)
 have out:ku [zQ r,.int (4:Int),.int (t.length:Int)] A=.ok (.bl false) A->w9 t K r=false->(zq (qZ (yc (zF ku (zc (zh 1) (zc (zo (.int 4)) (zc (mQ qt (qb (zh 0))) zl))))) (zq (qD (zo (.bl false))) zC) zC) (zq (Jb (zh 1) (GR 2 3 4 5)) (zq (qD (yj (zi qL (zi zy (zi zy (zh 0) (zh 2)) (zh 3)) (zi zy (zi zy (zh 0) (zh 4)) (zh 5))) (zi jf (zF gF (zc (zh 0) (zc (zh 2) (zc (zh 3) zl)))) (zF gF (zc (zh 0) (zc (zh 4) (zc (zh 5) zl))))))) zC))) [some (zr t),some (zQ r),none,none,none,none] A=.ok (.rt (.bl (w9 t K r))) A:=λh h'=>by
  rw[h'];exact qv ((wB (go h)).trans (qv (qV qM)))
 by_cases g:r.length=4
 ·have E:=Cr (A:=A) (N:=t.length) q g
  cases H:Wf t.length r with
  |false=>
   rw[H]at E;refine out E ?_;cases n:w9 t K r with
   |false=>rfl|true=>rw[(Nw n).2]at H;cases H
  |true=>
   rw[H]at E;obtain⟨v1,v2,l,v4,rfl⟩:∃v1 v2 l v4,r=[v1,v2,l,v4]:=by
    match r,g with
    |[v1,v2,l,v4],_=>exact⟨_,_,_,_,rfl⟩
   unfold Wf at H;simp only[List.all_cons,List.all_nil,Bool.and_true,ar,ao]at H;obtain⟨⟨B,M⟩,⟨z,L⟩,⟨u,J⟩,⟨P,Q⟩⟩:=H;obtain⟨a,rfl⟩:=aU B;obtain⟨b,rfl⟩:=aU z;obtain⟨c,rfl⟩:=aU u;obtain⟨e,rfl⟩:=aU P;have p:a<t.length:=by omega
   have H:b<t.length:=by omega
   have o:c<t.length:=by omega
   have he:e<t.length:=by omega
   rw[AV p H o he];refine(zH ((yQ (go E)).trans jF)).trans ?_;refine(zH (ρ1:=[some (zr t),some (G8 a b c e),some (.int (a:Int)),some (.int (b:Int)),some (.int (c:Int)),some (.int (e:Int))]) (A1:=A) (Bd (w:=G8 a b c e) (zu rfl) rfl)).trans (qv (qV ?_));have ix:∀(i j x y:Nat)(ρ:En),ρ[0]? =some (some (zr t))->ρ[i]? =some (some (.int (x:Int)))->ρ[j]? =some (some (.int (y:Int)))->x<t.length->y<t.length->zi zy (zi zy (zh 0) (zh i)) (zh j) ρ A=.ok (.int (at2 t x y)) A:=λi j x y ρ h0 I D d C=>
    (zL ((zL (zu h0) (zu I)).trans (Qc d)) (zu D)).trans (JJ (by rw[f.sq _ (yG d)];exact C))
   refine(KP ((zL (ix 2 3 a b _ rfl rfl rfl p H) (ix 4 5 c e _ rfl rfl rfl o he)).trans (Zw _ _ _)) ((zL ((qp (zX (zu rfl) (zX (zu rfl) (zX (zu rfl) qy)))).trans (WV f s p H A)) ((qp (zX (zu rfl) (zX (zu rfl) (zX (zu rfl) qy)))).trans (WV f s o he A))).trans (UZ _ _ _))).trans ?_;unfold yD;rw[show decide (at2 t a b=at2 t c e)=decide (qO t (c,e)=qO t (a,b)) from decide_eq_decide.mpr eq_comm,show decide (yw t K a b=yw t K c e)=decide (yM t K (c,e)=yM t K (a,b)) from decide_eq_decide.mpr eq_comm]
 ·refine out (Oo (ws:=r.map W.int) (K:=4) (N:=t.length) (by rw[ah];exact q) (λx d=>by obtain⟨v,_,rfl⟩:=cy.mp d;exact⟨.int,rfl⟩) (by rw[ah,aD g];rfl)) ?_
  cases n:w9 t K r with
  |false=>rfl|true=>exact absurd (Nw n).1 g
def Nt (H:qN t)(h:ku [w,.int (4:Int),.int (t.length:Int)] A=.ok (.bl false) A):Zy [zr t,w] A=.ok (.bl false) A:=by
 unfold Zy;refine ZP (Gp ?_);unfold WI;refine(zH (Zg ((qp (zX (zu rfl) qy)).trans (WT H A)))).trans (ZP ?_);exact qv ((wB (wy (k:=false) ((qp (ws:=[w,.int 4,.int (t.length:Int)]) (A1:=A) (zX (zu rfl) (zX qM (zX (len_tab rfl) qy)))).trans h))).trans (qv (qV qM)))
def Cs (a:qN t)(d:jm t=(K:Int))(h:gw A w):Zy [zr t,w] A=.ok (.bl (J1 t K w)) A:=by
 cases h with
 |oth ty h hn=>
  have E:J1 t K w=false:=by
   cases w with
   |tup ws=>cases h;exact absurd rfl hn|_=>rfl
  rw[E];refine Nt a ?_;unfold ku Je;refine qQ ?_;unfold J7;refine qv (qV (ZQ ((qp (ws:=[w,.int (4:Int)]) (A1:=A) rfl).trans ?_)));unfold Z5 Yh;refine qQ ?_;unfold Kb;exact qv (qV (ZQ ((Zh (zu rfl) h).trans (by rw[UC hn]))))
 |tup ws e l hp=>
  subst e;have H:∀x∈ws,∃ty,jO x A=some ty:=λx c=>let ⟨ty,h⟩:=(hp x c).ty;⟨ty,h A⟩
  cases b:ws.all kJ with
  |true=>
   obtain⟨r,rfl⟩:=all_ints b
   have:J1 t K (.tup (r.map W.int))=w9 t K r:=by
    show(match intsOf (r.map W.int) with|some ks=>w9 t K ks|none=>false)=_
    rw[W3]
   rw[this];exact iy a d (by rw[ah]at l;exact l)
  |false=>
   have:J1 t K (.tup ws)=false:=by
    show(match intsOf ws with|some ks=>w9 t K ks|none=>false)=_
    rw[VQ b]
   rw[this];exact Nt a (Oo (K:=4) l H (by rw[b,Bool.and_false]))
end
section
variable {w x:W}
def gw.mono (k:Ky A B)(h:gw A w):gw B w:=by
 cases h with
 |tup ws e H h=>exact .tup ws e H h|oth ty h hn=>exact .oth ty (k _ _ h) hn
theorem Pr:∀{ws:List W},(∀x∈ws,Part x)->∃ds,jH (qd A 7) ws=some ds/\ds.length=ws.length
 |[],_=>⟨[],rfl,rfl⟩|w::ws,h=>by
  obtain⟨d,hd⟩:=(h w (ay ..)).dt;obtain⟨ds,e,l⟩:=Pr λx H=>h x (aq _ H);refine⟨d::ds,?_,by simp[l]⟩
  show(match qd A 7 w,jH (qd A 7) ws with|some d,some ds=>some (d::ds)|_,_=>none)=_
  rw[hd,e]
def O2 {r s:Nat}(h:A[r]? =some (.lst ws))(e:jH (qd A 7) ws=some ds)(H:ds.length=ws.length)(b:A[s]? =some (.lst [])):qL (.ref r) (.ref s) A=.ok (.bl ws.isEmpty) A:=by
 have E:qd A 8 (.ref r)=some (.list ds):=by
  show(match zT (.ref r) A with|some ws=>(jH (qd A 7) ws).map PyData.list|none=>none)=_
  have:zT (.ref r) A=some ws:=by unfold zT;dsimp only;rw[h]
  rw[this];dsimp only;rw[e]
  rfl
 show wU false _ _ A=_;unfold wU;rw[E,GA (l:=[]) b];dsimp only;rw[aj (by simp)]
 congr 2
 rw[PyData.eqv];cases ws with
 |nil=>
  cases ds with
  |nil=>simp[PyData.eqvAll]|cons _ _=>simp at H
 |cons a l=>
  cases ds with
  |nil=>simp at H|cons d ds=>simp[PyData.eqvAll]
def Al {r s:Nat}(h:A[r]? =some (.lst ws))(hp:∀x∈ws,Part x)(a:A[s]? =some (.lst [])):qL (.ref r) (.ref s) A=.ok (.bl ws.isEmpty) A:=by
 obtain⟨ds,e,H⟩:=Pr (A:=A) hp;exact O2 h e H a
variable {K N d:Nat}{C:Hx}{y z:W}{r ks:bV}{vs:List W}{a:Ea}
def Dj {ty:Ty}(h:jO w A=some ty):Z4 [w] A=.ok (.bl (kJ w)) A:=by
 unfold Z4 X0 Rl;refine qQ (qv (qV ((KP (Zh (zu rfl) h) (wy (Zh (zu rfl) h))).trans ?_)));rw[Np h]
abbrev MC:Ev:=yj (yS .tup (zh 7)) (yj (zi qL (qg (zV 1 [] (qh (zh 7)) (zG 0) (yc (zF Z4 (zc (zh 0) zl))) (zM (zh 0)))) (zU zl)) (zi Qq (zh 7) (zh 6)))
def ES (h:gw A w)(hd:A[d]? =some (.td (wN [] ((yd t K).map λx=>(bK x,.bl true)))))(o:ρ[6]? =some (some (.ref d)))(c:ρ[7]? =some (some w)):∃B,MC ρ A=.ok (.bl (J1 t K w)) B/\Ext A B:=by
 cases h with
 |oth ty h hn=>
  refine⟨A,(ZQ ((Zh (zu c) h).trans (by rw[UC hn]))).trans ?_,Ext.refl⟩
  cases w with
  |tup ws=>cases h;exact absurd rfl hn|_=>rfl
 |tup us e C hp=>
  subst e;have l:=Vi (cap:=[]) (ρ:=ρ) (A:=A) (ifs:=yc (zF Z4 (zc (zh 0) zl))) (me:=zh 0) (N:=us.length) (item:=λi=>us.getD i .non) (g:=λi=>us.getD i .non) (keep:=λi=>!kJ (us.getD i .non)) (JB (zu c)) rfl (by unfold zR;omega)
   (λi H=>by show some us[i]? =_;rw[aa H,af,aa H];rfl)
   (by show some us[us.length]? =_;rw[aI (av _)])
   (λi H=>by
    have hm:us.getD i .non∈us:=by rw[af,aa H];exact aO H
    obtain⟨ty,y⟩:=(hp _ hm).ty;exact wy ((qp (zX (zu rfl) qy)).trans (Dj (y A))))
   (λi H _=>zu rfl)
  have a:∀x∈(((List.range us.length).filter λi=>!kJ (us.getD i .non)).map λi=>us.getD i .non),Part x:=λx f=>by
   obtain⟨i,H,rfl⟩:=cy.mp f;have H:=cB.mp (List.mem_filter.mp H).1;have hm:us.getD i .non∈us:=by rw[af,aa H];exact aO H
   exact hp _ hm
  generalize k:(((List.range us.length).filter λi=>!kJ (us.getD i .non)).map λi=>us.getD i .non)=L at l a;have x2:Ext A (A++[.lst L]++[.lst []]):=Ext.one.app;have E:zi qL (qg (zV 1 [] (qh (zh 7)) (zG 0) (yc (zF Z4 (zc (zh 0) zl))) (zM (zh 0)))) (zU zl) ρ A=.ok (.bl L.isEmpty) (A++[.lst L]++[.lst []]):=
   (zL (kR l) (jM qy)).trans (Al (jS qF) a (by have:=qF (A:=A++[.lst L]) (u:=.lst []);exact this))
  have hd2:=x2.at hd;generalize A++[.lst L]++[.lst []]=A2 at E x2 hd2;have s:yS .tup (zh 7) ρ A=.ok (.bl true) A:=(Zh (zu c) rfl).trans rfl;refine⟨A2,(gI s).trans ?_,x2⟩;cases b:us.all kJ with
  |false=>
   have:L.isEmpty=false:=by
    cases j:L with
    |cons _ _=>rfl|nil=>
     rw[j]at k;have hn:=List.map_eq_nil_iff.mp k
     have:us.all kJ=true:=cD.mpr λx f=>by
      obtain⟨i,H,rfl⟩:=bG f
      have:=List.filter_eq_nil_iff.mp hn i (cB.mpr H)
      rw[af,aa H]at this;simpa using this
     rw[this]at b;cases b
   rw[this]at E;refine(ZQ E).trans ?_;show _=R.ok (W.bl (match intsOf us with|some ks=>w9 t K ks|none=>false)) A2
   rw[VQ b]
  |true=>
   obtain⟨r,rfl⟩:=all_ints b
   have:L=[]:=by
    rw[<- k,List.map_eq_nil_iff,List.filter_eq_nil_iff];intro i H;have H:=cB.mp H;have hm:(r.map W.int).getD i .non∈r.map W.int:=by rw[af,aa H];exact aO H
    obtain⟨v,_,ev⟩:=cy.mp hm;rw[<- ev];intro z;cases z
   rw[this]at E;refine(gI E).trans ?_;have n:keyT? (.tup (r.map W.int))=some r:=W3 r;refine(zL (zu c) (zu o)).trans ((il hd2 n).trans ?_);show _=R.ok (W.bl (match intsOf (r.map W.int) with|some ks=>w9 t K ks|none=>false)) A2
   rw[W3,RZ (g:=λ_=>.bl true) (λp hp=>by obtain⟨x,_,rfl⟩:=cy.mp hp;rfl)]
   dsimp only;unfold w9;rw[aL];show R.ok (W.bl (if r∈(yd t K).map bK then some (W.bl true) else none).isSome) A2=_
   by_cases q:r∈(yd t K).map bK
   ·rw[ag q,az q];rfl
   ·rw[aj q,aD q];rfl
def EM (C:Hx)(m:Ev)(ρ:En):Prop:=∀A,Ext C A->∃w A1,m ρ A=.ok w A1/\Ext A A1/\gw A1 w
def AM (C:Hx)(a:Ea)(ρ:En)(k:Nat):Prop:=∀A,Ext C A->∃ws A1,a ρ A=.ok ws A1/\Ext A A1/\ws.length=k/\∀w∈ws,gw A1 w
def O5:AM C zl ρ 0:=λA _=>⟨[],A,rfl,Ext.refl,rfl,λ_ h=>by cases h⟩
def ZG {m:Ev}(h:EM C m ρ)(t:AM C a ρ k):AM C (zc m a) ρ (k+1):=λA x=>by
 obtain⟨w,A1,E,x1,c⟩:=h A x;obtain⟨ws,A2,e,x2,l,b⟩:=t A1 (x.trans x1);refine⟨w::ws,A2,zX E e,x1.trans x2,by rw[bb,l],λy H=>?_⟩
 rcases cz.mp H with rfl|H
 ·exact c.mono x2.ky
 ·exact b y H
def ND {m:Ev}{ty:Ty}(h:∀A,m ρ A=.ok w A)(hw:∀A,jO w A=some ty)(hn:ty≠.tup):EM C m ρ:=λA _=>⟨w,A,h A,Ext.refl,.oth ty (hw A) hn⟩
def YN {m:Ev}(h:TE m ρ ws)(H:ws.length<=100)(hp:∀x∈ws,Part x):EM C m ρ:=λA x=>⟨.tup ws,A,h A,Ext.refl,.tup ws rfl H hp⟩
def iz (h:r.length<=100):gw A (zQ r):=.tup (r.map W.int) rfl (by rw[ah];exact h) λx H=>by
 obtain⟨v,_,rfl⟩:=cy.mp H;exact Yr v
def Nm (s:qU n A1)(h0:ρ[0]? =some (some (.ref n)))(b:a ρ A=.ok vs A1)(d:vs.length=k)(k1:0<k)(k2:k<1000):∃(w:W) (B:Hx),zi zy (zU a) (zF jQ (zc (zh 0) (zc (zo (.int (k:Int))) zl))) ρ A=.ok w B/\w∈vs/\Kn n A1 B:=by
 have x2:Ext A1 (A1++[.lst vs]):=Ext.one;obtain⟨j,c,e,f,k3,_⟩:=ZE (ρ:=ρ) (me:=zo (.int (k:Int))) (s.ext x2) h0 qM (by omega) (by omega)
 have hn:=s.lt;have H:=k3.kp.get (qF (A:=A1) (u:=.lst vs)) (by omega)
 have h:j<vs.length:=by omega
 exact⟨vs[j],c,(zL (jM b) e).trans (wJ H (aa h)),aO h,(Kn.ext s x2).trans k3⟩
def iA (s:qU n A)(h4:r.length=4)(hN:N<=8):∃w B,QI [.ref n,zQ r,.int (N:Int)] A=.ok w B/\gw B w/\Kn n A B:=by
 unfold QI Vf;unfold Rw;obtain⟨a,B1,e1,ha,k1,_⟩:=ZE (ρ:=[some (.ref n),some (zQ r),some (.int (N:Int)),none,none,none]) (me:=zo (.int 4)) s rfl qM (by decide:(0:Int)<4) (by decide)
 obtain⟨b,B2,e2,hb,k2,_⟩:=ZE (ρ:=[some (.ref n),some (zQ r),some (.int (N:Int)),some (.int (a:Int)),none,none]) (me:=zi zY (zh 2) (zo (.int 1))) (m:=(N:Int)+1) k1.st rfl ((zL (zu rfl) qM).trans rfl) (by omega) (by omega)
 obtain⟨v,P,e3,U,k3⟩:=Nm (k:=8) (ρ:=[some (.ref n),some (zQ r),some (.int (N:Int)),some (.int (a:Int)),none,none]) (A:=B1) (a:=zc (zF jQ (zc (zh 0) (zc (zi zY (zh 2) (zo (.int 1))) zl))) (zc (zh 2) (zc (jn wF (zo (.int 1))) (zc (zo (.bl true)) (zc (zo .non) (zc (zo (.str "0")) (zc (zE (zc (zo (.int 0)) zl)) (zc (zo (.bl false)) zl))))))))
  (vs:=[.int (b:Int),.int (N:Int),.int (-1),.bl true,.non,.str "0",.tup [.int 0],.bl false]) k2.st rfl (zX e2 rfl) rfl (by decide) (by decide)
 have p:Part v:=by
  simp only[bQ,bD,or_false]at U;rcases U with rfl|rfl|rfl|rfl|rfl|rfl|rfl|rfl
  ·exact Yr _
  ·exact Yr _
  ·exact Yr _
  ·exact part_of rfl
  ·exact part_of rfl
  ·exact part_of (by decide +kernel)
  ·exact part_of rfl
  ·exact part_of rfl
 have K:Kn n A P:=(k1.trans k2).trans k3;have sB:=K.st;generalize H:([some (.ref n),some (zQ r),some (.int (N:Int)),some (.int (a:Int)),some v,none]:En)=ρ;have tt:TE (zh 1) ρ (r.map W.int):=λA=>by subst H;rfl
 have h3:∀A,zh 3 ρ A=.ok (.int (a:Int)) A:=λA=>by subst H;rfl
 have y:∀A,zh 4 ρ A=.ok v A:=λA=>by subst H;rfl
 have tl:(r.map W.int).length=4:=by rw[ah];exact h4
 have pi:∀x∈r.map W.int,Part x:=λx h=>by
  obtain⟨v,_,rfl⟩:=cy.mp h;exact Yr v
 have J:TE (j3 (zh 1) jL (jD (zh 3))) ρ (yu (r.map W.int) none (some (a:Int))):=JH tt (λ_=>rfl) (λA=>by subst H;rfl)
 have c2:TE (j3 (zh 1) (jD (zi zY (zh 3) (zo (.int 1)))) jL) ρ (yu (r.map W.int) (some ((a:Int)+1)) none):=JH tt (λA=>by subst H;rfl) (λ_=>rfl)
 have c3:TE (j3 (zh 1) (jD (zh 3)) jL) ρ (yu (r.map W.int) (some (a:Int)) none):=JH tt (λA=>by subst H;rfl) (λ_=>rfl)
 have Z:TE (j3 (zh 1) (jD (zo (.int 2))) jL) ρ (yu (r.map W.int) (some 2) none):=JH tt (λA=>rfl) (λ_=>rfl);have Y:TE (j3 (zh 1) jL (jD (zo (.int 2)))) ρ (yu (r.map W.int) none (some 2)):=JH tt (λA=>rfl) (λ_=>rfl);have z1:=Jz (xs:=r.map W.int) (l:=none) (u:=some (a:Int));have z2:=Jz (xs:=r.map W.int) (l:=some ((a:Int)+1)) (u:=none);have z3:=Jz (xs:=r.map W.int) (l:=some (a:Int)) (u:=none);have z4:=Jz (xs:=r.map W.int) (l:=some 2) (u:=none);have z5:=Jz (xs:=r.map W.int) (l:=none) (u:=some 2);have one:TE (zE (zc (zh 4) zl)) ρ [v]:=NJ y;obtain⟨us,B4,e4,x4,T,I⟩:=ZG (C:=P) (m:=zi zY (zi zY (j3 (zh 1) jL (jD (zh 3))) (zE (zc (zh 4) zl))) (j3 (zh 1) (jD (zi zY (zh 3) (zo (.int 1)))) jL)) (ρ:=ρ)
   (YN (YB (YB J one (by simp;omega)) c2 (by rw[ak,aQ];omega)) (by rw[ak,ak,aQ];omega) λx h=>by
    rcases cE.mp h with h|h
    ·rcases cE.mp h with h|h
     ·exact pi x (ZL h)
     ·rw[cC.mp h];exact p
    ·exact pi x (ZL h))
  (ZG (m:=zi zY (zi zY (j3 (zh 1) jL (jD (zh 3))) (zE (zc (zh 4) zl))) (j3 (zh 1) (jD (zh 3)) jL))
   (YN (YB (YB J one (by simp;omega)) c3 (by rw[ak,aQ];omega)) (by rw[ak,ak,aQ];omega) λx h=>by
    rcases cE.mp h with h|h
    ·rcases cE.mp h with h|h
     ·exact pi x (ZL h)
     ·rw[cC.mp h];exact p
    ·exact pi x (ZL h))
  (ZG (m:=zi zY (j3 (zh 1) jL (jD (zh 3))) (j3 (zh 1) (jD (zi zY (zh 3) (zo (.int 1)))) jL))
   (YN (YB J c2 (by omega)) (by rw[ak];omega) λx h=>by
    rcases cE.mp h with h|h
    ·exact pi x (ZL h)
    ·exact pi x (ZL h)) O5)) P Ext.refl
 have s4:=sB.ext x4;have x5:Ext B4 (B4++[.lst us]):=Ext.one;have d:(B4++[O.lst us])[B4.length]? =some (.lst us):=qF;have o:=jM e4;have D:=s4.lt;generalize hq4:B4.length=q4 at o d D;generalize B4++[.lst us]=L at x5 d o;have s5:=s4.ext x5;subst H;generalize H:([some (.ref n),some (zQ r),some (.int (N:Int)),some (.int (a:Int)),some v,some (.ref q4)]:En)=ρ;have tt:TE (zh 1) ρ (r.map W.int):=λA=>by subst H;rfl
 have Z:TE (j3 (zh 1) (jD (zo (.int 2))) jL) ρ (yu (r.map W.int) (some 2) none):=JH tt (λA=>rfl) (λ_=>rfl);have Y:TE (j3 (zh 1) jL (jD (zo (.int 2)))) ρ (yu (r.map W.int) none (some 2)):=JH tt (λA=>rfl) (λ_=>rfl);have cr:TE (KO (zh 1) (jn wF (zo (.int 1)))) ρ (r.map W.int).reverse:=λA=>by subst H;rfl
 obtain⟨vs,c,e6,x6,Q,h6⟩:=ZG (C:=L) (m:=KO (zh 1) (jn wF (zo (.int 1)))) (ρ:=ρ)
   (YN cr (by rw[List.length_reverse];omega) λx h=>pi x (List.mem_reverse.mp h))
  (ZG (m:=zi zY (j3 (zh 1) (jD (zo (.int 2))) jL) (j3 (zh 1) jL (jD (zo (.int 2)))))
   (YN (YB Z Y (by omega)) (by rw[ak];omega) λx h=>by
    rcases cE.mp h with h|h
    ·exact pi x (ZL h)
    ·exact pi x (ZL h))
  (ZG (m:=qg (qb (zh 1))) (λA _=>⟨_,_,kR (kS (tt A) rfl),Ext.one,.oth .lst Uq (by decide)⟩)
  (ZG (m:=zo .non) (ND (w:=.non) (ty:=.non) (λ_=>rfl) (λ_=>rfl) (by decide))
  (ZG (m:=Q9) (λA _=>⟨.ref A.length,A++[.dct []],rfl,Ext.one,.oth .dct (by unfold jO;dsimp only;rw[qF]) (by decide)⟩)
  (ZG (m:=zo (.int 0)) (ND (w:=.int 0) (ty:=.int) (λ_=>rfl) (λ_=>rfl) (by decide))
  (ZG (m:=zE (zc (zh 1) zl)) (YN (NJ (w:=zQ r) λA=>by subst H;rfl) (by simp) λx h=>by rw[cC.mp h];exact PL r) O5)))))) L Ext.refl
 have M:zi zY (zh 5) (zU (zc (KO (zh 1) (jn wF (zo (.int 1)))) (zc (zi zY (j3 (zh 1) (jD (zo (.int 2))) jL) (j3 (zh 1) jL (jD (zo (.int 2))))) (zc (qg (qb (zh 1))) (zc (zo .non) (zc Q9 (zc (zo (.int 0)) (zc (zE (zc (zh 1) zl)) zl)))))))) ρ L=.ok (.ref (c++[O.lst vs]).length) (c++[.lst vs]++[.lst (us++vs)]):=
  (zL (by subst H;exact zu rfl) (jM e6)).trans (QK (jS (x6.at d)) qF (by rw[T,Q];decide))
 have x7:Ext c (c++[.lst vs]++[.lst (us++vs)]):=Ext.one.app;have E:(c++[O.lst vs]++[O.lst (us++vs)])[(c++[O.lst vs]).length]? =some (.lst (us++vs)):=qF;have g:∀w∈us++vs,gw (c++[.lst vs]++[.lst (us++vs)]) w:=λw hw=>by
  rcases cE.mp hw with hw|hw
  ·exact(I w hw).mono ((x5.trans x6).trans x7).ky
  ·exact(h6 w hw).mono x7.ky
 have S:=(s5.ext x6).ext x7;have e:(c++[O.lst vs]).length≠n:=by
  have:=(s5.ext x6).lt
  rw[ak];omega
 generalize (c++[O.lst vs]).length=q7 at M E e;generalize c++[.lst vs]++[.lst (us++vs)]=B7 at M x7 E g S;subst H;obtain⟨j,B8,e8,X,t⟩:=Nm (k:=12) (ρ:=[some (.ref n),some (zQ r),some (.int (N:Int)),some (.int (a:Int)),some v,some (.ref q7)]) (A:=B7) (A1:=B7) (a:=zc (zo (.int 0)) (zc (zo (.int 0)) (zc (zo (.int 0)) (zc (zo (.int 1)) (zc (zo (.int 2)) (zc (zo (.int 3)) (zc (zo (.int 4)) (zc (zo (.int 5)) (zc (zo (.int 6)) (zc (zo (.int 7)) (zc (zo (.int 8)) (zc (zo (.int 9)) zl))))))))))))
  (vs:=[.int 0,.int 0,.int 0,.int 1,.int 2,.int 3,.int 4,.int 5,.int 6,.int 7,.int 8,.int 9]) S rfl rfl rfl (by decide) (by decide)
 obtain⟨q,rfl,hq⟩:∃q:Nat,j=.int (q:Int)/\q<10:=by
  simp only[bQ,bD,or_false]at X;rcases X with rfl|rfl|rfl|rfl|rfl|rfl|rfl|rfl|rfl|rfl|rfl|rfl
  ·exact⟨0,rfl,by decide⟩
  ·exact⟨0,rfl,by decide⟩
  ·exact⟨0,rfl,by decide⟩
  ·exact⟨1,rfl,by decide⟩
  ·exact⟨2,rfl,by decide⟩
  ·exact⟨3,rfl,by decide⟩
  ·exact⟨4,rfl,by decide⟩
  ·exact⟨5,rfl,by decide⟩
  ·exact⟨6,rfl,by decide⟩
  ·exact⟨7,rfl,by decide⟩
  ·exact⟨8,rfl,by decide⟩
  ·exact⟨9,rfl,by decide⟩
 have f:q<(us++vs).length:=by rw[ak,T,Q];omega
 have z:=t.kp.get E e;refine⟨(us++vs)[q],B8,qQ ?_,(g _ (aO f)).mono (t.ky S),(K.trans (Kn.ext sB (((x4.trans x5).trans x6).trans x7))).trans t⟩;exact(zH ((qI e1).trans rfl)).trans ((zH ((qI e3).trans rfl)).trans ((zH ((qI o).trans rfl)).trans ((zH ((qI M).trans rfl)).trans (qv (qV ((zL (zu (i:=5) rfl) e8).trans (wJ z (aa f))))))))
end
section
variable {K N d q:Nat}{C:Hx}{w x y z bad:W}{r:bV}{vs:List W}{Pt:Addr}{PF:yi}
def iB (A:Hx):ki LS 0 [x] A=gf [x] A:=by
 rw[VT (t:=Yv gc gh gf) rfl];unfold Yv YR;dsimp only;exact qp (ws:=[x]) (A1:=A) rfl
def iC (A:Hx):ki LS 1 [x] A=gc [x] A:=by
 rw[VT (t:=Yw gc gh gf) rfl];unfold Yw YR;dsimp only;exact qp (ws:=[x]) (A1:=A) rfl
def iD (A:Hx):ki LS 2 [x] A=gh [x,.tup [.int 0,.int 0,.int 0,.int 0]] A:=by
 rw[VT (t:=Yu gc gh gf) rfl];unfold Yu YR;dsimp only;exact qp (ws:=[x,.tup [.int 0,.int 0,.int 0,.int 0]]) (A1:=A) rfl
def Av (h:wb A w):gf [w] A=.exc "NoTable" A:=by
 refine Ga ?_;unfold Vd;exact Kh (VY ((qp (ws:=[w]) (A1:=A) rfl).trans (Vp h)))
def iE (h:wb A w):gc [w] A=.exc "NoTable" A:=by
 refine Ga ?_;unfold XW;exact Kh (VY ((qp (ws:=[w]) (A1:=A) rfl).trans (Vp h)))
def iF (h:wb A w):gh [w,x] A=.exc "NoTable" A:=by
 refine Ga ?_;unfold WI;exact Kh (VY ((qp (ws:=[w]) (A1:=A) rfl).trans (Vp h)))
def iG (h:wb A bad)(H:ρ[9]? =some (some bad)):GY 0 A ρ [0,1,2]:=λk a=>by
 simp only[bQ,bD,or_false]at a;rcases a with rfl|rfl|rfl
 ·exact⟨Yv gc gh gf,[bad],rfl,U9 (i:=9) H,λB x=>UP ((iB B).trans (Av (h.mono x.ky))) XZ⟩
 ·exact⟨Yw gc gh gf,[bad],rfl,U9 (i:=9) H,λB x=>UP ((iC B).trans (iE (h.mono x.ky))) XZ⟩
 ·exact⟨Yu gc gh gf,[bad],rfl,U9 (i:=9) H,λB x=>UP ((iD B).trans (iF (h.mono x.ky))) XZ⟩
abbrev MO (Pt:Addr)(PF:yi):Ex:=zq (zW 10 (zU (zc (wV 1 jV Pt 0 (PF 0)) zl))) (zq (yk (j0 yq (zh 10) (wV 1 jV Pt 1 (PF 1)))) (zq (yk (j0 yq (zh 10) (wV 1 jV Pt 2 (PF 2)))) (zq (qZ (zi jf (qg (YO 1 (qh (zh 10)) (zG 0) 0 PF LS RF)) (zi jd (zU (zc (zU (zc (zo (.int 0)) zl)) zl)) (zo (.int 3)))) (zq (qD (zo (.bl false))) zC) zC) zC)))
def DP {x0 x1 x2 x3 x4 x5 x6 x7 x8 x10:Option W}(a:A[1]? =some (.tab jV Pt))(h:wb A bad):∃y B,MO Pt PF [x0,x1,x2,x3,x4,x5,x6,x7,x8,some bad,x10] A=.ok (.nx [x0,x1,x2,x3,x4,x5,x6,x7,x8,some bad,y]) B/\Ext A B:=by
 have set_new:∀o o':O,(A++[o]).set A.length o'=A++[o']:=λo o'=>by rw[List.set_append_right _ _ (av _),Nat.sub_self];rfl
 have e:∀m:Ex,zq (zW 10 (zU (zc (wV 1 jV Pt 0 (PF 0)) zl))) (zq (yk (j0 yq (zh 10) (wV 1 jV Pt 1 (PF 1)))) (zq (yk (j0 yq (zh 10) (wV 1 jV Pt 2 (PF 2)))) m)) [x0,x1,x2,x3,x4,x5,x6,x7,x8,some bad,x10] A=
   m [x0,x1,x2,x3,x4,x5,x6,x7,x8,some bad,some (.ref A.length)] (A++[.lst ([0,1,2].map λk=>.clo k [] (PF k))]):=λm=>by
  refine(zH (ρ1:=[x0,x1,x2,x3,x4,x5,x6,x7,x8,some bad,some (.ref A.length)]) (A1:=A++[.lst [.clo 0 [] (PF 0)]]) ((qI (jM (zX (VM a 0) qy))).trans rfl)).trans ?_;refine(zH (ρ1:=[x0,x1,x2,x3,x4,x5,x6,x7,x8,some bad,some (.ref A.length)]) (A1:=A++[.lst [.clo 0 [] (PF 0),.clo 1 [] (PF 1)]]) (Zg (w:=.non) ?_)).trans ?_
  ·exact(QM (zu rfl) qF (VM (jS a) 1)).trans ((WK qF (by simp)).trans (by rw[set_new];rfl))
  refine zH (Zg (w:=.non) ?_);exact(QM (zu rfl) qF (VM (jS a) 2)).trans ((WK qF (by simp)).trans (by rw[set_new];rfl))
 generalize H:([x0,x1,x2,x3,x4,x5,x6,x7,x8,some bad,some (.ref A.length)]:En)=ρ at e;have x:Ext A (A++[.lst ([0,1,2].map λk=>.clo k [] (PF k))]):=Ext.one;have b:(A++[O.lst ([0,1,2].map λk=>.clo k [] (PF k))])[A.length]? =some (O.lst ([0,1,2].map λk=>.clo k [] (PF k))):=qF;generalize A++[.lst ([0,1,2].map λk=>.clo k [] (PF k))]=A1 at e x b;obtain⟨A2,E,X⟩:=CY (PF:=PF) (n:=3) (c:=A.length) (g:=0) (ρ:=ρ) (iG h (by subst H;rfl)) x b (by subst H;rfl) (by simp) rfl (by decide +kernel)
 refine⟨some (.ref A.length),A2,(e _).trans ((zH ((yQ E).trans jF)).trans (by subst H;exact jF)),x.trans X⟩
def OF (b:Bool)(A:Hx):kP [.bl b,.bl b] A=.ok (.bl true) A:=by
 unfold kP X8;refine qQ (w:=.bl true) (A1:=A) ?_;cases b<;>rfl
def Ak (o:Option B4)(A:Hx):kP [YW o,YW o] A=.ok (.bl true) A:=by
 cases o with
 |none=>unfold kP X8;exact qQ (w:=.bl true) (A1:=A) rfl|some x=>
  refine FR (ws:=(bK x).map W.int) (ty:=.tup) rfl rfl rfl rfl (.inl rfl) (by simp[bK]) λw hw=>?_
  obtain⟨v,_,rfl⟩:=cy.mp hw;exact Ee v A
abbrev Tb:Ex:=zq (zW 8 MC) (zq (qZ (yc (zF kP (zc (zF Zy (zc (zh 3) (zc (zh 7) zl))) (zc (zh 8) zl)))) (zq (qD (zo (.bl false))) zC) zC) zC)
def YY (t:bU)(K:Nat):O:=.td (wN [] ((yd t K).map λx=>(bK x,.bl true)))
def DC {x0 x1 x2 x4 x5 x8 x9 x10:Option W}(H:qN t)(a:jm t=(K:Int))(h:gw A w)(hd:A[d]? =some (YY t K)):
  ∃y B,Tb [x0,x1,x2,some (zr t),x4,x5,some (.ref d),some w,x8,x9,x10] A=.ok (.nx [x0,x1,x2,some (zr t),x4,x5,some (.ref d),some w,y,x9,x10]) B/\Ext A B:=by
 obtain⟨B,e,x⟩:=ES (t:=t) (K:=K) (ρ:=[x0,x1,x2,some (zr t),x4,x5,some (.ref d),some w,x8,x9,x10]) h hd rfl rfl;refine⟨some (.bl (J1 t K w)),B,?_,x⟩;refine(zH (ρ1:=[x0,x1,x2,some (zr t),x4,x5,some (.ref d),some w,some (.bl (J1 t K w)),x9,x10]) ((qI e).trans rfl)).trans ?_;exact(zH ((yQ (wy (k:=true) ((qp (zX ((qp (zX (zu rfl) (zX (zu rfl) qy))).trans (Cs H a (h.mono x.ky))) (zX (zu rfl) qy))).trans (OF _ _)))).trans jF)).trans jF
def R4 (w:W):Prop:=∃r:bV,w=zQ r/\r.length=4
def iH (x:B4):R4 (bW x):=⟨bK x,rfl,rfl⟩
abbrev Mt:Ev:=qg (zV 1 [2,3] (qT (zo (.int 3))) (zG 0) (zo (.bl true)) (zM (mQ yW (zV 1 [1,2] (qT (zo (.int 4))) (zG 0) (zo (.bl true)) (zM (zF jQ (zc (zh 1) (zc (mQ qt (qb (zh 2))) zl))))))))
def iI (s:qU n A)(h0:ρ[i]? =some (some (.ref n)))(H:ρ[j]? =some (some (zr t)))(h:qN t):∃(r:Nat) (B:Hx),zF jQ (zc (zh i) (zc (mQ qt (qb (zh j))) zl)) ρ A=.ok (.int r) B/\Kn n A B:=by
 have:=h.n1
 have:=h.n8
 obtain⟨r,B,e,_,k,_⟩:=Nz s (m:=(t.length:Int)) (by omega) (by omega)
 exact⟨r,B,(qp (zX (zu h0) (zX (len_tab H) qy))).trans e,k⟩
def Ew {x0 x1:Option W}{l:En}(s:qU n A)(p:qN t):∃ws B,Mt (x0::x1::some (.ref n)::some (zr t)::l) A=.ok (.ref B.length) (B++[.lst ws])/\(∀w∈ws,R4 w)/\ws.length=3/\Kn n A B:=by
 obtain⟨d,acc,B,e,⟨y,H⟩,c,hw,kn⟩:=Js (nl:=1) (cap:=[2,3]) (mi:=qT (zo (.int 3))) (ρ:=x0::x1::some (.ref n)::some (zr t)::l) (A:=A) (A1:=A) (j:=yO 0 3) (tw:=zG 0) (ifs:=zo (.bl true)) (em:=zM (mQ yW (zV 1 [1,2] (qT (zo (.int 4))) (zG 0) (zo (.bl true)) (zM (zF jQ (zc (zh 1) (zc (mQ qt (qb (zh 2))) zl))))))) (N:=3)
  (I:=λi ρ acc B=>(∃y,ρ=[y,some (.ref n),some (zr t)])/\acc.length=i/\(∀w∈acc,R4 w)/\Kn n A B) (g9 qM (by decide)) rfl
  (λi ρ acc B g ⟨⟨y,H⟩,c,hw,kn⟩=>by
   subst H;obtain⟨d,o,x,e,⟨Y,H⟩,q,⟨r,f,b⟩,k⟩:=Js (nl:=1) (cap:=[1,2]) (mi:=qT (zo (.int 4))) (ρ:=[some (.int (0+(i:Int))),some (.ref n),some (zr t)]) (A:=B) (A1:=B) (j:=yO 0 4) (tw:=zG 0) (ifs:=zo (.bl true)) (em:=zM (zF jQ (zc (zh 1) (zc (mQ qt (qb (zh 2))) zl)))) (N:=4)
    (I:=λi ρ acc C=>(∃y,ρ=[y,some (.ref n),some (zr t)])/\acc.length=i/\(∃r:bV,acc=r.map W.int/\r.length=i)/\Kn n B C) (g9 qM (by decide)) rfl
    (λi ρ acc C g ⟨⟨y,H⟩,c,⟨r,f,b⟩,kn⟩=>by
     subst H;obtain⟨v,u,e,K⟩:=iI (ρ:=[some (.int (0+(i:Int))),some (.ref n),some (zr t)]) (i:=1) (j:=2) kn.st rfl rfl p;exact⟨_,_,wL g,rfl,.inl ⟨C,_,_,u,rfl,Ju e (by unfold zR;omega),⟨_,rfl⟩,by rw[ak,c];rfl,⟨r++[(v:Int)],by rw[f,aR];rfl,by rw[ak,b];rfl⟩,kn.trans K⟩⟩)
    (λρ acc C _=>wK (by omega)) ⟨⟨none,rfl⟩,rfl,⟨[],rfl,rfl⟩,⟨Kp.refl,kn.st⟩⟩
   subst f;refine⟨_,_,wL g,rfl,.inl ⟨B,_,_,x,rfl,Ju (JI e) (by unfold zR;omega),⟨_,rfl⟩,by rw[ak,c];rfl,λw a=>?_,kn.trans k⟩⟩
   rcases cE.mp a with a|a
   ·exact hw w a
   ·exact⟨r,cC.mp a,b⟩)
  (λρ acc B _=>wK (by omega)) ⟨⟨none,rfl⟩,rfl,λ_ h=>(by cases h),⟨Kp.refl,s⟩⟩
 exact⟨acc,B,kR e,hw,c,kn⟩
def OO {m:Ev}{pl pu:Po}{l u:cf}(h:m ρ A=.ok (.ref q) A)(b:pl ρ A=.ok l A)(a:pu ρ A=.ok u A)(H:A[q]? =some (.lst ws)):JK m pl pu ρ A=.ok (.ref A.length) (A++[.lst (yu ws l u)]):=by
 unfold JK;rw[h,zP,b,zP,a,zP];dsimp only;rw[H]
abbrev Mm:Ev:=zi zY (zi zY (JK (zh 4) jL (jD (zo (.int 1)))) (JK (zh 4) (jD (jn wF (zo (.int 1)))) jL)) Mt
def FI {x0 x1:Option W}{l:En}(s:qU n A)(J:qN t)(j:A[q]? =some (.lst ws))(hw:∀w∈ws,R4 w)(K:ws.length<=5000)(hn:n≠q):
  ∃r B vs,Mm (x0::x1::some (.ref n)::some (zr t)::some (.ref q)::l) A=.ok (.ref r) B/\B[r]? =some (.lst vs)/\(∀w∈vs,R4 w)/\vs.length<=10010/\Kn n A B/\r≠n:=by
 generalize a:(x0::x1::some (.ref n)::some (zr t)::some (.ref q)::l:En)=ρ;have v:∀A,zh 4 ρ A=.ok (.ref q) A:=λA=>by subst a;rfl
 have i:=OO (ρ:=ρ) (pl:=jL) (pu:=jD (zo (.int 1))) (l:=none) (u:=some 1) (v A) rfl rfl j;have I:=Jz (xs:=ws) (l:=none) (u:=some 1);have m1:∀w∈yu ws none (some 1),R4 w:=λw h=>hw w (ZL h);generalize yu ws none (some 1)=c at i I m1;have x:Ext A (A++[.lst c]):=Ext.one;have p:(A++[O.lst c])[A.length]? =some (.lst c):=qF;have L:=s.lt;generalize d:A++[.lst c]=A1 at i x p;have z:=OO (ρ:=ρ) (pl:=jD (jn wF (zo (.int 1)))) (pu:=jL) (l:=some (-1)) (u:=none) (v A1) rfl rfl (x.at j);have Z:=Jz (xs:=ws) (l:=some (-1)) (u:=none);have m2:∀w∈yu ws (some (-1)) none,R4 w:=λw h=>hw w (ZL h);generalize yu ws (some (-1)) none=C at z Z m2;have E:=(zL (g:=zY) i z).trans (QK (jS p) qF (by unfold zR;omega))
 have x3:Ext A1 (A1++[.lst C]++[.lst (c++C)]):=Ext.one.app;have f:(A1++[O.lst C]++[O.lst (c++C)])[(A1++[O.lst C]).length]? =some (.lst (c++C)):=qF;have o:A.length<A1.length:=by rw[<- d];simp
 have b:(A1++[O.lst C]).length≠n:=by rw[ak];omega
 generalize (A1++[O.lst C]).length=Q at E f b;generalize A1++[O.lst C]++[O.lst (c++C)]=M at E x3 f;have s3:=s.ext (x.trans x3);obtain⟨ds,D,y,hd,ld,k⟩:=Ew (x0:=x0) (x1:=x1) (l:=some (.ref q)::l) s3 J;have e:=k.kp.get f b;rw[a]at y;have x5:Ext D (D++[.lst ds]++[.lst (c++C++ds)]):=Ext.one.app;have hlen:=k.st.lt;refine⟨_,_,c++C++ds,(zL (g:=zY) E y).trans (QK (jS e) qF (by rw[ak];unfold zR;omega)),qF,λw H=>?_,by rw[ak,ak];omega,((Kn.ext s (x.trans x3)).trans k).trans (Kn.ext k.st x5),by rw[ak];omega⟩
 rcases cE.mp H with H|H
 ·rcases cE.mp H with H|H
  ·exact m1 w H
  ·exact m2 w H
 ·exact hd w H
abbrev Ms:Ev:=zi zY (zh 5) (qg (zV 1 [2,3] (qh (zh 5)) (zG 0) (zo (.bl true)) (zM (zF QI (zc (zh 1) (zc (zh 0) (zc (mQ qt (qb (zh 2))) zl)))))))
def Di {x0 x1 x4:Option W}{l:En}{r:Nat}(s:qU n A)(E:qN t)(d:A[r]? =some (.lst vs))(o:∀w∈vs,R4 w)(K:vs.length<=10010)(hn:r≠n):
  ∃q B us,Ms (x0::x1::some (.ref n)::some (zr t)::x4::some (.ref r)::l) A=.ok (.ref q) B/\B[q]? =some (.lst us)/\(∀w∈us,gw B w)/\Kn n A B:=by
 have n8:=E.n8;generalize a:(x0::x1::some (.ref n)::some (zr t)::x4::some (.ref r)::l:En)=ρ;have u:∀A,zh 5 ρ A=.ok (.ref r) A:=λA=>by subst a;rfl
 obtain⟨D,acc,B,e,⟨y,j⟩,b,hw,kn⟩:=Js (nl:=1) (cap:=[2,3]) (mi:=qh (zh 5)) (ρ:=ρ) (A:=A) (A1:=A) (tw:=zG 0) (ifs:=zo (.bl true)) (em:=zM (zF QI (zc (zh 1) (zc (zh 0) (zc (mQ qt (qb (zh 2))) zl))))) (N:=vs.length)
  (I:=λi ρ acc B=>(∃y,ρ=[y,some (.ref n),some (zr t)])/\acc.length=i/\(∀w∈acc,gw B w)/\Kn n A B) (JA (u A) d) rfl
  (λi ρ acc B p ⟨⟨y,a⟩,b,hw,kn⟩=>by
   subst a;obtain⟨v,f,C⟩:=o _ (aO p);obtain⟨w,J,e,H,k⟩:=iA (N:=t.length) kn.st C n8;refine⟨zQ v,_,GB (kn.kp.get d hn) (by rw[aa p,f]),rfl,.inl ⟨B,_,_,J,rfl,Ju ((qp (ws:=[.ref n,zQ v,.int (t.length:Int)]) (zX (zu rfl) (zX (zu rfl) (zX (len_tab rfl) qy)))).trans e) (by unfold zR;omega),⟨_,rfl⟩,by rw[ak,b];rfl,λz c=>?_,kn.trans k⟩⟩
   rcases cE.mp c with c|c
   ·exact(hw z c).mono (k.ky kn.st)
   ·rw[cC.mp c];exact H)
  (λρ acc B ⟨_,_,_,kn⟩=>GD (kn.kp.get d hn) (av _)) ⟨by subst a;exact⟨none,rfl⟩,rfl,λ_ h=>(by cases h),⟨Kp.refl,s⟩⟩
 have g:=kn.kp.get d hn;have x:Ext B (B++[.lst acc]++[.lst (vs++acc)]):=Ext.one.app;refine⟨_,_,vs++acc,(zL (u A) (kR e)).trans (QK (jS g) qF (by rw[b];unfold zR;omega)),qF,λw H=>?_,kn.trans (Kn.ext kn.st x)⟩
 rcases cE.mp H with H|H
 ·obtain⟨v,rfl,C⟩:=o w H
  exact iz (by omega)
 ·exact(hw w H).mono x.ky
end
section
variable {K N d q:Nat}{w x y bad:W}{vs:List W}{Pt:Addr}{PF:yi}
def VW (h:t.length<=8):(yd t K).length<=4096:=by
 have a:=R8 (t:=t) (K:=K) (l:=qz t.length) h;have H:=OL (t:=t) h;unfold yd;omega
def OI (H:A[q]? =some (.lst ((yd t K).map bW)))(a:ρ[i]? =some (some (.ref q))):zi qL (zh i) (zU zl) ρ A=.ok (.bl (yd t K).isEmpty) (A++[.lst []]):=by
 refine(zL (zu a) (jM qy)).trans ((O2 (jS H) (Km (g:=bW) (h:=λx=>JW (bK x)) (λx=>OH _ 6 (bK x)) _) (by simp) qF).trans ?_)
 rw[List.isEmpty_map]
abbrev Mp:Ev:=jn gK (qg (zV 1 [] (qh (zh 4)) (zG 0) (zo (.bl true)) (zM (zE (zc (zh 0) (zc (zo (.bl true)) zl))))))
def Dt (a:t.length<=8)(h:A[q]? =some (.lst ((yd t K).map bW)))(H:ρ[4]? =some (some (.ref q))):∃B,Mp ρ A=.ok (.ref B.length) (B++[YY t K])/\Ext A B:=by
 have l:=VW (t:=t) (K:=K) a;have e:=Jv (cap:=[]) (ρ:=ρ) (A:=A) (m:=zh 4) (me:=zE (zc (zh 0) (zc (zo (.bl true)) zl))) (g:=λw=>.tup [w,.bl true]) (zu H) h (by rw[ah];unfold zR;omega) (λw hw=>Jx (zX (zu rfl) (zX qM qy)))
 rw[aL]at e;refine⟨_,(Nb (g:=gK) (kR e)).trans (P7 qF (Vb (kk:=bW) (f:=λ_=>.bl true) (ks:=bK) (λx=>W3 (bK x)) _) (by rw[ah];unfold zR;omega)),Ext.one⟩
abbrev BL (Pt:Addr)(PF:yi):Ex:=zq (zW 2 (zF Yc (zc (zh 0) (zc (zh 1) zl)))) (zq (zW 3 (zF Jn (zc (zh 2) zl))) (zq (zW 4 (zF Yb (zc (zh 3) zl))) (zq (qZ (gE (yc (zF kP (zc (zF Jo (zc (zh 3) zl)) (zc (zi qL (zh 4) (zU zl)) zl)))) (zi jf (zF Jj (zc (zh 3) zl)) (zi qL (zh 4) (zU zl)))) gX zC) (zq (qZ (yc (zF kP (zc (zF Jl (zc (zh 3) zl)) (zc (zi zy (zi zY (zh 4) (zU (zc gy zl))) (zo (.int 0))) zl)))) gX zC) (zq (zW 5 Mm) (zq (zW 6 Mp) (zq (jK (qh Ms) (zG 7) Tb) (zq (zW 9 (zF Jf (zc (zh 2) zl))) (MO Pt PF)))))))))
def iJ (h:A[q]? =some (.lst ((yd t K).map bW)))(b:t.length<=8)(H:ρ[4]? =some (some (.ref q))):∃B,zi zy (zi zY (zh 4) (zU (zc gy zl))) (zo (.int 0)) ρ A=.ok (YW (yd t K).head?) B/\Ext A B:=by
 have c:=VW (t:=t) (K:=K) b;have e:=(zL (g:=zY) (zu (A:=A) H) (jM (ws:=[.non]) (A1:=A) (a:=zc gy zl) rfl)).trans (QK (jS h) qF (by rw[ah];simp;unfold zR;omega))
 refine⟨_,(zL e qM).trans (wJ (s:=0) qF ?_),Ext.one.app⟩;cases yd t K with
 |nil=>rfl|cons x l=>rfl
def Bj {x2 x3 x4 x5 x6 x7 x8 x9 x10:Option W}(h0:A[0]? =some (.ro (ns.map W.int)))(h1:A[1]? =some (.tab jV Pt)):∃y2 y3 y4 y5 y6 a Y y9 b B,BL Pt PF [some (.ref 0),some (.int (k:Int)),x2,x3,x4,x5,x6,x7,x8,x9,x10] A=.ok (.nx [some (.ref 0),some (.int (k:Int)),y2,y3,y4,y5,y6,a,Y,y9,b]) B/\B[0]? =some (.ro (ns.map W.int))/\B[1]? =some (.tab jV Pt):=by
 obtain⟨o,eS,hS⟩:=BO h0 k;have hA:=Za h1;have a0:=jS (u:=o) h0;have a1:=jS (u:=o) h1;generalize hn:A.length=n at*;generalize A++[o]=A1 at*;obtain⟨t,A2,e2,h,k2⟩:=ia hS;have n8:=h.n8;have kb:=Q2 h;obtain⟨K,S⟩:=aU (show 0<=jm t by omega)
 have hbl:=VW (t:=t) (K:=K) n8;have e3:=EJ h S A2;have s:(A2++[O.lst ((yd t K).map bW)])[A2.length]? =some (.lst ((yd t K).map bW)):=qF;have J:Ext A2 (A2++[.lst ((yd t K).map bW)]):=Ext.one;have hq2:=k2.st.lt;have g:A2.length≠n:=by omega
 generalize A2.length=q at e3 s g;generalize A2++[.lst ((yd t K).map bW)]=z at e3 s J;have k3:=k2.trans (Kn.ext k2.st J);have e4:=OI (ρ:=[some (.ref 0),some (.int (k:Int)),some (.ref n),some (zr t),some (.ref q),x5,x6,x7,x8,x9,x10]) (i:=4) s rfl;have X:Ext z (z++[.lst []]):=Ext.one;generalize z++[.lst []]=T at e4 X;have e5:=OI (ρ:=[some (.ref 0),some (.int (k:Int)),some (.ref n),some (zr t),some (.ref q),x5,x6,x7,x8,x9,x10]) (i:=4) (X.at s) rfl;have c:Ext T (T++[.lst []]):=Ext.one;generalize T++[.lst []]=A5 at e5 c;have c1:gE (yc (zF kP (zc (zF Jo (zc (zh 3) zl)) (zc (zi qL (zh 4) (zU zl)) zl)))) (zi jf (zF Jj (zc (zh 3) zl)) (zi qL (zh 4) (zU zl))) [some (.ref 0),some (.int (k:Int)),some (.ref n),some (zr t),some (.ref q),x5,x6,x7,x8,x9,x10] z=.ok (.bl false) A5:=by
  refine(GL (A1:=T) (wy (k:=true) ((qp (zX ((qp (zX (zu rfl) qy)).trans (ij h S z)) (zX e4 qy))).trans (OF _ _)))).trans ?_;exact(zL ((qp (zX (zu rfl) qy)).trans (F7 h S T)) e5).trans ((Te _ _ _).trans (by rw[bp];rfl))
 obtain⟨A6,e6,Z⟩:=iJ (t:=t) (K:=K) (ρ:=[some (.ref 0),some (.int (k:Int)),some (.ref n),some (zr t),some (.ref q),x5,x6,x7,x8,x9,x10]) ((X.trans c).at s) n8 rfl;have c2:yc (zF kP (zc (zF Jl (zc (zh 3) zl)) (zc (zi zy (zi zY (zh 4) (zU (zc gy zl))) (zo (.int 0))) zl))) [some (.ref 0),some (.int (k:Int)),some (.ref n),some (zr t),some (.ref q),x5,x6,x7,x8,x9,x10] A5=.ok (.bl false) A6:=
  wy (k:=true) ((qp (zX ((qp (zX (zu rfl) qy)).trans (Dc h S A5)) (zX e6 qy))).trans (Ak _ _))
 have f:=(X.trans c).trans Z;have k6:=k3.trans (Kn.ext k3.st f);obtain⟨r,A7,vs,e7,hr,hv,lv,U,hrn⟩:=FI (x0:=some (.ref 0)) (x1:=some (.int (k:Int))) (l:=[x5,x6,x7,x8,x9,x10]) k6.st h (f.at s) (λw hw=>by obtain⟨x,_,rfl⟩:=cy.mp hw;exact iH x) (by rw[ah];omega) (Ne.symm g)
 obtain⟨v,e8,E⟩:=Dt (t:=t) (K:=K) (ρ:=[some (.ref 0),some (.int (k:Int)),some (.ref n),some (zr t),some (.ref q),some (.ref r),x6,x7,x8,x9,x10]) n8 (U.kp.get (f.at s) g) rfl;have C:Ext v (v++[YY t K]):=Ext.one;have hd:(v++[YY t K])[v.length]? =some (YY t K):=qF;have h8n:=(U.st.ext E).lt;have Q:v.length≠n:=by omega
 generalize v.length=d at e8 hd Q;generalize v++[YY t K]=A9 at e8 C hd;have D:=E.trans C;have k9:=(k6.trans U).trans (Kn.ext U.st D);obtain⟨p,B0,us,eB,hp,hu,kB⟩:=Di (x0:=some (.ref 0)) (x1:=some (.int (k:Int))) (x4:=some (.ref q)) (l:=[some (.ref d),x7,x8,x9,x10]) k9.st h (D.at hr) hv lv hrn;have P:=k9.trans kB;have hd2:=kB.kp.get hd Q;obtain⟨ρ',B1,eF,x,a,Y,H⟩:=gi (j:=⟨λA i=>(zT (.ref p) A).map λws=>ws[i]?,us.length⟩) (st:=turn (zG 7) Tb) (N:=us.length) (I:=λ_ ρ B=>Ext B0 B/\∃a Y,ρ=[some (.ref 0),some (.int (k:Int)),some (.ref n),some (zr t),some (.ref q),some (.ref r),some (.ref d),a,Y,x9,x10])
  (λi ρ B hi ⟨x,a,Y,H⟩=>by
   subst H;obtain⟨y,B',e,x'⟩:=DC (x0:=some (.ref 0)) (x1:=some (.int (k:Int))) (x2:=some (.ref n)) (x4:=some (.ref q)) (x5:=some (.ref r)) (x8:=Y) (x9:=x9) (x10:=x10) h S ((hu _ (aO hi)).mono x.ky) (x.at hd2);exact⟨us[i],_,B',GB (x.at hp) (aa hi),(kK rfl).trans e,x.trans x',_,_,rfl⟩)
  (λρ B ⟨x,_⟩=>GD (x.at hp) (av _)) us.length 0 [some (.ref 0),some (.int (k:Int)),some (.ref n),some (zr t),some (.ref q),some (.ref r),some (.ref d),x7,x8,x9,x10] B0 (by omega) ⟨Ext.refl,_,_,rfl⟩
 subst H;have M:=P.trans (Kn.ext P.st x);obtain⟨bad,B2,eb,hb,kb2⟩:=hJ M.st;have L:=M.trans kb2;have b1:=L.kp.get a1 (by omega)
 have b0:=L.kp.get a0 (by omega)
 obtain⟨b,B3,ec,xc⟩:=DP (PF:=PF) (x0:=some (.ref 0)) (x1:=some (.int (k:Int))) (x2:=some (.ref n)) (x3:=some (zr t)) (x4:=some (.ref q)) (x5:=some (.ref r)) (x6:=some (.ref d)) (x7:=a) (x8:=Y) (x10:=x10) b1 hb;refine⟨some (.ref n),some (zr t),some (.ref q),some (.ref r),some (.ref d),a,Y,some bad,b,B3,?_,xc.at b0,xc.at b1⟩;refine(zH (ρ1:=[some (.ref 0),some (.int (k:Int)),some (.ref n),x3,x4,x5,x6,x7,x8,x9,x10]) (A1:=A1) ((qI ((qp (ws:=[.ref 0,.int k]) (A1:=A) rfl).trans eS)).trans rfl)).trans ?_;refine(zH (ρ1:=[some (.ref 0),some (.int (k:Int)),some (.ref n),some (zr t),x4,x5,x6,x7,x8,x9,x10]) (A1:=A2) ((qI ((qp (ws:=[.ref n]) (A1:=A1) rfl).trans e2)).trans rfl)).trans ?_;refine(zH (ρ1:=[some (.ref 0),some (.int (k:Int)),some (.ref n),some (zr t),some (.ref q),x5,x6,x7,x8,x9,x10]) (A1:=z) ((qI ((qp (ws:=[zr t]) (A1:=A2) rfl).trans e3)).trans rfl)).trans ?_;refine(zH ((yQ c1).trans jF)).trans ?_;refine(zH ((yQ c2).trans jF)).trans ?_;refine(zH (ρ1:=[some (.ref 0),some (.int (k:Int)),some (.ref n),some (zr t),some (.ref q),some (.ref r),x6,x7,x8,x9,x10]) (A1:=A7) ((qI e7).trans rfl)).trans ?_;refine(zH (ρ1:=[some (.ref 0),some (.int (k:Int)),some (.ref n),some (zr t),some (.ref q),some (.ref r),some (.ref d),x7,x8,x9,x10]) (A1:=A9) ((qI e8).trans rfl)).trans ?_;refine(zH ((kA (JA eB hp)).trans eF)).trans ?_;refine(zH (ρ1:=[some (.ref 0),some (.int (k:Int)),some (.ref n),some (zr t),some (.ref q),some (.ref r),some (.ref d),a,Y,some bad,x10]) (A1:=B2) ((qI ((qp (zX (zu rfl) qy)).trans eb)).trans rfl)).trans ?_;exact ec
end
def UK (Pt:Addr)(PF:yi):Fn:=je 11 (UL Jf QI Yb kP Yc Jj Jn jQ Z4 Jl Zy Jo gc gh gf RF Pt PF)
def D1:NH jV UK:=λns M Pt PF=>by
 have s:zT (.ref 0) [.ro (ns.map W.int),.tab jV Pt]=some (ns.map W.int):=rfl;have E:mQ qt (qb (zh 0)) [some (.ref 0),none,none,none,none,none,none,none,none,none,none] [.ro (ns.map W.int),.tab jV Pt]=.ok (.int ns.length) [.ro (ns.map W.int),.tab jV Pt]:=by
  rw[yK (kS (w:=.ref 0) (A1:=[.ro (ns.map W.int),.tab jV Pt]) (zu rfl) s)];unfold qt;rw[ah]
 have em:zi Ux (zo (.int 1)) (zi Q4 (mQ qt (qb (zh 0))) (zo (.int 5))) [some (.ref 0),none,none,none,none,none,none,none,none,none,none] [.ro (ns.map W.int),.tab jV Pt]=
   .ok (.int (if (if (5:Int)<ns.length then 5 else(ns.length:Int)) > 1 then(if (5:Int)<ns.length then 5 else(ns.length:Int)) else 1)) [.ro (ns.map W.int),.tab jV Pt]:=
  (zL (qM (w:=.int 1)) ((zL E (qM (w:=.int 5))).trans rfl)).trans rfl
 generalize q:(if (if (5:Int)<ns.length then 5 else(ns.length:Int)) > 1 then(if (5:Int)<ns.length then 5 else(ns.length:Int)) else 1)=v at em;have H:yg v=true:=by
  have:0<=v/\v<1000:=by
   rw[<- q]
   split<;>split<;>omega
  obtain⟨k,rfl⟩:=aU this.1;exact Ry (by omega)
 obtain⟨p,B,e,_⟩:=gi (j:=yO 0 v.toNat) (st:=turn (zG 1) (BL Pt PF)) (N:=v.toNat) (I:=λ_ ρ B=>B[0]? =some (.ro (ns.map W.int))/\B[1]? =some (.tab jV Pt)/\∃o g f y4 d c b a Y y,ρ=[some (.ref 0),o,g,f,y4,d,c,b,a,Y,y])
  (λi ρ B r ⟨h0,t,o,g,f,y4,d,c,b,a,Y,y,h⟩=>by
   subst h;obtain⟨L,K,J,D,C,A,x,Z,z,u,e,n,l⟩:=Bj (PF:=PF) (k:=i) (x2:=g) (x3:=f) (x4:=y4) (x5:=d) (x6:=c) (x7:=b) (x8:=a) (x9:=Y) (x10:=y) h0 t;refine⟨_,_,u,wL r,(kK (ρ1:=[some (.ref 0),some (.int (i:Int)),g,f,y4,d,c,b,a,Y,y]) ?_).trans e,n,l,_,_,_,_,_,_,_,_,_,_,rfl⟩;rw[bE];rfl)
  (λρ B _=>wK (by omega)) v.toNat 0 [some (.ref 0),none,none,none,none,none,none,none,none,none,none] [.ro (ns.map W.int),.tab jV Pt] (by omega) ⟨rfl,rfl,_,_,_,_,_,_,_,_,_,_,rfl⟩
 refine⟨B,qQ ?_⟩;unfold UL;exact(zH ((kA (g9 em H)).trans e)).trans (qv (qV qM))
section
variable {K:Frag}
def Lk (Z:Zz K h mg){PG:yi}{lam:Nat->Fn}(H:∀k,Q6 P w K mg base 7 (PG k) (lam k)):zS P w K mg base 8 "_law_refused" 1 ((je 4 (Y7 PG lam))):=by
 obtain⟨f,fd,F,a⟩:=Z.T.LF;exact(LA (k:=7) Z.B Z.C Z.T.zcg F (a7 Z.X Z.G a) (av _) H)
def AW (Z:Zz K h mg){Pt:Addr}(F:w6 K "law" "law" JM f fd)(hn:nsIn K mainGlobals "law"=some (some (.ref f)))(H:tabIn K "law"=some (c,Pt))(a:BMain mg base)(C:CodeHd base c Pt):km P w K mg base gU 9 f fd ["_law_script"] (spT K 1 (UK Pt)):=
 o_law (k:=8) (j:=6) (kk:=8) Z.B F hn H a C (Lc Z).up (IK Z).up (LX Z).up (I9 Z).up (Ig Z).up (LV Z).up (Ih Z).up (kx Z).up (IA Z).up (LK Z).up (HG Z).up (IL Z).up (by decide)
  (gV (k:=6) Z.B (λbase=>(T8 Z).up) (λbase=>(Rz Z).up) (λbase=>(S8 Z).up)) (λbase PG L=>(Lk Z L).imp λus A _=>As us A)
def all_mk {l:PySem.W.OpenLaw}{i Pt:Addr}(X:K.In h)(Gl:h.Ns mainGlobals mg)(b:mg "law"=some (.ref i))(T:Tx K)(H:∃c,tabIn K "law"=some (c,Pt)/\codeHdIn K c Pt=true):
  ∃fd:FuncData,(∀(s:Shared)(v:Value),BindsTo s fd ⟨[v],[]⟩ [("_law_script",v)])/\∀base:Heap,K.In base->base.Ns mainGlobals mg->BMain mg base->km l.prog w K mg base gU 9 i fd ["_law_script"] (spT K 1 (UK Pt)):=by
 obtain⟨c,H,d⟩:=H;obtain⟨f,fd,F,a⟩:=T.zck;have e:=b.symm.trans (a7 X Gl a);cases e;obtain⟨n,j,kV,doc,pm,an,C,ct,o,rfl,lk,g⟩:=id F.ex;exact⟨_,λs v=>.of_eq rfl,λbase k nb B=>AW (zz X Gl T) F a H B (codeHd_of_K k d)⟩
end
end G
namespace PySem.W.Fast
def tw11868819964343438896:Nat:=0
def tw7844834447129313384:Nat:=0
def tw2503192808453925874:Nat:=0
def tw3786562584155095039:Nat:=0
def tw18430782136387208319:Nat:=0
def tw3247170486852327740:Nat:=0
def tw14811245069884589708:Nat:=0
def tw15970588396103737317:Nat:=0
def tw8045629631020724949:Nat:=0
def tw4757451185862034262:Nat:=0
def tw2802328889215878579:Nat:=0
def tw4469361009217066341:Nat:=0
def tw11782714222841444414:Nat:=0
def tw13345403692429072118:Nat:=0
def tw10217845465091595019:Nat:=0
def tw15109738916548849327:Nat:=0
def tw7229768831047976639:Nat:=0
def tw15658596861425938115:Nat:=0
def tw12874006124902520537:Nat:=0
def tw6052872185604693679:Nat:=0
def tw9858313920491508303:Nat:=0
def tw5195822881951292635:Nat:=0
def tw15638711318279666738:Nat:=0
def tw17342711974619349519:Nat:=0
def tw1309949063245184971:Nat:=0
def tw11212339039532114662:Nat:=0
def tw16263272278164735385:Nat:=0
def tw15884414403931880546:Nat:=0
def tw9979713431982435701:Nat:=0
def tw12274759993212413057:Nat:=0
def tw13823935183468488124:Nat:=0
def tw10676428850723958744:Nat:=0
def tw1683536184085764381:Nat:=0
def tw10474307033727220033:Nat:=0
def tw6033739837008820669:Nat:=0
def tw8873212814146663377:Nat:=0
def tw4207263233850652853:Nat:=0
def tw1307729305859799758:Nat:=0
def tw3547935116626830043:Nat:=0
def tw14824879093246535059:Nat:=0
def tw9195919763073275079:Nat:=0
def tw17772743774135171059:Nat:=0
end PySem.W.Fast
open PySem PySem.W PyProof.Rows
set_option maxRecDepth 100000 in
set_option maxHeartbeats 0 in
theorem PySem.Challenge.cw_nearkinds_k03_steady_or_broken_holds : PySem.Challenge.rw_nearkinds_k03_steady_or_broken.Holds := by
 w_on;o_law;k_head;(case hw=>w_witness2)
 k_fill
 refine' Mi.zcc (l:=PySem.Challenge.rw_nearkinds_k03_steady_or_broken) (k:=9) (x := "_law_script") G.D1 rfl rfl ⟨rfl,by decide,by decide⟩ (λw h Y=>PySem.W.km_in_of Y) (λw h Y=>PySem.W.km_tabs_of Y _ (ay ..)) ?ht ?hKP ?F
 case ht=>exact λp=>by kernel_rfl
 case hKP=>exact λp=>by kernel_rfl
 case F=>
  intro w mg fa h KX Gl hmg ht;have T:G.Tx (L2.Mw KX):=by
   dsimp only [L2.Mw]
   apply G.Tx.mk<;>first | (refine' Mi.zch ?a ?l ?c ?k;(case a=>k_is);(case l=>k_is);(case c=>k_is);(case k=>k_is)) | (refine' Mi.zbC ?a;(case a=>k_is)) | k_is|kernel_rfl
  exact G.all_mk KX Gl hmg T ht
