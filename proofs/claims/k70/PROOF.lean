import PyProof.Rows.All
import Wide.All
import OpenK.AllK
import Wide.FinOn
import Lean
import PyProof.EqAt
import PyProof.EqKinds
import PyProof.TupleCall
import OpenK.KOwn
import PyProof.Rows.FStr
import PyProof.FString
import PyProof.NsDelKeeps
import KE.KIsAll
import PyProof.ExcArgs
import KE.KLam
import KE.KNestM
import PyProof.Rows.SetFrom
import PyProof.ListMulRoad
import PyProof.FactsAll.set_1
import PyProof.FactsAll.set_2
import PyProof.CollectIter
import PyProof.TupleIter
import PyProof.CollectWalk
import PyProof.Rows.SortShell
import PyProof.SumAny
import PyProof.ListOps
import KE.KDictList
import PyProof.NoPylong
import KE.KUnpack
import KE.KSortTup
import KE.KIntText
import PyProof.Rows.TupDisplay
import PyProof.AttrMiss
import PyProof.IsiH_list
import KE.KDictOf
import PyProof.ReprRoads
import PyProof.CallFns
import PyProof.ReprLen
import PySem.Challenge.RW_nearkinds_k70_kinds_made_one
noncomputable section
open PySem.W (Frag)
open List (all_map drop_length drop_zero ext_getElem? filter_append find?_cons flatMap_cons foldl_append forIn_cons forIn_nil length_filter_le length_reverse map_id map_nil mem_cons mem_filter mem_of_getElem? mem_range nil_append nodup_cons not_mem_nil of_mem_zip range'_succ range_eq_range' range_succ reverse_cons sum_cons take_sublist zipIdx_cons)
open Nat (add_comm add_mul le_add_right le_succ lt_or_ge lt_trans)
open Int (emod_nonneg zero_add)
open Option (any_eq_true getD_none getD_some isSome_some)
open PySem.W (CodeHd callWith_K cellsFrom_some codeHdIn codeHd_of_K codeIn envX fnOf hideAll hideAll_none hideAll_size instObj keepIn kitAny kitOne kitx_bool kitx_dict kitx_float kitx_int kitx_list kitx_none kitx_str kitx_tuple kla_fn kla_obj lookIn methodObj mg_of nsIn of_hideAll plainGet tabIn tabObj)
open PySem.F (args_tuple_add_2 entry_tuple_add plain_sum_loop slot_set_iter slot_tuple_add)
abbrev aa:=@List.getElem?_eq_getElem
abbrev ae:=@List.getD_eq_getElem?_getD
abbrev af:=@PySem.Heap.get?_push_of_some
abbrev ag:=@List.length_map
abbrev ah:=@if_pos
abbrev ai:=@if_neg
abbrev aj:=@List.length_append
abbrev ak:=@List.mem_cons_of_mem
abbrev ao:=@decide_eq_true_iff
abbrev aq:=@List.mem_cons_self
abbrev ar:=@Nat.le_refl
abbrev au:=@List.getElem?_append_left
abbrev av:=@Bool.and_eq_true
abbrev aw:=@PySem.Heap.get?_push_size
abbrev ax:=@List.getElem?_map
abbrev ay:=@List.getElem?_append_right
abbrev az:=@List.size_toArray
abbrev aA:=@Bool.false_ne_true
abbrev aB:=@Option.some.inj
abbrev aC:=@List.getElem?_set_self
abbrev aD:=@decide_eq_false
abbrev aE:=@decide_eq_true
abbrev aF:=@Nat.lt_of_lt_of_le
abbrev aG:=@PySem.Heap.lt_size
abbrev aH:=@List.getElem?_eq_none
abbrev aI:=@List.getElem?_set_ne
abbrev aJ:=@Nat.ne_of_lt
abbrev aK:=@List.map_cons
abbrev aL:=@List.length_cons
abbrev aM:=@beq_iff_eq
abbrev aN:=@List.getElem_mem
abbrev aO:=@List.flatten_cons
abbrev aP:=@Int.toNat_natCast
abbrev aQ:=@Array.length_toList
abbrev aR:=@List.append_assoc
abbrev aS:=@PySem.Heap.get?_update_other
abbrev aT:=@List.length_replicate
abbrev aU:=@List.map_map
abbrev aV:=@Nat.lt_irrefl
abbrev aW:=@List.map_append
abbrev aX:=@PySem.W.mg_none_of
abbrev aY:=@List.mem_append_right
abbrev aZ:=@Nat.lt_succ_of_lt
abbrev a3:=@Nat.le_trans
abbrev a5:=@List.length_range
abbrev a6:=@List.length_set
abbrev a7:=@List.getElem?_replicate
abbrev a8:=@Bool.false_eq_true
abbrev a9:=@List.getElem?_range
abbrev ba:=@PySem.Heap.get?_update_self
abbrev bb:=@Int.eq_ofNat_of_zero_le
abbrev bc:=@PySem.Heap.size_push
abbrev bf:=@List.map_congr_left
abbrev bg:=@List.length_nil
abbrev bh:=@List.replicate_succ
abbrev bj:=@List.filterMap_cons
abbrev bo:=@Nat.lt_succ_self
abbrev bp:=@List.length_take
abbrev bq:=@List.ext_getElem
abbrev br:=@Nat.ne_of_gt
abbrev bt:=@beq_self_eq_true
abbrev bw:=@List.getElem_of_mem
abbrev bx:=@List.append_nil
abbrev bz:=@List.all_eq_true
abbrev bA:=@List.length_singleton
abbrev bB:=@Nat.le_of_lt
abbrev bC:=@Array.getElem?_toList
abbrev bD:=@List.take_length
abbrev bE:=@List.lookup_cons
abbrev bF:=@PySem.W.kia_one
abbrev bG:=@Nat.zero_le
abbrev bH:=@List.foldl_cons
abbrev bI:=@List.length_drop
abbrev bJ:=@List.any_cons
abbrev bK:=@Int.toNat_of_nonneg
abbrev bL:=@PySem.W.hideAll_get
abbrev bM:=@List.pairwise_map
abbrev bN:=@Int.emod_lt_of_pos
abbrev bO:=@Bool.or_eq_true
abbrev bP:=@List.all_append
abbrev bQ:=List (List Int)
abbrev bR:=List Int
abbrev bS:=List PySem.Value
abbrev bT:=List PySem.Addr
abbrev bU:=List (PySem.Addr×PySem.Obj)
abbrev bV:=List Nat
abbrev bW:=List PySem.Str
abbrev bX:=PySem.Value->PySem.Shared->Prop
abbrev bY:=List PySem.Expr
abbrev bZ:=Option Int
abbrev b8:=PySem.Str->Option PySem.Value
abbrev b9:=List PySem.Env
abbrev cb:=List (PySem.Str×PySem.Addr)
abbrev cc:=List PySem.Keyword
abbrev cf:=Option PySem.Addr
abbrev cg:=List PySem.Stmt
abbrev ck:=@PySem.wpAny_bind
abbrev cm:=@PySem.wpAny_pure
abbrev cu:=@List.getElem?_eq_some_iff
abbrev cn:=@List.mem_cons
abbrev cy:=@List.all_eq_true
abbrev cw:=@List.mem_range
abbrev cq:=@List.mem_map
abbrev cx:=@List.mem_singleton
abbrev cz:=@List.mem_append
set_option Elab.async false
set_option linter.all false
set_option maxRecDepth 1000000
set_option maxHeartbeats 4000000
variable {XP:(PySem.Str->Option PySem.Value)->PySem.Heap->Prop}{D Pt a b c f it:PySem.Addr}{lQ:Array (Option PySem.Value)}{items:Array PySem.Value}{l8:Bool}{op:PySem.CmpOp}{env:PySem.Env}{e tg:PySem.Expr}{fd:PySem.FuncData}{base h h':PySem.Heap}{l0:List (PySem.Addr×PySem.Obj)}{es:List (Int×PySem.Value)}{ks t:bQ}{lK:List (PySem.Str×PySem.Addr)}{fp φ:List PySem.Addr}{gens:List PySem.Comprehension}{lN ifs:List PySem.Expr}{l ns:bR}{cap vs:bV}{ds:List PySem.PyData}{body:List PySem.Stmt}{N ps:List PySem.Str}{l6 us:List PySem.Value}{M:PySem.Model}{i j kk n t':Nat}{μ:Nat->Nat->Int}{p pos l7:PySem.Pos}{P:PySem.Program}{sc scope:PySem.Scope}{s s':PySem.Shared}{qual x:PySem.Str}{mg:PySem.Str->Option PySem.Value}{α:Type}{u:PySem.Value}{E Q:PySem.Value->PySem.Shared->Prop}{w:PySem.World}
namespace L2
open PySem PySem.Spec PyProof.Rows
noncomputable abbrev Key:=Sum Int Str
noncomputable def Jn:Key->Value->Bool
 |.inl k,v=>Value.isInt k v|.inr x,v=>Value.isStrOf x v
noncomputable def cA (w:World):Key->Int
 |.inl k=>hashInt k|.inr x=>hashStr w x
theorem Zd:∀{k:Key}{v:Value},Jn k v=true->(∃i t,k=Sum.inl i/\v=Value.int i t)∨(∃x t,k=Sum.inr x/\v=Value.str x t)
 |.inl i,v,h=>by
  obtain⟨t,e⟩:=Value.isInt_shape (k:=i) (v:=v) h;exact .inl ⟨i,t,rfl,e⟩
 |.inr x,v,h=>by
  obtain⟨t,e⟩:=Value.isStrOf_shape (x:=x) (v:=v) h;exact .inr ⟨x,t,rfl,e⟩
def FJ (i:Int)(t:Tok):Jn (.inl i) (.int i t)=true:=by simp[Jn,Value.isInt]
def Fw (x:Str)(t:Tok):Jn (.inr x) (.str x t)=true:=by simp[Jn,Value.isStrOf]
def cB (a b:Int):decide ((Sum.inl a:Key)=Sum.inl b)=(a==b):=by
 by_cases e:a=b
 ·subst e;simp
 ·have h:¬(Sum.inl a:Key)=Sum.inl b:=λq=>e (Sum.inl.inj q)
  rw[aD h];exact(beq_eq_false_iff_ne.mpr e).symm
def cC (a b:Str):decide ((Sum.inr a:Key)=Sum.inr b)=decide (a=b):=by
 by_cases e:a=b
 ·subst e;simp
 ·have h:¬(Sum.inr a:Key)=Sum.inr b:=λq=>e (Sum.inr.inj q)
  rw[aD h,aD e]
def cD (a:Int)(b:Str):decide ((Sum.inl a:Key)=Sum.inr b)=false:=aD (λq=>nomatch q)
def cE (a:Str)(b:Int):decide ((Sum.inr a:Key)=Sum.inl b)=false:=aD (λq=>nomatch q)
def yX (p:Program)(w:World):PySem.KeyKind p w Key where
 is:=Jn
 hash:=cA w
 inj:=λv a b f c=>by
  rcases Zd f with ⟨i,t,rfl,rfl⟩|⟨x,t,rfl,rfl⟩
  ·rcases Zd c with ⟨j,u,rfl,e⟩|⟨y,u,rfl,e⟩
   ·injection e with E _;rw[E]
   ·exact nomatch e
  ·rcases Zd c with ⟨j,u,rfl,e⟩|⟨y,u,rfl,e⟩
   ·exact nomatch e
   ·injection e with E _;rw[E]
 byValue:=λk v h=>by
  rcases Zd h with ⟨i,t,rfl,rfl⟩|⟨x,t,rfl,rfl⟩<;>rfl
 pyHash:=λH h=>by
  rcases Zd H with ⟨i,t,rfl,rfl⟩|⟨x,t,rfl,rfl⟩
  ·exact wpAny_pyHash_int h
  ·exact wpAny_pyHash_str h
 eqBool:=λd H h=>by
  rcases Zd d with ⟨i,t,rfl,rfl⟩|⟨x,t,rfl,rfl⟩
  ·rcases Zd H with ⟨j,u,rfl,rfl⟩|⟨y,u,rfl,rfl⟩
   ·rw[cB]at h;exact wpAny_eqBool_int h
   ·rw[cD]at h;exact SeqAt.EqAt.int_str i t y u _ _ _ _ h
  ·rcases Zd H with ⟨j,u,rfl,rfl⟩|⟨y,u,rfl,rfl⟩
   ·rw[cE]at h;exact SeqAt.EqAt.str_int x t j u _ _ _ _ h
   ·rw[cC]at h;exact wpAny_eqBool_str h
 «strs»:=λk x t v h=>by
  rcases Zd h with ⟨i,u,rfl,e⟩|⟨y,u,rfl,e⟩
  ·exact nomatch e
  ·injection e with E _
   subst E;cases v<;>rfl
def IY (p:Program)(w:World)(i:Int)(t:Tok):(yX p w).is (.inl i) (.int i t)=true:=FJ i t
def IP (p:Program)(w:World)(x:Str)(t:Tok):(yX p w).is (.inr x) (.str x t)=true:=Fw x t
inductive V where
 |non|bl (b:Bool)|int (i:Int)|str (x:Str)|byt (b:Array UInt8)|flt (b:UInt64)|ref (a:Addr)|ty (n:String)
 deriving DecidableEq
def RelV:V->Value->Prop
 |.non,u=>u=Value.none|.bl b,u=>u=Value.bool b|.int i,u=>∃t,u=Value.int i t|.str x,u=>∃t,u=Value.str x t|.byt b,u=>∃t,u=Value.bytes b t|.flt b,u=>∃t,u=Value.float b t|.ref a,u=>u=Value.ref a|.ty n,u=>u=Value.type n
abbrev Vals:List V->List Value->Prop:=Paired RelV
theorem Vals.length {x:List V}(r:Vals x us):x.length=us.length:=Paired.length r
theorem Vals.get:∀{X:List V}{U:bS}{i:Nat}{x:V},Vals X U->X[i]? =some x->∃u,U[i]? =some u/\RelV x u
 |_,_,_,_,.nil,e=>by simp at e|_,_,0,_,.cons r _,e=>by simp at e;subst e;exact⟨_,rfl,r⟩|_,_,i+1,x,.cons _ t,e=>by
  obtain⟨u,H,h⟩:=Vals.get (i:=i) (x:=x) t (by simpa using e)
  exact⟨u,by simpa using H,h⟩
theorem Vals.set {x:V}(r:RelV x u):∀{X:List V}{U:bS}(i:Nat),Vals X U->Vals (X.set i x) (U.set i u)
 |_,_,_,.nil=>.nil|_,_,0,.cons _ t=>.cons r t|_,_,i+1,.cons q t=>.cons q (Vals.set r i t)
theorem Vals.append:∀{x y:List V}{u w:bS},Vals x u->Vals y w->Vals (x++y) (u++w)
 |_,_,_,_,.nil,s=>s|_,_,_,_,.cons r t,s=>.cons r (Vals.append t s)
theorem Vals.take:∀{x:List V}{u:bS}(n:Nat),Vals x u->Vals (x.take n) (u.take n)
 |_,_,0,_=>.nil|_,_,_+1,.nil=>.nil|_,_,n+1,.cons r t=>.cons r (Vals.take n t)
theorem Vals.drop:∀{x:List V}{u:bS}(n:Nat),Vals x u->Vals (x.drop n) (u.drop n)
 |_,_,0,r=>r|_,_,_+1,.nil=>.nil|_,_,n+1,.cons _ t=>Vals.drop n t
def Vals.none_of:∀{x:List V}{u:bS}{i:Nat},Vals x u->x[i]? =none->u[i]? =none:=λ {x u i} r e=>by
 have H:=r.length;have h:x.length<=i:=List.getElem?_eq_none_iff.mp e;exact List.getElem?_eq_none_iff.mpr (by omega)
def gf:Option V->Option Value->Prop
 |some v,some u=>RelV v u|none,none=>True|_,_=>False
def KV {a:Type}:List (a×V)->List (a×Value)->Prop:=Paired λ(p:a×V) (q:a×Value)=>p.1=q.1/\RelV p.2 q.2
noncomputable def kV:Key->V
 |.inl i=>.int i|.inr x=>.str x
inductive HO where
 |lst (xs:List V)
 |tup (xs:List V)
 |dK (lG:List (Key×V))|dT (lG:List (List Key×V))
 |set (S:Int->Bool) (n:Nat)
 |ins (C dx:Addr) (fs:List (Str×V))
 |own (x:Addr)
 |xd (fs:List (Str×V))
 |met (f x:Addr)
 |rng (lo hi:Int)
 |frz (o:Obj) (u:HO)
 |tbl (ps:Array Value)
 |ext (φ:Heap->Prop)
noncomputable abbrev Hp:=Addr->Option HO
noncomputable def upd (H:Hp)(a:Addr)(o:HO):Hp:=λb=>if b=a then some o else H b
def ji {H:Hp}{o:HO}:upd H a o a=some o:=by unfold upd;rw[ah rfl]
def qi {H:Hp}{o:HO}(h:b≠a):upd H a o b=H b:=by unfold upd;rw[ai h]
def Jm {H:Hp}{o u:HO}(h:H a=some o)(c:H b=some u)(d:o≠u):a≠b:=by
 intro e;subst e;rw[h]at c;exact d (aB c)
def kj {H:Hp}{o:HO}(h:H a=some o)(c:H b=none):a≠b:=by
 intro e;subst e;rw[h]at c;cases c
def Zm (h:Heap)(a:Addr)(i:Array Value):Prop:=∃o,h.get? a=some o/\(o.cls=.type "tuple" /\ o.dict=none)/\∃n,o.data=.seq i n
def Zm.tup {h:Heap}{a:Addr}{i:Array Value}(x:Zm h a i):IsTup h a i:=let ⟨o,e,c,d⟩:=x;⟨o,e,c.1,d⟩
def Zm.new (h:Heap)(i:Array Value):Zm (h.push { cls:=.type "tuple",data:=.seq i }) h.objs.size i:=⟨_,aw h rfl,⟨rfl,rfl⟩,0,rfl⟩
section
variable (P:Program)(w:World)
def qQ (H:Hp)(h:Heap)(a:Addr):HO->Prop
 |.lst X=>X.length<=sizeLine/\∃(l6:bS) (n:Nat),Vals X l6/\h.get? a=some { cls:=.type "list",data:=.seq l6.toArray n }
 |.tup X=>X.length<=sizeLine/\∃l6:bS,Vals X l6/\Zm h a l6.toArray|.dK K=>K.length<=sizeLine/\(a==sysModules)=false/\∃s,KV K s/\h.DictOf (yX P w) a s|.dT K=>K.length<=sizeLine/\(a==sysModules)=false/\∃X:List (List Key×Addr×Value),
   Paired (λ(p:List Key×V) (q:List Key×Addr×Value)=>p.1=q.1/\H q.2.1=some (.tup (p.1.map kV))/\RelV p.2 q.2.2) K X/\
   ∃o e E,h.get? a=some o/\o.ExactDict/\o.data=.dict e E/\e.toList=X.map (entryOfKey (tupleKind (yX P w)))/\(X.map (·.1)).Nodup
 |.set S n=>h.SetOf (intKind P w) a S n|.ins C d fs=>H d=some (.own a)/\fs.length<=1000/\d≠a/\h.get? a=some (instObj C d)/\
   ∃M,h.Ns1 d M/\(∀f,gf (fs.lookup f) (M f))/\PySem.Within M (fs.map (·.1))
 |.own _=>∃o,h.get? a=some o|.xd fs=>∃M,h.Ns1 a M/\∀f,gf (fs.lookup f) (M f)|.rng l j=>∃t u v,h.get? a=some { cls:=.type "range",data:=.fields #[.int l t,.int j u,.int 1 v] }
 |.frz o u=>h.get? a=some o/\qQ H h a u|.tbl i=>h.get? a=some { cls:=.none,data:=.fields i }|.met f x=>h.get? a=some (methodObj (.ref f) (.ref x))|.ext c=>c h/\(∃o,h.get? a=some o)/\∀g b:Heap,c g->(∀o,g.get? a=some o->b.get? a=some o)->c b
def qN (H:Hp)(h:Heap):Prop:=∀a o,H a=some o->qQ P w H h a o
end
section
variable {H H':Hp}{o:HO}
theorem qQ.lt (x:qQ P w H h a o):a<h.objs.size:=by
 cases o with
 |lst X=>obtain⟨_,_,_,_,e⟩:=x;exact aG e|tup X=>obtain⟨_,_,_,p⟩:=x;exact p.tup.lt|dK K=>obtain⟨_,_,_,_,o,_,_,e,_⟩:=x;exact aG e|dT K=>obtain⟨_,_,_,_,o,_,_,e,_⟩:=x;exact aG e|set S n=>obtain⟨o,_,_,_,e,_⟩:=x;exact aG e|ins C d fs=>obtain⟨_,_,_,e,_⟩:=x;exact aG e|own y=>obtain⟨_,e⟩:=x;exact aG e|xd fs=>obtain⟨_,⟨_,_,_,e,_⟩,_⟩:=x;exact aG e|rng l i=>obtain⟨_,_,_,e⟩:=x;exact aG e|frz ob u=>obtain⟨e,_⟩:=x;exact aG e|tbl s=>exact aG (show h.get? a=some _ from x)|met f y=>exact aG (show h.get? a=some _ from x)|ext b=>obtain⟨_,⟨_,e⟩,_⟩:=x;exact aG e
theorem Paired.mapP {c:Type}{F G:α->c->Prop}:∀{L:List α}{l:List c},Paired F L l->(∀a b,F a b->G a b)->Paired G L l
 |_,_,.nil,_=>.nil|_,_,.cons r t,f=>.cons (f _ _ r) (Paired.mapP t f)
def qQ.stay (x:qQ P w H h a o)(k:∀b u,(b=a∨H b=some (.own a))->h.get? b=some u->h'.get? b=some u)
  (s:∀b,H b=some (.own a)->H' b=some (.own a))(l:∀b xs,H b=some (.tup xs)->H' b=some (.tup xs)):qQ P w H' h' a o:=by
 induction o with
 |lst xs=>obtain⟨z,i,n,r,e⟩:=x;exact⟨z,i,n,r,k _ _ (.inl rfl) e⟩|tup xs=>obtain⟨z,i,r,ob,e,c⟩:=x;exact⟨z,i,r,ob,k _ _ (.inl rfl) e,c⟩|dK K=>obtain⟨z,y,L,r,ob,E,g,e,c⟩:=x;exact⟨z,y,L,r,ob,E,g,k _ _ (.inl rfl) e,c⟩|dT K=>
  obtain⟨z,y,xs,r,ob,E,g,e,c⟩:=x;exact⟨z,y,xs,Paired.mapP r λp q z=>⟨z.1,l _ _ z.2.1,z.2.2⟩,ob,E,g,k _ _ (.inl rfl) e,c⟩
 |set S n=>obtain⟨ob,E,g,t,e,c⟩:=x;exact⟨ob,E,g,t,k _ _ (.inl rfl) e,c⟩|ins C D fs=>
  obtain⟨d,z,N,e,M,⟨j,E,g,A,c⟩,r⟩:=x;exact⟨s _ d,z,N,k _ _ (.inl rfl) e,M,⟨j,E,g,k _ _ (.inr d) A,c⟩,r⟩
 |own y=>obtain⟨ob,e⟩:=x;exact⟨ob,k _ _ (.inl rfl) e⟩|xd fs=>obtain⟨M,⟨j,E,g,e,c⟩,r⟩:=x;exact⟨M,⟨j,E,g,k _ _ (.inl rfl) e,c⟩,r⟩|rng T U=>obtain⟨t,u,v,e⟩:=x;exact⟨t,u,v,k _ _ (.inl rfl) e⟩|frz ob u I=>obtain⟨e,q⟩:=x;exact⟨k _ _ (.inl rfl) e,I q⟩|tbl J=>
  have e:h.get? a=some { cls:=.none,data:=.fields J }:=x;show h'.get? a=some { cls:=.none,data:=.fields J };exact k a _ (.inl rfl) e
 |met f y=>
  have e:h.get? a=some (methodObj (.ref f) (.ref y)):=x;show h'.get? a=some (methodObj (.ref f) (.ref y));exact k a _ (.inl rfl) e
 |ext Q=>obtain⟨p,⟨o,e⟩,B⟩:=x;exact⟨B _ _ p λo q=>k _ _ (.inl rfl) q,⟨o,k _ _ (.inl rfl) e⟩,B⟩
theorem qN.lt (x:qN P w H h)(e:H a=some o):a<h.objs.size:=(x a o e).lt
def qN.fresh (x:qN P w H h)(e:h.objs.size<=a):H a=none:=by
 cases q:H a with
 |none=>rfl|some u=>exact absurd (aF (x.lt q) e) (aV _)
def qN.kept (x:qN P w H h)(k:∀b u,h.get? b=some u->h'.get? b=some u):qN P w H h':=λa o e=>
 (x a o e).stay (λb u _ q=>k b u q) (λ_ q=>q) λ_ _ q=>q
def qN.laid (x:qN P w H h)(k:∀b u,h.get? b=some u->h'.get? b=some u)(p:h.objs.size<=a)(new:qQ P w (upd H a o) h' a o):qN P w (upd H a o) h':=λb u e=>by
 have n:=x.fresh p
 by_cases d:b=a
 ·subst d;rw[ji]at e;cases e;exact new
 ·rw[qi d]at e
  exact(x b u e).stay (λc v _ q=>k c v q) (λc q=>by rw[qi (kj q n)];exact q) λc X q=>by rw[qi (kj q n)];exact q
end
def Rd (H:Hp)(a:Addr)(u:HO):Prop:=H a=some u∨∃o,H a=some (.frz o u)
def Rd.ok {H:Hp}{u:HO}(r:Rd H a u)(x:qN P w H h):qQ P w H h a u:=by
 rcases r with r|⟨o,r⟩
 ·exact x a u r
 ·obtain⟨_,q⟩:=x a _ r
  exact q
def YI:Option HO->Prop
 |some (.lst _)=>True|some (.dK _)=>True|some (.dT _)=>True|some (.set _ _)=>True|some (.ins _ _ _)=>True|some (.ext _)=>True|_=>False
section
variable {H:Hp}{x e:Addr}{o':HO}
def qN.write (ok:qN P w H h)(M:YI (H x))(i:e=x∨H e=some (.own x))(k:∀b u,b≠e->h.get? b=some u->h'.get? b=some u)(o:∃u,h'.get? e=some u)
  (new:qQ P w (upd H x o') h' x o'):qN P w (upd H x o') h':=λb u q=>by
 have n:∀c y,H c=some (.own y)->c≠x:=λc y r z=>by subst z;rw[r]at M;exact M
 have N:∀c X,H c=some (.tup X)->c≠x:=λc X r z=>by subst z;rw[r]at M;exact M
 by_cases f:b=x
 ·subst f;rw[ji]at q;cases q;exact new
 ·rw[qi f]at q
  by_cases a:b=e
  ·have Q:H b=some (.own x):=by
    rcases i with z|z
    ·exact absurd (a.trans z) f
    ·rw[a];exact z
   rw[q]at Q;cases Q;obtain⟨v,g⟩:=o;exact⟨v,by rw[a];exact g⟩
  ·refine(ok b u q).stay (λc v d r=>k c v ?_ r) (λc r=>by rw[qi (n c b r)];exact r) λc X r=>by rw[qi (N c X r)];exact r
   rcases d with rfl|d
   ·exact a
   ·rintro rfl
    rcases i with z|z
    ·exact n c b d z
    ·rw[d]at z;cases z;exact f rfl
end
structure Un (fs ex:bT)(H H':Hp)(h h':Heap):Prop where
 keep:∀b o,h.get? b=some o->H b=none->b∉fs->b∉ex->h'.get? b=some o
 slot:∀b o,h.get? b=some o->H b=none->b∈fs->b∉ex->∃sl,h'.get? b=some { o with slots:=sl }
 free:∀b o,h.get? b=some o->H b=none->b∉ex->H' b=none
 there:∀b o,h.get? b=some o->b∉ex->∃o',h'.get? b=some o'
 tups:∀b xs,H b=some (.tup xs)->H' b=some (.tup xs)
 frzs:∀b o u,H b=some (.frz o u)->H' b=some (.frz o u)
 tbls:∀b ps,H b=some (.tbl ps)->∃more,H' b=some (.tbl (ps++more))
section
variable {fs ex:bT}{H H1:Hp}{h1:Heap}{x e:Addr}{o:HO}
def Un.any (u:Un fs ex H H1 h h1){ob:Obj}(q:h.get? b=some ob)(n:H b=none)(x:b∉ex):∃s,h1.get? b=some { ob with slots:=s }:=by
 by_cases a:b∈fs
 ·exact u.slot b ob q n a x
 ·exact⟨ob.slots,u.keep b ob q n a x⟩
def Un.kept (k:∀b u,h.get? b=some u->h'.get? b=some u):Un fs ex H H h h':=
 ⟨λb ob q _ _ _=>k b ob q,λb ob q _ _ _=>⟨ob.slots,k b ob q⟩,λ_ _ _ n _=>n,λb ob q _=>⟨ob,k b ob q⟩,λ_ _ q=>q,λ_ _ _ q=>q,λ_ p q=>⟨#[],by rw[q];simp⟩⟩
def Un.refl:Un fs ex H H h h:=Un.kept λ_ _ q=>q
def Un.laid (k:∀b u,h.get? b=some u->h'.get? b=some u)(p:h.objs.size<=a)(c:H a=none):Un fs ex H (upd H a o) h h' where
 keep:=λb u q _ _ _=>k b u q
 slot:=λb u q _ _ _=>⟨u.slots,k b u q⟩
 free:=λb u q n _=>by rw[qi (aJ (aF (aG q) p))];exact n
 there:=λb u q _=>⟨u,k b u q⟩
 tups:=λb x q=>by rw[qi (kj q c)];exact q
 frzs:=λb u x q=>by rw[qi (kj q c)];exact q
 tbls:=λb P q=>⟨#[],by rw[qi (kj q c),q];simp⟩
def Un.write (M:YI (H x))(i:e=x∨H e=some (.own x))(k:∀b u,b≠e->h.get? b=some u->h'.get? b=some u)(c:∃u,h'.get? e=some u):Un fs ex H (upd H x o) h h':=by
 have d:∀b,H b=none->b≠x:=λb n z=>by subst z;rw[n]at M;exact M
 have f:∀b,H b=none->b≠e:=λb n z=>by
  subst z;rcases i with r|r
  ·exact d b n r
  ·rw[n]at r;cases r
 have g:∀b u,H b=some u->¬YI (some u)->b≠x:=λb u q nm z=>by subst z;rw[q]at M;exact nm M
 refine⟨λb u q n _ _=>k b u (f b n) q,λb u q n _ _=>⟨u.slots,k b u (f b n) q⟩,λb u q n _=>by rw[qi (d b n)];exact n,λb u q _=>?_,
  λb X q=>by rw[qi (g b _ q λz=>z)];exact q,λb u X q=>by rw[qi (g b _ q λz=>z)];exact q,λb p q=>⟨#[],by rw[qi (g b _ q λz=>z),q];simp⟩⟩
 by_cases a:b=e
 ·subst a;exact c
 ·exact⟨u,k b u a q⟩
end
noncomputable def WW (h:Heap)(H:Hp):bT:=(List.range h.objs.size).filter λa=>(H a).isSome
def gU (h:Heap)(H:Hp):Heap:=hideAll h (WW h H)
def EK (h:Heap)(H:Hp):(gU h H).objs.size=h.objs.size:=hideAll_size _ _
def Dt {H:Hp}{o:Obj}(e:h.get? b=some o)(n:H b=none):(gU h H).get? b=some o:=
 bL _ e λa=>by
  have q:(H b).isSome=true:=(List.mem_filter.mp a).2;rw[n]at q;simp at q
def BH {H:Hp}{o:Obj}(e:(gU h H).get? b=some o):h.get? b=some o/\H b=none:=by
 have E:h.get? b=some o:=of_hideAll (WW h H) e;refine⟨E,?_⟩;cases q:H b with
 |none=>rfl|some x=>
  have a:b∈WW h H:=List.mem_filter.mpr ⟨cw.mpr (aG E),by simp[q]⟩
  have z:(gU h H).get? b=none:=hideAll_none (WW h H) a;rw[z]at e;cases e
structure Mod (K:Frag)(mg:b8)(base:Heap):Prop where
 kin:K.In base
 glob:base.Ns mainGlobals mg
 blt:∃mb,base.Ns builtinsNs mb/\∀x:Str,x ≠ "__name__" -> mb x=bootBuiltins x
 nolimit:base.NoLimit
structure Cx where
 prog:Program
 w:World
 K:Frag
 mg:Str->Option Value
 base:Heap
 A:Around
 N:bW
 s0:Shared
 H0:Hp
 env:Env
 outer:b9
 stack:b9
 ex:bT
 fn:Str->Bool
 calm:Bool
 pn:bU
 xe:Value->Shared->Prop
noncomputable def qt (l:b9):bT:=l.filterMap (·.frame)
abbrev Cx.fs (X:Cx):bT:=qt X.outer
def WO (s:Scope)(x:Str):Prop:=s.names.lookup x=some .local∨s.names.lookup x=some .cell∨s.names.lookup x=some .free
def Loc (s:Scope)(x:Str):Prop:=s.names.lookup x=some .local∨s.names.lookup x=some .cell
def Look (e:Env)(h:Heap)(m:b8)(x:Str)(u:Value):Prop:=
 (e.kindOf x=some .local/\m x=some u)∨((e.kindOf x=some .cell∨e.kindOf x=some .free)/\∃c,e.cells.lookup x=some c/\h.IsCell c (some u))
structure Cx.Ok (X:Cx):Prop where
 mod:Mod X.K X.mg X.base
 kind:X.env.scope.kind=.function
 glob:X.env.globals=mainGlobals
 blt:X.env.builtins=builtinsNs
 above:X.s0.heap.objs.size<=X.env.locals
 inj:∀x y c,X.env.cells.lookup x=some c->X.env.cells.lookup y=some c->x=y
 has:∀x,(X.env.kindOf x=some .cell∨X.env.kindOf x=some .free)->∃c,X.env.cells.lookup x=some c
 cab:∀x c,X.fn x=true->X.env.cells.lookup x=some c->X.s0.heap.objs.size<=c
 hd:X.calm=true->X.A.handled=none
 frames:X.A.frames=some X.stack
 stk:X.stack=X.outer∨(X.stack=X.env::X.outer/\X.env.frame=some X.env.locals)
 exf:∀b∈X.ex,b≠X.env.locals/\∀x c,X.env.cells.lookup x=some c->c≠b
 bs:∀b o,X.base.get? b=some o->X.s0.heap.get? b=some o/\X.H0 b=none
 bsz:X.base.objs.size<=X.s0.heap.objs.size
 noex:∀b o,X.base.get? b=some o->b∉X.ex
 exfs:∀b∈X.ex,b∉X.fs
 funs:X.s0.heap.FunFrames X.base X.outer
 frf:∀b∈X.fs,X.H0 b=none
structure Inv (X:Cx)(l0:bU)(σ:List (Option V))(H:Hp)(s:Shared):Prop where
 ok:X.Ok
 os:s.os=X.s0.os
 bare:AllBare s.gens
 base:Un X.fs X.ex X.H0 H X.s0.heap s.heap
 loc:∃m,s.heap.Ns X.env.locals m/\∀(i:Nat)(x:Str)(v:V),X.N[i]? =some x->σ[i]? =some (some v)->WO X.env.scope x->∃u,RelV v u/\Look X.env s.heap m x u
 cell:∀x c,X.env.cells.lookup x=some c->∃v,s.heap.IsCell c v
 free:H X.env.locals=none
 freeC:∀x c,X.env.cells.lookup x=some c->H c=none
 pin:∀p∈X.pn++l0,s.heap.get? p.1=some p.2/\H p.1=none/\p.1≠X.env.locals/\p.1∉X.fs/\∀v,p.2.data≠.cell v
 hok:qN X.prog X.w H s.heap
 len:σ.length=X.N.length
section
variable {X:Cx}{σ:List (Option V)}{H H':Hp}
def Cx.Ok.nofr (ok:X.Ok){o:Obj}(e:X.base.get? b=some o):b∉X.fs:=λh=>by
 have:=(ok.funs.mem h).1
 rw[e]at this;cases this
theorem Inv.bs (I:Inv X l0 σ H s):∀b o,X.base.get? b=some o->s.heap.get? b=some o/\H b=none:=λb o e=>
 ⟨I.base.keep b o (I.ok.bs b o e).1 (I.ok.bs b o e).2 (I.ok.nofr e) (I.ok.noex b o e),I.base.free b o (I.ok.bs b o e).1 (I.ok.bs b o e).2 (I.ok.noex b o e)⟩
def Inv.bk (I:Inv X l0 σ H s):∀b o,X.base.get? b=some o->s.heap.get? b=some o:=λb o e=>(I.bs b o e).1
theorem Inv.mod (I:Inv X l0 σ H s):Mod X.K X.mg X.base:=I.ok.mod
def Inv.kIn (I:Inv X l0 σ H s):X.K.In s.heap:=I.ok.mod.kin.keeps I.bk
theorem Inv.lt (I:Inv X l0 σ H s):X.env.locals<s.heap.objs.size:=let ⟨_,h,_⟩:=I.loc;h.lt
def Inv.sz (I:Inv X l0 σ H s):X.s0.heap.objs.size<=s.heap.objs.size:=a3 I.ok.above (bB I.lt)
def Inv.nofs (I:Inv X l0 σ H s)(h:s.heap.objs.size<=a):a∉X.fs:=λc=>by
 obtain⟨_,o,b,_⟩:=I.ok.funs.mem c;exact absurd (aF (aG b) (a3 I.sz h)) (aV _)
def Inv.cne (I:Inv X l0 σ H s):∀x c,X.env.cells.lookup x=some c->c≠X.env.locals:=λx c e z=>by
 obtain⟨v,o,b,d⟩:=I.cell x c e;obtain⟨m,⟨f,E,p,h,a,_⟩,_⟩:=I.loc;rw[z,h]at b;cases b;rw[a]at d;cases d
theorem Inv.funs (I:Inv X l0 σ H s):s.heap.FunFrames X.base X.outer:=by
 have all:∀(l:b9),(∀b∈qt l,b∈X.fs)->X.s0.heap.FunFrames X.base l->s.heap.FunFrames X.base l:=by
  intro l
  induction l with
  |nil=>intro _ _;trivial|cons E r i=>
   intro c g;obtain⟨j,⟨L,o,n,p,f,q⟩,d⟩:=g;have a:L∈X.fs:=c L (by unfold qt;rw[bj,n];exact aq)
   obtain⟨S,e⟩:=I.base.slot L o f (I.ok.frf L a) a λz=>I.ok.exfs L z a;exact⟨j,⟨L,_,n,p,e,q⟩,i (λb h=>c b (by unfold qt;rw[bj,n];exact ak _ h)) d⟩
 exact all X.outer (λ_ h=>h) I.ok.funs
theorem Inv.stack (I:Inv X l0 σ H s):s.heap.FunFrames X.base X.stack:=by
 rcases I.ok.stk with e|⟨e,hf⟩
 ·rw[e];exact I.funs
 ·rw[e]
  obtain⟨m,h,_⟩:=I.loc;refine .cons (by rw[I.ok.kind];decide) hf h ?_ I.funs
  exact Heap.get?_none_of_le (a3 I.ok.bsz I.ok.above)
def Inv.stkSub (I:Inv X l0 σ H s):∀b∈qt X.stack,b∈X.env.locals::X.fs:=λb h=>by
 rcases I.ok.stk with e|⟨e,hf⟩
 ·rw[e]at h;exact ak _ h
 ·rw[e]at h
  unfold qt at h;rw[bj,hf]at h;exact h
def Inv.stkFree (I:Inv X l0 σ H s):∀b∈qt X.stack,H b=none:=λb h=>by
 rcases cn.mp (I.stkSub b h) with e|h
 ·rw[e];exact I.free
 ·obtain⟨_,o,a,_⟩:=I.ok.funs.mem h
  exact I.base.free b o a (I.ok.frf b h) λz=>I.ok.exfs b z h
def Inv.step {g':Array GenState}{d':Drawn}{ch:bT}(I:Inv X l0 σ H s)
  (a:∀b∈ch,(b∈X.ex∨X.s0.heap.objs.size<=b)/\b≠X.env.locals/\(∀x c,X.env.cells.lookup x=some c->c≠b)/\∀p∈X.pn++l0,p.1≠b)
  (keep:∀b o,b≠X.env.locals->b∉X.fs->b∉ch->s.heap.get? b=some o->H b=none->h'.get? b=some o)
  (P:∀b o,b≠X.env.locals->b∈X.fs->b∉ch->s.heap.get? b=some o->H b=none->∃t,h'.get? b=some { o with slots:=t })(L:∀b o,b∉ch->s.heap.get? b=some o->H b=none->H' b=none)
  (there:∀b o,b∉ch->s.heap.get? b=some o->∃o',h'.get? b=some o')
  (T:∀b xs,H b=some (.tup xs)->H' b=some (.tup xs))(U:∀b o u,H b=some (.frz o u)->H' b=some (.frz o u))(Q:∀b ps,H b=some (.tbl ps)->∃more,H' b=some (.tbl (ps++more)))
  (ns:∀m,s.heap.Ns X.env.locals m->h'.Ns X.env.locals m)(Y:qN X.prog X.w H' h')(J:AllBare g'):
  Inv X l0 σ H' { s with heap:=h',gens:=g',drawn:=d',toks:=t' }:=by
 have YD:∀b o,X.s0.heap.get? b=some o->b≠X.env.locals:=λb o e=>aJ (aF (aG e) I.ok.above);have C:∀b o,X.s0.heap.get? b=some o->b∉X.ex->b∉ch:=λb o e h f=>by
  rcases(a b f).1 with z|z
  ·exact h z
  ·exact absurd (aF (aG e) z) (aV _)
 have M:∀x c,X.env.cells.lookup x=some c->∀v,s.heap.IsCell c v->h'.IsCell c v:=λx c e v ⟨o,g,Z⟩=>by
  have N:c∉ch:=λz=>(a c z).2.2.1 x c e rfl
  by_cases B:c∈X.fs
  ·obtain⟨t,q⟩:=P c o (I.cne x c e) B N g (I.freeC x c e)
   exact⟨_,q,Z⟩
  ·exact⟨o,keep c o (I.cne x c e) B N g (I.freeC x c e),Z⟩
 refine⟨I.ok,I.os,J,⟨λb o e n f h=>?_,λb o e n f h=>?_,λb o e n h=>?_,λb o e h=>?_,λb xs e=>T b xs (I.base.tups b xs e),λb o xs e=>U b o xs (I.base.frzs b o xs e),λb ps e=>?_⟩,?_,λx c e=>?_,?_,λx c e=>?_,λp A=>?_,Y,I.len⟩
 ·exact keep b o (YD b o e) f (C b o e h) (I.base.keep b o e n f h) (I.base.free b o e n h)
 ·obtain⟨t,E⟩:=I.base.slot b o e n f h
  obtain⟨S,j⟩:=P b _ (YD b o e) f (C b o e h) E (I.base.free b o e n h);exact⟨S,j⟩
 ·obtain⟨o',E⟩:=I.base.there b o e h
  exact L b o' (C b o e h) E (I.base.free b o e n h)
 ·obtain⟨o',E⟩:=I.base.there b o e h
  exact there b o' (C b o e h) E
 ·obtain⟨m1,E⟩:=I.base.tbls b ps e
  obtain⟨m2,j⟩:=Q b _ E;exact⟨m1++m2,by rw[j,Array.append_assoc]⟩
 ·obtain⟨m,hn,D⟩:=I.loc
  refine⟨m,ns m hn,λi x v E j K=>?_⟩;obtain⟨u,r,l⟩:=D i x v E j K;refine⟨u,r,?_⟩;rcases l with l|⟨k,c,e,z⟩
  ·exact .inl l
  ·exact .inr ⟨k,c,e,M x c e _ z⟩
 ·obtain⟨v,z⟩:=I.cell x c e
  exact⟨v,M x c e v z⟩
 ·obtain⟨m,⟨o,_,_,g,_⟩,_⟩:=I.loc
  exact L _ o (λz=>(a _ z).2.1 rfl) g I.free
 ·obtain⟨v,o,g,Z⟩:=I.cell x c e
  exact L c o (λz=>(a c z).2.2.1 x c e rfl) g (I.freeC x c e)
 ·obtain⟨e,n,ne,y,d⟩:=I.pin p A
  have N:p.1∉ch:=λz=>(a p.1 z).2.2.2 p A rfl;exact⟨keep p.1 p.2 ne y N e n,L p.1 p.2 N e n,ne,y,d⟩
def Inv.un (I:Inv X l0 σ H s)(u:Un X.fs [] H H' s.heap h')(g:qN X.prog X.w H' h'):Inv X l0 σ H' { s with heap:=h',toks:=t' }:=by
 obtain⟨m,⟨o,f,p,c,r⟩,_⟩:=id I.loc;obtain⟨S,L⟩:=u.any c I.free (by simp)
 exact I.step (g':=s.gens) (d':=s.drawn) (ch:=[]) (λ_ z=>nomatch z) (λb o _ a _ e n=>u.keep b o e n a (by simp)) (λb o _ a _ e n=>u.slot b o e n a (by simp)) (λb o _ e n=>u.free b o e n (by simp)) (λb o _ e=>u.there b o e (by simp)) u.tups u.frzs u.tbls (λM j=>by
  obtain⟨l,i,E,h,d⟩:=j;rw[c]at h;cases h;exact⟨_,i,E,L,d⟩) g I.bare
def Inv.call {g':Array GenState}{d':Drawn}{ch:bT}(I:Inv X l0 σ H s)(u:Un (qt X.stack) ch H H' s.heap h')(t:qN X.prog X.w H' h')(i:AllBare g')
  (d:∀b∈ch,(b∈X.ex∨X.s0.heap.objs.size<=b)/\b≠X.env.locals/\(∀x c,X.env.cells.lookup x=some c->c≠b)/\∀p∈X.pn++l0,p.1≠b):
  Inv X l0 σ H' { s with heap:=h',gens:=g',drawn:=d',toks:=t' }:=by
 obtain⟨m,⟨o,l,q,f,r⟩,_⟩:=id I.loc;obtain⟨S,L⟩:=u.any f I.free λz=>(d _ z).2.1 rfl;exact I.step (ch:=ch) d (λb o L j h e n=>u.keep b o e n (λz=>(cn.mp (I.stkSub b z)).elim L j) h) (λb o _ _ h e n=>u.any e n h) (λb o h e n=>u.free b o e n h) (λb o h e=>u.there b o e h) u.tups u.frzs u.tbls (λM y=>by
  obtain⟨A,v,E,a,g⟩:=y;rw[f]at a;cases a;exact⟨_,v,E,L,g⟩) t i
def Inv.turned (I:Inv X l0 σ H s)(k:∀b o,b≠it->s.heap.get? b=some o->h'.get? b=some o)(j:H it=none)(L:it≠X.env.locals)
  (t:it∈X.ex∨X.s0.heap.objs.size<=it)(g:∀x c,X.env.cells.lookup x=some c->c≠it)(f:∀p∈X.pn++l0,p.1≠it):Inv X l0 σ H { s with heap:=h',toks:=t' }:=by
 have N:∀b u,H b=some u->b≠it:=λb u e z=>by rw[z,j]at e;cases e
 refine I.step (g':=s.gens) (d':=s.drawn) (ch:=[it]) (λb d=>?_) (λb o _ _ h e _=>k b o (λz=>h (by simp[z])) e) (λb o _ _ h e _=>⟨o.slots,k b o (λz=>h (by simp[z])) e⟩) (λ_ _ _ _ n=>n)
  (λb o h e=>⟨o,k b o (λz=>h (by simp[z])) e⟩) (λ_ _ e=>e) (λ_ _ _ e=>e) (λb P e=>⟨#[],by rw[e];simp⟩) (λm l=>?_) (λb u e=>?_) I.bare
 ·have e:b=it:=by simpa using d
  subst e;exact⟨t,L,g,f⟩
 ·obtain⟨o,E,i,a,r⟩:=l
  exact⟨o,E,i,k _ o (Ne.symm L) a,r⟩
 ·refine(I.hok b u e).stay (λc v h q=>k c v ?_ q) (λ_ q=>q) λ_ _ q=>q
  rcases h with z|z
  ·rw[z];exact N b u e
  ·exact N c _ z
def Inv.tok (I:Inv X l0 σ H s)(t:Nat):Inv X l0 σ H { s with toks:=t }:=I.un (h':=s.heap) (t':=t) Un.refl I.hok
theorem Inv.kept (I:Inv X l0 σ H s)(k:∀b u,s.heap.get? b=some u->h'.get? b=some u):Inv X l0 σ H { s with heap:=h',toks:=t' }:=I.un (Un.kept k) (I.hok.kept k)
theorem Inv.laid {o:HO}(I:Inv X l0 σ H s)(k:∀b u,s.heap.get? b=some u->h'.get? b=some u)(h:s.heap.objs.size<=a)(new:qQ X.prog X.w (upd H a o) h' a o):
  Inv X l0 σ (upd H a o) { s with heap:=h',toks:=t' }:=I.un (Un.laid k h (I.hok.fresh h)) (I.hok.laid k h new)
theorem Inv.write {x e:Addr}{o:HO}(I:Inv X l0 σ H s)(M:YI (H x))(a:e=x∨H e=some (.own x))(k:∀b u,b≠e->s.heap.get? b=some u->h'.get? b=some u)(h:∃u,h'.get? e=some u)
  (new:qQ X.prog X.w (upd H x o) h' x o):Inv X l0 σ (upd H x o) { s with heap:=h',toks:=t' }:=I.un (Un.write M a k h) (I.hok.write M a k h new)
def Inv.pins_of {P:bU}(I:Inv X l0 σ H s)(h:∀p∈P,s.heap.get? p.1=some p.2/\H p.1=none/\p.1≠X.env.locals/\p.1∉X.fs/\∀v,p.2.data≠.cell v):Inv X P σ H s:=
 ⟨I.ok,I.os,I.bare,I.base,I.loc,I.cell,I.free,I.freeC,λp a=>(cz.mp a).elim (λz=>I.pin p (List.mem_append_left _ z)) (h p),I.hok,I.len⟩
def G6 (h:N.Nodup)(a:N[i]? =some x)(b:N[j]? =some x):i=j:=by
 obtain⟨c,E⟩:=cu.mp a;obtain⟨H,e⟩:=cu.mp b;exact(List.getElem_inj h).mp (E.trans e.symm)
def T8 {A:Around}{v:V}{Q:Unit->Shared->Prop}(I:Inv X l0 σ H s)(hN:X.N.Nodup)(hi:X.N[i]? =some x)(t:Loc X.env.scope x)(r:RelV v u)
  (h:∀s',Inv X l0 (σ.set i (some v)) H s'->(∃a,Heap.SameBut a s.heap s'.heap/\(a=X.env.locals∨X.env.cells.lookup x=some a))->Q () s')(hf:X.fn x=true∨X.env.scope.names.lookup x=some .local:=by first|exact .inl rfl|exact .inr rfl|assumption):wpAny M A (storeName X.env x u) Q E s:=by
 obtain⟨m,hn,hl⟩:=id I.loc;have U:(X.env.scope.kind==.class || (X.env.scope.kind==.module&&X.env.locals != X.env.globals))=false:=by rw[I.ok.kind];rfl
 have J:i < σ.length:=by rw[I.len];exact(cu.mp hi).1
 have cne:=I.cne;have tracked:∀{a:Addr}{h':Heap},(∃o,s.heap.get? a=some o/\H a=none)->Heap.SameBut a s.heap h'->qN X.prog X.w H h':=λ {a h'} ha f b ob e=>by
  obtain⟨_,_,B⟩:=ha;refine(I.hok b ob e).stay (λc w' l q=>(f.2 c ?_).trans q) (λ_ q=>q) λ_ _ q=>q
  rintro rfl
  rcases l with rfl|l
  ·rw[B]at e;cases e
  ·rw[B]at l;cases l
 rcases t with D|D
 ·refine wpAny_storeName_local D hn (λh' hn' f=>?_) U
  obtain⟨oL,_,_,hoL,_⟩:=id hn;refine h _ ⟨I.ok,I.os,I.bare,⟨λb o e n P t=>?_,λb o e n P t=>?_,I.base.free,λb o e t=>?_,I.base.tups,I.base.frzs,I.base.tbls⟩,⟨_,hn',λj y v' g C e3=>?_⟩,λy c e=>?_,I.free,I.freeC,λp hp=>?_,tracked ⟨oL,hoL,I.free⟩ f,by simpa using I.len⟩ ⟨_,f,.inl rfl⟩
  ·exact(f.2 b (aJ (aF (aG e) I.ok.above))).trans (I.base.keep b o e n P t)
  ·obtain⟨sl,g⟩:=I.base.slot b o e n P t
   exact⟨sl,(f.2 b (aJ (aF (aG e) I.ok.above))).trans g⟩
  ·obtain⟨o',g⟩:=I.base.there b o e t
   exact⟨o',(f.2 b (aJ (aF (aG e) I.ok.above))).trans g⟩
  ·by_cases K:j=i
   ·subst K
    rw[hi]at g;cases g;rw[aC J]at C;cases C;exact⟨u,r,.inl ⟨D,by simp⟩⟩
   ·rw[aI (Ne.symm K)]at C
    obtain⟨u',r',q⟩:=hl j y v' g C e3;refine⟨u',r',?_⟩;rcases q with ⟨k,e⟩|⟨k,c,e,z⟩
    ·refine .inl ⟨k,?_⟩
     have:y≠x:=λe=>K (G6 hN g (e ▸ hi))
     simp[this,e]
    ·exact .inr ⟨k,c,e,z.sameBut f (cne y c e)⟩
  ·obtain⟨w',z⟩:=I.cell y c e
   exact⟨w',z.sameBut f (cne y c e)⟩
  ·obtain⟨e,n,ne,nf,d⟩:=I.pin p hp
   exact⟨(f.2 p.1 ne).trans e,n,ne,nf,d⟩
 ·have L:X.fn x=true:=by
   rcases hf with z|z
   ·exact z
   ·rw[z]at D;cases D
  obtain⟨c,l⟩:=I.ok.has x (.inl D);obtain⟨w',z⟩:=I.cell x c l;refine wpAny_storeName_cell I.ok.kind D l z (λh' Z f=>?_);obtain⟨oc,T,S⟩:=id z;refine h { s with heap:=h' } ⟨I.ok,I.os,I.bare,⟨λb o e n P t=>?_,λb o e n P t=>?_,I.base.free,λb o e t=>?_,I.base.tups,I.base.frzs,I.base.tbls⟩,⟨m,hn.sameBut f (Ne.symm (cne x c l)),λj y v' g C e3=>?_⟩,λy c' e=>?_,I.free,I.freeC,λp hp=>?_,tracked ⟨oc,T,I.freeC x c l⟩ f,by simpa using I.len⟩ ⟨c,f,.inr l⟩
  ·exact(f.2 b (aJ (aF (aG e) (I.ok.cab x c L l)))).trans (I.base.keep b o e n P t)
  ·obtain⟨sl,g⟩:=I.base.slot b o e n P t
   exact⟨sl,(f.2 b (aJ (aF (aG e) (I.ok.cab x c L l)))).trans g⟩
  ·obtain⟨o',g⟩:=I.base.there b o e t
   exact⟨o',(f.2 b (aJ (aF (aG e) (I.ok.cab x c L l)))).trans g⟩
  ·by_cases K:j=i
   ·subst K
    rw[hi]at g;cases g;rw[aC J]at C;cases C;exact⟨u,r,.inr ⟨.inl D,c,l,Z⟩⟩
   ·rw[aI (Ne.symm K)]at C
    obtain⟨u',r',q⟩:=hl j y v' g C e3;refine⟨u',r',?_⟩;rcases q with q|⟨k,c',e,z'⟩
    ·exact .inl q
    ·refine .inr ⟨k,c',e,z'.sameBut f ?_⟩
     rintro rfl
     exact K (G6 hN g (I.ok.inj _ _ _ e l ▸ hi))
  ·by_cases Y:c'=c
   ·subst Y;exact⟨_,Z⟩
   ·obtain⟨w2,z2⟩:=I.cell y c' e
    exact⟨w2,z2.sameBut f Y⟩
  ·obtain⟨e,n,ne,nf,d⟩:=I.pin p hp
   refine⟨(f.2 p.1 ?_).trans e,n,ne,nf,d⟩;intro q;rw[q,T]at e;have q':oc=p.2:=aB e;exact d w' (by rw[<- q'];exact S)
def Jf {A:Around}{v:V}{Q:Unit->Shared->Prop}(I:Inv X l0 σ H s)(b:X.N.Nodup)(d:X.N[i]? =some x)(a:Loc X.env.scope x)(r:RelV v u)
  (h:∀s',Inv X l0 (σ.set i (some v)) H s'->Q () s')(f:X.fn x=true∨X.env.scope.names.lookup x=some .local:=by first|exact .inl rfl|exact .inr rfl|assumption):wpAny M A (storeName X.env x u) Q E s:=
 T8 I b d a r (λs' c _=>h s' c) f
def Inv.call' {ch:bT}(I:Inv X l0 σ H s)(o:s'.os=s.os)(u:Un (qt X.stack) ch H H' s.heap s'.heap)(a:qN X.prog X.w H' s'.heap)(g:AllBare s'.gens)
  (h:∀b∈ch,(b∈X.ex∨X.s0.heap.objs.size<=b)/\b≠X.env.locals/\(∀x c,X.env.cells.lookup x=some c->c≠b)/\∀p∈X.pn++l0,p.1≠b):Inv X l0 σ H' s':=by
 obtain⟨i,f,D,t,d⟩:=s';have e:d=s.os:=o;subst e;exact I.call (g':=f) (t':=t) (d':=D) u a g h
end
abbrev XK:=Value->Option Addr->Hp->Prop
noncomputable abbrev St:=List (Option V)
abbrev VK:=V->Hp->Prop
abbrev TE:=St->Hp->VK->Prop
abbrev TT:=St->Hp->(Bool->Hp->Prop)->Prop
abbrev TA:=St->Hp->(List V->Hp->Prop)->Prop
structure Ends where
 nx:St->Hp->Prop
 rt:VK
 bk:St->Hp->Prop:=λ_ _=>False
 ct:St->Hp->Prop:=λ_ _=>False
abbrev TS:=Ends->St->Hp->Prop
inductive EP (X:Cx)(l0:bU)(σ:St)(Q:VK)(u:Value)(s':Shared):Prop
 |mk (v:V) (H':Hp) (I:Inv X l0 σ H' s') (r:RelV v u) (q:Q v H')
def TP (X:Cx)(p:bU)(a:St)(Q:Bool->Hp->Prop)(b:Bool)(s:Shared):Prop:=∃H,Inv X p a H s/\Q b H
inductive AP (X:Cx)(l0:bU)(σ:St)(Q:List V->Hp->Prop)(us:bS)(s':Shared):Prop
 |mk (vs:List V) (H':Hp) (I:Inv X l0 σ H' s') (r:Vals vs us) (q:Q vs H')
def SP (X:Cx)(p:bU)(D:Ends)(f:Flow)(s:Shared):Prop:=
 match f with
 |.next=>∃a H,Inv X p a H s/\D.nx a H|.brk=>∃a H,Inv X p a H s/\D.bk a H|.cont=>∃a H,Inv X p a H s/\D.ct a H|.ret u=>∃v a H,Inv X p a H s/\RelV v u/\D.rt v H
def PE (X:Cx)(e:Expr)(t:TE):Prop:=
 ∀(l0:bU)(s:Shared)(σ:St)(H:Hp)(Q:VK),Inv X l0 σ H s->t σ H Q->wpAny (model X.prog X.w) X.A (eval e X.env) (EP X l0 σ Q) X.xe s
def PT (X:Cx)(e:Expr)(t:TT):Prop:=
 ∀(l0:bU)(s:Shared)(σ:St)(H:Hp)(Q:Bool->Hp->Prop),Inv X l0 σ H s->t σ H Q->wpAny (model X.prog X.w) X.A (isTrue e X.env (eval e X.env)) (TP X l0 σ Q) X.xe s
def PW (X:Cx)(e:Expr)(t:TT):Prop:=
 ∀(whole:Sem Value)(l0:bU)(s:Shared)(σ:St)(H:Hp)(Q:Bool->Hp->Prop),Inv X l0 σ H s->t σ H Q->wpAny (model X.prog X.w) X.A (isTrue e X.env whole) (TP X l0 σ Q) X.xe s
def PW.pt {X:Cx}{t:TT}(h:PW X e t):PT X e t:=h _
def PA (X:Cx)(e:bY)(t:TA):Prop:=
 ∀(pos:Pos)(l0:bU)(s:Shared)(σ:St)(H:Hp)(Q:List V->Hp->Prop),Inv X l0 σ H s->t σ H Q->wpAny (model X.prog X.w) X.A (spliced (backTo pos (starEach e X.env))) (AP X l0 σ Q) X.xe s
def PS (X:Cx)(S:Stmt)(t:TS):Prop:=
 ∀(l0:bU)(s:Shared)(σ:St)(H:Hp)(D:Ends),Inv X l0 σ H s->t D σ H->wpAny (model X.prog X.w) X.A (exec S X.env) (SP X l0 D) X.xe s
def yo (X:Cx)(S:cg)(t:TS):Prop:=
 ∀(l0:bU)(s:Shared)(σ:St)(H:Hp)(D:Ends),Inv X l0 σ H s->t D σ H->wpAny (model X.prog X.w) X.A (execs S X.env) (SP X l0 D) X.xe s
def zQ {t:Sem α}{Q q:α->Shared->Prop}{A:Around}(h:wpAny M A t Q E s)(H:∀a s,Q a s->q a s):wpAny M A t q E s:=wpAny_mono h H λ_ _ x=>x
section
variable {X:Cx}
def cF (i:Nat):TE:=λa H Q=>∃v,a[i]? =some (some v)/\Q v H
def tC (v:V):TE:=λ_ H Q=>Q v H
def cG (n:X.N[i]? =some x)(g:WO X.env.scope x)(o:(x==("__debug__":Str))=false:=by decide)(d:(x==("__classdict__":Str))=false:=by decide):PE X (.Name x pos) (cF i):=by
 intro p s q H Q I h;obtain⟨v,e,h⟩:=h;obtain⟨m,t,j⟩:=I.loc;obtain⟨u,r,l⟩:=j i x v n e g;have fin:EP X p q Q u s:=⟨v,H,I,r,h⟩;rcases l with ⟨b,w⟩|⟨b,c,f,a⟩
 ·exact wpAny_Name (wpAny_loadName_local I.ok.kind b t w fin) o
 ·rcases b with b|b
  ·exact wpAny_Name (wpAny_loadName_cell I.ok.kind b f a fin) o
  ·exact wpAny_Name (wpAny_loadName_free I.ok.kind b f a fin d) o
def cH {i j pos}:PE X (.Constant (.int i) j pos) (tC (.int i)):=λ_ _ _ H _ I h=>wpAny_Constant_int ⟨.int i,H,I.tok _,⟨_,rfl⟩,h⟩
def cI {b j pos}:PE X (.Constant (.bool b) j pos) (tC (.bl b)):=λ_ _ _ H _ I h=>Constant_bool ⟨.bl b,H,I,rfl,h⟩
def cJ {j pos}:PE X (.Constant .none j pos) (tC .non):=λ_ _ _ H _ I h=>Constant_none ⟨.non,H,I,rfl,h⟩
def cK {x j pos}:PE X (.Constant (.str x) j pos) (tC (.str x)):=λ_ _ _ H _ I h=>Calls.Constant_str ⟨.str x,H,I.tok _,⟨_,rfl⟩,h⟩
def Gl (X:Cx)(x:Str):Prop:=X.env.kindOf x=some .globalImplicit
def JW {a:St}{H:Hp}(I:Inv X l0 a H s)(g:Gl X x)(b:X.mg x=some u)(h:Q u s)
  (d:(x==("__debug__":Str))=false:=by decide):wpAny (model X.prog X.w) X.A (eval (.Name x pos) X.env) Q E s:=
 Calls.Name_function_global I.ok.kind g (Calls.loadGlobal_global (by rw[I.ok.glob];exact I.mod.glob.keeps I.bk) b h) d
def gJ {b:St}{H:Hp}(I:Inv X l0 b H s)(g:Gl X x)(c:X.mg x=none)(v:bootBuiltins x=some u)(h:Q u s)
  (n:x ≠ "__name__":=by decide)(d:(x==("__debug__":Str))=false:=by decide):wpAny (model X.prog X.w) X.A (eval (.Name x pos) X.env) Q E s:=by
 obtain⟨M,e,a⟩:=I.mod.blt;exact Calls.Name_function_global I.ok.kind g (Calls.loadGlobal_builtin (by rw[I.ok.glob];exact I.mod.glob.keeps I.bk) c (by rw[I.ok.blt];exact e.keeps I.bk) ((a x n).trans v) h) d
def Bi {v:V}(g:Gl X x)(a:X.mg x=some u)(r:RelV v u)(d:(x==("__debug__":Str))=false:=by decide):PE X (.Name x pos) (tC v):=
 λ_ _ _ H _ I h=>JW I g a ⟨v,H,I,r,h⟩ d
def Kz {v:V}(g:Gl X x)(b:X.mg x=none)(a:bootBuiltins x=some u)(r:RelV v u)(n:x ≠ "__name__":=by decide)(d:(x==("__debug__":Str))=false:=by decide):PE X (.Name x pos) (tC v):=
 λ_ _ _ H _ I h=>gJ I g b a ⟨v,H,I,r,h⟩ n d
variable {a b:Expr}{ta tb:TE}
def DF (b:Expr)(h:op≠.In)(H:op≠.NotIn):behindInMarks op b=false:=by
 have E:(op==CmpOp.In)=false:=by cases op<;>first|rfl|exact absurd rfl h
 have e:(op==CmpOp.NotIn)=false:=by cases op<;>first|rfl|exact absurd rfl H
 cases b<;>simp[behindInMarks,E,e]
def tB (t:TE):TT:=λa H Q=>t a H λx h=>∃c,x=.bl c/\Q c h
def cL {t:TE}(h:PE X e t)(f:∀w,isTrue e X.env w=(do let v <- w;standAt e.pos;holding [v] (truthy v)):=by intro _;rfl):PT X e (tB t):=by
 intro p s b H Q I c;refine isTrue_plain (zQ (h p s b H _ I c) λv S ⟨x,g,i,r,a⟩=>?_) (f _);obtain⟨d,rfl,q⟩:=a;cases r;exact wpAny_truthy_bool ⟨g,i,q⟩
variable {tA tB':TT}{lI:bY}
def cM (t u:TT):TT:=λa H Q=>t a H λc h=>if c=true then u a h Q else Q false h
def cN (t u:TT):TT:=λa H Q=>t a H λc h=>if c=true then Q true h else u a h Q
def cO (t:TT):TT:=λa H Q=>t a H λc h=>Q (!c) h
def pw_and1 (b:PT X a tA):PW X (.BoolOp .And [a] pos) tA:=by
 intro w p s d H Q I h;refine isTrue_and (zQ (b p s d H Q I h) λc S e=>?_);cases c with
 |true=>exact isTrue_and_nil e|false=>exact e
def pw_or1 (b:PT X a tA):PW X (.BoolOp .Or [a] pos) tA:=by
 intro w p s d H Q I h;refine isTrue_or (zQ (b p s d H Q I h) λc S e=>?_);cases c with
 |false=>exact isTrue_or_nil e|true=>exact e
def pw_and (e:PT X a tA)(d:PW X (.BoolOp .And (b::lI) pos) tB'):PW X (.BoolOp .And (a::b::lI) pos) (cM tA tB'):=by
 intro w p s f H Q I h;refine isTrue_and (zQ (e p s f H _ I h) λc S ⟨g,i,q⟩=>?_);cases c with
 |true=>exact d w p S f g Q i q|false=>exact⟨g,i,q⟩
def pw_or (e:PT X a tA)(d:PW X (.BoolOp .Or (b::lI) pos) tB'):PW X (.BoolOp .Or (a::b::lI) pos) (cN tA tB'):=by
 intro w p s f H Q I h;refine isTrue_or (zQ (e p s f H _ I h) λc S ⟨g,i,q⟩=>?_);cases c with
 |true=>exact⟨g,i,q⟩|false=>exact d w p S f g Q i q
def cP (b:PT X a tA):PT X (.UnaryOp .Not a pos) (cO tA):=by
 intro p s d H Q I h;exact isTrue_not (b p s d H (λc e=>Q (!c) e) I h)
def cQ (T t:TE):TE:=λa H Q=>T a H λx h=>∃c,x=.bl c/\if c=true then t a h Q else Q (.bl false) h
def cR (t:TE):TE:=λa H Q=>t a H λx h=>∃c,x=.bl c/\Q (.bl (!c)) h
def cS {op}{t:TE}(h:PE X a t):PE X (.BoolOp op [a] pos) t:=λp s b H Q I w=>BoolOp_one (h p s b H Q I w)
def cT (e:PE X a ta)(d:PE X (.BoolOp .And (b::lI) pos) tb):PE X (.BoolOp .And (a::b::lI) pos) (cQ ta tb):=by
 intro p s f H Q I h;refine BoolOp_and (zQ (e p s f H _ I h) λv S ⟨x,g,i,r,q⟩=>?_);obtain⟨c,rfl,q⟩:=q;cases r;refine wpAny_truthy_bool ?_;cases c with
 |true=>exact d p S f g Q i q|false=>exact⟨.bl false,g,i,rfl,q⟩
def cU (b:PE X a ta):PE X (.UnaryOp .Not a pos) (cR ta):=by
 intro p s d H Q I h;refine UnaryOp_ (zQ (b p s d H _ I h) λv S ⟨x,e,i,r,q⟩=>?_);obtain⟨c,rfl,q⟩:=q;cases r;exact not_of (wpAny_truthy_bool ⟨.bl (!c),e,i,rfl,q⟩)
def cV (t:TT)(a T:TE):TE:=λb H Q=>t b H λc h=>if c=true then a b h Q else T b h Q
def Du {c:Expr}(e:PT X c tA)(g:PE X a ta)(f:PE X b tb):PE X (.IfExp c a b pos) (cV tA ta tb):=by
 intro p s j H Q I h;refine wpAny_IfExp (zQ (e p s j H _ I h) λd S ⟨l,i,q⟩=>?_);cases d with
 |true=>exact g p S j l Q i q|false=>exact f p S j l Q i q
end
def qI (K:Frag)(H:Hp)(a:Addr)(x:List V):Prop:=
 Rd H a (.lst x)∨
  ∃(o:Obj) (l6:Array Value) (n:Nat),K.lookup a=some o/\o.cls=.type "list" /\ o.dict=none/\o.data=.seq l6 n/\l6.size<=sizeLine/\Vals x l6.toList
def qp (K:Frag)(H:Hp)(a:Addr)(x:List V):Prop:=
 Rd H a (.tup x)∨
  ∃(o:Obj) (l6:Array Value) (n:Nat),K.lookup a=some o/\(o.cls=.type "tuple" /\ o.dict=none)/\o.data=.seq l6 n/\l6.size<=sizeLine/\Vals x l6.toList
noncomputable def cW:Value->Option V
 |.none=>some .non|.bool b=>some (.bl b)|.int i _=>some (.int i)|.str x _=>some (.str x)|.bytes b _=>some (.byt b)|.float b _=>some (.flt b)|.ref a=>some (.ref a)|.type n=>some (.ty n)|_=>none
def RelV.abs {x:V}(r:RelV x u):cW u=some x:=by
 cases x with
 |non=>cases r;rfl|bl _=>cases r;rfl|int _=>obtain⟨t,rfl⟩:=r;rfl|str _=>obtain⟨t,rfl⟩:=r;rfl|byt _=>obtain⟨t,rfl⟩:=r;rfl|flt _=>obtain⟨t,rfl⟩:=r;rfl|ref _=>cases r;rfl|ty _=>cases r;rfl
def RelV.inj {x y:V}(r:RelV x u)(q:RelV y u):x=y:=aB (r.abs.symm.trans q.abs)
theorem Vals.inj:∀{x y:List V}{u:bS},Vals x u->Vals y u->x=y
 |_,_,_,.nil,.nil=>rfl|_,_,_,.cons r t,.cons a t'=>by rw[r.inj a,Vals.inj t t']
section
variable {X:Cx}{σ:St}{H:Hp}{xs ys:List V}
def qI.of {K:Frag}(h:H a=some (.lst xs)):qI K H a xs:=.inl (.inl h)
def qp.of {K:Frag}(h:H a=some (.tup xs)):qp K H a xs:=.inl (.inl h)
def Inv.list (I:Inv X l0 σ H s)(h:qI X.K H a xs):∃i:bS,Vals xs i/\PlainL s.heap a i.toArray/\xs.length<=sizeLine:=by
 rcases h with h|⟨o,i,n,c,d,hd,b,f,r⟩
 ·obtain⟨z,i,n,r,e⟩:=h.ok I.hok
  exact⟨i,r,⟨_,n,e,rfl,rfl,rfl⟩,z⟩
 ·refine⟨i.toList,r,⟨o,n,I.kIn a o c,d,hd,by simpa using b⟩,?_⟩
  have e:=r.length;simp only[aQ]at e;omega
def Inv.tuple (I:Inv X l0 σ H s)(h:qp X.K H a xs):∃i:bS,Vals xs i/\IsTup s.heap a i.toArray/\xs.length<=sizeLine:=by
 rcases h with h|⟨o,i,n,c,d,b,f,r⟩
 ·obtain⟨z,i,r,p⟩:=h.ok I.hok
  exact⟨i,r,p.tup,z⟩
 ·refine⟨i.toList,r,⟨o,I.kIn a o c,d.1,n,by simpa using b⟩,?_⟩
  have e:=r.length;simp only[aQ]at e;omega
def Inv.list_inj (I:Inv X l0 σ H s)(h:qI X.K H a xs)(g:qI X.K H a ys):xs=ys:=by
 obtain⟨i,r,⟨o,n,e,_,_,d⟩,_⟩:=I.list h;obtain⟨c,b,⟨j,N,E,_,_,f⟩,_⟩:=I.list g;rw[e]at E;cases E;rw[d]at f;injection f with D _
 have:i=c:=by simpa using congrArg Array.toList D
 subst this;exact r.inj b
def Inv.tuple_inj (I:Inv X l0 σ H s)(h:qp X.K H a xs)(g:qp X.K H a ys):xs=ys:=by
 obtain⟨i,r,⟨o,e,_,n,d⟩,_⟩:=I.tuple h;obtain⟨c,b,⟨j,E,_,N,f⟩,_⟩:=I.tuple g;rw[e]at E;cases E;rw[d]at f;injection f with D _
 have:i=c:=by simpa using congrArg Array.toList D
 subst this;exact r.inj b
end
noncomputable abbrev Cx.wish (X:Cx)(E:bX):Cx:={ X with xe:=E }
noncomputable abbrev Cx.nox (X:Cx):Cx:=X.wish λ_ _=>False
theorem Cx.Ok.wish {X:Cx}(ok:X.Ok)(E:bX):(X.wish E).Ok:=
 ⟨ok.mod,ok.kind,ok.glob,ok.blt,ok.above,ok.inj,ok.has,ok.cab,ok.hd,ok.frames,ok.stk,ok.exf,ok.bs,ok.bsz,ok.noex,ok.exfs,ok.funs,ok.frf⟩
def Cx.Ok.unwish {X:Cx}(ok:(X.wish E).Ok):X.Ok:=
 ⟨ok.mod,ok.kind,ok.glob,ok.blt,ok.above,ok.inj,ok.has,ok.cab,ok.hd,ok.frames,ok.stk,ok.exf,ok.bs,ok.bsz,ok.noex,ok.exfs,ok.funs,ok.frf⟩
section
variable {X:Cx}{σ:St}{H:Hp}
theorem Inv.wish (I:Inv X l0 σ H s)(E:bX):Inv (X.wish E) l0 σ H s:=⟨I.ok.wish E,I.os,I.bare,I.base,I.loc,I.cell,I.free,I.freeC,I.pin,I.hok,I.len⟩
theorem Inv.unwish (I:Inv (X.wish E) l0 σ H s):Inv X l0 σ H s:=⟨I.ok.unwish,I.os,I.bare,I.base,I.loc,I.cell,I.free,I.freeC,I.pin,I.hok,I.len⟩
theorem SP.unwish {D:Ends}{f:Flow}(h:SP (X.wish E) l0 D f s'):SP X l0 D f s':=by
 cases f with
 |next=>obtain⟨a,H,I,q⟩:=h;exact⟨a,H,I.unwish,q⟩|brk=>obtain⟨a,H,I,q⟩:=h;exact⟨a,H,I.unwish,q⟩|cont=>obtain⟨a,H,I,q⟩:=h;exact⟨a,H,I.unwish,q⟩|ret u=>obtain⟨v,a,H,I,r,q⟩:=h;exact⟨v,a,H,I.unwish,r,q⟩
theorem PT.nox {t:TT}(h:PT X.nox e t):PT X e t:=λp s b H Q I w=>
 wpAny_mono (h p s b H Q (I.wish _) w) (λ_ _ ⟨a,i,q⟩=>⟨a,i.unwish,q⟩) λ_ _ z=>False.elim z
theorem yo.nox {S:cg}{t:TS}(h:yo X.nox S t):yo X S t:=λp s a H D I w=>
 wpAny_mono (h p s a H D (I.wish _) w) (λ_ _ q=>q.unwish) λ_ _ z=>False.elim z
end
section
variable {X:Cx}{st:Stmt}{lI:cg}{t u:TS}{te:TE}
def cX:TS:=λD a H=>D.nx a H
def cY (t u:TS):TS:=λD a H=>t { D with nx:=u D } a H
def AS:yo X [] cX:=λ_ _ a H _ I h=>wpAny_execs_nil ⟨a,H,I,h⟩
def Cr (e:PS X st t)(b:yo X lI u):yo X (st::lI) (cY t u):=by
 intro p s d H D I h;refine wpAny_execs_cons (zQ (e p s d H { D with nx:=u D } I h) λf S q=>?_)
 cases f with
 |next=>
  obtain⟨a,c,i,q⟩:=q;exact b p S a c D i q
 |ret v=>exact q|brk=>exact q|cont=>exact q
def Inv.quiet {a:St}{H:Hp}(I:Inv X l0 a H s):interactive X.env=false:=by simp[interactive,I.ok.kind]
def cZ (t:TE):TS:=λD a H=>t a H λ_ h=>D.nx a h
def Bb (c:PE X e te)(a:swapsWith e none pos.line X.env=pure false:=by rfl):PS X (.Expr e pos) (cZ te):=by
 intro p s b H D I h;exact wpAny_Expr_any (zQ (c p s b H _ I h) λv S ⟨x,d,i,r,q⟩=>⟨b,d,i,q⟩) I.quiet a
def c3 (t:TE):TS:=λD a H=>t a H D.rt
def c4 (b:PE X e te):PS X (.Return (some e) pos) (c3 te):=by
 intro p s a H D I h;exact wpAny_Return_some (zQ (b p s a H _ I h) λv S ⟨x,c,i,r,q⟩=>⟨x,a,c,i,r,q⟩)
def c5 (c:TT)(t u:TS):TS:=λD a H=>c a H λb h=>if b=true then t D a h else u D a h
def c6 {c:Expr}{a b:cg}{T:TT}(e:PT X c T)(g:yo X a t)(f:yo X b u):PS X (.If c a b pos) (c5 T t u):=by
 intro p s j H D I h;refine wpAny_If (zQ (e p s j H _ I h) λd S ⟨l,i,q⟩=>?_);cases d with
 |true=>exact g p S j l D i q|false=>exact f p S j l D i q
end
abbrev TG:=V->St->Hp->(St->Hp->Prop)->Prop
abbrev QV:=List V->St->Hp->(St->Hp->Prop)->Prop
def PG (X:Cx)(T:Expr)(t:TG):Prop:=
 ∀(l0:bU)(s:Shared)(σ:St)(H:Hp)(v:V)(u:Value)(Q:St->Hp->Prop),Inv X l0 σ H s->RelV v u->t v σ H Q->
  wpAny (model X.prog X.w) X.A (assign T X.env u) (λ_ S=>∃a h,Inv X l0 a h S/\Q a h) X.xe s
def WU (X:Cx)(T:bY)(t:QV):Prop:=
 ∀(l0:bU)(s:Shared)(σ:St)(H:Hp)(vs:List V)(us:bS)(Q:St->Hp->Prop),Inv X l0 σ H s->Vals vs us->t vs σ H Q->
  wpAny (model X.prog X.w) X.A (assignInOrder ((assignEach T X.env).map (·.2)) us) (λ_ S=>∃a h,Inv X l0 a h S/\Q a h) X.xe s
abbrev Z9:=V->V->V->Hp->(Hp->Prop)->Prop
def Yo (X:Cx)(t:Z9):Prop:=
 ∀(l0:bU)(s:Shared)(σ:St)(H:Hp)(o i v:V)(a I u:Value)(Q:Hp->Prop),Inv X l0 σ H s->RelV o a->RelV i I->RelV v u->t o i v H Q->
  wpAny (model X.prog X.w) X.A (setItem a I u) (λ_ S=>∃h,Inv X l0 σ h S/\Q h) X.xe s
section
variable {X:Cx}
def Wl (i:Nat):TG:=λv a H Q=>Q (a.set i (some v)) H
def Xr (b:X.N.Nodup)(d:X.N[i]? =some x)(a:Loc X.env.scope x)(f:X.fn x=true∨X.env.scope.names.lookup x=some .local:=by first|exact .inl rfl|exact .inr rfl|assumption):PG X (.Name x pos) (Wl i):=by
 intro p s e H v u Q I r h;exact wpAny_assign_Name (Jf I b d a r (λS c=>⟨_,H,c,h⟩) f)
def c7:QV:=λv a H Q=>v=[]/\Q a H
def c8 (t:TG)(u:QV):QV:=λs b H Q=>∃v r,s=v::r/\t v b H λa h=>u r a h Q
def Pd:WU X [] c7:=by
 intro p s a H v u Q I r h;obtain⟨e,h⟩:=h;subst e;cases r;exact assignInOrder_nil ⟨a,H,I,h⟩
def Kg {E:bY}{t:TG}{u:QV}(l:PG X e t)(d:WU X E u)
  (c:(assignEach (e::E) X.env).map (·.2)=assign e X.env::(assignEach E X.env).map (·.2):=by rfl):WU X (e::E) (c8 t u):=by
 intro p s j H o U Q I r h;obtain⟨v,g,f,h⟩:=h;subst f;cases r with
 |cons r b=>
  rw[c];refine assignInOrder_cons (zQ (l p s j H _ _ _ I r h) λ_ S ⟨a,n,i,q⟩=>?_);exact d p S a n _ _ Q i b q
def yg (K:Frag)(n:Nat)(t:QV):TG:=λv b H Q=>∃a x,v=.ref a/\qp K H a x/\x.length=n/\t x b H Q
def P1 {E:bY}{k:Nat}{t:QV}(g:X.calm=true)(h:WU X E t)
  (B:(assignEach E X.env).length=n:=by rfl)(c:(assignEach E X.env).findIdx? (·.1)=none:=by rfl):PG X (.Tuple E k pos) (yg X.K n t):=by
 intro P s y H v u Q I r w;obtain⟨a,A,j,q,l,w⟩:=w;subst j;cases r;obtain⟨i,d,f,z⟩:=I.tuple q;refine assign_Tuple_tuple (I.ok.hd g) f (by simp[B,<- l,d.length]) c λC x=>?_
 have p:Inv X P y H { s with heap:=C }:=I.kept (t':=s.toks) λb o e=>x b o (aJ (aG e)) e
 exact h P _ y H A _ Q p (by simpa using d) w
def j5 (to T:TE)(t:Z9):TG:=λv b H Q=>to b H λo c=>T b c λi a=>t o i v a λh=>Q b h
def XU {o i:Expr}{to T:TE}{t:Z9}(f:PE X o to)(B:PE X i T)(e:Yo X t)
  (g:∀v,assign (.Subscript o i pos) X.env v=(do
   let ov <- holding [v] (eval o X.env)
   let iv <- holding [v,ov] (eval i X.env)
   standAt pos
   holding [v,ov,iv] (setItem ov iv v)
   release [v,ov,iv] []):=by intro _;rfl):PG X (.Subscript o i pos) (j5 to T t):=by
 intro P s z H v u Q I r h;rw[g];refine ck (wpAny_holding (zQ (f P s z H _ I h) λov A ⟨x,C,n,b,d⟩=>?_));refine ck (wpAny_holding (zQ (B P A z C _ n d) λiv S ⟨y,w,l,a,c⟩=>?_));refine ck (wpAny_standAt (ck (wpAny_holding (zQ (e P S z w x y v ov iv u _ l b a r c) λ_ D ⟨p,j,q⟩=>?_))));exact wpAny_release ⟨z,p,j,q⟩
def Ws (t:TE)(g:TG):TS:=λD a H=>t a H λx h=>g x a h D.nx
def X3 {t:TE}{g:TG}(d:PE X e t)(b:PG X tg g)(a:swapsWithSole [tg] e pos.line X.env=pure false:=by rfl)(w:swappedStores [tg] e X.env=pure none:=by rfl)
  (f:(assignEach [tg] X.env).map (·.2)=[assign tg X.env]:=by rfl):PS X (.Assign [tg] e pos) (Ws t g):=by
 intro p s c H D I h;refine wpAny_Assign_stores (zQ (d p s c H _ I h) λv S ⟨x,j,i,r,Q⟩=>?_) a w;rw[f];exact zQ (b p S c j x v _ i r Q) λ_ l q=>q
def c9 {t:TE}{p:Pos}(c:X.N.Nodup)(j:X.N[i]? =some x)(a:Loc X.env.scope x)(n:PE X e t)(b:swapsWith e (some (.Name x p)) pos.line X.env=pure false:=by rfl)(l:X.fn x=true∨X.env.scope.names.lookup x=some .local:=by first|exact .inl rfl|exact .inr rfl|assumption):
  PS X (.Assign [.Name x p] e pos) (Ws t (Wl i)):=by
 intro P s g H D I h;refine wpAny_Assign_Name (zQ (n P s g H _ I h) λv u ⟨y,o,f,r,q⟩=>?_) b;exact Jf f c j a r (λS d=>⟨_,o,d,q⟩) l
def da (i j:Nat)(t:TA):TS:=λD a H=>t a H λs h=>∃v w,s=[v,w]/\D.nx ((a.set i (some v)).set j (some w)) h
def dc {y:Str}{a b:Expr}{t:TA}{P py pt:Pos}{kt k2 pt2}(L:X.calm=true)(l:X.N.Nodup)(hi:X.N[i]? =some x)(K:X.N[j]? =some y)(d:i≠j)
  (g:X.env.scope.names.lookup x=some .local)(f:X.env.scope.names.lookup y=some .local)(M:PA X [a,b] t)
  (hw:swappedStores [.Tuple [.Name x P,.Name y py] kt pt] (.Tuple [a,b] k2 pt2) X.env=pure (some [x,y]))
  (J:swapsWithSole [.Tuple [.Name x P,.Name y py] kt pt] (.Tuple [a,b] k2 pt2) pos.line X.env=pure false:=by rfl):
  PS X (.Assign [.Tuple [.Name x P,.Name y py] kt pt] (.Tuple [a,b] k2 pt2) pos) (da i j t):=by
 intro l0 s σ H D I h;rw[exec_Assign_arm];refine ck (wpAny_standAt ?_);rw[J];refine ck (cm ?_);rw[ai (by decide)]
 refine ck (Tuple_ (zQ (M _ l0 s σ H _ I h) λus s1 ⟨vs,H1,I1,B,Q⟩=>?_));obtain⟨v,w,S,Q⟩:=Q;subst S;obtain⟨U,u,rfl,z,r⟩:∃U u,us=[U,u]/\RelV v U/\RelV w u:=by
  cases B with
  |cons p q=>
   cases q with
   |cons E C=>
    cases C;exact⟨_,_,rfl,p,E⟩
 refine wpAny_newObj_type ?_ (by show 2<=sizeLine;decide)
 have Z:Inv X l0 σ H1 { s1 with heap:=s1.heap.push { cls:=.type "tuple",data:=.seq [U,u].toArray } }:=I1.kept (t':=s1.toks) λb o e=>af _ e
 rw[hw];refine ck (cm ?_);show wpAny (model X.prog X.w) X.A (do rule "assign.swapped-stores";let items <- unpackItems (.ref s1.heap.objs.size) 2 none;assignInOrder [λv=>bindName X.env y v,λv=>bindName X.env x v] items.reverse;pure Flow.next) _ _ _
 refine ck (wpAny_rule (ck (unpackItems_tuple (items:=#[U,u]) (I.ok.hd L) (IsTup.new s1.heap _) λh' c=>?_)));have Y:=Z.kept (h':=h') (t':=s1.toks) λb o e=>c b o (aJ (aG e)) e;show wpAny _ _ (assignInOrder [λv=>bindName X.env y v,λv=>bindName X.env x v] [u,U] >>= λ_=>pure Flow.next) _ _ _;refine ck (assignInOrder_cons (wpAny_bindName (Jf Y l K (.inl f) r (λs2 T=>?_) (.inr f))));refine assignInOrder_cons (wpAny_bindName (Jf T l hi (.inl g) z (λs3 n=>assignInOrder_nil (cm ?_)) (.inr g)));rw[List.set_comm _ _ (Ne.symm d)]at n;exact⟨_,H1,n,Q⟩
def de (c:TT)(t:TS):TS:=λD d H=>∃W:Nat->St->Hp->Prop,(∃m,W m d H)/\∀m d H,W m d H->
 c d H λb e=>if b=true then ∃N:St->Hp->Prop,(∀a h,N a h->∃M,M<m/\W M a h)/\t { D with nx:=N,ct:=N,bk:=D.nx } d e else D.nx d e
def DW {c:Expr}{t:TT}{T:TS}(p:PassesOwn (model X.prog X.w) X.A X.env X.xe)(B:PT X c t)(C:yo X body T):PS X (.While c body [] pos) (de t T):=by
 intro P s L H D I h;obtain⟨W,⟨Z,z⟩,turn⟩:=h;refine wpAny_While (codeAny_whileLoop (λn Y=>∃e x,Inv X P e x Y/\W n e x) ?_ Z ⟨L,H,I,z⟩)
 rintro n U ⟨d,K,E,y⟩
 refine wpAny_passesOwn p (zQ (B P U d K _ E (turn n d K y)) λb S ⟨u,r,Q⟩=>?_);cases b with
 |true=>
  obtain⟨N,o,Q⟩:=Q;rw[ah rfl];refine wpAny_passesOwn p (zQ (C P S d u _ r Q) λf s3 q=>?_);cases f with
  |next=>
   obtain⟨a,g,l,j⟩:=q;obtain⟨M,J,i⟩:=o a g j;exact⟨M,J,a,g,l,i⟩
  |cont=>
   obtain⟨a,g,l,j⟩:=q;obtain⟨M,J,i⟩:=o a g j;exact⟨M,J,a,g,l,i⟩
  |brk=>exact q|ret v=>exact q
 |false=>
  rw[ai aA];exact wpAny_execs_nil ⟨d,u,r,Q⟩
end
structure It where
 go:Nat->Hp->Prop
 yld:Nat->Hp->V->Hp->Prop
 stop:Nat->Hp->Prop
def kz (X:Cx)(P:bU)(H:Hp)(b:Addr):Prop:=
 H b=none/\b≠X.env.locals/\b∉X.fs/\(b∈X.ex∨X.s0.heap.objs.size<=b)/\(∀x c,X.env.cells.lookup x=some c->c≠b)/\∀p∈X.pn++P,p.1≠b
def Inv.fpOk {X:Cx}{f:St}{H a:Hp}(I:Inv X l0 f H s)(h:s.heap.objs.size<=b)(n:a b=none):kz X l0 a b:=by
 refine⟨n,br (aF I.lt h),I.nofs h,.inr (a3 I.sz h),λx c e z=>?_,λp d z=>?_⟩
 ·obtain⟨v,q⟩:=I.cell x c e
  exact absurd (aF q.lt (by rw[z];exact h)) (aV _)
 ·exact absurd (aF (aG (I.pin p d).1) (by rw[z];exact h)) (aV _)
structure Turn (P:Program)(w:World)(K:Frag)(tg:Expr)(J:It)(fp:bT)(it:Addr)(tn:Nat->Heap->Prop):Prop where
 mem:it∈fp
 obj:∀i h,tn i h->∀b∈fp,∃o,h.get? b=some o/\∀v,o.data≠.cell v
 keep:∀i h h',tn i h->(∀b∈fp,∀o,h.get? b=some o->h'.get? b=some o)->tn i h'
 item:∀(X:Cx),X.prog=P->X.w=w->X.K=K->X.calm=true->∀(i:Nat)(l0:bU)(s:Shared)(σ:St)(H:Hp)(E:bX),Inv X l0 σ H s->(∀b∈fp,kz X l0 H b)->tn i s.heap->J.go i H->
  wpAny (model P w) X.A (pyNext (.ref it)) (λr s1=>∃u,r=some u/\
   wpAny (model P w) X.A (letOwnedTupleGo tg (.ref it) u) (λ_ s2=>∃x H',Inv X l0 σ H' s2/\RelV x u/\J.yld i H x H'/\tn (i+1) s2.heap/\∀b∈fp,H' b=none) E s1) E s
 done:∀(X:Cx),X.prog=P->X.w=w->X.K=K->X.calm=true->∀(i:Nat)(l0:bU)(s:Shared)(σ:St)(H:Hp)(E:bX),Inv X l0 σ H s->(∀b∈fp,kz X l0 H b)->tn i s.heap->J.stop i H->
  wpAny (model P w) X.A (pyNext (.ref it)) (λr s1=>r=none/\Inv X l0 σ H s1) E s
 self:∀(A:Around)(i:Nat)(s:Shared)(Q:bX)(E:bX),tn i s.heap->Q (.ref it) s->wpAny (model P w) A (pyIter (.ref it)) Q E s
abbrev TI:=St->Hp->(It->Hp->Prop)->Prop
inductive NH (X:Cx)(l0:bU)(σ:St)(tg:Expr)(R:It->Hp->Prop)(itv:Value)(s2:Shared):Prop
 |mk (it:Addr) (fp:bT) (tn:Nat->Heap->Prop) (J:It) (H':Hp) (e:itv=.ref it) (I:Inv X l0 σ H' s2) (T:Turn X.prog X.w X.K tg J fp it tn) (t0:tn 0 s2.heap) (f:(∀b∈fp,kz X l0 H' b)) (q:R J H')
def PI (X:Cx)(t I:Expr)(i:TI):Prop:=
 ∀(l0:bU)(s:Shared)(σ:St)(H:Hp)(R:It->Hp->Prop),Inv X l0 σ H s->i σ H R->
  wpAny (model X.prog X.w) X.A (eval I X.env) (λv S=>wpAny (model X.prog X.w) X.A (pyIter v) (NH X l0 σ t R) X.xe S) X.xe s
def Vi {A:Around}{o:Obj}{n:String}{v:Array Value}{Q:Unit->Shared->Prop}(a:s.heap.get? it=some o)(c:o.cls=.type n)(d:o.data=.fields v)
  (b:["enumerate","zip","dict_itemiterator","dict_reverseitemiterator","odict_iterator","itertools.zip_longest","itertools.pairwise"].contains n=false)(H:Q () s):wpAny M A (letOwnedTupleGo tg (.ref it) u) Q E s:=by
 unfold letOwnedTupleGo;cases tg<;>first
  |exact cm H
  |(cases u<;>first
    |exact cm H
    |(
      refine ck (wpAny_load a ?_);rw[c,d];show wpAny M A (if (["enumerate","zip","dict_itemiterator","dict_reverseitemiterator","odict_iterator","itertools.zip_longest","itertools.pairwise"].contains n&&v[0]?==some (rawInt _))=true then _ else _) Q E s;rw[ai (by intro h;rw[b,Bool.false_and]at h;cases h)]
      exact cm H))
noncomputable def NG (K:Frag)(a:Addr):It:=
 ⟨λi H=>∃X x,qI K H a X/\X[i]? =some x,λi H x h=>h=H/\∀X,qI K H a X->X[i]? =some x,λi H=>∃X,qI K H a X/\X.length<=i⟩
noncomputable def NO (K:Frag)(a:Addr):It:=
 ⟨λi H=>∃X x,qp K H a X/\X[i]? =some x,λi H x h=>h=H/\∀X,qp K H a X->X[i]? =some x,λi H=>∃X,qp K H a X/\X.length<=i⟩
noncomputable def YG (l:Int)(n:Nat):It:=⟨λi _=>i<n,λi H x h=>h=H/\x=.int (l+i),λi _=>n<=i⟩
def Fu {K:Frag}(a Z:Addr):Turn P w K tg (NG K a) [Z] Z (λi h=>h.IsListIter Z a i) where
 mem:=by simp
 obj:=λi h U b f=>by
  have e:b=Z:=by simpa using f
  subst e;obtain⟨o,e,c,d⟩:=U;exact⟨o,e,λv z=>by rw[d]at z;cases z⟩
 keep:=λi h h' U k=>U.at λo e=>k Z (by simp) o e
 item:=by
  intro X n hw t B i Y s σ H E I hf U l;subst n hw t;obtain⟨xs,x,q,j⟩:=l;obtain⟨g,r,p,J⟩:=I.list q;obtain⟨u,M,D⟩:=r.get j;obtain⟨f0,f1,f2,A,f4,y⟩:=hf Z (by simp)
  refine wpAny_pyNext_list_item U p.isList (x:=u) (by simpa using M) λh' S C=>?_
  have Q:Inv X Y σ H { s with heap:=h' }:=I.turned (t':=s.toks) (λb o f e=>(C.2 b f).trans e) f0 f1 A f4 y
  obtain⟨o,e,c,d⟩:=id S;exact⟨u,rfl,Vi (s:={ s with heap:=h' }) e c d (by decide) ⟨x,H,Q,D,⟨rfl,λys L=>by rw[I.list_inj L q];exact j⟩,S,λb f=>(hf b f).1⟩⟩
 done:=by
  intro X n hw t B i Y s σ H E I hf U l;subst n hw t;obtain⟨xs,q,j⟩:=l;obtain⟨g,r,p,J⟩:=I.list q;obtain⟨f0,f1,f2,A,f4,y⟩:=hf Z (by simp)
  have T:=r.length;exact wpAny_pyNext_list_end (I.ok.hd B) U p.isList (by simp;omega) λh' N=>⟨rfl,I.turned (t':=s.toks) (λb o f e=>N b o f e) f0 f1 A f4 y⟩
 self:=λ_ _ _ _ _ U h=>wpAny_pyIter_listiter U h
def HB {K:Frag}(a Z:Addr):Turn P w K tg (NO K a) [Z] Z (λi h=>h.IsTupleIter Z a i) where
 mem:=by simp
 obj:=λi h U b g=>by
  have e:b=Z:=by simpa using g
  subst e;obtain⟨o,e,c,d⟩:=U;exact⟨o,e,λv z=>by rw[d]at z;cases z⟩
 keep:=λi h h' U k=>U.at λo e=>k Z (by simp) o e
 item:=by
  intro X n hw t B i Y s σ H E I hf U l;subst n hw t;obtain⟨xs,x,q,j⟩:=l;obtain⟨f,r,p,J⟩:=I.tuple q;obtain⟨u,M,D⟩:=r.get j;obtain⟨f0,f1,f2,A,f4,y⟩:=hf Z (by simp)
  refine wpAny_pyNext_tuple_item U (show s.heap.IsTuple a f.toArray from p) (x:=u) (by simpa using M) λh' S C=>?_
  have Q:Inv X Y σ H { s with heap:=h' }:=I.turned (t':=s.toks) (λb o g e=>(C.2 b g).trans e) f0 f1 A f4 y
  obtain⟨o,e,c,d⟩:=id S;exact⟨u,rfl,Vi (s:={ s with heap:=h' }) e c d (by decide) ⟨x,H,Q,D,⟨rfl,λys L=>by rw[I.tuple_inj L q];exact j⟩,S,λb g=>(hf b g).1⟩⟩
 done:=by
  intro X n hw t B i Y s σ H E I hf U l;subst n hw t;obtain⟨xs,q,j⟩:=l;obtain⟨f,r,p,J⟩:=I.tuple q;obtain⟨f0,f1,f2,A,f4,y⟩:=hf Z (by simp)
  have T:=r.length;exact wpAny_pyNext_tuple_end (I.ok.hd B) U (show s.heap.IsTuple a f.toArray from p) (by simp;omega) λh' N=>⟨rfl,I.turned (t':=s.toks) (λb o g e=>N b o g e) f0 f1 A f4 y⟩
 self:=λ_ _ _ _ _ U h=>wpAny_pyIter_tupleiter U h
def Hu {K:Frag}(y:Addr)(L:Int)(n:Nat):Turn P w K tg (YG L n) [y] y (λi h=>IsRangeIter h y (L+(i:Nat) * 1) ((n:Int)-(i:Nat)) 1) where
 mem:=by simp
 obj:=λi h u b a=>by
  have e:b=y:=by simpa using a
  subst e;exact⟨_,u,λv z=>by
   have Z:Data.fields _=Data.cell v:=z;cases Z⟩
 keep:=λi h B u k=>k y (by simp) _ u
 item:=by
  intro X d C f c i x s N H E I A u g;subst d C f;obtain⟨M,J,U,l,D,j⟩:=A y (by simp)
  have W:=Walks.range (prog:=X.prog) (w:=X.w) (I.ok.hd c) y L 1 n;refine W.item i s _ _ g u λv B T p S Q=>?_;obtain⟨t,rfl⟩:=p;have r:Inv X x N H { s with heap:=B,toks:=T }:=I.turned (λb o a e=>Q b o (by simpa using a) e) M J l D j
  refine⟨_,rfl,Vi (s:={ s with heap:=B,toks:=T }) (n := "range_iterator") S rfl rfl (by decide) ⟨.int (L+i),H,r,⟨t,?_⟩,⟨rfl,rfl⟩,S,λb a=>(A b a).1⟩⟩
  rw[Int.mul_one]
 done:=by
  intro X d C f c i x s N H E I A u g;subst d C f;obtain⟨M,J,U,l,D,j⟩:=A y (by simp)
  exact wpAny_pyNext_range_end (I.ok.hd c) u (by have:n<=i:=g;omega) λB q=>⟨rfl,I.turned (t':=s.toks) (λb o a e=>q b o a e) M J l D j⟩
 self:=λ_ _ _ _ _ u h=>wpAny_pyIter_rangeiter u h
section
variable {X:Cx}
def Rf {n:St}{H:Hp}{R:It->Hp->Prop}{l j:Int}{t u v:Tok}{T:Nat}(I:Inv X l0 n H s)(p:-(2 ^ 62)<=l)(d:l<2 ^ 62)(c:-(2 ^ 62)<=j)(a:j<2 ^ 62)
  (q:R (YG l (j-l).toNat) H):wpAny (model X.prog X.w) X.A (pyIter (.ref s.heap.objs.size)) (NH X l0 n tg R) E { s with heap:=s.heap.push { cls:=.type "range",data:=.fields #[.int l t,.int j u,.int 1 v] },toks:=T }:=by
 refine wpAny_pyIter_range (IsRange.new ..) (small_one p d c a) ?_;have i:Inv X l0 n H { s with heap:=s.heap.push { cls:=.type "range",data:=.fields #[.int l t,.int j u,.int 1 v] },toks:=T }:=I.kept λb o e=>af _ e
 refine⟨(s.heap.push { cls:=.type "range",data:=.fields #[.int l t,.int j u,.int 1 v] }).objs.size,[(s.heap.push { cls:=.type "range",data:=.fields #[.int l t,.int j u,.int 1 v] }).objs.size],_,_,H,rfl,
  i.kept (t':=T) λb o e=>af _ e,Hu _ l (j-l).toNat,?_,λb h=>?_,q⟩
 ·have g:l+((0:Nat):Int) * 1=l:=by simp
  have f:(((j-l).toNat:Nat):Int)-((0:Nat):Int)=Builtin.Range.rangeSize l j 1:=by rw[rangeSize_one];split<;>omega
  show IsRangeIter _ _ (l+((0:Nat):Int) * 1) ((((j-l).toNat:Nat):Int)-((0:Nat):Int)) 1;rw[g,f];exact aw _ rfl
 ·have e:b=(s.heap.push { cls:=.type "range",data:=.fields #[.int l t,.int j u,.int 1 v] }).objs.size:=by simpa using h
  subst e;exact i.fpOk (ar _) (i.hok.fresh (ar _))
def df (t:TA):TI:=λa H R=>t a H λv h=>∃j:Int,v=[.int j]/\-(2 ^ 62)<=j/\j<2 ^ 62/\R (YG 0 j.toNat) h
def dh (t:TA):TI:=λa H R=>t a H λv h=>∃i j:Int,v=[.int i,.int j]/\(-(2 ^ 62)<=i/\i<2 ^ 62/\-(2 ^ 62)<=j/\j<2 ^ 62)/\R (YG i (j-i).toNat) h
def FA {a:Expr}{T:TA}(g:Gl X "range")(o:X.mg "range"=none)(i:PA X [a] T)(f:starEach [a] X.env=[(false,eval a X.env)]:=by rfl):PI X tg (.Call (.Name "range" p) [a] [] pos) (df T):=by
 intro P s n H R I h;refine Call_ (gJ I g o boot_range (PyProof.Rows.callWith_type1 (zQ (i pos P s n H _ I h) λu S ⟨v,w,l,c,Q⟩=>?_) f rfl));obtain⟨j,e,Q,d,q⟩:=Q;subst e;cases c with
 |cons r b=>
  cases b;obtain⟨t,rfl⟩:=r;exact call_range_1 (Rf l (by omega) (by omega) Q d (by simpa using q))
def Fq {a b:Expr}{T:TA}(v:Gl X "range")(z:X.mg "range"=none)(w:PA X [a,b] T)(u:starEach [a,b] X.env=[(false,eval a X.env),(false,eval b X.env)]:=by rfl)(c:starEach [b] X.env=[(false,eval b X.env)]:=by rfl):
  PI X tg (.Call (.Name "range" p) [a,b] [] pos) (dh T):=by
 intro P s y H R I h;refine Call_ (gJ I v z boot_range (PyProof.Rows.callWith_type1 (zQ (w pos P s y H _ I h) λU S ⟨A,C,x,f,Q⟩=>?_) (by rw[u,c]) (by rw[c];rfl)))
 obtain⟨i,j,e,⟨Q,o,n,l⟩,q⟩:=Q;subst e;cases f with
 |cons r d=>
  cases d with
  |cons g d=>
   cases d;obtain⟨t,rfl⟩:=r;obtain⟨B,rfl⟩:=g;exact call_range_2 (Rf x Q o n l q)
def di (w:TI)(g:TG)(t:TS):TS:=λD d H=>w d H λJ e=>∃W:Nat->Nat->St->Hp->Prop,(∃m,W 0 m d e)/\∀i m d H,W i m d H->
 (J.stop i H/\D.nx d H)∨(J.go i H/\∃N:St->Hp->Prop,(∀a h,N a h->∃M,M<m/\W (i+1) M a h)/\∀x h,J.yld i H x h->g x d h λb c=>t { D with nx:=N,ct:=N,bk:=D.nx } b c)
noncomputable def J9 (f:bT)(h:Heap):bU:=f.filterMap λb=>(h.get? b).map λo=>(b,o)
def Kb {o:Obj}(H:b∈fp)(e:h.get? b=some o):(b,o)∈J9 fp h:=List.mem_filterMap.mpr ⟨b,H,by rw[e];rfl⟩
def FO {p:Addr×Obj}(H:p∈J9 fp h):p.1∈fp/\h.get? p.1=some p.2:=by
 obtain⟨b,a,e⟩:=List.mem_filterMap.mp H;cases q:h.get? b with
 |none=>rw[q]at e;cases e|some o=>
  rw[q]at e;have E:(b,o)=p:=aB e;subst E;exact⟨a,q⟩
def Inv.pinned {f:St}{H:Hp}(I:Inv X l0 f H s)(g:∀b∈fp,kz X l0 H b)(c:∀b∈fp,∃o,s.heap.get? b=some o/\∀v,o.data≠.cell v):Inv X (l0++J9 fp s.heap) f H s:=
 I.pins_of λp a=>(cz.mp a).elim (λz=>I.pin p (aY _ z)) λz=>by
  obtain⟨h,e⟩:=FO z;obtain⟨l,j,i,_⟩:=g p.1 h;obtain⟨o,E,d⟩:=c p.1 h;rw[e]at E;cases E;exact⟨e,l,j,i,d⟩
def Inv.unpinned {P:bU}{a:St}{H:Hp}(I:Inv X (l0++P) a H s):Inv X l0 a H s:=I.pins_of λp h=>I.pin p (aY _ (List.mem_append_left _ h))
def dj {l4:Expr}{U:TI}{g:TG}{Z:TS}(z:PassesOwn (model X.prog X.w) X.A X.env X.xe)(hc:X.calm=true)(hi:PI X tg l4 U)(hg:PG X tg g)(l:yo X body Z)
  (hs:∀x,foldedSetIterable l4 X.env x=pure x:=by intro _;rfl):PS X (.For tg l4 body [] pos) (di U g Z):=by
 intro l0 s σ H D I h;refine wpAny_For (zQ (hi l0 s σ H _ I h) λv s1 h1=>zQ h1 λitv s2 h2=>?_) hs;obtain⟨it,fp,Y,J,H2,e,I2,T,wN,f2,W,⟨m0,w0⟩,turn⟩:=h2;subst e;have S:∀{H':Hp},(∀b∈fp,H' b=none)->∀b∈fp,kz X l0 H' b:=λhn b l=>⟨hn b l,(f2 b l).2⟩;refine codeAny_forLoop_any (λn s'=>∃i j H',Inv X l0 j H' s'/\Y i s'.heap/\(∀b∈fp,H' b=none)/\W i n j H') ?_ m0 ⟨0,σ,H2,I2,wN,λb l=>(f2 b l).1,w0⟩
 rintro n s3 ⟨i,c,C,I3,gn,B,w3⟩
 rcases turn i n c C w3 with ⟨stop,qn⟩|⟨go,N,hN,step⟩
 ·refine wpAny_passesOwn z (zQ (T.done X rfl rfl rfl hc i l0 s3 c C X.xe I3 (S B) gn stop) λr s4 ⟨L,I4⟩=>?_)
  subst L;exact wpAny_execs_nil ⟨c,C,I4,qn⟩
 ·refine wpAny_passesOwn z (zQ (T.item X rfl rfl rfl hc i l0 s3 c C X.xe I3 (S B) gn go) λr s4 ⟨u,L,h4⟩=>?_)
  subst L;refine wpAny_passesOwn z (zQ h4 λ_ s5 ⟨x,H5,I5,r5,y5,t,M⟩=>?_);have P:=I5.pinned (S M) (T.obj _ _ t);refine wpAny_passesOwn z (zQ (hg _ s5 c H5 x u _ P r5 (step x H5 y5)) λ_ s6 ⟨E,H6,I6,q6⟩=>?_);refine wpAny_passesOwn z (zQ (l _ s6 E H6 _ I6 q6) λf K Q=>?_);have again:∀{a:St}{q:Hp},Inv X (l0++J9 fp s5.heap) a q K->N a q->∃m,m<n/\∃i j H',Inv X l0 j H' K/\Y i K.heap/\(∀b∈fp,H' b=none)/\W i m j H':=λ {a q} p y=>by
   obtain⟨m',hm,w7⟩:=hN a q y;refine⟨m',hm,i+1,a,q,p.unpinned,T.keep _ _ _ t λb l o e=>(p.pin (b,o) (aY _ (aY _ (Kb l e)))).1,λb l=>?_,w7⟩;obtain⟨o,e,d⟩:=T.obj _ _ t b l;exact(p.pin (b,o) (aY _ (aY _ (Kb l e)))).2.1
  cases f with
  |next=>obtain⟨a,q,p,y⟩:=Q;exact again p y|cont=>obtain⟨a,q,p,y⟩:=Q;exact again p y|brk=>obtain⟨a,q,p,Q⟩:=Q;exact⟨a,q,p.unpinned,Q⟩|ret v=>obtain⟨x7,a,q,p,r7,Q⟩:=Q;exact⟨x7,a,q,p.unpinned,r7,Q⟩
end
abbrev R2:=V->V->Hp->VK->Prop
def qL (X:Cx)(f:Value->Value->Sem Value)(r:R2):Prop:=
 ∀(l0:bU)(s:Shared)(σ:St)(H:Hp)(x y:V)(v u:Value)(Q:VK),Inv X l0 σ H s->RelV x v->RelV y u->r x y H Q->
  wpAny (model X.prog X.w) X.A (f v u) (EP X l0 σ Q) X.xe s
def WR (X:Cx)(f:Value->Sem Value)(r:V->Hp->VK->Prop):Prop:=
 ∀(l0:bU)(s:Shared)(σ:St)(H:Hp)(x:V)(v:Value)(Q:VK),Inv X l0 σ H s->RelV x v->r x H Q->
  wpAny (model X.prog X.w) X.A (f v) (EP X l0 σ Q) X.xe s
def jH (X:Cx)(f:Value)(r:List V->Hp->VK->Prop):Prop:=
 ∀(l0:bU)(s:Shared)(σ:St)(H:Hp)(xs:List V)(us:bS)(Q:VK),Inv X l0 σ H s->Vals xs us->r xs H Q->
  wpAny (model X.prog X.w) X.A (call f us) (EP X l0 σ Q) X.xe s
def YC (r:R2)(T t:TE):TE:=λa H Q=>T a H λx b=>t a b λy h=>r x y h Q
def NN (r:V->Hp->VK->Prop)(t:TE):TE:=λa H Q=>t a H λx h=>r x h Q
def rI (C:Int->Int->Prop)(g:Int->Int->V):R2:=λx y H Q=>∃i j,x=.int i/\y=.int j/\C i j/\Q (g i j) H
def wQ (g:Int->Int->V):R2:=λx y H Q=>∃i j,x=.int i/\y=.int j/\Q (g i j) H
def rU (g:Int->V):V->Hp->VK->Prop:=λx H Q=>∃i,x=.int i/\Q (g i) H
section
variable {X:Cx}{a b:Expr}{ta tb:TE}
def Vy (j:PE X a ta)(i:PE X b tb){o:St}{H:Hp}{R:V->V->Hp->Prop}(I:Inv X l0 o H s)
  (h:ta o H λx t=>tb o t λy c=>R x y c){f:Value->Value->Sem Value}
  (B:∀v u p x y c,Inv X l0 o c p->RelV x v->RelV y u->R x y c->wpAny (model X.prog X.w) X.A (f v u) Q X.xe p):
  wpAny (model X.prog X.w) X.A (eval a X.env) (λv d=>wpAny (model X.prog X.w) X.A (eval b X.env) (λu S=>wpAny (model X.prog X.w) X.A (f v u) Q X.xe S) X.xe d) X.xe s:=by
 refine zQ (j l0 s o H _ I h) λv z ⟨x,t,n,e,g⟩=>?_;refine zQ (i l0 z o t _ n g) λu p ⟨y,c,l,r,q⟩=>?_;exact B v u p x y c l e r q
def dk {j:Operator}{r:R2}(o:qL X (binaryOp j) r)(f:PE X a ta)(e:PE X b tb):PE X (.BinOp a j b pos) (YC r ta tb):=by
 intro p s l H Q I h;exact wpAny_BinOp (Vy f e I h λv u S x y g i d c q=>o p S l g x y v u Q i d c q)
def dm {e:UnaryOp}{r:V->Hp->VK->Prop}(o:WR X (unaryOp e) r)(c:PE X a ta):PE X (.UnaryOp e a pos) (NN r ta):=by
 intro p s d H Q I h;exact UnaryOp_ (zQ (c p s d H _ I h) λv S ⟨x,f,i,b,q⟩=>o p S d f x v Q i b q)
def WI {f:Value->Value->Sem Value}{C:Int->Int->Prop}{g:Int->Int->Int}
  (e:∀(i j:Int)(t u:Tok)(s:Shared)(Q:bX)(E:bX),C i j->Q (.int (g i j) s.toks) { s with toks:=s.toks+1 }->wpAny (model X.prog X.w) X.A (f (.int i t) (.int j u)) Q E s):
  qL X f (rI C λi j=>.int (g i j)):=by
 intro p s b H x y v u Q I a r h;obtain⟨i,j,rfl,rfl,c,q⟩:=h;obtain⟨t,rfl⟩:=a;obtain⟨T,rfl⟩:=r;exact e i j t T s _ _ c ⟨.int (g i j),H,I.tok _,⟨_,rfl⟩,q⟩
def VL {f:Value->Value->Sem Value}{g:Int->Int->Int}
  (e:∀(i j:Int)(t u:Tok)(s:Shared)(Q:bX)(E:bX),Q (.int (g i j) s.toks) { s with toks:=s.toks+1 }->wpAny (model X.prog X.w) X.A (f (.int i t) (.int j u)) Q E s):
  qL X f (wQ λi j=>.int (g i j)):=by
 intro p s b H x y v u Q I a r h;obtain⟨i,j,rfl,rfl,q⟩:=h;obtain⟨t,rfl⟩:=a;obtain⟨T,rfl⟩:=r;exact e i j t T s _ _ ⟨.int (g i j),H,I.tok _,⟨_,rfl⟩,q⟩
def Wt {f:Value->Value->Sem Value}{g:Int->Int->Bool}
  (e:∀(i j:Int)(t u:Tok)(s:Shared)(Q:bX)(E:bX),Q (.bool (g i j)) s->wpAny (model X.prog X.w) X.A (f (.int i t) (.int j u)) Q E s):
  qL X f (wQ λi j=>.bl (g i j)):=by
 intro p s b H x y v u Q I a r h;obtain⟨i,j,rfl,rfl,q⟩:=h;obtain⟨t,rfl⟩:=a;obtain⟨T,rfl⟩:=r;exact e i j t T s _ _ ⟨.bl (g i j),H,I,rfl,q⟩
def Nn (i j:Int):Prop:=0<=j/\j<=1000000/\i.natAbs<2 ^ 64
def Ys (i j:Int):Prop:=(-(2 ^ 64)<i/\i<2 ^ 64)∨(-(2 ^ 64)<j/\j<2 ^ 64)
def Ys.ok {i j:Int}(h:Ys i j):IntMulOk i j:=by
 rcases h with ⟨a,H⟩|⟨a,H⟩
 ·exact .of_left (intBits_le_64 a H)
 ·exact .of_right (intBits_le_64 a H)
def dq:qL X (binaryOp .Add) (wQ λi j=>.int (i+j)):=VL λ_ _ _ _ _ _ _ q=>add_int q
def dr:qL X (binaryOp .Sub) (wQ λi j=>.int (i-j)):=VL λ_ _ _ _ _ _ _ q=>sub_int q
def dt:qL X (binaryOp .Mult) (rI Ys λi j=>.int (i * j)):=WI λ_ _ _ _ _ _ _ h q=>mul_int q h.ok
def du:qL X (binaryOp .Mod) (rI (λ_ j=>0<j) λi j=>.int (i%j)):=WI λi j _ _ _ _ _ h q=>by
 have H:(0:Int)<j:=h;exact mod_int' (by omega) (by rw[Int.fmod_eq_emod_of_nonneg i (by omega)];exact q)
def dv:qL X (binaryOp .Pow) (rI Nn λi j=>.int (i ^ j.toNat)):=WI λ_ _ _ _ _ _ _ h q=>pow_int_small h.1 h.2.1 h.2.2 q
def dw:qL X (binaryOp .BitXor) (wQ λi j=>.int (Builtin.bitXor i j)):=VL λ_ _ _ _ _ _ _ q=>xor_int q
def dy {f:Value->Sem Value}{g:Int->Int}
  (e:∀(i:Int)(t:Tok)(s:Shared)(Q:bX)(E:bX),Q (.int (g i) s.toks) { s with toks:=s.toks+1 }->wpAny (model X.prog X.w) X.A (f (.int i t)) Q E s):
  WR X f (rU λi=>.int (g i)):=by
 intro p s a H x v Q I r h;obtain⟨i,rfl,q⟩:=h;obtain⟨t,rfl⟩:=r;exact e i t s _ _ ⟨.int (g i),H,I.tok _,⟨_,rfl⟩,q⟩
def dz:WR X (unaryOp .USub) (rU λi=>.int (-i)):=dy λ_ _ _ _ _ q=>neg_int q
variable {c:Expr}{tc:TE}
def Na:qL X (compareOp .Lt) (wQ λi j=>.bl (decide (i<j))):=Wt λ_ _ _ _ _ _ _ q=>lt_int q
def dA:qL X (compareOp .LtE) (wQ λi j=>.bl (decide (i<=j))):=Wt λ_ _ _ _ _ _ _ q=>le_int q
def dB:qL X (compareOp .Gt) (wQ λi j=>.bl (decide (j<i))):=Wt λ_ _ _ _ _ _ _ q=>gt_int q
def dC:qL X (compareOp .GtE) (wQ λi j=>.bl (decide (j<=i))):=Wt λ_ _ _ _ _ _ _ q=>ge_int q
def qL.or {f:Value->Value->Sem Value}{r c:R2}(h:qL X f r)(e:qL X f c):qL X f (λx y H Q=>r x y H Q∨c x y H Q):=by
 intro p s d H x y v u Q I b a q;rcases q with q|q
 ·exact h p s d H x y v u Q I b a q
 ·exact e p s d H x y v u Q I b a q
def BY {r:R2}(o:qL X (compareOp op) r)(f:PE X a ta)(e:PE X b tb)(l:behindInMarks op b=false):PE X (.Compare a [op] [b] pos) (YC r ta tb):=by
 intro p s j H Q I h;exact wpAny_Compare1 (Vy f e I h λv u S x y g i d c q=>o p S j g x y v u Q i d c q) l
def OQ (t:TE):TT:=λa H Q=>t a H λx h=>∃k,x=.bl k/\Q k h
def dD {r:R2}(o:qL X (compareOp op) r)(n:PE X a ta)(l:PE X b tb)(E:behindInMarks op b=false):PT X (.Compare a [op] [b] pos) (OQ (YC r ta tb)):=by
 intro P s C H Q I h;refine wpAny_isTrue_Compare1 (zQ (n P s C H _ I h) λv D ⟨x,J,w,g,j⟩=>zQ (l P D C J _ w j) λu S ⟨y,B,t,f,i⟩=>
  zQ (o P S C B x y v u _ t g f i) λc K ⟨z,A,p,d,k,e,q⟩=>?_) E
 subst e;cases d;exact wpAny_truthy_bool ⟨A,p,q⟩
def XA (r b:R2)(a T t:TE):TE:=λe H Q=>a e H λx f=>T e f λy d=>r x y d λz h=>∃k,z=.bl k/\
 (if k=true then t e h λw c=>b y w c Q else Q (.bl false) h)
def Dc {o:CmpOp}{r i:R2}(D:qL X (compareOp op) r)(f:qL X (compareOp o) i)(K:PE X a ta)(J:PE X b tb)(E:PE X c tc)
  (hm:lastMarks [op,o] [b,c]=false:=by with_unfolding_all rfl):PE X (.Compare a [op,o] [b,c] pos) (XA r i ta tb tc):=by
 intro T s U H Q I h;refine Compare_chain (zQ (K T s U H _ I h) λv s1 ⟨x,H1,N,t,C⟩=>chain_link (zQ (J T s1 U H1 _ N C) λu s2 ⟨y,S,M,g,B⟩=>
  zQ (D T s2 U S x y v u _ M t g B) λd s3 ⟨z,l,j,p,k,e,q⟩=>?_)) hm
 subst e;cases p;refine wpAny_truthy_bool ?_;cases k with
 |false=>exact ite_ff ⟨.bl false,l,j,rfl,q⟩|true=>exact ite_tt (chain_last (zQ (E T s3 U l _ j q) λw Y ⟨Z,P,L,n,A⟩=>f T Y U P y Z u w Q L g n A))
def Dy {o:CmpOp}{r i:R2}(K:qL X (compareOp op) r)(f:qL X (compareOp o) i)(N:PE X a ta)(M:PE X b tb)(L:PE X c tc)
  (hm:lastMarks [op,o] [b,c]=false:=by with_unfolding_all rfl):PT X (.Compare a [op,o] [b,c] pos) (OQ (XA r i ta tb tc)):=by
 intro l0 s σ H Q I h;refine isTrue_chain (zQ (N l0 s σ H _ I h) λv s1 ⟨x,H1,I1,A,E⟩=>test_link (zQ (M l0 s1 σ H1 _ I1 E) λu s2 ⟨y,H2,Y,g,D⟩=>
  zQ (K l0 s2 σ H2 x y v u _ Y A g D) λd s3 ⟨z,l,j,t,k,e,q⟩=>?_)) hm
 subst e;cases t;refine wpAny_truthy_bool ?_;cases k with
 |false=>
  obtain⟨k',S,J⟩:=q;cases S;exact ite_ff ⟨l,j,J⟩
 |true=>
  refine ite_tt (test_last (zQ (L l0 s3 σ l _ j q) λw s4 ⟨Z,H4,U,p,C⟩=>zQ (f l0 s4 σ H4 y Z u w _ U g p C) λd' s5 ⟨z2,H5,T,n,k2,P,B⟩=>?_));subst P;cases n;exact wpAny_truthy_bool ⟨H5,T,B⟩
def Ya:(sizeLine:Nat)<2 ^ 63:=by rw[sizeLine_eq];decide
def vals1 {x:V}(r:Vals [x] us):∃u,us=[u]/\RelV x u:=by
 cases r with
 |cons b a=>cases a;exact⟨_,rfl,b⟩
def vals2 {x y:V}(r:Vals [x,y] us):∃u w,us=[u,w]/\RelV x u/\RelV y w:=by
 cases r with
 |cons d c=>
  cases c with
  |cons b a=>cases a;exact⟨_,_,rfl,d,b⟩
def DB:jH X (.builtin "abs") (λxs H Q=>∃i,xs=[.int i]/\Q (.int (if i<0 then -i else i)) H):=by
 intro p s a H xs U Q I r h;obtain⟨i,rfl,q⟩:=h;obtain⟨u,rfl,t,rfl⟩:=vals1 r;exact call_abs_int λu T=>⟨.int (if i<0 then -i else i),H,I.tok _,⟨_,rfl⟩,q⟩
def EJ (c:X.calm=true):jH X (.builtin "max") (λxs H Q=>∃i j,xs=[.int i,.int j]/\Q (.int (if j > i then j else i)) H):=by
 intro p s b H xs U Q I r h;obtain⟨i,j,rfl,q⟩:=h;obtain⟨u,w,rfl,⟨t,rfl⟩,⟨d,rfl⟩⟩:=vals2 r;refine max_two_ints (I.ok.hd c) λe T k=>⟨_,H,I.kept k,?_,q⟩
 by_cases a:j > i
 ·rw[ah a,ah a];exact⟨_,rfl⟩
 ·rw[ai a,ai a];exact⟨_,rfl⟩
def Et (c:X.calm=true):jH X (.builtin "min") (λxs H Q=>∃i j,xs=[.int i,.int j]/\Q (.int (if j<i then j else i)) H):=by
 intro p s b H xs U Q I r h;obtain⟨i,j,rfl,q⟩:=h;obtain⟨u,w,rfl,⟨t,rfl⟩,⟨d,rfl⟩⟩:=vals2 r;refine min_two_ints (I.ok.hd c) λe T k=>⟨_,H,I.kept k,?_,q⟩
 by_cases a:j<i
 ·rw[ah a,ah a];exact⟨_,rfl⟩
 ·rw[ai a,ai a];exact⟨_,rfl⟩
def F7:jH X (.type "int") (λxs H Q=>(∃i,xs=[.int i]/\Q (.int i) H)∨∃k,xs=[.bl k]/\Q (.int (if k then 1 else 0)) H):=by
 intro p s b H xs U Q I r h;rcases h with ⟨i,rfl,q⟩|⟨k,rfl,q⟩
 ·obtain⟨u,rfl,t,rfl⟩:=vals1 r
  exact call_int_int ⟨.int i,H,I,⟨_,rfl⟩,q⟩
 ·obtain⟨u,rfl,a⟩:=vals1 r
  cases a;exact call_int_bool ⟨.int (if k then 1 else 0),H,I.tok _,⟨_,rfl⟩,q⟩
end
structure VB (h:Heap)(x dx C:Addr)(mA:b8):Prop where
 obj:h.get? x=some (instObj C dx)
 ns:h.Ns1 dx mA
 ne:dx≠x
def Eu {D:Addr}{M:b8}(n:h.Ns1 D M):∃d,h.get? D=some d/\∀name,lookIn name d=some (M name):=by
 obtain⟨o,E,p,c,i,f,_,g⟩:=n;refine⟨o,c,λname=>?_⟩;have e:=g name;unfold nsFind findBy at e;rw[<- Array.find?_toList]at e;unfold lookIn;rw[i];dsimp only
 split
 ·rename_i y q
  rw[q]at e;exact congrArg some e
 ·rename_i q
  rw[q]at e;have a:E.toList.any (·.refKey)=false:=by
   rw[List.any_eq_false];intro y b;obtain⟨z,t,H⟩:=f y (Array.mem_toList_iff.mp b);simp[DictEntry.refKey,H]
  have A:¬E.toList.any (·.refKey)=true:=by rw[a];exact aA
  rw[ai A];exact congrArg some e
def VB.look {x d C:Addr}{M:b8}(I:VB h x d C M):∃o,PySem.W.InstAt h x (instObj C d) C (some o)/\∀name,lookIn name o=some (M name):=
 let ⟨o,H,l⟩:=Eu I.ns
 ⟨o,⟨I.obj,rfl,rfl,H⟩,l⟩
def gf.some_of {v:V}{o:Option Value}(r:gf (some v) o):∃u,o=some u/\RelV v u:=by
 cases o with
 |none=>exact(show False from r).elim|some u=>exact⟨u,rfl,r⟩
section
variable {H:Hp}{C dx:Addr}{fs:List (Str×V)}
def BM (b:qN P w H h)(e:H a=some (.ins C dx fs)):∃M,VB h a dx C M/\(∀f,gf (fs.lookup f) (M f))/\PySem.Within M (fs.map (·.1))/\fs.length<=1000/\H dx=some (.own a):=by
 obtain⟨d,z,N,ob,M,n,r,q⟩:=(show qQ P w H h a (.ins C dx fs) from b a _ e)
 exact⟨M,⟨ob,n,N⟩,r,q,z,d⟩
end
structure yV (K:Frag)(C:Addr):Prop where
 pg:plainGet K C Str.empty=true
 hd:PySem.W.hasDictIn K C=true
 po:PySem.W.plainOver K C=true
 sa:PySem.W.findIn K (.ref C) "__setattr__"=some (some (.builtin "object.__setattr__"))
def yV.get {K:Frag}{C:Addr}(c:yV K C)(f:Str):plainGet K C f=true:=c.pg
section
variable {X:Cx}{σ:St}{H:Hp}{A:Around}{c:Value}{b:Bool}
inductive kX (K:Frag)(H:Hp):V->Value->Prop where
 |non:kX K H .non (.type "NoneType")
 |bl (x:Bool):kX K H (.bl x) (.type "bool")
 |int (i:Int):kX K H (.int i) (.type "int")
 |str (x:Str):kX K H (.str x) (.type "str")
 |flt (x:UInt64):kX K H (.flt x) (.type "float")
 |lst {a:Addr} {xs:List V} (e:H a=some (.lst xs)):kX K H (.ref a) (.type "list")
 |frz {a:Addr} {o:Obj} {xs:List V} (e:H a=some (.frz o (.lst xs))):kX K H (.ref a) (.type "list")
 |tup {a:Addr} {xs:List V} (e:H a=some (.tup xs)):kX K H (.ref a) (.type "tuple")
 |dK {a:Addr} {lG:List (Key×V)} (e:H a=some (.dK lG)):kX K H (.ref a) (.type "dict")
 |dT {a:Addr} {lG:List (List Key×V)} (e:H a=some (.dT lG)):kX K H (.ref a) (.type "dict")
 |ins {a C dx:Addr} {fs:List (Str×V)} (e:H a=some (.ins C dx fs)) (cl:yV K C) (ha:PySem.W.findIn K (.ref C) "__class__"=some (some (.builtin "object.__class__")))
   (hn:PySem.W.specialIn K (.builtin "object.__class__") "__get__"=some (some (.builtin "getset_descriptor.__get__"))) (htk:PySem.W.takesIn K (.builtin "object.__class__")=some true)
   (hm:PySem.W.mroIn K C (.type "object")=some true):kX K H (.ref a) (.ref C)
def SV {x:V}{t:Value}(I:Inv X l0 σ H s)(r:RelV x u)(ty:kX X.K H x t)(e:kitOne X.K t c=some b)(h:∀tk,Q (.bool b) { s with toks:=tk }):
  wpAny (model X.prog X.w) A (call (.builtin "isinstance") [u,c]) Q E s:=by
 cases ty with
 |non=>cases (show u=Value.none from r);exact bF kitx_none I.kIn True.intro e (λz=>nomatch z) h
 |bl y=>cases (show u=Value.bool y from r);exact bF kitx_bool I.kIn True.intro e (λz=>nomatch z) h
 |int i=>obtain⟨t,q⟩:=(show ∃t,u=Value.int i t from r);cases q;exact bF kitx_int I.kIn True.intro e (λz=>nomatch z) h
 |str y=>obtain⟨t,q⟩:=(show ∃t,u=Value.str y t from r);cases q;exact bF kitx_str I.kIn True.intro e (λz=>nomatch z) h
 |flt y=>obtain⟨t,q⟩:=(show ∃t,u=Value.float y t from r);cases q;exact bF kitx_float I.kIn True.intro e (λz=>nomatch z) h
 |@lst a xs ea=>
  cases (show u=Value.ref a from r)
  obtain⟨_,_,n,_,B⟩:=(show qQ X.prog X.w H s.heap a (.lst xs) from I.hok a _ ea)
  exact bF kitx_list I.kIn ⟨_,B,rfl⟩ e (λz=>nomatch z) h
 |@frz a ob xs ea=>
  cases (show u=Value.ref a from r)
  obtain⟨_,_,_,n,_,B⟩:=(show qQ X.prog X.w H s.heap a (.frz ob (.lst xs)) from I.hok a _ ea)
  exact bF kitx_list I.kIn ⟨_,B,rfl⟩ e (λz=>nomatch z) h
 |@tup a xs ea=>
  cases (show u=Value.ref a from r)
  obtain⟨_,_,_,p⟩:=(show qQ X.prog X.w H s.heap a (.tup xs) from I.hok a _ ea)
  obtain⟨o,B,d,_⟩:=p;exact bF kitx_tuple I.kIn ⟨o,B,d.1⟩ e (λz=>nomatch z) h
 |@dK a lG ea=>
  cases (show u=Value.ref a from r)
  obtain⟨_,_,D,_,p⟩:=(show qQ X.prog X.w H s.heap a (.dK lG) from I.hok a _ ea)
  obtain⟨o,j,l,B,d,_⟩:=p;exact bF kitx_dict I.kIn ⟨o,B,d.1⟩ e (λz=>nomatch z) h
 |@dT a lG ea=>
  cases (show u=Value.ref a from r)
  obtain⟨_,_,xs,_,o,j,l,B,d,_⟩:=(show qQ X.prog X.w H s.heap a (.dT lG) from I.hok a _ ea)
  exact bF kitx_dict I.kIn ⟨o,B,d.1⟩ e (λz=>nomatch z) h
 |@ins a C dx fs ea cl g hn f hm=>
  cases (show u=Value.ref a from r)
  obtain⟨M,O,_⟩:=BM I.hok ea;obtain⟨v,J,_⟩:=O.look;exact bF (PySem.W.kitx_own (cl.get _) cl.hd g hn f hm) I.kIn J e (λz=>nomatch z) h
end
structure qP (k:Nat)(A:Around):Prop where
 hd:A.handled=none
 dp:A.depth+3 * k+5<recursionLimit
 un:A.units+16 * k+200<cLine
 gd:A.guards=some []
def qP.mono {k:Nat}{A:Around}(r:qP k A)(h:j<=k):qP j A:=⟨r.hd,by have:=r.dp;omega,by have:=r.un;omega,r.gd⟩
theorem qP.deeper {k:Nat}{A:Around}(r:qP (k+1) A)(e:Env):qP k (A.deeper e):=
 ⟨r.hd,by have:=r.dp;show A.depth+1+3 * k+5<_;omega,by have:=r.un;show A.units+3+16 * k+200<_;omega,r.gd⟩
theorem qP.depth {k:Nat}{A:Around}(r:qP k A):A.depth<recursionLimit:=by have:=r.dp;omega
theorem qP.units {k:Nat}{A:Around}(r:qP k A):A.units+64<cLine:=by have:=r.un;omega
def VA:TA:=λ_ H Q=>Q [] H
def Wh (t:TE)(tr:TA):TA:=λa H Q=>t a H λx b=>tr a b λX h=>Q (x::X) h
section
variable {X:Cx}{es:bY}{te:TE}{t:TA}
def jB:PA X [] VA:=λ_ _ _ _ H Q I h=>Calls.spliced_nil ⟨[],H,I,.nil,h⟩
def qU (f:PE X e te)(d:PA X es t)(c:starEach (e::es) X.env=(false,eval e X.env)::starEach es X.env:=by rfl):PA X (e::es) (Wh te t):=by
 intro P p s l H Q I h;rw[c];show wpAny _ _ (spliced ((false,eval e X.env)::backTo P (starEach es X.env))) _ _ s;refine Calls.spliced_cons (zQ (f p s l H _ I h) λu S ⟨x,o,g,a,b⟩=>?_);exact zQ (d P p S l o _ g b) λU v ⟨n,j,i,r,q⟩=>⟨x::n,j,i,.cons a r,q⟩
def dE (t:TA):TE:=λa H Q=>t a H λx h=>x.length<=sizeLine/\∀p,h p=none->Q (.ref p) (upd h p (.tup x))
def dF (t:TA):TE:=λa H Q=>t a H λx h=>x.length<=sizeLine/\∀p,h p=none->Q (.ref p) (upd h p (.lst x))
def OB {x1}(h:PA X es t):PE X (.Tuple es x1 pos) (dE t):=by
 intro p s d H Q I a;refine wpAny_Tuple_spliced (zQ (h pos p s d H _ I a) λU S ⟨x,c,i,r,z,q⟩=>⟨by rw[<- r.length];exact z,?_⟩)
 have f:c S.heap.objs.size=none:=i.hok.fresh (ar _);refine⟨.ref S.heap.objs.size,upd c S.heap.objs.size (.tup x),i.laid (t':=S.toks) (λb u e=>af _ e) (ar _) ?_,rfl,q _ f⟩;exact⟨z,U,r,⟨_,aw _ rfl,⟨rfl,rfl⟩,_,rfl⟩⟩
def dG (h:PA X es t):PE X (.List es pos) (dF t):=by
 intro p s d H Q I a;refine wpAny_List_spliced (zQ (h pos p s d H _ I a) λU S ⟨x,c,i,r,z,q⟩=>⟨by rw[<- r.length];exact z,?_⟩)
 have f:c S.heap.objs.size=none:=i.hok.fresh (ar _);refine⟨.ref S.heap.objs.size,upd c S.heap.objs.size (.lst x),i.laid (t':=S.toks) (λb u e=>af _ e) (ar _) ?_,rfl,q _ f⟩;exact⟨z,U,0,r,aw _ rfl⟩
end
abbrev Sp:=List V->Hp->VK->XK->Prop
abbrev wM:=List Env->Hp->Shared->XK->Value->Shared->Prop
structure Jv (P:Program)(w:World)(K:Frag)(mg:b8)(base:Heap)(A:Around)(outer:b9)(s:Shared)(H:Hp):Prop where
 frames:A.frames=some outer
 mod:Mod K mg base
 bs:∀b o,base.get? b=some o->s.heap.get? b=some o/\H b=none
 bsz:base.objs.size<=s.heap.objs.size
 funs:s.heap.FunFrames base outer
 frf:∀b∈qt outer,H b=none
 hok:qN P w H s.heap
 bare:AllBare s.gens
inductive CE (outer:b9)(P:Program)(w:World)(H:Hp)(s:Shared)(Q:VK)(u:Value)(s':Shared):Prop
 |mk (v:V) (H':Hp) (os:s'.os=s.os) (b:AllBare s'.gens) (un:Un (qt outer) [] H H' s.heap s'.heap) (hk:qN P w H' s'.heap) (r:RelV v u) (q:Q v H')
def CR (C:wM)(o:b9)(P:Program)(w:World)(H:Hp)(s:Shared)(Q:VK)(E:XK)(r:Result)(S:Shared):Prop:=
 match r with
 |.ok (.ret u)=>CE o P w H s Q u S|.ok _=>False|.error e=>C o H s E e S
structure ym (P:Program)(w:World)(K:Frag)(mg:b8)(base:Heap)(CX:wM)(k:Nat)(f:Addr)(fd:FuncData)(ps:bW)(sp:Sp):Prop where
 len:∀vs H Q E,sp vs H Q E->vs.length=ps.length
 run:∀(A:Around)(outer:b9)(s:Shared)(H:Hp)(args:Args)(us:bS)(vs:List V)(Q:VK)(E:XK),qP k A->Jv P w K mg base A outer s H->BindsTo s fd args (ps.zip us)->Vals vs us->sp vs H Q E->
  codeAny (model P w) A (.call (.ref f) args) (CR CX outer P w H s Q E) s
theorem ym.mono {K:Frag}{C:wM}{k:Nat}{S:Sp}(F:ym P w K mg base C j f fd ps S)(h:j<=k):
  ym P w K mg base C k f fd ps S:=⟨F.len,λA o s H a u v Q E r=>F.run A o s H a u v Q E (r.mono h)⟩
def ym.imp {K:Frag}{C:wM}{k:Nat}{p S:Sp}(F:ym P w K mg base C k f fd ps p)
  (h:∀vs H Q E,S vs H Q E->p vs H Q E):ym P w K mg base C k f fd ps S:=
 ⟨λvs H Q E q=>F.len vs H Q E (h _ _ _ _ q),λA o s H c u vs Q E r e b v a=>F.run A o s H c u vs Q E r e b v (h _ _ _ _ a)⟩
section
variable {X:Cx}{σ:St}{H:Hp}
def Inv.env0 (I:Inv X l0 σ H s):Jv X.prog X.w X.K X.mg X.base X.A X.stack s H:=
 ⟨I.ok.frames,I.ok.mod,I.bs,a3 I.ok.bsz I.sz,I.stack,I.stkFree,I.hok,I.bare⟩
def Inv.after {Q:VK}(I:Inv X l0 σ H s)(h:CE X.stack X.prog X.w H s Q u s'):EP X l0 σ Q u s':=by
 obtain⟨v,c,f,B,un,e,r,q⟩:=h;obtain⟨a,g,d,t,o⟩:=s';obtain rfl:o=s.os:=f;exact⟨v,c,I.call (h':=a) (g':=g) (d':=d) (t':=t) (ch:=[]) un e B (λb z=>absurd z (by simp)),r,q⟩
end
def dH (s:Sp)(d:List V)(E:XK)(t:TA):TE:=λa H Q=>t a H λv h=>s (v++d) h Q E
def Binds (K:Frag)(f:FuncData)(p:bW)(d:bS):Prop:=
 ∀(s:Shared)(us:bS),K.In s.heap->(us++d).length=p.length->BindsTo s f ⟨us,[]⟩ (p.zip (us++d))
def Binds.all {K:Frag}(h:∀us:bS,us.length=ps.length->bindArgs fd ⟨us,[]⟩=pure (ps.zip us)):Binds K fd ps []:=λs us _ H=>by
 rw[bx]at H ⊢;exact .of_eq (h us H)
def Passes (C:wM)(X:Cx)(E:XK):Prop:=∀(l0:bU)(σ:St)(H:Hp)(s:Shared)(e:Value)(s':Shared),Inv X l0 σ H s->C X.stack H s E e s'->X.xe e s'
section
variable {X:Cx}{CX:wM}{k:Nat}{sp:Sp}{dvs:List V}{ds:bS}{E:XK}{es:bY}{t:TA}
def dI {d:St}{H:Hp}{Q:VK}{v:List V}(F:ym X.prog X.w X.K X.mg X.base CX k f fd ps sp)(b:qP k X.A)(c:Binds X.K fd ps ds)(g:Vals dvs ds)(x:Passes CX X E)
  (I:Inv X l0 d H s)(r:Vals v us)(h:sp (v++dvs) H Q E):wpAny (model X.prog X.w) X.A (call (.ref f) us) (EP X l0 d Q) X.xe s:=by
 have a:Vals (v++dvs) (us++ds):=r.append g;have l:(us++ds).length=ps.length:=by rw[<- a.length];exact F.len _ _ _ _ h
 refine wpAny_call (codeAny_mono (F.run X.A X.stack s H ⟨us,[]⟩ (us++ds) (v++dvs) Q E b I.env0 (c s us I.kIn l) a h) λr S q=>?_);cases r with
 |error e=>exact x l0 d H s e S I q|ok fl=>
  cases fl with
  |ret u=>exact I.after q|next=>exact False.elim q|brk=>exact False.elim q|cont=>exact False.elim q
def Pc (F:ym X.prog X.w X.K X.mg X.base CX k f fd ps sp)(c:qP k X.A)(g:Gl X x)(u:X.mg x=some (.ref f))(d:keepIn X.K (.ref f)=true)(j:Binds X.K fd ps ds)(y:Vals dvs ds)(a:Passes CX X E)
  (n:PA X (e::es) t)(b:(x==("__debug__":Str))=false:=by decide)(v:starEach (e::es) X.env=(false,eval e X.env)::starEach es X.env:=by rfl)(l:(backTo pos (starEach es X.env)).any (·.1)=false:=by rfl):
  PE X (.Call (.Name x p) (e::es) [] pos) (dH sp dvs E t):=by
 intro P s o H Q I h;refine wpAny_Call_Name_kw (JW I g u ?_ b);refine callWith_K (h₀:=X.base) I.ok.mod.kin d (zQ (n pos P s o H _ I h) λU S ⟨z,B,i,r,q⟩=>⟨i.kIn,?_⟩) v l;exact dI F c j y a i r q
end
structure qM (N P:bW)(sc:Scope):Prop where
 kind:sc.kind=.function
 co:sc.isCoroutine=false
 gen:sc.isGenerator=false
 nd:N.Nodup
 pre:N.take P.length=P
 par:∀x∈P,sc.names.lookup x=some .local∨sc.names.lookup x=some .cell
 nofree:∀y∈sc.names,y.2≠.free
theorem SH {K:Str->Option NameKind}:∀{binds:List (Str×Value)}{m:b8},(∀v,(x,v)∉binds)->bindL K binds m x=m x
 |[],_,_=>rfl|(n,v)::r,m,h=>by
  unfold bindL;rw[SH λw H=>h w (ak _ H)]
  split
  ·have:x≠n:=by rintro rfl;exact h v aq
   simp[this]
  ·rfl
theorem Se {K:Str->Option NameKind}:∀{binds:List (Str×Value)}{m:b8},(∀v,(x,v)∉binds)->bindC K binds m x=m x
 |[],_,_=>rfl|(n,v)::r,m,h=>by
  unfold bindC;rw[Se λw H=>h w (ak _ H)]
  split
  ·rfl
  ·have:x≠n:=by rintro rfl;exact h v aq
   simp[this]
theorem SO {K:Str->Option NameKind}{v:Value}:∀{P:bW}{s:bS}{i:Nat}{m:b8},P.Nodup->P[i]? =some x->s[i]? =some v->K x=some .local->
  bindL K (P.zip s) m x=some v
 |[],_,_,_,_,h,_,_=>by simp at h|_::_,[],_,_,_,_,h,_=>by simp at h|p::P,w::s,0,m,nd,h1,H,a=>by
  simp at h1 H;subst h1;subst H;show bindL K ((p,w)::P.zip s) m p=_;unfold bindL;rw[SH λv b=>(List.nodup_cons.mp nd).1 (of_mem_zip b).1,ah a];simp
 |p::P,w::s,i+1,m,nd,h1,H,a=>by
  show bindL K ((p,w)::P.zip s) m x=_;unfold bindL;exact SO (i:=i) (List.nodup_cons.mp nd).2 (by simpa using h1) (by simpa using H) a
theorem SU {K:Str->Option NameKind}{v:Value}:∀{P:bW}{s:bS}{i:Nat}{m:b8},P.Nodup->P[i]? =some x->s[i]? =some v->K x≠some .local->
  bindC K (P.zip s) m x=some v
 |[],_,_,_,_,h,_,_=>by simp at h|_::_,[],_,_,_,_,h,_=>by simp at h|p::P,w::s,0,m,nd,h1,H,a=>by
  simp at h1 H;subst h1;subst H;show bindC K ((p,w)::P.zip s) m p=_;unfold bindC;rw[Se λv b=>(List.nodup_cons.mp nd).1 (of_mem_zip b).1,ai a];simp
 |p::P,w::s,i+1,m,nd,h1,H,a=>by
  show bindC K ((p,w)::P.zip s) m x=_;unfold bindC;exact SU (i:=i) (List.nodup_cons.mp nd).2 (by simpa using h1) (by simpa using H) a
noncomputable def start (N:bW)(v:List V):St:=v.map some++List.replicate (N.length-v.length) none
noncomputable def kE (C:wM)(P:Program)(w:World)(K:Frag)(M:b8)(b:Heap)(N:bW)(qual:Str)(scope:Scope)(f:Addr)(c:Value)(A:Around)(o:b9)(s:Shared)(H:Hp)(E:XK):Cx where
 prog:=P
 w:=w
 K:=K
 mg:=M
 base:=b
 A:=A.deeper (envOfC qual scope s.heap.objs.size f c)
 N:=N
 s0:=s
 H0:=H
 env:=envOfC qual scope s.heap.objs.size f c
 outer:=o
 stack:=envOfC qual scope s.heap.objs.size f c::o
 ex:=[]
 calm:=true
 fn:=λ_=>true
 pn:=[]
 xe:=λe d=>wpAny (model P w) (A.deeper (envOfC qual scope s.heap.objs.size f c)) (leaving (envOfC qual scope s.heap.objs.size f c) e) (λ_ S=>C o H s E e S) (λa S=>C o H s E a S) d
def Rt (h:sc.names.lookup x=some .cell):∃c,(cellsFrom n sc.names []).lookup x=some c:=by
 have q:=cellsFrom_some sc.names n [] (.inl h);exact Option.isSome_iff_exists.mp q
def F6 {X:wM}{K:Frag}{Z:Value}{A:Around}{Q:b9}{s1:Shared}{H:Hp}{E:XK}{T:List V}
  (S:qM N ps scope)(hd:A.handled=none)(g:Jv P w K mg base A Q s H)(L:T.length=ps.length)(r:Vals T us)
  (x:InCallC s s.heap.objs.size (bindL (envOfC qual scope s.heap.objs.size f Z).kindOf (ps.zip us) λ_=>none) (cellsFrom (s.heap.objs.size+1) scope.names []) (bindC (envOfC qual scope s.heap.objs.size f Z).kindOf (ps.zip us) λ_=>none) s1):
  Inv (kE X P w K mg base N qual scope f Z A Q s H E) [] (start N T) H s1:=by
 have I:ps.length<=N.length:=by have:=congrArg List.length S.pre;rw[bp]at this;omega
 obtain⟨Y,tk,rfl,C⟩:=x.done;have j:∀b:Addr,b∉(kE X P w K mg base N qual scope f Z A Q s H E).ex:=λb z=>absurd (show b∈([]:bT) from z) (by simp)
 refine⟨⟨g.mod,S.kind,rfl,rfl,ar _,λy z c Y d=>?_,λy l=>?_,λy c _ h=>?_,λ_=>hd,Around.frames_deeper g.frames,.inr ⟨rfl,rfl⟩,λb z=>absurd z (j b),g.bs,g.bsz,λb _ _=>j b,λb z=>absurd z (j b),g.funs,g.frf⟩,
  rfl,g.bare,Un.kept C,⟨_,x.toInCall.ns,λi y v Y d M=>?_⟩,λy c h=>⟨_,x.cell y c h⟩,g.hok.fresh (ar _),λy c h=>?_,λp t=>absurd (show p∈([]:bU) from t) (by simp),g.hok.kept C,?_⟩
 ·exact name_of_addr x.apart (PySem.mem_of_lookup Y) (PySem.mem_of_lookup d)
 ·have l:scope.names.lookup y=some .cell∨scope.names.lookup y=some .free:=l
  rcases l with l|l
  ·exact Rt l
  ·exact absurd rfl (S.nofree _ (PySem.mem_of_lookup l))
 ·exact bB (x.above y c (PySem.mem_of_lookup h))
 ·have U:i<T.length:=by
   unfold start at d
   by_cases U:i<T.length
   ·exact U
   ·rw[ay (by simpa using U)]at d
    rw[a7]at d
    split at d<;>cases d
  have J:T[i]? =some v:=by
   unfold start at d;rw[au (by simpa using U),ax]at d
   cases e:T[i]? with
   |none=>rw[e]at d;cases d|some a=>rw[e]at d;cases d;rfl
  obtain⟨u,B,D⟩:=r.get J;have t:ps[i]? =some y:=by
   rw[<- S.pre,List.getElem?_take_of_lt (by omega)];exact Y
  have o:ps.Nodup:=by rw[<- S.pre];exact S.nd.sublist (take_sublist _ _)
  refine⟨u,D,?_⟩;rcases S.par y (mem_of_getElem? t) with k|k
  ·exact .inl ⟨k,SO o t B k⟩
  ·obtain⟨c,e⟩:=Rt (n:=s.heap.objs.size+1) k
   refine .inr ⟨.inl k,c,e,?_⟩;have q:=x.cell y c e;rw[SU o t B (by show scope.names.lookup y≠_;rw[k];decide)]at q
   exact q
 ·exact g.hok.fresh (bB (x.above y c (PySem.mem_of_lookup h)))
 ·unfold start
  show _=N.length;rw[aj,ag,aT];omega
def Vt {C:wM}{K:Frag}{k:Nat}{name:Str}{params:Arguments}{D kV doc pm c ct M:Value}{an L:cf}
  {sp:Sp}(lk:K.lookup f=some ⟨M,L,.func (fnOf name qual params body scope D kV doc pm an c ct),lQ⟩)(B:codeIn K c qual=true)(S:qM N ps scope)
  (len:∀vs H Q E,sp vs H Q E->vs.length=ps.length)
  (g:∀(A:Around)(outer:b9)(s:Shared)(H:Hp)(vs:List V)(Q:VK)(E:XK),qP k (A.deeper (envOfC qual scope s.heap.objs.size f c))->sp vs H Q E->
   ∃t,yo (kE C P w K mg base N qual scope f c A outer s H E) body t/\t { nx:=λ_ h=>Q .non h,rt:=Q } (start N vs) H):
  ym P w K mg base C (k+1) f (fnOf name qual params body scope D kV doc pm an c ct) ps sp:=by
 refine⟨len,λA outer s H args us vs Q E z j hb r p=>?_⟩;have Z:=len _ _ _ _ p;have X:K.In s.heap:=j.mod.kin.keeps λb o e=>(j.bs b o e).1;have lim:s.heap.NoLimit:=j.mod.nolimit.keeps λb o e=>(j.bs b o e).1;have d:∀y∈ps.zip us,scope.names.lookup y.1=some .local∨(scope.names.lookup y.1=some .cell/\((cellsFrom (s.heap.objs.size+1) scope.names []).lookup y.1).isSome=true):=λ⟨n,v⟩ T=>by
  rcases S.par n (of_mem_zip T).1 with q|q
  ·exact .inl q
  ·exact .inr ⟨q,cellsFrom_some _ _ _ (.inl q)⟩
 refine codeAny_call_function z.depth (X _ _ lk) rfl S.co S.gen rfl (PySem.W.codeRec_of X B) (hb _ _ _ _ ?_);refine wpAny_newFunctionEnv_cells S.kind d λenv he s1 x=>?_;subst he;refine⟨lim.keeps x.toInCall.keep,codeAny_func ?_⟩;obtain⟨t,U,Y⟩:=g A outer s H vs Q E (z.deeper _) p;have I:Inv (kE C P w K mg base N qual scope f c A outer s H E) [] (start N vs) H s1:=F6 S z.hd j Z r x;refine wpAny_mono (U [] s1 (start N vs) H _ I Y) (λfl s' i=>?_) λe s' i=>i;have fin:∀{a:St}{h:Hp}{v:V}{u:Value},Inv (kE C P w K mg base N qual scope f c A outer s H E) [] a h s'->RelV v u->Q v h->CE outer P w H s Q u s':=
  λ {a h v u} J l q=>⟨v,h,J.os,J.bare,J.base,J.hok,l,q⟩
 cases fl with
 |ret u=>
  obtain⟨v,a,h,J,l,q⟩:=i;exact fin J l q
 |next=>
  obtain⟨a,h,J,q⟩:=i;exact fin (v:=V.non) (u:=Value.none) J rfl q
 |brk=>
  obtain⟨_,_,_,q⟩:=i;exact False.elim q
 |cont=>
  obtain⟨_,_,_,q⟩:=i;exact False.elim q
section
variable {X:Cx}{es:bY}{t:TA}{id T:String}{r:List V->Hp->VK->Prop}
def WX (r:List V->Hp->VK->Prop)(t:TA):TE:=λa H Q=>t a H λv h=>r v h Q
def wV (c:jH X (.builtin id) r)(g:Gl X x)(o:X.mg x=none)(v:bootBuiltins x=some (.builtin id))(d:PA X (e::es) t)(n:x ≠ "__name__":=by decide)(b:(x==("__debug__":Str))=false:=by decide)
  (w:starEach (e::es) X.env=(false,eval e X.env)::starEach es X.env:=by rfl)(l:(backTo pos (starEach es X.env)).any (·.1)=false:=by rfl):PE X (.Call (.Name x p) (e::es) [] pos) (WX r t):=by
 intro P s f H Q I h;refine wpAny_Call_Name_kw (gJ I g o v ?_ n b);exact PyProof.Rows.callWith_builtin1 (zQ (d pos P s f H _ I h) λu S ⟨j,y,i,a,q⟩=>c P S f y j u Q i a q) w l
def Qo (c:jH X (.type T) r)(g:Gl X x)(o:X.mg x=none)(v:bootBuiltins x=some (.type T))(d:PA X (e::es) t)(n:x ≠ "__name__":=by decide)(b:(x==("__debug__":Str))=false:=by decide)
  (w:starEach (e::es) X.env=(false,eval e X.env)::starEach es X.env:=by rfl)(l:(backTo pos (starEach es X.env)).any (·.1)=false:=by rfl):PE X (.Call (.Name x p) (e::es) [] pos) (WX r t):=by
 intro P s f H Q I h;refine wpAny_Call_Name_kw (gJ I g o v ?_ n b);exact PyProof.Rows.callWith_type1 (zQ (d pos P s f H _ I h) λu S ⟨j,y,i,a,q⟩=>c P S f y j u Q i a q) w l
end
end L2
variable {X:L2.Cx}{H:L2.Hp}{xs:List (List L2.Key×PySem.Addr×PySem.Value)}{lG:List (List L2.Key×L2.V)}{ys:List L2.V}{r:List L2.V->L2.Hp->L2.VK->Prop}{σ:L2.St}{v:L2.V}
namespace HT
open PySem PyProof.Rows
noncomputable def lexLt:List Int->List Int->Bool
 |[],[]=>false|[],_::_=>true|_::_,[]=>false|x::xs,y::ys=>if x=y then lexLt xs ys else decide (x<y)
def HC (x y:Int)(X Y:bR):lexLt (x::X) (y::Y)=if x=y then lexLt X Y else decide (x<y):=rfl
def LD:lexLt [] []=false:=rfl
def M6 (y:Int)(Y:bR):lexLt [] (y::Y)=true:=rfl
def M4 (x:Int)(X:bR):lexLt (x::X) []=false:=rfl
def Dr (A:Around)(s:Shared)(a:Int)(t:Tok)(c:Int)(u:Tok):∃e,SeqAt.EqAt A s (.int a t) (.int c u) e/\(e=true↔a=c):=
 ⟨(a==c),SeqAt.EqAt.int_int a t c u,by simp⟩
def Cn (A:Around)(s:Shared)(a:Int)(t:Tok)(c:Int)(u:Tok)(p:Program)(w:World)(E:bX)(Q:bX)(h:Q (.bool (decide (a<c))) s):
  wpAny (model p w) A (richCompare .Lt (.int a t) (.int c u)) Q E s:=
 (PyProof.Rows.lt_int h:wpAny (model p w) A (compareOp .Lt (.int a t) (.int c u)) Q E s)
section
open PySem.SeqAt
open PySem.AutoSeq1 (wpAny_loadPart')
open PySem.MeetsSeq PySem.MeetsSeq2 PySem.MeetsSeq3
def Lz (l b:Addr)(items i:Array Value)(n P:Nat)(dd I:cf)(L S:Array (Option Value))(ns ms:bR)(hi:IntsAre items.toList ns)(K:IntsAre i.toList ms):
  Meets (Builtin.«tuple.__lt__» ⟨[.ref l,.ref b],[]⟩)
   (λ_ R s=>s.heap.get? l=some { cls:=.type "tuple",dict:=dd,data:=.seq items n,slots:=L }/\s.heap.get? b=some { cls:=.type "tuple",dict:=I,data:=.seq i P,slots:=S }/\
    R (.ok (.ret (.bool (lexLt ns ms)))) s):=
 .of_wp λprog w A R s h=>by
  obtain⟨C,g,d,tk,os⟩:=s;obtain⟨U,X,h⟩:=h;have f2:=AutoSeq1.sub_tuple_tuple;have Y:items.size=ns.length:=by rw[<- hi.length];simp
  have Z:i.size=ms.length:=by rw[<- K.length];simp
  wp_walk using wpAny_loadPart' U,wpAny_loadPart' X,wpAny_forIn_list _ (λlI b s'=>b.1=none/\s'=⟨C,g,d,tk,os⟩/\∃(vs ws:bS) (N M:bR),lI=vs.zip ws/\
   IntsAre vs N/\IntsAre ws M/\N.length+i.size=M.length+items.size/\R (.ok (.ret (.bool (lexLt N M)))) ⟨C,g,d,tk,os⟩) _
  case turn=>
   rintro⟨y,x⟩ lI b s' ⟨v,rfl,vs,ws,N,M,H,p,f,hlen,o⟩
   cases p with
   |nil=>rw[List.zip_nil_left]at H;cases H|cons a t B=>
    cases f with
    |nil=>rw[List.zip_nil_right]at H;cases H|cons c u z=>
     rw[List.zip_cons_cons]at H;injection H with D r
     injection D with Q T
     subst Q T;rw[HC]at o;simp only[aL]at hlen;obtain⟨e,he,j⟩:=Dr A.in1 ⟨C,g,d,tk,os⟩ a t c u;refine ck (he prog w _ _ ?_);cases e with
     |true=>
      rw[ah (j.mp rfl)]at o
      wp_walk
      exact⟨rfl,rfl,_,_,_,_,r,B,z,by omega,o⟩
     |false=>
      rw[ai (λq=>absurd (j.mpr q) aA)]at o;have E:=Cn A.in1 ⟨C,g,d,tk,os⟩ a t c u prog w
      wp_walk using E
      exact⟨_,rfl,by simpa using o⟩
  case fin=>
   rintro⟨b1,b2⟩ s' ⟨v,rfl,vs,ws,N,M,H,p,f,hlen,o⟩
   simp only at v;subst v;have J:lexLt N M=decide (items.size<i.size):=by
    cases p with
    |nil=>
     cases f with
     |nil=>
      simp only[bg]at hlen;rw[LD];exact(aD (by omega)).symm
     |cons c u hw=>
      simp only[bg,aL]at hlen;rw[M6];exact(aE (by omega)).symm
    |cons a t J=>
     cases f with
     |nil=>
      simp only[bg,aL]at hlen;rw[M4];exact(aD (by omega)).symm
     |cons c u hw=>
      rw[List.zip_cons_cons]at H;cases H
   rw[J]at o
   wp_walk
   exact⟨_,rfl,by simpa[Builtin.Tuple.tupleCompareSizes] using o⟩
  case h=>
   exact⟨rfl,rfl,items.toList,i.toList,ns,ms,rfl,hi,K,by omega,h⟩
end
section
variable {prog:Program}{A:Around}
def HD {l:Addr}{i:Array Value}{M:bR}(f:IsTup s.heap l items)(g:IsTup s.heap b i)(r:IntsAre items.toList ns)(j:IntsAre i.toList M)
  (u:A.units<cLine)(h:Q (.bool (lexLt ns M)) s):wpAny (model prog w) A (compareOp .Lt (.ref l) (.ref b)) Q E s:=by
 obtain⟨⟨v,t,data,e⟩,o,c,n,q⟩:=id f;obtain⟨⟨C,d,D,S⟩,H,a,N,p⟩:=id g;simp only at c q a p;subst c q a p;exact richCompare_meets_room (op:=.Lt) ⟨_,o,rfl⟩ ⟨_,H,rfl⟩ PySem.F.slot_tuple_lt PySem.F.entry_tuple_lt (PySem.F.args_tuple_lt_2 _ _) (Lz l b items i n N t d e S ns M r j)
  ⟨o,H,show Value.bool (lexLt ns M)≠Value.notImplemented/\Q (.bool (lexLt ns M)) s from ⟨(λx=>nomatch x),h⟩⟩ u
def Ag {t:Addr}{j i:bS}(a:IsTup s.heap t j.toArray)(f:IsTup s.heap b i.toArray)(v:j≠[])
  (x:i=[]->Q (.ref t) s)(g:i≠[]->Q (.ref s.heap.objs.size) { s with heap:=s.heap.push { cls:=.type "tuple",data:=.seq (j++i).toArray } })
  (z:j.length+i.length<=sizeLine):wpAny (model prog w) A (binaryOp .Add (.ref t) (.ref b)) Q E s:=by
 obtain⟨⟨y,u,data,l⟩,o,c,n,r⟩:=id a;obtain⟨⟨C,d,D,S⟩,h,H,N,p⟩:=id f;simp only at c r H p;subst c r H p;have e:j.toArray++i.toArray=(j++i).toArray:=by simp
 by_cases q:i=[]
 ·exact concat_meets ⟨_,o,rfl⟩ ⟨_,h,rfl⟩ noFill_tuple_add seq_tuple_add slot_tuple_add entry_tuple_add (args_tuple_add_2 _ _)
   (tuple_addW1 t b j.toArray i.toArray n N u d l S (by simpa using v) (by simp[q])) ⟨o,h,x q⟩
 ·refine concat_meets ⟨_,o,rfl⟩ ⟨_,h,rfl⟩ noFill_tuple_add seq_tuple_add slot_tuple_add entry_tuple_add (args_tuple_add_2 _ _)
   (tuple_addW2 t b j.toArray i.toArray n N u d l S (by simpa using v) (by simpa using q) (by rw[az,az];exact z)) ⟨o,h,?_⟩
  rw[e];exact g q
noncomputable def qb (n d:Nat):Option Int->Nat
 |none=>d|some v=>if v<0 then(v+(n:Int)).toNat else min v.toNat n
def dJ (n d:Nat)(H:d<=n)(o:bZ):qb n d o<=n:=by
 cases o with
 |none=>exact H|some v=>
  show(if v<0 then(v+(n:Int)).toNat else min v.toNat n)<=n
  by_cases h:v<0
  ·rw[ah h];omega
  ·rw[ai h];exact Nat.min_le_right _ _
def PH (v:Int)(n d:Nat):(if v<0 then max (v+(n:Int)) 0 else min v (n:Int))=((qb n d (some v):Nat):Int):=by
 show(if v<0 then max (v+(n:Int)) 0 else min v (n:Int))=(((if v<0 then(v+(n:Int)).toNat else min v.toNat n):Nat):Int)
 by_cases h:v<0
 ·simp only[ah h];omega
 ·simp only[ai h];omega
def Hz (l h:bZ)(n:Nat):Builtin.Slice.sliceAdjust l h 1 (n:Int)=(((qb n 0 l:Nat):Int),((qb n n h:Nat):Int)):=by
 have H:¬((1:Int)<0):=by omega
 unfold Builtin.Slice.sliceAdjust;simp only[H,if_false];refine Prod.ext ?_ ?_
 ·cases l with
  |none=>rfl|some v=>exact PH v n 0
 ·cases h with
  |none=>rfl|some v=>exact PH v n n
def Ho (i j:Nat):Builtin.Slice.slicePlaces (i:Int) (j:Int) 1=j-i:=by
 unfold Builtin.Slice.slicePlaces;have h:(1:Int) > 0:=by omega
 simp only[h,if_true,Int.ediv_one]
 split<;>omega
def JK {v:Value}{o:bZ}{Q:Option Int->Shared->Prop}(p:IsPart v o)(h:Q o s):wpAny (model prog w) A (Builtin.Slice.slicePartIndex v) Q E s:=by
 cases p with
 |none=>exact slicePart_none h|int i t=>exact slicePart_int h
def Uq {S:Addr}{l v:Value}{L i:bZ}{Q:Int×Int×Nat->Shared->Prop}(b:s.heap.IsSliceOf S l v .none)(P:IsPart l L)(p:IsPart v i)
  (h:Q (((qb n 0 L:Nat):Int),1,qb n n i-qb n 0 L) s):wpAny (model prog w) A (Builtin.Slice.sliceApplied (.ref S) (pure (n:Int))) Q E s:=by
 obtain⟨o,H,c,a⟩:=id b;unfold Builtin.Slice.sliceApplied Builtin.Slice.sliceFields;refine ck (ck (wpAny_field H a (x:=l) rfl (ck (wpAny_field H a (x:=v) rfl (ck (wpAny_field H a (x:=.none) rfl (cm ?_)))))));refine ck (slicePart_none ?_);show wpAny _ _ (if ((1:Int)==0)=true then _ else _) _ _ s;rw[ai (by decide)]
 refine ck (JK P (ck (JK p (ck (cm ?_)))));show wpAny _ _ (match Builtin.Slice.sliceAdjust L i 1 (n:Int) with|(L,i)=>pure (L,(1:Int),Builtin.Slice.slicePlaces L i 1)) _ _ s
 rw[Hz L i n];show wpAny _ _ (pure (((qb n 0 L:Nat):Int),(1:Int),Builtin.Slice.slicePlaces ((qb n 0 L:Nat):Int) ((qb n n i:Nat):Int) 1)) _ _ s;rw[Ho];exact cm h
def Dl (X:Array Value)(i k:Nat):((List.range k).filterMap λ(m:Nat)=>X[((i:Int)+(m:Int) * 1).toNat]?).toArray=((X.toList.drop i).take k).toArray:=by
 have e:(λ(m:Nat)=>X[((i:Int)+(m:Int) * 1).toNat]?)=λm=>X[i+m]?:=by
  funext m
  have:((i:Int)+(m:Int) * 1).toNat=i+m:=by omega
  rw[this]
 rw[e]
 have:=pick_run X i k
 rw[List.filterMap_map]at this;have E:((λx=>X[x]?) ∘ λx=>i+x)=λm=>X[i+m]?:=rfl;rw[E]at this;rw[this]
def My {t S:Addr}{l v:Value}{L n:bZ}(a:IsTup s.heap t items)(e:s.heap.IsSliceOf S l v .none)(P:IsPart l L)(p:IsPart v n)
  (u:¬(qb items.size 0 L=0/\qb items.size items.size n=items.size))
  (h:Q (.ref s.heap.objs.size) { s with heap:=s.heap.push { cls:=.type "tuple",data:=.seq ((items.toList.drop (qb items.size 0 L)).take (qb items.size items.size n-qb items.size 0 L)).toArray } })
  (z:items.size<=sizeLine):wpAny (model prog w) A (getItem (.ref t) (.ref S)) Q E s:=by
 have H:sizeOk (.seq ((items.toList.drop (qb items.size 0 L)).take (qb items.size items.size n-qb items.size 0 L)).toArray):=by
  show((items.toList.drop (qb items.size 0 L)).take (qb items.size items.size n-qb items.size 0 L)).toArray.size<=sizeLine;rw[az,bp,bI,aQ];omega
 have j:qb items.size items.size n<=items.size:=dJ _ _ (ar _) n;obtain⟨r,b,c,f⟩:=id e;have d:s.TypeIs (.ref S) "slice":=⟨r,b,c⟩;unfold getItem
 try with_reducible refine wpAny_holding ?_
 first|refine ck (cm ?_)|skip
 refine ck (wpAny_sequenceKey a.typeIs (by decide) ?_)
 refine ck (wpAny_callSpecial?_slot (name:=Str.ofString "__getitem__") a.typeIs PyProof.Rows.slot_tuple_getitem
  (wpAny_call_entry PyProof.Rows.slot_tuple_getitem a.typeIs entry_tuple_getitem ?_ (args_tuple_getitem _ _)))
 show wpAny _ _ (Builtin.Tuple.tupleItemsOf (.ref t) >>= _) _ _ s;refine ck (tupleItemsOf_ a ?_);refine ck (wpAny_typeOf d ?_);rw[ah (by decide)]
 refine ck (Uq e P p ?_);have o:¬((((qb items.size 0 L:Nat):Int)==0&&(1:Int)==1&&(qb items.size items.size n-qb items.size 0 L)==items.size)=true):=by
  intro q;rw[av,av]at q;have i:((qb items.size 0 L:Nat):Int)=0:=eq_of_beq q.1.1;have g:qb items.size items.size n-qb items.size 0 L=items.size:=eq_of_beq q.2;exact u ⟨by omega,by omega⟩
 show wpAny _ _ (if (((qb items.size 0 L:Nat):Int)==0&&(1:Int)==1&&(qb items.size items.size n-qb items.size 0 L)==items.size)=true then _ else _) _ _ s;rw[ai o,Dl]
 first
  |exact ck (m:=Builtin.Tuple.tupleExact _) (wpAny_newObj_type (cm ⟨_,rfl,cm h⟩) H)
  |exact ck (m:=Builtin.Tuple.tupleExact _) (wpAny_newObj_type (ck (cm (cm ⟨_,rfl,cm h⟩))) H)
  |exact ck (ck (m:=Builtin.Tuple.tupleExact _) (wpAny_newObj_type (cm (cm ⟨_,rfl,cm h⟩)) H))
  |exact ck (ck (m:=Builtin.Tuple.tupleExact _) (wpAny_newObj_type (cm ⟨_,rfl,cm h⟩) H))
end
end HT
namespace L2
open PySem PySem.Spec PyProof.Rows
abbrev TO:=St->Hp->(Option Int->Hp->Prop)->Prop
def PO (X:Cx)(e:Option Expr)(t:TO):Prop:=
 ∀(l0:bU)(s:Shared)(σ:St)(H:Hp)(Q:Option Int->Hp->Prop),Inv X l0 σ H s->t σ H Q->
  wpAny (model X.prog X.w) X.A (evalPart e X.env) (λu S=>∃o h,Inv X l0 σ h S/\IsPart u o/\Q o h) X.xe s
def BZ:TO:=λ_ H Q=>Q none H
def dM (t:TE):TO:=λa H Q=>t a H λx h=>∃i,x=.int i/\Q (some i) h
def intsAre_of:∀{u:bS},Vals (ns.map V.int) u->IntsAre u ns:=by
 induction ns with
 |nil=>intro u r;rw[map_nil]at r;cases r;exact .nil|cons n ns i=>
  intro u r;rw[aK]at r;cases r with
  |cons b a=>
   obtain⟨t,e⟩:=b;subst e;exact .cons n t (i a)
section
variable {te:TE}{lo hi:Option Expr}{tl th:TO}{p2:Pos}
def Ac:PO X none BZ:=by
 intro p s a H Q I h;rw[evalPart_none];exact cm ⟨none,H,I,.none,h⟩
def Bp (h:PE X e te):PO X (some e) (dM te):=by
 intro p s c H Q I w;rw[evalPart_some];refine zQ (h p s c H _ I w) λu S ⟨x,d,b,r,a⟩=>?_;obtain⟨i,rfl,q⟩:=a;obtain⟨t,rfl⟩:=r;exact⟨some i,d,b,.int i t,q⟩
def YJ (X:Cx)(r:V->Option Int->Option Int->Hp->VK->Prop):Prop:=
 ∀(l0:bU)(s:Shared)(σ:St)(H:Hp)(x:V)(v l u:Value)(lo hi:bZ)(S:Addr)(Q:VK),Inv X l0 σ H s->RelV x v->s.heap.IsSliceOf S l u .none->IsPart l lo->IsPart u hi->r x lo hi H Q->
  ∃T id,typeLookup (.type T) "__getitem__"=pure (some (.builtin id))/\s.TypeIs v T/\wpAny (model X.prog X.w) X.A (getItem v (.ref S)) (EP X l0 σ Q) X.xe s
def dN (r:V->Option Int->Option Int->Hp->VK->Prop)(T:TE)(t th:TO):TE:=λb H Q=>T b H λx c=>t b c λl a=>th b a λu h=>r x l u h Q
def Dx {r:V->Option Int->Option Int->Hp->VK->Prop}(o:YJ X r)(U:PE X e te)(p:PO X lo tl)(n:PO X hi th):PE X (.Subscript e (.Slice lo hi none p2) pos) (dN r te tl th):=by
 intro P s J H Q I h;refine Subscript_ (zQ (U P s J H _ I h) λv L ⟨x,Y,D,f,j⟩=>?_);refine wpAny_Slice (zQ (p P L J Y _ D j) λc K ⟨l,E,C,N,i⟩=>zQ (n P K J E _ C i) λa S ⟨u,d,B,M,g⟩=>?_);rw[evalPart_none];refine cm ?_;have z:Inv X P J d { S with heap:=S.heap.push { cls:=.type "slice",data:=.fields #[c,a,.none] } }:=B.kept (t':=S.toks) λb ob q=>af _ q
 obtain⟨T,id,hT,t,y⟩:=o P { S with heap:=S.heap.push { cls:=.type "slice",data:=.fields #[c,a,.none] } } J d x v c a l u S.heap.objs.size Q z f (Heap.IsSliceOf.new ..) N M g
 show wpAny (model X.prog X.w) X.A (subscriptTail e (.Slice lo hi none p2) v (.ref S.heap.objs.size)) (EP X P J Q) X.xe { S with heap:=S.heap.push { cls:=.type "slice",data:=.fields #[c,a,.none] } }
 exact tail_any (ops:=[.ref S.heap.objs.size,v]) t hT y (by with_unfolding_all rfl)
noncomputable def gm (x:List V)(l h:bZ):List V:=(x.drop (HT.qb x.length 0 l)).take (HT.qb x.length x.length h-HT.qb x.length 0 l)
def Td (x:List V)(l h:bZ):(gm x l h).length<=x.length:=by
 unfold gm;rw[bp,bI];omega
def dO (K:Frag):V->Option Int->Option Int->Hp->VK->Prop:=λx l h H Q=>∃a X,x=.ref a/\qp K H a X/\
 ¬(HT.qb X.length 0 l=0/\HT.qb X.length X.length h=X.length)/\∀p,H p=none->Q (.ref p) (upd H p (.tup (gm X l h)))
def dP:YJ X (dO X.K):=by
 intro p s y H x v l u L g S Q I c e j P h;obtain⟨a,f,rfl,d,w,q⟩:=h;cases c;obtain⟨i,r,t,z⟩:=I.tuple d;have n:i.toArray.size=f.length:=by rw[az];exact r.length.symm
 refine⟨"tuple",_,PyProof.Rows.slot_tuple_getitem.lookup,t.typeIs,?_⟩;refine HT.My t e j P (by rw[n];exact w) ?_ (by rw[n];exact z)
 rw[n];refine⟨.ref s.heap.objs.size,_,I.laid (t':=s.toks) (o:=.tup (gm f L g)) (λb ob q=>af _ q) (ar _) ?_,rfl,q _ (I.hok.fresh (ar _))⟩;exact⟨a3 (Td f L g) z,_,(r.drop (HT.qb f.length 0 L)).take (HT.qb f.length f.length g-HT.qb f.length 0 L),Zm.new _ _⟩
def Nl (K:Frag):R2:=λx y H Q=>∃a b n M,x=.ref a/\y=.ref b/\qp K H a (n.map V.int)/\qp K H b (M.map V.int)/\Q (.bl (HT.lexLt n M)) H
def dQ (l:X.A.units<cLine):qL X (compareOp .Lt) (Nl X.K):=by
 intro t s w H x y v u Q I d r h;obtain⟨a,b,N,M,rfl,rfl,o,n,q⟩:=h;cases d;cases r;obtain⟨c,f,P,_⟩:=I.tuple o;obtain⟨i,e,p,_⟩:=I.tuple n;have j:IntsAre c.toArray.toList N:=intsAre_of f;have g:IntsAre i.toArray.toList M:=intsAre_of e;exact HT.HD P p j g l ⟨.bl (HT.lexLt N M),H,I,rfl,q⟩
def Nd (K:Frag):R2:=λx y H Q=>∃a b X Y,x=.ref a/\y=.ref b/\qp K H a X/\qp K H b Y/\X≠[]/\X.length+Y.length<=sizeLine/\
 (Y=[]->Q (.ref a) H)/\(Y≠[]->∀p,H p=none->Q (.ref p) (upd H p (.tup (X++Y))))
def Vals.nil_iff {x:List V}(r:Vals x us):us=[]↔x=[]:=by
 cases r with
 |nil=>simp|cons _ _=>simp
def AO:qL X (binaryOp .Add) (Nd X.K):=by
 intro B s D H x y v u Q I f e h;obtain⟨a,b,C,Y,rfl,rfl,A,t,n,d,j,g⟩:=h;cases f;cases e;obtain⟨l,c,P,_⟩:=I.tuple A;obtain⟨i,r,p,_⟩:=I.tuple t;refine HT.Ag P p (λz=>n (c.nil_iff.mp z)) (λz=>⟨.ref a,H,I,rfl,j (r.nil_iff.mp z)⟩) (λz=>?_) (by rw[<- c.length,<- r.length];exact d)
 refine⟨.ref s.heap.objs.size,_,I.laid (t':=s.toks) (o:=.tup (C++Y)) (λb ob q=>af _ q) (ar _) ?_,rfl,g (λw=>z (r.nil_iff.mpr w)) _ (I.hok.fresh (ar _))⟩;exact⟨by rw[aj];exact d,_,c.append r,Zm.new _ _⟩
end
noncomputable def wR (n:Nat)(i:Int):Option Nat:=if 0<=i then(if i<n then some i.toNat else none) else if -(n:Int)<=i then some (i+n).toNat else none
def kS (x:List α)(i:Int):Option α:=(wR x.length i).bind λj=>x[j]?
def R6 {i:Int}(h:wR n i=some j):seqIndex? i n=some j/\j<n/\-(n:Int)<=i/\i<n:=by
 unfold wR at h
 by_cases a:0<=i
 ·rw[ah a]at h
  by_cases H:i<n
  ·rw[ah H]at h
   have e:i.toNat=j:=aB h;exact⟨by rw[seqIndex_of a H,e],by omega,by omega,H⟩
  ·rw[ai H]at h;cases h
 ·rw[ai a]at h
  by_cases H:-(n:Int)<=i
  ·rw[ah H]at h
   have e:(i+n).toNat=j:=aB h;exact⟨by rw[seqIndex_neg (by omega) H,e],by omega,H,by omega⟩
  ·rw[ai H]at h;cases h
def G8 {x:List α}{i:Int}{v:α}(h:kS x i=some v):∃j,seqIndex? i x.length=some j/\x[j]? =some v/\j<x.length/\-(x.length:Int)<=i/\i<x.length:=by
 unfold kS at h;cases e:wR x.length i with
 |none=>rw[e]at h;cases h|some j=>
  rw[e]at h;obtain⟨c,b,a,H⟩:=R6 e;exact⟨j,c,h,b,a,H⟩
def KJ {x:List α}{v:α}(h:x[j]? =some v):kS x (j:Int)=some v:=by
 have H:j<x.length:=(cu.mp h).1;have e:wR x.length (j:Int)=some j:=by
  unfold wR;rw[ah (by omega),ah (by omega)];simp
 unfold kS;rw[e];exact h
def Pn (b:Expr):Prop:=∀o i,subscripted b false o i=operate [o,i] (getItem o i)
def Zx (X:Cx)(r:R2):Prop:=
 ∀(value slice:Expr)(l0:bU)(s:Shared)(σ:St)(H:Hp)(x y:V)(v u:Value)(Q:VK),Inv X l0 σ H s->RelV x v->RelV y u->r x y H Q->
  subscripted slice false v u=operate [v,u] (getItem v u)->wpAny (model X.prog X.w) X.A (subscriptTail value slice v u) (EP X l0 σ Q) X.xe s
def NK (X:Cx)(id:String)(r:V->List V->Hp->VK->Prop):Prop:=
 ∀(l0:bU)(s:Shared)(σ:St)(H:Hp)(x:V)(xs:List V)(v:Value)(us:bS)(Q:VK),Inv X l0 σ H s->RelV x v->Vals xs us->r x xs H Q->
  wpAny (model X.prog X.w) X.A (call (.builtin id) (v::us)) (EP X l0 σ Q) X.xe s
section
variable {a b:Expr}{ta tb:TE}
def Zx.or {r c:R2}(h:Zx X r)(g:Zx X c):Zx X (λx y H Q=>r x y H Q∨c x y H Q):=by
 intro e S p s f H x y v u Q I b a q d;rcases q with q|q
 ·exact h e S p s f H x y v u Q I b a q d
 ·exact g e S p s f H x y v u Q I b a q d
def dR {r:R2}(f:Zx X r)(i:PE X a ta)(g:PE X b tb)(e:Pn b):PE X (.Subscript a b pos) (YC r ta tb):=by
 intro p s n H Q I h;exact Subscript_ (Vy i g I h λv u S x y l j d c q=>f a b p S n l x y v u Q j d c q (e _ _))
def Ng (K:Frag):R2:=λx y H Q=>∃p X i v,x=.ref p/\y=.int i/\qI K H p X/\kS X i=some v/\Q v H
def Nu (K:Frag):R2:=λx y H Q=>∃p X i v,x=.ref p/\y=.int i/\qp K H p X/\kS X i=some v/\Q v H
def Np:R2:=λx y H Q=>∃z i c,x=.str z/\y=.int i/\z.length<=sizeLine/\kS z.cps.toList i=some c/\Q (.str ⟨#[c]⟩) H
def BU:Zx X (Ng X.K):=by
 intro J S P s M H x y v u Q I g f h d;obtain⟨p,Y,i,z,rfl,rfl,l,U,q⟩:=h;cases g;obtain⟨t,rfl⟩:=f;obtain⟨b,r,L,C⟩:=I.list l;obtain⟨j,E,B,D,A,o⟩:=G8 U;obtain⟨w,e,a⟩:=r.get B;have n:=r.length;have Z:=Ya;have fin:EP X P M Q w s:=⟨z,H,I,a,q⟩
 by_cases N:0<=i
 ·have c:i.toNat=j:=by
   rw[seqIndex_of N o]at E;exact aB E
  exact item_listR L.isList N (by omega) (by rw[c];simpa using e) fin d
 ·have c:(i+(b.toArray.size:Int)).toNat=j:=by
   rw[seqIndex_neg (by omega) A]at E
   rw[az,<- n];exact aB E
  exact subscriptTail_builtinR (x:=w) L.isList.typeIs slot_list_getitem.lookup
   (wpAny_getItem_list_neg (Q:=λr T=>r=w/\EP X P M Q r T) L.isList (by omega) (by rw[az]<;>omega) (by omega) (by rw[c];simpa using e) ⟨rfl,fin⟩) d
def dS:Zx X (Nu X.K):=by
 intro C S P s D H x y v u Q I c b h e;obtain⟨p,T,i,z,rfl,rfl,f,M,q⟩:=h;cases c;obtain⟨t,rfl⟩:=b;obtain⟨d,r,J,n⟩:=I.tuple f;obtain⟨j,N,g,B,A,o⟩:=G8 M;obtain⟨w,E,a⟩:=r.get g;have l:=r.length;have U:=Ya;have fin:EP X P D Q w s:=⟨z,H,I,a,q⟩;exact subscriptTail_builtinR (x:=w) J.typeIs slot_tuple_getitem.lookup
  (getItem_tuple (j:=j) (Q:=λr L=>r=w/\EP X P D Q r L) J (by omega) (by omega) (by rw[az,<- l];exact N) (by simpa using E) ⟨rfl,fin⟩) e
def dU:Zx X Np:=by
 intro p S P s B H x y v u Q I a r h b;obtain⟨z,i,c,rfl,rfl,n,A,q⟩:=h;obtain⟨t,rfl⟩:=a;obtain⟨T,rfl⟩:=r;obtain⟨j,w,f,o,e,d⟩:=G8 A;have l:z.cps.toList.length=z.length:=by simp[Str.length]
 rw[l]at w e d;have C:=Ya;exact tail_any (typeIs_str s z t) slot_str_getitem.lookup (getItem_str (c:=c) (by
  have g:decide (i < -(2 ^ 63:Int))=false:=aD (by omega)
  have E:decide (i ≥ 2 ^ 63)=false:=aD (by omega)
  rw[g,E,Bool.or_false]) (by rw[w];simpa using f) ⟨.str ⟨#[c]⟩,H,I.tok _,⟨_,rfl⟩,q⟩) b
def NC (K:Frag):R2:=λx y H Q=>Ng K x y H Q∨Nu K x y H Q∨Np x y H Q
def dV:Zx X (NC X.K):=BU.or (dS.or dU)
def Ht (i:bS)(n j:Nat)(u:Value):Obj.mapSeq (·.setIfInBounds j u) { cls:=.type "list",data:=.seq i.toArray n }={ cls:=.type "list",data:=.seq (i.set j u).toArray n }:=by
 simp[Obj.mapSeq]
theorem Inv.lst {P:bU}{a:St}{H:Hp}{s:Shared}{p:Addr}{x:List V}(I:Inv X P a H s)(h:H p=some (.lst x)):
  ∃(i:bS) (n:Nat),Vals x i/\s.heap.get? p=some { cls:=.type "list",data:=.seq i.toArray n }/\x.length<=sizeLine:=by
 obtain⟨z,i,n,r,e⟩:=I.hok p _ h;exact⟨i,n,r,e,z⟩
def Inv.lstUpd {p:Addr}{d:List V}{i:bS}{N:Nat}{f:Obj->Obj}(I:Inv X l0 σ H s)(h:H p=some (.lst d))
  (o:s.heap.get? p=some { cls:=.type "list",data:=.seq l6.toArray n })(c:f { cls:=.type "list",data:=.seq l6.toArray n }={ cls:=.type "list",data:=.seq i.toArray N })(r:Vals ys i)(z:ys.length<=sizeLine)(t:Nat):
  Inv X l0 σ (upd H p (.lst ys)) { s with heap:=s.heap.update p f,toks:=t }:=by
 have e:(s.heap.update p f).get? p=some { cls:=.type "list",data:=.seq i.toArray N }:=by
  rw[ba f o (by rw[c]<;>rfl),c]
 refine I.write (x:=p) (e:=p) (by rw[h];trivial) (.inl rfl) (λb u a q=>(aS _ _ (Ne.symm a)).trans q) ⟨_,e⟩ ?_
 exact⟨z,i,N,r,e⟩
def OO:V->V->V->Hp->(Hp->Prop)->Prop:=λo i v H Q=>∃p x k j,o=.ref p/\i=.int k/\H p=some (.lst x)/\wR x.length k=some j/\Q (upd H p (.lst (x.set j v)))
def set_list:Yo X OO:=by
 intro P s J H o i v A B u Q I ro x w h;obtain⟨p,K,k,j,rfl,rfl,d,y,q⟩:=h;cases ro;obtain⟨t,rfl⟩:=x;obtain⟨a,n,r,b,z⟩:=I.lst d;obtain⟨D,C,f,e⟩:=R6 y;have l:=r.length;have L:=Ya;have g:Inv X P J (upd H p (.lst (K.set j v))) { s with heap:=s.heap.update p (Obj.mapSeq (·.setIfInBounds j u)) }:=
  I.lstUpd d b (Ht a n j u) (r.set w j) (by rw[a6];exact z) s.toks
 by_cases E:0<=k
 ·have c:k.toNat=j:=by
   rw[seqIndex_of E e]at D;exact aB D
  exact PySem.W.ki_setAt b E (by omega) (by rw[az,<- l];exact e) (by rw[c];exact⟨_,g,q⟩)
 ·have c:(k+(a.toArray.size:Int)).toNat=j:=by
   rw[seqIndex_neg (by omega) f]at D
   rw[az,<- l];exact aB D
  exact PySem.W.ki_setBack b (by omega) (by rw[az,<- l];exact f) (by omega) (by rw[c];exact⟨_,g,q⟩)
def IB (l H:bZ)(n:Nat):(sliceBounds l H none n).1=((HT.qb n 0 l:Nat):Int)/\(sliceBounds l H none n).2.1=((HT.qb n n H:Nat):Int)/\(sliceBounds l H none n).2.2=1:=by
 refine⟨?_,?_,rfl⟩
 ·cases l with
  |none=>simp[sliceBounds,HT.qb]|some i=>
   simp only[sliceBounds,HT.qb,getD_none,show(1:Int) > 0 by decide,if_true]
   by_cases h:i<0
   ·simp only[h,if_true]<;>omega
   ·simp only[h,if_false]<;>omega
 ·cases H with
  |none=>simp[sliceBounds,HT.qb]|some i=>
   simp only[sliceBounds,HT.qb,getD_none,show(1:Int) > 0 by decide,if_true]
   by_cases h:i<0
   ·simp only[h,if_true]<;>omega
   ·simp only[h,if_false]<;>omega
def LF (i:bS)(l a:bZ):slicePick i.toArray l a none=((i.drop (HT.qb i.length 0 l)).take (HT.qb i.length i.length a-HT.qb i.length 0 l)).toArray:=by
 obtain⟨b,H,h⟩:=IB l a i.toArray.size;unfold slicePick;rw[b,H,h];simp only[sliceRange_one,pick_run,az]<;>rfl
def Nf (K:Frag):V->Option Int->Option Int->Hp->VK->Prop:=λx l h H Q=>∃a X,x=.ref a/\qI K H a X/\∀p,H p=none->Q (.ref p) (upd H p (.lst (gm X l h)))
def Bv:YJ X (Nf X.K):=by
 intro p s w H x v l u L g S Q I c e j P h;obtain⟨a,f,rfl,d,q⟩:=h;cases c;obtain⟨i,r,t,z⟩:=I.list d;have n:=r.length;refine⟨"list",_,slot_list_getitem.lookup,t.isList.typeIs,?_⟩;refine wpAny_getItem_list_slice t.isList e j P .none (by simp) ?_ (by rw[az]<;>omega)
 rw[LF,<- n];refine⟨.ref s.heap.objs.size,_,I.laid (t':=s.toks) (o:=.lst (gm f L g)) (λb ob q=>af _ q) (ar _) ?_,rfl,q _ (I.hok.fresh (ar _))⟩;exact⟨a3 (Td f L g) z,_,0,(r.drop (HT.qb f.length 0 L)).take (HT.qb f.length f.length g-HT.qb f.length 0 L),aw _ rfl⟩
noncomputable def gO:V->Bool
 |.non=>true|.bl _=>true|.int _=>true|.str _=>true|_=>false
noncomputable def ZD:V->V->Bool
 |.non,.non=>true|.bl a,.bl b=>a==b|.bl a,.int b=>(if a then 1 else 0)==b|.int a,.bl b=>a==(if b then 1 else 0)|.int a,.int b=>a==b|.str a,.str b=>a==b|_,_=>false
def dW {A:Around}{y x:V}{v:Value}(c:RelV y u)(r:RelV x v)(d:gO y=true)(f:gO x=true):SeqAt.EqAt A s u v (ZD y x):=by
 cases y with
 |non=>
  cases c;cases x with
  |non=>cases r;exact SeqAt.EqAt.same _|bl b=>cases r;exact SeqAt.EqAt.none_bool b|int b=>obtain⟨t,rfl⟩:=r;exact SeqAt.EqAt.none_int b t|str b=>obtain⟨t,rfl⟩:=r;exact SeqAt.EqAt.none_str b t|_=>exact absurd (show false=true from f) aA
 |bl a=>
  cases c;cases x with
  |non=>cases r;exact SeqAt.EqAt.bool_none a|bl b=>cases r;exact SeqAt.EqAt.bool_bool a b|int b=>obtain⟨t,rfl⟩:=r;exact SeqAt.EqAt.bool_int a b t|str b=>obtain⟨t,rfl⟩:=r;exact SeqAt.EqAt.bool_str a b t|_=>exact absurd (show false=true from f) aA
 |int a=>
  obtain⟨T,rfl⟩:=c;cases x with
  |non=>cases r;exact SeqAt.EqAt.int_none a T|bl b=>cases r;exact SeqAt.EqAt.int_bool a T b|int b=>obtain⟨t,rfl⟩:=r;exact SeqAt.EqAt.int_int a T b t|str b=>obtain⟨t,rfl⟩:=r;exact SeqAt.EqAt.int_str a T b t|_=>exact absurd (show false=true from f) aA
 |str a=>
  obtain⟨T,rfl⟩:=c;cases x with
  |non=>cases r;exact SeqAt.EqAt.str_none a T|bl b=>cases r;exact SeqAt.EqAt.str_bool a T b|int b=>obtain⟨t,rfl⟩:=r;exact SeqAt.EqAt.str_int a T b t|str b=>obtain⟨t,rfl⟩:=r;exact SeqAt.EqAt.str_str a T b t|_=>exact absurd (show false=true from f) aA
 |_=>exact absurd (show false=true from d) aA
def ZA (x:V)(u:Value):Bool:=match u with
 |.none=>ZD .non x|.bool b=>ZD (.bl b) x|.int i _=>ZD (.int i) x|.str z _=>ZD (.str z) x|_=>false
def PZ {x y:V}(r:RelV y u)(f:gO y=true):ZA x u=ZD y x:=by
 cases y with
 |non=>cases r;rfl|bl b=>cases r;rfl|int i=>obtain⟨t,rfl⟩:=r;rfl|str z=>obtain⟨t,rfl⟩:=r;rfl|_=>exact absurd (show false=true from f) aA
theorem Xc {x:V}:∀{X:List V}{U:bS},Vals X U->X.all gO=true->U.any (ZA x)=X.any λy=>ZD y x
 |_,_,.nil,_=>rfl|y::X,u::U,.cons r t,f=>by
  rw[List.all_cons,av]at f;rw[bJ,bJ,PZ r f.1,Xc t f.2]
theorem GV {A:Around}{x:V}{v:Value}(a:RelV x v)(b:gO x=true):∀{X:List V}{c:bS},Vals X c->X.all gO=true->∀u∈c,SeqAt.EqAt A s u v (ZA x u)
 |_,_,.nil,_=>λu h=>by cases h|y::X,u::c,.cons r t,f=>λU h=>by
  rw[List.all_cons,av]at f;rcases cn.mp h with rfl|h
  ·rw[PZ r f.1];exact dW r a f.1 b
  ·exact GV a b t f.2 U h
def WN (x:V)(X:List V):Bool:=X.any λy=>ZD y x
def NU (K:Frag)(n:Bool):R2:=λx y H Q=>∃p X,y=.ref p/\(qI K H p X∨qp K H p X)/\gO x=true/\X.all gO=true/\Q (.bl (if n then !WN x X else WN x X)) H
def Ew:qL X (compareOp .In) (NU X.K false):=by
 intro e s g H x y v u Q I b c h;obtain⟨p,j,rfl,a,f,fs,q⟩:=h;cases c;rcases a with a|a
 ·obtain⟨i,r,P,z⟩:=I.list a
  refine SeqAt.in_listAt (ZA x) P.isList (λw d=>GV b f r fs w (by simpa using d)) ⟨.bl _,H,I,rfl,?_⟩
  rw[show i.toArray.any (ZA x)=i.any (ZA x) by simp,Xc r fs]
  exact q
 ·obtain⟨i,r,P,z⟩:=I.tuple a
  refine SeqAt.in_tupleAt (ZA x) P (λw d=>GV b f r fs w (by simpa using d)) ⟨.bl _,H,I,rfl,?_⟩
  rw[show i.toArray.any (ZA x)=i.any (ZA x) by simp,Xc r fs]
  exact q
def L4:jH X (.builtin "len") (λxs H Q=>∃p ys,xs=[.ref p]/\(qI X.K H p ys∨qp X.K H p ys)/\Q (.int ys.length) H):=by
 intro c s d H xs U Q I r h;obtain⟨p,ys,rfl,a,q⟩:=h;obtain⟨u,rfl,x⟩:=vals1 r;cases x;have e:=Ya;rcases a with a|a
 ·obtain⟨i,b,P,z⟩:=I.list a
  have n:=b.length;exact Calls.call_len_list P.isList (by simp only[az]<;>omega) ⟨.int ys.length,H,I.tok _,⟨s.toks+1,by rw[az,n]⟩,q⟩
 ·obtain⟨i,b,P,z⟩:=I.tuple a
  have n:=b.length;exact len_tuple P (by simp only[az]<;>omega) ⟨.int ys.length,H,I.tok _,⟨s.toks+1,by rw[az,n]⟩,q⟩
def LZ:jH X (.type "list") (λxs H Q=>∃p ys,xs=[.ref p]/\(qI X.K H p ys∨qp X.K H p ys)/\∀l,H l=none->Q (.ref l) (upd H l (.lst ys))):=by
 intro P s y H xs U Q I r h;obtain⟨p,ys,rfl,d,q⟩:=h;obtain⟨u,rfl,x⟩:=vals1 r;cases x;have fin:∀(l6:bS),Vals ys l6->ys.length<=sizeLine->∀(h':Heap)(c:Nat),(∀b v,s.heap.get? b=some v->h'.get? b=some v)->
   h'.get? s.heap.objs.size=some { cls:=.type "list",dict:=none,data:=.seq l6.toArray c,slots:=#[] }->EP X P y Q (.ref s.heap.objs.size) { s with heap:=h' }:=λl6 a z h' c kp e=>
  ⟨.ref s.heap.objs.size,_,I.laid (t':=s.toks) kp (ar _) (show qQ X.prog X.w _ h' _ (.lst ys) from ⟨z,l6,c,a,e⟩),rfl,q _ (I.hok.fresh (ar _))⟩
 rcases d with d|d
 ·obtain⟨l6,a,j,z⟩:=I.list d
  have i:=a.length;obtain⟨o,f,g,n,t⟩:=j.isList;exact call_list_seq p (.inl rfl) f g t (λh' c kp e=>fin l6 a z h' c kp e) (by simp only[az]<;>omega)
 ·obtain⟨l6,a,j,z⟩:=I.tuple d
  have i:=a.length;obtain⟨o,f,g,n,t⟩:=j;exact call_list_seq p (.inr rfl) f g t (λh' c kp e=>fin l6 a z h' c kp e) (by simp only[az]<;>omega)
def Ly:jH X (.type "tuple") (λxs H Q=>∃p ys,xs=[.ref p]/\((qI X.K H p ys/\∀l,H l=none->Q (.ref l) (upd H l (.tup ys)))∨(qp X.K H p ys/\Q (.ref p) H))):=by
 intro P s n H xs U Q I r h;obtain⟨p,ys,rfl,h⟩:=h;obtain⟨u,rfl,x⟩:=vals1 r;cases x;rcases h with ⟨c,q⟩|⟨c,q⟩
 ·obtain⟨i,a,j,z⟩:=I.list c
  have t:=a.length;refine call_tuple_list j.isList (λg kp=>?_) (by simp only[az]<;>omega)
  have d:Inv X P n H { s with heap:=g }:=I.kept (t':=s.toks) kp
  have f:Inv X P n (upd H g.objs.size (.tup ys)) { s with heap:=g.push { cls:=.type "tuple",data:=.seq i.toArray } }:=
   d.laid (t':=s.toks) (λb o e=>af _ e) (ar _) (show qQ X.prog X.w _ _ _ (.tup ys) from ⟨z,i,a,Zm.new _ _⟩)
  exact⟨.ref g.objs.size,_,f,rfl,q _ (d.hok.fresh (ar _))⟩
 ·obtain⟨i,a,j,z⟩:=I.tuple c
  exact call_tuple_same j ⟨.ref p,H,I,rfl,q⟩
def V9 (K:Frag)(T:String)(x:V)(H:Hp):Prop:=match x with
 |.str _=>T = "str"
 |.int _=>T = "int"
 |.ref p=>(T = "list" /\ ∃X,qI K H p X)∨(T = "tuple" /\ ∃o,K.lookup p=some o/\o.cls=.type "tuple" /\ o.dict=none)∨
   (T = "dict" /\ ((∃s,H p=some (.dK s))∨∃s,H p=some (.dT s)))∨(T = "set" /\ ∃S n,H p=some (.set S n))
 |_=>False
def dX {T:String}{x:V}{v:Value}(I:Inv X l0 σ H s)(r:RelV x v)(ty:V9 X.K T x H):
  s.TypeIs v T/\∀a,v=.ref a->∃ob,s.heap.get? a=some ob/\ob.dict=none:=by
 cases x with
 |str z=>
  obtain⟨t,rfl⟩:=r;cases (show T = "str" from ty)
  exact⟨typeIs_str s z t,λ_ e=>nomatch e⟩
 |int i=>
  obtain⟨t,rfl⟩:=r;cases (show T = "int" from ty)
  exact⟨typeIs_int s i t,λ_ e=>nomatch e⟩
 |ref p=>
  cases r;rcases ty with ⟨rfl,j,q⟩|⟨rfl,o,h,f,hd⟩|⟨rfl,h⟩|⟨rfl,S,n,h⟩
  ·obtain⟨d,_,P,_⟩:=I.list q
   refine⟨P.isList.typeIs,λa e=>?_⟩;cases e;obtain⟨o,n,e,c,hd,_⟩:=P;exact⟨o,e,hd⟩
  ·refine⟨⟨o,I.kIn p o h,f⟩,λa e=>?_⟩
   cases e;exact⟨o,I.kIn _ o h,hd⟩
  ·have z:∃o,s.heap.get? p=some o/\o.ExactDict:=by
    rcases h with ⟨b,h⟩|⟨b,h⟩
    ·obtain⟨_,_,_,_,o,_,_,e,g,_⟩:=I.hok p _ h
     exact⟨o,e,g⟩
    ·obtain⟨_,_,_,_,o,_,_,e,g,_⟩:=I.hok p _ h
     exact⟨o,e,g⟩
   obtain⟨o,e,g⟩:=z;refine⟨⟨o,e,g.1⟩,λa E=>?_⟩;cases E;exact⟨o,e,g.2.1⟩
  ·obtain⟨o,_,_,_,e,g,_⟩:=I.hok p _ h
   refine⟨⟨o,e,g.1⟩,λa E=>?_⟩;cases E;exact⟨o,e,g.2.1⟩
 |_=>exact False.elim ty
def dY (K:Frag)(T:String)(r:V->List V->Hp->VK->Prop)(to:TE)(t:TA):TE:=λa H Q=>to a H λx b=>V9 K T x b/\t a b λX h=>r x X h Q
variable {o:Expr}{es:bY}{to:TE}{t:TA}{name:Str}{apos lJ:Pos}{T id:String}{r:V->List V->Hp->VK->Prop}
def dZ (p:PlainAttrs T)(S:Slot T name id)(y:typeOf (.builtin id)=pure (.type "method_descriptor"))(L:NK X id r)(j:PE X o to)(l:PA X (e::es) t)
  (b:attributeBase o name X.env (eval o X.env)=eval o X.env:=by rfl)
  (w:((backTo lJ (starEach (e::es) X.env)).all (λx=>!x.1)&&(backToKw lJ (keywordEach [] X.env)).all (λx=>x.1.isSome)
   && decide ((e::es).length+([]:cc).length+(if ([]:cc).isEmpty then 0 else 1)<30))=true:=by rfl)
  (a:(apos.endLine==lJ.line)=true:=by rfl)(g:starEach (e::es) X.env=(false,eval e X.env)::starEach es X.env:=by rfl)(n:(backTo lJ (starEach es X.env)).any (·.1)=false:=by rfl):
  PE X (.Call (.Attribute o name apos) (e::es) [] lJ) (dY X.K T r to t):=by
 intro P s C H Q I h;refine wpAny_Call_method_late b w a rfl (zQ (j P s C H _ I h) λv J ⟨x,N,i,c,ty,f⟩=>?_);obtain⟨M,u⟩:=dX i c ty;refine⟨T,id,p,S,y,M,u,?_⟩;have A:=l lJ P J C N _ i f;rw[g]at A ⊢;refine Calls.callWith_builtin (by show(false || (backTo lJ (starEach es X.env)).any (·.1))=false;rw[n]<;>rfl) (Calls.evalArgs_plain ?_)
 exact zQ A λU E ⟨D,B,z,d,q⟩=>L P E C B x D v U Q z c d q
end
def VW (X:Cx)(id:String)(r:V->List V->Hp->VK->Prop):Prop:=
 ∀(l0:bU)(s:Shared)(σ:St)(H:Hp)(x:V)(xs:List V)(v:Value)(us:bS)(Q:VK),Inv X l0 σ H s->RelV x v->Vals xs us->r x xs H Q->
  wpAny (model X.prog X.w) X.A (call (.builtin id) (v::us)) (EP X l0 σ Q) X.xe s
def Vals.one {x:V}(h:Vals [x] us):∃u,us=[u]/\RelV x u:=by
 cases h with
 |cons r t=>cases t;exact⟨_,rfl,r⟩
def Vals.two {x y:V}(h:Vals [x,y] us):∃u v,us=[u,v]/\RelV x u/\RelV y v:=by
 cases h with
 |cons r t=>exact(Vals.one t).elim λv e=>⟨_,v,by rw[e.1],r,e.2⟩
theorem Vals.zero:∀{u:bS},Vals [] u->u=[]
 |_,.nil=>rfl
theorem Vals.eraseIdx:∀{x:List V}{u:bS}(i:Nat),Vals x u->Vals (x.eraseIdx i) (u.eraseIdx i)
 |_,_,_,.nil=>.nil|_,_,0,.cons _ t=>t|_,_,i+1,.cons r t=>.cons r (Vals.eraseIdx i t)
theorem Vals.rep {x:List V}(h:Vals x us):∀k:Nat,Vals (List.replicate k x).flatten (List.replicate k us).flatten
 |0=>.nil|k+1=>by
  rw[bh,bh,aO,aO];exact Vals.append h (Vals.rep h k)
theorem Sw:∀(l:List α)(i:Nat),(l.eraseIdx i).length<=l.length
 |[],_=>ar _|_::_,0=>le_succ _|_::r,i+1=>Nat.succ_le_succ (Sw r i)
theorem foldl_rep (i:bS):∀(k:Nat)(a:bS),
  List.foldl (λx x2=>x++x2) a.toArray (List.replicate k i.toArray)=(a++(List.replicate k i).flatten).toArray
 |0,a=>by simp|k+1,a=>by
  have e:a.toArray++i.toArray=(a++i).toArray:=by simp
  have E:(a++i)++(List.replicate k i).flatten=a++(List.replicate (k+1) i).flatten:=by
   rw[bh,aO,aR]
  rw[<- E,<- foldl_rep i k (a++i),<- e,bh,bH]
section
variable {l:Addr}{xs:List V}
def Inv.lset {its':bS}{f:Array Value->Array Value}(I:Inv X l0 σ H s)(c:H l=some (.lst xs))
  (e:s.heap.get? l=some { cls:=.type "list",data:=.seq l6.toArray n })(d:f l6.toArray=its'.toArray)(v:Vals ys its')(h:ys.length<=sizeLine):
  Inv X l0 σ (upd H l (.lst ys)) { s with heap:=s.heap.update l (Obj.mapSeq f),toks:=t' }:=by
 have q:=PySem.IsL.update e f;rw[d]at q;refine I.write (x:=l) (e:=l) (by rw[c];exact trivial) (.inl rfl) (λB u b a=>(aS s.heap (Obj.mapSeq f) (Ne.symm b)).trans a) ⟨_,q⟩ ?_
 exact⟨h,its',_,v,q⟩
def Inv.lnew (I:Inv X l0 σ H s)(v:Vals ys l6)(h:ys.length<=sizeLine):
  Inv X l0 σ (upd H s.heap.objs.size (.lst ys)) { s with heap:=s.heap.push { cls:=.type "list",data:=.seq l6.toArray },toks:=t' }:=
 I.laid (λ_ _ q=>af _ q) (ar _) ⟨h,l6,0,v,aw _ rfl⟩
theorem Inv.fresh (I:Inv X l0 σ H s):H s.heap.objs.size=none:=I.hok.fresh (ar _)
def Inv.lstM (I:Inv X l0 σ H s)(h:H l=some (.lst xs)):xs.length<=sizeLine/\∃(i:bS) (n:Nat),Vals xs i/\xs.length=i.length/\s.heap.get? l=some { cls:=.type "list",data:=.seq i.toArray n }:=by
 obtain⟨z,i,n,r,e⟩:=I.hok l _ h;exact⟨z,i,n,r,r.length,e⟩
def D6 (h:n<=sizeLine):Builtin.List.listTooLong n=false:=by
 unfold Builtin.List.listTooLong;exact aD (by omega)
end
section
def AK:V->List V->Hp->VK->Prop:=λx v H Q=>∃l X y,x=.ref l/\v=[y]/\H l=some (.lst X)/\X.length<sizeLine/\Q .non (upd H l (.lst (X++[y])))
def Ss:VW X "list.append" AK:=by
 intro p s j H x t v U Q I b c h;obtain⟨l,o,y,rfl,rfl,a,f,q⟩:=h;cases b;obtain⟨u,rfl,d⟩:=c.one;obtain⟨z,i,n,r,g,e⟩:=I.lstM a;refine call_meets F.slot_list_append ⟨_,e,rfl⟩ F.entry_list_append (F.args_list_append_2 _ _) (PySem.list_append l i.toArray n u (by rw[az];omega)) ⟨e,?_⟩
 refine⟨.non,_,I.lset (its':=i++[u]) a e (by simp) (r.append (.cons d .nil)) ?_,rfl,q⟩
 rw[aj,bA];omega
def d1:V->List V->Hp->VK->Prop:=λx v H Q=>∃l X i k y,x=.ref l/\v=[.int i]/\H l=some (.lst X)/\-(2 ^ 63)<=i/\i<2 ^ 63/\seqIndex? i X.length=some k/\X[k]? =some y/\Q y (upd H l (.lst (X.eraseIdx k)))
def CJ:VW X "list.pop" d1:=by
 intro P s E H x J v U Q I d f h;obtain⟨l,B,i,k,y,rfl,rfl,c,D,A,p,j,q⟩:=h;cases d;obtain⟨u,rfl,g⟩:=f.one;obtain⟨t,rfl⟩:=g;obtain⟨z,a,n,r,o,e⟩:=I.lstM c;obtain⟨w,C,b⟩:=r.get j;refine call_meets F.slot_list_pop ⟨_,e,rfl⟩ F.entry_list_pop (F.args_list_pop_2 _ _)
  (MeetsSeq.list_pop_at l a.toArray n i t k w (fitsIndex_both D A) (by rw[az,<- o];exact p) (by rw[<- bC];exact C) (by rw[az];omega)) ⟨e,?_⟩
 refine⟨y,_,I.lset (its':=a.eraseIdx k) c e ?_ (r.eraseIdx k) ?_,b,q⟩
 ·show a.toArray.eraseIdxIfInBounds k=(a.eraseIdx k).toArray
  rw[List.eraseIdxIfInBounds_toArray]
 ·have:=Sw B k
  omega
def Nv:R2:=λx y H Q=>∃l b X z,x=.ref l/\y=.ref b/\H l=some (.lst X)/\H b=some (.lst z)/\X.length+z.length<=sizeLine/\∀p,H p=none->Q (.ref p) (upd H p (.lst (X++z)))
def d2:qL X (binaryOp .Add) Nv:=by
 intro w s A H x y v u Q I d c h;obtain⟨l,b,D,C,rfl,rfl,j,B,p,q⟩:=h;cases d;cases c;obtain⟨z,a,n,r,t,e⟩:=I.lstM j;obtain⟨Z,i,N,f,g,o⟩:=I.lstM B;refine PySem.P.add_list e o ?_ (by rw[az,az];omega)
 have E:a.toArray++i.toArray=(a++i).toArray:=by simp
 rw[E];exact⟨.ref _,_,I.lnew (t':=s.toks) (r.append f) (by rw[aj];omega),rfl,q _ I.fresh⟩
def Nh:R2:=λx y H Q=>∃l k X,x=.ref l/\y=.int k/\H l=some (.lst X)/\-(2 ^ 63)<=k/\k<2 ^ 63/\X.length * k.toNat<=sizeLine/\
 ∀p,H p=none->Q (.ref p) (upd H p (.lst (List.replicate k.toNat X).flatten))
def len_rep (x:List α)(k:Nat):(List.replicate k x).flatten.length=k * x.length:=by
 induction k with
 |zero=>simp|succ k i=>rw[bh,aO,aj,i,Nat.succ_mul,add_comm]
def d3:qL X (binaryOp .Mult) Nh:=by
 intro P s L H x y v u Q I j f h;obtain⟨l,k,M,rfl,rfl,A,J,B,d,q⟩:=h;cases j;obtain⟨t,rfl⟩:=f;obtain⟨z,i,n,r,o,e⟩:=I.lstM A;have D:i.toArray.size * k.toNat<=sizeLine:=by rw[az,<- o];exact d
 have p:¬i.toArray.size * k.toNat > (2 ^ 63-1)/8:=by
  have:(sizeLine:Nat)<=(2 ^ 63-1)/8:=by decide
  omega
 have b:¬(!Builtin.List.listFitsIndex k)=true:=by
  rw[fitsIndex_both J B];exact aA
 have g:¬Builtin.List.listTooLong (i.toArray.size * k.toNat)=true:=by
  rw[D6 D];exact aA
 have w:List.foldl (λc E=>c++E) #[] (List.replicate (if i.toArray.isEmpty=true then 0 else k.toNat) i.toArray)=(List.replicate k.toNat i).flatten.toArray:=by
  have K:∀m:Nat,List.foldl (λc E=>c++E) #[] (List.replicate m i.toArray)=(List.replicate m i).flatten.toArray:=λm=>by
   have:=foldl_rep i m []
   rw[nil_append]at this;exact this
  rw[K];cases i with
  |nil=>simp|cons a C=>rw[ai (by simp)]
 refine wpAny_binaryOp_repeat_ref (T := "list") (U := "int") (by decide) ⟨_,e,rfl⟩ (λS=>typeIs_int S k t) noFill_list_mul F.fills_int_mul F.slot_int_rmul repeat_list F.slot_int_index.lookup
  (call_meets F.slot_int_rmul (typeIs_int s k t) F.entry_int_rmul (F.args_int_rmul_2 _ _) (int___rmul___int_list k t l i.toArray n)
   ⟨e,rfl,⟨_,e,rfl⟩,call_meets F.slot_list_mul ⟨_,e,rfl⟩ F.entry_list_mul (F.args_list_mul_2 _ _) (AutoListH.list___mul___list_int_3 l i.toArray n k t b p g) ⟨e,?_⟩⟩)
 rw[w];exact⟨.ref _,_,I.lnew (t':=s.toks) (r.rep k.toNat) (by rw[len_rep,Nat.mul_comm];exact d),rfl,q _ I.fresh⟩
end
section
set_option maxRecDepth 100000 in
end
end L2
namespace Att
open PySem PySem.W PySem.Calls PyProof.Rows
def MN {P:Params}:∀(N:bR)(v:bS),WellAll P h v (N.map WData.int)->IntsAre v N:=by
 intro N
 induction N with
 |nil=>
  intro v w;rw[map_nil]at w;cases w;exact .nil
 |cons n N i=>
  intro v w;rw[aK]at w;cases w with
  |cons a b=>
   cases a;exact .cons _ _ (i _ b)
def FE {l:OpenLaw}(u:l.most=some n){P:Params}{A:List WData}{v:bS}
  (H:l.row.toRowW.claim.pre A=true)(f:WellAll P h v A):
  ∃a vs ns,v=[Value.ref a]/\A=[WData.list (ns.map WData.int)]/\h.get? a=some { cls:=.type "list",data:=.seq vs.toArray }/\IntsAre vs ns/\ns.length<=n:=by
 have g:WShape.hasAll [] A [.list .int]=true:=(pre_splitW H).1;have i:l.pre.holds [] { args:=A }=true:=(pre_splitW H).2;obtain⟨d,r,rfl,x,s⟩:=hasAllW_cons g;obtain rfl:=hasAllW_nil s;obtain⟨X,rfl,p⟩:=hasW_list x;obtain⟨ns,rfl⟩:=items_int p;have t:ns.length<=n:=by
  unfold OpenLaw.pre at i;have e:(WTm.not (.lt (.lit (.int (n:Int))) (.len (.arg 0)))).holds [] { args:=[.list (ns.map .int)] }=true:=by
   have e:=(holds_andW i).1;rw[u]at e;exact e
  have c:=condW_of e (w_not (w_lt w_lit (w_len_list (w_arg rfl))));rw[ag]at c;refine Nat.le_of_not_lt λq=>?_;have Q:(n:Int)<((ns.length:Nat):Int):=by omega
  first
   |(rw[aE Q]at c;exact absurd c (by decide))
   |(simp at c;omega)
 cases f with
 |cons j w=>
  cases w;cases j with
  |list o b=>exact⟨_,_,ns,rfl,rfl,o,MN ns _ b,t⟩
def FP (l:OpenLaw)(a:List WData):l.row.toRowW.claim.post a (.bool true) a=true:=
 postW_of (r:=l.row.toRowW) (X:=(true==true))
  (show WShape.has [] (.bool true) .bool=true by first|rfl|decide|simp[WShape.has,WShape.arms,WShape.armsAll])
  (show(WTm.eq .res (.lit (.bool true))).value [] { args:=a,res:=some (.bool true),after:=a }=some (.bool (true==true)) from w_eq_bool (w_res rfl) w_lit) rfl
def I9 {l:OpenLaw}{q:Program}{L:bW}{P:World->Heap->Prop}{d:DefRec}
  (U:l.most=some n)(e:d.params.defaults=[])
  (call:∀(w:World)(S s:Shared)(M T:b8)(b:Addr)(o:Obj)(Q K E:Value)(a:Addr)(I:bS)(N:bR),
   Ground q L [] XP w S M T s.heap->P w s.heap->
   s.heap.get? b=some o->o.data=.func (docDef d.name d.params d.body d.scope Q K E)->s.heap.CodeRec K d.name->M d.name=some (.ref b)->
   s.heap.get? a=some { cls:=.type "list",data:=.seq I.toArray }->IntsAre I N->N.length<=n->s.gens=#[]->
   codeAny (model l.prog w) callerA (.call (.ref b) ⟨[.ref a],[]⟩) (λr s'=>r=.ok (.ret (.bool true))/\OldK s.heap s'.heap/\s'.os=s.os/\AllBare s'.gens) s):
  WalkO q L XP P l.row.toRowW d [] (λf I=>PySem.call f I):=by
 intro w S s M T G Y b o Q K E B kV t Z i D g v args vals as h y j c u;obtain rfl:B=.none:=Dflts.none D e;obtain rfl:kV=.none:=Dflts.noKw D;obtain⟨a,I,N,rfl,rfl,H,C,J⟩:=FE U h c;refine enter_call (codeAny_mono (call w S s M T b o Q K E a I N G Y t (fd_plain Z) i g H C J v) λr s' p=>?_);obtain⟨rfl,A,z,x⟩:=p;exact⟨.inl ⟨.bool true,.bool true,[],rfl,λ_=>rfl,.bool true,FP l _,λ_=>⟨List.Pairwise.nil,λ_ X=>(nomatch X)⟩⟩,A,z,x⟩
end Att
namespace L2
open PySem PySem.Spec PyProof.Rows
theorem JO:∀{v:bS}{N:bR},IntsAre v N->Vals (N.map V.int) v
 |_,_,.nil=>.nil|_,_,.cons n t h=>.cons ⟨t,rfl⟩ (JO h)
noncomputable abbrev ND {K:Frag}(_:K.In h):Frag:=K
noncomputable def Zk (s:Stmt):Arguments:=match s with
 |.FunctionDef _ a _ _ _ _ _ _ _ _=>a|_=>{ posonlyargs:=[],args:=[],vararg:=none,kwonlyargs:=[],kw_defaults:=[],kwarg:=none,defaults:=[] }
noncomputable def yJ (s:Stmt):cg:=match s with
 |.FunctionDef _ _ b _ _ _ _ _ _ _=>b|_=>[]
noncomputable def qh (s:Stmt):Scope:=match s with
 |.FunctionDef _ _ _ _ _ _ S _ _ _=>S|_=>{ kind:=.function,names:=[],isGenerator:=false,isCoroutine:=false }
noncomputable abbrev kJ:wM:=λ_ _ _ _ _ _=>False
noncomputable abbrev E0:XK:=λ_ _ _=>False
def d4:Passes kJ X E0:=λ_ _ _ _ _ _ _ h=>h.elim
structure kI (K:Frag)(x qual:Str)(st:Stmt)(f:Addr)(fd:FuncData):Prop where
 ex:∃(oc:Value) (od:cf) (kV doc pm:Value) (an:cf) (cdv ct:Value) (lQ:Array (Option Value)),
  fd=fnOf x qual (Zk st) (yJ st) (qh st) .none kV doc pm an cdv ct/\K.lookup f=some ⟨oc,od,.func fd,lQ⟩/\codeIn K cdv qual=true
 kp:keepIn K (.ref f)=true
section
variable {K:Frag}
def kI.ok {i:Stmt}{k:Nat}{j:Sp}(F:kI K x qual i f fd)(S:qM N ps (qh i))(len:∀v H Q E,j v H Q E->v.length=ps.length)
  (y:∀(c:Value)(A:Around)(g:b9)(s:Shared)(H:Hp)(v:List V)(Q:VK)(E:XK),qP k (A.deeper (envOfC qual (qh i) s.heap.objs.size f c))->j v H Q E->
   ∃t,yo (kE kJ P w K mg base N qual (qh i) f c A g s H E).nox (yJ i) t/\t { nx:=λ_ a=>Q .non a,rt:=Q } (start N v) H):ym P w K mg base kJ (k+1) f fd ps j:=by
 obtain⟨e,b,kV,D,n,u,c,ct,o,rfl,l,d⟩:=F.ex;refine Vt l d S len λA g s H v Q E r p=>?_;obtain⟨t,h,q⟩:=y c A g s H v Q E r p;exact⟨t,h.nox,q⟩
def kI.binds {s:Stmt}(F:kI K x qual s f fd)
  (h:∀(kV D p:Value)(A:cf)(c ct:Value)(u:bS),u.length=ps.length->bindArgs (fnOf x qual (Zk s) (yJ s) (qh s) .none kV D p A c ct) ⟨u,[]⟩=pure (ps.zip u)):Binds K fd ps []:=by
 obtain⟨a,d,kV,D,p,A,c,ct,o,rfl,l,H⟩:=F.ex;exact .all (h kV D p A c ct)
def d6 {s:Stmt}{a:Value}{o A:cf}{kV d p C ct:Value}(l:K.lookup f=some ⟨a,o,.func (fnOf x qual (Zk s) (yJ s) (qh s) .none kV d p A C ct),lQ⟩)
  (c:codeIn K C qual=true)(k:keepIn K (.ref f)=true):kI K x qual s f (fnOf x qual (Zk s) (yJ s) (qh s) .none kV d p A C ct):=⟨⟨a,o,kV,d,p,A,C,ct,lQ,rfl,l,c⟩,k⟩
end
def OZ {A:Around}{k:Nat}(h:qP k A):A.units+1<cLine:=Nat.lt_of_le_of_lt (Nat.add_le_add_left (by decide:1<=64) _) h.units
section
variable {κ:Type}[DecidableEq κ]
noncomputable def kY (K:List (κ×V))(k:κ):Option V:=(K.find? λv=>decide (v.1=k)).map (·.2)
noncomputable def putK (K:List (κ×V))(k:κ)(v:V):List (κ×V):=
 if (K.any λa=>decide (a.1=k))=true then K.map (λa=>if a.1=k then(a.1,v) else a) else K++[(k,v)]
def Kq {p:κ×V}{r:List (κ×V)}{k:κ}(e:p.1=k):kY (p::r) k=some p.2:=by simp[kY,find?_cons,e]
def Ku {p:κ×V}{r:List (κ×V)}{k:κ}(e:¬p.1=k):kY (p::r) k=kY r k:=by simp[kY,find?_cons,e]
theorem Rv (k:κ):∀K:List (κ×V),(K.any λv=>decide (v.1=k))=(kY K k).isSome
 |[]=>rfl|p::r=>by
  rw[bJ]
  by_cases e:p.1=k
  ·simp only[Kq e,aE e,Bool.true_or,isSome_some]
  ·rw[Ku e,aD e,Bool.false_or];exact Rv k r
def Gx (K:List (κ×V))(k:κ)(v:V):(putK K k v).length<=K.length+1:=by
 unfold putK
 split
 ·rw[ag];omega
 ·rw[aj,aL,bg];omega
def gf.isSome_eq {o:Option V}{u:Option Value}(r:gf o u):o.isSome=u.isSome:=by
 cases o with
 |none=>cases u with
  |none=>rfl|some _=>exact(show False from r).elim
 |some _=>cases u with
  |none=>exact(show False from r).elim|some _=>rfl
def KV.val {K:List (κ×V)}{v:List (κ×Value)}(r:KV K v)(k:κ):gf (kY K k) (valueAt v k):=by
 unfold KV at r
 induction r with
 |nil=>exact True.intro|@cons p q ps Q h t i=>
  obtain⟨a,H⟩:=h
  by_cases e:p.1=k
  ·have E:q.1=k:=a.symm.trans e
   have b:valueAt (q::Q) k=some q.2:=by simp[valueAt,find?_cons,E]
   rw[Kq e,b];exact H
  ·have E:¬q.1=k:=λz=>e (a.trans z)
   have b:valueAt (q::Q) k=valueAt Q k:=by simp[valueAt,find?_cons,E]
   rw[Ku e,b];exact i
theorem KV.any {K:List (κ×V)}{s:List (κ×Value)}(r:KV K s)(k:κ):(K.any λv=>decide (v.1=k))=s.any λv=>decide (v.1=k):=by
 unfold KV at r
 induction r with
 |nil=>rfl|cons h t i=>rw[bJ,bJ,i,h.1]
def KV.repl {s:List (κ×V)}{v:List (κ×Value)}(r:KV s v)(k:κ){y:V}(a:RelV y u):
  KV (s.map λK=>if K.1=k then(K.1,y) else K) (v.map λK=>if K.1=k then(K.1,u) else K):=by
 unfold KV at r ⊢
 induction r with
 |nil=>exact .nil|@cons p q ps Q h t i=>
  rw[aK,aK];refine .cons ?_ i;obtain⟨b,H⟩:=h
  by_cases e:p.1=k
  ·rw[ah e,ah (b.symm.trans e)];exact⟨b,a⟩
  ·rw[ai e,ai (λz=>e (b.trans z))];exact⟨b,H⟩
def KV.put {K:List (κ×V)}{s:List (κ×Value)}(r:KV K s)(k:κ){y:V}(a:RelV y u):KV (putK K k y) (stored s k u):=by
 unfold putK stored;rw[r.any k]
 by_cases e:(s.any λv=>decide (v.1=k))=true
 ·rw[ah e,ah e];exact r.repl k a
 ·rw[ai e,ai e];exact Paired.snoc r ⟨rfl,a⟩
theorem KV.length {K:List (κ×V)}{v:List (κ×Value)}(r:KV K v):K.length=v.length:=Paired.length r
end
def Wg {k:Key}(r:RelV (kV k) u):(yX P w).is k u=true:=by
 cases k with
 |inl i=>obtain⟨t,e⟩:=(show ∃t,u=Value.int i t from r);subst e;exact IY P w i t|inr x=>obtain⟨t,e⟩:=(show ∃t,u=Value.str x t from r);subst e;exact IP P w x t
theorem Sg:∀{K:List Key}{u:bS},Vals (K.map kV) u->ItemsAre (yX P w) K u
 |[],_,r=>by rw[map_nil]at r;cases r;exact .nil|k::K,_,r=>by
  rw[aK]at r;cases r with
  |cons h t=>exact .cons (Wg h) (Sg t)
abbrev KT (H:Hp):List (List Key×V)->List (List Key×Addr×Value)->Prop:=Paired λp q=>p.1=q.1/\H q.2.1=some (.tup (p.1.map kV))/\RelV p.2 q.2.2
def KT.val (r:KT H lG xs)(k:List Key):gf (kY lG k) ((atKey xs k).map (·.2)):=by
 induction r with
 |nil=>exact True.intro|@cons p q ps Q h t i=>
  obtain⟨c,_,a⟩:=h
  by_cases e:p.1=k
  ·have E:q.1=k:=c.symm.trans e
   have b:atKey (q::Q) k=some q.2:=by simp[atKey,find?_cons,E]
   rw[Kq e,b];exact a
  ·have E:¬q.1=k:=λz=>e (c.trans z)
   have b:atKey (q::Q) k=atKey Q k:=by simp[atKey,find?_cons,E]
   rw[Ku e,b];exact i
def KT.repl (r:KT H lG xs)(k:List Key){y:V}(b:RelV y u):
  KT H (lG.map λK=>if K.1=k then(K.1,y) else K) (xs.map (putAt k u)):=by
 induction r with
 |nil=>exact .nil|@cons p q ps Q h t i=>
  rw[aK,aK];refine .cons ?_ i;obtain⟨d,a,c⟩:=h;unfold putAt
  by_cases e:p.1=k
  ·rw[ah e,ah (d.symm.trans e)];exact⟨d,a,b⟩
  ·rw[ai e,ai (λz=>e (d.trans z))];exact⟨d,a,c⟩
def KT.put (r:KT H lG xs)(k:List Key){y:V}(h:H b=some (.tup (k.map kV)))(a:RelV y u):
  KT H (putK lG k y) (storedH xs k b u):=by
 have e:(lG.any λK=>decide (K.1=k))=(atKey xs k).isSome:=by
  rw[Rv,(r.val k).isSome_eq,Option.isSome_map]
 unfold putK storedH;rw[e]
 by_cases q:(atKey xs k).isSome=true
 ·rw[ah q,ah q];exact r.repl k a
 ·rw[ai q,ai q];exact Paired.snoc r ⟨rfl,h,a⟩
def KT.keeps {h:Hp}(r:KT H lG xs)(t:∀b ys,H b=some (.tup ys)->h b=some (.tup ys)):KT h lG xs:=
 Paired.mapP r λ_ _ z=>⟨z.1,t _ _ z.2.1,z.2.2⟩
section
def O4 {u:HO}(ok:qN P w H h)(e:Rd H a u):qQ P w H h a u:=e.ok ok
def Vd {K:List (Key×V)}(ok:qN P w H h)(e:Rd H a (.dK K)):K.length<=sizeLine/\(a==sysModules)=false/\∃vs,KV K vs/\h.DictOf (yX P w) a vs:=
 show qQ P w H h a (.dK K) from O4 ok e
def Vq {K:List (Key×V)}(ok:qN P w H h)(e:H a=some (.dK K)):K.length<=sizeLine/\(a==sysModules)=false/\∃vs,KV K vs/\h.DictOf (yX P w) a vs:=Vd ok (.inl e)
def X1 {K:List Key}(ok:qN P w H h)(e:H a=some (.tup (K.map kV))):(tupleKind (yX P w)).is h K a:=by
 obtain⟨_,i,r,o,d,c,n,b⟩:=(show qQ P w H h a (.tup (K.map kV)) from ok a _ e)
 exact⟨o,i.toArray,n,d,c.1,b,by simpa using Sg r⟩
def Vu (ok:qN P w H h)(e:Rd H a (.dT lG)):lG.length<=sizeLine/\(a==sysModules)=false/\
  ∃xs,KT H lG xs/\h.DictOfH (tupleKind (yX P w)) a xs:=by
 obtain⟨z,y,xs,r,o,E,n,s,j,g,f,d⟩:=(show qQ P w H h a (.dT lG) from O4 ok e)
 refine⟨z,y,xs,r,o,E,n,s,j,g,f,λx b=>?_,d⟩;have all:∀{l:List (List Key×V)}{m:List (List Key×Addr×Value)},KT H l m->∀x∈m,(tupleKind (yX P w)).is h x.1 x.2.1:=by
  intro l m q
  induction q with
  |nil=>intro x b;exact nomatch b
  |@cons p q ps Q c t i=>
   intro x b;rcases cn.mp b with e|b
   ·subst e
    exact X1 ok (by rw[<- c.1];exact c.2.1)
   ·exact i x b
 exact all r x b
def d7 (ok:qN P w H h)(e:H a=some (.dT lG)):lG.length<=sizeLine/\(a==sysModules)=false/\
  ∃xs,KT H lG xs/\h.DictOfH (tupleKind (yX P w)) a xs:=Vu ok (.inl e)
end
def Jr (H:Hp)(a:Addr)(y:V)(r:Option V):Prop:=
 (∃K k,Rd H a (.dK K)/\y=kV k/\r=kY K k)∨∃K k b,Rd H a (.dT K)/\y=.ref b/\H b=some (.tup (k.map kV))/\r=kY K k
def Wn (H:Hp)(a:Addr)(y v:V)(h:Hp):Prop:=
 (∃K k,H a=some (.dK K)/\y=kV k/\K.length<sizeLine/\h=upd H a (.dK (putK K k v)))∨
 ∃K k b,H a=some (.dT K)/\y=.ref b/\H b=some (.tup (k.map kV))/\K.length<sizeLine/\h=upd H a (.dT (putK K k v))
theorem Jr.k {K:List (Key×V)}{k:Key}(e:H a=some (.dK K)):Jr H a (kV k) (kY K k):=.inl ⟨K,k,.inl e,rfl,rfl⟩
theorem Wn.k {K:List (Key×V)}{k:Key}(e:H a=some (.dK K))(h:K.length<sizeLine):Wn H a (kV k) v (upd H a (.dK (putK K k v))):=.inl ⟨K,k,e,rfl,h,rfl⟩
section
variable {y:V}{r:Value}{o:Option V}{A:Around}
def Inv.big (I:Inv X l0 σ H s):sysModules<s.heap.objs.size:=by
 have h:mainGlobals<s.heap.objs.size:=(I.mod.glob.keeps I.bk).lt;exact lt_trans (by decide) h
def Fi (j:A.units+1<cLine)(I:Inv X l0 σ H s)(g:Jr H a y (some v))(i:RelV y u)(h:∀c s',Inv X l0 σ H s'->RelV v c->Q c s'):
  wpAny (model X.prog X.w) A (getItem (.ref a) u) Q E s:=by
 rcases g with ⟨K,k,e,f,l⟩|⟨K,k,b,e,f,q,l⟩
 ·subst f
  obtain⟨z,J,C,t,D⟩:=Vd I.hok e;obtain⟨c,x,r⟩:=gf.some_of (v:=v) (o:=valueAt C k) (by rw[l];exact t.val k)
  exact wpAny_getItem_of (Wg i) D.mapOf x (h c _ (I.tok _) r)
 ·subst f
  cases (show u=Value.ref b from i)
  obtain⟨z,J,B,t,D⟩:=Vu I.hok e;obtain⟨c,x,r⟩:=gf.some_of (v:=v) (o:=(atKey B k).map (·.2)) (by rw[l];exact t.val k)
  obtain⟨p,n,d⟩:=Option.map_eq_some_iff.mp x;refine wpAny_getItem_heap (tupleKind_room_in1 j) (X1 I.hok q) D n ?_;rw[d];exact h c _ (I.tok _) r
def Xa {ob:HO}(I:Inv X l0 σ H s)(M:YI (H a))(h:Heap.SameBut a s.heap h')(d:∃q,h'.get? a=some q)(new:qQ X.prog X.w (upd H a ob) h' a ob):
  Inv X l0 σ (upd H a ob) { s with heap:=h',toks:=t' }:=
 I.write (x:=a) (e:=a) M (.inl rfl) (λb q c z=>(h.2 b c).trans z) d new
def P0 {H:Hp}{K:List (Key×V)}{v:List (Key×Value)}(z:K.length<=sizeLine)(h:(a==sysModules)=false)(r:KV K v)(d:h'.DictOf (yX P w) a v):
  qQ P w H h' a (.dK K):=⟨z,h,v,r,d⟩
def Fx {D:Hp}{Q:Unit->Shared->Prop}(J:A.units+1<cLine)(I:Inv X l0 σ H s)(g:Wn H a y v D)(t:RelV y u)(x:RelV v r)(h:∀s',Inv X l0 σ D s'->Q () s'):
  wpAny (model X.prog X.w) A (setItem (.ref a) u r) Q E s:=by
 rcases g with ⟨K,k,e,o,l,p⟩|⟨K,k,b,e,o,C,l,p⟩
 ·subst o p
  obtain⟨z,Y,vs,U,Z⟩:=Vq I.hok e;have i:vs.length<=sizeLine:=by rw[<- U.length];exact z
  have n:(putK K k v).length<=sizeLine:=by have:=Gx K k v;omega
  refine wpAny_setItem_pairs (hsz:=i) (Wg t) Z λh' d j=>h _ ?_;have he:∃q,h'.get? a=some q:=let ⟨q,_,_,f,_⟩:=d;⟨q,f⟩
  exact Xa I (by rw[e];exact True.intro) j he (P0 n Y (U.put k x) d)
 ·subst o p
  cases (show u=Value.ref b from t)
  obtain⟨z,Y,xs,U,Z⟩:=d7 I.hok e;have i:xs.length<=sizeLine:=by rw[<- Paired.length U];exact z
  have n:(putK K k v).length<=sizeLine:=by have:=Gx K k v;omega
  refine wpAny_setItem_heap (hsz:=i) (tupleKind_room_in1 J) (X1 I.hok C) Z λh' d j=>h _ ?_;obtain⟨q,S,T,f,P,N,M,_,L⟩:=d;refine Xa I (by rw[e];exact True.intro) j ⟨q,f⟩ ⟨n,Y,_,(U.put k C x).keeps λc ys B=>?_,q,S,T,f,P,N,M,L⟩
  rw[qi (Jm B e (λz=>nomatch z))];exact B
end
def VG (i:Expr):Prop:=∀o I,subscripted i false o I=operate [o,I] (getItem o I)
def BF {p:Program}{A:Around}{v f:Expr}{T id:String}
  (l:typeLookup (.type T) "__getitem__"=pure (some (.builtin id)))(e:VG f)
  (h:wpAny (model p w) A (eval v env) (λo b=>wpAny (model p w) A (eval f env) (λi S=>S.TypeIs o T/\wpAny (model p w) A (getItem o i) Q E S) E b) E s):
  wpAny (model p w) A (eval (.Subscript v f pos) env) Q E s:=by
 refine Subscript_ (wpAny_mono h (λo b d=>wpAny_mono d (λi S H=>?_) λ_ _ x=>x) λ_ _ x=>x);obtain⟨hT,H⟩:=H;unfold subscriptTail;refine ck ?_;rw[getitemInPython_of_ne hT.not_modules];refine ck (wpAny_specialOf hT l ?_);have fin:wpAny (model p w) A (subscripted f false o i) (λr a=>wpAny (model p w) A (letTemporaryGo v o r >>= λ_=>pure r) Q E a) E S:=by
  rw[e o i];exact wpAny_operating (wpAny_mono H (λr a c=>ck (wpAny_letTemporaryGo (cm c))) λ_ _ x=>x)
 first
  |exact cm (ck fin)
  |exact ck (cm (ck fin))
  |exact ck fin
def IF {y:V}{o:Option V}(I:Inv X l0 σ H s)(g:Jr H a y o):s.TypeIs (.ref a) "dict":=by
 rcases g with ⟨K,k,e,_,_⟩|⟨K,k,b,e,_,_,_⟩
 ·obtain⟨_,_,v,_,d⟩:=Vd I.hok e
  exact d.typeIs
 ·obtain⟨_,_,x,_,d⟩:=Vu I.hok e
  exact d.typeIs
def d8 (td ty:TE):TE:=λb H Q=>td b H λx c=>ty b c λy h=>∃a v,x=.ref a/\Jr h a y (some v)/\Q v h
section
variable {o i:Expr}{td ty:TE}
def Ad (f:X.A.units+1<cLine)(l:PE X o td)(C:PE X i ty)(j:VG i):PE X (.Subscript o i pos) (d8 td ty):=by
 intro P s B H Q I h;refine BF PySem.F.slot_dict_getitem.lookup j (zQ (l P s B H _ I h) λu S ⟨x,D,p,d,e⟩=>zQ (C P S B D _ p e) λz K ⟨y,t,b,c,a,v,E,g,q⟩=>?_);subst E;obtain rfl:u=Value.ref a:=d;exact⟨IF b g,Fi f b g c λw J n r=>⟨v,t,n,r,q⟩⟩
end
def Ru (h:Heap)(b:sysModules<h.objs.size):qQ P w H (h.push { cls:=.type "dict",data:=.dict #[] }) h.objs.size (.dK []):=
 ⟨bG _,beq_eq_false_iff_ne.mpr (Ne.symm (aJ b)),[],.nil,Heap.DictOf.new h⟩
def d9:TE:=λ_ H Q=>∀p,H p=none->Q (.ref p) (upd H p (.dK []))
section
def DL:PE X (.Dict [] [] pos) d9:=λp s b H Q I h=>
 wpAny_Dict_empty ⟨.ref s.heap.objs.size,_,I.laid (a:=s.heap.objs.size) (o:=.dK []) (t':=s.toks) (λ_ _ q=>af _ q) (ar _) (Ru s.heap I.big),rfl,h _ (I.hok.fresh (ar _))⟩
end
def XF:List (TE×TE)->St->Hp->(List (V×V)->Hp->Prop)->Prop
 |[],_,H,Q=>Q [] H|(tk,t)::r,σ,H,Q=>tk σ H λx b=>t σ b λy a=>XF r σ a λp h=>Q ((x,y)::p) h
abbrev VV:List (V×V)->List (Value×Value)->Prop:=Paired λp q=>RelV p.1 q.1/\RelV p.2 q.2
def WE (X:Cx)(p:Pos)(K:List (Option Expr))(v:bY)(t:List (TE×TE)):Prop:=
 ∀(l0:bU)(s:Shared)(σ:St)(H:Hp)(Q:List (V×V)->Hp->Prop),Inv X l0 σ H s->XF t σ H Q->
  wpAny (model X.prog X.w) X.A (evalPairs (pairTrees K v X.env p)) (λa S=>∃P h,Inv X l0 σ h S/\VV P a/\Q P h) X.xe s
def Bm:WE X pos [] [] []:=λp s a H Q I h=>pairTrees_nil_walk ⟨[],H,I,.nil,h⟩
def EY {k v:Expr}{K:List (Option Expr)}{A:bY}{B T:TE}{t:List (TE×TE)}(f:PE X k B)(d:PE X v T)(e:WE X pos K A t):
  WE X pos (some k::K) (v::A) ((B,T)::t):=λp s o H Q I h=>
 pairTrees_cons_walk (zQ (f p s o H _ I h) λu C ⟨x,D,j,a,c⟩=>zQ (d p C o D _ j c) λw S ⟨y,n,g,r,b⟩=>
  zQ (e p S o n _ g b) λE J ⟨P,l,i,z,q⟩=>⟨(x,y)::P,l,i,.cons ⟨a,r⟩ z,q⟩)
def J3 (K more:List (Key×V)):List (Key×V):=more.foldl (λa v=>putK a v.1 v.2) K
def KV.merge:∀{more:List (Key×V)}{s:List (Key×Value)}{K:List (Key×V)}{v:List (Key×Value)},KV more s->KV K v->KV (J3 K more) (merged v s):=by
 intro more s K v r;unfold KV at r
 induction r generalizing K v with
 |nil=>intro q;exact q|@cons p q ps Q h t i=>
  intro a;have e:KV (putK K p.1 p.2) (stored v q.1 q.2):=by
   have:=a.put p.1 h.2
   rw[<- h.1];exact this
  exact i e
theorem UG:∀(more K:List (Key×V)),(J3 K more).length<=K.length+more.length
 |[],K=>by show K.length<=K.length+0;omega|p::r,K=>by
  have H:=UG r (putK K p.1 p.2);have h:=Gx K p.1 p.2;show(J3 (putK K p.1 p.2) r).length<=_;rw[aL];omega
theorem TY:∀{K:List (Key×V)}{e:List (Value×Value)},VV (K.map λv=>(kV v.1,v.2)) e->∃s,Carries (yX P w) e s/\KV K s
 |[],_,r=>by rw[map_nil]at r;cases r;exact⟨[],True.intro,.nil⟩|p::K,_,r=>by
  rw[aK]at r;cases r with
  |@cons a b as bs h t=>
   obtain⟨s,c,q⟩:∃s,Carries (yX P w) _ s/\KV _ s:=TY t;obtain⟨d,B⟩:=b;exact⟨(p.1,B)::s,⟨Wg h.1,rfl,c⟩,.cons ⟨rfl,h.2⟩ q⟩
def eb (t:List (TE×TE)):TE:=λa H Q=>∀p,H p=none->XF t a (upd H p (.dK [])) λP h=>h p=some (.dK [])/\∃K:List (Key×V),P=K.map (λv=>(kV v.1,v.2))/\K.length<=15/\Q (.ref p) (upd h p (.dK (J3 [] K)))
def Ah {A:List (Option Expr)}{B:bY}{t:List (TE×TE)}(h:WE X pos A B t)(l:A.all (·.isSome)=true)(u:A.length=B.length)(U:A≠[])
  (b:A.length<=15):PE X (.Dict A B pos) (eb t):=by
 intro C s J H Q I q;have M:=I.hok.fresh (ar s.heap.objs.size);have x:=I.laid (a:=s.heap.objs.size) (o:=.dK []) (h':=s.heap.push { cls:=.type "dict",data:=.dict #[] }) (t':=s.toks) (λ_ _ q=>af _ q) (ar _) (Ru s.heap I.big);refine wpAny_Dict_walk (knd:=yX X.prog X.w) l u U b (zQ (h C _ J _ _ x (q _ M)) λws s2 ⟨ps,y,i,D,e,K,E,lk,g⟩=>?_);subst E;obtain⟨L,c,r⟩:=TY (P:=X.prog) (w:=X.w) D;obtain⟨z,S,v,f,Z⟩:=Vq i.hok e;cases f;refine⟨L,c,Z,λY d n=>⟨.ref s.heap.objs.size,_,?_,rfl,g⟩⟩;have j:(J3 [] K).length<=sizeLine:=by
  have T:=UG K [];rw[bg]at T;rw[sizeLine_eq];omega
 have N:∃q,Y.get? s.heap.objs.size=some q:=let ⟨q,_,_,p,_⟩:=d;⟨q,p⟩
 exact Xa i (by rw[e];exact True.intro) n N (P0 j S (r.merge .nil) d)
noncomputable def yT (e:Env):List (Str×NameKind)->List (Str×Addr)->List (Str×Addr)
 |[],acc=>acc|(n,k)::r,acc=>yT e r (if k==.free then(n,(e.cells.lookup n).getD 0)::acc else acc)
def Cq (f:Str×NameKind->List (Str×Addr)->Sem (ForInStep (cb)))
  (l:∀n k r,f (n,k) r=if (k==NameKind.free)=true then(do let c <- cellOf env n;pure (ForInStep.yield ((n,c)::r))) else pure (ForInStep.yield r)):
  ∀(N:List (Str×NameKind))(A:cb),(∀y∈N,y.2=.free->∃c,env.cells.lookup y.1=some c)->(forIn N A f:Sem (cb))=pure (yT env N A):=by
 intro N
 induction N with
 |nil=>intro A _;rfl|cons y r i=>
  intro A b;obtain⟨n,k⟩:=y;rw[forIn_cons,l];unfold yT;have h:=i (if k==.free then(n,(env.cells.lookup n).getD 0)::A else A) (λy g=>b y (ak _ g))
  by_cases a:k=.free
  ·subst a
   obtain⟨c,d⟩:=b (n,.free) aq rfl;have e:cellOf env n=pure c:=by unfold cellOf;rw[d]
   have H:List.lookup n env.cells=some c:=d;simp only[e,H,getD_some,bt,if_true]at h ⊢;exact h
  ·have j:(k==NameKind.free)=false:=by simpa using a
   simp only[j,a8,if_false]at h ⊢;exact h
def T5 (h:∀y∈scope.names,y.2=.free->∃c,env.cells.lookup y.1=some c):closureFor scope env=pure (yT env scope.names []):=by
 unfold closureFor;dsimp only;rw[Cq _ (λn k r=>rfl) scope.names [] h]
 rfl
theorem Ql {n:Str}:∀(N:List (Str×NameKind))(A:cb),(n,c)∈yT env N A->(n,c)∈A∨((n,NameKind.free)∈N/\c=(env.cells.lookup n).getD 0)
 |[],A,h=>.inl h|(x,k)::r,A,h=>by
  unfold yT at h;rcases Ql r _ h with h|⟨h1,a⟩
  ·by_cases H:k=.free
   ·subst H
    simp only[bt,if_true]at h;rcases cn.mp h with e|h
    ·cases e;exact .inr ⟨aq,rfl⟩
    ·exact .inl h
   ·have b:(k==NameKind.free)=false:=by simpa using H
    simp only[b,a8,if_false]at h;exact .inl h
  ·exact .inr ⟨ak _ h1,a⟩
theorem Y7 {n:Str}:∀(N:List (Str×NameKind))(A:cb),((n,NameKind.free)∈N∨(A.lookup n).isSome=true)->((yT env N A).lookup n).isSome=true
 |[],A,h=>by
  rcases h with h|h
  ·cases h
  ·exact h
 |(x,k)::r,A,h=>by
  unfold yT;refine Y7 r _ ?_;rcases h with h|h
  ·rcases cn.mp h with e|h
   ·cases e
    right
    simp
   ·exact .inl h
  ·right
   by_cases H:(k==NameKind.free)=true
   ·rw[ah H,bE]
    cases a:n==x
    ·exact h
    ·rfl
   ·rw[ai H];exact h
theorem Ge {n:Str}:∀(N:List (Str×NameKind))(k:Nat)(A:cb),(n,c)∈cellsFrom k N A->(n,c)∈A∨(k<=c/\(n,NameKind.cell)∈N)
 |[],_,_,h=>.inl h|(x,q)::r,k,A,h=>by
  unfold cellsFrom at h
  by_cases a:(q==NameKind.cell)=true
  ·rw[ah a]at h
   have H:q=.cell:=by simpa using a
   rcases Ge r _ _ h with h|⟨h1,b⟩
   ·rcases cn.mp h with e|h
    ·cases e;subst H;exact .inr ⟨ar _,aq⟩
    ·exact .inl h
   ·exact .inr ⟨by omega,ak _ b⟩
  ·rw[ai a]at h
   rcases Ge r _ _ h with h|⟨h1,b⟩
   ·exact .inl h
   ·exact .inr ⟨h1,ak _ b⟩
theorem Gg:∀(s:List (Str×NameKind))(k:Nat)(A:cb),(∀n c,(n,c)∈A->c<k)->(∀n N c,(n,c)∈A->(N,c)∈A->n=N)->∀n N c,(n,c)∈cellsFrom k s A->(N,c)∈cellsFrom k s A->n=N
 |[],_,_,_,hi,n,N,c,h,h'=>hi n N c h h'|(x,q)::r,k,A,l,hi,n,N,c,h,h'=>by
  unfold cellsFrom at h h'
  by_cases a:(q==NameKind.cell)=true
  ·rw[ah a]at h h'
   refine Gg r (k+1) ((x,k)::A) (λm d b=>?_) (λm M d b H=>?_) n N c h h'
   ·rcases cn.mp b with e|b
    ·cases e;exact bo _
    ·exact aZ (l m d b)
   ·rcases cn.mp b with e|b
    ·rcases cn.mp H with E|H
     ·cases e;cases E;rfl
     ·cases e;exact absurd (l M _ H) (aV _)
    ·rcases cn.mp H with E|H
     ·cases E;exact absurd (l m _ b) (aV _)
     ·exact hi m M d b H
  ·rw[ai a]at h h'
   exact Gg r k A l hi n N c h h'
theorem Gb {n:Str}:∀(N:List (Str×NameKind))(h:Heap)(a:cb),(n,c)∈cellsFrom h.objs.size N a->(n,c)∈a∨(pushCells h N).IsCell c none
 |[],_,_,q=>.inl q|(x,k)::r,h,a,q=>by
  unfold cellsFrom at q;unfold pushCells
  by_cases H:(k==NameKind.cell)=true
  ·rw[ah H]at q ⊢
   have:=Gb r (h.push { cls:=.type "cell",data:=.cell none }) ((x,h.objs.size)::a) (by rw[bc];exact q)
   rcases this with z|z
   ·rcases cn.mp z with e|z
    ·cases e
     exact .inr ⟨_,pushCells_keeps r _ _ _ (aw _ rfl),rfl⟩
    ·exact .inl z
   ·exact .inr z
  ·rw[ai H]at q ⊢
   exact Gb r h a q
def Mx {A:Around}{globals:Addr}{cl:cb}{Q:Env->Shared->Prop}
  (h:Q { scope,locals:=s.heap.objs.size,globals,cells:=cellsFrom (s.heap.objs.size+1) scope.names cl,qual,func:=none,code:=env.code,frame:=env.frame,builtins:=env.builtins }
   { s with heap:=pushCells (s.heap.push { cls:=.type "dict",data:=.dict #[] }) scope.names }):
  wpAny M A (newFunctionEnv scope globals cl [] qual none .none (some env)) Q E s:=by
 simp only[newFunctionEnv,isSome_some,if_true];refine ck (wpAny_alloc ?_);refine ck (wpAny_layCells _ (λn K c=>by cases H:K==NameKind.cell<;>simp[H]) _ _ _ _ ?_)
 rw[show({ s with heap:=s.heap.push { cls:=.type "dict",data:=.dict #[] } }:Shared).heap.objs.size=s.heap.objs.size+1 from bc ..]
 rw[forIn_nil];exact ck (cm (cm h))
def jx (X:Cx)(N:bW)(scope:Scope)(s:Shared)(H:Hp)(f:bT)(e:bX):Cx where
 prog:=X.prog
 w:=X.w
 K:=X.K
 mg:=X.mg
 base:=X.base
 A:=X.A
 N:=N
 s0:=s
 H0:=H
 env:={ scope:=relabel scope X.env,locals:=s.heap.objs.size,globals:=X.env.globals,cells:=cellsFrom (s.heap.objs.size+1) scope.names (yT X.env scope.names []),qual:=X.env.qual,func:=none,code:=X.env.code,frame:=X.env.frame,builtins:=X.env.builtins }
 outer:=X.stack
 stack:=X.stack
 ex:=f
 fn:=λx=>scope.names.lookup x==some .local || scope.names.lookup x==some .cell
 calm:=X.calm
 pn:=[]
 xe:=e
structure wY (X:Cx)(scope:Scope):Prop where
 kind:scope.kind=.function
 nd:(scope.names.map (·.1)).Nodup
 free:∀y∈scope.names,y.2=.free->X.env.kindOf y.1=some .cell∨X.env.kindOf y.1=some .free
theorem Q4 {k:α}:∀{l:List (Str×α)},(l.map (·.1)).Nodup->(x,k)∈l->l.lookup x=some k
 |(y,q)::r,nd,h=>by
  rw[aK,nodup_cons]at nd;rw[bE];rcases cn.mp h with e|h
  ·cases e;simp
  ·have n:(x==y)=false:=by
    rw[beq_eq_false_iff_ne];intro e
    apply nd.1
    rw[<- e];exact List.mem_map_of_mem (f:=(·.1)) h
   rw[n];exact Q4 nd.2 h
def W8 {k:NameKind}(h:(relabel scope env).names.lookup x=some k):scope.names.lookup x=some k∨(k=.cell/\scope.names.lookup x=some .free/\env.kindOf x=some .cell):=by
 unfold relabel at h;dsimp only at h;generalize scope.names=names at h ⊢
 induction names with
 |nil=>cases h|cons y r i=>
  obtain⟨n,q⟩:=y;rw[aK]at h;have split:(if (q==NameKind.free&&env.scope.kind==.function&&env.kindOf n==some .cell)=true then(n,NameKind.cell) else(n,q)).1=n:=by split<;>rfl
  rw[bE]at h ⊢;dsimp only at h;rw[split]at h;cases a:x==n with
  |false=>rw[a]at h;exact i h|true=>
   rw[a]at h;have e:x=n:=aM.mp a;subst e
   by_cases H:(q==NameKind.free&&env.scope.kind==.function&&env.kindOf x==some .cell)=true
   ·rw[ah H]at h
    simp only[av,aM]at H;cases h
    right
    exact⟨rfl,by rw[H.1.1],H.2⟩
   ·rw[ai H]at h
    left
    exact h
section
def Inv.capt (I:Inv X l0 σ H s)(S:wY X scope)(h:(x,NameKind.free)∈scope.names):∃c,X.env.cells.lookup x=some c:=I.ok.has x (S.free _ h rfl)
def JU (I:Inv X l0 σ H s)(S:wY X scope)(h:(x,c)∈cellsFrom (s.heap.objs.size+1) scope.names (yT X.env scope.names [])):
  ((x,NameKind.free)∈scope.names/\X.env.cells.lookup x=some c/\c<s.heap.objs.size)∨((x,NameKind.cell)∈scope.names/\s.heap.objs.size<c/\∀g:Heap,g.objs.size=s.heap.objs.size+1->(pushCells g scope.names).IsCell c none):=by
 rcases Ge _ _ _ h with f|⟨f,b⟩
 ·left
  rcases Ql _ _ f with z|⟨z,e⟩
  ·cases z
  ·obtain⟨C,a⟩:=I.capt S z
   rw[a]at e;have E:c=C:=e;subst E;obtain⟨v,q⟩:=I.cell x c a;exact⟨z,a,q.lt⟩
 ·right
  refine⟨b,f,λg d=>?_⟩;have i:=h;rw[<- d]at i;rcases Gb _ g _ i with z|z
  ·exfalso
   rcases Ql _ _ z with z|⟨z,e⟩
   ·cases z
   ·obtain⟨C,a⟩:=I.capt S z
    rw[a]at e;have E:c=C:=e;subst E;obtain⟨v,q⟩:=I.cell x c a;exact aV _ (aF (aZ q.lt) f)
  ·exact z
def DU {xe:bX}{f:St}(I:Inv X l0 σ H s)(S:wY X scope)(hf:∀b∈fp,kz X l0 H b)(A:∀b∈fp,b<s.heap.objs.size)(hl:f.length=N.length)
  (hs:∀(j:Nat)(x:Str)(v:V),N[j]? =some x->f[j]? =some (some v)->(x,NameKind.free)∈scope.names/\∃i:Nat,X.N[i]? =some x/\σ[i]? =some (some v)):
  Inv (jx X N scope s H fp xe) [] f H { s with heap:=pushCells (s.heap.push { cls:=.type "dict",data:=.dict #[] }) scope.names }:=by
 have M:∀b o,s.heap.get? b=some o->(pushCells (s.heap.push { cls:=.type "dict",data:=.dict #[] }) scope.names).get? b=some o:=λb o e=>pushCells_keeps _ _ _ _ (af _ e);have hsz:(s.heap.push { cls:=.type "dict",data:=.dict #[] }).objs.size=s.heap.objs.size+1:=bc ..;have l:∀{x:Str}{c:Addr},(jx X N scope s H fp xe).env.cells.lookup x=some c->(x,c)∈cellsFrom (s.heap.objs.size+1) scope.names (yT X.env scope.names []):=λh=>PySem.mem_of_lookup h;have L:∀{x:Str},((jx X N scope s H fp xe).env.kindOf x=some .cell∨(jx X N scope s H fp xe).env.kindOf x=some .free)->∃c,(jx X N scope s H fp xe).env.cells.lookup x=some c:=λ {x} h=>by
  refine Option.isSome_iff_exists.mp (cellsFrom_some _ _ _ ?_);have two:scope.names.lookup x=some .cell∨scope.names.lookup x=some .free:=by
   rcases h with h|h
   ·rcases W8 h with z|⟨_,z,_⟩
    ·exact .inl z
    ·exact .inr z
   ·rcases W8 h with z|⟨z,_⟩
    ·exact .inr z
    ·cases z
  rcases two with z|z
  ·exact .inl z
  ·exact .inr (Y7 _ _ (.inl (PySem.mem_of_lookup z)))
 have exP:∀b∈fp,∀x c,(jx X N scope s H fp xe).env.cells.lookup x=some c->c≠b:=λb a x c e=>by
  rcases JU I S (l e) with ⟨_,q,_⟩|⟨_,q,_⟩
  ·exact(hf b a).2.2.2.2.1 x c q
  ·intro z;subst z;exact aV _ (lt_trans q (A _ a))
 refine⟨⟨I.ok.mod,S.kind,I.ok.glob,I.ok.blt,ar _,λx y c h1 J=>?_,λx h=>L h,λx c g h=>?_,I.ok.hd,I.ok.frames,.inl rfl,λb a=>⟨?_,exP b a⟩,I.bs,a3 I.ok.bsz I.sz,λb o e a=>?_,λb a z=>?_,I.stack,I.stkFree⟩,
  rfl,I.bare,Un.kept M,⟨λ_=>none,?_,λj x v h1 J Y=>?_⟩,λx c e=>?_,I.fresh,λx c e=>?_,λp hp=>?_,I.hok.kept M,hl⟩
 ·refine Gg _ _ _ (λn c h=>?_) (λn n' c h h'=>?_) x y c (l h1) (l J)
  ·rcases Ql _ _ h with z|⟨z,e⟩
   ·cases z
   ·obtain⟨c',D⟩:=I.capt S z
    rw[D]at e;have P:c=c':=e;subst P;obtain⟨v,q⟩:=I.cell n c D;exact aZ q.lt
  ·rcases Ql _ _ h with z|⟨z,e⟩
   ·cases z
   ·rcases Ql _ _ h' with Z|⟨Z,P⟩
    ·cases Z
    ·obtain⟨d,hd⟩:=I.capt S z
     obtain⟨d',B⟩:=I.capt S Z;rw[hd]at e;rw[B]at P;have K:c=d:=e;have e2:c=d':=P;subst K;subst e2;exact I.ok.inj _ _ _ hd B
 ·rcases JU I S (l h) with ⟨z,_,_⟩|⟨_,z,_⟩
  ·exfalso
   have K:=Q4 S.nd z;have t:(scope.names.lookup x==some .local || scope.names.lookup x==some .cell)=true:=g;rw[K]at t;cases t
  ·exact bB z
 ·exact aJ (A b a)
 ·obtain⟨_,_,_,E,_⟩:=hf b a
  rcases E with E|E
  ·exact I.ok.noex b o e E
  ·exact absurd (aF (aG e) (a3 I.ok.bsz E)) (aV _)
 ·obtain⟨_,J,Y,_⟩:=hf b a
  rcases cn.mp (I.stkSub b z) with e|e
  ·exact J e
  ·exact Y e
 ·exact(Heap.Ns.new s.heap (.type "dict")).keeps (pushCells_keeps _ _)
 ·obtain⟨g,i,K,e2⟩:=hs j x v h1 J
  obtain⟨m,hn,U⟩:=I.loc;have Q:WO X.env.scope x:=.inr (S.free _ g rfl);obtain⟨u,r,lk⟩:=U i x v K e2 Q;refine⟨u,r,.inr ?_⟩;have w:(jx X N scope s H fp xe).env.kindOf x=some .cell∨(jx X N scope s H fp xe).env.kindOf x=some .free:=by
   rcases Y with z|z|z
   ·exfalso
    rcases W8 z with Z|⟨Z,_⟩
    ·rw[Q4 S.nd g]at Z;cases Z
    ·cases Z
   ·exact .inl z
   ·exact .inr z
  refine⟨w,?_⟩;obtain⟨c,D⟩:=L w;refine⟨c,D,?_⟩;rcases JU I S (l D) with ⟨_,q,_⟩|⟨q,_,_⟩
  ·rcases lk with ⟨z,_⟩|⟨_,c',C,cell⟩
   ·exfalso
    rcases S.free _ g rfl with k|k<;>(rw[k]at z;cases z)
   ·rw[q]at C;cases C
    exact cell.keeps M
  ·exfalso
   have a1:=Q4 S.nd g;have a2:=Q4 S.nd q;rw[a1]at a2;cases a2
 ·rcases JU I S (l e) with ⟨_,q,_⟩|⟨_,_,q⟩
  ·obtain⟨v,z⟩:=I.cell x c q
   exact⟨v,z.keeps M⟩
  ·exact⟨_,q _ hsz⟩
 ·rcases JU I S (l e) with ⟨_,q,_⟩|⟨_,q,_⟩
  ·exact I.freeC x c q
  ·exact I.hok.fresh (bB q)
 ·have T:p∈([]:bU):=hp
  cases T
end
abbrev wc:=Addr->St->Hp->(St->Hp->Prop)->Prop
noncomputable def Yq (E:Expr)(g:List Comprehension)(s:Scope)(p:Pos)(d:Nat)(a:Value)(e:Env)(k:Sem Fin):Sem Fin:=
 match g[d+1]? with
 |some b=>do
  let x <- eval b.iter e
  standAt b.iter.pos
  let x <- foldedSetIterable b.iter e x
  let _ <- runOwn (.compStart (.ListComp E g s p) (d+1) (<- holding [x] (pyIter x)) a e) e
  k
 |none=>do
  (do let _ <- call (.builtin "list.append") [a,<- eval E e])
  k
theorem Bw {E I:Expr}{d:Nat}{t A:Value}(h:gens[d]? =some ⟨tg,I,ifs,0⟩)(H:∀g',gens[d+1]? =some g'->g'.is_async=0):
  compTurn (.ListComp E gens sc pos) d t A env=(do
   standAt I.pos
   match <- pyNext t with
   |none=>pure (.done .next)|some v=>
    letOwnedTupleGo tg t v
    assign tg env v
    let mut ok:=true
    for c in ifs do
     if ok then ok <- isTrue c env (eval c env)
    if ok then Yq E gens sc pos d A env (again (.compLoop (.ListComp E gens sc pos) d t A env))
    else again (.compLoop (.ListComp E gens sc pos) d t A env)):=by
 unfold compTurn Yq;dsimp only;rw[h];cases hn:gens[d+1]? with
 |none=>rfl|some g'=>
  obtain⟨T,i,f,a⟩:=g';have e:a=0:=H _ hn;subst e
  rfl
def Zv (X:Cx)(i:bY)(t:TT):Prop:=
 ∀(l0:bU)(s:Shared)(σ:St)(H:Hp)(Q:Bool->Hp->Prop),Inv X l0 σ H s->t σ H Q->
  wpAny (model X.prog X.w) X.A (forIn i true λc r=>if r=true then do let ok <- isTrue c X.env (eval c X.env);pure (ForInStep.yield ok) else pure (ForInStep.yield r)) (TP X l0 σ Q) X.xe s
def ed:TT:=λ_ H Q=>Q true H
def DX:Zv X [] ed:=λp s a H Q I h=>wpAny_tests_nil ⟨H,I,h⟩
def CL {c:Expr}{t:TT}(h:PT X c t):Zv X [c] t:=λp s a H Q I w=>wpAny_tests_one (h p s a H Q I w)
def kQ (X:Cx)(e:Expr)(g:List Comprehension)(c:Scope)(p:Pos)(d:Nat)(t:wc):Prop:=
 ∀(l0:bU)(s:Shared)(σ:St)(H:Hp)(D:Addr)(Q:St->Hp->Prop)(k:Sem Fin)(Q':Fin->Shared->Prop)(E:bX),Inv X l0 σ H s->t D σ H Q->
  (∀S a h,Inv X l0 a h S->Q a h->wpAny (model X.prog X.w) X.A k Q' E S)->wpAny (model X.prog X.w) X.A (Yq e g c p d (.ref D) X.env k) Q' E s
def ee (t:TE):wc:=λD a H Q=>t a H λy h=>∃Y,h D=some (.lst Y)/\Y.length<sizeLine/\Q a (upd h D (.lst (Y++[y])))
def Yl (J:It)(g:TG)(T:TT)(t:wc):wc:=λD e H Q=>∃W:Nat->Nat->St->Hp->Prop,(∃m,W 0 m e H)/\∀i m e H,W i m e H->
 (J.stop i H/\Q e H)∨(J.go i H/\∃N:St->Hp->Prop,(∀c h,N c h->∃M,M<m/\W (i+1) M c h)/\∀x h,J.yld i H x h->g x e h λa f=>T a f λb d=>if b=true then t D a d N else N a d)
def eg (w:TI)(g:TG)(T:TT)(t:wc):wc:=λD a H Q=>w a H λJ h=>Yl J g T t D a h Q
section
variable {lL l4:Expr}{d:Nat}
def Jl (h:∀e s,X.xe e s->False){t:Sem α}{Q:α->Shared->Prop}(H:wpAny (model X.prog X.w) X.A t Q X.xe s'):wpAny (model X.prog X.w) X.A t Q E s':=
 wpAny_mono H (λ_ _ z=>z) λe s' z=>(h e s' z).elim
def Cc {t:TE}(x:∀e s,X.xe e s->False)(v:PE X lL t)(g:gens[d+1]? =none):kQ X lL gens sc pos d (ee t):=by
 intro p s n H D Q k A E I h b;unfold Yq;rw[g];refine ck (ck (Jl x (zQ (v p s n H _ I h) λu o ⟨y,w,f,r,Y,c,z,a⟩=>?_)));refine ck (Jl x (zQ (Ss p o n w (.ref D) [y] (.ref D) [u] (λ_ l=>Q n l) f rfl (.cons r .nil) ⟨D,Y,y,rfl,rfl,c,z,a⟩) λ_ S ⟨_,j,i,_,q⟩=>?_));exact cm (b S n j i q)
def eh {g:TG}{ti:TT}{tm:wc}(Y:∀e s,X.xe e s->False)(Z:X.calm=true)(hg:gens[d]? =some ⟨tg,l4,ifs,0⟩)(ha:∀g',gens[d+1]? =some g'->g'.is_async=0)(M:PG X tg g)(hi:Zv X ifs ti)(hm:kQ X lL gens sc pos d tm)
  {Q:St->Hp->Prop}{J:It}{B:Nat->Heap->Prop}(T:Turn X.prog X.w X.K tg J fp it B)(I:Inv X l0 σ H s)(st:B 0 s.heap)(hf:∀b∈fp,kz X l0 H b)
  (h:Yl J g ti tm D σ H Q){R:Result->Shared->Prop}(hR:∀s' a c,Inv X l0 a c s'->Q a c->R (.ok .next) s'):
  codeAny (model X.prog X.w) X.A (.compLoop (.ListComp lL gens sc pos) d (.ref it) (.ref D) X.env) R s:=by
 obtain⟨W,⟨m0,w0⟩,turn⟩:=h;have S:∀{c:Hp},(∀b∈fp,c b=none)->∀b∈fp,kz X l0 c b:=λhn b l=>⟨hn b l,(hf b l).2⟩;refine codeAny_loop rfl (λn s'=>∃i a c,Inv X l0 a c s'/\B i s'.heap/\(∀b∈fp,c b=none)/\W i n a c) (λn s3 hI=>?_) m0 ⟨0,σ,H,I,st,λb l=>(hf b l).1,w0⟩;show wpAny _ X.A ((compTurn (.ListComp lL gens sc pos) d (.ref it) (.ref D) X.env).onRaise (λx=>do noteFrame x X.env;theTreesLotGoes x)) _ _ s3
 refine wpAny_noted ?_;rw[Bw hg ha];refine ck (wpAny_standAt ?_);obtain⟨i,j,C,I3,gn,z,w3⟩:=hI;rcases turn i n j C w3 with ⟨stop,qn⟩|⟨go,N,hN,step⟩
 ·refine ck (zQ (T.done X rfl rfl rfl Z i l0 s3 j C _ I3 (S z) gn stop) λr s4 ⟨L,I4⟩=>?_)
  subst L;exact cm (hR s4 j C I4 qn)
 ·refine ck (zQ (T.item X rfl rfl rfl Z i l0 s3 j C _ I3 (S z) gn go) λr s4 ⟨u,L,h4⟩=>?_)
  subst L;refine ck (zQ h4 λ_ s5 ⟨x,H5,I5,r5,y5,p,P⟩=>?_);have U:=I5.pinned (S P) (T.obj _ _ p);have back:∀{f:St}{q:Hp}{t:Shared},Inv X (l0++J9 fp s5.heap) f q t->N f q->∃m,m<n/\∃i a c,Inv X l0 a c t/\B i t.heap/\(∀b∈fp,c b=none)/\W i m a c:=λ {f q t} v n7=>by
   obtain⟨m',hm,w7⟩:=hN f q n7;refine⟨m',hm,i+1,f,q,v.unpinned,T.keep _ _ _ p λb l o e=>(v.pin (b,o) (aY _ (aY _ (Kb l e)))).1,λb l=>?_,w7⟩;obtain⟨o,e,d⟩:=T.obj _ _ p b l;exact(v.pin (b,o) (aY _ (aY _ (Kb l e)))).2.1
  refine ck (Jl Y (zQ (M _ s5 j H5 x u _ U r5 (step x H5 y5)) λ_ s6 ⟨y,H6,I6,q6⟩=>?_));refine ck (Jl Y (zQ (hi _ s6 y H6 _ I6 q6) λok t ⟨q,v,E⟩=>?_));cases ok with
  |false=>exact cm ⟨rfl,back v E⟩|true=>
   rw[ah rfl]at E;exact hm _ t y q D _ _ _ _ v E λs8 σ8 H8 I8 q8=>cm ⟨rfl,back I8 q8⟩
def OU {g:TG}{r:TT}{q:wc}(i:∀e s,X.xe e s->False)(j:X.calm=true)(c:gens[d]? =some ⟨tg,l4,ifs,0⟩)(o:∀g',gens[d+1]? =some g'->g'.is_async=0)(t:PG X tg g)(v:Zv X ifs r)(u:kQ X lL gens sc pos d q)
  {Q:St->Hp->Prop}{J:It}{n:Nat->Heap->Prop}(T:Turn X.prog X.w X.K tg J fp it n)(I:Inv X l0 σ H s)(S:n 0 s.heap)(y:∀b∈fp,kz X l0 H b)
  (h:Yl J g r q D σ H Q){R:Result->Shared->Prop}(p:∀s' a f,Inv X l0 a f s'->Q a f->R (.ok .next) s'):
  codeAny (model X.prog X.w) X.A (.compStart (.ListComp lL gens sc pos) d (.ref it) (.ref D) X.env) R s:=by
 have L:=eh i j c o t v u T I S y h p;refine codeAny_of_tree ?_;show wpAny _ _ ((compStart (.ListComp lL gens sc pos) d (.ref it) (.ref D) X.env).onRaise (λx=>do noteFrame x X.env;standAt theWindowsPlace)) _ _ s
 refine wpAny_notedAt ?_;unfold compStart;have l:(clausesOf (.ListComp lL gens sc pos))[d]? =some ⟨tg,l4,ifs,0⟩:=c;rw[l];show wpAny _ _ (ask >>= _) _ _ s;refine ck (wpAny_askSetting (wpAny_ite ?_))
 split
 ·first
   |exact ck (cm (cm (And.intro rfl L)))
   |exact cm (And.intro rfl L)
 ·first
   |exact ck (wpAny_rule (ck (wpAny_standAt (ck (T.self _ 0 s _ _ S (cm (And.intro rfl L)))))))
   |(refine ck (wpAny_rule ?_);show wpAny _ _ (standAt l4.pos >>= _) _ _ s;exact ck (wpAny_standAt (ck (T.self _ 0 s _ _ S (cm (And.intro rfl L))))))
def Cp {w:TI}{g:TG}{C:TT}{B:wc}(b:∀e s,X.xe e s->False)(n:X.calm=true)(c:gens[d+1]? =some ⟨tg,l4,ifs,0⟩)(o:∀g',gens[d+2]? =some g'->g'.is_async=0)(L:PI X tg l4 w)(t:PG X tg g)(N:Zv X ifs C)(M:kQ X lL gens sc pos (d+1) B)
  (j:∀x,foldedSetIterable l4 X.env x=pure x:=by intro _;rfl):kQ X lL gens sc pos d (eg w g C B):=by
 intro P s K H D Q k Q' E I h l;unfold Yq;rw[c];refine ck (Jl b (zQ (L P s K H _ I h) λv s1 U=>?_));refine ck (wpAny_standAt (ck (wpAny_of_eq (j v) ?_)));refine ck (wpAny_holding (Jl b (zQ U λi Z p=>?_)));obtain⟨it,fp,z,J,A,e,r,T,wN,Y,q⟩:=p;subst e;refine ck (wpAny_runOwn (OU b n c o t N M T r wN Y q λS a y u f=>?_));exact l S a y u f
end
noncomputable def gT (n:Nat)(c:bV)(a:St):St:=List.replicate n none++c.map λi=>(a[i]?).join
noncomputable def Zs (M N:bW)(scope:Scope)(n:Nat)(c:bV):Bool:=
 N.length==n+c.length&&(List.range c.length).all λk=>match N[n+k]?,M[c.getD k 0]? with
  |some x,some y=>x==y&&scope.names.any λz=>z.1==x&&z.2==NameKind.free|_,_=>false
def Cd {M:bW}{u:Nat}(h:Zs M N scope u cap=true):(gT u cap σ).length=N.length/\
  ∀(j:Nat)(x:Str)(v:V),N[j]? =some x->(gT u cap σ)[j]? =some (some v)->(x,NameKind.free)∈scope.names/\∃i:Nat,M[i]? =some x/\σ[i]? =some (some v):=by
 unfold Zs at h;rw[av,aM]at h;obtain⟨A,n⟩:=h;refine⟨by unfold gT;simp[A],λj x v r E=>?_⟩
 unfold gT at E
 by_cases b:j<u
 ·rw[au (by simpa using b),a7]at E
  split at E<;>cases E
 ·rw[ay (by simpa using b),aT,ax]at E
  cases c:cap[j-u]? with
  |none=>rw[c]at E;cases E|some i=>
   rw[c]at E;have e:(σ[i]?).join=some v:=aB E;have f:j-u<cap.length:=(cu.mp c).1;have H:=cy.mp n (j-u) (cw.mpr f);have p:u+(j-u)=j:=by omega
   rw[p,r]at H;have q:cap.getD (j-u) 0=i:=by rw[ae,c];rfl
   rw[q]at H;cases hm:M[i]? with
   |none=>rw[hm]at H;cases H|some y=>
    rw[hm]at H;rw[av,aM]at H;obtain⟨l,g⟩:=H;subst l;obtain⟨z,d,a⟩:=List.any_eq_true.mp g;rw[av,aM,aM]at a;refine⟨?_,i,hm,?_⟩
    ·obtain⟨t,Z⟩:=z
     obtain⟨C,B⟩:=a;cases C;cases B;exact d
    ·cases s:σ[i]? with
     |none=>rw[s]at e;cases e|some o=>rw[s]at e;cases o with
      |none=>cases e|some w=>cases e;rfl
noncomputable abbrev j7:Value->Shared->Prop:=λ_ _=>False
def Wi (K:Frag)(w:TI)(g:TG)(T:TT)(t:wc)(n:Nat)(c:bV):TE:=λb H Q=>w b H λJ h=>∀D,h D=none->K.lookup D=none->Yl J g T t D (gT n c b) (upd h D (.lst [])) λ_ a=>Q (.ref D) a
section
variable {lL l4:Expr}{gs:List Comprehension}{wi:TI}{g:TG}{ti:TT}{tm:wc}{nl:Nat}
def RT (hc:X.calm=true)(S:wY X sc)(t:Zs X.N N sc nl cap=true)(ha:∀g',gs[0]? =some g'->g'.is_async=0)(hw:PI X tg l4 wi)
  
  (hin:∀s H fp,Inv X l0 σ H s->(∀b∈fp,kz X l0 H b)->PG (jx X N sc s H fp j7) tg g/\Zv (jx X N sc s H fp j7) ifs ti/\kQ (jx X N sc s H fp j7) lL (⟨tg,l4,ifs,0⟩::gs) sc pos 0 tm)
  {Q:VK}(I:Inv X l0 σ H s)(h:Wi X.K wi g ti tm nl cap σ H Q)
  {use:Option (Value->Sem Unit)}{Q':bX}
  (r:∀(D C:Addr)(s':Shared)(n:Hp)(m:b8),Inv X l0 σ n s'->Q (.ref D) n->s'.heap.Ns C m->n C=none->C≠X.env.locals->X.s0.heap.objs.size<=C->(∀x c,X.env.cells.lookup x=some c->c≠C)->(∀q∈X.pn++l0,q.1≠C)->
   compPost (model X.prog X.w) X.A X.xe use Q' (.ref D) C (.ok .next) s')
  (hs:∀x,foldedSetIterable l4 X.env x=pure x:=by intro _;rfl):
  wpAny (model X.prog X.w) X.A (comprehension (.ListComp lL (⟨tg,l4,ifs,0⟩::gs) sc pos) sc X.env p (newList []) false (eval l4 X.env) use) Q' X.xe s:=by
 have j:∀y∈sc.names,y.2=.free->∃c,X.env.cells.lookup y.1=some c:=λy Y e=>I.ok.has _ (S.free y Y e);refine wpAny_comprehension_free (use:=use) rfl hs (T5 j) S.kind (λy Y e=>by
  obtain⟨y1,y2⟩:=y;have e':y2=.local:=e;subst e';exact Q4 S.nd Y) ?_
 refine zQ (hw l0 s σ H _ I h) λv s1 h1=>zQ h1 λitv s2 h2=>?_;obtain⟨it,fp,tn,J,M,e,I2,T,wN,f2,q2⟩:=h2;subst e;refine wpAny_newObj_type ?_;have hD:M s2.heap.objs.size=none:=I2.fresh;have hKD:X.K.lookup s2.heap.objs.size=none:=by
  cases ek:X.K.lookup s2.heap.objs.size with
  |none=>rfl|some o=>exact absurd (aG (I2.kIn _ _ ek)) (aV _)
 have U:=q2 _ hD hKD;generalize Z:({ s2 with heap:=s2.heap.push { cls:=.type "list",data:=.seq ([]:bS).toArray } }:Shared)=s3
 have f:s3={ s2 with heap:=s2.heap.push { cls:=.type "list",data:=.seq ([]:bS).toArray } }:=Z.symm
 have i:Inv X l0 σ (upd M s2.heap.objs.size (.lst [])) s3:=by
  rw[f];exact I2.laid (t':=s2.toks) (λb u e=>af _ e) (ar _) ⟨by simp,[],0,.nil,aw _ rfl⟩
 have B:∀b∈fp,∃o,s2.heap.get? b=some o:=λb a=>let ⟨o,e,_⟩:=T.obj 0 _ wN b a;⟨o,e⟩
 have P:s3.heap.objs.size=s2.heap.objs.size+1:=by rw[f];exact bc ..
 have gn:tn 0 s3.heap:=T.keep _ _ _ wN λb a o e=>by rw[f];exact af _ e
 have E:∀b∈fp,b<s3.heap.objs.size:=λb a=>by
  obtain⟨o,e⟩:=B b a;rw[P];exact aZ (aG e)
 have L:∀b∈fp,kz X l0 (upd M s2.heap.objs.size (.lst [])) b:=λb a=>by
  obtain⟨o,e⟩:=B b a;refine⟨?_,(f2 b a).2⟩;rw[qi (aJ (aG e))];exact(f2 b a).1
 generalize upd M s2.heap.objs.size (.lst [])=H3 at i L U;generalize s2.heap.objs.size=D at U ⊢;refine Mx ?_;obtain⟨cl,cs⟩:=Cd t (σ:=σ);have I4:=DU (xe:=j7) i S L E cl cs;obtain⟨hgt,hi,hm⟩:=hin s3 H3 fp i L;refine OU (X:=jx X N sc s3 H3 fp j7) (gens:=⟨tg,l4,ifs,0⟩::gs) (d:=0) (λ_ _ z=>z) hc rfl ha hgt hi hm T I4 (T.keep _ _ _ gn λb a o e=>pushCells_keeps _ _ _ _ (af _ e)) (λb a=>?_) U λs' σ' n l q'=>?_
 ·obtain⟨g1,g2,g3,g4,g5,g6⟩:=L b a
  refine⟨g1,aJ (E b a),λz=>?_,.inl a,(I4.ok.exf b a).2,λp hp=>absurd (show p∈([]:bU) from hp) (by simp)⟩
  rcases cn.mp (i.stkSub b z) with e|e
  ·exact g2 e
  ·exact g3 e
 ·have I5:Inv X l0 σ n s':=i.call' l.os l.base l.hok l.bare λb a=>by
   obtain⟨g1,g2,g3,g4,g5,g6⟩:=L b a;exact⟨g4,g2,g5,g6⟩
  obtain⟨m,hn,_⟩:=l.loc;refine r D _ s' n m I5 q' hn l.free (br i.lt) i.sz (λx c e z=>?_) λq hq z=>?_
  ·obtain⟨v,w⟩:=i.cell x c e
   exact aV _ (aF w.lt (by rw[z];exact ar _))
  ·exact aV _ (aF (aG (i.pin q hq).1) (by rw[z];exact ar _))
def BS (d:X.calm=true)(S:wY X sc)(p:Zs X.N N sc nl cap=true)(i:∀g',gs[0]? =some g'->g'.is_async=0)(y:PI X tg l4 wi)
  (n:∀s H fp,PG (jx X N sc s H fp j7) tg g/\Zv (jx X N sc s H fp j7) ifs ti/\kQ (jx X N sc s H fp j7) lL (⟨tg,l4,ifs,0⟩::gs) sc pos 0 tm)
  (c:∀x,foldedSetIterable l4 X.env x=pure x:=by intro _;rfl):PE X (.ListComp lL (⟨tg,l4,ifs,0⟩::gs) sc pos) (Wi X.K wi g ti tm nl cap):=by
 intro P s B H Q I h;rw[eval_ListComp];refine RT (use:=none) d S p i y (λs H fp _ _=>n s H fp) I h (λD C w v m u q z A t r l j=>?_) c;exact⟨m,z,λE a=>⟨.ref D,v,u.turned (t':=w.toks) (λb o f e=>(a.2 b f).trans e) A t (.inr r) l j,rfl,q⟩⟩
def Hm {p:Pos}{c:Pos}(Q:X.N.Nodup)(j:X.N[i]? =some x)(r:X.env.scope.names.lookup x=some .local)
  (w:swapsWith (.ListComp lL (⟨tg,l4,ifs,0⟩::gs) sc pos) (some (.Name x p)) c.line X.env=pure true)
  (L:X.calm=true)(S:wY X sc)(d:Zs X.N N sc nl cap=true)(P:∀g',gs[0]? =some g'->g'.is_async=0)(hw:PI X tg l4 wi)
  (n:∀s H fp,PG (jx X N sc s H fp j7) tg g/\Zv (jx X N sc s H fp j7) ifs ti/\kQ (jx X N sc s H fp j7) lL (⟨tg,l4,ifs,0⟩::gs) sc pos 0 tm)
  (E:∀x,foldedSetIterable l4 X.env x=pure x:=by intro _;rfl):PS X (.Assign [.Name x p] (.ListComp lL (⟨tg,l4,ifs,0⟩::gs) sc pos) c) (Ws (Wi X.K wi g ti tm nl cap) (Wl i)):=by
 intro l0 s σ H D I h;rw[exec_Assign_Name_used _ _ _ _ w];refine ck (wpAny_standAt (ck ?_));show wpAny _ X.A (do let _ <- comprehension (.ListComp lL (⟨tg,l4,ifs,0⟩::gs) sc pos) sc X.env _ (newList []) false (eval l4 X.env) (some (assign (.Name x p) X.env))) _ _ s
 refine ck (wpAny_mono (RT (use:=some (assign (.Name x p) X.env)) (Q':=λ_ s'=>SP X l0 D .next s') L S d P hw (λs H fp _ _=>n s H fp) I h (λy C s' H' m I' q hn h1 u U t T=>?_) E) (λ_ s' J=>cm (cm J)) λ_ _ e=>e);show wpAny _ X.A (assign (.Name x p) X.env (.ref y)) _ _ _;refine wpAny_assign_Name (T8 I' Q j (.inl r) (v:=.ref y) rfl (λs2 Z ⟨a,B,Y⟩=>?_) (.inr r));have l:C≠a:=by
  rcases Y with e|e
  ·rw[e];exact u
  ·exactλz=>t x a e z.symm
 refine⟨m,hn.sameBut B l,λh' f=>⟨_,H',Z.turned (t':=s2.toks) (λb o M e=>(f.2 b M).trans e) h1 u (.inr U) t T,q⟩⟩
end
end L2
namespace Mi
open PySem PySem.Spec PyProof.Rows L2
inductive W where
 |non|bl (b:Bool)|int (i:Int)|str (x:Str)|tup (xs:List W)|ref (n:Nat)
 |clo (k:Nat) (xs:List W) (P:Obj->Addr->Obj->List V->Prop)
 |xc (x:Str)
 |fn (x:Str)
inductive O where
 |lst (xs:List W)|ro (xs:List W)|dct (lG:List (Key×W))
 |td (lG:List (List Int×W))
 |tr (lG:List (List Int×W))
 |tab (q:Str) (P:Addr)
noncomputable def O.mut:O->Bool
 |.ro _=>false|.tr _=>false|_=>true
noncomputable abbrev Hx:=List O
noncomputable abbrev En:=List (Option W)
inductive R (α:Type) where
 |ok (a:α) (A:Hx)|exc (x:Str) (A:Hx)|bad
noncomputable def R.bind {b:Type}(r:R α)(f:α->Hx->R b):R b:=match r with
 |.ok a A=>f a A|.exc x A=>.exc x A|.bad=>.bad
def R.post (r:R α)(P:α->Hx->Prop)(E:Str->Hx->Prop):Prop:=match r with
 |.ok a A=>P a A|.exc x A=>E x A|.bad=>False
noncomputable def R.nox (r:R α):R α:=match r with
 |.ok a A=>.ok a A|.exc _ _=>.bad|.bad=>.bad
section
variable {β:Type}{r:R α}{f:α->Hx->R β}{P Q:α->Hx->Prop}{P':β->Hx->Prop}{E F:Str->Hx->Prop}
def zA {a:α}{A:Hx}:(R.ok a A).bind f=f a A:=rfl
def Rh {A:Hx}:(R.exc x A:R α).bind f=.exc x A:=rfl
def zT:(r.bind f).post P' E↔r.post (λa A=>(f a A).post P' E) E:=by cases r<;>exact Iff.rfl
def qo (h:r.post P E)(H:∀a A,P a A->Q a A)(b:∀x A,E x A->F x A):r.post Q F:=by
 cases r with
 |ok a A=>exact H _ _ h|exc x A=>exact b _ _ h|bad=>exact h
end
abbrev Ev:=En->Hx->R W
inductive zd4 (K:Frag)(H:Hp)(R:List V->Prop)(v:V):Prop
 |mk (a:Addr) (vs:List V) (e:v=.ref a) (h:qp K H a vs) (r:R vs)
inductive zeo (H:Hp)(P:Obj->Addr->Obj->List V->Prop)(R:List V->Prop)(v:V):Prop
 |mk (a:Addr) (ob:Obj) (u:HO) (c:Addr) (oc:Obj) (uc:HO) (vs:List V) (e:v=.ref a) (h1:H a=some (.frz ob u)) (h2:H c=some (.frz oc uc)) (p:P ob c oc vs) (r:R vs)
inductive zeq (R:V->Prop)(Rs:List V->Prop)(vs:List V):Prop
 |mk (v:V) (r:List V) (e:vs=v::r) (h:R v) (t:Rs r)
mutual
def RV (K:Frag)(c:bT)(H:Hp):W->V->Prop
 |.non,v=>v=.non|.bl b,v=>v=.bl b|.int i,v=>v=.int i|.str x,v=>v=.str x|.tup w,v=>zd4 K H (zr K c H w) v|.ref n,v=>∃a,v=.ref a/\c[n]? =some a|.clo _ w P,v=>zeo H P (zr K c H w) v|.xc x,v=>∃a o u C,v=.ref a/\H a=some (.frz o u)/\o.cls=.ref C/\nsIn K mainGlobals x=some (some (.ref C))|.fn x,v=>∃a,v=.ref a/\nsIn K mainGlobals x=some (some (.ref a))
def zr (K:Frag)(φ:bT)(H:Hp):List W->List V->Prop
 |[],vs=>vs=[]|w::ws,vs=>zeq (RV K φ H w) (zr K φ H ws) vs
end
structure Le (K:Frag)(φ:bT)(H:Hp)(l9:bT)(H':Hp):Prop where
 ex:∀(n:Nat)(a:Addr),φ[n]? =some a->l9[n]? =some a
 tp:∀a vs,qp K H a vs->qp K H' a vs
 fr:∀a o,H a=some o->(∀n:Nat,φ[n]?≠some a)->H' a=some o
 nw:∀(n:Nat)(a:Addr),l9[n]? =some a->φ[n]? =some a∨H a=none
 st:∀a,H' a=none->H a=none
 fz:∀a o u,H a=some (.frz o u)->H' a=some (.frz o u)
def Le.refl {K φ H}:Le K φ H φ H:=⟨λ_ _ h=>h,λ_ _ h=>h,λ_ _ h _=>h,λ_ _ h=>.inl h,λ_ h=>h,λ_ _ _ h=>h⟩
def Le.trans {K φ H lH H1 φ2 H2}(a:Le K φ H lH H1)(b:Le K lH H1 φ2 H2):Le K φ H φ2 H2 where
 ex:=λn x h=>b.ex n x (a.ex n x h)
 tp:=λn x h=>b.tp n x (a.tp n x h)
 fr:=λc o h n=>b.fr c o (a.fr c o h n) λk e=>by
  rcases a.nw k c e with e|e
  ·exact n k e
  ·rw[h]at e;cases e
 nw:=λn c e=>by
  rcases b.nw n c e with e|e
  ·exact a.nw n c e
  ·exact .inr (a.st c e)
 st:=λc e=>a.st c (b.st c e)
 fz:=λc o u h=>b.fz c o u (a.fz c o u h)
def Le.off {K φ H l9 H'}(l:Le K φ H l9 H'){o:HO}(h:H D=some o)(n:∀k:Nat,φ[k]?≠some D):H' D=some o/\∀k:Nat,l9[k]?≠some D:=
 ⟨l.fr D o h n,λk e=>by
  rcases l.nw k D e with e|e
  ·exact n k e
  ·rw[h]at e;cases e⟩
section
variable {K:Frag}{l9:bT}{H':Hp}
structure Zy (K:Frag)(φ:bT)(H:Hp)(l9:bT)(H':Hp):Prop where
 ex:∀(n:Nat)(a:Addr),φ[n]? =some a->l9[n]? =some a
 tp:∀a vs,qp K H a vs->qp K H' a vs
 fz:∀a o u,H a=some (.frz o u)->H' a=some (.frz o u)
mutual
theorem RV.monoW (l:Zy K φ H l9 H'):∀{w:W}{v:V},RV K φ H w v->RV K l9 H' w v
 |.non,_,h=>h|.bl _,_,h=>h|.int _,_,h=>h|.str _,_,h=>h|.tup j,_,⟨a,s,e,t,r⟩=>⟨a,s,e,l.tp _ _ t,zr.monoW l r⟩|.ref n,_,⟨a,e,f⟩=>⟨a,e,l.ex _ _ f⟩|.clo _ j P,_,⟨a,ob,u,c,d,U,s,e,i,b,g,r⟩=>⟨a,ob,u,c,d,U,s,e,l.fz _ _ _ i,l.fz _ _ _ b,g,zr.monoW l r⟩|.xc x,_,⟨a,o,u,C,e,i,b⟩=>⟨a,o,u,C,e,l.fz _ _ _ i,b⟩|.fn _,_,h=>h
theorem zr.monoW (l:Zy K φ H l9 H'):∀{s:List W}{a:List V},zr K φ H s a->zr K l9 H' s a
 |[],_,h=>h|w::s,_,⟨v,r,e,h,t⟩=>⟨v,r,e,RV.monoW l h,zr.monoW l t⟩
end
def RV.mono {w:W}(h:RV K φ H w v)(l:Le K φ H l9 H'):RV K l9 H' w v:=RV.monoW ⟨l.ex,l.tp,l.fz⟩ h
def zr.mono {w:List W}{v:List V}(h:zr K φ H w v)(l:Le K φ H l9 H'):zr K l9 H' w v:=zr.monoW ⟨l.ex,l.tp,l.fz⟩ h
structure yA (K:Frag)(D:Addr)(φ:bT)(H:Hp)(l9:bT)(H':Hp):Prop where
 ex:∀(n:Nat)(a:Addr),φ[n]? =some a->l9[n]? =some a
 tp:∀a vs,qp K H a vs->qp K H' a vs
 fr:∀a o,a≠D->H a=some o->(∀n:Nat,φ[n]?≠some a)->H' a=some o
 nw:∀(n:Nat)(a:Addr),l9[n]? =some a->φ[n]? =some a∨H a=none
 st:∀a,H' a=none->H a=none
 fz:∀a o u,H a=some (.frz o u)->H' a=some (.frz o u)
def yA.refl {D}:yA K D φ H φ H:=⟨λ_ _ h=>h,λ_ _ h=>h,λ_ _ _ h _=>h,λ_ _ h=>.inl h,λ_ h=>h,λ_ _ _ h=>h⟩
def Le.toD {D}(l:Le K φ H l9 H'):yA K D φ H l9 H':=⟨l.ex,l.tp,λa o _ h n=>l.fr a o h n,l.nw,l.st,l.fz⟩
def yA.trans {D lH H1 φ2 H2}(a:yA K D φ H lH H1)(b:yA K D lH H1 φ2 H2):yA K D φ H φ2 H2 where
 ex:=λn x h=>b.ex n x (a.ex n x h)
 tp:=λn x h=>b.tp n x (a.tp n x h)
 fr:=λc o N h n=>b.fr c o N (a.fr c o N h n) λk e=>by
  rcases a.nw k c e with e|e
  ·exact n k e
  ·rw[h]at e;cases e
 nw:=λn c e=>by
  rcases b.nw n c e with e|e
  ·exact a.nw n c e
  ·exact .inr (a.st c e)
 st:=λc e=>a.st c (b.st c e)
 fz:=λc o u h=>b.fz c o u (a.fz c o u h)
def RV.monoD {D}{w:W}(h:RV K φ H w v)(l:yA K D φ H l9 H'):RV K l9 H' w v:=RV.monoW ⟨l.ex,l.tp,l.fz⟩ h
def zr.monoD {D}{w:List W}{v:List V}(h:zr K φ H w v)(l:yA K D φ H l9 H'):zr K l9 H' w v:=zr.monoW ⟨l.ex,l.tp,l.fz⟩ h
theorem zr.length:∀{s:List W}{a:List V},zr K φ H s a->s.length=a.length
 |[],_,h=>by cases h;rfl|w::s,_,⟨v,r,e,_,t⟩=>by subst e;simp[zr.length t]
theorem zr.get:∀{s:List W}{b:List V}{i:Nat}{w:W},zr K φ H s b->s[i]? =some w->∃v,b[i]? =some v/\RV K φ H w v
 |[],_,_,_,_,e=>by simp at e|w::s,_,0,_,⟨v,r,e,h,t⟩,q=>by subst e;simp at q;subst q;exact⟨v,by simp,h⟩|w::s,_,i+1,x,⟨v,r,e,h,t⟩,q=>by
  subst e;obtain⟨y,c,a⟩:=zr.get (i:=i) (w:=x) t (by simpa using q)
  exact⟨y,by simpa using c,a⟩
theorem zr.append:∀{s u:List W}{a x:List V},zr K φ H s a->zr K φ H u x->zr K φ H (s++u) (a++x)
 |[],_,_,_,h,t=>by cases h;exact t|w::s,_,_,_,⟨v,r,e,h,t⟩,T=>by subst e;exact⟨v,r++_,rfl,h,zr.append t T⟩
def zr.one {w:W}(h:RV K φ H w v):zr K φ H [w] [v]:=⟨v,[],rfl,h,rfl⟩
def zr.nil:zr K φ H [] []:=rfl
def zr.cons {w:W}{v:V}{s:List W}{vs:List V}(h:RV K φ H w v)(t:zr K φ H s vs):zr K φ H (w::s) (v::vs):=⟨v,vs,rfl,h,t⟩
theorem zr.set {w:W}(q:RV K φ H w v):∀{s:List W}{b:List V}(i:Nat),zr K φ H s b->zr K φ H (s.set i w) (b.set i v)
 |[],_,_,h=>by cases h;exact rfl|_::_,_,0,⟨a,r,e,h,t⟩=>by subst e;exact⟨v,r,rfl,q,t⟩|_::_,_,i+1,⟨a,r,e,h,t⟩=>by subst e;exact⟨a,_,rfl,h,zr.set q i t⟩
theorem zr.drop:∀{w:List W}{s:List V}(n:Nat),zr K φ H w s->zr K φ H (w.drop n) (s.drop n)
 |[],_,n,h=>by cases h;rw[List.drop_nil,List.drop_nil];exact zr.nil|_::_,_,0,h=>by simpa using h|_::_,_,n+1,⟨v,r,e,h,t⟩=>by subst e;simpa using zr.drop n t
theorem zr.take:∀{w:List W}{s:List V}(n:Nat),zr K φ H w s->zr K φ H (w.take n) (s.take n)
 |[],_,n,h=>by cases h;rw[List.take_nil,List.take_nil];exact zr.nil|_::_,_,0,h=>by rw[List.take_zero,List.take_zero];exact zr.nil|_::_,_,n+1,⟨v,r,e,h,t⟩=>by subst e;exact⟨v,_,rfl,h,zr.take n t⟩
theorem zr.erase:∀{w:List W}{s:List V}(n:Nat),zr K φ H w s->zr K φ H (w.eraseIdx n) (s.eraseIdx n)
 |[],_,n,h=>by cases h;rw[List.eraseIdx_nil,List.eraseIdx_nil];exact zr.nil|_::_,_,0,⟨v,r,e,h,t⟩=>by subst e;simpa using t|_::_,_,n+1,⟨v,r,e,h,t⟩=>by subst e;exact⟨v,_,rfl,h,zr.erase n t⟩
theorem zr.ints:∀{ns:bR}{vs:List V},zr K φ H (ns.map W.int) vs↔vs=ns.map V.int
 |[],vs=>Iff.rfl|n::ns,vs=>by
  constructor
  ·rintro⟨v,r,e,h,t⟩
   rw[e,(show v=V.int n from h),zr.ints.mp t];rfl
  ·intro e
   exact⟨V.int n,ns.map V.int,e,rfl,zr.ints.mpr rfl⟩
def JD (K:Frag)(H:Hp)(a:Addr)(x:List V):Prop:=
 (∃ob,H a=some (.frz ob (.lst x)))∨
  ∃(o:Obj) (l6:Array Value) (n:Nat),K.lookup a=some o/\o.cls=.type "list" /\ o.dict=none/\o.data=.seq l6 n/\l6.size<=sizeLine/\Vals x l6.toList
def JD.sq {x:List V}(h:JD K H a x):qI K H a x:=by
 rcases h with h|h
 ·exact .inl (.inr h)
 ·exact .inr h
inductive TabAt (H:Hp)(q:Str)(cv:Value):Prop
 |mk (c:Addr) (oc:Obj) (u:HO) (vs:Array Value) (t:Tok) (e:cv=.ref c) (h:H c=some (.frz oc u)) (d:oc.data=.fields vs/\vs[1]? =some (.str q t))
def Ym (H:Hp)(q:Str)(P:Array Value):Prop:=TriplesOk P.toList/\∀p c,codeAmong p P.toList=some c->TabAt H q c
def Ym.mono {q:Str}{P:Array Value}(h:Ym H q P)(l:∀a o u,H a=some (.frz o u)->H' a=some (.frz o u)):Ym H' q P:=
 ⟨h.1,λp C e=>by obtain⟨c,b,u,v,t,g,f,d⟩:=h.2 p C e;exact⟨c,b,u,v,t,g,l _ _ _ f,d⟩⟩
noncomputable def hT (K:bR):Int:=reduceHash (Builtin.Tuple.tupleHashOf (K.map hashInt))
def ej (a:Addr)(X:List (List Int×Addr×V))(h:Heap):Prop:=(a==sysModules)=false/\X.length<=sizeLine/\∃z:List (List Int×Addr×Value),
 Paired (λ(p:List Int×Addr×V) (q:List Int×Addr×Value)=>p.1=q.1/\p.2.1=q.2.1/\RelV p.2.2 q.2.2) X z/\
 ∃o e E,h.get? a=some o/\o.ExactDict/\o.data=.dict e E/\e.toList=z.map (λx=>(⟨hT x.1,.ref x.2.1,x.2.2⟩:DictEntry))/\(z.map (·.1)).Nodup
def en (a:Addr)(X:List (List Int×Addr×V))(o:Obj):Prop:=(a==sysModules)=false/\X.length<=sizeLine/\∃z:List (List Int×Addr×Value),
 Paired (λ(p:List Int×Addr×V) (q:List Int×Addr×Value)=>p.1=q.1/\p.2.1=q.2.1/\RelV p.2.2 q.2.2) X z/\
 ∃e E,o.ExactDict/\o.data=.dict e E/\e.toList=z.map (λx=>(⟨hT x.1,.ref x.2.1,x.2.2⟩:DictEntry))/\(z.map (·.1)).Nodup
def OR (K:Frag)(b:bT)(H:Hp)(a:Addr):O->Prop
 |.lst w=>∃v,H a=some (.lst v)/\zr K b H w v|.ro w=>∃v,JD K H a v/\zr K b H w v|.dct s=>∃U,H a=some (.dK U)/\U.map (·.1)=s.map (·.1)/\zr K b H (s.map (·.2)) (U.map (·.2))|.td s=>∃X:List (List Int×Addr×V),H a=some (.ext (ej a X))/\X.map (·.1)=s.map (·.1)/\(∀x∈X,qp K H x.2.1 (x.1.map V.int))/\zr K b H (s.map (·.2)) (X.map (·.2.2))|.tr s=>∃(ob:Obj) (u:HO) (X:List (List Int×Addr×V)),H a=some (.frz ob u)/\en a X ob/\X.map (·.1)=s.map (·.1)/\(∀x∈X,qp K H x.2.1 (x.1.map V.int))/\zr K b H (s.map (·.2)) (X.map (·.2.2))|.tab q P=>a=P/\∃p,H a=some (.tbl p)/\Ym H q p
structure zF (K:Frag)(φ:bT)(A:Hx)(H:Hp):Prop where
 len:φ.length=A.length
 inj:∀(i j:Nat)(a:Addr)(o o':O),φ[i]? =some a->φ[j]? =some a->A[i]? =some o->A[j]? =some o'->o.mut=true->o'.mut=true->i=j
 ob:∀(n:Nat)(o:O),A[n]? =some o->∃a,φ[n]? =some a/\OR K φ H a o
variable {A:Hx}
def OR.there {o:O}(h:OR K φ H a o)(m:o.mut=true):∃u,H a=some u/\(∀xs,u≠.tup xs)/\(∀ob v,u≠.frz ob v):=by
 cases o with
 |lst w=>obtain⟨b,e,_⟩:=h;exact⟨_,e,λ_ z=>(by cases z),λ_ _ z=>(by cases z)⟩|ro w=>cases m|dct s=>obtain⟨b,e,_⟩:=h;exact⟨_,e,λ_ z=>(by cases z),λ_ _ z=>(by cases z)⟩|td s=>obtain⟨b,e,_⟩:=h;exact⟨_,e,λ_ z=>(by cases z),λ_ _ z=>(by cases z)⟩|tr _=>cases m|tab q P=>obtain⟨_,b,e,_⟩:=h;exact⟨_,e,λ_ z=>(by cases z),λ_ _ z=>(by cases z)⟩
def Xq {o:HO}{v:List V}(h:qp K H a v)(n:∀xs,H b≠some (.tup xs))(N:∀ob u,H b≠some (.frz ob u)):qp K (upd H b o) a v:=by
 rcases h with (h|⟨ob,h⟩)|h
 ·exact .inl (.inl (by rw[qi];exact h;intro e;subst e;exact n _ h))
 ·exact .inl (.inr ⟨ob,by rw[qi];exact h;intro e;subst e;exact N _ _ h⟩)
 ·exact .inr h
theorem Le.upd {o:HO}{k:Nat}(c:φ[k]? =some b)(n:∀xs,H b≠some (.tup xs))(N:∀ob u,H b≠some (.frz ob u)):Le K φ H φ (upd H b o) where
 ex:=λ_ _ h=>h
 tp:=λ_ _ h=>Xq h n N
 fr:=λa u h z=>by
  rw[qi];exact h;intro e;subst e;exact z k c
 nw:=λ_ _ h=>.inl h
 st:=λa h=>by
  by_cases e:a=b
  ·subst e;rw[ji]at h;cases h
  ·rw[qi e]at h;exact h
 fz:=λa ob u h=>by
  rw[qi];exact h;intro e;subst e;exact N _ _ h
def Le.new {p:Addr}{o:HO}(b:H p=none):Le K φ H φ (L2.upd H p o) where
 ex:=λ_ _ h=>h
 tp:=λ_ _ h=>Xq h (λx z=>by rw[b]at z;cases z) (λ_ _ z=>by rw[b]at z;cases z)
 fr:=λa u h z=>by
  rw[qi];exact h;intro e;subst e;rw[b]at h;cases h
 nw:=λ_ _ h=>.inl h
 st:=λa h=>by
  by_cases e:a=p
  ·subst e;rw[ji]at h;cases h
  ·rw[qi e]at h;exact h
 fz:=λa ob u h=>by
  rw[qi];exact h;intro e;subst e;rw[b]at h;cases h
def Le.alloc {p:Addr}{o:HO}(b:H p=none):Le K φ H (φ++[p]) (L2.upd H p o) where
 ex:=λn a h=>by
  have:=(cu.mp h).1
  rw[au this];exact h
 tp:=(Le.new (φ:=φ) b).tp
 fr:=(Le.new (K:=K) (φ:=φ) b).fr
 nw:=λn a h=>by
  by_cases c:n < φ.length
  ·rw[au c]at h;exact .inl h
  ·rw[ay (by omega)]at h
   have e:a=p:=by
    have:=mem_of_getElem? h
    simpa using this
   subst e;exact .inr b
 st:=(Le.new (K:=K) (φ:=φ) b).st
 fz:=(Le.new (K:=K) (φ:=φ) b).fz
def Le.ofD {o:HO}(b:H D=none)(l:yA K D φ (L2.upd H D o) l9 H'):Le K φ H l9 H' where
 ex:=l.ex
 tp:=λa v h=>l.tp a v ((Le.new (K:=K) (φ:=φ) b).tp a v h)
 fr:=λa u h n=>by
  have N:a≠D:=by rintro rfl;rw[b]at h;cases h
  exact l.fr a u N (by rw[qi N];exact h) n
 nw:=λn a e=>by
  rcases l.nw n a e with e|e
  ·exact .inl e
  ·by_cases h:a=D
   ·subst h;rw[ji]at e;cases e
   ·rw[qi h]at e;exact .inr e
 st:=λa e=>by
  have E:=l.st a e
  by_cases h:a=D
  ·subst h;rw[ji]at E;cases E
  ·rw[qi h]at E;exact E
 fz:=λa ob u h=>l.fz a ob u (by rw[qi];exact h;rintro rfl;rw[b]at h;cases h)
theorem yA.upd {o:HO}{x:List V}(b:H D=some (.lst x)):yA K D φ H φ (L2.upd H D o) where
 ex:=λ_ _ h=>h
 tp:=λa v h=>Xq h (λx z=>by rw[b]at z;cases z) (λ_ _ z=>by rw[b]at z;cases z)
 fr:=λa u N h n=>by rw[qi N];exact h
 nw:=λ_ _ h=>.inl h
 st:=λa e=>by
  by_cases h:a=D
  ·subst h;rw[ji]at e;cases e
  ·rw[qi h]at e;exact e
 fz:=λa ob u h=>by
  rw[qi];exact h;intro e;subst e;rw[b]at h;cases h
def OR.keep {o:O}(h:OR K φ H a o)(l:Le K φ H l9 H')(e:∀u,H a=some u->H' a=some u):OR K l9 H' a o:=by
 cases o with
 |lst w=>obtain⟨v,q,r⟩:=h;exact⟨v,e _ q,r.mono l⟩|dct s=>obtain⟨v,q,k,r⟩:=h;exact⟨v,e _ q,k,r.mono l⟩|td s=>obtain⟨v,q,k,t,r⟩:=h;exact⟨v,e _ q,k,λx b=>l.tp _ _ (t x b),r.mono l⟩|tr s=>obtain⟨ob,u,v,q,d,k,t,r⟩:=h;exact⟨ob,u,v,e _ q,d,k,λx b=>l.tp _ _ (t x b),r.mono l⟩|tab q P=>obtain⟨k,p,q,r⟩:=h;exact⟨k,p,e _ q,r.mono l.fz⟩|ro w=>
  obtain⟨v,q,r⟩:=h;refine⟨v,?_,r.mono l⟩;rcases q with ⟨ob,q⟩|q
  ·exact .inl ⟨ob,e _ q⟩
  ·exact .inr q
theorem zF.alloc {p:Addr}{u:HO}{o:O}(S:zF K φ A H)(g:H p=none)(new:OR K (φ++[p]) (L2.upd H p u) p o):Le K φ H (φ++[p]) (L2.upd H p u)/\zF K (φ++[p]) (A++[o]) (L2.upd H p u):=by
 have l:Le K φ H (φ++[p]) (L2.upd H p u):=Le.alloc g;have B:∀(i:Nat) a,(φ++[p])[i]? =some a->i<A.length->φ[i]? =some a:=λi a e C=>by
  rw[au (by rw[S.len];exact C)]at e;exact e
 refine⟨l,by simp[S.len],λi j a w v D f d b I M=>?_,λn J e=>?_⟩
 ·by_cases C:i<A.length
  ·by_cases c:j<A.length
   ·rw[au C]at d
    rw[au c]at b;exact S.inj i j a w v (B i a D C) (B j a f c) d b I M
   ·exfalso
    rw[au C]at d;have s:j=A.length:=by have:=(cu.mp b).1;simp at this;omega
    subst s;rw[ay (by rw[S.len];exact ar _),S.len]at f
    simp at f;obtain⟨y,E,q⟩:=S.ob i w d;rw[B i a D C]at E;cases E;obtain⟨z,h,_⟩:=q.there I;rw[<- f,g]at h;cases h
  ·have t:i=A.length:=by have:=(cu.mp d).1;simp at this;omega
   by_cases c:j<A.length
   ·exfalso
    rw[au c]at b;subst t;rw[ay (by rw[S.len];exact ar _),S.len]at D
    simp at D;obtain⟨y,E,q⟩:=S.ob j v b;rw[B j a f c]at E;cases E;obtain⟨z,h,_⟩:=q.there M;rw[<- D,g]at h;cases h
   ·have:=(cu.mp b).1;simp at this;omega
 ·by_cases L:n<A.length
  ·rw[au L]at e
   obtain⟨a,E,q⟩:=S.ob n J e;refine⟨a,l.ex _ _ E,q.keep l λz h=>?_⟩;rw[qi];exact h;intro x;subst x;rw[g]at h;cases h
  ·have r:n=A.length:=by have:=(cu.mp e).1;simp at this;omega
   subst r;rw[ay (ar _)]at e;simp at e;subst e;exact⟨p,by rw[ay (by rw[S.len];exact ar _),S.len];simp,new⟩
def zF.write {p:Addr}{u:HO}{o o':O}(S:zF K φ A H)(Y:A[n]? =some o)(m:o.mut=true)(m':o'.mut=true)(c:φ[n]? =some p)(new:OR K φ (L2.upd H p u) p o'):
  Le K φ H φ (L2.upd H p u)/\zF K φ (A.set n o') (L2.upd H p u):=by
 obtain⟨T,e,q⟩:=S.ob n o Y;rw[c]at e;cases e;obtain⟨z,h,D,N⟩:=q.there m;have l:Le K φ H φ (L2.upd H p u):=Le.upd c (λxs e=>by rw[h]at e;exact D xs (aB e)) λob v e=>by rw[h]at e;exact N ob v (aB e)
 have mt:∀(i:Nat)(w:O),(A.set n o')[i]? =some w->w.mut=true->∃f,A[i]? =some f/\f.mut=true:=λi w e M=>by
  by_cases U:i=n
  ·subst U;exact⟨o,Y,m⟩
  ·rw[aI (Ne.symm U)]at e;exact⟨w,e,M⟩
 refine⟨l,by simp[S.len],λi j a C B h1 P L J m1 m2=>?_,λi w e=>?_⟩
 ·obtain⟨s,E,k1⟩:=mt i C L m1
  obtain⟨g,Q,k2⟩:=mt j B J m2;exact S.inj i j a s g h1 P E Q k1 k2
 ·by_cases U:i=n
  ·subst U
   have:i<A.length:=(cu.mp Y).1
   rw[aC this]at e;cases e;exact⟨p,c,new⟩
  ·rw[aI (Ne.symm U)]at e
   obtain⟨a,E,r⟩:=S.ob i w e;refine⟨a,E,?_⟩
   by_cases X:w.mut=true
   ·have ne:a≠p:=λz=>U (S.inj i n a w o E (by rw[z];exact c) e Y X m)
    exact r.keep l λz h=>by rw[qi ne];exact h
   ·cases w with
    |lst _=>exact absurd rfl X|dct _=>exact absurd rfl X|td _=>exact absurd rfl X|tr _=>obtain⟨ob,u,Z,q,d,k,t,r⟩:=r;exact⟨ob,u,Z,l.fz _ _ _ q,d,k,λx I=>l.tp _ _ (t x I),r.mono l⟩|tab _ _=>exact absurd rfl X|ro ws=>
     obtain⟨Z,b,y⟩:=r;refine⟨Z,?_,y.mono l⟩;rcases b with ⟨ob,b⟩|b
     ·refine .inl ⟨ob,?_⟩
      rw[qi];exact b;intro z;subst z;rw[h]at b;exact N _ _ (aB b)
     ·exact .inr b
def zF.lay {p:Addr}{u:HO}(S:zF K φ A H)(b:H p=none):zF K φ A (L2.upd H p u):=
 ⟨S.len,S.inj,λn o e=>by
  obtain⟨a,c,q⟩:=S.ob n o e;refine⟨a,c,q.keep (Le.new b) λz h=>?_⟩;rw[qi];exact h;intro E;subst E;rw[b]at h;cases h⟩
def zF.off {o:HO}{X:List V}(S:zF K φ A H)(b:H D=some (.lst X))(n:∀k:Nat,φ[k]?≠some D):zF K φ A (L2.upd H D o):=
 ⟨S.len,S.inj,λk u e=>by
  obtain⟨a,E,q⟩:=S.ob k u e;have N:a≠D:=λz=>n k (by rw[<- z];exact E)
  have l:yA K D φ H φ (L2.upd H D o):=yA.upd b;refine⟨a,E,?_⟩;cases u with
  |lst w=>obtain⟨v,q,r⟩:=q;exact⟨v,by rw[qi N];exact q,r.monoD l⟩|dct s=>obtain⟨v,q,k,r⟩:=q;exact⟨v,by rw[qi N];exact q,k,r.monoD l⟩|td s=>obtain⟨v,q,k,t,r⟩:=q;exact⟨v,by rw[qi N];exact q,k,λx h=>l.tp _ _ (t x h),r.monoD l⟩|tr s=>obtain⟨ob,u,v,q,d,k,t,r⟩:=q;exact⟨ob,u,v,l.fz _ _ _ q,d,k,λx h=>l.tp _ _ (t x h),r.monoD l⟩|tab _ _=>obtain⟨k,v,q,r⟩:=q;exact⟨k,v,by rw[qi N];exact q,r.mono l.fz⟩|ro w=>
   obtain⟨v,q,r⟩:=q;refine⟨v,?_,r.monoD l⟩;rcases q with ⟨ob,q⟩|q
   ·exact .inl ⟨ob,by rw[qi N];exact q⟩
   ·exact .inr q⟩
def zF.Vw (S:zF K φ A H)(b:H D=none)(d:K.lookup D=none):∀k:Nat,φ[k]?≠some D:=λk e=>by
 have c:k<A.length:=by rw[<- S.len];exact(cu.mp e).1
 obtain⟨a,E,q⟩:=S.ob k A[k] (by simp[c])
 rw[e]at E;cases E;cases h:A[k] with
 |lst w=>rw[h]at q;obtain⟨v,z,_⟩:=q;rw[b]at z;cases z|dct w=>rw[h]at q;obtain⟨v,z,_⟩:=q;rw[b]at z;cases z|td _=>rw[h]at q;obtain⟨v,z,_⟩:=q;rw[b]at z;cases z|tr _=>rw[h]at q;obtain⟨_,_,_,z,_⟩:=q;rw[b]at z;cases z|tab _ _=>rw[h]at q;obtain⟨_,v,z,_⟩:=q;rw[b]at z;cases z|ro w=>
  rw[h]at q;obtain⟨v,z,_⟩:=q;rcases z with ⟨ob,z⟩|⟨o,i,n,z,_⟩
  ·rw[b]at z;cases z
  ·rw[d]at z;cases z
def zF.Jo {u:HO}{o:O}(S:zF K φ A H)(C:H D=some u)(n:∀k:Nat,φ[k]?≠some D)(new:OR K (φ++[D]) H D o):zF K (φ++[D]) (A++[o]) H:=by
 have l:Zy K φ H (φ++[D]) H:=⟨λn a h=>by
  have:=(cu.mp h).1
  rw[au this];exact h,λ_ _ h=>h,λ_ _ _ h=>h⟩
 have J:∀(i:Nat) a,(φ++[D])[i]? =some a->i<A.length->φ[i]? =some a:=λi a e M=>by
  rw[au (by rw[S.len];exact M)]at e;exact e
 have L:∀a,(φ++[D])[A.length]? =some a->a=D:=λa e=>by
  rw[ay (by rw[S.len];exact ar _),S.len]at e
  simpa using e.symm
 refine⟨by simp[S.len],λi j a B y N w v c U T=>?_,λk Q e=>?_⟩
 ·by_cases M:i<A.length
  ·by_cases b:j<A.length
   ·rw[au M]at v
    rw[au b]at c;exact S.inj i j a B y (J i a N M) (J j a w b) v c U T
   ·exfalso
    have p:j=A.length:=by have:=(cu.mp c).1;simp at this;omega
    subst p;exact n i (by rw[<- L a w];exact J i a N M)
  ·have s:i=A.length:=by have:=(cu.mp v).1;simp at this;omega
   by_cases b:j<A.length
   ·exfalso
    subst s;exact n j (by rw[<- L a N];exact J j a w b)
   ·have:=(cu.mp c).1;simp at this;omega
 ·by_cases X:k<A.length
  ·rw[au X]at e
   obtain⟨a,E,q⟩:=S.ob k Q e;refine⟨a,l.ex _ _ E,?_⟩;cases Q with
   |lst P=>obtain⟨I,z,r⟩:=q;exact⟨I,z,r.monoW l⟩|dct P=>obtain⟨I,z,Z,r⟩:=q;exact⟨I,z,Z,r.monoW l⟩|td _=>obtain⟨I,z,Z,t,r⟩:=q;exact⟨I,z,Z,λx f=>l.tp _ _ (t x f),r.monoW l⟩|tr _=>obtain⟨ob,u,I,z,d,Z,t,r⟩:=q;exact⟨ob,u,I,z,d,Z,λx f=>l.tp _ _ (t x f),r.monoW l⟩|tab _ _=>exact q|ro P=>obtain⟨I,z,r⟩:=q;exact⟨I,z,r.monoW l⟩
  ·have g:k=A.length:=by have:=(cu.mp e).1;simp at this;omega
   subst g;rw[ay (ar _)]at e;simp at e;subst e;exact⟨D,by rw[ay (by rw[S.len];exact ar _),S.len];simp,new⟩
def Le.Jo {b:bT}{c:Hp}(l:Le K b c φ H)(g:c D=none):Le K b c (φ++[D]) H where
 ex:=λn a h=>by
  have d:=l.ex n a h
  have:=(cu.mp d).1
  rw[au this];exact d
 tp:=l.tp
 fr:=l.fr
 nw:=λn a e=>by
  by_cases f:n < φ.length
  ·rw[au f]at e;exact l.nw n a e
  ·rw[ay (by omega)]at e
   have E:a=D:=by
    have:=mem_of_getElem? e
    simpa using this
   subst E;exact .inr g
 st:=l.st
 fz:=l.fz
end
noncomputable abbrev St:=L2.St
abbrev XR:=Str->Hp->Prop
def PB (K:Frag)(b:bT)(H:Hp)(Q:VK):W->Hx->Prop:=λw A=>∀a h v,Le K b H a h->zF K a A h->RV K a h w v->Q v h
def eu (K:Frag)(b:bT)(H:Hp)(Q:List V->Hp->Prop):List W->Hx->Prop:=λw A=>∀a h v,Le K b H a h->zF K a A h->zr K a h w v->Q v h
def EB (K:Frag)(b:bT)(H:Hp)(X:XR):Str->Hx->Prop:=λx A=>∀a h,Le K b H a h->zF K a A h->X x h
structure RE (K:Frag)(φ:bT)(H:Hp)(ρ:En)(σ:St):Prop where
 len:σ.length=ρ.length
 get:∀(i:Nat)(w:W),ρ[i]? =some (some w)->∃v,σ[i]? =some (some v)/\RV K φ H w v
section
variable {K:Frag}{lH l9:bT}{H1 H':Hp}{A:Hx}{ρ:En}{xr:XR}
theorem RE.mono (r:RE K φ H ρ σ)(l:Le K φ H l9 H'):RE K l9 H' ρ σ:=⟨r.len,λi w e=>let ⟨v,a,h⟩:=r.get i w e;⟨v,a,h.mono l⟩⟩
def PB.mono {Q:VK}{w:W}(h:PB K φ H Q w A)(l:Le K φ H lH H1):PB K lH H1 Q w A:=λa b v L=>h a b v (l.trans L)
def EB.mono (h:EB K φ H xr x A)(l:Le K φ H lH H1):EB K lH H1 xr x A:=λa b L=>h a b (l.trans L)
theorem RE.set {w:W}(r:RE K φ H ρ σ)(q:RV K φ H w v):RE K φ H (ρ.set i (some w)) (σ.set i (some v)):=
 ⟨by simp[r.len],λj u e=>by
  by_cases h:i=j
  ·subst h
   have b:i < ρ.length:=by
    have:=(cu.mp e).1
    simpa using this
   rw[aC b]at e;cases e;exact⟨v,by rw[aC (by rw[r.len];exact b)],q⟩
  ·rw[aI h]at e
   obtain⟨x,c,a⟩:=r.get j u e;exact⟨x,by rw[aI h];exact c,a⟩⟩
end
inductive MM (K:Frag)(xr:XR)(m:Ev)(σ:St)(H:Hp)(Q:VK):Prop
 |mk (φ:bT) (A:Hx) (ρ:En) (S:zF K φ A H) (re:RE K φ H ρ σ) (h:(m ρ A).post (PB K φ H Q) (EB K φ H xr))
def tM (K:Frag)(x:XR)(m:Ev):TE:=λa H Q=>MM K x m a H Q
inductive MT (K:Frag)(xr:XR)(m:Ev)(σ:St)(H:Hp)(Q:Bool->Hp->Prop):Prop
 |mk (φ:bT) (A:Hx) (ρ:En) (S:zF K φ A H) (re:RE K φ H ρ σ) (h:(m ρ A).post (λw A'=>∃b,w=.bl b/\∀l9 H',Le K φ H l9 H'->zF K l9 A' H'->Q b H') (EB K φ H xr))
def tT (K:Frag)(x:XR)(m:Ev):TT:=λa H Q=>MT K x m a H Q
abbrev Ea:=En->Hx->R (List W)
inductive MA (K:Frag)(xr:XR)(m:Ea)(σ:St)(H:Hp)(Q:List V->Hp->Prop):Prop
 |mk (φ:bT) (A:Hx) (ρ:En) (S:zF K φ A H) (re:RE K φ H ρ σ) (h:(m ρ A).post (eu K φ H Q) (EB K φ H xr))
def WH (K:Frag)(x:XR)(m:Ea):TA:=λa H Q=>MA K x m a H Q
def SE (X:Cx)(x:XR)(e:Expr)(m:Ev):Prop:=PE X e (tM X.K x m)
def ST (X:Cx)(x:XR)(e:Expr)(m:Ev):Prop:=PT X e (tT X.K x m)
def SW (X:Cx)(x:XR)(e:Expr)(m:Ev):Prop:=PW X e (tT X.K x m)
def SA (X:Cx)(x:XR)(e:bY)(m:Ea):Prop:=PA X e (WH X.K x m)
section
variable {xr:XR}{a b:Expr}{es:bY}{m ma mb mc:Ev}
def PE.imp {t T:TE}(h:PE X e t)(i:∀σ H Q,T σ H Q->t σ H Q):PE X e T:=λp s σ H Q I w=>h p s σ H Q I (i σ H Q w)
def PT.imp {t T:TT}(h:PT X e t)(i:∀σ H Q,T σ H Q->t σ H Q):PT X e T:=λp s σ H Q I w=>h p s σ H Q I (i σ H Q w)
def PW.imp {t T:TT}(h:PW X e t)(i:∀σ H Q,T σ H Q->t σ H Q):PW X e T:=λw p s σ H Q I a=>h w p s σ H Q I (i σ H Q a)
def PA.imp {t T:TA}(h:PA X es t)(i:∀σ H Q,T σ H Q->t σ H Q):PA X es T:=λp P s σ H Q I w=>h p P s σ H Q I (i σ H Q w)
def tM.go {K:Frag}{A:Hx}{c:En}{Q:VK}{G:W->Hx->Prop}(S:zF K φ A H)(r:RE K φ H c σ)(h:(m c A).post G (EB K φ H xr))
  (k:∀w A1 a b v,G w A1->Le K φ H a b->zF K a A1 b->RV K a b w v->Q v b):tM K xr m σ H Q:=
 ⟨φ,A,c,S,r,qo h (λw A1 g a b v l s q=>k w A1 a b v g l s q) λ_ _ z=>z⟩
def WH.go {K:Frag}{A:Hx}{c:En}{m:Ea}{Q:List V->Hp->Prop}{G:List W->Hx->Prop}(S:zF K φ A H)(r:RE K φ H c σ)(h:(m c A).post G (EB K φ H xr))
  (k:∀w A1 a b v,G w A1->Le K φ H a b->zF K a A1 b->zr K a b w v->Q v b):WH K xr m σ H Q:=
 ⟨φ,A,c,S,r,qo h (λw A1 g a b v l s q=>k w A1 a b v g l s q) λ_ _ z=>z⟩
def tT.go {K:Frag}{A:Hx}{c:En}{Q:Bool->Hp->Prop}{G:W->Hx->Prop}(S:zF K φ A H)(r:RE K φ H c σ)(h:(m c A).post G (EB K φ H xr))
  (k:∀w A1,G w A1->∃b,w=.bl b/\∀a d,Le K φ H a d->zF K a A1 d->Q b d):tT K xr m σ H Q:=
 ⟨φ,A,c,S,r,qo h (λw A1 g=>k w A1 g) λ_ _ z=>z⟩
noncomputable def qf (i:Nat):Ev:=λa A=>match a[i]? with
 |some (some w)=>.ok w A|_=>.bad
noncomputable def zZ (w:W):Ev:=λ_ A=>.ok w A
noncomputable def zi (g:W->W->Hx->R W)(a b:Ev):Ev:=λc A=>(a c A).bind λx e=>(b c e).bind λy d=>g x y d
noncomputable def qE (g:W->Hx->R W)(a:Ev):Ev:=λb A=>(a b A).bind λx c=>g x c
noncomputable abbrev gx:Str->Hx->Prop:=λ_ _=>False
def jZ (K:Frag)(r:R2)(g:W->W->Hx->R W):Prop:=∀a A H x y u v Q,zF K a A H->RV K a H u x->RV K a H v y->(g u v A).post (PB K a H Q) gx->r x y H Q
def YH (K:Frag)(r:V->Hp->VK->Prop)(g:W->Hx->R W):Prop:=∀a A H x u Q,zF K a A H->RV K a H u x->(g u A).post (PB K a H Q) gx->r x H Q
def qB (r:R α):Prop:=∀x A,r≠.exc x A
def Jd {r:R α}{P:α->Hx->Prop}{E:Str->Hx->Prop}(n:qB r)(h:r.post P E):r.post P gx:=by
 cases r with
 |ok a A=>exact h|exc x A=>exact absurd rfl (n x A)|bad=>exact h
def zi.read {g:W->W->Hx->R W}{r:R2}(p:∀x y A,qB (g x y A))(e:jZ X.K r g):∀σ H Q,tM X.K xr (zi g ma mb) σ H Q->YC r (tM X.K xr ma) (tM X.K xr mb) σ H Q:=by
 rintro σ H Q ⟨B,A,C,S,n,h⟩
 refine tM.go S n (zT.mp h) λw E b D v t l i d=>?_;refine tM.go i (n.mono l) (qo (zT.mp t) (λ_ _ z=>z) λ_ _ z=>z.mono l) λc u a j o f L s q=>?_;exact e a u j v o w c Q s (d.mono L) q (qo (Jd (p _ _ _) f) (λ_ _ z=>z.mono (l.trans L)) λ_ _ z=>z)
def qE.read {g:W->Hx->R W}{r:V->Hp->VK->Prop}(n:∀x A,qB (g x A))(b:YH X.K r g):∀σ H Q,tM X.K xr (qE g ma) σ H Q->NN r (tM X.K xr ma) σ H Q:=by
 rintro σ H Q ⟨i,A,j,S,e,h⟩
 refine tM.go S e (zT.mp h) λw f a d v c l s q=>?_;exact b a f d v w Q s q (qo (Jd (n _ _) c) (λ_ _ z=>z.mono l) λ_ _ z=>z)
def Qz {o:Operator}{r:R2}{g:W->W->Hx->R W}(h:qL X (binaryOp o) r)(n:∀x y A,qB (g x y A))(H:jZ X.K r g)(d:SE X xr a ma)(c:SE X xr b mb):SE X xr (.BinOp a o b pos) (zi g ma mb):=
 PE.imp (dk h d c) (zi.read n H)
def ew {o:UnaryOp}{r:V->Hp->VK->Prop}{g:W->Hx->R W}(h:WR X (unaryOp o) r)(n:∀x A,qB (g x A))(H:YH X.K r g)(b:SE X xr a ma):SE X xr (.UnaryOp o a pos) (qE g ma):=
 PE.imp (dm h b) (qE.read n H)
def Ov {r:R2}{g:W->W->Hx->R W}(h:qL X (compareOp op) r)(n:∀x y A,qB (g x y A))(H:jZ X.K r g)(d:SE X xr a ma)(c:SE X xr b mb)(e:behindInMarks op b=false):SE X xr (.Compare a [op] [b] pos) (zi g ma mb):=
 PE.imp (BY h d c e) (zi.read n H)
def tT.toM {K:Frag}{Q:Bool->Hp->Prop}(h:tT K xr m σ H Q):tM K xr m σ H λx d=>∃k,x=.bl k/\Q k d:=by
 obtain⟨g,A,i,S,r,h⟩:=h;refine tM.go S r h λw j a f v ⟨b,e,q⟩ l s c=>?_;subst e;exact⟨b,c,q a f l s⟩
def OE {r:R2}{g:W->W->Hx->R W}(o:qL X (compareOp op) r)(n:∀x y A,qB (g x y A))(c:jZ X.K r g)(e:SE X xr a ma)(d:SE X xr b mb)(i:behindInMarks op b=false):ST X xr (.Compare a [op] [b] pos) (zi g ma mb):=
 PT.imp (dD o e d i) λf H Q h=>zi.read n c f H _ h.toM
noncomputable def yt (g h:W->W->Hx->R W)(a b c:Ev):Ev:=λf A=>(a f A).bind λx j=>(b f j).bind λy i=>(g x y i).bind λz d=>match z with
 |.bl true=>(c f d).bind λw e=>h y w e|.bl false=>.ok (.bl false) d|_=>.bad
def yt.read {g g':W->W->Hx->R W}{r i:R2}(hn:∀x y A,qB (g x y A))(T:jZ X.K r g)(n:∀x y A,qB (g' x y A))(o:jZ X.K i g'):
  ∀σ H Q,tM X.K xr (yt g g' ma mb mc) σ H Q->XA r i (tM X.K xr ma) (tM X.K xr mb) (tM X.K xr mc) σ H Q:=by
 rintro σ H Q ⟨φ,A,ρ,S,re,h⟩
 refine tM.go S re (zT.mp h) λw A1 E H1 v h1 L S1 P=>?_;refine tM.go S1 (re.mono L) (qo (zT.mp h1) (λ_ _ z=>z) λ_ _ z=>z.mono L) λf A2 b D v2 Y B S2 s=>?_;have j:=L.trans B;have p:=zT.mp Y;have a:(g w f A2).post (PB X.K b D λz c=>∃k,z=.bl k/\if k=true then tM X.K xr mc σ c λJ q=>i v2 J q Q else Q (.bl false) c) gx:=by
  refine qo (Jd (hn _ _ _) p) (λz A3 a e c zv u C N=>?_) λ_ _ z=>z;have l:=j.trans u;cases z with
  |bl k=>
   refine⟨k,N,?_⟩;cases k with
   |true=>
    rw[ah rfl];refine tM.go C (re.mono l) (qo (zT.mp a) (λ_ _ z=>z) λ_ _ z=>z.mono l) λI A4 d q v4 U t Z M=>?_;exact o d A4 q v2 v4 f I Q Z ((s.mono u).mono t) M (qo (Jd (n _ _ _) U) (λ_ _ z=>z.mono (l.trans t)) λ_ _ z=>z)
   |false=>
    rw[ai aA];exact a e c _ l C rfl
  |non=>cases a|int _=>cases a|str _=>cases a|tup _=>cases a|ref _=>cases a|clo _ _ _=>cases a|xc _=>cases a|fn _=>cases a
 exact T b A2 D v v2 w f _ S2 (P.mono B) s a
def DM {c:Expr}{o:CmpOp}{r e:R2}{g p:W->W->Hx->R W}(f:qL X (compareOp op) r)(q:∀x y A,qB (g x y A))(i:jZ X.K r g)(h:qL X (compareOp o) e)(H:∀x y A,qB (p x y A))(d:jZ X.K e p)
  (n:SE X xr a ma)(l:SE X xr b mb)(j:SE X xr c mc)(s:lastMarks [op,o] [b,c]=false:=by with_unfolding_all rfl):SE X xr (.Compare a [op,o] [b,c] pos) (yt g p ma mb mc):=
 PE.imp (Dc f h n l j s) (yt.read q i H d)
def CN {c:Expr}{o:CmpOp}{r i:R2}{g s:W->W->Hx->R W}(j:qL X (compareOp op) r)(u:∀x y A,qB (g x y A))(l:jZ X.K r g)(d:qL X (compareOp o) i)(e:∀x y A,qB (s x y A))(f:jZ X.K i s)
  (q:SE X xr a ma)(p:SE X xr b mb)(n:SE X xr c mc)(v:lastMarks [op,o] [b,c]=false:=by with_unfolding_all rfl):ST X xr (.Compare a [op,o] [b,c] pos) (yt g s ma mb mc):=
 PT.imp (Dy j d q p n v) λt H Q h=>yt.read u l e f t H _ h.toM
noncomputable def jz (a b:Ev):Ev:=λc A=>(a c A).bind λx d=>match x with
 |.bl true=>b c d|.bl false=>.ok (.bl false) d|_=>.bad
noncomputable def yH (a b:Ev):Ev:=λc A=>(a c A).bind λx d=>match x with
 |.bl true=>.ok (.bl true) d|.bl false=>b c d|_=>.bad
noncomputable def qW (a:Ev):Ev:=λb A=>(a b A).bind λx c=>match x with
 |.bl k=>.ok (.bl (!k)) c|_=>.bad
noncomputable def NJ (c a b:Ev):Ev:=λd A=>(c d A).bind λx e=>match x with
 |.bl true=>a d e|.bl false=>b d e|_=>.bad
theorem tT.mono {K:Frag}{c:bT}{g:Hp}{i:Hx}{f:En}{Q:Bool->Hp->Prop}(S:zF K c i g)(L:Le K φ H c g)(r:RE K φ H f σ)
  (h:(m f i).post (λw A=>∃b,w=.bl b/\∀a d,Le K φ H a d->zF K a A d->Q b d) (EB K φ H xr)):tT K xr m σ g Q:=
 ⟨c,i,f,S,r.mono L,qo h (λw A ⟨b,e,q⟩=>⟨b,e,λa d l s=>q a d (L.trans l) s⟩) λ_ _ z=>z.mono L⟩
noncomputable def zh:Ea:=λ_ A=>.ok [] A
noncomputable def zc (a:Ev)(r:Ea):Ea:=λb A=>(a b A).bind λx d=>(r b d).bind λX c=>.ok (x::X) c
def PX:SA X xr [] zh:=PA.imp jB λb H Q ⟨a,A,c,S,r,h⟩=>h a H [] .refl S .nil
def Pq {M:Ea}(d:SE X xr e ma)(r:SA X xr es M)(s:starEach (e::es) X.env=(false,eval e X.env)::starEach es X.env:=by rfl):SA X xr (e::es) (zc ma M):=
 PA.imp (qU d r s) λu H Q ⟨t,A,x,S,o,h⟩=>by
  refine tM.go S o (zT.mp h) λw D b B v p l i c=>?_;refine WH.go i (o.mono l) (qo (zT.mp p) (λ_ _ z=>z) λ_ _ z=>z.mono l) λn C a j y f L g q=>?_;exact f a j _ (l.trans L) g (.cons (c.mono L) q)
noncomputable def zy (a:Ea):Ev:=λb A=>(a b A).bind λx c=>.ok (.tup x) c
noncomputable def zJ (a:Ea):Ev:=λc A=>(a c A).bind λx b=>.ok (.ref b.length) (b++[.lst x])
def ZV {K:Frag}{A:Hx}{p:Addr}{w:List W}{v:List V}(S:zF K φ A H)(h:H p=none)(r:zr K φ H w v):
  Le K φ H φ (upd H p (.tup v))/\zF K φ A (upd H p (.tup v))/\RV K φ (upd H p (.tup v)) (.tup w) (.ref p):=
 ⟨Le.new h,S.lay h,p,v,rfl,qp.of ji,r.mono (Le.new h)⟩
def w8 {K:Frag}{A:Hx}{p:Addr}{w:List W}{v:List V}(S:zF K φ A H)(h:H p=none)(r:zr K φ H w v):
  Le K φ H (φ++[p]) (upd H p (.lst v))/\zF K (φ++[p]) (A++[.lst w]) (upd H p (.lst v))/\RV K (φ++[p]) (upd H p (.lst v)) (.ref A.length) (.ref p):=by
 have l:Le K φ H (φ++[p]) (upd H p (.lst v)):=Le.alloc h;obtain⟨b,a⟩:=S.alloc (o:=.lst w) h ⟨v,ji,r.mono l⟩;exact⟨b,a,p,rfl,by rw[<- S.len];simp⟩
def ez {M:Ea}(h:SA X xr es M)(d:∀ρ A ws a,M ρ A=.ok ws a->ws.length<=sizeLine):SE X xr (.List es pos) (zJ M):=
 PE.imp (dG h) λo H Q ⟨i,A,ρ,S,r,h⟩=>by
  have g:=zT.mp h;cases e:M ρ A with
  |ok ws a=>
   rw[e]at g;refine⟨i,A,ρ,S,r,?_⟩;rw[e];intro b t v l s q;refine⟨by rw[<- q.length];exact d ρ A ws a e,λp c=>?_⟩
   obtain⟨n,j,f⟩:=w8 s c q;exact g _ _ _ (l.trans n) j f
  |exc x a=>rw[e]at g;refine⟨i,A,ρ,S,r,?_⟩;rw[e];exact g|bad=>rw[e]at g;exact g.elim
end
inductive Fl where
 |nx (ρ:En)|rt (w:W)|bk (ρ:En)|ct (ρ:En)
abbrev Ex:=En->Hx->R Fl
def FB (K:Frag)(d:bT)(H:Hp)(D:Ends):Fl->Hx->Prop
 |.nx c,A=>∀a h b,Le K d H a h->zF K a A h->RE K a h c b->D.nx b h|.rt w,A=>∀a h v,Le K d H a h->zF K a A h->RV K a h w v->D.rt v h|.bk c,A=>∀a h b,Le K d H a h->zF K a A h->RE K a h c b->D.bk b h|.ct c,A=>∀a h b,Le K d H a h->zF K a A h->RE K a h c b->D.ct b h
def FB.mono {K:Frag}{c:bT}{e:Hp}{D:Ends}{fl:Fl}{A:Hx}(h:FB K φ H D fl A)(l:Le K φ H c e):FB K c e D fl A:=by
 cases fl with
 |nx d=>exactλa b v L=>h a b v (l.trans L)|rt d=>exactλa b v L=>h a b v (l.trans L)|bk d=>exactλa b v L=>h a b v (l.trans L)|ct d=>exactλa b v L=>h a b v (l.trans L)
inductive MS (K:Frag)(xr:XR)(m:Ex)(D:Ends)(σ:St)(H:Hp):Prop
 |mk (φ:bT) (A:Hx) (ρ:En) (S:zF K φ A H) (re:RE K φ H ρ σ) (h:(m ρ A).post (FB K φ H D) (EB K φ H xr))
def tS (K:Frag)(x:XR)(m:Ex):TS:=λD a H=>MS K x m D a H
def SS (X:Cx)(x:XR)(s:Stmt)(m:Ex):Prop:=PS X s (tS X.K x m)
def JE (X:Cx)(x:XR)(s:cg)(m:Ex):Prop:=yo X s (tS X.K x m)
section
variable {xr:XR}{a b c:Expr}{st:Stmt}{lI:cg}{m:Ev}{m1 m2:Ex}
def PS.imp {t T:TS}(h:PS X st t)(i:∀D σ H,T D σ H->t D σ H):PS X st T:=λp s σ H D I w=>h p s σ H D I (i D σ H w)
def yo.imp {t T:TS}(h:yo X lI t)(i:∀D σ H,T D σ H->t D σ H):yo X lI T:=λp s σ H D I w=>h p s σ H D I (i D σ H w)
noncomputable def zx:Ex:=λa A=>.ok (.nx a) A
noncomputable def zo (d M:Ex):Ex:=λc A=>(d c A).bind λfl b=>match fl with
 |.nx a=>M a b|f=>.ok f b
noncomputable def kH (m:Ev):Ex:=λa A=>(m a A).bind λ_ b=>.ok (.nx a) b
noncomputable def qv (m:Ev):Ex:=λa A=>(m a A).bind λw b=>.ok (.rt w) b
noncomputable def qu (c:Ev)(a b:Ex):Ex:=λd A=>(c d A).bind λx e=>match x with
 |.bl true=>a d e|.bl false=>b d e|_=>.bad
noncomputable def zV (i:Nat)(m:Ev):Ex:=λa A=>(m a A).bind λw b=>.ok (.nx (a.set i (some w))) b
def zV.read:∀D σ H,tS X.K xr (zV i m) D σ H->Ws (tM X.K xr m) (Wl i) D σ H:=by
 rintro D σ H ⟨d,A,e,S,r,h⟩
 exact tM.go S r (zT.mp h) λw f a c v b l s q=>b a c _ l s ((r.mono l).set q)
noncomputable def yd (g:W->W->W->Hx->R Unit)(e M d:Ev):Ex:=λc A=>(e c A).bind λv h=>(M c h).bind λo f=>(d c f).bind λi b=>(g o i v b).bind λ_ a=>.ok (.nx c) a
def Yk (K:Frag)(t:Z9)(g:W->W->W->Hx->R Unit):Prop:=∀d A H o i v w b e Q,zF K d A H->RV K d H w o->RV K d H b i->RV K d H e v->
 (g w b e A).post (λ_ c=>∀a h,Le K d H a h->zF K a c h->Q h) gx->t o i v H Q
def Rj {o i:Expr}{mo mi:Ev}{t:Z9}{g:W->W->W->Hx->R Unit}(M:Yo X t)(hn:∀o i v A,qB (g o i v A))(T:Yk X.K t g)(he:SE X xr e m)(P:SE X xr o mo)(hi:SE X xr i mi)
  (N:swapsWithSole [.Subscript o i l7] e pos.line X.env=pure false:=by rfl)(hw:swappedStores [.Subscript o i l7] e X.env=pure none:=by rfl)
  (h1:(assignEach [.Subscript o i l7] X.env).map (·.2)=[assign (.Subscript o i l7) X.env]:=by rfl)
  (U:∀v,assign (.Subscript o i l7) X.env v=(do
   let ov <- holding [v] (eval o X.env)
   let iv <- holding [v,ov] (eval i X.env)
   standAt l7
   holding [v,ov,iv] (setItem ov iv v)
   release [v,ov,iv] []):=by intro _;rfl):SS X xr (.Assign [.Subscript o i l7] e pos) (yd g m mo mi):=
 PS.imp (X3 he (XU P hi M U) N hw h1) λD σ H ⟨φ,A,ρ,S,re,h⟩=>by
  refine tM.go S re (zT.mp h) λn A1 C H1 v1 h1 f S1 J=>?_;refine tM.go S1 (re.mono f) (qo (zT.mp h1) (λ_ _ z=>z) λ_ _ z=>z.mono f) λj A2 B H2 v2 Y q S2 I=>?_;have l:=f.trans q;refine tM.go S2 (re.mono l) (qo (zT.mp Y) (λ_ _ z=>z) λ_ _ z=>z.mono l) λw y c H3 E a d S3 Q=>?_;have L:=l.trans d;refine T c y H3 v2 E v1 j w n _ S3 (I.mono d) Q (J.mono (q.trans d)) ?_;cases r:g j w n y with
  |ok u s=>
   rw[r]at a;exactλb H4 p Z=>a b H4 σ (L.trans p) Z (re.mono (L.trans p))
  |exc x s=>exact absurd r (hn _ _ _ _ x s)|bad=>rw[r]at a;exact a.elim
structure jo where
 at_:Hx->Nat->Option (Option W)
 len:Nat
def Qe (K:Frag)(c:bT)(H:Hp)(j:jo)(J:It):Prop:=∀i a h A,Zy K c H a h->zF K a A h->
 (∀w,j.at_ A i=some (some w)->J.go i h/\∀x b,J.yld i h x b->Le K a h a b/\zF K a A b/\RV K a b w x)/\(j.at_ A i=some none->J.stop i h)
abbrev Ei:=En->Hx->R jo
inductive MI (K:Frag)(xr:XR)(mi:Ei)(σ:St)(H:Hp)(Rr:It->Hp->Prop):Prop
 |mk (φ:bT) (A:Hx) (ρ:En) (S:zF K φ A H) (re:RE K φ H ρ σ) (h:(mi ρ A).post (λj A1=>∀lH H1 J,Le K φ H lH H1->zF K lH A1 H1->Qe K lH H1 j J->Rr J H1) (EB K φ H xr))
def tI (K:Frag)(x:XR)(M:Ei):TI:=λa H r=>MI K x M a H r
def SI (X:Cx)(x:XR)(t i:Expr)(M:Ei):Prop:=PI X t i (tI X.K x M)
def PI.imp {t T:TI}(h:PI X tg e t)(i:∀σ H Q,T σ H Q->t σ H Q):PI X tg e T:=λp s σ H Q I w=>h p s σ H Q I (i σ H Q w)
abbrev Tg:=W->En->Option En
inductive MG (K:Frag)(tw:Tg)(v:V)(σ:St)(H:Hp)(Q:St->Hp->Prop):Prop
 |mk (φ:bT) (A:Hx) (ρ:En) (w:W) (ρ':En) (S:zF K φ A H) (re:RE K φ H ρ σ) (rv:RV K φ H w v) (t:tw w ρ=some ρ') (q:∀σ',RE K φ H ρ' σ'->Q σ' H)
def tG (K:Frag)(t:Tg):TG:=λv a H Q=>MG K t v a H Q
def SG (X:Cx)(t:Expr)(T:Tg):Prop:=PG X t (tG X.K T)
def PG.imp {t T:TG}(h:PG X tg t)(i:∀v σ H Q,T v σ H Q->t v σ H Q):PG X tg T:=λp s σ H v u Q I r w=>h p s σ H v u Q I r (i v σ H Q w)
noncomputable def zC (i:Nat):Tg:=λw a=>some (a.set i (some w))
noncomputable def yL (i j:Nat):Tg:=λw a=>match w with
 |.tup [x,y]=>some ((a.set i (some x)).set j (some y))|_=>none
noncomputable def ye (j:jo)(s:W->Ex):Nat->Nat->Ex
 |0,i,ρ,A=>match j.at_ A i with
  |some none=>.ok (.nx ρ) A|_=>.bad
 |f+1,i,ρ,A=>match j.at_ A i with
  |some none=>.ok (.nx ρ) A|some (some w)=>(s w ρ A).bind λfl b=>match fl with
   |.nx a=>ye j s f (i+1) a b|.ct a=>ye j s f (i+1) a b|.bk a=>.ok (.nx a) b|.rt w=>.ok (.rt w) b
  |none=>.bad
noncomputable def turn (t:Tg)(b:Ex)(w:W):Ex:=λc A=>match t w c with
 |some a=>b a A|none=>.bad
def jR (M:Ei)(t:Tg)(b:Ex):Ex:=λa A=>(M a A).bind λj c=>ye j (turn t b) j.len 0 a c
inductive NS (K:Frag)(xr:XR)(j:jo)(t:W->Ex)(D:Ends)(lH:bT)(H1:Hp)(f i:Nat)(σ':St)(H':Hp):Prop
 |mk (φ2:bT) (A2:Hx) (ρ2:En) (l:Le K lH H1 φ2 H') (S:zF K φ2 A2 H') (re:RE K φ2 H' ρ2 σ') (h:(ye j t f i ρ2 A2).post (FB K φ2 H' D) (EB K φ2 H' xr))
noncomputable def Zw (c:Ev)(b:Ex):Nat->Ex
 |0,ρ,A=>.bad|f+1,ρ,A=>(c ρ A).bind λx e=>match x with
  |.bl true=>(b ρ e).bind λfl d=>match fl with
   |.nx a=>Zw c b f a d|.ct a=>Zw c b f a d|.bk a=>.ok (.nx a) d|.rt w=>.ok (.rt w) d
  |.bl false=>.ok (.nx ρ) e|_=>.bad
def XQ (f:Nat)(c:Ev)(b:Ex):Ex:=Zw c b f
noncomputable def QI (n:Nat)(c:bV)(a:En):En:=List.replicate n none++c.map λi=>(a[i]?).join
theorem RE.gT {K:Frag}{d:En}{n:Nat}(r:RE K φ H d σ):RE K φ H (QI n cap d) (L2.gT n cap σ):=by
 refine⟨by simp[QI,L2.gT],λi w e=>?_⟩
 unfold QI at e;unfold L2.gT
 by_cases f:i<n
 ·rw[au (by simpa using f),a7]at e
  split at e<;>cases e
 ·rw[ay (by simpa using f),aT,ax]at e
  rw[ay (by simpa using f),aT,ax]
  cases c:cap[i-n]? with
  |none=>rw[c]at e;cases e|some k=>
   rw[c]at e;have E:(d[k]?).join=some w:=aB e;cases h:d[k]? with
   |none=>rw[h]at E;cases E|some o=>cases o with
    |none=>rw[h]at E;cases E|some b=>
     rw[h]at E;cases E;obtain⟨v,g,a⟩:=r.get k w h;exact⟨v,by simp[g],a⟩
abbrev Em:=En->List W->Hx->R (En×List W)
noncomputable def zR:Nat:=100000
def zK (e:Ev):Em:=λb a A=>(e b A).bind λy c=>if a.length<zR then .ok (b,a++[y]) c else .bad
noncomputable def qZ (j:jo)(t:Tg)(I:Ev)(e:Em):Nat->Nat->Em
 |0,i,ρ,acc,A=>match j.at_ A i with
  |some none=>.ok (ρ,acc) A|_=>.bad
 |f+1,i,ρ,acc,A=>match j.at_ A i with
  |some none=>.ok (ρ,acc) A|some (some w)=>match t w ρ with
   |some a=>(I a A).bind λc b=>match c with
    |.bl true=>(e a acc b).bind λp d=>qZ j t I e f (i+1) p.1 p.2 d|.bl false=>qZ j t I e f (i+1) a acc b|_=>.bad
   |none=>.bad
  |none=>.bad
def Z4 (M:Ei)(t:Tg)(i:Ev)(e:Em):Em:=λb a A=>(M b A).bind λj c=>qZ j t i e j.len 0 b a c
abbrev jO:=En->Hx->R (List W)
def zN (n:Nat)(c:bV)(M:Ei)(t:Tg)(i:Ev)(e:Em):jO:=λa A=>(M a A).bind λj d=>(qZ j t i e j.len 0 (QI n c a) [] d).nox.bind λp b=>.ok p.2 b
def VS (K:Frag)(D:Addr)(c:bT)(H:Hp)(Q:St->Hp->Prop)(p:En×List W)(A:Hx):Prop:=∀a h b z,yA K D c H a h->(∀k:Nat,a[k]?≠some D)->zF K a A h->RE K a h p.1 b->h D=some (.lst z)->zr K a h p.2 z->Q b h
inductive ME (K:Frag)(em:Em)(D:Addr)(σ:St)(H:Hp)(Q:St->Hp->Prop):Prop
 |mk (φ:bT) (A:Hx) (ρ:En) (acc:List W) (ys:List V) (S:zF K φ A H) (re:RE K φ H ρ σ) (hD:H D=some (.lst ys)) (nD:∀k:Nat,φ[k]?≠some D) (rv:zr K φ H acc ys)
  (h:(em ρ acc A).post (VS K D φ H Q) gx)
def tE (K:Frag)(e:Em):wc:=λD a H Q=>ME K e D a H Q
noncomputable abbrev yi:XR:=λ_ _=>False
def SM (X:Cx)(e:Expr)(g:List Comprehension)(s:Scope)(c:Pos)(d:Nat)(E:Em):Prop:=kQ X e g s c d (tE X.K E)
def kQ.imp {e:Expr}{d:Nat}{t T:wc}(h:kQ X e gens sc pos d t)(i:∀D σ H Q,T D σ H Q->t D σ H Q):kQ X e gens sc pos d T:=
 λp s σ H D Q k q E I w a=>h p s σ H D Q k q E I (i D σ H Q w) a
def G2 {K:Frag}{r:R α}{P:α->Hx->Prop}(h:r.post P gx):r.post P (EB K φ H yi):=qo h (λ_ _ z=>z) λ_ _ z=>z.elim
def YE (X:Cx)(i:bY)(m:Ev):Prop:=Zv X i (tT X.K yi m)
inductive NM (tw:Tg)(ifs:Ev)(em:Em)(j:jo)(K:Frag)(D:Addr)(φ:bT)(H:Hp)(Q:St->Hp->Prop)(f i:Nat)(σ':St)(H':Hp):Prop
 |mk (φ2:bT) (A2:Hx) (ρ2:En) (acc2:List W) (ys2:List V) (l:yA K D φ H φ2 H') (S:zF K φ2 A2 H') (re:RE K φ2 H' ρ2 σ') (hD:H' D=some (.lst ys2)) (nD:∀k:Nat,φ2[k]?≠some D) (ra:zr K φ2 H' acc2 ys2) (h:(qZ j tw ifs em f i ρ2 acc2 A2).post (VS K D φ H Q) gx)
def qZ.read {tw:Tg}{ifs:Ev}{em:Em}{j:jo}{J:It}{K:Frag}{A:Hx}{ρ:En}{acc:List W}{Q:St->Hp->Prop}{f:Nat}
  (jr:Qe K φ H j J)
  (S:zF K φ A H)(re:RE K φ H ρ σ)(hD:H D=some (.lst ys))(nD:∀k:Nat,φ[k]?≠some D)(ra:zr K φ H acc ys)
  (h:(qZ j tw ifs em f 0 ρ acc A).post (VS K D φ H Q) gx):
  Yl J (tG K tw) (tT K yi ifs) (tE K em) D σ H Q:=by
 refine⟨λi f d P=>NM tw ifs em j K D φ H Q f i d P,
  ⟨f,φ,A,ρ,acc,ys,.refl,S,re,hD,nD,ra,h⟩,?_⟩
 rintro i f U H2 ⟨g,A2,s,e,Y,B,S2,t,M,u,n,a⟩
 obtain⟨j1,j2⟩:=jr i g H2 A2 ⟨B.ex,B.tp,B.fz⟩ S2;cases E:j.at_ A2 i with
 |none=>cases f<;>(unfold qZ at a;rw[E]at a;exact a.elim)|some o=>
  cases o with
  |none=>
   left
   refine⟨j2 E,?_⟩;cases f<;>(unfold qZ at a;rw[E]at a;exact a g H2 U Y B u S2 t M n)
  |some w=>
   right
   obtain⟨go,yl⟩:=j1 w E;cases f with
   |zero=>unfold qZ at a;rw[E]at a;exact a.elim|succ f=>
    unfold qZ at a;rw[E]at a;refine⟨go,λd P=>NM tw ifs em j K D φ H Q f (i+1) d P,λd P z=>⟨f,bo _,z⟩,λx H3 y=>?_⟩;obtain⟨v,S3,q3⟩:=yl x H3 y;obtain⟨hD3,Z⟩:=v.off M u;dsimp only at a;cases et:tw w s with
    |none=>rw[et]at a;exact a.elim|some l=>
     rw[et]at a;refine⟨g,A2,s,w,l,S3,t.mono v,q3,et,λσ3 r=>?_⟩;refine tT.go S3 r (G2 (zT.mp a)) λc A4 b=>?_;cases c with
     |bl k=>
      refine⟨k,rfl,λq H4 L S4=>?_⟩;obtain⟨I,N⟩:=L.off hD3 Z;have C:=(B.trans (v.trans L).toD);cases k with
      |true=>
       rw[ah rfl];refine⟨q,A4,l,e,Y,S4,r.mono L,I,N,n.mono (v.trans L),qo (zT.mp b) (λp A5 h5 T H5 σ5 zs l5 n5 S5 X d5 r5=>?_) λ_ _ z=>z⟩;exact⟨T,A5,p.1,p.2,zs,C.trans l5,S5,X,d5,n5,r5,h5⟩
      |false=>
       rw[ai aA];exact⟨q,A4,l,e,Y,C,S4,r.mono L,I,N,n.mono (v.trans L),b⟩
     |non=>cases b|int _=>cases b|str _=>cases b|tup _=>cases b|ref _=>cases b|clo _ _ _=>cases b|xc _=>cases b|fn _=>cases b
def Qe.mono {K:Frag}{b:bT}{f:Hp}{j:jo}{J:It}(h:Qe K φ H j J)(l:Zy K φ H b f):Qe K b f j J:=
 λi c d A L=>h i c d A ⟨λn a e=>L.ex n a (l.ex n a e),λa v e=>L.tp a v (l.tp a v e),λa o u e=>L.fz a o u (l.fz a o u e)⟩
inductive MF (K:Frag)(xr:XR)(mq:jO)(σ:St)(H:Hp)(Q:VK):Prop
 |mk (φ:bT) (A:Hx) (ρ:En) (S:zF K φ A H) (re:RE K φ H ρ σ) (h:(mq ρ A).post (λws A1=>∀lH H1 D ys,Le K φ H lH H1->zF K lH A1 H1->H D=none->H1 D=some (.lst ys)->(∀k:Nat,lH[k]?≠some D)->zr K lH H1 ws ys->Q (.ref D) H1) (EB K φ H xr))
def tF (K:Frag)(x:XR)(M:jO):TE:=λa H Q=>MF K x M a H Q
def SF (X:Cx)(x:XR)(e:Expr)(M:jO):Prop:=PE X e (tF X.K x M)
theorem zN.read {I:Ei}{T:Tg}{M:Ev}{E:Em}{N:Nat}:∀σ H Q,tF X.K xr (zN N cap I T M E) σ H Q->Wi X.K (tI X.K xr I) (tG X.K T) (tT X.K yi M) (tE X.K E) N cap σ H Q:=by
 rintro σ H Q ⟨U,A,B,S,C,h⟩
 refine⟨U,A,B,S,C,qo (zT.mp h) (λj A1 Y b P J l s q D c t=>?_) λ_ _ z=>z⟩;have y:Le X.K b P b (upd P D (.lst [])):=Le.new c;have a:=zT.mp Y;refine qZ.read (q.mono ⟨y.ex,y.tp,y.fz⟩) (s.lay c) ((C.mono (l.trans y)).gT) ji (s.Vw c t) .nil ?_ (f:=j.len) (acc:=[]);cases e:qZ j T M E j.len 0 (QI N cap B) [] A1 with
 |ok p A2=>
  rw[e]at a;intro d w g Z o n v r u i;have L:=l.trans (Le.ofD c o);exact a d w D Z L v (l.st D c) u n i
 |exc x A2=>rw[e]at a;exact a.elim|bad=>rw[e]at a;exact a.elim
noncomputable def qj (q:jO):Ev:=λb A=>(q b A).bind λw a=>.ok (.ref a.length) (a++[.lst w])
def qj.read {q:jO}{K:Frag}:∀σ H Q,tM K xr (qj q) σ H Q->tF K xr q σ H Q:=by
 rintro σ H Q ⟨e,A,f,S,g,h⟩
 refine⟨e,A,f,S,g,qo (zT.mp h) (λw p i b d D y l s j c N r=>?_) λ_ _ z=>z⟩;have ll:Le K e H (b++[D]) d:=l.Jo j;have L:Zy K b d (b++[D]) d:=⟨λn a h=>by
  have:=(cu.mp h).1
  rw[au this];exact h,λ_ _ h=>h,λ_ _ _ h=>h⟩
 refine i _ _ _ ll (s.Jo (o:=.lst w) c N ⟨y,c,r.monoW L⟩) ⟨D,rfl,?_⟩;rw[<- s.len];simp
inductive MQ (K:Frag)(xr:XR)(mq:jO)(σ:St)(H:Hp)(Q:VK):Prop
 |mk (φ:bT) (A:Hx) (ρ:En) (S:zF K φ A H) (re:RE K φ H ρ σ) (h:(mq ρ A).post (λws A1=>∀lH H1 a ys,Le K φ H lH H1->zF K lH A1 H1->(qI K H1 a ys∨qp K H1 a ys)->zr K lH H1 ws ys->Q (.ref a) H1) (EB K φ H xr))
def tQ (K:Frag)(x:XR)(M:jO):TE:=λa H Q=>MQ K x M a H Q
def SQ (X:Cx)(x:XR)(e:Expr)(M:jO):Prop:=PE X e (tQ X.K x M)
noncomputable def zI (w:W)(A:Hx):Option (List W):=match w with
 |.tup s=>some s|.ref n=>match A[n]? with
  |some (.lst s)=>some s|some (.ro s)=>some s|_=>none
 |_=>none
def Y5 {K:Frag}{A:Hx}{w:W}{s:List W}(S:zF K φ A H)(q:RV K φ H w v)(e:zI w A=some s):∃a ys,v=.ref a/\(qI K H a ys∨qp K H a ys)/\zr K φ H s ys:=by
 unfold zI at e;cases w with
 |tup x=>cases e;obtain⟨a,ys,b,c,E⟩:=q;exact⟨a,ys,b,.inr c,E⟩|ref n=>
  obtain⟨a,b,c⟩:=q;dsimp only at e;cases ea:A[n]? with
  |none=>rw[ea]at e;cases e|some o=>
   rw[ea]at e;obtain⟨d,E,r⟩:=S.ob n o ea;rw[c]at E;cases E;cases o with
   |lst x=>cases e;obtain⟨ys,f,h⟩:=r;exact⟨a,ys,b,.inl (qI.of f),h⟩|ro x=>cases e;obtain⟨ys,f,h⟩:=r;exact⟨a,ys,b,.inl f.sq,h⟩|dct x=>cases e|td _=>cases e|tr _=>cases e|tab _ _=>cases e
 |non=>cases e|bl _=>cases e|clo _ _ _=>cases e|xc _=>cases e|fn _=>cases e|int _=>cases e|str _=>cases e
def zX (m:Ev):jO:=λb A=>(m b A).bind λw a=>match zI w a with
 |some s=>.ok s a|none=>.bad
def WA (w:W)(A:Hx):Option jo:=match zI w A with
 |some s=>some ⟨λA i=>(zI w A).map λs=>s[i]?,s.length⟩|none=>none
def z9 (m:Ev):Ei:=λb A=>(m b A).bind λw a=>match WA w a with
 |some j=>.ok j a|none=>.bad
def eA (K:Frag)(t:TE):TI:=λb H r=>t b H λx h=>∃a,x=.ref a/\(((∃X,qI K h a X)/\r (NG K a) h)∨((∃X,qp K h a X)/\r (NO K a) h))
def eB {l:Expr}{t:TE}(j:PE X l t):PI X tg l (eA X.K t):=by
 intro P s y H u I h;refine zQ (j P s y H _ I h) λv S ⟨x,w,i,g,Q⟩=>?_;obtain⟨a,e,q⟩:=Q;subst e;cases g;have f:∀b∈[S.heap.objs.size],kz X P w b:=λb n=>by
  have e:b=S.heap.objs.size:=by simpa using n
  subst e;exact i.fpOk (ar _) (i.hok.fresh (ar _))
 rcases q with ⟨⟨A,d⟩,q⟩|⟨⟨A,d⟩,q⟩
 ·obtain⟨c,r,p,z⟩:=i.list d
  refine wpAny_pyIter_list p.isList ?_;exact⟨S.heap.objs.size,[S.heap.objs.size],_,_,w,rfl,i.kept (t':=S.toks) λb o e=>af _ e,Fu a _,⟨_,aw _ rfl,rfl,rfl⟩,f,q⟩
 ·obtain⟨c,r,p,z⟩:=i.tuple d
  refine wpAny_pyIter_tuple (show S.heap.IsTuple a c.toArray from p) ?_
  exact⟨S.heap.objs.size,[S.heap.objs.size],_,_,w,rfl,i.kept (t':=S.toks) λb o e=>af _ e,HB a _,⟨_,aw _ rfl,rfl,rfl⟩,f,q⟩
noncomputable def yv (l:Int)(n:Nat):jo:=⟨λ_ i=>if i<n then some (some (.int (l+i))) else some none,n⟩
def Ox {K:Frag}{l:Int}:Qe K φ H (yv l n) (YG l n):=λi a h A L S=>by
 unfold yv;dsimp only
 by_cases c:i<n
 ·rw[ah c]
  refine⟨λw e=>?_,λe=>by cases e⟩
  cases e;exact⟨c,λx d ⟨b,E⟩=>by subst b;exact⟨.refl,S,E⟩⟩
 ·rw[ai c]
  exact⟨λw e=>(by cases e),λ_=>Nat.le_of_not_lt c⟩
noncomputable def jt (i:Int):Bool:=decide (-(2 ^ 62)<=i)&&decide (i<2 ^ 62)
def ZM {i:Int}(h:jt i=true):-(2 ^ 62)<=i/\i<2 ^ 62:=by
 unfold jt at h;rw[av,ao,ao]at h;exact h
def jm (m:Ev):Ei:=λa A=>(m a A).bind λw b=>match w with
 |.int j=>if jt j then .ok (yv 0 j.toNat) b else .bad|_=>.bad
def QF (m M:Ev):Ei:=λb A=>(m b A).bind λw d=>(M b d).bind λa c=>match w,a with
 |.int i,.int j=>if jt i&&jt j then .ok (yv i (j-i).toNat) c else .bad|_,_=>.bad
end
abbrev Fn:=List W->Hx->R W
def yC (K:Frag)(x:Str)(C:Value):Prop:=nsIn K mainGlobals x=some (some C)
def XE (K:Frag)(E:XK)(x:Str)(H:Hp):Prop:=∀C d,yC K x C->E C d H
inductive Za (K:Frag)(n:Nat)(f:Fn)(vs:List V)(H:Hp)(Q:VK)(E:XK):Prop
 |mk (len:vs.length=n) (φ:bT) (A:Hx) (ws:List W) (S:zF K φ A H) (r:zr K φ H ws vs) (q:(f ws A).post (PB K φ H Q) (EB K φ H (XE K E)))
def Za.len {K:Frag}{f:Fn}{v:List V}{Q:VK}{E:XK}(h:Za K n f v H Q E):v.length=n:=by cases h;assumption
inductive zU (P:Program)(w:World)(K:Frag)(mg:b8)(base:Heap)(k:Nat)(x:Str)(n:Nat)(f:Fn):Prop
 |mk (fa:Addr) (fd:FuncData) (ps:bW) (F:ym P w K mg base kJ k fa fd ps (Za K n f)) (at_:mg x=some (.ref fa)) (kp:keepIn K (.ref fa)=true) (bi:Binds K fd ps [])
noncomputable def zw (f:Fn)(a:Ea):Ev:=λb A=>(a b A).bind λw c=>f w c
section
variable {m ma:Ev}
def kP (m:Ea)(n:Nat):Prop:=∀b A w a,m b A=.ok w a->w.length=n
def ZW:kP zh 0:=λ_ _ _ _ h=>by unfold zh at h;cases h;rfl
def ZP {M:Ea}(h:kP M n):kP (zc ma M) (n+1):=λb A w a e=>by
 unfold zc at e;cases h1:ma b A with
 |ok x c=>
  rw[h1,zA]at e;cases H:M b c with
  |ok X d=>rw[H,zA]at e;cases e;simp[h b c X _ H]|exc x d=>rw[H]at e;cases e|bad=>rw[H]at e;cases e
 |exc x c=>rw[h1]at e;cases e|bad=>rw[h1]at e;cases e
end
noncomputable def qF (n:Nat)(m:Ex):Fn:=λs A=>(m (s.map some++List.replicate (n-s.length) none) A).nox.bind λfl a=>match fl with
 |.rt w=>.ok w a|.nx _=>.ok .non a|_=>.bad
theorem RE.start {K:Frag}{s:List W}{d:List V}(h:zr K φ H s d):RE K φ H (s.map some++List.replicate (N.length-s.length) none) (L2.start N d):=by
 unfold L2.start;refine⟨by simp[h.length],λi w e=>?_⟩
 by_cases c:i<s.length
 ·rw[au (by simpa using c),ax]at e
  cases hw:s[i]? with
  |none=>rw[hw]at e;cases e|some b=>
   rw[hw]at e;cases e;obtain⟨v,f,a⟩:=h.get hw;refine⟨v,?_,a⟩;rw[au (by rw[ag,<- h.length];exact c),ax,f];rfl
 ·rw[ay (by simpa using c),a7]at e
  split at e<;>cases e
section
variable {K:Frag}
theorem zU.mono {k:Nat}{f:Fn}(F:zU P w K mg base j x n f)(h:j<=k):zU P w K mg base k x n f:=by cases F with|mk d e p F a b c=>exact⟨d,e,p,F.mono h,a,b,c⟩
theorem zU.imp {k:Nat}{f g:Fn}(F:zU P w K mg base k x n f)(h:∀ws A,ws.length=n->g ws A=.bad∨f ws A=g ws A):zU P w K mg base k x n g:=by
 obtain⟨d,j,p,F,a,b,c⟩:=F;refine⟨d,j,p,F.imp λv H Q E ⟨l,i,A,ws,S,r,q⟩=>⟨l,i,A,ws,S,r,?_⟩,a,b,c⟩;rcases h ws A (by rw[r.length];exact l) with e|e
 ·rw[e]at q;exact q.elim
 ·rw[e];exact q
end
section
variable {K:Frag}
def jG {a:α}{A:Hx}:qB (R.ok a A):=λ_ _ h=>by cases h
def qD:qB (R.bad:R α):=λ_ _ h=>by cases h
def w6 {c:Prop} [Decidable c] {a b:R α}(H:qB a)(h:qB b):qB (if c then a else b):=by split<;>assumption
noncomputable def gu (f:Int->Int->W):W->W->Hx->R W
 |.int i,.int j,A=>.ok (f i j) A|_,_,_=>.bad
def Z6 {f:Int->Int->W}:∀x y A,qB (gu f x y A):=λx y A=>by
 unfold gu;split
 ·exact jG
 ·exact qD
noncomputable def ZC (c:Int->Int->Bool)(f:Int->Int->W):W->W->Hx->R W
 |.int i,.int j,A=>if c i j then .ok (f i j) A else .bad|_,_,_=>.bad
def Vl {c:Int->Int->Bool}{f:Int->Int->W}:∀x y A,qB (ZC c f x y A):=λx y A=>by
 unfold ZC;split
 ·exact w6 jG qD
 ·exact qD
def ZX {f:Int->Int->W}{g:Int->Int->V}(h:∀i j φ H,RV K φ H (f i j) (g i j)):jZ K (wQ g) (gu f):=λφ A H x y u v Q S a q p=>by
 cases u with
 |int i=>cases v with
  |int j=>obtain rfl:=a;obtain rfl:=q;exact⟨i,j,rfl,rfl,p φ H _ .refl S (h i j φ H)⟩|_=>exact p.elim
 |_=>exact p.elim
def Xw {c:Int->Int->Bool}{C:Int->Int->Prop}{f:Int->Int->W}{g:Int->Int->V}(d:∀i j,c i j=true->C i j)(h:∀i j φ H,RV K φ H (f i j) (g i j)):jZ K (rI C g) (ZC c f):=λφ A H x y u v Q S b q p=>by
 cases u with
 |int i=>cases v with
  |int j=>
   obtain rfl:=b;obtain rfl:=q;unfold ZC at p;dsimp only at p
   by_cases a:c i j=true
   ·rw[ah a]at p;exact⟨i,j,rfl,rfl,d i j a,p φ H _ .refl S (h i j φ H)⟩
   ·rw[ai a]at p;exact p.elim
  |_=>exact p.elim
 |_=>exact p.elim
noncomputable def Yv (i j:Int):Bool:=(decide (-(2 ^ 64)<i)&&decide (i<2 ^ 64)) || (decide (-(2 ^ 64)<j)&&decide (j<2 ^ 64))
noncomputable def Wu (_ j:Int):Bool:=decide (0<j)
def CP (i j:Int)(h:Yv i j=true):Ys i j:=by
 unfold Yv at h;simp only[bO,av,decide_eq_true_eq]at h;exact h
def Be (i j:Int)(h:Wu i j=true):(λ_ j=>0<j) i j:=by
 unfold Wu at h;simpa using h
def j5:=gu λi j=>.int (i-j)
def kr:=ZC Wu λi j=>.int (i%j)
def VD:=gu λi j=>.int (Builtin.bitXor i j)
def YB:=gu λi j=>.bl (decide (i<j))
def yW:=gu λi j=>.bl (decide (i<=j))
def V3:=gu λi j=>.bl (decide (j<i))
def V4:=gu λi j=>.bl (decide (j<=i))
noncomputable def VF (i j:Int):Bool:=decide (0<=j)&&decide (j<=1000000)&&decide (i.natAbs<2 ^ 64)
def Am (i j:Int)(h:VF i j=true):Nn i j:=by
 unfold VF at h;simp only[av,decide_eq_true_eq]at h;exact⟨h.1.1,h.1.2,h.2⟩
def Wv:=ZC VF λi j=>.int (i ^ j.toNat)
variable {a b c:Expr}
noncomputable def kO:W->Hx->R W
 |.int i,A=>.ok (.int (-i)) A|_,_=>.bad
structure kM (X:Cx)(op:CmpOp)(g:W->W->Hx->R W):Prop where
 ex:∃r:R2,qL X (compareOp op) r/\(∀x y A,qB (g x y A))/\jZ X.K r g
 mks:∀b,op≠.In->op≠.NotIn->behindInMarks op b=false
def Qy {r:R2}{g:W->W->Hx->R W}(a:qL X (compareOp op) r)(H:∀x y A,qB (g x y A))(h:jZ X.K r g):kM X op g:=⟨⟨r,a,H,h⟩,λb d c=>DF b d c⟩
def Nw:kM X .Lt YB:=Qy Na Z6 (ZX λ_ _ _ _=>rfl)
def Yy:kM X .LtE yW:=Qy dA Z6 (ZX λ_ _ _ _=>rfl)
def eC:kM X .Gt V3:=Qy dB Z6 (ZX λ_ _ _ _=>rfl)
def eD:kM X .GtE V4:=Qy dC Z6 (ZX λ_ _ _ _=>rfl)
end
inductive Ty where
 |non|bl|int|str|tup|lst|dct
 deriving DecidableEq
noncomputable def Ty.nm:Ty->String
 |.non => "NoneType" | .bl => "bool" | .int => "int" | .str => "str" | .tup => "tuple" | .lst => "list" | .dct => "dict"
noncomputable def q9 (w:W)(A:Hx):Option Ty:=match w with
 |.non=>some .non|.bl _=>some .bl|.int _=>some .int|.str _=>some .str|.tup _=>some .tup|.ref n=>match A[n]? with
  |some (.lst _)=>some .lst|some (.dct _)=>some .dct|_=>none
 |_=>none
noncomputable def yz (a b:Ty):Bool:=a==b || (a==.bl&&b==.int)
def KD {K:Frag}(a b:Ty):kitOne K (.type a.nm) (.type b.nm)=some (yz a b):=by
 cases a<;>cases b<;>rfl
section
variable {xr:XR}{K:Frag}{a c:Expr}{es:bY}{m:Ev}
def QW (K:Frag)(H:Hp)(x:V)(t:Ty):Prop:=kX K H x (.type t.nm)∨∃a X,x=.ref a/\qp K H a X/\t=.tup
def Rx {A:Hx}{w:W}{t:Ty}(S:zF K φ A H)(q:RV K φ H w v)(e:q9 w A=some t):QW K H v t:=by
 cases w with
 |non=>cases e;obtain rfl:=q;exact .inl .non|bl k=>cases e;obtain rfl:=q;exact .inl (.bl k)|clo _ _ _=>cases e|xc _=>cases e|fn _=>cases e|int k=>cases e;obtain rfl:=q;exact .inl (.int k)|str k=>cases e;obtain rfl:=q;exact .inl (.str k)|tup s=>cases e;obtain⟨a,d,rfl,h,_⟩:=q;exact .inr ⟨a,d,rfl,h,rfl⟩|ref n=>
  obtain⟨a,rfl,f⟩:=q;unfold q9 at e;dsimp only at e;cases E:A[n]? with
  |none=>rw[E]at e;cases e|some o=>
   rw[E]at e;obtain⟨c,b,r⟩:=S.ob n o E;rw[f]at b;cases b;cases o with
   |lst s=>cases e;obtain⟨d,z,_⟩:=r;exact .inl (.lst z)|dct s=>cases e;obtain⟨d,z,_⟩:=r;exact .inl (.dK z)|td _=>cases e|tr _=>cases e|tab _ _=>cases e|ro s=>cases e
def QW.kit {x:V}{t:Ty}(I:Inv X l0 σ H s)(r:RelV x u)(h:QW X.K H x t):
  (∀{Q:bX}{E:bX}{A:Around}{c:Ty},(∀tk,Q (.bool (yz t c)) { s with toks:=tk })->wpAny (model X.prog X.w) A (call (.builtin "isinstance") [u,.type c.nm]) Q E s):=by
 intro Q E A c q;rcases h with h|⟨a,xs,rfl,h,rfl⟩
 ·exact SV I r h (KD t c) q
 ·cases (show u=Value.ref a from r)
  obtain⟨i,_,⟨o,d,b,_⟩,_⟩:=I.tuple h;exact bF kitx_tuple I.kIn ⟨o,d,b⟩ (KD .tup c) (λz=>nomatch z) q
def eE (K:Frag):List V->Hp->VK->Prop:=λX H Q=>∃x t c,X=[x,.ty (Ty.nm c)]/\QW K H x t/\Q (.bl (yz t c)) H
def eF:jH X (.builtin "isinstance") (eE X.K):=by
 intro p s e H f g Q I r h;obtain⟨x,t,c,rfl,d,q⟩:=h;obtain⟨u,U,rfl,b,a⟩:=vals2 r;cases (show U=Value.type c.nm from a)
 exact d.kit I b λT=>⟨.bl (yz t c),H,I.tok T,rfl,q⟩
def jN (t:Ty)(m:Ev):Ev:=λb A=>(m b A).bind λw a=>match q9 w a with
 |some T=>.ok (.bl (yz T t)) a|none=>.bad
def zH:W->W->Hx->R W:=λx y A=>match zI x A,y with
 |some s,.int i=>match kS s i with
  |some w=>.ok w A|none=>.bad
 |_,_=>.bad
def eG:∀x y A,qB (zH x y A):=λx y A=>by
 unfold zH;split
 ·split
  ·exact jG
  ·exact qD
 ·exact qD
def Dk {s:List W}{i:Int}{w:W}(r:zr K φ H s ys)(e:kS s i=some w):∃y,kS ys i=some y/\RV K φ H w y:=by
 unfold kS at e ⊢;rw[<- r.length];cases h:wR s.length i with
 |none=>rw[h]at e;cases e|some j=>
  rw[h]at e;obtain⟨y,b,a⟩:=r.get (i:=j) e;exact⟨y,b,a⟩
def eH:jZ K (NC K) zH:=λc A H x y u v Q S b q p=>by
 unfold zH at p;cases es:zI u A with
 |none=>rw[es]at p;exact p.elim|some f=>
  rw[es]at p;cases v with
  |int i=>
   obtain rfl:=q;dsimp only at p;cases e:kS f i with
   |none=>rw[e]at p;exact p.elim|some w=>
    rw[e]at p;obtain⟨a,s,rfl,z,r⟩:=Y5 S b es;obtain⟨Y,d,h⟩:=Dk r e;rcases z with z|z
    ·exact .inl ⟨a,s,i,Y,rfl,rfl,z,d,p c H _ .refl S h⟩
    ·exact .inr (.inl ⟨a,s,i,Y,rfl,rfl,z,d,p c H _ .refl S h⟩)
  |non=>exact p.elim|bl _=>exact p.elim|str _=>exact p.elim|tup _=>exact p.elim|ref _=>exact p.elim|clo _ _ _=>exact p.elim|xc _=>exact p.elim|fn _=>exact p.elim
def QU (K:Frag)(r:List V->Hp->VK->Prop)(g:List W->Hx->R W):Prop:=∀b A H a y w Q,zF K b A H->(qI K H a y∨qp K H a y)->zr K b H w y->(g w A).post (PB K b H Q) gx->r [.ref a] H Q
noncomputable def mQ (g:List W->Hx->R W)(q:jO):Ev:=λa A=>(q a A).bind λw b=>g w b
def mQ.read {g:List W->Hx->R W}{q:jO}(n:∀ws A,qB (g ws A))(c:QU X.K r g):∀σ H Q,tM X.K xr (mQ g q) σ H Q->WX r (Wh (tQ X.K xr q) VA) σ H Q:=by
 rintro σ H Q ⟨d,A,e,S,f,h⟩
 refine⟨d,A,e,S,f,qo (zT.mp h) (λws o i b j a y l s z r=>?_) λ_ _ z=>z⟩;exact c b o j a y ws Q s z r (qo (Jd (n _ _) i) (λ_ _ z=>z.mono l) λ_ _ z=>z)
def Vr {id:String}{g:List W->Hx->R W}{q:jO}(d:jH X (.builtin id) r)(n:∀ws A,qB (g ws A))(a:QU X.K r g)(j:X.mg x=none)(v:bootBuiltins x=some (.builtin id))(f:SQ X xr e q)(c:Gl X x:=by rfl)
  (H:x ≠ "__name__":=by decide)(b:(x==("__debug__":Str))=false:=by decide)(i:starEach [e] X.env=(false,eval e X.env)::starEach [] X.env:=by rfl)(h:(backTo pos (starEach [] X.env)).any (·.1)=false:=by rfl):
  SE X xr (.Call (.Name x p) [e] [] pos) (mQ g q):=PE.imp (wV d c j v (qU f jB i) H b i h) (mQ.read n a)
def eI {id:String}{g:List W->Hx->R W}{q:jO}(d:jH X (.type id) r)(n:∀ws A,qB (g ws A))(a:QU X.K r g)(j:X.mg x=none)(v:bootBuiltins x=some (.type id))(f:SQ X xr e q)(c:Gl X x:=by rfl)
  (H:x ≠ "__name__":=by decide)(b:(x==("__debug__":Str))=false:=by decide)(i:starEach [e] X.env=(false,eval e X.env)::starEach [] X.env:=by rfl)(h:(backTo pos (starEach [] X.env)).any (·.1)=false:=by rfl):
  SE X xr (.Call (.Name x p) [e] [] pos) (mQ g q):=PE.imp (Qo d c j v (qU f jB i) H b i h) (mQ.read n a)
noncomputable def qw:List W->Hx->R W:=λw A=>.ok (.int w.length) A
def AH:QU K (λxs H Q=>∃p ys,xs=[.ref p]/\(qI K H p ys∨qp K H p ys)/\Q (.int ys.length) H) qw:=λb A H a ys w Q S z r p=>
 ⟨a,ys,rfl,z,by rw[<- r.length];exact p b H _ .refl S rfl⟩
noncomputable def yg:List W->Hx->R W:=λw A=>.ok (.tup w) A
def AI:QU K (λxs H Q=>∃p ys,xs=[.ref p]/\((qI K H p ys/\∀l,H l=none->Q (.ref l) (upd H l (.tup ys)))∨(qp K H p ys/\Q (.ref p) H))) yg:=λc A H a ys w Q S z r p=>by
 refine⟨a,ys,rfl,?_⟩;rcases z with z|z
 ·refine .inl ⟨z,λl h=>?_⟩
  obtain⟨e,d,b⟩:=ZV S h r;exact p _ _ _ e d b
 ·exact .inr ⟨z,p c H _ .refl S ⟨a,ys,rfl,z,r⟩⟩
variable {b:Expr}
def RA {a:Addr}(I:Inv X l0 σ H s)(l:X.calm=true)(z:qI X.K H a ys∨qp X.K H a ys)
  (h:∀(c:bS)(j:Addr)(C B:bT)(S:Nat->Heap->Prop)(y:Shared),Vals ys c->ys.length<=sizeLine->Walks X.prog X.w X.A.in1 j C B c.length (λi v=>c[i]? =some v) S->S 0 y.heap->(∀b∈C,b<y.heap.objs.size)->
   (∀(x:Heap)(T:Nat),(∀b o,b∉B->y.heap.get? b=some o->x.get? b=some o)->Inv X l0 σ H { y with heap:=x,toks:=T })->Q (.ref j) y):
  wpAny (model X.prog X.w) X.A.in1 (pyIter (.ref a)) Q E s:=by
 have g:X.A.in1.handled=none:=I.ok.hd l;have keep:∀(o:Obj)(x:Heap)(T:Nat),(∀b u,b∉[s.heap.objs.size]->(s.heap.push o).get? b=some u->x.get? b=some u)->Inv X l0 σ H { s with heap:=x,toks:=T }:=λo x T k=>I.kept λb u e=>k b u (by
  intro D;have q:b=s.heap.objs.size:=by simpa using D
  exact absurd (q ▸ aG e) (aV _)) (af _ e)
 rcases z with z|z
 ·obtain⟨c,r,p,f⟩:=I.list z
  have t:a<s.heap.objs.size:=by obtain⟨o,n,e,_⟩:=p;exact aG e
  refine wpAny_pyIter_list p.isList ?_;have W:=Walks.list (prog:=X.prog) (w:=X.w) g s.heap.objs.size a (aJ t) c.toArray;rw[az]at W;simp only[List.getElem?_toArray]at W;refine h c s.heap.objs.size _ _ _ _ r f W ⟨⟨_,aw _ rfl,rfl,rfl⟩,p.isList.at λo e=>af _ e⟩ (λb d=>?_) λx T k=>keep _ x T k;show b<(s.heap.push _).objs.size;rw[bc];rcases cn.mp d with e|d
  ·rw[e];exact bo _
  ·have e:b=a:=by simpa using d
   rw[e];exact aZ t
 ·obtain⟨c,r,p,f⟩:=I.tuple z
  have t:a<s.heap.objs.size:=p.lt;have P:s.heap.IsTuple a c.toArray:=p;refine wpAny_pyIter_tuple P ?_;have W:=Walks.tuple (prog:=X.prog) (w:=X.w) g s.heap.objs.size a (aJ t) c.toArray;rw[az]at W;simp only[List.getElem?_toArray]at W;refine h c s.heap.objs.size _ _ _ _ r f W ⟨⟨_,aw _ rfl,rfl,rfl⟩,P.at λo e=>af _ e⟩ (λb d=>?_) λx T k=>keep _ x T k;show b<(s.heap.push _).objs.size;rw[bc];rcases cn.mp d with e|d
  ·rw[e];exact bo _
  ·have e:b=a:=by simpa using d
   rw[e];exact aZ t
noncomputable def Yp:V->Option Bool
 |.bl b=>some b|.int i=>some (i != 0)|.non=>some false|_=>none
noncomputable def Yn:W->Option Bool
 |.bl b=>some b|.int i=>some (i != 0)|.non=>some false|_=>none
def DD {w:W}{k:Bool}(q:RV K φ H w v)(e:Yn w=some k):Yp v=some k:=by
 cases w<;>first
  |(cases e;done)
  |(obtain rfl:=q;exact e)
def EE {A:Around}{k:Bool}{Q:Bool->Shared->Prop}(r:RelV v u)(e:Yp v=some k)(h:Q k s):wpAny (model X.prog X.w) A (truthy u) Q E s:=by
 cases v with
 |bl b=>cases e;cases r;exact wpAny_truthy_bool h|int i=>
  cases e;obtain⟨t,rfl⟩:=r;exact PySem.P.truthy_int h
 |non=>cases e;cases r;exactλ_ _ _=>h|_=>cases e
def w5:List W->Option (List Bool)
 |[]=>some []|w::ws=>match Yn w,w5 ws with
  |some k,some K=>some (k::K)|_,_=>none
theorem TB:∀{s:List W}{Y:List V}{g:List Bool},zr K φ H s Y->w5 s=some g->∀(i:Nat)(y:V),Y[i]? =some y->∃k,g[i]? =some k/\Yp y=some k
 |[],_,_,r,e,i,y,h=>by cases r;simp at h|w::s,_,g,⟨v,r,f,q,t⟩,e,i,y,h=>by
  subst f;unfold w5 at e;cases E:Yn w with
  |none=>rw[E]at e;cases e|some k=>
   cases a:w5 s with
   |none=>rw[E,a]at e;cases e|some b=>
    rw[E,a]at e;cases e;cases i with
    |zero=>simp at h;subst h;exact⟨k,by simp,DD q E⟩|succ i=>simp at h;obtain⟨c,j,d⟩:=TB t a i y h;exact⟨c,by simpa using j,d⟩
theorem TV:∀{s:List W}{b:List Bool},w5 s=some b->b.length=s.length
 |[],_,e=>by cases e;rfl|w::s,b,e=>by
  unfold w5 at e;cases a:Yn w with
  |none=>rw[a]at e;cases e|some k=>
   cases E:w5 s with
   |none=>rw[a,E]at e;cases e|some K=>rw[a,E]at e;cases e;simp[TV E]
def range_all (K:List Bool):(List.range K.length).all (λi=>K.getD i false)=K.all id:=by
 rw[Bool.eq_iff_iff,bz,bz]
 constructor
 ·intro h x a
  obtain⟨i,b,rfl⟩:=bw a
  have:=h i (cw.mpr b)
  rw[ae,aa b]at this;exact this
 ·intro h i b
  have H:=cw.mp b;rw[ae,aa H];exact h _ (aN H)
def Nk (K:Frag)(f:List Bool->Bool):List V->Hp->VK->Prop:=λx H Q=>∃a Y s,x=[.ref a]/\(qI K H a Y∨qp K H a Y)/\s.length=Y.length/\(∀(i:Nat)(y:V),Y[i]? =some y->∃k,s[i]? =some k/\Yp y=some k)/\Q (.bl (f s)) H
def CC {K:List Bool}{A:Around}(r:Vals ys l6)(l:K.length=ys.length)(t:∀(i:Nat)(y:V),ys[i]? =some y->∃k,K[i]? =some k/\Yp y=some k):TruthOf X.prog X.w A (λi v=>l6[i]? =some v) λi=>K.getD i false:=by
 intro i v s Q E P H;have e:i<l6.length:=(cu.mp P).1;have h:i<ys.length:=by rw[r.length];exact e
 obtain⟨u,d,c⟩:=r.get (i:=i) (x:=ys[i]) (by simp[h])
 rw[P]at d;cases d;obtain⟨k,b,a⟩:=t i ys[i] (by simp[h])
 dsimp only at H;rw[ae,b]at H;exact EE c a H
def DR (d:X.calm=true):jH X (.builtin "all") (Nk X.K λks=>ks.all id):=by
 intro P s x H A U Q I r h;obtain⟨a,y,ks,rfl,z,l,t,q⟩:=h;obtain⟨u,rfl,c⟩:=vals1 r;cases c;refine call_all_walk (RA I d z λb f o w S C v g W j p B=>?_);refine⟨f,o,w,_,_,S,λi=>ks.getD i false,rfl,W,j,CC v l t,λn T k=>?_⟩;have e:b.length=ks.length:=by rw[l,v.length]
 rw[e,range_all];exact⟨.bl _,H,B n T k,rfl,q⟩
def wa (f:List Bool->Bool):List W->Hx->R W:=λw A=>match w5 w with
 |some K=>.ok (.bl (f K)) A|none=>.bad
def eJ {f:List Bool->Bool}:∀ws A,qB (wa f ws A):=λws A=>by
 unfold wa;split
 ·exact jG
 ·exact qD
def AU {f:List Bool->Bool}:QU K (Nk K f) (wa f):=λb A H a y w Q S z r p=>by
 unfold wa at p;cases e:w5 w with
 |none=>rw[e]at p;exact p.elim|some s=>
  rw[e]at p;exact⟨a,y,s,rfl,z,by rw[TV e,r.length],TB r e,p b H _ .refl S rfl⟩
abbrev wK:=wa λK=>K.all id
end
noncomputable def Nm (o s:Scope):Bool:=s.kind==.function&&decide ((s.names.map (·.1)).Nodup)&&s.names.all λy=>y.2 != .free || (o.names.lookup y.1==some .cell || o.names.lookup y.1==some .free)
def cps (h:Nm X.env.scope sc=true):wY X sc:=by
 unfold Nm at h;rw[av,av,ao,aM,bz]at h;refine⟨h.1.1,h.1.2,λy H e=>?_⟩
 have:=h.2 y H
 rw[e]at this;simp only[bne_self_eq_false,Bool.false_or,bO,aM]at this;exact this
section
variable {xr:XR}{K:Frag}{a b:Expr}{ma mb:Ev}
theorem zF.lst {c:bT}{A:Hx}{H:Hp}{n:Nat}{w:List W}{v:V}(S:zF K c A H)(q:RV K c H (.ref n) v)(e:A[n]? =some (.lst w)):∃p vs,v=.ref p/\c[n]? =some p/\H p=some (.lst vs)/\zr K c H w vs:=by
 obtain⟨p,rfl,d⟩:=q;obtain⟨P,h,vs,b,a⟩:=S.ob n _ e;rw[d]at h;cases h;exact⟨p,vs,rfl,d,b,a⟩
def E6 {p:Program}{A:Around}{t b:Addr}{g:bS}(a:IsTup s.heap t ([]:bS).toArray)(e:IsTup s.heap b g.toArray)(j:Q (.ref b) s):
  wpAny (model p w) A (binaryOp .Add (.ref t) (.ref b)) Q E s:=by
 obtain⟨⟨r,q,data,l⟩,o,c,n,i⟩:=id a;obtain⟨⟨C,d,D,S⟩,h,H,N,f⟩:=id e;simp only at c i H f;subst c i H f;exact concat_meets ⟨_,o,rfl⟩ ⟨_,h,rfl⟩ noFill_tuple_add seq_tuple_add slot_tuple_add entry_tuple_add (args_tuple_add_2 _ _)
   (tuple_addW0 t b ([]:bS).toArray g.toArray n N q d l S (by simp)) ⟨o,h,j⟩
def Oy (K:Frag):R2:=λx y H Q=>∃a b Y,x=.ref a/\y=.ref b/\qp K H a []/\qp K H b Y/\Q (.ref b) H
def E9:qL X (binaryOp .Add) (Oy X.K):=by
 intro l s n H x y v u Q I c r h;obtain⟨a,b,Y,rfl,rfl,g,f,q⟩:=h;cases c;cases r;obtain⟨e,d,P,_⟩:=I.tuple g;obtain⟨i,j,p,_⟩:=I.tuple f;cases d;exact E6 P p ⟨.ref b,H,I,rfl,q⟩
def zL:W->W->Hx->R W:=λx y A=>match x,y with
 |.int i,.int j=>.ok (.int (i+j)) A|.tup X,.tup Y=>if X.length+Y.length<=zR then .ok (.tup (X++Y)) A else .bad|.ref n,.ref k=>match A[n]?,A[k]? with
  |some (.lst X),some (.lst Y)=>if X.length+Y.length<=zR then .ok (.ref A.length) (A++[.lst (X++Y)]) else .bad|_,_=>.bad
 |_,_=>.bad
def eK:∀x y A,qB (zL x y A):=λx y A=>by
 unfold zL
 split
 ·exact jG
 ·exact w6 jG qD
 ·split
  ·exact w6 jG qD
  ·exact qD
 ·exact qD
def Zg (h:n<=zR):n<=sizeLine:=by
 have:sizeLine=16777216:=sizeLine_eq
 unfold zR at h;omega
def BB:jZ K (λx y H Q=>wQ (λi j=>.int (i+j)) x y H Q∨Nd K x y H Q∨Oy K x y H Q∨Nv x y H Q) zL:=λJ A H x y u v Q S f q p=>by
 cases u with
 |int i=>cases v with
  |int j=>obtain rfl:=f;obtain rfl:=q;exact .inl ⟨i,j,rfl,rfl,p J H _ .refl S rfl⟩|_=>exact p.elim
 |tup X=>cases v with
  |tup Y=>
   obtain⟨M,b,rfl,T,c⟩:=f;obtain⟨L,a,rfl,t,r⟩:=q;unfold zL at p;dsimp only at p
   by_cases h:X.length+Y.length<=zR
   ·rw[ah h]at p
    by_cases z:b=[]
    ·subst z
     have o:X=[]:=by
      have:=c.length
      simpa using this
     subst o;exact .inr (.inr (.inl ⟨M,L,a,rfl,rfl,T,t,p J H _ .refl S ⟨L,a,rfl,t,r⟩⟩))
    ·refine .inr (.inl ⟨M,L,b,a,rfl,rfl,T,t,z,by rw[<- c.length,<- r.length];exact Zg h,λe=>?_,λne l g=>?_⟩)
     ·subst e
      have o:Y=[]:=by
       have:=r.length
       simpa using this
      subst o;rw[bx]at p;exact p J H _ .refl S ⟨M,b,rfl,T,c⟩
     ·obtain⟨w,s,B⟩:=ZV S g (c.append r)
      exact p _ _ _ w s B
   ·rw[ai h]at p;exact p.elim
  |_=>exact p.elim
 |ref n=>cases v with
  |ref k=>
   unfold zL at p;dsimp only at p;cases E:A[n]? with
   |none=>rw[E]at p;exact p.elim|some I=>cases I with
    |lst X=>
     cases d:A[k]? with
     |none=>rw[E,d]at p;exact p.elim|some D=>cases D with
      |lst Y=>
       rw[E,d]at p;dsimp only at p;obtain⟨C,U,rfl,f1,g1,c⟩:=S.lst f E;obtain⟨P,N,rfl,f2,Z,r⟩:=S.lst q d
       by_cases h:X.length+Y.length<=zR
       ·rw[ah h]at p
        refine .inr (.inr (.inr ⟨C,P,U,N,rfl,rfl,g1,Z,by rw[<- c.length,<- r.length];exact Zg h,λl g=>?_⟩))
        obtain⟨w,s,B⟩:=w8 S g (c.append r);exact p _ _ _ w s B
       ·rw[ai h]at p;exact p.elim
      |_=>rw[E,d]at p;exact p.elim
    |_=>rw[E]at p;exact p.elim
  |_=>exact p.elim
 |_=>cases v<;>exact p.elim
def ja:W->W->Hx->R W:=λx y A=>match x,y with
 |.int i,.int j=>if Yv i j then .ok (.int (i * j)) A else .bad|.ref n,.int k=>match A[n]? with
  |some (.lst xs)=>if jt k&&decide (xs.length * k.toNat<=zR) then .ok (.ref A.length) (A++[.lst (List.replicate k.toNat xs).flatten]) else .bad|_=>.bad
 |_,_=>.bad
def eL:∀x y A,qB (ja x y A):=λx y A=>by
 unfold ja
 split
 ·exact w6 jG qD
 ·split
  ·exact w6 jG qD
  ·exact qD
 ·exact qD
theorem zr.rep {w:List W}{v:List V}(r:zr K φ H w v):∀n:Nat,zr K φ H (List.replicate n w).flatten (List.replicate n v).flatten
 |0=>.nil|n+1=>by rw[bh,bh,aO,aO];exact r.append (zr.rep r n)
def AB:jZ K (λx y H Q=>rI Ys (λi j=>.int (i * j)) x y H Q∨Nh x y H Q) ja:=λs A H x y u v Q S a q p=>by
 cases v with
 |int j=>cases u with
  |int i=>
   obtain rfl:=a;obtain rfl:=q;unfold ja at p;dsimp only at p
   by_cases c:Yv i j=true
   ·rw[ah c]at p;exact .inl ⟨i,j,rfl,rfl,CP i j c,p s H _ .refl S rfl⟩
   ·rw[ai c]at p;exact p.elim
  |ref n=>
   obtain rfl:=q;unfold ja at p;dsimp only at p;cases e:A[n]? with
   |none=>rw[e]at p;exact p.elim|some o=>cases o with
    |lst X=>
     rw[e]at p;dsimp only at p;obtain⟨P,t,rfl,z,w,r⟩:=S.lst a e
     by_cases h:(jt j&&decide (X.length * j.toNat<=zR))=true
     ·rw[ah h]at p
      rw[av,ao]at h;obtain⟨g,B⟩:=ZM h.1;refine .inr ⟨P,j,t,rfl,rfl,w,by omega,by omega,by rw[<- r.length];exact Zg h.2,λl b=>?_⟩
      obtain⟨f,d,C⟩:=w8 S b (r.rep j.toNat);exact p _ _ _ f d C
     ·rw[ai h]at p;exact p.elim
    |_=>rw[e]at p;exact p.elim
  |_=>exact p.elim
 |_=>cases u<;>exact p.elim
def yS:W->W->Hx->R W:=λx y A=>match x with
 |.ref n=>match A[n]? with
  |some (.lst ws)=>if ws.length<zR then .ok .non (A.set n (.lst (ws++[y]))) else .bad|_=>.bad
 |_=>.bad
noncomputable def Qg (x:W)(A:Hx):Bool:=match x with
 |.ref n=>match A[n]? with
  |some (.lst _)=>true|_=>false
 |_=>false
def Ck {A:Hx}{w:W}(S:zF K φ A H)(q:RV K φ H w v)(e:Qg w A=true):V9 K "list" v H:=by
 unfold Qg at e;cases w with
 |ref n=>
  dsimp only at e;cases E:A[n]? with
  |none=>rw[E]at e;cases e|some o=>cases o with
   |lst s=>obtain⟨p,a,rfl,_,h,_⟩:=S.lst q E;exact .inl ⟨rfl,_,qI.of h⟩|_=>rw[E]at e;cases e
 |_=>cases e
def yk (g:W->W->Hx->R W)(a b:Ev):Ev:=λc A=>(a c A).bind λx d=>if Qg x d then(b c d).bind λy e=>g x y e else .bad
def Vp {nm:Str}{id:String}{r:V->List V->Hp->VK->Prop}{g:W->W->Hx->R W}{M c:Pos}(N:Slot "list" nm id)(j:typeOf (.builtin id)=pure (.type "method_descriptor"))(Z:NK X id r)(Y:∀x y A,qB (g x y A))
  (D:∀φ A H x y u v Q,zF X.K φ A H->RV X.K φ H u x->RV X.K φ H v y->(g u v A).post (PB X.K φ H Q) gx->r x [y] H Q)(C:SE X xr a ma)(he:SE X xr b mb)
  (s:starEach [b] X.env=(false,eval b X.env)::starEach [] X.env)(d:attributeBase a nm X.env (eval a X.env)=eval a X.env)
  (f:((backTo c (starEach [b] X.env)).all (λx=>!x.1)&&(backToKw c (keywordEach [] X.env)).all (λx=>x.1.isSome)
   && decide ([b].length+([]:cc).length+(if ([]:cc).isEmpty then 0 else 1)<30))=true)(e:(M.endLine==c.line)=true):
  SE X xr (.Call (.Attribute a nm M) [b] [] c) (yk g ma mb):=
 PE.imp (dZ PySem.F.plainAttrs_list N j Z C (qU he jB s) d f e s (by rfl)) λσ H Q ⟨φ,A,ρ,S,T,h⟩=>by
  refine tM.go S T (zT.mp h) λw A1 p H1 v P l o q=>?_
  by_cases n:Qg w A1=true
  ·rw[ah n]at P
   refine⟨Ck o q n,?_⟩;refine tM.go o (T.mono l) (qo (zT.mp P) (λ_ _ z=>z) λ_ _ z=>z.mono l) λt A2 i J U E L I B=>?_;exact D i A2 J v U w t Q I (q.mono L) B (qo (Jd (Y _ _ _) E) (λ_ _ z=>z.mono (l.trans L)) λ_ _ z=>z)
  ·rw[ai n]at P;exact P.elim
def Fz:∀x y A,qB (yS x y A):=λx y A=>by
 unfold yS
 split
 ·split
  ·exact w6 jG qD
  ·exact qD
 ·exact qD
def gF:W->W->Hx->R W:=λx y A=>match x,y with
 |.ref n,.int i=>match A[n]? with
  |some (.lst ws)=>match (if jt i then seqIndex? i ws.length else none) with
   |some k=>match ws[k]? with
    |some w=>.ok w (A.set n (.lst (ws.eraseIdx k)))|none=>.bad
   |none=>.bad
  |_=>.bad
 |_,_=>.bad
def Dw:∀x y A,qB (gF x y A):=λx y A=>by
 unfold gF
 split
 ·split
  ·split
   ·split
    ·exact jG
    ·exact qD
   ·exact qD
  ·exact qD
 ·exact qD
def j6:W->W->W->Hx->R Unit:=λo i v A=>match o,i with
 |.ref n,.int k=>match A[n]? with
  |some (.lst ws)=>match wR ws.length k with
   |some j=>.ok () (A.set n (.lst (ws.set j v)))|none=>.bad
  |_=>.bad
 |_,_=>.bad
def Ol:∀o i v A,qB (j6 o i v A):=λo i v A=>by
 unfold j6
 split
 ·split
  ·split
   ·exact jG
   ·exact qD
  ·exact qD
 ·exact qD
def Py:Yk K OO j6:=λt A H o i v a w y Q S f d q p=>by
 unfold j6 at p;cases a with
 |ref n=>cases w with
  |int k=>
   obtain rfl:=d;dsimp only at p;cases e:A[n]? with
   |none=>rw[e]at p;exact p.elim|some g=>cases g with
    |lst s=>
     rw[e]at p;dsimp only at p;cases E:wR s.length k with
     |none=>rw[E]at p;exact p.elim|some j=>
      rw[E]at p;obtain⟨l,u,rfl,x,h,r⟩:=S.lst f e;have L:Le K t H t (upd H l (.lst (u.set j v))):=Le.upd x (λX z=>by rw[h]at z;cases z) (λ_ _ z=>by rw[h]at z;cases z)
      obtain⟨c,b⟩:=S.write (o:=.lst s) (o':=.lst (s.set j y)) e rfl rfl x ⟨_,ji,(r.mono L).set (q.mono L) j⟩;exact⟨l,u,k,j,rfl,rfl,h,by rw[<- r.length];exact E,p _ _ c b⟩
    |_=>rw[e]at p;exact p.elim
  |_=>exact p.elim
 |_=>cases w<;>exact p.elim
variable {es:bY}{m:Ev}
def O5 {id:String}{g:W->Hx->R W}(i:jH X (.builtin id) r)(q:∀w A,qB (g w A))(f:YH X.K (λv=>r [v]) g)(s:X.mg x=none)(d:bootBuiltins x=some (.builtin id))(j:SE X xr e m)(b:Gl X x:=by rfl)
  (a:x ≠ "__name__":=by decide)(c:(x==("__debug__":Str))=false:=by decide)(n:starEach [e] X.env=(false,eval e X.env)::starEach [] X.env:=by rfl)(l:(backTo pos (starEach [] X.env)).any (·.1)=false:=by rfl):
  SE X xr (.Call (.Name x p) [e] [] pos) (qE g m):=PE.imp (wV i b s d (qU j jB n) a c n l) λo H Q h=>qE.read (r:=λv=>r [v]) q f o H Q h
def eM {id:String}{g:W->Hx->R W}(i:jH X (.type id) r)(q:∀w A,qB (g w A))(f:YH X.K (λv=>r [v]) g)(s:X.mg x=none)(d:bootBuiltins x=some (.type id))(j:SE X xr e m)(b:Gl X x:=by rfl)
  (a:x ≠ "__name__":=by decide)(c:(x==("__debug__":Str))=false:=by decide)(n:starEach [e] X.env=(false,eval e X.env)::starEach [] X.env:=by rfl)(l:(backTo pos (starEach [] X.env)).any (·.1)=false:=by rfl):
  SE X xr (.Call (.Name x p) [e] [] pos) (qE g m):=PE.imp (Qo i b s d (qU j jB n) a c n l) λo H Q h=>qE.read (r:=λv=>r [v]) q f o H Q h
def Vg {id:String}{g:W->W->Hx->R W}(o:jH X (.builtin id) r)(z:∀w i A,qB (g w i A))(n:jZ X.K (λv c=>r [v,c]) g)(B:X.mg x=none)(j:bootBuiltins x=some (.builtin id))(s:SE X xr a ma)(q:SE X xr b mb)(e:Gl X x)
  (d:x ≠ "__name__")(f:(x==("__debug__":Str))=false)(u:starEach [a,b] X.env=(false,eval a X.env)::starEach [b] X.env)(t:starEach [b] X.env=(false,eval b X.env)::starEach [] X.env)(l:(backTo pos (starEach [b] X.env)).any (·.1)=false):
  SE X xr (.Call (.Name x p) [a,b] [] pos) (zi g ma mb):=PE.imp (wV o e B j (qU s (qU q jB t) u) d f u l) λy H Q h=>zi.read (r:=λv c=>r [v,c]) z n y H Q h
noncomputable def Yx:W->Hx->R W
 |.int i,A=>.ok (.int (if i<0 then -i else i)) A|_,_=>.bad
noncomputable def QN:W->Hx->R W
 |.int i,A=>.ok (.int i) A|.bl k,A=>.ok (.int (if k then 1 else 0)) A|_,_=>.bad
def Vj:=gu λi j=>.int (if j > i then j else i)
def Z1:=gu λi j=>.int (if j<i then j else i)
noncomputable def wB:W->Bool
 |.tup _=>false|.ref _=>false|.clo _ _ _=>false|.xc _=>false|.fn _=>false|_=>true
noncomputable def VO:W->W->Bool
 |.non,.non=>true|.bl a,.bl b=>a==b|.bl a,.int b=>(if a then 1 else 0)==b|.int a,.bl b=>a==(if b then 1 else 0)|.int a,.int b=>a==b|.str a,.str b=>a==b|_,_=>false
def JB (x:W)(X:List W):Bool:=X.any λy=>VO y x
def SR {w:W}(q:RV K φ H w v)(e:wB w=true):gO v=true:=by
 cases w<;>first
  |(cases e;done)
  |(obtain rfl:=q;rfl)
def Ed {w a:W}{b:V}(q:RV K φ H w v)(Q:RV K φ H a b)(e:wB w=true)(E:wB a=true):ZD v b=VO w a:=by
 cases w<;>cases a<;>first
  |(cases e;done)
  |(cases E;done)
  |(obtain rfl:=q;obtain rfl:=Q;rfl)
theorem Ri {x:W}(q:RV K φ H x v)(e:wB x=true):∀{X:List W}{s:List V},zr K φ H X s->X.all wB=true->s.all gO=true/\WN v s=JB x X
 |[],_,r,_=>by cases r;exact⟨rfl,rfl⟩|w::ws,_,⟨y,r,E,h,t⟩,a=>by
  subst E;rw[List.all_cons,av]at a;obtain⟨I,i⟩:=Ri q e t a.2;refine⟨by rw[List.all_cons,SR h a.1,I];rfl,?_⟩
  unfold WN JB at i ⊢;rw[bJ,bJ,i,Ed h q a.1 e]
def QK (n:Bool):W->W->Hx->R W:=λx y A=>match zI y A with
 |some w=>if wB x&&w.all wB then .ok (.bl (if n then !JB x w else JB x w)) A else .bad|none=>.bad
abbrev WM:=QK false
def eN {n:Bool}:∀x y A,qB (QK n x y A):=λx y A=>by
 unfold QK
 split
 ·exact w6 jG qD
 ·exact qD
def eO {n:Bool}:jZ K (NU K n) (QK n):=λc A H x y u v Q S q b p=>by
 unfold QK at p;cases es:zI v A with
 |none=>rw[es]at p;exact p.elim|some w=>
  rw[es]at p;dsimp only at p
  by_cases h:(wB u&&w.all wB)=true
  ·rw[ah h]at p
   rw[av]at h;obtain⟨a,Y,rfl,z,r⟩:=Y5 S b es;obtain⟨I,i⟩:=Ri q h.1 r h.2;exact⟨a,Y,rfl,z,SR q h.1,I,by rw[i];exact p c H _ .refl S rfl⟩
  ·rw[ai h]at p;exact p.elim
structure WB (X:Cx)(op:CmpOp)(g:W->W->Hx->R W):Prop where
 ex:∃r:R2,qL X (compareOp op) r/\(∀x y A,qB (g x y A))/\jZ X.K r g
def Nj:WB X .In WM:=⟨_,Ew,eN,eO⟩
end
noncomputable def jy (f:W->Option PyData):List W->Option (List PyData)
 |[]=>some []|w::ws=>match f w,jy f ws with
  |some d,some D=>some (d::D)|_,_=>none
def zO (A:Hx):Nat->W->Option PyData
 |_,.non=>some .none|_,.bl b=>some (.bool b)|_,.int i=>some (.int i)|_,.str x=>if PyData.strOk x then some (.str x) else none|_,.clo _ _ _=>none|_,.xc _=>none|_,.fn _=>none|0,.tup _=>none|0,.ref _=>none|n+1,.tup ws=>(jy (zO A n) ws).map .tuple|n+1,.ref k=>match zI (.ref k) A with
  |some ws=>(jy (zO A n) ws).map .list|none=>none
def EV {K:Frag}{A:Hx}{u:List W}(S:zF K φ A H)(q:RV K φ H (.ref n) v)(e:zI (.ref n) A=some u):∃a ys,v=.ref a/\qI K H a ys/\zr K φ H u ys:=by
 obtain⟨a,rfl,c⟩:=q;unfold zI at e;dsimp only at e;cases E:A[n]? with
 |none=>rw[E]at e;cases e|some o=>
  rw[E]at e;obtain⟨d,b,r⟩:=S.ob n o E;rw[c]at b;cases b;cases o with
  |lst x=>cases e;obtain⟨ys,f,h⟩:=r;exact⟨a,ys,rfl,qI.of f,h⟩|ro x=>cases e;obtain⟨ys,f,h⟩:=r;exact⟨a,ys,rfl,f.sq,h⟩|dct x=>cases e|td _=>cases e|tr _=>cases e|tab _ _=>cases e
section
variable {a:Expr}
theorem GQ {K:Frag}{f:W->Option PyData}(o:∀w v u d,RV K φ H w v->RelV v u->f w=some d->∃A,Reads h u d A):
  ∀{s:List W}{n:List V}{U:bS}{l:List PyData},zr K φ H s n->Vals n U->jy f s=some l->∃A,ReadsAll h U l A
 |[],_,_,_,r,a,e=>by cases r;cases a;cases e;exact⟨[],.nil⟩|w::s,_,_,l,⟨v,r,j,q,t⟩,a,e=>by
  subst j;cases a with
  |cons g c=>
   unfold jy at e;cases E:f w with
   |none=>rw[E]at e;cases e|some d=>
    cases b:jy f s with
    |none=>rw[E,b]at e;cases e|some D=>
     rw[E,b]at e;cases e;obtain⟨A,p⟩:=o w v _ d q g E;obtain⟨bs,i⟩:=GQ o t c b;exact⟨_,.cons p i⟩
def Zh {A:Hx}(I:Inv X l0 σ H s)(S:zF X.K φ A H):∀(n:Nat)(w:W)(v:V)(u:Value)(d:PyData),RV X.K φ H w v->RelV v u->zO A n w=some d->∃B,Reads s.heap u d B:=by
 intro n
 induction n with
 |zero=>
  intro w v u d q r e;cases w with
  |non=>obtain rfl:=q;cases r;cases e;exact⟨_,.none⟩|bl k=>obtain rfl:=q;cases r;cases e;exact⟨_,.bool k⟩|int k=>obtain rfl:=q;obtain⟨t,rfl⟩:=r;cases e;exact⟨_,.int k t⟩|str k=>
   obtain rfl:=q;obtain⟨t,rfl⟩:=r;unfold zO at e
   split at e
   ·cases e;exact⟨_,.str k t⟩
   ·cases e
  |tup _=>cases e|ref _=>cases e|clo _ _ _=>unfold zO at e;cases e|xc _=>unfold zO at e;cases e|fn _=>unfold zO at e;cases e
 |succ n p=>
  intro w v u d q r e;cases w with
  |non=>obtain rfl:=q;cases r;cases e;exact⟨_,.none⟩|bl k=>obtain rfl:=q;cases r;cases e;exact⟨_,.bool k⟩|clo _ _ _=>unfold zO at e;cases e|xc _=>unfold zO at e;cases e|fn _=>unfold zO at e;cases e|int k=>obtain rfl:=q;obtain⟨t,rfl⟩:=r;cases e;exact⟨_,.int k t⟩|str k=>
   obtain rfl:=q;obtain⟨t,rfl⟩:=r;unfold zO at e
   split at e
   ·cases e;exact⟨_,.str k t⟩
   ·cases e
  |tup y=>
   obtain⟨a,C,rfl,h,c⟩:=q;cases r;unfold zO at e;cases E:jy (zO A n) y with
   |none=>rw[E]at e;cases e|some D=>
    rw[E]at e;cases e;obtain⟨i,b,⟨o,z,j,k,g⟩,_⟩:=I.tuple h;obtain⟨B,f⟩:=GQ p c b E;exact⟨_,.tuple z j g (by simpa using f)⟩
  |ref k=>
   unfold zO at e;cases E:zI (.ref k) A with
   |none=>rw[E]at e;cases e|some y=>
    rw[E]at e;dsimp only at e;obtain⟨a,Y,rfl,h,c⟩:=EV S q E;cases r;cases l:jy (zO A n) y with
    |none=>rw[l]at e;cases e|some D=>
     rw[l]at e;cases e;obtain⟨i,b,⟨o,x,z,j,_,g⟩,_⟩:=I.list h;obtain⟨B,f⟩:=GQ p c b l;exact⟨_,.list z j g (by simpa using f)⟩
def JM {A:Hx}:∀(n:Nat)(w:W)(d:PyData),zO A n w=some d->d.canLay0=true/\d.depth<=n:=by
 intro n;have lst:∀{n:Nat},(∀(w:W)(d:PyData),zO A n w=some d->d.canLay0=true/\d.depth<=n)->∀(ws:List W)(ds:List PyData),jy (zO A n) ws=some ds->PyData.canLayAll0 ds=true/\PyData.depthAll ds<=n:=by
  intro n i ws
  induction ws with
  |nil=>intro ds e;cases e;exact⟨by simp[PyData.canLayAll0],by simp[PyData.depthAll]⟩|cons w ws I=>
   intro ds e;unfold jy at e;cases E:zO A n w with
   |none=>rw[E]at e;cases e|some d=>
    cases b:jy (zO A n) ws with
    |none=>rw[E,b]at e;cases e|some D=>
     rw[E,b]at e;cases e;obtain⟨g,H⟩:=i w d E;obtain⟨c,f⟩:=I D b;refine⟨by simp[PyData.canLayAll0,g,c],?_⟩
     simp only[PyData.depthAll];omega
 induction n with
 |zero=>
  intro w d e;cases w with
  |tup _=>cases e|ref _=>cases e|clo _ _ _=>unfold zO at e;cases e|xc _=>unfold zO at e;cases e|fn _=>unfold zO at e;cases e|str x=>
   unfold zO at e
   split at e
   ·rename_i h;cases e;exact⟨by simp[PyData.canLay0,h],by simp[PyData.depth]⟩
   ·cases e
  |_=>cases e;exact⟨by simp[PyData.canLay0],by simp[PyData.depth]⟩
 |succ n i=>
  intro w d e;cases w with
  |clo _ _ _=>unfold zO at e;cases e|xc _=>unfold zO at e;cases e|fn _=>unfold zO at e;cases e|tup ws=>
   unfold zO at e;cases a:jy (zO A n) ws with
   |none=>rw[a]at e;cases e|some ds=>
    rw[a]at e;cases e;obtain⟨g,H⟩:=lst i ws ds a;refine⟨by simp[PyData.canLay0,g],?_⟩
    simp only[PyData.depth];omega
  |ref k=>
   unfold zO at e;cases a:zI (.ref k) A with
   |none=>rw[a]at e;cases e|some ws=>
    rw[a]at e;dsimp only at e;cases E:jy (zO A n) ws with
    |none=>rw[E]at e;cases e|some ds=>
     rw[E]at e;cases e;obtain⟨g,H⟩:=lst i ws ds E;refine⟨by simp[PyData.canLay0,g],?_⟩
     simp only[PyData.depth];omega
  |str x=>
   unfold zO at e
   split at e
   ·rename_i h;cases e;exact⟨by simp[PyData.canLay0,h],by simp[PyData.depth]⟩
   ·cases e
  |_=>cases e;exact⟨by simp[PyData.canLay0],by simp[PyData.depth]⟩
def yN (n:Bool):W->W->Hx->R W:=λx y A=>match zO A 8 x,zO A 8 y with
 |some d,some D=>.ok (.bl (if n then !PyData.eqv d D else PyData.eqv d D)) A|_,_=>.bad
abbrev qG:=yN false
abbrev qJ:=yN true
def P6 {n:Bool}:∀x y A,qB (yN n x y A):=λx y A=>by
 unfold yN
 split
 ·exact jG
 ·exact qD
def VC (K:Frag)(n:Bool):R2:=λx y H Q=>∃a A u v d D,zF K a A H/\RV K a H u x/\RV K a H v y/\zO A 8 u=some d/\zO A 8 v=some D/\Q (.bl (if n then !PyData.eqv d D else PyData.eqv d D)) H
def KP {A:Hx}{w:W}{d:PyData}(h:zO A 8 w=some d):SeqAt.shaped d=true:=by
 obtain⟨a,H⟩:=JM 8 w d h;unfold SeqAt.shaped;rw[a,Bool.true_and,ao];omega
def eQ (g:X.A.units+64<cLine):qL X (compareOp .Eq) (VC X.K false):=by
 intro p s n H x y v u Q I b r h;obtain⟨l,A,a,w,d,D,S,f,c,E,e,q⟩:=h;obtain⟨o,j⟩:=Zh I S 8 a x v d f b E;obtain⟨bs,i⟩:=Zh I S 8 w y u D c r e;exact eq_dataH j i (KP E) (KP e) g ⟨.bl _,H,I,rfl,q⟩
def eR (g:X.A.units+64<cLine):qL X (compareOp .NotEq) (VC X.K true):=by
 intro p s n H x y v u Q I b r h;obtain⟨l,A,a,w,d,D,S,f,c,E,e,q⟩:=h;obtain⟨o,j⟩:=Zh I S 8 a x v d f b E;obtain⟨bs,i⟩:=Zh I S 8 w y u D c r e;exact ne_dataH j i (KP E) (KP e) g ⟨.bl _,H,I,rfl,q⟩
def Pu {K:Frag}{n:Bool}:jZ K (VC K n) (yN n):=λb A H x y u v Q S a q p=>by
 unfold yN at p;cases e:zO A 8 u with
 |none=>rw[e]at p;exact p.elim|some d=>
  cases E:zO A 8 v with
  |none=>rw[e,E]at p;exact p.elim|some D=>
   rw[e,E]at p;exact⟨b,A,u,v,d,D,S,a,q,e,E,p b H _ .refl S rfl⟩
def Nb {k:Nat}(h:qP k X.A):kM X .Eq qG:=Qy (eQ h.units) P6 Pu
def OX {k:Nat}(h:qP k X.A):kM X .NotEq qJ:=Qy (eR h.units) P6 Pu
end
mutual
noncomputable def W.nr:W->Bool
 |.tup w=>ju w|.ref _=>false|.clo _ w _=>ju w|_=>true
noncomputable def ju:List W->Bool
 |[]=>true|w::ws=>w.nr&&ju ws
end
def iso (f:Fn):Fn:=λu A=>if ju u then(match f u [] with
 |.ok w a=>(match w with
  |.ref n=>(match a[n]? with
   |some (.lst ws)=>if ju ws then .ok (.ref A.length) (A++[.lst ws]) else .bad|some (.dct lG)=>if ju (lG.map (·.2)) then .ok (.ref A.length) (A++[.dct lG]) else .bad|_=>.bad)
  |w=>if w.nr then .ok w A else .bad)
 |_=>.bad) else .bad
def wH (f:Fn):Fn:=λu A=>match u with
 |.ref n::u=>(match A[n]? with
  |some (.lst ws)=>if ju ws&&ju u then(match f (.ref 0::u) [.lst ws] with
   |.ok w b=>(match (List.head? b:Option O) with
    |some (.lst a)=>if ju a&&w.nr then .ok w (A.set n (.lst a)) else .bad|_=>.bad)
   |_=>.bad) else .bad
  |_=>.bad)
 |_=>.bad
section
variable {K:Frag}{l9 lH:bT}{H' H1:Hp}{A A1:Hx}
mutual
theorem RV.nrm (T:∀a vs,qp K H a vs->qp K H' a vs)(z:∀a o u,H a=some (.frz o u)->H' a=some (.frz o u)):∀{w:W}{v:V},w.nr=true->RV K φ H w v->RV K l9 H' w v
 |.non,_,_,h=>h|.bl _,_,_,h=>h|.int _,_,_,h=>h|.str _,_,_,h=>h|.tup s,_,n,⟨a,vs,e,t,r⟩=>⟨a,vs,e,T _ _ t,zr.nrm T z n r⟩|.ref _,_,n,_=>nomatch n
 |.clo _ s P,_,n,⟨a,ob,u,c,f,U,vs,e,i,b,g,r⟩=>⟨a,ob,u,c,f,U,vs,e,z _ _ _ i,z _ _ _ b,g,zr.nrm T z n r⟩|.xc _,_,_,⟨a,d,u,C,e,i,b⟩=>⟨a,d,u,C,e,z _ _ _ i,b⟩|.fn _,_,_,h=>h
theorem zr.nrm (T:∀a b,qp K H a b->qp K H' a b)(f:∀a o u,H a=some (.frz o u)->H' a=some (.frz o u)):∀{s:List W}{b:List V},ju s=true->zr K φ H s b->zr K l9 H' s b
 |[],_,_,h=>h|w::s,_,n,⟨v,r,e,h,t⟩=>by
  have N:(w.nr&&ju s)=true:=n;rw[av]at N;exact⟨v,r,e,RV.nrm T f N.1 h,zr.nrm T f N.2 t⟩
end
def zF.none:zF K [] [] H:=⟨rfl,λi j a o b _ _ h=>by simp at h,λn o h=>by simp at h⟩
def zF.frame (S:zF K φ A H)(k:∀a o,H a=some o->H1 a=some o)(l:Le K φ H φ H1):zF K φ A H1:=
 ⟨S.len,S.inj,λn o e=>let ⟨a,b,q⟩:=S.ob n o e;⟨a,b,q.keep l λu h=>k a u h⟩⟩
def Le.apart (l:Le K [] H lH H1):Le K φ H φ H1/\∀a o,H a=some o->H1 a=some o:=
 have k:∀a o,H a=some o->H1 a=some o:=λa o h=>l.fr a o h λn e=>by simp at e
 ⟨⟨λ_ _ h=>h,l.tp,λa o h _=>k a o h,λ_ _ h=>.inl h,l.st,l.fz⟩,k⟩
def zF.trackN {u:HO}{o:O}(S:zF K φ A H)(C:H D=some u)(n:∀(k:Nat)(q:O),φ[k]? =some D->A[k]? =some q->q.mut=false)(new:OR K (φ++[D]) H D o):zF K (φ++[D]) (A++[o]) H:=by
 have l:Zy K φ H (φ++[D]) H:=⟨λn a h=>by
  have:=(cu.mp h).1
  rw[au this];exact h,λ_ _ h=>h,λ_ _ _ h=>h⟩
 have J:∀(i:Nat) a,(φ++[D])[i]? =some a->i<A.length->φ[i]? =some a:=λi a e M=>by
  rw[au (by rw[S.len];exact M)]at e;exact e
 have L:∀a,(φ++[D])[A.length]? =some a->a=D:=λa e=>by
  rw[ay (by rw[S.len];exact ar _),S.len]at e
  simpa using e.symm
 refine⟨by simp[S.len],λi j a B y N w f b U T=>?_,λk Q e=>?_⟩
 ·by_cases M:i<A.length
  ·rw[au M]at f
   by_cases c:j<A.length
   ·rw[au c]at b
    exact S.inj i j a B y (J i a N M) (J j a w c) f b U T
   ·exfalso
    have s:j=A.length:=by have:=(cu.mp b).1;simp at this;omega
    subst s;have z:=n i B (by rw[<- L a w];exact J i a N M) f
    rw[U]at z;cases z
  ·have v:i=A.length:=by have:=(cu.mp f).1;simp at this;omega
   by_cases c:j<A.length
   ·exfalso
    rw[au c]at b;subst v;have z:=n j y (by rw[<- L a N];exact J j a w c) b
    rw[T]at z;cases z
   ·have:=(cu.mp b).1;simp at this;omega
 ·by_cases X:k<A.length
  ·rw[au X]at e
   obtain⟨a,E,q⟩:=S.ob k Q e;refine⟨a,l.ex _ _ E,?_⟩;cases Q with
   |lst P=>obtain⟨I,z,r⟩:=q;exact⟨I,z,r.monoW l⟩|dct P=>obtain⟨I,z,Z,r⟩:=q;exact⟨I,z,Z,r.monoW l⟩|td _=>obtain⟨I,z,Z,t,r⟩:=q;exact⟨I,z,Z,λx g=>l.tp _ _ (t x g),r.monoW l⟩|tr _=>obtain⟨ob,u,I,z,d,Z,t,r⟩:=q;exact⟨ob,u,I,z,d,Z,λx g=>l.tp _ _ (t x g),r.monoW l⟩|tab _ _=>exact q|ro P=>obtain⟨I,z,r⟩:=q;exact⟨I,z,r.monoW l⟩
  ·have p:k=A.length:=by have:=(cu.mp e).1;simp at this;omega
   subst p;rw[ay (ar _)]at e;simp at e;subst e;exact⟨D,by rw[ay (by rw[S.len];exact ar _),S.len];simp,new⟩
def zF.adopt {o:O}(S:zF K φ A H)(l:Le K [] H lH H1)(j:lH[n]? =some a)(m:∃u,H1 a=some u)(new:OR K (φ++[a]) H1 a o):
  Le K φ H (φ++[a]) H1/\zF K (φ++[a]) (A++[o]) H1/\RV K (φ++[a]) H1 (.ref A.length) (.ref a):=by
 obtain⟨L,k⟩:=l.apart (φ:=φ);have i:H a=Option.none:=by
  rcases l.nw n a j with e|e
  ·simp at e
  ·exact e
 obtain⟨u,b⟩:=m;have s:=S.frame k L;refine⟨L.Jo i,s.trackN b (λk q f d=>?_) new,a,rfl,by rw[<- S.len];simp⟩
 cases c:q.mut with
 |false=>rfl|true=>
  obtain⟨g,E,r⟩:=S.ob k q d;rw[f]at E;cases E;obtain⟨z,h,_⟩:=r.there c;rw[i]at h;cases h
def OR.nrL {w:List W}(h:OR K φ H a (.lst w))(n:ju w=true):OR K l9 H a (.lst w):=let ⟨v,e,r⟩:=h;⟨v,e,r.nrm (λ_ _ t=>t) (λ_ _ _ t=>t) n⟩
def OR.nrD {s:List (Key×W)}(h:OR K φ H a (.dct s))(n:ju (s.map (·.2))=true):OR K l9 H a (.dct s):=let ⟨v,e,E,r⟩:=h;⟨v,e,E,r.nrm (λ_ _ t=>t) (λ_ _ _ t=>t) n⟩
theorem zU.iso {k:Nat}{f:Fn}(F:zU P w K mg base k x n f):zU P w K mg base k x n (iso f):=by
 obtain⟨C,fd,Z,F,a,b,c⟩:=F;refine⟨C,fd,Z,F.imp λvs H Q E ⟨z,J,A,M,S,r,q⟩=>?_,a,b,c⟩;unfold Mi.iso at q
 by_cases N:ju M=true
 ·rw[ah N]at q
  refine⟨z,[],[],M,zF.none,r.nrm (λ_ _ t=>t) (λ_ _ _ t=>t) N,?_⟩;cases hf:f M [] with
  |ok w Y=>
   rw[hf]at q;dsimp only at q;intro u X v L D g;cases w with
   |ref m=>
    dsimp only at q;cases hm:Y[m]? with
    |none=>rw[hm]at q;exact q.elim|some o=>
     rw[hm]at q;obtain⟨I,j,d⟩:=D.ob m o hm;obtain⟨a2,rfl,e⟩:=g;rw[j]at e;cases e;cases o with
     |lst U=>
      dsimp only at q
      by_cases h:ju U=true
      ·rw[ah h]at q
       obtain⟨t,i,_⟩:=d.there rfl;obtain⟨s,p,B⟩:=S.adopt L j ⟨t,i⟩ (o:=.lst U) (d.nrL h);exact q _ _ _ s p B
      ·rw[ai h]at q;exact q.elim
     |dct U=>
      dsimp only at q
      by_cases h:ju (U.map (·.2))=true
      ·rw[ah h]at q
       obtain⟨t,i,_⟩:=d.there rfl;obtain⟨s,p,B⟩:=S.adopt L j ⟨t,i⟩ (o:=.dct U) (d.nrD h);exact q _ _ _ s p B
      ·rw[ai h]at q;exact q.elim
     |ro U=>exact q.elim|td _=>exact q.elim|tr _=>exact q.elim|tab _ _=>exact q.elim
   |_=>
    all_goals
     dsimp only at q;obtain⟨l,T⟩:=L.apart (φ:=J)
     first
      |exact q J X v l (S.frame T l) g
      |(
        split at q
        ·rename_i hw
         exact q J X v l (S.frame T l) (RV.nrm (λ_ _ t=>t) (λ_ _ _ t=>t) hw g)
        ·exact q.elim)
  |exc y Y=>rw[hf]at q;exact q.elim|bad=>rw[hf]at q;exact q.elim
 ·rw[ai N]at q;exact q.elim
theorem zU.wH {k:Nat}{f:Fn}(F:zU P w K mg base k x n f):zU P w K mg base k x n (wH f):=by
 obtain⟨fa,fd,ps,F,a,b,c⟩:=F;refine⟨fa,fd,ps,F.imp λvs H Q E ⟨hl,φ,A,ws,S,r,q⟩=>?_,a,b,c⟩;unfold Mi.wH at q;cases ws with
 |nil=>exact q.elim|cons Z us=>cases Z with
  |ref n=>
   dsimp only at q;cases l:A[n]? with
   |none=>rw[l]at q;exact q.elim|some o=>cases o with
    |lst xs=>
     rw[l]at q;dsimp only at q
     by_cases hn:(ju xs&&ju us)=true
     ·rw[ah hn]at q
      rw[av]at hn;obtain⟨v0,vr,rfl,q0,qr⟩:=r;obtain⟨p,ys,rfl,f1,g1,g⟩:=S.lst q0 l;have S0:zF K [p] [.lst xs] H:=by
       refine⟨rfl,λi j a o o' h1 I T N _ _=>?_,λm o e=>?_⟩
       ·have:=(cu.mp h1).1
        have:=(cu.mp I).1
        simp at*;omega
       ·have:m=0:=by have:=(cu.mp e).1;simp at this;omega
        subst this;simp at e;subst e;exact⟨p,rfl,ys,g1,g.nrm (λ_ _ t=>t) (λ_ _ _ t=>t) hn.1⟩
      refine⟨hl,[p],[.lst xs],.ref 0::us,S0,.cons ⟨p,rfl,rfl⟩ (qr.nrm (λ_ _ t=>t) (λ_ _ _ t=>t) hn.2),?_⟩;cases hf:f (.ref 0::us) [.lst xs] with
      |ok w A1=>
       rw[hf]at q;dsimp only at q;intro B H1 v L S1 q1;cases h0:List.head? A1 with
       |none=>rw[h0]at q;exact q.elim|some o=>cases o with
        |lst zs=>
         rw[h0]at q;dsimp only at q
         by_cases hw:(ju zs&&w.nr)=true
         ·rw[ah hw]at q
          rw[av]at hw;have apart:∀a o,a≠p->H a=some o->H1 a=some o:=λa o ne h=>L.fr a o h λm e=>by
           have:m=0:=by have:=(cu.mp e).1;simp at this;omega
           subst this;simp at e;exact ne e.symm
          have lf:Le K φ H φ H1:=⟨λ_ _ h=>h,L.tp,λa o h nn=>apart a o (λe=>nn n (by rw[e];exact f1)) h,λ_ _ h=>.inl h,L.st,L.fz⟩
          have hp:B[0]? =some p:=L.ex 0 p rfl;obtain⟨p',s,U,J,D⟩:=S1.ob 0 _ (by rw[<- List.head?_eq_getElem?];exact h0)
          rw[hp]at s;cases s;refine q φ H1 v lf ?_ (RV.nrm (λ_ _ t=>t) (λ_ _ _ t=>t) hw.2 q1);have mt:∀(i:Nat)(w:O),(A.set n (.lst zs))[i]? =some w->w.mut=true->∃M,A[i]? =some M/\M.mut=true:=λi w e mw=>by
           by_cases hi:i=n
           ·subst hi;exact⟨_,l,rfl⟩
           ·rw[aI (Ne.symm hi)]at e;exact⟨w,e,mw⟩
          refine⟨by simp[S.len],λi j a o1 o2 h1 I T N m1 m2=>?_,λi w e=>?_⟩
          ·obtain⟨Y,s,k1⟩:=mt i o1 T m1
           obtain⟨X,J,k2⟩:=mt j o2 N m2;exact S.inj i j a Y X h1 I s J k1 k2
          ·by_cases hi:i=n
           ·subst hi
            have:i<A.length:=(cu.mp l).1
            rw[aC this]at e;cases e;exact⟨p,f1,U,J,D.nrm (λ_ _ t=>t) (λ_ _ _ t=>t) hw.1⟩
           ·rw[aI (Ne.symm hi)]at e
            obtain⟨a,s,C⟩:=S.ob i w e;refine⟨a,s,?_⟩
            by_cases hm:w.mut=true
            ·have ne:a≠p:=λz=>hi (S.inj i n a w _ s (by rw[z];exact f1) e l hm rfl)
             exact C.keep lf λz hz=>apart a z ne hz
            ·cases w with
             |lst _=>exact absurd rfl hm|dct _=>exact absurd rfl hm|td _=>exact absurd rfl hm|tr _=>obtain⟨ob,u,vs,q,d,k,t,r⟩:=C;exact⟨ob,u,vs,lf.fz _ _ _ q,d,k,λx hx=>lf.tp _ _ (t x hx),r.mono lf⟩|tab _ _=>exact absurd rfl hm|ro ws=>
              obtain⟨vs,g,D⟩:=C;refine⟨vs,?_,D.mono lf⟩;rcases g with ⟨ob,g⟩|g
              ·refine .inl ⟨ob,apart a _ ?_ g⟩
               intro z;subst z;rw[g1]at g;cases g
              ·exact .inr g
         ·rw[ai hw]at q;exact q.elim
        |_=>rw[h0]at q;exact q.elim
      |exc y A1=>rw[hf]at q;exact q.elim|bad=>rw[hf]at q;exact q.elim
     ·rw[ai hn]at q;exact q.elim
    |_=>rw[l]at q;exact q.elim
  |_=>exact q.elim
end
section
variable {K:Frag}{a b:Expr}{m:Ev}{st:Stmt}
noncomputable def intsOf:List W->Option (bR)
 |[]=>some []|w::ws=>match w with
  |.int i=>match intsOf ws with
   |some I=>some (i::I)|none=>none
  |_=>none
theorem ZO:∀{s:List W}{n:bR},intsOf s=some n->s=n.map W.int
 |[],_,e=>by cases e;rfl|w::s,n,e=>by
  unfold intsOf at e;cases w with
  |int i=>
   dsimp only at e;cases E:intsOf s with
   |none=>rw[E]at e;cases e|some I=>rw[E]at e;cases e;rw[ZO E];rfl
  |_=>cases e
noncomputable def jV:List Int->Int->Int
 |[],m=>m|i::is,m=>jV is (if i > m then i else m)
def Ft (n:bR):∀(k:Nat)(a:k<n.length),jV (n.drop (k+1)) (n.getD (argBest (λi j=>decide (n.getD i 0 > n.getD j 0)) k) 0)=jV n.tail (n.getD 0 0):=by
 intro k
 induction k with
 |zero=>intro _;rw[show argBest _ 0=0 from rfl,List.drop_one]|succ k I=>
  intro a;have H:k<n.length:=by omega
  rw[<- I H];have e:n.drop (k+1)=n[k+1]::n.drop (k+1+1):=List.drop_eq_getElem_cons a;rw[e];have E:n.getD (k+1) 0=n[k+1]:=by rw[ae,aa a];rfl
  show jV _ (n.getD (if decide (n.getD (k+1) 0 > n.getD (argBest _ k) 0)=true then k+1 else argBest _ k) 0)=jV _ (if n[k+1] > n.getD (argBest _ k) 0 then n[k+1] else n.getD (argBest _ k) 0);rw[E]
  by_cases h:n[k+1] > n.getD (argBest (λi j=>decide (n.getD i 0 > n.getD j 0)) k) 0
  ·rw[ah (by rw[ao];exact h),ah h,E]
  ·rw[ai (by rw[ao];exact h),ai h]
def OP (K:Frag)(C:List Int->Prop)(f:List Int->Int):List V->Hp->VK->Prop:=λx H Q=>∃a n,x=[.ref a]/\(qI K H a (n.map V.int)∨qp K H a (n.map V.int))/\C n/\Q (.int (f n)) H
def Xd (r:Vals (ns.map V.int) l6){v:Value}(h:l6[i]? =some v):∃t,v=.int (ns.getD i 0) t:=by
 have c:i<l6.length:=(cu.mp h).1;have H:i<ns.length:=by have:=r.length;rw[ag]at this;omega
 obtain⟨u,b,a⟩:=r.get (i:=i) (x:=V.int ns[i]) (by simp[H])
 rw[h]at b;cases b;obtain⟨t,rfl⟩:=a;exact⟨t,by rw[ae,aa H];rfl⟩
def Fj (n:X.calm=true):jH X (.builtin "max") (OP X.K (λns=>ns≠[]) λns=>jV ns.tail (ns.getD 0 0)):=by
 intro P s σ H xs us Q I r h;obtain⟨a,ns,rfl,z,f,q⟩:=h;obtain⟨u,rfl,g⟩:=vals1 r;cases g;have L:0<ns.length:=List.length_pos_iff.mpr f;refine call_max_walk (RA I n z λd y fp N S s2 c J W Z p M=>?_);have e:d.length=ns.length:=by have:=c.length;rw[ag]at this;omega
 refine⟨y,fp,N,_,_,S,λi j=>decide (ns.getD i 0 > ns.getD j 0),rfl,W,Z,p,by omega,?_,λv h' U l k=>?_⟩
 ·intro i j D C s' Q' E h1 x o
  obtain⟨Y,rfl⟩:=Xd c h1;obtain⟨T,rfl⟩:=Xd c x;exact(PyProof.Rows.gt_int o:wpAny (model X.prog X.w) X.A.in1 (compareOp .Gt (.int (ns.getD i 0) Y) (.int (ns.getD j 0) T)) Q' E s')
 ·obtain⟨t,rfl⟩:=Xd c l
  rw[e];have b:=Ft ns (ns.length-1) (by omega)
  rw[show ns.length-1+1=ns.length by omega,drop_length]at b
  have B:ns.getD (argBest (λi j=>decide (ns.getD i 0 > ns.getD j 0)) (ns.length-1)) 0=jV ns.tail (ns.getD 0 0):=b;rw[B];exact⟨.int _,H,M h' U k,⟨_,rfl⟩,q⟩
def j4:List W->Hx->R W:=λw A=>match intsOf w with
 |some (i::is)=>.ok (.int (jV is i)) A|_=>.bad
def eS:∀ws A,qB (j4 ws A):=λws A=>by
 unfold j4;split
 ·exact jG
 ·exact qD
def FC {w:List W}{a:Addr}(z:qI K H a ys∨qp K H a ys)(r:zr K φ H w ys)(e:intsOf w=some ns):qI K H a (ns.map V.int)∨qp K H a (ns.map V.int):=by
 rw[ZO e]at r;rw[<- zr.ints.mp r];exact z
def Ap:QU K (OP K (λns=>ns≠[]) λns=>jV ns.tail (ns.getD 0 0)) j4:=λb A H a y w Q S z r p=>by
 unfold j4 at p;cases e:intsOf w with
 |none=>rw[e]at p;exact p.elim|some ns=>cases ns with
  |nil=>rw[e]at p;exact p.elim|cons i I=>rw[e]at p;exact⟨a,i::I,rfl,FC z r e,(by intro z;cases z),p b H _ .refl S rfl⟩
def eT (y:W):List W->Nat->Nat
 |[],n=>n|w::ws,n=>eT y ws (if VO w y then n+1 else n)
noncomputable def eU (l d:Int)(n:Nat):It:=⟨λi _=>i<n,λi H x h=>h=H/\x=.int (l+i * d),λi _=>n<=i⟩
def zeu (t:TA):TI:=λa H R=>t a H λv h=>∃i j:Int,v=[.int i,.int j,.int (-1)]/\(-(2 ^ 62)<=i/\i<2 ^ 62/\-(2 ^ 62)<=j/\j<2 ^ 62)/\R (eU i (-1) (i-j).toNat) h
noncomputable def zew (h:Int)(n:Nat):jo:=⟨λ_ i=>if i<n then some (some (.int (h-i))) else some none,n⟩
def eV (t:TA):TE:=λa H Q=>t a H λv h=>∃j:Int,v=[.int j]/\∀p,h p=none->Q (.ref p) (upd h p (.rng 0 j))
def Bl {T:TA}(g:Gl X "range")(l:X.mg "range"=none)(e:PA X [a] T)(d:starEach [a] X.env=[(false,eval a X.env)]):PE X (.Call (.Name "range" p) [a] [] pos) (eV T):=by
 intro P s f H Q I h;refine Call_ (gJ I g l boot_range (PyProof.Rows.callWith_type1 (zQ (e pos P s f H _ I h) λU S ⟨v,n,i,r,c⟩=>?_) d rfl));obtain⟨j,rfl,q⟩:=c;obtain⟨u,rfl,⟨t,rfl⟩⟩:=r.one;refine call_range_1 ⟨.ref _,_,i.laid (o:=.rng 0 j) (λb o E=>af _ E) (ar _) ?_,rfl,q _ (i.hok.fresh (ar _))⟩;exact⟨_,_,_,aw _ rfl⟩
noncomputable def QO (n:Nat):List V:=(List.range n).map λ(i:Nat)=>V.int i
def HW (A:X.calm=true):jH X (.type "list") (λxs H Q=>∃(r:Addr) (j:Int),xs=[.ref r]/\H r=some (.rng 0 j)/\(-(2 ^ 62)<=j/\j<2 ^ 62)/\j.toNat<=sizeLine/\∀l,H l=none->Q (.ref l) (upd H l (.lst (QO j.toNat)))):=by
 intro P s Y H xs Z Q I r h;obtain⟨p,j,rfl,x,⟨D,B⟩,z,q⟩:=h;obtain⟨u,rfl,g⟩:=vals1 r;cases g;obtain⟨M,T,L,y⟩:=I.hok p _ x;have E:sizeLine=16777216:=sizeLine_eq;refine PySem.call_list_range (n:=j.toNat) (I.ok.hd A) (show IsRange s.heap p 0 j 1 M T L from y) (small_one (by omega) (by omega) D B) (by rw[rangeSize_one];split<;>omega) (by omega) λh' K J C N S ⟨U,d⟩=>?_
 refine⟨.ref s.heap.objs.size,_,I.laid (t':=K) (o:=.lst (QO j.toNat)) N (ar _) ?_,rfl,q _ (I.hok.fresh (ar _))⟩;refine⟨by unfold QO;simpa using z,J.toList,C,?_,by simpa using S⟩
 have a:∀(l:bS)(k:Nat),(∀(i:Nat) v,l[i]? =some v->∃t,v=.int ((k+i:Nat):Int) t)->Vals ((List.range' k l.length).map λ(i:Nat)=>V.int i) l:=by
  intro l
  induction l with
  |nil=>intro k _;exact .nil|cons v l w=>
   intro k e;rw[aL,range'_succ,aK];refine .cons ?_ (w (k+1) λi f a=>?_)
   ·obtain⟨t,rfl⟩:=e 0 v rfl
    exact⟨t,rfl⟩
   ·obtain⟨t,rfl⟩:=e (i+1) f (by simpa using a)
    exact⟨t,by congr 1;omega⟩
 have b:J.toList.length=j.toNat:=by simpa using U
 have:=a J.toList 0 λi v c=>by
  obtain⟨t,rfl⟩:=d i v (by simpa using c)
  exact⟨t,by congr 1;omega⟩
 rw[b]at this;unfold QO;rw[range_eq_range'];exact this
def JZ (m:Ev):Ev:=λb A=>(m b A).bind λw a=>match w with
 |.int j=>if jt j&&decide (j.toNat<=zR) then .ok (.ref a.length) (a++[.lst ((List.range j.toNat).map λ(i:Nat)=>W.int i)]) else .bad|_=>.bad
end
def jk (k:Bool)(h:Heap)(I a:Addr)(i:Nat):Prop:=if k=true then h.IsListIter I a i else h.IsTupleIter I a i
def jQ (k:Bool)(h:Heap)(a:Addr)(i:Array Value):Prop:=if k=true then h.IsList a i else h.IsTuple a i
def yn (k:Bool)(K:Frag)(H:Hp)(a:Addr)(x:List V):Prop:=if k=true then qI K H a x else qp K H a x
noncomputable def QE (k:Bool):String:=if k then "list_iterator" else "tuple_iterator"
def jk.ob {k:Bool}(x:jk k h it a i):∃o,h.get? it=some o/\o.cls=.type (QE k)/\o.data=.fields #[.ref a,.int i 0]:=by
 cases k<;>exact x
def jk.mk {k:Bool}(x:∃o,h.get? it=some o/\o.cls=.type (QE k)/\o.data=.fields #[.ref a,.int i 0]):jk k h it a i:=by
 cases k<;>exact x
def jk.to {k:Bool}(x:jk k h it a i)(e:∀o,h.get? it=some o->h'.get? it=some o):jk k h' it a i:=let ⟨o,H,r⟩:=x.ob;.mk ⟨o,e o H,r⟩
def jQ.ob {k:Bool}(x:jQ k h a items):∃o,h.get? a=some o/\o.cls=.type (if k then "list" else "tuple")/\∃n,o.data=.seq items n:=by
 cases k<;>exact x
def jQ.to {k:Bool}(x:jQ k h a items)(e:∀o,h.get? a=some o->h'.get? a=some o):jQ k h' a items:=by
 cases k with
 |false=>exact let ⟨o,H,r⟩:=x.ob;⟨o,e o H,r⟩|true=>exact let ⟨o,H,r⟩:=x.ob;⟨o,e o H,r⟩
section
variable {prog:Program}{A:Around}{k:Bool}
def RL (h:jQ k s.heap a items)(H:Q (.ref s.heap.objs.size) { s with heap:=s.heap.push { cls:=.type (QE k),data:=.fields #[.ref a,.int 0 0] } }):wpAny (model prog w) A (pyIter (.ref a)) Q E s:=by
 cases k with
 |true=>exact wpAny_pyIter_list h H|false=>exact wpAny_pyIter_tuple h H
def KN {x:Value}(t:jk k s.heap it a i)(l:jQ k s.heap a items)(f:items[i]? =some x)
  (g:∀h',jk k h' it a (i+1)->Heap.SameBut it s.heap h'->Q x { s with heap:=h' }):wpAny (model prog w) A (Builtin.SmallTypes.nextOf (.ref it)) Q E s:=by
 cases k with
 |true=>exact wpAny_nextOf_list_item t l f g|false=>
  have h:s.heap.IsTupleIter it a i:=t;obtain⟨o,b,e,H⟩:=id h;obtain⟨j,c,_,n,d⟩:s.heap.IsTuple a items:=l;unfold Builtin.SmallTypes.nextOf;refine ck (wpAny_callSpecial?_slot (name:=Str.ofString "__next__") h.typeIs F.slot_tuple_iterator_next (wpAny_call_entry F.slot_tuple_iterator_next h.typeIs F.entry_tuple_iterator_next ?_ (F.args_tuple_iterator_next_1 _)));show wpAny _ _ (field (.ref it) 0 >>= _) _ _ s;refine ck (wpAny_field b H (x:=.ref a) rfl ?_);show wpAny _ _ (if (Value.ref a==Value.none)=true then _ else _) _ _ s;rw[ai (show ¬((Value.ref a==Value.none)=true) from aA)]
  show wpAny _ _ (field (.ref it) 1 >>= _) _ _ s;refine ck (wpAny_field b H (x:=.int i 0) rfl ?_);show wpAny _ _ (seqItems? (.ref a) >>= _) _ _ s;refine ck (wpAny_seqItems c d ?_);simp only[aP,f];refine ck (wpAny_setField b H (by simp) (cm ⟨x,rfl,cm (g _ (.mk ?_) (Heap.SameBut.update ..))⟩))
  exact⟨_,ba _ b (Obj.isFreed_of_fields (Obj.data_mapFields H _)),(Obj.cls_mapFields ..).trans e,by rw[Obj.data_mapFields H];simp[rawInt]⟩
def XI (d:A.handled=none)(t:jk k s.heap it a i)(l:jQ k s.heap a items)(g:items[i]? =none)
  (j:∀h' e,Heap.ExtBut it s.heap h'->(∃o,h'.get? e=some o/\o.cls=.type "StopIteration")->E (.ref e) { s with heap:=h' }):wpAny (model prog w) A (Builtin.SmallTypes.nextOf (.ref it)) Q E s:=by
 cases k with
 |true=>exact wpAny_nextOf_list_end d t l g j|false=>
  have h:s.heap.IsTupleIter it a i:=t;obtain⟨p,H,n,b⟩:=id h;obtain⟨q,c,_,N,f⟩:s.heap.IsTuple a items:=l;unfold Builtin.SmallTypes.nextOf;refine ck (wpAny_callSpecial?_slot (name:=Str.ofString "__next__") h.typeIs F.slot_tuple_iterator_next (wpAny_call_entry F.slot_tuple_iterator_next h.typeIs F.entry_tuple_iterator_next ?_ (F.args_tuple_iterator_next_1 _)));show wpAny _ _ (field (.ref it) 0 >>= _) _ _ s;refine ck (wpAny_field H b (x:=.ref a) rfl ?_);show wpAny _ _ (if (Value.ref a==Value.none)=true then _ else _) _ _ s;rw[ai (show ¬((Value.ref a==Value.none)=true) from aA)]
  show wpAny _ _ (field (.ref it) 1 >>= _) _ _ s;refine ck (wpAny_field H b (x:=.int i 0) rfl ?_);show wpAny _ _ (seqItems? (.ref a) >>= _) _ _ s;refine ck (wpAny_seqItems c f ?_);simp only[aP,g];refine ck (wpAny_rule (ck (wpAny_setField H b (by simp) ?_)))
  show wpAny _ _ (newExc (.type "StopIteration") [] >>= _) _ _ _;refine ck ?_;simp only[newExc,newTuple];refine ck (wpAny_newObj_type ?_ (by size_fits))
  refine ck (m:=firstArgMember _ _) (wpAny_of_eq (a:=Value.none) (by first|rfl|(simp only[firstArgMember];rfl)) ?_);refine wpAny_newObj_type ?_ (by size_fits)
  simp only[raiseNew];refine ck (wpAny_handled ?_)
  first|rw[show A.in1.handled=none from d]|rw[d]
  refine ck (cm (wpAny_throw ?_));exact j _ _ (((Heap.SameBut.update ..).extBut.push _).push _) ⟨_,aw _ rfl,rfl⟩
def Kl (g:A.handled=none)(c:a≠it):Draws prog w A it [it,a] items.size (λi v=>items[i]? =some v) (λi h=>jk k h it a i/\jQ k h a items) where
 live:=λ_ _ S=>let ⟨o,f,_⟩:=S.1.ob;⟨o,f⟩
 frame:=λ_ _ _ S d=>⟨S.1.to λo e=>d it (by simp) o e,S.2.to λo e=>d a (by simp) o e⟩
 item:=λi s Q E n S j=>KN S.1 S.2 (x:=items[i]) (by simp[n]) λp b H=>j _ p s.toks (by simp[n]) ⟨b,S.2.to λo e=>H.extBut a o c e⟩ H
 done:=λs Q E S l=>XI g S.1 S.2 (by simp) l
end
section
def _root_.L2.Inv.spun {T:Addr}{o:HO}(I:Inv X l0 σ H s)(k:∀b u,b∉fp->s.heap.get? b=some u->h'.get? b=some u)(j:∀b∈fp,kz X l0 H b)(hT:s.heap.objs.size<=T)
  (new:qQ X.prog X.w (upd H T o) h' T o):Inv X l0 σ (upd H T o) { s with heap:=h',toks:=t' }:=by
 have i:H T=none:=I.hok.fresh hT;have lt:∀b u,s.heap.get? b=some u->b≠T:=λb u e=>aJ (aF (aG e) hT);have N:∀b u,H b=some u->b∉fp:=λb u e z=>by rw[(j b z).1]at e;cases e
 refine I.step (g':=s.gens) (d':=s.drawn) (ch:=fp) (λb a=>let ⟨_,y,_,g,t,f⟩:=j b a;⟨g,y,t,f⟩) (λb o _ _ h e _=>k b o h e) (λb o _ _ h e _=>⟨o.slots,k b o h e⟩)
  (λb o _ e n=>by rw[qi (lt b o e)];exact n) (λb o h e=>⟨o,k b o h e⟩) (λb x e=>by rw[qi (kj e i)];exact e) (λb u x e=>by rw[qi (kj e i)];exact e)
  (λb P e=>⟨#[],by rw[qi (kj e i),e];simp⟩) (λm l=>?_) (λb u e=>?_) I.bare
 ·obtain⟨o,E,p,d,r⟩:=l
  exact⟨o,E,p,k _ o (λz=>(j _ z).2.1 rfl) d,r⟩
 ·by_cases a:b=T
  ·subst a;rw[ji]at e;cases e;exact new
  ·rw[qi a]at e
   refine(I.hok b u e).stay (λc v h q=>k c v ?_ q) (λc q=>by rw[qi (kj q i)];exact q) λc x q=>by rw[qi (kj q i)];exact q
   rcases h with z|z
   ·rw[z];exact N b u e
   ·exact N c _ z
def _root_.L2.Inv.spun0 (I:Inv X l0 σ H s)(k:∀b u,b∉fp->s.heap.get? b=some u->h'.get? b=some u)(i:∀b∈fp,kz X l0 H b):Inv X l0 σ H { s with heap:=h',toks:=t' }:=by
 have N:∀b u,H b=some u->b∉fp:=λb u e z=>by rw[(i b z).1]at e;cases e
 refine I.step (g':=s.gens) (d':=s.drawn) (ch:=fp) (λb d=>let ⟨_,t,_,g,l,f⟩:=i b d;⟨g,t,l,f⟩) (λb o _ _ h e _=>k b o h e) (λb o _ _ h e _=>⟨o.slots,k b o h e⟩)
  (λb o _ e n=>n) (λb o h e=>⟨o,k b o h e⟩) (λb x e=>e) (λb u x e=>e) (λb P e=>⟨#[],by rw[e];simp⟩) (λm j=>?_) (λb u e=>?_) I.bare
 ·obtain⟨o,E,p,a,r⟩:=j
  exact⟨o,E,p,k _ o (λz=>(i _ z).2.1 rfl) a,r⟩
 ·refine(I.hok b u e).stay (λc v h q=>k c v ?_ q) (λc q=>q) λc x q=>q
  rcases h with z|z
  ·rw[z];exact N b u e
  ·exact N c _ z
def _root_.L2.Inv.sq {k:Bool}{x:List V}(I:Inv X l0 σ H s)(h:yn k X.K H a x):∃i:bS,Vals x i/\jQ k s.heap a i.toArray/\x.length<=sizeLine:=by
 cases k with
 |true=>obtain⟨i,r,p,z⟩:=I.list h;exact⟨i,r,p.isList,z⟩|false=>obtain⟨i,r,p,z⟩:=I.tuple h;exact⟨i,r,(show s.heap.IsTuple a i.toArray from p),z⟩
def _root_.L2.Inv.sq_inj {k:Bool}{x:List V}(I:Inv X l0 σ H s)(h:yn k X.K H a x)(b:yn k X.K H a ys):x=ys:=by
 cases k with
 |true=>exact I.list_inj h b|false=>exact I.tuple_inj h b
end
def V1 (k:Bool)(K:Frag)(a:Addr):It:=
 ⟨λi H=>∃X x,yn k K H a X/\X[i]? =some x,λi H x h=>∃p y,(∀X,yn k K H a X->X[i]? =some y)/\H p=none/\x=.ref p/\h=upd H p (.tup [.int i,y]),λi H=>∃X,yn k K H a X/\X.length=i⟩
def FL {K:Frag}(k:Bool)(a n it:Addr):Turn P w K (.Tuple lN kk l7) (V1 k K a) [n,it] n (λi h=>(∃old,IsEnum h n it i old)/\jk k h it a i/\n≠it) where
 mem:=by simp
 obj:=λi h st b f=>by
  obtain⟨⟨old,he⟩,hi,_⟩:=st;rcases cn.mp f with rfl|f
  ·exact⟨_,he,λv z=>nomatch z⟩
  ·rw[cx.mp f]
   obtain⟨o,Q,_,hd⟩:=hi.ob;exact⟨o,Q,λv z=>by rw[hd]at z;cases z⟩
 keep:=λi h h' ⟨⟨old,he⟩,hi,ne⟩ kp=>⟨⟨old,kp n (by simp) _ he⟩,hi.to λo p=>kp it (by simp) o p,ne⟩
 item:=by
  intro X hP hw hK hc i l0 s σ H E I hf st T;subst hP hw hK;obtain⟨⟨old,he⟩,hi,ne⟩:=st;obtain⟨xs,x,C,B⟩:=T;obtain⟨d,D,r,hz⟩:=I.sq C;obtain⟨u,hu,ru⟩:=D.get B;have S:i<d.toArray.size:=by simpa using (cu.mp hu).1
  obtain⟨oa,g,Z,na,e⟩:=r.ob;have A:a≠it:=λz=>by
   obtain⟨oi,c,Y,l⟩:=hi.ob;rw[<- z,g]at c;cases c;rw[l]at e;cases e
  have ane:n≠a:=λz=>by
   have t:s.heap.get? a=_:=z ▸ he;rw[g]at t;cases t;cases e
  refine wpAny_pyNext_enum_itemD (Kl (k:=k) (items:=d.toArray) (I.ok.hd hc) A) he ⟨hi,r⟩ S ne (by simp[ne,ane]) λy h1 tk J Q N hT hsz hk=>?_
  have ey:y=u:=by
   have:d[i]? =some y:=by simpa using J
   rw[hu]at this;exact(aB this).symm
  subst ey;refine⟨_,rfl,wpAny_letOwnedTupleGo_enum Q λh2 U j=>?_⟩;have L:n<s.heap.objs.size:=aG he;have hT2:h2.get? s.heap.objs.size=some { cls:=.type "tuple",data:=.seq #[.int i tk,y] }:=j.extBut _ _ (br L) hT;refine⟨.ref s.heap.objs.size,upd H s.heap.objs.size (.tup [.int i,x]),?_,rfl,⟨s.heap.objs.size,x,λys J=>by rw[I.sq_inj J C];exact B,I.hok.fresh (ar _),rfl,rfl⟩,⟨⟨_,by simpa using U⟩,?_,ne⟩,λb f=>?_⟩
  ·refine I.spun (fp:=[n,it]) (t':=tk+1) (λb o f p=>?_) hf (ar _) ?_
   ·exact j.extBut _ _ (λz=>f (by simp[z])) (hk b o (λz=>f (by simp[z])) (λz=>f (by simp[z])) p)
   ·exact⟨by show 2<=sizeLine;decide,[.int i tk,y],.cons ⟨tk,rfl⟩ (.cons ru .nil),_,hT2,⟨rfl,rfl⟩,0,rfl⟩
  ·exact N.1.to λo p=>j.extBut _ _ (λz=>ne z.symm) p
  ·have bn:b≠s.heap.objs.size:=λz=>by
    rcases cn.mp f with q|q
    ·exact absurd L (by rw[<- q,z];exact aV _)
    ·obtain⟨oi,c,_⟩:=hi.ob
     exact absurd (aG c) (by rw[<- cx.mp q,z];exact aV _)
   show upd H s.heap.objs.size _ b=none;rw[qi bn];exact(hf b f).1
 done:=by
  intro X hP hw hK hc i l0 s σ H E I hf st T;subst hP hw hK;obtain⟨⟨old,he⟩,hi,ne⟩:=st;obtain⟨xs,C,B⟩:=T;obtain⟨d,D,r,hz⟩:=I.sq C;have en':d.toArray.size=i:=by rw[az,<- D.length];exact B
  obtain⟨oa,g,Z,na,e⟩:=r.ob;have A:a≠it:=λz=>by
   obtain⟨oi,c,Y,l⟩:=hi.ob;rw[<- z,g]at c;cases c;rw[l]at e;cases e
  refine wpAny_pyNext_enum_endD (Kl (k:=k) (items:=d.toArray) (I.ok.hd hc) A) he ⟨by rw[en'];exact hi,r⟩ λh1 M=>⟨rfl,?_⟩
  exact I.spun0 (fp:=[n,it]) (t':=s.toks) (λb o f p=>M b o (λz=>f (by simp[z])) p) hf
 self:=λ_ _ _ _ _ ⟨⟨_,he⟩,_⟩ h=>wpAny_pyIter_enum he h
open AutoSeq1 (wpAny_loadPart')
abbrev wG (h:Heap)(k:Bool)(a:Addr):Heap:=h.push { cls:=.type (QE k),data:=.fields #[.ref a,.int 0 0] }
abbrev Nz (h:Heap)(k:Bool)(a:Addr):Heap:=(wG h k a).push { cls:=.type "enumerate",data:=.fields #[.none,.bool false,.ref h.objs.size,rawInt 0,.none,.none] }
def IZ (a:Addr)(i:Array Value)(n:Nat)(D:cf)(S:Array (Option Value)):
  Meets (Builtin.«enumerate.__new__» ⟨[.type "enumerate",.ref a],[]⟩) (λ_ R s=>s.heap.get? a=some { cls:=.type "tuple",dict:=D,data:=.seq i n,slots:=S }/\R (.ok (.ret (.ref (wG s.heap false a).objs.size))) { s with heap:=Nz s.heap false a }):=
 .of_wp λP w A R s h=>by
  obtain⟨p,g,d,t,o⟩:=s;obtain⟨H,h⟩:=h;have b:=sub_enumerate;have hT:Heap.IsTuple (Shared.heap ⟨p,g,d,t,o⟩) a i:=⟨_,H,rfl,n,rfl⟩
  wp_walk using wpAny_loadPart' H
  refine wpAny_stack_any λe=>cm ?_;split
  ·rename_i c _ _ _ _ _
   cases (c==Value.type "enumerate")<;>(wp_walk using wpAny_loadPart' H,wpAny_pyIter_tuple hT;exact⟨_,rfl,h⟩)
  ·wp_walk using wpAny_loadPart' H,wpAny_pyIter_tuple hT
   exact⟨_,rfl,h⟩
section
variable {prog:Program}{A:Around}
def F3 {k:Bool}(l:jQ k s.heap a items)
  (h:∀h',IsEnum h' (s.heap.objs.size+1) s.heap.objs.size 0 .none->jk k h' s.heap.objs.size a 0->(∀b o,s.heap.get? b=some o->h'.get? b=some o)->Q (.ref (s.heap.objs.size+1)) { s with heap:=h' }):
  wpAny (model prog w) A (call (.type "enumerate") [.ref a]) Q E s:=by
 cases k with
 |true=>exact call_enumerate_list l λh' g f _ e=>h h' g f e|false=>
  obtain⟨⟨c,p,D,S⟩,d,H,n,j⟩:=(show s.heap.IsTuple a items from l)
  replace H:c=.type "tuple":=H
  replace j:D=.seq items n:=j
  subst H j;refine callType_new F.called_enumerate (by decide) (F.typeCall_enumerate_1 _) (F.newCall_enumerate_1 _) (λobj=>F.args_object_init_2 obj _) F.entry_enumerate_new (IZ a items n p S) ⟨d,?_⟩
  have z:(wG s.heap false a).objs.size=s.heap.objs.size+1:=bc ..;have i:IsEnum (Nz s.heap false a) (wG s.heap false a).objs.size s.heap.objs.size 0 .none:=aw _ rfl;show _/\_;rw[z]at i ⊢;exact⟨⟨_,i,rfl⟩,h _ i (.mk ⟨_,af _ (aw _ rfl),rfl,rfl⟩) λb o x=>af _ (af _ x)⟩
end
section
variable {a b:Expr}{m:Ev}
def eX (K:Frag)(t:TA):TI:=λa H R=>t a H λv h=>∃p k x,v=[.ref p]/\yn k K h p x/\R (V1 k K p) h
def boot_enumerate:bootBuiltins "enumerate"=some (.type "enumerate"):=by rfl
def boot_zip:bootBuiltins "zip"=some (.type "zip"):=by rfl
def BI {t:TA}(l:Gl X "enumerate")(A:X.mg "enumerate"=none)(o:PA X [a] t)(g:starEach [a] X.env=[(false,eval a X.env)]):
  PI X (.Tuple lN kk l7) (.Call (.Name "enumerate" p) [a] [] pos) (eX X.K t):=by
 intro P s y H R I h;refine Call_ (gJ I l A boot_enumerate (PyProof.Rows.callWith_type1 (zQ (o pos P s y H _ I h) λU S ⟨D,B,i,d,Q⟩=>?_) g rfl));obtain⟨p,k,C,rfl,j,q⟩:=Q;obtain⟨u,rfl,r⟩:=d.one;cases r;obtain⟨f,w,sq,x⟩:=i.sq j;refine F3 sq λJ e v E=>wpAny_pyIter_enum e ?_;refine⟨S.heap.objs.size+1,[S.heap.objs.size+1,S.heap.objs.size],_,_,B,rfl,i.kept (t':=S.toks) E,FL k p _ _,⟨⟨_,by simpa using e⟩,v,Nat.succ_ne_self _⟩,λb n=>?_,q⟩
 have c:S.heap.objs.size<=b:=by
  rcases cn.mp n with z|z
  ·rw[z];exact le_succ _
  ·rw[cx.mp z];exact ar _
 exact i.fpOk c (i.hok.fresh c)
noncomputable def atEnd (w:List W)(i:Nat)(f:W->W):Option (Option W):=match w[i]? with
 |some x=>some (some (f x))|none=>if w.length=i then some none else none
def gW (w:W)(n:Nat):jo:=⟨λA i=>match zI w A with
 |some s=>atEnd s i λx=>.tup [.int i,x]|none=>none,n⟩
noncomputable def Z2 (w:W):Bool:=match w with
 |.tup _=>false|_=>true
def JS {K:Frag}{A:Hx}{w:W}{s:List W}(S:zF K φ A H)(q:RV K φ H w v)(e:zI w A=some s):∃p ys,v=.ref p/\yn (Z2 w) K H p ys/\zr K φ H s ys:=by
 cases w with
 |tup u=>cases e;obtain⟨a,i,E,t,r⟩:=q;exact⟨a,i,E,t,r⟩|ref n=>
  obtain⟨a,E,f⟩:=q;unfold zI at e;dsimp only at e;cases c:A[n]? with
  |none=>rw[c]at e;cases e|some o=>
   rw[c]at e;obtain⟨d,b,r⟩:=S.ob n o c;rw[f]at b;cases b;cases o with
   |lst x=>cases e;obtain⟨y,g,h⟩:=r;exact⟨a,y,E,qI.of g,h⟩|ro x=>cases e;obtain⟨y,g,h⟩:=r;exact⟨a,y,E,g.sq,h⟩|dct x=>cases e|td _=>cases e|tr _=>cases e|tab _ _=>cases e
 |non=>cases e|bl _=>cases e|clo _ _ _=>cases e|xc _=>cases e|fn _=>cases e|int _=>cases e|str _=>cases e
def Y9 {K:Frag}{a:bT}{A:Hx}{h:Hp}{w:W}{b:List W}{p:Addr}(q:RV K φ H w (.ref p))(l:Zy K φ H a h)(S:zF K a A h)(E:zI w A=some b):∃y,yn (Z2 w) K h p y/\zr K a h b y:=by
 obtain⟨P,Y,e,d,c⟩:=JS S (RV.monoW l q) E;cases e;exact⟨Y,d,c⟩
def eY {K:Frag}{w:W}{p:Addr}(q:RV K φ H w (.ref p)):Qe K φ H (gW w n) (V1 (Z2 w) K p):=λi b l j L S=>by
 unfold gW;dsimp only;cases es:zI w j with
 |none=>exact⟨λ_ z=>(by cases z),λz=>(by cases z)⟩|some r=>
  dsimp only;obtain⟨s,o,a⟩:=Y9 q L S es;unfold atEnd;cases E:r[i]? with
  |none=>
   dsimp only
   by_cases h:r.length=i
   ·rw[ah h]
    exact⟨λ_ z=>(by cases z),λ_=>⟨s,o,by rw[<- a.length];exact h⟩⟩
   ·rw[ai h]
    exact⟨λ_ z=>(by cases z),λz=>(by cases z)⟩
  |some x=>
   dsimp only;refine⟨λu z=>?_,λz=>(by cases z)⟩
   cases z;obtain⟨y,e,g⟩:=a.get E;refine⟨⟨s,y,o,e⟩,λX I ⟨t,Y,c,d,B,f⟩=>?_⟩;subst B f
   have:=c s o
   rw[e]at this;cases this;obtain⟨D,C,A⟩:=ZV S d (.cons (w:=.int i) (v:=.int i) rfl (.one g));exact⟨D,C,A⟩
def Jq (m:Ev):Ei:=λb A=>(m b A).bind λw a=>match zI w a with
 |some s=>.ok (gW w s.length) a|none=>.bad
end
section
variable {prog:Program}{A:Around}{z TI TO i1 i2 l1 l2:Addr}{n1 n2:Nat}{c1 c2:Bool}{xs ys:Array Value}{x y a b:Value}
def eZ (D:ZipApart z TI TO i1 i2 l1 l2)(h:IsZip s.heap z TI TO .none)(H:IsPair s.heap TI (.ref i1) (.ref i2))(u:IsPair s.heap TO a b)
  (g1:jk c1 s.heap i1 l1 n1)(g2:jk c2 s.heap i2 l2 n2)(s1:jQ c1 s.heap l1 xs)(s2:jQ c2 s.heap l2 ys)(U:xs[n1]? =some x)(P:ys[n2]? =some y)
  (hQ:∀h',IsZip h' z TI TO (rawInt s.heap.objs.size)->IsPair h' TI (.ref i1) (.ref i2)->IsPair h' TO x y->jk c1 h' i1 l1 (n1+1)->jk c2 h' i2 l2 (n2+1)->IsPair h' s.heap.objs.size x y->
   (∀c o,c≠z->c≠TO->c≠i1->c≠i2->s.heap.get? c=some o->h'.get? c=some o)->Q (.ref s.heap.objs.size) { s with heap:=h' }):
  wpAny (model prog w) A (Builtin.«zip.__next__» ⟨[.ref z],[]⟩) (λfin s'=>∃v,fin=.done (.ret v)/\Q v s') E s:=by
 show wpAny _ _ (field (.ref z) 2 >>= _) _ _ _;refine ck (wpAny_field h rfl (x:=.bool false) rfl ?_);show wpAny _ _ (field (.ref z) 3 >>= _) _ _ _;refine ck (wpAny_field h rfl (x:=.ref TI) rfl (ck (wpAny_seqItems H rfl ?_)));show wpAny _ _ (Builtin.SmallTypes.ownedTupleIsFree (.ref z) >>= _) _ _ _;refine ck ?_;unfold Builtin.SmallTypes.ownedTupleIsFree;refine ck (wpAny_field h rfl (x:=.none) rfl (cm ?_));simp only[if_true];refine ck (wpAny_rule (ck (wpAny_field h rfl (x:=.ref TO) rfl ?_)));refine ck (wpAny_setField_rec h (by simp) λha p sa=>?_);replace p:IsZip ha z TI TO .ellipsis:=p
 refine ck ?_;simp only[zipIdx_cons,List.zipIdx_nil,forIn_cons,forIn_nil];refine ck (ck (wpAny_onRaise ?_));show wpAny _ _ (Builtin.SmallTypes.nextOf (.ref i1) >>= _) _ _ _;refine ck (KN (g1.to λo e=>sa.extBut _ _ D.i1z e) (s1.to λo e=>sa.extBut _ _ D.l1z e) U λY gb j=>cm ?_);have I:IsPair Y TO a b:=j.extBut _ _ D.TOi1 (sa.extBut _ _ D.TOz u);refine ck (wpAny_seqItems I rfl (ck (wpAny_updateSeq_pair I λM T sc=>ck (wpAny_letGo (cm ?_)))));replace T:IsPair M TO x b:=T;refine ck (ck (wpAny_onRaise ?_));show wpAny _ _ (Builtin.SmallTypes.nextOf (.ref i2) >>= _) _ _ _;have up:∀c o,c≠z->c≠i1->c≠TO->s.heap.get? c=some o->M.get? c=some o:=λc o f d g e=>sc.extBut _ _ g (j.extBut _ _ d (sa.extBut _ _ f e));refine ck (KN (g2.to λo e=>up _ o D.i2z D.i12.symm D.TOi2.symm e) (s2.to λo e=>up _ o D.l2z D.l2i1 D.l2TO e) P λhd gd sd=>cm ?_);have td:IsPair hd TO x b:=sd.extBut _ _ D.TOi2 T;refine ck (wpAny_seqItems td rfl (ck (wpAny_updateSeq_pair td λhe t S=>ck (wpAny_letGo (cm (cm ?_))))));replace t:IsPair he TO x y:=t;refine ck (wpAny_seqItems t rfl (ck (wpAny_newTuple ?_)));have hsz:he.objs.size=s.heap.objs.size:=by rw[S.1,sd.1,sc.1,j.1,sa.1]
 have C:IsZip he z TI TO .ellipsis:=S.extBut _ _ D.TOz.symm (sd.extBut _ _ D.i2z.symm (sc.extBut _ _ D.TOz.symm (j.extBut _ _ D.i1z.symm p)));have L:∀c o,c≠z->c≠TO->c≠i1->c≠i2->s.heap.get? c=some o->he.get? c=some o:=λc o f d g r e=>S.extBut _ _ d (sd.extBut _ _ r (up c o f g d e));have ge1:jk c1 he i1 l1 (n1+1):=((gb.to λo e=>sc.extBut _ _ D.TOi1.symm e).to λo e=>sd.extBut _ _ D.i12 e).to λo e=>S.extBut _ _ D.TOi1.symm e;have B:jk c2 he i2 l2 (n2+1):=gd.to λo e=>S.extBut _ _ D.TOi2.symm e;have Z:z<he.objs.size:=aG C;show wpAny _ _ (Builtin.SmallTypes.ownedTupleHandOut (.ref z) (.ref he.objs.size) >>= _) _ _ _;refine ck ?_;unfold Builtin.SmallTypes.ownedTupleHandOut;have N:IsZip (he.push { cls:=.type "tuple",data:=.seq #[x,y] }) z TI TO .ellipsis:=af _ C;refine ck (wpAny_setField_rec N (by simp) λX n K=>?_);replace n:IsZip X z TI TO (rawInt he.objs.size):=n
 refine wpAny_setField_rec n (by simp) λl i J=>?_;replace i:IsZip l z TI TO (rawInt he.objs.size):=i
 have fin:∀c o,c≠z->he.get? c=some o->l.get? c=some o:=λc o q e=>J.extBut _ _ q (K.extBut _ _ q (af _ e));have tk:IsPair l he.objs.size x y:=J.extBut _ _ (br Z) (K.extBut _ _ (br Z) (aw _ rfl));rw[hsz]at i tk;refine cm ⟨_,rfl,?_⟩;show Q (.ref he.objs.size) _;rw[hsz];exact hQ l i (fin _ _ D.TIz (L _ _ D.TIz D.TITO D.TIi1 D.TIi2 H)) (fin _ _ D.TOz t) (ge1.to λo e=>fin _ o D.i1z e) (B.to λo e=>fin _ o D.i2z e) tk λc o f d g r e=>fin c o f (L c o f d g r e)
def fc {Q:Fin->Shared->Prop}(J:A.handled=none)(D:ZipApart z TI TO i1 i2 l1 l2)(i:IsZip s.heap z TI TO .none)(I:IsPair s.heap TI (.ref i1) (.ref i2))(v:IsPair s.heap TO a b)
  (g1:jk c1 s.heap i1 l1 n1)(g2:jk c2 s.heap i2 l2 n2)(s1:jQ c1 s.heap l1 xs)(s2:jQ c2 s.heap l2 ys)(j:xs[n1]? =none∨ys[n2]? =none)
  (K:∀h' e,(∀c o,c≠z->c≠TO->c≠i1->c≠i2->s.heap.get? c=some o->h'.get? c=some o)->(∃o,h'.get? e=some o/\o.cls=.type "StopIteration")->E (.ref e) { s with heap:=h' }):
  wpAny (model prog w) A (Builtin.«zip.__next__» ⟨[.ref z],[]⟩) Q E s:=by
 show wpAny _ _ (field (.ref z) 2 >>= _) _ _ _;refine ck (wpAny_field i rfl (x:=.bool false) rfl ?_);show wpAny _ _ (field (.ref z) 3 >>= _) _ _ _;refine ck (wpAny_field i rfl (x:=.ref TI) rfl (ck (wpAny_seqItems I rfl ?_)));show wpAny _ _ (Builtin.SmallTypes.ownedTupleIsFree (.ref z) >>= _) _ _ _;refine ck ?_;unfold Builtin.SmallTypes.ownedTupleIsFree;refine ck (wpAny_field i rfl (x:=.none) rfl (cm ?_));simp only[if_true];refine ck (wpAny_rule (ck (wpAny_field i rfl (x:=.ref TO) rfl ?_)));refine ck (wpAny_setField_rec i (by simp) λu Z X=>?_);replace Z:IsZip u z TI TO .ellipsis:=Z
 refine ck ?_;simp only[zipIdx_cons,List.zipIdx_nil,forIn_cons,forIn_nil];refine ck (ck (wpAny_onRaise ?_));show wpAny _ _ (Builtin.SmallTypes.nextOf (.ref i1) >>= _) _ _ _;have ga:=g1.to (h':=u) λo e=>X.extBut _ _ D.i1z e;have Y:=s1.to (h':=u) λo e=>X.extBut _ _ D.l1z e;cases p:xs[n1]? with
 |none=>
  refine ck (XI J ga Y p λt e S he=>?_);obtain⟨n,h,H⟩:=he;have B:IsZip t z TI TO .ellipsis:=S _ _ D.i1z.symm Z;have f:e≠z:=λq=>by subst q;rw[B]at h;cases h;simp at H
  exact wpAny_setField_rec B (by simp) λr _ U=>K r e (λc o d _ g _ q=>U.extBut _ _ d (S _ _ g (X.extBut _ _ d q))) ⟨n,U.extBut _ _ f h,H⟩
 |some x=>
  have M:ys[n2]? =none:=by
   rcases j with q|q
   ·rw[p]at q;cases q
   ·exact q
  refine ck (KN ga Y p λt P S=>cm ?_);have T:IsPair t TO a b:=S.extBut _ _ D.TOi1 (X.extBut _ _ D.TOz v);refine ck (wpAny_seqItems T rfl (ck (wpAny_updateSeq_pair T λr N U=>ck (wpAny_letGo (cm ?_)))));refine ck (ck (wpAny_onRaise ?_));show wpAny _ _ (Builtin.SmallTypes.nextOf (.ref i2) >>= _) _ _ _;have up:∀c o,c≠z->c≠i1->c≠TO->s.heap.get? c=some o->r.get? c=some o:=λc o d l g e=>U.extBut _ _ g (S.extBut _ _ l (X.extBut _ _ d e));refine ck (XI J (g2.to λo e=>up _ o D.i2z D.i12.symm D.TOi2.symm e) (s2.to λo e=>up _ o D.l2z D.l2i1 D.l2TO e) M λhd e sd he=>?_);obtain⟨n,h,H⟩:=he;have y:IsZip hd z TI TO .ellipsis:=sd _ _ D.i2z.symm (U.extBut _ _ D.TOz.symm (S.extBut _ _ D.i1z.symm Z));have f:e≠z:=λq=>by subst q;rw[y]at h;cases h;simp at H
  exact wpAny_setField_rec y (by simp) λhf _ C=>K hf e (λc o d l g L q=>C.extBut _ _ d (sd _ _ L (up c o d g l q))) ⟨n,C.extBut _ _ f h,H⟩
def CW {Q:Option Value->Shared->Prop}(D:ZipApart z TI TO i1 i2 l1 l2)(d:IsZip s.heap z TI TO .none)(H:IsPair s.heap TI (.ref i1) (.ref i2))(h:IsPair s.heap TO a b)
  (v:jk c1 s.heap i1 l1 n1)(u:jk c2 s.heap i2 l2 n2)(t:jQ c1 s.heap l1 xs)(S:jQ c2 s.heap l2 ys)(p:xs[n1]? =some x)(n:ys[n2]? =some y)
  (r:∀h',IsZip h' z TI TO (rawInt s.heap.objs.size)->IsPair h' TI (.ref i1) (.ref i2)->IsPair h' TO x y->jk c1 h' i1 l1 (n1+1)->jk c2 h' i2 l2 (n2+1)->IsPair h' s.heap.objs.size x y->
   (∀c o,c≠z->c≠TO->c≠i1->c≠i2->s.heap.get? c=some o->h'.get? c=some o)->Q (some (.ref s.heap.objs.size)) { s with heap:=h' }):wpAny (model prog w) A (pyNext (.ref z)) Q E s:=by
 have hT:s.TypeIs (.ref z) "zip":=⟨_,d,rfl⟩;unfold pyNext;exact ck (wpAny_attempt (wpAny_callSpecial?_slot (name:=Str.ofString "__next__") hT F.slot_zip_next (wpAny_call_entry F.slot_zip_next hT F.entry_zip_next
  (eZ D d H h v u t S p n λh' l j i g f e q=>cm (r h' l j i g f e q)) (F.args_zip_next_1 _))))
def fe {Q:Option Value->Shared->Prop}(i:A.handled=none)(D:ZipApart z TI TO i1 i2 l1 l2)(d:IsZip s.heap z TI TO .none)(I:IsPair s.heap TI (.ref i1) (.ref i2))(H:IsPair s.heap TO a b)
  (r:jk c1 s.heap i1 l1 n1)(q:jk c2 s.heap i2 l2 n2)(n:jQ c1 s.heap l1 xs)(S:jQ c2 s.heap l2 ys)(h:xs[n1]? =none∨ys[n2]? =none)
  (l:∀h',(∀c o,c≠z->c≠TO->c≠i1->c≠i2->s.heap.get? c=some o->h'.get? c=some o)->Q none { s with heap:=h' }):wpAny (model prog w) A (pyNext (.ref z)) Q E s:=by
 have hT:s.TypeIs (.ref z) "zip":=⟨_,d,rfl⟩;unfold pyNext;refine ck (wpAny_attempt (wpAny_callSpecial?_slot (name:=Str.ofString "__next__") hT F.slot_zip_next (wpAny_call_entry F.slot_zip_next hT F.entry_zip_next (fc i D d I H r q n S h λh' e g p=>?_) (F.args_zip_next_1 _))));obtain⟨o,f,j⟩:=p;exact ck (wpAny_isInstance (T := "StopIteration") (b:=true) ⟨o,f,j⟩ isSubtype_stop (cm (l _ g)))
end
abbrev Wr (h:Heap)(c:Bool)(l:Addr):Heap:=h.push { cls:=.type (QE c),data:=.fields #[.ref l,.int 0 0] }
abbrev Wx (h:Heap)(C c:Bool)(L l:Addr):Heap:=(Wr h C L).push { cls:=.type (QE c),data:=.fields #[.ref l,.int 0 0] }
abbrev Wm (h:Heap)(c C:Bool)(l L:Addr):Heap:=(Wx h c C l L).push { cls:=.type "tuple",data:=.seq #[.ref h.objs.size,.ref (Wr h c l).objs.size] }
abbrev Wz (h:Heap)(C c:Bool)(L l:Addr):Heap:=(Wm h C c L l).push { cls:=.type "tuple",data:=.seq #[.none,.none] }
abbrev Jz (h:Heap)(C c:Bool)(L l:Addr):Heap:=(Wz h C c L l).push { cls:=.type "zip",data:=.fields #[.none,.bool false,.bool false,.ref (Wx h C c L l).objs.size,.ref (Wm h C c L l).objs.size] }
def FQ (c C:Bool)(l L:Addr)(x y:Array Value):
  Meets (Builtin.«zip.__new__» ⟨[.type "zip",.ref l,.ref L],[]⟩) (λ_ R s=>jQ c s.heap l x/\jQ C s.heap L y/\R (.ok (.ret (.ref (Wz s.heap c C l L).objs.size))) { s with heap:=Jz s.heap c C l L }):=
 .of_wp λP w A R s h=>by
  obtain⟨p,g,d,t,a⟩:=s;obtain⟨Q,q,h⟩:=h;have H:=sub_zip;have b:jQ c (Shared.heap ⟨p,g,d,t,a⟩) l x:=Q;have K:jQ C (Shared.heap ⟨p.push { cls:=.type (QE c),data:=.fields #[.ref l,.int 0 0] },g,d,t,a⟩) L y:=q.to λo e=>af _ e
  wp_walk using RL b,RL K
  exact⟨_,rfl,h⟩
section
variable {prog:Program}{A:Around}{c1 c2:Bool}{l1 l2:Addr}{xs ys:Array Value}
def DH (g:jQ c1 s.heap l1 xs)(S:jQ c2 s.heap l2 ys)
  (h:∀h' n,n=s.heap.objs.size->IsZip h' (n+4) (n+2) (n+3) .none->IsPair h' (n+2) (.ref n) (.ref (n+1))->IsPair h' (n+3) .none .none->jk c1 h' n l1 0->jk c2 h' (n+1) l2 0->
   (∀c o,s.heap.get? c=some o->h'.get? c=some o)->Q (.ref (n+4)) { s with heap:=h' }):wpAny (model prog w) A (call (.type "zip") [.ref l1,.ref l2]) Q E s:=by
 refine callType_new F.called_zip (by decide) (F.typeCall_zip_2 _ _) (F.newCall_zip_2 _ _) (λobj=>F.args_object_init_3 obj _ _) F.entry_zip_new (FQ c1 c2 l1 l2 xs ys) ⟨g,S,?_⟩
 have a:(Wr s.heap c1 l1).objs.size=s.heap.objs.size+1:=bc ..;have Z:(Wx s.heap c1 c2 l1 l2).objs.size=s.heap.objs.size+2:=by rw[bc,a]
 have z:(Wm s.heap c1 c2 l1 l2).objs.size=s.heap.objs.size+3:=by rw[bc,Z]
 have b:(Wz s.heap c1 c2 l1 l2).objs.size=s.heap.objs.size+4:=by rw[bc,z]
 have y:(Jz s.heap c1 c2 l1 l2).get? (Wz s.heap c1 c2 l1 l2).objs.size=some _:=aw _ rfl;have Y:(Jz s.heap c1 c2 l1 l2).get? (Wm s.heap c1 c2 l1 l2).objs.size=some _:=af _ (aw _ rfl);have d:(Jz s.heap c1 c2 l1 l2).get? (Wx s.heap c1 c2 l1 l2).objs.size=some _:=af _ (af _ (aw _ rfl));have e:(Jz s.heap c1 c2 l1 l2).get? (Wr s.heap c1 l1).objs.size=some _:=af _ (af _ (af _ (aw _ rfl)));have f:(Jz s.heap c1 c2 l1 l2).get? s.heap.objs.size=some _:=af _ (af _ (af _ (af _ (aw _ rfl))));show _/\_;rw[Z,z,b]at y;rw[a,Z]at d;rw[z]at Y;rw[a]at e;rw[b];exact⟨⟨_,y,rfl⟩,h _ _ rfl y d Y (.mk ⟨_,f,rfl,rfl⟩) (.mk ⟨_,e,rfl,rfl⟩) λc o q=>
  af _ (af _ (af _ (af _ (af _ q))))⟩
end
def VX (C c:Bool)(K:Frag)(p q:Addr):It:=
 ⟨λi H=>∃X Y x y,yn C K H p X/\yn c K H q Y/\X[i]? =some x/\Y[i]? =some y,
  λi H v h=>∃t x y,(∀X,yn C K H p X->X[i]? =some x)/\(∀Y,yn c K H q Y->Y[i]? =some y)/\H t=none/\v=.ref t/\h=upd H t (.tup [x,y]),
  λi H=>∃X Y,yn C K H p X/\yn c K H q Y/\(X[i]? =none∨Y[i]? =none)⟩
def CG {K:Frag}(c1 c2:Bool)(p q z TI TO t r:Addr)(D:ZipApart z TI TO t r p q):
  Turn P w K (.Tuple lN kk l7) (VX c1 c2 K p q) [z,TI,TO,t,r] z (λi h=>IsZip h z TI TO .none/\IsPair h TI (.ref t) (.ref r)/\(∃a b,IsPair h TO a b)/\jk c1 h t p i/\jk c2 h r q i) where
 mem:=by simp
 obj:=λi h st b d=>by
  obtain⟨j,g,⟨Q,N,f⟩,g1,g2⟩:=st;simp only[mem_cons,not_mem_nil,or_false]at d;rcases d with rfl|rfl|rfl|rfl|rfl
  ·exact⟨_,j,λv e=>nomatch e⟩
  ·exact⟨_,g,λv e=>nomatch e⟩
  ·exact⟨_,f,λv e=>nomatch e⟩
  ·obtain⟨o,B,_,hd⟩:=g1.ob;exact⟨o,B,λv e=>by rw[hd]at e;cases e⟩
  ·obtain⟨o,B,_,hd⟩:=g2.ob;exact⟨o,B,λv e=>by rw[hd]at e;cases e⟩
 keep:=λi h h' ⟨j,g,⟨Q,N,f⟩,g1,g2⟩ k=>⟨k z (by simp) _ j,k TI (by simp) _ g,⟨Q,N,k TO (by simp) _ f⟩,g1.to λo e=>k t (by simp) o e,g2.to λo e=>k r (by simp) o e⟩
 item:=by
  intro X hP hw hK hc i l0 s σ H E I hf st hg;subst hP hw hK;obtain⟨j,g,⟨Q,N,f⟩,g1,g2⟩:=st;obtain⟨xs,ys,x,y,h1,M,ex,ey⟩:=hg;obtain⟨n,r1,u,_⟩:=I.sq h1;obtain⟨l,r2,S,_⟩:=I.sq M;obtain⟨T,eu1,Z⟩:=r1.get ex;obtain⟨U,eu2,Y⟩:=r2.get ey;refine CW D j g f g1 g2 u S (x:=T) (y:=U) (by simpa using eu1) (by simpa using eu2) λhh z1 z2 z3 z4 z5 z6 kp=>?_
  refine⟨_,rfl,wpAny_letOwnedTupleGo_zip z1 λhk zk J=>?_⟩;have lt:∀{c o},s.heap.get? c=some o->c≠s.heap.objs.size:=λe=>aJ (aG e);have T2:IsPair hk s.heap.objs.size T U:=J.extBut _ _ (lt j).symm z6;have fre:∀b∈[z,TI,TO,t,r],b≠s.heap.objs.size:=λb d=>by
   simp only[mem_cons,not_mem_nil,or_false]at d;rcases d with rfl|rfl|rfl|rfl|rfl
   ·exact lt j
   ·exact lt g
   ·exact lt f
   ·obtain⟨o,B,_⟩:=g1.ob;exact lt B
   ·obtain⟨o,B,_⟩:=g2.ob;exact lt B
  refine⟨.ref s.heap.objs.size,upd H s.heap.objs.size (.tup [x,y]),?_,rfl,⟨s.heap.objs.size,x,y,λzs A=>by rw[I.sq_inj A h1];exact ex,λzs A=>by rw[I.sq_inj A M];exact ey,I.hok.fresh (ar _),rfl,rfl⟩,
   ⟨zk,J.extBut _ _ D.TIz z2,⟨_,_,J.extBut _ _ D.TOz z3⟩,z4.to λo e=>J.extBut _ _ D.i1z e,z5.to λo e=>J.extBut _ _ D.i2z e⟩,λb d=>?_⟩
  ·refine I.spun (fp:=[z,TI,TO,t,r]) (t':=s.toks) (λb o d eo=>?_) hf (ar _) ?_
   ·exact J.extBut _ _ (λe=>d (by simp[e])) (kp b o (λe=>d (by simp[e])) (λe=>d (by simp[e])) (λe=>d (by simp[e])) (λe=>d (by simp[e])) eo)
   ·exact⟨by show 2<=sizeLine;decide,[T,U],.cons Z (.cons Y .nil),_,T2,⟨rfl,rfl⟩,0,rfl⟩
  ·show upd H s.heap.objs.size _ b=none
   rw[qi (fre b d)];exact(hf b d).1
 done:=by
  intro X hP hw hK hc i l0 s σ H E I hf st hg;subst hP hw hK;obtain⟨j,g,⟨Q,N,f⟩,g1,g2⟩:=st;obtain⟨xs,ys,h1,M,L⟩:=hg;obtain⟨n,r1,u,_⟩:=I.sq h1;obtain⟨l,r2,S,_⟩:=I.sq M;have C:n.toArray[i]? =none∨l.toArray[i]? =none:=by
   rcases L with e|e
   ·exact .inl (by simpa using r1.none_of e)
   ·exact .inr (by simpa using r2.none_of e)
  exact fe (I.ok.hd hc) D j g f g1 g2 u S C λhh kp=>⟨rfl,I.spun0 (fp:=[z,TI,TO,t,r]) (t':=s.toks) (λb o d eo=>kp b o (λe=>d (by simp[e])) (λe=>d (by simp[e])) (λe=>d (by simp[e])) (λe=>d (by simp[e])) eo) hf⟩
 self:=λ_ _ _ _ _ st h=>wpAny_pyIter_zip st.1 h
section
variable {a b:Expr}{m:Ev}
def fg (K:Frag)(t:TA):TI:=λa H R=>t a H λv h=>∃p q C c x y,v=[.ref p,.ref q]/\yn C K h p x/\yn c K h q y/\R (VX C c K p q) h
def fh {T:TA}(U:Gl X "zip")(hm:X.mg "zip"=none)(Y:PA X [a,b] T)(N:starEach [a,b] X.env=(false,eval a X.env)::starEach [b] X.env)(P:(backTo pos (starEach [b] X.env)).any (·.1)=false):
  PI X (.Tuple lN kk l7) (.Call (.Name "zip" p) [a,b] [] pos) (fg X.K T):=by
 intro l0 s σ H R I h;refine Call_ (gJ I U hm boot_zip (PyProof.Rows.callWith_type1 (zQ (Y pos l0 s σ H _ I h) λus s1 ⟨vs,H1,g,M,Q⟩=>?_) N P));obtain⟨p,q,c1,c2,xs,ys,rfl,h1,h2,hR⟩:=Q;obtain⟨u1,u2,rfl,o,r⟩:=M.two;cases o;cases r;obtain⟨w,J,d,_⟩:=g.sq h1;obtain⟨v,C,S,_⟩:=g.sq h2;obtain⟨op,u,_⟩:=d.ob;obtain⟨oq,t,_⟩:=S.ob;have L:p<s1.heap.objs.size:=aG u;have l:q<s1.heap.objs.size:=aG t;refine DH d S λh' n E z B A y Z kp=>wpAny_pyIter_zip z ?_;rw[<- E]at L l;have ne1:∀(i j:Nat),i≠j->n+i≠n+j:=λi j h e=>h (Nat.add_left_cancel e);have ne2:∀(c:Nat)(i:Nat),c<n->c≠n+i:=λc i h e=>absurd h (by rw[e];exact Nat.not_lt.mpr (le_add_right n i))
 have D:ZipApart (n+4) (n+2) (n+3) (n+0) (n+1) p q:=⟨ne1 2 4 (by decide),ne1 3 4 (by decide),ne1 0 4 (by decide),ne1 1 4 (by decide),ne1 2 3 (by decide),ne1 2 0 (by decide),ne1 2 1 (by decide),ne1 3 0 (by decide),ne1 3 1 (by decide),ne1 0 1 (by decide),
  ne2 p 4 L,ne2 p 3 L,ne2 p 0 L,ne2 p 1 L,ne2 q 4 l,ne2 q 3 l,ne2 q 0 l,ne2 q 1 l⟩
 refine⟨n+4,[n+4,n+2,n+3,n,n+1],_,_,H1,rfl,g.kept (t':=s1.toks) kp,CG c1 c2 p q _ _ _ _ _ D,⟨z,B,⟨_,_,A⟩,y,Z⟩,λc x=>?_,hR⟩;have f:s1.heap.objs.size<=c:=by
  rw[<- E];simp only[mem_cons,not_mem_nil,or_false]at x;rcases x with rfl|rfl|rfl|rfl|rfl
  ·exact le_add_right _ _
  ·exact le_add_right _ _
  ·exact le_add_right _ _
  ·exact ar _
  ·exact le_add_right _ _
 exact g.fpOk f (g.hok.fresh f)
noncomputable def zip2:Option W->Option W->Option W
 |some x,some y=>some (.tup [x,y])|_,_=>none
def Z7 (w a:W)(n:Nat):jo:=⟨λA i=>match zI w A,zI a A with
 |some u,some v=>some (zip2 u[i]? v[i]?)|_,_=>none,n⟩
def fi {K:Frag}{w a:W}{p P:Addr}(q:RV K φ H w (.ref p))(Q:RV K φ H a (.ref P)):Qe K φ H (Z7 w a n) (VX (Z2 w) (Z2 a) K p P):=λi b D A N S=>by
 unfold Z7;dsimp only;cases es:zI w A with
 |none=>exact⟨λ_ z=>(by cases z),λz=>(by cases z)⟩|some U=>
  cases es':zI a A with
  |none=>exact⟨λ_ z=>(by cases z),λz=>(by cases z)⟩|some vs=>
   dsimp only;obtain⟨J,M,d⟩:=Y9 q N S es;obtain⟨L,h,c⟩:=Y9 Q N S es';have non:∀{U:List W}{J:List V},zr K b D U J->U[i]? =none->J[i]? =none:=λr e=>by
    rw[List.getElem?_eq_none_iff]at e ⊢;rw[<- r.length];exact e
   cases g:U[i]? with
   |none=>exact⟨λ_ z=>(by cases z),λ_=>⟨J,L,M,h,.inl (non d g)⟩⟩|some x=>
    cases E:vs[i]? with
    |none=>exact⟨λ_ z=>(by cases z),λ_=>⟨J,L,M,h,.inr (non c E)⟩⟩|some y=>
     refine⟨λu z=>?_,λz=>(by cases z)⟩
     cases z;obtain⟨j,f1,f2⟩:=d.get g;obtain⟨v,f,f4⟩:=c.get E;refine⟨⟨J,L,j,v,M,h,f1,f⟩,λX H1 ⟨t,I,Y,o,l,s,ex,B⟩=>?_⟩;subst ex B;have Z:=o J M;have T:=l L h;rw[f1]at Z;cases Z;rw[f]at T;cases T;obtain⟨a1,a2,C⟩:=ZV S s (.cons f2 (.one f4));exact⟨a1,a2,C⟩
def Qa (m M:Ev):Ei:=λc A=>(m c A).bind λw d=>(M c d).bind λa b=>match zI w b,zI a b with
 |some u,some _=>.ok (Z7 w a u.length) b|_,_=>.bad
variable {K:Frag}
noncomputable def Jy:Ev:=λ_ A=>.ok (.ref A.length) (A++[.dct []])
noncomputable def Jw:W->Option Key
 |.int i=>some (.inl i)|_=>none
noncomputable def jj (k:Key):List (Key×W)->Option W
 |[]=>none|(j,w)::r=>if j=k then some w else jj k r
theorem So (k:Key):∀{s:List (Key×W)}{u:List (Key×V)},u.map (·.1)=s.map (·.1)->zr K φ H (s.map (·.2)) (u.map (·.2))->
  (∀w,jj k s=some w->∃v,kY u k=some v/\RV K φ H w v)/\(jj k s=none->kY u k=none)
 |[],[],_,_=>⟨λw h=>(by cases h),λ_=>rfl⟩|[],_::_,h,_=>by simp at h|_::_,[],h,_=>by simp at h|(j,w)::s,(J,v)::u,h,r=>by
  simp only[aK,List.cons.injEq]at h;obtain⟨f,g,e,o,c⟩:=r;simp only[aK,List.cons.injEq]at e;obtain⟨rfl,rfl⟩:=e;have i:=So k h.2 c;have b:J=j:=h.1;subst b
  by_cases a:J=k
  ·refine⟨λd l=>⟨v,Kq a,?_⟩,λn=>?_⟩
   ·unfold jj at l;rw[ah a]at l;cases l;exact o
   ·unfold jj at n;rw[ah a]at n;cases n
  ·unfold jj
   rw[ai a,Ku (p:=(J,v)) a];exact i
theorem zF.dct {d:bT}{A:Hx}{H:Hp}{n:Nat}{s:List (Key×W)}{v:V}(S:zF K d A H)(q:RV K d H (.ref n) v)(e:A[n]? =some (.dct s)):∃p us,v=.ref p/\d[n]? =some p/\H p=some (.dK us)/\us.map (·.1)=s.map (·.1)/\zr K d H (s.map (·.2)) (us.map (·.2)):=by
 obtain⟨p,rfl,f⟩:=q;obtain⟨P,h,us,c,b,a⟩:=S.ob n _ e;rw[f]at h;cases h;exact⟨p,us,rfl,f,c,b,a⟩
def Ye:W->W->Hx->R W:=λd k A=>match d,Jw k with
 |.ref n,some k=>match A[n]? with
  |some (.dct lG)=>match jj k lG with
   |some w=>.ok w A|none=>.bad
  |_=>.bad
 |_,_=>.bad
end
mutual
noncomputable def W.beq:W->W->Bool
 |.non,.non=>true|.bl a,.bl b=>a==b|.int a,.int b=>decide (a=b)|.str a,.str b=>decide (a=b)|.tup a,.tup b=>Yt a b|_,_=>false
noncomputable def Yt:List W->List W->Bool
 |[],[]=>true|a::as,b::bs=>a.beq b&&Yt as bs|_,_=>false
end
mutual
theorem W.eq_of:∀{a b:W},a.beq b=true->a=b
 |.non,.non,_=>rfl|.bl a,.bl b,h=>by have H:(a==b)=true:=h;rw[aM]at H;rw[H]|.int a,.int b,h=>by have H:decide (a=b)=true:=h;rw[ao]at H;rw[H]|.str a,.str b,h=>by have H:decide (a=b)=true:=h;rw[ao]at H;rw[H]|.tup a,.tup b,h=>by have H:Yt a b=true:=h;rw[OA H]|.non,.bl _,h=>nomatch h|.non,.int _,h=>nomatch h|.non,.str _,h=>nomatch h|.non,.tup _,h=>nomatch h|.non,.ref _,h=>nomatch h
 |.bl _,.non,h=>nomatch h|.bl _,.int _,h=>nomatch h|.bl _,.str _,h=>nomatch h|.bl _,.tup _,h=>nomatch h|.bl _,.ref _,h=>nomatch h
 |.int _,.non,h=>nomatch h|.int _,.bl _,h=>nomatch h|.int _,.str _,h=>nomatch h|.int _,.tup _,h=>nomatch h|.int _,.ref _,h=>nomatch h
 |.str _,.non,h=>nomatch h|.str _,.bl _,h=>nomatch h|.str _,.int _,h=>nomatch h|.str _,.tup _,h=>nomatch h|.str _,.ref _,h=>nomatch h
 |.tup _,.non,h=>nomatch h|.tup _,.bl _,h=>nomatch h|.tup _,.int _,h=>nomatch h|.tup _,.str _,h=>nomatch h|.tup _,.ref _,h=>nomatch h
 |.ref _,.non,h=>nomatch h|.ref _,.bl _,h=>nomatch h|.ref _,.int _,h=>nomatch h|.ref _,.str _,h=>nomatch h|.ref _,.tup _,h=>nomatch h|.ref _,.ref _,h=>nomatch h
theorem OA:∀{a b:List W},Yt a b=true->a=b
 |[],[],_=>rfl|a::as,b::bs,h=>by
  have H:(a.beq b&&Yt as bs)=true:=h;rw[av]at H;rw[W.eq_of H.1,OA H.2]
 |[],_::_,h=>nomatch h
 |_::_,[],h=>nomatch h
end
section
variable {K:Frag}
def FD (K:Frag)(x:Str)(s:Stmt):Prop:=∃f d,kI K x x s f d/\nsIn K mainGlobals x=some (some (.ref f))
def zcv {s:Stmt}{b:Value}{o A:cf}{kV d p C ct:Value}(a:nsIn K mainGlobals x=some (some (.ref f)))
  (l:K.lookup f=some ⟨b,o,.func (fnOf x x (Zk s) (yJ s) (qh s) .none kV d p A C ct),lQ⟩)(c:codeIn K C x=true)(k:keepIn K (.ref f)=true):FD K x s:=⟨f,_,d6 l c k,a⟩
def CD (K:Frag)(x:Str)(i:Int):Prop:=∃t,nsIn K mainGlobals x=some (some (.int i t))
def zcx {i:Int}{t:Tok}(a:nsIn K mainGlobals x=some (some (.int i t))):CD K x i:=⟨t,a⟩
end
open PySem PySem.Spec PyProof.Rows L2 Mi
@[irreducible] noncomputable def zp (X:Cx)(x:XR)(e:Expr)(m:Ev):Prop:=Mi.SE X x e m
def KZ:@zp=@Mi.SE:=by
 funext X xr e m
 unfold zp
 rfl
@[irreducible] noncomputable def yI (X:Cx)(x:XR)(e:bY)(m:Ea):Prop:=Mi.SA X x e m
def Xx:@yI=@Mi.SA:=by
 funext X xr es m
 unfold yI
 rfl
@[irreducible] noncomputable def yc (X:Cx)(x:XR)(e:Expr)(m:Ev):Prop:=Mi.ST X x e m
def XT:@yc=@Mi.ST:=by
 funext X xr e m
 unfold yc
 rfl
@[irreducible] noncomputable def wg (X:Cx)(x:XR)(e:Expr)(m:Ev):Prop:=Mi.SW X x e m
def XX:@wg=@Mi.SW:=by
 funext X xr e m
 unfold wg
 rfl
@[irreducible] noncomputable def yb (X:Cx)(x:XR)(s:Stmt)(m:Ex):Prop:=Mi.SS X x s m
def X0:@yb=@Mi.SS:=by
 funext X xr st m
 unfold yb
 rfl
@[irreducible] noncomputable def yP (X:Cx)(x:XR)(s:cg)(m:Ex):Prop:=Mi.JE X x s m
def Xg:@yP=@Mi.JE:=by
 funext X xr st m
 unfold yP
 rfl
@[irreducible] noncomputable def yQ (X:Cx)(x:XR)(t e:Expr)(m:Ei):Prop:=Mi.SI X x t e m
def XW:@yQ=@Mi.SI:=by
 funext X xr tg e m
 unfold yQ
 rfl
@[irreducible] noncomputable def kG (X:Cx)(t:Expr)(m:Tg):Prop:=Mi.SG X t m
def X6:@kG=@Mi.SG:=by
 funext X tg m
 unfold kG
 rfl
@[irreducible] noncomputable def gY (X:Cx)(x:XR)(e:Expr)(m:jO):Prop:=Mi.SF X x e m
def XN:@gY=@Mi.SF:=by
 funext X xr e m
 unfold gY
 rfl
@[irreducible] noncomputable def wj (X:Cx)(x:XR)(e:Expr)(m:jO):Prop:=Mi.SQ X x e m
def Xv:@wj=@Mi.SQ:=by
 funext X xr e m
 unfold wj
 rfl
@[irreducible] noncomputable def k8 (X:Cx)(e:bY)(m:Ev):Prop:=Mi.YE X e m
def G9:@k8=@Mi.YE:=by
 funext X es m
 unfold k8
 rfl
@[irreducible] noncomputable def wm (X:Cx)(e:Expr)(g:List Comprehension)(s:Scope)(c:Pos)(d:Nat)(E:Em):Prop:=Mi.SM X e g s c d E
def XJ:@wm=@Mi.SM:=by
 funext X lL gens sc lJ d em
 unfold wm
 rfl
section
variable {xr:XR}{K:Frag}{a b c:Expr}{es:bY}{m ma mb mc:Ev}{m1 m2:Ex}{st:Stmt}{lI:cg}
def zW:@zp=@Mi.SE/\@yI=@Mi.SA/\@yc=@Mi.ST/\@wg=@Mi.SW/\@yb=@Mi.SS/\@yP=@Mi.JE/\@yQ=@Mi.SI/\@kG=@Mi.SG/\@gY=@Mi.SF/\@wj=@Mi.SQ/\@k8=@Mi.YE/\@wm=@Mi.SM:=⟨KZ,Xx,XT,XX,X0,Xg,XW,X6,XN,Xv,G9,XJ⟩
def Qr {M:Ea}(a:zp X xr e ma)(H:yI X xr es M)(h:starEach (e::es) X.env=(false,eval e X.env)::starEach es X.env:=by rfl):yI X xr (e::es) (zc ma M):=by
 try simp only[zW]at*
 exact Mi.Pq a H h
def KU:yI X xr [] zh:=by
 try simp only[zW]at*
 exact Mi.PX
def Bk (H:zp X xr a ma)(h:zp X xr b mb):zp X xr (.BinOp a .Add b pos) (zi zL ma mb):=by
 try simp only[zW]at*
 exact Qz (dq.or (AO.or (E9.or d2))) eK BB H h
def AE {q:jO}(H:X.calm=true)(b:X.mg "all"=none)(a:wj X xr e q)(h:Gl X "all":=by rfl)(c:starEach [e] X.env=(false,eval e X.env)::starEach [] X.env:=by rfl):
  zp X xr (.Call (.Name "all" p) [e] [] pos) (mQ wK q):=by
 try simp only[zW]at*
 exact Vr (DR H) eJ AU b (by rfl) a h (by decide) (by decide) c (by rfl)
def Av {r:bY}(e:zp X xr a ma)(d:zp X xr (.BoolOp .And (b::r) pos) mb):zp X xr (.BoolOp .And (a::b::r) pos) (jz ma mb):=by
 try simp only[zW]at*
 exact PE.imp (cT e d) λp H Q ⟨o,A,i,S,g,h⟩=>by
   refine tM.go S g (zT.mp h) λw n c j v f l s q=>?_;cases w with
   |bl k=>
    refine⟨k,q,?_⟩;cases k with
    |true=>rw[ah rfl];exact⟨c,n,i,s,g.mono l,qo f (λ_ _ z=>z.mono l) λ_ _ z=>z.mono l⟩|false=>rw[ai aA];exact f c j _ l s rfl
   |non=>cases f|int _=>cases f|str _=>cases f|tup _=>cases f|ref _=>cases f|clo _ _ _=>cases f|xc _=>cases f|fn _=>cases f
def fj {i j}:zp X xr (.Constant (.bool i) j pos) (zZ (.bl i)):=by
 try simp only[zW]at*
 exact PE.imp cI λb H Q ⟨a,A,c,S,r,h⟩=>h a H _ .refl S rfl
def Vs {g:W->W->Hx->R W}(h:kM X op g)(c:zp X xr a ma)(H:zp X xr b mb)(e:op≠.In:=by decide)(d:op≠.NotIn:=by decide):zp X xr (.Compare a [op] [b] pos) (zi g ma mb):=by
 try simp only[zW]at*
 exact let ⟨r,i,f,A⟩:=h.ex;Ov i f A c H (h.mks b e d)
def P9 {o:CmpOp}{g l:W->W->Hx->R W}(h:kM X op g)(p:kM X o l)(e:zp X xr a ma)(d:zp X xr b mb)(H:zp X xr c mc)(n:lastMarks [op,o] [b,c]=false:=by with_unfolding_all rfl):
  zp X xr (.Compare a [op,o] [b,c] pos) (yt g l ma mb mc):=by
 try simp only[zW]at*
 exact let ⟨r,s,q,A⟩:=h.ex;let ⟨j,i,f,B⟩:=p.ex;DM s q A i f B e d H n
def Rl {k:Nat}{f:Fn}{M:Ea}(F:zU X.prog X.w X.K X.mg X.base k x n f)(r:qP k X.A)(s:yI X yi (e::es) M)(g:kP M n:=by repeat' (first|exact ZW|refine ZP ?_))(j:Gl X x:=by rfl)
  (c:(x==("__debug__":Str))=false:=by decide)(Y:starEach (e::es) X.env=(false,eval e X.env)::starEach es X.env:=by rfl)(l:(backTo pos (starEach es X.env)).any (·.1)=false:=by rfl):
  zp X yi (.Call (.Name x p) (e::es) [] pos) (zw f M):=by
 try simp only[zW]at*
 obtain⟨B,fd,ps,F,U,i,o⟩:=F;refine PE.imp (Pc F r j U i o .nil d4 s c Y l) λZ H Q ⟨N,A,D,S,T,h⟩=>?_;have C:=zT.mp h;refine⟨N,A,D,S,T,?_⟩;cases E:M D A with
 |ok J I=>
  rw[E]at C;intro b H1 P L u q;have v:P.length=n:=by rw[<- q.length];exact g D A J I E
  rw[bx];exact⟨v,b,I,J,u,q,qo C (λ_ _ z=>z.mono L) λx A2 z a y d t=>(z a y (L.trans d) t).elim⟩
 |exc x I=>rw[E]at C;exact C|bad=>rw[E]at C;exact C
def OC {g:W->W->Hx->R W}(h:WB X op g)(c:zp X xr a ma)(H:zp X xr b mb)(d:behindInMarks op b=false:=by rfl):zp X xr (.Compare a [op] [b] pos) (zi g ma mb):=by
 try simp only[zW]at*
 exact let ⟨r,f,e,A⟩:=h.ex;Ov f e A c H d
def Ar:zp X xr (.Dict [] [] pos) Jy:=by
 try simp only[zW]at*
 exact PE.imp DL λc H Q ⟨b,A,d,S,r,h⟩ p a=>by
  obtain⟨l,s⟩:=S.alloc (o:=.dct []) a (u:=.dK []) ⟨[],ji,rfl,.nil⟩;exact h _ _ _ l s ⟨p,rfl,by rw[<- S.len];simp⟩
def Ee {k:Nat}(x:qP k X.A)(B:zp X xr a ma)(y:zp X xr b mb)(u:VG b:=by intro _ _;rfl):zp X xr (.Subscript a b pos) (zi Ye ma mb):=by
 try simp only[zW]at*
 exact PE.imp (Ad (OZ x) B y u) λY H Q ⟨U,A,Z,S,I,h⟩=>by
   refine tM.go S I (zT.mp h) λw A1 f H1 v J l C j=>?_;refine tM.go C (I.mono l) (qo (zT.mp J) (λ_ _ z=>z) λ_ _ z=>z.mono l) λg T d D v2 c L s q=>?_;unfold Ye at c;cases w with
   |ref n=>
    cases g with
    |int i=>
     obtain rfl:=q;dsimp only[Jw]at c;cases e:T[n]? with
     |none=>rw[e]at c;exact c.elim|some o=>cases o with
      |dct K=>
       rw[e]at c;dsimp only at c;obtain⟨p,us,rfl,f1,P,N,M⟩:=s.dct (j.mono L) e;cases E:jj (.inl i) K with
       |none=>rw[E]at c;exact c.elim|some w=>
        rw[E]at c;obtain⟨v,t,r⟩:=(So (.inl i) N M).1 w E;refine⟨p,v,rfl,?_,c d D v (l.trans L) s r⟩;rw[<- t];exact Jr.k (k:=.inl i) P
      |_=>rw[e]at c;exact c.elim
    |_=>exact c.elim
   |_=>exact c.elim
def Ct {i:Int}{t:Tok}(g:Gl X x)(b:X.mg x=some (.int i t))(d:(x==("__debug__":Str))=false:=by decide):zp X xr (.Name x pos) (zZ (.int i)):=by
 try simp only[zW]at*
 exact PE.imp (Bi g b (v:=.int i) ⟨t,rfl⟩ d) λc H Q ⟨a,A,e,S,r,h⟩=>h a H _ .refl S rfl
def fk {c:Expr}(e:yc X xr c mc)(g:zp X xr a ma)(f:zp X xr b mb):zp X xr (.IfExp c a b pos) (NJ mc ma mb):=by
 try simp only[zW]at*
 exact PE.imp (Du e g f) λp H Q ⟨o,A,j,S,r,h⟩=>by
   refine tT.go S r (zT.mp h) λw n i=>?_;cases w with
   |bl k=>
    refine⟨k,rfl,λd q l s=>?_⟩;cases k with
    |true=>rw[ah rfl];exact⟨d,n,j,s,r.mono l,qo i (λ_ _ z=>z.mono l) λ_ _ z=>z.mono l⟩|false=>rw[ai aA];exact⟨d,n,j,s,r.mono l,qo i (λ_ _ z=>z.mono l) λ_ _ z=>z.mono l⟩
   |non=>cases i|int _=>cases i|str _=>cases i|tup _=>cases i|ref _=>cases i|clo _ _ _=>cases i|xc _=>cases i|fn _=>cases i
def CU {i j}:zp X xr (.Constant (.int i) j pos) (zZ (.int i)):=by
 try simp only[zW]at*
 exact PE.imp cH λb H Q ⟨a,A,c,S,r,h⟩=>h a H _ .refl S rfl
def K5 (t:Ty){P:Pos}(o:X.mg "isinstance"=none)(b:X.mg x=none)(d:bootBuiltins x=some (.type t.nm))(f:zp X xr e m)(g:Gl X "isinstance":=by rfl)(c:Gl X x:=by rfl)
  (n:x ≠ "__name__":=by decide)(u:(x==("__debug__":Str))=false:=by decide)
  (j:starEach [e,.Name x P] X.env=(false,eval e X.env)::starEach [.Name x P] X.env:=by rfl)(i:(backTo pos (starEach [.Name x P] X.env)).any (·.1)=false:=by rfl):
  zp X xr (.Call (.Name "isinstance" p) [e,.Name x P] [] pos) (jN t m):=by
 try simp only[zW]at*
 exact PE.imp (wV eF g o (by rfl) (qU f (qU (Kz c b d (v:=.ty t.nm) rfl n u) jB) j) (by decide) (by decide) j i) λC H Q ⟨B,A,D,S,r,h⟩=>by
   refine tM.go S r (zT.mp h) λw z a y v j l s q=>?_;cases E:q9 w z with
   |none=>rw[E]at j;exact j.elim|some T=>
    rw[E]at j;exact⟨v,T,t,rfl,Rx s q E,j a y _ l s rfl⟩
def fm (c:zp X xr a ma)(H:zp X xr b mb)(h:Pn b:=by intro _ _;rfl):zp X xr (.Subscript a b pos) (zi zH ma mb):=by
 try simp only[zW]at*
 exact PE.imp (dR dV c H h) (zi.read eG eH)
def CZ {q:jO}(a:X.mg "len"=none)(H:wj X xr e q)(h:Gl X "len":=by rfl)(b:starEach [e] X.env=(false,eval e X.env)::starEach [] X.env:=by rfl):
  zp X xr (.Call (.Name "len" p) [e] [] pos) (mQ qw q):=by
 try simp only[zW]at*
 exact Vr L4 (λ_ _=>jG) AH a (by rfl) H h (by decide) (by decide) b (by rfl)
def D7 {q:jO}(h:gY X xr e q):zp X xr e (qj q):=by
 try simp only[zW]at*
 exact PE.imp h qj.read
def Fc {P C:Pos}(t:X.calm=true)(M:X.mg "list"=none)(e:X.mg "range"=none)(u:zp X xr a ma)(o:Gl X "list":=by rfl)(f:Gl X "range":=by rfl)(s:starEach [a] X.env=[(false,eval a X.env)]:=by rfl)
  (c:starEach [.Call (.Name "range" P) [a] [] C] X.env=(false,eval (.Call (.Name "range" P) [a] [] C) X.env)::starEach [] X.env:=by rfl):
  zp X xr (.Call (.Name "list" p) [.Call (.Name "range" P) [a] [] C] [] pos) (JZ ma):=by
 try simp only[zW]at*
 exact PE.imp (Qo (HW t) o M (by rfl) (qU (Bl f e (qU u jB (by rw[s];rfl)) s) jB c) (by decide) (by decide) c (by rfl)) λT H Q ⟨N,A,U,S,I,h⟩=>by
   refine tM.go S I (zT.mp h) λw Y b E v D L z q=>?_;cases w with
   |int j=>
    obtain rfl:=q;dsimp only at D
    by_cases d:(jt j&&decide (j.toNat<=zR))=true
    ·rw[ah d]at D
     rw[av,ao]at d;refine⟨j,rfl,λp g=>⟨p,j,rfl,ji,ZM d.1,Zg d.2,λl n=>?_⟩⟩;have J:Le X.K b E b (upd E p (.rng 0 j)):=Le.new g;have r:zr X.K b (upd E p (.rng 0 j)) ((List.range j.toNat).map λ(i:Nat)=>W.int i) (QO j.toNat):=by
      have:=(zr.ints (K:=X.K) (φ:=b) (H:=upd E p (.rng 0 j)) (ns:=(List.range j.toNat).map λ(i:Nat)=>(i:Int)) (vs:=QO j.toNat)).mpr (by unfold QO;simp)
      rw[aU]at this;exact this
     obtain⟨y,x,B⟩:=w8 (z.lay g) n r;exact D _ _ _ ((L.trans J).trans y) x B
    ·rw[ai d]at D;exact D.elim
   |_=>exact D.elim
def Cu {M:Ea}(h:yI X xr es M)(H:kP M n)(c:n<=zR:=by decide):zp X xr (.List es pos) (zJ M):=by
 try simp only[zW]at*
 exact ez h λb A w a e=>by rw[H b A w a e];exact Zg c
def DS {q:jO}(H:X.calm=true)(b:X.mg "max"=none)(a:wj X xr e q)(h:Gl X "max":=by rfl)(c:starEach [e] X.env=(false,eval e X.env)::starEach [] X.env:=by rfl):
  zp X xr (.Call (.Name "max" p) [e] [] pos) (mQ j4 q):=by
 try simp only[zW]at*
 exact Vr (Fj H) eS Ap b (by rfl) a h (by decide) (by decide) c (by rfl)
def DA (e:X.calm=true)(w:X.mg "min"=none)(o:zp X xr a ma)(n:zp X xr b mb)(l:Gl X "min":=by rfl)(z:starEach [a,b] X.env=(false,eval a X.env)::starEach [b] X.env:=by rfl)(r:starEach [b] X.env=(false,eval b X.env)::starEach [] X.env:=by rfl)(h:(backTo pos (starEach [b] X.env)).any (·.1)=false:=by rfl):
  zp X xr (.Call (.Name "min" p) [a,b] [] pos) (zi Z1 ma mb):=by
 try simp only[zW]at*
 exact Vg (Et e) Z6 (λt A H x y u v Q S d c p=>by
   obtain⟨i,j,s,E,q⟩:=ZX (K:=X.K) (f:=λi j=>.int (if j<i then j else i)) (g:=λi j=>.int (if j<i then j else i)) (λ_ _ _ _=>rfl) t A H x y u v Q S d c p;subst s;subst E;exact⟨i,j,rfl,q⟩) w (by rfl) o n l (by decide) (by decide) z r h
def AN (H:zp X xr a ma)(h:zp X xr b mb):zp X xr (.BinOp a .Mod b pos) (zi kr ma mb):=by
 try simp only[zW]at*
 exact Qz du Vl (Xw Be λ_ _ _ _=>rfl) H h
def Ba (H:zp X xr a ma)(h:zp X xr b mb):zp X xr (.BinOp a .Mult b pos) (zi ja ma mb):=by
 try simp only[zW]at*
 exact Qz (dt.or d3) eL AB H h
def fo (h:zp X xr a ma):zp X xr (.UnaryOp .USub a pos) (qE kO ma):=by
 try simp only[zW]at*
 exact ew dz (λx A=>by unfold kO;split;exact jG;exact qD) (λb A H x u Q S q p=>by
  cases u with
  |int i=>obtain rfl:=q;exact⟨i,rfl,p b H _ .refl S rfl⟩|_=>exact p.elim) h
def Br {j}:zp X xr (.Constant .none j pos) (zZ .non):=by
 try simp only[zW]at*
 exact PE.imp cJ λb H Q ⟨a,A,c,S,r,h⟩=>h a H _ .refl S rfl
def BE (c:zp X xr a ma):zp X xr (.UnaryOp .Not a pos) (qW ma):=by
 try simp only[zW]at*
 exact PE.imp (cU c) λg H Q ⟨f,A,i,S,r,h⟩=>by
   refine tM.go S r (zT.mp h) λw j b e v d l s q=>?_;cases w with
   |bl k=>exact⟨k,q,d b e _ l s rfl⟩|non=>cases d|int _=>cases d|str _=>cases d|tup _=>cases d|ref _=>cases d|clo _ _ _=>cases d|xc _=>cases d|fn _=>cases d
def Az {op}(h:zp X xr a ma):zp X xr (.BoolOp op [a] pos) ma:=by
 try simp only[zW]at*
 exact cS h
def AZ (H:zp X xr a ma)(h:zp X xr b mb):zp X xr (.BinOp a .Sub b pos) (zi j5 ma mb):=by
 try simp only[zW]at*
 exact Qz dr Z6 (ZX λ_ _ _ _=>rfl) H h
def Dp {x1}{M:Ea}(h:yI X xr es M)(d:kP M n)(o:n<=zR:=by decide):zp X xr (.Tuple es x1 pos) (zy M):=by
 try simp only[zW]at*
 exact PE.imp (OB h) λv H Q ⟨j,A,i,S,r,h⟩=>by
   have g:=zT.mp h;cases e:M i A with
   |ok w a=>
    rw[e]at g;refine⟨j,A,i,S,r,?_⟩;rw[e];intro b z y l s q;refine⟨by rw[<- q.length,d i A w a e];exact Zg o,λp c=>?_⟩
    obtain⟨u,t,f⟩:=ZV s c q;exact g _ _ _ (l.trans u) t f
   |exc x a=>rw[e]at g;refine⟨j,A,i,S,r,?_⟩;rw[e];exact g|bad=>rw[e]at g;exact g.elim
def FX {q:jO}(a:X.mg "tuple"=none)(H:wj X xr e q)(h:Gl X "tuple":=by rfl)(b:starEach [e] X.env=(false,eval e X.env)::starEach [] X.env:=by rfl):
  zp X xr (.Call (.Name "tuple" p) [e] [] pos) (mQ yg q):=by
 try simp only[zW]at*
 exact eI Ly (λ_ _=>jG) AI a (by rfl) H h (by decide) (by decide) b (by rfl)
def Qt (i:Nat)(b:X.N[i]? =some x:=by rfl)(a:WO X.env.scope x:=by first|exact Or.inl rfl|exact Or.inr (Or.inl rfl)|exact Or.inr (Or.inr rfl))(j:(x==("__debug__":Str))=false:=by decide)
  (d:(x==("__classdict__":Str))=false:=by decide):zp X xr (.Name x pos) (qf i):=by
 try simp only[zW]at*
 exact PE.imp (cG b a j d) λn H Q ⟨f,A,g,S,r,h⟩=>by
  unfold qf at h;cases e:g[i]? with
  |none=>rw[e]at h;cases h|some o=>cases o with
   |none=>rw[e]at h;cases h|some w=>
    rw[e]at h;obtain⟨v,l,c⟩:=r.get i w e;exact⟨v,l,h f H v .refl S c⟩
def EN {e i:Expr}{a:List Comprehension}{f:Ei}{t:Tg}{M:Ev}{E:Em}(l:Nat)(C:bV)(c:X.calm=true)(S:wY X sc)(p:Zs X.N N sc l C=true)(w:yQ X xr tg i f)
  (n:∀s H fp,kG (jx X N sc s H fp j7) tg t/\k8 (jx X N sc s H fp j7) ifs M/\wm (jx X N sc s H fp j7) e (⟨tg,i,ifs,0⟩::a) sc pos 0 E)
  (d:∀g',a[0]? =some g'->g'.is_async=0:=by intro _ h;cases h<;>rfl)
  (b:∀x,foldedSetIterable i X.env x=pure x:=by intro _;rfl):gY X xr (.ListComp e (⟨tg,i,ifs,0⟩::a) sc pos) (zN l C f t M E):=by
 try simp only[zW]at*
 exact PE.imp (BS (g:=tG X.K t) (ti:=tT X.K yi M) (tm:=tE X.K E) c S p d w n b) zN.read
def Cs (i j:Nat){y:Str}{q:Pos}{k:Nat}(n:X.calm=true)(h:X.N.Nodup)(I:X.N[i]? =some x:=by rfl)(f:Loc X.env.scope x:=by first|exact Or.inl rfl|exact Or.inr rfl)(J:X.fn x=true∨X.env.scope.names.lookup x=some .local:=by first|exact .inl rfl|exact .inr rfl)
  (g:X.N[j]? =some y:=by rfl)(d:Loc X.env.scope y:=by first|exact Or.inl rfl|exact Or.inr rfl)(l:X.fn y=true∨X.env.scope.names.lookup y=some .local:=by first|exact .inl rfl|exact .inr rfl):kG X (.Tuple [.Name x p,.Name y q] k pos) (yL i j):=by
 try simp only[zW]at*
 exact PG.imp (P1 n (Kg (Xr h I f J) (Kg (Xr h g d l) Pd))) λv P H Q ⟨M,A,T,w,b,S,D,c,e,K⟩=>by
   unfold yL at e
   split at e
   ·rename_i r Y
    have E:=aB e;subst E;obtain⟨a,U,rfl,s,C⟩:=c;obtain⟨B,u,rfl,L,z,t,rfl,o,rfl⟩:=C;exact⟨a,[B,z],rfl,s,rfl,B,[z],rfl,z,[],rfl,rfl,K _ ((D.set L).set o)⟩
   ·cases e
def As (i:Nat)(b:X.N.Nodup)(d:X.N[i]? =some x:=by rfl)(h:Loc X.env.scope x:=by first|exact Or.inl rfl|exact Or.inr rfl)(f:X.fn x=true∨X.env.scope.names.lookup x=some .local:=by first|exact .inl rfl|exact .inr rfl):kG X (.Name x pos) (zC i):=by
 try simp only[zW]at*
 exact PG.imp (Xr b d h f) λv j H Q ⟨g,A,c,w,a,S,r,q,e,k⟩=>by
   have E:c.set i (some w)=a:=aB e;subst E;exact k _ (r.set q)
def fq (h:zp X xr e m):yQ X xr tg e (z9 m):=by
 try simp only[zW]at*
 exact PI.imp (eB h) λσ H Rr ⟨φ,A,ρ,S,re,h⟩=>by
  refine tM.go S re (zT.mp h) λw A1 f H1 v h1 P N Q=>?_;unfold WA at h1;cases e:zI w A1 with
  |none=>rw[e]at h1;exact h1.elim|some ws=>
   rw[e]at h1;dsimp only at h1;cases w with
   |tup us=>
    obtain⟨a,ys,rfl,g,q⟩:=Q;refine⟨a,rfl,.inr ⟨⟨ys,g⟩,h1 f H1 _ P N λi c j d lw s=>⟨λB b=>?_,λb=>?_⟩⟩⟩
    ·have E:us[i]? =some B:=aB b
     obtain⟨y,l,D⟩:=(q.monoW lw).get E;refine⟨⟨ys,y,lw.tp _ _ g,l⟩,λx Z u=>?_⟩;obtain⟨M,L⟩:=u;subst M;have p:=L ys (lw.tp _ _ g);rw[l]at p;cases p;exact⟨.refl,s,D⟩
    ·have E:us[i]? =none:=aB b
     refine⟨ys,lw.tp _ _ g,?_⟩;rw[<- q.length];exact List.getElem?_eq_none_iff.mp E
   |ref n=>
    obtain⟨a,rfl,g⟩:=Q;have read:∀{c j d us},Zy X.K f H1 c j->zF X.K c d j->zI (.ref n) d=some us->∃ys,qI X.K j a ys/\zr X.K c j us ys:=λ {c j d us} lw s es=>by
     obtain⟨U,ys,T,z,r⟩:=Y5 (w:=.ref n) (v:=.ref a) s ⟨a,rfl,lw.ex _ _ g⟩ es;cases T;unfold zI at es;dsimp only at es;cases J:d[n]? with
     |none=>rw[J]at es;cases es|some o=>
      rw[J]at es;obtain⟨U,q,r⟩:=s.ob n o J;rw[lw.ex _ _ g]at q;cases q;cases o with
      |lst xs=>cases es;obtain⟨ys,h1,I⟩:=r;exact⟨ys,qI.of h1,I⟩|ro xs=>cases es;obtain⟨ys,h1,I⟩:=r;exact⟨ys,h1.sq,I⟩|dct xs=>cases es|td _=>cases es|tr _=>cases es|tab _ _=>cases es
    obtain⟨Y,C,_⟩:=read ⟨λ_ _ h=>h,λ_ _ h=>h,λ_ _ _ h=>h⟩ N e;refine⟨a,rfl,.inl ⟨⟨Y,C⟩,h1 f H1 _ P N λi c j d lw s=>⟨λB b=>?_,λb=>?_⟩⟩⟩
    ·dsimp only at b
     cases es:zI (.ref n) d with
     |none=>rw[es]at b;cases b|some us=>
      rw[es]at b;have E:us[i]? =some B:=aB b;obtain⟨ys,t,r⟩:=read lw s es;obtain⟨y,l,D⟩:=r.get E;refine⟨⟨ys,y,t,l⟩,λx Z u=>?_⟩;obtain⟨M,L⟩:=u;subst M;have p:=L ys t;rw[l]at p;cases p;exact⟨.refl,s,D⟩
    ·dsimp only at b
     cases es:zI (.ref n) d with
     |none=>rw[es]at b;cases b|some us=>
      rw[es]at b;have E:us[i]? =none:=aB b;obtain⟨ys,t,r⟩:=read lw s es;refine⟨ys,t,?_⟩;rw[<- r.length];exact List.getElem?_eq_none_iff.mp E
   |non=>cases e|bl _=>cases e|clo _ _ _=>cases e|xc _=>cases e|fn _=>cases e|int _=>cases e|str _=>cases e
def CB (g:Gl X "enumerate")(i:X.mg "enumerate"=none)(d:zp X xr a ma)(s:starEach [a] X.env=[(false,eval a X.env)]:=by rfl):yQ X xr (.Tuple lN kk l7) (.Call (.Name "enumerate" p) [a] [] pos) (Jq ma):=by
 try simp only[zW]at*
 exact PI.imp (BI g i (qU d jB (by rw[s];rfl)) s) λt H r ⟨o,A,u,S,f,h⟩=>by
   refine tM.go S f (zT.mp h) λw n b j v e l c q=>?_;cases es:zI w n with
   |none=>rw[es]at e;exact e.elim|some x=>
    rw[es]at e;obtain⟨p,y,rfl,z,Z⟩:=JS c q es;exact⟨p,Z2 w,y,rfl,z,e b j _ l c (eY q)⟩
def Dd (g:Gl X "range")(o:X.mg "range"=none)(d:zp X xr a ma)(s:starEach [a] X.env=[(false,eval a X.env)]:=by rfl):yQ X xr tg (.Call (.Name "range" p) [a] [] pos) (jm ma):=by
 try simp only[zW]at*
 exact PI.imp (FA g o (qU d jB (by rw[s];rfl)) s) λx H r ⟨u,A,y,S,n,h⟩=>by
   refine tM.go S n (zT.mp h) λw z b t v i l f q=>?_;cases w with
   |int j=>
    obtain rfl:=q;dsimp only at i
    by_cases c:jt j=true
    ·rw[ah c]at i
     obtain⟨e,B⟩:=ZM c;exact⟨j,rfl,e,B,i b t _ l f Ox⟩
    ·rw[ai c]at i;exact i.elim
   |non=>exact i.elim|bl _=>exact i.elim|str _=>exact i.elim|tup _=>exact i.elim|ref _=>exact i.elim|clo _ _ _=>exact i.elim|xc _=>exact i.elim|fn _=>exact i.elim
def ER (o:Gl X "range")(K:X.mg "range"=none)(t:zp X xr a ma)(r:zp X xr b mb)(s:starEach [a,b] X.env=[(false,eval a X.env),(false,eval b X.env)]:=by rfl)(d:starEach [b] X.env=[(false,eval b X.env)]:=by rfl):yQ X xr tg (.Call (.Name "range" p) [a,b] [] pos) (QF ma mb):=by
 try simp only[zW]at*
 exact PI.imp (Fq o K (qU t (qU r jB (by rw[d];rfl)) (by rw[s,d])) s d) λP H I ⟨N,A,T,S,J,h⟩=>by
   refine tM.go S J (zT.mp h) λw A1 g Y v M l D Q=>?_;refine tM.go D (J.mono l) (qo (zT.mp M) (λ_ _ z=>z) λ_ _ z=>z.mono l) λn Z f E U c L C q=>?_;cases w with
   |int i=>
    obtain rfl:=Q;cases n with
    |int j=>
     obtain rfl:=q;dsimp only at c
     by_cases e:(jt i&&jt j)=true
     ·rw[ah e]at c
      rw[av]at e;obtain⟨y,x⟩:=ZM e.1;obtain⟨u,B⟩:=ZM e.2;exact⟨i,j,rfl,⟨y,x,u,B⟩,c f E _ (l.trans L) C Ox⟩
     ·rw[ai e]at c;exact c.elim
    |non=>exact c.elim|bl _=>exact c.elim|str _=>exact c.elim|tup _=>exact c.elim|ref _=>exact c.elim|clo _ _ _=>exact c.elim|xc _=>exact c.elim|fn _=>exact c.elim
   |non=>exact c.elim|bl _=>exact c.elim|str _=>exact c.elim|tup _=>exact c.elim|ref _=>exact c.elim|clo _ _ _=>exact c.elim|xc _=>exact c.elim|fn _=>exact c.elim
def ft (r:Gl X "zip")(K:X.mg "zip"=none)(u:zp X xr a ma)(t:zp X xr b mb)(g:starEach [a,b] X.env=(false,eval a X.env)::starEach [b] X.env:=by rfl)(e:starEach [b] X.env=(false,eval b X.env)::starEach [] X.env:=by rfl)(o:(backTo pos (starEach [b] X.env)).any (·.1)=false:=by rfl):
  yQ X xr (.Tuple lN kk l7) (.Call (.Name "zip" p) [a,b] [] pos) (Qa ma mb):=by
 try simp only[zW]at*
 exact PI.imp (fh r K (qU u (qU t jB e) g) g o) λT H D ⟨N,A,U,S,E,h⟩=>by
   refine tM.go S E (zT.mp h) λw A1 i H1 v M l x n=>?_;refine tM.go x (E.mono l) (qo (zT.mp M) (λ_ _ z=>z) λ_ _ z=>z.mono l) λf I d y v2 c L s Q=>?_;cases es:zI w I with
   |none=>rw[es]at c;exact c.elim|some us=>
    cases es':zI f I with
    |none=>rw[es,es']at c;exact c.elim|some vs=>
     rw[es,es']at c;have q:=n.mono L;obtain⟨p,J,rfl,j,C⟩:=JS s q es;obtain⟨P,Y,rfl,Z,B⟩:=JS s Q es';exact⟨p,P,Z2 w,Z2 f,J,Y,rfl,j,Z,c d y _ (l.trans L) s (fi q Q)⟩
def CQ {E:Expr}{d:Nat}{M:Ev}(x:∀e s,X.xe e s->False)(C:zp X yi E M)(j:gens[d+1]? =none):wm X E gens sc pos d (zK M):=by
 try simp only[zW]at*
 exact kQ.imp (Cc x C j) λD B H Q ⟨I,A,J,y,Y,S,u,o,n,r,h⟩=>by
   refine tM.go S u (G2 (zT.mp h)) λw L f K v t l p q=>?_;obtain⟨c,N⟩:=l.off o n
   by_cases z:y.length<zR
   ·rw[ah z]at t
    have g:=r.length;refine⟨Y,c,?_,?_⟩
    ·rw[<- g]
     have:sizeLine=16777216:=sizeLine_eq
     unfold zR at z;omega
    ·exact t f _ B _ (l.toD.trans (yA.upd c)) N (p.off c N) ⟨u.len,λi w e=>let ⟨v,a,b⟩:=u.get i w e;⟨v,a,(b.mono l).monoD (yA.upd c)⟩⟩ ji
      (((r.mono l).monoD (yA.upd c)).append (.one (q.monoD (yA.upd c))))
   ·rw[ai z]at t;exact t.elim
def fv {U T:Expr}{d:Nat}{mi:Ei}{Y:Tg}{M:Ev}{em:Em}(o:∀e s,X.xe e s->False)(v:X.calm=true)(u:gens[d+1]? =some ⟨tg,T,ifs,0⟩)(w:∀g',gens[d+2]? =some g'->g'.is_async=0)
  (hw:yQ X yi tg T mi)(t:kG X tg Y)(hi:k8 X ifs M)(hm:wm X U gens sc pos (d+1) em)(q:∀x,foldedSetIterable T X.env x=pure x:=by intro _;rfl):wm X U gens sc pos d (Z4 mi Y M em):=by
 try simp only[zW]at*
 exact kQ.imp (Cp o v u w hw t hi hm q) λD σ H Q ⟨φ,A,ρ,acc,ys,S,Z,y,n,f,h⟩=>by
   refine⟨φ,A,ρ,S,Z,qo (G2 (zT.mp h)) (λj A1 h1 c H1 J l K i=>?_) λ_ _ z=>z⟩;obtain⟨E,n1⟩:=l.off y n;exact qZ.read i K (Z.mono l) E n1 (f.mono l) (qo h1 (λp A2 B a P b zs L N I r C g=>B a P b zs (l.toD.trans L) N I r C g) λ_ _ z=>z)
def fw (h:zp X xr e m):wj X xr e (zX m):=by
 try simp only[zW]at*
 exact PE.imp h λj H Q ⟨i,A,n,S,r,h⟩=>by
  refine tM.go S r (zT.mp h) λw g b f v d l s q=>?_;cases e:zI w g with
  |none=>rw[e]at d;exact d.elim|some o=>
   rw[e]at d;obtain⟨a,y,rfl,c,E⟩:=Y5 s q e;exact d b f a y l s c E
def fx {q:jO}(h:gY X xr e q):wj X xr e q:=by
 try simp only[zW]at*
 exact PE.imp h λj H Q ⟨c,A,d,S,f,h⟩=>
  ⟨c,A,d,S,f,qo h (λw p g a i D y l s o b n r=>g a i D y l s (.inl (qI.of b)) r) λ_ _ z=>z⟩
def DT (f:yb X xr st m1)(c:yP X xr lI m2):yP X xr (st::lI) (zo m1 m2):=by
 try simp only[zW]at*
 exact yo.imp (Cr f c) λD o H ⟨g,A,i,S,j,h⟩=>by
   refine⟨g,A,i,S,j,qo (zT.mp h) (λfl n f=>?_) λ_ _ z=>z⟩;cases fl with
   |nx e=>exactλa d b l s r=>⟨a,n,e,s,r,qo f (λ_ _ z=>z.mono l) λ_ _ z=>z.mono l⟩|rt w=>exact f|bk e=>exact f|ct e=>exact f
def D5 (d:zp X xr e m)(s:swapsWith e none pos.line X.env=pure false:=by rfl):yb X xr (.Expr e pos) (kH m):=by
 try simp only[zW]at*
 exact PS.imp (Bb d s) λD c H ⟨i,A,j,S,r,h⟩=>tM.go S r (zT.mp h) λw n a g v f l b q=>f a g c l b (r.mono l)
def BQ {l4:Expr}{mi:Ei}{tw:Tg}(hp:PassesOwn (model X.prog X.w) X.A X.env X.xe)(hc:X.calm=true)(hi:yQ X xr tg l4 mi)(hg:kG X tg tw)(hb:yP X xr body m1)
  (hs:∀x,foldedSetIterable l4 X.env x=pure x:=by intro _;rfl):yb X xr (.For tg l4 body [] pos) (jR mi tw m1):=by
 try simp only[zW]at*
 exact PS.imp (dj hp hc hi hg hb hs) λD σ H ⟨φ,A,ρ,S,re,h⟩=>by
   refine⟨φ,A,ρ,S,re,qo (zT.mp h) (λj A1 h1 g H1 J P S1 jr=>?_) λ_ _ z=>z⟩;refine⟨λi f d I=>NS X.K xr j (turn tw m1) D g H1 f i d I,
    ⟨j.len,g,A1,ρ,.refl,S1,re.mono P,qo h1 (λ_ _ z=>z.mono P) λ_ _ z=>z.mono P⟩,?_⟩
   rintro i f M Y ⟨c,A2,q,u,U,t,b⟩
   obtain⟨j1,j2⟩:=jr i c Y A2 ⟨u.ex,u.tp,u.fz⟩ U;cases E:j.at_ A2 i with
   |none=>cases f<;>(unfold ye at b;rw[E]at b;exact b.elim)|some o=>
    cases o with
    |none=>
     left
     refine⟨j2 E,?_⟩;cases f<;>(unfold ye at b;rw[E]at b;exact b c Y M .refl U t)
    |some w=>
     right
     obtain⟨go,yl⟩:=j1 w E;cases f with
     |zero=>unfold ye at b;rw[E]at b;exact b.elim|succ f=>
      unfold ye at b;rw[E]at b;refine⟨go,λd I=>NS X.K xr j (turn tw m1) D g H1 f (i+1) d I,λd I z=>⟨f,bo _,z⟩,λx H3 y=>?_⟩;obtain⟨L,T,q3⟩:=yl x H3 y;have v:=zT.mp b;unfold turn at v;cases Q:tw w q with
      |none=>rw[Q]at v;exact v.elim|some p=>
       rw[Q]at v;refine⟨c,A2,q,w,p,T,t.mono L,q3,Q,λσ3 N=>?_⟩;refine⟨c,A2,p,T,N,qo v (λfl Z C=>?_) λ_ _ z=>z.mono L⟩;cases fl with
       |nx e=>exactλa B n l s r=>⟨a,Z,e,(u.trans L).trans l,s,r,qo C (λ_ _ z=>z.mono (L.trans l)) λ_ _ z=>z.mono (L.trans l)⟩|ct e=>exactλa B n l s r=>⟨a,Z,e,(u.trans L).trans l,s,r,qo C (λ_ _ z=>z.mono (L.trans l)) λ_ _ z=>z.mono (L.trans l)⟩|bk e=>exactλa B n l s r=>C a B n (L.trans l) s r|rt w4=>exactλa B v4 l s q4=>C a B v4 (L.trans l) s q4
def fy {j s:cg}(d:yc X xr c mc)(f:yP X xr j m1)(e:yP X xr s m2):yb X xr (.If c j s pos) (qu mc m1 m2):=by
 try simp only[zW]at*
 exact PS.imp (c6 d f e) λD p H ⟨o,A,i,S,r,h⟩=>by
   refine tT.go S r (zT.mp h) λw n g=>?_;cases w with
   |bl k=>
    refine⟨k,rfl,λa q l b=>?_⟩;cases k with
    |true=>rw[ah rfl];exact⟨a,n,i,b,r.mono l,qo g (λ_ _ z=>z.mono l) λ_ _ z=>z.mono l⟩|false=>rw[ai aA];exact⟨a,n,i,b,r.mono l,qo g (λ_ _ z=>z.mono l) λ_ _ z=>z.mono l⟩
   |non=>cases g|int _=>cases g|str _=>cases g|tup _=>cases g|ref _=>cases g|clo _ _ _=>cases g|xc _=>cases g|fn _=>cases g
def Bq:yP X xr [] zx:=by
 try simp only[zW]at*
 exact yo.imp AS λD b H ⟨a,A,c,S,r,h⟩=>h a H b .refl S r
def BA (b:zp X xr e m):yb X xr (.Return (some e) pos) (qv m):=by
 try simp only[zW]at*
 exact PS.imp (c4 b) λD g H ⟨f,A,i,S,r,h⟩=>tM.go S r (zT.mp h) λw j a d v c l s q=>c a d v l s q
def Bc (i:Nat){p:Pos}(a:X.N.Nodup)(c:zp X xr e m)(b:X.N[i]? =some x:=by rfl)(h:Loc X.env.scope x:=by first|exact Or.inl rfl|exact Or.inr rfl)(H:swapsWith e (some (.Name x p)) pos.line X.env=pure false:=by rfl)
  (f:X.fn x=true∨X.env.scope.names.lookup x=some .local:=by first|exact .inl rfl|exact .inr rfl):yb X xr (.Assign [.Name x p] e pos) (zV i m):=by
 try simp only[zW]at*
 exact PS.imp (c9 a b h c H f) zV.read
def Hg (i:Nat){E I:Expr}{b:List Comprehension}{u:Ei}{t:Tg}{M:Ev}{q:Em}{P a:Pos}(r:Nat)(C:bV)(l:X.N.Nodup)
  (f:X.calm=true)(S:wY X sc)(p:Zs X.N N sc r C=true)(v:yQ X xr tg I u)
  (n:∀s H fp,kG (jx X N sc s H fp j7) tg t/\k8 (jx X N sc s H fp j7) ifs M/\wm (jx X N sc s H fp j7) E (⟨tg,I,ifs,0⟩::b) sc pos 0 q)
  (c:X.N[i]? =some x:=by rfl)(d:X.env.scope.names.lookup x=some .local:=by rfl)
  (w:swapsWith (.ListComp E (⟨tg,I,ifs,0⟩::b) sc pos) (some (.Name x P)) a.line X.env=pure true:=by rfl)
  (j:∀g',b[0]? =some g'->g'.is_async=0:=by intro _ h;cases h<;>rfl)
  (e:∀x,foldedSetIterable I X.env x=pure x:=by intro _;rfl):yb X xr (.Assign [.Name x P] (.ListComp E (⟨tg,I,ifs,0⟩::b) sc pos) a) (zV i (qj (zN r C u t M q))):=by
 try simp only[zW]at*
 exact PS.imp (L2.Hm (g:=tG X.K t) (ti:=tT X.K yi M) (tm:=tE X.K q) l c d w f S p j v n e) λD o H h=>zN.read o H _ (qj.read o H _ (zV.read D o H h))
def E4 (h:wg X xr e m):yc X xr e m:=by
 try simp only[zW]at*
 exact PW.pt h
def Yh {g:W->W->Hx->R W}(h:kM X op g)(c:zp X xr a ma)(H:zp X xr b mb)(e:op≠.In:=by decide)(d:op≠.NotIn:=by decide):yc X xr (.Compare a [op] [b] pos) (zi g ma mb):=by
 try simp only[zW]at*
 exact let ⟨r,i,f,A⟩:=h.ex;OE i f A c H (h.mks b e d)
def fA {o:CmpOp}{g l:W->W->Hx->R W}(h:kM X op g)(p:kM X o l)(e:zp X xr a ma)(d:zp X xr b mb)(H:zp X xr c mc)(n:lastMarks [op,o] [b,c]=false:=by with_unfolding_all rfl):
  yc X xr (.Compare a [op,o] [b,c] pos) (yt g l ma mb mc):=by
 try simp only[zW]at*
 exact let ⟨r,s,q,A⟩:=h.ex;let ⟨j,i,f,B⟩:=p.ex;CN s q A i f B e d H n
def fB {g:W->W->Hx->R W}(h:WB X op g)(c:zp X xr a ma)(H:zp X xr b mb)(d:behindInMarks op b=false:=by rfl):yc X xr (.Compare a [op] [b] pos) (zi g ma mb):=by
 try simp only[zW]at*
 exact let ⟨r,f,e,A⟩:=h.ex;OE f e A c H d
def fC (d:yc X xr a ma):yc X xr (.UnaryOp .Not a pos) (qW ma):=by
 try simp only[zW]at*
 exact PT.imp (cP d) λj H Q ⟨i,A,n,S,r,h⟩=>by
   refine tT.go S r (zT.mp h) λw o f=>?_;cases w with
   |bl k=>obtain⟨b,e,q⟩:=f;cases e;exact⟨k,rfl,λc g l s=>q c g l s⟩|non=>cases f|int _=>cases f|str _=>cases f|tup _=>cases f|ref _=>cases f|clo _ _ _=>cases f|xc _=>cases f|fn _=>cases f
def Bf (h:zp X xr e m)(a:∀w,isTrue e X.env w=(do let v <- w;standAt e.pos;holding [v] (truthy v)):=by intro _;rfl):yc X xr e m:=by
 try simp only[zW]at*
 exact PT.imp (cL h a) λb H Q h=>h.toM
def DY:k8 X [] (zZ (.bl true)):=by
 try simp only[zW]at*
 exactλp s c H Q I ⟨a,A,d,S,r,h⟩=>DX p s c H Q I (by
  obtain⟨b,e,q⟩:=h;cases e;exact q a H .refl S)
def D8 (h:yc X yi c mc):k8 X [c] mc:=by
 try simp only[zW]at*
 exact CL h
def BG {r:bY}(f:yc X xr a ma)(d:wg X xr (.BoolOp .And (b::r) pos) mb):wg X xr (.BoolOp .And (a::b::r) pos) (jz ma mb):=by
 try simp only[zW]at*
 exact PW.imp (pw_and f d) λo H Q ⟨n,A,p,S,i,h⟩=>by
   refine tT.go S i (zT.mp h) λw t g=>?_;cases w with
   |bl k=>
    refine⟨k,rfl,λc j l s=>?_⟩;cases k with
    |true=>rw[ah rfl];exact tT.mono s l i g|false=>rw[ai aA];obtain⟨b,e,q⟩:=g;cases e;exact q c j l s
   |non=>cases g|int _=>cases g|str _=>cases g|tup _=>cases g|ref _=>cases g|clo _ _ _=>cases g|xc _=>cases g|fn _=>cases g
def Dv (h:yc X xr a ma):wg X xr (.BoolOp .And [a] pos) ma:=by
 try simp only[zW]at*
 exact pw_and1 h
def fD {r:bY}(f:yc X xr a ma)(d:wg X xr (.BoolOp .Or (b::r) pos) mb):wg X xr (.BoolOp .Or (a::b::r) pos) (yH ma mb):=by
 try simp only[zW]at*
 exact PW.imp (pw_or f d) λo H Q ⟨n,A,p,S,i,h⟩=>by
   refine tT.go S i (zT.mp h) λw t g=>?_;cases w with
   |bl k=>
    refine⟨k,rfl,λc j l s=>?_⟩;cases k with
    |false=>rw[ai aA];exact tT.mono s l i g|true=>rw[ah rfl];obtain⟨b,e,q⟩:=g;cases e;exact q c j l s
   |non=>cases g|int _=>cases g|str _=>cases g|tup _=>cases g|ref _=>cases g|clo _ _ _=>cases g|xc _=>cases g|fn _=>cases g
def fE (h:yc X xr a ma):wg X xr (.BoolOp .Or [a] pos) ma:=by
 try simp only[zW]at*
 exact pw_or1 h
def Vz {K:Frag}{u:Stmt}{k:Nat}{m:Ex}(F:kI K x x u f fd)(L:mg x=some (.ref f))(S:qM N ps (qh u))
  (i:∀(kV D J:Value)(M:cf)(c ct:Value)(U:bS),U.length=ps.length->bindArgs (fnOf x x (Zk u) (yJ u) (qh u) .none kV D J M c ct) ⟨U,[]⟩=pure (ps.zip U))
  (a:∀(c:Value)(A:Around)(q:b9)(s:Shared)(H:Hp)(E:XK),qP k (A.deeper (envOfC x (qh u) s.heap.objs.size f c))->yP (kE kJ P w K mg base N x (qh u) f c A q s H E).nox yi (yJ u) m):
  zU P w K mg base (k+1) x ps.length (qF N.length m):=by
 try simp only[zW]at*
 refine⟨f,fd,ps,?_,L,F.kp,F.binds i⟩;refine F.ok S (λI H Q E h=>h.len) λc A q s H I Q E g ⟨p,z,C,v,j,r,h⟩=>⟨_,a c A q s H E g,?_⟩;refine⟨z,C,v.map some++List.replicate (N.length-v.length) none,j,RE.start r,?_⟩;have t:=zT.mp h;show R.post _ (FB K z H _) _;cases e:m (v.map some++List.replicate (N.length-v.length) none) C with
 |ok fl T=>
  rw[e]at t;cases fl with
  |rt w=>exact t|nx B=>exactλb o d l n _=>t b o .non l n rfl|bk B=>exact t.elim|ct B=>exact t.elim
 |exc y T=>
  rw[e]at t;exact t.elim
 |bad=>rw[e]at t;exact t.elim
def AA (c:X.mg "abs"=none)(a:zp X xr e m)(h:Gl X "abs":=by rfl)(d:starEach [e] X.env=(false,eval e X.env)::starEach [] X.env:=by rfl):zp X xr (.Call (.Name "abs" p) [e] [] pos) (qE Yx m):=by
 try simp only[zW]at*
 exact O5 DB (λw A=>by unfold Yx;split;exact jG;exact qD) (λb A H x u Q S q p=>by
   cases u with
   |int i=>obtain rfl:=q;exact⟨i,rfl,p b H _ .refl S rfl⟩|_=>exact p.elim) c (by rfl) a h (by decide) (by decide) d (by rfl)
def HL {t c:Pos}(j:zp X xr a ma)(M:zp X xr b mb)(s:starEach [b] X.env=(false,eval b X.env)::starEach [] X.env:=by rfl)
  (e:attributeBase a "append" X.env (eval a X.env)=eval a X.env:=by rfl)
  (w:((backTo c (starEach [b] X.env)).all (λx=>!x.1)&&(backToKw c (keywordEach [] X.env)).all (λx=>x.1.isSome)
   && decide ([b].length+([]:cc).length+(if ([]:cc).isEmpty then 0 else 1)<30))=true:=by rfl)(h:(t.endLine==c.line)=true:=by rfl):
  zp X xr (.Call (.Attribute a "append" t) [b] [] c) (yk yS ma mb):=by
 try simp only[zW]at*
 exact Vp PySem.F.slot_list_append PySem.F.type_list_append Ss Fz (λD A H x y u v Q S i q p=>by
   unfold yS at p;cases u with
   |ref n=>
    dsimp only at p;cases E:A[n]? with
    |none=>rw[E]at p;exact p.elim|some o=>cases o with
     |lst B=>
      rw[E]at p;dsimp only at p
      by_cases d:B.length<zR
      ·rw[ah d]at p
       obtain⟨l,I,rfl,J,C,r⟩:=S.lst i E;refine⟨l,I,y,rfl,rfl,C,?_,?_⟩
       ·rw[<- r.length]
        have:sizeLine=16777216:=sizeLine_eq
        unfold zR at d;omega
       ·have L:Le X.K D H D (upd H l (.lst (I++[y]))):=Le.upd J (λN z=>by rw[C]at z;cases z) (λ_ _ z=>by rw[C]at z;cases z)
        obtain⟨g,f⟩:=S.write (o:=.lst B) (o':=.lst (B++[v])) E rfl rfl J ⟨_,ji,(r.mono L).append (.one (q.mono L))⟩;exact p _ _ _ g f rfl
      ·rw[ai d]at p;exact p.elim
     |_=>rw[E]at p;exact p.elim
   |_=>exact p.elim) j M s e w h
def FU (c:X.mg "int"=none)(a:zp X xr e m)(h:Gl X "int":=by rfl)(d:starEach [e] X.env=(false,eval e X.env)::starEach [] X.env:=by rfl):zp X xr (.Call (.Name "int" p) [e] [] pos) (qE QN m):=by
 try simp only[zW]at*
 exact eM F7 (λw A=>by unfold QN;split;exact jG;exact jG;exact qD) (λb A H x u Q S q p=>by
   cases u with
   |int i=>obtain rfl:=q;exact .inl ⟨i,rfl,p b H _ .refl S rfl⟩|bl k=>obtain rfl:=q;exact .inr ⟨k,rfl,p b H _ .refl S rfl⟩|_=>exact p.elim) c (by rfl) a h (by decide) (by decide) d (by rfl)
def Cz (e:X.calm=true)(w:X.mg "max"=none)(o:zp X xr a ma)(n:zp X xr b mb)(l:Gl X "max":=by rfl)(z:starEach [a,b] X.env=(false,eval a X.env)::starEach [b] X.env:=by rfl)(r:starEach [b] X.env=(false,eval b X.env)::starEach [] X.env:=by rfl)(h:(backTo pos (starEach [b] X.env)).any (·.1)=false:=by rfl):
  zp X xr (.Call (.Name "max" p) [a,b] [] pos) (zi Vj ma mb):=by
 try simp only[zW]at*
 exact Vg (EJ e) Z6 (λt A H x y u v Q S d c p=>by
   obtain⟨i,j,s,E,q⟩:=ZX (K:=X.K) (f:=λi j=>.int (if j > i then j else i)) (g:=λi j=>.int (if j > i then j else i)) (λ_ _ _ _=>rfl) t A H x y u v Q S d c p;subst s;subst E;exact⟨i,j,rfl,q⟩) w (by rfl) o n l (by decide) (by decide) z r h
def Fh {M c:Pos}(D:zp X xr a ma)(he:zp X xr b mb)(C:starEach [b] X.env=(false,eval b X.env)::starEach [] X.env:=by rfl)
  (e:attributeBase a "pop" X.env (eval a X.env)=eval a X.env:=by rfl)
  (d:((backTo c (starEach [b] X.env)).all (λx=>!x.1)&&(backToKw c (keywordEach [] X.env)).all (λx=>x.1.isSome)
   && decide ([b].length+([]:cc).length+(if ([]:cc).isEmpty then 0 else 1)<30))=true:=by rfl)(h:(M.endLine==c.line)=true:=by rfl):
  zp X xr (.Call (.Attribute a "pop" M) [b] [] c) (yk gF ma mb):=by
 try simp only[zW]at*
 exact Vp PySem.F.slot_list_pop PySem.F.type_list_pop CJ Dw (λT A H x y u v Q S B t p=>by
   unfold gF at p;cases u with
   |ref n=>cases v with
    |int i=>
     obtain rfl:=t;dsimp only at p;cases E:A[n]? with
     |none=>rw[E]at p;exact p.elim|some o=>cases o with
      |lst N=>
       rw[E]at p;dsimp only at p
       by_cases f:jt i=true
       ·rw[ah f]at p
        obtain⟨L,J⟩:=ZM f;cases j:seqIndex? i N.length with
        |none=>rw[j]at p;exact p.elim|some k=>
         rw[j]at p;dsimp only at p;cases g:N[k]? with
         |none=>rw[g]at p;exact p.elim|some w=>
          rw[g]at p;obtain⟨l,U,rfl,Y,P,r⟩:=S.lst B E;obtain⟨y,h1,I⟩:=r.get g;have Z:Le X.K T H T (upd H l (.lst (U.eraseIdx k))):=Le.upd Y (λxs z=>by rw[P]at z;cases z) (λ_ _ z=>by rw[P]at z;cases z)
          obtain⟨q,s⟩:=S.write (o:=.lst N) (o':=.lst (N.eraseIdx k)) E rfl rfl Y ⟨_,ji,(r.erase k).mono Z⟩;exact⟨l,U,i,k,y,rfl,rfl,P,by omega,by omega,by rw[<- r.length];exact j,h1,p _ _ _ q s (I.mono q)⟩
       ·rw[ai f]at p;exact p.elim
      |_=>rw[E]at p;exact p.elim
    |_=>exact p.elim
   |_=>cases v<;>exact p.elim) D he C e d h
def BD (H:zp X xr a ma)(h:zp X xr b mb):zp X xr (.BinOp a .Pow b pos) (zi Wv ma mb):=by
 try simp only[zW]at*
 exact Qz dv Vl (Xw Am λ_ _ _ _=>rfl) H h
def BV {x j}:zp X xr (.Constant (.str x) j pos) (zZ (.str x)):=by
 try simp only[zW]at*
 exact PE.imp cK λb H Q ⟨a,A,c,S,r,h⟩=>h a H _ .refl S rfl
def CY (H:zp X xr a ma)(h:zp X xr b mb):zp X xr (.BinOp a .BitXor b pos) (zi VD ma mb):=by
 try simp only[zW]at*
 exact Qz dw Z6 (ZX λ_ _ _ _=>rfl) H h
def DV {q:jO}(t:X.mg "list"=none)(d:wj X xr e q)(g:Gl X "list":=by rfl)(i:starEach [e] X.env=(false,eval e X.env)::starEach [] X.env:=by rfl):
  zp X xr (.Call (.Name "list" p) [e] [] pos) (qj q):=by
 try simp only[zW]at*
 exact PE.imp (Qo LZ g t (by rfl) (qU d jB i) (by decide) (by decide) i (by rfl)) λx H Q ⟨j,A,n,S,o,h⟩=>by
   refine⟨j,A,n,S,o,qo (zT.mp h) (λB D u b C a y L s z r=>?_) λ_ _ z=>z⟩;refine⟨a,y,rfl,z,λl c=>?_⟩;obtain⟨w,v,f⟩:=w8 s c r;exact u _ _ _ (L.trans w) v f
def AW {o i:Expr}{M b:Ev}(d:zp X xr e m)(H:zp X xr o M)(c:zp X xr i b)
  (h:swapsWithSole [.Subscript o i l7] e pos.line X.env=pure false:=by rfl)(w:swappedStores [.Subscript o i l7] e X.env=pure none:=by rfl)
  (f:(assignEach [.Subscript o i l7] X.env).map (·.2)=[assign (.Subscript o i l7) X.env]:=by rfl)
  (a:∀v,assign (.Subscript o i l7) X.env v=(do
   let ov <- holding [v] (eval o X.env)
   let iv <- holding [v,ov] (eval i X.env)
   standAt l7
   holding [v,ov,iv] (setItem ov iv v)
   release [v,ov,iv] []):=by intro _;rfl):yb X xr (.Assign [.Subscript o i l7] e pos) (yd j6 m M b):=by
 try simp only[zW]at*
 exact Rj set_list Ol Py d H c h w f a
def FW (f:Nat)(C:PassesOwn (model X.prog X.w) X.A X.env X.xe)(E:yc X xr c mc)(I:yP X xr body m1):yb X xr (.While c body [] pos) (XQ f mc m1):=by
 try simp only[zW]at*
 exact PS.imp (DW C E I) λD σ H ⟨Y,A,Z,S,re,h⟩=>by
   refine⟨λf i e=>∃a U d,Le X.K Y H a e/\zF X.K a U e/\RE X.K a e d i/\(Zw mc m1 f d U).post (FB X.K a e D) (EB X.K a e xr),⟨f,Y,A,Z,.refl,S,re,h⟩,?_⟩
   rintro f u T ⟨a,U,d,x,J,o,v⟩
   cases f with
   |zero=>exact v.elim|succ f=>
    unfold Zw at v;refine tT.go J o (zT.mp v) λw N g=>?_;cases w with
    |bl k=>
     refine⟨k,rfl,λp M l y=>?_⟩;cases k with
     |true=>
      rw[ah rfl];refine⟨λi e=>∃a U d,Le X.K Y H a e/\zF X.K a U e/\RE X.K a e d i/\(Zw mc m1 f d U).post (FB X.K a e D) (EB X.K a e xr),λi e z=>⟨f,bo _,z⟩,?_⟩;refine⟨p,N,d,y,o.mono l,qo (zT.mp g) (λfl B t=>?_) λ_ _ z=>z.mono l⟩;cases fl with
      |nx j=>exactλb q n L s r=>⟨b,B,j,(x.trans l).trans L,s,r,qo t (λ_ _ z=>z.mono (l.trans L)) λ_ _ z=>z.mono (l.trans L)⟩|ct j=>exactλb q n L s r=>⟨b,B,j,(x.trans l).trans L,s,r,qo t (λ_ _ z=>z.mono (l.trans L)) λ_ _ z=>z.mono (l.trans L)⟩|bk j=>exactλb q n L s r=>t b q n (l.trans L) s r|rt P=>exactλb q v4 L s Q=>t b q v4 (l.trans L) s Q
     |false=>
      rw[ai aA];exact g p M u l y (o.mono l)
    |non=>cases g|int _=>cases g|str _=>cases g|tup _=>cases g|ref _=>cases g|clo _ _ _=>cases g|xc _=>cases g|fn _=>cases g
end
end Mi
variable {mr:Mi.Ea}{mi:Mi.Ei}{ρ:Mi.En}{me:Mi.Ev}{A A1 B:Mi.Hx}{ws:List Mi.W}{I:Nat->Mi.En->List Mi.W->Mi.Hx->Prop}{o:Mi.O}{tw:Mi.Tg}{g:Mi.W->Mi.W->Mi.Hx->Mi.R Mi.W}{xr:Mi.XR}{q:Mi.jO}
set_option maxHeartbeats 4000000
namespace Mi
open PySem L2
section
variable {ρ1:En}{A2:Hx}{w x y:W}{m ma mb mc:Ev}{m1 m2:Ex}{f:Fn}
def zj (h:ρ[i]? =some (some w)):qf i ρ A=.ok w A:=by unfold qf;rw[h]
def qe:zZ w ρ A=.ok w A:=rfl
def zG (H:ma ρ A=.ok x A1)(h:mb ρ A1=.ok y A2):zi g ma mb ρ A=g x y A2:=by unfold zi;rw[H,zA,h,zA]
def KY {g:W->Hx->R W}(h:ma ρ A=.ok x A1):qE g ma ρ A=g x A1:=by unfold qE;rw[h,zA]
def jq {k:Bool}(h:ma ρ A=.ok (.bl k) A1):qW ma ρ A=.ok (.bl (!k)) A1:=by unfold qW;rw[h,zA]
def kq (h:ma ρ A=.ok (.bl true) A1):jz ma mb ρ A=mb ρ A1:=by unfold jz;rw[h,zA]
def wZ (h:ma ρ A=.ok (.bl false) A1):jz ma mb ρ A=.ok (.bl false) A1:=by unfold jz;rw[h,zA]
def Vo (h:ma ρ A=.ok (.bl true) A1):yH ma mb ρ A=.ok (.bl true) A1:=by unfold yH;rw[h,zA]
def Zp (h:ma ρ A=.ok (.bl false) A1):yH ma mb ρ A=mb ρ A1:=by unfold yH;rw[h,zA]
def ql {a:Ea}(h:a ρ A=.ok ws A1):zw f a ρ A=f ws A1:=by unfold zw;rw[h,zA]
def qa:zh ρ A=.ok [] A:=rfl
def zP {r:Ea}(H:ma ρ A=.ok x A1)(h:r ρ A1=.ok ws A2):zc ma r ρ A=.ok (x::ws) A2:=by unfold zc;rw[H,zA,h,zA]
def Zi {a:Ea}(h:a ρ A=.ok ws A1):zy a ρ A=.ok (.tup ws) A1:=by unfold zy;rw[h,zA]
def jl {a:Ea}(h:a ρ A=.ok ws A1):zJ a ρ A=.ok (.ref A1.length) (A1++[.lst ws]):=by unfold zJ;rw[h,zA]
def zE (h:m1 ρ A=.ok (.nx ρ1) A1):zo m1 m2 ρ A=m2 ρ1 A1:=by unfold zo;rw[h,zA]
def qd (h:m1 ρ A=.ok (.rt w) A1):zo m1 m2 ρ A=.ok (.rt w) A1:=by unfold zo;rw[h,zA]
def jw:zx ρ A=.ok (.nx ρ) A:=rfl
def qC (h:m ρ A=.ok w A1):zV i m ρ A=.ok (.nx (ρ.set i (some w))) A1:=by unfold zV;rw[h,zA]
def Ji (h:m ρ A=.ok w A1):kH m ρ A=.ok (.nx ρ) A1:=by unfold kH;rw[h,zA]
def qA (h:m ρ A=.ok w A1):qv m ρ A=.ok (.rt w) A1:=by unfold qv;rw[h,zA]
def yx (h:mc ρ A=.ok (.bl true) A1):qu mc m1 m2 ρ A=m1 ρ A1:=by unfold qu;rw[h,zA]
def jC (h:mc ρ A=.ok (.bl false) A1):qu mc m1 m2 ρ A=m2 ρ A1:=by unfold qu;rw[h,zA]
def wz {j:jo}(h:mi ρ A=.ok j A1):jR mi tw m1 ρ A=ye j (turn tw m1) j.len 0 ρ A1:=by unfold jR;rw[h,zA]
def wy (h:tw w ρ=some ρ1):turn tw m1 w ρ A=m1 ρ1 A:=by unfold turn;rw[h]
def GD {j:jo}{s:W->Ex}(h:j.at_ A i=some none):ye j s n i ρ A=.ok (.nx ρ) A:=by
 cases n with
 |zero=>unfold ye;rw[h]|succ n=>unfold ye;rw[h]
def Kv {j:jo}{s:W->Ex}(h:j.at_ A i=some (some w))(H:s w ρ A=.ok (.nx ρ1) A1):ye j s (n+1) i ρ A=ye j s n (i+1) ρ1 A1:=by
 rw[ye,h];dsimp only;rw[H,zA]
def JT {k:Int}(h:m ρ A=.ok (.int k) A1)(H:jt k=true):jm m ρ A=.ok (yv 0 k.toNat) A1:=by unfold jm;rw[h,zA];dsimp only;rw[ah H]
def Zo {l:Int}{k:Nat}(h:i<k):(yv l k).at_ A i=some (some (.int (l+i))):=by unfold yv;dsimp only;rw[ah h]
def Zj {l:Int}{k:Nat}(h:¬i<k):(yv l k).at_ A i=some none:=by unfold yv;dsimp only;rw[ai h]
def qy (h:m1 (ws.map some++List.replicate (n-ws.length) none) A=.ok (.rt w) A1):qF n m1 ws A=.ok w A1:=by unfold qF;rw[h];rfl
def Z0 {w:W}(n:ju ws=true)(H:w.nr=true)(h:f ws []=.ok w A1):iso f ws A=.ok w A:=by
 unfold iso;rw[ah n,h];cases w with
 |ref k=>cases H|_=>dsimp only;rw[ah H]
end
end Mi
set_option maxHeartbeats 4000000
namespace Mi
open PySem L2
def DI {j:jo}{s:Ev}{c:En}{N:Nat}{b g:Nat->W}{keep:Nat->Bool}(t:∀i,i<N->j.at_ A i=some (some (b i)))(d:j.at_ A N=some none)
  (o:∀i,i<N->s (some (b i)::c) A=.ok (.bl (keep i)) A)(p:∀i,i<N->keep i=true->me (some (b i)::c) A=.ok (g i) A):
  ∀(n i:Nat)(x:Option W)(f:List W),i+n=N->f.length+n<=zR->∃y,qZ j (zC 0) s (zK me) n i (x::c) f A=.ok (y::c,f++((List.range' i n).filter keep).map g) A:=by
 intro n
 induction n with
 |zero=>
  intro i x f h _
  have:i=N:=by omega
  subst this;refine⟨x,?_⟩;unfold qZ;rw[d];simp
 |succ n I=>
  intro i x f h l;have H:i<N:=by omega
  rw[qZ,t i H];dsimp only[zC,List.set];rw[o i H,zA];rw[range'_succ];cases a:keep i with
  |true=>
   dsimp only;obtain⟨y,e⟩:=I (i+1) (some (b i)) (f++[g i]) (by omega) (by rw[aj,bA];omega)
   refine⟨y,?_⟩;have E:zK me (some (b i)::c) f A=.ok (some (b i)::c,f++[g i]) A:=by
    unfold zK;rw[p i H a,zA,ah (by omega)]
   rw[E,zA];dsimp only;rw[e,List.filter_cons_of_pos a,aK,aR]
   rfl
  |false=>
   dsimp only;obtain⟨y,e⟩:=I (i+1) (some (b i)) f (by omega) (by omega)
   exact⟨y,by rw[e,List.filter_cons_of_neg (by rw[a];exact aA)]⟩
def TK {j:jo}{ifs:Ev}{N:Nat}{item g:Nat->W}{keep:Nat->Bool}(d:mi ρ A=.ok j A)(a:j.len=N)(b:N<=zR)
  (H:∀i,i<N->j.at_ A i=some (some (item i)))(h:j.at_ A N=some none)(f:∀i,i<N->ifs (some (item i)::cap.map λi=>(ρ[i]?).join) A=.ok (.bl (keep i)) A)
  (l:∀i,i<N->keep i=true->me (some (item i)::cap.map λi=>(ρ[i]?).join) A=.ok (g i) A):
  zN 1 cap mi (zC 0) ifs (zK me) ρ A=.ok (((List.range N).filter keep).map g) A:=by
 obtain⟨y,e⟩:=DI H h f l N 0 none [] (Nat.zero_add N) (by simpa using b)
 unfold zN;rw[d,zA,a];have c:QI 1 cap ρ=none::cap.map λi=>(ρ[i]?).join:=rfl;rw[c,e,nil_append,<- range_eq_range']
 rfl
def ZN {j:jo}{N:Nat}{item g:Nat->W}(c:mi ρ A=.ok j A)(a:j.len=N)(b:N<=zR)
  (t:∀i,i<N->j.at_ A i=some (some (item i)))(H:j.at_ A N=some none)(e:∀i,i<N->me (some (item i)::cap.map λi=>(ρ[i]?).join) A=.ok (g i) A):
  zN 1 cap mi (zC 0) (zZ (.bl true)) (zK me) ρ A=.ok ((List.range N).map g) A:=by
 have h:=TK (ifs:=zZ (.bl true)) (keep:=λ_=>true) c a b t H (λ_ _=>rfl) λi d _=>e i d;have f:(List.range N).filter (λ_=>true)=List.range N:=List.filter_eq_self.mpr λ_ _=>rfl;rw[f]at h;exact h
def jF {g:List W->Hx->R W}(h:q ρ A=.ok ws A1):mQ g q ρ A=g ws A1:=by unfold mQ;rw[h,zA]
def yR (h:q ρ A=.ok ws A1):qj q ρ A=.ok (.ref A1.length) (A1++[.lst ws]):=by unfold qj;rw[h,zA]
def j3 {m:Ev}{w:W}(h:m ρ A=.ok w A1)(H:zI w A1=some ws):zX m ρ A=.ok ws A1:=by unfold zX;rw[h,zA,H]
open PySem PySem.Spec PyProof.Rows L2
inductive zd0 (H:Hp)(h g:Heap)(e:Addr)(vs:Array Value):Prop
 |mk (T:Addr) (oT:Obj) (ts:Array Value) (h1:vs[1]? =some (.ref T)) (ne:T≠e) (ng:g.get? T=none) (nH:H T=none) (hT:h.get? T=some oT) (hd:oT.data=.fields ts) (h3:ts[3]? =some .none)
inductive kW (H:Hp)(h g:Heap)(e:Addr)(C:Value):Prop
 |mk (ng:g.get? e=none) (nH:H e=none) (oe:Obj) (vs:Array Value) (a0:Value) (he:h.get? e=some oe) (hc:oe.cls=C) (hd:oe.data=.fields vs) (h0:vs[0]? =some a0) (h1:vs[1]? =some .none∨zd0 H h g e vs)
inductive Tr (h:Heap)(e:Addr):Prop
 |mk (oe:Obj) (vs:Array Value) (T:Addr) (he:h.get? e=some oe) (hd:oe.data=.fields vs) (h1:vs[1]? =some (.ref T))
section
variable {A:Around}{outer:b9}{L e:Addr}{C:Value}{g:Heap}
theorem frames_at {B:Heap}:∀{l:b9},s.heap.FunFrames base l->(∀b∈qt l,B.get? b=none)->s.heap.FunFrames B l
 |[],_,_=>trivial|e::r,⟨c,⟨L,o,hf,hn,a,hd⟩,H⟩,h=>⟨c,⟨L,o,hf,h L (by unfold qt;rw[bj,hf];exact aq ..),a,hd⟩,frames_at H λb d=>h b (by
   unfold qt;rw[bj,hf];exact ak _ d)⟩
def PR {Q:Unit->Shared->Prop}(y:A.frames=some (env::outer))(hf:env.frame=some L)(I:s.heap.FunFrames base (env::outer))(x:kW H s.heap g e C)
  (tr:∀b u,H b=some u->∃o,s.heap.get? b=some o)(th:∀b o,g.get? b=some o->∃o',s.heap.get? b=some o')
  (hQ:∀h',(∀b o,s.heap.get? b=some o->b∉qt (env::outer)->((∃o',g.get? b=some o')∨∃u,H b=some u)->h'.get? b=some o)->(∀b o,s.heap.get? b=some o->b∈qt (env::outer)->∃Y,h'.get? b=some { o with slots:=Y })->
   kW H h' g e C->Tr h' e->Q () { s with heap:=h' }):wpAny M A (leaving env (.ref e)) Q E s:=by
 obtain⟨K,S,oe,vs,a0,he,hc,hd,h0,h1⟩:=x;have fin:∀(d:bT),(∀b∈qt (env::outer),b∈d)->(∀b∈d,b∉qt (env::outer)->g.get? b=none/\H b=none)->∀h',Heap.LeftW (hideAll s.heap d) (env::outer) e C a0 s.heap h'->Q () { s with heap:=h' }:=by
  intro d hi1 w h' ⟨st,ff,r,us⟩;refine hQ h' (λb o h nb hx=>?_) (λb o h mb=>?_) ?_ (by obtain⟨i,v,T,D,t,j,_,l,p,_⟩:=r;exact⟨i,v,T,j,l,p⟩)
  ·refine st b o (bL d h λhm=>?_)
   obtain⟨z1,z2⟩:=w b hm nb;rcases hx with ⟨o',q⟩|⟨u,q⟩
   ·rw[z1]at q;cases q
   ·rw[z2]at q;cases q
  ·obtain⟨_,o',a,f⟩:=I.mem mb
   rw[h]at a;cases a;exact us b o h f
  ·obtain⟨i,v,T,D,t,j,⟨N,X⟩,l,p,B,n,hT,c,U⟩:=r
   have nT:T∉qt (env::outer):=λhm=>by
    obtain⟨_,o',a,f⟩:=I.mem hm;obtain⟨Y,z⟩:=us T o' a f;rw[hT]at z;cases z;exact f t c
   have both:g.get? T=none/\H T=none:=by
    cases q:s.heap.get? T with
    |some o=>
     by_cases hm:T∈d
     ·exact w T hm nT
     ·rw[bL d q hm]at B;cases B
    |none=>
     constructor
     ·cases z:g.get? T with
      |none=>rfl|some o=>obtain⟨o',Z⟩:=th T o z;rw[q]at Z;cases Z
     ·cases z:H T with
      |none=>rfl|some u=>obtain⟨o',Z⟩:=tr T u z;rw[q]at Z;cases Z
   exact⟨K,S,i,v,a0,j,N,l,X,.inr ⟨T,D,t,p,n,both.1,both.2,hT,c,U⟩⟩
 have stay:∀d:bT,(hideAll s.heap d).StaysIn s.heap:=λd b o q=>of_hideAll d q;rcases h1 with h1|⟨T,D,t,h1,n,J,P,hT,c,U⟩
 ·have hn:∀b∈e::qt (env::outer),(hideAll s.heap (e::qt (env::outer))).get? b=none:=λb h=>hideAll_none _ h
  refine wpAny_leaving_firstW (base:=hideAll s.heap (e::qt (env::outer))) y (frames_at I λb h=>hn b (ak _ h)) hf he (stay _) (hn e (aq ..)) hd h1 h0 ?_;rw[hc];refine fin _ (λb h=>ak _ h) λb h nb=>?_;rcases cn.mp h with rfl|h
  ·exact⟨K,S⟩
  ·exact absurd h nb
 ·have hn:∀b∈e::T::qt (env::outer),(hideAll s.heap (e::T::qt (env::outer))).get? b=none:=λb h=>hideAll_none _ h
  refine wpAny_leaving_nextW (base:=hideAll s.heap (e::T::qt (env::outer))) y (frames_at I λb h=>hn b (ak _ (ak _ h))) hf
   ⟨oe,vs,T,D,t,he,⟨hc,h0⟩,hd,h1,hn T (ak _ (aq ..)),n,hT,c,U⟩ (stay _) (hn e (aq ..)) ?_
  refine fin _ (λb h=>ak _ (ak _ h)) λb h nb=>?_;rcases cn.mp h with rfl|h
  ·exact⟨K,S⟩
  ·rcases cn.mp h with rfl|h
   ·exact⟨J,P⟩
   ·exact absurd h nb
end
inductive MX (P:Program)(w:World)(outer:b9)(H:Hp)(s:Shared)(E:XK)(e:Value)(s':Shared):Prop
 |mk (ea C:Addr) (H':Hp) (he:e=.ref ea) (os:s'.os=s.os) (b:AllBare s'.gens) (un:Un (qt outer) [] H H' s.heap s'.heap) (hk:qN P w H' s'.heap) (ly:kW H' s'.heap s.heap ea (.ref C)) (tr:Tr s'.heap ea) (q:E (.ref C) none H')
def wO (P:Program)(w:World):wM:=λo H s E e S=>MX P w o H s E e S
def _root_.L2.qQ.obj {o:HO}(x:qQ P w H h a o):∃ob,h.get? a=some ob:=by
 cases o with
 |lst X=>obtain⟨_,_,_,_,e⟩:=x;exact⟨_,e⟩|tup X=>obtain⟨_,_,_,o,e,_⟩:=x;exact⟨o,e⟩|dK K=>obtain⟨_,_,_,_,o,_,_,e,_⟩:=x;exact⟨o,e⟩|dT K=>obtain⟨_,_,_,_,o,_,_,e,_⟩:=x;exact⟨o,e⟩|set S n=>obtain⟨o,_,_,_,e,_⟩:=x;exact⟨o,e⟩|ins C d fs=>obtain⟨_,_,_,e,_⟩:=x;exact⟨_,e⟩|own y=>exact x|xd fs=>obtain⟨_,⟨o,_,_,e,_⟩,_⟩:=x;exact⟨o,e⟩|rng l i=>obtain⟨_,_,_,e⟩:=x;exact⟨_,e⟩|frz ob u=>exact⟨ob,x.1⟩|tbl p=>exact⟨_,(show h.get? a=some _ from x)⟩|met f y=>exact⟨_,(show h.get? a=some _ from x)⟩|ext b=>exact x.2.1
def Ek {K:Frag}{D:Value}{A:Around}{B:b9}{E:XK}
  {h:Hp}{a C:Addr}(I:Inv (kE (wO P w) P w K mg base N qual scope f D A B s H E) l0 σ h s')(x:kW h s'.heap s.heap a (.ref C))(y:E (.ref C) none h):
  (kE (wO P w) P w K mg base N qual scope f D A B s H E).xe (.ref a) s':=by
 have bs:Un (qt B) [] H h s.heap s'.heap:=I.base;have T:∀b∈qt (envOfC qual scope s.heap.objs.size f D::B),h b=none:=I.stkFree;have p:s.heap.get? s.heap.objs.size=none:=Heap.get?_none_of_le (ar _);have g:(envOfC qual scope s.heap.objs.size f D).frame=some s.heap.objs.size:=rfl;have mem:∀b,b∈qt (envOfC qual scope s.heap.objs.size f D::B)↔b=s.heap.objs.size∨b∈qt B:=λb=>by
  unfold qt;rw[bj,g];exact mem_cons
 show wpAny (model P w) (A.deeper (envOfC qual scope s.heap.objs.size f D)) (leaving (envOfC qual scope s.heap.objs.size f D) (.ref a)) _ _ s';refine PR (base:=base) (L:=s.heap.objs.size) I.ok.frames rfl I.stack x (λb u e=>(I.hok b u e).obj) (λb o e=>bs.there b o e (by simp)) λh' M k2 X t=>?_
 have r:∀b u,h b=some u->b∉qt (envOfC qual scope s.heap.objs.size f D::B):=λb u e J=>by rw[T b J]at e;cases e
 refine⟨a,C,h,rfl,I.os,I.bare,⟨λb o e n Y _=>?_,λb o e n Z _=>?_,λb o e n d=>bs.free b o e n d,λb o e d=>?_,bs.tups,bs.frzs,bs.tbls⟩,λb u e=>?_,X,t,y⟩
 ·have i:b≠s.heap.objs.size:=λz=>by rw[z,p]at e;cases e
  exact M b o (bs.keep b o e n Y (by simp)) (λJ=>(mem b).mp J |>.elim i Y) (.inl ⟨o,e⟩)
 ·obtain⟨l,q⟩:=bs.slot b o e n Z (by simp)
  obtain⟨S,Q⟩:=k2 b _ q ((mem b).mpr (.inr Z));exact⟨S,Q⟩
 ·obtain⟨U,q⟩:=bs.there b o e d
  by_cases J:b∈qt (envOfC qual scope s.heap.objs.size f D::B)
  ·obtain⟨l,z⟩:=k2 b U q J;exact⟨_,z⟩
  ·exact⟨U,M b U q J (.inl ⟨o,e⟩)⟩
 ·refine(I.hok b u e).stay (λc v j q=>?_) (λ_ q=>q) λ_ _ q=>q
  rcases j with z|z
  ·rw[z]at q ⊢;exact M b v q (r b u e) (.inr ⟨u,e⟩)
  ·exact M c v q (r c _ z) (.inr ⟨_,z⟩)
def T9 {E:XK}{e:Value}(I:Inv X l0 σ H s)(h:wO X.prog X.w X.stack H s E e s')(g:Heap)(r:∀b o,g.get? b=some o->∃o',s.heap.get? b=some o'):
  ∃a C c,e=.ref a/\Inv X l0 σ c s'/\kW c s'.heap g a (.ref C)/\Tr s'.heap a/\E (.ref C) none c:=by
 obtain⟨a,C,c,rfl,os,Y,un,Z,x,tr,u⟩:=h;obtain⟨p,v,d,t,f⟩:=s';obtain rfl:f=s.os:=os;refine⟨a,C,c,rfl,I.call (h':=p) (g':=v) (d':=d) (t':=t) (ch:=[]) un Z Y (λb z=>absurd z (by simp)),?_,tr,u⟩
 have up:∀b,s.heap.get? b=none->g.get? b=none:=λb n=>by
  cases z:g.get? b with
  |none=>rfl|some o=>obtain⟨o',q⟩:=r b o z;rw[n]at q;cases q
 obtain⟨a1,a2,j,vs,U,S,Q,P,N,B⟩:=x;refine⟨up a a1,a2,j,vs,U,S,Q,P,N,?_⟩;rcases B with B|⟨T,l,i,M,L,K,J,D,A,y⟩
 ·exact .inl B
 ·exact .inr ⟨T,l,i,M,L,up T K,J,D,A,y⟩
def gw (K:Frag)(E:XK):XR:=λx H=>∀C:Addr,yC K x (.ref C)->E (.ref C) none H
inductive WS (K:Frag)(n:Nat)(f:Fn)(vs:List V)(H:Hp)(Q:VK)(E:XK):Prop
 |mk (len:vs.length=n) (φ:bT) (A:Hx) (ws:List W) (S:zF K φ A H) (r:zr K φ H ws vs) (q:(f ws A).post (PB K φ H Q) (EB K φ H (gw K E)))
def WS.len {K:Frag}{f:Fn}{v:List V}{Q:VK}{E:XK}(h:WS K n f v H Q E):v.length=n:=by cases h;assumption
inductive jS (P:Program)(w:World)(K:Frag)(mg:b8)(base:Heap)(k:Nat)(x:Str)(n:Nat)(f:Fn):Prop
 |mk (fa:Addr) (fd:FuncData) (ps:bW) (F:ym P w K mg base (wO P w) k fa fd ps (WS K n f)) (at_:mg x=some (.ref fa)) (kp:keepIn K (.ref fa)=true) (bi:Binds K fd ps [])
structure wb (X:Cx)(g:Heap)(xr:XR):Prop where
 th:∀l0 σ H s,Inv X l0 σ H s->∀b o,g.get? b=some o->∃o',s.heap.get? b=some o'
 out:∀l0 σ H s ea C x,Inv X l0 σ H s->kW H s.heap g ea (.ref C)->yC X.K x (.ref C)->xr x H->X.xe (.ref ea) s
def fF {K:Frag}{i:Value}{A:Around}{r:b9}{E:XK}:
  wb (kE (wO P w) P w K mg base N qual scope f i A r s H E) s.heap (gw K E) where
 th:=λp g h S I b o e=>(show Un (qt r) [] H h s.heap S.heap from I.base).there b o e (by simp)
 out:=λp g h S d C x I l c a=>Ek I l (a C c)
section
variable {g:Heap}{c:Expr}
def fG (K:Frag)(X:XR):XK:=λc _ H=>∃x C,c=.ref C/\yC K x (.ref C)/\X x H
def wb.passes (x:wb X g xr):Passes (wO X.prog X.w) X (fG X.K xr):=λp j H s e S I h=>by
 obtain⟨b,C,d,rfl,i,l,_,nm,f,E,c,a⟩:=T9 I h g (x.th p j H s I);cases E;exact x.out p j d S b C nm i l c a
end
noncomputable def gR (n:Nat)(m:Ex):Fn:=λs A=>(m (s.map some++List.replicate (n-s.length) none) A).bind λfl a=>match fl with
 |.rt w=>.ok w a|.nx _=>.ok .non a|_=>.bad
inductive Vf (C:Addr)(bmB:bS)(lM:String)(h:Heap):Prop
 |mk (tl N nm q bs hdct sn sub ab col dd k0 k1 k2 k3 k5 mN:_) (obj:h.get? C=some (excClassObj nm q C N bs tl hdct sn sub ab col dd k0 k1 k2 k3 k5 lM)) (ns:h.Ns N mN) (init:mN "__init__"=none) (tail:OwnTail h bmB tl)
noncomputable def fH (d:Data):Option { c:ClassData // d=.cls c }:=match d with
 |.cls c=>some ⟨c,rfl⟩|_=>none
def gj (K:Frag)(C:Addr)(b:bS)(n:String):Bool:=(K.lookup C).any λo=>(fH o.data).any λc=>
 o.cls==.type "type" && c.1.mro==.ref C::c.1.mro.tail&&o.slots.toList==[o.slots.toList.getD 0 none,o.slots.toList.getD 1 none,o.slots.toList.getD 2 none,o.slots.toList.getD 3 none,some (.builtin n),o.slots.toList.getD 5 none]
  && c.1.hasDel==false&&PySem.W.tailIn K b c.1.mro.tail&&PySem.W.nsOkIn K c.1.ns&&nsIn K c.1.ns "__init__" == some none
def Vh {K:Frag}{C:Addr}{b:bS}{n:String}(X:K.In h)(q:gj K C b n=true):Vf C b n h:=by
 obtain⟨⟨o,r,dat,⟨s⟩⟩,H,q⟩:=(any_eq_true _ _).mp q;obtain⟨⟨⟨nm,bs,M,N,Q,p,j,S,A,l,D⟩,i⟩,-,q⟩:=(any_eq_true _ _).mp q;simp only[av,aM]at q;obtain⟨⟨⟨⟨⟨⟨g,f⟩,d⟩,c⟩,a⟩,e⟩,E⟩:=q;cases i;cases g;cases c;exact⟨M.tail,N,nm,Q,bs,p,j,S,A,l,r,_,_,_,_,_,_,X _ _ (by rw[H,f,d];rfl),.of_isNs (PySem.W.isNs_of_in X e),PySem.W.nsMap_none_of_in X e E,PySem.W.tail_of_in X a⟩
noncomputable def J5 (x:Str)(M:Ea):Ex:=λa A=>(M a A).bind λ_ b=>.exc x b
section
variable {g:Heap}{es:bY}{np lJ:Pos}{C:Addr}{B lM lR:String}{bmB:bS}
def Ae {e:Addr}{d:bS}(x:wb X g xr)(I:Inv X l0 σ H s)(m:Heap.MadeExcOf s.heap h' e (.ref C) d):
  Inv X l0 σ H { s with heap:=h' }/\kW H h' g e (.ref C):=by
 have N:∀b,s.heap.get? b=none->H b=none:=λb z=>by
  cases q:H b with
  |none=>rfl|some u=>obtain⟨o,k⟩:=(I.hok b u q).obj;rw[z]at k;cases k
 have n:∀b,s.heap.get? b=none->g.get? b=none:=λb z=>by
  cases q:g.get? b with
  |none=>rfl|some o=>obtain⟨i,k⟩:=x.th l0 σ H s I b o q;rw[z]at k;cases k
 obtain⟨t,f,a,h⟩:=m.there;refine⟨I.call' (s':={ s with heap:=h' }) (ch:=[]) rfl ⟨λb o q _ _ _=>m.keeps b o q,λb o q _ _ _=>⟨o.slots,m.keeps b o q⟩,λb o q z _=>z,λb o q _=>⟨o,m.keeps b o q⟩,λ_ _ q=>q,λ_ _ _ q=>q,λb p q=>⟨#[],by rw[Array.append_empty];exact q⟩⟩
  (λb u q=>(I.hok b u q).stay (λc v _ z=>m.keeps c v z) (λ_ z=>z) λ_ _ z=>z) I.bare (λb z=>absurd z (by simp)),?_⟩
 exact⟨n e m.new,N e m.new,_,_,_,f,rfl,rfl,rfl,.inl rfl⟩
def Cg (o:wb X g xr)(f:yC X.K x (.ref C))(ex:gj X.K C bmB lM=true)(FB:ExcBaseFacts B lM lR bmB)(z:SA X xr (e::es) mr)(v:kP mr n)(hn:n<=sizeLine:=by decide)(w:Gl X x:=by rfl)(a:X.calm=true:=by rfl)
  (d:(x==("__debug__":Str))=false:=by decide)(he:starEach (e::es) X.env=(false,eval e X.env)::starEach es X.env:=by rfl)(l:(backTo lJ (starEach es X.env)).any (·.1)=false:=by rfl):
  SS X xr (.Raise (some (.Call (.Name x np) (e::es) [] lJ)) none pos) (J5 x mr):=by
 intro l0 s σ H D I ⟨φ,A,ρ,S,re,h⟩;have hm:X.mg x=some (.ref C):=mg_of I.mod.kin I.mod.glob f;obtain⟨t,N,nm,q,bs,hdct,sn,sub,ab,col,dd,k0,k1,k2,k3,k5,mN,M,J,c,T⟩:=Vh I.mod.kin ex;refine wpAny_Raise_call_subT (C:=C) (nm:=nm) (q:=q) (N:=N) (bs:=bs) (bm:=t) (hdct:=hdct) (sn:=sn) (sub:=sub) (ab:=ab) (col:=col) (dd:=dd) (k0:=k0) (k1:=k1) (k2:=k2) (k3:=k3) (k5:=k5)
  FB (mN:=mN) (T.hasType FB.hasBase) (I.ok.hd a) (by rw[he];show(false || (backTo lJ (starEach es X.env)).any (·.1))=false;rw[l];rfl) c (JW I w hm ⟨rfl,?_⟩ d)
 have h':=zT.mp h;have j:=z lJ l0 s σ H (λvs H1=>vs.length<=sizeLine/\xr x H1) I ⟨φ,A,ρ,S,re,?_⟩
 ·rw[he]at j ⊢
  refine Calls.evalArgs_plain (wpAny_mono j (λus s2 P=>?_) λ_ _ y=>y);obtain⟨vs,H2,i,r,hlen,u⟩:=P;refine⟨rfl,?_,i.bk _ _ M,J.keeps i.bk,T.keeps i.bk,λh3 U m=>?_⟩
  ·rw[<- r.length];exact hlen
  ·obtain⟨Z,L⟩:=Ae o i m
   exact o.out l0 σ H2 _ U C x Z L f u
 ·cases E:mr ρ A with
  |ok ws A1=>
   rw[E]at h';intro b H1 vs p Y Q;refine⟨?_,h' b H1 p Y⟩;rw[<- Q.length,v ρ A ws A1 E];exact hn
  |exc y A1=>rw[E]at h';exact h'|bad=>rw[E]at h';exact h'
end
noncomputable def mJ:List Ev->Str->Ev
 |[],acc=>λ_ A=>.ok (.str acc) A|m::ms,acc=>λa A=>(m a A).bind λw b=>match w with
  |.str y=>if (acc++y).length<=sizeLine then mJ ms (acc++y) a b else .bad|_=>.bad
section
variable {es:bY}{m:Ev}{ms:List Ev}
inductive SJ (X:Cx)(xr:XR):List Expr->List Ev->Prop where
 |nil:SJ X xr [] []
 |cons {e:Expr} {es:bY} {m:Ev} {ms:List Ev} (h:SE X xr e m) (r:SJ X xr es ms):SJ X xr (e::es) (m::ms)
end
section
variable {A:Around}{e C:Addr}{oe:Obj}{bmB bmD:bS}{lM lO:String}{Q:Bool->Shared->Prop}
def Ow (h:Heap)(C D:Addr):Prop:=∃o c,h.get? C=some o/\o.data=.cls c/\c.mro.contains (.ref D)=true
def HZ (lc:Vf C bmB lM s.heap)(ld:Vf D bmD lO s.heap)(j:bmD.contains (.type "BaseException")=true)(he:s.heap.get? e=some oe)(a:oe.cls=.ref C)(up:Ow s.heap C D)(w:Q true s):
  wpAny M A (excMatches (.ref e) (.ref D)) Q E s:=by
 obtain⟨h,g,d,t,os⟩:=s;obtain⟨n,N,nm,q,bs,Z,sn,sub,ab,col,dd,k0,k1,k2,k3,k5,mN,l,_,_,_⟩:=lc;obtain⟨T,Y,u,I,y,c,r,S,z,p,x,X,U,P,K,L,v,o,_,_,T2⟩:=ld;obtain⟨J,cd,b,hd,hm⟩:=up;rw[l]at b;cases b;have H:(excClassObj nm q C N bs n Z sn sub ab col dd k0 k1 k2 k3 k5 lM).data=.cls cd:=hd;unfold excClassObj at H;cases H;have B:(Value.ref D::T).contains (.type "BaseException")=true:=by rw[List.contains_cons,T2.hasType j,Bool.or_true]
 have i:(Value.ref C::n).contains (.ref D)=true:=hm;have f:=tc_notTuple;unfold excMatches
 repeat (first|(with_reducible refine wpAny_loadPart_at he ?_;rw[a])|with_reducible refine wpAny_loadPart_at o ?_|with_reducible refine wpAny_loadPart_at l ?_|(with_reducible refine wpAny_isSubtype_exc o ?_;rw[B])|(with_reducible refine wpAny_isSubtype_exc l ?_;rw[i])|wp_step)
 exact w
end
section
variable {H0:Hp}{s0:Shared}{ea C:Addr}
def landed {T:Addr}{a0:Value}(g:Inv X l0 σ H0 s0)(I:Inv X l0 σ H s)(x:kW H s.heap s0.heap ea (.ref C))(nT:s0.heap.get? T=none)(hT:H T=none)
  (th:∀b o,s0.heap.get? b=some o->∃o',s.heap.get? b=some o')
  (fl:Heap.FlyingW (hideAll s.heap (ea::T::qt X.stack)) X.stack ea (.ref C) a0 h')(us:s.heap.UpToSlots h'):
  Inv X l0 σ H { s with heap:=h' }/\kW H h' s0.heap ea (.ref C)/\Tr h' ea/\∀b o,s0.heap.get? b=some o->∃o',h'.get? b=some o':=by
 obtain⟨st,_,ff,oe,vs,t,oT,P,he,⟨A,h0⟩,hd,h1,l,B,D,w,h3⟩:=fl;have ng:s0.heap.get? ea=none:=by cases x;assumption
 have nH:H ea=none:=by cases x;assumption
 have kept:∀b o,s.heap.get? b=some o->b∉qt X.stack->b≠ea->b≠T->h'.get? b=some o:=λb o q n1 j N=>st b o (bL _ q λhm=>by
  rcases cn.mp hm with z|hm
  ·exact j z
  rcases cn.mp hm with z|hm
  ·exact N z
  ·exact n1 hm)
 have slot:∀b o,s.heap.get? b=some o->b∈qt X.stack->∃S,h'.get? b=some { o with slots:=S }:=λb o q hm=>by
  obtain⟨_,o',h,f⟩:=I.stack.mem hm;rw[q]at h;cases h;exact us b o q f
 have off:∀b u,H b=some u->b∉qt X.stack/\b≠ea/\b≠T:=λb u q=>⟨λhm=>(by rw[I.stkFree b hm]at q;cases q),λz=>(by rw[z,nH]at q;cases q),λz=>(by rw[z,hT]at q;cases q)⟩
 have ne:∀b o,s0.heap.get? b=some o->b≠ea/\b≠T:=λb o q=>⟨λz=>(by rw[z,ng]at q;cases q),λz=>(by rw[z,nT]at q;cases q)⟩
 have any:∀b o o',s0.heap.get? b=some o'->s.heap.get? b=some o->∃S,h'.get? b=some { o with slots:=S }:=λb o o' Q q=>by
  by_cases hm:b∈qt X.stack
  ·exact slot b o q hm
  ·exact⟨o.slots,kept b o q hm (ne b o' Q).1 (ne b o' Q).2⟩
 have cell:∀y c,X.env.cells.lookup y=some c->∀v,s.heap.IsCell c v->h'.IsCell c v:=λy c e v ⟨o,L,hd⟩=>by
  obtain⟨_,o0,d,_⟩:=g.cell y c e;obtain⟨S,z⟩:=any c o o0 d L;exact⟨_,z,hd⟩
 have inv:Inv X l0 σ H { s with heap:=h' }:=by
  refine⟨I.ok,I.os,I.bare,⟨λb o q n K nx=>?_,λb o q n hf nx=>?_,I.base.free,λb o q nx=>?_,I.base.tups,I.base.frzs,I.base.tbls⟩,?_,λy c e=>?_,I.free,I.freeC,λp hp=>?_,λb u q=>?_,I.len⟩
  ·have a:=I.base.keep b o q n K nx
   have Q:=g.base.keep b o q n K nx;refine kept b o a (λhm=>?_) (ne b o Q).1 (ne b o Q).2;rcases cn.mp (I.stkSub b hm) with z|z
   ·exact absurd (aF (aG q) I.ok.above) (by rw[z];exact aV _)
   ·exact K z
  ·obtain⟨S,a⟩:=I.base.slot b o q n hf nx
   obtain⟨sl0,Q⟩:=g.base.slot b o q n hf nx;obtain⟨E,z⟩:=any b _ _ Q a;exact⟨E,z⟩
  ·obtain⟨J,a⟩:=I.base.there b o q nx
   obtain⟨o0,Q⟩:=g.base.there b o q nx;obtain⟨S,z⟩:=any b J o0 Q a;exact⟨_,z⟩
  ·obtain⟨m,⟨o,es,ep,L,r⟩,k⟩:=I.loc
   obtain⟨_,⟨o0,_,_,d,_⟩,_⟩:=g.loc;obtain⟨S,z⟩:=any _ o o0 d L;refine⟨m,⟨_,es,ep,z,r⟩,λi y v e1 e2 e3=>?_⟩;obtain⟨u,ru,lk⟩:=k i y v e1 e2 e3;refine⟨u,ru,?_⟩;rcases lk with lk|⟨lk,c,ec,M⟩
   ·exact .inl lk
   ·exact .inr ⟨lk,c,ec,cell y c ec _ M⟩
  ·obtain⟨v,hv⟩:=I.cell y c e
   exact⟨v,cell y c e v hv⟩
  ·obtain⟨p1,p2,Y,U,p5⟩:=I.pin p hp
   have Z:=(g.pin p hp).1;refine⟨kept _ _ p1 (λhm=>?_) (ne _ _ Z).1 (ne _ _ Z).2,p2,Y,U,p5⟩;rcases cn.mp (I.stkSub _ hm) with z|z
   ·exact Y z
   ·exact U z
  ·refine(I.hok b u q).stay (λc v M z=>?_) (λ_ z=>z) λ_ _ z=>z
   rcases M with e|e
   ·obtain⟨n1,j,N⟩:=off b u q
    rw[e]at z ⊢;exact kept b v z n1 j N
   ·obtain⟨n1,j,N⟩:=off c _ e
    exact kept c v z n1 j N
 have both:s0.heap.get? t=none/\H t=none:=by
  cases q:s.heap.get? t with
  |some o=>
   by_cases hm:t∈ea::T::qt X.stack
   ·rcases cn.mp hm with z|hm
    ·exact absurd z B
    rcases cn.mp hm with z|hm
    ·rw[z];exact⟨nT,hT⟩
    ·obtain⟨S,z⟩:=slot t o q hm
     obtain⟨_,o',h,f⟩:=I.stack.mem hm;rw[q]at h;cases h;rw[D]at z;cases z;exact absurd w (f P)
   ·rw[bL _ q hm]at l;cases l
  |none=>
   constructor
   ·cases z:s0.heap.get? t with
    |none=>rfl|some o=>obtain⟨o',k⟩:=th t o z;rw[q]at k;cases k
   ·cases z:H t with
    |none=>rfl|some u=>obtain⟨o',k⟩:=(I.hok t u z).obj;rw[q]at k;cases k
 exact⟨inv,⟨ng,nH,oe,vs,a0,he,A,hd,h0,.inr ⟨t,oT,P,h1,B,both.1,both.2,D,w,h3⟩⟩,⟨oe,vs,t,he,hd,h1⟩,λb o q=>by
  obtain⟨J,a⟩:=th b o q;obtain⟨S,z⟩:=any b J o q a;exact⟨_,z⟩⟩
def flying (I:Inv X l0 σ H s)(x:kW H s.heap s0.heap ea (.ref C))(tr:Tr s.heap ea):
  ∃T A,s0.heap.get? T=none/\H T=none/\Heap.FlyingW (hideAll s.heap (ea::T::qt X.stack)) X.stack ea (.ref C) A s.heap:=by
 obtain⟨u,w,l,J,A,D,p,E,K,z⟩:=x;obtain⟨j,v,y,h,a,c⟩:=tr;rw[D]at h;cases h;rw[E]at a;cases a;rcases z with z|⟨T,n,t,z,g,d,i,hT,e,r⟩
 ·rw[z]at c;cases c
 ·have B:∀b∈ea::T::qt X.stack,(hideAll s.heap (ea::T::qt X.stack)).get? b=none:=λb f=>hideAll_none _ f
  exact⟨T,A,d,i,λb o q=>of_hideAll _ q,B ea (aq ..),frames_at I.stack λb f=>B b (ak _ (ak _ f)),
   l,J,T,n,t,D,⟨p,K⟩,E,z,B T (ak _ (aq ..)),g,hT,e,r⟩
end
noncomputable def Yz (o:Obj):HO:=.frz o (.own 0)
noncomputable def QM (K:Frag)(C D:Addr):Bool:=match K.lookup C with
 |some ⟨_,_,.cls c,_⟩=>c.mro.contains (.ref D)|_=>false
def fI {K:Frag}{C:Addr}(X:K.In h)(e:QM K C D=true):Ow h C D:=by
 unfold QM at e
 split at e
 ·rename_i H
  exact⟨_,_,X _ _ H,rfl,e⟩
 ·cases e
section
variable {H0:Hp}{s0:Shared}{ea C L:Addr}
def Jo (i:Inv X l0 σ H0 s0)(I:Inv X l0 σ H s)(x:kW H s.heap s0.heap ea (.ref C)):∃a,a.cls=.ref C/\H ea=none/\Inv X l0 σ (upd H ea (Yz a)) s:=by
 obtain⟨l,d,a,J,A,D,r,_⟩:=x;refine⟨a,r,d,?_⟩;have w:∀b o,s0.heap.get? b=some o->b≠ea:=λb o q z=>by rw[z,l]at q;cases q
 have at_:∀b,b≠ea->upd H ea (Yz a) b=H b:=λb n=>by unfold upd;exact ai n
 have N:∀b u,H b=some u->upd H ea (Yz a) b=some u:=λb u q=>by
  rw[at_ b λz=>by rw[z,d]at q;cases q];exact q
 refine⟨I.ok,I.os,I.bare,⟨I.base.keep,I.base.slot,λb o q n nx=>?_,I.base.there,λb B q=>N _ _ (I.base.tups b B q),λb o u q=>N _ _ (I.base.frzs b o u q),λb E q=>?_⟩,I.loc,I.cell,?_,λy c e=>?_,λp f=>?_,λb u q=>?_,I.len⟩
 ·obtain⟨t,Q⟩:=i.base.there b o q nx
  rw[at_ b (w b t Q)];exact I.base.free b o q n nx
 ·obtain⟨more,z⟩:=I.base.tbls b E q
  exact⟨more,N _ _ z⟩
 ·obtain⟨m,⟨t,_,_,h,_⟩,_⟩:=i.loc
  rw[at_ _ (w _ t h)];exact I.free
 ·obtain⟨v,t,h,_⟩:=i.cell y c e
  rw[at_ _ (w _ t h)];exact I.freeC y c e
 ·obtain⟨j,g,P⟩:=I.pin p f
  refine⟨j,?_,P⟩;rw[at_ _ (w _ _ (i.pin p f).1)];exact g
 ·by_cases z:b=ea
  ·subst z
   have:u=Yz a:=by
    unfold upd at q;rw[ah rfl]at q;exact(aB q).symm
   subst this;exact⟨D,⟨a,D⟩⟩
  ·rw[at_ b z]at q
   exact(I.hok b u q).stay (λ_ _ _ z=>z) (λc z=>N c _ z) λc B z=>N c _ z
def fJ (X:Cx)(p:bU)(c:St)(S:Shared)(D:Addr)(k:Addr->Addr->Hp->Prop)(e:Value)(s:Shared):Prop:=
 ∃E C H B n,e=.ref E/\Inv X p c H s/\kW H s.heap S.heap E (.ref C)/\Tr s.heap E/\(∀b o,S.heap.get? b=some o->∃d,s.heap.get? b=some d)/\Mi.gj X.K C B n=true/\QM X.K C D=true/\∀a,a.cls=.ref C->H E=none->k E C (upd H E (Yz a))
def fK {l n:Str}{p:bS}{lO:String}{S:cg}{B:Stmt}{np hp:Pos}{Q:Flow->Shared->Prop}{k:Addr->Addr->Hp->Prop}
  (I0:Inv X l0 σ H0 s0)(t:X.stack=X.env::X.outer)(hL:X.env.frame=some L)(hD:yC X.K l (.ref D))(exD:Mi.gj X.K D p lO=true)(hbD:p.contains (.type "BaseException")=true)
  (hN:X.N.Nodup)(hi:X.N[i]? =some n)(hx:Loc X.env.scope n)
  (y:wpAny (model X.prog X.w) X.A (execs body X.env) (λf s1=>f=.next/\Q .next s1) (fJ X l0 σ s0 D k) s0)
  (b:∀E C H s2,Inv X l0 (σ.set i (some (.ref E))) H s2->k E C H->∀E',wpAny (model X.prog X.w) (X.A.mark (some (.ref E))) (execs (B::S) X.env)
   (λf s4=>wpAny (model X.prog X.w) X.A (do bindName X.env n .none;unbindBehindTheSuite X.env n hp) (λ_ s5=>Q f s5) X.xe s4) E' s2)
  (hg:Gl X l)(Z:(l==("__debug__":Str))=false:=by decide)(hf:X.fn n=true∨X.env.scope.names.lookup n=some .local:=by first|exact .inl rfl|exact .inr rfl|assumption):
  wpAny (model X.prog X.w) X.A (exec (.Try body [.ExceptHandler (some (.Name l np)) (some n) (B::S) hp] [] [] pos) X.env) Q X.xe s0:=by
 refine wpAny_Try_except (wpAny_mono y (λf s1 ⟨ef,q⟩=>?_) λe s1 h=>?_)
 ·subst ef
  exact wpAny_execs_nil q
 obtain⟨E,C,H,bmC,newC,rfl,I,x,tr,th,exC,up,hk⟩:=h;have hm:X.mg l=some (.ref D):=mg_of I.mod.kin I.mod.glob hD;obtain⟨T,a0,nT,hT,fl⟩:=flying I x tr;have Y:X.A.frames=some (X.env::X.outer):=by rw[<- t];exact I.ok.frames
 refine wpAny_looks_onW Y hL (by rw[<- t];exact fl) λh₄ g d=>?_
 refine wpAny_landsW g λo a U=>?_;obtain⟨c,x5,r,z⟩:=landed I0 I x nT hT th (by rw[<- t]at a;exact a) (d.trans U)
 obtain⟨_,_,oe,_,_,he,hc,_⟩:=id x5;refine wpAny_handleBy_cons (codeAny_handlers_test (Calls.Name_function_global c.ok.kind hg (Calls.loadGlobal_global (by rw[c.ok.glob];exact c.mod.glob.keeps c.bk) hm ?_) Z)) (by intro q;cases q)
 refine HZ (s:={ s1 with heap:=o }) (Vh c.kIn exC) (Vh c.kIn exD) hbD he hc (fI c.kIn up) ?_
 refine codeAny_handlers_suite_as ?_;obtain⟨T',a0',M,hT',fl'⟩:=flying c x5 r;refine lands_againW fl' λh₆ j u=>?_;obtain⟨I6,x6,_,_⟩:=landed I0 c x5 M hT' z j u;obtain⟨of,P,J,I7⟩:=Jo I0 I6 x6;exact Jf (v:=.ref E) I7 hN hi hx rfl (λs7 I7=>b E C _ s7 I7 (hk of P J) _) hf
end
section
variable {A:Around}
def name_goes {n:Str}{Q:Unit->Shared->Prop}(I:Inv X l0 σ H s)(hN:X.N.Nodup)(hi:X.N[i]? =some n)(Y:X.env.scope.names.lookup n=some .local)
  (h:∀s',Inv X l0 (σ.set i none) H s'->Q () s'):wpAny M A (do bindName X.env n .none;unbindBehindTheSuite X.env n pos) Q E s:=by
 obtain⟨m,hn,T⟩:=id I.loc;have f:i < σ.length:=by rw[I.len];exact(cu.mp hi).1
 refine wpAny_nameGoes_keeps Y hn (by rw[I.ok.kind];rfl) λh' v w t=>h _ ?_
 have old:∀b o,b≠X.env.locals->s.heap.get? b=some o->h'.get? b=some o:=λb o n q=>(t.2 b n).trans q;have nl:∀{b:Addr}{u:HO},H b=some u->b≠X.env.locals:=λq z=>by rw[z,I.free]at q;cases q
 have ab:∀{b:Addr}{k:Nat},b<k->k<=X.env.locals->b≠X.env.locals:=λl g=>aJ (aF l g);refine⟨I.ok,I.os,I.bare,⟨λb o e z C x=>?_,λb o e z C x=>?_,I.base.free,λb o e x=>?_,I.base.tups,I.base.frzs,I.base.tbls⟩,⟨_,w,λj y J a r e3=>?_⟩,λy c e=>?_,I.free,I.freeC,λp P=>?_,λb u q=>?_,by simpa using I.len⟩
 ·exact old b o (ab (aG e) I.ok.above) (I.base.keep b o e z C x)
 ·obtain⟨S,a⟩:=I.base.slot b o e z C x
  exact⟨S,old b _ (ab (aG e) I.ok.above) a⟩
 ·obtain⟨o',a⟩:=I.base.there b o e x
  exact⟨o',old b _ (ab (aG e) I.ok.above) a⟩
 ·by_cases B:j=i
  ·subst B
   rw[aC f]at r;cases r
  ·rw[aI (Ne.symm B)]at r
   obtain⟨U,K,q⟩:=T j y J a r e3;refine⟨U,K,?_⟩;rcases q with ⟨k,e⟩|⟨k,c,e,z⟩
   ·have:y≠n:=λe=>B (G6 hN a (e ▸ hi))
    exact .inl ⟨k,by simp[this,e]⟩
   ·exact .inr ⟨k,c,e,z.sameBut t (I.cne y c e)⟩
 ·obtain⟨D,z⟩:=I.cell y c e
  exact⟨D,z.sameBut t (I.cne y c e)⟩
 ·obtain⟨e,z,ne,L,d⟩:=I.pin p P
  exact⟨old _ _ ne e,z,ne,L,d⟩
 ·refine(I.hok b u q).stay (λc v Z z=>old c v ?_ z) (λ_ z=>z) λ_ _ z=>z
  rcases Z with e|e
  ·rw[e];exact nl q
  ·exact nl e
def HY {n y:Str}{E:Addr}{C Y D p:Pos}{Q:Flow->Shared->Prop}{z:bX}(I:Inv X l0 (σ.set i (some (.ref E))) H s)(c:X.N.Nodup)(B:X.N[i]? =some n)(t:X.N[j]? =some y)
  (h:X.env.scope.names.lookup n=some .local)(d:Loc X.env.scope y)(q:∀s',Inv X l0 (((σ.set i (some (.ref E))).set j (some (.ref E))).set i none) H s'->Q .next s')
  (g:swapsWith (.Name n C) (some (.Name y Y)) D.line X.env=pure false)(M:X.fn y=true∨X.env.scope.names.lookup y=some .local)
  (b:(n==("__debug__":Str))=false:=by decide):
  wpAny (model X.prog X.w) A (execs [.Assign [.Name y Y] (.Name n C) D] X.env) (λf J=>wpAny (model X.prog X.w) X.A (do bindName X.env n .none;unbindBehindTheSuite X.env n p) (λ_ S=>Q f S) X.xe J) z s:=by
 obtain⟨m,K,o⟩:=I.loc;have a:i < σ.length:=by have:=I.len;rw[a6]at this;rw[this];exact(cu.mp B).1
 obtain⟨u,r,l⟩:=o i n (.ref E) B (aC a) (.inl h);obtain rfl:u=Value.ref E:=r;have L:m n=some (.ref E):=by
  rcases l with ⟨_,e⟩|⟨k|k,_⟩
  ·exact e
  ·rw[show X.env.kindOf n=some .local from h]at k;cases k
  ·rw[show X.env.kindOf n=some .local from h]at k;cases k
 refine wpAny_execs_cons (wpAny_Assign_Name (wpAny_Name (wpAny_loadName_local I.ok.kind h K L ?_) b) g);exact Jf (v:=.ref E) I c t d rfl (λS x=>wpAny_execs_nil (name_goes x c B h q)) M
end
open PySem PySem.W PySem.Spec PySem.Calls PyProof.Rows Builtin Builtin.ObjectAttr Builtin.Getset_descriptor
section
variable {prog:Program}{A:Around}{K:Frag}{x:Addr}{name:Str}
def fL {a g:Value}(X:K.In h)(b:findIn K (.ref D) name=some (some a))(n:specialIn K a "__get__"=some (some g))(H:takesIn K a=some true):Looks M h (find (.ref x) (.ref D) name) (.bind g a):=
 (looks_findIn (M:=M) X b).andThen ((show Looks M h (getOf (some a)) (some g) from looks_specialIn X n).andThen
  ((show Looks M h (dataDescriptor? (some a) (some g)) (some (g,a)) from (looks_takesIn (M:=M) X H).andThen .now).andThen (Looks.tag .now)))
def Ao {t:Value}{R:Result->Shared->Prop}(X:K.In s.heap)(l:Looks (model prog w) s.heap (typeOf (.ref x)) (.ref D))(H:mroIn K D (.type "object")=some true)(h:R (.ok (.ret (.ref D))) s):
  codeAny (model prog w) A (.call (.builtin "getset_descriptor.__get__") ⟨[.builtin "object.__class__",.ref x,t],[]⟩) R s:=by
 obtain⟨a,g,d,T,o⟩:=s;have L:=looks_mroIn (M:=model prog w) X H;have S:=KF.slot_gs;refine codeAny_call_builtin S.plain KF.entry_gs (S.check _ _ _ _ _ _ _ _ KF.type_class (KF.args_gs _ _ _) ?_);unfold «getset_descriptor.__get__» descrGet;rw[dga_obj];refine ck (cm ?_);unfold descrGetter descrCheckInstance isInstance descrNameAndClass;simp only[KF.owner_class]
 repeat lk
 refine And.intro (Code.quiet_builtin _ (by decide +kernel)) (codeAny_builtin KF.entry_class ?_)
 unfold «object.__class__» shownTypeOf
 repeat lk
 exact h
def HS {t:bS}{w:List (Str×Value)}{Q:Unit->Shared->Prop}(X:K.In s.heap)(l:Looks M s.heap (typeOf (.ref x)) (.ref D))(H:mroIn K D (.type "BaseException")=some true)
  (ok:argsOk "BaseException.__getattribute__" ⟨.ref x::t,w⟩)(h:Q () s):wpAny M A (checkBuiltinCall "BaseException.__getattribute__" ⟨.ref x::t,w⟩) Q E s:=by
 have c:splitId "BaseException.__getattribute__"=some ("BaseException","__getattribute__"):=by first|rfl|decide +kernel
 have a:builtinKind "BaseException.__getattribute__"=some .slot∨builtinKind "BaseException.__getattribute__"=some .method:=by
  simp only[builtinKind,c]
  first|exact .inl (by decide +kernel)|exact .inr (by decide +kernel)
 have L:=looks_mroIn (M:=M) X H;have r:wpAny M A (match Manifest.signature? "BaseException.__getattribute__" with|some S=>Bind.checkArgs "BaseException.__getattribute__" S ⟨.ref x::t,w⟩|none=>pure ()) Q E s:=wpAny_of_eq ok h
 rcases a with d|d
 all_goals
  unfold checkBuiltinCall;rw[d,c];dsimp only;unfold isInstance;refine ck (ck (l.at (L.at ?_)));exact r
def LW {Q:Option Value->Shared->Prop}(b:findIn K (.ref D) "__getattribute__"=some (some (.builtin "BaseException.__getattribute__")))(n:findIn K (.ref D) "__getattr__"=some none)
  (e:findIn K (.ref D) "__class__"=some (some (.builtin "object.__class__")))
  (i:specialIn K (.builtin "object.__class__") "__get__"=some (some (.builtin "getset_descriptor.__get__")))(H:takesIn K (.builtin "object.__class__")=some true)(j:mroIn K D (.type "object")=some true)(a:mroIn K D (.type "BaseException")=some true)
  (X:K.In s.heap)(L:Looks (model prog w) s.heap (typeOf (.ref x)) (.ref D))(h:Q (some (.ref D)) { s with toks:=s.toks+1 }):wpAny (model prog w) A (getAttr? (.ref x) "__class__") Q E s:=by
 obtain⟨c,g,d,t,o⟩:=s;have l:=looks_findIn (M:=model prog w) X b;have L2:=fL (M:=model prog w) (x:=x) X e i H;have f:=looks_findIn (M:=model prog w) X n;unfold getAttr?;unfold getAttrBy?;unfold getAttrBy;refine ck (wpAny_mkText (ck (wpAny_attempt (wpAny_holding (ck (L.at (ck (l.at ?_))))))));show wpAny _ _ (getAttrByItsOwn (.ref x) (.str "__class__" t) (.ref D) (.builtin "BaseException.__getattribute__") false false) _ _ _;unfold getAttrByItsOwn;refine ck ?_;show wpAny _ _ (typeLookup (.ref D) "__getattr__") _ _ _;refine f.at (ck (wpAny_attempt (wpAny_holding ?_)));show wpAny _ _ (bindSpecial (.builtin "BaseException.__getattribute__") (.ref x) >>= _) _ _ _;refine ck (wpAny_of_eq (F.excAttr_ValueError.ga.bind _) ?_);refine wpAny_call (codeAny_call_builtin F.excAttr_ValueError.ga.plain F.entry_bexc_ga (HS X L a (F.args_bexc_ga _ _) ?_));unfold «object.__getattribute__»;refine ck (wpAny_of_eq (show slotArgs "__getattribute__" 1 ⟨[.ref x]++[.str "__class__" t],[]⟩=pure (.ref x,[.str "__class__" t]) from rfl) ?_)
 refine ck (wpAny_of_eq (show attrName (.str "__class__" t)=pure ("__class__":Str) from rfl) (ck (L.at (ck (L2.at ?_)))))
 show wpAny _ _ (holding [Value.builtin "object.__class__"] (call (.builtin "getset_descriptor.__get__") [.builtin "object.__class__",.ref x,.ref D]) >>= ret) _ _ _;refine ck (wpAny_holding (wpAny_call (Ao (s:=⟨c,g,d,t+1,o⟩) X L j ?_)));refine cm ?_;exact handed_on rfl (cm h)
end
def Wc (x D:Addr)(h:Heap):Prop:=∃o,h.get? x=some o/\o.cls=.ref D
def Wc.ty {x:Addr}(p:Wc x D h):Looks M h (typeOf (.ref x)) (.ref D):=by
 obtain⟨o,H,c⟩:=p;rw[<- c];exact(Looks.ld H).andThen .now
def Dz {K:Frag}{x:Addr}(d:(clsIn K D).isSome=true)(c:findIn K (.ref D) "__getattribute__"=some (some (.builtin "BaseException.__getattribute__")))(b:findIn K (.ref D) "__getattr__"=some none)(e:findIn K (.ref D) "__class__"=some (some (.builtin "object.__class__")))
  (j:specialIn K (.builtin "object.__class__") "__get__"=some (some (.builtin "getset_descriptor.__get__")))(H:takesIn K (.builtin "object.__class__")=some true)(l:mroIn K D (.type "object")=some true)(a:mroIn K D (.type "BaseException")=some true):
  KitX K (.ref x) (.ref D) (Wc x D) where
 ty:=λ_ _ _ p=>p.ty
 it:=λ_ _ X _=>by
  obtain⟨C,h⟩:=Option.isSome_iff_exists.mp d;unfold clsIn at h
  split at h
  ·rename_i g v f s o
   intro A Q E r k q;unfold isType loadHead;exact ck (wpAny_loadPart (k _ _ (X D _ o)) (cm q))
  ·cases h
 ne:=λ_ T u i n S X t=>by
  obtain⟨C,h⟩:=Option.isSome_iff_exists.mp d;rw[Bool.eq_false_iff];intro q;cases Value.ref.inj (aM.mp q);unfold clsIn at h
  split at h
  ·rename_i o
   cases (X _ _ o).symm.trans t
  ·cases h
 ca:=λX p k=>LW c b e j H l a X p.ty k
noncomputable def J7 (K:Frag)(C:Addr):Bool:=(PySem.W.clsIn K C).isSome&&(PySem.W.findIn K (.ref C) "__getattribute__" == some (some (.builtin "BaseException.__getattribute__")))&&(PySem.W.findIn K (.ref C) "__getattr__" == some none)&&(PySem.W.findIn K (.ref C) "__class__" == some (some (.builtin "object.__class__")))&&
 (PySem.W.specialIn K (.builtin "object.__class__") "__get__" == some (some (.builtin "getset_descriptor.__get__")))&&(PySem.W.takesIn K (.builtin "object.__class__")==some true)&&(PySem.W.mroIn K C (.type "object")==some true)&&(PySem.W.mroIn K C (.type "BaseException")==some true)
section
variable {A:Around}{c:Value}{b:Bool}{ea C:Addr}
def fM {o:Obj}{u:HO}(I:Inv X l0 σ H s)(e:H ea=some (.frz o u))(d:o.cls=.ref C)(k:J7 X.K C=true)(q:kitOne X.K (.ref C) c=some b)(h:∀tk,Q (.bool b) { s with toks:=tk }):
  wpAny (model X.prog X.w) A (call (.builtin "isinstance") [.ref ea,c]) Q E s:=by
 have p:Wc ea C s.heap:=⟨o,(show qQ X.prog X.w H s.heap ea (.frz o u) from I.hok ea _ e).1,d⟩
 unfold J7 at k;simp only[av,aM]at k;obtain⟨⟨⟨⟨⟨⟨⟨r,n⟩,a⟩,l⟩,i⟩,j⟩,g⟩,f⟩:=k;exact bF (Dz r n a l i j g f) I.kIn p q (λz=>nomatch z) h
def fN (I:Inv X l0 σ H s)(q:kitOne X.K (.type "NoneType") c=some b)(h:∀tk,Q (.bool b) { s with toks:=tk }):wpAny (model X.prog X.w) A (call (.builtin "isinstance") [.none,c]) Q E s:=
 SV I (x:=.non) rfl .non q h
end
def gZ (P:Program)(w:World)(K:Frag)(M:b8)(b:Heap)(N:bW)(qual:Str)(scope:Scope)(f:Addr)(c:Value)(cl:cb)(A:Around)(o:b9)(s:Shared)(H:Hp)(E:XK):Cx where
 prog:=P
 w:=w
 K:=K
 mg:=M
 base:=b
 A:=A.deeper (envX qual scope s.heap.objs.size f c cl)
 N:=N
 s0:=s
 H0:=H
 env:=envX qual scope s.heap.objs.size f c cl
 outer:=o
 stack:=envX qual scope s.heap.objs.size f c cl::o
 ex:=[]
 calm:=true
 fn:=λ_=>false
 pn:=[]
 xe:=λe d=>wpAny (model P w) (A.deeper (envX qual scope s.heap.objs.size f c cl)) (leaving (envX qual scope s.heap.objs.size f c cl) e) (λ_ S=>wO P w o H s E e S) (λa S=>wO P w o H s E a S) d
section
variable {K:Frag}{cd:Value}{cl:cb}{A:Around}{outer:b9}{E:XK}
def EM {h:Hp}{a C:Addr}(I:Inv (gZ P w K mg base N qual scope f cd cl A outer s H E) l0 σ h s')(x:kW h s'.heap s.heap a (.ref C))(y:E (.ref C) none h):
  (gZ P w K mg base N qual scope f cd cl A outer s H E).xe (.ref a) s':=by
 have bs:Un (qt outer) [] H h s.heap s'.heap:=I.base;have J:∀b∈qt (envX qual scope s.heap.objs.size f cd cl::outer),h b=none:=I.stkFree;have p:s.heap.get? s.heap.objs.size=none:=Heap.get?_none_of_le (ar _);have g:(envX qual scope s.heap.objs.size f cd cl).frame=some s.heap.objs.size:=rfl;have mem:∀b,b∈qt (envX qual scope s.heap.objs.size f cd cl::outer)↔b=s.heap.objs.size∨b∈qt outer:=λb=>by
  unfold qt;rw[bj,g];exact mem_cons
 show wpAny (model P w) (A.deeper (envX qual scope s.heap.objs.size f cd cl)) (leaving (envX qual scope s.heap.objs.size f cd cl) (.ref a)) _ _ s';refine PR (base:=base) (L:=s.heap.objs.size) I.ok.frames rfl I.stack x (λb u e=>(I.hok b u e).obj) (λb o e=>bs.there b o e (by simp)) λZ D Y X t=>?_
 have r:∀b u,h b=some u->b∉qt (envX qual scope s.heap.objs.size f cd cl::outer):=λb u e B=>by rw[J b B]at e;cases e
 refine⟨a,C,h,rfl,I.os,I.bare,⟨λb o e n T _=>?_,λb o e n U _=>?_,λb o e n d=>bs.free b o e n d,λb o e d=>?_,bs.tups,bs.frzs,bs.tbls⟩,λb u e=>?_,X,t,y⟩
 ·have i:b≠s.heap.objs.size:=λz=>by rw[z,p]at e;cases e
  exact D b o (bs.keep b o e n T (by simp)) (λB=>(mem b).mp B |>.elim i T) (.inl ⟨o,e⟩)
 ·obtain⟨l,q⟩:=bs.slot b o e n U (by simp)
  obtain⟨S,Q⟩:=Y b _ q ((mem b).mpr (.inr U));exact⟨S,Q⟩
 ·obtain⟨M,q⟩:=bs.there b o e d
  by_cases B:b∈qt (envX qual scope s.heap.objs.size f cd cl::outer)
  ·obtain⟨l,z⟩:=Y b M q B;exact⟨_,z⟩
  ·exact⟨M,D b M q B (.inl ⟨o,e⟩)⟩
 ·refine(I.hok b u e).stay (λc v j q=>?_) (λ_ q=>q) λ_ _ q=>q
  rcases j with z|z
  ·rw[z]at q ⊢;exact D b v q (r b u e) (.inr ⟨u,e⟩)
  ·exact D c v q (r c _ z) (.inr ⟨_,z⟩)
def fO:wb (gZ P w K mg base N qual scope f cd cl A outer s H E) s.heap (gw K E) where
 th:=λp g h S I b o e=>(show Un (qt outer) [] H h s.heap S.heap from I.base).there b o e (by simp)
 out:=λp g h S d C x I l c a=>EM I l (a C c)
structure GU (N:bW)(sc:Scope):Prop where
 kind:sc.kind=.function
 co:sc.isCoroutine=false
 gen:sc.isGenerator=false
 nocell:∀y∈sc.names,y.2≠.cell
structure Ks (base:Heap)(N:bW)(scope:Scope)(cl:cb)(vs:List V):Prop where
 len:vs.length=N.length
 inj:∀x y c,cl.lookup x=some c->cl.lookup y=some c->x=y
 has:∀x,scope.names.lookup x=some .free->∃c,cl.lookup x=some c
 cell:∀x c,cl.lookup x=some c->∃v,base.IsCell c v
 val:∀(i:Nat)(x:Str)(v:V),N[i]? =some x->vs[i]? =some v->∃c u,scope.names.lookup x=some .free/\cl.lookup x=some c/\base.IsCell c (some u)/\RelV v u
def Ak {I:List V}{J:Heap}{T:Tok}(S:GU N scope)(M:A.handled=none)(g:Jv P w K mg base A outer s H)(C:Ks base N scope cl I)(l:∃m,J.Ns s.heap.objs.size m)(q:∀b o,s.heap.get? b=some o->J.get? b=some o):
  Inv (gZ P w K mg base N qual scope f cd cl A outer s H E) [] (L2.start N I) H { s with heap:=J,toks:=T }:=by
 have n:∀b:Addr,b∉(gZ P w K mg base N qual scope f cd cl A outer s H E).ex:=λb z=>absurd (show b∈([]:bT) from z) (by simp)
 have bk:∀c v,base.IsCell c v->J.IsCell c v/\H c=none:=λc v ⟨o,t,M⟩=>⟨⟨o,q _ _ (g.bs _ _ t).1,M⟩,(g.bs _ _ t).2⟩;obtain⟨m,Q⟩:=l;refine⟨⟨g.mod,S.kind,rfl,rfl,ar _,C.inj,λy j=>?_,λy c z _=>(nomatch z),λ_=>M,Around.frames_deeper g.frames,.inr ⟨rfl,rfl⟩,λb z=>absurd z (n b),g.bs,g.bsz,λb _ _=>n b,λb z=>absurd z (n b),g.funs,g.frf⟩,
  rfl,g.bare,Un.kept q,⟨m,Q,λi y v J d D=>?_⟩,λy c h=>?_,g.hok.fresh (ar _),λy c h=>?_,λp x=>absurd (show p∈([]:bU) from x) (by simp),g.hok.kept q,?_⟩
 ·have j:scope.names.lookup y=some .cell∨scope.names.lookup y=some .free:=j
  rcases j with j|j
  ·exact absurd rfl (S.nocell _ (PySem.mem_of_lookup j))
  ·exact C.has y j
 ·have L:i<I.length:=by
   unfold L2.start at d
   by_cases L:i<I.length
   ·exact L
   ·rw[ay (by simpa using L)]at d
    rw[a7]at d
    split at d<;>cases d
  have B:I[i]? =some v:=by
   unfold L2.start at d;rw[au (by simpa using L),ax]at d
   cases e:I[i]? with
   |none=>rw[e]at d;cases d|some a=>rw[e]at d;cases d;rfl
  obtain⟨c,u,k,e,z,r⟩:=C.val i y v J B;exact⟨u,r,.inr ⟨.inr k,c,e,(bk _ _ z).1⟩⟩
 ·obtain⟨v,z⟩:=C.cell y c h
  exact⟨v,(bk _ _ z).1⟩
 ·obtain⟨v,z⟩:=C.cell y c h
  exact(bk _ _ z).2
 ·unfold L2.start
  show _=N.length;rw[aj,ag,aT,C.len];omega
def P4 (o:Obj)(q:Str):Prop:=∃v t,o.data=.fields v/\v[1]? =some (.str q t)
def fP {k:Nat}{name:Str}{params:Arguments}{body:Expr}{pm ctv:Value}{i:Obj}{u uc:HO}{vs:List V}{m:Ev}(S:GU N scope)(C:Ks base N scope cl vs)(p:P4 i qual)
  (g:∀(A:Around)(outer:b9)(s:Shared)(H:Hp)(E:XK),qP k (A.deeper (envX qual scope s.heap.objs.size a (.ref c) cl))->wb (gZ P w K mg base N qual scope a (.ref c) cl A outer s H E) s.heap (gw K E)->
   SE (gZ P w K mg base N qual scope a (.ref c) cl A outer s H E) (gw K E) body m):
  ym P w K mg base (wO P w) (k+1) a (kla_fn name qual params body scope cl pm (.ref c) ctv) [] (λus H Q E=>us=[]/\H a=some (.frz (kla_obj name qual params body scope cl pm c ctv) u)/\H c=some (.frz i uc)/\
   ∃φ A ws,zF K φ A H/\zr K φ H ws vs/\(m (ws.map some) A).post (PB K φ H Q) (EB K φ H (gw K E))):=by
 refine⟨λus H Q E h=>by rw[h.1];rfl,λA outer s H args us D Q E n l hb r h=>?_⟩
 obtain⟨rfl,h1,h2,φ,A1,ws,Sm,B,Y⟩:=h;cases r;have Z:s.heap.get? a=some (kla_obj name qual params body scope cl pm c ctv):=(show qQ P w H s.heap a (.frz _ u) from l.hok a _ h1).1
 have hc:s.heap.get? c=some i:=(show qQ P w H s.heap c (.frz i uc) from l.hok c _ h2).1
 have lim:s.heap.NoLimit:=l.mod.nolimit.keeps λb o e=>(l.bs b o e).1;obtain⟨L,T,z,hd2⟩:=p;refine PySem.W.kla_callFunE n.depth Z rfl S.co S.gen rfl ⟨c,i,L,T,rfl,hc,z,hd2⟩ (hb _ _ _ _ ?_);refine wpAny_newFunctionEnv S.nocell (λy U=>absurd (show y∈([]:List (Str×Value)) from U) (by simp)) (λd t j=>⟨lim.fresh _ j,?_⟩) S.kind
 show codeAny _ _ (.expr body (envX qual scope s.heap.objs.size a (.ref c) cl)) _ _;have f:∀b o,s.heap.get? b=some o->d.get? b=some o:=λb o e=>j.extBut b o (aJ (aG e)) (af _ e);have I:∀tk,Inv (gZ P w K mg base N qual scope a (.ref c) cl A outer s H E) [] (L2.start N vs) H { s with heap:=d,toks:=tk }:=λtk=>Ak S n.hd l C ⟨_,t⟩ f
 refine PySem.W.kla_codeExpr (wpAny_mono (g A outer s H E (n.deeper _) fO [] _ (L2.start N vs) H Q (I _) ⟨φ,A1,_,Sm,RE.start (N:=N) B,?_⟩) (λv s' X=>?_) λ_ _ y=>y)
 ·have:N.length-ws.length=0:=by rw[B.length,C.len];omega
  rw[this,List.replicate_zero,bx];exact Y
 ·obtain⟨x,H',J,M,q⟩:=X
  exact⟨x,H',J.os,J.bare,J.base,J.hok,M,q⟩
end
inductive zdv (K:Frag)(a:Addr)(ob:Obj)(u:HO)(c:Addr)(oc:Obj)(uc:HO)(vs:List V)(g:Fn)(us:List V)(H:Hp)(Q:VK)(E:XK):Prop
 |mk (e:us=[]) (h1:H a=some (.frz ob u)) (h2:H c=some (.frz oc uc)) (φ:bT) (A:Hx) (ws:List W) (S:zF K φ A H) (r:zr K φ H ws vs) (q:(g ws A).post (PB K φ H Q) (EB K φ H (gw K E)))
def QH (P:Program)(w:World)(K:Frag)(M:b8)(b:Heap)(j:Nat)(p:Obj->Addr->Obj->List V->Prop)(g:Fn):Prop:=
 ∀a ob u c o U v,p ob c o v->(∃f,ob.data=.func f)/\∃f,ym P w K M b (wO P w) j a f [] (zdv K a ob u c o U v g)/\∀s,BindsTo s f ⟨[],[]⟩ []
open Classical in
noncomputable def WC (i:Nat)(PG:Nat->Obj->Addr->Obj->List V->Prop)(l:Nat->Fn):Ev:=λa A=>match a[i]? with
 |some (some (.clo k ws P))=>if P=PG k then l k ws A else .bad|_=>.bad
def Yr (i j l:Nat)(c:bW)(PG:Nat->Obj->Addr->Obj->List V->Prop)(L:Nat->Fn):Ex:=λa A=>match WC i PG L a A with
 |.ok _ b=>.ok (.nx a) b|.exc x b=>if c.contains x then .ok (.nx (((a.set l (some (.xc x))).set j (some (.xc x))).set l none)) b else .bad|.bad=>.bad
section
variable {K:Frag}
def RE.unset (r:RE K φ H ρ σ):RE K φ H (ρ.set i none) (σ.set i none):=
 ⟨by simp[r.len],λj u e=>by
  by_cases h:i=j
  ·subst h
   have b:i < ρ.length:=by
    have:=(cu.mp e).1
    simpa using this
   rw[aC b]at e;cases e
  ·rw[aI h]at e
   obtain⟨x,c,a⟩:=r.get j u e;exact⟨x,by rw[aI h];exact c,a⟩⟩
end
def Nx (K:Frag)(c:bT)(H:Hp)(d:En)(j l:Nat)(D:Ends)(x:Str)(A:Hx):Prop:=∀a h b,Le K c H a h->zF K a A h->RE K a h (((d.set l (some (.xc x))).set j (some (.xc x))).set l none) b->D.nx b h
inductive zd7 (K:Frag)(φ:bT)(H:Hp)(ρ:En)(j l:Nat)(D0:Ends)(ea C:Addr)(H':Hp):Prop
 |mk (xn:Str) (l9:bT) (A':Hx) (le:Le K φ H l9 H') (S:zF K l9 A' H') (rv:RV K l9 H' (.xc xn) (.ref ea)) (n:Nx K φ H ρ j l D0 xn A')
inductive zd6 (K:Frag)(φ:bT)(H:Hp)(ρ:En)(j l:Nat)(D0:Ends)(cs:bW)(Cv:Value)(d:cf)(H1:Hp):Prop
 |mk (xn:Str) (Ca:Addr) (e:Cv=.ref Ca) (hC:yC K xn (.ref Ca)) (hc:cs.contains xn=true) (lH:bT) (A1:Hx) (le:Le K φ H lH H1) (S:zF K lH A1 H1) (n:Nx K φ H ρ j l D0 xn A1)
def NB (K:Frag)(f:Str->Option Bool)(c:V):List V->Hp->VK->Prop:=λX H Q=>∃x,X=[x,c]/\((x=.non/\Q (.bl false) H)∨∃a o u C nm b,x=.ref a/\H a=some (.frz o u)/\o.cls=.ref C/\yC K nm (.ref C)/\f nm=some b/\Q (.bl b) H)
structure Yg (K:Frag)(f:Str->Option Bool)(c:Value):Prop where
 non:kitOne K (.type "NoneType") c=some false
 exc:∀nm C b,f nm=some b->yC K nm (.ref C)->J7 K C=true/\kitOne K (.ref C) c=some b
def qS (f:Str->Option Bool)(m:Ev):Ev:=λc A=>(m c A).bind λw a=>match w with
 |.non=>.ok (.bl false) a|.xc nm=>(match f nm with
  |some b=>.ok (.bl b) a|none=>.bad)
 |_=>.bad
section
variable {m:Ev}{f:Str->Option Bool}
def S7 {cv:V}{c:Value}(g:Yg X.K f c)(v:∀u,RelV cv u->u=c):jH X (.builtin "isinstance") (NB X.K f cv):=by
 intro p s z H A B Q I r h;obtain⟨x,rfl,h⟩:=h;obtain⟨u,n,rfl,e,d⟩:=vals2 r;cases v _ d;rcases h with ⟨rfl,q⟩|⟨a,o,U,C,nm,b,rfl,h1,l,j,i,q⟩
 ·cases (show u=Value.none from e)
  exact fN I g.non λt=>⟨.bl false,H,I.tok t,rfl,q⟩
 ·cases (show u=Value.ref a from e)
  obtain⟨y,w⟩:=g.exc nm C b i j;exact fM I h1 l y w λt=>⟨.bl b,H,I.tok t,rfl,q⟩
def qS.read {n:V}{t:TE}(g:∀σ H Q,Q n H->t σ H Q):∀σ H Q,tM X.K xr (qS f m) σ H Q->WX (NB X.K f n) (Wh (tM X.K xr m) (Wh t VA)) σ H Q:=by
 rintro σ H Q ⟨p,A,x,S,r,h⟩
 refine tM.go S r (zT.mp h) λw y c j v i l s q=>?_;refine g σ j _ ?_;cases w with
 |non=>
  obtain rfl:=q;exact⟨.non,rfl,.inl ⟨rfl,i c j _ l s rfl⟩⟩
 |xc nm=>
  dsimp only at i;cases e:f nm with
  |none=>rw[e]at i;exact i.elim|some b=>
   rw[e]at i;obtain⟨a,o,u,C,rfl,d,Z,z⟩:=q;exact⟨.ref a,rfl,.inr ⟨a,o,u,C,nm,b,rfl,d,Z,z,e,i c j _ l s rfl⟩⟩
 |fn _=>exact i.elim|bl _=>exact i.elim|int _=>exact i.elim|str _=>exact i.elim|tup _=>exact i.elim|ref _=>exact i.elim|clo _ _ _=>exact i.elim
end
def Lu {a b:Int}{c C:Value}(l:bS)(h:TriplesOk l)(e:codeAmong pos (l++[rawInt a,rawInt b,c])=some C):codeAmong pos l=some C∨C=c:=by
 fun_induction TriplesOk l with
 |case1=>
  right
  simp only[nil_append,codeAmong,rawInt]at e
  split at e
  ·exact(aB e).symm
  ·cases e
 |case2 A t B u x r i=>
  simp only[List.cons_append,codeAmong]at e ⊢
  split at e
  ·rename_i H;rw[ah H];exact .inl e
  ·rename_i H;rw[ai H];exact i h e
 |case3 l f d=>exact h.elim
def BMain (M:b8)(b:Heap):Prop:=∃B o,M "__builtins__"=some (.ref B)/\B≠builtinsNs/\B≠mainGlobals/\b.get? B=some o/\o.cls=.type "module" /\ o.dict=some builtinsNs/\o.data=.plain
def Wo (q:Str)(p:Arguments)(b:Expr)(scope:Scope)(C:cb):Obj->Addr->Obj->List V->Prop:=λob c o _=>(∃P v,ob=kla_obj "<lambda>" q p b scope C P c v)/\P4 o q
noncomputable def Jt (n:Nat)(q:Str)(P:Addr)(k:Nat)(p:Obj->Addr->Obj->List V->Prop):Ev:=λ_ A=>match A[n]? with
 |some (.tab Q P')=>if Q=q/\P'=P then .ok (.clo k [] p) A else .bad|_=>.bad
section
variable {k:Nat}{q:Str}{P:Addr}{params:Arguments}{body:Expr}{lP:cb}
def fQ (hB:BMain X.mg X.base)(y:X.env.code=.ref c)(C:CodeHd X.base c P)(hcl:closureFor scope X.env=pure lP)(hq:X.env.qual ++ "<lambda>"=q)(hdef:defaultsOf params X.env=([],[]):=by rfl):
  SE X xr (.Lambda params body scope pos) (Jt n q P k (Wo q params body scope lP)):=by
 intro l0 s σ H Q I ⟨φ,A,ρ,S,re,h⟩;unfold Jt at h;cases Z:A[n]? with
 |none=>rw[Z]at h;exact h.elim|some o=>
  rw[Z]at h;cases o with
  |tab L P'=>
   dsimp only at h
   by_cases hc:L=q/\P'=P
   ·rw[ah hc]at h
    obtain⟨rfl,rfl⟩:=hc;obtain⟨a,ha,eaP,ps,t,Y⟩:=S.ob n _ Z;subst eaP;have hP:s.heap.get? a=some (tabObj ps):=(show qQ X.prog X.w H s.heap a (.tbl ps) from I.hok a _ t)
    have hg:s.heap.Ns mainGlobals X.mg:=I.mod.glob.keeps I.bk;have hgP:mainGlobals≠a:=λz=>by
     obtain⟨o,es,ep,e,hd,_⟩:=hg;rw[z,hP]at e;cases e;cases hd
    have r:s.heap.BuiltinsAt X.mg a:=by
     obtain⟨bm,o,b1,b2,b3,b4,b5⟩:=hB;refine⟨bm,o,b1,b2,b3,λz=>?_,I.bk _ _ b4,b5⟩
     have:=(I.bs _ _ b4).2
     rw[z,t]at this;cases this
    refine PySem.W.kla_eval hdef ?_;rw[hq];have M:∀b,s.heap.objs.size<=b->H b=none:=λb r=>I.hok.fresh r;cases hf:codeAmong pos ps.toList with
    |none=>
     refine PySem.W.kla_makeFunction (mg:=X.mg) hcl I.ok.glob hg y (C.keeps I.bk) hP Y.1 hf hgP r λf ctv h' tk hx x U hrec htb=>?_;obtain⟨c2,g,vc,tc,ec,hoc,D,hd2⟩:=hrec;cases ec;generalize j:kla_obj "<lambda>" L params body scope lP ((X.mg "__name__").getD .none) f ctv=ob;have hPc:a<s.heap.objs.size:=aG hP;have nPc:a≠f:=aJ (aF hPc x);have nPf:a≠h'.objs.size:=aJ (lt_trans (aF hPc x) U);have T:f≠h'.objs.size:=aJ U;have hsf:s.heap.objs.size<=h'.objs.size:=a3 x (bB U);have E:H f=none:=M f x;have l:H h'.objs.size=none:=M _ hsf;have H1f:upd H f (.frz g (.own 0)) h'.objs.size=none:=by rw[qi (Ne.symm T)];exact l
     generalize B:ps++#[rawInt pos.line,rawInt pos.col,.ref f]=p at htb;have S1:=S.lay (u:=.frz g (.own 0)) E;have S2:=S1.lay (u:=.frz ob (.own 0)) H1f;have fz:∀b o u,upd (upd H f (.frz g (.own 0))) h'.objs.size (.frz ob (.own 0)) b=some (.frz o u)->upd (upd (upd H f (.frz g (.own 0))) h'.objs.size (.frz ob (.own 0))) a (.tbl p) b=some (.frz o u):=λb o u e=>by
      rw[qi];exact e;intro z;rw[z,qi nPf,qi nPc,t]at e;cases e
     have fz0:∀b o u,H b=some (.frz o u)->upd (upd H f (.frz g (.own 0))) h'.objs.size (.frz ob (.own 0)) b=some (.frz o u):=λb o u e=>by
      rw[qi (kj e l),qi (kj e E)];exact e
     have tg':Ym (upd (upd (upd H f (.frz g (.own 0))) h'.objs.size (.frz ob (.own 0))) a (.tbl p)) L p:=by
      rw[<- B];refine⟨by rw[Array.toList_append];exact TriplesOk_snoc _ _ _ _ Y.1,λpos' cv e=>?_⟩
      rw[Array.toList_append]at e;rcases Lu _ Y.1 e with e|e
      ·obtain⟨c0,oc0,u0,vs0,t0,g1,g2,g3⟩:=Y.2 pos' cv e
       exact⟨c0,oc0,u0,vs0,t0,g1,by rw[B];exact fz _ _ _ (fz0 _ _ _ g2),g3⟩
      ·exact⟨f,g,.own 0,vc,tc,e,by rw[B];exact fz _ _ _ (by rw[qi T,ji]),D,hd2⟩
     obtain⟨l3,S3⟩:=S2.write (o:=.tab L a) (o':=.tab L a) Z rfl rfl ha (u:=.tbl p) ⟨rfl,p,ji,tg'⟩;have l03:Le X.K φ H φ _:=((Le.new E).trans (Le.new H1f)).trans l3;have set3:A.set n (.tab L a)=A:=by
      apply ext_getElem?
      intro i
      by_cases hi:n=i
      ·subst hi
       rw[aC (cu.mp Z).1,Z]
      ·rw[aI hi]
     rw[set3]at S3;have eP:upd (upd (upd H f (.frz g (.own 0))) h'.objs.size (.frz ob (.own 0))) a (.tbl p) a=some (.tbl p):=ji;have ec:upd (upd (upd H f (.frz g (.own 0))) h'.objs.size (.frz ob (.own 0))) a (.tbl p) f=some (.frz g (.own 0)):=by rw[qi (Ne.symm nPc),qi T,ji]
     have ef:upd (upd (upd H f (.frz g (.own 0))) h'.objs.size (.frz ob (.own 0))) a (.tbl p) h'.objs.size=some (.frz ob (.own 0)):=by rw[qi (Ne.symm nPf),ji]
     have J:∀b,b≠a->b≠f->b≠h'.objs.size->upd (upd (upd H f (.frz g (.own 0))) h'.objs.size (.frz ob (.own 0))) a (.tbl p) b=H b:=λb n1 n2 n3=>by rw[qi n1,qi n3,qi n2]
     generalize upd (upd (upd H f (.frz g (.own 0))) h'.objs.size (.frz ob (.own 0))) a (.tbl p)=H3 at S3 l03 eP ec ef J;have kp:∀b o,b≠a->s.heap.get? b=some o->(h'.push ob).get? b=some o:=λb o n e=>af _ (hx b o n e);have old:∀b o,s.heap.get? b=some o->b≠f/\b≠h'.objs.size:=λb o e=>⟨aJ (aF (aG e) x),aJ (aF (aG e) hsf)⟩;have N:∀b u,H b=some u->b≠f/\b≠h'.objs.size:=λb u e=>⟨kj e E,kj e l⟩;have gP:(h'.push ob).get? a=some (tabObj p):=af _ htb;have I3:Inv X l0 σ H3 { s with heap:=h'.push ob,toks:=tk }:=by
      refine I.un ⟨λb o e z r _=>?_,λb o e z r _=>?_,λb o e z _=>?_,λb o e _=>?_,λb xs e=>?_,λb o u e=>?_,λb qs e=>?_⟩ λb u e=>?_
      ·exact kp b o (λw=>by rw[w,t]at z;cases z) e
      ·exact⟨o.slots,kp b o (λw=>by rw[w,t]at z;cases z) e⟩
      ·rw[J b (λw=>by rw[w,t]at z;cases z) (old b o e).1 (old b o e).2];exact z
      ·by_cases r:b=a
       ·rw[r];exact⟨_,gP⟩
       ·exact⟨o,kp b o r e⟩
      ·rw[J b (Jm e t (by intro w;cases w)) (N b _ e).1 (N b _ e).2];exact e
      ·rw[J b (Jm e t (by intro w;cases w)) (N b _ e).1 (N b _ e).2];exact e
      ·by_cases r:b=a
       ·subst r
        rw[t]at e;cases e;exact⟨_,by rw[eP,<- B]⟩
       ·exact⟨#[],by rw[J b r (N b _ e).1 (N b _ e).2,e];simp⟩
      ·by_cases h1:b=a
       ·subst h1
        rw[eP]at e;cases e;exact gP
       ·by_cases h2:b=f
        ·subst h2
         rw[ec]at e;cases e;exact⟨af _ hoc,⟨_,af _ hoc⟩⟩
        ·by_cases h3:b=h'.objs.size
         ·subst h3
          rw[ef]at e;cases e;exact⟨aw _ (by rw[<- j];rfl),⟨_,aw _ (by rw[<- j];rfl)⟩⟩
         ·rw[J b h1 h2 h3]at e
          refine(I.hok b u e).stay (λd v hd z=>kp d v ?_ z) (λd z=>?_) λd xs z=>?_
          ·rcases hd with w|w
           ·rw[w];exact h1
           ·exact Jm w t (by intro w;cases w)
          ·rw[J d (Jm z t (by intro w;cases w)) (N d _ z).1 (N d _ z).2];exact z
          ·rw[J d (Jm z t (by intro w;cases w)) (N d _ z).1 (N d _ z).2];exact z
     exact⟨.ref h'.objs.size,H3,I3,rfl,h φ H3 _ l03 S3 ⟨h'.objs.size,ob,.own 0,f,g,.own 0,[],rfl,ef,ec,⟨⟨_,_,j.symm⟩,vc,tc,D,hd2⟩,rfl⟩⟩
    |some cv=>
     obtain⟨f,g,u0,vc,tc,rfl,hHc,D,hd2⟩:=Y.2 pos cv hf;refine PySem.W.kla_makeFunctionHit (mg:=X.mg) hcl I.ok.glob hg y (C.keeps I.bk) hP Y.1 hf r λctv h' tk hx hsz=>?_;generalize j:({ cls:=.type "function",data:=.func (kla_fn "<lambda>" L params body scope lP ((X.mg "__name__").getD .none) (.ref f) ctv) }:Obj)=ob;have l:H h'.objs.size=none:=M _ hsz;have I3:Inv X l0 σ (upd H h'.objs.size (.frz ob (.own 0))) { s with heap:=h'.push ob,toks:=tk }:=
      I.laid (λb o e=>af _ (hx b o e)) hsz ⟨aw _ (by rw[<- j];rfl),⟨_,aw _ (by rw[<- j];rfl)⟩⟩
     refine⟨.ref h'.objs.size,_,I3,rfl,h φ _ _ (Le.new l) (S.lay l) ⟨h'.objs.size,ob,.own 0,f,g,u0,[],rfl,ji,?_,⟨⟨_,_,j.symm⟩,vc,tc,D,hd2⟩,rfl⟩⟩;rw[qi (kj hHc l)];exact hHc
   ·rw[ai hc]at h;exact h.elim
  |_=>exact h.elim
end
structure Lm where
 N:bW
 idx:bV
 params:Arguments
 body:Expr
 scope:Scope
 m:Ev
noncomputable def QL:List Nat->En->Option (List W)
 |[],_=>some []|j::J,ρ=>match ρ[j]?,QL J ρ with
  |some (some w),some ws=>some (w::ws)|_,_=>none
noncomputable def Zt:List Nat->St->Option (List V)
 |[],_=>some []|j::J,σ=>match σ[j]?,Zt J σ with
  |some (some w),some ws=>some (w::ws)|_,_=>none
theorem Sa {K:Frag}(r:RE K φ H ρ σ):∀{J:bV}{s:List W},QL J ρ=some s->∃vs,Zt J σ=some vs/\zr K φ H s vs
 |[],s,e=>by cases e;exact⟨[],rfl,.nil⟩|j::J,s,e=>by
  unfold QL at e;cases E:ρ[j]? with
  |none=>rw[E]at e;cases e|some o=>cases o with
   |none=>rw[E]at e;cases e|some w=>
    rw[E]at e;cases a:QL J ρ with
    |none=>rw[a]at e;cases e|some b=>
     rw[a]at e;cases e;obtain⟨v,f,d⟩:=r.get j w E;obtain⟨vs,c,h⟩:=Sa r a;exact⟨v::vs,by unfold Zt;rw[f,c],.cons d h⟩
theorem Rq:∀{J:bV}{s:List V},Zt J σ=some s->s.length=J.length/\∀(i:Nat)(v:V),s[i]? =some v->∃j,J[i]? =some j/\σ[j]? =some (some v)
 |[],s,e=>by cases e;exact⟨rfl,λi v h=>by simp at h⟩|j::J,s,e=>by
  unfold Zt at e;cases E:σ[j]? with
  |none=>rw[E]at e;cases e|some o=>cases o with
   |none=>rw[E]at e;cases e|some w=>
    rw[E]at e;cases r:Zt J σ with
    |none=>rw[r]at e;cases e|some c=>
     rw[r]at e;cases e;obtain⟨f,H⟩:=Rq r;refine⟨by simp[f],λi v h=>?_⟩
     cases i with
     |zero=>simp at h;subst h;exact⟨j,by simp,E⟩|succ i=>simp at h;obtain⟨d,a,b⟩:=H i v h;exact⟨d,by simpa using a,b⟩
noncomputable def kZ (l:List Lm)(k:Nat):Fn:=λw A=>match l[k]? with
 |some t=>t.m (w.map some) A|none=>.bad
def Qc (e:Env)(q:Str)(l:List Lm)(k:Nat):Obj->Addr->Obj->List V->Prop:=λob c o v=>∃t,l[k]? =some t/\Wo q t.params t.body t.scope (yT e t.scope.names []) ob c o v
def YL (e:Env)(q:Str)(l:List Lm)(a:St)(k:Nat):Obj->Addr->Obj->List V->Prop:=λob c o v=>∃t,l[k]? =some t/\Wo q t.params t.body t.scope (yT e t.scope.names []) ob c o v/\Zt t.idx a=some v
structure Js (P:Program)(w:World)(K:Frag)(mg:b8)(j:Nat)(q:Str)(t:Lm):Prop where
 sc:GU t.N t.scope
 bind:∀(cl:cb)(pm cdv ctv:Value),bindArgs (kla_fn "<lambda>" q t.params t.body t.scope cl pm cdv ctv) ⟨[],[]⟩=pure []
 body:∀(base:Heap)(cl:cb)(a c:Addr)(A:Around)(outer:b9)(s:Shared)(H:Hp)(E:XK),qP j (A.deeper (envX q t.scope s.heap.objs.size a (.ref c) cl))->wb (gZ P w K mg base t.N q t.scope a (.ref c) cl A outer s H E) s.heap (gw K E)->
  SE (gZ P w K mg base t.N q t.scope a (.ref c) cl A outer s H E) (gw K E) t.body t.m
section
variable {K:Frag}{q:Str}{ls:List Lm}
def fR (l:∀t∈ls,Js P w K mg j q t)(f:∀t∈ls,∀vs,Zt t.idx σ=some vs->Ks base t.N t.scope (yT env t.scope.names []) vs)(k:Nat):QH P w K mg base (j+1) (YL env q ls σ k) (kZ ls k):=by
 rintro a ob u c o U vs ⟨t,d,⟨⟨z,C,rfl⟩,b⟩,v⟩
 have M:t∈ls:=mem_of_getElem? d;have L:=l t M;refine⟨⟨_,rfl⟩,_,((fP (name := "<lambda>") (params:=t.params) (body:=t.body) (pm:=z) (ctv:=C) (a:=a) (c:=c) (u:=u) (uc:=U) (m:=t.m) L.sc (f t M vs v) b λA n s H E e x=>L.body base _ a c A n s H E e x)).imp λD H Q E h=>?_,λs=>.of_eq (L.bind _ _ _ _)⟩;obtain⟨B,i,g,p,A,y,S,r,h⟩:=h;refine⟨B,i,g,p,A,y,S,r,?_⟩;unfold kZ at h;rw[d]at h;exact h
end
noncomputable abbrev wJ:=Nat->Obj->Addr->Obj->List V->Prop
open Classical in
noncomputable def Z8 (PG:wJ)(r:Nat->List W->Hx->R W):Fn:=λu A=>match u with
 |[.clo k ws P]=>if P=PG k then r k ws A else .bad|_=>.bad
open Classical in
structure Yw (X:Cx)(t:Lm):Prop where
 len:t.idx.length=t.N.length
 nm:∀(i:Nat)(x:Str)(j:Nat),t.N[i]? =some x->t.idx[i]? =some j->X.N[j]? =some x/\t.scope.names.lookup x=some .free
 free:∀y∈t.scope.names,y.2=.free->X.env.kindOf y.1=some .cell∨X.env.kindOf y.1=some .free
section
def Kt (I:Inv X l0 σ H s){t:Lm}(L:Yw X t)(h:(yT X.env t.scope.names []).lookup x=some c):X.env.cells.lookup x=some c:=by
 rcases Ql _ _ (PySem.mem_of_lookup h) with z|⟨z,e⟩
 ·cases z
 ·obtain⟨C,a⟩:=I.ok.has x (L.free _ z rfl)
  rw[a]at e ⊢;exact congrArg some e.symm
def DP (I:Inv X l0 σ H s)(f:∀x c v,X.env.cells.lookup x=some c->s.heap.IsCell c v->base.IsCell c v){t:Lm}(L:Yw X t){A:List V}(l:Zt t.idx σ=some A):Ks base t.N t.scope (yT X.env t.scope.names []) A:=by
 obtain⟨J,D⟩:=Rq l;refine⟨J.trans L.len,λx y c w b=>I.ok.inj x y c (Kt I L w) (Kt I L b),λx h=>?_,λx c h=>?_,λi x v w b=>?_⟩
 ·exact Option.isSome_iff_exists.mp (Y7 _ _ (.inl (PySem.mem_of_lookup h)))
 ·have e:=Kt I L h
  obtain⟨v,z⟩:=I.cell x c e;exact⟨v,f x c v e z⟩
 ·obtain⟨j,q,p⟩:=D i v b
  obtain⟨o,E⟩:=L.nm i x j w q;have B:=L.free _ (PySem.mem_of_lookup E) rfl;obtain⟨m,M,n⟩:=I.loc;obtain⟨u,r,K⟩:=n j x v o p (.inr B);obtain⟨c,d⟩:=Option.isSome_iff_exists.mp (Y7 (env:=X.env) t.scope.names [] (.inl (PySem.mem_of_lookup E)));have g:=Kt I L d;rcases K with ⟨z,_⟩|⟨_,C,a,cell⟩
  ·exfalso
   rcases B with k|k<;>(rw[k]at z;cases z)
  ·rw[g]at a
   cases a;exact⟨c,u,E,d,f x c _ g cell,r⟩
def Bs (I:Inv X l0 σ H s)(h:∀x,X.fn x=true)(e:X.env.cells.lookup x=some c):c∉qt X.stack:=λb=>by
 rcases cn.mp (I.stkSub c b) with z|z
 ·exact I.cne x c e z
 ·obtain⟨_,o,a,_⟩:=I.ok.funs.mem z
  exact absurd (aF (aG a) (I.ok.cab x c (h x) e)) (aV _)
noncomputable def gL (B h:Heap)(c:cb):Heap:=hideAll h ((List.range h.objs.size).filter λb=>(B.get? b).isNone&&!(c.any λp=>c.lookup p.1==some b))
def Rz {o:Obj}(e:(gL base h lK).get? b=some o):h.get? b=some o/\((∃o',base.get? b=some o')∨∃x,lK.lookup x=some b):=by
 have E:=of_hideAll _ e;refine⟨E,?_⟩
 by_cases d:b∈(List.range h.objs.size).filter λb=>(base.get? b).isNone&&!(lK.any λp=>lK.lookup p.1==some b)
 ·unfold gL at e
  rw[hideAll_none _ d]at e;cases e
 ·rw[mem_filter]at d
  have c:b∈List.range h.objs.size:=cw.mpr (aG E);cases g:base.get? b with
  |some o'=>exact .inl ⟨o',rfl⟩|none=>
   right
   by_cases H:(lK.any λp=>lK.lookup p.1==some b)=true
   ·obtain⟨p,_,a⟩:=List.any_eq_true.mp H
    exact⟨p.1,aM.mp a⟩
   ·exact absurd ⟨c,by rw[g];simpa using H⟩ d
def HX (k:∀b o,base.get? b=some o->h.get? b=some o){o:Obj}(e:base.get? b=some o):(gL base h lK).get? b=some o:=
 bL _ (k b o e) λH=>by
  rw[mem_filter,e]at H;simp at H
def HH {o:Obj}(l:lK.lookup x=some c)(e:h.get? c=some o):(gL base h lK).get? c=some o:=
 bL _ e λH=>by
  rw[mem_filter,av,Bool.not_eq_true']at H
  have:=H.2.2
  rw[List.any_eq_false]at this;exact this _ (PySem.mem_of_lookup l) (by simpa using l)
end
def FI {K:Frag}{mb:b8}{k:Nat}{Y:Addr}{sp:Sp}{S:Shared}{vs:bS}
  (KX:K.In S.heap)(y:S.heap.Ns mainGlobals mg)(c:S.heap.Ns builtinsNs mb)(T:∀x:Str,x ≠ "__name__" -> mb x=bootBuiltins x)(A:S.heap.NoLimit)(hg:S.gens=#[])
  (p:S.heap.get? a=some { cls:=.type "list",data:=.seq vs.toArray })(hi:IntsAre vs ns)(hl:ns.length<=sizeLine)(hr:qP k callerA)
  (t:S.heap.get? Pt=some (tabObj #[]))(U:K.lookup Pt=none)(M:isCodeTable S.heap Pt)(Q:BMain mg S.heap)
  (F:∀base:Heap,K.In base->base.Ns mainGlobals mg->BMain mg base->ym P w K mg base kJ k Y fd [x] sp)(l:∀(s:Shared)(u:Value),BindsTo s fd ⟨[u],[]⟩ [(x,u)])
  (I:∀H:Hp,H Pt=some (.tbl #[])->JD K H a (ns.map V.int)->sp [.ref a] H (λv _=>v=.bl true) λ_ _ _=>False):
  codeAny (model P w) callerA (.call (.ref Y) ⟨[.ref a],[]⟩) (λr s'=>r=.ok (.ret (.bool true))/\OldK S.heap s'.heap/\s'.os=S.os/\AllBare s'.gens) S:=by
 have rv:=JO hi;have L:=hi.length;have j:a≠Pt:=λz=>by rw[z,t]at p;cases p
 have core:∀H:Hp,H Pt=some (.tbl #[])->JD K H a (ns.map V.int)->qN P w H S.heap->(∀b,H b≠none->b=a∨b=Pt)->(∀u,H a=some u->K.lookup a=none/\∃o xs,u=.frz o (.lst xs))->
   codeAny (model P w) callerA (.call (.ref Y) ⟨[.ref a],[]⟩) (λr s'=>r=.ok (.ret (.bool true))/\OldK S.heap s'.heap/\s'.os=S.os/\AllBare s'.gens) S:=by
  intro H hO hS hok D hK;have base_of:∀{b:Addr}{o:Obj},S.heap.get? b=some o->H b=none->(gU S.heap H).get? b=some o:=λe n=>Dt e n;have E:∀{b:Addr}{o:Obj}{es:Array DictEntry}{ep:Nat},S.heap.get? b=some o->o.data=.dict es ep->H b=none:=λ {b o es ep} e d=>by
   cases q:H b with
   |none=>rfl|some u=>
    rcases D b (by rw[q];simp) with z|z
    ·subst z
     rw[p]at e;cases e;have d':Data.seq vs.toArray _=Data.dict es ep:=d;cases d'
    ·subst z
     rw[t]at e;cases e;cases d
  have N:∀{b:Addr}{m:b8},S.heap.Ns b m->(gU S.heap H).Ns b m:=λ {b m} ⟨o,es,ep,e,d,r⟩=>⟨o,es,ep,base_of e (E e d),d,r⟩;have B:K.In (gU S.heap H):=λb o e=>base_of (KX b o e) (by
   cases q:H b with
   |none=>rfl|some u=>
    rcases D b (by rw[q];simp) with z|z
    ·subst z
     rw[(hK u q).1]at e;cases e
    ·subst z
     rw[U]at e;cases e)
  have X:BMain mg (gU S.heap H):=by
   obtain⟨bm,o,b1,b2,b3,C,b5,b6,b7⟩:=Q;refine⟨bm,o,b1,b2,b3,base_of C ?_,b5,b6,b7⟩;cases q:H bm with
   |none=>rfl|some u=>
    rcases D bm (by rw[q];simp) with z|z
    ·subst z
     rw[p]at C;cases C;exact absurd b5 (by intro q;injection q with q;exact absurd q (by decide))
    ·subst z
     rw[t]at C;cases C;cases b5
  have hM:Mod K mg (gU S.heap H):=⟨B,N y,⟨mb,N c,T⟩,let ⟨mc,h1,h2⟩:=A;⟨mc,N h1,h2⟩⟩
  have e0:Jv P w K mg (gU S.heap H) callerA [] S H:=⟨rfl,hM,λb o e=>BH e,Nat.le_of_eq (EK _ _),trivial,λb c=>absurd (show b∈([]:bT) from c) (by simp),hok,.of_eq hg⟩
  refine codeAny_mono ((F _ B (N y) X).run callerA [] S H ⟨[.ref a],[]⟩ [.ref a] [.ref a] _ _ hr e0 (l S (.ref a)) (.cons rfl .nil) (I H hO hS)) λr s' h=>?_;cases r with
  |error e=>exact False.elim h|ok fl=>
   cases fl with
   |next=>exact False.elim h|brk=>exact False.elim h|cont=>exact False.elim h|ret u=>
    obtain⟨v,H',os,bare,un,g,r',q⟩:=h;have q':v=.bl true:=q;subst q';obtain rfl:u=Value.bool true:=r';refine⟨rfl,⟨λb o e=>?_,λb o e=>un.there b o e (by simp)⟩,os,bare⟩
    cases q:H b with
    |none=>exact .inl (un.keep b o e q (by intro z;exact absurd (show b∈([]:bT) from z) (by simp)) (by simp))|some u=>
     rcases D b (by rw[q];simp) with z|z
     ·subst z
      obtain⟨ob,xs,rfl⟩:=(hK u q).2;have i:=un.frzs _ ob _ q;obtain⟨e1,_⟩:=hok _ _ q;obtain⟨e2,_⟩:=g _ _ i;rw[e]at e1;cases e1;exact .inl e2
     ·subst z
      rw[t]at e;cases e;obtain⟨more,i⟩:=un.tbls _ _ hO;exact .inr (.inl ⟨M,rfl,#[],more,rfl,g _ _ i⟩)
 cases J:K.lookup a with
 |some o=>
  have e:=KX a o J;rw[p]at e;cases e;refine core (λb=>if b=Pt then some (.tbl #[]) else none) (ah rfl) (.inr ⟨_,vs.toArray,_,J,rfl,rfl,rfl,by rw[az,L];exact hl,by simpa using rv⟩) (λb u z=>?_) (λb z=>?_) λu z=>?_
  ·by_cases c:b=Pt
   ·have Z:=(ah c).symm.trans z
    cases Z;rw[c];exact t
   ·have Z:=(ai c).symm.trans z
    cases Z
  ·by_cases c:b=Pt
   ·exact .inr c
   ·exact absurd (ai c) z
  ·have Z:=(ai j).symm.trans z
   cases Z
 |none=>
  refine core (λb=>if b=Pt then some (.tbl #[]) else if b=a then some (.frz { cls:=.type "list",data:=.seq vs.toArray } (.lst (ns.map V.int))) else none) (ah rfl)
   (.inl ⟨{ cls:=.type "list",data:=.seq vs.toArray },(ai j).trans (ah rfl)⟩) (λb u z=>?_) (λb z=>?_) λu z=>?_
  ·by_cases c:b=Pt
   ·have Z:=(ah c).symm.trans z
    cases Z;rw[c];exact t
   ·have Z:=(ai c).symm.trans z
    by_cases f:b=a
    ·have i:=(ah f).symm.trans Z
     cases i;subst f;exact⟨p,by rw[ag];exact hl,vs,_,rv,p⟩
    ·have i:=(ai f).symm.trans Z
     cases i
  ·by_cases c:b=Pt
   ·exact .inr c
   ·by_cases f:b=a
    ·exact .inl f
    ·exact absurd ((ai c).trans (ai f)) z
  ·have Z:=((ai j).trans (ah rfl)).symm.trans z
   cases Z;exact⟨J,_,_,rfl⟩
inductive spT (K:Frag)(n:Nat)(fs:wJ->Fn)(vs:List V)(H:Hp)(Q:VK)(E:XK):Prop
 |mk (len:vs.length=n) (φ:bT) (A:Hx) (ws:List W) (S:zF K φ A H) (r:zr K φ H ws vs) (q:∀PF,(fs PF ws A).post (PB K φ H Q) (EB K φ H (XE K E)))
def spT.len {K:Frag}{fs:wJ->Fn}{v:List V}{Q:VK}{E:XK}(h:spT K n fs v H Q E):v.length=n:=by cases h;assumption
def Hy {K:Frag}{q:Str}(P:H Pt=some (.tbl #[]))(S:JD K H a (ns.map V.int)):zF K [a,Pt] [.ro (ns.map W.int),.tab q Pt] H:=by
 refine⟨rfl,λi j b o l r f d c g M=>?_,λn o h=>?_⟩
 ·match i,j,d,c with
  |0,_,d,_=>simp at d;subst d;cases g|_,0,_,c=>simp at c;subst c;cases M|1,1,_,_=>rfl|i+2,_,d,_=>simp at d|_,j+2,_,c=>simp at c
 ·match n,h with
  |0,h=>simp at h;subst h;exact⟨a,rfl,ns.map V.int,S,zr.ints.mpr rfl⟩|1,h=>simp at h;subst h;exact⟨Pt,rfl,rfl,#[],P,trivial,λp C e=>nomatch e⟩
  |n+2,h=>simp at h
section
variable {K:Frag}
def Dj {a:Value}{o:cf}(n:nsIn K mainGlobals x=some (some (.ref f)))(l:K.lookup f=some ⟨a,o,.func fd,lQ⟩)(h:tabIn K x=some (c,Pt)):fd.code=.ref c:=by
 unfold tabIn at h;rw[n]at h;dsimp only at h;rw[l]at h;dsimp only at h
 split at h
 ·rename_i C H
  split at h
  ·split at h
   ·cases h;exact H
   ·cases h
  ·cases h
 ·cases h
def fS {q:Str}{L:Stmt}{k:Nat}{ls:List Lm}{m:wJ->Ex}(F:kI K x x L f fd)(hn:nsIn K mainGlobals x=some (some (.ref f)))(t:tabIn K x=some (c,Pt))(S:qM N ps (qh L))
  (a:∀(A:Around)(I:b9)(s:Shared)(H:Hp)(E:XK),qP k (A.deeper (envOfC x (qh L) s.heap.objs.size f (.ref c)))->
   JE (kE kJ P w K mg base N x (qh L) f (.ref c) A I s H E).nox yi (yJ L) (m (Qc (envOfC x (qh L) s.heap.objs.size f (.ref c)) q ls))):
  ym P w K mg base kJ (k+1) f fd ps (spT K ps.length λp=>qF N.length (m p)):=by
 obtain⟨B,z,kV,doc,pm,an,C,ct,o,rfl,X,d⟩:=F.ex;have v:C=.ref c:=Dj hn X t;subst v;refine Vt X d S (λZ H Q E h=>h.len) λA I s H Z Q E i ⟨D,T,Y,M,j,r,h⟩=>⟨_,yo.nox (a A I s H E i),?_⟩;refine⟨T,Y,M.map some++List.replicate (N.length-M.length) none,j,RE.start r,?_⟩;have J:=zT.mp (h (Qc (envOfC x (qh L) s.heap.objs.size f (.ref c)) q ls));show R.post _ (FB K T H _) _;cases e:m (Qc (envOfC x (qh L) s.heap.objs.size f (.ref c)) q ls) (M.map some++List.replicate (N.length-M.length) none) Y with
 |ok fl A2=>
  rw[e]at J;cases fl with
  |rt w=>exact J|nx U=>exactλb u g l n _=>J b u .non l n rfl|bk U=>exact J.elim|ct U=>exact J.elim
 |exc y A2=>rw[e]at J;exact J.elim|bad=>rw[e]at J;exact J.elim
end
noncomputable def X7 (K:Frag)(x:Str)(p:Addr):Bool:=match tabIn K x with
 |some (c,P)=>P==p&&codeHdIn K c p|none=>false
def SK {K:Frag}(h:X7 K x Pt=true):∃c,tabIn K x=some (c,Pt)/\codeHdIn K c Pt=true:=by
 unfold X7 at h
 split at h
 ·rename_i c P e
  rw[av,aM]at h;obtain⟨rfl,H⟩:=h;exact⟨c,e,H⟩
 ·cases h
def jS.m {K:Frag}{k:Nat}{f:Fn}(F:jS P w K mg base k x n f):zU P w K mg base k x n λws A=>(f ws A).nox:=by
 obtain⟨g,I,B,F,C,c,d⟩:=F;have up:∀i H Q E,Za K n (λws A=>(f ws A).nox) i H Q E->WS K n f i H Q (λ_ _ _=>False):=λi H Q E ⟨l,q,A,ws,S,r,h⟩=>⟨l,q,A,ws,S,r,by
  cases a:f ws A with
  |ok u J=>(try dsimp only at h);rw[a]at h;exact h|exc y J=>(try dsimp only at h);rw[a]at h;exact h.elim|bad=>(try dsimp only at h);rw[a]at h;exact h.elim⟩
 refine⟨g,I,B,⟨λi H Q E h=>F.len i H Q _ (up i H Q E h),λA o s H j U i Q E b D t v h=>?_⟩,C,c,d⟩;refine codeAny_mono (F.run A o s H j U i Q _ b D t v (up i H Q E h)) λr L p=>?_;cases r with
 |error e=>
  unfold CR at p;obtain⟨_,_,_,_,_,_,_,_,_,_,z⟩:=p;exact z.elim
 |ok fl=>cases fl<;>exact p
theorem jS.mono {K:Frag}{k:Nat}{f:Fn}(F:jS P w K mg base j x n f)(h:j<=k):jS P w K mg base k x n f:=by cases F with|mk d e p F a b c=>exact⟨d,e,p,F.mono h,a,b,c⟩
noncomputable abbrev WV:bS:=[.type "ValueError",.type "Exception",.type "BaseException",.type "object"]
noncomputable abbrev Ww:String := "ValueError.__new__"
section
variable {K:Frag}{cs:bW}{top nm:Str}
noncomputable def clsAt (K:Frag)(x:Str):Addr:=match nsIn K mainGlobals x with
 |some (some (.ref C))=>C|_=>0
def isAt (K:Frag)(x:Str):Bool:=nsIn K mainGlobals x==some (some (.ref (clsAt K x)))
def jb (c:bW)(x:Str):Str->Option Bool:=λnm=>if c.contains nm then some (nm==x) else none
def VT (c:bW):Str->Option Bool:=λnm=>if c.contains nm then some true else none
def ZY (K:Frag)(c:bW)(x:Str):Bool:=isAt K x&&kitOne K (.type "NoneType") (.ref (clsAt K x))==some false&&c.all λnm=>kitOne K (.ref (clsAt K nm)) (.ref (clsAt K x))==some (nm==x)
def K0 (K:Frag)(top nm:Str):Bool:=isAt K nm&&J7 K (clsAt K nm)&&Mi.gj K (clsAt K nm) WV Ww&&QM K (clsAt K nm) (clsAt K top)&&kitOne K (.ref (clsAt K nm)) (.type "ValueError")==some true
def X5 (K:Frag)(top:Str):Bool:=isAt K top&&Mi.gj K (clsAt K top) WV Ww&&kitOne K (.type "NoneType") (.type "ValueError")==some false
def Xm (h:isAt K x=true):yC K x (.ref (clsAt K x)):=aM.mp h
def G1 {C:Addr}(h:yC K x (.ref C)):C=clsAt K x:=by
 unfold clsAt;unfold yC at h;rw[h]
structure Kx (K:Frag)(top nm:Str):Prop where
 at_:yC K nm (.ref (clsAt K nm))
 kit:J7 K (clsAt K nm)=true
 exc:Mi.gj K (clsAt K nm) WV Ww=true
 up:QM K (clsAt K nm) (clsAt K top)=true
 val:kitOne K (.ref (clsAt K nm)) (.type "ValueError")=some true
def fT (h:K0 K top nm=true):Kx K top nm:=by
 unfold K0 at h;simp only[av,aM]at h;obtain⟨⟨⟨⟨d,c⟩,b⟩,a⟩,H⟩:=h;exact⟨Xm d,c,b,a,H⟩
structure yV (K:Frag)(cs:bW)(top:Str):Prop where
 exc:∀nm,cs.contains nm=true->Kx K top nm
 top_at:yC K top (.ref (clsAt K top))
 top_exc:Mi.gj K (clsAt K top) WV Ww=true
 non:kitOne K (.type "NoneType") (.type "ValueError")=some false
def fU (h:cs.all (K0 K top ·)=true)(t:X5 K top=true):yV K cs top:=by
 unfold X5 at t;simp only[av,aM]at t;obtain⟨⟨b,T⟩,a⟩:=t;exact⟨λnm e=>fT (cy.mp h nm (List.contains_iff_mem.mp e)),Xm b,T,a⟩
def yV.isx (c:yV K cs top)(h:ZY K cs x=true):Yg K (jb cs x) (.ref (clsAt K x)):=by
 unfold ZY at h;simp only[av,aM]at h;obtain⟨⟨g,d⟩,a⟩:=h;refine⟨d,λnm C b e H=>?_⟩;unfold jb at e
 by_cases f:cs.contains nm=true
 ·rw[ah f]at e
  cases e;cases G1 H;exact⟨(c.exc nm f).kit,aM.mp (cy.mp a nm (List.contains_iff_mem.mp f))⟩
 ·rw[ai f]at e;cases e
def fV (h:ZY K cs x=true):yC K x (.ref (clsAt K x)):=by
 unfold ZY at h;simp only[av,aM]at h;exact Xm h.1.1
def yV.isv (c:yV K cs top):Yg K (VT cs) (.type "ValueError"):=by
 refine⟨c.non,λnm C b e h=>?_⟩;unfold VT at e
 by_cases H:cs.contains nm=true
 ·rw[ah H]at e
  cases e;cases G1 h;exact⟨(c.exc nm H).kit,(c.exc nm H).val⟩
 ·rw[ai H]at e;cases e
def yV.under (c:yV K cs top):∀nm,cs.contains nm=true->∀C,yC K nm (.ref C)->∃b n,Mi.gj K C b n=true/\QM K C (clsAt K top)=true:=λnm H C h=>by
 cases G1 h;exact⟨_,_,(c.exc nm H).exc,(c.exc nm H).up⟩
end
noncomputable def Wj (M:bW)(s:Scope)(t:Lm):Bool:=t.idx.length==t.N.length&&((List.range t.N.length).all λi=>match t.N[i]?,t.idx[i]? with
 |some x,some j=>M[j]?==some x&&t.scope.names.lookup x==some .free|_,_=>false)&&t.scope.names.all λy=>!(y.2==.free) || (s.names.lookup y.1==some .cell || s.names.lookup y.1==some .free)
def Xu {t:Lm}(h:Wj X.N X.env.scope t=true):Yw X t:=by
 unfold Wj at h;rw[av,av]at h;obtain⟨⟨f,b⟩,a⟩:=h;refine⟨aM.mp f,λi x j E c=>?_,λy H e=>?_⟩
 ·have d:i<t.N.length:=(cu.mp E).1
  have q:=cy.mp b i (cw.mpr d);rw[E,c]at q;dsimp only at q;rw[av]at q;exact⟨aM.mp q.1,aM.mp q.2⟩
 ·have q:=cy.mp a y H
  rw[e]at q;rw[bO,bO]at q;rcases q with q|q|q
  ·cases q
  ·exact .inl (aM.mp q)
  ·exact .inr (aM.mp q)
def all_nil {p:α->Prop}:∀t∈([]:List α),p t:=λ_ h=>nomatch h
def all_cons {p:α->Prop}{a:α}{l:List α}(h:p a)(r:∀t∈l,p t):∀t∈a::l,p t:=λt H=>by
 rcases cn.mp H with e|e
 ·rw[e];exact h
 ·exact r t e
def fW {q:Str}{l:List Lm}{k:Nat}{t:Lm}(H:l[k]? =some t):Qc env q l k=Wo q t.params t.body t.scope (yT env t.scope.names []):=by
 funext ob c o vs
 refine propext ⟨λ⟨T,e,h⟩=>?_,λh=>⟨t,H,h⟩⟩;rw[H]at e;cases e;exact h
section
variable {k:Nat}{q:Str}{ls:List Lm}{t:Lm}
def Aj (d:ls[k]? =some t)(L:Wj X.N X.env.scope t=true)(B:BMain X.mg X.base)(a:X.env.code=.ref c)(C:CodeHd X.base c Pt)(g:X.env.qual ++ "<lambda>"=q)(f:defaultsOf t.params X.env=([],[])):
  SE X xr (.Lambda t.params t.body t.scope pos) (Jt n q Pt k (Qc X.env q ls k)):=by
 intro p s i H Q I h;rw[fW d]at h;exact fQ B a C (T5 λy b e=>I.ok.has _ ((Xu L).free y b e)) g f p s i H Q I h
end
noncomputable def Qw:Stmt:=.Pass ⟨0,0,0,0⟩
noncomputable def Zq:Expr:=.Constant .none 0 ⟨0,0,0,0⟩
def YA (s:Stmt)(i:Nat):Stmt:=match s with
 |.For _ _ b _ _=>b.getD i Qw|.If _ b _ _=>b.getD i Qw|.While _ b _ _=>b.getD i Qw|_=>Qw
def VP (e:Expr)(i:Nat):Expr:=match e with
 |.Call _ a _ _=>a.getD i Zq|.List E _=>E.getD i Zq|.Tuple E _ _=>E.getD i Zq|.BinOp a _ b _=>if i=0 then a else b|_=>Zq
noncomputable def fX (e:Expr):Arguments:=match e with
 |.Lambda a _ _ _=>a|_=>{ posonlyargs:=[],args:=[],vararg:=none,kwonlyargs:=[],kw_defaults:=[],kwarg:=none,defaults:=[] }
def fY (e:Expr):Expr:=match e with
 |.Lambda _ b _ _=>b|_=>Zq
noncomputable def fZ (e:Expr):Scope:=match e with
 |.Lambda _ _ s _=>s|_=>{ kind:=.function,names:=[],isGenerator:=false,isCoroutine:=false }
def VI (e:Expr)(N:bW)(i:bV)(m:Ev):Lm:=⟨N,i,fX e,fY e,fZ e,m⟩
def f3 {K:Frag}{S:Stmt}{k:Nat}(F:kI K x x S f fd)(e:mg x=some (.ref f))
  (b:∀(kV d p:Value)(n:cf)(c ct:Value)(u:bS),u.length=ps.length->bindArgs (fnOf x x (Zk S) (yJ S) (qh S) .none kV d p n c ct) ⟨u,[]⟩=pure (ps.zip u)):zU P w K mg base k x ps.length (λ_ _=>.bad):=
 ⟨f,fd,ps,⟨λv H Q E h=>h.1,λA o s H a u v Q E _ _ _ _ h=>by obtain⟨_,_,_,_,_,_,z⟩:=h;exact z.elim⟩,e,F.kp,F.binds b⟩
def C5 {K:Frag}(t a b:Ty):kitAny K (.type t.nm) [.type a.nm,.type b.nm]=some (yz t a || yz t b):=by
 unfold kitAny;rw[KD];cases yz t a with
 |true=>rfl|false=>
  dsimp only;unfold kitAny;rw[KD];cases yz t b<;>rfl
section
variable {a b:Expr}{m ma mb:Ev}
def QW.kitx {x:V}{t:Ty}(I:Inv X l0 σ H s)(r:RelV x u)(h:QW X.K H x t):∃c:Heap->Prop,PySem.W.KitX X.K u (.type t.nm) c/\c s.heap/\u≠.builtin "__main__.__loader__#opaque":=by
 rcases h with h|⟨a,xs,rfl,h,rfl⟩
 ·generalize hT:Value.type t.nm=T at h
  cases h with
  |non=>cases (show u=Value.none from r);exact⟨_,kitx_none,True.intro,λz=>nomatch z⟩
  |bl y=>cases (show u=Value.bool y from r);exact⟨_,kitx_bool,True.intro,λz=>nomatch z⟩
  |int i=>obtain⟨t,q⟩:=(show ∃t,u=Value.int i t from r);cases q;exact⟨_,kitx_int,True.intro,λz=>nomatch z⟩
  |str y=>obtain⟨t,q⟩:=(show ∃t,u=Value.str y t from r);cases q;exact⟨_,kitx_str,True.intro,λz=>nomatch z⟩
  |flt y=>obtain⟨t,q⟩:=(show ∃t,u=Value.float y t from r);cases q;exact⟨_,kitx_float,True.intro,λz=>nomatch z⟩
  |@lst a xs ea=>
   cases (show u=Value.ref a from r)
   obtain⟨_,_,n,_,e⟩:=(show qQ X.prog X.w H s.heap a (.lst xs) from I.hok a _ ea)
   exact⟨_,kitx_list,⟨_,e,rfl⟩,λz=>nomatch z⟩
  |@frz a ob xs ea=>
   cases (show u=Value.ref a from r)
   obtain⟨_,_,_,n,_,e⟩:=(show qQ X.prog X.w H s.heap a (.frz ob (.lst xs)) from I.hok a _ ea)
   exact⟨_,kitx_list,⟨_,e,rfl⟩,λz=>nomatch z⟩
  |@tup a xs ea=>
   cases (show u=Value.ref a from r)
   obtain⟨_,_,_,p⟩:=(show qQ X.prog X.w H s.heap a (.tup xs) from I.hok a _ ea)
   obtain⟨o,e,b,_⟩:=p;exact⟨_,kitx_tuple,⟨o,e,b.1⟩,λz=>nomatch z⟩
  |@dK a lG ea=>
   cases (show u=Value.ref a from r)
   obtain⟨_,_,_,_,o,_,_,e,b,_⟩:=(show qQ X.prog X.w H s.heap a (.dK lG) from I.hok a _ ea)
   exact⟨_,kitx_dict,⟨o,e,b.1⟩,λz=>nomatch z⟩
  |@dT a lG ea=>
   cases (show u=Value.ref a from r)
   obtain⟨_,_,_,_,o,_,_,e,b,_⟩:=(show qQ X.prog X.w H s.heap a (.dT lG) from I.hok a _ ea)
   exact⟨_,kitx_dict,⟨o,e,b.1⟩,λz=>nomatch z⟩
  |ins=>cases hT
 ·cases (show u=Value.ref a from r)
  obtain⟨d,_,⟨o,e,b,_⟩,_⟩:=I.tuple h;exact⟨_,kitx_tuple,⟨o,e,b⟩,λz=>nomatch z⟩
def f5 (K:Frag)(a b:Ty):List V->Hp->VK->Prop:=λX H Q=>∃x t l,X=[x,.ref l]/\qp K H l [.ty (Ty.nm a),.ty (Ty.nm b)]/\QW K H x t/\Q (.bl (yz t a || yz t b)) H
def E1 {a b:Ty}:jH X (.builtin "isinstance") (f5 X.K a b):=by
 intro P s L H M S Q I r h;obtain⟨x,t,l,rfl,y,w,q⟩:=h;obtain⟨u,e,rfl,f,c⟩:=vals2 r;cases (show e=Value.ref l from c)
 obtain⟨p,v,⟨o,J,B,k,A⟩,_⟩:=I.tuple y;obtain⟨d,U,rfl,i,g⟩:=vals2 v;cases (show d=Value.type a.nm from i)
 cases (show U=Value.type b.nm from g)
 obtain⟨E,Z,z,N⟩:=w.kitx I f;obtain⟨n,D,j,C⟩:=o;cases (show n=_ from B)
 cases (show j=_ from A)
 exact PySem.W.kia_tup Z I.kIn z J (C5 t a b) N λT=>⟨.bl (yz t a || yz t b),H,I.tok T,rfl,q⟩
def Wy (t T:Ty)(m:Ev):Ev:=λc A=>(m c A).bind λw b=>match q9 w b with
 |some a=>.ok (.bl (yz a t || yz a T)) b
 |none=>.bad
noncomputable def Wq (m:Ev)(t:Tg):Ex:=λb A=>(m b A).bind λw c=>match t w b with
 |some a=>.ok (.nx a) c|none=>.bad
noncomputable def Ju (i j:Nat)(b M:Ev):Ex:=λa A=>(b a A).bind λx d=>(M a d).bind λy c=>.ok (.nx ((a.set i (some x)).set j (some y))) c
end
section
noncomputable abbrev jW (l:Bool):Obj:={ cls:=.type "set",dict:=none,data:=.set #[] 0 (.fresh 0 0 l) }
end
def intsAre_of:∀{N:bR}{i:bS},Vals (N.map V.int) i->IntsAre i N:=by
 intro N
 induction N with
 |nil=>intro i h;cases h;exact .nil|cons n N I=>
  intro i h;cases h with
  |cons r t=>obtain⟨T,rfl⟩:=r;exact .cons n T (I t)
def VM (s:Stmt):Expr:=match s with
 |.If t _ _ _=>t|_=>Zq
section
open PySem.SeqAt
open PySem.AutoSeq1 (wpAny_loadPart')
open PySem.MeetsSeq PySem.MeetsSeq2 PySem.MeetsSeq3
end
section
variable {K:Frag}
def Ry {w:W}(h:zO A 8 w=some (.list ds)):PyData.canLayAll0 ds=true/\PyData.depthAll ds<=8:=by
 obtain⟨a,H⟩:=JM 8 w _ h;simp only[PyData.canLay0,PyData.depth]at a H;exact⟨a,by omega⟩
noncomputable def gN (p:PyData->Bool):List PyData->Option Nat
 |[]=>none|d::ds=>if p d then some 0 else(gN p ds).map (· + 1)
theorem S8 {p:PyData->Bool}:∀{D:List PyData}{j:Nat},gN p D=some j->∃h:j<D.length,p D[j]=true/\∀m (c:m<D.length),m<j->p D[m]=false
 |[],_,e=>by cases e|d::D,j,e=>by
  unfold gN at e
  by_cases b:p d=true
  ·rw[ah b]at e
   cases e;exact⟨Nat.zero_lt_succ _,b,λm _ z=>absurd z (Nat.not_lt_zero _)⟩
  ·rw[ai b]at e
   cases E:gN p D with
   |none=>rw[E]at e;cases e|some J=>
    rw[E]at e;cases e;obtain⟨f,a,H⟩:=S8 E;refine⟨Nat.succ_lt_succ f,a,λm c z=>?_⟩;cases m with
    |zero=>exact Bool.eq_false_iff.mpr b|succ m=>exact H m (Nat.lt_of_succ_lt_succ c) (Nat.lt_of_succ_lt_succ z)
def Bo (K:Frag):V->List V->Hp->VK->Prop:=λx s H Q=>∃a A u v y d D j,s=[y]/\zF K a A H/\RV K a H u x/\RV K a H v y/\zO A 8 u=some (.list D)/\zO A 8 v=some d/\gN (λz=>PyData.eqv z d) D=some j/\j<1000000/\Q (.int j) H
def F8 (M:X.A.units+64<cLine):VW X "list.index" (Bo X.K):=by
 intro Y s σ H x vs v us Q I r i h;obtain⟨φ,A,f,w,y,d,U,j,rfl,S,B,t,a,E,J,N,q⟩:=h;obtain⟨u,rfl,p⟩:=i.one;obtain⟨as,h1⟩:=Zh I S 8 f x v _ B r a;obtain⟨bs,C⟩:=Zh I S 8 w y u d t p E;obtain⟨g1,g2⟩:=JM 8 w d E;obtain⟨g3,P⟩:=Ry a;obtain⟨f1,f2,D⟩:=S8 J;cases h1 with
 |list a1 a2 c b=>
  rename_i l o T n L
  obtain⟨cls,dd,data,g⟩:=o;simp only at a2 c;subst a2 c;have Z:=SeqAt.readsAll_map _ _ _ g3 b;have hlen:T.size=U.length:=by rw[<- Z];simp
  have at_:∀m (h:m<T.size) (h':m<U.length),SeqAt.readOf s.heap T[m]=U[m]:=λm h h'=>by
   have e:(T.toList.map (SeqAt.readOf s.heap))[m]? =U[m]?:=by rw[Z]
   rw[ax,aa h',bC,Array.getElem?_eq_getElem h]at e;exact aB e
  refine call_meets F.slot_list_index ⟨_,a1,rfl⟩ F.entry_list_index (F.args_list_index_2 _ _)
   (SeqAt.list_indexAt l T n dd g u (λz=>PyData.eqv (SeqAt.readOf s.heap z) d) j (by omega) (by omega) (by rw[at_ j (by omega) f1];exact f2) (λm h z=>by rw[at_ m h (by omega)];exact D m (by omega) z)) ⟨a1,SeqAt.items_eqAt b C g3 g1 (by omega),?_⟩
  exact⟨.int j,H,I.tok _,⟨_,rfl⟩,q⟩
def gI:W->W->Hx->R W:=λx y A=>match zO A 8 x,zO A 8 y with
 |some (.list ds),some d=>(match gN (λz=>PyData.eqv z d) ds with
  |some j=>if j<1000000 then .ok (.int j) A else .bad|none=>.bad)
 |_,_=>.bad
def Cf:∀x y A,qB (gI x y A):=λx y A=>by
 unfold gI
 split
 ·split
  ·exact w6 jG qD
  ·exact qD
 ·exact qD
variable {m:Ev}
noncomputable def Yu (g:W->W->W->Hx->R Unit)(M d:Ev)(v:W)(k:Hx->R Fl):En->Hx->R Fl:=λc A=>(M c A).bind λo e=>(d c e).bind λi b=>(g o i v b).bind λ_ a=>k a
def J0 (g:W->W->W->Hx->R Unit)(m o i mp M:Ev):Ex:=λb A=>(m b A).bind λw d=>match w with
 |.tup [x,y]=>Yu g o i x (λc=>Yu g mp M y (λa=>.ok (.nx b) a) b c) b d|_=>.bad
def PL {mo mi:Ev}{t:Z9}{g:W->W->W->Hx->R Unit}{w:W}{k:Hx->R Fl}{Q:St->Hp->Prop}{D:Fl->Hx->Prop}
  (hn:∀o i v A,qB (g o i v A))(N:Yk X.K t g)(S:zF X.K φ A H)(re:RE X.K φ H ρ σ)(q:RV X.K φ H w v)(h:(Yu g mo mi w k ρ A).post D (EB X.K φ H xr))
  (M:∀y a e,Le X.K φ H a e->zF X.K a y e->(k y).post D (EB X.K φ H xr)->Q σ e):L2.j5 (tM X.K xr mo) (tM X.K xr mi) t v σ H Q:=by
 unfold Yu at h;refine tM.go S re (zT.mp h) λn A2 B H2 v2 P L Y I=>?_;refine tM.go Y (re.mono L) (qo (zT.mp P) (λ_ _ z=>z) λ_ _ z=>z.mono L) λj s d H3 C b p U E=>?_;have l:=L.trans p;refine N d s H3 v2 C v n j w _ U (I.mono p) E (q.mono l) ?_;cases r:g n j w s with
 |ok u f=>
  rw[r]at b;exactλc Z J T=>M f c Z (l.trans J) T b
 |exc x f=>exact absurd r (hn _ _ _ _ x f)|bad=>rw[r]at b;exact b.elim
def Ej {o i b I:Expr}{mo mi mp M:Ev}{t:Z9}{g:W->W->W->Hx->R Unit}{s T pt:Pos}{kt:Nat}(U:X.calm=true)(w:Yo X t)(hn:∀o i v A,qB (g o i v A))(B:Yk X.K t g)(he:SE X xr e m)(P:SE X xr o mo)(hi:SE X xr i mi)(n:SE X xr b mp)(q:SE X xr I M)
  (J:swapsWithSole [.Tuple [.Subscript o i s,.Subscript b I T] kt pt] e pos.line X.env=pure false:=by rfl)(hw:swappedStores [.Tuple [.Subscript o i s,.Subscript b I T] kt pt] e X.env=pure none:=by rfl)
  (h1:(assignEach [.Tuple [.Subscript o i s,.Subscript b I T] kt pt] X.env).map (·.2)=[assign (.Tuple [.Subscript o i s,.Subscript b I T] kt pt) X.env]:=by rfl)
  (Y:∀v,assign (.Subscript o i s) X.env v=(do
   let ov <- holding [v] (eval o X.env)
   let iv <- holding [v,ov] (eval i X.env)
   standAt s
   holding [v,ov,iv] (setItem ov iv v)
   release [v,ov,iv] []):=by intro _;rfl)
  (r:∀v,assign (.Subscript b I T) X.env v=(do
   let ov <- holding [v] (eval b X.env)
   let iv <- holding [v,ov] (eval I X.env)
   standAt T
   holding [v,ov,iv] (setItem ov iv v)
   release [v,ov,iv] []):=by intro _;rfl)
  (j:(assignEach [.Subscript o i s,.Subscript b I T] X.env).map (·.2)=assign (.Subscript o i s) X.env::(assignEach [.Subscript b I T] X.env).map (·.2):=by rfl)
  (f:(assignEach [.Subscript b I T] X.env).map (·.2)=assign (.Subscript b I T) X.env::(assignEach [] X.env).map (·.2):=by rfl)
  (p:(assignEach [.Subscript o i s,.Subscript b I T] X.env).length=2:=by rfl)(d:(assignEach [.Subscript o i s,.Subscript b I T] X.env).findIdx? (·.1)=none:=by rfl):
  SS X xr (.Assign [.Tuple [.Subscript o i s,.Subscript b I T] kt pt] e pos) (J0 g m mo mi mp M):=
 PS.imp (X3 he (P1 U (Kg (XU P hi w Y) (Kg (XU n q w r) Pd f) j) p d) J hw h1) λD σ H ⟨φ,A,ρ,S,re,h⟩=>by
  refine tM.go S re (zT.mp h) λw1 A1 E H1 v1 h1 L S1 Q=>?_
  split at h1
  ·rename_i x y
   obtain⟨a,vs,rfl,N,rs⟩:=Q;obtain⟨v1,r1,rfl,g1,v2,r2,rfl,g2,rfl⟩:=rs;refine⟨a,[v1,v2],rfl,N,rfl,v1,[v2],rfl,?_⟩;refine PL hn B S1 (re.mono L) g1 (qo h1 (λ_ _ z=>z) λ_ _ z=>z.mono L) λA2 C H2 l S2 h2=>?_;refine⟨v2,[],rfl,?_⟩;refine PL hn B S2 (re.mono (L.trans l)) (g2.mono l) (qo h2 (λ_ _ z=>z) λ_ _ z=>z.mono l) λA3 c H3 u S3 Z=>?_;exact⟨rfl,Z c H3 σ (L.trans (l.trans u)) S3 (re.mono (L.trans (l.trans u)))⟩
  ·exact h1.elim
end
open PySem
noncomputable def zY (n:Nat):bV:=(List.range 8).filter λi=>n.testBit i
def qT (l:Bool)(n:Nat):SetTable:=if (zY n).length<5 then⟨7,(zY n).toArray,#[],0,l,0,true⟩ else⟨31,(zY n).toArray,#[],0,l,1,true⟩
noncomputable def jh (n v:Nat):Nat:=n ||| (1 <<< v)
def gc (n v:Nat):Nat:=((zY n).filter λi=>decide (i<v)).length
def yZ (l:Bool)(n v:Nat):SetTable:={ qT l n with place:=(zY (jh n v)).toArray }
def yw (l:Bool)(n v:Nat):Bool:=n.testBit v || (((qT l n).freeSlot (v:Int)==some (v,false))&&((qT l n).put v==(yZ l n v,gc n v))&&(zY (jh n v)==(zY n).take (gc n v)++v::(zY n).drop (gc n v))&&
 (yZ l n v).fits (zY (jh n v)).length&&((yZ l n v).tooFull==((zY (jh n v)).length==5))&&
 (if (zY (jh n v)).length==5 then(yZ l n v).relaid ((zY (jh n v)).map λ(i:Nat)=>(i:Int)).toArray 20==some (qT l (jh n v),#[0,1,2,3,4]) else qT l (jh n v)==yZ l n v)&&
 (qT l (jh n v)).fits (zY (jh n v)).length&&decide (jh n v<256))
def add_0:((List.range' 0 32).all λn=>(List.range 8).all λv=>yw true n v&&yw false n v)=true:=by decide +kernel
def f6:((List.range' 32 32).all λn=>(List.range 8).all λv=>yw true n v&&yw false n v)=true:=by decide +kernel
def f7:((List.range' 64 32).all λn=>(List.range 8).all λv=>yw true n v&&yw false n v)=true:=by decide +kernel
def f9:((List.range' 96 32).all λn=>(List.range 8).all λv=>yw true n v&&yw false n v)=true:=by decide +kernel
def gg:((List.range' 128 32).all λn=>(List.range 8).all λv=>yw true n v&&yw false n v)=true:=by decide +kernel
def gr:((List.range' 160 32).all λn=>(List.range 8).all λv=>yw true n v&&yw false n v)=true:=by decide +kernel
def gz:((List.range' 192 32).all λn=>(List.range 8).all λv=>yw true n v&&yw false n v)=true:=by decide +kernel
def gS:((List.range' 224 32).all λn=>(List.range 8).all λv=>yw true n v&&yw false n v)=true:=by decide +kernel
def gV:((List.range 256).all λn=>(List.range 8).all λv=>yw true n v&&yw false n v)=true:=by
 rw[show List.range 256=List.range' 0 32++(List.range' 32 32++(List.range' 64 32++(List.range' 96 32++(List.range' 128 32++(List.range' 160 32++(List.range' 192 32++List.range' 224 32)))))) by decide +kernel,bP,bP,bP,bP,bP,bP,bP,add_0,f6,f7,f9,gg,gr,gz,gS]
 rfl
open PySem PySem.Spec PyProof.Rows
inductive jf:List (Int×Value)->List Nat->Prop
 |nil:jf [] []
 |cons {es:List (Int×Value)} {vs:bV} (v:Nat) (tk:Tok) (h:jf es vs):jf (((v:Int),.int (v:Int) tk)::es) (v::vs)
theorem jf.length (h:jf es vs):es.length=vs.length:=by
 induction h with
 |nil=>rfl|cons v t h i=>simp[i]
def jf.map1 (h:jf es vs):es.map (·.1)=vs.map λ(i:Nat)=>(i:Int):=by
 induction h with
 |nil=>rfl|cons v t h I=>simp[I]
theorem jf.take (h:jf es vs):∀k,jf (es.take k) (vs.take k):=by
 induction h with
 |nil=>intro k;simp;exact .nil|cons v t h i=>
  intro k;cases k with
  |zero=>exact .nil|succ k=>exact .cons v t (i k)
theorem jf.drop (h:jf es vs):∀k,jf (es.drop k) (vs.drop k):=by
 induction h with
 |nil=>intro k;simp;exact .nil|cons v t h i=>
  intro k;cases k with
  |zero=>exact .cons v t h|succ k=>exact i k
def jf.app {e:List (Int×Value)}{a:bV}(h:jf es vs)(H:jf e a):jf (es++e) (vs++a):=by
 induction h with
 |nil=>exact H|cons v t h i=>exact .cons v t i
def TR:∀v,v<8->hashInt ((v:Nat):Int)=(v:Int):=by decide
section
variable {prog:Program}
def jf.elems (h:jf es vs)(H:∀v∈vs,v<8):ElemsOf (intKind prog w) es:=by
 induction h with
 |nil=>intro e b;cases b|cons v t h i=>
  intro e b;rcases cn.mp b with rfl|b
  ·exact⟨⟨(v:Int),intKind_is _ _ _ _,(TR v (H v (aq ..))).symm⟩,rfl⟩
  ·exact i (λu a=>H u (ak _ a)) e b
def jf.find (h:jf es vs)(v:Nat):(es.findIdx? λe=>(intKind prog w).is (v:Int) e.2)=vs.findIdx? λu=>decide (u=v):=by
 induction h with
 |nil=>rfl|cons u t h i=>
  rw[List.findIdx?_cons,List.findIdx?_cons,i]
  have:(intKind prog w).is (v:Int) (Value.int (u:Int) t)=decide (u=v):=by
   show Value.isInt (v:Int) (Value.int (u:Int) t)=_;unfold Value.isInt;rw[Bool.eq_iff_iff];simp;omega
  rw[this]
end
def XS {v:Nat}:v∈zY n↔v<8/\n.testBit v=true:=by
 unfold zY;rw[mem_filter,mem_range]
def jI (h:Heap)(a:Addr)(l:Bool)(n:Nat):Prop:=∃o e E,h.get? a=some o/\o.ExactSet/\o.data=.set e E (qT l n)/\jf e.toList (zY n)/\n<256
def jI.keep (x:jI h a l8 n)(k:∀o,h.get? a=some o->h'.get? a=some o):jI h' a l8 n:=
 let ⟨o,e,E,H,r⟩:=x;⟨o,e,E,k o H,r⟩
def CH {v:Nat}(a:n<256)(H:v<8)(l:Bool):yw l n v=true:=by
 have h:=cy.mp (cy.mp gV n (cw.mpr a)) v (cw.mpr H);rw[av]at h;cases l
 ·exact h.2
 ·exact h.1
def Cj:((List.range 256).all λn=>(qT true n).fits (zY n).length&&(qT false n).fits (zY n).length)=true:=by decide +kernel
def GN (l:Bool)(n:Nat):(qT l n).plain=true:=by unfold qT;split<;>rfl
def BW (l:Bool)(n:Nat):(qT l n).led=l:=by unfold qT;split<;>rfl
def Sf (l:Bool)(n:Nat):(qT l n).place=(zY n).toArray:=by unfold qT;split<;>rfl
def fits_of (H:n<256)(l:Bool):(qT l n).fits (zY n).length=true:=by
 have h:=cy.mp Cj n (cw.mpr H);rw[av]at h;cases l
 ·exact h.2
 ·exact h.1
def Jj (n:Nat):(zY n).length<=8:=by
 unfold zY;exact a3 (length_filter_le _ _) (by simp)
structure WD (l8:Bool)(n v:Nat):Prop where
 free:(qT l8 n).freeSlot (v:Int)=some (v,false)
 put:(qT l8 n).put v=(yZ l8 n v,gc n v)
 vs:zY (jh n v)=(zY n).take (gc n v)++v::(zY n).drop (gc n v)
 fits:(yZ l8 n v).fits (zY (jh n v)).length=true
 full:(yZ l8 n v).tooFull=((zY (jh n v)).length==5)
 VJ:(zY (jh n v)).length=5->(yZ l8 n v).relaid ((zY (jh n v)).map λ(i:Nat)=>(i:Int)).toArray 20=some (qT l8 (jh n v),#[0,1,2,3,4])
 less:(zY (jh n v)).length≠5->qT l8 (jh n v)=yZ l8 n v
 lt:jh n v<256
def El {v:Nat}(o:n<256)(a:v<8)(l:Bool)(b:n.testBit v=false):WD l n v:=by
 have h:=CH o a l;unfold yw at h;rw[b,Bool.false_or]at h;simp only[av,aM,ao]at h;obtain⟨⟨⟨⟨⟨⟨⟨p,i⟩,g⟩,f⟩,d⟩,H⟩,j⟩,c⟩:=h;refine⟨p,i,g,f,d,λe=>?_,λe=>?_,c⟩
 ·rw[ah e]at H;exact of_decide_eq_true (by simpa using H)
 ·rw[ai e]at H;simpa using H
def jn (n v:Nat):Nat:=if n.testBit v then n else jh n v
section
variable {prog:Program}{A:Around}
def E5 {e:Array (Int×Value)}{v:Nat}{x:Value}(f:WD l8 n v)(H:jf e.toList (zY n)):layNew (qT l8 n) e (v:Int) x=(SetTable.insertAt e (gc n v) ((v:Int),x),yZ l8 n v,false,false):=by
 have h:(SetTable.insertAt e (gc n v) ((v:Int),x)).size=(zY (jh n v)).length:=by
  rw[<- aQ,SetTable.toList_insertAt,f.vs,aj,aj,aL,aL,bp,bp,bI,bI,H.length]
 unfold layNew;rw[f.free];dsimp only;rw[f.put];dsimp only;rw[h];unfold SetTable.orStandIn;rw[ah f.fits,f.fits]
 rfl
def BX {E:Array (Int×Value)}{v:Nat}(f:WD l8 n v)(H:(zY (jh n v)).length=5)(o:jf E.toList (zY (jh n v))):relayAll (yZ l8 n v) E 20=(E,qT l8 (jh n v),false):=by
 have q:E.map (·.1)=((zY (jh n v)).map λ(i:Nat)=>(i:Int)).toArray:=by
  apply Array.toList_inj.mp
  rw[Array.toList_map,o.map1]
 have z:E.size=5:=by rw[<- aQ,o.length,H]
 have h:(#[0,1,2,3,4]:Array Nat).filterMap (E[·]?)=E:=by
  apply Array.toList_inj.mp
  rw[Array.toList_filterMap];have p:E.toList.length=5:=by rw[aQ];exact z
  have g:∀i,E[i]? =E.toList[i]?:=λi=>by rw[bC]
  simp only[g];generalize E.toList=l at p;obtain⟨a,b,c,d,e,rfl⟩:∃a b c d e,l=[a,b,c,d,e]:=by
   match l,p with
   |[a,b,c,d,e],_=>exact⟨a,b,c,d,e,rfl⟩
  rfl
 unfold relayAll;rw[q,f.VJ H];dsimp only;rw[h];have j:coversAll #[0,1,2,3,4] E.size=true:=by rw[z];decide +kernel
 have r:(qT l8 (jh n v)).fits E.size=true:=by rw[z,<- H];exact fits_of f.lt l8
 rw[j,r]
 rfl
def jf.insert {e:Array (Int×Value)}{v:Nat}{tk:Tok}(f:WD l8 n v)(h:jf e.toList (zY n)):jf (SetTable.insertAt e (gc n v) ((v:Int),.int (v:Int) tk)).toList (zY (jh n v)):=by
 rw[SetTable.toList_insertAt,f.vs];exact(h.take _).app (.cons v tk (h.drop _))
def T4 {o:Obj}{E es':Array (Int×Value)}{e:Nat}{t:SetTable}{t':SetTable}(H:h.get? a=some o)(d:o.data=.set E e t):(h.update a (Obj.putSet es' t')).get? a=some { o with data:=.set es' (e+1) t' }:=by
 have:=ba (Obj.putSet es' t') H (by rw[putSet_of es' t' d];rfl)
 rw[putSet_of es' t' d]at this;exact this
def HF {v:Nat}{Y:Tok}{Q:Bool->Shared->Prop}(U:jI s.heap a l8 n)(z:v<8)
  (h:∀h' b,Heap.SameBut a s.heap h'->jI h' a l8 (jn n v)->Q b { s with heap:=h' }):
  wpAny (model prog w) A (setAddHashed a (.int (v:Int) Y) ((intKind prog w).hash (v:Int))) Q E s:=by
 obtain⟨o,p,I,r,Z,hd,he,hn⟩:=U;have X:p.size=(zY n).length:=by rw[<- aQ,he.length]
 have hf:(qT l8 n).fits p.size=true:=by rw[X];exact fits_of hn l8
 have t:ElemsOf (intKind prog w) p.toList:=he.elems λu K=>(XS.mp K).1;have l:p.size<scanBound:=by rw[X];have:=Jj n;unfold scanBound;omega
 unfold setAddHashed setAddHashedIn;refine wpAny_holding (ck (wpAny_setState_of r hd hf ?_));dsimp only;rw[byScan_of (x:=.int (v:Int) Y) rfl l t];simp only[↓reduceIte];unfold setAddByScan;refine ck ?_;refine ck (wpAny_rule ?_);refine ck (wpAny_setScan_of (knd:=intKind prog w) (intKind_is _ _ _ _) r hd hf t ?_);rw[he.find];cases J:(zY n).findIdx? λu=>decide (u=v) with
 |some j=>
  dsimp only;have l:n.testBit v=true:=by
   obtain⟨P,C,_⟩:=List.findIdx?_eq_some_iff_getElem.mp J
   have:=of_decide_eq_true C
   exact(XS.mp (this ▸ aN P)).2
  refine cm (cm ?_);have e:s={ s with heap:=s.heap }:=by cases s;rfl
  rw[e];refine h s.heap false (Heap.SameBut.refl a s.heap) ?_;unfold jn;rw[ah l];exact⟨o,p,I,r,Z,hd,he,hn⟩
 |none=>
  dsimp only;have l:n.testBit v=false:=by
   cases N:n.testBit v with
   |false=>rfl|true=>
    have:=List.findIdx?_eq_none_iff.mp J v (XS.mpr ⟨z,N⟩)
    simp at this
  have f:=El hn z l8 l;have S:(intKind prog w).hash (v:Int)=(v:Int):=TR v z;rw[S];rw[E5 f he];have H:=he.insert (tk:=Y) f;have i:(SetTable.insertAt p (gc n v) ((v:Int),Value.int (v:Int) Y)).size=(zY (jh n v)).length:=by rw[<- aQ,H.length]
  generalize SetTable.insertAt p (gc n v) ((v:Int),Value.int (v:Int) Y)=c at H i;dsimp only;refine ck (cm ?_);have M:(yZ l8 n v).plain=true:=by unfold yZ;exact GN l8 n
  rw[M];simp only[↓reduceIte];refine ck ?_;rw[hashByValue_scannable 8 (x:=.int (v:Int) Y) rfl];refine cm ?_;have B:plainKind (.int (v:Int) Y)=true:=rfl;rw[B];simp only[↓reduceIte];have q:c.size<=sizeLine:=by rw[i,sizeLine_eq];have:=Jj (jh n v);omega
  refine ck (wpAny_storeSet_of r hd ?_ q);have g:=T4 (es':=c) (t':=yZ l8 n v) r hd;have d:=Heap.SameBut.update s.heap a (Obj.putSet c (yZ l8 n v));rw[f.full]
  by_cases y:(zY (jh n v)).length=5
  ·have T:SetTable.grown c.size=20:=by rw[i,y];rfl
   rw[T,BX f y H,y];simp only[Bool.not_false,Bool.true_and,bt,↓reduceIte];refine ck (cm ?_);refine ck (wpAny_storeSet_of g rfl ?_ q);refine cm ?_;dsimp only;refine cm ?_;have D:=T4 (es':=c) (t':=qT l8 (jh n v)) g rfl;refine h _ true (d.trans (Heap.SameBut.update _ a _)) ?_;unfold jn;rw[l];exact⟨_,c,I+1+1,D,Z,rfl,H,f.lt⟩
  ·have L:((zY (jh n v)).length==5)=false:=by simpa using y
   rw[L];simp only[Bool.not_false,Bool.and_false,a8,↓reduceIte];refine cm ?_;dsimp only;refine cm ?_;refine h _ true d ?_;unfold jn;rw[l,ai aA,];refine⟨_,c,I+1,g,Z,?_,H,f.lt⟩;rw[f.less y]
end
noncomputable abbrev qY (w:World):Bool:=!w.params.followText "set-order"
def gh (val:Nat->Nat)(i:Nat):Nat:=((List.range i).map val).foldl jn 0
def Eb (val:Nat->Nat)(i:Nat):gh val (i+1)=jn (gh val i) (val i):=by
 unfold gh;rw[range_succ,aW,foldl_append]
 rfl
section
variable {prog:Program}{A:Around}
def UC (a:Value){Q1:bX}(h:Q1 (.ref s.heap.objs.size) { s with heap:=s.heap.push (jW (qY w)) }):
  codeAny (model prog w) A (.call (.builtin "set.__new__") ⟨[.type "set",a],[]⟩) (wants Q1 E) s:=by
 refine codeAny_of_tree ?_;show wpAny _ A.in1 (do checkBuiltinCall "set.__new__" ⟨[.type "set",a],[]⟩;again (.builtin "set.__new__" ⟨[.type "set",a],[]⟩)) _ _ s
 refine ck (wpAny_of_eq (F.newCall_set_1 a) (cm ⟨plainId_quiet F.plain_set_new _,codeAny_builtin F.entry_set_new ?_⟩));rw[Around.under_plainId F.plain_set_new _];unfold Builtin.«set.__new__» Builtin.Frozenset.newClass;have H:=sub_set_self;obtain⟨p,g,d,t,o⟩:=s;dsimp only
 wp_walk
 refine wpAny_askSetting (cm ?_);dsimp only;simp only[newObj];refine ck (wpAny_alloc (cm ?_));exact cm h
end
section
variable {prog:Program}{A:Around}{R:Result->Shared->Prop}{I:Addr}{wr:bT}{G:Array GenState->Array GenState->Prop}{P:Nat->Value->Prop}{St:Nat->Shared->Prop}
def Sr (W:WalksS prog w A.in1 I fp wr G n P St)(S:Addr)(q:S∉fp)(N:Bool)(val:Nat->Nat)(l:∀i v,P i v->∃t,v=.int ((val i:Nat):Int) t)(M:∀i,i<n->val i<8):
  ∀(k i:Nat)(s:Shared),n-i=k->i<=n->St i s->jI s.heap S N (gh val i)->
   (∀s',Moved (S::wr) G s s'->jI s'.heap S N (gh val n)->R (.ok (.ret .none)) s')->
   codeAny (model prog w) A (.builtin "set.update.loop" ⟨[.ref S,.ref I],[]⟩) R s:=by
 have p:S∉wr:=λh=>q (W.sub _ h);have H:∀b∈wr,b∈S::wr:=λb j=>ak _ j;intro k
 induction k with
 |zero=>
  intro i s K T a D E;have y:i=n:=by omega
  subst y;refine codeAny_builtin F.entry_set_update_loop ?_;rw[Around.under_plainId F.plain_set_update_loop _];show wpAny _ A.in1 (pyNext (.ref I) >>= _) _ _ s;refine ck (W.done s _ _ a λs' Q=>?_);show wpAny _ A.in1 (ret Value.none) _ _ s';exact cm (E s' (Q.mono H) (D.keep λo x=>Q.heap S _ p x))
 |succ k J=>
  intro i s K T a D E;have c:i<n:=by omega
  refine codeAny_builtin F.entry_set_update_loop ?_;rw[Around.under_plainId F.plain_set_update_loop _];show wpAny _ A.in1 (pyNext (.ref I) >>= _) _ _ s;refine ck (W.item i s _ _ c a λv s' L d Q=>?_);obtain⟨t,rfl⟩:=l i v L;have C:jI s'.heap S N (gh val i):=D.keep λo x=>Q.heap S _ p x;show wpAny _ A.in1 (holding [Value.int ((val i:Nat):Int) t] (setAdd S (.int ((val i:Nat):Int) t)) >>= _) _ _ s';refine ck (wpAny_holding ?_);unfold setAdd;refine wpAny_holding ?_;refine ck ((intKind prog w).pyHash (k:=((val i:Nat):Int)) (intKind_is _ _ _ _) ?_);refine HF (s:={ s' with toks:=s'.toks+1 }) C (M i c) λU b f B=>?_
  have z:jI U S N (gh val (i+1)):=by rw[Eb];exact B
  refine cm ⟨plainId_quiet F.plain_set_update_loop _,J (i+1) _ (by omega) c (W.frame _ s' _ _ d (le_succ _) λb j o e=>?_) z λu g r=>?_⟩
  ·rw[f.2 b (λh:b=S=>q (by rw[<- h];exact j))];exact e
  ·refine E u (Moved.trans W.gtrans ((Q.mono H).then_heap (le_succ _) λb o j e=>?_) g) r
   rw[f.2 b (λh:b=S=>j (by rw[h];exact aq))];exact e
end
section
variable {prog:Program}{A:Around}
def Oc (l:Bool)(g:h.get? a=some (jW l)):jI h a l 0:=
 ⟨_,#[],0,g,⟨rfl,rfl,rfl⟩,(by cases l<;>rfl),.nil,by decide⟩
def M7 {l:Addr}(y:A.handled=none)(u:s.heap.IsList l l6.toArray)(g:IntsAre l6 (vs.map λ(v:Nat)=>(v:Int)))(B:∀v∈vs,v<8)
  (h:∀(Z:Heap)(tk:Nat),jI Z s.heap.objs.size l8 (vs.foldl jn 0)->
   (∀b o,b<s.heap.objs.size->s.heap.get? b=some o->Z.get? b=some o)->Q .none { s with heap:=Z,toks:=tk }):
  codeAny (model prog w) A (.call (.builtin "set.__init__") ⟨[.ref s.heap.objs.size,.ref l],[]⟩) (wants Q E) { s with heap:=s.heap.push (jW l8) }:=by
 have Y:l6.length=vs.length:=by
  have:∀{l6:bS}{ns:bR},IntsAre l6 ns->l6.length=ns.length:=λh=>by
   induction h with
   |nil=>rfl|cons _ _ _ I=>simp[I]
  rw[this g,ag]
 have S:(s.heap.push (jW l8)).get? s.heap.objs.size=some (jW l8):=aw _ rfl;refine codeAny_call_builtin F.called_set.init.plain F.entry_set_init (check_set_init_1 ⟨_,S,rfl⟩ ?_);obtain⟨ob,h1,a,n,j⟩:=u;obtain⟨K,J,r,q⟩:=ob;dsimp only at a j;cases a;cases j;have g1:=af (jW l8) h1;have n1:=F.sub_list_set;have P:=F.sub_list_frozenset;have N:(Value.type "list" == Value.type "dict")=false:=by decide
 have T1:(s.heap.push (jW l8)).IsList l l6.toArray:=⟨_,g1,rfl,n,rfl⟩;unfold Builtin.«set.__init__» noKeywords Builtin.Frozenset.updateFrom;generalize x:pyIter=PI
 wp_walk
 subst x;refine wpAny_pyIter_list T1 (ck (wpAny_runValue ?_));have lt:l<s.heap.objs.size:=aG h1;have sz:(s.heap.push (jW l8)).objs.size=s.heap.objs.size+1:=bc ..;have ne:l≠(s.heap.push (jW l8)).objs.size:=by rw[sz];exact aJ (aZ lt)
 have W:=(Walks.list (prog:=prog) (w:=w) (A:=A.in1.in1) (by simp[y]) (s.heap.push (jW l8)).objs.size l ne l6.toArray).toS
 have d:l6.toArray.size=vs.length:=by rw[az];exact Y
 rw[d]at W;have off:s.heap.objs.size∉[(s.heap.push (jW l8)).objs.size,l]:=by
  rw[sz];intro U;rcases cn.mp U with z|U
  ·exact aJ (bo _) z
  ·exact br lt (cx.mp U)
 have H:gh (λi=>vs.getD i 0) vs.length=vs.foldl jn 0:=by
  unfold gh
  congr 1
  apply bq
  ·simp
  ·intro i h1 a
   have X:i<vs.length:=by simpa using a
   simp[ae,aa X]
 refine Sr W s.heap.objs.size off l8 (λi=>vs.getD i 0) (λi v e=>?_) (λi X=>?_) vs.length 0 _ rfl (bG _) ⟨⟨_,aw _ rfl,rfl,rfl⟩,T1.push _⟩ ?_ ?_
 ·obtain⟨t,f⟩:=IntsAre.int_at g i v (by simpa using e)
  refine⟨t,f.trans ?_⟩;have X:i<vs.length:=by
   have:=(cu.mp (show l6[i]? =some v by simpa using e)).1
   omega
  congr 1
  simp[ae,ax,aa X]
 ·rw[ae,aa X]
  exact B _ (aN X)
 ·exact Oc l8 (af _ S)
 ·intro s' M p
  rw[H]at p;obtain⟨Z,g',d',T,c⟩:=s';have D:g'=s.gens:=M.gens;have f:d'=s.drawn:=M.drawn;have C:c=s.os:=M.os;subst D f C;refine cm ?_;show wpAny _ _ (ret Value.none) _ _ _;refine cm (h Z T p λb o L e=>M.heap b o (λU=>?_) (af _ (af _ e)));rcases cn.mp U with z|U
  ·exact aJ L z
  ·exact aJ (aZ L) ((cx.mp U).trans sz)
def Lb {l:Addr}(j:A.handled=none)(t:s.heap.IsList l l6.toArray)(i:IntsAre l6 (vs.map λ(v:Nat)=>(v:Int)))(n:∀v∈vs,v<8)
  (h:∀(C:Heap)(D:Nat),jI C s.heap.objs.size (qY w) (vs.foldl jn 0)->
   (∀b o,b<s.heap.objs.size->s.heap.get? b=some o->C.get? b=some o)->Q (.ref s.heap.objs.size) { s with heap:=C,toks:=D }):
  wpAny (model prog w) A (call (.type "set") [.ref l]) Q E s:=by
 obtain⟨c,p,d⟩:=F.called_set.mro;have M:=F.called_set.made;have L:=F.called_set.sub;have z:=F.called_set.notType;have y:=F.called_set.canCreate;have x:=F.typeCall_set_1 (.ref l);refine wpAny_call (codeAny_of_tree ?_);show wpAny _ _ (callAny (.type "set") _) _ _ _;refine cm ⟨Code.quiet_builtin _ (by decide +kernel),codeAny_builtin F.entry_type_call ?_⟩
 rw[Around.under_plain (weight_type_call_type "set" [.ref l] []) rfl]
 repeat (any_goals (first|assumption|wp_step))
 refine codeAny_mono (UC (.ref l) (E:=E) (Q1:=λu J=>u=.ref s.heap.objs.size/\J={ s with heap:=s.heap.push (jW (qY w)) }) ⟨rfl,rfl⟩) λr J a=>?_
 cases r with
 |error e=>exact a|ok fl=>
  cases fl with
  |ret u=>
   obtain⟨rfl,rfl⟩:=a;have T:Shared.TypeIs { s with heap:=s.heap.push (jW (qY w)) } (.ref s.heap.objs.size) "set":=⟨_,aw _ rfl,rfl⟩
   have q:=F.called_set.init.lookup;have B:=F.called_set.init.bind (.ref s.heap.objs.size)
   repeat (any_goals (first|assumption|wp_step))
   refine codeAny_mono (M7 (E:=E) (Q:=λv I=>v=.none/\∃C D,I={ s with heap:=C,toks:=D }/\jI C s.heap.objs.size (qY w) (vs.foldl jn 0)/\
    ∀b o,b<s.heap.objs.size->s.heap.get? b=some o->C.get? b=some o) (by simp[j]) t i n λC D S K=>⟨rfl,C,D,rfl,S,K⟩) λg I H=>?_
   cases g with
   |error e=>exact H|ok f=>
    cases f with
    |ret v=>
     obtain⟨rfl,C,D,rfl,S,K⟩:=H
     repeat (any_goals (first|assumption|wp_step))
     exact h _ _ S K
    |_=>exact H.elim
  |_=>exact a.elim
end
theorem TU:∀{l:List α}{k:Nat}{w:α},l[k]? =some w->l.Perm (w::l.eraseIdx k)
 |[],_,_,h=>by simp at h|x::l,0,w,h=>by
  simp at h;subst h;simp
 |x::l,k+1,w,h=>by
  rw[List.getElem?_cons_succ]at h;rw[List.eraseIdx_cons_succ];exact((TU h).cons x).trans (List.Perm.swap w x _)
def g0 (next:Nat->Nat):∀(f k:Nat)(left:List α)(o:Array α),left.length=f->(pickOrder.go next f k left o).toList.Perm (o.toList++left):=by
 intro f
 induction f with
 |zero=>
  intro k left o h
  have:left=[]:=List.length_eq_zero_iff.mp h
  subst this;unfold pickOrder.go;simp
 |succ f i=>
  intro k left o h;have H:next k%left.length<left.length:=Nat.mod_lt _ (by omega)
  unfold pickOrder.go;rw[aa H];dsimp only;refine(i (k+1) _ _ (by rw[List.length_eraseIdx_of_lt H];omega)).trans ?_
  rw[Array.toList_push,aR];exact List.Perm.append_left _ (TU (aa H)).symm
def Eg (next:Nat->Nat)(x:Array α):(pickOrder next x).toList.Perm x.toList:=by
 unfold pickOrder
 have:=g0 next x.size 0 x.toList #[] (by simp)
 simpa using this
namespace F
def MY:entryFor table "set.__iter__"=some Builtin.«frozenset.__iter__»:=entryFor_alias (id' := "frozenset.__iter__") (by kernel_rfl) rfl (by decide +kernel) (by kernel_rfl)
def NY:entryFor table "set_iterator.__iter__"=some Builtin.«dict_keyiterator.__iter__»:=entryFor_alias (id' := "dict_keyiterator.__iter__") (by kernel_rfl) rfl (by decide +kernel) (by kernel_rfl)
def Uk:Manifest.owners.lookup (String.ofList ['r','o','t','a','r','e','t','i','_','t','e','s'].reverse)=some Manifest.sig_set_iterator:=by kernel_rfl
def QY:Slot "set_iterator" "__next__" "set_iterator.__next__":=
 .of (owner := "set_iterator") (n := "__next__") (by rw[typeLookup_type,builtinLookup_eq_fast];kernel_rfl) (by decide +kernel) (by decide +kernel) (by decide +kernel)
  (by first|exact .inl (by decide +kernel)|exact .inr (by decide +kernel)) (by rw[isSubtype_type];kernel_rfl)
def Ub:entryFor table "set_iterator.__next__"=some Builtin.«set_iterator.__next__»:=entryFor_of_tree (by kernel_rfl)
def Ua (a:Value):argsOk "set_iterator.__next__" ⟨[a],[]⟩:=by
 unfold argsOk;rw[signature?_of (id := "set_iterator.__next__") (n:=['_','_','t','x','e','n','_','_']) (o:=['r','o','t','a','r','e','t','i','_','t','e','s']) (by kernel_rfl) Uk];kernel_rfl
def NX (a:Value):argsOk "set_iterator.__iter__" ⟨[a],[]⟩:=by
 unfold argsOk;rw[signature?_of (id := "set_iterator.__iter__") (n:=['_','_','r','e','t','i','_','_']) (o:=['r','o','t','a','r','e','t','i','_','t','e','s']) (by kernel_rfl) Uk];kernel_rfl
def Uc:Slot "set_iterator" "__iter__" "set_iterator.__iter__":=
 .of (owner := "set_iterator") (n := "__iter__") (by rw[typeLookup_type,builtinLookup_eq_fast];kernel_rfl) (by decide +kernel) (by decide +kernel) (by decide +kernel)
  (by first|exact .inl (by decide +kernel)|exact .inr (by decide +kernel)) (by rw[isSubtype_type];kernel_rfl)
end F
def Yj (n i:Nat):Nat:=match i with
 |0=>0|i+1=>(zY n).getD i 0+1
def OL (n i:Nat):Bool:=decide ((zY n).length<i) || (SetTable.below (zY n).toArray (Yj n i)==i)
def E2:((List.range 256).all λn=>(List.range 9).all λi=>OL n i)=true:=by decide +kernel
def CI (a:n<256)(b:i<=(zY n).length):SetTable.below (zY n).toArray (Yj n i)=i:=by
 have H:=Jj n;have h:=cy.mp (cy.mp E2 n (cw.mpr a)) i (cw.mpr (by omega))
 unfold OL at h;rw[aD (by omega),Bool.false_or,aM]at h
 exact h
def Qm (h:Heap)(I S:Addr)(s i n e:Nat):Prop:=∃o,h.get? I=some o/\o.cls=.type "set_iterator" /\ o.data=.fields #[.int s 0,.int i 0,.ref S,.int n 0,.int e 0]
noncomputable def yG (w:World)(a:Addr)(E:Nat)(e:Array (Int×Value)):Array (Int×Value):=if w.params.followText "set-order" then pickOrder (w.params.setOrder a E) e else e
def JL (w:World)(a:Addr)(E:Nat)(e:Array (Int×Value)):(yG w a E e).toList.Perm e.toList:=by
 unfold yG
 split
 ·exact Eg _ _
 ·exact List.Perm.refl _
def kL (w:World)(n i:Nat):Nat:=if w.params.followText "set-order" then 0 else Yj n i
section
variable {prog:Program}{A:Around}{o:Obj}{es:Array (Int×Value)}{ep:Nat}
def Gn {Q:Bool->Shared->Prop}(h:Q (w.params.followText "set-order") s):wpAny (model prog w) A setsByText Q E s:=by
 unfold setsByText;exact ck (wpAny_askSetting (cm h))
def Mq (H:s.heap.get? a=some o)(x:o.ExactSet)(e:o.data=.set es ep (qT (qY w) n))(i:jf es.toList (zY n))(g:n<256)
  (c:Q (.ref s.heap.objs.size) { s with heap:=s.heap.push { cls:=.type "set_iterator",data:=.fields #[.int 0 0,.int 0 0,.ref a,.int es.size 0,.int ep 0] } }):
  wpAny (model prog w) A (pyIter (.ref a)) Q E s:=by
 have hT:s.TypeIs (.ref a) "set":=⟨o,H,x.1⟩;have d:es.size=(zY n).length:=by rw[<- aQ,i.length]
 have f:(qT (qY w) n).fits es.size=true:=by rw[d];exact fits_of g _
 refine wpAny_pyIter_slot hT slot_set_iter (wpAny_call_entry slot_set_iter hT F.MY ?_ (PySem.F.args_set_iter_1 _));unfold Builtin.«frozenset.__iter__»;show wpAny _ _ (Builtin.Frozenset.sizeOf a >>= _) _ _ s;unfold Builtin.Frozenset.sizeOf;refine ck (ck (wpAny_setEntries_of H e f (cm ?_)));unfold setDrawn;refine ck (ck (wpAny_setState_of H e f ?_));dsimp only;refine ck (Gn (cm ?_));rw[ai (λh=>by
  have b:(!w.params.followText "set-order" && (!(qT (qY w) n).plain&&decide (es.size > 1)))=true:=h;rw[GN]at b;simp at b)]
 refine ck (cm ?_);refine ck (wpAny_setEpoch_of H e f ?_);exact ck (wpAny_newObj_type (cm ⟨_,rfl,"set_iterator",_,⟨_,aw _ rfl,rfl⟩,F.QY.lookup,c⟩))
def UA {Q:Option (Value×Nat)->Shared->Prop}(c:s.heap.get? a=some o)(x:o.data=.set es ep (qT (qY w) n))(y:jf es.toList (zY n))(r:n<256)(z:i<=es.size)
  (h:Q (((yG w a ep es)[i]?).map λe=>(e.2,kL w n (i+1))) s):wpAny (model prog w) A (setNext a (kL w n i) i ep) Q E s:=by
 have q:es.size=(zY n).length:=by rw[<- aQ,y.length]
 have u:(qT (qY w) n).fits es.size=true:=by rw[q];exact fits_of r _
 unfold setNext;refine ck (wpAny_setState_of c x u ?_);dsimp only;refine ck (Gn ?_);unfold yG kL at h;cases t:w.params.followText "set-order" with
 |true=>
  rw[t]at h;simp only[↓reduceIte]at h ⊢;have p:¬((ep != ep)=true):=by simp
  rw[ai p];unfold setWalk;refine ck (ck (wpAny_setState_of c x u ?_));dsimp only;refine ck (Gn ?_);rw[t];simp only[↓reduceIte];refine ck (wpAny_askSetting (cm (cm ?_)));unfold kL;rw[t];exact h
 |false=>
  rw[t]at h;simp only[a8,↓reduceIte]at h ⊢;rw[ai (λh=>by
   have f:(!(qT (qY w) n).plain&&decide (es.size > 1))=true:=h;rw[GN]at f;simp at f)]
  have d:(qT (qY w) n).led=true:=by rw[BW];unfold qY;rw[t];rfl
  refine ck ?_;show wpAny _ _ (if (!(qT (qY w) n).led&&!es.isEmpty)=true then unsupported "set:maker-not-led" else pure ()) _ _ _;rw[d];simp only[Bool.not_true,Bool.false_and,a8,↓reduceIte];refine cm ?_;have l:SetTable.below (qT (qY w) n).place (kL w n i)=i:=by
   rw[Sf];unfold kL;rw[t];exact CI r (by omega)
  rw[l,Sf];refine cm ?_
  by_cases b:i<es.size
  ·have v:(zY n)[i]? =some ((zY n)[i]'(by omega)):=aa (by omega)
   have j:(zY n).toArray[i]? =some ((zY n)[i]'(by omega)):=by rw[List.getElem?_toArray];exact v
   have H:es[i]? =some es[i]:=Array.getElem?_eq_getElem b;rw[H]at h;rw[H,j];dsimp only;have g:Yj n (i+1)=(zY n)[i]'(by omega)+1:=by
    show(zY n).getD i 0+1=_;rw[ae,v]
    rfl
   rw[g]at h;exact h
  ·have H:es[i]? =none:=Array.getElem?_eq_none (by omega)
   rw[H]at h;rw[H];exact h
def NZ {I:Addr}{e:Int×Value}{Q:Option Value->Shared->Prop}(t:Qm s.heap I a (kL w n i) i es.size ep)(c:s.heap.get? a=some o)(y:o.ExactSet)(r:o.data=.set es ep (qT (qY w) n))(q:jf es.toList (zY n))(p:n<256)(x:(yG w a ep es)[i]? =some e)
  (f:∀h',Qm h' I a (kL w n (i+1)) (i+1) es.size ep->Heap.SameBut I s.heap h'->Q (some e.2) { s with heap:=h' }):
  wpAny (model prog w) A (pyNext (.ref I)) Q E s:=by
 obtain⟨b,H,d,h⟩:=id t;have hT:s.TypeIs (.ref I) "set_iterator":=⟨b,H,d⟩;have j:es.size=(zY n).length:=by rw[<- aQ,q.length]
 have v:(qT (qY w) n).fits es.size=true:=by rw[j];exact fits_of p _
 unfold pyNext;refine ck (wpAny_attempt (wpAny_callSpecial?_slot (name:=Str.ofString "__next__") hT F.QY
  (wpAny_call_entry F.QY hT F.Ub ?_ (F.Ua _))))
 unfold Builtin.«set_iterator.__next__»;show wpAny _ _ (fieldsOf (.ref I) >>= _) _ _ s;refine ck (wpAny_fieldsOf H h ?_);dsimp only;refine ck (wpAny_setEntries_of c r v ?_);rw[ai (by simp)]
 have u:i<es.size:=by
  have l:=(Array.getElem?_eq_some_iff.mp x).1;have g:=(JL w a ep es).length_eq;simp at g;omega
 simp only[aP];refine ck (UA c r q p (bB u) ?_);rw[x];dsimp only[Option.map_some];refine ck (wpAny_setField H h (by simp) ?_)
 have l:(s.heap.update I (Obj.mapFields (·.setIfInBounds 0 (rawInt (kL w n (i+1)))))).get? I=some (Obj.mapFields (·.setIfInBounds 0 (rawInt (kL w n (i+1)))) b):=ba _ H (Obj.isFreed_of_fields (Obj.data_mapFields h _));refine ck (wpAny_setField l (Obj.data_mapFields h _) (by simp) ?_)
 refine cm ⟨e.2,rfl,cm (f _ ?_ ((Heap.SameBut.update ..).trans (Heap.SameBut.update ..)))⟩;refine⟨_,ba _ l (Obj.isFreed_of_fields (Obj.data_mapFields (Obj.data_mapFields h _) _)),(Obj.cls_mapFields ..).trans ((Obj.cls_mapFields ..).trans d),?_⟩;rw[Obj.data_mapFields (Obj.data_mapFields h _)];simp[rawInt]
def N1 {I:Addr}{Q:Option Value->Shared->Prop}(d:A.handled=none)(t:Qm s.heap I a (kL w n es.size) es.size es.size ep)(c:s.heap.get? a=some o)(u:o.ExactSet)(q:o.data=.set es ep (qT (qY w) n))(p:jf es.toList (zY n))(l:n<256)
  (f:∀h',Heap.ExtBut I s.heap h'->Q none { s with heap:=h' }):wpAny (model prog w) A (pyNext (.ref I)) Q E s:=by
 obtain⟨i,h,e,H⟩:=id t;have hT:s.TypeIs (.ref I) "set_iterator":=⟨i,h,e⟩;have j:es.size=(zY n).length:=by rw[<- aQ,p.length]
 have r:(qT (qY w) n).fits es.size=true:=by rw[j];exact fits_of l _
 unfold pyNext;refine ck (wpAny_attempt (wpAny_callSpecial?_slot (name:=Str.ofString "__next__") hT F.QY
  (wpAny_call_entry F.QY hT F.Ub ?_ (F.Ua _))))
 unfold Builtin.«set_iterator.__next__»;show wpAny _ _ (fieldsOf (.ref I) >>= _) _ _ s;refine ck (wpAny_fieldsOf h H ?_);dsimp only;refine ck (wpAny_setEntries_of c q r ?_);rw[ai (by simp)]
 simp only[aP];refine ck (UA c q p l (ar _) ?_);have x:(yG w a ep es)[es.size]? =none:=Array.getElem?_eq_none (by
  have g:=(JL w a ep es).length_eq;simp at g;omega)
 rw[x];dsimp only[Option.map_none];refine ck (wpAny_setField h H (by simp) ?_)
 show wpAny _ _ (newExc (.type "StopIteration") [] >>= _) _ _ _;refine ck ?_;simp only[newExc,newTuple];refine ck (wpAny_newObj_type ?_ (by size_fits))
 refine ck (m:=firstArgMember _ _) (wpAny_of_eq (a:=Value.none) (by first|rfl|(simp only[firstArgMember];rfl)) ?_)
 refine wpAny_newObj_type ?_ (by size_fits)
 simp only[raiseNew];refine ck (wpAny_handled ?_)
 first|rw[show A.in1.handled=none from d]|rw[d]
 refine ck (cm (wpAny_throw ?_));refine ck (wpAny_isInstance (T := "StopIteration") (b:=true) ⟨_,aw _ rfl,rfl⟩ isSubtype_stop ?_);exact cm (f _ (((Heap.SameBut.update ..).extBut.push _).push _))
end
def Qm.typeIs {I S:Addr}{t e:Nat}(h:Qm s.heap I S t i n e):s.TypeIs (.ref I) "set_iterator":=let ⟨o,H,c,_⟩:=h;⟨o,H,c⟩
section
variable {prog:Program}{A:Around}{o:Obj}{es:Array (Int×Value)}{ep:Nat}
def N6 {I S:Addr}{t m e:Nat}(H:Qm s.heap I S t i m e)(h:Q (.ref I) s):wpAny (model prog w) A (pyIter (.ref I)) Q E s:=by
 refine wpAny_pyIter_slot H.typeIs F.Uc (wpAny_call_entry F.Uc H.typeIs F.NY ?_ (F.NX _));show wpAny _ _ (ret (.ref I)) _ _ s;exact cm ⟨_,rfl,"set_iterator",_,H.typeIs,F.QY.lookup,h⟩
def Walks.setP (q:A.handled=none)(I a:Addr)(g:a≠I)(t:o.ExactSet)(B:o.data=.set es ep (qT (qY w) n))(z:jf es.toList (zY n))(y:n<256):
  Walks prog w A I [I,a] [I] es.size (λi v=>∃e,(yG w a ep es)[i]? =some e/\v=e.2) (λi h=>Qm h I a (kL w n i) i es.size ep/\h.get? a=some o) where
 sub:=λb H=>by simp at H;simp[H]
 frame:=λ_ _ _ S p=>⟨let ⟨x,D,r⟩:=S.1;⟨x,p I (by simp) x D,r⟩,p a (by simp) o S.2⟩
 item:=λi s Q E J S f=>by
  have C:(yG w a ep es).size=es.size:=by have:=(JL w a ep es).length_eq;simpa using this
  have l:(yG w a ep es)[i]? =some ((yG w a ep es)[i]'(by omega)):=Array.getElem?_eq_getElem (by omega)
  refine NZ S.1 S.2 t B z y l λu d c=>?_;refine f _ u s.toks ⟨_,l,rfl⟩ ⟨d,?_⟩ λb o H e=>c.extBut b o (λh=>H (by simp[h])) e
  exact c.extBut a o g S.2
 done:=λs Q E S f=>N1 q S.1 S.2 t B z y λu j=>f u s.toks λb o H e=>j b o (λh=>H (by simp[h])) e
 self:=λ_ _ _ _ S f=>N6 S.1 f
def Hn:typeLookup (.type "set") "__len__"=pure (some (.builtin "set.__len__")):=by rw[typeLookup_type,builtinLookup_eq_fast];kernel_rfl
def Mb {Q:List Value->Shared->Prop}(Y:A.handled=none)(C:s.heap.get? a=some o)(hex:o.ExactSet)(hd:o.data=.set es ep (qT (qY w) n))(he:jf es.toList (zY n))(hn:n<256)
  (hQ:∀(h':Heap)(tk:Nat),(∀b o,b<s.heap.objs.size->s.heap.get? b=some o->h'.get? b=some o)->s.heap.objs.size<=h'.objs.size->Q ((yG w a ep es).toList.map (·.2)) { s with heap:=h',toks:=tk }):
  wpAny (model prog w) A (collect (.ref a)) Q E s:=by
 have Z:s.TypeIs (.ref a) "set":=⟨o,C,hex.1⟩;have t:a<s.heap.objs.size:=aG C;unfold collect;refine ck (wpAny_runValue (codeAny_builtin PySem.F.entry_proto_collect ?_));rw[Around.under_plainId PySem.F.plain_proto_collect _];show wpAny _ A.in1 (newList [] >>= λl=>again (.builtin "list.__iadd__" ⟨[l,.ref a],[]⟩)) _ _ s;refine ck (wpAny_newObj_type ?_);refine cm ⟨plainId_quiet PySem.F.plain_list_iadd _,codeAny_builtin PySem.F.entry_list_iadd ?_⟩;rw[Around.under_plainId PySem.F.plain_list_iadd _];show wpAny _ A.in1 (Builtin.List.listExtendWith (.ref s.heap.objs.size) (.ref a) (.ref s.heap.objs.size)) _ _ _;have d:(s.heap.push { cls:=.type "list",data:=.seq ([]:bS).toArray }).get? a=some o:=af _ C;have hT:Shared.TypeIs { s with heap:=s.heap.push { cls:=.type "list",data:=.seq ([]:bS).toArray } } (.ref a) "set":=⟨o,d,hex.1⟩
 unfold Builtin.List.listExtendWith;refine ck (wpAny_typeOf hT ?_);have h1:Builtin.List.listSameRef (.ref s.heap.objs.size) (.ref a)=false:=by simp[Builtin.List.listSameRef];exact br t
 have P:(Value.type "set" == Value.type "list")=false:=by decide
 have N:(Value.type "set" == Value.type "tuple")=false:=by decide
 simp only[h1,P,N,Bool.or_false,a8,if_false];refine ck (Mq d hex hd he hn ?_);refine ck (wpAny_holding ?_);unfold Builtin.List.listLengthHint;generalize y:s.heap.push { cls:=.type "list",data:=.seq ([]:bS).toArray }=H;have i:H.objs.size=s.heap.objs.size+1:=by rw[<- y,bc]
 have q:H.get? a=some o:=by rw[<- y];exact d
 have M:H.get? s.heap.objs.size=some { cls:=.type "list",data:=.seq ([]:bS).toArray }:=by rw[<- y];exact aw _ rfl
 generalize g:({ cls:=.type "set_iterator",data:=.fields #[.int 0 0,.int 0 0,.ref a,.int es.size 0,.int ep 0] }:Obj)=io;have f:Shared.TypeIs { s with heap:=H.push io } (.ref a) "set":=⟨o,af _ q,hex.1⟩
 have J:(H.push io).get? H.objs.size=some io:=aw _ (by rw[<- g];rfl)
 refine ck (wpAny_specialOf f Hn ?_)
 wp_delta
 refine ck (wpAny_isInstance (b:=true) f (by rw[isSubtype_type];kernel_rfl) ?_)
 show wpAny _ A.in1 (typeOf (Value.ref a) >>= _) _ _ _;refine ck (wpAny_typeOf f ?_);refine cm ?_;show wpAny _ A.in1 (rule "list.extend.makes-room" >>= λ_=>Builtin.List.listTouch (.ref s.heap.objs.size) >>= λ_=>
  again (.builtin "list.extend.loop" ⟨[.ref s.heap.objs.size,.ref H.objs.size,.ref s.heap.objs.size],[]⟩)) _ _ _
 refine ck (wpAny_rule ?_);have u:(H.push io).get? s.heap.objs.size=some { cls:=.type "list",data:=.seq ([]:bS).toArray }:=af _ M;refine ck ?_;show wpAny _ A.in1 (updateSeq s.heap.objs.size (·.push .none) >>= λ_=>updateSeq s.heap.objs.size (·.pop)) _ _ _;refine ck (wpAny_updateSeq u rfl ?_);have r:=ba (Obj.mapSeq (·.push Value.none)) u rfl;refine wpAny_updateSeq r rfl ?_;have L:=ba (Obj.mapSeq (·.pop)) r rfl;have oth:∀b o,b≠s.heap.objs.size->(H.push io).get? b=some o->(((H.push io).update s.heap.objs.size (Obj.mapSeq (·.push Value.none))).update s.heap.objs.size (Obj.mapSeq (·.pop))).get? b=some o:=
  λb o p e=>(aS _ _ (Ne.symm p)).trans ((aS _ _ (Ne.symm p)).trans e)
 have D:a≠H.objs.size:=by rw[i];exact aJ (aZ t)
 have x:H.objs.size≠s.heap.objs.size:=by rw[i];exact Nat.succ_ne_self _
 have S:a≠s.heap.objs.size:=aJ t;have W:=(Walks.setP (prog:=prog) (w:=w) (A:=A.in1) (by simp[Y]) H.objs.size a D hex hd he hn).toS
 have K:s.heap.objs.size∉[H.objs.size,a]:=λhm=>by
  rcases cn.mp hm with z|hm
  ·exact x z.symm
  ·exact S (cx.mp hm).symm
 have hlen:es.size=(zY n).length:=by rw[<- aQ,he.length]
 have h8:=Jj n;refine cm ⟨plainId_quiet PySem.F.plain_extend_loop _,codeAny_extend_loopS W (by rw[sizeLine_eq];omega) _ K _ es.size 0 _ _ _ rfl (bG _) ⟨?_,oth a o S (af _ q)⟩ L (ItemsOf.nil _) λs' c c' hm v h=>?_⟩
 ·refine⟨io,oth _ _ x J,by rw[<- g],?_⟩
  rw[<- g]
  have:kL w n 0=0:=by unfold kL Yj;split<;>rfl
  rw[this]
  rfl
 show wpAny _ A (load s.heap.objs.size >>= _) _ _ s';refine ck (wpAny_load v ?_);have X:c.toList=(yG w a ep es).toList.map (·.2):=by
  have hsz:(yG w a ep es).size=es.size:=by have:=(JL w a ep es).length_eq;simpa using this
  apply ext_getElem?
  intro j
  by_cases U:j<es.size
  ·have h1:c[j]? =some (c[j]'(by rw[h.1];exact U)):=Array.getElem?_eq_getElem (by rw[h.1];exact U)
   obtain⟨e,P,N⟩:=h.2 j _ h1;rw[bC,h1,ax,bC,P,N]
   rfl
  ·rw[aH (by rw[aQ,h.1];omega),aH (by rw[ag,aQ,hsz];omega)]
 show wpAny _ A (pure c.toList) _ _ s';rw[X];obtain⟨h',g',d',T,B⟩:=s';have e1:g'=s.gens:=hm.gens;have e2:d'=s.drawn:=hm.drawn;have e3:B=s.os:=hm.os;subst e1 e2 e3;refine cm (hQ h' T (λb ob p e=>?_) ?_)
 ·refine hm.heap b ob (λI=>?_) (oth b ob (aJ p) (af _ (by rw[<- y];exact af _ e)))
  rcases cn.mp I with z|z
  ·exact aJ p z
  ·exact aJ (aZ p) ((cx.mp z).trans i)
 ·exact bB (aG (show h'.get? s.heap.objs.size=_ from v))
end
theorem T7:∀{a b:bR},a.Perm b->a.Pairwise (·<=·)->b.Pairwise (·<=·)->a=b
 |[],b,p,_,_=>by rw[List.nil_perm.mp p]|x::a,[],p,_,_=>absurd p.length_eq (by simp)|x::a,y::b,p,H,h=>by
  have d:x∈y::b:=p.mem_iff.mp (aq ..);have c:y∈x::a:=p.mem_iff.mpr (aq ..);have e:x=y:=by
   rcases cn.mp d with e|e
   ·exact e
   ·rcases cn.mp c with E|E
    ·exact E.symm
    ·have g:=(List.pairwise_cons.mp h).1 x e
     have f:=(List.pairwise_cons.mp H).1 y E;omega
  subst e;rw[T7 (List.Perm.cons_inv p) (List.pairwise_cons.mp H).2 (List.pairwise_cons.mp h).2]
def Aa (n v i:Nat):(jn n v).testBit i=(n.testBit i || decide (i=v)):=by
 unfold jn
 by_cases h:n.testBit v=true
 ·rw[ah h]
  by_cases e:i=v
  ·subst e;simp[h]
  ·simp[e]
 ·rw[ai h]
  unfold jh;rw[Nat.testBit_or,Nat.one_shiftLeft,Nat.testBit_two_pow]
  congr 1
  by_cases e:v=i
  ·subst e;simp
  ·simp[e,Ne.symm e]
theorem Ra (i:Nat):∀(s:bV)(n:Nat),(s.foldl jn n).testBit i=(n.testBit i || decide (i∈s))
 |[],n=>by simp|v::s,n=>by
  rw[bH,Ra i s,Aa]
  by_cases e:i=v
  ·simp[e]
  ·simp[e]
def Sx (v:bV):zY (v.foldl jn 0)=(List.range 8).filter λi=>decide (i∈v):=by
 unfold zY
 congr 1
 funext i
 rw[Ra];simp
def Fm (n:Nat):((zY n).map λ(i:Nat)=>(i:Int)).Pairwise (·<=·):=by
 rw[bM];unfold zY;refine List.Pairwise.imp ?_ (List.Pairwise.filter _ List.pairwise_lt_range);intro a b h;omega
def jf.snd (h:jf es vs):∀e∈es,∃tk,e.2=.int e.1 tk:=by
 induction h with
 |nil=>intro e H;cases H|cons v tk h i=>
  intro e H;rcases cn.mp H with rfl|H
  ·exact⟨tk,rfl⟩
  ·exact i e H
theorem UE:∀{l:List (Int×Value)},(∀e∈l,∃tk,e.2=.int e.1 tk)->IntsAre (l.map (·.2)) (l.map (·.1))
 |[],_=>.nil|e::l,h=>by
  obtain⟨tk,a⟩:=h e (aq ..);rw[aK,aK,a];exact .cons _ tk (UE λx H=>h x (ak _ H))
section
variable {prog:Program}{A:Around}{o:Obj}{es:Array (Int×Value)}{ep:Nat}
def Hk (t:A.handled=none)(S:jI s.heap a (qY w) n)
  (h:∀(M:Heap)(T:Nat)(l:Addr)(I:bS)(c:Nat),s.heap.objs.size<=l->M.get? l=some { cls:=.type "list",data:=.seq I.toArray c }->IntsAre I ((zY n).map λ(i:Nat)=>(i:Int))->
   (∀b o,s.heap.get? b=some o->M.get? b=some o)->Q (.ref l) { s with heap:=M,toks:=T }):
  wpAny (model prog w) A (call (.builtin "sorted") [.ref a]) Q E s:=by
 obtain⟨o,d,p,r,K,Z,J,X⟩:=S;refine Calls.call_function_entry kind_sorted plain_sorted entry_sorted (args_sorted1 _) ?_;unfold Builtin.«sorted»;refine ck (m:=checkCount "sorted" 1 1 _) (cm ?_);refine ck (Mb (by simp[t]) r K Z J X λB T kp D=>?_)
 have f:=JL w a p d;have j:IntsAre ((yG w a p d).toList.map (·.2)) ((yG w a p d).toList.map (·.1)):=UE λe Y=>J.snd e (f.mem_iff.mp Y);have H:((yG w a p d).toList.map (·.1)).Perm ((zY n).map λ(i:Nat)=>(i:Int)):=by
  rw[<- J.map1];exact f.map _
 have C:((yG w a p d).toList.map (·.2)).length<=8:=by
  rw[ag,f.length_eq,J.length];exact Jj n
 generalize (yG w a p d).toList.map (·.2)=vs at j C;generalize (yG w a p d).toList.map (·.1)=ns at j H;refine ck (wpAny_newList ?_);have L:(B.push (seqObj "list" vs.toArray 0)).get? B.objs.size=some (seqObj "list" vs.toArray 0):=aw _ rfl;show wpAny _ _ _ _ _ { s with heap:=B.push (seqObj "list" vs.toArray 0),toks:=T }
 refine ck (wpAny_holding (wpAny_call_entry slot_list_sort ⟨_,L,rfl⟩ entry_list_sort (list_sort_tree L j (by omega) λz N a1 a2 y=>⟨_,rfl,?_⟩) (args_list_sort _)))
 have g:N=(zY n).map λ(i:Nat)=>(i:Int):=T7 (a2.trans H) y (Fm n);subst g;refine cm ⟨_,rfl,?_⟩;have x:=get?_update_seq L (λ_=>(#[]:Array Value));have v:=af (seqObj "list" #[] 0) (af (seqObj "tuple" vs.toArray 0) x);obtain⟨c,u⟩:∃c,(sortedHeap (B.push (seqObj "list" vs.toArray 0)) B.objs.size vs z).get? B.objs.size=some (seqObj "list" z c):=⟨_,get?_update_seq v (λ_=>z)⟩;refine h _ T B.objs.size z.toList c D ?_ a1 λb ob e=>?_
 ·rw[Array.toArray_toList]
  exact u
 ·have q:b<s.heap.objs.size:=aG e
  have U:=kp b ob q e;have P:B.objs.size≠b:=br (aF q D);unfold sortedHeap;refine(aS _ _ P).trans ?_;refine af _ (af _ ?_);exact(aS _ _ P).trans (af _ U)
end
section
variable {m:Ev}
def hE (K:Frag)(w:World):List V->Hp->VK->Prop:=λx H Q=>∃(p:Addr) (vs:bV),x=[.ref p]/\qI K H p (vs.map λ(v:Nat)=>V.int (v:Int))/\(∀v∈vs,v<8)/\∀l,H l=none->Q (.ref l) (upd H l (.ext λh=>jI h l (qY w) (vs.foldl jn 0)))
def FN (l:X.calm=true):jH X (.type "set") (hE X.K X.w):=by
 intro P s D H J U Q I r h;obtain⟨p,C,rfl,g,n,q⟩:=h;obtain⟨u,rfl,d⟩:=vals1 r;cases d;obtain⟨i,c,⟨o,k,x,t,B,E⟩,_⟩:=I.list g;have f:Vals ((C.map λ(v:Nat)=>(v:Int)).map V.int) i:=by rw[aU];exact c
 refine Lb (I.ok.hd l) ⟨o,x,t,k,E⟩ (intsAre_of f) n λM T S kp=>?_;refine⟨.ref s.heap.objs.size,_,I.laid (t':=T) (o:=.ext λh=>jI h s.heap.objs.size (qY X.w) (C.foldl jn 0)) (λb o e=>kp b o (aG e) e) (ar _) ⟨S,?_,λL y a b=>a.keep b⟩,rfl,q _ (I.hok.fresh (ar _))⟩;obtain⟨o,z,A,j,_⟩:=S;exact⟨o,j⟩
theorem JO:∀{N:bR}{i:bS},IntsAre i N->Vals (N.map V.int) i
 |_,_,.nil=>.nil|_,_,.cons n t h=>.cons ⟨t,rfl⟩ (JO h)
def U6 (f:X.calm=true):jH X (.builtin "sorted") (λxs H Q=>∃(p:Addr) (n:Nat),xs=[.ref p]/\H p=some (.ext λh=>jI h p (qY X.w) n)/\∀l,H l=none->Q (.ref l) (upd H l (.lst ((zY n).map λ(v:Nat)=>V.int (v:Int))))):=by
 intro P s x H xs U Q I r h;obtain⟨p,n,rfl,e,q⟩:=h;obtain⟨u,rfl,d⟩:=vals1 r;cases d;have S:jI s.heap p (qY X.w) n:=(show qQ X.prog X.w H s.heap p (.ext λh=>jI h p (qY X.w) n) from I.hok p _ e).1
 refine Hk (I.ok.hd f) S λy t l i c b g j kp=>?_;have a:=JO j;rw[aU]at a;refine⟨.ref l,_,I.laid (t':=t) (o:=.lst ((zY n).map λ(v:Nat)=>V.int (v:Int))) kp b ⟨?_,i,c,a,g⟩,rfl,q _ (I.hok.fresh b)⟩;rw[ag,sizeLine_eq]
 have:=Jj n
 omega
noncomputable def gH:List Int->Option (bV)
 |[]=>some []|i::is=>if 0<=i/\i<8 then(gH is).map (i.toNat::·) else none
theorem GR:∀{I:bR}{s:bV},gH I=some s->I=s.map (λ(v:Nat)=>(v:Int))/\∀v∈s,v<8
 |[],_,e=>by cases e;exact⟨rfl,λv H=>by cases H⟩|i::I,s,e=>by
  unfold gH at e
  by_cases h:0<=i/\i<8
  ·rw[ah h]at e
   cases E:gH I with
   |none=>rw[E]at e;cases e|some u=>
    rw[E]at e;cases e;obtain⟨b,a⟩:=GR E;refine⟨?_,λv H=>?_⟩
    ·rw[aK,<- b,bK h.1]
    ·rcases cn.mp H with rfl|H
     ·omega
     ·exact a v H
  ·rw[ai h]at e;cases e
def GY:W->Hx->R W:=λw A=>match w with
 |.ref n=>match A[n]? with
  |some (.lst ws)=>match intsOf ws with
   |some I=>match gH I with
    |some v=>.ok (.ref A.length) (A++[.lst (((List.range 8).filter λi=>decide (i∈v)).map λ(i:Nat)=>W.int (i:Int))])|none=>.bad
   |none=>.bad
  |_=>.bad
 |_=>.bad
def Ki (m:Ev):Ev:=λa A=>(m a A).bind λw b=>GY w b
end
def FT (a b:Value):argsOk "sum" ⟨[a,b],[]⟩:=by unfold argsOk;kernel_rfl
def sub_list_str:isSubtype (.type "list") (.type "str")=pure false:=by rw[isSubtype_type];kernel_rfl
def sub_list_bytes:isSubtype (.type "list") (.type "bytes")=pure false:=by rw[isSubtype_type];kernel_rfl
def sub_list_bytearray:isSubtype (.type "list") (.type "bytearray")=pure false:=by rw[isSubtype_type];kernel_rfl
noncomputable abbrev wk (x:Array Value)(c:Nat):Obj:={ cls:=.type "list",dict:=none,data:=.seq x c,slots:=#[] }
section
variable {prog:Program}{A:Around}{R:Result->Shared->Prop}{I:Addr}{wr:bT}{G:Array GenState->Array GenState->Prop}{P:Nat->Value->Prop}{St:Nat->Shared->Prop}
def Fp (W:WalksS prog w A.in1 I fp wr G n P St)(S B:Addr)(z:S∉fp)(hBS:B<=S)(ad:Nat->Addr)(a:Nat->List Value)(q:∀i v,P i v->v=.ref (ad i))(g:∀i,i<n->ad i≠S/\ad i∉wr)(Z:∀b∈wr,b<S):
  ∀(k i:Nat)(s:Shared)(T:Addr)(c M:Nat)(acc:bS),n-i=k->i<=n->St i s->s.heap.get? S=some (wk #[.ref T] c)->T≠S->T∉wr->s.heap.get? T=some (wk acc.toArray M)->
   (∀j,i<=j->j<n->∃cj,s.heap.get? (ad j)=some (wk (a j).toArray cj))->(acc++(((List.range' i k).map a).flatten)).length<=sizeLine->
   (∀s' Q c',Moved (S::wr) G s s'->s'.heap.get? Q=some (wk (acc++(((List.range' i k).map a).flatten)).toArray c')->((k=0/\Q=T)∨B<=Q)->R (.ok (.ret (.ref Q))) s')->
   codeAny (model prog w) A (.builtin "sum.loop" ⟨[.ref I,.ref S,rawInt 2,rawInt 0],[]⟩) R s:=by
 have hSw:S∉wr:=λh=>z (W.sub _ h);have d:∀b∈wr,b∈S::wr:=λb f=>ak _ f;intro k
 induction k with
 |zero=>
  intro i s T c M acc hk hi t K hTS p hT hl J L;have hin:i=n:=by omega
  subst hin;refine codeAny_builtin PySem.F.entry_sum_loop ?_;rw[Around.under_plainId plain_sum_loop _];show wpAny _ A.in1 (seqItems? (.ref S) >>= _) _ _ s;refine ck (wpAny_seqItems K rfl ?_);show wpAny _ A.in1 (tryCatch (pyNext (.ref I)) _ >>= _) _ _ s;refine ck (wpAny_tryCatch (W.done s _ _ t λs' hm=>?_));refine cm (L s' T M (hm.mono d) ?_ (.inl ⟨rfl,rfl⟩))
  have:=hm.heap T _ p hT
  simpa using this
 |succ k ih=>
  intro i s T c M acc hk hi t K hTS p hT hl J L;have H:i<n:=by omega
  refine codeAny_builtin PySem.F.entry_sum_loop ?_;rw[Around.under_plainId plain_sum_loop _];show wpAny _ A.in1 (seqItems? (.ref S) >>= _) _ _ s;refine ck (wpAny_seqItems K rfl ?_);show wpAny _ A.in1 (tryCatch (pyNext (.ref I)) _ >>= _) _ _ s;refine ck (wpAny_tryCatch (W.item i s _ _ H t λv s' hP r hm=>?_));have hv:=q i v hP;subst hv;have E:=hm.heap S _ hSw K;have hT':=hm.heap T _ p hT;obtain⟨ci,hli⟩:=hl i (ar _) H;have x:=hm.heap (ad i) _ (g i H).2 hli;rw[range'_succ,aK,aO,<- aR]at J L;have Y:(acc++a i).length<=sizeLine:=by rw[aj]at J;omega
  show wpAny _ A.in1 ((holding [Value.ref (ad i)] (binaryOp .Add (.ref T) (.ref (ad i)))).attempt >>= _) _ _ _;refine ck (wpAny_attempt (wpAny_holding (PySem.P.add_list hT' x ?_ (by rw[az,az,<- aj];exact Y))))
  have ea:acc.toArray++(a i).toArray=(acc++a i).toArray:=by simp
  rw[ea];have l:S<s'.heap.objs.size:=aG E;have D:=af (wk (acc++a i).toArray 0) E;have hN1:(s'.heap.push (wk (acc++a i).toArray 0)).get? s'.heap.objs.size=some (wk (acc++a i).toArray 0):=aw _ rfl;show wpAny _ A.in1 (updateSeq S (λ_=>#[.ref s'.heap.objs.size]) >>= _) _ _ _;refine ck (wpAny_updateSeq D rfl ?_);have C:=ba (Obj.mapSeq λ_=>#[Value.ref s'.heap.objs.size]) D rfl;refine ck (wpAny_letGo ?_);have N:s'.heap.objs.size≠S:=br l;have oth:∀b o,b≠S->s'.heap.get? b=some o->(((s'.heap.push (wk (acc++a i).toArray 0)).update S (Obj.mapSeq λ_=>#[Value.ref s'.heap.objs.size])).update S (Obj.mapSeq λ_=>#[Value.ref s'.heap.objs.size])).get? b=some o:=
   λb o f e=>(aS _ _ (Ne.symm f)).trans ((aS _ _ (Ne.symm f)).trans (af _ e))
  have X:s'.heap.objs.size∉wr:=λhm2=>aV _ (lt_trans (Z _ hm2) l);refine ck (wpAny_updateSeq C rfl (cm ⟨plainId_quiet plain_sum_loop _,ih (i+1) _ s'.heap.objs.size _ 0 (acc++a i) (by omega) H (W.frame _ s' _ _ r (by first|exact ar _|exact le_succ _|omega) λb f o e=>oth b o (λh=>z (h ▸ f)) e) (ba _ C rfl) N X ?_ ?_ J λU T'' c'' u y hor=>?_⟩))
  ·exact(aS _ _ (Ne.symm N)).trans ((aS _ _ (Ne.symm N)).trans hN1)
  ·intro j h1 h2
   obtain⟨cj,hj⟩:=hl j (by omega) h2
   exact⟨cj,oth _ _ (g j h2).1 (hm.heap _ _ (g j h2).2 hj)⟩
  ·refine L U T'' c'' (Moved.trans W.gtrans ((hm.mono d).then_heap (by first|exact ar _|exact le_succ _|omega) λb o f e=>oth b o (λh=>f (by rw[h];exact aq)) e) u) y (.inr ?_)
   rcases hor with ⟨_,rfl⟩|h
   ·exact bB (Nat.lt_of_le_of_lt hBS l)
   ·exact h
def ED {p q:Addr}{N:Nat}{a:bT}{itss:List (bS)}(hh:A.handled=none)(y:s.heap.IsList p (a.map Value.ref).toArray)(S:s.heap.get? q=some (wk #[] N))
  (hlen:a.length=itss.length)(U:∀i,i<a.length->∃c,s.heap.get? (a.getD i 0)=some (wk (itss.getD i []).toArray c))(C:a≠[])(Y:itss.flatten.length<=sizeLine)
  (h:∀(h':Heap)(tk:Nat)(l:Addr)(c:Nat),s.heap.objs.size<=l->h'.get? l=some (wk itss.flatten.toArray c)->(∀b o,s.heap.get? b=some o->h'.get? b=some o)->Q (.ref l) { s with heap:=h',toks:=tk }):
  wpAny (model prog w) A (call (.builtin "sum") [.ref p,.ref q]) Q E s:=by
 refine call_function_tree PySem.F.kind_sum PySem.F.plain_sum PySem.F.entry_sum (FT _ _) ?_;unfold Builtin.«sum»;simp only[aL,bg];rw[ai (by decide)]
 refine ck (wpAny_of_eq (show Builtin.Builtins.bindParams "sum" ["start"] 0 ⟨[.ref q],[]⟩=pure [some (.ref q)] from rfl) ?_)
 refine ck (wpAny_pyIter_list y ?_);refine ck (cm ?_);generalize d:({ cls:=.type "list_iterator",data:=.fields #[.ref p,.int 0 0] }:Obj)=io;have n:(s.heap.push io).get? q=some (wk #[] N):=af _ S;have hT:Shared.TypeIs { s with heap:=s.heap.push io } (.ref q) "list":=⟨_,n,rfl⟩
 simp only[forIn_cons,forIn_nil];refine ck (ck (ck (wpAny_isInstance (b:=false) hT sub_list_str ?_)));simp only[a8,if_false];refine cm (ck (ck (wpAny_isInstance (b:=false) hT sub_list_bytes ?_)));simp only[a8,if_false];refine cm (ck (ck (wpAny_isInstance (b:=false) hT sub_list_bytearray ?_)));simp only[a8,if_false];refine cm (cm ?_);refine ck (wpAny_newObj_type ?_);have sz:(s.heap.push io).objs.size=s.heap.objs.size+1:=bc ..;have g:p<s.heap.objs.size:=by obtain⟨o,e,_⟩:=y;exact aG e
 have f:q<s.heap.objs.size:=aG S;have ltI:s.heap.objs.size<(s.heap.push io).objs.size:=by rw[sz];exact bo _
 have L:∀b,b<s.heap.objs.size->b<(s.heap.push io).objs.size:=λb I=>lt_trans I ltI;have W:=(Walks.list (prog:=prog) (w:=w) (A:=A.in1) (by simp[hh]) s.heap.objs.size p (aJ g) (a.map Value.ref).toArray).toS
 have M:(a.map Value.ref).toArray.size=a.length:=by simp
 rw[M]at W;have J:(s.heap.push io).objs.size∉[s.heap.objs.size,p]:=λhm=>by
  rcases cn.mp hm with z|hm
  ·exact br ltI z
  ·exact br (L p g) (cx.mp hm)
 have t:∀i,i<a.length->a.getD i 0<s.heap.objs.size:=λi hi=>by obtain⟨c,e⟩:=U i hi;exact aG e
 have K:(s.heap.push io).get? s.heap.objs.size=some io:=aw _ (by rw[<- d];rfl)
 have H:((List.range' 0 a.length).map λj=>itss.getD j []).flatten=itss.flatten:=by
  congr 1
  rw[hlen]
  apply bq
  ·simp
  ·intro i h1 h2
   simp[ae,aa h2]
 refine cm ⟨plainId_quiet plain_sum_loop _,Fp W (s.heap.push io).objs.size s.heap.objs.size J (bB ltI) (λi=>a.getD i 0) (λi=>itss.getD i []) (λi v e=>?_) (λi hi=>⟨aJ (L _ (t i hi)),λhm=>?_⟩) (λb I=>?_)
  a.length 0 _ q 0 N [] (by omega) (bG _) ⟨⟨io,af _ K,by rw[<- d],by rw[<- d];rfl⟩,(y.push _).push _⟩ (aw _ rfl) (aJ (L q f)) (λhm=>?_) (af _ n) (λj _ Z=>?_) ?_ λs' X c' hm r B=>?_⟩
 ·have hi:i<a.length:=by
   have:=(Array.getElem?_eq_some_iff.mp e).1
   simpa using this
  have u:(a.map Value.ref)[i]? =some v:=by simpa using e
  rw[ax,aa hi]at u;rw[ae,aa hi];exact(aB u).symm
 ·exact aJ (t i hi) (cx.mp hm)
 ·rw[cx.mp I];exact ltI
 ·exact aJ f (cx.mp hm)
 ·obtain⟨c,e⟩:=U j Z
  exact⟨c,af _ (af _ e)⟩
 ·rw[nil_append,H];exact Y
 ·rw[nil_append,H]at r
  have hB:s.heap.objs.size<=X:=by
   rcases B with ⟨h0,_⟩|h0
   ·exact absurd (List.length_eq_zero_iff.mp h0) C
   ·exact h0
  obtain⟨h',g',d',T,x⟩:=s';have e1:g'=s.gens:=hm.gens;have u:d'=s.drawn:=hm.drawn;have e3:x=s.os:=hm.os;subst e1 u e3;refine h h' T X c' hB r λb o e=>hm.heap b o (λD=>?_) (af _ (af _ e));have P:b<s.heap.objs.size:=aG e;rcases cn.mp D with z|z
  ·exact aJ (L b P) z
  ·exact aJ P (cx.mp z)
end
section
variable {K:Frag}
def OV (K:Frag):List V->Hp->VK->Prop:=λx H Q=>∃(p q:Addr) (ls:List (Addr×List V)),x=[.ref p,.ref q]/\H p=some (.lst (ls.map λl=>V.ref l.1))/\H q=some (.lst [])/\(∀l∈ls,H l.1=some (.lst l.2))/\ls≠[]/\(ls.map (·.2)).flatten.length<=zR/\
 ∀l,H l=none->Q (.ref l) (upd H l (.lst (ls.map (·.2)).flatten))
theorem Sn:∀{L:List (Addr×List V)}{u:bS},Vals (L.map λl=>V.ref l.1) u->u=(L.map (·.1)).map Value.ref
 |[],_,h=>by cases h;rfl|l::L,_,h=>by
  cases h with
  |cons r t=>cases r;rw[Sn t];rfl
def Fy (U:X.calm=true):jH X (.builtin "sum") (OV X.K):=by
 intro l0 s σ H xs us Q I r h;obtain⟨p,q,ls,rfl,P,N,S,j,z,k⟩:=h;obtain⟨u,v,rfl,A,y⟩:=Vals.two r;cases A;cases y;obtain⟨_,E,np,C,_,Y⟩:=I.lstM P;obtain⟨_,g,nq,B,lq,eq⟩:=I.lstM N;have b:g=[]:=by cases B;rfl
 subst b;have d:=Sn C;subst d;have hex:∀L:List (Addr×List V),(∀l∈L,H l.1=some (.lst l.2))->∃itss:List (bS),itss.length=L.length/\(∀i,i<L.length->∃c,s.heap.get? ((L.map (·.1)).getD i 0)=some (wk (itss.getD i []).toArray c))/\Vals (L.map (·.2)).flatten itss.flatten:=by
  intro L
  induction L with
  |nil=>intro _;exact⟨[],rfl,λi hi=>absurd hi (Nat.not_lt_zero _),.nil⟩|cons l L J=>
   intro hm;obtain⟨itss,h1,w,f⟩:=J λx M=>hm x (ak _ M);obtain⟨_,it,n,D,_,Z⟩:=I.lstM (hm l (aq ..));refine⟨it::itss,by simp[h1],λi hi=>?_,?_⟩
   ·cases i with
    |zero=>exact⟨n,Z⟩|succ i=>exact w i (by simpa using hi)
   ·rw[aK,aO,aO]
    exact D.append f
 obtain⟨itss,h1,w,f⟩:=hex ls S;have t:itss.flatten.length=(ls.map (·.2)).flatten.length:=f.length.symm;refine ED (I.ok.hd U) (itss:=itss) ⟨_,Y,rfl,np,rfl⟩ eq (by simp[h1]) (λi hi=>w i (by simpa using hi)) (λe=>j (List.map_eq_nil_iff.mp e)) (by rw[t];exact Zg z) λh' tk l c a T kp=>?_
 exact⟨.ref l,_,I.laid (t':=tk) (o:=.lst (ls.map (·.2)).flatten) kp a ⟨Zg z,itss.flatten,c,f,T⟩,rfl,k _ (I.hok.fresh a)⟩
noncomputable def wA (A:Hx):List W->Option (List (List W))
 |[]=>some []|.ref k::us=>match A[k]? with
  |some (.lst ws)=>(wA A us).map (ws::·)|_=>none
 |_::_=>none
def Zr:W->W->Hx->R W:=λx y A=>match x,y with
 |.ref n,.ref k=>match A[n]?,A[k]? with
  |some (.lst us),some (.lst [])=>match wA A us with
   |some w=>if us≠[]/\w.flatten.length<=zR then .ok (.ref A.length) (A++[.lst w.flatten]) else .bad|none=>.bad
  |_,_=>.bad
 |_,_=>.bad
def AX:∀x y A,qB (Zr x y A):=λx y A=>by
 unfold Zr
 split
 ·split
  ·split
   ·exact w6 jG qD
   ·exact qD
  ·exact qD
 ·exact qD
theorem zr.app:∀{s u:List W}{x y:List V},zr K φ H s x->zr K φ H u y->zr K φ H (s++u) (x++y)
 |[],_,_,_,h,a=>by cases h;exact a|w::s,_,_,_,⟨v,r,e,h,t⟩,a=>by subst e;exact⟨v,_,rfl,h,zr.app t a⟩
theorem Tz (S:zF K φ A H):∀{U:List W}{w:List (List W)}{s:List V},wA A U=some w->zr K φ H U s->∃ls:List (Addr×List V),s=ls.map (λl=>V.ref l.1)/\(∀l∈ls,H l.1=some (.lst l.2))/\zr K φ H w.flatten (ls.map (·.2)).flatten/\ls.length=U.length
 |[],_,_,e,h=>by cases e;cases h;exact⟨[],rfl,λl a=>(by cases a),rfl,rfl⟩|u::U,w,_,e,⟨v,r,n,h,t⟩=>by
  subst n;cases u with
  |ref k=>
   unfold wA at e;cases E:A[k]? with
   |none=>rw[E]at e;cases e|some o=>cases o with
    |lst q=>
     rw[E]at e;dsimp only at e;cases b:wA A U with
     |none=>rw[b]at e;cases e|some c=>
      rw[b]at e;cases e;obtain⟨p,x,rfl,_,f,d⟩:=S.lst h E;obtain⟨ls,rfl,j,i,g⟩:=Tz S b t;refine⟨(p,x)::ls,rfl,λl a=>?_,zr.app d i,by simp[g]⟩
      rcases cn.mp a with rfl|a
      ·exact f
      ·exact j l a
    |_=>rw[E]at e;cases e
  |_=>cases e
def CK:jZ K (λx y=>OV K [x,y]) Zr:=λJ A H x y u v Q S g q p=>by
 unfold Zr at p;cases u with
 |ref n=>cases v with
  |ref k=>
   dsimp only at p;cases E:A[n]? with
   |none=>rw[E]at p;exact p.elim|some o=>cases o with
    |lst U=>
     cases a:A[k]? with
     |none=>rw[E,a]at p;exact p.elim|some j=>cases j with
      |lst Z=>cases Z with
       |nil=>
        rw[E,a]at p;dsimp only at p;cases b:wA A U with
        |none=>rw[b]at p;exact p.elim|some w=>
         rw[b]at p;dsimp only at p
         by_cases h:U≠[]/\w.flatten.length<=zR
         ·rw[ah h]at p
          obtain⟨i,X,rfl,_,t,f⟩:=S.lst g E;obtain⟨P,Y,rfl,_,s,r⟩:=S.lst q a;cases r;obtain⟨L,rfl,B,d,c⟩:=Tz S b f;refine⟨i,P,L,rfl,t,s,B,λe=>?_,by rw[<- d.length];exact h.2,λl z=>?_⟩
          ·rw[e]at c
           exact h.1 (List.length_eq_zero_iff.mp c.symm)
          ·obtain⟨I,D,C⟩:=w8 S z d
           exact p _ _ _ I D C
         ·rw[ai h]at p;exact p.elim
       |cons _ _=>rw[E,a]at p;exact p.elim
      |_=>rw[E,a]at p;exact p.elim
    |_=>rw[E]at p;exact p.elim
  |_=>exact p.elim
 |_=>cases v<;>exact p.elim
variable {a b:Expr}{ma mb:Ev}
def hG (t:TA):TE:=λa H Q=>t a H λv h=>∃i j:Int,v=[.int i,.int j]/\∀p,h p=none->Q (.ref p) (upd h p (.rng i j))
def DJ {T:TA}(g:Gl X "range")(x:X.mg "range"=none)(l:PA X [a,b] T)(f:starEach [a,b] X.env=[(false,eval a X.env),(false,eval b X.env)])(c:starEach [b] X.env=[(false,eval b X.env)]):PE X (.Call (.Name "range" p) [a,b] [] pos) (hG T):=by
 intro P s w H Q I h;refine Call_ (gJ I g x boot_range (PyProof.Rows.callWith_type1 (zQ (l pos P s w H _ I h) λU S ⟨y,z,d,r,e⟩=>?_) (by rw[f,c]) (by rw[c];rfl)))
 obtain⟨i,j,rfl,q⟩:=e;obtain⟨u,v,rfl,⟨t,rfl⟩,⟨n,rfl⟩⟩:=Vals.two r;refine call_range_2 ⟨.ref _,_,d.laid (o:=.rng i j) (λb o E=>af _ E) (ar _) ?_,rfl,q _ (d.hok.fresh (ar _))⟩;exact⟨_,_,_,aw _ rfl⟩
noncomputable def QJ (l:Int)(n:Nat):List V:=(List.range n).map λ(i:Nat)=>V.int (l+i)
def Ha (A:X.calm=true):jH X (.type "list") (λxs H Q=>∃(r:Addr) (i j:Int),xs=[.ref r]/\H r=some (.rng i j)/\(-(2 ^ 62)<=i/\i<2 ^ 62)/\(-(2 ^ 62)<=j/\j<2 ^ 62)/\(j-i).toNat<=sizeLine/\∀l,H l=none->Q (.ref l) (upd H l (.lst (QJ i (j-i).toNat)))):=by
 intro P s Y H xs Z Q I r h;obtain⟨p,i,j,rfl,x,⟨a1,a2⟩,⟨D,B⟩,z,q⟩:=h;obtain⟨u,rfl,g⟩:=vals1 r;cases g;obtain⟨M,T,L,y⟩:=I.hok p _ x;have E:sizeLine=16777216:=sizeLine_eq;refine PySem.call_list_range (n:=(j-i).toNat) (I.ok.hd A) (show IsRange s.heap p i j 1 M T L from y) (small_one (by omega) (by omega) D B) (by rw[rangeSize_one];split<;>omega) (by omega) λh' K J C N S ⟨U,d⟩=>?_
 refine⟨.ref s.heap.objs.size,_,I.laid (t':=K) (o:=.lst (QJ i (j-i).toNat)) N (ar _) ?_,rfl,q _ (I.hok.fresh (ar _))⟩;refine⟨by unfold QJ;simpa using z,J.toList,C,?_,by simpa using S⟩
 have a:∀(l:bS)(k:Nat),(∀(m:Nat) v,l[m]? =some v->∃t,v=.int (i+((k+m:Nat):Int)) t)->Vals ((List.range' k l.length).map λ(m:Nat)=>V.int (i+(m:Int))) l:=by
  intro l
  induction l with
  |nil=>intro k _;exact .nil|cons v l w=>
   intro k e;rw[aL,range'_succ,aK];refine .cons ?_ (w (k+1) λm f a=>?_)
   ·obtain⟨t,rfl⟩:=e 0 v rfl
    exact⟨t,rfl⟩
   ·obtain⟨t,rfl⟩:=e (m+1) f (by simpa using a)
    exact⟨t,by first|rfl|(congr 1<;>omega)|(simp;omega)⟩
 have b:J.toList.length=(j-i).toNat:=by simpa using U
 have:=a J.toList 0 λm v c=>by
  obtain⟨t,rfl⟩:=d m v (by simpa using c)
  exact⟨t,by first|rfl|(congr 1<;>omega)|(simp;omega)⟩
 rw[b]at this;unfold QJ;rw[range_eq_range'];exact this
def wX (c M:Ev):Ev:=λa A=>(c a A).bind λx d=>(M a d).bind λy b=>match x,y with
 |.int i,.int j=>if jt i&&(jt j&&decide ((j-i).toNat<=zR)) then .ok (.ref b.length) (b++[.lst ((List.range (j-i).toNat).map λ(k:Nat)=>W.int (i+k))]) else .bad|_,_=>.bad
variable {prog:Program}{A:Around}
def N8 {t S:Addr}{l v:Value}{L i:bZ}(H:IsTup s.heap t items)(d:s.heap.IsSliceOf S l v .none)(P:IsPart l L)(p:IsPart v i)
  (f:HT.qb items.size 0 L=0/\HT.qb items.size items.size i=items.size)(h:Q (.ref t) s):wpAny (model prog w) A (getItem (.ref t) (.ref S)) Q E s:=by
 obtain⟨o,a,b,e⟩:=id d;have c:s.TypeIs (.ref S) "slice":=⟨o,a,b⟩;unfold getItem
 try with_reducible refine wpAny_holding ?_
 first|refine ck (cm ?_)|skip
 refine ck (wpAny_sequenceKey H.typeIs (by decide) ?_)
 refine ck (wpAny_callSpecial?_slot (name:=Str.ofString "__getitem__") H.typeIs PyProof.Rows.slot_tuple_getitem
  (wpAny_call_entry PyProof.Rows.slot_tuple_getitem H.typeIs PyProof.Rows.entry_tuple_getitem ?_ (PyProof.Rows.args_tuple_getitem _ _)))
 show wpAny _ _ (Builtin.Tuple.tupleItemsOf (.ref t) >>= _) _ _ s;refine ck (PyProof.Rows.tupleItemsOf_ H ?_);refine ck (wpAny_typeOf c ?_);rw[ah (by decide)]
 refine ck (HT.Uq d P p ?_);show wpAny _ _ (if (((HT.qb items.size 0 L:Nat):Int)==0&&(1:Int)==1&&(HT.qb items.size items.size i-HT.qb items.size 0 L)==items.size)=true then _ else _) _ _ s;rw[ah (by rw[f.1,f.2];simp)]
 unfold Builtin.Tuple.tupleIsExact;refine ck (ck (wpAny_typeOf H.typeIs (cm ?_)));rw[ah (by decide)]
 refine ck (wpAny_rule ?_)
 first
  |exact cm ⟨_,rfl,cm h⟩
  |exact ck (cm (cm ⟨_,rfl,cm h⟩))
end
section
variable {a:Expr}{m:Ev}{lo hi:Option Expr}{K:Frag}
def Nq (K:Frag):V->Option Int->Option Int->Hp->VK->Prop:=λx l h H Q=>∃a X,x=.ref a/\qp K H a X/\
 ((HT.qb X.length 0 l=0/\HT.qb X.length X.length h=X.length)->Q (.ref a) H)/\
 (¬(HT.qb X.length 0 l=0/\HT.qb X.length X.length h=X.length)->∀p,H p=none->Q (.ref p) (upd H p (.tup (gm X l h))))
def AM:YJ X (Nq X.K):=by
 intro p s o H x v l u L j S Q I b d g P h;obtain⟨a,f,rfl,c,e,q⟩:=h
 by_cases w:HT.qb f.length 0 L=0/\HT.qb f.length f.length j=f.length
 ·cases b
  obtain⟨i,r,t,z⟩:=I.tuple c;have n:i.toArray.size=f.length:=by rw[az];exact r.length.symm
  exact⟨"tuple",_,PyProof.Rows.slot_tuple_getitem.lookup,t.typeIs,N8 t d g P (by rw[n];exact w) ⟨.ref a,H,I,rfl,e w⟩⟩
 ·exact dP p s o H _ v l u L j S Q I b d g P ⟨a,f,rfl,c,w,q w⟩
abbrev Po:=En->Hx->R (bZ)
noncomputable def jv:Po:=λ_ A=>.ok none A
noncomputable def qO (m:Ev):Po:=λa A=>(m a A).bind λw b=>match w with
 |.int i=>.ok (some i) b|_=>.bad
noncomputable def yO (w:List W)(l h:bZ):List W:=(w.drop (HT.qb w.length 0 l)).take (HT.qb w.length w.length h-HT.qb w.length 0 l)
inductive MP (K:Frag)(xr:XR)(p:Po)(σ:St)(H:Hp)(Q:Option Int->Hp->Prop):Prop
 |mk (φ:bT) (A:Hx) (ρ:En) (S:zF K φ A H) (re:RE K φ H ρ σ) (h:(p ρ A).post (λo A1=>∀lH H1,Le K φ H lH H1->zF K lH A1 H1->Q o H1) (EB K φ H xr))
def tP (K:Frag)(x:XR)(p:Po):TO:=λa H Q=>MP K x p a H Q
def SP (X:Cx)(x:XR)(e:Option Expr)(p:Po):Prop:=PO X e (tP X.K x p)
def PO.imp {e:Option Expr}{t T:TO}(h:PO X e t)(i:∀σ H Q,T σ H Q->t σ H Q):PO X e T:=λp s σ H Q I w=>h p s σ H Q I (i σ H Q w)
def X2 (b:SE X xr e m):SP X xr (some e) (qO m):=PO.imp (Bp b) λg H Q ⟨f,A,j,S,r,h⟩=>by
 refine tM.go S r (zT.mp h) λw n a d v c l s q=>?_;cases w with
 |int i=>obtain rfl:=q;exact⟨i,rfl,c a d l s⟩|_=>exact c.elim
end
def Rk (x:Array Value):((List.range x.size).filterMap λ(k:Nat)=>x[(((x.size:Int)-1)+(k:Int) * (-1)).toNat]?).toArray=x.toList.reverse.toArray:=by
 congr 1
 have e:∀k,k<x.size->x[(((x.size:Int)-1)+(k:Int) * (-1)).toNat]? =some (x.toList.reverse.getD k .none):=λk h=>by
  have c:(((x.size:Int)-1)+(k:Int) * (-1)).toNat=x.size-1-k:=by omega
  rw[c,ae,List.getElem?_reverse (by simpa using h),bC,aQ,Array.getElem?_eq_getElem (by omega)]
  rfl
 have E:((List.range x.size).filterMap λ(k:Nat)=>x[(((x.size:Int)-1)+(k:Int) * (-1)).toNat]?)=(List.range x.size).map λk=>x.toList.reverse.getD k .none:=by
  have a:∀l:bV,(∀k∈l,k<x.size)->(l.filterMap λ(k:Nat)=>x[(((x.size:Int)-1)+(k:Int) * (-1)).toNat]?)=l.map λk=>x.toList.reverse.getD k .none:=by
   intro l
   induction l with
   |nil=>intro _;rfl|cons k l I=>
    intro h;rw[bj,e k (h k (aq ..)),aK,I λj H=>h j (ak _ H)]
  exact a _ λk h=>cw.mp h
 rw[E]
 apply bq
 ·simp
 ·intro i c b
  rw[List.getElem_map,List.getElem_range,ae,aa b]
  rfl
section
variable {K:Frag}
def U9 {x:List V}(h:Vals x us):Vals x.reverse us.reverse:=by
 induction h with
 |nil=>exact .nil|cons r t i=>rw[reverse_cons,reverse_cons];exact i.append (.cons r .nil)
theorem zr.rev:∀{s:List W}{a:List V},zr K φ H s a->zr K φ H s.reverse a.reverse
 |[],_,h=>by cases h;rfl|w::s,_,⟨v,r,e,h,t⟩=>by
  subst e;rw[reverse_cons,reverse_cons];exact zr.app (zr.rev t) ⟨v,[],rfl,h,rfl⟩
def O6:Z9:=λo i v H Q=>∃a K k,o=.ref a/\i=kV k/\H a=some (.dK K)/\K.length<sizeLine/\Q (upd H a (.dK (putK K k v)))
def set_dict {k:Nat}(c:qP k X.A):Yo X O6:=by
 intro p s j H o i v f g u Q I ro b r h;obtain⟨a,K,y,rfl,rfl,d,l,q⟩:=h;cases ro;exact Fx (OZ c) I (Wn.k d l) b r λS e=>⟨_,e,q⟩
noncomputable def yD (K:List (Key×W))(k:Key)(v:W):List (Key×W):=
 if (K.any λa=>decide (a.1=k))=true then K.map (λa=>if a.1=k then(a.1,v) else a) else K++[(k,v)]
def gQ:W->W->W->Hx->R Unit:=λd k v A=>match d,Jw k with
 |.ref n,some k=>match A[n]? with
  |some (.dct lG)=>if lG.length<zR then .ok () (A.set n (.dct (yD lG k v))) else .bad|_=>.bad
 |_,_=>.bad
def Aw:∀o i v A,qB (gQ o i v A):=λo i v A=>by
 unfold gQ
 split
 ·split
  ·exact w6 jG qD
  ·exact qD
 ·exact qD
theorem Pe (k:Key):∀{K:List (Key×W)}{u:List (Key×V)},u.map (·.1)=K.map (·.1)->(u.any λv=>decide (v.1=k))=(K.any λv=>decide (v.1=k))
 |[],[],_=>rfl|[],_::_,h=>by simp at h|_::_,[],h=>by simp at h|a::K,b::u,h=>by
  simp only[aK,List.cons.injEq]at h;rw[bJ,bJ,Pe k h.2,h.1]
theorem RD (k:Key){w:W}(q:RV K φ H w v):∀{s:List (Key×W)}{u:List (Key×V)},u.map (·.1)=s.map (·.1)->zr K φ H (s.map (·.2)) (u.map (·.2))->
  (u.map (λc=>if c.1=k then(c.1,v) else c)).map (·.1)=(s.map (λc=>if c.1=k then(c.1,w) else c)).map (·.1)/\zr K φ H ((s.map (λc=>if c.1=k then(c.1,w) else c)).map (·.2)) ((u.map (λc=>if c.1=k then(c.1,v) else c)).map (·.2))
 |[],[],_,r=>⟨rfl,r⟩|[],_::_,h,_=>by simp at h|_::_,[],h,_=>by simp at h|a::s,b::u,h,r=>by
  simp only[aK,List.cons.injEq]at h;obtain⟨g,j,e,l,f⟩:=r;simp only[aK,List.cons.injEq]at e;obtain⟨rfl,rfl⟩:=e;obtain⟨I,i⟩:=RD k q h.2 f;simp only[aK];rw[I,h.1]
  by_cases d:a.1=k
  ·rw[ah d,ah d]
   exact⟨rfl,⟨v,_,rfl,q,i⟩⟩
  ·rw[ai d,ai d]
   exact⟨by rw[h.1],⟨b.2,_,rfl,l,i⟩⟩
def D9:Yk K O6 gQ:=λB A H o i v c w C Q S j g q p=>by
 unfold gQ at p;cases c with
 |ref n=>cases w with
  |int k=>
   obtain rfl:=g;dsimp only[Jw]at p;cases e:A[n]? with
   |none=>rw[e]at p;exact p.elim|some r=>cases r with
    |dct s=>
     rw[e]at p;dsimp only at p;obtain⟨l,U,rfl,I,D,y,E⟩:=S.dct j e;have x:U.length=s.length:=by have:=congrArg List.length y;simpa using this
     by_cases b:s.length<zR
     ·rw[ah b]at p
      have L:Le K B H B (upd H l (.dK (putK U (.inl k) v))):=Le.upd I (λX z=>by rw[D]at z;cases z) (λ_ _ z=>by rw[D]at z;cases z)
      have h:(putK U (.inl k) v).map (·.1)=(yD s (.inl k) C).map (·.1)/\zr K B (upd H l (.dK (putK U (.inl k) v))) ((yD s (.inl k) C).map (·.2)) ((putK U (.inl k) v).map (·.2)):=by
       generalize upd H l (.dK (putK U (.inl k) v))=H' at L;unfold putK yD;rw[Pe (.inl k) y]
       by_cases a:(s.any λt=>decide (t.1=(.inl k:Key)))=true
       ·rw[ah a,ah a]
        exact RD (.inl k) (q.mono L) y (E.mono L)
       ·rw[ai a,ai a]
        refine⟨by simp[y],?_⟩
        rw[aW,aW];exact(E.mono L).append (.one (q.mono L))
      obtain⟨f,d⟩:=S.write (o:=.dct s) (o':=.dct (yD s (.inl k) C)) e rfl rfl I (u:=.dK (putK U (.inl k) v)) ⟨_,ji,h.1,h.2⟩;exact⟨l,U,.inl k,rfl,rfl,D,by rw[x,sizeLine_eq];unfold zR at b;omega,p _ _ f d⟩
     ·rw[ai b]at p;exact p.elim
    |_=>rw[e]at p;exact p.elim
  |_=>exact p.elim
 |_=>cases w<;>exact p.elim
end
noncomputable def Wf (_ j:Int):Bool:=decide (0<j)&&decide (j<1152921504606846976)
def O2 (i j:Int):Prop:=0<j/\j<1152921504606846976
def Dn (i j:Int)(h:Wf i j=true):O2 i j:=by
 unfold Wf at h;rw[av]at h;exact⟨of_decide_eq_true h.1,of_decide_eq_true h.2⟩
def DG:qL X (binaryOp .FloorDiv) (rI O2 λi j=>.int (i/j)):=WI λi j _ _ _ _ _ h q=>by
 have b:(0:Int)<j:=h.1;have H:j<1152921504606846976:=h.2;refine floordiv_int (by omega) (by rw[Int.fdiv_eq_ediv_of_nonneg i (by omega)];exact q) (.inl (PyProof.noPylong_of_log2 ?_))
 have a:j.natAbs≠0:=by omega
 have:j.natAbs.log2<60:=(Nat.log2_lt a).mpr (by omega)
 omega
def gK:=ZC Wf λi j=>.int (i/j)
def VQ (e:Expr):Expr:=match e with
 |.Compare l _ _ _=>l|_=>Zq
def hH (e:Expr)(i:Nat):Expr:=match e with
 |.BoolOp _ v _=>v.getD i Zq|_=>Zq
open Classical in
def P5 (q:Str)(fs:Addr->Fn):Prop:=∀n:bR,n.length<=63->∀P,∃A,fs P [.ref 0] [.ro (n.map W.int),.tab q P]=.ok (.bl true) A
def zcR {y:Str}{l:PySem.W.OpenLaw}{k:Nat}{q:Program}{loose:bW}{J:World->Heap->Prop}{d:DefRec}{Kp:Params->Frag}{Q:Str}{fs:Addr->Fn}(ok:P5 Q fs)
  (hn:l.most=some 63)(B:d.params.defaults=[])(Z:qP k callerA)(hY:∀(w:World)(h:Heap),J w h->(Kp w.params).In h)(hT:∀(w:World)(h:Heap),J w h->h.get? Pt=some (tabObj #[]))(M:∀p,X7 (Kp p) y Pt=true)(P:∀p,(Kp p).lookup Pt=none)
  (F:∀(w:World)(mg:b8)(i:Addr)(h:Heap),(Kp w.params).In h->h.Ns mainGlobals mg->mg d.name=some (.ref i)->(∃c,tabIn (Kp w.params) y=some (c,Pt)/\codeHdIn (Kp w.params) c Pt=true)->
   ∃fd:FuncData,(∀(s:Shared)(u:Value),BindsTo s fd ⟨[u],[]⟩ [(x,u)])/\∀base:Heap,(Kp w.params).In base->base.Ns mainGlobals mg->BMain mg base->ym l.prog w (Kp w.params) mg base kJ k i fd [x] (Za (Kp w.params) 1 (fs Pt))):
  PySem.W.WalkO q loose XP J l.row.toRowW d [] (λf vs=>PySem.call f vs):=by
 refine Att.I9 (n:=63) hn B λw L S mg mb i o pm cd doc a vs ns G Y ho hd N t j hints hlen hg=>?_;have K:=hY w _ Y;obtain⟨fd,hb,hF⟩:=F w mg i _ K G.T.g t (SK (M w.params));obtain⟨c,_,C⟩:=SK (M w.params);have U:=hT w _ Y;have hc:isCodeTable S.heap Pt:=((codeHd_of_K K C).tab U).isCodeTable;have D:BMain mg S.heap:=by
  obtain⟨bm,ob,b1,b2,I,b4,b5,E⟩:=G.T.bmain;refine⟨bm,ob,b1,b2,λz=>?_,I,b4,b5,E⟩;obtain⟨o,es,ep,e,hd,_⟩:=G.T.g;rw[z,e]at I;cases I;rw[hd]at E;cases E
 refine FI K G.T.g G.T.b G.T.builtins G.T.nolimit hg j hints (a3 hlen (by decide)) Z U (P w.params) hc D hF hb λH h1 h2=>?_
 refine⟨rfl,[a,Pt],[.ro (ns.map W.int),.tab Q Pt],[.ref 0],Hy h1 h2,.one ⟨a,rfl,rfl⟩,?_⟩;obtain⟨A,e⟩:=ok ns hlen Pt;rw[e];exactλX H' v _ _ r=>r
section
variable {K:Frag}
def PJ (K:Frag):R2:=λx y H Q=>∃a A u v d D,zF K a A H/\RV K a H u x/\RV K a H v y/\zO A 8 u=some d/\zO A 8 v=some (.list D)/\Q (.bl (!(D.any λz=>PyData.eqv z d))) H
def F9 (i:X.A.units+64<cLine):qL X (compareOp .NotIn) (PJ X.K):=by
 intro p s z H x y v u Q I b r h;obtain⟨t,A,w,a,d,D,S,f,c,E,e,q⟩:=h;obtain⟨C,l⟩:=Zh I S 8 w x v d f b E;obtain⟨bs,g⟩:=Zh I S 8 a y u _ c r e;obtain⟨o,B⟩:=JM 8 w d E;obtain⟨n,j⟩:=Ry e;exact SeqAt.notIn_list_reads g l n o (by omega) ⟨.bl _,H,I,rfl,q⟩
def gC:W->W->Hx->R W:=λx y A=>match zO A 8 x,zO A 8 y with
 |some d,some (.list ds)=>.ok (.bl (!(ds.any λz=>PyData.eqv z d))) A|_,_=>.bad
def FF:∀x y A,qB (gC x y A):=λx y A=>by
 unfold gC
 split
 ·exact jG
 ·exact qD
def HN:jZ K (PJ K) gC:=λb A H x y u v Q S a q p=>by
 unfold gC at p;cases e:zO A 8 u with
 |none=>rw[e]at p;exact p.elim|some d=>
  cases E:zO A 8 v with
  |none=>rw[e,E]at p;exact p.elim|some D=>
   rw[e,E]at p;cases D with
   |list s=>exact⟨b,A,u,v,d,s,S,a,q,e,E,p b H _ .refl S rfl⟩|_=>exact p.elim
def Co {k:Nat}(h:qP k X.A):WB X .NotIn gC:=⟨_,F9 h.units,FF,HN⟩
end
end Mi
namespace PySem.SeqAt
open PySem
end PySem.SeqAt
namespace Mi
open PySem PySem.Spec PyProof.Rows L2
section
variable {prog:Program}{A:Around}
def LC {l:Addr}(y:A.handled=none)(u:s.heap.IsTuple l l6.toArray)(g:IntsAre l6 (vs.map λ(v:Nat)=>(v:Int)))(B:∀v∈vs,v<8)
  (h:∀(Z:Heap)(tk:Nat),jI Z s.heap.objs.size l8 (vs.foldl jn 0)->
   (∀b o,b<s.heap.objs.size->s.heap.get? b=some o->Z.get? b=some o)->Q .none { s with heap:=Z,toks:=tk }):
  codeAny (model prog w) A (.call (.builtin "set.__init__") ⟨[.ref s.heap.objs.size,.ref l],[]⟩) (wants Q E) { s with heap:=s.heap.push (jW l8) }:=by
 have Y:l6.length=vs.length:=by
  have:∀{l6:bS}{ns:bR},IntsAre l6 ns->l6.length=ns.length:=λh=>by
   induction h with
   |nil=>rfl|cons _ _ _ I=>simp[I]
  rw[this g,ag]
 have S:(s.heap.push (jW l8)).get? s.heap.objs.size=some (jW l8):=aw _ rfl;refine codeAny_call_builtin F.called_set.init.plain F.entry_set_init (check_set_init_1 ⟨_,S,rfl⟩ ?_);obtain⟨ob,h1,a,n,j⟩:=u;obtain⟨K,J,r,q⟩:=ob;dsimp only at a j;cases a;cases j;have g1:=af (jW l8) h1;have n1:=F.sub_tuple_set;have P:=F.sub_tuple_frozenset;have N:(Value.type "tuple" == Value.type "dict")=false:=by decide
 have T1:(s.heap.push (jW l8)).IsTuple l l6.toArray:=⟨_,g1,rfl,n,rfl⟩;unfold Builtin.«set.__init__» noKeywords Builtin.Frozenset.updateFrom;generalize x:pyIter=PI
 wp_walk
 subst x;refine wpAny_pyIter_tuple T1 (ck (wpAny_runValue ?_));have lt:l<s.heap.objs.size:=aG h1;have sz:(s.heap.push (jW l8)).objs.size=s.heap.objs.size+1:=bc ..;have ne:l≠(s.heap.push (jW l8)).objs.size:=by rw[sz];exact aJ (aZ lt)
 have W:=(Walks.tuple (prog:=prog) (w:=w) (A:=A.in1.in1) (by simp[y]) (s.heap.push (jW l8)).objs.size l ne l6.toArray).toS
 have d:l6.toArray.size=vs.length:=by rw[az];exact Y
 rw[d]at W;have off:s.heap.objs.size∉[(s.heap.push (jW l8)).objs.size,l]:=by
  rw[sz];intro U;rcases cn.mp U with z|U
  ·exact aJ (bo _) z
  ·exact br lt (cx.mp U)
 have H:gh (λi=>vs.getD i 0) vs.length=vs.foldl jn 0:=by
  unfold gh
  congr 1
  apply bq
  ·simp
  ·intro i h1 a
   have X:i<vs.length:=by simpa using a
   simp[ae,aa X]
 refine Sr W s.heap.objs.size off l8 (λi=>vs.getD i 0) (λi v e=>?_) (λi X=>?_) vs.length 0 _ rfl (bG _) ⟨⟨_,aw _ rfl,rfl,rfl⟩,T1.push _⟩ ?_ ?_
 ·obtain⟨t,f⟩:=IntsAre.int_at g i v (by simpa using e)
  refine⟨t,f.trans ?_⟩;have X:i<vs.length:=by
   have:=(cu.mp (show l6[i]? =some v by simpa using e)).1
   omega
  congr 1
  simp[ae,ax,aa X]
 ·rw[ae,aa X]
  exact B _ (aN X)
 ·exact Oc l8 (af _ S)
 ·intro s' M p
  rw[H]at p;obtain⟨Z,g',d',T,c⟩:=s';have D:g'=s.gens:=M.gens;have f:d'=s.drawn:=M.drawn;have C:c=s.os:=M.os;subst D f C;refine cm ?_;show wpAny _ _ (ret Value.none) _ _ _;refine cm (h Z T p λb o L e=>M.heap b o (λU=>?_) (af _ (af _ e)));rcases cn.mp U with z|U
  ·exact aJ L z
  ·exact aJ (aZ L) ((cx.mp U).trans sz)
def LI {l:Addr}(j:A.handled=none)(t:s.heap.IsTuple l l6.toArray)(i:IntsAre l6 (vs.map λ(v:Nat)=>(v:Int)))(n:∀v∈vs,v<8)
  (h:∀(C:Heap)(D:Nat),jI C s.heap.objs.size (qY w) (vs.foldl jn 0)->
   (∀b o,b<s.heap.objs.size->s.heap.get? b=some o->C.get? b=some o)->Q (.ref s.heap.objs.size) { s with heap:=C,toks:=D }):
  wpAny (model prog w) A (call (.type "set") [.ref l]) Q E s:=by
 obtain⟨c,p,d⟩:=F.called_set.mro;have M:=F.called_set.made;have L:=F.called_set.sub;have z:=F.called_set.notType;have y:=F.called_set.canCreate;have x:=F.typeCall_set_1 (.ref l);refine wpAny_call (codeAny_of_tree ?_);show wpAny _ _ (callAny (.type "set") _) _ _ _;refine cm ⟨Code.quiet_builtin _ (by decide +kernel),codeAny_builtin F.entry_type_call ?_⟩
 rw[Around.under_plain (weight_type_call_type "set" [.ref l] []) rfl]
 repeat (any_goals (first|assumption|wp_step))
 refine codeAny_mono (UC (.ref l) (E:=E) (Q1:=λu J=>u=.ref s.heap.objs.size/\J={ s with heap:=s.heap.push (jW (qY w)) }) ⟨rfl,rfl⟩) λr J a=>?_
 cases r with
 |error e=>exact a|ok fl=>
  cases fl with
  |ret u=>
   obtain⟨rfl,rfl⟩:=a;have T:Shared.TypeIs { s with heap:=s.heap.push (jW (qY w)) } (.ref s.heap.objs.size) "set":=⟨_,aw _ rfl,rfl⟩
   have q:=F.called_set.init.lookup;have B:=F.called_set.init.bind (.ref s.heap.objs.size)
   repeat (any_goals (first|assumption|wp_step))
   refine codeAny_mono (LC (E:=E) (Q:=λv I=>v=.none/\∃C D,I={ s with heap:=C,toks:=D }/\jI C s.heap.objs.size (qY w) (vs.foldl jn 0)/\
    ∀b o,b<s.heap.objs.size->s.heap.get? b=some o->C.get? b=some o) (by simp[j]) t i n λC D S K=>⟨rfl,C,D,rfl,S,K⟩) λg I H=>?_
   cases g with
   |error e=>exact H|ok f=>
    cases f with
    |ret v=>
     obtain⟨rfl,C,D,rfl,S,K⟩:=H
     repeat (any_goals (first|assumption|wp_step))
     exact h _ _ S K
    |_=>exact H.elim
  |_=>exact a.elim
end
section
variable {m:Ev}
def hJ (K:Frag)(w:World):List V->Hp->VK->Prop:=λx H Q=>∃(p:Addr) (vs:bV),x=[.ref p]/\qp K H p (vs.map λ(v:Nat)=>V.int (v:Int))/\(∀v∈vs,v<8)/\∀l,H l=none->Q (.ref l) (upd H l (.ext λh=>jI h l (qY w) (vs.foldl jn 0)))
def Fo (l:X.calm=true):jH X (.type "set") (hJ X.K X.w):=by
 intro P s A H B U Q I r h;obtain⟨p,y,rfl,g,n,q⟩:=h;obtain⟨u,rfl,d⟩:=vals1 r;cases d;obtain⟨i,c,z,_⟩:=I.tuple g;have f:Vals ((y.map λ(v:Nat)=>(v:Int)).map V.int) i:=by rw[aU];exact c
 refine LI (I.ok.hd l) z (intsAre_of f) n λD T S kp=>?_;refine⟨.ref s.heap.objs.size,_,I.laid (t':=T) (o:=.ext λh=>jI h s.heap.objs.size (qY X.w) (y.foldl jn 0)) (λb o e=>kp b o (aG e) e) (ar _) ⟨S,?_,λC t a b=>a.keep b⟩,rfl,q _ (I.hok.fresh (ar _))⟩;obtain⟨o,E,x,j,_⟩:=S;exact⟨o,j⟩
def GI:W->Hx->R W:=λw A=>match w with
 |.tup s=>match intsOf s with
  |some I=>match gH I with
   |some v=>.ok (.ref A.length) (A++[.lst (((List.range 8).filter λi=>decide (i∈v)).map λ(i:Nat)=>W.int (i:Int))])|none=>.bad
  |none=>.bad
 |_=>.bad
def Kf (m:Ev):Ev:=λa A=>(m a A).bind λw b=>GI w b
end
section
variable {prog:Program}{A:Around}
def Mm {t S:Addr}{T:Tok}(c:IsTup s.heap t items)(f:s.heap.IsSliceOf S .none .none (.int (-1) T))
  (h:Q (.ref s.heap.objs.size) { s with heap:=s.heap.push { cls:=.type "tuple",data:=.seq items.toList.reverse.toArray } })(j:items.size<=sizeLine):wpAny (model prog w) A (getItem (.ref t) (.ref S)) Q E s:=by
 obtain⟨o,a,d,b⟩:=id f;have e:s.TypeIs (.ref S) "slice":=⟨o,a,d⟩;have H:sizeOk (.seq items.toList.reverse.toArray):=by
  show items.toList.reverse.toArray.size<=sizeLine;simpa using j
 unfold getItem
 try with_reducible refine wpAny_holding ?_
 first|refine ck (cm ?_)|skip
 refine ck (wpAny_sequenceKey c.typeIs (by decide) ?_)
 refine ck (wpAny_callSpecial?_slot (name:=Str.ofString "__getitem__") c.typeIs PyProof.Rows.slot_tuple_getitem
  (wpAny_call_entry PyProof.Rows.slot_tuple_getitem c.typeIs PyProof.Rows.entry_tuple_getitem ?_ (PyProof.Rows.args_tuple_getitem _ _)))
 show wpAny _ _ (Builtin.Tuple.tupleItemsOf (.ref t) >>= _) _ _ s;refine ck (PyProof.Rows.tupleItemsOf_ c ?_);refine ck (wpAny_typeOf e ?_);rw[ah (by decide)]
 have p:∀{Q':Int×Int×Nat->Shared->Prop},Q' ((items.size:Int)-1,-1,items.size) s->wpAny (model prog w) A.in1 (Builtin.Slice.sliceApplied (.ref S) (pure (items.size:Int))) Q' E s:=λ {Q'} q=>by
  unfold Builtin.Slice.sliceApplied Builtin.Slice.sliceFields;refine ck (ck (wpAny_field a b (x:=.none) rfl (ck (wpAny_field a b (x:=.none) rfl (ck (wpAny_field a b (x:=.int (-1) T) rfl (cm ?_)))))));refine ck (HT.JK (.int (-1) T) ?_);show wpAny _ _ (if (((-1:Int))==0)=true then _ else _) _ _ s;rw[ai (by decide)]
  refine ck (HT.JK .none (ck (HT.JK .none (ck (cm ?_)))));have i:Builtin.Slice.sliceAdjust none none (-1) (items.size:Int)=((items.size:Int)-1,-1):=rfl;show wpAny _ _ (match Builtin.Slice.sliceAdjust none none (-1) (items.size:Int) with|(lo,hi)=>pure (lo,(-1:Int),Builtin.Slice.slicePlaces lo hi (-1))) _ _ s
  rw[i];have g:Builtin.Slice.slicePlaces ((items.size:Int)-1) (-1) (-1)=items.size:=by
   unfold Builtin.Slice.slicePlaces;rw[ai (by decide)]
   by_cases z:items.size=0
   ·rw[z,ai (by decide)];rfl
   ·rw[ah (by omega)]
    simp
  show wpAny _ _ (pure ((items.size:Int)-1,(-1:Int),Builtin.Slice.slicePlaces ((items.size:Int)-1) (-1) (-1))) _ _ s;rw[g];exact cm q
 refine ck (p ?_);show wpAny _ _ (if (((items.size:Int)-1==0&&(-1:Int)==1&&items.size==items.size))=true then _ else _) _ _ s;rw[ai (by simp),Rk]
 first
  |exact ck (m:=Builtin.Tuple.tupleExact _) (wpAny_newObj_type (cm ⟨_,rfl,cm h⟩) H)
  |exact ck (m:=Builtin.Tuple.tupleExact _) (wpAny_newObj_type (ck (cm (cm ⟨_,rfl,cm h⟩))) H)
  |exact ck (ck (m:=Builtin.Tuple.tupleExact _) (wpAny_newObj_type (cm (cm ⟨_,rfl,cm h⟩)) H))
  |exact ck (ck (m:=Builtin.Tuple.tupleExact _) (wpAny_newObj_type (cm ⟨_,rfl,cm h⟩) H))
end
section
variable {st:Expr}{m ms:Ev}{te:TE}{ts:TO}{p2:Pos}{K:Frag}
def hU (K:Frag):V->Hp->VK->Prop:=λx H Q=>∃a X,x=.ref a/\qp K H a X/\∀p,H p=none->Q (.ref p) (upd H p (.tup X.reverse))
def BK (N:PE X e te)(n:PO X (some st) ts):PE X (.Subscript e (.Slice none none (some st) p2) pos) (λσ H Q=>te σ H λx E=>ts σ E λo C=>o=some (-1)/\hU X.K x C Q):=by
 intro P s σ H Q I h;refine Subscript_ (zQ (N P s σ H _ I h) λv L ⟨x,E,y,f,j⟩=>?_);refine wpAny_Slice ?_;rw[evalPart_none];refine cm (cm ?_);refine zQ (n P L σ E _ y j) λU S ⟨o,B,u,M,g⟩=>?_;obtain⟨rfl,a,J,rfl,l,q⟩:=g;cases f;cases M with
 |int i T=>
  have d:Inv X P σ B { S with heap:=S.heap.push { cls:=.type "slice",data:=.fields #[.none,.none,.int (-1) T] } }:=u.kept (t':=S.toks) λb ob q=>af _ q
  obtain⟨c,r,t,z⟩:=d.tuple l;have D:c.toArray.size=J.length:=by rw[az];exact r.length.symm
  have p:wpAny (model X.prog X.w) X.A (getItem (.ref a) (.ref S.heap.objs.size)) (EP X P σ Q) X.xe { S with heap:=S.heap.push { cls:=.type "slice",data:=.fields #[.none,.none,.int (-1) T] } }:=by
   refine Mm t (Heap.IsSliceOf.new ..) ?_ (by rw[D];exact z)
   refine⟨.ref _,_,d.laid (t':=S.toks) (o:=.tup J.reverse) (λb ob q=>af _ q) (ar _) ?_,rfl,q _ (d.hok.fresh (ar _))⟩;exact⟨by rw[length_reverse];exact z,c.reverse,U9 r,Zm.new _ _⟩
  show wpAny (model X.prog X.w) X.A (subscriptTail e (.Slice none none (some st) p2) (.ref a) (.ref S.heap.objs.size)) (EP X P σ Q) X.xe _;exact tail_any (ops:=[.ref a,.ref S.heap.objs.size]) t.typeIs PyProof.Rows.slot_tuple_getitem.lookup p (by with_unfolding_all rfl)
def Wk (m M:Ev):Ev:=λa A=>(m a A).bind λw c=>(qO M a c).bind λo b=>match w with
 |.tup s=>if o=some (-1) then .ok (.tup s.reverse) b else .bad|_=>.bad
end
open PySem.W (KasT kas_rev kas_asc kas_desc kas_tail3 kas_descPart kas_count kas_place kas_bin kas_sort)
def TW (n:Nat)(c:Nat->Nat->Bool):KasT α->(α->Prop)->Prop
 |.ret a,Q=>Q a|.ask i j k,Q=>i<n/\j<n/\TW n c (k (c i j)) Q
theorem TW.bind {b:Type}{c:Nat->Nat->Bool}{f:α->KasT b}{Q:b->Prop}:∀(t:KasT α),TW n c t (λa=>TW n c (f a) Q)->TW n c (t.bind f) Q
 |.ret _,h=>h|.ask i j k,h=>⟨h.1,h.2.1,TW.bind (k (c i j)) h.2.2⟩
theorem TW.wp {c:Nat->Nat->Bool}{cmp:Nat->Nat->(Bool->Shared->Prop)->Shared->Prop}{G:α->Shared->Prop}(H:∀i j C,i<n->j<n->C (c i j) s->cmp i j C s):
  ∀(t:KasT α),TW n c t (λa=>G a s)->t.kasWp cmp G s
 |.ret _,h=>h|.ask i j k,h=>H i j _ h.1 h.2.1 (TW.wp H (k (c i j)) h.2.2)
section
variable {O:KeyOrd}{key:Nat->O.α}
noncomputable def gk (K:Nat->O.α)(p:Array Nat)(i:Nat):O.α:=K (p.getD i 0)
noncomputable abbrev kc (K:Nat->O.α)(i j:Nat):Bool:=O.blt (K i) (K j)
def kK (K:Nat->O.α)(p:Array Nat)(m:Nat):Prop:=∀i j,i<=j->j<m->O.kle (gk K p i) (gk K p j)
def we (K:Nat->O.α)(p:Array Nat)(m:Nat):Prop:=∀i j,i<=j->j<m->O.kle (gk K p j) (gk K p i)
structure jX (n:Nat)(p:Array Nat):Prop where
 pm:p.Perm (List.range n).toArray
theorem jX.size {p:Array Nat}(h:jX n p):p.size=n:=by rw[h.pm.size_eq];simp
def jX.lt {p:Array Nat}(h:jX n p)(a:0<n)(i:Nat):p.getD i 0<n:=by
 by_cases H:i<p.size
 ·have e:p.getD i 0=p[i]:=by simp[Array.getD,H]
  have m:p[i]∈p.toList:=Array.mem_toList_iff.mpr (Array.getElem_mem H)
  have:=(Array.perm_iff_toList_perm.mp h.pm).mem_iff.mp m
  rw[e];simpa using this
 ·have e:p.getD i 0=0:=by simp[Array.getD,H]
  rw[e];exact a
def jX.rev {p:Array Nat}(h:jX n p)(i j:Nat):jX n (kas_rev p i j):=⟨(mirror_perm _ _ _ _).trans h.pm⟩
def jX.bub {p:Array Nat}(h:jX n p)(i j:Nat):jX n (bubble p i j):=⟨(bubble_perm _ _ _).trans h.pm⟩
def JV {p q:Array Nat}(h:p[i]? =q[j]?):gk key p i=gk key q j:=by
 unfold gk;rw[Array.getD_eq_getD_getElem?,Array.getD_eq_getD_getElem?,h]
def Va {p:Array Nat}(h:j<=p.size)(k:Nat):gk key (kas_rev p i j) k=if i<=k/\k<j then gk key p (i+j-1-k) else gk key p k:=by
 have e:=getElem?_mirror_all (xs:=p) (i:=i) h k
 by_cases c:i<=k/\k<j
 ·rw[ah c]at e
  rw[ah c];exact JV e
 ·rw[ai c]at e
  rw[ai c];exact JV e
def GB {p:Array Nat}(H:j<=p.size)(h:∀k,i<=k->k<j->gk key p k=gk key p (j-1))(k:Nat):gk key (kas_rev p i j) k=gk key p k:=by
 rw[Va H]
 by_cases c:i<=k/\k<j
 ·rw[ah c,h k c.1 c.2]
  exact h _ (by omega) (by omega)
 ·rw[ai c]
def PU {p:Array Nat}{a d:Nat}(h:a<p.size)(H:d<=a)(k:Nat):gk key (bubble p a d) k=if k=a-d then gk key p a else if a-d<k/\k<=a then gk key p (k-1) else gk key p k:=by
 have e:=getElem?_bubble h d H k
 by_cases c:k=a-d
 ·rw[ah c]at e
  rw[ah c];exact JV e
 ·rw[ai c]at e
  rw[ai c]
  by_cases C:a-d<k/\k<=a
  ·rw[ah C]at e
   rw[ah C];exact JV e
  ·rw[ai C]at e
   rw[ai C];exact JV e
def kK.one {p:Array Nat}:kK key p 1:=λi j H h=>by
 obtain rfl:i=0:=by omega
 obtain rfl:j=0:=by omega
 exact KeyOrd.kle_refl _
def kK.more {p:Array Nat}{m:Nat}(h:kK key p m)(d:1<=m)(H:O.kle (gk key p (m-1)) (gk key p m)):kK key p (m+1):=λi j b a=>by
 rcases lt_or_ge j m with c|c
 ·exact h i j b c
 ·obtain rfl:j=m:=by omega
  rcases lt_or_ge i j with C|C
  ·exact KeyOrd.kle_trans (h i (j-1) (by omega) (by omega)) H
  ·obtain rfl:i=j:=by omega
   exact KeyOrd.kle_refl _
def we.more {p:Array Nat}{m:Nat}(h:we key p m)(d:1<=m)(H:O.kle (gk key p m) (gk key p (m-1))):we key p (m+1):=λi j b a=>by
 rcases lt_or_ge j m with c|c
 ·exact h i j b c
 ·obtain rfl:j=m:=by omega
  rcases lt_or_ge i j with C|C
  ·exact KeyOrd.kle_trans H (h i (j-1) (by omega) (by omega))
  ·obtain rfl:i=j:=by omega
   exact KeyOrd.kle_refl _
def we.same {p q:Array Nat}{m:Nat}(h:we key p m)(e:∀k,gk key q k=gk key p k):we key q m:=λi j a H=>by
 rw[e,e];exact h i j a H
theorem Vm {p:Array Nat}(P:jX n p)(g:0<n):∀(f a:Nat){Q:Nat->Prop},1<=a->kK key p a->(∀m,a<=m->m<=a+f->kK key p m->m=a+f∨O.klt (gk key p m) (gk key p (m-1))->Q m)->TW n (kc key) (kas_asc p f a) Q
 |0,a,Q,_,H,h=>h a (ar _) (ar _) H (.inl rfl)|f+1,a,Q,h1,H,h=>by
  refine⟨P.lt g _,P.lt g _,?_⟩;cases e:kc key (p.getD a 0) (p.getD (a-1) 0) with
  |true=>exact h a (ar _) (by omega) H (.inr e)|false=>exact Vm P g f (a+1) (by omega) (H.more h1 e) λm d c b o=>h m (by omega) (by omega) b (by rcases o with o|o;exact .inl (by omega);exact .inr o)
theorem K7 (v:0<n):∀(f:Nat)(p:Array Nat)(a q:Nat){Q:Array Nat×Nat×Nat->Prop},jX n p->q+1<=a->a+f<=n->we key p a->(∀k,a-(q+1)<=k->k<a->gk key p k=gk key p (a-1))->
  (∀b m d,jX n b->a<=m->m<=a+f->we key b m->d+1<=m->(∀k,m-(d+1)<=k->k<m->gk key b k=gk key b (m-1))->Q (b,m,d))->TW n (kc key) (kas_desc f p a q) Q
 |0,p,a,q,Q,P,h1,l,H,he,h=>h p a q P (ar _) (ar _) H h1 he|f+1,p,a,q,Q,P,h1,l,H,he,h=>by
  refine⟨P.lt v _,P.lt v _,?_⟩;have one:∀r:Array Nat,∀k,a+1-(0+1)<=k->k<a+1->gk key r k=gk key r (a+1-1):=λr k x y=>by
   obtain rfl:k=a:=by omega
   rfl
  have up:∀b m d,jX n b->a+1<=m->m<=a+1+f->we key b m->d+1<=m->(∀k,m-(d+1)<=k->k<m->gk key b k=gk key b (m-1))->Q (b,m,d):=λb m d w z u t s A=>h b m d w (by omega) (by omega) t s A
  cases e:kc key (p.getD a 0) (p.getD (a-1) 0) with
  |true=>
   show TW n (kc key) (if q > 0 then _ else _) Q;have lt:O.kle (gk key p a) (gk key p (a-1)):=KeyOrd.kle_of_klt e
   by_cases g:q > 0
   ·rw[ah g]
    have E:=GB (key:=key) (p:=p) (i:=a-(q+1)) (j:=a) (by rw[P.size];omega) he
    exact K7 v f _ (a+1) 0 (P.rev _ _) (by omega) (by omega) ((H.more (by omega) lt).same E) (one _) up
   ·rw[ai g]
    exact K7 v f _ (a+1) 0 P (by omega) (by omega) (H.more (by omega) lt) (one _) up
  |false=>
   refine⟨P.lt v _,P.lt v _,?_⟩;cases o:kc key (p.getD (a-1) 0) (p.getD a 0) with
   |true=>exact h p a q P (ar _) (by omega) H h1 he|false=>
    have eq:gk key p a=gk key p (a-1):=KeyOrd.kle_antisymm (show O.kle (gk key p a) (gk key p (a-1)) from o) (show O.kle (gk key p (a-1)) (gk key p a) from e)
    refine K7 v f p (a+1) (q+1) P (by omega) (by omega) (H.more (by omega) (by rw[eq];exact KeyOrd.kle_refl _)) (λk x y=>?_) up
    show gk key p k=gk key p a;rcases lt_or_ge k a with c|c
    ·rw[eq];exact he k (by omega) c
    ·obtain rfl:k=a:=by omega
     rfl
def OI {p:Array Nat}{a r:Nat}{Q:Nat×Array Nat->Prop}(e:0<n)(P:jX n p)(f:1<=a)(d:a<=r)(c:r<=n)(s:we key p a)(h:∀m b,jX n b->1<=m->m<=r->kK key b m->Q (m,b)):TW n (kc key) (kas_tail3 a r p) Q:=by
 refine TW.bind _ (Vm (P.rev _ _) e _ _ f (λi j x y=>?_) λm x y H _=>h m _ (P.rev _ _) (by omega) (by omega) H)
 have z:a<=p.size:=by rw[P.size];omega
 rw[Va z,Va z,ah (by omega),ah (by omega)]
 exact s _ _ (by omega) (by omega)
def Om {p:Array Nat}{a r:Nat}{Q:Nat×Array Nat->Prop}(i:0<n)(P:jX n p)(g:a+1<=r)(e:r<=n)(s:we key p (a+1))(h:∀m b,jX n b->1<=m->m<=r->kK key b m->Q (m,b)):TW n (kc key) (kas_descPart a r p) Q:=by
 refine TW.bind _ (K7 i _ _ _ _ P (by omega) (by omega) s (λk x y=>?_) λb m q d x y H f j=>?_)
 ·obtain rfl:k=a:=by omega
  rfl
 ·show TW n (kc key) (if q > 0 then kas_tail3 m r (kas_rev b (m-(q+1)) m) else kas_tail3 m r b) Q
  by_cases c:q > 0
  ·rw[ah c]
   exact OI i (d.rev _ _) (by omega) (by omega) e (H.same (GB (by rw[d.size];omega) j)) h
  ·rw[ai c]
   exact OI i d (by omega) (by omega) e H h
def w_count {p:Array Nat}{r:Nat}{Q:Nat×Array Nat->Prop}(l:0<n)(P:jX n p)(q:1<=r)(f:r<=n)(h:∀m d,jX n d->1<=m->m<=r->kK key d m->Q (m,d)):TW n (kc key) (kas_count r p) Q:=by
 refine TW.bind _ (Vm P l _ _ (ar _) kK.one λm x y H o=>?_)
 by_cases c:m=r
 ·rw[ah (by simp[c])]
  exact h m p P x (by omega) H
 ·rw[ai (by simp[c])]
  have lt:O.klt (gk key p m) (gk key p (m-1)):=o.resolve_left (by omega)
  by_cases C:m > 1
  ·rw[ah C]
   refine⟨P.lt l _,P.lt l _,?_⟩;cases e:kc key (p.getD 0 0) (p.getD (m-1) 0) with
   |true=>exact h m p P x (by omega) H|false=>
    have all:∀k,0<=k->k<m->gk key p k=gk key p (m-1):=λk _ g=>
     KeyOrd.kle_antisymm (H k (m-1) (by omega) (by omega)) (KeyOrd.kle_trans (show O.kle (gk key p (m-1)) (gk key p 0) from e) (H 0 k (by omega) g))
    have s:we key p m:=λi j a b=>by
     rw[all i (by omega) (by omega),all j (by omega) b]
     exact KeyOrd.kle_refl _
    exact Om l (P.rev _ _) (by omega) f ((s.more x (KeyOrd.kle_of_klt lt)).same (GB (by rw[P.size];omega) all)) h
  ·rw[ai C]
   obtain rfl:m=1:=by omega
   have s:we key p 1:=λi j a b=>by
    obtain rfl:i=j:=by omega
    exact KeyOrd.kle_refl _
   exact Om l P (by omega) f (s.more x (KeyOrd.kle_of_klt lt)) h
theorem Xf {p:Array Nat}{k:Nat}(j:0<n)(P:jX n p)(H:kK key p k):∀(f l r:Nat){Q:Nat->Prop},l<=r->r<=k->r-l<=f->(∀i,i<l->O.kle (gk key p i) (gk key p k))->(∀i,r<=i->i<k->O.klt (gk key p k) (gk key p i))->
  (∀m,m<=k->(∀i,i<m->O.kle (gk key p i) (gk key p k))->(∀i,m<=i->i<k->O.klt (gk key p k) (gk key p i))->Q m)->TW n (kc key) (kas_place p k f l r) Q
 |0,l,r,Q,h1,d,g,lo,hi,h=>h l (by omega) lo (λi a b=>hi i (by omega) b)|f+1,l,r,Q,h1,d,g,lo,hi,h=>by
  show TW n (kc key) (if l ≥ r then _ else _) Q
  by_cases c:l ≥ r
  ·rw[ah c]
   exact h l (by omega) lo (λi a b=>hi i (by omega) b)
  ·rw[ai c]
   refine⟨P.lt j _,P.lt j _,?_⟩;cases e:kc key (p.getD k 0) (p.getD ((l+r)/2) 0) with
   |true=>exact Xf j P H f l ((l+r)/2) (by omega) (by omega) (by omega) lo (λi a b=>KeyOrd.klt_of_klt_of_kle e (H _ _ a b)) h|false=>exact Xf j P H f ((l+r)/2+1) r (by omega) d (by omega) (λi a=>KeyOrd.kle_trans (H i ((l+r)/2) (by omega) (by omega)) e) hi h
theorem O7 (l:0<n):∀(f:Nat)(p:Array Nat)(k:Nat){Q:Array Nat->Prop},jX n p->k+f=n->kK key p k->(∀d,jX n d->kK key d n->Q d)->TW n (kc key) (kas_bin f p k) Q
 |0,p,k,Q,P,e,H,h=>h p P (by rw[<- e];exact H)|f+1,p,k,Q,P,e,H,h=>by
  refine TW.bind _ (Xf l P H k 0 k (by omega) (by omega) (by omega) (λi a=>by omega) (λi a b=>by omega) λm q L o=>?_)
  refine O7 l f _ (k+1) (P.bub _ _) (by omega) (λi j a b=>?_) h
  have z:k<p.size:=by rw[P.size];omega
  rw[PU z (by omega),PU z (by omega),show k-(k-m)=m by omega]
  by_cases C:i=m
  ·rw[ah C]
   by_cases c:j=m
   ·rw[ah c];exact KeyOrd.kle_refl _
   ·rw[ai c,ah (by omega)]
    exact KeyOrd.kle_of_klt (o _ (by omega) (by omega))
  ·rw[ai C]
   by_cases c:j=m
   ·rw[ah c,ai (by omega)]
    exact L i (by omega)
   ·rw[ai c]
    by_cases g:m<i/\i<=k
    ·rw[ah g,ah (by omega)]
     exact H _ _ (by omega) (by omega)
    ·rw[ai g]
     by_cases D:m<j/\j<=k
     ·rw[ah D]
      exact H _ _ (by omega) (by omega)
     ·rw[ai D]
      exact H _ _ a (by omega)
def hV {Q:Array Nat->Prop}(a:2<=n)(h:∀p,jX n p->kK key p n->Q p):TW n (kc key) (kas_sort n) Q:=by
 refine TW.bind _ (w_count (by omega) ⟨Array.Perm.refl _⟩ (by omega) (ar _) λm p P d b H=>?_)
 show TW n (kc key) (if m<n then _ else _) Q
 by_cases c:m<n
 ·rw[ah c]
  show TW n (kc key) (kas_bin (n-max m 1) p (max m 1)) Q;rw[show max m 1=m by omega]
  exact O7 (by omega) _ _ _ P (by omega) H h
 ·rw[ai c]
  obtain rfl:m=n:=by omega
  exact h p P H
end
open PySem.W (KasT kas_sort kas_ask kat_run kat_snds kat_kind kat_lt kat_cons kat_nil kat_yes kat_no kat_one KatLex KatGo KatTups)
noncomputable def yF  [DecidableEq α] (lt:α->α->Bool):List α->List α->Bool
 |[],[]=>false|[],_::_=>true|_::_,[]=>false|a::x,b::y=>if a=b then yF lt x y else lt a b
section
variable (O:KeyOrd)[DecidableEq O.α]
theorem G5:∀x:List O.α,yF O.blt x x=false
 |[]=>rfl|a::x=>by unfold yF;rw[ah rfl];exact G5 x
theorem Pw:∀x y z:List O.α,yF O.blt x y=true->yF O.blt y z=true->yF O.blt x z=true
 |[],[],_,h,_=>by cases h|[],_::_,[],_,h=>by cases h|[],_::_,_::_,_,_=>rfl|_::_,[],_,h,_=>by cases h|_::_,_::_,[],_,h=>by cases h|a::x,b::y,c::z,h1,H=>by
  unfold yF at*
  by_cases f:a=b
  ·subst f
   rw[ah rfl]at h1
   by_cases E:a=c
   ·rw[ah E]at H ⊢
    exact Pw x y z h1 H
   ·rw[ai E]at H ⊢
    exact H
  ·rw[ai f]at h1
   by_cases E:b=c
   ·subst E
    rw[ai f];exact h1
   ·rw[ai E]at H
    have d:=O.trans a b c h1 H;rw[ai λe=>by rw[e,O.irrefl]at d;cases d]
    exact d
theorem RJ:∀x y z:List O.α,yF O.blt x z=true->yF O.blt x y=true∨yF O.blt y z=true
 |[],[],_,h=>.inr h|[],_::_,_,_=>.inl rfl|_::_,_,[],h=>by cases h|_::_,[],_::_,_=>.inr rfl|a::x,b::y,c::z,h=>by
  unfold yF at*
  by_cases E:a=b
  ·subst E
   rw[ah rfl]
   by_cases e:a=c
   ·rw[ah e]at h ⊢
    exact RJ x y z h
   ·rw[ai e]at h ⊢
    exact .inr h
  ·rw[ai E]
   by_cases e:a=c
   ·subst e
    rw[ai (Ne.symm E)];cases l:O.blt a b with
    |true=>exact .inl rfl|false=>
     cases m:O.blt b a with
     |true=>exact .inr rfl|false=>exact absurd (O.total a b l m) E
   ·rw[ai e]at h
    by_cases d:b=c
    ·subst d
     exact .inl h
    ·rw[ai d]
     exact O.negTrans a b c h
theorem S6:∀x y:List O.α,yF O.blt x y=false->yF O.blt y x=false->x=y
 |[],[],_,_=>rfl|[],_::_,h,_=>by cases h|_::_,[],_,h=>by cases h|a::x,b::y,h1,H=>by
  unfold yF at*
  by_cases e:a=b
  ·subst e
   rw[ah rfl]at h1 H;rw[S6 x y h1 H]
  ·rw[ai e]at h1
   rw[ai (Ne.symm e)]at H;exact absurd (O.total a b h1 H) e
abbrev hW:KeyOrd:=⟨List O.α,yF O.blt,G5 O,Pw O,RJ O,S6 O⟩
end
noncomputable abbrev IO:KeyOrd:=⟨Int,λa b=>decide (a<b),λa=>by simp,λa b c d H=>by simp only[ao]at*;omega,λa b c h=>by simp only[ao]at*;omega,λa b d H=>by simp only[decide_eq_false_iff_not]at*;omega⟩
abbrev kA:List Int->List Int->Bool:=yF IO.blt
abbrev j9:KeyOrd:=hW IO
def Cm (x:bR):kA x x=false:=G5 IO x
section
variable {O:KeyOrd}
noncomputable def Jx (x:O.α):List O.α->List O.α
 |[]=>[x]|y::l=>if O.blt y x then y::Jx x l else x::y::l
def qV:List O.α->List O.α
 |[]=>[]|x::l=>Jx x (qV l)
theorem GO (x:O.α):∀l,(Jx x l).Perm (x::l)
 |[]=>List.Perm.refl _|y::l=>by
  unfold Jx
  split
  ·exact((GO x l).cons y).trans (List.Perm.swap x y l)
  ·exact List.Perm.refl _
theorem JP:∀l:List O.α,(qV l).Perm l
 |[]=>List.Perm.refl _|x::l=>(GO x (qV l)).trans ((JP l).cons x)
theorem Tc (x:O.α):∀{l:List O.α},l.Pairwise O.kle->(Jx x l).Pairwise O.kle
 |[],_=>List.pairwise_singleton _ _|y::l,h=>by
  unfold Jx;cases c:O.blt y x with
  |true=>
   rw[ah rfl];refine List.pairwise_cons.mpr ⟨λz H=>?_,Tc x (List.pairwise_cons.mp h).2⟩;rcases cn.mp ((GO x l).mem_iff.mp H) with rfl|H
   ·exact KeyOrd.kle_of_klt c
   ·exact(List.pairwise_cons.mp h).1 z H
  |false=>
   rw[ai (by simp)]
   refine List.pairwise_cons.mpr ⟨λz H=>?_,h⟩;rcases cn.mp H with rfl|H
   ·exact c
   ·exact KeyOrd.kle_trans c ((List.pairwise_cons.mp h).1 z H)
theorem Y2:∀l:List O.α,(qV l).Pairwise O.kle
 |[]=>.nil|x::l=>Tc x (Y2 l)
theorem Xp:∀{a b:List O.α},a.Perm b->a.Pairwise O.kle->b.Pairwise O.kle->a=b
 |[],b,p,_,_=>by rw[List.nil_perm.mp p]|x::a,[],p,_,_=>absurd p.length_eq (by simp)|x::a,y::b,p,H,h=>by
  have d:x∈y::b:=p.mem_iff.mp (aq ..);have c:y∈x::a:=p.mem_iff.mpr (aq ..);have e:x=y:=by
   rcases cn.mp d with e|e
   ·exact e
   ·rcases cn.mp c with E|E
    ·exact E.symm
    ·exact O.total _ _ ((List.pairwise_cons.mp h).1 x e) ((List.pairwise_cons.mp H).1 y E)
  subst e;rw[Xp (List.Perm.cons_inv p) (List.pairwise_cons.mp H).2 (List.pairwise_cons.mp h).2]
theorem HG:∀{l:List O.α},l.length<2->l=qV l
 |[],_=>rfl|[_],_=>rfl|_::_::_,h=>absurd h (by simp)
end
abbrev Vn:List (bR)->List (bR):=qV (O:=j9)
def VE {d:α}(l:List α):((List.range l.length).map λi=>l.getD i d)=l:=by
 refine bq (by simp) λi a b=>?_
 simp at a;simp[a]
def hX (v:bS):(v.toArray.zip v.toArray).map (·.2)=v.toArray:=by
 apply Array.toList_inj.mp
 rw[Array.toList_map];simp only[Array.toList_zip,List.toList_toArray];exact List.map_snd_zip (ar _)
section
variable {prog:Program}{A:Around}
def hZ {b:Bool}{x y:Int}{t u:Tok}{Q:Bool->Shared->Prop}(h:Q (decide (x<y)) s):wpAny (model prog w) A (oneLt' b (.int x t) (.int y u)) Q E s:=by
 cases b with
 |true=>exact oneLt_int h|false=>exact kat_one _ _ (wpAny_lt_int h)
theorem Og {Q:Bool->Shared->Prop}{b:Bool}:∀{x y:bS}{f bs:bR}{i:Nat},IntsAre x f->IntsAre y bs->Q (kA f bs) s->KatLex prog w A b (decide (x.length<y.length)) Q (x.zip y) i s
 |_,_,_,_,_,.nil,.nil,h=>h|_,_,_,_,_,.nil,.cons _ _ _,h=>by
  refine kat_nil (s:=s) ?_;simpa[yF] using h
 |_,_,_,_,_,.cons _ _ _,.nil,h=>by
  refine kat_nil (s:=s) ?_;simpa[yF] using h
 |_,_,_,_,i,.cons (vs:=x) a t d,.cons (vs:=y) c u r,h=>by
  refine kat_cons (wpAny_eqBool_int ?_);unfold kA yF at h
  by_cases e:a=c
  ·subst e
   rw[ah rfl]at h;rw[bt];refine kat_yes ?_;show KatLex prog w A b (decide (x.length+1<y.length+1)) Q (x.zip y) (i+1) s;rw[show decide (x.length+1<y.length+1)=decide (x.length<y.length) by simp]
   exact Og d r h
  ·rw[ai e]at h
   rw[show(a==c)=false by simp[e]]
   exact kat_no (hZ h)
def QP (h:Heap)(v:Value)(k:bR):Prop:=∃(a:Addr) (o:Obj) (l6:bS) (n:Nat),v=.ref a/\h.get? a=some o/\o.cls=.type "tuple" /\ o.data=.seq l6.toArray n/\IntsAre l6 k
def QP.keep {v:Value}{k:bR}(t:QP h v k)(kp:∀b o,h.get? b=some o->h'.get? b=some o):QP h' v k:=by
 obtain⟨a,o,i,n,e,f,d,c,H⟩:=t;exact⟨a,o,i,n,e,kp _ _ f,d,c,H⟩
def ia {x y:Value}{k:bR}{b:Bool}{Q:Bool->Shared->Prop}(f:QP s.heap x k)(e:QP s.heap y l)(h:Q (kA k l) s):wpAny (model prog w) A (keyLt' (tuples' b) x y) Q E s:=by
 obtain⟨a,o,I,n,rfl,r,_,j,g⟩:=f;obtain⟨p,t,q,N,rfl,d,_,c,H⟩:=e;refine kat_lt r j d c ?_
 have:=Og (prog:=prog) (w:=w) (A:=A) (b:=b) (i:=0) g H h
 simpa using this
inductive kx (h:Heap):List Value->List (bR)->Prop
 |nil:kx h [] []
 |cons {v:Value} {k:bR} {vs:bS} {ks:bQ} (t:QP h v k) (ne:k≠[]) (r:kx h vs ks):kx h (v::vs) (k::ks)
theorem kx.length:∀{v:bS}{K:bQ},kx h v K->v.length=K.length
 |_,_,.nil=>rfl|_,_,.cons _ _ r=>by simp[r.length]
theorem kx.keep (kp:∀b o,h.get? b=some o->h'.get? b=some o):∀{v:bS}{K:bQ},kx h v K->kx h' v K
 |_,_,.nil=>.nil|_,_,.cons t ne r=>.cons (t.keep kp) ne (r.keep kp)
theorem kx.at:∀{v:bS}{K:bQ}(i:Nat),kx h v K->i<K.length->QP h (v.getD i Value.none) (K.getD i [])
 |_,_,_,.nil,hi=>by simp at hi|_,_,0,.cons t _ _,_=>t|_,_,i+1,.cons _ _ r,hi=>r.at i (by simpa using hi)
theorem kx.firsts:∀{s:bS}{K:bQ},kx h s K->∃fs:bS,KatTups h s fs/\fs.length=s.length/\∀v∈fs,∃i t,v=Value.int i t
 |_,_,.nil=>⟨[],trivial,rfl,λv H=>by cases H⟩|_,_,.cons (k:=k) ⟨a,o,l6,n,e,h1,d,c,b⟩ ne r=>by
  obtain⟨fs,t,l,f⟩:=r.firsts;cases b with
  |nil=>exact absurd rfl ne|cons i T q=>
   refine⟨Value.int i T::fs,⟨⟨a,o,_,n,e,h1,d,c,rfl⟩,t⟩,by simp[l],λv H=>?_⟩
   rcases cn.mp H with rfl|H
   ·exact⟨i,T,rfl⟩
   ·exact f v H
section
variable {O:KeyOrd}{d0:O.α}
structure K3 (prog:Program)(w:World)(A:Around)(κ:SortKind)(vs:bS)(ks:List O.α)(d0:O.α)(s:Shared):Prop where
 kind:2<=vs.length->∀{Q:SortKind->Shared->Prop}{E:bX},Q κ s->wpAny (model prog w) A (keyKind' vs.toArray) Q E s
 lt:∀i j,i<ks.length->j<ks.length->∀{Q:Bool->Shared->Prop}{E:bX},Q (O.blt (ks.getD i d0) (ks.getD j d0)) s->wpAny (model prog w) A (keyLt' κ (vs.getD i Value.none) (vs.getD j Value.none)) Q E s
def HE {κ:SortKind}{vs:bS}{ks:List O.α}{P:PySem.Fin->Shared->Prop}(f:s.heap.get? a=some (seqObj "list" vs.toArray n))(l:vs.length=ks.length)(J:∀h':Heap,(∀b o,b≠a->s.heap.get? b=some o->h'.get? b=some o)->K3 prog w A κ vs ks d0 { s with heap:=h' })(v:vs.length<64)
  (h:∀p:Array Nat,p.Perm (List.range ks.length).toArray->(p.toList.map λi=>ks.getD i d0)=qV ks->P (.done (.ret .none)) { s with heap:=sortedHeap s.heap a vs (p.toList.map λi=>vs.getD i Value.none).toArray }):
  wpAny (model prog w) A (Builtin.«list.sort» ⟨[.ref a],[]⟩) P E s:=by
 have ha:a<s.heap.objs.size:=aG f;obtain⟨y,d⟩:∃y,(s.heap.update a (Obj.mapSeq λ_=>(#[]:Array Value))).get? a=some (seqObj "list" #[] y):=⟨_,get?_update_seq f λ_=>#[]⟩;have kp:∀b o,b≠a->s.heap.get? b=some o->(((s.heap.update a (Obj.mapSeq λ_=>(#[]:Array Value))).push (seqObj "tuple" vs.toArray 0)).push (seqObj "list" #[] 0)).get? b=some o:=λb o ne e=>
  af _ (af _ ((aS _ _ (Ne.symm ne)).trans e))
 have T:=J _ kp;have H:=af (seqObj "list" #[] 0) (af (seqObj "tuple" vs.toArray 0) d);have hsz:vs.toArray.size=vs.length:=by simp
 rw[list_sort_plain];refine ck (listItems_at f rfl ?_);refine ck (listUpdate_at f rfl ?_ (by rw[hsz,sizeLine_eq];omega) (bG _))
 refine ck (seqEpoch_at d rfl ?_);refine ck (wpAny_newTuple ?_ (by show vs.length<=_;rw[sizeLine_eq];omega))
 refine ck (wpAny_newList ?_ (bG _));refine wpAny_holding ?_;show wpAny (model prog w) A _ P E { s with heap:=((s.heap.update a (Obj.mapSeq λ_=>(#[]:Array Value))).push (seqObj "tuple" vs.toArray 0)).push (seqObj "list" #[] 0) }
 dsimp only
 by_cases c:vs.toArray.size<2
 ·rw[ah c,ah c]
  refine ck (cm ?_);rw[StateT.run_pure];refine ck (cm ?_);dsimp only;have N:((vs.toArray.zip vs.toArray).map (·.2))=((List.range ks.length).toArray.toList.map λi=>vs.getD i Value.none).toArray:=by
   rw[<- l,List.toList_toArray,VE];exact hX vs
  refine ck (seqEpoch_at H rfl ?_);show wpAny _ _ (Builtin.List.listUpdate (.ref a) (λ_=>(vs.toArray.zip vs.toArray).map (·.2)) >>= _) _ _ _;rw[N];refine ck (listUpdate_at H rfl ?_ (bG _) (by rw[az,ag];simp;rw[<- l,sizeLine_eq];omega))
  simp only[bne_self_eq_false,a8,if_false];refine cm (h (List.range ks.length).toArray (Array.Perm.refl _) ?_);rw[List.toList_toArray,VE];rw[hsz,l]at c;exact HG c
 ·rw[ai c,ai c]
  have x:2<=vs.length:=by omega
  refine ck (T.kind x ?_);refine ck (wpAny_mono (kat_run (ks:=vs) (G:=λp s'=>s'={ s with heap:=((s.heap.update a (Obj.mapSeq λ_=>(#[]:Array Value))).push (seqObj "tuple" vs.toArray 0)).push (seqObj "list" #[] 0) }/\p.Perm (List.range ks.length).toArray/\(p.toList.map λi=>ks.getD i d0)=qV ks)
   (Q:=λS s'=>∃p:Array Nat,p.size=vs.length/\arrOf S=p.map (PySem.W.kas_item (vs.toArray.zip vs.toArray))/\failedOf S=none/\s'={ s with heap:=((s.heap.update a (Obj.mapSeq λ_=>(#[]:Array Value))).push (seqObj "tuple" vs.toArray 0)).push (seqObj "list" #[] 0) }/\p.Perm (List.range ks.length).toArray/\(p.toList.map λi=>ks.getD i d0)=qV ks)
   rfl x v (λp S s' a1 a2 Z Y=>⟨p,a1,a2,Z,Y⟩) ?_) ?_ λ_ _ e=>e)
  ·rw[l]
   refine TW.wp (n:=ks.length) (c:=kc (O:=O) λi=>ks.getD i d0) (λi j C hi q L=>?_) _ (hV (by omega) λp P D=>⟨rfl,P.pm,?_⟩)
   ·exact T.lt i j hi q L
   ·refine Xp ?_ ?_ (Y2 ks)
    ·have h1:(p.toList.map λi=>ks.getD i d0).Perm ((List.range ks.length).map λi=>ks.getD i d0):=(Array.perm_iff_toList_perm.mp P.pm).map _
     rw[VE]at h1;exact h1.trans (JP ks).symm
    ·rw[bM,List.pairwise_iff_getElem]
     intro i j hi q K;have z:p.size=ks.length:=P.size;have r:i<p.size:=by simpa using hi
     have g:j<p.size:=by simpa using q
     have:=D i j (by omega) (by omega)
     unfold gk at this;have X:p.getD i 0=p.toList[i]:=by simp[Array.getD,r]
     have U:p.getD j 0=p.toList[j]:=by simp[Array.getD,g]
     rw[X,U]at this;exact this
  ·rintro⟨⟨⟩,S⟩ s' ⟨p,I,u,t,rfl,pm,M⟩
   dsimp only;rw[kat_snds rfl u];have B:(List.toArray (p.toList.map λi=>vs.getD i Value.none)).size=vs.length:=by rw[az,ag,aQ,I]
   refine ck (seqEpoch_at H rfl ?_);refine ck (listUpdate_at H rfl ?_ (bG _) (by rw[B,sizeLine_eq];omega))
   rw[t];simp only[bne_self_eq_false,a8,if_false];exact cm (h p pm M)
def Rn {C:SortKind}{l:Addr}{v:bS}{x:List O.α}(j:s.heap.IsList l v.toArray)(y:v.length=x.length)(T:∀(g:Around)(u:Heap)(D:Nat),g.units<=A.units+8->(∀b o,s.heap.get? b=some o->u.get? b=some o)->K3 prog w g C v x d0 { s with heap:=u,toks:=D })(f:v.length<64)
  (h:∀(u:Heap)(a:Addr)(p:Array Nat)(c:Nat),s.heap.objs.size<=a->p.Perm (List.range x.length).toArray->(p.toList.map λi=>x.getD i d0)=qV x->u.get? a=some { cls:=.type "list",data:=.seq (p.toList.map λi=>v.getD i Value.none).toArray c }->
   (∀b o,s.heap.get? b=some o->u.get? b=some o)->Q (.ref a) { s with heap:=u }):
  wpAny (model prog w) A (call (.builtin "sorted") [.ref l]) Q E s:=by
 refine Calls.call_function_entry kind_sorted plain_sorted entry_sorted (args_sorted1 _) ?_;unfold Builtin.«sorted»;refine ck (m:=checkCount "sorted" 1 1 _) (cm ?_);refine ck (collect_list j ?_ (by rw[sizeLine_eq];omega))
 refine ck (wpAny_newList ?_ (by rw[sizeLine_eq];omega))
 have B:((s.heap.push (seqObj "list" #[] 0)).update s.heap.objs.size (Obj.mapSeq (·++v.toArray))).objs.size=s.heap.objs.size+1:=by rw[Heap.size_update,size_push']
 show wpAny _ _ _ _ _ { s with heap:=((s.heap.push (seqObj "list" #[] 0)).update s.heap.objs.size (Obj.mapSeq (·++v.toArray))).push (seqObj "list" v.toArray 0) }
 have d:∀b o,s.heap.get? b=some o->((s.heap.push (seqObj "list" #[] 0)).update s.heap.objs.size (Obj.mapSeq (·++v.toArray))).get? b=some o:=λb o e=>
  (aS _ _ (br (aG e))).trans (af _ e)
 generalize (s.heap.push (seqObj "list" #[] 0)).update s.heap.objs.size (Obj.mapSeq (·++v.toArray))=h1 at B d;have H:(h1.push (seqObj "list" v.toArray 0)).get? h1.objs.size=some (seqObj "list" v.toArray 0):=aw _ rfl;have K:∀b o,s.heap.get? b=some o->(h1.push (seqObj "list" v.toArray 0)).get? b=some o:=λb o e=>af _ (d b o e);have N:∀b o,s.heap.get? b=some o->b≠h1.objs.size:=λb o e z=>by
  subst z
  have:h1.objs.size<s.heap.objs.size:=aG e
  omega
 refine ck (wpAny_holding (wpAny_call_entry slot_list_sort ⟨_,H,rfl⟩ entry_list_sort (HE (κ:=C) (ks:=x) (d0:=d0) H y (λu kp=>T _ u _ (by first|(show A.units+1<=A.units+8;omega)|(show A.units+1+1<=A.units+8;omega)) λb o e=>kp b o (N b o e) (K b o e)) f λp P n=>⟨_,rfl,?_⟩) (args_list_sort _)))
 refine cm ⟨_,rfl,?_⟩;have t:=get?_update_seq H (λ_=>(#[]:Array Value));have r:=af (seqObj "list" #[] 0) (af (seqObj "tuple" v.toArray 0) t);obtain⟨c,q⟩:∃c,(sortedHeap (h1.push (seqObj "list" v.toArray 0)) h1.objs.size v (p.toList.map λi=>v.getD i Value.none).toArray).get? h1.objs.size=some (seqObj "list" (p.toList.map λi=>v.getD i Value.none).toArray c):=⟨_,get?_update_seq r (λ_=>(p.toList.map λi=>v.getD i Value.none).toArray)⟩;refine h _ h1.objs.size p c (by omega) P n q λb o e=>?_
 unfold sortedHeap;exact(aS _ _ (Ne.symm (N b o e))).trans (af _ (af _ ((aS _ _ (Ne.symm (N b o e))).trans (K b o e))))
end
def Ey {c:bS}{A:Around}(T:kx s.heap c ks):K3 (O:=j9) prog w A (tuples' (Value.type "int" != Value.type "tuple")) c ks [] s where
 kind:=λb Q E h=>by
  obtain⟨fs,t,fl,f⟩:=T.firsts;exact kat_kind (T:=.type "int") t (by omega) (λv H=>by obtain⟨i,e,rfl⟩:=f v H;exact PySem.W.Looks.of_pure rfl) rfl h
 lt:=λi j d a Q E h=>ia (T.at i d) (T.at j a) h
def LO {l:Addr}{v:bS}(d:s.heap.IsList l v.toArray)(T:kx s.heap v ks)(H:v.length<64)
  (h:∀(e:Heap)(a:Addr)(p:Array Nat)(c:Nat),s.heap.objs.size<=a->p.Perm (List.range ks.length).toArray->(p.toList.map λi=>ks.getD i [])=Vn ks->e.get? a=some { cls:=.type "list",data:=.seq (p.toList.map λi=>v.getD i Value.none).toArray c }->
   (∀b o,s.heap.get? b=some o->e.get? b=some o)->Q (.ref a) { s with heap:=e }):
  wpAny (model prog w) A (call (.builtin "sorted") [.ref l]) Q E s:=
 Rn (O:=j9) (d0:=[]) d T.length (λA e t _ kp=>Ey (s:={ s with heap:=e,toks:=t }) (T.keep kp)) H h
end
noncomputable def zq (k:bR):W:=.tup (k.map W.int)
def Z5:List W->Option (bQ)
 |[]=>some []|.tup x::ws=>match intsOf x with
  |some k=>if k=[] then none else(Z5 ws).map (k::·)|none=>none
 |_::_=>none
theorem Ro:∀{s:List W}{K:bQ},Z5 s=some K->s=K.map zq/\∀k∈K,k≠[]
 |[],_,h=>by cases h;exact⟨rfl,λk a=>by cases a⟩|w::s,K,h=>by
  cases w with
  |tup X=>
   unfold Z5 at h;cases E:intsOf X with
   |none=>rw[E]at h;cases h|some k=>
    rw[E]at h;dsimp only at h
    by_cases c:k=[]
    ·rw[ah c]at h;cases h
    ·rw[ai c]at h
     cases e:Z5 s with
     |none=>rw[e]at h;cases h|some l=>
      rw[e]at h;cases h;obtain⟨b,A⟩:=Ro e;refine⟨by rw[aK,<- b,ZO E];rfl,λx H=>?_⟩
      rcases cn.mp H with rfl|H
      ·exact c
      ·exact A x H
  |_=>cases h
theorem Vals.sel (h:Vals ys us):∀(l:bV),(∀i∈l,i<ys.length)->Vals (l.map λi=>ys.getD i .non) (l.map λi=>us.getD i Value.none)
 |[],_=>.nil|i::l,hi=>by
  have a:=h.length;have I:i<ys.length:=hi i (aq ..);obtain⟨u,E,e⟩:=h.get (i:=i) (x:=ys[i]) (aa I);refine .cons ?_ (Vals.sel h l λj H=>hi j (ak _ H));show L2.RelV (ys.getD i V.non) (us.getD i Value.none);rw[ae,ae,E,aa I];exact e
theorem zr.sel {K:Frag}{f:List Int->W}:∀{s:bQ}{y:List V}(i:Nat),zr K φ H (s.map f) y->i<s.length->RV K φ H (f (s.getD i [])) (y.getD i .non)
 |[],_,_,_,hi=>by simp at hi|k::s,_,0,⟨v,r,e,h,t⟩,_=>by subst e;exact h|k::s,_,i+1,⟨v,r,e,h,t⟩,hi=>by subst e;exact zr.sel i t (by simpa using hi)
theorem zr.sels {K:Frag}{f:List Int->W}(h:zr K φ H (ks.map f) ys):∀(l:bV),(∀i∈l,i<ks.length)->zr K φ H ((l.map λi=>ks.getD i []).map f) (l.map λi=>ys.getD i .non)
 |[],_=>rfl|i::l,hi=>⟨_,_,rfl,zr.sel i h (hi i (aq ..)),zr.sels h l λj a=>hi j (ak _ a)⟩
section
variable {m:Ev}
theorem RU {j:List (Option V)}(I:Inv X l0 j H s):∀{g:bQ}{y:List V}{i:bS},zr X.K φ H (g.map zq) y->(∀k∈g,k≠[])->Vals y i->kx s.heap i g
 |[],_,_,e,_,b=>by
  have E:_=([]:List V):=e;subst E;rw[Vals.zero b];exact .nil
 |k::g,_,_,⟨v,r,e,h,t⟩,ne,b=>by
  subst e;cases b with
  |cons c b=>
   obtain⟨a,x,e,hT,d⟩:=h;subst e;have w:=zr.ints.mp d;subst w;obtain⟨i,l,⟨o,u,q,n,p⟩,_⟩:=I.tuple hT;cases c;exact .cons ⟨a,o,i,n,rfl,u,q,p,intsAre_of l⟩ (ne k (aq ..)) (RU I t (λk f=>ne k (ak _ f)) b)
def IC:jH X (.builtin "sorted") (λxs H Q=>∃(p:Addr) (Y:List V) (D:bQ) (J:bT),xs=[.ref p]/\qI X.K H p Y/\zr X.K J H (D.map zq) Y/\(∀k∈D,k≠[])/\D.length<64/\
  ∀l zs,H l=none->zr X.K J H ((Vn D).map zq) zs->Q (.ref l) (upd H l (.lst zs))):=by
 intro M s U H xs Z Q I r h;obtain⟨p,Y,D,J,rfl,g,b,S,t,q⟩:=h;obtain⟨u,rfl,e⟩:=vals1 r;cases e;obtain⟨f,v,⟨o,k,A,x,C,w⟩,B⟩:=I.list g;have T:=RU I b S v;have j:=T.length;have y:Y.length=D.length:=by rw[v.length];exact j
 refine LO ⟨o,A,x,k,w⟩ T (by omega) λh' a p c d P E n kp=>?_
 have lt:∀i∈p.toList,i<D.length:=λi L=>by
  have:=(Array.perm_iff_toList_perm.mp P).mem_iff.mp L
  simpa using this
 have N:p.toList.length=D.length:=by rw[aQ,P.size_eq];simp
 have z:=zr.sels b p.toList lt;rw[E]at z;refine⟨.ref a,_,I.laid (t':=s.toks) (o:=.lst (p.toList.map λi=>Y.getD i .non)) kp d ⟨?_,_,c,Vals.sel v p.toList λi L=>by rw[y];exact lt i L,n⟩,rfl,q _ _ (I.hok.fresh d) z⟩
 rw[ag,N,sizeLine_eq];omega
def Xz:W->Hx->R W:=λw A=>match w with
 |.ref n=>match A[n]? with
  |some (.lst ws)=>match Z5 ws with
   |some K=>if K.length<64 then .ok (.ref A.length) (A++[.lst ((Vn K).map zq)]) else .bad|none=>.bad
  |_=>.bad
 |_=>.bad
def Qu (m:Ev):Ev:=λa A=>(m a A).bind λw b=>Xz w b
end
open PySem.W (kas_kind)
theorem RB:∀x y:bR,HT.lexLt x y=kA x y
 |[],[]=>rfl|[],_::_=>rfl|_::_,[]=>rfl|a::x,b::y=>by
  show(if a=b then HT.lexLt x y else decide (a<b))=(if a=b then kA x y else decide (a<b));rw[RB x y]
section
open PySem.SeqAt
open PySem.AutoSeq1 (wpAny_loadPart')
open PySem.MeetsSeq PySem.MeetsSeq2 PySem.MeetsSeq3
end
def MV (a b:Value):checkTypeCall "enumerate" ⟨[a],[("start",b)]⟩=pure ():=by kernel_rfl
def Ld (a b:Value):checkBuiltinCall "enumerate.__new__" ⟨[.type "enumerate",a],[("start",b)]⟩=pure ():=by kernel_rfl
def HP (o a b:Value):argsOk "object.__init__" ⟨[o,a],[("start",b)]⟩:=by unfold argsOk;kernel_rfl
abbrev QR (h:Heap)(a:Addr):Heap:=(wG h true a).push { cls:=.type "enumerate",data:=.fields #[.none,.bool false,.ref h.objs.size,rawInt 1,.none,.none] }
def ID (a:Addr)(i:Array Value)(t:Tok):
  Meets (Builtin.«enumerate.__new__» ⟨[.type "enumerate",.ref a],[("start",.int 1 t)]⟩) (λ_ R s=>s.heap.IsList a i/\R (.ok (.ret (.ref (wG s.heap true a).objs.size))) { s with heap:=QR s.heap a }):=
 .of_wp λP w A R s h=>by
  obtain⟨p,g,d,T,o⟩:=s;obtain⟨hT,h⟩:=h;have e:=sub_enumerate;obtain⟨⟨c,l,D,S⟩,H,b,n,f⟩:=id hT
  replace b:c=.type "list":=b
  replace f:D=.seq i n:=f
  subst b f
  wp_walk using wpAny_loadPart' H
  refine wpAny_stack_any λj=>cm ?_;split
  ·rename_i c _ _ _ _ _
   cases (c==Value.type "enumerate")<;>(wp_walk using wpAny_loadPart' H,wpAny_pyIter_list hT;exact⟨_,rfl,h⟩)
  ·wp_walk using wpAny_loadPart' H,wpAny_pyIter_list hT
   exact⟨_,rfl,h⟩
section
variable {prog:Program}{A:Around}
def HI {t:Tok}(v:s.heap.IsList a items)
  (h:∀h',IsEnum h' (s.heap.objs.size+1) s.heap.objs.size 1 .none->jk true h' s.heap.objs.size a 0->(∀b o,s.heap.get? b=some o->h'.get? b=some o)->Q (.ref (s.heap.objs.size+1)) { s with heap:=h' }):
  wpAny (model prog w) A (call (.type "enumerate") [.ref a] [("start",.int 1 t)]) Q E s:=by
 have d:=F.called_enumerate;obtain⟨c,T,q⟩:=d.mro;have l:=d.made;have p:=d.sub;have L:=d.notType;have D:=d.canCreate;have y:=MV (.ref a) (.int 1 t);refine wpAny_call (codeAny_of_tree ?_);show wpAny _ _ (callAny (.type "enumerate") _) _ _ _;refine cm ⟨Code.quiet_builtin _ (by decide +kernel),codeAny_builtin F.entry_type_call ?_⟩
 rw[Around.under_plain (weight_type_call_type "enumerate" [.ref a] [("start",.int 1 t)]) (units_type_call_type "enumerate" [.ref a] [("start",.int 1 t)])]
 repeat (any_goals (first|assumption|wp_step))
 have z:(wG s.heap true a).objs.size=s.heap.objs.size+1:=bc ..;have J:IsEnum (QR s.heap a) (wG s.heap true a).objs.size s.heap.objs.size 1 .none:=aw _ rfl;refine codeAny_mono (codeAny_call_builtin d.plain F.entry_enumerate_new (wpAny_of_eq (Ld _ _) (ID a items t prog w A.in1 (wants (λobj K=>obj=.ref (wG s.heap true a).objs.size/\K={ s with heap:=QR s.heap a }) E) s ⟨v,rfl,rfl⟩))) λr n j=>?_
 cases r with
 |error e=>exact j|ok fl=>
  cases fl with
  |ret obj=>
   obtain⟨rfl,rfl⟩:=j;have hT:Shared.TypeIs { s with heap:=QR s.heap a } (.ref (wG s.heap true a).objs.size) "enumerate":=⟨_,J,rfl⟩
   have u:=d.init.lookup;have B:=d.init.bind (.ref (wG s.heap true a).objs.size)
   repeat (any_goals (first|assumption|wp_step))
   refine codeAny_mono (codeAny_call_builtin d.init.plain F.entry_object_init (d.init.check _ _ _ _ _ _ _ _ hT (HP _ _ _) (?_:wpAny (model prog w) A.in1.in1 (Builtin.«object.__init__» ⟨[.ref (wG s.heap true a).objs.size,.ref a],[("start",.int 1 t)]⟩) (λfin I=>match fin with|.done f=>wants (λr S=>r=.none/\S={ s with heap:=QR s.heap a }) E (.ok f) I | .again C=>C.quiet=true/\codeAny (model prog w) A.in1 C (wants (λr S=>r=.none/\S={ s with heap:=QR s.heap a }) E) I) (λe I=>wants (λr S=>r=.none/\S={ s with heap:=QR s.heap a }) E (.error e) I) _))) λi S H=>?_
   ·repeat (any_goals (first|assumption|wp_step))
    exact⟨rfl,rfl⟩
   ·cases i with
    |error e=>exact H|ok g=>
     cases g with
     |ret r=>
      obtain⟨rfl,rfl⟩:=H
      repeat (any_goals (first|assumption|wp_step))
      rw[z]at J ⊢;exact h _ J (.mk ⟨_,af _ (aw _ rfl),rfl,rfl⟩) λb o x=>af _ (af _ x)
     |_=>exact H.elim
  |_=>exact j.elim
end
def Draws.on {g:Program}{A:Around}{P:Nat->Value->Prop}{St:Nat->Heap->Prop}(D:Draws g w A it fp n P St):Draws g w A it fp (n+1) (λi=>P (i-1)) (λi h=>1<=i/\St (i-1) h) where
 live:=λi h S=>D.live _ h S.2
 frame:=λi h b S k=>⟨S.1,D.frame _ h b S.2 k⟩
 item:=λi s Q E c S H=>D.item (i-1) s Q E (by have:=S.1;omega) S.2 λx b t p q=>H x b t p ⟨by omega,by have:=S.1;rw[show i+1-1=i-1+1 by omega];exact q⟩
 done:=λs Q E S a=>D.done s Q E S.2 a
def Nt (K:Frag)(a:Addr):It:=
 ⟨λi H=>∃X x,yn true K H a X/\X[i]? =some x,λi H x h=>∃p y,(∀X,yn true K H a X->X[i]? =some y)/\H p=none/\x=.ref p/\h=upd H p (.tup [.int ((i+1:Nat):Int),y]),λi H=>∃X,yn true K H a X/\X.length=i⟩
def HK {K:Frag}(a n it:Addr):Turn P w K (.Tuple lN kk l7) (Nt K a) [n,it] n (λi h=>(∃old,IsEnum h n it ((i+1:Nat):Int) old)/\jk true h it a i/\n≠it) where
 mem:=by simp
 obj:=λi h st b f=>by
  obtain⟨⟨old,he⟩,hi,_⟩:=st;rcases cn.mp f with rfl|f
  ·exact⟨_,he,λv z=>nomatch z⟩
  ·rw[cx.mp f]
   obtain⟨o,Q,_,hd⟩:=hi.ob;exact⟨o,Q,λv z=>by rw[hd]at z;cases z⟩
 keep:=λi h h' ⟨⟨old,he⟩,hi,ne⟩ kp=>⟨⟨old,kp n (by simp) _ he⟩,hi.to λo p=>kp it (by simp) o p,ne⟩
 item:=by
  intro X hP hw hK Z i l0 s σ H E I hf st S;subst hP hw hK;obtain⟨⟨old,he⟩,hi,ne⟩:=st;obtain⟨xs,x,C,B⟩:=S;obtain⟨d,D,r,hz⟩:=I.sq C;obtain⟨u,hu,ru⟩:=D.get B;have hlt:i<d.toArray.size:=by simpa using (cu.mp hu).1
  obtain⟨oa,g,Y,na,e⟩:=r.ob;have A:a≠it:=λz=>by
   obtain⟨oi,c,U,l⟩:=hi.ob;rw[<- z,g]at c;cases c;rw[l]at e;cases e
  have ane:n≠a:=λz=>by
   have t:s.heap.get? a=_:=z ▸ he;rw[g]at t;cases t;cases e
  refine wpAny_pyNext_enum_itemD (Draws.on (Kl (k:=true) (items:=d.toArray) (I.ok.hd Z) A)) (i:=i+1) he ⟨by omega,hi,r⟩ (by omega) ne (by simp[ne,ane]) λy h1 tk J Q N hT hsz hk=>?_
  have ey:y=u:=by
   have:d[i]? =some y:=by simpa using J
   rw[hu]at this;exact(aB this).symm
  subst ey;refine⟨_,rfl,wpAny_letOwnedTupleGo_enum Q λh2 T j=>?_⟩;have L:n<s.heap.objs.size:=aG he;have hT2:h2.get? s.heap.objs.size=some { cls:=.type "tuple",data:=.seq #[.int ((i+1:Nat):Int) tk,y] }:=j.extBut _ _ (br L) hT;refine⟨.ref s.heap.objs.size,upd H s.heap.objs.size (.tup [.int ((i+1:Nat):Int),x]),?_,rfl,⟨s.heap.objs.size,x,λys J=>by rw[I.sq_inj J C];exact B,I.hok.fresh (ar _),rfl,rfl⟩,⟨⟨_,by simpa using T⟩,?_,ne⟩,λb f=>?_⟩
  ·refine I.spun (fp:=[n,it]) (t':=tk+1) (λb o f p=>?_) hf (ar _) ?_
   ·exact j.extBut _ _ (λz=>f (by simp[z])) (hk b o (λz=>f (by simp[z])) (λz=>f (by simp[z])) p)
   ·exact⟨by show 2<=sizeLine;decide,[.int ((i+1:Nat):Int) tk,y],.cons ⟨tk,rfl⟩ (.cons ru .nil),_,hT2,⟨rfl,rfl⟩,0,rfl⟩
  ·exact N.2.1.to λo p=>j.extBut _ _ (λz=>ne z.symm) p
  ·have bn:b≠s.heap.objs.size:=λz=>by
    rcases cn.mp f with q|q
    ·exact absurd L (by rw[<- q,z];exact aV _)
    ·obtain⟨oi,c,_⟩:=hi.ob
     exact absurd (aG c) (by rw[<- cx.mp q,z];exact aV _)
   show upd H s.heap.objs.size _ b=none;rw[qi bn];exact(hf b f).1
 done:=by
  intro X hP hw hK Z i l0 s σ H E I hf st S;subst hP hw hK;obtain⟨⟨old,he⟩,hi,ne⟩:=st;obtain⟨xs,C,B⟩:=S;obtain⟨d,D,r,hz⟩:=I.sq C;have en':d.toArray.size=i:=by rw[az,<- D.length];exact B
  obtain⟨oa,g,Y,na,e⟩:=r.ob;have A:a≠it:=λz=>by
   obtain⟨oi,c,U,l⟩:=hi.ob;rw[<- z,g]at c;cases c;rw[l]at e;cases e
  refine wpAny_pyNext_enum_endD (Kl (k:=true) (items:=d.toArray) (I.ok.hd Z) A) he ⟨by rw[en'];exact hi,r⟩ λh1 M=>⟨rfl,?_⟩
  exact I.spun0 (fp:=[n,it]) (t':=s.toks) (λb o f p=>M b o (λz=>f (by simp[z])) p) hf
 self:=λ_ _ _ _ _ ⟨⟨_,he⟩,_⟩ h=>wpAny_pyIter_enum he h
def Ip {A:Around}{T:String}{g:cc}
  (h:wpAny M A (spliced (backTo pos (starEach [e] env))) (λvs S=>wpAny M A (evalAll ((backToKw pos (keywordEach g env)).map (·.2)))
   (λK b=>wpAny M A (call (.type T) vs (((backToKw pos (keywordEach g env)).filterMap (·.1)).zip K)) Q E b) E S) E s)
  (i:backTo pos (starEach [e] env)=(false,eval e env)::backTo pos (starEach [] env))(H:(backTo pos (starEach [e] env)).any (·.1)=false)
  (l:(backToKw pos (keywordEach g env)).all (·.1.isSome)=true)(w:(backToKw pos (keywordEach g env)).any (·.1.isNone)=false):
  wpAny M A (callWith pos (.type T) [] (backTo pos (starEach [e] env)) (backToKw pos (keywordEach g env))) Q E s:=by
 unfold callWith;have f:wpAny M A (evalArgs (.type T) true (backTo pos (starEach [e] env)) (backToKw pos (keywordEach g env))) (λa S=>wpAny M A (call (.type T) ([]++a.pos) a.kw) Q E S) E s:=by
  rw[i]at h ⊢;exact evalArgs_kwB l h
 refine ck (wpAny_holding (wpAny_mono f (λa S c=>ck (wpAny_standAt ?_)) λ_ _ x=>x));simp only[H,w,Bool.or_false];refine ck (cm ?_);exact ck (wpAny_mono c (λr b d=>ck (wpAny_holding (wpAny_point (cm d)))) λ_ _ x=>x)
section
variable {a b:Expr}{m:Ev}
def Er {w:W}{k:Key}{K:Frag}(q:RV K φ H w v)(e:Jw w=some k):v=kV k:=by
 cases w with
 |int i=>cases e;exact q|_=>cases e
def ib (K:Frag)(t:TA):TI:=λa H R=>t a H λv h=>∃p x,v=[.ref p]/\yn true K h p x/\R (Nt K p) h
def DC {C kp:Pos}{t:TA}(n:Gl X "enumerate")(B:X.mg "enumerate"=none)(v:PA X [a] t)(d:starEach [a] X.env=(false,eval a X.env)::starEach [] X.env):
  PI X (.Tuple lN kk l7) (.Call (.Name "enumerate" p) [a] [⟨some "start",.Constant (.int 1) j C,kp⟩] pos) (ib X.K t):=by
 intro P s A H R I h;refine wpAny_Call_Name_kw (gJ I n B boot_enumerate ?_ (by decide) (by decide))
 refine Ip (zQ (v pos P s A H _ I h) λU S ⟨L,D,i,f,Q⟩=>kwAll_cons (wpAny_Constant_int (kwAll_nil ?_))) (by rw[d];rfl) (by rw[d];rfl) rfl rfl
 obtain⟨p,J,rfl,l,q⟩:=Q;obtain⟨u,rfl,r⟩:=f.one;cases r;have i:=i.tok (S.toks+1);obtain⟨g,x,sq,y⟩:=i.sq l;refine HI (show Heap.IsList _ _ _ from sq) λM e w E=>wpAny_pyIter_enum e ?_
 refine⟨S.heap.objs.size+1,[S.heap.objs.size+1,S.heap.objs.size],_,_,D,rfl,i.kept (t':=S.toks+1) E,HK p _ _,⟨⟨_,by simpa using e⟩,w,Nat.succ_ne_self _⟩,λb o=>?_,q⟩
 have c:S.heap.objs.size<=b:=by
  rcases cn.mp o with z|z
  ·rw[z];exact le_succ _
  ·rw[cx.mp z];exact ar _
 exact i.fpOk c (i.hok.fresh c)
def QG (w:W)(n:Nat):jo:=⟨λA i=>match zI w A with
 |some s=>atEnd s i λx=>.tup [.int ((i+1:Nat):Int),x]|none=>none,n⟩
def Wd (m:Ev):Ei:=λb A=>(m b A).bind λw a=>match w,zI w a with
 |.ref n,some s=>.ok (QG w s.length) a|_,_=>.bad
def WJ (mk M:Ev):Ev:=λa A=>(mk a (A++[.dct []])).bind λx c=>(M a c).bind λy b=>match Jw x,b[A.length]? with
 |some k,some (.dct [])=>.ok (.ref A.length) (b.set A.length (.dct [(k,y)]))|_,_=>.bad
end
section
variable {a b:Expr}{m:Ev}{lo hi:Option Expr}{K:Frag}
def Zu:W->W->Hx->R W:=λx y A=>match x,y with
 |.int i,.int j=>.ok (.bl (decide (i<j))) A|.tup X,.tup Y=>match intsOf X,intsOf Y with
  |some k,some l=>.ok (.bl (kA k l)) A|_,_=>.bad
 |_,_=>.bad
def ic:∀x y A,qB (Zu x y A):=λx y A=>by
 unfold Zu
 split
 ·exact jG
 ·split
  ·exact jG
  ·exact qD
 ·exact qD
def NA (K:Frag):R2:=λx y H Q=>(wQ λi j=>.bl (decide (i<j))) x y H Q∨Nl K x y H Q
def ie (b:X.A.units<cLine):qL X (compareOp .Lt) (NA X.K):=by
 intro p s c H x y v u Q I a r h;rcases h with h|h
 ·exact Na p s c H x y v u Q I a r h
 ·exact dQ b p s c H x y v u Q I a r h
def BR:jZ K (NA K) Zu:=λf A H x y u v Q S c q p=>by
 unfold Zu at p
 split at p
 ·obtain rfl:=c;obtain rfl:=q
  exact .inl ⟨_,_,rfl,rfl,p f H _ .refl S rfl⟩
 ·split at p
  ·rename_i k l E e
   rw[ZO E]at c;rw[ZO e]at q;obtain⟨a,s,rfl,T,d⟩:=c;obtain⟨b,U,rfl,t,r⟩:=q;have g:=zr.ints.mp d;have h:=zr.ints.mp r;subst g h;refine .inr ⟨a,b,k,l,rfl,rfl,T,t,?_⟩;rw[RB];exact p f H _ .refl S rfl
  ·exact p.elim
 ·exact p.elim
def ig {k:Nat}(h:qP k X.A):kM X .Lt Zu:=Qy (ie (by have:=h.units;omega)) ic BR
def ij:YJ X (λx lo hi H Q=>Nq X.K x lo hi H Q∨Nf X.K x lo hi H Q):=by
 intro p s b H x v l u lo hi S Q I r a c P h;rcases h with h|h
 ·exact AM p s b H x v l u lo hi S Q I r a c P h
 ·exact Bv p s b H x v l u lo hi S Q I r a c P h
def qX (m:Ev)(P p:Po):Ev:=λb A=>(m b A).bind λw d=>(P b d).bind λl c=>(p b c).bind λu a=>match w with
 |.tup s=>.ok (.tup (yO s l u)) a|.ref n=>match a[n]? with
  |some (.lst s)=>.ok (.ref a.length) (a++[.lst (yO s l u)])|_=>.bad
 |_=>.bad
theorem Wa:∀{v:bS}{K:bR}(i:Nat),IntsAre v K->i<K.length->∃t,v.getD i Value.none=.int (K.getD i 0) t
 |_,_,_,.nil,hi=>by simp at hi|_,_,0,.cons a t _,_=>⟨t,rfl⟩|_,_,i+1,.cons _ _ r,hi=>Wa i r (by simpa using hi)
theorem G7:∀{v:bS}{K:bR},IntsAre v K->v.length=K.length
 |_,_,.nil=>rfl|_,_,.cons _ _ r=>by rw[aL,aL,G7 r]
def Fv {p:Program}{A:Around}{f:bS}{K:bR}(T:IntsAre f K):K3 (O:=IO) p w A oneType' f K 0 s where
 kind:=λb Q E h=>kas_kind (T:=.type "int") b (λv H=>by
  obtain⟨i,d,rfl⟩:=bw H;obtain⟨t,e⟩:=Wa i T (by rw[<- G7 T];exact d)
  have e:f[i]=.int (K.getD i 0) t:=by simpa[d] using e
  rw[e];exact PySem.W.Looks.of_pure rfl) (by decide) (by decide) h
 lt:=λi j d a Q E h=>by
  obtain⟨t,e⟩:=Wa i T d;obtain⟨u,c⟩:=Wa j T a;rw[e,c,keyLt'_oneType];exact oneLt_int h
def Iq:jH X (.builtin "sorted") (λxs H Q=>∃(p:Addr) (J:bR),xs=[.ref p]/\qI X.K H p (J.map V.int)/\J.length<64/\
  ∀l,H l=none->Q (.ref l) (upd H l (.lst ((qV (O:=IO) J).map V.int)))):=by
 intro M s Y H xs Z Q I r h;obtain⟨p,J,rfl,j,w,q⟩:=h;obtain⟨u,rfl,f⟩:=vals1 r;cases f;obtain⟨g,v,⟨o,k,z,y,C,x⟩,A⟩:=I.list j;have T:=intsAre_of v;have n:=G7 T;refine Rn (O:=IO) (d0:=0) ⟨o,z,y,k,x⟩ n (λD U tk B kp=>Fv T) (by omega) λU a p c d P E t kp=>?_
 have lt:∀i∈p.toList,i<J.length:=λi L=>by
  have:=(Array.perm_iff_toList_perm.mp P).mem_iff.mp L
  simpa using this
 have N:p.toList.length=J.length:=by rw[aQ,P.size_eq];simp
 have S:=Vals.sel v p.toList λi L=>by simpa using lt i L
 have e:(p.toList.map λi=>(J.map V.int).getD i .non)=(qV (O:=IO) J).map V.int:=by
  rw[<- E,aU];refine bf λi L=>?_;have b:=lt i L;simp[b]
 rw[e]at S;refine⟨.ref a,_,I.laid (t':=s.toks) (o:=.lst ((qV (O:=IO) J).map V.int)) kp d ⟨?_,_,c,S,t⟩,rfl,q _ (I.hok.fresh d)⟩;rw[<- e,ag,N,sizeLine_eq];omega
def ko:W->Hx->R W:=λw A=>match w with
 |.ref n=>match A[n]? with
  |some (.lst ws)=>match intsOf ws with
   |some K=>if K.length<64 then .ok (.ref A.length) (A++[.lst ((qV (O:=IO) K).map W.int)]) else .bad|none=>.bad
  |_=>.bad
 |_=>.bad
def EO:∀x A,qB (ko x A):=λx A=>by
 unfold ko
 split
 ·split
  ·split
   ·exact w6 jG qD
   ·exact qD
  ·exact qD
 ·exact qD
def FY:YH K (λv H Q=>∃(p:Addr) (s:bR),[v]=[.ref p]/\qI K H p (s.map V.int)/\s.length<64/\
  ∀l,H l=none->Q (.ref l) (upd H l (.lst ((qV (O:=IO) s).map V.int)))) ko:=λi A H x u Q S q p=>by
 unfold ko at p;cases u with
 |ref n=>
  dsimp only at p;cases e:A[n]? with
  |none=>rw[e]at p;exact p.elim|some o=>cases o with
   |lst U=>
    rw[e]at p;dsimp only at p;cases E:intsOf U with
    |none=>rw[E]at p;exact p.elim|some s=>
     rw[E]at p;dsimp only at p
     by_cases c:s.length<64
     ·rw[ah c]at p
      obtain⟨P,y,rfl,_,a,r⟩:=S.lst q e;rw[ZO E]at r;have d:=zr.ints.mp r;subst d;refine⟨P,s,rfl,qI.of a,c,λl h=>?_⟩;obtain⟨g,f,b⟩:=w8 S h (zr.ints.mpr rfl);exact p _ _ _ g f b
     ·rw[ai c]at p;exact p.elim
   |_=>rw[e]at p;exact p.elim
 |_=>exact p.elim
end
def X8 (X:Cx):Prop:=∀p a H s,Inv X p a H s->∀(x:Str)(c:Addr),X.env.cells.lookup x=some c->c∉qt X.stack
def XY (h:∀x,X.fn x=true):X8 X:=λp a H s I x c e=>Bs I h e
def kN (n:Nat)(q:Str)(P:Addr)(i:bV)(g:Fn):Ev:=λa A=>match A[n]? with
 |some (.tab Q P')=>if Q=q/\P'=P then(match QL i a with
  |some w=>g w A|none=>.bad) else .bad
 |_=>.bad
section
variable {t:Lm}{q:Str}
def SY (I:Inv X l0 σ H s)(C:X8 X)(l:Js X.prog X.w X.K X.mg j q t)(x:Yw X t):
  Jv X.prog X.w X.K X.mg (gL X.base s.heap X.env.cells) X.A X.stack s H/\∀k,QH X.prog X.w X.K X.mg (gL X.base s.heap X.env.cells) (j+1) (YL X.env q [t] σ k) (kZ [t] k):=by
 have a:∀b o,X.base.get? b=some o->(gL X.base s.heap X.env.cells).get? b=some o:=λb o e=>HX I.bk e;have M:Mod X.K X.mg (gL X.base s.heap X.env.cells):=by
  obtain⟨u,i,B⟩:=I.mod.blt;exact⟨I.mod.kin.keeps a,I.mod.glob.keeps a,⟨u,i.keeps a,B⟩,I.mod.nolimit.keeps a⟩
 have bs:∀b o,(gL X.base s.heap X.env.cells).get? b=some o->s.heap.get? b=some o/\H b=none:=λb o e=>by
  obtain⟨g,E⟩:=Rz e;refine⟨g,?_⟩;rcases E with ⟨r,E⟩|⟨y,E⟩
  ·exact(I.bs b r E).2
  ·exact I.freeC y b E
 refine⟨⟨I.ok.frames,M,bs,Nat.le_of_eq (hideAll_size _ _),frames_at I.stack λb c=>?_,I.stkFree,I.hok,I.bare⟩,
  λk=>fR (all_cons l all_nil) (λT d D h=>DP I (λy n v e ⟨o,f,z⟩=>⟨o,HH e f,z⟩) (all_cons (p:=Yw X) x all_nil T d) h) k⟩
 cases e:(gL X.base s.heap X.env.cells).get? b with
 |none=>rfl|some o=>
  exfalso;rcases(Rz e).2 with ⟨r,E⟩|⟨y,E⟩
  ·have:=(I.stack.mem c).1
   rw[E]at this;cases this
  ·exact C l0 σ H s I y b E c
end
def CA (x:Array Value):slicePick x none none (some (-1))=x.toList.reverse.toArray:=by
 unfold slicePick;have E:sliceBounds none none (some (-1)) x.size=((x.size:Int)-1,-1,-1):=rfl;rw[E];have e:sliceRange ((x.size:Int)-1) (-1) (-1)=(List.range x.size).map λ(k:Nat)=>(((x.size:Int)-1)+(k:Int) * (-1)).toNat:=by
  unfold sliceRange;dsimp only;rw[ai (by decide)]
  by_cases h:x.size=0
  ·rw[h,ai (by decide)];rfl
  ·rw[ah (by omega)]
   have:(((x.size:Int)-1 - -1 - -1-1)/(- -1)).toNat=x.size:=by
    rw[Int.neg_neg,Int.ediv_one];omega
   rw[this];refine bf λk _=>?_;rw[Int.mul_comm]
 rw[e,List.filterMap_map];exact Rk x
section
variable {st:Expr}{m ms:Ev}{te:TE}{ts:TO}{p2:Pos}{K:Frag}
def ik (K:Frag):V->Hp->VK->Prop:=λx H Q=>∃a X,x=.ref a/\qI K H a X/\∀p,H p=none->Q (.ref p) (upd H p (.lst X.reverse))
def il (N:PE X e te)(n:PO X (some st) ts):PE X (.Subscript e (.Slice none none (some st) p2) pos) (λσ H Q=>te σ H λx D=>ts σ D λo C=>o=some (-1)/\ik X.K x C Q):=by
 intro P s σ H Q I h;refine Subscript_ (zQ (N P s σ H _ I h) λv L ⟨x,D,y,f,j⟩=>?_);refine wpAny_Slice ?_;rw[evalPart_none];refine cm (cm ?_);refine zQ (n P L σ D _ y j) λU S ⟨o,B,u,M,g⟩=>?_;obtain⟨rfl,a,J,rfl,l,q⟩:=g;cases f;cases M with
 |int i T=>
  have d:Inv X P σ B { S with heap:=S.heap.push { cls:=.type "slice",data:=.fields #[.none,.none,.int (-1) T] } }:=u.kept (t':=S.toks) λb ob q=>af _ q
  obtain⟨c,r,t,z⟩:=d.list l;have E:=r.length;have p:wpAny (model X.prog X.w) X.A (getItem (.ref a) (.ref S.heap.objs.size)) (EP X P σ Q) X.xe { S with heap:=S.heap.push { cls:=.type "slice",data:=.fields #[.none,.none,.int (-1) T] } }:=by
   refine wpAny_getItem_list_slice t.isList (Heap.IsSliceOf.new ..) .none .none (.int (-1) T) (by simp) ?_ (by rw[az]<;>omega)
   rw[CA];refine⟨.ref _,_,d.laid (t':=S.toks) (o:=.lst J.reverse) (λb ob q=>af _ q) (ar _) ?_,rfl,q _ (d.hok.fresh (ar _))⟩;exact⟨by rw[length_reverse];exact z,c.reverse,0,U9 r,aw _ rfl⟩
  show wpAny (model X.prog X.w) X.A (subscriptTail e (.Slice none none (some st) p2) (.ref a) (.ref S.heap.objs.size)) (EP X P σ Q) X.xe _;exact tail_any (ops:=[.ref a,.ref S.heap.objs.size]) t.isList.typeIs slot_list_getitem.lookup p (by with_unfolding_all rfl)
def Yi (m M:Ev):Ev:=λb A=>(m b A).bind λw c=>(qO M b c).bind λo a=>match w with
 |.ref n=>match a[n]? with
  |some (.lst ws)=>if o=some (-1) then .ok (.ref a.length) (a++[.lst ws.reverse]) else .bad|_=>.bad
 |_=>.bad
end
def wD:W->Hx->R W:=λw A=>match zO A 8 w with
 |some d=>if d.showable&&decide (d.shown.length<=10000000) then .ok (.str d.shown) A else .bad|none=>match w with
  |.ref n=>match A[n]? with
   |some (.dct [])=>.ok (.str (PyData.shown (.dict []))) A|_=>.bad
  |_=>.bad
section
inductive zei (K:Frag)(H:Hp)(Q:VK)(x:V):Prop
 |dat (φ:bT) (A:Hx) (w:W) (d:PyData) (S:zF K φ A H) (r:RV K φ H w x) (h:zO A 8 w=some d) (hs:d.showable=true) (hl:d.shown.length<=10000000) (q:Q (.str d.shown) H)
 |dct (a:Addr) (e:x=.ref a) (h:H a=some (.dK [])) (q:Q (.str (PyData.shown (.dict []))) H)
def FH {k:Nat}(n:qP k X.A):jH X (.builtin "repr") (λxs H Q=>∃x,xs=[x]/\zei X.K H Q x):=by
 intro l0 s σ H xs us Q I r h;obtain⟨x,rfl,h⟩:=h;obtain⟨u,rfl,p⟩:=vals1 r;have J:=n.un;have fin:∀(t:Str) h' U tk,(∀b o,s.heap.get? b=some o->h'.get? b=some o)->Q (.str t) H->EP X l0 σ Q (.str t U) { s with heap:=h',toks:=tk }:=λt h' U tk g q=>⟨.str t,H,I.kept (t':=tk) g,⟨_,rfl⟩,q⟩
 cases h with
 |dat φ A w d S B hd v Y q=>
  obtain⟨as,c⟩:=Zh I S 8 w x u d B p hd;obtain⟨cl,dp⟩:=JM 8 w d hd;have z:d.shown.length<=sizeLine:=by have:sizeLine=16777216:=sizeLine_eq;omega
  cases u with
  |ref a=>exact repr_of_reads' (h₀:=s.heap) c v (PyData.noDict_hsm (PyData.hasDict_of_canLay d cl)) n.gd (by omega) (λ_ _ e=>e) (λh' U tk g=>fin _ h' U tk g q) z|none=>cases c;exact PySem.P.repr_of_none (fin _ s.heap _ _ (λ_ _ e=>e) q)|bool b=>cases c;exact PySem.P.repr_of_bool (fin _ s.heap _ _ (λ_ _ e=>e) q)|int i t=>
   cases c;have l:i.natAbs.log2<1920:=by simpa[PyData.showable] using v
   exact PySem.P.repr_of_int l (fin _ s.heap _ _ (λ_ _ e=>e) q)
  |str y t=>cases c;exact PySem.P.repr_of_str (fin _ s.heap _ _ (λ_ _ e=>e) q) z|_=>cases c
 |dct a ex N q=>
  subst ex;obtain rfl:u=Value.ref a:=p;obtain⟨_,f,vs,C,hd⟩:=Vq I.hok N;have E:vs=[]:=by cases C;rfl
  subst E;obtain⟨o,T,Z,M,D,hd2,_,L,_⟩:=hd;have j:T.toList=[]:=List.length_eq_zero_iff.mp L.length;have c:Reads s.heap (.ref a) (.dict []) (a::[]++[]):=.dict M D.1 hd2 (by rw[j];exact .nil) (by rw[j];exact .nil)
  refine repr_of_reads' (h₀:=s.heap) c rfl (λ_ hm=>?_) n.gd (by show X.A.units+(1+1)<cLine;omega) (λ_ _ e=>e) (λh' U tk g=>fin _ h' U tk g q) (by decide)
  have:sysModules=a:=by simpa using hm
  rw[<- this]at f;cases f
end
@[irreducible] noncomputable def WK (X:Cx)(x:XR)(e:bY)(M:List Ev):Prop:=Mi.SJ X x e M
def Oi:@WK=@Mi.SJ:=by
 funext X xr es ms
 unfold WK
 rfl
section
def jU:@zp=@Mi.SE/\@yI=@Mi.SA/\@yc=@Mi.ST/\@wg=@Mi.SW/\@yb=@Mi.SS/\@yP=@Mi.JE/\@yQ=@Mi.SI/\@kG=@Mi.SG/\@gY=@Mi.SF/\@wj=@Mi.SQ/\@k8=@Mi.YE/\@wm=@Mi.SM/\@WK=@Mi.SJ:=⟨KZ,Xx,XT,XX,X0,Xg,XW,X6,XN,Xv,G9,XJ,Oi⟩
def Ke {g:Heap}{E:bY}{k:Nat}{f:Fn}(o:wb X g xr)(F:jS X.prog X.w X.K X.mg X.base k x n f)(i:qP k X.A)(B:yI X xr (e::E) mr)(j:kP mr n:=by repeat' (first|exact ZW|refine ZP ?_))(t:Gl X x:=by rfl)
  (c:(x==("__debug__":Str))=false:=by decide)(he:starEach (e::E) X.env=(false,eval e X.env)::starEach E X.env:=by rfl)(l:(backTo pos (starEach E X.env)).any (·.1)=false:=by rfl):
  zp X xr (.Call (.Name x p) (e::E) [] pos) (zw f mr):=by
 try simp only[jU]at*
 obtain⟨N,fd,ps,F,hm,s,u⟩:=F;refine PE.imp (Pc F i t hm s u .nil o.passes B c he l) λσ H Q ⟨Z,A,T,S,re,h⟩=>?_;have P:=zT.mp h;refine⟨Z,A,T,S,re,?_⟩;cases r:mr T A with
 |ok Y U=>
  rw[r]at P;intro b H1 vs L I q;have v:vs.length=n:=by rw[<- q.length];exact j T A Y U r
  rw[bx];refine⟨v,b,U,Y,I,q,qo P (λ_ _ z=>z.mono L) λy A2 z a J d D M C=>?_⟩;exact⟨y,M,rfl,C,z a J (L.trans d) D⟩
 |exc y U=>rw[r]at P;exact P|bad=>rw[r]at P;exact P
def Ax {m:Ev}(h:yc X.nox yi e m):yc X xr e λρ A=>(m ρ A).nox:=by
 try simp only[jU]at*
 refine PT.imp (PT.nox h) λc H Q ⟨a,A,ρ,S,r,q⟩=>⟨a,A,ρ,S,r,?_⟩;cases E:m ρ A with
 |ok w b=>(try dsimp only at q);rw[E]at q;exact q|exc y b=>(try dsimp only at q);rw[E]at q;exact q.elim|bad=>(try dsimp only at q);rw[E]at q;exact q.elim
def Cw {M:Ex}{s:cg}(h:yP X.nox yi s M):yP X xr s λρ A=>(M ρ A).nox:=by
 try simp only[jU]at*
 refine yo.imp (yo.nox h) λD c H ⟨a,A,ρ,S,r,q⟩=>⟨a,A,ρ,S,r,?_⟩;cases e:M ρ A with
 |ok w b=>(try dsimp only at q);rw[e]at q;exact q|exc y b=>(try dsimp only at q);rw[e]at q;exact q.elim|bad=>(try dsimp only at q);rw[e]at q;exact q.elim
def H9 {g:Heap}{E:bY}{top:Str}{N:Pos}{C:Pos}(o:wb X g xr)(c:Kx X.K top x)(d:yI X xr (e::E) mr)(l:kP mr n:=by repeat' (first|exact ZW|refine ZP ?_))(f:n<=sizeLine:=by decide)(a:Gl X x:=by rfl)(h:X.calm=true:=by rfl)
  (b:(x==("__debug__":Str))=false:=by decide)(i:starEach (e::E) X.env=(false,eval e X.env)::starEach E X.env:=by rfl)(H:(backTo C (starEach E X.env)).any (·.1)=false:=by rfl):
  yb X xr (.Raise (some (.Call (.Name x N) (e::E) [] C)) none pos) (J5 x mr):=by
 try simp only[jU]at*
 exact Cg o c.at_ c.exc PySem.F.excBase_ValueError d l f a h b i H
def VN {K:Frag}{B:Stmt}{k:Nat}{m:Ex}(F:kI K x x B f fd)(hm:mg x=some (.ref f))(S:qM N ps (qh B))
  (j:∀(kV D M:Value)(T:cf)(c ct:Value)(U:bS),U.length=ps.length->bindArgs (fnOf x x (Zk B) (yJ B) (qh B) .none kV D M T c ct) ⟨U,[]⟩=pure (ps.zip U))
  (a:∀(c:Value)(A:Around)(z:b9)(s:Shared)(H:Hp)(E:XK),qP k (A.deeper (envOfC x (qh B) s.heap.objs.size f c))->
   wb (kE (wO P w) P w K mg base N x (qh B) f c A z s H E) s.heap (gw K E)->yP (kE (wO P w) P w K mg base N x (qh B) f c A z s H E) (gw K E) (yJ B) m):
  jS P w K mg base (k+1) x ps.length (gR N.length m):=by
 try simp only[jU]at*
 refine⟨f,fd,ps,?_,hm,F.kp,F.binds j⟩;obtain⟨u,t,kV,D,M,T,c,ct,o,rfl,Z,d⟩:=F.ex;refine Vt Z d S (λY H Q E h=>h.len) λA z s H Y Q E i ⟨v,J,X,I,n,r,h⟩=>⟨_,a c A z s H E i fF,?_⟩;refine⟨J,X,I.map some++List.replicate (N.length-I.length) none,n,RE.start r,?_⟩;have C:=zT.mp h;show R.post _ (FB K J H _) _;cases e:m (I.map some++List.replicate (N.length-I.length) none) X with
 |ok fl A2=>
  rw[e]at C;cases fl with
  |rt w=>exact C|nx L=>exactλb q g l p _=>C b q .non l p rfl|bk L=>exact C.elim|ct L=>exact C.elim
 |exc y A2=>rw[e]at C;exact C|bad=>rw[e]at C;exact C.elim
def AV {L:Addr}{l:Nat}{n:Str}{y:Str}{Z:Str}{cs:bW}{PG:Nat->Obj->Addr->Obj->List V->Prop}{lam:Nat->Fn}{U:bS}{lO:String}{np:Pos}{cp:Pos}{ep:Pos}{dp:Pos}{yp:Pos}{J:Pos}{ap:Pos}{hp:Pos}(hL:∀k,QH X.prog X.w X.K X.mg X.base kk (PG k) (lam k))(hr:qP kk X.A)(hst:X.stack=X.env::X.outer)(hFr:X.env.frame=some L)(hD:yC X.K Z (.ref D))(exD:Mi.gj X.K D U lO=true)(hbD:U.contains (.type "BaseException")=true)
  (hcs:∀c,cs.contains c=true->∀C,yC X.K c (.ref C)->∃B f,Mi.gj X.K C B f=true/\QM X.K C D=true)
  (hN:X.N.Nodup)(hi:X.N[i]? =some x)(hx:X.env.scope.names.lookup x=some .local)(hl:X.N[l]? =some n)(hn:X.env.scope.names.lookup n=some .local)(hj:X.N[j]? =some y)(hy:X.env.scope.names.lookup y=some .local)
  (hg:Gl X Z)(hs1:swapsWith (.Call (.Name x np) [] [] cp) none ep.line X.env=pure false:=by rfl)(hs2:swapsWith (.Name n J) (some (.Name y yp)) ap.line X.env=pure false:=by rfl)
  (hdx:(x==("__debug__":Str))=false:=by decide)(hdn:(n==("__debug__":Str))=false:=by decide)(hdD:(Z==("__debug__":Str))=false:=by decide):
  yb X xr (.Try [.Expr (.Call (.Name x np) [] [] cp) ep] [.ExceptHandler (some (.Name Z dp)) (some n) [.Assign [.Name y yp] (.Name n J) ap] hp] [] [] pos) (Yr i j l cs PG lam):=by
 try simp only[jU]at*
 intro l0 s σ H D0 I ⟨φ,A,ρ,S,re,h⟩;unfold Yr WC at h;cases ei:ρ[i]? with
 |none=>rw[ei]at h;exact h.elim|some ow=>
  cases ow with
  |none=>rw[ei]at h;exact h.elim|some w=>
   rw[ei]at h;cases w with
   |clo k ws P=>
    dsimp only at h
    by_cases hP:P=PG k
    ·rw[ah hP]at h
     subst hP;obtain⟨v,hv,a,ob,u,c,oc,uc,vs,rfl,h1,h2,hp',rvs⟩:=re.get i _ ei;obtain⟨⟨fd0,hfd⟩,fd,F,hb⟩:=hL k a ob u c oc uc vs hp';have ho:s.heap.get? a=some ob:=(show qQ X.prog X.w H s.heap a (.frz ob u) from I.hok a _ h1).1
     refine fK (i:=l) (L:=L) (k:=zd7 X.K φ H ρ j l D0)
      I hst hFr hD exD hbD hN hl (.inl hn) ?body ?t hg hdD (.inr hn)
     case body=>
      refine wpAny_execs_cons (wpAny_Expr_any ?_ I.quiet hs1);obtain⟨m,hns,Q⟩:=I.loc;obtain⟨u',r',lk⟩:=Q i x (.ref a) hi hv (.inl hx);obtain rfl:u'=Value.ref a:=r';have hm:m x=some (.ref a):=by
       rcases lk with ⟨_,e⟩|⟨q|q,_⟩
       ·exact e
       ·rw[show X.env.kindOf x=some .local from hx]at q;cases q
       ·rw[show X.env.kindOf x=some .local from hx]at q;cases q
      refine wpAny_Call_Name_kw (wpAny_Name (wpAny_loadName_local I.ok.kind hx hns hm ?_) hdx);have hK:Frag.In [(a,ob)] s.heap:=λb o e=>by
       rw[bE]at e
       by_cases hb:b=a
       ·subst hb;simp at e;subst e;exact ho
       ·have:(b==a)=false:=by simpa using hb
        rw[this]at e;cases e
      have hkp:keepIn [(a,ob)] (.ref a)=true:=by
       unfold keepIn;obtain⟨o1,o2,o3,o4⟩:=ob;cases (show o3=_ from hfd)
       simp[bE]
      refine PySem.W.callWith_K0 (K:=[(a,ob)]) (first:=[]) hK hkp ?_;refine wpAny_call (codeAny_mono (F.run X.A X.stack s H ⟨[],[]⟩ [] [] (λ_ H1=>D0.nx σ H1)
       (zd6 X.K φ H ρ j l D0 cs)
       hr I.env0 (hb s) .nil ⟨rfl,h1,h2,φ,A,ws,S,rvs,?_⟩) λr s' p=>?_)
      ·cases er:lam k ws A with
       |ok w1 A1=>
        rw[er]at h;exactλd H' v' z Y _=>h d H' σ z Y (re.mono z)
       |exc E A1=>
        rw[er]at h;dsimp only at h
        by_cases T:cs.contains E=true
        ·rw[ah T]at h
         exactλd H' z Y Ca g=>⟨E,Ca,rfl,g,T,d,A1,z,Y,h⟩
        ·rw[ai T]at h;exact h.elim
       |bad=>rw[er]at h;exact h.elim
      ·cases r with
       |error e=>
        unfold CR at p;dsimp only at p;have un:∀b o,s.heap.get? b=some o->∃o',s'.heap.get? b=some o':=by
         obtain⟨_,_,_,_,_,_,un,_⟩:=p;exactλb o e=>un.there b o e (by simp)
        obtain⟨ea,C,H',rfl,I',ly,tr,E,Ca,ec,g,T,lH,A1,l1,S1,hn1⟩:=T9 I p s.heap λb o e=>⟨o,e⟩;cases ec;obtain⟨B,f,exC,up⟩:=hcs E T C g;exact⟨ea,C,H',B,f,rfl,I',ly,tr,un,exC,up,λoe hoe M=>⟨E,lH,A1,l1.trans (Le.new M),S1.lay M,⟨ea,oe,.own 0,C,rfl,ji,hoe,g⟩,hn1⟩⟩
       |ok fl=>
        cases fl with
        |ret u1=>
         obtain⟨v1,H1,I1,_,q1⟩:=I.after p;exact wpAny_execs_nil ⟨rfl,σ,H1,I1,q1⟩
        |next=>exact False.elim p|brk=>exact False.elim p|cont=>exact False.elim p
     case t=>
      rintro ea C H2 s2 I2 ⟨E,d,A',z,Y,rx,hn'⟩ E'
      refine HY (i:=l) (j:=j) I2 hN hl hj hn (.inl hy) (λs' I'=>?_) hs2 (.inr hy) hdn;exact⟨_,H2,I',hn' d H2 _ z Y ((((re.mono z).set rx).set rx).unset)⟩
    ·rw[ai hP]at h;exact h.elim
   |_=>exact h.elim
def ip {m:Ev}{P:Pos}{f:Str->Option Bool}{C:Addr}(b:Yg X.K f (.ref C))(d:yC X.K x (.ref C))(q:X.mg "isinstance"=none)(i:zp X xr e m)(g:Gl X "isinstance":=by rfl)(a:Gl X x:=by rfl)(t:(x==("__debug__":Str))=false:=by decide)
  (n:starEach [e,.Name x P] X.env=(false,eval e X.env)::starEach [.Name x P] X.env:=by rfl)(j:(backTo pos (starEach [.Name x P] X.env)).any (·.1)=false:=by rfl):
  zp X xr (.Call (.Name "isinstance" p) [e,.Name x P] [] pos) (qS f m):=by
 try simp only[jU]at*
 have c:PE X (.Name x P) (tC (.ref C)):=λl s o H Q I h=>JW I a (mg_of I.mod.kin I.mod.glob d) ⟨.ref C,H,I,rfl,h⟩ t;exact PE.imp (wV (S7 (cv:=.ref C) b λu r=>r) g q (by rfl) (qU i (qU c jB) n) (by decide) (by decide) n j) (qS.read λo H Q h=>h)
def D3 {m:Ev}{P:Pos}{f:Str->Option Bool}{T:String}(c:Yg X.K f (.type T))(o:X.mg "isinstance"=none)(a:X.mg x=none)(d:bootBuiltins x=some (.type T))(i:zp X xr e m)(g:Gl X "isinstance":=by rfl)(b:Gl X x:=by rfl)(n:x ≠ "__name__":=by decide)(q:(x==("__debug__":Str))=false:=by decide)
  (l:starEach [e,.Name x P] X.env=(false,eval e X.env)::starEach [.Name x P] X.env:=by rfl)(j:(backTo pos (starEach [.Name x P] X.env)).any (·.1)=false:=by rfl):
  zp X xr (.Call (.Name "isinstance" p) [e,.Name x P] [] pos) (qS f m):=by
 try simp only[jU]at*
 exact PE.imp (wV (S7 (cv:=.ty T) c λu r=>r) g o (by rfl) (qU i (qU (Kz b a d (v:=.ty T) rfl n q) jB) l) (by decide) (by decide) l j) (qS.read λs H Q h=>h)
def BJ {m:Ev}{a:Pos}{P:Pos}{pt:Pos}{x:Str}{D:Str}{K:Nat}(t T:Ty)(U:X.mg "isinstance"=none)(n:X.mg x=none)(j:X.mg D=none)(f:bootBuiltins x=some (.type t.nm))(d:bootBuiltins D=some (.type T.nm))(B:zp X xr e m)(z:Gl X "isinstance":=by rfl)(q:Gl X x:=by rfl)(o:Gl X D:=by rfl)
  (i:x ≠ "__name__":=by decide)(r:(x==("__debug__":Str))=false:=by decide)(g:D ≠ "__name__":=by decide)(J:(D==("__debug__":Str))=false:=by decide)
  (Y:starEach [.Name x a,.Name D P] X.env=(false,eval (.Name x a) X.env)::starEach [.Name D P] X.env:=by rfl)(s:starEach [.Name D P] X.env=(false,eval (.Name D P) X.env)::starEach [] X.env:=by rfl)
  (I:starEach [e,.Tuple [.Name x a,.Name D P] K pt] X.env=(false,eval e X.env)::starEach [.Tuple [.Name x a,.Name D P] K pt] X.env:=by rfl)(C:(backTo pos (starEach [.Tuple [.Name x a,.Name D P] K pt] X.env)).any (·.1)=false:=by rfl):
  zp X xr (.Call (.Name "isinstance" p) [e,.Tuple [.Name x a,.Name D P] K pt] [] pos) (Wy t T m):=by
 try simp only[jU]at*
 exact PE.imp (wV E1 z U (by rfl) (qU B (qU (OB (qU (Kz q n f (v:=.ty t.nm) rfl i r) (qU (Kz o j d (v:=.ty T.nm) rfl g J) jB s) Y)) jB) I) (by decide) (by decide) I C) λσ H Q ⟨φ,A,ρ,S,N,h⟩=>by
   refine tM.go S N (zT.mp h) λw Z c H1 v I L u y=>?_;cases E:q9 w Z with
   |none=>rw[E]at I;exact I.elim|some M=>
    rw[E]at I;refine⟨by show 2<=sizeLine;decide,λl b=>⟨v,M,l,rfl,qp.of ji,?_,I c _ _ (L.trans (Le.new b)) (u.lay b) rfl⟩⟩
    exact Rx (u.lay b) (y.mono (Le.new b)) E
def Bd {m:Ev}(o:zp X xr e m)(g:kG X tg tw)(d:swapsWithSole [tg] e pos.line X.env=pure false:=by rfl)(n:swappedStores [tg] e X.env=pure none:=by rfl)(f:(assignEach [tg] X.env).map (·.2)=[assign tg X.env]:=by rfl):yb X xr (.Assign [tg] e pos) (Wq m tw):=by
 try simp only[jU]at*
 exact PS.imp (X3 o g d n f) λD x H ⟨u,A,i,S,j,h⟩=>by
   refine tM.go S j (zT.mp h) λw t a p v f l s q=>?_;cases E:tw w i with
   |none=>rw[E]at f;exact f.elim|some c=>
    rw[E]at f;exact⟨a,t,i,w,c,s,j.mono l,q,E,λb r=>f a p b l s r⟩
def AJ {a:Expr}{b:Expr}{ma:Ev}{Z:Ev}{pt:Pos}{T:Nat}(i j:Nat){y:Str}{P M p:Pos}{U:Nat}(r:X.calm=true)(B:X.N.Nodup)(u:zp X xr a ma)(t:zp X xr b Z)(hi:X.N[i]? =some x:=by rfl)(o:X.N[j]? =some y:=by rfl)(d:i≠j:=by decide)
  (n:X.env.scope.names.lookup x=some .local:=by rfl)(g:X.env.scope.names.lookup y=some .local:=by rfl)
  (hw:swappedStores [.Tuple [.Name x P,.Name y M] T pt] (.Tuple [a,b] U p) X.env=pure (some [x,y]):=by rfl)
  (s:swapsWithSole [.Tuple [.Name x P,.Name y M] T pt] (.Tuple [a,b] U p) pos.line X.env=pure false:=by rfl)
  (Y:starEach [a,b] X.env=(false,eval a X.env)::starEach [b] X.env:=by rfl)(e:starEach [b] X.env=(false,eval b X.env)::starEach [] X.env:=by rfl):
  yb X xr (.Assign [.Tuple [.Name x P,.Name y M] T pt] (.Tuple [a,b] U p) pos) (Ju i j ma Z):=by
 try simp only[jU]at*
 exact PS.imp (dc r B hi o d n g (qU u (qU t jB e) Y) hw s) λD σ H ⟨φ,A,ρ,S,K,h⟩=>by
   refine tM.go S K (zT.mp h) λw A1 f H1 v Y l E Q=>?_;refine tM.go E (K.mono l) (qo (zT.mp Y) (λ_ _ z=>z) λ_ _ z=>z.mono l) λJ A2 c I v2 e L C q=>?_;exact⟨v,v2,rfl,e c I _ (l.trans L) C (((K.mono (l.trans L)).set (Q.mono L)).set q)⟩
end
def EC {a:Expr}{b:Expr}{B:Ev}{M:Ev}{k:Nat}{n c:Pos}(r:qP k X.A)(o:zp X xr a B)(I:zp X xr b M)(s:starEach [b] X.env=(false,eval b X.env)::starEach [] X.env:=by rfl)
  (e:attributeBase a "index" X.env (eval a X.env)=eval a X.env:=by rfl)
  (w:((backTo c (starEach [b] X.env)).all (λx=>!x.1)&&(backToKw c (keywordEach [] X.env)).all (λx=>x.1.isSome)
   && decide ([b].length+([]:cc).length+(if ([]:cc).isEmpty then 0 else 1)<30))=true:=by rfl)(h:(n.endLine==c.line)=true:=by rfl):
  zp X xr (.Call (.Attribute a "index" n) [b] [] c) (yk gI B M):=by
 try simp only[jU]at*
 exact Vp PySem.F.slot_list_index PySem.F.type_list_index (F8 r.units) Cf (λt A H x y u v Q S l q p=>by
   unfold gI at p;cases E:zO A 8 u with
   |none=>rw[E]at p;exact p.elim|some D=>
    cases i:zO A 8 v with
    |none=>
     rw[E,i]at p;cases D<;>exact p.elim
    |some d=>
     rw[E,i]at p;cases D with
     |list C=>
      dsimp only at p;cases g:gN (λz=>PyData.eqv z d) C with
      |none=>rw[g]at p;exact p.elim|some j=>
       rw[g]at p;dsimp only at p
       by_cases f:j<1000000
       ·rw[ah f]at p
        exact⟨t,A,u,v,y,d,C,j,rfl,S,l,q,E,i,g,f,p t H _ .refl S rfl⟩
       ·rw[ai f]at p;exact p.elim
     |_=>exact p.elim) o I s e w h
def DE {X:Cx}{x:XR}{e:Expr}{m:Ev}{p:Pos}{o i a I:Expr}{q r mp M:Ev}{T t pt:Pos}{K:Nat}(l:X.calm=true)(y:zp X x e m)(j:zp X x o q)(u:zp X x i r)(c:zp X x a mp)(f:zp X x I M)
  (s:swapsWithSole [.Tuple [.Subscript o i T,.Subscript a I t] K pt] e p.line X.env=pure false:=by rfl)(w:swappedStores [.Tuple [.Subscript o i T,.Subscript a I t] K pt] e X.env=pure none:=by rfl)
  (z:(assignEach [.Tuple [.Subscript o i T,.Subscript a I t] K pt] X.env).map (·.2)=[assign (.Tuple [.Subscript o i T,.Subscript a I t] K pt) X.env]:=by rfl)
  (n:∀v,assign (.Subscript o i T) X.env v=(do
   let ov <- holding [v] (eval o X.env)
   let iv <- holding [v,ov] (eval i X.env)
   standAt T
   holding [v,ov,iv] (setItem ov iv v)
   release [v,ov,iv] []):=by intro _;rfl)
  (g:∀v,assign (.Subscript a I t) X.env v=(do
   let ov <- holding [v] (eval a X.env)
   let iv <- holding [v,ov] (eval I X.env)
   standAt t
   holding [v,ov,iv] (setItem ov iv v)
   release [v,ov,iv] []):=by intro _;rfl)
  (b:(assignEach [.Subscript o i T,.Subscript a I t] X.env).map (·.2)=assign (.Subscript o i T) X.env::(assignEach [.Subscript a I t] X.env).map (·.2):=by rfl)
  (H:(assignEach [.Subscript a I t] X.env).map (·.2)=assign (.Subscript a I t) X.env::(assignEach [] X.env).map (·.2):=by rfl)
  (d:(assignEach [.Subscript o i T,.Subscript a I t] X.env).length=2:=by rfl)(h:(assignEach [.Subscript o i T,.Subscript a I t] X.env).findIdx? (·.1)=none:=by rfl):
  yb X x (.Assign [.Tuple [.Subscript o i T,.Subscript a I t] K pt] e p) (J0 j6 m q r mp M):=by
 try simp only[jU]at*
 exact Ej l set_list Ol Py y j u c f s w z n g b H d h
def Hh {m:Ev}{P pos':Pos}(y:X.calm=true)(hm:X.mg "sorted"=none)(c:X.mg "set"=none)(M:zp X xr e m)(J:Gl X "sorted":=by rfl)(f:Gl X "set":=by rfl)(t:starEach [e] X.env=(false,eval e X.env)::starEach [] X.env:=by rfl)
  (b:starEach [.Call (.Name "set" P) [e] [] pos'] X.env=(false,eval (.Call (.Name "set" P) [e] [] pos') X.env)::starEach [] X.env:=by rfl):
  zp X xr (.Call (.Name "sorted" p) [.Call (.Name "set" P) [e] [] pos'] [] pos) (Ki m):=by
 try simp only[jU]at*
 exact PE.imp (wV (U6 y) J hm (by rfl) (qU (Qo (FN y) f c (by rfl) (qU M jB t) (by decide) (by decide) t (by rfl)) jB b) (by decide) (by decide) b (by rfl)) λσ H Q ⟨φ,A,ρ,S,re,h⟩=>by
   refine tM.go S re (zT.mp h) λw A1 a H1 v h1 D s B=>?_;cases w with
   |ref n=>
    unfold GY at h1;dsimp only at h1;cases E:A1[n]? with
    |none=>rw[E]at h1;exact h1.elim|some u=>cases u with
     |lst ws=>
      rw[E]at h1;dsimp only at h1;obtain⟨pl,ys,rfl,T,Y,z⟩:=s.lst B E;cases g:intsOf ws with
      |none=>rw[g]at h1;exact h1.elim|some is=>
       rw[g]at h1;dsimp only at h1;have U:=ZO g;subst U;have ev:=zr.ints.mp z;subst ev;cases q:gH is with
       |none=>rw[q]at h1;exact h1.elim|some vs=>
        rw[q]at h1;dsimp only at h1;obtain⟨e3,N⟩:=GR q;have j:H1 pl=some (.lst (vs.map λ(v:Nat)=>V.int (v:Int))):=by rw[Y,e3,aU];rfl
        refine⟨pl,vs,rfl,qI.of j,N,λl x=>⟨l,vs.foldl jn 0,rfl,ji,λC d=>?_⟩⟩;have ln:Le X.K a H1 a (upd H1 l (.ext λh=>jI h l (qY X.w) (vs.foldl jn 0))):=Le.new x;have S2:=s.lay (u:=.ext λh=>jI h l (qY X.w) (vs.foldl jn 0)) x;have r:∀(ψ:bT)(G:Hp),zr X.K ψ G (((List.range 8).filter λi=>decide (i∈vs)).map λ(i:Nat)=>W.int (i:Int)) ((zY (vs.foldl jn 0)).map λ(v:Nat)=>V.int (v:Int)):=λψ G=>by
         rw[Sx];have Z:∀l:bV,zr X.K ψ G (l.map λ(i:Nat)=>W.int (i:Int)) (l.map λ(v:Nat)=>V.int (v:Int)):=λl=>by
          induction l with
          |nil=>rfl|cons i l I=>exact⟨_,_,rfl,rfl,I⟩
         exact Z _
        obtain⟨L,S3⟩:=S2.alloc (o:=.lst (((List.range 8).filter λi=>decide (i∈vs)).map λ(i:Nat)=>W.int (i:Int))) d (u:=.lst ((zY (vs.foldl jn 0)).map λ(v:Nat)=>V.int (v:Int))) ⟨_,ji,r _ _⟩;exact h1 _ _ _ (D.trans (ln.trans L)) S3 ⟨C,rfl,by rw[<- s.len];simp⟩
     |_=>rw[E]at h1;exact h1.elim
   |_=>exact h1.elim
def Ds {a:Expr}{b:Expr}{g:Ev}{M:Ev}(c:X.calm=true)(i:X.mg "sum"=none)(e:zp X xr a g)(d:zp X xr b M)(H:Gl X "sum":=by rfl)(j:starEach [a,b] X.env=(false,eval a X.env)::starEach [b] X.env:=by rfl)
  (f:starEach [b] X.env=(false,eval b X.env)::starEach [] X.env:=by rfl)(h:(backTo pos (starEach [b] X.env)).any (·.1)=false:=by rfl):
  zp X xr (.Call (.Name "sum" p) [a,b] [] pos) (zi Zr g M):=by
 try simp only[jU]at*
 exact Vg (Fy c) AX CK i (by rfl) e d H (by decide) (by decide) j f h
def Hr {a:Expr}{b:Expr}{ma:Ev}{mb:Ev}{P pos':Pos}(I:X.calm=true)(hm:X.mg "list"=none)(o:X.mg "range"=none)(M:zp X xr a ma)(J:zp X xr b mb)(E:Gl X "list":=by rfl)(q:Gl X "range":=by rfl)(s:starEach [a,b] X.env=[(false,eval a X.env),(false,eval b X.env)]:=by rfl)(d:starEach [b] X.env=[(false,eval b X.env)]:=by rfl)
  (g:starEach [.Call (.Name "range" P) [a,b] [] pos'] X.env=(false,eval (.Call (.Name "range" P) [a,b] [] pos') X.env)::starEach [] X.env:=by rfl):
  zp X xr (.Call (.Name "list" p) [.Call (.Name "range" P) [a,b] [] pos'] [] pos) (wX ma mb):=by
 try simp only[jU]at*
 exact PE.imp (Qo (Ha I) E hm (by rfl) (qU (DJ q o (qU M (qU J jB (by rw[d];rfl)) (by rw[s,d])) s d) jB g) (by decide) (by decide) g (by rfl)) λσ H Q ⟨φ,A,ρ,S,re,h⟩=>by
   refine tM.go S re (zT.mp h) λw A1 t H1 v h1 L Z B=>?_;refine tM.go Z (re.mono L) (qo (zT.mp h1) (λ_ _ z=>z) λ_ _ z=>z.mono L) λu A2 c n v2 e C Y y=>?_;cases w with
   |int i=>
    obtain rfl:=B;cases u with
    |int j=>
     obtain rfl:=y;dsimp only at e
     by_cases f:(jt i&&(jt j&&decide ((j-i).toNat<=zR)))=true
     ·rw[ah f]at e
      rw[av,av,ao]at f;refine⟨i,j,rfl,λp r=>⟨p,i,j,rfl,ji,ZM f.1,ZM f.2.1,Zg f.2.2,λl D=>?_⟩⟩;have ln:Le X.K c n c (upd n p (.rng i j)):=Le.new r;have x:zr X.K c (upd n p (.rng i j)) ((List.range (j-i).toNat).map λ(k:Nat)=>W.int (i+k)) (QJ i (j-i).toNat):=by
       have:=(zr.ints (K:=X.K) (φ:=c) (H:=upd n p (.rng i j)) (ns:=(List.range (j-i).toNat).map λ(k:Nat)=>(i+(k:Int))) (vs:=QJ i (j-i).toNat)).mpr (by unfold QJ;simp)
       rw[aU]at this;exact this
      obtain⟨U,T,N⟩:=w8 (Y.lay r) D x;exact e _ _ _ (((L.trans C).trans ln).trans U) T N
     ·rw[ai f]at e;exact e.elim
    |_=>exact e.elim
   |_=>exact e.elim
@[irreducible] noncomputable def QT (X:Cx)(x:XR)(e:Option Expr)(p:Po):Prop:=Mi.SP X x e p
def iq:@QT=@Mi.SP:=by
 funext X xr e p
 unfold QT
 rfl
def QB:@zp=@Mi.SE/\@yI=@Mi.SA/\@yc=@Mi.ST/\@wg=@Mi.SW/\@yb=@Mi.SS/\@yP=@Mi.JE/\@yQ=@Mi.SI/\@kG=@Mi.SG/\@gY=@Mi.SF/\@wj=@Mi.SQ/\@k8=@Mi.YE/\@wm=@Mi.SM/\@WK=@Mi.SJ/\@QT=@Mi.SP:=⟨KZ,Xx,XT,XX,X0,Xg,XW,X6,XN,Xv,G9,XJ,Oi,iq⟩
def ir:QT X xr none jv:=by
 try simp only[QB]at*
 exact PO.imp Ac λb H Q ⟨a,A,c,S,r,h⟩=>h a H .refl S
def CV {m:Ev}(h:zp X xr e m):QT X xr (some e) (qO m):=by
 try simp only[QB]at*
 exact Mi.X2 h
def EW {m:Ev}{k:Nat}{o i:Expr}{M c:Ev}(H:qP k X.A)(f:zp X xr e m)(a:zp X xr o M)(d:zp X xr i c)
  (h:swapsWithSole [.Subscript o i l7] e pos.line X.env=pure false:=by rfl)(w:swappedStores [.Subscript o i l7] e X.env=pure none:=by rfl)
  (g:(assignEach [.Subscript o i l7] X.env).map (·.2)=[assign (.Subscript o i l7) X.env]:=by rfl)
  (b:∀v,assign (.Subscript o i l7) X.env v=(do
   let ov <- holding [v] (eval o X.env)
   let iv <- holding [v,ov] (eval i X.env)
   standAt l7
   holding [v,ov,iv] (setItem ov iv v)
   release [v,ov,iv] []):=by intro _;rfl):yb X xr (.Assign [.Subscript o i l7] e pos) (yd gQ m M c):=by
 try simp only[jU]at*
 exact Rj (set_dict H) Aw D9 f a d h w g b
def DZ {a b:Expr}{c M:Ev}(H:zp X xr a c)(h:zp X xr b M):zp X xr (.BinOp a .FloorDiv b pos) (zi gK c M):=by
 try simp only[jU]at*
 exact Qz DG Vl (Xw Dn λ_ _ _ _=>rfl) H h
def LS {m:Ev}{P pos':Pos}(q:X.calm=true)(hm:X.mg "sorted"=none)(c:X.mg "set"=none)(J:zp X xr e m)(D:Gl X "sorted":=by rfl)(f:Gl X "set":=by rfl)(s:starEach [e] X.env=(false,eval e X.env)::starEach [] X.env:=by rfl)
  (b:starEach [.Call (.Name "set" P) [e] [] pos'] X.env=(false,eval (.Call (.Name "set" P) [e] [] pos') X.env)::starEach [] X.env:=by rfl):
  zp X xr (.Call (.Name "sorted" p) [.Call (.Name "set" P) [e] [] pos'] [] pos) (Kf m):=by
 try simp only[jU]at*
 exact PE.imp (wV (U6 q) D hm (by rfl) (qU (Qo (Fo q) f c (by rfl) (qU J jB s) (by decide) (by decide) s (by rfl)) jB b) (by decide) (by decide) b (by rfl)) λσ H Q ⟨φ,A,ρ,S,re,h⟩=>by
   refine tM.go S re (zT.mp h) λw A1 a H1 v h1 C x z=>?_;cases w with
   |tup ws=>
    unfold GI at h1;dsimp only at h1;obtain⟨pl,ys,rfl,t,y⟩:=z;cases E:intsOf ws with
    |none=>rw[E]at h1;exact h1.elim|some is=>
     rw[E]at h1;dsimp only at h1;have N:=ZO E;subst N;have ev:=zr.ints.mp y;subst ev;cases j:gH is with
     |none=>rw[j]at h1;exact h1.elim|some vs=>
      rw[j]at h1;dsimp only at h1;obtain⟨U,M⟩:=GR j;have g:qp X.K H1 pl (vs.map λ(v:Nat)=>V.int (v:Int)):=by rw[U,aU]at t;exact t
      refine⟨pl,vs,rfl,g,M,λl n=>⟨l,vs.foldl jn 0,rfl,ji,λB d=>?_⟩⟩;have ln:Le X.K a H1 a (upd H1 l (.ext λh=>jI h l (qY X.w) (vs.foldl jn 0))):=Le.new n;have Z:=x.lay (u:=.ext λh=>jI h l (qY X.w) (vs.foldl jn 0)) n;have r:∀(ψ:bT)(G:Hp),zr X.K ψ G (((List.range 8).filter λi=>decide (i∈vs)).map λ(i:Nat)=>W.int (i:Int)) ((zY (vs.foldl jn 0)).map λ(v:Nat)=>V.int (v:Int)):=λψ G=>by
       rw[Sx];have T:∀l:bV,zr X.K ψ G (l.map λ(i:Nat)=>W.int (i:Int)) (l.map λ(v:Nat)=>V.int (v:Int)):=λl=>by
        induction l with
        |nil=>rfl|cons i l I=>exact⟨_,_,rfl,rfl,I⟩
       exact T _
      obtain⟨L,Y⟩:=Z.alloc (o:=.lst (((List.range 8).filter λi=>decide (i∈vs)).map λ(i:Nat)=>W.int (i:Int))) d (u:=.lst ((zY (vs.foldl jn 0)).map λ(v:Nat)=>V.int (v:Int))) ⟨_,ji,r _ _⟩;exact h1 _ _ _ (C.trans (ln.trans L)) Y ⟨B,rfl,by rw[<- x.len];simp⟩
   |_=>exact h1.elim
def CF {x:Expr}{m:Ev}{M:Ev}{P:Pos}(D:zp X xr e m)(s:zp X xr x M):zp X xr (.Subscript e (.Slice none none (some x) P) pos) (Wk m M):=by
 try simp only[jU]at*
 exact PE.imp (BK D (Mi.X2 s)) λT H Q ⟨N,A,B,S,y,h⟩=>by
   refine tM.go S y (zT.mp h) λw K c Y v E l n q=>?_;refine⟨c,K,B,n,y.mono l,qo (zT.mp E) (λo Z b f u L j=>?_) λ_ _ z=>z.mono l⟩;cases w with
   |tup U=>
    dsimp only at b
    by_cases d:o=some (-1)
    ·rw[ah d]at b
     obtain⟨a,C,rfl,t,r⟩:=q.mono L;refine⟨d,a,C,rfl,t,λp g=>?_⟩
     ·obtain⟨J,I,i⟩:=ZV j g (zr.rev r)
      exact b _ _ _ ((l.trans L).trans J) I i
    ·rw[ai d]at b;exact b.elim
   |_=>exact b.elim
def Es {m:Ev}(z:X.calm=true)(I:X.mg "sorted"=none)(j:zp X xr e m)(g:Gl X "sorted":=by rfl)(s:starEach [e] X.env=(false,eval e X.env)::starEach [] X.env:=by rfl):zp X xr (.Call (.Name "sorted" p) [e] [] pos) (Qu m):=by
 try simp only[jU]at*
 exact PE.imp (wV IC g I (by rfl) (qU j jB s) (by decide) (by decide) s (by rfl)) λZ H Q ⟨U,A,ρ,S,D,h⟩=>by
   refine tM.go S D (zT.mp h) λw T b H1 v B L c q=>?_;cases w with
   |ref n=>
    unfold Xz at B;dsimp only at B;cases E:T[n]? with
    |none=>rw[E]at B;exact B.elim|some u=>cases u with
     |lst C=>
      rw[E]at B;dsimp only at B;obtain⟨P,Y,rfl,o,x,d⟩:=c.lst q E;cases i:Z5 C with
      |none=>rw[i]at B;exact B.elim|some K=>
       rw[i]at B;dsimp only at B;obtain⟨t,N⟩:=Ro i;subst t
       by_cases a:K.length<64
       ·rw[ah a]at B
        refine⟨P,Y,K,b,rfl,qI.of x,d,N,a,λl zs f r=>?_⟩;obtain⟨M,J,y⟩:=w8 c f r;exact B _ _ _ (L.trans M) J y
       ·rw[ai a]at B;exact B.elim
     |_=>rw[E]at B;exact B.elim
   |_=>exact B.elim
section
variable {a b:Expr}{ma mb:Ev}
def EA {J kp:Pos}(B:Gl X "enumerate")(hm:X.mg "enumerate"=none)(C:zp X xr a ma)(s:starEach [a] X.env=(false,eval a X.env)::starEach [] X.env:=by rfl):yQ X xr (.Tuple lN kk l7) (.Call (.Name "enumerate" p) [a] [⟨some "start",.Constant (.int 1) j J,kp⟩] pos) (Wd ma):=by
 try simp only[jU]at*
 exact PI.imp (DC B hm (qU C jB s) s) λσ H Q ⟨φ,A,ρ,S,re,h⟩=>by
   refine tM.go S re (zT.mp h) λw A1 b H1 v U L d q=>?_;cases w with
   |ref n=>
    cases es:zI (.ref n) A1 with
    |none=>rw[es]at U;exact U.elim|some ws=>
     rw[es]at U;obtain⟨p,ys,rfl,Z,N⟩:=JS d q es;refine⟨p,ys,rfl,Z,U b H1 _ L d λi g T M lw f=>?_⟩;unfold QG;dsimp only;cases es:zI (.ref n) M with
     |none=>exact⟨λ_ z=>(by cases z),λz=>(by cases z)⟩|some ws=>
      dsimp only;obtain⟨ys,U,c⟩:=Y9 q lw f es;unfold atEnd;cases E:ws[i]? with
      |none=>
       dsimp only
       by_cases l:ws.length=i
       ·rw[ah l]
        exact⟨λ_ z=>(by cases z),λ_=>⟨ys,U,by rw[<- c.length];exact l⟩⟩
       ·rw[ai l]
        exact⟨λ_ z=>(by cases z),λz=>(by cases z)⟩
      |some x=>
       dsimp only;refine⟨λu z=>?_,λz=>(by cases z)⟩
       cases z;obtain⟨y,e,I⟩:=c.get E;refine⟨⟨ys,y,U,e⟩,λP H1 ⟨t,Y,o,r,ex,D⟩=>?_⟩;subst ex D
       have:=o ys U
       rw[e]at this;cases this;obtain⟨a1,a2,K⟩:=ZV f r (.cons (w:=.int ((i+1:Nat):Int)) (v:=.int ((i+1:Nat):Int)) rfl (.one I));exact⟨a1,a2,K⟩
   |_=>exact U.elim
def iu (C:zp X xr a ma)(B:zp X xr b mb):zp X xr (.Dict [some a] [b] pos) (WJ ma mb):=by
 try simp only[jU]at*
 exact PE.imp (Ah (EY C B Bm) rfl rfl (by simp) (by simp)) λσ H Q ⟨φ,A,ρ,S,U,h⟩ p y=>by
   obtain⟨l,J⟩:=S.alloc (o:=.dct []) y (u:=.dK []) ⟨[],ji,rfl,.nil⟩;refine tM.go J (U.mono l) (qo (zT.mp h) (λ_ _ z=>z) λ_ _ z=>z.mono l) λw A1 j H1 v h1 g I x=>?_;have L:=l.trans g;refine tM.go I (U.mono L) (qo (zT.mp h1) (λ_ _ z=>z) λ_ _ z=>z.mono L) λq A2 c i N f d s t=>?_;have e:=L.trans d
   split at f
   ·rename_i k D E
    have ev:=Er (x.mono d) D;have M:c[A.length]? =some p:=d.ex _ _ (g.ex _ _ (by rw[<- S.len];simp))
    obtain⟨P,Y,Z,T,g2,g3⟩:=s.ob _ _ E;rw[M]at Y;cases Y;obtain rfl:Z=[]:=by simpa using g2
    refine⟨T,[(k,N)],by rw[ev];rfl,by simp,?_⟩
    have ln:Le X.K c i c (upd i p (.dK [(k,N)])):=Le.upd M (λxs z=>by rw[T]at z;cases z) (λ_ _ z=>by rw[T]at z;cases z)
    obtain⟨r,n⟩:=s.write (o:=.dct []) (o':=.dct [(k,q)]) E rfl rfl M (u:=.dK [(k,N)]) ⟨_,ji,rfl,.one (t.mono ln)⟩;exact f _ _ _ (e.trans r) n ⟨p,rfl,M⟩
   ·exact f.elim
end
def D4 {m:Ev}{lo hi:Option Expr}{pl pu:Po}{P:Pos}(he:zp X xr e m)(I:QT X xr lo pl)(D:QT X xr hi pu):zp X xr (.Subscript e (.Slice lo hi none P) pos) (qX m pl pu):=by
 try simp only[QB]at*
 exact PE.imp (Dx ij he I D) λσ H Q ⟨φ,A,ρ,S,re,h⟩=>by
   refine tM.go S re (zT.mp h) λw A1 i H1 v h1 f U C=>?_;refine⟨i,A1,ρ,U,re.mono f,qo (zT.mp h1) (λl A2 J g Z d T=>?_) λ_ _ z=>z.mono f⟩;refine⟨g,A2,ρ,T,(re.mono f).mono d,qo (zT.mp J) (λu Y b c B q s=>?_) λ_ _ z=>z.mono (f.trans d)⟩;have L:=(f.trans d).trans q;cases w with
   |tup ws=>
    obtain⟨a,vs,rfl,t,r⟩:=(C.mono d).mono q;have hlen:ws.length=vs.length:=r.length;refine .inl ⟨a,vs,rfl,t,λhw=>?_,λhw p x=>?_⟩
    ·refine b c B _ L s ⟨a,vs,rfl,t,?_⟩
     have:yO ws l u=ws:=by
      unfold yO;rw[hlen,hw.1,hw.2,Nat.sub_zero,drop_zero,<- hlen,bD]
     rw[this];exact r
    ·have j:zr X.K c B (yO ws l u) (gm vs l u):=by
      unfold yO gm;rw[hlen];exact zr.take _ (zr.drop _ r)
     obtain⟨a1,a2,y⟩:=ZV s x j;exact b _ _ _ (L.trans a1) a2 y
   |ref n=>
    dsimp only at b;cases E:Y[n]? with
    |none=>rw[E]at b;exact b.elim|some o=>cases o with
     |lst ws=>
      rw[E]at b;dsimp only at b;obtain⟨a,vs,rfl,M,N,r⟩:=s.lst ((C.mono d).mono q) E;have hlen:ws.length=vs.length:=r.length;refine .inr ⟨a,vs,rfl,qI.of N,λp x=>?_⟩;have j:zr X.K c B (yO ws l u) (gm vs l u):=by
       unfold yO gm;rw[hlen];exact zr.take _ (zr.drop _ r)
      obtain⟨a1,a2,y⟩:=w8 s x j;exact b _ _ _ (L.trans a1) a2 y
     |_=>rw[E]at b;exact b.elim
   |_=>exact b.elim
def F5 {m:Ev}{k:Nat}(r:qP k X.A)(b:X.mg "sorted"=none)(a:zp X xr e m)(H:Gl X "sorted":=by rfl)(c:starEach [e] X.env=(false,eval e X.env)::starEach [] X.env:=by rfl)(h:(backTo pos (starEach [] X.env)).any (·.1)=false:=by rfl):
  zp X xr (.Call (.Name "sorted" p) [e] [] pos) (qE ko m):=by
 try simp only[jU]at*
 exact O5 Iq EO FY b (by rfl) a H (by decide) (by decide) c h
section
def GW {t:Lm}{q:Str}{P:Pos}{RF:Nat->List W->Hx->R W}(C:X8 X)(hl:Js X.prog X.w X.K X.mg j q t)(L:Wj X.N X.env.scope t=true)
  (hR:∀base PG,(∀k,QH X.prog X.w X.K X.mg base (j+1) (PG k) (kZ [t] k))->zU X.prog X.w X.K X.mg base kk x 1 (Z8 PG RF))(hr:qP kk X.A)
  (hB:BMain X.mg X.base)(f:X.env.code=.ref c)(hC:CodeHd X.base c Pt)(d:X.env.qual ++ "<lambda>"=q)(u:defaultsOf t.params X.env=([],[]))(hg:Gl X x:=by rfl)(hdb:(x==("__debug__":Str))=false:=by decide)
  (he:starEach [.Lambda t.params t.body t.scope P] X.env=(false,eval (.Lambda t.params t.body t.scope P) X.env)::starEach [] X.env:=by rfl)(Y:(backTo pos (starEach [] X.env)).any (·.1)=false:=by rfl):
  zp X yi (.Call (.Name x p) [.Lambda t.params t.body t.scope P] [] pos) (kN n q Pt t.idx (RF 0)):=by
 try simp only[QB]at*
 intro l0 s σ H Q I ⟨φ,A,ρ,S,re,h⟩;unfold kN at h;cases E:A[n]? with
 |none=>rw[E]at h;exact h.elim|some o=>cases o with
  |tab q' P'=>
   rw[E]at h;dsimp only at h
   by_cases hc:q'=q/\P'=Pt
   ·rw[ah hc]at h
    cases ec:QL t.idx ρ with
    |none=>rw[ec]at h;exact h.elim|some ws=>
     rw[ec]at h;dsimp only at h;obtain⟨fa,fd,ps,F,hm,hk,hb⟩:=hR _ _ (SY (q:=q) I C hl (Xu L)).2;refine wpAny_Call_Name_kw (JW I hg hm ?_ hdb);have hS:SA X yi [.Lambda t.params t.body t.scope P] (zc (Jt n q Pt 0 (Qc X.env q [t] 0)) zh):=Mi.Pq (Aj (ls:=[t]) rfl L hB f hC d u) Mi.PX;refine callWith_K (h₀:=X.base) I.ok.mod.kin hk (zQ (hS pos l0 s σ H (λvs H1=>∃b,Le X.K φ H b H1/\zF X.K b A H1/\zr X.K b H1 [.clo 0 ws (YL X.env q [t] σ 0)] vs) I ⟨φ,A,ρ,S,re,?_⟩) λus s1 ⟨vs,H1,D,r1,b,l,S1,B⟩=>⟨D.kIn,?_⟩) he Y
     ·have em:zc (Jt n q Pt 0 (Qc X.env q [t] 0)) zh ρ A=.ok [.clo 0 [] (Qc X.env q [t] 0)] A:=by
       unfold zc Jt;rw[E];dsimp only;rw[ah hc]
       rfl
      rw[em];intro b H1 vs l S1 q1;refine⟨b,l,S1,?_⟩;obtain⟨v,r',rfl,hv,U⟩:=q1;obtain rfl:r'=[]:=U;obtain⟨a,ob,u0,c0,oc,uc,vs0,rfl,g1,g2,⟨t',et',gp⟩,_⟩:=hv;cases et';obtain⟨M,cv,B⟩:=Sa (re.mono l) ec;exact .one ⟨a,ob,u0,c0,oc,uc,M,rfl,g1,g2,⟨t,rfl,gp,cv⟩,B⟩
     ·obtain⟨e0,hL⟩:=SY (q:=q) D C hl (Xu L)
      obtain⟨fa',fd',T,F',i,hk',hb'⟩:=hR _ _ hL;rw[hm]at i;cases i;have g:Za X.K 1 (Z8 (YL X.env q [t] σ) RF) vs H1 Q E0:=by
       refine⟨by rw[<- B.length];rfl,b,A,[.clo 0 ws (YL X.env q [t] σ 0)],S1,B,?_⟩
       unfold Z8;dsimp only;rw[ah rfl];exact qo h (λ_ _ z=>z.mono l) λy A2 z J H2 l2 S2=>((z.mono l) J H2 l2 S2).elim
      have Z:=F'.len _ _ _ _ g;have hu:us.length=T.length:=by rw[<- r1.length];exact Z
      refine wpAny_call (codeAny_mono (F'.run X.A X.stack s1 H1 ⟨[]++us,[]⟩ us vs Q E0 hr e0 ?_ r1 g) λr s2 d=>?_)
      ·have:=hb' s1 us D.kIn (by rw[bx];exact hu)
       rw[bx]at this;exact this
      ·cases r with
       |error e=>exact False.elim d|ok fl=>
        cases fl with
        |ret u1=>exact D.after d|next=>exact False.elim d|brk=>exact False.elim d|cont=>exact False.elim d
   ·rw[ai hc]at h;exact h.elim
  |_=>rw[E]at h;exact h.elim
def CM {B:Expr}{m M:Ev}{P:Pos}(J:zp X xr e m)(g:zp X xr B M):zp X xr (.Subscript e (.Slice none none (some B) P) pos) (Yi m M):=by
 try simp only[QB]at*
 exact PE.imp (il J (Mi.X2 g)) λσ H Q ⟨Z,A,D,S,C,h⟩=>by
   refine tM.go S C (zT.mp h) λw Y c H1 v K l x q=>?_;refine⟨c,Y,D,x,C.mono l,qo (zT.mp K) (λo U b f y L s=>?_) λ_ _ z=>z.mono l⟩;cases w with
   |ref n=>
    dsimp only at b;cases E:U[n]? with
    |none=>rw[E]at b;exact b.elim|some ob=>cases ob with
     |lst ws=>
      rw[E]at b;dsimp only at b
      by_cases d:o=some (-1)
      ·rw[ah d]at b
       obtain⟨a,I,rfl,j,t,r⟩:=s.lst (q.mono L) E;refine⟨d,a,I,rfl,qI.of t,λp i=>?_⟩;obtain⟨T,N,u⟩:=w8 s i (zr.rev r);exact b _ _ _ ((l.trans L).trans T) N u
      ·rw[ai d]at b;exact b.elim
     |_=>rw[E]at b;exact b.elim
   |_=>exact b.elim
variable {K:Frag}{st:Stmt}{k:Nat}{m:Ex}
def iw (F:kI K x x st f fd)(n:nsIn K mainGlobals x=some (some (.ref f)))(t:tabIn K x=some (c,Pt))(S:qM N ps (qh st))
  (h:∀(A:Around)(o:b9)(s:Shared)(H:Hp)(E:XK),qP k (A.deeper (envOfC x (qh st) s.heap.objs.size f (.ref c)))->yP (kE kJ P w K mg base N x (qh st) f (.ref c) A o s H E).nox yi (yJ st) m):
  ym P w K mg base kJ (k+1) f fd ps (Za K ps.length (qF N.length m)):=by
 try simp only[QB]at*
 exact(fS (q := "") (ls:=[]) (m:=λ_=>m) F n t S h).imp λv H Q E ⟨l,a,A,b,S,r,q⟩=>⟨l,a,A,b,S,r,λ_=>q⟩
end
section
variable {m:Ev}
def DO {k:Nat}(r:qP k X.A)(y:X.mg "repr"=none)(i:zp X xr e m)(g:Gl X "repr":=by rfl)(f:starEach [e] X.env=(false,eval e X.env)::starEach [] X.env:=by rfl):
  zp X xr (.Call (.Name "repr" p) [e] [] pos) (qE wD m):=by
 try simp only[QB]at*
 exact PE.imp (wV (FH r) g y (by rfl) (qU i jB f) (by decide) (by decide) f (by rfl)) λD H Q ⟨C,A,I,S,x,h⟩=>by
   refine tM.go S x (zT.mp h) λw t a M v j l s q=>?_;unfold wD at j;cases b:zO t 8 w with
   |some d=>
    rw[b]at j;dsimp only at j
    by_cases c:(d.showable&&decide (d.shown.length<=10000000))=true
    ·rw[ah c]at j
     rw[av,ao]at c;exact⟨v,rfl,.dat a t w d s q b c.1 c.2 (j _ _ _ l s rfl)⟩
    ·rw[ai c]at j;exact j.elim
   |none=>
    rw[b]at j;dsimp only at j;cases w with
    |ref n=>
     dsimp only at j;cases E:t[n]? with
     |none=>rw[E]at j;exact j.elim|some o=>cases o with
      |dct K=>
       rw[E]at j;cases K with
       |nil=>
        obtain⟨p,u,rfl,L,B,z,J⟩:=s.dct q E
        have:u=[]:=by cases u with|nil=>rfl|cons _ _=>cases z
        subst this;exact⟨_,rfl,.dct p rfl B (j _ _ _ l s rfl)⟩
       |cons _ _=>exact j.elim
      |_=>rw[E]at j;exact j.elim
    |_=>exact j.elim
end
def zU.up {K:Frag}{k:Nat}{f:Fn}(F:zU P w K mg base j x n f)(h:j<=k:=by decide):zU P w K mg base k x n f:=F.mono h
def jS.up {K:Frag}{k:Nat}{f:Fn}(F:jS P w K mg base j x n f)(h:j<=k:=by decide):jS P w K mg base k x n f:=F.mono h
section
variable {C:List Value->Prop}
theorem V6 (h:∀a,C [a]):∀us:bS,us.length=1->C us
 |[a],_=>h a
theorem YF (h:∀a b,C [a,b]):∀us:bS,us.length=2->C us
 |[a,b],_=>h a b
theorem iy (h:∀a b c,C [a,b,c]):∀us:bS,us.length=3->C us
 |[a,b,c],_=>h a b c
end
def Yf {l:bW}(h:decide l.Nodup=true):l.Nodup:=of_decide_eq_true h
noncomputable def NW (N P:bW)(s:Scope):Bool:=decide (s.kind=.function)&&(!s.isCoroutine&&(!s.isGenerator&&(decide N.Nodup&&(decide (N.take P.length=P)&&(P.all (λx=>decide (s.names.lookup x=some .local) || decide (s.names.lookup x=some .cell))&&s.names.all λy=>!decide (y.2=.free))))))
def je {P:bW}(h:NW N P sc=true):qM N P sc:=by
 unfold NW at h;simp only[av,ao,Bool.not_eq_true',bz,bO,decide_eq_false_iff_not]at h;obtain⟨g,f,e,d,c,b,a⟩:=h;exact⟨g,f,e,d,c,b,λy H=>a y H⟩
section
def iz {E:Expr}{d:Nat}(a:zp X yi E me)(h:∀e s,X.xe e s->False:=by exactλ_ _ z=>z)(H:gens[d+1]? =none:=by rfl):wm X E gens sc pos d (zK me):=CQ h a H
end
open PySem L2
abbrev zl:Ev:=qf 0
abbrev zm:Ev:=qf 1
abbrev zM:Ev:=qf 2
abbrev zB:Ev:=qf 3
abbrev jd:Ev:=qf 4
abbrev jK:Ev:=qf 5
abbrev jA:Ev:=qf 6
abbrev j8:Ev:=qf 7
abbrev QX:Ev:=qf 8
abbrev zD:Ev:=zZ (.int 0)
abbrev zu:Ev:=zZ (.int 1)
abbrev qz:Ev:=zZ (.int 2)
abbrev jc:Ev:=zZ (.int 3)
abbrev kT:Ev:=zZ (.int 4)
abbrev g9:Ev:=zZ (.int 5)
abbrev VY:Ev:=zZ (.int 6)
abbrev WG:Ev:=zZ (.int 7)
abbrev gq:Ev:=zZ (.int 8)
abbrev WT:Ev:=zZ (.int 9)
abbrev QQ:Ev:=zZ (.int 10)
abbrev zS:Ev:=zZ (.bl true)
abbrev NF:Ev:=zZ (.bl false)
abbrev Zb:Ev:=zZ .non
abbrev jE:Ex:=zo (qv NF) zx
noncomputable def V7:Expr->List Str
 |.Name x _=>[x]|_=>[]
def iA:Expr->List Str
 |.Tuple E _ _=>E.flatMap V7|e=>V7 e
def iB:Expr->List Str
 |.Tuple E _ _=>E.flatMap iA|e=>V7 e
def Qf (N:bW)(s:List Comprehension)(c:bV):bW:=(s.flatMap λg=>iB g.target)++c.map λi=>N.getD i Str.empty
section
variable {lL l4:Expr}{gs:List Comprehension}{mf:Ev}{em:Em}{nl:Nat}
def iC (w:yQ X xr tg l4 mi)
  (n:∀s H fp,kG (jx X (Qf X.N (⟨tg,l4,ifs,0⟩::gs) cap) sc s H fp j7) tg tw/\k8 (jx X (Qf X.N (⟨tg,l4,ifs,0⟩::gs) cap) sc s H fp j7) ifs mf/\wm (jx X (Qf X.N (⟨tg,l4,ifs,0⟩::gs) cap) sc s H fp j7) lL (⟨tg,l4,ifs,0⟩::gs) sc pos 0 em)
  (c:X.calm=true:=by rfl)(S:wY X sc:=by exact cps (by kernel_rfl))(p:Zs X.N (Qf X.N (⟨tg,l4,ifs,0⟩::gs) cap) sc nl cap=true:=by kernel_rfl)
  (b:∀g',gs[0]? =some g'->g'.is_async=0:=by intro _ h;cases h<;>rfl)
  (a:∀x,foldedSetIterable l4 X.env x=pure x:=by intro _;rfl):gY X xr (.ListComp lL (⟨tg,l4,ifs,0⟩::gs) sc pos) (zN nl cap mi tw mf em):=EN nl cap c S p w n b a
def iD {P a:Pos}(j:yQ X xr tg l4 mi)
  (n:∀s H fp,kG (jx X (Qf X.N (⟨tg,l4,ifs,0⟩::gs) cap) sc s H fp j7) tg tw/\k8 (jx X (Qf X.N (⟨tg,l4,ifs,0⟩::gs) cap) sc s H fp j7) ifs mf/\wm (jx X (Qf X.N (⟨tg,l4,ifs,0⟩::gs) cap) sc s H fp j7) lL (⟨tg,l4,ifs,0⟩::gs) sc pos 0 em)
  (g:X.N.Nodup:=by exact Yf (by kernel_rfl))(e:X.calm=true:=by rfl)(S:wY X sc:=by exact cps (by kernel_rfl))(p:Zs X.N (Qf X.N (⟨tg,l4,ifs,0⟩::gs) cap) sc nl cap=true:=by kernel_rfl)
  (b:X.N[i]? =some x:=by rfl)(c:X.env.scope.names.lookup x=some .local:=by rfl)
  (w:swapsWith (.ListComp lL (⟨tg,l4,ifs,0⟩::gs) sc pos) (some (.Name x P)) a.line X.env=pure true:=by rfl)
  (f:∀g',gs[0]? =some g'->g'.is_async=0:=by intro _ h;cases h<;>rfl)
  (d:∀x,foldedSetIterable l4 X.env x=pure x:=by intro _;rfl):yb X xr (.Assign [.Name x P] (.ListComp lL (⟨tg,l4,ifs,0⟩::gs) sc pos) a) (zV i (qj (zN nl cap mi tw mf em))):=Hg i nl cap g e S p j n b c w f d
variable {es:bY}{g:Heap}{top:Str}{np lJ:Pos}
def CS (h:yI X xr es mr)(H:kP mr es.length:=by repeat' (first|refine ZP ?_|exact ZW))(n:es.length<=zR:=by decide):zp X xr (.List es pos) (zJ mr):=Cu h H n
def iE {k:Nat}(h:yI X xr es mr)(H:kP mr es.length:=by repeat' (first|refine ZP ?_|exact ZW))(n:es.length<=zR:=by decide):zp X xr (.Tuple es k pos) (zy mr):=Dp h H n
def FV (o:wb X g xr)(c:Kx X.K top x)(d:yI X xr (e::es) mr)(l:kP mr (e::es).length:=by repeat' (first|refine ZP ?_|exact ZW))(n:(e::es).length<=sizeLine:=by decide)(a:Gl X x:=by rfl)(h:X.calm=true:=by rfl)
  (b:(x==("__debug__":Str))=false:=by decide)(f:starEach (e::es) X.env=(false,eval e X.env)::starEach es X.env:=by rfl)(H:(backTo lJ (starEach es X.env)).any (·.1)=false:=by rfl):
  yb X xr (.Raise (some (.Call (.Name x np) (e::es) [] lJ)) none pos) (J5 x mr):=H9 o c d l n a h b f H
def yf {k:Nat}{f:Fn}(r:qP k X.A)(F:zU X.prog X.w X.K X.mg X.base j x n f)(a:yI X yi (e::es) mr)(h:j<=k:=by decide)(l:kP mr n:=by repeat' (first|refine ZP ?_|exact ZW))(g:Gl X x:=by rfl)
  (b:(x==("__debug__":Str))=false:=by decide)(c:starEach (e::es) X.env=(false,eval e X.env)::starEach es X.env:=by rfl)(H:(backTo pos (starEach es X.env)).any (·.1)=false:=by rfl):
  zp X yi (.Call (.Name x p) (e::es) [] pos) (zw f mr):=Rl (F.mono h) r a l g b c H
def iF {k:Nat}{f:Fn}(o:wb X g xr)(r:qP k X.A)(F:jS X.prog X.w X.K X.mg X.base j x n f)(c:yI X xr (e::es) mr)(h:j<=k:=by decide)(l:kP mr n:=by repeat' (first|refine ZP ?_|exact ZW))(a:Gl X x:=by rfl)
  (b:(x==("__debug__":Str))=false:=by decide)(d:starEach (e::es) X.env=(false,eval e X.env)::starEach es X.env:=by rfl)(H:(backTo pos (starEach es X.env)).any (·.1)=false:=by rfl):
  zp X xr (.Call (.Name x p) (e::es) [] pos) (zw f mr):=Ke o (F.mono h) r c l a b d H
end
end Mi
namespace G
open PySem L2 Mi
noncomputable def top (i:Nat):Stmt:=PySem.Challenge.pw_nearkinds_k70_kinds_made_one.main.body.getD i (.Pass ⟨0,0,0,0⟩)
structure Bu (mg:b8):Prop where
 LP:mg "ValueError"=none
 zda:mg "abs"=none
 zcV:mg "all"=none
 zbj:mg "bool"=none
 Tf:mg "enumerate"=none
 OW:mg "int"=none
 Qi:mg "isinstance"=none
 zcH:mg "len"=none
 Yc:mg "list"=none
 O0:mg "max"=none
 zdn:mg "min"=none
 KA:mg "range"=none
 zcj:mg "repr"=none
 ON:mg "set"=none
 Kh:mg "sorted"=none
 zdF:mg "sum"=none
 Xb:mg "tuple"=none
 zdy:mg "zip"=none
 Lv:∃t,mg "MOST_PLACES"=some (.int 8 t)
noncomputable abbrev qK:bW:=["NoTable","NoParting"]
noncomputable abbrev Ko:bW:=["NoTable","NotSteady","NoPlace","NoKind","NoMix","NoNumber","NoLot","NoKinds","NoPaper","NoParting","NoClosed","TooMany","NoText","NoLine","NoDeed"]
def NI {K:Frag}(R:Ko.all (ZY K qK)=true)(h:Ko.contains x=true:=by decide +kernel):ZY K qK x=true:=cy.mp R x (List.contains_iff_mem.mp h)
def GK {l:List (Str×NameKind)}(h:(l.all λy=>!(y.2==.cell))=true):∀y∈l,y.2≠.cell:=λy H e=>by
 have q:=cy.mp h y H;rw[e]at q;cases q
def yE {m:Ev}(h:zp X xr e m):SE X xr e m:=by rw[KZ]at h;exact h
abbrev TZ:Stmt:=top 1
def IX:qM ["thing"] ["thing"] (qh TZ):=je (by kernel_rfl)
def TM:Ex:=zo (qv (jz (jN .int zl) (qW (jN .bl zl)))) zx
abbrev Ts:Stmt:=top 2
def Iy:qM ["thing","many"] ["thing","many"] (qh Ts):=je (by kernel_rfl)
def Gz (g:Fn):Ex:=zo (qv (jz (jN .tup zl) (jz (zi qG (mQ qw (zX zl)) zm) (mQ wK (zN 1 [] (z9 zl) (zC 0) zS (zK (zw g (zc zl zh)))))))) zx
abbrev Um:Stmt:=top 3
def Mc:qM ["thing","many","limit"] ["thing","many","limit"] (qh Um):=je (by kernel_rfl)
def W3 (I:Fn):Ex:=zo (qv (jz (zw I (zc zl (zc zm zh))) (mQ wK (zN 1 [2] (z9 zl) (zC 0) zS (zK (yt yW YB zD zl zm)))))) zx
abbrev Ui:Stmt:=top 4
def Ma:qM ["thing","least","greatest"] ["thing","least","greatest"] (qh Ui):=je (by kernel_rfl)
def Ug (g:Fn):Ex:=zo (qv (jz (zw g (zc zl zh)) (yt yW yW zm zl zM))) zx
abbrev Tu:Stmt:=top 5
def L1:qM ["things"] ["things"] (qh Tu):=je (by kernel_rfl)
def Tt:Ex:=zo (qv (mQ wK (zN 2 [] (Qa zl (qX zl (qO zu) jv)) (yL 0 1) zS (zK (zi Zu zl zm))))) zx
abbrev Uj:Stmt:=top 6
def N9:qM ["thing","least","greatest"] ["thing","least","greatest"] (qh Uj):=je (by kernel_rfl)
def WZ (g:Fn)(M:Fn):Ex:=zo (qu (qW (jN .tup zl)) jE zx) (zo (qv (jz (mQ wK (zN 1 [1,2] (z9 zl) (zC 0) zS (zK (zw M (zc zl (zc zm (zc zM zh))))))) (zw g (zc zl zh)))) zx)
abbrev TQ:Stmt:=top 26
def IM:qM ["thing","many"] ["thing"] (qh TQ):=je (by kernel_rfl)
def Y6 (f:Fn)(M:Fn)(N:Fn):Ex:=zo (qu (yH (qW (jN .tup zl)) (qW (yt yW yW zu (mQ qw (zX zl)) gq))) jE zx) (zo (zV 1 (mQ qw (zX zl))) (zo (qu (qW (mQ wK (zN 1 [1] (z9 zl) (zC 0) zS (zK (zw M (zc zl (zc zm (zc zm zh)))))))) jE zx) (zo (qv (jz (zw f (zc zl zh)) (zw N (zc zl zh)))) zx)))
abbrev Sj:Stmt:=top 27
def HV:qM ["rows","a","row","b","kind"] ["rows"] (qh Sj):=je (by kernel_rfl)
def Si:Ex:=zo (jR (Jq zl) (yL 1 2) (zo (jR (Jq zM) (yL 3 4) (zo (qu (yH (zi qJ (zi qG jd zD) (zi qG zm zB)) (zi qJ (zi zH (zi zH zl zB) zm) jd)) jE zx) zx)) zx)) (zo (qv zS) zx)
abbrev Ue:Stmt:=top 28
def N0:qM ["rows","standing"] ["rows"] (qh Ue):=je (by kernel_rfl)
def Ud:Ex:=zo (zV 1 (qj (zN 2 [] (z9 zl) (zC 0) zS (Z4 (z9 zl) (zC 1) zS (zK zm))))) (zo (qv (mQ wK (zN 1 [1] (jm (mQ j4 (zX zm))) (zC 0) zS (zK (zi WM zl zm))))) zx)
abbrev Uy:Stmt:=top 29
def MB:qM ["table"] ["table"] (qh Uy):=je (by kernel_rfl)
def W6 (f:Fn):Ex:=zo (qu ((λa A=>((qW (zw f (zc zl zh))) a A).nox)) (zo (J5 "NoTable" (zc (zZ (.str "this is no table")) zh)) zx) zx) zx
abbrev UI:Stmt:=top 30
def MU:qM ["table"] ["table"] (qh UI):=je (by kernel_rfl)
def UB:Ex:=zo (qv (zi zL (mQ j4 (zN 1 [] (z9 zl) (zC 0) zS (zK (mQ j4 (zX zl))))) zu)) zx
abbrev TC:Stmt:=top 31
def LX:qM ["rows","names"] ["rows","names"] (qh TC):=je (by kernel_rfl)
def TJ:Ex:=zo (qv (mQ yg (zN 1 [1] (z9 zl) (zC 0) zS (zK (mQ yg (zN 1 [1] (z9 zl) (zC 0) zS (zK (zi Ye zm zl)))))))) zx
abbrev Uo:Stmt:=top 33
def Mf:qM ["table","thing","last","kinds"] ["table","thing"] (qh Uo):=je (by kernel_rfl)
def YR (L:Fn)(g:Fn)(M:Fn):Ex:=zo (zV 2 (zi j5 (zw L (zc zl zh)) zu)) (zo (qu (yH (qW (jN .lst zm)) (qW (mQ wK (zN 1 [2] (z9 zm) (zC 0) zS (zK (zw M (zc zl (zc zu (zc zm zh))))))))) jE zx) (zo (zV 3 (qj (zN 2 [] (z9 zm) (zC 0) zS (Z4 (z9 zl) (zC 1) zS (zK zm))))) (zo (qv (jz (zw g (zc zm zh)) (jz (zi gC (zy zh) zm) (zi qG (qE ko zB) (wX zu (zi zL zM zu)))))) zx)))
abbrev UN:Stmt:=top 34
def Lp:qM ["table","thing"] ["table","thing"] (qh UN):=je (by kernel_rfl)
def Gm (a:Fn)(w:Fn):Ex:=zo (kH (zw w (zc zl zh))) ((λb A=>((zo (qv (zw a (zc zl (zc zm zh)))) zx) b A).nox))
abbrev PC:Stmt:=top 35
def DK:qM ["table","parting","names","name","part","kind"] ["table","parting"] (qh PC):=je (by kernel_rfl)
def RN (I:Fn):Ex:=zo (zV 2 (WJ zD zD)) (zo (jR (Wd zm) (yL 3 4) (zo (jR (z9 jd) (zC 5) (zo (yd gQ zB zM jK) zx)) zx)) (zo (qv (zw I (zc zl (zc zM zh)))) zx))
abbrev T3:Stmt:=top 36
def Hi:qM ["table","parting"] ["table","parting"] (qh T3):=je (by kernel_rfl)
def Kc (a:Fn)(b:Fn)(w:Fn):Ex:=zo (kH (zw w (zc zl zh))) (zo (qu ((λc A=>((qW (zw a (zc zl (zc zm zh)))) c A).nox)) (zo (J5 "NoParting" (zc (zZ (.str "this is no parting of the table's kinds")) zh)) zx) zx) ((λc A=>((zo (qv (zw b (zc zl (zc zm zh)))) zx) c A).nox)))
abbrev Uz:Stmt:=top 38
def MO:qM ["_law_script","_law_k"] ["_law_script","_law_k"] (qh Uz):=je (by kernel_rfl)
def Ga:Ex:=zo (qu (zi YB zm (mQ qw (zX zl))) (zo (qv (zi zH zl zm)) zx) zx) (zo (qv zD) zx)
abbrev UJ:Stmt:=top 39
def Lj:qM ["_law_script","_law_k","_law_cell"] ["_law_script","_law_k"] (qh UJ):=je (by kernel_rfl)
def Gp (M:Fn):Ex:=zo (zV 2 (zw M (zc zl (zc zm zh)))) (zo (qu (zi V4 zM (zi Wv QQ (zZ (.int 18)))) (zo (qv (zJ (zc (zi j5 zM (zi Wv QQ (zZ (.int 18)))) (zc zS zh)))) zx) zx) (zo (qv (zJ (zc (zi kr zM (zZ (.int 2147483647))) (zc NF zh)))) zx))
abbrev To:Stmt:=top 40
def Ir:qM ["_law_state_here","_law_many","_law_found","_law_stirred"] ["_law_state_here","_law_many"] (qh To):=je (by kernel_rfl)
def Gv:Ex:=zo (qu (zi zH zl zu) (zo (zV 2 (zi kr (zi zH zl zD) zm)) (zo (yd j6 (zi gK (zi zH zl zD) zm) zl zD) (zo (qv zM) zx))) zx) (zo (yd j6 (zi kr (zi zL (zi ja (zi zH zl zD) (zZ (.int 48271))) (zZ (.int 29))) (zZ (.int 2147483647))) zl zD) (zo (zV 3 (zi kr (zi zL (zi zL (zi ja (zi zH zl zD) (zi zH zl zD)) (zi ja (zZ (.int 39373)) (zi zH zl zD))) WG) (zZ (.int 2147483629)))) (zo (zV 3 (zi kr (zi zL (zi ja zB zB) (zi ja (zZ (.int 16807)) zB)) (zZ (.int 2147483587)))) (zo (qv (zi kr (zi gK zB gq) zm)) zx))))
abbrev Uw:Stmt:=top 41
def Mw:qM ["_law_state_here","_law_things","_law_left","_law_found"] ["_law_state_here","_law_things"] (qh Uw):=je (by kernel_rfl)
def Up (j:Fn):Ex:=zo (zV 2 (qj (zX zm))) (zo (zV 3 (zJ zh)) (zo (XQ 1000 (zi qJ zM (zJ zh)) (zo (kH (yk yS zB (yk gF zM (zw j (zc zl (zc (mQ qw (zX zM)) zh)))))) zx)) (zo (qv zB) zx)))
abbrev U8:Stmt:=top 42
def LB:qM ["_law_rows","_law_some"] ["_law_rows"] (qh U8):=je (by kernel_rfl)
def UZ:Ex:=zo (zV 1 (Ki (zi Zr (qj (zN 1 [] (z9 zl) (zC 0) zS (zK (qj (zX zl))))) (zJ zh)))) (zo (qv (mQ yg (zN 1 [1] (z9 zl) (zC 0) zS (zK (mQ yg (zN 1 [1] (z9 zl) (zC 0) zS (zK (yk gI zm zl)))))))) zx)
abbrev UP:Stmt:=top 43
def Lr:qM ["_law_state_here","_law_way","_law_many","_law_wide","_law_high","_law_some","_law_ring","_law_rows","_law_a","_law_near","_law_far"] ["_law_state_here"] (qh UP):=je (by kernel_rfl)
def Gr (j:Fn):Ex:=zo (zV 1 (zw j (zc zl (zc gq zh)))) (zo (zV 2 (zi zH (zJ (zc gq (zc WG (zc VY (zc g9 (zc kT (zc jc (zc qz (zc zu zh))))))))) (zw j (zc zl (zc gq zh))))) (zo (qu (zi qG zm zD) (zo (qv (qj (zN 1 [2] (jm zM) (zC 0) zS (zK (qj (zN 1 [0,1] (jm zm) (zC 0) zS (zK (zi Z1 (qE Yx (zi j5 zm zl)) (zi j5 zM (qE Yx (zi j5 zm zl))))))))))) zx) zx) (zo (qu (zi qG zm zu) (zo (zV 2 (zi zH (zJ (zc gq (zc kT (zc qz zh)))) (zw j (zc zl (zc jc zh))))) (zo (qv (qj (zN 1 [2] (jm zM) (zC 0) zS (zK (qj (zN 1 [0] (jm zm) (zC 0) zS (zK (zi zH (zJ (zc zD (zc zu (zc zu (zc qz (zc zu (zc qz (zc qz (zc jc zh))))))))) (zi VD zm zl))))))))) zx)) zx) (zo (qu (zi qG zm qz) (zo (qv (qj (zN 1 [2] (jm zM) (zC 0) zS (zK (qj (zN 1 [0] (jm zm) (zC 0) zS (zK (qE QN (zi qJ zm zl))))))))) zx) zx) (zo (qu (zi qG zm jc) (zo (Wq (zi zH (zJ (zc (zy (zc qz (zc kT zh))) (zc (zy (zc kT (zc qz zh))) (zc (zy (zc qz (zc jc zh))) (zc (zy (zc jc (zc qz zh))) (zc (zy (zc qz (zc qz zh))) zh)))))) (zw j (zc zl (zc g9 zh)))) (yL 3 4)) (zo (zV 2 (zi ja zB jd)) (zo (qv (qj (zN 1 [2,3] (jm zM) (zC 0) zS (zK (qj (zN 1 [0,2] (jm zm) (zC 0) zS (zK (zi zL (qE QN (zi qJ zm zl)) (qE QN (zi qJ (zi gK zm zM) (zi gK zl zM))))))))))) zx))) zx) (zo (qu (zi qG zm kT) (zo (zV 5 (zJ (zc (zy (zc zD (zc zu zh))) (zc (zy (zc zD (zc qz zh))) (zc (zy (zc zD (zc jc zh))) (zc (zy (zc zu (zc qz zh))) (zc (zy (zc zu (zc jc zh))) (zc (zy (zc qz (zc jc zh))) zh)))))))) (zo (qv (qj (zN 1 [5] (z9 jK) (zC 0) zS (zK (qj (zN 1 [0] (z9 zm) (zC 0) zS (zK (zi j5 qz (mQ qw (zN 1 [0] (z9 zm) (zC 0) (zi WM zl zm) (zK zl))))))))))) zx)) zx) (zo (qu (zi qG zm g9) (zo (zV 2 (zi zH (zJ (zc kT (zc gq (zc qz zh)))) (zw j (zc zl (zc jc zh))))) (zo (qv (qj (zN 1 [2] (jm zM) (zC 0) zS (zK (qj (zN 1 [0] (jm zm) (zC 0) zS (zK (zi VD zm zl)))))))) zx)) zx) (zo (zV 3 (zi zH (zJ (zc kT (zc jc (zc qz zh)))) (zw j (zc zl (zc jc zh))))) (zo (zV 6 (zJ (zc zD (zc zu (zc (zi zH (zJ (zc qz (zc zu zh))) (qE QN (zi qG zB jc))) (zc zu zh)))))) (zo (zV 7 (zJ zh)) (zo (jR (jm (zi ja qz zB)) (zC 8) (zo (zV 9 (qj (zN 1 [3,6,8] (jm (zi ja qz zB)) (zC 0) zS (zK (zi zH zM (zi kr (qE Yx (zi j5 zB zl)) zm)))))) (zo (zV 10 (qj (zN 1 [3,8] (jm (zi ja qz zB)) (zC 0) zS (zK (qE QN (zi qJ (zi gK zM zm) (zi gK zl zm))))))) (zo (qu (zi qG zm VY) (zo (kH (yk yS j8 (qj (zN 1 [9,10] (jm (zi ja qz zB)) (zC 0) zS (zK (zi zL (zi ja jc (zi zH zM zl)) (zi zH zm zl))))))) zx) (zo (kH (yk yS j8 (qj (zN 1 [9,10] (jm (zi ja qz zB)) (zC 0) zS (zK (NJ (zi qG (zi zH zM zl) zu) jc (zi zH zm zl))))))) zx)) zx)))) (zo (qv j8) zx))))))))))))
abbrev UX:Stmt:=top 44
def Lh:qM ["_law_state_here","_law_rows","_law_order","_law_kinds_here"] ["_law_state_here"] (qh UX):=je (by kernel_rfl)
def UY (U:Fn)(Y:Fn)(I:Fn):Ex:=zo (zV 1 (zw Y (zc (zw I (zc zl zh)) zh))) (zo (zV 2 (zw U (zc zl (zc (JZ (mQ qw (zX zm))) zh)))) (zo (zV 3 (zi zL (zJ (zc zD zh)) (zw U (zc zl (zc (wX zu (zi zL zu (mQ j4 (zN 1 [] (z9 zm) (zC 0) zS (zK (mQ j4 (zX zl))))))) zh))))) (zo (qv (mQ yg (zN 1 [1,2,3] (z9 zM) (zC 0) zS (zK (mQ yg (zN 1 [0,1,3] (z9 zM) (zC 0) zS (zK (zi zH zB (zi zH (zi zH zM zm) zl))))))))) zx)))
abbrev U1:Stmt:=top 45
def Lk:qM ["_law_state_here","_law_way","_law_rows","_law_many","_law_a","_law_b","_law_far"] ["_law_state_here"] (qh U1):=je (by kernel_rfl)
def U5 (U:Fn)(Y:Fn)(j:Fn):Ex:=zo (zV 1 (zw j (zc zl (zc jc zh)))) (zo (qu (zi qG zm zD) (zo (qv (zw U (zc zl zh))) zx) zx) (zo (zV 2 (qj (zN 1 [] (z9 (zw U (zc zl zh))) (zC 0) zS (zK (qj (zX zl)))))) (zo (zV 3 (mQ qw (zX zM))) (zo (qu (jz (zi qG zm zu) (zi V3 zB zu)) (zo (zV 4 (zw j (zc zl (zc zB zh)))) (zo (zV 5 (zi kr (zi zL (zi zL jd zu) (zw j (zc zl (zc (zi j5 zB zu) zh)))) zB)) (zo (yd j6 (zi zL zu (zw j (zc zl (zc (zi j5 zB zu) zh)))) (zi zH zM jd) jK) (zo (yd j6 (zi zH (zi zH zM jd) jK) (zi zH zM jK) jd) (zo (qv (zw Y (zc zM zh))) zx))))) zx) (zo (zV 6 (zi zH (zJ (zc qz (zc jc (zc zu zh)))) (zw j (zc zl (zc jc zh))))) (zo (jR (jm zB) (zC 4) (zo (jR (jm jd) (zC 5) (zo (yd j6 (zi zL zu (zw j (zc zl (zc (zi Z1 jA (zi j5 zB zu)) zh)))) (zi zH zM jd) jK) (zo (yd j6 (zi zH (zi zH zM jd) jK) (zi zH zM jK) jd) zx))) zx)) (zo (qv (zw Y (zc zM zh))) zx)))))))
abbrev US:Stmt:=top 46
def Lc:qM ["_law_table_here"] ["_law_table_here"] (qh US):=je (by kernel_rfl)
def U2:Ex:=zo (qv (zi zL zu (mQ j4 (zN 1 [] (z9 zl) (zC 0) zS (zK (mQ j4 (zX zl))))))) zx
abbrev Tj:Stmt:=top 49
def Iz:qM ["_law_table_here","_law_parting","_law_names","_law_at","_law_kind"] ["_law_table_here","_law_parting"] (qh Tj):=je (by kernel_rfl)
def Ta (w:Fn):Ex:=zo (zV 2 (zi ja (zJ (zc zD zh)) (zw w (zc zl zh)))) (zo (jR (jm (mQ qw (zX zm))) (zC 3) (zo (jR (z9 (zi zH zm zB)) (zC 4) (zo (yd j6 (zi zL zB zu) zM jd) zx)) zx)) (zo (qv (mQ yg (zN 1 [2] (z9 zl) (zC 0) zS (zK (mQ yg (zN 1 [1] (z9 zl) (zC 0) zS (zK (zi zH zm zl)))))))) zx))
abbrev UW:Stmt:=top 50
def Ln:qM ["_law_thing"] ["_law_thing"] (qh UW):=je (by kernel_rfl)
def U0:Ex:=zo (qv (jz (jN .int zl) (qW (jN .bl zl)))) zx
abbrev UD:Stmt:=top 51
def M5:qM ["_law_thing","_law_low","_law_high"] ["_law_thing","_law_low","_law_high"] (qh UD):=je (by kernel_rfl)
def Gd (I:Fn):Ex:=zo (qu (yH (qW (jN .tup zl)) (zi qJ (qj (zN 1 [] (z9 zl) (zC 0) (qW (zw I (zc zl zh))) (zK zl))) (zJ zh))) jE zx) (zo (qu (zi qJ (qj (zN 1 [1,2] (z9 zl) (zC 0) (qW (yt yW yW zm zl zM)) (zK zl))) (zJ zh)) jE zx) (zo (qv (zi qG (qj (zX zl)) (Kf zl))) zx))
abbrev Us:Stmt:=top 52
def Mt:qM ["_law_state_here","_law_some"] ["_law_state_here"] (qh Us):=je (by kernel_rfl)
def Uv (j:Fn):Ex:=zo (zV 1 (zJ (zc Zb (zc zD (zc (zy zh) (zc (zy (zc (zy zh) zh)) (zc (zy (zc (zy (zc zu zh)) zh)) (zc (zJ (zc (zJ (zc zD zh)) zh)) (zc (zy (zc (zJ (zc zD zh)) zh)) (zc (zy (zc (zy (zc zD zh)) (zc (zy (zc zD zh)) zh))) (zc (zy (zc (zy (zc zD (zc zu zh))) (zc (zy (zc qz (zc zD zh))) zh))) (zc (zy (zc (zy (zc zD (zc qz zh))) (zc (zy (zc qz (zc zD zh))) zh))) (zc Jy zh))))))))))))) (zo (zV 1 (zi zL zm (zJ (zc (zy (zc (zy (zc zD (zc zu zh))) (zc (zy (zc zu (zc zu zh))) zh))) (zc (zy (zc (zy (zc zS zh)) zh)) (zc (zy (zc (zy (zc zD (zc zS zh))) (zc (zy (zc zS (zc zD zh))) zh))) (zc (zy (zc (zy (zc zD (zc (qE kO zu) zh))) (zc (zy (zc (qE kO zu) (zc zD zh))) zh))) (zc (zy (zc (zy (zc zD (zc zu zh))) (zc (zy (zc zu (zc zD zh))) (zc (zy (zc zu (zc zu zh))) zh)))) zh)))))))) (zo (zV 1 (zi zL zm (zJ (zc (zy (zc (zy (zc zD (zc zu (zc qz zh)))) (zc (zy (zc zu (zc zD (zc qz zh)))) (zc (zy (zc qz (zc qz (zc zu zh)))) zh)))) (zc (zZ (.str "0")) (zc (zy (zc (zy (zc zD (zc jc (zc jc zh)))) (zc (zy (zc jc (zc zD (zc zu zh)))) (zc (zy (zc jc (zc zu (zc zD zh)))) zh)))) (zc (zy (zc (zy (zc zD zh)) (zc (zy zh) zh))) (zc (zy (zc zD zh)) zh)))))))) (zo (zV 1 (zi zL zm (zJ (zc (zy (zc (zy (zc Zb zh)) zh)) (zc (zy (zc (zy (zc zD (zc zD zh))) (zc (zy (zc zD (zc zD zh))) zh))) zh))))) (zo (qv (zi zH zm (zw j (zc zl (zc (zZ (.int 23)) zh))))) zx))))
abbrev Gy:Stmt:=top 53
def L8:qM ["_law_found","_law_due"] ["_law_found","_law_due"] (qh Gy):=je (by kernel_rfl)
def ZI (g:Fn):Ex:=zo (qu (Wy .tup .lst zm) (zo (qu (yH (zi qJ (jN .tup zl) (jN .tup zm)) (zi qJ (jN .lst zl) (jN .lst zm))) jE zx) (zo (qu (zi qJ (mQ qw (zX zl)) (mQ qw (zX zm))) jE zx) (zo (qv (mQ wK (zN 2 [] (Qa zl zm) (yL 0 1) zS (zK (zw g (zc zl (zc zm zh))))))) zx))) zx) (zo (qv (jz (zi qG zl zm) (zi qG (jN .bl zl) (jN .bl zm)))) zx)
set_option hygiene false in
local macro_rules | `(tactic| walk_at "y")=>`(tactic| repeat' first|refine DT ?_ ?_|refine Bq|exactλ_ _ _ _ _ _=>V6 λ_=>rfl|exactλ_ _ _ _ _ _=>YF λ_ _=>rfl|exactλ_ _ _ _ _ _=>iy λ_ _ _=>rfl|exactλ_ _ _ _ _ _=>bd4 λ_ _ _ _=>rfl|exactλ_ _ _ _ _ _=>bd5 λ_ _ _ _ _=>rfl|refine iz ?_|refine CV ?_|refine ir|refine fv (λ_ _ z=>z) rfl rfl (by intro _ h;cases h<;>rfl) ?_ ?_ ?_ ?_|refine Cw ?_|(show zp _ _ (.Call _ _ _ _) _;first|refine CZ (Bu.zcH ‹_›) ?_|refine ip ((yV.isx ‹_›) (NI ‹_›)) (fV (NI ‹_›)) (Bu.Qi ‹_›) ?_|refine FX (Bu.Xb ‹_›) ?_|refine AE rfl (Bu.zcV ‹_›) ?_|refine DS rfl (Bu.O0 ‹_›) ?_|refine DV (Bu.Yc ‹_›) ?_|refine K5 .tup (Bu.Qi ‹_›) (Bu.Xb ‹_›) (by rfl) ?_|refine FU (Bu.OW ‹_›) ?_|refine K5 .lst (Bu.Qi ‹_›) (Bu.Yc ‹_›) (by rfl) ?_|refine K5 .bl (Bu.Qi ‹_›) (Bu.zbj ‹_›) (by rfl) ?_|refine DA rfl (Bu.zdn ‹_›) ?_ ?_|refine AA (Bu.zda ‹_›) ?_|refine Hr rfl (Bu.Yc ‹_›) (Bu.KA ‹_›) ?_ ?_|refine DO ‹_› (Bu.zcj ‹_›) ?_|refine K5 .int (Bu.Qi ‹_›) (Bu.OW ‹_›) (by rfl) ?_|refine Es rfl (Bu.Kh ‹_›) ?_|refine F5 ‹_› (Bu.Kh ‹_›) ?_|refine BJ .tup .lst (Bu.Qi ‹_›) (Bu.Xb ‹_›) (Bu.Yc ‹_›) (by rfl) (by rfl) ?_|refine D3 (yV.isv ‹_›) (Bu.Qi ‹_›) (Bu.LP ‹_›) (by rfl) ?_|refine Cz rfl (Bu.O0 ‹_›) ?_ ?_|refine Ds rfl (Bu.zdF ‹_›) ?_ ?_|refine Hh rfl (Bu.Kh ‹_›) (Bu.ON ‹_›) ?_|refine LS rfl (Bu.Kh ‹_›) (Bu.ON ‹_›) ?_|refine Fc rfl (Bu.Yc ‹_›) (Bu.KA ‹_›) ?_|refine yf ‹_› (IV ‹_›) ?_|refine Rl ‹_› ‹_› ?_|refine yf ‹_› (U7 ‹_›) ?_|refine yf ‹_› (LR ‹_›) ?_|refine yf ‹_› (HU ‹_›) ?_|refine yf ‹_› (IW ‹_›) ?_|refine yf ‹_› (MJ ‹_›) ?_|refine yf ‹_› (Ib ‹_›) ?_|refine iF ‹_› ‹_› (MH ‹_›) ?_|refine yf ‹_› (Mr ‹_›) ?_|refine yf ‹_› (IE ‹_›) ?_|refine yf ‹_› (La ‹_›) ?_|refine yf ‹_› (L5 ‹_›) ?_|refine yf ‹_› (Hd ‹_›) ?_|refine yf ‹_› (Me ‹_›) ?_|refine yf ‹_› (LY ‹_›) ?_|refine yf ‹_› (Li ‹_›) ?_|refine yf ‹_› (Mz ‹_›) ?_|refine yf ‹_› (EL ‹_›) ?_|refine yf ‹_› (N7 ‹_›) ?_|refine yf ‹_› (Lo ‹_›) ?_|refine yf ‹_› (Ml ‹_›) ?_|refine yf ‹_› (Hw ‹_›) ?_|refine yf ‹_› (iH ‹_›) ?_)|(show zp _ _ _ _;first|refine Qt _|refine CU|refine iE ?_|refine CS ?_|refine fm ?_ ?_|refine Bk ?_ ?_|refine fj|refine D7 (e:=.ListComp _ _ _ _) ?_|refine Ba ?_ ?_|refine Av ?_ ?_|refine D4 ?_ ?_ ?_|refine AZ ?_ ?_|refine Vs (Nb ‹_›) ?_ ?_|refine Az ?_|refine AN ?_ ?_|refine Br|refine DZ ?_ ?_|refine HL ?_ ?_|refine fo ?_|refine Vs (OX ‹_›) ?_ ?_|refine BV|refine BE ?_|refine BD ?_ ?_|refine CY ?_ ?_|refine Ar|refine Vs (ig ‹_›) ?_ ?_|refine OC Nj ?_ ?_|refine Ee ‹_› ?_ ?_|refine EC ‹_› ?_ ?_|refine P9 Yy Yy ?_ ?_ ?_|refine iu ?_ ?_|refine Fh ?_ ?_|refine fk ?_ ?_ ?_|refine CF ?_ ?_|refine CM ?_ ?_|refine P9 Yy Nw ?_ ?_ ?_|refine Ct rfl (Bu.Lv ‹_›).choose_spec|refine OC (Co ‹_›) ?_ ?_)|(show yI _ _ _ _;first|refine Qr ?_ ?_|refine KU)|(show yb _ _ _ _;first|refine BA ?_|refine Bc _ (Yf (by kernel_rfl)) ?_|refine fy ?_ ?_ ?_|refine BQ PassesOwn.never rfl ?_ ?_ ?_|refine AW ?_ ?_ ?_|refine D5 ?_|refine iD ?_ λ_ _ _=>⟨?_,?_,?_⟩|refine AJ _ _ rfl (Yf (by kernel_rfl)) ?_ ?_|refine FV ‹_› (yV.exc ‹_› _ (by decide +kernel)) ?_|refine EW ‹_› ?_ ?_ ?_|refine FW _ PassesOwn.never ?_ ?_|refine Bd ?_ ?_|refine DE rfl ?_ ?_ ?_ ?_ ?_)|(show kG _ _ _;first|refine As _ (Yf (by kernel_rfl))|refine Cs _ _ rfl (Yf (by kernel_rfl)))|(show k8 _ _ _;first|refine DY|refine D8 ?_)|(show gY _ _ _ _;first|refine iC ?_ λ_ _ _=>⟨?_,?_,?_⟩)|(show yQ _ _ _ _ _;first|refine fq ?_|refine Dd rfl (Bu.KA ‹_›) ?_|refine ft rfl (Bu.zdy ‹_›) ?_ ?_|refine CB rfl (Bu.Tf ‹_›) ?_|refine ER rfl (Bu.KA ‹_›) ?_ ?_|refine EA rfl (Bu.Tf ‹_›) ?_)|(show wj _ _ _ _;first|refine fw ?_|refine fx (e:=.ListComp _ _ _ _) ?_)|(show yc _ _ _ _;first|refine fC ?_|refine Yh (OX ‹_›) ?_ ?_|refine Yh (Nb ‹_›) ?_ ?_|refine E4 (e:=.BoolOp _ _ _) ?_|refine fA Yy Yy ?_ ?_ ?_|refine Yh Nw ?_ ?_|refine Yh eD ?_ ?_|refine fB Nj ?_ ?_|refine Yh eC ?_ ?_|refine Ax ?_|refine Bf ?_)|(show wg _ _ _ _;first|refine fE ?_|refine fD ?_ ?_|refine Dv ?_|refine BG ?_ ?_))
def Gw {K:Frag}{k:Nat}(T:Bu mg)(F:kI K "_law_same" "_law_same" Gy f fd)(a:mg "_law_same"=some (.ref f)){g:Fn}(wU:zU P w K mg base k "_law_same" 2 g):zU P w K mg base (k+1) "_law_same" 2 (qF 2 (ZI g)):=
 Vz F a L8 (λ_ _ _ _ _ _=>YF λ_ _=>rfl) λc A o s H E h=>by walk_at "y"
abbrev W9:Stmt:=top 54
def Ux:qM ["_law_call","_law_error","e","_law_marks"] ["_law_call"] (qh W9):=je (by kernel_rfl)
def W7:Ex:=zo (zV 3 (zJ (zc (qS (jb qK "NoTable") zm) (zc (qS (jb qK "NotSteady") zm) (zc (qS (jb qK "NoPlace") zm) zh))))) (zo (zV 3 (zi zL zB (zJ (zc (qS (jb qK "NoKind") zm) (zc (qS (jb qK "NoMix") zm) (zc (qS (jb qK "NoNumber") zm) zh)))))) (zo (zV 3 (zi zL zB (zJ (zc (qS (jb qK "NoLot") zm) (zc (qS (jb qK "NoKinds") zm) (zc (qS (jb qK "NoPaper") zm) zh)))))) (zo (zV 3 (zi zL zB (zJ (zc (qS (jb qK "NoParting") zm) (zc (qS (jb qK "NoClosed") zm) (zc (qS (jb qK "TooMany") zm) zh)))))) (zo (zV 3 (zi zL zB (zJ (zc (qS (jb qK "NoText") zm) (zc (qS (jb qK "NoLine") zm) (zc (qS (jb qK "NoDeed") zm) zh)))))) (zo (qu (qW (qS (VT qK) zm)) (zo (qv Zb) zx) zx) (zo (qv (qj (zN 1 [3] (jm (zZ (.int 15))) (zC 0) (zi zH zm zl) (zK zl)))) zx))))))
def JH (PG:wJ)(l:Nat->Fn):Ex:=zo (zV 1 Zb) (zo (Yr 0 1 2 qK PG l) W7)
def M8 {K:Frag}{k:Nat}(T:Bu mg)(C:yV K qK "NearError")(R:Ko.all (ZY K qK)=true)(F:kI K "_law_refused" "_law_refused" W9 f fd)(a:mg "_law_refused"=some (.ref f)){PG:wJ}{l:Nat->Fn}(h:kk<=k)(L:∀k,QH P w K mg base kk (PG k) (l k)):zU P w K mg base (k+1) "_law_refused" 1 (qF 4 (JH PG l)):=
 Vz F a Ux (λ_ _ _ _ _ _=>V6 λ_=>rfl) λc A o s H E r=>(by walk_at "y";exact AV L (r.mono h) rfl rfl C.top_at C.top_exc (by decide +kernel) C.under Ux.nd rfl rfl rfl rfl rfl rfl rfl)
abbrev Ul:Stmt:=top 55
def Mk:qM ["_law_table_here","_law_thing","_law_kinds_here","_law_some"] ["_law_table_here","_law_thing"] (qh Ul):=je (by kernel_rfl)
def YN (w:Fn)(L:Fn):Ex:=zo (qu (qW (jN .lst zm)) jE zx) (zo (zV 2 (zJ zh)) (zo (jR (z9 zm) (zC 3) (zo (qu (yH (qW (zw L (zc zB (zc zu (zc (zi j5 (zw w (zc zl zh)) zu) zh))))) (zi qG zB (zy zh))) jE zx) (zo (zV 2 (zi zL zM (qj (zX zB)))) zx))) (zo (qv (jz (zi qG (qE ko zM) (wX zu (zw w (zc zl zh)))) (zi qG zm (Qu zm)))) zx)))
abbrev UM:Stmt:=top 56
def Lw:qM ["_law_state_here","_law_table_here","_law_lots","_law_kind"] ["_law_state_here","_law_table_here"] (qh UM):=je (by kernel_rfl)
def UU (w:Fn)(j:Fn):Ex:=zo (zV 2 (qj (zN 1 [] (QF zu (zw w (zc zm zh))) (zC 0) zS (zK (zJ zh))))) (zo (jR (QF zu (zw w (zc zm zh))) (zC 3) (zo (kH (yk yS (zi zH zM (zw j (zc zl (zc (mQ qw (zX zM)) zh)))) zB)) zx)) (zo (qv (Qu (qj (zN 1 [] (z9 zM) (zC 0) (zi qJ zl (zJ zh)) (zK (mQ yg (zX zl))))))) zx))
abbrev Ti:Stmt:=top 57
def Ia:qM ["_law_state_here","_law_parting","_law_kinds_here","_law_at","_law_to","_law_one","_law_odd","_law_other","_law_some"] ["_law_state_here","_law_parting","_law_kinds_here"] (qh Ti):=je (by kernel_rfl)
def Tw (j:Fn):Ex:=zo (Ju 3 4 (zw j (zc zl (zc (zi zL (mQ qw (zX zm)) zu) zh))) (zw j (zc zl (zc (zi zL (mQ qw (zX zm)) zu) zh)))) (zo (zV 5 (zi zH (zi zL (qX zm (qO zB) (qO (zi zL zB zu))) (zJ (zc (zy (zc zu zh)) zh))) zD)) (zo (zV 6 (zJ (zc (zy zh) (zc (Wk jK (qE kO zu)) (zc (zi zL jK (zy (zc zM zh))) (zc (qX jK (qO zu) jv) (zc (qj (zX jK)) (zc Zb (zc (zy (zc zD zh)) (zc (zy (zc zS zh)) (zc zu (zc (zi zL jK (qX jK (qO (qE kO zu)) jv)) zh)))))))))))) (zo (zV 6 (zi zH jA (zw j (zc zl (zc QQ zh))))) (zo (zV 7 (zi zL (qj (zX zm)) (zJ (zc (zy (zc zu zh)) zh)))) (zo (J0 j6 (zy (zc (zi zH j8 jd) (zc (zi zH j8 zB) zh))) j8 zB j8 jd) (zo (zV 8 (zJ (zc (zi zL (zi zL (qX zm jv (qO zB)) (zJ (zc jA zh))) (qX zm (qO (zi zL zB zu)) jv)) (zc (zi zL (zi zL (qX zm jv (qO zB)) (zJ (zc jA zh))) (qX zm (qO zB) jv)) zh)))) (zo (kH (yk yS QX (zi zL (qX zm jv (qO zB)) (qX zm (qO (zi zL zB zu)) jv)))) (zo (qv (zi zH (zi zL QX (zJ (zc (qX j8 jv (qO (mQ qw (zX zm)))) (zc (mQ yg (zX zm)) (zc (Yi zm (qE kO zu)) (zc Zb (zc Jy (zc zD (zc (zJ (zc zm zh)) zh))))))))) (zw j (zc zl (zc QQ zh))))) zx))))))))
abbrev QC:Stmt:=top 58
def iG:qM ["_law_script","_law_k","_law_state_here","_law_table_here","_law_parting","_law_bad","_law_thing","_law_good","_law_kept"] ["_law_script"] (qh QC):=je (by kernel_rfl)
noncomputable abbrev yK:Str:=(("law":Str)++(".<locals>.":Str))++("<lambda>":Str)
def J1 (J:Fn)(j:Fn):Lm:=VI (VP (VQ (hH (VM (YA (YA ((yJ QC).getD 0 Qw) 4) 3)) 1)) 0) ["_law_table_here","_law_thing"] [3,6] (zw j (zc zl (zc zm zh)))
def Df {K:Frag}{k:Nat}(T:Bu mg){j:Fn}(g:∀base,jS P w K mg base k "is_parting" 2 j){J:Fn}(b:∀base,jS P w K mg base k "made_one" 2 J):Js P w K mg k yK (J1 j J):=
 ⟨⟨rfl,rfl,rfl,GK (by kernel_rfl)⟩,λ_ _ _ _=>rfl,λbase cl a c A o s H E h x=>yE (Ke x (b base) h (Qr (Qt 0) (Qr (Qt 1) KU)))⟩
def JX (J:Fn)(j:Fn):Lm:=VI (VP (VQ (VM (YA (YA ((yJ QC).getD 0 Qw) 4) 4))) 0) ["_law_bad","_law_thing"] [5,6] (zw j (zc zl (zc zm zh)))
def ES {K:Frag}{k:Nat}(T:Bu mg){j:Fn}(g:∀base,jS P w K mg base k "is_parting" 2 j){J:Fn}(b:∀base,jS P w K mg base k "made_one" 2 J):Js P w K mg k yK (JX j J):=
 ⟨⟨rfl,rfl,rfl,GK (by kernel_rfl)⟩,λ_ _ _ _=>rfl,λbase cl a c A o s H E h x=>yE (Ke x (b base) h (Qr (Qt 0) (Qr (Qt 1) KU)))⟩
def J2 (j:Fn)(J:Fn):Lm:=VI (VP (VQ (VM (YA ((yJ QC).getD 0 Qw) 5))) 0) ["_law_parting","_law_bad"] [4,5] (zw j (zc zm (zc zl zh)))
def De {K:Frag}{k:Nat}(T:Bu mg){j:Fn}(g:∀base,jS P w K mg base k "is_parting" 2 j){J:Fn}(b:∀base,jS P w K mg base k "made_one" 2 J):Js P w K mg k yK (J2 j J):=
 ⟨⟨rfl,rfl,rfl,GK (by kernel_rfl)⟩,λ_ _ _ _=>rfl,λbase cl a c A o s H E h x=>yE (Ke x (g base) h (Qr (Qt 1) (Qr (Qt 0) KU)))⟩
def Vc (S:Fn)(c:Fn)(U:Fn)(Q:Fn)(w:Fn)(b:Fn)(g:Fn)(Y:Fn)(y:Fn)(a:Fn)(K:Fn)(j:Fn)(J:Fn)(RG:Lm->Nat->List W->Hx->R W)(P:Addr):Ex:=zo (jR (jm (zi Vj zu (zi Z1 (mQ qw (zX zl)) g9))) (zC 1) (zo (zV 2 (zw Y (zc zl (zc zm zh)))) (zo (zV 3 (zw y (zc zM zh))) (zo (zV 4 (zw U (zc zM (zc zB zh)))) (zo (zV 5 (zw S (zc zM zh))) (zo (jR (z9 (zi zL (zJ (zc jd (zc (zJ zh) zh))) (qj (zN 1 [2,3,4] (jm g9) (zC 0) zS (zK (zw c (zc zm (zc zB (zc (zw w (zc zM zh)) zh))))))))) (zC 6) (zo (Ju 7 8 (zw Q (zc zB (zc jA zh))) (qE wD jA)) (zo (qu (yH (qW (zw g (zc (zw a (zc zB (zc jA zh))) (zc j8 zh)))) (zi qJ (qE wD jA) QX)) jE zx) (zo (qu (jz j8 (qW (zw g (zc (zw K (zc zB (zc jA zh))) (zc (zw b (zc zB (zc jA zh))) zh))))) jE zx) (zo (qu (jz (qW j8) (zi qJ (kN 1 yK P (J1 j J).idx (RG (J1 j J) 0)) (zJ (zc WT zh)))) jE zx) (zo (qu (zi qJ (kN 1 yK P (JX j J).idx (RG (JX j J) 0)) (zJ (zc zD zh))) jE zx) zx)))))) (zo (qu (zi qJ (kN 1 yK P (J2 j J).idx (RG (J2 j J) 0)) (zJ (zc zD zh))) jE zx) zx))))))) (zo (qv zS) zx)
def o_law {K:Frag}{k:Nat}(T:Bu mg)(F:kI K "law" "law" QC f fd)(n:nsIn K mainGlobals "law"=some (some (.ref f)))(l:tabIn K "law"=some (c,Pt))(B:BMain mg base)(C:CodeHd base c Pt){S:Fn}(Q0:zU P w K mg base k "_law_bad_table" 1 S){e:Fn}(ZH:zU P w K mg base k "_law_bent" 3 e){U:Fn}(Q7:zU P w K mg base k "_law_drawn" 2 U){Q:Fn}(wq:zU P w K mg base k "_law_is_parting" 2 Q){u:Fn}(yr:zU P w K mg base k "_law_kinds" 1 u){d:Fn}(ZK:zU P w K mg base k "_law_made" 2 d){g:Fn}(wU:zU P w K mg base k "_law_same" 2 g){Y:Fn}(JI:zU P w K mg base k "_law_state" 2 Y){y:Fn}(Q5:zU P w K mg base k "_law_table" 1 y){b:Fn}(Q6:zU P w K mg base k "is_parting" 2 b){i:Fn}(Qk:zU P w K mg base k "made_one" 2 i){RG:Lm->Nat->List W->Hx->R W}(h:kk<=k){J:Fn}(XL_is_parting:∀base,jS P w K mg base j "is_parting" 2 J){M:Fn}(XL_made_one:∀base,jS P w K mg base j "made_one" 2 M)(a:∀t base PG,(∀k,QH P w K mg base (j+1) (PG k) (kZ [t] k))->zU P w K mg base kk "_law_refused" 1 (Z8 PG (RG t))):ym P w K mg base kJ (k+1) f fd ["_law_script"] (Za K 1 (qF 9 (Vc S e U Q u d g Y y b i J M RG Pt))):=
 iw F n l iG λA o s H E r=>(by walk_at "y";exact GW (t:=J1 J M) (XY λ_=>rfl) (Df T XL_is_parting XL_made_one) (by kernel_rfl) (a _) (r.mono h) B rfl C rfl rfl;exact GW (t:=JX J M) (XY λ_=>rfl) (ES T XL_is_parting XL_made_one) (by kernel_rfl) (a _) (r.mono h) B rfl C rfl rfl;exact GW (t:=J2 J M) (XY λ_=>rfl) (De T XL_is_parting XL_made_one) (by kernel_rfl) (a _) (r.mono h) B rfl C rfl rfl)
def GF:Fn:=qF 1 TM
def ZL:Fn :=  GF
def Tv:Fn:=qF 1 Tt
def ZJ:Fn :=  Tv
def EF:Fn:=qF 5 Si
def GJ:Fn:=iso EF
def N5:Fn:=qF 2 Ud
def WY:Fn:=iso N5
def Lf:Fn:=qF 1 UB
def Gf:Fn:=iso Lf
def Tb:Fn:=qF 2 TJ
def Y4:Fn :=  Tb
def M3:Fn:=qF 2 Ga
def YT:Fn :=  M3
def Y0:Fn:=qF 4 Gv
def jL:Fn:=wH Y0
def UR:Fn:=qF 2 UZ
def Qj:Fn :=  UR
def LQ:Fn:=qF 1 U2
def yr:Fn:=iso LQ
def UL:Fn:=qF 1 U0
def JJ:Fn :=  UL
def Gs:Fn:=qF 2 (Gz ZL)
def Ja:Fn :=  Gs
def Uh:Fn:=qF 3 (Ug ZL)
def QZ:Fn :=  Uh
def RX:Fn:=qF 6 (RN Y4)
def KR:Fn :=  RX
def IA:Fn:=qF 3 (Gp YT)
def JI:Fn :=  IA
def Ur:Fn:=qF 4 (Up jL)
def Q3:Fn :=  Ur
def U3:Fn:=qF 11 (Gr jL)
def YV:Fn :=  U3
def TF:Fn:=qF 5 (Ta yr)
def ZK:Fn :=  TF
def Gh:Fn:=qF 3 (Gd JJ)
def Zc:Fn :=  Gh
def Uu:Fn:=qF 2 (Uv jL)
def Q0:Fn :=  Uu
def UK:Fn:=qF 4 (UU yr jL)
def Q7:Fn :=  UK
def Tp:Fn:=qF 9 (Tw jL)
def ZH:Fn :=  Tp
def W4:Fn:=qF 3 (W3 Ja)
def ZF:Fn :=  W4
def W0:Fn:=qF 3 (WZ ZJ QZ)
def gy:Fn :=  W0
def Gj:Fn:=qF 4 (UY Q3 Qj YV)
def Q8:Fn:=wH Gj
def L6:Fn:=qF 2 (ZI (λ_ _=>.bad))
def UO:Fn:=iso L6
def Iw:Fn:=qF 2 (ZI UO)
def UQ:Fn:=iso Iw
def IU:Fn:=qF 2 (ZI UQ)
def wU:Fn:=iso IU
def YO:Fn:=qF 4 (YN yr Zc)
def wq:Fn :=  YO
def Y8:Fn:=qF 2 (Y6 GJ ZF WY)
def gA:Fn :=  Y8
def YM:Fn:=qF 4 (YR Gf ZJ gy)
def ki:Fn :=  YM
def Gq:Fn:=qF 7 (U5 Q8 Qj jL)
def Q5:Fn:=wH Gq
def Q2:Fn:=gR 1 (W6 gA)
def ZG:Fn:=gR 2 (Gm ki Q2)
def Q6:Fn:=(λw A=>(ZG w A).nox)
def Ze:Fn:=gR 2 (Kc ki KR Q2)
def Qk:Fn:=(λw A=>(Ze w A).nox)
structure Tx (K:Frag):Prop where
 Fg:FD K "is_whole" TZ
 IQ:FD K "is_rising" Tu
 F4:FD K "is_even" Sj
 N3:FD K "leaves_no_kind_out" Ue
 Ll:FD K "count_kinds" UI
 IT:FD K "put_names" TC
 M9:FD K "_law_cell_at" Uz
 IK:FD K "_law_take" To
 Iv:FD K "_law_named" U8
 LK:FD K "_law_kinds" US
 Ik:FD K "_law_whole" UW
 IL:FD K "is_wholes" Ts
 Mj:FD K "is_whole_between" Ui
 Af:FD K "merge" PC
 Io:FD K "_law_state" UJ
 MK:FD K "_law_mixed_row" Uw
 L9:FD K "_law_plain" UP
 II:FD K "_law_made" Tj
 LA:FD K "_law_rising" UD
 MC:FD K "_law_bad_table" Us
 Ii:FD K "_law_drawn" UM
 IS:FD K "_law_bent" Ti
 Ms:FD K "is_wholes_below" Um
 Mh:FD K "is_rising_wholes" Uj
 Ic:FD K "_law_known" UX
 Gu:FD K "_law_same" Gy
 Mp:FD K "_law_is_parting" Ul
 Hs:FD K "is_table" TQ
 Mn:FD K "is_parting_list" Uo
 LV:FD K "_law_table" U1
 MR:FD K "require_table" Uy
 LJ:FD K "is_parting" UN
 Hv:FD K "made_one" T3
 M0:FD K "_law_refused" W9
 zc9:FD K "law" QC
 LU:nsIn K mainGlobals "ValueError"=some none
 zcN:nsIn K mainGlobals "abs"=some none
 zdj:nsIn K mainGlobals "all"=some none
 zaB:nsIn K mainGlobals "bool"=some none
 He:nsIn K mainGlobals "enumerate"=some none
 zde:nsIn K mainGlobals "int"=some none
 Ig:nsIn K mainGlobals "isinstance"=some none
 zcP:nsIn K mainGlobals "len"=some none
 zbD:nsIn K mainGlobals "list"=some none
 zcL:nsIn K mainGlobals "max"=some none
 zc2:nsIn K mainGlobals "min"=some none
 C4:nsIn K mainGlobals "range"=some none
 zaL:nsIn K mainGlobals "repr"=some none
 zcz:nsIn K mainGlobals "set"=some none
 Ci:nsIn K mainGlobals "sorted"=some none
 zc1:nsIn K mainGlobals "sum"=some none
 A8:nsIn K mainGlobals "tuple"=some none
 zdL:nsIn K mainGlobals "zip"=some none
 Lq:CD K "MOST_PLACES" 8
 zcY:qK.all (K0 K "NearError" ·)=true
 zc3:X5 K "NearError"=true
 zc7:Ko.all (ZY K qK)=true
section
variable {K:Frag}
def bu (X:K.In h)(G:h.Ns mainGlobals mg)(T:Tx K):Bu mg:=⟨aX X G T.LU,aX X G T.zcN,aX X G T.zdj,aX X G T.zaB,aX X G T.He,aX X G T.zde,aX X G T.Ig,aX X G T.zcP,aX X G T.zbD,aX X G T.zcL,aX X G T.zc2,aX X G T.C4,aX X G T.zaL,aX X G T.zcz,aX X G T.Ci,aX X G T.zc1,aX X G T.A8,aX X G T.zdL,(let ⟨t,e⟩:=T.Lq;⟨t,mg_of X G e⟩)⟩
def cl (T:Tx K):yV K qK "NearError":=fU T.zcY T.zc3
structure Zz (K:Frag)(h:Heap)(mg:b8):Prop where
 X:K.In h
 G:h.Ns mainGlobals mg
 T:Tx K
 B:Bu mg
 C:yV K qK "NearError"
def zz (X:K.In h)(G:h.Ns mainGlobals mg)(T:Tx K):Zz K h mg:=⟨X,G,T,bu X G T,cl T⟩
def gM {t:Stmt}{k:Nat}{m:Ex}(Z:Zz K h mg)(e:FD K x t)(S:qM N ps (qh t))
  (b:∀(kV D p:Value)(n:cf)(C ct:Value)(u:bS),u.length=ps.length->bindArgs (fnOf x x (Zk t) (yJ t) (qh t) .none kV D p n C ct) ⟨u,[]⟩=pure (ps.zip u):=by walk_at "y")
  (d:∀(f:Addr)(C:Value)(A:Around)(g:b9)(s:Shared)(H:Hp)(E:XK),Bu mg->qP k (A.deeper (PyProof.Rows.envOfC x (qh t) s.heap.objs.size f C))->yP (kE kJ P w K mg base N x (qh t) f C A g s H E).nox yi (yJ t) m:=by intros;walk_at "y"):
  zU P w K mg base (k+1) x ps.length (qF N.length m):=by
 obtain⟨f,i,F,a⟩:=e;exact Vz F (mg_of Z.X Z.G a) S b λc A o s H E r=>d f c A o s H E Z.B r
def HU (Z:Zz K h mg):zU P w K mg base 1 "is_whole" 1 ZL:=gM Z Z.T.Fg IX
def IW (Z:Zz K h mg):zU P w K mg base 1 "is_rising" 1 ZJ:=gM Z Z.T.IQ L1
def EL (Z:Zz K h mg):zU P w K mg base 1 "is_even" 1 GJ:=zU.iso (gM Z Z.T.F4 HV)
def N7 (Z:Zz K h mg):zU P w K mg base 1 "leaves_no_kind_out" 1 WY:=zU.iso (gM Z Z.T.N3 N0)
def Lo (Z:Zz K h mg):zU P w K mg base 1 "count_kinds" 1 Gf:=zU.iso (gM Z Z.T.Ll MU)
def IE (Z:Zz K h mg):zU P w K mg base 1 "put_names" 2 Y4:=gM Z Z.T.IT LX
def La (Z:Zz K h mg):zU P w K mg base 1 "_law_cell_at" 2 YT:=gM Z Z.T.M9 MO
def IV (Z:Zz K h mg):zU P w K mg base 1 "_law_take" 2 jL:=zU.wH (gM Z Z.T.IK Ir)
def LR (Z:Zz K h mg):zU P w K mg base 1 "_law_named" 1 Qj:=gM Z Z.T.Iv LB
def U7 (Z:Zz K h mg):zU P w K mg base 1 "_law_kinds" 1 yr:=zU.iso (gM Z Z.T.LK Lc)
def L5 (Z:Zz K h mg):zU P w K mg base 1 "_law_whole" 1 JJ:=gM Z Z.T.Ik Ln
def Hd (Z:Zz K h mg):zU P w K mg base 2 "is_wholes" 2 Ja:=gM Z Z.T.IL Iy
def Me (Z:Zz K h mg):zU P w K mg base 2 "is_whole_between" 3 QZ:=gM Z Z.T.Mj Ma
def iH (Z:Zz K h mg):zU P w K mg base 2 "merge" 2 KR:=gM Z Z.T.Af DK
def Iu (Z:Zz K h mg):zU P w K mg base 2 "_law_state" 2 JI:=gM Z Z.T.Io Lj
def MJ (Z:Zz K h mg):zU P w K mg base 2 "_law_mixed_row" 2 Q3:=gM Z Z.T.MK Mw
def LY (Z:Zz K h mg):zU P w K mg base 2 "_law_plain" 1 YV:=gM Z Z.T.L9 Lr
def Hj (Z:Zz K h mg):zU P w K mg base 2 "_law_made" 2 ZK:=gM Z Z.T.II Iz
def Li (Z:Zz K h mg):zU P w K mg base 2 "_law_rising" 3 Zc:=gM Z Z.T.LA M5
def MD (Z:Zz K h mg):zU P w K mg base 2 "_law_bad_table" 1 Q0:=gM Z Z.T.MC Mt
def Il (Z:Zz K h mg):zU P w K mg base 2 "_law_drawn" 2 Q7:=gM Z Z.T.Ii Lw
def Hc (Z:Zz K h mg):zU P w K mg base 2 "_law_bent" 3 ZH:=gM Z Z.T.IS Ia
def Mz (Z:Zz K h mg):zU P w K mg base 3 "is_wholes_below" 3 ZF:=gM Z Z.T.Ms Mc
def Ml (Z:Zz K h mg):zU P w K mg base 3 "is_rising_wholes" 3 gy:=gM Z Z.T.Mh N9
def Ib (Z:Zz K h mg):zU P w K mg base 3 "_law_known" 1 Q8:=zU.wH (gM Z Z.T.Ic Lh)
def LN (Z:Zz K h mg):zU P w K mg base 1 "_law_same" 2 UO:=by
 obtain⟨f,d,F,a⟩:=Z.T.Gu;exact(Gw (k:=0) Z.B F (mg_of Z.X Z.G a) (f3 (ps:=["_law_found","_law_due"]) F (mg_of Z.X Z.G a) (λ_ _ _ _ _ _=>YF λ_ _=>rfl))).iso
def Im (Z:Zz K h mg):zU P w K mg base 2 "_law_same" 2 UQ:=by
 obtain⟨f,d,F,a⟩:=Z.T.Gu;exact(Gw (k:=1) Z.B F (mg_of Z.X Z.G a) (LN Z)).iso
def IH (Z:Zz K h mg):zU P w K mg base 3 "_law_same" 2 wU:=by
 obtain⟨f,d,F,a⟩:=Z.T.Gu;exact(Gw (k:=2) Z.B F (mg_of Z.X Z.G a) (Im Z)).iso
def Mo (Z:Zz K h mg):zU P w K mg base 3 "_law_is_parting" 2 wq:=gM Z Z.T.Mp Mk
def Hw (Z:Zz K h mg):zU P w K mg base 4 "is_table" 1 gA:=gM Z Z.T.Hs IM
def Mr (Z:Zz K h mg):zU P w K mg base 4 "is_parting_list" 2 ki:=gM Z Z.T.Mn Mf
def Ie (Z:Zz K h mg):zU P w K mg base 4 "_law_table" 1 Q5:=zU.wH (gM Z Z.T.LV Lk)
def MH (Z:Zz K h mg):jS P w K mg base 5 "require_table" 1 Q2:=by
 obtain⟨f,d,F,a⟩:=Z.T.MR
 have:=Z.B
 have:=Z.C
 exact(VN F (mg_of Z.X Z.G a) MB (λ_ _ _ _ _ _=>V6 λ_=>rfl) λc A o s H E r x=>by walk_at "y" : jS P w K mg base 5 "require_table" 1 Q2)
def UH (Z:Zz K h mg):jS P w K mg base 6 "is_parting" 2 ZG:=by
 obtain⟨f,d,F,a⟩:=Z.T.LJ
 have:=Z.B
 exact(VN F (mg_of Z.X Z.G a) Lp (λ_ _ _ _ _ _=>YF λ_ _=>rfl) λc A o s H E r x=>by walk_at "y" : jS P w K mg base 6 "is_parting" 2 ZG)
def L7 (Z:Zz K h mg):zU P w K mg base 6 "is_parting" 2 Q6:=(UH Z).m
def Te (Z:Zz K h mg):jS P w K mg base 6 "made_one" 2 Ze:=by
 obtain⟨f,d,F,a⟩:=Z.T.Hv
 have:=Z.B
 have:=Z.C
 exact(VN F (mg_of Z.X Z.G a) Hi (λ_ _ _ _ _ _=>YF λ_ _=>rfl) λc A o s H E r x=>by walk_at "y" : jS P w K mg base 6 "made_one" 2 Ze)
def HJ (Z:Zz K h mg):zU P w K mg base 6 "made_one" 2 Qk:=(Te Z).m
end
end G
namespace Mi
open PySem L2
noncomputable abbrev iV (n:Int):Option W:=some (.int n)
noncomputable abbrev rO (n:Nat):Option W:=some (.ref n)
section
variable {m:Ev}
def ZS (h:m ρ A=.ok (.tup ws) A1):z9 m ρ A=.ok ⟨λA i=>(zI (.tup ws) A).map λws=>ws[i]?,ws.length⟩ A1:=by
 unfold z9 WA;rw[h,zA]
 rfl
def Qq (h:m ρ A=.ok (.tup ws) A)(H:ws.length<=zR){g:W->W}(c:∀w∈ws,me (some w::cap.map λi=>(ρ[i]?).join) A=.ok (g w) A):
  zN 1 cap (z9 m) (zC 0) zS (zK me) ρ A=.ok (ws.map g) A:=by
 have e:=ZN (cap:=cap) (me:=me) (ρ:=ρ) (A:=A) (N:=ws.length) (item:=λi=>ws.getD i .non) (g:=λi=>g (ws.getD i .non)) (ZS h) rfl H
  (λi b=>by show some ws[i]? =_;rw[aa b,ae,aa b];rfl)
  (by show some ws[ws.length]? =_;rw[aH (ar _)])
  (λi b=>by
   have:ws.getD i .non=ws[i]:=by rw[ae,aa b];rfl
   rw[this];exact c _ (aN b))
 rw[e]
 congr 1
 apply bq
 ·simp
 ·intro i d a
  have b:i<ws.length:=by simpa using a
  simp[ae,aa b]
theorem JN (p:α->Bool):∀l:List α,w5 (l.map λx=>W.bl (p x))=some (l.map p)
 |[]=>rfl|x::l=>by
  show(match Yn (.bl (p x)),w5 (l.map λx=>W.bl (p x)) with|some k,some K=>some (k::K)|_,_=>none)=_
  rw[JN p l];rfl
def Jh {p:α->Bool}{l:List α}(h:∀x∈l,p x=true):wK (l.map λx=>W.bl (p x)) A=.ok (.bl true) A:=by
 show wa (λK=>K.all id) _ A=_;unfold wa;rw[JN];dsimp only
 have:(l.map p).all id=true:=by
  rw[all_map];exact cy.mpr λx H=>h x H
 rw[this]
theorem Xl {f:α->W}(h:∀x,(f x).nr=true):∀l:List α,ju (l.map f)=true
 |[]=>rfl|x::l=>by
  show((f x).nr&&ju (l.map f))=true;rw[h x,Xl h l];rfl
def JF (i j:Int)(A:Hx):qG (.int i) (.int j) A=.ok (.bl (decide (i=j))) A:=by
 show R.ok (W.bl (PyData.eqv (.int i) (.int j))) A=_;simp[PyData.eqv]
 rfl
def NQ (i j:Int)(A:Hx):qJ (.int i) (.int j) A=.ok (.bl (!decide (i=j))) A:=by
 show R.ok (W.bl (!PyData.eqv (.int i) (.int j))) A=_;simp[PyData.eqv]
 rfl
def NP (i j:Bool)(A:Hx):qJ (.bl i) (.bl j) A=.ok (.bl (!(i==j))) A:=by
 cases i<;>cases j<;>rfl
end
noncomputable def qg (r:bR):W:=.tup (r.map W.int)
def zt (t:bQ):W:=.tup (t.map qg)
def RH (r:bR):(qg r).nr=true:=by
 show ju (r.map W.int)=true;exact Xl (λ_=>rfl) r
def KO (t:bQ):(zt t).nr=true:=by
 show ju (t.map qg)=true;exact Xl RH t
def Sz {j:jo}{st:W->Ex}{N:Nat}{item:Nat->W}{I:En->Prop}(t:∀i,i<N->j.at_ A i=some (some (item i)))(H:j.at_ A N=some none)
  (s:∀i,i<N->∀l,I l->∃a,st (item i) l A=.ok (.nx a) A/\I a):∀(n i:Nat)(l:En),i+n=N->I l->∃a,ye j st n i l A=.ok (.nx a) A/\I a:=by
 intro n
 induction n with
 |zero=>
  intro i l h c
  have:i=N:=by omega
  subst this;exact⟨l,GD H,c⟩
 |succ n d=>
  intro i l h c;obtain⟨o,E,g⟩:=s i (by omega) l c
  obtain⟨b,e,f⟩:=d (i+1) o (by omega) g
  exact⟨b,(Kv (t i (by omega)) E).trans e,f⟩
def Sv {m:Ev}(h:m ρ A=.ok (.tup ws) A1):Jq m ρ A=.ok (gW (.tup ws) ws.length) A1:=by
 unfold Jq;rw[h,zA]
 rfl
def OS {w:W}(h:ws[i]? =some w):(gW (.tup ws) ws.length).at_ A i=some (some (.tup [.int i,w])):=by
 show atEnd ws i _=_;unfold atEnd;rw[h]
def Ou:(gW (.tup ws) ws.length).at_ A ws.length=some none:=by
 show atEnd ws _ _=_;unfold atEnd;rw[aH (ar _)];exact ah rfl
noncomputable def at2 (t:bQ)(a b:Nat):Int:=(t.getD a []).getD b 0
structure qm (t:bQ):Prop where
 n1:1<=t.length
 n8:t.length<=8
 sq:∀r∈t,r.length=t.length
 lo:∀r∈t,∀v∈r,0<=v/\v<(t.length:Int)
 dg:∀a b,a<t.length->b<t.length->(at2 t a b=0↔a=b)
 sy:∀a b,a<t.length->b<t.length->at2 t a b=at2 t b a
 fu:∀k:Nat,(∃v∈t.flatten,(k:Int)<v)->(k:Int)∈t.flatten
section
variable {a b:Nat}
def K6 (h:a<t.length):(t.map qg)[a]? =some (qg (t.getD a [])):=by
 rw[ax,ae,aa h];rfl
def km (h:a<t.length):t.getD a []∈t:=by
 rw[ae,aa h];exact aN h
def Of (h:a<t.length):zH (zt t) (.int a) A=.ok (qg (t.getD a [])) A:=by
 unfold zH;show(match kS (t.map qg) (a:Int) with|some w=>R.ok w A|none=>R.bad)=_
 rw[KJ (K6 h)]
def int_at {r:bR}(h:b<r.length):(r.map W.int)[b]? =some (.int (r.getD b 0)):=by
 rw[ax,ae,aa h];rfl
def Od {r:bR}(h:b<r.length):zH (qg r) (.int b) A=.ok (.int (r.getD b 0)) A:=by
 unfold zH;show(match kS (r.map W.int) (b:Int) with|some w=>R.ok w A|none=>R.bad)=_
 rw[KJ (v:=.int (r.getD b 0)) (by rw[ax,ae,aa h];rfl)]
end
section
def E7 {j:jo}{c:Option W}(a:∀i,i<ws.length->j.at_ A i=some (some (ws.getD i .non)))(H:j.at_ A ws.length=some none)(n:∀w,me [c,some w] A=.ok w A):
  ∀(f i:Nat)(x:Option W)(d:List W),i+f=ws.length->d.length+f<=zR->∃y,qZ j (zC 1) (zZ (.bl true)) (zK me) f i [c,x] d A=.ok ([c,y],d++ws.drop i) A:=by
 intro f
 induction f with
 |zero=>
  intro i x d h l
  have:i=ws.length:=by omega
  subst this;refine⟨x,?_⟩;unfold qZ;rw[H,drop_length,bx]
 |succ f I=>
  intro i x d h l;have g:i<ws.length:=by omega
  have E:ws.getD i .non=ws[i]:=by rw[ae,aa g];rfl
  obtain⟨y,e⟩:=I (i+1) (some ws[i]) (d++[ws[i]]) (by omega) (by rw[aj,bA];omega)
  refine⟨y,?_⟩;rw[qZ,a i g,E];dsimp only[zC,List.set,zZ];rw[zA];dsimp only;have b:zK me [c,some ws[i]] d A=.ok ([c,some ws[i]],d++[ws[i]]) A:=by
   unfold zK;rw[n,zA,ah (by omega)]
  rw[b,zA];rw[e,aR]
  congr 3
  rw[List.singleton_append,<- List.drop_eq_getElem_cons g]
def T6 {j:jo}(b:∀i,i<t.length->j.at_ A i=some (some (qg (t.getD i []))))(H:j.at_ A t.length=some none):
  ∀(f i:Nat)(x y:Option W)(n:List W),i+f=t.length->n.length+(t.drop i).flatten.length<=zR->
   ∃ρ,qZ j (zC 0) (zZ (.bl true)) (Z4 (z9 (qf 0)) (zC 1) (zZ (.bl true)) (zK (qf 1))) f i [x,y] n A=.ok (ρ,n++(t.drop i).flatten.map W.int) A:=by
 intro f
 induction f with
 |zero=>
  intro i x y n h l
  have:i=t.length:=by omega
  subst this;refine⟨[x,y],?_⟩;unfold qZ;rw[H,drop_length];simp
 |succ f I=>
  intro i x y n h l;have o:i<t.length:=by omega
  have r:t.getD i []=t[i]:=by rw[ae,aa o];rfl
  have e:t.drop i=t[i]::t.drop (i+1):=List.drop_eq_getElem_cons o;rw[e,aO,aj]at l;obtain⟨z,E⟩:=E7 (A:=A) (j:=⟨λA i_1=>(zI (qg t[i]) A).map λs=>s[i_1]?,(t[i].map W.int).length⟩) (me:=qf 1) (ws:=t[i].map W.int) (c:=some (qg t[i]))
   (λk a=>by
    show some (t[i].map W.int)[k]? =_;rw[ae,aa a];rfl)
   (by show some (t[i].map W.int)[(t[i].map W.int).length]? =_;rw[aH (ar _)])
   (λw=>zj rfl) (t[i].map W.int).length 0 y n (by omega) (by rw[ag];omega)
  rw[drop_zero]at E;obtain⟨ρ,g⟩:=I (i+1) (some (qg t[i])) z (n++t[i].map W.int) (by omega) (by rw[aj,ag];omega)
  refine⟨ρ,?_⟩;rw[qZ,b i o,r];dsimp only[zC,List.set,zZ];rw[zA];dsimp only;have d:Z4 (z9 (qf 0)) (zC 1) (zZ (.bl true)) (zK (qf 1)) [some (qg t[i]),y] n A=.ok ([some (qg t[i]),z],n++t[i].map W.int) A:=by
   unfold Z4;rw[ZS (ws:=t[i].map W.int) (A1:=A) (zj (i:=0) rfl),zA];exact E
  rw[d,zA];rw[g,e,aO,aW,aR]
def AQ {m:Ev}(h:m ρ A=.ok (zt t) A)(H:t.flatten.length<=zR):
  zN 2 [] (z9 m) (zC 0) zS (Z4 (z9 zl) (zC 1) zS (zK zm)) ρ A=.ok (t.flatten.map W.int) A:=by
 have n:(t.map qg).length=t.length:=ag ..;obtain⟨a,e⟩:=T6 (t:=t) (A:=A) (j:=⟨λA i=>(zI (zt t) A).map λw=>w[i]?,(t.map qg).length⟩) (λi b=>by show some (t.map qg)[i]? =_;rw[K6 b])
  (by show some (t.map qg)[t.length]? =_;rw[aH (by omega)]) t.length 0 none none [] (by omega) (by simpa using H)
 unfold zN;rw[ZS (ws:=t.map qg) h,zA];show R.bind (R.nox (qZ ⟨λA i=>(zI (zt t) A).map λw=>w[i]?,(t.map qg).length⟩ _ _ _ (t.map qg).length 0 [none,none] [] A)) _=_;rw[n]at e ⊢;rw[e];simp
 rfl
end
theorem wx:∀l:bR,intsOf (l.map W.int)=some l
 |[]=>rfl|i::l=>by
  show(match intsOf (l.map W.int) with|some I=>some (i::I)|none=>none)=_
  rw[wx l]
theorem GS:∀(l:bR)(m:Int),jV l m=m∨jV l m∈l
 |[],_=>.inl rfl|i::l,m=>by
  show jV l (if i > m then i else m)=m∨jV l (if i > m then i else m)∈i::l;rcases GS l (if i > m then i else m) with e|e
  ·by_cases h:i > m
   ·rw[ah h]at e ⊢;exact .inr (by rw[e];exact aq ..)
   ·rw[ai h]at e ⊢;exact .inl e
  ·exact .inr (ak _ e)
end Mi
namespace G
open PySem L2 Mi
def Cb (h:qm t):t.flatten.length<=64:=by
 have:∀l:bQ,(∀r∈l,r.length<=8)->l.flatten.length<=8 * l.length:=by
  intro l
  induction l with
  |nil=>intro _;simp|cons r l i=>
   intro H;have e:=H r (aq ..);have d:=i λb a=>H b (ak _ a);rw[aO,aj,aL];omega
 have c:=h.n8
 have:=this t λr H=>by rw[h.sq r H];exact h.n8
 omega
section
def Qn (h:n<1000000):jt (n:Int)=true:=by
 unfold jt;simp;omega
end
def ZT {m:Ev}(h:m ρ A=.ok (.ref n) A1)(H:A1[n]? =some (.lst ws)):z9 m ρ A=.ok ⟨λA i=>(zI (.ref n) A).map λws=>ws[i]?,ws.length⟩ A1:=by
 unfold z9 WA;rw[h,zA];have e:zI (.ref n) A1=some ws:=by unfold zI;dsimp only;rw[H]
 rw[e]
def gG (h:A[n]? =some (.lst ws)):((zI (.ref n) A).map λws=>ws[i]?)=some ws[i]?:=by
 have e:zI (.ref n) A=some ws:=by unfold zI;dsimp only;rw[h]
 rw[e];rfl
def ka:List Int->Int
 |[]=>0|i::is=>jV is i
def RS {r:bR}(h:r≠[]):j4 (r.map W.int) A=.ok (.int (ka r)) A:=by
 unfold j4;rw[wx];cases r with
 |nil=>exact absurd rfl h|cons i I=>rfl
def Kw {r:bR}(h:r≠[]):ka r∈r:=by
 cases r with
 |nil=>exact absurd rfl h|cons i I=>
  rcases GS I i with e|e
  ·show jV I i∈_;rw[e];exact aq ..
  ·exact ak _ e
def qx (t:bQ):Int:=ka (t.map ka)+1
section
def _root_.Mi.qm.row_ne (h:qm t){r:bR}(H:r∈t):r≠[]:=λe=>by
 have b:=h.sq r H;have a:=h.n1;rw[e,bg]at b;omega
def _root_.Mi.qm.map_ne (h:qm t):t.map ka≠[]:=λe=>by
 have:=h.n1
 rw[List.map_eq_nil_iff]at e;rw[e]at this;simp at this
def wF (h:qm t):1<=qx t/\qx t<=8:=by
 obtain⟨r,H,e⟩:=cq.mp (Kw h.map_ne)
 have:=h.lo r H _ (Kw (h.row_ne H))
 have:=h.n8
 unfold qx;rw[<- e];omega
def Ve (h:qm t){a b:Nat}(H:a<t.length)(d:b<t.length):0<=at2 t a b/\at2 t a b<8:=by
 have c:=h.sq _ (km H)
 have:(t.getD a []).getD b 0∈t.getD a []:=by
  rw[ae (l:=t.getD a []),aa (by omega)];exact aN _
 have e:=h.lo _ (km H) _ this
 have:=h.n8
 unfold at2;omega
def Jk (h:q ρ A=.ok ws A1):mQ yg q ρ A=.ok (.tup ws) A1:=(jF h).trans rfl
end
end G
namespace Mi
open PySem L2
def yY {w:W}{s:Nat}(h:A[n]? =some (.lst ws))(H:ws[s]? =some w):zH (.ref n) (.int s) A=.ok w A:=by
 unfold zH;have e:zI (.ref n) A=some ws:=by unfold zI;dsimp only;rw[h]
 rw[e];dsimp only;rw[KJ H]
def qR {u:O}(h:A[n]? =some o):(A++[u])[n]? =some o:=by
 have:=(cu.mp h).1
 rw[au this];exact h
def qc {u:O}:(A++[u])[A.length]? =some u:=by simp
theorem J6:∀(n:Nat)(K:bR),K.Nodup->(∀r∈K,0<=r/\r<(n:Int))->K.length<=n
 |0,K,_,h=>by
  cases K with
  |nil=>exact ar _|cons r l=>have:=h r (aq ..);omega
 |n+1,K,nd,h=>by
  by_cases c:(n:Int)∈K
  ·have d:=J6 n (K.erase (n:Int)) (nd.erase _) λr H=>by
    have b:=h r (List.mem_of_mem_erase H);have a:r≠(n:Int):=λz=>(List.Nodup.mem_erase_iff nd).mp H |>.1 z;omega
   rw[List.length_erase_of_mem c]at d;omega
  ·have:=J6 n K nd λr H=>by
    have b:=h r H;have a:r≠(n:Int):=λz=>c (z ▸ H);omega
   omega
noncomputable def gX (c:Nat->Nat->Int)(a b:Nat)(k:Int):Nat->Nat->Int:=λi j=>if i=a/\j=b then k else c i j
structure Mu (n:Nat)(μ:Nat->Nat->Int)(c:Nat)(done:Nat->Nat->Prop):Prop where
 dg:∀i,μ i i=0
 sy:∀i j,μ i j=μ j i
 dn:∀i j,i<j->j<n->done i j->1<=μ i j/\μ i j<=(c:Int)
 un:∀i j,i<j->j<n->¬done i j->μ i j=0
 fu:∀k:Nat,1<=k->k<=c->∃i j,i<n/\j<n/\μ i j=(k:Int)
noncomputable def yy (n:Nat)(a:Nat->Nat->Int):bQ:=(List.range n).map λi=>(List.range n).map (a i)
def ZR (H:i<n)(h:j<n):at2 (yy n μ) i j=μ i j:=by
 unfold at2 yy;rw[ae (l:=(List.range n).map λi=>(List.range n).map (μ i)),ax,a9 H];show((List.range n).map (μ i)).getD j 0=_;rw[ae,ax,a9 h]
 rfl
def Mu.tab {c:Nat}{d:Nat->Nat->Prop}(h:Mu n μ c d)(all:∀i j,i<j->j<n->d i j)(B:1<=n)(A:n<=8)(y:n=1∨c<n):qm (yy n μ):=by
 have len:(yy n μ).length=n:=by unfold yy;simp
 have val:∀i j,i<n->j<n->i≠j->1<=μ i j/\μ i j<=(c:Int):=λi j z H N=>by
  rcases Nat.lt_or_gt_of_ne N with q|q
  ·exact h.dn i j q H (all i j q H)
  ·rw[h.sy];exact h.dn j i q z (all j i q z)
 have mem:∀r∈yy n μ,∀v∈r,∃i j,i<n/\j<n/\v=μ i j:=λr f v o=>by
  unfold yy at f;obtain⟨i,z,rfl⟩:=cq.mp f;obtain⟨j,H,rfl⟩:=cq.mp o;exact⟨i,j,cw.mp z,cw.mp H,rfl⟩
 have I:∀i j,i<n->j<n->μ i j∈(yy n μ).flatten:=λi j z H=>List.mem_flatten.mpr ⟨_,cq.mpr ⟨i,cw.mpr z,rfl⟩,cq.mpr ⟨j,cw.mpr H,rfl⟩⟩;refine⟨by rw[len];exact B,by rw[len];exact A,λr f=>?_,λr f v o=>?_,λa b l g=>?_,λa b l g=>?_,λk x=>?_⟩
 ·rw[len]
  unfold yy at f;obtain⟨i,z,rfl⟩:=cq.mp f;simp
 ·rw[len]
  obtain⟨i,j,z,H,rfl⟩:=mem r f v o
  by_cases q:i=j
  ·subst q;rw[h.dg];omega
  ·have:=val i j z H q
   omega
 ·rw[len]at l g
  rw[ZR l g]
  constructor
  ·intro e
   by_cases q:a=b
   ·exact q
   ·have:=val a b l g q;omega
  ·intro e;subst e;exact h.dg a
 ·rw[len]at l g
  rw[ZR l g,ZR g l];exact h.sy a b
 ·obtain⟨v,o,t⟩:=x
  obtain⟨r,f,p⟩:=List.mem_flatten.mp o;obtain⟨i,j,z,H,rfl⟩:=mem r f v p
  by_cases K:k=0
  ·subst K
   have:=I 0 0 (by omega) (by omega)
   rw[h.dg]at this;exact this
  ·by_cases q:i=j
   ·subst q;rw[h.dg]at t;omega
   ·have:=val i j z H q
    obtain⟨w,J,u,s,e⟩:=h.fu k (by omega) (by omega)
    have:=I w J u s
    rw[e]at this;exact this
end Mi
namespace G
open PySem L2 Mi
def J4 {i j:Int}(H:-(2 ^ 64)<i)(h:i<2 ^ 64):ja (.int i) (.int j) A=.ok (.int (i * j)) A:=by
 unfold ja;dsimp only;rw[ah];unfold Yv;rw[bO,av,ao,ao];exact .inl ⟨H,h⟩
def Qx {i j:Int}(h:0<j):kr (.int i) (.int j) A=.ok (.int (i%j)) A:=by
 unfold kr ZC;dsimp only;rw[ah];unfold Wu;exact aE h
def PV {i j:Int}(h:0<j)(H:j<1152921504606846976):gK (.int i) (.int j) A=.ok (.int (i/j)) A:=by
 unfold gK ZC;dsimp only;rw[ah];unfold Wf;rw[av,ao,ao];exact⟨h,H⟩
def iI {c m:Int}(H:0<m)(h:m<1000000000000000):Y0 [.ref 0,.int m] [.lst [.int c,.bl true]]=.ok (.int (c%m)) [.lst [.int (c/m),.bl true]]:=by
 refine qy ?_;unfold Gv;refine qd (A1:=[.lst [.int (c/m),.bl true]]) ?_;refine(yx (A1:=[.lst [.int c,.bl true]]) rfl).trans ?_;refine(zE (ρ1:=[rO 0,iV m,iV (c%m),none]) (A1:=[.lst [.int c,.bl true]]) ?_).trans ?_
 ·refine(qC (w:=.int (c%m)) (A1:=[.lst [.int c,.bl true]]) ?_).trans rfl
  exact(zG (x:=.int c) (y:=.int m) (A1:=[.lst [.int c,.bl true]]) (A2:=[.lst [.int c,.bl true]]) rfl rfl).trans (Qx H)
 ·refine(zE (ρ1:=[rO 0,iV m,iV (c%m),none]) (A1:=[.lst [.int (c/m),.bl true]]) ?_).trans rfl
  have e:zi gK (zi zH zl zD) zm [rO 0,iV m,iV (c%m),none] [.lst [.int c,.bl true]]=.ok (.int (c/m)) [.lst [.int c,.bl true]]:=
   (zG (x:=.int c) (y:=.int m) (A1:=[.lst [.int c,.bl true]]) (A2:=[.lst [.int c,.bl true]]) rfl rfl).trans (PV H (by omega))
  unfold yd;rw[e,zA]
  rfl
noncomputable def Qd (c:Int):Int:=(c * 48271+29)%2147483647
noncomputable def wN (d:Int):Int:=(d * d+39373 * d+7)%2147483629
noncomputable def gn (e:Int):Int:=(e * e+16807 * e)%2147483587
def Vb (c:Int):0<=Qd c/\Qd c<2147483647:=⟨emod_nonneg _ (by decide),bN _ (by decide)⟩
def iJ (c:Int):0<=wN c/\wN c<2147483629:=⟨emod_nonneg _ (by decide),bN _ (by decide)⟩
def iK {c m:Int}(H:0<=c)(h:c<2147483647)(n:0<m)(i:m<1000000000000000):Y0 [.ref 0,.int m] [.lst [.int c,.bl false]]=.ok (.int (gn (wN (Qd c))/8%m)) [.lst [.int (Qd c),.bl false]]:=by
 have j:=Vb c;refine qy ?_;unfold Gv;refine(zE (ρ1:=[rO 0,iV m,none,none]) (A1:=[.lst [.int c,.bl false]]) ((jC (A1:=[.lst [.int c,.bl false]]) rfl).trans rfl)).trans ?_;have g:zi kr (zi zL (zi ja (zi zH zl zD) (zZ (.int 48271))) (zZ (.int 29))) (zZ (.int 2147483647)) [rO 0,iV m,none,none] [.lst [.int c,.bl false]]=.ok (.int (Qd c)) [.lst [.int c,.bl false]]:=by
  have l:zi ja (zi zH zl zD) (zZ (.int 48271)) [rO 0,iV m,none,none] [.lst [.int c,.bl false]]=.ok (.int (c * 48271)) [.lst [.int c,.bl false]]:=
   (zG (x:=.int c) (y:=.int 48271) (A1:=[.lst [.int c,.bl false]]) (A2:=[.lst [.int c,.bl false]]) rfl rfl).trans (J4 (by omega) (by omega))
  refine(zG (x:=.int (c * 48271+29)) (y:=.int 2147483647) (A1:=[.lst [.int c,.bl false]]) (A2:=[.lst [.int c,.bl false]]) ((zG l rfl).trans rfl) rfl).trans ?_;exact Qx (by decide)
 refine(zE (ρ1:=[rO 0,iV m,none,none]) (A1:=[.lst [.int (Qd c),.bl false]]) ?_).trans ?_
 ·unfold yd
  rw[g,zA]
  rfl
 generalize Qd c=d at*;have b:zi kr (zi zL (zi zL (zi ja (zi zH zl zD) (zi zH zl zD)) (zi ja (zZ (.int 39373)) (zi zH zl zD))) WG) (zZ (.int 2147483629)) [rO 0,iV m,none,none] [.lst [.int d,.bl false]]=
   .ok (.int (wN d)) [.lst [.int d,.bl false]]:=by
  have l:zi ja (zi zH zl zD) (zi zH zl zD) [rO 0,iV m,none,none] [.lst [.int d,.bl false]]=.ok (.int (d * d)) [.lst [.int d,.bl false]]:=
   (zG (x:=.int d) (y:=.int d) (A1:=[.lst [.int d,.bl false]]) (A2:=[.lst [.int d,.bl false]]) rfl rfl).trans (J4 (by omega) (by omega))
  have E:zi ja (zZ (.int 39373)) (zi zH zl zD) [rO 0,iV m,none,none] [.lst [.int d,.bl false]]=.ok (.int (39373 * d)) [.lst [.int d,.bl false]]:=
   (zG (x:=.int 39373) (y:=.int d) (A1:=[.lst [.int d,.bl false]]) (A2:=[.lst [.int d,.bl false]]) rfl rfl).trans (J4 (by decide) (by decide))
  have s:zi zL (zi ja (zi zH zl zD) (zi zH zl zD)) (zi ja (zZ (.int 39373)) (zi zH zl zD)) [rO 0,iV m,none,none] [.lst [.int d,.bl false]]=.ok (.int (d * d+39373 * d)) [.lst [.int d,.bl false]]:=
   (zG l E).trans rfl
  refine(zG (x:=.int (d * d+39373 * d+7)) (y:=.int 2147483629) (A1:=[.lst [.int d,.bl false]]) (A2:=[.lst [.int d,.bl false]]) ((zG s rfl).trans rfl) rfl).trans ?_;exact Qx (by decide)
 refine(zE (qC b)).trans ?_;have B:=iJ d;generalize wN d=e at*;have a:zi kr (zi zL (zi ja zB zB) (zi ja (zZ (.int 16807)) zB)) (zZ (.int 2147483587)) [rO 0,iV m,none,iV e] [.lst [.int d,.bl false]]=.ok (.int (gn e)) [.lst [.int d,.bl false]]:=by
  have l:zi ja zB zB [rO 0,iV m,none,iV e] [.lst [.int d,.bl false]]=.ok (.int (e * e)) [.lst [.int d,.bl false]]:=
   (zG (x:=.int e) (y:=.int e) (A1:=[.lst [.int d,.bl false]]) (A2:=[.lst [.int d,.bl false]]) rfl rfl).trans (J4 (by omega) (by omega))
  have E:zi ja (zZ (.int 16807)) zB [rO 0,iV m,none,iV e] [.lst [.int d,.bl false]]=.ok (.int (16807 * e)) [.lst [.int d,.bl false]]:=
   (zG (x:=.int 16807) (y:=.int e) (A1:=[.lst [.int d,.bl false]]) (A2:=[.lst [.int d,.bl false]]) rfl rfl).trans (J4 (by decide) (by decide))
  refine(zG (x:=.int (e * e+16807 * e)) (y:=.int 2147483587) (A1:=[.lst [.int d,.bl false]]) (A2:=[.lst [.int d,.bl false]]) ((zG l E).trans rfl) rfl).trans ?_;exact Qx (by decide)
 refine(zE (qC a)).trans ?_;generalize gn e=f at*;refine qd (qA ?_);refine(zG (x:=.int (f/8)) (y:=.int m) (A1:=[.lst [.int d,.bl false]]) (A2:=[.lst [.int d,.bl false]]) ?_ rfl).trans (Qx n);exact(zG (x:=.int f) (y:=.int 8) (A1:=[.lst [.int d,.bl false]]) (A2:=[.lst [.int d,.bl false]]) rfl rfl).trans (PV (by decide) (by decide))
def qH (n:Nat)(A:Hx):Prop:=∃c b,A[n]? =some (.lst [.int c,.bl b])/\0<=c/\(b=false->c<2147483647)
def PQ (h:qH n A){m:Int}(i:0<m)(f:m<1000000000000000):∃r o,jL [.ref n,.int m] A=.ok (.int r) (A.set n o)/\0<=r/\r<m/\qH n (A.set n o):=by
 obtain⟨c,b,d,a,g⟩:=h;have j:n<A.length:=(cu.mp d).1;have fin:∀(r C:Int),Y0 [.ref 0,.int m] [.lst [.int c,.bl b]]=.ok (.int r) [.lst [.int C,.bl b]]->jL [.ref n,.int m] A=.ok (.int r) (A.set n (.lst [.int C,.bl b])):=λr C e=>by
  unfold jL wH;dsimp only;rw[d];dsimp only;have H:(ju [W.int c,W.bl b]&&ju [W.int m])=true:=rfl;rw[ah H,e]
  rfl
 cases b with
 |true=>
  refine⟨c%m,_,fin _ _ (iI i f),emod_nonneg _ (by omega),bN _ i,c/m,true,aC j,Int.ediv_nonneg a (by omega),λz=>nomatch z⟩
 |false=>
  exact⟨_,_,fin _ _ (iK a (g rfl) i f),emod_nonneg _ (by omega),bN _ i,Qd c,false,aC j,(Vb c).1,λ_=>(Vb c).2⟩
end G
namespace Mi
open PySem L2
def gB {k:Nat}{xs ys:List W}(h:A[n]? =some (.lst xs))(a:A[k]? =some (.lst ys))(H:xs.length+ys.length<=zR):zL (.ref n) (.ref k) A=.ok (.ref A.length) (A++[.lst (xs++ys)]):=by
 unfold zL;dsimp only;rw[h,a];dsimp only;rw[ah H]
def Ext (A a:Hx):Prop:=∃l,a=A++l
def Ext.refl:Ext A A:=⟨[],by simp⟩
def Ext.trans {C:Hx}(a:Ext A B)(b:Ext B C):Ext A C:=let ⟨l,e⟩:=a;let ⟨k,f⟩:=b;⟨l++k,by rw[f,e,aR]⟩
def Ext.one:Ext A (A++[o]):=⟨[o],rfl⟩
def Ext.at {a:Hx}(x:Ext A a)(h:A[n]? =some o):a[n]? =some o:=by
 obtain⟨l,rfl⟩:=x
 have:=(cu.mp h).1
 rw[au this];exact h
def EX {j:jo}{u:Ev}{v:Em}{N:Nat}
  (H:∀i t s A,i<N->I i t s A->∃w ρ1,j.at_ A i=some (some w)/\tw w t=some ρ1/\((∃A1 c a A2,u ρ1 A=.ok (.bl true) A1/\v ρ1 s A1=.ok (c,a) A2/\I (i+1) c a A2)∨(∃A1,u ρ1 A=.ok (.bl false) A1/\I (i+1) ρ1 s A1)))
  (e:∀t s A,I N t s A->j.at_ A N=some none):
  ∀(f i:Nat)(t:En)(s:List W)(A:Hx),i+f=N->I i t s A->∃d b o,qZ j tw u v f i t s A=.ok (d,b) o/\I N d b o:=by
 intro f
 induction f with
 |zero=>
  intro i t s A h g
  have:i=N:=by omega
  subst this;refine⟨t,s,A,?_,g⟩;unfold qZ;rw[e _ _ _ g]
 |succ f n=>
  intro i t s A h g;obtain⟨w,ρ1,x,q,p⟩:=H i t s A (by omega) g
  rw[qZ,x];dsimp only;rw[q];dsimp only;rcases p with ⟨A1,c,a,A2,l,r,E⟩|⟨A1,l,E⟩
  ·rw[l,zA]
   dsimp only;rw[r,zA];exact n (i+1) _ _ _ (by omega) E
  ·rw[l,zA]
   dsimp only;exact n (i+1) _ _ _ (by omega) E
def Jb {nl:Nat}{j:jo}{ifs:Ev}{em:Em}{N:Nat}(n:mi ρ A=.ok j A1)(g:j.len=N)
  (h:∀i ρ acc A,i<N->I i ρ acc A->∃w ρ1,j.at_ A i=some (some w)/\tw w ρ=some ρ1/\((∃A1 d b A2,ifs ρ1 A=.ok (.bl true) A1/\em ρ1 acc A1=.ok (d,b) A2/\I (i+1) d b A2)∨(∃A1,ifs ρ1 A=.ok (.bl false) A1/\I (i+1) ρ1 acc A1)))
  (H:∀ρ acc A,I N ρ acc A->j.at_ A N=some none)(o:I 0 (QI nl cap ρ) [] A1):∃c a f,zN nl cap mi tw ifs em ρ A=.ok a f/\I N c a f:=by
 obtain⟨c,a,f,e,l⟩:=EX h H N 0 _ _ _ (by omega) o
 refine⟨c,a,f,?_,l⟩;unfold zN;rw[n,zA,g,e]
 rfl
def Zf {j:jo}{st:W->Ex}{N:Nat}{I:Nat->En->Hx->Prop}
  (H:∀i n A,i<N->I i n A->∃w ρ1 A1,j.at_ A i=some (some w)/\st w n A=.ok (.nx ρ1) A1/\I (i+1) ρ1 A1)(d:∀n A,I N n A->j.at_ A N=some none):
  ∀(f i:Nat)(n:En)(A:Hx),i+f=N->I i n A->∃a c,ye j st f i n A=.ok (.nx a) c/\I N a c:=by
 intro f
 induction f with
 |zero=>
  intro i n A h b
  have:i=N:=by omega
  subst this;exact⟨n,A,GD (d _ _ b),b⟩
 |succ f e=>
  intro i n A h b;obtain⟨w,ρ1,A1,o,l,g⟩:=H i n A (by omega) b
  rw[Kv o l];exact e (i+1) _ _ (by omega) g
def Qs {a:List W}{y:W}(h:me ρ A=.ok y A1)(H:a.length<zR):zK me ρ a A=.ok (ρ,a++[y]) A1:=by
 unfold zK;rw[h,zA,ah H]
theorem take_succ {l:List α}(h:i<l.length):l.take (i+1)=l.take i++[l[i]]:=by
 rw[List.take_succ,aa h];rfl
def Ext.app {l:Hx}(x:Ext A B):Ext A (B++l):=x.trans ⟨l,rfl⟩
def Ext.len (x:Ext A B):A.length<=B.length:=by obtain⟨l,rfl⟩:=x;simp
def kU (h:A[n]? =some o):n<A.length:=(cu.mp h).1
end Mi
namespace G
open PySem L2 Mi
def K1 {w:W}(H:A[n]? =some (.lst ws))(h:ws[i]? =some w):((zI (.ref n) A).map λws=>ws[i]?)=some (some w):=by
 rw[gG H,h]
def K9 (H:A[n]? =some (.lst ws))(h:ws.length<=i):((zI (.ref n) A).map λws=>ws[i]?)=some none:=by
 rw[gG H,aH h]
theorem KL:∀(l:bR)(m:Int),m<=jV l m/\∀x∈l,x<=jV l m
 |[],m=>⟨Int.le_refl _,λx h=>by cases h⟩|y::l,m=>by
  unfold jV
  split
  ·rename_i b
   obtain⟨c,a⟩:=KL l y;refine⟨by omega,λx H=>?_⟩
   rcases cn.mp H with rfl|H
   ·exact c
   ·exact a x H
  ·rename_i b
   obtain⟨c,a⟩:=KL l m;refine⟨c,λx H=>?_⟩;rcases cn.mp H with rfl|H
   ·omega
   ·exact a x H
theorem TX:∀{l:List α}{k:Nat}{w:α},l[k]? =some w->l.Perm (w::l.eraseIdx k)
 |[],_,_,h=>by simp at h|x::l,0,w,h=>by
  simp at h;subst h;simp
 |x::l,k+1,w,h=>by
  rw[List.getElem?_cons_succ]at h;rw[List.eraseIdx_cons_succ];exact((TX h).cons x).trans (List.Perm.swap w x _)
def HA {k:Nat}{i:Int}{w:W}(h:A[n]? =some (.lst ws))(a:ws[k]? =some w)(H:jt i=true)(e:seqIndex? i ws.length=some k):gF (.ref n) (.int i) A=.ok w (A.set n (.lst (ws.eraseIdx k))):=by
 unfold gF;dsimp only;rw[h];dsimp only;rw[ah H,e];dsimp only;rw[a]
def iM {k:Nat}(h:k<n):seqIndex? (k:Int) n=some k:=by
 have:=PySem.StrLaws.seqIndex_nonneg (i:=(k:Int)) (n:=n) (by omega) (by omega)
 rw[aP]at this;exact this
def Eh {k:Nat}{w:W}(h:A[n]? =some (.lst ws))(a:ws[k]? =some w)(H:k<1000000):gF (.ref n) (.int k) A=.ok w (A.set n (.lst (ws.eraseIdx k))):=
 HA h a (G.Qn H) (iM (cu.mp a).1)
theorem Sl {b:Type}(f:α->b):∀(l:List α)(k:Nat),(l.map f).eraseIdx k=(l.eraseIdx k).map f
 |[],_=>rfl|_::_,0=>rfl|a::l,k+1=>by
  rw[aK,List.eraseIdx_cons_succ,List.eraseIdx_cons_succ,aK,Sl f l k]
def G0 {a b:Ev}{y:W}(c:a ρ A=.ok (.ref n) A)(d:A[n]? =some (.lst ws))(H:b ρ A=.ok y A1):yk g a b ρ A=g (.ref n) y A1:=by
 unfold yk;have h:Qg (.ref n) A=true:=by unfold Qg;dsimp only;rw[d]
 rw[c,zA,ah h,H,zA]
def GC {y:W}(h:A[n]? =some (.lst ws))(H:ws.length<1000):yS (.ref n) y A=.ok .non (A.set n (.lst (ws++[y]))):=by
 unfold yS;dsimp only;rw[h];dsimp only;rw[ah (by unfold zR;omega)]
def Pa {f:Fn}{u:List W}{c C:Int}{b B:Bool}{w:W}(a:A[n]? =some (.lst [.int c,.bl b]))(H:ju u=true)(h:f (.ref 0::u) [.lst [.int c,.bl b]]=.ok w A1)(i:A1[0]? =some (.lst [.int C,.bl B]))(g:w.nr=true):wH f (.ref n::u) A=.ok w (A.set n (.lst [.int C,.bl B])):=by
 unfold wH;dsimp only;rw[a];dsimp only;have e:(ju [W.int c,W.bl b]&&ju u)=true:=by rw[H];rfl
 rw[ah e,h];dsimp only;rw[List.head?_eq_getElem?,i];dsimp only;have d:(ju [W.int C,W.bl B]&&w.nr)=true:=by rw[g];rfl
 rw[ah d]
noncomputable abbrev iL (l:bV):List W:=l.map λ(a:Nat)=>W.int a
def Eo {m:Ev}(h:m ρ A=.ok (.int n) A1)(H:n<=100):JZ m ρ A=.ok (.ref A1.length) (A1++[.lst (iL (List.range n))]):=by
 unfold JZ;rw[h,zA];dsimp only;rw[Qn (by omega),aP,aE (by unfold zR;omega)]
 rfl
def EU {m:Ev}{o:List α}{f:α->W}{G:α->W}(h:m ρ A=.ok (.tup (o.map f)) A)(H:o.length<=zR)(l:∀a∈o,me (some (f a)::cap.map λi=>(ρ[i]?).join) A=.ok (G a) A):
  zN 1 cap (z9 m) (zC 0) zS (zK me) ρ A=.ok (o.map G) A:=by
 by_cases j:o=[]
 ·subst j
  have e:=ZN (cap:=cap) (me:=me) (ρ:=ρ) (A:=A) (N:=0) (item:=λ_=>.non) (g:=λ_=>.non) (ZS h) rfl (by unfold zR;omega) (λi d=>by omega) rfl (λi d=>by omega)
  exact e
 ·obtain⟨x,c⟩:∃x,x∈o:=List.exists_mem_of_ne_nil o j
  have e:=ZN (cap:=cap) (me:=me) (ρ:=ρ) (A:=A) (N:=o.length) (item:=λi=>f (o.getD i x)) (g:=λi=>G (o.getD i x)) (ZS h) (ag ..) H
   (λi d=>by show some (o.map f)[i]? =_;rw[ax,aa d,ae,aa d];rfl)
   (by show some (o.map f)[o.length]? =_;rw[aH (by rw[ag];exact ar _)])
   (λi d=>by
    have:o.getD i x=o[i]:=by rw[ae,aa d];rfl
    rw[this];exact l _ (aN d))
  rw[e]
  congr 1
  apply bq
  ·simp
  ·intro i n b
   have d:i<o.length:=by simpa using b
   simp[ae,aa d]
def JG {a:Type}(o:List α)(x:α)(f:α->a):o.map f=(List.range o.length).map λi=>f (o.getD i x):=by
 apply bq
 ·simp
 ·intro i b h
  have H:i<o.length:=by simpa using b
  simp[ae,aa H]
def ZQ (q:∀r∈t,r.length=t.length){v:Int}(h:v∈t.flatten):∃a b,a<t.length/\b<t.length/\at2 t a b=v:=by
 obtain⟨r,H,e⟩:=List.mem_flatten.mp h;obtain⟨a,d,g⟩:=bw H;obtain⟨b,c,f⟩:=bw e;refine⟨a,b,d,by rw[<- q r H];exact c,?_⟩
 unfold at2;have E:t.getD a []=r:=by rw[ae,aa d];exact g
 rw[E,ae,aa c];exact f
def JY (q:∀r∈t,r.length=t.length){a b:Nat}(d:a<t.length)(c:b<t.length):∃r∈t,at2 t a b∈r/\at2 t a b∈t.flatten:=by
 have e:t.getD a []∈t:=km d;have H:at2 t a b∈t.getD a []:=by
  unfold at2;have h:b<(t.getD a []).length:=by rw[q _ e];exact c
  rw[ae (l:=t.getD a []),aa h];exact aN _
 exact⟨_,e,H,List.mem_flatten.mpr ⟨_,e,H⟩⟩
def KG {r:bR}{x:Int}(h:x∈r):x<=ka r:=by
 cases r with
 |nil=>cases h|cons i I=>
  show x<=jV I i;rcases cn.mp h with rfl|h
  ·exact(KL I x).1
  ·exact(KL I i).2 x h
section
def KW (h:qm t){a b:Nat}(d:a<t.length)(c:b<t.length):at2 t a b<qx t:=by
 obtain⟨r,H,f,_⟩:=JY h.sq d c;have E:=KG f;have e:=KG (cq.mpr ⟨r,H,rfl⟩:ka r∈t.map ka);unfold qx;omega
def KI (h:qm t):qx t-1∈t.flatten:=by
 obtain⟨r,H,e⟩:=cq.mp (Kw h.map_ne)
 have:qx t-1=ka r:=by unfold qx;omega
 rw[this];exact List.mem_flatten.mpr ⟨r,H,Kw (h.row_ne H)⟩
def PY (h:qm t):qx t<=(t.length:Int):=by
 obtain⟨r,a,H⟩:=List.mem_flatten.mp (KI h)
 have:=h.lo r a _ H
 omega
def OF (h:qm t){v:Nat}(H:(v:Int)<qx t):∃a b,a<t.length/\b<t.length/\at2 t a b=(v:Int):=by
 by_cases e:(v:Int)=qx t-1
 ·rw[e];exact ZQ h.sq (KI h)
 ·exact ZQ h.sq (h.fu v ⟨_,KI h,by omega⟩)
noncomputable def jY (p:bV):bR:=0::p.map λ(k:Nat)=>1+(k:Int)
def Z3 (t:bQ)(p o:bV):bQ:=o.map λa=>o.map λb=>(jY p).getD (at2 t a b).toNat 0
def R4 {p:bV}{v:Nat}(H:1<=v)(h:v<=p.length):(jY p).getD v 0=1+((p[v-1]'(by omega):Nat):Int):=by
 obtain⟨v,rfl⟩:∃u,v=u+1:=⟨v-1,by omega⟩
 unfold jY;rw[ae,List.getElem?_cons_succ,ax,aa (by omega)]
 rfl
def Ef (h:qm t){p o:bV}(n:p.Perm (List.range (qx t-1).toNat))(f:o.Perm (List.range t.length)):qm (Z3 t p o)/\(Z3 t p o).length=t.length:=by
 have l:o.length=t.length:=by rw[f.length_eq,a5]
 have L:=wF h;have K:=PY h;have A:p.length=(qx t-1).toNat:=by rw[n.length_eq,a5]
 have T:=h.n1;have H:∀i,o.getD i 0<t.length:=λi=>by
  by_cases S:i<o.length
  ·rw[ae,aa S]
   exact cw.mp (f.mem_iff.mp (aN S))
  ·rw[ae,aH (by omega)]
   exact T
 have u:o.Nodup:=(f.nodup_iff).mpr List.nodup_range;have r:∀a,a<t.length->∃i,i<t.length/\o.getD i 0=a:=λa y=>by
  obtain⟨i,S,e⟩:=bw (f.mem_iff.mpr (cw.mpr y));exact⟨i,by omega,by rw[ae,aa S];exact e⟩
 have c:∀q (g:q<p.length),p[q]<p.length:=λq g=>by
  have:=cw.mp (n.mem_iff.mp (aN g))
  omega
 have M:Mu t.length (λi j=>(jY p).getD (at2 t (o.getD i 0) (o.getD j 0)).toNat 0) p.length (λ_ _=>True):=by
  refine⟨λi=>?_,λi j=>?_,λi j B z _=>?_,λi j _ _ U=>absurd trivial U,λk X kc=>?_⟩
  ·show(jY p).getD (at2 t (o.getD i 0) (o.getD i 0)).toNat 0=0
   rw[(h.dg _ _ (H i) (H i)).mpr rfl]
   rfl
  ·show(jY p).getD (at2 t (o.getD i 0) (o.getD j 0)).toNat 0=(jY p).getD (at2 t (o.getD j 0) (o.getD i 0)).toNat 0
   rw[h.sy _ _ (H i) (H j)]
  ·show 1<=(jY p).getD (at2 t (o.getD i 0) (o.getD j 0)).toNat 0/\(jY p).getD (at2 t (o.getD i 0) (o.getD j 0)).toNat 0<=(p.length:Int)
   have s:o.getD i 0≠o.getD j 0:=by
    have x:i<o.length:=by omega
    have w:j<o.length:=by omega
    rw[ae,aa x,ae,aa w];intro e;have J:o[i]=o[j]:=e
    have:=(List.getElem_inj u).mp J
    omega
   have d:=h.dg _ _ (H i) (H j);have Q:=Ve h (H i) (H j);have P:=KW h (H i) (H j);have N:at2 t (o.getD i 0) (o.getD j 0)≠0:=λe=>s (d.mp e);rw[R4 (by omega) (by omega)]
   have:=c ((at2 t (o.getD i 0) (o.getD j 0)).toNat-1) (by omega)
   omega
  ·obtain⟨q,g,e⟩:=bw (n.mem_iff.mpr (cw.mpr (by omega:k-1<(qx t-1).toNat)))
   obtain⟨a,b,y,C,I⟩:=OF h (v:=q+1) (by omega)
   obtain⟨i,S,D⟩:=r a y;obtain⟨j,z,E⟩:=r b C;refine⟨i,j,S,z,?_⟩;show(jY p).getD (at2 t (o.getD i 0) (o.getD j 0)).toNat 0=(k:Int);rw[D,E,I,aP,R4 (by omega) (by omega)]
   have:p[q+1-1]'(by omega)=k-1:=e
   rw[this];omega
 have hT:Z3 t p o=yy t.length (λi j=>(jY p).getD (at2 t (o.getD i 0) (o.getD j 0)).toNat 0):=by
  unfold Z3 yy;rw[JG o 0,l]
  congr 1
  funext i
  rw[JG o 0 (λb=>(jY p).getD (at2 t (o.getD i 0) b).toNat 0),l]
 refine⟨?_,by unfold Z3;rw[ag,l]⟩
 rw[hT];exact M.tab (λ_ _ _ _=>trivial) T h.n8 (.inr (by omega))
end
end G
namespace Mi
open PySem L2
def KS {r b:Nat}{v:W}(h:A[r]? =some (.lst ws))(H:b<ws.length):j6 (.ref r) (.int b) v A=.ok () (A.set r (.lst (ws.set b v))):=by
 have e:wR ws.length (b:Int)=some b:=by unfold wR;rw[ah (by omega),ah (by omega),aP]
 unfold j6;dsimp only;rw[h];dsimp only;rw[e]
structure Kp (n:Nat)(A B:Hx):Prop where
 len:A.length<=B.length
 at_:∀i,i<A.length->i≠n->B[i]? =A[i]?
section
variable {C:Hx}
def Kp.refl:Kp n A A:=⟨ar _,λ_ _ _=>rfl⟩
theorem Kp.trans (a:Kp n A B)(b:Kp n B C):Kp n A C:=⟨a3 a.len b.len,λi H h=>(b.at_ i (aF H a.len) h).trans (a.at_ i H h)⟩
theorem Kp.set:Kp n A (A.set n o):=⟨by rw[a6];exact ar _,λi _ h=>aI (Ne.symm h)⟩
def Kp.ext (x:Ext A B):Kp n A B:=by
 obtain⟨l,rfl⟩:=x;exact⟨by simp,λi h _=>au h⟩
def Kp.put (a:Kp n A B){k:Nat}(h:A.length<=k):Kp n A (B.set k o):=⟨by rw[a6];exact a.len,λi b H=>by rw[aI (by omega)];exact a.at_ i b H⟩
def Kp.get (a:Kp n A B)(h:A[i]? =some o)(H:i≠n):B[i]? =some o:=by rw[a.at_ i (kU h) H];exact h
end
def Kj:(yy n μ).length=n:=by unfold yy;simp
def Xs:∀r∈yy n μ,r.length=(yy n μ).length:=λr h=>by
 obtain⟨i,_,rfl⟩:=cq.mp h;rw[Kj];simp
end Mi
namespace G
open PySem L2 Mi
section
abbrev Sq (t:bQ):Prop:=∀r∈t,r.length=t.length
end
def VR (t:bQ):Bool:=decide (1<=t.length)&&(decide (t.length<=8)&&((t.all λr=>r.length==t.length&&r.all λv=>decide (0<=v)&&decide (v<(t.length:Int)))&&
 (((List.range t.length).all λa=>(List.range t.length).all λb=>(decide (at2 t a b=0)==decide (a=b))&&decide (at2 t a b=at2 t b a))&&(List.range 8).all λk=>!(t.flatten.any λv=>decide ((k:Int)<v)) || t.flatten.contains (k:Int))))
def AF (h:VR t=true):qm t:=by
 unfold VR at h;rw[av,av,av,av,ao,ao]at h;obtain⟨N,n,i,s,o⟩:=h;have rw_:∀r∈t,r.length=t.length/\∀v∈r,0<=v/\v<(t.length:Int):=λr l=>by
  have:=cy.mp i r l
  rw[av,aM]at this;refine⟨this.1,λv d=>?_⟩
  have:=cy.mp this.2 v d
  rw[av,ao,ao]at this;exact this
 have at_:∀a b,a<t.length->b<t.length->(decide (at2 t a b=0)==decide (a=b))=true/\at2 t a b=at2 t b a:=λa b c H=>by
  have:=cy.mp (cy.mp s a (cw.mpr c)) b (cw.mpr H)
  rw[av,ao]at this;exact this
 refine⟨N,n,λr l=>(rw_ r l).1,λr l=>(rw_ r l).2,λa b c H=>?_,λa b c H=>(at_ a b c H).2,λk j=>?_⟩
 ·have:=aM.mp (at_ a b c H).1
  by_cases q:a=b
  ·rw[aE q]at this;exact⟨λ_=>q,λ_=>of_decide_eq_true this⟩
  ·rw[aD q]at this;exact⟨λz=>absurd z (of_decide_eq_false this),λz=>absurd z q⟩
 ·obtain⟨v,d,f⟩:=j
  obtain⟨r,l,e⟩:=List.mem_flatten.mp d
  have:=(rw_ r l).2 v e
  have g:=cy.mp o k (cw.mpr (by omega))
  rw[bO]at g;rcases g with z|z
  ·exfalso
   have:(t.flatten.any λv=>decide ((k:Int)<v))=true:=List.any_eq_true.mpr ⟨v,d,aE f⟩
   rw[this]at z;cases z
  ·exact List.contains_iff_mem.mp z
def WL (t:bQ):((zt t).nr&&true)=true:=by rw[KO];rfl
noncomputable def gv:W->Bool
 |.int _=>true|_=>false
def ku {m:Ev}{w:W}{ty c:Ty}(h:m ρ A=.ok w A1)(H:q9 w A1=some ty):jN c m ρ A=.ok (.bl (yz ty c)) A1:=by
 unfold jN;rw[h,zA,H]
def iN (h:ρ[i]? =some (some (.tup ws))):mQ qw (zX (qf i)) ρ A=.ok (.int ws.length) A:=by
 rw[jF (j3 (w:=.tup ws) (A1:=A) (zj h) rfl)]
 rfl
def HR (i:Int)(A:Hx):ZL [.int i] A=.ok (.bl true) A:=by
 unfold ZL GF;exact qy (w:=.bl true) (A1:=A) rfl
def DQ {r:bR}(h:r.length<=8)(A:Hx):Ja [qg r,.int r.length] A=.ok (.bl true) A:=by
 unfold Ja Gs;refine qy ?_;unfold Gz;refine qd (qA ?_);refine(kq (A1:=A) rfl).trans ?_;have e:mQ qw (zX zl) [some (qg r),iV r.length] A=.ok (.int r.length) A:=by
  rw[jF (j3 (w:=qg r) (A1:=A) (zj rfl) rfl)];unfold qw;rw[ag]
 refine(kq (A1:=A) ((zG e (zj (i:=1) rfl)).trans ((JF _ _ _).trans (by rw[aE rfl])))).trans ?_
 have E:=Qq (cap:=[]) (A:=A) (ρ:=[some (qg r),iV r.length]) (ws:=r.map W.int) (me:=zw ZL (zc zl zh)) (g:=λ_=>.bl true) (zj (i:=0) rfl) (by rw[ag];unfold zR;omega) (λw H=>by
  obtain⟨i,_,rfl⟩:=cq.mp H;exact(ql (ws:=[.int i]) (A1:=A) rfl).trans (HR i A))
 exact(jF E).trans (Jh (p:=λ_=>true) λ_ _=>rfl)
def Ay {r:bR}(l:r.length<=8)(H:∀v∈r,0<=v/\v<r.length)(A:Hx):ZF [qg r,.int r.length,.int r.length] A=.ok (.bl true) A:=by
 unfold ZF W4;refine qy ?_;unfold W3;refine qd (qA ?_);refine(kq (A1:=A) ((ql (ws:=[qg r,.int r.length]) (A1:=A) rfl).trans (DQ l A))).trans ?_;have e:=Qq (cap:=[2]) (A:=A) (ρ:=[some (qg r),iV r.length,iV r.length]) (ws:=r.map W.int) (me:=yt yW YB (zZ (.int 0)) (qf 0) (qf 1)) (g:=λ_=>.bl true) (zj (i:=0) rfl) (by rw[ag];unfold zR;omega) (λw b=>by
  obtain⟨v,h,rfl⟩:=cq.mp b;obtain⟨c,a⟩:=H v h;unfold yt;rw[qe,zA,zj (i:=0) (w:=.int v) rfl,zA];show R.bind (R.ok (W.bl (decide ((0:Int)<=v))) A) _=_;rw[aE c,zA];dsimp only;rw[zj (i:=1) (w:=.int r.length) rfl,zA];show R.ok (W.bl (decide (v<(r.length:Int)))) A=_;rw[aE a])
 exact(jF e).trans (Jh (p:=λ_=>true) λ_ _=>rfl)
def iO (h:qm t)(A:Hx):GJ [zt t] A=.ok (.bl true) A:=by
 refine Z0 (A1:=[]) (WL t) rfl (qy ?_);unfold Si;obtain⟨d,e,_⟩:=Sz (A:=[]) (N:=t.length) (item:=λi=>.tup [.int i,qg (t.getD i [])]) (I:=λB=>∃n g Y y,B=[some (zt t),n,g,Y,y])
  (j:=gW (zt t) (t.map qg).length) (st:=turn (yL 1 2) (zo (jR (Jq zM) (yL 3 4) (zo (qu (yH (zi qJ (zi qG jd zD) (zi qG zm zB)) (zi qJ (zi zH (zi zH zl zB) zm) jd)) jE zx) zx)) zx))
  (λi C=>OS (K6 C)) (by have:=Ou (A:=[]) (ws:=t.map qg);rw[ag]at this;rw[ag];exact this) (λa f B H=>by
   obtain⟨n,g,Y,y,rfl⟩:=H;have l:=h.sq _ (km f);obtain⟨o,E,p,Z,r⟩:=Sz (A:=[]) (N:=t.length) (item:=λi=>.tup [.int i,.int ((t.getD a []).getD i 0)]) (I:=λB=>∃Y y,B=[some (zt t),iV a,some (qg (t.getD a [])),Y,y])
    (j:=gW (qg (t.getD a [])) ((t.getD a []).map W.int).length) (st:=turn (yL 3 4) (zo (qu (yH (zi qJ (zi qG jd zD) (zi qG zm zB)) (zi qJ (zi zH (zi zH zl zB) zm) jd)) jE zx) zx))
    (λi C=>OS (int_at (by omega)))
    (by have:=Ou (A:=[]) (ws:=(t.getD a []).map W.int);rw[ag,l]at this;rw[ag,l];exact this)
    (λb c B H=>by
     obtain⟨Y,y,rfl⟩:=H;refine⟨[some (zt t),iV a,some (qg (t.getD a [])),iV b,iV ((t.getD a []).getD b 0)],?_,_,_,rfl⟩;refine(wy rfl).trans ?_;refine(zE ((jC (A1:=[]) ?_).trans rfl)).trans rfl;have v:zi qJ (zi qG jd zD) (zi qG zm zB) [some (zt t),iV a,some (qg (t.getD a [])),iV b,iV ((t.getD a []).getD b 0)] []=.ok (.bl false) []:=by
      refine(zG ((zG (zj (i:=4) rfl) (qe (w:=.int 0))).trans (JF _ _ _)) ((zG (zj (i:=1) rfl) (zj (i:=3) rfl)).trans (JF _ _ _))).trans ((NP _ _ _).trans ?_);have D:(t.getD a []).getD b 0=0↔a=b:=h.dg a b f c
      have:decide ((t.getD a []).getD b 0=0)=decide ((a:Int)=(b:Int)):=by
       by_cases q:a=b
       ·rw[aE (D.mpr q),aE (by omega)]
       ·rw[aD (λz=>q (D.mp z)),aD (by omega)]
      rw[this];simp
     have E:zi qJ (zi zH (zi zH zl zB) zm) jd [some (zt t),iV a,some (qg (t.getD a [])),iV b,iV ((t.getD a []).getD b 0)] []=.ok (.bl false) []:=by
      have u:=h.sq _ (km c);refine(zG ((zG ((zG (zj (i:=0) rfl) (zj (i:=3) rfl)).trans (Of c)) (zj (i:=1) rfl)).trans (Od (by omega))) (zj (i:=4) rfl)).trans ((NQ _ _ _).trans ?_)
      have s:(t.getD b []).getD a 0=(t.getD a []).getD b 0:=(h.sy a b f c).symm;rw[s,aE rfl]
      rfl
     exact(Zp v).trans E) t.length 0 [some (zt t),iV a,some (qg (t.getD a [])),Y,y] (by omega) ⟨_,_,rfl⟩
   refine⟨[some (zt t),iV a,some (qg (t.getD a [])),p,Z],?_,_,_,_,_,rfl⟩;refine(wy rfl).trans ?_;rw[r]at E;have x:((t.getD a []).map W.int).length=t.length:=by rw[ag,l]
   refine(zE ((wz (Sv (zj (i:=2) rfl))).trans ?_)).trans rfl;show ye (gW (qg (t.getD a [])) ((t.getD a []).map W.int).length) _ ((t.getD a []).map W.int).length 0 _ _=_;rw[x]at E ⊢;exact E) t.length 0 [some (zt t),none,none,none,none] (by omega) ⟨_,_,_,_,rfl⟩
 refine(zE (ρ1:=d) (A1:=[]) ((wz (Sv (zj (i:=0) rfl))).trans ?_)).trans (qd rfl);show ye (gW (zt t) (t.map qg).length) _ (t.map qg).length 0 _ _=_;have x:(t.map qg).length=t.length:=ag ..;rw[x]at e ⊢;exact e
def Bz (h:qm t)(A:Hx):WY [zt t] A=.ok (.bl true) A:=by
 have f:=Cb h;have c:t.flatten≠[]:=by
  intro e;have I:=h.n1;have b:=h.sq _ (km (t:=t) (a:=0) (by omega))
  have:t.getD 0 []=[]:=by
   have:=List.flatten_eq_nil_iff.mp e _ (km (t:=t) (a:=0) (by omega))
   exact this
  rw[this]at b;simp at b;omega
 obtain⟨u,l,E⟩:=List.exists_cons_of_ne_nil c;refine Z0 (A1:=[.lst (t.flatten.map W.int)]) (WL t) rfl (qy ?_);unfold Ud;refine(zE (qC (yR (AQ (zj rfl) (by unfold zR;omega))))).trans (qd (qA ?_))
 generalize o:[O.lst (t.flatten.map W.int)]=B;have s:zI (.ref 0) B=some (t.flatten.map W.int):=by rw[<- o];rfl
 have z:mQ j4 (zX zm) [some (zt t),rO 0] B=.ok (.int (jV l u)) B:=by
  rw[jF (j3 (w:=.ref 0) (A1:=B) (zj rfl) s)];unfold j4;rw[wx,E]
 have H:jV l u∈t.flatten:=by
  rw[E];rcases GS l u with e|e
  ·rw[e];exact aq ..
  ·exact ak _ e
 have d:0<=jV l u/\jV l u<8:=by
  obtain⟨r,b,v⟩:=List.mem_flatten.mp H
  have:=h.lo r b _ v
  have:=h.n8
  omega
 generalize jV l u=M at z H d;obtain⟨K,rfl⟩:=bb d.1;have q:=ZN (cap:=[1]) (me:=zi WM zl zm) (ρ:=[some (zt t),rO 0]) (A:=B) (N:=K) (j:=yv 0 K) (item:=λi=>.int (0+i)) (g:=λ_=>.bl true)
  ((JT z (by unfold jt;simp;omega)).trans (by rw[aP])) rfl (by unfold zR;omega) (λi y=>Zo y) (Zj (by omega))
  (λi y=>by
   refine(zG (zj (i:=0) (w:=.int (0+i)) rfl) (zj (i:=1) (w:=.ref 0) rfl)).trans ?_;show QK false _ _ _=_;unfold QK;rw[s];dsimp only;have D:(wB (.int (0+(i:Int)))&&(t.flatten.map W.int).all wB)=true:=by
    have:(t.flatten.map W.int).all wB=true:=cy.mpr λw C=>by obtain⟨x,_,rfl⟩:=cq.mp C;rfl
    rw[this];rfl
   rw[ah D];have n:JB (.int (0+(i:Int))) (t.flatten.map W.int)=true:=by
    unfold JB;refine List.any_eq_true.mpr ⟨.int i,cq.mpr ⟨(i:Int),h.fu i ⟨_,H,by omega⟩,rfl⟩,?_⟩
    show((i:Int)==0+(i:Int))=true;rw[zero_add];exact bt _
   rw[n]
   rfl)
 refine(jF q).trans ?_;exact Jh (p:=λ_=>true) λ_ _=>rfl
def AY (h:qm t)(A:Hx):gA [zt t] A=.ok (.bl true) A:=by
 have N:=h.n1;have n:=h.n8;unfold gA Y8;refine qy ?_;unfold Y6;have e:∀b:En,mQ qw (zX (qf 0)) (some (zt t)::b) A=.ok (.int t.length) A:=λb=>by
  rw[jF (j3 (w:=zt t) (A1:=A) (zj rfl) rfl)];unfold qw;rw[ag]
 refine(zE (ρ1:=[some (zt t),none]) (A1:=A) ((jC (A1:=A) ?_).trans rfl)).trans ?_
 ·refine(Zp (A1:=A) rfl).trans ?_
  refine jq (k:=true) ?_;show yt yW yW (zZ (.int 1)) (mQ qw (zX (qf 0))) (zZ (.int 8)) [some (zt t),none] A=_;unfold yt;rw[qe,zA,e,zA];show R.bind (R.ok (W.bl (decide ((1:Int)<=t.length))) A) _=_;rw[aE (by omega),zA]
  dsimp only;rw[qe,zA];show R.ok (W.bl (decide ((t.length:Int)<=8))) A=_;rw[aE (by omega)]
 refine(zE (qC (e _))).trans ?_;have E:=Qq (cap:=[1]) (A:=A) (ρ:=[some (zt t),iV t.length]) (ws:=t.map qg) (me:=zw ZF (zc (qf 0) (zc (qf 1) (zc (qf 1) zh)))) (g:=λ_=>.bl true) (zj (i:=0) rfl) (by rw[ag];unfold zR;omega) (λw c=>by
  obtain⟨r,H,rfl⟩:=cq.mp c;have l:=h.sq r H;refine(ql (ws:=[qg r,.int t.length,.int t.length]) (A1:=A) rfl).trans ?_;rw[<- l];exact Ay (by omega) (λv a=>by have:=h.lo r H v a;omega) A)
 refine(zE (ρ1:=[some (zt t),iV t.length]) (A1:=A) ((jC (A1:=A) (jq (k:=true) ((jF E).trans (Jh (p:=λ_=>true) λ_ _=>rfl)))).trans rfl)).trans (qd (qA ?_));refine(kq (A1:=A) ((ql (ws:=[zt t]) (A1:=A) rfl).trans (iO h A))).trans ?_;exact(ql (ws:=[zt t]) (A1:=A) rfl).trans (Bz h A)
end G
namespace Mi
open PySem L2
theorem Q9:∀(l m:bR),PyData.eqvAll (l.map PyData.int) (m.map PyData.int)=decide (l=m)
 |[],[]=>by simp[PyData.eqvAll]|[],_::_=>by simp[PyData.eqvAll]|_::_,[]=>by simp[PyData.eqvAll]|a::l,b::m=>by
  simp only[aK,PyData.eqvAll,Q9 l m,PyData.eqv];rw[Bool.eq_iff_iff];simp
theorem Sb:∀l:bR,jy (zO A n) (l.map W.int)=some (l.map PyData.int)
 |[]=>rfl|i::l=>by
  have:zO A n (.int i)=some (.int i):=by cases n<;>rfl
  show(match zO A n (.int i),jy (zO A n) (l.map W.int) with|some d,some D=>some (d::D)|_,_=>none)=_
  rw[this,Sb l]
  rfl
def Yb {r:Nat}(h:A[r]? =some (.lst (l.map W.int))):zO A 8 (.ref r)=some (.list (l.map PyData.int)):=by
 show(match zI (.ref r) A with|some w=>(jy (zO A 7) w).map PyData.list|none=>none)=_
 have:zI (.ref r) A=some (l.map W.int):=by unfold zI;dsimp only;rw[h]
 rw[this];dsimp only;rw[Sb]
 rfl
def VU {r s:Nat}{m:bR}(h:A[r]? =some (.lst (l.map W.int)))(H:A[s]? =some (.lst (m.map W.int))):qG (.ref r) (.ref s) A=.ok (.bl (decide (l=m))) A:=by
 show yN false _ _ A=_;unfold yN;rw[Yb h,Yb H];dsimp only;rw[PyData.eqv,Q9]
 rfl
def Ky (A B:Hx):Prop:=∀w ty,q9 w A=some ty->q9 w B=some ty
def Ext.ky (x:Ext A B):Ky A B:=λw ty h=>by
 cases w with
 |ref n=>
  unfold q9 at h ⊢;dsimp only at h ⊢;cases e:A[n]? with
  |none=>rw[e]at h;cases h|some o=>rw[e]at h;rw[x.at e];exact h
 |_=>exact h
def Ky.trans {C:Hx}(a:Ky A B)(b:Ky B C):Ky A C:=λw ty h=>b w ty (a w ty h)
section
def X9:q9 (.ref A.length) (A++[.lst ws])=some .lst:=by
 unfold q9;dsimp only;rw[qc]
end
structure Kn (n:Nat)(A B:Hx):Prop where
 kp:Kp n A B
 st:G.qH n B
def _root_.G.qH.ty (h:G.qH n A):q9 (.ref n) A=some .lst:=by
 obtain⟨c,b,e,_⟩:=h;unfold q9;dsimp only;rw[e]
def _root_.G.qH.lt (h:G.qH n A):n<A.length:=by
 obtain⟨c,b,e,_⟩:=h;exact kU e
def _root_.G.qH.ext (h:G.qH n A)(x:Ext A B):G.qH n B:=by
 obtain⟨c,b,e,r⟩:=h;exact⟨c,b,x.at e,r⟩
def _root_.G.qH.put {k:Nat}(h:G.qH n A)(H:k≠n):G.qH n (A.set k o):=by
 obtain⟨c,b,e,r⟩:=h;exact⟨c,b,by rw[aI H];exact e,r⟩
def Kn.ky (s:G.qH n A)(k:Kn n A B):Ky A B:=λw ty h=>by
 cases w with
 |ref i=>
  by_cases q:i=n
  ·subst q
   rw[s.ty]at h;rw[k.st.ty];exact h
  ·unfold q9 at h ⊢
   dsimp only at h ⊢
   by_cases z:i<A.length
   ·rw[k.kp.at_ i z q];exact h
   ·rw[aH (by omega)]at h;cases h
 |_=>exact h
theorem Kn.trans {C:Hx}(a:Kn n A B)(b:Kn n B C):Kn n A C:=⟨a.kp.trans b.kp,b.st⟩
theorem Kn.ext (s:G.qH n A)(x:Ext A B):Kn n A B:=⟨Kp.ext x,s.ext x⟩
end Mi
namespace G
open PySem L2 Mi
def iP (h:qH n A){m:Int}(c:0<m)(H:m<1000000000000000):∃(r:Nat) (B:Hx),jL [.ref n,.int m] A=.ok (.int r) B/\(r:Int)<m/\Kn n A B/\B.length=A.length:=by
 obtain⟨r,o,e,a,b,s⟩:=PQ h c H;exact⟨r.toNat,A.set n o,by rw[e,bK a],by omega,⟨Kp.set,s⟩,a6 ..⟩
def wW {m:Int}(h:qH n A)(d:ρ[0]? =some (rO n))(b:me ρ A=.ok (.int m) A)(c:0<m)(H:m<1000000000000000):∃(r:Nat) (B:Hx),zw jL (zc zl (zc me zh)) ρ A=.ok (.int r) B/\(r:Int)<m/\Kn n A B/\B.length=A.length:=by
 obtain⟨r,B,e,a⟩:=iP h c H;exact⟨r,B,(ql (zP (zj d) (zP b qa))).trans e,a⟩
def Vv {ty:Ty}(h:ty≠.tup):yz ty .tup=false:=by
 cases ty<;>first|rfl|exact absurd rfl h
def kF (A:Hx)(w:W):Prop:=∀B,Ky A B->gA [w] B=.ok (.bl false) B
def kF.mono {w:W}(k:Ky A B)(h:kF A w):kF B w:=λC q=>h C (k.trans q)
def O9 {w:W}{ty:Ty}(h:q9 w A=some ty)(H:ty≠.tup):kF A w:=λB k=>by
 unfold gA Y8;refine qy ?_;unfold Y6;have e:jN .tup zl [some w,none] B=.ok (.bl false) B:=(ku (zj rfl) (k _ _ h)).trans (by rw[Vv H])
 have E:yH (qW (jN .tup zl)) (qW (yt yW yW zu (mQ qw (zX zl)) gq)) [some w,none] B=.ok (.bl true) B:=by
  unfold yH;rw[jq e,zA]
  rfl
 exact qd ((yx E).trans (qd (qA qe)))
def iQ (h:q9 (.ref j) A=some .lst):kF A (.tup [.ref j]):=λB k=>by
 unfold gA Y8;refine qy ?_;unfold Y6;have H:=k _ _ h;have e:Ja [.ref j,.int 1] B=.ok (.bl false) B:=by
  unfold Ja Gs;refine qy ?_;unfold Gz;exact qd (qA (wZ ((ku (zj rfl) H).trans rfl)))
 have b:ZF [.ref j,.int 1,.int 1] B=.ok (.bl false) B:=by
  unfold ZF W4;refine qy ?_;unfold W3;exact qd (qA (wZ ((ql (ws:=[.ref j,.int 1]) (A1:=B) rfl).trans e)))
 have E:=Qq (cap:=[1]) (A:=B) (ρ:=[some (.tup [.ref j]),iV 1]) (ws:=[.ref j]) (me:=zw ZF (zc zl (zc zm (zc zm zh)))) (g:=λ_=>.bl false) (zj (i:=0) rfl) (by simp[zR]) (λw a=>by
  rw[cx.mp a];exact(ql (ws:=[.ref j,.int 1,.int 1]) (A1:=B) rfl).trans b)
 refine(zE (ρ1:=[some (.tup [.ref j]),none]) (A1:=B) rfl).trans ((zE (ρ1:=[some (.tup [.ref j]),iV 1]) (A1:=B) rfl).trans ?_);exact qd ((yx (jq (k:=false) ((jF E).trans rfl))).trans (qd (qA qe)))
def ET (m:Ev)(b:En):Prop:=∀A,∃w a,m b A=.ok w a/\Ext A a/\kF a w
def AT (a:Ea)(c:En)(k:Nat):Prop:=∀A,∃s b,a c A=.ok s b/\Ext A b/\s.length=k/\∀w∈s,kF b w
section
variable {m:Ev}{a:Ea}{k:Nat}{w:W}
def K8:AT zh ρ 0:=λA=>⟨[],A,rfl,Ext.refl,rfl,λ_ h=>by cases h⟩
def j0 (h:ET m ρ)(t:AT a ρ k):AT (zc m a) ρ (k+1):=λA=>by
 obtain⟨w,f,E,x,c⟩:=h A;obtain⟨s,d,e,X,l,b⟩:=t f;refine⟨w::s,d,zP E e,x.trans X,by rw[aL,l],λy H=>?_⟩
 rcases cn.mp H with rfl|H
 ·exact c.mono X.ky
 ·exact b y H
def yu (h:∀A,m ρ A=.ok w A)(H:∀B,gA [w] B=.ok (.bl false) B:=by intro B;kernel_rfl):ET m ρ:=λA=>⟨w,A,h A,Ext.refl,λB _=>H B⟩
def iR:ET Jy ρ:=λA=>⟨.ref A.length,A++[.dct []],rfl,Ext.one,O9 (ty:=.dct) (by unfold q9;dsimp only;rw[qc]) (by decide)⟩
end
section
variable {a:Ea}{k:Nat}
structure TL (A:Hx)(r k:Nat)(B:Hx):Prop where
 at_:∃ws,B[r]? =some (.lst ws)/\ws.length=k/\∀w∈ws,kF B w
 nw:A.length<=r
 ext:Ext A B
def iS (h:AT a ρ k)(A:Hx):∃r B,zJ a ρ A=.ok (.ref r) B/\TL A r k B:=by
 obtain⟨s,c,e,x,l,b⟩:=h A;exact⟨_,_,jl e,⟨s,qc,l,λw H=>(b w H).mono Ext.one.ky⟩,x.len,x.app⟩
def X4 {r:Nat}(t:TL A r j B)(h:AT a ρ k)(g:ρ[i]? =some (rO r))(d:j+k<=100):∃b C,zi zL (qf i) (zJ a) ρ B=.ok (.ref b) C/\TL A b (j+k) C:=by
 obtain⟨s,e,l,f⟩:=t.at_;obtain⟨U,c,E,x,L,u⟩:=h B;have X:Ext B (c++[.lst U]):=x.app;refine⟨_,_,(zG (zj g) (jl E)).trans (gB (X.at e) qc (by unfold zR;omega)),⟨s++U,qc,by rw[aj,l,L],λw H=>?_⟩,?_,(t.ext.trans X).app⟩
 ·rcases cz.mp H with q|q
  ·exact(f w q).mono (X.app).ky
  ·exact(u w q).mono (Ext.one.trans Ext.one).ky
 ·have:=t.ext.len
  have:=X.len
  omega
def AL {r:Nat}{m:Int}{mm:Ev}(s:qH n A)(t:TL A r k B)(o:ρ[i]? =some (rO r))(q:ρ[0]? =some (rO n))(g:∀A,mm ρ A=.ok (.int m) A)(a:(k:Int)=m)(p:0<m)(c:m<1000):∃w C,zi zH (qf i) (zw jL (zc zl (zc mm zh))) ρ B=.ok w C/\kF C w/\Kn n A C:=by
 obtain⟨d,e,l,f⟩:=t.at_;have S:=s.ext t.ext;obtain⟨j,C,E,b,kn,_⟩:=wW S q (g B) p (by omega)
 have h:j<d.length:=by omega
 have H:r≠n:=by have:=s.lt;have:=t.nw;omega
 refine⟨d[j],C,(zG (zj o) E).trans (yY (kn.kp.get e H) (aa h)),(f _ (aN h)).mono (kn.ky S),(Kn.ext s t.ext).trans kn⟩
end
def iT (s:qH n A):∃w B,Q0 [.ref n] A=.ok w B/\kF B w/\Kn n A B:=by
 unfold Q0 Uu;unfold Uv;have E:∀v,ET (zJ (zc (zJ (zc zD zh)) zh)) v:=λv A=>⟨_,_,jl (zP (jl (zP qe qa)) qa),Ext.one.app,O9 X9 (by decide)⟩
 have e:∀v,ET (zy (zc (zJ (zc zD zh)) zh)) v:=λv A=>⟨_,_,Zi (zP (jl (zP qe qa)) qa),Ext.one,iQ X9⟩;obtain⟨d,u,l,y⟩:=iS (k:=11) (ρ:=[rO n,none]) (a:=zc Zb (zc zD (zc (zy zh) (zc (zy (zc (zy zh) zh)) (zc (zy (zc (zy (zc zu zh)) zh)) (zc (zJ (zc (zJ (zc zD zh)) zh)) (zc (zy (zc (zJ (zc zD zh)) zh)) (zc (zy (zc (zy (zc zD zh)) (zc (zy (zc zD zh)) zh))) (zc (zy (zc (zy (zc zD (zc zu zh))) (zc (zy (zc qz (zc zD zh))) zh))) (zc (zy (zc (zy (zc zD (zc qz zh))) (zc (zy (zc qz (zc zD zh))) zh))) (zc Jy zh))))))))))) (j0 (yu (λ_=>rfl)) (j0 (yu (λ_=>rfl)) (j0 (yu (w:=.tup []) (λ_=>rfl)) (j0 (yu (w:=.tup [.tup []]) (λ_=>rfl)) (j0 (yu (w:=.tup [.tup [.int 1]]) (λ_=>rfl)) (j0 (E _) (j0 (e _) (j0 (yu (w:=.tup [.tup [.int 0],.tup [.int 0]]) (λ_=>rfl))
  (j0 (yu (w:=.tup [.tup [.int 0,.int 1],.tup [.int 2,.int 0]]) (λ_=>rfl)) (j0 (yu (w:=.tup [.tup [.int 0,.int 2],.tup [.int 2,.int 0]]) (λ_=>rfl)) (j0 iR K8))))))))))) A
 obtain⟨c,q,j,T⟩:=X4 (k:=5) (i:=1) (ρ:=[rO n,rO d]) (a:=zc (zy (zc (zy (zc zD (zc zu zh))) (zc (zy (zc zu (zc zu zh))) zh))) (zc (zy (zc (zy (zc zS zh)) zh)) (zc (zy (zc (zy (zc zD (zc zS zh))) (zc (zy (zc zS (zc zD zh))) zh))) (zc (zy (zc (zy (zc zD (zc (qE kO zu) zh))) (zc (zy (zc (qE kO zu) (zc zD zh))) zh))) (zc (zy (zc (zy (zc zD (zc zu zh))) (zc (zy (zc zu (zc zD zh))) (zc (zy (zc zu (zc zu zh))) zh)))) zh))))) y (j0 (yu (w:=.tup [.tup [.int 0,.int 1],.tup [.int 1,.int 1]]) (λ_=>rfl)) (j0 (yu (w:=.tup [.tup [.bl true]]) (λ_=>rfl)) (j0 (yu (w:=.tup [.tup [.int 0,.bl true],.tup [.bl true,.int 0]]) (λ_=>rfl))
  (j0 (yu (w:=.tup [.tup [.int 0,.int (-1)],.tup [.int (-1),.int 0]]) (λ_=>rfl)) (j0 (yu (w:=.tup [.tup [.int 0,.int 1],.tup [.int 1,.int 0],.tup [.int 1,.int 1]]) (λ_=>rfl)) K8))))) rfl (by omega)
 obtain⟨b,p,h,x⟩:=X4 (k:=5) (i:=1) (ρ:=[rO n,rO c]) (a:=zc (zy (zc (zy (zc zD (zc zu (zc qz zh)))) (zc (zy (zc zu (zc zD (zc qz zh)))) (zc (zy (zc qz (zc qz (zc zu zh)))) zh)))) (zc (zZ (.str "0")) (zc (zy (zc (zy (zc zD (zc jc (zc jc zh)))) (zc (zy (zc jc (zc zD (zc zu zh)))) (zc (zy (zc jc (zc zu (zc zD zh)))) zh)))) (zc (zy (zc (zy (zc zD zh)) (zc (zy zh) zh))) (zc (zy (zc zD zh)) zh))))) T (j0 (yu (w:=.tup [.tup [.int 0,.int 1,.int 2],.tup [.int 1,.int 0,.int 2],.tup [.int 2,.int 2,.int 1]]) (λ_=>rfl)) (j0 (yu (λ_=>rfl))
  (j0 (yu (w:=.tup [.tup [.int 0,.int 3,.int 3],.tup [.int 3,.int 0,.int 1],.tup [.int 3,.int 1,.int 0]]) (λ_=>rfl)) (j0 (yu (w:=.tup [.tup [.int 0],.tup []]) (λ_=>rfl)) (j0 (yu (w:=.tup [.int 0]) (λ_=>rfl)) K8))))) rfl (by omega)
 obtain⟨r,o,g,t⟩:=X4 (k:=2) (i:=1) (ρ:=[rO n,rO b]) (a:=zc (zy (zc (zy (zc Zb zh)) zh)) (zc (zy (zc (zy (zc zD (zc zD zh))) (zc (zy (zc zD (zc zD zh))) zh))) zh)) x (j0 (yu (w:=.tup [.tup [.non]]) (λ_=>rfl)) (j0 (yu (w:=.tup [.tup [.int 0,.int 0],.tup [.int 0,.int 0]]) (λ_=>rfl)) K8)) rfl (by omega)
 obtain⟨w,C,f,H,kn⟩:=AL (i:=1) (ρ:=[rO n,rO r]) (mm:=zZ (.int 23)) (m:=23) s t rfl rfl (λ_=>rfl) rfl (by decide) (by decide)
 refine⟨w,C,qy ?_,H,kn⟩;refine(zE ((qC l).trans rfl)).trans ((zE ((qC j).trans rfl)).trans ((zE ((qC h).trans rfl)).trans ((zE ((qC g).trans rfl)).trans (qd (qA f)))))
section
variable {N a:Nat}
def Fb (g:t.length<=8)(H:Sq t){m:Ev}{c:Hx}(l:m ρ c=.ok (zt t) B):qj (zN 1 [] (z9 m) (zC 0) zS (zK (qj (zX zl)))) ρ c=
  .ok (.ref (B.length+t.length)) (B++(t.map λr=>O.lst (r.map W.int))++[O.lst ((List.range t.length).map λi=>W.ref (B.length+i))]):=by
 obtain⟨b,d,j,e,⟨z,u⟩,o,n⟩:=Jb (nl:=1) (cap:=[]) (tw:=zC 0) (ifs:=zZ (.bl true)) (em:=zK (qj (zX zl))) (ρ:=ρ) (A:=c) (N:=t.length)
  (I:=λp b a C=>(∃z,b=[z])/\C=B++((t.take p).map λr=>O.lst (r.map W.int))/\a=(List.range p).map λi=>W.ref (B.length+i)) (ZS l) (by simp)
  (λp b a C h ⟨⟨z,s⟩,q,f⟩=>by
   subst s q f;refine⟨qg t[p],[some (qg t[p])],?_,rfl,.inl ⟨_,_,_,_,rfl,Qs (yR (j3 (w:=qg t[p]) (ws:=t[p].map W.int) (zj rfl) rfl)) ?_,⟨_,rfl⟩,?_,?_⟩⟩
   ·show some (t.map qg)[p]? =_
    rw[ax,aa h];rfl
   ·simp;unfold zR;omega
   ·rw[take_succ h,aW,aR];rfl
   ·rw[range_succ,aW,aj,ag,bp,Nat.min_eq_left (bB h)];rfl)
  (λb a C _=>by show some (t.map qg)[t.length]? =_;rw[aH (by simp)]) ⟨⟨none,rfl⟩,by simp,by simp⟩
 rw[yR e,o,n,bD];simp
def RO (h:i<t.length):(B++(t.map λr=>O.lst (r.map W.int))++[O.lst ((List.range t.length).map λi=>W.ref (B.length+i))])[B.length+i]? =some (.lst ((t.getD i []).map W.int)):=by
 rw[au (by simp;omega),ay (by omega),show B.length+i-B.length=i by omega,ax,ae,aa h]
 rfl
def Rb:(B++(t.map λr=>O.lst (r.map W.int))++[O.lst ((List.range t.length).map λi=>W.ref (B.length+i))])[B.length+t.length]? =some (.lst ((List.range t.length).map λi=>W.ref (B.length+i))):=by
 have:B.length+t.length=(B++(t.map λr=>O.lst (r.map W.int))).length:=by simp
 rw[this,qc]
end
def YD {r s:Nat}{m:bR}(h:A[r]? =some (.lst (l.map W.int)))(H:A[s]? =some (.lst (m.map W.int))):qJ (.ref r) (.ref s) A=.ok (.bl (!decide (l=m))) A:=by
 show yN true _ _ A=_;unfold yN;rw[Yb h,Yb H];dsimp only;rw[PyData.eqv,Q9]
 rfl
section
variable {p f:Nat}
def D2 {x:Option W}(T:A.length<=p)(hf:A.length<=f)(hn:n<A.length)(h:p≠f):∀(k fu:Nat)(l fd:bR)(B:Hx),l.length=k->k<fu->fd.length+l.length<=100->Kn n A B->B[p]? =some (.lst (l.map W.int))->B[f]? =some (.lst (fd.map W.int))->
  ∃(j:Hx) (b:bR),Zw (zi qJ zM (zJ zh)) (zo (kH (yk yS zB (yk gF zM (zw jL (zc zl (zc (mQ qw (zX zM)) zh)))))) zx) fu [rO n,x,rO p,rO f] B=.ok (.nx [rO n,x,rO p,rO f]) j/\Kn n A j/\j[f]? =some (.lst (b.map W.int))/\b.Perm (fd++l):=by
 intro k
 induction k with
 |zero=>
  intro fu l fd B H y _ kn h1 C;obtain⟨fu,rfl⟩:∃I,fu=I+1:=⟨fu-1,by omega⟩
  have:l=[]:=List.length_eq_zero_iff.mp H
  subst this;refine⟨B++[.lst []],fd,?_,kn.trans (Kn.ext kn.st Ext.one),qR C,by simp⟩
  unfold Zw;have r:zi qJ zM (zJ zh) [rO n,x,rO p,rO f] B=.ok (.bl false) (B++[.lst []]):=(zG (zj (i:=2) rfl) (jl qa)).trans (YD (l:=[]) (m:=[]) (qR h1) qc);rw[r,zA]
 |succ k Q=>
  intro fu l fd B H y U kn h1 C;obtain⟨fu,rfl⟩:∃I,fu=I+1:=⟨fu-1,by omega⟩
  have r:zi qJ zM (zJ zh) [rO n,x,rO p,rO f] B=.ok (.bl true) (B++[.lst []]):=by
   refine(zG (zj (i:=2) rfl) (jl qa)).trans ((YD (m:=[]) (qR h1) qc).trans ?_);have v:l≠[]:=λe=>by rw[e]at H;cases H
   rw[aD v]
   rfl
  have K:=kn.trans (Kn.ext kn.st (Ext.one (o:=.lst [])));have g1:=qR (u:=.lst []) h1;have g2:=qR (u:=.lst []) C;generalize B++[O.lst []]=J at r K g1 g2;have E:mQ qw (zX zM) [rO n,x,rO p,rO f] J=.ok (.int l.length) J:=by
   rw[jF (j3 (w:=.ref p) (A1:=J) (ws:=l.map W.int) (zj rfl) (by unfold zI;dsimp only;rw[g1]))]
   unfold qw;rw[ag]
  obtain⟨q,N,Z,S,k2,_⟩:=wW (ρ:=[rO n,x,rO p,rO f]) K.st rfl E (by omega) (by omega)
  have t:q<l.length:=by omega
  have d:=k2.kp.get g1 (by omega)
  have D:=k2.kp.get g2 (by omega)
  have hw:(l.map W.int)[q]? =some (.int l[q]):=by rw[ax,aa t];rfl
  have M:=(G0 (g:=gF) (a:=qf 2) (zj rfl) g1 Z).trans (Eh d hw (by omega))
  rw[Sl]at M;have c:(N.set p (.lst ((l.eraseIdx q).map W.int)))[f]? =some (.lst (fd.map W.int)):=by rw[aI h];exact D
  have L:=(G0 (g:=yS) (a:=qf 3) (zj rfl) g2 M).trans (GC c (by rw[ag];omega))
  have z:fd.map W.int++[.int l[q]]=(fd++[l[q]]).map W.int:=by rw[aW];rfl
  rw[z]at L;have hlen:(l.eraseIdx q).length=k:=by rw[List.length_eraseIdx_of_lt t];omega
  have s:Kn n A ((N.set p (.lst ((l.eraseIdx q).map W.int))).set f (.lst ((fd++[l[q]]).map W.int))):=⟨((K.trans k2).kp.put T).put hf,((k2.st).put (by omega)).put (by omega)⟩
  obtain⟨j,b,Y,s4,a4,P⟩:=Q fu (l.eraseIdx q) (fd++[l[q]]) _ hlen (by omega) (by rw[aj,bA];omega) s
   (by rw[aI (Ne.symm h),aC (kU d)]) (by rw[aC (kU c)])
  refine⟨j,b,?_,s4,a4,P.trans ?_⟩
  ·unfold Zw
   rw[r,zA];dsimp only;have X:=(zE (m2:=zx) (Ji L)).trans jw;rw[X,zA];exact Y
  ·rw[aR]
   exact List.Perm.append_left fd (TX (aa t)).symm
def R5 {q:Nat}(s:qH n A)(h:A[q]? =some (.lst (l.map W.int)))(H:l.length<=100):∃(r:Nat) (B:Hx) (d:bR),Q3 [.ref n,.ref q] A=.ok (.ref r) B/\B[r]? =some (.lst (d.map W.int))/\d.Perm l/\Kn n A B/\A.length<=r:=by
 unfold Q3 Ur;unfold Up;have a:qj (zX zm) [rO n,rO q,none,none] A=.ok (.ref A.length) (A++[.lst (l.map W.int)]):=yR (j3 (w:=.ref q) (zj rfl) (by unfold zI;dsimp only;rw[h]))
 have X:Ext A (A++[.lst (l.map W.int)]++[.lst []]):=Ext.one.app;have b:(A++[O.lst (l.map W.int)]).length=A.length+1:=by simp
 have c:(A++[.lst (l.map W.int)]++[.lst []])[A.length+1]? =some (.lst (([]:bR).map W.int)):=by rw[<- b];exact qc
 obtain⟨B,d,E,kn,e,P⟩:=D2 (A:=A) (p:=A.length) (f:=A.length+1) (x:=rO q) (ar _) (by omega) s.lt (by omega) l.length 1000 l [] _ rfl (by omega) (by simp;omega) (Kn.ext s X) (qR qc) c
 refine⟨A.length+1,B,d,qy ?_,e,by simpa using P,kn,by omega⟩
 refine(zE ((qC a).trans rfl)).trans ((zE (ρ1:=[rO n,rO q,rO A.length,rO (A.length+1)]) (A1:=A++[.lst (l.map W.int)]++[.lst []]) ?_).trans ((zE (m1:=XQ 1000 _ _) E).trans (qd (qA (zj rfl)))));refine(qC (jl qa)).trans ?_;rw[b]
 rfl
end
noncomputable def dist (t:bQ):bV:=(List.range 8).filter λi=>decide ((i:Int)∈t.flatten)
def wd (t:bQ)(v:Int):Int:=((dist t).idxOf v.toNat:Nat)
def yj (t:bQ):bQ:=t.map λr=>r.map (wd t)
def JQ:i∈dist t↔i<8/\(i:Int)∈t.flatten:=by
 unfold dist;rw[mem_filter,mem_range,ao]
def HM (t:bQ):(dist t).Nodup:=List.Pairwise.filter _ List.nodup_range
theorem GP:∀{l:bR},(∀v∈l,0<=v/\v<8)->gH l=some (l.map Int.toNat)
 |[],_=>rfl|v::l,h=>by
  unfold gH;rw[ah (h v (aq ..)),GP λx H=>h x (ak _ H)]
  rfl
theorem SN:∀{kws:List (Nat×List W)},(∀p∈kws,A[p.1]? =some (.lst p.2))->wA A (kws.map λ(p:Nat×List W)=>W.ref p.1)=some (kws.map (·.2))
 |[],_=>rfl|p::kws,h=>by
  show(match A[p.1]? with|some (.lst ws)=>(wA A (kws.map λ(p:Nat×List W)=>W.ref p.1)).map (ws::·)|_=>none)=_
  rw[h p (aq ..)];dsimp only;rw[SN λx H=>h x (ak _ H)]
  rfl
theorem RR (v:Nat):∀{l:bV},v∈l->gN (λz=>PyData.eqv z (.int v)) (l.map λ(i:Nat)=>PyData.int i)=some (l.idxOf v)
 |[],h=>by cases h|a::l,h=>by
  rw[aK,gN,List.idxOf_cons]
  have:PyData.eqv (.int a) (.int v)=(a==v):=by
   rw[PyData.eqv,Bool.eq_iff_iff];simp;omega
  rw[this]
  by_cases q:a=v
  ·subst q
   simp
  ·have Q:(a==v)=false:=by simp[q]
   rw[Q,ai (by simp)]
   rw[RR v ((cn.mp h).resolve_left (Ne.symm q))]
   rfl
def LL (t:bQ)(r:Nat)(B:Hx):Prop:=∃K:bV,B[r]? =some (.lst (K.map W.ref))/\K.length=t.length/\∀i,i<t.length->B[K.getD i 0]? =some (.lst ((t.getD i []).map W.int))
def G4 {m:Ev}{k:Nat}(h:m ρ A=.ok (.ref k) A)(H:A[k]? =some (.lst ws))(l:ws.length<=zR){g:W->W}(c:∀w∈ws,me (some w::cap.map λi=>(ρ[i]?).join) A=.ok (g w) A):
  zN 1 cap (z9 m) (zC 0) zS (zK me) ρ A=.ok (ws.map g) A:=by
 have e:=ZN (cap:=cap) (me:=me) (ρ:=ρ) (A:=A) (N:=ws.length) (item:=λi=>ws.getD i .non) (g:=λi=>g (ws.getD i .non)) (ZT h H) rfl l
  (λi b=>(gG H).trans (by rw[aa b,ae,aa b];rfl))
  ((gG H).trans (by rw[aH (ar _)]))
  (λi b=>by
   have:ws.getD i .non=ws[i]:=by rw[ae,aa b];rfl
   rw[this];exact c _ (aN b))
 rw[e]
 congr 1
 apply bq
 ·simp
 ·intro i d a
  have b:i<ws.length:=by simpa using a
  simp[ae,aa b]
noncomputable def NL (f:Int->Int):W->W
 |.int v=>.int (f v)|w=>w
def By (f:Int->Int)(l:bR):(l.map W.int).map (NL f)=(l.map f).map W.int:=by
 rw[aU,aU];rfl
section
variable {r:Nat}
def EH (l:t.length<=8)(L:LL t r B)(q:ρ[i]? =some (rO r)):qj (zN 1 [] (z9 (qf i)) (zC 0) zS (zK (qj (zX zl)))) ρ B=
  .ok (.ref (B.length+t.length)) (B++(t.map λr=>O.lst (r.map W.int))++[O.lst ((List.range t.length).map λi=>W.ref (B.length+i))]):=by
 obtain⟨K,E,d,g⟩:=L;obtain⟨b,f,n,e,⟨z,y⟩,u,s⟩:=Jb (nl:=1) (cap:=[]) (tw:=zC 0) (ifs:=zZ (.bl true)) (em:=zK (qj (zX zl))) (ρ:=ρ) (A:=B) (N:=t.length)
  (I:=λp b a C=>(∃z,b=[z])/\C=B++((t.take p).map λr=>O.lst (r.map W.int))/\a=(List.range p).map λi=>W.ref (B.length+i)) (ZT (zj q) E) (by simp[d])
  (λp b a C H ⟨⟨z,v⟩,o,j⟩=>by
   subst v o j;have x:Ext B (B++((t.take p).map λr=>O.lst (r.map W.int))):=⟨_,rfl⟩;have h:=x.at (g p H);have c:t.getD p []=t[p]:=by rw[ae,aa H];rfl
   rw[c]at h;refine⟨.ref (K.getD p 0),[rO (K.getD p 0)],?_,rfl,.inl ⟨_,_,_,_,rfl,Qs (yR (j3 (w:=.ref (K.getD p 0)) (ws:=t[p].map W.int) (zj rfl) (by unfold zI;dsimp only;rw[h]))) ?_,⟨_,rfl⟩,?_,?_⟩⟩
   ·refine(gG (x.at E)).trans ?_
    rw[ax,ae,aa (by omega)];rfl
   ·simp;unfold zR;omega
   ·rw[take_succ H,aW,aR];rfl
   ·rw[range_succ,aW,aj,ag,bp,Nat.min_eq_left (bB H)];rfl)
  (λb a C ⟨_,o,_⟩=>by
   subst o;exact(gG (Ext.at ⟨_,rfl⟩ E)).trans (by rw[aH (by simp[d])])) ⟨⟨none,rfl⟩,by simp,by simp⟩
 rw[yR e,u,s,bD];simp
def LL.mono (x:Ext A B)(h:LL t r A):LL t r B:=by
 obtain⟨K,e,a,H⟩:=h;exact⟨K,x.at e,a,λi b=>x.at (H i b)⟩
def Pz (h1:1<=t.length)(I:t.length<=8)(D:Sq t)(s:∀v∈t.flatten,0<=v/\v<8)(L:LL t r A):∃B,Qj [.ref r] A=.ok (zt (yj t)) B/\Ext A B:=by
 have U:t.flatten.length<=64:=by
  have:∀l:bQ,(∀r∈l,r.length<=8)->l.flatten.length<=8 * l.length:=by
   intro l
   induction l with
   |nil=>intro _;simp|cons r l Q=>
    intro e;have h1:=e r (aq ..);have Z:=Q λP x=>e P (ak _ x);rw[aO,aj,aL];omega
  have:=this t λr e=>by rw[D r e];exact I
  omega
 unfold Qj UR;unfold UZ;have M:=EH (ρ:=[rO r,none]) (i:=0) I L rfl;have X:Ext A (A++(t.map λr=>O.lst (r.map W.int))++[O.lst ((List.range t.length).map λi=>W.ref (A.length+i))]):=⟨(t.map λr=>O.lst (r.map W.int))++[O.lst ((List.range t.length).map λi=>W.ref (A.length+i))],by rw[aR]⟩
 have a:∀i,i<t.length->_:=λi hi=>RO (B:=A) (t:=t) (i:=i) hi;have H:=Rb (B:=A) (t:=t);generalize A++(t.map λr=>O.lst (r.map W.int))++[O.lst ((List.range t.length).map λi=>W.ref (A.length+i))]=b at M X a H;have K:zi Zr (qj (zN 1 [] (z9 zl) (zC 0) zS (zK (qj (zX zl))))) (zJ zh) [rO r,none] A=.ok (.ref (b.length+1)) (b++[.lst []]++[.lst (t.flatten.map W.int)]):=by
  refine(zG M (jl qa)).trans ?_;have o:=SN (A:=b++[.lst []]) (kws:=(List.range t.length).map λi=>(A.length+i,(t.getD i []).map W.int)) (λp S=>by
   obtain⟨i,hi,rfl⟩:=cq.mp S;exact qR (a i (cw.mp hi)))
  rw[aU,aU]at o;have C:((λp:Nat×List W=>W.ref p.1) ∘ λi=>(A.length+i,(t.getD i []).map W.int))=λi=>W.ref (A.length+i):=rfl;have y:((λp:Nat×List W=>p.2) ∘ λi=>(A.length+i,(t.getD i []).map W.int))=λi=>(t.getD i []).map W.int:=rfl;rw[C,y,<- JG t [] λr=>r.map W.int]at o;have hf:(t.map λr=>r.map W.int).flatten=t.flatten.map W.int:=by rw[List.map_flatten]
  unfold Zr;dsimp only;rw[qR H,qc];dsimp only;rw[o];dsimp only;rw[ah ⟨λz=>(by have:=congrArg List.length z;rw[ag,a5]at this;exact absurd this (by rw[bg];omega)),by rw[hf,ag];unfold zR;omega⟩,hf]
  simp
 have x2:Ext A (b++[.lst []]++[.lst (t.flatten.map W.int)]):=X.app.app;have f:(b++[.lst []]++[.lst (t.flatten.map W.int)])[b.length+1]? =some (.lst (t.flatten.map W.int)):=by
  have:b.length+1=(b++[O.lst []]).length:=by simp
  rw[this,qc]
 generalize b++[.lst []]++[.lst (t.flatten.map W.int)]=c at K x2 f;have J:Ki (zi Zr (qj (zN 1 [] (z9 zl) (zC 0) zS (zK (qj (zX zl))))) (zJ zh)) [rO r,none] A=.ok (.ref c.length) (c++[.lst (((dist t).map λ(i:Nat)=>(i:Int)).map W.int)]):=by
  unfold Ki;rw[K,zA];unfold GY;dsimp only;rw[f];dsimp only;rw[wx];dsimp only;rw[GP s];dsimp only
  have:((List.range 8).filter λi=>decide (i∈t.flatten.map Int.toNat))=dist t:=by
   unfold dist
   apply List.filter_congr
   intro i _;rw[decide_eq_decide]
   constructor
   ·intro z
    obtain⟨v,h,rfl⟩:=cq.mp z;rw[bK (s v h).1];exact h
   ·intro z
    exact cq.mpr ⟨_,z,rfl⟩
  rw[this,aU]
  rfl
 have x3:=x2.app (l:=[.lst (((dist t).map λ(i:Nat)=>(i:Int)).map W.int)]);have d:(c++[.lst (((dist t).map λ(i:Nat)=>(i:Int)).map W.int)])[c.length]? =some (.lst (((dist t).map λ(i:Nat)=>(i:Int)).map W.int)):=qc;generalize c++[.lst (((dist t).map λ(i:Nat)=>(i:Int)).map W.int)]=n at J x3 d;obtain⟨ks,k0,E,e⟩:=LL.mono x3 L;refine⟨n,qy ((zE ((qC J).trans rfl)).trans (qd (qA ?_))),x3⟩;have idx:∀v,v∈t.flatten->gI (.ref c.length) (.int v) n=.ok (.int (wd t v)) n:=λv h=>by
  obtain⟨u,rfl⟩:=bb (s v h).1;have hm:u∈dist t:=JQ.mpr ⟨by have:=s _ h;omega,h⟩
  unfold gI;rw[Yb d];show(match gN (λz=>PyData.eqv z (.int u)) (((dist t).map λ(i:Nat)=>(i:Int)).map PyData.int) with|some j=>if j<1000000 then R.ok (W.int j) n else .bad|none=>.bad)=_
  have:((dist t).map λ(i:Nat)=>(i:Int)).map PyData.int=(dist t).map λ(i:Nat)=>PyData.int i:=by rw[aU];rfl
  rw[this,RR u hm];dsimp only;have o:(dist t).idxOf u<(dist t).length:=List.idxOf_lt_length_of_mem hm;have T:(dist t).length<=8:=by unfold dist;exact a3 (length_filter_le _ _) (by simp)
  rw[ah (by omega)]
  rfl
 have Y:=ZN (cap:=[1]) (me:=mQ yg (zN 1 [1] (z9 zl) (zC 0) zS (zK (yk gI zm zl)))) (ρ:=[rO r,rO c.length]) (A:=n) (N:=t.length) (item:=λi=>.ref (ks.getD i 0)) (g:=λi=>qg ((t.getD i []).map (wd t))) (ZT (zj (i:=0) rfl) k0) (by simp[E]) (by unfold zR;omega)
  (λj q=>(gG k0).trans (by rw[ax,ae,aa (by omega)];rfl)) ((gG k0).trans (by rw[aH (by simp[E])]))
  (λj q=>by
   have:=G4 (cap:=[1]) (m:=qf 0) (me:=yk gI zm zl) (ρ:=[rO (ks.getD j 0),rO c.length]) (g:=NL (wd t)) (zj rfl) (e j q) (by rw[ag,D _ (km q)];unfold zR;omega) (λw hw=>by
    obtain⟨v,h,rfl⟩:=cq.mp hw;exact(G0 (g:=gI) (zj rfl) d (zj (i:=0) rfl)).trans (idx v (List.mem_flatten.mpr ⟨_,km q,h⟩)))
   rw[By]at this;exact Jk this)
 refine(Jk Y).trans ?_;unfold zt yj;rw[aU,JG t [] (qg ∘ λr=>r.map (wd t))]
 rfl
def FG (h1:1<=t.length)(N:t.length<=8)(o:Sq t)(U:∀a b,a<t.length->b<t.length->(at2 t a b=0↔a=b))(X:∀a b,a<t.length->b<t.length->at2 t a b=at2 t b a)
  (S:∀a b,a<t.length->b<t.length->0<=at2 t a b/\at2 t a b<(t.length:Int)):qm (yj t):=by
 have w:∀v∈t.flatten,0<=v/\v<(t.length:Int):=λv n=>by
  obtain⟨a,b,f,w,rfl⟩:=ZQ o n;exact S a b f w
 have P:(yj t).length=t.length:=by unfold yj;rw[ag]
 have q:∀r∈yj t,r.length=t.length:=λr g=>by
  obtain⟨s,E,rfl⟩:=cq.mp g;rw[ag];exact o s E
 have j:∀a b,a<t.length->b<t.length->at2 (yj t) a b=wd t (at2 t a b):=λa b f w=>by
  have z:=o _ (km f);unfold at2 yj;rw[ae (l:=t.map _),ax,aa f];have e:t.getD a []=t[a]:=by rw[ae,aa f];rfl
  rw[e]at z ⊢;show(t[a].map (wd t)).getD b 0=_;rw[ae,ax,ae,aa (by omega)]
  rfl
 have mem:∀a b,a<t.length->b<t.length->(at2 t a b).toNat∈dist t:=λa b f H=>by
  obtain⟨_,_,_,x⟩:=JY o f H
  have:=w _ x
  rw[JQ,bK this.1];exact⟨by omega,x⟩
 have Q:=HM t;have dl:(dist t).length<=t.length:=by
  have:=J6 t.length ((dist t).map λ(i:Nat)=>(i:Int)) (by
   rw[List.nodup_iff_pairwise_ne,bM];exact Q.imp λh=>by omega) (λr g=>by
   obtain⟨i,Y,rfl⟩:=cq.mp g
   have:=w _ (JQ.mp Y).2
   exact this)
  rw[ag]at this;exact this
 have Z:(0:Nat)∈dist t:=by
  have:=mem 0 0 (by omega) (by omega)
  rw[(U 0 0 (by omega) (by omega)).mpr rfl]at this
  exact this
 have d0:∃l,dist t=0::l:=by
  have g:List.range 8=0::[1,2,3,4,5,6,7]:=by decide
  have D:=(JQ.mp Z).2;refine⟨[1,2,3,4,5,6,7].filter λi=>decide ((i:Int)∈t.flatten),?_⟩;unfold dist;rw[g,List.filter_cons_of_pos (by exact aE D)]
 obtain⟨M,u⟩:=d0;have y:∀a b,a<t.length->b<t.length->0<=wd t (at2 t a b)/\wd t (at2 t a b)<(t.length:Int):=λa b f H=>by
  have:=List.idxOf_lt_length_of_mem (mem a b f H)
  unfold wd;omega
 refine⟨by omega,by omega,λr g=>by rw[P];exact q r g,λr g v n=>?_,λa b f H=>?_,λa b f H=>?_,λk C=>?_⟩
 ·have:v∈(yj t).flatten:=List.mem_flatten.mpr ⟨r,g,n⟩
  obtain⟨a,b,f,H,e⟩:=ZQ (λr g=>by rw[P];exact q r g) this
  rw[P]at f H ⊢;rw[<- e,j a b f H];exact y a b f H
 ·rw[P]at f H
  rw[j a b f H,<- U a b f H];unfold wd;have m:=mem a b f H;have n:=S a b f H
  constructor
  ·intro e
   have L:(dist t).idxOf (at2 t a b).toNat=0:=by omega
   have A:=List.idxOf_lt_length_of_mem m
   have:=List.getElem_idxOf A
   have T:(dist t)[(dist t).idxOf (at2 t a b).toNat]? =some (at2 t a b).toNat:=by rw[aa A,this]
   rw[L,u]at T;simp at T;omega
  ·intro e
   rw[e,u];simp
 ·rw[P]at f H
  rw[j a b f H,j b a H f,X a b f H]
 ·obtain⟨v,n,C⟩:=C
  obtain⟨a,b,f,H,e⟩:=ZQ (λr g=>by rw[P];exact q r g) n
  rw[P]at f H;rw[j a b f H]at e;have A:=List.idxOf_lt_length_of_mem (mem a b f H);have p:k<(dist t).length:=by unfold wd at e;omega
  have hd:=JQ.mp (aN p);obtain⟨c,d,I,B,K⟩:=ZQ o hd.2;have J:at2 (yj t) c d=(k:Int):=by
   rw[j c d I B,K];unfold wd;rw[aP,Q.idxOf_getElem k p]
  obtain⟨_,_,_,x⟩:=JY (t:=yj t) (λr g=>by rw[P];exact q r g) (by omega:c<(yj t).length) (by omega:d<(yj t).length)
  rw[J]at x;exact x
end
noncomputable def kh:Nat->List (bR)
 |0=>[[0,1,2,3,4,3,2,1],[1,0,1,2,3,4,3,2],[2,1,0,1,2,3,4,3],[3,2,1,0,1,2,3,4],[4,3,2,1,0,1,2,3],[3,4,3,2,1,0,1,2],[2,3,4,3,2,1,0,1],[1,2,3,4,3,2,1,0]]|1=>[[0,1,2,3,3,2,1],[1,0,1,2,3,3,2],[2,1,0,1,2,3,3],[3,2,1,0,1,2,3],[3,3,2,1,0,1,2],[2,3,3,2,1,0,1],[1,2,3,3,2,1,0]]|2=>[[0,1,2,3,2,1],[1,0,1,2,3,2],[2,1,0,1,2,3],[3,2,1,0,1,2],[2,3,2,1,0,1],[1,2,3,2,1,0]]|3=>[[0,1,2,2,1],[1,0,1,2,2],[2,1,0,1,2],[2,2,1,0,1],[1,2,2,1,0]]|4=>[[0,1,2,1],[1,0,1,2],[2,1,0,1],[1,2,1,0]]|5=>[[0,1,1],[1,0,1],[1,1,0]]|6=>[[0,1],[1,0]]|7=>[[0]]|8=>[[0,1,1,2,1,2,2,3],[1,0,2,1,2,1,3,2],[1,2,0,1,2,3,1,2],[2,1,1,0,3,2,2,1],[1,2,2,3,0,1,1,2],[2,1,3,2,1,0,2,1],[2,3,1,2,1,2,0,1],[3,2,2,1,2,1,1,0]]|9=>[[0,1,1,2],[1,0,2,1],[1,2,0,1],[2,1,1,0]]|10=>[[0,1],[1,0]]|11=>[[0,1,1,1,1,1,1,1],[1,0,1,1,1,1,1,1],[1,1,0,1,1,1,1,1],[1,1,1,0,1,1,1,1],[1,1,1,1,0,1,1,1],[1,1,1,1,1,0,1,1],[1,1,1,1,1,1,0,1],[1,1,1,1,1,1,1,0]]|12=>[[0,1,1,1,1,1,1],[1,0,1,1,1,1,1],[1,1,0,1,1,1,1],[1,1,1,0,1,1,1],[1,1,1,1,0,1,1],[1,1,1,1,1,0,1],[1,1,1,1,1,1,0]]|13=>[[0,1,1,1,1,1],[1,0,1,1,1,1],[1,1,0,1,1,1],[1,1,1,0,1,1],[1,1,1,1,0,1],[1,1,1,1,1,0]]|14=>[[0,1,1,1,1],[1,0,1,1,1],[1,1,0,1,1],[1,1,1,0,1],[1,1,1,1,0]]|15=>[[0,1,1,1],[1,0,1,1],[1,1,0,1],[1,1,1,0]]|16=>[[0,1,1],[1,0,1],[1,1,0]]|17=>[[0,1],[1,0]]|18=>[[0]]|19=>[[0,1,2,2,2,2,2,2],[1,0,2,2,2,2,2,2],[2,2,0,1,2,2,2,2],[2,2,1,0,2,2,2,2],[2,2,2,2,0,1,2,2],[2,2,2,2,1,0,2,2],[2,2,2,2,2,2,0,1],[2,2,2,2,2,2,1,0]]|20=>[[0,1,1,1,2,2,2,2],[1,0,1,1,2,2,2,2],[1,1,0,1,2,2,2,2],[1,1,1,0,2,2,2,2],[2,2,2,2,0,1,1,1],[2,2,2,2,1,0,1,1],[2,2,2,2,1,1,0,1],[2,2,2,2,1,1,1,0]]|21=>[[0,1,2,2,2,2],[1,0,2,2,2,2],[2,2,0,1,2,2],[2,2,1,0,2,2],[2,2,2,2,0,1],[2,2,2,2,1,0]]|22=>[[0,1,1,2,2,2],[1,0,1,2,2,2],[1,1,0,2,2,2],[2,2,2,0,1,1],[2,2,2,1,0,1],[2,2,2,1,1,0]]|23=>[[0,1,2,2],[1,0,2,2],[2,2,0,1],[2,2,1,0]]|24=>[[0,1,1,1,1,2],[1,0,1,1,2,1],[1,1,0,2,1,1],[1,1,2,0,1,1],[1,2,1,1,0,1],[2,1,1,1,1,0]]|25=>[[0,1,2,3],[1,0,3,2],[2,3,0,1],[3,2,1,0]]|26=>[[0,1,2,3,4,5,6,7],[1,0,3,2,5,4,7,6],[2,3,0,1,6,7,4,5],[3,2,1,0,7,6,5,4],[4,5,6,7,0,1,2,3],[5,4,7,6,1,0,3,2],[6,7,4,5,2,3,0,1],[7,6,5,4,3,2,1,0]]|27=>[[0,1],[1,0]]|28=>[[0,1,2,1,3,4,5,4],[1,0,1,2,4,3,4,5],[2,1,0,1,5,4,3,4],[1,2,1,0,4,5,4,3],[3,4,5,4,0,1,2,1],[4,3,4,5,1,0,1,2],[5,4,3,4,2,1,0,1],[4,5,4,3,1,2,1,0]]|29=>[[0,1,1,3,4,4],[1,0,1,4,3,4],[1,1,0,4,4,3],[3,4,4,0,1,1],[4,3,4,1,0,1],[4,4,3,1,1,0]]|30=>[[0,1,3,4],[1,0,4,3],[3,4,0,1],[4,3,1,0]]|31=>[[0,1,2,1,3,3,3,3],[1,0,1,2,3,3,3,3],[2,1,0,1,3,3,3,3],[1,2,1,0,3,3,3,3],[3,3,3,3,0,1,2,1],[3,3,3,3,1,0,1,2],[3,3,3,3,2,1,0,1],[3,3,3,3,1,2,1,0]]|32=>[[0,1,1,3,3,3],[1,0,1,3,3,3],[1,1,0,3,3,3],[3,3,3,0,1,1],[3,3,3,1,0,1],[3,3,3,1,1,0]]|33=>[[0,1,3,3],[1,0,3,3],[3,3,0,1],[3,3,1,0]]|_=>[]
def iU:((List.range 34).all λi=>VR (yj (kh i))&&((kh i).all λr=>r.length==(kh i).length)&&((kh i).flatten.all λv=>decide (0<=v)&&decide (v<8)))=true:=by decide +kernel
def Au (h:i<34):qm (yj (kh i))/\G.Sq (kh i)/\∀v∈(kh i).flatten,0<=v/\v<8:=by
 have:=cy.mp iU i (cw.mpr h)
 rw[av,av]at this;refine⟨AF this.1.1,λr a=>?_,λv H=>?_⟩
 ·exact eq_of_beq (cy.mp this.1.2 r a)
 ·have:=cy.mp this.2 v H
  rw[av,ao,ao]at this;exact this
theorem Px:∀{u:List W}{w:List (List W)},wA A u=some w->∃ks:bV,u=ks.map W.ref/\ks.length=w.length/\∀i,i<w.length->A[ks.getD i 0]? =some (.lst (w.getD i []))
 |[],w,e=>by
  cases e;exact⟨[],rfl,rfl,λi b=>by cases b⟩
 |.ref k::u,w,e=>by
  unfold wA at e;cases h:A[k]? with
  |none=>rw[h]at e;cases e|some o=>
   rw[h]at e;cases o with
   |lst s=>
    dsimp only at e;cases H:wA A u with
    |none=>rw[H]at e;cases e|some v=>
     rw[H]at e;cases e;obtain⟨ks,rfl,l,a⟩:=Px H;refine⟨k::ks,rfl,by simp[l],λi b=>?_⟩
     cases i with
     |zero=>exact h|succ i=>exact a i (by simpa using b)
   |_=>cases e
 |.non::_,_,e=>by cases e|.bl _::_,_,e=>by cases e|.int _::_,_,e=>by cases e|.str _::_,_,e=>by cases e|.tup _::_,_,e=>by cases e|.clo _ _ _::_,_,e=>by cases e|.xc _::_,_,e=>by cases e
def VH (x:R Fl):Option (Option O×Option (List (List W))):=match x with
 |.ok (.rt (.ref r)) B=>some (B[0]?,match B[r]? with
  |some (.lst us)=>wA B us|_=>none)
 |_=>none
def BC {x:R Fl}(h:VH x=some (some o,some (t.map λr=>r.map W.int))):∃r B,x=.ok (.rt (.ref r)) B/\B[0]? =some o/\LL t r B:=by
 unfold VH at h
 split at h
 ·rename_i r B
  injection h with h
  injection h with e H
  cases a:B[r]? with
  |none=>rw[a]at H;cases H|some d=>
   rw[a]at H;cases d with
   |lst u=>
    dsimp only at H;obtain⟨K,rfl,l,b⟩:=Px H;rw[ag]at l b;refine⟨r,B,rfl,e,K,a,l,λi c=>(b i c).trans ?_⟩;rw[ae,ax,ae,aa c]
    rfl
   |_=>cases H
 ·cases h
def Plain (X:Ex)(a:En)(A:Hx):Prop:=∃i,i<34/\∃r B,X a A=.ok (.rt (.ref r)) B/\qH 0 B/\LL (kh i) r B
section
variable {m1 m2:Ex}{ρ1:En}{L:Hx}{c:Ev}
def wC (h:m1 ρ A=.ok (.nx ρ1) A1)(q:Plain m2 ρ1 A1):Plain (zo m1 m2) ρ A:=by
 unfold Plain;rw[zE h];exact q
def Jp (q:Plain m1 ρ A):Plain (zo m1 m2) ρ A:=by
 obtain⟨i,h,r,B,e,s,l⟩:=q;exact⟨i,h,r,B,qd e,s,l⟩
def JA (h:c ρ A=.ok (.bl true) A1)(q:Plain m1 ρ A1):Plain (qu c m1 m2) ρ A:=by
 unfold Plain;rw[yx h];exact q
def jJ {m:Ex}(h:c ρ A=.ok (.bl false) A)(q:Plain m ρ A):Plain (zo (qu c m1 zx) m) ρ A:=wC ((jC h).trans jw) q
def iW {l:Hx}(s:qH 0 (o::L)):qH 0 (o::l):=s
def jg (i:Nat)(H:i<34)(s:qH 0 (o::L))(h:VH (m1 ρ A)=some (some o,some ((kh i).map λr=>r.map W.int))):Plain m1 ρ A:=by
 obtain⟨r,B,e,d,l⟩:=BC h;obtain⟨c,b,a,q⟩:=s;have E:some o=some (O.lst [.int c,.bl b]):=a;exact⟨i,H,r,B,e,⟨c,b,by rw[d];exact E,q⟩,l⟩
def take1 (s:qH 0 (o::L)){m:Int}(H:0<m)(h:m<1000000000000000):∃(r:Nat) (c:O),jL [.ref 0,.int m] (o::L)=.ok (.int r) (c::L)/\(r:Int)<m/\qH 0 (c::L):=by
 obtain⟨r,c,e,a,b,S⟩:=PQ s H h;exact⟨r.toNat,c,by rw[e,bK a];rfl,by omega,S⟩
def Jc {a:Ea}{vs:List W}{k:Nat}(s:qH 0 (o::L))(g:ρ[0]? =some (rO 0))(b:∀A,a ρ A=.ok vs A)(d:vs.length=k)(i:0<k)(K:k<1000):∃(j:Nat) (w:W) (f:O),zi zH (zJ a) (zw jL (zc zl (zc (zZ (.int k)) zh))) ρ (o::L)=.ok w (f::(L++[.lst vs]))/\j<k/\vs[j]? =some w/\qH 0 (f::(L++[.lst vs])):=by
 obtain⟨r,f,e,c,S⟩:=take1 (L:=L++[.lst vs]) (m:=(k:Int)) (iW s) (by omega) (by omega)
 have h:r<vs.length:=by omega
 refine⟨r,vs[r],f,?_,by omega,aa h,S⟩
 refine(zG (jl (b _)) ((ql (zP (zj g) (zP qe qa))).trans e)).trans ?_;have H:(f::(L++[O.lst vs]))[(o::L).length]? =some (.lst vs):=by
  show(L++[O.lst vs])[L.length]? =_;exact qc
 exact yY H (aa h)
end
def three (h:j<3):j=0∨j=1∨j=2:=by omega
def VJ (h:j<5):j=0∨j=1∨j=2∨j=3∨j=4:=by omega
def Vx (h:j<8):j=0∨j=1∨j=2∨j=3∨j=4∨j=5∨j=6∨j=7:=by omega
def CO (s:qH 0 [o]):Plain (Gr jL) [rO 0,none,none,none,none,none,none,none,none,none,none] [o]:=by
 unfold Gr;obtain⟨t,p,n,v,u⟩:=take1 s (m:=8) (by decide) (by decide)
 refine wC (ρ1:=[rO 0,iV t,none,none,none,none,none,none,none,none,none]) (A1:=[p]) ((qC ((ql (ws:=[.ref 0,.int 8]) (A1:=[o]) rfl).trans n)).trans rfl) ?_;obtain⟨j,w,c,E,l,f,S⟩:=Jc (k:=8) (ρ:=[rO 0,iV t,none,none,none,none,none,none,none,none,none]) (a:=zc gq (zc WG (zc VY (zc g9 (zc kT (zc jc (zc qz (zc zu zh)))))))) (vs:=[.int 8,.int 7,.int 6,.int 5,.int 4,.int 3,.int 2,.int 1]) u rfl (λ_=>rfl) rfl (by decide) (by decide)
 refine wC (ρ1:=[rO 0,iV t,some w,none,none,none,none,none,none,none,none]) (A1:=[c,.lst [.int 8,.int 7,.int 6,.int 5,.int 4,.int 3,.int 2,.int 1]]) ((qC E).trans rfl) ?_;have y:t<8:=by omega
 clear n E v s u;rcases Vx y with rfl|rfl|rfl|rfl|rfl|rfl|rfl|rfl
 ·refine Jp (JA (A1:=[c,.lst [.int 8,.int 7,.int 6,.int 5,.int 4,.int 3,.int 2,.int 1]]) (by kernel_rfl) ?_)
  rcases Vx l with rfl|rfl|rfl|rfl|rfl|rfl|rfl|rfl<;>cases f
  ·exact jg 0 (by decide) S (by kernel_rfl)
  ·exact jg 1 (by decide) S (by kernel_rfl)
  ·exact jg 2 (by decide) S (by kernel_rfl)
  ·exact jg 3 (by decide) S (by kernel_rfl)
  ·exact jg 4 (by decide) S (by kernel_rfl)
  ·exact jg 5 (by decide) S (by kernel_rfl)
  ·exact jg 6 (by decide) S (by kernel_rfl)
  ·exact jg 7 (by decide) S (by kernel_rfl)
 ·refine jJ (by kernel_rfl) (Jp (JA (A1:=[c,.lst [.int 8,.int 7,.int 6,.int 5,.int 4,.int 3,.int 2,.int 1]]) (by kernel_rfl) ?_))
  obtain⟨J,g,i,e,b,H,q⟩:=Jc (k:=3) (ρ:=[rO 0,iV ((1:Nat):Int),some w,none,none,none,none,none,none,none,none]) (a:=zc gq (zc kT (zc qz zh))) (vs:=[.int 8,.int 4,.int 2]) S rfl (λ_=>rfl) rfl (by decide) (by decide)
  refine wC ((qC e).trans rfl) ?_;rcases three b with rfl|rfl|rfl<;>cases H
  ·exact jg 8 (by decide) q (by kernel_rfl)
  ·exact jg 9 (by decide) q (by kernel_rfl)
  ·exact jg 10 (by decide) q (by kernel_rfl)
 ·refine jJ (by kernel_rfl) (jJ (by kernel_rfl) (Jp (JA (A1:=[c,.lst [.int 8,.int 7,.int 6,.int 5,.int 4,.int 3,.int 2,.int 1]]) (by kernel_rfl) ?_)))
  rcases Vx l with rfl|rfl|rfl|rfl|rfl|rfl|rfl|rfl<;>cases f
  ·exact jg 11 (by decide) S (by kernel_rfl)
  ·exact jg 12 (by decide) S (by kernel_rfl)
  ·exact jg 13 (by decide) S (by kernel_rfl)
  ·exact jg 14 (by decide) S (by kernel_rfl)
  ·exact jg 15 (by decide) S (by kernel_rfl)
  ·exact jg 16 (by decide) S (by kernel_rfl)
  ·exact jg 17 (by decide) S (by kernel_rfl)
  ·exact jg 18 (by decide) S (by kernel_rfl)
 ·refine jJ (by kernel_rfl) (jJ (by kernel_rfl) (jJ (by kernel_rfl) (Jp (JA (A1:=[c,.lst [.int 8,.int 7,.int 6,.int 5,.int 4,.int 3,.int 2,.int 1]]) (by kernel_rfl) ?_))))
  obtain⟨J,g,i,e,b,H,q⟩:=Jc (k:=5) (ρ:=[rO 0,iV ((3:Nat):Int),some w,none,none,none,none,none,none,none,none]) (a:=zc (zy (zc qz (zc kT zh))) (zc (zy (zc kT (zc qz zh))) (zc (zy (zc qz (zc jc zh))) (zc (zy (zc jc (zc qz zh))) (zc (zy (zc qz (zc qz zh))) zh))))) (vs:=[.tup [.int 2,.int 4],.tup [.int 4,.int 2],.tup [.int 2,.int 3],.tup [.int 3,.int 2],.tup [.int 2,.int 2]]) S rfl (λ_=>rfl) rfl (by decide) (by decide)
  have r:∀{m:Ev}{tw:Tg}{ρ d:En}{A A1:Hx}{w:W},m ρ A=.ok w A1->tw w ρ=some d->Wq m tw ρ A=.ok (.nx d) A1:=λh x=>by
   unfold Wq;rw[h,zA,x]
  rcases VJ b with rfl|rfl|rfl|rfl|rfl<;>cases H
  ·exact wC (r e rfl) (jg 19 (by decide) q (by kernel_rfl))
  ·exact wC (r e rfl) (jg 20 (by decide) q (by kernel_rfl))
  ·exact wC (r e rfl) (jg 21 (by decide) q (by kernel_rfl))
  ·exact wC (r e rfl) (jg 22 (by decide) q (by kernel_rfl))
  ·exact wC (r e rfl) (jg 23 (by decide) q (by kernel_rfl))
 ·exact jJ (by kernel_rfl) (jJ (by kernel_rfl) (jJ (by kernel_rfl) (jJ (by kernel_rfl) (Jp (JA (A1:=[c,.lst [.int 8,.int 7,.int 6,.int 5,.int 4,.int 3,.int 2,.int 1]]) (by kernel_rfl) (jg 24 (by decide) S (by kernel_rfl)))))))
 ·refine jJ (by kernel_rfl) (jJ (by kernel_rfl) (jJ (by kernel_rfl) (jJ (by kernel_rfl) (jJ (by kernel_rfl) (Jp (JA (A1:=[c,.lst [.int 8,.int 7,.int 6,.int 5,.int 4,.int 3,.int 2,.int 1]]) (by kernel_rfl) ?_))))))
  obtain⟨J,g,i,e,b,H,q⟩:=Jc (k:=3) (ρ:=[rO 0,iV ((5:Nat):Int),some w,none,none,none,none,none,none,none,none]) (a:=zc kT (zc gq (zc qz zh))) (vs:=[.int 4,.int 8,.int 2]) S rfl (λ_=>rfl) rfl (by decide) (by decide)
  refine wC ((qC e).trans rfl) ?_;rcases three b with rfl|rfl|rfl<;>cases H
  ·exact jg 25 (by decide) q (by kernel_rfl)
  ·exact jg 26 (by decide) q (by kernel_rfl)
  ·exact jg 27 (by decide) q (by kernel_rfl)
 ·refine jJ (by kernel_rfl) (jJ (by kernel_rfl) (jJ (by kernel_rfl) (jJ (by kernel_rfl) (jJ (by kernel_rfl) (jJ (by kernel_rfl) ?_)))))
  obtain⟨J,g,i,e,b,H,q⟩:=Jc (k:=3) (ρ:=[rO 0,iV ((6:Nat):Int),some w,none,none,none,none,none,none,none,none]) (a:=zc kT (zc jc (zc qz zh))) (vs:=[.int 4,.int 3,.int 2]) S rfl (λ_=>rfl) rfl (by decide) (by decide)
  refine wC ((qC e).trans rfl) ?_;rcases three b with rfl|rfl|rfl<;>cases H
  ·exact jg 28 (by decide) q (by kernel_rfl)
  ·exact jg 29 (by decide) q (by kernel_rfl)
  ·exact jg 30 (by decide) q (by kernel_rfl)
 ·refine jJ (by kernel_rfl) (jJ (by kernel_rfl) (jJ (by kernel_rfl) (jJ (by kernel_rfl) (jJ (by kernel_rfl) (jJ (by kernel_rfl) ?_)))))
  obtain⟨J,g,i,e,b,H,q⟩:=Jc (k:=3) (ρ:=[rO 0,iV ((7:Nat):Int),some w,none,none,none,none,none,none,none,none]) (a:=zc kT (zc jc (zc qz zh))) (vs:=[.int 4,.int 3,.int 2]) S rfl (λ_=>rfl) rfl (by decide) (by decide)
  refine wC ((qC e).trans rfl) ?_;rcases three b with rfl|rfl|rfl<;>cases H
  ·exact jg 31 (by decide) q (by kernel_rfl)
  ·exact jg 32 (by decide) q (by kernel_rfl)
  ·exact jg 33 (by decide) q (by kernel_rfl)
def C8 (s:qH 0 [o]):∃i,i<34/\∃r B,YV [.ref 0] [o]=.ok (.ref r) B/\qH 0 B/\LL (kh i) r B:=by
 obtain⟨i,h,r,B,e,q⟩:=CO s;refine⟨i,h,r,B,?_,q⟩;unfold YV U3;exact qy e
noncomputable def V0 (g:Nat->W):W->W
 |.int v=>g v.toNat|w=>w
def R8 (g:Nat->W)(o:bV):((o.map λ(a:Nat)=>(a:Int)).map W.int).map (V0 g)=o.map g:=by
 rw[aU,aU]
 apply bf
 intro a _;show g (Int.toNat (a:Int))=g a;rw[aP]
def RC {f:bR}{M:Nat}{s:Int}(h:f.Perm ((List.range M).map λ(k:Nat)=>s+(k:Int))):∃p:bV,f=p.map (λ(k:Nat)=>s+(k:Int))/\p.Perm (List.range M):=by
 refine⟨f.map λv=>(v-s).toNat,?_,?_⟩
 ·rw[aU]
  conv=>lhs;rw[<- map_id f]
  apply bf
  intro v H;obtain⟨k,_,rfl⟩:=cq.mp (h.mem_iff.mp H);show s+(k:Int)=s+(((s+(k:Int)-s).toNat:Nat):Int);omega
 ·have:=h.map λv=>(v-s).toNat
  rw[aU]at this;have e:(List.range M).map ((λv:Int=>(v-s).toNat) ∘ λ(k:Nat)=>s+(k:Int))=List.range M:=by
   conv=>rhs;rw[<- map_id (List.range M)]
   apply bf
   intro k _;show(s+(k:Int)-s).toNat=k;omega
  rw[e]at this;exact this
section
def Xn (h:qm t)(a:ρ[i]? =some (some (zt t))):mQ j4 (zN 1 [] (z9 (qf i)) (zC 0) zS (zK (mQ j4 (zX zl)))) ρ A=.ok (.int (qx t-1)) A:=by
 have n:=h.n8;have e:=EU (cap:=[]) (A:=A) (ρ:=ρ) (o:=t) (f:=qg) (m:=qf i) (me:=mQ j4 (zX zl)) (G:=λr=>.int (ka r)) (zj a) (by unfold zR;omega) (λr H=>(jF (j3 (w:=qg r) (ws:=r.map W.int) (A1:=A) (zj rfl) rfl)).trans (RS (h.row_ne H)))
 have E:(t.map λr=>W.int (ka r))=(t.map ka).map W.int:=by rw[aU];rfl
 rw[E]at e;refine((jF e).trans (RS h.map_ne)).trans ?_
 have:qx t-1=ka (t.map ka):=by unfold qx;omega
 rw[this]
def GH {ma mb:Ev}{M:Nat}(H:ma ρ A=.ok (.int 1) A)(h:mb ρ A=.ok (.int (1+(M:Int))) A)(a:M<=100):wX ma mb ρ A=.ok (.ref A.length) (A++[.lst (((List.range M).map λ(k:Nat)=>1+(k:Int)).map W.int)]):=by
 unfold wX;rw[H,zA,h,zA];dsimp only;have e:(1+(M:Int)-1).toNat=M:=by omega
 rw[ah (by
  have S:jt 1=true:=by decide
  have s:jt (1+(M:Int))=true:=by unfold jt;simp;omega
  rw[S,s,e,aE (by unfold zR;omega)];rfl),e,aU]
 rfl
def Known (t:bQ):Prop:=∃i p o,i<34/\p.Perm (List.range (qx (yj (kh i))-1).toNat)/\o.Perm (List.range (yj (kh i)).length)/\t=Z3 (yj (kh i)) p o
def C7 (s:qH 0 [o]):∃t B,Gj [.ref 0] [o]=.ok (zt t) B/\qH 0 B/\qm t/\Known t:=by
 obtain⟨i,hi,r,B0,e0,s0,Y⟩:=C8 s;obtain⟨tt,sq,q⟩:=Au hi;have hlen:(yj (kh i)).length=(kh i).length:=by unfold yj;rw[ag]
 have m1:=tt.n1;have m8:=tt.n8;obtain⟨B1,e1,x1⟩:=Pz (by omega) (by omega) sq q Y
 have s1:=s0.ext x1;generalize K:yj (kh i)=u at*;clear hlen Y;have n1:=tt.n1;have n8:=tt.n8;have kb:=wF tt;obtain⟨M,hM⟩:=bb (show 0<=qx u-1 by omega)
 have el:=iN (ws:=u.map qg) (ρ:=[rO 0,some (zt u),none,none]) (i:=1) (A:=B1) rfl;rw[ag]at el;have e2:=Eo el (by omega)
 have S:iL (List.range u.length)=((List.range u.length).map λ(a:Nat)=>0+(a:Int)).map W.int:=by
  rw[aU]
  apply bf
  intro a _;show W.int a=W.int (0+(a:Int));rw[zero_add]
 rw[S]at e2;have s2:=s1.ext (Ext.one (o:=.lst (((List.range u.length).map λ(a:Nat)=>0+(a:Int)).map W.int)));obtain⟨j,h,fd,e3,U,p2,k2,N⟩:=R5 s2 qc (by simp;omega)
 obtain⟨d,rfl,po⟩:=RC p2;have Q:(d.map λ(k:Nat)=>(0:Int)+(k:Int))=d.map λ(k:Nat)=>(k:Int):=bf λa _=>by omega
 rw[Q]at U;have X:zw Q3 (zc zl (zc (JZ (mQ qw (zX zm))) zh)) [rO 0,some (zt u),none,none] B1=.ok (.ref j) h:=(ql (zP (zj (i:=0) rfl) (zP e2 qa))).trans e3;have hr20:0<j:=by have:=s1.lt;simp at N;omega
 have e4:zJ (zc zD zh) [rO 0,some (zt u),rO j,none] h=.ok (.ref h.length) (h++[.lst [.int 0]]):=jl (zP qe qa);have s3:=k2.st.ext (Ext.one (o:=.lst [.int 0]));have C:=qR (u:=.lst [.int 0]) U;have Z:(h++[.lst [.int 0]])[h.length]? =some (.lst [.int 0]):=qc;have h2l:=kU U;have hB2:0<h.length:=by omega
 generalize h++[.lst [.int 0]]=B3 at e4 s3 C Z;have D:=Xn tt (ρ:=[rO 0,some (zt u),rO j,none]) (i:=1) (A:=B3) rfl;rw[hM]at D;have e5:=GH (ρ:=[rO 0,some (zt u),rO j,none]) (A:=B3) (M:=M) (ma:=zZ (.int 1)) (mb:=zi zL zu (mQ j4 (zN 1 [] (z9 zm) (zC 0) zS (zK (mQ j4 (zX zl)))))) qe ((zG qe D).trans rfl) (by omega)
 have s4:=s3.ext (Ext.one (o:=.lst (((List.range M).map λ(k:Nat)=>1+(k:Int)).map W.int)));obtain⟨r3,f,fd3,e6,h3,p3,k3,nw3⟩:=R5 s4 qc (by simp;omega)
 obtain⟨P,rfl,pp⟩:=RC p3;have z:=k3.kp.get (qR C) (by omega)
 have J:=k3.kp.get (qR Z) (by omega)
 have E:zi zL (zJ (zc zD zh)) (zw Q3 (zc zl (zc (wX zu (zi zL zu (mQ j4 (zN 1 [] (z9 zm) (zC 0) zS (zK (mQ j4 (zX zl))))))) zh))) [rO 0,some (zt u),rO j,none] h=.ok (.ref f.length) (f++[.lst ((jY P).map W.int)]):=by
  refine(zG e4 ((ql (zP (zj (i:=0) rfl) (zP e5 qa))).trans e6)).trans ((gB J h3 ?_).trans rfl)
  have:=pp.length_eq
  rw[a5]at this;rw[ag,ag,this];unfold zR;simp;omega
 have T:=qR (u:=.lst ((jY P).map W.int)) z;have h6:(f++[.lst ((jY P).map W.int)])[f.length]? =some (.lst ((jY P).map W.int)):=qc;have s5:=k3.st.ext (Ext.one (o:=.lst ((jY P).map W.int)));generalize hB5:f++[.lst ((jY P).map W.int)]=c at E T h6 s5;have hol:d.length=u.length:=by rw[po.length_eq,a5]
 have n:∀a∈d,a<u.length:=λa x=>cw.mp (po.mem_iff.mp x);have hpl:P.length=M:=by rw[pp.length_eq,a5]
 have y:(qx u-1).toNat=M:=by omega
 have res:=Ef tt (p:=P) (o:=d) (by rw[y];exact pp) po
 refine⟨Z3 u P d,c,?_,s5,res.1,i,P,d,hi,by rw[K,y];exact pp,by rw[K];exact po,by rw[K]⟩
 unfold Gj;refine qy ?_;unfold UY;refine(zE ((qC ((ql (zP ((ql (zP (zj (i:=0) rfl) qa)).trans e0) qa)).trans e1)).trans rfl)).trans ((zE ((qC X).trans rfl)).trans ((zE ((qC E).trans rfl)).trans (qd (qA ?_))));have inner:∀a,a∈d->∀b,b∈d->zi zH zB (zi zH (zi zH zM zm) zl) [iV b,iV a,some (zt u),rO f.length] c=.ok (.int ((jY P).getD (at2 u a b).toNat 0)) c:=λa x b q=>by
  have L:=n a x;have I:=n b q;have bd:=Ve tt L I;have kg:=KW tt L I;obtain⟨v,H⟩:=bb bd.1;have e:zi zH (zi zH zM zm) zl [iV b,iV a,some (zt u),rO f.length] c=.ok (.int v) c:=by
   rw[<- H];exact(zG ((zG (zj rfl) (zj rfl)).trans (Of L)) (zj rfl)).trans (Od (by rw[tt.sq _ (km L)];exact I))
  have l:v<(jY P).length:=by
   show v<(P.map _).length+1;rw[ag];omega
  refine(zG (zj (i:=3) rfl) e).trans (yY h6 ?_);rw[H,aP,ax,aa l,ae,aa l]
  rfl
 have ec:=G4 (cap:=[1,2,3]) (m:=qf 2) (me:=mQ yg (zN 1 [0,1,3] (z9 zM) (zC 0) zS (zK (zi zH zB (zi zH (zi zH zM zm) zl))))) (ρ:=[rO 0,some (zt u),rO j,rO f.length]) (A:=c) (g:=V0 λa=>qg (d.map λb=>(jY P).getD (at2 u a b).toNat 0)) (zj rfl) T (by simp;unfold zR;omega) (λw hw=>by
  obtain⟨v,H,rfl⟩:=cq.mp hw;obtain⟨a,x,rfl⟩:=cq.mp H;have ei:=G4 (cap:=[0,1,3]) (m:=qf 2) (me:=zi zH zB (zi zH (zi zH zM zm) zl)) (ρ:=[iV a,some (zt u),rO j,rO f.length]) (A:=c) (g:=V0 λb=>.int ((jY P).getD (at2 u a b).toNat 0)) (zj rfl) T (by simp;unfold zR;omega) (λw hw=>by
   obtain⟨v,H,rfl⟩:=cq.mp hw;obtain⟨b,q,rfl⟩:=cq.mp H;refine(inner a x b q).trans ?_;show _=R.ok (W.int ((jY P).getD (at2 u a (Int.toNat (b:Int))).toNat 0)) c;rw[aP])
  rw[R8]at ei;refine(Jk ei).trans ?_;show _=R.ok (qg (d.map λb=>(jY P).getD (at2 u (Int.toNat (a:Int)) b).toNat 0)) c;rw[aP];unfold qg;rw[aU]
  rfl)
 rw[R8]at ec;refine(Jk ec).trans ?_;unfold zt Z3;rw[aU]
 rfl
def C6 (s:qH n A):∃t B,Q8 [.ref n] A=.ok (zt t) B/\qm t/\Known t/\Kn n A B/\B.length=A.length:=by
 obtain⟨c,b,a,f,g⟩:=s;have i:=kU a;obtain⟨t,j,e,⟨C,d,E,h,H⟩,T,kn⟩:=C7 (o:=.lst [.int c,.bl b]) ⟨c,b,rfl,f,g⟩;refine⟨t,A.set n (.lst [.int C,.bl d]),?_,T,kn,⟨Kp.set,C,d,aC i,h,H⟩,a6 ..⟩;unfold Q8;exact Pa a rfl e E (KO t)
end
def FK {c:En}{j:jo}{N:Nat}{u v g:Nat->W}(t:∀i,i<N->j.at_ A i=some (some (.tup [u i,v i])))(H:j.at_ A N=some none)(b:∀i,i<N->me (some (u i)::some (v i)::c) A=.ok (g i) A):
  ∀(f i:Nat)(x y:Option W)(a:List W),i+f=N->a.length+f<=zR->∃ρ,qZ j (yL 0 1) (zZ (.bl true)) (zK me) f i (x::y::c) a A=.ok (ρ,a++(List.range' i f).map g) A:=by
 intro f
 induction f with
 |zero=>
  intro i x y a h l
  have:i=N:=by omega
  subst this;refine⟨x::y::c,?_⟩;unfold qZ;rw[H];simp
 |succ f I=>
  intro i x y a h l;obtain⟨ρ,e⟩:=I (i+1) (some (u i)) (some (v i)) (a++[g i]) (by omega) (by rw[aj,bA];omega)
  refine⟨ρ,?_⟩;rw[qZ,t i (by omega)]
  dsimp only;rw[show yL 0 1 (.tup [u i,v i]) (x::y::c)=some (some (u i)::some (v i)::c) from rfl]
  dsimp only[zZ];rw[zA];dsimp only;have E:zK me (some (u i)::some (v i)::c) a A=.ok (some (u i)::some (v i)::c,a++[g i]) A:=by
   unfold zK;rw[b i (by omega),zA,ah (by omega)]
  rw[E,zA];rw[e,aR,range'_succ,aK]
  rfl
def Hf {j:jo}{N:Nat}{u v g:Nat->W}(f:mi ρ A=.ok j A)(b:j.len=N)(d:N<=1000)(H:∀i,i<N->j.at_ A i=some (some (.tup [u i,v i])))(h:j.at_ A N=some none)
  (l:∀i,i<N->me (some (u i)::some (v i)::cap.map λi=>(ρ[i]?).join) A=.ok (g i) A):zN 2 cap mi (yL 0 1) zS (zK me) ρ A=.ok ((List.range N).map g) A:=by
 obtain⟨a,e⟩:=FK (A:=A) (c:=cap.map λi=>(ρ[i]?).join) H h l N 0 none none [] (by omega) (by unfold zR;simp;omega)
 unfold zN;rw[f,zA,b];show R.bind (R.nox (qZ j _ _ _ N 0 (none::none::cap.map λi=>(ρ[i]?).join) [] A)) _=_;rw[e,<- range_eq_range',nil_append]
 rfl
def ZZ {r:R α}{a:α}(h:r=.ok a A):r.nox=.ok a A:=by rw[h];rfl
def RP {m:Ex}{w:W}(h:m (ws.map some++List.replicate (n-ws.length) none) A=.ok (.rt w) A1):gR n m ws A=.ok w A1:=by unfold gR;rw[h];rfl
def BP {m:Ex}(h:m (ws.map some++List.replicate (n-ws.length) none) A=.ok (.nx ρ) A1):gR n m ws A=.ok .non A1:=by unfold gR;rw[h];rfl
def Je {M a:Ex}(h:M ρ A=.exc x A1):zo M a ρ A=.exc x A1:=by unfold zo;rw[h,Rh]
def Pj {m:Ev}(h:m ρ A=.exc x A1):kH m ρ A=.exc x A1:=by unfold kH;rw[h,Rh]
def Kr {m:Ex}(h:m (ws.map some++List.replicate (n-ws.length) none) A=.exc x A1):gR n m ws A=.exc x A1:=by unfold gR;rw[h];rfl
def Fe {a:Ea}{x y:List W}{r:Nat}{u e:Option W}(H:A[r]? =some (.lst x))(h:a [u,e,none,rO r] A=.ok y A)(l:x.length+y.length<=100):
  zV 3 (zi zL zB (zJ a)) [u,e,none,rO r] A=.ok (.nx [u,e,none,rO (A.length+1)]) (A++[.lst y]++[.lst (x++y)]):=by
 refine(qC ((zG (zj (i:=3) rfl) (jl h)).trans (gB (qR H) qc (by unfold zR;omega)))).trans ?_
 rw[aj,bA]
 rfl
def Km {a:Ea}{xs ys zs:List W}{L:Hx}{u e:Option W}(c:L[j]? =some (.lst xs))(b:∀m A,a [u,e,none,m] A=.ok ys A)(H:xs.length+ys.length<=100)(h:xs++ys=zs):
  zV 3 (zi zL zB (zJ a)) [u,e,none,rO (A.length+j)] (A++L)=.ok (.nx [u,e,none,rO (A.length+(L.length+1))]) (A++(L++[.lst ys,.lst zs])):=by
 have d:(A++L)[A.length+j]? =some (.lst xs):=by rw[ay (by omega),show A.length+j-A.length=j by omega];exact c
 rw[Fe d (b _ _) H,h,aj,aR,aR,Nat.add_assoc]
 rfl
noncomputable def qk (i a n:Nat):List W:=(List.range' a n).map λk=>W.bl (decide (k=i))
end G
namespace Mi
open PySem L2
section
variable {w:W}
def Hl (h:n<1000000):jt (n:Int)=true:=by
 unfold jt;rw[av,ao,ao];omega
def Fs {g:W->Option PyData}{d:PyData}(h:g w=some d)(r:jy g ws=some ds):jy g (w::ws)=some (d::ds):=by
 unfold jy;rw[h,r]
def Pb {k:Nat}{v:Int}(h:A[n]? =some (.lst [.int v])):zO A (k+1) (.ref n)=some (.list [.int v]):=by
 unfold zO;have e:zI (.ref n) A=some [.int v]:=by unfold zI;dsimp only;rw[h]
 rw[e];cases k<;>rfl
def Rg {k:Nat}(h:A[n]? =some (.lst ws))(H:jy (zO A k) ws=some ds):zO A (k+1) (.ref n)=some (.list ds):=by
 unfold zO;have e:zI (.ref n) A=some ws:=by unfold zI;dsimp only;rw[h]
 rw[e];dsimp only;rw[H]
 rfl
def O1 {a b:W}{d:PyData}(c:zO A 8 a=some d)(H:zO A 8 b=some d)(h:PyData.eqv d d=true):qJ a b A=.ok (.bl false) A:=by
 show yN true a b A=_;unfold yN;rw[c,H];dsimp only;rw[ah rfl,h]
 rfl
end
end Mi
namespace G
open PySem L2 Mi
section
def iX (a:A[0]? =some (.ro (ns.map W.int)))(k:Nat):∃x:Int,YT [.ref 0,.int k] A=.ok (.int x) A:=by
 have H:zI (.ref 0) A=some (ns.map W.int):=by unfold zI;dsimp only;rw[a]
 have l:mQ qw (zX zl) [rO 0,iV k] A=.ok (.int ns.length) A:=by
  rw[jF (j3 (w:=.ref 0) (A1:=A) (zj rfl) H)];unfold qw;rw[ag]
 have e:zi YB zm (mQ qw (zX zl)) [rO 0,iV k] A=.ok (.bl (decide ((k:Int)<ns.length))) A:=(zG (zj (w:=.int k) rfl) l).trans rfl
 by_cases h:k<ns.length
 ·refine⟨ns[k],qy ?_⟩
  unfold Ga;rw[aE (by omega)]at e
  refine qd ((yx e).trans (qd (qA ?_)));refine(zG (x:=.ref 0) (y:=.int k) (A1:=A) (A2:=A) (zj rfl) (zj rfl)).trans ?_;unfold zH;rw[H];dsimp only;rw[KJ (v:=.int ns[k]) (by rw[ax,aa h];rfl)]
 ·refine⟨0,qy ?_⟩
  unfold Ga;rw[aD (by omega)]at e
  exact(zE ((jC e).trans rfl)).trans rfl
def A9 (H:A[0]? =some (.ro (ns.map W.int)))(k:Nat):∃o,JI [.ref 0,.int k] A=.ok (.ref A.length) (A++[o])/\qH A.length (A++[o]):=by
 obtain⟨x,e⟩:=iX H k;have a:zV 2 (zw YT (zc zl (zc zm zh))) [rO 0,iV k,none] A=.ok (.nx [rO 0,iV k,iV x]) A:=by
  refine(qC (w:=.int x) (A1:=A) ?_).trans rfl;rw[ql (ws:=[.ref 0,.int k]) (A1:=A) rfl];exact e
 have E:zi V4 zM (zi Wv QQ (zZ (.int 18))) [rO 0,iV k,iV x] A=.ok (.bl (decide ((1000000000000000000:Int)<=x))) A:=(zG (x:=.int x) (y:=.int 1000000000000000000) (A1:=A) (A2:=A) (zj rfl) rfl).trans rfl
 by_cases h:(1000000000000000000:Int)<=x
 ·refine⟨.lst [.int (x-1000000000000000000),.bl true],qy ?_,x-1000000000000000000,true,qc,by omega,λz=>nomatch z⟩
  unfold Gp;rw[aE h]at E;refine(zE a).trans (qd ((yx E).trans (qd (qA (jl ?_)))))
  rfl
 ·refine⟨.lst [.int (x%2147483647),.bl false],qy ?_,x%2147483647,false,qc,emod_nonneg _ (by decide),λ_=>bN _ (by decide)⟩
  unfold Gp;rw[aD h]at E;refine(zE a).trans ((zE ((jC E).trans rfl)).trans (qd (qA (jl ?_))));refine zP (A1:=A) (A2:=A) ((zG (x:=.int x) (y:=.int 2147483647) (A1:=A) (A2:=A) (zj rfl) rfl).trans (Qx (by decide))) rfl
end
def GX (i:Nat):Hx:=[.lst (qk i 0 3),.lst (qk i 3 3),.lst (qk i 0 6),.lst (qk i 6 3),.lst (qk i 0 9),.lst (qk i 9 3),.lst (qk i 0 12),.lst (qk i 12 3),.lst (qk i 0 15),.lst [.int i]]
noncomputable def w9 (x:Str):Option Nat:=if x = "NoTable" then some 0 else if x = "NoParting" then some 9 else none
def TN (h:w9 x=some i):(x = "NoTable" /\ i=0)∨(x = "NoParting" /\ i=9):=by
 unfold w9 at h
 by_cases a:x = "NoTable"
 ·rw[ah a]at h;cases h;exact .inl ⟨a,rfl⟩
 ·rw[ai a]at h
  by_cases H:x = "NoParting"
  ·rw[ah H]at h;cases h;exact .inr (⟨H,rfl⟩)
  ·rw[ai H]at h;cases h
def Dh (a:w9 x=some i)(u:W)(A:Hx):W7 [some u,some (.xc x),none,none] A=.ok (.rt (.ref (A.length+9))) (A++GX i):=by
 have two:=TN a;unfold W7;have d:∀(m:Option W)(A:Hx),(zc (qS (jb qK "NoTable") zm) (zc (qS (jb qK "NotSteady") zm) (zc (qS (jb qK "NoPlace") zm) zh))) [some u,some (.xc x),none,m] A=.ok (qk i 0 3) A:=λm A=>by
  rcases two with ⟨rfl,rfl⟩|⟨rfl,rfl⟩<;>kernel_rfl
 have r:∀(m:Option W)(A:Hx),(zc (qS (jb qK "NoKind") zm) (zc (qS (jb qK "NoMix") zm) (zc (qS (jb qK "NoNumber") zm) zh))) [some u,some (.xc x),none,m] A=.ok (qk i 3 3) A:=λm A=>by
  rcases two with ⟨rfl,rfl⟩|⟨rfl,rfl⟩<;>kernel_rfl
 have q:∀(m:Option W)(A:Hx),(zc (qS (jb qK "NoLot") zm) (zc (qS (jb qK "NoKinds") zm) (zc (qS (jb qK "NoPaper") zm) zh))) [some u,some (.xc x),none,m] A=.ok (qk i 6 3) A:=λm A=>by
  rcases two with ⟨rfl,rfl⟩|⟨rfl,rfl⟩<;>kernel_rfl
 have c:∀(m:Option W)(A:Hx),(zc (qS (jb qK "NoParting") zm) (zc (qS (jb qK "NoClosed") zm) (zc (qS (jb qK "TooMany") zm) zh))) [some u,some (.xc x),none,m] A=.ok (qk i 9 3) A:=λm A=>by
  rcases two with ⟨rfl,rfl⟩|⟨rfl,rfl⟩<;>kernel_rfl
 have b:∀(m:Option W)(A:Hx),(zc (qS (jb qK "NoText") zm) (zc (qS (jb qK "NoLine") zm) (zc (qS (jb qK "NoDeed") zm) zh))) [some u,some (.xc x),none,m] A=.ok (qk i 12 3) A:=λm A=>by
  rcases two with ⟨rfl,rfl⟩|⟨rfl,rfl⟩<;>kernel_rfl
 have p:∀n,qk i 0 n++qk i n 3=qk i 0 (n+3):=λn=>by
  unfold qk;rw[<- aW]
  congr 1
  have:=List.range'_append_1 (s:=0) (m:=n) (n:=3)
  rw[Nat.zero_add]at this;exact this
 have E:zV 3 (zJ (zc (qS (jb qK "NoTable") zm) (zc (qS (jb qK "NotSteady") zm) (zc (qS (jb qK "NoPlace") zm) zh)))) [some u,some (.xc x),none,none] A=.ok (.nx [some u,some (.xc x),none,rO (A.length+0)]) (A++[.lst (qk i 0 3)]):=(qC (jl (d _ A))).trans rfl;refine(zE E).trans ?_;refine(zE (Km (A:=A) (L:=[.lst (qk i 0 3)]) (j:=0) (xs:=qk i 0 3) (ys:=qk i 3 3) (zs:=qk i 0 6) rfl r (by simp[qk]) (p 3))).trans ?_
 refine(zE (Km (A:=A) (L:=[.lst (qk i 0 3),.lst (qk i 3 3),.lst (qk i 0 6)]) (j:=2) (xs:=qk i 0 6) (ys:=qk i 6 3) (zs:=qk i 0 9) rfl q (by simp[qk]) (p 6))).trans ?_
 refine(zE (Km (A:=A) (L:=[.lst (qk i 0 3),.lst (qk i 3 3),.lst (qk i 0 6),.lst (qk i 6 3),.lst (qk i 0 9)]) (j:=4) (xs:=qk i 0 9) (ys:=qk i 9 3) (zs:=qk i 0 12) rfl c (by simp[qk]) (p 9))).trans ?_
 refine(zE (Km (A:=A) (L:=[.lst (qk i 0 3),.lst (qk i 3 3),.lst (qk i 0 6),.lst (qk i 6 3),.lst (qk i 0 9),.lst (qk i 9 3),.lst (qk i 0 12)]) (j:=6) (xs:=qk i 0 12) (ys:=qk i 12 3) (zs:=qk i 0 15) rfl b (by simp[qk]) (p 12))).trans ?_
 generalize H:A++([.lst (qk i 0 3),.lst (qk i 3 3),.lst (qk i 0 6),.lst (qk i 6 3),.lst (qk i 0 9),.lst (qk i 9 3),.lst (qk i 0 12)]++[.lst (qk i 12 3),.lst (qk i 0 15)])=B;have l:B.length=A.length+9:=by rw[<- H];simp
 have f:B[A.length+8]? =some (.lst (qk i 0 15)):=by rw[<- H,ay (by omega),show A.length+8-A.length=8 by omega];rfl
 refine(zE (ρ1:=[some u,some (.xc x),none,rO (A.length+8)]) (A1:=B) ((jC (A1:=B) (jq (k:=true) ?_)).trans rfl)).trans (qd (qA ?_))
 ·rcases two with ⟨rfl,rfl⟩|⟨rfl,rfl⟩<;>kernel_rfl
 have e:=TK (cap:=[3]) (mi:=jm (zZ (.int 15))) (j:=yv 0 15) (ifs:=zi zH zm zl) (me:=qf 0) (ρ:=[some u,some (.xc x),none,rO (A.length+8)]) (A:=B) (N:=15) (item:=λk=>.int (0+(k:Int))) (g:=λk=>.int (0+(k:Int))) (keep:=λk=>decide (k=i)) rfl rfl (by unfold zR;omega) (λk h=>Zo h) (Zj (by omega))
  (λk h=>by
   refine(zG (zj (i:=1) (w:=.ref (A.length+8)) rfl) (zj (i:=0) (w:=.int (0+(k:Int))) rfl)).trans ?_;rw[zero_add];refine yY f ?_;unfold qk;rw[ax,List.getElem?_range' (by omega)]
   simp) (λk h _=>rfl)
 rw[yR e,l];have o:((List.range 15).filter λk=>decide (k=i)).map (λk:Nat=>W.int (0+(k:Int)))=[.int i]:=by
  rcases two with ⟨rfl,rfl⟩|⟨rfl,rfl⟩<;>rfl
 rw[o,<- H,aR]
 rfl
def iY (h:w9 x=some i):qK.contains x=true:=by
 rcases TN h with ⟨rfl,_⟩|⟨rfl,_⟩<;>decide +kernel
def RG (t:Lm)(k:Nat)(w:List W)(A:Hx):R W:=match kZ [t] k w A with
 |.exc x a=>(match w9 x with
  |some i=>.ok (.ref (a.length+9)) (a++GX i)|none=>.bad)
 |_=>.bad
section
variable {PG:wJ}{k:Nat}{t:Lm}{q:Str}
def BO (H:kZ [t] k ws A=.exc x A1)(h:w9 x=some i):
  qF 4 (JH PG (kZ [t])) [.clo k ws (PG k)] A=.ok (.ref (A1.length+9)) (A1++GX i):=by
 have E:WC 0 PG (kZ [t]) [some (.clo k ws (PG k)),some .non,none,none] A=.exc x A1:=by
  unfold WC;refine(ah rfl).trans H
 have e:Yr 0 1 2 qK PG (kZ [t]) [some (.clo k ws (PG k)),some .non,none,none] A=.ok (.nx [some (.clo k ws (PG k)),some (.xc x),none,none]) A1:=by
  unfold Yr;rw[E];dsimp only;rw[ah (iY h)]
  rfl
 refine qy ?_;unfold JH;refine(zE (ρ1:=[some (.clo k ws (PG k)),some .non,none,none]) (A1:=A) rfl).trans ?_;exact(zE e).trans (Dh h _ A1)
def Nc (H:kZ [t] k ws A=.exc x A1)(h:w9 x=some i):RG t k ws A=.ok (.ref (A1.length+9)) (A1++GX i):=by
 unfold RG;rw[H];dsimp only;rw[h]
def iZ (u:List W)(A:Hx):Z8 PG (RG t) u A=.bad∨qF 4 (JH PG (kZ [t])) u A=Z8 PG (RG t) u A:=by
 by_cases H:Z8 PG (RG t) u A=.bad
 ·exact .inl H
 right
 unfold Z8 at H ⊢
 split
 ·rename_i k s P
  dsimp only at H
  by_cases a:P=PG k
  ·subst a
   rw[ah rfl]at H ⊢;cases e:kZ [t] k s A with
   |exc x b=>
    cases hm:w9 x with
    |none=>exfalso;apply H;unfold RG;rw[e];dsimp only;rw[hm]|some i=>rw[BO e hm,Nc e hm]
   |ok w b=>exfalso;apply H;unfold RG;rw[e]|bad=>exfalso;apply H;unfold RG;rw[e]
  ·rw[ai a]at H;exact absurd rfl H
 ·rename_i h
  exfalso
  apply H
  split
  ·rename_i k s P
   exact(h k s P rfl).elim
  ·rfl
def Xk (a:A[n]? =some (.tab q Pt))(c:QL t.idx ρ=some ws)(H:t.m (ws.map some) A=.exc x A1)(h:w9 x=some i):kN n q Pt t.idx (RG t 0) ρ A=.ok (.ref (A1.length+9)) (A1++GX i):=by
 unfold kN;rw[a];dsimp only;rw[ah ⟨rfl,rfl⟩,c];exact Nc H h
def i0 (A:Hx)(i:Nat):(A++GX i)[A.length+9]? =some (.lst [.int i]):=by
 rw[ay (by omega),show A.length+9-A.length=9 by omega]
 rfl
def U4:w9 "NoTable"=some 0:=by decide +kernel
def MZ:w9 "NoParting"=some 9:=by decide +kernel
end
section
variable {w:W}
def C9 (h:qm t)(A:Hx):gA [zt t] A=.ok (.bl true) A:=AY h A
def Bx (h:kF A w):gA [w] A=.ok (.bl false) A:=h A λ_ _ z=>z
def GL (h:qm t)(A:Hx):Q2 [zt t] A=.ok .non A:=by
 refine BP (ρ:=[some (zt t)]) ?_;unfold W6;refine(zE (ρ1:=[some (zt t)]) (A1:=A) ((jC (A1:=A) ?_).trans rfl)).trans rfl;exact ZZ (jq (k:=true) ((ql (ws:=[zt t]) (A1:=A) rfl).trans (C9 h A)))
def Sk (h:kF A w):Q2 [w] A=.exc "NoTable" A:=by
 refine Kr ?_;unfold W6;exact Je ((yx (A1:=A) (ZZ (jq (k:=false) ((ql (ws:=[w]) (A1:=A) rfl).trans (Bx h))))).trans (Je rfl))
variable {a b k:Nat}
def OJ {ty:Ty}(h:q9 w A=some ty):(yz ty .int&&!yz ty .bl)=gv w:=by
 cases w with
 |ref k=>
  unfold q9 at h;dsimp only at h
  split at h
  ·cases h;rfl
  ·cases h;rfl
  ·cases h
 |clo _ _ _=>cases h|xc _=>cases h|fn _=>cases h|_=>cases h;rfl
def O8 {a b:Ev}{p q:Bool}(H:a ρ A=.ok (.bl p) A)(h:b ρ A=.ok (.bl q) A):jz a b ρ A=.ok (.bl (p&&q)) A:=by
 cases p with
 |true=>exact(kq H).trans h|false=>exact wZ H
def CT {ty:Ty}(h:q9 w A=some ty):ZL [w] A=.ok (.bl (gv w)) A:=by
 unfold ZL GF TM;refine qy (qd (qA ((O8 (ku (zj rfl) h) (jq (ku (zj rfl) h))).trans ?_)));rw[OJ h]
def Xt (h:qm t)(A:Hx):Gf [zt t] A=.ok (.int (qx t)) A:=by
 refine Z0 (A1:=[]) (WL t) rfl (qy ?_);unfold UB;refine qd (qA ((zG (Xn h rfl) qe).trans ?_));show R.ok (W.int (qx t-1+1)) []=_
 congr 2
 omega
def Jg (h:qm t)(A:Hx):yr [zt t] A=.ok (.int (qx t)) A:=by
 refine Z0 (A1:=[]) (WL t) rfl (qy ?_);unfold U2;refine qd (qA ((zG qe (Xn h rfl)).trans ?_));show R.ok (W.int (1+(qx t-1))) []=_
 congr 2
 omega
end
section
variable {N b:Nat}
def Bh {g:Nat->Int}{k:Int}(h:b<N):((List.range N).map λj=>W.int (g j)).set b (.int k)=(List.range N).map λj=>W.int (if j=b then k else g j):=by
 apply ext_getElem?
 intro i
 by_cases H:i<N
 ·by_cases q:b=i
  ·subst q
   rw[aC (by simpa using H),ax,a9 H]
   simp
  ·rw[aI q,ax,ax,a9 H]
   simp[Ne.symm q]
 ·rw[aH (by simp;omega),aH (by simp;omega)]
end
section
variable {f:Fn}{us:List W}
def Ec (v:Int)(A:Hx):qF 2 (ZI f) [.int v,.int v] A=.ok (.bl true) A:=by
 refine qy ?_;unfold ZI;refine(zE (ρ1:=[iV v,iV v]) (A1:=A) ((jC (A1:=A) rfl).trans rfl)).trans (qd (qA ?_));exact(kq (A1:=A) ((zG (zj (i:=0) rfl) (zj (i:=1) rfl)).trans ((JF _ _ _).trans (by rw[aE rfl])))).trans rfl
def SD {x y:W}{ty:Ty}(H:zI x A=some ws)(h:zI y A=some ws)(T:q9 x A=some ty)(t:q9 y A=some ty)(a:ty=.tup∨ty=.lst)(l:ws.length<=1000)(o:∀w∈ws,f [w,w] A=.ok (.bl true) A):qF 2 (ZI f) [x,y] A=.ok (.bl true) A:=by
 refine qy ?_;unfold ZI;have b:mQ qw (zX (qf 0)) [some x,some y] A=.ok (.int ws.length) A:=jF (j3 (w:=x) (A1:=A) (zj rfl) H);have E:mQ qw (zX (qf 1)) [some x,some y] A=.ok (.int ws.length) A:=jF (j3 (w:=y) (A1:=A) (zj rfl) h);have I:Wy .tup .lst (qf 1) [some x,some y] A=.ok (.bl true) A:=by
  unfold Wy;rw[zj (w:=y) rfl,zA,t];rcases a with rfl|rfl<;>rfl
 have n:∀c,zi qJ (jN c (qf 0)) (jN c (qf 1)) [some x,some y] A=.ok (.bl false) A:=λc=>(zG (ku (w:=x) (zj rfl) T) (ku (w:=y) (zj rfl) t)).trans ((NP _ _ _).trans (by rw[bt];rfl))
 refine qd ((yx (A1:=A) I).trans ?_);refine(zE (ρ1:=[some x,some y]) (A1:=A) ((jC (A1:=A) ((Zp (A1:=A) (n .tup)).trans (n .lst))).trans jw)).trans ?_;refine(zE (ρ1:=[some x,some y]) (A1:=A) ((jC (A1:=A) ((zG b E).trans ((NQ _ _ _).trans (by rw[aE rfl];rfl)))).trans jw)).trans (qd (qA ?_))
 have z:Qa (qf 0) (qf 1) [some x,some y] A=.ok (Z7 x y ws.length) A:=by
  unfold Qa;rw[zj (w:=x) rfl,zA,zj (w:=y) rfl,zA,H,h]
 have d:=Hf (A:=A) (cap:=[]) (ρ:=[some x,some y]) (me:=zw f (zc (qf 0) (zc (qf 1) zh))) (N:=ws.length) (u:=λi=>ws.getD i .non) (v:=λi=>ws.getD i .non) (g:=λ_=>.bl true) z rfl l
  (λi j=>by
   show(match zI x A,zI y A with|some U,some s=>some (zip2 U[i]? s[i]?)|_,_=>none)=_
   rw[H,h];show some (zip2 ws[i]? ws[i]?)=_;rw[ae,aa j];rfl)
  (by
   show(match zI x A,zI y A with|some U,some s=>some (zip2 U[ws.length]? s[ws.length]?)|_,_=>none)=_
   rw[H,h];show some (zip2 ws[ws.length]? ws[ws.length]?)=_;rw[aH (ar _)];rfl)
  (λi j=>by
   have e:ws.getD i .non=ws[i]:=by rw[ae,aa j];rfl
   rw[e];exact(ql (ws:=[ws[i],ws[i]]) (A1:=A) rfl).trans (o _ (aN j)))
 exact(jF d).trans (Jh (p:=λ_=>true) λ_ _=>rfl)
variable {K a b:Nat}
def rep1 (w:W):∀n:Nat,(List.replicate n [w]).flatten=(List.range n).map λ_=>w:=λn=>by
 rw[List.map_const',a5]
 induction n with
 |zero=>rfl|succ n i=>rw[bh,aO,i];rfl
def Ot (h:qm t)(d:qx t=(K:Int))(c:a<t.length)(H:b<t.length):((at2 t a b).toNat:Int)=at2 t a b/\(at2 t a b).toNat<K:=by
 have f:=Ve h c H;have e:=KW h c H;omega
end
structure LM (N b0 r:Nat)(μ:Nat->Nat->Int)(C:Hx):Prop where
 top:C[r]? =some (.lst ((List.range N).map λi=>W.ref (b0+i)))
 row:∀i,i<N->C[b0+i]? =some (.lst ((List.range N).map λj=>W.int (μ i j)))
 lt:b0+N<=r
 pos:0<b0
 st:qH 0 C
structure Sy (N:Nat)(μ:Nat->Nat->Int):Prop where
 dg:∀a b,a<N->b<N->(μ a b=0↔a=b)
 sy:∀a b,a<N->b<N->μ a b=μ b a
 lo:∀a b,a<N->b<N->0<=μ a b/\μ a b<(N:Int)
section
variable {N b0 r a b:Nat}{C:Hx}
def Sy.step (h:Sy N μ)(g:a<N)(f:b<N)(e:a≠b){k:Int}(n:1<=k)(K:k<(N:Int)):Sy N (gX (gX μ a b k) b a k):=by
 have at_:∀i j,gX (gX μ a b k) b a k i j=if (i=b/\j=a)∨(i=a/\j=b) then k else μ i j:=λi j=>by
  unfold gX
  by_cases d:i=b/\j=a
  ·rw[ah d,ah (.inl d)]
  ·rw[ai d]
   by_cases Q:i=a/\j=b
   ·rw[ah Q,ah (.inr Q)]
   ·rw[ai Q,ai (by rintro(z|z);exact d z;exact Q z)]
 refine⟨λi j l H=>?_,λi j l H=>?_,λi j l H=>?_⟩
 ·rw[at_]
  by_cases q:(i=b/\j=a)∨(i=a/\j=b)
  ·rw[ah q]
   constructor
   ·intro z;omega
   ·intro z;omega
  ·rw[ai q];exact h.dg i j l H
 ·rw[at_,at_]
  by_cases q:(i=b/\j=a)∨(i=a/\j=b)
  ·rw[ah q,ah (by rcases q with ⟨c,Z⟩|⟨c,Z⟩;exact .inr ⟨Z,c⟩;exact .inl ⟨Z,c⟩)]
  ·rw[ai q,ai (by rintro(⟨c,Z⟩|⟨c,Z⟩);exact q (.inr ⟨Z,c⟩);exact q (.inl ⟨Z,c⟩))]
   exact h.sy i j l H
 ·rw[at_]
  by_cases q:(i=b/\j=a)∨(i=a/\j=b)
  ·rw[ah q];omega
  ·rw[ai q];exact h.lo i j l H
theorem LM.put (h:LM N b0 r μ C)(f:a<N)(e:b<N)(k:Int):∃d,j6 (.ref (b0+a)) (.int b) (.int k) C=.ok () d/\LM N b0 r (gX μ a b k) d:=by
 have c:=h.row a f;have H:=kU c;have n:=h.lt;have g:=h.pos;refine⟨_,KS c (by simp;omega),?_,λi l=>?_,n,g,h.st.put (by omega)⟩
 ·rw[aI (by omega)];exact h.top
 ·by_cases q:i=a
  ·subst q
   rw[aC H,Bh e]
   congr 3
   funext j
   unfold gX
   by_cases z:j=b
   ·rw[ah z,ah ⟨rfl,z⟩]
   ·rw[ai z,ai (by rintro⟨_,w⟩;exact z w)]
  ·rw[aI (by omega),h.row i l]
   congr 3
   funext j
   unfold gX;rw[ai (by rintro⟨w,_⟩;exact q w)]
def LM.kn {c:Hx}(h:LM N b0 r μ C)(k:Kn 0 C c):LM N b0 r μ c:=by
 have b:=h.lt;have H:=h.pos;exact⟨k.kp.get h.top (by omega),λi a=>k.kp.get (h.row i a) (by omega),b,H,k.st⟩
def LM.ix (h:LM N b0 r μ C){m:Ev}(b:m ρ C=.ok (.ref r) C)(c:ρ[i]? =some (iV a))(H:a<N):zi zH m (qf i) ρ C=.ok (.ref (b0+a)) C:=
 (zG b (zj c)).trans (yY h.top (by rw[ax,a9 H];rfl))
def LM.ix2 (h:LM N b0 r μ C){m:Ev}(e:m ρ C=.ok (.ref r) C)(f:ρ[i]? =some (iV a))(c:ρ[j]? =some (iV b))(H:a<N)(d:b<N):zi zH (zi zH m (qf i)) (qf j) ρ C=.ok (.int (μ a b)) C:=
 (zG (h.ix e f H) (zj c)).trans (yY (h.row a H) (by rw[ax,a9 d];rfl))
abbrev VZ (M:Ev)(r:Ex):Ex:=zo (yd j6 (zi zL zu (zw jL (zc zl (zc M zh)))) (zi zH zM jd) jK) (zo (yd j6 (zi zH (zi zH zM jd) jK) (zi zH zM jK) jd) r)
def RI (h:LM N b0 r μ C)(q:Sy N μ)(d:a<N)(H:b<N)(f:a≠b)(A:ρ[0]? =some (rO 0))(j:ρ[2]? =some (rO r))(i:ρ[4]? =some (iV a))(g:ρ[5]? =some (iV b)){m:Int}(z:me ρ C=.ok (.int m) C)(M:0<m)(D:m<(N:Int))(x:N<=8)(y:Ex):
  ∃c p,VZ me y ρ C=y ρ p/\LM N b0 r c p/\Sy N c:=by
 obtain⟨k,e,u,v,K,_⟩:=wW h.st A z M (by omega)
 have L:=h.kn K;obtain⟨n,t,l⟩:=L.put d H (1+(k:Int));obtain⟨o,E,s⟩:=l.put H d (1+(k:Int));refine⟨_,o,?_,s,q.step d H f (by omega) (by omega)⟩
 refine(zE (ρ1:=ρ) (A1:=n) ?_).trans (zE (ρ1:=ρ) (A1:=o) ?_)
 ·unfold yd
  rw[(zG (qe (w:=.int 1)) u).trans (show zL (.int 1) (.int k) e=.ok (.int (1+(k:Int))) e from rfl),zA,L.ix (zj j) i d,zA,(show jK ρ e=.ok (.int b) e from zj g),zA,t,zA]
 ·have B:gX μ a b (1+(k:Int)) a b=1+(k:Int):=by unfold gX;rw[ah ⟨rfl,rfl⟩]
  unfold yd;rw[l.ix2 (zj j) i g d H,zA,l.ix (zj j) g H,zA,(show jd ρ n=.ok (.int a) n from zj i),zA,B,E,zA]
def LM.ll (h:LM N b0 r μ C):LL (yy N μ) r C:=by
 refine⟨(List.range N).map λi=>b0+i,by rw[h.top,aU];rfl,by rw[Kj];simp,λi H=>?_⟩
 rw[Kj]at H;have E:((List.range N).map λi=>b0+i).getD i 0=b0+i:=by rw[ae,ax,a9 H];rfl
 have e:(yy N μ).getD i []=(List.range N).map (μ i):=by unfold yy;rw[ae,ax,a9 H];rfl
 rw[E,e,h.row i H,aU]
 rfl
def LM.fin (h:LM N b0 r μ C)(q:Sy N μ)(i:1<=N)(g:N<=8)(f:ρ[2]? =some (rO r)):∃u B,zw Qj (zc zM zh) ρ C=.ok (zt u) B/\qm u/\qH 0 B:=by
 have l:=Kj (n:=N) (μ:=μ);have H:∀v∈(yy N μ).flatten,0<=v/\v<(N:Int):=λv d=>by
  obtain⟨a,b,c,H,rfl⟩:=ZQ Xs d;rw[l]at c H;rw[ZR c H];exact q.lo a b c H
 obtain⟨B,e,x⟩:=Pz (t:=yy N μ) (by omega) (by omega) Xs (λv d=>by have:=H v d;omega) h.ll
 refine⟨_,B,(ql (zP (zj f) qa)).trans e,FG (by omega) (by omega) Xs ?_ ?_ ?_,h.st.ext x⟩
 ·intro a b c H;rw[l]at c H;rw[ZR c H];exact q.dg a b c H
 ·intro a b c H;rw[l]at c H;rw[ZR c H,ZR H c];exact q.sy a b c H
 ·intro a b c H;rw[l]at c H ⊢;rw[ZR c H];exact q.lo a b c H
def i3 (h:qm t)(s:qH 0 B):LM t.length B.length (B.length+t.length) (at2 t) (B++(t.map λr=>O.lst (r.map W.int))++[O.lst ((List.range t.length).map λi=>W.ref (B.length+i))])/\Sy t.length (at2 t):=by
 refine⟨⟨Rb,λi g=>?_,ar _,s.lt,s.ext ⟨(t.map λr=>O.lst (r.map W.int))++[O.lst ((List.range t.length).map λi=>W.ref (B.length+i))],by rw[aR]⟩⟩,h.dg,h.sy,λa b e d=>?_⟩
 ·rw[RO g]
  congr 2
  have H:=h.sq _ (km g)
  have:=JG (t.getD i []) 0 W.int
  rw[this,H]
  rfl
 ·obtain⟨c,j,f,_⟩:=JY h.sq e d
  exact h.lo c j _ f
abbrev eW (w r N:Nat)(l:En):En:=rO 0::iV w::rO r::iV N::l
def Bj (s:qH 0 [o]):∃t B,Gq [.ref 0] [o]=.ok (zt t) B/\qH 0 B/\qm t:=by
 unfold Gq;unfold U5;obtain⟨way,T,e0,hw,k0,_⟩:=wW (ρ:=[rO 0,none,none,none,none,none,none]) (me:=zZ (.int 3)) s rfl qe (by decide:(0:Int)<3) (by decide)
 have go:∀m2:Ex,zo (zV 1 (zw jL (zc zl (zc jc zh)))) m2 [rO 0,none,none,none,none,none,none] [o]=m2 [rO 0,iV way,none,none,none,none,none] T:=λm2=>zE ((qC e0).trans rfl);obtain⟨t,x,e1,J,_,k1,_⟩:=C6 k0.st;have n1:=J.n1;have n8:=J.n8;have P:zi qG zm zD [rO 0,iV way,none,none,none,none,none] T=.ok (.bl (decide ((way:Int)=0))) T:=(zG (zj rfl) qe).trans (JF _ _ _);have ek:zw Q8 (zc zl zh) [rO 0,iV way,none,none,none,none,none] T=.ok (zt t) x:=(ql (zP (zj rfl) qa)).trans e1
 by_cases q0:(way:Int)=0
 ·rw[aE q0]at P
  exact⟨t,x,qy ((go _).trans (qd ((yx P).trans (qd (qA ek))))),k1.st,J⟩
 ·rw[aD q0]at P
  have er:=Fb (B:=x) n8 J.sq ek;obtain⟨lm,sy⟩:=i3 J k1.st;generalize x++(t.map λr=>O.lst (r.map W.int))++[O.lst ((List.range t.length).map λi=>W.ref (x.length+i))]=C at er lm;generalize x.length+t.length=r at er lm;generalize x.length=b0 at lm;generalize at2 t=μ at lm sy;generalize hN:t.length=N at lm sy n1 n8;have K:mQ qw (zX zM) [rO 0,iV way,rO r,none,none,none,none] C=.ok (.int N) C:=by
   rw[jF (j3 (w:=.ref r) (A1:=C) (zj rfl) (by unfold zI;dsimp only;rw[lm.top]))]
   unfold qw;simp
  have go2:∀m1 m2:Ex,zo (zV 1 (zw jL (zc zl (zc jc zh)))) (zo (qu (zi qG zm zD) m1 zx) (zo (zV 2 (qj (zN 1 [] (z9 (zw Q8 (zc zl zh))) (zC 0) zS (zK (qj (zX zl)))))) (zo (zV 3 (mQ qw (zX zM))) m2))) [rO 0,none,none,none,none,none,none] [o]=m2 (eW way r N [none,none,none]) C:=λm1 m2=>
   (go _).trans ((zE ((jC P).trans jw)).trans ((zE ((qC er).trans rfl)).trans (zE ((qC K).trans rfl))))
  have Q:jz (zi qG zm zu) (zi V3 zB zu) (eW way r N [none,none,none]) C=.ok (.bl (decide ((way:Int)=1)&&decide ((1:Int)<(N:Int)))) C:=by
   have e:zi qG zm zu (eW way r N [none,none,none]) C=.ok (.bl (decide ((way:Int)=1))) C:=(zG (zj rfl) qe).trans (JF _ _ _)
   by_cases z:(way:Int)=1
   ·rw[aE z]at e ⊢
    exact(kq e).trans ((zG (zj rfl) qe).trans rfl)
   ·rw[aD z]at e ⊢
    exact wZ e
  cases hd:(decide ((way:Int)=1)&&decide ((1:Int)<(N:Int))) with
  |true=>
   rw[hd]at Q;have hN2:2<=N:=by
    rw[av,ao,ao]at hd;omega
   obtain⟨a,d,M,ha,k2,_⟩:=wW (ρ:=(eW way r N [none,none,none])) (me:=qf 3) lm.st rfl (zj rfl) (by omega:(0:Int)<(N:Int)) (by omega)
   obtain⟨q,C2,e3,hq,k3,_⟩:=wW (ρ:=(eW way r N [iV a,none,none])) (me:=zi j5 zB zu) (m:=(N:Int)-1) k2.st rfl ((zG (zj rfl) qe).trans rfl) (by omega) (by omega)
   have X:=(lm.kn k2).kn k3;have hb:(a+1+q)%N<N:=Nat.mod_lt _ (by omega)
   have hab:a≠(a+1+q)%N:=by
    intro z
    by_cases g:a+1+q<N
    ·rw[Nat.mod_eq_of_lt g]at z;omega
    ·rw[Nat.mod_eq_sub_mod (by omega),Nat.mod_eq_of_lt (by omega)]at z
     omega
   have e4:zi kr (zi zL (zi zL jd zu) (zw jL (zc zl (zc (zi j5 zB zu) zh)))) zB (eW way r N [iV a,none,none]) d=.ok (.int (((a+1+q)%N:Nat):Int)) C2:=by
    refine(zG ((zG ((zG (zj rfl) qe).trans (show zL (.int a) (.int 1) d=.ok (.int ((a:Int)+1)) d from rfl)) e3).trans (show zL (.int ((a:Int)+1)) (.int q) C2=.ok (.int ((a:Int)+1+(q:Int))) C2 from rfl)) (zj (i:=3) rfl)).trans ((Qx (by omega)).trans ?_)
    congr 2
   obtain⟨c,C3,e5,L,S⟩:=RI (ρ:=(eW way r N [iV a,iV (((a+1+q)%N:Nat):Int),none])) (me:=zi j5 zB zu) (m:=(N:Int)-1) X sy (by omega) hb hab rfl rfl rfl rfl ((zG (zj rfl) qe).trans rfl) (by omega) (by omega) n8 (zo (qv (zw Qj (zc zM zh))) zx)
   obtain⟨u,B,e6,hu,sB⟩:=L.fin S n1 n8 (ρ:=(eW way r N [iV a,iV (((a+1+q)%N:Nat):Int),none])) rfl;refine⟨u,B,qy ((go2 _ _).trans (qd ((yx Q).trans ?_))),sB,hu⟩;exact(zE ((qC M).trans rfl)).trans ((zE ((qC e4).trans rfl)).trans (e5.trans (qd (qA e6))))
  |false=>
   rw[hd]at Q;have xo:Ext C (C++[.lst [.int 2,.int 3,.int 1]]):=Ext.one;obtain⟨j,d,M,hj,k2,_⟩:=wW (ρ:=(eW way r N [none,none,none])) (me:=zZ (.int 3)) (lm.st.ext xo) rfl qe (by decide:(0:Int)<3) (by decide)
   have Z:LM N b0 r μ d:=(lm.kn (Kn.ext lm.st xo)).kn k2;obtain⟨f,hf1,ef⟩:∃f:Int,1<=f/\zi zH (zJ (zc qz (zc jc (zc zu zh)))) (zw jL (zc zl (zc jc zh))) (eW way r N [none,none,none]) C=.ok (.int f) d:=by
    have v:=k2.kp.get (qc (A:=C)) (by have:=lm.st.lt;omega)
    have hj3:j<3:=by omega
    rcases three hj3 with rfl|rfl|rfl
    ·exact⟨2,by decide,(zG (jl rfl) M).trans (yY v rfl)⟩
    ·exact⟨3,by decide,(zG (jl rfl) M).trans (yY v rfl)⟩
    ·exact⟨1,by decide,(zG (jl rfl) M).trans (yY v rfl)⟩
   have rng:∀(i:Nat)(ρ:En)(D:Hx)(k:Nat),k<=8->ρ[i]? =some (iV k)->jm (qf i) ρ D=.ok (yv 0 k) D:=λi ρ D k hk h=>by
    have:=JT (m:=qf i) (A:=D) (zj h) (Qn (n:=k) (by omega))
    rw[aP]at this;exact this
   obtain⟨U,D,e3,⟨c,L,S⟩,Y,y,H⟩:=Zf (j:=yv 0 N) (st:=turn (zC 4) (zo (jR (jm jd) (zC 5) (VZ (zi Z1 jA (zi j5 zB zu)) zx)) zx)) (N:=N)
    (I:=λ_ ρ D=>(∃μ,LM N b0 r μ D/\Sy N μ)/\∃Y y,ρ=(eW way r N [Y,y,iV f]))
    (λa ρ D ha ⟨⟨μ,lm,sy⟩,Y,y,H⟩=>by
     subst H;obtain⟨U,D',e,⟨c,p,l⟩,y5',E⟩:=Zf (j:=yv 0 a) (st:=turn (zC 5) (VZ (zi Z1 jA (zi j5 zB zu)) zx)) (N:=a)
      (I:=λ_ ρ D=>(∃μ,LM N b0 r μ D/\Sy N μ)/\∃y,ρ=(eW way r N [iV a,y,iV f]))
      (λb ρ D hb ⟨⟨μ,lm,sy⟩,y,H⟩=>by
       subst H;have em:zi Z1 jA (zi j5 zB zu) (eW way r N [iV a,iV b,iV f]) D=.ok (.int (if (N:Int)-1<f then(N:Int)-1 else f)) D:=(zG (zj rfl) ((zG (zj rfl) qe).trans rfl)).trans rfl;obtain⟨c,D',e,p,l⟩:=RI (ρ:=(eW way r N [iV a,iV b,iV f])) lm sy ha (by omega:b<N) (by omega) rfl rfl rfl rfl em (by split<;>omega) (by split<;>omega) n8 zx
       refine⟨_,_,D',Zo hb,(wy (ρ1:=(eW way r N [iV a,iV b,iV f])) ?_).trans e,⟨c,p,l⟩,_,rfl⟩;rw[zero_add];rfl)
      (λρ D _=>Zj (by omega)) a 0 (eW way r N [iV a,y,iV f]) D (by omega) ⟨⟨μ,lm,sy⟩,_,rfl⟩
     subst E;refine⟨_,_,D',Zo ha,(wy (ρ1:=(eW way r N [iV a,y,iV f])) ?_).trans ((zE ((wz (rng 4 _ D a (by omega) rfl)).trans e)).trans jw),⟨c,p,l⟩,_,_,rfl⟩
     rw[zero_add];rfl)
    (λρ D _=>Zj (by omega)) N 0 (eW way r N [none,none,iV f]) d (by omega) ⟨⟨μ,Z,sy⟩,_,_,rfl⟩
   subst H;obtain⟨u,B,e6,hu,sB⟩:=L.fin S n1 n8 (ρ:=(eW way r N [Y,y,iV f])) rfl;refine⟨u,B,qy ((go2 _ _).trans ((zE ((jC Q).trans jw)).trans ((zE ((qC ef).trans rfl)).trans ((zE ((wz (rng 3 _ d N n8 rfl)).trans e3)).trans (qd (qA e6)))))),sB,hu⟩
def i4 (s:qH n A):∃t B,Q5 [.ref n] A=.ok (zt t) B/\qm t/\Kn n A B:=by
 obtain⟨c,b,a,f,g⟩:=s;have i:=kU a;obtain⟨t,j,e,⟨C,d,E,h,H⟩,T⟩:=Bj (o:=.lst [.int c,.bl b]) ⟨c,b,rfl,f,g⟩;refine⟨t,A.set n (.lst [.int C,.bl d]),?_,T,⟨Kp.set,C,d,aC i,h,H⟩⟩;unfold Q5;exact Pa a rfl e E (KO t)
end
def Fd {j:jo}{st:W->Ex}{N:Nat}{I:Nat->En->Hx->Prop}{Q:W->Hx->Prop}
  (p:∀i n A,i<N->I i n A->∃w,j.at_ A i=some (some w)/\((∃ρ1 A1,st w n A=.ok (.nx ρ1) A1/\I (i+1) ρ1 A1)∨∃r A1,st w n A=.ok (.rt r) A1/\Q r A1))(d:∀n A,I N n A->j.at_ A N=some none):
  ∀(f i:Nat)(n:En)(A:Hx),i+f=N->I i n A->(∃a b,ye j st f i n A=.ok (.nx a) b/\I N a b)∨∃r b,ye j st f i n A=.ok (.rt r) b/\Q r b:=by
 intro f
 induction f with
 |zero=>
  intro i n A h c
  have:i=N:=by omega
  subst this;exact .inl ⟨n,A,GD (d _ _ c),c⟩
 |succ f l=>
  intro i n A h c;obtain⟨w,o,H|H⟩:=p i n A (by omega) c
  ·obtain⟨ρ1,A1,H,g⟩:=H
   rcases l (i+1) ρ1 A1 (by omega) g with ⟨a,b,e,q⟩|⟨r,b,e,q⟩
   ·exact .inl ⟨a,b,(Kv o H).trans e,q⟩
   ·exact .inr ⟨r,b,(Kv o H).trans e,q⟩
  ·obtain⟨r,A1,H,g⟩:=H
   refine .inr ⟨r,A1,?_,g⟩;unfold ye;rw[o];dsimp only;rw[H]
   rfl
noncomputable def gi (r:bR):PyData:=.tuple (r.map .int)
theorem GZ {f:W->Option PyData}{g:α->W}{h:α->PyData}(e:∀a,f (g a)=some (h a)):∀l:List α,jy f (l.map g)=some (l.map h)
 |[]=>rfl|a::l=>by
  rw[aK,jy,e a,GZ e l]
  rfl
def KQ (A:Hx)(n:Nat)(r:bR):zO A (n+1) (qg r)=some (gi r):=by
 show(jy (zO A n) (r.map W.int)).map PyData.tuple=_;rw[GZ (h:=PyData.int) (λi=>by cases n<;>rfl)]
 rfl
section
variable {k:Nat}{w:W}{lG:List (Key×W)}
theorem SX {k:Key}:∀{K l:List (Key×W)},jj k (K++l)=match jj k K with|some w=>some w|none=>jj k l
 |[],l=>rfl|(j,w)::r,l=>by
  show(if j=k then some w else jj k (r++l))=match (if j=k then some w else jj k r) with|some w=>some w|none=>jj k l
  by_cases h:j=k
  ·rw[ah h,ah h]
  ·rw[ai h,ai h];exact SX
theorem Rp {k:Key}{w:W}:∀{K:List (Key×W)},jj k K=some w->(k,w)∈K
 |[],h=>by cases h|(j,u)::r,h=>by
  have h:(if j=k then some u else jj k r)=some w:=h
  by_cases q:j=k
  ·rw[ah q]at h;cases h;subst q;exact aq ..
  ·rw[ai q]at h;exact ak _ (Rp h)
end
theorem TH:∀s t:bQ,PyData.eqvAll (s.map gi) (t.map gi)=decide (s=t)
 |[],[]=>by simp[PyData.eqvAll]|[],_::_=>by simp[PyData.eqvAll]|_::_,[]=>by simp[PyData.eqvAll]|a::l,b::m=>by
  simp only[aK,PyData.eqvAll,TH l m,gi,PyData.eqv,Q9];rw[Bool.eq_iff_iff];simp
def i5 (r s:bR)(A:Hx):qG (qg r) (qg s) A=.ok (.bl (decide (r=s))) A:=by
 show yN false _ _ A=_;unfold yN;rw[KQ A 7 r,KQ A 7 s];dsimp only;rw[gi,gi,PyData.eqv,Q9]
 rfl
noncomputable abbrev Pg:=bQ
abbrev pO (p:bQ):O:=.lst (p.map zq)
noncomputable def yB (K:Nat)(p:bQ):bR:=(p.zipIdx 1).foldl (λl q=>q.1.foldl (λl k=>l.set k.toNat (q.2:Int)) l) (List.replicate K 0)
def Qh (p:bQ):List (Key×W):=(p.zipIdx 1).foldl (λd q=>q.1.foldl (λd k=>yD d (.inl k) (.int q.2)) d) [(.inl 0,.int 0)]
noncomputable def yM (t:bQ)(l:bR):bQ:=t.map λr=>r.map λv=>l.getD v.toNat 0
structure ZE (K:Nat)(p:bQ):Prop where
 len:(yB K p).length=K
 part:∀q∈p,q.length<=8/\∀k∈q,1<=k/\k<(K:Int)
 few:p.length<K
 zero:∀k,k<K->((yB K p).getD k 0=0↔k=0)
 lo:∀k,k<K->0<=(yB K p).getD k 0/\(yB K p).getD k 0<=p.length
 val:∀k,k<K->jj (.inl (k:Int)) (Qh p)=iV ((yB K p).getD k 0)
 all:∀v,v<=p.length->∃k,k<K/\(yB K p).getD k 0=(v:Int)
section
variable {C:Hx}{a b c e k K d:Nat}{w:W}{p:bQ}
def J8 (H:qm t)(h:a<t.length)(d:b<t.length):at2 (yM t l) a b=l.getD (at2 t a b).toNat 0:=by
 have c:=H.sq _ (km h);unfold at2 yM;rw[ae,ae,ax,aa h];have e:t.getD a []=t[a]:=by rw[ae,aa h];rfl
 rw[e]at c ⊢;show((t[a].map _)[b]?).getD 0=_;rw[ax,aa (by omega),ae (l:=t[a]),aa (by omega)]
 rfl
def JR (h:qm t)(d:qx t=(K:Int))(c:a<t.length)(H:b<t.length):(at2 t a b).toNat<K/\((at2 t a b).toNat:Int)=at2 t a b:=⟨(Ot h d c H).2,(Ot h d c H).1⟩
def Ce {m:Nat}(d:qm t)(p:qx t=(K:Int))(w:m<K)(I:∀k,k<K->(l.getD k 0=0↔k=0))(o:∀k,k<K->0<=l.getD k 0/\l.getD k 0<=(m:Int))(j:∀v,v<=m->∃k,k<K/\l.getD k 0=(v:Int)):qm (yM t l)/\qx (yM t l)=((m+1:Nat):Int):=by
 have B:=PY d;have D:(yM t l).length=t.length:=ag ..;have g:∀r∈yM t l,r.length=(yM t l).length:=λr s=>by
  obtain⟨q,y,rfl⟩:=cq.mp s;rw[ag,D];exact d.sq q y
 have i:∀v∈(yM t l).flatten,∃a b,a<t.length/\b<t.length/\v=l.getD (at2 t a b).toNat 0:=λv f=>by
  obtain⟨a,b,H,h,e⟩:=ZQ g f;rw[D]at H h;exact⟨a,b,H,h,by rw[<- e,J8 d H h]⟩
 have n:∀v,v<=m->∃a b,a<t.length/\b<t.length/\at2 (yM t l) a b=(v:Int):=λv f=>by
  obtain⟨k,C,e⟩:=j v f;obtain⟨a,b,H,h,E⟩:=OF d (v:=k) (by omega)
  exact⟨a,b,H,h,by rw[J8 d H h,E,aP,e]⟩
 have T:qm (yM t l):=by
  refine⟨by rw[D];exact d.n1,by rw[D];exact d.n8,g,λr s v f=>?_,λa b H h=>?_,λa b H h=>?_,λk ⟨v,f,z⟩=>?_⟩
  ·obtain⟨a,b,H,h,rfl⟩:=i v (List.mem_flatten.mpr ⟨r,s,f⟩)
   have:=o _ (JR d p H h).1
   rw[D];omega
  ·rw[D]at H h
   rw[J8 d H h,I _ (JR d p H h).1,<- d.dg a b H h]
   have:=(JR d p H h).2
   omega
  ·rw[D]at H h
   rw[J8 d H h,J8 d h H,d.sy a b H h]
  ·obtain⟨a,b,H,h,rfl⟩:=i v f
   have:=o _ (JR d p H h).1
   obtain⟨c,e,u,J,x⟩:=n k (by omega)
   obtain⟨r,s,_,L⟩:=JY g (a:=c) (b:=e) (by rw[D];exact u) (by rw[D];exact J)
   rw[x]at L;exact L
 refine⟨T,?_⟩;obtain⟨a,b,H,h,x⟩:=i _ (KI T);have M:=o _ (JR d p H h).1;obtain⟨c,e,u,J,E⟩:=n m (ar _);have A:=KW T (a:=c) (b:=e) (by rw[D];exact u) (by rw[D];exact J)
 rw[E]at A;omega
def AD (H:qm t)(a:qx t=(K:Int))(h:ZE K p):qm (yM t (yB K p))/\qx (yM t (yB K p))=((p.length+1:Nat):Int):=Ce H a h.few h.zero h.lo h.all
def Bg (d:List (Key×W))(k:Key)(v:W):(yD d k v).length<=d.length+1:=by
 unfold yD
 split
 ·rw[ag];omega
 ·rw[aj];exact ar _
def V8 (d:List (Key×W))(q:List Int×Nat):List (Key×W):=q.1.foldl (λd k=>yD d (.inl k) (.int q.2)) d
def Qp {a:Type}{f:a->α->a}{l:List α}{x:a}(h:i<l.length):(l.take (i+1)).foldl f x=f ((l.take i).foldl f x) l[i]:=by
 rw[List.take_succ,aa h,foldl_append]
 rfl
def Aq {K:List (Key×W)}{k:Int}{v:W}(h:A[d]? =some (.dct K))(H:K.length<1000):gQ (.ref d) (.int k) v A=.ok () (A.set d (.dct (yD K (.inl k) v))):=by
 unfold gQ;show(match A[d]? with|some (.dct K)=>if K.length<zR then R.ok () (A.set d (.dct (yD K (.inl k) v))) else .bad|_=>.bad)=_
 rw[h];dsimp only;rw[ah (by unfold zR;omega)]
def G3 {a:O}:(B++[o]).set B.length a=B++[a]:=by rw[List.set_append_right _ _ (ar _),Nat.sub_self];rfl
def Su {g:W->W->W->Hx->R Unit}{m M i:Ev}{d b a:Hx}{v o j:W}(e:m ρ A=.ok v A1)(c:M ρ A1=.ok o d)(H:i ρ d=.ok j b)(h:g o j v b=.ok () a):yd g m M i ρ A=.ok (.nx ρ) a:=by
 unfold yd;rw[e,zA,c,zA,H,zA,h]
 rfl
def R0 {q:bR}{m:Ev}(h:m ρ A=.ok (zq q) A):z9 m ρ A=.ok ⟨λA i=>(zI (zq q) A).map λws=>ws[i]?,q.length⟩ A:=by
 have:=ZS (m:=m) (ρ:=ρ) (A:=A) (ws:=q.map W.int) h
 rw[ag]at this;exact this
abbrev NV:Ex:=zo (jR (z9 jd) (zC 5) (zo (yd gQ zB zM jK) zx)) zx
def Di (r:B[i]? =some (pO p))(J:p.length<=8)(v:∀q∈p,q.length<=8):∃a Y y,jR (Wd (qf 1)) (yL 3 4) NV [some (zt t),rO i,rO B.length,none,none,none] (B++[.dct [(.inl 0,.int 0)]])=.ok (.nx [some (zt t),rO i,rO B.length,a,Y,y]) (B++[.dct (Qh p)]):=by
 have Q:i<B.length:=kU r;have z:(p.zipIdx 1).length=p.length:=List.length_zipIdx;have b:∀X:O,(B++[X])[i]? =some (pO p):=λX=>qR r;have H:∀X:O,zI (.ref i) (B++[X])=some (p.map zq):=λX=>by unfold zI;dsimp only;rw[b X]
 obtain⟨o,D,e,n,a,Y,y,h⟩:=Zf (j:=QG (.ref i) p.length) (st:=turn (yL 3 4) NV) (N:=p.length)
  (I:=λj K C=>(C=B++[.dct (((p.zipIdx 1).take j).foldl V8 [(.inl 0,.int 0)])]/\(((p.zipIdx 1).take j).foldl V8 [(.inl 0,.int 0)]).length<=1+8 * j)/\∃a Y y,K=[some (zt t),rO i,rO B.length,a,Y,y])
  (λj K C f ⟨⟨l,x⟩,a,Y,y,h⟩=>by
   subst l h;generalize g:((p.zipIdx 1).take j).foldl V8 [(.inl 0,.int 0)]=d0 at x;have u:=v _ (aN f);have E:(p.zipIdx 1)[j]'(by rw[z];exact f)=(p[j],j+1):=by simp[add_comm]
   obtain⟨o,D,e,⟨n,c⟩,s,h⟩:=Zf (j:=⟨λA i=>(zI (zq p[j]) A).map λP=>P[i]?,p[j].length⟩) (st:=turn (zC 5) (zo (yd gQ (qf 3) (qf 2) (qf 5)) zx)) (N:=p[j].length)
    (I:=λm K C=>(C=B++[.dct ((p[j].take m).foldl (λd k=>yD d (.inl k) (.int ((j+1:Nat):Int))) d0)]/\((p[j].take m).foldl (λd k=>yD d (.inl k) (.int ((j+1:Nat):Int))) d0).length<=d0.length+m)/\∃y,K=[some (zt t),rO i,rO B.length,iV ((j+1:Nat):Int),some (zq p[j]),y])
    (λm K C L ⟨⟨l,c⟩,y,h⟩=>by
     subst l h;refine⟨.int p[j][m],[some (zt t),rO i,rO B.length,iV ((j+1:Nat):Int),some (zq p[j]),some (.int p[j][m])],_,?_,(wy (ρ1:=[some (zt t),rO i,rO B.length,iV ((j+1:Nat):Int),some (zq p[j]),some (.int p[j][m])]) rfl).trans ((zE (Su (zj rfl) (zj rfl) (zj rfl) (Aq qc (by omega)))).trans jw),⟨?_,?_⟩,_,rfl⟩
     ·show some ((p[j].map W.int)[m]?)=_
      rw[ax,aa L]
      rfl
     ·rw[G3,Qp L]
     ·rw[Qp L]
      have:=Bg ((p[j].take m).foldl (λd k=>yD d (.inl k) (.int ((j+1:Nat):Int))) d0) (.inl p[j][m]) (.int ((j+1:Nat):Int))
      omega)
    (λK C _=>by
     show some ((p[j].map W.int)[p[j].length]?)=_;rw[aH (by rw[ag];exact ar _)]) p[j].length 0 [some (zt t),rO i,rO B.length,iV ((j+1:Nat):Int),some (zq p[j]),y] (B++[.dct d0]) (by omega) ⟨⟨rfl,by simp⟩,_,rfl⟩
   rw[bD]at n c;subst n h;have M:=R0 (q:=p[j]) (m:=qf 4) (ρ:=[some (zt t),rO i,rO B.length,iV ((j+1:Nat):Int),some (zq p[j]),y]) (A:=B++[.dct d0]) (zj rfl);refine⟨.tup [.int ((j+1:Nat):Int),zq p[j]],_,_,?_,(wy (ρ1:=[some (zt t),rO i,rO B.length,iV ((j+1:Nat):Int),some (zq p[j]),y]) rfl).trans ((zE ((wz M).trans e)).trans jw),⟨?_,?_⟩,_,_,_,rfl⟩
   ·unfold QG
    dsimp only;rw[H];dsimp only;unfold atEnd;rw[ax,aa f]
    rfl
   ·rw[Qp (by rw[z];exact f),g,E]
    rfl
   ·rw[Qp (by rw[z];exact f),g,E]
    show List.length (p[j].foldl (λd k=>yD d (.inl k) (.int ((j+1:Nat):Int))) d0)<=_;omega)
  (λK C ⟨⟨l,_⟩,_⟩=>by
   subst l;unfold QG;dsimp only;rw[H];dsimp only;unfold atEnd;rw[aH (by rw[ag];exact ar _)]
   dsimp only;rw[ah (ag ..)]) p.length 0 [some (zt t),rO i,rO B.length,none,none,none] (B++[.dct [(.inl 0,.int 0)]]) (by omega) ⟨⟨rfl,by simp⟩,_,_,_,rfl⟩
 subst h;refine⟨a,Y,y,(wz (j:=QG (.ref i) p.length) ?_).trans (e.trans ?_)⟩
 ·unfold Wd
  rw[zj (w:=.ref i) rfl,zA];rw[H];show R.ok (QG (.ref i) (p.map zq).length) _=_;rw[ag]
 ·rw[n.1,List.take_of_length_le (by rw[z];exact ar _)]
  rfl
def O3 {I:Nat}{C D:bV}(H:qm t)(n:ρ[I]? =some (some (zt t)))(e:∀(r:bR)(v:Nat),(v:Int)<qx t->me (iV v::D.map λi=>((some (qg r)::C.map λi=>(ρ[i]?).join)[i]?).join) A=.ok (.int (l.getD v 0)) A):
  mQ yg (zN 1 C (z9 (qf I)) (zC 0) zS (zK (mQ yg (zN 1 D (z9 zl) (zC 0) zS (zK me))))) ρ A=.ok (zt (yM t l)) A:=by
 have N:=H.n8;have E:=Qq (cap:=C) (A:=A) (ρ:=ρ) (ws:=t.map qg) (me:=mQ yg (zN 1 D (z9 zl) (zC 0) zS (zK me))) (g:=λw=>match w with|.tup s=>.tup (s.map λw=>match w with|.int v=>.int (l.getD v.toNat 0)|_=>.non)|_=>.non) (zj n) (by rw[ag];unfold zR;omega) (λw j=>by
  obtain⟨r,a,rfl⟩:=cq.mp j;have d:=H.sq r a;exact Jk (Qq (cap:=D) (ws:=r.map W.int) (me:=me) (g:=λw=>match w with|.int v=>.int (l.getD v.toNat 0)|_=>.non) (zj (i:=0) rfl) (by rw[ag];unfold zR;omega) (λw j=>by
   obtain⟨v,b,rfl⟩:=cq.mp j;have c:=H.lo r a v b;have h:v<qx t:=by
    have o:=KG b;have f:=KG (cq.mpr ⟨r,a,rfl⟩:ka r∈t.map ka);unfold qx;omega
   obtain⟨k,rfl⟩:=bb c.1;exact e r k h)))
 refine(Jk E).trans ?_;rw[aU];unfold zt yM;rw[aU]
 congr 2
 refine bf λr _=>?_;show W.tup ((r.map W.int).map _)=qg _;unfold qg;rw[aU,aU]
 rfl
def i6 (H:qm t)(b:qx t=(K:Int))(h:ZE K p)(c:A[d]? =some (.dct (Qh p))):Y4 [zt t,.ref d] A=.ok (zt (yM t (yB K p))) A:=by
 unfold Y4 Tb;refine qy ?_;unfold TJ;refine qd (qA (O3 H rfl λ_ k a=>?_));refine(zG (zj (i:=1) rfl) (zj (i:=0) rfl)).trans ?_;show Ye (.ref d) (.int k) A=_;unfold Ye;show(match A[d]? with|some (.dct lG)=>(match jj (.inl (k:Int)) lG with|some w=>R.ok w A|none=>.bad)|_=>.bad)=_
 rw[c];dsimp only;rw[h.val k (by omega)]
def AR (H:qm t)(c:qx t=(K:Int))(h:ZE K p)(b:A[i]? =some (pO p)):KR [zt t,.ref i] A=.ok (zt (yM t (yB K p))) (A++[.dct (Qh p)]):=by
 have f:=wF H;have w:=h.few;obtain⟨d,Y,y,e⟩:=Di (t:=t) b (by omega) (λq a=>(h.part q a).1)
 unfold KR RX;refine qy ?_;unfold RN;have E:WJ (zZ (.int 0)) (zZ (.int 0)) [some (zt t),rO i,none,none,none,none] A=.ok (.ref A.length) (A++[.dct [(.inl 0,.int 0)]]):=by
  unfold WJ;rw[qe,zA,qe,zA];show(match some (Sum.inl 0:Key),(A++[O.dct []])[A.length]? with|some k,some (.dct [])=>R.ok (W.ref A.length) ((A++[O.dct []]).set A.length (.dct [(k,.int 0)]))|_,_=>.bad)=_
  rw[qc];show R.ok (W.ref A.length) ((A++[O.dct []]).set A.length (.dct [(.inl 0,.int 0)]))=_;rw[G3]
 refine(zE (qC E)).trans ((zE e).trans (qd (qA ((ql (zP (zj rfl) (zP (zj rfl) qa))).trans (i6 H c h qc)))))
end
noncomputable def kR (p:Pg):List (Int×Nat):=(p.zipIdx 1).flatMap λq=>q.1.map λk=>(k,q.2)
def PD (K:Nat)(p:Pg):yB K p=(kR p).foldl (λl q=>l.set q.1.toNat (q.2:Int)) (List.replicate K 0):=by
 unfold yB kR;generalize (List.replicate K (0:Int))=l;generalize p.zipIdx 1=z
 induction z generalizing l with
 |nil=>rfl|cons q z i=>
  rw[bH,flatMap_cons,foldl_append,i]
  congr 1
  rw[List.foldl_map]
def i7 (p:Pg):Qh p=(kR p).foldl (λd q=>yD d (.inl q.1) (.int q.2)) [(.inl 0,.int 0)]:=by
 unfold Qh kR;generalize [((.inl 0,.int 0):Key×W)]=l;generalize p.zipIdx 1=z
 induction z generalizing l with
 |nil=>rfl|cons q z i=>
  rw[bH,flatMap_cons,foldl_append,i]
  congr 1
  rw[List.foldl_map]
theorem PK:∀(l:List (Int×Nat))(s:bR),(l.foldl (λs q=>s.set q.1.toNat (q.2:Int)) s).length=s.length
 |[],s=>rfl|q::l,s=>by rw[bH,PK l,a6]
theorem PN:∀(l:List (Int×Nat))(s:bR),(l.map (·.1)).Nodup->(∀q∈l,0<=q.1/\q.1.toNat<s.length)->∀k:Nat,k<s.length->
  (l.foldl (λs q=>s.set q.1.toNat (q.2:Int)) s).getD k 0=match l.lookup (k:Int) with|some v=>(v:Int)|none=>s.getD k 0
 |[],s,_,_,k,_=>rfl|q::l,s,nd,H,k,a=>by
  rw[aK,nodup_cons]at nd;rw[bH,PN l _ nd.2 (λx h=>by rw[a6];exact H x (ak _ h)) k (by rw[a6];exact a),bE]
  obtain⟨c,b⟩:=H q (aq ..)
  by_cases e:(k:Int)=q.1
  ·have:l.lookup (k:Int)=none:=by
    rw[List.lookup_eq_none_iff];intro x h;refine bne_iff_ne.mpr λz=>?_;exact nd.1 (cq.mpr ⟨x,h,by rw[<- e,z]⟩)
   rw[this,show((k:Int)==q.1)=true from by simpa using e]
   dsimp only;have E:q.1.toNat=k:=by omega
   rw[E,ae,aC a]
   rfl
  ·rw[show((k:Int)==q.1)=false from by simpa using e]
   dsimp only;cases l.lookup (k:Int) with
   |some v=>rfl|none=>
    dsimp only;rw[ae,aI (by omega),ae]
def OK {d:List (Key×W)}{j k:Key}{v:W}:jj k (yD d j v)=if j=k then some v else jj k d:=by
 unfold yD
 by_cases h:(d.any λK=>decide (K.1=j))=true
 ·rw[ah h]
  have go:∀d:List (Key×W),jj k (d.map λK=>if K.1=j then(K.1,v) else K)=if j=k/\(d.any λK=>decide (K.1=j))=true then some v else jj k d:=by
   intro d
   induction d with
   |nil=>simp[jj]|cons K r i=>
    rw[aK];obtain⟨a,w⟩:=K
    by_cases b:a=j
    ·subst b
     by_cases H:a=k
     ·subst H;simp[jj]
     ·simp[jj,H,i]
    ·by_cases H:a=k
     ·subst H
      have:¬j=a:=λz=>b z.symm
      simp[jj,b,this]
     ·simp only[ai b,jj,ai H,i,bJ,aD b,Bool.false_or]
  rw[go,h];simp
 ·rw[ai h,SX]
  have n:∀K∈d,K.1≠j:=λK c z=>h (List.any_eq_true.mpr ⟨K,c,by simpa using z⟩)
  by_cases H:j=k
  ·subst H
   rw[ah rfl];cases e:jj j d with
   |some w=>exact absurd rfl (n _ (Rp e))|none=>simp[jj]
  ·rw[ai H]
   cases e:jj k d with
   |some w=>rfl|none=>simp[jj,H]
theorem RZ:∀(l:List (Int×Nat))(d:List (Key×W)),(l.map (·.1)).Nodup->∀k:Int,jj (.inl k) (l.foldl (λd q=>yD d (.inl q.1) (.int q.2)) d)=match l.lookup k with|some v=>iV v|none=>jj (.inl k) d
 |[],d,_,k=>rfl|q::l,d,nd,k=>by
  rw[aK,nodup_cons]at nd;rw[bH,RZ l _ nd.2 k,bE]
  by_cases e:k=q.1
  ·have:l.lookup k=none:=by
    rw[List.lookup_eq_none_iff];intro x h;refine bne_iff_ne.mpr λz=>?_;exact nd.1 (cq.mpr ⟨x,h,by rw[<- e,z]⟩)
   rw[this,show(k==q.1)=true from by simpa using e]
   dsimp only;rw[OK,ah (by rw[e])]
  ·rw[show(k==q.1)=false from by simpa using e]
   dsimp only;cases l.lookup k with
   |some v=>rfl|none=>
    dsimp only;rw[OK,ai (λz=>e (by injection z with z;exact z.symm))]
def Xj (p:Pg):(kR p).map (·.1)=p.flatten:=by
 unfold kR;have go:∀(p:Pg)(n:Nat),((p.zipIdx n).flatMap λq=>q.1.map λk=>(k,q.2)).map (·.1)=p.flatten:=by
  intro p
  induction p with
  |nil=>intro n;rfl|cons q p i=>
   intro n;rw[zipIdx_cons,flatMap_cons,aW,i,aO]
   congr 1
   rw[aU];exact map_id _
 exact go p 1
def RK {p:Pg}{k:Int}{v:Nat}:(k,v)∈kR p↔∃i,i<p.length/\v=i+1/\k∈p.getD i []:=by
 unfold kR;rw[List.mem_flatMap]
 constructor
 ·rintro⟨⟨q,j⟩,b,h⟩
  obtain⟨x,H,e⟩:=cq.mp h;cases e;obtain⟨l,f,d⟩:=List.mem_zipIdx b;have a:j-1<p.length:=by omega
  refine⟨j-1,a,by omega,?_⟩
  rw[ae,aa a];rw[d]at H;exact H
 ·rintro⟨i,g,rfl,c⟩
  refine⟨(p.getD i [],i+1),?_,cq.mpr ⟨k,c,rfl⟩⟩;rw[List.mk_mem_zipIdx_iff_le_and_getElem?_sub];refine⟨by omega,?_⟩
  rw[Nat.add_sub_cancel,ae,aa g]
  rfl
def Rc {l:List (Int×Nat)}(n:(l.map (·.1)).Nodup){k:Int}{v:Nat}(h:(k,v)∈l):l.lookup k=some v:=by
 induction l with
 |nil=>cases h|cons q l i=>
  rw[aK,nodup_cons]at n;rw[bE];rcases cn.mp h with rfl|h
  ·simp
  ·have:(k==q.1)=false:=by
    rw[beq_eq_false_iff_ne];intro z;exact n.1 (cq.mpr ⟨_,h,z⟩)
   rw[this];exact i n.2 h
def i8 {K:Nat}{p:Pg}(w:1<=K)(o:∀q∈p,q.length<=8/\∀k∈q,1<=k/\k<(K:Int))(C:p.flatten.Nodup)(l:∀k:Nat,1<=k->k<K->(k:Int)∈p.flatten)(N:[]∉p):ZE K p:=by
 have f:∀k∈p.flatten,1<=k/\k<(K:Int):=λk H=>by
  obtain⟨q,a,h⟩:=List.mem_flatten.mp H;exact(o q a).2 k h
 have n:((kR p).map (·.1)).Nodup:=by rw[Xj];exact C
 have A:∀q∈kR p,1<=q.1/\q.1<(K:Int):=λq a=>f _ (by rw[<- Xj];exact List.mem_map_of_mem a)
 have fl:p.flatten.length+1<=K:=by
  have:=J6 K (0::p.flatten) (List.nodup_cons.mpr ⟨λz=>by have:=(f 0 z).1;omega,C⟩) (λr j=>by
   rcases cn.mp j with rfl|j
   ·omega
   ·have:=f r j;omega)
  simpa using this
 have J:p.length<=p.flatten.length:=by
  have go:∀p:Pg,[]∉p->p.length<=p.flatten.length:=by
   intro p
   induction p with
   |nil=>intro _;exact ar _|cons q p t=>
    intro h;have D:=t λz=>h (ak _ z);have s:q≠[]:=λz=>h (by rw[z];exact aq ..)
    have y:0<q.length:=List.length_pos_iff.mpr s;rw[aO,aj,aL];omega
  exact go p N
 have g:∀k,k<K->(yB K p).getD k 0=match (kR p).lookup (k:Int) with|some v=>(v:Int)|none=>0:=λk H=>by
  rw[PD,PN _ _ n (λq a=>by have:=A q a;rw[aT];omega) k (by rw[aT];exact H)]
  cases (kR p).lookup (k:Int) with
  |some v=>rfl|none=>
   dsimp only;rw[ae,a7,ah H]
   rfl
 have I:(kR p).lookup 0=none:=by
  rw[List.lookup_eq_none_iff];intro x c
  have:=(A x c).1
  refine bne_iff_ne.mpr λz=>?_;omega
 have L:∀k:Nat,1<=k->k<K->∃i,i<p.length/\(k:Int)∈p.getD i []/\(kR p).lookup (k:Int)=some (i+1):=λk D s=>by
  have h:=l k D s;rw[<- Xj]at h;obtain⟨⟨x,v⟩,c,e⟩:=cq.mp h;have E:x=(k:Int):=e;subst E;obtain⟨i,B,rfl,H⟩:=RK.mp c;exact⟨i,B,H,Rc n c⟩
 refine⟨by rw[PD,PK,aT],o,by omega,λk H=>?_,λk H=>?_,λk H=>?_,λv u=>?_⟩
 ·rw[g k H]
  by_cases h:k=0
  ·subst h
   rw[show((0:Nat):Int)=0 from rfl,I]
   simp
  ·obtain⟨i,B,_,e⟩:=L k (by omega) H
   rw[e];show((i+1:Nat):Int)=0↔k=0
   constructor
   ·intro z;omega
   ·intro z;exact absurd z h
 ·rw[g k H]
  by_cases h:k=0
  ·subst h
   rw[show((0:Nat):Int)=0 from rfl,I]
   dsimp only;omega
  ·obtain⟨i,B,_,e⟩:=L k (by omega) H
   rw[e];show 0<=((i+1:Nat):Int)/\((i+1:Nat):Int)<=(p.length:Int);omega
 ·rw[g k H,i7,RZ _ _ n]
  by_cases h:k=0
  ·subst h
   rw[show((0:Nat):Int)=0 from rfl,I]
   rfl
  ·obtain⟨i,B,_,e⟩:=L k (by omega) H
   rw[e]
 ·by_cases h:v=0
  ·subst h
   exact⟨0,by omega,by rw[g 0 (by omega),show((0:Nat):Int)=0 from rfl,I]⟩
  ·have B:v-1<p.length:=by omega
   have a:p.getD (v-1) []∈p:=by rw[ae,aa B];exact aN _
   cases d:p.getD (v-1) [] with
   |nil=>rw[d]at a;exact absurd a N|cons x q=>
    have c:x∈p.getD (v-1) []:=by rw[d];exact aq ..
    have b:=(o _ a).2 x c;refine⟨x.toNat,by omega,?_⟩
    rw[g _ (by omega),show((x.toNat:Nat):Int)=x by omega,Rc n (RK.mpr ⟨v-1,B,rfl,c⟩)]
    show((v-1+1:Nat):Int)=(v:Int);omega
section
variable {C:Hx}{e k K:Nat}{w:W}{p:bQ}
noncomputable def V5 (l:bR)(q:List Int×Nat):bR:=q.1.foldl (λl k=>l.set k.toNat (q.2:Int)) l
theorem Xe {v:Int}:∀(q l:bR),(q.foldl (λl k=>l.set k.toNat v) l).length=l.length
 |[],l=>rfl|k::q,l=>by rw[bH,Xe q];exact a6
theorem map_set {k:Nat}{v:Int}:(l.map W.int).set k (.int v)=(l.set k v).map W.int:=by rw[List.map_set]
def i9 {k:Nat}{v:Int}(h:A[n]? =some (.lst (l.map W.int)))(H:k<l.length)(a:l.length<=8):j6 (.ref n) (.int k) (.int v) A=.ok () (A.set n (.lst ((l.set k v).map W.int))):=by
 refine(KS h (by rw[ag];exact H)).trans ?_
 rw[map_set]
abbrev NT:Ex:=zo (yd j6 (zi zL zB zu) zM jd) zx
abbrev NR:Ex:=zo (jR (z9 (zi zH zm zB)) (zC 4) NT) zx
def HQ (J:B[i]? =some (pO p))(h:ZE K p)(L:K<=8):∃Y y,jR (jm (mQ qw (zX zm))) (zC 3) NR [some (zt t),rO i,rO B.length,none,none] (B++[.lst ((List.replicate K (0:Int)).map W.int)])=.ok (.nx [some (zt t),rO i,rO B.length,Y,y]) (B++[.lst ((yB K p).map W.int)]):=by
 have r:=h.few;have z:(p.zipIdx 1).length=p.length:=List.length_zipIdx;have a:∀X:O,(B++[X])[i]? =some (pO p):=λX=>qR J;obtain⟨f,P,e,⟨d,_⟩,Y,y,H⟩:=Zf (j:=yv 0 p.length) (st:=turn (zC 3) NR) (N:=p.length)
  (I:=λj T C=>(C=B++[.lst ((((p.zipIdx 1).take j).foldl V5 (List.replicate K 0)).map W.int)]/\(((p.zipIdx 1).take j).foldl V5 (List.replicate K 0)).length=K)/\∃Y y,T=[some (zt t),rO i,rO B.length,Y,y])
  (λj T C b ⟨⟨g,o⟩,Y,y,H⟩=>by
   subst g H;generalize c:((p.zipIdx 1).take j).foldl V5 (List.replicate K 0)=d0 at o;have D:=h.part _ (aN b);have E:(p.zipIdx 1)[j]'(by rw[z];exact b)=(p[j],j+1):=by simp[add_comm]
   obtain⟨f,P,e,d,u,H⟩:=Zf (j:=⟨λA i=>(zI (zq p[j]) A).map λws=>ws[i]?,p[j].length⟩) (st:=turn (zC 4) NT) (N:=p[j].length)
    (I:=λm T C=>C=B++[.lst (((p[j].take m).foldl (λl k=>l.set k.toNat ((j+1:Nat):Int)) d0).map W.int)]/\∃y,T=[some (zt t),rO i,rO B.length,iV j,y])
    (λm T C U ⟨g,y,H⟩=>by
     subst g H;have Q:=D.2 _ (aN U);obtain⟨k,s⟩:=bb (show 0<=p[j][m] by omega)
     have S:=Xe (v:=((j+1:Nat):Int)) (p[j].take m) d0;refine⟨.int p[j][m],[some (zt t),rO i,rO B.length,iV j,some (.int p[j][m])],_,?_,(wy (ρ1:=[some (zt t),rO i,rO B.length,iV j,some (.int p[j][m])]) rfl).trans ((zE (Su (v:=.int ((j+1:Nat):Int)) ((zG (zj rfl) qe).trans rfl) (zj rfl) (zj rfl) (by rw[s];exact i9 (k:=k) qc (by rw[S];omega) (by rw[S];omega)))).trans jw),?_,_,rfl⟩
     ·show some ((p[j].map W.int)[m]?)=_
      rw[ax,aa U]
      rfl
     ·rw[G3,Qp U,s]
      rfl)
    (λT C _=>by
     show some ((p[j].map W.int)[p[j].length]?)=_;rw[aH (by rw[ag];exact ar _)]) p[j].length 0 [some (zt t),rO i,rO B.length,iV j,y] (B++[.lst (d0.map W.int)]) (by omega) ⟨rfl,_,rfl⟩
   rw[bD]at d;subst d H;have Z:=R0 (q:=p[j]) (m:=zi zH zm zB) (ρ:=[some (zt t),rO i,rO B.length,iV j,y]) (A:=B++[.lst (d0.map W.int)]) ((zG (zj rfl) (zj rfl)).trans (yY (a _) (by rw[ax,aa b];rfl)))
   refine⟨.int (0+(j:Int)),_,_,Zo b,(wy (ρ1:=[some (zt t),rO i,rO B.length,iV j,y]) (by rw[zero_add];rfl)).trans ((zE ((wz Z).trans e)).trans jw),⟨?_,?_⟩,_,_,rfl⟩
   ·rw[Qp (by rw[z];exact b),c,E]
    rfl
   ·rw[Qp (by rw[z];exact b),c,E]
    show List.length (p[j].foldl _ d0)=_;rw[Xe];exact o)
  (λT C _=>Zj (by omega)) p.length 0 [some (zt t),rO i,rO B.length,none,none] (B++[.lst ((List.replicate K (0:Int)).map W.int)]) (by omega) ⟨⟨rfl,by simp⟩,_,_,rfl⟩
 subst H;refine⟨Y,y,(wz (j:=yv 0 p.length) ?_).trans (e.trans ?_)⟩
 ·have x:zI (.ref i) (B++[O.lst ((List.replicate K (0:Int)).map W.int)])=some (p.map zq):=by unfold zI;dsimp only;rw[a]
  have M:mQ qw (zX zm) [some (zt t),rO i,rO B.length,none,none] (B++[O.lst ((List.replicate K (0:Int)).map W.int)])=.ok (.int p.length) (B++[O.lst ((List.replicate K (0:Int)).map W.int)]):=by
   rw[jF (j3 (w:=.ref i) (zj rfl) x)];unfold qw;rw[ag]
  have U:=JT M (Qn (n:=p.length) (by omega))
  rw[aP]at U;exact U
 ·rw[d,List.take_of_length_le (by rw[z];exact ar _)]
  rfl
def js (H:qm t)(b:qx t=(K:Int))(h:ZE K p)(a:A[i]? =some (pO p)):∃B,ZK [zt t,.ref i] A=.ok (zt (yM t (yB K p))) B/\Ext A B:=by
 have N:=H.n8;have c:=wF H;have x:Ext A (A++[.lst [.int 0]]):=Ext.one;obtain⟨Y,y,e⟩:=HQ (t:=t) (x.at a) h (by omega)
 have E:zi ja (zJ (zc zD zh)) (zw yr (zc zl zh)) [some (zt t),rO i,none,none,none] A=.ok (.ref (A++[O.lst [.int 0]]).length) (A++[.lst [.int 0]]++[.lst ((List.replicate K (0:Int)).map W.int)]):=by
  refine(zG (jl (zP qe qa)) ((ql (zP (zj rfl) qa)).trans ((Jg H _).trans (by rw[b])))).trans ?_
  unfold ja;dsimp only;rw[qc];dsimp only;rw[ah (by rw[Qn (by omega),aP];simp;unfold zR;omega),aP,rep1,List.map_const',a5,List.map_replicate]
 generalize A++[O.lst [.int 0]]=A1 at e E x;have n:(A1++[O.lst ((yB K p).map W.int)])[A1.length]? =some (.lst ((yB K p).map W.int)):=qc;refine⟨A1++[.lst ((yB K p).map W.int)],?_,x.trans Ext.one⟩;generalize A1.length=m at e E n;generalize A1++[O.lst ((yB K p).map W.int)]=A2 at e n;unfold ZK TF;refine qy ?_;unfold Ta;refine(zE (qC E)).trans ((zE e).trans (qd (qA ?_)));refine O3 H rfl λ_ k d=>(zG (zj (i:=1) rfl) (zj (i:=0) rfl)).trans (yY n ?_);rw[ax,aa (by rw[h.len];omega),ae,aa (by rw[h.len];omega)]
 rfl
end
def FZ {j:jo}{ifs:Ev}{em:Em}{N:Nat}
  (p:∀i s r A,i<N->I i s r A->∃w ρ1,j.at_ A i=some (some w)/\tw w s=some ρ1/\∃A1 c a A2,ifs ρ1 A=.ok (.bl true) A1/\em ρ1 r A1=.ok (c,a) A2/\I (i+1) c a A2)
  (H:∀s r A,I N s r A->j.at_ A N=some none):
  ∀(f i:Nat)(s:En)(r:List W)(A:Hx),i<=N->N<=i+f->I i s r A->∃e b g,qZ j tw ifs em f i s r A=.ok (e,b) g/\I N e b g:=by
 intro f
 induction f with
 |zero=>
  intro i s r A h v d
  have:i=N:=by omega
  subst this;refine⟨s,r,A,?_,d⟩;unfold qZ;rw[H _ _ _ d]
 |succ f l=>
  intro i s r A h v d
  by_cases t:i=N
  ·subst t
   refine⟨s,r,A,?_,d⟩;rw[qZ,H _ _ _ d]
  ·obtain⟨w,ρ1,u,n,A1,c,a,A2,q,o,E⟩:=p i s r A (by omega) d
   rw[qZ,u];dsimp only;rw[n];dsimp only;rw[q,zA];dsimp only;rw[o,zA];exact l (i+1) _ _ _ (by omega) (by omega) E
def Pl {a b c:Ev}{l i:Int}{v:Int}(d:a ρ A=.ok (.int l) A)(H:b ρ A=.ok (.int v) A)(h:c ρ A=.ok (.int i) A):yt yW yW a b c ρ A=.ok (.bl (decide (l<=v)&&decide (v<=i))) A:=by
 unfold yt;rw[d,zA,H,zA];show R.bind (R.ok (W.bl (decide (l<=v))) A) _=_;rw[zA]
 by_cases q:l<=v
 ·rw[aE q]
  dsimp only;rw[h,zA,Bool.true_and]
  rfl
 ·rw[aD q]
  rfl
def OT:yO ws (some 1) none=ws.drop 1:=by
 unfold yO;cases ws with
 |nil=>rfl|cons v r=>
  have H:HT.qb (v::r).length 0 (some 1)=1:=by unfold HT.qb;simp
  have h:HT.qb (v::r).length (v::r).length none=(v::r).length:=rfl;rw[H,h];exact List.take_of_length_le (by rw[bI];exact ar _)
section
variable {C:Hx}{e k m:Nat}{v:W}{p:Pg}{us:List W}{hi:Int}
def Oz {m:Ev}(h:m ρ A=.ok (.tup ws) A):qX m (qO zu) jv ρ A=.ok (.tup (ws.drop 1)) A:=by
 unfold qX;rw[h,zA];show R.ok (W.tup (yO ws (some 1) none)) A=_;rw[OT]
def jM {m:Ev}(h:m ρ A=.ok (.ref n) A)(H:A[n]? =some (.lst ws)):qX m (qO zu) jv ρ A=.ok (.ref A.length) (A++[.lst (ws.drop 1)]):=by
 unfold qX;rw[h,zA];show(match A[n]? with|some (O.lst ws)=>R.ok (W.ref A.length) (A++[O.lst (yO ws (some 1) none)])|_=>.bad)=_
 rw[H];dsimp only;rw[OT]
def QA (h:A[n]? =some (.lst ws)):zI (.ref n) A=some ws:=by
 show(match A[n]? with|some (.lst ws)=>some ws|some (.ro ws)=>some ws|_=>none)=_
 rw[h]
def OD {x:W}{lt:Nat->Bool}(o:qX zl (qO zu) jv [some v] A=.ok x C)(f:zI v C=some us)(d:zI x C=some (us.drop 1))(q:us.length<=100)(H:∀i,i+1<us.length->Zu (us.getD i .non) (us.getD (i+1) .non) C=.ok (.bl (lt i)) C):ZJ [v] A=.ok (.bl ((List.range (us.length-1)).all lt)) C:=by
 unfold ZJ Tv;refine qy ?_;unfold Tt;have at_:∀i,i<us.length->us[i]? =some (us.getD i .non):=λi t=>by rw[ae,aa t];rfl
 have n:Qa zl (qX zl (qO zu) jv) [some v] A=.ok (Z7 v x us.length) C:=by
  unfold Qa;rw[show zl [some v] A=.ok v A from zj rfl,zA,o,zA,f,d]
 have z:∀i,(Z7 v x us.length).at_ C i=some (zip2 us[i]? (us.drop 1)[i]?):=λi=>by
  unfold Z7;dsimp only;rw[f,d]
 obtain⟨g,r,B,e,_,b,a⟩:=FZ (j:=Z7 v x us.length) (tw:=yL 0 1) (ifs:=zS) (em:=zK (zi Zu zl zm)) (N:=us.length-1)
  (I:=λi s r B=>(∃c Y,s=[c,Y])/\B=C/\r=(List.range i).map λi=>W.bl (lt i))
  (λi s r B t ⟨⟨c,Y,h⟩,b,a⟩=>by
   subst h b a;refine⟨.tup [us.getD i .non,us.getD (i+1) .non],[some (us.getD i .non),some (us.getD (i+1) .non)],?_,rfl,B,_,_,B,rfl,Qs (y:=.bl (lt i)) ((zG (zj rfl) (zj rfl)).trans (H i (by omega))) (by rw[ag,a5];unfold zR;omega),⟨_,_,rfl⟩,rfl,?_⟩
   ·rw[z,at_ i (by omega),List.getElem?_drop,add_comm 1 i,at_ (i+1) (by omega)]
    rfl
   ·rw[range_succ,aW]
    rfl)
  (λs r B p=>by
   rw[p.2.1,z,aH (l:=us.drop 1) (by rw[bI];exact ar _)]
   cases us[us.length-1]?<;>rfl) us.length 0 [none,none] [] C (by omega) (by omega) ⟨⟨_,_,rfl⟩,rfl,rfl⟩
 subst b a;have E:zN 2 [] (Qa zl (qX zl (qO zu) jv)) (yL 0 1) zS (zK (zi Zu zl zm)) [some v] A=.ok ((List.range (us.length-1)).map λi=>W.bl (lt i)) B:=by
  unfold zN;rw[n,zA];show(R.nox (qZ _ _ _ _ us.length 0 [none,none] [] B)).bind _=_;rw[e]
  rfl
 refine qd (qA ((jF E).trans ?_));show wa (λK=>K.all id) _ B=_;unfold wa;rw[JN];show R.ok (W.bl (((List.range (us.length-1)).map λi=>lt i).all id)) B=_;rw[all_map]
 rfl
def Nr {f:List Int->W}{l:Pg}(h:i<l.length):(l.map f).getD i .non=f (l.getD i []):=by
 rw[ae,ax,ae,aa h]
 rfl
noncomputable def y9 (r:bR):Bool:=(List.range (r.length-1)).all λi=>decide (r.getD i 0<r.getD (i+1) 0)
def Qb (p:Pg):Bool:=(List.range (p.length-1)).all λi=>kA (p.getD i []) (p.getD (i+1) [])
def EZ {r:bR}(h:r.length<=100)(A:Hx):ZJ [qg r] A=.ok (.bl (y9 r)) A:=by
 have g:∀i,i<r.length->(r.map W.int).getD i .non=.int (r.getD i 0):=λi H=>by rw[ae,int_at H];rfl
 have e:=OD (lt:=λi=>decide (r.getD i 0<r.getD (i+1) 0)) (Oz (ws:=r.map W.int) (zj rfl)) (us:=r.map W.int) (A:=A) (C:=A) rfl rfl (by rw[ag];omega) λi H=>by
  rw[ag]at H;rw[g i (by omega),g (i+1) H]
  rfl
 rw[ag]at e;exact e
def jP {p:Pg}(h:A[n]? =some (pO p))(H:p.length<=100):∃o,ZJ [.ref n] A=.ok (.bl (Qb p)) (A++[o]):=by
 have e:=OD (lt:=λi=>kA (p.getD i []) (p.getD (i+1) [])) (jM (zj rfl) h) (us:=p.map zq) (QA (qR h)) (QA qc) (by rw[ag];omega) λi a=>by
  rw[ag]at a;rw[Nr (by omega),Nr a]
  show(match intsOf (_:List W),intsOf _ with|some k,some l=>R.ok (W.bl (kA k l)) _|_,_=>.bad)=_
  rw[wx,wx]
 rw[ag]at e;exact⟨_,e⟩
end
def Tq {ifs:Ev}{p:W->Bool}(h:ρ[0]? =some (some (.tup ws)))(g:ws.length<=1000)(o:∀w∈ws,ifs (some w::cap.map λi=>(ρ[i]?).join) A=.ok (.bl (p w)) A):zN 1 cap (z9 zl) (zC 0) ifs (zK zl) ρ A=.ok (ws.filter p) A:=by
 obtain⟨a,j,B,e,_,f,d⟩:=Jb (nl:=1) (cap:=cap) (mi:=z9 zl) (tw:=zC 0) (ifs:=ifs) (em:=zK zl) (N:=ws.length) (ρ:=ρ) (A:=A)
  (I:=λi a j B=>(∃y,a=y::cap.map λi=>(ρ[i]?).join)/\B=A/\j=(ws.take i).filter p) (ZS (zj h)) rfl
  (λi a j B H ⟨⟨y,c⟩,f,d⟩=>by
   subst c f d;have n:ws[i]? =some ws[i]:=aa H;have t:ws.take (i+1)=ws.take i++[ws[i]]:=by rw[List.take_add_one,n];rfl
   refine⟨ws[i],some ws[i]::cap.map λi=>(ρ[i]?).join,?_,rfl,?_⟩
   ·show((zI (.tup ws) B).map λws=>ws[i]?)=some (some ws[i])
    show some (ws[i]?)=_;rw[n]
   ·have q:=o ws[i] (aN H)
    cases b:p ws[i] with
    |true=>
     rw[b]at q;refine .inl ⟨B,_,_,B,q,Qs (zj rfl) ?_,⟨_,rfl⟩,rfl,?_⟩
     ·have:=length_filter_le p (ws.take i)
      rw[bp]at this;unfold zR;omega
     ·rw[t,filter_append,List.filter_cons_of_pos (by rw[b])]
      rfl
    |false=>
     rw[b]at q;refine .inr ⟨B,q,⟨_,rfl⟩,rfl,?_⟩;rw[t,filter_append,List.filter_cons_of_neg (l:=[]) (by rw[b];simp)]
     simp)
  (λa j B _=>by
   show some (ws[ws.length]?)=_;rw[aH (ar _)]) ⟨⟨none,rfl⟩,rfl,rfl⟩
 subst f d;rw[bD]at e;exact e
structure It (w:W):Prop where
 ty:∃ty,∀A,q9 w A=some ty
 nr:w.nr=true
 dat:∃d,∀A,zO A 7 w=some d
def Xy (v:Int):It (.int v):=⟨⟨.int,λ_=>rfl⟩,rfl,⟨.int v,λ_=>rfl⟩⟩
noncomputable def yq (l h:Int):W->Bool
 |.int v=>decide (l<=v)&&decide (v<=h)|_=>false
noncomputable def jD (s:List W):bR:=s.map λw=>match w with
 |.int v=>v|_=>0
theorem KH {l i:Int}:∀{s:List W},s.all (yq l i)=true->s=(jD s).map W.int/\∀v∈jD s,l<=v/\v<=i
 |[],_=>⟨rfl,λv a=>by cases a⟩|w::s,h=>by
  rw[List.all_cons,av]at h;obtain⟨c,b⟩:=KH h.2;cases w with
  |int v=>
   have a:(decide (l<=v)&&decide (v<=i))=true:=h.1;rw[av,ao,ao]at a;refine⟨?_,λu H=>?_⟩
   ·show W.int v::s=W.int v::(jD s).map W.int
    rw[<- c]
   ·have H:u∈v::jD s:=H
    rcases cn.mp H with rfl|H
    ·exact a
    ·exact b u H
  |_=>cases h.1
def jT {r:bR}(e:r=vs.map λ(v:Nat)=>(v:Int))(c:∀v∈vs,v<8)(H:vs.Pairwise (· < ·)):(List.range 8).filter (λi=>decide (i∈vs))=vs:=by
 have d:((List.range 8).filter λi=>decide (i∈vs)).Pairwise (· < ·):=List.Pairwise.filter _ List.pairwise_lt_range;have h:∀x,x∈(List.range 8).filter (λi=>decide (i∈vs))↔x∈vs:=λx=>by
  rw[mem_filter,mem_range,ao];exact⟨λz=>z.2,λz=>⟨c x z,z⟩⟩
 generalize (List.range 8).filter (λi=>decide (i∈vs))=us at d h;clear e c
 induction us generalizing vs with
 |nil=>
  cases vs with
  |nil=>rfl|cons v vs=>exact absurd ((h v).mpr (aq ..)) (by intro z;cases z)
 |cons u us I=>
  cases vs with
  |nil=>exact absurd ((h u).mp (aq ..)) (by intro z;cases z)|cons v vs=>
   rw[List.pairwise_cons]at d H;have E:u=v:=by
    have a:=(h u).mp (aq ..);have b:=(h v).mpr (aq ..);rcases cn.mp a with a|a
    ·exact a
    ·rcases cn.mp b with b|b
     ·exact b.symm
     ·have:=H.1 u a
      have:=d.1 v b
      omega
   subst E
   congr 1
   refine I H.2 d.2 λx=>?_
   constructor
   ·intro z
    rcases cn.mp ((h x).mp (ak _ z)) with rfl|q
    ·exact absurd (d.1 x z) (aV _)
    ·exact q
   ·intro z
    rcases cn.mp ((h x).mpr (ak _ z)) with rfl|q
    ·exact absurd (H.1 x z) (aV _)
    ·exact q
def Oe:∀{r:bR},y9 r=true->r.Pairwise (· < ·):=λ {r} h=>by
 rw[List.pairwise_iff_getElem];unfold y9 at h;rw[bz]at h;have s:∀i (hi:i+1<r.length),r[i]<r[i+1]:=λi hi=>by
  have:=of_decide_eq_true (h i (cw.mpr (by omega)))
  rw[ae,aa (by omega),ae,aa hi]at this
  exact this
 intro i j hi H a
 induction j with
 |zero=>omega|succ j I=>
  by_cases e:i=j
  ·subst e;exact s i H
  ·have:=I (by omega) (by omega)
   have:=s j H
   omega
def pw_ris {r:bR}(h:r.Pairwise (· < ·)):y9 r=true:=by
 unfold y9;rw[bz];intro i H;have H:=cw.mp H;rw[ao,ae,aa (by omega),ae,aa (by omega)]
 exact List.pairwise_iff_getElem.mp h i (i+1) (by omega) (by omega) (by omega)
section
variable {w:W}{lo hi:Int}{ty:Ty}{r:bR}
def E8 {ty:Ty}(h:q9 w A=some ty):JJ [w] A=.ok (.bl (gv w)) A:=by
 unfold JJ UL U0;refine qy (qd (qA ((O8 (ku (zj rfl) h) (jq (ku (zj rfl) h))).trans ?_)));rw[OJ h]
def EI (h:It w)(l i:Int)(A:Hx):QZ [w,.int l,.int i] A=.ok (.bl (yq l i w)) A:=by
 obtain⟨ty,H⟩:=h.ty;unfold QZ Uh;refine qy ?_;unfold Ug;refine qd (qA ?_);have e:=(ql (ws:=[w]) (A1:=A) (ρ:=[some w,iV l,iV i]) (a:=zc (qf 0) zh) (A:=A) rfl).trans (CT (H A));cases w with
 |int v=>
  exact(kq e).trans (Pl (zj rfl) (zj rfl) (zj rfl))
 |_=>exact wZ e
def rw_N (h:q9 w A=some ty)(H:ty≠.tup):gy [w,.int lo,.int hi] A=.ok (.bl false) A:=by
 unfold gy W0;refine qy ?_;unfold WZ;exact qd ((yx (jq (k:=false) ((ku (zj rfl) h).trans (by rw[Vv H])))).trans (qd (qA qe)))
def rw_T (l:ws.length<=100)(a:∀x∈ws,It x)(A:Hx):gy [.tup ws,.int lo,.int hi] A=.ok (.bl (ws.all (yq lo hi)&&y9 (jD ws))) A:=by
 unfold gy W0;refine qy ?_;unfold WZ;refine(zE ((jC (A1:=A) (jq (k:=true) rfl)).trans jw)).trans (qd (qA ?_));have c:=Qq (cap:=[1,2]) (A:=A) (ρ:=[some (.tup ws),iV lo,iV hi]) (ws:=ws) (m:=qf 0) (me:=zw QZ (zc zl (zc zm (zc zM zh)))) (g:=λw=>.bl (yq lo hi w)) (zj rfl) (by unfold zR;omega) (λw h=>(ql (ws:=[w,.int lo,.int hi]) (A1:=A) rfl).trans (EI (a w h) lo hi A))
 have E:mQ wK (zN 1 [1,2] (z9 zl) (zC 0) zS (zK (zw QZ (zc zl (zc zm (zc zM zh)))))) [some (.tup ws),iV lo,iV hi] A=.ok (.bl (ws.all (yq lo hi))) A:=by
  refine(jF c).trans ?_;show wa (λK=>K.all id) _ A=_;unfold wa;rw[JN];show R.ok (W.bl ((ws.map (yq lo hi)).all id)) A=_;rw[all_map]
  rfl
 cases H:ws.all (yq lo hi) with
 |false=>
  rw[H]at E;exact wZ E
 |true=>
  rw[H]at E;refine(kq E).trans ((ql (ws:=[.tup ws]) (A1:=A) rfl).trans ?_);obtain⟨b,_⟩:=KH H;have e:=EZ (r:=jD ws) (by unfold jD;rw[ag];exact l) A
  unfold qg at e;rw[<- b]at e;exact e
def kd (h:q9 w A=some ty)(H:ty≠.tup):Zc [w,.int lo,.int hi] A=.ok (.bl false) A:=by
 unfold Zc Gh;refine qy ?_;unfold Gd;exact qd ((yx (Vo (jq (k:=false) ((ku (zj rfl) h).trans (by rw[Vv H]))))).trans (qd (qA qe)))
theorem Ph:∀{us:List W},(∀w∈us,∃d,zO A n w=some d)->∃ds,jy (zO A n) us=some ds/\ds.length=us.length
 |[],_=>⟨[],rfl,rfl⟩|w::us,h=>by
  obtain⟨d,a⟩:=h w (aq ..);obtain⟨ds,e,l⟩:=Ph (us:=us) λx H=>h x (ak _ H);refine⟨d::ds,?_,by rw[aL,aL,l]⟩
  show(match zO A n w,jy (zO A n) us with|some d,some ds=>some (d::ds)|_,_=>none)=_
  rw[a,e]
def ne_nil {u:List W}{p q:Nat}(b:B[p]? =some (.lst u))(a:B[q]? =some (.lst []))(f:∀w∈u,It w):qJ (.ref p) (.ref q) B=.ok (.bl (!u.isEmpty)) B:=by
 obtain⟨D,e,H⟩:=Ph (A:=B) (n:=7) (us:=u) λw h=>by obtain⟨d,g⟩:=(f w h).dat;exact⟨d,g B⟩
 have c:zO B 8 (.ref p)=some (.list D):=by
  show(match zI (.ref p) B with|some s=>(jy (zO B 7) s).map PyData.list|none=>none)=_
  have:zI (.ref p) B=some u:=by unfold zI;dsimp only;rw[b]
  rw[this];dsimp only;rw[e]
  rfl
 have E:zO B 8 (.ref q)=some (.list []):=by
  show(match zI (.ref q) B with|some s=>(jy (zO B 7) s).map PyData.list|none=>none)=_
  have:zI (.ref q) B=some []:=by unfold zI;dsimp only;rw[a]
  rw[this]
  rfl
 show yN true _ _ B=_;unfold yN;rw[c,E];dsimp only;rw[ah rfl];cases u with
 |nil=>
  have:D=[]:=List.length_eq_zero_iff.mp H
  subst this;simp[PyData.eqv,PyData.eqvAll]
 |cons w u=>
  cases D with
  |nil=>cases H|cons d D=>simp[PyData.eqv,PyData.eqvAll]
def ke (Y:ws.length<=100)(hw:∀x∈ws,It x)(h0:0<=lo)(Z:hi<8)(A:Hx):∃B,Zc [.tup ws,.int lo,.int hi] A=.ok (.bl (ws.all (yq lo hi)&&y9 (jD ws))) B/\Ext A B:=by
 unfold Zc Gh;unfold Gd;have J:=yR (Tq (cap:=[]) (ρ:=[some (.tup ws),iV lo,iV hi]) (A:=A) (ifs:=qW (zw JJ (zc (qf 0) zh))) (p:=λw=>!gv w) rfl (by omega) (λw h=>by
  obtain⟨ty,P⟩:=(hw w h).ty;exact jq ((ql (ws:=[w]) (A1:=A) rfl).trans (E8 (P A)))))
 have M:=(zG J (jl qa)).trans (ne_nil (qR (u:=.lst []) (qc (A:=A) (u:=.lst (ws.filter λw=>!gv w)))) qc λw h=>hw w (List.mem_filter.mp h).1);generalize D:A++[O.lst (ws.filter λw=>!gv w)]++[O.lst []]=A2 at M;have x2:Ext A A2:=⟨_,by rw[<- D,aR]⟩
 have E:=(Zp (ma:=qW (jN .tup (qf 0))) (A1:=A) (ρ:=[some (.tup ws),iV lo,iV hi]) (jq (k:=true) rfl)).trans M;cases q:(ws.filter λw=>!gv w).isEmpty with
 |false=>
  rw[q]at E;have K:(ws.all (yq lo hi)&&y9 (jD ws))=false:=Bool.eq_false_iff.mpr λz=>?_
  ·rw[K]
   exact⟨A2,qy (qd ((yx E).trans (qd (qA qe)))),x2⟩
  rw[av]at z;have H:=cy.mp z.1
  have:(ws.filter λw=>!gv w)=[]:=List.filter_eq_nil_iff.mpr λw h=>by
   have:=H w h
   cases w with
   |int v=>simp[gv]|_=>cases this
  rw[this]at q;cases q
 |true=>
  rw[q]at E;have hint:∀w∈ws,gv w=true:=λw h=>by
   have h1:=List.filter_eq_nil_iff.mp (List.isEmpty_iff.mp q) w h;cases d:gv w with
   |true=>rfl|false=>exact absurd (by rw[d];rfl) h1
  have I:=yR (Tq (cap:=[1,2]) (ρ:=[some (.tup ws),iV lo,iV hi]) (A:=A2) (ifs:=qW (yt yW yW (qf 1) (qf 0) (qf 2))) (p:=λw=>!yq lo hi w) rfl (by omega) (λw h=>by
   have o:=hint w h;cases w with
   |int v=>
    exact jq (k:=yq lo hi (.int v)) (Pl (zj rfl) (zj rfl) (zj rfl))
   |_=>cases o))
  have j:=(zG I (jl qa)).trans (ne_nil (qR (u:=.lst []) (qc (A:=A2) (u:=.lst (ws.filter λw=>!yq lo hi w)))) qc λw h=>hw w (List.mem_filter.mp h).1);generalize C:A2++[O.lst (ws.filter λw=>!yq lo hi w)]++[O.lst []]=e at j;have x3:Ext A2 e:=⟨_,by rw[<- C,aR]⟩
  cases c:(ws.filter λw=>!yq lo hi w).isEmpty with
  |false=>
   rw[c]at j;have K:(ws.all (yq lo hi)&&y9 (jD ws))=false:=Bool.eq_false_iff.mpr λz=>?_
   ·rw[K]
    exact⟨e,qy ((zE ((jC E).trans jw)).trans (qd ((yx j).trans (qd (qA qe))))),x2.trans x3⟩
   rw[av]at z;have H:=cy.mp z.1
   have:(ws.filter λw=>!yq lo hi w)=[]:=List.filter_eq_nil_iff.mpr λw h=>by rw[H w h];simp
   rw[this]at c;cases c
  |true=>
   rw[c]at j;have H:ws.all (yq lo hi)=true:=cy.mpr λw h=>by
    have h1:=List.filter_eq_nil_iff.mp (List.isEmpty_iff.mp c) w h;cases d:yq lo hi w with
    |true=>rfl|false=>exact absurd (by rw[d];rfl) h1
   obtain⟨s,d⟩:=KH H;have hn:=GP (l:=jD ws) λv f=>by have:=d v f;omega
   have T:Kf (qf 0) [some (.tup ws),iV lo,iV hi] (e++[.lst ws])=.ok (.ref (e++[O.lst ws]).length) (e++[.lst ws]++[.lst (((List.range 8).filter λi=>decide (i∈(jD ws).map Int.toNat)).map λ(i:Nat)=>W.int i)]):=by
    unfold Kf;rw[zj (w:=.tup ws) rfl,zA];unfold GI;dsimp only
    have:intsOf ws=some (jD ws):=by
     have:=wx (jD ws)
     rw[<- s]at this;exact this
    rw[this];dsimp only;rw[hn]
   have U:=(zG (g:=qG) (yR (j3 (m:=qf 0) (ρ:=[some (.tup ws),iV lo,iV hi]) (A:=e) (A1:=e) (w:=.tup ws) (ws:=ws) (zj rfl) rfl)) T).trans (VU (l:=jD ws) (m:=((List.range 8).filter λi=>decide (i∈(jD ws).map Int.toNat)).map λ(i:Nat)=>(i:Int)) (by rw[<- s];exact qR qc) (by rw[aU];exact qc))
   have t:jD ws=((jD ws).map Int.toNat).map λ(v:Nat)=>(v:Int):=by
    rw[aU]
    have:(jD ws).map ((λ(v:Nat)=>(v:Int)) ∘ Int.toNat)=(jD ws).map id:=bf λv f=>by
     have:=d v f
     show((v.toNat:Nat):Int)=v;omega
    rw[this,map_id]
   have X:decide (jD ws=((List.range 8).filter λi=>decide (i∈(jD ws).map Int.toNat)).map λ(i:Nat)=>(i:Int))=(ws.all (yq lo hi)&&y9 (jD ws)):=by
    rw[H,Bool.true_and];cases L:y9 (jD ws) with
    |true=>
     have n:=Oe L;rw[ao,jT (r:=jD ws) t (λv f=>by
      obtain⟨u,N,rfl⟩:=cq.mp f
      have:=d u N
      omega) (by
      rw[bM];refine List.Pairwise.imp_of_mem ?_ n;intro a b S y Q
      have:=d a S
      have:=d b y
      omega)]
     exact t
    |false=>
     refine aD λz=>?_
     have:y9 (jD ws)=true:=pw_ris (by
      rw[z,bM];exact(List.Pairwise.filter _ List.pairwise_lt_range).imp λh=>by omega)
     rw[L]at this;cases this
   rw[<- X];exact⟨_,qy ((zE ((jC E).trans jw)).trans ((zE ((jC j).trans jw)).trans (qd (qA U)))),(x2.trans x3).trans (Ext.one.app)⟩
end
def yh (l h:Int):W->Bool
 |.tup w=>w.all (yq l h)&&y9 (jD w)|_=>false
inductive kf (A:Hx):W->Prop
 |tup {ws:List W} (hl:ws.length<=20) (h:∀x∈ws,It x):kf A (.tup ws)
 |oth {w:W} {ty:Ty} (h:q9 w A=some ty) (hn:ty≠.tup):kf A w
def kf.mono {w:W}(k:Ky A B)(h:kf A w):kf B w:=by
 cases h with
 |tup H h=>exact .tup H h|oth h n=>exact .oth (k _ _ h) n
section
variable {e:Nat}{v w:W}{p:Pg}{lo hi:Int}{q:bR}
def Oq {ty:Ty}(h:q9 w A=some ty)(H:ty≠.tup):yh lo hi w=false:=by
 cases w with
 |tup s=>exact absurd (by unfold q9 at h;cases h;rfl) H|_=>rfl
def rw_I (h:kf A w):gy [w,.int lo,.int hi] A=.ok (.bl (yh lo hi w)) A:=by
 cases h with
 |tup H h=>exact rw_T (by omega) h A|oth h n=>rw[Oq h n];exact rw_N h n
def kl (h:kf A w)(a:0<=lo)(H:hi<8):∃B,Zc [w,.int lo,.int hi] A=.ok (.bl (yh lo hi w)) B/\Ext A B:=by
 cases h with
 |tup l h=>exact ke (by omega) h a H A|oth h n=>rw[Oq h n];exact⟨A,kd h n,.refl⟩
def XZ (h:yh lo hi w=true):∃q:bR,w=zq q/\(∀v∈q,lo<=v/\v<=hi)/\y9 q=true:=by
 cases w with
 |tup s=>
  have a:(s.all (yq lo hi)&&y9 (jD s))=true:=h;rw[av]at a;obtain⟨e,H⟩:=KH a.1;exact⟨jD s,congrArg W.tup e,H,a.2⟩
 |_=>cases h
theorem Pp:∀{s:List W},(∀w∈s,yh lo hi w=true)->∃p:Pg,s=p.map zq/\∀q∈p,(∀v∈q,lo<=v/\v<=hi)/\y9 q=true
 |[],_=>⟨[],rfl,λq a=>by cases a⟩|w::s,h=>by
  obtain⟨q,e,a⟩:=XZ (h w (aq ..));obtain⟨p,E,b⟩:=Pp λx H=>h x (ak _ H);exact⟨q::p,by rw[e,E];rfl,λx H=>by
   rcases cn.mp H with rfl|H
   ·exact a
   ·exact b x H⟩
end
theorem Oh {R:α->α->Prop}{d:α}(tr:∀a b c,R a b->R b c->R a c):∀{l:List α},(∀i,i+1<l.length->R (l.getD i d) (l.getD (i+1) d))->l.Pairwise R
 |[],_=>.nil|[x],_=>List.pairwise_singleton _ _|x::y::l,h=>by
  have e:R x y:=h 0 (by simp)
  have I:(y::l).Pairwise R:=Oh tr λi f=>h (i+1) (by simpa using f)
  refine List.pairwise_cons.mpr ⟨λz H=>?_,I⟩;rcases cn.mp H with rfl|H
  ·exact e
  ·exact tr x y z e ((List.pairwise_cons.mp I).1 z H)
def pw_adj {R:α->α->Prop}{d:α}{l:List α}(h:l.Pairwise R)(i:Nat)(H:i+1<l.length):R (l.getD i d) (l.getD (i+1) d):=by
 rw[ae,aa (by omega),ae,aa H]
 exact List.pairwise_iff_getElem.mp h i (i+1) (by omega) H (by omega)
def Ai {p:Pg}(n:p.Nodup):Qb p=decide (p=qV (O:=j9) p):=by
 cases r:Qb p with
 |true=>
  symm
  rw[ao];unfold Qb at r;rw[bz]at r;have P:p.Pairwise (λx y=>kA x y=true):=Oh (d:=[]) (λa b c g f=>j9.trans a b c g f) λi j=>r i (cw.mpr (by omega))
  refine Xp (O:=j9) (JP (O:=j9) p).symm (P.imp λ {x y} h=>?_) (Y2 (O:=j9) p);show kA y x=false;cases e:kA y x with
  |false=>rfl|true=>exact absurd (j9.trans x y x h e) (by rw[show j9.blt x x=false from Cm x];exact aA)
 |false=>
  symm
  refine aD λz=>?_;have P:p.Pairwise j9.kle:=by rw[z];exact Y2 (O:=j9) p
  have:Qb p=true:=by
   unfold Qb;rw[bz];intro i j;have H:i+1<p.length:=by have:=cw.mp j;omega
   have g:kA (p.getD (i+1) []) (p.getD i [])=false:=pw_adj (d:=[]) P i H;cases e:kA (p.getD i []) (p.getD (i+1) []) with
   |true=>rfl|false=>
    exfalso;have eq:=j9.total _ _ e g;rw[ae,aa (by omega),ae,aa H]at eq
    exact List.pairwise_iff_getElem.mp n i (i+1) (by omega) H (by omega) eq
  rw[r]at this;cases this
section
variable {C:Hx}{a e k K m:Nat}{u v w:W}{p:Pg}{hi:Int}{q:bR}
noncomputable abbrev wI (K:Nat):bR:=(List.range (K-1)).map λ(k:Nat)=>1+(k:Int)
def QS (K:Nat)(p:Pg):Bool:=Qb p&&(!decide ([]∈p)&&decide (qV (O:=IO) p.flatten=wI K))
def Vw {D:α->PyData}(e:∀x y,PyData.eqv (D x) (D y)=true↔x=y){s:α}{X:List α}{y:Bool}(d:zO A 8 u=some (D s))(c:zO A 8 v=some (.list (X.map D)))(H:y=true↔s∈X):gC u v A=.ok (.bl (!y)) A:=by
 unfold gC;rw[d,c];dsimp only
 congr 2
 rw[List.any_map]
 congr 1
 rw[Bool.eq_iff_iff,List.any_eq_true,H]
 constructor
 ·rintro⟨x,a,h⟩
  exact(e x s).mp h ▸ a
 ·intro b
  exact⟨s,b,(e s s).mpr rfl⟩
def Bn (s u:bR):PyData.eqv (gi s) (gi u)=true↔s=u:=by rw[gi,gi,PyData.eqv,Q9,ao]
abbrev kv (p:Pg):PyData:=.list (p.map gi)
def XM (h:A[n]? =some (pO p)):zO A (k+2) (.ref n)=some (kv p):=Rg h (GZ (KQ A k) p)
def WQ (h:A[n]? =some (.lst ws)):q9 (.ref n) A=some .lst:=by
 show(match A[n]? with|some (.lst _)=>some Ty.lst|some (.dct _)=>some Ty.dct|_=>_)=_
 rw[h]
def Ez {m:Ev}{o:List α}{f:α->W}{G:α->W}(h:m ρ A=.ok (.ref n) A)(H:A[n]? =some (.lst (o.map f)))(l:o.length<=zR)(d:∀a∈o,me (some (f a)::cap.map λi=>(ρ[i]?).join) A=.ok (G a) A):
  zN 1 cap (z9 m) (zC 0) zS (zK me) ρ A=.ok (o.map G) A:=by
 have e:=ZN (cap:=cap) (me:=me) (ρ:=ρ) (A:=A) (N:=o.length) (item:=λi=>((o.map f)[i]?).getD .non) (g:=λi=>((o.map G)[i]?).getD .non) (ZT h H) (by rw[ag]) l
  (λi c=>(gG H).trans (by rw[ax,aa c];rfl))
  ((gG H).trans (by rw[aH (by rw[ag];exact ar _)]))
  (λi c=>by
   rw[ax,ax,aa c];exact d _ (aN c))
 rw[e]
 congr 1
 apply bq
 ·simp
 ·intro i j b
  have c:i<o.length:=by simpa using b
  simp[aa c]
def kB (a:qm t)(c:qx t=(K:Int))(H:A[n]? =some (.lst ws))(i:∀w∈ws,kf A w)(l:ws.length<=20)(b:∃w∈ws,yh 1 ((K:Int)-1) w=false):ki [zt t,.ref n] A=.ok (.bl false) A:=by
 have E:=Ez (cap:=[2]) (o:=ws) (f:=λw=>w) (G:=λw=>.bl (yh 1 ((K:Int)-1) w)) (ρ:=[some (zt t),rO n,iV ((K:Int)-1),none]) (A:=A) (m:=zm) (me:=zw gy (zc zl (zc zu (zc zm zh)))) (n:=n) (zj rfl) (by rw[List.map_id'];exact H) (by unfold zR;omega)
  (λw d=>(ql (ws:=[w,.int 1,.int ((K:Int)-1)]) (A1:=A) rfl).trans (rw_I (i w d)))
 have e:mQ wK (zN 1 [2] (z9 zm) (zC 0) zS (zK (zw gy (zc zl (zc zu (zc zm zh)))))) [some (zt t),rO n,iV ((K:Int)-1),none] A=.ok (.bl false) A:=by
  refine(jF E).trans ?_;show wa (λs=>s.all id) _ A=_;unfold wa;rw[JN];show R.ok (W.bl ((ws.map λw=>yh 1 ((K:Int)-1) w).all id)) A=_
  congr 2
  rw[all_map];obtain⟨w,d,h⟩:=b;exact Bool.eq_false_iff.mpr λz=>by
   have:=cy.mp z w d
   rw[show(id ∘ λw=>yh 1 ((K:Int)-1) w) w=yh 1 ((K:Int)-1) w from rfl,h]at this
   cases this
 unfold ki YM;refine qy ?_;unfold YR;refine(zE (qC ((zG ((ql (zP (zj rfl) qa)).trans ((Xt a A).trans (by rw[c]))) qe).trans rfl))).trans ?_
 exact qd ((yx ((Zp (jq (k:=true) ((ku (zj rfl) (WQ H)).trans rfl))).trans (jq (k:=false) e))).trans (qd (qA qe)))
def kC (b:qm t)(J:qx t=(K:Int))(h:A[n]? =some (pO p))(hl:p.length<=20)(hF:p.flatten.length<60)(I:∀q∈p,yh 1 ((K:Int)-1) (zq q)=true)(hi:∀q∈p,q.length<=20):∃B,ki [zt t,.ref n] A=.ok (.bl (QS K p)) B/\Ext A B:=by
 have Z:=wF b;have hw:(p.map zq).length=p.length:=ag ..;have hit:∀{ρ:En}{i:Nat},ρ[i]? =some (rO n)->z9 (qf i) ρ A=.ok ⟨λA i=>(zI (.ref n) A).map λws=>ws[i]?,p.length⟩ A:=λz=>hw ▸ ZT (zj z) h;have a:∀i,i<p.length->((zI (.ref n) A).map λws=>ws[i]?)=some (some (zq (p.getD i []))):=λi hi=>K1 h (K6 (t:=p) hi);have H:((zI (.ref n) A).map λws=>ws[p.length]?)=some none:=K9 h (by rw[hw];exact ar _)
 have Y:=ZN (cap:=[2]) (ρ:=[some (zt t),rO n,iV ((K:Int)-1),none]) (A:=A) (me:=zw gy (zc zl (zc zu (zc zm zh)))) (mi:=z9 zm) (N:=p.length) (g:=λ_=>.bl true) (hit (i:=1) rfl) rfl (by unfold zR;omega) a H
  (λi y=>by
   have c:=km (t:=p) y;refine(ql (ws:=[zq (p.getD i []),.int 1,.int ((K:Int)-1)]) (A1:=A) rfl).trans ((rw_I (.tup (by rw[ag];exact hi _ c) λx w=>?_)).trans ?_)
   ·obtain⟨v,_,rfl⟩:=cq.mp w
    exact Xy v
   ·rw[show(W.tup ((p.getD i []).map W.int))=zq (p.getD i []) from rfl,I _ c])
 obtain⟨r,l⟩:=T6 (t:=p) (A:=A) (j:=⟨λA i=>(zI (.ref n) A).map λws=>ws[i]?,p.length⟩) a H p.length 0 none none [] (by omega) (by simp only[drop_zero,bg];unfold zR;omega)
 have U:zN 2 [] (z9 zm) (zC 0) zS (Z4 (z9 zl) (zC 1) zS (zK zm)) [some (zt t),rO n,iV ((K:Int)-1),none] A=.ok (p.flatten.map W.int) A:=by
  unfold zN;rw[hit (ρ:=[some (zt t),rO n,iV ((K:Int)-1),none]) (i:=1) rfl,zA];show R.bind (R.nox (qZ ⟨λA i=>(zI (.ref n) A).map λws=>ws[i]?,p.length⟩ _ _ _ p.length 0 [none,none] [] A)) _=_;rw[drop_zero]at l;rw[l]
  rfl
 have T:=yR U;obtain⟨o,f⟩:=jP (A:=A++[.lst (p.flatten.map W.int)]) (qR h) (by omega)
 have hf:(A++[.lst (p.flatten.map W.int)]++[o])[A.length]? =some (.lst (p.flatten.map W.int)):=qR qc;have E:gC (zq []) (.ref n) (A++[.lst (p.flatten.map W.int)]++[o])=.ok (.bl (!decide ([]∈p))) (A++[.lst (p.flatten.map W.int)]++[o]):=Vw Bn (KQ _ 7 []) (XM (qR (qR h))) ao;have X:Ext A (A++[.lst (p.flatten.map W.int)]++[o]):=Ext.one.trans Ext.one;generalize A++[.lst (p.flatten.map W.int)]++[o]=C at f hf E X;have S:qE ko zB [some (zt t),rO n,iV ((K:Int)-1),rO A.length] C=.ok (.ref C.length) (C++[.lst ((qV (O:=IO) p.flatten).map W.int)]):=by
  refine(KY (zj rfl)).trans ?_;unfold ko;dsimp only;rw[hf];dsimp only;rw[wx];dsimp only;rw[ah (by omega)]
 have Q:=GH (M:=K-1) (ma:=zu) (mb:=zi zL zM zu) (ρ:=[some (zt t),rO n,iV ((K:Int)-1),rO A.length]) (A:=C++[.lst ((qV (O:=IO) p.flatten).map W.int)]) qe ((zG (zj rfl) qe).trans (by show R.ok (W.int ((K:Int)-1+1)) _=_;rw[show(K:Int)-1+1=1+((K-1:Nat):Int) by omega])) (by omega)
 obtain⟨D,P,u⟩:∃D,zi qG (qE ko zB) (wX zu (zi zL zM zu)) [some (zt t),rO n,iV ((K:Int)-1),rO A.length] C=.ok (.bl (decide (qV (O:=IO) p.flatten=wI K))) D/\Ext C D:=⟨_,(zG (g:=qG) S Q).trans (VU (qR qc) qc),Ext.one.trans Ext.one⟩;have fin:∃d,jz (zw ZJ (zc zm zh)) (jz (zi gC (zy zh) zm) (zi qG (qE ko zB) (wX zu (zi zL zM zu)))) [some (zt t),rO n,iV ((K:Int)-1),rO A.length] (A++[.lst (p.flatten.map W.int)])=.ok (.bl (QS K p)) d/\Ext A d:=by
  unfold QS;have f1:=(ql (ρ:=[some (zt t),rO n,iV ((K:Int)-1),rO A.length]) (zP (zj (i:=1) rfl) qa)).trans f;have f2:=(zG (ρ:=[some (zt t),rO n,iV ((K:Int)-1),rO A.length]) (Zi qa) (zj (i:=1) rfl)).trans E;cases h1:Qb p with
  |false=>rw[h1]at f1;exact⟨C,wZ f1,X⟩|true=>
   rw[h1]at f1;rw[Bool.true_and];cases e:(!decide ([]∈p)) with
   |false=>rw[e]at f2;exact⟨C,(kq f1).trans (wZ f2),X⟩|true=>rw[e]at f2;rw[Bool.true_and];exact⟨D,(kq f1).trans ((kq f2).trans P),X.trans u⟩
 obtain⟨d,L,s⟩:=fin;refine⟨d,?_,s⟩;unfold ki YM;refine qy ?_;unfold YR;refine(zE (qC ((zG ((ql (zP (zj rfl) qa)).trans ((Xt b A).trans (by rw[J]))) qe).trans rfl))).trans ?_
 refine(zE ((jC ((Zp (jq (k:=true) ((ku (zj rfl) (WQ h)).trans rfl))).trans (jq (k:=true) ((jF Y).trans (Jh (p:=λ_=>true) λ_ _=>rfl))))).trans jw)).trans ?_;exact(zE (qC T)).trans (qd (qA L))
variable {lo:Int}
theorem P2:∀{K:Pg},(∀k∈K,k≠[])->Z5 (K.map zq)=some K
 |[],_=>rfl|k::K,h=>by
  show(match intsOf (k.map W.int) with|some k=>if k=[] then none else(Z5 (K.map zq)).map (k::·)|none=>none)=_
  rw[wx];dsimp only;rw[ai (h k (aq ..)),P2 λx H=>h x (ak _ H)]
  rfl
def S9 {m:Ev}{r:Nat}(h:m ρ A=.ok (.ref r) B)(H:B[r]? =some (pO p))(n:∀k∈p,k≠[])(l:p.length<64):Qu m ρ A=.ok (.ref B.length) (B++[pO (qV (O:=j9) p)]):=by
 unfold Qu;rw[h,zA];unfold Xz;dsimp only;rw[H];dsimp only;rw[P2 n];dsimp only;rw[ah l]
def k4 {r s:Nat}{x y:Pg}(h:A[r]? =some (pO x))(H:A[s]? =some (pO y)):qG (.ref r) (.ref s) A=.ok (.bl (decide (x=y))) A:=by
 show yN false _ _ A=_;unfold yN;rw[XM (k:=6) h,XM (k:=6) H];dsimp only;rw[PyData.eqv,TH]
 rfl
abbrev JC:Ex:=zo (qu (yH (qW (zw Zc (zc zB (zc zu (zc (zi j5 (zw yr (zc zl zh)) zu) zh))))) (zi qG zB (zy zh))) jE zx) (zo (zV 2 (zi zL zM (qj (zX zB)))) zx)
def Xh (h:kf A (zq q)):q.length<=20:=by
 generalize e:zq q=w at h;cases h with
 |tup H h=>cases e;rw[ag]at H;exact H|oth h n=>subst e;exact absurd (by unfold zq q9 at h;cases h;rfl) n
def V2 (K:Nat)(q:bR):Prop:=yh 1 ((K:Int)-1) (zq q)=true/\q≠[]
theorem Pf {k:Nat}:∀{p:Pg},(∀q∈p,q.length<=k)->p.flatten.length<=p.length * k
 |[],_=>by simp|q::p,h=>by
  have b:=h q (aq ..);have a:=Pf (p:=p) λx H=>h x (ak _ H);rw[aO,aj,aL,add_mul];omega
def Rm {l:List α}{x:α}(h:l[i]? =some x):l.take (i+1)=l.take i++[x]:=by
 rw[List.take_succ,h]
 rfl
def FR (o:qm t)(P:qx t=(K:Int))(g:A[n]? =some (.lst ws))(hi:∀w∈ws,kf A w)(hl:ws.length<=20):
  (∃(ρ:En) (C:Hx),jR (z9 zm) (zC 3) JC [some (zt t),rO n,rO A.length,none] (A++[.lst []])=.ok (.nx ρ) C/\∃(p:Pg) (r:Nat) (y:Option W),ρ=[some (zt t),rO n,rO r,y]/\Ext A C/\C[r]? =some (.lst (p.flatten.map W.int))/\ws=p.map zq/\∀q∈p,V2 K q)∨
  (∃(w:W) (C:Hx),jR (z9 zm) (zC 3) JC [some (zt t),rO n,rO A.length,none] (A++[.lst []])=.ok (.rt w) C/\w=.bl false/\Ext A C/\∃w∈ws,yh 1 ((K:Int)-1) w=false∨w=zq []):=by
 have kb:=wF o;have e0:=wz (m1:=JC) (tw:=zC 3) (ρ:=[some (zt t),rO n,rO A.length,none]) (ZT (zj (i:=1) (ρ:=[some (zt t),rO n,rO A.length,none]) rfl) (qR (u:=.lst []) g));rw[e0];have go:=Fd (j:=⟨λA i=>(zI (.ref n) A).map λws=>ws[i]?,ws.length⟩) (st:=turn (zC 3) JC) (N:=ws.length)
  (I:=λi ρ C=>∃(p:Pg) (r:Nat) (y:Option W),ρ=[some (zt t),rO n,rO r,y]/\Ext A C/\C[r]? =some (.lst (p.flatten.map W.int))/\ws.take i=p.map zq/\∀q∈p,V2 K q)
  (Q:=λw C=>w=.bl false/\Ext A C/\∃w∈ws,yh 1 ((K:Int)-1) w=false∨w=zq []) ?_ ?_ ws.length 0 [some (zt t),rO n,rO A.length,none] (A++[.lst []]) (by omega) ⟨[],A.length,none,rfl,Ext.one,qc,rfl,λq H=>by cases H⟩
 ·rcases go with ⟨d,C,e,p,r,y,h1,U,T,J,S⟩|⟨w,C,e,h⟩
  ·rw[bD]at J
   exact .inl ⟨d,C,e,p,r,y,h1,U,T,J,S⟩
  ·exact .inr ⟨w,C,e,h⟩
 ·rintro i ρ C a ⟨p,r,y,rfl,x,B,tk,gd⟩
  have hw:=aN a;have l:ws[i]? =some ws[i]:=aa a;generalize ws[i]=w at hw l;refine⟨w,K1 (x.at g) l,?_⟩;obtain⟨c,Z,X⟩:=kl (lo:=1) (hi:=(K:Int)-1) ((hi w hw).mono x.ky) (by omega) (by omega)
  have E:zw Zc (zc zB (zc zu (zc (zi j5 (zw yr (zc zl zh)) zu) zh))) [some (zt t),rO n,rO r,some w] C=.ok (.bl (yh 1 ((K:Int)-1) w)) c:=
   (ql (zP (zj rfl) (zP qe (zP ((zG ((ql (zP (zj rfl) qa)).trans ((Jg o C).trans (by rw[P]))) qe).trans rfl) qa)))).trans Z
  have go:turn (zC 3) JC w [some (zt t),rO n,rO r,y] C=JC [some (zt t),rO n,rO r,some w] C:=wy rfl;rw[go];cases z:yh 1 ((K:Int)-1) w with
  |false=>
   rw[z]at E;exact .inr ⟨.bl false,c,qd ((yx (Vo (jq (k:=false) E))).trans (qd (qA qe))),rfl,x.trans X,w,hw,.inl z⟩
  |true=>
   rw[z]at E;obtain⟨q,rfl,hb,v⟩:=XZ z;have D:=Xh (hi _ hw);have b:zi qG zB (zy zh) [some (zt t),rO n,rO r,some (zq q)] c=.ok (.bl (decide (q=[]))) c:=(zG (zj rfl) (Zi qa)).trans (i5 q [] c)
   by_cases H:q=[]
   ·rw[aE H]at b
    exact .inr ⟨.bl false,c,qd ((yx ((Zp (jq (k:=true) E)).trans b)).trans (qd (qA qe))),rfl,x.trans X,_,hw,.inr (by rw[H])⟩
   ·rw[aD H]at b
    have L:p.length<=20:=by
     have:=congrArg List.length tk
     rw[ag,bp]at this;omega
    have M:p.flatten.length<=p.length * 20:=Pf λs v=>by
     have:zq s∈ws:=List.mem_of_mem_take (i:=i) (by rw[tk];exact cq.mpr ⟨s,v,rfl⟩)
     exact Xh (hi _ this)
    have Y:zi zL zM (qj (zX zB)) [some (zt t),rO n,rO r,some (zq q)] c=.ok (.ref (c++[O.lst (q.map W.int)]).length) (c++[O.lst (q.map W.int)]++[O.lst (p.flatten.map W.int++q.map W.int)]):=
     (zG (zj rfl) (yR (j3 (zj rfl) rfl))).trans (gB (xs:=p.flatten.map W.int) (ys:=q.map W.int) (qR (X.at B)) qc (by rw[ag,ag];unfold zR;omega))
    refine .inl ⟨_,_,(zE ((jC ((Zp (jq (k:=true) E)).trans b)).trans jw)).trans ((zE (qC Y)).trans jw),p++[q],_,some (zq q),rfl,x.trans (X.trans (Ext.one.trans Ext.one)),?_,?_,?_⟩
    ·rw[qc,List.flatten_append,aW]
     congr 3
     simp
    ·rw[Rm l,tk,aW]
     rfl
    ·intro s f
     rcases cz.mp f with h|h
     ·exact gd s h
     ·rw[cx.mp h]
      exact⟨z,H⟩
 ·rintro ρ C ⟨p,r,y,rfl,x,B,tk,gd⟩
  exact K9 (x.at g) (ar _)
def k6 (H:qm t)(c:qx t=(K:Int))(b:A[n]? =some (.lst ws))(S:∀w∈ws,kf A w)(l:ws.length<=20)(u:∀p:Pg,ws=p.map zq->p.flatten.length<60):
  (∃B,wq [zt t,.ref n] A=.ok (.bl false) B/\Ext A B/\∃w∈ws,yh 1 ((K:Int)-1) w=false∨w=zq [])∨
  ∃(p:Pg) (B:Hx),wq [zt t,.ref n] A=.ok (.bl (decide (qV (O:=IO) p.flatten=wI K)&&decide (p=qV (O:=j9) p))) B/\Ext A B/\ws=p.map zq/\∀q∈p,V2 K q:=by
 have L:=wF H;have T:qW (jN .lst zm) [some (zt t),rO n,none,none] A=.ok (.bl false) A:=jq (k:=true) ((ku (zj rfl) (WQ b)).trans rfl);have P:∀N:Ex,zo (qu (qW (jN .lst zm)) jE zx) (zo (zV 2 (zJ zh)) N) [some (zt t),rO n,none,none] A=N [some (zt t),rO n,rO A.length,none] (A++[.lst []]):=λN=>(zE ((jC T).trans jw)).trans (zE (qC (jl qa)));rcases FR H c b S l with ⟨U,C,e,p,r,y,rfl,x,i,rfl,Q⟩|⟨w,C,e,rfl,x,s⟩
 ·have j:=u p rfl
  rw[ag]at l;have J:qE ko zM [some (zt t),rO n,rO r,y] C=.ok (.ref C.length) (C++[.lst ((qV (O:=IO) p.flatten).map W.int)]):=by
   refine(KY (zj rfl)).trans ?_;unfold ko;dsimp only;rw[i];dsimp only;rw[wx];dsimp only;rw[ah (by omega)]
  have I:=GH (M:=K-1) (ma:=zu) (mb:=zw yr (zc zl zh)) (ρ:=[some (zt t),rO n,rO r,y]) (A:=C++[.lst ((qV (O:=IO) p.flatten).map W.int)]) qe ((ql (zP (zj rfl) qa)).trans ((Jg H _).trans (by rw[c,show(K:Int)=1+((K-1:Nat):Int) by omega]))) (by omega)
  obtain⟨D,a,X⟩:∃D,zi qG (qE ko zM) (wX zu (zw yr (zc zl zh))) [some (zt t),rO n,rO r,y] C=.ok (.bl (decide (qV (O:=IO) p.flatten=wI K))) D/\Ext C D:=⟨_,(zG (g:=qG) J I).trans (VU (qR qc) qc),Ext.one.trans Ext.one⟩;have z:zi qG zm (Qu zm) [some (zt t),rO n,rO r,y] D=.ok (.bl (decide (p=qV (O:=j9) p))) (D++[pO (qV (O:=j9) p)]):=by
   have d:D[n]? =some (pO p):=(x.trans X).at b;exact(zG (zj rfl) (S9 (zj rfl) d (λk o=>(Q k o).2) (by omega))).trans (k4 (qR d) qc)
  right
  obtain⟨E,v,f⟩:∃E,jz (zi qG (qE ko zM) (wX zu (zw yr (zc zl zh)))) (zi qG zm (Qu zm)) [some (zt t),rO n,rO r,y] C=.ok (.bl (decide (qV (O:=IO) p.flatten=wI K)&&decide (p=qV (O:=j9) p))) E/\Ext C E:=by
   cases h:decide (qV (O:=IO) p.flatten=wI K) with
   |false=>rw[h]at a;exact⟨D,wZ a,X⟩|true=>rw[h]at a;exact⟨_,(kq a).trans z,X.trans Ext.one⟩
  refine⟨p,E,?_,x.trans f,rfl,Q⟩;unfold wq YO;refine qy ?_;unfold YN;exact(P _).trans ((zE e).trans (qd (qA v)))
 ·left
  refine⟨C,?_,x,s⟩;unfold wq YO;refine qy ?_;unfold YN;exact(P _).trans (qd e)
variable {b:Nat}
def la (h:yh lo hi (zq q)=true):q.Nodup/\∀v∈q,lo<=v/\v<=hi:=by
 obtain⟨r,e,b,H⟩:=XZ h
 have:q=r:=by
  have E:q.map W.int=r.map W.int:=by unfold zq at e;exact W.tup.inj e
  have a:=wx q;rw[E,wx]at a;exact(aB a).symm
 subst this;exact⟨(Oe H).imp λ {x y} z=>by omega,b⟩
theorem RQ:∀{p:Pg},p.flatten.Nodup->[]∉p->p.Nodup
 |[],_,_=>.nil|q::p,h,ne=>by
  rw[aO,List.nodup_append]at h;refine List.nodup_cons.mpr ⟨λH=>?_,RQ h.2.1 λz=>ne (ak _ z)⟩;cases q with
  |nil=>exact ne (aq ..)|cons x q=>exact h.2.2 x (aq ..) x (List.mem_flatten.mpr ⟨_,H,aq ..⟩) rfl
def lb (K:Nat):(wI K).Nodup:=by
 unfold wI;rw[List.Nodup,bM];exact List.nodup_range.imp λ {a b} h z=>h (by omega)
def Bt {K:Nat}{k:Int}:k∈wI K↔1<=k/\k<(K:Int):=by
 rw[List.mem_map]
 constructor
 ·rintro⟨a,h,rfl⟩
  have:=cw.mp h
  omega
 ·rintro⟨b,H⟩
  exact⟨k.toNat-1,cw.mpr (by omega),by omega⟩
def lg (d:qm t)(o:qx t=(K:Int))(f:A[n]? =some (.lst ws))(U:∀w∈ws,kf A w)(l:ws.length<=20)(u:∀p:Pg,ws=p.map zq->p.flatten.length<60):
  ∃g B,wq [zt t,.ref n] A=.ok (.bl g) B/\Ext A B/\(∀C,Ext A C->∃D,ki [zt t,.ref n] C=.ok (.bl g) D/\Ext C D)/\(g=true->∃p:Pg,A[n]? =some (pO p)/\ZE K p):=by
 have N:=wF d;have i:∀(p:Pg),ws=p.map zq->(∀q∈p,yh 1 ((K:Int)-1) (zq q)=true)->∀C,Ext A C->∃D,ki [zt t,.ref n] C=.ok (.bl (QS K p)) D/\Ext C D:=by
  rintro p rfl c C x
  exact kC d o (x.at f) (by rw[ag]at l;exact l) (u p rfl) c λq H=>Xh (U _ (cq.mpr ⟨q,H,rfl⟩))
 rcases k6 d o f U l u with ⟨B,e,x,w,P,j⟩|⟨p,B,e,x,rfl,gd⟩
 ·refine⟨false,B,e,x,λC xc=>?_,λz=>by cases z⟩
  by_cases c:∃w∈ws,yh 1 ((K:Int)-1) w=false
  ·exact⟨C,kB d o (xc.at f) (λw P=>(U w P).mono xc.ky) l c,Ext.refl⟩
  ·have b:∀w∈ws,yh 1 ((K:Int)-1) w=true:=λw P=>by
    cases h:yh 1 ((K:Int)-1) w with
    |true=>rfl|false=>exact absurd ⟨w,P,h⟩ c
   obtain⟨p,E,L⟩:=Pp b;obtain⟨D,M,Y⟩:=i p E (λq H=>b _ (by rw[E];exact cq.mpr ⟨q,H,rfl⟩)) C xc
   have h0:[]∈p:=by
    rcases j with j|rfl
    ·rw[b w P]at j;cases j
    ·rw[E]at P
     obtain⟨q,H,y⟩:=cq.mp P;cases q with
     |nil=>exact H|cons a q=>unfold zq at y;cases y
   refine⟨D,?_,Y⟩;rw[M];unfold QS;rw[aE h0];simp
 ·have T:[]∉p:=λz=>(gd _ z).2 rfl
  have Q:decide (qV (O:=IO) p.flatten=wI K)=true->p.flatten.Nodup/\∀k,k∈p.flatten↔1<=k/\k<(K:Int):=λh=>by
   have S:(qV (O:=IO) p.flatten).Perm p.flatten:=JP (O:=IO) p.flatten;rw[of_decide_eq_true h]at S;exact⟨S.nodup_iff.mp (lb K),λk=>by rw[<- S.mem_iff,Bt]⟩
  have v:(decide (qV (O:=IO) p.flatten=wI K)&&decide (p=qV (O:=j9) p))=QS K p:=by
   unfold QS;rw[aD T];cases h:decide (qV (O:=IO) p.flatten=wI K) with
   |false=>simp|true=>rw[Ai (RQ (Q h).1 T)];simp
  rw[v]at e;refine⟨_,B,e,x,i p rfl λq H=>(gd q H).1,λs=>⟨p,f,?_⟩⟩;rw[<- v,av]at s;obtain⟨Z,X⟩:=Q s.1;refine i8 (by omega) (λq H=>⟨?_,λk J=>(X k).mp (List.mem_flatten.mpr ⟨q,H,J⟩)⟩) Z (λk h1 L=>(X _).mpr (by omega)) T
  obtain⟨a1,a2⟩:=la (gd q H).1;exact J6 8 q a1 λr I=>by have:=a2 r I;omega
def PM {ty:Ty}(a:qm t)(h:q9 w A=some ty)(n:ty≠.lst):wq [zt t,w] A=.ok (.bl false) A/\ki [zt t,w] A=.ok (.bl false) A:=by
 have H:yz ty .lst=false:=by cases ty<;>first|rfl|exact absurd rfl n
 constructor
 ·unfold wq YO
  refine qy ?_;unfold YN;exact qd ((yx (jq (k:=false) ((ku (zj rfl) h).trans (by rw[H])))).trans (qd (qA qe)))
 ·unfold ki YM
  refine qy ?_;unfold YR;refine(zE (qC ((zG ((ql (zP (zj rfl) qa)).trans (Xt a A)) qe).trans rfl))).trans ?_;exact qd ((yx (Vo (jq (k:=false) ((ku (zj rfl) h).trans (by rw[H]))))).trans (qd (qA qe)))
structure Th (t:bQ)(K:Nat)(A:Hx)(w:W):Prop where
 ask:∃g B,wq [zt t,w] A=.ok (.bl g) B/\Ext A B/\(∀C,Ext A C->∃D,ki [zt t,w] C=.ok (.bl g) D/\Ext C D)/\(g=true->∃(p:Pg) (n:Nat),w=.ref n/\A[n]? =some (pO p)/\ZE K p)
def lh (H:qm t)(a:qx t=(K:Int))(h:A[n]? =some (.lst ws))(i:∀w∈ws,kf A w)(l:ws.length<=20)(b:∀p:Pg,ws=p.map zq->p.flatten.length<60):Th t K A (.ref n):=by
 obtain⟨g,B,e,x,d,c⟩:=lg H a h i l b;exact⟨g,B,e,x,d,λz=>by obtain⟨p,h,ok⟩:=c z;exact⟨p,n,rfl,h,ok⟩⟩
def Ny {ty:Ty}(H:qm t)(h:q9 w A=some ty)(n:ty≠.lst):Th t K A w:=
 ⟨false,A,(PM H h n).1,.refl,λC x=>⟨C,(PM H (x.ky _ _ h) n).2,.refl⟩,λz=>by cases z⟩
end
def Qv {y:Str}(H:PyData.strOk x=true)(h:PyData.strOk y=true):PyData.strOk (x++y)=true:=by
 unfold PyData.strOk at H h ⊢;show(x.cps++y.cps).all _=true;rw[Array.all_append,H,h]
 rfl
def QD (s:String):PyData.strOk (Str.ofString s)=true:=by
 unfold PyData.strOk;rw[Str.ofString_eq_toList,List.all_toArray,bz];intro n H;obtain⟨c,_,rfl⟩:=cq.mp H
 have:c.toNat<0x110000:=by
  rcases c.valid with h|h
  ·exact lt_trans h (by decide)
  ·exact h.2
 exact aE this
theorem R7:∀(T:bW)(k:Nat)(A:Str),PyData.strOk A=true->(∀t∈T,PyData.strOk t=true)->PyData.strOk (textFrom k A T)=true
 |[],k,A,h,_=>h|t::r,k,A,h,H=>R7 r (k+1) _ (Qv (Qv h (QD _)) (H t (aq ..))) λx a=>H x (ak _ a)
theorem Pm (s:Str)(H:PyData.strOk s=true):∀T:bW,(∀t∈T,PyData.strOk t=true)->PyData.strOk (Str.join s T)=true
 |[],_=>by show PyData.strOk Str.empty=true;decide +kernel|[x],h=>h x (aq ..)|x::y::r,h=>Qv (Qv (h x (aq ..)) H) (Pm s H (y::r) λz a=>h z (ak _ a))
structure Sh (c:Nat)(d:PyData):Prop where
 sh:d.showable=true
 len:d.shown.length<=c
 ok:PyData.strOk d.shown=true
theorem OH {c:Nat}:∀{ds:List PyData},(∀d∈ds,Sh c d)->PyData.showableAll ds=true/\((PyData.shownAll ds).map (·.length)).sum<=ds.length * c/\(PyData.shownAll ds).length=ds.length/\∀t∈PyData.shownAll ds,PyData.strOk t=true
 |[],_=>⟨rfl,bG _,rfl,λt h=>by cases h⟩|d::ds,h=>by
  obtain⟨l,j,e⟩:=h d (aq ..);obtain⟨g,i,f,b⟩:=OH (ds:=ds) λx a=>h x (ak _ a);refine⟨?_,?_,?_,?_⟩
  ·rw[PyData.showableAll,l,g];rfl
  ·rw[PyData.shownAll,aK,sum_cons,aL,add_mul,Nat.one_mul]
   omega
  ·rw[PyData.shownAll,aL,aL,f]
  ·intro t H
   rw[PyData.shownAll]at H;rcases cn.mp H with rfl|H
   ·exact e
   ·exact b t H
def P7 {c:Nat}(h:∀d∈ds,Sh c d)(l:ds.length<=20):Sh (20 * (c+2)+3) (.list ds)/\Sh (20 * (c+2)+3) (.tuple ds):=by
 obtain⟨f,e,b,H⟩:=OH h;have B:ds.length * c<=20 * c:=Nat.mul_le_mul_right _ l;have a:=listText_len_le (PyData.shownAll ds);have L:=tupleText_len_le (PyData.shownAll ds);refine⟨⟨by simpa[PyData.showable] using f,?_,?_⟩,by simpa[PyData.showable] using f,?_,?_⟩
 ·simp only[PyData.shown];omega
 ·simp only[PyData.shown];exact Qv (R7 _ _ _ (QD _) H) (QD _)
 ·simp only[PyData.shown];omega
 ·simp only[PyData.shown];exact Qv (Qv (QD _) (Pm _ (QD _) _ H)) (QD _)
def Sh.le {c C:Nat}{d:PyData}(h:Sh c d)(H:c<=C):Sh C d:=⟨h.1,a3 h.2 H,h.3⟩
def lj {v:Int}(h:v.natAbs<=100):Sh 13 (.int v):=by
 refine⟨?_,PyData.shown_int_le (by omega),QD _⟩
 have:v.natAbs.log2<1920:=by
  by_cases z:v.natAbs=0
  ·rw[z];decide
  ·have:=(Nat.log2_lt z (k:=7)).mpr (by omega)
   omega
 simpa[PyData.showable] using this
def Sd (k c n:Nat)(A:Hx)(w:W):Prop:=∃d,(∀B,Kp n A B->zO B k w=some d)/\Sh c d
section
variable {C:Hx}{a b c e k K d M F:Nat}{v w:W}{p:Pg}{us:List W}{q:bR}
def Sd.mono (x:Kp n A B)(h:Sd k c n A w):Sd k c n B w:=by
 obtain⟨d,a,H⟩:=h;exact⟨d,λC y=>a C (x.trans y),H⟩
theorem Sd.le {C:Nat}(h:Sd k c n A w)(H:c<=C):Sd k C n A w:=by
 obtain⟨d,b,a⟩:=h;exact⟨d,b,a.le H⟩
def K2 {v:Int}(h:v.natAbs<=100):Sd k 13 n A (.int v):=⟨.int v,λB _=>by cases k<;>rfl,lj h⟩
def lp {b:Bool}:Sd k 13 n A (.bl b):=⟨.bool b,λB _=>by cases k<;>rfl,by cases b<;>decide,by cases b<;>decide,by cases b<;>decide +kernel⟩
def Ob:Sd k 13 n A .non:=⟨.none,λB _=>by cases k<;>rfl,by decide,by decide,by decide +kernel⟩
theorem XO:∀{ws:List W},(∀w∈ws,Sd k c n A w)->∃ds,(∀B,Kp n A B->jy (zO B k) ws=some ds)/\(∀d∈ds,Sh c d)/\ds.length=ws.length
 |[],_=>⟨[],λ_ _=>rfl,λd g=>by(cases g),rfl⟩|w::ws,h=>by
  obtain⟨d,i,f⟩:=h w (aq ..);obtain⟨ds,e,b,a⟩:=XO (ws:=ws) λx H=>h x (ak _ H);refine⟨d::ds,λB y=>Fs (i B y) (e B y),λx H=>?_,by rw[aL,aL,a]⟩
  rcases cn.mp H with rfl|H
  ·exact f
  ·exact b x H
def XD (h:∀w∈ws,Sd k c n A w)(l:ws.length<=20):Sd (k+1) (20 * (c+2)+3) n A (.tup ws):=by
 obtain⟨d,b,H,a⟩:=XO h;exact⟨.tuple d,λB y=>by show(jy (zO B k) ws).map PyData.tuple=_;rw[b B y];rfl,(P7 H (by omega)).2⟩
def XH {r:Nat}(H:r≠n)(a:A[r]? =some (.lst ws))(h:∀w∈ws,Sd k c n A w)(l:ws.length<=20):Sd (k+1) (20 * (c+2)+3) n A (.ref r):=by
 obtain⟨D,e,b,d⟩:=XO h;exact⟨.list D,λB y=>Rg (y.get a H) (e B y),(P7 b (by omega)).1⟩
def Rw (q:bR):Prop:=q.length<=7/\∀v∈q,0<=v/\v<=8
def R3 (l:q.length<=20)(h:∀v∈q,0<=v/\v<=8):Sd (k+1) 303 n A (zq q):=by
 refine XD (c:=13) (ws:=q.map W.int) (λw a=>?_) (by rw[ag];exact l)
 obtain⟨v,H,rfl⟩:=cq.mp a
 have:=h v H
 exact K2 (by omega)
def OG (h:Rw q):Sd (k+1) 303 n A (zq q):=R3 (by have:=h.1;omega) h.2
structure Gi (n:Nat)(A:Hx)(w:W):Prop where
 io:kf A w
 sd:Sd 7 10000 n A w
def Gi.kp (y:Ky A B)(x:Kp n A B)(h:Gi n A w):Gi n B w:=⟨h.io.mono y,h.sd.mono x⟩
theorem Gi.ext (x:Ext A B)(h:Gi n A w):Gi n B w:=h.kp x.ky (Kp.ext x)
def Xi (H:q.length<=20)(h:∀v∈q,0<=v/\v<=8):Gi n A (zq q):=⟨.tup (by rw[ag];exact H) λx a=>by obtain⟨v,_,rfl⟩:=cq.mp a;exact Xy v,(R3 H h).le (by omega)⟩
def Zn (h:Rw q):Gi n A (zq q):=Xi (by have:=h.1;omega) h.2
noncomputable def YK:W->Nat
 |.tup w=>w.length|_=>0
def wL (w:List W):Nat:=(w.map YK).sum
def R9 (q:bR):YK (zq q)=q.length:=ag ..
theorem gE:∀p:Pg,wL (p.map zq)=p.flatten.length
 |[]=>rfl|q::p=>by
  have:=gE p
  unfold wL at this ⊢;rw[aK,aK,sum_cons,this,R9,aO,aj]
def P8:wL (us++ws)=wL us+wL ws:=by unfold wL;rw[aW,List.sum_append]
def K4 (h:us.Sublist ws):wL us<=wL ws:=by
 induction h with
 |slnil=>exact ar _|cons a _ i=>unfold wL at i ⊢;rw[aK,sum_cons];omega|cons_cons a _ i=>unfold wL at i ⊢;rw[aK,sum_cons,aK,sum_cons];omega
theorem OY {k:Nat}:∀{ws:List W},(∀w∈ws,YK w<=k)->wL ws<=ws.length * k
 |[],_=>bG _|w::ws,h=>by
  have b:=h w (aq ..);have a:=OY (ws:=ws) λx H=>h x (ak _ H);unfold wL at a ⊢;rw[aK,sum_cons,aL,add_mul,Nat.one_mul];omega
def kf.wt (h:kf A w):YK w<=20:=by
 cases h with
 |tup H _=>exact H|oth h n=>cases w with
  |tup s=>exact absurd (by unfold q9 at h;cases h;rfl) n|_=>exact bG _
structure Gl (n:Nat)(A:Hx)(M F:Nat)(r:Nat):Prop where
 ne:r≠n
 at_:∃ws,A[r]? =some (.lst ws)/\(∀w∈ws,Gi n A w)/\ws.length<=M/\wL ws<=F
theorem Gl.kp {r:Nat}(y:Ky A B)(x:Kp n A B)(h:Gl n A M F r):Gl n B M F r:=by
 obtain⟨s,d,b,a,H⟩:=h.at_;exact⟨h.ne,s,x.get d h.ne,λw c=>(b w c).kp y x,a,H⟩
inductive Tn (n:Nat)(A:Hx):W->Prop
 |lst {r:Nat} (h:Gl n A 20 59 r):Tn n A (.ref r)
 |oth {w:W} {ty:Ty} (h:q9 w A=some ty) (hn:ty≠.lst) (hd:Sd 8 1000000 n A w):Tn n A w
 |dct {r:Nat} (hr:r≠n) (h:A[r]? =some (.dct [])):Tn n A (.ref r)
theorem Tn.kp (y:Ky A B)(x:Kp n A B)(h:Tn n A w):Tn n B w:=by
 cases h with
 |lst h=>exact .lst (h.kp y x)|oth h a d=>exact .oth (y _ _ h) a (d.mono x)|dct H h=>exact .dct H (x.get h H)
theorem Tn.ext (x:Ext A B)(h:Tn n A w):Tn n B w:=h.kp x.ky (Kp.ext x)
def Tn.kn (s:qH n A)(x:Kn n A B)(h:Tn n A w):Tn n B w:=h.kp (x.ky s) x.kp
def Tn.th (H:qm t)(a:qx t=(K:Int))(h:Tn n A w):Th t K A w:=by
 cases h with
 |lst h=>
  obtain⟨s,j,d,c,b⟩:=h.at_;exact lh H a j (λw g=>(d w g).io) c λp e=>by rw[e,gE]at b;omega
 |oth h i l=>exact Ny H h i|@dct r f h=>exact Ny (ty:=.dct) H (by show(match A[r]? with|some (.lst _)=>some Ty.lst|some (.dct _)=>some Ty.dct|_=>_)=_;rw[h]) (by decide)
def R1 {c:Nat}(h:Sd 8 c n A w)(b:c<=10000000):∃s,PyData.strOk s=true/\∀B,Ext A B->wD w B=.ok (.str s) B:=by
 obtain⟨d,f,a,e,H⟩:=h;refine⟨d.shown,H,λB x=>?_⟩;unfold wD;rw[f B (Kp.ext x)];dsimp only;rw[a,aE (by omega),Bool.and_self,ah rfl]
def Tn.rep (h:Tn n A w):∃s,PyData.strOk s=true/\∀B,Ext A B->wD w B=.ok (.str s) B:=by
 cases h with
 |lst h=>
  obtain⟨e,i,b,a,d⟩:=h.at_;exact R1 (XH h.ne i (λw f=>(b w f).sd) a) (by omega)
 |oth h j g=>exact R1 g (by omega)|@dct r c h=>
  refine⟨PyData.shown (.dict []),by decide +kernel,λB x=>?_⟩
  have H:=x.at h
  have:zO B 8 (.ref r)=none:=by
   show(match zI (.ref r) B with|some e=>(jy (zO B 7) e).map PyData.list|none=>none)=_
   have:zI (.ref r) B=none:=by unfold zI;dsimp only;rw[H]
   rw[this]
  unfold wD;rw[this];dsimp only;rw[H]
variable {m r:Nat}{u:W}{l:Pg}{hi:Int}
def RM {m m':Ev}{A2:Hx}{i j:Int}(h:m ρ A=.ok (.int i) A1)(b:m' ρ A1=.ok (.int j) A2)(a:jt i=true)(H:jt j=true):QF m m' ρ A=.ok (yv i (j-i).toNat) A2:=by
 unfold QF;rw[h,zA,b,zA];dsimp only;rw[a,H]
 rfl
theorem Kk:∀{l:Pg}{j:Nat}{q:bR},j<l.length->(l.set j q).flatten.length+(l.getD j []).length=l.flatten.length+q.length
 |[],j,q,h=>absurd h (Nat.not_lt_zero _)|x::l,0,q,h=>by
  simp only[List.set_cons_zero,aO,aj,List.getD_cons_zero];omega
 |x::l,j+1,q,h=>by
  have:=Kk (l:=l) (j:=j) (q:=q) (by simpa using h)
  simp only[List.set_cons_succ,aO,aj,List.getD_cons_succ];omega
def Cy {l:Pg}{q:bR}(h:j<l.length):(l.set j q).getD i []=if i=j then q else l.getD i []:=by
 rw[ae,ae,List.getElem?_set]
 by_cases z:i=j
 ·subst z;rw[ah rfl,ah h,ah rfl];rfl
 ·rw[ai (λw=>z w.symm),ai z]
def mem_set {l:Pg}{q x:bR}(h:x∈l.set j q):x∈l∨x=q:=List.mem_or_eq_of_mem_set h
def RY {a b:Ev}{A2:Hx}{r:Nat}{y:W}(H:a ρ A=.ok (.ref r) A1)(c:A1[r]? =some (.lst ws))(h:b ρ A1=.ok y A2):yk g a b ρ A=g (.ref r) y A2:=by
 have:Qg (.ref r) A1=true:=by unfold Qg;dsimp only;rw[c]
 unfold yk;rw[H,zA,this,ah rfl,h,zA]
def DN (a:qm t)(d:qx t=(K:Int)):qj (zN 1 [] (QF zu (zw yr (zc zm zh))) (zC 0) zS (zK (zJ zh))) [rO n,some (zt t),none,none] A=.ok (.ref (A.length+(K-1))) (A++List.replicate (K-1) (.lst [])++[.lst ((List.range (K-1)).map λj=>.ref (A.length+j))]):=by
 have g:=wF a;have r:=RM (m:=zu) (m':=zw yr (zc zm zh)) (ρ:=[rO n,some (zt t),none,none]) (A:=A) (A1:=A) (A2:=A) (i:=1) (j:=(K:Int)) qe ((ql (zP (zj rfl) qa)).trans ((Jg a A).trans (by rw[d]))) (by decide) (Qn (by omega))
 rw[show((K:Int)-1).toNat=K-1 by omega]at r
 obtain⟨c,l,C,e,⟨_,h,f⟩⟩:=Jb (nl:=1) (cap:=[]) (mi:=QF zu (zw yr (zc zm zh))) (tw:=zC 0) (ifs:=zS) (em:=zK (zJ zh)) (N:=K-1) (I:=λi o l B=>(∃y,o=[y])/\l=((List.range i).map λj=>W.ref (A.length+j))/\B=A++List.replicate i (.lst [])) r rfl
  (λi o l B p ⟨⟨y,H⟩,h,b⟩=>by
   subst H;refine⟨.int (1+(i:Int)),_,Zo p,rfl,.inl ⟨B,_,_,_,qe,Qs (jl qa) (by rw[h,ag,a5];unfold zR;omega),⟨_,rfl⟩,?_,?_⟩⟩
   ·rw[h,range_succ,aW,b,aj,aT]
    rfl
   ·rw[b,List.replicate_succ',aR])
  (λo l B _=>Zj (by omega)) ⟨⟨none,rfl⟩,rfl,by rw[List.replicate_zero,bx]⟩
 have:=yR e
 rw[h,f,aj,aT]at this;exact this
structure Ni (n:Nat)(A:Hx)(M:Nat)(l:Pg)(C:Hx):Prop where
 kn:Kn n A C
 top:C[A.length+M]? =some (.lst ((List.range M).map λj=>.ref (A.length+j)))
 len:l.length=M
 row:∀j,j<M->C[A.length+j]? =some (.lst ((l.getD j []).map W.int))
 val:∀q∈l,∀v∈q,1<=v/\v<=7
def An (s:qH n A)(X:qm t):∃(r:Nat) (B:Hx) (p:Pg),Q7 [.ref n,zt t] A=.ok (.ref r) B/\B[r]? =some (pO p)/\r≠n/\Kn n A B/\p.length<=7/\p.flatten.length<=7/\∀q∈p,Rw q:=by
 have kb:=wF X;obtain⟨K,hK⟩:∃K:Nat,qx t=(K:Int):=⟨(qx t).toNat,by omega⟩
 have hn:=s.lt;have e1:=DN (n:=n) (A:=A) X hK;have x1:Ext A (A++List.replicate (K-1) (.lst [])++[.lst ((List.range (K-1)).map λj=>.ref (A.length+j))]):=⟨_,by rw[aR]⟩
 have L0:Ni n A (K-1) (List.replicate (K-1) []) (A++List.replicate (K-1) (.lst [])++[.lst ((List.range (K-1)).map λj=>.ref (A.length+j))]):=by
  refine⟨Kn.ext s x1,?_,aT ..,λj M=>?_,λq J=>?_⟩
  ·have:=qc (A:=A++List.replicate (K-1) (.lst [])) (u:=.lst ((List.range (K-1)).map λj=>.ref (A.length+j)))
   rw[aj,aT]at this;exact this
  ·rw[au (by rw[aj,aT];omega),ay (by omega),show A.length+j-A.length=j by omega,a7,ah M,ae,a7,ah M]
   rfl
  ·rw[(List.mem_replicate.mp J).2]
   exactλv E=>by cases E
 generalize A++List.replicate (K-1) (.lst [])++[.lst ((List.range (K-1)).map λj=>.ref (A.length+j))]=Q at e1 L0;have hr:=RM (m:=zu) (m':=zw yr (zc zm zh)) (ρ:=[rO n,some (zt t),rO (A.length+(K-1)),none]) (A:=Q) (A1:=Q) (A2:=Q) (i:=1) (j:=(K:Int)) qe ((ql (zP (zj rfl) qa)).trans ((Jg X Q).trans (by rw[hK]))) (by decide) (Qn (by omega))
 rw[show((K:Int)-1).toNat=K-1 by omega]at hr
 obtain⟨U,C,e2,l,y,d,L,hf⟩:=Zf (j:=yv 1 (K-1)) (st:=turn (zC 3) (zo (kH (yk yS (zi zH zM (zw jL (zc zl (zc (mQ qw (zX zM)) zh)))) zB)) zx)) (N:=K-1)
  (I:=λi ρ C=>∃(l:Pg) (y:Option W),ρ=[rO n,some (zt t),rO (A.length+(K-1)),y]/\Ni n A (K-1) l C/\l.flatten.length<=i)
  (λi ρ C hi ⟨l,y,d,L,hf⟩=>by
   subst d;have el:mQ qw (zX zM) [rO n,some (zt t),rO (A.length+(K-1)),iV (1+(i:Int))] C=.ok (.int ((K-1:Nat):Int)) C:=(jF (j3 (zj rfl) (QA L.top))).trans (by show R.ok (W.int ((((List.range (K-1)).map λj=>W.ref (A.length+j)).length:Nat):Int)) _=_;rw[ag,a5])
   obtain⟨j,C1,et,M,k1,_⟩:=wW (ρ:=[rO n,some (zt t),rO (A.length+(K-1)),iV (1+(i:Int))]) (me:=mQ qw (zX zM)) L.kn.st rfl el (by omega) (by omega)
   have H:j<K-1:=by omega
   have T:=k1.kp.get L.top (by omega)
   have c:=λa (f:a<K-1)=>k1.kp.get (L.row a f) (by omega)
   have ei:zi zH zM (zw jL (zc zl (zc (mQ qw (zX zM)) zh))) [rO n,some (zt t),rO (A.length+(K-1)),iV (1+(i:Int))] C=.ok (.ref (A.length+j)) C1:=(zG (zj rfl) et).trans (yY T (by rw[ax,a9 H];rfl))
   have J:(l.getD j []).length<=7:=by
    have:=Kk (l:=l) (j:=j) (q:=[]) (by rw[L.len];exact H)
    simp only[bg]at this;omega
   have ea:=(RY (g:=yS) (b:=zB) (A2:=C1) (y:=.int (1+(i:Int))) ei (c j H) (zj rfl)).trans (GC (c j H) (by rw[ag];omega))
   have ln:=k1.kp.len;have lr:=kU (c j H);refine⟨.int (1+(i:Int)),_,_,Zo hi,(wy rfl).trans ((zE (Ji ea)).trans jw),l.set j (l.getD j []++[1+(i:Int)]),_,rfl,⟨⟨(L.kn.kp.trans k1.kp).put (by omega),k1.st.put (by omega)⟩,?_,by rw[a6,L.len],λa f=>?_,λq J v E=>?_⟩,?_⟩
   ·rw[aI (by omega)]
    exact T
   ·rw[Cy (by rw[L.len];exact H)]
    by_cases z:a=j
    ·subst z
     rw[ah rfl,aC lr,aW]
     rfl
    ·rw[ai z,aI (by omega)]
     exact c a f
   ·rcases mem_set J with h|h
    ·exact L.val q h v E
    ·rw[h]at E
     rcases cz.mp E with h'|h'
     ·exact L.val _ (km (t:=l) (by rw[L.len];exact H)) v h'
     ·rw[cx.mp h'];omega
   ·have:=Kk (l:=l) (j:=j) (q:=l.getD j []++[1+(i:Int)]) (by rw[L.len];exact H)
    rw[aj]at this;simp only[aL,bg]at this;omega)
  (λρ C _=>Zj (by omega)) (K-1) 0 [rO n,some (zt t),rO (A.length+(K-1)),none] Q (by omega) ⟨_,none,rfl,L0,by simp⟩
 subst d;have e3:=(wz (m1:=zo (kH (yk yS (zi zH zM (zw jL (zc zl (zc (mQ qw (zX zM)) zh)))) zB)) zx) (tw:=zC 3) hr).trans e2;obtain⟨U,acc,D,e4,xD,_,f⟩:=Jb (nl:=1) (cap:=[]) (ρ:=[rO n,some (zt t),rO (A.length+(K-1)),y]) (A:=C) (mi:=z9 zM) (tw:=zC 0) (ifs:=zi qJ zl (zJ zh)) (em:=zK (mQ yg (zX zl))) (N:=K-1) (I:=λi ρ acc B=>Ext C B/\(∃y,ρ=[y])/\acc=((l.take i).filter λq=>!q.isEmpty).map zq) (ZT (zj rfl) L.top) (by rw[ag,a5])
  (λi ρ acc B hi ⟨x,⟨y,d⟩,f⟩=>by
   subst d;have hl:i<l.length:=by rw[L.len];exact hi
   have hg:l[i]? =some (l.getD i []):=by rw[ae,aa hl];rfl
   have ne:zi qJ zl (zJ zh) [rO (A.length+i)] B=.ok (.bl (!((l.getD i []).map W.int).isEmpty)) (B++[.lst []]):=(zG (zj rfl) (jl qa)).trans (ne_nil (qR (x.at (L.row i hi))) qc λw hw=>by obtain⟨v,_,rfl⟩:=cq.mp hw;exact Xy v)
   have hm:((l.getD i []).map W.int).isEmpty=(l.getD i []).isEmpty:=by cases l.getD i []<;>rfl
   rw[hm]at ne;refine⟨.ref (A.length+i),_,K1 (x.at L.top) (by rw[ax,a9 hi];rfl),rfl,?_⟩
   have tk:l.take (i+1)=l.take i++[l.getD i []]:=Rm hg;have al:acc.length<=7:=by
    rw[f,ag];refine a3 (length_filter_le ..) ?_;rw[bp];omega
   cases S:(l.getD i []).isEmpty with
   |true=>
    rw[S]at ne;exact .inr ⟨_,ne,x.trans Ext.one,⟨_,rfl⟩,by rw[tk,filter_append,List.filter_cons_of_neg (by rw[S];decide),List.filter_nil,bx];exact f⟩
   |false=>
    rw[S]at ne;refine .inl ⟨_,_,_,_,ne,Qs ((jF (j3 (zj rfl) (QA (qR (x.at (L.row i hi)))))).trans rfl) (by unfold zR;omega),x.trans Ext.one,⟨_,rfl⟩,?_⟩
    rw[tk,filter_append,List.filter_cons_of_pos (by rw[S];rfl),List.filter_nil,aW,f]
    rfl)
  (λρ acc B ⟨x,_,_⟩=>K9 (x.at L.top) (by rw[ag,a5];exact ar _)) ⟨.refl,⟨none,rfl⟩,rfl⟩
 rw[show l.take (K-1)=l by rw[<- L.len];exact bD ..]at f
 subst f;have o:(l.filter λq=>!q.isEmpty).Sublist l:=List.filter_sublist ..;have Z:(l.filter λq=>!q.isEmpty).length<=7:=a3 o.length_le (by rw[L.len];omega)
 have hfl:(l.filter λq=>!q.isEmpty).flatten.length<=7:=by
  rw[<- gE];refine a3 (K4 (o.map zq)) ?_;rw[gE];omega
 have e5:=S9 (yR e4) qc (λk hk z=>by have:=(List.mem_filter.mp hk).2;rw[z]at this;cases this) (by omega)
 have pm:(qV (O:=j9) (l.filter λq=>!q.isEmpty)).Perm (l.filter λq=>!q.isEmpty):=JP (O:=j9) _;have kD:Kn n A (D++[O.lst ((l.filter λq=>!q.isEmpty).map zq)]++[pO (qV (O:=j9) (l.filter λq=>!q.isEmpty))]):=L.kn.trans (Kn.ext L.kn.st (xD.trans (Ext.one.trans Ext.one)));refine⟨_,_,qV (O:=j9) (l.filter λq=>!q.isEmpty),?_,qc,?_,kD,by rw[pm.length_eq];exact Z,by rw[pm.flatten.length_eq];exact hfl,λq J=>?_⟩
 ·unfold Q7 UK
  refine qy ?_;unfold UU;exact(zE (qC e1)).trans ((zE e3).trans (qd (qA e5)))
 ·have:=xD.len
  have:=L.kn.kp.len
  rw[aj];simp only[aL,bg];omega
 ·have Y:=pm.mem_iff.mp J
  have P:=(List.mem_filter.mp Y).1;refine⟨?_,λv E=>by have:=L.val q P v E;omega⟩
  obtain⟨j,M,e⟩:=bw P
  have:=Kk (l:=l) (j:=j) (q:=[]) M
  rw[ae,aa M,getD_some,e]at this;simp only[bg]at this;omega
end
def RW {a M:Ev}{b:Hx}{x y:W}(h:a ρ A=.ok x A1)(H:M ρ A1=.ok y b):Ju i j a M ρ A=.ok (.nx ((ρ.set i (some x)).set j (some y))) b:=by
 unfold Ju;rw[h,zA,H,zA]
def ZU {m:Ev}{i:Int}(h:m ρ A=.ok (.int i) A):qO m ρ A=.ok (some i) A:=by
 unfold qO;rw[h,zA]
def Al (w:List W)(l u:bZ):(yO w l u).Sublist w:=(take_sublist _ _).trans (List.drop_sublist _ _)
def KC {f:α->W}(l u:bZ)(x:List α):∃y:List α,yO (x.map f) l u=y.map f/\y.Sublist x:=by
 refine⟨(x.drop (HT.qb x.length 0 l)).take (HT.qb x.length x.length u-HT.qb x.length 0 l),?_,(take_sublist _ _).trans (List.drop_sublist _ _)⟩;unfold yO;rw[ag,List.map_take,List.map_drop]
def EG (P:Hx->W->Prop)(S:Hx)(m:Ev)(a:En):Prop:=∀A,Ext S A->∃w B,m a A=.ok w B/\Ext A B/\P B w
def AG (P:Hx->W->Prop)(S:Hx)(a:Ea)(b:En)(k:Nat):Prop:=∀A,Ext S A->∃s B,a b A=.ok s B/\Ext A B/\s.length=k/\∀w∈s,P B w
noncomputable abbrev LG (n M F:Nat):Hx->W->Prop:=λA w=>∃r,w=.ref r/\Gl n A M F r
section
variable {C S:Hx}{e k M F M1 F1 M2 F2 r:Nat}{w:W}{us:List W}{q:bR}{m m':Ev}{a:Ea}{P:Hx->W->Prop}{pl pu:Po}{ol ou:bZ}
def XC:AG P S zh ρ 0:=λA _=>⟨[],A,rfl,.refl,rfl,λ_ h=>by cases h⟩
def Pr (d:∀{A B w},Ext A B->P A w->P B w)(h:EG P S m ρ)(t:AG P S a ρ k):AG P S (zc m a) ρ (k+1):=λA x=>by
 obtain⟨w,i,E,X,f⟩:=h A x;obtain⟨s,g,e,c,l,b⟩:=t i (x.trans X);refine⟨w::s,g,zP E e,X.trans c,by rw[aL,l],λy H=>?_⟩
 rcases cn.mp H with rfl|H
 ·exact d c f
 ·exact b y H
def gD (h:EG (Gi n) S m ρ)(t:AG (Gi n) S a ρ k):AG (Gi n) S (zc m a) ρ (k+1):=Pr Gi.ext h t
def Zl (h:EG (Tn n) S m ρ)(t:AG (Tn n) S a ρ k):AG (Tn n) S (zc m a) ρ (k+1):=Pr Tn.ext h t
def yU (h:∀A,Ext S A->m ρ A=.ok w A)(H:∀A,Ext S A->P A w):EG P S m ρ:=λA x=>⟨w,A,h A x,.refl,H A x⟩
def Wb (x:Ext A B)(h:Gl n A M F r):Gl n B M F r:=h.kp x.ky (Kp.ext x)
def We (b:n<A.length)(h:∀w∈ws,Gi n A w)(H:ws.length<=M)(f:wL ws<=F):Gl n (A++[.lst ws]) M F A.length:=⟨by omega,ws,qc,λw a=>(h w a).ext Ext.one,H,f⟩
def Oj (j:n<S.length)(h:EG (LG n M F) S m ρ)(l:∀A,Ext S A->pl ρ A=.ok ol A)(u:∀A,Ext S A->pu ρ A=.ok ou A):EG (LG n M F) S (qX m pl pu) ρ:=λA x=>by
 obtain⟨_,B,e,a,r,rfl,g⟩:=h A x;obtain⟨s,i,d,c,b⟩:=g.at_;have X:=x.trans a;have H:=Al s ol ou;refine⟨.ref B.length,B++[.lst (yO s ol ou)],?_,a.trans Ext.one,_,rfl,We (by have:=X.len;omega) (λw f=>d w (H.subset f)) (a3 H.length_le c) (a3 (K4 H) b)⟩
 unfold qX;rw[e,zA,l B X,zA,u B X,zA];dsimp only;rw[i]
def XG (v:n<S.length)(h:EG (LG n M1 F1) S m ρ)(s:EG (LG n M2 F2) S m' ρ)(M:M1+M2<=100):EG (LG n (M1+M2) (F1+F2)) S (zi zL m m') ρ:=λA x=>by
 obtain⟨_,B,e,X,r,rfl,g⟩:=h A x;obtain⟨_,C,E,o,i,rfl,t⟩:=s B (x.trans X);obtain⟨u,q,f,l,j⟩:=(Wb o g).at_;obtain⟨U,a,H,d,c⟩:=t.at_;have b:=(x.trans X).trans o;refine⟨_,_,(zG e E).trans (gB q a (by unfold zR;omega)),(X.trans o).trans Ext.one,_,rfl,We (by have:=b.len;omega) (λw p=>?_) (by rw[aj];omega) (by rw[P8];omega)⟩
 rcases cz.mp p with h|h
 ·exact f w h
 ·exact H w h
def Oo (b:n<S.length)(h:EG (Gi n) S m ρ):EG (LG n 1 20) S (zJ (zc m zh)) ρ:=λA x=>by
 obtain⟨w,B,e,X,g⟩:=h A x;have a:=x.trans X;refine⟨_,_,jl (zP e qa),X.trans Ext.one,_,rfl,We (by have:=a.len;omega) (λy H=>?_) (ar _) ?_⟩
 ·rw[cx.mp H];exact g
 ·have:=g.io.wt
  show YK w+0<=20;omega
def lu (i:n<S.length)(h:EG (LG n M F) S m ρ):EG (LG n M F) S (Yi m (qE kO zu)) ρ:=λA x=>by
 obtain⟨_,B,e,X,r,rfl,g⟩:=h A x;obtain⟨s,f,c,b,H⟩:=g.at_;have a:=x.trans X;refine⟨.ref B.length,B++[.lst s.reverse],?_,X.trans Ext.one,_,rfl,We (by have:=a.len;omega) (λw d=>c w (List.mem_reverse.mp d)) (by rw[length_reverse];exact b) ?_⟩
 ·unfold Yi
  rw[e,zA];show(match B[r]? with|some (.lst s)=>if some (-1:Int)=some (-1) then R.ok (W.ref B.length) (B++[O.lst s.reverse]) else .bad|_=>.bad)=_
  rw[f]
  rfl
 ·unfold wL at H ⊢
  rw[List.map_reverse,List.sum_reverse];exact H
def Yd (h:EG (LG n M F) S m ρ)(a:M<=20)(b:F<=59):EG (Tn n) S m ρ:=λA x=>by
 obtain⟨_,B,e,X,r,rfl,g⟩:=h A x;obtain⟨w,f,H,d,c⟩:=g.at_;exact⟨_,B,e,X,.lst ⟨g.ne,w,f,H,by omega,by omega⟩⟩
def BN (a:r≠n)(b:A[r]? =some (.lst ws))(h:∀w∈ws,∃q,w=zq q/\Rw q)(l:ws.length<=8):Gl n A 8 56 r:=by
 refine⟨a,ws,b,λw c=>?_,l,?_⟩
 ·obtain⟨q,rfl,H⟩:=h w c
  exact Zn H
 ·have:=OY (k:=7) (ws:=ws) λw c=>by
   obtain⟨q,rfl,H⟩:=h w c;rw[R9];exact H.1
  omega
def Oa {me:Ev}(s:qH n B)(e:m ρ A=.ok (.ref r) B)(H:r≠n)(a:B[r]? =some (.lst ws))(l:ws.length=10)(c:ρ[0]? =some (rO n)):∃w C,zi zH m (zw jL (zc zl (zc QQ zh))) ρ A=.ok w C/\w∈ws/\Kn n B C:=by
 obtain⟨j,C,E,b,K,_⟩:=wW (ρ:=ρ) (me:=QQ) (m:=10) s c qe (by decide) (by decide)
 have h:j<ws.length:=by omega
 exact⟨ws[j],C,(zG e E).trans (yY (K.kp.get a H) (aa h)),aN h,K⟩
variable {c K:Nat}{u v:W}{p l:Pg}
def XB (h:m ρ A=.ok (.ref r) A)(a:A[r]? =some (.lst ws))(l:pl ρ A=.ok ol A)(H:pu ρ A=.ok ou A):qX m pl pu ρ A=.ok (.ref A.length) (A++[.lst (yO ws ol ou)]):=by
 unfold qX;rw[h,zA,l,zA,H,zA];dsimp only;rw[a]
def OM (a:En)(A:Hx):zJ (zc (zy (zc zu zh)) zh) a A=.ok (.ref A.length) (A++[.lst [zq [1]]]):=jl (zP (Zi (zP qe qa)) qa)
abbrev fb (n r K x y:Nat)(l:En):En:=rO n::rO r::iV K::iV x::iV y::l
def rw_1:Rw [1]:=⟨by decide,by decide⟩
def lx (p:n<S.length)(i:ρ[5]? =some (some (zq q)))(j:ρ[2]? =some (iV K))(H:Rw q)(l:K<=8):
  AG (Gi n) S (zc (zy zh) (zc (Wk jK (qE kO zu)) (zc (zi zL jK (zy (zc zM zh))) (zc (qX jK (qO zu) jv) (zc (qj (zX jK)) (zc Zb (zc (zy (zc zD zh)) (zc (zy (zc zS zh)) (zc zu (zc (zi zL jK (qX jK (qO (qE kO zu)) jv)) zh)))))))))) ρ 10:=by
 have a:∀A,jK ρ A=.ok (zq q) A:=λA=>zj i;have add:∀(x:bR)(A:Hx),x.length<=7->zL (zq q) (zq x) A=.ok (zq (q++x)) A:=λx A b=>by
  unfold zL zq;dsimp only
  have:=H.1
  rw[ah (by rw[ag,ag];unfold zR;omega),aW]
 refine gD (yU (w:=zq []) (λA _=>Zi qa) λA _=>Zn ⟨by decide,λv h=>by cases h⟩) ?_
 refine gD (yU (w:=zq q.reverse) (λA _=>?_) λA _=>Zn ⟨by rw[length_reverse];exact H.1,λv h=>H.2 v (List.mem_reverse.mp h)⟩) ?_
 ·unfold Wk
  rw[a A,zA];show R.ok (W.tup (q.map W.int).reverse) A=_;unfold zq;rw[List.map_reverse]
 refine gD (yU (w:=zq (q++[(K:Int)])) (λA _=>(zG (a A) (Zi (zP (zj j) qa))).trans (add [(K:Int)] A (by show 1<=7;decide))) λA _=>Xi (by rw[aj];have:=H.1;simp;omega) λv h=>?_) ?_
 ·rcases cz.mp h with h|h
  ·exact H.2 v h
  ·rw[cx.mp h];omega
 refine gD (yU (w:=zq (q.drop 1)) (λA _=>(Oz (a A)).trans (by unfold zq;rw[List.map_drop])) λA _=>Zn ⟨by rw[bI];have:=H.1;omega,λv h=>H.2 v (List.mem_of_mem_drop h)⟩) ?_
 refine gD (λA x=>⟨_,_,yR (j3 (a A) rfl),Ext.one,.oth X9 (by decide),?_⟩) ?_
 ·refine(XH (k:=6) (c:=13) (by have:=x.len;omega) qc (λw o=>?_) ?_).le (by decide)
  ·obtain⟨v,g,rfl⟩:=cq.mp o
   have:=H.2 v g
   exact K2 (by omega)
  ·rw[ag];have:=H.1;omega
 refine gD (yU (w:=.non) (λA _=>qe) λA _=>⟨.oth (ty:=.non) rfl (by decide),Ob.le (by decide)⟩) ?_
 refine gD (yU (w:=zq [0]) (λA _=>Zi (zP qe qa)) λA _=>Zn ⟨by decide,by decide⟩) ?_
 refine gD (yU (w:=.tup [.bl true]) (λA _=>Zi (zP qe qa)) λA _=>⟨.tup (by decide) λx b=>?_,(XD (k:=6) (c:=13) (λx b=>?_) (by decide)).le (by decide)⟩) ?_
 ·rw[cx.mp b];exact⟨⟨.bl,λ_=>rfl⟩,rfl,⟨_,λ_=>rfl⟩⟩
 ·rw[cx.mp b];exact lp
 refine gD (yU (w:=.int 1) (λA _=>qe) λA _=>⟨.oth (ty:=.int) rfl (by decide),(K2 (by decide)).le (by decide)⟩) ?_
 obtain⟨y,e,s⟩:=KC (f:=W.int) (some (-1)) none q;have d:y.length<=7:=a3 s.length_le H.1;refine gD (yU (w:=zq (q++y)) (λA _=>(zG (a A) (?_:qX jK (qO (qE kO zu)) jv ρ A=.ok (zq y) A)).trans (add y A d)) λA _=>Xi (by rw[aj];have:=H.1;omega) λv h=>?_) XC
 ·unfold qX
  rw[a A,zA];show R.ok (W.tup (yO (q.map W.int) (some (-1)) none)) A=_;rw[e]
  rfl
 ·rcases cz.mp h with h|h
  ·exact H.2 v h
  ·exact H.2 v (s.subset h)
def lz (s:qH n A)(hp:A[r]? =some (pO p))(Z:r≠n)(hl:p.length<=7)(hf:p.flatten.length<=7)(hq:∀q∈p,Rw q)(hK:K<=8):∃w B,ZH [.ref n,.ref r,.int K] A=.ok w B/\Tn n B w/\Kn n A B:=by
 have L:(p.map zq).length=p.length:=ag ..;have el:∀(ρ:En)(B:Hx),ρ[1]? =some (rO r)->B[r]? =some (pO p)->mQ qw (zX zm) ρ B=.ok (.int p.length) B:=λρ B h hB=>(jF (j3 (zj h) (QA hB))).trans (by show R.ok (W.int (((p.map zq).length:Nat):Int)) _=_;rw[L])
 obtain⟨x,B1,e1,hx,k1,_⟩:=wW (ρ:=[rO n,rO r,iV K,none,none,none,none,none,none]) (me:=zi zL (mQ qw (zX zm)) zu) (m:=(p.length:Int)+1) s rfl ((zG (el _ _ rfl hp) qe).trans rfl) (by omega) (by omega)
 have hp1:=k1.kp.get hp Z;obtain⟨y,B2,e2,hy,k2,_⟩:=wW (ρ:=[rO n,rO r,iV K,none,none,none,none,none,none]) (me:=zi zL (mQ qw (zX zm)) zu) (m:=(p.length:Int)+1) k1.st rfl ((zG (el _ _ rfl hp1) qe).trans rfl) (by omega) (by omega)
 have hp2:=k2.kp.get hp1 Z;have kn2:=k1.trans k2;obtain⟨cp,hcp,hcs⟩:=KC (f:=zq) (some (x:Int)) (some ((x:Int)+1)) p;have e3:qX zm (qO zB) (qO (zi zL zB zu)) (fb n r K x y [none,none,none,none]) B2=.ok (.ref B2.length) (B2++[.lst (cp.map zq)]):=hcp ▸ XB (zj rfl) hp2 (ZU (zj rfl)) (ZU ((zG (zj rfl) qe).trans rfl));obtain⟨Q,hq1,B3,e4,x3⟩:∃Q,Rw Q/\∃B3,zi zH (zi zL (qX zm (qO zB) (qO (zi zL zB zu))) (zJ (zc (zy (zc zu zh)) zh))) zD (fb n r K x y [none,none,none,none]) B2=.ok (zq Q) B3/\Ext B2 B3:=by
  have ea:=(zG (g:=zL) e3 (OM _ _)).trans (gB (qR qc) qc (by rw[ag];have:=hcs.length_le;unfold zR;simp;omega))
  have h0:∃Q,Rw Q/\(cp.map zq++[zq [1]])[0]? =some (zq Q):=by
   cases cp with
   |nil=>exact⟨[1],rw_1,rfl⟩|cons q cp=>exact⟨q,hq q (hcs.subset (aq ..)),rfl⟩
  obtain⟨Q,h1,h2⟩:=h0;exact⟨Q,h1,_,(zG ea qe).trans (yY (s:=0) qc h2),(Ext.one.trans Ext.one).trans Ext.one⟩
 have kn3:=kn2.trans (Kn.ext kn2.st x3);have hn3:=kn3.st.lt;obtain⟨ws,B4,e5,x4,hw,hg⟩:=lx (ρ:=fb n r K x y [some (zq Q),none,none,none]) hn3 rfl rfl hq1 hK B3 .refl;have E:=kn3.trans (Kn.ext kn3.st x4);have hn4:=E.st.lt;obtain⟨j,e,e6,hod,k5⟩:=Oa (me:=jA) (m:=jA) (ρ:=fb n r K x y [some (zq Q),rO B4.length,none,none]) (n:=n) (A:=B4++[.lst ws]) (E.st.ext (Ext.one (o:=.lst ws))) (zj rfl) (by omega) qc hw rfl
 have D:=(E.trans (Kn.ext E.st (Ext.one (o:=.lst ws)))).trans k5;have g5:Gi n e j:=((hg j hod).ext Ext.one).kp (k5.ky (E.st.ext Ext.one)) k5.kp;have hp5:=D.kp.get hp Z;have hn5:=D.st.lt;have e7:zi zL (qj (zX zm)) (zJ (zc (zy (zc zu zh)) zh)) (fb n r K x y [some (zq Q),some j,none,none]) e=.ok (.ref (e.length+2)) (e++[.lst (p.map zq)]++[.lst [zq [1]]]++[.lst (p.map zq++[zq [1]])]):=by
  have:=(zG (g:=zL) (yR (j3 (zj (i:=1) (ρ:=fb n r K x y [some (zq Q),some j,none,none]) (A:=e) rfl) (QA hp5))) (OM _ _)).trans (gB (qR qc) qc (by rw[ag];unfold zR;simp;omega))
  rw[this,aj,aj]
  rfl
 have x6:Ext e (e++[.lst (p.map zq)]++[.lst [zq [1]]]++[.lst (p.map zq++[zq [1]])]):=(Ext.one.trans Ext.one).trans Ext.one;have h6:(e++[O.lst (p.map zq)]++[.lst [zq [1]]]++[.lst (p.map zq++[zq [1]])])[e.length+2]? =some (.lst (p.map zq++[zq [1]])):=by
  have:=qc (A:=e++[O.lst (p.map zq)]++[.lst [zq [1]]]) (u:=.lst (p.map zq++[zq [1]]))
  rw[aj,aj]at this;exact this
 generalize e++[O.lst (p.map zq)]++[.lst [zq [1]]]++[.lst (p.map zq++[zq [1]])]=P at e7 x6 h6;have hl7:(p.map zq++[zq [1]]).length=p.length+1:=by rw[aj,L];rfl
 have U:∀w∈p.map zq++[zq [1]],∃q,w=zq q/\Rw q:=λw hw=>by
  rcases cz.mp hw with h|h
  ·obtain⟨q,hq',rfl⟩:=cq.mp h
   exact⟨q,rfl,hq q hq'⟩
  ·exact⟨[1],cx.mp h,rw_1⟩
 generalize p.map zq++[zq [1]]=b at h6 hl7 U;have hxl:x<b.length:=by omega
 have hyl:y<b.length:=by omega
 have e8:J0 j6 (zy (zc (zi zH j8 jd) (zc (zi zH j8 zB) zh))) j8 zB j8 jd (fb n r K x y [some (zq Q),some j,rO (e.length+2),none]) P=.ok (.nx (fb n r K x y [some (zq Q),some j,rO (e.length+2),none])) ((P.set (e.length+2) (.lst (b.set x b[y]))).set (e.length+2) (.lst ((b.set x b[y]).set y b[x]))):=by
  unfold J0;rw[Zi (zP ((zG (zj rfl) (zj rfl)).trans (yY h6 (aa hyl))) (zP ((zG (zj rfl) (zj rfl)).trans (yY h6 (aa hxl))) qa)),zA];dsimp only;unfold Yu;rw[show j8 (fb n r K x y [some (zq Q),some j,rO (e.length+2),none]) P=.ok (.ref (e.length+2)) P from rfl,zA,show zB (fb n r K x y [some (zq Q),some j,rO (e.length+2),none]) P=.ok (.int x) P from rfl,zA,KS h6 hxl,zA]
  show R.bind (j6 (.ref (e.length+2)) (.int y) b[x] (P.set (e.length+2) (.lst (b.set x b[y])))) _=_;rw[KS (ws:=b.set x b[y]) (aC (kU h6)) (by rw[a6];exact hyl),zA]
 have h7:((P.set (e.length+2) (.lst (b.set x b[y]))).set (e.length+2) (.lst ((b.set x b[y]).set y b[x])))[e.length+2]? =some (.lst ((b.set x b[y]).set y b[x])):=aC (by rw[a6];exact kU h6)
 have k7:Kn n e ((P.set (e.length+2) (.lst (b.set x b[y]))).set (e.length+2) (.lst ((b.set x b[y]).set y b[x]))):=⟨((Kp.ext x6).put (by omega)).put (by omega),((D.st.ext x6).put (by omega)).put (by omega)⟩
 have Y:∀w∈(b.set x b[y]).set y b[x],∃q,w=zq q/\Rw q:=λw hw=>by
  rcases List.mem_or_eq_of_mem_set hw with h|h
  ·rcases List.mem_or_eq_of_mem_set h with h|h
   ·exact U w h
   ·exact U w (h ▸ aN hyl)
  ·exact U w (h ▸ aN hxl)
 have hl7':((b.set x b[y]).set y b[x]).length<=8:=by rw[a6,a6];omega
 generalize (P.set (e.length+2) (.lst (b.set x b[y]))).set (e.length+2) (.lst ((b.set x b[y]).set y b[x]))=B7 at e8 h7 k7;generalize (b.set x b[y]).set y b[x]=ws7' at h7 Y hl7';have T:=D.trans k7;have H:=T.st.lt;have hp7:=T.kp.get hp Z;have g7:Gi n B7 j:=g5.kp (k7.ky D.st) k7.kp;have X:Gl n B7 7 7 r:=⟨Z,_,hp7,λw hw=>by obtain⟨q,h,rfl⟩:=cq.mp hw;exact Zn (hq q h),by rw[L];exact hl,by rw[gE];exact hf⟩
 have go7:Gl n B7 8 56 (e.length+2):=BN (by omega) h7 Y hl7'
 have cut:∀{ρ:En}{S:Hx}{pl pu:Po}{ol ou:bZ},n<S.length->Gl n S 7 7 r->ρ[1]? =some (rO r)->(∀A,pl ρ A=.ok ol A)->(∀A,pu ρ A=.ok ou A)->EG (LG n 7 7) S (qX zm pl pu) ρ:=λhn g h hl hu=>Oj hn (yU (λA _=>zj h) λA x=>⟨r,rfl,Wb x g⟩) (λA _=>hl A) λA _=>hu A;have g8:AG (Tn n) B7 (zc (zi zL (zi zL (qX zm jv (qO zB)) (zJ (zc jA zh))) (qX zm (qO (zi zL zB zu)) jv)) (zc (zi zL (zi zL (qX zm jv (qO zB)) (zJ (zc jA zh))) (qX zm (qO zB) jv)) zh)) (fb n r K x y [some (zq Q),some j,rO (e.length+2),none]) 2:=by
  have one:=Oo (m:=jA) (ρ:=fb n r K x y [some (zq Q),some j,rO (e.length+2),none]) H (yU (w:=j) (λA _=>zj rfl) λA x=>g7.ext x);have fst:=XG H (cut (pl:=jv) (ol:=none) (pu:=qO zB) (ou:=some (x:Int)) H X rfl (λ_=>rfl) (λA=>ZU (zj rfl))) one (by decide)
  refine Zl (Yd (XG H fst (cut (pl:=qO (zi zL zB zu)) (ol:=some ((x:Int)+1)) (pu:=jv) (ou:=none) H X rfl (λA=>ZU ((zG (zj rfl) qe).trans rfl)) (λ_=>rfl)) (by decide)) (by decide) (by decide)) ?_
  exact Zl (Yd (XG H fst (cut (pl:=qO zB) (ol:=some (x:Int)) (pu:=jv) (ou:=none) H X rfl (λA=>ZU (zj rfl)) (λ_=>rfl)) (by decide)) (by decide) (by decide)) XC
 obtain⟨us,d,e9,x8,hu2,hu⟩:=g8 B7 .refl;have l:=T.trans (Kn.ext T.st x8);have hn8:=l.st.lt;have hp8:=l.kp.get hp Z;obtain⟨C,hc1,hs1⟩:=KC (f:=zq) none (some (x:Int)) p;obtain⟨t,hc2,hs2⟩:=KC (f:=zq) (some ((x:Int)+1)) none p;have l1:=hs1.length_le;have l2:=hs2.length_le;have ec1:qX zm jv (qO zB) (fb n r K x y [some (zq Q),some j,rO (e.length+2),rO d.length]) (d++[.lst us])=.ok (.ref (d.length+1)) (d++[.lst us]++[.lst (C.map zq)]):=by
  have:=XB (m:=zm) (pl:=jv) (pu:=qO zB) (ρ:=fb n r K x y [some (zq Q),some j,rO (e.length+2),rO d.length]) (A:=d++[.lst us]) (ol:=none) (zj rfl) (qR hp8) rfl (ZU (zj rfl))
  rw[this,hc1,aj]
  rfl
 have ec2:qX zm (qO (zi zL zB zu)) jv (fb n r K x y [some (zq Q),some j,rO (e.length+2),rO d.length]) (d++[.lst us]++[.lst (C.map zq)])=.ok (.ref (d.length+2)) (d++[.lst us]++[.lst (C.map zq)]++[.lst (t.map zq)]):=by
  have:=XB (m:=zm) (pl:=qO (zi zL zB zu)) (pu:=jv) (ρ:=fb n r K x y [some (zq Q),some j,rO (e.length+2),rO d.length]) (A:=d++[.lst us]++[.lst (C.map zq)]) (ou:=none) (zj rfl) (qR (qR hp8)) (ZU ((zG (zj rfl) qe).trans rfl)) rfl
  rw[this,hc2,aj,aj]
  rfl
 have hi1:(d++[O.lst us]++[O.lst (C.map zq)]++[O.lst (t.map zq)])[d.length+1]? =some (.lst (C.map zq)):=qR (by have:=qc (A:=d++[O.lst us]) (u:=.lst (C.map zq));rw[aj]at this;exact this)
 have hi2:(d++[O.lst us]++[O.lst (C.map zq)]++[O.lst (t.map zq)])[d.length+2]? =some (.lst (t.map zq)):=by have:=qc (A:=d++[O.lst us]++[O.lst (C.map zq)]) (u:=.lst (t.map zq));rw[aj,aj]at this;exact this
 have ec3:=(zG (g:=zL) ec1 ec2).trans (gB hi1 hi2 (by rw[ag,ag];unfold zR;omega))
 have x9:Ext (d++[O.lst us]) (d++[O.lst us]++[O.lst (C.map zq)]++[O.lst (t.map zq)]++[O.lst (C.map zq++t.map zq)]):=(Ext.one.trans Ext.one).trans Ext.one;have h3:(d++[O.lst us]++[O.lst (C.map zq)]++[O.lst (t.map zq)]++[O.lst (C.map zq++t.map zq)])[(d++[O.lst us]++[O.lst (C.map zq)]++[O.lst (t.map zq)]).length]? =some (.lst (C.map zq++t.map zq)):=qc;have hlen:(d++[O.lst us]++[O.lst (C.map zq)]++[O.lst (t.map zq)]).length=d.length+3:=by rw[aj,aj,aj];rfl
 rw[hlen]at ec3 h3;generalize d++[O.lst us]++[O.lst (C.map zq)]++[O.lst (t.map zq)]++[O.lst (C.map zq++t.map zq)]=B9 at ec3 x9 h3;have h9:B9[d.length]? =some (.lst us):=x9.at qc;have ea:=(RY (g:=yS) (a:=QX) (A1:=d++[O.lst us]) (ρ:=fb n r K x y [some (zq Q),some j,rO (e.length+2),rO d.length]) (zj rfl) qc ec3).trans (GC h9 (by omega))
 have kp9:Kp n d (B9.set d.length (.lst (us++[.ref (d.length+3)]))):=(Kp.ext (Ext.one.trans x9)).put (ar _);have k9:Kn n d (B9.set d.length (.lst (us++[.ref (d.length+3)]))):=⟨kp9,(l.st.ext (Ext.one.trans x9)).put (by omega)⟩
 have hv9:(B9.set d.length (.lst (us++[.ref (d.length+3)])))[d.length]? =some (.lst (us++[.ref (d.length+3)])):=aC (kU h9);have hw9:(B9.set d.length (.lst (us++[.ref (d.length+3)])))[d.length+3]? =some (.lst (C.map zq++t.map zq)):=by rw[aI (by omega)];exact h3
 have t9:∀w∈us++[.ref (d.length+3)],Tn n (B9.set d.length (.lst (us++[.ref (d.length+3)]))) w:=λw hw=>by
  rcases cz.mp hw with h|h
  ·exact(hu w h).kp (k9.ky l.st) kp9
  ·rw[cx.mp h]
   refine .lst ⟨by omega,_,hw9,λw hw=>?_,by rw[aj,ag,ag];omega,?_⟩
   ·rcases cz.mp hw with h|h
    ·obtain⟨q,h',rfl⟩:=cq.mp h
     exact Zn (hq q (hs1.subset h'))
    ·obtain⟨q,h',rfl⟩:=cq.mp h
     exact Zn (hq q (hs2.subset h'))
   ·have w1:=K4 (hs1.map zq)
    have w2:=K4 (hs2.map zq);rw[gE]at w1 w2;rw[P8,gE,gE];rw[gE]at w1 w2;omega
 generalize B9.set d.length (.lst (us++[.ref (d.length+3)]))=N at ea k9 hv9 t9;have v:=l.trans k9;have M:=v.st.lt;have z:=v.kp.get hp Z;have gl10:Gl n N 7 7 r:=(X.kp ((x8.ky).trans (k9.ky l.st)) ((Kp.ext x8).trans k9.kp));have go10:Gl n N 8 56 (e.length+2):=(go7.kp ((x8.ky).trans (k9.ky l.st)) ((Kp.ext x8).trans k9.kp));have g11:AG (Tn n) N (zc (qX j8 jv (qO (mQ qw (zX zm)))) (zc (mQ yg (zX zm)) (zc (Yi zm (qE kO zu)) (zc Zb (zc Jy (zc zD (zc (zJ (zc zm zh)) zh))))))) (fb n r K x y [some (zq Q),some j,rO (e.length+2),rO d.length]) 7:=by
  refine Zl (Yd (Oj (ol:=none) (ou:=some (p.length:Int)) M (yU (λA _=>zj rfl) λA x=>⟨_,rfl,Wb x go10⟩) (λA _=>rfl) (λA x=>ZU (el _ _ rfl (x.at z)))) (by decide) (by decide)) ?_
  refine Zl (yU (w:=.tup (p.map zq)) (λA x=>(jF (j3 (zj rfl) (QA (x.at z)))).trans rfl) λA _=>.oth (ty:=.tup) rfl (by decide) ((XD (k:=7) (c:=303) (λw hw=>?_) (by rw[L];omega)).le (by decide))) ?_
  ·obtain⟨q,h,rfl⟩:=cq.mp hw
   exact OG (hq q h)
  refine Zl (Yd (lu M (yU (λA _=>zj rfl) λA x=>⟨_,rfl,Wb x gl10⟩)) (by decide) (by decide)) ?_
  refine Zl (yU (w:=.non) (λA _=>qe) λA _=>.oth (ty:=.non) rfl (by decide) (Ob.le (by decide))) ?_
  refine Zl (λA x=>⟨.ref A.length,A++[.dct []],rfl,Ext.one,.dct (by have:=x.len;omega) qc⟩) ?_
  refine Zl (yU (w:=.int 0) (λA _=>qe) λA _=>.oth (ty:=.int) rfl (by decide) ((K2 (by decide)).le (by decide))) ?_
  refine Zl (Yd (Oo M (yU (w:=.ref r) (λA _=>zj rfl) λA x=>⟨.oth (WQ (x.at z)) (by decide),(XH (k:=6) (c:=303) Z (x.at z) (λw hw=>?_) (by rw[L];omega)).le (by decide)⟩)) (by decide) (by decide)) XC
  obtain⟨q,h,rfl⟩:=cq.mp hw;exact OG (hq q h)
 obtain⟨vs,B11,e11,x11,hv7,hv⟩:=g11 N .refl;have J:=v.trans (Kn.ext v.st x11);have el11:=(zG (g:=zL) (zj (i:=8) (w:=.ref d.length) (ρ:=fb n r K x y [some (zq Q),some j,rO (e.length+2),rO d.length]) (A:=N) rfl) (jl e11)).trans (gB (qR (x11.at hv9)) qc (by rw[aj,hu2,hv7];show 2+1+7<=zR;decide))
 have x12:Ext B11 (B11++[.lst vs]++[.lst (us++[.ref (d.length+3)]++vs)]):=Ext.one.trans Ext.one;have I:=J.trans (Kn.ext J.st x12);obtain⟨w,B13,e13,hw,k13⟩:=Oa (me:=QX) (n:=n) I.st el11 (by rw[aj];have:=J.st.lt;omega) qc (by rw[aj,aj,hu2,hv7];rfl) rfl
 refine⟨w,B13,?_,?_,I.trans k13⟩
 ·unfold ZH Tp
  refine qy ?_;unfold Tw;refine(zE (RW e1 e2)).trans ?_;refine(zE (qC e4)).trans ?_;refine(zE (qC (jl e5))).trans ?_;refine(zE (qC e6)).trans ?_;refine(zE (qC e7)).trans ?_;refine(zE e8).trans ?_;refine(zE (qC (jl e9))).trans ?_;refine(zE (Ji ea)).trans ?_;exact qd (qA e13)
 ·refine Tn.kn I.st k13 ?_
  rcases cz.mp hw with h|h
  ·exact(t9 w h).ext (x11.trans x12)
  ·exact(hv w h).ext x12
end
section
variable {k K d r:Nat}{u v w:W}{p:Pg}{g:Bool}
def lA (g:Bool)(A:Hx):wU [.bl g,.bl g] A=.ok (.bl true) A:=Z0 (A1:=[]) rfl rfl (by cases g<;>kernel_rfl)
def lB (l:t.length<=100)(H:∀r∈t,r.length<=100)(A:Hx):wU [zt t,zt t] A=.ok (.bl true) A:=by
 have n:∀{w:W},w.nr=true->ju [w,w]=true:=λ {w} h=>by show(w.nr&&(w.nr&&true))=true;rw[h];rfl
 refine Z0 (A1:=[]) (n (KO t)) rfl (SD (ty:=.tup) (ws:=t.map qg) rfl rfl rfl rfl (.inl rfl) (by rw[ag];omega) λw a=>?_)
 obtain⟨r,h,rfl⟩:=cq.mp a;refine Z0 (A1:=[]) (n (RH r)) rfl (SD (ty:=.tup) (ws:=r.map W.int) rfl rfl rfl rfl (.inl rfl) (by rw[ag];have:=H r h;omega) λw a=>?_)
 obtain⟨v,_,rfl⟩:=cq.mp a;exact Z0 (A1:=[]) rfl rfl (Ec v [])
def E3 (H:qm t)(h:ki [zt t,w] A=.ok (.bl g) B):Q6 [zt t,w] A=.ok (.bl g) B:=by
 refine ZZ (RP ?_);unfold Gm;exact(zE (Ji ((ql (zP (zj rfl) qa)).trans (GL H A)))).trans (ZZ (qd (qA ((ql (zP (zj rfl) (zP (zj rfl) qa))).trans h))))
def Dg (h:kF A u):ZG [u,w] A=.exc "NoTable" A:=by
 refine Kr ?_;unfold Gm;exact Je (Pj ((ql (zP (zj rfl) qa)).trans (Sk h)))
def lC (h:kF A u):Ze [u,w] A=.exc "NoTable" A:=by
 refine Kr ?_;unfold Kc;exact Je (Pj ((ql (zP (zj rfl) qa)).trans (Sk h)))
def lD (H:qm t)(h:ki [zt t,w] A=.ok (.bl false) B):Ze [zt t,w] A=.exc "NoParting" B:=by
 refine Kr ?_;unfold Kc;refine(zE (Ji ((ql (zP (zj rfl) qa)).trans (GL H A)))).trans ?_;exact Je ((yx (ZZ (jq (k:=false) ((ql (zP (zj rfl) (zP (zj rfl) qa))).trans h)))).trans (Je rfl))
def lE (H:qm t)(b:qx t=(K:Int))(ok:ZE K p)(a:A[n]? =some (pO p))(h:ki [zt t,.ref n] A=.ok (.bl true) B)(x:Ext A B):Qk [zt t,.ref n] A=.ok (zt (yM t (yB K p))) (B++[.dct (Qh p)]):=by
 refine ZZ (RP ?_);unfold Kc;refine(zE (Ji ((ql (zP (zj rfl) qa)).trans (GL H A)))).trans ?_;refine(zE ((jC (ZZ (jq (k:=true) ((ql (zP (zj rfl) (zP (zj rfl) qa))).trans h)))).trans jw)).trans ?_;exact ZZ (qd (qA ((ql (zP (zj rfl) (zP (zj rfl) qa))).trans (AR H b ok (x.at a)))))
def Xo {m:Ev}{v:Int}(H:v=(i:Int))(h:m ρ A=.ok (.ref (B.length+9)) (B++GX i)):zi qJ m (zJ (zc (zZ (.int v)) zh)) ρ A=.ok (.bl false) (B++GX i++[.lst [.int v]]):=by
 subst H;exact(zG h (jl (zP qe qa))).trans (O1 (d:=.list [.int i]) (Pb (k:=7) (qR (i0 B i))) (Pb (k:=7) qc) (by simp[PyData.eqv,PyData.eqvAll]))
def ne_str {s:Str}(h:PyData.strOk s=true)(A:Hx):qJ (.str s) (.str s) A=.ok (.bl false) A:=by
 have:zO A 8 (.str s)=some (.str s):=by show(if PyData.strOk s=true then some (PyData.str s) else none)=_;rw[ah h]
 exact O1 this this (by simp[PyData.eqv])
end
abbrev T0:Lm:=J1 ZG Ze
abbrev T1:Lm:=JX ZG Ze
abbrev T2:Lm:=J2 ZG Ze
abbrev fl (k n:Nat)(t:bQ)(r:Nat)(b:W)(x y z:Option W):En:=[rO 0,iV k,rO n,some (zt t),rO r,some b,x,y,z]
abbrev BT (P:Addr):Ex:=zo (Ju 7 8 (zw wq (zc zB (zc jA zh))) (qE wD jA)) (zo (qu (yH (qW (zw wU (zc (zw Q6 (zc zB (zc jA zh))) (zc j8 zh)))) (zi qJ (qE wD jA) QX)) jE zx) (zo (qu (jz j8 (qW (zw wU (zc (zw Qk (zc zB (zc jA zh))) (zc (zw ZK (zc zB (zc jA zh))) zh))))) jE zx) (zo (qu (jz (qW j8) (zi qJ (kN 1 yK P T0.idx (RG T0 0)) (zJ (zc WT zh)))) jE zx) (zo (qu (zi qJ (kN 1 yK P T1.idx (RG T1 0)) (zJ (zc zD zh))) jE zx) zx))))
abbrev BL (P:Addr):Ex:=zo (zV 2 (zw JI (zc zl (zc zm zh)))) (zo (zV 3 (zw Q5 (zc zM zh))) (zo (zV 4 (zw Q7 (zc zM (zc zB zh)))) (zo (zV 5 (zw Q0 (zc zM zh))) (zo (jR (z9 (zi zL (zJ (zc jd (zc (zJ zh) zh))) (qj (zN 1 [2,3,4] (jm g9) (zC 0) zS (zK (zw ZH (zc zm (zc zB (zc (zw yr (zc zM zh)) zh))))))))) (zC 6) (BT P)) (zo (qu (zi qJ (kN 1 yK P T2.idx (RG T2 0)) (zJ (zc zD zh))) jE zx) zx)))))
section
variable {C:Hx}{e k K r:Nat}{u v w b:W}{p:Pg}{hi:Int}{q:bR}{g:Bool}{x y z:Option W}
def Dq (h:qm t)(d:qx t=(K:Int))(Z:A[1]? =some (.tab yK Pt))(I:kF A b)(Y:Tn n A w):∃g s B,BT Pt (fl k n t r b (some w) x y) A=.ok (.nx (fl k n t r b (some w) (some (.bl g)) (some (.str s)))) B/\Ext A B:=by
 obtain⟨g,f,M,e,C,D⟩:=(Y.th h d).ask;obtain⟨s,z,H⟩:=Y.rep;obtain⟨a,L,x2⟩:=C f e;have X:=e.trans x2;have s1:=RW (i:=7) (j:=8) (ρ:=fl k n t r b (some w) x y) ((ql (zP (zj (i:=3) rfl) (zP (zj (i:=6) rfl) qa))).trans M) ((KY (g:=wD) (zj (i:=6) rfl)).trans (H f e));have s2:yH (qW (zw wU (zc (zw Q6 (zc zB (zc jA zh))) (zc j8 zh)))) (zi qJ (qE wD jA) QX) (fl k n t r b (some w) (some (.bl g)) (some (.str s))) f=.ok (.bl false) a:=
  (Zp (jq (k:=true) ((ql (zP ((ql (zP (zj rfl) (zP (zj rfl) qa))).trans (E3 h L)) (zP (zj rfl) qa))).trans (lA g a)))).trans ((zG ((KY (zj rfl)).trans (H a X)) (zj rfl)).trans (ne_str z a))
 obtain⟨c,s3,S⟩:∃c,(zo (qu (jz j8 (qW (zw wU (zc (zw Qk (zc zB (zc jA zh))) (zc (zw ZK (zc zB (zc jA zh))) zh))))) jE zx) (zo (qu (jz (qW j8) (zi qJ (kN 1 yK Pt T0.idx (RG T0 0)) (zJ (zc WT zh)))) jE zx) (zo (qu (zi qJ (kN 1 yK Pt T1.idx (RG T1 0)) (zJ (zc zD zh))) jE zx) zx))) (fl k n t r b (some w) (some (.bl g)) (some (.str s))) a=(zo (qu (zi qJ (kN 1 yK Pt T1.idx (RG T1 0)) (zJ (zc zD zh))) jE zx) zx) (fl k n t r b (some w) (some (.bl g)) (some (.str s))) c/\Ext A c:=by
  obtain⟨N,q,Q⟩:=C a X;cases g with
  |true=>
   obtain⟨p,m,rfl,l,ok⟩:=D rfl;have P:=lE h d ok (X.at l) q Q;obtain⟨u,J,x5⟩:=js h d ok ((X.trans (Q.trans (Ext.one (o:=.dct (Qh p))))).at l);have T:=AD h d ok;have n8:=T.1.n8;have f1:=kq (mb:=qW (zw wU (zc (zw Qk (zc zB (zc jA zh))) (zc (zw ZK (zc zB (zc jA zh))) zh)))) (zj (i:=7) (w:=.bl true) (ρ:=fl k n t r b (rO m) (some (.bl true)) (some (.str s))) (A:=a) rfl);have U:=f1.trans (jq (k:=true) ((ql (zP ((ql (zP (zj rfl) (zP (zj rfl) qa))).trans P) (zP ((ql (zP (zj rfl) (zP (zj rfl) qa))).trans J) qa))).trans (lB (by omega) (λr H=>by have:=T.1.sq r H;omega) u)))
   refine⟨u,?_,X.trans ((Q.trans Ext.one).trans x5)⟩;exact(zE ((jC U).trans jw)).trans (zE ((jC (wZ (jq (k:=true) (zj rfl)))).trans jw))
  |false=>
   have P:T0.m ([zt t,w].map some) a=.exc "NoParting" N:=(ql (ρ:=[some (zt t),some w]) (zP (zj (i:=0) rfl) (zP (zj (i:=1) rfl) qa))).trans (lD h q);have E:=Xk (ρ:=fl k n t r b (some w) (some (.bl false)) (some (.str s))) (t:=T0) (X.at Z) (ws:=[zt t,w]) rfl P MZ;have U:=(kq (mb:=zi qJ (kN 1 yK Pt T0.idx (RG T0 0)) (zJ (zc WT zh))) (jq (k:=false) (zj (i:=7) (w:=.bl false) (ρ:=fl k n t r b (some w) (some (.bl false)) (some (.str s))) (A:=a) rfl))).trans (Xo (i:=9) (v:=9) rfl E);refine⟨_,?_,X.trans (Q.trans (Ext.trans ⟨GX 9,rfl⟩ (Ext.one (o:=.lst [.int 9]))))⟩;exact(zE ((jC (wZ (zj rfl))).trans jw)).trans (zE ((jC U).trans jw))
 have P:T1.m ([b,w].map some) c=.exc "NoTable" c:=(ql (ρ:=[some b,some w]) (zP (zj (i:=0) rfl) (zP (zj (i:=1) rfl) qa))).trans (lC (I.mono S.ky));have E:=Xk (ρ:=fl k n t r b (some w) (some (.bl g)) (some (.str s))) (t:=T1) (S.at Z) (ws:=[b,w]) rfl P U4;have f4:=Xo (i:=0) (v:=0) rfl E;refine⟨g,s,_,?_,S.trans (Ext.trans ⟨GX 0,rfl⟩ (Ext.one (o:=.lst [.int 0])))⟩;refine(zE s1).trans ((zE ((jC s2).trans jw)).trans (s3.trans ?_));exact(zE ((jC f4).trans jw)).trans jw
structure qN (ns:bR)(Pt:Addr)(A:Hx):Prop where
 h0:A[0]? =some (.ro (ns.map W.int))
 h1:A[1]? =some (.tab yK Pt)
def qN.kn (h:qN ns Pt A)(k:Kp n A B)(H:2<=n):qN ns Pt B:=⟨k.get h.h0 (by omega),k.get h.h1 (by omega)⟩
def qN.ext (h:qN ns Pt A)(x:Ext A B):qN ns Pt B:=⟨x.at h.h0,x.at h.h1⟩
def Ep (s:qH n A)(l:qm t)(D:A[r]? =some (pO p))(H:r≠n)(P:p.length<=7)(hf:p.flatten.length<=7)(o:∀q∈p,Rw q):∃m B ws,zi zL (zJ (zc jd (zc (zJ zh) zh))) (qj (zN 1 [2,3,4] (jm g9) (zC 0) zS (zK (zw ZH (zc zm (zc zB (zc (zw yr (zc zM zh)) zh))))))) (fl k n t r b x y z) A=.ok (.ref m) B/\B[m]? =some (.lst ws)/\ws.length=7/\(∀w∈ws,Tn n B w)/\Kn n A B:=by
 have Y:=wF l;obtain⟨K,Q⟩:∃K:Nat,qx t=(K:Int):=⟨(qx t).toNat,by omega⟩
 have hn:=s.lt;have J:zJ (zc jd (zc (zJ zh) zh)) (fl k n t r b x y z) A=.ok (.ref (A.length+1)) (A++[.lst []]++[.lst [.ref r,.ref A.length]]):=by
  have:=jl (zP (zj (i:=4) (ρ:=fl k n t r b x y z) (A:=A) rfl) (zP (jl qa) qa))
  rw[this,aj]
  rfl
 have X:Ext A (A++[.lst []]++[.lst [.ref r,.ref A.length]]):=Ext.one.trans Ext.one;have h1:(A++[O.lst []]++[.lst [.ref r,.ref A.length]])[A.length+1]? =some (.lst [.ref r,.ref A.length]):=by
  have:=qc (A:=A++[O.lst []]) (u:=.lst [.ref r,.ref A.length])
  rw[aj]at this;exact this
 have E:(A++[O.lst []]++[.lst [.ref r,.ref A.length]])[A.length]? =some (.lst []):=qR qc;generalize A++[O.lst []]++[.lst [.ref r,.ref A.length]]=A1 at J X h1 E;have s1:=s.ext X;have f:jm g9 (fl k n t r b x y z) A1=.ok (yv 0 5) A1:=JT qe (by decide)
 obtain⟨L,Z,B,U,a,_,c,hT⟩:=Jb (nl:=1) (cap:=[2,3,4]) (ρ:=fl k n t r b x y z) (tw:=zC 0) (ifs:=zS) (em:=zK (zw ZH (zc zm (zc zB (zc (zw yr (zc zM zh)) zh))))) (N:=5) (I:=λi ρ Z B=>Kn n A1 B/\(∃y,ρ=[y,rO n,some (zt t),rO r])/\Z.length=i/\∀w∈Z,Tn n B w) f rfl
  (λi ρ Z B hi ⟨a,⟨y,d⟩,c,hT⟩=>by
   subst d;obtain⟨w,C,e,hw,j⟩:=lz (K:=K) a.st (a.kp.get (X.at D) H) H P hf o (by omega)
   refine⟨.int (0+(i:Int)),_,Zo hi,rfl,.inl ⟨B,_,_,C,qe,Qs ((ql (zP (zj rfl) (zP (zj rfl) (zP ((ql (zP (zj rfl) qa)).trans ((Jg l B).trans (by rw[Q]))) qa)))).trans e) (by unfold zR;omega),a.trans j,⟨_,rfl⟩,by rw[aj,c];rfl,λv M=>?_⟩⟩
   rcases cz.mp M with h|h
   ·exact(hT v h).kn a.st j
   ·rw[cx.mp h];exact hw)
  (λρ Z B _=>Zj (by omega)) ⟨⟨Kp.refl,s1⟩,⟨none,rfl⟩,rfl,λw hw=>by cases hw⟩
 have g1:=a.kp.get h1 (by omega)
 have g2:=a.kp.get E (by omega)
 have S:=a.kp.get (X.at D) H;have T:=(zG (g:=zL) J (yR U)).trans (gB (qR g1) qc (by rw[c];show 2+5<=zR;decide))
 have x3:Ext B (B++[.lst Z]++[.lst ([.ref r,.ref A.length]++Z)]):=Ext.one.trans Ext.one;refine⟨_,_,_,T,qc,by rw[aj,c];rfl,λw hw=>?_,((Kn.ext s X).trans a).trans (Kn.ext a.st x3)⟩
 refine Tn.ext x3 ?_;rcases cz.mp hw with h|h
 ·rcases cn.mp h with rfl|h
  ·exact .lst ⟨H,_,S,λw hw=>by obtain⟨q,h,rfl⟩:=cq.mp hw;exact Zn (o q h),by rw[ag];omega,by rw[gE];omega⟩
  ·rw[cx.mp h]
   exact .lst ⟨by omega,[],g2,λw hw=>by(cases hw),by decide,by decide⟩
 ·exact hT w h
def A7 {x2 x3 x4 x5 x6 x7 x8:Option W}(h:qN ns Pt A)(hA:2<=A.length):∃T S Q P c a Z B,BL Pt [rO 0,iV k,x2,x3,x4,x5,x6,x7,x8] A=.ok (.nx [rO 0,iV k,T,S,Q,P,c,a,Z]) B/\qN ns Pt B/\2<=B.length:=by
 obtain⟨o,e1,s1⟩:=A9 h.h0 k;have w:qN ns Pt (A++[o]):=h.ext Ext.one;have l1:(A++[o]).length=A.length+1:=by rw[aj];rfl
 obtain⟨t,A2,e2,q,k2⟩:=i4 s1;obtain⟨r,A3,p,e3,hp,J,k3,hl,hf,Y⟩:=An k2.st q;obtain⟨b,A4,e4,hb,n⟩:=iT k3.st;have kb:=wF q;obtain⟨K,hK⟩:∃K:Nat,qx t=(K:Int):=⟨(qx t).toNat,by omega⟩
 obtain⟨m,L,ws,e5,E,hl5,hT,k5⟩:=Ep (k:=k) (b:=b) (x:=x6) (y:=x7) (z:=x8) n.st q (n.kp.get hp J) J hl hf Y;have f:=((k2.trans k3).trans n).trans k5;have d:=w.kn f.kp (by omega)
 have l:=hb.mono (k5.ky n.st);obtain⟨M,u,e6,X,c,a,Z,H⟩:=Zf (j:=⟨λA i=>(zI (.ref m) A).map λws=>ws[i]?,ws.length⟩) (st:=turn (zC 6) (BT Pt)) (N:=ws.length) (I:=λi ρ C=>Ext L C/\∃c a Z,ρ=fl k A.length t r b c a Z)
  (λi ρ C hi ⟨x,c,a,Z,H⟩=>by
   subst H;obtain⟨g,s,D,e,U⟩:=Dq (k:=k) (r:=r) (x:=a) (y:=Z) q hK (x.at d.h1) (l.mono x.ky) ((hT _ (aN hi)).ext x);exact⟨ws[i],_,D,K1 (x.at E) (aa hi),(wy rfl).trans e,x.trans U,_,_,_,rfl⟩)
  (λρ C ⟨x,_⟩=>K9 (x.at E) (ar _)) ws.length 0 (fl k A.length t r b x6 x7 x8) L (by omega) ⟨.refl,_,_,_,rfl⟩
 subst H;have em:T2.m ([.ref r,b].map some) u=.exc "NoTable" u:=(ql (ρ:=[rO r,some b]) (zP (zj (i:=1) rfl) (zP (zj (i:=0) rfl) qa))).trans (Dg (l.mono X.ky));have er:=Xk (ρ:=fl k A.length t r b c a Z) (t:=T2) (X.at d.h1) (ws:=[.ref r,b]) rfl em U4;have f4:=Xo (i:=0) (v:=0) rfl er;have x7:Ext u (u++GX 0++[.lst [.int 0]]):=Ext.trans ⟨GX 0,rfl⟩ Ext.one;refine⟨rO A.length,some (zt t),rO r,some b,c,a,Z,_,?_,d.ext (X.trans x7),?_⟩
 ·refine(zE ((qC ((ql (zP (zj rfl) (zP (zj rfl) qa))).trans e1)).trans rfl)).trans ?_
  refine(zE ((qC ((ql (zP (zj rfl) qa)).trans e2)).trans rfl)).trans ?_;refine(zE ((qC ((ql (zP (zj rfl) (zP (zj rfl) qa))).trans e3)).trans rfl)).trans ?_;refine(zE ((qC ((ql (zP (zj rfl) qa)).trans e4)).trans rfl)).trans ?_;refine(zE ((wz (ZT e5 E)).trans e6)).trans ?_;exact(zE ((jC f4).trans jw)).trans jw
 ·have:=(X.trans x7).len
  have:=f.kp.len
  omega
end
def Vk (P:Addr):Fn:=qF 9 (Vc Q0 ZH Q7 wq yr ZK wU JI Q5 Q6 Qk ZG Ze RG P)
def Dm:P5 yK Vk:=λL K P=>by
 have s:zI (.ref 0) [.ro (L.map W.int),.tab yK P]=some (L.map W.int):=rfl;generalize q:[O.ro (L.map W.int),.tab yK P]=A at s;have Q:qN L P A/\2<=A.length:=by rw[<- q];exact⟨⟨rfl,rfl⟩,ar _⟩
 have E:mQ qw (zX zl) [rO 0,none,none,none,none,none,none,none,none] A=.ok (.int L.length) A:=by
  rw[jF (j3 (w:=.ref 0) (A1:=A) (zj rfl) s)];unfold qw;rw[ag]
 have S:zi Vj zu (zi Z1 (mQ qw (zX zl)) g9) [rO 0,none,none,none,none,none,none,none,none] A=
   .ok (.int (if (if (5:Int)<L.length then 5 else(L.length:Int)) > 1 then(if (5:Int)<L.length then 5 else(L.length:Int)) else 1)) A:=
  (zG (qe (w:=.int 1)) ((zG E (qe (w:=.int 5))).trans rfl)).trans rfl
 generalize p:(if (if (5:Int)<L.length then 5 else(L.length:Int)) > 1 then(if (5:Int)<L.length then 5 else(L.length:Int)) else 1)=v at S;have H:jt v=true:=by
  have:0<=v/\v<1000:=by
   rw[<- p]
   split<;>split<;>omega
  obtain⟨k,rfl⟩:=bb this.1;exact Hl (by omega)
 obtain⟨o,B,e,_⟩:=Zf (j:=yv 0 v.toNat) (st:=turn (zC 1) (BL P)) (N:=v.toNat) (I:=λ_ M B=>(qN L P B/\2<=B.length)/\∃n f d c b a Y y,M=[rO 0,n,f,d,c,b,a,Y,y])
  (λi M B T ⟨⟨Q,r⟩,n,f,d,c,b,a,Y,y,h⟩=>by
   subst h;obtain⟨J,D,C,x,u,Z,z,t,e,l,g⟩:=A7 (k:=i) (x2:=f) (x3:=d) (x4:=c) (x5:=b) (x6:=a) (x7:=Y) (x8:=y) Q r;refine⟨_,_,t,Zo T,(wy (ρ1:=[rO 0,iV i,f,d,c,b,a,Y,y]) ?_).trans e,⟨l,g⟩,_,_,_,_,_,_,_,_,rfl⟩;rw[zero_add];rfl)
  (λM B _=>Zj (by omega)) v.toNat 0 [rO 0,none,none,none,none,none,none,none,none] A (by omega) ⟨Q,_,_,_,_,_,_,_,_,rfl⟩
 refine⟨B,qy ?_⟩;unfold Vc;exact(zE ((wz (JT S H)).trans e)).trans (qd (qA qe))
section
variable {K:Frag}
def ML (Z:Zz K h mg){PG:wJ}{l:Nat->Fn}(H:∀k,QH P w K mg base 7 (PG k) (l k)):zU P w K mg base 8 "_law_refused" 1 ((qF 4 (JH PG l))):=by
 obtain⟨f,d,F,a⟩:=Z.T.M0;exact(M8 (k:=7) Z.B Z.C Z.T.zc7 F (mg_of Z.X Z.G a) (ar _) H)
def lF (Z:Zz K h mg)(F:kI K "law" "law" QC f fd)(n:nsIn K mainGlobals "law"=some (some (.ref f)))(H:tabIn K "law"=some (c,Pt))(a:BMain mg base)(C:CodeHd base c Pt):ym P w K mg base kJ 9 f fd ["_law_script"] (Za K 1 (Vk Pt)):=
 o_law (k:=8) (j:=6) (kk:=8) Z.B F n H a C (MD Z).up (Hc Z).up (Il Z).up (Mo Z).up (U7 Z).up (Hj Z).up (IH Z).up (Iu Z).up (Ie Z).up (L7 Z).up (HJ Z).up (by decide) (λbase=>(UH Z).up) (λbase=>(Te Z).up)  (λt base PG L=>(ML Z L).imp λu A _=>iZ u A)
def all_mk {l:PySem.W.OpenLaw}{i:Addr}(X:K.In h)(Gl:h.Ns mainGlobals mg)(b:mg "law"=some (.ref i))(T:Tx K)(H:∃c,tabIn K "law"=some (c,Pt)/\codeHdIn K c Pt=true):
  ∃q:FuncData,(∀(s:Shared)(v:Value),BindsTo s q ⟨[v],[]⟩ [("_law_script",v)])/\∀base:Heap,K.In base->base.Ns mainGlobals mg->BMain mg base->ym l.prog w K mg base kJ 9 i q ["_law_script"] (Za K 1 (Vk Pt)):=by
 obtain⟨c,H,d⟩:=H;obtain⟨f,q,F,a⟩:=T.zc9;have e:=b.symm.trans (mg_of X Gl a);cases e;obtain⟨p,n,kV,D,P,A,C,ct,o,rfl,L,g⟩:=id F.ex;exact⟨_,λs v=>.of_eq rfl,λbase j N B=>lF (zz X Gl T) F a H B (codeHd_of_K j d)⟩
end
end G
namespace PySem.W.Fast
def tw1983521647609491370:Nat:=0
def tw6471470105595210873:Nat:=0
def tw12121410520204138894:Nat:=0
def tw1644556150688324581:Nat:=0
def tw6059554097087166841:Nat:=0
def tw6581871289716799072:Nat:=0
def tw6683405487279520857:Nat:=0
def tw5621331041508201327:Nat:=0
def tw12230561222382650252:Nat:=0
def tw5904007903573548971:Nat:=0
def tw13114737032660666361:Nat:=0
def tw16617733056759385587:Nat:=0
def tw16053576790398753044:Nat:=0
def tw12450791195844181367:Nat:=0
def tw17354325984674527426:Nat:=0
def tw1301287890000311590:Nat:=0
def tw13912890639973364571:Nat:=0
def tw2068759639458684781:Nat:=0
def tw16846055634910629728:Nat:=0
def tw8067751500948868349:Nat:=0
def tw10378610528100321004:Nat:=0
def tw12560509983096976345:Nat:=0
def tw17540857386400291577:Nat:=0
def tw12447791103059144828:Nat:=0
def tw16418241208231345437:Nat:=0
def tw7661373712737248851:Nat:=0
def tw5141352391942807796:Nat:=0
def tw3867628751372420923:Nat:=0
def tw7519499674103036177:Nat:=0
def tw9536775339301526771:Nat:=0
def tw15653544329189655969:Nat:=0
def tw18203576941390402079:Nat:=0
def tw6098425157529525516:Nat:=0
def tw7202234308426037210:Nat:=0
def tw7334053042380553074:Nat:=0
def tw8168701466115786659:Nat:=0
def tw6556730241221387727:Nat:=0
def tw1763414301554811897:Nat:=0
def tw3763102821003208719:Nat:=0
def tw5705678764447826284:Nat:=0
def tw4613515071493330396:Nat:=0
def tw17124597560483077525:Nat:=0
end PySem.W.Fast
open PySem PySem.W PyProof.Rows
set_option maxRecDepth 100000 in
set_option maxHeartbeats 0 in
theorem PySem.Challenge.cw_nearkinds_k70_kinds_made_one_holds : PySem.Challenge.rw_nearkinds_k70_kinds_made_one.Holds := by
 w_on;o_law;k_head;(case hw=>w_witness2)
 k_fill
 refine' Mi.zcR (y := "law") (l:=PySem.Challenge.rw_nearkinds_k70_kinds_made_one) (k:=9) (x := "_law_script") G.Dm rfl rfl ⟨rfl,by decide,by decide,rfl⟩ (λw h Y=>PySem.W.km_in_of Y) (λw h Y=>PySem.W.km_tabs_of Y _ ?m1) ?ht ?hKP ?F
 case m1=>exact aq ..
 case ht=>exact λp=>by kernel_rfl
 case hKP=>exact λp=>by kernel_rfl
 case F=>
  intro w mg fa h KX Gl hmg ht;have T:G.Tx (L2.ND KX):=by
   dsimp only [L2.ND]
   apply G.Tx.mk<;>first | (refine' Mi.zcv ?a ?l ?c ?k;(case a=>k_is);(case l=>k_is);(case c=>k_is);(case k=>k_is)) | (refine' Mi.zcx ?a;(case a=>k_is)) | k_is|kernel_rfl
  exact G.all_mk KX Gl hmg T ht
