import PyProof.Rows.All
import Wide.All
import OpenK.AllK
import Wide.FinOn
import Lean
import PyProof.EqAt
import PyProof.EqKinds
import PyProof.TupleCall
import OpenK.KOwn
import PyProof.Rows.FStr
import PyProof.FString
import PyProof.NsDelKeeps
import KE.KIsAll
import PyProof.ExcArgs
import KE.KLam
import KE.KNestM
import PyProof.Rows.SetFrom
import PyProof.ListMulRoad
import PyProof.FactsAll.set_1
import PyProof.FactsAll.set_2
import PyProof.CollectIter
import PyProof.TupleIter
import PyProof.CollectWalk
import PyProof.Rows.SortShell
import PyProof.SumAny
import PyProof.ListOps
import KE.KDictList
import PyProof.NoPylong
import KE.KUnpack
import KE.KSortTup
import KE.KIntText
import PyProof.Rows.TupDisplay
import PyProof.AttrMiss
import PyProof.IsiH_list
import KE.KDictOf
import PyProof.ReprRoads
import PyProof.CallFns
import PySem.Challenge.RW_nearkinds_k30_weights_known
noncomputable section
open PySem.W (Frag)
open List (all_append all_map any_cons any_eq_true drop_length ext_getElem? filter_append filter_nil find?_cons flatMap_cons flatMap_nil forIn_cons forIn_nil getElem_inj getElem_map getElem_range length_filter_le map_nil mem_cons mem_filter mem_map nodup_range of_mem_zip pairwise_map range'_succ range_eq_range' sum_append sum_cons take_append_drop take_length take_zero)
open Nat (add_comm le_add_right lt_trans mul_comm mul_le_mul ne_of_gt succ_mul zero_add zero_le)
open Int (ediv_one emod_nonneg zero_mul)
open Bool (false_eq_true not_eq_true')
open Option (getD_none isSome_some)
open Array (length_toList)
open PySem.W (CodeHd callWith_K cellsFrom_some codeHdIn codeHd_of_K codeIn envX fnOf hideAll hideAll_none hideAll_size instObj keepIn kitAny kitOne kitx_bool kitx_dict kitx_float kitx_int kitx_list kitx_none kitx_str kitx_tuple kla_callFunE kla_codeExpr kla_fn kla_obj km_tabs_of lookIn methodObj nsIn of_hideAll plainGet tabIn tabObj)
open PySem.F (args_tuple_add_2 entry_tuple_add slot_tuple_add)
abbrev aa:=@List.getD_eq_getElem?_getD
abbrev ae:=@List.getElem?_eq_getElem
abbrev af:=@PySem.Heap.get?_push_of_some
abbrev ag:=@List.length_map
abbrev ah:=@if_pos
abbrev ai:=@List.getElem?_append_left
abbrev aj:=@if_neg
abbrev ak:=@Bool.and_eq_true
abbrev ao:=@decide_eq_true_iff
abbrev aq:=@Nat.le_refl
abbrev ar:=@List.getElem?_map
abbrev au:=@List.getElem?_append_right
abbrev av:=@List.length_append
abbrev aw:=@List.mem_cons_of_mem
abbrev ax:=@List.getElem?_set_ne
abbrev ay:=@List.getElem?_set_self
abbrev az:=@decide_eq_true
abbrev aA:=@Int.toNat_natCast
abbrev aB:=@List.size_toArray
abbrev aC:=@PySem.Heap.get?_push_size
abbrev aD:=@List.getElem?_eq_none
abbrev aE:=@List.mem_cons_self
abbrev aF:=@Bool.false_ne_true
abbrev aG:=@List.length_range
abbrev aH:=@decide_eq_false
abbrev aI:=@Option.some.inj
abbrev aJ:=@List.getElem_mem
abbrev aK:=@Nat.lt_of_lt_of_le
abbrev aL:=@beq_iff_eq
abbrev aM:=@PySem.Heap.lt_size
abbrev aN:=@List.map_append
abbrev aO:=@Nat.ne_of_lt
abbrev aP:=@List.append_assoc
abbrev aQ:=@List.mem_append_right
abbrev aR:=@List.map_cons
abbrev aS:=@Int.eq_ofNat_of_zero_le
abbrev aT:=@Nat.lt_irrefl
abbrev aU:=@List.getElem?_range
abbrev aV:=@PySem.W.mg_none_of
abbrev aW:=@List.length_singleton
abbrev aX:=@List.map_map
abbrev aY:=@Nat.le_trans
abbrev aZ:=@List.all_eq_true
abbrev a3:=@List.append_nil
abbrev a4:=@List.getElem_of_mem
abbrev a5:=@List.take_of_length_le
abbrev a6:=@List.flatten_cons
abbrev a7:=@List.ext_getElem
abbrev a8:=@Bool.or_eq_true
abbrev a9:=@List.replicate_succ
abbrev ba:=@List.filterMap_cons
abbrev bb:=@List.length_take
abbrev bc:=@Nat.lt_succ_of_lt
abbrev bf:=@List.range_succ
abbrev bg:=@List.not_mem_nil
abbrev bh:=@List.map_congr_left
abbrev bj:=@PySem.Heap.size_push
abbrev bo:=@PySem.Heap.get?_update_other
abbrev bq:=@List.mem_of_getElem?
abbrev br:=@List.mem_append_left
abbrev bt:=@List.getElem?_replicate
abbrev bw:=@Nat.lt_succ_self
abbrev bx:=@beq_self_eq_true
abbrev bz:=@List.length_reverse
abbrev bA:=@PySem.W.kia_one
abbrev bB:=@List.length_replicate
abbrev bC:=@PySem.W.mg_of
abbrev bD:=@List.lookup_cons
abbrev bE:=@List.length_drop
abbrev bF:=@List.length_cons
abbrev bG:=@List.countP_cons
abbrev bH:=@List.mem_of_mem_drop
abbrev bI:=@PySem.W.hideAll_get
abbrev bJ:=@List.reverse_cons
abbrev bK:=@Nat.le_of_lt
abbrev bL:=@Int.emod_lt_of_pos
abbrev bM:=@List.nil_append
abbrev bN:=@List.length_set
abbrev bP:=@List.flatMap_append
abbrev bQ:=List (List Int)
abbrev bR:=List Int
abbrev bS:=List PySem.Value
abbrev bT:=List PySem.Addr
abbrev bU:=List (PySem.Addr×PySem.Obj)
abbrev bV:=List Nat
abbrev bW:=Option PySem.Value
abbrev bX:=List PySem.Str
abbrev bY:=PySem.Value->PySem.Shared->Prop
abbrev bZ:=List PySem.Expr
abbrev b0:=Option Int
abbrev b8:=PySem.Str->Option PySem.Value
abbrev b9:=List PySem.Env
abbrev cb:=List (PySem.Str×PySem.Addr)
abbrev cc:=List PySem.Keyword
abbrev cf:=Option PySem.Addr
abbrev cg:=List PySem.Stmt
abbrev cj:=@PySem.wpAny_bind
abbrev cm:=@PySem.wpAny_pure
abbrev cw:=@List.getElem?_eq_some_iff
abbrev cu:=@List.mem_cons
abbrev cy:=@List.all_eq_true
abbrev cn:=@List.mem_range
abbrev cx:=@List.mem_map
abbrev cz:=@List.mem_singleton
abbrev cB:=@List.mem_append
set_option Elab.async false
set_option linter.all false
set_option maxRecDepth 1000000
set_option maxHeartbeats 4000000
variable {XP:(PySem.Str->Option PySem.Value)->PySem.Heap->Prop}{D Pt a b f:PySem.Addr}{rp:Array (Option PySem.Value)}{items:Array PySem.Value}{op:PySem.CmpOp}{env:PySem.Env}{e rd p8 tg:PySem.Expr}{fd:PySem.FuncData}{base h h':PySem.Heap}{p4:List (PySem.Addr×PySem.Obj)}{t:bQ}{ri:List (PySem.Str×PySem.Addr)}{fp φ:List PySem.Addr}{gens gs:List PySem.Comprehension}{rk ifs:List PySem.Expr}{ns:bR}{cap:bV}{body:List PySem.Stmt}{N:List PySem.Str}{p9 us:List PySem.Value}{M:PySem.Model}{i kk n t':Nat}{c:Nat->Nat->Bool}{rb p7 p p6 q5:PySem.Pos}{P:PySem.Program}{sc scope:PySem.Scope}{s':PySem.Shared}{qual x:PySem.Str}{mg:PySem.Str->Option PySem.Value}{α:Type}{u:PySem.Value}{E Q:PySem.Value->PySem.Shared->Prop}{w:PySem.World}
namespace L2
open PySem PySem.Spec PyProof.Rows
noncomputable abbrev Key:=Sum Int Str
noncomputable def JS:Key->Value->Bool
 |.inl k,v=>Value.isInt k v|.inr x,v=>Value.isStrOf x v
noncomputable def cC (w:World):Key->Int
 |.inl k=>hashInt k|.inr x=>hashStr w x
theorem Z1:∀{k:Key}{v:Value},JS k v=true->(∃i t,k=Sum.inl i/\v=Value.int i t)∨(∃x t,k=Sum.inr x/\v=Value.str x t)
 |.inl i,v,h=>by
  obtain⟨t,e⟩:=Value.isInt_shape (k:=i) (v:=v) h;exact .inl ⟨i,t,rfl,e⟩
 |.inr x,v,h=>by
  obtain⟨t,e⟩:=Value.isStrOf_shape (x:=x) (v:=v) h;exact .inr ⟨x,t,rfl,e⟩
def BA (i:Int)(t:Tok):JS (.inl i) (.int i t)=true:=by simp[JS,Value.isInt]
def BV (x:Str)(t:Tok):JS (.inr x) (.str x t)=true:=by simp[JS,Value.isStrOf]
def cD (a b:Int):decide ((Sum.inl a:Key)=Sum.inl b)=(a==b):=by
 by_cases e:a=b
 ·subst e;simp
 ·have h:¬(Sum.inl a:Key)=Sum.inl b:=λq=>e (Sum.inl.inj q)
  rw[aH h];exact(beq_eq_false_iff_ne.mpr e).symm
def cF (a b:Str):decide ((Sum.inr a:Key)=Sum.inr b)=decide (a=b):=by
 by_cases e:a=b
 ·subst e;simp
 ·have h:¬(Sum.inr a:Key)=Sum.inr b:=λq=>e (Sum.inr.inj q)
  rw[aH h,aH e]
def cG (a:Int)(b:Str):decide ((Sum.inl a:Key)=Sum.inr b)=false:=aH (λq=>nomatch q)
def cH (a:Str)(b:Int):decide ((Sum.inr a:Key)=Sum.inl b)=false:=aH (λq=>nomatch q)
def kP (p:Program)(w:World):PySem.KeyKind p w Key where
 is:=JS
 hash:=cC w
 inj:=λv a b f c=>by
  rcases Z1 f with ⟨i,t,rfl,rfl⟩|⟨x,t,rfl,rfl⟩
  ·rcases Z1 c with ⟨j,u,rfl,e⟩|⟨y,u,rfl,e⟩
   ·injection e with E _;rw[E]
   ·exact nomatch e
  ·rcases Z1 c with ⟨j,u,rfl,e⟩|⟨y,u,rfl,e⟩
   ·exact nomatch e
   ·injection e with E _;rw[E]
 byValue:=λk v h=>by
  rcases Z1 h with ⟨i,t,rfl,rfl⟩|⟨x,t,rfl,rfl⟩<;>rfl
 pyHash:=λH h=>by
  rcases Z1 H with ⟨i,t,rfl,rfl⟩|⟨x,t,rfl,rfl⟩
  ·exact wpAny_pyHash_int h
  ·exact wpAny_pyHash_str h
 eqBool:=λd H h=>by
  rcases Z1 d with ⟨i,t,rfl,rfl⟩|⟨x,t,rfl,rfl⟩
  ·rcases Z1 H with ⟨j,u,rfl,rfl⟩|⟨y,u,rfl,rfl⟩
   ·rw[cD]at h;exact wpAny_eqBool_int h
   ·rw[cG]at h;exact SeqAt.EqAt.int_str i t y u _ _ _ _ h
  ·rcases Z1 H with ⟨j,u,rfl,rfl⟩|⟨y,u,rfl,rfl⟩
   ·rw[cH]at h;exact SeqAt.EqAt.str_int x t j u _ _ _ _ h
   ·rw[cF]at h;exact wpAny_eqBool_str h
 «strs»:=λk x t v h=>by
  rcases Z1 h with ⟨i,u,rfl,e⟩|⟨y,u,rfl,e⟩
  ·exact nomatch e
  ·injection e with E _
   subst E;cases v<;>rfl
def CA (p:Program)(w:World)(k:Key)(v:Value):(kP p w).is k v=JS k v:=rfl
def Cg (p:Program)(w:World)(i:Int)(t:Tok):(kP p w).is (.inl i) (.int i t)=true:=BA i t
def Cb (p:Program)(w:World)(x:Str)(t:Tok):(kP p w).is (.inr x) (.str x t)=true:=BV x t
inductive V where
 |non|bl (b:Bool)|int (i:Int)|str (x:Str)|byt (b:Array UInt8)|flt (b:UInt64)|ref (a:Addr)|ty (n:String)
 deriving DecidableEq
def RelV:V->Value->Prop
 |.non,u=>u=Value.none|.bl b,u=>u=Value.bool b|.int i,u=>∃t,u=Value.int i t|.str x,u=>∃t,u=Value.str x t|.byt b,u=>∃t,u=Value.bytes b t|.flt b,u=>∃t,u=Value.float b t|.ref a,u=>u=Value.ref a|.ty n,u=>u=Value.type n
abbrev Vals:List V->List Value->Prop:=Paired RelV
theorem Vals.length {x:List V}(r:Vals x us):x.length=us.length:=Paired.length r
theorem Vals.get:∀{X:List V}{U:bS}{i:Nat}{x:V},Vals X U->X[i]? =some x->∃u,U[i]? =some u/\RelV x u
 |_,_,_,_,.nil,e=>by simp at e|_,_,0,_,.cons r _,e=>by simp at e;subst e;exact⟨_,rfl,r⟩|_,_,i+1,x,.cons _ t,e=>by
  obtain⟨u,H,h⟩:=Vals.get (i:=i) (x:=x) t (by simpa using e)
  exact⟨u,by simpa using H,h⟩
theorem Vals.set {x:V}(r:RelV x u):∀{X:List V}{U:bS}(i:Nat),Vals X U->Vals (X.set i x) (U.set i u)
 |_,_,_,.nil=>.nil|_,_,0,.cons _ t=>.cons r t|_,_,i+1,.cons q t=>.cons q (Vals.set r i t)
theorem Vals.append:∀{x y:List V}{u w:bS},Vals x u->Vals y w->Vals (x++y) (u++w)
 |_,_,_,_,.nil,s=>s|_,_,_,_,.cons r t,s=>.cons r (Vals.append t s)
theorem Vals.take:∀{x:List V}{u:bS}(n:Nat),Vals x u->Vals (x.take n) (u.take n)
 |_,_,0,_=>.nil|_,_,_+1,.nil=>.nil|_,_,n+1,.cons r t=>.cons r (Vals.take n t)
theorem Vals.drop:∀{x:List V}{u:bS}(n:Nat),Vals x u->Vals (x.drop n) (u.drop n)
 |_,_,0,r=>r|_,_,_+1,.nil=>.nil|_,_,n+1,.cons _ t=>Vals.drop n t
def Vals.none_of:∀{x:List V}{u:bS}{i:Nat},Vals x u->x[i]? =none->u[i]? =none:=λ {x u i} r e=>by
 have H:=r.length;have h:x.length<=i:=List.getElem?_eq_none_iff.mp e;exact List.getElem?_eq_none_iff.mpr (by omega)
def QN:Option V->Option Value->Prop
 |some v,some u=>RelV v u|none,none=>True|_,_=>False
def KV {a:Type}:List (a×V)->List (a×Value)->Prop:=Paired λ(p:a×V) (q:a×Value)=>p.1=q.1/\RelV p.2 q.2
noncomputable def kV:Key->V
 |.inl i=>.int i|.inr x=>.str x
inductive HO where
 |lst (xs:List V)
 |tup (xs:List V)
 |dK (kvs:List (Key×V))|dT (kvs:List (List Key×V))
 |set (S:Int->Bool) (n:Nat)
 |ins (C dx:Addr) (fs:List (Str×V))
 |own (x:Addr)
 |xd (fs:List (Str×V))
 |met (f x:Addr)
 |rng (lo hi:Int)
 |frz (o:Obj) (u:HO)
 |tbl (ps:Array Value)
 |ext (φ:Heap->Prop)
noncomputable abbrev Hp:=Addr->Option HO
noncomputable def upd (H:Hp)(a:Addr)(o:HO):Hp:=λb=>if b=a then some o else H b
def j9 {H:Hp}{o:HO}:upd H a o a=some o:=by unfold upd;rw[ah rfl]
def qC {H:Hp}{o:HO}(h:b≠a):upd H a o b=H b:=by unfold upd;rw[aj h]
def Y5 {H:Hp}{o u:HO}(h:H a=some o)(c:H b=some u)(d:o≠u):a≠b:=by
 intro e;subst e;rw[h]at c;exact d (aI c)
def wj {H:Hp}{o:HO}(h:H a=some o)(c:H b=none):a≠b:=by
 intro e;subst e;rw[h]at c;cases c
def ZG (h:Heap)(a:Addr)(i:Array Value):Prop:=∃o,h.get? a=some o/\(o.cls=.type "tuple" /\ o.dict=none)/\∃n,o.data=.seq i n
def ZG.tup {h:Heap}{a:Addr}{i:Array Value}(x:ZG h a i):IsTup h a i:=let ⟨o,e,c,d⟩:=x;⟨o,e,c.1,d⟩
def ZG.new (h:Heap)(i:Array Value):ZG (h.push { cls:=.type "tuple",data:=.seq i }) h.objs.size i:=⟨_,aC h rfl,⟨rfl,rfl⟩,0,rfl⟩
section
variable (P:Program)(w:World)
def jg (H:Hp)(h:Heap)(a:Addr):HO->Prop
 |.lst X=>X.length<=sizeLine/\∃(p9:bS) (n:Nat),Vals X p9/\h.get? a=some { cls:=.type "list",data:=.seq p9.toArray n }
 |.tup X=>X.length<=sizeLine/\∃p9:bS,Vals X p9/\ZG h a p9.toArray|.dK K=>K.length<=sizeLine/\(a==sysModules)=false/\∃c,KV K c/\h.DictOf (kP P w) a c|.dT K=>K.length<=sizeLine/\(a==sysModules)=false/\∃X:List (List Key×Addr×Value),
   Paired (λ(p:List Key×V) (q:List Key×Addr×Value)=>p.1=q.1/\H q.2.1=some (.tup (p.1.map kV))/\RelV p.2 q.2.2) K X/\
   ∃o e E,h.get? a=some o/\o.ExactDict/\o.data=.dict e E/\e.toList=X.map (entryOfKey (tupleKind (kP P w)))/\(X.map (·.1)).Nodup
 |.set S n=>h.SetOf (intKind P w) a S n|.ins C d fs=>H d=some (.own a)/\fs.length<=1000/\d≠a/\h.get? a=some (instObj C d)/\
   ∃M,h.Ns1 d M/\(∀f,QN (fs.lookup f) (M f))/\PySem.Within M (fs.map (·.1))
 |.own _=>∃o,h.get? a=some o|.xd fs=>∃M,h.Ns1 a M/\∀f,QN (fs.lookup f) (M f)|.rng l i=>∃t u v,h.get? a=some { cls:=.type "range",data:=.fields #[.int l t,.int i u,.int 1 v] }
 |.frz o u=>h.get? a=some o/\jg H h a u|.tbl ps=>h.get? a=some { cls:=.none,data:=.fields ps }|.met f x=>h.get? a=some (methodObj (.ref f) (.ref x))|.ext b=>b h/\(∃o,h.get? a=some o)/\∀j g:Heap,b j->(∀o,j.get? a=some o->g.get? a=some o)->b g
def jx (H:Hp)(h:Heap):Prop:=∀a o,H a=some o->jg P w H h a o
end
section
variable {H H':Hp}{o:HO}
theorem jg.lt (x:jg P w H h a o):a<h.objs.size:=by
 cases o with
 |lst X=>obtain⟨_,_,_,_,e⟩:=x;exact aM e|tup X=>obtain⟨_,_,_,p⟩:=x;exact p.tup.lt|dK K=>obtain⟨_,_,_,_,o,_,_,e,_⟩:=x;exact aM e|dT K=>obtain⟨_,_,_,_,o,_,_,e,_⟩:=x;exact aM e|set S n=>obtain⟨o,_,_,_,e,_⟩:=x;exact aM e|ins C d fs=>obtain⟨_,_,_,e,_⟩:=x;exact aM e|own y=>obtain⟨_,e⟩:=x;exact aM e|xd fs=>obtain⟨_,⟨_,_,_,e,_⟩,_⟩:=x;exact aM e|rng l i=>obtain⟨_,_,_,e⟩:=x;exact aM e|frz ob u=>obtain⟨e,_⟩:=x;exact aM e|tbl ps=>exact aM (show h.get? a=some _ from x)|met f y=>exact aM (show h.get? a=some _ from x)|ext b=>obtain⟨_,⟨_,e⟩,_⟩:=x;exact aM e
theorem Paired.mapP {c:Type}{F G:α->c->Prop}:∀{L:List α}{l:List c},Paired F L l->(∀a b,F a b->G a b)->Paired G L l
 |_,_,.nil,_=>.nil|_,_,.cons r t,f=>.cons (f _ _ r) (Paired.mapP t f)
def jg.stay (x:jg P w H h a o)(k:∀b u,(b=a∨H b=some (.own a))->h.get? b=some u->h'.get? b=some u)
  (l:∀b,H b=some (.own a)->H' b=some (.own a))(Q:∀b xs,H b=some (.tup xs)->H' b=some (.tup xs)):jg P w H' h' a o:=by
 induction o with
 |lst xs=>obtain⟨z,i,n,r,e⟩:=x;exact⟨z,i,n,r,k _ _ (.inl rfl) e⟩|tup xs=>obtain⟨z,i,r,ob,e,c⟩:=x;exact⟨z,i,r,ob,k _ _ (.inl rfl) e,c⟩|dK K=>obtain⟨z,y,L,r,ob,E,g,e,c⟩:=x;exact⟨z,y,L,r,ob,E,g,k _ _ (.inl rfl) e,c⟩|dT K=>
  obtain⟨z,y,xs,r,ob,E,g,e,c⟩:=x;exact⟨z,y,xs,Paired.mapP r λp q z=>⟨z.1,Q _ _ z.2.1,z.2.2⟩,ob,E,g,k _ _ (.inl rfl) e,c⟩
 |set S n=>obtain⟨ob,E,g,t,e,c⟩:=x;exact⟨ob,E,g,t,k _ _ (.inl rfl) e,c⟩|ins C D fs=>
  obtain⟨d,z,N,e,M,⟨j,E,g,A,c⟩,r⟩:=x;exact⟨l _ d,z,N,k _ _ (.inl rfl) e,M,⟨j,E,g,k _ _ (.inr d) A,c⟩,r⟩
 |own y=>obtain⟨ob,e⟩:=x;exact⟨ob,k _ _ (.inl rfl) e⟩|xd fs=>obtain⟨M,⟨j,E,g,e,c⟩,r⟩:=x;exact⟨M,⟨j,E,g,k _ _ (.inl rfl) e,c⟩,r⟩|rng U B=>obtain⟨t,u,v,e⟩:=x;exact⟨t,u,v,k _ _ (.inl rfl) e⟩|frz ob u I=>obtain⟨e,q⟩:=x;exact⟨k _ _ (.inl rfl) e,I q⟩|tbl ps=>
  have e:h.get? a=some { cls:=.none,data:=.fields ps }:=x;show h'.get? a=some { cls:=.none,data:=.fields ps };exact k a _ (.inl rfl) e
 |met f y=>
  have e:h.get? a=some (methodObj (.ref f) (.ref y)):=x;show h'.get? a=some (methodObj (.ref f) (.ref y));exact k a _ (.inl rfl) e
 |ext T=>obtain⟨p,⟨o,e⟩,J⟩:=x;exact⟨J _ _ p λo q=>k _ _ (.inl rfl) q,⟨o,k _ _ (.inl rfl) e⟩,J⟩
theorem jx.lt (x:jx P w H h)(e:H a=some o):a<h.objs.size:=(x a o e).lt
def jx.fresh (x:jx P w H h)(e:h.objs.size<=a):H a=none:=by
 cases q:H a with
 |none=>rfl|some u=>exact absurd (aK (x.lt q) e) (aT _)
def jx.kept (x:jx P w H h)(k:∀b u,h.get? b=some u->h'.get? b=some u):jx P w H h':=λa o e=>
 (x a o e).stay (λb u _ q=>k b u q) (λ_ q=>q) λ_ _ q=>q
def jx.laid (x:jx P w H h)(k:∀b u,h.get? b=some u->h'.get? b=some u)(p:h.objs.size<=a)(new:jg P w (upd H a o) h' a o):jx P w (upd H a o) h':=λb u e=>by
 have n:=x.fresh p
 by_cases d:b=a
 ·subst d;rw[j9]at e;cases e;exact new
 ·rw[qC d]at e
  exact(x b u e).stay (λc v _ q=>k c v q) (λc q=>by rw[qC (wj q n)];exact q) λc X q=>by rw[qC (wj q n)];exact q
end
def Rd (H:Hp)(a:Addr)(u:HO):Prop:=H a=some u∨∃o,H a=some (.frz o u)
def Rd.ok {H:Hp}{u:HO}(r:Rd H a u)(x:jx P w H h):jg P w H h a u:=by
 rcases r with r|⟨o,r⟩
 ·exact x a u r
 ·obtain⟨_,q⟩:=x a _ r
  exact q
def Gh:Option HO->Prop
 |some (.lst _)=>True|some (.dK _)=>True|some (.dT _)=>True|some (.set _ _)=>True|some (.ins _ _ _)=>True|some (.ext _)=>True|_=>False
section
variable {H:Hp}{x e:Addr}{o':HO}
def jx.write (ok:jx P w H h)(M:Gh (H x))(i:e=x∨H e=some (.own x))(k:∀b u,b≠e->h.get? b=some u->h'.get? b=some u)(o:∃u,h'.get? e=some u)
  (new:jg P w (upd H x o') h' x o'):jx P w (upd H x o') h':=λb u q=>by
 have n:∀c y,H c=some (.own y)->c≠x:=λc y r z=>by subst z;rw[r]at M;exact M
 have N:∀c X,H c=some (.tup X)->c≠x:=λc X r z=>by subst z;rw[r]at M;exact M
 by_cases f:b=x
 ·subst f;rw[j9]at q;cases q;exact new
 ·rw[qC f]at q
  by_cases a:b=e
  ·have Q:H b=some (.own x):=by
    rcases i with z|z
    ·exact absurd (a.trans z) f
    ·rw[a];exact z
   rw[q]at Q;cases Q;obtain⟨v,g⟩:=o;exact⟨v,by rw[a];exact g⟩
  ·refine(ok b u q).stay (λc v d r=>k c v ?_ r) (λc r=>by rw[qC (n c b r)];exact r) λc X r=>by rw[qC (N c X r)];exact r
   rcases d with rfl|d
   ·exact a
   ·rintro rfl
    rcases i with z|z
    ·exact n c b d z
    ·rw[d]at z;cases z;exact f rfl
end
structure Un (fs ex:bT)(H H':Hp)(h h':Heap):Prop where
 keep:∀b o,h.get? b=some o->H b=none->b∉fs->b∉ex->h'.get? b=some o
 slot:∀b o,h.get? b=some o->H b=none->b∈fs->b∉ex->∃sl,h'.get? b=some { o with slots:=sl }
 free:∀b o,h.get? b=some o->H b=none->b∉ex->H' b=none
 there:∀b o,h.get? b=some o->b∉ex->∃o',h'.get? b=some o'
 tups:∀b xs,H b=some (.tup xs)->H' b=some (.tup xs)
 frzs:∀b o u,H b=some (.frz o u)->H' b=some (.frz o u)
 tbls:∀b ps,H b=some (.tbl ps)->∃more,H' b=some (.tbl (ps++more))
section
variable {fs ex:bT}{H H1:Hp}{h1:Heap}{x e:Addr}{o:HO}
def Un.any (u:Un fs ex H H1 h h1){ob:Obj}(q:h.get? b=some ob)(n:H b=none)(x:b∉ex):∃S,h1.get? b=some { ob with slots:=S }:=by
 by_cases a:b∈fs
 ·exact u.slot b ob q n a x
 ·exact⟨ob.slots,u.keep b ob q n a x⟩
def Un.kept (k:∀b u,h.get? b=some u->h'.get? b=some u):Un fs ex H H h h':=
 ⟨λb ob q _ _ _=>k b ob q,λb ob q _ _ _=>⟨ob.slots,k b ob q⟩,λ_ _ _ n _=>n,λb ob q _=>⟨ob,k b ob q⟩,λ_ _ q=>q,λ_ _ _ q=>q,λ_ ps q=>⟨#[],by rw[q];simp⟩⟩
def Un.refl:Un fs ex H H h h:=Un.kept λ_ _ q=>q
def Un.laid (k:∀b u,h.get? b=some u->h'.get? b=some u)(p:h.objs.size<=a)(c:H a=none):Un fs ex H (upd H a o) h h' where
 keep:=λb u q _ _ _=>k b u q
 slot:=λb u q _ _ _=>⟨u.slots,k b u q⟩
 free:=λb u q n _=>by rw[qC (aO (aK (aM q) p))];exact n
 there:=λb u q _=>⟨u,k b u q⟩
 tups:=λb x q=>by rw[qC (wj q c)];exact q
 frzs:=λb u x q=>by rw[qC (wj q c)];exact q
 tbls:=λb ps q=>⟨#[],by rw[qC (wj q c),q];simp⟩
def Un.write (M:Gh (H x))(i:e=x∨H e=some (.own x))(k:∀b u,b≠e->h.get? b=some u->h'.get? b=some u)(c:∃u,h'.get? e=some u):Un fs ex H (upd H x o) h h':=by
 have d:∀b,H b=none->b≠x:=λb n z=>by subst z;rw[n]at M;exact M
 have f:∀b,H b=none->b≠e:=λb n z=>by
  subst z;rcases i with r|r
  ·exact d b n r
  ·rw[n]at r;cases r
 have g:∀b u,H b=some u->¬Gh (some u)->b≠x:=λb u q nm z=>by subst z;rw[q]at M;exact nm M
 refine⟨λb u q n _ _=>k b u (f b n) q,λb u q n _ _=>⟨u.slots,k b u (f b n) q⟩,λb u q n _=>by rw[qC (d b n)];exact n,λb u q _=>?_,
  λb X q=>by rw[qC (g b _ q λz=>z)];exact q,λb u X q=>by rw[qC (g b _ q λz=>z)];exact q,λb ps q=>⟨#[],by rw[qC (g b _ q λz=>z),q];simp⟩⟩
 by_cases a:b=e
 ·subst a;exact c
 ·exact⟨u,k b u a q⟩
end
noncomputable def VB (h:Heap)(H:Hp):bT:=(List.range h.objs.size).filter λa=>(H a).isSome
def Qd (h:Heap)(H:Hp):Heap:=hideAll h (VB h H)
def BX (h:Heap)(H:Hp):(Qd h H).objs.size=h.objs.size:=hideAll_size _ _
def Ao {H:Hp}{o:Obj}(e:h.get? b=some o)(n:H b=none):(Qd h H).get? b=some o:=
 bI _ e λa=>by
  have q:(H b).isSome=true:=(List.mem_filter.mp a).2;rw[n]at q;simp at q
def cI {H:Hp}{o:Obj}(e:(Qd h H).get? b=some o):h.get? b=some o/\H b=none:=by
 have E:h.get? b=some o:=of_hideAll (VB h H) e;refine⟨E,?_⟩;cases q:H b with
 |none=>rfl|some x=>
  have a:b∈VB h H:=List.mem_filter.mpr ⟨cn.mpr (aM E),by simp[q]⟩
  have z:(Qd h H).get? b=none:=hideAll_none (VB h H) a;rw[z]at e;cases e
structure Mod (K:Frag)(mg:b8)(base:Heap):Prop where
 kin:K.In base
 glob:base.Ns mainGlobals mg
 blt:∃mb,base.Ns builtinsNs mb/\∀x:Str,x ≠ "__name__" -> mb x=bootBuiltins x
 nolimit:base.NoLimit
structure Cx where
 prog:Program
 w:World
 K:Frag
 mg:Str->Option Value
 base:Heap
 A:Around
 N:bX
 s0:Shared
 H0:Hp
 env:Env
 outer:b9
 stack:b9
 ex:bT
 fn:Str->Bool
 calm:Bool
 pn:bU
 xe:Value->Shared->Prop
noncomputable def qR (l:b9):bT:=l.filterMap (·.frame)
abbrev Cx.fs (X:Cx):bT:=qR X.outer
def Km (S:Scope)(x:Str):Prop:=S.names.lookup x=some .local∨S.names.lookup x=some .cell∨S.names.lookup x=some .free
def Loc (S:Scope)(x:Str):Prop:=S.names.lookup x=some .local∨S.names.lookup x=some .cell
def Look (e:Env)(h:Heap)(m:b8)(x:Str)(u:Value):Prop:=
 (e.kindOf x=some .local/\m x=some u)∨((e.kindOf x=some .cell∨e.kindOf x=some .free)/\∃c,e.cells.lookup x=some c/\h.IsCell c (some u))
structure Cx.Ok (X:Cx):Prop where
 mod:Mod X.K X.mg X.base
 kind:X.env.scope.kind=.function
 glob:X.env.globals=mainGlobals
 blt:X.env.builtins=builtinsNs
 above:X.s0.heap.objs.size<=X.env.locals
 inj:∀x y c,X.env.cells.lookup x=some c->X.env.cells.lookup y=some c->x=y
 has:∀x,(X.env.kindOf x=some .cell∨X.env.kindOf x=some .free)->∃c,X.env.cells.lookup x=some c
 cab:∀x c,X.fn x=true->X.env.cells.lookup x=some c->X.s0.heap.objs.size<=c
 hd:X.calm=true->X.A.handled=none
 frames:X.A.frames=some X.stack
 stk:X.stack=X.outer∨(X.stack=X.env::X.outer/\X.env.frame=some X.env.locals)
 exf:∀b∈X.ex,b≠X.env.locals/\∀x c,X.env.cells.lookup x=some c->c≠b
 bs:∀b o,X.base.get? b=some o->X.s0.heap.get? b=some o/\X.H0 b=none
 bsz:X.base.objs.size<=X.s0.heap.objs.size
 noex:∀b o,X.base.get? b=some o->b∉X.ex
 exfs:∀b∈X.ex,b∉X.fs
 funs:X.s0.heap.FunFrames X.base X.outer
 frf:∀b∈X.fs,X.H0 b=none
structure Inv (X:Cx)(p4:bU)(σ:List (Option V))(H:Hp)(s:Shared):Prop where
 ok:X.Ok
 os:s.os=X.s0.os
 bare:AllBare s.gens
 base:Un X.fs X.ex X.H0 H X.s0.heap s.heap
 loc:∃m,s.heap.Ns X.env.locals m/\∀(i:Nat)(x:Str)(v:V),X.N[i]? =some x->σ[i]? =some (some v)->Km X.env.scope x->∃u,RelV v u/\Look X.env s.heap m x u
 cell:∀x c,X.env.cells.lookup x=some c->∃v,s.heap.IsCell c v
 free:H X.env.locals=none
 freeC:∀x c,X.env.cells.lookup x=some c->H c=none
 pin:∀p∈X.pn++p4,s.heap.get? p.1=some p.2/\H p.1=none/\p.1≠X.env.locals/\p.1∉X.fs/\∀v,p.2.data≠.cell v
 hok:jx X.prog X.w H s.heap
 len:σ.length=X.N.length
section
variable {X:Cx}{σ:List (Option V)}{H H':Hp}{s:Shared}
def Cx.Ok.nofr (ok:X.Ok){o:Obj}(e:X.base.get? b=some o):b∉X.fs:=λh=>by
 have:=(ok.funs.mem h).1
 rw[e]at this;cases this
theorem Inv.bs (I:Inv X p4 σ H s):∀b o,X.base.get? b=some o->s.heap.get? b=some o/\H b=none:=λb o e=>
 ⟨I.base.keep b o (I.ok.bs b o e).1 (I.ok.bs b o e).2 (I.ok.nofr e) (I.ok.noex b o e),I.base.free b o (I.ok.bs b o e).1 (I.ok.bs b o e).2 (I.ok.noex b o e)⟩
def Inv.bk (I:Inv X p4 σ H s):∀b o,X.base.get? b=some o->s.heap.get? b=some o:=λb o e=>(I.bs b o e).1
theorem Inv.mod (I:Inv X p4 σ H s):Mod X.K X.mg X.base:=I.ok.mod
def Inv.kIn (I:Inv X p4 σ H s):X.K.In s.heap:=I.ok.mod.kin.keeps I.bk
theorem Inv.lt (I:Inv X p4 σ H s):X.env.locals<s.heap.objs.size:=let ⟨_,h,_⟩:=I.loc;h.lt
def Inv.sz (I:Inv X p4 σ H s):X.s0.heap.objs.size<=s.heap.objs.size:=aY I.ok.above (bK I.lt)
def Inv.nofs (I:Inv X p4 σ H s)(h:s.heap.objs.size<=a):a∉X.fs:=λc=>by
 obtain⟨_,o,b,_⟩:=I.ok.funs.mem c;exact absurd (aK (aM b) (aY I.sz h)) (aT _)
def Inv.cne (I:Inv X p4 σ H s):∀x c,X.env.cells.lookup x=some c->c≠X.env.locals:=λx c e z=>by
 obtain⟨v,o,b,d⟩:=I.cell x c e;obtain⟨m,⟨f,E,p,h,a,_⟩,_⟩:=I.loc;rw[z,h]at b;cases b;rw[a]at d;cases d
theorem Inv.funs (I:Inv X p4 σ H s):s.heap.FunFrames X.base X.outer:=by
 have all:∀(l:b9),(∀b∈qR l,b∈X.fs)->X.s0.heap.FunFrames X.base l->s.heap.FunFrames X.base l:=by
  intro l
  induction l with
  |nil=>intro _ _;trivial|cons E r i=>
   intro c g;obtain⟨j,⟨L,o,n,p,f,q⟩,d⟩:=g;have a:L∈X.fs:=c L (by unfold qR;rw[ba,n];exact aE)
   obtain⟨S,e⟩:=I.base.slot L o f (I.ok.frf L a) a λz=>I.ok.exfs L z a;exact⟨j,⟨L,_,n,p,e,q⟩,i (λb h=>c b (by unfold qR;rw[ba,n];exact aw _ h)) d⟩
 exact all X.outer (λ_ h=>h) I.ok.funs
theorem Inv.stack (I:Inv X p4 σ H s):s.heap.FunFrames X.base X.stack:=by
 rcases I.ok.stk with e|⟨e,hf⟩
 ·rw[e];exact I.funs
 ·rw[e]
  obtain⟨m,h,_⟩:=I.loc;refine .cons (by rw[I.ok.kind];decide) hf h ?_ I.funs
  exact Heap.get?_none_of_le (aY I.ok.bsz I.ok.above)
def Inv.stkSub (I:Inv X p4 σ H s):∀b∈qR X.stack,b∈X.env.locals::X.fs:=λb h=>by
 rcases I.ok.stk with e|⟨e,hf⟩
 ·rw[e]at h;exact aw _ h
 ·rw[e]at h
  unfold qR at h;rw[ba,hf]at h;exact h
def Inv.stkFree (I:Inv X p4 σ H s):∀b∈qR X.stack,H b=none:=λb h=>by
 rcases cu.mp (I.stkSub b h) with e|h
 ·rw[e];exact I.free
 ·obtain⟨_,o,a,_⟩:=I.ok.funs.mem h
  exact I.base.free b o a (I.ok.frf b h) λz=>I.ok.exfs b z h
def Inv.step {g':Array GenState}{d':Drawn}{ch:bT}(I:Inv X p4 σ H s)
  (a:∀b∈ch,(b∈X.ex∨X.s0.heap.objs.size<=b)/\b≠X.env.locals/\(∀x c,X.env.cells.lookup x=some c->c≠b)/\∀p∈X.pn++p4,p.1≠b)
  (keep:∀b o,b≠X.env.locals->b∉X.fs->b∉ch->s.heap.get? b=some o->H b=none->h'.get? b=some o)
  (Q:∀b o,b≠X.env.locals->b∈X.fs->b∉ch->s.heap.get? b=some o->H b=none->∃t,h'.get? b=some { o with slots:=t })(M:∀b o,b∉ch->s.heap.get? b=some o->H b=none->H' b=none)
  (there:∀b o,b∉ch->s.heap.get? b=some o->∃o',h'.get? b=some o')
  (T:∀b xs,H b=some (.tup xs)->H' b=some (.tup xs))(Z:∀b o u,H b=some (.frz o u)->H' b=some (.frz o u))(U:∀b ps,H b=some (.tbl ps)->∃Y,H' b=some (.tbl (ps++Y)))
  (ns:∀m,s.heap.Ns X.env.locals m->h'.Ns X.env.locals m)(hok:jx X.prog X.w H' h')(J:AllBare g'):
  Inv X p4 σ H' { s with heap:=h',gens:=g',drawn:=d',toks:=t' }:=by
 have L:∀b o,X.s0.heap.get? b=some o->b≠X.env.locals:=λb o e=>aO (aK (aM e) I.ok.above);have C:∀b o,X.s0.heap.get? b=some o->b∉X.ex->b∉ch:=λb o e h f=>by
  rcases(a b f).1 with z|z
  ·exact h z
  ·exact absurd (aK (aM e) z) (aT _)
 have P:∀x c,X.env.cells.lookup x=some c->∀v,s.heap.IsCell c v->h'.IsCell c v:=λx c e v ⟨o,g,hd⟩=>by
  have N:c∉ch:=λz=>(a c z).2.2.1 x c e rfl
  by_cases B:c∈X.fs
  ·obtain⟨t,q⟩:=Q c o (I.cne x c e) B N g (I.freeC x c e)
   exact⟨_,q,hd⟩
  ·exact⟨o,keep c o (I.cne x c e) B N g (I.freeC x c e),hd⟩
 refine⟨I.ok,I.os,J,⟨λb o e n f h=>?_,λb o e n f h=>?_,λb o e n h=>?_,λb o e h=>?_,λb xs e=>T b xs (I.base.tups b xs e),λb o xs e=>Z b o xs (I.base.frzs b o xs e),λb ps e=>?_⟩,?_,λx c e=>?_,?_,λx c e=>?_,λp A=>?_,hok,I.len⟩
 ·exact keep b o (L b o e) f (C b o e h) (I.base.keep b o e n f h) (I.base.free b o e n h)
 ·obtain⟨t,E⟩:=I.base.slot b o e n f h
  obtain⟨S,j⟩:=Q b _ (L b o e) f (C b o e h) E (I.base.free b o e n h);exact⟨S,j⟩
 ·obtain⟨o',E⟩:=I.base.there b o e h
  exact M b o' (C b o e h) E (I.base.free b o e n h)
 ·obtain⟨o',E⟩:=I.base.there b o e h
  exact there b o' (C b o e h) E
 ·obtain⟨m1,E⟩:=I.base.tbls b ps e
  obtain⟨m2,j⟩:=U b _ E;exact⟨m1++m2,by rw[j,Array.append_assoc]⟩
 ·obtain⟨m,hn,D⟩:=I.loc
  refine⟨m,ns m hn,λi x v E j K=>?_⟩;obtain⟨u,r,l⟩:=D i x v E j K;refine⟨u,r,?_⟩;rcases l with l|⟨k,c,e,z⟩
  ·exact .inl l
  ·exact .inr ⟨k,c,e,P x c e _ z⟩
 ·obtain⟨v,z⟩:=I.cell x c e
  exact⟨v,P x c e v z⟩
 ·obtain⟨m,⟨o,_,_,g,_⟩,_⟩:=I.loc
  exact M _ o (λz=>(a _ z).2.1 rfl) g I.free
 ·obtain⟨v,o,g,hd⟩:=I.cell x c e
  exact M c o (λz=>(a c z).2.2.1 x c e rfl) g (I.freeC x c e)
 ·obtain⟨e,n,ne,y,d⟩:=I.pin p A
  have N:p.1∉ch:=λz=>(a p.1 z).2.2.2 p A rfl;exact⟨keep p.1 p.2 ne y N e n,M p.1 p.2 N e n,ne,y,d⟩
def Inv.un (I:Inv X p4 σ H s)(u:Un X.fs [] H H' s.heap h')(i:jx X.prog X.w H' h'):Inv X p4 σ H' { s with heap:=h',toks:=t' }:=by
 obtain⟨m,⟨o,g,p,d,r⟩,_⟩:=id I.loc;obtain⟨S,L⟩:=u.any d I.free (by simp)
 exact I.step (g':=s.gens) (d':=s.drawn) (ch:=[]) (λ_ z=>nomatch z) (λb o _ a _ e n=>u.keep b o e n a (by simp)) (λb o _ a _ e n=>u.slot b o e n a (by simp)) (λb o _ e n=>u.free b o e n (by simp)) (λb o _ e=>u.there b o e (by simp)) u.tups u.frzs u.tbls (λM j=>by
  obtain⟨l,E,c,h,f⟩:=j;rw[d]at h;cases h;exact⟨_,E,c,L,f⟩) i I.bare
def Inv.call {g':Array GenState}{d':Drawn}{ch:bT}(I:Inv X p4 σ H s)(u:Un (qR X.stack) ch H H' s.heap h')(v:jx X.prog X.w H' h')(j:AllBare g')
  (d:∀b∈ch,(b∈X.ex∨X.s0.heap.objs.size<=b)/\b≠X.env.locals/\(∀x c,X.env.cells.lookup x=some c->c≠b)/\∀p∈X.pn++p4,p.1≠b):
  Inv X p4 σ H' { s with heap:=h',gens:=g',drawn:=d',toks:=t' }:=by
 obtain⟨m,⟨o,q,t,g,r⟩,_⟩:=id I.loc;obtain⟨S,L⟩:=u.any g I.free λz=>(d _ z).2.1 rfl;exact I.step (ch:=ch) d (λb o L l h e n=>u.keep b o e n (λz=>(cu.mp (I.stkSub b z)).elim L l) h) (λb o _ _ h e n=>u.any e n h) (λb o h e n=>u.free b o e n h) (λb o h e=>u.there b o e h) u.tups u.frzs u.tbls (λM y=>by
  obtain⟨A,E,f,a,i⟩:=y;rw[g]at a;cases a;exact⟨_,E,f,L,i⟩) v j
def Inv.turned {i:Addr}(I:Inv X p4 σ H s)(k:∀b o,b≠i->s.heap.get? b=some o->h'.get? b=some o)(j:H i=none)(L:i≠X.env.locals)
  (w:i∈X.ex∨X.s0.heap.objs.size<=i)(t:∀x c,X.env.cells.lookup x=some c->c≠i)(f:∀p∈X.pn++p4,p.1≠i):Inv X p4 σ H { s with heap:=h',toks:=t' }:=by
 have N:∀b u,H b=some u->b≠i:=λb u e z=>by rw[z,j]at e;cases e
 refine I.step (g':=s.gens) (d':=s.drawn) (ch:=[i]) (λb d=>?_) (λb o _ _ h e _=>k b o (λz=>h (by simp[z])) e) (λb o _ _ h e _=>⟨o.slots,k b o (λz=>h (by simp[z])) e⟩) (λ_ _ _ _ n=>n)
  (λb o h e=>⟨o,k b o (λz=>h (by simp[z])) e⟩) (λ_ _ e=>e) (λ_ _ _ e=>e) (λb ps e=>⟨#[],by rw[e];simp⟩) (λm l=>?_) (λb u e=>?_) I.bare
 ·have e:b=i:=by simpa using d
  subst e;exact⟨w,L,t,f⟩
 ·obtain⟨o,E,g,a,r⟩:=l
  exact⟨o,E,g,k _ o (Ne.symm L) a,r⟩
 ·refine(I.hok b u e).stay (λc v h q=>k c v ?_ q) (λ_ q=>q) λ_ _ q=>q
  rcases h with z|z
  ·rw[z];exact N b u e
  ·exact N c _ z
def Inv.tok (I:Inv X p4 σ H s)(t:Nat):Inv X p4 σ H { s with toks:=t }:=I.un (h':=s.heap) (t':=t) Un.refl I.hok
theorem Inv.kept (I:Inv X p4 σ H s)(k:∀b u,s.heap.get? b=some u->h'.get? b=some u):Inv X p4 σ H { s with heap:=h',toks:=t' }:=I.un (Un.kept k) (I.hok.kept k)
theorem Inv.laid {o:HO}(I:Inv X p4 σ H s)(k:∀b u,s.heap.get? b=some u->h'.get? b=some u)(h:s.heap.objs.size<=a)(new:jg X.prog X.w (upd H a o) h' a o):
  Inv X p4 σ (upd H a o) { s with heap:=h',toks:=t' }:=I.un (Un.laid k h (I.hok.fresh h)) (I.hok.laid k h new)
theorem Inv.write {x e:Addr}{o:HO}(I:Inv X p4 σ H s)(M:Gh (H x))(a:e=x∨H e=some (.own x))(k:∀b u,b≠e->s.heap.get? b=some u->h'.get? b=some u)(h:∃u,h'.get? e=some u)
  (new:jg X.prog X.w (upd H x o) h' x o):Inv X p4 σ (upd H x o) { s with heap:=h',toks:=t' }:=I.un (Un.write M a k h) (I.hok.write M a k h new)
def Inv.pins_of {P:bU}(I:Inv X p4 σ H s)(h:∀p∈P,s.heap.get? p.1=some p.2/\H p.1=none/\p.1≠X.env.locals/\p.1∉X.fs/\∀v,p.2.data≠.cell v):Inv X P σ H s:=
 ⟨I.ok,I.os,I.bare,I.base,I.loc,I.cell,I.free,I.freeC,λp a=>(cB.mp a).elim (λz=>I.pin p (br _ z)) (h p),I.hok,I.len⟩
def UI (h:N.Nodup){j:Nat}(a:N[i]? =some x)(b:N[j]? =some x):i=j:=by
 obtain⟨c,E⟩:=cw.mp a;obtain⟨H,e⟩:=cw.mp b;exact(getElem_inj h).mp (E.trans e.symm)
def Nt {A:Around}{v:V}{Q:Unit->Shared->Prop}(I:Inv X p4 σ H s)(hN:X.N.Nodup)(U:X.N[i]? =some x)(t:Loc X.env.scope x)(r:RelV v u)
  (h:∀s',Inv X p4 (σ.set i (some v)) H s'->(∃a,Heap.SameBut a s.heap s'.heap/\(a=X.env.locals∨X.env.cells.lookup x=some a))->Q () s')(hf:X.fn x=true∨X.env.scope.names.lookup x=some .local:=by first|exact .inl rfl|exact .inr rfl|assumption):wpAny M A (storeName X.env x u) Q E s:=by
 obtain⟨m,hn,hl⟩:=id I.loc;have Y:(X.env.scope.kind==.class || (X.env.scope.kind==.module&&X.env.locals != X.env.globals))=false:=by rw[I.ok.kind];rfl
 have J:i < σ.length:=by rw[I.len];exact(cw.mp U).1
 have cne:=I.cne;have tracked:∀{a:Addr}{h':Heap},(∃o,s.heap.get? a=some o/\H a=none)->Heap.SameBut a s.heap h'->jx X.prog X.w H h':=λ {a h'} ha f b ob e=>by
  obtain⟨_,_,B⟩:=ha;refine(I.hok b ob e).stay (λc w' l q=>(f.2 c ?_).trans q) (λ_ q=>q) λ_ _ q=>q
  rintro rfl
  rcases l with rfl|l
  ·rw[B]at e;cases e
  ·rw[B]at l;cases l
 rcases t with D|D
 ·refine wpAny_storeName_local D hn (λh' hn' f=>?_) Y
  obtain⟨oL,_,_,hoL,_⟩:=id hn;refine h _ ⟨I.ok,I.os,I.bare,⟨λb o e n P t=>?_,λb o e n P t=>?_,I.base.free,λb o e t=>?_,I.base.tups,I.base.frzs,I.base.tbls⟩,⟨_,hn',λj y v' g C e3=>?_⟩,λy c e=>?_,I.free,I.freeC,λp hp=>?_,tracked ⟨oL,hoL,I.free⟩ f,by simpa using I.len⟩ ⟨_,f,.inl rfl⟩
  ·exact(f.2 b (aO (aK (aM e) I.ok.above))).trans (I.base.keep b o e n P t)
  ·obtain⟨sl,g⟩:=I.base.slot b o e n P t
   exact⟨sl,(f.2 b (aO (aK (aM e) I.ok.above))).trans g⟩
  ·obtain⟨o',g⟩:=I.base.there b o e t
   exact⟨o',(f.2 b (aO (aK (aM e) I.ok.above))).trans g⟩
  ·by_cases K:j=i
   ·subst K
    rw[U]at g;cases g;rw[ay J]at C;cases C;exact⟨u,r,.inl ⟨D,by simp⟩⟩
   ·rw[ax (Ne.symm K)]at C
    obtain⟨u',r',q⟩:=hl j y v' g C e3;refine⟨u',r',?_⟩;rcases q with ⟨k,e⟩|⟨k,c,e,z⟩
    ·refine .inl ⟨k,?_⟩
     have:y≠x:=λe=>K (UI hN g (e ▸ U))
     simp[this,e]
    ·exact .inr ⟨k,c,e,z.sameBut f (cne y c e)⟩
  ·obtain⟨w',z⟩:=I.cell y c e
   exact⟨w',z.sameBut f (cne y c e)⟩
  ·obtain⟨e,n,ne,nf,d⟩:=I.pin p hp
   exact⟨(f.2 p.1 ne).trans e,n,ne,nf,d⟩
 ·have L:X.fn x=true:=by
   rcases hf with z|z
   ·exact z
   ·rw[z]at D;cases D
  obtain⟨c,l⟩:=I.ok.has x (.inl D);obtain⟨w',z⟩:=I.cell x c l;refine wpAny_storeName_cell I.ok.kind D l z (λh' hc' f=>?_);obtain⟨oc,T,S⟩:=id z;refine h { s with heap:=h' } ⟨I.ok,I.os,I.bare,⟨λb o e n P t=>?_,λb o e n P t=>?_,I.base.free,λb o e t=>?_,I.base.tups,I.base.frzs,I.base.tbls⟩,⟨m,hn.sameBut f (Ne.symm (cne x c l)),λj y v' g C e3=>?_⟩,λy c' e=>?_,I.free,I.freeC,λp hp=>?_,tracked ⟨oc,T,I.freeC x c l⟩ f,by simpa using I.len⟩ ⟨c,f,.inr l⟩
  ·exact(f.2 b (aO (aK (aM e) (I.ok.cab x c L l)))).trans (I.base.keep b o e n P t)
  ·obtain⟨sl,g⟩:=I.base.slot b o e n P t
   exact⟨sl,(f.2 b (aO (aK (aM e) (I.ok.cab x c L l)))).trans g⟩
  ·obtain⟨o',g⟩:=I.base.there b o e t
   exact⟨o',(f.2 b (aO (aK (aM e) (I.ok.cab x c L l)))).trans g⟩
  ·by_cases K:j=i
   ·subst K
    rw[U]at g;cases g;rw[ay J]at C;cases C;exact⟨u,r,.inr ⟨.inl D,c,l,hc'⟩⟩
   ·rw[ax (Ne.symm K)]at C
    obtain⟨u',r',q⟩:=hl j y v' g C e3;refine⟨u',r',?_⟩;rcases q with q|⟨k,c',e,z'⟩
    ·exact .inl q
    ·refine .inr ⟨k,c',e,z'.sameBut f ?_⟩
     rintro rfl
     exact K (UI hN g (I.ok.inj _ _ _ e l ▸ U))
  ·by_cases Z:c'=c
   ·subst Z;exact⟨_,hc'⟩
   ·obtain⟨w2,z2⟩:=I.cell y c' e
    exact⟨w2,z2.sameBut f Z⟩
  ·obtain⟨e,n,ne,nf,d⟩:=I.pin p hp
   refine⟨(f.2 p.1 ?_).trans e,n,ne,nf,d⟩;intro q;rw[q,T]at e;have q':oc=p.2:=aI e;exact d w' (by rw[<- q'];exact S)
def YE {A:Around}{v:V}{Q:Unit->Shared->Prop}(I:Inv X p4 σ H s)(c:X.N.Nodup)(b:X.N[i]? =some x)(a:Loc X.env.scope x)(r:RelV v u)
  (h:∀s',Inv X p4 (σ.set i (some v)) H s'->Q () s')(f:X.fn x=true∨X.env.scope.names.lookup x=some .local:=by first|exact .inl rfl|exact .inr rfl|assumption):wpAny M A (storeName X.env x u) Q E s:=
 Nt I c b a r (λs' d _=>h s' d) f
def Inv.call' {ch:bT}(I:Inv X p4 σ H s)(o:s'.os=s.os)(u:Un (qR X.stack) ch H H' s.heap s'.heap)(a:jx X.prog X.w H' s'.heap)(g:AllBare s'.gens)
  (h:∀b∈ch,(b∈X.ex∨X.s0.heap.objs.size<=b)/\b≠X.env.locals/\(∀x c,X.env.cells.lookup x=some c->c≠b)/\∀p∈X.pn++p4,p.1≠b):Inv X p4 σ H' s':=by
 obtain⟨i,f,D,t,d⟩:=s';have e:d=s.os:=o;subst e;exact I.call (g':=f) (t':=t) (d':=D) u a g h
end
abbrev XK:=Value->Option Addr->Hp->Prop
noncomputable abbrev St:=List (Option V)
abbrev VK:=V->Hp->Prop
abbrev TE:=St->Hp->VK->Prop
abbrev TT:=St->Hp->(Bool->Hp->Prop)->Prop
abbrev TA:=St->Hp->(List V->Hp->Prop)->Prop
structure Ends where
 nx:St->Hp->Prop
 rt:VK
 bk:St->Hp->Prop:=λ_ _=>False
 ct:St->Hp->Prop:=λ_ _=>False
abbrev TS:=Ends->St->Hp->Prop
inductive EP (X:Cx)(p4:bU)(σ:St)(Q:VK)(u:Value)(s':Shared):Prop
 |mk (v:V) (H':Hp) (I:Inv X p4 σ H' s') (r:RelV v u) (q:Q v H')
def TP (X:Cx)(p:bU)(a:St)(Q:Bool->Hp->Prop)(b:Bool)(S:Shared):Prop:=∃H,Inv X p a H S/\Q b H
inductive AP (X:Cx)(p4:bU)(σ:St)(Q:List V->Hp->Prop)(us:bS)(s':Shared):Prop
 |mk (vs:List V) (H':Hp) (I:Inv X p4 σ H' s') (r:Vals vs us) (q:Q vs H')
def SP (X:Cx)(p:bU)(D:Ends)(f:Flow)(S:Shared):Prop:=
 match f with
 |.next=>∃a H,Inv X p a H S/\D.nx a H|.brk=>∃a H,Inv X p a H S/\D.bk a H|.cont=>∃a H,Inv X p a H S/\D.ct a H|.ret u=>∃v a H,Inv X p a H S/\RelV v u/\D.rt v H
def PE (X:Cx)(e:Expr)(t:TE):Prop:=
 ∀(p4:bU)(s:Shared)(σ:St)(H:Hp)(Q:VK),Inv X p4 σ H s->t σ H Q->wpAny (model X.prog X.w) X.A (eval e X.env) (EP X p4 σ Q) X.xe s
def PT (X:Cx)(e:Expr)(t:TT):Prop:=
 ∀(p4:bU)(s:Shared)(σ:St)(H:Hp)(Q:Bool->Hp->Prop),Inv X p4 σ H s->t σ H Q->wpAny (model X.prog X.w) X.A (isTrue e X.env (eval e X.env)) (TP X p4 σ Q) X.xe s
def PW (X:Cx)(e:Expr)(t:TT):Prop:=
 ∀(whole:Sem Value)(p4:bU)(s:Shared)(σ:St)(H:Hp)(Q:Bool->Hp->Prop),Inv X p4 σ H s->t σ H Q->wpAny (model X.prog X.w) X.A (isTrue e X.env whole) (TP X p4 σ Q) X.xe s
def PW.pt {X:Cx}{t:TT}(h:PW X e t):PT X e t:=h _
def PA (X:Cx)(e:bZ)(t:TA):Prop:=
 ∀(p6:Pos)(p4:bU)(s:Shared)(σ:St)(H:Hp)(Q:List V->Hp->Prop),Inv X p4 σ H s->t σ H Q->wpAny (model X.prog X.w) X.A (spliced (backTo p6 (starEach e X.env))) (AP X p4 σ Q) X.xe s
def PS (X:Cx)(S:Stmt)(t:TS):Prop:=
 ∀(p4:bU)(s:Shared)(σ:St)(H:Hp)(D:Ends),Inv X p4 σ H s->t D σ H->wpAny (model X.prog X.w) X.A (exec S X.env) (SP X p4 D) X.xe s
def ki (X:Cx)(S:cg)(t:TS):Prop:=
 ∀(p4:bU)(s:Shared)(σ:St)(H:Hp)(D:Ends),Inv X p4 σ H s->t D σ H->wpAny (model X.prog X.w) X.A (execs S X.env) (SP X p4 D) X.xe s
def qf {t:Sem α}{Q q:α->Shared->Prop}{A:Around}{s:Shared}(h:wpAny M A t Q E s)(H:∀a s,Q a s->q a s):wpAny M A t q E s:=wpAny_mono h H λ_ _ x=>x
section
variable {X:Cx}
def cJ (i:Nat):TE:=λa H Q=>∃v,a[i]? =some (some v)/\Q v H
def tC (v:V):TE:=λ_ H Q=>Q v H
def Sb (n:X.N[i]? =some x)(g:Km X.env.scope x)(q:(x==("__debug__":Str))=false:=by decide)(d:(x==("__classdict__":Str))=false:=by decide):PE X (.Name x p6) (cJ i):=by
 intro p s t H Q I h;obtain⟨v,e,h⟩:=h;obtain⟨m,w,j⟩:=I.loc;obtain⟨u,r,l⟩:=j i x v n e g;have o:EP X p t Q u s:=⟨v,H,I,r,h⟩;rcases l with ⟨b,y⟩|⟨b,c,f,a⟩
 ·exact wpAny_Name (wpAny_loadName_local I.ok.kind b w y o) q
 ·rcases b with b|b
  ·exact wpAny_Name (wpAny_loadName_cell I.ok.kind b f a o) q
  ·exact wpAny_Name (wpAny_loadName_free I.ok.kind b f a o d) q
def Ie {i j p6}:PE X (.Constant (.int i) j p6) (tC (.int i)):=λ_ _ _ H _ I h=>wpAny_Constant_int ⟨.int i,H,I.tok _,⟨_,rfl⟩,h⟩
def cK {b j p6}:PE X (.Constant (.bool b) j p6) (tC (.bl b)):=λ_ _ _ H _ I h=>Constant_bool ⟨.bl b,H,I,rfl,h⟩
def cL {j p6}:PE X (.Constant .none j p6) (tC .non):=λ_ _ _ H _ I h=>Constant_none ⟨.non,H,I,rfl,h⟩
def cM {x j p6}:PE X (.Constant (.str x) j p6) (tC (.str x)):=λ_ _ _ H _ I h=>Calls.Constant_str ⟨.str x,H,I.tok _,⟨_,rfl⟩,h⟩
def Gl (X:Cx)(x:Str):Prop:=X.env.kindOf x=some .globalImplicit
def Wl {s:Shared}{a:St}{H:Hp}(I:Inv X p4 a H s)(g:Gl X x)(b:X.mg x=some u)(h:Q u s)
  (d:(x==("__debug__":Str))=false:=by decide):wpAny (model X.prog X.w) X.A (eval (.Name x p6) X.env) Q E s:=
 Calls.Name_function_global I.ok.kind g (Calls.loadGlobal_global (by rw[I.ok.glob];exact I.mod.glob.keeps I.bk) b h) d
def QA {s:Shared}{a:St}{H:Hp}(I:Inv X p4 a H s)(g:Gl X x)(b:X.mg x=none)(v:bootBuiltins x=some u)(h:Q u s)
  (n:x ≠ "__name__":=by decide)(d:(x==("__debug__":Str))=false:=by decide):wpAny (model X.prog X.w) X.A (eval (.Name x p6) X.env) Q E s:=by
 obtain⟨M,e,c⟩:=I.mod.blt;exact Calls.Name_function_global I.ok.kind g (Calls.loadGlobal_builtin (by rw[I.ok.glob];exact I.mod.glob.keeps I.bk) b (by rw[I.ok.blt];exact e.keeps I.bk) ((c x n).trans v) h) d
def Mp {v:V}(g:Gl X x)(a:X.mg x=some u)(r:RelV v u)(d:(x==("__debug__":Str))=false:=by decide):PE X (.Name x p6) (tC v):=
 λ_ _ _ H _ I h=>Wl I g a ⟨v,H,I,r,h⟩ d
def Xe {v:V}(g:Gl X x)(b:X.mg x=none)(a:bootBuiltins x=some u)(r:RelV v u)(n:x ≠ "__name__":=by decide)(d:(x==("__debug__":Str))=false:=by decide):PE X (.Name x p6) (tC v):=
 λ_ _ _ H _ I h=>QA I g b a ⟨v,H,I,r,h⟩ n d
variable {a b:Expr}{ta tb:TE}
def cN (b:Expr)(h:op≠.In)(H:op≠.NotIn):behindInMarks op b=false:=by
 have E:(op==CmpOp.In)=false:=by cases op<;>first|rfl|exact absurd rfl h
 have e:(op==CmpOp.NotIn)=false:=by cases op<;>first|rfl|exact absurd rfl H
 cases b<;>simp[behindInMarks,E,e]
def tB (t:TE):TT:=λa H Q=>t a H λx h=>∃c,x=.bl c/\Q c h
def cO {t:TE}(h:PE X e t)(f:∀w,isTrue e X.env w=(do let v <- w;standAt e.pos;holding [v] (truthy v)):=by intro _;rfl):PT X e (tB t):=by
 intro p s b H Q I c;refine isTrue_plain (qf (h p s b H _ I c) λv S ⟨x,g,i,r,a⟩=>?_) (f _);obtain⟨d,rfl,q⟩:=a;cases r;exact wpAny_truthy_bool ⟨g,i,q⟩
variable {tA tB':TT}{rh:bZ}
def cP (t u:TT):TT:=λa H Q=>t a H λc h=>if c=true then u a h Q else Q false h
def cQ (t u:TT):TT:=λa H Q=>t a H λc h=>if c=true then Q true h else u a h Q
def cR (t:TT):TT:=λa H Q=>t a H λc h=>Q (!c) h
def pw_and1 (b:PT X a tA):PW X (.BoolOp .And [a] p6) tA:=by
 intro w p s d H Q I h;refine isTrue_and (qf (b p s d H Q I h) λc S e=>?_);cases c with
 |true=>exact isTrue_and_nil e|false=>exact e
def pw_or1 (b:PT X a tA):PW X (.BoolOp .Or [a] p6) tA:=by
 intro w p s d H Q I h;refine isTrue_or (qf (b p s d H Q I h) λc S e=>?_);cases c with
 |false=>exact isTrue_or_nil e|true=>exact e
def pw_and (e:PT X a tA)(d:PW X (.BoolOp .And (b::rh) p6) tB'):PW X (.BoolOp .And (a::b::rh) p6) (cP tA tB'):=by
 intro w p s f H Q I h;refine isTrue_and (qf (e p s f H _ I h) λc S ⟨g,i,q⟩=>?_);cases c with
 |true=>exact d w p S f g Q i q|false=>exact⟨g,i,q⟩
def pw_or (e:PT X a tA)(d:PW X (.BoolOp .Or (b::rh) p6) tB'):PW X (.BoolOp .Or (a::b::rh) p6) (cQ tA tB'):=by
 intro w p s f H Q I h;refine isTrue_or (qf (e p s f H _ I h) λc S ⟨g,i,q⟩=>?_);cases c with
 |true=>exact⟨g,i,q⟩|false=>exact d w p S f g Q i q
def cS (b:PT X a tA):PT X (.UnaryOp .Not a p6) (cR tA):=by
 intro p s d H Q I h;exact isTrue_not (b p s d H (λc e=>Q (!c) e) I h)
def cT (T t:TE):TE:=λa H Q=>T a H λx h=>∃c,x=.bl c/\if c=true then t a h Q else Q (.bl false) h
def cU (t:TE):TE:=λa H Q=>t a H λx h=>∃c,x=.bl c/\Q (.bl (!c)) h
def cV {op}{t:TE}(h:PE X a t):PE X (.BoolOp op [a] p6) t:=λp s b H Q I w=>BoolOp_one (h p s b H Q I w)
def cW (e:PE X a ta)(d:PE X (.BoolOp .And (b::rh) p6) tb):PE X (.BoolOp .And (a::b::rh) p6) (cT ta tb):=by
 intro p s f H Q I h;refine BoolOp_and (qf (e p s f H _ I h) λv S ⟨x,g,i,r,q⟩=>?_);obtain⟨c,rfl,q⟩:=q;cases r;refine wpAny_truthy_bool ?_;cases c with
 |true=>exact d p S f g Q i q|false=>exact⟨.bl false,g,i,rfl,q⟩
def cX (b:PE X a ta):PE X (.UnaryOp .Not a p6) (cU ta):=by
 intro p s d H Q I h;refine UnaryOp_ (qf (b p s d H _ I h) λv S ⟨x,e,i,r,q⟩=>?_);obtain⟨c,rfl,q⟩:=q;cases r;exact not_of (wpAny_truthy_bool ⟨.bl (!c),e,i,rfl,q⟩)
def cY (t:TT)(a T:TE):TE:=λb H Q=>t b H λc h=>if c=true then a b h Q else T b h Q
def cZ {c:Expr}(e:PT X c tA)(g:PE X a ta)(f:PE X b tb):PE X (.IfExp c a b p6) (cY tA ta tb):=by
 intro p s j H Q I h;refine wpAny_IfExp (qf (e p s j H _ I h) λd S ⟨l,i,q⟩=>?_);cases d with
 |true=>exact g p S j l Q i q|false=>exact f p S j l Q i q
end
def jm (K:Frag)(H:Hp)(a:Addr)(x:List V):Prop:=
 Rd H a (.lst x)∨
  ∃(o:Obj) (p9:Array Value) (n:Nat),K.lookup a=some o/\o.cls=.type "list" /\ o.dict=none/\o.data=.seq p9 n/\p9.size<=sizeLine/\Vals x p9.toList
def qK (K:Frag)(H:Hp)(a:Addr)(x:List V):Prop:=
 Rd H a (.tup x)∨
  ∃(o:Obj) (p9:Array Value) (n:Nat),K.lookup a=some o/\(o.cls=.type "tuple" /\ o.dict=none)/\o.data=.seq p9 n/\p9.size<=sizeLine/\Vals x p9.toList
noncomputable def c3:Value->Option V
 |.none=>some .non|.bool b=>some (.bl b)|.int i _=>some (.int i)|.str x _=>some (.str x)|.bytes b _=>some (.byt b)|.float b _=>some (.flt b)|.ref a=>some (.ref a)|.type n=>some (.ty n)|_=>none
def RelV.abs {x:V}(r:RelV x u):c3 u=some x:=by
 cases x with
 |non=>cases r;rfl|bl _=>cases r;rfl|int _=>obtain⟨t,rfl⟩:=r;rfl|str _=>obtain⟨t,rfl⟩:=r;rfl|byt _=>obtain⟨t,rfl⟩:=r;rfl|flt _=>obtain⟨t,rfl⟩:=r;rfl|ref _=>cases r;rfl|ty _=>cases r;rfl
def RelV.inj {x y:V}(r:RelV x u)(q:RelV y u):x=y:=aI (r.abs.symm.trans q.abs)
theorem Vals.inj:∀{x y:List V}{u:bS},Vals x u->Vals y u->x=y
 |_,_,_,.nil,.nil=>rfl|_,_,_,.cons r t,.cons a t'=>by rw[r.inj a,Vals.inj t t']
section
variable {X:Cx}{σ:St}{H:Hp}{s:Shared}{xs ys:List V}
def jm.of {K:Frag}(h:H a=some (.lst xs)):jm K H a xs:=.inl (.inl h)
def qK.of {K:Frag}(h:H a=some (.tup xs)):qK K H a xs:=.inl (.inl h)
def Inv.list (I:Inv X p4 σ H s)(h:jm X.K H a xs):∃i:bS,Vals xs i/\PlainL s.heap a i.toArray/\xs.length<=sizeLine:=by
 rcases h with h|⟨o,i,n,c,d,hd,b,f,r⟩
 ·obtain⟨z,i,n,r,e⟩:=h.ok I.hok
  exact⟨i,r,⟨_,n,e,rfl,rfl,rfl⟩,z⟩
 ·refine⟨i.toList,r,⟨o,n,I.kIn a o c,d,hd,by simpa using b⟩,?_⟩
  have e:=r.length;simp only[length_toList]at e;omega
def Inv.tuple (I:Inv X p4 σ H s)(h:qK X.K H a xs):∃i:bS,Vals xs i/\IsTup s.heap a i.toArray/\xs.length<=sizeLine:=by
 rcases h with h|⟨o,i,n,c,d,b,f,r⟩
 ·obtain⟨z,i,r,p⟩:=h.ok I.hok
  exact⟨i,r,p.tup,z⟩
 ·refine⟨i.toList,r,⟨o,I.kIn a o c,d.1,n,by simpa using b⟩,?_⟩
  have e:=r.length;simp only[length_toList]at e;omega
def Inv.list_inj (I:Inv X p4 σ H s)(h:jm X.K H a xs)(g:jm X.K H a ys):xs=ys:=by
 obtain⟨i,r,⟨o,n,e,_,_,d⟩,_⟩:=I.list h;obtain⟨c,b,⟨j,N,E,_,_,f⟩,_⟩:=I.list g;rw[e]at E;cases E;rw[d]at f;injection f with D _
 have:i=c:=by simpa using congrArg Array.toList D
 subst this;exact r.inj b
def Inv.tupleN (I:Inv X p4 σ H s)(h:qK X.K H a xs):∃ob,s.heap.get? a=some ob/\ob.dict=none:=by
 rcases h with h|⟨o,i,n,b,d,g,f,r⟩
 ·obtain⟨z,i,r,o,e,c,_⟩:=h.ok I.hok
  exact⟨o,e,c.2⟩
 ·exact⟨o,I.kIn a o b,d.2⟩
def Inv.tuple_inj (I:Inv X p4 σ H s)(h:qK X.K H a xs)(g:qK X.K H a ys):xs=ys:=by
 obtain⟨i,r,⟨o,e,_,n,d⟩,_⟩:=I.tuple h;obtain⟨c,b,⟨j,E,_,N,f⟩,_⟩:=I.tuple g;rw[e]at E;cases E;rw[d]at f;injection f with D _
 have:i=c:=by simpa using congrArg Array.toList D
 subst this;exact r.inj b
end
noncomputable abbrev Cx.wish (X:Cx)(E:bY):Cx:={ X with xe:=E }
noncomputable abbrev Cx.nox (X:Cx):Cx:=X.wish λ_ _=>False
theorem Cx.Ok.wish {X:Cx}(ok:X.Ok)(E:bY):(X.wish E).Ok:=
 ⟨ok.mod,ok.kind,ok.glob,ok.blt,ok.above,ok.inj,ok.has,ok.cab,ok.hd,ok.frames,ok.stk,ok.exf,ok.bs,ok.bsz,ok.noex,ok.exfs,ok.funs,ok.frf⟩
def Cx.Ok.unwish {X:Cx}(ok:(X.wish E).Ok):X.Ok:=
 ⟨ok.mod,ok.kind,ok.glob,ok.blt,ok.above,ok.inj,ok.has,ok.cab,ok.hd,ok.frames,ok.stk,ok.exf,ok.bs,ok.bsz,ok.noex,ok.exfs,ok.funs,ok.frf⟩
section
variable {X:Cx}{σ:St}{H:Hp}{s:Shared}
theorem Inv.wish (I:Inv X p4 σ H s)(E:bY):Inv (X.wish E) p4 σ H s:=⟨I.ok.wish E,I.os,I.bare,I.base,I.loc,I.cell,I.free,I.freeC,I.pin,I.hok,I.len⟩
theorem Inv.unwish (I:Inv (X.wish E) p4 σ H s):Inv X p4 σ H s:=⟨I.ok.unwish,I.os,I.bare,I.base,I.loc,I.cell,I.free,I.freeC,I.pin,I.hok,I.len⟩
theorem SP.unwish {D:Ends}{f:Flow}(h:SP (X.wish E) p4 D f s'):SP X p4 D f s':=by
 cases f with
 |next=>obtain⟨a,H,I,q⟩:=h;exact⟨a,H,I.unwish,q⟩|brk=>obtain⟨a,H,I,q⟩:=h;exact⟨a,H,I.unwish,q⟩|cont=>obtain⟨a,H,I,q⟩:=h;exact⟨a,H,I.unwish,q⟩|ret u=>obtain⟨v,a,H,I,r,q⟩:=h;exact⟨v,a,H,I.unwish,r,q⟩
theorem PT.nox {t:TT}(h:PT X.nox e t):PT X e t:=λp s b H Q I w=>
 wpAny_mono (h p s b H Q (I.wish _) w) (λ_ _ ⟨a,i,q⟩=>⟨a,i.unwish,q⟩) λ_ _ z=>False.elim z
theorem ki.nox {S:cg}{t:TS}(h:ki X.nox S t):ki X S t:=λp s a H D I w=>
 wpAny_mono (h p s a H D (I.wish _) w) (λ_ _ q=>q.unwish) λ_ _ z=>False.elim z
end
section
variable {X:Cx}{st:Stmt}{rh:cg}{t u:TS}{te:TE}
def c4:TS:=λD a H=>D.nx a H
def c6 (t u:TS):TS:=λD a H=>t { D with nx:=u D } a H
def c7:ki X [] c4:=λ_ _ a H _ I h=>wpAny_execs_nil ⟨a,H,I,h⟩
def c8 (e:PS X st t)(d:ki X rh u):ki X (st::rh) (c6 t u):=by
 intro p s c H D I h;refine wpAny_execs_cons (qf (e p s c H { D with nx:=u D } I h) λf S q=>?_)
 cases f with
 |next=>
  obtain⟨a,b,i,q⟩:=q;exact d p S a b D i q
 |ret v=>exact q|brk=>exact q|cont=>exact q
def Inv.quiet {a:St}{H:Hp}{s:Shared}(I:Inv X p4 a H s):interactive X.env=false:=by simp[interactive,I.ok.kind]
def c9 (t:TE):TS:=λD a H=>t a H λ_ h=>D.nx a h
def da (c:PE X e te)(a:swapsWith e none p6.line X.env=pure false:=by rfl):PS X (.Expr e p6) (c9 te):=by
 intro p s b H D I h;exact wpAny_Expr_any (qf (c p s b H _ I h) λv S ⟨x,d,i,r,q⟩=>⟨b,d,i,q⟩) I.quiet a
def dc (t:TE):TS:=λD a H=>t a H D.rt
def de (b:PE X e te):PS X (.Return (some e) p6) (dc te):=by
 intro p s a H D I h;exact wpAny_Return_some (qf (b p s a H _ I h) λv S ⟨x,c,i,r,q⟩=>⟨x,a,c,i,r,q⟩)
def df (c:TT)(t u:TS):TS:=λD a H=>c a H λb h=>if b=true then t D a h else u D a h
def dh {c:Expr}{a b:cg}{T:TT}(e:PT X c T)(g:ki X a t)(f:ki X b u):PS X (.If c a b p6) (df T t u):=by
 intro p s j H D I h;refine wpAny_If (qf (e p s j H _ I h) λd S ⟨l,i,q⟩=>?_);cases d with
 |true=>exact g p S j l D i q|false=>exact f p S j l D i q
end
abbrev TG:=V->St->Hp->(St->Hp->Prop)->Prop
abbrev Ya:=List V->St->Hp->(St->Hp->Prop)->Prop
def PG (X:Cx)(T:Expr)(t:TG):Prop:=
 ∀(p4:bU)(s:Shared)(σ:St)(H:Hp)(v:V)(u:Value)(Q:St->Hp->Prop),Inv X p4 σ H s->RelV v u->t v σ H Q->
  wpAny (model X.prog X.w) X.A (assign T X.env u) (λ_ S=>∃a h,Inv X p4 a h S/\Q a h) X.xe s
def VF (X:Cx)(T:bZ)(t:Ya):Prop:=
 ∀(p4:bU)(s:Shared)(σ:St)(H:Hp)(vs:List V)(us:bS)(Q:St->Hp->Prop),Inv X p4 σ H s->Vals vs us->t vs σ H Q->
  wpAny (model X.prog X.w) X.A (assignInOrder ((assignEach T X.env).map (·.2)) us) (λ_ S=>∃a h,Inv X p4 a h S/\Q a h) X.xe s
abbrev J2:=V->V->V->Hp->(Hp->Prop)->Prop
def Vb (X:Cx)(t:J2):Prop:=
 ∀(p4:bU)(s:Shared)(σ:St)(H:Hp)(o i v:V)(a I u:Value)(Q:Hp->Prop),Inv X p4 σ H s->RelV o a->RelV i I->RelV v u->t o i v H Q->
  wpAny (model X.prog X.w) X.A (setItem a I u) (λ_ S=>∃h,Inv X p4 σ h S/\Q h) X.xe s
abbrev Vm:=V->V->Hp->VK->Prop
def HM (X:Cx)(o:Operator)(t:Vm):Prop:=
 ∀(p4:bU)(s:Shared)(σ:St)(H:Hp)(x y:V)(v u:Value)(Q:VK),Inv X p4 σ H s->RelV x v->RelV y u->t x y H Q->
  wpAny (model X.prog X.w) X.A (inplaceOp o v u) (EP X p4 σ Q) X.xe s
section
variable {X:Cx}
def XT (i:Nat):TG:=λv a H Q=>Q (a.set i (some v)) H
def YM (c:X.N.Nodup)(b:X.N[i]? =some x)(a:Loc X.env.scope x)(f:X.fn x=true∨X.env.scope.names.lookup x=some .local:=by first|exact .inl rfl|exact .inr rfl|assumption):PG X (.Name x p6) (XT i):=by
 intro p s e H v u Q I r h;exact wpAny_assign_Name (YE I c b a r (λS d=>⟨_,H,d,h⟩) f)
def di:Ya:=λv a H Q=>v=[]/\Q a H
def dj (t:TG)(u:Ya):Ya:=λc b H Q=>∃v r,c=v::r/\t v b H λa h=>u r a h Q
def Th:VF X [] di:=by
 intro p s a H v u Q I r h;obtain⟨e,h⟩:=h;subst e;cases r;exact assignInOrder_nil ⟨a,H,I,h⟩
def YB {E:bZ}{t:TG}{u:Ya}(l:PG X e t)(j:VF X E u)
  (c:(assignEach (e::E) X.env).map (·.2)=assign e X.env::(assignEach E X.env).map (·.2):=by rfl):VF X (e::E) (dj t u):=by
 intro p s g H o U Q I r h;obtain⟨v,f,d,h⟩:=h;subst d;cases r with
 |cons r b=>
  rw[c];refine assignInOrder_cons (qf (l p s g H _ _ _ I r h) λ_ S ⟨a,n,i,q⟩=>?_);exact j p S a n _ _ Q i b q
def jt (K:Frag)(n:Nat)(t:Ya):TG:=λv b H Q=>∃a x,v=.ref a/\qK K H a x/\x.length=n/\t x b H Q
def T8 {E:bZ}{k:Nat}{t:Ya}(f:X.calm=true)(h:VF X E t)
  (C:(assignEach E X.env).length=n:=by rfl)(c:(assignEach E X.env).findIdx? (·.1)=none:=by rfl):PG X (.Tuple E k p6) (jt X.K n t):=by
 intro P s y H v u Q I r w;obtain⟨a,A,g,q,l,w⟩:=w;subst g;cases r;obtain⟨i,d,B,p⟩:=I.tuple q;refine assign_Tuple_tuple (I.ok.hd f) B (by simp[C,<- l,d.length]) c λD x=>?_
 have j:Inv X P y H { s with heap:=D }:=I.kept (t':=s.toks) λb o e=>x b o (aO (aM e)) e
 exact h P _ y H A _ Q j (by simpa using d) w
def yP (to T:TE)(t:J2):TG:=λv b H Q=>to b H λo c=>T b c λi a=>t o i v a λh=>Q b h
def dk {o i:Expr}{to T:TE}{t:J2}(f:PE X o to)(g:PE X i T)(e:Vb X t)
  (j:∀v,assign (.Subscript o i p6) X.env v=(do
   let ov <- holding [v] (eval o X.env)
   let iv <- holding [v,ov] (eval i X.env)
   standAt p6
   holding [v,ov,iv] (setItem ov iv v)
   release [v,ov,iv] []):=by intro _;rfl):PG X (.Subscript o i p6) (yP to T t):=by
 intro P s B H v u Q I r h;rw[j];refine cj (wpAny_holding (qf (f P s B H _ I h) λov C ⟨x,D,p,b,d⟩=>?_));refine cj (wpAny_holding (qf (g P C B D _ p d) λiv S ⟨y,A,n,a,c⟩=>?_));refine cj (wpAny_standAt (cj (wpAny_holding (qf (e P S B A x y v ov iv u _ n b a r c) λ_ E ⟨w,l,q⟩=>?_))));exact wpAny_release ⟨B,w,l,q⟩
def Vg (t:TE)(g:TG):TS:=λD a H=>t a H λx h=>g x a h D.nx
def L4 {t:TE}{g:TG}(d:PE X e t)(b:PG X tg g)(a:swapsWithSole [tg] e p6.line X.env=pure false:=by rfl)(w:swappedStores [tg] e X.env=pure none:=by rfl)
  (f:(assignEach [tg] X.env).map (·.2)=[assign tg X.env]:=by rfl):PS X (.Assign [tg] e p6) (Vg t g):=by
 intro p s c H D I h;refine wpAny_Assign_stores (qf (d p s c H _ I h) λv S ⟨x,j,i,r,Q⟩=>?_) a w;rw[f];exact qf (b p S c j x v _ i r Q) λ_ l q=>q
def dm {t:TE}{p:Pos}(d:X.N.Nodup)(c:X.N[i]? =some x)(a:Loc X.env.scope x)(n:PE X e t)(b:swapsWith e (some (.Name x p)) p6.line X.env=pure false:=by rfl)(l:X.fn x=true∨X.env.scope.names.lookup x=some .local:=by first|exact .inl rfl|exact .inr rfl|assumption):
  PS X (.Assign [.Name x p] e p6) (Vg t (XT i)):=by
 intro P s j H D I h;refine wpAny_Assign_Name (qf (n P s j H _ I h) λv u ⟨y,o,g,r,q⟩=>?_) b;exact YE g d c a r (λS f=>⟨_,o,f,q⟩) l
def dr (i j:Nat)(t:TA):TS:=λD a H=>t a H λb h=>∃v w,b=[v,w]/\D.nx ((a.set i (some v)).set j (some w)) h
def dt {j:Nat}{y:Str}{a b:Expr}{t:TA}{P py pt:Pos}{kt k2 pt2}(S:X.calm=true)(l:X.N.Nodup)(M:X.N[i]? =some x)(L:X.N[j]? =some y)(d:i≠j)
  (g:X.env.scope.names.lookup x=some .local)(f:X.env.scope.names.lookup y=some .local)(T:PA X [a,b] t)
  (hw:swappedStores [.Tuple [.Name x P,.Name y py] kt pt] (.Tuple [a,b] k2 pt2) X.env=pure (some [x,y]))
  (K:swapsWithSole [.Tuple [.Name x P,.Name y py] kt pt] (.Tuple [a,b] k2 pt2) p6.line X.env=pure false:=by rfl):
  PS X (.Assign [.Tuple [.Name x P,.Name y py] kt pt] (.Tuple [a,b] k2 pt2) p6) (dr i j t):=by
 intro p4 s σ H D I h;rw[exec_Assign_arm];refine cj (wpAny_standAt ?_);rw[K];refine cj (cm ?_);rw[aj (by decide)]
 refine cj (Tuple_ (qf (T _ p4 s σ H _ I h) λus s1 ⟨vs,H1,I1,C,Q⟩=>?_));obtain⟨v,w,Y,Q⟩:=Q;subst Y;obtain⟨U,u,rfl,B,r⟩:∃U u,us=[U,u]/\RelV v U/\RelV w u:=by
  cases C with
  |cons p q=>
   cases q with
   |cons J E=>
    cases E;exact⟨_,_,rfl,p,J⟩
 refine wpAny_newObj_type ?_ (by show 2<=sizeLine;decide)
 have I2:Inv X p4 σ H1 { s1 with heap:=s1.heap.push { cls:=.type "tuple",data:=.seq [U,u].toArray } }:=I1.kept (t':=s1.toks) λb o e=>af _ e
 rw[hw];refine cj (cm ?_);show wpAny (model X.prog X.w) X.A (do rule "assign.swapped-stores";let items <- unpackItems (.ref s1.heap.objs.size) 2 none;assignInOrder [λv=>bindName X.env y v,λv=>bindName X.env x v] items.reverse;pure Flow.next) _ _ _
 refine cj (wpAny_rule (cj (unpackItems_tuple (items:=#[U,u]) (I.ok.hd S) (IsTup.new s1.heap _) λh' c=>?_)));have I3:=I2.kept (h':=h') (t':=s1.toks) λb o e=>c b o (aO (aM e)) e;show wpAny _ _ (assignInOrder [λv=>bindName X.env y v,λv=>bindName X.env x v] [u,U] >>= λ_=>pure Flow.next) _ _ _;refine cj (assignInOrder_cons (wpAny_bindName (YE I3 l L (.inl f) r (λs2 Z=>?_) (.inr f))));refine assignInOrder_cons (wpAny_bindName (YE Z l M (.inl g) B (λs3 n=>assignInOrder_nil (cm ?_)) (.inr g)));rw[List.set_comm _ _ (Ne.symm d)]at n;exact⟨_,H1,n,Q⟩
def du (to g e:TE)(T:V->V->Hp->VK->Prop)(p:Vm)(t:J2):TS:=λD f H=>to f H λo j=>g f j λi d=>T o i d λx c=>e f c λy b=>p x y b λz a=>t o i z a λh=>D.nx f h
def Hg (X:Cx)(t:V->V->Hp->VK->Prop):Prop:=
 ∀(p4:bU)(s:Shared)(σ:St)(H:Hp)(o i:V)(v I:Value)(Q:VK),Inv X p4 σ H s->RelV o v->RelV i I->t o i H Q->
  wpAny (model X.prog X.w) X.A (getItem v I) (EP X p4 σ Q) X.xe s
def dv {o i:Expr}{to ti c:TE}{T:V->V->Hp->VK->Prop}{p:Vm}{t:J2}{op:Operator}(y:PE X o to)(A:PE X i ti)(B:Hg X T)(he:PE X e c)(x:HM X op p)(w:Vb X t)
  (C:∀a b new,augStore i a b new=(do holding [new,a,b] (setItem a b new);release [new,a,b] [];pure .next):=by intros;rfl):PS X (.AugAssign (.Subscript o i q5) op e p6) (du to ti c T p t):=by
 intro p4 s σ H D I h;refine wpAny_AugAssign_SubscriptAny (qf (y p4 s σ H _ I h) λa s1 ⟨x1,H1,N,d,u⟩=>?_) C;refine qf (A p4 s1 σ H1 _ N u) λb s2 ⟨x2,Z,M,r,n⟩=>?_;refine qf (B p4 s2 σ Z x1 x2 a b _ M d r n) λold s3 ⟨x3,Y,L,g,l⟩=>?_;refine qf (he p4 s3 σ Y _ L l) λv s4 ⟨x4,U,K,r4,j⟩=>?_;refine qf (x p4 s4 σ U x3 x4 old v _ K g r4 j) λnew s5 ⟨x5,S,J,f,Q⟩=>?_;exact qf (w p4 s5 σ S x1 x2 x5 a b new _ J d r f Q) λ_ s6 ⟨P,E,q⟩=>⟨σ,P,E,q⟩
def dw (f:Int->Int->Int):Vm:=λx y H Q=>∃i j,x=.int i/\y=.int j/\Q (.int (f i j)) H
def dy:HM X .Add (dw λi j=>i+j):=by
 intro p s b H x y v u Q I a r h;obtain⟨i,j,E,e,q⟩:=h;subst E;subst e;obtain⟨t,rfl⟩:=a;obtain⟨T,rfl⟩:=r;exact iadd_int ⟨.int _,H,I.tok _,⟨_,rfl⟩,q⟩
def dz (c:TT)(t:TS):TS:=λD d H=>∃W:Nat->St->Hp->Prop,(∃m,W m d H)/\∀m d H,W m d H->
 c d H λb e=>if b=true then ∃N:St->Hp->Prop,(∀a h,N a h->∃M,M<m/\W M a h)/\t { D with nx:=N,ct:=N,bk:=D.nx } d e else D.nx d e
def AR {c:Expr}{t:TT}{T:TS}(p:PassesOwn (model X.prog X.w) X.A X.env X.xe)(C:PT X c t)(E:ki X body T):PS X (.While c body [] p6) (dz t T):=by
 intro P s S H D I h;obtain⟨W,⟨m0,B⟩,turn⟩:=h;refine wpAny_While (codeAny_whileLoop (λn Z=>∃e x,Inv X P e x Z/\W n e x) ?_ m0 ⟨S,H,I,B⟩)
 rintro n Y ⟨d,L,J,y⟩
 refine wpAny_passesOwn p (qf (C P Y d L _ J (turn n d L y)) λb U ⟨u,r,Q⟩=>?_);cases b with
 |true=>
  obtain⟨N,o,Q⟩:=Q;rw[ah rfl];refine wpAny_passesOwn p (qf (E P U d u _ r Q) λf s3 q=>?_);cases f with
  |next=>
   obtain⟨a,g,l,j⟩:=q;obtain⟨M,K,i⟩:=o a g j;exact⟨M,K,a,g,l,i⟩
  |cont=>
   obtain⟨a,g,l,j⟩:=q;obtain⟨M,K,i⟩:=o a g j;exact⟨M,K,a,g,l,i⟩
  |brk=>exact q|ret v=>exact q
 |false=>
  rw[aj aF];exact wpAny_execs_nil ⟨d,u,r,Q⟩
end
structure It where
 go:Nat->Hp->Prop
 yld:Nat->Hp->V->Hp->Prop
 stop:Nat->Hp->Prop
def wL (X:Cx)(P:bU)(H:Hp)(b:Addr):Prop:=
 H b=none/\b≠X.env.locals/\b∉X.fs/\(b∈X.ex∨X.s0.heap.objs.size<=b)/\(∀x c,X.env.cells.lookup x=some c->c≠b)/\∀p∈X.pn++P,p.1≠b
def Inv.fpOk {X:Cx}{f:St}{H a:Hp}{s:Shared}(I:Inv X p4 f H s)(h:s.heap.objs.size<=b)(n:a b=none):wL X p4 a b:=by
 refine⟨n,ne_of_gt (aK I.lt h),I.nofs h,.inr (aY I.sz h),λx c e z=>?_,λp d z=>?_⟩
 ·obtain⟨v,q⟩:=I.cell x c e
  exact absurd (aK q.lt (by rw[z];exact h)) (aT _)
 ·exact absurd (aK (aM (I.pin p d).1) (by rw[z];exact h)) (aT _)
structure Turn (P:Program)(w:World)(K:Frag)(tg:Expr)(J:It)(fp:bT)(it:Addr)(tn:Nat->Heap->Prop):Prop where
 mem:it∈fp
 obj:∀i h,tn i h->∀b∈fp,∃o,h.get? b=some o/\∀v,o.data≠.cell v
 keep:∀i h h',tn i h->(∀b∈fp,∀o,h.get? b=some o->h'.get? b=some o)->tn i h'
 item:∀(X:Cx),X.prog=P->X.w=w->X.K=K->X.calm=true->∀(i:Nat)(p4:bU)(s:Shared)(σ:St)(H:Hp)(E:bY),Inv X p4 σ H s->(∀b∈fp,wL X p4 H b)->tn i s.heap->J.go i H->
  wpAny (model P w) X.A (pyNext (.ref it)) (λr s1=>∃u,r=some u/\
   wpAny (model P w) X.A (letOwnedTupleGo tg (.ref it) u) (λ_ s2=>∃x H',Inv X p4 σ H' s2/\RelV x u/\J.yld i H x H'/\tn (i+1) s2.heap/\∀b∈fp,H' b=none) E s1) E s
 done:∀(X:Cx),X.prog=P->X.w=w->X.K=K->X.calm=true->∀(i:Nat)(p4:bU)(s:Shared)(σ:St)(H:Hp)(E:bY),Inv X p4 σ H s->(∀b∈fp,wL X p4 H b)->tn i s.heap->J.stop i H->
  wpAny (model P w) X.A (pyNext (.ref it)) (λr s1=>r=none/\Inv X p4 σ H s1) E s
 self:∀(A:Around)(i:Nat)(s:Shared)(Q:bY)(E:bY),tn i s.heap->Q (.ref it) s->wpAny (model P w) A (pyIter (.ref it)) Q E s
abbrev TI:=St->Hp->(It->Hp->Prop)->Prop
inductive HD (X:Cx)(p4:bU)(σ:St)(tg:Expr)(R:It->Hp->Prop)(itv:Value)(s2:Shared):Prop
 |mk (it:Addr) (fp:bT) (tn:Nat->Heap->Prop) (J:It) (H':Hp) (e:itv=.ref it) (I:Inv X p4 σ H' s2) (T:Turn X.prog X.w X.K tg J fp it tn) (t0:tn 0 s2.heap) (f:(∀b∈fp,wL X p4 H' b)) (q:R J H')
def PI (X:Cx)(t I:Expr)(i:TI):Prop:=
 ∀(p4:bU)(s:Shared)(σ:St)(H:Hp)(R:It->Hp->Prop),Inv X p4 σ H s->i σ H R->
  wpAny (model X.prog X.w) X.A (eval I X.env) (λv S=>wpAny (model X.prog X.w) X.A (pyIter v) (HD X p4 σ t R) X.xe S) X.xe s
def XM {A:Around}{s:Shared}{i:Addr}{o:Obj}{n:String}{v:Array Value}{Q:Unit->Shared->Prop}(a:s.heap.get? i=some o)(c:o.cls=.type n)(d:o.data=.fields v)
  (b:["enumerate","zip","dict_itemiterator","dict_reverseitemiterator","odict_iterator","itertools.zip_longest","itertools.pairwise"].contains n=false)(H:Q () s):wpAny M A (letOwnedTupleGo tg (.ref i) u) Q E s:=by
 unfold letOwnedTupleGo;cases tg<;>first
  |exact cm H
  |(cases u<;>first
    |exact cm H
    |(
      refine cj (wpAny_load a ?_);rw[c,d];show wpAny M A (if (["enumerate","zip","dict_itemiterator","dict_reverseitemiterator","odict_iterator","itertools.zip_longest","itertools.pairwise"].contains n&&v[0]?==some (rawInt _))=true then _ else _) Q E s;rw[aj (by intro h;rw[b,Bool.false_and]at h;cases h)]
      exact cm H))
noncomputable def HR (K:Frag)(a:Addr):It:=
 ⟨λi H=>∃X x,jm K H a X/\X[i]? =some x,λi H x h=>h=H/\∀X,jm K H a X->X[i]? =some x,λi H=>∃X,jm K H a X/\X.length<=i⟩
noncomputable def HP (K:Frag)(a:Addr):It:=
 ⟨λi H=>∃X x,qK K H a X/\X[i]? =some x,λi H x h=>h=H/\∀X,qK K H a X->X[i]? =some x,λi H=>∃X,qK K H a X/\X.length<=i⟩
noncomputable def W9 (l:Int)(n:Nat):It:=⟨λi _=>i<n,λi H x h=>h=H/\x=.int (l+i),λi _=>n<=i⟩
def BH {K:Frag}(a Z:Addr):Turn P w K tg (HR K a) [Z] Z (λi h=>h.IsListIter Z a i) where
 mem:=by simp
 obj:=λi h U b f=>by
  have e:b=Z:=by simpa using f
  subst e;obtain⟨o,e,c,d⟩:=U;exact⟨o,e,λv z=>by rw[d]at z;cases z⟩
 keep:=λi h h' U k=>U.at λo e=>k Z (by simp) o e
 item:=by
  intro X n hw t B i Y s σ H E I hf U l;subst n hw t;obtain⟨xs,x,q,j⟩:=l;obtain⟨g,r,p,J⟩:=I.list q;obtain⟨u,M,D⟩:=r.get j;obtain⟨f0,f1,f2,A,f4,y⟩:=hf Z (by simp)
  refine wpAny_pyNext_list_item U p.isList (x:=u) (by simpa using M) λh' S C=>?_
  have Q:Inv X Y σ H { s with heap:=h' }:=I.turned (t':=s.toks) (λb o f e=>(C.2 b f).trans e) f0 f1 A f4 y
  obtain⟨o,e,c,d⟩:=id S;exact⟨u,rfl,XM (s:={ s with heap:=h' }) e c d (by decide) ⟨x,H,Q,D,⟨rfl,λys L=>by rw[I.list_inj L q];exact j⟩,S,λb f=>(hf b f).1⟩⟩
 done:=by
  intro X n hw t B i Y s σ H E I hf U l;subst n hw t;obtain⟨xs,q,j⟩:=l;obtain⟨g,r,p,J⟩:=I.list q;obtain⟨f0,f1,f2,A,f4,y⟩:=hf Z (by simp)
  have T:=r.length;exact wpAny_pyNext_list_end (I.ok.hd B) U p.isList (by simp;omega) λh' N=>⟨rfl,I.turned (t':=s.toks) (λb o f e=>N b o f e) f0 f1 A f4 y⟩
 self:=λ_ _ _ _ _ U h=>wpAny_pyIter_listiter U h
def C4 {K:Frag}(a Z:Addr):Turn P w K tg (HP K a) [Z] Z (λi h=>h.IsTupleIter Z a i) where
 mem:=by simp
 obj:=λi h U b g=>by
  have e:b=Z:=by simpa using g
  subst e;obtain⟨o,e,c,d⟩:=U;exact⟨o,e,λv z=>by rw[d]at z;cases z⟩
 keep:=λi h h' U k=>U.at λo e=>k Z (by simp) o e
 item:=by
  intro X n hw t B i Y s σ H E I hf U l;subst n hw t;obtain⟨xs,x,q,j⟩:=l;obtain⟨f,r,p,J⟩:=I.tuple q;obtain⟨u,M,D⟩:=r.get j;obtain⟨f0,f1,f2,A,f4,y⟩:=hf Z (by simp)
  refine wpAny_pyNext_tuple_item U (show s.heap.IsTuple a f.toArray from p) (x:=u) (by simpa using M) λh' S C=>?_
  have Q:Inv X Y σ H { s with heap:=h' }:=I.turned (t':=s.toks) (λb o g e=>(C.2 b g).trans e) f0 f1 A f4 y
  obtain⟨o,e,c,d⟩:=id S;exact⟨u,rfl,XM (s:={ s with heap:=h' }) e c d (by decide) ⟨x,H,Q,D,⟨rfl,λys L=>by rw[I.tuple_inj L q];exact j⟩,S,λb g=>(hf b g).1⟩⟩
 done:=by
  intro X n hw t B i Y s σ H E I hf U l;subst n hw t;obtain⟨xs,q,j⟩:=l;obtain⟨f,r,p,J⟩:=I.tuple q;obtain⟨f0,f1,f2,A,f4,y⟩:=hf Z (by simp)
  have T:=r.length;exact wpAny_pyNext_tuple_end (I.ok.hd B) U (show s.heap.IsTuple a f.toArray from p) (by simp;omega) λh' N=>⟨rfl,I.turned (t':=s.toks) (λb o g e=>N b o g e) f0 f1 A f4 y⟩
 self:=λ_ _ _ _ _ U h=>wpAny_pyIter_tupleiter U h
def CJ {K:Frag}(y:Addr)(L:Int)(n:Nat):Turn P w K tg (W9 L n) [y] y (λi h=>IsRangeIter h y (L+(i:Nat) * 1) ((n:Int)-(i:Nat)) 1) where
 mem:=by simp
 obj:=λi h u b a=>by
  have e:b=y:=by simpa using a
  subst e;exact⟨_,u,λv z=>by
   have Z:Data.fields _=Data.cell v:=z;cases Z⟩
 keep:=λi h B u k=>k y (by simp) _ u
 item:=by
  intro X d C f c i x s N H E I A u g;subst d C f;obtain⟨M,J,U,l,D,j⟩:=A y (by simp)
  have W:=Walks.range (prog:=X.prog) (w:=X.w) (I.ok.hd c) y L 1 n;refine W.item i s _ _ g u λv B T p S Q=>?_;obtain⟨t,rfl⟩:=p;have r:Inv X x N H { s with heap:=B,toks:=T }:=I.turned (λb o a e=>Q b o (by simpa using a) e) M J l D j
  refine⟨_,rfl,XM (s:={ s with heap:=B,toks:=T }) (n := "range_iterator") S rfl rfl (by decide) ⟨.int (L+i),H,r,⟨t,?_⟩,⟨rfl,rfl⟩,S,λb a=>(A b a).1⟩⟩
  rw[Int.mul_one]
 done:=by
  intro X d C f c i x s N H E I A u g;subst d C f;obtain⟨M,J,U,l,D,j⟩:=A y (by simp)
  exact wpAny_pyNext_range_end (I.ok.hd c) u (by have:n<=i:=g;omega) λB q=>⟨rfl,I.turned (t':=s.toks) (λb o a e=>q b o a e) M J l D j⟩
 self:=λ_ _ _ _ _ u h=>wpAny_pyIter_rangeiter u h
section
variable {X:Cx}
def NQ {j:St}{H:Hp}{s:Shared}{R:It->Hp->Prop}{l h:Int}{t u v:Tok}{T:Nat}(I:Inv X p4 j H s)(p:-(2 ^ 62)<=l)(n:l<2 ^ 62)(d:-(2 ^ 62)<=h)(c:h<2 ^ 62)
  (q:R (W9 l (h-l).toNat) H):wpAny (model X.prog X.w) X.A (pyIter (.ref s.heap.objs.size)) (HD X p4 j tg R) E { s with heap:=s.heap.push { cls:=.type "range",data:=.fields #[.int l t,.int h u,.int 1 v] },toks:=T }:=by
 refine wpAny_pyIter_range (IsRange.new ..) (small_one p n d c) ?_;have i:Inv X p4 j H { s with heap:=s.heap.push { cls:=.type "range",data:=.fields #[.int l t,.int h u,.int 1 v] },toks:=T }:=I.kept λb o e=>af _ e
 refine⟨(s.heap.push { cls:=.type "range",data:=.fields #[.int l t,.int h u,.int 1 v] }).objs.size,[(s.heap.push { cls:=.type "range",data:=.fields #[.int l t,.int h u,.int 1 v] }).objs.size],_,_,H,rfl,
  i.kept (t':=T) λb o e=>af _ e,CJ _ l (h-l).toNat,?_,λb a=>?_,q⟩
 ·have g:l+((0:Nat):Int) * 1=l:=by simp
  have f:(((h-l).toNat:Nat):Int)-((0:Nat):Int)=Builtin.Range.rangeSize l h 1:=by rw[rangeSize_one];split<;>omega
  show IsRangeIter _ _ (l+((0:Nat):Int) * 1) ((((h-l).toNat:Nat):Int)-((0:Nat):Int)) 1;rw[g,f];exact aC _ rfl
 ·have e:b=(s.heap.push { cls:=.type "range",data:=.fields #[.int l t,.int h u,.int 1 v] }).objs.size:=by simpa using a
  subst e;exact i.fpOk (aq _) (i.hok.fresh (aq _))
def dA (t:TA):TI:=λa H R=>t a H λv h=>∃j:Int,v=[.int j]/\-(2 ^ 62)<=j/\j<2 ^ 62/\R (W9 0 j.toNat) h
def dB (t:TA):TI:=λa H R=>t a H λv h=>∃i j:Int,v=[.int i,.int j]/\(-(2 ^ 62)<=i/\i<2 ^ 62/\-(2 ^ 62)<=j/\j<2 ^ 62)/\R (W9 i (j-i).toNat) h
def Ac {a:Expr}{T:TA}(g:Gl X "range")(o:X.mg "range"=none)(i:PA X [a] T)(f:starEach [a] X.env=[(false,eval a X.env)]:=by rfl):PI X tg (.Call (.Name "range" p) [a] [] p6) (dA T):=by
 intro P s n H R I h;refine Call_ (QA I g o boot_range (PyProof.Rows.callWith_type1 (qf (i p6 P s n H _ I h) λu S ⟨v,w,l,c,Q⟩=>?_) f rfl));obtain⟨j,e,Q,d,q⟩:=Q;subst e;cases c with
 |cons r b=>
  cases b;obtain⟨t,rfl⟩:=r;exact call_range_1 (NQ l (by omega) (by omega) Q d (by simpa using q))
def Bm {a b:Expr}{T:TA}(v:Gl X "range")(A:X.mg "range"=none)(w:PA X [a,b] T)(u:starEach [a,b] X.env=[(false,eval a X.env),(false,eval b X.env)]:=by rfl)(c:starEach [b] X.env=[(false,eval b X.env)]:=by rfl):
  PI X tg (.Call (.Name "range" p) [a,b] [] p6) (dB T):=by
 intro P s y H R I h;refine Call_ (QA I v A boot_range (PyProof.Rows.callWith_type1 (qf (w p6 P s y H _ I h) λU S ⟨B,D,x,f,Q⟩=>?_) (by rw[u,c]) (by rw[c];rfl)))
 obtain⟨i,j,e,⟨Q,o,n,l⟩,q⟩:=Q;subst e;cases f with
 |cons r d=>
  cases d with
  |cons g d=>
   cases d;obtain⟨t,rfl⟩:=r;obtain⟨C,rfl⟩:=g;exact call_range_2 (NQ x Q o n l q)
def dC (w:TI)(g:TG)(t:TS):TS:=λD d H=>w d H λJ e=>∃W:Nat->Nat->St->Hp->Prop,(∃m,W 0 m d e)/\∀i m d H,W i m d H->
 (J.stop i H/\D.nx d H)∨(J.go i H/\∃N:St->Hp->Prop,(∀a h,N a h->∃M,M<m/\W (i+1) M a h)/\∀x h,J.yld i H x h->g x d h λb c=>t { D with nx:=N,ct:=N,bk:=D.nx } b c)
noncomputable def Wz (f:bT)(h:Heap):bU:=f.filterMap λb=>(h.get? b).map λo=>(b,o)
def GL {o:Obj}(H:b∈fp)(e:h.get? b=some o):(b,o)∈Wz fp h:=List.mem_filterMap.mpr ⟨b,H,by rw[e];rfl⟩
def Bn {p:Addr×Obj}(H:p∈Wz fp h):p.1∈fp/\h.get? p.1=some p.2:=by
 obtain⟨b,a,e⟩:=List.mem_filterMap.mp H;cases q:h.get? b with
 |none=>rw[q]at e;cases e|some o=>
  rw[q]at e;have E:(b,o)=p:=aI e;subst E;exact⟨a,q⟩
def Inv.pinned {f:St}{H:Hp}{s:Shared}(I:Inv X p4 f H s)(g:∀b∈fp,wL X p4 H b)(c:∀b∈fp,∃o,s.heap.get? b=some o/\∀v,o.data≠.cell v):Inv X (p4++Wz fp s.heap) f H s:=
 I.pins_of λp a=>(cB.mp a).elim (λz=>I.pin p (aQ _ z)) λz=>by
  obtain⟨h,e⟩:=Bn z;obtain⟨l,j,i,_⟩:=g p.1 h;obtain⟨o,E,d⟩:=c p.1 h;rw[e]at E;cases E;exact⟨e,l,j,i,d⟩
def Inv.unpinned {P:bU}{a:St}{H:Hp}{s:Shared}(I:Inv X (p4++P) a H s):Inv X p4 a H s:=I.pins_of λp h=>I.pin p (aQ _ (br _ h))
def dD {Y:TI}{g:TG}{tb:TS}(B:PassesOwn (model X.prog X.w) X.A X.env X.xe)(hc:X.calm=true)(hi:PI X tg p8 Y)(hg:PG X tg g)(l:ki X body tb)
  (hs:∀x,foldedSetIterable p8 X.env x=pure x:=by intro _;rfl):PS X (.For tg p8 body [] p6) (dC Y g tb):=by
 intro p4 s σ H D I h;refine wpAny_For (qf (hi p4 s σ H _ I h) λv s1 h1=>qf h1 λitv s2 h2=>?_) hs;obtain⟨it,fp,Z,J,H2,e,I2,T,Zl,f2,W,⟨m0,w0⟩,turn⟩:=h2;subst e;have S:∀{H':Hp},(∀b∈fp,H' b=none)->∀b∈fp,wL X p4 H' b:=λhn b l=>⟨hn b l,(f2 b l).2⟩;refine codeAny_forLoop_any (λn s'=>∃i j H',Inv X p4 j H' s'/\Z i s'.heap/\(∀b∈fp,H' b=none)/\W i n j H') ?_ m0 ⟨0,σ,H2,I2,Zl,λb l=>(f2 b l).1,w0⟩
 rintro n s3 ⟨i,c,E,I3,ZV,C,w3⟩
 rcases turn i n c E w3 with ⟨stop,qn⟩|⟨go,N,hN,step⟩
 ·refine wpAny_passesOwn B (qf (T.done X rfl rfl rfl hc i p4 s3 c E X.xe I3 (S C) ZV stop) λr s4 ⟨M,I4⟩=>?_)
  subst M;exact wpAny_execs_nil ⟨c,E,I4,qn⟩
 ·refine wpAny_passesOwn B (qf (T.item X rfl rfl rfl hc i p4 s3 c E X.xe I3 (S C) ZV go) λr s4 ⟨u,M,h4⟩=>?_)
  subst M;refine wpAny_passesOwn B (qf h4 λ_ s5 ⟨x,H5,I5,r5,y5,t,P⟩=>?_);have U:=I5.pinned (S P) (T.obj _ _ t);refine wpAny_passesOwn B (qf (hg _ s5 c H5 x u _ U r5 (step x H5 y5)) λ_ s6 ⟨K,H6,I6,q6⟩=>?_);refine wpAny_passesOwn B (qf (l _ s6 K H6 _ I6 q6) λf L Q=>?_);have again:∀{a:St}{q:Hp},Inv X (p4++Wz fp s5.heap) a q L->N a q->∃m,m<n/\∃i j H',Inv X p4 j H' L/\Z i L.heap/\(∀b∈fp,H' b=none)/\W i m j H':=λ {a q} p y=>by
   obtain⟨m',hm,w7⟩:=hN a q y;refine⟨m',hm,i+1,a,q,p.unpinned,T.keep _ _ _ t λb l o e=>(p.pin (b,o) (aQ _ (aQ _ (GL l e)))).1,λb l=>?_,w7⟩;obtain⟨o,e,d⟩:=T.obj _ _ t b l;exact(p.pin (b,o) (aQ _ (aQ _ (GL l e)))).2.1
  cases f with
  |next=>obtain⟨a,q,p,y⟩:=Q;exact again p y|cont=>obtain⟨a,q,p,y⟩:=Q;exact again p y|brk=>obtain⟨a,q,p,Q⟩:=Q;exact⟨a,q,p.unpinned,Q⟩|ret v=>obtain⟨x7,a,q,p,r7,Q⟩:=Q;exact⟨x7,a,q,p.unpinned,r7,Q⟩
end
abbrev R2:=V->V->Hp->VK->Prop
def q9 (X:Cx)(f:Value->Value->Sem Value)(r:R2):Prop:=
 ∀(p4:bU)(s:Shared)(σ:St)(H:Hp)(x y:V)(v u:Value)(Q:VK),Inv X p4 σ H s->RelV x v->RelV y u->r x y H Q->
  wpAny (model X.prog X.w) X.A (f v u) (EP X p4 σ Q) X.xe s
def Vz (X:Cx)(f:Value->Sem Value)(r:V->Hp->VK->Prop):Prop:=
 ∀(p4:bU)(s:Shared)(σ:St)(H:Hp)(x:V)(v:Value)(Q:VK),Inv X p4 σ H s->RelV x v->r x H Q->
  wpAny (model X.prog X.w) X.A (f v) (EP X p4 σ Q) X.xe s
def yJ (X:Cx)(f:Value)(r:List V->Hp->VK->Prop):Prop:=
 ∀(p4:bU)(s:Shared)(σ:St)(H:Hp)(xs:List V)(us:bS)(Q:VK),Inv X p4 σ H s->Vals xs us->r xs H Q->
  wpAny (model X.prog X.w) X.A (call f us) (EP X p4 σ Q) X.xe s
def Gf (r:R2)(T t:TE):TE:=λa H Q=>T a H λx b=>t a b λy h=>r x y h Q
def HN (r:V->Hp->VK->Prop)(t:TE):TE:=λa H Q=>t a H λx h=>r x h Q
def rI (C:Int->Int->Prop)(g:Int->Int->V):R2:=λx y H Q=>∃i j,x=.int i/\y=.int j/\C i j/\Q (g i j) H
def Zj (g:Int->Int->V):R2:=λx y H Q=>∃i j,x=.int i/\y=.int j/\Q (g i j) H
def rU (g:Int->V):V->Hp->VK->Prop:=λx H Q=>∃i,x=.int i/\Q (g i) H
section
variable {X:Cx}{a b:Expr}{ta tb:TE}
def Rt (j:PE X a ta)(i:PE X b tb){s:Shared}{o:St}{H:Hp}{R:V->V->Hp->Prop}(I:Inv X p4 o H s)
  (h:ta o H λx t=>tb o t λy c=>R x y c){f:Value->Value->Sem Value}
  (C:∀v u p x y c,Inv X p4 o c p->RelV x v->RelV y u->R x y c->wpAny (model X.prog X.w) X.A (f v u) Q X.xe p):
  wpAny (model X.prog X.w) X.A (eval a X.env) (λv d=>wpAny (model X.prog X.w) X.A (eval b X.env) (λu S=>wpAny (model X.prog X.w) X.A (f v u) Q X.xe S) X.xe d) X.xe s:=by
 refine qf (j p4 s o H _ I h) λv B ⟨x,t,n,e,g⟩=>?_;refine qf (i p4 B o t _ n g) λu p ⟨y,c,l,r,q⟩=>?_;exact C v u p x y c l e r q
def dE {j:Operator}{r:R2}(o:q9 X (binaryOp j) r)(f:PE X a ta)(e:PE X b tb):PE X (.BinOp a j b p6) (Gf r ta tb):=by
 intro p s l H Q I h;exact wpAny_BinOp (Rt f e I h λv u S x y g i d c q=>o p S l g x y v u Q i d c q)
def IQ {e:UnaryOp}{r:V->Hp->VK->Prop}(o:Vz X (unaryOp e) r)(c:PE X a ta):PE X (.UnaryOp e a p6) (HN r ta):=by
 intro p s d H Q I h;exact UnaryOp_ (qf (c p s d H _ I h) λv S ⟨x,f,i,b,q⟩=>o p S d f x v Q i b q)
def Kr {f:Value->Value->Sem Value}{C:Int->Int->Prop}{g:Int->Int->Int}
  (e:∀(i j:Int)(t u:Tok)(s:Shared)(Q:bY)(E:bY),C i j->Q (.int (g i j) s.toks) { s with toks:=s.toks+1 }->wpAny (model X.prog X.w) X.A (f (.int i t) (.int j u)) Q E s):
  q9 X f (rI C λi j=>.int (g i j)):=by
 intro p s b H x y v u Q I a r h;obtain⟨i,j,rfl,rfl,c,q⟩:=h;obtain⟨t,rfl⟩:=a;obtain⟨T,rfl⟩:=r;exact e i j t T s _ _ c ⟨.int (g i j),H,I.tok _,⟨_,rfl⟩,q⟩
def X4 {f:Value->Value->Sem Value}{g:Int->Int->Int}
  (e:∀(i j:Int)(t u:Tok)(s:Shared)(Q:bY)(E:bY),Q (.int (g i j) s.toks) { s with toks:=s.toks+1 }->wpAny (model X.prog X.w) X.A (f (.int i t) (.int j u)) Q E s):
  q9 X f (Zj λi j=>.int (g i j)):=by
 intro p s b H x y v u Q I a r h;obtain⟨i,j,rfl,rfl,q⟩:=h;obtain⟨t,rfl⟩:=a;obtain⟨T,rfl⟩:=r;exact e i j t T s _ _ ⟨.int (g i j),H,I.tok _,⟨_,rfl⟩,q⟩
def X8 {f:Value->Value->Sem Value}{g:Int->Int->Bool}
  (e:∀(i j:Int)(t u:Tok)(s:Shared)(Q:bY)(E:bY),Q (.bool (g i j)) s->wpAny (model X.prog X.w) X.A (f (.int i t) (.int j u)) Q E s):
  q9 X f (Zj λi j=>.bl (g i j)):=by
 intro p s b H x y v u Q I a r h;obtain⟨i,j,rfl,rfl,q⟩:=h;obtain⟨t,rfl⟩:=a;obtain⟨T,rfl⟩:=r;exact e i j t T s _ _ ⟨.bl (g i j),H,I,rfl,q⟩
def Rg (i j:Int):Prop:=0<=j/\j<=1000000/\i.natAbs<2 ^ 64
def W4 (i j:Int):Prop:=(-(2 ^ 64)<i/\i<2 ^ 64)∨(-(2 ^ 64)<j/\j<2 ^ 64)∨i.natAbs<2 ^ 256/\j.natAbs<2 ^ 256
def W4.ok {i j:Int}(h:W4 i j):IntMulOk i j:=by
 rcases h with ⟨a,H⟩|⟨a,H⟩|⟨a,H⟩
 ·exact .of_left (intBits_le_64 a H)
 ·exact .of_right (intBits_le_64 a H)
 ·exact .of_le (PySem.intBits_le_iff.mpr a) (PySem.intBits_le_iff.mpr H) (by decide)
def two_pow_nn (k:Nat):(0:Int)<=2 ^ k:=by
 rw[two_pow_cast];exact Int.natCast_nonneg _
def dF:q9 X (binaryOp .Add) (Zj λi j=>.int (i+j)):=X4 λ_ _ _ _ _ _ _ q=>add_int q
def dG:q9 X (binaryOp .Sub) (Zj λi j=>.int (i-j)):=X4 λ_ _ _ _ _ _ _ q=>sub_int q
def dH:q9 X (binaryOp .Mult) (rI W4 λi j=>.int (i * j)):=Kr λ_ _ _ _ _ _ _ h q=>mul_int q h.ok
def dI:q9 X (binaryOp .Mod) (rI (λ_ j=>0<j) λi j=>.int (i%j)):=Kr λi j _ _ _ _ _ h q=>by
 have H:(0:Int)<j:=h;exact mod_int' (by omega) (by rw[Int.fmod_eq_emod_of_nonneg i (by omega)];exact q)
def dJ:q9 X (binaryOp .Pow) (rI Rg λi j=>.int (i ^ j.toNat)):=Kr λ_ _ _ _ _ _ _ h q=>pow_int_small h.1 h.2.1 h.2.2 q
def dM:q9 X (binaryOp .LShift) (rI Rg λi j=>.int (i * 2 ^ j.toNat)):=Kr λ_ _ _ _ _ _ _ h q=>lshift_int_small h.1 h.2.1 h.2.2 q
def dN:q9 X (binaryOp .RShift) (rI (λ_ j=>0<=j) λi j=>.int (i/2 ^ j.toNat)):=Kr λi j _ _ _ _ _ h q=>
 rshift_int h (by rw[Int.fdiv_eq_ediv_of_nonneg i (two_pow_nn _)];exact q)
def dO:q9 X (binaryOp .BitAnd) (Zj λi j=>.int (Builtin.bitAnd i j)):=X4 λ_ _ _ _ _ _ _ q=>and_int q
def dP:q9 X (binaryOp .BitXor) (Zj λi j=>.int (Builtin.bitXor i j)):=X4 λ_ _ _ _ _ _ _ q=>xor_int q
def dQ {f:Value->Sem Value}{g:Int->Int}
  (e:∀(i:Int)(t:Tok)(s:Shared)(Q:bY)(E:bY),Q (.int (g i) s.toks) { s with toks:=s.toks+1 }->wpAny (model X.prog X.w) X.A (f (.int i t)) Q E s):
  Vz X f (rU λi=>.int (g i)):=by
 intro p s a H x v Q I r h;obtain⟨i,rfl,q⟩:=h;obtain⟨t,rfl⟩:=r;exact e i t s _ _ ⟨.int (g i),H,I.tok _,⟨_,rfl⟩,q⟩
def Ll:Vz X (unaryOp .USub) (rU λi=>.int (-i)):=dQ λ_ _ _ _ _ q=>neg_int q
variable {c:Expr}{tc:TE}
def dR {a:St}{H:Hp}{s:Shared}{Q:VK}{k K:Bool}(I:Inv X p4 a H s)(q:Q (.bl k) H)(e:k=K):EP X p4 a Q (.bool K) s:=by
 subst e;exact⟨.bl k,H,I,rfl,q⟩
def dS:q9 X (compareOp .Lt) (Zj λi j=>.bl (decide (i<j))):=X8 λ_ _ _ _ _ _ _ q=>lt_int q
def dU:q9 X (compareOp .LtE) (Zj λi j=>.bl (decide (i<=j))):=X8 λ_ _ _ _ _ _ _ q=>le_int q
def dV:q9 X (compareOp .Gt) (Zj λi j=>.bl (decide (j<i))):=X8 λ_ _ _ _ _ _ _ q=>gt_int q
def dW:q9 X (compareOp .GtE) (Zj λi j=>.bl (decide (j<=i))):=X8 λ_ _ _ _ _ _ _ q=>ge_int q
def dX:q9 X (compareOp .IsNot) (λx y H Q=>y=.non/\Q (.bl (!decide (x=.non))) H):=by
 intro p s b H x y v u Q I r a h;obtain⟨rfl,q⟩:=h;cases a;refine isnot_none_gen (dR I q ?_);cases x<;>first
  |(cases r;rfl)
  |(obtain⟨t,rfl⟩:=r;rfl)
def q9.or {f:Value->Value->Sem Value}{r c:R2}(h:q9 X f r)(e:q9 X f c):q9 X f (λx y H Q=>r x y H Q∨c x y H Q):=by
 intro p s d H x y v u Q I b a q;rcases q with q|q
 ·exact h p s d H x y v u Q I b a q
 ·exact e p s d H x y v u Q I b a q
def dY {r:R2}(o:q9 X (compareOp op) r)(f:PE X a ta)(e:PE X b tb)(l:behindInMarks op b=false):PE X (.Compare a [op] [b] p6) (Gf r ta tb):=by
 intro p s j H Q I h;exact wpAny_Compare1 (Rt f e I h λv u S x y g i d c q=>o p S j g x y v u Q i d c q) l
def Ir (t:TE):TT:=λa H Q=>t a H λx h=>∃k,x=.bl k/\Q k h
def dZ {r:R2}(o:q9 X (compareOp op) r)(n:PE X a ta)(l:PE X b tb)(E:behindInMarks op b=false):PT X (.Compare a [op] [b] p6) (Ir (Gf r ta tb)):=by
 intro P s C H Q I h;refine wpAny_isTrue_Compare1 (qf (n P s C H _ I h) λv D ⟨x,J,w,g,j⟩=>qf (l P D C J _ w j) λu S ⟨y,B,t,f,i⟩=>
  qf (o P S C B x y v u _ t g f i) λc K ⟨z,A,p,d,k,e,q⟩=>?_) E
 subst e;cases d;exact wpAny_truthy_bool ⟨A,p,q⟩
def Sl (r b:R2)(a T t:TE):TE:=λe H Q=>a e H λx f=>T e f λy d=>r x y d λz h=>∃k,z=.bl k/\
 (if k=true then t e h λw c=>b y w c Q else Q (.bl false) h)
def Av {o:CmpOp}{r i:R2}(C:q9 X (compareOp op) r)(f:q9 X (compareOp o) i)(J:PE X a ta)(E:PE X b tb)(D:PE X c tc)
  (hm:lastMarks [op,o] [b,c]=false:=by with_unfolding_all rfl):PE X (.Compare a [op,o] [b,c] p6) (Sl r i ta tb tc):=by
 intro S s T H Q I h;refine Compare_chain (qf (J S s T H _ I h) λv s1 ⟨x,H1,M,p,B⟩=>chain_link (qf (E S s1 T H1 _ M B) λu s2 ⟨y,P,L,g,A⟩=>
  qf (C S s2 T P x y v u _ L p g A) λd Y ⟨z,l,j,n,k,e,q⟩=>?_)) hm
 subst e;cases n;refine wpAny_truthy_bool ?_;cases k with
 |false=>exact ite_ff ⟨.bl false,l,j,rfl,q⟩|true=>exact ite_tt (chain_last (qf (D S Y T l _ j q) λw U ⟨Z,N,K,r4,t⟩=>f S U T N y Z u w Q K g r4 t))
def d0 {o:CmpOp}{r i:R2}(J:q9 X (compareOp op) r)(f:q9 X (compareOp o) i)(M:PE X a ta)(L:PE X b tb)(K:PE X c tc)
  (hm:lastMarks [op,o] [b,c]=false:=by with_unfolding_all rfl):PT X (.Compare a [op,o] [b,c] p6) (Ir (Sl r i ta tb tc)):=by
 intro p4 s σ H Q I h;refine isTrue_chain (qf (M p4 s σ H _ I h) λv s1 ⟨x,H1,Y,t,D⟩=>test_link (qf (L p4 s1 σ H1 _ Y D) λu s2 ⟨y,H2,U,g,C⟩=>
  qf (J p4 s2 σ H2 x y v u _ U t g C) λd s3 ⟨z,l,j,p,k,e,q⟩=>?_)) hm
 subst e;cases p;refine wpAny_truthy_bool ?_;cases k with
 |false=>
  obtain⟨k',P,E⟩:=q;cases P;exact ite_ff ⟨l,j,E⟩
 |true=>
  refine ite_tt (test_last (qf (K p4 s3 σ l _ j q) λw s4 ⟨Z,H4,T,r4,B⟩=>qf (f p4 s4 σ H4 y Z u w _ T g r4 B) λd' s5 ⟨z2,H5,S,n,k2,N,A⟩=>?_));subst N;cases n;exact wpAny_truthy_bool ⟨H5,S,A⟩
def YT:(sizeLine:Nat)<2 ^ 63:=by rw[sizeLine_eq];decide
def vals1 {x:V}(r:Vals [x] us):∃u,us=[u]/\RelV x u:=by
 cases r with
 |cons b a=>cases a;exact⟨_,rfl,b⟩
def vals2 {x y:V}(r:Vals [x,y] us):∃u w,us=[u,w]/\RelV x u/\RelV y w:=by
 cases r with
 |cons c b=>
  cases b with
  |cons a d=>cases d;exact⟨_,_,rfl,c,a⟩
def Ag (c:X.calm=true):yJ X (.builtin "max") (λxs H Q=>∃i j,xs=[.int i,.int j]/\Q (.int (if j > i then j else i)) H):=by
 intro p s b H xs U Q I r h;obtain⟨i,j,rfl,q⟩:=h;obtain⟨u,w,rfl,⟨t,rfl⟩,⟨d,rfl⟩⟩:=vals2 r;refine max_two_ints (I.ok.hd c) λe T k=>⟨_,H,I.kept k,?_,q⟩
 by_cases a:j > i
 ·rw[ah a,ah a];exact⟨_,rfl⟩
 ·rw[aj a,aj a];exact⟨_,rfl⟩
def BE (c:X.calm=true):yJ X (.builtin "min") (λxs H Q=>∃i j,xs=[.int i,.int j]/\Q (.int (if j<i then j else i)) H):=by
 intro p s b H xs U Q I r h;obtain⟨i,j,rfl,q⟩:=h;obtain⟨u,w,rfl,⟨t,rfl⟩,⟨d,rfl⟩⟩:=vals2 r;refine min_two_ints (I.ok.hd c) λe T k=>⟨_,H,I.kept k,?_,q⟩
 by_cases a:j<i
 ·rw[ah a,ah a];exact⟨_,rfl⟩
 ·rw[aj a,aj a];exact⟨_,rfl⟩
def Br:yJ X (.type "int") (λxs H Q=>(∃i,xs=[.int i]/\Q (.int i) H)∨∃k,xs=[.bl k]/\Q (.int (if k then 1 else 0)) H):=by
 intro p s b H xs U Q I r h;rcases h with ⟨i,rfl,q⟩|⟨k,rfl,q⟩
 ·obtain⟨u,rfl,t,rfl⟩:=vals1 r
  exact call_int_int ⟨.int i,H,I,⟨_,rfl⟩,q⟩
 ·obtain⟨u,rfl,a⟩:=vals1 r
  cases a;exact call_int_bool ⟨.int (if k then 1 else 0),H,I.tok _,⟨_,rfl⟩,q⟩
end
structure Rc (h:Heap)(x dx C:Addr)(mA:b8):Prop where
 obj:h.get? x=some (instObj C dx)
 ns:h.Ns1 dx mA
 ne:dx≠x
def Bo {D:Addr}{M:b8}(n:h.Ns1 D M):∃d,h.get? D=some d/\∀name,lookIn name d=some (M name):=by
 obtain⟨o,E,p,c,i,f,_,g⟩:=n;refine⟨o,c,λname=>?_⟩;have e:=g name;unfold nsFind findBy at e;rw[<- Array.find?_toList]at e;unfold lookIn;rw[i];dsimp only
 split
 ·rename_i y q
  rw[q]at e;exact congrArg some e
 ·rename_i q
  rw[q]at e;have a:E.toList.any (·.refKey)=false:=by
   rw[List.any_eq_false];intro y b;obtain⟨z,t,H⟩:=f y (Array.mem_toList_iff.mp b);simp[DictEntry.refKey,H]
  have A:¬E.toList.any (·.refKey)=true:=by rw[a];exact aF
  rw[aj A];exact congrArg some e
def Rc.look {x d C:Addr}{M:b8}(I:Rc h x d C M):∃o,PySem.W.InstAt h x (instObj C d) C (some o)/\∀name,lookIn name o=some (M name):=
 let ⟨o,H,l⟩:=Bo I.ns
 ⟨o,⟨I.obj,rfl,rfl,H⟩,l⟩
def QN.some_of {v:V}{o:bW}(r:QN (some v) o):∃u,o=some u/\RelV v u:=by
 cases o with
 |none=>exact(show False from r).elim|some u=>exact⟨u,rfl,r⟩
section
variable {H:Hp}{C dx:Addr}{fs:List (Str×V)}
def d1 (b:jx P w H h)(e:H a=some (.ins C dx fs)):∃M,Rc h a dx C M/\(∀f,QN (fs.lookup f) (M f))/\PySem.Within M (fs.map (·.1))/\fs.length<=1000/\H dx=some (.own a):=by
 obtain⟨d,z,N,ob,M,n,r,q⟩:=(show jg P w H h a (.ins C dx fs) from b a _ e)
 exact⟨M,⟨ob,n,N⟩,r,q,z,d⟩
end
structure gm (K:Frag)(C:Addr):Prop where
 pg:plainGet K C Str.empty=true
 hd:PySem.W.hasDictIn K C=true
 po:PySem.W.plainOver K C=true
 sa:PySem.W.findIn K (.ref C) "__setattr__"=some (some (.builtin "object.__setattr__"))
def gm.get {K:Frag}{C:Addr}(c:gm K C)(f:Str):plainGet K C f=true:=c.pg
section
variable {X:Cx}{σ:St}{H:Hp}{s:Shared}{A:Around}{c:Value}{b:Bool}
inductive gQ (K:Frag)(H:Hp):V->Value->Prop where
 |non:gQ K H .non (.type "NoneType")
 |bl (x:Bool):gQ K H (.bl x) (.type "bool")
 |int (i:Int):gQ K H (.int i) (.type "int")
 |str (x:Str):gQ K H (.str x) (.type "str")
 |flt (x:UInt64):gQ K H (.flt x) (.type "float")
 |lst {a:Addr} {xs:List V} (e:H a=some (.lst xs)):gQ K H (.ref a) (.type "list")
 |frz {a:Addr} {o:Obj} {xs:List V} (e:H a=some (.frz o (.lst xs))):gQ K H (.ref a) (.type "list")
 |tup {a:Addr} {xs:List V} (e:H a=some (.tup xs)):gQ K H (.ref a) (.type "tuple")
 |dK {a:Addr} {kvs:List (Key×V)} (e:H a=some (.dK kvs)):gQ K H (.ref a) (.type "dict")
 |dT {a:Addr} {kvs:List (List Key×V)} (e:H a=some (.dT kvs)):gQ K H (.ref a) (.type "dict")
 |ins {a C dx:Addr} {fs:List (Str×V)} (e:H a=some (.ins C dx fs)) (cl:gm K C) (ha:PySem.W.findIn K (.ref C) "__class__"=some (some (.builtin "object.__class__")))
   (hn:PySem.W.specialIn K (.builtin "object.__class__") "__get__"=some (some (.builtin "getset_descriptor.__get__"))) (htk:PySem.W.takesIn K (.builtin "object.__class__")=some true)
   (hm:PySem.W.mroIn K C (.type "object")=some true):gQ K H (.ref a) (.ref C)
def NK {x:V}{t:Value}(I:Inv X p4 σ H s)(r:RelV x u)(ty:gQ X.K H x t)(e:kitOne X.K t c=some b)(h:∀T,Q (.bool b) { s with toks:=T }):
  wpAny (model X.prog X.w) A (call (.builtin "isinstance") [u,c]) Q E s:=by
 cases ty with
 |non=>cases (show u=Value.none from r);exact bA kitx_none I.kIn True.intro e (λz=>nomatch z) h
 |bl y=>cases (show u=Value.bool y from r);exact bA kitx_bool I.kIn True.intro e (λz=>nomatch z) h
 |int i=>obtain⟨t,q⟩:=(show ∃t,u=Value.int i t from r);cases q;exact bA kitx_int I.kIn True.intro e (λz=>nomatch z) h
 |str y=>obtain⟨t,q⟩:=(show ∃t,u=Value.str y t from r);cases q;exact bA kitx_str I.kIn True.intro e (λz=>nomatch z) h
 |flt y=>obtain⟨t,q⟩:=(show ∃t,u=Value.float y t from r);cases q;exact bA kitx_float I.kIn True.intro e (λz=>nomatch z) h
 |@lst a xs ea=>
  cases (show u=Value.ref a from r)
  obtain⟨_,_,n,_,v⟩:=(show jg X.prog X.w H s.heap a (.lst xs) from I.hok a _ ea)
  exact bA kitx_list I.kIn ⟨_,v,rfl⟩ e (λz=>nomatch z) h
 |@frz a ob xs ea=>
  cases (show u=Value.ref a from r)
  obtain⟨_,_,_,n,_,v⟩:=(show jg X.prog X.w H s.heap a (.frz ob (.lst xs)) from I.hok a _ ea)
  exact bA kitx_list I.kIn ⟨_,v,rfl⟩ e (λz=>nomatch z) h
 |@tup a xs ea=>
  cases (show u=Value.ref a from r)
  obtain⟨_,_,_,p⟩:=(show jg X.prog X.w H s.heap a (.tup xs) from I.hok a _ ea)
  obtain⟨o,v,B,_⟩:=p;exact bA kitx_tuple I.kIn ⟨o,v,B.1⟩ e (λz=>nomatch z) h
 |@dK a kvs ea=>
  cases (show u=Value.ref a from r)
  obtain⟨_,_,D,_,p⟩:=(show jg X.prog X.w H s.heap a (.dK kvs) from I.hok a _ ea)
  obtain⟨o,g,j,v,B,_⟩:=p;exact bA kitx_dict I.kIn ⟨o,v,B.1⟩ e (λz=>nomatch z) h
 |@dT a kvs ea=>
  cases (show u=Value.ref a from r)
  obtain⟨_,_,xs,_,o,g,j,v,B,_⟩:=(show jg X.prog X.w H s.heap a (.dT kvs) from I.hok a _ ea)
  exact bA kitx_dict I.kIn ⟨o,v,B.1⟩ e (λz=>nomatch z) h
 |@ins a C dx fs ea cl f hn d hm=>
  cases (show u=Value.ref a from r)
  obtain⟨M,O,_⟩:=d1 I.hok ea;obtain⟨l,J,_⟩:=O.look;exact bA (PySem.W.kitx_own (cl.get _) cl.hd f hn d hm) I.kIn J e (λz=>nomatch z) h
end
structure jF (k:Nat)(A:Around):Prop where
 hd:A.handled=none
 dp:A.depth+3 * k+5<recursionLimit
 un:A.units+16 * k+200<cLine
 gd:A.guards=some []
def jF.mono {j k:Nat}{A:Around}(r:jF k A)(h:j<=k):jF j A:=⟨r.hd,by have:=r.dp;omega,by have:=r.un;omega,r.gd⟩
theorem jF.deeper {k:Nat}{A:Around}(r:jF (k+1) A)(e:Env):jF k (A.deeper e):=
 ⟨r.hd,by have:=r.dp;show A.depth+1+3 * k+5<_;omega,by have:=r.un;show A.units+3+16 * k+200<_;omega,r.gd⟩
theorem jF.depth {k:Nat}{A:Around}(r:jF k A):A.depth<recursionLimit:=by have:=r.dp;omega
theorem jF.units {k:Nat}{A:Around}(r:jF k A):A.units+64<cLine:=by have:=r.un;omega
def Ro:TA:=λ_ H Q=>Q [] H
def XJ (t:TE)(tr:TA):TA:=λa H Q=>t a H λx b=>tr a b λX h=>Q (x::X) h
section
variable {X:Cx}{es:bZ}{te:TE}{t:TA}
def yw:PA X [] Ro:=λ_ _ _ _ H Q I h=>Calls.spliced_nil ⟨[],H,I,.nil,h⟩
def jE (f:PE X e te)(d:PA X es t)(c:starEach (e::es) X.env=(false,eval e X.env)::starEach es X.env:=by rfl):PA X (e::es) (XJ te t):=by
 intro P p s l H Q I h;rw[c];show wpAny _ _ (spliced ((false,eval e X.env)::backTo P (starEach es X.env))) _ _ s;refine Calls.spliced_cons (qf (f p s l H _ I h) λu S ⟨x,o,g,a,b⟩=>?_);exact qf (d P p S l o _ g b) λU v ⟨n,j,i,r,q⟩=>⟨x::n,j,i,.cons a r,q⟩
def d2 (t:TA):TE:=λa H Q=>t a H λx h=>x.length<=sizeLine/\∀p,h p=none->Q (.ref p) (upd h p (.tup x))
def d4 (t:TA):TE:=λa H Q=>t a H λx h=>x.length<=sizeLine/\∀p,h p=none->Q (.ref p) (upd h p (.lst x))
def Lp {x1}(h:PA X es t):PE X (.Tuple es x1 p6) (d2 t):=by
 intro p s d H Q I a;refine wpAny_Tuple_spliced (qf (h p6 p s d H _ I a) λU S ⟨x,c,i,r,z,q⟩=>⟨by rw[<- r.length];exact z,?_⟩)
 have f:c S.heap.objs.size=none:=i.hok.fresh (aq _);refine⟨.ref S.heap.objs.size,upd c S.heap.objs.size (.tup x),i.laid (t':=S.toks) (λb u e=>af _ e) (aq _) ?_,rfl,q _ f⟩;exact⟨z,U,r,⟨_,aC _ rfl,⟨rfl,rfl⟩,_,rfl⟩⟩
def d6 (h:PA X es t):PE X (.List es p6) (d4 t):=by
 intro p s d H Q I a;refine wpAny_List_spliced (qf (h p6 p s d H _ I a) λU S ⟨x,c,i,r,z,q⟩=>⟨by rw[<- r.length];exact z,?_⟩)
 have f:c S.heap.objs.size=none:=i.hok.fresh (aq _);refine⟨.ref S.heap.objs.size,upd c S.heap.objs.size (.lst x),i.laid (t':=S.toks) (λb u e=>af _ e) (aq _) ?_,rfl,q _ f⟩;exact⟨z,U,0,r,aC _ rfl⟩
end
abbrev Sp:=List V->Hp->VK->XK->Prop
abbrev Zr:=List Env->Hp->Shared->XK->Value->Shared->Prop
structure JW (P:Program)(w:World)(K:Frag)(mg:b8)(base:Heap)(A:Around)(outer:b9)(s:Shared)(H:Hp):Prop where
 frames:A.frames=some outer
 mod:Mod K mg base
 bs:∀b o,base.get? b=some o->s.heap.get? b=some o/\H b=none
 bsz:base.objs.size<=s.heap.objs.size
 funs:s.heap.FunFrames base outer
 frf:∀b∈qR outer,H b=none
 hok:jx P w H s.heap
 bare:AllBare s.gens
inductive CE (outer:b9)(P:Program)(w:World)(H:Hp)(s:Shared)(Q:VK)(u:Value)(s':Shared):Prop
 |mk (v:V) (H':Hp) (os:s'.os=s.os) (b:AllBare s'.gens) (un:Un (qR outer) [] H H' s.heap s'.heap) (hk:jx P w H' s'.heap) (r:RelV v u) (q:Q v H')
def CR (C:Zr)(o:b9)(P:Program)(w:World)(H:Hp)(s:Shared)(Q:VK)(E:XK)(r:Result)(S:Shared):Prop:=
 match r with
 |.ok (.ret u)=>CE o P w H s Q u S|.ok _=>False|.error e=>C o H s E e S
structure yN (P:Program)(w:World)(K:Frag)(mg:b8)(base:Heap)(CX:Zr)(k:Nat)(f:Addr)(fd:FuncData)(ps:bX)(sp:Sp):Prop where
 len:∀vs H Q E,sp vs H Q E->vs.length=ps.length
 run:∀(A:Around)(outer:b9)(s:Shared)(H:Hp)(args:Args)(us:bS)(vs:List V)(Q:VK)(E:XK),jF k A->JW P w K mg base A outer s H->BindsTo s fd args (ps.zip us)->Vals vs us->sp vs H Q E->
  codeAny (model P w) A (.call (.ref f) args) (CR CX outer P w H s Q E) s
theorem yN.mono {K:Frag}{C:Zr}{j k:Nat}{ps:bX}{S:Sp}(F:yN P w K mg base C j f fd ps S)(h:j<=k):
  yN P w K mg base C k f fd ps S:=⟨F.len,λA o s H a u v Q E r=>F.run A o s H a u v Q E (r.mono h)⟩
def yN.imp {K:Frag}{C:Zr}{k:Nat}{ps:bX}{p S:Sp}(F:yN P w K mg base C k f fd ps p)
  (h:∀vs H Q E,S vs H Q E->p vs H Q E):yN P w K mg base C k f fd ps S:=
 ⟨λvs H Q E q=>F.len vs H Q E (h _ _ _ _ q),λA o s H c u vs Q E r e b v a=>F.run A o s H c u vs Q E r e b v (h _ _ _ _ a)⟩
section
variable {X:Cx}{σ:St}{H:Hp}{s:Shared}
def Inv.env0 (I:Inv X p4 σ H s):JW X.prog X.w X.K X.mg X.base X.A X.stack s H:=
 ⟨I.ok.frames,I.ok.mod,I.bs,aY I.ok.bsz I.sz,I.stack,I.stkFree,I.hok,I.bare⟩
def Inv.after {Q:VK}(I:Inv X p4 σ H s)(h:CE X.stack X.prog X.w H s Q u s'):EP X p4 σ Q u s':=by
 obtain⟨v,c,f,B,un,e,r,q⟩:=h;obtain⟨a,g,d,t,o⟩:=s';obtain rfl:o=s.os:=f;exact⟨v,c,I.call (h':=a) (g':=g) (d':=d) (t':=t) (ch:=[]) un e B (λb z=>absurd z (by simp)),r,q⟩
end
def d7 (S:Sp)(d:List V)(E:XK)(t:TA):TE:=λa H Q=>t a H λv h=>S (v++d) h Q E
def Binds (K:Frag)(f:FuncData)(ps:bX)(d:bS):Prop:=
 ∀(s:Shared)(us:bS),K.In s.heap->(us++d).length=ps.length->BindsTo s f ⟨us,[]⟩ (ps.zip (us++d))
def Binds.all {K:Frag}{ps:bX}(h:∀us:bS,us.length=ps.length->bindArgs fd ⟨us,[]⟩=pure (ps.zip us)):Binds K fd ps []:=λs us _ H=>by
 rw[a3]at H ⊢;exact .of_eq (h us H)
def Passes (C:Zr)(X:Cx)(E:XK):Prop:=∀(p4:bU)(σ:St)(H:Hp)(s:Shared)(e:Value)(s':Shared),Inv X p4 σ H s->C X.stack H s E e s'->X.xe e s'
section
variable {X:Cx}{CX:Zr}{k:Nat}{ps:bX}{sp:Sp}{dvs:List V}{ds:bS}{E:XK}{es:bZ}{t:TA}
def LP {d:St}{H:Hp}{s:Shared}{Q:VK}{v:List V}(F:yN X.prog X.w X.K X.mg X.base CX k f fd ps sp)(b:jF k X.A)(c:Binds X.K fd ps ds)(g:Vals dvs ds)(x:Passes CX X E)
  (I:Inv X p4 d H s)(r:Vals v us)(h:sp (v++dvs) H Q E):wpAny (model X.prog X.w) X.A (call (.ref f) us) (EP X p4 d Q) X.xe s:=by
 have a:Vals (v++dvs) (us++ds):=r.append g;have l:(us++ds).length=ps.length:=by rw[<- a.length];exact F.len _ _ _ _ h
 refine wpAny_call (codeAny_mono (F.run X.A X.stack s H ⟨us,[]⟩ (us++ds) (v++dvs) Q E b I.env0 (c s us I.kIn l) a h) λr S q=>?_);cases r with
 |error e=>exact x p4 d H s e S I q|ok fl=>
  cases fl with
  |ret u=>exact I.after q|next=>exact False.elim q|brk=>exact False.elim q|cont=>exact False.elim q
def M1 (F:yN X.prog X.w X.K X.mg X.base CX k f fd ps sp)(c:jF k X.A)(g:Gl X x)(u:X.mg x=some (.ref f))(d:keepIn X.K (.ref f)=true)(j:Binds X.K fd ps ds)(y:Vals dvs ds)(a:Passes CX X E)
  (n:PA X (e::es) t)(b:(x==("__debug__":Str))=false:=by decide)(v:starEach (e::es) X.env=(false,eval e X.env)::starEach es X.env:=by rfl)(l:(backTo p6 (starEach es X.env)).any (·.1)=false:=by rfl):
  PE X (.Call (.Name x p) (e::es) [] p6) (d7 sp dvs E t):=by
 intro P s o H Q I h;refine wpAny_Call_Name_kw (Wl I g u ?_ b);refine callWith_K (h₀:=X.base) I.ok.mod.kin d (qf (n p6 P s o H _ I h) λU S ⟨B,C,i,r,q⟩=>⟨i.kIn,?_⟩) v l;exact LP F c j y a i r q
end
structure qJ (N P:bX)(sc:Scope):Prop where
 kind:sc.kind=.function
 co:sc.isCoroutine=false
 gen:sc.isGenerator=false
 nd:N.Nodup
 pre:N.take P.length=P
 par:∀x∈P,sc.names.lookup x=some .local∨sc.names.lookup x=some .cell
 nofree:∀y∈sc.names,y.2≠.free
theorem Nj {K:Str->Option NameKind}:∀{binds:List (Str×Value)}{m:b8},(∀v,(x,v)∉binds)->bindL K binds m x=m x
 |[],_,_=>rfl|(n,v)::r,m,h=>by
  unfold bindL;rw[Nj λw H=>h w (aw _ H)]
  split
  ·have:x≠n:=by rintro rfl;exact h v aE
   simp[this]
  ·rfl
theorem Nk {K:Str->Option NameKind}:∀{binds:List (Str×Value)}{m:b8},(∀v,(x,v)∉binds)->bindC K binds m x=m x
 |[],_,_=>rfl|(n,v)::r,m,h=>by
  unfold bindC;rw[Nk λw H=>h w (aw _ H)]
  split
  ·rfl
  ·have:x≠n:=by rintro rfl;exact h v aE
   simp[this]
theorem Nx {K:Str->Option NameKind}{v:Value}:∀{P:bX}{b:bS}{i:Nat}{m:b8},P.Nodup->P[i]? =some x->b[i]? =some v->K x=some .local->
  bindL K (P.zip b) m x=some v
 |[],_,_,_,_,h,_,_=>by simp at h|_::_,[],_,_,_,_,h,_=>by simp at h|p::P,w::b,0,m,nd,h1,h2,H=>by
  simp at h1 h2;subst h1;subst h2;show bindL K ((p,w)::P.zip b) m p=_;unfold bindL;rw[Nj λv a=>(List.nodup_cons.mp nd).1 (of_mem_zip a).1,ah H];simp
 |p::P,w::b,i+1,m,nd,h1,h2,H=>by
  show bindL K ((p,w)::P.zip b) m x=_;unfold bindL;exact Nx (i:=i) (List.nodup_cons.mp nd).2 (by simpa using h1) (by simpa using h2) H
theorem NC {K:Str->Option NameKind}{v:Value}:∀{P:bX}{b:bS}{i:Nat}{m:b8},P.Nodup->P[i]? =some x->b[i]? =some v->K x≠some .local->
  bindC K (P.zip b) m x=some v
 |[],_,_,_,_,h,_,_=>by simp at h|_::_,[],_,_,_,_,h,_=>by simp at h|p::P,w::b,0,m,nd,h1,h2,H=>by
  simp at h1 h2;subst h1;subst h2;show bindC K ((p,w)::P.zip b) m p=_;unfold bindC;rw[Nk λv a=>(List.nodup_cons.mp nd).1 (of_mem_zip a).1,aj H];simp
 |p::P,w::b,i+1,m,nd,h1,h2,H=>by
  show bindC K ((p,w)::P.zip b) m x=_;unfold bindC;exact NC (i:=i) (List.nodup_cons.mp nd).2 (by simpa using h1) (by simpa using h2) H
noncomputable def start (N:bX)(v:List V):St:=v.map some++List.replicate (N.length-v.length) none
noncomputable def wt (C:Zr)(P:Program)(w:World)(K:Frag)(M:b8)(b:Heap)(N:bX)(qual:Str)(scope:Scope)(f:Addr)(c:Value)(A:Around)(o:b9)(s:Shared)(H:Hp)(E:XK):Cx where
 prog:=P
 w:=w
 K:=K
 mg:=M
 base:=b
 A:=A.deeper (envOfC qual scope s.heap.objs.size f c)
 N:=N
 s0:=s
 H0:=H
 env:=envOfC qual scope s.heap.objs.size f c
 outer:=o
 stack:=envOfC qual scope s.heap.objs.size f c::o
 ex:=[]
 calm:=true
 fn:=λ_=>true
 pn:=[]
 xe:=λe d=>wpAny (model P w) (A.deeper (envOfC qual scope s.heap.objs.size f c)) (leaving (envOfC qual scope s.heap.objs.size f c) e) (λ_ S=>C o H s E e S) (λa S=>C o H s E a S) d
def NO (h:sc.names.lookup x=some .cell):∃c,(cellsFrom n sc.names []).lookup x=some c:=by
 have q:=cellsFrom_some sc.names n [] (.inl h);exact Option.isSome_iff_exists.mp q
def Ae {X:Zr}{K:Frag}{ps:bX}{cd:Value}{A:Around}{Q:b9}{s s1:Shared}{H:Hp}{E:XK}{Y:List V}
  (S:qJ N ps scope)(hd:A.handled=none)(d:JW P w K mg base A Q s H)(L:Y.length=ps.length)(r:Vals Y us)
  (x:InCallC s s.heap.objs.size (bindL (envOfC qual scope s.heap.objs.size f cd).kindOf (ps.zip us) λ_=>none) (cellsFrom (s.heap.objs.size+1) scope.names []) (bindC (envOfC qual scope s.heap.objs.size f cd).kindOf (ps.zip us) λ_=>none) s1):
  Inv (wt X P w K mg base N qual scope f cd A Q s H E) [] (start N Y) H s1:=by
 have I:ps.length<=N.length:=by have:=congrArg List.length S.pre;rw[bb]at this;omega
 obtain⟨Z,T,rfl,C⟩:=x.done;have g:∀b:Addr,b∉(wt X P w K mg base N qual scope f cd A Q s H E).ex:=λb z=>absurd (show b∈([]:bT) from z) (by simp)
 refine⟨⟨d.mod,S.kind,rfl,rfl,aq _,λy z c Z U=>?_,λy j=>?_,λy c _ h=>?_,λ_=>hd,Around.frames_deeper d.frames,.inr ⟨rfl,rfl⟩,λb z=>absurd z (g b),d.bs,d.bsz,λb _ _=>g b,λb z=>absurd z (g b),d.funs,d.frf⟩,
  rfl,d.bare,Un.kept C,⟨_,x.toInCall.ns,λi y v Z U M=>?_⟩,λy c h=>⟨_,x.cell y c h⟩,d.hok.fresh (aq _),λy c h=>?_,λp o=>absurd (show p∈([]:bU) from o) (by simp),d.hok.kept C,?_⟩
 ·exact name_of_addr x.apart (PySem.mem_of_lookup Z) (PySem.mem_of_lookup U)
 ·have j:scope.names.lookup y=some .cell∨scope.names.lookup y=some .free:=j
  rcases j with j|j
  ·exact NO j
  ·exact absurd rfl (S.nofree _ (PySem.mem_of_lookup j))
 ·exact bK (x.above y c (PySem.mem_of_lookup h))
 ·have t:i<Y.length:=by
   unfold start at U
   by_cases t:i<Y.length
   ·exact t
   ·rw[au (by simpa using t)]at U
    rw[bt]at U
    split at U<;>cases U
  have J:Y[i]? =some v:=by
   unfold start at U;rw[ai (by simpa using t),ar]at U
   cases e:Y[i]? with
   |none=>rw[e]at U;cases U|some a=>rw[e]at U;cases U;rfl
  obtain⟨u,B,D⟩:=r.get J;have o:ps[i]? =some y:=by
   rw[<- S.pre,List.getElem?_take_of_lt (by omega)];exact Z
  have l:ps.Nodup:=by rw[<- S.pre];exact S.nd.sublist (List.take_sublist _ _)
  refine⟨u,D,?_⟩;rcases S.par y (bq o) with k|k
  ·exact .inl ⟨k,Nx l o B k⟩
  ·obtain⟨c,e⟩:=NO (n:=s.heap.objs.size+1) k
   refine .inr ⟨.inl k,c,e,?_⟩;have q:=x.cell y c e;rw[NC l o B (by show scope.names.lookup y≠_;rw[k];decide)]at q
   exact q
 ·exact d.hok.fresh (bK (x.above y c (PySem.mem_of_lookup h)))
 ·unfold start
  show _=N.length;rw[av,ag,bB];omega
def Sw {C:Zr}{K:Frag}{k:Nat}{name:Str}{params:Arguments}{L kV doc pm c ct T:Value}{an M:cf}
  {ps:bX}{sp:Sp}(lk:K.lookup f=some ⟨T,M,.func (fnOf name qual params body scope L kV doc pm an c ct),rp⟩)(D:codeIn K c qual=true)(S:qJ N ps scope)
  (len:∀vs H Q E,sp vs H Q E->vs.length=ps.length)
  (g:∀(A:Around)(outer:b9)(s:Shared)(H:Hp)(vs:List V)(Q:VK)(E:XK),jF k (A.deeper (envOfC qual scope s.heap.objs.size f c))->sp vs H Q E->
   ∃t,ki (wt C P w K mg base N qual scope f c A outer s H E) body t/\t { nx:=λ_ h=>Q .non h,rt:=Q } (start N vs) H):
  yN P w K mg base C (k+1) f (fnOf name qual params body scope L kV doc pm an c ct) ps sp:=by
 refine⟨len,λA outer s H args us vs Q E B j hb r p=>?_⟩;have Z:=len _ _ _ _ p;have X:K.In s.heap:=j.mod.kin.keeps λb o e=>(j.bs b o e).1;have lim:s.heap.NoLimit:=j.mod.nolimit.keeps λb o e=>(j.bs b o e).1;have d:∀y∈ps.zip us,scope.names.lookup y.1=some .local∨(scope.names.lookup y.1=some .cell/\((cellsFrom (s.heap.objs.size+1) scope.names []).lookup y.1).isSome=true):=λ⟨n,v⟩ U=>by
  rcases S.par n (of_mem_zip U).1 with q|q
  ·exact .inl q
  ·exact .inr ⟨q,cellsFrom_some _ _ _ (.inl q)⟩
 refine codeAny_call_function B.depth (X _ _ lk) rfl S.co S.gen rfl (PySem.W.codeRec_of X D) (hb _ _ _ _ ?_);refine wpAny_newFunctionEnv_cells S.kind d λenv he s1 x=>?_;subst he;refine⟨lim.keeps x.toInCall.keep,codeAny_func ?_⟩;obtain⟨t,ht,Y⟩:=g A outer s H vs Q E (B.deeper _) p;have I:Inv (wt C P w K mg base N qual scope f c A outer s H E) [] (start N vs) H s1:=Ae S B.hd j Z r x;refine wpAny_mono (ht [] s1 (start N vs) H _ I Y) (λfl s' i=>?_) λe s' i=>i;have fin:∀{a:St}{h:Hp}{v:V}{u:Value},Inv (wt C P w K mg base N qual scope f c A outer s H E) [] a h s'->RelV v u->Q v h->CE outer P w H s Q u s':=
  λ {a h v u} J l q=>⟨v,h,J.os,J.bare,J.base,J.hok,l,q⟩
 cases fl with
 |ret u=>
  obtain⟨v,a,h,J,l,q⟩:=i;exact fin J l q
 |next=>
  obtain⟨a,h,J,q⟩:=i;exact fin (v:=V.non) (u:=Value.none) J rfl q
 |brk=>
  obtain⟨_,_,_,q⟩:=i;exact False.elim q
 |cont=>
  obtain⟨_,_,_,q⟩:=i;exact False.elim q
section
variable {X:Cx}{es:bZ}{t:TA}{id T:String}{r:List V->Hp->VK->Prop}
def Vr (r:List V->Hp->VK->Prop)(t:TA):TE:=λa H Q=>t a H λv h=>r v h Q
def Q5 (c:yJ X (.builtin id) r)(g:Gl X x)(o:X.mg x=none)(v:bootBuiltins x=some (.builtin id))(d:PA X (e::es) t)(n:x ≠ "__name__":=by decide)(b:(x==("__debug__":Str))=false:=by decide)
  (w:starEach (e::es) X.env=(false,eval e X.env)::starEach es X.env:=by rfl)(l:(backTo p6 (starEach es X.env)).any (·.1)=false:=by rfl):PE X (.Call (.Name x p) (e::es) [] p6) (Vr r t):=by
 intro P s f H Q I h;refine wpAny_Call_Name_kw (QA I g o v ?_ n b);exact PyProof.Rows.callWith_builtin1 (qf (d p6 P s f H _ I h) λu S ⟨j,y,i,a,q⟩=>c P S f y j u Q i a q) w l
def K7 (c:yJ X (.type T) r)(g:Gl X x)(o:X.mg x=none)(v:bootBuiltins x=some (.type T))(d:PA X (e::es) t)(n:x ≠ "__name__":=by decide)(b:(x==("__debug__":Str))=false:=by decide)
  (w:starEach (e::es) X.env=(false,eval e X.env)::starEach es X.env:=by rfl)(l:(backTo p6 (starEach es X.env)).any (·.1)=false:=by rfl):PE X (.Call (.Name x p) (e::es) [] p6) (Vr r t):=by
 intro P s f H Q I h;refine wpAny_Call_Name_kw (QA I g o v ?_ n b);exact PyProof.Rows.callWith_type1 (qf (d p6 P s f H _ I h) λu S ⟨j,y,i,a,q⟩=>c P S f y j u Q i a q) w l
end
end L2
variable {X:L2.Cx}{o:L2.HO}{H:L2.Hp}{kvs:List (L2.Key×L2.V)}{vs xs ys:List L2.V}{r:List L2.V->L2.Hp->L2.VK->Prop}{σ:L2.St}{v:L2.V}
namespace HT
open PySem PyProof.Rows
section
open PySem.SeqAt
open PySem.AutoSeq1 (wpAny_loadPart')
open PySem.MeetsSeq PySem.MeetsSeq2 PySem.MeetsSeq3
end
section
variable {prog:Program}{A:Around}{s:Shared}
def zcs {t:Addr}{i g:bS}(u:IsTup s.heap t i.toArray)(f:IsTup s.heap b g.toArray)(v:i≠[])
  (y:g=[]->Q (.ref t) s)(x:g≠[]->Q (.ref s.heap.objs.size) { s with heap:=s.heap.push { cls:=.type "tuple",data:=.seq (i++g).toArray } })
  (a:i.length+g.length<=sizeLine):wpAny (model prog w) A (binaryOp .Add (.ref t) (.ref b)) Q E s:=by
 obtain⟨⟨B,r,data,l⟩,o,c,n,q⟩:=id u;obtain⟨⟨C,d,D,S⟩,h,H,N,j⟩:=id f;simp only at c q H j;subst c q H j;have e:i.toArray++g.toArray=(i++g).toArray:=by simp
 by_cases p:g=[]
 ·exact concat_meets ⟨_,o,rfl⟩ ⟨_,h,rfl⟩ noFill_tuple_add seq_tuple_add slot_tuple_add entry_tuple_add (args_tuple_add_2 _ _)
   (tuple_addW1 t b i.toArray g.toArray n N r d l S (by simpa using v) (by simp[p])) ⟨o,h,y p⟩
 ·refine concat_meets ⟨_,o,rfl⟩ ⟨_,h,rfl⟩ noFill_tuple_add seq_tuple_add slot_tuple_add entry_tuple_add (args_tuple_add_2 _ _)
   (tuple_addW2 t b i.toArray g.toArray n N r d l S (by simpa using v) (by simpa using p) (by rw[aB,aB];exact a)) ⟨o,h,?_⟩
  rw[e];exact x p
noncomputable def qD (n d:Nat):Option Int->Nat
 |none=>d|some v=>if v<0 then(v+(n:Int)).toNat else min v.toNat n
def zaO (n d:Nat):qD n d none=d:=rfl
def zb9 (n d k:Nat):qD n d (some (k:Int))=min k n:=by
 show(if (k:Int)<0 then((k:Int)+(n:Int)).toNat else min (k:Int).toNat n)=min k n;rw[aj (by omega),aA]
def d8 (n d:Nat)(H:d<=n)(o:b0):qD n d o<=n:=by
 cases o with
 |none=>exact H|some v=>
  show(if v<0 then(v+(n:Int)).toNat else min v.toNat n)<=n
  by_cases h:v<0
  ·rw[ah h];omega
  ·rw[aj h];exact Nat.min_le_right _ _
def M5 (v:Int)(n d:Nat):(if v<0 then max (v+(n:Int)) 0 else min v (n:Int))=((qD n d (some v):Nat):Int):=by
 show(if v<0 then max (v+(n:Int)) 0 else min v (n:Int))=(((if v<0 then(v+(n:Int)).toNat else min v.toNat n):Nat):Int)
 by_cases h:v<0
 ·simp only[ah h];omega
 ·simp only[aj h];omega
def Cs (l h:b0)(n:Nat):Builtin.Slice.sliceAdjust l h 1 (n:Int)=(((qD n 0 l:Nat):Int),((qD n n h:Nat):Int)):=by
 have H:¬((1:Int)<0):=by omega
 unfold Builtin.Slice.sliceAdjust;simp only[H,if_false];refine Prod.ext ?_ ?_
 ·cases l with
  |none=>rfl|some v=>exact M5 v n 0
 ·cases h with
  |none=>rfl|some v=>exact M5 v n n
def CL (i j:Nat):Builtin.Slice.slicePlaces (i:Int) (j:Int) 1=j-i:=by
 unfold Builtin.Slice.slicePlaces;have h:(1:Int) > 0:=by omega
 simp only[h,if_true,ediv_one]
 split<;>omega
def K3 {v:Value}{o:b0}{Q:Option Int->Shared->Prop}(p:IsPart v o)(h:Q o s):wpAny (model prog w) A (Builtin.Slice.slicePartIndex v) Q E s:=by
 cases p with
 |none=>exact slicePart_none h|int i t=>exact slicePart_int h
def Pf {S:Addr}{l v:Value}{L i:b0}{Q:Int×Int×Nat->Shared->Prop}(b:s.heap.IsSliceOf S l v .none)(p:IsPart l L)(P:IsPart v i)
  (h:Q (((qD n 0 L:Nat):Int),1,qD n n i-qD n 0 L) s):wpAny (model prog w) A (Builtin.Slice.sliceApplied (.ref S) (pure (n:Int))) Q E s:=by
 obtain⟨o,H,c,a⟩:=id b;unfold Builtin.Slice.sliceApplied Builtin.Slice.sliceFields;refine cj (cj (wpAny_field H a (x:=l) rfl (cj (wpAny_field H a (x:=v) rfl (cj (wpAny_field H a (x:=.none) rfl (cm ?_)))))));refine cj (slicePart_none ?_);show wpAny _ _ (if ((1:Int)==0)=true then _ else _) _ _ s;rw[aj (by decide)]
 refine cj (K3 p (cj (K3 P (cj (cm ?_)))));show wpAny _ _ (match Builtin.Slice.sliceAdjust L i 1 (n:Int) with|(L,i)=>pure (L,(1:Int),Builtin.Slice.slicePlaces L i 1)) _ _ s
 rw[Cs L i n];show wpAny _ _ (pure (((qD n 0 L:Nat):Int),(1:Int),Builtin.Slice.slicePlaces ((qD n 0 L:Nat):Int) ((qD n n i:Nat):Int) 1)) _ _ s;rw[CL];exact cm h
def Ap (X:Array Value)(i k:Nat):((List.range k).filterMap λ(m:Nat)=>X[((i:Int)+(m:Int) * 1).toNat]?).toArray=((X.toList.drop i).take k).toArray:=by
 have e:(λ(m:Nat)=>X[((i:Int)+(m:Int) * 1).toNat]?)=λm=>X[i+m]?:=by
  funext m
  have:((i:Int)+(m:Int) * 1).toNat=i+m:=by omega
  rw[this]
 rw[e]
 have:=pick_run X i k
 rw[List.filterMap_map]at this;have E:((λx=>X[x]?) ∘ λx=>i+x)=λm=>X[i+m]?:=rfl;rw[E]at this;rw[this]
def FC {t S:Addr}{l v:Value}{L i:b0}(r:IsTup s.heap t items)(d:s.heap.IsSliceOf S l v .none)(p:IsPart l L)(P:IsPart v i)
  (x:¬(qD items.size 0 L=0/\qD items.size items.size i=items.size))
  (h:Q (.ref s.heap.objs.size) { s with heap:=s.heap.push { cls:=.type "tuple",data:=.seq ((items.toList.drop (qD items.size 0 L)).take (qD items.size items.size i-qD items.size 0 L)).toArray } })
  (e:items.size<=sizeLine):wpAny (model prog w) A (getItem (.ref t) (.ref S)) Q E s:=by
 have H:sizeOk (.seq ((items.toList.drop (qD items.size 0 L)).take (qD items.size items.size i-qD items.size 0 L)).toArray):=by
  show((items.toList.drop (qD items.size 0 L)).take (qD items.size items.size i-qD items.size 0 L)).toArray.size<=sizeLine;rw[aB,bb,bE,length_toList];omega
 have n:qD items.size items.size i<=items.size:=d8 _ _ (aq _) i;obtain⟨u,a,b,f⟩:=id d;have c:s.TypeIs (.ref S) "slice":=⟨u,a,b⟩;unfold getItem
 try with_reducible refine wpAny_holding ?_
 first|refine cj (cm ?_)|skip
 refine cj (wpAny_sequenceKey r.typeIs (by decide) ?_)
 refine cj (wpAny_callSpecial?_slot (name:=Str.ofString "__getitem__") r.typeIs PyProof.Rows.slot_tuple_getitem
  (wpAny_call_entry PyProof.Rows.slot_tuple_getitem r.typeIs entry_tuple_getitem ?_ (args_tuple_getitem _ _)))
 show wpAny _ _ (Builtin.Tuple.tupleItemsOf (.ref t) >>= _) _ _ s;refine cj (tupleItemsOf_ r ?_);refine cj (wpAny_typeOf c ?_);rw[ah (by decide)]
 refine cj (Pf d p P ?_);have o:¬((((qD items.size 0 L:Nat):Int)==0&&(1:Int)==1&&(qD items.size items.size i-qD items.size 0 L)==items.size)=true):=by
  intro q;rw[ak,ak]at q;have j:((qD items.size 0 L:Nat):Int)=0:=eq_of_beq q.1.1;have g:qD items.size items.size i-qD items.size 0 L=items.size:=eq_of_beq q.2;exact x ⟨by omega,by omega⟩
 show wpAny _ _ (if (((qD items.size 0 L:Nat):Int)==0&&(1:Int)==1&&(qD items.size items.size i-qD items.size 0 L)==items.size)=true then _ else _) _ _ s;rw[aj o,Ap]
 first
  |exact cj (m:=Builtin.Tuple.tupleExact _) (wpAny_newObj_type (cm ⟨_,rfl,cm h⟩) H)
  |exact cj (m:=Builtin.Tuple.tupleExact _) (wpAny_newObj_type (cj (cm (cm ⟨_,rfl,cm h⟩))) H)
  |exact cj (cj (m:=Builtin.Tuple.tupleExact _) (wpAny_newObj_type (cm (cm ⟨_,rfl,cm h⟩)) H))
  |exact cj (cj (m:=Builtin.Tuple.tupleExact _) (wpAny_newObj_type (cm ⟨_,rfl,cm h⟩) H))
end
end HT
namespace L2
open PySem PySem.Spec PyProof.Rows
abbrev TO:=St->Hp->(Option Int->Hp->Prop)->Prop
def PO (X:Cx)(e:Option Expr)(t:TO):Prop:=
 ∀(p4:bU)(s:Shared)(σ:St)(H:Hp)(Q:Option Int->Hp->Prop),Inv X p4 σ H s->t σ H Q->
  wpAny (model X.prog X.w) X.A (evalPart e X.env) (λu S=>∃o h,Inv X p4 σ h S/\IsPart u o/\Q o h) X.xe s
def d9:TO:=λ_ H Q=>Q none H
def eb (t:TE):TO:=λa H Q=>t a H λx h=>∃i,x=.int i/\Q (some i) h
section
variable {te:TE}{lo hi:Option Expr}{tl th:TO}{p2:Pos}
def ed:PO X none d9:=by
 intro p s a H Q I h;rw[evalPart_none];exact cm ⟨none,H,I,.none,h⟩
def ee (h:PE X e te):PO X (some e) (eb te):=by
 intro p s c H Q I w;rw[evalPart_some];refine qf (h p s c H _ I w) λu S ⟨x,d,b,r,a⟩=>?_;obtain⟨i,rfl,q⟩:=a;obtain⟨t,rfl⟩:=r;exact⟨some i,d,b,.int i t,q⟩
def W7 (X:Cx)(r:V->Option Int->Option Int->Hp->VK->Prop):Prop:=
 ∀(p4:bU)(s:Shared)(σ:St)(H:Hp)(x:V)(v l u:Value)(lo hi:b0)(S:Addr)(Q:VK),Inv X p4 σ H s->RelV x v->s.heap.IsSliceOf S l u .none->IsPart l lo->IsPart u hi->r x lo hi H Q->
  ∃T id,typeLookup (.type T) "__getitem__"=pure (some (.builtin id))/\s.TypeIs v T/\wpAny (model X.prog X.w) X.A (getItem v (.ref S)) (EP X p4 σ Q) X.xe s
def eg (r:V->Option Int->Option Int->Hp->VK->Prop)(T:TE)(t c:TO):TE:=λb H Q=>T b H λx d=>t b d λl a=>c b a λu h=>r x l u h Q
def eh {r:V->Option Int->Option Int->Hp->VK->Prop}(o:W7 X r)(Y:PE X e te)(t:PO X lo tl)(n:PO X hi th):PE X (.Subscript e (.Slice lo hi none p2) p6) (eg r te tl th):=by
 intro P s K H Q I h;refine Subscript_ (qf (Y P s K H _ I h) λv M ⟨x,Z,E,f,j⟩=>?_);refine wpAny_Slice (qf (t P M K Z _ E j) λc L ⟨l,J,D,p,i⟩=>qf (n P L K J _ D i) λa S ⟨u,d,C,N,g⟩=>?_);rw[evalPart_none];refine cm ?_;have B:Inv X P K d { S with heap:=S.heap.push { cls:=.type "slice",data:=.fields #[c,a,.none] } }:=C.kept (t':=S.toks) λb ob q=>af _ q
 obtain⟨T,id,hT,U,y⟩:=o P { S with heap:=S.heap.push { cls:=.type "slice",data:=.fields #[c,a,.none] } } K d x v c a l u S.heap.objs.size Q B f (Heap.IsSliceOf.new ..) p N g
 show wpAny (model X.prog X.w) X.A (subscriptTail e (.Slice lo hi none p2) v (.ref S.heap.objs.size)) (EP X P K Q) X.xe { S with heap:=S.heap.push { cls:=.type "slice",data:=.fields #[c,a,.none] } }
 exact tail_any (ops:=[.ref S.heap.objs.size,v]) U hT y (by with_unfolding_all rfl)
noncomputable def ZO (x:List V)(l h:b0):List V:=(x.drop (HT.qD x.length 0 l)).take (HT.qD x.length x.length h-HT.qD x.length 0 l)
def OZ (x:List V)(l h:b0):(ZO x l h).length<=x.length:=by
 unfold ZO;rw[bb,bE];omega
def ej (K:Frag):V->Option Int->Option Int->Hp->VK->Prop:=λx l h H Q=>∃a X,x=.ref a/\qK K H a X/\
 ¬(HT.qD X.length 0 l=0/\HT.qD X.length X.length h=X.length)/\∀p,H p=none->Q (.ref p) (upd H p (.tup (ZO X l h)))
def eu:W7 X (ej X.K):=by
 intro P s A H x v l u L c S Q I e g p w h;obtain⟨a,j,rfl,f,y,q⟩:=h;cases e;obtain⟨i,r,t,d⟩:=I.tuple f;have n:i.toArray.size=j.length:=by rw[aB];exact r.length.symm
 refine⟨"tuple",_,PyProof.Rows.slot_tuple_getitem.lookup,t.typeIs,?_⟩;refine HT.FC t g p w (by rw[n];exact y) ?_ (by rw[n];exact d)
 rw[n];refine⟨.ref s.heap.objs.size,_,I.laid (t':=s.toks) (o:=.tup (ZO j L c)) (λb ob q=>af _ q) (aq _) ?_,rfl,q _ (I.hok.fresh (aq _))⟩;exact⟨aY (OZ j L c) d,_,(r.drop (HT.qD j.length 0 L)).take (HT.qD j.length j.length c-HT.qD j.length 0 L),ZG.new _ _⟩
def Im (K:Frag):R2:=λx y H Q=>∃a b X Y,x=.ref a/\y=.ref b/\qK K H a X/\qK K H b Y/\X≠[]/\X.length+Y.length<=sizeLine/\
 (Y=[]->Q (.ref a) H)/\(Y≠[]->∀p,H p=none->Q (.ref p) (upd H p (.tup (X++Y))))
def Vals.nil_iff (r:Vals xs us):us=[]↔xs=[]:=by
 cases r with
 |nil=>simp|cons _ _=>simp
def eA:q9 X (binaryOp .Add) (Im X.K):=by
 intro B s D H x y v u Q I f e h;obtain⟨a,b,C,Y,rfl,rfl,A,t,n,d,j,g⟩:=h;cases f;cases e;obtain⟨l,c,P,_⟩:=I.tuple A;obtain⟨i,r,p,_⟩:=I.tuple t;refine HT.zcs P p (λz=>n (c.nil_iff.mp z)) (λz=>⟨.ref a,H,I,rfl,j (r.nil_iff.mp z)⟩) (λz=>?_) (by rw[<- c.length,<- r.length];exact d)
 refine⟨.ref s.heap.objs.size,_,I.laid (t':=s.toks) (o:=.tup (C++Y)) (λb ob q=>af _ q) (aq _) ?_,rfl,g (λw=>z (r.nil_iff.mpr w)) _ (I.hok.fresh (aq _))⟩;exact⟨by rw[av];exact d,_,c.append r,ZG.new _ _⟩
end
noncomputable def gk (n:Nat)(i:Int):Option Nat:=if 0<=i then(if i<n then some i.toNat else none) else if -(n:Int)<=i then some (i+n).toNat else none
def gw (x:List α)(i:Int):Option α:=(gk x.length i).bind λj=>x[j]?
def Ld {i:Int}{j:Nat}(h:gk n i=some j):seqIndex? i n=some j/\j<n/\-(n:Int)<=i/\i<n:=by
 unfold gk at h
 by_cases a:0<=i
 ·rw[ah a]at h
  by_cases H:i<n
  ·rw[ah H]at h
   have e:i.toNat=j:=aI h;exact⟨by rw[seqIndex_of a H,e],by omega,by omega,H⟩
  ·rw[aj H]at h;cases h
 ·rw[aj a]at h
  by_cases H:-(n:Int)<=i
  ·rw[ah H]at h
   have e:(i+n).toNat=j:=aI h;exact⟨by rw[seqIndex_neg (by omega) H,e],by omega,H,by omega⟩
  ·rw[aj H]at h;cases h
def Tp {x:List α}{i:Int}{v:α}(h:gw x i=some v):∃j,seqIndex? i x.length=some j/\x[j]? =some v/\j<x.length/\-(x.length:Int)<=i/\i<x.length:=by
 unfold gw at h;cases e:gk x.length i with
 |none=>rw[e]at h;cases h|some j=>
  rw[e]at h;obtain⟨c,b,a,H⟩:=Ld e;exact⟨j,c,h,b,a,H⟩
def Xo {x:List α}{j:Nat}{v:α}(h:x[j]? =some v):gw x (j:Int)=some v:=by
 have H:j<x.length:=(cw.mp h).1;have e:gk x.length (j:Int)=some j:=by
  unfold gk;rw[ah (by omega),ah (by omega)];simp
 unfold gw;rw[e];exact h
def Mw (b:Expr):Prop:=∀o i,subscripted b false o i=operate [o,i] (getItem o i)
def QU (X:Cx)(r:R2):Prop:=
 ∀(value slice:Expr)(p4:bU)(s:Shared)(σ:St)(H:Hp)(x y:V)(v u:Value)(Q:VK),Inv X p4 σ H s->RelV x v->RelV y u->r x y H Q->
  subscripted slice false v u=operate [v,u] (getItem v u)->wpAny (model X.prog X.w) X.A (subscriptTail value slice v u) (EP X p4 σ Q) X.xe s
def Kj (X:Cx)(id:String)(r:V->List V->Hp->VK->Prop):Prop:=
 ∀(p4:bU)(s:Shared)(σ:St)(H:Hp)(x:V)(xs:List V)(v:Value)(us:bS)(Q:VK),Inv X p4 σ H s->RelV x v->Vals xs us->r x xs H Q->
  wpAny (model X.prog X.w) X.A (call (.builtin id) (v::us)) (EP X p4 σ Q) X.xe s
section
variable {a b:Expr}{ta tb:TE}
def QU.or {r c:R2}(h:QU X r)(g:QU X c):QU X (λx y H Q=>r x y H Q∨c x y H Q):=by
 intro e S p s f H x y v u Q I b a q d;rcases q with q|q
 ·exact h e S p s f H x y v u Q I b a q d
 ·exact g e S p s f H x y v u Q I b a q d
def eB {r:R2}(f:QU X r)(i:PE X a ta)(g:PE X b tb)(e:Mw b):PE X (.Subscript a b p6) (Gf r ta tb):=by
 intro p s n H Q I h;exact Subscript_ (Rt i g I h λv u S x y l j d c q=>f a b p S n l x y v u Q j d c q (e _ _))
def Hd (K:Frag):R2:=λx y H Q=>∃p X i v,x=.ref p/\y=.int i/\jm K H p X/\gw X i=some v/\Q v H
def He (K:Frag):R2:=λx y H Q=>∃p X i v,x=.ref p/\y=.int i/\qK K H p X/\gw X i=some v/\Q v H
def Hi:R2:=λx y H Q=>∃z i c,x=.str z/\y=.int i/\z.length<=sizeLine/\gw z.cps.toList i=some c/\Q (.str ⟨#[c]⟩) H
def eC:QU X (Hd X.K):=by
 intro L S D s M H x y v u Q I g f h d;obtain⟨p,Z,i,z,rfl,rfl,l,U,q⟩:=h;cases g;obtain⟨t,rfl⟩:=f;obtain⟨b,r,P,B⟩:=I.list l;obtain⟨j,J,Y,C,A,o⟩:=Tp U;obtain⟨w,e,a⟩:=r.get Y;have n:=r.length;have hn:=YT;have E:EP X D M Q w s:=⟨z,H,I,a,q⟩
 by_cases N:0<=i
 ·have c:i.toNat=j:=by
   rw[seqIndex_of N o]at J;exact aI J
  exact item_listR P.isList N (by omega) (by rw[c];simpa using e) E d
 ·have c:(i+(b.toArray.size:Int)).toNat=j:=by
   rw[seqIndex_neg (by omega) A]at J
   rw[aB,<- n];exact aI J
  exact subscriptTail_builtinR (x:=w) P.isList.typeIs slot_list_getitem.lookup
   (wpAny_getItem_list_neg (Q:=λr T=>r=w/\EP X D M Q r T) P.isList (by omega) (by rw[aB]<;>omega) (by omega) (by rw[c];simpa using e) ⟨rfl,E⟩) d
def eD:QU X (He X.K):=by
 intro C S B s J H x y v u Q I c b h e;obtain⟨p,U,i,z,rfl,rfl,f,M,q⟩:=h;cases c;obtain⟨t,rfl⟩:=b;obtain⟨d,r,P,g⟩:=I.tuple f;obtain⟨j,T,N,A,o,n⟩:=Tp M;obtain⟨w,E,a⟩:=r.get N;have l:=r.length;have Y:=YT;have D:EP X B J Q w s:=⟨z,H,I,a,q⟩;exact subscriptTail_builtinR (x:=w) P.typeIs slot_tuple_getitem.lookup
  (getItem_tuple (j:=j) (Q:=λr L=>r=w/\EP X B J Q r L) P (by omega) (by omega) (by rw[aB,<- l];exact T) (by simpa using E) ⟨rfl,D⟩) e
def eE:QU X Hi:=by
 intro o S p s C H x y v u Q I a r h b;obtain⟨z,i,c,rfl,rfl,g,A,q⟩:=h;obtain⟨t,rfl⟩:=a;obtain⟨T,rfl⟩:=r;obtain⟨j,w,B,n,e,d⟩:=Tp A;have l:z.cps.toList.length=z.length:=by simp[Str.length]
 rw[l]at w e d;have D:=YT;exact tail_any (typeIs_str s z t) slot_str_getitem.lookup (getItem_str (c:=c) (by
  have f:decide (i < -(2 ^ 63:Int))=false:=aH (by omega)
  have E:decide (i ≥ 2 ^ 63)=false:=aH (by omega)
  rw[f,E,Bool.or_false]) (by rw[w];simpa using B) ⟨.str ⟨#[c]⟩,H,I.tok _,⟨_,rfl⟩,q⟩) b
def HU (K:Frag):R2:=λx y H Q=>Hd K x y H Q∨He K x y H Q∨Hi x y H Q
def eF:QU X (HU X.K):=eC.or (eD.or eE)
def CO (i:bS)(n j:Nat)(u:Value):Obj.mapSeq (·.setIfInBounds j u) { cls:=.type "list",data:=.seq i.toArray n }={ cls:=.type "list",data:=.seq (i.set j u).toArray n }:=by
 simp[Obj.mapSeq]
theorem Inv.lst {P:bU}{a:St}{H:Hp}{s:Shared}{p:Addr}{x:List V}(I:Inv X P a H s)(h:H p=some (.lst x)):
  ∃(i:bS) (n:Nat),Vals x i/\s.heap.get? p=some { cls:=.type "list",data:=.seq i.toArray n }/\x.length<=sizeLine:=by
 obtain⟨z,i,n,r,e⟩:=I.hok p _ h;exact⟨i,n,r,e,z⟩
def Inv.lstUpd {s:Shared}{p:Addr}{i:bS}{N:Nat}{f:Obj->Obj}(I:Inv X p4 σ H s)(h:H p=some (.lst xs))
  (o:s.heap.get? p=some { cls:=.type "list",data:=.seq p9.toArray n })(d:f { cls:=.type "list",data:=.seq p9.toArray n }={ cls:=.type "list",data:=.seq i.toArray N })(r:Vals ys i)(a:ys.length<=sizeLine)(t:Nat):
  Inv X p4 σ (upd H p (.lst ys)) { s with heap:=s.heap.update p f,toks:=t }:=by
 have e:(s.heap.update p f).get? p=some { cls:=.type "list",data:=.seq i.toArray N }:=by
  rw[Heap.get?_update_self f o (by rw[d]<;>rfl),d]
 refine I.write (x:=p) (e:=p) (by rw[h];trivial) (.inl rfl) (λb u c q=>(bo _ _ (Ne.symm c)).trans q) ⟨_,e⟩ ?_
 exact⟨a,i,N,r,e⟩
def IH:V->V->V->Hp->(Hp->Prop)->Prop:=λo i v H Q=>∃p x k j,o=.ref p/\i=.int k/\H p=some (.lst x)/\gk x.length k=some j/\Q (upd H p (.lst (x.set j v)))
def set_list:Vb X IH:=by
 intro P s J H o i v B C u Q I ro x w h;obtain⟨p,K,k,j,rfl,rfl,d,A,q⟩:=h;cases ro;obtain⟨t,rfl⟩:=x;obtain⟨a,n,r,b,y⟩:=I.lst d;obtain⟨D,M,f,e⟩:=Ld A;have l:=r.length;have L:=YT;have g:Inv X P J (upd H p (.lst (K.set j v))) { s with heap:=s.heap.update p (Obj.mapSeq (·.setIfInBounds j u)) }:=
  I.lstUpd d b (CO a n j u) (r.set w j) (by rw[bN];exact y) s.toks
 by_cases E:0<=k
 ·have c:k.toNat=j:=by
   rw[seqIndex_of E e]at D;exact aI D
  exact PySem.W.ki_setAt b E (by omega) (by rw[aB,<- l];exact e) (by rw[c];exact⟨_,g,q⟩)
 ·have c:(k+(a.toArray.size:Int)).toNat=j:=by
   rw[seqIndex_neg (by omega) f]at D
   rw[aB,<- l];exact aI D
  exact PySem.W.ki_setBack b (by omega) (by rw[aB,<- l];exact f) (by omega) (by rw[c];exact⟨_,g,q⟩)
def D5 (l H:b0)(n:Nat):(sliceBounds l H none n).1=((HT.qD n 0 l:Nat):Int)/\(sliceBounds l H none n).2.1=((HT.qD n n H:Nat):Int)/\(sliceBounds l H none n).2.2=1:=by
 refine⟨?_,?_,rfl⟩
 ·cases l with
  |none=>simp[sliceBounds,HT.qD]|some i=>
   simp only[sliceBounds,HT.qD,getD_none,show(1:Int) > 0 by decide,if_true]
   by_cases h:i<0
   ·simp only[h,if_true]<;>omega
   ·simp only[h,if_false]<;>omega
 ·cases H with
  |none=>simp[sliceBounds,HT.qD]|some i=>
   simp only[sliceBounds,HT.qD,getD_none,show(1:Int) > 0 by decide,if_true]
   by_cases h:i<0
   ·simp only[h,if_true]<;>omega
   ·simp only[h,if_false]<;>omega
def Er (i:bS)(l h:b0):slicePick i.toArray l h none=((i.drop (HT.qD i.length 0 l)).take (HT.qD i.length i.length h-HT.qD i.length 0 l)).toArray:=by
 obtain⟨b,a,H⟩:=D5 l h i.toArray.size;unfold slicePick;rw[b,a,H];simp only[sliceRange_one,pick_run,aB]<;>rfl
def Hr (K:Frag):V->Option Int->Option Int->Hp->VK->Prop:=λx l h H Q=>∃a X,x=.ref a/\jm K H a X/\∀p,H p=none->Q (.ref p) (upd H p (.lst (ZO X l h)))
def eG:W7 X (Hr X.K):=by
 intro P s y H x v l u L i S Q I c g p w h;obtain⟨a,j,rfl,f,q⟩:=h;cases c;obtain⟨d,r,t,e⟩:=I.list f;have n:=r.length;refine⟨"list",_,slot_list_getitem.lookup,t.isList.typeIs,?_⟩;refine wpAny_getItem_list_slice t.isList g p w .none (by simp) ?_ (by rw[aB]<;>omega)
 rw[Er,<- n];refine⟨.ref s.heap.objs.size,_,I.laid (t':=s.toks) (o:=.lst (ZO j L i)) (λb ob q=>af _ q) (aq _) ?_,rfl,q _ (I.hok.fresh (aq _))⟩;exact⟨aY (OZ j L i) e,_,0,(r.drop (HT.qD j.length 0 L)).take (HT.qD j.length j.length i-HT.qD j.length 0 L),aC _ rfl⟩
noncomputable def wD:V->Bool
 |.non=>true|.bl _=>true|.int _=>true|.str _=>true|_=>false
noncomputable def gT:V->V->Bool
 |.non,.non=>true|.bl a,.bl b=>a==b|.bl a,.int b=>(if a then 1 else 0)==b|.int a,.bl b=>a==(if b then 1 else 0)|.int a,.int b=>a==b|.str a,.str b=>a==b|_,_=>false
def eH {A:Around}{s:Shared}{y x:V}{v:Value}(c:RelV y u)(r:RelV x v)(d:wD y=true)(f:wD x=true):SeqAt.EqAt A s u v (gT y x):=by
 cases y with
 |non=>
  cases c;cases x with
  |non=>cases r;exact SeqAt.EqAt.same _|bl b=>cases r;exact SeqAt.EqAt.none_bool b|int b=>obtain⟨t,rfl⟩:=r;exact SeqAt.EqAt.none_int b t|str b=>obtain⟨t,rfl⟩:=r;exact SeqAt.EqAt.none_str b t|_=>exact absurd (show false=true from f) aF
 |bl a=>
  cases c;cases x with
  |non=>cases r;exact SeqAt.EqAt.bool_none a|bl b=>cases r;exact SeqAt.EqAt.bool_bool a b|int b=>obtain⟨t,rfl⟩:=r;exact SeqAt.EqAt.bool_int a b t|str b=>obtain⟨t,rfl⟩:=r;exact SeqAt.EqAt.bool_str a b t|_=>exact absurd (show false=true from f) aF
 |int a=>
  obtain⟨T,rfl⟩:=c;cases x with
  |non=>cases r;exact SeqAt.EqAt.int_none a T|bl b=>cases r;exact SeqAt.EqAt.int_bool a T b|int b=>obtain⟨t,rfl⟩:=r;exact SeqAt.EqAt.int_int a T b t|str b=>obtain⟨t,rfl⟩:=r;exact SeqAt.EqAt.int_str a T b t|_=>exact absurd (show false=true from f) aF
 |str a=>
  obtain⟨T,rfl⟩:=c;cases x with
  |non=>cases r;exact SeqAt.EqAt.str_none a T|bl b=>cases r;exact SeqAt.EqAt.str_bool a T b|int b=>obtain⟨t,rfl⟩:=r;exact SeqAt.EqAt.str_int a T b t|str b=>obtain⟨t,rfl⟩:=r;exact SeqAt.EqAt.str_str a T b t|_=>exact absurd (show false=true from f) aF
 |_=>exact absurd (show false=true from d) aF
def Zt (x:V)(u:Value):Bool:=match u with
 |.none=>gT .non x|.bool b=>gT (.bl b) x|.int i _=>gT (.int i) x|.str z _=>gT (.str z) x|_=>false
def T7 {x y:V}(r:RelV y u)(f:wD y=true):Zt x u=gT y x:=by
 cases y with
 |non=>cases r;rfl|bl b=>cases r;rfl|int i=>obtain⟨t,rfl⟩:=r;rfl|str z=>obtain⟨t,rfl⟩:=r;rfl|_=>exact absurd (show false=true from f) aF
theorem U7 {x:V}:∀{X:List V}{U:bS},Vals X U->X.all wD=true->U.any (Zt x)=X.any λy=>gT y x
 |_,_,.nil,_=>rfl|y::X,u::U,.cons r t,f=>by
  rw[List.all_cons,ak]at f;rw[any_cons,any_cons,T7 r f.1,U7 t f.2]
theorem K9 {A:Around}{s:Shared}{x:V}{v:Value}(a:RelV x v)(b:wD x=true):∀{X:List V}{c:bS},Vals X c->X.all wD=true->∀u∈c,SeqAt.EqAt A s u v (Zt x u)
 |_,_,.nil,_=>λu h=>by cases h|y::X,u::c,.cons r t,f=>λU h=>by
  rw[List.all_cons,ak]at f;rcases cu.mp h with rfl|h
  ·rw[T7 r f.1];exact eH r a f.1 b
  ·exact K9 a b t f.2 U h
def Vo (x:V)(X:List V):Bool:=X.any λy=>gT y x
def HS (K:Frag)(n:Bool):R2:=λx y H Q=>∃p X,y=.ref p/\(jm K H p X∨qK K H p X)/\wD x=true/\X.all wD=true/\Q (.bl (if n then !Vo x X else Vo x X)) H
def B6:q9 X (compareOp .In) (HS X.K false):=by
 intro g s j H x y v u Q I b c h;obtain⟨p,l,rfl,a,f,fs,q⟩:=h;cases c;rcases a with a|a
 ·obtain⟨i,r,P,d⟩:=I.list a
  refine SeqAt.in_listAt (Zt x) P.isList (λw e=>K9 b f r fs w (by simpa using e)) ⟨.bl _,H,I,rfl,?_⟩
  rw[show i.toArray.any (Zt x)=i.any (Zt x) by simp,U7 r fs]
  exact q
 ·obtain⟨i,r,P,d⟩:=I.tuple a
  refine SeqAt.in_tupleAt (Zt x) P (λw e=>K9 b f r fs w (by simpa using e)) ⟨.bl _,H,I,rfl,?_⟩
  rw[show i.toArray.any (Zt x)=i.any (Zt x) by simp,U7 r fs]
  exact q
def DJ:yJ X (.builtin "len") (λxs H Q=>∃p ys,xs=[.ref p]/\(jm X.K H p ys∨qK X.K H p ys)/\Q (.int ys.length) H):=by
 intro d s e H xs U Q I r h;obtain⟨p,ys,rfl,a,q⟩:=h;obtain⟨u,rfl,x⟩:=vals1 r;cases x;have f:=YT;rcases a with a|a
 ·obtain⟨i,b,P,c⟩:=I.list a
  have n:=b.length;exact Calls.call_len_list P.isList (by simp only[aB]<;>omega) ⟨.int ys.length,H,I.tok _,⟨s.toks+1,by rw[aB,n]⟩,q⟩
 ·obtain⟨i,b,P,c⟩:=I.tuple a
  have n:=b.length;exact len_tuple P (by simp only[aB]<;>omega) ⟨.int ys.length,H,I.tok _,⟨s.toks+1,by rw[aB,n]⟩,q⟩
def Dv:yJ X (.type "list") (λxs H Q=>∃p ys,xs=[.ref p]/\(jm X.K H p ys∨qK X.K H p ys)/\∀l,H l=none->Q (.ref l) (upd H l (.lst ys))):=by
 intro j s C H xs U Q I r h;obtain⟨p,ys,rfl,f,q⟩:=h;obtain⟨u,rfl,x⟩:=vals1 r;cases x;have y:∀(p9:bS),Vals ys p9->ys.length<=sizeLine->∀(h':Heap)(c:Nat),(∀b B,s.heap.get? b=some B->h'.get? b=some B)->
   h'.get? s.heap.objs.size=some { cls:=.type "list",dict:=none,data:=.seq p9.toArray c,slots:=#[] }->EP X j C Q (.ref s.heap.objs.size) { s with heap:=h' }:=λp9 a d h' c t e=>
  ⟨.ref s.heap.objs.size,_,I.laid (t':=s.toks) t (aq _) (show jg X.prog X.w _ h' _ (.lst ys) from ⟨d,p9,c,a,e⟩),rfl,q _ (I.hok.fresh (aq _))⟩
 rcases f with f|f
 ·obtain⟨p9,a,P,d⟩:=I.list f
  have v:=a.length;obtain⟨o,g,i,n,A⟩:=P.isList;exact call_list_seq p (.inl rfl) g i A (λh' c t e=>y p9 a d h' c t e) (by simp only[aB]<;>omega)
 ·obtain⟨p9,a,P,d⟩:=I.tuple f
  have v:=a.length;obtain⟨o,g,i,n,A⟩:=P;exact call_list_seq p (.inr rfl) g i A (λh' c t e=>y p9 a d h' c t e) (by simp only[aB]<;>omega)
def E6:yJ X (.type "tuple") (λxs H Q=>∃p ys,xs=[.ref p]/\((jm X.K H p ys/\∀l,H l=none->Q (.ref l) (upd H l (.tup ys)))∨(qK X.K H p ys/\Q (.ref p) H))):=by
 intro j s t H xs U Q I r h;obtain⟨p,ys,rfl,h⟩:=h;obtain⟨u,rfl,x⟩:=vals1 r;cases x;rcases h with ⟨c,q⟩|⟨c,q⟩
 ·obtain⟨i,a,P,d⟩:=I.list c
  have v:=a.length;refine call_tuple_list P.isList (λn y=>?_) (by simp only[aB]<;>omega)
  have f:Inv X j t H { s with heap:=n }:=I.kept (t':=s.toks) y
  have g:Inv X j t (upd H n.objs.size (.tup ys)) { s with heap:=n.push { cls:=.type "tuple",data:=.seq i.toArray } }:=
   f.laid (t':=s.toks) (λb o e=>af _ e) (aq _) (show jg X.prog X.w _ _ _ (.tup ys) from ⟨d,i,a,ZG.new _ _⟩)
  exact⟨.ref n.objs.size,_,g,rfl,q _ (f.hok.fresh (aq _))⟩
 ·obtain⟨i,a,P,d⟩:=I.tuple c
  exact call_tuple_same P ⟨.ref p,H,I,rfl,q⟩
def Vy (K:Frag)(T:String)(x:V)(H:Hp):Prop:=match x with
 |.str _=>T = "str"
 |.int _=>T = "int"
 |.ref p=>(T = "list" /\ ∃X,jm K H p X)∨(T = "tuple" /\ ∃o,K.lookup p=some o/\o.cls=.type "tuple" /\ o.dict=none)∨
   (T = "dict" /\ ((∃a,H p=some (.dK a))∨∃a,H p=some (.dT a)))∨(T = "set" /\ ∃S n,H p=some (.set S n))
 |_=>False
def eI {s:Shared}{T:String}{x:V}{v:Value}(I:Inv X p4 σ H s)(r:RelV x v)(ty:Vy X.K T x H):
  s.TypeIs v T/\∀a,v=.ref a->∃ob,s.heap.get? a=some ob/\ob.dict=none:=by
 cases x with
 |str z=>
  obtain⟨t,rfl⟩:=r;cases (show T = "str" from ty)
  exact⟨typeIs_str s z t,λ_ e=>nomatch e⟩
 |int i=>
  obtain⟨t,rfl⟩:=r;cases (show T = "int" from ty)
  exact⟨typeIs_int s i t,λ_ e=>nomatch e⟩
 |ref p=>
  cases r;rcases ty with ⟨rfl,j,q⟩|⟨rfl,o,h,d,hd⟩|⟨rfl,h⟩|⟨rfl,S,n,h⟩
  ·obtain⟨b,_,P,_⟩:=I.list q
   refine⟨P.isList.typeIs,λa e=>?_⟩;cases e;obtain⟨o,n,e,c,hd,_⟩:=P;exact⟨o,e,hd⟩
  ·refine⟨⟨o,I.kIn p o h,d⟩,λa e=>?_⟩
   cases e;exact⟨o,I.kIn _ o h,hd⟩
  ·have z:∃o,s.heap.get? p=some o/\o.ExactDict:=by
    rcases h with ⟨g,h⟩|⟨g,h⟩
    ·obtain⟨_,_,_,_,o,_,_,e,f,_⟩:=I.hok p _ h
     exact⟨o,e,f⟩
    ·obtain⟨_,_,_,_,o,_,_,e,f,_⟩:=I.hok p _ h
     exact⟨o,e,f⟩
   obtain⟨o,e,f⟩:=z;refine⟨⟨o,e,f.1⟩,λa E=>?_⟩;cases E;exact⟨o,e,f.2.1⟩
  ·obtain⟨o,_,_,_,e,f,_⟩:=I.hok p _ h
   refine⟨⟨o,e,f.1⟩,λa E=>?_⟩;cases E;exact⟨o,e,f.2.1⟩
 |_=>exact False.elim ty
def eJ (K:Frag)(T:String)(r:V->List V->Hp->VK->Prop)(to:TE)(t:TA):TE:=λa H Q=>to a H λx b=>Vy K T x b/\t a b λX h=>r x X h Q
variable {o:Expr}{es:bZ}{to:TE}{t:TA}{name:Str}{T id:String}{r:V->List V->Hp->VK->Prop}
def Iv (p:PlainAttrs T)(S:Slot T name id)(y:typeOf (.builtin id)=pure (.type "method_descriptor"))(L:Kj X id r)(j:PE X o to)(l:PA X (e::es) t)
  (b:attributeBase o name X.env (eval o X.env)=eval o X.env:=by rfl)
  (w:((backTo p7 (starEach (e::es) X.env)).all (λx=>!x.1)&&(backToKw p7 (keywordEach [] X.env)).all (λx=>x.1.isSome)
   && decide ((e::es).length+([]:cc).length+(if ([]:cc).isEmpty then 0 else 1)<30))=true:=by rfl)
  (a:(rb.endLine==p7.line)=true:=by rfl)(g:starEach (e::es) X.env=(false,eval e X.env)::starEach es X.env:=by rfl)(n:(backTo p7 (starEach es X.env)).any (·.1)=false:=by rfl):
  PE X (.Call (.Attribute o name rb) (e::es) [] p7) (eJ X.K T r to t):=by
 intro P s C H Q I h;refine wpAny_Call_method_late b w a rfl (qf (j P s C H _ I h) λv J ⟨x,Y,i,c,ty,f⟩=>?_);obtain⟨N,M⟩:=eI i c ty;refine⟨T,id,p,S,y,N,M,?_⟩;have A:=l p7 P J C Y _ i f;rw[g]at A ⊢;refine Calls.callWith_builtin (by show(false || (backTo p7 (starEach es X.env)).any (·.1))=false;rw[n]<;>rfl) (Calls.evalArgs_plain ?_)
 exact qf A λU E ⟨D,B,u,d,q⟩=>L P E C B x D v U Q u c d q
end
def RK (X:Cx)(id:String)(r:V->List V->Hp->VK->Prop):Prop:=
 ∀(p4:bU)(s:Shared)(σ:St)(H:Hp)(x:V)(xs:List V)(v:Value)(us:bS)(Q:VK),Inv X p4 σ H s->RelV x v->Vals xs us->r x xs H Q->
  wpAny (model X.prog X.w) X.A (call (.builtin id) (v::us)) (EP X p4 σ Q) X.xe s
def Vals.one {x:V}(h:Vals [x] us):∃u,us=[u]/\RelV x u:=by
 cases h with
 |cons r t=>cases t;exact⟨_,rfl,r⟩
def Vals.two {x y:V}(h:Vals [x,y] us):∃u v,us=[u,v]/\RelV x u/\RelV y v:=by
 cases h with
 |cons r t=>exact(Vals.one t).elim λv e=>⟨_,v,by rw[e.1],r,e.2⟩
theorem Vals.zero:∀{u:bS},Vals [] u->u=[]
 |_,.nil=>rfl
theorem Vals.eraseIdx:∀{x:List V}{u:bS}(i:Nat),Vals x u->Vals (x.eraseIdx i) (u.eraseIdx i)
 |_,_,_,.nil=>.nil|_,_,0,.cons _ t=>t|_,_,i+1,.cons r t=>.cons r (Vals.eraseIdx i t)
theorem Vals.rep (h:Vals xs us):∀k:Nat,Vals (List.replicate k xs).flatten (List.replicate k us).flatten
 |0=>.nil|k+1=>by
  rw[a9,a9,a6,a6];exact Vals.append h (Vals.rep h k)
theorem Np:∀(l:List α)(i:Nat),(l.eraseIdx i).length<=l.length
 |[],_=>aq _|_::_,0=>Nat.le_succ _|_::r,i+1=>Nat.succ_le_succ (Np r i)
theorem foldl_rep (i:bS):∀(k:Nat)(a:bS),
  List.foldl (λx1 x2=>x1++x2) a.toArray (List.replicate k i.toArray)=(a++(List.replicate k i).flatten).toArray
 |0,a=>by simp|k+1,a=>by
  have e:a.toArray++i.toArray=(a++i).toArray:=by simp
  have E:(a++i)++(List.replicate k i).flatten=a++(List.replicate (k+1) i).flatten:=by
   rw[a9,a6,aP]
  rw[<- E,<- foldl_rep i k (a++i),<- e,a9,List.foldl_cons]
section
variable {s:Shared}{l:Addr}
def Inv.lset {its':bS}{f:Array Value->Array Value}(I:Inv X p4 σ H s)(c:H l=some (.lst xs))
  (e:s.heap.get? l=some { cls:=.type "list",data:=.seq p9.toArray n })(d:f p9.toArray=its'.toArray)(v:Vals ys its')(h:ys.length<=sizeLine):
  Inv X p4 σ (upd H l (.lst ys)) { s with heap:=s.heap.update l (Obj.mapSeq f),toks:=t' }:=by
 have q:=PySem.IsL.update e f;rw[d]at q;refine I.write (x:=l) (e:=l) (by rw[c];exact trivial) (.inl rfl) (λB u b a=>(bo s.heap (Obj.mapSeq f) (Ne.symm b)).trans a) ⟨_,q⟩ ?_
 exact⟨h,its',_,v,q⟩
def Inv.lnew (I:Inv X p4 σ H s)(v:Vals ys p9)(h:ys.length<=sizeLine):
  Inv X p4 σ (upd H s.heap.objs.size (.lst ys)) { s with heap:=s.heap.push { cls:=.type "list",data:=.seq p9.toArray },toks:=t' }:=
 I.laid (λ_ _ q=>af _ q) (aq _) ⟨h,p9,0,v,aC _ rfl⟩
theorem Inv.fresh (I:Inv X p4 σ H s):H s.heap.objs.size=none:=I.hok.fresh (aq _)
def Inv.lstM (I:Inv X p4 σ H s)(h:H l=some (.lst xs)):xs.length<=sizeLine/\∃(i:bS) (n:Nat),Vals xs i/\xs.length=i.length/\s.heap.get? l=some { cls:=.type "list",data:=.seq i.toArray n }:=by
 obtain⟨z,i,n,r,e⟩:=I.hok l _ h;exact⟨z,i,n,r,r.length,e⟩
def N6 (h:n<=sizeLine):Builtin.List.listTooLong n=false:=by
 unfold Builtin.List.listTooLong;exact aH (by omega)
end
section
def eK:V->List V->Hp->VK->Prop:=λx v H Q=>∃l X y,x=.ref l/\v=[y]/\H l=some (.lst X)/\X.length<sizeLine/\Q .non (upd H l (.lst (X++[y])))
def ND:RK X "list.append" eK:=by
 intro p s j H x t v U Q I b c h;obtain⟨l,o,y,rfl,rfl,a,f,q⟩:=h;cases b;obtain⟨u,rfl,d⟩:=c.one;obtain⟨z,i,n,r,g,e⟩:=I.lstM a;refine call_meets F.slot_list_append ⟨_,e,rfl⟩ F.entry_list_append (F.args_list_append_2 _ _) (PySem.list_append l i.toArray n u (by rw[aB];omega)) ⟨e,?_⟩
 refine⟨.non,_,I.lset (its':=i++[u]) a e (by simp) (r.append (.cons d .nil)) ?_,rfl,q⟩
 rw[av,aW];omega
def eL:V->List V->Hp->VK->Prop:=λx v H Q=>∃l b X Z,x=.ref l/\v=[.ref b]/\H l=some (.lst X)/\H b=some (.lst Z)/\X.length+Z.length<=sizeLine/\Q .non (upd H l (.lst (X++Z)))
def Bi:RK X "list.extend" eL:=by
 intro P s A H x J v U Q I f j h;obtain⟨l,b,D,C,rfl,rfl,d,B,w,q⟩:=h;cases f;obtain⟨u,rfl,o⟩:=j.one;cases o;obtain⟨z,a,n,r,y,e⟩:=I.lstM d;obtain⟨Z,i,N,p,t,E⟩:=I.lstM B;have c:a.toArray.size+i.toArray.size<=sizeLine:=by rw[aB,aB];omega
 have g:¬(!a.toArray.isEmpty&&Builtin.List.listTooLong (a.toArray.size+i.toArray.size))=true:=by
  rw[N6 c,Bool.and_false];exact aF
 refine call_meets F.slot_list_extend ⟨_,e,rfl⟩ F.entry_list_extend (F.args_list_extend_2 _ _)
  (AutoSeq1.list_extend_list_list_0 l a.toArray n b i.toArray N g (by rw[aB];omega) (by omega)) ⟨e,E,?_⟩
 refine⟨.non,_,I.lset (its':=a++i) d e (by simp) (r.append p) ?_,rfl,q⟩
 rw[av];omega
def eM:V->List V->Hp->VK->Prop:=λx v H Q=>∃l X i k y,x=.ref l/\v=[.int i]/\H l=some (.lst X)/\-(2 ^ 63)<=i/\i<2 ^ 63/\seqIndex? i X.length=some k/\X[k]? =some y/\Q y (upd H l (.lst (X.eraseIdx k)))
def eN:RK X "list.pop" eM:=by
 intro P s E H x J v U Q I d f h;obtain⟨l,A,i,k,y,rfl,rfl,c,D,C,p,j,q⟩:=h;cases d;obtain⟨u,rfl,g⟩:=f.one;obtain⟨t,rfl⟩:=g;obtain⟨z,a,n,r,o,e⟩:=I.lstM c;obtain⟨w,B,b⟩:=r.get j;refine call_meets F.slot_list_pop ⟨_,e,rfl⟩ F.entry_list_pop (F.args_list_pop_2 _ _)
  (MeetsSeq.list_pop_at l a.toArray n i t k w (fitsIndex_both D C) (by rw[aB,<- o];exact p) (by rw[<- Array.getElem?_toList];exact B) (by rw[aB];omega)) ⟨e,?_⟩
 refine⟨y,_,I.lset (its':=a.eraseIdx k) c e ?_ (r.eraseIdx k) ?_,b,q⟩
 ·show a.toArray.eraseIdxIfInBounds k=(a.eraseIdx k).toArray
  rw[List.eraseIdxIfInBounds_toArray]
 ·have:=Np A k
  omega
def I9:R2:=λx y H Q=>∃l b X Z,x=.ref l/\y=.ref b/\H l=some (.lst X)/\H b=some (.lst Z)/\X.length+Z.length<=sizeLine/\∀p,H p=none->Q (.ref p) (upd H p (.lst (X++Z)))
def eO:q9 X (binaryOp .Add) I9:=by
 intro w s A H x y v u Q I d c h;obtain⟨l,b,D,C,rfl,rfl,j,B,p,q⟩:=h;cases d;cases c;obtain⟨z,a,n,r,t,e⟩:=I.lstM j;obtain⟨Z,i,N,f,g,o⟩:=I.lstM B;refine PySem.P.add_list e o ?_ (by rw[aB,aB];omega)
 have E:a.toArray++i.toArray=(a++i).toArray:=by simp
 rw[E];exact⟨.ref _,_,I.lnew (t':=s.toks) (r.append f) (by rw[av];omega),rfl,q _ I.fresh⟩
def Hh:R2:=λx y H Q=>∃l k X,x=.ref l/\y=.int k/\H l=some (.lst X)/\-(2 ^ 63)<=k/\k<2 ^ 63/\X.length * k.toNat<=sizeLine/\
 ∀p,H p=none->Q (.ref p) (upd H p (.lst (List.replicate k.toNat X).flatten))
def len_rep (x:List α)(k:Nat):(List.replicate k x).flatten.length=k * x.length:=by
 induction k with
 |zero=>simp|succ k i=>rw[a9,a6,av,i,succ_mul,add_comm]
def eQ:q9 X (binaryOp .Mult) Hh:=by
 intro P s L H x y v u Q I f d h;obtain⟨l,k,M,rfl,rfl,o,J,E,c,q⟩:=h;cases f;obtain⟨t,rfl⟩:=d;obtain⟨z,i,n,r,j,e⟩:=I.lstM o;have B:i.toArray.size * k.toNat<=sizeLine:=by rw[aB,<- j];exact c
 have p:¬i.toArray.size * k.toNat > (2 ^ 63-1)/8:=by
  have:(sizeLine:Nat)<=(2 ^ 63-1)/8:=by decide
  omega
 have b:¬(!Builtin.List.listFitsIndex k)=true:=by
  rw[fitsIndex_both J E];exact aF
 have g:¬Builtin.List.listTooLong (i.toArray.size * k.toNat)=true:=by
  rw[N6 B];exact aF
 have w:List.foldl (λD C=>D++C) #[] (List.replicate (if i.toArray.isEmpty=true then 0 else k.toNat) i.toArray)=(List.replicate k.toNat i).flatten.toArray:=by
  have K:∀m:Nat,List.foldl (λD C=>D++C) #[] (List.replicate m i.toArray)=(List.replicate m i).flatten.toArray:=λm=>by
   have:=foldl_rep i m []
   rw[bM]at this;exact this
  rw[K];cases i with
  |nil=>simp|cons a A=>rw[aj (by simp)]
 refine wpAny_binaryOp_repeat_ref (T := "list") (U := "int") (by decide) ⟨_,e,rfl⟩ (λS=>typeIs_int S k t) noFill_list_mul F.fills_int_mul F.slot_int_rmul repeat_list F.slot_int_index.lookup
  (call_meets F.slot_int_rmul (typeIs_int s k t) F.entry_int_rmul (F.args_int_rmul_2 _ _) (int___rmul___int_list k t l i.toArray n)
   ⟨e,rfl,⟨_,e,rfl⟩,call_meets F.slot_list_mul ⟨_,e,rfl⟩ F.entry_list_mul (F.args_list_mul_2 _ _) (AutoListH.list___mul___list_int_3 l i.toArray n k t b p g) ⟨e,?_⟩⟩)
 rw[w];exact⟨.ref _,_,I.lnew (t':=s.toks) (r.rep k.toNat) (by rw[len_rep,mul_comm];exact c),rfl,q _ I.fresh⟩
end
section
set_option maxRecDepth 100000 in
end
end L2
namespace Att
open PySem PySem.W PySem.Calls PyProof.Rows
def FX {P:Params}:∀(N:bR)(v:bS),WellAll P h v (N.map WData.int)->IntsAre v N:=by
 intro N
 induction N with
 |nil=>
  intro v w;rw[map_nil]at w;cases w;exact .nil
 |cons n N i=>
  intro v w;rw[aR]at w;cases w with
  |cons a b=>
   cases a;exact .cons _ _ (i _ b)
def Bf {l:OpenLaw}(u:l.most=some n){P:Params}{A:List WData}{v:bS}
  (H:l.row.toRowW.claim.pre A=true)(f:WellAll P h v A):
  ∃a vs ns,v=[Value.ref a]/\A=[WData.list (ns.map WData.int)]/\h.get? a=some { cls:=.type "list",data:=.seq vs.toArray }/\IntsAre vs ns/\ns.length<=n:=by
 have g:WShape.hasAll [] A [.list .int]=true:=(pre_splitW H).1;have i:l.pre.holds [] { args:=A }=true:=(pre_splitW H).2;obtain⟨d,r,rfl,y,x⟩:=hasAllW_cons g;obtain rfl:=hasAllW_nil x;obtain⟨X,rfl,p⟩:=hasW_list y;obtain⟨ns,rfl⟩:=items_int p;have t:ns.length<=n:=by
  unfold OpenLaw.pre at i;have e:(WTm.not (.lt (.lit (.int (n:Int))) (.len (.arg 0)))).holds [] { args:=[.list (ns.map .int)] }=true:=by
   have e:=(holds_andW i).1;rw[u]at e;exact e
  have c:=condW_of e (w_not (w_lt w_lit (w_len_list (w_arg rfl))));rw[ag]at c;refine Nat.le_of_not_lt λq=>?_;have Q:(n:Int)<((ns.length:Nat):Int):=by omega
  first
   |(rw[az Q]at c;exact absurd c (by decide))
   |(simp at c;omega)
 cases f with
 |cons j w=>
  cases w;cases j with
  |list o b=>exact⟨_,_,ns,rfl,rfl,o,FX ns _ b,t⟩
def Ad (l:OpenLaw)(a:List WData):l.row.toRowW.claim.post a (.bool true) a=true:=
 postW_of (r:=l.row.toRowW) (X:=(true==true))
  (show WShape.has [] (.bool true) .bool=true by first|rfl|decide|simp[WShape.has,WShape.arms,WShape.armsAll])
  (show(WTm.eq .res (.lit (.bool true))).value [] { args:=a,res:=some (.bool true),after:=a }=some (.bool (true==true)) from w_eq_bool (w_res rfl) w_lit) rfl
def D6 {l:OpenLaw}{q:Program}{L:bX}{P:World->Heap->Prop}{d:DefRec}
  (U:l.most=some n)(e:d.params.defaults=[])
  (call:∀(w:World)(b S:Shared)(M T:b8)(fa:Addr)(o:Obj)(Q K E:Value)(a:Addr)(I:bS)(N:bR),
   Ground q L [] XP w b M T S.heap->P w S.heap->
   S.heap.get? fa=some o->o.data=.func (docDef d.name d.params d.body d.scope Q K E)->S.heap.CodeRec K d.name->M d.name=some (.ref fa)->
   S.heap.get? a=some { cls:=.type "list",data:=.seq I.toArray }->IntsAre I N->N.length<=n->S.gens=#[]->
   codeAny (model l.prog w) callerA (.call (.ref fa) ⟨[.ref a],[]⟩) (λr s'=>r=.ok (.ret (.bool true))/\OldK S.heap s'.heap/\s'.os=S.os/\AllBare s'.gens) S):
  WalkO q L XP P l.row.toRowW d [] (λf I=>PySem.call f I):=by
 intro w b S M T G Y fa o Q K E B kV t Z i D g v args vals as h y j c u;obtain rfl:B=.none:=Dflts.none D e;obtain rfl:kV=.none:=Dflts.noKw D;obtain⟨a,I,N,rfl,rfl,H,C,J⟩:=Bf U h c;refine enter_call (codeAny_mono (call w b S M T fa o Q K E a I N G Y t (fd_plain Z) i g H C J v) λr s' p=>?_);obtain⟨rfl,h2,A,x⟩:=p;exact⟨.inl ⟨.bool true,.bool true,[],rfl,λ_=>rfl,.bool true,Ad l _,λ_=>⟨List.Pairwise.nil,λ_ X=>(nomatch X)⟩⟩,h2,A,x⟩
end Att
namespace L2
open PySem PySem.Spec PyProof.Rows
noncomputable abbrev HE {K:Frag}(_:K.In h):Frag:=K
noncomputable def Z4 (s:Stmt):Arguments:=match s with
 |.FunctionDef _ a _ _ _ _ _ _ _ _=>a|_=>{ posonlyargs:=[],args:=[],vararg:=none,kwonlyargs:=[],kw_defaults:=[],kwarg:=none,defaults:=[] }
noncomputable def yY (s:Stmt):cg:=match s with
 |.FunctionDef _ _ b _ _ _ _ _ _ _=>b|_=>[]
noncomputable def qi (s:Stmt):Scope:=match s with
 |.FunctionDef _ _ _ _ _ _ S _ _ _=>S|_=>{ kind:=.function,names:=[],isGenerator:=false,isCoroutine:=false }
noncomputable abbrev wc:Zr:=λ_ _ _ _ _ _=>False
noncomputable abbrev E0:XK:=λ_ _ _=>False
def eR:Passes wc X E0:=λ_ _ _ _ _ _ _ h=>h.elim
structure we (K:Frag)(x qual:Str)(st:Stmt)(f:Addr)(fd:FuncData):Prop where
 ex:∃(oc:Value) (od:cf) (kV doc pm:Value) (an:cf) (cdv ct:Value) (rp:Array (bW)),
  fd=fnOf x qual (Z4 st) (yY st) (qi st) .none kV doc pm an cdv ct/\K.lookup f=some ⟨oc,od,.func fd,rp⟩/\codeIn K cdv qual=true
 kp:keepIn K (.ref f)=true
section
variable {K:Frag}
def we.ok {i:Stmt}{ps:bX}{k:Nat}{j:Sp}(F:we K x qual i f fd)(S:qJ N ps (qi i))(len:∀v H Q E,j v H Q E->v.length=ps.length)
  (y:∀(c:Value)(A:Around)(g:b9)(s:Shared)(H:Hp)(v:List V)(Q:VK)(E:XK),jF k (A.deeper (envOfC qual (qi i) s.heap.objs.size f c))->j v H Q E->
   ∃t,ki (wt wc P w K mg base N qual (qi i) f c A g s H E).nox (yY i) t/\t { nx:=λ_ a=>Q .non a,rt:=Q } (start N v) H):yN P w K mg base wc (k+1) f fd ps j:=by
 obtain⟨e,b,kV,D,n,u,c,ct,o,rfl,l,d⟩:=F.ex;refine Sw l d S len λA g s H v Q E r p=>?_;obtain⟨t,h,q⟩:=y c A g s H v Q E r p;exact⟨t,h.nox,q⟩
def we.binds {S:Stmt}{ps:bX}(F:we K x qual S f fd)
  (h:∀(kV D p:Value)(A:cf)(c ct:Value)(u:bS),u.length=ps.length->bindArgs (fnOf x qual (Z4 S) (yY S) (qi S) .none kV D p A c ct) ⟨u,[]⟩=pure (ps.zip u)):Binds K fd ps []:=by
 obtain⟨a,d,kV,D,p,A,c,ct,o,rfl,l,H⟩:=F.ex;exact .all (h kV D p A c ct)
def eS {S:Stmt}{a:Value}{o A:cf}{kV d p C ct:Value}(l:K.lookup f=some ⟨a,o,.func (fnOf x qual (Z4 S) (yY S) (qi S) .none kV d p A C ct),rp⟩)
  (c:codeIn K C qual=true)(k:keepIn K (.ref f)=true):we K x qual S f (fnOf x qual (Z4 S) (yY S) (qi S) .none kV d p A C ct):=⟨⟨a,o,kV,d,p,A,C,ct,rp,rfl,l,c⟩,k⟩
end
def eT {A:Around}{k:Nat}(h:jF k A):A.units+1<cLine:=Nat.lt_of_le_of_lt (Nat.add_le_add_left (by decide:1<=64) _) h.units
section
variable {κ:Type}[DecidableEq κ]
noncomputable def kU (a:List (κ×V))(k:κ):Option V:=(a.find? λK=>decide (K.1=k)).map (·.2)
noncomputable def putK (a:List (κ×V))(k:κ)(v:V):List (κ×V):=
 if (a.any λK=>decide (K.1=k))=true then a.map (λK=>if K.1=k then(K.1,v) else K) else a++[(k,v)]
def GZ {p:κ×V}{r:List (κ×V)}{k:κ}(e:p.1=k):kU (p::r) k=some p.2:=by simp[kU,find?_cons,e]
def G7 {p:κ×V}{r:List (κ×V)}{k:κ}(e:¬p.1=k):kU (p::r) k=kU r k:=by simp[kU,find?_cons,e]
theorem N5 (k:κ):∀kvs:List (κ×V),(kvs.any λK=>decide (K.1=k))=(kU kvs k).isSome
 |[]=>rfl|p::r=>by
  rw[any_cons]
  by_cases e:p.1=k
  ·simp only[GZ e,az e,Bool.true_or,isSome_some]
  ·rw[G7 e,aH e,Bool.false_or];exact N5 k r
def Cn (K:List (κ×V))(k:κ)(v:V):(putK K k v).length<=K.length+1:=by
 unfold putK
 split
 ·rw[ag];omega
 ·rw[av,bF,List.length_nil];omega
def Ax {K:List (κ×V)}{k:κ}(v:V)(h:kU K k=none):putK K k v=K++[(k,v)]:=by
 unfold putK;rw[N5,h];exact aj (by decide)
def KV.val {K:List (κ×V)}{v:List (κ×Value)}(r:KV K v)(k:κ):QN (kU K k) (valueAt v k):=by
 unfold KV at r
 induction r with
 |nil=>exact True.intro|@cons p q ps Q h t i=>
  obtain⟨H,a⟩:=h
  by_cases e:p.1=k
  ·have E:q.1=k:=H.symm.trans e
   have b:valueAt (q::Q) k=some q.2:=by simp[valueAt,find?_cons,E]
   rw[GZ e,b];exact a
  ·have E:¬q.1=k:=λz=>e (H.trans z)
   have b:valueAt (q::Q) k=valueAt Q k:=by simp[valueAt,find?_cons,E]
   rw[G7 e,b];exact i
theorem KV.any {a:List (κ×V)}{v:List (κ×Value)}(r:KV a v)(k:κ):(a.any λK=>decide (K.1=k))=v.any λK=>decide (K.1=k):=by
 unfold KV at r
 induction r with
 |nil=>rfl|cons h t i=>rw[any_cons,any_cons,i,h.1]
def KV.repl {b:List (κ×V)}{v:List (κ×Value)}(r:KV b v)(k:κ){y:V}(a:RelV y u):
  KV (b.map λK=>if K.1=k then(K.1,y) else K) (v.map λK=>if K.1=k then(K.1,u) else K):=by
 unfold KV at r ⊢
 induction r with
 |nil=>exact .nil|@cons p q ps Q h t i=>
  rw[aR,aR];refine .cons ?_ i;obtain⟨H,c⟩:=h
  by_cases e:p.1=k
  ·rw[ah e,ah (H.symm.trans e)];exact⟨H,a⟩
  ·rw[aj e,aj (λz=>e (H.trans z))];exact⟨H,c⟩
def KV.put {b:List (κ×V)}{v:List (κ×Value)}(r:KV b v)(k:κ){y:V}(a:RelV y u):KV (putK b k y) (stored v k u):=by
 unfold putK stored;rw[r.any k]
 by_cases e:(v.any λK=>decide (K.1=k))=true
 ·rw[ah e,ah e];exact r.repl k a
 ·rw[aj e,aj e];exact Paired.snoc r ⟨rfl,a⟩
theorem KV.length {K:List (κ×V)}{v:List (κ×Value)}(r:KV K v):K.length=v.length:=Paired.length r
end
def Sy {k:Key}(r:RelV (kV k) u):(kP P w).is k u=true:=by
 cases k with
 |inl i=>obtain⟨t,e⟩:=(show ∃t,u=Value.int i t from r);subst e;exact Cg P w i t|inr x=>obtain⟨t,e⟩:=(show ∃t,u=Value.str x t from r);subst e;exact Cb P w x t
theorem NM:∀{K:List Key}{u:bS},Vals (K.map kV) u->ItemsAre (kP P w) K u
 |[],_,r=>by rw[map_nil]at r;cases r;exact .nil|k::K,_,r=>by
  rw[aR]at r;cases r with
  |cons h t=>exact .cons (Sy h) (NM t)
abbrev KT (H:Hp):List (List Key×V)->List (List Key×Addr×Value)->Prop:=Paired λp q=>p.1=q.1/\H q.2.1=some (.tup (p.1.map kV))/\RelV p.2 q.2.2
def KT.val {K:List (List Key×V)}{x:List (List Key×Addr×Value)}(r:KT H K x)(k:List Key):QN (kU K k) ((atKey x k).map (·.2)):=by
 induction r with
 |nil=>exact True.intro|@cons p q ps Q h t i=>
  obtain⟨a,_,c⟩:=h
  by_cases e:p.1=k
  ·have E:q.1=k:=a.symm.trans e
   have b:atKey (q::Q) k=some q.2:=by simp[atKey,find?_cons,E]
   rw[GZ e,b];exact c
  ·have E:¬q.1=k:=λz=>e (a.trans z)
   have b:atKey (q::Q) k=atKey Q k:=by simp[atKey,find?_cons,E]
   rw[G7 e,b];exact i
section
def IS {u:HO}(ok:jx P w H h)(e:Rd H a u):jg P w H h a u:=e.ok ok
def Su (ok:jx P w H h)(e:Rd H a (.dK kvs)):kvs.length<=sizeLine/\(a==sysModules)=false/\∃vs,KV kvs vs/\h.DictOf (kP P w) a vs:=
 show jg P w H h a (.dK kvs) from IS ok e
def Iz (ok:jx P w H h)(e:H a=some (.dK kvs)):kvs.length<=sizeLine/\(a==sysModules)=false/\∃vs,KV kvs vs/\h.DictOf (kP P w) a vs:=Su ok (.inl e)
def Lk {K:List Key}(ok:jx P w H h)(e:H a=some (.tup (K.map kV))):(tupleKind (kP P w)).is h K a:=by
 obtain⟨_,i,r,o,d,c,n,b⟩:=(show jg P w H h a (.tup (K.map kV)) from ok a _ e)
 exact⟨o,i.toArray,n,d,c.1,b,by simpa using NM r⟩
def IJ {K:List (List Key×V)}(ok:jx P w H h)(e:Rd H a (.dT K)):K.length<=sizeLine/\(a==sysModules)=false/\
  ∃xs,KT H K xs/\h.DictOfH (tupleKind (kP P w)) a xs:=by
 obtain⟨z,y,xs,r,o,E,j,u,n,g,f,d⟩:=(show jg P w H h a (.dT K) from IS ok e)
 refine⟨z,y,xs,r,o,E,j,u,n,g,f,λx b=>?_,d⟩;have all:∀{l:List (List Key×V)}{m:List (List Key×Addr×Value)},KT H l m->∀x∈m,(tupleKind (kP P w)).is h x.1 x.2.1:=by
  intro l m q
  induction q with
  |nil=>intro x b;exact nomatch b
  |@cons p q ps Q c t i=>
   intro x b;rcases cu.mp b with e|b
   ·subst e
    exact Lk ok (by rw[<- c.1];exact c.2.1)
   ·exact i x b
 exact all r x b
end
def Kg (H:Hp)(a:Addr)(y:V)(r:Option V):Prop:=
 (∃K k,Rd H a (.dK K)/\y=kV k/\r=kU K k)∨∃K k b,Rd H a (.dT K)/\y=.ref b/\H b=some (.tup (k.map kV))/\r=kU K k
theorem Kg.k {k:Key}(e:H a=some (.dK kvs)):Kg H a (kV k) (kU kvs k):=.inl ⟨kvs,k,.inl e,rfl,rfl⟩
section
variable {s:Shared}{y:V}{o:Option V}{A:Around}
def Inv.big (I:Inv X p4 σ H s):sysModules<s.heap.objs.size:=by
 have h:mainGlobals<s.heap.objs.size:=(I.mod.glob.keeps I.bk).lt;exact lt_trans (by decide) h
def Bk (j:A.units+1<cLine)(I:Inv X p4 σ H s)(g:Kg H a y (some v))(i:RelV y u)(h:∀c s',Inv X p4 σ H s'->RelV v c->Q c s'):
  wpAny (model X.prog X.w) A (getItem (.ref a) u) Q E s:=by
 rcases g with ⟨K,k,e,f,l⟩|⟨K,k,b,e,f,q,l⟩
 ·subst f
  obtain⟨z,J,C,t,D⟩:=Su I.hok e;obtain⟨c,x,r⟩:=QN.some_of (v:=v) (o:=valueAt C k) (by rw[l];exact t.val k)
  exact wpAny_getItem_of (Sy i) D.mapOf x (h c _ (I.tok _) r)
 ·subst f
  cases (show u=Value.ref b from i)
  obtain⟨z,J,B,t,D⟩:=IJ I.hok e;obtain⟨c,x,r⟩:=QN.some_of (v:=v) (o:=(atKey B k).map (·.2)) (by rw[l];exact t.val k)
  obtain⟨p,n,d⟩:=Option.map_eq_some_iff.mp x;refine wpAny_getItem_heap (tupleKind_room_in1 j) (Lk I.hok q) D n ?_;rw[d];exact h c _ (I.tok _) r
def eU {ob:HO}(I:Inv X p4 σ H s)(M:Gh (H a))(h:Heap.SameBut a s.heap h')(d:∃q,h'.get? a=some q)(new:jg X.prog X.w (upd H a ob) h' a ob):
  Inv X p4 σ (upd H a ob) { s with heap:=h',toks:=t' }:=
 I.write (x:=a) (e:=a) M (.inl rfl) (λb q c z=>(h.2 b c).trans z) d new
def eV {H:Hp}{v:List (Key×Value)}(z:kvs.length<=sizeLine)(h:(a==sysModules)=false)(r:KV kvs v)(d:h'.DictOf (kP P w) a v):
  jg P w H h' a (.dK kvs):=⟨z,h,v,r,d⟩
end
def Rn (i:Expr):Prop:=∀o I,subscripted i false o I=operate [o,I] (getItem o I)
def eW {p:Program}{A:Around}{s:Shared}{v f:Expr}{T id:String}
  (l:typeLookup (.type T) "__getitem__"=pure (some (.builtin id)))(e:Rn f)
  (h:wpAny (model p w) A (eval v env) (λo b=>wpAny (model p w) A (eval f env) (λi S=>S.TypeIs o T/\wpAny (model p w) A (getItem o i) Q E S) E b) E s):
  wpAny (model p w) A (eval (.Subscript v f p6) env) Q E s:=by
 refine Subscript_ (wpAny_mono h (λo b d=>wpAny_mono d (λi S H=>?_) λ_ _ x=>x) λ_ _ x=>x);obtain⟨hT,H⟩:=H;unfold subscriptTail;refine cj ?_;rw[getitemInPython_of_ne hT.not_modules];refine cj (wpAny_specialOf hT l ?_);have n:wpAny (model p w) A (subscripted f false o i) (λr a=>wpAny (model p w) A (letTemporaryGo v o r >>= λ_=>pure r) Q E a) E S:=by
  rw[e o i];exact wpAny_operating (wpAny_mono H (λr a c=>cj (wpAny_letTemporaryGo (cm c))) λ_ _ x=>x)
 first
  |exact cm (cj n)
  |exact cj (cm (cj n))
  |exact cj n
def Ce {s:Shared}{y:V}{o:Option V}(I:Inv X p4 σ H s)(g:Kg H a y o):s.TypeIs (.ref a) "dict":=by
 rcases g with ⟨K,k,e,_,_⟩|⟨K,k,b,e,_,_,_⟩
 ·obtain⟨_,_,v,_,d⟩:=Su I.hok e
  exact d.typeIs
 ·obtain⟨_,_,x,_,d⟩:=IJ I.hok e
  exact d.typeIs
def eX (td ty:TE):TE:=λb H Q=>td b H λx c=>ty b c λy h=>∃a v,x=.ref a/\Kg h a y (some v)/\Q v h
section
variable {o i:Expr}{td ty:TE}
def eY (f:X.A.units+1<cLine)(l:PE X o td)(n:PE X i ty)(j:Rn i):PE X (.Subscript o i p6) (eX td ty):=by
 intro P s D H Q I h;refine eW PySem.F.slot_dict_getitem.lookup j (qf (l P s D H _ I h) λu S ⟨x,J,t,d,e⟩=>qf (n P S D J _ t e) λC L ⟨y,w,b,c,a,v,E,g,q⟩=>?_);subst E;obtain rfl:u=Value.ref a:=d;exact⟨Ce b g,Bk f b g c λB K p r=>⟨v,w,p,r,q⟩⟩
end
def AX (h:Heap)(b:sysModules<h.objs.size):jg P w H (h.push { cls:=.type "dict",data:=.dict #[] }) h.objs.size (.dK []):=
 ⟨zero_le _,beq_eq_false_iff_ne.mpr (Ne.symm (aO b)),[],.nil,Heap.DictOf.new h⟩
def eZ:TE:=λ_ H Q=>∀p,H p=none->Q (.ref p) (upd H p (.dK []))
section
def Al:PE X (.Dict [] [] p6) eZ:=λp s b H Q I h=>
 wpAny_Dict_empty ⟨.ref s.heap.objs.size,_,I.laid (a:=s.heap.objs.size) (o:=.dK []) (t':=s.toks) (λ_ _ q=>af _ q) (aq _) (AX s.heap I.big),rfl,h _ (I.hok.fresh (aq _))⟩
end
noncomputable def wm (e:Env):List (Str×NameKind)->List (Str×Addr)->List (Str×Addr)
 |[],acc=>acc|(n,k)::r,acc=>wm e r (if k==.free then(n,(e.cells.lookup n).getD 0)::acc else acc)
def fb (f:Str×NameKind->List (Str×Addr)->Sem (ForInStep (cb)))
  (l:∀n k r,f (n,k) r=if (k==NameKind.free)=true then(do let c <- cellOf env n;pure (ForInStep.yield ((n,c)::r))) else pure (ForInStep.yield r)):
  ∀(N:List (Str×NameKind))(A:cb),(∀y∈N,y.2=.free->∃c,env.cells.lookup y.1=some c)->(forIn N A f:Sem (cb))=pure (wm env N A):=by
 intro N
 induction N with
 |nil=>intro A _;rfl|cons y r i=>
  intro A b;obtain⟨n,k⟩:=y;rw[forIn_cons,l];unfold wm;have h:=i (if k==.free then(n,(env.cells.lookup n).getD 0)::A else A) (λy g=>b y (aw _ g))
  by_cases a:k=.free
  ·subst a
   obtain⟨c,d⟩:=b (n,.free) aE rfl;have e:cellOf env n=pure c:=by unfold cellOf;rw[d]
   have H:List.lookup n env.cells=some c:=d;simp only[e,H,Option.getD_some,bx,if_true]at h ⊢;exact h
  ·have j:(k==NameKind.free)=false:=by simpa using a
   simp only[j,false_eq_true,if_false]at h ⊢;exact h
def O7 (h:∀y∈scope.names,y.2=.free->∃c,env.cells.lookup y.1=some c):closureFor scope env=pure (wm env scope.names []):=by
 unfold closureFor;dsimp only;rw[fb _ (λn k r=>rfl) scope.names [] h]
 rfl
theorem JA {n:Str}{c:Addr}:∀(N:List (Str×NameKind))(a:cb),(n,c)∈wm env N a->(n,c)∈a∨((n,NameKind.free)∈N/\c=(env.cells.lookup n).getD 0)
 |[],a,h=>.inl h|(x,k)::r,a,h=>by
  unfold wm at h;rcases JA r _ h with h|⟨h1,h2⟩
  ·by_cases H:k=.free
   ·subst H
    simp only[bx,if_true]at h;rcases cu.mp h with e|h
    ·cases e;exact .inr ⟨aE,rfl⟩
    ·exact .inl h
   ·have b:(k==NameKind.free)=false:=by simpa using H
    simp only[b,false_eq_true,if_false]at h;exact .inl h
  ·exact .inr ⟨aw _ h1,h2⟩
theorem GO {n:Str}:∀(N:List (Str×NameKind))(A:cb),((n,NameKind.free)∈N∨(A.lookup n).isSome=true)->((wm env N A).lookup n).isSome=true
 |[],A,h=>by
  rcases h with h|h
  ·cases h
  ·exact h
 |(x,k)::r,A,h=>by
  unfold wm;refine GO r _ ?_;rcases h with h|h
  ·rcases cu.mp h with e|h
   ·cases e
    right
    simp
   ·exact .inl h
  ·right
   by_cases H:(k==NameKind.free)=true
   ·rw[ah H,bD]
    cases a:n==x
    ·exact h
    ·rfl
   ·rw[aj H];exact h
theorem Ud {n:Str}{c:Addr}:∀(N:List (Str×NameKind))(k:Nat)(A:cb),(n,c)∈cellsFrom k N A->(n,c)∈A∨(k<=c/\(n,NameKind.cell)∈N)
 |[],_,_,h=>.inl h|(x,q)::r,k,A,h=>by
  unfold cellsFrom at h
  by_cases a:(q==NameKind.cell)=true
  ·rw[ah a]at h
   have H:q=.cell:=by simpa using a
   rcases Ud r _ _ h with h|⟨h1,h2⟩
   ·rcases cu.mp h with e|h
    ·cases e;subst H;exact .inr ⟨aq _,aE⟩
    ·exact .inl h
   ·exact .inr ⟨by omega,aw _ h2⟩
  ·rw[aj a]at h
   rcases Ud r _ _ h with h|⟨h1,h2⟩
   ·exact .inl h
   ·exact .inr ⟨h1,aw _ h2⟩
theorem Ua:∀(b:List (Str×NameKind))(k:Nat)(A:cb),(∀n c,(n,c)∈A->c<k)->(∀n N c,(n,c)∈A->(N,c)∈A->n=N)->∀n N c,(n,c)∈cellsFrom k b A->(N,c)∈cellsFrom k b A->n=N
 |[],_,_,_,hi,n,N,c,h,h'=>hi n N c h h'|(x,q)::r,k,A,l,hi,n,N,c,h,h'=>by
  unfold cellsFrom at h h'
  by_cases a:(q==NameKind.cell)=true
  ·rw[ah a]at h h'
   refine Ua r (k+1) ((x,k)::A) (λm d f=>?_) (λm M d f H=>?_) n N c h h'
   ·rcases cu.mp f with e|f
    ·cases e;exact bw _
    ·exact bc (l m d f)
   ·rcases cu.mp f with e|f
    ·rcases cu.mp H with E|H
     ·cases e;cases E;rfl
     ·cases e;exact absurd (l M _ H) (aT _)
    ·rcases cu.mp H with E|H
     ·cases E;exact absurd (l m _ f) (aT _)
     ·exact hi m M d f H
  ·rw[aj a]at h h'
   exact Ua r k A l hi n N c h h'
theorem V4 {n:Str}{c:Addr}:∀(N:List (Str×NameKind))(h:Heap)(a:cb),(n,c)∈cellsFrom h.objs.size N a->(n,c)∈a∨(pushCells h N).IsCell c none
 |[],_,_,q=>.inl q|(x,k)::r,h,a,q=>by
  unfold cellsFrom at q;unfold pushCells
  by_cases H:(k==NameKind.cell)=true
  ·rw[ah H]at q ⊢
   have:=V4 r (h.push { cls:=.type "cell",data:=.cell none }) ((x,h.objs.size)::a) (by rw[bj];exact q)
   rcases this with z|z
   ·rcases cu.mp z with e|z
    ·cases e
     exact .inr ⟨_,pushCells_keeps r _ _ _ (aC _ rfl),rfl⟩
    ·exact .inl z
   ·exact .inr z
  ·rw[aj H]at q ⊢
   exact V4 r h a q
def FG {A:Around}{s:Shared}{globals:Addr}{cl:cb}{Q:Env->Shared->Prop}
  (h:Q { scope,locals:=s.heap.objs.size,globals,cells:=cellsFrom (s.heap.objs.size+1) scope.names cl,qual,func:=none,code:=env.code,frame:=env.frame,builtins:=env.builtins }
   { s with heap:=pushCells (s.heap.push { cls:=.type "dict",data:=.dict #[] }) scope.names }):
  wpAny M A (newFunctionEnv scope globals cl [] qual none .none (some env)) Q E s:=by
 simp only[newFunctionEnv,isSome_some,if_true];refine cj (wpAny_alloc ?_);refine cj (wpAny_layCells _ (λn K c=>by cases H:K==NameKind.cell<;>simp[H]) _ _ _ _ ?_)
 rw[show({ s with heap:=s.heap.push { cls:=.type "dict",data:=.dict #[] } }:Shared).heap.objs.size=s.heap.objs.size+1 from bj ..]
 rw[forIn_nil];exact cj (cm (cm h))
def jU (X:Cx)(N:bX)(scope:Scope)(s:Shared)(H:Hp)(f:bT)(e:bY):Cx where
 prog:=X.prog
 w:=X.w
 K:=X.K
 mg:=X.mg
 base:=X.base
 A:=X.A
 N:=N
 s0:=s
 H0:=H
 env:={ scope:=relabel scope X.env,locals:=s.heap.objs.size,globals:=X.env.globals,cells:=cellsFrom (s.heap.objs.size+1) scope.names (wm X.env scope.names []),qual:=X.env.qual,func:=none,code:=X.env.code,frame:=X.env.frame,builtins:=X.env.builtins }
 outer:=X.stack
 stack:=X.stack
 ex:=f
 fn:=λx=>scope.names.lookup x==some .local || scope.names.lookup x==some .cell
 calm:=X.calm
 pn:=[]
 xe:=e
structure g9 (X:Cx)(scope:Scope):Prop where
 kind:scope.kind=.function
 nd:(scope.names.map (·.1)).Nodup
 free:∀y∈scope.names,y.2=.free->X.env.kindOf y.1=some .cell∨X.env.kindOf y.1=some .free
theorem Yk {k:α}:∀{l:List (Str×α)},(l.map (·.1)).Nodup->(x,k)∈l->l.lookup x=some k
 |(y,q)::r,nd,h=>by
  rw[aR,List.nodup_cons]at nd;rw[bD];rcases cu.mp h with e|h
  ·cases e;simp
  ·have n:(x==y)=false:=by
    rw[beq_eq_false_iff_ne];intro e
    apply nd.1
    rw[<- e];exact List.mem_map_of_mem (f:=(·.1)) h
   rw[n];exact Yk nd.2 h
def VW {k:NameKind}(h:(relabel scope env).names.lookup x=some k):scope.names.lookup x=some k∨(k=.cell/\scope.names.lookup x=some .free/\env.kindOf x=some .cell):=by
 unfold relabel at h;dsimp only at h;generalize scope.names=names at h ⊢
 induction names with
 |nil=>cases h|cons y r i=>
  obtain⟨n,q⟩:=y;rw[aR]at h;have split:(if (q==NameKind.free&&env.scope.kind==.function&&env.kindOf n==some .cell)=true then(n,NameKind.cell) else(n,q)).1=n:=by split<;>rfl
  rw[bD]at h ⊢;dsimp only at h;rw[split]at h;cases a:x==n with
  |false=>rw[a]at h;exact i h|true=>
   rw[a]at h;have e:x=n:=aL.mp a;subst e
   by_cases H:(q==NameKind.free&&env.scope.kind==.function&&env.kindOf x==some .cell)=true
   ·rw[ah H]at h
    simp only[ak,aL]at H;cases h
    right
    exact⟨rfl,by rw[H.1.1],H.2⟩
   ·rw[aj H]at h
    left
    exact h
section
variable {s:Shared}
def Inv.capt (I:Inv X p4 σ H s)(S:g9 X scope)(h:(x,NameKind.free)∈scope.names):∃c,X.env.cells.lookup x=some c:=I.ok.has x (S.free _ h rfl)
def YC (I:Inv X p4 σ H s)(S:g9 X scope){c:Addr}(h:(x,c)∈cellsFrom (s.heap.objs.size+1) scope.names (wm X.env scope.names [])):
  ((x,NameKind.free)∈scope.names/\X.env.cells.lookup x=some c/\c<s.heap.objs.size)∨((x,NameKind.cell)∈scope.names/\s.heap.objs.size<c/\∀f:Heap,f.objs.size=s.heap.objs.size+1->(pushCells f scope.names).IsCell c none):=by
 rcases Ud _ _ _ h with d|⟨d,h2⟩
 ·left
  rcases JA _ _ d with z|⟨z,e⟩
  ·cases z
  ·obtain⟨C,a⟩:=I.capt S z
   rw[a]at e;have E:c=C:=e;subst E;obtain⟨v,q⟩:=I.cell x c a;exact⟨z,a,q.lt⟩
 ·right
  refine⟨h2,d,λf b=>?_⟩;have g:=h;rw[<- b]at g;rcases V4 _ f _ g with z|z
  ·exfalso
   rcases JA _ _ z with z|⟨z,e⟩
   ·cases z
   ·obtain⟨C,a⟩:=I.capt S z
    rw[a]at e;have E:c=C:=e;subst E;obtain⟨v,q⟩:=I.cell x c a;exact aT _ (aK (bc q.lt) d)
  ·exact z
def fc {xe:bY}{f:St}(I:Inv X p4 σ H s)(S:g9 X scope)(hf:∀b∈fp,wL X p4 H b)(A:∀b∈fp,b<s.heap.objs.size)(hl:f.length=N.length)
  (hs:∀(j:Nat)(x:Str)(v:V),N[j]? =some x->f[j]? =some (some v)->(x,NameKind.free)∈scope.names/\∃i:Nat,X.N[i]? =some x/\σ[i]? =some (some v)):
  Inv (jU X N scope s H fp xe) [] f H { s with heap:=pushCells (s.heap.push { cls:=.type "dict",data:=.dict #[] }) scope.names }:=by
 have K:∀b o,s.heap.get? b=some o->(pushCells (s.heap.push { cls:=.type "dict",data:=.dict #[] }) scope.names).get? b=some o:=λb o e=>pushCells_keeps _ _ _ _ (af _ e);have Q:(s.heap.push { cls:=.type "dict",data:=.dict #[] }).objs.size=s.heap.objs.size+1:=bj ..;have l:∀{x:Str}{c:Addr},(jU X N scope s H fp xe).env.cells.lookup x=some c->(x,c)∈cellsFrom (s.heap.objs.size+1) scope.names (wm X.env scope.names []):=λh=>PySem.mem_of_lookup h;have L:∀{x:Str},((jU X N scope s H fp xe).env.kindOf x=some .cell∨(jU X N scope s H fp xe).env.kindOf x=some .free)->∃c,(jU X N scope s H fp xe).env.cells.lookup x=some c:=λ {x} h=>by
  refine Option.isSome_iff_exists.mp (cellsFrom_some _ _ _ ?_);have two:scope.names.lookup x=some .cell∨scope.names.lookup x=some .free:=by
   rcases h with h|h
   ·rcases VW h with z|⟨_,z,_⟩
    ·exact .inl z
    ·exact .inr z
   ·rcases VW h with z|⟨z,_⟩
    ·exact .inr z
    ·cases z
  rcases two with z|z
  ·exact .inl z
  ·exact .inr (GO _ _ (.inl (PySem.mem_of_lookup z)))
 have exP:∀b∈fp,∀x c,(jU X N scope s H fp xe).env.cells.lookup x=some c->c≠b:=λb a x c e=>by
  rcases YC I S (l e) with ⟨_,q,_⟩|⟨_,q,_⟩
  ·exact(hf b a).2.2.2.2.1 x c q
  ·intro z;subst z;exact aT _ (lt_trans q (A _ a))
 refine⟨⟨I.ok.mod,S.kind,I.ok.glob,I.ok.blt,aq _,λx y c h1 h2=>?_,λx h=>L h,λx c g h=>?_,I.ok.hd,I.ok.frames,.inl rfl,λb a=>⟨?_,exP b a⟩,I.bs,aY I.ok.bsz I.sz,λb o e a=>?_,λb a z=>?_,I.stack,I.stkFree⟩,
  rfl,I.bare,Un.kept K,⟨λ_=>none,?_,λj x v h1 h2 Y=>?_⟩,λx c e=>?_,I.fresh,λx c e=>?_,λp hp=>?_,I.hok.kept K,hl⟩
 ·refine Ua _ _ _ (λn c h=>?_) (λn n' c h h'=>?_) x y c (l h1) (l h2)
  ·rcases JA _ _ h with z|⟨z,e⟩
   ·cases z
   ·obtain⟨c',D⟩:=I.capt S z
    rw[D]at e;have M:c=c':=e;subst M;obtain⟨v,q⟩:=I.cell n c D;exact bc q.lt
  ·rcases JA _ _ h with z|⟨z,e⟩
   ·cases z
   ·rcases JA _ _ h' with Z|⟨Z,M⟩
    ·cases Z
    ·obtain⟨d,hd⟩:=I.capt S z
     obtain⟨d',B⟩:=I.capt S Z;rw[hd]at e;rw[B]at M;have J:c=d:=e;have e2:c=d':=M;subst J;subst e2;exact I.ok.inj _ _ _ hd B
 ·rcases YC I S (l h) with ⟨z,_,_⟩|⟨_,z,_⟩
  ·exfalso
   have J:=Yk S.nd z;have t:(scope.names.lookup x==some .local || scope.names.lookup x==some .cell)=true:=g;rw[J]at t;cases t
  ·exact bK z
 ·exact aO (A b a)
 ·obtain⟨_,_,_,E,_⟩:=hf b a
  rcases E with E|E
  ·exact I.ok.noex b o e E
  ·exact absurd (aK (aM e) (aY I.ok.bsz E)) (aT _)
 ·obtain⟨_,h2,Y,_⟩:=hf b a
  rcases cu.mp (I.stkSub b z) with e|e
  ·exact h2 e
  ·exact Y e
 ·exact(Heap.Ns.new s.heap (.type "dict")).keeps (pushCells_keeps _ _)
 ·obtain⟨g,i,J,e2⟩:=hs j x v h1 h2
  obtain⟨m,hn,U⟩:=I.loc;have P:Km X.env.scope x:=.inr (S.free _ g rfl);obtain⟨u,r,lk⟩:=U i x v J e2 P;refine⟨u,r,.inr ?_⟩;have w:(jU X N scope s H fp xe).env.kindOf x=some .cell∨(jU X N scope s H fp xe).env.kindOf x=some .free:=by
   rcases Y with z|z|z
   ·exfalso
    rcases VW z with Z|⟨Z,_⟩
    ·rw[Yk S.nd g]at Z;cases Z
    ·cases Z
   ·exact .inl z
   ·exact .inr z
  refine⟨w,?_⟩;obtain⟨c,D⟩:=L w;refine⟨c,D,?_⟩;rcases YC I S (l D) with ⟨_,q,_⟩|⟨q,_,_⟩
  ·rcases lk with ⟨z,_⟩|⟨_,c',C,cell⟩
   ·exfalso
    rcases S.free _ g rfl with k|k<;>(rw[k]at z;cases z)
   ·rw[q]at C;cases C
    exact cell.keeps K
  ·exfalso
   have a1:=Yk S.nd g;have a2:=Yk S.nd q;rw[a1]at a2;cases a2
 ·rcases YC I S (l e) with ⟨_,q,_⟩|⟨_,_,q⟩
  ·obtain⟨v,z⟩:=I.cell x c q
   exact⟨v,z.keeps K⟩
  ·exact⟨_,q _ Q⟩
 ·rcases YC I S (l e) with ⟨_,q,_⟩|⟨_,q,_⟩
  ·exact I.freeC x c q
  ·exact I.hok.fresh (bK q)
 ·have T:p∈([]:bU):=hp
  cases T
end
abbrev gX:=Addr->St->Hp->(St->Hp->Prop)->Prop
noncomputable def WS (E:Expr)(g:List Comprehension)(S:Scope)(p:Pos)(d:Nat)(a:Value)(e:Env)(k:Sem Fin):Sem Fin:=
 match g[d+1]? with
 |some b=>do
  let x <- eval b.iter e
  standAt b.iter.pos
  let x <- foldedSetIterable b.iter e x
  let _ <- runOwn (.compStart (.ListComp E g S p) (d+1) (<- holding [x] (pyIter x)) a e) e
  k
 |none=>do
  (do let _ <- call (.builtin "list.append") [a,<- eval E e])
  k
theorem fe {d:Nat}{I A:Value}(h:gens[d]? =some ⟨tg,p8,ifs,0⟩)(H:∀g',gens[d+1]? =some g'->g'.is_async=0):
  compTurn (.ListComp rd gens sc p6) d I A env=(do
   standAt p8.pos
   match <- pyNext I with
   |none=>pure (.done .next)|some v=>
    letOwnedTupleGo tg I v
    assign tg env v
    let mut ok:=true
    for c in ifs do
     if ok then ok <- isTrue c env (eval c env)
    if ok then WS rd gens sc p6 d A env (again (.compLoop (.ListComp rd gens sc p6) d I A env))
    else again (.compLoop (.ListComp rd gens sc p6) d I A env)):=by
 unfold compTurn WS;dsimp only;rw[h];cases hn:gens[d+1]? with
 |none=>rfl|some g'=>
  obtain⟨t,i,f,a⟩:=g';have e:a=0:=H _ hn;subst e
  rfl
def QR (X:Cx)(i:bZ)(t:TT):Prop:=
 ∀(p4:bU)(s:Shared)(σ:St)(H:Hp)(Q:Bool->Hp->Prop),Inv X p4 σ H s->t σ H Q->
  wpAny (model X.prog X.w) X.A (forIn i true λc r=>if r=true then do let ok <- isTrue c X.env (eval c X.env);pure (ForInStep.yield ok) else pure (ForInStep.yield r)) (TP X p4 σ Q) X.xe s
def fg:TT:=λ_ H Q=>Q true H
def fh:QR X [] fg:=λp s a H Q I h=>wpAny_tests_nil ⟨H,I,h⟩
def fj {c:Expr}{t:TT}(h:PT X c t):QR X [c] t:=λp s a H Q I w=>wpAny_tests_one (h p s a H Q I w)
def gj (X:Cx)(e:Expr)(g:List Comprehension)(c:Scope)(p:Pos)(d:Nat)(t:gX):Prop:=
 ∀(p4:bU)(s:Shared)(σ:St)(H:Hp)(D:Addr)(Q:St->Hp->Prop)(k:Sem Fin)(Q':Fin->Shared->Prop)(E:bY),Inv X p4 σ H s->t D σ H Q->
  (∀S a h,Inv X p4 a h S->Q a h->wpAny (model X.prog X.w) X.A k Q' E S)->wpAny (model X.prog X.w) X.A (WS e g c p d (.ref D) X.env k) Q' E s
def fk (t:TE):gX:=λD a H Q=>t a H λy h=>∃Y,h D=some (.lst Y)/\Y.length<sizeLine/\Q a (upd h D (.lst (Y++[y])))
def WG (J:It)(g:TG)(T:TT)(t:gX):gX:=λD e H Q=>∃W:Nat->Nat->St->Hp->Prop,(∃m,W 0 m e H)/\∀i m e H,W i m e H->
 (J.stop i H/\Q e H)∨(J.go i H/\∃N:St->Hp->Prop,(∀c h,N c h->∃M,M<m/\W (i+1) M c h)/\∀x h,J.yld i H x h->g x e h λa f=>T a f λb d=>if b=true then t D a d N else N a d)
def fm (w:TI)(g:TG)(T:TT)(t:gX):gX:=λD a H Q=>w a H λJ h=>WG J g T t D a h Q
section
variable {d:Nat}
def YU (h:∀e s,X.xe e s->False){t:Sem α}{Q:α->Shared->Prop}(H:wpAny (model X.prog X.w) X.A t Q X.xe s'):wpAny (model X.prog X.w) X.A t Q E s':=
 wpAny_mono H (λ_ _ z=>z) λe s' z=>(h e s' z).elim
def Aw {t:TE}(x:∀e s,X.xe e s->False)(v:PE X rd t)(g:gens[d+1]? =none):gj X rd gens sc p6 d (fk t):=by
 intro p s n H D Q k A E I h b;unfold WS;rw[g];refine cj (cj (YU x (qf (v p s n H _ I h) λu o ⟨y,w,f,r,Y,c,Z,a⟩=>?_)));refine cj (YU x (qf (ND p o n w (.ref D) [y] (.ref D) [u] (λ_ l=>Q n l) f rfl (.cons r .nil) ⟨D,Y,y,rfl,rfl,c,Z,a⟩) λ_ S ⟨_,j,i,_,q⟩=>?_));exact cm (b S n j i q)
def ft {g:TG}{ti:TT}{tm:gX}(Z:∀e s,X.xe e s->False)(hc:X.calm=true)(hg:gens[d]? =some ⟨tg,p8,ifs,0⟩)(ha:∀g',gens[d+1]? =some g'->g'.is_async=0)(P:PG X tg g)(hi:QR X ifs ti)(hm:gj X rd gens sc p6 d tm)
  {s:Shared}{Q:St->Hp->Prop}{J:It}{it:Addr}{C:Nat->Heap->Prop}(T:Turn X.prog X.w X.K tg J fp it C)(I:Inv X p4 σ H s)(st:C 0 s.heap)(hf:∀b∈fp,wL X p4 H b)
  (h:WG J g ti tm D σ H Q){R:Result->Shared->Prop}(hR:∀s' a c,Inv X p4 a c s'->Q a c->R (.ok .next) s'):
  codeAny (model X.prog X.w) X.A (.compLoop (.ListComp rd gens sc p6) d (.ref it) (.ref D) X.env) R s:=by
 obtain⟨W,⟨m0,w0⟩,turn⟩:=h;have S:∀{c:Hp},(∀b∈fp,c b=none)->∀b∈fp,wL X p4 c b:=λhn b l=>⟨hn b l,(hf b l).2⟩;refine codeAny_loop rfl (λn s'=>∃i a c,Inv X p4 a c s'/\C i s'.heap/\(∀b∈fp,c b=none)/\W i n a c) (λn s3 hI=>?_) m0 ⟨0,σ,H,I,st,λb l=>(hf b l).1,w0⟩;show wpAny _ X.A ((compTurn (.ListComp rd gens sc p6) d (.ref it) (.ref D) X.env).onRaise (λx=>do noteFrame x X.env;theTreesLotGoes x)) _ _ s3
 refine wpAny_noted ?_;rw[fe hg ha];refine cj (wpAny_standAt ?_);obtain⟨i,j,E,I3,ZV,B,w3⟩:=hI;rcases turn i n j E w3 with ⟨stop,qn⟩|⟨go,N,hN,step⟩
 ·refine cj (qf (T.done X rfl rfl rfl hc i p4 s3 j E _ I3 (S B) ZV stop) λr s4 ⟨M,I4⟩=>?_)
  subst M;exact cm (hR s4 j E I4 qn)
 ·refine cj (qf (T.item X rfl rfl rfl hc i p4 s3 j E _ I3 (S B) ZV go) λr s4 ⟨u,M,h4⟩=>?_)
  subst M;refine cj (qf h4 λ_ s5 ⟨x,H5,I5,r5,y5,p,U⟩=>?_);have Y:=I5.pinned (S U) (T.obj _ _ p);have back:∀{f:St}{q:Hp}{t:Shared},Inv X (p4++Wz fp s5.heap) f q t->N f q->∃m,m<n/\∃i a c,Inv X p4 a c t/\C i t.heap/\(∀b∈fp,c b=none)/\W i m a c:=λ {f q t} v n7=>by
   obtain⟨m',hm,w7⟩:=hN f q n7;refine⟨m',hm,i+1,f,q,v.unpinned,T.keep _ _ _ p λb l o e=>(v.pin (b,o) (aQ _ (aQ _ (GL l e)))).1,λb l=>?_,w7⟩;obtain⟨o,e,d⟩:=T.obj _ _ p b l;exact(v.pin (b,o) (aQ _ (aQ _ (GL l e)))).2.1
  refine cj (YU Z (qf (P _ s5 j H5 x u _ Y r5 (step x H5 y5)) λ_ s6 ⟨y,H6,I6,q6⟩=>?_));refine cj (YU Z (qf (hi _ s6 y H6 _ I6 q6) λok t ⟨q,v,L⟩=>?_));cases ok with
  |false=>exact cm ⟨rfl,back v L⟩|true=>
   rw[ah rfl]at L;exact hm _ t y q D _ _ _ _ v L λs8 σ8 H8 I8 q8=>cm ⟨rfl,back I8 q8⟩
def Il {g:TG}{v:TT}{u:gX}(i:∀e s,X.xe e s->False)(o:X.calm=true)(c:gens[d]? =some ⟨tg,p8,ifs,0⟩)(p:∀g',gens[d+1]? =some g'->g'.is_async=0)(t:PG X tg g)(j:QR X ifs v)(y:gj X rd gens sc p6 d u)
  {s:Shared}{Q:St->Hp->Prop}{J:It}{r:Addr}{n:Nat->Heap->Prop}(T:Turn X.prog X.w X.K tg J fp r n)(I:Inv X p4 σ H s)(S:n 0 s.heap)(B:∀b∈fp,wL X p4 H b)
  (h:WG J g v u D σ H Q){R:Result->Shared->Prop}(q:∀s' a f,Inv X p4 a f s'->Q a f->R (.ok .next) s'):
  codeAny (model X.prog X.w) X.A (.compStart (.ListComp rd gens sc p6) d (.ref r) (.ref D) X.env) R s:=by
 have L:=ft i o c p t j y T I S B h q;refine codeAny_of_tree ?_;show wpAny _ _ ((compStart (.ListComp rd gens sc p6) d (.ref r) (.ref D) X.env).onRaise (λx=>do noteFrame x X.env;standAt theWindowsPlace)) _ _ s
 refine wpAny_notedAt ?_;unfold compStart;have l:(clausesOf (.ListComp rd gens sc p6))[d]? =some ⟨tg,p8,ifs,0⟩:=c;rw[l];show wpAny _ _ (ask >>= _) _ _ s;refine cj (wpAny_askSetting (wpAny_ite ?_))
 split
 ·first
   |exact cj (cm (cm (And.intro rfl L)))
   |exact cm (And.intro rfl L)
 ·first
   |exact cj (wpAny_rule (cj (wpAny_standAt (cj (T.self _ 0 s _ _ S (cm (And.intro rfl L)))))))
   |(refine cj (wpAny_rule ?_);show wpAny _ _ (standAt p8.pos >>= _) _ _ s;exact cj (wpAny_standAt (cj (T.self _ 0 s _ _ S (cm (And.intro rfl L))))))
def fv {w:TI}{g:TG}{K:TT}{C:gX}(b:∀e s,X.xe e s->False)(o:X.calm=true)(c:gens[d+1]? =some ⟨tg,p8,ifs,0⟩)(p:∀g',gens[d+2]? =some g'->g'.is_async=0)(M:PI X tg p8 w)(t:PG X tg g)(n:QR X ifs K)(N:gj X rd gens sc p6 (d+1) C)
  (j:∀x,foldedSetIterable p8 X.env x=pure x:=by intro _;rfl):gj X rd gens sc p6 d (fm w g K C):=by
 intro P s L H D Q k Q' E I h l;unfold WS;rw[c];refine cj (YU b (qf (M P s L H _ I h) λv s1 Y=>?_));refine cj (wpAny_standAt (cj (wpAny_of_eq (j v) ?_)));refine cj (wpAny_holding (YU b (qf Y λi s2 U=>?_)));obtain⟨it,fp,A,J,B,e,r,T,Zl,Z,q⟩:=U;subst e;refine cj (wpAny_runOwn (Il b o c p t n N T r Zl Z q λS a y u f=>?_));exact l S a y u f
end
noncomputable def Qf (n:Nat)(c:bV)(a:St):St:=List.replicate n none++c.map λi=>(a[i]?).join
noncomputable def QF (M N:bX)(scope:Scope)(n:Nat)(c:bV):Bool:=
 N.length==n+c.length&&(List.range c.length).all λk=>match N[n+k]?,M[c.getD k 0]? with
  |some x,some y=>x==y&&scope.names.any λz=>z.1==x&&z.2==NameKind.free|_,_=>false
def AK {M:bX}{u:Nat}(h:QF M N scope u cap=true):(Qf u cap σ).length=N.length/\
  ∀(j:Nat)(x:Str)(v:V),N[j]? =some x->(Qf u cap σ)[j]? =some (some v)->(x,NameKind.free)∈scope.names/\∃i:Nat,M[i]? =some x/\σ[i]? =some (some v):=by
 unfold QF at h;rw[ak,aL]at h;obtain⟨B,A⟩:=h;refine⟨by unfold Qf;simp[B],λj x v r E=>?_⟩
 unfold Qf at E
 by_cases d:j<u
 ·rw[ai (by simpa using d),bt]at E
  split at E<;>cases E
 ·rw[au (by simpa using d),bB,ar]at E
  cases c:cap[j-u]? with
  |none=>rw[c]at E;cases E|some i=>
   rw[c]at E;have e:(σ[i]?).join=some v:=aI E;have g:j-u<cap.length:=(cw.mp c).1;have H:=cy.mp A (j-u) (cn.mpr g);have p:u+(j-u)=j:=by omega
   rw[p,r]at H;have q:cap.getD (j-u) 0=i:=by rw[aa,c];rfl
   rw[q]at H;cases hm:M[i]? with
   |none=>rw[hm]at H;cases H|some y=>
    rw[hm]at H;rw[ak,aL]at H;obtain⟨n,l⟩:=H;subst n;obtain⟨z,f,a⟩:=List.any_eq_true.mp l;rw[ak,aL,aL]at a;refine⟨?_,i,hm,?_⟩
    ·obtain⟨t,Z⟩:=z
     obtain⟨C,a2⟩:=a;cases C;cases a2;exact f
    ·cases b:σ[i]? with
     |none=>rw[b]at e;cases e|some o=>rw[b]at e;cases o with
      |none=>cases e|some w=>cases e;rfl
noncomputable abbrev yx:Value->Shared->Prop:=λ_ _=>False
def XY (K:Frag)(w:TI)(g:TG)(T:TT)(t:gX)(n:Nat)(c:bV):TE:=λb H Q=>w b H λJ h=>∀D,h D=none->K.lookup D=none->WG J g T t D (Qf n c b) (upd h D (.lst [])) λ_ a=>Q (.ref D) a
section
variable {wi:TI}{g:TG}{ti:TT}{tm:gX}{nl:Nat}
def Tc (hc:X.calm=true)(S:g9 X sc)(t:QF X.N N sc nl cap=true)(ha:∀g',gs[0]? =some g'->g'.is_async=0)(hw:PI X tg p8 wi)
  
  (hin:∀s H fp,Inv X p4 σ H s->(∀b∈fp,wL X p4 H b)->PG (jU X N sc s H fp yx) tg g/\QR (jU X N sc s H fp yx) ifs ti/\gj (jU X N sc s H fp yx) rd (⟨tg,p8,ifs,0⟩::gs) sc p6 0 tm)
  {s:Shared}{Q:VK}(I:Inv X p4 σ H s)(h:XY X.K wi g ti tm nl cap σ H Q)
  {use:Option (Value->Sem Unit)}{Q':bY}
  (r:∀(D C:Addr)(s':Shared)(n:Hp)(m:b8),Inv X p4 σ n s'->Q (.ref D) n->s'.heap.Ns C m->n C=none->C≠X.env.locals->X.s0.heap.objs.size<=C->(∀x c,X.env.cells.lookup x=some c->c≠C)->(∀q∈X.pn++p4,q.1≠C)->
   compPost (model X.prog X.w) X.A X.xe use Q' (.ref D) C (.ok .next) s')
  (hs:∀x,foldedSetIterable p8 X.env x=pure x:=by intro _;rfl):
  wpAny (model X.prog X.w) X.A (comprehension (.ListComp rd (⟨tg,p8,ifs,0⟩::gs) sc p6) sc X.env p (newList []) false (eval p8 X.env) use) Q' X.xe s:=by
 have j:∀y∈sc.names,y.2=.free->∃c,X.env.cells.lookup y.1=some c:=λy Y e=>I.ok.has _ (S.free y Y e);refine wpAny_comprehension_free (use:=use) rfl hs (O7 j) S.kind (λy Y e=>by
  obtain⟨y1,y2⟩:=y;have e':y2=.local:=e;subst e';exact Yk S.nd Y) ?_
 refine qf (hw p4 s σ H _ I h) λv s1 h1=>qf h1 λitv s2 h2=>?_;obtain⟨it,fp,tn,J,M,e,I2,T,Zl,f2,q2⟩:=h2;subst e;refine wpAny_newObj_type ?_;have hD:M s2.heap.objs.size=none:=I2.fresh;have hKD:X.K.lookup s2.heap.objs.size=none:=by
  cases ek:X.K.lookup s2.heap.objs.size with
  |none=>rfl|some o=>exact absurd (aM (I2.kIn _ _ ek)) (aT _)
 have U:=q2 _ hD hKD;generalize Z:({ s2 with heap:=s2.heap.push { cls:=.type "list",data:=.seq ([]:bS).toArray } }:Shared)=s3
 have f:s3={ s2 with heap:=s2.heap.push { cls:=.type "list",data:=.seq ([]:bS).toArray } }:=Z.symm
 have i:Inv X p4 σ (upd M s2.heap.objs.size (.lst [])) s3:=by
  rw[f];exact I2.laid (t':=s2.toks) (λb u e=>af _ e) (aq _) ⟨by simp,[],0,.nil,aC _ rfl⟩
 have B:∀b∈fp,∃o,s2.heap.get? b=some o:=λb a=>let ⟨o,e,_⟩:=T.obj 0 _ Zl b a;⟨o,e⟩
 have P:s3.heap.objs.size=s2.heap.objs.size+1:=by rw[f];exact bj ..
 have ZV:tn 0 s3.heap:=T.keep _ _ _ Zl λb a o e=>by rw[f];exact af _ e
 have E:∀b∈fp,b<s3.heap.objs.size:=λb a=>by
  obtain⟨o,e⟩:=B b a;rw[P];exact bc (aM e)
 have L:∀b∈fp,wL X p4 (upd M s2.heap.objs.size (.lst [])) b:=λb a=>by
  obtain⟨o,e⟩:=B b a;refine⟨?_,(f2 b a).2⟩;rw[qC (aO (aM e))];exact(f2 b a).1
 generalize upd M s2.heap.objs.size (.lst [])=H3 at i L U;generalize s2.heap.objs.size=D at U ⊢;refine FG ?_;obtain⟨cl,cs⟩:=AK t (σ:=σ);have I4:=fc (xe:=yx) i S L E cl cs;obtain⟨hgt,hi,hm⟩:=hin s3 H3 fp i L;refine Il (X:=jU X N sc s3 H3 fp yx) (gens:=⟨tg,p8,ifs,0⟩::gs) (d:=0) (λ_ _ z=>z) hc rfl ha hgt hi hm T I4 (T.keep _ _ _ ZV λb a o e=>pushCells_keeps _ _ _ _ (af _ e)) (λb a=>?_) U λs' σ' n l q'=>?_
 ·obtain⟨g1,g2,g3,g4,g5,g6⟩:=L b a
  refine⟨g1,aO (E b a),λz=>?_,.inl a,(I4.ok.exf b a).2,λp hp=>absurd (show p∈([]:bU) from hp) (by simp)⟩
  rcases cu.mp (i.stkSub b z) with e|e
  ·exact g2 e
  ·exact g3 e
 ·have I5:Inv X p4 σ n s':=i.call' l.os l.base l.hok l.bare λb a=>by
   obtain⟨g1,g2,g3,g4,g5,g6⟩:=L b a;exact⟨g4,g2,g5,g6⟩
  obtain⟨m,hn,_⟩:=l.loc;refine r D _ s' n m I5 q' hn l.free (ne_of_gt i.lt) i.sz (λx c e z=>?_) λq hq z=>?_
  ·obtain⟨v,w⟩:=i.cell x c e
   exact aT _ (aK w.lt (by rw[z];exact aq _))
  ·exact aT _ (aK (aM (i.pin q hq).1) (by rw[z];exact aq _))
def fw (d:X.calm=true)(S:g9 X sc)(p:QF X.N N sc nl cap=true)(i:∀g',gs[0]? =some g'->g'.is_async=0)(w:PI X tg p8 wi)
  (n:∀s H fp,PG (jU X N sc s H fp yx) tg g/\QR (jU X N sc s H fp yx) ifs ti/\gj (jU X N sc s H fp yx) rd (⟨tg,p8,ifs,0⟩::gs) sc p6 0 tm)
  (c:∀x,foldedSetIterable p8 X.env x=pure x:=by intro _;rfl):PE X (.ListComp rd (⟨tg,p8,ifs,0⟩::gs) sc p6) (XY X.K wi g ti tm nl cap):=by
 intro P s E H Q I h;rw[eval_ListComp];refine Tc (use:=none) d S p i w (λs H fp _ _=>n s H fp) I h (λD C v u m t q y B A r l j=>?_) c;exact⟨m,y,λJ a=>⟨.ref D,u,t.turned (t':=v.toks) (λb o f e=>(a.2 b f).trans e) B A (.inr r) l j,rfl,q⟩⟩
def C6 {p:Pos}{c:Pos}(P:X.N.Nodup)(j:X.N[i]? =some x)(r:X.env.scope.names.lookup x=some .local)
  (w:swapsWith (.ListComp rd (⟨tg,p8,ifs,0⟩::gs) sc p6) (some (.Name x p)) c.line X.env=pure true)
  (J:X.calm=true)(S:g9 X sc)(d:QF X.N N sc nl cap=true)(M:∀g',gs[0]? =some g'->g'.is_async=0)(hw:PI X tg p8 wi)
  (n:∀s H fp,PG (jU X N sc s H fp yx) tg g/\QR (jU X N sc s H fp yx) ifs ti/\gj (jU X N sc s H fp yx) rd (⟨tg,p8,ifs,0⟩::gs) sc p6 0 tm)
  (B:∀x,foldedSetIterable p8 X.env x=pure x:=by intro _;rfl):PS X (.Assign [.Name x p] (.ListComp rd (⟨tg,p8,ifs,0⟩::gs) sc p6) c) (Vg (XY X.K wi g ti tm nl cap) (XT i)):=by
 intro p4 s σ H D I h;rw[exec_Assign_Name_used _ _ _ _ w];refine cj (wpAny_standAt (cj ?_));show wpAny _ X.A (do let _ <- comprehension (.ListComp rd (⟨tg,p8,ifs,0⟩::gs) sc p6) sc X.env _ (newList []) false (eval p8 X.env) (some (assign (.Name x p) X.env))) _ _ s
 refine cj (wpAny_mono (Tc (use:=some (assign (.Name x p) X.env)) (Q':=λ_ s'=>SP X p4 D .next s') J S d M hw (λs H fp _ _=>n s H fp) I h (λu C s' H' m Z q hn h1 h2 T t Q=>?_) B) (λ_ s' E=>cm (cm E)) λ_ _ e=>e);show wpAny _ X.A (assign (.Name x p) X.env (.ref u)) _ _ _;refine wpAny_assign_Name (Nt Z P j (.inl r) (v:=.ref u) rfl (λs2 Y ⟨a,y,U⟩=>?_) (.inr r));have l:C≠a:=by
  rcases U with e|e
  ·rw[e];exact h2
  ·exactλz=>t x a e z.symm
 refine⟨m,hn.sameBut y l,λh' f=>⟨_,H',Y.turned (t':=s2.toks) (λb o L e=>(f.2 b L).trans e) h1 h2 (.inr T) t Q,q⟩⟩
end
end L2
namespace Mi
open PySem PySem.Spec PyProof.Rows L2
inductive W where
 |non|bl (b:Bool)|int (i:Int)|str (x:Str)|tup (xs:List W)|ref (n:Nat)
 |clo (k:Nat) (xs:List W) (P:Obj->Addr->Obj->List V->Prop)
 |xc (x:Str)
 |fn (x:Str)
inductive O where
 |lst (xs:List W)|ro (xs:List W)|dct (kvs:List (Key×W))
 |td (kvs:List (List Int×W))
 |tr (kvs:List (List Int×W))
 |tab (q:Str) (P:Addr)
noncomputable def O.mut:O->Bool
 |.ro _=>false|.tr _=>false|_=>true
noncomputable abbrev Hx:=List O
noncomputable abbrev En:=List (Option W)
inductive R (α:Type) where
 |ok (a:α) (A:Hx)|exc (x:Str) (A:Hx)|bad
noncomputable def R.bind {b:Type}(r:R α)(f:α->Hx->R b):R b:=match r with
 |.ok a A=>f a A|.exc x A=>.exc x A|.bad=>.bad
def R.post (r:R α)(P:α->Hx->Prop)(E:Str->Hx->Prop):Prop:=match r with
 |.ok a A=>P a A|.exc x A=>E x A|.bad=>False
noncomputable def R.nox (r:R α):R α:=match r with
 |.ok a A=>.ok a A|.exc _ _=>.bad|.bad=>.bad
section
variable {β:Type}{r:R α}{f:α->Hx->R β}{P Q:α->Hx->Prop}{P':β->Hx->Prop}{E F:Str->Hx->Prop}
def zP {a:α}{A:Hx}:(R.ok a A).bind f=f a A:=rfl
def NZ {A:Hx}:(R.exc x A:R α).bind f=.exc x A:=rfl
def qm:(r.bind f).post P' E↔r.post (λa A=>(f a A).post P' E) E:=by cases r<;>exact Iff.rfl
def qL (h:r.post P E)(H:∀a A,P a A->Q a A)(b:∀x A,E x A->F x A):r.post Q F:=by
 cases r with
 |ok a A=>exact H _ _ h|exc x A=>exact b _ _ h|bad=>exact h
end
abbrev Ev:=En->Hx->R W
inductive zgr (K:Frag)(H:Hp)(R:List V->Prop)(v:V):Prop
 |mk (a:Addr) (vs:List V) (e:v=.ref a) (h:qK K H a vs) (r:R vs)
inductive zgk (H:Hp)(P:Obj->Addr->Obj->List V->Prop)(R:List V->Prop)(v:V):Prop
 |mk (a:Addr) (ob:Obj) (u:HO) (c:Addr) (oc:Obj) (uc:HO) (vs:List V) (e:v=.ref a) (h1:H a=some (.frz ob u)) (h2:H c=some (.frz oc uc)) (p:P ob c oc vs) (r:R vs)
inductive zg6 (R:V->Prop)(Rs:List V->Prop)(vs:List V):Prop
 |mk (v:V) (r:List V) (e:vs=v::r) (h:R v) (t:Rs r)
mutual
def RV (K:Frag)(c:bT)(H:Hp):W->V->Prop
 |.non,v=>v=.non|.bl b,v=>v=.bl b|.int i,v=>v=.int i|.str x,v=>v=.str x|.tup w,v=>zgr K H (zK K c H w) v|.ref n,v=>∃a,v=.ref a/\c[n]? =some a|.clo _ w P,v=>zgk H P (zK K c H w) v|.xc x,v=>∃a o u C,v=.ref a/\H a=some (.frz o u)/\o.cls=.ref C/\nsIn K mainGlobals x=some (some (.ref C))|.fn x,v=>∃a,v=.ref a/\nsIn K mainGlobals x=some (some (.ref a))
def zK (K:Frag)(φ:bT)(H:Hp):List W->List V->Prop
 |[],vs=>vs=[]|w::ws,vs=>zg6 (RV K φ H w) (zK K φ H ws) vs
end
structure Le (K:Frag)(φ:bT)(H:Hp)(q7:bT)(H':Hp):Prop where
 ex:∀(n:Nat)(a:Addr),φ[n]? =some a->q7[n]? =some a
 tp:∀a vs,qK K H a vs->qK K H' a vs
 fr:∀a o,H a=some o->(∀n:Nat,φ[n]?≠some a)->H' a=some o
 nw:∀(n:Nat)(a:Addr),q7[n]? =some a->φ[n]? =some a∨H a=none
 st:∀a,H' a=none->H a=none
 fz:∀a o u,H a=some (.frz o u)->H' a=some (.frz o u)
def Le.refl {K φ H}:Le K φ H φ H:=⟨λ_ _ h=>h,λ_ _ h=>h,λ_ _ h _=>h,λ_ _ h=>.inl h,λ_ h=>h,λ_ _ _ h=>h⟩
def Le.trans {K φ H rf H1 φ2 H2}(a:Le K φ H rf H1)(b:Le K rf H1 φ2 H2):Le K φ H φ2 H2 where
 ex:=λn x h=>b.ex n x (a.ex n x h)
 tp:=λn x h=>b.tp n x (a.tp n x h)
 fr:=λc o h n=>b.fr c o (a.fr c o h n) λk e=>by
  rcases a.nw k c e with e|e
  ·exact n k e
  ·rw[h]at e;cases e
 nw:=λn c e=>by
  rcases b.nw n c e with e|e
  ·exact a.nw n c e
  ·exact .inr (a.st c e)
 st:=λc e=>a.st c (b.st c e)
 fz:=λc o u h=>b.fz c o u (a.fz c o u h)
def Le.off {K φ H q7 H'}(l:Le K φ H q7 H')(h:H D=some o)(n:∀k:Nat,φ[k]?≠some D):H' D=some o/\∀k:Nat,q7[k]?≠some D:=
 ⟨l.fr D o h n,λk e=>by
  rcases l.nw k D e with e|e
  ·exact n k e
  ·rw[h]at e;cases e⟩
section
variable {K:Frag}{q7:bT}{H':Hp}
structure QX (K:Frag)(φ:bT)(H:Hp)(q7:bT)(H':Hp):Prop where
 ex:∀(n:Nat)(a:Addr),φ[n]? =some a->q7[n]? =some a
 tp:∀a vs,qK K H a vs->qK K H' a vs
 fz:∀a o u,H a=some (.frz o u)->H' a=some (.frz o u)
mutual
theorem RV.monoW (l:QX K φ H q7 H'):∀{w:W}{v:V},RV K φ H w v->RV K q7 H' w v
 |.non,_,h=>h|.bl _,_,h=>h|.int _,_,h=>h|.str _,_,h=>h|.tup p,_,⟨a,g,e,t,r⟩=>⟨a,g,e,l.tp _ _ t,zK.monoW l r⟩|.ref n,_,⟨a,e,f⟩=>⟨a,e,l.ex _ _ f⟩|.clo _ p P,_,⟨a,ob,u,c,b,U,g,e,j,i,d,r⟩=>⟨a,ob,u,c,b,U,g,e,l.fz _ _ _ j,l.fz _ _ _ i,d,zK.monoW l r⟩|.xc x,_,⟨a,o,u,C,e,j,i⟩=>⟨a,o,u,C,e,l.fz _ _ _ j,i⟩|.fn _,_,h=>h
theorem zK.monoW (l:QX K φ H q7 H'):∀{a:List W}{b:List V},zK K φ H a b->zK K q7 H' a b
 |[],_,h=>h|w::a,_,⟨v,r,e,h,t⟩=>⟨v,r,e,RV.monoW l h,zK.monoW l t⟩
end
def RV.mono {w:W}(h:RV K φ H w v)(l:Le K φ H q7 H'):RV K q7 H' w v:=RV.monoW ⟨l.ex,l.tp,l.fz⟩ h
def zK.mono {w:List W}{v:List V}(h:zK K φ H w v)(l:Le K φ H q7 H'):zK K q7 H' w v:=zK.monoW ⟨l.ex,l.tp,l.fz⟩ h
structure kz (K:Frag)(D:Addr)(φ:bT)(H:Hp)(q7:bT)(H':Hp):Prop where
 ex:∀(n:Nat)(a:Addr),φ[n]? =some a->q7[n]? =some a
 tp:∀a vs,qK K H a vs->qK K H' a vs
 fr:∀a o,a≠D->H a=some o->(∀n:Nat,φ[n]?≠some a)->H' a=some o
 nw:∀(n:Nat)(a:Addr),q7[n]? =some a->φ[n]? =some a∨H a=none
 st:∀a,H' a=none->H a=none
 fz:∀a o u,H a=some (.frz o u)->H' a=some (.frz o u)
def kz.refl {D}:kz K D φ H φ H:=⟨λ_ _ h=>h,λ_ _ h=>h,λ_ _ _ h _=>h,λ_ _ h=>.inl h,λ_ h=>h,λ_ _ _ h=>h⟩
def Le.toD {D}(l:Le K φ H q7 H'):kz K D φ H q7 H':=⟨l.ex,l.tp,λa o _ h n=>l.fr a o h n,l.nw,l.st,l.fz⟩
def kz.trans {D rf H1 φ2 H2}(a:kz K D φ H rf H1)(b:kz K D rf H1 φ2 H2):kz K D φ H φ2 H2 where
 ex:=λn x h=>b.ex n x (a.ex n x h)
 tp:=λn x h=>b.tp n x (a.tp n x h)
 fr:=λc o N h n=>b.fr c o N (a.fr c o N h n) λk e=>by
  rcases a.nw k c e with e|e
  ·exact n k e
  ·rw[h]at e;cases e
 nw:=λn c e=>by
  rcases b.nw n c e with e|e
  ·exact a.nw n c e
  ·exact .inr (a.st c e)
 st:=λc e=>a.st c (b.st c e)
 fz:=λc o u h=>b.fz c o u (a.fz c o u h)
def RV.monoD {D}{w:W}(h:RV K φ H w v)(l:kz K D φ H q7 H'):RV K q7 H' w v:=RV.monoW ⟨l.ex,l.tp,l.fz⟩ h
def zK.monoD {D}{w:List W}{v:List V}(h:zK K φ H w v)(l:kz K D φ H q7 H'):zK K q7 H' w v:=zK.monoW ⟨l.ex,l.tp,l.fz⟩ h
theorem zK.length:∀{a:List W}{b:List V},zK K φ H a b->a.length=b.length
 |[],_,h=>by cases h;rfl|w::a,_,⟨v,r,e,_,t⟩=>by subst e;simp[zK.length t]
theorem zK.get:∀{a:List W}{b:List V}{i:Nat}{w:W},zK K φ H a b->a[i]? =some w->∃v,b[i]? =some v/\RV K φ H w v
 |[],_,_,_,_,e=>by simp at e|w::a,_,0,_,⟨v,r,e,h,t⟩,q=>by subst e;simp at q;subst q;exact⟨v,by simp,h⟩|w::a,_,i+1,x,⟨v,r,e,h,t⟩,q=>by
  subst e;obtain⟨y,d,c⟩:=zK.get (i:=i) (w:=x) t (by simpa using q)
  exact⟨y,by simpa using d,c⟩
theorem zK.append:∀{a u:List W}{b x:List V},zK K φ H a b->zK K φ H u x->zK K φ H (a++u) (b++x)
 |[],_,_,_,h,t=>by cases h;exact t|w::a,_,_,_,⟨v,r,e,h,t⟩,T=>by subst e;exact⟨v,r++_,rfl,h,zK.append t T⟩
def zK.one {w:W}(h:RV K φ H w v):zK K φ H [w] [v]:=⟨v,[],rfl,h,rfl⟩
def zK.nil:zK K φ H [] []:=rfl
def zK.cons {w:W}{v:V}{a:List W}{vs:List V}(h:RV K φ H w v)(t:zK K φ H a vs):zK K φ H (w::a) (v::vs):=⟨v,vs,rfl,h,t⟩
theorem zK.set {w:W}(q:RV K φ H w v):∀{b:List W}{c:List V}(i:Nat),zK K φ H b c->zK K φ H (b.set i w) (c.set i v)
 |[],_,_,h=>by cases h;exact rfl|_::_,_,0,⟨a,r,e,h,t⟩=>by subst e;exact⟨v,r,rfl,q,t⟩|_::_,_,i+1,⟨a,r,e,h,t⟩=>by subst e;exact⟨a,_,rfl,h,zK.set q i t⟩
theorem zK.drop:∀{w:List W}{a:List V}(n:Nat),zK K φ H w a->zK K φ H (w.drop n) (a.drop n)
 |[],_,n,h=>by cases h;rw[List.drop_nil,List.drop_nil];exact zK.nil|_::_,_,0,h=>by simpa using h|_::_,_,n+1,⟨v,r,e,h,t⟩=>by subst e;simpa using zK.drop n t
theorem zK.take:∀{w:List W}{a:List V}(n:Nat),zK K φ H w a->zK K φ H (w.take n) (a.take n)
 |[],_,n,h=>by cases h;rw[List.take_nil,List.take_nil];exact zK.nil|_::_,_,0,h=>by rw[take_zero,take_zero];exact zK.nil|_::_,_,n+1,⟨v,r,e,h,t⟩=>by subst e;exact⟨v,_,rfl,h,zK.take n t⟩
theorem zK.erase:∀{w:List W}{a:List V}(n:Nat),zK K φ H w a->zK K φ H (w.eraseIdx n) (a.eraseIdx n)
 |[],_,n,h=>by cases h;rw[List.eraseIdx_nil,List.eraseIdx_nil];exact zK.nil|_::_,_,0,⟨v,r,e,h,t⟩=>by subst e;simpa using t|_::_,_,n+1,⟨v,r,e,h,t⟩=>by subst e;exact⟨v,_,rfl,h,zK.erase n t⟩
theorem zK.ints:∀{ns:bR}{vs:List V},zK K φ H (ns.map W.int) vs↔vs=ns.map V.int
 |[],vs=>Iff.rfl|n::ns,vs=>by
  constructor
  ·rintro⟨v,r,e,h,t⟩
   rw[e,(show v=V.int n from h),zK.ints.mp t];rfl
  ·intro e
   exact⟨V.int n,ns.map V.int,e,rfl,zK.ints.mpr rfl⟩
def Kl (K:Frag)(H:Hp)(a:Addr)(x:List V):Prop:=
 (∃ob,H a=some (.frz ob (.lst x)))∨
  ∃(o:Obj) (p9:Array Value) (n:Nat),K.lookup a=some o/\o.cls=.type "list" /\ o.dict=none/\o.data=.seq p9 n/\p9.size<=sizeLine/\Vals x p9.toList
def Kl.sq (h:Kl K H a xs):jm K H a xs:=by
 rcases h with h|h
 ·exact .inl (.inr h)
 ·exact .inr h
inductive TabAt (H:Hp)(q:Str)(cv:Value):Prop
 |mk (c:Addr) (oc:Obj) (u:HO) (vs:Array Value) (t:Tok) (e:cv=.ref c) (h:H c=some (.frz oc u)) (d:oc.data=.fields vs/\vs[1]? =some (.str q t))
def WZ (H:Hp)(q:Str)(ps:Array Value):Prop:=TriplesOk ps.toList/\∀p c,codeAmong p ps.toList=some c->TabAt H q c
def WZ.mono {q:Str}{ps:Array Value}(h:WZ H q ps)(l:∀a o u,H a=some (.frz o u)->H' a=some (.frz o u)):WZ H' q ps:=
 ⟨h.1,λp C e=>by obtain⟨c,b,u,v,t,g,f,d⟩:=h.2 p C e;exact⟨c,b,u,v,t,g,l _ _ _ f,d⟩⟩
noncomputable def hT (K:bR):Int:=reduceHash (Builtin.Tuple.tupleHashOf (K.map hashInt))
def fx (a:Addr)(X:List (List Int×Addr×V))(h:Heap):Prop:=(a==sysModules)=false/\X.length<=sizeLine/\∃Z:List (List Int×Addr×Value),
 Paired (λ(p:List Int×Addr×V) (q:List Int×Addr×Value)=>p.1=q.1/\p.2.1=q.2.1/\RelV p.2.2 q.2.2) X Z/\
 ∃o e E,h.get? a=some o/\o.ExactDict/\o.data=.dict e E/\e.toList=Z.map (λx=>(⟨hT x.1,.ref x.2.1,x.2.2⟩:DictEntry))/\(Z.map (·.1)).Nodup
def fy (a:Addr)(X:List (List Int×Addr×V))(o:Obj):Prop:=(a==sysModules)=false/\X.length<=sizeLine/\∃Z:List (List Int×Addr×Value),
 Paired (λ(p:List Int×Addr×V) (q:List Int×Addr×Value)=>p.1=q.1/\p.2.1=q.2.1/\RelV p.2.2 q.2.2) X Z/\
 ∃e E,o.ExactDict/\o.data=.dict e E/\e.toList=Z.map (λx=>(⟨hT x.1,.ref x.2.1,x.2.2⟩:DictEntry))/\(Z.map (·.1)).Nodup
def OR (K:Frag)(c:bT)(H:Hp)(a:Addr):O->Prop
 |.lst w=>∃v,H a=some (.lst v)/\zK K c H w v|.ro w=>∃v,Kl K H a v/\zK K c H w v|.dct b=>∃U,H a=some (.dK U)/\U.map (·.1)=b.map (·.1)/\zK K c H (b.map (·.2)) (U.map (·.2))|.td b=>∃X:List (List Int×Addr×V),H a=some (.ext (fx a X))/\X.map (·.1)=b.map (·.1)/\(∀x∈X,qK K H x.2.1 (x.1.map V.int))/\zK K c H (b.map (·.2)) (X.map (·.2.2))|.tr b=>∃(ob:Obj) (u:HO) (X:List (List Int×Addr×V)),H a=some (.frz ob u)/\fy a X ob/\X.map (·.1)=b.map (·.1)/\(∀x∈X,qK K H x.2.1 (x.1.map V.int))/\zK K c H (b.map (·.2)) (X.map (·.2.2))|.tab q P=>a=P/\∃ps,H a=some (.tbl ps)/\WZ H q ps
structure zX (K:Frag)(φ:bT)(A:Hx)(H:Hp):Prop where
 len:φ.length=A.length
 inj:∀(i j:Nat)(a:Addr)(o o':O),φ[i]? =some a->φ[j]? =some a->A[i]? =some o->A[j]? =some o'->o.mut=true->o'.mut=true->i=j
 ob:∀(n:Nat)(o:O),A[n]? =some o->∃a,φ[n]? =some a/\OR K φ H a o
variable {A:Hx}
def OR.there {o:O}(h:OR K φ H a o)(m:o.mut=true):∃u,H a=some u/\(∀xs,u≠.tup xs)/\(∀ob v,u≠.frz ob v):=by
 cases o with
 |lst w=>obtain⟨b,e,_⟩:=h;exact⟨_,e,λ_ z=>(by cases z),λ_ _ z=>(by cases z)⟩|ro w=>cases m|dct c=>obtain⟨b,e,_⟩:=h;exact⟨_,e,λ_ z=>(by cases z),λ_ _ z=>(by cases z)⟩|td c=>obtain⟨b,e,_⟩:=h;exact⟨_,e,λ_ z=>(by cases z),λ_ _ z=>(by cases z)⟩|tr _=>cases m|tab q P=>obtain⟨_,b,e,_⟩:=h;exact⟨_,e,λ_ z=>(by cases z),λ_ _ z=>(by cases z)⟩
def Xc (h:qK K H a vs)(n:∀xs,H b≠some (.tup xs))(N:∀ob u,H b≠some (.frz ob u)):qK K (upd H b o) a vs:=by
 rcases h with (h|⟨ob,h⟩)|h
 ·exact .inl (.inl (by rw[qC];exact h;intro e;subst e;exact n _ h))
 ·exact .inl (.inr ⟨ob,by rw[qC];exact h;intro e;subst e;exact N _ _ h⟩)
 ·exact .inr h
theorem Le.upd {k:Nat}(c:φ[k]? =some b)(n:∀xs,H b≠some (.tup xs))(N:∀ob u,H b≠some (.frz ob u)):Le K φ H φ (upd H b o) where
 ex:=λ_ _ h=>h
 tp:=λ_ _ h=>Xc h n N
 fr:=λa u h z=>by
  rw[qC];exact h;intro e;subst e;exact z k c
 nw:=λ_ _ h=>.inl h
 st:=λa h=>by
  by_cases e:a=b
  ·subst e;rw[j9]at h;cases h
  ·rw[qC e]at h;exact h
 fz:=λa ob u h=>by
  rw[qC];exact h;intro e;subst e;exact N _ _ h
def Le.new {p:Addr}(b:H p=none):Le K φ H φ (L2.upd H p o) where
 ex:=λ_ _ h=>h
 tp:=λ_ _ h=>Xc h (λx z=>by rw[b]at z;cases z) (λ_ _ z=>by rw[b]at z;cases z)
 fr:=λa u h z=>by
  rw[qC];exact h;intro e;subst e;rw[b]at h;cases h
 nw:=λ_ _ h=>.inl h
 st:=λa h=>by
  by_cases e:a=p
  ·subst e;rw[j9]at h;cases h
  ·rw[qC e]at h;exact h
 fz:=λa ob u h=>by
  rw[qC];exact h;intro e;subst e;rw[b]at h;cases h
def Le.alloc {p:Addr}(b:H p=none):Le K φ H (φ++[p]) (L2.upd H p o) where
 ex:=λn a h=>by
  have:=(cw.mp h).1
  rw[ai this];exact h
 tp:=(Le.new (φ:=φ) b).tp
 fr:=(Le.new (K:=K) (φ:=φ) b).fr
 nw:=λn a h=>by
  by_cases c:n < φ.length
  ·rw[ai c]at h;exact .inl h
  ·rw[au (by omega)]at h
   have e:a=p:=by
    have:=bq h
    simpa using this
   subst e;exact .inr b
 st:=(Le.new (K:=K) (φ:=φ) b).st
 fz:=(Le.new (K:=K) (φ:=φ) b).fz
def Le.ofD (b:H D=none)(l:kz K D φ (L2.upd H D o) q7 H'):Le K φ H q7 H' where
 ex:=l.ex
 tp:=λa v h=>l.tp a v ((Le.new (K:=K) (φ:=φ) b).tp a v h)
 fr:=λa u h n=>by
  have N:a≠D:=by rintro rfl;rw[b]at h;cases h
  exact l.fr a u N (by rw[qC N];exact h) n
 nw:=λn a e=>by
  rcases l.nw n a e with e|e
  ·exact .inl e
  ·by_cases h:a=D
   ·subst h;rw[j9]at e;cases e
   ·rw[qC h]at e;exact .inr e
 st:=λa e=>by
  have E:=l.st a e
  by_cases h:a=D
  ·subst h;rw[j9]at E;cases E
  ·rw[qC h]at E;exact E
 fz:=λa ob u h=>l.fz a ob u (by rw[qC];exact h;rintro rfl;rw[b]at h;cases h)
theorem kz.upd (b:H D=some (.lst xs)):kz K D φ H φ (L2.upd H D o) where
 ex:=λ_ _ h=>h
 tp:=λa v h=>Xc h (λxs z=>by rw[b]at z;cases z) (λ_ _ z=>by rw[b]at z;cases z)
 fr:=λa u N h n=>by rw[qC N];exact h
 nw:=λ_ _ h=>.inl h
 st:=λa e=>by
  by_cases h:a=D
  ·subst h;rw[j9]at e;cases e
  ·rw[qC h]at e;exact e
 fz:=λa ob u h=>by
  rw[qC];exact h;intro e;subst e;rw[b]at h;cases h
def OR.keep {o:O}(h:OR K φ H a o)(l:Le K φ H q7 H')(e:∀u,H a=some u->H' a=some u):OR K q7 H' a o:=by
 cases o with
 |lst w=>obtain⟨v,q,r⟩:=h;exact⟨v,e _ q,r.mono l⟩|dct c=>obtain⟨v,q,k,r⟩:=h;exact⟨v,e _ q,k,r.mono l⟩|td c=>obtain⟨v,q,k,t,r⟩:=h;exact⟨v,e _ q,k,λx b=>l.tp _ _ (t x b),r.mono l⟩|tr c=>obtain⟨ob,u,v,q,d,k,t,r⟩:=h;exact⟨ob,u,v,e _ q,d,k,λx b=>l.tp _ _ (t x b),r.mono l⟩|tab q P=>obtain⟨k,ps,q,r⟩:=h;exact⟨k,ps,e _ q,r.mono l.fz⟩|ro w=>
  obtain⟨v,q,r⟩:=h;refine⟨v,?_,r.mono l⟩;rcases q with ⟨ob,q⟩|q
  ·exact .inl ⟨ob,e _ q⟩
  ·exact .inr q
theorem zX.alloc {p:Addr}{u:HO}{o:O}(S:zX K φ A H)(g:H p=none)(new:OR K (φ++[p]) (L2.upd H p u) p o):Le K φ H (φ++[p]) (L2.upd H p u)/\zX K (φ++[p]) (A++[o]) (L2.upd H p u):=by
 have l:Le K φ H (φ++[p]) (L2.upd H p u):=Le.alloc g;have C:∀(i:Nat) a,(φ++[p])[i]? =some a->i<A.length->φ[i]? =some a:=λi a e b=>by
  rw[ai (by rw[S.len];exact b)]at e;exact e
 refine⟨l,by simp[S.len],λi j a x w I D f c J M=>?_,λn L e=>?_⟩
 ·by_cases b:i<A.length
  ·by_cases d:j<A.length
   ·rw[ai b]at f
    rw[ai d]at c;exact S.inj i j a x w (C i a I b) (C j a D d) f c J M
   ·exfalso
    rw[ai b]at f;have t:j=A.length:=by have:=(cw.mp c).1;simp at this;omega
    subst t;rw[au (by rw[S.len];exact aq _),S.len]at D
    simp at D;obtain⟨B,E,q⟩:=S.ob i x f;rw[C i a I b]at E;cases E;obtain⟨z,h,_⟩:=q.there J;rw[<- D,g]at h;cases h
  ·have v:i=A.length:=by have:=(cw.mp f).1;simp at this;omega
   by_cases d:j<A.length
   ·exfalso
    rw[ai d]at c;subst v;rw[au (by rw[S.len];exact aq _),S.len]at I
    simp at I;obtain⟨B,E,q⟩:=S.ob j w c;rw[C j a D d]at E;cases E;obtain⟨z,h,_⟩:=q.there M;rw[<- I,g]at h;cases h
   ·have:=(cw.mp c).1;simp at this;omega
 ·by_cases N:n<A.length
  ·rw[ai N]at e
   obtain⟨a,E,q⟩:=S.ob n L e;refine⟨a,l.ex _ _ E,q.keep l λz h=>?_⟩;rw[qC];exact h;intro y;subst y;rw[g]at h;cases h
  ·have r:n=A.length:=by have:=(cw.mp e).1;simp at this;omega
   subst r;rw[au (aq _)]at e;simp at e;subst e;exact⟨p,by rw[au (by rw[S.len];exact aq _),S.len];simp,new⟩
def zX.write {p:Addr}{u:HO}{o o':O}(S:zX K φ A H)(Z:A[n]? =some o)(m:o.mut=true)(U:o'.mut=true)(c:φ[n]? =some p)(new:OR K φ (L2.upd H p u) p o'):
  Le K φ H φ (L2.upd H p u)/\zX K φ (A.set n o') (L2.upd H p u):=by
 obtain⟨T,e,q⟩:=S.ob n o Z;rw[c]at e;cases e;obtain⟨z,h,I,N⟩:=q.there m;have l:Le K φ H φ (L2.upd H p u):=Le.upd c (λxs e=>by rw[h]at e;exact I xs (aI e)) λob v e=>by rw[h]at e;exact N ob v (aI e)
 have mt:∀(i:Nat)(w:O),(A.set n o')[i]? =some w->w.mut=true->∃f,A[i]? =some f/\f.mut=true:=λi w e M=>by
  by_cases X:i=n
  ·subst X;exact⟨o,Z,m⟩
  ·rw[ax (Ne.symm X)]at e;exact⟨w,e,M⟩
 refine⟨l,by simp[S.len],λi j a D C h1 h2 P L m1 m2=>?_,λi w e=>?_⟩
 ·obtain⟨y,E,k1⟩:=mt i D P m1
  obtain⟨g,Q,k2⟩:=mt j C L m2;exact S.inj i j a y g h1 h2 E Q k1 k2
 ·by_cases X:i=n
  ·subst X
   have:i<A.length:=(cw.mp Z).1
   rw[ay this]at e;cases e;exact⟨p,c,new⟩
  ·rw[ax (Ne.symm X)]at e
   obtain⟨a,E,r⟩:=S.ob i w e;refine⟨a,E,?_⟩
   by_cases Y:w.mut=true
   ·have ne:a≠p:=λz=>X (S.inj i n a w o E (by rw[z];exact c) e Z Y m)
    exact r.keep l λz h=>by rw[qC ne];exact h
   ·cases w with
    |lst _=>exact absurd rfl Y|dct _=>exact absurd rfl Y|td _=>exact absurd rfl Y|tr _=>obtain⟨ob,u,vs,q,d,k,t,r⟩:=r;exact⟨ob,u,vs,l.fz _ _ _ q,d,k,λx J=>l.tp _ _ (t x J),r.mono l⟩|tab _ _=>exact absurd rfl Y|ro ws=>
     obtain⟨vs,b,B⟩:=r;refine⟨vs,?_,B.mono l⟩;rcases b with ⟨ob,b⟩|b
     ·refine .inl ⟨ob,?_⟩
      rw[qC];exact b;intro z;subst z;rw[h]at b;exact N _ _ (aI b)
     ·exact .inr b
def zX.lay {p:Addr}{u:HO}(S:zX K φ A H)(b:H p=none):zX K φ A (L2.upd H p u):=
 ⟨S.len,S.inj,λn o e=>by
  obtain⟨a,c,q⟩:=S.ob n o e;refine⟨a,c,q.keep (Le.new b) λz h=>?_⟩;rw[qC];exact h;intro E;subst E;rw[b]at h;cases h⟩
def zX.off (S:zX K φ A H)(b:H D=some (.lst xs))(n:∀k:Nat,φ[k]?≠some D):zX K φ A (L2.upd H D o):=
 ⟨S.len,S.inj,λk u e=>by
  obtain⟨a,E,q⟩:=S.ob k u e;have N:a≠D:=λz=>n k (by rw[<- z];exact E)
  have l:kz K D φ H φ (L2.upd H D o):=kz.upd b;refine⟨a,E,?_⟩;cases u with
  |lst w=>obtain⟨v,q,r⟩:=q;exact⟨v,by rw[qC N];exact q,r.monoD l⟩|dct c=>obtain⟨v,q,k,r⟩:=q;exact⟨v,by rw[qC N];exact q,k,r.monoD l⟩|td c=>obtain⟨v,q,k,t,r⟩:=q;exact⟨v,by rw[qC N];exact q,k,λx h=>l.tp _ _ (t x h),r.monoD l⟩|tr c=>obtain⟨ob,u,v,q,d,k,t,r⟩:=q;exact⟨ob,u,v,l.fz _ _ _ q,d,k,λx h=>l.tp _ _ (t x h),r.monoD l⟩|tab _ _=>obtain⟨k,v,q,r⟩:=q;exact⟨k,v,by rw[qC N];exact q,r.mono l.fz⟩|ro w=>
   obtain⟨v,q,r⟩:=q;refine⟨v,?_,r.monoD l⟩;rcases q with ⟨ob,q⟩|q
   ·exact .inl ⟨ob,by rw[qC N];exact q⟩
   ·exact .inr q⟩
def zX.notin (S:zX K φ A H)(b:H D=none)(d:K.lookup D=none):∀k:Nat,φ[k]?≠some D:=λk e=>by
 have c:k<A.length:=by rw[<- S.len];exact(cw.mp e).1
 obtain⟨a,E,q⟩:=S.ob k A[k] (by simp[c])
 rw[e]at E;cases E;cases h:A[k] with
 |lst w=>rw[h]at q;obtain⟨v,z,_⟩:=q;rw[b]at z;cases z|dct w=>rw[h]at q;obtain⟨v,z,_⟩:=q;rw[b]at z;cases z|td _=>rw[h]at q;obtain⟨v,z,_⟩:=q;rw[b]at z;cases z|tr _=>rw[h]at q;obtain⟨_,_,_,z,_⟩:=q;rw[b]at z;cases z|tab _ _=>rw[h]at q;obtain⟨_,v,z,_⟩:=q;rw[b]at z;cases z|ro w=>
  rw[h]at q;obtain⟨v,z,_⟩:=q;rcases z with ⟨ob,z⟩|⟨o,i,n,z,_⟩
  ·rw[b]at z;cases z
  ·rw[d]at z;cases z
def zX.Y6 {u:HO}{o:O}(S:zX K φ A H)(I:H D=some u)(n:∀k:Nat,φ[k]?≠some D)(new:OR K (φ++[D]) H D o):zX K (φ++[D]) (A++[o]) H:=by
 have l:QX K φ H (φ++[D]) H:=⟨λn a h=>by
  have:=(cw.mp h).1
  rw[ai this];exact h,λ_ _ h=>h,λ_ _ _ h=>h⟩
 have L:∀(i:Nat) a,(φ++[D])[i]? =some a->i<A.length->φ[i]? =some a:=λi a e b=>by
  rw[ai (by rw[S.len];exact b)]at e;exact e
 have M:∀a,(φ++[D])[A.length]? =some a->a=D:=λa e=>by
  rw[au (by rw[S.len];exact aq _),S.len]at e
  simpa using e.symm
 refine⟨by simp[S.len],λi j a C B P N y f X U=>?_,λk T e=>?_⟩
 ·by_cases b:i<A.length
  ·by_cases c:j<A.length
   ·rw[ai b]at y
    rw[ai c]at f;exact S.inj i j a C B (L i a P b) (L j a N c) y f X U
   ·exfalso
    have v:j=A.length:=by have:=(cw.mp f).1;simp at this;omega
    subst v;exact n i (by rw[<- M a N];exact L i a P b)
  ·have w:i=A.length:=by have:=(cw.mp y).1;simp at this;omega
   by_cases c:j<A.length
   ·exfalso
    subst w;exact n j (by rw[<- M a P];exact L j a N c)
   ·have:=(cw.mp f).1;simp at this;omega
 ·by_cases Y:k<A.length
  ·rw[ai Y]at e
   obtain⟨a,E,q⟩:=S.ob k T e;refine⟨a,l.ex _ _ E,?_⟩;cases T with
   |lst Q=>obtain⟨J,z,r⟩:=q;exact⟨J,z,r.monoW l⟩|dct Q=>obtain⟨J,z,Z,r⟩:=q;exact⟨J,z,Z,r.monoW l⟩|td _=>obtain⟨J,z,Z,t,r⟩:=q;exact⟨J,z,Z,λx g=>l.tp _ _ (t x g),r.monoW l⟩|tr _=>obtain⟨ob,u,J,z,d,Z,t,r⟩:=q;exact⟨ob,u,J,z,d,Z,λx g=>l.tp _ _ (t x g),r.monoW l⟩|tab _ _=>exact q|ro Q=>obtain⟨J,z,r⟩:=q;exact⟨J,z,r.monoW l⟩
  ·have p:k=A.length:=by have:=(cw.mp e).1;simp at this;omega
   subst p;rw[au (aq _)]at e;simp at e;subst e;exact⟨D,by rw[au (by rw[S.len];exact aq _),S.len];simp,new⟩
def Le.Y6 {b:bT}{c:Hp}(l:Le K b c φ H)(g:c D=none):Le K b c (φ++[D]) H where
 ex:=λn a h=>by
  have d:=l.ex n a h
  have:=(cw.mp d).1
  rw[ai this];exact d
 tp:=l.tp
 fr:=l.fr
 nw:=λn a e=>by
  by_cases f:n < φ.length
  ·rw[ai f]at e;exact l.nw n a e
  ·rw[au (by omega)]at e
   have E:a=D:=by
    have:=bq e
    simpa using this
   subst E;exact .inr g
 st:=l.st
 fz:=l.fz
end
noncomputable abbrev St:=L2.St
abbrev XR:=Str->Hp->Prop
def PB (K:Frag)(b:bT)(H:Hp)(Q:VK):W->Hx->Prop:=λw A=>∀a h v,Le K b H a h->zX K a A h->RV K a h w v->Q v h
def fA (K:Frag)(b:bT)(H:Hp)(Q:List V->Hp->Prop):List W->Hx->Prop:=λw A=>∀a h v,Le K b H a h->zX K a A h->zK K a h w v->Q v h
def EB (K:Frag)(b:bT)(H:Hp)(X:XR):Str->Hx->Prop:=λx A=>∀a h,Le K b H a h->zX K a A h->X x h
structure RE (K:Frag)(φ:bT)(H:Hp)(ρ:En)(σ:St):Prop where
 len:σ.length=ρ.length
 get:∀(i:Nat)(w:W),ρ[i]? =some (some w)->∃v,σ[i]? =some (some v)/\RV K φ H w v
section
variable {K:Frag}{rf q7:bT}{H1 H':Hp}{A:Hx}{ρ:En}{xr:XR}
theorem RE.mono (r:RE K φ H ρ σ)(l:Le K φ H q7 H'):RE K q7 H' ρ σ:=⟨r.len,λi w e=>let ⟨v,a,h⟩:=r.get i w e;⟨v,a,h.mono l⟩⟩
def PB.mono {Q:VK}{w:W}(h:PB K φ H Q w A)(l:Le K φ H rf H1):PB K rf H1 Q w A:=λa b v L=>h a b v (l.trans L)
def EB.mono (h:EB K φ H xr x A)(l:Le K φ H rf H1):EB K rf H1 xr x A:=λa b L=>h a b (l.trans L)
theorem RE.set {w:W}(r:RE K φ H ρ σ)(q:RV K φ H w v):RE K φ H (ρ.set i (some w)) (σ.set i (some v)):=
 ⟨by simp[r.len],λj u e=>by
  by_cases h:i=j
  ·subst h
   have a:i < ρ.length:=by
    have:=(cw.mp e).1
    simpa using this
   rw[ay a]at e;cases e;exact⟨v,by rw[ay (by rw[r.len];exact a)],q⟩
  ·rw[ax h]at e
   obtain⟨x,c,b⟩:=r.get j u e;exact⟨x,by rw[ax h];exact c,b⟩⟩
end
inductive MM (K:Frag)(xr:XR)(m:Ev)(σ:St)(H:Hp)(Q:VK):Prop
 |mk (φ:bT) (A:Hx) (ρ:En) (S:zX K φ A H) (re:RE K φ H ρ σ) (h:(m ρ A).post (PB K φ H Q) (EB K φ H xr))
def tM (K:Frag)(x:XR)(m:Ev):TE:=λa H Q=>MM K x m a H Q
inductive MT (K:Frag)(xr:XR)(m:Ev)(σ:St)(H:Hp)(Q:Bool->Hp->Prop):Prop
 |mk (φ:bT) (A:Hx) (ρ:En) (S:zX K φ A H) (re:RE K φ H ρ σ) (h:(m ρ A).post (λw A'=>∃b,w=.bl b/\∀q7 H',Le K φ H q7 H'->zX K q7 A' H'->Q b H') (EB K φ H xr))
def tT (K:Frag)(x:XR)(m:Ev):TT:=λa H Q=>MT K x m a H Q
abbrev Ea:=En->Hx->R (List W)
inductive MA (K:Frag)(xr:XR)(m:Ea)(σ:St)(H:Hp)(Q:List V->Hp->Prop):Prop
 |mk (φ:bT) (A:Hx) (ρ:En) (S:zX K φ A H) (re:RE K φ H ρ σ) (h:(m ρ A).post (fA K φ H Q) (EB K φ H xr))
def Vw (K:Frag)(x:XR)(m:Ea):TA:=λa H Q=>MA K x m a H Q
def SE (X:Cx)(x:XR)(e:Expr)(m:Ev):Prop:=PE X e (tM X.K x m)
def ST (X:Cx)(x:XR)(e:Expr)(m:Ev):Prop:=PT X e (tT X.K x m)
def SW (X:Cx)(x:XR)(e:Expr)(m:Ev):Prop:=PW X e (tT X.K x m)
def SA (X:Cx)(x:XR)(e:bZ)(m:Ea):Prop:=PA X e (Vw X.K x m)
section
variable {xr:XR}{a b:Expr}{es:bZ}{m ma mb mc:Ev}
def PE.imp {t T:TE}(h:PE X e t)(i:∀σ H Q,T σ H Q->t σ H Q):PE X e T:=λp s σ H Q I w=>h p s σ H Q I (i σ H Q w)
def PT.imp {t T:TT}(h:PT X e t)(i:∀σ H Q,T σ H Q->t σ H Q):PT X e T:=λp s σ H Q I w=>h p s σ H Q I (i σ H Q w)
def PW.imp {t T:TT}(h:PW X e t)(i:∀σ H Q,T σ H Q->t σ H Q):PW X e T:=λw p s σ H Q I a=>h w p s σ H Q I (i σ H Q a)
def PA.imp {t T:TA}(h:PA X es t)(i:∀σ H Q,T σ H Q->t σ H Q):PA X es T:=λp P s σ H Q I w=>h p P s σ H Q I (i σ H Q w)
def tM.go {K:Frag}{A:Hx}{c:En}{Q:VK}{G:W->Hx->Prop}(S:zX K φ A H)(r:RE K φ H c σ)(h:(m c A).post G (EB K φ H xr))
  (k:∀w A1 a b v,G w A1->Le K φ H a b->zX K a A1 b->RV K a b w v->Q v b):tM K xr m σ H Q:=
 ⟨φ,A,c,S,r,qL h (λw A1 g a b v l s q=>k w A1 a b v g l s q) λ_ _ z=>z⟩
def Vw.go {K:Frag}{A:Hx}{c:En}{m:Ea}{Q:List V->Hp->Prop}{G:List W->Hx->Prop}(S:zX K φ A H)(r:RE K φ H c σ)(h:(m c A).post G (EB K φ H xr))
  (k:∀w A1 a b v,G w A1->Le K φ H a b->zX K a A1 b->zK K a b w v->Q v b):Vw K xr m σ H Q:=
 ⟨φ,A,c,S,r,qL h (λw A1 g a b v l s q=>k w A1 a b v g l s q) λ_ _ z=>z⟩
def tT.go {K:Frag}{A:Hx}{c:En}{Q:Bool->Hp->Prop}{G:W->Hx->Prop}(S:zX K φ A H)(r:RE K φ H c σ)(h:(m c A).post G (EB K φ H xr))
  (k:∀w A1,G w A1->∃b,w=.bl b/\∀a d,Le K φ H a d->zX K a A1 d->Q b d):tT K xr m σ H Q:=
 ⟨φ,A,c,S,r,qL h (λw A1 g=>k w A1 g) λ_ _ z=>z⟩
noncomputable def qg (i:Nat):Ev:=λa A=>match a[i]? with
 |some (some w)=>.ok w A|_=>.bad
noncomputable def zV (w:W):Ev:=λ_ A=>.ok w A
noncomputable def zi (g:W->W->Hx->R W)(a b:Ev):Ev:=λc A=>(a c A).bind λx e=>(b c e).bind λy d=>g x y d
noncomputable def yR (g:W->Hx->R W)(a:Ev):Ev:=λb A=>(a b A).bind λx c=>g x c
noncomputable abbrev ZX:Str->Hx->Prop:=λ_ _=>False
def yz (K:Frag)(r:R2)(g:W->W->Hx->R W):Prop:=∀a A H x y u v Q,zX K a A H->RV K a H u x->RV K a H v y->(g u v A).post (PB K a H Q) ZX->r x y H Q
def Ry (K:Frag)(r:V->Hp->VK->Prop)(g:W->Hx->R W):Prop:=∀a A H x u Q,zX K a A H->RV K a H u x->(g u A).post (PB K a H Q) ZX->r x H Q
def jh (r:R α):Prop:=∀x A,r≠.exc x A
def YD {r:R α}{P:α->Hx->Prop}{E:Str->Hx->Prop}(n:jh r)(h:r.post P E):r.post P ZX:=by
 cases r with
 |ok a A=>exact h|exc x A=>exact absurd rfl (n x A)|bad=>exact h
def zi.read {g:W->W->Hx->R W}{r:R2}(p:∀x y A,jh (g x y A))(e:yz X.K r g):∀σ H Q,tM X.K xr (zi g ma mb) σ H Q->Gf r (tM X.K xr ma) (tM X.K xr mb) σ H Q:=by
 rintro σ H Q ⟨C,A,D,S,n,h⟩
 refine tM.go S n (qm.mp h) λw I b E v u l i d=>?_;refine tM.go i (n.mono l) (qL (qm.mp u) (λ_ _ z=>z) λ_ _ z=>z.mono l) λc B a j o t L f q=>?_;exact e a B j v o w c Q f (d.mono L) q (qL (YD (p _ _ _) t) (λ_ _ z=>z.mono (l.trans L)) λ_ _ z=>z)
def yR.read {g:W->Hx->R W}{r:V->Hp->VK->Prop}(n:∀x A,jh (g x A))(b:Ry X.K r g):∀σ H Q,tM X.K xr (yR g ma) σ H Q->HN r (tM X.K xr ma) σ H Q:=by
 rintro σ H Q ⟨j,A,o,S,e,h⟩
 refine tM.go S e (qm.mp h) λw i a f v d l c q=>?_;exact b a i f v w Q c q (qL (YD (n _ _) d) (λ_ _ z=>z.mono l) λ_ _ z=>z)
def ZI {o:Operator}{r:R2}{g:W->W->Hx->R W}(h:q9 X (binaryOp o) r)(n:∀x y A,jh (g x y A))(H:yz X.K r g)(d:SE X xr a ma)(c:SE X xr b mb):SE X xr (.BinOp a o b p6) (zi g ma mb):=
 PE.imp (dE h d c) (zi.read n H)
def fC {o:UnaryOp}{r:V->Hp->VK->Prop}{g:W->Hx->R W}(h:Vz X (unaryOp o) r)(n:∀x A,jh (g x A))(H:Ry X.K r g)(b:SE X xr a ma):SE X xr (.UnaryOp o a p6) (yR g ma):=
 PE.imp (IQ h b) (yR.read n H)
def LG {r:R2}{g:W->W->Hx->R W}(h:q9 X (compareOp op) r)(n:∀x y A,jh (g x y A))(H:yz X.K r g)(d:SE X xr a ma)(c:SE X xr b mb)(e:behindInMarks op b=false):SE X xr (.Compare a [op] [b] p6) (zi g ma mb):=
 PE.imp (dY h d c e) (zi.read n H)
def tT.toM {K:Frag}{Q:Bool->Hp->Prop}(h:tT K xr m σ H Q):tM K xr m σ H λx f=>∃k,x=.bl k/\Q k f:=by
 obtain⟨i,A,j,S,r,h⟩:=h;refine tM.go S r h λw n a g v ⟨b,e,q⟩ l d c=>?_;subst e;exact⟨b,c,q a g l d⟩
def fD {r:R2}{g:W->W->Hx->R W}(o:q9 X (compareOp op) r)(n:∀x y A,jh (g x y A))(c:yz X.K r g)(e:SE X xr a ma)(d:SE X xr b mb)(i:behindInMarks op b=false):ST X xr (.Compare a [op] [b] p6) (zi g ma mb):=
 PT.imp (dZ o e d i) λf H Q h=>zi.read n c f H _ h.toM
noncomputable def wJ (g h:W->W->Hx->R W)(a b c:Ev):Ev:=λf A=>(a f A).bind λx j=>(b f j).bind λy i=>(g x y i).bind λz d=>match z with
 |.bl true=>(c f d).bind λw e=>h y w e|.bl false=>.ok (.bl false) d|_=>.bad
def wJ.read {g g':W->W->Hx->R W}{r i:R2}(hn:∀x y A,jh (g x y A))(U:yz X.K r g)(n:∀x y A,jh (g' x y A))(o:yz X.K i g'):
  ∀σ H Q,tM X.K xr (wJ g g' ma mb mc) σ H Q->Sl r i (tM X.K xr ma) (tM X.K xr mb) (tM X.K xr mc) σ H Q:=by
 rintro σ H Q ⟨φ,A,ρ,S,re,h⟩
 refine tM.go S re (qm.mp h) λw A1 I H1 v h1 L S1 T=>?_;refine tM.go S1 (re.mono L) (qL (qm.mp h1) (λ_ _ z=>z) λ_ _ z=>z.mono L) λf A2 b E v2 h2 C S2 t=>?_;have j:=L.trans C;have p:=qm.mp h2;have a:(g w f A2).post (PB X.K b E λz c=>∃k,z=.bl k/\if k=true then tM X.K xr mc σ c λM q=>i v2 M q Q else Q (.bl false) c) ZX:=by
  refine qL (YD (hn _ _ _) p) (λz A3 a e c zv B D P=>?_) λ_ _ z=>z;have l:=j.trans B;cases z with
  |bl k=>
   refine⟨k,P,?_⟩;cases k with
   |true=>
    rw[ah rfl];refine tM.go D (re.mono l) (qL (qm.mp a) (λ_ _ z=>z) λ_ _ z=>z.mono l) λJ A4 d q v4 Y u Z N=>?_;exact o d A4 q v2 v4 f J Q Z ((t.mono B).mono u) N (qL (YD (n _ _ _) Y) (λ_ _ z=>z.mono (l.trans u)) λ_ _ z=>z)
   |false=>
    rw[aj aF];exact a e c _ l D rfl
  |non=>cases a|int _=>cases a|str _=>cases a|tup _=>cases a|ref _=>cases a|clo _ _ _=>cases a|xc _=>cases a|fn _=>cases a
 exact U b A2 E v v2 w f _ S2 (T.mono C) t a
def fE {c:Expr}{o:CmpOp}{r e:R2}{g p:W->W->Hx->R W}(f:q9 X (compareOp op) r)(q:∀x y A,jh (g x y A))(i:yz X.K r g)(h:q9 X (compareOp o) e)(H:∀x y A,jh (p x y A))(d:yz X.K e p)
  (n:SE X xr a ma)(l:SE X xr b mb)(j:SE X xr c mc)(t:lastMarks [op,o] [b,c]=false:=by with_unfolding_all rfl):SE X xr (.Compare a [op,o] [b,c] p6) (wJ g p ma mb mc):=
 PE.imp (Av f h n l j t) (wJ.read q i H d)
def fF {c:Expr}{o:CmpOp}{r i:R2}{g t:W->W->Hx->R W}(j:q9 X (compareOp op) r)(v:∀x y A,jh (g x y A))(l:yz X.K r g)(d:q9 X (compareOp o) i)(e:∀x y A,jh (t x y A))(f:yz X.K i t)
  (q:SE X xr a ma)(p:SE X xr b mb)(n:SE X xr c mc)(w:lastMarks [op,o] [b,c]=false:=by with_unfolding_all rfl):ST X xr (.Compare a [op,o] [b,c] p6) (wJ g t ma mb mc):=
 PT.imp (d0 j d q p n w) λu H Q h=>wJ.read v l e f u H _ h.toM
noncomputable def jY (a b:Ev):Ev:=λc A=>(a c A).bind λx d=>match x with
 |.bl true=>b c d|.bl false=>.ok (.bl false) d|_=>.bad
noncomputable def wQ (a b:Ev):Ev:=λc A=>(a c A).bind λx d=>match x with
 |.bl true=>.ok (.bl true) d|.bl false=>b c d|_=>.bad
noncomputable def jR (a:Ev):Ev:=λb A=>(a b A).bind λx c=>match x with
 |.bl k=>.ok (.bl (!k)) c|_=>.bad
noncomputable def HL (c a b:Ev):Ev:=λd A=>(c d A).bind λx e=>match x with
 |.bl true=>a d e|.bl false=>b d e|_=>.bad
theorem tT.mono {K:Frag}{c:bT}{g:Hp}{A:Hx}{f:En}{Q:Bool->Hp->Prop}(S:zX K c A g)(L:Le K φ H c g)(r:RE K φ H f σ)
  (h:(m f A).post (λw A'=>∃b,w=.bl b/\∀a d,Le K φ H a d->zX K a A' d->Q b d) (EB K φ H xr)):tT K xr m σ g Q:=
 ⟨c,A,f,S,r.mono L,qL h (λw A' ⟨b,e,q⟩=>⟨b,e,λa d l s=>q a d (L.trans l) s⟩) λ_ _ z=>z.mono L⟩
noncomputable def zj:Ea:=λ_ A=>.ok [] A
noncomputable def zc (a:Ev)(r:Ea):Ea:=λb A=>(a b A).bind λx d=>(r b d).bind λX c=>.ok (x::X) c
def LD:SA X xr [] zj:=PA.imp yw λb H Q ⟨a,A,c,S,r,h⟩=>h a H [] .refl S .nil
def M7 {M:Ea}(f:SE X xr e ma)(r:SA X xr es M)(d:starEach (e::es) X.env=(false,eval e X.env)::starEach es X.env:=by rfl):SA X xr (e::es) (zc ma M):=
 PA.imp (jE f r d) λx H Q ⟨u,A,y,S,o,h⟩=>by
  refine tM.go S o (qm.mp h) λw E b C v t l i c=>?_;refine Vw.go i (o.mono l) (qL (qm.mp t) (λ_ _ z=>z) λ_ _ z=>z.mono l) λn D a j B p L g q=>?_;exact p a j _ (l.trans L) g (.cons (c.mono L) q)
noncomputable def qa (a:Ea):Ev:=λb A=>(a b A).bind λx c=>.ok (.tup x) c
noncomputable def qp (a:Ea):Ev:=λc A=>(a c A).bind λx b=>.ok (.ref b.length) (b++[.lst x])
def Z7 {K:Frag}{A:Hx}{p:Addr}{w:List W}(S:zX K φ A H)(h:H p=none)(r:zK K φ H w vs):
  Le K φ H φ (upd H p (.tup vs))/\zX K φ A (upd H p (.tup vs))/\RV K φ (upd H p (.tup vs)) (.tup w) (.ref p):=
 ⟨Le.new h,S.lay h,p,vs,rfl,qK.of j9,r.mono (Le.new h)⟩
def Jh {K:Frag}{A:Hx}{p:Addr}{w:List W}(S:zX K φ A H)(h:H p=none)(r:zK K φ H w vs):
  Le K φ H (φ++[p]) (upd H p (.lst vs))/\zX K (φ++[p]) (A++[.lst w]) (upd H p (.lst vs))/\RV K (φ++[p]) (upd H p (.lst vs)) (.ref A.length) (.ref p):=by
 have l:Le K φ H (φ++[p]) (upd H p (.lst vs)):=Le.alloc h;obtain⟨b,a⟩:=S.alloc (o:=.lst w) h ⟨vs,j9,r.mono l⟩;exact⟨b,a,p,rfl,by rw[<- S.len];simp⟩
def fG {M:Ea}(h:SA X xr es M)(c:∀ρ A ws A',M ρ A=.ok ws A'->ws.length<=sizeLine):SE X xr (.List es p6) (qp M):=
 PE.imp (d6 h) λn H Q ⟨i,A,ρ,S,r,h⟩=>by
  have g:=qm.mp h;cases e:M ρ A with
  |ok ws A'=>
   rw[e]at g;refine⟨i,A,ρ,S,r,?_⟩;rw[e];intro a o v l f q;refine⟨by rw[<- q.length];exact c ρ A ws A' e,λp b=>?_⟩
   obtain⟨j,a2,d⟩:=Jh f b q;exact g _ _ _ (l.trans j) a2 d
  |exc x A'=>rw[e]at g;refine⟨i,A,ρ,S,r,?_⟩;rw[e];exact g|bad=>rw[e]at g;exact g.elim
end
inductive Fl where
 |nx (ρ:En)|rt (w:W)|bk (ρ:En)|ct (ρ:En)
abbrev Ex:=En->Hx->R Fl
def FB (K:Frag)(d:bT)(H:Hp)(D:Ends):Fl->Hx->Prop
 |.nx c,A=>∀a h b,Le K d H a h->zX K a A h->RE K a h c b->D.nx b h|.rt w,A=>∀a h v,Le K d H a h->zX K a A h->RV K a h w v->D.rt v h|.bk c,A=>∀a h b,Le K d H a h->zX K a A h->RE K a h c b->D.bk b h|.ct c,A=>∀a h b,Le K d H a h->zX K a A h->RE K a h c b->D.ct b h
def FB.mono {K:Frag}{c:bT}{e:Hp}{D:Ends}{fl:Fl}{A:Hx}(h:FB K φ H D fl A)(l:Le K φ H c e):FB K c e D fl A:=by
 cases fl with
 |nx d=>exactλa b v L=>h a b v (l.trans L)|rt d=>exactλa b v L=>h a b v (l.trans L)|bk d=>exactλa b v L=>h a b v (l.trans L)|ct d=>exactλa b v L=>h a b v (l.trans L)
inductive MS (K:Frag)(xr:XR)(m:Ex)(D:Ends)(σ:St)(H:Hp):Prop
 |mk (φ:bT) (A:Hx) (ρ:En) (S:zX K φ A H) (re:RE K φ H ρ σ) (h:(m ρ A).post (FB K φ H D) (EB K φ H xr))
def tS (K:Frag)(x:XR)(m:Ex):TS:=λD a H=>MS K x m D a H
def SS (X:Cx)(x:XR)(S:Stmt)(m:Ex):Prop:=PS X S (tS X.K x m)
def Yc (X:Cx)(x:XR)(S:cg)(m:Ex):Prop:=ki X S (tS X.K x m)
section
variable {xr:XR}{a b c:Expr}{st:Stmt}{rh:cg}{m:Ev}{m1 m2:Ex}
def PS.imp {t T:TS}(h:PS X st t)(i:∀D σ H,T D σ H->t D σ H):PS X st T:=λp s σ H D I w=>h p s σ H D I (i D σ H w)
def ki.imp {t T:TS}(h:ki X rh t)(i:∀D σ H,T D σ H->t D σ H):ki X rh T:=λp s σ H D I w=>h p s σ H D I (i D σ H w)
noncomputable def zy:Ex:=λa A=>.ok (.nx a) A
noncomputable def zo (d M:Ex):Ex:=λc A=>(d c A).bind λfl b=>match fl with
 |.nx a=>M a b|f=>.ok f b
noncomputable def jB (m:Ev):Ex:=λa A=>(m a A).bind λ_ b=>.ok (.nx a) b
noncomputable def qI (m:Ev):Ex:=λa A=>(m a A).bind λw b=>.ok (.rt w) b
noncomputable def qU (c:Ev)(a b:Ex):Ex:=λd A=>(c d A).bind λx e=>match x with
 |.bl true=>a d e|.bl false=>b d e|_=>.bad
noncomputable def zQ (i:Nat)(m:Ev):Ex:=λa A=>(m a A).bind λw b=>.ok (.nx (a.set i (some w))) b
def zQ.read:∀D σ H,tS X.K xr (zQ i m) D σ H->Vg (tM X.K xr m) (XT i) D σ H:=by
 rintro D σ H ⟨e,A,f,S,r,h⟩
 exact tM.go S r (qm.mp h) λw g a d v c l b q=>c a d _ l b ((r.mono l).set q)
noncomputable def gJ (g:W->W->W->Hx->R Unit)(e M d:Ev):Ex:=λc A=>(e c A).bind λv h=>(M c h).bind λo f=>(d c f).bind λi b=>(g o i v b).bind λ_ a=>.ok (.nx c) a
def IP (K:Frag)(t:J2)(g:W->W->W->Hx->R Unit):Prop:=∀c A H o i v w b d Q,zX K c A H->RV K c H w o->RV K c H b i->RV K c H d v->
 (g w b d A).post (λ_ e=>∀a h,Le K c H a h->zX K a e h->Q h) ZX->t o i v H Q
def AW {o i:Expr}{mo mi:Ev}{t:J2}{g:W->W->W->Hx->R Unit}(ht:Vb X t)(hn:∀o i v A,jh (g o i v A))(U:IP X.K t g)(he:SE X xr e m)(P:SE X xr o mo)(T:SE X xr i mi)
  (N:swapsWithSole [.Subscript o i q5] e p6.line X.env=pure false:=by rfl)(hw:swappedStores [.Subscript o i q5] e X.env=pure none:=by rfl)
  (h1:(assignEach [.Subscript o i q5] X.env).map (·.2)=[assign (.Subscript o i q5) X.env]:=by rfl)
  (Y:∀v,assign (.Subscript o i q5) X.env v=(do
   let ov <- holding [v] (eval o X.env)
   let iv <- holding [v,ov] (eval i X.env)
   standAt q5
   holding [v,ov,iv] (setItem ov iv v)
   release [v,ov,iv] []):=by intro _;rfl):SS X xr (.Assign [.Subscript o i q5] e p6) (gJ g m mo mi):=
 PS.imp (L4 he (dk P T ht Y) N hw h1) λD σ H ⟨φ,A,ρ,S,re,h⟩=>by
  refine tM.go S re (qm.mp h) λn A1 E H1 v1 h1 f S1 M=>?_;refine tM.go S1 (re.mono f) (qL (qm.mp h1) (λ_ _ z=>z) λ_ _ z=>z.mono f) λj A2 C H2 v2 h2 q S2 J=>?_;have l:=f.trans q;refine tM.go S2 (re.mono l) (qL (qm.mp h2) (λ_ _ z=>z) λ_ _ z=>z.mono l) λw B c H3 I a d S3 Q=>?_;have L:=l.trans d;refine U c B H3 v2 I v1 j w n _ S3 (J.mono d) Q (M.mono (q.trans d)) ?_;cases r:g j w n B with
  |ok u y=>
   rw[r]at a;exactλb H4 p Z=>a b H4 σ (L.trans p) Z (re.mono (L.trans p))
  |exc x y=>exact absurd r (hn _ _ _ _ x y)|bad=>rw[r]at a;exact a.elim
structure jM where
 at_:Hx->Nat->Option (Option W)
 len:Nat
def Qm (K:Frag)(c:bT)(H:Hp)(j:jM)(J:It):Prop:=∀i a h A,QX K c H a h->zX K a A h->
 (∀w,j.at_ A i=some (some w)->J.go i h/\∀x b,J.yld i h x b->Le K a h a b/\zX K a A b/\RV K a b w x)/\(j.at_ A i=some none->J.stop i h)
abbrev Ei:=En->Hx->R jM
inductive MI (K:Frag)(xr:XR)(mi:Ei)(σ:St)(H:Hp)(Rr:It->Hp->Prop):Prop
 |mk (φ:bT) (A:Hx) (ρ:En) (S:zX K φ A H) (re:RE K φ H ρ σ) (h:(mi ρ A).post (λj A1=>∀rf H1 J,Le K φ H rf H1->zX K rf A1 H1->Qm K rf H1 j J->Rr J H1) (EB K φ H xr))
def tI (K:Frag)(x:XR)(M:Ei):TI:=λa H r=>MI K x M a H r
def SI (X:Cx)(x:XR)(t i:Expr)(M:Ei):Prop:=PI X t i (tI X.K x M)
def PI.imp {t T:TI}(h:PI X tg e t)(i:∀σ H Q,T σ H Q->t σ H Q):PI X tg e T:=λp s σ H Q I w=>h p s σ H Q I (i σ H Q w)
abbrev Tg:=W->En->Option En
inductive MG (K:Frag)(tw:Tg)(v:V)(σ:St)(H:Hp)(Q:St->Hp->Prop):Prop
 |mk (φ:bT) (A:Hx) (ρ:En) (w:W) (ρ':En) (S:zX K φ A H) (re:RE K φ H ρ σ) (rv:RV K φ H w v) (t:tw w ρ=some ρ') (q:∀σ',RE K φ H ρ' σ'->Q σ' H)
def tG (K:Frag)(t:Tg):TG:=λv a H Q=>MG K t v a H Q
def SG (X:Cx)(t:Expr)(T:Tg):Prop:=PG X t (tG X.K T)
def PG.imp {t T:TG}(h:PG X tg t)(i:∀v σ H Q,T v σ H Q->t v σ H Q):PG X tg T:=λp s σ H v u Q I r w=>h p s σ H v u Q I r (i v σ H Q w)
noncomputable def zG (i:Nat):Tg:=λw a=>some (a.set i (some w))
noncomputable def jO (i j:Nat):Tg:=λw a=>match w with
 |.tup [x,y]=>some ((a.set i (some x)).set j (some y))|_=>none
noncomputable def yL (j:jM)(S:W->Ex):Nat->Nat->Ex
 |0,i,ρ,A=>match j.at_ A i with
  |some none=>.ok (.nx ρ) A|_=>.bad
 |f+1,i,ρ,A=>match j.at_ A i with
  |some none=>.ok (.nx ρ) A|some (some w)=>(S w ρ A).bind λfl b=>match fl with
   |.nx a=>yL j S f (i+1) a b|.ct a=>yL j S f (i+1) a b|.bk a=>.ok (.nx a) b|.rt w=>.ok (.rt w) b
  |none=>.bad
noncomputable def turn (t:Tg)(b:Ex)(w:W):Ex:=λc A=>match t w c with
 |some a=>b a A|none=>.bad
def qO (M:Ei)(t:Tg)(b:Ex):Ex:=λa A=>(M a A).bind λj c=>yL j (turn t b) j.len 0 a c
inductive HV (K:Frag)(xr:XR)(j:jM)(t:W->Ex)(D:Ends)(rf:bT)(H1:Hp)(f i:Nat)(σ':St)(H':Hp):Prop
 |mk (φ2:bT) (A2:Hx) (ρ2:En) (l:Le K rf H1 φ2 H') (S:zX K φ2 A2 H') (re:RE K φ2 H' ρ2 σ') (h:(yL j t f i ρ2 A2).post (FB K φ2 H' D) (EB K φ2 H' xr))
noncomputable def QT (c:Ev)(b:Ex):Nat->Ex
 |0,ρ,A=>.bad|f+1,ρ,A=>(c ρ A).bind λx e=>match x with
  |.bl true=>(b ρ e).bind λfl d=>match fl with
   |.nx a=>QT c b f a d|.ct a=>QT c b f a d|.bk a=>.ok (.nx a) d|.rt w=>.ok (.rt w) d
  |.bl false=>.ok (.nx ρ) e|_=>.bad
def L5 (f:Nat)(c:Ev)(b:Ex):Ex:=QT c b f
noncomputable def QH (n:Nat)(c:bV)(a:En):En:=List.replicate n none++c.map λi=>(a[i]?).join
theorem RE.Qf {K:Frag}{b:En}{n:Nat}(r:RE K φ H b σ):RE K φ H (QH n cap b) (L2.Qf n cap σ):=by
 refine⟨by simp[QH,L2.Qf],λi w e=>?_⟩
 unfold QH at e;unfold L2.Qf
 by_cases d:i<n
 ·rw[ai (by simpa using d),bt]at e
  split at e<;>cases e
 ·rw[au (by simpa using d),bB,ar]at e
  rw[au (by simpa using d),bB,ar]
  cases c:cap[i-n]? with
  |none=>rw[c]at e;cases e|some k=>
   rw[c]at e;have E:(b[k]?).join=some w:=aI e;cases h:b[k]? with
   |none=>rw[h]at E;cases E|some o=>cases o with
    |none=>rw[h]at E;cases E|some a=>
     rw[h]at E;cases E;obtain⟨v,g,f⟩:=r.get k w h;exact⟨v,by simp[g],f⟩
abbrev Em:=En->List W->Hx->R (En×List W)
noncomputable def qj:Nat:=100000
def zU (e:Ev):Em:=λb a A=>(e b A).bind λy c=>if a.length<qj then .ok (b,a++[y]) c else .bad
noncomputable def jq (j:jM)(t:Tg)(I:Ev)(e:Em):Nat->Nat->Em
 |0,i,ρ,acc,A=>match j.at_ A i with
  |some none=>.ok (ρ,acc) A|_=>.bad
 |f+1,i,ρ,acc,A=>match j.at_ A i with
  |some none=>.ok (ρ,acc) A|some (some w)=>match t w ρ with
   |some a=>(I a A).bind λc b=>match c with
    |.bl true=>(e a acc b).bind λp d=>jq j t I e f (i+1) p.1 p.2 d|.bl false=>jq j t I e f (i+1) a acc b|_=>.bad
   |none=>.bad
  |none=>.bad
def Qa (M:Ei)(t:Tg)(i:Ev)(e:Em):Em:=λb a A=>(M b A).bind λj c=>jq j t i e j.len 0 b a c
abbrev j6:=En->Hx->R (List W)
def qc (n:Nat)(c:bV)(M:Ei)(t:Tg)(i:Ev)(e:Em):j6:=λa A=>(M a A).bind λj d=>(jq j t i e j.len 0 (QH n c a) [] d).nox.bind λp b=>.ok p.2 b
def RM (K:Frag)(D:Addr)(c:bT)(H:Hp)(Q:St->Hp->Prop)(p:En×List W)(A:Hx):Prop:=∀a h b Z,kz K D c H a h->(∀k:Nat,a[k]?≠some D)->zX K a A h->RE K a h p.1 b->h D=some (.lst Z)->zK K a h p.2 Z->Q b h
inductive ME (K:Frag)(em:Em)(D:Addr)(σ:St)(H:Hp)(Q:St->Hp->Prop):Prop
 |mk (φ:bT) (A:Hx) (ρ:En) (acc:List W) (ys:List V) (S:zX K φ A H) (re:RE K φ H ρ σ) (hD:H D=some (.lst ys)) (nD:∀k:Nat,φ[k]?≠some D) (rv:zK K φ H acc ys)
  (h:(em ρ acc A).post (RM K D φ H Q) ZX)
def tE (K:Frag)(e:Em):gX:=λD a H Q=>ME K e D a H Q
noncomputable abbrev yQ:XR:=λ_ _=>False
def SM (X:Cx)(e:Expr)(g:List Comprehension)(S:Scope)(c:Pos)(d:Nat)(E:Em):Prop:=gj X e g S c d (tE X.K E)
def gj.imp {d:Nat}{t T:gX}(h:gj X rd gens sc p6 d t)(i:∀D σ H Q,T D σ H Q->t D σ H Q):gj X rd gens sc p6 d T:=
 λp s σ H D Q k q E I w a=>h p s σ H D Q k q E I (i D σ H Q w) a
def UQ {K:Frag}{r:R α}{P:α->Hx->Prop}(h:r.post P ZX):r.post P (EB K φ H yQ):=qL h (λ_ _ z=>z) λ_ _ z=>z.elim
def Gd (X:Cx)(i:bZ)(m:Ev):Prop:=QR X i (tT X.K yQ m)
inductive HQ (tw:Tg)(ifs:Ev)(em:Em)(j:jM)(K:Frag)(D:Addr)(φ:bT)(H:Hp)(Q:St->Hp->Prop)(f i:Nat)(σ':St)(H':Hp):Prop
 |mk (φ2:bT) (A2:Hx) (ρ2:En) (acc2:List W) (ys2:List V) (l:kz K D φ H φ2 H') (S:zX K φ2 A2 H') (re:RE K φ2 H' ρ2 σ') (hD:H' D=some (.lst ys2)) (nD:∀k:Nat,φ2[k]?≠some D) (ra:zK K φ2 H' acc2 ys2) (h:(jq j tw ifs em f i ρ2 acc2 A2).post (RM K D φ H Q) ZX)
def jq.read {tw:Tg}{ifs:Ev}{em:Em}{j:jM}{J:It}{K:Frag}{A:Hx}{ρ:En}{acc:List W}{Q:St->Hp->Prop}{f:Nat}
  (jr:Qm K φ H j J)
  (S:zX K φ A H)(re:RE K φ H ρ σ)(hD:H D=some (.lst ys))(nD:∀k:Nat,φ[k]?≠some D)(ra:zK K φ H acc ys)
  (h:(jq j tw ifs em f 0 ρ acc A).post (RM K D φ H Q) ZX):
  WG J (tG K tw) (tT K yQ ifs) (tE K em) D σ H Q:=by
 refine⟨λi f b P=>HQ tw ifs em j K D φ H Q f i b P,
  ⟨f,φ,A,ρ,acc,ys,.refl,S,re,hD,nD,ra,h⟩,?_⟩
 rintro i f U H2 ⟨e,A2,q,d,Y,B,S2,t,M,u,l,h2⟩
 obtain⟨j1,j2⟩:=jr i e H2 A2 ⟨B.ex,B.tp,B.fz⟩ S2;cases E:j.at_ A2 i with
 |none=>cases f<;>(unfold jq at h2;rw[E]at h2;exact h2.elim)|some o=>
  cases o with
  |none=>
   left
   refine⟨j2 E,?_⟩;cases f<;>(unfold jq at h2;rw[E]at h2;exact h2 e H2 U Y B u S2 t M l)
  |some w=>
   right
   obtain⟨go,yl⟩:=j1 w E;cases f with
   |zero=>unfold jq at h2;rw[E]at h2;exact h2.elim|succ f=>
    unfold jq at h2;rw[E]at h2;refine⟨go,λb P=>HQ tw ifs em j K D φ H Q f (i+1) b P,λb P z=>⟨f,bw _,z⟩,λx H3 y=>?_⟩;obtain⟨v,S3,q3⟩:=yl x H3 y;obtain⟨hD3,Z⟩:=v.off M u;dsimp only at h2;cases et:tw w q with
    |none=>rw[et]at h2;exact h2.elim|some g=>
     rw[et]at h2;refine⟨e,A2,q,w,g,S3,t.mono v,q3,et,λσ3 r=>?_⟩;refine tT.go S3 r (UQ (qm.mp h2)) λc A4 a=>?_;cases c with
     |bl k=>
      refine⟨k,rfl,λn H4 L S4=>?_⟩;obtain⟨I,N⟩:=L.off hD3 Z;have C:=(B.trans (v.trans L).toD);cases k with
      |true=>
       rw[ah rfl];refine⟨n,A4,g,d,Y,S4,r.mono L,I,N,l.mono (v.trans L),qL (qm.mp a) (λp A5 h5 T H5 σ5 zs l5 n5 S5 X d5 r5=>?_) λ_ _ z=>z⟩;exact⟨T,A5,p.1,p.2,zs,C.trans l5,S5,X,d5,n5,r5,h5⟩
      |false=>
       rw[aj aF];exact⟨n,A4,g,d,Y,C,S4,r.mono L,I,N,l.mono (v.trans L),a⟩
     |non=>cases a|int _=>cases a|str _=>cases a|tup _=>cases a|ref _=>cases a|clo _ _ _=>cases a|xc _=>cases a|fn _=>cases a
def Qm.mono {K:Frag}{b:bT}{f:Hp}{j:jM}{J:It}(h:Qm K φ H j J)(l:QX K φ H b f):Qm K b f j J:=
 λi c d A L=>h i c d A ⟨λn a e=>L.ex n a (l.ex n a e),λa v e=>L.tp a v (l.tp a v e),λa o u e=>L.fz a o u (l.fz a o u e)⟩
inductive MF (K:Frag)(xr:XR)(mq:j6)(σ:St)(H:Hp)(Q:VK):Prop
 |mk (φ:bT) (A:Hx) (ρ:En) (S:zX K φ A H) (re:RE K φ H ρ σ) (h:(mq ρ A).post (λws A1=>∀rf H1 D ys,Le K φ H rf H1->zX K rf A1 H1->H D=none->H1 D=some (.lst ys)->(∀k:Nat,rf[k]?≠some D)->zK K rf H1 ws ys->Q (.ref D) H1) (EB K φ H xr))
def tF (K:Frag)(x:XR)(M:j6):TE:=λa H Q=>MF K x M a H Q
def SF (X:Cx)(x:XR)(e:Expr)(M:j6):Prop:=PE X e (tF X.K x M)
theorem qc.read {P:Ei}{T:Tg}{M:Ev}{E:Em}{B:Nat}:∀σ H Q,tF X.K xr (qc B cap P T M E) σ H Q->XY X.K (tI X.K xr P) (tG X.K T) (tT X.K yQ M) (tE X.K E) B cap σ H Q:=by
 rintro σ H Q ⟨Y,A,C,S,I,h⟩
 refine⟨Y,A,C,S,I,qL (qm.mp h) (λj A1 h1 b U J l g q D c t=>?_) λ_ _ z=>z⟩;have y:Le X.K b U b (upd U D (.lst [])):=Le.new c;have a:=qm.mp h1;refine jq.read (q.mono ⟨y.ex,y.tp,y.fz⟩) (g.lay c) ((I.mono (l.trans y)).Qf) j9 (g.notin c t) .nil ?_ (f:=j.len) (acc:=[]);cases e:jq j T M E j.len 0 (QH B cap C) [] A1 with
 |ok p A2=>
  rw[e]at a;intro d w i Z o N v r u n;have L:=l.trans (Le.ofD c o);exact a d w D Z L v (l.st D c) u N n
 |exc x A2=>rw[e]at a;exact a.elim|bad=>rw[e]at a;exact a.elim
noncomputable def qW (q:j6):Ev:=λb A=>(q b A).bind λw a=>.ok (.ref a.length) (a++[.lst w])
def qW.read {q:j6}{K:Frag}:∀σ H Q,tM K xr (qW q) σ H Q->tF K xr q σ H Q:=by
 rintro σ H Q ⟨f,A,g,S,i,h⟩
 refine⟨f,A,g,S,i,qL (qm.mp h) (λw u p b e D y L d t c N r=>?_) λ_ _ z=>z⟩;have l:Le K f H (b++[D]) e:=L.Y6 t;have j:QX K b e (b++[D]) e:=⟨λn a h=>by
  have:=(cw.mp h).1
  rw[ai this];exact h,λ_ _ h=>h,λ_ _ _ h=>h⟩
 refine p _ _ _ l (d.Y6 (o:=.lst w) c N ⟨y,c,r.monoW j⟩) ⟨D,rfl,?_⟩;rw[<- d.len];simp
inductive MQ (K:Frag)(xr:XR)(mq:j6)(σ:St)(H:Hp)(Q:VK):Prop
 |mk (φ:bT) (A:Hx) (ρ:En) (S:zX K φ A H) (re:RE K φ H ρ σ) (h:(mq ρ A).post (λws A1=>∀rf H1 a ys,Le K φ H rf H1->zX K rf A1 H1->(jm K H1 a ys∨qK K H1 a ys)->zK K rf H1 ws ys->Q (.ref a) H1) (EB K φ H xr))
def tQ (K:Frag)(x:XR)(M:j6):TE:=λa H Q=>MQ K x M a H Q
def SQ (X:Cx)(x:XR)(e:Expr)(M:j6):Prop:=PE X e (tQ X.K x M)
noncomputable def zY (w:W)(A:Hx):Option (List W):=match w with
 |.tup a=>some a|.ref n=>match A[n]? with
  |some (.lst a)=>some a|some (.ro a)=>some a|_=>none
 |_=>none
def GN {K:Frag}{A:Hx}{w:W}{g:List W}(S:zX K φ A H)(q:RV K φ H w v)(e:zY w A=some g):∃a ys,v=.ref a/\(jm K H a ys∨qK K H a ys)/\zK K φ H g ys:=by
 unfold zY at e;cases w with
 |tup x=>cases e;obtain⟨a,ys,b,c,E⟩:=q;exact⟨a,ys,b,.inr c,E⟩|ref n=>
  obtain⟨a,b,c⟩:=q;dsimp only at e;cases ea:A[n]? with
  |none=>rw[ea]at e;cases e|some o=>
   rw[ea]at e;obtain⟨d,E,r⟩:=S.ob n o ea;rw[c]at E;cases E;cases o with
   |lst x=>cases e;obtain⟨ys,f,h⟩:=r;exact⟨a,ys,b,.inl (jm.of f),h⟩|ro x=>cases e;obtain⟨ys,f,h⟩:=r;exact⟨a,ys,b,.inl f.sq,h⟩|dct x=>cases e|td _=>cases e|tr _=>cases e|tab _ _=>cases e
 |non=>cases e|bl _=>cases e|clo _ _ _=>cases e|xc _=>cases e|fn _=>cases e|int _=>cases e|str _=>cases e
def zJ (m:Ev):j6:=λb A=>(m b A).bind λw a=>match zY w a with
 |some c=>.ok c a|none=>.bad
def W5 (w:W)(A:Hx):Option jM:=match zY w A with
 |some a=>some ⟨λA i=>(zY w A).map λa=>a[i]?,a.length⟩|none=>none
def qu (m:Ev):Ei:=λb A=>(m b A).bind λw a=>match W5 w a with
 |some j=>.ok j a|none=>.bad
def fH (K:Frag)(t:TE):TI:=λb H r=>t b H λx h=>∃a,x=.ref a/\(((∃X,jm K h a X)/\r (HR K a) h)∨((∃X,qK K h a X)/\r (HP K a) h))
def fJ {l:Expr}{t:TE}(n:PE X l t):PI X tg l (fH X.K t):=by
 intro P s A H w I h;refine qf (n P s A H _ I h) λv S ⟨x,y,i,g,Q⟩=>?_;obtain⟨a,e,q⟩:=Q;subst e;cases g;have f:∀b∈[S.heap.objs.size],wL X P y b:=λb u=>by
  have e:b=S.heap.objs.size:=by simpa using u
  subst e;exact i.fpOk (aq _) (i.hok.fresh (aq _))
 rcases q with ⟨⟨B,d⟩,q⟩|⟨⟨B,d⟩,q⟩
 ·obtain⟨c,r,p,j⟩:=i.list d
  refine wpAny_pyIter_list p.isList ?_;exact⟨S.heap.objs.size,[S.heap.objs.size],_,_,y,rfl,i.kept (t':=S.toks) λb o e=>af _ e,BH a _,⟨_,aC _ rfl,rfl,rfl⟩,f,q⟩
 ·obtain⟨c,r,p,j⟩:=i.tuple d
  refine wpAny_pyIter_tuple (show S.heap.IsTuple a c.toArray from p) ?_
  exact⟨S.heap.objs.size,[S.heap.objs.size],_,_,y,rfl,i.kept (t':=S.toks) λb o e=>af _ e,C4 a _,⟨_,aC _ rfl,rfl,rfl⟩,f,q⟩
noncomputable def j5 (l:Int)(n:Nat):jM:=⟨λ_ i=>if i<n then some (some (.int (l+i))) else some none,n⟩
def Ia {K:Frag}{l:Int}:Qm K φ H (j5 l n) (W9 l n):=λi a h A L S=>by
 unfold j5;dsimp only
 by_cases c:i<n
 ·rw[ah c]
  refine⟨λw e=>?_,λe=>by cases e⟩
  cases e;exact⟨c,λx d ⟨b,E⟩=>by subst b;exact⟨.refl,S,E⟩⟩
 ·rw[aj c]
  exact⟨λw e=>(by cases e),λ_=>Nat.le_of_not_lt c⟩
noncomputable def jH (i:Int):Bool:=decide (-(2 ^ 62)<=i)&&decide (i<2 ^ 62)
def Q3 {i:Int}(h:jH i=true):-(2 ^ 62)<=i/\i<2 ^ 62:=by
 unfold jH at h;rw[ak,ao,ao]at h;exact h
def qN (m:Ev):Ei:=λa A=>(m a A).bind λw b=>match w with
 |.int j=>if jH j then .ok (j5 0 j.toNat) b else .bad|_=>.bad
def Zc (m M:Ev):Ei:=λb A=>(m b A).bind λw d=>(M b d).bind λa c=>match w,a with
 |.int i,.int j=>if jH i&&jH j then .ok (j5 i (j-i).toNat) c else .bad|_,_=>.bad
end
abbrev Fn:=List W->Hx->R W
def kJ (K:Frag)(x:Str)(C:Value):Prop:=nsIn K mainGlobals x=some (some C)
def XE (K:Frag)(E:XK)(x:Str)(H:Hp):Prop:=∀C d,kJ K x C->E C d H
inductive ZU (K:Frag)(n:Nat)(f:Fn)(vs:List V)(H:Hp)(Q:VK)(E:XK):Prop
 |mk (len:vs.length=n) (φ:bT) (A:Hx) (ws:List W) (S:zX K φ A H) (r:zK K φ H ws vs) (q:(f ws A).post (PB K φ H Q) (EB K φ H (XE K E)))
def ZU.len {K:Frag}{f:Fn}{Q:VK}{E:XK}(h:ZU K n f vs H Q E):vs.length=n:=by cases h;assumption
inductive zO (P:Program)(w:World)(K:Frag)(mg:b8)(base:Heap)(k:Nat)(x:Str)(n:Nat)(f:Fn):Prop
 |mk (fa:Addr) (fd:FuncData) (ps:bX) (F:yN P w K mg base wc k fa fd ps (ZU K n f)) (at_:mg x=some (.ref fa)) (kp:keepIn K (.ref fa)=true) (bi:Binds K fd ps [])
noncomputable def zC (f:Fn)(a:Ea):Ev:=λb A=>(a b A).bind λw c=>f w c
section
variable {m ma:Ev}
def ZQ (m:Ea)(n:Nat):Prop:=∀a A w b,m a A=.ok w b->w.length=n
def zR:ZQ zj 0:=λ_ _ _ _ h=>by unfold zj at h;cases h;rfl
def zA {M:Ea}(h:ZQ M n):ZQ (zc ma M) (n+1):=λa A w d e=>by
 unfold zc at e;cases h1:ma a A with
 |ok x b=>
  rw[h1,zP]at e;cases h2:M a b with
  |ok X c=>rw[h2,zP]at e;cases e;simp[h a b X _ h2]|exc x c=>rw[h2]at e;cases e|bad=>rw[h2]at e;cases e
 |exc x b=>rw[h1]at e;cases e|bad=>rw[h1]at e;cases e
end
noncomputable def qF (n:Nat)(m:Ex):Fn:=λa A=>(m (a.map some++List.replicate (n-a.length) none) A).nox.bind λfl b=>match fl with
 |.rt w=>.ok w b|.nx _=>.ok .non b|_=>.bad
theorem RE.start {K:Frag}{b:List W}(h:zK K φ H b vs):RE K φ H (b.map some++List.replicate (N.length-b.length) none) (L2.start N vs):=by
 unfold L2.start;refine⟨by simp[h.length],λi w e=>?_⟩
 by_cases c:i<b.length
 ·rw[ai (by simpa using c),ar]at e
  cases hw:b[i]? with
  |none=>rw[hw]at e;cases e|some a=>
   rw[hw]at e;cases e;obtain⟨v,f,d⟩:=h.get hw;refine⟨v,?_,d⟩;rw[ai (by rw[ag,<- h.length];exact c),ar,f];rfl
 ·rw[au (by simpa using c),bt]at e
  split at e<;>cases e
section
variable {K:Frag}
theorem zO.mono {j k:Nat}{f:Fn}(F:zO P w K mg base j x n f)(h:j<=k):zO P w K mg base k x n f:=by cases F with|mk fa d ps F a b c=>exact⟨fa,d,ps,F.mono h,a,b,c⟩
theorem zO.imp {k:Nat}{f g:Fn}(F:zO P w K mg base k x n f)(h:∀ws A,ws.length=n->g ws A=.bad∨f ws A=g ws A):zO P w K mg base k x n g:=by
 obtain⟨fa,i,ps,F,a,b,c⟩:=F;refine⟨fa,i,ps,F.imp λv H Q E ⟨l,d,A,ws,S,r,q⟩=>⟨l,d,A,ws,S,r,?_⟩,a,b,c⟩;rcases h ws A (by rw[r.length];exact l) with e|e
 ·rw[e]at q;exact q.elim
 ·rw[e];exact q
end
section
variable {K:Frag}
def yr {a:α}{A:Hx}:jh (R.ok a A):=λ_ _ h=>by cases h
def jv:jh (R.bad:R α):=λ_ _ h=>by cases h
def Z9 {c:Prop} [Decidable c] {a b:R α}(H:jh a)(h:jh b):jh (if c then a else b):=by split<;>assumption
noncomputable def Zk (f:Int->Int->W):W->W->Hx->R W
 |.int i,.int j,A=>.ok (f i j) A|_,_,_=>.bad
def QJ {f:Int->Int->W}:∀x y A,jh (Zk f x y A):=λx y A=>by
 unfold Zk;split
 ·exact yr
 ·exact jv
noncomputable def ZW (c:Int->Int->Bool)(f:Int->Int->W):W->W->Hx->R W
 |.int i,.int j,A=>if c i j then .ok (f i j) A else .bad|_,_,_=>.bad
def WD {c:Int->Int->Bool}{f:Int->Int->W}:∀x y A,jh (ZW c f x y A):=λx y A=>by
 unfold ZW;split
 ·exact Z9 yr jv
 ·exact jv
def QD {f:Int->Int->W}{g:Int->Int->V}(h:∀i j φ H,RV K φ H (f i j) (g i j)):yz K (Zj g) (Zk f):=λφ A H x y u v Q S a q p=>by
 cases u with
 |int i=>cases v with
  |int j=>obtain rfl:=a;obtain rfl:=q;exact⟨i,j,rfl,rfl,p φ H _ .refl S (h i j φ H)⟩|_=>exact p.elim
 |_=>exact p.elim
def Wy {c:Int->Int->Bool}{C:Int->Int->Prop}{f:Int->Int->W}{g:Int->Int->V}(d:∀i j,c i j=true->C i j)(h:∀i j φ H,RV K φ H (f i j) (g i j)):yz K (rI C g) (ZW c f):=λφ A H x y u v Q S b q p=>by
 cases u with
 |int i=>cases v with
  |int j=>
   obtain rfl:=b;obtain rfl:=q;unfold ZW at p;dsimp only at p
   by_cases a:c i j=true
   ·rw[ah a]at p;exact⟨i,j,rfl,rfl,d i j a,p φ H _ .refl S (h i j φ H)⟩
   ·rw[aj a]at p;exact p.elim
  |_=>exact p.elim
 |_=>exact p.elim
noncomputable def Y8 (i j:Int):Bool:=(decide (-(2 ^ 64)<i)&&decide (i<2 ^ 64)) || ((decide (-(2 ^ 64)<j)&&decide (j<2 ^ 64)) || (decide (i.natAbs<2 ^ 256)&&decide (j.natAbs<2 ^ 256)))
noncomputable def X5 (_ j:Int):Bool:=decide (0<j)
def fK (i j:Int)(h:Y8 i j=true):W4 i j:=by
 unfold Y8 at h;simp only[a8,ak,decide_eq_true_eq]at h;exact h
def fL (i j:Int)(h:X5 i j=true):(λ_ j=>0<j) i j:=by
 unfold X5 at h;simpa using h
def yP:=Zk λi j=>.int (i-j)
def kH:=ZW X5 λi j=>.int (i%j)
def Rh:=Zk λi j=>.int (Builtin.bitXor i j)
def QW:=Zk λi j=>.bl (decide (i<j))
def QZ:=Zk λi j=>.bl (decide (i<=j))
def RC:=Zk λi j=>.bl (decide (j<i))
def RO:=Zk λi j=>.bl (decide (j<=i))
noncomputable def Vi (i j:Int):Bool:=decide (0<=j)&&decide (j<=1000000)&&decide (i.natAbs<2 ^ 64)
def Mo (i j:Int)(h:Vi i j=true):Rg i j:=by
 unfold Vi at h;simp only[ak,decide_eq_true_eq]at h;exact⟨h.1.1,h.1.2,h.2⟩
def Kh:=ZW Vi λi j=>.int (i ^ j.toNat)
variable {a b c:Expr}
noncomputable def gO:W->Hx->R W
 |.int i,A=>.ok (.int (-i)) A|_,_=>.bad
structure w9 (X:Cx)(op:CmpOp)(g:W->W->Hx->R W):Prop where
 ex:∃r:R2,q9 X (compareOp op) r/\(∀x y A,jh (g x y A))/\yz X.K r g
 mks:∀b,op≠.In->op≠.NotIn->behindInMarks op b=false
def JH {r:R2}{g:W->W->Hx->R W}(a:q9 X (compareOp op) r)(H:∀x y A,jh (g x y A))(h:yz X.K r g):w9 X op g:=⟨⟨r,a,H,h⟩,λb c a2=>cN b c a2⟩
def WX:w9 X .Lt QW:=JH dS QJ (QD λ_ _ _ _=>rfl)
def Rl:w9 X .LtE QZ:=JH dU QJ (QD λ_ _ _ _=>rfl)
def Ha:w9 X .Gt RC:=JH dV QJ (QD λ_ _ _ _=>rfl)
def fM:w9 X .GtE RO:=JH dW QJ (QD λ_ _ _ _=>rfl)
end
inductive Ty where
 |non|bl|int|str|tup|lst|dct
 deriving DecidableEq
noncomputable def Ty.nm:Ty->String
 |.non => "NoneType" | .bl => "bool" | .int => "int" | .str => "str" | .tup => "tuple" | .lst => "list" | .dct => "dict"
noncomputable def j0 (w:W)(A:Hx):Option Ty:=match w with
 |.non=>some .non|.bl _=>some .bl|.int _=>some .int|.str _=>some .str|.tup _=>some .tup|.ref n=>match A[n]? with
  |some (.lst _)=>some .lst|some (.dct _)=>some .dct|_=>none
 |_=>none
noncomputable def kL (a b:Ty):Bool:=a==b || (a==.bl&&b==.int)
def Xn {K:Frag}(a b:Ty):kitOne K (.type a.nm) (.type b.nm)=some (kL a b):=by
 cases a<;>cases b<;>rfl
section
variable {xr:XR}{K:Frag}{a c:Expr}{es:bZ}{m:Ev}
def Yb (K:Frag)(H:Hp)(x:V)(t:Ty):Prop:=gQ K H x (.type t.nm)∨∃a X,x=.ref a/\qK K H a X/\t=.tup
def N4 {A:Hx}{w:W}{t:Ty}(S:zX K φ A H)(q:RV K φ H w v)(e:j0 w A=some t):Yb K H v t:=by
 cases w with
 |non=>cases e;obtain rfl:=q;exact .inl .non|bl k=>cases e;obtain rfl:=q;exact .inl (.bl k)|clo _ _ _=>cases e|xc _=>cases e|fn _=>cases e|int k=>cases e;obtain rfl:=q;exact .inl (.int k)|str k=>cases e;obtain rfl:=q;exact .inl (.str k)|tup c=>cases e;obtain⟨a,d,rfl,h,_⟩:=q;exact .inr ⟨a,d,rfl,h,rfl⟩|ref n=>
  obtain⟨a,rfl,g⟩:=q;unfold j0 at e;dsimp only at e;cases E:A[n]? with
  |none=>rw[E]at e;cases e|some o=>
   rw[E]at e;obtain⟨b,f,r⟩:=S.ob n o E;rw[g]at f;cases f;cases o with
   |lst c=>cases e;obtain⟨d,z,_⟩:=r;exact .inl (.lst z)|dct c=>cases e;obtain⟨d,z,_⟩:=r;exact .inl (.dK z)|td _=>cases e|tr _=>cases e|tab _ _=>cases e|ro c=>cases e
def Yb.kit {s:Shared}{x:V}{t:Ty}(I:Inv X p4 σ H s)(r:RelV x u)(h:Yb X.K H x t):
  (∀{Q:bY}{E:bY}{A:Around}{c:Ty},(∀T,Q (.bool (kL t c)) { s with toks:=T })->wpAny (model X.prog X.w) A (call (.builtin "isinstance") [u,.type c.nm]) Q E s):=by
 intro Q E A c q;rcases h with h|⟨a,xs,rfl,h,rfl⟩
 ·exact NK I r h (Xn t c) q
 ·cases (show u=Value.ref a from r)
  obtain⟨i,_,⟨o,d,b,_⟩,_⟩:=I.tuple h;exact bA kitx_tuple I.kIn ⟨o,d,b⟩ (Xn .tup c) (λz=>nomatch z) q
def fN (K:Frag):List V->Hp->VK->Prop:=λX H Q=>∃x t c,X=[x,.ty (Ty.nm c)]/\Yb K H x t/\Q (.bl (kL t c)) H
def fO:yJ X (.builtin "isinstance") (fN X.K):=by
 intro p s e H f g Q I r h;obtain⟨x,t,c,rfl,d,q⟩:=h;obtain⟨u,U,rfl,b,a⟩:=vals2 r;cases (show U=Value.type c.nm from a)
 exact d.kit I b λT=>⟨.bl (kL t c),H,I.tok T,rfl,q⟩
def kf (t:Ty)(m:Ev):Ev:=λb A=>(m b A).bind λw a=>match j0 w a with
 |some T=>.ok (.bl (kL T t)) a|none=>.bad
def zB:W->W->Hx->R W:=λx y A=>match zY x A,y with
 |some a,.int i=>match gw a i with
  |some w=>.ok w A|none=>.bad
 |_,_=>.bad
def fP:∀x y A,jh (zB x y A):=λx y A=>by
 unfold zB;split
 ·split
  ·exact yr
  ·exact jv
 ·exact jv
def fQ {a:List W}{i:Int}{w:W}(r:zK K φ H a ys)(e:gw a i=some w):∃y,gw ys i=some y/\RV K φ H w y:=by
 unfold gw at e ⊢;rw[<- r.length];cases h:gk a.length i with
 |none=>rw[h]at e;cases e|some j=>
  rw[h]at e;obtain⟨y,c,b⟩:=r.get (i:=j) e;exact⟨y,c,b⟩
def fR:yz K (HU K) zB:=λc A H x y u v Q S b q p=>by
 unfold zB at p;cases es:zY u A with
 |none=>rw[es]at p;exact p.elim|some g=>
  rw[es]at p;cases v with
  |int i=>
   obtain rfl:=q;dsimp only at p;cases e:gw g i with
   |none=>rw[e]at p;exact p.elim|some w=>
    rw[e]at p;obtain⟨a,d,rfl,z,r⟩:=GN S b es;obtain⟨Y,f,h⟩:=fQ r e;rcases z with z|z
    ·exact .inl ⟨a,d,i,Y,rfl,rfl,z,f,p c H _ .refl S h⟩
    ·exact .inr (.inl ⟨a,d,i,Y,rfl,rfl,z,f,p c H _ .refl S h⟩)
  |non=>exact p.elim|bl _=>exact p.elim|str _=>exact p.elim|tup _=>exact p.elim|ref _=>exact p.elim|clo _ _ _=>exact p.elim|xc _=>exact p.elim|fn _=>exact p.elim
def Jr (K:Frag)(r:List V->Hp->VK->Prop)(g:List W->Hx->R W):Prop:=∀b A H a y w Q,zX K b A H->(jm K H a y∨qK K H a y)->zK K b H w y->(g w A).post (PB K b H Q) ZX->r [.ref a] H Q
noncomputable def mQ (g:List W->Hx->R W)(q:j6):Ev:=λa A=>(q a A).bind λw b=>g w b
def mQ.read {g:List W->Hx->R W}{q:j6}(n:∀ws A,jh (g ws A))(c:Jr X.K r g):∀σ H Q,tM X.K xr (mQ g q) σ H Q->Vr r (XJ (tQ X.K xr q) Ro) σ H Q:=by
 rintro σ H Q ⟨e,A,f,S,i,h⟩
 refine⟨e,A,f,S,i,qL (qm.mp h) (λws p j b o a y l d z r=>?_) λ_ _ z=>z⟩;exact c b p o a y ws Q d z r (qL (YD (n _ _) j) (λ_ _ z=>z.mono l) λ_ _ z=>z)
def WK {id:String}{g:List W->Hx->R W}{q:j6}(d:yJ X (.builtin id) r)(n:∀ws A,jh (g ws A))(a:Jr X.K r g)(j:X.mg x=none)(v:bootBuiltins x=some (.builtin id))(f:SQ X xr e q)(c:Gl X x:=by rfl)
  (H:x ≠ "__name__":=by decide)(b:(x==("__debug__":Str))=false:=by decide)(i:starEach [e] X.env=(false,eval e X.env)::starEach [] X.env:=by rfl)(h:(backTo p6 (starEach [] X.env)).any (·.1)=false:=by rfl):
  SE X xr (.Call (.Name x p) [e] [] p6) (mQ g q):=PE.imp (Q5 d c j v (jE f yw i) H b i h) (mQ.read n a)
def fS {id:String}{g:List W->Hx->R W}{q:j6}(d:yJ X (.type id) r)(n:∀ws A,jh (g ws A))(a:Jr X.K r g)(j:X.mg x=none)(v:bootBuiltins x=some (.type id))(f:SQ X xr e q)(c:Gl X x:=by rfl)
  (H:x ≠ "__name__":=by decide)(b:(x==("__debug__":Str))=false:=by decide)(i:starEach [e] X.env=(false,eval e X.env)::starEach [] X.env:=by rfl)(h:(backTo p6 (starEach [] X.env)).any (·.1)=false:=by rfl):
  SE X xr (.Call (.Name x p) [e] [] p6) (mQ g q):=PE.imp (K7 d c j v (jE f yw i) H b i h) (mQ.read n a)
noncomputable def zT:List W->Hx->R W:=λw A=>.ok (.int w.length) A
def fT:Jr K (λxs H Q=>∃p ys,xs=[.ref p]/\(jm K H p ys∨qK K H p ys)/\Q (.int ys.length) H) zT:=λb A H a ys w Q S z r p=>
 ⟨a,ys,rfl,z,by rw[<- r.length];exact p b H _ .refl S rfl⟩
noncomputable def jt:List W->Hx->R W:=λw A=>.ok (.tup w) A
def fU:Jr K (λxs H Q=>∃p ys,xs=[.ref p]/\((jm K H p ys/\∀l,H l=none->Q (.ref l) (upd H l (.tup ys)))∨(qK K H p ys/\Q (.ref p) H))) jt:=λc A H a ys w Q S z r p=>by
 refine⟨a,ys,rfl,?_⟩;rcases z with z|z
 ·refine .inl ⟨z,λl h=>?_⟩
  obtain⟨d,a2,b⟩:=Z7 S h r;exact p _ _ _ d a2 b
 ·exact .inr ⟨z,p c H _ .refl S ⟨a,ys,rfl,z,r⟩⟩
variable {b:Expr}
def G4 {s:Shared}{a:Addr}(I:Inv X p4 σ H s)(l:X.calm=true)(z:jm X.K H a ys∨qK X.K H a ys)
  (h:∀(c:bS)(j:Addr)(C B:bT)(S:Nat->Heap->Prop)(y:Shared),Vals ys c->ys.length<=sizeLine->Walks X.prog X.w X.A.in1 j C B c.length (λi v=>c[i]? =some v) S->S 0 y.heap->(∀b∈C,b<y.heap.objs.size)->
   (∀(x:Heap)(T:Nat),(∀b o,b∉B->y.heap.get? b=some o->x.get? b=some o)->Inv X p4 σ H { y with heap:=x,toks:=T })->Q (.ref j) y):
  wpAny (model X.prog X.w) X.A.in1 (pyIter (.ref a)) Q E s:=by
 have g:X.A.in1.handled=none:=I.ok.hd l;have keep:∀(o:Obj)(x:Heap)(T:Nat),(∀b u,b∉[s.heap.objs.size]->(s.heap.push o).get? b=some u->x.get? b=some u)->Inv X p4 σ H { s with heap:=x,toks:=T }:=λo x T k=>I.kept λb u e=>k b u (by
  intro D;have q:b=s.heap.objs.size:=by simpa using D
  exact absurd (q ▸ aM e) (aT _)) (af _ e)
 rcases z with z|z
 ·obtain⟨c,r,p,f⟩:=I.list z
  have t:a<s.heap.objs.size:=by obtain⟨o,n,e,_⟩:=p;exact aM e
  refine wpAny_pyIter_list p.isList ?_;have W:=Walks.list (prog:=X.prog) (w:=X.w) g s.heap.objs.size a (aO t) c.toArray;rw[aB]at W;simp only[List.getElem?_toArray]at W;refine h c s.heap.objs.size _ _ _ _ r f W ⟨⟨_,aC _ rfl,rfl,rfl⟩,p.isList.at λo e=>af _ e⟩ (λb d=>?_) λx T k=>keep _ x T k;show b<(s.heap.push _).objs.size;rw[bj];rcases cu.mp d with e|d
  ·rw[e];exact bw _
  ·have e:b=a:=by simpa using d
   rw[e];exact bc t
 ·obtain⟨c,r,p,f⟩:=I.tuple z
  have t:a<s.heap.objs.size:=p.lt;have P:s.heap.IsTuple a c.toArray:=p;refine wpAny_pyIter_tuple P ?_;have W:=Walks.tuple (prog:=X.prog) (w:=X.w) g s.heap.objs.size a (aO t) c.toArray;rw[aB]at W;simp only[List.getElem?_toArray]at W;refine h c s.heap.objs.size _ _ _ _ r f W ⟨⟨_,aC _ rfl,rfl,rfl⟩,P.at λo e=>af _ e⟩ (λb d=>?_) λx T k=>keep _ x T k;show b<(s.heap.push _).objs.size;rw[bj];rcases cu.mp d with e|d
  ·rw[e];exact bw _
  ·have e:b=a:=by simpa using d
   rw[e];exact bc t
noncomputable def WY:V->Option Bool
 |.bl b=>some b|.int i=>some (i != 0)|.non=>some false|_=>none
noncomputable def Ke:W->Option Bool
 |.bl b=>some b|.int i=>some (i != 0)|.non=>some false|_=>none
def AL {w:W}{k:Bool}(q:RV K φ H w v)(e:Ke w=some k):WY v=some k:=by
 cases w<;>first
  |(cases e;done)
  |(obtain rfl:=q;exact e)
def By {A:Around}{k:Bool}{s:Shared}{Q:Bool->Shared->Prop}(r:RelV v u)(e:WY v=some k)(h:Q k s):wpAny (model X.prog X.w) A (truthy u) Q E s:=by
 cases v with
 |bl b=>cases e;cases r;exact wpAny_truthy_bool h|int i=>
  cases e;obtain⟨t,rfl⟩:=r;exact PySem.P.truthy_int h
 |non=>cases e;cases r;exactλ_ _ _=>h|_=>cases e
def gG:List W->Option (List Bool)
 |[]=>some []|w::ws=>match Ke w,gG ws with
  |some k,some K=>some (k::K)|_,_=>none
theorem OU:∀{f:List W}{Y:List V}{g:List Bool},zK K φ H f Y->gG f=some g->∀(i:Nat)(y:V),Y[i]? =some y->∃k,g[i]? =some k/\WY y=some k
 |[],_,_,r,e,i,y,h=>by cases r;simp at h|w::f,_,g,⟨v,r,d,q,t⟩,e,i,y,h=>by
  subst d;unfold gG at e;cases E:Ke w with
  |none=>rw[E]at e;cases e|some k=>
   cases a:gG f with
   |none=>rw[E,a]at e;cases e|some b=>
    rw[E,a]at e;cases e;cases i with
    |zero=>simp at h;subst h;exact⟨k,by simp,AL q E⟩|succ i=>simp at h;obtain⟨c,l,j⟩:=OU t a i y h;exact⟨c,by simpa using l,j⟩
theorem O6:∀{b:List W}{c:List Bool},gG b=some c->c.length=b.length
 |[],_,e=>by cases e;rfl|w::b,c,e=>by
  unfold gG at e;cases a:Ke w with
  |none=>rw[a]at e;cases e|some k=>
   cases E:gG b with
   |none=>rw[a,E]at e;cases e|some K=>rw[a,E]at e;cases e;simp[O6 E]
def range_all (K:List Bool):(List.range K.length).all (λi=>K.getD i false)=K.all id:=by
 rw[Bool.eq_iff_iff,aZ,aZ]
 constructor
 ·intro h x b
  obtain⟨i,a,rfl⟩:=a4 b
  have:=h i (cn.mpr a)
  rw[aa,ae a]at this;exact this
 ·intro h i a
  have H:=cn.mp a;rw[aa,ae H];exact h _ (aJ H)
def range_any (K:List Bool):(List.range K.length).any (λi=>K.getD i false)=K.any id:=by
 rw[Bool.eq_iff_iff,any_eq_true,any_eq_true]
 constructor
 ·rintro⟨i,a,h⟩
  have H:=cn.mp a;rw[aa,ae H]at h;exact⟨_,aJ H,h⟩
 ·rintro⟨x,b,h⟩
  obtain⟨i,a,rfl⟩:=a4 b;refine⟨i,cn.mpr a,?_⟩;rw[aa,ae a];exact h
def Rm (K:Frag)(f:List Bool->Bool):List V->Hp->VK->Prop:=λx H Q=>∃a Y b,x=[.ref a]/\(jm K H a Y∨qK K H a Y)/\b.length=Y.length/\(∀(i:Nat)(y:V),Y[i]? =some y->∃k,b[i]? =some k/\WY y=some k)/\Q (.bl (f b)) H
def Ml {K:List Bool}{A:Around}(r:Vals ys p9)(l:K.length=ys.length)(t:∀(i:Nat)(y:V),ys[i]? =some y->∃k,K[i]? =some k/\WY y=some k):TruthOf X.prog X.w A (λi v=>p9[i]? =some v) λi=>K.getD i false:=by
 intro i v s Q E P H;have a:i<p9.length:=(cw.mp P).1;have h:i<ys.length:=by rw[r.length];exact a
 obtain⟨u,d,e⟩:=r.get (i:=i) (x:=ys[i]) (by simp[h])
 rw[P]at d;cases d;obtain⟨k,c,b⟩:=t i ys[i] (by simp[h])
 dsimp only at H;rw[aa,c]at H;exact By e b H
def fV (d:X.calm=true):yJ X (.builtin "all") (Rm X.K λks=>ks.all id):=by
 intro P s y H A U Q I r h;obtain⟨a,Y,ks,rfl,z,l,n,q⟩:=h;obtain⟨u,rfl,c⟩:=vals1 r;cases c;refine call_all_walk (G4 I d z λb f x w S C v g W j p B=>?_);refine⟨f,x,w,_,_,S,λi=>ks.getD i false,rfl,W,j,Ml v l n,λo t k=>?_⟩;have e:b.length=ks.length:=by rw[l,v.length]
 rw[e,range_all];exact⟨.bl _,H,B o t k,rfl,q⟩
def An (d:X.calm=true):yJ X (.builtin "any") (Rm X.K λks=>ks.any id):=by
 intro P s y H A U Q I r h;obtain⟨a,Y,ks,rfl,z,l,n,q⟩:=h;obtain⟨u,rfl,c⟩:=vals1 r;cases c;refine call_any_walk (G4 I d z λb f x w S C v g W j p B=>?_);refine⟨f,x,w,_,_,S,λi=>ks.getD i false,rfl,W,j,Ml v l n,λo t k=>?_⟩;have e:b.length=ks.length:=by rw[l,v.length]
 rw[e,range_any];exact⟨.bl _,H,B o t k,rfl,q⟩
def Zg (f:List Bool->Bool):List W->Hx->R W:=λw A=>match gG w with
 |some K=>.ok (.bl (f K)) A|none=>.bad
def LQ {f:List Bool->Bool}:∀ws A,jh (Zg f ws A):=λws A=>by
 unfold Zg;split
 ·exact yr
 ·exact jv
def Ms {f:List Bool->Bool}:Jr K (Rm K f) (Zg f):=λb A H a y w Q S z r p=>by
 unfold Zg at p;cases e:gG w with
 |none=>rw[e]at p;exact p.elim|some c=>
  rw[e]at p;exact⟨a,y,c,rfl,z,by rw[O6 e,r.length],OU r e,p b H _ .refl S rfl⟩
abbrev ZM:=Zg λK=>K.all id
abbrev Kd:=Zg λK=>K.any id
def BU:q9 X (compareOp .IsNot) (λx y H Q=>∃i j,x=.bl i/\y=.bl j/\Q (.bl (!(i==j))) H):=by
 intro p s b H x y v u Q I a r h;obtain⟨i,j,rfl,rfl,q⟩:=h;cases a;cases r;exact isnot_bool ⟨.bl _,H,I,rfl,q⟩
noncomputable def Sz:W->Bool
 |.non=>true|_=>false
def CM {w:W}(q:RV K φ H w v):decide (v=.non)=Sz w:=by
 cases w with
 |non=>obtain rfl:=q;rfl|bl b=>obtain rfl:=q;rfl|clo _ _ _=>obtain⟨a,_,_,_,_,_,_,rfl,_⟩:=q;rfl|xc _=>obtain⟨a,_,_,_,rfl,_⟩:=q;rfl|fn _=>obtain⟨a,rfl,_⟩:=q;rfl|int b=>obtain rfl:=q;rfl|str b=>obtain rfl:=q;rfl|tup c=>obtain⟨a,d,rfl,_⟩:=q;rfl|ref n=>obtain⟨a,rfl,_⟩:=q;rfl
def Gi (n:Bool):W->W->Hx->R W:=λx y A=>match x,y with
 |.bl i,.bl j=>.ok (.bl (if n then !(i==j) else i==j)) A|w,.non=>.ok (.bl (if n then !Sz w else Sz w)) A|_,_=>.bad
def fW {n:Bool}:∀x y A,jh (Gi n x y A):=λx y A=>by
 unfold Gi;split
 ·exact yr
 ·exact yr
 ·exact jv
def Bj:yz K (λx y H Q=>(y=.non/\Q (.bl (!decide (x=.non))) H)∨∃i j,x=.bl i/\y=.bl j/\Q (.bl (!(i==j))) H) (Gi true):=λc A H x y u v Q S b a p=>by
 cases v with
 |non=>
  have q:y=.non:=a;refine .inl ⟨q,?_⟩;rw[CM b];cases u<;>exact p c H _ .refl S rfl
 |bl j=>
  cases u with
  |bl i=>obtain rfl:=b;obtain rfl:=a;exact .inr ⟨i,j,rfl,rfl,p c H _ .refl S rfl⟩|_=>exact p.elim
 |_=>cases u<;>exact p.elim
def fX:w9 X .IsNot (Gi true):=JH (dX.or BU) fW Bj
end
noncomputable def Hu (o S:Scope):Bool:=S.kind==.function&&decide ((S.names.map (·.1)).Nodup)&&S.names.all λy=>y.2 != .free || (o.names.lookup y.1==some .cell || o.names.lookup y.1==some .free)
def cps (h:Hu X.env.scope sc=true):g9 X sc:=by
 unfold Hu at h;rw[ak,ak,ao,aL,aZ]at h;refine⟨h.1.1,h.1.2,λy H e=>?_⟩
 have:=h.2 y H
 rw[e]at this;simp only[bne_self_eq_false,Bool.false_or,a8,aL]at this;exact this
section
variable {xr:XR}{K:Frag}{a b:Expr}{ma mb:Ev}
theorem zX.lst {b:bT}{A:Hx}{H:Hp}{n:Nat}{w:List W}{v:V}(S:zX K b A H)(q:RV K b H (.ref n) v)(e:A[n]? =some (.lst w)):∃p vs,v=.ref p/\b[n]? =some p/\H p=some (.lst vs)/\zK K b H w vs:=by
 obtain⟨p,rfl,d⟩:=q;obtain⟨P,c,vs,a,h⟩:=S.ob n _ e;rw[d]at c;cases c;exact⟨p,vs,rfl,d,a,h⟩
def fY {p:Program}{A:Around}{s:Shared}{t b:Addr}{f:bS}(i:IsTup s.heap t ([]:bS).toArray)(a:IsTup s.heap b f.toArray)(j:Q (.ref b) s):
  wpAny (model p w) A (binaryOp .Add (.ref t) (.ref b)) Q E s:=by
 obtain⟨⟨r,q,data,l⟩,o,c,n,g⟩:=id i;obtain⟨⟨C,d,D,S⟩,h,H,N,e⟩:=id a;simp only at c g H e;subst c g H e;exact concat_meets ⟨_,o,rfl⟩ ⟨_,h,rfl⟩ noFill_tuple_add seq_tuple_add slot_tuple_add entry_tuple_add (args_tuple_add_2 _ _)
   (tuple_addW0 t b ([]:bS).toArray f.toArray n N q d l S (by simp)) ⟨o,h,j⟩
def Ig (K:Frag):R2:=λx y H Q=>∃a b Y,x=.ref a/\y=.ref b/\qK K H a []/\qK K H b Y/\Q (.ref b) H
def Ak:q9 X (binaryOp .Add) (Ig X.K):=by
 intro l s n H x y v u Q I c r h;obtain⟨a,b,Y,rfl,rfl,g,f,q⟩:=h;cases c;cases r;obtain⟨e,d,P,_⟩:=I.tuple g;obtain⟨i,j,p,_⟩:=I.tuple f;cases d;exact fY P p ⟨.ref b,H,I,rfl,q⟩
def qk:W->W->Hx->R W:=λx y A=>match x,y with
 |.int i,.int j=>.ok (.int (i+j)) A|.tup X,.tup Y=>if X.length+Y.length<=qj then .ok (.tup (X++Y)) A else .bad|.ref n,.ref k=>match A[n]?,A[k]? with
  |some (.lst X),some (.lst Y)=>if X.length+Y.length<=qj then .ok (.ref A.length) (A++[.lst (X++Y)]) else .bad|_,_=>.bad
 |_,_=>.bad
def fZ:∀x y A,jh (qk x y A):=λx y A=>by
 unfold qk
 split
 ·exact yr
 ·exact Z9 yr jv
 ·split
  ·exact Z9 yr jv
  ·exact jv
 ·exact jv
def Yx (h:n<=qj):n<=sizeLine:=by
 have:sizeLine=16777216:=sizeLine_eq
 unfold qj at h;omega
def f6:yz K (λx y H Q=>Zj (λi j=>.int (i+j)) x y H Q∨Im K x y H Q∨Ig K x y H Q∨I9 x y H Q) qk:=λM A H x y u v Q S f q p=>by
 cases u with
 |int i=>cases v with
  |int j=>obtain rfl:=f;obtain rfl:=q;exact .inl ⟨i,j,rfl,rfl,p M H _ .refl S rfl⟩|_=>exact p.elim
 |tup X=>cases v with
  |tup Y=>
   obtain⟨N,b,rfl,T,c⟩:=f;obtain⟨a2,a,rfl,t,r⟩:=q;unfold qk at p;dsimp only at p
   by_cases h:X.length+Y.length<=qj
   ·rw[ah h]at p
    by_cases D:b=[]
    ·subst D
     have o:X=[]:=by
      have:=c.length
      simpa using this
     subst o;exact .inr (.inr (.inl ⟨N,a2,a,rfl,rfl,T,t,p M H _ .refl S ⟨a2,a,rfl,t,r⟩⟩))
    ·refine .inr (.inl ⟨N,a2,b,a,rfl,rfl,T,t,D,by rw[<- c.length,<- r.length];exact Yx h,λe=>?_,λne l g=>?_⟩)
     ·subst e
      have o:Y=[]:=by
       have:=r.length
       simpa using this
      subst o;rw[a3]at p;exact p M H _ .refl S ⟨N,b,rfl,T,c⟩
     ·obtain⟨C,w,B⟩:=Z7 S g (c.append r)
      exact p _ _ _ C w B
   ·rw[aj h]at p;exact p.elim
  |_=>exact p.elim
 |ref n=>cases v with
  |ref k=>
   unfold qk at p;dsimp only at p;cases E:A[n]? with
   |none=>rw[E]at p;exact p.elim|some L=>cases L with
    |lst X=>
     cases d:A[k]? with
     |none=>rw[E,d]at p;exact p.elim|some J=>cases J with
      |lst Y=>
       rw[E,d]at p;dsimp only at p;obtain⟨I,Z,rfl,f1,g1,c⟩:=S.lst f E;obtain⟨P,U,rfl,f2,g2,r⟩:=S.lst q d
       by_cases h:X.length+Y.length<=qj
       ·rw[ah h]at p
        refine .inr (.inr (.inr ⟨I,P,Z,U,rfl,rfl,g1,g2,by rw[<- c.length,<- r.length];exact Yx h,λl g=>?_⟩))
        obtain⟨C,w,B⟩:=Jh S g (c.append r);exact p _ _ _ C w B
       ·rw[aj h]at p;exact p.elim
      |_=>rw[E,d]at p;exact p.elim
    |_=>rw[E]at p;exact p.elim
  |_=>exact p.elim
 |_=>cases v<;>exact p.elim
def qG:W->W->Hx->R W:=λx y A=>match x,y with
 |.int i,.int j=>if Y8 i j then .ok (.int (i * j)) A else .bad|.ref n,.int k=>match A[n]? with
  |some (.lst xs)=>if jH k&&decide (xs.length * k.toNat<=qj) then .ok (.ref A.length) (A++[.lst (List.replicate k.toNat xs).flatten]) else .bad|_=>.bad
 |_,_=>.bad
def f7:∀x y A,jh (qG x y A):=λx y A=>by
 unfold qG
 split
 ·exact Z9 yr jv
 ·split
  ·exact Z9 yr jv
  ·exact jv
 ·exact jv
theorem zK.rep {w:List W}(r:zK K φ H w vs):∀n:Nat,zK K φ H (List.replicate n w).flatten (List.replicate n vs).flatten
 |0=>.nil|n+1=>by rw[a9,a9,a6,a6];exact r.append (zK.rep r n)
def f9:yz K (λx y H Q=>rI W4 (λi j=>.int (i * j)) x y H Q∨Hh x y H Q) qG:=λg A H x y u v Q S a q p=>by
 cases v with
 |int j=>cases u with
  |int i=>
   obtain rfl:=a;obtain rfl:=q;unfold qG at p;dsimp only at p
   by_cases c:Y8 i j=true
   ·rw[ah c]at p;exact .inl ⟨i,j,rfl,rfl,fK i j c,p g H _ .refl S rfl⟩
   ·rw[aj c]at p;exact p.elim
  |ref n=>
   obtain rfl:=q;unfold qG at p;dsimp only at p;cases e:A[n]? with
   |none=>rw[e]at p;exact p.elim|some o=>cases o with
    |lst X=>
     rw[e]at p;dsimp only at p;obtain⟨P,t,rfl,D,w,r⟩:=S.lst a e
     by_cases h:(jH j&&decide (X.length * j.toNat<=qj))=true
     ·rw[ah h]at p
      rw[ak,ao]at h;obtain⟨f,B⟩:=Q3 h.1;refine .inr ⟨P,j,t,rfl,rfl,w,by omega,by omega,by rw[<- r.length];exact Yx h.2,λl b=>?_⟩
      obtain⟨c1,d,C⟩:=Jh S b (r.rep j.toNat);exact p _ _ _ c1 d C
     ·rw[aj h]at p;exact p.elim
    |_=>rw[e]at p;exact p.elim
  |_=>exact p.elim
 |_=>cases u<;>exact p.elim
def jN:W->W->Hx->R W:=λx y A=>match x with
 |.ref n=>match A[n]? with
  |some (.lst ws)=>if ws.length<qj then .ok .non (A.set n (.lst (ws++[y]))) else .bad|_=>.bad
 |_=>.bad
noncomputable def Js (x:W)(A:Hx):Bool:=match x with
 |.ref n=>match A[n]? with
  |some (.lst _)=>true|_=>false
 |_=>false
def gg {A:Hx}{w:W}(S:zX K φ A H)(q:RV K φ H w v)(e:Js w A=true):Vy K "list" v H:=by
 unfold Js at e;cases w with
 |ref n=>
  dsimp only at e;cases E:A[n]? with
  |none=>rw[E]at e;cases e|some o=>cases o with
   |lst a=>obtain⟨p,b,rfl,_,h,_⟩:=S.lst q E;exact .inl ⟨rfl,_,jm.of h⟩|_=>rw[E]at e;cases e
 |_=>cases e
def jo (g:W->W->Hx->R W)(a b:Ev):Ev:=λc A=>(a c A).bind λx d=>if Js x d then(b c d).bind λy e=>g x y e else .bad
def XO {nm:Str}{id:String}{r:V->List V->Hp->VK->Prop}{g:W->W->Hx->R W}(J:Slot "list" nm id)(i:typeOf (.builtin id)=pure (.type "method_descriptor"))(U:Kj X id r)(T:∀x y A,jh (g x y A))
  (D:∀φ A H x y u v Q,zX X.K φ A H->RV X.K φ H u x->RV X.K φ H v y->(g u v A).post (PB X.K φ H Q) ZX->r x [y] H Q)(C:SE X xr a ma)(Y:SE X xr b mb)
  (n:starEach [b] X.env=(false,eval b X.env)::starEach [] X.env)(c:attributeBase a nm X.env (eval a X.env)=eval a X.env)
  (d:((backTo p7 (starEach [b] X.env)).all (λx=>!x.1)&&(backToKw p7 (keywordEach [] X.env)).all (λx=>x.1.isSome)
   && decide ([b].length+([]:cc).length+(if ([]:cc).isEmpty then 0 else 1)<30))=true)(e:(rb.endLine==p7.line)=true):
  SE X xr (.Call (.Attribute a nm rb) [b] [] p7) (jo g ma mb):=
 PE.imp (Iv PySem.F.plainAttrs_list J i U C (jE Y yw n) c d e n (by rfl)) λσ H Q ⟨φ,A,ρ,S,N,h⟩=>by
  refine tM.go S N (qm.mp h) λw A1 p H1 v M l o q=>?_
  by_cases j:Js w A1=true
  ·rw[ah j]at M
   refine⟨gg o q j,?_⟩;refine tM.go o (N.mono l) (qL (qm.mp M) (λ_ _ z=>z) λ_ _ z=>z.mono l) λt A2 f I P Z L E B=>?_;exact D f A2 I v P w t Q E (q.mono L) B (qL (YD (T _ _ _) Z) (λ_ _ z=>z.mono (l.trans L)) λ_ _ z=>z)
  ·rw[aj j]at M;exact M.elim
def BO:∀x y A,jh (jN x y A):=λx y A=>by
 unfold jN
 split
 ·split
  ·exact Z9 yr jv
  ·exact jv
 ·exact jv
def ZJ:W->W->Hx->R W:=λx y A=>match x,y with
 |.ref n,.int i=>match A[n]? with
  |some (.lst ws)=>match (if jH i then seqIndex? i ws.length else none) with
   |some k=>match ws[k]? with
    |some w=>.ok w (A.set n (.lst (ws.eraseIdx k)))|none=>.bad
   |none=>.bad
  |_=>.bad
 |_,_=>.bad
def gv:∀x y A,jh (ZJ x y A):=λx y A=>by
 unfold ZJ
 split
 ·split
  ·split
   ·split
    ·exact yr
    ·exact jv
   ·exact jv
  ·exact jv
 ·exact jv
def ku:W->W->W->Hx->R Unit:=λo i v A=>match o,i with
 |.ref n,.int k=>match A[n]? with
  |some (.lst ws)=>match gk ws.length k with
   |some j=>.ok () (A.set n (.lst (ws.set j v)))|none=>.bad
  |_=>.bad
 |_,_=>.bad
def Lo:∀o i v A,jh (ku o i v A):=λo i v A=>by
 unfold ku
 split
 ·split
  ·split
   ·exact yr
   ·exact jv
  ·exact jv
 ·exact jv
def MK:IP K IH ku:=λu A H o i v a w B Q S f d q p=>by
 unfold ku at p;cases a with
 |ref n=>cases w with
  |int k=>
   obtain rfl:=d;dsimp only at p;cases e:A[n]? with
   |none=>rw[e]at p;exact p.elim|some g=>cases g with
    |lst h=>
     rw[e]at p;dsimp only at p;cases E:gk h.length k with
     |none=>rw[E]at p;exact p.elim|some j=>
      rw[E]at p;obtain⟨l,x,rfl,y,t,r⟩:=S.lst f e;have L:Le K u H u (upd H l (.lst (x.set j v))):=Le.upd y (λX z=>by rw[t]at z;cases z) (λ_ _ z=>by rw[t]at z;cases z)
      obtain⟨c,b⟩:=S.write (o:=.lst h) (o':=.lst (h.set j B)) e rfl rfl y ⟨_,j9,(r.mono L).set (q.mono L) j⟩;exact⟨l,x,k,j,rfl,rfl,t,by rw[<- r.length];exact E,p _ _ c b⟩
    |_=>rw[e]at p;exact p.elim
  |_=>exact p.elim
 |_=>cases w<;>exact p.elim
variable {es:bZ}{m:Ev}
def gN {id:String}{g:W->Hx->R W}(i:yJ X (.type id) r)(q:∀w A,jh (g w A))(f:Ry X.K (λv=>r [v]) g)(t:X.mg x=none)(d:bootBuiltins x=some (.type id))(j:SE X xr e m)(b:Gl X x:=by rfl)
  (a:x ≠ "__name__":=by decide)(c:(x==("__debug__":Str))=false:=by decide)(n:starEach [e] X.env=(false,eval e X.env)::starEach [] X.env:=by rfl)(l:(backTo p6 (starEach [] X.env)).any (·.1)=false:=by rfl):
  SE X xr (.Call (.Name x p) [e] [] p6) (yR g m):=PE.imp (K7 i b t d (jE j yw n) a c n l) λo H Q h=>yR.read (r:=λv=>r [v]) q f o H Q h
def IF {id:String}{g:W->W->Hx->R W}(o:yJ X (.builtin id) r)(B:∀w i A,jh (g w i A))(n:yz X.K (λv c=>r [v,c]) g)(C:X.mg x=none)(j:bootBuiltins x=some (.builtin id))(t:SE X xr a ma)(q:SE X xr b mb)(e:Gl X x)
  (d:x ≠ "__name__")(f:(x==("__debug__":Str))=false)(u:starEach [a,b] X.env=(false,eval a X.env)::starEach [b] X.env)(D:starEach [b] X.env=(false,eval b X.env)::starEach [] X.env)(l:(backTo p6 (starEach [b] X.env)).any (·.1)=false):
  SE X xr (.Call (.Name x p) [a,b] [] p6) (zi g ma mb):=PE.imp (Q5 o e C j (jE t (jE q yw D) u) d f u l) λy H Q h=>zi.read (r:=λv c=>r [v,c]) B n y H Q h
noncomputable def WV:W->Hx->R W
 |.int i,A=>.ok (.int i) A|.bl k,A=>.ok (.int (if k then 1 else 0)) A|_,_=>.bad
def SN:=Zk λi j=>.int (if j > i then j else i)
def XX:=Zk λi j=>.int (if j<i then j else i)
noncomputable def yK:W->Bool
 |.tup _=>false|.ref _=>false|.clo _ _ _=>false|.xc _=>false|.fn _=>false|_=>true
noncomputable def J5:W->W->Bool
 |.non,.non=>true|.bl a,.bl b=>a==b|.bl a,.int b=>(if a then 1 else 0)==b|.int a,.bl b=>a==(if b then 1 else 0)|.int a,.int b=>a==b|.str a,.str b=>a==b|_,_=>false
def Kt (x:W)(X:List W):Bool:=X.any λy=>J5 y x
def K8 {w:W}(q:RV K φ H w v)(e:yK w=true):wD v=true:=by
 cases w<;>first
  |(cases e;done)
  |(obtain rfl:=q;rfl)
def NL {w a:W}{b:V}(q:RV K φ H w v)(Q:RV K φ H a b)(e:yK w=true)(E:yK a=true):gT v b=J5 w a:=by
 cases w<;>cases a<;>first
  |(cases e;done)
  |(cases E;done)
  |(obtain rfl:=q;obtain rfl:=Q;rfl)
theorem Mg {x:W}(q:RV K φ H x v)(e:yK x=true):∀{X:List W}{a:List V},zK K φ H X a->X.all yK=true->a.all wD=true/\Vo v a=Kt x X
 |[],_,r,_=>by cases r;exact⟨rfl,rfl⟩|w::ws,_,⟨y,r,E,h,t⟩,h2=>by
  subst E;rw[List.all_cons,ak]at h2;obtain⟨I,i⟩:=Mg q e t h2.2;refine⟨by rw[List.all_cons,K8 h h2.1,I];rfl,?_⟩
  unfold Vo Kt at i ⊢;rw[any_cons,any_cons,i,NL h q h2.1 e]
def J4 (n:Bool):W->W->Hx->R W:=λx y A=>match zY y A with
 |some w=>if yK x&&w.all yK then .ok (.bl (if n then !Kt x w else Kt x w)) A else .bad|none=>.bad
abbrev RD:=J4 false
def gV {n:Bool}:∀x y A,jh (J4 n x y A):=λx y A=>by
 unfold J4
 split
 ·exact Z9 yr jv
 ·exact jv
def g0 {n:Bool}:yz K (HS K n) (J4 n):=λc A H x y u v Q S q b p=>by
 unfold J4 at p;cases es:zY v A with
 |none=>rw[es]at p;exact p.elim|some w=>
  rw[es]at p;dsimp only at p
  by_cases h:(yK u&&w.all yK)=true
  ·rw[ah h]at p
   rw[ak]at h;obtain⟨a,Y,rfl,z,r⟩:=GN S b es;obtain⟨I,i⟩:=Mg q h.1 r h.2;exact⟨a,Y,rfl,z,K8 q h.1,I,by rw[i];exact p c H _ .refl S rfl⟩
  ·rw[aj h]at p;exact p.elim
structure Hz (X:Cx)(op:CmpOp)(g:W->W->Hx->R W):Prop where
 ex:∃r:R2,q9 X (compareOp op) r/\(∀x y A,jh (g x y A))/\yz X.K r g
def hh:Hz X .In RD:=⟨_,B6,gV,g0⟩
end
noncomputable def yV (f:W->Option PyData):List W->Option (List PyData)
 |[]=>some []|w::ws=>match f w,yV f ws with
  |some d,some D=>some (d::D)|_,_=>none
def qP (A:Hx):Nat->W->Option PyData
 |_,.non=>some .none|_,.bl b=>some (.bool b)|_,.int i=>some (.int i)|_,.str x=>if PyData.strOk x then some (.str x) else none|_,.clo _ _ _=>none|_,.xc _=>none|_,.fn _=>none|0,.tup _=>none|0,.ref _=>none|n+1,.tup ws=>(yV (qP A n) ws).map .tuple|n+1,.ref k=>match zY (.ref k) A with
  |some ws=>(yV (qP A n) ws).map .list|none=>none
def Am {K:Frag}{A:Hx}{u:List W}(S:zX K φ A H)(q:RV K φ H (.ref n) v)(e:zY (.ref n) A=some u):∃a ys,v=.ref a/\jm K H a ys/\zK K φ H u ys:=by
 obtain⟨a,rfl,c⟩:=q;unfold zY at e;dsimp only at e;cases E:A[n]? with
 |none=>rw[E]at e;cases e|some o=>
  rw[E]at e;obtain⟨d,b,r⟩:=S.ob n o E;rw[c]at b;cases b;cases o with
  |lst x=>cases e;obtain⟨ys,f,h⟩:=r;exact⟨a,ys,rfl,jm.of f,h⟩|ro x=>cases e;obtain⟨ys,f,h⟩:=r;exact⟨a,ys,rfl,f.sq,h⟩|dct x=>cases e|td _=>cases e|tr _=>cases e|tab _ _=>cases e
section
variable {a:Expr}
theorem UC {K:Frag}{f:W->Option PyData}(o:∀w v u d,RV K φ H w v->RelV v u->f w=some d->∃A,Reads h u d A):
  ∀{j:List W}{n:List V}{U:bS}{l:List PyData},zK K φ H j n->Vals n U->yV f j=some l->∃A,ReadsAll h U l A
 |[],_,_,_,r,a,e=>by cases r;cases a;cases e;exact⟨[],.nil⟩|w::j,_,_,l,⟨v,r,i,q,t⟩,a,e=>by
  subst i;cases a with
  |cons g c=>
   unfold yV at e;cases E:f w with
   |none=>rw[E]at e;cases e|some d=>
    cases b:yV f j with
    |none=>rw[E,b]at e;cases e|some D=>
     rw[E,b]at e;cases e;obtain⟨A,x⟩:=o w v _ d q g E;obtain⟨bs,p⟩:=UC o t c b;exact⟨_,.cons x p⟩
def GV {s:Shared}{A:Hx}(I:Inv X p4 σ H s)(S:zX X.K φ A H):∀(n:Nat)(w:W)(v:V)(u:Value)(d:PyData),RV X.K φ H w v->RelV v u->qP A n w=some d->∃C,Reads s.heap u d C:=by
 intro n
 induction n with
 |zero=>
  intro w v u d q r e;cases w with
  |non=>obtain rfl:=q;cases r;cases e;exact⟨_,.none⟩|bl k=>obtain rfl:=q;cases r;cases e;exact⟨_,.bool k⟩|int k=>obtain rfl:=q;obtain⟨t,rfl⟩:=r;cases e;exact⟨_,.int k t⟩|str k=>
   obtain rfl:=q;obtain⟨t,rfl⟩:=r;unfold qP at e
   split at e
   ·cases e;exact⟨_,.str k t⟩
   ·cases e
  |tup _=>cases e|ref _=>cases e|clo _ _ _=>unfold qP at e;cases e|xc _=>unfold qP at e;cases e|fn _=>unfold qP at e;cases e
 |succ n l=>
  intro w v u d q r e;cases w with
  |non=>obtain rfl:=q;cases r;cases e;exact⟨_,.none⟩|bl k=>obtain rfl:=q;cases r;cases e;exact⟨_,.bool k⟩|clo _ _ _=>unfold qP at e;cases e|xc _=>unfold qP at e;cases e|fn _=>unfold qP at e;cases e|int k=>obtain rfl:=q;obtain⟨t,rfl⟩:=r;cases e;exact⟨_,.int k t⟩|str k=>
   obtain rfl:=q;obtain⟨t,rfl⟩:=r;unfold qP at e
   split at e
   ·cases e;exact⟨_,.str k t⟩
   ·cases e
  |tup x=>
   obtain⟨a,J,rfl,h,c⟩:=q;cases r;unfold qP at e;cases E:yV (qP A n) x with
   |none=>rw[E]at e;cases e|some D=>
    rw[E]at e;cases e;obtain⟨i,b,⟨o,B,y,k,g⟩,_⟩:=I.tuple h;obtain⟨C,f⟩:=UC l c b E;exact⟨_,.tuple B y g (by simpa using f)⟩
  |ref k=>
   unfold qP at e;cases E:zY (.ref k) A with
   |none=>rw[E]at e;cases e|some x=>
    rw[E]at e;dsimp only at e;obtain⟨a,Y,rfl,h,c⟩:=Am S q E;cases r;cases j:yV (qP A n) x with
    |none=>rw[j]at e;cases e|some D=>
     rw[j]at e;cases e;obtain⟨i,b,⟨o,p,B,y,_,g⟩,_⟩:=I.list h;obtain⟨C,f⟩:=UC l c b j;exact⟨_,.list B y g (by simpa using f)⟩
def Ba {A:Hx}:∀(n:Nat)(w:W)(d:PyData),qP A n w=some d->d.canLay0=true/\d.depth<=n:=by
 intro n;have lst:∀{n:Nat},(∀(w:W)(d:PyData),qP A n w=some d->d.canLay0=true/\d.depth<=n)->∀(ws:List W)(ds:List PyData),yV (qP A n) ws=some ds->PyData.canLayAll0 ds=true/\PyData.depthAll ds<=n:=by
  intro n i ws
  induction ws with
  |nil=>intro ds e;cases e;exact⟨by simp[PyData.canLayAll0],by simp[PyData.depthAll]⟩|cons w ws I=>
   intro ds e;unfold yV at e;cases E:qP A n w with
   |none=>rw[E]at e;cases e|some d=>
    cases b:yV (qP A n) ws with
    |none=>rw[E,b]at e;cases e|some D=>
     rw[E,b]at e;cases e;obtain⟨f,g⟩:=i w d E;obtain⟨H,c⟩:=I D b;refine⟨by simp[PyData.canLayAll0,f,H],?_⟩
     simp only[PyData.depthAll];omega
 induction n with
 |zero=>
  intro w d e;cases w with
  |tup _=>cases e|ref _=>cases e|clo _ _ _=>unfold qP at e;cases e|xc _=>unfold qP at e;cases e|fn _=>unfold qP at e;cases e|str x=>
   unfold qP at e
   split at e
   ·rename_i h;cases e;exact⟨by simp[PyData.canLay0,h],by simp[PyData.depth]⟩
   ·cases e
  |_=>cases e;exact⟨by simp[PyData.canLay0],by simp[PyData.depth]⟩
 |succ n i=>
  intro w d e;cases w with
  |clo _ _ _=>unfold qP at e;cases e|xc _=>unfold qP at e;cases e|fn _=>unfold qP at e;cases e|tup ws=>
   unfold qP at e;cases a:yV (qP A n) ws with
   |none=>rw[a]at e;cases e|some ds=>
    rw[a]at e;cases e;obtain⟨f,g⟩:=lst i ws ds a;refine⟨by simp[PyData.canLay0,f],?_⟩
    simp only[PyData.depth];omega
  |ref k=>
   unfold qP at e;cases a:zY (.ref k) A with
   |none=>rw[a]at e;cases e|some ws=>
    rw[a]at e;dsimp only at e;cases E:yV (qP A n) ws with
    |none=>rw[E]at e;cases e|some ds=>
     rw[E]at e;cases e;obtain⟨f,g⟩:=lst i ws ds E;refine⟨by simp[PyData.canLay0,f],?_⟩
     simp only[PyData.depth];omega
  |str x=>
   unfold qP at e
   split at e
   ·rename_i h;cases e;exact⟨by simp[PyData.canLay0,h],by simp[PyData.depth]⟩
   ·cases e
  |_=>cases e;exact⟨by simp[PyData.canLay0],by simp[PyData.depth]⟩
def gh (n:Bool):W->W->Hx->R W:=λx y A=>match qP A 8 x,qP A 8 y with
 |some d,some D=>.ok (.bl (if n then !PyData.eqv d D else PyData.eqv d D)) A|_,_=>.bad
abbrev qX:=gh false
abbrev jw:=gh true
def Ln {n:Bool}:∀x y A,jh (gh n x y A):=λx y A=>by
 unfold gh
 split
 ·exact yr
 ·exact jv
def Rp (K:Frag)(n:Bool):R2:=λx y H Q=>∃a A u v d D,zX K a A H/\RV K a H u x/\RV K a H v y/\qP A 8 u=some d/\qP A 8 v=some D/\Q (.bl (if n then !PyData.eqv d D else PyData.eqv d D)) H
def Xj {A:Hx}{w:W}{d:PyData}(h:qP A 8 w=some d):SeqAt.shaped d=true:=by
 obtain⟨H,a⟩:=Ba 8 w d h;unfold SeqAt.shaped;rw[H,Bool.true_and,ao];omega
def hA (g:X.A.units+64<cLine):q9 X (compareOp .Eq) (Rp X.K false):=by
 intro p s n H x y v u Q I b r h;obtain⟨l,A,a,w,d,D,S,f,c,E,e,q⟩:=h;obtain⟨o,j⟩:=GV I S 8 a x v d f b E;obtain⟨bs,i⟩:=GV I S 8 w y u D c r e;exact eq_dataH j i (Xj E) (Xj e) g ⟨.bl _,H,I,rfl,q⟩
def hG (g:X.A.units+64<cLine):q9 X (compareOp .NotEq) (Rp X.K true):=by
 intro p s n H x y v u Q I b r h;obtain⟨l,A,a,w,d,D,S,f,c,E,e,q⟩:=h;obtain⟨o,j⟩:=GV I S 8 a x v d f b E;obtain⟨bs,i⟩:=GV I S 8 w y u D c r e;exact ne_dataH j i (Xj E) (Xj e) g ⟨.bl _,H,I,rfl,q⟩
def MR {K:Frag}{n:Bool}:yz K (Rp K n) (gh n):=λb A H x y u v Q S a q p=>by
 unfold gh at p;cases e:qP A 8 u with
 |none=>rw[e]at p;exact p.elim|some d=>
  cases E:qP A 8 v with
  |none=>rw[e,E]at p;exact p.elim|some D=>
   rw[e,E]at p;exact⟨b,A,u,v,d,D,S,a,q,e,E,p b H _ .refl S rfl⟩
def yZ {k:Nat}(h:jF k X.A):w9 X .Eq qX:=JH (hA h.units) Ln MR
def wK {k:Nat}(h:jF k X.A):w9 X .NotEq jw:=JH (hG h.units) Ln MR
end
mutual
noncomputable def W.nr:W->Bool
 |.tup w=>jk w|.ref _=>false|.clo _ w _=>jk w|_=>true
noncomputable def jk:List W->Bool
 |[]=>true|w::ws=>w.nr&&jk ws
end
def iso (f:Fn):Fn:=λu A=>if jk u then(match f u [] with
 |.ok w a=>(match w with
  |.ref n=>(match a[n]? with
   |some (.lst ws)=>if jk ws then .ok (.ref A.length) (A++[.lst ws]) else .bad|some (.dct kvs)=>if jk (kvs.map (·.2)) then .ok (.ref A.length) (A++[.dct kvs]) else .bad|_=>.bad)
  |w=>if w.nr then .ok w A else .bad)
 |_=>.bad) else .bad
def yU (f:Fn):Fn:=λu A=>match u with
 |.ref n::u=>(match A[n]? with
  |some (.lst ws)=>if jk ws&&jk u then(match f (.ref 0::u) [.lst ws] with
   |.ok w b=>(match (List.head? b:Option O) with
    |some (.lst a)=>if jk a&&w.nr then .ok w (A.set n (.lst a)) else .bad|_=>.bad)
   |_=>.bad) else .bad
  |_=>.bad)
 |_=>.bad
section
variable {K:Frag}{q7 rf:bT}{H' H1:Hp}{A A1:Hx}
mutual
theorem RV.nrm (T:∀a vs,qK K H a vs->qK K H' a vs)(g:∀a o u,H a=some (.frz o u)->H' a=some (.frz o u)):∀{w:W}{v:V},w.nr=true->RV K φ H w v->RV K q7 H' w v
 |.non,_,_,h=>h|.bl _,_,_,h=>h|.int _,_,_,h=>h|.str _,_,_,h=>h|.tup l,_,n,⟨a,vs,e,t,r⟩=>⟨a,vs,e,T _ _ t,zK.nrm T g n r⟩|.ref _,_,n,_=>nomatch n
 |.clo _ l P,_,n,⟨a,ob,u,c,d,U,vs,e,j,i,f,r⟩=>⟨a,ob,u,c,d,U,vs,e,g _ _ _ j,g _ _ _ i,f,zK.nrm T g n r⟩|.xc _,_,_,⟨a,b,u,C,e,j,i⟩=>⟨a,b,u,C,e,g _ _ _ j,i⟩|.fn _,_,_,h=>h
theorem zK.nrm (T:∀a c,qK K H a c->qK K H' a c)(f:∀a o u,H a=some (.frz o u)->H' a=some (.frz o u)):∀{b:List W}{c:List V},jk b=true->zK K φ H b c->zK K q7 H' b c
 |[],_,_,h=>h|w::b,_,n,⟨v,r,e,h,t⟩=>by
  have N:(w.nr&&jk b)=true:=n;rw[ak]at N;exact⟨v,r,e,RV.nrm T f N.1 h,zK.nrm T f N.2 t⟩
end
def zX.none:zX K [] [] H:=⟨rfl,λi j a o b _ _ h=>by simp at h,λn o h=>by simp at h⟩
def zX.frame (S:zX K φ A H)(k:∀a o,H a=some o->H1 a=some o)(l:Le K φ H φ H1):zX K φ A H1:=
 ⟨S.len,S.inj,λn o e=>let ⟨a,b,q⟩:=S.ob n o e;⟨a,b,q.keep l λu h=>k a u h⟩⟩
def Le.apart (l:Le K [] H rf H1):Le K φ H φ H1/\∀a o,H a=some o->H1 a=some o:=
 have k:∀a o,H a=some o->H1 a=some o:=λa o h=>l.fr a o h λn e=>by simp at e
 ⟨⟨λ_ _ h=>h,l.tp,λa o h _=>k a o h,λ_ _ h=>.inl h,l.st,l.fz⟩,k⟩
def zX.trackN {u:HO}{o:O}(S:zX K φ A H)(I:H D=some u)(n:∀(k:Nat)(q:O),φ[k]? =some D->A[k]? =some q->q.mut=false)(new:OR K (φ++[D]) H D o):zX K (φ++[D]) (A++[o]) H:=by
 have l:QX K φ H (φ++[D]) H:=⟨λn a h=>by
  have:=(cw.mp h).1
  rw[ai this];exact h,λ_ _ h=>h,λ_ _ _ h=>h⟩
 have L:∀(i:Nat) a,(φ++[D])[i]? =some a->i<A.length->φ[i]? =some a:=λi a e f=>by
  rw[ai (by rw[S.len];exact f)]at e;exact e
 have M:∀a,(φ++[D])[A.length]? =some a->a=D:=λa e=>by
  rw[au (by rw[S.len];exact aq _),S.len]at e
  simpa using e.symm
 refine⟨by simp[S.len],λi j a C B P N g b X U=>?_,λk T e=>?_⟩
 ·by_cases f:i<A.length
  ·rw[ai f]at g
   by_cases c:j<A.length
   ·rw[ai c]at b
    exact S.inj i j a C B (L i a P f) (L j a N c) g b X U
   ·exfalso
    have w:j=A.length:=by have:=(cw.mp b).1;simp at this;omega
    subst w;have z:=n i C (by rw[<- M a N];exact L i a P f) g
    rw[X]at z;cases z
  ·have y:i=A.length:=by have:=(cw.mp g).1;simp at this;omega
   by_cases c:j<A.length
   ·exfalso
    rw[ai c]at b;subst y;have z:=n j B (by rw[<- M a P];exact L j a N c) b
    rw[U]at z;cases z
   ·have:=(cw.mp b).1;simp at this;omega
 ·by_cases Y:k<A.length
  ·rw[ai Y]at e
   obtain⟨a,E,q⟩:=S.ob k T e;refine⟨a,l.ex _ _ E,?_⟩;cases T with
   |lst Q=>obtain⟨J,z,r⟩:=q;exact⟨J,z,r.monoW l⟩|dct Q=>obtain⟨J,z,Z,r⟩:=q;exact⟨J,z,Z,r.monoW l⟩|td _=>obtain⟨J,z,Z,t,r⟩:=q;exact⟨J,z,Z,λx p=>l.tp _ _ (t x p),r.monoW l⟩|tr _=>obtain⟨ob,u,J,z,d,Z,t,r⟩:=q;exact⟨ob,u,J,z,d,Z,λx p=>l.tp _ _ (t x p),r.monoW l⟩|tab _ _=>exact q|ro Q=>obtain⟨J,z,r⟩:=q;exact⟨J,z,r.monoW l⟩
  ·have v:k=A.length:=by have:=(cw.mp e).1;simp at this;omega
   subst v;rw[au (aq _)]at e;simp at e;subst e;exact⟨D,by rw[au (by rw[S.len];exact aq _),S.len];simp,new⟩
def zX.adopt {o:O}(S:zX K φ A H)(l:Le K [] H rf H1)(p:rf[n]? =some a)(m:∃u,H1 a=some u)(new:OR K (φ++[a]) H1 a o):
  Le K φ H (φ++[a]) H1/\zX K (φ++[a]) (A++[o]) H1/\RV K (φ++[a]) H1 (.ref A.length) (.ref a):=by
 obtain⟨L,k⟩:=l.apart (φ:=φ);have j:H a=Option.none:=by
  rcases l.nw n a p with e|e
  ·simp at e
  ·exact e
 obtain⟨u,b⟩:=m;have g:=S.frame k L;refine⟨L.Y6 j,g.trackN b (λk q f d=>?_) new,a,rfl,by rw[<- S.len];simp⟩
 cases c:q.mut with
 |false=>rfl|true=>
  obtain⟨i,E,r⟩:=S.ob k q d;rw[f]at E;cases E;obtain⟨z,h,_⟩:=r.there c;rw[j]at h;cases h
def OR.nrL {w:List W}(h:OR K φ H a (.lst w))(n:jk w=true):OR K q7 H a (.lst w):=let ⟨v,e,r⟩:=h;⟨v,e,r.nrm (λ_ _ t=>t) (λ_ _ _ t=>t) n⟩
def OR.nrD {b:List (Key×W)}(h:OR K φ H a (.dct b))(n:jk (b.map (·.2))=true):OR K q7 H a (.dct b):=let ⟨v,e,E,r⟩:=h;⟨v,e,E,r.nrm (λ_ _ t=>t) (λ_ _ _ t=>t) n⟩
theorem zO.iso {k:Nat}{f:Fn}(F:zO P w K mg base k x n f):zO P w K mg base k x n (iso f):=by
 obtain⟨fa,fd,ps,F,a,b,c⟩:=F;refine⟨fa,fd,ps,F.imp λvs H Q E ⟨C,J,A,M,S,r,q⟩=>?_,a,b,c⟩;unfold Mi.iso at q
 by_cases T:jk M=true
 ·rw[ah T]at q
  refine⟨C,[],[],M,zX.none,r.nrm (λ_ _ t=>t) (λ_ _ _ t=>t) T,?_⟩;cases hf:f M [] with
  |ok w Z=>
   rw[hf]at q;dsimp only at q;intro u Y v L D g;cases w with
   |ref m=>
    dsimp only at q;cases hm:Z[m]? with
    |none=>rw[hm]at q;exact q.elim|some o=>
     rw[hm]at q;obtain⟨I,i,d⟩:=D.ob m o hm;obtain⟨a2,rfl,e⟩:=g;rw[i]at e;cases e;cases o with
     |lst U=>
      dsimp only at q
      by_cases h:jk U=true
      ·rw[ah h]at q
       obtain⟨t,N,_⟩:=d.there rfl;obtain⟨p,j,B⟩:=S.adopt L i ⟨t,N⟩ (o:=.lst U) (d.nrL h);exact q _ _ _ p j B
      ·rw[aj h]at q;exact q.elim
     |dct U=>
      dsimp only at q
      by_cases h:jk (U.map (·.2))=true
      ·rw[ah h]at q
       obtain⟨t,N,_⟩:=d.there rfl;obtain⟨p,j,B⟩:=S.adopt L i ⟨t,N⟩ (o:=.dct U) (d.nrD h);exact q _ _ _ p j B
      ·rw[aj h]at q;exact q.elim
     |ro U=>exact q.elim|td _=>exact q.elim|tr _=>exact q.elim|tab _ _=>exact q.elim
   |_=>
    all_goals
     dsimp only at q;obtain⟨l,X⟩:=L.apart (φ:=J)
     first
      |exact q J Y v l (S.frame X l) g
      |(
        split at q
        ·rename_i hw
         exact q J Y v l (S.frame X l) (RV.nrm (λ_ _ t=>t) (λ_ _ _ t=>t) hw g)
        ·exact q.elim)
  |exc y Z=>rw[hf]at q;exact q.elim|bad=>rw[hf]at q;exact q.elim
 ·rw[aj T]at q;exact q.elim
theorem zO.yU {k:Nat}{f:Fn}(F:zO P w K mg base k x n f):zO P w K mg base k x n (yU f):=by
 obtain⟨fa,fd,ps,F,a,b,c⟩:=F;refine⟨fa,fd,ps,F.imp λvs H Q E ⟨hl,φ,A,ws,S,r,q⟩=>?_,a,b,c⟩;unfold Mi.yU at q;cases ws with
 |nil=>exact q.elim|cons Z us=>cases Z with
  |ref n=>
   dsimp only at q;cases l:A[n]? with
   |none=>rw[l]at q;exact q.elim|some o=>cases o with
    |lst xs=>
     rw[l]at q;dsimp only at q
     by_cases hn:(jk xs&&jk us)=true
     ·rw[ah hn]at q
      rw[ak]at hn;obtain⟨v0,vr,rfl,q0,qr⟩:=r;obtain⟨p,ys,rfl,f1,g1,g⟩:=S.lst q0 l;have S0:zX K [p] [.lst xs] H:=by
       refine⟨rfl,λi j a o o' h1 h2 T N _ _=>?_,λm o e=>?_⟩
       ·have:=(cw.mp h1).1
        have:=(cw.mp h2).1
        simp at*;omega
       ·have:m=0:=by have:=(cw.mp e).1;simp at this;omega
        subst this;simp at e;subst e;exact⟨p,rfl,ys,g1,g.nrm (λ_ _ t=>t) (λ_ _ _ t=>t) hn.1⟩
      refine⟨hl,[p],[.lst xs],.ref 0::us,S0,.cons ⟨p,rfl,rfl⟩ (qr.nrm (λ_ _ t=>t) (λ_ _ _ t=>t) hn.2),?_⟩;cases hf:f (.ref 0::us) [.lst xs] with
      |ok w A1=>
       rw[hf]at q;dsimp only at q;intro C H1 v L S1 q1;cases h0:List.head? A1 with
       |none=>rw[h0]at q;exact q.elim|some o=>cases o with
        |lst zs=>
         rw[h0]at q;dsimp only at q
         by_cases hw:(jk zs&&w.nr)=true
         ·rw[ah hw]at q
          rw[ak]at hw;have apart:∀a o,a≠p->H a=some o->H1 a=some o:=λa o ne h=>L.fr a o h λm e=>by
           have:m=0:=by have:=(cw.mp e).1;simp at this;omega
           subst this;simp at e;exact ne e.symm
          have lf:Le K φ H φ H1:=⟨λ_ _ h=>h,L.tp,λa o h nn=>apart a o (λe=>nn n (by rw[e];exact f1)) h,λ_ _ h=>.inl h,L.st,L.fz⟩
          have hp:C[0]? =some p:=L.ex 0 p rfl;obtain⟨p',B,U,J,I⟩:=S1.ob 0 _ (by rw[<- List.head?_eq_getElem?];exact h0)
          rw[hp]at B;cases B;refine q φ H1 v lf ?_ (RV.nrm (λ_ _ t=>t) (λ_ _ _ t=>t) hw.2 q1);have mt:∀(i:Nat)(w:O),(A.set n (.lst zs))[i]? =some w->w.mut=true->∃M,A[i]? =some M/\M.mut=true:=λi w e mw=>by
           by_cases hi:i=n
           ·subst hi;exact⟨_,l,rfl⟩
           ·rw[ax (Ne.symm hi)]at e;exact⟨w,e,mw⟩
          refine⟨by simp[S.len],λi j a o1 o2 h1 h2 T N m1 m2=>?_,λi w e=>?_⟩
          ·obtain⟨Y,B,k1⟩:=mt i o1 T m1
           obtain⟨X,J,k2⟩:=mt j o2 N m2;exact S.inj i j a Y X h1 h2 B J k1 k2
          ·by_cases hi:i=n
           ·subst hi
            have:i<A.length:=(cw.mp l).1
            rw[ay this]at e;cases e;exact⟨p,f1,U,J,I.nrm (λ_ _ t=>t) (λ_ _ _ t=>t) hw.1⟩
           ·rw[ax (Ne.symm hi)]at e
            obtain⟨a,B,D⟩:=S.ob i w e;refine⟨a,B,?_⟩
            by_cases hm:w.mut=true
            ·have ne:a≠p:=λz=>hi (S.inj i n a w _ B (by rw[z];exact f1) e l hm rfl)
             exact D.keep lf λz hz=>apart a z ne hz
            ·cases w with
             |lst _=>exact absurd rfl hm|dct _=>exact absurd rfl hm|td _=>exact absurd rfl hm|tr _=>obtain⟨ob,u,vs,q,d,k,t,r⟩:=D;exact⟨ob,u,vs,lf.fz _ _ _ q,d,k,λx hx=>lf.tp _ _ (t x hx),r.mono lf⟩|tab _ _=>exact absurd rfl hm|ro ws=>
              obtain⟨vs,g,I⟩:=D;refine⟨vs,?_,I.mono lf⟩;rcases g with ⟨ob,g⟩|g
              ·refine .inl ⟨ob,apart a _ ?_ g⟩
               intro z;subst z;rw[g1]at g;cases g
              ·exact .inr g
         ·rw[aj hw]at q;exact q.elim
        |_=>rw[h0]at q;exact q.elim
      |exc y A1=>rw[hf]at q;exact q.elim|bad=>rw[hf]at q;exact q.elim
     ·rw[aj hn]at q;exact q.elim
    |_=>rw[l]at q;exact q.elim
  |_=>exact q.elim
end
section
variable {K:Frag}{a b:Expr}{es:bZ}{m:Ev}{st:Stmt}
noncomputable def intsOf:List W->Option (bR)
 |[]=>some []|w::ws=>match w with
  |.int i=>match intsOf ws with
   |some I=>some (i::I)|none=>none
  |_=>none
theorem GR:∀{a:List W}{n:bR},intsOf a=some n->a=n.map W.int
 |[],_,e=>by cases e;rfl|w::a,n,e=>by
  unfold intsOf at e;cases w with
  |int i=>
   dsimp only at e;cases E:intsOf a with
   |none=>rw[E]at e;cases e|some I=>rw[E]at e;cases e;rw[GR E];rfl
  |_=>cases e
noncomputable def yD:List Int->Int->Int
 |[],m=>m|i::is,m=>yD is (if i > m then i else m)
noncomputable def kX:List Int->Int->Int
 |[],m=>m|i::is,m=>kX is (m+i)
def preSum_eq (n:bR):∀k,preSum (λi=>n.getD i 0) k+kX (n.drop k) 0=kX n 0∨n.length<k:=by
 have add:∀(l:bR)(m:Int),kX l m=m+kX l 0:=λl=>by
  induction l with
  |nil=>intro m;show m=m+0;omega|cons i b I=>intro m;show kX b (m+i)=m+kX b (0+i);rw[I (m+i),I (0+i)];omega
 intro k
 induction k with
 |zero=>left;show(0:Int)+kX n 0=_;omega|succ k I=>
  rcases I with I|I
  ·by_cases h:k<n.length
   ·left
    have e:n.drop k=n[k]::n.drop (k+1):=List.drop_eq_getElem_cons h;rw[e]at I;have a:kX (n[k]::n.drop (k+1)) 0=n[k]+kX (n.drop (k+1)) 0:=by show kX (n.drop (k+1)) (0+n[k])=_;rw[add];omega
    rw[a]at I;show preSum _ k+n.getD k 0+_=_;have E:n.getD k 0=n[k]:=by rw[aa,ae h];rfl
    rw[E];omega
   ·right;omega
  ·right;omega
def CV (n:bR):preSum (λi=>n.getD i 0) n.length=kX n 0:=by
 rcases preSum_eq n n.length with h|h
 ·rw[drop_length]at h
  have:kX [] 0=0:=rfl
  omega
 ·omega
def Af (n:bR):∀(k:Nat)(a:k<n.length),yD (n.drop (k+1)) (n.getD (argBest (λi j=>decide (n.getD i 0 > n.getD j 0)) k) 0)=yD n.tail (n.getD 0 0):=by
 intro k
 induction k with
 |zero=>intro _;rw[show argBest _ 0=0 from rfl,List.drop_one]|succ k I=>
  intro a;have H:k<n.length:=by omega
  rw[<- I H];have e:n.drop (k+1)=n[k+1]::n.drop (k+1+1):=List.drop_eq_getElem_cons a;rw[e];have E:n.getD (k+1) 0=n[k+1]:=by rw[aa,ae a];rfl
  show yD _ (n.getD (if decide (n.getD (k+1) 0 > n.getD (argBest _ k) 0)=true then k+1 else argBest _ k) 0)=yD _ (if n[k+1] > n.getD (argBest _ k) 0 then n[k+1] else n.getD (argBest _ k) 0);rw[E]
  by_cases h:n[k+1] > n.getD (argBest (λi j=>decide (n.getD i 0 > n.getD j 0)) k) 0
  ·rw[ah (by rw[ao];exact h),ah h,E]
  ·rw[aj (by rw[ao];exact h),aj h]
def XN (K:Frag)(C:List Int->Prop)(f:List Int->Int):List V->Hp->VK->Prop:=λx H Q=>∃a n,x=[.ref a]/\(jm K H a (n.map V.int)∨qK K H a (n.map V.int))/\C n/\Q (.int (f n)) H
def Xb (r:Vals (ns.map V.int) p9){v:Value}(h:p9[i]? =some v):∃t,v=.int (ns.getD i 0) t:=by
 have a:i<p9.length:=(cw.mp h).1;have H:i<ns.length:=by have:=r.length;rw[ag]at this;omega
 obtain⟨u,b,c⟩:=r.get (i:=i) (x:=V.int ns[i]) (by simp[H])
 rw[h]at b;cases b;obtain⟨t,rfl⟩:=c;exact⟨t,by rw[aa,ae H];rfl⟩
def BS (f:X.calm=true):yJ X (.builtin "sum") (XN X.K (λ_=>True) λns=>kX ns 0):=by
 intro P s x H y U Q I r h;obtain⟨a,ns,rfl,z,_,q⟩:=h;obtain⟨u,rfl,d⟩:=vals1 r;cases d;refine call_sum_walkG (G4 I f z λb g o w S A c j W l p B=>?_);refine⟨g,o,w,_,_,S,λi=>ns.getD i 0,rfl,W,l,p,λi v h=>Xb c h,λn t T k=>?_⟩;have e:b.length=ns.length:=by have:=c.length;rw[ag]at this;omega
 rw[e,CV];exact⟨.int _,H,B n t k,⟨_,rfl⟩,q⟩
def Ah (o:X.calm=true):yJ X (.builtin "max") (XN X.K (λns=>ns≠[]) λns=>yD ns.tail (ns.getD 0 0)):=by
 intro P s σ H xs us Q I r h;obtain⟨a,ns,rfl,z,f,q⟩:=h;obtain⟨u,rfl,l⟩:=vals1 r;cases l;have L:0<ns.length:=List.length_pos_iff.mpr f;refine call_max_walk (G4 I o z λd y fp N S s2 c J W Y p M=>?_);have e:d.length=ns.length:=by have:=c.length;rw[ag]at this;omega
 refine⟨y,fp,N,_,_,S,λi j=>decide (ns.getD i 0 > ns.getD j 0),rfl,W,Y,p,by omega,?_,λv h' T n k=>?_⟩
 ·intro i j D C Z Q' E h1 h2 x
  obtain⟨U,rfl⟩:=Xb c h1;obtain⟨g,rfl⟩:=Xb c h2;exact(PyProof.Rows.gt_int x:wpAny (model X.prog X.w) X.A.in1 (compareOp .Gt (.int (ns.getD i 0) U) (.int (ns.getD j 0) g)) Q' E Z)
 ·obtain⟨t,rfl⟩:=Xb c n
  rw[e];have b:=Af ns (ns.length-1) (by omega)
  rw[show ns.length-1+1=ns.length by omega,drop_length]at b
  have B:ns.getD (argBest (λi j=>decide (ns.getD i 0 > ns.getD j 0)) (ns.length-1)) 0=yD ns.tail (ns.getD 0 0):=b;rw[B];exact⟨.int _,H,M h' T k,⟨_,rfl⟩,q⟩
def kx:List W->Hx->R W:=λw A=>match intsOf w with
 |some (i::is)=>.ok (.int (yD is i)) A|_=>.bad
def wF:List W->Hx->R W:=λw A=>match intsOf w with
 |some i=>.ok (.int (kX i 0)) A|none=>.bad
def hH:∀ws A,jh (kx ws A):=λws A=>by
 unfold kx;split
 ·exact yr
 ·exact jv
def hJ:∀ws A,jh (wF ws A):=λws A=>by
 unfold wF;split
 ·exact yr
 ·exact jv
def NI {w:List W}{a:Addr}(z:jm K H a ys∨qK K H a ys)(r:zK K φ H w ys)(e:intsOf w=some ns):jm K H a (ns.map V.int)∨qK K H a (ns.map V.int):=by
 rw[GR e]at r;rw[<- zK.ints.mp r];exact z
def hV:Jr K (XN K (λns=>ns≠[]) λns=>yD ns.tail (ns.getD 0 0)) kx:=λb A H a y w Q S z r p=>by
 unfold kx at p;cases e:intsOf w with
 |none=>rw[e]at p;exact p.elim|some ns=>cases ns with
  |nil=>rw[e]at p;exact p.elim|cons i I=>rw[e]at p;exact⟨a,i::I,rfl,NI z r e,(by intro z;cases z),p b H _ .refl S rfl⟩
def hW:Jr K (XN K (λ_=>True) λns=>kX ns 0) wF:=λb A H a y w Q S z r p=>by
 unfold wF at p;cases e:intsOf w with
 |none=>rw[e]at p;exact p.elim|some ns=>rw[e]at p;exact⟨a,ns,rfl,NI z r e,trivial,p b H _ .refl S rfl⟩
def Jn (y:W):List W->Nat->Nat
 |[],n=>n|w::ws,n=>Jn y ws (if J5 w y then n+1 else n)
theorem Xk (y:W):∀(a:List W)(n:Nat),Jn y a n=n+a.countP λw=>J5 w y
 |[],n=>by simp[Jn]|w::a,n=>by
  show Jn y a _=_;rw[Xk y a,bG]
  by_cases h:J5 w y=true
  ·rw[ah h,ah h];omega
  ·rw[aj h,aj h];omega
def Y1:W->W->Hx->R W:=λx y A=>match x with
 |.tup w=>if yK y&&w.all yK then .ok (.int (Jn y w 0)) A else .bad|_=>.bad
def hX (K:Frag):V->List V->Hp->VK->Prop:=λx v H Q=>∃a X y,x=.ref a/\v=[y]/\qK K H a X/\wD y=true/\X.all wD=true/\Q (.int (X.countP λz=>gT z y)) H
theorem Uv {y:V}:∀{x:List V}{u:bS},Vals x u->x.all wD=true->u.countP (Zt y)=x.countP λz=>gT z y
 |_,_,.nil,_=>rfl|_,_,.cons r t,h=>by
  rw[List.all_cons,ak]at h;rw[bG,bG,Uv t h.2,T7 r h.1]
def hZ:Kj X "tuple.count" (hX X.K):=by
 intro p s w H x B v U Q I b d h;obtain⟨a,A,y,rfl,rfl,t,j,f,q⟩:=h;cases b;obtain⟨u,rfl,e⟩:=d.one;obtain⟨i,r,P,_⟩:=I.tuple t;obtain⟨⟨C,D,data,S⟩,o,c,n,l⟩:=id P;simp only at c l;subst c l;refine call_meets F.slot_tuple_count ⟨_,o,rfl⟩ F.entry_tuple_count (F.args_tuple_count_2 _ _) (SeqAt.tuple_countAt a i.toArray n D S u (Zt y)) ⟨o,λz g=>K9 e j r f z (by simpa using g),?_⟩
 refine⟨.int _,H,I.tok _,⟨_,rfl⟩,?_⟩;rw[<- Uv r f]at q;simpa using q
noncomputable def Ws (g:W->W->Hx->R W)(a b:Ev):Ev:=λc A=>(a c A).bind λx e=>match x with
 |.tup w=>(b c e).bind λy d=>g (.tup w) y d|_=>.bad
def h7 (K:Frag)(r:V->List V->Hp->VK->Prop)(to:TE)(t:TA):TE:=λa H Q=>to a H λx b=>∃p y,x=.ref p/\qK K b p y/\t a b λX h=>r x X h Q
def h9 {o:Expr}{to:TE}{t:TA}{N:Str}{id:String}{r:V->List V->Hp->VK->Prop}(S:Slot "tuple" N id)(y:typeOf (.builtin id)=pure (.type "method_descriptor"))(hm:Kj X id r)(u:PE X o to)(B:PA X (e::es) t)
  (c:attributeBase o N X.env (eval o X.env)=eval o X.env)
  (w:((backTo p7 (starEach (e::es) X.env)).all (λx=>!x.1)&&(backToKw p7 (keywordEach [] X.env)).all (λx=>x.1.isSome)
   && decide ((e::es).length+([]:cc).length+(if ([]:cc).isEmpty then 0 else 1)<30))=true)
  (b:(rb.endLine==p7.line)=true)(l:starEach (e::es) X.env=(false,eval e X.env)::starEach es X.env)(n:(backTo p7 (starEach es X.env)).any (·.1)=false):
  PE X (.Call (.Attribute o N rb) (e::es) [] p7) (h7 X.K r to t):=by
 intro P s L H Q I h;refine wpAny_Call_method_late c w b rfl (qf (u P s L H _ I h) λv Y ⟨x,H1,i,f,p,ys,E,ty,g⟩=>?_);subst E;cases f;obtain⟨j,_,Z,_⟩:=i.tuple ty;refine⟨"tuple",id,PySem.F.plainAttrs_tuple,S,y,Z.typeIs,λa C=>by cases C;exact i.tupleN ty,?_⟩
 have A:=B p7 P Y L H1 _ i g;rw[l]at A ⊢;refine Calls.callWith_builtin (by show(false || (backTo p7 (starEach es X.env)).any (·.1))=false;rw[n];rfl) (Calls.evalArgs_plain ?_)
 exact qf A λU T ⟨M,J,D,d,q⟩=>hm P T L J (.ref p) M (.ref p) U Q D rfl d q
theorem Ur {x:W}(q:RV K φ H x v)(e:yK x=true):∀{X:List W}{a:List V},zK K φ H X a->X.all yK=true->a.all wD=true/\(a.countP λz=>gT z v)=X.countP λz=>J5 z x
 |[],_,r,_=>by cases r;exact⟨rfl,rfl⟩|w::ws,_,⟨y,r,E,h,t⟩,h2=>by
  subst E;rw[List.all_cons,ak]at h2;obtain⟨I,i⟩:=Ur q e t h2.2;refine⟨by rw[List.all_cons,K8 h h2.1,I];rfl,?_⟩
  rw[bG,bG,i,NL h q h2.1 e]
variable {c:Expr}
noncomputable def Rz (l d:Int)(n:Nat):It:=⟨λi _=>i<n,λi H x h=>h=H/\x=.int (l+i * d),λi _=>n<=i⟩
def D9 (B:Addr)(L d:Int)(n:Nat):Turn P w K tg (Rz L d n) [B] B (λi h=>IsRangeIter h B (L+(i:Nat) * d) ((n:Int)-(i:Nat)) d) where
 mem:=by simp
 obj:=λi h y b a=>by
  have q:b=B:=by simpa using a
  subst q;exact⟨_,y,λv z=>nomatch (show Data.fields _=Data.cell v from z)⟩
 keep:=λi h D y k=>k B (by simp) _ y
 item:=by
  intro X e J f c i A s U H E I C y g;subst e J f;obtain⟨Q,N,Z,l,M,j⟩:=C B (by simp)
  have u:=Walks.range (prog:=X.prog) (w:=X.w) (I.ok.hd c) B L d n;refine u.item i s _ _ g y λv D T r S Y=>?_;obtain⟨t,rfl⟩:=r;have x:Inv X A U H { s with heap:=D,toks:=T }:=I.turned (λb o a p=>Y b o (by simpa using a) p) Q N l M j
  exact⟨_,rfl,XM (s:={ s with heap:=D,toks:=T }) (n := "range_iterator") S rfl rfl (by decide) ⟨.int (L+i * d),H,x,⟨t,rfl⟩,⟨rfl,rfl⟩,S,λb a=>(C b a).1⟩⟩
 done:=by
  intro X e J f c i A s U H E I C y g;subst e J f;obtain⟨Q,N,Z,l,M,j⟩:=C B (by simp)
  exact wpAny_pyNext_range_end (I.ok.hd c) y (by have hn:n<=i:=g;omega) λD q=>⟨rfl,I.turned (t':=s.toks) (λb o a p=>q b o a p) Q N l M j⟩
 self:=λ_ _ _ _ _ y h=>wpAny_pyIter_rangeiter y h
def rangeSize_down (x y:Int):Builtin.Range.rangeSize x y (-1)=((x-y).toNat:Int):=by
 unfold Builtin.Range.rangeSize;rw[aj (by decide)]
 split
 ·rw[show -(-1:Int)=1 by rfl,ediv_one];omega
 ·omega
def small_down {x y:Int}(b:-(2 ^ 62)<=x)(a:x<2 ^ 62)(H:-(2 ^ 62)<=y)(h:y<2 ^ 62):Builtin.Range.small x y (-1)=true:=by
 unfold Builtin.Range.small;rw[rangeSize_down];simp only[Builtin.Range.rangeFitsLong,ak,a8,decide_eq_true_eq,aL,show ¬((-1:Int) > 0) by decide,if_false]
 omega
def ia (t:TA):TI:=λa H R=>t a H λv h=>∃i j:Int,v=[.int i,.int j,.int (-1)]/\(-(2 ^ 62)<=i/\i<2 ^ 62/\-(2 ^ 62)<=j/\j<2 ^ 62)/\R (Rz i (-1) (i-j).toNat) h
def Bx {t:TA}(A:Gl X "range")(hm:X.mg "range"=none)(C:PA X [a,b,c] t)(v:starEach [a,b,c] X.env=(false,eval a X.env)::starEach [b,c] X.env)(w:(backTo p6 (starEach [b,c] X.env)).any (·.1)=false):
  PI X tg (.Call (.Name "range" p) [a,b,c] [] p6) (ia t):=by
 intro P s N H R I h;refine Call_ (QA I A hm boot_range (PyProof.Rows.callWith_type1 (qf (C p6 P s N H _ I h) λZ S ⟨vs,Y,K,f,Q⟩=>?_) v w));obtain⟨i,j,rfl,⟨Q,n,l,g⟩,q⟩:=Q;obtain⟨U,u,rfl,⟨t1,rfl⟩,r⟩:∃U u,Z=U::u/\RelV (.int i) U/\Vals [.int j,.int (-1)] u:=by
  cases f with
  |cons x y=>exact⟨_,_,rfl,x,y⟩
 obtain⟨M,L,rfl,⟨T,rfl⟩,⟨t3,rfl⟩⟩:=r.two;refine call_range_3 (by decide) ?_ (.inl (PyProof.noPylong_small (by omega)))
 have d:Inv X P N Y { S with heap:=S.heap.push { cls:=.type "range",data:=.fields #[.int i t1,.int j T,.int (-1) t3] } }:=K.kept (t':=S.toks) λb o e=>af _ e
 refine wpAny_pyIter_range (IsRange.new ..) (small_down Q n l g) ?_;refine⟨_,[_],_,_,Y,rfl,d.kept (t':=S.toks) λb o e=>af _ e,D9 _ i (-1) (i-j).toNat,?_,λb B=>?_,q⟩
 ·have J:i+((0:Nat):Int) * (-1)=i:=by simp
  have D:(((i-j).toNat:Nat):Int)-((0:Nat):Int)=Builtin.Range.rangeSize i j (-1):=by rw[rangeSize_down];omega
  show IsRangeIter _ _ (i+((0:Nat):Int) * (-1)) ((((i-j).toNat:Nat):Int)-((0:Nat):Int)) (-1);rw[J,D];exact aC _ rfl
 ·have E:=cz.mp B
  subst E;exact d.fpOk (aq _) (d.hok.fresh (aq _))
noncomputable def Kf (h:Int)(n:Nat):jM:=⟨λ_ i=>if i<n then some (some (.int (h-i))) else some none,n⟩
def ib {a:Int}:Qm K φ H (Kf a n) (Rz a (-1) n):=λi b d A l S=>by
 unfold Kf;dsimp only
 by_cases h:i<n
 ·rw[ah h]
  refine⟨λw e=>?_,λe=>by cases e⟩
  cases e;refine⟨h,λx f ⟨c,E⟩=>?_⟩;subst c;refine⟨.refl,S,?_⟩;rw[E];show V.int _=V.int _
  congr 1;omega
 ·rw[aj h]
  exact⟨λw e=>(by cases e),λ_=>Nat.le_of_not_lt h⟩
def WH (m M:Ev):Ei:=λb A=>(m b A).bind λw d=>(M b d).bind λa c=>match w,a with
 |.int i,.int j=>if jH i&&jH j then .ok (Kf i (i-j).toNat) c else .bad|_,_=>.bad
def ic (t:TA):TE:=λa H Q=>t a H λv h=>∃j:Int,v=[.int j]/\∀p,h p=none->Q (.ref p) (upd h p (.rng 0 j))
def ie {T:TA}(g:Gl X "range")(l:X.mg "range"=none)(e:PA X [a] T)(d:starEach [a] X.env=[(false,eval a X.env)]):PE X (.Call (.Name "range" p) [a] [] p6) (ic T):=by
 intro P s f H Q I h;refine Call_ (QA I g l boot_range (PyProof.Rows.callWith_type1 (qf (e p6 P s f H _ I h) λU S ⟨v,n,i,r,c⟩=>?_) d rfl));obtain⟨j,rfl,q⟩:=c;obtain⟨u,rfl,⟨t,rfl⟩⟩:=r.one;refine call_range_1 ⟨.ref _,_,i.laid (o:=.rng 0 j) (λb o E=>af _ E) (aq _) ?_,rfl,q _ (i.hok.fresh (aq _))⟩;exact⟨_,_,_,aC _ rfl⟩
noncomputable def J1 (n:Nat):List V:=(List.range n).map λ(i:Nat)=>V.int i
def CT (C:X.calm=true):yJ X (.type "list") (λxs H Q=>∃(r:Addr) (j:Int),xs=[.ref r]/\H r=some (.rng 0 j)/\(-(2 ^ 62)<=j/\j<2 ^ 62)/\j.toNat<=sizeLine/\∀l,H l=none->Q (.ref l) (upd H l (.lst (J1 j.toNat)))):=by
 intro P s Z H xs us Q I r h;obtain⟨p,j,rfl,A,⟨J,E⟩,y,q⟩:=h;obtain⟨u,rfl,w⟩:=vals1 r;cases w;obtain⟨N,g,M,B⟩:=I.hok p _ A;have K:sizeLine=16777216:=sizeLine_eq;refine PySem.call_list_range (n:=j.toNat) (I.ok.hd C) (show IsRange s.heap p 0 j 1 N g M from B) (small_one (by omega) (by omega) J E) (by rw[rangeSize_one];split<;>omega) (by omega) λh' T L D U S ⟨Y,d⟩=>?_
 refine⟨.ref s.heap.objs.size,_,I.laid (t':=T) (o:=.lst (J1 j.toNat)) U (aq _) ?_,rfl,q _ (I.hok.fresh (aq _))⟩;refine⟨by unfold J1;simpa using y,L.toList,D,?_,by simpa using S⟩
 have a:∀(l:bS)(k:Nat),(∀(i:Nat) v,l[i]? =some v->∃t,v=.int ((k+i:Nat):Int) t)->Vals ((List.range' k l.length).map λ(i:Nat)=>V.int i) l:=by
  intro l
  induction l with
  |nil=>intro k _;exact .nil|cons v l x=>
   intro k e;rw[bF,range'_succ,aR];refine .cons ?_ (x (k+1) λi f a=>?_)
   ·obtain⟨t,rfl⟩:=e 0 v rfl
    exact⟨t,rfl⟩
   ·obtain⟨t,rfl⟩:=e (i+1) f (by simpa using a)
    exact⟨t,by congr 1;omega⟩
 have b:L.toList.length=j.toNat:=by simpa using Y
 have:=a L.toList 0 λi v c=>by
  obtain⟨t,rfl⟩:=d i v (by simpa using c)
  exact⟨t,by congr 1;omega⟩
 rw[b]at this;unfold J1;rw[range_eq_range'];exact this
def Xg (m:Ev):Ev:=λb A=>(m b A).bind λw a=>match w with
 |.int j=>if jH j&&decide (j.toNat<=qj) then .ok (.ref a.length) (a++[.lst ((List.range j.toNat).map λ(i:Nat)=>W.int i)]) else .bad|_=>.bad
def ig:V->V->Hp->VK->Prop:=λo i H Q=>∃p x k v,o=.ref p/\i=.int k/\0<=k/\H p=some (.lst x)/\x[k.toNat]? =some v/\Q v H
def ih:Hg X ig:=by
 intro x s A H o i g j Q I ro d h;obtain⟨p,B,k,v,rfl,rfl,y,f,e,q⟩:=h;cases ro;obtain⟨t,rfl⟩:=d;obtain⟨a,r,P,l⟩:=I.list (jm.of f);obtain⟨u,b,c⟩:=r.get e;have C:=YT;have n:=r.length;have w:k.toNat<a.length:=(cw.mp b).1;exact wpAny_getItem_list P.isList y (by omega) (by simpa using b) ⟨v,H,I,c,q⟩
def WL (M e f:Ev):Ex:=λc A=>(M c A).bind λo g=>(e c g).bind λi d=>match o,i with
 |.ref n,.int k=>if 0<=k then(match (d[n]?:Option O) with
  |some (.lst ws)=>match ws[k.toNat]? with
   |some (.int x)=>(f c d).bind λy b=>match y with
    |.int y=>(ku (.ref n) (.int k) (.int (x+y)) b).bind λ_ a=>.ok (.nx c) a|_=>.bad
   |_=>.bad
  |_=>.bad) else .bad
 |_,_=>.bad
noncomputable def Ww (i j k:Nat):Tg:=λw a=>match w with
 |.tup [x,.tup [y,z]]=>some (((a.set i (some x)).set j (some y)).set k (some z))|_=>none
end
def jZ (k:Bool)(h:Heap)(I a:Addr)(i:Nat):Prop:=if k=true then h.IsListIter I a i else h.IsTupleIter I a i
def yy (k:Bool)(h:Heap)(a:Addr)(i:Array Value):Prop:=if k=true then h.IsList a i else h.IsTuple a i
def wy (k:Bool)(K:Frag)(H:Hp)(a:Addr)(x:List V):Prop:=if k=true then jm K H a x else qK K H a x
noncomputable def JR (k:Bool):String:=if k then "list_iterator" else "tuple_iterator"
def jZ.ob {k:Bool}{I:Addr}(x:jZ k h I a i):∃o,h.get? I=some o/\o.cls=.type (JR k)/\o.data=.fields #[.ref a,.int i 0]:=by
 cases k<;>exact x
def jZ.mk {k:Bool}{I:Addr}(x:∃o,h.get? I=some o/\o.cls=.type (JR k)/\o.data=.fields #[.ref a,.int i 0]):jZ k h I a i:=by
 cases k<;>exact x
def jZ.to {k:Bool}{I:Addr}(x:jZ k h I a i)(e:∀o,h.get? I=some o->h'.get? I=some o):jZ k h' I a i:=let ⟨o,H,r⟩:=x.ob;.mk ⟨o,e o H,r⟩
def yy.ob {k:Bool}(x:yy k h a items):∃o,h.get? a=some o/\o.cls=.type (if k then "list" else "tuple")/\∃n,o.data=.seq items n:=by
 cases k<;>exact x
def yy.to {k:Bool}(x:yy k h a items)(e:∀o,h.get? a=some o->h'.get? a=some o):yy k h' a items:=by
 cases k with
 |false=>exact let ⟨o,H,r⟩:=x.ob;⟨o,e o H,r⟩|true=>exact let ⟨o,H,r⟩:=x.ob;⟨o,e o H,r⟩
section
variable {prog:Program}{A:Around}{s:Shared}{k:Bool}{it:Addr}
def MC (h:yy k s.heap a items)(H:Q (.ref s.heap.objs.size) { s with heap:=s.heap.push { cls:=.type (JR k),data:=.fields #[.ref a,.int 0 0] } }):wpAny (model prog w) A (pyIter (.ref a)) Q E s:=by
 cases k with
 |true=>exact wpAny_pyIter_list h H|false=>exact wpAny_pyIter_tuple h H
def Xm {x:Value}(t:jZ k s.heap it a i)(l:yy k s.heap a items)(f:items[i]? =some x)
  (g:∀h',jZ k h' it a (i+1)->Heap.SameBut it s.heap h'->Q x { s with heap:=h' }):wpAny (model prog w) A (Builtin.SmallTypes.nextOf (.ref it)) Q E s:=by
 cases k with
 |true=>exact wpAny_nextOf_list_item t l f g|false=>
  have h:s.heap.IsTupleIter it a i:=t;obtain⟨o,b,e,H⟩:=id h;obtain⟨j,c,_,n,d⟩:s.heap.IsTuple a items:=l;unfold Builtin.SmallTypes.nextOf;refine cj (wpAny_callSpecial?_slot (name:=Str.ofString "__next__") h.typeIs F.slot_tuple_iterator_next (wpAny_call_entry F.slot_tuple_iterator_next h.typeIs F.entry_tuple_iterator_next ?_ (F.args_tuple_iterator_next_1 _)));show wpAny _ _ (field (.ref it) 0 >>= _) _ _ s;refine cj (wpAny_field b H (x:=.ref a) rfl ?_);show wpAny _ _ (if (Value.ref a==Value.none)=true then _ else _) _ _ s;rw[aj (show ¬((Value.ref a==Value.none)=true) from aF)]
  show wpAny _ _ (field (.ref it) 1 >>= _) _ _ s;refine cj (wpAny_field b H (x:=.int i 0) rfl ?_);show wpAny _ _ (seqItems? (.ref a) >>= _) _ _ s;refine cj (wpAny_seqItems c d ?_);simp only[aA,f];refine cj (wpAny_setField b H (by simp) (cm ⟨x,rfl,cm (g _ (.mk ?_) (Heap.SameBut.update ..))⟩))
  exact⟨_,Heap.get?_update_self _ b (Obj.isFreed_of_fields (Obj.data_mapFields H _)),(Obj.cls_mapFields ..).trans e,by rw[Obj.data_mapFields H];simp[rawInt]⟩
def So (d:A.handled=none)(t:jZ k s.heap it a i)(l:yy k s.heap a items)(g:items[i]? =none)
  (j:∀h' e,Heap.ExtBut it s.heap h'->(∃o,h'.get? e=some o/\o.cls=.type "StopIteration")->E (.ref e) { s with heap:=h' }):wpAny (model prog w) A (Builtin.SmallTypes.nextOf (.ref it)) Q E s:=by
 cases k with
 |true=>exact wpAny_nextOf_list_end d t l g j|false=>
  have h:s.heap.IsTupleIter it a i:=t;obtain⟨p,H,n,b⟩:=id h;obtain⟨q,c,_,N,f⟩:s.heap.IsTuple a items:=l;unfold Builtin.SmallTypes.nextOf;refine cj (wpAny_callSpecial?_slot (name:=Str.ofString "__next__") h.typeIs F.slot_tuple_iterator_next (wpAny_call_entry F.slot_tuple_iterator_next h.typeIs F.entry_tuple_iterator_next ?_ (F.args_tuple_iterator_next_1 _)));show wpAny _ _ (field (.ref it) 0 >>= _) _ _ s;refine cj (wpAny_field H b (x:=.ref a) rfl ?_);show wpAny _ _ (if (Value.ref a==Value.none)=true then _ else _) _ _ s;rw[aj (show ¬((Value.ref a==Value.none)=true) from aF)]
  show wpAny _ _ (field (.ref it) 1 >>= _) _ _ s;refine cj (wpAny_field H b (x:=.int i 0) rfl ?_);show wpAny _ _ (seqItems? (.ref a) >>= _) _ _ s;refine cj (wpAny_seqItems c f ?_);simp only[aA,g];refine cj (wpAny_rule (cj (wpAny_setField H b (by simp) ?_)))
  show wpAny _ _ (newExc (.type "StopIteration") [] >>= _) _ _ _;refine cj ?_;simp only[newExc,newTuple];refine cj (wpAny_newObj_type ?_ (by size_fits))
  refine cj (m:=firstArgMember _ _) (wpAny_of_eq (a:=Value.none) (by first|rfl|(simp only[firstArgMember];rfl)) ?_);refine wpAny_newObj_type ?_ (by size_fits)
  simp only[raiseNew];refine cj (wpAny_handled ?_)
  first|rw[show A.in1.handled=none from d]|rw[d]
  refine cj (cm (wpAny_throw ?_));exact j _ _ (((Heap.SameBut.update ..).extBut.push _).push _) ⟨_,aC _ rfl,rfl⟩
def Mc (j:A.handled=none)(c:a≠it):Draws prog w A it [it,a] items.size (λi v=>items[i]? =some v) (λi h=>jZ k h it a i/\yy k h a items) where
 live:=λ_ _ S=>let ⟨o,g,_⟩:=S.1.ob;⟨o,g⟩
 frame:=λ_ _ _ S d=>⟨S.1.to λo e=>d it (by simp) o e,S.2.to λo e=>d a (by simp) o e⟩
 item:=λi s Q E f S l=>Xm S.1 S.2 (x:=items[i]) (by simp[f]) λp b H=>l _ p s.toks (by simp[f]) ⟨b,S.2.to λo e=>H.extBut a o c e⟩ H
 done:=λs Q E S n=>So j S.1 S.2 (by simp) n
end
section
variable {s:Shared}
def _root_.L2.Inv.spun {T:Addr}(I:Inv X p4 σ H s)(k:∀b u,b∉fp->s.heap.get? b=some u->h'.get? b=some u)(j:∀b∈fp,wL X p4 H b)(hT:s.heap.objs.size<=T)
  (new:jg X.prog X.w (upd H T o) h' T o):Inv X p4 σ (upd H T o) { s with heap:=h',toks:=t' }:=by
 have i:H T=none:=I.hok.fresh hT;have lt:∀b u,s.heap.get? b=some u->b≠T:=λb u e=>aO (aK (aM e) hT);have N:∀b u,H b=some u->b∉fp:=λb u e z=>by rw[(j b z).1]at e;cases e
 refine I.step (g':=s.gens) (d':=s.drawn) (ch:=fp) (λb a=>let ⟨_,y,_,g,t,f⟩:=j b a;⟨g,y,t,f⟩) (λb o _ _ h e _=>k b o h e) (λb o _ _ h e _=>⟨o.slots,k b o h e⟩)
  (λb o _ e n=>by rw[qC (lt b o e)];exact n) (λb o h e=>⟨o,k b o h e⟩) (λb x e=>by rw[qC (wj e i)];exact e) (λb u x e=>by rw[qC (wj e i)];exact e)
  (λb ps e=>⟨#[],by rw[qC (wj e i),e];simp⟩) (λm l=>?_) (λb u e=>?_) I.bare
 ·obtain⟨o,E,p,d,r⟩:=l
  exact⟨o,E,p,k _ o (λz=>(j _ z).2.1 rfl) d,r⟩
 ·by_cases a:b=T
  ·subst a;rw[j9]at e;cases e;exact new
  ·rw[qC a]at e
   refine(I.hok b u e).stay (λc v h q=>k c v ?_ q) (λc q=>by rw[qC (wj q i)];exact q) λc x q=>by rw[qC (wj q i)];exact q
   rcases h with z|z
   ·rw[z];exact N b u e
   ·exact N c _ z
def _root_.L2.Inv.spun0 (I:Inv X p4 σ H s)(k:∀b u,b∉fp->s.heap.get? b=some u->h'.get? b=some u)(i:∀b∈fp,wL X p4 H b):Inv X p4 σ H { s with heap:=h',toks:=t' }:=by
 have N:∀b u,H b=some u->b∉fp:=λb u e z=>by rw[(i b z).1]at e;cases e
 refine I.step (g':=s.gens) (d':=s.drawn) (ch:=fp) (λb d=>let ⟨_,t,_,g,l,f⟩:=i b d;⟨g,t,l,f⟩) (λb o _ _ h e _=>k b o h e) (λb o _ _ h e _=>⟨o.slots,k b o h e⟩)
  (λb o _ e n=>n) (λb o h e=>⟨o,k b o h e⟩) (λb x e=>e) (λb u x e=>e) (λb ps e=>⟨#[],by rw[e];simp⟩) (λm j=>?_) (λb u e=>?_) I.bare
 ·obtain⟨o,E,p,a,r⟩:=j
  exact⟨o,E,p,k _ o (λz=>(i _ z).2.1 rfl) a,r⟩
 ·refine(I.hok b u e).stay (λc v h q=>k c v ?_ q) (λc q=>q) λc x q=>q
  rcases h with z|z
  ·rw[z];exact N b u e
  ·exact N c _ z
def _root_.L2.Inv.sq {k:Bool}(I:Inv X p4 σ H s)(h:wy k X.K H a xs):∃i:bS,Vals xs i/\yy k s.heap a i.toArray/\xs.length<=sizeLine:=by
 cases k with
 |true=>obtain⟨i,r,p,z⟩:=I.list h;exact⟨i,r,p.isList,z⟩|false=>obtain⟨i,r,p,z⟩:=I.tuple h;exact⟨i,r,(show s.heap.IsTuple a i.toArray from p),z⟩
def _root_.L2.Inv.sq_inj {k:Bool}(I:Inv X p4 σ H s)(h:wy k X.K H a xs)(b:wy k X.K H a ys):xs=ys:=by
 cases k with
 |true=>exact I.list_inj h b|false=>exact I.tuple_inj h b
end
def RL (k:Bool)(K:Frag)(a:Addr):It:=
 ⟨λi H=>∃X x,wy k K H a X/\X[i]? =some x,λi H x h=>∃p y,(∀X,wy k K H a X->X[i]? =some y)/\H p=none/\x=.ref p/\h=upd H p (.tup [.int i,y]),λi H=>∃X,wy k K H a X/\X.length=i⟩
def BP {K:Frag}(k:Bool)(a n it:Addr):Turn P w K (.Tuple rk kk q5) (RL k K a) [n,it] n (λi h=>(∃old,IsEnum h n it i old)/\jZ k h it a i/\n≠it) where
 mem:=by simp
 obj:=λi h st b f=>by
  obtain⟨⟨old,he⟩,g,_⟩:=st;rcases cu.mp f with rfl|f
  ·exact⟨_,he,λv z=>nomatch z⟩
  ·rw[cz.mp f]
   obtain⟨o,S,_,hd⟩:=g.ob;exact⟨o,S,λv z=>by rw[hd]at z;cases z⟩
 keep:=λi h h' ⟨⟨old,he⟩,g,ne⟩ kp=>⟨⟨old,kp n (by simp) _ he⟩,g.to λo r=>kp it (by simp) o r,ne⟩
 item:=by
  intro X hP hw hK hc i p4 s σ H E I hf st Y;subst hP hw hK;obtain⟨⟨old,he⟩,g,ne⟩:=st;obtain⟨xs,x,D,C⟩:=Y;obtain⟨d,J,t,hz⟩:=I.sq D;obtain⟨u,hu,ru⟩:=J.get C;have U:i<d.toArray.size:=by simpa using (cw.mp hu).1
  obtain⟨oa,j,hca,na,e⟩:=t.ob;have A:a≠it:=λz=>by
   obtain⟨oi,c,hci,p⟩:=g.ob;rw[<- z,j]at c;cases c;rw[p]at e;cases e
  have ane:n≠a:=λz=>by
   have B:s.heap.get? a=_:=z ▸ he;rw[j]at B;cases B;cases e
  refine wpAny_pyNext_enum_itemD (Mc (k:=k) (items:=d.toArray) (I.ok.hd hc) A) he ⟨g,t⟩ U ne (by simp[ne,ane]) λy h1 T M S Q hT hsz hk=>?_
  have ey:y=u:=by
   have:d[i]? =some y:=by simpa using M
   rw[hu]at this;exact(aI this).symm
  subst ey;refine⟨_,rfl,wpAny_letOwnedTupleGo_enum S λh2 Z l=>?_⟩;have L:n<s.heap.objs.size:=aM he;have hT2:h2.get? s.heap.objs.size=some { cls:=.type "tuple",data:=.seq #[.int i T,y] }:=l.extBut _ _ (ne_of_gt L) hT;refine⟨.ref s.heap.objs.size,upd H s.heap.objs.size (.tup [.int i,x]),?_,rfl,⟨s.heap.objs.size,x,λys M=>by rw[I.sq_inj M D];exact C,I.hok.fresh (aq _),rfl,rfl⟩,⟨⟨_,by simpa using Z⟩,?_,ne⟩,λb f=>?_⟩
  ·refine I.spun (fp:=[n,it]) (t':=T+1) (λb o f r=>?_) hf (aq _) ?_
   ·exact l.extBut _ _ (λz=>f (by simp[z])) (hk b o (λz=>f (by simp[z])) (λz=>f (by simp[z])) r)
   ·exact⟨by show 2<=sizeLine;decide,[.int i T,y],.cons ⟨T,rfl⟩ (.cons ru .nil),_,hT2,⟨rfl,rfl⟩,0,rfl⟩
  ·exact Q.1.to λo r=>l.extBut _ _ (λz=>ne z.symm) r
  ·have bn:b≠s.heap.objs.size:=λz=>by
    rcases cu.mp f with q|q
    ·exact absurd L (by rw[<- q,z];exact aT _)
    ·obtain⟨oi,c,_⟩:=g.ob
     exact absurd (aM c) (by rw[<- cz.mp q,z];exact aT _)
   show upd H s.heap.objs.size _ b=none;rw[qC bn];exact(hf b f).1
 done:=by
  intro X hP hw hK hc i p4 s σ H E I hf st Y;subst hP hw hK;obtain⟨⟨old,he⟩,g,ne⟩:=st;obtain⟨xs,D,C⟩:=Y;obtain⟨d,J,t,hz⟩:=I.sq D;have en':d.toArray.size=i:=by rw[aB,<- J.length];exact C
  obtain⟨oa,j,hca,na,e⟩:=t.ob;have A:a≠it:=λz=>by
   obtain⟨oi,c,hci,p⟩:=g.ob;rw[<- z,j]at c;cases c;rw[p]at e;cases e
  refine wpAny_pyNext_enum_endD (Mc (k:=k) (items:=d.toArray) (I.ok.hd hc) A) he ⟨by rw[en'];exact g,t⟩ λh1 N=>⟨rfl,?_⟩
  exact I.spun0 (fp:=[n,it]) (t':=s.toks) (λb o f r=>N b o (λz=>f (by simp[z])) r) hf
 self:=λ_ _ _ _ _ ⟨⟨_,he⟩,_⟩ h=>wpAny_pyIter_enum he h
open AutoSeq1 (wpAny_loadPart')
abbrev Vc (h:Heap)(k:Bool)(a:Addr):Heap:=h.push { cls:=.type (JR k),data:=.fields #[.ref a,.int 0 0] }
abbrev IX (h:Heap)(k:Bool)(a:Addr):Heap:=(Vc h k a).push { cls:=.type "enumerate",data:=.fields #[.none,.bool false,.ref h.objs.size,rawInt 0,.none,.none] }
def Cm (a:Addr)(i:Array Value)(n:Nat)(D:cf)(S:Array (bW)):
  Meets (Builtin.«enumerate.__new__» ⟨[.type "enumerate",.ref a],[]⟩) (λ_ R s=>s.heap.get? a=some { cls:=.type "tuple",dict:=D,data:=.seq i n,slots:=S }/\R (.ok (.ret (.ref (Vc s.heap false a).objs.size))) { s with heap:=IX s.heap false a }):=
 .of_wp λP w A R s h=>by
  obtain⟨p,g,d,t,o⟩:=s;obtain⟨H,h⟩:=h;have b:=sub_enumerate;have hT:Heap.IsTuple (Shared.heap ⟨p,g,d,t,o⟩) a i:=⟨_,H,rfl,n,rfl⟩
  wp_walk using wpAny_loadPart' H
  refine wpAny_stack_any λe=>cm ?_;split
  ·rename_i c _ _ _ _ _
   cases (c==Value.type "enumerate")<;>(wp_walk using wpAny_loadPart' H,wpAny_pyIter_tuple hT;exact⟨_,rfl,h⟩)
  ·wp_walk using wpAny_loadPart' H,wpAny_pyIter_tuple hT
   exact⟨_,rfl,h⟩
section
variable {prog:Program}{A:Around}{s:Shared}
def BR {k:Bool}(l:yy k s.heap a items)
  (h:∀h',IsEnum h' (s.heap.objs.size+1) s.heap.objs.size 0 .none->jZ k h' s.heap.objs.size a 0->(∀b o,s.heap.get? b=some o->h'.get? b=some o)->Q (.ref (s.heap.objs.size+1)) { s with heap:=h' }):
  wpAny (model prog w) A (call (.type "enumerate") [.ref a]) Q E s:=by
 cases k with
 |true=>exact call_enumerate_list l λh' i g _ f=>h h' i g f|false=>
  obtain⟨⟨c,q,D,S⟩,e,H,n,p⟩:=(show s.heap.IsTuple a items from l)
  replace H:c=.type "tuple":=H
  replace p:D=.seq items n:=p
  subst H p;refine callType_new F.called_enumerate (by decide) (F.typeCall_enumerate_1 _) (F.newCall_enumerate_1 _) (λobj=>F.args_object_init_2 obj _) F.entry_enumerate_new (Cm a items n q S) ⟨e,?_⟩
  have d:(Vc s.heap false a).objs.size=s.heap.objs.size+1:=bj ..;have j:IsEnum (IX s.heap false a) (Vc s.heap false a).objs.size s.heap.objs.size 0 .none:=aC _ rfl;show _/\_;rw[d]at j ⊢;exact⟨⟨_,j,rfl⟩,h _ j (.mk ⟨_,af _ (aC _ rfl),rfl,rfl⟩) λb o x=>af _ (af _ x)⟩
end
section
variable {a b:Expr}{m:Ev}
def ij (K:Frag)(t:TA):TI:=λa H R=>t a H λv h=>∃p k x,v=[.ref p]/\wy k K h p x/\R (RL k K p) h
def boot_enumerate:bootBuiltins "enumerate"=some (.type "enumerate"):=by rfl
def boot_zip:bootBuiltins "zip"=some (.type "zip"):=by rfl
def ik {t:TA}(l:Gl X "enumerate")(A:X.mg "enumerate"=none)(o:PA X [a] t)(g:starEach [a] X.env=[(false,eval a X.env)]):
  PI X (.Tuple rk kk q5) (.Call (.Name "enumerate" p) [a] [] p6) (ij X.K t):=by
 intro P s y H R I h;refine Call_ (QA I l A boot_enumerate (PyProof.Rows.callWith_type1 (qf (o p6 P s y H _ I h) λU S ⟨D,B,i,d,Q⟩=>?_) g rfl));obtain⟨p,k,C,rfl,j,q⟩:=Q;obtain⟨u,rfl,r⟩:=d.one;cases r;obtain⟨f,w,sq,x⟩:=i.sq j;refine BR sq λJ e v E=>wpAny_pyIter_enum e ?_;refine⟨S.heap.objs.size+1,[S.heap.objs.size+1,S.heap.objs.size],_,_,B,rfl,i.kept (t':=S.toks) E,BP k p _ _,⟨⟨_,by simpa using e⟩,v,Nat.succ_ne_self _⟩,λb n=>?_,q⟩
 have c:S.heap.objs.size<=b:=by
  rcases cu.mp n with z|z
  ·rw[z];exact Nat.le_succ _
  ·rw[cz.mp z];exact aq _
 exact i.fpOk c (i.hok.fresh c)
noncomputable def atEnd (w:List W)(i:Nat)(f:W->W):Option (Option W):=match w[i]? with
 |some x=>some (some (f x))|none=>if w.length=i then some none else none
def wa (w:W)(n:Nat):jM:=⟨λA i=>match zY w A with
 |some a=>atEnd a i λx=>.tup [.int i,x]|none=>none,n⟩
noncomputable def Jk (w:W):Bool:=match w with
 |.tup _=>false|_=>true
def GY {K:Frag}{A:Hx}{w:W}{i:List W}(S:zX K φ A H)(q:RV K φ H w v)(e:zY w A=some i):∃p ys,v=.ref p/\wy (Jk w) K H p ys/\zK K φ H i ys:=by
 cases w with
 |tup u=>cases e;obtain⟨a,j,E,t,r⟩:=q;exact⟨a,j,E,t,r⟩|ref n=>
  obtain⟨a,E,f⟩:=q;unfold zY at e;dsimp only at e;cases c:A[n]? with
  |none=>rw[c]at e;cases e|some o=>
   rw[c]at e;obtain⟨d,b,r⟩:=S.ob n o c;rw[f]at b;cases b;cases o with
   |lst x=>cases e;obtain⟨y,g,h⟩:=r;exact⟨a,y,E,jm.of g,h⟩|ro x=>cases e;obtain⟨y,g,h⟩:=r;exact⟨a,y,E,g.sq,h⟩|dct x=>cases e|td _=>cases e|tr _=>cases e|tab _ _=>cases e
 |non=>cases e|bl _=>cases e|clo _ _ _=>cases e|xc _=>cases e|fn _=>cases e|int _=>cases e|str _=>cases e
def Uu {K:Frag}{a:bT}{A:Hx}{h:Hp}{w:W}{b:List W}{p:Addr}(q:RV K φ H w (.ref p))(l:QX K φ H a h)(S:zX K a A h)(E:zY w A=some b):∃y,wy (Jk w) K h p y/\zK K a h b y:=by
 obtain⟨P,Y,e,d,c⟩:=GY S (RV.monoW l q) E;cases e;exact⟨Y,d,c⟩
def il {K:Frag}{w:W}{p:Addr}(q:RV K φ H w (.ref p)):Qm K φ H (wa w n) (RL (Jk w) K p):=λi a f D L S=>by
 unfold wa;dsimp only;cases es:zY w D with
 |none=>exact⟨λ_ z=>(by cases z),λz=>(by cases z)⟩|some l=>
  dsimp only;obtain⟨g,j,o⟩:=Uu q L S es;unfold atEnd;cases E:l[i]? with
  |none=>
   dsimp only
   by_cases h:l.length=i
   ·rw[ah h]
    exact⟨λ_ z=>(by cases z),λ_=>⟨g,j,by rw[<- o.length];exact h⟩⟩
   ·rw[aj h]
    exact⟨λ_ z=>(by cases z),λz=>(by cases z)⟩
  |some x=>
   dsimp only;refine⟨λu z=>?_,λz=>(by cases z)⟩
   cases z;obtain⟨y,e,d⟩:=o.get E;refine⟨⟨g,y,j,e⟩,λX I ⟨t,Y,b,r,B,c⟩=>?_⟩;subst B c
   have:=b g j
   rw[e]at this;cases this;obtain⟨C,a2,A⟩:=Z7 S r (.cons (w:=.int i) (v:=.int i) rfl (.one d));exact⟨C,a2,A⟩
def w6 (m:Ev):Ei:=λb A=>(m b A).bind λw a=>match zY w a with
 |some c=>.ok (wa w c.length) a|none=>.bad
end
section
variable {prog:Program}{A:Around}{s:Shared}{z TI TO i1 i2 l1 l2:Addr}{n1 n2:Nat}{c1 c2:Bool}{xs ys:Array Value}{x y a b:Value}
def ip (D:ZipApart z TI TO i1 i2 l1 l2)(h:IsZip s.heap z TI TO .none)(I:IsPair s.heap TI (.ref i1) (.ref i2))(u:IsPair s.heap TO a b)
  (g1:jZ c1 s.heap i1 l1 n1)(g2:jZ c2 s.heap i2 l2 n2)(s1:yy c1 s.heap l1 xs)(s2:yy c2 s.heap l2 ys)(X:xs[n1]? =some x)(U:ys[n2]? =some y)
  (hQ:∀h',IsZip h' z TI TO (rawInt s.heap.objs.size)->IsPair h' TI (.ref i1) (.ref i2)->IsPair h' TO x y->jZ c1 h' i1 l1 (n1+1)->jZ c2 h' i2 l2 (n2+1)->IsPair h' s.heap.objs.size x y->
   (∀c o,c≠z->c≠TO->c≠i1->c≠i2->s.heap.get? c=some o->h'.get? c=some o)->Q (.ref s.heap.objs.size) { s with heap:=h' }):
  wpAny (model prog w) A (Builtin.«zip.__next__» ⟨[.ref z],[]⟩) (λfin s'=>∃v,fin=.done (.ret v)/\Q v s') E s:=by
 show wpAny _ _ (field (.ref z) 2 >>= _) _ _ _;refine cj (wpAny_field h rfl (x:=.bool false) rfl ?_);show wpAny _ _ (field (.ref z) 3 >>= _) _ _ _;refine cj (wpAny_field h rfl (x:=.ref TI) rfl (cj (wpAny_seqItems I rfl ?_)));show wpAny _ _ (Builtin.SmallTypes.ownedTupleIsFree (.ref z) >>= _) _ _ _;refine cj ?_;unfold Builtin.SmallTypes.ownedTupleIsFree;refine cj (wpAny_field h rfl (x:=.none) rfl (cm ?_));simp only[if_true];refine cj (wpAny_rule (cj (wpAny_field h rfl (x:=.ref TO) rfl ?_)));refine cj (wpAny_setField_rec h (by simp) λha p sa=>?_);replace p:IsZip ha z TI TO .ellipsis:=p
 refine cj ?_;simp only[List.zipIdx_cons,List.zipIdx_nil,forIn_cons,forIn_nil];refine cj (cj (wpAny_onRaise ?_));show wpAny _ _ (Builtin.SmallTypes.nextOf (.ref i1) >>= _) _ _ _;refine cj (Xm (g1.to λo e=>sa.extBut _ _ D.i1z e) (s1.to λo e=>sa.extBut _ _ D.l1z e) X λhb gb j=>cm ?_);have K:IsPair hb TO a b:=j.extBut _ _ D.TOi1 (sa.extBut _ _ D.TOz u);refine cj (wpAny_seqItems K rfl (cj (wpAny_updateSeq_pair K λP T sc=>cj (wpAny_letGo (cm ?_)))));replace T:IsPair P TO x b:=T;refine cj (cj (wpAny_onRaise ?_));show wpAny _ _ (Builtin.SmallTypes.nextOf (.ref i2) >>= _) _ _ _;have up:∀c o,c≠z->c≠i1->c≠TO->s.heap.get? c=some o->P.get? c=some o:=λc o f d g e=>sc.extBut _ _ g (j.extBut _ _ d (sa.extBut _ _ f e));refine cj (Xm (g2.to λo e=>up _ o D.i2z D.i12.symm D.TOi2.symm e) (s2.to λo e=>up _ o D.l2z D.l2i1 D.l2TO e) U λhd gd sd=>cm ?_);have td:IsPair hd TO x b:=sd.extBut _ _ D.TOi2 T;refine cj (wpAny_seqItems td rfl (cj (wpAny_updateSeq_pair td λhe t S=>cj (wpAny_letGo (cm (cm ?_))))));replace t:IsPair he TO x y:=t;refine cj (wpAny_seqItems t rfl (cj (wpAny_newTuple ?_)));have H:he.objs.size=s.heap.objs.size:=by rw[S.1,sd.1,sc.1,j.1,sa.1]
 have C:IsZip he z TI TO .ellipsis:=S.extBut _ _ D.TOz.symm (sd.extBut _ _ D.i2z.symm (sc.extBut _ _ D.TOz.symm (j.extBut _ _ D.i1z.symm p)));have N:∀c o,c≠z->c≠TO->c≠i1->c≠i2->s.heap.get? c=some o->he.get? c=some o:=λc o f d g r e=>S.extBut _ _ d (sd.extBut _ _ r (up c o f g d e));have ge1:jZ c1 he i1 l1 (n1+1):=((gb.to λo e=>sc.extBut _ _ D.TOi1.symm e).to λo e=>sd.extBut _ _ D.i12 e).to λo e=>S.extBut _ _ D.TOi1.symm e;have B:jZ c2 he i2 l2 (n2+1):=gd.to λo e=>S.extBut _ _ D.TOi2.symm e;have Z:z<he.objs.size:=aM C;show wpAny _ _ (Builtin.SmallTypes.ownedTupleHandOut (.ref z) (.ref he.objs.size) >>= _) _ _ _;refine cj ?_;unfold Builtin.SmallTypes.ownedTupleHandOut;have zf:IsZip (he.push { cls:=.type "tuple",data:=.seq #[x,y] }) z TI TO .ellipsis:=af _ C;refine cj (wpAny_setField_rec zf (by simp) λY n M=>?_);replace n:IsZip Y z TI TO (rawInt he.objs.size):=n
 refine wpAny_setField_rec n (by simp) λl i L=>?_;replace i:IsZip l z TI TO (rawInt he.objs.size):=i
 have fin:∀c o,c≠z->he.get? c=some o->l.get? c=some o:=λc o q e=>L.extBut _ _ q (M.extBut _ _ q (af _ e));have J:IsPair l he.objs.size x y:=L.extBut _ _ (ne_of_gt Z) (M.extBut _ _ (ne_of_gt Z) (aC _ rfl));rw[H]at i J;refine cm ⟨_,rfl,?_⟩;show Q (.ref he.objs.size) _;rw[H];exact hQ l i (fin _ _ D.TIz (N _ _ D.TIz D.TITO D.TIi1 D.TIi2 I)) (fin _ _ D.TOz t) (ge1.to λo e=>fin _ o D.i1z e) (B.to λo e=>fin _ o D.i2z e) J λc o f d g r e=>fin c o f (N c o f d g r e)
def iq {Q:Fin->Shared->Prop}(J:A.handled=none)(D:ZipApart z TI TO i1 i2 l1 l2)(i:IsZip s.heap z TI TO .none)(I:IsPair s.heap TI (.ref i1) (.ref i2))(v:IsPair s.heap TO a b)
  (g1:jZ c1 s.heap i1 l1 n1)(g2:jZ c2 s.heap i2 l2 n2)(s1:yy c1 s.heap l1 xs)(s2:yy c2 s.heap l2 ys)(j:xs[n1]? =none∨ys[n2]? =none)
  (K:∀h' e,(∀c o,c≠z->c≠TO->c≠i1->c≠i2->s.heap.get? c=some o->h'.get? c=some o)->(∃o,h'.get? e=some o/\o.cls=.type "StopIteration")->E (.ref e) { s with heap:=h' }):
  wpAny (model prog w) A (Builtin.«zip.__next__» ⟨[.ref z],[]⟩) Q E s:=by
 show wpAny _ _ (field (.ref z) 2 >>= _) _ _ _;refine cj (wpAny_field i rfl (x:=.bool false) rfl ?_);show wpAny _ _ (field (.ref z) 3 >>= _) _ _ _;refine cj (wpAny_field i rfl (x:=.ref TI) rfl (cj (wpAny_seqItems I rfl ?_)));show wpAny _ _ (Builtin.SmallTypes.ownedTupleIsFree (.ref z) >>= _) _ _ _;refine cj ?_;unfold Builtin.SmallTypes.ownedTupleIsFree;refine cj (wpAny_field i rfl (x:=.none) rfl (cm ?_));simp only[if_true];refine cj (wpAny_rule (cj (wpAny_field i rfl (x:=.ref TO) rfl ?_)));refine cj (wpAny_setField_rec i (by simp) λu Z X=>?_);replace Z:IsZip u z TI TO .ellipsis:=Z
 refine cj ?_;simp only[List.zipIdx_cons,List.zipIdx_nil,forIn_cons,forIn_nil];refine cj (cj (wpAny_onRaise ?_));show wpAny _ _ (Builtin.SmallTypes.nextOf (.ref i1) >>= _) _ _ _;have ga:=g1.to (h':=u) λo e=>X.extBut _ _ D.i1z e;have Y:=s1.to (h':=u) λo e=>X.extBut _ _ D.l1z e;cases p:xs[n1]? with
 |none=>
  refine cj (So J ga Y p λt e S he=>?_);obtain⟨n,h,H⟩:=he;have B:IsZip t z TI TO .ellipsis:=S _ _ D.i1z.symm Z;have f:e≠z:=λq=>by subst q;rw[B]at h;cases h;simp at H
  exact wpAny_setField_rec B (by simp) λr _ U=>K r e (λc o d _ g _ q=>U.extBut _ _ d (S _ _ g (X.extBut _ _ d q))) ⟨n,U.extBut _ _ f h,H⟩
 |some x=>
  have M:ys[n2]? =none:=by
   rcases j with q|q
   ·rw[p]at q;cases q
   ·exact q
  refine cj (Xm ga Y p λt P S=>cm ?_);have T:IsPair t TO a b:=S.extBut _ _ D.TOi1 (X.extBut _ _ D.TOz v);refine cj (wpAny_seqItems T rfl (cj (wpAny_updateSeq_pair T λr N U=>cj (wpAny_letGo (cm ?_)))));refine cj (cj (wpAny_onRaise ?_));show wpAny _ _ (Builtin.SmallTypes.nextOf (.ref i2) >>= _) _ _ _;have up:∀c o,c≠z->c≠i1->c≠TO->s.heap.get? c=some o->r.get? c=some o:=λc o d l g e=>U.extBut _ _ g (S.extBut _ _ l (X.extBut _ _ d e));refine cj (So J (g2.to λo e=>up _ o D.i2z D.i12.symm D.TOi2.symm e) (s2.to λo e=>up _ o D.l2z D.l2i1 D.l2TO e) M λhd e sd he=>?_);obtain⟨n,h,H⟩:=he;have y:IsZip hd z TI TO .ellipsis:=sd _ _ D.i2z.symm (U.extBut _ _ D.TOz.symm (S.extBut _ _ D.i1z.symm Z));have f:e≠z:=λq=>by subst q;rw[y]at h;cases h;simp at H
  exact wpAny_setField_rec y (by simp) λhf _ C=>K hf e (λc o d l g L q=>C.extBut _ _ d (sd _ _ L (up c o d g l q))) ⟨n,C.extBut _ _ f h,H⟩
def ir {Q:Option Value->Shared->Prop}(D:ZipApart z TI TO i1 i2 l1 l2)(d:IsZip s.heap z TI TO .none)(H:IsPair s.heap TI (.ref i1) (.ref i2))(h:IsPair s.heap TO a b)
  (v:jZ c1 s.heap i1 l1 n1)(u:jZ c2 s.heap i2 l2 n2)(t:yy c1 s.heap l1 xs)(S:yy c2 s.heap l2 ys)(p:xs[n1]? =some x)(n:ys[n2]? =some y)
  (r:∀h',IsZip h' z TI TO (rawInt s.heap.objs.size)->IsPair h' TI (.ref i1) (.ref i2)->IsPair h' TO x y->jZ c1 h' i1 l1 (n1+1)->jZ c2 h' i2 l2 (n2+1)->IsPair h' s.heap.objs.size x y->
   (∀c o,c≠z->c≠TO->c≠i1->c≠i2->s.heap.get? c=some o->h'.get? c=some o)->Q (some (.ref s.heap.objs.size)) { s with heap:=h' }):wpAny (model prog w) A (pyNext (.ref z)) Q E s:=by
 have hT:s.TypeIs (.ref z) "zip":=⟨_,d,rfl⟩;unfold pyNext;exact cj (wpAny_attempt (wpAny_callSpecial?_slot (name:=Str.ofString "__next__") hT F.slot_zip_next (wpAny_call_entry F.slot_zip_next hT F.entry_zip_next
  (ip D d H h v u t S p n λh' l j i g f e q=>cm (r h' l j i g f e q)) (F.args_zip_next_1 _))))
def iu {Q:Option Value->Shared->Prop}(i:A.handled=none)(D:ZipApart z TI TO i1 i2 l1 l2)(d:IsZip s.heap z TI TO .none)(I:IsPair s.heap TI (.ref i1) (.ref i2))(H:IsPair s.heap TO a b)
  (r:jZ c1 s.heap i1 l1 n1)(q:jZ c2 s.heap i2 l2 n2)(n:yy c1 s.heap l1 xs)(S:yy c2 s.heap l2 ys)(h:xs[n1]? =none∨ys[n2]? =none)
  (l:∀h',(∀c o,c≠z->c≠TO->c≠i1->c≠i2->s.heap.get? c=some o->h'.get? c=some o)->Q none { s with heap:=h' }):wpAny (model prog w) A (pyNext (.ref z)) Q E s:=by
 have hT:s.TypeIs (.ref z) "zip":=⟨_,d,rfl⟩;unfold pyNext;refine cj (wpAny_attempt (wpAny_callSpecial?_slot (name:=Str.ofString "__next__") hT F.slot_zip_next (wpAny_call_entry F.slot_zip_next hT F.entry_zip_next (iq i D d I H r q n S h λh' e g p=>?_) (F.args_zip_next_1 _))));obtain⟨o,f,j⟩:=p;exact cj (wpAny_isInstance (T := "StopIteration") (b:=true) ⟨o,f,j⟩ isSubtype_stop (cm (l _ g)))
end
abbrev X6 (h:Heap)(c1:Bool)(l:Addr):Heap:=h.push { cls:=.type (JR c1),data:=.fields #[.ref l,.int 0 0] }
abbrev X9 (h:Heap)(c1 c:Bool)(L l:Addr):Heap:=(X6 h c1 L).push { cls:=.type (JR c),data:=.fields #[.ref l,.int 0 0] }
abbrev Vh (h:Heap)(c1 c:Bool)(l L:Addr):Heap:=(X9 h c1 c l L).push { cls:=.type "tuple",data:=.seq #[.ref h.objs.size,.ref (X6 h c1 l).objs.size] }
abbrev Ve (h:Heap)(c1 c:Bool)(L l:Addr):Heap:=(Vh h c1 c L l).push { cls:=.type "tuple",data:=.seq #[.none,.none] }
abbrev Y9 (h:Heap)(c1 c:Bool)(L l:Addr):Heap:=(Ve h c1 c L l).push { cls:=.type "zip",data:=.fields #[.none,.bool false,.bool false,.ref (X9 h c1 c L l).objs.size,.ref (Vh h c1 c L l).objs.size] }
def BD (c1 c:Bool)(l L:Addr)(x y:Array Value):
  Meets (Builtin.«zip.__new__» ⟨[.type "zip",.ref l,.ref L],[]⟩) (λ_ R s=>yy c1 s.heap l x/\yy c s.heap L y/\R (.ok (.ret (.ref (Ve s.heap c1 c l L).objs.size))) { s with heap:=Y9 s.heap c1 c l L }):=
 .of_wp λP w A R s h=>by
  obtain⟨p,g,d,t,a⟩:=s;obtain⟨Q,q,h⟩:=h;have H:=sub_zip;have b:yy c1 (Shared.heap ⟨p,g,d,t,a⟩) l x:=Q;have K:yy c (Shared.heap ⟨p.push { cls:=.type (JR c1),data:=.fields #[.ref l,.int 0 0] },g,d,t,a⟩) L y:=q.to λo e=>af _ e
  wp_walk using MC b,MC K
  exact⟨_,rfl,h⟩
section
variable {prog:Program}{A:Around}{s:Shared}{c1 c2:Bool}{l1 l2:Addr}{xs ys:Array Value}
def AV (i:yy c1 s.heap l1 xs)(S:yy c2 s.heap l2 ys)
  (h:∀h' n,n=s.heap.objs.size->IsZip h' (n+4) (n+2) (n+3) .none->IsPair h' (n+2) (.ref n) (.ref (n+1))->IsPair h' (n+3) .none .none->jZ c1 h' n l1 0->jZ c2 h' (n+1) l2 0->
   (∀c o,s.heap.get? c=some o->h'.get? c=some o)->Q (.ref (n+4)) { s with heap:=h' }):wpAny (model prog w) A (call (.type "zip") [.ref l1,.ref l2]) Q E s:=by
 refine callType_new F.called_zip (by decide) (F.typeCall_zip_2 _ _) (F.newCall_zip_2 _ _) (λobj=>F.args_object_init_3 obj _ _) F.entry_zip_new (BD c1 c2 l1 l2 xs ys) ⟨i,S,?_⟩
 have b:(X6 s.heap c1 l1).objs.size=s.heap.objs.size+1:=bj ..;have a:(X9 s.heap c1 c2 l1 l2).objs.size=s.heap.objs.size+2:=by rw[bj,b]
 have Z:(Vh s.heap c1 c2 l1 l2).objs.size=s.heap.objs.size+3:=by rw[bj,a]
 have d:(Ve s.heap c1 c2 l1 l2).objs.size=s.heap.objs.size+4:=by rw[bj,Z]
 have f:(Y9 s.heap c1 c2 l1 l2).get? (Ve s.heap c1 c2 l1 l2).objs.size=some _:=aC _ rfl;have g:(Y9 s.heap c1 c2 l1 l2).get? (Vh s.heap c1 c2 l1 l2).objs.size=some _:=af _ (aC _ rfl);have y:(Y9 s.heap c1 c2 l1 l2).get? (X9 s.heap c1 c2 l1 l2).objs.size=some _:=af _ (af _ (aC _ rfl));have Y:(Y9 s.heap c1 c2 l1 l2).get? (X6 s.heap c1 l1).objs.size=some _:=af _ (af _ (af _ (aC _ rfl)));have e:(Y9 s.heap c1 c2 l1 l2).get? s.heap.objs.size=some _:=af _ (af _ (af _ (af _ (aC _ rfl))));show _/\_;rw[a,Z,d]at f;rw[b,a]at y;rw[Z]at g;rw[b]at Y;rw[d];exact⟨⟨_,f,rfl⟩,h _ _ rfl f y g (.mk ⟨_,e,rfl,rfl⟩) (.mk ⟨_,Y,rfl,rfl⟩) λc o q=>
  af _ (af _ (af _ (af _ (af _ q))))⟩
end
def RQ (c1 c:Bool)(K:Frag)(p q:Addr):It:=
 ⟨λi H=>∃X Y x y,wy c1 K H p X/\wy c K H q Y/\X[i]? =some x/\Y[i]? =some y,
  λi H v h=>∃t x y,(∀X,wy c1 K H p X->X[i]? =some x)/\(∀Y,wy c K H q Y->Y[i]? =some y)/\H t=none/\v=.ref t/\h=upd H t (.tup [x,y]),
  λi H=>∃X Y,wy c1 K H p X/\wy c K H q Y/\(X[i]? =none∨Y[i]? =none)⟩
def iw {K:Frag}(c1 c2:Bool)(p q z TI TO t r:Addr)(D:ZipApart z TI TO t r p q):
  Turn P w K (.Tuple rk kk q5) (RQ c1 c2 K p q) [z,TI,TO,t,r] z (λi h=>IsZip h z TI TO .none/\IsPair h TI (.ref t) (.ref r)/\(∃a b,IsPair h TO a b)/\jZ c1 h t p i/\jZ c2 h r q i) where
 mem:=by simp
 obj:=λi h st b d=>by
  obtain⟨j,g,⟨N,M,f⟩,g1,g2⟩:=st;simp only[mem_cons,bg,or_false]at d;rcases d with rfl|rfl|rfl|rfl|rfl
  ·exact⟨_,j,λv e=>nomatch e⟩
  ·exact⟨_,g,λv e=>nomatch e⟩
  ·exact⟨_,f,λv e=>nomatch e⟩
  ·obtain⟨o,B,_,hd⟩:=g1.ob;exact⟨o,B,λv e=>by rw[hd]at e;cases e⟩
  ·obtain⟨o,B,_,hd⟩:=g2.ob;exact⟨o,B,λv e=>by rw[hd]at e;cases e⟩
 keep:=λi h h' ⟨j,g,⟨N,M,f⟩,g1,g2⟩ k=>⟨k z (by simp) _ j,k TI (by simp) _ g,⟨N,M,k TO (by simp) _ f⟩,g1.to λo e=>k t (by simp) o e,g2.to λo e=>k r (by simp) o e⟩
 item:=by
  intro X hP hw hK hc i p4 s σ H E I hf st hg;subst hP hw hK;obtain⟨j,g,⟨N,M,f⟩,g1,g2⟩:=st;obtain⟨xs,ys,x,y,h1,h2,ex,ey⟩:=hg;obtain⟨n,r1,u,_⟩:=I.sq h1;obtain⟨l,Z,S,_⟩:=I.sq h2;obtain⟨Q,eu1,Y⟩:=r1.get ex;obtain⟨U,eu2,T⟩:=Z.get ey;refine ir D j g f g1 g2 u S (x:=Q) (y:=U) (by simpa using eu1) (by simpa using eu2) λhh z1 z2 z3 z4 z5 z6 kp=>?_
  refine⟨_,rfl,wpAny_letOwnedTupleGo_zip z1 λhk zk J=>?_⟩;have lt:∀{c o},s.heap.get? c=some o->c≠s.heap.objs.size:=λe=>aO (aM e);have T2:IsPair hk s.heap.objs.size Q U:=J.extBut _ _ (lt j).symm z6;have fre:∀b∈[z,TI,TO,t,r],b≠s.heap.objs.size:=λb d=>by
   simp only[mem_cons,bg,or_false]at d;rcases d with rfl|rfl|rfl|rfl|rfl
   ·exact lt j
   ·exact lt g
   ·exact lt f
   ·obtain⟨o,B,_⟩:=g1.ob;exact lt B
   ·obtain⟨o,B,_⟩:=g2.ob;exact lt B
  refine⟨.ref s.heap.objs.size,upd H s.heap.objs.size (.tup [x,y]),?_,rfl,⟨s.heap.objs.size,x,y,λzs A=>by rw[I.sq_inj A h1];exact ex,λzs A=>by rw[I.sq_inj A h2];exact ey,I.hok.fresh (aq _),rfl,rfl⟩,
   ⟨zk,J.extBut _ _ D.TIz z2,⟨_,_,J.extBut _ _ D.TOz z3⟩,z4.to λo e=>J.extBut _ _ D.i1z e,z5.to λo e=>J.extBut _ _ D.i2z e⟩,λb d=>?_⟩
  ·refine I.spun (fp:=[z,TI,TO,t,r]) (t':=s.toks) (λb o d eo=>?_) hf (aq _) ?_
   ·exact J.extBut _ _ (λe=>d (by simp[e])) (kp b o (λe=>d (by simp[e])) (λe=>d (by simp[e])) (λe=>d (by simp[e])) (λe=>d (by simp[e])) eo)
   ·exact⟨by show 2<=sizeLine;decide,[Q,U],.cons Y (.cons T .nil),_,T2,⟨rfl,rfl⟩,0,rfl⟩
  ·show upd H s.heap.objs.size _ b=none
   rw[qC (fre b d)];exact(hf b d).1
 done:=by
  intro X hP hw hK hc i p4 s σ H E I hf st hg;subst hP hw hK;obtain⟨j,g,⟨N,M,f⟩,g1,g2⟩:=st;obtain⟨xs,ys,h1,h2,L⟩:=hg;obtain⟨n,r1,u,_⟩:=I.sq h1;obtain⟨l,Z,S,_⟩:=I.sq h2;have C:n.toArray[i]? =none∨l.toArray[i]? =none:=by
   rcases L with e|e
   ·exact .inl (by simpa using r1.none_of e)
   ·exact .inr (by simpa using Z.none_of e)
  exact iu (I.ok.hd hc) D j g f g1 g2 u S C λhh kp=>⟨rfl,I.spun0 (fp:=[z,TI,TO,t,r]) (t':=s.toks) (λb o d eo=>kp b o (λe=>d (by simp[e])) (λe=>d (by simp[e])) (λe=>d (by simp[e])) (λe=>d (by simp[e])) eo) hf⟩
 self:=λ_ _ _ _ _ st h=>wpAny_pyIter_zip st.1 h
section
variable {a b:Expr}{m:Ev}
def iy (K:Frag)(t:TA):TI:=λa H R=>t a H λv h=>∃p q c1 c x y,v=[.ref p,.ref q]/\wy c1 K h p x/\wy c K h q y/\R (RQ c1 c K p q) h
def iz {T:TA}(Y:Gl X "zip")(hm:X.mg "zip"=none)(ha:PA X [a,b] T)(P:starEach [a,b] X.env=(false,eval a X.env)::starEach [b] X.env)(U:(backTo p6 (starEach [b] X.env)).any (·.1)=false):
  PI X (.Tuple rk kk q5) (.Call (.Name "zip" p) [a,b] [] p6) (iy X.K T):=by
 intro p4 s σ H R I h;refine Call_ (QA I Y hm boot_zip (PyProof.Rows.callWith_type1 (qf (ha p6 p4 s σ H _ I h) λus s1 ⟨vs,H1,g,N,Q⟩=>?_) P U));obtain⟨p,q,c1,c2,xs,ys,rfl,h1,h2,hR⟩:=Q;obtain⟨u1,u2,rfl,o,r⟩:=N.two;cases o;cases r;obtain⟨w,M,d,_⟩:=g.sq h1;obtain⟨v,J,S,_⟩:=g.sq h2;obtain⟨op,u,_⟩:=d.ob;obtain⟨oq,t,_⟩:=S.ob;have L:p<s1.heap.objs.size:=aM u;have l:q<s1.heap.objs.size:=aM t;refine AV d S λh' n E Z C B A y kp=>wpAny_pyIter_zip Z ?_;rw[<- E]at L l;have ne1:∀(i j:Nat),i≠j->n+i≠n+j:=λi j h e=>h (Nat.add_left_cancel e);have ne2:∀(c:Nat)(i:Nat),c<n->c≠n+i:=λc i h e=>absurd h (by rw[e];exact Nat.not_lt.mpr (le_add_right n i))
 have D:ZipApart (n+4) (n+2) (n+3) (n+0) (n+1) p q:=⟨ne1 2 4 (by decide),ne1 3 4 (by decide),ne1 0 4 (by decide),ne1 1 4 (by decide),ne1 2 3 (by decide),ne1 2 0 (by decide),ne1 2 1 (by decide),ne1 3 0 (by decide),ne1 3 1 (by decide),ne1 0 1 (by decide),
  ne2 p 4 L,ne2 p 3 L,ne2 p 0 L,ne2 p 1 L,ne2 q 4 l,ne2 q 3 l,ne2 q 0 l,ne2 q 1 l⟩
 refine⟨n+4,[n+4,n+2,n+3,n,n+1],_,_,H1,rfl,g.kept (t':=s1.toks) kp,iw c1 c2 p q _ _ _ _ _ D,⟨Z,C,⟨_,_,B⟩,A,y⟩,λc x=>?_,hR⟩;have f:s1.heap.objs.size<=c:=by
  rw[<- E];simp only[mem_cons,bg,or_false]at x;rcases x with rfl|rfl|rfl|rfl|rfl
  ·exact le_add_right _ _
  ·exact le_add_right _ _
  ·exact le_add_right _ _
  ·exact aq _
  ·exact le_add_right _ _
 exact g.fpOk f (g.hok.fresh f)
noncomputable def zip2:Option W->Option W->Option W
 |some x,some y=>some (.tup [x,y])|_,_=>none
def Qg (w a:W)(n:Nat):jM:=⟨λA i=>match zY w A,zY a A with
 |some u,some v=>some (zip2 u[i]? v[i]?)|_,_=>none,n⟩
def iA {K:Frag}{w a:W}{p P:Addr}(q:RV K φ H w (.ref p))(Q:RV K φ H a (.ref P)):Qm K φ H (Qg w a n) (RQ (Jk w) (Jk a) K p P):=λi b C A' M S=>by
 unfold Qg;dsimp only;cases es:zY w A' with
 |none=>exact⟨λ_ z=>(by cases z),λz=>(by cases z)⟩|some U=>
  cases E:zY a A' with
  |none=>exact⟨λ_ z=>(by cases z),λz=>(by cases z)⟩|some vs=>
   dsimp only;obtain⟨I,L,N⟩:=Uu q M S es;obtain⟨J,h,c⟩:=Uu Q M S E;have non:∀{U:List W}{I:List V},zK K b C U I->U[i]? =none->I[i]? =none:=λr e=>by
    rw[List.getElem?_eq_none_iff]at e ⊢;rw[<- r.length];exact e
   cases g:U[i]? with
   |none=>exact⟨λ_ z=>(by cases z),λ_=>⟨I,J,L,h,.inl (non N g)⟩⟩|some x=>
    cases d:vs[i]? with
    |none=>exact⟨λ_ z=>(by cases z),λ_=>⟨I,J,L,h,.inr (non c d)⟩⟩|some y=>
     refine⟨λu z=>?_,λz=>(by cases z)⟩
     cases z;obtain⟨j,f1,f2⟩:=N.get g;obtain⟨v,f,f4⟩:=c.get d;refine⟨⟨I,J,j,v,L,h,f1,f⟩,λX H1 ⟨t,D,Y,o,l,ht,ex,A⟩=>?_⟩;subst ex A;have Z:=o I L;have T:=l J h;rw[f1]at Z;cases Z;rw[f]at T;cases T;obtain⟨a1,a2,B⟩:=Z7 S ht (.cons f2 (.one f4));exact⟨a1,a2,B⟩
def Zi (m M:Ev):Ei:=λc A=>(m c A).bind λw d=>(M c d).bind λa b=>match zY w b,zY a b with
 |some u,some _=>.ok (Qg w a u.length) b|_,_=>.bad
variable {K:Frag}{c:Expr}
noncomputable def Ka:Ev:=λ_ A=>.ok (.ref A.length) (A++[.dct []])
noncomputable def Vk:W->Option Key
 |.int i=>some (.inl i)|_=>none
noncomputable def kq (k:Key):List (Key×W)->Option W
 |[]=>none|(j,w)::r=>if j=k then some w else kq k r
theorem UE (k:Key):∀{g:List (Key×W)}{u:List (Key×V)},u.map (·.1)=g.map (·.1)->zK K φ H (g.map (·.2)) (u.map (·.2))->
  (∀w,kq k g=some w->∃v,kU u k=some v/\RV K φ H w v)/\(kq k g=none->kU u k=none)
 |[],[],_,_=>⟨λw h=>(by cases h),λ_=>rfl⟩|[],_::_,h,_=>by simp at h|_::_,[],h,_=>by simp at h|(j,w)::g,(J,v)::u,h,r=>by
  simp only[aR,List.cons.injEq]at h;obtain⟨d,f,e,q,o⟩:=r;simp only[aR,List.cons.injEq]at e;obtain⟨rfl,rfl⟩:=e;have i:=UE k h.2 o;have b:J=j:=h.1;subst b
  by_cases a:J=k
  ·refine⟨λc l=>⟨v,GZ a,?_⟩,λn=>?_⟩
   ·unfold kq at l;rw[ah a]at l;cases l;exact q
   ·unfold kq at n;rw[ah a]at n;cases n
  ·unfold kq
   rw[aj a,G7 (p:=(J,v)) a];exact i
theorem zX.dct {A:Hx}{kvs:List (Key×W)}(S:zX K φ A H)(q:RV K φ H (.ref n) v)(e:A[n]? =some (.dct kvs)):∃p us,v=.ref p/\φ[n]? =some p/\H p=some (.dK us)/\us.map (·.1)=kvs.map (·.1)/\zK K φ H (kvs.map (·.2)) (us.map (·.2)):=by
 obtain⟨p,rfl,d⟩:=q;obtain⟨P,c,us,b,a,h⟩:=S.ob n _ e;rw[d]at c;cases c;exact⟨p,us,rfl,d,b,a,h⟩
def XI:W->W->Hx->R W:=λd k A=>match d,Vk k with
 |.ref n,some k=>match A[n]? with
  |some (.dct kvs)=>match kq k kvs with
   |some w=>.ok w A|none=>.bad
  |_=>.bad
 |_,_=>.bad
def iB:V->List V->Hp->VK->Prop:=λx a H Q=>∃p u k d,x=.ref p/\a=[kV k,d]/\H p=some (.dK u)/\u.length<sizeLine/\(∀v,kU u k=some v->Q v H)/\(kU u k=none->Q d (upd H p (.dK (putK u k d))))
def BF:Kj X "dict.setdefault" iB:=by
 intro P s S H x T v Y Q I g i h;obtain⟨p,K,k,d,rfl,rfl,f,A,n,l⟩:=h;cases g;obtain⟨U,u,rfl,j,c⟩:=i.two;obtain⟨z,C,J,B,E⟩:=Iz I.hok f;refine call_meetsIn PySem.F.slot_dict_setdefault E.typeIs PySem.F.entry_dict_setdefault (PySem.F.args_dict_setdefault_3 _ _ _) (kt_meets_setdefault (kP X.prog X.w) p (Sy j) C u) ⟨J,E,by rw[<- B.length];exact z,λv o=>?_,λL N D t=>?_⟩
 ·have r:=B.val k
  rw[o]at r;cases e:kU K k with
  |none=>rw[e]at r;exact r.elim|some a=>rw[e]at r;exact⟨a,H,I.tok _,r,n a e⟩
 ·have r:=B.val k
  rw[L]at r;cases e:kU K k with
  |some a=>rw[e]at r;exact r.elim|none=>
   have b:(putK K k d).length<=sizeLine:=by have:=Cn K k d;omega
   have M:∃q,N.get? p=some q:=let ⟨q,_,_,y,_⟩:=D;⟨q,y⟩
   exact⟨d,_,eU I (by rw[f];exact True.intro) t M (eV b C (B.put k c) D),c,l e⟩
noncomputable def Vn (x:W)(A:Hx):Bool:=match x with
 |.ref n=>match A[n]? with
  |some (.dct _)=>true|_=>false
 |_=>false
def Qv:W->W->W->Hx->R W:=λd k v A=>match d,Vk k with
 |.ref n,some k=>match A[n]? with
  |some (.dct kvs)=>if kvs.length<qj then(match kq k kvs with
   |some w=>.ok w A|none=>.ok v (A.set n (.dct (kvs++[(k,v)])))) else .bad
  |_=>.bad
 |_,_=>.bad
def YY (g:W->W->W->Hx->R W)(a b c:Ev):Ev:=λe A=>(a e A).bind λx f=>if Vn x f then(b e f).bind λy h=>(c e h).bind λz d=>g x y z d else .bad
def AY {A:Hx}{w:W}(S:zX K φ A H)(q:RV K φ H w v)(e:Vn w A=true):Vy K "dict" v H:=by
 unfold Vn at e;cases w with
 |ref n=>
  dsimp only at e;cases E:A[n]? with
  |none=>rw[E]at e;cases e|some o=>cases o with
   |dct a=>obtain⟨p,u,rfl,_,h,_⟩:=S.dct q E;exact .inr (.inr (.inl ⟨rfl,.inl ⟨u,h⟩⟩))|_=>rw[E]at e;cases e
 |_=>cases e
end
def Rx (d:Addr)(o:Obj)(u:List (Key×V)):It:=
 ⟨λi H=>H d=some (.frz o (.dK u))/\i<u.length,λi H x h=>∃t p,u[i]? =some p/\H t=none/\x=.ref t/\h=upd H t (.tup [kV p.1,p.2]),λi H=>H d=some (.frz o (.dK u))/\u[i]? =none⟩
def iC {k:Key}(h:(kP P w).is k u=true):RelV (kV k) u:=by
 rw[CA]at h;rcases Z1 h with ⟨i,t,rfl,rfl⟩|⟨x,t,rfl,rfl⟩
 ·exact⟨t,rfl⟩
 ·exact⟨t,rfl⟩
theorem KV.at:∀{U:List (Key×V)}{v:List (Key×Value)}{i:Nat}{p:Key×V},KV U v->U[i]? =some p->∃u,v[i]? =some (p.1,u)/\RelV p.2 u
 |[],_,_,_,_,e=>by simp at e|q::U,_,0,p,.cons (b:=b) r t,e=>by
  simp at e;subst e;exact⟨b.2,by simp only[List.getElem?_cons_zero];rw[r.1],r.2⟩
 |q::U,_,i+1,p,.cons r t,e=>by
  obtain⟨u,H,h⟩:=KV.at (i:=i) (p:=p) t (by simpa using e)
  exact⟨u,by simpa using H,h⟩
section
variable {s:Shared}
def _root_.L2.Inv.frzD {d:Addr}{o:Obj}{u:List (Key×V)}{f:Nat}(I:Inv X p4 σ H s)(h:H d=some (.frz o (.dK u)))(p:∃E,o.data=.dict E f):∃vs,KV u vs/\s.heap.DictAt (kP X.prog X.w) d vs f:=by
 obtain⟨a,z,x,vs,l,D⟩:=I.hok d _ h;obtain⟨g,v,e,n,t,c,r⟩:=D.dictAt;rw[a]at n;cases n;obtain⟨E,q⟩:=p;have b:=c;rw[q]at b;injection b with j i
 subst i;exact⟨vs,l,o,e,a,t,c,r⟩
end
def iD:entryFor table "dict_itemiterator.__iter__"=some Builtin.«dict_keyiterator.__iter__»:=entryFor_alias (id' := "dict_keyiterator.__iter__") (by kernel_rfl)
 (by first|rfl|decide +kernel|(unfold String.splitOn;simp +decide [String.splitOnAux])) (by decide +kernel) (by kernel_rfl)
def CK {K:Frag}(d it:Addr)(o:Obj)(us:List (Key×V))(l:Nat)(j:∃T,o.data=.dict T l):
  Turn P w K (.Tuple rk kk q5) (Rx d o us) [it] it (λi h=>∃ok a,IsItemIter h it d i us.length l ok a) where
 mem:=by simp
 obj:=λi h ⟨ok,a,Y⟩ b c=>by
  rw[cz.mp c];exact⟨_,Y,λv e=>nomatch e⟩
 keep:=λi h h' ⟨ok,a,Y⟩ k=>⟨ok,a,k it (by simp) _ Y⟩
 item:=by
  intro X r hw t B i p4 s σ H E I hf Y n;subst r hw t;obtain⟨ok,a,Y⟩:=Y;obtain⟨hd,g⟩:=n;obtain⟨vs,Z,D⟩:=I.frzD hd j;obtain⟨u,L,C⟩:=KV.at Z (i:=i) (p:=us[i]) (by simp[g])
  have S:IsItemIter s.heap it d i vs.length l ok a:=by rw[<- Z.length];exact Y
  refine wpAny_pyNext_items_item S D L λkey h1 y N hT M kp=>⟨_,rfl,wpAny_letOwnedTupleGo_items N λh2 q f=>?_⟩;have lt:it<s.heap.objs.size:=aM Y;have U:h2.get? s.heap.objs.size=some { cls:=.type "tuple",data:=.seq #[key,u] }:=f.extBut _ _ (ne_of_gt lt) hT;refine⟨.ref s.heap.objs.size,upd H s.heap.objs.size (.tup [kV us[i].1,us[i].2]),?_,rfl,⟨s.heap.objs.size,us[i],by simp[g],I.hok.fresh (aq _),rfl,rfl⟩,⟨_,_,by rw[Z.length];exact q⟩,λb c=>?_⟩
  ·refine I.spun (fp:=[it]) (t':=s.toks) (λb ob c x=>?_) hf (aq _) ?_
   ·exact f.extBut _ _ (λz=>c (by simp[z])) (kp b ob (λz=>c (by simp[z])) x)
   ·exact⟨by show 2<=sizeLine;decide,[key,u],.cons (iC y) (.cons C .nil),_,U,⟨rfl,rfl⟩,0,rfl⟩
  ·show upd H s.heap.objs.size _ b=none
   have bn:b≠s.heap.objs.size:=λz=>by rw[cz.mp c]at z;exact absurd lt (by rw[z];exact aT _)
   rw[qC bn];exact(hf b c).1
 done:=by
  intro X r hw t B i p4 s σ H E I hf Y n;subst r hw t;obtain⟨ok,a,Y⟩:=Y;obtain⟨hd,g⟩:=n;obtain⟨vs,Z,D⟩:=I.frzD hd j;have S:IsItemIter s.heap it d i vs.length l ok a:=by rw[<- Z.length];exact Y
  have hn:vs[i]? =none:=by
   rw[List.getElem?_eq_none_iff]at g ⊢;rw[<- Z.length];exact g
  exact wpAny_pyNext_items_end (I.ok.hd B) S D hn λh1 J=>⟨rfl,I.spun0 (fp:=[it]) (t':=s.toks) (λb ob c x=>J b ob (λz=>c (by simp[z])) x) hf⟩
 self:=λA i s Q E ⟨ok,a,Y⟩ h=>by
  have hT:s.TypeIs (.ref it) "dict_itemiterator":=⟨_,Y,rfl⟩;refine wpAny_pyIter_slot hT F.slot_dict_itemiterator_iter (wpAny_call_entry F.slot_dict_itemiterator_iter hT iD ?_ (F.args_dict_itemiterator_iter_1 _));show wpAny _ _ (ret (.ref it)) _ _ s;exact cm ⟨_,rfl,"dict_itemiterator",_,hT,F.slot_dict_itemiterator_next.lookup,h⟩
section
variable {a b:Expr}{m:Ev}
def iE (td:TE):TI:=λa H R=>td a H λx h=>∃d u,x=.ref d/\h d=some (.dK u)/\∀o,R (Rx d o u) (upd h d (.frz o (.dK u)))
def iF {td:TE}(y:PE X a td)(i:attributeBase a "items" X.env (eval a X.env)=eval a X.env)(g:(rb.endLine==p7.line)=true):
  PI X (.Tuple rk kk q5) (.Call (.Attribute a "items" rb) [] [] p7) (iE td):=by
 intro P s L H R I h;refine wpAny_Call_method0_late i g (qf (y P s L H _ I h) λv S ⟨x,Q,n,u,d,U,T,N,q⟩=>?_);subst T;cases u;obtain⟨z,f,M,C,K⟩:=Iz n.hok N;obtain⟨o,l,p,c,J,t,r⟩:=id K;refine⟨"dict","dict.items",PySem.F.plainAttrs_dict,PySem.F.slot_dict_items,PySem.F.type_dict_items,K.typeIs,λb E=>by cases E;exact⟨o,c,J.2.1⟩,Calls.callWith_builtin rfl (PySem.evalArgs_none ?_)⟩
 refine call_meetsIn PySem.F.slot_dict_items K.typeIs PySem.F.entry_dict_items (PySem.F.args_dict_items_1 _) (meets_dict_items (kP X.prog X.w) d f) ⟨⟨M,K⟩,?_⟩;have B:Inv X P L (upd Q d (.frz o (.dK U))) { S with heap:=S.heap,toks:=S.toks }:=n.write (x:=d) (e:=d) (o:=.frz o (.dK U)) (t':=S.toks) (h':=S.heap) (by rw[N];exact True.intro) (.inl rfl) (λ_ _ _ q=>q) ⟨o,c⟩ ⟨c,z,f,M,C,K⟩
 have j:Inv X P L (upd Q d (.frz o (.dK U))) { S with heap:=S.heap.push { cls:=.type "dict_items",data:=.fields #[.ref d] } }:=B.kept (t':=S.toks) λb ob q=>af _ q
 have D:(S.heap.push { cls:=.type "dict_items",data:=.fields #[.ref d] }).DictAt (kP X.prog X.w) d M p:=⟨o,l,af _ c,J,t,r⟩;refine wpAny_pyIter_items (s:={ S with heap:=S.heap.push { cls:=.type "dict_items",data:=.fields #[.ref d] } }) ⟨_,aC _ rfl,rfl,rfl⟩ D ?_
 refine⟨_,[_],_,_,_,rfl,j.kept (t':=S.toks) λb ob q=>af _ q,CK d _ o U p ⟨l,t⟩,⟨.none,.none,?_⟩,λb A=>?_,q o⟩
 ·rw[C.length];exact aC _ rfl
 ·have E:=cz.mp A
  subst E;exact j.fpOk (aq _) (j.hok.fresh (aq _))
noncomputable def kW:Key->W
 |.inl i=>.int i|.inr x=>.str x
def Ki (K:List (Key×W)):jM:=⟨λ_ i=>some (K[i]?.map λp=>.tup [kW p.1,p.2]),K.length⟩
def Wn (m:Ev):Ei:=λa A=>match A with
 |[]=>(m a []).bind λw b=>match w,b with
  |.ref 0,[.dct kvs]=>if jk (kvs.map (·.2)) then .ok (Ki kvs) [] else .bad|_,_=>.bad
 |_=>.bad
def iG {K:Frag}{d:Addr}{o:Obj}{U:List (Key×V)}{D:List (Key×W)}(P:H d=some (.frz o (.dK U)))(c:U.map (·.1)=D.map (·.1))(y:zK K φ H (D.map (·.2)) (U.map (·.2)))(n:jk (D.map (·.2))=true):
  Qm K φ H (Ki D) (Rx d o U):=λi a f Y L S=>by
 unfold Ki;dsimp only;have h:=L.fz d o _ P;have E:zK K a f (D.map (·.2)) (U.map (·.2)):=y.nrm L.tp L.fz n;have l:U.length=D.length:=by have:=congrArg List.length c;simpa using this
 cases e:D[i]? with
 |none=>
  refine⟨λ_ z=>(by cases z),λ_=>⟨h,?_⟩⟩
  rw[List.getElem?_eq_none_iff]at e ⊢;rw[l];exact e
 |some p=>
  have g:i<D.length:=(cw.mp e).1;refine⟨λu z=>?_,λz=>(by cases z)⟩
  cases z;refine⟨⟨h,by rw[l];exact g⟩,λx X ⟨t,q,b,N,T,w⟩=>?_⟩
  subst T w;have M:q.1=p.1:=by
   have I:(U.map (·.1))[i]? =some q.1:=by simp[b]
   rw[c]at I;simp[e]at I;exact I.symm
  have a2:(D.map (·.2))[i]? =some p.2:=by simp[e]
  obtain⟨v,J,Q⟩:=E.get a2;have j:v=q.2:=by simp[b]at J;exact J.symm
  subst j;rw[M];have r:RV K a f (kW p.1) (kV p.1):=by cases p.1<;>rfl
  obtain⟨C,A,B⟩:=Z7 S N (.cons r (.one Q));exact⟨C,A,B⟩
end
mutual
noncomputable def W.beq:W->W->Bool
 |.non,.non=>true|.bl a,.bl b=>a==b|.int a,.int b=>decide (a=b)|.str a,.str b=>decide (a=b)|.tup a,.tup b=>WQ a b|_,_=>false
noncomputable def WQ:List W->List W->Bool
 |[],[]=>true|a::as,b::bs=>a.beq b&&WQ as bs|_,_=>false
end
mutual
theorem W.eq_of:∀{a b:W},a.beq b=true->a=b
 |.non,.non,_=>rfl|.bl a,.bl b,h=>by have H:(a==b)=true:=h;rw[aL]at H;rw[H]|.int a,.int b,h=>by have H:decide (a=b)=true:=h;rw[ao]at H;rw[H]|.str a,.str b,h=>by have H:decide (a=b)=true:=h;rw[ao]at H;rw[H]|.tup a,.tup b,h=>by have H:WQ a b=true:=h;rw[Ly H]|.non,.bl _,h=>nomatch h|.non,.int _,h=>nomatch h|.non,.str _,h=>nomatch h|.non,.tup _,h=>nomatch h|.non,.ref _,h=>nomatch h
 |.bl _,.non,h=>nomatch h|.bl _,.int _,h=>nomatch h|.bl _,.str _,h=>nomatch h|.bl _,.tup _,h=>nomatch h|.bl _,.ref _,h=>nomatch h
 |.int _,.non,h=>nomatch h|.int _,.bl _,h=>nomatch h|.int _,.str _,h=>nomatch h|.int _,.tup _,h=>nomatch h|.int _,.ref _,h=>nomatch h
 |.str _,.non,h=>nomatch h|.str _,.bl _,h=>nomatch h|.str _,.int _,h=>nomatch h|.str _,.tup _,h=>nomatch h|.str _,.ref _,h=>nomatch h
 |.tup _,.non,h=>nomatch h|.tup _,.bl _,h=>nomatch h|.tup _,.int _,h=>nomatch h|.tup _,.str _,h=>nomatch h|.tup _,.ref _,h=>nomatch h
 |.ref _,.non,h=>nomatch h|.ref _,.bl _,h=>nomatch h|.ref _,.int _,h=>nomatch h|.ref _,.str _,h=>nomatch h|.ref _,.tup _,h=>nomatch h|.ref _,.ref _,h=>nomatch h
theorem Ly:∀{a b:List W},WQ a b=true->a=b
 |[],[],_=>rfl|a::as,b::bs,h=>by
  have H:(a.beq b&&WQ as bs)=true:=h;rw[ak]at H;rw[W.eq_of H.1,Ly H.2]
 |[],_::_,h=>nomatch h
 |_::_,[],h=>nomatch h
end
section
variable {K:Frag}
def FD (K:Frag)(x:Str)(S:Stmt):Prop:=∃f d,we K x x S f d/\nsIn K mainGlobals x=some (some (.ref f))
def zfU {S:Stmt}{b:Value}{o A:cf}{kV d p C ct:Value}(a:nsIn K mainGlobals x=some (some (.ref f)))
  (l:K.lookup f=some ⟨b,o,.func (fnOf x x (Z4 S) (yY S) (qi S) .none kV d p A C ct),rp⟩)(c:codeIn K C x=true)(k:keepIn K (.ref f)=true):FD K x S:=⟨f,_,eS l c k,a⟩
def CD (K:Frag)(x:Str)(i:Int):Prop:=∃t,nsIn K mainGlobals x=some (some (.int i t))
def zf6 {i:Int}{t:Tok}(a:nsIn K mainGlobals x=some (some (.int i t))):CD K x i:=⟨t,a⟩
end
open PySem PySem.Spec PyProof.Rows L2 Mi
@[irreducible] noncomputable def zF (X:Cx)(x:XR)(e:Expr)(m:Ev):Prop:=Mi.SE X x e m
def Xv:@zF=@Mi.SE:=by
 funext X xr e m
 unfold zF
 rfl
@[irreducible] noncomputable def gu (X:Cx)(x:XR)(e:bZ)(m:Ea):Prop:=Mi.SA X x e m
def T3:@gu=@Mi.SA:=by
 funext X xr es m
 unfold gu
 rfl
@[irreducible] noncomputable def kg (X:Cx)(x:XR)(e:Expr)(m:Ev):Prop:=Mi.ST X x e m
def Sj:@kg=@Mi.ST:=by
 funext X xr e m
 unfold kg
 rfl
@[irreducible] noncomputable def Zp (X:Cx)(x:XR)(e:Expr)(m:Ev):Prop:=Mi.SW X x e m
def TM:@Zp=@Mi.SW:=by
 funext X xr e m
 unfold Zp
 rfl
@[irreducible] noncomputable def kN (X:Cx)(x:XR)(S:Stmt)(m:Ex):Prop:=Mi.SS X x S m
def TU:@kN=@Mi.SS:=by
 funext X xr st m
 unfold kN
 rfl
@[irreducible] noncomputable def kK (X:Cx)(x:XR)(S:cg)(m:Ex):Prop:=Mi.Yc X x S m
def Td:@kK=@Mi.Yc:=by
 funext X xr st m
 unfold kK
 rfl
@[irreducible] noncomputable def wb (X:Cx)(x:XR)(t e:Expr)(m:Ei):Prop:=Mi.SI X x t e m
def TZ:@wb=@Mi.SI:=by
 funext X xr tg e m
 unfold wb
 rfl
@[irreducible] noncomputable def wM (X:Cx)(t:Expr)(m:Tg):Prop:=Mi.SG X t m
def Sn:@wM=@Mi.SG:=by
 funext X tg m
 unfold wM
 rfl
@[irreducible] noncomputable def Qn (X:Cx)(x:XR)(e:Expr)(m:j6):Prop:=Mi.SF X x e m
def Sg:@Qn=@Mi.SF:=by
 funext X xr e m
 unfold Qn
 rfl
@[irreducible] noncomputable def gr (X:Cx)(x:XR)(e:Expr)(m:j6):Prop:=Mi.SQ X x e m
def T6:@gr=@Mi.SQ:=by
 funext X xr e m
 unfold gr
 rfl
@[irreducible] noncomputable def Zd (X:Cx)(e:bZ)(m:Ev):Prop:=Mi.Gd X e m
def U8:@Zd=@Mi.Gd:=by
 funext X es m
 unfold Zd
 rfl
@[irreducible] noncomputable def gR (X:Cx)(e:Expr)(g:List Comprehension)(S:Scope)(c:Pos)(d:Nat)(E:Em):Prop:=Mi.SM X e g S c d E
def Sk:@gR=@Mi.SM:=by
 funext X rd gens sc p7 d em
 unfold gR
 rfl
section
variable {xr:XR}{K:Frag}{a b c:Expr}{es:bZ}{m ma mb mc:Ev}{m1 m2:Ex}{st:Stmt}{rh:cg}
def qo:@zF=@Mi.SE/\@gu=@Mi.SA/\@kg=@Mi.ST/\@Zp=@Mi.SW/\@kN=@Mi.SS/\@kK=@Mi.Yc/\@wb=@Mi.SI/\@wM=@Mi.SG/\@Qn=@Mi.SF/\@gr=@Mi.SQ/\@Zd=@Mi.Gd/\@gR=@Mi.SM:=⟨Xv,T3,Sj,TM,TU,Td,TZ,Sn,Sg,T6,U8,Sk⟩
def zm {M:Ea}(a:zF X xr e ma)(H:gu X xr es M)(h:starEach (e::es) X.env=(false,eval e X.env)::starEach es X.env:=by rfl):gu X xr (e::es) (zc ma M):=by
 try simp only[qo]at*
 exact Mi.M7 a H h
def zx:gu X xr [] zj:=by
 try simp only[qo]at*
 exact Mi.LD
def jc (H:zF X xr a ma)(h:zF X xr b mb):zF X xr (.BinOp a .Add b p6) (zi qk ma mb):=by
 try simp only[qo]at*
 exact ZI (dF.or (eA.or (Ak.or eO))) fZ f6 H h
def YJ {q:j6}(H:X.calm=true)(b:X.mg "all"=none)(a:gr X xr e q)(h:Gl X "all":=by rfl)(c:starEach [e] X.env=(false,eval e X.env)::starEach [] X.env:=by rfl):
  zF X xr (.Call (.Name "all" p) [e] [] p6) (mQ ZM q):=by
 try simp only[qo]at*
 exact WK (fV H) LQ Ms b (by rfl) a h (by decide) (by decide) c (by rfl)
def ZE {r:bZ}(f:zF X xr a ma)(e:zF X xr (.BoolOp .And (b::r) p6) mb):zF X xr (.BoolOp .And (a::b::r) p6) (jY ma mb):=by
 try simp only[qo]at*
 exact PE.imp (cW f e) λt H Q ⟨p,A,j,S,i,h⟩=>by
   refine tM.go S i (qm.mp h) λw o c n v g l d q=>?_;cases w with
   |bl k=>
    refine⟨k,q,?_⟩;cases k with
    |true=>rw[ah rfl];exact⟨c,o,j,d,i.mono l,qL g (λ_ _ z=>z.mono l) λ_ _ z=>z.mono l⟩|false=>rw[aj aF];exact g c n _ l d rfl
   |non=>cases g|int _=>cases g|str _=>cases g|tup _=>cases g|ref _=>cases g|clo _ _ _=>cases g|xc _=>cases g|fn _=>cases g
def iH {q:j6}(H:X.calm=true)(b:X.mg "any"=none)(a:gr X xr e q)(h:Gl X "any":=by rfl)(c:starEach [e] X.env=(false,eval e X.env)::starEach [] X.env:=by rfl):
  zF X xr (.Call (.Name "any" p) [e] [] p6) (mQ Kd q):=by
 try simp only[qo]at*
 exact WK (An H) LQ Ms b (by rfl) a h (by decide) (by decide) c (by rfl)
def yq {i j}:zF X xr (.Constant (.bool i) j p6) (zV (.bl i)):=by
 try simp only[qo]at*
 exact PE.imp cK λb H Q ⟨a,A,c,S,r,h⟩=>h a H _ .refl S rfl
def wq {g:W->W->Hx->R W}(h:w9 X op g)(c:zF X xr a ma)(H:zF X xr b mb)(e:op≠.In:=by decide)(d:op≠.NotIn:=by decide):zF X xr (.Compare a [op] [b] p6) (zi g ma mb):=by
 try simp only[qo]at*
 exact let ⟨r,f,a2,A⟩:=h.ex;LG f a2 A c H (h.mks b e d)
def iI {o:CmpOp}{g l:W->W->Hx->R W}(h:w9 X op g)(p:w9 X o l)(e:zF X xr a ma)(d:zF X xr b mb)(H:zF X xr c mc)(n:lastMarks [op,o] [b,c]=false:=by with_unfolding_all rfl):
  zF X xr (.Compare a [op,o] [b,c] p6) (wJ g l ma mb mc):=by
 try simp only[qo]at*
 exact let ⟨r,q,a2,A⟩:=h.ex;let ⟨j,i,f,B⟩:=p.ex;fE q a2 A i f B e d H n
def qb {k:Nat}{f:Fn}{M:Ea}(F:zO X.prog X.w X.K X.mg X.base k x n f)(r:jF k X.A)(t:gu X yQ (e::es) M)(g:ZQ M n:=by repeat' (first|exact zR|refine zA ?_))(j:Gl X x:=by rfl)
  (c:(x==("__debug__":Str))=false:=by decide)(Y:starEach (e::es) X.env=(false,eval e X.env)::starEach es X.env:=by rfl)(l:(backTo p6 (starEach es X.env)).any (·.1)=false:=by rfl):
  zF X yQ (.Call (.Name x p) (e::es) [] p6) (zC f M):=by
 try simp only[qo]at*
 obtain⟨fa,fd,ps,F,U,i,o⟩:=F;refine PE.imp (M1 F r j U i o .nil eR t c Y l) λZ H Q ⟨N,A,D,S,T,h⟩=>?_;have C:=qm.mp h;refine⟨N,A,D,S,T,?_⟩;cases E:M D A with
 |ok J I=>
  rw[E]at C;intro b H1 P L y q;have v:P.length=n:=by rw[<- q.length];exact g D A J I E
  rw[a3];exact⟨v,b,I,J,y,q,qL C (λ_ _ z=>z.mono L) λx A2 z a B d u=>(z a B (L.trans d) u).elim⟩
 |exc x I=>rw[E]at C;exact C|bad=>rw[E]at C;exact C
def iJ {g:W->W->Hx->R W}(h:Hz X op g)(c:zF X xr a ma)(H:zF X xr b mb)(d:behindInMarks op b=false:=by rfl):zF X xr (.Compare a [op] [b] p6) (zi g ma mb):=by
 try simp only[qo]at*
 exact let ⟨r,e,a2,A⟩:=h.ex;LG e a2 A c H d
def NA (t:zF X xr a ma)(P:zF X xr b mb)(g:starEach [b] X.env=(false,eval b X.env)::starEach [] X.env:=by rfl)
  (c:attributeBase a "count" X.env (eval a X.env)=eval a X.env:=by rfl)
  (d:((backTo p7 (starEach [b] X.env)).all (λx=>!x.1)&&(backToKw p7 (keywordEach [] X.env)).all (λx=>x.1.isSome)
   && decide ([b].length+([]:cc).length+(if ([]:cc).isEmpty then 0 else 1)<30))=true:=by rfl)(e:(rb.endLine==p7.line)=true:=by rfl):
  zF X xr (.Call (.Attribute a "count" rb) [b] [] p7) (Ws Y1 ma mb):=by
 try simp only[qo]at*
 exact PE.imp (h9 PySem.F.slot_tuple_count PySem.F.type_tuple_count hZ t (jE P yw g) c d e g (by rfl)) λY H Q ⟨U,A,Z,S,J,h⟩=>by
   refine tM.go S J (qm.mp h) λw A1 i H1 v K L y n=>?_;cases w with
   |tup M=>
    obtain⟨p,E,rfl,T,r⟩:=n;refine⟨p,E,rfl,T,?_⟩;refine tM.go y (J.mono L) (qL (qm.mp K) (λ_ _ z=>z) λ_ _ z=>z.mono L) λj A2 f B N C l u q=>?_;unfold Y1 at C;dsimp only at C
    by_cases D:(yK j&&M.all yK)=true
    ·rw[ah D]at C
     rw[ak]at D;obtain⟨o,I⟩:=Ur q D.1 (r.mono l) D.2;refine⟨p,E,N,rfl,rfl,l.tp _ _ T,K8 q D.1,o,?_⟩;rw[I];rw[Xk]at C;exact C f B _ (L.trans l) u (by simp[RV])
    ·rw[aj D]at C;exact C.elim
   |_=>exact K.elim
def Tq:zF X xr (.Dict [] [] p6) Ka:=by
 try simp only[qo]at*
 exact PE.imp Al λd H Q ⟨c,A,e,S,r,h⟩ p a=>by
  obtain⟨l,b⟩:=S.alloc (o:=.dct []) a (u:=.dK []) ⟨[],j9,rfl,.nil⟩;exact h _ _ _ l b ⟨p,rfl,by rw[<- S.len];simp⟩
def BI {k:Nat}(x:jF k X.A)(B:zF X xr a ma)(y:zF X xr b mb)(u:Rn b:=by intro _ _;rfl):zF X xr (.Subscript a b p6) (zi XI ma mb):=by
 try simp only[qo]at*
 exact PE.imp (eY (eT x) B y u) λZ H Q ⟨Y,A,ρ,S,J,h⟩=>by
   refine tM.go S J (qm.mp h) λw A1 f H1 v M l C j=>?_;refine tM.go C (J.mono l) (qL (qm.mp M) (λ_ _ z=>z) λ_ _ z=>z.mono l) λg U c D v2 I L d q=>?_;unfold XI at I;cases w with
   |ref n=>
    cases g with
    |int i=>
     obtain rfl:=q;dsimp only[Vk]at I;cases e:U[n]? with
     |none=>rw[e]at I;exact I.elim|some o=>cases o with
      |dct K=>
       rw[e]at I;dsimp only at I;obtain⟨p,us,rfl,f1,T,P,N⟩:=d.dct (j.mono L) e;cases E:kq (.inl i) K with
       |none=>rw[E]at I;exact I.elim|some w=>
        rw[E]at I;obtain⟨v,t,r⟩:=(UE (.inl i) P N).1 w E;refine⟨p,v,rfl,?_,I c D v (l.trans L) d r⟩;rw[<- t];exact Kg.k (k:=.inl i) T
      |_=>rw[e]at I;exact I.elim
    |_=>exact I.elim
   |_=>exact I.elim
def AZ {i:Int}{t:Tok}(g:Gl X x)(b:X.mg x=some (.int i t))(d:(x==("__debug__":Str))=false:=by decide):zF X xr (.Name x p6) (zV (.int i)):=by
 try simp only[qo]at*
 exact PE.imp (Mp g b (v:=.int i) ⟨t,rfl⟩ d) λc H Q ⟨a,A,e,S,r,h⟩=>h a H _ .refl S rfl
def iK {c:Expr}(f:kg X xr c mc)(i:zF X xr a ma)(g:zF X xr b mb):zF X xr (.IfExp c a b p6) (HL mc ma mb):=by
 try simp only[qo]at*
 exact PE.imp (cZ f i g) λq H Q ⟨p,A,n,S,r,h⟩=>by
   refine tT.go S r (qm.mp h) λw o j=>?_;cases w with
   |bl k=>
    refine⟨k,rfl,λd t l e=>?_⟩;cases k with
    |true=>rw[ah rfl];exact⟨d,o,n,e,r.mono l,qL j (λ_ _ z=>z.mono l) λ_ _ z=>z.mono l⟩|false=>rw[aj aF];exact⟨d,o,n,e,r.mono l,qL j (λ_ _ z=>z.mono l) λ_ _ z=>z.mono l⟩
   |non=>cases j|int _=>cases j|str _=>cases j|tup _=>cases j|ref _=>cases j|clo _ _ _=>cases j|xc _=>cases j|fn _=>cases j
def zE {i j}:zF X xr (.Constant (.int i) j p6) (zV (.int i)):=by
 try simp only[qo]at*
 exact PE.imp Ie λb H Q ⟨a,A,c,S,r,h⟩=>h a H _ .refl S rfl
def gK (t:Ty){P:Pos}(o:X.mg "isinstance"=none)(b:X.mg x=none)(f:bootBuiltins x=some (.type t.nm))(i:zF X xr e m)(g:Gl X "isinstance":=by rfl)(c:Gl X x:=by rfl)
  (n:x ≠ "__name__":=by decide)(u:(x==("__debug__":Str))=false:=by decide)
  (j:starEach [e,.Name x P] X.env=(false,eval e X.env)::starEach [.Name x P] X.env:=by rfl)(y:(backTo p6 (starEach [.Name x P] X.env)).any (·.1)=false:=by rfl):
  zF X xr (.Call (.Name "isinstance" p) [e,.Name x P] [] p6) (kf t m):=by
 try simp only[qo]at*
 exact PE.imp (Q5 fO g o (by rfl) (jE i (jE (Xe c b f (v:=.ty t.nm) rfl n u) yw) j) (by decide) (by decide) j y) λI H Q ⟨D,A,J,S,r,h⟩=>by
   refine tM.go S r (qm.mp h) λw C a B v j l d q=>?_;cases E:j0 w C with
   |none=>rw[E]at j;exact j.elim|some T=>
    rw[E]at j;exact⟨v,T,t,rfl,N4 d q E,j a B _ l d rfl⟩
def qB (c:zF X xr a ma)(H:zF X xr b mb)(h:Mw b:=by intro _ _;rfl):zF X xr (.Subscript a b p6) (zi zB ma mb):=by
 try simp only[qo]at*
 exact PE.imp (eB eF c H h) (zi.read fP fR)
def jf {q:j6}(a:X.mg "len"=none)(H:gr X xr e q)(h:Gl X "len":=by rfl)(b:starEach [e] X.env=(false,eval e X.env)::starEach [] X.env:=by rfl):
  zF X xr (.Call (.Name "len" p) [e] [] p6) (mQ zT q):=by
 try simp only[qo]at*
 exact WK DJ (λ_ _=>yr) fT a (by rfl) H h (by decide) (by decide) b (by rfl)
def gB {q:j6}(h:Qn X xr e q):zF X xr e (qW q):=by
 try simp only[qo]at*
 exact PE.imp h qW.read
def Cq {P E:Pos}(u:X.calm=true)(T:X.mg "list"=none)(e:X.mg "range"=none)(x:zF X xr a ma)(t:Gl X "list":=by rfl)(f:Gl X "range":=by rfl)(g:starEach [a] X.env=[(false,eval a X.env)]:=by rfl)
  (c:starEach [.Call (.Name "range" P) [a] [] E] X.env=(false,eval (.Call (.Name "range" P) [a] [] E) X.env)::starEach [] X.env:=by rfl):
  zF X xr (.Call (.Name "list" p) [.Call (.Name "range" P) [a] [] E] [] p6) (Xg ma):=by
 try simp only[qo]at*
 exact PE.imp (K7 (CT u) t T (by rfl) (jE (ie f e (jE x yw (by rw[g];rfl)) g) yw c) (by decide) (by decide) c (by rfl)) λY H Q ⟨U,A,Z,S,M,h⟩=>by
   refine tM.go S M (qm.mp h) λw A1 b J v I L D q=>?_;cases w with
   |int j=>
    obtain rfl:=q;dsimp only at I
    by_cases d:(jH j&&decide (j.toNat<=qj))=true
    ·rw[ah d]at I
     rw[ak,ao]at d;refine⟨j,rfl,λp n=>⟨p,j,rfl,j9,Q3 d.1,Yx d.2,λl o=>?_⟩⟩;have N:Le X.K b J b (upd J p (.rng 0 j)):=Le.new n;have r:zK X.K b (upd J p (.rng 0 j)) ((List.range j.toNat).map λ(i:Nat)=>W.int i) (J1 j.toNat):=by
      have:=(zK.ints (K:=X.K) (φ:=b) (H:=upd J p (.rng 0 j)) (ns:=(List.range j.toNat).map λ(i:Nat)=>(i:Int)) (vs:=J1 j.toNat)).mpr (by unfold J1;simp)
      rw[aX]at this;exact this
     obtain⟨C,y,B⟩:=Jh (D.lay n) o r;exact I _ _ _ ((L.trans N).trans C) y B
    ·rw[aj d]at I;exact I.elim
   |_=>exact I.elim
def qY {M:Ea}(h:gu X xr es M)(H:ZQ M n)(b:n<=qj:=by decide):zF X xr (.List es p6) (qp M):=by
 try simp only[qo]at*
 exact fG h λa A w c e=>by rw[H a A w c e];exact Yx b
def YH {q:j6}(H:X.calm=true)(b:X.mg "max"=none)(a:gr X xr e q)(h:Gl X "max":=by rfl)(c:starEach [e] X.env=(false,eval e X.env)::starEach [] X.env:=by rfl):
  zF X xr (.Call (.Name "max" p) [e] [] p6) (mQ kx q):=by
 try simp only[qo]at*
 exact WK (Ah H) hH hV b (by rfl) a h (by decide) (by decide) c (by rfl)
def N8 (e:X.calm=true)(w:X.mg "min"=none)(o:zF X xr a ma)(n:zF X xr b mb)(l:Gl X "min":=by rfl)(C:starEach [a,b] X.env=(false,eval a X.env)::starEach [b] X.env:=by rfl)(B:starEach [b] X.env=(false,eval b X.env)::starEach [] X.env:=by rfl)(h:(backTo p6 (starEach [b] X.env)).any (·.1)=false:=by rfl):
  zF X xr (.Call (.Name "min" p) [a,b] [] p6) (zi XX ma mb):=by
 try simp only[qo]at*
 exact IF (BE e) QJ (λt A H x y u v Q S d c p=>by
   obtain⟨i,j,r,E,q⟩:=QD (K:=X.K) (f:=λi j=>.int (if j<i then j else i)) (g:=λi j=>.int (if j<i then j else i)) (λ_ _ _ _=>rfl) t A H x y u v Q S d c p;subst r;subst E;exact⟨i,j,rfl,q⟩) w (by rfl) o n l (by decide) (by decide) C B h
def gF (H:zF X xr a ma)(h:zF X xr b mb):zF X xr (.BinOp a .Mod b p6) (zi kH ma mb):=by
 try simp only[qo]at*
 exact ZI dI WD (Wy fL λ_ _ _ _=>rfl) H h
def yX (H:zF X xr a ma)(h:zF X xr b mb):zF X xr (.BinOp a .Mult b p6) (zi qG ma mb):=by
 try simp only[qo]at*
 exact ZI (dH.or eQ) f7 f9 H h
def Xl (h:zF X xr a ma):zF X xr (.UnaryOp .USub a p6) (yR gO ma):=by
 try simp only[qo]at*
 exact fC Ll (λx A=>by unfold gO;split;exact yr;exact jv) (λb A H x u Q S q p=>by
  cases u with
  |int i=>obtain rfl:=q;exact⟨i,rfl,p b H _ .refl S rfl⟩|_=>exact p.elim) h
def Jc {j}:zF X xr (.Constant .none j p6) (zV .non):=by
 try simp only[qo]at*
 exact PE.imp cL λb H Q ⟨a,A,c,S,r,h⟩=>h a H _ .refl S rfl
def MO (c:zF X xr a ma):zF X xr (.UnaryOp .Not a p6) (jR ma):=by
 try simp only[qo]at*
 exact PE.imp (cX c) λi H Q ⟨g,A,j,S,r,h⟩=>by
   refine tM.go S r (qm.mp h) λw n b f v e l d q=>?_;cases w with
   |bl k=>exact⟨k,q,e b f _ l d rfl⟩|non=>cases e|int _=>cases e|str _=>cases e|tup _=>cases e|ref _=>cases e|clo _ _ _=>cases e|xc _=>cases e|fn _=>cases e
def Z3 {op}(h:zF X xr a ma):zF X xr (.BoolOp op [a] p6) ma:=by
 try simp only[qo]at*
 exact cV h
def Cu (ho:zF X xr a ma)(he:zF X xr b mb)(hf:zF X xr c mc)(h1:starEach [b,c] X.env=(false,eval b X.env)::starEach [c] X.env:=by rfl)(h2:starEach [c] X.env=(false,eval c X.env)::starEach [] X.env:=by rfl)
  (j:attributeBase a "setdefault" X.env (eval a X.env)=eval a X.env:=by rfl)
  (r:((backTo p7 (starEach [b,c] X.env)).all (λx=>!x.1)&&(backToKw p7 (keywordEach [] X.env)).all (λx=>x.1.isSome)
   && decide ([b,c].length+([]:cc).length+(if ([]:cc).isEmpty then 0 else 1)<30))=true:=by rfl)(g:(rb.endLine==p7.line)=true:=by rfl)(N:(backTo p7 (starEach [c] X.env)).any (·.1)=false:=by rfl):
  zF X xr (.Call (.Attribute a "setdefault" rb) [b,c] [] p7) (YY Qv ma mb mc):=by
 try simp only[qo]at*
 exact PE.imp (Iv PySem.F.plainAttrs_dict PySem.F.slot_dict_setdefault PySem.F.type_dict_setdefault BF ho (jE he (jE hf yw h2) h1) j r g h1 N) λσ H Q ⟨φ,A,ρ,S,re,h⟩=>by
   refine tM.go S re (qm.mp h) λw A1 rf H1 v h1 I S1 q1=>?_
   by_cases hd:Vn w A1=true
   ·rw[ah hd]at h1
    refine⟨AY S1 q1 hd,?_⟩;refine tM.go S1 (re.mono I) (qL (qm.mp h1) (λ_ _ z=>z) λ_ _ z=>z.mono I) λy A2 φ2 H2 v2 h2 l2 S2 q2=>?_;have l:=I.trans l2;refine tM.go S2 (re.mono l) (qL (qm.mp h2) (λ_ _ z=>z) λ_ _ z=>z.mono l) λw3 A3 f T q d l3 P Z=>?_;have L:=l.trans l3;unfold Qv at d;cases w with
    |ref n=>cases y with
     |int i=>
      obtain rfl:=q2;dsimp only[Vk]at d;cases t:A3[n]? with
      |none=>rw[t]at d;exact d.elim|some o=>cases o with
       |dct kvs=>
        rw[t]at d;dsimp only at d;obtain⟨p,us,rfl,f1,g1,g2,g3⟩:=P.dct ((q1.mono l2).mono l3) t;have hlen:us.length=kvs.length:=by have:=congrArg List.length g2;simpa using this
        by_cases J:kvs.length<qj
        ·rw[ah J]at d
         have D:=UE (.inl i) g2 g3;refine⟨p,us,.inl i,q,rfl,rfl,g1,?_,λv' M=>?_,λhn=>?_⟩
         ·rw[hlen]
          have:sizeLine=16777216:=sizeLine_eq
          unfold qj at J;omega
         ·cases E:kq (.inl i) kvs with
          |none=>rw[D.2 E]at M;cases M|some B=>
           rw[E]at d;obtain⟨C,e,Y⟩:=D.1 B E;rw[M]at e;cases e;exact d f T _ L P Y
         ·cases E:kq (.inl i) kvs with
          |some B=>obtain⟨C,e,Y⟩:=D.1 B E;rw[hn]at e;cases e|none=>
           rw[E]at d;dsimp only at d;rw[Ax q hn];have ln:Le X.K f T f (upd T p (.dK (us++[(.inl i,q)]))):=Le.upd f1 (λxs z=>by rw[g1]at z;cases z) (λ_ _ z=>by rw[g1]at z;cases z)
           obtain⟨U,y⟩:=P.write (o:=.dct kvs) (o':=.dct (kvs++[(.inl i,w3)])) t rfl rfl f1 (u:=.dK (us++[(.inl i,q)])) ⟨us++[(.inl i,q)],j9,by simp[g2],by
            rw[aN,aN];exact(g3.mono ln).append (.one (Z.mono ln))⟩
           exact d _ _ _ (L.trans U) y (Z.mono U)
        ·rw[aj J]at d;exact d.elim
       |_=>rw[t]at d;exact d.elim
     |_=>exact d.elim
    |_=>exact d.elim
   ·rw[aj hd]at h1;exact h1.elim
def Z5 (H:zF X xr a ma)(h:zF X xr b mb):zF X xr (.BinOp a .Sub b p6) (zi yP ma mb):=by
 try simp only[qo]at*
 exact ZI dG QJ (QD λ_ _ _ _=>rfl) H h
def Ts {q:j6}(H:X.calm=true)(b:X.mg "sum"=none)(a:gr X xr e q)(h:Gl X "sum":=by rfl)(c:starEach [e] X.env=(false,eval e X.env)::starEach [] X.env:=by rfl):
  zF X xr (.Call (.Name "sum" p) [e] [] p6) (mQ wF q):=by
 try simp only[qo]at*
 exact WK (BS H) hJ hW b (by rfl) a h (by decide) (by decide) c (by rfl)
def qS {x1}{M:Ea}(h:gu X xr es M)(c:ZQ M n)(t:n<=qj:=by decide):zF X xr (.Tuple es x1 p6) (qa M):=by
 try simp only[qo]at*
 exact PE.imp (Lp h) λv H Q ⟨j,A,i,S,r,h⟩=>by
   have g:=qm.mp h;cases e:M i A with
   |ok w o=>
    rw[e]at g;refine⟨j,A,i,S,r,?_⟩;rw[e];intro a B y l f q;refine⟨by rw[<- q.length,c i A w o e];exact Yx t,λp b=>?_⟩
    obtain⟨u,a2,d⟩:=Z7 f b q;exact g _ _ _ (l.trans u) a2 d
   |exc x o=>rw[e]at g;refine⟨j,A,i,S,r,?_⟩;rw[e];exact g|bad=>rw[e]at g;exact g.elim
def yn {q:j6}(a:X.mg "tuple"=none)(H:gr X xr e q)(h:Gl X "tuple":=by rfl)(b:starEach [e] X.env=(false,eval e X.env)::starEach [] X.env:=by rfl):
  zF X xr (.Call (.Name "tuple" p) [e] [] p6) (mQ jt q):=by
 try simp only[qo]at*
 exact fS E6 (λ_ _=>yr) fU a (by rfl) H h (by decide) (by decide) b (by rfl)
def zh (i:Nat)(b:X.N[i]? =some x:=by rfl)(a:Km X.env.scope x:=by first|exact Or.inl rfl|exact Or.inr (Or.inl rfl)|exact Or.inr (Or.inr rfl))(g:(x==("__debug__":Str))=false:=by decide)
  (d:(x==("__classdict__":Str))=false:=by decide):zF X xr (.Name x p6) (qg i):=by
 try simp only[qo]at*
 exact PE.imp (Sb b a g d) λn H Q ⟨c,A,f,S,r,h⟩=>by
  unfold qg at h;cases e:f[i]? with
  |none=>rw[e]at h;cases h|some o=>cases o with
   |none=>rw[e]at h;cases h|some w=>
    rw[e]at h;obtain⟨v,l,j⟩:=r.get i w e;exact⟨v,l,h c H v .refl S j⟩
def iM {i:Ei}{t:Tg}{M:Ev}{e:Em}(l:Nat)(C:bV)(c:X.calm=true)(S:g9 X sc)(p:QF X.N N sc l C=true)(w:wb X xr tg p8 i)
  (n:∀s H fp,wM (jU X N sc s H fp yx) tg t/\Zd (jU X N sc s H fp yx) ifs M/\gR (jU X N sc s H fp yx) rd (⟨tg,p8,ifs,0⟩::gs) sc p6 0 e)
  (b:∀g',gs[0]? =some g'->g'.is_async=0:=by intro _ h;cases h<;>rfl)
  (a:∀x,foldedSetIterable p8 X.env x=pure x:=by intro _;rfl):Qn X xr (.ListComp rd (⟨tg,p8,ifs,0⟩::gs) sc p6) (qc l C i t M e):=by
 try simp only[qo]at*
 exact PE.imp (fw (g:=tG X.K t) (ti:=tT X.K yQ M) (tm:=tE X.K e) c S p b w n a) qc.read
def gC (i j:Nat){y:Str}{q:Pos}{k:Nat}(r:X.calm=true)(h:X.N.Nodup)(n:X.N[i]? =some x:=by rfl)(f:Loc X.env.scope x:=by first|exact Or.inl rfl|exact Or.inr rfl)(J:X.fn x=true∨X.env.scope.names.lookup x=some .local:=by first|exact .inl rfl|exact .inr rfl)
  (l:X.N[j]? =some y:=by rfl)(d:Loc X.env.scope y:=by first|exact Or.inl rfl|exact Or.inr rfl)(o:X.fn y=true∨X.env.scope.names.lookup y=some .local:=by first|exact .inl rfl|exact .inr rfl):wM X (.Tuple [.Name x p,.Name y q] k p6) (jO i j):=by
 try simp only[qo]at*
 exact PG.imp (T8 r (YB (YM h n f J) (YB (YM h l d o) Th))) λv T H Q ⟨P,A,U,w,b,S,I,c,e,K⟩=>by
   unfold jO at e
   split at e
   ·rename_i Z Y
    have E:=aI e;subst E;obtain⟨a,vs,rfl,g,D⟩:=c;obtain⟨C,u,rfl,M,B,t,rfl,L,rfl⟩:=D;exact⟨a,[C,B],rfl,g,rfl,C,[B],rfl,B,[],rfl,rfl,K _ ((I.set M).set L)⟩
   ·cases e
def BK (i j k:Nat){y z:Str}{q r pp:Pos}{t:Nat}(f:X.calm=true)(c:X.N.Nodup)(J:X.N[i]? =some x:=by rfl)(C:Loc X.env.scope x:=by first|exact Or.inl rfl|exact Or.inr rfl)(hf:X.fn x=true∨X.env.scope.names.lookup x=some .local:=by first|exact .inl rfl|exact .inr rfl)
  (I:X.N[j]? =some y:=by rfl)(B:Loc X.env.scope y:=by first|exact Or.inl rfl|exact Or.inr rfl)(L:X.fn y=true∨X.env.scope.names.lookup y=some .local:=by first|exact .inl rfl|exact .inr rfl)
  (E:X.N[k]? =some z:=by rfl)(u:Loc X.env.scope z:=by first|exact Or.inl rfl|exact Or.inr rfl)(K:X.fn z=true∨X.env.scope.names.lookup z=some .local:=by first|exact .inl rfl|exact .inr rfl):
  wM X (.Tuple [.Name x p,.Tuple [.Name y q,.Name z r] t pp] n p6) (Ww i j k):=by
 try simp only[qo]at*
 exact PG.imp (T8 f (YB (YM c J C hf) (YB (T8 f (YB (YM c I B L) (YB (YM c E u K) Th))) Th))) λv σ H Q ⟨φ,A,ρ,w,g,S,re,o,e,kk⟩=>by
   unfold Ww at e
   split at e
   ·rename_i x1 Y Z
    have T:=aI e;subst T;obtain⟨a,vs,rfl,D,rs⟩:=o;obtain⟨v1,r1,rfl,h1,v2,r2,rfl,h2,rfl⟩:=rs;obtain⟨a2,l,rfl,h,b⟩:=h2;obtain⟨d,U,rfl,P,v4,r4,rfl,M,rfl⟩:=b;exact⟨a,[v1,.ref a2],rfl,D,rfl,v1,[.ref a2],rfl,.ref a2,[],rfl,a2,[d,v4],rfl,h,rfl,d,[v4],rfl,v4,[],rfl,rfl,rfl,kk _ (((re.set h1).set P).set M)⟩
   ·cases e
def qy (i:Nat)(c:X.N.Nodup)(b:X.N[i]? =some x:=by rfl)(h:Loc X.env.scope x:=by first|exact Or.inl rfl|exact Or.inr rfl)(f:X.fn x=true∨X.env.scope.names.lookup x=some .local:=by first|exact .inl rfl|exact .inr rfl):wM X (.Name x p6) (zG i):=by
 try simp only[qo]at*
 exact PG.imp (YM c b h f) λv j H Q ⟨g,A,d,w,a,S,r,q,e,k⟩=>by
   have E:d.set i (some w)=a:=aI e;subst E;exact k _ (r.set q)
def j4 (h:zF X xr e m):wb X xr tg e (qu m):=by
 try simp only[qo]at*
 exact PI.imp (fJ h) λσ H Z ⟨φ,A,ρ,S,re,h⟩=>by
  refine tM.go S re (qm.mp h) λw A1 f H1 v h1 N M Q=>?_;unfold W5 at h1;cases e:zY w A1 with
  |none=>rw[e]at h1;exact h1.elim|some ws=>
   rw[e]at h1;dsimp only at h1;cases w with
   |tup us=>
    obtain⟨a,ys,rfl,g,q⟩:=Q;refine⟨a,rfl,.inr ⟨⟨ys,g⟩,h1 f H1 _ N M λi c j A' lw d=>⟨λB b=>?_,λb=>?_⟩⟩⟩
    ·have E:us[i]? =some B:=aI b
     obtain⟨y,l,D⟩:=(q.monoW lw).get E;refine⟨⟨ys,y,lw.tp _ _ g,l⟩,λx U u=>?_⟩;obtain⟨L,J⟩:=u;subst L;have p:=J ys (lw.tp _ _ g);rw[l]at p;cases p;exact⟨.refl,d,D⟩
    ·have E:us[i]? =none:=aI b
     refine⟨ys,lw.tp _ _ g,?_⟩;rw[<- q.length];exact List.getElem?_eq_none_iff.mp E
   |ref n=>
    obtain⟨a,rfl,g⟩:=Q;have read:∀{c j A' us},QX X.K f H1 c j->zX X.K c A' j->zY (.ref n) A'=some us->∃ys,jm X.K j a ys/\zK X.K c j us ys:=λ {c j A' us} lw d es=>by
     obtain⟨T,ys,P,z,r⟩:=GN (w:=.ref n) (v:=.ref a) d ⟨a,rfl,lw.ex _ _ g⟩ es;cases P;unfold zY at es;dsimp only at es;cases I:A'[n]? with
     |none=>rw[I]at es;cases es|some o=>
      rw[I]at es;obtain⟨T,q,r⟩:=d.ob n o I;rw[lw.ex _ _ g]at q;cases q;cases o with
      |lst xs=>cases es;obtain⟨ys,h1,h2⟩:=r;exact⟨ys,jm.of h1,h2⟩|ro xs=>cases es;obtain⟨ys,h1,h2⟩:=r;exact⟨ys,h1.sq,h2⟩|dct xs=>cases es|td _=>cases es|tr _=>cases es|tab _ _=>cases es
    obtain⟨Y,C,_⟩:=read ⟨λ_ _ h=>h,λ_ _ h=>h,λ_ _ _ h=>h⟩ M e;refine⟨a,rfl,.inl ⟨⟨Y,C⟩,h1 f H1 _ N M λi c j A' lw d=>⟨λB b=>?_,λb=>?_⟩⟩⟩
    ·dsimp only at b
     cases es:zY (.ref n) A' with
     |none=>rw[es]at b;cases b|some us=>
      rw[es]at b;have E:us[i]? =some B:=aI b;obtain⟨ys,t,r⟩:=read lw d es;obtain⟨y,l,D⟩:=r.get E;refine⟨⟨ys,y,t,l⟩,λx U u=>?_⟩;obtain⟨L,J⟩:=u;subst L;have p:=J ys t;rw[l]at p;cases p;exact⟨.refl,d,D⟩
    ·dsimp only at b
     cases es:zY (.ref n) A' with
     |none=>rw[es]at b;cases b|some us=>
      rw[es]at b;have E:us[i]? =none:=aI b;obtain⟨ys,t,r⟩:=read lw d es;refine⟨ys,t,?_⟩;rw[<- r.length];exact List.getElem?_eq_none_iff.mp E
   |non=>cases e|bl _=>cases e|clo _ _ _=>cases e|xc _=>cases e|fn _=>cases e|int _=>cases e|str _=>cases e
def YA (g:Gl X "enumerate")(n:X.mg "enumerate"=none)(e:zF X xr a ma)(c:starEach [a] X.env=[(false,eval a X.env)]:=by rfl):wb X xr (.Tuple rk kk q5) (.Call (.Name "enumerate" p) [a] [] p6) (w6 ma):=by
 try simp only[qo]at*
 exact PI.imp (ik g n (jE e yw (by rw[c];rfl)) c) λx H r ⟨u,A,B,S,j,h⟩=>by
   refine tM.go S j (qm.mp h) λw t b o v i l d q=>?_;cases es:zY w t with
   |none=>rw[es]at i;exact i.elim|some C=>
    rw[es]at i;obtain⟨p,y,rfl,Z,f⟩:=GY d q es;exact⟨p,Jk w,y,rfl,Z,i b o _ l d (il q)⟩
def BN (j:zF X xr a ma)(d:attributeBase a "items" X.env (eval a X.env)=eval a X.env:=by rfl)(e:(rb.endLine==p7.line)=true:=by rfl):
  wb X xr (.Tuple rk kk q5) (.Call (.Attribute a "items" rb) [] [] p7) (Wn ma):=by
 try simp only[qo]at*
 exact PI.imp (iF j d e) λσ H x ⟨M,A,ρ,S,N,h⟩=>by
   unfold Wn at h;cases A with
   |cons o A=>exact h.elim|nil=>
    dsimp only at h;have g:M=[]:=by have:=S.len;simpa using this
    subst g;refine tM.go S N (qm.mp h) λw A1 i L v B l r q=>?_
    split at B
    ·rename_i C
     by_cases D:jk (C.map (·.2))=true
     ·rw[ah D]at B
      obtain⟨p,I,rfl,Z,E,Y,Q⟩:=r.dct q (kvs:=C) rfl;have J:H p=none:=by
       rcases l.nw 0 p Z with z|z
       ·simp at z
       ·exact z
      refine⟨p,I,rfl,E,λo=>?_⟩;have T:∀c y,qK X.K L c y->qK X.K (upd L p (.frz o (.dK I))) c y:=λc y t=>Xc t (λxs z=>by rw[E]at z;cases z) (λ_ _ z=>by rw[E]at z;cases z)
      have le:Le X.K [] H [] (upd L p (.frz o (.dK I))):=by
       refine⟨λn c z=>z,λc y t=>T c y (l.tp c y t),λc u b P=>?_,λn c z=>.inl z,λc z=>?_,λc u U b=>?_⟩
       ·rw[qC (wj b J)];exact l.fr c u b P
       ·by_cases f:c=p
        ·rw[f];exact J
        ·rw[qC f]at z;exact l.st c z
       ·rw[qC (wj b J)];exact l.fz c u U b
      exact B [] _ _ le zX.none (iG (o:=o) j9 Y (Q.nrm T (λc u U b=>by rw[qC (Y5 b E (by intro z;cases z))];exact b) D) D)
     ·rw[aj D]at B;exact B.elim
    ·exact B.elim
def jD (g:Gl X "range")(t:X.mg "range"=none)(e:zF X xr a ma)(d:starEach [a] X.env=[(false,eval a X.env)]:=by rfl):wb X xr tg (.Call (.Name "range" p) [a] [] p6) (qN ma):=by
 try simp only[qo]at*
 exact PI.imp (Ac g t (jE e yw (by rw[d];rfl)) d) λy H r ⟨x,A,C,S,o,h⟩=>by
   refine tM.go S o (qm.mp h) λw D b u v n l i q=>?_;cases w with
   |int j=>
    obtain rfl:=q;dsimp only at n
    by_cases c:jH j=true
    ·rw[ah c]at n
     obtain⟨f,B⟩:=Q3 c;exact⟨j,rfl,f,B,n b u _ l i Ia⟩
    ·rw[aj c]at n;exact n.elim
   |non=>exact n.elim|bl _=>exact n.elim|str _=>exact n.elim|tup _=>exact n.elim|ref _=>exact n.elim|clo _ _ _=>exact n.elim|xc _=>exact n.elim|fn _=>exact n.elim
def G6 (o:Gl X "range")(M:X.mg "range"=none)(t:zF X xr a ma)(r:zF X xr b mb)(f:starEach [a,b] X.env=[(false,eval a X.env),(false,eval b X.env)]:=by rfl)(c:starEach [b] X.env=[(false,eval b X.env)]:=by rfl):wb X xr tg (.Call (.Name "range" p) [a,b] [] p6) (Zc ma mb):=by
 try simp only[qo]at*
 exact PI.imp (Bm o M (jE t (jE r yw (by rw[c];rfl)) (by rw[f,c])) f c) λT H I ⟨P,A,U,S,K,h⟩=>by
   refine tM.go S K (qm.mp h) λw A1 g Z v N l D Q=>?_;refine tM.go D (K.mono l) (qL (qm.mp N) (λ_ _ z=>z) λ_ _ z=>z.mono l) λn A2 e E Y J L C q=>?_;cases w with
   |int i=>
    obtain rfl:=Q;cases n with
    |int j=>
     obtain rfl:=q;dsimp only at J
     by_cases d:(jH i&&jH j)=true
     ·rw[ah d]at J
      rw[ak]at d;obtain⟨y,x⟩:=Q3 d.1;obtain⟨u,B⟩:=Q3 d.2;exact⟨i,j,rfl,⟨y,x,u,B⟩,J e E _ (l.trans L) C Ia⟩
     ·rw[aj d]at J;exact J.elim
    |non=>exact J.elim|bl _=>exact J.elim|str _=>exact J.elim|tup _=>exact J.elim|ref _=>exact J.elim|clo _ _ _=>exact J.elim|xc _=>exact J.elim|fn _=>exact J.elim
   |non=>exact J.elim|bl _=>exact J.elim|str _=>exact J.elim|tup _=>exact J.elim|ref _=>exact J.elim|clo _ _ _=>exact J.elim|xc _=>exact J.elim|fn _=>exact J.elim
def Az {c P:Pos}{k}(n:Gl X "range")(N:X.mg "range"=none)(r:zF X xr a ma)(o:zF X xr b mb)
  (K:starEach [a,b,.UnaryOp .USub (.Constant (.int 1) k c) P] X.env=(false,eval a X.env)::starEach [b,.UnaryOp .USub (.Constant (.int 1) k c) P] X.env:=by rfl)
  (J:starEach [b,.UnaryOp .USub (.Constant (.int 1) k c) P] X.env=(false,eval b X.env)::starEach [.UnaryOp .USub (.Constant (.int 1) k c) P] X.env:=by rfl)
  (t:(backTo p6 (starEach [b,.UnaryOp .USub (.Constant (.int 1) k c) P] X.env)).any (·.1)=false:=by rfl):
  wb X xr tg (.Call (.Name "range" p) [a,b,.UnaryOp .USub (.Constant (.int 1) k c) P] [] p6) (WH ma mb):=by
 try simp only[qo]at*
 exact PI.imp (Bx n N (jE r (jE o (jE (IQ Ll Ie) yw (by rfl)) J) K) K t) λU H I ⟨T,A,Y,S,M,h⟩=>by
   refine tM.go S M (qm.mp h) λw A1 f H1 v K l D Q=>?_;refine tM.go D (M.mono l) (qL (qm.mp K) (λ_ _ z=>z) λ_ _ z=>z.mono l) λg A2 e E Z J L C q=>?_;cases w with
   |int i=>
    obtain rfl:=Q;cases g with
    |int j=>
     obtain rfl:=q;dsimp only at J
     by_cases d:(jH i&&jH j)=true
     ·rw[ah d]at J
      rw[ak]at d;obtain⟨y,x⟩:=Q3 d.1;obtain⟨u,B⟩:=Q3 d.2;exact⟨1,rfl,i,j,rfl,⟨y,x,u,B⟩,J e E _ (l.trans L) C ib⟩
     ·rw[aj d]at J;exact J.elim
    |_=>exact J.elim
   |_=>exact J.elim
def Ti (t:Gl X "zip")(N:X.mg "zip"=none)(x:zF X xr a ma)(u:zF X xr b mb)(i:starEach [a,b] X.env=(false,eval a X.env)::starEach [b] X.env:=by rfl)(d:starEach [b] X.env=(false,eval b X.env)::starEach [] X.env:=by rfl)(r:(backTo p6 (starEach [b] X.env)).any (·.1)=false:=by rfl):
  wb X xr (.Tuple rk kk q5) (.Call (.Name "zip" p) [a,b] [] p6) (Zi ma mb):=by
 try simp only[qo]at*
 exact PI.imp (iz t N (jE x (jE u yw d) i) i r) λσ H E ⟨U,A,ρ,S,J,h⟩=>by
   refine tM.go S J (qm.mp h) λw A1 j H1 v T l y o=>?_;refine tM.go y (J.mono l) (qL (qm.mp T) (λ_ _ z=>z) λ_ _ z=>z.mono l) λg K c B v2 I L f Q=>?_;cases es:zY w K with
   |none=>rw[es]at I;exact I.elim|some us=>
    cases e:zY g K with
    |none=>rw[es,e]at I;exact I.elim|some vs=>
     rw[es,e]at I;have q:=o.mono L;obtain⟨p,M,rfl,n,D⟩:=GY f q es;obtain⟨P,Y,rfl,Z,C⟩:=GY f Q e;exact⟨p,P,Jk w,Jk g,M,Y,rfl,n,Z,I c B _ (l.trans L) f (iA q Q)⟩
def iN {d:Nat}{M:Ev}(x:∀e s,X.xe e s->False)(E:zF X yQ rd M)(o:gens[d+1]? =none):gR X rd gens sc p6 d (zU M):=by
 try simp only[qo]at*
 exact gj.imp (Aw x E o) λD C H Q ⟨I,A,J,B,Y,S,y,p,n,r,h⟩=>by
   refine tM.go S y (UQ (qm.mp h)) λw L f K v u l t q=>?_;obtain⟨c,N⟩:=l.off p n
   by_cases g:B.length<qj
   ·rw[ah g]at u
    have j:=r.length;refine⟨Y,c,?_,?_⟩
    ·rw[<- j]
     have:sizeLine=16777216:=sizeLine_eq
     unfold qj at g;omega
    ·exact u f _ C _ (l.toD.trans (kz.upd c)) N (t.off c N) ⟨y.len,λi w e=>let ⟨v,a,b⟩:=y.get i w e;⟨v,a,(b.mono l).monoD (kz.upd c)⟩⟩ j9
      (((r.mono l).monoD (kz.upd c)).append (.one (q.monoD (kz.upd c))))
   ·rw[aj g]at u;exact u.elim
def MW {d:Nat}{Y:Ei}{T:Tg}{M:Ev}{Z:Em}(o:∀e s,X.xe e s->False)(w:X.calm=true)(v:gens[d+1]? =some ⟨tg,p8,ifs,0⟩)(y:∀g',gens[d+2]? =some g'->g'.is_async=0)
  (hw:wb X yQ tg p8 Y)(t:wM X tg T)(u:Zd X ifs M)(hm:gR X rd gens sc p6 (d+1) Z)(q:∀x,foldedSetIterable p8 X.env x=pure x:=by intro _;rfl):gR X rd gens sc p6 d (Qa Y T M Z):=by
 try simp only[qo]at*
 exact gj.imp (fv o w v y hw t u hm q) λD σ H Q ⟨φ,A,ρ,acc,ys,S,U,B,n,f,h⟩=>by
   refine⟨φ,A,ρ,S,U,qL (UQ (qm.mp h)) (λj A1 h1 c H1 J l K i=>?_) λ_ _ z=>z⟩;obtain⟨E,n1⟩:=l.off B n;exact jq.read i K (U.mono l) E n1 (f.mono l) (qL h1 (λp A2 h2 a P b zs L N I r C g=>h2 a P b zs (l.toD.trans L) N I r C g) λ_ _ z=>z)
def qE (h:zF X xr e m):gr X xr e (zJ m):=by
 try simp only[qo]at*
 exact PE.imp h λn H Q ⟨j,A,o,S,r,h⟩=>by
  refine tM.go S r (qm.mp h) λw i b g v f l c q=>?_;cases e:zY w i with
  |none=>rw[e]at f;exact f.elim|some p=>
   rw[e]at f;obtain⟨a,y,rfl,d,E⟩:=GN c q e;exact f b g a y l c d E
def yB {q:j6}(h:Qn X xr e q):gr X xr e q:=by
 try simp only[qo]at*
 exact PE.imp h λo H Q ⟨d,A,f,S,g,h⟩=>
  ⟨d,A,f,S,g,qL h (λw t i a j D y l c p b n r=>i a j D y l c (.inl (jm.of b)) r) λ_ _ z=>z⟩
def iP {o i:Expr}{mo mi:Ev}(ho:zF X xr o mo)(hi:zF X xr i mi)(he:zF X xr e m)
  (ha:∀b I new,augStore i b I new=(do holding [new,b,I] (setItem b I new);release [new,b,I] [];pure .next):=by intros;rfl):kN X xr (.AugAssign (.Subscript o i q5) .Add e p6) (WL mo mi m):=by
 try simp only[qo]at*
 exact PS.imp (dv ho hi ih he dy set_list ha) λD σ H ⟨φ,A,ρ,S,re,h⟩=>by
   refine tM.go S re (qm.mp h) λU A1 P H1 v1 h1 j S1 q=>?_;refine tM.go S1 (re.mono j) (qL (qm.mp h1) (λ_ _ z=>z) λ_ _ z=>z.mono j) λw A2 N H2 v2 h2 g C q2=>?_;have l:=j.trans g;cases U with
   |ref n=>cases w with
    |int k=>
     obtain rfl:=q2;dsimp only at h2
     by_cases h0:0<=k
     ·rw[ah h0]at h2
      cases c:(A2[n]?:Option O) with
      |none=>rw[c]at h2;exact h2.elim|some ob=>cases ob with
       |lst ws=>
        rw[c]at h2;dsimp only at h2;obtain⟨p,vs,rfl,f1,g1,Z⟩:=C.lst (q.mono g) c;cases E:ws[k.toNat]? with
        |none=>rw[E]at h2;exact h2.elim|some Q=>cases Q with
         |int x=>
          rw[E]at h2;dsimp only at h2;obtain⟨v,hv,Y⟩:=Z.get E;obtain rfl:=Y;refine⟨p,vs,k,_,rfl,rfl,h0,g1,hv,?_⟩;refine tM.go C (re.mono l) (qL (qm.mp h2) (λ_ _ z=>z) λ_ _ z=>z.mono l) λT M f H3 v3 a B S3 q3=>?_;have L:=l.trans B;cases T with
          |int y=>
           obtain rfl:=q3;dsimp only at a;refine⟨x,y,rfl,rfl,?_⟩;refine MK (K:=X.K) f M H3 (.ref p) (.int k) (.int (x+y)) (.ref n) (.int k) (.int (x+y)) _ S3 ((q.mono g).mono B) rfl rfl ?_;cases r:ku (.ref n) (.int k) (.int (x+y)) M with
           |ok u J=>
            rw[r]at a;exactλd H4 t S4=>a d H4 σ (L.trans t) S4 (re.mono (L.trans t))
           |exc z J=>exact absurd r (Lo _ _ _ _ z J)|bad=>rw[r]at a;exact a.elim
          |_=>exact a.elim
         |_=>rw[E]at h2;exact h2.elim
       |_=>rw[c]at h2;exact h2.elim
     ·rw[aj h0]at h2;exact h2.elim
    |_=>exact h2.elim
   |_=>cases w<;>exact h2.elim
def zu (f:kN X xr st m1)(n:kK X xr rh m2):kK X xr (st::rh) (zo m1 m2):=by
 try simp only[qo]at*
 exact ki.imp (c8 f n) λD p H ⟨g,A,i,S,j,h⟩=>by
   refine⟨g,A,i,S,j,qL (qm.mp h) (λfl o f=>?_) λ_ _ z=>z⟩;cases fl with
   |nx e=>exactλa d b l c r=>⟨a,o,e,c,r,qL f (λ_ _ z=>z.mono l) λ_ _ z=>z.mono l⟩|rt w=>exact f|bk e=>exact f|ct e=>exact f
def yS (f:zF X xr e m)(b:swapsWith e none p6.line X.env=pure false:=by rfl):kN X xr (.Expr e p6) (jB m):=by
 try simp only[qo]at*
 exact PS.imp (da f b) λD d H ⟨j,A,n,S,r,h⟩=>tM.go S r (qm.mp h) λw o a i v g l c q=>g a i d l c (r.mono l)
def jJ {mi:Ei}{tw:Tg}(hp:PassesOwn (model X.prog X.w) X.A X.env X.xe)(hc:X.calm=true)(hi:wb X xr tg p8 mi)(hg:wM X tg tw)(hb:kK X xr body m1)
  (hs:∀x,foldedSetIterable p8 X.env x=pure x:=by intro _;rfl):kN X xr (.For tg p8 body [] p6) (qO mi tw m1):=by
 try simp only[qo]at*
 exact PS.imp (dD hp hc hi hg hb hs) λD σ H ⟨φ,A,ρ,S,re,h⟩=>by
   refine⟨φ,A,ρ,S,re,qL (qm.mp h) (λj A1 h1 e H1 J P S1 jr=>?_) λ_ _ z=>z⟩;refine⟨λi f c I=>HV X.K xr j (turn tw m1) D e H1 f i c I,
    ⟨j.len,e,A1,ρ,.refl,S1,re.mono P,qL h1 (λ_ _ z=>z.mono P) λ_ _ z=>z.mono P⟩,?_⟩
   rintro i f M Y ⟨b,A2,q,u,U,t,h2⟩
   obtain⟨j1,j2⟩:=jr i b Y A2 ⟨u.ex,u.tp,u.fz⟩ U;cases E:j.at_ A2 i with
   |none=>cases f<;>(unfold yL at h2;rw[E]at h2;exact h2.elim)|some o=>
    cases o with
    |none=>
     left
     refine⟨j2 E,?_⟩;cases f<;>(unfold yL at h2;rw[E]at h2;exact h2 b Y M .refl U t)
    |some w=>
     right
     obtain⟨go,yl⟩:=j1 w E;cases f with
     |zero=>unfold yL at h2;rw[E]at h2;exact h2.elim|succ f=>
      unfold yL at h2;rw[E]at h2;refine⟨go,λc I=>HV X.K xr j (turn tw m1) D e H1 f (i+1) c I,λc I z=>⟨f,bw _,z⟩,λx H3 y=>?_⟩;obtain⟨L,T,q3⟩:=yl x H3 y;have v:=qm.mp h2;unfold turn at v;cases Q:tw w q with
      |none=>rw[Q]at v;exact v.elim|some p=>
       rw[Q]at v;refine⟨b,A2,q,w,p,T,t.mono L,q3,Q,λσ3 N=>?_⟩;refine⟨b,A2,p,T,N,qL v (λfl Z C=>?_) λ_ _ z=>z.mono L⟩;cases fl with
       |nx d=>exactλa B g l n r=>⟨a,Z,d,(u.trans L).trans l,n,r,qL C (λ_ _ z=>z.mono (L.trans l)) λ_ _ z=>z.mono (L.trans l)⟩|ct d=>exactλa B g l n r=>⟨a,Z,d,(u.trans L).trans l,n,r,qL C (λ_ _ z=>z.mono (L.trans l)) λ_ _ z=>z.mono (L.trans l)⟩|bk d=>exactλa B g l n r=>C a B g (L.trans l) n r|rt w4=>exactλa B v4 l n q4=>C a B v4 (L.trans l) n q4
def jQ {n b:cg}(e:kg X xr c mc)(g:kK X xr n m1)(f:kK X xr b m2):kN X xr (.If c n b p6) (qU mc m1 m2):=by
 try simp only[qo]at*
 exact PS.imp (dh e g f) λD q H ⟨p,A,j,S,r,h⟩=>by
   refine tT.go S r (qm.mp h) λw o i=>?_;cases w with
   |bl k=>
    refine⟨k,rfl,λa t l d=>?_⟩;cases k with
    |true=>rw[ah rfl];exact⟨a,o,j,d,r.mono l,qL i (λ_ _ z=>z.mono l) λ_ _ z=>z.mono l⟩|false=>rw[aj aF];exact⟨a,o,j,d,r.mono l,qL i (λ_ _ z=>z.mono l) λ_ _ z=>z.mono l⟩
   |non=>cases i|int _=>cases i|str _=>cases i|tup _=>cases i|ref _=>cases i|clo _ _ _=>cases i|xc _=>cases i|fn _=>cases i
def zI:kK X xr [] zy:=by
 try simp only[qo]at*
 exact ki.imp c7 λD b H ⟨a,A,c,S,r,h⟩=>h a H b .refl S r
def qA (c:zF X xr e m):kN X xr (.Return (some e) p6) (qI m):=by
 try simp only[qo]at*
 exact PS.imp (de c) λD i H ⟨g,A,j,S,r,h⟩=>tM.go S r (qm.mp h) λw n a f v d l b q=>d a f v l b q
def qv (i:Nat){p:Pos}(b:X.N.Nodup)(c:zF X xr e m)(a:X.N[i]? =some x:=by rfl)(h:Loc X.env.scope x:=by first|exact Or.inl rfl|exact Or.inr rfl)(H:swapsWith e (some (.Name x p)) p6.line X.env=pure false:=by rfl)
  (f:X.fn x=true∨X.env.scope.names.lookup x=some .local:=by first|exact .inl rfl|exact .inr rfl):kN X xr (.Assign [.Name x p] e p6) (zQ i m):=by
 try simp only[qo]at*
 exact PS.imp (dm b a h c H f) zQ.read
def Q2 (i:Nat){q:Ei}{t:Tg}{M:Ev}{E:Em}{P a:Pos}(o:Nat)(C:bV)(j:X.N.Nodup)
  (e:X.calm=true)(S:g9 X sc)(p:QF X.N N sc o C=true)(r:wb X xr tg p8 q)
  (n:∀s H fp,wM (jU X N sc s H fp yx) tg t/\Zd (jU X N sc s H fp yx) ifs M/\gR (jU X N sc s H fp yx) rd (⟨tg,p8,ifs,0⟩::gs) sc p6 0 E)
  (b:X.N[i]? =some x:=by rfl)(c:X.env.scope.names.lookup x=some .local:=by rfl)
  (w:swapsWith (.ListComp rd (⟨tg,p8,ifs,0⟩::gs) sc p6) (some (.Name x P)) a.line X.env=pure true:=by rfl)
  (f:∀g',gs[0]? =some g'->g'.is_async=0:=by intro _ h;cases h<;>rfl)
  (d:∀x,foldedSetIterable p8 X.env x=pure x:=by intro _;rfl):kN X xr (.Assign [.Name x P] (.ListComp rd (⟨tg,p8,ifs,0⟩::gs) sc p6) a) (zQ i (qW (qc o C q t M E))):=by
 try simp only[qo]at*
 exact PS.imp (L2.C6 (g:=tG X.K t) (ti:=tT X.K yQ M) (tm:=tE X.K E) j b c w e S p f r n d) λD l H h=>qc.read l H _ (qW.read l H _ (zQ.read D l H h))
def Q8 (h:Zp X xr e m):kg X xr e m:=by
 try simp only[qo]at*
 exact PW.pt h
def yh {g:W->W->Hx->R W}(h:w9 X op g)(c:zF X xr a ma)(H:zF X xr b mb)(e:op≠.In:=by decide)(d:op≠.NotIn:=by decide):kg X xr (.Compare a [op] [b] p6) (zi g ma mb):=by
 try simp only[qo]at*
 exact let ⟨r,f,a2,A⟩:=h.ex;fD f a2 A c H (h.mks b e d)
def iQ {o:CmpOp}{g l:W->W->Hx->R W}(h:w9 X op g)(p:w9 X o l)(e:zF X xr a ma)(d:zF X xr b mb)(H:zF X xr c mc)(n:lastMarks [op,o] [b,c]=false:=by with_unfolding_all rfl):
  kg X xr (.Compare a [op,o] [b,c] p6) (wJ g l ma mb mc):=by
 try simp only[qo]at*
 exact let ⟨r,q,a2,A⟩:=h.ex;let ⟨j,i,f,B⟩:=p.ex;fF q a2 A i f B e d H n
def gE (d:kg X xr a ma):kg X xr (.UnaryOp .Not a p6) (jR ma):=by
 try simp only[qo]at*
 exact PT.imp (cS d) λn H Q ⟨j,A,o,S,r,h⟩=>by
   refine tT.go S r (qm.mp h) λw p g=>?_;cases w with
   |bl k=>obtain⟨b,e,q⟩:=g;cases e;exact⟨k,rfl,λc i l f=>q c i l f⟩|non=>cases g|int _=>cases g|str _=>cases g|tup _=>cases g|ref _=>cases g|clo _ _ _=>cases g|xc _=>cases g|fn _=>cases g
def kR (h:zF X xr e m)(a:∀w,isTrue e X.env w=(do let v <- w;standAt e.pos;holding [v] (truthy v)):=by intro _;rfl):kg X xr e m:=by
 try simp only[qo]at*
 exact PT.imp (cO h a) λb H Q h=>h.toM
def jl:Zd X [] (zV (.bl true)):=by
 try simp only[qo]at*
 exactλp s c H Q I ⟨a,A,d,S,r,h⟩=>fh p s c H Q I (by
  obtain⟨b,e,q⟩:=h;cases e;exact q a H .refl S)
def UR (h:kg X yQ c mc):Zd X [c] mc:=by
 try simp only[qo]at*
 exact fj h
def Tf {r:bZ}(g:kg X xr a ma)(f:Zp X xr (.BoolOp .And (b::r) p6) mb):Zp X xr (.BoolOp .And (a::b::r) p6) (jY ma mb):=by
 try simp only[qo]at*
 exact PW.imp (pw_and g f) λp H Q ⟨o,A,t,S,j,h⟩=>by
   refine tT.go S j (qm.mp h) λw u i=>?_;cases w with
   |bl k=>
    refine⟨k,rfl,λc n l d=>?_⟩;cases k with
    |true=>rw[ah rfl];exact tT.mono d l j i|false=>rw[aj aF];obtain⟨b,e,q⟩:=i;cases e;exact q c n l d
   |non=>cases i|int _=>cases i|str _=>cases i|tup _=>cases i|ref _=>cases i|clo _ _ _=>cases i|xc _=>cases i|fn _=>cases i
def UP (h:kg X xr a ma):Zp X xr (.BoolOp .And [a] p6) ma:=by
 try simp only[qo]at*
 exact pw_and1 h
def Wu {r:bZ}(g:kg X xr a ma)(f:Zp X xr (.BoolOp .Or (b::r) p6) mb):Zp X xr (.BoolOp .Or (a::b::r) p6) (wQ ma mb):=by
 try simp only[qo]at*
 exact PW.imp (pw_or g f) λp H Q ⟨o,A,t,S,j,h⟩=>by
   refine tT.go S j (qm.mp h) λw u i=>?_;cases w with
   |bl k=>
    refine⟨k,rfl,λc n l d=>?_⟩;cases k with
    |false=>rw[aj aF];exact tT.mono d l j i|true=>rw[ah rfl];obtain⟨b,e,q⟩:=i;cases e;exact q c n l d
   |non=>cases i|int _=>cases i|str _=>cases i|tup _=>cases i|ref _=>cases i|clo _ _ _=>cases i|xc _=>cases i|fn _=>cases i
def Wh (h:kg X xr a ma):Zp X xr (.BoolOp .Or [a] p6) ma:=by
 try simp only[qo]at*
 exact pw_or1 h
def Rk {K:Frag}{u:Stmt}{ps:bX}{k:Nat}{m:Ex}(F:we K x x u f fd)(M:mg x=some (.ref f))(S:qJ N ps (qi u))
  (i:∀(kV D L:Value)(T:cf)(c ct:Value)(U:bS),U.length=ps.length->bindArgs (fnOf x x (Z4 u) (yY u) (qi u) .none kV D L T c ct) ⟨U,[]⟩=pure (ps.zip U))
  (a:∀(c:Value)(A:Around)(q:b9)(s:Shared)(H:Hp)(E:XK),jF k (A.deeper (envOfC x (qi u) s.heap.objs.size f c))->kK (wt wc P w K mg base N x (qi u) f c A q s H E).nox yQ (yY u) m):
  zO P w K mg base (k+1) x ps.length (qF N.length m):=by
 try simp only[qo]at*
 refine⟨f,fd,ps,?_,M,F.kp,F.binds i⟩;refine F.ok S (λJ H Q E h=>h.len) λc A q s H J Q E g ⟨p,B,I,v,j,r,h⟩=>⟨_,a c A q s H E g,?_⟩;refine⟨B,I,v.map some++List.replicate (N.length-v.length) none,j,RE.start r,?_⟩;have t:=qm.mp h;show R.post _ (FB K B H _) _;cases e:m (v.map some++List.replicate (N.length-v.length) none) I with
 |ok fl X=>
  rw[e]at t;cases fl with
  |rt w=>exact t|nx C=>exactλb o d l n _=>t b o .non l n rfl|bk C=>exact t.elim|ct C=>exact t.elim
 |exc y X=>
  rw[e]at t;exact t.elim
 |bad=>rw[e]at t;exact t.elim
def wH (j:zF X xr a ma)(J:zF X xr b mb)(i:starEach [b] X.env=(false,eval b X.env)::starEach [] X.env:=by rfl)
  (e:attributeBase a "append" X.env (eval a X.env)=eval a X.env:=by rfl)
  (w:((backTo p7 (starEach [b] X.env)).all (λx=>!x.1)&&(backToKw p7 (keywordEach [] X.env)).all (λx=>x.1.isSome)
   && decide ([b].length+([]:cc).length+(if ([]:cc).isEmpty then 0 else 1)<30))=true:=by rfl)(h:(rb.endLine==p7.line)=true:=by rfl):
  zF X xr (.Call (.Attribute a "append" rb) [b] [] p7) (jo jN ma mb):=by
 try simp only[qo]at*
 exact XO PySem.F.slot_list_append PySem.F.type_list_append ND BO (λC A H x y u v Q S g q p=>by
   unfold jN at p;cases u with
   |ref n=>
    dsimp only at p;cases E:A[n]? with
    |none=>rw[E]at p;exact p.elim|some o=>cases o with
     |lst t=>
      rw[E]at p;dsimp only at p
      by_cases c:t.length<qj
      ·rw[ah c]at p
       obtain⟨l,D,rfl,I,B,r⟩:=S.lst g E;refine⟨l,D,y,rfl,rfl,B,?_,?_⟩
       ·rw[<- r.length]
        have:sizeLine=16777216:=sizeLine_eq
        unfold qj at c;omega
       ·have L:Le X.K C H C (upd H l (.lst (D++[y]))):=Le.upd I (λM z=>by rw[B]at z;cases z) (λ_ _ z=>by rw[B]at z;cases z)
        obtain⟨f,d⟩:=S.write (o:=.lst t) (o':=.lst (t++[v])) E rfl rfl I ⟨_,j9,(r.mono L).append (.one (q.mono L))⟩;exact p _ _ _ f d rfl
      ·rw[aj c]at p;exact p.elim
     |_=>rw[E]at p;exact p.elim
   |_=>exact p.elim) j J i e w h
def UB (c:X.mg "int"=none)(a:zF X xr e m)(h:Gl X "int":=by rfl)(d:starEach [e] X.env=(false,eval e X.env)::starEach [] X.env:=by rfl):zF X xr (.Call (.Name "int" p) [e] [] p6) (yR WV m):=by
 try simp only[qo]at*
 exact gN Br (λw A=>by unfold WV;split;exact yr;exact yr;exact jv) (λb A H x u Q S q p=>by
   cases u with
   |int i=>obtain rfl:=q;exact .inl ⟨i,rfl,p b H _ .refl S rfl⟩|bl k=>obtain rfl:=q;exact .inr ⟨k,rfl,p b H _ .refl S rfl⟩|_=>exact p.elim) c (by rfl) a h (by decide) (by decide) d (by rfl)
def iR (e:X.calm=true)(w:X.mg "max"=none)(o:zF X xr a ma)(n:zF X xr b mb)(l:Gl X "max":=by rfl)(C:starEach [a,b] X.env=(false,eval a X.env)::starEach [b] X.env:=by rfl)(B:starEach [b] X.env=(false,eval b X.env)::starEach [] X.env:=by rfl)(h:(backTo p6 (starEach [b] X.env)).any (·.1)=false:=by rfl):
  zF X xr (.Call (.Name "max" p) [a,b] [] p6) (zi SN ma mb):=by
 try simp only[qo]at*
 exact IF (Ag e) QJ (λt A H x y u v Q S d c p=>by
   obtain⟨i,j,r,E,q⟩:=QD (K:=X.K) (f:=λi j=>.int (if j > i then j else i)) (g:=λi j=>.int (if j > i then j else i)) (λ_ _ _ _=>rfl) t A H x y u v Q S d c p;subst r;subst E;exact⟨i,j,rfl,q⟩) w (by rfl) o n l (by decide) (by decide) C B h
def BZ (D:zF X xr a ma)(Y:zF X xr b mb)(C:starEach [b] X.env=(false,eval b X.env)::starEach [] X.env:=by rfl)
  (e:attributeBase a "pop" X.env (eval a X.env)=eval a X.env:=by rfl)
  (c:((backTo p7 (starEach [b] X.env)).all (λx=>!x.1)&&(backToKw p7 (keywordEach [] X.env)).all (λx=>x.1.isSome)
   && decide ([b].length+([]:cc).length+(if ([]:cc).isEmpty then 0 else 1)<30))=true:=by rfl)(h:(rb.endLine==p7.line)=true:=by rfl):
  zF X xr (.Call (.Attribute a "pop" rb) [b] [] p7) (jo ZJ ma mb):=by
 try simp only[qo]at*
 exact XO PySem.F.slot_list_pop PySem.F.type_list_pop eN gv (λN A H x y u v Q S B t p=>by
   unfold ZJ at p;cases u with
   |ref n=>cases v with
    |int i=>
     obtain rfl:=t;dsimp only at p;cases E:A[n]? with
     |none=>rw[E]at p;exact p.elim|some o=>cases o with
      |lst L=>
       rw[E]at p;dsimp only at p
       by_cases d:jH i=true
       ·rw[ah d]at p
        obtain⟨J,I⟩:=Q3 d;cases g:seqIndex? i L.length with
        |none=>rw[g]at p;exact p.elim|some k=>
         rw[g]at p;dsimp only at p;cases f:L[k]? with
         |none=>rw[f]at p;exact p.elim|some w=>
          rw[f]at p;obtain⟨l,P,rfl,T,M,r⟩:=S.lst B E;obtain⟨y,h1,Z⟩:=r.get f;have U:Le X.K N H N (upd H l (.lst (P.eraseIdx k))):=Le.upd T (λxs z=>by rw[M]at z;cases z) (λ_ _ z=>by rw[M]at z;cases z)
          obtain⟨j,q⟩:=S.write (o:=.lst L) (o':=.lst (L.eraseIdx k)) E rfl rfl T ⟨_,j9,(r.erase k).mono U⟩;exact⟨l,P,i,k,y,rfl,rfl,M,by omega,by omega,by rw[<- r.length];exact g,h1,p _ _ _ j q (Z.mono j)⟩
       ·rw[aj d]at p;exact p.elim
      |_=>rw[E]at p;exact p.elim
    |_=>exact p.elim
   |_=>cases v<;>exact p.elim) D Y C e c h
def U1 (H:zF X xr a ma)(h:zF X xr b mb):zF X xr (.BinOp a .Pow b p6) (zi Kh ma mb):=by
 try simp only[qo]at*
 exact ZI dJ WD (Wy Mo λ_ _ _ _=>rfl) H h
def Xi {x j}:zF X xr (.Constant (.str x) j p6) (zV (.str x)):=by
 try simp only[qo]at*
 exact PE.imp cM λb H Q ⟨a,A,c,S,r,h⟩=>h a H _ .refl S rfl
def M4 (H:zF X xr a ma)(h:zF X xr b mb):zF X xr (.BinOp a .BitXor b p6) (zi Rh ma mb):=by
 try simp only[qo]at*
 exact ZI dP QJ (QD λ_ _ _ _=>rfl) H h
def UL {q:j6}(u:X.mg "list"=none)(d:gr X xr e q)(g:Gl X "list":=by rfl)(j:starEach [e] X.env=(false,eval e X.env)::starEach [] X.env:=by rfl):
  zF X xr (.Call (.Name "list" p) [e] [] p6) (qW q):=by
 try simp only[qo]at*
 exact PE.imp (K7 Dv g u (by rfl) (jE d yw j) (by decide) (by decide) j (by rfl)) λx H Q ⟨n,A,o,S,t,h⟩=>by
   refine⟨n,A,o,S,t,qL (qm.mp h) (λB D v b C a y L i z r=>?_) λ_ _ z=>z⟩;refine⟨a,y,rfl,z,λl c=>?_⟩;obtain⟨w,a2,f⟩:=Jh i c r;exact v _ _ _ (L.trans w) a2 f
def Wk {o i:Expr}{M c:Ev}(d:zF X xr e m)(H:zF X xr o M)(a:zF X xr i c)
  (h:swapsWithSole [.Subscript o i q5] e p6.line X.env=pure false:=by rfl)(w:swappedStores [.Subscript o i q5] e X.env=pure none:=by rfl)
  (f:(assignEach [.Subscript o i q5] X.env).map (·.2)=[assign (.Subscript o i q5) X.env]:=by rfl)
  (b:∀v,assign (.Subscript o i q5) X.env v=(do
   let ov <- holding [v] (eval o X.env)
   let iv <- holding [v,ov] (eval i X.env)
   standAt q5
   holding [v,ov,iv] (setItem ov iv v)
   release [v,ov,iv] []):=by intro _;rfl):kN X xr (.Assign [.Subscript o i q5] e p6) (gJ ku m M c):=by
 try simp only[qo]at*
 exact AW set_list Lo MK d H a h w f b
def Bt (f:Nat)(C:PassesOwn (model X.prog X.w) X.A X.env X.xe)(E:kg X xr c mc)(I:kK X xr body m1):kN X xr (.While c body [] p6) (L5 f mc m1):=by
 try simp only[qo]at*
 exact PS.imp (AR C E I) λD σ H ⟨Y,A,ρ,S,re,h⟩=>by
   refine⟨λf i e=>∃a U d,Le X.K Y H a e/\zX X.K a U e/\RE X.K a e d i/\(QT mc m1 f d U).post (FB X.K a e D) (EB X.K a e xr),⟨f,Y,A,ρ,.refl,S,re,h⟩,?_⟩
   rintro f v T ⟨a,U,d,x,J,o,Z⟩
   cases f with
   |zero=>exact Z.elim|succ f=>
    unfold QT at Z;refine tT.go J o (qm.mp Z) λw N g=>?_;cases w with
    |bl k=>
     refine⟨k,rfl,λq M l y=>?_⟩;cases k with
     |true=>
      rw[ah rfl];refine⟨λi e=>∃a U d,Le X.K Y H a e/\zX X.K a U e/\RE X.K a e d i/\(QT mc m1 f d U).post (FB X.K a e D) (EB X.K a e xr),λi e z=>⟨f,bw _,z⟩,?_⟩;refine⟨q,N,d,y,o.mono l,qL (qm.mp g) (λfl B u=>?_) λ_ _ z=>z.mono l⟩;cases fl with
      |nx j=>exactλb t n L p r=>⟨b,B,j,(x.trans l).trans L,p,r,qL u (λ_ _ z=>z.mono (l.trans L)) λ_ _ z=>z.mono (l.trans L)⟩|ct j=>exactλb t n L p r=>⟨b,B,j,(x.trans l).trans L,p,r,qL u (λ_ _ z=>z.mono (l.trans L)) λ_ _ z=>z.mono (l.trans L)⟩|bk j=>exactλb t n L p r=>u b t n (l.trans L) p r|rt P=>exactλb t v4 L p Q=>u b t v4 (l.trans L) p Q
     |false=>
      rw[aj aF];exact g q M v l y (o.mono l)
    |non=>cases g|int _=>cases g|str _=>cases g|tup _=>cases g|ref _=>cases g|clo _ _ _=>cases g|xc _=>cases g|fn _=>cases g
end
end Mi
variable {mr:Mi.Ea}{mi:Mi.Ei}{em:Mi.Em}{ρ:Mi.En}{me:Mi.Ev}{A A1 B:Mi.Hx}{ws:List Mi.W}{x5:Option Mi.W}{tw:Mi.Tg}{g:Mi.W->Mi.W->Mi.Hx->Mi.R Mi.W}{xr:Mi.XR}{q:Mi.j6}{j:Mi.jM}
set_option maxHeartbeats 4000000
namespace Mi
open PySem L2
section
variable {ρ1:En}{A2:Hx}{w x y:W}{m ma mb mc:Ev}{m1 m2:Ex}{f:Fn}
def zp (h:ρ[i]? =some (some w)):qg i ρ A=.ok w A:=by unfold qg;rw[h]
def qe:zV w ρ A=.ok w A:=rfl
def zM (H:ma ρ A=.ok x A1)(h:mb ρ A1=.ok y A2):zi g ma mb ρ A=g x y A2:=by unfold zi;rw[H,zP,h,zP]
def L7 {g:W->Hx->R W}(h:ma ρ A=.ok x A1):yR g ma ρ A=g x A1:=by unfold yR;rw[h,zP]
def kQ {k:Bool}(h:ma ρ A=.ok (.bl k) A1):jR ma ρ A=.ok (.bl (!k)) A1:=by unfold jR;rw[h,zP]
def Z8 (h:ma ρ A=.ok (.bl true) A1):jY ma mb ρ A=mb ρ A1:=by unfold jY;rw[h,zP]
def Jj (h:ma ρ A=.ok (.bl false) A1):jY ma mb ρ A=.ok (.bl false) A1:=by unfold jY;rw[h,zP]
def Iu (h:ma ρ A=.ok (.bl true) A1):wQ ma mb ρ A=.ok (.bl true) A1:=by unfold wQ;rw[h,zP]
def WM (h:ma ρ A=.ok (.bl false) A1):wQ ma mb ρ A=mb ρ A1:=by unfold wQ;rw[h,zP]
def qd {a:Ea}(h:a ρ A=.ok ws A1):zC f a ρ A=f ws A1:=by unfold zC;rw[h,zP]
def zN:zj ρ A=.ok [] A:=rfl
def zD {r:Ea}(H:ma ρ A=.ok x A1)(h:r ρ A1=.ok ws A2):zc ma r ρ A=.ok (x::ws) A2:=by unfold zc;rw[H,zP,h,zP]
def wk {a:Ea}(h:a ρ A=.ok ws A1):qa a ρ A=.ok (.tup ws) A1:=by unfold qa;rw[h,zP]
def jV {a:Ea}(h:a ρ A=.ok ws A1):qp a ρ A=.ok (.ref A1.length) (A1++[.lst ws]):=by unfold qp;rw[h,zP]
def zH (h:m1 ρ A=.ok (.nx ρ1) A1):zo m1 m2 ρ A=m2 ρ1 A1:=by unfold zo;rw[h,zP]
def qx (h:m1 ρ A=.ok (.rt w) A1):zo m1 m2 ρ A=.ok (.rt w) A1:=by unfold zo;rw[h,zP]
def qQ:zy ρ A=.ok (.nx ρ) A:=rfl
def qH (h:m ρ A=.ok w A1):zQ i m ρ A=.ok (.nx (ρ.set i (some w))) A1:=by unfold zQ;rw[h,zP]
def wY (h:m ρ A=.ok w A1):jB m ρ A=.ok (.nx ρ) A1:=by unfold jB;rw[h,zP]
def qT (h:m ρ A=.ok w A1):qI m ρ A=.ok (.rt w) A1:=by unfold qI;rw[h,zP]
def ko (h:mc ρ A=.ok (.bl true) A1):qU mc m1 m2 ρ A=m1 ρ A1:=by unfold qU;rw[h,zP]
def yb (h:mc ρ A=.ok (.bl false) A1):qU mc m1 m2 ρ A=m2 ρ A1:=by unfold qU;rw[h,zP]
def j3 (h:mi ρ A=.ok j A1):qO mi tw m1 ρ A=yL j (turn tw m1) j.len 0 ρ A1:=by unfold qO;rw[h,zP]
def yo (h:tw w ρ=some ρ1):turn tw m1 w ρ A=m1 ρ1 A:=by unfold turn;rw[h]
def Ux {S:W->Ex}(h:j.at_ A i=some none):yL j S n i ρ A=.ok (.nx ρ) A:=by
 cases n with
 |zero=>unfold yL;rw[h]|succ n=>unfold yL;rw[h]
def GW {S:W->Ex}(h:j.at_ A i=some (some w))(H:S w ρ A=.ok (.nx ρ1) A1):yL j S (n+1) i ρ A=yL j S n (i+1) ρ1 A1:=by
 rw[yL,h];dsimp only;rw[H,zP]
def kE {k:Int}(h:m ρ A=.ok (.int k) A1)(H:jH k=true):qN m ρ A=.ok (j5 0 k.toNat) A1:=by unfold qN;rw[h,zP];dsimp only;rw[ah H]
def yI {l:Int}{k:Nat}(h:i<k):(j5 l k).at_ A i=some (some (.int (l+i))):=by unfold j5;dsimp only;rw[ah h]
def yH {l:Int}{k:Nat}(h:¬i<k):(j5 l k).at_ A i=some none:=by unfold j5;dsimp only;rw[aj h]
def ja (h:m1 (ws.map some++List.replicate (n-ws.length) none) A=.ok (.rt w) A1):qF n m1 ws A=.ok w A1:=by unfold qF;rw[h];rfl
def Qz {w:W}(n:jk ws=true)(H:w.nr=true)(h:f ws []=.ok w A1):iso f ws A=.ok w A:=by
 unfold iso;rw[ah n,h];cases w with
 |ref k=>cases H|_=>dsimp only;rw[ah H]
end
end Mi
set_option maxHeartbeats 4000000
namespace Mi
open PySem L2
def AH {p:Ev}{c:En}{N:Nat}{f g:Nat->W}{keep:Nat->Bool}(t:∀i,i<N->j.at_ A i=some (some (f i)))(d:j.at_ A N=some none)
  (b:∀i,i<N->p (some (f i)::c) A=.ok (.bl (keep i)) A)(q:∀i,i<N->keep i=true->me (some (f i)::c) A=.ok (g i) A):
  ∀(n i:Nat)(x:Option W)(o:List W),i+n=N->o.length+n<=qj->∃y,jq j (zG 0) p (zU me) n i (x::c) o A=.ok (y::c,o++((List.range' i n).filter keep).map g) A:=by
 intro n
 induction n with
 |zero=>
  intro i x o h _
  have:i=N:=by omega
  subst this;refine⟨x,?_⟩;unfold jq;rw[d];simp
 |succ n I=>
  intro i x o h l;have H:i<N:=by omega
  rw[jq,t i H];dsimp only[zG,List.set];rw[b i H,zP];rw[range'_succ];cases a:keep i with
  |true=>
   dsimp only;obtain⟨y,e⟩:=I (i+1) (some (f i)) (o++[g i]) (by omega) (by rw[av,aW];omega)
   refine⟨y,?_⟩;have E:zU me (some (f i)::c) o A=.ok (some (f i)::c,o++[g i]) A:=by
    unfold zU;rw[q i H a,zP,ah (by omega)]
   rw[E,zP];dsimp only;rw[e,List.filter_cons_of_pos a,aR,aP]
   rfl
  |false=>
   dsimp only;obtain⟨y,e⟩:=I (i+1) (some (f i)) o (by omega) (by omega)
   exact⟨y,by rw[e,List.filter_cons_of_neg (by rw[a];exact aF)]⟩
def O9 {ifs:Ev}{N:Nat}{item g:Nat->W}{keep:Nat->Bool}(f:mi ρ A=.ok j A)(a:j.len=N)(d:N<=qj)
  (H:∀i,i<N->j.at_ A i=some (some (item i)))(h:j.at_ A N=some none)(b:∀i,i<N->ifs (some (item i)::cap.map λi=>(ρ[i]?).join) A=.ok (.bl (keep i)) A)
  (l:∀i,i<N->keep i=true->me (some (item i)::cap.map λi=>(ρ[i]?).join) A=.ok (g i) A):
  qc 1 cap mi (zG 0) ifs (zU me) ρ A=.ok (((List.range N).filter keep).map g) A:=by
 obtain⟨y,e⟩:=AH H h b l N 0 none [] (zero_add N) (by simpa using d)
 unfold qc;rw[f,zP,a];have c:QH 1 cap ρ=none::cap.map λi=>(ρ[i]?).join:=rfl;rw[c,e,bM,<- range_eq_range']
 rfl
def gA {N:Nat}{item g:Nat->W}(d:mi ρ A=.ok j A)(a:j.len=N)(c:N<=qj)
  (t:∀i,i<N->j.at_ A i=some (some (item i)))(H:j.at_ A N=some none)(e:∀i,i<N->me (some (item i)::cap.map λi=>(ρ[i]?).join) A=.ok (g i) A):
  qc 1 cap mi (zG 0) (zV (.bl true)) (zU me) ρ A=.ok ((List.range N).map g) A:=by
 have h:=O9 (ifs:=zV (.bl true)) (keep:=λ_=>true) d a c t H (λ_ _=>rfl) λi b _=>e i b;have f:(List.range N).filter (λ_=>true)=List.range N:=List.filter_eq_self.mpr λ_ _=>rfl;rw[f]at h;exact h
def jX {g:List W->Hx->R W}(h:q ρ A=.ok ws A1):mQ g q ρ A=g ws A1:=by unfold mQ;rw[h,zP]
def km (h:q ρ A=.ok ws A1):qW q ρ A=.ok (.ref A1.length) (A1++[.lst ws]):=by unfold qW;rw[h,zP]
def yA {m:Ev}{w:W}(h:m ρ A=.ok w A1)(H:zY w A1=some ws):zJ m ρ A=.ok ws A1:=by unfold zJ;rw[h,zP,H]
open PySem PySem.Spec PyProof.Rows L2
inductive zg8 (H:Hp)(h g:Heap)(e:Addr)(vs:Array Value):Prop
 |mk (T:Addr) (oT:Obj) (ts:Array Value) (h1:vs[1]? =some (.ref T)) (ne:T≠e) (ng:g.get? T=none) (nH:H T=none) (hT:h.get? T=some oT) (hd:oT.data=.fields ts) (h3:ts[3]? =some .none)
inductive gL (H:Hp)(h g:Heap)(e:Addr)(C:Value):Prop
 |mk (ng:g.get? e=none) (nH:H e=none) (oe:Obj) (vs:Array Value) (a0:Value) (he:h.get? e=some oe) (hc:oe.cls=C) (hd:oe.data=.fields vs) (h0:vs[0]? =some a0) (h1:vs[1]? =some .none∨zg8 H h g e vs)
inductive Tr (h:Heap)(e:Addr):Prop
 |mk (oe:Obj) (vs:Array Value) (T:Addr) (he:h.get? e=some oe) (hd:oe.data=.fields vs) (h1:vs[1]? =some (.ref T))
section
variable {A:Around}{s:Shared}{outer:b9}{L e:Addr}{C:Value}{g:Heap}
theorem frames_at {B:Heap}:∀{l:b9},s.heap.FunFrames base l->(∀b∈qR l,B.get? b=none)->s.heap.FunFrames B l
 |[],_,_=>trivial|e::r,⟨c,⟨L,o,hf,hn,a,hd⟩,H⟩,h=>⟨c,⟨L,o,hf,h L (by unfold qR;rw[ba,hf];exact aE ..),a,hd⟩,frames_at H λb d=>h b (by
   unfold qR;rw[ba,hf];exact aw _ d)⟩
def LK {Q:Unit->Shared->Prop}(y:A.frames=some (env::outer))(hf:env.frame=some L)(I:s.heap.FunFrames base (env::outer))(x:gL H s.heap g e C)
  (tr:∀b u,H b=some u->∃o,s.heap.get? b=some o)(th:∀b o,g.get? b=some o->∃o',s.heap.get? b=some o')
  (hQ:∀h',(∀b o,s.heap.get? b=some o->b∉qR (env::outer)->((∃o',g.get? b=some o')∨∃u,H b=some u)->h'.get? b=some o)->(∀b o,s.heap.get? b=some o->b∈qR (env::outer)->∃Y,h'.get? b=some { o with slots:=Y })->
   gL H h' g e C->Tr h' e->Q () { s with heap:=h' }):wpAny M A (leaving env (.ref e)) Q E s:=by
 obtain⟨K,S,oe,vs,a0,he,hc,hd,h0,h1⟩:=x;have fin:∀(d:bT),(∀b∈qR (env::outer),b∈d)->(∀b∈d,b∉qR (env::outer)->g.get? b=none/\H b=none)->∀h',Heap.LeftW (hideAll s.heap d) (env::outer) e C a0 s.heap h'->Q () { s with heap:=h' }:=by
  intro d hi1 w h' ⟨st,ff,r,us⟩;refine hQ h' (λb o h nb hx=>?_) (λb o h mb=>?_) ?_ (by obtain⟨i,v,T,D,t,j,_,l,p,_⟩:=r;exact⟨i,v,T,j,l,p⟩)
  ·refine st b o (bI d h λhm=>?_)
   obtain⟨z1,z2⟩:=w b hm nb;rcases hx with ⟨o',q⟩|⟨u,q⟩
   ·rw[z1]at q;cases q
   ·rw[z2]at q;cases q
  ·obtain⟨_,o',a,f⟩:=I.mem mb
   rw[h]at a;cases a;exact us b o h f
  ·obtain⟨i,v,T,D,t,j,⟨N,X⟩,l,p,B,n,hT,c,U⟩:=r
   have nT:T∉qR (env::outer):=λhm=>by
    obtain⟨_,o',a,f⟩:=I.mem hm;obtain⟨Y,z⟩:=us T o' a f;rw[hT]at z;cases z;exact f t c
   have both:g.get? T=none/\H T=none:=by
    cases q:s.heap.get? T with
    |some o=>
     by_cases hm:T∈d
     ·exact w T hm nT
     ·rw[bI d q hm]at B;cases B
    |none=>
     constructor
     ·cases z:g.get? T with
      |none=>rfl|some o=>obtain⟨o',Z⟩:=th T o z;rw[q]at Z;cases Z
     ·cases z:H T with
      |none=>rfl|some u=>obtain⟨o',Z⟩:=tr T u z;rw[q]at Z;cases Z
   exact⟨K,S,i,v,a0,j,N,l,X,.inr ⟨T,D,t,p,n,both.1,both.2,hT,c,U⟩⟩
 have stay:∀d:bT,(hideAll s.heap d).StaysIn s.heap:=λd b o q=>of_hideAll d q;rcases h1 with h1|⟨T,D,t,h1,n,J,P,hT,c,U⟩
 ·have hn:∀b∈e::qR (env::outer),(hideAll s.heap (e::qR (env::outer))).get? b=none:=λb h=>hideAll_none _ h
  refine wpAny_leaving_firstW (base:=hideAll s.heap (e::qR (env::outer))) y (frames_at I λb h=>hn b (aw _ h)) hf he (stay _) (hn e (aE ..)) hd h1 h0 ?_;rw[hc];refine fin _ (λb h=>aw _ h) λb h nb=>?_;rcases cu.mp h with rfl|h
  ·exact⟨K,S⟩
  ·exact absurd h nb
 ·have hn:∀b∈e::T::qR (env::outer),(hideAll s.heap (e::T::qR (env::outer))).get? b=none:=λb h=>hideAll_none _ h
  refine wpAny_leaving_nextW (base:=hideAll s.heap (e::T::qR (env::outer))) y (frames_at I λb h=>hn b (aw _ (aw _ h))) hf
   ⟨oe,vs,T,D,t,he,⟨hc,h0⟩,hd,h1,hn T (aw _ (aE ..)),n,hT,c,U⟩ (stay _) (hn e (aE ..)) ?_
  refine fin _ (λb h=>aw _ (aw _ h)) λb h nb=>?_;rcases cu.mp h with rfl|h
  ·exact⟨K,S⟩
  ·rcases cu.mp h with rfl|h
   ·exact⟨J,P⟩
   ·exact absurd h nb
end
inductive MX (P:Program)(w:World)(outer:b9)(H:Hp)(s:Shared)(E:XK)(e:Value)(s':Shared):Prop
 |mk (ea C:Addr) (H':Hp) (he:e=.ref ea) (os:s'.os=s.os) (b:AllBare s'.gens) (un:Un (qR outer) [] H H' s.heap s'.heap) (hk:jx P w H' s'.heap) (ly:gL H' s'.heap s.heap ea (.ref C)) (tr:Tr s'.heap ea) (q:E (.ref C) none H')
def gW (P:Program)(w:World):Zr:=λo H s E e S=>MX P w o H s E e S
def _root_.L2.jg.obj (x:jg P w H h a o):∃ob,h.get? a=some ob:=by
 cases o with
 |lst X=>obtain⟨_,_,_,_,e⟩:=x;exact⟨_,e⟩|tup X=>obtain⟨_,_,_,o,e,_⟩:=x;exact⟨o,e⟩|dK K=>obtain⟨_,_,_,_,o,_,_,e,_⟩:=x;exact⟨o,e⟩|dT K=>obtain⟨_,_,_,_,o,_,_,e,_⟩:=x;exact⟨o,e⟩|set S n=>obtain⟨o,_,_,_,e,_⟩:=x;exact⟨o,e⟩|ins C d fs=>obtain⟨_,_,_,e,_⟩:=x;exact⟨_,e⟩|own y=>exact x|xd fs=>obtain⟨_,⟨o,_,_,e,_⟩,_⟩:=x;exact⟨o,e⟩|rng l i=>obtain⟨_,_,_,e⟩:=x;exact⟨_,e⟩|frz ob u=>exact⟨ob,x.1⟩|tbl ps=>exact⟨_,(show h.get? a=some _ from x)⟩|met f y=>exact⟨_,(show h.get? a=some _ from x)⟩|ext b=>exact x.2.1
def BY {K:Frag}{D:Value}{A:Around}{B:b9}{s:Shared}{E:XK}
  {h:Hp}{a C:Addr}(I:Inv (wt (gW P w) P w K mg base N qual scope f D A B s H E) p4 σ h s')(x:gL h s'.heap s.heap a (.ref C))(y:E (.ref C) none h):
  (wt (gW P w) P w K mg base N qual scope f D A B s H E).xe (.ref a) s':=by
 have bs:Un (qR B) [] H h s.heap s'.heap:=I.base;have T:∀b∈qR (envOfC qual scope s.heap.objs.size f D::B),h b=none:=I.stkFree;have p:s.heap.get? s.heap.objs.size=none:=Heap.get?_none_of_le (aq _);have g:(envOfC qual scope s.heap.objs.size f D).frame=some s.heap.objs.size:=rfl;have mem:∀b,b∈qR (envOfC qual scope s.heap.objs.size f D::B)↔b=s.heap.objs.size∨b∈qR B:=λb=>by
  unfold qR;rw[ba,g];exact mem_cons
 show wpAny (model P w) (A.deeper (envOfC qual scope s.heap.objs.size f D)) (leaving (envOfC qual scope s.heap.objs.size f D) (.ref a)) _ _ s';refine LK (base:=base) (L:=s.heap.objs.size) I.ok.frames rfl I.stack x (λb u e=>(I.hok b u e).obj) (λb o e=>bs.there b o e (by simp)) λh' M Z X t=>?_
 have r:∀b u,h b=some u->b∉qR (envOfC qual scope s.heap.objs.size f D::B):=λb u e J=>by rw[T b J]at e;cases e
 refine⟨a,C,h,rfl,I.os,I.bare,⟨λb o e n nb _=>?_,λb o e n Y _=>?_,λb o e n d=>bs.free b o e n d,λb o e d=>?_,bs.tups,bs.frzs,bs.tbls⟩,λb u e=>?_,X,t,y⟩
 ·have i:b≠s.heap.objs.size:=λz=>by rw[z,p]at e;cases e
  exact M b o (bs.keep b o e n nb (by simp)) (λJ=>(mem b).mp J |>.elim i nb) (.inl ⟨o,e⟩)
 ·obtain⟨l,q⟩:=bs.slot b o e n Y (by simp)
  obtain⟨S,Q⟩:=Z b _ q ((mem b).mpr (.inr Y));exact⟨S,Q⟩
 ·obtain⟨U,q⟩:=bs.there b o e d
  by_cases J:b∈qR (envOfC qual scope s.heap.objs.size f D::B)
  ·obtain⟨l,z⟩:=Z b U q J;exact⟨_,z⟩
  ·exact⟨U,M b U q J (.inl ⟨o,e⟩)⟩
 ·refine(I.hok b u e).stay (λc v j q=>?_) (λ_ q=>q) λ_ _ q=>q
  rcases j with z|z
  ·rw[z]at q ⊢;exact M b v q (r b u e) (.inr ⟨u,e⟩)
  ·exact M c v q (r c _ z) (.inr ⟨_,z⟩)
def Ni {s:Shared}{E:XK}{e:Value}(I:Inv X p4 σ H s)(h:gW X.prog X.w X.stack H s E e s')(g:Heap)(r:∀b o,g.get? b=some o->∃o',s.heap.get? b=some o'):
  ∃a C c,e=.ref a/\Inv X p4 σ c s'/\gL c s'.heap g a (.ref C)/\Tr s'.heap a/\E (.ref C) none c:=by
 obtain⟨a,C,c,rfl,os,U,un,Y,x,tr,u⟩:=h;obtain⟨p,v,d,t,f⟩:=s';obtain rfl:f=s.os:=os;refine⟨a,C,c,rfl,I.call (h':=p) (g':=v) (d':=d) (t':=t) (ch:=[]) un Y U (λb z=>absurd z (by simp)),?_,tr,u⟩
 have up:∀b,s.heap.get? b=none->g.get? b=none:=λb n=>by
  cases z:g.get? b with
  |none=>rfl|some o=>obtain⟨o',q⟩:=r b o z;rw[n]at q;cases q
 obtain⟨a1,a2,j,Z,S,Q,P,N,M,B⟩:=x;refine⟨up a a1,a2,j,Z,S,Q,P,N,M,?_⟩;rcases B with B|⟨T,l,i,c1,L,K,J,D,A,y⟩
 ·exact .inl B
 ·exact .inr ⟨T,l,i,c1,L,up T K,J,D,A,y⟩
def gn (K:Frag)(E:XK):XR:=λx H=>∀C:Addr,kJ K x (.ref C)->E (.ref C) none H
inductive W8 (K:Frag)(n:Nat)(f:Fn)(vs:List V)(H:Hp)(Q:VK)(E:XK):Prop
 |mk (len:vs.length=n) (φ:bT) (A:Hx) (ws:List W) (S:zX K φ A H) (r:zK K φ H ws vs) (q:(f ws A).post (PB K φ H Q) (EB K φ H (gn K E)))
def W8.len {K:Frag}{f:Fn}{Q:VK}{E:XK}(h:W8 K n f vs H Q E):vs.length=n:=by cases h;assumption
inductive jL (P:Program)(w:World)(K:Frag)(mg:b8)(base:Heap)(k:Nat)(x:Str)(n:Nat)(f:Fn):Prop
 |mk (fa:Addr) (fd:FuncData) (ps:bX) (F:yN P w K mg base (gW P w) k fa fd ps (W8 K n f)) (at_:mg x=some (.ref fa)) (kp:keepIn K (.ref fa)=true) (bi:Binds K fd ps [])
structure gf (X:Cx)(g:Heap)(xr:XR):Prop where
 th:∀p4 σ H s,Inv X p4 σ H s->∀b o,g.get? b=some o->∃o',s.heap.get? b=some o'
 out:∀p4 σ H s ea C x,Inv X p4 σ H s->gL H s.heap g ea (.ref C)->kJ X.K x (.ref C)->xr x H->X.xe (.ref ea) s
def iS {K:Frag}{i:Value}{A:Around}{r:b9}{s:Shared}{E:XK}:
  gf (wt (gW P w) P w K mg base N qual scope f i A r s H E) s.heap (gn K E) where
 th:=λp g h S I b o e=>(show Un (qR r) [] H h s.heap S.heap from I.base).there b o e (by simp)
 out:=λp g h S d C x I l c a=>BY I l (a C c)
section
variable {g:Heap}{c:Expr}
def VC (K:Frag)(X:XR):XK:=λc _ H=>∃x C,c=.ref C/\kJ K x (.ref C)/\X x H
def gf.passes (x:gf X g xr):Passes (gW X.prog X.w) X (VC X.K xr):=λp j H s e S I h=>by
 obtain⟨b,C,d,rfl,i,l,_,nm,f,E,c,a⟩:=Ni I h g (x.th p j H s I);cases E;exact x.out p j d S b C nm i l c a
end
noncomputable def Ze (n:Nat)(m:Ex):Fn:=λa A=>(m (a.map some++List.replicate (n-a.length) none) A).bind λfl b=>match fl with
 |.rt w=>.ok w b|.nx _=>.ok .non b|_=>.bad
inductive S8 (C:Addr)(bmB:bS)(rj:String)(h:Heap):Prop
 |mk (tl N nm q bs hdct sn sub ab col dd k0 k1 k2 k3 k5 mN:_) (obj:h.get? C=some (excClassObj nm q C N bs tl hdct sn sub ab col dd k0 k1 k2 k3 k5 rj)) (ns:h.Ns N mN) (init:mN "__init__"=none) (tail:OwnTail h bmB tl)
noncomputable def iT (d:Data):Option { c:ClassData // d=.cls c }:=match d with
 |.cls c=>some ⟨c,rfl⟩|_=>none
def ZR (K:Frag)(C:Addr)(b:bS)(n:String):Bool:=(K.lookup C).any λo=>(iT o.data).any λc=>
 o.cls==.type "type" && c.1.mro==.ref C::c.1.mro.tail&&o.slots.toList==[o.slots.toList.getD 0 none,o.slots.toList.getD 1 none,o.slots.toList.getD 2 none,o.slots.toList.getD 3 none,some (.builtin n),o.slots.toList.getD 5 none]
  && c.1.hasDel==false&&PySem.W.tailIn K b c.1.mro.tail&&PySem.W.nsOkIn K c.1.ns&&nsIn K c.1.ns "__init__" == some none
def S9 {K:Frag}{C:Addr}{b:bS}{n:String}(X:K.In h)(q:ZR K C b n=true):S8 C b n h:=by
 obtain⟨⟨o,t,u,⟨S⟩⟩,H,q⟩:=(Option.any_eq_true _ _).mp q;obtain⟨⟨⟨nm,bs,M,N,Q,r,p,j,A,l,D⟩,i⟩,-,q⟩:=(Option.any_eq_true _ _).mp q;simp only[ak,aL]at q;obtain⟨⟨⟨⟨⟨⟨g,f⟩,d⟩,c⟩,a⟩,e⟩,E⟩:=q;cases i;cases g;cases c;exact⟨M.tail,N,nm,Q,bs,r,p,j,A,l,t,_,_,_,_,_,_,X _ _ (by rw[H,f,d];rfl),.of_isNs (PySem.W.isNs_of_in X e),PySem.W.nsMap_none_of_in X e E,PySem.W.tail_of_in X a⟩
noncomputable def Xy (x:Str)(M:Ea):Ex:=λa A=>(M a A).bind λ_ b=>.exc x b
section
variable {g:Heap}{es:bZ}{np:Pos}{C:Addr}{B rj rq:String}{bmB:bS}
def iU {s:Shared}{e:Addr}{a:bS}(x:gf X g xr)(I:Inv X p4 σ H s)(m:Heap.MadeExcOf s.heap h' e (.ref C) a):
  Inv X p4 σ H { s with heap:=h' }/\gL H h' g e (.ref C):=by
 have N:∀b,s.heap.get? b=none->H b=none:=λb z=>by
  cases q:H b with
  |none=>rfl|some u=>obtain⟨o,k⟩:=(I.hok b u q).obj;rw[z]at k;cases k
 have n:∀b,s.heap.get? b=none->g.get? b=none:=λb z=>by
  cases q:g.get? b with
  |none=>rfl|some o=>obtain⟨f,k⟩:=x.th p4 σ H s I b o q;rw[z]at k;cases k
 obtain⟨t,d,i,h⟩:=m.there;refine⟨I.call' (s':={ s with heap:=h' }) (ch:=[]) rfl ⟨λb o q _ _ _=>m.keeps b o q,λb o q _ _ _=>⟨o.slots,m.keeps b o q⟩,λb o q z _=>z,λb o q _=>⟨o,m.keeps b o q⟩,λ_ _ q=>q,λ_ _ _ q=>q,λb ps q=>⟨#[],by rw[Array.append_empty];exact q⟩⟩
  (λb u q=>(I.hok b u q).stay (λc v _ z=>m.keeps c v z) (λ_ z=>z) λ_ _ z=>z) I.bare (λb z=>absurd z (by simp)),?_⟩
 exact⟨n e m.new,N e m.new,_,_,_,d,rfl,rfl,rfl,.inl rfl⟩
def AF (o:gf X g xr)(f:kJ X.K x (.ref C))(ex:ZR X.K C bmB rj=true)(FB:ExcBaseFacts B rj rq bmB)(J:SA X xr (e::es) mr)(v:ZQ mr n)(hn:n<=sizeLine:=by decide)(w:Gl X x:=by rfl)(a:X.calm=true:=by rfl)
  (d:(x==("__debug__":Str))=false:=by decide)(he:starEach (e::es) X.env=(false,eval e X.env)::starEach es X.env:=by rfl)(l:(backTo p7 (starEach es X.env)).any (·.1)=false:=by rfl):
  SS X xr (.Raise (some (.Call (.Name x np) (e::es) [] p7)) none p6) (Xy x mr):=by
 intro p4 s σ H D I ⟨φ,A,ρ,S,re,h⟩;have hm:X.mg x=some (.ref C):=bC I.mod.kin I.mod.glob f;obtain⟨t,N,nm,q,bs,hdct,sn,sub,ab,col,dd,k0,k1,k2,k3,k5,mN,P,M,c,T⟩:=S9 I.mod.kin ex;refine wpAny_Raise_call_subT (C:=C) (nm:=nm) (q:=q) (N:=N) (bs:=bs) (bm:=t) (hdct:=hdct) (sn:=sn) (sub:=sub) (ab:=ab) (col:=col) (dd:=dd) (k0:=k0) (k1:=k1) (k2:=k2) (k3:=k3) (k5:=k5)
  FB (mN:=mN) (T.hasType FB.hasBase) (I.ok.hd a) (by rw[he];show(false || (backTo p7 (starEach es X.env)).any (·.1))=false;rw[l];rfl) c (Wl I w hm ⟨rfl,?_⟩ d)
 have h':=qm.mp h;have j:=J p7 p4 s σ H (λvs H1=>vs.length<=sizeLine/\xr x H1) I ⟨φ,A,ρ,S,re,?_⟩
 ·rw[he]at j ⊢
  refine Calls.evalArgs_plain (wpAny_mono j (λus s2 h2=>?_) λ_ _ y=>y);obtain⟨vs,H2,i,r,hlen,u⟩:=h2;refine⟨rfl,?_,i.bk _ _ P,M.keeps i.bk,T.keeps i.bk,λh3 U m=>?_⟩
  ·rw[<- r.length];exact hlen
  ·obtain⟨Z,L⟩:=iU o i m
   exact o.out p4 σ H2 _ U C x Z L f u
 ·cases E:mr ρ A with
  |ok ws A1=>
   rw[E]at h';intro b H1 vs p Y Q;refine⟨?_,h' b H1 p Y⟩;rw[<- Q.length,v ρ A ws A1 E];exact hn
  |exc y A1=>rw[E]at h';exact h'|bad=>rw[E]at h';exact h'
end
noncomputable def mJ:List Ev->Str->Ev
 |[],acc=>λ_ A=>.ok (.str acc) A|m::ms,acc=>λa A=>(m a A).bind λw b=>match w with
  |.str y=>if (acc++y).length<=sizeLine then mJ ms (acc++y) a b else .bad|_=>.bad
section
variable {es:bZ}{m:Ev}{ms:List Ev}
inductive SJ (X:Cx)(xr:XR):List Expr->List Ev->Prop where
 |nil:SJ X xr [] []
 |cons {e:Expr} {es:bZ} {m:Ev} {ms:List Ev} (h:SE X xr e m) (r:SJ X xr es ms):SJ X xr (e::es) (m::ms)
end
section
variable {A:Around}{s:Shared}{e C:Addr}{oe:Obj}{bmB bmD:bS}{rj rn:String}{Q:Bool->Shared->Prop}
def LO (h:Heap)(C D:Addr):Prop:=∃o c,h.get? C=some o/\o.data=.cls c/\c.mro.contains (.ref D)=true
def CY (lc:S8 C bmB rj s.heap)(ld:S8 D bmD rn s.heap)(j:bmD.contains (.type "BaseException")=true)(he:s.heap.get? e=some oe)(a:oe.cls=.ref C)(up:LO s.heap C D)(w:Q true s):
  wpAny M A (excMatches (.ref e) (.ref D)) Q E s:=by
 obtain⟨h,g,d,t,os⟩:=s;obtain⟨n,N,nm,q,bs,hdct,sn,sub,ab,col,dd,k0,k1,k2,k3,k5,mN,l,_,_,_⟩:=lc;obtain⟨T,N2,u,K,y,c,r,S,I,p,x,Z,Y,X,U,P,v,o,_,_,J⟩:=ld;obtain⟨L,cd,b,hd,hm⟩:=up;rw[l]at b;cases b;have H:(excClassObj nm q C N bs n hdct sn sub ab col dd k0 k1 k2 k3 k5 rj).data=.cls cd:=hd;unfold excClassObj at H;cases H;have B:(Value.ref D::T).contains (.type "BaseException")=true:=by rw[List.contains_cons,J.hasType j,Bool.or_true]
 have i:(Value.ref C::n).contains (.ref D)=true:=hm;have f:=tc_notTuple;unfold excMatches
 repeat (first|(with_reducible refine wpAny_loadPart_at he ?_;rw[a])|with_reducible refine wpAny_loadPart_at o ?_|with_reducible refine wpAny_loadPart_at l ?_|(with_reducible refine wpAny_isSubtype_exc o ?_;rw[B])|(with_reducible refine wpAny_isSubtype_exc l ?_;rw[i])|wp_step)
 exact w
end
section
variable {H0:Hp}{s0 s:Shared}{ea C:Addr}
def landed {T:Addr}{a0:Value}(g:Inv X p4 σ H0 s0)(I:Inv X p4 σ H s)(x:gL H s.heap s0.heap ea (.ref C))(nT:s0.heap.get? T=none)(hT:H T=none)
  (th:∀b o,s0.heap.get? b=some o->∃o',s.heap.get? b=some o')
  (fl:Heap.FlyingW (hideAll s.heap (ea::T::qR X.stack)) X.stack ea (.ref C) a0 h')(us:s.heap.UpToSlots h'):
  Inv X p4 σ H { s with heap:=h' }/\gL H h' s0.heap ea (.ref C)/\Tr h' ea/\∀b o,s0.heap.get? b=some o->∃o',h'.get? b=some o':=by
 obtain⟨st,_,ff,Z,vs,t,oT,P,he,⟨A,h0⟩,hd,h1,l,B,D,w,h3⟩:=fl;have ng:s0.heap.get? ea=none:=by cases x;assumption
 have nH:H ea=none:=by cases x;assumption
 have kept:∀b o,s.heap.get? b=some o->b∉qR X.stack->b≠ea->b≠T->h'.get? b=some o:=λb o q n1 j N=>st b o (bI _ q λhm=>by
  rcases cu.mp hm with z|hm
  ·exact j z
  rcases cu.mp hm with z|hm
  ·exact N z
  ·exact n1 hm)
 have slot:∀b o,s.heap.get? b=some o->b∈qR X.stack->∃S,h'.get? b=some { o with slots:=S }:=λb o q hm=>by
  obtain⟨_,o',h,f⟩:=I.stack.mem hm;rw[q]at h;cases h;exact us b o q f
 have off:∀b u,H b=some u->b∉qR X.stack/\b≠ea/\b≠T:=λb u q=>⟨λhm=>(by rw[I.stkFree b hm]at q;cases q),λz=>(by rw[z,nH]at q;cases q),λz=>(by rw[z,hT]at q;cases q)⟩
 have ne:∀b o,s0.heap.get? b=some o->b≠ea/\b≠T:=λb o q=>⟨λz=>(by rw[z,ng]at q;cases q),λz=>(by rw[z,nT]at q;cases q)⟩
 have any:∀b o o',s0.heap.get? b=some o'->s.heap.get? b=some o->∃S,h'.get? b=some { o with slots:=S }:=λb o o' Q q=>by
  by_cases hm:b∈qR X.stack
  ·exact slot b o q hm
  ·exact⟨o.slots,kept b o q hm (ne b o' Q).1 (ne b o' Q).2⟩
 have cell:∀y c,X.env.cells.lookup y=some c->∀v,s.heap.IsCell c v->h'.IsCell c v:=λy c e v ⟨o,L,hd⟩=>by
  obtain⟨_,o0,d,_⟩:=g.cell y c e;obtain⟨S,z⟩:=any c o o0 d L;exact⟨_,z,hd⟩
 have inv:Inv X p4 σ H { s with heap:=h' }:=by
  refine⟨I.ok,I.os,I.bare,⟨λb o q n K nx=>?_,λb o q n hf nx=>?_,I.base.free,λb o q nx=>?_,I.base.tups,I.base.frzs,I.base.tbls⟩,?_,λy c e=>?_,I.free,I.freeC,λp hp=>?_,λb u q=>?_,I.len⟩
  ·have a:=I.base.keep b o q n K nx
   have Q:=g.base.keep b o q n K nx;refine kept b o a (λhm=>?_) (ne b o Q).1 (ne b o Q).2;rcases cu.mp (I.stkSub b hm) with z|z
   ·exact absurd (aK (aM q) I.ok.above) (by rw[z];exact aT _)
   ·exact K z
  ·obtain⟨S,a⟩:=I.base.slot b o q n hf nx
   obtain⟨sl0,Q⟩:=g.base.slot b o q n hf nx;obtain⟨E,z⟩:=any b _ _ Q a;exact⟨E,z⟩
  ·obtain⟨J,a⟩:=I.base.there b o q nx
   obtain⟨o0,Q⟩:=g.base.there b o q nx;obtain⟨S,z⟩:=any b J o0 Q a;exact⟨_,z⟩
  ·obtain⟨m,⟨o,es,ep,L,r⟩,k⟩:=I.loc
   obtain⟨_,⟨o0,_,_,d,_⟩,_⟩:=g.loc;obtain⟨S,z⟩:=any _ o o0 d L;refine⟨m,⟨_,es,ep,z,r⟩,λi y v e1 e2 e3=>?_⟩;obtain⟨u,ru,lk⟩:=k i y v e1 e2 e3;refine⟨u,ru,?_⟩;rcases lk with lk|⟨lk,c,ec,M⟩
   ·exact .inl lk
   ·exact .inr ⟨lk,c,ec,cell y c ec _ M⟩
  ·obtain⟨v,hv⟩:=I.cell y c e
   exact⟨v,cell y c e v hv⟩
  ·obtain⟨p1,p2,p3,U,p5⟩:=I.pin p hp
   have Y:=(g.pin p hp).1;refine⟨kept _ _ p1 (λhm=>?_) (ne _ _ Y).1 (ne _ _ Y).2,p2,p3,U,p5⟩;rcases cu.mp (I.stkSub _ hm) with z|z
   ·exact p3 z
   ·exact U z
  ·refine(I.hok b u q).stay (λc v M z=>?_) (λ_ z=>z) λ_ _ z=>z
   rcases M with e|e
   ·obtain⟨n1,j,N⟩:=off b u q
    rw[e]at z ⊢;exact kept b v z n1 j N
   ·obtain⟨n1,j,N⟩:=off c _ e
    exact kept c v z n1 j N
 have both:s0.heap.get? t=none/\H t=none:=by
  cases q:s.heap.get? t with
  |some o=>
   by_cases hm:t∈ea::T::qR X.stack
   ·rcases cu.mp hm with z|hm
    ·exact absurd z B
    rcases cu.mp hm with z|hm
    ·rw[z];exact⟨nT,hT⟩
    ·obtain⟨S,z⟩:=slot t o q hm
     obtain⟨_,o',h,f⟩:=I.stack.mem hm;rw[q]at h;cases h;rw[D]at z;cases z;exact absurd w (f P)
   ·rw[bI _ q hm]at l;cases l
  |none=>
   constructor
   ·cases z:s0.heap.get? t with
    |none=>rfl|some o=>obtain⟨o',k⟩:=th t o z;rw[q]at k;cases k
   ·cases z:H t with
    |none=>rfl|some u=>obtain⟨o',k⟩:=(I.hok t u z).obj;rw[q]at k;cases k
 exact⟨inv,⟨ng,nH,Z,vs,a0,he,A,hd,h0,.inr ⟨t,oT,P,h1,B,both.1,both.2,D,w,h3⟩⟩,⟨Z,vs,t,he,hd,h1⟩,λb o q=>by
  obtain⟨J,a⟩:=th b o q;obtain⟨S,z⟩:=any b J o q a;exact⟨_,z⟩⟩
def flying (I:Inv X p4 σ H s)(x:gL H s.heap s0.heap ea (.ref C))(tr:Tr s.heap ea):
  ∃T A,s0.heap.get? T=none/\H T=none/\Heap.FlyingW (hideAll s.heap (ea::T::qR X.stack)) X.stack ea (.ref C) A s.heap:=by
 obtain⟨u,w,l,K,A,E,p,J,L,B⟩:=x;obtain⟨j,v,y,h,a,c⟩:=tr;rw[E]at h;cases h;rw[J]at a;cases a;rcases B with B|⟨T,n,t,B,g,d,i,hT,e,r⟩
 ·rw[B]at c;cases c
 ·have D:∀b∈ea::T::qR X.stack,(hideAll s.heap (ea::T::qR X.stack)).get? b=none:=λb f=>hideAll_none _ f
  exact⟨T,A,d,i,λb o q=>of_hideAll _ q,D ea (aE ..),frames_at I.stack λb f=>D b (aw _ (aw _ f)),
   l,K,T,n,t,E,⟨p,L⟩,J,B,D T (aw _ (aE ..)),g,hT,e,r⟩
end
noncomputable def WW (o:Obj):HO:=.frz o (.own 0)
noncomputable def JY (K:Frag)(C D:Addr):Bool:=match K.lookup C with
 |some ⟨_,_,.cls c,_⟩=>c.mro.contains (.ref D)|_=>false
def iW {K:Frag}{C:Addr}(X:K.In h)(e:JY K C D=true):LO h C D:=by
 unfold JY at e
 split at e
 ·rename_i H
  exact⟨_,_,X _ _ H,rfl,e⟩
 ·cases e
section
variable {H0:Hp}{s0 s:Shared}{ea C L:Addr}
def Y6 (i:Inv X p4 σ H0 s0)(I:Inv X p4 σ H s)(x:gL H s.heap s0.heap ea (.ref C)):∃a,a.cls=.ref C/\H ea=none/\Inv X p4 σ (upd H ea (WW a)) s:=by
 obtain⟨j,d,a,E,A,B,l,_⟩:=x;refine⟨a,l,d,?_⟩;have t:∀b o,s0.heap.get? b=some o->b≠ea:=λb o q z=>by rw[z,j]at q;cases q
 have at_:∀b,b≠ea->upd H ea (WW a) b=H b:=λb n=>by unfold upd;exact aj n
 have N:∀b u,H b=some u->upd H ea (WW a) b=some u:=λb u q=>by
  rw[at_ b λz=>by rw[z,d]at q;cases q];exact q
 refine⟨I.ok,I.os,I.bare,⟨I.base.keep,I.base.slot,λb o q n nx=>?_,I.base.there,λb w q=>N _ _ (I.base.tups b w q),λb o u q=>N _ _ (I.base.frzs b o u q),λb ps q=>?_⟩,I.loc,I.cell,?_,λy c e=>?_,λp f=>?_,λb u q=>?_,I.len⟩
 ·obtain⟨r,Q⟩:=i.base.there b o q nx
  rw[at_ b (t b r Q)];exact I.base.free b o q n nx
 ·obtain⟨M,z⟩:=I.base.tbls b ps q
  exact⟨M,N _ _ z⟩
 ·obtain⟨m,⟨r,_,_,h,_⟩,_⟩:=i.loc
  rw[at_ _ (t _ r h)];exact I.free
 ·obtain⟨v,r,h,_⟩:=i.cell y c e
  rw[at_ _ (t _ r h)];exact I.freeC y c e
 ·obtain⟨g,P,D⟩:=I.pin p f
  refine⟨g,?_,D⟩;rw[at_ _ (t _ _ (i.pin p f).1)];exact P
 ·by_cases z:b=ea
  ·subst z
   have:u=WW a:=by
    unfold upd at q;rw[ah rfl]at q;exact(aI q).symm
   subst this;exact⟨B,⟨a,B⟩⟩
  ·rw[at_ b z]at q
   exact(I.hok b u q).stay (λ_ _ _ z=>z) (λc z=>N c _ z) λc w z=>N c _ z
def iX (X:Cx)(p:bU)(c:St)(S:Shared)(D:Addr)(k:Addr->Addr->Hp->Prop)(e:Value)(s:Shared):Prop:=
 ∃E C H B n,e=.ref E/\Inv X p c H s/\gL H s.heap S.heap E (.ref C)/\Tr s.heap E/\(∀b o,S.heap.get? b=some o->∃d,s.heap.get? b=some d)/\Mi.ZR X.K C B n=true/\JY X.K C D=true/\∀a,a.cls=.ref C->H E=none->k E C (upd H E (WW a))
def iY {l n:Str}{p:bS}{rn:String}{S:cg}{B:Stmt}{np hp:Pos}{Q:Flow->Shared->Prop}{k:Addr->Addr->Hp->Prop}
  (I0:Inv X p4 σ H0 s0)(t:X.stack=X.env::X.outer)(hL:X.env.frame=some L)(hD:kJ X.K l (.ref D))(exD:Mi.ZR X.K D p rn=true)(hbD:p.contains (.type "BaseException")=true)
  (hN:X.N.Nodup)(hi:X.N[i]? =some n)(hx:Loc X.env.scope n)
  (y:wpAny (model X.prog X.w) X.A (execs body X.env) (λf s1=>f=.next/\Q .next s1) (iX X p4 σ s0 D k) s0)
  (b:∀E C H s2,Inv X p4 (σ.set i (some (.ref E))) H s2->k E C H->∀E',wpAny (model X.prog X.w) (X.A.mark (some (.ref E))) (execs (B::S) X.env)
   (λf s4=>wpAny (model X.prog X.w) X.A (do bindName X.env n .none;unbindBehindTheSuite X.env n hp) (λ_ s5=>Q f s5) X.xe s4) E' s2)
  (hg:Gl X l)(hdb:(l==("__debug__":Str))=false:=by decide)(hf:X.fn n=true∨X.env.scope.names.lookup n=some .local:=by first|exact .inl rfl|exact .inr rfl|assumption):
  wpAny (model X.prog X.w) X.A (exec (.Try body [.ExceptHandler (some (.Name l np)) (some n) (B::S) hp] [] [] p6) X.env) Q X.xe s0:=by
 refine wpAny_Try_except (wpAny_mono y (λf s1 ⟨ef,q⟩=>?_) λe s1 h=>?_)
 ·subst ef
  exact wpAny_execs_nil q
 obtain⟨E,C,H,bmC,newC,rfl,I,x,tr,th,exC,up,hk⟩:=h;have hm:X.mg l=some (.ref D):=bC I.mod.kin I.mod.glob hD;obtain⟨T,a0,nT,hT,fl⟩:=flying I x tr;have Z:X.A.frames=some (X.env::X.outer):=by rw[<- t];exact I.ok.frames
 refine wpAny_looks_onW Z hL (by rw[<- t];exact fl) λh₄ g d=>?_
 refine wpAny_landsW g λo a U=>?_;obtain⟨c,x5,r,J⟩:=landed I0 I x nT hT th (by rw[<- t]at a;exact a) (d.trans U)
 obtain⟨_,_,oe,_,_,he,hc,_⟩:=id x5;refine wpAny_handleBy_cons (codeAny_handlers_test (Calls.Name_function_global c.ok.kind hg (Calls.loadGlobal_global (by rw[c.ok.glob];exact c.mod.glob.keeps c.bk) hm ?_) hdb)) (by intro q;cases q)
 refine CY (s:={ s1 with heap:=o }) (S9 c.kIn exC) (S9 c.kIn exD) hbD he hc (iW c.kIn up) ?_
 refine codeAny_handlers_suite_as ?_;obtain⟨T',a0',P,hT',fl'⟩:=flying c x5 r;refine lands_againW fl' λh₆ j u=>?_;obtain⟨I6,x6,_,_⟩:=landed I0 c x5 P hT' J j u;obtain⟨of,Y,M,I7⟩:=Y6 I0 I6 x6;exact YE (v:=.ref E) I7 hN hi hx rfl (λs7 I7=>b E C _ s7 I7 (hk of Y M) _) hf
end
section
variable {s:Shared}{A:Around}
def name_goes {n:Str}{Q:Unit->Shared->Prop}(I:Inv X p4 σ H s)(hN:X.N.Nodup)(D:X.N[i]? =some n)(Z:X.env.scope.names.lookup n=some .local)
  (h:∀s',Inv X p4 (σ.set i none) H s'->Q () s'):wpAny M A (do bindName X.env n .none;unbindBehindTheSuite X.env n p6) Q E s:=by
 obtain⟨m,hn,Y⟩:=id I.loc;have f:i < σ.length:=by rw[I.len];exact(cw.mp D).1
 refine wpAny_nameGoes_keeps Z hn (by rw[I.ok.kind];rfl) λh' v w t=>h _ ?_
 have old:∀b o,b≠X.env.locals->s.heap.get? b=some o->h'.get? b=some o:=λb o n q=>(t.2 b n).trans q;have nl:∀{b:Addr}{u:HO},H b=some u->b≠X.env.locals:=λq z=>by rw[z,I.free]at q;cases q
 have ab:∀{b:Addr}{k:Nat},b<k->k<=X.env.locals->b≠X.env.locals:=λl g=>aO (aK l g);refine⟨I.ok,I.os,I.bare,⟨λb o e z C x=>?_,λb o e z C x=>?_,I.base.free,λb o e x=>?_,I.base.tups,I.base.frzs,I.base.tbls⟩,⟨_,w,λj y K a r e3=>?_⟩,λy c e=>?_,I.free,I.freeC,λp T=>?_,λb u q=>?_,by simpa using I.len⟩
 ·exact old b o (ab (aM e) I.ok.above) (I.base.keep b o e z C x)
 ·obtain⟨S,a⟩:=I.base.slot b o e z C x
  exact⟨S,old b _ (ab (aM e) I.ok.above) a⟩
 ·obtain⟨o',a⟩:=I.base.there b o e x
  exact⟨o',old b _ (ab (aM e) I.ok.above) a⟩
 ·by_cases B:j=i
  ·subst B
   rw[ay f]at r;cases r
  ·rw[ax (Ne.symm B)]at r
   obtain⟨U,L,q⟩:=Y j y K a r e3;refine⟨U,L,?_⟩;rcases q with ⟨k,e⟩|⟨k,c,e,z⟩
   ·have:y≠n:=λe=>B (UI hN a (e ▸ D))
    exact .inl ⟨k,by simp[this,e]⟩
   ·exact .inr ⟨k,c,e,z.sameBut t (I.cne y c e)⟩
 ·obtain⟨J,z⟩:=I.cell y c e
  exact⟨J,z.sameBut t (I.cne y c e)⟩
 ·obtain⟨e,z,ne,P,d⟩:=I.pin p T
  exact⟨old _ _ ne e,z,ne,P,d⟩
 ·refine(I.hok b u q).stay (λc v hc z=>old c v ?_ z) (λ_ z=>z) λ_ _ z=>z
  rcases hc with e|e
  ·rw[e];exact nl q
  ·exact nl e
def CU {j:Nat}{n y:Str}{E:Addr}{D Y J p:Pos}{Q:Flow->Shared->Prop}{C:bY}(I:Inv X p4 (σ.set i (some (.ref E))) H s)(d:X.N.Nodup)(b:X.N[i]? =some n)(x:X.N[j]? =some y)
  (h:X.env.scope.names.lookup n=some .local)(g:Loc X.env.scope y)(q:∀s',Inv X p4 (((σ.set i (some (.ref E))).set j (some (.ref E))).set i none) H s'->Q .next s')
  (o:swapsWith (.Name n D) (some (.Name y Y)) J.line X.env=pure false)(P:X.fn y=true∨X.env.scope.names.lookup y=some .local)
  (c:(n==("__debug__":Str))=false:=by decide):
  wpAny (model X.prog X.w) A (execs [.Assign [.Name y Y] (.Name n D) J] X.env) (λf K=>wpAny (model X.prog X.w) X.A (do bindName X.env n .none;unbindBehindTheSuite X.env n p) (λ_ S=>Q f S) X.xe K) C s:=by
 obtain⟨m,L,t⟩:=I.loc;have a:i < σ.length:=by have:=I.len;rw[bN]at this;rw[this];exact(cw.mp b).1
 obtain⟨u,r,l⟩:=t i n (.ref E) b (ay a) (.inl h);obtain rfl:u=Value.ref E:=r;have M:m n=some (.ref E):=by
  rcases l with ⟨_,e⟩|⟨k|k,_⟩
  ·exact e
  ·rw[show X.env.kindOf n=some .local from h]at k;cases k
  ·rw[show X.env.kindOf n=some .local from h]at k;cases k
 refine wpAny_execs_cons (wpAny_Assign_Name (wpAny_Name (wpAny_loadName_local I.ok.kind h L M ?_) c) o);exact YE (v:=.ref E) I d x g rfl (λS B=>wpAny_execs_nil (name_goes B d b h q)) P
end
open PySem PySem.W PySem.Spec PySem.Calls PyProof.Rows Builtin Builtin.ObjectAttr Builtin.Getset_descriptor
section
variable {prog:Program}{A:Around}{s:Shared}{K:Frag}{x:Addr}{name:Str}
def iZ {a g:Value}(X:K.In h)(b:findIn K (.ref D) name=some (some a))(n:specialIn K a "__get__"=some (some g))(H:takesIn K a=some true):Looks M h (find (.ref x) (.ref D) name) (.bind g a):=
 (looks_findIn (M:=M) X b).andThen ((show Looks M h (getOf (some a)) (some g) from looks_specialIn X n).andThen
  ((show Looks M h (dataDescriptor? (some a) (some g)) (some (g,a)) from (looks_takesIn (M:=M) X H).andThen .now).andThen (Looks.tag .now)))
def i0 {t:Value}{R:Result->Shared->Prop}(X:K.In s.heap)(l:Looks (model prog w) s.heap (typeOf (.ref x)) (.ref D))(H:mroIn K D (.type "object")=some true)(h:R (.ok (.ret (.ref D))) s):
  codeAny (model prog w) A (.call (.builtin "getset_descriptor.__get__") ⟨[.builtin "object.__class__",.ref x,t],[]⟩) R s:=by
 obtain⟨a,g,d,T,o⟩:=s;have L:=looks_mroIn (M:=model prog w) X H;have S:=KF.slot_gs;refine codeAny_call_builtin S.plain KF.entry_gs (S.check _ _ _ _ _ _ _ _ KF.type_class (KF.args_gs _ _ _) ?_);unfold «getset_descriptor.__get__» descrGet;rw[dga_obj];refine cj (cm ?_);unfold descrGetter descrCheckInstance isInstance descrNameAndClass;simp only[KF.owner_class]
 repeat lk
 refine And.intro (Code.quiet_builtin _ (by decide +kernel)) (codeAny_builtin KF.entry_class ?_)
 unfold «object.__class__» shownTypeOf
 repeat lk
 exact h
def CQ {t:bS}{w:List (Str×Value)}{Q:Unit->Shared->Prop}(X:K.In s.heap)(l:Looks M s.heap (typeOf (.ref x)) (.ref D))(H:mroIn K D (.type "BaseException")=some true)
  (ok:argsOk "BaseException.__getattribute__" ⟨.ref x::t,w⟩)(h:Q () s):wpAny M A (checkBuiltinCall "BaseException.__getattribute__" ⟨.ref x::t,w⟩) Q E s:=by
 have cut:splitId "BaseException.__getattribute__"=some ("BaseException","__getattribute__"):=by first|rfl|decide +kernel
 have a:builtinKind "BaseException.__getattribute__"=some .slot∨builtinKind "BaseException.__getattribute__"=some .method:=by
  simp only[builtinKind,cut]
  first|exact .inl (by decide +kernel)|exact .inr (by decide +kernel)
 have L:=looks_mroIn (M:=M) X H;have r:wpAny M A (match Manifest.signature? "BaseException.__getattribute__" with|some S=>Bind.checkArgs "BaseException.__getattribute__" S ⟨.ref x::t,w⟩|none=>pure ()) Q E s:=wpAny_of_eq ok h
 rcases a with d|d
 all_goals
  unfold checkBuiltinCall;rw[d,cut];dsimp only;unfold isInstance;refine cj (cj (l.at (L.at ?_)));exact r
def DI {Q:Option Value->Shared->Prop}(b:findIn K (.ref D) "__getattribute__"=some (some (.builtin "BaseException.__getattribute__")))(n:findIn K (.ref D) "__getattr__"=some none)
  (e:findIn K (.ref D) "__class__"=some (some (.builtin "object.__class__")))
  (i:specialIn K (.builtin "object.__class__") "__get__"=some (some (.builtin "getset_descriptor.__get__")))(H:takesIn K (.builtin "object.__class__")=some true)(j:mroIn K D (.type "object")=some true)(a:mroIn K D (.type "BaseException")=some true)
  (X:K.In s.heap)(L:Looks (model prog w) s.heap (typeOf (.ref x)) (.ref D))(h:Q (some (.ref D)) { s with toks:=s.toks+1 }):wpAny (model prog w) A (getAttr? (.ref x) "__class__") Q E s:=by
 obtain⟨c,g,d,t,o⟩:=s;have l:=looks_findIn (M:=model prog w) X b;have L2:=iZ (M:=model prog w) (x:=x) X e i H;have f:=looks_findIn (M:=model prog w) X n;unfold getAttr?;unfold getAttrBy?;unfold getAttrBy;refine cj (wpAny_mkText (cj (wpAny_attempt (wpAny_holding (cj (L.at (cj (l.at ?_))))))));show wpAny _ _ (getAttrByItsOwn (.ref x) (.str "__class__" t) (.ref D) (.builtin "BaseException.__getattribute__") false false) _ _ _;unfold getAttrByItsOwn;refine cj ?_;show wpAny _ _ (typeLookup (.ref D) "__getattr__") _ _ _;refine f.at (cj (wpAny_attempt (wpAny_holding ?_)));show wpAny _ _ (bindSpecial (.builtin "BaseException.__getattribute__") (.ref x) >>= _) _ _ _;refine cj (wpAny_of_eq (F.excAttr_ValueError.ga.bind _) ?_);refine wpAny_call (codeAny_call_builtin F.excAttr_ValueError.ga.plain F.entry_bexc_ga (CQ X L a (F.args_bexc_ga _ _) ?_));unfold «object.__getattribute__»;refine cj (wpAny_of_eq (show slotArgs "__getattribute__" 1 ⟨[.ref x]++[.str "__class__" t],[]⟩=pure (.ref x,[.str "__class__" t]) from rfl) ?_)
 refine cj (wpAny_of_eq (show attrName (.str "__class__" t)=pure ("__class__":Str) from rfl) (cj (L.at (cj (L2.at ?_)))))
 show wpAny _ _ (holding [Value.builtin "object.__class__"] (call (.builtin "getset_descriptor.__get__") [.builtin "object.__class__",.ref x,.ref D]) >>= ret) _ _ _;refine cj (wpAny_holding (wpAny_call (i0 (s:=⟨c,g,d,t+1,o⟩) X L j ?_)));refine cm ?_;exact handed_on rfl (cm h)
end
def Xs (x D:Addr)(h:Heap):Prop:=∃o,h.get? x=some o/\o.cls=.ref D
def Xs.ty {x:Addr}(p:Xs x D h):Looks M h (typeOf (.ref x)) (.ref D):=by
 obtain⟨o,H,c⟩:=p;rw[<- c];exact(Looks.ld H).andThen .now
def i3 {K:Frag}{x:Addr}(d:(clsIn K D).isSome=true)(c:findIn K (.ref D) "__getattribute__"=some (some (.builtin "BaseException.__getattribute__")))(b:findIn K (.ref D) "__getattr__"=some none)(e:findIn K (.ref D) "__class__"=some (some (.builtin "object.__class__")))
  (j:specialIn K (.builtin "object.__class__") "__get__"=some (some (.builtin "getset_descriptor.__get__")))(H:takesIn K (.builtin "object.__class__")=some true)(r:mroIn K D (.type "object")=some true)(a:mroIn K D (.type "BaseException")=some true):
  KitX K (.ref x) (.ref D) (Xs x D) where
 ty:=λ_ _ _ p=>p.ty
 it:=λ_ _ X _=>by
  obtain⟨C,h⟩:=Option.isSome_iff_exists.mp d;unfold clsIn at h
  split at h
  ·rename_i g w f S o
   intro A Q E u k q;unfold isType loadHead;exact cj (wpAny_loadPart (k _ _ (X D _ o)) (cm q))
  ·cases h
 ne:=λ_ T v i n l X t=>by
  obtain⟨C,h⟩:=Option.isSome_iff_exists.mp d;rw[Bool.eq_false_iff];intro q;cases Value.ref.inj (aL.mp q);unfold clsIn at h
  split at h
  ·rename_i o
   cases (X _ _ o).symm.trans t
  ·cases h
 ca:=λX p k=>DI c b e j H r a X p.ty k
noncomputable def Wv (K:Frag)(C:Addr):Bool:=(PySem.W.clsIn K C).isSome&&(PySem.W.findIn K (.ref C) "__getattribute__" == some (some (.builtin "BaseException.__getattribute__")))&&(PySem.W.findIn K (.ref C) "__getattr__" == some none)&&(PySem.W.findIn K (.ref C) "__class__" == some (some (.builtin "object.__class__")))&&
 (PySem.W.specialIn K (.builtin "object.__class__") "__get__" == some (some (.builtin "getset_descriptor.__get__")))&&(PySem.W.takesIn K (.builtin "object.__class__")==some true)&&(PySem.W.mroIn K C (.type "object")==some true)&&(PySem.W.mroIn K C (.type "BaseException")==some true)
section
variable {s:Shared}{A:Around}{c:Value}{b:Bool}{ea C:Addr}
def i4 {o:Obj}{u:HO}(I:Inv X p4 σ H s)(e:H ea=some (.frz o u))(d:o.cls=.ref C)(k:Wv X.K C=true)(q:kitOne X.K (.ref C) c=some b)(h:∀t,Q (.bool b) { s with toks:=t }):
  wpAny (model X.prog X.w) A (call (.builtin "isinstance") [.ref ea,c]) Q E s:=by
 have p:Xs ea C s.heap:=⟨o,(show jg X.prog X.w H s.heap ea (.frz o u) from I.hok ea _ e).1,d⟩
 unfold Wv at k;simp only[ak,aL]at k;obtain⟨⟨⟨⟨⟨⟨⟨r,n⟩,a⟩,l⟩,i⟩,j⟩,g⟩,f⟩:=k;exact bA (i3 r n a l i j g f) I.kIn p q (λz=>nomatch z) h
def i5 (I:Inv X p4 σ H s)(q:kitOne X.K (.type "NoneType") c=some b)(h:∀t,Q (.bool b) { s with toks:=t }):wpAny (model X.prog X.w) A (call (.builtin "isinstance") [.none,c]) Q E s:=
 NK I (x:=.non) rfl .non q h
end
def wR (P:Program)(w:World)(K:Frag)(M:b8)(b:Heap)(N:bX)(qual:Str)(scope:Scope)(f:Addr)(c:Value)(cl:cb)(A:Around)(o:b9)(s:Shared)(H:Hp)(E:XK):Cx where
 prog:=P
 w:=w
 K:=K
 mg:=M
 base:=b
 A:=A.deeper (envX qual scope s.heap.objs.size f c cl)
 N:=N
 s0:=s
 H0:=H
 env:=envX qual scope s.heap.objs.size f c cl
 outer:=o
 stack:=envX qual scope s.heap.objs.size f c cl::o
 ex:=[]
 calm:=true
 fn:=λ_=>false
 pn:=[]
 xe:=λe d=>wpAny (model P w) (A.deeper (envX qual scope s.heap.objs.size f c cl)) (leaving (envX qual scope s.heap.objs.size f c cl) e) (λ_ S=>gW P w o H s E e S) (λa S=>gW P w o H s E a S) d
section
variable {K:Frag}{cd:Value}{cl:cb}{A:Around}{outer:b9}{s:Shared}{E:XK}
def Be {h:Hp}{a C:Addr}(I:Inv (wR P w K mg base N qual scope f cd cl A outer s H E) p4 σ h s')(x:gL h s'.heap s.heap a (.ref C))(y:E (.ref C) none h):
  (wR P w K mg base N qual scope f cd cl A outer s H E).xe (.ref a) s':=by
 have bs:Un (qR outer) [] H h s.heap s'.heap:=I.base;have J:∀b∈qR (envX qual scope s.heap.objs.size f cd cl::outer),h b=none:=I.stkFree;have p:s.heap.get? s.heap.objs.size=none:=Heap.get?_none_of_le (aq _);have g:(envX qual scope s.heap.objs.size f cd cl).frame=some s.heap.objs.size:=rfl;have mem:∀b,b∈qR (envX qual scope s.heap.objs.size f cd cl::outer)↔b=s.heap.objs.size∨b∈qR outer:=λb=>by
  unfold qR;rw[ba,g];exact mem_cons
 show wpAny (model P w) (A.deeper (envX qual scope s.heap.objs.size f cd cl)) (leaving (envX qual scope s.heap.objs.size f cd cl) (.ref a)) _ _ s';refine LK (base:=base) (L:=s.heap.objs.size) I.ok.frames rfl I.stack x (λb u e=>(I.hok b u e).obj) (λb o e=>bs.there b o e (by simp)) λY D U X t=>?_
 have r:∀b u,h b=some u->b∉qR (envX qual scope s.heap.objs.size f cd cl::outer):=λb u e B=>by rw[J b B]at e;cases e
 refine⟨a,C,h,rfl,I.os,I.bare,⟨λb o e n nb _=>?_,λb o e n T _=>?_,λb o e n d=>bs.free b o e n d,λb o e d=>?_,bs.tups,bs.frzs,bs.tbls⟩,λb u e=>?_,X,t,y⟩
 ·have i:b≠s.heap.objs.size:=λz=>by rw[z,p]at e;cases e
  exact D b o (bs.keep b o e n nb (by simp)) (λB=>(mem b).mp B |>.elim i nb) (.inl ⟨o,e⟩)
 ·obtain⟨l,q⟩:=bs.slot b o e n T (by simp)
  obtain⟨S,Q⟩:=U b _ q ((mem b).mpr (.inr T));exact⟨S,Q⟩
 ·obtain⟨M,q⟩:=bs.there b o e d
  by_cases B:b∈qR (envX qual scope s.heap.objs.size f cd cl::outer)
  ·obtain⟨l,z⟩:=U b M q B;exact⟨_,z⟩
  ·exact⟨M,D b M q B (.inl ⟨o,e⟩)⟩
 ·refine(I.hok b u e).stay (λc v j q=>?_) (λ_ q=>q) λ_ _ q=>q
  rcases j with z|z
  ·rw[z]at q ⊢;exact D b v q (r b u e) (.inr ⟨u,e⟩)
  ·exact D c v q (r c _ z) (.inr ⟨_,z⟩)
def IG:gf (wR P w K mg base N qual scope f cd cl A outer s H E) s.heap (gn K E) where
 th:=λp g h S I b o e=>(show Un (qR outer) [] H h s.heap S.heap from I.base).there b o e (by simp)
 out:=λp g h S d C x I l c a=>Be I l (a C c)
structure UW (N:bX)(sc:Scope):Prop where
 kind:sc.kind=.function
 co:sc.isCoroutine=false
 gen:sc.isGenerator=false
 nocell:∀y∈sc.names,y.2≠.cell
structure G9 (base:Heap)(N:bX)(scope:Scope)(cl:cb)(vs:List V):Prop where
 len:vs.length=N.length
 inj:∀x y c,cl.lookup x=some c->cl.lookup y=some c->x=y
 has:∀x,scope.names.lookup x=some .free->∃c,cl.lookup x=some c
 cell:∀x c,cl.lookup x=some c->∃v,base.IsCell c v
 val:∀(i:Nat)(x:Str)(v:V),N[i]? =some x->vs[i]? =some v->∃c u,scope.names.lookup x=some .free/\cl.lookup x=some c/\base.IsCell c (some u)/\RelV v u
def i6 {J:Heap}{T:Tok}(S:UW N scope)(L:A.handled=none)(d:JW P w K mg base A outer s H)(C:G9 base N scope cl vs)(l:∃m,J.Ns s.heap.objs.size m)(q:∀b o,s.heap.get? b=some o->J.get? b=some o):
  Inv (wR P w K mg base N qual scope f cd cl A outer s H E) [] (L2.start N vs) H { s with heap:=J,toks:=T }:=by
 have n:∀b:Addr,b∉(wR P w K mg base N qual scope f cd cl A outer s H E).ex:=λb z=>absurd (show b∈([]:bT) from z) (by simp)
 have bk:∀c v,base.IsCell c v->J.IsCell c v/\H c=none:=λc v ⟨o,t,L⟩=>⟨⟨o,q _ _ (d.bs _ _ t).1,L⟩,(d.bs _ _ t).2⟩;obtain⟨m,M⟩:=l;refine⟨⟨d.mod,S.kind,rfl,rfl,aq _,C.inj,λy g=>?_,λy c z _=>(nomatch z),λ_=>L,Around.frames_deeper d.frames,.inr ⟨rfl,rfl⟩,λb z=>absurd z (n b),d.bs,d.bsz,λb _ _=>n b,λb z=>absurd z (n b),d.funs,d.frf⟩,
  rfl,d.bare,Un.kept q,⟨m,M,λi y v J I D=>?_⟩,λy c h=>?_,d.hok.fresh (aq _),λy c h=>?_,λp x=>absurd (show p∈([]:bU) from x) (by simp),d.hok.kept q,?_⟩
 ·have g:scope.names.lookup y=some .cell∨scope.names.lookup y=some .free:=g
  rcases g with g|g
  ·exact absurd rfl (S.nocell _ (PySem.mem_of_lookup g))
  ·exact C.has y g
 ·have j:i<vs.length:=by
   unfold L2.start at I
   by_cases j:i<vs.length
   ·exact j
   ·rw[au (by simpa using j)]at I
    rw[bt]at I
    split at I<;>cases I
  have B:vs[i]? =some v:=by
   unfold L2.start at I;rw[ai (by simpa using j),ar]at I
   cases e:vs[i]? with
   |none=>rw[e]at I;cases I|some a=>rw[e]at I;cases I;rfl
  obtain⟨c,u,k,e,z,r⟩:=C.val i y v J B;exact⟨u,r,.inr ⟨.inr k,c,e,(bk _ _ z).1⟩⟩
 ·obtain⟨v,z⟩:=C.cell y c h
  exact⟨v,(bk _ _ z).1⟩
 ·obtain⟨v,z⟩:=C.cell y c h
  exact(bk _ _ z).2
 ·unfold L2.start
  show _=N.length;rw[av,ag,bB,C.len];omega
def LF (o:Obj)(q:Str):Prop:=∃v t,o.data=.fields v/\v[1]? =some (.str q t)
def i7 {k:Nat}{name:Str}{params:Arguments}{body:Expr}{pm ctv:Value}{c:Addr}{i:Obj}{u uc:HO}{m:Ev}(S:UW N scope)(C:G9 base N scope cl vs)(p:LF i qual)
  (g:∀(A:Around)(outer:b9)(s:Shared)(H:Hp)(E:XK),jF k (A.deeper (envX qual scope s.heap.objs.size a (.ref c) cl))->gf (wR P w K mg base N qual scope a (.ref c) cl A outer s H E) s.heap (gn K E)->
   SE (wR P w K mg base N qual scope a (.ref c) cl A outer s H E) (gn K E) body m):
  yN P w K mg base (gW P w) (k+1) a (kla_fn name qual params body scope cl pm (.ref c) ctv) [] (λus H Q E=>us=[]/\H a=some (.frz (kla_obj name qual params body scope cl pm c ctv) u)/\H c=some (.frz i uc)/\
   ∃φ A ws,zX K φ A H/\zK K φ H ws vs/\(m (ws.map some) A).post (PB K φ H Q) (EB K φ H (gn K E))):=by
 refine⟨λus H Q E h=>by rw[h.1];rfl,λA outer s H args us L Q E n l hb r h=>?_⟩
 obtain⟨rfl,h1,h2,φ,A1,ws,Sm,D,hp⟩:=h;cases r;have ho:s.heap.get? a=some (kla_obj name qual params body scope cl pm c ctv):=(show jg P w H s.heap a (.frz _ u) from l.hok a _ h1).1
 have hc:s.heap.get? c=some i:=(show jg P w H s.heap c (.frz i uc) from l.hok c _ h2).1
 have lim:s.heap.NoLimit:=l.mod.nolimit.keeps λb o e=>(l.bs b o e).1;obtain⟨M,U,B,hd2⟩:=p;refine kla_callFunE n.depth ho rfl S.co S.gen rfl ⟨c,i,M,U,rfl,hc,B,hd2⟩ (hb _ _ _ _ ?_);refine wpAny_newFunctionEnv S.nocell (λy Y=>absurd (show y∈([]:List (Str×Value)) from Y) (by simp)) (λd t j=>⟨lim.fresh _ j,?_⟩) S.kind
 show codeAny _ _ (.expr body (envX qual scope s.heap.objs.size a (.ref c) cl)) _ _;have f:∀b o,s.heap.get? b=some o->d.get? b=some o:=λb o e=>j.extBut b o (aO (aM e)) (af _ e);have I:∀T,Inv (wR P w K mg base N qual scope a (.ref c) cl A outer s H E) [] (L2.start N vs) H { s with heap:=d,toks:=T }:=λT=>i6 S n.hd l C ⟨_,t⟩ f
 refine kla_codeExpr (wpAny_mono (g A outer s H E (n.deeper _) IG [] _ (L2.start N vs) H Q (I _) ⟨φ,A1,_,Sm,RE.start (N:=N) D,?_⟩) (λv s' Z=>?_) λ_ _ y=>y)
 ·have:N.length-ws.length=0:=by rw[D.length,C.len];omega
  rw[this,List.replicate_zero,a3];exact hp
 ·obtain⟨x,H',J,X,q⟩:=Z
  exact⟨x,H',J.os,J.bare,J.base,J.hok,X,q⟩
end
inductive zfE (K:Frag)(a:Addr)(ob:Obj)(u:HO)(c:Addr)(oc:Obj)(uc:HO)(vs:List V)(g:Fn)(us:List V)(H:Hp)(Q:VK)(E:XK):Prop
 |mk (e:us=[]) (h1:H a=some (.frz ob u)) (h2:H c=some (.frz oc uc)) (φ:bT) (A:Hx) (ws:List W) (S:zX K φ A H) (r:zK K φ H ws vs) (q:(g ws A).post (PB K φ H Q) (EB K φ H (gn K E)))
def Jl (P:Program)(w:World)(K:Frag)(M:b8)(b:Heap)(j:Nat)(p:Obj->Addr->Obj->List V->Prop)(g:Fn):Prop:=
 ∀a ob u c o U v,p ob c o v->(∃f,ob.data=.func f)/\∃f,yN P w K M b (gW P w) j a f [] (zfE K a ob u c o U v g)/\∀s,BindsTo s f ⟨[],[]⟩ []
open Classical in
noncomputable def X3 (i:Nat)(PG:Nat->Obj->Addr->Obj->List V->Prop)(l:Nat->Fn):Ev:=λa A=>match a[i]? with
 |some (some (.clo k ws P))=>if P=PG k then l k ws A else .bad|_=>.bad
def W3 (i j l:Nat)(c:bX)(PG:Nat->Obj->Addr->Obj->List V->Prop)(L:Nat->Fn):Ex:=λa A=>match X3 i PG L a A with
 |.ok _ b=>.ok (.nx a) b|.exc x b=>if c.contains x then .ok (.nx (((a.set l (some (.xc x))).set j (some (.xc x))).set l none)) b else .bad|.bad=>.bad
section
variable {K:Frag}
def RE.unset (r:RE K φ H ρ σ):RE K φ H (ρ.set i none) (σ.set i none):=
 ⟨by simp[r.len],λj u e=>by
  by_cases h:i=j
  ·subst h
   have a:i < ρ.length:=by
    have:=(cw.mp e).1
    simpa using this
   rw[ay a]at e;cases e
  ·rw[ax h]at e
   obtain⟨x,c,b⟩:=r.get j u e;exact⟨x,by rw[ax h];exact c,b⟩⟩
end
def Ho (K:Frag)(c:bT)(H:Hp)(d:En)(j l:Nat)(D:Ends)(x:Str)(A:Hx):Prop:=∀a h b,Le K c H a h->zX K a A h->RE K a h (((d.set l (some (.xc x))).set j (some (.xc x))).set l none) b->D.nx b h
inductive zg2 (K:Frag)(φ:bT)(H:Hp)(ρ:En)(j l:Nat)(D0:Ends)(ea C:Addr)(H':Hp):Prop
 |mk (xn:Str) (q7:bT) (A':Hx) (le:Le K φ H q7 H') (S:zX K q7 A' H') (rv:RV K q7 H' (.xc xn) (.ref ea)) (n:Ho K φ H ρ j l D0 xn A')
inductive zha (K:Frag)(φ:bT)(H:Hp)(ρ:En)(j l:Nat)(D0:Ends)(cs:bX)(Cv:Value)(d:cf)(H1:Hp):Prop
 |mk (xn:Str) (Ca:Addr) (e:Cv=.ref Ca) (hC:kJ K xn (.ref Ca)) (hc:cs.contains xn=true) (rf:bT) (A1:Hx) (le:Le K φ H rf H1) (S:zX K rf A1 H1) (n:Ho K φ H ρ j l D0 xn A1)
def Hn (K:Frag)(f:Str->Option Bool)(c:V):List V->Hp->VK->Prop:=λX H Q=>∃x,X=[x,c]/\((x=.non/\Q (.bl false) H)∨∃a o u C nm b,x=.ref a/\H a=some (.frz o u)/\o.cls=.ref C/\kJ K nm (.ref C)/\f nm=some b/\Q (.bl b) H)
structure WJ (K:Frag)(f:Str->Option Bool)(c:Value):Prop where
 non:kitOne K (.type "NoneType") c=some false
 exc:∀nm C b,f nm=some b->kJ K nm (.ref C)->Wv K C=true/\kitOne K (.ref C) c=some b
def je (f:Str->Option Bool)(m:Ev):Ev:=λc A=>(m c A).bind λw a=>match w with
 |.non=>.ok (.bl false) a|.xc nm=>(match f nm with
  |some b=>.ok (.bl b) a|none=>.bad)
 |_=>.bad
section
variable {m:Ev}{f:Str->Option Bool}
def N7 {cv:V}{c:Value}(g:WJ X.K f c)(n:∀u,RelV cv u->u=c):yJ X (.builtin "isinstance") (Hn X.K f cv):=by
 intro p s y H A B Q I r h;obtain⟨x,rfl,h⟩:=h;obtain⟨u,l,rfl,e,d⟩:=vals2 r;cases n _ d;rcases h with ⟨rfl,q⟩|⟨a,o,U,C,nm,b,rfl,h1,h2,j,i,q⟩
 ·cases (show u=Value.none from e)
  exact i5 I g.non λt=>⟨.bl false,H,I.tok t,rfl,q⟩
 ·cases (show u=Value.ref a from e)
  obtain⟨w,v⟩:=g.exc nm C b i j;exact i4 I h1 h2 w v λt=>⟨.bl b,H,I.tok t,rfl,q⟩
def je.read {p:V}{t:TE}(x:∀σ H Q,Q p H->t σ H Q):∀σ H Q,tM X.K xr (je f m) σ H Q->Vr (Hn X.K f p) (XJ (tM X.K xr m) (XJ t Ro)) σ H Q:=by
 rintro σ H Q ⟨y,A,B,S,r,h⟩
 refine tM.go S r (qm.mp h) λw D c n v j l d q=>?_;refine x σ n _ ?_;cases w with
 |non=>
  obtain rfl:=q;exact⟨.non,rfl,.inl ⟨rfl,j c n _ l d rfl⟩⟩
 |xc nm=>
  dsimp only at j;cases e:f nm with
  |none=>rw[e]at j;exact j.elim|some b=>
   rw[e]at j;obtain⟨a,o,u,C,rfl,i,g,Z⟩:=q;exact⟨.ref a,rfl,.inr ⟨a,o,u,C,nm,b,rfl,i,g,Z,e,j c n _ l d rfl⟩⟩
 |fn _=>exact j.elim|bl _=>exact j.elim|int _=>exact j.elim|str _=>exact j.elim|tup _=>exact j.elim|ref _=>exact j.elim|clo _ _ _=>exact j.elim
end
def Ey {a b:Int}{c C:Value}(l:bS)(h:TriplesOk l)(e:codeAmong p6 (l++[rawInt a,rawInt b,c])=some C):codeAmong p6 l=some C∨C=c:=by
 fun_induction TriplesOk l with
 |case1=>
  right
  simp only[bM,codeAmong,rawInt]at e
  split at e
  ·exact(aI e).symm
  ·cases e
 |case2 A t B u x r i=>
  simp only[List.cons_append,codeAmong]at e ⊢
  split at e
  ·rename_i H;rw[ah H];exact .inl e
  ·rename_i H;rw[aj H];exact i h e
 |case3 l f d=>exact h.elim
def BMain (M:b8)(b:Heap):Prop:=∃B o,M "__builtins__"=some (.ref B)/\B≠builtinsNs/\B≠mainGlobals/\b.get? B=some o/\o.cls=.type "module" /\ o.dict=some builtinsNs/\o.data=.plain
def JV (q:Str)(p:Arguments)(b:Expr)(scope:Scope)(C:cb):Obj->Addr->Obj->List V->Prop:=λob c o _=>(∃P v,ob=kla_obj "<lambda>" q p b scope C P c v)/\LF o q
noncomputable def Zf (n:Nat)(q:Str)(P:Addr)(k:Nat)(p:Obj->Addr->Obj->List V->Prop):Ev:=λ_ A=>match A[n]? with
 |some (.tab Q P')=>if Q=q/\P'=P then .ok (.clo k [] p) A else .bad|_=>.bad
section
variable {k:Nat}{q:Str}{P c:Addr}{params:Arguments}{body:Expr}{rm:cb}
def L1 (hB:BMain X.mg X.base)(y:X.env.code=.ref c)(C:CodeHd X.base c P)(hcl:closureFor scope X.env=pure rm)(hq:X.env.qual ++ "<lambda>"=q)(hdef:defaultsOf params X.env=([],[]):=by rfl):
  SE X xr (.Lambda params body scope p6) (Zf n q P k (JV q params body scope rm)):=by
 intro p4 s σ H Q I ⟨φ,A,ρ,S,re,h⟩;unfold Zf at h;cases Z:A[n]? with
 |none=>rw[Z]at h;exact h.elim|some o=>
  rw[Z]at h;cases o with
  |tab L P'=>
   dsimp only at h
   by_cases hc:L=q/\P'=P
   ·rw[ah hc]at h
    obtain⟨rfl,rfl⟩:=hc;obtain⟨a,ha,eaP,ps,t,Y⟩:=S.ob n _ Z;subst eaP;have hP:s.heap.get? a=some (tabObj ps):=(show jg X.prog X.w H s.heap a (.tbl ps) from I.hok a _ t)
    have hg:s.heap.Ns mainGlobals X.mg:=I.mod.glob.keeps I.bk;have hgP:mainGlobals≠a:=λz=>by
     obtain⟨o,es,ep,e,hd,_⟩:=hg;rw[z,hP]at e;cases e;cases hd
    have r:s.heap.BuiltinsAt X.mg a:=by
     obtain⟨bm,o,b1,b2,b3,b4,b5⟩:=hB;refine⟨bm,o,b1,b2,b3,λz=>?_,I.bk _ _ b4,b5⟩
     have:=(I.bs _ _ b4).2
     rw[z,t]at this;cases this
    refine PySem.W.kla_eval hdef ?_;rw[hq];have M:∀b,s.heap.objs.size<=b->H b=none:=λb r=>I.hok.fresh r;cases hf:codeAmong p6 ps.toList with
    |none=>
     refine PySem.W.kla_makeFunction (mg:=X.mg) hcl I.ok.glob hg y (C.keeps I.bk) hP Y.1 hf hgP r λf ctv h' tk hx x U hrec htb=>?_;obtain⟨c2,g,vc,tc,ec,hoc,D,hd2⟩:=hrec;cases ec;generalize j:kla_obj "<lambda>" L params body scope rm ((X.mg "__name__").getD .none) f ctv=ob;have hPc:a<s.heap.objs.size:=aM hP;have nPc:a≠f:=aO (aK hPc x);have nPf:a≠h'.objs.size:=aO (lt_trans (aK hPc x) U);have T:f≠h'.objs.size:=aO U;have hsf:s.heap.objs.size<=h'.objs.size:=aY x (bK U);have E:H f=none:=M f x;have l:H h'.objs.size=none:=M _ hsf;have H1f:upd H f (.frz g (.own 0)) h'.objs.size=none:=by rw[qC (Ne.symm T)];exact l
     generalize B:ps++#[rawInt p6.line,rawInt p6.col,.ref f]=p at htb;have S1:=S.lay (u:=.frz g (.own 0)) E;have S2:=S1.lay (u:=.frz ob (.own 0)) H1f;have fz:∀b o u,upd (upd H f (.frz g (.own 0))) h'.objs.size (.frz ob (.own 0)) b=some (.frz o u)->upd (upd (upd H f (.frz g (.own 0))) h'.objs.size (.frz ob (.own 0))) a (.tbl p) b=some (.frz o u):=λb o u e=>by
      rw[qC];exact e;intro z;rw[z,qC nPf,qC nPc,t]at e;cases e
     have fz0:∀b o u,H b=some (.frz o u)->upd (upd H f (.frz g (.own 0))) h'.objs.size (.frz ob (.own 0)) b=some (.frz o u):=λb o u e=>by
      rw[qC (wj e l),qC (wj e E)];exact e
     have tg':WZ (upd (upd (upd H f (.frz g (.own 0))) h'.objs.size (.frz ob (.own 0))) a (.tbl p)) L p:=by
      rw[<- B];refine⟨by rw[Array.toList_append];exact TriplesOk_snoc _ _ _ _ Y.1,λpos' cv e=>?_⟩
      rw[Array.toList_append]at e;rcases Ey _ Y.1 e with e|e
      ·obtain⟨c0,oc0,u0,vs0,t0,g1,g2,g3⟩:=Y.2 pos' cv e
       exact⟨c0,oc0,u0,vs0,t0,g1,by rw[B];exact fz _ _ _ (fz0 _ _ _ g2),g3⟩
      ·exact⟨f,g,.own 0,vc,tc,e,by rw[B];exact fz _ _ _ (by rw[qC T,j9]),D,hd2⟩
     obtain⟨l3,S3⟩:=S2.write (o:=.tab L a) (o':=.tab L a) Z rfl rfl ha (u:=.tbl p) ⟨rfl,p,j9,tg'⟩;have l03:Le X.K φ H φ _:=((Le.new E).trans (Le.new H1f)).trans l3;have set3:A.set n (.tab L a)=A:=by
      apply ext_getElem?
      intro i
      by_cases hi:n=i
      ·subst hi
       rw[ay (cw.mp Z).1,Z]
      ·rw[ax hi]
     rw[set3]at S3;have eP:upd (upd (upd H f (.frz g (.own 0))) h'.objs.size (.frz ob (.own 0))) a (.tbl p) a=some (.tbl p):=j9;have ec:upd (upd (upd H f (.frz g (.own 0))) h'.objs.size (.frz ob (.own 0))) a (.tbl p) f=some (.frz g (.own 0)):=by rw[qC (Ne.symm nPc),qC T,j9]
     have ef:upd (upd (upd H f (.frz g (.own 0))) h'.objs.size (.frz ob (.own 0))) a (.tbl p) h'.objs.size=some (.frz ob (.own 0)):=by rw[qC (Ne.symm nPf),j9]
     have J:∀b,b≠a->b≠f->b≠h'.objs.size->upd (upd (upd H f (.frz g (.own 0))) h'.objs.size (.frz ob (.own 0))) a (.tbl p) b=H b:=λb n1 n2 n3=>by rw[qC n1,qC n3,qC n2]
     generalize upd (upd (upd H f (.frz g (.own 0))) h'.objs.size (.frz ob (.own 0))) a (.tbl p)=H3 at S3 l03 eP ec ef J;have kp:∀b o,b≠a->s.heap.get? b=some o->(h'.push ob).get? b=some o:=λb o n e=>af _ (hx b o n e);have old:∀b o,s.heap.get? b=some o->b≠f/\b≠h'.objs.size:=λb o e=>⟨aO (aK (aM e) x),aO (aK (aM e) hsf)⟩;have N:∀b u,H b=some u->b≠f/\b≠h'.objs.size:=λb u e=>⟨wj e E,wj e l⟩;have gP:(h'.push ob).get? a=some (tabObj p):=af _ htb;have I3:Inv X p4 σ H3 { s with heap:=h'.push ob,toks:=tk }:=by
      refine I.un ⟨λb o e z r _=>?_,λb o e z r _=>?_,λb o e z _=>?_,λb o e _=>?_,λb xs e=>?_,λb o u e=>?_,λb qs e=>?_⟩ λb u e=>?_
      ·exact kp b o (λw=>by rw[w,t]at z;cases z) e
      ·exact⟨o.slots,kp b o (λw=>by rw[w,t]at z;cases z) e⟩
      ·rw[J b (λw=>by rw[w,t]at z;cases z) (old b o e).1 (old b o e).2];exact z
      ·by_cases r:b=a
       ·rw[r];exact⟨_,gP⟩
       ·exact⟨o,kp b o r e⟩
      ·rw[J b (Y5 e t (by intro w;cases w)) (N b _ e).1 (N b _ e).2];exact e
      ·rw[J b (Y5 e t (by intro w;cases w)) (N b _ e).1 (N b _ e).2];exact e
      ·by_cases r:b=a
       ·subst r
        rw[t]at e;cases e;exact⟨_,by rw[eP,<- B]⟩
       ·exact⟨#[],by rw[J b r (N b _ e).1 (N b _ e).2,e];simp⟩
      ·by_cases h1:b=a
       ·subst h1
        rw[eP]at e;cases e;exact gP
       ·by_cases h2:b=f
        ·subst h2
         rw[ec]at e;cases e;exact⟨af _ hoc,⟨_,af _ hoc⟩⟩
        ·by_cases h3:b=h'.objs.size
         ·subst h3
          rw[ef]at e;cases e;exact⟨aC _ (by rw[<- j];rfl),⟨_,aC _ (by rw[<- j];rfl)⟩⟩
         ·rw[J b h1 h2 h3]at e
          refine(I.hok b u e).stay (λd v hd z=>kp d v ?_ z) (λd z=>?_) λd xs z=>?_
          ·rcases hd with w|w
           ·rw[w];exact h1
           ·exact Y5 w t (by intro w;cases w)
          ·rw[J d (Y5 z t (by intro w;cases w)) (N d _ z).1 (N d _ z).2];exact z
          ·rw[J d (Y5 z t (by intro w;cases w)) (N d _ z).1 (N d _ z).2];exact z
     exact⟨.ref h'.objs.size,H3,I3,rfl,h φ H3 _ l03 S3 ⟨h'.objs.size,ob,.own 0,f,g,.own 0,[],rfl,ef,ec,⟨⟨_,_,j.symm⟩,vc,tc,D,hd2⟩,rfl⟩⟩
    |some cv=>
     obtain⟨f,g,u0,vc,tc,rfl,hHc,D,hd2⟩:=Y.2 p6 cv hf;refine PySem.W.kla_makeFunctionHit (mg:=X.mg) hcl I.ok.glob hg y (C.keeps I.bk) hP Y.1 hf r λctv h' tk hx hsz=>?_;generalize j:({ cls:=.type "function",data:=.func (kla_fn "<lambda>" L params body scope rm ((X.mg "__name__").getD .none) (.ref f) ctv) }:Obj)=ob;have l:H h'.objs.size=none:=M _ hsz;have I3:Inv X p4 σ (upd H h'.objs.size (.frz ob (.own 0))) { s with heap:=h'.push ob,toks:=tk }:=
      I.laid (λb o e=>af _ (hx b o e)) hsz ⟨aC _ (by rw[<- j];rfl),⟨_,aC _ (by rw[<- j];rfl)⟩⟩
     refine⟨.ref h'.objs.size,_,I3,rfl,h φ _ _ (Le.new l) (S.lay l) ⟨h'.objs.size,ob,.own 0,f,g,u0,[],rfl,j9,?_,⟨⟨_,_,j.symm⟩,vc,tc,D,hd2⟩,rfl⟩⟩;rw[qC (wj hHc l)];exact hHc
   ·rw[aj hc]at h;exact h.elim
  |_=>exact h.elim
end
structure Lm where
 N:bX
 idx:bV
 params:Arguments
 body:Expr
 scope:Scope
 m:Ev
noncomputable def JU:List Nat->En->Option (List W)
 |[],_=>some []|j::J,ρ=>match ρ[j]?,JU J ρ with
  |some (some w),some ws=>some (w::ws)|_,_=>none
noncomputable def QO:List Nat->St->Option (List V)
 |[],_=>some []|j::J,σ=>match σ[j]?,QO J σ with
  |some (some w),some ws=>some (w::ws)|_,_=>none
theorem Nz {K:Frag}(r:RE K φ H ρ σ):∀{J:bV}{d:List W},JU J ρ=some d->∃vs,QO J σ=some vs/\zK K φ H d vs
 |[],d,e=>by cases e;exact⟨[],rfl,.nil⟩|j::J,d,e=>by
  unfold JU at e;cases E:ρ[j]? with
  |none=>rw[E]at e;cases e|some ow=>cases ow with
   |none=>rw[E]at e;cases e|some w=>
    rw[E]at e;cases a:JU J ρ with
    |none=>rw[a]at e;cases e|some b=>
     rw[a]at e;cases e;obtain⟨v,g,f⟩:=r.get j w E;obtain⟨vs,c,h⟩:=Nz r a;exact⟨v::vs,by unfold QO;rw[g,c],.cons f h⟩
theorem Mj:∀{J:bV}{f:List V},QO J σ=some f->f.length=J.length/\∀(i:Nat)(v:V),f[i]? =some v->∃j,J[i]? =some j/\σ[j]? =some (some v)
 |[],f,e=>by cases e;exact⟨rfl,λi v h=>by simp at h⟩|j::J,f,e=>by
  unfold QO at e;cases E:σ[j]? with
  |none=>rw[E]at e;cases e|some ow=>cases ow with
   |none=>rw[E]at e;cases e|some w=>
    rw[E]at e;cases r:QO J σ with
    |none=>rw[r]at e;cases e|some c=>
     rw[r]at e;cases e;obtain⟨g,H⟩:=Mj r;refine⟨by simp[g],λi v h=>?_⟩
     cases i with
     |zero=>simp at h;subst h;exact⟨j,by simp,E⟩|succ i=>simp at h;obtain⟨d,a,b⟩:=H i v h;exact⟨d,by simpa using a,b⟩
noncomputable def gc (l:List Lm)(k:Nat):Fn:=λw A=>match l[k]? with
 |some t=>t.m (w.map some) A|none=>.bad
def Jq (e:Env)(q:Str)(l:List Lm)(k:Nat):Obj->Addr->Obj->List V->Prop:=λob c o v=>∃t,l[k]? =some t/\JV q t.params t.body t.scope (wm e t.scope.names []) ob c o v
def Ga (e:Env)(q:Str)(l:List Lm)(a:St)(k:Nat):Obj->Addr->Obj->List V->Prop:=λob c o v=>∃t,l[k]? =some t/\JV q t.params t.body t.scope (wm e t.scope.names []) ob c o v/\QO t.idx a=some v
structure W2 (P:Program)(w:World)(K:Frag)(mg:b8)(j:Nat)(q:Str)(t:Lm):Prop where
 sc:UW t.N t.scope
 bind:∀(cl:cb)(pm cdv ctv:Value),bindArgs (kla_fn "<lambda>" q t.params t.body t.scope cl pm cdv ctv) ⟨[],[]⟩=pure []
 body:∀(base:Heap)(cl:cb)(a c:Addr)(A:Around)(outer:b9)(s:Shared)(H:Hp)(E:XK),jF j (A.deeper (envX q t.scope s.heap.objs.size a (.ref c) cl))->gf (wR P w K mg base t.N q t.scope a (.ref c) cl A outer s H E) s.heap (gn K E)->
  SE (wR P w K mg base t.N q t.scope a (.ref c) cl A outer s H E) (gn K E) t.body t.m
section
variable {K:Frag}{j:Nat}{q:Str}{ls:List Lm}
def i8 (l:∀t∈ls,W2 P w K mg j q t)(e:∀t∈ls,∀vs,QO t.idx σ=some vs->G9 base t.N t.scope (wm env t.scope.names []) vs)(k:Nat):Jl P w K mg base (j+1) (Ga env q ls σ k) (gc ls k):=by
 rintro a ob u c o U vs ⟨t,i,⟨⟨y,C,rfl⟩,b⟩,v⟩
 have M:t∈ls:=bq i;have L:=l t M;refine⟨⟨_,rfl⟩,_,((i7 (name := "<lambda>") (params:=t.params) (body:=t.body) (pm:=y) (ctv:=C) (a:=a) (c:=c) (u:=u) (uc:=U) (m:=t.m) L.sc (e t M vs v) b λA g s H E d x=>L.body base _ a c A g s H E d x)).imp λI H Q E h=>?_,λs=>.of_eq (L.bind _ _ _ _)⟩;obtain⟨D,B,f,n,A,p,S,r,h⟩:=h;refine⟨D,B,f,n,A,p,S,r,?_⟩;unfold gc at h;rw[i]at h;exact h
end
noncomputable abbrev Zh:=Nat->Obj->Addr->Obj->List V->Prop
open Classical in
noncomputable def QQ (PG:Zh)(r:Nat->List W->Hx->R W):Fn:=λu A=>match u with
 |[.clo k ws P]=>if P=PG k then r k ws A else .bad|_=>.bad
open Classical in
structure WR (X:Cx)(t:Lm):Prop where
 len:t.idx.length=t.N.length
 nm:∀(i:Nat)(x:Str)(j:Nat),t.N[i]? =some x->t.idx[i]? =some j->X.N[j]? =some x/\t.scope.names.lookup x=some .free
 free:∀y∈t.scope.names,y.2=.free->X.env.kindOf y.1=some .cell∨X.env.kindOf y.1=some .free
section
variable {s:Shared}
def G5 (I:Inv X p4 σ H s){t:Lm}(L:WR X t){c:Addr}(h:(wm X.env t.scope.names []).lookup x=some c):X.env.cells.lookup x=some c:=by
 rcases JA _ _ (PySem.mem_of_lookup h) with z|⟨z,e⟩
 ·cases z
 ·obtain⟨C,a⟩:=I.ok.has x (L.free _ z rfl)
  rw[a]at e ⊢;exact congrArg some e.symm
def AS (I:Inv X p4 σ H s)(d:∀x c v,X.env.cells.lookup x=some c->s.heap.IsCell c v->base.IsCell c v){t:Lm}(L:WR X t)(g:QO t.idx σ=some vs):G9 base t.N t.scope (wm X.env t.scope.names []) vs:=by
 obtain⟨B,A⟩:=Mj g;refine⟨B.trans L.len,λx y c w q=>I.ok.inj x y c (G5 I L w) (G5 I L q),λx h=>?_,λx c h=>?_,λi x v w q=>?_⟩
 ·exact Option.isSome_iff_exists.mp (GO _ _ (.inl (PySem.mem_of_lookup h)))
 ·have e:=G5 I L h
  obtain⟨v,z⟩:=I.cell x c e;exact⟨v,d x c v e z⟩
 ·obtain⟨j,p,o⟩:=A i v q
  obtain⟨n,E⟩:=L.nm i x j w p;have fr:=L.free _ (PySem.mem_of_lookup E) rfl;obtain⟨m,J,l⟩:=I.loc;obtain⟨u,r,D⟩:=l j x v n o (.inr fr);obtain⟨c,b⟩:=Option.isSome_iff_exists.mp (GO (env:=X.env) t.scope.names [] (.inl (PySem.mem_of_lookup E)));have f:=G5 I L b;rcases D with ⟨z,_⟩|⟨_,C,a,cell⟩
  ·exfalso
   rcases fr with k|k<;>(rw[k]at z;cases z)
  ·rw[f]at a
   cases a;exact⟨c,u,E,b,d x c _ f cell,r⟩
def i9 (I:Inv X p4 σ H s)(h:∀x,X.fn x=true){c:Addr}(e:X.env.cells.lookup x=some c):c∉qR X.stack:=λb=>by
 rcases cu.mp (I.stkSub c b) with z|z
 ·exact I.cne x c e z
 ·obtain⟨_,o,a,_⟩:=I.ok.funs.mem z
  exact absurd (aK (aM a) (I.ok.cab x c (h x) e)) (aT _)
noncomputable def Qc (B h:Heap)(c:cb):Heap:=hideAll h ((List.range h.objs.size).filter λb=>(B.get? b).isNone&&!(c.any λp=>c.lookup p.1==some b))
def NY {o:Obj}(e:(Qc base h ri).get? b=some o):h.get? b=some o/\((∃o',base.get? b=some o')∨∃x,ri.lookup x=some b):=by
 have E:=of_hideAll _ e;refine⟨E,?_⟩
 by_cases d:b∈(List.range h.objs.size).filter λb=>(base.get? b).isNone&&!(ri.any λp=>ri.lookup p.1==some b)
 ·unfold Qc at e
  rw[hideAll_none _ d]at e;cases e
 ·rw[mem_filter]at d
  have c:b∈List.range h.objs.size:=cn.mpr (aM E);cases g:base.get? b with
  |some o'=>exact .inl ⟨o',rfl⟩|none=>
   right
   by_cases H:(ri.any λp=>ri.lookup p.1==some b)=true
   ·obtain⟨p,_,a⟩:=List.any_eq_true.mp H
    exact⟨p.1,aL.mp a⟩
   ·exact absurd ⟨c,by rw[g];simpa using H⟩ d
def C0 (k:∀b o,base.get? b=some o->h.get? b=some o){o:Obj}(e:base.get? b=some o):(Qc base h ri).get? b=some o:=
 bI _ (k b o e) λH=>by
  rw[mem_filter,e]at H;simp at H
def CP {c:Addr}{o:Obj}(l:ri.lookup x=some c)(e:h.get? c=some o):(Qc base h ri).get? c=some o:=
 bI _ e λH=>by
  rw[mem_filter,ak,not_eq_true']at H
  have:=H.2.2
  rw[List.any_eq_false]at this;exact this _ (PySem.mem_of_lookup l) (by simpa using l)
variable {j:Nat}
end
inductive spT (K:Frag)(n:Nat)(fs:Zh->Fn)(vs:List V)(H:Hp)(Q:VK)(E:XK):Prop
 |mk (len:vs.length=n) (φ:bT) (A:Hx) (ws:List W) (S:zX K φ A H) (r:zK K φ H ws vs) (q:∀PF,(fs PF ws A).post (PB K φ H Q) (EB K φ H (XE K E)))
def spT.len {K:Frag}{fs:Zh->Fn}{Q:VK}{E:XK}(h:spT K n fs vs H Q E):vs.length=n:=by cases h;assumption
section
variable {K:Frag}
def js {c:Addr}{a:Value}{o:cf}(n:nsIn K mainGlobals x=some (some (.ref f)))(l:K.lookup f=some ⟨a,o,.func fd,rp⟩)(H:tabIn K x=some (c,Pt)):fd.code=.ref c:=by
 unfold tabIn at H;rw[n]at H;dsimp only at H;rw[l]at H;dsimp only at H
 split at H
 ·rename_i C h
  split at H
  ·split at H
   ·cases H;exact h
   ·cases H
  ·cases H
 ·cases H
def jS {q:Str}{L:Stmt}{c:Addr}{ps:bX}{k:Nat}{ls:List Lm}{m:Zh->Ex}(F:we K x x L f fd)(hn:nsIn K mainGlobals x=some (some (.ref f)))(ht:tabIn K x=some (c,Pt))(S:qJ N ps (qi L))
  (a:∀(A:Around)(I:b9)(s:Shared)(H:Hp)(E:XK),jF k (A.deeper (envOfC x (qi L) s.heap.objs.size f (.ref c)))->
   Yc (wt wc P w K mg base N x (qi L) f (.ref c) A I s H E).nox yQ (yY L) (m (Jq (envOfC x (qi L) s.heap.objs.size f (.ref c)) q ls))):
  yN P w K mg base wc (k+1) f fd ps (spT K ps.length λp=>qF N.length (m p)):=by
 obtain⟨B,u,kV,doc,pm,an,C,ct,o,rfl,X,d⟩:=F.ex;have v:C=.ref c:=js hn X ht;subst v;refine Sw X d S (λZ H Q E h=>h.len) λA I s H Z Q E i ⟨D,T,Y,M,j,r,h⟩=>⟨_,ki.nox (a A I s H E i),?_⟩;refine⟨T,Y,M.map some++List.replicate (N.length-M.length) none,j,RE.start r,?_⟩;have J:=qm.mp (h (Jq (envOfC x (qi L) s.heap.objs.size f (.ref c)) q ls));show R.post _ (FB K T H _) _;cases e:m (Jq (envOfC x (qi L) s.heap.objs.size f (.ref c)) q ls) (M.map some++List.replicate (N.length-M.length) none) Y with
 |ok fl A2=>
  rw[e]at J;cases fl with
  |rt w=>exact J|nx U=>exactλb t g l n _=>J b t .non l n rfl|bk U=>exact J.elim|ct U=>exact J.elim
 |exc y A2=>rw[e]at J;exact J.elim|bad=>rw[e]at J;exact J.elim
end
noncomputable def Xz (K:Frag)(x:Str)(p:Addr):Bool:=match tabIn K x with
 |some (c,P)=>P==p&&codeHdIn K c p|none=>false
def GS {K:Frag}(h:Xz K x Pt=true):∃c,tabIn K x=some (c,Pt)/\codeHdIn K c Pt=true:=by
 unfold Xz at h
 split at h
 ·rename_i c P e
  rw[ak,aL]at h;obtain⟨rfl,H⟩:=h;exact⟨c,e,H⟩
 ·cases h
def jL.m {K:Frag}{k:Nat}{f:Fn}(F:jL P w K mg base k x n f):zO P w K mg base k x n λws A=>(f ws A).nox:=by
 obtain⟨fa,C,ps,F,q,c,d⟩:=F;have up:∀g H Q E,ZU K n (λws A=>(f ws A).nox) g H Q E->W8 K n f g H Q (λ_ _ _=>False):=λg H Q E ⟨l,p,A,ws,S,r,h⟩=>⟨l,p,A,ws,S,r,by
  cases a:f ws A with
  |ok u D=>(try dsimp only at h);rw[a]at h;exact h|exc y D=>(try dsimp only at h);rw[a]at h;exact h.elim|bad=>(try dsimp only at h);rw[a]at h;exact h.elim⟩
 refine⟨fa,C,ps,⟨λg H Q E h=>F.len g H Q _ (up g H Q E h),λA o s H i U g Q E b B t v h=>?_⟩,q,c,d⟩;refine codeAny_mono (F.run A o s H i U g Q _ b B t v (up g H Q E h)) λr I j=>?_;cases r with
 |error e=>
  unfold CR at j;obtain⟨_,_,_,_,_,_,_,_,_,_,z⟩:=j;exact z.elim
 |ok fl=>cases fl<;>exact j
theorem jL.mono {K:Frag}{j k:Nat}{f:Fn}(F:jL P w K mg base j x n f)(h:j<=k):jL P w K mg base k x n f:=by cases F with|mk fa d ps F a b c=>exact⟨fa,d,ps,F.mono h,a,b,c⟩
noncomputable abbrev Vx:bS:=[.type "ValueError",.type "Exception",.type "BaseException",.type "object"]
noncomputable abbrev X7:String := "ValueError.__new__"
section
variable {K:Frag}{cs:bX}{top nm:Str}
noncomputable def clsAt (K:Frag)(x:Str):Addr:=match nsIn K mainGlobals x with
 |some (some (.ref C))=>C|_=>0
def isAt (K:Frag)(x:Str):Bool:=nsIn K mainGlobals x==some (some (.ref (clsAt K x)))
def ju (c:bX)(x:Str):Str->Option Bool:=λnm=>if c.contains nm then some (nm==x) else none
def RA (c:bX):Str->Option Bool:=λnm=>if c.contains nm then some true else none
def Jf (K:Frag)(c:bX)(x:Str):Bool:=isAt K x&&kitOne K (.type "NoneType") (.ref (clsAt K x))==some false&&c.all λnm=>kitOne K (.ref (clsAt K nm)) (.ref (clsAt K x))==some (nm==x)
def XA (K:Frag)(top nm:Str):Bool:=isAt K nm&&Wv K (clsAt K nm)&&Mi.ZR K (clsAt K nm) Vx X7&&JY K (clsAt K nm) (clsAt K top)&&kitOne K (.ref (clsAt K nm)) (.type "ValueError")==some true
def T5 (K:Frag)(top:Str):Bool:=isAt K top&&Mi.ZR K (clsAt K top) Vx X7&&kitOne K (.type "NoneType") (.type "ValueError")==some false
def Ta (h:isAt K x=true):kJ K x (.ref (clsAt K x)):=aL.mp h
def UK {C:Addr}(h:kJ K x (.ref C)):C=clsAt K x:=by
 unfold clsAt;unfold kJ at h;rw[h]
structure UM (K:Frag)(top nm:Str):Prop where
 at_:kJ K nm (.ref (clsAt K nm))
 kit:Wv K (clsAt K nm)=true
 exc:Mi.ZR K (clsAt K nm) Vx X7=true
 up:JY K (clsAt K nm) (clsAt K top)=true
 val:kitOne K (.ref (clsAt K nm)) (.type "ValueError")=some true
def kc (h:XA K top nm=true):UM K top nm:=by
 unfold XA at h;simp only[ak,aL]at h;obtain⟨⟨⟨⟨d,c⟩,b⟩,a⟩,H⟩:=h;exact⟨Ta d,c,b,a,H⟩
structure gm (K:Frag)(cs:bX)(top:Str):Prop where
 exc:∀nm,cs.contains nm=true->UM K top nm
 top_at:kJ K top (.ref (clsAt K top))
 top_exc:Mi.ZR K (clsAt K top) Vx X7=true
 non:kitOne K (.type "NoneType") (.type "ValueError")=some false
def ke (h:cs.all (XA K top ·)=true)(t:T5 K top=true):gm K cs top:=by
 unfold T5 at t;simp only[ak,aL]at t;obtain⟨⟨b,T⟩,a⟩:=t;exact⟨λnm e=>kc (cy.mp h nm (List.contains_iff_mem.mp e)),Ta b,T,a⟩
def gm.isx (c:gm K cs top)(h:Jf K cs x=true):WJ K (ju cs x) (.ref (clsAt K x)):=by
 unfold Jf at h;simp only[ak,aL]at h;obtain⟨⟨g,f⟩,a⟩:=h;refine⟨f,λnm C b e H=>?_⟩;unfold ju at e
 by_cases d:cs.contains nm=true
 ·rw[ah d]at e
  cases e;cases UK H;exact⟨(c.exc nm d).kit,aL.mp (cy.mp a nm (List.contains_iff_mem.mp d))⟩
 ·rw[aj d]at e;cases e
def kS (h:Jf K cs x=true):kJ K x (.ref (clsAt K x)):=by
 unfold Jf at h;simp only[ak,aL]at h;exact Ta h.1.1
def gm.isv (c:gm K cs top):WJ K (RA cs) (.type "ValueError"):=by
 refine⟨c.non,λnm C b e h=>?_⟩;unfold RA at e
 by_cases H:cs.contains nm=true
 ·rw[ah H]at e
  cases e;cases UK h;exact⟨(c.exc nm H).kit,(c.exc nm H).val⟩
 ·rw[aj H]at e;cases e
def gm.under (c:gm K cs top):∀nm,cs.contains nm=true->∀C,kJ K nm (.ref C)->∃b n,Mi.ZR K C b n=true/\JY K C (clsAt K top)=true:=λnm H C h=>by
 cases UK h;exact⟨_,_,(c.exc nm H).exc,(c.exc nm H).up⟩
end
noncomputable def X1 (M:bX)(S:Scope)(t:Lm):Bool:=t.idx.length==t.N.length&&((List.range t.N.length).all λi=>match t.N[i]?,t.idx[i]? with
 |some x,some j=>M[j]?==some x&&t.scope.names.lookup x==some .free|_,_=>false)&&t.scope.names.all λy=>!(y.2==.free) || (S.names.lookup y.1==some .cell || S.names.lookup y.1==some .free)
def Tv {t:Lm}(h:X1 X.N X.env.scope t=true):WR X t:=by
 unfold X1 at h;rw[ak,ak]at h;obtain⟨⟨f,d⟩,b⟩:=h;refine⟨aL.mp f,λi x j E c=>?_,λy H e=>?_⟩
 ·have a:i<t.N.length:=(cw.mp E).1
  have q:=cy.mp d i (cn.mpr a);rw[E,c]at q;dsimp only at q;rw[ak]at q;exact⟨aL.mp q.1,aL.mp q.2⟩
 ·have q:=cy.mp b y H
  rw[e]at q;rw[a8,a8]at q;rcases q with q|q|q
  ·cases q
  ·exact .inl (aL.mp q)
  ·exact .inr (aL.mp q)
def all_nil {p:α->Prop}:∀t∈([]:List α),p t:=λ_ h=>nomatch h
def all_cons {p:α->Prop}{a:α}{l:List α}(h:p a)(r:∀t∈l,p t):∀t∈a::l,p t:=λt H=>by
 rcases cu.mp H with e|e
 ·rw[e];exact h
 ·exact r t e
def kl {q:Str}{l:List Lm}{k:Nat}{t:Lm}(H:l[k]? =some t):Jq env q l k=JV q t.params t.body t.scope (wm env t.scope.names []):=by
 funext ob c o vs
 refine propext ⟨λ⟨T,e,h⟩=>?_,λh=>⟨t,H,h⟩⟩;rw[H]at e;cases e;exact h
section
variable {k:Nat}{q:Str}{c:Addr}{ls:List Lm}{t:Lm}
def kr (i:ls[k]? =some t)(L:X1 X.N X.env.scope t=true)(B:BMain X.mg X.base)(a:X.env.code=.ref c)(C:CodeHd X.base c Pt)(d:X.env.qual ++ "<lambda>"=q)(f:defaultsOf t.params X.env=([],[])):
  SE X xr (.Lambda t.params t.body t.scope p6) (Zf n q Pt k (Jq X.env q ls k)):=by
 intro p s g H Q I h;rw[kl i]at h;exact L1 B a C (O7 λy b e=>I.ok.has _ ((Tv L).free y b e)) d f p s g H Q I h
end
noncomputable def JG:Stmt:=.Pass ⟨0,0,0,0⟩
noncomputable def QL:Expr:=.Constant .none 0 ⟨0,0,0,0⟩
def kv (s:Stmt)(i:Nat):Stmt:=match s with
 |.For _ _ b _ _=>b.getD i JG|.If _ b _ _=>b.getD i JG|.While _ b _ _=>b.getD i JG|_=>JG
def Hl (s:Stmt):Expr:=match s with
 |.Assign _ v _=>v|.Expr v _=>v|.Return (some v) _=>v|_=>QL
def Rj (e:Expr)(i:Nat):Expr:=match e with
 |.Call _ a _ _=>a.getD i QL|.List E _=>E.getD i QL|.Tuple E _ _=>E.getD i QL|.BinOp a _ b _=>if i=0 then a else b|_=>QL
noncomputable def IY (e:Expr):Arguments:=match e with
 |.Lambda a _ _ _=>a|_=>{ posonlyargs:=[],args:=[],vararg:=none,kwonlyargs:=[],kw_defaults:=[],kwarg:=none,defaults:=[] }
def Ht (e:Expr):Expr:=match e with
 |.Lambda _ b _ _=>b|_=>QL
noncomputable def HB (e:Expr):Scope:=match e with
 |.Lambda _ _ s _=>s|_=>{ kind:=.function,names:=[],isGenerator:=false,isCoroutine:=false }
def Hj (e:Expr)(N:bX)(i:bV)(m:Ev):Lm:=⟨N,i,IY e,Ht e,HB e,m⟩
def kB {K:Frag}{S:Stmt}{ps:bX}{k:Nat}(F:we K x x S f fd)(e:mg x=some (.ref f))
  (b:∀(kV d p:Value)(n:cf)(c ct:Value)(u:bS),u.length=ps.length->bindArgs (fnOf x x (Z4 S) (yY S) (qi S) .none kV d p n c ct) ⟨u,[]⟩=pure (ps.zip u)):zO P w K mg base k x ps.length (λ_ _=>.bad):=
 ⟨f,fd,ps,⟨λv H Q E h=>h.1,λA o s H a u v Q E _ _ _ _ h=>by obtain⟨_,_,_,_,_,_,z⟩:=h;exact z.elim⟩,e,F.kp,F.binds b⟩
def k4 {K:Frag}(t a b:Ty):kitAny K (.type t.nm) [.type a.nm,.type b.nm]=some (kL t a || kL t b):=by
 unfold kitAny;rw[Xn];cases kL t a with
 |true=>rfl|false=>
  dsimp only;unfold kitAny;rw[Xn];cases kL t b<;>rfl
section
variable {a b:Expr}{m ma mb:Ev}
def Yb.kitx {s:Shared}{x:V}{t:Ty}(I:Inv X p4 σ H s)(r:RelV x u)(h:Yb X.K H x t):∃b:Heap->Prop,PySem.W.KitX X.K u (.type t.nm) b/\b s.heap/\u≠.builtin "__main__.__loader__#opaque":=by
 rcases h with h|⟨a,xs,rfl,h,rfl⟩
 ·generalize hT:Value.type t.nm=T at h
  cases h with
  |non=>cases (show u=Value.none from r);exact⟨_,kitx_none,True.intro,λz=>nomatch z⟩
  |bl y=>cases (show u=Value.bool y from r);exact⟨_,kitx_bool,True.intro,λz=>nomatch z⟩
  |int i=>obtain⟨t,q⟩:=(show ∃t,u=Value.int i t from r);cases q;exact⟨_,kitx_int,True.intro,λz=>nomatch z⟩
  |str y=>obtain⟨t,q⟩:=(show ∃t,u=Value.str y t from r);cases q;exact⟨_,kitx_str,True.intro,λz=>nomatch z⟩
  |flt y=>obtain⟨t,q⟩:=(show ∃t,u=Value.float y t from r);cases q;exact⟨_,kitx_float,True.intro,λz=>nomatch z⟩
  |@lst a xs ea=>
   cases (show u=Value.ref a from r)
   obtain⟨_,_,n,_,d⟩:=(show jg X.prog X.w H s.heap a (.lst xs) from I.hok a _ ea)
   exact⟨_,kitx_list,⟨_,d,rfl⟩,λz=>nomatch z⟩
  |@frz a ob xs ea=>
   cases (show u=Value.ref a from r)
   obtain⟨_,_,_,n,_,d⟩:=(show jg X.prog X.w H s.heap a (.frz ob (.lst xs)) from I.hok a _ ea)
   exact⟨_,kitx_list,⟨_,d,rfl⟩,λz=>nomatch z⟩
  |@tup a xs ea=>
   cases (show u=Value.ref a from r)
   obtain⟨_,_,_,p⟩:=(show jg X.prog X.w H s.heap a (.tup xs) from I.hok a _ ea)
   obtain⟨o,d,e,_⟩:=p;exact⟨_,kitx_tuple,⟨o,d,e.1⟩,λz=>nomatch z⟩
  |@dK a kvs ea=>
   cases (show u=Value.ref a from r)
   obtain⟨_,_,_,_,o,_,_,d,e,_⟩:=(show jg X.prog X.w H s.heap a (.dK kvs) from I.hok a _ ea)
   exact⟨_,kitx_dict,⟨o,d,e.1⟩,λz=>nomatch z⟩
  |@dT a kvs ea=>
   cases (show u=Value.ref a from r)
   obtain⟨_,_,_,_,o,_,_,d,e,_⟩:=(show jg X.prog X.w H s.heap a (.dT kvs) from I.hok a _ ea)
   exact⟨_,kitx_dict,⟨o,d,e.1⟩,λz=>nomatch z⟩
  |ins=>cases hT
 ·cases (show u=Value.ref a from r)
  obtain⟨c,_,⟨o,d,e,_⟩,_⟩:=I.tuple h;exact⟨_,kitx_tuple,⟨o,d,e⟩,λz=>nomatch z⟩
def k6 (K:Frag)(a b:Ty):List V->Hp->VK->Prop:=λX H Q=>∃x t l,X=[x,.ref l]/\qK K H l [.ty (Ty.nm a),.ty (Ty.nm b)]/\Yb K H x t/\Q (.bl (kL t a || kL t b)) H
def k7 {a b:Ty}:yJ X (.builtin "isinstance") (k6 X.K a b):=by
 intro P s M H S Y Q I r h;obtain⟨x,t,l,rfl,y,E,q⟩:=h;obtain⟨u,e,rfl,f,c⟩:=vals2 r;cases (show e=Value.ref l from c)
 obtain⟨p,v,⟨o,L,J,k,A⟩,_⟩:=I.tuple y;obtain⟨d,U,rfl,i,g⟩:=vals2 v;cases (show d=Value.type a.nm from i)
 cases (show U=Value.type b.nm from g)
 obtain⟨D,Z,w,N⟩:=E.kitx I f;obtain⟨n,C,j,B⟩:=o;cases (show n=_ from J)
 cases (show j=_ from A)
 exact PySem.W.kia_tup Z I.kIn w L (k4 t a b) N λT=>⟨.bl (kL t a || kL t b),H,I.tok T,rfl,q⟩
def Vj (t T:Ty)(m:Ev):Ev:=λc A=>(m c A).bind λw b=>match j0 w b with
 |some a=>.ok (.bl (kL a t || kL a T)) b
 |none=>.bad
noncomputable def Kc (m:Ev)(t:Tg):Ex:=λb A=>(m b A).bind λw c=>match t w b with
 |some a=>.ok (.nx a) c|none=>.bad
noncomputable def Rb (i j:Nat)(b M:Ev):Ex:=λa A=>(b a A).bind λx d=>(M a d).bind λy c=>.ok (.nx ((a.set i (some x)).set j (some y))) c
end
open Classical in
def Qx:W->W->Hx->R W:=λx y A=>match x,y with
 |.ref n,.ref k=>match A[n]?,A[k]? with
  |some (.lst ws),some (.lst us)=>if ws.length+us.length<=qj then .ok .non (A.set n (.lst (ws++us))) else .bad|_,_=>.bad
 |_,_=>.bad
def Bh:∀x y A,jh (Qx x y A):=λx y A=>by
 unfold Qx
 split
 ·split
  ·exact Z9 yr jv
  ·exact jv
 ·exact jv
section
variable {prog:Program}{A:Around}{s:Shared}
noncomputable abbrev ZN (l:Bool):Obj:={ cls:=.type "set",dict:=none,data:=.set #[] 0 (.fresh 0 0 l) }
noncomputable abbrev QM (n:bR)(k:Nat):bR:=firstMet (λi=>n.getD i 0) k
def DC {L:Bool}{t:Addr}(q:A.handled=none)(Y:s.heap.IsTuple t p9.toArray)(j:IntsAre p9 ns)(r:p9.length+1<scanBound)
  (h:∀(J:Heap)(d:Nat),J.SetOf (intKind prog w) s.heap.objs.size (λk=>(QM ns p9.length).any (·==k)) (QM ns p9.length).length->
   (∀b o,b<s.heap.objs.size->s.heap.get? b=some o->J.get? b=some o)->Q .none { s with heap:=J,toks:=d }):
  codeAny (model prog w) A (.call (.builtin "set.__init__") ⟨[.ref s.heap.objs.size,.ref t],[]⟩) (wants Q E) { s with heap:=s.heap.push (ZN L) }:=by
 have gS:(s.heap.push (ZN L)).get? s.heap.objs.size=some (ZN L):=aC _ rfl;refine codeAny_call_builtin F.called_set.init.plain F.entry_set_init (check_set_init_1 ⟨_,gS,rfl⟩ ?_);obtain⟨ob,P,K,n,H⟩:=Y;obtain⟨C,B,g,f⟩:=ob;dsimp only at K H;cases K;cases H;have Z:=af (ZN L) P;have n1:=F.sub_tuple_set;have D:=F.sub_tuple_frozenset;have N:(Value.type "tuple" == Value.type "dict")=false:=by decide
 have T1:(s.heap.push (ZN L)).IsTuple t p9.toArray:=⟨_,Z,rfl,n,rfl⟩;unfold Builtin.«set.__init__» noKeywords Builtin.Frozenset.updateFrom;generalize p:pyIter=PI
 wp_walk
 subst p;refine wpAny_pyIter_tuple T1 (cj (wpAny_runValue ?_));have lt:t<s.heap.objs.size:=aM P;have sz:(s.heap.push (ZN L)).objs.size=s.heap.objs.size+1:=bj ..;have X:t≠(s.heap.push (ZN L)).objs.size:=by rw[sz];exact aO (bc lt)
 have W:=(Walks.tuple (prog:=prog) (w:=w) (A:=A.in1.in1) (by simp[q]) (s.heap.push (ZN L)).objs.size t X p9.toArray).toS
 have c:p9.toArray.size=p9.length:=aB;rw[c]at W;have off:s.heap.objs.size∉[(s.heap.push (ZN L)).objs.size,t]:=by
  rw[sz];intro I;rcases cu.mp I with z|I
  ·exact aO (bw _) z
  ·exact ne_of_gt lt (cz.mp I)
 refine codeAny_set_update_loopS W s.heap.objs.size off (λi=>ns.getD i 0) (λi v e=>IntsAre.int_at j i v (by simpa using e)) r p9.length 0 _ rfl (zero_le _) ⟨⟨_,aC _ rfl,rfl,rfl⟩,T1.push _⟩ ?_ ?_
 ·exact SetOf_congr ((setObjOf_fresh (knd:=intKind prog w) L).setOf (af _ gS) (by unfold scanBound;omega)) (λ_=>rfl) rfl
 ·intro U M S
  obtain⟨J,g',d',T,a⟩:=U;have y:g'=s.gens:=M.gens;have x:d'=s.drawn:=M.drawn;have u:a=s.os:=M.os;subst y x u;refine cm ?_;show wpAny _ _ (ret Value.none) _ _ _;refine cm (h J T S λb o l e=>M.heap b o (λI=>?_) (af _ (af _ e)));rcases cu.mp I with z|I
  ·exact aO l z
  ·exact aO (bc l) ((cz.mp I).trans sz)
def DM {t:Addr}(l:A.handled=none)(M:s.heap.IsTuple t p9.toArray)(j:IntsAre p9 ns)(n:p9.length+1<scanBound)
  (h:∀(D:Heap)(a:Nat),D.SetOf (intKind prog w) s.heap.objs.size (λk=>(QM ns p9.length).any (·==k)) (QM ns p9.length).length->
   (∀b o,b<s.heap.objs.size->s.heap.get? b=some o->D.get? b=some o)->Q (.ref s.heap.objs.size) { s with heap:=D,toks:=a }):
  wpAny (model prog w) A (call (.type "set") [.ref t]) Q E s:=by
 obtain⟨c,p,g⟩:=F.called_set.mro;have N:=F.called_set.made;have a2:=F.called_set.sub;have C:=F.called_set.notType;have y:=F.called_set.canCreate;have x:=F.typeCall_set_1 (.ref t);refine wpAny_call (codeAny_of_tree ?_);show wpAny _ _ (callAny (.type "set") _) _ _ _;refine cm ⟨Code.quiet_builtin _ (by decide +kernel),codeAny_builtin F.entry_type_call ?_⟩
 rw[Around.under_plain (weight_type_call_type "set" [.ref t] []) rfl]
 repeat (any_goals (first|assumption|wp_step))
 refine codeAny_mono (code_set_new_1 (.ref t) (E:=E) (Q₁:=λu J=>∃L,u=.ref s.heap.objs.size/\J={ s with heap:=s.heap.push (ZN L) }) λL=>⟨L,rfl,rfl⟩) λr J d=>?_
 cases r with
 |error e=>exact d|ok fl=>
  cases fl with
  |ret u=>
   obtain⟨L,rfl,rfl⟩:=d;have T:Shared.TypeIs { s with heap:=s.heap.push (ZN L) } (.ref s.heap.objs.size) "set":=⟨_,aC _ rfl,rfl⟩
   have q:=F.called_set.init.lookup;have B:=F.called_set.init.bind (.ref s.heap.objs.size)
   repeat (any_goals (first|assumption|wp_step))
   refine codeAny_mono (DC (E:=E) (Q:=λv I=>v=.none/\∃D a,I={ s with heap:=D,toks:=a }/\D.SetOf (intKind prog w) s.heap.objs.size (λk=>(QM ns p9.length).any (·==k)) (QM ns p9.length).length/\
    ∀b o,b<s.heap.objs.size->s.heap.get? b=some o->D.get? b=some o) (by simp[l]) M j n λD a S K=>⟨rfl,D,a,rfl,S,K⟩) λi I H=>?_
   cases i with
   |error e=>exact H|ok f=>
    cases f with
    |ret v=>
     obtain⟨rfl,D,a,rfl,S,K⟩:=H
     repeat (any_goals (first|assumption|wp_step))
     exact h _ _ S K
    |_=>exact H.elim
  |_=>exact d.elim
end
def intsAre_of:∀{N:bR}{i:bS},Vals (N.map V.int) i->IntsAre i N:=by
 intro N
 induction N with
 |nil=>intro i h;cases h;exact .nil|cons n N I=>
  intro i h;cases h with
  |cons r t=>obtain⟨T,rfl⟩:=r;exact .cons n T (I t)
section
variable {m:Ev}
abbrev Hv (n:bR):HO:=.set (λk=>(QM n n.length).any (·==k)) (QM n n.length).length
def la (K:Frag):List V->Hp->VK->Prop:=λx H Q=>∃p n,x=[.ref p]/\qK K H p (n.map V.int)/\n.length<=100/\∀l,H l=none->Q (.ref l) (upd H l (Hv n))
def Ab (d:X.calm=true):yJ X (.type "set") (la X.K):=by
 intro g s l H x U Q I r h;obtain⟨p,N,rfl,c,f,q⟩:=h;obtain⟨u,rfl,a⟩:=vals1 r;cases a;obtain⟨i,v,P,_⟩:=I.tuple c;have n:i.length=N.length:=by have:=v.length;rw[ag]at this;omega
 refine DM (I.ok.hd d) P (intsAre_of v) (by unfold scanBound;omega) λw t S j=>?_
 rw[n]at S;exact⟨.ref s.heap.objs.size,_,I.laid (t':=t) (o:=Hv N) (λb o e=>j b o (aM e) e) (aq _) S,rfl,q _ (I.hok.fresh (aq _))⟩
def BW:yJ X (.builtin "len") (λxs H Q=>∃p S n,xs=[.ref p]/\H p=some (.set S n)/\n<=100/\Q (.int n) H):=by
 intro P s j H xs U Q I r h;obtain⟨p,S,n,rfl,b,d,q⟩:=h;obtain⟨u,rfl,a⟩:=vals1 r;cases a;obtain⟨o,e,E,t,c,x,i,_,_,_,g,f⟩:=(show jg X.prog X.w H s.heap p (.set S n) from I.hok p _ b)
 subst f;exact call_len_set c x i g (by omega) ⟨.int e.size,H,I.tok _,⟨_,rfl⟩,q⟩
def Lc:W->Hx->R W:=λw A=>match w with
 |.tup a=>match intsOf a with
  |some n=>if n.length<=100 then .ok (.int (QM n n.length).length) A else .bad|none=>.bad
 |_=>.bad
def Lb (m:Ev):Ev:=λa A=>(m a A).bind λw b=>Lc w b
end
def lb (s:Stmt):Expr:=match s with
 |.If t _ _ _=>t|_=>QL
section
def WT:=ZW Vi λi j=>.int (i * 2 ^ j.toNat)
end
def VQ:fillsNumberSlot (.type "tuple") "mul"=pure false:=
 PySem.fillsNumberSlot_seq (id := "tuple.__mul__") (r:=some (.builtin "tuple.__rmul__")) F.slot_tuple_mul.lookup (by decide +kernel) F.slot_tuple_rmul.lookup (by decide +kernel)
def Uk:seqRepeat? (.type "tuple")=pure (some (.builtin "tuple.__mul__")):=by
 unfold seqRepeat?;rw[PySem.seqSlot_of (T := "tuple") (name := "__mul__") (id := "tuple.__mul__") F.slot_tuple_mul.lookup (by decide +kernel),PySem.seqSlot_of (T := "tuple") (name := "__rmul__") (id := "tuple.__rmul__") F.slot_tuple_rmul.lookup (by decide +kernel)]
 rfl
def Uo (a:Int)(t:Tok)(l:Addr)(o:cf)(i:Array Value)(n:Nat)(S:Array (bW)):
  Meets (Builtin.«int.__rmul__» ⟨[.int a t,.ref l],[]⟩) (λ_ R s=>s.heap.get? l=some ⟨.type "tuple",o,.seq i n,S⟩/\R (.ok (.ret Value.notImplemented)) s):=
 .of_wp λp w A R s h=>by
  obtain⟨H,g,d,T,c⟩:=s;obtain⟨b,h⟩:=h
  wp_walk
  exact⟨_,rfl,h⟩
def Bz (k:Int)(t:Tok)(l:Addr)(o:cf)(I:Array Value)(n:Nat)(S:Array (bW))(C:2<=k)(j:k<1000)(i:0<I.size)(c:I.size<1000):
  Meets (Builtin.«tuple.__mul__» ⟨[.ref l,.int k t],[]⟩) (λ_ R s=>s.heap.get? l=some ⟨.type "tuple",o,.seq I n,S⟩/\R (.ok (.ret (.ref s.heap.objs.size))) { s with heap:=s.heap.push { cls:=.type "tuple",data:=.seq ((List.replicate k.toNat I).foldl (·++·) #[]) } }):=
 .of_wp λP w A R s h=>by
  obtain⟨p,g,d,T,y⟩:=s;obtain⟨f,h⟩:=h;have u:I.isEmpty=false:=by
   cases he:I.isEmpty with
   |false=>rfl|true=>rw[Array.isEmpty_iff_size_eq_zero]at he;omega
  have r:(k==1)=false:=by rw[beq_eq_false_iff_ne];omega
  have b:(decide (k < -2 ^ 63) || decide (k ≥ 2 ^ 63))=false:=by
   rw[Bool.or_eq_false_iff,decide_eq_false_iff_not,decide_eq_false_iff_not];omega
  have q:decide (k<=0)=false:=by rw[decide_eq_false_iff_not];omega
  have B:(I.size:Int) * k<=1000 * 1000:=Int.mul_le_mul (by omega) (by omega) (by omega) (by omega)
  have a:¬(I.size:Int) * k > (2 ^ 63-1)/8:=by omega
  have E:Builtin.Tuple.tupleTooMany ((I.size:Int) * k)=false:=by
   unfold Builtin.Tuple.tupleTooMany
   have:sizeLine=16777216:=sizeLine_eq
   rw[decide_eq_false_iff_not];omega
  wp_walk
  rw[b];rw[aj (by decide)]
  dsimp only
  wp_walk
  rw[aj a,E,aj (by decide)]
  have H:(List.foldl (λX x=>X++x) #[] (List.replicate k.toNat I)).size<=sizeLine:=by
   have v:=foldl_rep I.toList k.toNat [];rw[bM]at v;have e:I.toList.toArray=I:=by simp
   rw[e]at v;rw[v,aB,len_rep]
   have:sizeLine=16777216:=sizeLine_eq
   have:k.toNat * I.toList.length<=1000 * 1000:=mul_le_mul (by omega) (by rw[length_toList];omega)
   omega
  refine cj (m:=Builtin.Tuple.tupleExact _) (wpAny_newObj_type ?_ H);exact cm ⟨_,rfl,h⟩
section
variable {K:Frag}{b:Expr}
def SD (K:Frag):R2:=λx y H Q=>∃l k X,x=.ref l/\y=.int k/\qK K H l X/\2<=k/\k<1000/\0<X.length/\X.length<1000/\
 ∀p,H p=none->Q (.ref p) (upd H p (.tup (List.replicate k.toNat X).flatten))
def lg:q9 X (binaryOp .Mult) (SD X.K):=by
 intro P s σ H x y v u Q I e d h;obtain⟨l,k,B,rfl,rfl,f,Y,N,A,j,q⟩:=h;cases e;obtain⟨t,rfl⟩:=d;obtain⟨i,r,p,_⟩:=I.tuple f;obtain⟨⟨Z,E,data,S⟩,a,c,n,D⟩:=id p;simp only at c D;subst c D;have w:List.foldl (λL J=>L++J) #[] (List.replicate k.toNat i.toArray)=(List.replicate k.toNat i).flatten.toArray:=by
  have:=foldl_rep i k.toNat []
  rw[bM]at this;exact this
 have C:=r.length;refine wpAny_binaryOp_repeat_ref (T := "tuple") (U := "int") (by decide) ⟨_,a,rfl⟩ (λM=>typeIs_int M k t) VQ F.fills_int_mul F.slot_int_rmul Uk F.slot_int_index.lookup
  (call_meets F.slot_int_rmul (typeIs_int s k t) F.entry_int_rmul (F.args_int_rmul_2 _ _) (Uo k t l E i.toArray n S)
   ⟨a,rfl,⟨_,a,rfl⟩,call_meets F.slot_tuple_mul ⟨_,a,rfl⟩ F.entry_tuple_mul (F.args_tuple_mul_2 _ _) (Bz k t l E i.toArray n S Y N (by rw[aB];omega) (by rw[aB];omega)) ⟨a,?_⟩⟩)
 rw[w];refine⟨.ref s.heap.objs.size,_,I.laid (t':=s.toks) (o:=.tup (List.replicate k.toNat B).flatten) (λb ob q=>af _ q) (aq _) ?_,rfl,q _ (I.hok.fresh (aq _))⟩;refine⟨?_,_,r.rep k.toNat,ZG.new _ _⟩;rw[len_rep];have g:sizeLine=16777216:=sizeLine_eq
 have:k.toNat * B.length<=1000 * 1000:=mul_le_mul (by omega) (by omega)
 omega
noncomputable def Sx:W->W->Hx->R W:=λx y A=>match x,y with
 |.tup X,.int k=>if decide (2<=k)&&(decide (k<1000)&&(decide (0<X.length)&&decide (X.length<1000))) then .ok (.tup (List.replicate k.toNat X).flatten) A else .bad|_,_=>.bad
def AN:yz K (SD K) Sx:=λf A H x y u v Q S b q p=>by
 cases u with
 |tup X=>cases v with
  |int j=>
   obtain⟨e,a,rfl,t,r⟩:=b;obtain rfl:=q;unfold Sx at p;dsimp only at p
   by_cases h:(decide (2<=j)&&(decide (j<1000)&&(decide (0<X.length)&&decide (X.length<1000))))=true
   ·rw[ah h]at p
    simp only[ak,ao]at h;refine⟨e,j,a,rfl,rfl,t,h.1,h.2.1,by rw[<- r.length];exact h.2.2.1,by rw[<- r.length];exact h.2.2.2,λl c=>?_⟩
    obtain⟨c1,d,C⟩:=Z7 S c (r.rep j.toNat);exact p _ _ _ c1 d C
   ·rw[aj h]at p;exact p.elim
  |_=>exact p.elim
 |_=>cases v<;>exact p.elim
end
section
open PySem.SeqAt
open PySem.AutoSeq1 (wpAny_loadPart')
open PySem.MeetsSeq PySem.MeetsSeq2 PySem.MeetsSeq3
end
open PySem
open PySem PySem.Spec PyProof.Rows
namespace F
end F
section
theorem NG:∀{N:bR}{i:bS},IntsAre i N->Vals (N.map V.int) i
 |_,_,.nil=>.nil|_,_,.cons n t h=>.cons ⟨t,rfl⟩ (NG h)
end
section
variable {K:Frag}
theorem zK.app:∀{a u:List W}{x y:List V},zK K φ H a x->zK K φ H u y->zK K φ H (a++u) (x++y)
 |[],_,_,_,h,h2=>by cases h;exact h2|w::a,_,_,_,⟨v,r,e,h,t⟩,h2=>by subst e;exact⟨v,_,rfl,h,zK.app t h2⟩
variable {prog:Program}{A:Around}{s:Shared}
def Fi {t S:Addr}{l v:Value}{L i:b0}(e:IsTup s.heap t items)(c:s.heap.IsSliceOf S l v .none)(p:IsPart l L)(P:IsPart v i)
  (f:HT.qD items.size 0 L=0/\HT.qD items.size items.size i=items.size)(h:Q (.ref t) s):wpAny (model prog w) A (getItem (.ref t) (.ref S)) Q E s:=by
 obtain⟨o,H,a,d⟩:=id c;have b:s.TypeIs (.ref S) "slice":=⟨o,H,a⟩;unfold getItem
 try with_reducible refine wpAny_holding ?_
 first|refine cj (cm ?_)|skip
 refine cj (wpAny_sequenceKey e.typeIs (by decide) ?_)
 refine cj (wpAny_callSpecial?_slot (name:=Str.ofString "__getitem__") e.typeIs PyProof.Rows.slot_tuple_getitem
  (wpAny_call_entry PyProof.Rows.slot_tuple_getitem e.typeIs PyProof.Rows.entry_tuple_getitem ?_ (PyProof.Rows.args_tuple_getitem _ _)))
 show wpAny _ _ (Builtin.Tuple.tupleItemsOf (.ref t) >>= _) _ _ s;refine cj (PyProof.Rows.tupleItemsOf_ e ?_);refine cj (wpAny_typeOf b ?_);rw[ah (by decide)]
 refine cj (HT.Pf c p P ?_);show wpAny _ _ (if (((HT.qD items.size 0 L:Nat):Int)==0&&(1:Int)==1&&(HT.qD items.size items.size i-HT.qD items.size 0 L)==items.size)=true then _ else _) _ _ s;rw[ah (by rw[f.1,f.2];simp)]
 unfold Builtin.Tuple.tupleIsExact;refine cj (cj (wpAny_typeOf e.typeIs (cm ?_)));rw[ah (by decide)]
 refine cj (wpAny_rule ?_)
 first
  |exact cm ⟨_,rfl,cm h⟩
  |exact cj (cm (cm ⟨_,rfl,cm h⟩))
end
section
variable {a:Expr}{m:Ev}{lo hi:Option Expr}{K:Frag}
def Hs (K:Frag):V->Option Int->Option Int->Hp->VK->Prop:=λx l h H Q=>∃a X,x=.ref a/\qK K H a X/\
 ((HT.qD X.length 0 l=0/\HT.qD X.length X.length h=X.length)->Q (.ref a) H)/\
 (¬(HT.qD X.length 0 l=0/\HT.qD X.length X.length h=X.length)->∀p,H p=none->Q (.ref p) (upd H p (.tup (ZO X l h))))
def lh:W7 X (Hs X.K):=by
 intro P s y H x v l u L e S Q I b d p o h;obtain⟨a,j,rfl,c,f,q⟩:=h
 by_cases w:HT.qD j.length 0 L=0/\HT.qD j.length j.length e=j.length
 ·cases b
  obtain⟨i,r,t,g⟩:=I.tuple c;have n:i.toArray.size=j.length:=by rw[aB];exact r.length.symm
  exact⟨"tuple",_,PyProof.Rows.slot_tuple_getitem.lookup,t.typeIs,Fi t d p o (by rw[n];exact w) ⟨.ref a,H,I,rfl,f w⟩⟩
 ·exact eu P s y H _ v l u L e S Q I b d p o ⟨a,j,rfl,c,w,q w⟩
abbrev Po:=En->Hx->R (b0)
noncomputable def kA:Po:=λ_ A=>.ok none A
noncomputable def yd (m:Ev):Po:=λa A=>(m a A).bind λw b=>match w with
 |.int i=>.ok (some i) b|_=>.bad
noncomputable def kZ (w:List W)(l h:b0):List W:=(w.drop (HT.qD w.length 0 l)).take (HT.qD w.length w.length h-HT.qD w.length 0 l)
inductive MP (K:Frag)(xr:XR)(p:Po)(σ:St)(H:Hp)(Q:Option Int->Hp->Prop):Prop
 |mk (φ:bT) (A:Hx) (ρ:En) (S:zX K φ A H) (re:RE K φ H ρ σ) (h:(p ρ A).post (λo A1=>∀rf H1,Le K φ H rf H1->zX K rf A1 H1->Q o H1) (EB K φ H xr))
def tP (K:Frag)(x:XR)(p:Po):TO:=λa H Q=>MP K x p a H Q
def SP (X:Cx)(x:XR)(e:Option Expr)(p:Po):Prop:=PO X e (tP X.K x p)
def PO.imp {e:Option Expr}{t T:TO}(h:PO X e t)(i:∀σ H Q,T σ H Q->t σ H Q):PO X e T:=λp s σ H Q I w=>h p s σ H Q I (i σ H Q w)
def TY (b:SE X xr e m):SP X xr (some e) (yd m):=PO.imp (ee b) λj H Q ⟨g,A,n,S,r,h⟩=>by
 refine tM.go S r (qm.mp h) λw o a f v d l c q=>?_;cases w with
 |int i=>obtain rfl:=q;exact⟨i,rfl,d a f l c⟩|_=>exact d.elim
end
def Mf (x:Array Value):((List.range x.size).filterMap λ(k:Nat)=>x[(((x.size:Int)-1)+(k:Int) * (-1)).toNat]?).toArray=x.toList.reverse.toArray:=by
 congr 1
 have e:∀k,k<x.size->x[(((x.size:Int)-1)+(k:Int) * (-1)).toNat]? =some (x.toList.reverse.getD k .none):=λk h=>by
  have b:(((x.size:Int)-1)+(k:Int) * (-1)).toNat=x.size-1-k:=by omega
  rw[b,aa,List.getElem?_reverse (by simpa using h),Array.getElem?_toList,length_toList,Array.getElem?_eq_getElem (by omega)]
  rfl
 have E:((List.range x.size).filterMap λ(k:Nat)=>x[(((x.size:Int)-1)+(k:Int) * (-1)).toNat]?)=(List.range x.size).map λk=>x.toList.reverse.getD k .none:=by
  have a:∀l:bV,(∀k∈l,k<x.size)->(l.filterMap λ(k:Nat)=>x[(((x.size:Int)-1)+(k:Int) * (-1)).toNat]?)=l.map λk=>x.toList.reverse.getD k .none:=by
   intro l
   induction l with
   |nil=>intro _;rfl|cons k l I=>
    intro h;rw[ba,e k (h k (aE ..)),aR,I λj H=>h j (aw _ H)]
  exact a _ λk h=>cn.mp h
 rw[E]
 apply a7
 ·simp
 ·intro i b c
  rw[getElem_map,getElem_range,aa,ae c]
  rfl
section
variable {K:Frag}
def OA (h:Vals xs us):Vals xs.reverse us.reverse:=by
 induction h with
 |nil=>exact .nil|cons r t i=>rw[bJ,bJ];exact i.append (.cons r .nil)
theorem zK.rev:∀{a:List W}{b:List V},zK K φ H a b->zK K φ H a.reverse b.reverse
 |[],_,h=>by cases h;rfl|w::a,_,⟨v,r,e,h,t⟩=>by
  subst e;rw[bJ,bJ];exact zK.app (zK.rev t) ⟨v,[],rfl,h,rfl⟩
end
noncomputable def X0 (_ j:Int):Bool:=decide (0<j)&&decide (j<1152921504606846976)
def IM (i j:Int):Prop:=0<j/\j<1152921504606846976
def lj (i j:Int)(h:X0 i j=true):IM i j:=by
 unfold X0 at h;rw[ak]at h;exact⟨of_decide_eq_true h.1,of_decide_eq_true h.2⟩
def ll:q9 X (binaryOp .FloorDiv) (rI IM λi j=>.int (i/j)):=Kr λi j _ _ _ _ _ h q=>by
 have b:(0:Int)<j:=h.1;have a:j<1152921504606846976:=h.2;refine floordiv_int (by omega) (by rw[Int.fdiv_eq_ediv_of_nonneg i (by omega)];exact q) (.inl (PyProof.noPylong_of_log2 ?_))
 have H:j.natAbs≠0:=by omega
 have:j.natAbs.log2<60:=(Nat.log2_lt H).mpr (by omega)
 omega
def Zb:=ZW X0 λi j=>.int (i/j)
def Hf (e:Expr):Expr:=match e with
 |.Compare l _ _ _=>l|_=>QL
def CW (t:Tok)(l:Addr)(o:cf)(i:Array Value)(n:Nat)(S:Array (bW)):
  Meets (Builtin.«tuple.__mul__» ⟨[.ref l,.int 1 t],[]⟩) (λ_ R s=>s.heap.get? l=some ⟨.type "tuple",o,.seq i n,S⟩/\R (.ok (.ret (.ref l))) s):=
 .of_wp λp w A R s h=>by
  obtain⟨H,g,d,T,b⟩:=s;obtain⟨a,h⟩:=h;have E:((1:Int)==1)=true:=rfl;have e:(decide ((1:Int) < -2 ^ 63) || decide ((1:Int) ≥ 2 ^ 63))=false:=by decide
  wp_walk
  exact⟨_,rfl,h⟩
section
variable {K:Frag}
def S6 (K:Frag):R2:=λx y H Q=>(∃l X,x=.ref l/\y=.int 1/\qK K H l X/\Q (.ref l) H)∨SD K x y H Q
def lp:q9 X (binaryOp .Mult) (S6 X.K):=by
 intro P s f H x y v u Q I b a h;rcases h with ⟨l,j,rfl,rfl,d,q⟩|h
 ·cases b
  obtain⟨t,rfl⟩:=a;obtain⟨i,r,p,_⟩:=I.tuple d;obtain⟨⟨C,D,data,S⟩,o,c,n,e⟩:=id p;simp only at c e;subst c e;refine wpAny_binaryOp_repeat_ref (T := "tuple") (U := "int") (by decide) ⟨_,o,rfl⟩ (λg=>typeIs_int g 1 t) VQ F.fills_int_mul F.slot_int_rmul Uk F.slot_int_index.lookup
   (call_meets F.slot_int_rmul (typeIs_int s 1 t) F.entry_int_rmul (F.args_int_rmul_2 _ _) (Uo 1 t l D i.toArray n S)
    ⟨o,rfl,⟨_,o,rfl⟩,call_meets F.slot_tuple_mul ⟨_,o,rfl⟩ F.entry_tuple_mul (F.args_tuple_mul_2 _ _) (CW t l D i.toArray n S) ⟨o,?_⟩⟩)
  exact⟨.ref l,H,I,rfl,q⟩
 ·exact lg P s f H x y v u Q I b a h
noncomputable def Sv:W->W->Hx->R W:=λx y A=>match x,y with
 |.tup X,.int k=>if decide (1<=k)&&(decide (k<1000)&&(decide (0<X.length)&&decide (X.length<1000))) then .ok (.tup (List.replicate k.toNat X).flatten) A else .bad|_,_=>.bad
def lq:yz K (S6 K) Sv:=λc A H x y u v Q S q b p=>by
 cases u with
 |tup X=>cases v with
  |int j=>
   unfold Sv at p;dsimp only at p
   by_cases h:(decide (1<=j)&&(decide (j<1000)&&(decide (0<X.length)&&decide (X.length<1000))))=true
   ·rw[ah h]at p
    simp only[ak,ao]at h
    by_cases d:j=1
    ·subst d
     obtain⟨f,a,rfl,t,r⟩:=id q;obtain rfl:=b;refine .inl ⟨f,a,rfl,rfl,t,?_⟩;have e:(List.replicate (1:Int).toNat X).flatten=X:=by simp
     rw[e]at p;exact p _ _ _ Le.refl S q
    ·refine .inr (AN c A H x y (.tup X) (.int j) Q S q b ?_)
     unfold Sx;dsimp only;rw[ah (by simp only[ak,ao];exact⟨by omega,h.2⟩)]
     exact p
   ·rw[aj h]at p;exact p.elim
  |_=>exact p.elim
 |_=>cases v<;>exact p.elim
end
end Mi
namespace PySem.SeqAt
open PySem
end PySem.SeqAt
namespace Mi
open PySem PySem.Spec PyProof.Rows L2
def CI (t:Tok)(l:Addr)(o:cf)(I:Array Value)(n:Nat)(S:Array (bW))(i:0<I.size):
  Meets (Builtin.«tuple.__mul__» ⟨[.ref l,.int 0 t],[]⟩) (λ_ R s=>s.heap.get? l=some ⟨.type "tuple",o,.seq I n,S⟩/\R (.ok (.ret (.ref s.heap.objs.size))) { s with heap:=s.heap.push { cls:=.type "tuple",data:=.seq #[] } }):=
 .of_wp λp w A R s h=>by
  obtain⟨H,g,d,T,f⟩:=s;obtain⟨a,h⟩:=h;have c:I.isEmpty=false:=by
   cases he:I.isEmpty with
   |false=>rfl|true=>rw[Array.isEmpty_iff_size_eq_zero]at he;omega
  have b:((0:Int)==1)=false:=rfl;have E:(decide ((0:Int) < -2 ^ 63) || decide ((0:Int) ≥ 2 ^ 63))=false:=by decide
  have e:decide ((0:Int)<=0)=true:=by decide
  wp_walk
  exact⟨_,rfl,h⟩
section
variable {K:Frag}{b:Expr}
def IL (K:Frag):R2:=λx y H Q=>(∃l X,x=.ref l/\y=.int 0/\qK K H l X/\0<X.length/\∀p,H p=none->Q (.ref p) (upd H p (.tup [])))∨S6 K x y H Q
def lr:q9 X (binaryOp .Mult) (IL X.K):=by
 intro P s A H x y v u Q I d c h;rcases h with ⟨l,E,rfl,rfl,f,g,q⟩|h
 ·cases d
  obtain⟨t,rfl⟩:=c;obtain⟨i,r,p,_⟩:=I.tuple f;obtain⟨⟨C,D,data,S⟩,a,e,n,w⟩:=id p;simp only at e w;subst e w;have j:=r.length;refine wpAny_binaryOp_repeat_ref (T := "tuple") (U := "int") (by decide) ⟨_,a,rfl⟩ (λB=>typeIs_int B 0 t) VQ F.fills_int_mul F.slot_int_rmul Uk F.slot_int_index.lookup
   (call_meets F.slot_int_rmul (typeIs_int s 0 t) F.entry_int_rmul (F.args_int_rmul_2 _ _) (Uo 0 t l D i.toArray n S)
    ⟨a,rfl,⟨_,a,rfl⟩,call_meets F.slot_tuple_mul ⟨_,a,rfl⟩ F.entry_tuple_mul (F.args_tuple_mul_2 _ _) (CI t l D i.toArray n S (by rw[aB];omega)) ⟨a,?_⟩⟩)
  refine⟨.ref s.heap.objs.size,_,I.laid (t':=s.toks) (o:=.tup []) (λb ob q=>af _ q) (aq _) ?_,rfl,q _ (I.hok.fresh (aq _))⟩;refine⟨zero_le _,[],?_,ZG.new _ _⟩;exact r.rep 0
 ·exact lp P s A H x y v u Q I d c h
noncomputable def QI:W->W->Hx->R W:=λx y A=>match x,y with
 |.tup X,.int k=>if decide (0<=k)&&(decide (k<1000)&&(decide (0<X.length)&&decide (X.length<1000))) then .ok (.tup (List.replicate k.toNat X).flatten) A else .bad|_,_=>.bad
def lu:∀x y A,jh (QI x y A):=λx y A=>by
 unfold QI
 split
 ·exact Z9 yr jv
 ·exact jv
def lx:yz K (IL K) QI:=λe A H x y u v Q S b q p=>by
 cases u with
 |tup X=>cases v with
  |int j=>
   unfold QI at p;dsimp only at p
   by_cases h:(decide (0<=j)&&(decide (j<1000)&&(decide (0<X.length)&&decide (X.length<1000))))=true
   ·rw[ah h]at p
    simp only[ak,ao]at h
    by_cases f:j=0
    ·subst f
     obtain⟨g,a,rfl,t,r⟩:=id b;obtain rfl:=q;refine .inl ⟨g,a,rfl,rfl,t,by rw[<- r.length];exact h.2.2.1,λl c=>?_⟩
     obtain⟨c1,d,C⟩:=Z7 S c (r.rep 0);exact p _ _ _ c1 d C
    ·refine .inr (lq e A H x y (.tup X) (.int j) Q S b q ?_)
     unfold Sv;dsimp only;rw[ah (by simp only[ak,ao];exact⟨by omega,h.2⟩)]
     exact p
   ·rw[aj h]at p;exact p.elim
  |_=>exact p.elim
 |_=>cases v<;>exact p.elim
variable {prog:Program}{A:Around}{s:Shared}
def Fs {t S:Addr}{T:Tok}(l:IsTup s.heap t items)(g:s.heap.IsSliceOf S .none .none (.int (-1) T))
  (h:Q (.ref s.heap.objs.size) { s with heap:=s.heap.push { cls:=.type "tuple",data:=.seq items.toList.reverse.toArray } })(c:items.size<=sizeLine):wpAny (model prog w) A (getItem (.ref t) (.ref S)) Q E s:=by
 obtain⟨o,a,d,b⟩:=id g;have e:s.TypeIs (.ref S) "slice":=⟨o,a,d⟩;have H:sizeOk (.seq items.toList.reverse.toArray):=by
  show items.toList.reverse.toArray.size<=sizeLine;simpa using c
 unfold getItem
 try with_reducible refine wpAny_holding ?_
 first|refine cj (cm ?_)|skip
 refine cj (wpAny_sequenceKey l.typeIs (by decide) ?_)
 refine cj (wpAny_callSpecial?_slot (name:=Str.ofString "__getitem__") l.typeIs PyProof.Rows.slot_tuple_getitem
  (wpAny_call_entry PyProof.Rows.slot_tuple_getitem l.typeIs PyProof.Rows.entry_tuple_getitem ?_ (PyProof.Rows.args_tuple_getitem _ _)))
 show wpAny _ _ (Builtin.Tuple.tupleItemsOf (.ref t) >>= _) _ _ s;refine cj (PyProof.Rows.tupleItemsOf_ l ?_);refine cj (wpAny_typeOf e ?_);rw[ah (by decide)]
 have p:∀{Q':Int×Int×Nat->Shared->Prop},Q' ((items.size:Int)-1,-1,items.size) s->wpAny (model prog w) A.in1 (Builtin.Slice.sliceApplied (.ref S) (pure (items.size:Int))) Q' E s:=λ {Q'} q=>by
  unfold Builtin.Slice.sliceApplied Builtin.Slice.sliceFields;refine cj (cj (wpAny_field a b (x:=.none) rfl (cj (wpAny_field a b (x:=.none) rfl (cj (wpAny_field a b (x:=.int (-1) T) rfl (cm ?_)))))));refine cj (HT.K3 (.int (-1) T) ?_);show wpAny _ _ (if (((-1:Int))==0)=true then _ else _) _ _ s;rw[aj (by decide)]
  refine cj (HT.K3 .none (cj (HT.K3 .none (cj (cm ?_)))));have j:Builtin.Slice.sliceAdjust none none (-1) (items.size:Int)=((items.size:Int)-1,-1):=rfl;show wpAny _ _ (match Builtin.Slice.sliceAdjust none none (-1) (items.size:Int) with|(lo,hi)=>pure (lo,(-1:Int),Builtin.Slice.slicePlaces lo hi (-1))) _ _ s
  rw[j];have i:Builtin.Slice.slicePlaces ((items.size:Int)-1) (-1) (-1)=items.size:=by
   unfold Builtin.Slice.slicePlaces;rw[aj (by decide)]
   by_cases f:items.size=0
   ·rw[f,aj (by decide)];rfl
   ·rw[ah (by omega)]
    simp
  show wpAny _ _ (pure ((items.size:Int)-1,(-1:Int),Builtin.Slice.slicePlaces ((items.size:Int)-1) (-1) (-1))) _ _ s;rw[i];exact cm q
 refine cj (p ?_);show wpAny _ _ (if (((items.size:Int)-1==0&&(-1:Int)==1&&items.size==items.size))=true then _ else _) _ _ s;rw[aj (by simp),Mf]
 first
  |exact cj (m:=Builtin.Tuple.tupleExact _) (wpAny_newObj_type (cm ⟨_,rfl,cm h⟩) H)
  |exact cj (m:=Builtin.Tuple.tupleExact _) (wpAny_newObj_type (cj (cm (cm ⟨_,rfl,cm h⟩))) H)
  |exact cj (cj (m:=Builtin.Tuple.tupleExact _) (wpAny_newObj_type (cm (cm ⟨_,rfl,cm h⟩)) H))
  |exact cj (cj (m:=Builtin.Tuple.tupleExact _) (wpAny_newObj_type (cm ⟨_,rfl,cm h⟩) H))
end
section
variable {st:Expr}{m ms:Ev}{te:TE}{ts:TO}{p2:Pos}{K:Frag}
def lz (K:Frag):V->Hp->VK->Prop:=λx H Q=>∃a X,x=.ref a/\qK K H a X/\∀p,H p=none->Q (.ref p) (upd H p (.tup X.reverse))
def lA (U:PE X e te)(p:PO X (some st) ts):PE X (.Subscript e (.Slice none none (some st) p2) p6) (λσ H Q=>te σ H λx J=>ts σ J λo D=>o=some (-1)/\lz X.K x D Q):=by
 intro P s σ H Q I h;refine Subscript_ (qf (U P s σ H _ I h) λv N ⟨x,J,B,g,l⟩=>?_);refine wpAny_Slice ?_;rw[evalPart_none];refine cm (cm ?_);refine qf (p P N σ J _ B l) λY S ⟨o,C,y,T,j⟩=>?_;obtain⟨rfl,a,L,rfl,n,q⟩:=j;cases g;cases T with
 |int i t=>
  have d:Inv X P σ C { S with heap:=S.heap.push { cls:=.type "slice",data:=.fields #[.none,.none,.int (-1) t] } }:=y.kept (t':=S.toks) λb ob q=>af _ q
  obtain⟨c,r,M,f⟩:=d.tuple n;have E:c.toArray.size=L.length:=by rw[aB];exact r.length.symm
  have u:wpAny (model X.prog X.w) X.A (getItem (.ref a) (.ref S.heap.objs.size)) (EP X P σ Q) X.xe { S with heap:=S.heap.push { cls:=.type "slice",data:=.fields #[.none,.none,.int (-1) t] } }:=by
   refine Fs M (Heap.IsSliceOf.new ..) ?_ (by rw[E];exact f)
   refine⟨.ref _,_,d.laid (t':=S.toks) (o:=.tup L.reverse) (λb ob q=>af _ q) (aq _) ?_,rfl,q _ (d.hok.fresh (aq _))⟩;exact⟨by rw[bz];exact f,c.reverse,OA r,ZG.new _ _⟩
  show wpAny (model X.prog X.w) X.A (subscriptTail e (.Slice none none (some st) p2) (.ref a) (.ref S.heap.objs.size)) (EP X P σ Q) X.xe _;exact tail_any (ops:=[.ref a,.ref S.heap.objs.size]) M.typeIs PyProof.Rows.slot_tuple_getitem.lookup u (by with_unfolding_all rfl)
def S7 (m M:Ev):Ev:=λa A=>(m a A).bind λw d=>(yd M a d).bind λo c=>match w with
 |.tup b=>if o=some (-1) then .ok (.tup b.reverse) c else .bad|_=>.bad
end
open PySem.W (KasT kas_rev kas_asc kas_desc kas_tail3 kas_descPart kas_count kas_place kas_bin kas_sort)
def TW (n:Nat)(c:Nat->Nat->Bool):KasT α->(α->Prop)->Prop
 |.ret a,Q=>Q a|.ask i j k,Q=>i<n/\j<n/\TW n c (k (c i j)) Q
theorem TW.bind {b:Type}{f:α->KasT b}{Q:b->Prop}:∀(t:KasT α),TW n c t (λa=>TW n c (f a) Q)->TW n c (t.bind f) Q
 |.ret _,h=>h|.ask i j k,h=>⟨h.1,h.2.1,TW.bind (k (c i j)) h.2.2⟩
theorem TW.wp {cmp:Nat->Nat->(Bool->Shared->Prop)->Shared->Prop}{G:α->Shared->Prop}{s:Shared}(H:∀i j C,i<n->j<n->C (c i j) s->cmp i j C s):
  ∀(t:KasT α),TW n c t (λa=>G a s)->t.kasWp cmp G s
 |.ret _,h=>h|.ask i j k,h=>H i j _ h.1 h.2.1 (TW.wp H (k (c i j)) h.2.2)
open PySem.W (KasT kas_sort kas_ask kat_run kat_snds kat_kind kat_lt kat_cons kat_nil kat_yes kat_no kat_one KatLex KatGo KatTups)
noncomputable def JT  [DecidableEq α] (lt:α->α->Bool):List α->List α->Bool
 |[],[]=>false|[],_::_=>true|_::_,[]=>false|a::x,b::y=>if a=b then JT lt x y else lt a b
section
variable (O:KeyOrd)[DecidableEq O.α]
theorem N9:∀x:List O.α,JT O.blt x x=false
 |[]=>rfl|a::x=>by unfold JT;rw[ah rfl];exact N9 x
end
noncomputable abbrev IO:KeyOrd:=⟨Int,λa b=>decide (a<b),λa=>by simp,λa b c d H=>by simp only[ao]at*;omega,λa b c h=>by simp only[ao]at*;omega,λa b d H=>by simp only[decide_eq_false_iff_not]at*;omega⟩
abbrev yC:List Int->List Int->Bool:=JT IO.blt
def lB (x:bR):yC x x=false:=N9 IO x
def lC {d:α}(l:List α):((List.range l.length).map λi=>l.getD i d)=l:=by
 refine a7 (by simp) λi a b=>?_
 simp at a;simp[a]
def lD (v:bS):(v.toArray.zip v.toArray).map (·.2)=v.toArray:=by
 apply Array.toList_inj.mp
 rw[Array.toList_map];simp only[Array.toList_zip,List.toList_toArray];exact List.map_snd_zip (aq _)
section
variable {prog:Program}{A:Around}{s:Shared}
def lE {b:Bool}{x y:Int}{t u:Tok}{Q:Bool->Shared->Prop}(h:Q (decide (x<y)) s):wpAny (model prog w) A (oneLt' b (.int x t) (.int y u)) Q E s:=by
 cases b with
 |true=>exact oneLt_int h|false=>exact kat_one _ _ (wpAny_lt_int h)
theorem LZ {Q:Bool->Shared->Prop}{b:Bool}:∀{x y:bS}{f bs:bR}{i:Nat},IntsAre x f->IntsAre y bs->Q (yC f bs) s->KatLex prog w A b (decide (x.length<y.length)) Q (x.zip y) i s
 |_,_,_,_,_,.nil,.nil,h=>h|_,_,_,_,_,.nil,.cons _ _ _,h=>by
  refine kat_nil (s:=s) ?_;simpa[JT] using h
 |_,_,_,_,_,.cons _ _ _,.nil,h=>by
  refine kat_nil (s:=s) ?_;simpa[JT] using h
 |_,_,_,_,i,.cons (vs:=x) a t d,.cons (vs:=y) c u r,h=>by
  refine kat_cons (wpAny_eqBool_int ?_);unfold yC JT at h
  by_cases e:a=c
  ·subst e
   rw[ah rfl]at h;rw[bx];refine kat_yes ?_;show KatLex prog w A b (decide (x.length+1<y.length+1)) Q (x.zip y) (i+1) s;rw[show decide (x.length+1<y.length+1)=decide (x.length<y.length) by simp]
   exact LZ d r h
  ·rw[aj e]at h
   rw[show(a==c)=false by simp[e]]
   exact kat_no (lE h)
def J6 (h:Heap)(v:Value)(k:bR):Prop:=∃(a:Addr) (o:Obj) (p9:bS) (n:Nat),v=.ref a/\h.get? a=some o/\o.cls=.type "tuple" /\ o.data=.seq p9.toArray n/\IntsAre p9 k
def J6.keep {v:Value}{k:bR}(t:J6 h v k)(K:∀b o,h.get? b=some o->h'.get? b=some o):J6 h' v k:=by
 obtain⟨a,o,i,n,e,f,d,c,H⟩:=t;exact⟨a,o,i,n,e,K _ _ f,d,c,H⟩
def lF {x y:Value}{k l:bR}{b:Bool}{Q:Bool->Shared->Prop}(f:J6 s.heap x k)(e:J6 s.heap y l)(h:Q (yC k l) s):wpAny (model prog w) A (keyLt' (tuples' b) x y) Q E s:=by
 obtain⟨a,o,I,n,rfl,r,_,j,g⟩:=f;obtain⟨p,t,q,N,rfl,d,_,c,H⟩:=e;refine kat_lt r j d c ?_
 have:=LZ (prog:=prog) (w:=w) (A:=A) (b:=b) (i:=0) g H h
 simpa using this
inductive w8 (h:Heap):List Value->List (bR)->Prop
 |nil:w8 h [] []
 |cons {v:Value} {k:bR} {vs:bS} {ks:bQ} (t:J6 h v k) (ne:k≠[]) (r:w8 h vs ks):w8 h (v::vs) (k::ks)
theorem w8.length:∀{v:bS}{K:bQ},w8 h v K->v.length=K.length
 |_,_,.nil=>rfl|_,_,.cons _ _ r=>by simp[r.length]
theorem w8.keep (p:∀b o,h.get? b=some o->h'.get? b=some o):∀{v:bS}{K:bQ},w8 h v K->w8 h' v K
 |_,_,.nil=>.nil|_,_,.cons t ne r=>.cons (t.keep p) ne (r.keep p)
theorem w8.at:∀{v:bS}{K:bQ}(i:Nat),w8 h v K->i<K.length->J6 h (v.getD i Value.none) (K.getD i [])
 |_,_,_,.nil,H=>by simp at H|_,_,0,.cons t _ _,_=>t|_,_,i+1,.cons _ _ r,H=>r.at i (by simpa using H)
theorem w8.firsts:∀{d:bS}{K:bQ},w8 h d K->∃fs:bS,KatTups h d fs/\fs.length=d.length/\∀v∈fs,∃i t,v=Value.int i t
 |_,_,.nil=>⟨[],trivial,rfl,λv H=>by cases H⟩|_,_,.cons (k:=k) ⟨a,o,p9,n,e,h1,h2,c,b⟩ ne r=>by
  obtain⟨fs,t,l,f⟩:=r.firsts;cases b with
  |nil=>exact absurd rfl ne|cons i T q=>
   refine⟨Value.int i T::fs,⟨⟨a,o,_,n,e,h1,h2,c,rfl⟩,t⟩,by simp[l],λv H=>?_⟩
   rcases cu.mp H with rfl|H
   ·exact⟨i,T,rfl⟩
   ·exact f v H
end
noncomputable def Ru (k:bR):W:=.tup (k.map W.int)
def QG:List W->Option (bQ)
 |[]=>some []|.tup x::ws=>match intsOf x with
  |some k=>if k=[] then none else(QG ws).map (k::·)|none=>none
 |_::_=>none
theorem NX:∀{b:List W}{K:bQ},QG b=some K->b=K.map Ru/\∀k∈K,k≠[]
 |[],_,h=>by cases h;exact⟨rfl,λk a=>by cases a⟩|w::b,K,h=>by
  cases w with
  |tup X=>
   unfold QG at h;cases E:intsOf X with
   |none=>rw[E]at h;cases h|some k=>
    rw[E]at h;dsimp only at h
    by_cases c:k=[]
    ·rw[ah c]at h;cases h
    ·rw[aj c]at h
     cases e:QG b with
     |none=>rw[e]at h;cases h|some l=>
      rw[e]at h;cases h;obtain⟨A,a2⟩:=NX e;refine⟨by rw[aR,<- A,GR E];rfl,λx H=>?_⟩
      rcases cu.mp H with rfl|H
      ·exact c
      ·exact a2 x H
  |_=>cases h
section
theorem Li {l:List (Option V)}{s:Shared}(I:Inv X p4 l H s):∀{j:bQ}{y:List V}{i:bS},zK X.K φ H (j.map Ru) y->(∀k∈j,k≠[])->Vals y i->w8 s.heap i j
 |[],_,_,e,_,b=>by
  have E:_=([]:List V):=e;subst E;rw[Vals.zero b];exact .nil
 |k::j,_,_,⟨v,r,e,h,t⟩,ne,b=>by
  subst e;cases b with
  |cons c b=>
   obtain⟨a,x,e,hT,d⟩:=h;subst e;have w:=zK.ints.mp d;subst w;obtain⟨i,g,⟨o,u,q,n,p⟩,_⟩:=I.tuple hT;cases c;exact .cons ⟨a,o,i,n,rfl,u,q,p,intsAre_of g⟩ (ne k (aE ..)) (Li I t (λk f=>ne k (aw _ f)) b)
variable {K:Frag}{a:Expr}
def lG (K:Frag):V->List V->Hp->VK->Prop:=λx v H Q=>∃a X y,x=.ref a/\v=[y]/\jm K H a X/\wD y=true/\X.all wD=true/\Q (.int (X.countP λz=>gT z y)) H
def Bp:Kj X "list.count" (lG X.K):=by
 intro p s A H x E v U Q I b d h;obtain⟨a,B,y,rfl,rfl,w,l,f,q⟩:=h;cases b;obtain⟨u,rfl,e⟩:=d.one;obtain⟨i,r,⟨⟨C,D,data,S⟩,n,o,c,j,t⟩,_⟩:=I.list w;simp only at c t;subst c t;refine call_meets F.slot_list_count ⟨_,o,rfl⟩ F.entry_list_count (F.args_list_count_2 _ _) (SeqAt.list_countAt a i.toArray n D S u (Zt y)) ⟨o,λz g=>K9 e l r f z (by simpa using g),?_⟩
 refine⟨.int _,H,I.tok _,⟨_,rfl⟩,?_⟩;rw[<- Uv r f]at q;simpa using q
def Jb:W->W->Hx->R W:=λx y A=>match x with
 |.ref n=>match A[n]? with
  |some (.lst ws)=>if yK y&&ws.all yK then .ok (.int (Jn y ws 0)) A else .bad|_=>.bad
 |_=>.bad
def C7:∀x y A,jh (Jb x y A):=λx y A=>by
 unfold Jb
 split
 ·split
  ·exact Z9 yr jv
  ·exact jv
 ·exact jv
end
open PySem.W (kas_kind)
section
open PySem.SeqAt
open PySem.AutoSeq1 (wpAny_loadPart')
open PySem.MeetsSeq PySem.MeetsSeq2 PySem.MeetsSeq3
end
section
variable {m:Ev}{lo hi:Option Expr}{K:Frag}
def lH:W7 X (λx L i H Q=>Hs X.K x L i H Q∨Hr X.K x L i H Q):=by
 intro P s b H x v l u L i S Q I r a p c h;rcases h with h|h
 ·exact lh P s b H x v l u L i S Q I r a p c h
 ·exact eG P s b H x v l u L i S Q I r a p c h
def yM (m:Ev)(p P:Po):Ev:=λb A=>(m b A).bind λw e=>(p b e).bind λl d=>(P b d).bind λu a=>match w with
 |.tup c=>.ok (.tup (kZ c l u)) a|.ref n=>match a[n]? with
  |some (.lst c)=>.ok (.ref a.length) (a++[.lst (kZ c l u)])|_=>.bad
 |_=>.bad
end
section
def Ip:=Zk λi j=>.int (Builtin.bitAnd i j)
def IW:=ZW (λ_ j=>decide (0<=j)) λi j=>.int (i/2 ^ j.toNat)
end
def Nm (K:Frag)(x:Str):Prop:=∃fa:Addr,nsIn K mainGlobals x=some (some (.ref fa))
section
variable {y:Str}{k:Nat}{f:Fn}{g:Heap}{es:bZ}
def Sf (i:Nat)(x:Str)(f:Fn)(M:Ea):Ev:=λa A=>match a[i]? with
 |some (some (.fn z))=>if z=x then zC f M a A else .bad|_=>.bad
def Ar (P:gf X g xr)(F:jL X.prog X.w X.K X.mg X.base k x n f)(hr:jF k X.A)(ha:SA X xr (e::es) mr)(hl:ZQ mr n)(hi:X.N[i]? =some y:=by rfl)(t:Km X.env.scope y:=by first|exact Or.inl rfl|exact Or.inr (Or.inl rfl)|exact Or.inr (Or.inr rfl))
  (B:(y==("__debug__":Str))=false:=by decide)(C:(y==("__classdict__":Str))=false:=by decide)(he:starEach (e::es) X.env=(false,eval e X.env)::starEach es X.env:=by rfl)(u:(backTo p6 (starEach es X.env)).any (·.1)=false:=by rfl):
  SE X xr (.Call (.Name y p) (e::es) [] p6) (Sf i x f mr):=by
 obtain⟨fa,fd,ps,F,hm,hk,hb⟩:=F;intro p4 s σ H Q I ⟨φ,A,ρ,S,re,h⟩;unfold Sf at h;cases c:ρ[i]? with
 |none=>rw[c]at h;exact h.elim|some ow=>cases ow with
  |none=>rw[c]at h;exact h.elim|some T=>
   rw[c]at h;cases T with
   |fn z=>
    dsimp only at h
    by_cases l:z=x
    ·rw[ah l]at h
     subst l;obtain⟨v,o,a,rfl,hn⟩:=re.get i _ c;have b:=bC I.ok.mod.kin I.ok.mod.glob hn;rw[hm]at b;cases b;refine wpAny_Call_Name_kw (qf (Sb hi t B C p4 s σ H (λU H'=>U=.ref fa/\H'=H) I ⟨_,o,rfl,rfl⟩) λY s0 ⟨v0,H0,M,Z,e0,e1⟩=>?_);subst e0;subst e1;obtain rfl:Y=Value.ref fa:=Z;have h':=qm.mp h;refine callWith_K (h₀:=X.base) M.ok.mod.kin hk (qf (ha p6 p4 s0 σ H0 (λvs H1=>W8 X.K n f (vs++[]) H1 Q (VC X.K xr)) M ⟨φ,A,ρ,S,re,?_⟩) λus s1 ⟨vs,H1,J,r,q⟩=>⟨J.kIn,?_⟩) he u
     ·cases E:mr ρ A with
      |ok ws A1=>
       rw[E]at h';intro j H1 vs L S1 D;have t:vs.length=n:=by rw[<- D.length];exact hl ρ A ws A1 E
       rw[a3];refine⟨t,j,A1,ws,S1,D,qL h' (λ_ _ z=>z.mono L) λy A2 z d H2 l2 S2 Ca hC=>?_⟩;exact⟨y,Ca,rfl,hC,z d H2 (L.trans l2) S2⟩
      |exc y A1=>rw[E]at h';exact h'|bad=>rw[E]at h';exact h'
     ·exact LP F hr hb .nil P.passes J r q
    ·rw[aj l]at h;exact h.elim
   |_=>exact h.elim
end
def JO (X:Cx):Prop:=∀p a H s,Inv X p a H s->∀(x:Str)(c:Addr),X.env.cells.lookup x=some c->c∉qR X.stack
def LA (h:∀x,X.fn x=true):JO X:=λp a H s I x c e=>i9 I h e
def Bs {H:Hp}{d:Shared}(S:g9 X sc)(C:JO X)(I:Inv X p4 σ H d):JO (jU X N sc d H fp yx):=λp a b g i x c e f=>by
 rcases YC I S (PySem.mem_of_lookup e) with ⟨_,z,_⟩|⟨_,z,_⟩
 ·exact C p4 σ H d I x c z f
 ·rcases cu.mp (I.stkSub c f) with q|q
  ·exact absurd (I.lt) (Nat.not_lt.mpr (by rw[<- q];exact bK z))
  ·obtain⟨_,o,h,_⟩:=I.ok.funs.mem q
   exact absurd (aM h) (Nat.not_lt.mpr (aY I.sz (bK z)))
def ZL (n:Nat)(q:Str)(P:Addr)(i:bV)(g:Fn):Ev:=λa A=>match A[n]? with
 |some (.tab Q P')=>if Q=q/\P'=P then(match JU i a with
  |some w=>g w A|none=>.bad) else .bad
 |_=>.bad
section
variable {s:Shared}{t:Lm}{j:Nat}{q:Str}
def NP (I:Inv X p4 σ H s)(C:JO X)(l:W2 X.prog X.w X.K X.mg j q t)(x:WR X t):
  JW X.prog X.w X.K X.mg (Qc X.base s.heap X.env.cells) X.A X.stack s H/\∀k,Jl X.prog X.w X.K X.mg (Qc X.base s.heap X.env.cells) (j+1) (Ga X.env q [t] σ k) (gc [t] k):=by
 have kb:∀b o,X.base.get? b=some o->(Qc X.base s.heap X.env.cells).get? b=some o:=λb o e=>C0 I.bk e;have M:Mod X.K X.mg (Qc X.base s.heap X.env.cells):=by
  obtain⟨n,f,B⟩:=I.mod.blt;exact⟨I.mod.kin.keeps kb,I.mod.glob.keeps kb,⟨n,f.keeps kb,B⟩,I.mod.nolimit.keeps kb⟩
 have bs:∀b o,(Qc X.base s.heap X.env.cells).get? b=some o->s.heap.get? b=some o/\H b=none:=λb o e=>by
  obtain⟨d,E⟩:=NY e;refine⟨d,?_⟩;rcases E with ⟨i,E⟩|⟨y,E⟩
  ·exact(I.bs b i E).2
  ·exact I.freeC y b E
 refine⟨⟨I.ok.frames,M,bs,Nat.le_of_eq (hideAll_size _ _),frames_at I.stack λb a=>?_,I.stkFree,I.hok,I.bare⟩,
  λk=>i8 (all_cons l all_nil) (λT r D h=>AS I (λy g v e ⟨o,c,u⟩=>⟨o,CP e c,u⟩) (all_cons (p:=WR X) x all_nil T r) h) k⟩
 cases e:(Qc X.base s.heap X.env.cells).get? b with
 |none=>rfl|some o=>
  exfalso;rcases(NY e).2 with ⟨i,E⟩|⟨y,E⟩
  ·have:=(I.stack.mem a).1
   rw[E]at this;cases this
  ·exact C p4 σ H s I y b E a
end
def Hm (e:Expr):Expr:=match e with
 |.ListComp b _ _ _=>b|_=>QL
section
variable {K:Frag}{st:Stmt}{c:Addr}{ps:bX}{k:Nat}{m:Ex}
def Hk (F:we K x x st f fd)(n:nsIn K mainGlobals x=some (some (.ref f)))(t:tabIn K x=some (c,Pt))(S:qJ N ps (qi st))
  (h:∀(A:Around)(o:b9)(s:Shared)(H:Hp)(E:XK),jF k (A.deeper (envOfC x (qi st) s.heap.objs.size f (.ref c)))->Yc (wt wc P w K mg base N x (qi st) f (.ref c) A o s H E).nox yQ (yY st) m):
  yN P w K mg base wc (k+1) f fd ps (ZU K ps.length (qF N.length m)):=
 (jS (q := "") (ls:=[]) (m:=λ_=>m) F n t S h).imp λv H Q E ⟨l,a,A,b,S,r,q⟩=>⟨l,a,A,b,S,r,λ_=>q⟩
end
def BB {K:Frag}{mb:b8}{k:Nat}{fa p:Addr}{sp:Sp}{S:Shared}{vs:bS}
  (KX:K.In S.heap)(A:S.heap.Ns mainGlobals mg)(c:S.heap.Ns builtinsNs mb)(hbb:∀x:Str,x ≠ "__name__" -> mb x=bootBuiltins x)(C:S.heap.NoLimit)(hg:S.gens=#[])
  (l:S.heap.get? a=some { cls:=.type "list",data:=.seq vs.toArray })(hi:IntsAre vs ns)(hl:ns.length<=sizeLine)(hr:jF k callerA)
  (t:S.heap.get? Pt=some (tabObj #[]))(hKP:K.lookup Pt=none)(hct:isCodeTable S.heap Pt)(i:S.heap.get? p=some (tabObj #[]))(hKU:K.lookup p=none)(Y:isCodeTable S.heap p)(hbm:BMain mg S.heap)
  (F:∀base:Heap,K.In base->base.Ns mainGlobals mg->BMain mg base->yN P w K mg base wc k fa fd [x] sp)(y:∀(s:Shared)(u:Value),BindsTo s fd ⟨[u],[]⟩ [(x,u)])
  (T:∀H:Hp,H Pt=some (.tbl #[])->H p=some (.tbl #[])->Kl K H a (ns.map V.int)->sp [.ref a] H (λv _=>v=.bl true) λ_ _ _=>False):
  codeAny (model P w) callerA (.call (.ref fa) ⟨[.ref a],[]⟩) (λr s'=>r=.ok (.ret (.bool true))/\OldK S.heap s'.heap/\s'.os=S.os/\AllBare s'.gens) S:=by
 have rv:=NG hi;have L:=hi.length;have Q:a≠Pt:=λz=>by rw[z,t]at l;cases l
 have U:a≠p:=λz=>by rw[z,i]at l;cases l
 have core:∀H:Hp,H Pt=some (.tbl #[])->H p=some (.tbl #[])->Kl K H a (ns.map V.int)->jx P w H S.heap->(∀b,H b≠none->b=a∨b=Pt∨b=p)->(∀u,H a=some u->K.lookup a=none/\∃o xs,u=.frz o (.lst xs))->
   codeAny (model P w) callerA (.call (.ref fa) ⟨[.ref a],[]⟩) (λr s'=>r=.ok (.ret (.bool true))/\OldK S.heap s'.heap/\s'.os=S.os/\AllBare s'.gens) S:=by
  intro H hO hU hS hok I hK;have base_of:∀{b:Addr}{o:Obj},S.heap.get? b=some o->H b=none->(Qd S.heap H).get? b=some o:=λe n=>Ao e n;have M:∀{b:Addr}{o:Obj}{es:Array DictEntry}{E:Nat},S.heap.get? b=some o->o.data=.dict es E->H b=none:=λ {b o es E} e d=>by
   cases q:H b with
   |none=>rfl|some u=>
    rcases I b (by rw[q];simp) with z|z|z
    ·subst z
     rw[l]at e;cases e;have d':Data.seq vs.toArray _=Data.dict es E:=d;cases d'
    ·subst z
     rw[t]at e;cases e;cases d
    ·subst z
     rw[i]at e;cases e;cases d
  have N:∀{b:Addr}{m:b8},S.heap.Ns b m->(Qd S.heap H).Ns b m:=λ {b m} ⟨o,es,E,e,d,r⟩=>⟨o,es,E,base_of e (M e d),d,r⟩;have D:K.In (Qd S.heap H):=λb o e=>base_of (KX b o e) (by
   cases q:H b with
   |none=>rfl|some u=>
    rcases I b (by rw[q];simp) with z|z|z
    ·subst z
     rw[(hK u q).1]at e;cases e
    ·subst z
     rw[hKP]at e;cases e
    ·subst z
     rw[hKU]at e;cases e)
  have hBb:BMain mg (Qd S.heap H):=by
   obtain⟨bm,o,b1,b2,b3,B,J,b6,b7⟩:=hbm;refine⟨bm,o,b1,b2,b3,base_of B ?_,J,b6,b7⟩;cases q:H bm with
   |none=>rfl|some u=>
    rcases I bm (by rw[q];simp) with z|z|z
    ·subst z
     rw[l]at B;cases B;exact absurd J (by intro q;injection q with q;exact absurd q (by decide))
    ·subst z
     rw[t]at B;cases B;cases J
    ·subst z
     rw[i]at B;cases B;cases J
  have hM:Mod K mg (Qd S.heap H):=⟨D,N A,⟨mb,N c,hbb⟩,let ⟨mc,h1,h2⟩:=C;⟨mc,N h1,h2⟩⟩
  have e0:JW P w K mg (Qd S.heap H) callerA [] S H:=⟨rfl,hM,λb o e=>cI e,Nat.le_of_eq (BX _ _),trivial,λb c=>absurd (show b∈([]:bT) from c) (by simp),hok,.of_eq hg⟩
  refine codeAny_mono ((F _ D (N A) hBb).run callerA [] S H ⟨[.ref a],[]⟩ [.ref a] [.ref a] _ _ hr e0 (y S (.ref a)) (.cons rfl .nil) (T H hO hU hS)) λr s' h=>?_;cases r with
  |error e=>exact False.elim h|ok fl=>
   cases fl with
   |next=>exact False.elim h|brk=>exact False.elim h|cont=>exact False.elim h|ret u=>
    obtain⟨v,H',os,bare,un,g,r',q⟩:=h;have q':v=.bl true:=q;subst q';obtain rfl:u=Value.bool true:=r';refine⟨rfl,⟨λb o e=>?_,λb o e=>un.there b o e (by simp)⟩,os,bare⟩
    cases q:H b with
    |none=>exact .inl (un.keep b o e q (by intro z;exact absurd (show b∈([]:bT) from z) (by simp)) (by simp))|some u=>
     rcases I b (by rw[q];simp) with z|z|z
     ·subst z
      obtain⟨ob,xs,rfl⟩:=(hK u q).2;have j:=un.frzs _ ob _ q;obtain⟨e1,_⟩:=hok _ _ q;obtain⟨e2,_⟩:=g _ _ j;rw[e]at e1;cases e1;exact .inl e2
     ·subst z
      rw[t]at e;cases e;obtain⟨more,j⟩:=un.tbls _ _ hO;exact .inr (.inl ⟨hct,rfl,#[],more,rfl,g _ _ j⟩)
     ·subst z
      rw[i]at e;cases e;obtain⟨more,j⟩:=un.tbls _ _ hU;exact .inr (.inl ⟨Y,rfl,#[],more,rfl,g _ _ j⟩)
 have two:∀b,(b=Pt∨b=p)->S.heap.get? b=some (tabObj #[]):=λb h=>by
  rcases h with h|h<;>rw[h]
  ·exact t
  ·exact i
 have na:¬(a=Pt∨a=p):=λh=>h.elim Q U;cases X:K.lookup a with
 |some o=>
  have e:=KX a o X;rw[l]at e;cases e;refine core (λb=>if b=Pt∨b=p then some (.tbl #[]) else none) (ah (.inl rfl)) (ah (.inr rfl)) (.inr ⟨_,vs.toArray,_,X,rfl,rfl,rfl,by rw[aB,L];exact hl,by simpa using rv⟩) (λb u z=>?_) (λb z=>?_) λu z=>?_
  ·by_cases c:b=Pt∨b=p
   ·have Z:=(ah c).symm.trans z
    cases Z;exact two b c
   ·have Z:=(aj c).symm.trans z
    cases Z
  ·by_cases c:b=Pt∨b=p
   ·exact .inr c
   ·exact absurd (aj c) z
  ·have Z:=(aj na).symm.trans z
   cases Z
 |none=>
  refine core (λb=>if b=Pt∨b=p then some (.tbl #[]) else if b=a then some (.frz { cls:=.type "list",data:=.seq vs.toArray } (.lst (ns.map V.int))) else none) (ah (.inl rfl)) (ah (.inr rfl))
   (.inl ⟨{ cls:=.type "list",data:=.seq vs.toArray },(aj na).trans (ah rfl)⟩) (λb u z=>?_) (λb z=>?_) λu z=>?_
  ·by_cases c:b=Pt∨b=p
   ·have Z:=(ah c).symm.trans z
    cases Z;exact two b c
   ·have Z:=(aj c).symm.trans z
    by_cases f:b=a
    ·have j:=(ah f).symm.trans Z
     cases j;subst f;exact⟨l,by rw[ag];exact hl,vs,_,rv,l⟩
    ·have j:=(aj f).symm.trans Z
     cases j
  ·by_cases c:b=Pt∨b=p
   ·exact .inr c
   ·by_cases f:b=a
    ·exact .inl f
    ·exact absurd ((aj c).trans (aj f)) z
  ·have Z:=((aj na).trans (ah rfl)).symm.trans z
   cases Z;exact⟨X,_,_,rfl⟩
def Lw (q r:Str)(fs:Addr->Addr->Fn):Prop:=∀n:bR,n.length<=63->∀p P,∃A,fs p P [.ref 0] [.ro (n.map W.int),.tab q p,.tab r P]=.ok (.bl true) A
def Cr {K:Frag}{P:Addr}{q r:Str}(N:Pt≠P)(f:H Pt=some (.tbl #[]))(U:H P=some (.tbl #[]))(S:Kl K H a (ns.map V.int)):zX K [a,Pt,P] [.ro (ns.map W.int),.tab q Pt,.tab r P] H:=by
 refine⟨rfl,λi j b o u l g d c t M=>?_,λn o h=>?_⟩
 ·match i,j,l,g,d,c with
  |0,_,_,_,d,_=>simp at d;subst d;cases t|_,0,_,_,_,c=>simp at c;subst c;cases M|1,1,_,_,_,_=>rfl|2,2,_,_,_,_=>rfl|1,2,l,g,_,_=>simp at l g;exact absurd (l.trans g.symm) N|2,1,l,g,_,_=>simp at l g;exact absurd (g.trans l.symm) N|i+3,_,_,_,d,_=>simp at d|_,j+3,_,_,_,c=>simp at c
 ·match n,h with
  |0,h=>simp at h;subst h;exact⟨a,rfl,ns.map V.int,S,zK.ints.mpr rfl⟩|1,h=>simp at h;subst h;exact⟨Pt,rfl,rfl,#[],f,trivial,λp C e=>nomatch e⟩
  |2,h=>simp at h;subst h;exact⟨P,rfl,rfl,#[],U,trivial,λp C e=>nomatch e⟩
  |n+3,h=>simp at h
def zfK {y:Str}{l:PySem.W.OpenLaw}{k:Nat}{q:Program}{loose:bX}{M:World->Heap->Prop}{d:DefRec}{Kp:Params->Frag}{X Q:Str}{fs:Addr->Addr->Fn}{P:Addr}(ok:Lw X Q fs)
  (hn:l.most=some 63)(B:d.params.defaults=[])(hr:jF k callerA)(ne:Pt≠P)(hY:∀(w:World)(h:Heap),M w h->(Kp w.params).In h)(hT:∀(w:World)(h:Heap),M w h->h.get? Pt=some (tabObj #[])/\h.get? P=some (tabObj #[]))
  (ht:∀p,Xz (Kp p) d.name Pt=true)(I:∀p,(Kp p).lookup Pt=none)(Z:∀p,Xz (Kp p) y P=true)(U:∀p,(Kp p).lookup P=none)
  (F:∀(w:World)(mg:b8)(fa:Addr)(h:Heap),(Kp w.params).In h->h.Ns mainGlobals mg->mg d.name=some (.ref fa)->(∃c,tabIn (Kp w.params) d.name=some (c,Pt)/\codeHdIn (Kp w.params) c Pt=true)->(∃c,tabIn (Kp w.params) y=some (c,P)/\codeHdIn (Kp w.params) c P=true)->
   ∃fd:FuncData,(∀(s:Shared)(u:Value),BindsTo s fd ⟨[u],[]⟩ [(x,u)])/\∀base:Heap,(Kp w.params).In base->base.Ns mainGlobals mg->BMain mg base->yN l.prog w (Kp w.params) mg base wc k fa fd [x] (ZU (Kp w.params) 1 (fs Pt P))):
  PySem.W.WalkO q loose XP M l.row.toRowW d [] (λf vs=>PySem.call f vs):=by
 refine Att.D6 (n:=63) hn B λw N S mg mb fa o pm cd doc a vs ns G Y ho hd hcd' t j hints hlen hg=>?_;have K:=hY w _ Y;obtain⟨fd,hb,hF⟩:=F w mg fa _ K G.T.g t (GS (ht w.params)) (GS (Z w.params));obtain⟨c,_,C⟩:=GS (ht w.params);obtain⟨c2,_,i⟩:=GS (Z w.params);obtain⟨hP,hU⟩:=hT w _ Y;have hc:isCodeTable S.heap Pt:=((codeHd_of_K K C).tab hP).isCodeTable;have D:isCodeTable S.heap P:=((codeHd_of_K K i).tab hU).isCodeTable;have E:BMain mg S.heap:=by
  obtain⟨bm,ob,b1,b2,L,b4,b5,J⟩:=G.T.bmain;refine⟨bm,ob,b1,b2,λz=>?_,L,b4,b5,J⟩;obtain⟨o,es,ep,e,hd,_⟩:=G.T.g;rw[z,e]at L;cases L;rw[hd]at J;cases J
 refine BB K G.T.g G.T.b G.T.builtins G.T.nolimit hg j hints (aY hlen (by decide)) hr hP (I w.params) hc hU (U w.params) D E hF hb λH h1 h2 h3=>?_
 refine⟨rfl,[a,Pt,P],[.ro (ns.map W.int),.tab X Pt,.tab Q P],[.ref 0],Cr ne h1 h2 h3,.one ⟨a,rfl,rfl⟩,?_⟩;obtain⟨A,e⟩:=ok ns hlen Pt P;rw[e];exactλq7 H' v _ _ r=>r
def AG (x:Array Value):slicePick x none none (some (-1))=x.toList.reverse.toArray:=by
 unfold slicePick;have E:sliceBounds none none (some (-1)) x.size=((x.size:Int)-1,-1,-1):=rfl;rw[E];have e:sliceRange ((x.size:Int)-1) (-1) (-1)=(List.range x.size).map λ(k:Nat)=>(((x.size:Int)-1)+(k:Int) * (-1)).toNat:=by
  unfold sliceRange;dsimp only;rw[aj (by decide)]
  by_cases h:x.size=0
  ·rw[h,aj (by decide)];rfl
  ·rw[ah (by omega)]
   have:(((x.size:Int)-1 - -1 - -1-1)/(- -1)).toNat=x.size:=by
    rw[Int.neg_neg,ediv_one];omega
   rw[this];refine bh λk _=>?_;rw[Int.mul_comm]
 rw[e,List.filterMap_map];exact Mf x
section
variable {st:Expr}{m ms:Ev}{te:TE}{ts:TO}{p2:Pos}{K:Frag}
def lI (K:Frag):V->Hp->VK->Prop:=λx H Q=>∃a X,x=.ref a/\jm K H a X/\∀p,H p=none->Q (.ref p) (upd H p (.lst X.reverse))
def lJ (U:PE X e te)(p:PO X (some st) ts):PE X (.Subscript e (.Slice none none (some st) p2) p6) (λσ H Q=>te σ H λx E=>ts σ E λo D=>o=some (-1)/\lI X.K x D Q):=by
 intro P s σ H Q I h;refine Subscript_ (qf (U P s σ H _ I h) λv N ⟨x,E,B,f,j⟩=>?_);refine wpAny_Slice ?_;rw[evalPart_none];refine cm (cm ?_);refine qf (p P N σ E _ B j) λY S ⟨o,C,y,T,g⟩=>?_;obtain⟨rfl,a,M,rfl,n,q⟩:=g;cases f;cases T with
 |int i t=>
  have d:Inv X P σ C { S with heap:=S.heap.push { cls:=.type "slice",data:=.fields #[.none,.none,.int (-1) t] } }:=y.kept (t':=S.toks) λb ob q=>af _ q
  obtain⟨c,r,J,l⟩:=d.list n;have L:=r.length;have u:wpAny (model X.prog X.w) X.A (getItem (.ref a) (.ref S.heap.objs.size)) (EP X P σ Q) X.xe { S with heap:=S.heap.push { cls:=.type "slice",data:=.fields #[.none,.none,.int (-1) t] } }:=by
   refine wpAny_getItem_list_slice J.isList (Heap.IsSliceOf.new ..) .none .none (.int (-1) t) (by simp) ?_ (by rw[aB]<;>omega)
   rw[AG];refine⟨.ref _,_,d.laid (t':=S.toks) (o:=.lst M.reverse) (λb ob q=>af _ q) (aq _) ?_,rfl,q _ (d.hok.fresh (aq _))⟩;exact⟨by rw[bz];exact l,c.reverse,0,OA r,aC _ rfl⟩
  show wpAny (model X.prog X.w) X.A (subscriptTail e (.Slice none none (some st) p2) (.ref a) (.ref S.heap.objs.size)) (EP X P σ Q) X.xe _;exact tail_any (ops:=[.ref a,.ref S.heap.objs.size]) J.isList.typeIs slot_list_getitem.lookup u (by with_unfolding_all rfl)
def XW (m M:Ev):Ev:=λb A=>(m b A).bind λw c=>(yd M b c).bind λo a=>match w with
 |.ref n=>match a[n]? with
  |some (.lst ws)=>if o=some (-1) then .ok (.ref a.length) (a++[.lst ws.reverse]) else .bad|_=>.bad
 |_=>.bad
end
structure TR (x:Str)(sc:Scope):Prop where
 kind:sc.kind=.function
 co:sc.isCoroutine=false
 gen:sc.isGenerator=false
 nocf:∀y∈sc.names,y.2≠.cell/\y.2≠.free
 loc:sc.names.lookup x=some .local
noncomputable def IU (x:Str)(S:Scope):Bool:=S.kind==.function&&!S.isCoroutine&&!S.isGenerator&&S.names.all (λy=>!(y.2==.cell)&&!(y.2==.free))&&S.names.lookup x==some .local
def lK (h:IU x sc=true):TR x sc:=by
 unfold IU at h;simp only[ak,aL,not_eq_true']at h;obtain⟨⟨⟨⟨e,d⟩,c⟩,b⟩,a⟩:=h;refine⟨e,d,c,λy H=>?_,a⟩
 have:=cy.mp b y H
 simp only[ak,not_eq_true',beq_eq_false_iff_ne]at this;exact this
section
variable {K:Frag}{cd:Value}{A:Around}{outer:b9}{s:Shared}{E:XK}
def AO {D:Heap}{t:Tok}(S:TR x scope)(I:A.handled=none)(e:JW P w K mg base A outer s H)(r:RelV v u)(d:D.Ns s.heap.objs.size λy=>[(x,u)].reverse.lookup y)(j:∀b o,s.heap.get? b=some o->D.get? b=some o):
  Inv (wR P w K mg base [x] qual scope f cd [] A outer s H E) [] (L2.start [x] [v]) H { s with heap:=D,toks:=t }:=by
 have n:∀b:Addr,b∉(wR P w K mg base [x] qual scope f cd [] A outer s H E).ex:=λb z=>absurd (show b∈([]:bT) from z) (by simp)
 refine⟨⟨e.mod,S.kind,rfl,rfl,aq _,λ_ _ _ z=>(nomatch z),λy a=>?_,λy c z _=>(nomatch z),λ_=>I,Around.frames_deeper e.frames,.inr ⟨rfl,rfl⟩,λb z=>absurd z (n b),e.bs,e.bsz,λb _ _=>n b,λb z=>absurd z (n b),e.funs,e.frf⟩,
  rfl,e.bare,Un.kept j,⟨_,d,λi y l D J C=>?_⟩,λy c h=>(nomatch h),e.hok.fresh (aq _),λy c h=>(nomatch h),λp q=>absurd (show p∈([]:bU) from q) (by simp),e.hok.kept j,rfl⟩
 ·have a:scope.names.lookup y=some .cell∨scope.names.lookup y=some .free:=a
  rcases a with a|a
  ·exact absurd rfl (S.nocf _ (PySem.mem_of_lookup a)).1
  ·exact absurd rfl (S.nocf _ (PySem.mem_of_lookup a)).2
 ·cases i with
  |zero=>
   have g:some x=some y:=D;cases g;have B:some (some v)=some (some l):=J;cases B;exact⟨u,r,.inl ⟨S.loc,by show [(x,u)].lookup x=some u;simp⟩⟩
  |succ i=>cases i<;>(have g:(none:Option Str)=some y:=D;cases g)
end
inductive IZ (K:Frag)(a:Addr)(ob:Obj)(u:HO)(c:Addr)(oc:Obj)(uc:HO)(g:Fn)(us:List V)(H:Hp)(Q:VK)(E:XK):Prop
 |mk (e:us.length=1) (h1:H a=some (.frz ob u)) (h2:H c=some (.frz oc uc)) (φ:bT) (A:Hx) (ws:List W) (S:zX K φ A H) (r:zK K φ H ws us) (q:(g ws A).post (PB K φ H Q) (EB K φ H (gn K E)))
def J0 (P:Program)(w:World)(K:Frag)(M:b8)(j:Nat)(p:Obj->Addr->Obj->List V->Prop)(g:Fn):Prop:=
 ∀b a ob u c o U v,p ob c o v->(∃f,ob.data=.func f)/\∃(f:FuncData) (ps:bX),yN P w K M b (gW P w) j a f ps (IZ K a ob u c o U g)/\∀(s:Shared)(us:bS),us.length=1->BindsTo s f ⟨us,[]⟩ (ps.zip us)
section
variable {K:Frag}{q:Str}{params:Arguments}{body:Expr}{k:Nat}{m:Ev}
def lL (S:TR x scope)(i:∀(pm T ctv v:Value),bindArgs (kla_fn "<lambda>" q params body scope [] pm T ctv) ⟨[v],[]⟩=pure [(x,v)])
  (g:∀(base:Heap)(a c:Addr)(A:Around)(outer:b9)(s:Shared)(H:Hp)(E:XK),jF k (A.deeper (envX q scope s.heap.objs.size a (.ref c) []))->gf (wR P w K mg base [x] q scope a (.ref c) [] A outer s H E) s.heap (gn K E)->
   SE (wR P w K mg base [x] q scope a (.ref c) [] A outer s H E) (gn K E) body m):J0 P w K mg (k+1) (JV q params body scope []) λws A=>m (ws.map some) A:=by
 rintro base a ob u c p uc vs ⟨⟨pm,ctv,rfl⟩,D⟩
 refine⟨⟨_,rfl⟩,kla_fn "<lambda>" q params body scope [] pm (.ref c) ctv,[x],⟨λus H Q E h=>by cases h with|mk e=>rw[e];rfl,λA outer s H args us j Q E C n hb r h=>?_⟩,λs us Y=>?_⟩
 ·obtain⟨he,h1,h2,φ,A1,ws,Sm,X,hp⟩:=h
  obtain⟨v,rfl⟩:∃v,j=[v]:=by
   cases j with
   |nil=>cases he|cons v t=>cases t with
    |nil=>exact⟨v,rfl⟩|cons _ _=>cases he
  obtain⟨u',rfl,ru⟩:=r.one;have ho:s.heap.get? a=some (kla_obj "<lambda>" q params body scope [] pm c ctv):=(show jg P w H s.heap a (.frz _ u) from n.hok a _ h1).1
  have hc:s.heap.get? c=some p:=(show jg P w H s.heap c (.frz p uc) from n.hok c _ h2).1
  have lim:s.heap.NoLimit:=n.mod.nolimit.keeps λb o e=>(n.bs b o e).1;obtain⟨Z,tc,M,hd2⟩:=D;refine kla_callFunE C.depth ho rfl S.co S.gen rfl ⟨c,p,Z,tc,rfl,hc,M,hd2⟩ (hb _ _ _ _ ?_);refine wpAny_newFunctionEnv (λy B=>(S.nocf y B).1) (λy B=>?_) (λd L l=>⟨lim.fresh _ l,?_⟩) S.kind
  ·have:y=(x,u'):=by simpa using B
   rw[this];exact S.loc
  show codeAny _ _ (.expr body (envX q scope s.heap.objs.size a (.ref c) [])) _ _;have f:∀b o,s.heap.get? b=some o->d.get? b=some o:=λb o e=>l.extBut b o (aO (aM e)) (af _ e);have I:∀U,Inv (wR P w K mg base [x] q scope a (.ref c) [] A outer s H E) [] (L2.start [x] [v]) H { s with heap:=d,toks:=U }:=λU=>AO S C.hd n ru L f
  refine kla_codeExpr (wpAny_mono (g base a c A outer s H E (C.deeper _) IG [] _ (L2.start [x] [v]) H Q (I _) ⟨φ,A1,_,Sm,RE.start (N:=[x]) X,?_⟩) (λv s' hv=>?_) λ_ _ y=>y)
  ·have:[x].length-ws.length=0:=by rw[X.length];rfl
   rw[this,List.replicate_zero,a3];exact hp
  ·obtain⟨y,H',J,rx,qq⟩:=hv
   exact⟨y,H',J.os,J.bare,J.base,J.hok,rx,qq⟩
 ·obtain⟨v,rfl⟩:∃v,us=[v]:=by
   cases us with
   |nil=>cases Y|cons v t=>cases t with
    |nil=>exact⟨v,rfl⟩|cons _ _=>cases Y
  exact .of_eq (i pm _ ctv v)
end
open Classical in
def YS (i:Nat)(fs:List (Str×Fn))(p:Obj->Addr->Obj->List V->Prop)(g:Fn)(M:Ea):Ev:=λa A=>match a[i]? with
 |some (some (.fn z))=>(match fs.lookup z with
  |some f=>zC f M a A|none=>.bad)
 |some (some (.clo _ _ P))=>if P=p then zC g M a A else .bad|_=>.bad
theorem Nu {z:Str}{f:α}:∀{fs:List (Str×α)},fs.lookup z=some f->(z,f)∈fs
 |[],h=>by cases h|(x,g)::fs,h=>by
  unfold List.lookup at h;cases e:z==x with
  |true=>rw[e]at h;cases h;rw[aL.mp e];exact aE ..|false=>rw[e]at h;exact aw _ (Nu h)
open PySem.W (KasT kas_asc kas_sort kat_run kat_snds kat_kind)
theorem L6 {p:Array Nat}(H:∀i,i<n->p.getD i 0=i)(b:∀a,1<=a->a<n->c a (a-1)=false):∀(f a:Nat){Q:Nat->Prop},1<=a->a+f=n->Q n->TW n c (kas_asc p f a) Q
 |0,a,Q,_,e,h=>by
  obtain rfl:a=n:=e;exact h
 |f+1,a,Q,h1,e,h=>by
  have d:=H a (by omega)
  have E:=H (a-1) (by omega)
  refine⟨by omega,by omega,?_⟩
  rw[d,E,b a h1 (by omega)]
  exact L6 H b f (a+1) (by omega) (by omega) h
def lM {Q:Array Nat->Prop}(d:2<=n)(b:∀a,1<=a->a<n->c a (a-1)=false)(h:Q (List.range n).toArray):TW n c (kas_sort n) Q:=by
 refine TW.bind _ (TW.bind _ (L6 (p:=(List.range n).toArray) (λi H=>by simp[Array.getD,H]) b _ _ (aq _) (by omega) ?_))
 rw[ah (by simp)]
 show TW n c (if n<n then _ else _) Q;rw[aj (aT n)];exact h
section
variable {prog:Program}{A:Around}{s:Shared}
structure SU (prog:Program)(w:World)(A:Around)(κ:SortKind)(vs:bS)(c:Nat->Nat->Bool)(s:Shared):Prop where
 kind:2<=vs.length->∀{Q:SortKind->Shared->Prop}{E:bY},Q κ s->wpAny (model prog w) A (keyKind' vs.toArray) Q E s
 lt:∀i j,i<vs.length->j<vs.length->∀{Q:Bool->Shared->Prop}{E:bY},Q (c i j) s->wpAny (model prog w) A (keyLt' κ (vs.getD i Value.none) (vs.getD j Value.none)) Q E s
def C1 {κ:SortKind}{K:bS}{P:PySem.Fin->Shared->Prop}(g:s.heap.get? a=some (seqObj "list" K.toArray n))(v:∀h':Heap,(∀b o,b≠a->s.heap.get? b=some o->h'.get? b=some o)->SU prog w A κ K c { s with heap:=h' })(q:K.length<64)
  (B:∀a,1<=a->a<K.length->c a (a-1)=false)(h:P (.done (.ret .none)) { s with heap:=sortedHeap s.heap a K K.toArray }):
  wpAny (model prog w) A (Builtin.«list.sort» ⟨[.ref a],[]⟩) P E s:=by
 have J:a<s.heap.objs.size:=aM g;obtain⟨t,f⟩:∃t,(s.heap.update a (Obj.mapSeq λ_=>(#[]:Array Value))).get? a=some (seqObj "list" #[] t):=⟨_,get?_update_seq g λ_=>#[]⟩;have U:∀b o,b≠a->s.heap.get? b=some o->(((s.heap.update a (Obj.mapSeq λ_=>(#[]:Array Value))).push (seqObj "tuple" K.toArray 0)).push (seqObj "list" #[] 0)).get? b=some o:=λb o N e=>
  af _ (af _ ((bo _ _ (Ne.symm N)).trans e))
 have T:=v _ U;have H:=af (seqObj "list" #[] 0) (af (seqObj "tuple" K.toArray 0) f);have d:K.toArray.size=K.length:=by simp
 rw[list_sort_plain];refine cj (listItems_at g rfl ?_);refine cj (listUpdate_at g rfl ?_ (by rw[d,sizeLine_eq];omega) (zero_le _))
 refine cj (seqEpoch_at f rfl ?_);refine cj (wpAny_newTuple ?_ (by show K.length<=_;rw[sizeLine_eq];omega))
 refine cj (wpAny_newList ?_ (zero_le _));refine wpAny_holding ?_;show wpAny (model prog w) A _ P E { s with heap:=((s.heap.update a (Obj.mapSeq λ_=>(#[]:Array Value))).push (seqObj "tuple" K.toArray 0)).push (seqObj "list" #[] 0) }
 dsimp only
 by_cases z:K.toArray.size<2
 ·rw[ah z,ah z]
  refine cj (cm ?_);rw[StateT.run_pure];refine cj (cm ?_);dsimp only;refine cj (seqEpoch_at H rfl ?_);show wpAny _ _ (Builtin.List.listUpdate (.ref a) (λ_=>(K.toArray.zip K.toArray).map (·.2)) >>= _) _ _ _;rw[lD K];refine cj (listUpdate_at H rfl ?_ (zero_le _) (by rw[d,sizeLine_eq];omega))
  simp only[bne_self_eq_false,false_eq_true,if_false];exact cm h
 ·rw[aj z,aj z]
  have M:2<=K.length:=by omega
  refine cj (T.kind M ?_);refine cj (wpAny_mono (kat_run (ks:=K) (G:=λp L=>L={ s with heap:=((s.heap.update a (Obj.mapSeq λ_=>(#[]:Array Value))).push (seqObj "tuple" K.toArray 0)).push (seqObj "list" #[] 0) }/\p=(List.range K.length).toArray)
   (Q:=λS L=>arrOf S=(List.range K.length).toArray.map (PySem.W.kas_item (K.toArray.zip K.toArray))/\failedOf S=none/\L={ s with heap:=((s.heap.update a (Obj.mapSeq λ_=>(#[]:Array Value))).push (seqObj "tuple" K.toArray 0)).push (seqObj "list" #[] 0) })
   rfl M q (λp S L X a2 I u=>⟨by rw[<- u.2];exact a2,I,u.1⟩) ?_) ?_ λ_ _ e=>e)
  ·exact TW.wp (n:=K.length) (c:=c) (λi j C y x D=>T.lt i j y x D) _ (lM M B ⟨rfl,rfl⟩)
  ·rintro⟨⟨⟩,S⟩ L ⟨r,l,rfl⟩
   dsimp only;rw[kat_snds rfl r,List.toList_toArray,lC];refine cj (seqEpoch_at H rfl ?_);refine cj (listUpdate_at H rfl ?_ (zero_le _) (by rw[d,sizeLine_eq];omega))
   rw[l];simp only[bne_self_eq_false,false_eq_true,if_false];exact cm h
def AI {u:SortKind}{l:Addr}{v:bS}(i:s.heap.IsList l v.toArray)(T:∀(x:Around)(r:Heap)(t:Nat),x.units<=A.units+8->(∀b o,s.heap.get? b=some o->r.get? b=some o)->SU prog w x u v c { s with heap:=r,toks:=t })(g:v.length<64)
  (j:∀a,1<=a->a<v.length->c a (a-1)=false)
  (h:∀(r:Heap)(a:Addr)(k:Nat),s.heap.objs.size<=a->r.get? a=some { cls:=.type "list",data:=.seq v.toArray k }->(∀b o,s.heap.get? b=some o->r.get? b=some o)->Q (.ref a) { s with heap:=r }):
  wpAny (model prog w) A (call (.builtin "sorted") [.ref l]) Q E s:=by
 refine Calls.call_function_entry kind_sorted plain_sorted entry_sorted (args_sorted1 _) ?_;unfold Builtin.«sorted»;refine cj (m:=checkCount "sorted" 1 1 _) (cm ?_);refine cj (collect_list i ?_ (by rw[sizeLine_eq];omega))
 refine cj (wpAny_newList ?_ (by rw[sizeLine_eq];omega))
 have f:((s.heap.push (seqObj "list" #[] 0)).update s.heap.objs.size (Obj.mapSeq (·++v.toArray))).objs.size=s.heap.objs.size+1:=by rw[Heap.size_update,size_push']
 show wpAny _ _ _ _ _ { s with heap:=((s.heap.push (seqObj "list" #[] 0)).update s.heap.objs.size (Obj.mapSeq (·++v.toArray))).push (seqObj "list" v.toArray 0) }
 have d:∀b o,s.heap.get? b=some o->((s.heap.push (seqObj "list" #[] 0)).update s.heap.objs.size (Obj.mapSeq (·++v.toArray))).get? b=some o:=λb o e=>
  (bo _ _ (ne_of_gt (aM e))).trans (af _ e)
 generalize (s.heap.push (seqObj "list" #[] 0)).update s.heap.objs.size (Obj.mapSeq (·++v.toArray))=h1 at f d;have H:(h1.push (seqObj "list" v.toArray 0)).get? h1.objs.size=some (seqObj "list" v.toArray 0):=aC _ rfl;have K:∀b o,s.heap.get? b=some o->(h1.push (seqObj "list" v.toArray 0)).get? b=some o:=λb o e=>af _ (d b o e);have nb:∀b o,s.heap.get? b=some o->b≠h1.objs.size:=λb o e z=>by
  subst z
  have:h1.objs.size<s.heap.objs.size:=aM e
  omega
 refine cj (wpAny_holding (wpAny_call_entry slot_list_sort ⟨_,H,rfl⟩ entry_list_sort (C1 (κ:=u) (c:=c) H (λr y=>T _ r _ (by first|(show A.units+1<=A.units+8;omega)|(show A.units+1+1<=A.units+8;omega)) λb o e=>y b o (nb b o e) (K b o e)) g j ⟨_,rfl,?_⟩) (args_list_sort _)))
 refine cm ⟨_,rfl,?_⟩;have q:=get?_update_seq H (λ_=>(#[]:Array Value));have p:=af (seqObj "list" #[] 0) (af (seqObj "tuple" v.toArray 0) q);obtain⟨k,n⟩:∃k,(sortedHeap (h1.push (seqObj "list" v.toArray 0)) h1.objs.size v v.toArray).get? h1.objs.size=some (seqObj "list" v.toArray k):=⟨_,get?_update_seq p (λ_=>v.toArray)⟩;refine h _ h1.objs.size k (by omega) n λb o e=>?_
 unfold sortedHeap;exact(bo _ _ (Ne.symm (nb b o e))).trans (af _ (af _ ((bo _ _ (Ne.symm (nb b o e))).trans (K b o e))))
def CN {d:bS}{K:bQ}{A:Around}(T:w8 s.heap d K):SU prog w A (tuples' (Value.type "int" != Value.type "tuple")) d (λi j=>yC (K.getD i []) (K.getD j [])) s where
 kind:=λe Q E h=>by
  obtain⟨fs,t,fl,f⟩:=T.firsts;exact kat_kind (T:=.type "int") t (by omega) (λv H=>by obtain⟨i,c,rfl⟩:=f v H;exact PySem.W.Looks.of_pure rfl) rfl h
 lt:=λi j b a Q E h=>lF (T.at i (by rw[<- T.length];exact b)) (T.at j (by rw[<- T.length];exact a)) h
end
section
variable {m:Ev}
def WU (K:bQ):Bool:=(List.range K.length).all λa=>a==0 || !yC (K.getD a []) (K.getD (a-1) [])
def DE:yJ X (.builtin "sorted") (λxs H Q=>∃(p:Addr) (Y:List V) (M:bQ) (P:bT),xs=[.ref p]/\jm X.K H p Y/\zK X.K P H (M.map Ru) Y/\(∀k∈M,k≠[])/\(M.length<64/\WU M=true)/\
  ∀l,H l=none->Q (.ref l) (upd H l (.lst Y))):=by
 intro S s σ H xs us Q I r h;obtain⟨p,Y,M,P,rfl,g,d,Z,⟨x,w⟩,q⟩:=h;obtain⟨u,rfl,e⟩:=vals1 r;cases e;obtain⟨f,v,⟨o,k,B,y,L,E⟩,C⟩:=I.list g;have T:=Li I d Z v;have J:=T.length;have D:=v.length;refine AI (c:=λi j=>yC (M.getD i []) (M.getD j [])) ⟨o,B,y,k,E⟩ (λA U t _ N=>CN (s:={ s with heap:=U,toks:=t }) (T.keep N)) (by omega) (λa h1 b=>?_) λU a c b n N=>?_
 ·have:=cy.mp w a (cn.mpr (by omega))
  rw[a8,aL,not_eq_true']at this;exact this.resolve_left (by omega)
 ·refine⟨.ref a,_,I.laid (t':=s.toks) (o:=.lst Y) N b ⟨?_,_,c,v,n⟩,rfl,q _ (I.hok.fresh b)⟩
  rw[sizeLine_eq];omega
def Xq:W->Hx->R W:=λw A=>match w with
 |.ref n=>match A[n]? with
  |some (.lst ws)=>match QG ws with
   |some K=>if K.length<64/\WU K=true then .ok (.ref A.length) (A++[.lst ws]) else .bad|none=>.bad
  |_=>.bad
 |_=>.bad
def Xu (m:Ev):Ev:=λa A=>(m a A).bind λw b=>Xq w b
end
@[irreducible] noncomputable def Vp (X:Cx)(x:XR)(e:bZ)(M:List Ev):Prop:=Mi.SJ X x e M
def Lv:@Vp=@Mi.SJ:=by
 funext X xr es ms
 unfold Vp
 rfl
section
def kG:@zF=@Mi.SE/\@gu=@Mi.SA/\@kg=@Mi.ST/\@Zp=@Mi.SW/\@kN=@Mi.SS/\@kK=@Mi.Yc/\@wb=@Mi.SI/\@wM=@Mi.SG/\@Qn=@Mi.SF/\@gr=@Mi.SQ/\@Zd=@Mi.Gd/\@gR=@Mi.SM/\@Vp=@Mi.SJ:=⟨Xv,T3,Sj,TM,TU,Td,TZ,Sn,Sg,T6,U8,Sk,Lv⟩
def K5 {g:Heap}{E:bZ}{k:Nat}{f:Fn}(o:gf X g xr)(F:jL X.prog X.w X.K X.mg X.base k x n f)(i:jF k X.A)(C:gu X xr (e::E) mr)(j:ZQ mr n:=by repeat' (first|exact zR|refine zA ?_))(u:Gl X x:=by rfl)
  (c:(x==("__debug__":Str))=false:=by decide)(he:starEach (e::E) X.env=(false,eval e X.env)::starEach E X.env:=by rfl)(l:(backTo p6 (starEach E X.env)).any (·.1)=false:=by rfl):
  zF X xr (.Call (.Name x p) (e::E) [] p6) (zC f mr):=by
 try simp only[kG]at*
 obtain⟨fa,fd,ps,F,hm,t,B⟩:=F;refine PE.imp (M1 F i u hm t B .nil o.passes C c he l) λσ H Q ⟨Z,A,T,S,re,h⟩=>?_;have P:=qm.mp h;refine⟨Z,A,T,S,re,?_⟩;cases r:mr T A with
 |ok Y U=>
  rw[r]at P;intro b H1 vs L J q;have v:vs.length=n:=by rw[<- q.length];exact j T A Y U r
  rw[a3];refine⟨v,b,U,Y,J,q,qL P (λ_ _ z=>z.mono L) λy A2 z a M d I N D=>?_⟩;exact⟨y,N,rfl,D,z a M (L.trans d) I⟩
 |exc y U=>rw[r]at P;exact P|bad=>rw[r]at P;exact P
def M9 {m:Ev}(h:kg X.nox yQ e m):kg X xr e λρ A=>(m ρ A).nox:=by
 try simp only[kG]at*
 refine PT.imp (PT.nox h) λc H Q ⟨a,A,ρ,S,r,q⟩=>⟨a,A,ρ,S,r,?_⟩;cases E:m ρ A with
 |ok w b=>(try dsimp only at q);rw[E]at q;exact q|exc y b=>(try dsimp only at q);rw[E]at q;exact q.elim|bad=>(try dsimp only at q);rw[E]at q;exact q.elim
def UN {M:Ex}{a:cg}(h:kK X.nox yQ a M):kK X xr a λρ A=>(M ρ A).nox:=by
 try simp only[kG]at*
 refine ki.imp (ki.nox h) λD d H ⟨b,A,ρ,S,r,q⟩=>⟨b,A,ρ,S,r,?_⟩;cases e:M ρ A with
 |ok w c=>(try dsimp only at q);rw[e]at q;exact q|exc y c=>(try dsimp only at q);rw[e]at q;exact q.elim|bad=>(try dsimp only at q);rw[e]at q;exact q.elim
def O4 {g:Heap}{E:bZ}{top:Str}{N:Pos}(o:gf X g xr)(c:UM X.K top x)(d:gu X xr (e::E) mr)(l:ZQ mr n:=by repeat' (first|exact zR|refine zA ?_))(f:n<=sizeLine:=by decide)(a:Gl X x:=by rfl)(h:X.calm=true:=by rfl)
  (b:(x==("__debug__":Str))=false:=by decide)(i:starEach (e::E) X.env=(false,eval e X.env)::starEach E X.env:=by rfl)(H:(backTo p7 (starEach E X.env)).any (·.1)=false:=by rfl):
  kN X xr (.Raise (some (.Call (.Name x N) (e::E) [] p7)) none p6) (Xy x mr):=by
 try simp only[kG]at*
 exact AF o c.at_ c.exc PySem.F.excBase_ValueError d l f a h b i H
def W0 {K:Frag}{C:Stmt}{ps:bX}{k:Nat}{m:Ex}(F:we K x x C f fd)(hm:mg x=some (.ref f))(S:qJ N ps (qi C))
  (j:∀(kV I T:Value)(X:cf)(c ct:Value)(U:bS),U.length=ps.length->bindArgs (fnOf x x (Z4 C) (yY C) (qi C) .none kV I T X c ct) ⟨U,[]⟩=pure (ps.zip U))
  (a:∀(c:Value)(A:Around)(B:b9)(s:Shared)(H:Hp)(E:XK),jF k (A.deeper (envOfC x (qi C) s.heap.objs.size f c))->
   gf (wt (gW P w) P w K mg base N x (qi C) f c A B s H E) s.heap (gn K E)->kK (wt (gW P w) P w K mg base N x (qi C) f c A B s H E) (gn K E) (yY C) m):
  jL P w K mg base (k+1) x ps.length (Ze N.length m):=by
 try simp only[kG]at*
 refine⟨f,fd,ps,?_,hm,F.kp,F.binds j⟩;obtain⟨u,t,kV,I,T,X,c,ct,o,rfl,lk,d⟩:=F.ex;refine Sw lk d S (λZ H Q E h=>h.len) λA B s H Z Q E i ⟨v,L,Y,J,n,r,h⟩=>⟨_,a c A B s H E i iS,?_⟩;refine⟨L,Y,J.map some++List.replicate (N.length-J.length) none,n,RE.start r,?_⟩;have D:=qm.mp h;show R.post _ (FB K L H _) _;cases e:m (J.map some++List.replicate (N.length-J.length) none) Y with
 |ok fl A2=>
  rw[e]at D;cases fl with
  |rt w=>exact D|nx M=>exactλb q g l p _=>D b q .non l p rfl|bk M=>exact D.elim|ct M=>exact D.elim
 |exc y A2=>rw[e]at D;exact D|bad=>rw[e]at D;exact D.elim
def lN {L:Addr}{j:Nat}{l:Nat}{n:Str}{y:Str}{xD:Str}{cs:bX}{PG:Nat->Obj->Addr->Obj->List V->Prop}{lam:Nat->Fn}{Y:bS}{rn:String}{np:Pos}{cp:Pos}{ep:Pos}{dp:Pos}{yp:Pos}{M:Pos}{ap:Pos}{hp:Pos}(hL:∀k,Jl X.prog X.w X.K X.mg X.base kk (PG k) (lam k))(hr:jF kk X.A)(hst:X.stack=X.env::X.outer)(hFr:X.env.frame=some L)(hD:kJ X.K xD (.ref D))(exD:Mi.ZR X.K D Y rn=true)(hbD:Y.contains (.type "BaseException")=true)
  (hcs:∀c,cs.contains c=true->∀C,kJ X.K c (.ref C)->∃E f,Mi.ZR X.K C E f=true/\JY X.K C D=true)
  (hN:X.N.Nodup)(hi:X.N[i]? =some x)(hx:X.env.scope.names.lookup x=some .local)(hl:X.N[l]? =some n)(hn:X.env.scope.names.lookup n=some .local)(hj:X.N[j]? =some y)(hy:X.env.scope.names.lookup y=some .local)
  (hg:Gl X xD)(hs1:swapsWith (.Call (.Name x np) [] [] cp) none ep.line X.env=pure false:=by rfl)(hs2:swapsWith (.Name n M) (some (.Name y yp)) ap.line X.env=pure false:=by rfl)
  (hdx:(x==("__debug__":Str))=false:=by decide)(hdn:(n==("__debug__":Str))=false:=by decide)(hdD:(xD==("__debug__":Str))=false:=by decide):
  kN X xr (.Try [.Expr (.Call (.Name x np) [] [] cp) ep] [.ExceptHandler (some (.Name xD dp)) (some n) [.Assign [.Name y yp] (.Name n M) ap] hp] [] [] p6) (W3 i j l cs PG lam):=by
 try simp only[kG]at*
 intro p4 s σ H D0 I ⟨φ,A,ρ,S,re,h⟩;unfold W3 X3 at h;cases ei:ρ[i]? with
 |none=>rw[ei]at h;exact h.elim|some ow=>
  cases ow with
  |none=>rw[ei]at h;exact h.elim|some w=>
   rw[ei]at h;cases w with
   |clo k ws P=>
    dsimp only at h
    by_cases hP:P=PG k
    ·rw[ah hP]at h
     subst hP;obtain⟨v,hv,a,ob,u,c,oc,uc,vs,rfl,h1,h2,hp',rvs⟩:=re.get i _ ei;obtain⟨⟨fd0,hfd⟩,fd,F,hb⟩:=hL k a ob u c oc uc vs hp';have ho:s.heap.get? a=some ob:=(show jg X.prog X.w H s.heap a (.frz ob u) from I.hok a _ h1).1
     refine iY (i:=l) (L:=L) (k:=zg2 X.K φ H ρ j l D0)
      I hst hFr hD exD hbD hN hl (.inl hn) ?body ?t hg hdD (.inr hn)
     case body=>
      refine wpAny_execs_cons (wpAny_Expr_any ?_ I.quiet hs1);obtain⟨m,hns,T⟩:=I.loc;obtain⟨u',r',lk⟩:=T i x (.ref a) hi hv (.inl hx);obtain rfl:u'=Value.ref a:=r';have hm:m x=some (.ref a):=by
       rcases lk with ⟨_,e⟩|⟨q|q,_⟩
       ·exact e
       ·rw[show X.env.kindOf x=some .local from hx]at q;cases q
       ·rw[show X.env.kindOf x=some .local from hx]at q;cases q
      refine wpAny_Call_Name_kw (wpAny_Name (wpAny_loadName_local I.ok.kind hx hns hm ?_) hdx);have hK:Frag.In [(a,ob)] s.heap:=λb o e=>by
       rw[bD]at e
       by_cases hb:b=a
       ·subst hb;simp at e;subst e;exact ho
       ·have:(b==a)=false:=by simpa using hb
        rw[this]at e;cases e
      have hkp:keepIn [(a,ob)] (.ref a)=true:=by
       unfold keepIn;obtain⟨o1,o2,o3,o4⟩:=ob;cases (show o3=_ from hfd)
       simp[bD]
      refine PySem.W.callWith_K0 (K:=[(a,ob)]) (first:=[]) hK hkp ?_;refine wpAny_call (codeAny_mono (F.run X.A X.stack s H ⟨[],[]⟩ [] [] (λ_ H1=>D0.nx σ H1)
       (zha X.K φ H ρ j l D0 cs)
       hr I.env0 (hb s) .nil ⟨rfl,h1,h2,φ,A,ws,S,rvs,?_⟩) λr s' p=>?_)
      ·cases er:lam k ws A with
       |ok w1 A1=>
        rw[er]at h;exactλd H' v' B Z _=>h d H' σ B Z (re.mono B)
       |exc J A1=>
        rw[er]at h;dsimp only at h
        by_cases U:cs.contains J=true
        ·rw[ah U]at h
         exactλd H' B Z Ca g=>⟨J,Ca,rfl,g,U,d,A1,B,Z,h⟩
        ·rw[aj U]at h;exact h.elim
       |bad=>rw[er]at h;exact h.elim
      ·cases r with
       |error e=>
        unfold CR at p;dsimp only at p;have un:∀b o,s.heap.get? b=some o->∃o',s'.heap.get? b=some o':=by
         obtain⟨_,_,_,_,_,_,un,_⟩:=p;exactλb o e=>un.there b o e (by simp)
        obtain⟨ea,C,H',rfl,I',ly,tr,J,Ca,ec,g,U,rf,A1,l1,S1,hn1⟩:=Ni I p s.heap λb o e=>⟨o,e⟩;cases ec;obtain⟨E,f,exC,up⟩:=hcs J U C g;exact⟨ea,C,H',E,f,rfl,I',ly,tr,un,exC,up,λoe hoe Q=>⟨J,rf,A1,l1.trans (Le.new Q),S1.lay Q,⟨ea,oe,.own 0,C,rfl,j9,hoe,g⟩,hn1⟩⟩
       |ok fl=>
        cases fl with
        |ret u1=>
         obtain⟨v1,H1,I1,_,q1⟩:=I.after p;exact wpAny_execs_nil ⟨rfl,σ,H1,I1,q1⟩
        |next=>exact False.elim p|brk=>exact False.elim p|cont=>exact False.elim p
     case t=>
      rintro ea C H2 s2 I2 ⟨J,d,A',B,Z,rx,hn'⟩ E'
      refine CU (i:=l) (j:=j) I2 hN hl hj hn (.inl hy) (λs' I'=>?_) hs2 (.inr hy) hdn;exact⟨_,H2,I',hn' d H2 _ B Z ((((re.mono B).set rx).set rx).unset)⟩
    ·rw[aj hP]at h;exact h.elim
   |_=>exact h.elim
def kO {m:Ev}{P:Pos}{f:Str->Option Bool}{C:Addr}(b:WJ X.K f (.ref C))(d:kJ X.K x (.ref C))(o:X.mg "isinstance"=none)(i:zF X xr e m)(g:Gl X "isinstance":=by rfl)(a:Gl X x:=by rfl)(q:(x==("__debug__":Str))=false:=by decide)
  (l:starEach [e,.Name x P] X.env=(false,eval e X.env)::starEach [.Name x P] X.env:=by rfl)(t:(backTo p6 (starEach [.Name x P] X.env)).any (·.1)=false:=by rfl):
  zF X xr (.Call (.Name "isinstance" p) [e,.Name x P] [] p6) (je f m):=by
 try simp only[kG]at*
 have c:PE X (.Name x P) (tC (.ref C)):=λj s n H Q I h=>Wl I a (bC I.mod.kin I.mod.glob d) ⟨.ref C,H,I,rfl,h⟩ q;exact PE.imp (Q5 (N7 (cv:=.ref C) b λu r=>r) g o (by rfl) (jE i (jE c yw) l) (by decide) (by decide) l t) (je.read λn H Q h=>h)
def AU {m:Ev}{P:Pos}{f:Str->Option Bool}{T:String}(c:WJ X.K f (.type T))(l:X.mg "isinstance"=none)(a:X.mg x=none)(d:bootBuiltins x=some (.type T))(i:zF X xr e m)(g:Gl X "isinstance":=by rfl)(b:Gl X x:=by rfl)(n:x ≠ "__name__":=by decide)(o:(x==("__debug__":Str))=false:=by decide)
  (j:starEach [e,.Name x P] X.env=(false,eval e X.env)::starEach [.Name x P] X.env:=by rfl)(q:(backTo p6 (starEach [.Name x P] X.env)).any (·.1)=false:=by rfl):
  zF X xr (.Call (.Name "isinstance" p) [e,.Name x P] [] p6) (je f m):=by
 try simp only[kG]at*
 exact PE.imp (Q5 (N7 (cv:=.ty T) c λu r=>r) g l (by rfl) (jE i (jE (Xe b a d (v:=.ty T) rfl n o) yw) j) (by decide) (by decide) j q) (je.read λt H Q h=>h)
def lO {m:Ev}{a:Pos}{P:Pos}{pt:Pos}{I:Str}{D:Str}{K:Nat}(t T:Ty)(Y:X.mg "isinstance"=none)(n:X.mg I=none)(j:X.mg D=none)(f:bootBuiltins I=some (.type t.nm))(d:bootBuiltins D=some (.type T.nm))(C:zF X xr e m)(B:Gl X "isinstance":=by rfl)(q:Gl X I:=by rfl)(o:Gl X D:=by rfl)
  (i:I ≠ "__name__":=by decide)(r:(I==("__debug__":Str))=false:=by decide)(g:D ≠ "__name__":=by decide)(M:(D==("__debug__":Str))=false:=by decide)
  (h0:starEach [.Name I a,.Name D P] X.env=(false,eval (.Name I a) X.env)::starEach [.Name D P] X.env:=by rfl)(u:starEach [.Name D P] X.env=(false,eval (.Name D P) X.env)::starEach [] X.env:=by rfl)
  (J:starEach [e,.Tuple [.Name I a,.Name D P] K pt] X.env=(false,eval e X.env)::starEach [.Tuple [.Name I a,.Name D P] K pt] X.env:=by rfl)(Z:(backTo p6 (starEach [.Tuple [.Name I a,.Name D P] K pt] X.env)).any (·.1)=false:=by rfl):
  zF X xr (.Call (.Name "isinstance" p) [e,.Tuple [.Name I a,.Name D P] K pt] [] p6) (Vj t T m):=by
 try simp only[kG]at*
 exact PE.imp (Q5 k7 B Y (by rfl) (jE C (jE (Lp (jE (Xe q n f (v:=.ty t.nm) rfl i r) (jE (Xe o j d (v:=.ty T.nm) rfl g M) yw u) h0)) yw) J) (by decide) (by decide) J Z) λσ H Q ⟨φ,A,ρ,S,U,h⟩=>by
   refine tM.go S U (qm.mp h) λw A1 c H1 v J L x y=>?_;cases E:j0 w A1 with
   |none=>rw[E]at J;exact J.elim|some N=>
    rw[E]at J;refine⟨by show 2<=sizeLine;decide,λl b=>⟨v,N,l,rfl,qK.of j9,?_,J c _ _ (L.trans (Le.new b)) (x.lay b) rfl⟩⟩
    exact N4 (x.lay b) (y.mono (Le.new b)) E
def Te {m:Ev}(p:zF X xr e m)(g:wM X tg tw)(f:swapsWithSole [tg] e p6.line X.env=pure false:=by rfl)(o:swappedStores [tg] e X.env=pure none:=by rfl)(i:(assignEach [tg] X.env).map (·.2)=[assign tg X.env]:=by rfl):kN X xr (.Assign [tg] e p6) (Kc m tw):=by
 try simp only[kG]at*
 exact PS.imp (L4 p g f o i) λD y H ⟨x,A,j,S,n,h⟩=>by
   refine tM.go S n (qm.mp h) λw u a t v i l d q=>?_;cases E:tw w j with
   |none=>rw[E]at i;exact i.elim|some c=>
    rw[E]at i;exact⟨a,u,j,w,c,d,n.mono l,q,E,λb r=>i a t b l d r⟩
def M0 {a:Expr}{b:Expr}{ma:Ev}{mb:Ev}{pt:Pos}{U:Nat}(i j:Nat){y:Str}{P T p:Pos}{Y:Nat}(t:X.calm=true)(C:X.N.Nodup)(B:zF X xr a ma)(u:zF X xr b mb)(r:X.N[i]? =some x:=by rfl)(o:X.N[j]? =some y:=by rfl)(d:i≠j:=by decide)
  (g:X.env.scope.names.lookup x=some .local:=by rfl)(f:X.env.scope.names.lookup y=some .local:=by rfl)
  (hw:swappedStores [.Tuple [.Name x P,.Name y T] U pt] (.Tuple [a,b] Y p) X.env=pure (some [x,y]):=by rfl)
  (n:swapsWithSole [.Tuple [.Name x P,.Name y T] U pt] (.Tuple [a,b] Y p) p6.line X.env=pure false:=by rfl)
  (h1:starEach [a,b] X.env=(false,eval a X.env)::starEach [b] X.env:=by rfl)(Z:starEach [b] X.env=(false,eval b X.env)::starEach [] X.env:=by rfl):
  kN X xr (.Assign [.Tuple [.Name x P,.Name y T] U pt] (.Tuple [a,b] Y p) p6) (Rb i j ma mb):=by
 try simp only[kG]at*
 exact PS.imp (dt t C r o d g f (jE B (jE u yw Z) h1) hw n) λD σ H ⟨φ,A,ρ,S,M,h⟩=>by
   refine tM.go S M (qm.mp h) λw A1 e H1 v h1 l I Q=>?_;refine tM.go I (M.mono l) (qL (qm.mp h1) (λ_ _ z=>z) λ_ _ z=>z.mono l) λK A2 c J v2 Z L E q=>?_;exact⟨v,v2,rfl,Z c J _ (l.trans L) E (((M.mono (l.trans L)).set (Q.mono L)).set q)⟩
end
section
def Na {a:Expr}{b:Expr}{L:Ev}{M:Ev}(C:zF X xr a L)(P:zF X xr b M)(B:starEach [b] X.env=(false,eval b X.env)::starEach [] X.env:=by rfl)
  (e:attributeBase a "extend" X.env (eval a X.env)=eval a X.env:=by rfl)
  (w:((backTo p7 (starEach [b] X.env)).all (λx=>!x.1)&&(backToKw p7 (keywordEach [] X.env)).all (λx=>x.1.isSome)
   && decide ([b].length+([]:cc).length+(if ([]:cc).isEmpty then 0 else 1)<30))=true:=by rfl)(h:(rb.endLine==p7.line)=true:=by rfl):
  zF X xr (.Call (.Attribute a "extend" rb) [b] [] p7) (jo Qx L M):=by
 try simp only[kG]at*
 exact XO PySem.F.slot_list_extend (by kernel_rfl) Bi Bh (λY A H x y u v Q S j q p=>by
   unfold Qx at p;cases u with
   |ref n=>
    cases v with
    |ref k=>
     dsimp only at p;cases c:A[n]? with
     |none=>rw[c]at p;exact p.elim|some o=>cases o with
      |lst J=>
       cases E:A[k]? with
       |none=>rw[c,E]at p;exact p.elim|some t=>cases t with
        |lst U=>
         rw[c,E]at p;dsimp only at p
         by_cases d:J.length+U.length<=qj
         ·rw[ah d]at p
          obtain⟨l,I,rfl,N,K,f⟩:=S.lst j c;obtain⟨D,Z,rfl,f2,T,r⟩:=S.lst q E;refine⟨l,D,I,Z,rfl,rfl,K,T,?_,?_⟩
          ·rw[<- f.length,<- r.length]
           have:sizeLine=16777216:=sizeLine_eq
           unfold qj at d;omega
          ·obtain⟨i,g⟩:=S.write (o:=.lst J) (o':=.lst (J++U)) c rfl rfl N (u:=.lst (I++Z)) ⟨I++Z,j9,(f.append r).mono (Le.upd N (λ_ z=>by rw[K]at z;cases z) λ_ _ z=>by rw[K]at z;cases z)⟩
           exact p _ _ _ i g rfl
         ·rw[aj d]at p;exact p.elim
        |_=>rw[c,E]at p;exact p.elim
      |_=>rw[c]at p;cases E:A[k]? with
       |none=>rw[E]at p;exact p.elim|some _=>rw[E]at p;exact p.elim
    |_=>exact p.elim
   |_=>cases v<;>exact p.elim) C P B e w h
def CF {m:Ev}{P C:Pos}(o:X.calm=true)(J:X.mg "len"=none)(d:X.mg "set"=none)(u:zF X xr e m)(n:Gl X "len":=by rfl)(f:Gl X "set":=by rfl)(g:starEach [e] X.env=(false,eval e X.env)::starEach [] X.env:=by rfl)
  (b:starEach [.Call (.Name "set" P) [e] [] C] X.env=(false,eval (.Call (.Name "set" P) [e] [] C) X.env)::starEach [] X.env:=by rfl):
  zF X xr (.Call (.Name "len" p) [.Call (.Name "set" P) [e] [] C] [] p6) (Lb m):=by
 try simp only[kG]at*
 exact PE.imp (Q5 BW n J (by rfl) (jE (K7 (Ab o) f d (by rfl) (jE u yw g) (by decide) (by decide) g (by rfl)) yw b) (by decide) (by decide) b (by rfl)) λT H Q ⟨M,A,U,S,I,h⟩=>by
   refine tM.go S I (qm.mp h) λw A1 j Z v B L y q=>?_;cases w with
   |tup D=>
    obtain⟨a,Y,rfl,t,r⟩:=q;unfold Lc at B;dsimp only at B
    revert B
    cases x:intsOf D with
    |none=>intro B;exact B.elim|some N=>
     intro B;dsimp only at B;have E:=GR x;subst E;have K:=zK.ints.mp r;subst K
     by_cases c:N.length<=100
     ·rw[ah c]at B
      refine⟨a,N,rfl,t,c,λl i=>⟨l,_,_,rfl,j9,aY (firstMet_length_le _ _) c,?_⟩⟩;exact B _ _ _ (L.trans (Le.new i)) (y.lay i) rfl
     ·rw[aj c]at B;exact B.elim
   |_=>exact B.elim
def Xd {a:Expr}{b:Expr}{c:Ev}{M:Ev}(H:zF X xr a c)(h:zF X xr b M):zF X xr (.BinOp a .LShift b p6) (zi WT c M):=by
 try simp only[kG]at*
 exact ZI dM WD (Wy Mo λ_ _ _ _=>rfl) H h
end
@[irreducible] noncomputable def Yd (X:Cx)(x:XR)(e:Option Expr)(p:Po):Prop:=Mi.SP X x e p
def lP:@Yd=@Mi.SP:=by
 funext X xr e p
 unfold Yd
 rfl
def gH:@zF=@Mi.SE/\@gu=@Mi.SA/\@kg=@Mi.ST/\@Zp=@Mi.SW/\@kN=@Mi.SS/\@kK=@Mi.Yc/\@wb=@Mi.SI/\@wM=@Mi.SG/\@Qn=@Mi.SF/\@gr=@Mi.SQ/\@Zd=@Mi.Gd/\@gR=@Mi.SM/\@Vp=@Mi.SJ/\@Yd=@Mi.SP:=⟨Xv,T3,Sj,TM,TU,Td,TZ,Sn,Sg,T6,U8,Sk,Lv,lP⟩
def ZH:Yd X xr none kA:=by
 try simp only[gH]at*
 exact PO.imp ed λb H Q ⟨a,A,c,S,r,h⟩=>h a H .refl S
def ZF {m:Ev}(h:zF X xr e m):Yd X xr (some e) (yd m):=by
 try simp only[gH]at*
 exact Mi.TY h
def Q6 {a b:Expr}{c M:Ev}(H:zF X xr a c)(h:zF X xr b M):zF X xr (.BinOp a .FloorDiv b p6) (zi Zb c M):=by
 try simp only[kG]at*
 exact ZI ll WD (Wy lj λ_ _ _ _=>rfl) H h
def NU {a b:Expr}{c M:Ev}(H:zF X xr a c)(h:zF X xr b M):zF X xr (.BinOp a .Mult b p6) (zi QI c M):=by
 try simp only[kG]at*
 exact ZI lr lu lx H h
def lQ {y:Expr}{m:Ev}{M:Ev}{P:Pos}(E:zF X xr e m)(f:zF X xr y M):zF X xr (.Subscript e (.Slice none none (some y) P) p6) (S7 m M):=by
 try simp only[kG]at*
 exact PE.imp (lA E (Mi.TY f)) λT H Q ⟨N,A,C,S,B,h⟩=>by
   refine tM.go S B (qm.mp h) λw K b Y v I l n q=>?_;refine⟨b,K,C,n,B.mono l,qL (qm.mp I) (λo Z x d u L j=>?_) λ_ _ z=>z.mono l⟩;cases w with
   |tup U=>
    dsimp only at x
    by_cases c:o=some (-1)
    ·rw[ah c]at x
     obtain⟨a,D,rfl,t,r⟩:=q.mono L;refine⟨c,a,D,rfl,t,λp g=>?_⟩
     ·obtain⟨J,a2,i⟩:=Z7 j g (zK.rev r)
      exact x _ _ _ ((l.trans L).trans J) a2 i
    ·rw[aj c]at x;exact x.elim
   |_=>exact x.elim
section
variable {a b:Expr}{ma mb:Ev}
def Nd (f:zF X xr a ma)(B:zF X xr b mb)(d:starEach [b] X.env=(false,eval b X.env)::starEach [] X.env:=by rfl)
  (e:attributeBase a "count" X.env (eval a X.env)=eval a X.env:=by rfl)
  (w:((backTo p7 (starEach [b] X.env)).all (λx=>!x.1)&&(backToKw p7 (keywordEach [] X.env)).all (λx=>x.1.isSome)
   && decide ([b].length+([]:cc).length+(if ([]:cc).isEmpty then 0 else 1)<30))=true:=by rfl)(h:(rb.endLine==p7.line)=true:=by rfl):
  zF X xr (.Call (.Attribute a "count" rb) [b] [] p7) (jo Jb ma mb):=by
 try simp only[kG]at*
 exact XO PySem.F.slot_list_count PySem.F.type_list_count Bp C7 (λj A H x y u v Q S c q p=>by
   unfold Jb at p;cases u with
   |ref n=>
    dsimp only at p;cases E:A[n]? with
    |none=>rw[E]at p;exact p.elim|some o=>cases o with
     |lst r=>
      rw[E]at p;dsimp only at p
      by_cases g:(yK v&&r.all yK)=true
      ·rw[ah g]at p
       rw[ak]at g;obtain⟨l,rfl,J⟩:=c;obtain⟨L,i,t,I,D⟩:=S.ob n _ E;rw[J]at i;cases i;obtain⟨c1,C⟩:=Ur q g.1 D g.2;refine⟨l,t,y,rfl,rfl,jm.of I,K8 q g.1,c1,?_⟩;rw[C]
       have:=p j H _ .refl S rfl
       rw[Xk]at this;simpa using this
      ·rw[aj g]at p;exact p.elim
     |_=>rw[E]at p;exact p.elim
   |_=>exact p.elim) f B d e w h
end
def ZC {m:Ev}{lo I:Option Expr}{P pu:Po}{J:Pos}(he:zF X xr e m)(N:Yd X xr lo P)(M:Yd X xr I pu):zF X xr (.Subscript e (.Slice lo I none J) p6) (yM m P pu):=by
 try simp only[gH]at*
 exact PE.imp (eh lH he N M) λσ H Q ⟨φ,A,ρ,S,re,h⟩=>by
   refine tM.go S re (qm.mp h) λw A1 j H1 v h1 f Z D=>?_;refine⟨j,A1,ρ,Z,re.mono f,qL (qm.mp h1) (λl A2 h2 i H2 d Y=>?_) λ_ _ z=>z.mono f⟩;refine⟨i,A2,ρ,Y,(re.mono f).mono d,qL (qm.mp h2) (λu A3 b c C x g=>?_) λ_ _ z=>z.mono (f.trans d)⟩;have L:=(f.trans d).trans x;cases w with
   |tup ws=>
    obtain⟨a,vs,rfl,t,r⟩:=(D.mono d).mono x;have hlen:ws.length=vs.length:=r.length;refine .inl ⟨a,vs,rfl,t,λhw=>?_,λhw p y=>?_⟩
    ·refine b c C _ L g ⟨a,vs,rfl,t,?_⟩
     have:kZ ws l u=ws:=by
      unfold kZ;rw[hlen,hw.1,hw.2,Nat.sub_zero,List.drop_zero,<- hlen,take_length]
     rw[this];exact r
    ·have q:zK X.K c C (kZ ws l u) (ZO vs l u):=by
      unfold kZ ZO;rw[hlen];exact zK.take _ (zK.drop _ r)
     obtain⟨a1,a2,B⟩:=Z7 g y q;exact b _ _ _ (L.trans a1) a2 B
   |ref n=>
    dsimp only at b;cases E:A3[n]? with
    |none=>rw[E]at b;exact b.elim|some o=>cases o with
     |lst ws=>
      rw[E]at b;dsimp only at b;obtain⟨a,vs,rfl,T,U,r⟩:=g.lst ((D.mono d).mono x) E;have hlen:ws.length=vs.length:=r.length;refine .inr ⟨a,vs,rfl,jm.of U,λp y=>?_⟩;have q:zK X.K c C (kZ ws l u) (ZO vs l u):=by
       unfold kZ ZO;rw[hlen];exact zK.take _ (zK.drop _ r)
      obtain⟨a1,a2,B⟩:=Jh g y q;exact b _ _ _ (L.trans a1) a2 B
     |_=>rw[E]at b;exact b.elim
   |_=>exact b.elim
section
variable {a b:Expr}{ma mb:Ev}
def lR (H:zF X xr a ma)(h:zF X xr b mb):zF X xr (.BinOp a .BitAnd b p6) (zi Ip ma mb):=by
 try simp only[gH]at*
 exact ZI dO QJ (QD λ_ _ _ _=>rfl) H h
def lS (c:zF X xr a ma)(H:zF X xr b mb):zF X xr (.BinOp a .RShift b p6) (zi IW ma mb):=by
 try simp only[gH]at*
 exact ZI dN WD (Wy (λ_ _ h=>of_decide_eq_true h) λ_ _ _ _=>rfl) c H
end
section
def LS (n:Nm X.K x)(g:Gl X x:=by rfl)(d:(x==("__debug__":Str))=false:=by decide):zF X xr (.Name x p6) (zV (.fn x)):=by
 try simp only[gH]at*
 obtain⟨fa,n⟩:=n;intro p s b H Q I ⟨a,A,c,S,r,h⟩;exact Mp (v:=.ref fa) g (bC I.ok.mod.kin I.ok.mod.glob n) rfl d p s b H Q I (h a H _ .refl S ⟨fa,rfl,n⟩)
def Ma {t:Lm}{j:Nat}{q:Str}{c:Addr}{P:Pos}{RF:Nat->List W->Hx->R W}(C:JO X)(hl:W2 X.prog X.w X.K X.mg j q t)(L:X1 X.N X.env.scope t=true)
  (hR:∀base PG,(∀k,Jl X.prog X.w X.K X.mg base (j+1) (PG k) (gc [t] k))->zO X.prog X.w X.K X.mg base kk x 1 (QQ PG RF))(hr:jF kk X.A)
  (hB:BMain X.mg X.base)(f:X.env.code=.ref c)(hC:CodeHd X.base c Pt)(d:X.env.qual ++ "<lambda>"=q)(u:defaultsOf t.params X.env=([],[]))(hg:Gl X x:=by rfl)(hdb:(x==("__debug__":Str))=false:=by decide)
  (he:starEach [.Lambda t.params t.body t.scope P] X.env=(false,eval (.Lambda t.params t.body t.scope P) X.env)::starEach [] X.env:=by rfl)(Y:(backTo p6 (starEach [] X.env)).any (·.1)=false:=by rfl):
  zF X yQ (.Call (.Name x p) [.Lambda t.params t.body t.scope P] [] p6) (ZL n q Pt t.idx (RF 0)):=by
 try simp only[gH]at*
 intro p4 s σ H Q I ⟨φ,A,ρ,S,re,h⟩;unfold ZL at h;cases E:A[n]? with
 |none=>rw[E]at h;exact h.elim|some o=>cases o with
  |tab q' P'=>
   rw[E]at h;dsimp only at h
   by_cases hc:q'=q/\P'=Pt
   ·rw[ah hc]at h
    cases ec:JU t.idx ρ with
    |none=>rw[ec]at h;exact h.elim|some ws=>
     rw[ec]at h;dsimp only at h;obtain⟨fa,fd,ps,F,hm,hk,hb⟩:=hR _ _ (NP (q:=q) I C hl (Tv L)).2;refine wpAny_Call_Name_kw (Wl I hg hm ?_ hdb);have hS:SA X yQ [.Lambda t.params t.body t.scope P] (zc (Zf n q Pt 0 (Jq X.env q [t] 0)) zj):=Mi.M7 (kr (ls:=[t]) rfl L hB f hC d u) Mi.LD;refine callWith_K (h₀:=X.base) I.ok.mod.kin hk (qf (hS p6 p4 s σ H (λvs H1=>∃b,Le X.K φ H b H1/\zX X.K b A H1/\zK X.K b H1 [.clo 0 ws (Ga X.env q [t] σ 0)] vs) I ⟨φ,A,ρ,S,re,?_⟩) λus s1 ⟨vs,H1,D,r1,b,l,S1,B⟩=>⟨D.kIn,?_⟩) he Y
     ·have em:zc (Zf n q Pt 0 (Jq X.env q [t] 0)) zj ρ A=.ok [.clo 0 [] (Jq X.env q [t] 0)] A:=by
       unfold zc Zf;rw[E];dsimp only;rw[ah hc]
       rfl
      rw[em];intro b H1 vs l S1 q1;refine⟨b,l,S1,?_⟩;obtain⟨v,r',rfl,hv,U⟩:=q1;obtain rfl:r'=[]:=U;obtain⟨a,ob,u0,c0,oc,uc,vs0,rfl,g1,g2,⟨t',et',gp⟩,_⟩:=hv;cases et';obtain⟨M,cv,B⟩:=Nz (re.mono l) ec;exact .one ⟨a,ob,u0,c0,oc,uc,M,rfl,g1,g2,⟨t,rfl,gp,cv⟩,B⟩
     ·obtain⟨e0,hL⟩:=NP (q:=q) D C hl (Tv L)
      obtain⟨fa',fd',T,F',i,hk',hb'⟩:=hR _ _ hL;rw[hm]at i;cases i;have g:ZU X.K 1 (QQ (Ga X.env q [t] σ) RF) vs H1 Q E0:=by
       refine⟨by rw[<- B.length];rfl,b,A,[.clo 0 ws (Ga X.env q [t] σ 0)],S1,B,?_⟩
       unfold QQ;dsimp only;rw[ah rfl];exact qL h (λ_ _ z=>z.mono l) λy A2 z J H2 l2 S2=>((z.mono l) J H2 l2 S2).elim
      have Z:=F'.len _ _ _ _ g;have hu:us.length=T.length:=by rw[<- r1.length];exact Z
      refine wpAny_call (codeAny_mono (F'.run X.A X.stack s1 H1 ⟨[]++us,[]⟩ us vs Q E0 hr e0 ?_ r1 g) λr s2 d=>?_)
      ·have:=hb' s1 us D.kIn (by rw[a3];exact hu)
       rw[a3]at this;exact this
      ·cases r with
       |error e=>exact False.elim d|ok fl=>
        cases fl with
        |ret u1=>exact D.after d|next=>exact False.elim d|brk=>exact False.elim d|cont=>exact False.elim d
   ·rw[aj hc]at h;exact h.elim
  |_=>rw[E]at h;exact h.elim
def lT {C:Expr}{m M:Ev}{P:Pos}(K:zF X xr e m)(g:zF X xr C M):zF X xr (.Subscript e (.Slice none none (some C) P) p6) (XW m M):=by
 try simp only[gH]at*
 exact PE.imp (lJ K (Mi.TY g)) λσ H Q ⟨Z,A,I,S,D,h⟩=>by
   refine tM.go S D (qm.mp h) λw Y b H1 v N l x q=>?_;refine⟨b,Y,I,x,D.mono l,qL (qm.mp N) (λo U B f y L d=>?_) λ_ _ z=>z.mono l⟩;cases w with
   |ref n=>
    dsimp only at B;cases E:U[n]? with
    |none=>rw[E]at B;exact B.elim|some ob=>cases ob with
     |lst ws=>
      rw[E]at B;dsimp only at B
      by_cases c:o=some (-1)
      ·rw[ah c]at B
       obtain⟨a,J,rfl,j,t,r⟩:=d.lst (q.mono L) E;refine⟨c,a,J,rfl,jm.of t,λp i=>?_⟩;obtain⟨T,a2,u⟩:=Jh d i (zK.rev r);exact B _ _ _ ((l.trans L).trans T) a2 u
      ·rw[aj c]at B;exact B.elim
     |_=>rw[E]at B;exact B.elim
   |_=>exact B.elim
def Nw {M:Ev}(A:Nat)(y:bV)(d:X.calm=true)(S:g9 X sc)(p:QF X.N N sc A y=true)(C:JO X)(J:wb X xr tg p8 mi)
  (n:∀s H fp,JO (jU X N sc s H fp yx)->wM (jU X N sc s H fp yx) tg tw/\Zd (jU X N sc s H fp yx) ifs M/\gR (jU X N sc s H fp yx) rd (⟨tg,p8,ifs,0⟩::gs) sc p6 0 em)
  (i:∀g',gs[0]? =some g'->g'.is_async=0:=by intro _ h;cases h<;>rfl)
  (c:∀x,foldedSetIterable p8 X.env x=pure x:=by intro _;rfl):Qn X xr (.ListComp rd (⟨tg,p8,ifs,0⟩::gs) sc p6) (qc A y mi tw M em):=by
 try simp only[gH]at*
 intro P s B H Q I h;rw[eval_ListComp];refine Tc (use:=none) (g:=tG X.K tw) (ti:=tT X.K yQ M) (tm:=tE X.K em) d S p i J (λs H fp t w=>n s H fp (Bs S C t)) I (qc.read B H Q h) (λD C E v m u q L U T r l j=>?_) c;exact⟨m,L,λY a=>⟨.ref D,v,u.turned (t':=E.toks) (λb o f e=>(a.2 b f).trans e) U T (.inr r) l j,rfl,q⟩⟩
variable {K:Frag}{st:Stmt}{c:Addr}{ps:bX}{k:Nat}{m:Ex}
def lU (F:we K x x st f fd)(n:nsIn K mainGlobals x=some (some (.ref f)))(t:tabIn K x=some (c,Pt))(S:qJ N ps (qi st))
  (h:∀(A:Around)(o:b9)(s:Shared)(H:Hp)(E:XK),jF k (A.deeper (envOfC x (qi st) s.heap.objs.size f (.ref c)))->kK (wt wc P w K mg base N x (qi st) f (.ref c) A o s H E).nox yQ (yY st) m):
  yN P w K mg base wc (k+1) f fd ps (ZU K ps.length (qF N.length m)):=by
 try simp only[gH]at*
 exact Mi.Hk F n t S h
def lV (F:we K x x st f fd)(n:nsIn K mainGlobals x=some (some (.ref f)))(t:tabIn K x=some (c,Pt))(a:mg x=some (.ref f))(S:qJ N ps (qi st))
  (b:∀(kV d p:Value)(e:cf)(C ct:Value)(u:bS),u.length=ps.length->bindArgs (fnOf x x (Z4 st) (yY st) (qi st) .none kV d p e C ct) ⟨u,[]⟩=pure (ps.zip u))
  (h:∀(A:Around)(o:b9)(s:Shared)(H:Hp)(E:XK),jF k (A.deeper (envOfC x (qi st) s.heap.objs.size f (.ref c)))->kK (wt wc P w K mg base N x (qi st) f (.ref c) A o s H E).nox yQ (yY st) m):
  zO P w K mg base (k+1) x ps.length (qF N.length m):=by
 try simp only[gH]at*
 exact⟨f,fd,ps,Mi.Hk F n t S h,a,F.kp,F.binds b⟩
end
section
variable {y:Str}{k:Nat}{f g:Fn}{hp0:Heap}{fs:List (Str×Fn)}{PK:Obj->Addr->Obj->List V->Prop}
def Nl (xo:gf X hp0 xr)(F:∀q∈fs,jL X.prog X.w X.K X.mg X.base k q.1 1 q.2)(L:J0 X.prog X.w X.K X.mg k PK g)(hr:jF k X.A)(ha:gu X xr [e] mr)(hl:ZQ mr 1)(hi:X.N[i]? =some y:=by rfl)(C:Km X.env.scope y:=by first|exact Or.inl rfl|exact Or.inr (Or.inl rfl)|exact Or.inr (Or.inr rfl))
  (n:(y==("__debug__":Str))=false:=by decide)(t:(y==("__classdict__":Str))=false:=by decide)(he:starEach [e] X.env=(false,eval e X.env)::starEach [] X.env:=by rfl)(l:(backTo p6 (starEach [] X.env)).any (·.1)=false:=by rfl):
  zF X xr (.Call (.Name y p) [e] [] p6) (YS i fs PK g mr):=by
 try simp only[gH]at*
 intro p4 s σ H Q I ⟨φ,A,ρ,S,re,h⟩;unfold YS at h;cases E:ρ[i]? with
 |none=>rw[E]at h;exact h.elim|some ow=>cases ow with
  |none=>rw[E]at h;exact h.elim|some w0=>cases w0 with
   |fn z=>
    rw[E]at h;dsimp only at h;cases ef:fs.lookup z with
    |none=>rw[ef]at h;exact h.elim|some f=>
     rw[ef]at h;refine Ar (i:=i) (x:=z) xo (F _ (Nu ef)) hr ha hl hi C n t he l p4 s σ H Q I ⟨φ,A,ρ,S,re,?_⟩;unfold Sf;rw[E];dsimp only;rw[ah rfl];exact h
   |clo k0 ws0 P0=>
    rw[E]at h;dsimp only at h
    by_cases hP:P0=PK
    ·rw[ah hP]at h
     subst hP;obtain⟨v,Y,a,ob,u,c,oc,uc,U,rfl,h1,h2,hp',_⟩:=re.get i _ E;obtain⟨⟨fd0,hfd⟩,fd,ps,F1,D⟩:=L X.base a ob u c oc uc U hp';have ho:s.heap.get? a=some ob:=(show jg X.prog X.w H s.heap a (.frz ob u) from I.hok a _ h1).1
     refine wpAny_Call_Name_kw (qf (Sb hi C n t p4 s σ H (λv' H'=>v'=.ref a/\H'=H) I ⟨_,Y,rfl,rfl⟩) λu0 s0 ⟨v0,H0,I0,r0,e0,e1⟩=>?_);subst e0;subst e1;obtain rfl:u0=Value.ref a:=r0;have d:∀{s:Shared}{H:Hp},Inv X p4 σ H s->H a=some (.frz ob u)->Frag.In [(a,ob)] s.heap:=λ {s H} I h1 b o e=>by
      rw[bD]at e
      by_cases D:b=a
      ·subst D
       simp at e;subst e;exact(show jg X.prog X.w H s.heap b (.frz ob u) from I.hok b _ h1).1
      ·have:(b==a)=false:=by simpa using D
       rw[this]at e;cases e
     have hkp:keepIn [(a,ob)] (.ref a)=true:=by
      unfold keepIn;obtain⟨o1,o2,o3,o4⟩:=ob;cases (show o3=_ from hfd)
      simp[bD]
     have h':=qm.mp h;refine callWith_K (K:=[(a,ob)]) (h₀:=s0.heap) (d I0 h1) hkp (qf (ha p6 p4 s0 σ H0 (λvs H1=>IZ X.K a ob u c oc uc g vs H1 Q (VC X.K xr)) I0 ⟨φ,A,ρ,S,re,?_⟩) λus s1 ⟨vs,H1,M,r,q⟩=>?_) he l
     ·cases J:mr ρ A with
      |ok ws A1=>
       rw[J]at h';intro T H1 vs B S1 q1;have C:vs.length=1:=by rw[<- q1.length];exact hl ρ A ws A1 J
       refine⟨C,B.fz _ _ _ h1,B.fz _ _ _ h2,T,A1,ws,S1,q1,qL h' (λ_ _ z=>z.mono B) λy A2 z P H2 l2 S2 Ca hC=>?_⟩;exact⟨y,Ca,rfl,hC,z P H2 (B.trans l2) S2⟩
      |exc y A1=>rw[J]at h';exact h'|bad=>rw[J]at h';exact h'
     ·have Z:us.length=1:=by rw[<- r.length];cases q with|mk e=>exact e
      refine⟨d M (by cases q with|mk _ z=>exact z),?_⟩
      have hln:=F1.len _ _ _ _ q;refine wpAny_call (codeAny_mono (F1.run X.A X.stack s1 H1 ⟨[]++us,[]⟩ us vs Q (VC X.K xr) hr M.env0 (D s1 us Z) r q) λr s2 j=>?_);cases r with
      |error e=>exact xo.passes p4 σ H1 s1 e s2 M j|ok fl=>
       cases fl with
       |ret u1=>exact M.after j|next=>exact False.elim j|brk=>exact False.elim j|cont=>exact False.elim j
    ·rw[aj hP]at h;exact h.elim
   |_=>rw[E]at h;exact h.elim
variable {q:Str}{P c:Addr}{params:Arguments}{body:Expr}{rm:cb}
def lW (B:BMain X.mg X.base)(h:X.env.code=.ref c)(C:CodeHd X.base c P)(l:closureFor scope X.env=pure rm)(a:X.env.qual ++ "<lambda>"=q)(H:defaultsOf params X.env=([],[]):=by rfl):
  zF X xr (.Lambda params body scope p6) (Zf n q P k (JV q params body scope rm)):=by
 try simp only[gH]at*
 exact Mi.L1 B h C l a H
end
def BQ {m:Ev}(B:X.calm=true)(J:X.mg "sorted"=none)(j:zF X xr e m)(g:Gl X "sorted":=by rfl)(c:starEach [e] X.env=(false,eval e X.env)::starEach [] X.env:=by rfl):zF X xr (.Call (.Name "sorted" p) [e] [] p6) (Xu m):=by
 try simp only[kG]at*
 exact PE.imp (Q5 DE g J (by rfl) (jE j yw c) (by decide) (by decide) c (by rfl)) λZ H Q ⟨U,A,ρ,S,I,h⟩=>by
   refine tM.go S I (qm.mp h) λw T b H1 v C L d q=>?_;cases w with
   |ref n=>
    unfold Xq at C;dsimp only at C;cases E:T[n]? with
    |none=>rw[E]at C;exact C.elim|some u=>cases u with
     |lst D=>
      rw[E]at C;dsimp only at C;obtain⟨P,Y,rfl,o,x,r⟩:=d.lst q E;cases i:QG D with
      |none=>rw[i]at C;exact C.elim|some K=>
       rw[i]at C;dsimp only at C;obtain⟨t,N⟩:=NX i;subst t
       by_cases a:K.length<64/\WU K=true
       ·rw[ah a]at C
        refine⟨P,Y,K,b,rfl,jm.of x,r,N,a,λl f=>?_⟩;obtain⟨M,a2,y⟩:=Jh d f r;exact C _ _ _ (L.trans M) a2 y
       ·rw[aj a]at C;exact C.elim
     |_=>rw[E]at C;exact C.elim
   |_=>exact C.elim
def zO.up {K:Frag}{j k:Nat}{f:Fn}(F:zO P w K mg base j x n f)(h:j<=k:=by decide):zO P w K mg base k x n f:=F.mono h
def jL.up {K:Frag}{j k:Nat}{f:Fn}(F:jL P w K mg base j x n f)(h:j<=k:=by decide):jL P w K mg base k x n f:=F.mono h
section
variable {C:List Value->Prop}
theorem Kk (h:∀a,C [a]):∀us:bS,us.length=1->C us
 |[a],_=>h a
theorem W6 (h:∀a b,C [a,b]):∀us:bS,us.length=2->C us
 |[a,b],_=>h a b
theorem lX (h:∀a b c,C [a,b,c]):∀us:bS,us.length=3->C us
 |[a,b,c],_=>h a b c
end
def jb {l:bX}(h:decide l.Nodup=true):l.Nodup:=of_decide_eq_true h
noncomputable def HF (N P:bX)(S:Scope):Bool:=decide (S.kind=.function)&&(!S.isCoroutine&&(!S.isGenerator&&(decide N.Nodup&&(decide (N.take P.length=P)&&(P.all (λx=>decide (S.names.lookup x=some .local) || decide (S.names.lookup x=some .cell))&&S.names.all λy=>!decide (y.2=.free))))))
def qZ {P:bX}(h:HF N P sc=true):qJ N P sc:=by
 unfold HF at h;simp only[ak,ao,not_eq_true',aZ,a8,decide_eq_false_iff_not]at h;obtain⟨g,f,e,d,c,b,a⟩:=h;exact⟨g,f,e,d,c,b,λy H=>a y H⟩
section
def jK {M:Ev}(l:Nat)(C:bV)(w:wb X xr tg p8 mi)
  (n:∀s H fp,wM (jU X N sc s H fp yx) tg tw/\Zd (jU X N sc s H fp yx) ifs M/\gR (jU X N sc s H fp yx) rd (⟨tg,p8,ifs,0⟩::gs) sc p6 0 em)
  (c:X.calm=true:=by rfl)(S:g9 X sc:=by exact cps (by kernel_rfl))(p:QF X.N N sc l C=true:=by kernel_rfl)
  (b:∀g',gs[0]? =some g'->g'.is_async=0:=by intro _ h;cases h<;>rfl)
  (a:∀x,foldedSetIterable p8 X.env x=pure x:=by intro _;rfl):Qn X xr (.ListComp rd (⟨tg,p8,ifs,0⟩::gs) sc p6) (qc l C mi tw M em):=iM l C c S p w n b a
def ji {d:Nat}(a:zF X yQ rd me)(h:∀e s,X.xe e s->False:=by exactλ_ _ z=>z)(H:gens[d+1]? =none:=by rfl):gR X rd gens sc p6 d (zU me):=iN h a H
end
open PySem L2
abbrev zr:Ev:=qg 0
abbrev zq:Ev:=qg 1
abbrev zL:Ev:=qg 2
abbrev zS:Ev:=qg 3
abbrev zW:Ev:=qg 4
abbrev jC:Ev:=qg 5
abbrev j8:Ev:=qg 6
abbrev wN:Ev:=qg 7
abbrev wO:Ev:=qg 8
abbrev J9:Ev:=qg 9
abbrev Jm:Ev:=qg 10
abbrev zZ:Ev:=zV (.int 0)
abbrev qh:Ev:=zV (.int 1)
abbrev j7:Ev:=zV (.int 2)
abbrev Ko:Ev:=zV (.int 3)
abbrev QY:Ev:=zV (.int 4)
abbrev Vs:Ev:=zV (.int 5)
abbrev RN:Ev:=zV (.int 6)
abbrev VA:Ev:=zV (.int 7)
abbrev VD:Ev:=zV (.int 8)
abbrev Vu:Ev:=zV (.int 9)
abbrev QS:Ev:=zV (.int 10)
abbrev ql:Ev:=zV (.bl true)
abbrev Vl:Ev:=zV (.bl false)
abbrev ZS:Ev:=zV .non
abbrev yF:Ex:=zo (qI Vl) zy
end Mi
namespace G
open PySem L2 Mi
noncomputable def top (i:Nat):Stmt:=PySem.Challenge.pw_nearkinds_k30_weights_known.main.body.getD i (.Pass ⟨0,0,0,0⟩)
structure Bu (mg:b8):Prop where
 DK:mg "ValueError"=none
 Y2:mg "all"=none
 zfu:mg "any"=none
 XG:mg "bool"=none
 Yu:mg "enumerate"=none
 WE:mg "int"=none
 jP:mg "isinstance"=none
 jd:mg "len"=none
 JI:mg "list"=none
 JP:mg "max"=none
 ID:mg "min"=none
 jn:mg "range"=none
 zfx:mg "set"=none
 As:mg "sorted"=none
 SH:mg "sum"=none
 jT:mg "tuple"=none
 SK:mg "zip"=none
 Dc:∃t,mg "MOST_PLACES"=some (.int 8 t)
noncomputable abbrev qV:bX:=["NoTable","NotSteady"]
noncomputable abbrev Xa:bX:=["NoTable","NotSteady","NoPlace","NoKind","NoMix","NoNumber","NoLot","NoKinds","NoPaper","NoParting","NoClosed","TooMany","NoText","NoLine","NoDeed","NoWeights","NotWhole","NoNumbers"]
def jI {K:Frag}(R:Xa.all (Jf K qV)=true)(h:Xa.contains x=true:=by decide +kernel):Jf K qV x=true:=cy.mp R x (List.contains_iff_mem.mp h)
def NF {l:List (Str×NameKind)}(h:(l.all λy=>!(y.2==.cell))=true):∀y∈l,y.2≠.cell:=λy H e=>by
 have q:=cy.mp h y H;rw[e]at q;cases q
def yE {m:Ev}(h:zF X xr e m):SE X xr e m:=by rw[Xv]at h;exact h
abbrev Nh:Stmt:=top 1
def Cf:qJ ["thing"] ["thing"] (qi Nh):=qZ (by kernel_rfl)
def Nc:Ex:=zo (qI (jY (kf .int zr) (jR (kf .bl zr)))) zy
abbrev OW:Stmt:=top 2
def DV:qJ ["thing","many"] ["thing","many"] (qi OW):=qZ (by kernel_rfl)
def KZ (C:Fn):Ex:=zo (qI (jY (kf .tup zr) (jY (zi qX (mQ zT (zJ zr)) zq) (mQ ZM (qc 1 [] (qu zr) (zG 0) ql (zU (zC C (zc zr zj)))))))) zy
abbrev Pa:Stmt:=top 3
def Fy:qJ ["thing","many","limit"] ["thing","many","limit"] (qi Pa):=qZ (by kernel_rfl)
def VO (U:Fn):Ex:=zo (qI (jY (zC U (zc zr (zc zq zj))) (mQ ZM (qc 1 [2] (qu zr) (zG 0) ql (zU (wJ QZ QW zZ zr zq)))))) zy
abbrev Nb:Stmt:=top 26
def OT:qJ ["thing","many"] ["thing"] (qi Nb):=qZ (by kernel_rfl)
def GK (B:Fn)(A:Fn)(f:Fn):Ex:=zo (qU (wQ (jR (kf .tup zr)) (jR (wJ QZ QZ qh (mQ zT (zJ zr)) VD))) yF zy) (zo (zQ 1 (mQ zT (zJ zr))) (zo (qU (jR (mQ ZM (qc 1 [1] (qu zr) (zG 0) ql (zU (zC A (zc zr (zc zq (zc zq zj)))))))) yF zy) (zo (qI (jY (zC B (zc zr zj)) (zC f (zc zr zj)))) zy)))
abbrev Nr:Stmt:=top 27
def Uw:qJ ["rows","a","row","b","kind"] ["rows"] (qi Nr):=qZ (by kernel_rfl)
def Nv:Ex:=zo (qO (w6 zr) (jO 1 2) (zo (qO (w6 zL) (jO 3 4) (zo (qU (wQ (zi jw (zi qX zW zZ) (zi qX zq zS)) (zi jw (zi zB (zi zB zr zS) zq) zW)) yF zy) zy)) zy)) (zo (qI ql) zy)
abbrev RT:Stmt:=top 28
def RS:qJ ["rows","standing"] ["rows"] (qi RT):=qZ (by kernel_rfl)
def RU:Ex:=zo (zQ 1 (qW (qc 2 [] (qu zr) (zG 0) ql (Qa (qu zr) (zG 1) ql (zU zq))))) (zo (qI (mQ ZM (qc 1 [1] (qN (mQ kx (zJ zq))) (zG 0) ql (zU (zi RD zr zq))))) zy)
abbrev Pr:Stmt:=top 29
def FI:qJ ["table"] ["table"] (qi Pr):=qZ (by kernel_rfl)
def VU (C:Fn):Ex:=zo (qU ((λa A=>((jR (zC C (zc zr zj))) a A).nox)) (zo (Xy "NoTable" (zc (zV (.str "this is no table")) zj)) zy) zy) zy
abbrev PU:Stmt:=top 30
def F3:qJ ["table"] ["table"] (qi PU):=qZ (by kernel_rfl)
def P2:Ex:=zo (qI (zi qk (mQ kx (qc 1 [] (qu zr) (zG 0) ql (zU (mQ kx (zJ zr))))) qh)) zy
abbrev PH:Stmt:=top 31
def Gs:qJ ["table","one","other","many","counts","i","j"] ["table","one","other"] (qi PH):=qZ (by kernel_rfl)
def PD (Q:Fn):Ex:=zo (zQ 3 (zC Q (zc zr zj))) (zo (zQ 4 (qW (qc 1 [3] (qN zS) (zG 0) ql (zU (zi qG (qp (zc zZ zj)) zq))))) (zo (qO (Zi (zi zB zr zq) (zi zB zr zL)) (jO 5 6) (zo (WL (zi zB zW jC) j8 qh) zy)) (zo (qI (mQ jt (qc 1 [] (qu zW) (zG 0) ql (zU (mQ jt (zJ zr)))))) zy)))
abbrev Oa:Stmt:=top 32
def Gw:qJ ["table","firsts","a","row","b","kind"] ["table"] (qi Oa):=qZ (by kernel_rfl)
def PZ:Ex:=zo (zQ 1 Ka) (zo (qO (w6 zr) (jO 2 3) (zo (qO (w6 zS) (jO 4 5) (zo (jB (YY Qv zq jC (qa (zc zL (zc zW zj))))) zy)) zy)) (zo (qI zq) zy))
abbrev PR:Stmt:=top 33
def V3:qJ ["table","firsts","pairs"] ["table"] (qi PR):=qZ (by kernel_rfl)
def Oo (Q:Fn)(g:Fn)(v:Fn):Ex:=zo (zQ 1 (zC v (zc zr zj))) (zo (zQ 2 (qW (qc 1 [1] (qN (zC Q (zc zr zj))) (zG 0) ql (zU (zi XI zq zr))))) (zo (qI (qW (qc 2 [0] (qu zL) (jO 0 1) ql (zU (zC g (zc zL (zc zr (zc zq zj)))))))) zy))
abbrev Px:Stmt:=top 34
def KD:qJ ["table","kind","a","b","shares","c","row","e","by"] ["table"] (qi Px):=qZ (by kernel_rfl)
def PC (g:Fn)(v:Fn):Ex:=zo (qO (Wn (zC v (zc zr zj))) (Ww 1 2 3) (zo (zQ 4 (zC g (zc zr (zc zL (zc zS zj))))) (zo (qO (w6 zr) (jO 5 6) (zo (qO (w6 j8) (jO 7 8) (zo (qU (jY (zi qX wO zq) (zi jw (zC g (zc zr (zc jC (zc wN zj)))) zW)) (zo (qI (qa (zc zL (zc zS (zc jC (zc wN zj)))))) zy) zy) zy)) zy)) zy))) (zo (qI ZS) zy)
abbrev Pl:Stmt:=top 35
def FE:qJ ["table"] ["table"] (qi Pl):=qZ (by kernel_rfl)
def Gp (E:Fn)(f:Fn):Ex:=zo (jB (zC f (zc zr zj))) (zo (qU ((λa A=>((zi (Gi true) (zC E (zc zr zj)) ZS) a A).nox)) (zo (Xy "NotSteady" (zc (zV (.str "the table is not steady")) zj)) zy) zy) zy)
abbrev Og:Stmt:=top 37
def Eg:qJ ["table"] ["table"] (qi Og):=qZ (by kernel_rfl)
def Ol (Q:Fn):Ex:=zo (qI (qW (qc 1 [0] (qN (zC Q (zc zr zj))) (zG 0) ql (zU (Ws Y1 (zi zB zq zZ) zr))))) zy
abbrev LW:Stmt:=top 39
def YN:qJ ["shares","start","some","i","j","later","now"] ["shares","start"] (qi LW):=qZ (by kernel_rfl)
def TV:Ex:=zo (zQ 2 (mQ zT (zJ zq))) (zo (qO (qN zL) (zG 3) (zo (qO (qN zL) (zG 4) (zo (zQ 5 (qW (qc 1 [3,4] (qu (yM zr (yd zL) kA)) (zG 0) ql (zU (zi zB (zi zB zr zq) zL))))) (zo (zQ 6 (qW (qc 2 [3,4] (Zi zr zq) (jO 0 1) ql (zU (zi qG (zi zB (zi zB zr zL) zS) zq))))) (zo (qU (jY (jR (mQ Kd (zJ jC))) (zi jw (zi qG (zi zB zq zS) (zi zB zq zW)) (mQ wF (zJ j8)))) yF zy) zy)))) zy)) (zo (qI ql) zy))
abbrev R7:Stmt:=top 40
def Fe:qJ ["table","thing"] ["table","thing"] (qi R7):=qZ (by kernel_rfl)
def Gn (Q:Fn)(S:Fn)(U:Fn)(v:Fn):Ex:=zo (qU (jR (zC U (zc zq (zc (zC Q (zc zr zj)) zj)))) yF zy) (zo (qI (jY (zi qX (zi zB zq zZ) qh) (zC S (zc (zC v (zc zr zj)) (zc zq zj))))) zy)
abbrev P8:Stmt:=top 41
def Eb:qJ ["table","thing"] ["table","thing"] (qi P8):=qZ (by kernel_rfl)
def Ue (f:Fn)(K:Fn):Ex:=zo (jB (zC K (zc zr zj))) ((λa A=>((zo (qI (zC f (zc zr (zc zq zj)))) zy) a A).nox))
abbrev Pc:Stmt:=top 42
def Yi:qJ ["table","shares","starts","size","longer"] ["table"] (qi Pc):=qZ (by kernel_rfl)
def Pd (E:Fn)(S:Fn)(v:Fn):Ex:=zo (zQ 1 (zC v (zc zr zj))) (zo (zQ 2 (qp (zc (qa (zc qh zj)) zj))) (zo (qO (qu (yM (zC E (zc zr zj)) (yd qh) kA)) (zG 3) (zo (zQ 4 (qW (qc 2 [3] (qu zL) (zG 0) ql (Qa (WH zL (zi yP (yR gO zL) qh)) (zG 1) ql (zU (zi qk zr (qa (zc zq zj)))))))) (zo (zQ 2 (qW (qc 1 [1] (qu zW) (zG 0) (zC S (zc zq (zc zr zj))) (zU zr)))) zy))) (zo (qI zL) zy)))
abbrev Om:Stmt:=top 43
def F4:qJ ["table"] ["table"] (qi Om):=qZ (by kernel_rfl)
def Ub (v:Fn)(K:Fn):Ex:=zo (jB (zC K (zc zr zj))) ((λa A=>((zo (qI (zC v (zc zr zj))) zy) a A).nox))
abbrev Pg:Stmt:=top 44
def FF:qJ ["table"] ["table"] (qi Pg):=qZ (by kernel_rfl)
def VR (Q:Fn)(v:Fn)(K:Fn):Ex:=zo (jB (zC K (zc zr zj))) ((λa A=>((zo (qI (zi qX (mQ zT (zJ (zC v (zc zr zj)))) (zC Q (zc zr zj)))) zy) a A).nox))
abbrev PM:Stmt:=top 46
def FW:qJ ["_law_script","_law_k"] ["_law_script","_law_k"] (qi PM):=qZ (by kernel_rfl)
def VZ:Ex:=zo (qU (zi QW zq (mQ zT (zJ zr))) (zo (qI (zi zB zr zq)) zy) zy) (zo (qI zZ) zy)
abbrev OJ:Stmt:=top 47
def P7:qJ ["_law_script","_law_k","_law_cell"] ["_law_script","_law_k"] (qi OJ):=qZ (by kernel_rfl)
def Uj (E:Fn):Ex:=zo (zQ 2 (zC E (zc zr (zc zq zj)))) (zo (qU (zi RO zL (zi Kh QS (zV (.int 18)))) (zo (qI (qp (zc (zi yP zL (zi Kh QS (zV (.int 18)))) (zc ql zj)))) zy) zy) (zo (qI (qp (zc (zi kH zL (zV (.int 2147483647))) (zc Vl zj)))) zy))
abbrev O0:Stmt:=top 48
def GC:qJ ["_law_state_here","_law_many","_law_found","_law_stirred"] ["_law_state_here","_law_many"] (qi O0):=qZ (by kernel_rfl)
def Uq:Ex:=zo (qU (zi zB zr qh) (zo (zQ 2 (zi kH (zi zB zr zZ) zq)) (zo (gJ ku (zi Zb (zi zB zr zZ) zq) zr zZ) (zo (qI zL) zy))) zy) (zo (gJ ku (zi kH (zi qk (zi qG (zi zB zr zZ) (zV (.int 48271))) (zV (.int 29))) (zV (.int 2147483647))) zr zZ) (zo (zQ 3 (zi kH (zi qk (zi qk (zi qG (zi zB zr zZ) (zi zB zr zZ)) (zi qG (zV (.int 39373)) (zi zB zr zZ))) VA) (zV (.int 2147483629)))) (zo (zQ 3 (zi kH (zi qk (zi qG zS zS) (zi qG (zV (.int 16807)) zS)) (zV (.int 2147483587)))) (zo (qI (zi kH (zi Zb zS VD) zq)) zy))))
abbrev OO:Stmt:=top 49
def EA:qJ ["_law_many"] ["_law_many"] (qi OO):=qZ (by kernel_rfl)
def Dz:Ex:=zo (qI (mQ jt (qc 1 [0] (qN zr) (zG 0) ql (zU (mQ jt (qc 1 [0] (qN zq) (zG 0) ql (zU (yR WV (zi jw zq zr))))))))) zy
abbrev OX:Stmt:=top 50
def Dk:qJ ["_law_many"] ["_law_many"] (qi OX):=qZ (by kernel_rfl)
def Ci:Ex:=zo (qI (mQ jt (qc 1 [0] (qN zr) (zG 0) ql (zU (mQ jt (qc 1 [0,1] (qN zq) (zG 0) ql (zU (zi XX (zi kH (zi yP zq zr) zL) (zi kH (zi yP zr zq) zL))))))))) zy
abbrev P6:Stmt:=top 51
def KI:qJ ["_law_many","_law_size","_law_found","_law_a","_law_row","_law_b"] ["_law_many","_law_size"] (qi P6):=qZ (by kernel_rfl)
def E2:Ex:=zo (zQ 2 (qp zj)) (zo (qO (qN (zi qG zr zq)) (zG 3) (zo (zQ 4 (qp zj)) (zo (qO (qN (zi qG zr zq)) (zG 5) (zo (jB (jo jN zW (zi qk (yR WV (zi jw zS jC)) (yR WV (jY (zi jw (zi Zb zS zq) (zi Zb jC zq)) (zi RC zq qh)))))) zy)) (zo (jB (jo jN zL (mQ jt (zJ zW)))) zy)))) (zo (qI (mQ jt (zJ zL))) zy))
abbrev PN:Stmt:=top 52
def V1:qJ ["_law_many","_law_found","_law_a"] ["_law_many"] (qi PN):=qZ (by kernel_rfl)
def EG:Ex:=zo (zQ 1 (qp zj)) (zo (qO (qN (zi WT qh zr)) (zG 2) (zo (jB (jo jN zq (mQ jt (qc 1 [0,2] (qN (zi WT qh zr)) (zG 0) ql (zU (jo Jb (qW (qc 1 [0,2] (qN zq) (zG 0) ql (zU (zi Ip (zi IW (zi Rh zL zq) zr) qh)))) qh)))))) zy)) (zo (qI (mQ jt (zJ zq))) zy))
abbrev Pp:Stmt:=top 53
def FK:qJ ["_law_many"] ["_law_many"] (qi Pp):=qZ (by kernel_rfl)
def FU:Ex:=zo (qI (mQ jt (qc 1 [0] (qN (zi WT qh zr)) (zG 0) ql (zU (mQ jt (qc 1 [0] (qN (zi WT qh zq)) (zG 0) ql (zU (zi Rh zq zr)))))))) zy
abbrev Ov:Stmt:=top 54
def KS:qJ ["_law_many","_law_pairs_here","_law_a","_law_found","_law_one"] ["_law_many"] (qi Ov):=qZ (by kernel_rfl)
def DX:Ex:=zo (zQ 1 (qp zj)) (zo (qO (qN zr) (zG 2) (zo (jB (jo Qx zq (qW (qc 1 [2] (Zc (zi qk zL qh) zr) (zG 0) ql (zU (qa (zc zq (zc zr zj)))))))) zy)) (zo (zQ 3 (qp zj)) (zo (qO (qu zq) (zG 4) (zo (jB (jo jN zS (mQ jt (qc 1 [4] (qu zq) (zG 0) ql (zU (zi yP QY (Lb (zi qk zq zr)))))))) zy)) (zo (qI (mQ jt (qc 1 [] (qu zS) (zG 0) ql (zU (mQ jt (qc 1 [] (qu zr) (zG 0) ql (zU (zi zB (qp (zc j7 (zc qh (zc zZ zj)))) zr)))))))) zy))))
abbrev ON:Stmt:=top 55
def E4:qJ ["_law_table"] ["_law_table"] (qi ON):=qZ (by kernel_rfl)
def Dr:Ex:=zo (qI (zi qk (mQ kx (qc 1 [] (qu zr) (zG 0) ql (zU (mQ kx (zJ zr))))) qh)) zy
abbrev PY:Stmt:=top 56
def Ym:qJ ["_law_one","_law_other","_law_many","_law_found","_law_a","_law_row","_law_b","_law_first"] ["_law_one","_law_other"] (qi PY):=qZ (by kernel_rfl)
def EH (w:Fn):Ex:=zo (Rb 2 3 (zC w (zc zq zj)) (qp zj)) (zo (qO (qN (zi qG (mQ zT (zJ zr)) (mQ zT (zJ zq)))) (zG 4) (zo (zQ 5 (qp zj)) (zo (qO (qN (zi qG (mQ zT (zJ zr)) (mQ zT (zJ zq)))) (zG 6) (zo (zQ 7 (zi zB (zi zB zr (zi Zb zW (mQ zT (zJ zq)))) (zi Zb j8 (mQ zT (zJ zq))))) (zo (jB (jo jN jC (zi qk (zi qG wN zL) (zi zB (zi zB zq (zi kH zW (mQ zT (zJ zq)))) (zi kH j8 (mQ zT (zJ zq))))))) zy))) (zo (jB (jo jN zS (mQ jt (zJ jC)))) zy)))) (zo (qI (mQ jt (zJ zS))) zy))
abbrev Oz:Stmt:=top 57
def PX:qJ ["_law_state_here","_law_way"] ["_law_state_here"] (qi Oz):=qZ (by kernel_rfl)
def OP (Q:Fn)(v:Fn)(U:Fn)(y:Fn):Ex:=zo (zQ 1 (zC y (zc zr (zc Vs zj)))) (zo (qI (zi zB (qp (zc (zC Q (zc j7 zj)) (zc (zC Q (zc Ko zj)) (zc (zC U (zc QY zj)) (zc (zC Q (zc QY zj)) (zc (zC v (zc j7 zj)) zj)))))) zq)) zy)
abbrev Oe:Stmt:=top 58
def Yn:qJ ["_law_one","_law_other","_law_more","_law_found","_law_a","_law_row","_law_b","_law_first"] ["_law_one","_law_other"] (qi Oe):=qZ (by kernel_rfl)
def E7 (w:Fn):Ex:=zo (Rb 2 3 (zi yP (zC w (zc zq zj)) qh) (qp zj)) (zo (qO (qN (zi qG (mQ zT (zJ zr)) (mQ zT (zJ zq)))) (zG 4) (zo (zQ 5 (qp zj)) (zo (qO (qN (zi qG (mQ zT (zJ zr)) (mQ zT (zJ zq)))) (zG 6) (zo (zQ 7 (zi zB (zi zB zr (zi Zb zW (mQ zT (zJ zq)))) (zi Zb j8 (mQ zT (zJ zq))))) (zo (jB (jo jN jC (HL (zi RC wN zZ) (zi qk wN zL) (zi zB (zi zB zq (zi kH zW (mQ zT (zJ zq)))) (zi kH j8 (mQ zT (zJ zq))))))) zy))) (zo (jB (jo jN zS (mQ jt (zJ jC)))) zy)))) (zo (qI (mQ jt (zJ zS))) zy))
abbrev OQ:Stmt:=top 59
def V9:qJ ["_law_state_here","_law_many","_law_left","_law_found"] ["_law_state_here","_law_many"] (qi OQ):=qZ (by kernel_rfl)
def Ou (y:Fn):Ex:=zo (zQ 2 (Xg zq)) (zo (zQ 3 (qp zj)) (zo (L5 1000 (zi jw zL (qp zj)) (zo (jB (jo jN zS (jo ZJ zL (zC y (zc zr (zc (mQ zT (zJ zL)) zj)))))) zy)) (zo (qI (mQ jt (zJ zS))) zy)))
abbrev OK:Stmt:=top 60
def EF:qJ ["_law_table","_law_order","_law_names"] ["_law_table","_law_order","_law_names"] (qi OK):=qZ (by kernel_rfl)
def OB:Ex:=zo (qI (mQ jt (qc 1 [0,1,2] (qu zq) (zG 0) ql (zU (mQ jt (qc 1 [0,1,3] (qu zL) (zG 0) ql (zU (zi zB zS (zi zB (zi zB zL zq) zr))))))))) zy
abbrev RY:Stmt:=top 61
def VI:qJ ["_law_state_here","_law_table","_law_kinds_here","_law_names"] ["_law_state_here","_law_table"] (qi RY):=qZ (by kernel_rfl)
def RZ (w:Fn)(o:Fn)(D:Fn):Ex:=zo (zQ 2 (zC w (zc zq zj))) (zo (zQ 3 (zi qk (qp (zc zZ zj)) (qW (qc 1 [] (qu (zC o (zc zr (zc (zi yP zL qh) zj)))) (zG 0) ql (zU (zi qk qh zr)))))) (zo (qI (zC D (zc zq (zc (zC o (zc zr (zc (mQ zT (zJ zq)) zj))) (zc zS zj))))) zy))
abbrev P1:Stmt:=top 62
def Zx:qJ ["_law_state_here","_law_way","_law_table","_law_many","_law_size"] ["_law_state_here"] (qi P1):=qZ (by kernel_rfl)
def Oc (Q:Fn)(e:Fn)(a:Fn)(v:Fn)(d:Fn)(U:Fn)(o:Fn)(y:Fn)(f:Fn)(E:Fn)(D:Fn):Ex:=zo (zQ 1 (zC y (zc zr (zc (zV (.int 12)) zj)))) (zo (qU (zi qX zq zZ) (zo (zQ 2 (zC Q (zc (zi qk qh (zC y (zc zr (zc VD zj)))) zj))) zy) (zo (qU (zi QW zq Ko) (zo (zQ 2 (zC U (zc (zi qk Ko (zC y (zc zr (zc RN zj)))) zj))) zy) (zo (qU (zi qX zq Ko) (zo (Kc (zi zB (qp (zc (qa (zc j7 (zc j7 zj))) (zc (qa (zc j7 (zc Ko zj))) (zc (qa (zc Ko (zc j7 zj))) (zc (qa (zc j7 (zc QY zj))) (zc (qa (zc QY (zc j7 zj))) (zc (qa (zc qh (zc Vs zj))) (zc (qa (zc Vs (zc qh zj))) zj)))))))) (zC y (zc zr (zc VA zj)))) (jO 3 4)) (zo (zQ 2 (zC a (zc zS (zc zW zj)))) zy)) (zo (qU (zi QW zq RN) (zo (zQ 2 (zC E (zc (zi qk j7 (zC y (zc zr (zc j7 zj)))) zj))) zy) (zo (qU (zi qX zq RN) (zo (zQ 2 (zC v (zc (zi qk j7 (zC y (zc zr (zc j7 zj)))) zj))) zy) (zo (qU (zi qX zq VA) (zo (zQ 2 (zC d (zc QY zj))) zy) (zo (qU (zi QW zq QS) (zo (zQ 2 (zC e (zc (zC Q (zc j7 zj)) (zc (zC o (zc zr zj)) zj)))) zy) (zo (zQ 2 (zC D (zc (zC Q (zc j7 zj)) (zc (zC o (zc zr zj)) zj)))) zy)) zy)) zy)) zy)) zy)) zy)) zy)) (zo (qI (zC f (zc zr (zc zL zj)))) zy))
abbrev Oq:Stmt:=top 63
def Yl:qJ ["_law_table","_law_a","_law_b","_law_kinds_here","_law_found","_law_i","_law_row","_law_j"] ["_law_table","_law_a","_law_b"] (qi Oq):=qZ (by kernel_rfl)
def Oj (w:Fn):Ex:=zo (zQ 3 (zC w (zc zr zj))) (zo (zQ 4 (qp zj)) (zo (qO (qN zS) (zG 5) (zo (zQ 6 (qp zj)) (zo (qO (qN zS) (zG 7) (zo (jB (jo jN j8 (jo Jb (qW (qc 1 [0,1,2,5,7] (qN (mQ zT (zJ zr))) (zG 0) ql (zU (jY (zi qX (zi zB (zi zB zq zL) zr) zW) (zi qX (zi zB (zi zB zq zS) zr) jC))))) ql))) zy)) (zo (jB (jo jN zW j8)) zy)))) (zo (qI zW) zy)))
abbrev PJ:Stmt:=top 64
def KC:qJ ["_law_table","_law_found","_law_kind","_law_a","_law_b"] ["_law_table"] (qi PJ):=qZ (by kernel_rfl)
def Pz (w:Fn)(E:Fn):Ex:=zo (zQ 1 (qp zj)) (zo (qO (qN (zC w (zc zr zj))) (zG 2) (zo (qO (qN (mQ zT (zJ zr))) (zG 3) (zo (qO (qN (mQ zT (zJ zr))) (zG 4) (zo (qU (jY (zi qX (mQ zT (zJ zq)) zL) (zi qX (zi zB (zi zB zr zS) zW) zL)) (zo (jB (jo jN zq (zC E (zc zr (zc zS (zc zW zj)))))) zy) zy) zy)) zy)) zy)) (zo (qI zq) zy))
abbrev OE:Stmt:=top 65
def El:qJ ["_law_table"] ["_law_table"] (qi OE):=qZ (by kernel_rfl)
def Dw (w:Fn):Ex:=zo (qI (qW (qc 1 [0] (qN (zC w (zc zr zj))) (zG 0) ql (zU (Ws Y1 (zi zB zq zZ) zr))))) zy
abbrev Oy:Stmt:=top 66
def E3:qJ ["_law_thing"] ["_law_thing"] (qi Oy):=qZ (by kernel_rfl)
def DR:Ex:=zo (qI (jY (kf .int zr) (jR (kf .bl zr)))) zy
abbrev R6:Stmt:=top 67
def Kv:qJ ["_law_table","_law_thing","_law_numbers_here","_law_i","_law_j","_law_total"] ["_law_table","_law_thing"] (qi R6):=qZ (by kernel_rfl)
def R9 (v:Fn)(D:Fn):Ex:=zo (zQ 2 (zC v (zc zr zj))) (zo (qU (wQ (jR (kf .tup zq)) (zi jw (mQ zT (zJ zq)) (mQ zT (zJ zL)))) yF zy) (zo (qU (wQ (jR (mQ ZM (qc 1 [] (qu zq) (zG 0) ql (zU (zC D (zc zr zj)))))) (zi jw (zi zB zq zZ) qh)) yF zy) (zo (qO (qN (mQ zT (zJ zq))) (zG 3) (zo (qO (qN (mQ zT (zJ zq))) (zG 4) (zo (zQ 5 (mQ wF (qc 1 [1,2,3,4] (qN (mQ zT (zJ zq))) (zG 0) ql (zU (zi qG (zi zB (zi zB (zi zB zL zr) zS) zW) (zi zB zq zr)))))) (zo (qU (zi jw (zi qG (zi zB zq zS) (zi zB zq zW)) jC) yF zy) zy))) zy)) (zo (qI ql) zy))))
abbrev R8:Stmt:=top 68
def gy:qJ ["_law_table","_law_numbers_here","_law_near_by","_law_found","_law_kind","_law_longer","_law_row","_law_good","_law_i","_law_later","_law_total"] ["_law_table"] (qi R8):=qZ (by kernel_rfl)
def R1 (y:Fn)(v:Fn)(Y:Fn):Ex:=zo (Kc (qa (zc (zC v (zc zr zj)) (zc (zC Y (zc zr zj)) zj))) (jO 1 2)) (zo (zQ 3 (qp (zc (qa (zc qh zj)) zj))) (zo (qO (Zc qh (mQ zT (zJ zL))) (zG 4) (zo (zQ 5 (qp zj)) (zo (qO (qu zS) (zG 6) (zo (jB (jo Qx jC (qW (qc 1 [6] (Zc (zi yP zZ (zi zB zL zW)) (zi qk (zi zB zL zW) qh)) (zG 0) ql (zU (zi qk zq (qa (zc zr zj)))))))) zy)) (zo (zQ 3 (qp zj)) (zo (qO (qu jC) (zG 6) (zo (zQ 7 ql) (zo (qO (qN (zi qk zW qh)) (zG 8) (zo (zQ 9 (qW (qc 1 [1,4,8] (Zc (zi qk zW qh) (mQ zT (zJ zL))) (zG 0) ql (zU (zi zB (zi zB (zi zB zq zr) zS) zL))))) (zo (qU (zi qX (mQ kx (zJ (zi qk J9 (qp (zc zZ zj))))) zZ) (zo (zQ 10 (mQ wF (qc 1 [1,4,6,8] (qN (zi qk zW qh)) (zG 0) ql (zU (zi qG (zi zB (zi zB (zi zB zq zr) zW) zL) (zi zB zS zr)))))) (zo (zQ 7 (jY wN (zi qX (zi qG (zi zB j8 wO) (zi zB j8 zW)) Jm))) zy)) zy) zy))) (zo (qU wN (zo (jB (jo jN zS j8)) zy) zy) zy)))) zy))))) (zo (qI (XW (Xu (qW (qc 1 [0] (qu zS) (zG 0) (zC y (zc zq (zc zr zj))) (zU zr)))) (yR gO qh))) zy)))
abbrev Ut:Stmt:=top 69
def DW:qJ ["_law_found","_law_due"] ["_law_found","_law_due"] (qi Ut):=qZ (by kernel_rfl)
def Z0 (Z:Fn):Ex:=zo (qU (Vj .tup .lst zq) (zo (qU (wQ (zi jw (kf .tup zr) (kf .tup zq)) (zi jw (kf .lst zr) (kf .lst zq))) yF zy) (zo (qU (zi jw (mQ zT (zJ zr)) (mQ zT (zJ zq))) yF zy) (zo (qI (mQ ZM (qc 2 [] (Zi zr zq) (jO 0 1) ql (zU (zC Z (zc zr (zc zq zj))))))) zy))) zy) (zo (qI (jY (zi qX zr zq) (zi qX (kf .bl zr) (kf .bl zq)))) zy)
def GJ {K:Frag}{k:Nat}(T:Bu mg)(F:we K "_law_same" "_law_same" Ut f fd)(a:mg "_law_same"=some (.ref f)){Z:Fn}(wG:zO P w K mg base k "_law_same" 2 Z):zO P w K mg base (k+1) "_law_same" 2 (qF 2 (Z0 Z)):=
 Rk F a DW (λ_ _ _ _ _ _=>W6 λ_ _=>rfl) λc A o s H E h=>zu (jQ (kR (lO .tup .lst T.jP T.jT T.JI (by rfl) (by rfl) (zh 1))) (zu (jQ (Q8 (Wu (yh (wK h) (gK .tup T.jP T.jT (by rfl) (zh 0)) (gK .tup T.jP T.jT (by rfl) (zh 1))) (Wh (yh (wK h) (gK .lst T.jP T.JI (by rfl) (zh 0)) (gK .lst T.jP T.JI (by rfl) (zh 1)))))) (zu (qA yq) zI) zI) (zu (jQ (yh (wK h) (jf T.jd (qE (zh 0))) (jf T.jd (qE (zh 1)))) (zu (qA yq) zI) zI) (zu (qA (YJ rfl T.Y2 (yB (jK (N:=["_law_one","_law_other"]) 2 [] (Ti rfl T.SK (zh 0) (zh 1)) (λ_ _ _=>⟨gC 0 1 rfl (jb (by kernel_rfl)),jl,ji (qb wG h (zm (zh 0) (zm (zh 1) zx)))⟩))))) zI))) zI) (zu (qA (ZE (wq (yZ h) (zh 0) (zh 1)) (Z3 (wq (yZ h) (gK .bl T.jP T.XG (by rfl) (zh 0)) (gK .bl T.jP T.XG (by rfl) (zh 1)))))) zI)
abbrev RX:Stmt:=top 70
def Jt:qJ ["_law_state_here","_law_weights","_law_at","_law_odd","_law_other","_law_some"] ["_law_state_here","_law_weights"] (qi RX):=qZ (by kernel_rfl)
def R0 (y:Fn):Ex:=zo (zQ 2 (zC y (zc zr (zc (zi qk (mQ zT (zJ zq)) qh) zj)))) (zo (zQ 3 (zi zB (qp (zc zZ (zc qh (zc (yR gO qh) (zc j7 (zc ql (zc ZS (zc (zV (.str "1")) (zc (qa (zc qh zj)) (zc (zi Kh QS (zV (.int 29))) (zc Vl zj))))))))))) (zC y (zc zr (zc QS zj))))) (zo (zQ 4 (zi qk (qW (zJ zq)) (qp (zc qh zj)))) (zo (gJ ku (zi yP zZ (zi zB zW zL)) zW zL) (zo (zQ 5 (qp (zc (zi qk (zi qk (yM zq kA (yd zL)) (qa (zc zS zj))) (yM zq (yd (zi qk zL qh)) kA)) (zc (zi qk (zi qk (yM zq kA (yd zL)) (qa (zc zS zj))) (yM zq (yd zL) kA)) zj)))) (zo (zQ 5 (zi qk jC (qp (zc (zi qk (yM zq kA (yd zL)) (yM zq (yd (zi qk zL qh)) kA)) (zc (qW (zJ zq)) (zc (S7 zq (yR gO qh)) (zc (zi qk (yM zq (yd zL) kA) (yM zq kA (yd zL))) zj))))))) (zo (zQ 5 (zi qk jC (qp (zc ZS (zc Ka (zc zZ (zc (qa (zc zq zj)) (zc (qa zj) zj)))))))) (zo (qI (zi zB (zi qk jC (qp (zc (mQ jt (zJ (yM zW kA (yd (mQ zT (zJ zq)))))) zj))) (zC y (zc zr (zc (zV (.int 12)) zj))))) zy)))))))
abbrev Pb:Stmt:=top 71
def VN:qJ ["_law_state_here","_law_some"] ["_law_state_here"] (qi Pb):=qZ (by kernel_rfl)
def Pe (y:Fn):Ex:=zo (zQ 1 (qp (zc ZS (zc zZ (zc (qa zj) (zc (qa (zc (qa (zc qh zj)) zj)) (zc (qa (zc (qa (zc zZ (zc qh zj))) (zc (qa (zc qh (zc zZ zj))) (zc (qa (zc zZ (zc zZ zj))) zj)))) (zc (qa (zc (qa (zc zZ (zc j7 zj))) (zc (qa (zc j7 (zc zZ zj))) zj))) (zc (qa (zc (qa (zc zZ (zc qh zj))) (zc (qa (zc j7 (zc zZ zj))) zj))) (zc (qp (zc (qa (zc zZ (zc qh zj))) (zc (qa (zc qh (zc zZ zj))) zj))) zj)))))))))) (zo (zQ 1 (zi qk zq (qp (zc (qa (zc (qa (zc zZ (zc zZ zj))) (zc (qa (zc zZ (zc zZ zj))) zj))) (zc (qa (zc (qa (zc zZ (zc ql zj))) (zc (qa (zc ql (zc zZ zj))) zj))) (zc (qa (zc (qa (zc zZ (zc qh zj))) (zc (qp (zc qh (zc zZ zj))) zj))) (zc (qa (zc (qa (zc zZ (zc qh zj))) zj)) (zc (zV (.str "01/10")) (zc Ka (zc (zi QI (qa (zc (zi QI (qa (zc zZ zj)) Vu) zj)) Vu) zj)))))))))) (zo (qI (zi zB zq (zC y (zc zr (zc (zV (.int 15)) zj))))) zy))
abbrev PQ:Stmt:=top 72
def KN:qJ ["_law_state_here","_law_many","_law_rows","_law_a","_law_b"] ["_law_state_here"] (qi PQ):=qZ (by kernel_rfl)
def PV (Q:Fn)(y:Fn):Ex:=zo (zQ 1 (zi qk QY (zC y (zc zr (zc Vs zj))))) (zo (zQ 2 (qW (qc 1 [] (qu (zC Q (zc zq zj))) (zG 0) ql (zU (qW (zJ zr)))))) (zo (zQ 3 (zC y (zc zr (zc zq zj)))) (zo (zQ 4 (zi kH (zi qk (zi qk zS qh) (zC y (zc zr (zc (zi yP zq qh) zj)))) zq)) (zo (gJ ku j7 (zi zB zL zS) zW) (zo (gJ ku j7 (zi zB zL zW) zS) (zo (qI (mQ jt (qc 1 [] (qu zL) (zG 0) ql (zU (mQ jt (zJ zr)))))) zy))))))
abbrev VY:Stmt:=top 73
def Qq:qJ ["_law_call","_law_error","e","_law_marks"] ["_law_call"] (qi VY):=qZ (by kernel_rfl)
def VT:Ex:=zo (zQ 3 (qp (zc (je (ju qV "NoTable") zq) (zc (je (ju qV "NotSteady") zq) (zc (je (ju qV "NoPlace") zq) zj))))) (zo (zQ 3 (zi qk zS (qp (zc (je (ju qV "NoKind") zq) (zc (je (ju qV "NoMix") zq) (zc (je (ju qV "NoNumber") zq) zj)))))) (zo (zQ 3 (zi qk zS (qp (zc (je (ju qV "NoLot") zq) (zc (je (ju qV "NoKinds") zq) (zc (je (ju qV "NoPaper") zq) zj)))))) (zo (zQ 3 (zi qk zS (qp (zc (je (ju qV "NoParting") zq) (zc (je (ju qV "NoClosed") zq) (zc (je (ju qV "TooMany") zq) zj)))))) (zo (zQ 3 (zi qk zS (qp (zc (je (ju qV "NoText") zq) (zc (je (ju qV "NoLine") zq) (zc (je (ju qV "NoDeed") zq) zj)))))) (zo (zQ 3 (zi qk zS (qp (zc (je (ju qV "NoWeights") zq) (zc (je (ju qV "NotWhole") zq) (zc (je (ju qV "NoNumbers") zq) zj)))))) (zo (qU (jR (je (RA qV) zq)) (zo (qI ZS) zy) zy) (zo (qI (qW (qc 1 [3] (qN (zV (.int 18))) (zG 0) (zi zB zq zr) (zU zr)))) zy)))))))
def KO (PG:Zh)(l:Nat->Fn):Ex:=zo (zQ 1 ZS) (zo (W3 0 1 2 qV PG l) VT)
def Eh {K:Frag}{k:Nat}(T:Bu mg)(C:gm K qV "NearError")(R:Xa.all (Jf K qV)=true)(F:we K "_law_refused" "_law_refused" VY f fd)(a:mg "_law_refused"=some (.ref f)){PG:Zh}{l:Nat->Fn}(h:kk<=k)(L:∀k,Jl P w K mg base kk (PG k) (l k)):zO P w K mg base (k+1) "_law_refused" 1 (qF 4 (KO PG l)):=
 Rk F a Qq (λ_ _ _ _ _ _=>Kk λ_=>rfl) λc A o s H E r=>zu (qv 1 Qq.nd Jc) (zu (lN L (r.mono h) rfl rfl C.top_at C.top_exc (by decide +kernel) C.under Qq.nd rfl rfl rfl rfl rfl rfl rfl) (zu (qv 3 Qq.nd (qY (zm (kO (C.isx (jI R)) (kS (jI R)) T.jP (zh 1)) (zm (kO (C.isx (jI R)) (kS (jI R)) T.jP (zh 1)) (zm (kO (C.isx (jI R)) (kS (jI R)) T.jP (zh 1)) zx))) (zA (zA (zA zR))))) (zu (qv 3 Qq.nd (jc (zh 3) (qY (zm (kO (C.isx (jI R)) (kS (jI R)) T.jP (zh 1)) (zm (kO (C.isx (jI R)) (kS (jI R)) T.jP (zh 1)) (zm (kO (C.isx (jI R)) (kS (jI R)) T.jP (zh 1)) zx))) (zA (zA (zA zR)))))) (zu (qv 3 Qq.nd (jc (zh 3) (qY (zm (kO (C.isx (jI R)) (kS (jI R)) T.jP (zh 1)) (zm (kO (C.isx (jI R)) (kS (jI R)) T.jP (zh 1)) (zm (kO (C.isx (jI R)) (kS (jI R)) T.jP (zh 1)) zx))) (zA (zA (zA zR)))))) (zu (qv 3 Qq.nd (jc (zh 3) (qY (zm (kO (C.isx (jI R)) (kS (jI R)) T.jP (zh 1)) (zm (kO (C.isx (jI R)) (kS (jI R)) T.jP (zh 1)) (zm (kO (C.isx (jI R)) (kS (jI R)) T.jP (zh 1)) zx))) (zA (zA (zA zR)))))) (zu (qv 3 Qq.nd (jc (zh 3) (qY (zm (kO (C.isx (jI R)) (kS (jI R)) T.jP (zh 1)) (zm (kO (C.isx (jI R)) (kS (jI R)) T.jP (zh 1)) (zm (kO (C.isx (jI R)) (kS (jI R)) T.jP (zh 1)) zx))) (zA (zA (zA zR)))))) (zu (qv 3 Qq.nd (jc (zh 3) (qY (zm (kO (C.isx (jI R)) (kS (jI R)) T.jP (zh 1)) (zm (kO (C.isx (jI R)) (kS (jI R)) T.jP (zh 1)) (zm (kO (C.isx (jI R)) (kS (jI R)) T.jP (zh 1)) zx))) (zA (zA (zA zR)))))) (zu (jQ (gE (kR (AU C.isv T.jP T.DK (by rfl) (zh 1)))) (zu (qA Jc) zI) zI) (zu (qA (gB (jK (N:=["_law_k","_law_marks"]) 1 [3] (jD rfl T.jn zE) (λ_ _ _=>⟨qy 0 (jb (by kernel_rfl)),UR (kR (qB (zh 1) (zh 0))),ji (zh 0)⟩)))) zI)))))))))
abbrev Ku:Stmt:=top 74
def RR:qJ ["_law_state_here","_law_calls","_law_bad","_law_broken_here"] ["_law_state_here","_law_calls"] (qi Ku):=qZ (by kernel_rfl)
noncomputable abbrev wg:Str:=(("_law_no_table_right":Str)++(".<locals>.":Str))++("<lambda>":Str)
noncomputable abbrev QC:Str:=(("law":Str)++(".<locals>.":Str))++("<lambda>":Str)
abbrev WC:Stmt:=top 75
abbrev Rf:Expr:=(Rj (Hl (kv ((yY WC).getD 0 JG) 8)) 0)
def kY:Obj->Addr->Obj->List V->Prop:=JV QC (IY Rf) (Ht Rf) (HB Rf) []
def Qe (j:Fn):Fn:=λw A=>(zC j (zc zr (zc ZS zj))) (w.map some) A
def IV {K:Frag}{k:Nat}(T:Bu mg){j:Fn}(v:∀base,jL P w K mg base k "are_weights" 2 j):J0 P w K mg (k+1) kY (Qe j):=
 lL (x := "_law_one") (lK (by kernel_rfl)) (λ_ _ _ _=>rfl) λbase a c A o s H E h X=>yE (K5 X (v base) h (zm (zh 0) (zm Jc zx)))
def Wd (y:Fn)(j:Fn)(Y:Fn):Lm:=Hj (Rj (Hm (Hf (lb ((yY Ku).getD 1 JG)))) 0) ["_law_call","_law_bad"] [0,1] (YS 0 [("all_weights",y),("is_whole_table",Y)] kY (Qe j) (zc zq zj))
def Aq {K:Frag}{k:Nat}(T:Bu mg){y:Fn}(U:∀base,jL P w K mg base k "all_weights" 1 y){j:Fn}(b:∀base,jL P w K mg base k "are_weights" 2 j){Y:Fn}(v:∀base,jL P w K mg base k "is_whole_table" 1 Y)(LL_0:J0 P w K mg k kY (Qe j)):W2 P w K mg k wg (Wd y j Y):=
 ⟨⟨rfl,rfl,rfl,NF (by kernel_rfl)⟩,λ_ _ _ _=>rfl,λbase cl a c A o s H E r x=>yE (Nl (fs:=[("all_weights",y),("is_whole_table",Y)]) x (List.forall_mem_cons.mpr ⟨U base,(List.forall_mem_cons.mpr ⟨v base,(λ_ h=>nomatch h)⟩)⟩) LL_0 r (zm (zh 1) zx) (zA zR))⟩
def We (y:Fn)(j:Fn)(Y:Fn):Lm:=Hj (Rj (Hm (Hf (Hl ((yY Ku).getD 2 JG)))) 0) ["_law_call","_law_broken_here"] [0,1] (YS 0 [("all_weights",y),("is_whole_table",Y)] kY (Qe j) (zc zq zj))
def Ay {K:Frag}{k:Nat}(T:Bu mg){y:Fn}(U:∀base,jL P w K mg base k "all_weights" 1 y){j:Fn}(b:∀base,jL P w K mg base k "are_weights" 2 j){Y:Fn}(v:∀base,jL P w K mg base k "is_whole_table" 1 Y)(LL_0:J0 P w K mg k kY (Qe j)):W2 P w K mg k wg (We y j Y):=
 ⟨⟨rfl,rfl,rfl,NF (by kernel_rfl)⟩,λ_ _ _ _=>rfl,λbase cl a c A o s H E r x=>yE (Nl (fs:=[("all_weights",y),("is_whole_table",Y)]) x (List.forall_mem_cons.mpr ⟨U base,(List.forall_mem_cons.mpr ⟨v base,(λ_ h=>nomatch h)⟩)⟩) LL_0 r (zm (zh 1) zx) (zA zR))⟩
def VG (q:Fn)(g:Fn)(y:Fn)(j:Fn)(Y:Fn)(RG:Lm->Nat->List W->Hx->R W)(P:Addr):Ex:=zo (Kc (qa (zc (zC q (zc zr zj)) (zc (zC g (zc zr zj)) zj))) (jO 2 3)) (zo (qU (zi jw (qW (qc 1 [2] (qu zq) (zG 0) ql (zU (ZL 2 wg P (Wd y j Y).idx (RG (Wd y j Y) 0))))) (zi qG (qp (zc (qp (zc zZ zj)) zj)) (mQ zT (zJ zq)))) yF zy) (zo (qI (zi qX (qW (qc 1 [3] (qu zq) (zG 0) ql (zU (ZL 2 wg P (We y j Y).idx (RG (We y j Y) 0))))) (zi qG (qp (zc (qp (zc qh zj)) zj)) (mQ zT (zJ zq))))) zy))
def HY {K:Frag}{k:Nat}(T:Bu mg){c:Addr}(F:we K "_law_no_table_right" "_law_no_table_right" Ku f fd)(n:nsIn K mainGlobals "_law_no_table_right"=some (some (.ref f)))(d:tabIn K "_law_no_table_right"=some (c,Pt))(e:mg "_law_no_table_right"=some (.ref f))(B:BMain mg base)(C:CodeHd base c Pt){q:Fn}(Yj:zO P w K mg base k "_law_bad_table" 1 q){g:Fn}(KQ:zO P w K mg base k "_law_broken" 1 g){RG:Lm->Nat->List W->Hx->R W}{j:Nat}(a:kk<=k){y:Fn}(XL_all_weights:∀base,jL P w K mg base j "all_weights" 1 y){J:Fn}(XL_are_weights:∀base,jL P w K mg base j "are_weights" 2 J){Y:Fn}(XL_is_whole_table:∀base,jL P w K mg base j "is_whole_table" 1 Y)(LL_0:J0 P w K mg j kY (Qe J))(b:∀t base PG,(∀k,Jl P w K mg base (j+1) (PG k) (gc [t] k))->zO P w K mg base kk "_law_refused" 1 (QQ PG (RG t))):zO P w K mg base (k+1) "_law_no_table_right" 2 (qF 4 (VG q g y J Y RG Pt)):=
 lV F n d e RR (λ_ _ _ _ _ _=>W6 λ_ _=>rfl) λA o s H E r=>zu (Te (qS (zm (qb Yj r (zm (zh 0) zx)) (zm (qb KQ r (zm (zh 0) zx)) zx)) (zA (zA zR))) (gC 2 3 rfl RR.nd)) (zu (jQ (yh (wK r) (gB (Nw (N:=["_law_call","_law_bad"]) 1 [2] rfl (cps (by kernel_rfl)) (by kernel_rfl) (LA λ_=>rfl) (j4 (zh 1)) (λ_ _ _ h=>⟨qy 0 (jb (by kernel_rfl)),jl,ji (Ma (t:=Wd y J Y) h (Aq T XL_all_weights XL_are_weights XL_is_whole_table LL_0) (by kernel_rfl) (b _) (r.mono a) B rfl C rfl rfl)⟩))) (yX (qY (zm (qY (zm zE zx) (zA zR)) zx) (zA zR)) (jf T.jd (qE (zh 1))))) (zu (qA yq) zI) zI) (zu (qA (wq (yZ r) (gB (Nw (N:=["_law_call","_law_broken_here"]) 1 [3] rfl (cps (by kernel_rfl)) (by kernel_rfl) (LA λ_=>rfl) (j4 (zh 1)) (λ_ _ _ h=>⟨qy 0 (jb (by kernel_rfl)),jl,ji (Ma (t:=We y J Y) h (Ay T XL_all_weights XL_are_weights XL_is_whole_table LL_0) (by kernel_rfl) (b _) (r.mono a) B rfl C rfl rfl)⟩))) (yX (qY (zm (qY (zm zE zx) (zA zR)) zx) (zA zR)) (jf T.jd (qE (zh 1)))))) zI))
def ZK:qJ ["_law_script","_law_k","_law_state_here","_law_table","_law_due","_law_turn","_law_found","_law_rows","_law_row","_law_thing","_law_calls"] ["_law_script"] (qi WC):=qZ (by kernel_rfl)
def SR (a:Fn)(h:Fn)(K:Fn)(w:Fn)(j:Fn)(Z:Fn)(Y:Fn)(b:Fn)(g:Fn)(y:Fn)(U:Fn)(B:Fn)(r:Fn)(u:Fn)(J:Fn)(t:Fn)(RG:Lm->Nat->List W->Hx->R W)(P:Addr):Ex:=zo (qO (qN (zi SN qh (zi XX (mQ zT (zJ zr)) QY))) (zG 1) (zo (zQ 2 (zC b (zc zr (zc zq zj)))) (zo (zQ 3 (zC g (zc zL zj))) (zo (zQ 4 (zC a (zc zS zj))) (zo (qO (qN j7) (zG 5) (zo (zQ 6 (zC U (zc zS zj))) (zo (qU (jR (zC Z (zc j8 (zc zW zj)))) yF zy) (zo (jB (jo jN j8 (qa zj))) zy)))) (zo (qU (jR (zC Z (zc (zC r (zc zS zj)) (zc (zi qX (mQ zT (zJ zW)) (zC w (zc zS zj))) zj)))) yF zy) (zo (zQ 7 (qp (zc (zi zB zW (zC y (zc zL (zc (mQ zT (zJ zW)) zj)))) (zc (zi zB zW (zC y (zc zL (zc (mQ zT (zJ zW)) zj)))) (zc (mQ jt (zJ (zC Y (zc zS zj)))) zj))))) (zo (qO (qu wN) (zG 8) (zo (qO (qu (qp (zc wO (zc (zC K (zc zL (zc wO zj))) (zc (zC K (zc zL (zc wO zj))) zj))))) (zG 9) (zo (qU (jR (zC Z (zc (zC B (zc zS (zc J9 zj))) (zc (zC h (zc zS (zc J9 zj))) zj)))) yF zy) zy)) zy)) (zo (zQ 10 (qp (zc (zV (.fn "all_weights")) (zc (zV (.fn "is_whole_table")) zj)))) (zo (jB (jo jN Jm (Zf 1 QC P 0 kY))) (zo (qU (jR (zC j (zc zL (zc Jm zj)))) yF zy) zy))))))))))) (zo (qI (zi qX (zC U (zc (qa (zc (qa (zc zZ zj)) zj)) zj)) (qp (zc (qa (zc qh zj)) zj)))) zy)
def o_law {K:Frag}{k:Nat}(T:Bu mg){c:Addr}(F:we K "law" "law" WC f fd)(I:nsIn K mainGlobals "law"=some (some (.ref f)))(D:tabIn K "law"=some (c,Pt))(q:BMain mg base)(C:CodeHd base c Pt){i:Fn}(Ju:zO P w K mg base k "_law_all_weights" 1 i){b:Fn}(Zw:zO P w K mg base k "_law_are_weights" 2 b){d:Fn}(ZY:zO P w K mg base k "_law_bent_weights" 2 d){B:Fn}(wV:zO P w K mg base k "_law_kinds" 1 B){l:Fn}(u:zO P w K mg base k "_law_no_table_right" 2 l){Z:Fn}(wG:zO P w K mg base k "_law_same" 2 Z){r:Fn}(Qt:zO P w K mg base k "_law_sizes" 1 r){n:Fn}(Ys:zO P w K mg base k "_law_state" 2 n){g:Fn}(Jw:zO P w K mg base k "_law_steady" 1 g){a:Fn}(ye:zO P w K mg base k "_law_take" 2 a){U:Fn}(Q1:zO P w K mg base k "all_weights" 1 U){o:Fn}(Yp:zO P w K mg base k "are_weights" 2 o){e:Fn}(Jv:zO P w K mg base k "is_whole_table" 1 e){RG:Lm->Nat->List W->Hx->R W}{j:Nat}(p:kk<=k){y:Fn}(XL_all_weights:∀base,jL P w K mg base j "all_weights" 1 y){J:Fn}(XL_are_weights:∀base,jL P w K mg base j "are_weights" 2 J){Y:Fn}(XL_is_whole_table:∀base,jL P w K mg base j "is_whole_table" 1 Y)(LL_0:J0 P w K mg j kY (Qe J))(N_all_weights:Nm K "all_weights")(N_is_whole_table:Nm K "is_whole_table")(v:∀t base PG,(∀k,Jl P w K mg base (j+1) (PG k) (gc [t] k))->zO P w K mg base kk "_law_refused" 1 (QQ PG (RG t))):yN P w K mg base wc (k+1) f fd ["_law_script"] (ZU K 1 (qF 11 (SR i b d B l Z r n g a U o e y J Y RG Pt))):=
 lU F I D ZK λA x s H E h=>zu (jJ PassesOwn.never rfl (jD rfl T.jn (iR rfl T.JP zE (N8 rfl T.ID (jf T.jd (qE (zh 0))) zE))) (qy 1 ZK.nd) (zu (qv 2 ZK.nd (qb Ys h (zm (zh 0) (zm (zh 1) zx)))) (zu (qv 3 ZK.nd (qb Jw h (zm (zh 2) zx))) (zu (qv 4 ZK.nd (qb Ju h (zm (zh 3) zx))) (zu (jJ PassesOwn.never rfl (jD rfl T.jn zE) (qy 5 ZK.nd) (zu (qv 6 ZK.nd (qb Q1 h (zm (zh 3) zx))) (zu (jQ (gE (kR (qb wG h (zm (zh 6) (zm (zh 4) zx))))) (zu (qA yq) zI) zI) (zu (yS (wH (zh 6) (qS zx zR))) zI)))) (zu (jQ (gE (kR (qb wG h (zm (qb Jv h (zm (zh 3) zx)) (zm (wq (yZ h) (jf T.jd (qE (zh 4))) (qb wV h (zm (zh 3) zx))) zx))))) (zu (qA yq) zI) zI) (zu (qv 7 ZK.nd (qY (zm (qB (zh 4) (qb ye h (zm (zh 2) (zm (jf T.jd (qE (zh 4))) zx)))) (zm (qB (zh 4) (qb ye h (zm (zh 2) (zm (jf T.jd (qE (zh 4))) zx)))) (zm (yn T.jT (qE (qb Qt h (zm (zh 3) zx)))) zx))) (zA (zA (zA zR))))) (zu (jJ PassesOwn.never rfl (j4 (zh 7)) (qy 8 ZK.nd) (zu (jJ PassesOwn.never rfl (j4 (qY (zm (zh 8) (zm (qb ZY h (zm (zh 2) (zm (zh 8) zx))) (zm (qb ZY h (zm (zh 2) (zm (zh 8) zx))) zx))) (zA (zA (zA zR))))) (qy 9 ZK.nd) (zu (jQ (gE (kR (qb wG h (zm (qb Yp h (zm (zh 3) (zm (zh 9) zx))) (zm (qb Zw h (zm (zh 3) (zm (zh 9) zx))) zx))))) (zu (qA yq) zI) zI) zI)) zI)) (zu (qv 10 ZK.nd (qY (zm (LS N_all_weights) (zm (LS N_is_whole_table) zx)) (zA (zA zR)))) (zu (yS (wH (zh 10) (lW q rfl C rfl rfl rfl))) (zu (jQ (gE (kR (qb u h (zm (zh 2) (zm (zh 10) zx))))) (zu (qA yq) zI) zI) zI))))))))))) (zu (qA (wq (yZ h) (qb Q1 h (zm (qS (zm (qS (zm zE zx) (zA zR)) zx) (zA zR)) zx)) (qY (zm (qS (zm zE zx) (zA zR)) zx) (zA zR)))) zI)
def Uy:Fn:=qF 1 Nc
def Q4:Fn :=  Uy
def B8:Fn:=qF 5 Nv
def UG:Fn:=iso B8
def Fb:Fn:=qF 2 RU
def VH:Fn:=iso Fb
def Ep:Fn:=qF 1 P2
def Zy:Fn:=iso Ep
def P4:Fn:=qF 6 PZ
def Yq:Fn:=iso P4
def TN:Fn:=qF 7 TV
def Ji:Fn:=yU TN
def Ej:Fn:=qF 2 VZ
def Gv:Fn :=  Ej
def GH:Fn:=qF 4 Uq
def ye:Fn:=yU GH
def Um:Fn:=qF 1 Dz
def ZZ:Fn:=iso Um
def OV:Fn:=qF 1 Ci
def K0:Fn:=iso OV
def Oi:Fn:=qF 6 E2
def Uh:Fn:=iso Oi
def P5:Fn:=qF 3 EG
def Uc:Fn:=iso P5
def Pn:Fn:=qF 1 FU
def KG:Fn:=iso Pn
def OL:Fn:=qF 5 DX
def Ul:Fn:=iso OL
def Du:Fn:=qF 1 Dr
def wV:Fn:=iso Du
def OG:Fn:=qF 3 OB
def GD:Fn :=  OG
def Dx:Fn:=qF 1 DR
def KW:Fn:=iso Dx
def K1:Fn:=qF 2 (KZ Q4)
def g8:Fn :=  K1
def Ed:Fn:=qF 7 (PD Zy)
def Q0:Fn:=iso Ed
def ES:Fn:=qF 1 (Ol Zy)
def KR:Fn:=iso ES
def DB:Fn:=qF 3 (Uj Gv)
def Ys:Fn :=  DB
def Od:Fn:=qF 8 (EH wV)
def V8:Fn:=iso Od
def DQ:Fn:=qF 2 (OP ZZ KG K0 ye)
def KY:Fn:=yU DQ
def Oh:Fn:=qF 8 (E7 wV)
def Ug:Fn:=iso Oh
def OC:Fn:=qF 4 (Ou ye)
def Jx:Fn:=yU OC
def E5:Fn:=qF 8 (Oj wV)
def GA:Fn :=  E5
def DF:Fn:=qF 1 (Dw wV)
def Qt:Fn:=iso DF
def Fo:Fn:=qF 6 (R0 ye)
def ZY:Fn :=  Fo
def Pm:Fn:=qF 2 (Pe ye)
def Yj:Fn :=  Pm
def EV:Fn:=qF 5 (PV ZZ ye)
def KQ:Fn:=yU EV
def VM:Fn:=qF 3 (VO g8)
def Qp:Fn :=  VM
def EL:Fn:=qF 3 (Oo Zy Q0 Yq)
def Yo:Fn:=iso EL
def Py:Fn:=qF 9 (PC Q0 Yq)
def KH:Fn:=iso Py
def RW:Fn:=qF 4 (RZ wV Jx GD)
def Yg:Fn:=yU RW
def F7:Fn:=qF 5 (Pz wV GA)
def Gu:Fn :=  F7
def GP:Fn:=qF 2 (GK UG Qp VH)
def wW:Fn :=  GP
def Fv:Fn:=qF 2 (Gn Zy Ji g8 Yo)
def Gk:Fn :=  Fv
def FJ:Fn:=qF 5 (Pd KR Ji Yo)
def KA:Fn:=iso FJ
def EZ:Fn:=qF 5 (Oc ZZ V8 Uh KG Ul K0 KY ye Yg Uc Ug)
def Jw:Fn:=yU EZ
def R4:Fn:=qF 6 (R9 Gu KW)
def Zw:Fn :=  R4
def DY:Fn:=qF 2 (Z0 (λ_ _=>.bad))
def Ot:Fn :=  DY
def D2:Fn:=qF 2 (Z0 Ot)
def Ox:Fn :=  D2
def D3:Fn:=qF 2 (Z0 Ox)
def Ow:Fn :=  D3
def Co:Fn:=qF 2 (Z0 Ow)
def wG:Fn :=  Co
def Kz:Fn:=Ze 1 (VU wW)
def R3:Fn:=qF 11 (R1 Zw Gu Qt)
def Ju:Fn:=iso R3
def wU:Fn:=Ze 1 (Gp KH Kz)
def gz:Fn:=Ze 2 (Ue Gk wU)
def Yp:Fn:=(λw A=>(gz w A).nox)
def g7:Fn:=Ze 1 (Ub KA wU)
def Q1:Fn:=iso (λw A=>(g7 w A).nox)
def gZ:Fn:=Ze 1 (VR Zy KA wU)
def Jv:Fn:=iso (λw A=>(gZ w A).nox)
structure Tx (K:Frag):Prop where
 C3:FD K "is_whole" Nh
 B7:FD K "is_even" Nr
 H9:FD K "leaves_no_kind_out" RT
 Df:FD K "count_kinds" PU
 EN:FD K "first_pairs" Oa
 zea:FD K "fits" LW
 F5:FD K "_law_cell_at" PM
 Cd:FD K "_law_take" O0
 Dp:FD K "_law_alike" OO
 Cc:FD K "_law_ring" OX
 EO:FD K "_law_blocks" P6
 De:FD K "_law_unlike" PN
 FV:FD K "_law_each_own" Pp
 Ds:FD K "_law_pairs" Ov
 Dy:FD K "_law_kinds" ON
 DU:FD K "_law_named" OK
 DH:FD K "_law_whole" Oy
 Ck:FD K "is_wholes" OW
 Ec:FD K "count_shares" PH
 EJ:FD K "count_sizes" Og
 Dn:FD K "_law_state" OJ
 Dg:FD K "_law_beside" PY
 Dq:FD K "_law_small" Oz
 Dd:FD K "_law_within" Oe
 D1:FD K "_law_mixed" OQ
 EY:FD K "_law_shares" Oq
 DO:FD K "_law_sizes" OE
 Fj:FD K "_law_bent_weights" RX
 FR:FD K "_law_bad_table" Pb
 ED:FD K "_law_broken" PQ
 Fz:FD K "is_wholes_below" Pa
 E8:FD K "kind_shares" PR
 F0:FD K "search_break" Px
 Fh:FD K "_law_turned_about" RY
 F2:FD K "_law_numbers" PJ
 Cz:FD K "is_table" Nb
 Ft:FD K "is_weights_tuple" R7
 FT:FD K "search_weights" Pc
 EK:FD K "_law_steady" P1
 Fq:FD K "_law_are_weights" R6
 GI:FD K "_law_same" Ut
 FY:FD K "require_table" Pr
 Fw:FD K "_law_all_weights" R8
 FL:FD K "require_steady" Pl
 Et:FD K "are_weights" P8
 P9:FD K "all_weights" Om
 Ph:FD K "is_whole_table" Pg
 F9:FD K "_law_refused" VY
 HX:FD K "_law_no_table_right" Ku
 zfD:FD K "law" WC
 Dl:nsIn K mainGlobals "ValueError"=some none
 zfW:nsIn K mainGlobals "all"=some none
 zeS:nsIn K mainGlobals "any"=some none
 zcZ:nsIn K mainGlobals "bool"=some none
 D7:nsIn K mainGlobals "enumerate"=some none
 ze4:nsIn K mainGlobals "int"=some none
 DN:nsIn K mainGlobals "isinstance"=some none
 zf7:nsIn K mainGlobals "len"=some none
 zcO:nsIn K mainGlobals "list"=some none
 zfV:nsIn K mainGlobals "max"=some none
 zeO:nsIn K mainGlobals "min"=some none
 zbA:nsIn K mainGlobals "range"=some none
 zfs:nsIn K mainGlobals "set"=some none
 zaN:nsIn K mainGlobals "sorted"=some none
 zeF:nsIn K mainGlobals "sum"=some none
 zbl:nsIn K mainGlobals "tuple"=some none
 zey:nsIn K mainGlobals "zip"=some none
 EC:CD K "MOST_PLACES" 8
 zfB:qV.all (XA K "NearError" ·)=true
 zfq:T5 K "NearError"=true
 zfF:Xa.all (Jf K qV)=true
section
variable {K:Frag}
def bu (X:K.In h)(G:h.Ns mainGlobals mg)(T:Tx K):Bu mg:=⟨aV X G T.Dl,aV X G T.zfW,aV X G T.zeS,aV X G T.zcZ,aV X G T.D7,aV X G T.ze4,aV X G T.DN,aV X G T.zf7,aV X G T.zcO,aV X G T.zfV,aV X G T.zeO,aV X G T.zbA,aV X G T.zfs,aV X G T.zaN,aV X G T.zeF,aV X G T.zbl,aV X G T.zey,(let ⟨t,e⟩:=T.EC;⟨t,bC X G e⟩)⟩
def cl (T:Tx K):gm K qV "NearError":=ke T.zfB T.zfq
structure Zz (K:Frag)(h:Heap)(mg:b8):Prop where
 X:K.In h
 G:h.Ns mainGlobals mg
 T:Tx K
 B:Bu mg
 C:gm K qV "NearError"
def zz (X:K.In h)(G:h.Ns mainGlobals mg)(T:Tx K):Zz K h mg:=⟨X,G,T,bu X G T,cl T⟩
def gM {t:Stmt}{ps:bX}{k:Nat}{m:Ex}(Z:Zz K h mg)(e:FD K x t)(S:qJ N ps (qi t))
  (B:∀(f:Addr)(C:Value)(A:Around)(d:b9)(s:Shared)(H:Hp)(E:XK),jF k (A.deeper (PyProof.Rows.envOfC x (qi t) s.heap.objs.size f C))->kK (wt wc P w K mg base N x (qi t) f C A d s H E).nox yQ (yY t) m)
  (b:∀(kV D p:Value)(n:cf)(C ct:Value)(u:bS),u.length=ps.length->bindArgs (fnOf x x (Z4 t) (yY t) (qi t) .none kV D p n C ct) ⟨u,[]⟩=pure (ps.zip u):=by first|exactλ_ _ _ _ _ _=>Kk λ_=>rfl|exactλ_ _ _ _ _ _=>W6 λ_ _=>rfl|exactλ_ _ _ _ _ _=>lX λ_ _ _=>rfl|exactλ_ _ _ _ _ _=>bd4 λ_ _ _ _=>rfl|exactλ_ _ _ _ _ _=>bd5 λ_ _ _ _ _=>rfl):
  zO P w K mg base (k+1) x ps.length (qF N.length m):=by
 obtain⟨f,g,F,a⟩:=e;exact Rk F (bC Z.X Z.G a) S b λc A o s H E r=>B f c A o s H E r
def CZ (Z:Zz K h mg):zO P w K mg base 1 "is_whole" 1 Q4:=gM Z Z.T.C3 Cf λf c A o s H E r=>zu (qA (ZE (gK .int Z.B.jP Z.B.WE (by rfl) (zh 0)) (Z3 (MO (gK .bl Z.B.jP Z.B.XG (by rfl) (zh 0)))))) zI
def BG (Z:Zz K h mg):zO P w K mg base 1 "is_even" 1 UG:=zO.iso (gM Z Z.T.B7 Uw λf c A o s H E r=>zu (jJ PassesOwn.never rfl (YA rfl Z.B.Yu (zh 0)) (gC 1 2 rfl Uw.nd) (zu (jJ PassesOwn.never rfl (YA rfl Z.B.Yu (zh 2)) (gC 3 4 rfl Uw.nd) (zu (jQ (Q8 (Wu (yh (wK r) (wq (yZ r) (zh 4) zE) (wq (yZ r) (zh 1) (zh 3))) (Wh (yh (wK r) (qB (qB (zh 0) (zh 3)) (zh 1)) (zh 4))))) (zu (qA yq) zI) zI) zI)) zI)) (zu (qA yq) zI))
def Fd (Z:Zz K h mg):zO P w K mg base 1 "leaves_no_kind_out" 1 VH:=zO.iso (gM Z Z.T.H9 RS λf c A o s H E r=>zu (qv 1 RS.nd (gB (jK (N:=["row","kind"]) 2 [] (j4 (zh 0)) (λ_ _ _=>⟨qy 0 (jb (by kernel_rfl)),jl,MW (λ_ _ z=>z) rfl rfl (by intro _ h;cases h<;>rfl) (j4 (zh 0)) (qy 1 (jb (by kernel_rfl))) jl (ji (zh 1))⟩)))) (zu (qA (YJ rfl Z.B.Y2 (yB (jK (N:=["kind","standing"]) 1 [1] (jD rfl Z.B.jn (YH rfl Z.B.JP (qE (zh 1)))) (λ_ _ _=>⟨qy 0 (jb (by kernel_rfl)),jl,ji (iJ hh (zh 0) (zh 1))⟩))))) zI))
def KP (Z:Zz K h mg):zO P w K mg base 1 "count_kinds" 1 Zy:=zO.iso (gM Z Z.T.Df F3 λf c A o s H E r=>zu (qA (jc (YH rfl Z.B.JP (yB (jK (N:=["row"]) 1 [] (j4 (zh 0)) (λ_ _ _=>⟨qy 0 (jb (by kernel_rfl)),jl,ji (YH rfl Z.B.JP (qE (zh 0)))⟩)))) zE)) zI)
def Of (Z:Zz K h mg):zO P w K mg base 1 "first_pairs" 1 Yq:=zO.iso (gM Z Z.T.EN Gw λf c A o s H E r=>zu (qv 1 Gw.nd Tq) (zu (jJ PassesOwn.never rfl (YA rfl Z.B.Yu (zh 0)) (gC 2 3 rfl Gw.nd) (zu (jJ PassesOwn.never rfl (YA rfl Z.B.Yu (zh 3)) (gC 4 5 rfl Gw.nd) (zu (yS (Cu (zh 1) (zh 5) (qS (zm (zh 2) (zm (zh 4) zx)) (zA (zA zR))))) zI)) zI)) (zu (qA (zh 1)) zI)))
def LY (Z:Zz K h mg):zO P w K mg base 1 "fits" 2 Ji:=zO.yU (gM Z Z.T.zea YN λf c A o s H E r=>zu (qv 2 YN.nd (jf Z.B.jd (qE (zh 1)))) (zu (jJ PassesOwn.never rfl (jD rfl Z.B.jn (zh 2)) (qy 3 YN.nd) (zu (jJ PassesOwn.never rfl (jD rfl Z.B.jn (zh 2)) (qy 4 YN.nd) (zu (Q2 5 (N:=["by_kind","i","j"]) 1 [3,4] YN.nd rfl (cps (by kernel_rfl)) (by kernel_rfl) (j4 (ZC (zh 0) (ZF (zh 2)) ZH)) (λ_ _ _=>⟨qy 0 (jb (by kernel_rfl)),jl,ji (qB (qB (zh 0) (zh 1)) (zh 2))⟩)) (zu (Q2 6 (N:=["by_kind","weight","i","j"]) 2 [3,4] YN.nd rfl (cps (by kernel_rfl)) (by kernel_rfl) (Ti rfl Z.B.SK (zh 0) (zh 1)) (λ_ _ _=>⟨gC 0 1 rfl (jb (by kernel_rfl)),jl,ji (yX (qB (qB (zh 0) (zh 2)) (zh 3)) (zh 1))⟩)) (zu (jQ (Q8 (Tf (gE (kR (iH rfl Z.B.zfu (qE (zh 5))))) (UP (yh (wK r) (yX (qB (zh 1) (zh 3)) (qB (zh 1) (zh 4))) (Ts rfl Z.B.SH (qE (zh 6))))))) (zu (qA yq) zI) zI) zI)))) zI)) (zu (qA yq) zI)))
def FZ (Z:Zz K h mg):zO P w K mg base 1 "_law_cell_at" 2 Gv:=gM Z Z.T.F5 FW λf c A o s H E r=>zu (jQ (yh WX (zh 1) (jf Z.B.jd (qE (zh 0)))) (zu (qA (qB (zh 0) (zh 1))) zI) zI) (zu (qA zE) zI)
def wC (Z:Zz K h mg):zO P w K mg base 1 "_law_take" 2 ye:=zO.yU (gM Z Z.T.Cd GC λf c A o s H E r=>zu (jQ (kR (qB (zh 0) zE)) (zu (qv 2 GC.nd (gF (qB (zh 0) zE) (zh 1))) (zu (Wk (Q6 (qB (zh 0) zE) (zh 1)) (zh 0) zE) (zu (qA (zh 2)) zI))) zI) (zu (Wk (gF (jc (yX (qB (zh 0) zE) zE) zE) zE) (zh 0) zE) (zu (qv 3 GC.nd (gF (jc (jc (yX (qB (zh 0) zE) (qB (zh 0) zE)) (yX zE (qB (zh 0) zE))) zE) zE)) (zu (qv 3 GC.nd (gF (jc (yX (zh 3) (zh 3)) (yX zE (zh 3))) zE)) (zu (qA (gF (Q6 (zh 3) zE) (zh 1))) zI)))))
def Jy (Z:Zz K h mg):zO P w K mg base 1 "_law_alike" 1 ZZ:=zO.iso (gM Z Z.T.Dp EA λf c A o s H E r=>zu (qA (yn Z.B.jT (yB (jK (N:=["_law_a","_law_many"]) 1 [0] (jD rfl Z.B.jn (zh 0)) (λ_ _ _=>⟨qy 0 (jb (by kernel_rfl)),jl,ji (yn Z.B.jT (yB (jK (N:=["_law_b","_law_a"]) 1 [0] (jD rfl Z.B.jn (zh 1)) (λ_ _ _=>⟨qy 0 (jb (by kernel_rfl)),jl,ji (UB Z.B.WE (wq (wK r) (zh 1) (zh 0)))⟩))))⟩))))) zI)
def O1 (Z:Zz K h mg):zO P w K mg base 1 "_law_ring" 1 K0:=zO.iso (gM Z Z.T.Cc Dk λf c A o s H E r=>zu (qA (yn Z.B.jT (yB (jK (N:=["_law_a","_law_many"]) 1 [0] (jD rfl Z.B.jn (zh 0)) (λ_ _ _=>⟨qy 0 (jb (by kernel_rfl)),jl,ji (yn Z.B.jT (yB (jK (N:=["_law_b","_law_a","_law_many"]) 1 [0,1] (jD rfl Z.B.jn (zh 1)) (λ_ _ _=>⟨qy 0 (jb (by kernel_rfl)),jl,ji (N8 rfl Z.B.ID (gF (Z5 (zh 1) (zh 0)) (zh 2)) (gF (Z5 (zh 0) (zh 1)) (zh 2)))⟩))))⟩))))) zI)
def EI (Z:Zz K h mg):zO P w K mg base 1 "_law_blocks" 2 Uh:=zO.iso (gM Z Z.T.EO KI λf c A o s H E r=>zu (qv 2 KI.nd (qY zx zR)) (zu (jJ PassesOwn.never rfl (jD rfl Z.B.jn (yX (zh 0) (zh 1))) (qy 3 KI.nd) (zu (qv 4 KI.nd (qY zx zR)) (zu (jJ PassesOwn.never rfl (jD rfl Z.B.jn (yX (zh 0) (zh 1))) (qy 5 KI.nd) (zu (yS (wH (zh 4) (jc (UB Z.B.WE (wq (wK r) (zh 3) (zh 5))) (UB Z.B.WE (ZE (wq (wK r) (Q6 (zh 3) (zh 1)) (Q6 (zh 5) (zh 1))) (Z3 (wq Ha (zh 1) zE))))))) zI)) (zu (yS (wH (zh 2) (yn Z.B.jT (qE (zh 4))))) zI)))) (zu (qA (yn Z.B.jT (qE (zh 2)))) zI)))
def Eo (Z:Zz K h mg):zO P w K mg base 1 "_law_unlike" 1 Uc:=zO.iso (gM Z Z.T.De V1 λf c A o s H E r=>zu (qv 1 V1.nd (qY zx zR)) (zu (jJ PassesOwn.never rfl (jD rfl Z.B.jn (Xd zE (zh 0))) (qy 2 V1.nd) (zu (yS (wH (zh 1) (yn Z.B.jT (yB (jK (N:=["_law_b","_law_many","_law_a"]) 1 [0,2] (jD rfl Z.B.jn (Xd zE (zh 0))) (λ_ _ _=>⟨qy 0 (jb (by kernel_rfl)),jl,ji (Nd (gB (jK (N:=["_law_at","_law_b","_law_a"]) 1 [0,2] (jD rfl Z.B.jn (zh 1)) (λ_ _ _=>⟨qy 0 (jb (by kernel_rfl)),jl,ji (lR (lS (M4 (zh 2) (zh 1)) (zh 0)) zE)⟩))) zE)⟩)))))) zI)) (zu (qA (yn Z.B.jT (qE (zh 1)))) zI)))
def Pw (Z:Zz K h mg):zO P w K mg base 1 "_law_each_own" 1 KG:=zO.iso (gM Z Z.T.FV FK λf c A o s H E r=>zu (qA (yn Z.B.jT (yB (jK (N:=["_law_a","_law_many"]) 1 [0] (jD rfl Z.B.jn (Xd zE (zh 0))) (λ_ _ _=>⟨qy 0 (jb (by kernel_rfl)),jl,ji (yn Z.B.jT (yB (jK (N:=["_law_b","_law_a"]) 1 [0] (jD rfl Z.B.jn (Xd zE (zh 1))) (λ_ _ _=>⟨qy 0 (jb (by kernel_rfl)),jl,ji (M4 (zh 1) (zh 0))⟩))))⟩))))) zI)
def DP (Z:Zz K h mg):zO P w K mg base 1 "_law_pairs" 1 Ul:=zO.iso (gM Z Z.T.Ds KS λf c A o s H E r=>zu (qv 1 KS.nd (qY zx zR)) (zu (jJ PassesOwn.never rfl (jD rfl Z.B.jn (zh 0)) (qy 2 KS.nd) (zu (yS (Na (zh 1) (gB (jK (N:=["_law_b","_law_a"]) 1 [2] (G6 rfl Z.B.jn (jc (zh 2) zE) (zh 0)) (λ_ _ _=>⟨qy 0 (jb (by kernel_rfl)),jl,ji (qS (zm (zh 1) (zm (zh 0) zx)) (zA (zA zR)))⟩))))) zI)) (zu (qv 3 KS.nd (qY zx zR)) (zu (jJ PassesOwn.never rfl (j4 (zh 1)) (qy 4 KS.nd) (zu (yS (wH (zh 3) (yn Z.B.jT (yB (jK (N:=["_law_other","_law_one"]) 1 [4] (j4 (zh 1)) (λ_ _ _=>⟨qy 0 (jb (by kernel_rfl)),jl,ji (Z5 zE (CF rfl Z.B.jd Z.B.zfx (jc (zh 1) (zh 0))))⟩)))))) zI)) (zu (qA (yn Z.B.jT (yB (jK (N:=["_law_row"]) 1 [] (j4 (zh 3)) (λ_ _ _=>⟨qy 0 (jb (by kernel_rfl)),jl,ji (yn Z.B.jT (yB (jK (N:=["_law_kind"]) 1 [] (j4 (zh 0)) (λ_ _ _=>⟨qy 0 (jb (by kernel_rfl)),jl,ji (qB (qY (zm zE (zm zE (zm zE zx))) (zA (zA (zA zR)))) (zh 0))⟩))))⟩))))) zI)))))
def Jz (Z:Zz K h mg):zO P w K mg base 1 "_law_kinds" 1 wV:=zO.iso (gM Z Z.T.Dy E4 λf c A o s H E r=>zu (qA (jc (YH rfl Z.B.JP (yB (jK (N:=["_law_row"]) 1 [] (j4 (zh 0)) (λ_ _ _=>⟨qy 0 (jb (by kernel_rfl)),jl,ji (YH rfl Z.B.JP (qE (zh 0)))⟩)))) zE)) zI)
def DT (Z:Zz K h mg):zO P w K mg base 1 "_law_named" 3 GD:=gM Z Z.T.DU EF λf c A o s H E r=>zu (qA (yn Z.B.jT (yB (jK (N:=["_law_a","_law_table","_law_order","_law_names"]) 1 [0,1,2] (j4 (zh 1)) (λ_ _ _=>⟨qy 0 (jb (by kernel_rfl)),jl,ji (yn Z.B.jT (yB (jK (N:=["_law_b","_law_a","_law_table","_law_names"]) 1 [0,1,3] (j4 (zh 2)) (λ_ _ _=>⟨qy 0 (jb (by kernel_rfl)),jl,ji (qB (zh 3) (qB (qB (zh 2) (zh 1)) (zh 0)))⟩))))⟩))))) zI
def DZ (Z:Zz K h mg):zO P w K mg base 1 "_law_whole" 1 KW:=zO.iso (gM Z Z.T.DH E3 λf c A o s H E r=>zu (qA (ZE (gK .int Z.B.jP Z.B.WE (by rfl) (zh 0)) (Z3 (MO (gK .bl Z.B.jP Z.B.XG (by rfl) (zh 0)))))) zI)
def O2 (Z:Zz K h mg):zO P w K mg base 2 "is_wholes" 2 g8:=gM Z Z.T.Ck DV λf c A o s H E r=>zu (qA (ZE (gK .tup Z.B.jP Z.B.jT (by rfl) (zh 0)) (ZE (wq (yZ r) (jf Z.B.jd (qE (zh 0))) (zh 1)) (Z3 (YJ rfl Z.B.Y2 (yB (jK (N:=["part"]) 1 [] (j4 (zh 0)) (λ_ _ _=>⟨qy 0 (jb (by kernel_rfl)),jl,ji (qb (CZ Z).up r (zm (zh 0) zx))⟩)))))))) zI
def V2 (Z:Zz K h mg):zO P w K mg base 2 "count_shares" 3 Q0:=zO.iso (gM Z Z.T.Ec Gs λf c A o s H E r=>zu (qv 3 Gs.nd (qb (KP Z).up r (zm (zh 0) zx))) (zu (Q2 4 (N:=["kind","many"]) 1 [3] Gs.nd rfl (cps (by kernel_rfl)) (by kernel_rfl) (jD rfl Z.B.jn (zh 3)) (λ_ _ _=>⟨qy 0 (jb (by kernel_rfl)),jl,ji (yX (qY (zm zE zx) (zA zR)) (zh 1))⟩)) (zu (jJ PassesOwn.never rfl (Ti rfl Z.B.SK (qB (zh 0) (zh 1)) (qB (zh 0) (zh 2))) (gC 5 6 rfl Gs.nd) (zu (iP (qB (zh 4) (zh 5)) (zh 6) zE) zI)) (zu (qA (yn Z.B.jT (yB (jK (N:=["row"]) 1 [] (j4 (zh 4)) (λ_ _ _=>⟨qy 0 (jb (by kernel_rfl)),jl,ji (yn Z.B.jT (qE (zh 0)))⟩))))) zI))))
def Ez (Z:Zz K h mg):zO P w K mg base 2 "count_sizes" 1 KR:=zO.iso (gM Z Z.T.EJ Eg λf c A o s H E r=>zu (qA (gB (jK (N:=["kind","table"]) 1 [0] (jD rfl Z.B.jn (qb (KP Z).up r (zm (zh 0) zx))) (λ_ _ _=>⟨qy 0 (jb (by kernel_rfl)),jl,ji (NA (qB (zh 1) zE) (zh 0))⟩)))) zI)
def D4 (Z:Zz K h mg):zO P w K mg base 2 "_law_state" 2 Ys:=gM Z Z.T.Dn P7 λf c A o s H E r=>zu (qv 2 P7.nd (qb (FZ Z).up r (zm (zh 0) (zm (zh 1) zx)))) (zu (jQ (yh fM (zh 2) (U1 zE zE)) (zu (qA (qY (zm (Z5 (zh 2) (U1 zE zE)) (zm yq zx)) (zA (zA zR)))) zI) zI) (zu (qA (qY (zm (gF (zh 2) zE) (zm yq zx)) (zA (zA zR)))) zI))
def E9 (Z:Zz K h mg):zO P w K mg base 2 "_law_beside" 2 V8:=zO.iso (gM Z Z.T.Dg Ym λf c A o s H E r=>zu (M0 2 3 rfl Ym.nd (qb (Jz Z).up r (zm (zh 1) zx)) (qY zx zR)) (zu (jJ PassesOwn.never rfl (jD rfl Z.B.jn (yX (jf Z.B.jd (qE (zh 0))) (jf Z.B.jd (qE (zh 1))))) (qy 4 Ym.nd) (zu (qv 5 Ym.nd (qY zx zR)) (zu (jJ PassesOwn.never rfl (jD rfl Z.B.jn (yX (jf Z.B.jd (qE (zh 0))) (jf Z.B.jd (qE (zh 1))))) (qy 6 Ym.nd) (zu (qv 7 Ym.nd (qB (qB (zh 0) (Q6 (zh 4) (jf Z.B.jd (qE (zh 1))))) (Q6 (zh 6) (jf Z.B.jd (qE (zh 1)))))) (zu (yS (wH (zh 5) (jc (yX (zh 7) (zh 2)) (qB (qB (zh 1) (gF (zh 4) (jf Z.B.jd (qE (zh 1))))) (gF (zh 6) (jf Z.B.jd (qE (zh 1)))))))) zI))) (zu (yS (wH (zh 3) (yn Z.B.jT (qE (zh 5))))) zI)))) (zu (qA (yn Z.B.jT (qE (zh 3)))) zI)))
def OI (Z:Zz K h mg):zO P w K mg base 2 "_law_small" 1 KY:=zO.yU (gM Z Z.T.Dq PX λf c A o s H E r=>zu (qv 1 PX.nd (qb (wC Z).up r (zm (zh 0) (zm zE zx)))) (zu (qA (qB (qY (zm (qb (Jy Z).up r (zm zE zx)) (zm (qb (Jy Z).up r (zm zE zx)) (zm (qb (O1 Z).up r (zm zE zx)) (zm (qb (Jy Z).up r (zm zE zx)) (zm (qb (Pw Z).up r (zm zE zx)) zx))))) (zA (zA (zA (zA (zA zR)))))) (zh 1))) zI))
def Eu (Z:Zz K h mg):zO P w K mg base 2 "_law_within" 2 Ug:=zO.iso (gM Z Z.T.Dd Yn λf c A o s H E r=>zu (M0 2 3 rfl Yn.nd (Z5 (qb (Jz Z).up r (zm (zh 1) zx)) zE) (qY zx zR)) (zu (jJ PassesOwn.never rfl (jD rfl Z.B.jn (yX (jf Z.B.jd (qE (zh 0))) (jf Z.B.jd (qE (zh 1))))) (qy 4 Yn.nd) (zu (qv 5 Yn.nd (qY zx zR)) (zu (jJ PassesOwn.never rfl (jD rfl Z.B.jn (yX (jf Z.B.jd (qE (zh 0))) (jf Z.B.jd (qE (zh 1))))) (qy 6 Yn.nd) (zu (qv 7 Yn.nd (qB (qB (zh 0) (Q6 (zh 4) (jf Z.B.jd (qE (zh 1))))) (Q6 (zh 6) (jf Z.B.jd (qE (zh 1)))))) (zu (yS (wH (zh 5) (iK (yh Ha (zh 7) zE) (jc (zh 7) (zh 2)) (qB (qB (zh 1) (gF (zh 4) (jf Z.B.jd (qE (zh 1))))) (gF (zh 6) (jf Z.B.jd (qE (zh 1)))))))) zI))) (zu (yS (wH (zh 3) (yn Z.B.jT (qE (zh 5))))) zI)))) (zu (qA (yn Z.B.jT (qE (zh 3)))) zI)))
def OD (Z:Zz K h mg):zO P w K mg base 2 "_law_mixed" 2 Jx:=zO.yU (gM Z Z.T.D1 V9 λf c A o s H E r=>zu (qv 2 V9.nd (Cq rfl Z.B.JI Z.B.jn (zh 1))) (zu (qv 3 V9.nd (qY zx zR)) (zu (Bt 1000 PassesOwn.never (yh (wK r) (zh 2) (qY zx zR)) (zu (yS (wH (zh 3) (BZ (zh 2) (qb (wC Z).up r (zm (zh 0) (zm (jf Z.B.jd (qE (zh 2))) zx)))))) zI)) (zu (qA (yn Z.B.jT (qE (zh 3)))) zI))))
def EW (Z:Zz K h mg):zO P w K mg base 2 "_law_shares" 3 GA:=gM Z Z.T.EY Yl λf c A o s H E r=>zu (qv 3 Yl.nd (qb (Jz Z).up r (zm (zh 0) zx))) (zu (qv 4 Yl.nd (qY zx zR)) (zu (jJ PassesOwn.never rfl (jD rfl Z.B.jn (zh 3)) (qy 5 Yl.nd) (zu (qv 6 Yl.nd (qY zx zR)) (zu (jJ PassesOwn.never rfl (jD rfl Z.B.jn (zh 3)) (qy 7 Yl.nd) (zu (yS (wH (zh 6) (Nd (gB (jK (N:=["_law_c","_law_table","_law_a","_law_b","_law_i","_law_j"]) 1 [0,1,2,5,7] (jD rfl Z.B.jn (jf Z.B.jd (qE (zh 0)))) (λ_ _ _=>⟨qy 0 (jb (by kernel_rfl)),jl,ji (ZE (wq (yZ r) (qB (qB (zh 1) (zh 2)) (zh 0)) (zh 4)) (Z3 (wq (yZ r) (qB (qB (zh 1) (zh 3)) (zh 0)) (zh 5))))⟩))) yq))) zI)) (zu (yS (wH (zh 4) (zh 6))) zI)))) (zu (qA (zh 4)) zI)))
def OH (Z:Zz K h mg):zO P w K mg base 2 "_law_sizes" 1 Qt:=zO.iso (gM Z Z.T.DO El λf c A o s H E r=>zu (qA (gB (jK (N:=["_law_kind","_law_table"]) 1 [0] (jD rfl Z.B.jn (qb (Jz Z).up r (zm (zh 0) zx))) (λ_ _ _=>⟨qy 0 (jb (by kernel_rfl)),jl,ji (NA (qB (zh 1) zE) (zh 0))⟩)))) zI)
def Ff (Z:Zz K h mg):zO P w K mg base 2 "_law_bent_weights" 2 ZY:=gM Z Z.T.Fj Jt λf c A o s H E r=>zu (qv 2 Jt.nd (qb (wC Z).up r (zm (zh 0) (zm (jc (jf Z.B.jd (qE (zh 1))) zE) zx)))) (zu (qv 3 Jt.nd (qB (qY (zm zE (zm zE (zm (Xl zE) (zm zE (zm yq (zm Jc (zm Xi (zm (qS (zm zE zx) (zA zR)) (zm (U1 zE zE) (zm yq zx)))))))))) (zA (zA (zA (zA (zA (zA (zA (zA (zA (zA zR))))))))))) (qb (wC Z).up r (zm (zh 0) (zm zE zx))))) (zu (qv 4 Jt.nd (jc (UL Z.B.JI (qE (zh 1))) (qY (zm zE zx) (zA zR)))) (zu (Wk (Z5 zE (qB (zh 4) (zh 2))) (zh 4) (zh 2)) (zu (qv 5 Jt.nd (qY (zm (jc (jc (ZC (zh 1) ZH (ZF (zh 2))) (qS (zm (zh 3) zx) (zA zR))) (ZC (zh 1) (ZF (jc (zh 2) zE)) ZH)) (zm (jc (jc (ZC (zh 1) ZH (ZF (zh 2))) (qS (zm (zh 3) zx) (zA zR))) (ZC (zh 1) (ZF (zh 2)) ZH)) zx)) (zA (zA zR)))) (zu (qv 5 Jt.nd (jc (zh 5) (qY (zm (jc (ZC (zh 1) ZH (ZF (zh 2))) (ZC (zh 1) (ZF (jc (zh 2) zE)) ZH)) (zm (UL Z.B.JI (qE (zh 1))) (zm (lQ (zh 1) (Xl zE)) (zm (jc (ZC (zh 1) (ZF (zh 2)) ZH) (ZC (zh 1) ZH (ZF (zh 2)))) zx)))) (zA (zA (zA (zA zR))))))) (zu (qv 5 Jt.nd (jc (zh 5) (qY (zm Jc (zm Tq (zm zE (zm (qS (zm (zh 1) zx) (zA zR)) (zm (qS zx zR) zx))))) (zA (zA (zA (zA (zA zR)))))))) (zu (qA (qB (jc (zh 5) (qY (zm (yn Z.B.jT (qE (ZC (zh 4) ZH (ZF (jf Z.B.jd (qE (zh 1))))))) zx) (zA zR))) (qb (wC Z).up r (zm (zh 0) (zm zE zx))))) zI)))))))
def FO (Z:Zz K h mg):zO P w K mg base 2 "_law_bad_table" 1 Yj:=gM Z Z.T.FR VN λf c A o s H E r=>zu (qv 1 VN.nd (qY (zm Jc (zm zE (zm (qS zx zR) (zm (qS (zm (qS (zm zE zx) (zA zR)) zx) (zA zR)) (zm (qS (zm (qS (zm zE (zm zE zx)) (zA (zA zR))) (zm (qS (zm zE (zm zE zx)) (zA (zA zR))) (zm (qS (zm zE (zm zE zx)) (zA (zA zR))) zx))) (zA (zA (zA zR)))) (zm (qS (zm (qS (zm zE (zm zE zx)) (zA (zA zR))) (zm (qS (zm zE (zm zE zx)) (zA (zA zR))) zx)) (zA (zA zR))) (zm (qS (zm (qS (zm zE (zm zE zx)) (zA (zA zR))) (zm (qS (zm zE (zm zE zx)) (zA (zA zR))) zx)) (zA (zA zR))) (zm (qY (zm (qS (zm zE (zm zE zx)) (zA (zA zR))) (zm (qS (zm zE (zm zE zx)) (zA (zA zR))) zx)) (zA (zA zR))) zx)))))))) (zA (zA (zA (zA (zA (zA (zA (zA zR)))))))))) (zu (qv 1 VN.nd (jc (zh 1) (qY (zm (qS (zm (qS (zm zE (zm zE zx)) (zA (zA zR))) (zm (qS (zm zE (zm zE zx)) (zA (zA zR))) zx)) (zA (zA zR))) (zm (qS (zm (qS (zm zE (zm yq zx)) (zA (zA zR))) (zm (qS (zm yq (zm zE zx)) (zA (zA zR))) zx)) (zA (zA zR))) (zm (qS (zm (qS (zm zE (zm zE zx)) (zA (zA zR))) (zm (qY (zm zE (zm zE zx)) (zA (zA zR))) zx)) (zA (zA zR))) (zm (qS (zm (qS (zm zE (zm zE zx)) (zA (zA zR))) zx) (zA zR)) (zm Xi (zm Tq (zm (NU (qS (zm (NU (qS (zm zE zx) (zA zR)) zE) zx) (zA zR)) zE) zx))))))) (zA (zA (zA (zA (zA (zA (zA zR)))))))))) (zu (qA (qB (zh 1) (qb (wC Z).up r (zm (zh 0) (zm zE zx))))) zI))
def E1 (Z:Zz K h mg):zO P w K mg base 2 "_law_broken" 1 KQ:=zO.yU (gM Z Z.T.ED KN λf c A o s H E r=>zu (qv 1 KN.nd (jc zE (qb (wC Z).up r (zm (zh 0) (zm zE zx))))) (zu (Q2 2 (N:=["_law_row"]) 1 [] KN.nd rfl (cps (by kernel_rfl)) (by kernel_rfl) (j4 (qb (Jy Z).up r (zm (zh 1) zx))) (λ_ _ _=>⟨qy 0 (jb (by kernel_rfl)),jl,ji (UL Z.B.JI (qE (zh 0)))⟩)) (zu (qv 3 KN.nd (qb (wC Z).up r (zm (zh 0) (zm (zh 1) zx)))) (zu (qv 4 KN.nd (gF (jc (jc (zh 3) zE) (qb (wC Z).up r (zm (zh 0) (zm (Z5 (zh 1) zE) zx)))) (zh 1))) (zu (Wk zE (qB (zh 2) (zh 3)) (zh 4)) (zu (Wk zE (qB (zh 2) (zh 4)) (zh 3)) (zu (qA (yn Z.B.jT (yB (jK (N:=["_law_row"]) 1 [] (j4 (zh 2)) (λ_ _ _=>⟨qy 0 (jb (by kernel_rfl)),jl,ji (yn Z.B.jT (qE (zh 0)))⟩))))) zI)))))))
def FH (Z:Zz K h mg):zO P w K mg base 3 "is_wholes_below" 3 Qp:=gM Z Z.T.Fz Fy λf c A o s H E r=>zu (qA (ZE (qb (O2 Z).up r (zm (zh 0) (zm (zh 1) zx))) (Z3 (YJ rfl Z.B.Y2 (yB (jK (N:=["part","limit"]) 1 [2] (j4 (zh 0)) (λ_ _ _=>⟨qy 0 (jb (by kernel_rfl)),jl,ji (iI Rl WX zE (zh 0) (zh 1))⟩))))))) zI
def Ob (Z:Zz K h mg):zO P w K mg base 3 "kind_shares" 1 Yo:=zO.iso (gM Z Z.T.E8 V3 λf c A o s H E r=>zu (qv 1 V3.nd (qb (Of Z).up r (zm (zh 0) zx))) (zu (Q2 2 (N:=["kind","firsts"]) 1 [1] V3.nd rfl (cps (by kernel_rfl)) (by kernel_rfl) (jD rfl Z.B.jn (qb (KP Z).up r (zm (zh 0) zx))) (λ_ _ _=>⟨qy 0 (jb (by kernel_rfl)),jl,ji (BI r (zh 1) (zh 0))⟩)) (zu (qA (gB (jK (N:=["a","b","table"]) 2 [0] (j4 (zh 2)) (λ_ _ _=>⟨gC 0 1 rfl (jb (by kernel_rfl)),jl,ji (qb (V2 Z).up r (zm (zh 2) (zm (zh 0) (zm (zh 1) zx))))⟩)))) zI)))
def F8 (Z:Zz K h mg):zO P w K mg base 3 "search_break" 1 KH:=zO.iso (gM Z Z.T.F0 KD λf c A o s H E r=>zu (jJ PassesOwn.never rfl (BN (qb (Of Z).up r (zm (zh 0) zx))) (BK 1 2 3 rfl KD.nd) (zu (qv 4 KD.nd (qb (V2 Z).up r (zm (zh 0) (zm (zh 2) (zm (zh 3) zx))))) (zu (jJ PassesOwn.never rfl (YA rfl Z.B.Yu (zh 0)) (gC 5 6 rfl KD.nd) (zu (jJ PassesOwn.never rfl (YA rfl Z.B.Yu (zh 6)) (gC 7 8 rfl KD.nd) (zu (jQ (Q8 (Tf (yh (yZ r) (zh 8) (zh 1)) (UP (yh (wK r) (qb (V2 Z).up r (zm (zh 0) (zm (zh 5) (zm (zh 7) zx)))) (zh 4))))) (zu (qA (qS (zm (zh 2) (zm (zh 3) (zm (zh 5) (zm (zh 7) zx)))) (zA (zA (zA (zA zR)))))) zI) zI) zI)) zI)) zI))) (zu (qA Jc) zI))
def Fg (Z:Zz K h mg):zO P w K mg base 3 "_law_turned_about" 2 Yg:=zO.yU (gM Z Z.T.Fh VI λf c A o s H E r=>zu (qv 2 VI.nd (qb (Jz Z).up r (zm (zh 1) zx))) (zu (qv 3 VI.nd (jc (qY (zm zE zx) (zA zR)) (gB (jK (N:=["_law_name"]) 1 [] (j4 (qb (OD Z).up r (zm (zh 0) (zm (Z5 (zh 2) zE) zx)))) (λ_ _ _=>⟨qy 0 (jb (by kernel_rfl)),jl,ji (jc zE (zh 0))⟩))))) (zu (qA (qb (DT Z).up r (zm (zh 1) (zm (qb (OD Z).up r (zm (zh 0) (zm (jf Z.B.jd (qE (zh 1))) zx))) (zm (zh 3) zx))))) zI)))
def PL (Z:Zz K h mg):zO P w K mg base 3 "_law_numbers" 1 Gu:=gM Z Z.T.F2 KC λf c A o s H E r=>zu (qv 1 KC.nd (qY zx zR)) (zu (jJ PassesOwn.never rfl (jD rfl Z.B.jn (qb (Jz Z).up r (zm (zh 0) zx))) (qy 2 KC.nd) (zu (jJ PassesOwn.never rfl (jD rfl Z.B.jn (jf Z.B.jd (qE (zh 0)))) (qy 3 KC.nd) (zu (jJ PassesOwn.never rfl (jD rfl Z.B.jn (jf Z.B.jd (qE (zh 0)))) (qy 4 KC.nd) (zu (jQ (Q8 (Tf (yh (yZ r) (jf Z.B.jd (qE (zh 1))) (zh 2)) (UP (yh (yZ r) (qB (qB (zh 0) (zh 3)) (zh 4)) (zh 2))))) (zu (yS (wH (zh 1) (qb (EW Z).up r (zm (zh 0) (zm (zh 3) (zm (zh 4) zx)))))) zI) zI) zI)) zI)) zI)) (zu (qA (zh 1)) zI))
def CH (Z:Zz K h mg):zO P w K mg base 4 "is_table" 1 wW:=gM Z Z.T.Cz OT λf c A o s H E r=>zu (jQ (Q8 (Wu (gE (kR (gK .tup Z.B.jP Z.B.jT (by rfl) (zh 0)))) (Wh (gE (iQ Rl Rl zE (jf Z.B.jd (qE (zh 0))) (AZ rfl Z.B.Dc.choose_spec)))))) (zu (qA yq) zI) zI) (zu (qv 1 OT.nd (jf Z.B.jd (qE (zh 0)))) (zu (jQ (gE (kR (YJ rfl Z.B.Y2 (yB (jK (N:=["row","many"]) 1 [1] (j4 (zh 0)) (λ_ _ _=>⟨qy 0 (jb (by kernel_rfl)),jl,ji (qb (FH Z).up r (zm (zh 0) (zm (zh 1) (zm (zh 1) zx))))⟩)))))) (zu (qA yq) zI) zI) (zu (qA (ZE (qb (BG Z).up r (zm (zh 0) zx)) (Z3 (qb (Fd Z).up r (zm (zh 0) zx))))) zI)))
def Fp (Z:Zz K h mg):zO P w K mg base 4 "is_weights_tuple" 2 Gk:=gM Z Z.T.Ft Fe λf c A o s H E r=>zu (jQ (gE (kR (qb (O2 Z).up r (zm (zh 1) (zm (qb (KP Z).up r (zm (zh 0) zx)) zx))))) (zu (qA yq) zI) zI) (zu (qA (ZE (wq (yZ r) (qB (zh 1) zE) zE) (Z3 (qb (LY Z).up r (zm (qb (Ob Z).up r (zm (zh 0) zx)) (zm (zh 1) zx)))))) zI)
def Pj (Z:Zz K h mg):zO P w K mg base 4 "search_weights" 1 KA:=zO.iso (gM Z Z.T.FT Yi λf c A o s H E r=>zu (qv 1 Yi.nd (qb (Ob Z).up r (zm (zh 0) zx))) (zu (qv 2 Yi.nd (qY (zm (qS (zm zE zx) (zA zR)) zx) (zA zR))) (zu (jJ PassesOwn.never rfl (j4 (ZC (qb (Ez Z).up r (zm (zh 0) zx)) (ZF zE) ZH)) (qy 3 Yi.nd) (zu (Q2 4 (N:=["start","weight","size"]) 2 [3] Yi.nd rfl (cps (by kernel_rfl)) (by kernel_rfl) (j4 (zh 2)) (λ_ _ _=>⟨qy 0 (jb (by kernel_rfl)),jl,MW (λ_ _ z=>z) rfl rfl (by intro _ h;cases h<;>rfl) (Az rfl Z.B.jn (zh 2) (Z5 (Xl (zh 2)) zE)) (qy 1 (jb (by kernel_rfl))) jl (ji (jc (zh 0) (qS (zm (zh 1) zx) (zA zR))))⟩)) (zu (Q2 2 (N:=["start","shares"]) 1 [1] Yi.nd rfl (cps (by kernel_rfl)) (by kernel_rfl) (j4 (zh 4)) (λ_ _ _=>⟨qy 0 (jb (by kernel_rfl)),UR (kR (qb (LY Z).up r (zm (zh 1) (zm (zh 0) zx)))),ji (zh 0)⟩)) zI))) (zu (qA (zh 2)) zI))))
def Ek (Z:Zz K h mg):zO P w K mg base 4 "_law_steady" 1 Jw:=zO.yU (gM Z Z.T.EK Zx λf c A o s H E r=>zu (qv 1 Zx.nd (qb (wC Z).up r (zm (zh 0) (zm zE zx)))) (zu (jQ (yh (yZ r) (zh 1) zE) (zu (qv 2 Zx.nd (qb (Jy Z).up r (zm (jc zE (qb (wC Z).up r (zm (zh 0) (zm zE zx)))) zx))) zI) (zu (jQ (yh WX (zh 1) zE) (zu (qv 2 Zx.nd (qb (O1 Z).up r (zm (jc zE (qb (wC Z).up r (zm (zh 0) (zm zE zx)))) zx))) zI) (zu (jQ (yh (yZ r) (zh 1) zE) (zu (Te (qB (qY (zm (qS (zm zE (zm zE zx)) (zA (zA zR))) (zm (qS (zm zE (zm zE zx)) (zA (zA zR))) (zm (qS (zm zE (zm zE zx)) (zA (zA zR))) (zm (qS (zm zE (zm zE zx)) (zA (zA zR))) (zm (qS (zm zE (zm zE zx)) (zA (zA zR))) (zm (qS (zm zE (zm zE zx)) (zA (zA zR))) (zm (qS (zm zE (zm zE zx)) (zA (zA zR))) zx))))))) (zA (zA (zA (zA (zA (zA (zA zR)))))))) (qb (wC Z).up r (zm (zh 0) (zm zE zx)))) (gC 3 4 rfl Zx.nd)) (zu (qv 2 Zx.nd (qb (EI Z).up r (zm (zh 3) (zm (zh 4) zx)))) zI)) (zu (jQ (yh WX (zh 1) zE) (zu (qv 2 Zx.nd (qb (Eo Z).up r (zm (jc zE (qb (wC Z).up r (zm (zh 0) (zm zE zx)))) zx))) zI) (zu (jQ (yh (yZ r) (zh 1) zE) (zu (qv 2 Zx.nd (qb (Pw Z).up r (zm (jc zE (qb (wC Z).up r (zm (zh 0) (zm zE zx)))) zx))) zI) (zu (jQ (yh (yZ r) (zh 1) zE) (zu (qv 2 Zx.nd (qb (DP Z).up r (zm zE zx))) zI) (zu (jQ (yh WX (zh 1) zE) (zu (qv 2 Zx.nd (qb (E9 Z).up r (zm (qb (Jy Z).up r (zm zE zx)) (zm (qb (OI Z).up r (zm (zh 0) zx)) zx)) (zA (zA zR)))) zI) (zu (qv 2 Zx.nd (qb (Eu Z).up r (zm (qb (Jy Z).up r (zm zE zx)) (zm (qb (OI Z).up r (zm (zh 0) zx)) zx)) (zA (zA zR)))) zI)) zI)) zI)) zI)) zI)) zI)) zI)) (zu (qA (qb (Fg Z).up r (zm (zh 0) (zm (zh 2) zx)))) zI)))
def R5 (Z:Zz K h mg):zO P w K mg base 4 "_law_are_weights" 2 Zw:=gM Z Z.T.Fq Kv λf c A o s H E r=>zu (qv 2 Kv.nd (qb (PL Z).up r (zm (zh 0) zx))) (zu (jQ (Q8 (Wu (gE (kR (gK .tup Z.B.jP Z.B.jT (by rfl) (zh 1)))) (Wh (yh (wK r) (jf Z.B.jd (qE (zh 1))) (jf Z.B.jd (qE (zh 2))))))) (zu (qA yq) zI) zI) (zu (jQ (Q8 (Wu (gE (kR (YJ rfl Z.B.Y2 (yB (jK (N:=["_law_one"]) 1 [] (j4 (zh 1)) (λ_ _ _=>⟨qy 0 (jb (by kernel_rfl)),jl,ji (qb (DZ Z).up r (zm (zh 0) zx))⟩)))))) (Wh (yh (wK r) (qB (zh 1) zE) zE)))) (zu (qA yq) zI) zI) (zu (jJ PassesOwn.never rfl (jD rfl Z.B.jn (jf Z.B.jd (qE (zh 1)))) (qy 3 Kv.nd) (zu (jJ PassesOwn.never rfl (jD rfl Z.B.jn (jf Z.B.jd (qE (zh 1)))) (qy 4 Kv.nd) (zu (qv 5 Kv.nd (Ts rfl Z.B.SH (yB (jK (N:=["_law_k","_law_thing","_law_numbers_here","_law_i","_law_j"]) 1 [1,2,3,4] (jD rfl Z.B.jn (jf Z.B.jd (qE (zh 1)))) (λ_ _ _=>⟨qy 0 (jb (by kernel_rfl)),jl,ji (yX (qB (qB (qB (zh 2) (zh 0)) (zh 3)) (zh 4)) (qB (zh 1) (zh 0)))⟩))))) (zu (jQ (yh (wK r) (yX (qB (zh 1) (zh 3)) (qB (zh 1) (zh 4))) (zh 5)) (zu (qA yq) zI) zI) zI))) zI)) (zu (qA yq) zI))))
def DA (Z:Zz K h mg):zO P w K mg base 1 "_law_same" 2 Ot:=by
 obtain⟨f,d,F,a⟩:=Z.T.GI;exact(GJ (k:=0) Z.B F (bC Z.X Z.G a) (kB (ps:=["_law_found","_law_due"]) F (bC Z.X Z.G a) (λ_ _ _ _ _ _=>W6 λ_ _=>rfl)))
def Dj (Z:Zz K h mg):zO P w K mg base 2 "_law_same" 2 Ox:=by
 obtain⟨f,d,F,a⟩:=Z.T.GI;exact(GJ (k:=1) Z.B F (bC Z.X Z.G a) (DA Z))
def Di (Z:Zz K h mg):zO P w K mg base 3 "_law_same" 2 Ow:=by
 obtain⟨f,d,F,a⟩:=Z.T.GI;exact(GJ (k:=2) Z.B F (bC Z.X Z.G a) (Dj Z))
def Cj (Z:Zz K h mg):zO P w K mg base 4 "_law_same" 2 wG:=by
 obtain⟨f,d,F,a⟩:=Z.T.GI;exact(GJ (k:=3) Z.B F (bC Z.X Z.G a) (Di Z))
def FP (Z:Zz K h mg):jL P w K mg base 5 "require_table" 1 Kz:=by
 obtain⟨f,d,F,a⟩:=Z.T.FY;exact(W0 F (bC Z.X Z.G a) FI (λ_ _ _ _ _ _=>Kk λ_=>rfl) λc A o s H E r x=>zu (jQ (M9 (gE (kR (qb (CH Z).up r (zm (zh 0) zx))))) (zu (O4 x (Z.C.exc "NoTable" (by decide +kernel)) (zm Xi zx) (zA zR)) zI) zI) (zI):jL P w K mg base 5 "require_table" 1 Kz)
def Fu (Z:Zz K h mg):zO P w K mg base 5 "_law_all_weights" 1 Ju:=zO.iso (gM Z Z.T.Fw gy λf c A o s H E r=>zu (Te (qS (zm (qb (PL Z).up r (zm (zh 0) zx)) (zm (qb (OH Z).up r (zm (zh 0) zx)) zx)) (zA (zA zR))) (gC 1 2 rfl gy.nd)) (zu (qv 3 gy.nd (qY (zm (qS (zm zE zx) (zA zR)) zx) (zA zR))) (zu (jJ PassesOwn.never rfl (G6 rfl Z.B.jn zE (jf Z.B.jd (qE (zh 2)))) (qy 4 gy.nd) (zu (qv 5 gy.nd (qY zx zR)) (zu (jJ PassesOwn.never rfl (j4 (zh 3)) (qy 6 gy.nd) (zu (yS (Na (zh 5) (gB (jK (N:=["_law_one","_law_row"]) 1 [6] (G6 rfl Z.B.jn (Z5 zE (qB (zh 2) (zh 4))) (jc (qB (zh 2) (zh 4)) zE)) (λ_ _ _=>⟨qy 0 (jb (by kernel_rfl)),jl,ji (jc (zh 1) (qS (zm (zh 0) zx) (zA zR)))⟩))))) zI)) (zu (qv 3 gy.nd (qY zx zR)) (zu (jJ PassesOwn.never rfl (j4 (zh 5)) (qy 6 gy.nd) (zu (qv 7 gy.nd yq) (zu (jJ PassesOwn.never rfl (jD rfl Z.B.jn (jc (zh 4) zE)) (qy 8 gy.nd) (zu (Q2 9 (N:=["_law_k","_law_numbers_here","_law_kind","_law_i"]) 1 [1,4,8] gy.nd rfl (cps (by kernel_rfl)) (by kernel_rfl) (G6 rfl Z.B.jn (jc (zh 4) zE) (jf Z.B.jd (qE (zh 2)))) (λ_ _ _=>⟨qy 0 (jb (by kernel_rfl)),jl,ji (qB (qB (qB (zh 1) (zh 0)) (zh 3)) (zh 2))⟩)) (zu (jQ (yh (yZ r) (YH rfl Z.B.JP (qE (jc (zh 9) (qY (zm zE zx) (zA zR))))) zE) (zu (qv 10 gy.nd (Ts rfl Z.B.SH (yB (jK (N:=["_law_k","_law_numbers_here","_law_kind","_law_row","_law_i"]) 1 [1,4,6,8] (jD rfl Z.B.jn (jc (zh 4) zE)) (λ_ _ _=>⟨qy 0 (jb (by kernel_rfl)),jl,ji (yX (qB (qB (qB (zh 1) (zh 0)) (zh 4)) (zh 2)) (qB (zh 3) (zh 0)))⟩))))) (zu (qv 7 gy.nd (ZE (zh 7) (Z3 (wq (yZ r) (yX (qB (zh 6) (zh 8)) (qB (zh 6) (zh 4))) (zh 10))))) zI)) zI) zI))) (zu (jQ (kR (zh 7)) (zu (yS (wH (zh 3) (zh 6))) zI) zI) zI)))) zI))))) (zu (qA (lT (BQ rfl Z.B.As (gB (jK (N:=["_law_row","_law_table"]) 1 [0] (j4 (zh 3)) (λ_ _ _=>⟨qy 0 (jb (by kernel_rfl)),UR (kR (qb (R5 Z).up r (zm (zh 1) (zm (zh 0) zx)))),ji (zh 0)⟩)))) (Xl zE))) zI))))
def VL (Z:Zz K h mg):jL P w K mg base 6 "require_steady" 1 wU:=by
 obtain⟨f,d,F,a⟩:=Z.T.FL;exact(W0 F (bC Z.X Z.G a) FE (λ_ _ _ _ _ _=>Kk λ_=>rfl) λc A o s H E r x=>zu (yS (K5 x (FP Z).up r (zm (zh 0) zx))) (zu (jQ (M9 (yh fX (qb (F8 Z).up r (zm (zh 0) zx)) Jc)) (zu (O4 x (Z.C.exc "NotSteady" (by decide +kernel)) (zm Xi zx) (zA zR)) zI) zI) zI):jL P w K mg base 6 "require_steady" 1 wU)
def KJ (Z:Zz K h mg):jL P w K mg base 7 "are_weights" 2 gz:=by
 obtain⟨f,d,F,a⟩:=Z.T.Et;exact(W0 F (bC Z.X Z.G a) Eb (λ_ _ _ _ _ _=>W6 λ_ _=>rfl) λc A o s H E r x=>zu (yS (K5 x (VL Z).up r (zm (zh 0) zx))) (UN (zu (qA (qb (Fp Z).up r (zm (zh 0) (zm (zh 1) zx)))) zI)):jL P w K mg base 7 "are_weights" 2 gz)
def Ew (Z:Zz K h mg):zO P w K mg base 7 "are_weights" 2 Yp:=(KJ Z).m
def VX (Z:Zz K h mg):jL P w K mg base 7 "all_weights" 1 g7:=by
 obtain⟨f,d,F,a⟩:=Z.T.P9;exact(W0 F (bC Z.X Z.G a) F4 (λ_ _ _ _ _ _=>Kk λ_=>rfl) λc A o s H E r x=>zu (yS (K5 x (VL Z).up r (zm (zh 0) zx))) (UN (zu (qA (qb (Pj Z).up r (zm (zh 0) zx))) zI)):jL P w K mg base 7 "all_weights" 1 g7)
def EX (Z:Zz K h mg):zO P w K mg base 7 "all_weights" 1 Q1:=(VX Z).m.iso
def VJ (Z:Zz K h mg):jL P w K mg base 7 "is_whole_table" 1 gZ:=by
 obtain⟨f,d,F,a⟩:=Z.T.Ph;exact(W0 F (bC Z.X Z.G a) FF (λ_ _ _ _ _ _=>Kk λ_=>rfl) λc A o s H E r x=>zu (yS (K5 x (VL Z).up r (zm (zh 0) zx))) (UN (zu (qA (wq (yZ r) (jf Z.B.jd (qE (qb (Pj Z).up r (zm (zh 0) zx)))) (qb (KP Z).up r (zm (zh 0) zx)))) zI)):jL P w K mg base 7 "is_whole_table" 1 gZ)
def FQ (Z:Zz K h mg):zO P w K mg base 7 "is_whole_table" 1 Jv:=(VJ Z).m.iso
end
end G
namespace Mi
open PySem L2
noncomputable abbrev iV (n:Int):Option W:=some (.int n)
noncomputable abbrev rO (n:Nat):Option W:=some (.ref n)
section
variable {m:Ev}
def Jd (h:m ρ A=.ok (.tup ws) A1):qu m ρ A=.ok ⟨λA i=>(zY (.tup ws) A).map λws=>ws[i]?,ws.length⟩ A1:=by
 unfold qu W5;rw[h,zP]
 rfl
def YF (h:m ρ A=.ok (.tup ws) A)(l:ws.length<=qj){g:W->W}(a:∀w∈ws,me (some w::cap.map λi=>(ρ[i]?).join) A=.ok (g w) A):
  qc 1 cap (qu m) (zG 0) (zV (.bl true)) (zU me) ρ A=.ok (ws.map g) A:=by
 have e:=gA (cap:=cap) (me:=me) (ρ:=ρ) (A:=A) (N:=ws.length) (item:=λi=>ws.getD i .non) (g:=λi=>g (ws.getD i .non)) (Jd h) rfl l
  (λi H=>by show some ws[i]? =_;rw[ae H,aa,ae H];rfl)
  (by show some ws[ws.length]? =_;rw[aD (aq _)])
  (λi H=>by
   have:ws.getD i .non=ws[i]:=by rw[aa,ae H];rfl
   rw[this];exact a _ (aJ H))
 rw[e]
 congr 1
 apply a7
 ·simp
 ·intro i c b
  have H:i<ws.length:=by simpa using b
  simp[aa,ae H]
theorem GU (p:α->Bool):∀l:List α,gG (l.map λx=>W.bl (p x))=some (l.map p)
 |[]=>rfl|x::l=>by
  show(match Ke (.bl (p x)),gG (l.map λx=>W.bl (p x)) with|some k,some K=>some (k::K)|_,_=>none)=_
  rw[GU p l];rfl
def Wm {p:α->Bool}{l:List α}(h:∀x∈l,p x=true):ZM (l.map λx=>W.bl (p x)) A=.ok (.bl true) A:=by
 show Zg (λK=>K.all id) _ A=_;unfold Zg;rw[GU];dsimp only
 have:(l.map p).all id=true:=by
  rw[all_map];exact cy.mpr λx H=>h x H
 rw[this]
theorem Z6 {f:α->W}(h:∀x,(f x).nr=true):∀l:List α,jk (l.map f)=true
 |[]=>rfl|x::l=>by
  show((f x).nr&&jk (l.map f))=true;rw[h x,Z6 h l];rfl
def wz (i j:Int)(A:Hx):qX (.int i) (.int j) A=.ok (.bl (decide (i=j))) A:=by
 show R.ok (W.bl (PyData.eqv (.int i) (.int j))) A=_;simp[PyData.eqv]
 rfl
def Ks (i j:Int)(A:Hx):jw (.int i) (.int j) A=.ok (.bl (!decide (i=j))) A:=by
 show R.ok (W.bl (!PyData.eqv (.int i) (.int j))) A=_;simp[PyData.eqv]
 rfl
def HJ (i j:Bool)(A:Hx):jw (.bl i) (.bl j) A=.ok (.bl (!(i==j))) A:=by
 cases i<;>cases j<;>rfl
end
noncomputable def zt (r:bR):W:=.tup (r.map W.int)
def zw (t:bQ):W:=.tup (t.map zt)
def YI (r:bR):(zt r).nr=true:=by
 show jk (r.map W.int)=true;exact Z6 (λ_=>rfl) r
def Qw (t:bQ):(zw t).nr=true:=by
 show jk (t.map zt)=true;exact Z6 YI t
def NH {st:W->Ex}{N:Nat}{item:Nat->W}{I:En->Prop}(t:∀i,i<N->j.at_ A i=some (some (item i)))(H:j.at_ A N=some none)
  (e:∀i,i<N->∀o,I o->∃a,st (item i) o A=.ok (.nx a) A/\I a):∀(n i:Nat)(o:En),i+n=N->I o->∃a,yL j st n i o A=.ok (.nx a) A/\I a:=by
 intro n
 induction n with
 |zero=>
  intro i o h c
  have:i=N:=by omega
  subst this;exact⟨o,Ux H,c⟩
 |succ n d=>
  intro i o h c;obtain⟨p,f,l⟩:=e i (by omega) o c
  obtain⟨b,E,g⟩:=d (i+1) p (by omega) l
  exact⟨b,(GW (t i (by omega)) f).trans E,g⟩
def Yz {m:Ev}(h:m ρ A=.ok (.tup ws) A1):w6 m ρ A=.ok (wa (.tup ws) ws.length) A1:=by
 unfold w6;rw[h,zP]
 rfl
def Y4 {w:W}(h:ws[i]? =some w):(wa (.tup ws) ws.length).at_ A i=some (some (.tup [.int i,w])):=by
 show atEnd ws i _=_;unfold atEnd;rw[h]
def Y0:(wa (.tup ws) ws.length).at_ A ws.length=some none:=by
 show atEnd ws _ _=_;unfold atEnd;rw[aD (aq _)];exact ah rfl
noncomputable def at2 (t:bQ)(a b:Nat):Int:=(t.getD a []).getD b 0
structure qz (t:bQ):Prop where
 n1:1<=t.length
 n8:t.length<=8
 sq:∀r∈t,r.length=t.length
 lo:∀r∈t,∀v∈r,0<=v/\v<(t.length:Int)
 dg:∀a b,a<t.length->b<t.length->(at2 t a b=0↔a=b)
 sy:∀a b,a<t.length->b<t.length->at2 t a b=at2 t b a
 fu:∀k:Nat,(∃v∈t.flatten,(k:Int)<v)->(k:Int)∈t.flatten
section
variable {a b:Nat}
def Wo (h:a<t.length):(t.map zt)[a]? =some (zt (t.getD a [])):=by
 rw[ar,aa,ae h];rfl
def kF (h:a<t.length):t.getD a []∈t:=by
 rw[aa,ae h];exact aJ h
def JF (h:a<t.length):zB (zw t) (.int a) A=.ok (zt (t.getD a [])) A:=by
 unfold zB;show(match gw (t.map zt) (a:Int) with|some w=>R.ok w A|none=>R.bad)=_
 rw[Xo (Wo h)]
def int_at {r:bR}(h:b<r.length):(r.map W.int)[b]? =iV (r.getD b 0):=by
 rw[ar,aa,ae h];rfl
def wZ {r:bR}(h:b<r.length):zB (zt r) (.int b) A=.ok (.int (r.getD b 0)) A:=by
 unfold zB;show(match gw (r.map W.int) (b:Int) with|some w=>R.ok w A|none=>R.bad)=_
 rw[Xo (v:=.int (r.getD b 0)) (by rw[ar,aa,ae h];rfl)]
end
section
def AB {c:Option W}(b:∀i,i<ws.length->j.at_ A i=some (some (ws.getD i .non)))(H:j.at_ A ws.length=some none)(n:∀w,me [c,some w] A=.ok w A):
  ∀(f i:Nat)(x:Option W)(g:List W),i+f=ws.length->g.length+f<=qj->∃y,jq j (zG 1) (zV (.bl true)) (zU me) f i [c,x] g A=.ok ([c,y],g++ws.drop i) A:=by
 intro f
 induction f with
 |zero=>
  intro i x g h l
  have:i=ws.length:=by omega
  subst this;refine⟨x,?_⟩;unfold jq;rw[H,drop_length,a3]
 |succ f I=>
  intro i x g h l;have a:i<ws.length:=by omega
  have E:ws.getD i .non=ws[i]:=by rw[aa,ae a];rfl
  obtain⟨y,e⟩:=I (i+1) (some ws[i]) (g++[ws[i]]) (by omega) (by rw[av,aW];omega)
  refine⟨y,?_⟩;rw[jq,b i a,E];dsimp only[zG,List.set,zV];rw[zP];dsimp only;have d:zU me [c,some ws[i]] g A=.ok ([c,some ws[i]],g++[ws[i]]) A:=by
   unfold zU;rw[n,zP,ah (by omega)]
  rw[d,zP];rw[e,aP]
  congr 3
  rw[List.singleton_append,<- List.drop_eq_getElem_cons a]
def BJ (d:∀i,i<t.length->j.at_ A i=some (some (zt (t.getD i []))))(H:j.at_ A t.length=some none):
  ∀(f i:Nat)(x y:Option W)(o:List W),i+f=t.length->o.length+(t.drop i).flatten.length<=qj->
   ∃ρ,jq j (zG 0) (zV (.bl true)) (Qa (qu (qg 0)) (zG 1) (zV (.bl true)) (zU (qg 1))) f i [x,y] o A=.ok (ρ,o++(t.drop i).flatten.map W.int) A:=by
 intro f
 induction f with
 |zero=>
  intro i x y o h l
  have:i=t.length:=by omega
  subst this;refine⟨[x,y],?_⟩;unfold jq;rw[H,drop_length];simp
 |succ f I=>
  intro i x y o h l;have a:i<t.length:=by omega
  have r:t.getD i []=t[i]:=by rw[aa,ae a];rfl
  have e:t.drop i=t[i]::t.drop (i+1):=List.drop_eq_getElem_cons a;rw[e,a6,av]at l;obtain⟨z,E⟩:=AB (A:=A) (j:=⟨λA i_1=>(zY (zt t[i]) A).map λp=>p[i_1]?,(t[i].map W.int).length⟩) (me:=qg 1) (ws:=t[i].map W.int) (c:=some (zt t[i]))
   (λk b=>by
    show some (t[i].map W.int)[k]? =_;rw[aa,ae b];rfl)
   (by show some (t[i].map W.int)[(t[i].map W.int).length]? =_;rw[aD (aq _)])
   (λw=>zp rfl) (t[i].map W.int).length 0 y o (by omega) (by rw[ag];omega)
  rw[List.drop_zero]at E;obtain⟨ρ,n⟩:=I (i+1) (some (zt t[i])) z (o++t[i].map W.int) (by omega) (by rw[av,ag];omega)
  refine⟨ρ,?_⟩;rw[jq,d i a,r];dsimp only[zG,List.set,zV];rw[zP];dsimp only;have g:Qa (qu (qg 0)) (zG 1) (zV (.bl true)) (zU (qg 1)) [some (zt t[i]),y] o A=.ok ([some (zt t[i]),z],o++t[i].map W.int) A:=by
   unfold Qa;rw[Jd (ws:=t[i].map W.int) (A1:=A) (zp (i:=0) rfl),zP];exact E
  rw[g,zP];rw[n,e,a6,aN,aP]
def lY {m:Ev}(h:m ρ A=.ok (zw t) A)(H:t.flatten.length<=qj):
  qc 2 [] (qu m) (zG 0) (zV (.bl true)) (Qa (qu (qg 0)) (zG 1) (zV (.bl true)) (zU (qg 1))) ρ A=.ok (t.flatten.map W.int) A:=by
 have n:(t.map zt).length=t.length:=ag ..;obtain⟨a,e⟩:=BJ (t:=t) (A:=A) (j:=⟨λA i=>(zY (zw t) A).map λw=>w[i]?,(t.map zt).length⟩) (λi b=>by show some (t.map zt)[i]? =_;rw[Wo b])
  (by show some (t.map zt)[t.length]? =_;rw[aD (by omega)]) t.length 0 none none [] (by omega) (by simpa using H)
 unfold qc;rw[Jd (ws:=t.map zt) h,zP];show R.bind (R.nox (jq ⟨λA i=>(zY (zw t) A).map λw=>w[i]?,(t.map zt).length⟩ _ _ _ (t.map zt).length 0 [none,none] [] A)) _=_;rw[n]at e ⊢;rw[e];simp
 rfl
end
theorem K2:∀l:bR,intsOf (l.map W.int)=some l
 |[]=>rfl|i::l=>by
  show(match intsOf (l.map W.int) with|some I=>some (i::I)|none=>none)=_
  rw[K2 l]
theorem UO:∀(l:bR)(m:Int),yD l m=m∨yD l m∈l
 |[],_=>.inl rfl|i::l,m=>by
  show yD l (if i > m then i else m)=m∨yD l (if i > m then i else m)∈i::l;rcases UO l (if i > m then i else m) with e|e
  ·by_cases h:i > m
   ·rw[ah h]at e ⊢;exact .inr (by rw[e];exact aE ..)
   ·rw[aj h]at e ⊢;exact .inl e
  ·exact .inr (aw _ e)
end Mi
namespace G
open PySem L2 Mi
def AJ (h:qz t):t.flatten.length<=64:=by
 have:∀l:bQ,(∀r∈l,r.length<=8)->l.flatten.length<=8 * l.length:=by
  intro l
  induction l with
  |nil=>intro _;simp|cons r l i=>
   intro H;have e:=H r (aE ..);have d:=i λb a=>H b (aw _ a);rw[a6,av,bF];omega
 have c:=h.n8
 have:=this t λr H=>by rw[h.sq r H];exact h.n8
 omega
noncomputable abbrev iO (n:Nat):Option W:=some (.int (n:Int))
noncomputable abbrev bO (b:Bool):Option W:=some (.bl b)
section
def lZ (h:ρ[i]? =some (some (zw t))):mQ zT (zJ (qg i)) ρ A=.ok (.int t.length) A:=by
 rw[jX (yA (w:=zw t) (A1:=A) (zp h) rfl)];unfold zT;rw[ag]
def Z2 (h:n<1000000):jH (n:Int)=true:=by
 unfold jH;simp;omega
end
def ZD {m:Ev}(h:m ρ A=.ok (.ref n) A1)(H:A1[n]? =some (.lst ws)):qu m ρ A=.ok ⟨λA i=>(zY (.ref n) A).map λws=>ws[i]?,ws.length⟩ A1:=by
 unfold qu W5;rw[h,zP];have e:zY (.ref n) A1=some ws:=by unfold zY;dsimp only;rw[H]
 rw[e]
def yT (h:A[n]? =some (.lst ws)):((zY (.ref n) A).map λws=>ws[i]?)=some ws[i]?:=by
 have e:zY (.ref n) A=some ws:=by unfold zY;dsimp only;rw[h]
 rw[e];rfl
def kM:List Int->Int
 |[]=>0|i::is=>yD is i
def U0 {r:bR}(h:r≠[]):kx (r.map W.int) A=.ok (.int (kM r)) A:=by
 unfold kx;rw[K2];cases r with
 |nil=>exact absurd rfl h|cons i I=>rfl
def G8 {r:bR}(h:r≠[]):kM r∈r:=by
 cases r with
 |nil=>exact absurd rfl h|cons i I=>
  rcases UO I i with e|e
  ·show yD I i∈_;rw[e];exact aE ..
  ·exact aw _ e
def qw (t:bQ):Int:=kM (t.map kM)+1
section
def _root_.Mi.qz.row_ne (h:qz t){r:bR}(H:r∈t):r≠[]:=λe=>by
 have a:=h.sq r H;have b:=h.n1;rw[e,List.length_nil]at a;omega
def _root_.Mi.qz.map_ne (h:qz t):t.map kM≠[]:=λe=>by
 have:=h.n1
 rw[List.map_eq_nil_iff]at e;rw[e]at this;simp at this
def kI (h:qz t):1<=qw t/\qw t<=8:=by
 obtain⟨r,H,e⟩:=cx.mp (G8 h.map_ne)
 have:=h.lo r H _ (G8 (h.row_ne H))
 have:=h.n8
 unfold qw;rw[<- e];omega
def Y7 (h:qz t){a b:Nat}(H:a<t.length)(d:b<t.length):0<=at2 t a b/\at2 t a b<8:=by
 have c:=h.sq _ (kF H)
 have:(t.getD a []).getD b 0∈t.getD a []:=by
  rw[aa (l:=t.getD a []),ae (by omega)];exact aJ _
 have e:=h.lo _ (kF H) _ this
 have:=h.n8
 unfold at2;omega
def Wx (h:q ρ A=.ok ws A1):mQ jt q ρ A=.ok (.tup ws) A1:=(jX h).trans rfl
end
end G
namespace Mi
open PySem L2
def gD {w:W}{s:Nat}(h:A[n]? =some (.lst ws))(H:ws[s]? =some w):zB (.ref n) (.int s) A=.ok w A:=by
 unfold zB;have e:zY (.ref n) A=some ws:=by unfold zY;dsimp only;rw[h]
 rw[e];dsimp only;rw[Xo H]
def jy {o u:O}(h:A[n]? =some o):(A++[u])[n]? =some o:=by
 have:=(cw.mp h).1
 rw[ai this];exact h
def qM {u:O}:(A++[u])[A.length]? =some u:=by simp
noncomputable def J3 (c:Nat->Nat->Int)(a b:Nat)(k:Int):Nat->Nat->Int:=λi j=>if i=a/\j=b then k else c i j
structure Mu (n:Nat)(μ:Nat->Nat->Int)(c:Nat)(done:Nat->Nat->Prop):Prop where
 dg:∀i,μ i i=0
 sy:∀i j,μ i j=μ j i
 dn:∀i j,i<j->j<n->done i j->1<=μ i j/\μ i j<=(c:Int)
 un:∀i j,i<j->j<n->¬done i j->μ i j=0
 fu:∀k:Nat,1<=k->k<=c->∃i j,i<n/\j<n/\μ i j=(k:Int)
noncomputable def yc (n:Nat)(a:Nat->Nat->Int):bQ:=(List.range n).map λi=>(List.range n).map (a i)
def Wi {a:Nat->Nat->Int}{j:Nat}(H:i<n)(h:j<n):at2 (yc n a) i j=a i j:=by
 unfold at2 yc;rw[aa (l:=(List.range n).map λi=>(List.range n).map (a i)),ar,aU H];show((List.range n).map (a i)).getD j 0=_;rw[aa,ar,aU h]
 rfl
def Mu.tab {c:Nat}{C:Nat->Nat->Int}{d:Nat->Nat->Prop}(h:Mu n C c d)(all:∀i j,i<j->j<n->d i j)(E:1<=n)(D:n<=8)(B:n=1∨c<n):qz (yc n C):=by
 have len:(yc n C).length=n:=by unfold yc;simp
 have val:∀i j,i<n->j<n->i≠j->1<=C i j/\C i j<=(c:Int):=λi j H f N=>by
  rcases Nat.lt_or_gt_of_ne N with q|q
  ·exact h.dn i j q f (all i j q f)
  ·rw[h.sy];exact h.dn j i q H (all j i q H)
 have mem:∀r∈yc n C,∀v∈r,∃i j,i<n/\j<n/\v=C i j:=λr g v p=>by
  unfold yc at g;obtain⟨i,H,rfl⟩:=cx.mp g;obtain⟨j,f,rfl⟩:=cx.mp p;exact⟨i,j,cn.mp H,cn.mp f,rfl⟩
 have I:∀i j,i<n->j<n->C i j∈(yc n C).flatten:=λi j H f=>List.mem_flatten.mpr ⟨_,cx.mpr ⟨i,cn.mpr H,rfl⟩,cx.mpr ⟨j,cn.mpr f,rfl⟩⟩;refine⟨by rw[len];exact E,by rw[len];exact D,λr g=>?_,λr g v p=>?_,λa b o l=>?_,λa b o l=>?_,λk A=>?_⟩
 ·rw[len]
  unfold yc at g;obtain⟨i,H,rfl⟩:=cx.mp g;simp
 ·rw[len]
  obtain⟨i,j,H,f,rfl⟩:=mem r g v p
  by_cases q:i=j
  ·subst q;rw[h.dg];omega
  ·have:=val i j H f q
   omega
 ·rw[len]at o l
  rw[Wi o l]
  constructor
  ·intro e
   by_cases q:a=b
   ·exact q
   ·have:=val a b o l q;omega
  ·intro e;subst e;exact h.dg a
 ·rw[len]at o l
  rw[Wi o l,Wi l o];exact h.sy a b
 ·obtain⟨v,p,u⟩:=A
  obtain⟨r,g,t⟩:=List.mem_flatten.mp p;obtain⟨i,j,H,f,rfl⟩:=mem r g v t
  by_cases K:k=0
  ·subst K
   have:=I 0 0 (by omega) (by omega)
   rw[h.dg]at this;exact this
  ·by_cases q:i=j
   ·subst q;rw[h.dg]at u;omega
   ·have:=val i j H f q
    obtain⟨y,J,x,w,e⟩:=h.fu k (by omega) (by omega)
    have:=I y J x w
    rw[e]at this;exact this
end Mi
namespace G
open PySem L2 Mi
def QB {i j:Int}(H:-(2 ^ 64)<i)(h:i<2 ^ 64):qG (.int i) (.int j) A=.ok (.int (i * j)) A:=by
 unfold qG;dsimp only;rw[ah];unfold Y8;rw[a8,ak,ao,ao];exact .inl ⟨H,h⟩
def JM {i j:Int}(h:0<j):kH (.int i) (.int j) A=.ok (.int (i%j)) A:=by
 unfold kH ZW;dsimp only;rw[ah];unfold X5;exact az h
def Lr {i j:Int}(h:0<j)(H:j<1152921504606846976):Zb (.int i) (.int j) A=.ok (.int (i/j)) A:=by
 unfold Zb ZW;dsimp only;rw[ah];unfold X0;rw[ak,ao,ao];exact⟨h,H⟩
def l0 {c m:Int}(h:0<m)(H:m<1000000000000000):GH [.ref 0,.int m] [.lst [.int c,.bl true]]=.ok (.int (c%m)) [.lst [.int (c/m),.bl true]]:=by
 refine ja ?_;unfold Uq;refine qx (A1:=[.lst [.int (c/m),.bl true]]) ?_;refine(ko (A1:=[.lst [.int c,.bl true]]) rfl).trans ?_;refine(zH (ρ1:=[rO 0,iV m,iV (c%m),none]) (A1:=[.lst [.int c,.bl true]]) ?_).trans ?_
 ·refine(qH (w:=.int (c%m)) (A1:=[.lst [.int c,.bl true]]) ?_).trans rfl
  exact(zM (x:=.int c) (y:=.int m) (A1:=[.lst [.int c,.bl true]]) (A2:=[.lst [.int c,.bl true]]) rfl rfl).trans (JM h)
 ·refine(zH (ρ1:=[rO 0,iV m,iV (c%m),none]) (A1:=[.lst [.int (c/m),.bl true]]) ?_).trans rfl
  have e:zi Zb (zi zB zr zZ) zq [rO 0,iV m,iV (c%m),none] [.lst [.int c,.bl true]]=.ok (.int (c/m)) [.lst [.int c,.bl true]]:=
   (zM (x:=.int c) (y:=.int m) (A1:=[.lst [.int c,.bl true]]) (A2:=[.lst [.int c,.bl true]]) rfl rfl).trans (Lr h (by omega))
  unfold gJ;rw[e,zP]
  rfl
noncomputable def Jp (c:Int):Int:=(c * 48271+29)%2147483647
noncomputable def Zl (d:Int):Int:=(d * d+39373 * d+7)%2147483629
noncomputable def ZV (e:Int):Int:=(e * e+16807 * e)%2147483587
def SY (c:Int):0<=Jp c/\Jp c<2147483647:=⟨emod_nonneg _ (by decide),bL _ (by decide)⟩
def l4 (c:Int):0<=Zl c/\Zl c<2147483629:=⟨emod_nonneg _ (by decide),bL _ (by decide)⟩
def l6 {c m:Int}(H:0<=c)(h:c<2147483647)(n:0<m)(o:m<1000000000000000):GH [.ref 0,.int m] [.lst [.int c,.bl false]]=.ok (.int (ZV (Zl (Jp c))/8%m)) [.lst [.int (Jp c),.bl false]]:=by
 have j:=SY c;refine ja ?_;unfold Uq;refine(zH (ρ1:=[rO 0,iV m,none,none]) (A1:=[.lst [.int c,.bl false]]) ((yb (A1:=[.lst [.int c,.bl false]]) rfl).trans rfl)).trans ?_;have i:zi kH (zi qk (zi qG (zi zB zr zZ) (zV (.int 48271))) (zV (.int 29))) (zV (.int 2147483647)) [rO 0,iV m,none,none] [.lst [.int c,.bl false]]=.ok (.int (Jp c)) [.lst [.int c,.bl false]]:=by
  have l:zi qG (zi zB zr zZ) (zV (.int 48271)) [rO 0,iV m,none,none] [.lst [.int c,.bl false]]=.ok (.int (c * 48271)) [.lst [.int c,.bl false]]:=
   (zM (x:=.int c) (y:=.int 48271) (A1:=[.lst [.int c,.bl false]]) (A2:=[.lst [.int c,.bl false]]) rfl rfl).trans (QB (by omega) (by omega))
  refine(zM (x:=.int (c * 48271+29)) (y:=.int 2147483647) (A1:=[.lst [.int c,.bl false]]) (A2:=[.lst [.int c,.bl false]]) ((zM l rfl).trans rfl) rfl).trans ?_;exact JM (by decide)
 refine(zH (ρ1:=[rO 0,iV m,none,none]) (A1:=[.lst [.int (Jp c),.bl false]]) ?_).trans ?_
 ·unfold gJ
  rw[i,zP]
  rfl
 generalize Jp c=d at*;have g:zi kH (zi qk (zi qk (zi qG (zi zB zr zZ) (zi zB zr zZ)) (zi qG (zV (.int 39373)) (zi zB zr zZ))) VA) (zV (.int 2147483629)) [rO 0,iV m,none,none] [.lst [.int d,.bl false]]=
   .ok (.int (Zl d)) [.lst [.int d,.bl false]]:=by
  have l:zi qG (zi zB zr zZ) (zi zB zr zZ) [rO 0,iV m,none,none] [.lst [.int d,.bl false]]=.ok (.int (d * d)) [.lst [.int d,.bl false]]:=
   (zM (x:=.int d) (y:=.int d) (A1:=[.lst [.int d,.bl false]]) (A2:=[.lst [.int d,.bl false]]) rfl rfl).trans (QB (by omega) (by omega))
  have E:zi qG (zV (.int 39373)) (zi zB zr zZ) [rO 0,iV m,none,none] [.lst [.int d,.bl false]]=.ok (.int (39373 * d)) [.lst [.int d,.bl false]]:=
   (zM (x:=.int 39373) (y:=.int d) (A1:=[.lst [.int d,.bl false]]) (A2:=[.lst [.int d,.bl false]]) rfl rfl).trans (QB (by decide) (by decide))
  have a:zi qk (zi qG (zi zB zr zZ) (zi zB zr zZ)) (zi qG (zV (.int 39373)) (zi zB zr zZ)) [rO 0,iV m,none,none] [.lst [.int d,.bl false]]=.ok (.int (d * d+39373 * d)) [.lst [.int d,.bl false]]:=
   (zM l E).trans rfl
  refine(zM (x:=.int (d * d+39373 * d+7)) (y:=.int 2147483629) (A1:=[.lst [.int d,.bl false]]) (A2:=[.lst [.int d,.bl false]]) ((zM a rfl).trans rfl) rfl).trans ?_;exact JM (by decide)
 refine(zH (qH g)).trans ?_;have B:=l4 d;generalize Zl d=e at*;have b:zi kH (zi qk (zi qG zS zS) (zi qG (zV (.int 16807)) zS)) (zV (.int 2147483587)) [rO 0,iV m,none,iV e] [.lst [.int d,.bl false]]=.ok (.int (ZV e)) [.lst [.int d,.bl false]]:=by
  have l:zi qG zS zS [rO 0,iV m,none,iV e] [.lst [.int d,.bl false]]=.ok (.int (e * e)) [.lst [.int d,.bl false]]:=
   (zM (x:=.int e) (y:=.int e) (A1:=[.lst [.int d,.bl false]]) (A2:=[.lst [.int d,.bl false]]) rfl rfl).trans (QB (by omega) (by omega))
  have E:zi qG (zV (.int 16807)) zS [rO 0,iV m,none,iV e] [.lst [.int d,.bl false]]=.ok (.int (16807 * e)) [.lst [.int d,.bl false]]:=
   (zM (x:=.int 16807) (y:=.int e) (A1:=[.lst [.int d,.bl false]]) (A2:=[.lst [.int d,.bl false]]) rfl rfl).trans (QB (by decide) (by decide))
  refine(zM (x:=.int (e * e+16807 * e)) (y:=.int 2147483587) (A1:=[.lst [.int d,.bl false]]) (A2:=[.lst [.int d,.bl false]]) ((zM l E).trans rfl) rfl).trans ?_;exact JM (by decide)
 refine(zH (qH b)).trans ?_;generalize ZV e=f at*;refine qx (qT ?_);refine(zM (x:=.int (f/8)) (y:=.int m) (A1:=[.lst [.int d,.bl false]]) (A2:=[.lst [.int d,.bl false]]) ?_ rfl).trans (JM n);exact(zM (x:=.int f) (y:=.int 8) (A1:=[.lst [.int d,.bl false]]) (A2:=[.lst [.int d,.bl false]]) rfl rfl).trans (Lr (by decide) (by decide))
def jj (n:Nat)(A:Hx):Prop:=∃c b,A[n]? =some (.lst [.int c,.bl b])/\0<=c/\(b=false->c<2147483647)
def Qy (h:jj n A){m:Int}(i:0<m)(l:m<1000000000000000):∃r o,ye [.ref n,.int m] A=.ok (.int r) (A.set n o)/\0<=r/\r<m/\jj n (A.set n o):=by
 obtain⟨c,b,d,a,f⟩:=h;have j:n<A.length:=(cw.mp d).1;have g:∀(r C:Int),GH [.ref 0,.int m] [.lst [.int c,.bl b]]=.ok (.int r) [.lst [.int C,.bl b]]->ye [.ref n,.int m] A=.ok (.int r) (A.set n (.lst [.int C,.bl b])):=λr C e=>by
  unfold ye yU;dsimp only;rw[d];dsimp only;have H:(jk [W.int c,W.bl b]&&jk [W.int m])=true:=rfl;rw[ah H,e]
  rfl
 cases b with
 |true=>
  refine⟨c%m,_,g _ _ (l0 i l),emod_nonneg _ (by omega),bL _ i,c/m,true,ay j,Int.ediv_nonneg a (by omega),λz=>nomatch z⟩
 |false=>
  exact⟨_,_,g _ _ (l6 a (f rfl) i l),emod_nonneg _ (by omega),bL _ i,Jp c,false,ay j,(SY c).1,λ_=>(SY c).2⟩
end G
namespace Mi
open PySem L2
def Wc {k:Nat}{x y:List W}(h:A[n]? =some (.lst x))(a:A[k]? =some (.lst y))(H:x.length+y.length<=qj):qk (.ref n) (.ref k) A=.ok (.ref A.length) (A++[.lst (x++y)]):=by
 unfold qk;dsimp only;rw[h,a];dsimp only;rw[ah H]
def Ext (A A':Hx):Prop:=∃l,A'=A++l
def Ext.refl:Ext A A:=⟨[],by simp⟩
def Ext.trans {C:Hx}(a:Ext A B)(b:Ext B C):Ext A C:=let ⟨l,e⟩:=a;let ⟨k,f⟩:=b;⟨l++k,by rw[f,e,aP]⟩
def Ext.one {o:O}:Ext A (A++[o]):=⟨[o],rfl⟩
def Ext.at {A':Hx}{o:O}(x:Ext A A')(h:A[n]? =some o):A'[n]? =some o:=by
 obtain⟨l,rfl⟩:=x
 have:=(cw.mp h).1
 rw[ai this];exact h
def NN {ifs:Ev}{N:Nat}{I:Nat->En->List W->Hx->Prop}
  (H:∀i r q A,i<N->I i r q A->∃w ρ1,j.at_ A i=some (some w)/\tw w r=some ρ1/\((∃A1 c a A2,ifs ρ1 A=.ok (.bl true) A1/\em ρ1 q A1=.ok (c,a) A2/\I (i+1) c a A2)∨(∃A1,ifs ρ1 A=.ok (.bl false) A1/\I (i+1) ρ1 q A1)))
  (e:∀r q A,I N r q A->j.at_ A N=some none):
  ∀(f i:Nat)(r:En)(q:List W)(A:Hx),i+f=N->I i r q A->∃d b A',jq j tw ifs em f i r q A=.ok (d,b) A'/\I N d b A':=by
 intro f
 induction f with
 |zero=>
  intro i r q A h g
  have:i=N:=by omega
  subst this;refine⟨r,q,A,?_,g⟩;unfold jq;rw[e _ _ _ g]
 |succ f n=>
  intro i r q A h g;obtain⟨w,ρ1,u,t,o⟩:=H i r q A (by omega) g
  rw[jq,u];dsimp only;rw[t];dsimp only;rcases o with ⟨A1,c,a,A2,l,p,E⟩|⟨A1,l,E⟩
  ·rw[l,zP]
   dsimp only;rw[p,zP];exact n (i+1) _ _ _ (by omega) E
  ·rw[l,zP]
   dsimp only;exact n (i+1) _ _ _ (by omega) E
def K4 {nl:Nat}{ifs:Ev}{N:Nat}{I:Nat->En->List W->Hx->Prop}(l:mi ρ A=.ok j A1)(f:j.len=N)
  (h:∀i ρ acc A,i<N->I i ρ acc A->∃w ρ1,j.at_ A i=some (some w)/\tw w ρ=some ρ1/\((∃A1 d b A2,ifs ρ1 A=.ok (.bl true) A1/\em ρ1 acc A1=.ok (d,b) A2/\I (i+1) d b A2)∨(∃A1,ifs ρ1 A=.ok (.bl false) A1/\I (i+1) ρ1 acc A1)))
  (H:∀ρ acc A,I N ρ acc A->j.at_ A N=some none)(n:I 0 (QH nl cap ρ) [] A1):∃c a A',qc nl cap mi tw ifs em ρ A=.ok a A'/\I N c a A':=by
 obtain⟨c,a,A',e,g⟩:=NN h H N 0 _ _ _ (by omega) n
 refine⟨c,a,A',?_,g⟩;unfold qc;rw[l,zP,f,e]
 rfl
def kj {st:W->Ex}{N:Nat}{I:Nat->En->Hx->Prop}
  (H:∀i g A,i<N->I i g A->∃w ρ1 A1,j.at_ A i=some (some w)/\st w g A=.ok (.nx ρ1) A1/\I (i+1) ρ1 A1)(d:∀g A,I N g A->j.at_ A N=some none):
  ∀(f i:Nat)(g:En)(A:Hx),i+f=N->I i g A->∃a A',yL j st f i g A=.ok (.nx a) A'/\I N a A':=by
 intro f
 induction f with
 |zero=>
  intro i g A h b
  have:i=N:=by omega
  subst this;exact⟨g,A,Ux (d _ _ b),b⟩
 |succ f c=>
  intro i g A h b;obtain⟨w,ρ1,A1,n,l,e⟩:=H i g A (by omega) b
  rw[GW n l];exact c (i+1) _ _ (by omega) e
def Wa {a:List W}{y:W}(h:me ρ A=.ok y A1)(H:a.length<qj):zU me ρ a A=.ok (ρ,a++[y]) A1:=by
 unfold zU;rw[h,zP,ah H]
theorem take_succ {l:List α}(h:i<l.length):l.take (i+1)=l.take i++[l[i]]:=by
 rw[List.take_succ,ae h];rfl
def Ext.app {l:Hx}(x:Ext A B):Ext A (B++l):=x.trans ⟨l,rfl⟩
def Ext.len (x:Ext A B):A.length<=B.length:=by obtain⟨l,rfl⟩:=x;simp
def yf {o:O}(h:A[n]? =some o):n<A.length:=(cw.mp h).1
end Mi
namespace G
open PySem L2 Mi
def l7 {w:W}(H:A[n]? =some (.lst ws))(h:ws[i]? =some w):((zY (.ref n) A).map λws=>ws[i]?)=some (some w):=by
 rw[yT H,h]
def l8 (H:A[n]? =some (.lst ws))(h:ws.length<=i):((zY (.ref n) A).map λws=>ws[i]?)=some none:=by
 rw[yT H,aD h]
theorem Xh:∀(l:bR)(m:Int),m<=yD l m/\∀x∈l,x<=yD l m
 |[],m=>⟨Int.le_refl _,λx h=>by cases h⟩|y::l,m=>by
  unfold yD
  split
  ·rename_i a
   obtain⟨c,b⟩:=Xh l y;refine⟨by omega,λx H=>?_⟩
   rcases cu.mp H with rfl|H
   ·exact c
   ·exact b x H
  ·rename_i a
   obtain⟨c,b⟩:=Xh l m;refine⟨c,λx H=>?_⟩;rcases cu.mp H with rfl|H
   ·omega
   ·exact b x H
theorem Nf:∀{l:List α}{k:Nat}{w:α},l[k]? =some w->l.Perm (w::l.eraseIdx k)
 |[],_,_,h=>by simp at h|x::l,0,w,h=>by
  simp at h;subst h;simp
 |x::l,k+1,w,h=>by
  rw[List.getElem?_cons_succ]at h;rw[List.eraseIdx_cons_succ];exact((Nf h).cons x).trans (List.Perm.swap w x _)
def CS {k:Nat}{i:Int}{w:W}(h:A[n]? =some (.lst ws))(a:ws[k]? =some w)(H:jH i=true)(e:seqIndex? i ws.length=some k):ZJ (.ref n) (.int i) A=.ok w (A.set n (.lst (ws.eraseIdx k))):=by
 unfold ZJ;dsimp only;rw[h];dsimp only;rw[ah H,e];dsimp only;rw[a]
def l9 {k:Nat}(h:k<n):seqIndex? (k:Int) n=some k:=by
 have:=PySem.StrLaws.seqIndex_nonneg (i:=(k:Int)) (n:=n) (by omega) (by omega)
 rw[aA]at this;exact this
def Bw {k:Nat}{w:W}(h:A[n]? =some (.lst ws))(a:ws[k]? =some w)(H:k<1000000):ZJ (.ref n) (.int k) A=.ok w (A.set n (.lst (ws.eraseIdx k))):=
 CS h a (G.Z2 H) (l9 (cw.mp a).1)
theorem Ny {b:Type}(f:α->b):∀(l:List α)(k:Nat),(l.map f).eraseIdx k=(l.eraseIdx k).map f
 |[],_=>rfl|_::_,0=>rfl|a::l,k+1=>by
  rw[aR,List.eraseIdx_cons_succ,List.eraseIdx_cons_succ,aR,Ny f l k]
def Qu {a b:Ev}{y:W}(c:a ρ A=.ok (.ref n) A)(d:A[n]? =some (.lst ws))(H:b ρ A=.ok y A1):jo g a b ρ A=g (.ref n) y A1:=by
 unfold jo;have h:Js (.ref n) A=true:=by unfold Js;dsimp only;rw[d]
 rw[c,zP,ah h,H,zP]
def Yv {y:W}(h:A[n]? =some (.lst ws))(H:ws.length<1000):jN (.ref n) y A=.ok .non (A.set n (.lst (ws++[y]))):=by
 unfold jN;dsimp only;rw[h];dsimp only;rw[ah (by unfold qj;omega)]
def Wj {f:Fn}{us:List W}{c C:Int}{b B:Bool}{w:W}(a:A[n]? =some (.lst [.int c,.bl b]))(H:jk us=true)(h:f (.ref 0::us) [.lst [.int c,.bl b]]=.ok w A1)(i:A1[0]? =some (.lst [.int C,.bl B]))(e:w.nr=true):yU f (.ref n::us) A=.ok w (A.set n (.lst [.int C,.bl B])):=by
 unfold yU;dsimp only;rw[a];dsimp only;have g:(jk [W.int c,W.bl b]&&jk us)=true:=by rw[H];rfl
 rw[ah g,h];dsimp only;rw[List.head?_eq_getElem?,i];dsimp only;have d:(jk [W.int C,W.bl B]&&w.nr)=true:=by rw[e];rfl
 rw[ah d]
noncomputable abbrev iL (l:bV):List W:=l.map λ(a:Nat)=>W.int a
def Bl {m:Ev}(h:m ρ A=.ok (.int n) A1)(H:n<=100):Xg m ρ A=.ok (.ref A1.length) (A1++[.lst (iL (List.range n))]):=by
 unfold Xg;rw[h,zP];dsimp only;rw[Z2 (by omega),aA,az (by unfold qj;omega)]
 rfl
def G2 {m:Ev}{o:List α}{f:α->W}{G:α->W}(h:m ρ A=.ok (.tup (o.map f)) A)(l:o.length<=qj)(d:∀a∈o,me (some (f a)::cap.map λi=>(ρ[i]?).join) A=.ok (G a) A):
  qc 1 cap (qu m) (zG 0) ql (zU me) ρ A=.ok (o.map G) A:=by
 by_cases c:o=[]
 ·subst c
  have e:=gA (cap:=cap) (me:=me) (ρ:=ρ) (A:=A) (N:=0) (item:=λ_=>.non) (g:=λ_=>.non) (Jd h) rfl (by unfold qj;omega) (λi H=>by omega) rfl (λi H=>by omega)
  exact e
 ·obtain⟨x,b⟩:∃x,x∈o:=List.exists_mem_of_ne_nil o c
  have e:=gA (cap:=cap) (me:=me) (ρ:=ρ) (A:=A) (N:=o.length) (item:=λi=>f (o.getD i x)) (g:=λi=>G (o.getD i x)) (Jd h) (ag ..) l
   (λi H=>by show some (o.map f)[i]? =_;rw[ar,ae H,aa,ae H];rfl)
   (by show some (o.map f)[o.length]? =_;rw[aD (by rw[ag];exact aq _)])
   (λi H=>by
    have:o.getD i x=o[i]:=by rw[aa,ae H];rfl
    rw[this];exact d _ (aJ H))
  rw[e]
  congr 1
  apply a7
  ·simp
  ·intro i n j
   have H:i<o.length:=by simpa using j
   simp[aa,ae H]
def KL {a:Type}(o:List α)(x:α)(f:α->a):o.map f=(List.range o.length).map λi=>f (o.getD i x):=by
 apply a7
 ·simp
 ·intro i H b
  have h:i<o.length:=by simpa using H
  simp[aa,ae h]
def U6 (q:∀r∈t,r.length=t.length){v:Int}(h:v∈t.flatten):∃a b,a<t.length/\b<t.length/\at2 t a b=v:=by
 obtain⟨r,H,e⟩:=List.mem_flatten.mp h;obtain⟨a,d,g⟩:=a4 H;obtain⟨b,c,f⟩:=a4 e;refine⟨a,b,d,by rw[<- q r H];exact c,?_⟩
 unfold at2;have E:t.getD a []=r:=by rw[aa,ae d];exact g
 rw[E,aa,ae c];exact f
def md (H:∀r∈t,r.length=t.length){a b:Nat}(d:a<t.length)(c:b<t.length):∃r∈t,at2 t a b∈r/\at2 t a b∈t.flatten:=by
 have e:t.getD a []∈t:=kF d;have f:at2 t a b∈t.getD a []:=by
  unfold at2;have h:b<(t.getD a []).length:=by rw[H _ e];exact c
  rw[aa (l:=t.getD a []),ae h];exact aJ _
 exact⟨_,e,f,List.mem_flatten.mpr ⟨_,e,f⟩⟩
def Tw {r:bR}{x:Int}(h:x∈r):x<=kM r:=by
 cases r with
 |nil=>cases h|cons i I=>
  show x<=yD I i;rcases cu.mp h with rfl|h
  ·exact(Xh I x).1
  ·exact(Xh I i).2 x h
section
def WA (h:qz t){a b:Nat}(d:a<t.length)(c:b<t.length):at2 t a b<qw t:=by
 obtain⟨r,H,f,_⟩:=md h.sq d c;have E:=Tw f;have e:=Tw (cx.mpr ⟨r,H,rfl⟩:kM r∈t.map kM);unfold qw;omega
def Xp (h:qz t):qw t-1∈t.flatten:=by
 obtain⟨r,H,e⟩:=cx.mp (G8 h.map_ne)
 have:qw t-1=kM r:=by unfold qw;omega
 rw[this];exact List.mem_flatten.mpr ⟨r,H,G8 (h.row_ne H)⟩
def Xx (h:qz t):qw t<=(t.length:Int):=by
 obtain⟨r,a,H⟩:=List.mem_flatten.mp (Xp h)
 have:=h.lo r a _ H
 omega
def QE (h:qz t){v:Nat}(H:(v:Int)<qw t):∃a b,a<t.length/\b<t.length/\at2 t a b=(v:Int):=by
 by_cases e:(v:Int)=qw t-1
 ·rw[e];exact U6 h.sq (Xp h)
 ·exact U6 h.sq (h.fu v ⟨_,Xp h,by omega⟩)
noncomputable def jA (p:bV):bR:=0::p.map λ(k:Nat)=>1+(k:Int)
def w5 (t:bQ)(p o:bV):bQ:=o.map λa=>o.map λb=>(jA p).getD (at2 t a b).toNat 0
def Q9 {p:bV}{v:Nat}(H:1<=v)(h:v<=p.length):(jA p).getD v 0=1+((p[v-1]'(by omega):Nat):Int):=by
 obtain⟨v,rfl⟩:∃u,v=u+1:=⟨v-1,by omega⟩
 unfold jA;rw[aa,List.getElem?_cons_succ,ar,ae (by omega)]
 rfl
def NJ (h:qz t){p o:bV}(n:p.Perm (List.range (qw t-1).toNat))(f:o.Perm (List.range t.length)):qz (w5 t p o)/\(w5 t p o).length=t.length:=by
 have l:o.length=t.length:=by rw[f.length_eq,aG]
 have kb:=kI h;have N:=Xx h;have C:p.length=(qw t-1).toNat:=by rw[n.length_eq,aG]
 have X:=h.n1;have H:∀i,o.getD i 0<t.length:=λi=>by
  by_cases U:i<o.length
  ·rw[aa,ae U]
   exact cn.mp (f.mem_iff.mp (aJ U))
  ·rw[aa,aD (by omega)]
   exact X
 have w:o.Nodup:=(f.nodup_iff).mpr nodup_range;have r:∀a,a<t.length->∃i,i<t.length/\o.getD i 0=a:=λa A=>by
  obtain⟨i,U,e⟩:=a4 (f.mem_iff.mpr (cn.mpr A));exact⟨i,by omega,by rw[aa,ae U];exact e⟩
 have c:∀q (g:q<p.length),p[q]<p.length:=λq g=>by
  have:=cn.mp (n.mem_iff.mp (aJ g))
  omega
 have M:Mu t.length (λi j=>(jA p).getD (at2 t (o.getD i 0) (o.getD j 0)).toNat 0) p.length (λ_ _=>True):=by
  refine⟨λi=>?_,λi j=>?_,λi j D B _=>?_,λi j _ _ Y=>absurd trivial Y,λk Z P=>?_⟩
  ·show(jA p).getD (at2 t (o.getD i 0) (o.getD i 0)).toNat 0=0
   rw[(h.dg _ _ (H i) (H i)).mpr rfl]
   rfl
  ·show(jA p).getD (at2 t (o.getD i 0) (o.getD j 0)).toNat 0=(jA p).getD (at2 t (o.getD j 0) (o.getD i 0)).toNat 0
   rw[h.sy _ _ (H i) (H j)]
  ·show 1<=(jA p).getD (at2 t (o.getD i 0) (o.getD j 0)).toNat 0/\(jA p).getD (at2 t (o.getD i 0) (o.getD j 0)).toNat 0<=(p.length:Int)
   have u:o.getD i 0≠o.getD j 0:=by
    have y:i<o.length:=by omega
    have x:j<o.length:=by omega
    rw[aa,ae y,aa,ae x];intro e;have L:o[i]=o[j]:=e
    have:=(getElem_inj w).mp L
    omega
   have d:=h.dg _ _ (H i) (H j);have T:=Y7 h (H i) (H j);have S:=WA h (H i) (H j);have Q:at2 t (o.getD i 0) (o.getD j 0)≠0:=λe=>u (d.mp e);rw[Q9 (by omega) (by omega)]
   have:=c ((at2 t (o.getD i 0) (o.getD j 0)).toNat-1) (by omega)
   omega
  ·obtain⟨q,g,e⟩:=a4 (n.mem_iff.mpr (cn.mpr (by omega:k-1<(qw t-1).toNat)))
   obtain⟨a,b,A,E,K⟩:=QE h (v:=q+1) (by omega)
   obtain⟨i,U,J⟩:=r a A;obtain⟨j,B,I⟩:=r b E;refine⟨i,j,U,B,?_⟩;show(jA p).getD (at2 t (o.getD i 0) (o.getD j 0)).toNat 0=(k:Int);rw[J,I,K,aA,Q9 (by omega) (by omega)]
   have:p[q+1-1]'(by omega)=k-1:=e
   rw[this];omega
 have hT:w5 t p o=yc t.length (λi j=>(jA p).getD (at2 t (o.getD i 0) (o.getD j 0)).toNat 0):=by
  unfold w5 yc;rw[KL o 0,l]
  congr 1
  funext i
  rw[KL o 0 (λb=>(jA p).getD (at2 t (o.getD i 0) b).toNat 0),l]
 refine⟨?_,by unfold w5;rw[ag,l]⟩
 rw[hT];exact M.tab (λ_ _ _ _=>trivial) X h.n8 (.inr (by omega))
end
end G
namespace Mi
open PySem L2
def mf {r b:Nat}{v:W}(h:A[r]? =some (.lst ws))(H:b<ws.length):ku (.ref r) (.int b) v A=.ok () (A.set r (.lst (ws.set b v))):=by
 have e:gk ws.length (b:Int)=some b:=by unfold gk;rw[ah (by omega),ah (by omega),aA]
 unfold ku;dsimp only;rw[h];dsimp only;rw[e]
structure Kp (n:Nat)(A B:Hx):Prop where
 len:A.length<=B.length
 at_:∀i,i<A.length->i≠n->B[i]? =A[i]?
section
variable {C:Hx}
def Kp.refl:Kp n A A:=⟨aq _,λ_ _ _=>rfl⟩
theorem Kp.trans (a:Kp n A B)(b:Kp n B C):Kp n A C:=⟨aY a.len b.len,λi H h=>(b.at_ i (aK H a.len) h).trans (a.at_ i H h)⟩
theorem Kp.set {o:O}:Kp n A (A.set n o):=⟨by rw[bN];exact aq _,λi _ h=>ax (Ne.symm h)⟩
def Kp.ext (x:Ext A B):Kp n A B:=by
 obtain⟨l,rfl⟩:=x;exact⟨by simp,λi h _=>ai h⟩
def Kp.get (a:Kp n A B){o:O}(h:A[i]? =some o)(H:i≠n):B[i]? =some o:=by rw[a.at_ i (yf h) H];exact h
end
def G1 {a:Nat->Nat->Int}:(yc n a).length=n:=by unfold yc;simp
end Mi
namespace G
open PySem L2 Mi
section
abbrev Sq (t:bQ):Prop:=∀r∈t,r.length=t.length
end
def Vd (t:bQ):Bool:=decide (1<=t.length)&&(decide (t.length<=8)&&((t.all λr=>r.length==t.length&&r.all λv=>decide (0<=v)&&decide (v<(t.length:Int)))&&
 (((List.range t.length).all λa=>(List.range t.length).all λb=>(decide (at2 t a b=0)==decide (a=b))&&decide (at2 t a b=at2 t b a))&&(List.range 8).all λk=>!(t.flatten.any λv=>decide ((k:Int)<v)) || t.flatten.contains (k:Int))))
def U3 (h:Vd t=true):qz t:=by
 unfold Vd at h;rw[ak,ak,ak,ak,ao,ao]at h;obtain⟨o,N,j,i,p⟩:=h;have rw_:∀r∈t,r.length=t.length/\∀v∈r,0<=v/\v<(t.length:Int):=λr n=>by
  have:=cy.mp j r n
  rw[ak,aL]at this;refine⟨this.1,λv d=>?_⟩
  have:=cy.mp this.2 v d
  rw[ak,ao,ao]at this;exact this
 have at_:∀a b,a<t.length->b<t.length->(decide (at2 t a b=0)==decide (a=b))=true/\at2 t a b=at2 t b a:=λa b c H=>by
  have:=cy.mp (cy.mp i a (cn.mpr c)) b (cn.mpr H)
  rw[ak,ao]at this;exact this
 refine⟨o,N,λr n=>(rw_ r n).1,λr n=>(rw_ r n).2,λa b c H=>?_,λa b c H=>(at_ a b c H).2,λk l=>?_⟩
 ·have:=aL.mp (at_ a b c H).1
  by_cases q:a=b
  ·rw[az q]at this;exact⟨λ_=>q,λ_=>of_decide_eq_true this⟩
  ·rw[aH q]at this;exact⟨λz=>absurd z (of_decide_eq_false this),λz=>absurd z q⟩
 ·obtain⟨v,d,f⟩:=l
  obtain⟨r,n,e⟩:=List.mem_flatten.mp d
  have:=(rw_ r n).2 v e
  have g:=cy.mp p k (cn.mpr (by omega))
  rw[a8]at g;rcases g with z|z
  ·exfalso
   have:(t.flatten.any λv=>decide ((k:Int)<v))=true:=List.any_eq_true.mpr ⟨v,d,az f⟩
   rw[this]at z;cases z
  ·exact List.contains_iff_mem.mp z
def gq (t:bQ):((zw t).nr&&true)=true:=by rw[Qw];rfl
noncomputable def wd:W->Bool
 |.int _=>true|_=>false
def QK {m:Ev}{w:W}{ty c:Ty}(h:m ρ A=.ok w A1)(H:j0 w A1=some ty):kf c m ρ A=.ok (.bl (kL ty c)) A1:=by
 unfold kf;rw[h,zP,H]
def Y3 (h:ρ[i]? =some (some (.tup ws))):mQ zT (zJ (qg i)) ρ A=.ok (.int ws.length) A:=by
 rw[jX (yA (w:=.tup ws) (A1:=A) (zp h) rfl)]
 rfl
def CG (i:Int)(A:Hx):Q4 [.int i] A=.ok (.bl true) A:=by
 unfold Q4 Uy;exact ja (w:=.bl true) (A1:=A) rfl
def mh {r:bR}(h:r.length<=8)(A:Hx):g8 [zt r,.int r.length] A=.ok (.bl true) A:=by
 unfold g8 K1;refine ja ?_;unfold KZ;refine qx (qT ?_);refine(Z8 (A1:=A) rfl).trans ?_;have e:mQ zT (zJ zr) [some (zt r),iV r.length] A=.ok (.int r.length) A:=by
  rw[jX (yA (w:=zt r) (A1:=A) (zp rfl) rfl)];unfold zT;rw[ag]
 refine(Z8 (A1:=A) ((zM e (zp (i:=1) rfl)).trans ((wz _ _ _).trans (by rw[az rfl])))).trans ?_
 have E:=YF (cap:=[]) (A:=A) (ρ:=[some (zt r),iV r.length]) (ws:=r.map W.int) (me:=zC Q4 (zc zr zj)) (g:=λ_=>.bl true) (zp (i:=0) rfl) (by rw[ag];unfold qj;omega) (λw H=>by
  obtain⟨i,_,rfl⟩:=cx.mp H;exact(qd (ws:=[.int i]) (A1:=A) rfl).trans (CG i A))
 exact(jX E).trans (Wm (p:=λ_=>true) λ_ _=>rfl)
def mj {r:bR}(l:r.length<=8)(H:∀v∈r,0<=v/\v<r.length)(A:Hx):Qp [zt r,.int r.length,.int r.length] A=.ok (.bl true) A:=by
 unfold Qp VM;refine ja ?_;unfold VO;refine qx (qT ?_);refine(Z8 (A1:=A) ((qd (ws:=[zt r,.int r.length]) (A1:=A) rfl).trans (mh l A))).trans ?_;have e:=YF (cap:=[2]) (A:=A) (ρ:=[some (zt r),iV r.length,iV r.length]) (ws:=r.map W.int) (me:=wJ QZ QW (zV (.int 0)) (qg 0) (qg 1)) (g:=λ_=>.bl true) (zp (i:=0) rfl) (by rw[ag];unfold qj;omega) (λw a=>by
  obtain⟨v,h,rfl⟩:=cx.mp a;obtain⟨c,b⟩:=H v h;unfold wJ;rw[qe,zP,zp (i:=0) (w:=.int v) rfl,zP];show R.bind (R.ok (W.bl (decide ((0:Int)<=v))) A) _=_;rw[az c,zP];dsimp only;rw[zp (i:=1) (w:=.int r.length) rfl,zP];show R.ok (W.bl (decide (v<(r.length:Int)))) A=_;rw[az b])
 exact(jX e).trans (Wm (p:=λ_=>true) λ_ _=>rfl)
def ml (h:qz t)(A:Hx):UG [zw t] A=.ok (.bl true) A:=by
 refine Qz (A1:=[]) (gq t) rfl (ja ?_);unfold Nv;obtain⟨d,e,_⟩:=NH (A:=[]) (N:=t.length) (item:=λi=>.tup [.int i,zt (t.getD i [])]) (I:=λD=>∃g Y y C,D=[some (zw t),g,Y,y,C])
  (j:=wa (zw t) (t.map zt).length) (st:=turn (jO 1 2) (zo (qO (w6 zL) (jO 3 4) (zo (qU (wQ (zi jw (zi qX zW zZ) (zi qX zq zS)) (zi jw (zi zB (zi zB zr zS) zq) zW)) yF zy) zy)) zy))
  (λi n=>Y4 (Wo n)) (by have:=Y0 (A:=[]) (ws:=t.map zt);rw[ag]at this;rw[ag];exact this) (λa f D H=>by
   obtain⟨g,Y,y,C,rfl⟩:=H;have l:=h.sq _ (kF f);obtain⟨o,E,p,Z,r⟩:=NH (A:=[]) (N:=t.length) (item:=λi=>.tup [.int i,.int ((t.getD a []).getD i 0)]) (I:=λD=>∃y C,D=[some (zw t),iV a,some (zt (t.getD a [])),y,C])
    (j:=wa (zt (t.getD a [])) ((t.getD a []).map W.int).length) (st:=turn (jO 3 4) (zo (qU (wQ (zi jw (zi qX zW zZ) (zi qX zq zS)) (zi jw (zi zB (zi zB zr zS) zq) zW)) yF zy) zy))
    (λi n=>Y4 (int_at (by omega)))
    (by have:=Y0 (A:=[]) (ws:=(t.getD a []).map W.int);rw[ag,l]at this;rw[ag,l];exact this)
    (λb c D H=>by
     obtain⟨y,C,rfl⟩:=H;refine⟨[some (zw t),iV a,some (zt (t.getD a [])),iV b,iV ((t.getD a []).getD b 0)],?_,_,_,rfl⟩;refine(yo rfl).trans ?_;refine(zH ((yb (A1:=[]) ?_).trans rfl)).trans rfl;have x:zi jw (zi qX zW zZ) (zi qX zq zS) [some (zw t),iV a,some (zt (t.getD a [])),iV b,iV ((t.getD a []).getD b 0)] []=.ok (.bl false) []:=by
      refine(zM ((zM (zp (i:=4) rfl) (qe (w:=.int 0))).trans (wz _ _ _)) ((zM (zp (i:=1) rfl) (zp (i:=3) rfl)).trans (wz _ _ _))).trans ((HJ _ _ _).trans ?_);have J:(t.getD a []).getD b 0=0↔a=b:=h.dg a b f c
      have:decide ((t.getD a []).getD b 0=0)=decide ((a:Int)=(b:Int)):=by
       by_cases q:a=b
       ·rw[az (J.mpr q),az (by omega)]
       ·rw[aH (λz=>q (J.mp z)),aH (by omega)]
      rw[this];simp
     have E:zi jw (zi zB (zi zB zr zS) zq) zW [some (zw t),iV a,some (zt (t.getD a [])),iV b,iV ((t.getD a []).getD b 0)] []=.ok (.bl false) []:=by
      have v:=h.sq _ (kF c);refine(zM ((zM ((zM (zp (i:=0) rfl) (zp (i:=3) rfl)).trans (JF c)) (zp (i:=1) rfl)).trans (wZ (by omega))) (zp (i:=4) rfl)).trans ((Ks _ _ _).trans ?_)
      have u:(t.getD b []).getD a 0=(t.getD a []).getD b 0:=(h.sy a b f c).symm;rw[u,az rfl]
      rfl
     exact(WM x).trans E) t.length 0 [some (zw t),iV a,some (zt (t.getD a [])),y,C] (by omega) ⟨_,_,rfl⟩
   refine⟨[some (zw t),iV a,some (zt (t.getD a [])),p,Z],?_,_,_,_,_,rfl⟩;refine(yo rfl).trans ?_;rw[r]at E;have B:((t.getD a []).map W.int).length=t.length:=by rw[ag,l]
   refine(zH ((j3 (Yz (zp (i:=2) rfl))).trans ?_)).trans rfl;show yL (wa (zt (t.getD a [])) ((t.getD a []).map W.int).length) _ ((t.getD a []).map W.int).length 0 _ _=_;rw[B]at E ⊢;exact E) t.length 0 [some (zw t),none,none,none,none] (by omega) ⟨_,_,_,_,rfl⟩
 refine(zH (ρ1:=d) (A1:=[]) ((j3 (Yz (zp (i:=0) rfl))).trans ?_)).trans (qx rfl);show yL (wa (zw t) (t.map zt).length) _ (t.map zt).length 0 _ _=_;have B:(t.map zt).length=t.length:=ag ..;rw[B]at e ⊢;exact e
def mn (h:qz t)(A:Hx):VH [zw t] A=.ok (.bl true) A:=by
 have q:=AJ h;have c:t.flatten≠[]:=by
  intro e;have L:=h.n1;have b:=h.sq _ (kF (t:=t) (a:=0) (by omega))
  have:t.getD 0 []=[]:=by
   have:=List.flatten_eq_nil_iff.mp e _ (kF (t:=t) (a:=0) (by omega))
   exact this
  rw[this]at b;simp at b;omega
 obtain⟨C,l,E⟩:=List.exists_cons_of_ne_nil c;refine Qz (A1:=[.lst (t.flatten.map W.int)]) (gq t) rfl (ja ?_);unfold RU;refine(zH (qH (km (lY (zp rfl) (by unfold qj;omega))))).trans (qx (qT ?_))
 generalize u:[O.lst (t.flatten.map W.int)]=B;have d:zY (.ref 0) B=some (t.flatten.map W.int):=by rw[<- u];rfl
 have D:mQ kx (zJ zq) [some (zw t),rO 0] B=.ok (.int (yD l C)) B:=by
  rw[jX (yA (w:=.ref 0) (A1:=B) (zp rfl) d)];unfold kx;rw[K2,E]
 have H:yD l C∈t.flatten:=by
  rw[E];rcases UO l C with e|e
  ·rw[e];exact aE ..
  ·exact aw _ e
 have o:0<=yD l C/\yD l C<8:=by
  obtain⟨r,b,v⟩:=List.mem_flatten.mp H
  have:=h.lo r b _ v
  have:=h.n8
  omega
 generalize yD l C=M at D H o;obtain⟨K,rfl⟩:=aS o.1;have y:=gA (cap:=[1]) (me:=zi RD zr zq) (ρ:=[some (zw t),rO 0]) (A:=B) (N:=K) (j:=j5 0 K) (item:=λi=>.int (0+i)) (g:=λ_=>.bl true)
  ((kE D (by unfold jH;simp;omega)).trans (by rw[aA])) rfl (by unfold qj;omega) (λi f=>yI f) (yH (by omega))
  (λi f=>by
   refine(zM (zp (i:=0) (w:=.int (0+i)) rfl) (zp (i:=1) (w:=.ref 0) rfl)).trans ?_;show J4 false _ _ _=_;unfold J4;rw[d];dsimp only;have J:(yK (.int (0+(i:Int)))&&(t.flatten.map W.int).all yK)=true:=by
    have:(t.flatten.map W.int).all yK=true:=cy.mpr λw I=>by obtain⟨x,_,rfl⟩:=cx.mp I;rfl
    rw[this];rfl
   rw[ah J];have n:Kt (.int (0+(i:Int))) (t.flatten.map W.int)=true:=by
    unfold Kt;refine List.any_eq_true.mpr ⟨.int i,cx.mpr ⟨(i:Int),h.fu i ⟨_,H,by omega⟩,rfl⟩,?_⟩
    show((i:Int)==0+(i:Int))=true;rw[Int.zero_add];exact bx _
   rw[n]
   rfl)
 refine(jX y).trans ?_;exact Wm (p:=λ_=>true) λ_ _=>rfl
def mu (h:qz t)(A:Hx):wW [zw t] A=.ok (.bl true) A:=by
 have N:=h.n1;have n:=h.n8;unfold wW GP;refine ja ?_;unfold GK;have e:∀b:En,mQ zT (zJ (qg 0)) (some (zw t)::b) A=.ok (.int t.length) A:=λb=>by
  rw[jX (yA (w:=zw t) (A1:=A) (zp rfl) rfl)];unfold zT;rw[ag]
 refine(zH (ρ1:=[some (zw t),none]) (A1:=A) ((yb (A1:=A) ?_).trans rfl)).trans ?_
 ·refine(WM (A1:=A) rfl).trans ?_
  refine kQ (k:=true) ?_;show wJ QZ QZ (zV (.int 1)) (mQ zT (zJ (qg 0))) (zV (.int 8)) [some (zw t),none] A=_;unfold wJ;rw[qe,zP,e,zP];show R.bind (R.ok (W.bl (decide ((1:Int)<=t.length))) A) _=_;rw[az (by omega),zP]
  dsimp only;rw[qe,zP];show R.ok (W.bl (decide ((t.length:Int)<=8))) A=_;rw[az (by omega)]
 refine(zH (qH (e _))).trans ?_;have E:=YF (cap:=[1]) (A:=A) (ρ:=[some (zw t),iV t.length]) (ws:=t.map zt) (me:=zC Qp (zc (qg 0) (zc (qg 1) (zc (qg 1) zj)))) (g:=λ_=>.bl true) (zp (i:=0) rfl) (by rw[ag];unfold qj;omega) (λw c=>by
  obtain⟨r,H,rfl⟩:=cx.mp c;have l:=h.sq r H;refine(qd (ws:=[zt r,.int t.length,.int t.length]) (A1:=A) rfl).trans ?_;rw[<- l];exact mj (by omega) (λv a=>by have:=h.lo r H v a;omega) A)
 refine(zH (ρ1:=[some (zw t),iV t.length]) (A1:=A) ((yb (A1:=A) (kQ (k:=true) ((jX E).trans (Wm (p:=λ_=>true) λ_ _=>rfl)))).trans rfl)).trans (qx (qT ?_));refine(Z8 (A1:=A) ((qd (ws:=[zw t]) (A1:=A) rfl).trans (ml h A))).trans ?_;exact(qd (ws:=[zw t]) (A1:=A) rfl).trans (mn h A)
end G
namespace Mi
open PySem L2
theorem O3:∀(l m:bR),PyData.eqvAll (l.map PyData.int) (m.map PyData.int)=decide (l=m)
 |[],[]=>by simp[PyData.eqvAll]|[],_::_=>by simp[PyData.eqvAll]|_::_,[]=>by simp[PyData.eqvAll]|a::l,b::m=>by
  simp only[aR,PyData.eqvAll,O3 l m,PyData.eqv];rw[Bool.eq_iff_iff];simp
def Ky (A B:Hx):Prop:=∀w ty,j0 w A=some ty->j0 w B=some ty
def Ext.ky (x:Ext A B):Ky A B:=λw ty h=>by
 cases w with
 |ref n=>
  unfold j0 at h ⊢;dsimp only at h ⊢;cases e:A[n]? with
  |none=>rw[e]at h;cases h|some o=>rw[e]at h;rw[x.at e];exact h
 |_=>exact h
def Ky.trans {C:Hx}(a:Ky A B)(b:Ky B C):Ky A C:=λw ty h=>b w ty (a w ty h)
section
def T4:j0 (.ref A.length) (A++[.lst ws])=some .lst:=by
 unfold j0;dsimp only;rw[qM]
end
structure Kn (n:Nat)(A B:Hx):Prop where
 kp:Kp n A B
 st:G.jj n B
def _root_.G.jj.ty (h:G.jj n A):j0 (.ref n) A=some .lst:=by
 obtain⟨c,b,e,_⟩:=h;unfold j0;dsimp only;rw[e]
def _root_.G.jj.lt (h:G.jj n A):n<A.length:=by
 obtain⟨c,b,e,_⟩:=h;exact yf e
def _root_.G.jj.ext (h:G.jj n A)(x:Ext A B):G.jj n B:=by
 obtain⟨c,b,e,r⟩:=h;exact⟨c,b,x.at e,r⟩
def Kn.ky (s:G.jj n A)(k:Kn n A B):Ky A B:=λw ty h=>by
 cases w with
 |ref i=>
  by_cases q:i=n
  ·subst q
   rw[s.ty]at h;rw[k.st.ty];exact h
  ·unfold j0 at h ⊢
   dsimp only at h ⊢
   by_cases z:i<A.length
   ·rw[k.kp.at_ i z q];exact h
   ·rw[aD (by omega)]at h;cases h
 |_=>exact h
theorem Kn.trans {C:Hx}(a:Kn n A B)(b:Kn n B C):Kn n A C:=⟨a.kp.trans b.kp,b.st⟩
theorem Kn.ext (s:G.jj n A)(x:Ext A B):Kn n A B:=⟨Kp.ext x,s.ext x⟩
end Mi
namespace G
open PySem L2 Mi
def Ib (h:jj n A){m:Int}(c:0<m)(H:m<1000000000000000):∃(r:Nat) (B:Hx),ye [.ref n,.int m] A=.ok (.int r) B/\(r:Int)<m/\Kn n A B/\B.length=A.length:=by
 obtain⟨r,o,e,a,b,s⟩:=Qy h c H;exact⟨r.toNat,A.set n o,by rw[e,Int.toNat_of_nonneg a],by omega,⟨Kp.set,s⟩,bN ..⟩
def Tt {m:Int}(h:jj n A)(d:ρ[0]? =some (rO n))(H:me ρ A=.ok (.int m) A)(c:0<m)(b:m<1000000000000000):∃(r:Nat) (B:Hx),zC ye (zc zr (zc me zj)) ρ A=.ok (.int r) B/\(r:Int)<m/\Kn n A B/\B.length=A.length:=by
 obtain⟨r,B,e,a⟩:=Ib h c b;exact⟨r,B,(qd (zD (zp d) (zD H zN))).trans e,a⟩
def Ij {ty:Ty}(h:ty≠.tup):kL ty .tup=false:=by
 cases ty<;>first|rfl|exact absurd rfl h
def Qk (q:Hx->W->Prop)(A:Hx)(w:W):Prop:=∀B,Ky A B->q B w
def Qk.mono {q:Hx->W->Prop}{w:W}(k:Ky A B)(h:Qk q A w):Qk q B w:=λC q=>h C (k.trans q)
abbrev Yf (A:Hx)(w:W):Prop:=Qk (λB w=>wW [w] B=.ok (.bl false) B) A w
def IT {w:W}{ty:Ty}(h:j0 w A=some ty)(H:ty≠.tup):Yf A w:=λB k=>by
 unfold wW GP;refine ja ?_;unfold GK;have e:kf .tup zr [some w,none] B=.ok (.bl false) B:=(QK (zp rfl) (k _ _ h)).trans (by rw[Ij H])
 have E:wQ (jR (kf .tup zr)) (jR (wJ QZ QZ qh (mQ zT (zJ zr)) VD)) [some w,none] B=.ok (.bl true) B:=by
  unfold wQ;rw[kQ e,zP]
  rfl
 exact qx ((ko E).trans (qx (qT qe)))
def ET (q:Hx->W->Prop)(D:Hx)(m:Ev)(b:En):Prop:=∀A,Ext D A->∃w a,m b A=.ok w a/\Ext A a/\Qk q a w
def AT (q:Hx->W->Prop)(D:Hx)(a:Ea)(d:En)(k:Nat):Prop:=∀A,Ext D A->∃b c,a d A=.ok b c/\Ext A c/\b.length=k/\∀w∈b,Qk q c w
section
variable {m:Ev}{a:Ea}{k:Nat}{w:W}{q:Hx->W->Prop}{D:Hx}
def YR:AT q D zj ρ 0:=λA _=>⟨[],A,rfl,Ext.refl,rfl,λ_ h=>by cases h⟩
def yg (h:ET q D m ρ)(t:AT q D a ρ k):AT q D (zc m a) ρ (k+1):=λA x=>by
 obtain⟨w,i,E,b,f⟩:=h A x;obtain⟨c,g,e,X,l,d⟩:=t i (x.trans b);refine⟨w::c,g,zD E e,b.trans X,by rw[bF,l],λy H=>?_⟩
 rcases cu.mp H with rfl|H
 ·exact f.mono X.ky
 ·exact d y H
def Vf (h:∀A,m ρ A=.ok w A)(H:∀B,q B w):ET q D m ρ:=λA _=>⟨w,A,h A,Ext.refl,λB _=>H B⟩
def Za (h:∀A,m ρ A=.ok w A)(H:∀B,wW [w] B=.ok (.bl false) B:=by intro B;kernel_rfl):ET (λB w=>wW [w] B=.ok (.bl false) B) D m ρ:=Vf h H
def mv:ET (λB w=>wW [w] B=.ok (.bl false) B) D Ka ρ:=λA _=>⟨.ref A.length,A++[.dct []],rfl,Ext.one,IT (ty:=.dct) (by unfold j0;dsimp only;rw[qM]) (by decide)⟩
end
section
variable {a:Ea}{k:Nat}{q:Hx->W->Prop}
structure TL (q:Hx->W->Prop)(A:Hx)(r k:Nat)(B:Hx):Prop where
 at_:∃ws,B[r]? =some (.lst ws)/\ws.length=k/\∀w∈ws,Qk q B w
 nw:A.length<=r
 ext:Ext A B
def LV (h:AT q A a ρ k):∃r B,qp a ρ A=.ok (.ref r) B/\TL q A r k B:=by
 obtain⟨b,d,e,x,l,c⟩:=h A .refl;exact⟨_,_,jV e,⟨b,qM,l,λw H=>(c w H).mono Ext.one.ky⟩,x.len,x.app⟩
def Xr {r j:Nat}(t:TL q A r j B)(h:AT q A a ρ k)(c:ρ[i]? =some (rO r))(f:j+k<=100):∃b C,zi qk (qg i) (qp a) ρ B=.ok (.ref b) C/\TL q A b (j+k) C:=by
 obtain⟨g,e,l,n⟩:=t.at_;obtain⟨U,d,E,X,L,u⟩:=h B t.ext;have x:Ext B (d++[.lst U]):=X.app;refine⟨_,_,(zM (zp c) (jV E)).trans (Wc (x.at e) qM (by unfold qj;omega)),⟨g++U,qM,by rw[av,l,L],λw H=>?_⟩,?_,(t.ext.trans x).app⟩
 ·rcases cB.mp H with q|q
  ·exact(n w q).mono (x.app).ky
  ·exact(u w q).mono (Ext.one.trans Ext.one).ky
 ·have:=t.ext.len
  have:=x.len
  omega
def M8 {r:Nat}{b:Hx}{m:Int}{mm:Ev}(s:jj n A)(t:TL q A r k B)(i:me ρ b=.ok (.ref r) B)(p:ρ[0]? =some (rO n))(g:∀A,mm ρ A=.ok (.int m) A)(a:(k:Int)=m)(o:0<m)(u:m<1000):∃w C,zi zB me (zC ye (zc zr (zc mm zj))) ρ b=.ok w C/\Qk q C w/\Kn n A C:=by
 obtain⟨d,e,l,f⟩:=t.at_;have sB:=s.ext t.ext;obtain⟨j,C,E,c,kn,_⟩:=Tt sB p (g B) o (by omega)
 have h:j<d.length:=by omega
 have H:r≠n:=by have:=s.lt;have:=t.nw;omega
 refine⟨d[j],C,(zM i E).trans (gD (kn.kp.get e H) (ae h)),(f _ (aJ h)).mono (kn.ky sB),(Kn.ext s t.ext).trans kn⟩
end
section
variable {N a:Nat}
def C5 (g:t.length<=8)(H:Sq t){m:Ev}{c:Hx}(l:m ρ c=.ok (zw t) B):qW (qc 1 [] (qu m) (zG 0) ql (zU (qW (zJ zr)))) ρ c=
  .ok (.ref (B.length+t.length)) (B++(t.map λr=>O.lst (r.map W.int))++[O.lst ((List.range t.length).map λi=>W.ref (B.length+i))]):=by
 obtain⟨b,d,j,e,⟨z,v⟩,o,n⟩:=K4 (nl:=1) (cap:=[]) (tw:=zG 0) (ifs:=zV (.bl true)) (em:=zU (qW (zJ zr))) (ρ:=ρ) (A:=c) (N:=t.length)
  (I:=λp b a C=>(∃z,b=[z])/\C=B++((t.take p).map λr=>O.lst (r.map W.int))/\a=(List.range p).map λi=>W.ref (B.length+i)) (Jd l) (by simp)
  (λp b a C h ⟨⟨z,u⟩,q,f⟩=>by
   subst u q f;refine⟨zt t[p],[some (zt t[p])],?_,rfl,.inl ⟨_,_,_,_,rfl,Wa (km (yA (w:=zt t[p]) (ws:=t[p].map W.int) (zp rfl) rfl)) ?_,⟨_,rfl⟩,?_,?_⟩⟩
   ·show some (t.map zt)[p]? =_
    rw[ar,ae h];rfl
   ·simp;unfold qj;omega
   ·rw[take_succ h,aN,aP];rfl
   ·rw[bf,aN,av,ag,bb,Nat.min_eq_left (bK h)];rfl)
  (λb a C _=>by show some (t.map zt)[t.length]? =_;rw[aD (by simp)]) ⟨⟨none,rfl⟩,by simp,by simp⟩
 rw[km e,o,n,take_length];simp
end
def C8 {c:En}{N:Nat}{u v g:Nat->W}(t:∀i,i<N->j.at_ A i=some (some (.tup [u i,v i])))(H:j.at_ A N=some none)(b:∀i,i<N->me (some (u i)::some (v i)::c) A=.ok (g i) A):
  ∀(f i:Nat)(x y:Option W)(a:List W),i+f=N->a.length+f<=qj->∃ρ,jq j (jO 0 1) (zV (.bl true)) (zU me) f i (x::y::c) a A=.ok (ρ,a++(List.range' i f).map g) A:=by
 intro f
 induction f with
 |zero=>
  intro i x y a h l
  have:i=N:=by omega
  subst this;refine⟨x::y::c,?_⟩;unfold jq;rw[H];simp
 |succ f I=>
  intro i x y a h l;obtain⟨ρ,e⟩:=I (i+1) (some (u i)) (some (v i)) (a++[g i]) (by omega) (by rw[av,aW];omega)
  refine⟨ρ,?_⟩;rw[jq,t i (by omega)]
  dsimp only;rw[show jO 0 1 (.tup [u i,v i]) (x::y::c)=some (some (u i)::some (v i)::c) from rfl]
  dsimp only[zV];rw[zP];dsimp only;have E:zU me (some (u i)::some (v i)::c) a A=.ok (some (u i)::some (v i)::c,a++[g i]) A:=by
   unfold zU;rw[b i (by omega),zP,ah (by omega)]
  rw[E,zP];rw[e,aP,range'_succ,aR]
  rfl
def OY {N:Nat}{u v g:Nat->W}(f:mi ρ A=.ok j A)(b:j.len=N)(d:N<=1000)(H:∀i,i<N->j.at_ A i=some (some (.tup [u i,v i])))(h:j.at_ A N=some none)
  (l:∀i,i<N->me (some (u i)::some (v i)::cap.map λi=>(ρ[i]?).join) A=.ok (g i) A):qc 2 cap mi (jO 0 1) ql (zU me) ρ A=.ok ((List.range N).map g) A:=by
 obtain⟨a,e⟩:=C8 (A:=A) (c:=cap.map λi=>(ρ[i]?).join) H h l N 0 none none [] (by omega) (by unfold qj;simp;omega)
 unfold qc;rw[f,zP,b];show R.bind (R.nox (jq j _ _ _ N 0 (none::none::cap.map λi=>(ρ[i]?).join) [] A)) _=_;rw[e,<- range_eq_range',bM]
 rfl
def Je {r:R α}{a:α}(h:r=.ok a A):r.nox=.ok a A:=by rw[h];rfl
def TK {m:Ex}{w:W}(h:m (ws.map some++List.replicate (n-ws.length) none) A=.ok (.rt w) A1):Ze n m ws A=.ok w A1:=by unfold Ze;rw[h];rfl
def MH {m:Ex}(h:m (ws.map some++List.replicate (n-ws.length) none) A=.ok (.nx ρ) A1):Ze n m ws A=.ok .non A1:=by unfold Ze;rw[h];rfl
def Q7 {M a:Ex}(h:M ρ A=.exc x A1):zo M a ρ A=.exc x A1:=by unfold zo;rw[h,NZ]
def Xf {m:Ev}(h:m ρ A=.exc x A1):jB m ρ A=.exc x A1:=by unfold jB;rw[h,NZ]
def YG {m:Ex}(h:m (ws.map some++List.replicate (n-ws.length) none) A=.exc x A1):Ze n m ws A=.exc x A1:=by unfold Ze;rw[h];rfl
def mx {m M:Ev}{u v:List W}(h:m ρ A=.ok (.tup u) A)(H:M ρ A=.ok (.tup v) A):Zi m M ρ A=.ok (Qg (.tup u) (.tup v) u.length) A:=by
 unfold Zi;rw[h,zP,H,zP]
 rfl
def CB {a:Ea}{x y:List W}{r:Nat}{u e:Option W}(H:A[r]? =some (.lst x))(h:a [u,e,none,rO r] A=.ok y A)(l:x.length+y.length<=100):
  zQ 3 (zi qk zS (qp a)) [u,e,none,rO r] A=.ok (.nx [u,e,none,rO (A.length+1)]) (A++[.lst y]++[.lst (x++y)]):=by
 refine(qH ((zM (zp (i:=3) rfl) (jV h)).trans (Wc (jy H) qM (by unfold qj;omega)))).trans ?_
 rw[av,aW]
 rfl
def Wb {a:Ea}{xs ys zs:List W}{L:Hx}{j:Nat}{u e:Option W}(c:L[j]? =some (.lst xs))(b:∀m A,a [u,e,none,m] A=.ok ys A)(H:xs.length+ys.length<=100)(h:xs++ys=zs):
  zQ 3 (zi qk zS (qp a)) [u,e,none,rO (A.length+j)] (A++L)=.ok (.nx [u,e,none,rO (A.length+(L.length+1))]) (A++(L++[.lst ys,.lst zs])):=by
 have d:(A++L)[A.length+j]? =some (.lst xs):=by rw[au (by omega),show A.length+j-A.length=j by omega];exact c
 rw[CB d (b _ _) H,h,av,aP,aP,Nat.add_assoc]
 rfl
noncomputable def qt (i a n:Nat):List W:=(List.range' a n).map λk=>W.bl (decide (k=i))
def Wg {f:Fn}{u:List W}{k:Nat}(n:jk u=true)(h:f u []=.ok (.ref k) A1)(H:A1[k]? =some (.lst ws))(w:jk ws=true):iso f u A=.ok (.ref A.length) (A++[.lst ws]):=by
 unfold iso;rw[ah n,h];dsimp only;rw[H];dsimp only;rw[ah w]
end G
namespace Mi
open PySem L2
section
variable {c:En}{f:Nat}{x:Option W}{w y:W}{acc:List W}{m:Ev}
def Yt (h:n<1000000):jH (n:Int)=true:=by
 unfold jH;rw[ak,ao,ao];omega
def Ai (h:j.at_ A i=some none):jq j (zG 0) (zV (.bl true)) (zU me) f i ρ acc A=.ok (ρ,acc) A:=by
 cases f<;>(unfold jq;rw[h])
def UD (h:j.at_ A i=some (some w))(a:me (some w::c) A=.ok y A1)(H:acc.length<qj):jq j (zG 0) (zV (.bl true)) (zU me) (f+1) i (x::c) acc A=jq j (zG 0) (zV (.bl true)) (zU me) f (i+1) (some w::c) (acc++[y]) A1:=by
 rw[jq,h];dsimp only[zG,List.set,zV];rw[zP];dsimp only;have e:zU me (some w::c) acc A=.ok (some w::c,acc++[y]) A1:=by
  unfold zU;rw[a,zP,ah H]
 rw[e,zP]
def my (h:m ρ A=.ok (.ref n) A1)(H:A1[n]? =some (.lst ws)):qu m ρ A=.ok ⟨λA i=>(zY (.ref n) A).map λws=>ws[i]?,ws.length⟩ A1:=by
 unfold qu W5;rw[h,zP];have e:zY (.ref n) A1=some ws:=by unfold zY;dsimp only;rw[H]
 rw[e]
def XS (h:A[n]? =some (.lst ws)):((zY (.ref n) A).map λws=>ws[i]?)=some ws[i]?:=by
 have e:zY (.ref n) A=some ws:=by unfold zY;dsimp only;rw[h]
 rw[e];rfl
def JD {g:W->Option PyData}{d:PyData}{D:List PyData}(h:g w=some d)(r:yV g ws=some D):yV g (w::ws)=some (d::D):=by
 unfold yV;rw[h,r]
def YK {k:Nat}{v:Int}(h:A[n]? =some (.lst [.int v])):qP A (k+1) (.ref n)=some (.list [.int v]):=by
 unfold qP;have e:zY (.ref n) A=some [.int v]:=by unfold zY;dsimp only;rw[h]
 rw[e];cases k<;>rfl
def US {k:Nat}{d:List PyData}(h:A[n]? =some (.lst ws))(H:yV (qP A k) ws=some d):qP A (k+1) (.ref n)=some (.list d):=by
 unfold qP;have e:zY (.ref n) A=some ws:=by unfold zY;dsimp only;rw[h]
 rw[e];dsimp only;rw[H]
 rfl
def mz {a b:W}{d:PyData}(c:qP A 8 a=some d)(H:qP A 8 b=some d)(h:PyData.eqv d d=true):jw a b A=.ok (.bl false) A:=by
 show gh true a b A=_;unfold gh;rw[c,H];dsimp only;rw[ah rfl,h]
 rfl
end
end Mi
namespace G
open PySem L2 Mi
section
def mB (a:A[0]? =some (.ro (ns.map W.int)))(k:Nat):∃x:Int,Gv [.ref 0,.int k] A=.ok (.int x) A:=by
 have H:zY (.ref 0) A=some (ns.map W.int):=by unfold zY;dsimp only;rw[a]
 have l:mQ zT (zJ zr) [rO 0,iV k] A=.ok (.int ns.length) A:=by
  rw[jX (yA (w:=.ref 0) (A1:=A) (zp rfl) H)];unfold zT;rw[ag]
 have e:zi QW zq (mQ zT (zJ zr)) [rO 0,iV k] A=.ok (.bl (decide ((k:Int)<ns.length))) A:=(zM (zp (w:=.int k) rfl) l).trans rfl
 by_cases h:k<ns.length
 ·refine⟨ns[k],ja ?_⟩
  unfold VZ;rw[az (by omega)]at e
  refine qx ((ko e).trans (qx (qT ?_)));refine(zM (x:=.ref 0) (y:=.int k) (A1:=A) (A2:=A) (zp rfl) (zp rfl)).trans ?_;unfold zB;rw[H];dsimp only;rw[Xo (v:=.int ns[k]) (by rw[ar,ae h];rfl)]
 ·refine⟨0,ja ?_⟩
  unfold VZ;rw[aH (by omega)]at e
  exact(zH ((yb e).trans rfl)).trans rfl
def mC (H:A[0]? =some (.ro (ns.map W.int)))(k:Nat):∃o,Ys [.ref 0,.int k] A=.ok (.ref A.length) (A++[o])/\jj A.length (A++[o]):=by
 obtain⟨x,e⟩:=mB H k;have a:zQ 2 (zC Gv (zc zr (zc zq zj))) [rO 0,iV k,none] A=.ok (.nx [rO 0,iV k,iV x]) A:=by
  refine(qH (w:=.int x) (A1:=A) ?_).trans rfl;rw[qd (ws:=[.ref 0,.int k]) (A1:=A) rfl];exact e
 have E:zi RO zL (zi Kh QS (zV (.int 18))) [rO 0,iV k,iV x] A=.ok (.bl (decide ((1000000000000000000:Int)<=x))) A:=(zM (x:=.int x) (y:=.int 1000000000000000000) (A1:=A) (A2:=A) (zp rfl) rfl).trans rfl
 by_cases h:(1000000000000000000:Int)<=x
 ·refine⟨.lst [.int (x-1000000000000000000),.bl true],ja ?_,x-1000000000000000000,true,qM,by omega,λz=>nomatch z⟩
  unfold Uj;rw[az h]at E;refine(zH a).trans (qx ((ko E).trans (qx (qT (jV ?_)))))
  rfl
 ·refine⟨.lst [.int (x%2147483647),.bl false],ja ?_,x%2147483647,false,qM,emod_nonneg _ (by decide),λ_=>bL _ (by decide)⟩
  unfold Uj;rw[aH h]at E;refine(zH a).trans ((zH ((yb E).trans rfl)).trans (qx (qT (jV ?_))));refine zD (A1:=A) (A2:=A) ((zM (x:=.int x) (y:=.int 2147483647) (A1:=A) (A2:=A) (zp rfl) rfl).trans (JM (by decide))) rfl
variable {w:W}
def mD (h:qz t)(A:Hx):wW [zw t] A=.ok (.bl true) A:=mu h A
def mE (h:Yf A w):wW [w] A=.ok (.bl false) A:=h A λ_ _ z=>z
def Nq (h:qz t)(A:Hx):Kz [zw t] A=.ok .non A:=by
 refine MH (ρ:=[some (zw t)]) ?_;unfold VU;refine(zH (ρ1:=[some (zw t)]) (A1:=A) ((yb (A1:=A) ?_).trans rfl)).trans rfl;exact Je (kQ (k:=true) ((qd (ws:=[zw t]) (A1:=A) rfl).trans (mD h A)))
def B9 (h:Yf A w):Kz [w] A=.exc "NoTable" A:=by
 refine YG ?_;unfold VU;exact Q7 ((ko (A1:=A) (Je (kQ (k:=false) ((qd (ws:=[w]) (A1:=A) rfl).trans (mE h))))).trans (Q7 rfl))
variable {a b k:Nat}
def mF {ty:Ty}(h:j0 w A=some ty):(kL ty .int&&!kL ty .bl)=wd w:=by
 cases w with
 |ref k=>
  unfold j0 at h;dsimp only at h
  split at h
  ·cases h;rfl
  ·cases h;rfl
  ·cases h
 |clo _ _ _=>cases h|xc _=>cases h|fn _=>cases h|_=>cases h;rfl
def WO {a b:Ev}{p q:Bool}(h:a ρ A=.ok (.bl p) A)(H:b ρ A=.ok (.bl q) A):jY a b ρ A=.ok (.bl (p&&q)) A:=by
 cases p with
 |true=>exact(Z8 h).trans H|false=>exact Jj h
def MD {ty:Ty}(h:j0 w A=some ty):Q4 [w] A=.ok (.bl (wd w)) A:=by
 unfold Q4 Uy Nc;refine ja (qx (qT ((WO (QK (zp rfl) h) (kQ (QK (zp rfl) h))).trans ?_)));rw[mF h]
def mG (h:qz t)(a:ρ[i]? =some (some (zw t))):mQ kx (qc 1 [] (qu (qg i)) (zG 0) ql (zU (mQ kx (zJ zr)))) ρ A=.ok (.int (qw t-1)) A:=by
 have n:=h.n8;have e:=G2 (cap:=[]) (A:=A) (ρ:=ρ) (o:=t) (f:=zt) (m:=qg i) (me:=mQ kx (zJ zr)) (G:=λr=>.int (kM r)) (zp a) (by unfold qj;omega) (λr H=>(jX (yA (w:=zt r) (ws:=r.map W.int) (A1:=A) (zp rfl) rfl)).trans (U0 (h.row_ne H)))
 have E:(t.map λr=>W.int (kM r))=(t.map kM).map W.int:=by rw[aX];rfl
 rw[E]at e;refine((jX e).trans (U0 h.map_ne)).trans ?_
 have:qw t-1=kM (t.map kM):=by unfold qw;omega
 rw[this]
def YL (h:qz t)(A:Hx):Zy [zw t] A=.ok (.int (qw t)) A:=by
 refine Qz (A1:=[]) (gq t) rfl (ja ?_);unfold P2;refine qx (qT ((zM (mG h rfl) qe).trans ?_));show R.ok (W.int (qw t-1+1)) []=_
 congr 2
 omega
def len_tab (h:ρ[i]? =some (some (zw t))):mQ zT (zJ (qg i)) ρ A=.ok (.int t.length) A:=by
 have:=Y3 (ws:=t.map zt) (A:=A) h
 rw[ag]at this;exact this
end
section
variable {N b:Nat}
def mH {g:Nat->Int}{k:Int}(h:b<N):((List.range N).map λj=>W.int (g j)).set b (.int k)=(List.range N).map λj=>W.int (if j=b then k else g j):=by
 apply ext_getElem?
 intro i
 by_cases H:i<N
 ·by_cases q:b=i
  ·subst q
   rw[ay (by simpa using H),ar,aU H]
   simp
  ·rw[ax q,ar,ar,aU H]
   simp[Ne.symm q]
 ·rw[aD (by simp;omega),aD (by simp;omega)]
end
structure LC (K:Nat)(μ:Nat->Nat->Int)(C:Hx):Prop where
 top:C[2 * K]? =some (.lst ((List.range K).map λi=>W.ref (2 * i+1)))
 row:∀i,i<K->C[2 * i+1]? =some (.lst ((List.range K).map λj=>W.int (μ i j)))
section
variable {K a b j:Nat}{μ:Nat->Nat->Int}{C:Hx}
def LC.put (h:LC K μ C)(f:i<K)(e:j<K)(k:Int):∃b,ku (.ref (2 * i+1)) (.int j) (.int k) C=.ok () b/\LC K (J3 μ i j k) b:=by
 have r:=h.row i f;have H:=yf r;refine⟨_,mf r (by simp;omega),?_,λc d=>?_⟩
 ·rw[ax (by omega)];exact h.top
 ·by_cases q:c=i
  ·subst q
   rw[ay H,mH e]
   congr 3
   funext a
   unfold J3
   by_cases z:a=j
   ·rw[ah z,ah ⟨rfl,z⟩]
   ·rw[aj z,aj (by rintro⟨_,w⟩;exact z w)]
  ·rw[ax (by omega),h.row c d]
   congr 3
   funext a
   unfold J3;rw[aj (by rintro⟨w,_⟩;exact q w)]
def LC.aug (h:LC K μ C){mo mi:Ev}(o:mo ρ C=.ok (.ref (2 * i+1)) C)(b:mi ρ C=.ok (.int j) C)(a:i<K)(H:j<K):∃c,WL mo mi qh ρ C=.ok (.nx ρ) c/\LC K (J3 μ i j (μ i j+1)) c:=by
 obtain⟨c,e,l⟩:=h.put a H (μ i j+1);refine⟨c,?_,l⟩;unfold WL;rw[o,zP,b,zP];dsimp only;rw[ah (by omega),h.row i a]
 dsimp only;rw[aA,ar,aU H];show R.bind (ku (.ref (2 * i+1)) (.int j) (.int (μ i j+1)) C) _=_;rw[e,zP]
def LC.ix (h:LC K μ C){m M:Ev}(b:m ρ C=.ok (.ref (2 * K)) C)(H:M ρ C=.ok (.int i) C)(a:i<K):zi zB m M ρ C=.ok (.ref (2 * i+1)) C:=
 (zM b H).trans (gD h.top (by rw[ar,aU a];rfl))
def rep1 (w:W):∀n:Nat,(List.replicate n [w]).flatten=(List.range n).map λ_=>w:=λn=>by
 rw[List.map_const',aG]
 induction n with
 |zero=>rfl|succ n i=>rw[a9,a6,i];rfl
def AM (n:K<=8){x0 x1 x2 x4:Option W}{l:List (Option W)}:∃C,qW (qc 1 [3] (qN zS) (zG 0) ql (zU (zi qG (qp (zc zZ zj)) zq))) (x0::x1::x2::iO K::x4::l) []=.ok (.ref (2 * K)) C/\LC K (λ_ _=>0) C:=by
 have r:=kE (m:=qg 3) (ρ:=x0::x1::x2::iO K::x4::l) (A:=[]) (k:=(K:Int)) rfl (Z2 (by omega))
 rw[aA]at r;obtain⟨g,o,B,e,_,H,h⟩:=K4 (nl:=1) (cap:=[3]) (tw:=zG 0) (ifs:=zV (.bl true)) (em:=zU (zi qG (qp (zc zZ zj)) zq)) (N:=K)
  (I:=λi p o B=>(∃y,p=[y,iO K])/\(B.length=2 * i/\∀c,c<i->B[2 * c+1]? =some (.lst ((List.range K).map λj=>W.int 0)))/\o=(List.range i).map λc=>W.ref (2 * c+1)) r rfl
  (λi p o B b ⟨⟨y,a⟩,⟨d,H⟩,h⟩=>by
   subst a h;refine⟨_,_,yI b,rfl,.inl ⟨B,_,_,B++[.lst [.int 0]]++[.lst ((List.range K).map λj=>W.int 0)],rfl,Wa (y:=.ref (2 * i+1)) ?_ (by rw[ag,aG];unfold qj;omega),⟨_,rfl⟩,⟨by simp;omega,λc f=>?_⟩,by rw[bf,aN];rfl⟩⟩
   ·refine(zM (jV (zD qe zN)) (zp (i:=1) (w:=.int K) rfl)).trans ?_
    unfold qG;dsimp only;rw[qM];dsimp only;rw[ah (by rw[Z2 (by omega),aA];simp;unfold qj;omega),aA,av,d,rep1]
    rfl
   ·by_cases q:c=i
    ·subst q
     rw[au (by simp;omega)]
     simp[d]
    ·rw[ai (by simp;omega),ai (by omega)]
     exact H c (by omega))
  (λp o B _=>yH (by omega)) ⟨⟨none,rfl⟩,⟨rfl,λc f=>absurd f (Nat.not_lt_zero _)⟩,rfl⟩
 subst h;refine⟨B++[.lst ((List.range K).map λc=>W.ref (2 * c+1))],?_,?_,λi b=>?_⟩
 ·rw[km e,H.1]
 ·rw[<- H.1];exact qM
 ·exact jy (H.2 i b)
def mI {m:Ev}{k:Nat}(h:m ρ A=.ok (.ref k) A)(a:A[k]? =some (.lst ws))(l:ws.length<=qj){g:W->W}(b:∀w∈ws,me (some w::cap.map λi=>(ρ[i]?).join) A=.ok (g w) A):
  qc 1 cap (qu m) (zG 0) ql (zU me) ρ A=.ok (ws.map g) A:=by
 have e:=gA (cap:=cap) (me:=me) (ρ:=ρ) (A:=A) (N:=ws.length) (item:=λi=>ws.getD i .non) (g:=λi=>g (ws.getD i .non)) (ZD h a) rfl l
  (λi H=>(yT a).trans (by rw[ae H,aa,ae H];rfl))
  ((yT a).trans (by rw[aD (aq _)]))
  (λi H=>by
   have:ws.getD i .non=ws[i]:=by rw[aa,ae H];rfl
   rw[this];exact b _ (aJ H))
 rw[e]
 congr 1
 apply a7
 ·simp
 ·intro i d c
  have H:i<ws.length:=by simpa using c
  simp[aa,ae H]
theorem LC.tup (h:LC K μ C)(d:K<=8){i:Nat}(b:ρ[i]? =some (rO (2 * K))):mQ jt (qc 1 [] (qu (qg i)) (zG 0) ql (zU (mQ jt (zJ zr)))) ρ C=.ok (zw (yc K μ)) C:=by
 have e:=mI (cap:=[]) (ws:=(List.range K).map λi=>W.ref (2 * i+1)) (me:=mQ jt (zJ zr)) (zp b) h.top (by simp;unfold qj;omega) (g:=λw=>match w with|.ref n=>(match C[n]? with|some (.lst ws)=>.tup ws|_=>.non)|_=>.non) (λw f=>by
  obtain⟨c,a,rfl⟩:=cx.mp f;have H:=h.row c (cn.mp a);dsimp only;rw[H];exact Wx (yA (w:=.ref (2 * c+1)) (A1:=C) (zp rfl) (by unfold zY;dsimp only;rw[H])))
 rw[Wx e]
 congr 1
 unfold zw yc;rw[aX,aX]
 congr 1
 refine bh λc a=>?_;have H:=h.row c (cn.mp a);show(match C[2 * c+1]? with|some (.lst ws)=>W.tup ws|_=>.non)=zt ((List.range K).map (μ c))
 rw[H];unfold zt;rw[aX]
 rfl
def shr (t:bQ)(a b:Nat):Nat->Nat->Nat->Int
 |0=>λ_ _=>0|n+1=>J3 (shr t a b n) (at2 t a n).toNat (at2 t b n).toNat (shr t a b n (at2 t a n).toNat (at2 t b n).toNat+1)
def jz (t:bQ)(K a b:Nat):bQ:=yc K (shr t a b t.length)
def JJ (d:qz t)(c:qw t=(K:Int))(H:a<t.length)(h:b<t.length):((at2 t a b).toNat:Int)=at2 t a b/\(at2 t a b).toNat<K:=by
 have f:=Y7 d H h;have e:=WA d H h;omega
def UA (x:qz t)(f:qw t=(K:Int))(c:a<t.length)(H:b<t.length)(A:Hx):Q0 [zw t,.int a,.int b] A=.ok (zw (jz t K a b)) A:=by
 have M:=x.n8;have kb:=kI x;have d:((t.getD a []).map W.int).length=t.length:=by rw[ag,x.sq _ (kF c)]
 have u:((t.getD b []).map W.int).length=t.length:=by rw[ag,x.sq _ (kF H)]
 obtain⟨C,v,p⟩:=AM (K:=K) (by omega) (x0:=some (zw t)) (x1:=iO a) (x2:=iO b) (x4:=none) (l:=[none,none])
 obtain⟨g,B,E,L,Y,y,h⟩:=kj (j:=Qg (.tup ((t.getD a []).map W.int)) (.tup ((t.getD b []).map W.int)) ((t.getD a []).map W.int).length) (st:=turn (jO 5 6) (zo (WL (zi zB zW jC) j8 qh) zy)) (N:=t.length)
  (I:=λn J B=>LC K (shr t a b n) B/\∃Y y,J=[some (zw t),iO a,iO b,iO K,rO (2 * K),Y,y])
  (λn J B D ⟨l,Y,y,h⟩=>by
   subst h;obtain⟨o,q⟩:=JJ x f c D;obtain⟨i,Q⟩:=JJ x f H D;obtain⟨w,e,r⟩:=l.aug (ρ:=[some (zw t),iO a,iO b,iO K,rO (2 * K),iV (at2 t a n),iV (at2 t b n)]) (mo:=zi zB zW jC) (mi:=qg 6) (l.ix (zp rfl) (zp (by rw[o];rfl)) q) (zp (by rw[i];rfl)) q Q
   refine⟨.tup [.int (at2 t a n),.int (at2 t b n)],_,w,?_,(yo rfl).trans ((zH e).trans qQ),r,_,_,rfl⟩;show some (zip2 ((t.getD a []).map W.int)[n]? ((t.getD b []).map W.int)[n]?)=_;rw[int_at (by rw[x.sq _ (kF c)];exact D),int_at (by rw[x.sq _ (kF H)];exact D)]
   rfl)
  (λJ B _=>by
   show some (zip2 ((t.getD a []).map W.int)[t.length]? ((t.getD b []).map W.int)[t.length]?)=_;rw[aD (by omega),aD (by omega)]
   rfl) t.length 0 [some (zw t),iO a,iO b,iO K,rO (2 * K),none,none] C (by omega) ⟨p,_,_,rfl⟩
 subst h;refine Qz (A1:=B) (gq t) (Qw _) (ja ?_);unfold PD;refine(zH (qH ((qd (zD (zp rfl) zN)).trans ((YL x []).trans (by rw[f]))))).trans ?_
 refine(zH (qH v)).trans ?_;refine(zH (ρ1:=[some (zw t),iO a,iO b,iO K,rO (2 * K),Y,y]) (A1:=B) ((j3 (mx ((zM (zp rfl) (zp rfl)).trans (JF c)) ((zM (zp rfl) (zp rfl)).trans (JF H)))).trans ?_)).trans (qx (qT (L.tup (by omega) rfl)))
 have:(Qg (.tup ((t.getD a []).map W.int)) (.tup ((t.getD b []).map W.int)) ((t.getD a []).map W.int).length).len=t.length:=d
 rw[this];exact E
variable {w:W}
def TC {m:Ev}{a:En}{w:W}(h:m ρ A=.ok w A1)(H:tw w ρ=some a):Kc m tw ρ A=.ok (.nx a) A1:=by
 unfold Kc;rw[h,zP,H]
end
def Zu (t:bQ)(a b:Nat):List (Int×Int):=(List.range t.length).map λc=>(at2 t a c,at2 t b c)
def jW (t:bQ):Prop:=∀a b c e,a<t.length->b<t.length->c<t.length->e<t.length->at2 t a b=at2 t c e->(Zu t a b).Perm (Zu t c e)
def Qh (t:bQ)(k:Int):Nat:=((List.range (t.length * t.length)).find? λm=>decide (at2 t (m/t.length) (m%t.length)=k)).getD 0
def U5 (t:bQ):Bool:=(List.range t.length).all λa=>(List.range t.length).all λb=>let m:=Qh t (at2 t a b);(Zu t a b).isPerm (Zu t (m/t.length) (m%t.length))
def O5 (h:U5 t=true):jW t:=λa b c e j i g n f=>by
 unfold U5 at h;rw[aZ]at h;have l:=h a (cn.mpr j);rw[aZ]at l;have o:=List.isPerm_iff.mp (l b (cn.mpr i));have d:=h c (cn.mpr g);rw[aZ]at d;have H:=List.isPerm_iff.mp (d e (cn.mpr n));rw[<- f]at H;exact o.trans H.symm
def MJ {p:bV}(a:p.Nodup){u v:Nat}(H:u<=p.length)(h:v<=p.length)(e:(jA p).getD u 0=(jA p).getD v 0):u=v:=by
 by_cases c:u=0
 ·by_cases b:v=0
  ·omega
  ·exfalso
   subst c;rw[Q9 (v:=v) (by omega) h]at e
   have:(jA p).getD 0 0=0:=rfl
   omega
 ·by_cases b:v=0
  ·exfalso
   subst b;rw[Q9 (v:=u) (by omega) H]at e
   have:(jA p).getD 0 0=0:=rfl
   omega
  ·rw[Q9 (by omega) H,Q9 (by omega) h]at e
   have E:p[u-1]'(by omega)=p[v-1]'(by omega):=by omega
   have:=(getElem_inj a).mp E
   omega
section
variable {p o:bV}
def Md (H:o.Perm (List.range t.length)){a b:Nat}(d:a<t.length)(c:b<t.length):at2 (w5 t p o) a b=(jA p).getD (at2 t (o.getD a 0) (o.getD b 0)).toNat 0:=by
 have h:o.length=t.length:=by rw[H.length_eq,aG]
 unfold at2 w5;rw[aa (l:=List.map _ o),ar,ae (by omega)]
 show(List.map _ o).getD b 0=_;rw[aa,ar,ae (by omega)]
 show(jA p).getD (at2 t _ _).toNat 0=_;unfold at2;rw[aa (l:=o) (i:=a),ae (by omega),aa (l:=o) (i:=b),ae (by omega)]
 rfl
def Bq {u v:bQ}{f:Int->Int}(p:u.length=v.length)(n:o.Perm (List.range v.length))(j:∀a b,a<v.length->b<v.length->at2 u a b=f (at2 v (o.getD a 0) (o.getD b 0)))
  (y:∀a b c e,a<v.length->b<v.length->c<v.length->e<v.length->f (at2 v a b)=f (at2 v c e)->at2 v a b=at2 v c e)(s:jW v):jW u:=by
 have l:o.length=v.length:=by rw[n.length_eq,aG]
 have h:∀i,i<v.length->o.getD i 0<v.length:=λi w=>by
  rw[aa,ae (by omega)]
  exact cn.mp (n.mem_iff.mp (aJ _))
 have r:∀a b,a<v.length->b<v.length->(Zu u a b).Perm ((Zu v (o.getD a 0) (o.getD b 0)).map λq=>(f q.1,f q.2)):=λa b g d=>by
  unfold Zu;rw[p,aX];have t:(List.range v.length).map (λc=>(at2 u a c,at2 u b c))=(List.range v.length).map λc=>(f (at2 v (o.getD a 0) (o.getD c 0)),f (at2 v (o.getD b 0) (o.getD c 0))):=bh λc H=>by
   rw[j a c g (cn.mp H),j b c d (cn.mp H)]
  rw[t];have E:=KL o 0 λc=>(f (at2 v (o.getD a 0) c),f (at2 v (o.getD b 0) c));rw[l]at E;rw[<- E];exact n.map _
 intro a b c e g d H x q;rw[p]at g d H x;rw[j a b g d,j c e H x]at q
 have:=s _ _ _ _ (h a g) (h b d) (h c H) (h e x) (y _ _ _ _ (h a g) (h b d) (h c H) (h e x) q)
 exact(r a b g d).trans ((this.map _).trans (r c e H x).symm)
def D8 (h:qz t)(g:p.Perm (List.range (qw t-1).toNat))(i:o.Perm (List.range t.length))(s:jW t):jW (w5 t p o):=by
 have l:p.length=(qw t-1).toNat:=by rw[g.length_eq,aG]
 have kb:=kI h;have n:p.Nodup:=(g.nodup_iff).mpr nodup_range;have j:∀a b,a<t.length->b<t.length->(at2 t a b).toNat<=p.length/\((at2 t a b).toNat:Int)=at2 t a b:=λa b d H=>by
  have:=Y7 h d H
  have:=WA h d H
  omega
 refine Bq (f:=λv=>(jA p).getD v.toNat 0) (NJ h g i).2 i (λa b d H=>Md i d H) (λa b c e d H r w q=>?_) s;have u:=j _ _ d H;have K:=j _ _ r w
 have:=MJ n u.1 K.1 q
 omega
variable {a b c e K:Nat}
theorem Yy (e:qz t)(H:a<t.length)(h:b<t.length):∀n,n<=t.length->∀i j:Nat,shr t a b n i j=((((List.range n).map λc=>(at2 t a c,at2 t b c)).count ((i:Int),(j:Int)):Nat):Int)
 |0,_,i,j=>rfl|n+1,hn,i,j=>by
  have I:=Yy e H h n (by omega)
  have f:=(Y7 e H (show n<t.length by omega)).1
  have K:=(Y7 e h (show n<t.length by omega)).1
  rw[bf,aN,List.count_append,List.map_singleton,List.count_singleton];show J3 (shr t a b n) (at2 t a n).toNat (at2 t b n).toNat (shr t a b n (at2 t a n).toNat (at2 t b n).toNat+1) i j=_;unfold J3
  by_cases q:i=(at2 t a n).toNat/\j=(at2 t b n).toNat
  ·rw[ah q,<- q.1,<- q.2,I,ah (by rw[aL];ext<;>simp<;>omega)]
   omega
  ·rw[aj q,I,aj (by
    rw[aL];intro z;injection z with d Z
    exact q ⟨by omega,by omega⟩)]
   omega
def N0 (f:qz t)(s:jW t)(d:a<t.length)(H:b<t.length)(h:c<t.length)(g:e<t.length)(q:at2 t a b=at2 t c e):jz t K a b=jz t K c e:=by
 unfold jz yc;refine bh λi _=>bh λj _=>?_;rw[Yy f d H _ (aq _),Yy f h g _ (aq _)]
 have:=(s a b c e d H h g q).count_eq ((i:Int),(j:Int))
 unfold Zu at this;rw[this]
end
def GQ {st:W->Ex}{N:Nat}{I:Nat->En->Hx->Prop}{Q:W->Hx->Prop}
  (H:∀i l A,i<N->I i l A->∃w,j.at_ A i=some (some w)/\((∃ρ1 A1,st w l A=.ok (.nx ρ1) A1/\I (i+1) ρ1 A1)∨∃r A1,st w l A=.ok (.rt r) A1/\Q r A1))(d:∀l A,I N l A->j.at_ A N=some none):
  ∀(f i:Nat)(l:En)(A:Hx),i+f=N->I i l A->(∃a A',yL j st f i l A=.ok (.nx a) A'/\I N a A')∨∃r A',yL j st f i l A=.ok (.rt r) A'/\Q r A':=by
 intro f
 induction f with
 |zero=>
  intro i l A h b
  have:i=N:=by omega
  subst this;exact .inl ⟨l,A,Ux (d _ _ b),b⟩
 |succ f g=>
  intro i l A h b;obtain⟨w,o,n|n⟩:=H i l A (by omega) b
  ·obtain⟨ρ1,A1,n,c⟩:=n
   rcases g (i+1) ρ1 A1 (by omega) c with ⟨a,A',e,q⟩|⟨r,A',e,q⟩
   ·exact .inl ⟨a,A',(GW o n).trans e,q⟩
   ·exact .inr ⟨r,A',(GW o n).trans e,q⟩
  ·obtain⟨r,A1,n,c⟩:=n
   refine .inr ⟨r,A1,?_,c⟩;unfold yL;rw[o];dsimp only;rw[n]
   rfl
noncomputable def J7 (r:bR):PyData:=.tuple (r.map .int)
def Ri (t:bQ):PyData:=.tuple (t.map J7)
theorem G0 {f:W->Option PyData}{g:α->W}{h:α->PyData}(e:∀a,f (g a)=some (h a)):∀l:List α,yV f (l.map g)=some (l.map h)
 |[]=>rfl|a::l=>by
  rw[aR,yV,e a,G0 e l]
  rfl
def MN (A:Hx)(n:Nat)(r:bR):qP A (n+1) (zt r)=some (J7 r):=by
 show(yV (qP A n) (r.map W.int)).map PyData.tuple=_;rw[G0 (h:=PyData.int) (λi=>by cases n<;>rfl)]
 rfl
def My (A:Hx)(n:Nat)(t:bQ):qP A (n+2) (zw t)=some (Ri t):=by
 show(yV (qP A (n+1)) (t.map zt)).map PyData.tuple=_;rw[G0 (h:=J7) (MN A n)]
 rfl
section
variable {k:Nat}{w:W}{kvs:List (Key×W)}
theorem NV {k:Key}{w:W}:∀{K:List (Key×W)},kq k K=some w->(k,w)∈K
 |[],h=>by cases h|(j,u)::r,h=>by
  have h:(if j=k then some u else kq k r)=some w:=h
  by_cases q:j=k
  ·rw[ah q]at h;cases h;subst q;exact aE ..
  ·rw[aj q]at h;exact aw _ (NV h)
def MY {f:Fn}{u:List W}{k:Nat}(n:jk u=true)(h:f u []=.ok (.ref k) A1)(H:A1[k]? =some (.dct kvs))(w:jk (kvs.map (·.2))=true):iso f u A=.ok (.ref A.length) (A++[.dct kvs]):=by
 unfold iso;rw[ah n,h];dsimp only;rw[H];dsimp only;rw[ah w]
end
theorem OS:∀s t:bQ,PyData.eqvAll (s.map J7) (t.map J7)=decide (s=t)
 |[],[]=>by simp[PyData.eqvAll]|[],_::_=>by simp[PyData.eqvAll]|_::_,[]=>by simp[PyData.eqvAll]|a::l,b::m=>by
  simp only[aR,PyData.eqvAll,OS l m,J7,PyData.eqv,O3];rw[Bool.eq_iff_iff];simp
def mK (s t:bQ)(A:Hx):jw (zw s) (zw t) A=.ok (.bl (!decide (s=t))) A:=by
 show gh true _ _ A=_;unfold gh;rw[My A 6 s,My A 6 t];dsimp only;rw[ah rfl,Ri,Ri,PyData.eqv,OS]
noncomputable def pre (n a b:Nat):List (Nat×Nat):=((List.range a).flatMap λx=>(List.range n).map λy=>(x,y))++(List.range b).map λy=>(a,y)
def Qj (n:Nat):List (Nat×Nat):=pre n n 0
section
variable {a b:Nat}
def mL:pre n a (b+1)=pre n a b++[(a,b)]:=by
 unfold pre;rw[bf,aN,<- aP]
 rfl
def mM:pre n a n=pre n (a+1) 0:=by
 unfold pre;rw[bf,bP];simp
def mO {x y:Nat}:(x,y)∈pre n a b↔(x<a/\y<n)∨(x=a/\y<b):=by
 unfold pre;rw[List.mem_append,List.mem_flatMap]
 constructor
 ·rintro(⟨z,h1,h2⟩|h)
  ·obtain⟨u,c,H⟩:=cx.mp h2
   cases H;exact .inl ⟨cn.mp h1,cn.mp c⟩
  ·obtain⟨u,c,H⟩:=cx.mp h
   cases H;exact .inr ⟨rfl,cn.mp c⟩
 ·rintro(⟨h1,h2⟩|⟨rfl,h⟩)
  ·exact .inl ⟨x,cn.mpr h1,cx.mpr ⟨y,cn.mpr h2,rfl⟩⟩
  ·exact .inr (cx.mpr ⟨y,cn.mpr h,rfl⟩)
def TF {x y:Nat}:(x,y)∈Qj n↔x<n/\y<n:=by
 unfold Qj;rw[mO];omega
def mP:(pre n a b).length=a * n+b:=by
 unfold pre;rw[av,ag,aG,List.length_flatMap]
 congr 1
 rw[bh (g:=λ_=>n) (λx _=>by rw[ag,aG])]
 rw[List.map_const',List.sum_replicate_nat,aG]
variable {e:Nat}{w:W}{acc L:List (Nat×Nat)}{p q:Nat×Nat}
abbrev wu (t:bQ)(p:Nat×Nat):Int:=at2 t p.1 p.2
def Jo (t:bQ)(a:List (Nat×Nat))(p:Nat×Nat):List (Nat×Nat):=if a.any (λq=>decide (wu t q=wu t p)) then a else a++[p]
def ka (t:bQ)(L:List (Nat×Nat)):List (Nat×Nat):=L.foldl (Jo t) []
def XH:ka t (L++[p])=Jo t (ka t L) p:=by
 unfold ka;rw[List.foldl_append]
 rfl
def snoc_ind {P:List α->Prop}(H:P [])(h:∀l a,P l->P (l++[a])):∀l,P l:=λl=>by
 have:∀l:List α,P l.reverse:=λl=>by
  induction l with
  |nil=>exact H|cons a l i=>rw[bJ];exact h _ _ i
 have:=this l.reverse
 rwa[List.reverse_reverse]at this
def AD:(ka t L).length<=L.length:=by
 refine snoc_ind (P:=λL=>(ka t L).length<=L.length) (aq _) (λl p i=>?_) L;rw[XH,av,aW];unfold Jo
 split
 ·omega
 ·rw[av,aW];omega
def NR:∀p∈ka t L,p∈L:=by
 refine snoc_ind (P:=λL=>∀p∈ka t L,p∈L) (λ_ h=>h) (λl p i=>?_) L;intro q H;rw[XH]at H;unfold Jo at H
 split at H
 ·exact br _ (i q H)
 ·rcases cB.mp H with h|h
  ·exact br _ (i q h)
  ·exact aQ _ h
def mR:∀p∈L,∃q∈ka t L,wu t q=wu t p:=by
 refine snoc_ind (P:=λL=>∀p∈L,∃q∈ka t L,wu t q=wu t p) (λ_ h=>by cases h) (λl p i=>?_) L
 intro q H;rw[XH];unfold Jo;rcases cB.mp H with h|h
 ·obtain⟨r,c,b⟩:=i q h
  split
  ·exact⟨r,c,b⟩
  ·exact⟨r,br _ c,b⟩
 ·rw[cz.mp h]
  split
  ·rename_i a
   obtain⟨r,c,b⟩:=List.any_eq_true.mp a;exact⟨r,c,of_decide_eq_true b⟩
  ·exact⟨p,aQ _ (cz.mpr rfl),rfl⟩
def yk (t:bQ)(p:Nat×Nat):Key×W:=(.inl (wu t p),.tup [.int p.1,.int p.2])
theorem Tu {v:Int}:∀acc:List (Nat×Nat),(kq (.inl v) (acc.map (yk t))).isSome=acc.any λq=>decide (wu t q=v)
 |[]=>rfl|q::l=>by
  show(if (Sum.inl (wu t q):Key)=.inl v then some _ else kq (.inl v) (l.map (yk t))).isSome=(decide (wu t q=v) || l.any λq=>decide (wu t q=v))
  by_cases h:wu t q=v
  ·rw[ah (by rw[h]),az h];rfl
  ·rw[aj (λe=>h (by injection e)),aH h,Tu l,Bool.false_or]
def mS {x3:Option W}(H:acc.length<1000):
  ∃w,YY Qv zq jC (qa (zc zL (zc zW zj))) [some (zw t),rO 0,iO a,x3,iO b,iV (at2 t a b)] [.dct (acc.map (yk t))]=.ok w [.dct ((Jo t acc (a,b)).map (yk t))]:=by
 have E:YY Qv zq jC (qa (zc zL (zc zW zj))) [some (zw t),rO 0,iO a,x3,iO b,iV (at2 t a b)] [.dct (acc.map (yk t))]=Qv (.ref 0) (.int (at2 t a b)) (.tup [.int a,.int b]) [.dct (acc.map (yk t))]:=rfl;rw[E];unfold Qv;show ∃w,(if (acc.map (yk t)).length<qj then(match kq (.inl (at2 t a b)) (acc.map (yk t)) with|some w=>R.ok w [.dct (acc.map (yk t))]|none=>.ok (.tup [.int a,.int b]) [O.dct (acc.map (yk t)++[((Sum.inl (at2 t a b):Key),W.tup [.int a,.int b])])]) else .bad)=.ok w [.dct ((Jo t acc (a,b)).map (yk t))]
 rw[ah (by rw[ag];unfold qj;omega)]
 have h:=Tu (t:=t) (v:=at2 t a b) acc;unfold Jo;cases e:kq (.inl (at2 t a b)) (acc.map (yk t)) with
 |some w=>
  rw[e]at h;rw[ah (show(acc.any λq=>decide (wu t q=wu t (a,b)))=true from h.symm)]
  exact⟨w,rfl⟩
 |none=>
  rw[e]at h;rw[aj (show ¬(acc.any λq=>decide (wu t q=wu t (a,b)))=true from λz=>by have z:=h.trans z;cases z)]
  exact⟨_,by rw[aN];rfl⟩
def La (v:qz t):P4 [zw t] []=.ok (.ref 0) [.dct ((ka t (Qj t.length)).map (yk t))]:=by
 have x:=v.n8;have c:(t.map zt).length=t.length:=ag ..;have n:∀a b,a<t.length->b<t.length->(ka t (pre t.length a b)).length<1000:=λa b f p=>by
  have D:=AD (t:=t) (L:=pre t.length a b);rw[mP]at D
  have:a * t.length<=8 * 8:=mul_le_mul (by omega) x
  omega
 obtain⟨g,B,e,H,l,i,r,q,h⟩:=kj (j:=wa (zw t) t.length) (st:=turn (jO 2 3) (zo (qO (w6 zS) (jO 4 5) (zo (jB (YY Qv zq jC (qa (zc zL (zc zW zj))))) zy)) zy)) (N:=t.length)
  (I:=λa u B=>B=[.dct ((ka t (pre t.length a 0)).map (yk t))]/\∃l i r q,u=[some (zw t),rO 0,l,i,r,q])
  (λa u B f ⟨H,l,i,r,q,h⟩=>by
   subst H h;have o:=v.sq _ (kF f);have d:((t.getD a []).map W.int).length=t.length:=by rw[ag,o]
   obtain⟨g,B,e,H,Y,y,h⟩:=kj (j:=wa (.tup ((t.getD a []).map W.int)) ((t.getD a []).map W.int).length) (st:=turn (jO 4 5) (zo (jB (YY Qv zq jC (qa (zc zL (zc zW zj))))) zy)) (N:=t.length)
    (I:=λb u B=>B=[.dct ((ka t (pre t.length a b)).map (yk t))]/\∃r q,u=[some (zw t),rO 0,iO a,some (zt (t.getD a [])),r,q])
    (λb u B p ⟨H,r,q,h⟩=>by
     subst H h;obtain⟨w,e⟩:=mS (a:=a) (b:=b) (x3:=some (zt (t.getD a []))) (n a b f p);rw[<- XH,<- mL]at e;exact⟨_,_,_,Y4 (int_at (by omega)),(yo rfl).trans ((zH (wY e)).trans qQ),rfl,_,_,rfl⟩)
    (λu B _=>by have:=Y0 (A:=B) (ws:=(t.getD a []).map W.int);rw[d]at this ⊢;exact this) t.length 0 [some (zw t),rO 0,iO a,some (zt (t.getD a [])),r,q] _ (by omega) ⟨rfl,_,_,rfl⟩
   rw[mM]at H;subst H h;refine⟨.tup [.int a,zt (t.getD a [])],[some (zw t),rO 0,iO a,some (zt (t.getD a [])),Y,y],_,?_,(yo (ρ1:=[some (zw t),rO 0,iO a,some (zt (t.getD a [])),r,q]) rfl).trans ((zH ((j3 (Yz (zp rfl))).trans ?_)).trans qQ),rfl,_,_,_,_,rfl⟩
   ·have:=Y4 (A:=[O.dct ((ka t (pre t.length a 0)).map (yk t))]) (Wo f)
    rw[c]at this;exact this
   ·have:(wa (.tup ((t.getD a []).map W.int)) ((t.getD a []).map W.int).length).len=t.length:=d
    rw[this];exact e)
  (λu B _=>by have:=Y0 (A:=B) (ws:=t.map zt);rw[c]at this;exact this) t.length 0 [some (zw t),rO 0,none,none,none,none] [.dct []] (by omega)
  ⟨rfl,_,_,_,_,rfl⟩
 subst H h;refine ja ?_;unfold PZ;refine(zH (qH (w:=.ref 0) (A1:=[.dct []]) rfl)).trans ?_;have C:w6 zr [some (zw t),rO 0,none,none,none,none] [.dct []]=.ok (wa (zw t) t.length) [.dct []]:=by
  have:=Yz (m:=qg 0) (ρ:=[some (zw t),rO 0,none,none,none,none]) (A:=[.dct []]) (A1:=[.dct []]) (ws:=t.map zt) (zp rfl)
  rw[c]at this;exact this
 exact(zH ((j3 C).trans e)).trans (qx (qT (zp rfl)))
def SV:jk ((acc.map (yk t)).map (·.2))=true:=by
 induction acc with
 |nil=>rfl|cons p l i=>exact i
end
section
variable {a b K:Nat}
abbrev HK:Ex:=zo (qU (jY (zi qX wO zq) (zi jw (zC Q0 (zc zr (zc jC (zc wN zj)))) zW)) (zo (qI (qa (zc zL (zc zS (zc jC (zc wN zj)))))) zy) zy) zy
abbrev Rv:Ex:=zo (qO (w6 j8) (jO 7 8) HK) zy
abbrev HG:Ex:=zo (zQ 4 (zC Q0 (zc zr (zc zL (zc zS zj))))) (zo (qO (w6 zr) (jO 5 6) Rv) zy)
abbrev fq (t:bQ)(K a b:Nat)(d c Y y:Option W):En:=[some (zw t),iV (at2 t a b),iO a,iO b,some (zw (jz t K a b)),d,c,Y,y]
def mT (ht:qz t)(M:qw t=(K:Int))(s:jW t)(A:Hx):KH [zw t] A=.ok .non A:=by
 have n8:=ht.n8;have kb:=kI ht;have d:(t.map zt).length=t.length:=ag ..;have P:=La ht;generalize D:ka t (Qj t.length)=ps at P;have J:∀p∈ps,p.1<t.length/\p.2<t.length:=λp E=>TF.mp (NR (t:=t) p (by rw[D];exact E))
 have X:∀{a b:Nat},a<t.length->b<t.length->∀{y5 y6 y7 y8:Option W},∃v u f Z,yL (wa (zw t) t.length) (turn (jO 5 6) Rv) t.length 0 (fq t K a b y5 y6 y7 y8) []=.ok (.nx (fq t K a b v u f Z)) []:=λ {a b} l g {y5 y6 y7 y8}=>by
  obtain⟨n,B,e,H,v,u,f,Z,h⟩:=kj (j:=wa (zw t) t.length) (st:=turn (jO 5 6) Rv) (N:=t.length) (I:=λ_ U B=>B=[]/\∃y5 y6 y7 y8,U=fq t K a b y5 y6 y7 y8)
   (λc U B w ⟨H,y5,y6,y7,y8,h⟩=>by
    subst H h;have C:=ht.sq _ (kF w);have q:((t.getD c []).map W.int).length=t.length:=by rw[ag,C]
    obtain⟨n,B,e,H,f,Z,h⟩:=kj (j:=wa (.tup ((t.getD c []).map W.int)) ((t.getD c []).map W.int).length) (st:=turn (jO 7 8) HK) (N:=t.length) (I:=λ_ U B=>B=[]/\∃y7 y8,U=fq t K a b (iO c) (some (zt (t.getD c []))) y7 y8)
     (λe U B he ⟨H,y7,y8,h⟩=>by
      subst H h;have S:zi qX wO zq (fq t K a b (iO c) (some (zt (t.getD c []))) (iO e) (iV (at2 t c e))) []=.ok (.bl (decide (at2 t c e=at2 t a b))) []:=(zM (zp rfl) (zp rfl)).trans (wz _ _ []);have Q:zi jw (zC Q0 (zc zr (zc jC (zc wN zj)))) zW (fq t K a b (iO c) (some (zt (t.getD c []))) (iO e) (iV (at2 t c e))) []=.ok (.bl (!decide (jz t K c e=jz t K a b))) []:=(zM ((qd (zD (zp rfl) (zD (zp rfl) (zD (zp rfl) zN)))).trans (UA ht M w he [])) (zp rfl)).trans (mK _ _ _);have r:=WO S Q;have hf:(decide (at2 t c e=at2 t a b)&&!decide (jz t K c e=jz t K a b))=false:=by
       by_cases z:at2 t c e=at2 t a b
       ·rw[az (N0 (K:=K) ht s w he l g z),Bool.not_true,Bool.and_false]
       ·rw[aH z];rfl
      rw[hf]at r;exact⟨_,_,[],Y4 (int_at (by omega)),(yo rfl).trans ((zH ((yb r).trans qQ)).trans qQ),rfl,_,_,rfl⟩)
     (λU B _=>by have:=Y0 (A:=B) (ws:=(t.getD c []).map W.int);rw[q]at this ⊢;exact this) t.length 0 (fq t K a b (iO c) (some (zt (t.getD c []))) y7 y8) [] (by omega) ⟨rfl,_,_,rfl⟩
    subst H h;refine⟨.tup [.int c,zt (t.getD c [])],fq t K a b (iO c) (some (zt (t.getD c []))) f Z,[],?_,(yo rfl).trans ((zH ((j3 (Yz (m:=qg 6) (ws:=(t.getD c []).map W.int) (zp rfl))).trans ?_)).trans qQ),rfl,_,_,_,_,rfl⟩
    ·have:=Y4 (A:=[]) (Wo w)
     rw[d]at this;exact this
    ·rw[show(wa (.tup ((t.getD c []).map W.int)) ((t.getD c []).map W.int).length).len=t.length from q]
     exact e)
   (λU B _=>by have:=Y0 (A:=B) (ws:=t.map zt);rw[d]at this;exact this) t.length 0 (fq t K a b y5 y6 y7 y8) [] (by omega) ⟨rfl,_,_,_,_,rfl⟩
  subst H h;exact⟨_,_,_,_,e⟩
 obtain⟨n,B,e,H,x,Y,y,y4,y5,y6,y7,y8,h⟩:=kj (j:=Ki (ps.map (yk t))) (st:=turn (Ww 1 2 3) HG) (N:=ps.length) (I:=λ_ U B=>B=[]/\∃x Y y y4 y5 y6 y7 y8,U=[some (zw t),x,Y,y,y4,y5,y6,y7,y8])
  (λi U B L ⟨H,x,Y,y,y4,y5,y6,y7,y8,h⟩=>by
   subst H h;obtain⟨l,g⟩:=J ps[i] (aJ L);generalize E:ps[i]=p at l g;obtain⟨a,b⟩:=p;dsimp only at l g;obtain⟨v,u,f,Z,e⟩:=X l g (y5:=y5) (y6:=y6) (y7:=y7) (y8:=y8);have hm:=Yz (m:=qg 0) (ρ:=fq t K a b y5 y6 y7 y8) (A:=[]) (A1:=[]) (ws:=t.map zt) (zp rfl);rw[d]at hm;refine⟨.tup [.int (at2 t a b),.tup [.int a,.int b]],fq t K a b v u f Z,[],?_,(yo (ρ1:=[some (zw t),iV (at2 t a b),iO a,iO b,y4,y5,y6,y7,y8]) rfl).trans ((zH (ρ1:=fq t K a b y5 y6 y7 y8) (A1:=[]) ((qH ((qd (zD (zp rfl) (zD (zp rfl) (zD (zp rfl) zN)))).trans (UA ht M l g []))).trans rfl)).trans ((zH ((j3 hm).trans e)).trans qQ)),rfl,_,_,_,_,_,_,_,_,rfl⟩;show some ((ps.map (yk t))[i]?.map λp=>W.tup [kW p.1,p.2])=_;rw[ar,ae L,E]
   rfl)
  (λU B _=>by
   show some ((ps.map (yk t))[ps.length]?.map λp=>W.tup [kW p.1,p.2])=_;rw[aD (by rw[ag];exact aq _)]
   rfl) ps.length 0 [some (zw t),none,none,none,none,none,none,none,none] [] (by omega) ⟨rfl,_,_,_,_,_,_,_,_,rfl⟩
 have hit:Wn (zC Yq (zc zr zj)) [some (zw t),none,none,none,none,none,none,none,none] []=.ok (Ki (ps.map (yk t))) []:=by
  unfold Wn;dsimp only;have T:zC Yq (zc zr zj) [some (zw t),none,none,none,none,none,none,none,none] []=.ok (.ref 0) [.dct (ps.map (yk t))]:=(qd (zD (zp rfl) zN)).trans (MY (gq t) P rfl SV);rw[T,zP];exact ah SV
 have o:=j3 (tw:=Ww 1 2 3) (m1:=HG) hit;rw[show(Ki (ps.map (yk t))).len=ps.length from ag ..]at o
 subst H h;refine Qz (A1:=[]) (gq t) rfl (ja ?_);unfold PC;exact(zH (o.trans e)).trans (qx (qT qe))
variable {e k:Nat}{w x z:W}{S:Nat->List (bR)}
def mU (u:qz t)(n:qw t=(K:Int))(l:k<K):∃a b:Nat,a<t.length/\b<t.length/\at2 t a b=(k:Int)/\kq (.inl (k:Int)) ((ka t (Qj t.length)).map (yk t))=some (.tup [.int a,.int b]):=by
 obtain⟨a,b,g,f,e⟩:=QE u (v:=k) (by omega)
 obtain⟨q,h,j⟩:=mR (t:=t) (a,b) (TF.mpr ⟨g,f⟩);have r:=Tu (t:=t) (v:=(k:Int)) (ka t (Qj t.length));rw[show(ka t (Qj t.length)).any (λq=>decide (wu t q=(k:Int)))=true from List.any_eq_true.mpr ⟨q,h,az (j.trans e)⟩]at r
 obtain⟨w,o⟩:=Option.isSome_iff_exists.mp r;obtain⟨p,H,c⟩:=cx.mp (NV o);obtain⟨d,Z⟩:=TF.mp (NR p H);unfold yk at c;injection c with E i
 injection E with E
 exact⟨p.1,p.2,d,Z,E,by rw[o,i]⟩
def C9 (y:qz t)(c:qw t=(K:Int))(j:∀a b,a<t.length->b<t.length->jz t K a b=S (at2 t a b).toNat)(A:Hx):Yo [zw t] A=.ok (.ref A.length) (A++[.lst ((List.range K).map λk=>zw (S k))]):=by
 have J:=y.n8;have kb:=kI y;have E:=La y;have I:∀k:Nat,∃q:Nat×Nat,k<K->q.1<t.length/\q.2<t.length/\at2 t q.1 q.2=(k:Int)/\kq (.inl (k:Int)) ((ka t (Qj t.length)).map (yk t))=some (.tup [.int q.1,.int q.2]):=λk=>by
  by_cases f:k<K
  ·obtain⟨a,b,C,B,d,l⟩:=mU y c f
   exact⟨(a,b),λ_=>⟨C,B,d,l⟩⟩
  ·exact⟨(0,0),λz=>absurd z f⟩
 obtain⟨x,H⟩:=Classical.axiomOfChoice I;have nr:=SV (t:=t) (acc:=ka t (Qj t.length));generalize (ka t (Qj t.length)).map (yk t)=kvs at E H nr;have r:zC Yq (zc zr zj) [some (zw t),none,none] []=.ok (.ref 0) [.dct kvs]:=(qd (zD (zp rfl) zN)).trans (MY (gq t) E rfl nr);have D:=kE (m:=zC Zy (zc zr zj)) (ρ:=[some (zw t),rO 0,none]) (A:=[.dct kvs]) (A1:=[.dct kvs]) (k:=(K:Int)) ((qd (zD (zp rfl) zN)).trans ((YL y _).trans (by rw[c]))) (Z2 (by omega))
 rw[aA]at D;have p:=gA (cap:=[1]) (me:=zi XI zq zr) (ρ:=[some (zw t),rO 0,none]) (A:=[.dct kvs]) (N:=K) (item:=λi=>.int (0+(i:Int))) (g:=λk=>.tup [.int ((x k).1:Int),.int ((x k).2:Int)]) D rfl (by unfold qj;omega) (λi h=>yI h) (yH (by omega)) (λi h=>by
  refine(zM (zp (i:=1) (w:=.ref 0) rfl) (zp (i:=0) (w:=.int (0+(i:Int))) rfl)).trans ?_;rw[Int.zero_add];show(match kq (.inl (i:Int)) kvs with|some w=>R.ok w [.dct kvs]|none=>.bad)=_
  rw[(H i h).2.2.2])
 have e:=km p;have o:=OY (A:=[.dct kvs]++[.lst ((List.range K).map λk=>.tup [.int ((x k).1:Int),.int ((x k).2:Int)])]) (cap:=[0]) (ρ:=[some (zw t),rO 0,rO 1]) (me:=zC Q0 (zc zL (zc zr (zc zq zj)))) (mi:=qu zL) (N:=K) (u:=λk=>.int ((x k).1:Int)) (v:=λk=>.int ((x k).2:Int)) (g:=λk=>zw (S k)) (ZD (n:=1) (zp rfl) rfl) (by show((List.range K).map _).length=K;rw[ag,aG]) (by omega)
  (λi h=>l7 (n:=1) rfl (by rw[ar,aU h];rfl))
  (l8 (n:=1) rfl (by rw[ag,aG];exact aq _))
  (λi h=>by
   obtain⟨C,B,d,_⟩:=H i h;refine(qd (ws:=[zw t,.int ((x i).1:Int),.int ((x i).2:Int)]) (zD (zp rfl) (zD (zp rfl) (zD (zp rfl) zN)))).trans ((UA y c C B _).trans ?_);rw[j _ _ C B,d,aA])
 refine Wg (k:=2) (A1:=[.dct kvs]++[.lst ((List.range K).map λk=>.tup [.int ((x k).1:Int),.int ((x k).2:Int)])]++[.lst ((List.range K).map λk=>zw (S k))]) (gq t) (ja ?_) rfl (Z6 (λ_=>Qw _) _);unfold Oo;exact(zH (qH r)).trans ((zH (qH e)).trans (qx (qT (km o))))
def Sd (H:qz t)(h:qw t=(K:Int))(s:jW t)(A:Hx):wU [zw t] A=.ok .non A:=by
 refine MH (ρ:=[some (zw t)]) ?_;unfold Gp;exact(zH (wY ((qd (zD (zp rfl) zN)).trans (Nq H A)))).trans ((zH ((yb (Je ((zM ((qd (zD (zp rfl) zN)).trans (mT H h s A)) qe).trans rfl))).trans qQ)).trans qQ)
def mV {w:W}(h:Yf A w):wU [w] A=.exc "NoTable" A:=by
 refine YG ?_;unfold Gp;exact Q7 (Xf ((qd (zD (zp rfl) zN)).trans (B9 h)))
def mW (h:qz t)(e:KH [zw t] A=.ok (.tup ws) A):wU [zw t] A=.exc "NotSteady" A:=by
 refine YG ?_;unfold Gp;exact(zH (wY ((qd (zD (zp rfl) zN)).trans (Nq h A)))).trans (Q7 ((ko (Je ((zM ((qd (zD (zp rfl) zN)).trans e) qe).trans rfl))).trans (Q7 rfl)))
theorem Lz (v:Int):∀(r:bR)(n:Nat),Jn (.int v) (r.map W.int) n=n+r.count v
 |[],_=>rfl|x::r,n=>by
  show Jn (.int v) (r.map W.int) (if (x==v)=true then n+1 else n)=_;rw[Lz v r,List.count_cons]
  by_cases h:x=v
  ·subst h
   simp;omega
  ·simp[h]
noncomputable def jG (t:bQ)(K:Nat):bR:=(List.range K).map λ(k:Nat)=>(((t.getD 0 []).count (k:Int):Nat):Int)
def mX (c:qz t)(H:qw t=(K:Int))(A:Hx):KR [zw t] A=.ok (.ref A.length) (A++[.lst ((jG t K).map W.int)]):=by
 have kb:=kI c;have n:=c.n1;have d:=kE (m:=zC Zy (zc zr zj)) (ρ:=[some (zw t)]) (A:=[]) (A1:=[]) (k:=(K:Int)) ((qd (zD (zp rfl) zN)).trans ((YL c _).trans (by rw[H]))) (Z2 (by omega))
 rw[aA]at d;have e:=gA (cap:=[0]) (me:=Ws Y1 (zi zB zq zZ) zr) (ρ:=[some (zw t)]) (A:=[]) (N:=K) (item:=λi=>.int (0+(i:Int))) (g:=λk=>.int (((t.getD 0 []).count (k:Int):Nat):Int)) d rfl (by unfold qj;omega) (λi h=>yI h) (yH (by omega)) (λi h=>by
  have E:zi zB zq zZ (some (W.int (0+(i:Int)))::[0].map λi=>([some (zw t)][i]?).join) []=.ok (.tup ((t.getD 0 []).map W.int)) []:=(zM (zp (w:=zw t) rfl) qe).trans (JF (a:=0) n);unfold Ws;rw[E,zP];dsimp only;rw[show zr (some (W.int (0+(i:Int)))::[0].map λi=>([some (zw t)][i]?).join) []=.ok (.int (0+(i:Int))) [] from zp rfl,zP,Int.zero_add]
  unfold Y1;dsimp only;rw[ah,Lz,zero_add];show(true&&((t.getD 0 []).map W.int).all yK)=true;rw[Bool.true_and,aZ];intro w f;obtain⟨v,_,rfl⟩:=cx.mp f
  rfl)
 have b:((List.range K).map λ(k:Nat)=>W.int (((t.getD 0 []).count (k:Int):Nat):Int))=(jG t K).map W.int:=by unfold jG;rw[aX];rfl
 rw[b]at e;exact Wg (k:=0) (A1:=[.lst ((jG t K).map W.int)]) (gq t) (ja (by unfold Ol;exact qx (qT (km e)))) rfl (Z6 (λ_=>rfl) _)
end
def NW {r:Nat}{l:bV}(h:A[r]? =some (.lst (iL l))):qP A 8 (.ref r)=some (.list (l.map λ(a:Nat)=>PyData.int a)):=by
 show(match zY (.ref r) A with|some w=>(yV (qP A 7) w).map PyData.list|none=>none)=_
 have:zY (.ref r) A=some (iL l):=by unfold zY;dsimp only;rw[h]
 rw[this];dsimp only;rw[G0 (h:=λ(a:Nat)=>PyData.int a) (λa=>rfl)]
 rfl
def ne_nil {r s:Nat}{l:bV}(h:A[r]? =some (.lst (iL l)))(H:A[s]? =some (.lst [])):jw (.ref r) (.ref s) A=.ok (.bl (decide (l≠[]))) A:=by
 show gh true _ _ A=_;unfold gh;rw[NW h,NW (l:=[]) H];dsimp only;rw[ah rfl]
 congr 2
 rw[PyData.eqv];cases l with
 |nil=>simp[PyData.eqvAll]|cons a l=>rw[map_nil,SeqAt.eqvAll_other_length (by simp)];simp
noncomputable def QP (o:bV):W:=.tup (o.map λ(a:Nat)=>W.int a)
def mY (o:bV):(QP o).nr=true:=by
 show jk (o.map λ(a:Nat)=>W.int a)=true;exact Z6 (λ_=>rfl) _
abbrev Rq:Ev:=zi jw (qg 2) (qp zj)
abbrev mZ:Ex:=zo (jB (jo jN (qg 3) (jo ZJ (qg 2) (zC ye (zc (qg 0) (zc (mQ zT (zJ (qg 2))) zj)))))) zy
def m3 {x:Option W}:∀(k f:Nat)(l fd:bV)(A:Hx),l.length=k->k<f->l.length<=100->fd.length+l.length<=100->jj 0 A->A[1]? =some (.lst (iL l))->A[2]? =some (.lst (iL fd))->
  ∃A' d,QT Rq mZ f [rO 0,x,rO 1,rO 2] A=.ok (.nx [rO 0,x,rO 1,rO 2]) A'/\jj 0 A'/\A'[2]? =some (.lst (iL d))/\d.Perm (fd++l):=by
 intro k
 induction k with
 |zero=>
  intro f l fd A n hf _ _ v h1 h2;obtain⟨f,rfl⟩:∃J,f=J+1:=⟨f-1,by omega⟩
  have:l=[]:=List.length_eq_zero_iff.mp n
  subst this;refine⟨A++[.lst []],fd,?_,?_,jy h2,by simp⟩
  ·unfold QT
   have p:Rq [rO 0,x,rO 1,rO 2] A=.ok (.bl false) (A++[.lst []]):=(zM (zp (i:=2) rfl) (jV zN)).trans (ne_nil (l:=[]) (jy h1) qM);rw[p,zP]
  ·obtain⟨c,b,e,r⟩:=v
   exact⟨c,b,jy e,r⟩
 |succ k Q=>
  intro f l fd A n hf K S v h1 h2;obtain⟨f,rfl⟩:∃J,f=J+1:=⟨f-1,by omega⟩
  have p:Rq [rO 0,x,rO 1,rO 2] A=.ok (.bl true) (A++[.lst []]):=by
   refine(zM (zp (i:=2) rfl) (jV zN)).trans ((ne_nil (jy h1) qM).trans ?_);have C:l≠[]:=λe=>by rw[e]at n;cases n
   rw[az C]
  have H:jj 0 (A++[.lst []]):=by obtain⟨c,b,e,r⟩:=v;exact⟨c,b,jy e,r⟩
  have g1:=jy (u:=.lst []) h1;have g2:=jy (u:=.lst []) h2;generalize A++[O.lst []]=B at p H g1 g2;obtain⟨r,o,T,N,rl,t⟩:=Qy H (m:=(l.length:Int)) (by omega) (by omega)
  obtain⟨q,rfl⟩:=aS N;have y:q<l.length:=by omega
  have E:mQ zT (zJ (qg 2)) [rO 0,x,rO 1,rO 2] B=.ok (.int l.length) B:=by
   rw[jX (yA (w:=.ref 1) (A1:=B) (ws:=iL l) (zp rfl) (by unfold zY;dsimp only;rw[g1]))]
   unfold zT;rw[ag]
  have Y:zC ye (zc (qg 0) (zc (mQ zT (zJ (qg 2))) zj)) [rO 0,x,rO 1,rO 2] B=.ok (.int q) (B.set 0 o):=(qd (zD (zp (i:=0) rfl) (zD E zN))).trans T;have j:(B.set 0 o)[1]? =some (.lst (iL l)):=by rw[ax (by omega)];exact g1
  have I:(B.set 0 o)[2]? =some (.lst (iL fd)):=by rw[ax (by omega)];exact g2
  have hw:(iL l)[q]? =iV ((l[q]:Nat):Int):=by rw[ar,ae y];rfl
  have M:=(Qu (g:=ZJ) (a:=qg 2) (zp rfl) g1 Y).trans (Bw j hw (by omega))
  have he:(iL l).eraseIdx q=iL (l.eraseIdx q):=by
   exact Ny _ _ _
  rw[he]at M;have h:((B.set 0 o).set 1 (.lst (iL (l.eraseIdx q))))[2]? =some (.lst (iL fd)):=by rw[ax (by omega)];exact I
  have L:=(Qu (g:=jN) (a:=qg 3) (zp rfl) g2 M).trans (Yv h (by rw[ag];omega))
  have D:iL fd++[.int ((l[q]:Nat):Int)]=iL (fd++[l[q]]):=by unfold iL;rw[aN];rfl
  rw[D]at L;have hlen:(l.eraseIdx q).length=k:=by rw[List.length_eraseIdx_of_lt y];omega
  obtain⟨A',d,X,s4,Z,P⟩:=Q f (l.eraseIdx q) (fd++[l[q]]) (((B.set 0 o).set 1 (.lst (iL (l.eraseIdx q)))).set 2 (.lst (iL (fd++[l[q]])))) hlen (by omega) (by omega) (by rw[av,aW];omega)
   (by obtain⟨c,b,e,r⟩:=t;exact⟨c,b,by rw[ax (by omega),ax (by omega)];exact e,r⟩)
   (by rw[ax (by omega),ay (yf j)]) (by rw[ay (yf h)])
  refine⟨A',d,?_,s4,Z,P.trans ?_⟩
  ·unfold QT
   rw[p,zP];dsimp only;have U:=(zH (m2:=zy) (wY L)).trans qQ;show R.bind (zo (jB (jo jN (qg 3) (jo ZJ (qg 2) (zC ye (zc (qg 0) (zc (mQ zT (zJ (qg 2))) zj)))))) zy [rO 0,x,rO 1,rO 2] B) _=_;rw[U,zP];exact X
  ·rw[aP]
   exact List.Perm.append_left fd (Nf (ae y)).symm
def Mq {m:Nat}(h:jj m A)(u:n<=8):∃p o,Jx [.ref m,.int n] A=.ok (QP p) (A.set m o)/\jj m (A.set m o)/\p.Perm (List.range n):=by
 obtain⟨c,b,d,g,j⟩:=h;have r:=yf d;obtain⟨q,l,e,⟨C,B,E,H,a⟩,t,f⟩:=m3 (x:=iO n) n 1000 (List.range n) [] [.lst [.int c,.bl b],.lst (iL (List.range n)),.lst []] aG (by omega) (by rw[aG];omega) (by rw[aG];simp;omega) ⟨c,b,rfl,g,j⟩ rfl rfl
 refine⟨l,.lst [.int C,.bl B],?_,⟨C,B,ay r,H,a⟩,f⟩;unfold Jx;refine Wj (A1:=q) d rfl ?_ E (mY l);unfold OC;refine ja ?_;unfold Ou;refine(zH (ρ1:=[rO 0,iO n,rO 1,none]) (A1:=[.lst [.int c,.bl b],.lst (iL (List.range n))]) ((qH (Bl (zp (i:=1) rfl) (by omega))).trans rfl)).trans ?_
 refine(zH (ρ1:=[rO 0,iO n,rO 1,rO 2]) (A1:=[.lst [.int c,.bl b],.lst (iL (List.range n)),.lst []]) ((qH (jV zN)).trans rfl)).trans ?_;refine(zH e).trans (qx (qT (Wx (yA (w:=.ref 2) (A1:=q) (ws:=iL l) (zp rfl) (by unfold zY;dsimp only;rw[t])))))
section
def GF (h:qz t)(A:Hx):wV [zw t] A=.ok (.int (qw t)) A:=YL h A
def Vt (h:qz t){e d M:Ev}{a b:Nat}(f:M ρ A=.ok (zw t) A)(c:e ρ A=.ok (.int a) A)(H:d ρ A=.ok (.int b) A)(l:a<t.length)(L:b<t.length):zi zB (zi zB M e) d ρ A=.ok (.int (at2 t a b)) A:=
 (zM ((zM f c).trans (JF l)) H).trans (wZ (by rw[h.sq _ (kF l)];exact L))
def m4 (h:qz t){p o:bV}(H:∀a∈o,a<t.length)(q:o.length<=8)(n:(p.length:Int)=qw t-1){r:Nat}(g:A[r]? =some (.lst ((jA p).map W.int))):GD [zw t,QP o,.ref r] A=.ok (zw (w5 t p o)) A:=by
 unfold GD OG;refine ja ?_;unfold OB;refine qx (qT ?_);have E:=G2 (cap:=[0,1,2]) (ρ:=[some (zw t),some (QP o),rO r]) (A:=A) (m:=qg 1) (o:=o) (f:=λ(a:Nat)=>W.int a) (me:=mQ jt (qc 1 [0,1,3] (qu (qg 2)) (zG 0) (zV (.bl true)) (zU (zi zB (qg 3) (zi zB (zi zB (qg 2) (qg 1)) (qg 0))))))
  (G:=λa=>zt (o.map λb=>(jA p).getD (at2 t a b).toNat 0)) (zp rfl) (by unfold qj;omega) (λa e=>by
   have j:=G2 (cap:=[0,1,3]) (ρ:=[iO a,some (zw t),some (QP o),rO r]) (A:=A) (m:=qg 2) (o:=o) (f:=λ(a:Nat)=>W.int a) (me:=zi zB (qg 3) (zi zB (zi zB (qg 2) (qg 1)) (qg 0)))
    (G:=λb=>.int ((jA p).getD (at2 t a b).toNat 0)) (zp rfl) (by unfold qj;omega) (λb d=>by
     have L:=H a e;have l:=H b d;have u:=(Y7 h L l).1;have B:=WA h L l;have v:(at2 t a b).toNat<(jA p).length:=by unfold jA;rw[bF,ag];omega
     refine(zM (zp (i:=3) rfl) (Vt h (zp (i:=2) rfl) (zp (i:=1) rfl) (zp (i:=0) rfl) L l)).trans ?_;have c:at2 t a b=((at2 t a b).toNat:Int):=by omega
     rw[c];refine gD g ?_;rw[ar,ae v,aA,aa,ae v]
     rfl)
   refine(Wx j).trans ?_;unfold zt;rw[aX]
   rfl)
 refine(Wx E).trans ?_;unfold w5 zw;rw[aX]
 rfl
def AE (h:qz t){m:Nat}(Z:jj m A):∃p o b,Yg [.ref m,zw t] A=.ok (zw (w5 t p o)) (A.set m b)/\jj m (A.set m b)/\p.Perm (List.range (qw t-1).toNat)/\o.Perm (List.range t.length):=by
 obtain⟨c,b,Q,hc,hb⟩:=Z;have hm:=yf Q;have kb:=kI h;have n8:=h.n8;generalize H:([.lst [.int c,.bl b],.lst [.int 0]]:Hx)=B;have sB:jj 0 B:=by rw[<- H];exact⟨c,b,rfl,hc,hb⟩
 obtain⟨p,g,S,s1,j⟩:=Mq sB (n:=(qw t-1).toNat) (by omega)
 have J:(B.set 0 g)[1]? =some (.lst [.int 0]):=by rw[<- H];rfl
 have I:(B.set 0 g).length=2:=by rw[<- H];rfl
 generalize B.set 0 g=d at*;have v:(((qw t-1).toNat:Nat):Int)=qw t-1:=by omega
 rw[v]at S;have ec:qc 1 [] (qu (zC Jx (zc (qg 0) (zc (zi yP (qg 2) (zV (.int 1))) zj)))) (zG 0) (zV (.bl true)) (zU (zi qk (zV (.int 1)) (qg 0))) [rO 0,some (zw t),iV (qw t),none] B=.ok (p.map λ(k:Nat)=>W.int (1+(k:Int))) d:=by
  have em:zC Jx (zc (qg 0) (zc (zi yP (qg 2) (zV (.int 1))) zj)) [rO 0,some (zw t),iV (qw t),none] B=.ok (QP p) d:=(qd (ws:=[.ref 0,.int (qw t-1)]) (A1:=B) (zD (zp (i:=0) rfl) (zD ((zM (zp (i:=2) rfl) (qe (w:=.int 1))).trans rfl) zN))).trans S;have L:=G2 (cap:=[]) (ρ:=[rO 0,some (zw t),iV (qw t),none]) (A:=d) (m:=zV (QP p)) (o:=p) (f:=λ(a:Nat)=>W.int a) (me:=zi qk (zV (.int 1)) (qg 0)) (G:=λ(k:Nat)=>W.int (1+(k:Int))) rfl (by have:=j.length_eq;rw[aG]at this;unfold qj;omega) (λa N=>(zM (qe (w:=.int 1)) (zp (i:=0) rfl)).trans rfl)
  unfold qc at L ⊢;rw[Jd (m:=zV (QP p)) (A1:=d) rfl,zP]at L;rw[Jd em,zP];exact L
 have l:p.length=(qw t-1).toNat:=by rw[j.length_eq,aG]
 have K:zi qk (qp (zc (zV (.int 0)) zj)) (qW (qc 1 [] (qu (zC Jx (zc (qg 0) (zc (zi yP (qg 2) (zV (.int 1))) zj)))) (zG 0) (zV (.bl true)) (zU (zi qk (zV (.int 1)) (qg 0))))) [rO 0,some (zw t),iV (qw t),none] [.lst [.int c,.bl b]]=
   .ok (.ref (d++[O.lst (p.map λ(k:Nat)=>W.int (1+(k:Int)))]).length) (d++[O.lst (p.map λ(k:Nat)=>W.int (1+(k:Int)))]++[O.lst ([.int 0]++p.map λ(k:Nat)=>W.int (1+(k:Int)))]):=by
  refine(zM (x:=.ref 1) (A1:=B) ((jV (ws:=[.int 0]) (A1:=[.lst [.int c,.bl b]]) rfl).trans (by rw[<- H];rfl)) (km ec)).trans ?_
  refine Wc (jy J) ?_ (by rw[ag,l];show 1+_<=qj;unfold qj;omega)
  rw[qM]
 have u:([.int 0]++p.map λ(k:Nat)=>W.int (1+(k:Int)))=(jA p).map W.int:=by unfold jA;rw[aR,aX];rfl
 rw[u]at K;have Y:jj 0 (d++[O.lst (p.map λ(k:Nat)=>W.int (1+(k:Int)))]++[O.lst ((jA p).map W.int)]):=by obtain⟨c,b,e,r⟩:=s1;exact⟨c,b,jy (jy e),r⟩
 have P:(d++[O.lst (p.map λ(k:Nat)=>W.int (1+(k:Int)))]++[O.lst ((jA p).map W.int)])[(d++[O.lst (p.map λ(k:Nat)=>W.int (1+(k:Int)))]).length]? =some (.lst ((jA p).map W.int)):=qM;have hr:(d++[O.lst (p.map λ(k:Nat)=>W.int (1+(k:Int)))]).length=3:=by rw[av,I];rfl
 rw[hr]at P K;generalize d++[O.lst (p.map λ(k:Nat)=>W.int (1+(k:Int)))]++[O.lst ((jA p).map W.int)]=C at*;obtain⟨o,M,e3,s2,q⟩:=Mq Y (n:=t.length) n8;have hol:o.length=t.length:=by rw[q.length_eq,aG]
 have E:(C.set 0 M)[3]? =some (.lst ((jA p).map W.int)):=by rw[ax (by omega)];exact P
 generalize C.set 0 M=X at*;have e4:=m4 h (p:=p) (o:=o) (λa N=>cn.mp (q.mem_iff.mp N)) (by omega) (by omega) E
 obtain⟨T,U,e',y,D⟩:=s2;refine⟨p,o,.lst [.int T,.bl U],?_,⟨T,U,ay hm,y,D⟩,j,q⟩;unfold Yg;refine Wj (A1:=X) Q (by show((zw t).nr&&true)=true;rw[Qw];rfl) ?_ e' (Qw _)
 unfold RW;refine ja ?_;unfold RZ;refine(zH (ρ1:=[rO 0,some (zw t),iV (qw t),none]) (A1:=[.lst [.int c,.bl b]]) ((qH ((qd (ws:=[zw t]) (A1:=[.lst [.int c,.bl b]]) rfl).trans (GF h _))).trans rfl)).trans ?_;refine(zH (ρ1:=[rO 0,some (zw t),iV (qw t),rO 3]) (A1:=C) ((qH K).trans rfl)).trans (qx (qT ?_));refine(qd (ws:=[zw t,QP o,.ref 3]) (A1:=X) (zD (zp (i:=1) rfl) (zD ((qd (ws:=[.ref 0,.int t.length]) (A1:=C) (zD (zp (i:=0) rfl) (zD (lZ rfl) zN))).trans e3) (zD (zp (i:=3) rfl) zN)))).trans e4
end
theorem O8:∀l:bR,gG (l.map W.int)=some (l.map λi=>i != 0)
 |[]=>rfl|x::l=>by
  show(match Ke (.int x),gG (l.map W.int) with|some k,some K=>some (k::K)|_,_=>none)=_
  rw[O8 l]
  rfl
def TJ (l:bR):wF (l.map W.int) A=.ok (.int l.sum) A:=by
 unfold wF;rw[K2]
 have:∀(l:bR)(k:Int),kX l k=k+l.sum:=λl=>by
  induction l with
  |nil=>intro k;show k=k+0;omega|cons x l i=>intro k;show kX l (k+x)=_;rw[i,sum_cons];omega
 dsimp only;rw[this,Int.zero_add]
section
variable {K m j:Nat}{w:bR}{S:List (bQ)}
structure Wf (K:Nat)(S:List (bQ)):Prop where
 l:S.length=K
 r:∀t∈S,t.length=K
 c:∀t∈S,∀q∈t,q.length=K
 b:∀t∈S,∀i j,0<=at2 t i j/\at2 t i j<100
def Bg (w:bR):Prop:=∀v∈w,v.natAbs<2 ^ 256
def XU (h:Bg w)(i:Nat):(w.getD i 0).natAbs<2 ^ 256:=by
 by_cases H:i<w.length
 ·rw[aa,ae H]
  exact h _ (aJ _)
 ·rw[aa,aD (by omega)]
  decide
def Lq {i j:Int}(h:i.natAbs<2 ^ 256)(H:j.natAbs<2 ^ 256):qG (.int i) (.int j) A=.ok (.int (i * j)) A:=by
 unfold qG;dsimp only;rw[ah];unfold Y8;rw[a8,a8]
 right
 right
 rw[ak];exact⟨az h,az H⟩
def UT (h:∀v∈w,-100<v/\v<100):Bg w:=λv H=>by have:=h v H;omega
abbrev pS (S:List (bQ))(k i j:Nat):Int:=at2 (S.getD k []) i j
def yO (S:List (bQ))(w:bR)(i j:Nat):Bool:=((S.drop w.length).any λt=>at2 t i j != 0) || decide (w.getD i 0 * w.getD j 0=((List.range w.length).map λk=>pS S k i j * w.getD k 0).sum)
def yi (S:List (bQ))(w:bR):Bool:=(List.range w.length).all λi=>(List.range w.length).all λj=>yO S w i j
def Ct {c:En}{j:jM}{N d:Nat}{u v g:Nat->W}(t:∀i,i<N->j.at_ A i=some (some (.tup [u i,v i])))(H:j.at_ A N=some none)(b:∀i,i<N->me (some (u i)::some (v i)::c) A=.ok (g i) A):
  ∀(f i:Nat)(x y:Option W)(a:List W),i+f=N->a.length+f<=qj->∃ρ,jq j (jO 0 1) (zV (.bl true)) (zU me) (f+d) i (x::y::c) a A=.ok (ρ,a++(List.range' i f).map g) A:=by
 intro f
 induction f with
 |zero=>
  intro i x y a h l
  have:i=N:=by omega
  subst this;refine⟨x::y::c,?_⟩;rw[zero_add];cases d<;>(unfold jq;rw[H];simp)
 |succ f I=>
  intro i x y a h l;obtain⟨ρ,e⟩:=I (i+1) (some (u i)) (some (v i)) (a++[g i]) (by omega) (by rw[av,aW];omega)
  refine⟨ρ,?_⟩;rw[show f+1+d=(f+d)+1 by omega,jq,t i (by omega)]
  dsimp only;rw[show jO 0 1 (.tup [u i,v i]) (x::y::c)=some (some (u i)::some (v i)::c) from rfl]
  dsimp only[zV];rw[zP];dsimp only;have E:zU me (some (u i)::some (v i)::c) a A=.ok (some (u i)::some (v i)::c,a++[g i]) A:=by
   unfold zU;rw[b i (by omega),zP,ah (by omega)]
  rw[E,zP];rw[e,aP,range'_succ,aR]
  rfl
def Dm {j:jM}{N:Nat}{u v g:Nat->W}(l:mi ρ A=.ok j A)(b:N<=j.len)(f:N<=1000)(H:∀i,i<N->j.at_ A i=some (some (.tup [u i,v i])))(h:j.at_ A N=some none)
  (n:∀i,i<N->me (some (u i)::some (v i)::cap.map λi=>(ρ[i]?).join) A=.ok (g i) A):qc 2 cap mi (jO 0 1) ql (zU me) ρ A=.ok ((List.range N).map g) A:=by
 obtain⟨a,e⟩:=Ct (A:=A) (c:=cap.map λi=>(ρ[i]?).join) (d:=j.len-N) H h n N 0 none none [] (by omega) (by unfold qj;simp;omega)
 unfold qc;rw[l,zP,show j.len=N+(j.len-N) by omega]
 show R.bind (R.nox (jq j _ _ _ (N+(j.len-N)) 0 (none::none::cap.map λi=>(ρ[i]?).join) [] A)) _=_;rw[e,<- range_eq_range',bM]
 rfl
def m5 {n:Nat}{m:Ev}{i:Ev}{w:W}(h:m ρ A=.ok w A1):qc n cap (qu m) tw i em ρ A=qc n cap (qu (zV w)) tw i em ρ A1:=by
 unfold qc qu;rw[h]
 rfl
def Bc {m:Ev}{o:List α}{f:α->W}{G:α->W}(h:m ρ A=.ok (.ref n) A)(b:A[n]? =some (.lst (o.map f)))(l:o.length<=qj)(c:∀a∈o,me (some (f a)::cap.map λi=>(ρ[i]?).join) A=.ok (G a) A):
  qc 1 cap (qu m) (zG 0) ql (zU me) ρ A=.ok (o.map G) A:=by
 have e:=gA (cap:=cap) (me:=me) (ρ:=ρ) (A:=A) (N:=o.length) (item:=λi=>((o.map f)[i]?).getD .non) (g:=λi=>((o.map G)[i]?).getD .non) (ZD h b) (by rw[ag]) l
  (λi H=>(yT b).trans (by rw[ar,ae H];rfl))
  ((yT b).trans (by rw[aD (by rw[ag];exact aq _)]))
  (λi H=>by
   rw[ar,ar,ae H];exact c _ (aJ H))
 rw[e]
 congr 1
 apply a7
 ·simp
 ·intro i j d
  have H:i<o.length:=by simpa using d
  simp[ae H]
def Ii {m p:Ev}{A0:Hx}{k:Nat}(h:m ρ A0=.ok (.ref n) A)(c:A[n]? =some (.lst ws))(a:p ρ A=.ok (.int k) A)(b:k<=ws.length):yM m (yd p) kA ρ A0=.ok (.ref A.length) (A++[.lst (ws.drop k)]):=by
 have H:yd p ρ A=.ok (some (k:Int)) A:=by
  unfold yd;rw[a,zP]
 unfold yM;rw[h,zP,H,zP];show(match A[n]? with|some (O.lst ws)=>R.ok (W.ref A.length) (A++[O.lst (kZ ws (some (k:Int)) none)])|_=>.bad)=_
 rw[c];dsimp only;unfold kZ;rw[HT.zb9,HT.zaO,Nat.min_eq_left b,a5 (by rw[bE];exact aq _)]
def LN {u v:List W}(h:A[n]? =some (.lst u))(i:Nat)(N:Nat):(Qg (.ref n) (.tup v) N).at_ A i=some (zip2 u[i]? v[i]?):=by
 show(match zY (.ref n) A,zY (.tup v) A with|some u,some v=>some (zip2 u[i]? v[i]?)|_,_=>none)=_
 have:zY (.ref n) A=some u:=by unfold zY;dsimp only;rw[h]
 rw[this]
 rfl
def m6 {m M:Ev}{u v:List W}(h:m ρ A=.ok (.ref n) A)(H:A[n]? =some (.lst u))(a:M ρ A=.ok (.tup v) A):Zi m M ρ A=.ok (Qg (.ref n) (.tup v) u.length) A:=by
 unfold Zi;rw[h,zP,a,zP]
 have:zY (.ref n) A=some u:=by unfold zY;dsimp only;rw[H]
 rw[this]
 rfl
abbrev fB:Ex:=zo (zQ 5 (qW (qc 1 [3,4] (qu (yM zr (yd zL) kA)) (zG 0) ql (zU (zi zB (zi zB zr zq) zL))))) (zo (zQ 6 (qW (qc 2 [3,4] (Zi zr zq) (jO 0 1) ql (zU (zi qG (zi zB (zi zB zr zL) zS) zq))))) (zo (qU (jY (jR (mQ Kd (zJ jC))) (zi jw (zi qG (zi zB zq zS) (zi zB zq zW)) (mQ wF (zJ j8)))) yF zy) zy))
def m7 {x6:Option W}(H:Wf K S)(h:A[0]? =some (.lst (S.map zw)))(hm:w.length<=K)(hK:K<=8)(hw:Bg w)(Y:i<w.length)(X:j<w.length):
  ∃y5 y6 B,B[0]? =some (.lst (S.map zw))/\fB [rO 0,some (zt w),iV w.length,iO i,iO j,x5,x6] A=.ok (if yO S w i j then .nx [rO 0,some (zt w),iV w.length,iO i,iO j,y5,y6] else .rt (.bl false)) B:=by
 have p:(S.map zw).length=K:=by rw[ag,H.l]
 have e8:w.length<=8:=by omega
 generalize n:([rO 0,some (zt w),iV w.length,iO i,iO j,x5,x6]:En)=ρ;have Q:yM zr (yd zL) kA ρ A=.ok (.ref A.length) (A++[.lst ((S.map zw).drop w.length)]):=by
  subst n;exact Ii (zp rfl) h (zp rfl) (by rw[p];exact hm)
 rw[<- List.map_drop]at Q;have e5:qc 1 [3,4] (qu (yM zr (yd zL) kA)) (zG 0) ql (zU (zi zB (zi zB zr zq) zL)) ρ A=.ok ((S.drop w.length).map λt=>W.int (at2 t i j)) (A++[.lst ((S.drop w.length).map zw)]):=by
  rw[m5 Q];refine Bc (f:=zw) qe qM (by have:=H.l;rw[bE];unfold qj;omega) (λt ht=>?_)
  have o:=bH ht;have U:=H.r t o;subst n;exact(zM ((zM (zp rfl) (zp rfl)).trans (JF (a:=i) (by omega))) (zp rfl)).trans (wZ (b:=j) (by rw[H.c t o _ (kF (by omega))];omega))
 have J:=km e5;have x:(A++[O.lst ((S.drop w.length).map zw)]++[O.lst ((S.drop w.length).map λt=>W.int (at2 t i j))])[0]? =some (.lst (S.map zw)):=jy (jy h);have E:(A++[O.lst ((S.drop w.length).map zw)]++[O.lst ((S.drop w.length).map λt=>W.int (at2 t i j))])[(A++[O.lst ((S.drop w.length).map zw)]).length]? =some (.lst ((S.drop w.length).map λt=>W.int (at2 t i j))):=qM;generalize A++[O.lst ((S.drop w.length).map zw)]++[O.lst ((S.drop w.length).map λt=>W.int (at2 t i j))]=B at*;generalize (A++[O.lst ((S.drop w.length).map zw)]).length=q at*;generalize e:([rO 0,some (zt w),iV w.length,iO i,iO j,rO q,x6]:En)=σ;have ez:Zi zr zq σ B=.ok (Qg (.ref 0) (zt w) (S.map zw).length) B:=by
  subst e;exact m6 (zp rfl) x (zp rfl)
 have e6:=Dm (cap:=[3,4]) (me:=zi qG (zi zB (zi zB zr zL) zS) zq) (N:=w.length) (u:=λk=>zw (S.getD k [])) (v:=λk=>.int (w.getD k 0)) (g:=λk=>.int (pS S k i j * w.getD k 0)) ez (by show w.length<=(S.map zw).length;rw[p];exact hm) (by omega)
  (λk L=>(LN x k _).trans (by
   rw[ar,ae (show k<S.length by rw[H.l];omega),int_at L,aa (l:=S),ae (show k<S.length by rw[H.l];omega)]
   rfl))
  ((
   LN x _ _).trans (by
   rw[aD (l:=w.map W.int) (by rw[ag];exact aq _)]
   cases (S.map zw)[w.length]?<;>rfl))
  (λk L=>by
   have ht:S.getD k []∈S:=by
    rw[aa,ae (show k<S.length by rw[H.l];omega)]
    exact aJ _
   have U:=H.r _ ht;have hb:=H.b _ ht i j;subst e;exact(zM ((zM ((zM (zp rfl) (zp rfl)).trans (JF (a:=i) (by omega))) (zp rfl)).trans (wZ (b:=j) (by rw[H.c _ ht _ (kF (by omega))];omega))) (zp rfl)).trans (QB (by show -(2 ^ 64)<at2 _ i j;omega) (by show at2 _ i j<2 ^ 64;omega)))
 have I:=km e6;have Z:(B++[O.lst ((List.range w.length).map λk=>W.int (pS S k i j * w.getD k 0))])[0]? =some (.lst (S.map zw)):=jy x;have D:(B++[O.lst ((List.range w.length).map λk=>W.int (pS S k i j * w.getD k 0))])[q]? =some (.lst ((S.drop w.length).map λt=>W.int (at2 t i j))):=jy E;have y:(B++[O.lst ((List.range w.length).map λk=>W.int (pS S k i j * w.getD k 0))])[B.length]? =some (.lst ((List.range w.length).map λk=>W.int (pS S k i j * w.getD k 0))):=qM;generalize B++[O.lst ((List.range w.length).map λk=>W.int (pS S k i j * w.getD k 0))]=C at*;refine⟨rO q,rO B.length,C,Z,?_⟩;generalize d:([rO 0,some (zt w),iV w.length,iO i,iO j,rO q,rO B.length]:En)=τ;have f1:jR (mQ Kd (zJ jC)) τ C=.ok (.bl (!((S.drop w.length).any λt=>at2 t i j != 0))) C:=by
  subst d;refine kQ ((jX (yA (w:=.ref q) (ws:=((S.drop w.length).map λt=>at2 t i j).map W.int) (A1:=C) (zp rfl) (by unfold zY;dsimp only;rw[D,aX];rfl))).trans ?_)
  show Zg (λks=>ks.any id) _ C=_;unfold Zg;rw[O8,aX];dsimp only;rw[List.any_map]
  rfl
 have f2:zi jw (zi qG (zi zB zq zS) (zi zB zq zW)) (mQ wF (zJ j8)) τ C=.ok (.bl (!decide (w.getD i 0 * w.getD j 0=((List.range w.length).map λk=>pS S k i j * w.getD k 0).sum))) C:=by
  subst d;refine(zM ((zM ((zM (zp rfl) (zp rfl)).trans (wZ Y)) ((zM (zp rfl) (zp rfl)).trans (wZ X))).trans (Lq (XU hw i) (XU hw j))) ((jX (yA (w:=.ref B.length) (ws:=((List.range w.length).map λk=>pS S k i j * w.getD k 0).map W.int) (A1:=C) (zp rfl) (by unfold zY;dsimp only;rw[y,aX];rfl))).trans (TJ _))).trans (Ks _ _ _)
 have hf:jY (jR (mQ Kd (zJ jC))) (zi jw (zi qG (zi zB zq zS) (zi zB zq zW)) (mQ wF (zJ j8))) τ C=.ok (.bl (!yO S w i j)) C:=by
  unfold yO;cases M:(S.drop w.length).any λt=>at2 t i j != 0 with
  |true=>rw[M]at f1;exact Jj f1|false=>rw[M]at f1;rw[Bool.false_or];exact(Z8 f1).trans f2
 have head:∀{z},zo (qU (jY (jR (mQ Kd (zJ jC))) (zi jw (zi qG (zi zB zq zS) (zi zB zq zW)) (mQ wF (zJ j8)))) yF zy) zy τ C=z->fB ρ A=z:=λT=>by
  subst n;subst e;subst d;exact(zH (qH J)).trans ((zH (qH I)).trans T)
 refine head ?_;cases P:yO S w i j with
 |true=>rw[P]at hf;exact(zH ((yb hf).trans qQ)).trans qQ|false=>rw[P]at hf;exact qx ((ko hf).trans (qx (qT qe)))
def all_succ {p:Nat->Bool}{k:Nat}:(List.range (k+1)).all p=((List.range k).all p&&p k):=by
 rw[bf,all_append];simp
def all_false {p:Nat->Bool}{k N:Nat}(H:k<N)(h:p k=false):(List.range N).all p=false:=by
 cases e:(List.range N).all p with
 |false=>rfl|true=>exact absurd (cy.mp e k (cn.mpr H)) (by rw[h];decide)
abbrev fI:Ex:=zo (qO (qN zL) (zG 4) fB) zy
def m8 {x4 x6:Option W}(l:Wf K S)(h:A[0]? =some (.lst (S.map zw)))(u:w.length<=K)(n:K<=8)(t:Bg w)(g:i<w.length):
  (∃y4 y5 y6 B,B[0]? =some (.lst (S.map zw))/\(List.range w.length).all (yO S w i)=true/\fI [rO 0,some (zt w),iV w.length,iO i,x4,x5,x6] A=.ok (.nx [rO 0,some (zt w),iV w.length,iO i,y4,y5,y6]) B)∨
  ∃B,B[0]? =some (.lst (S.map zw))/\(List.range w.length).all (yO S w i)=false/\fI [rO 0,some (zt w),iV w.length,iO i,x4,x5,x6] A=.ok (.rt (.bl false)) B:=by
 have c:=kE (m:=zL) (ρ:=[rO 0,some (zt w),iV w.length,iO i,x4,x5,x6]) (A:=A) (A1:=A) (k:=(w.length:Int)) (zp rfl) (Z2 (by omega))
 rw[aA]at c;rcases GQ (j:=j5 0 w.length) (st:=turn (zG 4) fB) (N:=w.length) (I:=λk q B=>B[0]? =some (.lst (S.map zw))/\(List.range k).all (yO S w i)=true/\∃y4 y5 y6,q=[rO 0,some (zt w),iV w.length,iO i,y4,y5,y6]) (Q:=λr B=>r=.bl false/\B[0]? =some (.lst (S.map zw))/\(List.range w.length).all (yO S w i)=false)
  (λk q B a ⟨v,H,y4,y5,y6,e⟩=>by
   subst e;refine⟨_,yI a,?_⟩;obtain⟨p,Z,C,d,o⟩:=m7 (x5:=y5) (x6:=y6) (j:=k) l v u n t g a;have E:=(yo (tw:=zG 4) (w:=.int (0+(k:Int))) (ρ:=[rO 0,some (zt w),iV w.length,iO i,y4,y5,y6]) (ρ1:=[rO 0,some (zt w),iV w.length,iO i,iO k,y5,y6]) (A:=B) (m1:=fB) (by rw[Int.zero_add];rfl)).trans o
   cases hf:yO S w i k with
   |true=>
    rw[hf]at E;exact .inl ⟨_,C,E,d,by rw[all_succ,H,hf];rfl,_,_,_,rfl⟩
   |false=>
    rw[hf]at E;exact .inr ⟨_,C,E,rfl,d,all_false a hf⟩)
  (λq B _=>yH (by omega)) w.length 0 [rO 0,some (zt w),iV w.length,iO i,x4,x5,x6] A (by omega) ⟨h,rfl,_,_,_,rfl⟩ with ⟨f,B,e,b,H,y4,y5,y6,rfl⟩|⟨r,B,e,rfl,b,H⟩
 ·exact .inl ⟨y4,y5,y6,B,b,H,(zH ((j3 c).trans e)).trans qQ⟩
 ·exact .inr ⟨B,b,H,qx ((j3 c).trans e)⟩
def m9 (g:Wf K S)(D:w.length<=K)(n:K<=8)(x:Bg w):∃B,TN [.ref 0,zt w] [.lst (S.map zw)]=.ok (.bl (yi S w)) B/\B[0]? =some (.lst (S.map zw)):=by
 have l:mQ zT (zJ zq) [rO 0,some (zt w),none,none,none,none,none] [.lst (S.map zw)]=.ok (.int w.length) [.lst (S.map zw)]:=by
  rw[jX (yA (w:=zt w) (ws:=w.map W.int) (A1:=[.lst (S.map zw)]) (zp rfl) rfl)];unfold zT;rw[ag]
 have E:=kE (m:=zL) (ρ:=[rO 0,some (zt w),iV w.length,none,none,none,none]) (A:=[.lst (S.map zw)]) (A1:=[.lst (S.map zw)]) (k:=(w.length:Int)) (zp rfl) (Z2 (by omega))
 rw[aA]at E;unfold TN;rcases GQ (j:=j5 0 w.length) (st:=turn (zG 3) fI) (N:=w.length) (I:=λk v B=>B[0]? =some (.lst (S.map zw))/\(List.range k).all (λi=>(List.range w.length).all λj=>yO S w i j)=true/\∃y u q Y,v=[rO 0,some (zt w),iV w.length,y,u,q,Y]) (Q:=λr B=>r=.bl false/\B[0]? =some (.lst (S.map zw))/\yi S w=false)
  (λk v B a ⟨J,H,y,u,q,Y,e⟩=>by
   subst e;refine⟨_,yI a,?_⟩;have t:=yo (tw:=zG 3) (w:=.int (0+(k:Int))) (ρ:=[rO 0,some (zt w),iV w.length,y,u,q,Y]) (ρ1:=[rO 0,some (zt w),iV w.length,iO k,u,q,Y]) (A:=B) (m1:=fI) (by rw[Int.zero_add];rfl)
   rcases m8 (x4:=u) (x5:=q) (x6:=Y) (i:=k) g J D n x a with ⟨p,o,Z,C,b,h,d⟩|⟨C,b,h,d⟩
   ·exact .inl ⟨_,C,t.trans d,b,by rw[all_succ,H];exact h,_,_,_,_,rfl⟩
   ·exact .inr ⟨_,C,t.trans d,rfl,b,all_false a h⟩)
  (λv B _=>yH (by omega)) w.length 0 [rO 0,some (zt w),iV w.length,none,none,none,none] [.lst (S.map zw)] (by omega) ⟨rfl,rfl,_,_,_,_,rfl⟩ with ⟨f,B,e,c,H,y,u,q,Y,rfl⟩|⟨r,B,e,rfl,c,H⟩
 ·refine⟨B,ja ?_,c⟩
  rw[show yi S w=true from H]
  unfold TV;exact(zH (qH l)).trans ((zH ((j3 E).trans e)).trans (qx (qT qe)))
 ·refine⟨B,ja ?_,c⟩
  rw[H];unfold TV;exact(zH (qH l)).trans (qx ((j3 E).trans e))
def Aa {f:Fn}{U:List W}{v:W}(H:A[n]? =some (.lst ws))(b:jk ws=true)(u:jk U=true)(h:f (.ref 0::U) [.lst ws]=.ok v A1)(c:A1[0]? =some (.lst ws))(a:v.nr=true):yU f (.ref n::U) A=.ok v A:=by
 unfold yU;dsimp only;rw[H];dsimp only;rw[b,u,h];dsimp only[Bool.and_true,if_true];rw[List.head?_eq_getElem?,c];dsimp only;rw[b,a]
 have:A.set n (.lst ws)=A:=by
  apply ext_getElem?
  intro i
  by_cases h:n=i
  ·subst h
   rw[ay (yf H),H]
  ·rw[ax h]
 rw[this]
 rfl
def Lj (H:Wf K S)(d:w.length<=K)(a:K<=8)(c:Bg w)(h:A[n]? =some (.lst (S.map zw))):Ji [.ref n,zt w] A=.ok (.bl (yi S w)) A:=by
 obtain⟨B,e,b⟩:=m9 H d a c;exact Aa h (Z6 (λ_=>Qw _) _) (by show((zt w).nr&&true)=true;rw[YI];rfl) e b rfl
end
noncomputable def dn (s:Int):bR:=(List.range (2 * s.toNat+1)).map λ(i:Nat)=>s-(i:Int)
def ext (s:Int)(w:bR):bQ:=(dn s).map λv=>w++[v]
def step (q:List Int->Bool)(L:bQ)(s:Int):bQ:=(L.flatMap (ext s)).filter q
def ZT (p:Nat->List Int->Bool)(z:bR):Nat->List (bR)
 |0=>[[1]]|k+1=>step (p (k+1)) (ZT p z k) (z.getD (k+1) 0)
abbrev yj (S:List (bQ))(z:bR):Nat->List (bR):=ZT (λ_=>yi S) z
def Xw (s:Int):(dn s).length=2 * s.toNat+1:=by unfold dn;rw[ag,aG]
def Xt {s v:Int}(a:0<=s):v∈dn s↔-s<=v/\v<=s:=by
 unfold dn;rw[mem_map]
 constructor
 ·rintro⟨i,H,rfl⟩
  have:=cn.mp H
  omega
 ·intro h
  exact⟨(s-v).toNat,cn.mpr (by omega),by omega⟩
def three {s:Nat}:2 * s+1<=3 ^ s:=by
 induction s with
 |zero=>decide|succ s i=>rw[Nat.pow_succ];omega
section
variable {K k:Nat}{w z:bR}{L:bQ}{s:Int}
def YO {x:bR}:x∈ext s w↔∃v∈dn s,x=w++[v]:=by
 unfold ext;rw[mem_map];exact⟨λ⟨v,h,e⟩=>⟨v,h,e.symm⟩,λ⟨v,h,e⟩=>⟨v,h,e.symm⟩⟩
def nc {q:List Int->Bool}:(step q L s).length<=L.length * 3 ^ s.toNat:=by
 unfold step;refine aY (length_filter_le _ _) ?_
 induction L with
 |nil=>rw[flatMap_nil];exact zero_le _|cons w L i=>
  rw[flatMap_cons,av,bF,succ_mul]
  have:(ext s w).length<=3 ^ s.toNat:=by
   unfold ext;rw[ag,Xw];exact three
  omega
def U4 (M:bQ):(M.flatMap (ext s)).length=M.length * (2 * s.toNat+1):=by
 induction M with
 |nil=>rw[flatMap_nil];show 0=0 * _;rw[Nat.zero_mul]|cons w M i=>
  rw[flatMap_cons,av,i,bF,Nat.add_mul M.length 1,Nat.one_mul,add_comm];unfold ext;rw[ag,Xw]
structure Zs (K:Nat)(z:bR):Prop where
 l:z.length=K
 p:∀v∈z,1<=v
 s:z.sum<=8
 h:z.getD 0 0=1
theorem Wq:∀(z:bR),(∀v∈z,1<=v)->∀v∈z,0<=z.sum/\v<=z.sum
 |[],_,v,h=>by cases h|x::z,p,v,H=>by
  have c:=p x (aE ..);have b:0<=z.sum:=by
   cases z with
   |nil=>exact Int.le_refl _|cons y Z=>exact(Wq (y::Z) (λu a=>p u (aw _ a)) y (aE ..)).1
  rw[sum_cons];rcases cu.mp H with rfl|H
  ·omega
  ·have:=(Wq z (λu a=>p u (aw _ a)) v H).2
   omega
def Zs.le (h:Zs K z)(H:k<K):1<=z.getD k 0/\z.getD k 0<=8:=by
 have a:z.getD k 0∈z:=by
  rw[aa,ae (by rw[h.l];exact H)]
  exact aJ _
 have:=Wq z h.p _ a
 have:=h.p _ a
 have:=h.s
 omega
theorem JC {p:Nat->List Int->Bool}(a:Zs K z):∀k,k<K->∀w∈ZT p z k,w.length=k+1/\(∀v∈w,-9<v/\v<9)/\w.getD 0 0=1/\∀i,i<=k->-(z.getD i 0)<=w.getD i 0/\w.getD i 0<=z.getD i 0
 |0,c,w,h=>by
  have:w=[1]:=cz.mp h
  subst this;refine⟨rfl,λv b=>by rw[cz.mp b];omega,rfl,λi f=>?_⟩
  have:i=0:=by omega
  subst this;rw[a.h];show -1<=(1:Int)/\(1:Int)<=1;omega
 |k+1,c,w,h=>by
  obtain⟨x,d,n⟩:=List.mem_flatMap.mp (List.mem_filter.mp h).1;obtain⟨v,b,rfl⟩:=YO.mp n;obtain⟨q,o,j,g⟩:=JC (p:=p) a k (by omega) x d
  have Z:=a.le c;have D:=(Xt (by omega)).mp b
  refine⟨by rw[av,q];rfl,λu H=>?_,?_,λi f=>?_⟩
  ·rcases cB.mp H with H|H
   ·exact o u H
   ·rw[cz.mp H];omega
  ·rw[aa,ai (by omega),<- aa]
   exact j
  ·by_cases e:i=k+1
   ·subst e
    rw[aa (l:=x++[v]),au (by omega),show k+1-x.length=0 by omega]
    exact D
   ·rw[aa (l:=x++[v]),ai (by omega),<- aa]
    exact g i (by omega)
theorem M3 {p:Nat->List Int->Bool}(h:Zs K z):∀k,k<K->(ZT p z k).length<=3 ^ (((z.drop 1).take k).sum).toNat
 |0,_=>by show 1<=3 ^ 0;decide|k+1,H=>by
  have i:=M3 (p:=p) h k (by omega)
  have Z:=h.le H;have e:(z.drop 1).take (k+1)=(z.drop 1).take k++[z.getD (k+1) 0]:=by
   rw[List.take_succ,List.getElem?_drop,add_comm 1 k,ae (by rw[h.l];exact H),aa,ae (by rw[h.l];exact H)]
   rfl
  have n:0<=((z.drop 1).take k).sum:=by
   cases q:(z.drop 1).take k with
   |nil=>exact Int.le_refl _|cons y l=>
    refine(Wq (y::l) (λu a=>h.p u ?_) y (aE ..)).1;rw[<- q]at a;exact bH (List.mem_of_mem_take a)
  have S:=nc (q:=p (k+1)) (L:=ZT p z k) (s:=z.getD (k+1) 0);rw[e,sum_append,List.sum_singleton,Int.toNat_add n (by omega),Nat.pow_add]
  exact aY S (Nat.mul_le_mul_right _ i)
def Tz {p:Nat->List Int->Bool}(h:Zs K z)(c:k<K):(ZT p z k).length<=2187:=by
 refine aY (M3 h k c) ?_
 have:(((z.drop 1).take k).sum).toNat<=7:=by
  have a:∀l:bR,(∀v∈l,1<=v)->0<=l.sum:=λl b=>by
   cases l with
   |nil=>exact Int.le_refl _|cons y l=>exact(Wq (y::l) b y (aE ..)).1
  have e:z.sum=(z.take 1).sum+((z.drop 1).take k).sum+((z.drop 1).drop k).sum:=by
   rw[<- sum_append,<- sum_append,aP,take_append_drop,take_append_drop]
  have A:1<=(z.take 1).sum:=by
   cases z with
   |nil=>have:=h.l;simp at this;omega|cons x z=>
    have:=h.p x (aE ..)
    simp;omega
  have a2:=a ((z.drop 1).drop k) λv H=>h.p v (bH (bH H))
  have:=h.s
  omega
 exact Nat.pow_le_pow_right (by decide) this
variable {m j:Nat}{S:List (bQ)}
def UX {u v:List W}(h:u.length+v.length<=1000):qk (.tup u) (.tup v) A=.ok (.tup (u++v)) A:=by
 unfold qk;dsimp only;rw[ah (by unfold qj;omega)]
abbrev RJ:Em:=Qa (WH zL (zi yP (yR gO zL) qh)) (zG 1) ql (zU (zi qk zr (qa (zc zq zj))))
def nh {x1:Option W}{acc:List W}(t:0<=s)(o:s<=8)(q:w.length<=8)(n:acc.length<=90000):∃Y,RJ [some (zt w),x1,iV s] acc A=.ok ([some (zt w),Y,iV s],acc++(ext s w).map zt) A:=by
 have r:WH zL (zi yP (yR gO zL) qh) [some (zt w),x1,iV s] A=.ok (Kf s (2 * s.toNat+1)) A:=by
  have E:zi yP (yR gO zL) qh [some (zt w),x1,iV s] A=.ok (.int (-s-1)) A:=(zM (x:=.int (-s)) (A1:=A) ((L7 (g:=gO) (zp (i:=2) rfl)).trans rfl) qe).trans rfl;unfold WH;rw[show zL [some (zt w),x1,iV s] A=.ok (.int s) A from zp rfl,zP,E,zP]
  show(if (jH s&&jH (-s-1))=true then R.ok (Kf s (s-(-s-1)).toNat) A else .bad)=_;rw[ah,show(s-(-s-1)).toNat=2 * s.toNat+1 by omega]
  have:s=0∨s=1∨s=2∨s=3∨s=4∨s=5∨s=6∨s=7∨s=8:=by omega
  rcases this with rfl|rfl|rfl|rfl|rfl|rfl|rfl|rfl|rfl<;>decide
 obtain⟨f,d,u,e,E,c,Y,b⟩:=NN (j:=Kf s (2 * s.toNat+1)) (tw:=zG 1) (ifs:=ql) (em:=zU (zi qk zr (qa (zc zq zj)))) (N:=2 * s.toNat+1) (I:=λk p a B=>B=A/\a=acc++((dn s).take k).map (λv=>zt (w++[v]))/\∃Y,p=[some (zt w),Y,iV s])
  (λk p a B h ⟨E,c,Y,b⟩=>by
   subst E c b;have l:k<(dn s).length:=by rw[Xw];exact h
   have H:(dn s)[k]=s-(k:Int):=by simp[dn]
   refine⟨.int (s-(k:Int)),_,?_,rfl,.inl ⟨_,_,_,_,qe,Wa (y:=zt (w++[s-(k:Int)])) ((zM (zp rfl) (wk (zD (zp rfl) zN))).trans ((UX ?_).trans ?_)) ?_,rfl,?_,_,rfl⟩⟩
   ·show(if k<2 * s.toNat+1 then some (some (W.int (s-(k:Int)))) else some none)=_
    rw[ah h]
   ·rw[ag];show w.length+1<=1000;omega
   ·unfold zt;rw[aN];rfl
   ·rw[av,ag,bb];unfold qj;omega
   ·rw[take_succ l,aN,H,aP];rfl)
  (λp a B _=>by
   show(if 2 * s.toNat+1<2 * s.toNat+1 then some (some (W.int (s-((2 * s.toNat+1:Nat):Int)))) else some none)=_;rw[aj (by omega)]) (2 * s.toNat+1) 0 [some (zt w),x1,iV s] acc A (by omega) ⟨rfl,by rw[take_zero,map_nil,a3],_,rfl⟩
 subst E c b;refine⟨Y,?_⟩;show(Qa _ _ _ _ _ _ _)=_;unfold Qa;rw[r,zP];refine e.trans ?_;rw[a5 (by rw[Xw];exact aq _)]
 unfold ext;rw[aX]
 rfl
abbrev HW:j6:=qc 2 [3] (qu zL) (zG 0) ql RJ
def ni {x y:Option W}{r:Nat}{a:W}(C:0<=s)(l:s<=8)(j:∀w∈L,w.length<=8)(q:L.length * 17<=90000)(H:A[r]? =some (.lst (L.map zt))):HW [some a,x,rO r,iV s,y] A=.ok ((L.flatMap (ext s)).map zt) A:=by
 have i:∀k,((L.take k).flatMap (ext s)).length<=L.length * 17:=λk=>by
  rw[U4];have v:(L.take k).length<=L.length:=by rw[bb];omega
  have u:2 * s.toNat+1<=17:=by omega
  exact mul_le_mul v u
 obtain⟨g,f,J,e,E,b,_⟩:=K4 (nl:=2) (cap:=[3]) (mi:=qu zL) (ρ:=[some a,x,rO r,iV s,y]) (tw:=zG 0) (ifs:=ql) (em:=RJ) (N:=L.length) (I:=λk t c B=>B=A/\c=((L.take k).flatMap (ext s)).map zt/\∃d Y,t=[d,Y,iV s]) (ZD (n:=r) (zp rfl) H) (by show(L.map zt).length=L.length;rw[ag])
  (λk t c B h ⟨E,b,d,Y,p⟩=>by
   subst E b p;have D:=i k;obtain⟨Z,o⟩:=nh (A:=B) (w:=L[k]) (x1:=Y) (acc:=((L.take k).flatMap (ext s)).map zt) C l (j _ (aJ h)) (by rw[ag];omega)
   refine⟨zt L[k],_,(yT H).trans (by rw[ar,ae h];rfl),rfl,.inl ⟨_,_,_,_,qe,o,rfl,?_,_,_,rfl⟩⟩
   rw[take_succ h,bP,aN,List.flatMap_singleton])
  (λt c B ⟨E,_⟩=>by
   subst E;exact(yT H).trans (by rw[aD (by rw[ag];exact aq _)]))
  ⟨rfl,by rw[take_zero];rfl,_,_,rfl⟩
 subst E b;rw[a5 (aq _)]at e;exact e
abbrev HC:j6:=qc 1 [1] (qu zW) (zG 0) (zC Ji (zc zq (zc zr zj))) (zU zr)
def nj {x2 x3:Option W}{r:Nat}{a:W}(o:Wf K S)(q:K<=8)(p:∀w∈L,w.length<=K/\∀v∈w,-100<v/\v<100)(u:L.length<=90000)(C:A[0]? =some (.lst (S.map zw)))(H:A[r]? =some (.lst (L.map zt))):HC [some a,rO 0,x2,x3,rO r] A=.ok ((L.filter (yi S)).map zt) A:=by
 obtain⟨i,g,D,e,E,d,_⟩:=K4 (nl:=1) (cap:=[1]) (mi:=qu zW) (ρ:=[some a,rO 0,x2,x3,rO r]) (tw:=zG 0) (ifs:=zC Ji (zc zq (zc zr zj))) (em:=zU zr) (N:=L.length) (I:=λk x c B=>B=A/\c=((L.take k).filter (yi S)).map zt/\∃y,x=[y,rO 0]) (ZD (n:=r) (zp rfl) H) (by show(L.map zt).length=L.length;rw[ag])
  (λk x c B h ⟨E,d,y,t⟩=>by
   subst E d t;obtain⟨l,j⟩:=p _ (aJ h);have b:=(qd (f:=Ji) (ρ:=[some (zt L[k]),rO 0]) (A:=B) (zD (ma:=zq) (zp rfl) (zD (ma:=zr) (zp rfl) zN))).trans (Lj o l q (UT j) C);refine⟨zt L[k],[some (zt L[k]),rO 0],(yT H).trans (by rw[ar,ae h];rfl),rfl,?_⟩
   cases hf:yi S L[k] with
   |true=>
    rw[hf]at b;refine .inl ⟨_,_,_,_,b,Wa (zp rfl) ?_,rfl,?_,_,rfl⟩
    ·rw[ag]
     have:=length_filter_le (yi S) (L.take k)
     rw[bb]at this;unfold qj;omega
    ·rw[take_succ h,filter_append,aN,List.filter_cons_of_pos hf,filter_nil];rfl
   |false=>
    rw[hf]at b;refine .inr ⟨_,b,rfl,?_,_,rfl⟩;rw[take_succ h,filter_append,List.filter_cons_of_neg (by rw[hf];decide),filter_nil,a3])
  (λx c B ⟨E,_⟩=>by
   subst E;exact(yT H).trans (by rw[aD (by rw[ag];exact aq _)]))
  ⟨rfl,by rw[take_zero];rfl,_,rfl⟩
 subst E d;rw[a5 (aq _)]at e;exact e
structure Dt (t:bQ)(K:Nat)(S:List (bQ))(z:bR):Prop where
 tab:qz t
 kd:qw t=(K:Int)
 sd:jW t
 ks:∀A,Yo [zw t] A=.ok (.ref A.length) (A++[.lst (S.map zw)])
 zf:∀A,KR [zw t] A=.ok (.ref A.length) (A++[.lst (z.map W.int)])
 wf:Wf K S
 zs:Zs K z
 k1:1<=K
 k8:K<=8
abbrev sB:Ex:=zo (zQ 4 (qW HW)) (zo (zQ 2 (qW HC)) zy)
def nk {r:Nat}{x4:Option W}(h:Dt t K S z)(e:k+1<K)(B:A[0]? =some (.lst (S.map zw)))(f:A[r]? =some (.lst ((yj S z k).map zt))):∃y4 b C,sB [some (zw t),rO 0,rO r,iV (z.getD (k+1) 0),x4] A=.ok (.nx [some (zw t),rO 0,rO b,iV (z.getD (k+1) 0),y4]) C/\Ext A C/\C[b]? =some (.lst ((yj S z (k+1)).map zt)):=by
 have sh:=JC (p:=λ_=>yi S) h.zs k (by omega)
 have g:(yj S z k).length<=2187:=Tz (p:=λ_=>yi S) h.zs (k:=k) (by omega)
 have Z:=h.zs.le e;have I:=h.k8;have i:=km (ni (s:=z.getD (k+1) 0) (x:=rO 0) (y:=x4) (a:=zw t) (by omega) (by omega) (λw j=>by have:=(sh w j).1;omega) (by omega) f)
 have L:∀w∈(yj S z k).flatMap (ext (z.getD (k+1) 0)),w.length<=K/\∀v∈w,-100<v/\v<100:=λw j=>by
  obtain⟨x,c,j⟩:=List.mem_flatMap.mp j;obtain⟨v,d,rfl⟩:=YO.mp j;obtain⟨o,n,_⟩:=sh x c;have D:=(Xt (by omega)).mp d
  refine⟨by rw[av,o];show k+1+1<=K;omega,λu H=>?_⟩
  rcases cB.mp H with H|H
  ·have:=n u H;omega
  ·rw[cz.mp H];omega
 have l:((yj S z k).flatMap (ext (z.getD (k+1) 0))).length<=90000:=by
  rw[U4];have q:2 * (z.getD (k+1) 0).toNat+1<=17:=by omega
  exact aY (mul_le_mul g q) (by decide)
 have E:=km (nj (x2:=rO r) (x3:=iV (z.getD (k+1) 0)) (a:=zw t) (A:=A++[.lst (((yj S z k).flatMap (ext (z.getD (k+1) 0))).map zt)]) (r:=A.length) h.wf h.k8 L l (jy B) qM);exact⟨_,_,_,(zH (qH i)).trans ((zH (qH E)).trans qQ),Ext.one.trans Ext.one,qM⟩
def NT (h:Dt t K S z)(A:Hx):KA [zw t] A=.ok (.ref A.length) (A++[.lst ((yj S z (K-1)).map zt)]):=by
 have Z:=h.zs.l;have Q:=h.k1;have T:=h.k8;have w:=h.ks [];have v:=h.zf [.lst (S.map zw),.lst [.tup [.int 1]]];have E:=Ii (m:=zC KR (zc zr zj)) (p:=qh) (ρ:=[some (zw t),rO 0,rO 1,none,none]) (A0:=[.lst (S.map zw),.lst [.tup [.int 1]]]) (n:=2) (k:=1) ((qd (zD (zp rfl) zN)).trans v) rfl qe (by rw[ag,Z];exact Q)
 rw[<- List.map_drop]at E;have P:(z.drop 1).length=K-1:=by rw[bE,Z]
 have c:∀(B:Hx)(i:Nat),B[3]? =some (.lst ((z.drop 1).map W.int))->i<K-1->((zY (.ref 3) B).map λJ=>J[i]?)=some (iV (z.getD (i+1) 0)):=λB i u d=>by
  rw[yT u,ar,List.getElem?_drop,add_comm 1 i,ae (by rw[Z];omega),aa,ae (by rw[Z];omega)]
  rfl
 obtain⟨f,B,e,M,H,r,y,Y,rfl,b⟩:=kj (j:=⟨λA i=>(zY (.ref 3) A).map λJ=>J[i]?,K-1⟩) (st:=turn (zG 3) sB) (N:=K-1) (I:=λk L B=>B[0]? =some (.lst (S.map zw))/\B[3]? =some (.lst ((z.drop 1).map W.int))/\∃r y Y,L=[some (zw t),rO 0,rO r,y,Y]/\B[r]? =some (.lst ((yj S z k).map zt)))
  (λi L B d ⟨M,H,r,y,Y,a,b⟩=>by
   subst a;obtain⟨D,g,C,e,x,q⟩:=nk (x4:=Y) h (k:=i) (by omega) M b
   exact⟨_,_,C,c B i H d,(yo rfl).trans e,x.at M,x.at H,g,_,_,rfl,q⟩)
  (λL B ⟨_,H,_⟩=>by
   show((zY (.ref 3) B).map λJ=>J[K-1]?)=_;rw[yT H,aD (by rw[ag,P];exact aq _)]) (K-1) 0 [some (zw t),rO 0,rO 1,none,none] [.lst (S.map zw),.lst [.tup [.int 1]],.lst (z.map W.int),.lst ((z.drop 1).map W.int)] (by omega) ⟨rfl,rfl,1,_,_,rfl,rfl⟩
 refine Wg (k:=r) (A1:=B) (gq t) (ja ?_) b (Z6 (λ_=>YI _) _);unfold Pd;have o:(K-1)=((z.drop 1).map W.int).length:=by rw[ag,P]
 rw[o]at e;exact(zH (qH ((qd (zD (zp rfl) zN)).trans w))).trans ((zH (qH (jV (zD (wk (zD qe zN)) zN)))).trans ((zH ((j3 (ZD E rfl)).trans e)).trans (qx (qT (zp rfl)))))
end
noncomputable def sm (n:Nat)(f:Nat->Int):Int:=((List.range n).map f).sum
def wX (n:Nat)(f:Nat->Int):sm (n+1) f=sm n f+f n:=by
 unfold sm;rw[bf,aN,sum_append];simp
def yG {f g:Nat->Int}(h:∀i,i<n->f i=g i):sm n f=sm n g:=by
 unfold sm
 congr 1
 exact bh λi H=>h i (cn.mp H)
def UZ (n:Nat):sm n (λ_=>0)=0:=by
 induction n with
 |zero=>rfl|succ n i=>rw[wX,i];rfl
def nq (n:Nat)(f g:Nat->Int):sm n (λi=>f i+g i)=sm n f+sm n g:=by
 induction n with
 |zero=>rfl|succ n I=>rw[wX,wX,wX,I];omega
def L8 {a:Nat}(b:a<n)(v:Int):sm n (λi=>if i=a then v else 0)=v:=by
 induction n with
 |zero=>omega|succ n I=>
  rw[wX]
  by_cases h:a=n
  ·subst h
   have:sm a (λi=>if i=a then v else 0)=sm a λ_=>0:=yG λi H=>aj (by omega)
   rw[this,UZ,ah rfl];omega
  ·rw[I (by omega),aj (by omega)]
   omega
section
variable {K:Nat}{w x:W}
def nt (l:ws.length<=100)(a:∀x∈ws,∃ty,j0 x A=some ty):g8 [.tup ws,.int K] A=.ok (.bl (decide (ws.length=K)&&ws.all wd)) A:=by
 unfold g8 K1;refine ja ?_;unfold KZ;refine qx (qT ?_);refine(Z8 (A1:=A) rfl).trans ?_;have e:=Y3 (ws:=ws) (ρ:=[some (.tup ws),iV K]) (i:=0) (A:=A) rfl;have eq:zi qX (mQ zT (zJ (qg 0))) (qg 1) [some (.tup ws),iV K] A=.ok (.bl (decide (ws.length=K))) A:=(zM e (zp (i:=1) rfl)).trans ((wz _ _ _).trans (by congr 2;exact decide_eq_decide.mpr ⟨λz=>by omega,λz=>by omega⟩))
 by_cases q:ws.length=K
 ·rw[az q]at eq ⊢
  refine(Z8 eq).trans ?_;have E:=YF (cap:=[]) (A:=A) (ρ:=[some (.tup ws),iV K]) (ws:=ws) (me:=zC Q4 (zc (qg 0) zj)) (g:=λw=>.bl (wd w)) (zp (i:=0) rfl) (by unfold qj;omega) (λw H=>by
   obtain⟨ty,h⟩:=a w H;exact(qd (ws:=[w]) (A1:=A) rfl).trans (MD h))
  refine(jX E).trans ?_;rw[Bool.true_and];unfold ZM Zg;rw[GU];show R.ok (W.bl ((ws.map wd).all id)) A=_;rw[all_map]
  rfl
 ·rw[aH q]at eq ⊢
  exact Jj eq
variable {a b c e k:Nat}
def nv (l:qz t)(s:jW t)(j:qw t=(K:Int))(i:k<K):∃b,b<t.length/\at2 t 0 b=(k:Int):=by
 obtain⟨a,b,h,f,e⟩:=QE l (v:=k) (by omega)
 have n:=l.n1;have D:at2 t 0 0=at2 t a a:=by rw[(l.dg 0 0 n n).mpr rfl,(l.dg a a h h).mpr rfl]
 have H:=s 0 0 a a n n h h D;have o:((k:Int),(k:Int))∈Zu t a a:=by
  unfold Zu;exact cx.mpr ⟨b,cn.mpr f,by rw[e]⟩
 obtain⟨c,d,E⟩:=cx.mp (H.mem_iff.mpr o);injection E with g _
 exact⟨c,cn.mp d,g⟩
end
def LX (n:Nat)(f:Nat->Int)(v:Int):sm n (λi=>v * f i)=v * sm n f:=by
 induction n with
 |zero=>show(0:Int)=v * 0;rw[Int.mul_zero]|succ n I=>rw[wX,wX,I,Int.mul_add]
def ny (n:Nat)(f:Nat->Int)(v:Int):sm n (λi=>f i * v)=sm n f * v:=by
 rw[Int.mul_comm,<- LX];exact yG λi _=>Int.mul_comm _ _
def Tj (n m:Nat)(f:Nat->Nat->Int):sm n (λi=>sm m (f i))=sm m λj=>sm n λi=>f i j:=by
 induction n with
 |zero=>show(0:Int)=_;exact(UZ m).symm|succ n I=>
  rw[wX,I,<- nq];exact yG λj _=>(wX n λi=>f i j).symm
section
variable {K m j k:Nat}{w x z:bR}{S:List (bQ)}
def Full (K:Nat)(S:List (bQ))(w:bR):Prop:=∀i j,i<K->j<K->w.getD i 0 * w.getD j 0=sm K λk=>pS S k i j * w.getD k 0
structure Wt (K:Nat)(S:List (bQ))(z w:bR):Prop where
 l:w.length=K
 o:w.getD 0 0=1
 b:∀i,i<K->-(z.getD i 0)<=w.getD i 0/\w.getD i 0<=z.getD i 0
 f:Full K S w
def UJ:yO S w i j=true↔(∃t∈S.drop w.length,at2 t i j≠0)∨w.getD i 0 * w.getD j 0=sm w.length λk=>pS S k i j * w.getD k 0:=by
 unfold yO;rw[a8,any_eq_true,ao]
 have:(∃t∈S.drop w.length,(at2 t i j != 0)=true)↔∃t∈S.drop w.length,at2 t i j≠0:=by
  constructor
  ·rintro⟨t,H,h⟩;exact⟨t,H,by simpa using h⟩
  ·rintro⟨t,H,h⟩;exact⟨t,H,by simpa using h⟩
 rw[this];exact Iff.rfl
def Mh:yi S w=true↔∀i j,i<w.length->j<w.length->yO S w i j=true:=by
 unfold yi;rw[aZ]
 constructor
 ·intro h i j a H
  exact cy.mp (h i (cn.mpr a)) j (cn.mpr H)
 ·intro h i a
  rw[aZ];exactλj H=>h i j (cn.mp a) (cn.mp H)
def UU (b:S.length=K)(c:w.length=K):yi S w=true↔Full K S w:=by
 rw[Mh];unfold Full;rw[c];refine⟨λh i j a H=>?_,λh i j a H=>UJ.mpr (.inr (by rw[c];exact h i j a H))⟩
 rcases UJ.mp (h i j a H) with ⟨t,d,_⟩|e
 ·rw[c,List.drop_of_length_le (by omega)]at d
  cases d
 ·rw[c]at e;exact e
def Yw {l:bR}(h:i<m):(l.take m).getD i 0=l.getD i 0:=by
 rw[aa,List.getElem?_take_of_lt h,<- aa]
theorem Se {f:Nat->Int}:∀d,(∀k,m<=k->k<m+d->f k=0)->sm (m+d) f=sm m f
 |0,_=>rfl|d+1,h=>by
  rw[<- Nat.add_assoc,wX,Se d (λk H a=>h k H (by omega)),h (m+d) (by omega) (by omega),Int.add_zero]
def nz (c:S.length=K)(d:w.length=K)(f:Full K S w)(g:m<=K):yi S (w.take m)=true:=by
 have l:(w.take m).length=m:=by rw[bb];omega
 refine Mh.mpr λi j a H=>UJ.mpr ?_;rw[l]at a H ⊢
 by_cases h:∃t∈S.drop m,at2 t i j≠0
 ·exact .inl h
 ·refine .inr ?_
  rw[Yw a,Yw H,f i j (by omega) (by omega)]
  have e:K=m+(K-m):=by omega
  rw[e,Se (K-m) λk o n=>?_]
  ·exact yG λk b=>by rw[Yw b]
  ·have:at2 (S.getD k []) i j=0:=Decidable.byContradiction λq=>h ⟨S.getD k [],by
    rw[aa,ae (by omega)]
    exact List.mem_iff_getElem.mpr ⟨k-m,by rw[bE];omega,by rw[List.getElem_drop];congr 1;omega⟩,q⟩
   show at2 _ i j * _=0;rw[this,zero_mul]
theorem TQ {p:Nat->List Int->Bool}(H:Zs K z)(a:∀k,k+1<K->p (k+1) (w.take (k+1+1))=true)(d:Wt K S z w):∀k,k<K->w.take (k+1)∈ZT p z k
 |0,h=>by
  have:w.take 1=[1]:=by
   cases w with
   |nil=>have:=d.l;simp at this;omega|cons v w=>have:=d.o;rw[show(v::w).getD 0 0=v from rfl]at this;rw[this];rfl
  rw[this];exact cz.mpr rfl
 |k+1,h=>by
  have i:=TQ H a d k (by omega)
  have c:=d.l;have Z:=H.le h;have e:w.take (k+1+1)=w.take (k+1)++[w.getD (k+1) 0]:=by
   rw[take_succ (by omega),aa,ae (by omega)]
   rfl
  refine List.mem_filter.mpr ⟨?_,a k h⟩;rw[e];exact List.mem_flatMap.mpr ⟨_,i,YO.mpr ⟨_,(Xt (by omega)).mpr (d.b _ h),rfl⟩⟩
def nA (H:1<=k)(h:w∈yj S z k):yi S w=true:=by
 obtain⟨k,rfl⟩:∃j,k=j+1:=⟨k-1,by omega⟩
 exact(List.mem_filter.mp h).2
def M6 (H:Zs K z)(b:S.length=K)(u:1<=K)(q:K=1->pS S 0 0 0=1):w∈yj S z (K-1)↔Wt K S z w:=by
 constructor
 ·intro h
  obtain⟨t,r,n,o⟩:=JC H (K-1) (by omega) w h
  have a:w.length=K:=by omega
  refine⟨a,n,λi c=>o i (by omega),?_⟩
  by_cases e:K=1
  ·subst e
   intro i j c g
   have:i=0:=by omega
   subst this
   have:j=0:=by omega
   subst this;rw[n,wX];show(1:Int) * 1=sm 0 _+pS S 0 0 0 * w.getD 0 0;rw[q rfl,n]
   rfl
  ·exact(UU b a).mp (nA (by omega) h)
 ·intro h
  have:=TQ (p:=λ_=>yi S) H (λk d=>nz b h.l h.f (by omega)) h (K-1) (by omega)
  rwa[a5 (by have:=h.l;omega)]at this
theorem Mb (x y:Int):∀w:bR,yC (w++[x]) (w++[y])=decide (x<y)
 |[]=>by
  show(if x=y then false else decide (x<y))=_
  split
  ·exact(aH (by omega)).symm
  ·rfl
 |c::w=>by
  show(if c=c then yC (w++[x]) (w++[y]) else _)=_;rw[ah rfl];exact Mb x y w
theorem MV (x y:Int):∀a b:bR,a.length=b.length->a≠b->yC (a++[x]) (b++[y])=yC a b
 |[],[],_,h=>absurd rfl h|[],_::_,h,_=>by cases h|_::_,[],h,_=>by cases h|c::a,d::b,h,hn=>by
  show(if c=d then yC (a++[x]) (b++[y]) else _)=if c=d then yC a b else _
  by_cases e:c=d
  ·rw[ah e,ah e]
   exact MV x y a b (by injection h) λq=>hn (by rw[e,q])
  ·rw[aj e,aj e]
theorem UH:∀a b:bR,yC a b=true->yC b a=false
 |[],[],h=>by cases h|[],_::_,_=>rfl|_::_,[],h=>by cases h|c::a,d::b,h=>by
  change (if c=d then yC a b else decide (c<d))=true at h
  show(if d=c then yC b a else decide (d<c))=false
  by_cases e:c=d
  ·subst e
   rw[ah rfl]at h ⊢;exact UH a b h
  ·rw[aj e,ao]at h
   rw[aj (Ne.symm e),decide_eq_false_iff_not];omega
def XF {a b:bR}(h:yC b a=true)(e:a=b):False:=by rw[e,lB]at h;cases h
theorem Mk:∀{a b:bQ},a.Pairwise (λx y=>yC y x=true)->b.Pairwise (λx y=>yC y x=true)->(∀x,x∈a↔x∈b)->a=b
 |[],[],_,_,_=>rfl|[],y::b,_,_,h=>absurd ((h y).mpr (aE ..)) bg|x::a,[],_,_,h=>absurd ((h x).mp (aE ..)) bg|x::a,y::b,d,c,h=>by
  obtain⟨A,a2⟩:=List.pairwise_cons.mp d;obtain⟨B,f⟩:=List.pairwise_cons.mp c;have e:x=y:=by
   rcases cu.mp ((h x).mp (aE ..)) with e|e
   ·exact e
   ·rcases cu.mp ((h y).mpr (aE ..)) with E|E
    ·exact E.symm
    ·have g:=UH _ _ (B x e)
     rw[A y E]at g;cases g
  subst e;rw[Mk a2 f λz=>⟨λH=>(cu.mp ((h z).mp (aw _ H))).resolve_left λe=>XF (A z H) e.symm,λH=>(cu.mp ((h z).mpr (aw _ H))).resolve_left λe=>XF (B z H) e.symm⟩]
theorem K6 {p:Nat->List Int->Bool}(c:Zs K z):∀k,k<K->(ZT p z k).Pairwise λa b=>yC b a=true
 |0,_=>List.pairwise_singleton _ _|k+1,n=>by
  have i:=K6 (p:=p) c k (by omega)
  have sh:=JC (p:=p) c k (by omega)
  refine List.Pairwise.filter _ ?_;rw[List.pairwise_flatMap];refine⟨λw o=>?_,?_⟩
  ·unfold ext dn
   rw[aX,pairwise_map];refine List.pairwise_lt_range.imp λ {a b} h=>?_;show yC (w++[z.getD (k+1) 0-(b:Int)]) (w++[z.getD (k+1) 0-(a:Int)])=true;rw[Mb];exact az (by omega)
  ·refine List.Pairwise.imp_of_mem ?_ i
   intro a b l j H x g y f;obtain⟨v,_,rfl⟩:=YO.mp g;obtain⟨d,_,rfl⟩:=YO.mp f;exact(MV d v b a (by rw[(sh a l).1,(sh b j).1]) λe=>XF H e.symm).trans H
def Bv {p:Nat->List Int->Bool}(H:Zs K z)(k:Nat)(a:k<K):(ZT p z k).Nodup:=(K6 H k a).imp λh e=>XF h e
theorem Uz  [DecidableEq α]:∀{l k:List α},l.Nodup->k.Nodup->(∀a,a∈l↔a∈k)->l.Perm k
 |[],k,_,_,h=>by
  cases k with
  |nil=>exact List.Perm.refl _|cons a k=>exact absurd ((h a).mpr (aE ..)) bg
 |a::l,k,H,c,h=>by
  have f:a∈k:=(h a).mp (aE ..);refine List.Perm.trans ?_ (List.perm_cons_erase f).symm;refine List.Perm.cons a (Uz (List.nodup_cons.mp H).2 (c.erase a) λb=>?_);rw[c.mem_erase_iff]
  constructor
  ·intro d
   exact⟨λe=>(List.nodup_cons.mp H).1 (e ▸ d),(h b).mp (aw _ d)⟩
  ·rintro⟨j,i⟩
   rcases cu.mp ((h b).mpr i) with rfl|g
   ·exact absurd rfl j
   ·exact g
end
theorem XC  [BEq α] [LawfulBEq α] [DecidableEq α] (f:Nat->α)(v:α):∀n:Nat,((((List.range n).map f).count v:Nat):Int)=sm n λc=>if f c=v then 1 else 0
 |0=>rfl|n+1=>by
  rw[bf,aN,List.count_append,wX,<- XC f v n,aR,map_nil,List.count_singleton]
  by_cases h:f n=v
  ·rw[ah h,ah (aL.mpr h)]
   rfl
  ·rw[aj h,aj (λq=>h (aL.mp q))]
   rfl
section
variable {y z v:bR}{a b c e j k K:Nat}{S:Nat->List (bR)}
def nC (d:qz t)(H:a<t.length)(h:b<t.length)(i j:Nat):shr t a b t.length i j=sm t.length λc=>if (at2 t a c,at2 t b c)=((i:Int),(j:Int)) then 1 else 0:=by
 rw[Yy d H h t.length (aq _) i j];exact XC (λc=>(at2 t a c,at2 t b c)) _ _
def YV (g:∀a b,a<t.length->b<t.length->jz t K a b=S (at2 t a b).toNat)(l:qz t)(H:a<t.length)(h:b<t.length)(e:at2 t a b=(k:Int))(f:i<K)(d:j<K):at2 (S k) i j=sm t.length λc=>if (at2 t a c,at2 t b c)=((i:Int),(j:Int)) then 1 else 0:=by
 have:=g a b H h
 rw[e,aA]at this;rw[<- this];unfold jz;rw[Wi f d,nC l H h]
def nE (l:∀a b,a<t.length->b<t.length->jz t K a b=S (at2 t a b).toNat)(r:qz t)(p:qw t=(K:Int))(o:k<K)(g:i<K)(f:j<K):at2 (S k) i j=at2 (S k) j i:=by
 obtain⟨a,b,d,H,e⟩:=QE r (v:=k) (by omega)
 rw[YV l r d H e g f,YV l r H d ((r.sy b a H d).trans e) f g];refine yG λc _=>?_
 by_cases q:(at2 t a c,at2 t b c)=((i:Int),(j:Int))
 ·rw[ah q,ah (by injection q with n Q;rw[n,Q])]
 ·rw[aj q,aj (λh=>q (by injection h with w u;rw[w,u]))]
def nb (t:bQ)(a i:Nat):Int:=sm t.length λc=>if at2 t a c=(i:Int) then 1 else 0
def Lf (f:qz t)(s:jW t)(e:a<t.length)(H:b<t.length)(i:Nat):nb t a i=nb t b i:=by
 have d:at2 t a a=at2 t b b:=by rw[(f.dg a a e e).mpr rfl,(f.dg b b H H).mpr rfl]
 have p:=s a a b b e e H H d;have h:∀q:Nat,nb t q i=((((Zu t q q).count ((i:Int),(i:Int)):Nat)):Int):=λq=>by
  unfold Zu nb;rw[XC];refine yG λc _=>?_
  by_cases h:at2 t q c=(i:Int)
  ·rw[ah h,ah (by rw[h])]
  ·rw[aj h,aj (λz=>h (by injection z))]
 rw[h,h,p.count_eq]
def nF (r:∀a b,a<t.length->b<t.length->jz t K a b=S (at2 t a b).toNat)(v:qz t)(f:i<K)(o:j<K)(d:k<K):nb t 0 k * at2 (S k) i j=nb t 0 i * at2 (S i) k j:=by
 have N:=v.n1;have h:∀{p q:Nat},p<K->q<K->nb t 0 p * at2 (S p) q j=sm t.length λb=>sm t.length λc=>if at2 t 0 b=(p:Int)/\at2 t 0 c=(q:Int)/\at2 t b c=(j:Int) then 1 else 0:=λ {p q} u n=>by
  unfold nb;rw[<- ny];refine yG λb H=>?_
  by_cases e:at2 t 0 b=(p:Int)
  ·rw[ah e,Int.one_mul,YV r v N H e n o]
   refine yG λc _=>?_
   by_cases z:(at2 t 0 c,at2 t b c)=((q:Int),(j:Int))
   ·rw[ah z,ah (by injection z with l Z;exact⟨e,l,Z⟩)]
   ·rw[aj z,aj (λy=>z (by rw[y.2.1,y.2.2]))]
  ·rw[aj e,zero_mul]
   exact((yG λc _=>by rw[aj (λy=>e y.1)]).trans (UZ _)).symm
 rw[h d f,h f d,Tj];refine yG λb H=>yG λc g=>?_
 by_cases z:at2 t 0 c=(k:Int)/\at2 t 0 b=(i:Int)/\at2 t c b=(j:Int)
 ·rw[ah z,ah ⟨z.2.1,z.1,(v.sy b c H g).trans z.2.2⟩]
 ·rw[aj z,aj (λy=>z ⟨y.2.1,y.1,(v.sy c b g H).trans y.2.2⟩)]
def Lh (f:qz t)(d:qw t=(K:Int))(a:b<t.length)(H:c<t.length)(v:Int):sm K (λj=>if at2 t b c=(j:Int) then v else 0)=v:=by
 have h:=JJ f d a H;refine(yG λj _=>?_).trans (L8 h.2 v)
 by_cases q:at2 t b c=(j:Int)
 ·rw[ah q,ah (by rw[q,aA])]
 ·rw[aj q,aj (λe=>q (by rw[<- h.1,e]))]
def nG (l:∀a b,a<t.length->b<t.length->jz t K a b=S (at2 t a b).toNat)(p:qz t)(s:jW t)(n:qw t=(K:Int))(o:k<K)(f:i<K):sm K (λj=>at2 (S k) i j)=nb t 0 i:=by
 obtain⟨a,b,H,h,e⟩:=QE p (v:=k) (by omega)
 rw[Lf p s p.n1 H i,yG λj d=>YV l p H h e f d,Tj];unfold nb;refine yG λc g=>?_;rw[<- Lh p n h g (if at2 t a c=(i:Int) then 1 else 0)];refine yG λj _=>?_
 by_cases q:at2 t a c=(i:Int)
 ·rw[ah q]
  by_cases r:at2 t b c=(j:Int)
  ·rw[ah r,ah (by rw[q,r])]
  ·rw[aj r,aj (λz=>r (by injection z))]
 ·rw[aj (λz=>q (by injection z))]
  by_cases r:at2 t b c=(j:Int)
  ·rw[ah r,aj q]
  ·rw[aj r]
def nI (a:qz t)(H:qw t=(K:Int)):sm K (λk=>nb t 0 k)=(t.length:Int):=by
 unfold nb;rw[Tj,yG λc h=>Lh a H a.n1 h 1];generalize t.length=n
 induction n with
 |zero=>rfl|succ n i=>rw[wX,i];omega
def nJ (H:qz t):nb t 0 0=1:=by
 unfold nb;refine(yG λc h=>?_).trans (L8 H.n1 1)
 by_cases q:c=0
 ·subst q
  exact(ah ((H.dg 0 0 H.n1 H.n1).mpr rfl)).trans (ah rfl).symm
 ·exact(aj (λe=>q ((H.dg 0 c H.n1 h).mp e).symm)).trans (aj q).symm
def Nn (b:qz t)(H:a<t.length):t.getD a []=(List.range t.length).map λc=>at2 t a c:=by
 have h:=b.sq _ (kF H);refine a7 (by rw[ag,aG,h]) λc d e=>?_
 rw[getElem_map,getElem_range];unfold at2;rw[aa (l:=t.getD a []),ae d]
 rfl
def JN (H:qz t)(h:k<K):(jG t K).getD k 0=nb t 0 k:=by
 unfold jG;rw[aa,ar,aU h];show(((t.getD 0 []).count (k:Int):Nat):Int)=_;rw[Nn H H.n1];exact XC (λc=>at2 t 0 c) (k:Int) t.length
def TH:(jG t K).length=K:=by unfold jG;rw[ag,aG]
end
section
variable {a b j k K:Nat}
def SL (t:bQ)(K:Nat):List (bQ):=(List.range K).map λ(k:Nat)=>jz t K (Qh t (k:Int)/t.length) (Qh t (k:Int)%t.length)
def ML (g:qz t)(f:qw t=(K:Int))(d:k<K):Qh t (k:Int)/t.length<t.length/\Qh t (k:Int)%t.length<t.length/\at2 t (Qh t (k:Int)/t.length) (Qh t (k:Int)%t.length)=(k:Int):=by
 have n:=g.n1;obtain⟨a,b,c,H,e⟩:=QE g (v:=k) (by omega)
 have h:a * t.length+b<t.length * t.length:=by
  have i:a * t.length+t.length<=t.length * t.length:=by
   have:(a+1) * t.length<=t.length * t.length:=Nat.mul_le_mul_right _ c
   rwa[Nat.add_mul,Nat.one_mul]at this
  omega
 have l:(a * t.length+b)/t.length=a:=by rw[mul_comm,Nat.mul_add_div n,Nat.div_eq_of_lt H,Nat.add_zero]
 have j:(a * t.length+b)%t.length=b:=by rw[mul_comm,Nat.mul_add_mod,Nat.mod_eq_of_lt H]
 unfold Qh;cases hf:(List.range (t.length * t.length)).find? λm=>decide (at2 t (m/t.length) (m%t.length)=(k:Int)) with
 |none=>
  have:=List.find?_eq_none.mp hf (a * t.length+b) (cn.mpr h)
  rw[l,j,e]at this;simp at this
 |some m=>
  have i:=List.find?_some hf;have o:=cn.mp (List.mem_of_find?_eq_some hf);exact⟨Nat.div_lt_of_lt_mul o,Nat.mod_lt _ n,of_decide_eq_true i⟩
def T9:(SL t K).length=K:=by unfold SL;rw[ag,aG]
def nK (h:k<K):(SL t K).getD k []=jz t K (Qh t (k:Int)/t.length) (Qh t (k:Int)%t.length):=by
 unfold SL;rw[aa,ar,aU h]
 rfl
def WN (f:qz t)(s:jW t)(c:qw t=(K:Int))(a b:Nat)(H:a<t.length)(h:b<t.length):jz t K a b=(λk=>(SL t K).getD k []) (at2 t a b).toNat:=by
 have kn:=JJ f c H h;obtain⟨e,d,r⟩:=ML f c kn.2;show _=(SL t K).getD _ [];rw[nK kn.2];exact N0 f s H h e d (by rw[r];exact kn.1.symm)
def WI (f:qz t)(s:jW t)(H:qw t=(K:Int)):Zs K (jG t K):=by
 have kb:=kI f;have n:=f.n8;refine⟨TH,λv a=>?_,?_,?_⟩
 ·obtain⟨k,h,rfl⟩:=cx.mp a
  have h:=cn.mp h;obtain⟨b,d,e⟩:=nv f s H h;have j:(k:Int)∈t.getD 0 []:=by
   rw[Nn f f.n1];exact cx.mpr ⟨b,cn.mpr d,e⟩
  have:=List.count_pos_iff.mpr j
  omega
 ·have:(jG t K).sum=sm K λk=>nb t 0 k:=by
   unfold sm
   congr 1
   refine a7 (by rw[TH,ag,aG]) λi g l=>?_
   have c:i<K:=by rw[TH]at g;exact g
   rw[getElem_map,getElem_range,<- JN f c,aa,ae g]
   rfl
  rw[this,nI f H];omega
 ·rw[JN f (by omega),nJ f]
def nL (y:qz t)(s:jW t)(u:qw t=(K:Int)):Wf K (SL t K):=by
 have N:=y.n8;have g:∀m∈SL t K,∃a b,a<t.length/\b<t.length/\m=jz t K a b:=λm x=>by
  obtain⟨k,n,rfl⟩:=cx.mp x;obtain⟨f,r,_⟩:=ML y u (cn.mp n);exact⟨_,_,f,r,rfl⟩
 refine⟨T9,λm x=>?_,λm x=>?_,λm x i j=>?_⟩
 ·obtain⟨a,b,_,_,rfl⟩:=g m x
  exact G1
 ·obtain⟨a,b,_,_,rfl⟩:=g m x
  intro q d;unfold jz yc at d;obtain⟨i,_,rfl⟩:=cx.mp d;rw[ag,aG]
 ·obtain⟨a,b,p,o,rfl⟩:=g m x
  by_cases h:i<K/\j<K
  ·unfold jz
   rw[Wi h.1 h.2,Yy y p o _ (aq _)]
   have:=List.count_le_length (a:=((i:Int),(j:Int))) (l:=(List.range t.length).map λc=>(at2 t a c,at2 t b c))
   rw[ag,aG]at this;omega
  ·have:at2 (jz t K a b) i j=0:=by
    unfold at2
    by_cases A:i<K
    ·have w:¬j<K:=λq=>h ⟨A,q⟩
     have v:((jz t K a b).getD i []).length=K:=by
      have H:(jz t K a b).getD i []∈jz t K a b:=kF (by unfold jz;rw[G1];exact A)
      unfold jz yc at H;obtain⟨q,_,e⟩:=cx.mp H;unfold jz yc;rw[<- e,ag,aG]
     rw[aa (l:=(jz t K a b).getD i []),aD (by omega)]
     rfl
    ·rw[aa (l:=jz t K a b),aD (by unfold jz;rw[G1];omega)]
     rfl
   omega
def Iw (H:qz t)(s:jW t)(h:qw t=(K:Int)):Dt t K (SL t K) (jG t K):=by
 have kb:=kI H;have l:=Xx H;have n:=H.n8;refine⟨H,h,s,λA=>?_,λA=>mX H h A,nL H s h,WI H s h,by omega,by omega⟩
 rw[C9 (S:=λk=>(SL t K).getD k []) H h (WN H s h) A,KL (SL t K) [] zw,T9]
def LL (d:qz t)(s:jW t)(c:qw t=(K:Int)):Full K (SL t K) (jG t K):=λi j a H=>by
 have b:=WN d s c;rw[JN d a,JN d H];have e:(sm K λk=>pS (SL t K) k i j * (jG t K).getD k 0)=sm K λk=>nb t 0 i * at2 ((SL t K).getD i []) k j:=yG λk h=>by
  rw[JN d h,Int.mul_comm];exact nF (S:=λk=>(SL t K).getD k []) b d a H h
 rw[e,LX,yG λk h=>nE (S:=λk=>(SL t K).getD k []) b d c a h H,nG (S:=λk=>(SL t K).getD k []) b d s c a H]
variable {T:bQ}{c e m v:Nat}{p o:bV}{q l x:bR}
def IE:(jA p).getD 0 0=0:=rfl
def Iy (H:p.Perm (List.range m))(b:k<=m):0<=(jA p).getD k 0/\(jA p).getD k 0<=(m:Int):=by
 have a:p.length=m:=by rw[H.length_eq,aG]
 by_cases h:k=0
 ·subst h
  rw[IE];omega
 ·rw[Q9 (by omega) (by omega)]
  have:=cn.mp (H.mem_iff.mp (aJ (l:=p) (n:=k-1) (by omega)))
  omega
def Mx (H:p.Perm (List.range m))(a:v<=m):∃k,k<=m/\(jA p).getD k 0=(v:Int):=by
 have l:p.length=m:=by rw[H.length_eq,aG]
 by_cases h:v=0
 ·exact⟨0,by omega,by rw[IE,h];rfl⟩
 ·obtain⟨i,b,e⟩:=a4 (H.mem_iff.mpr (cn.mpr (show v-1<m by omega)))
  refine⟨i+1,by omega,?_⟩
  rw[Q9 (by omega) (by omega)]
  have:p[i+1-1]'(by omega)=v-1:=e
  rw[this];omega
structure Tn (T t:bQ)(K:Nat)(p o:bV):Prop where
 hT:qz T
 ht:qz t
 kT:qw T=(K:Int)
 kt:qw t=(K:Int)
 len:t.length=T.length
 pp:p.Perm (List.range (K-1))
 oo:o.Perm (List.range T.length)
 at_:∀a b,a<T.length->b<T.length->at2 t a b=(jA p).getD (at2 T (o.getD a 0) (o.getD b 0)).toNat 0
def JZ (h:o.Perm (List.range n))(b:a<n):o.getD a 0<n:=by
 have H:o.length=n:=by rw[h.length_eq,aG]
 rw[aa,ae (by omega)]
 exact cn.mp (h.mem_iff.mp (aJ _))
def XQ (h:o.Perm (List.range n))(d:a<n):∃b,b<n/\o.getD b 0=a:=by
 have H:o.length=n:=by rw[h.length_eq,aG]
 obtain⟨i,c,e⟩:=a4 (h.mem_iff.mpr (cn.mpr d));exact⟨i,by omega,by rw[aa,ae c];exact e⟩
def nM (hT:qz T)(f:qw T=(K:Int))(g:p.Perm (List.range (qw T-1).toNat))(H:o.Perm (List.range T.length)):Tn T (w5 T p o) K p o:=by
 obtain⟨t,l⟩:=NJ hT g H;have kb:=kI hT;have h:p.Perm (List.range (K-1)):=by rwa[f,show((K:Int)-1).toNat=K-1 by omega]at g
 have at_:∀a b,a<T.length->b<T.length->at2 (w5 T p o) a b=(jA p).getD (at2 T (o.getD a 0) (o.getD b 0)).toNat 0:=λa b d c=>Md H d c;refine⟨hT,t,f,?_,l,h,H,at_⟩
 apply Int.le_antisymm
 ·obtain⟨a,b,d,c,e⟩:=U6 t.sq (Xp t)
  rw[l]at d c;rw[at_ a b d c]at e
  have:=(Iy h (k:=(at2 T (o.getD a 0) (o.getD b 0)).toNat) (by have:=(JJ hT f (JZ H d) (JZ H c)).2;omega)).2
  omega
 ·obtain⟨k,n,e⟩:=Mx h (v:=K-1) (aq _)
  obtain⟨x,y,j,i,E⟩:=QE hT (v:=k) (by omega)
  obtain⟨a,d,rfl⟩:=XQ H j;obtain⟨b,c,rfl⟩:=XQ H i
  have:=WA t (a:=a) (b:=b) (by omega) (by omega)
  rw[at_ a b d c,E,aA,e]at this;omega
def Mm:∀{l k:bR},l.Perm k->l.sum=k.sum:=λh=>by
 induction h with
 |nil=>rfl|cons x _ a=>rw[sum_cons,sum_cons,a]|swap x y l=>rw[sum_cons,sum_cons,sum_cons,sum_cons];omega|trans _ _ I i=>exact I.trans i
def Hy (H:o.Perm (List.range n))(g:Nat->Int):sm n (λc=>g (o.getD c 0))=sm n g:=by
 have h:o.length=n:=by rw[H.length_eq,aG]
 unfold sm
 have:=KL o 0 g
 rw[h]at this;rw[<- this];exact Mm (H.map g)
def pi (p:bV)(k:Nat):Nat:=((jA p).getD k 0).toNat
def ZP (h:Tn T t K p o)(H:k<K):((pi p k:Nat):Int)=(jA p).getD k 0/\pi p k<K:=by
 have kb:=kI h.hT;have a:=h.kT
 have:=Iy h.pp (k:=k) (by omega)
 unfold pi;omega
def TX (h:Tn T t K p o)(H:k<K)(a:j<K)(e:pi p k=pi p j):k=j:=by
 have c:=(ZP h H).1;have b:=(ZP h a).1;have P:p.length=K-1:=by rw[h.pp.length_eq,aG]
 exact MJ ((h.pp.nodup_iff).mpr nodup_range) (by omega) (by omega) (by rw[<- c,<- b,e])
def YX (h:Tn T t K p o)(a:m<K):∃k,k<K/\pi p k=m:=by
 obtain⟨k,H,e⟩:=Mx h.pp (v:=m) (by omega)
 exact⟨k,by omega,by unfold pi;rw[e,aA]⟩
def nN (h:Tn T t K p o)(g:Nat->Int):sm K (λk=>g (pi p k))=sm K g:=by
 have d:((List.range K).map (pi p)).Perm (List.range K):=by
  refine Uz ?_ nodup_range λm=>?_
  ·rw[List.Nodup,pairwise_map]
   exact List.Pairwise.imp_of_mem (λ {a b} i f c e=>c (TX h (cn.mp i) (cn.mp f) e)) nodup_range
  ·rw[mem_map,List.mem_range]
   exact⟨λ⟨k,H,e⟩=>e ▸ (ZP h (cn.mp H)).2,λj=>let ⟨k,H,e⟩:=YX h j;⟨k,cn.mpr H,e⟩⟩
 unfold sm
 have:=Mm (d.map g)
 rw[aX]at this;exact this
def nO (h:Tn T t K p o)(c:a<T.length)(H:b<T.length):at2 t a b=((pi p (at2 T (o.getD a 0) (o.getD b 0)).toNat:Nat):Int):=by
 rw[h.at_ a b c H,(ZP h (JJ h.hT h.kT (JZ h.oo c) (JZ h.oo H)).2).1]
def XZ (h:Tn T t K p o)(c:a<T.length)(H:b<T.length)(d:k<K):at2 t a b=((pi p k:Nat):Int)↔at2 T (o.getD a 0) (o.getD b 0)=(k:Int):=by
 have kn:=JJ h.hT h.kT (JZ h.oo c) (JZ h.oo H);rw[nO h c H]
 constructor
 ·intro e
  have:=TX h kn.2 d (by omega)
  omega
 ·intro e
  rw[e,aA]
def nP (h:Tn T t K p o)(C:jW T)(E:jW t)(D:k<K)(d:i<K)(H:j<K):pS (SL t K) (pi p k) (pi p i) (pi p j)=pS (SL T K) k i j:=by
 have I:=h.kT;obtain⟨x,y,w,u,e⟩:=QE h.hT (v:=k) (by omega)
 obtain⟨a,n,rfl⟩:=XQ h.oo w;obtain⟨b,g,rfl⟩:=XQ h.oo u;have l:a<t.length:=by rw[h.len];exact n
 have f:b<t.length:=by rw[h.len];exact g
 refine(YV (S:=λk=>(SL t K).getD k []) (WN h.ht E h.kt) h.ht l f ((XZ h n g D).mpr e) (ZP h d).2 (ZP h H).2).trans (Eq.trans ?_ (YV (S:=λk=>(SL T K).getD k []) (WN h.hT C h.kT) h.hT w u e d H).symm);rw[h.len];rw[<- Hy h.oo λc=>if (at2 T (o.getD a 0) c,at2 T (o.getD b 0) c)=((i:Int),(j:Int)) then 1 else 0];refine yG λc A=>?_;have r:=XZ h n A d;have Q:=XZ h g A H
 by_cases z:(at2 T (o.getD a 0) (o.getD c 0),at2 T (o.getD b 0) (o.getD c 0))=((i:Int),(j:Int))
 ·injection z with q Z
  rw[ah (by rw[r.mpr q,Q.mpr Z]),ah (by rw[q,Z])]
 ·rw[aj (λy=>z (by injection y with B Y;rw[r.mp B,Q.mp Y])),aj z]
def nQ (h:Tn T t K p o)(S:jW T)(H:k<K):nb t 0 (pi p k)=nb T 0 k:=by
 have n:=h.hT.n1;rw[Lf h.hT S n (JZ h.oo n) k];unfold nb;rw[h.len,<- Hy h.oo λc=>if at2 T (o.getD 0 0) c=(k:Int) then 1 else 0];refine yG λc a=>?_;have q:=XZ h n a H
 by_cases z:at2 T (o.getD 0 0) (o.getD c 0)=(k:Int)
 ·rw[ah z,ah (q.mpr z)]
 ·rw[aj z,aj λy=>z (q.mp y)]
def Lx (h:Tn T t K p o)(S:jW T)(H:k<K):(jG t K).getD (pi p k) 0=(jG T K).getD k 0:=by
 rw[JN h.ht (ZP h H).2,JN h.hT H,nQ h S H]
variable {w z:bR}
abbrev Rw (t:bQ)(K:Nat):bQ:=yj (SL t K) (jG t K) (K-1)
def Hw (a:qz t)(s:jW t)(H:qw t=(K:Int))(b:K=1):pS (SL t K) 0 0 0=1:=by
 subst b
 have:=LL a s H 0 0 (by omega) (by omega)
 rw[(WI a s H).h,wX,(WI a s H).h]at this;have e:sm 0 (λk=>pS (SL t 1) k 0 0 * (jG t 1).getD k 0)=0:=rfl;rw[e]at this;omega
def JK (H:qz t)(s:jW t)(h:qw t=(K:Int)):w∈Rw t K↔Wt K (SL t K) (jG t K) w:=by
 have kb:=kI H;exact M6 (WI H s h) T9 (by omega) (Hw H s h)
def Iq (H:qz t)(s:jW t)(h:qw t=(K:Int)):(Rw t K).Nodup:=by
 have kb:=kI H;exact Bv (WI H s h) (K-1) (by omega)
def ps (p:bV)(K:Nat)(w:bR):bR:=(List.range K).map λk=>w.getD (pi p k) 0
def Qb (h:k<K):(ps p K w).getD k 0=w.getD (pi p k) 0:=by
 unfold ps;rw[aa,ar,aU h]
 rfl
def LU:(ps p K w).length=K:=by unfold ps;rw[ag,aG]
def IK (c:w.length=K)(H:x.length=K)(h:∀k,k<K->w.getD k 0=x.getD k 0):w=x:=by
 refine a7 (by omega) λi b a=>?_
 have:=h i (by omega)
 rw[aa,ae b,aa,ae a]at this;exact this
def HA (h:Tn T t K p o):pi p 0=0:=rfl
def IA (h:Tn T t K p o)(S:jW T)(n:jW t)(q:w.length=K):Wt K (SL t K) (jG t K) w↔Wt K (SL T K) (jG T K) (ps p K w):=by
 have kb:=kI h.hT;have r:=h.kT;have l:Full K (SL t K) w↔Full K (SL T K) (ps p K w):=by
  have y:∀i j,i<K->j<K->((w.getD (pi p i) 0 * w.getD (pi p j) 0=sm K λk=>pS (SL t K) k (pi p i) (pi p j) * w.getD k 0)↔(ps p K w).getD i 0 * (ps p K w).getD j 0=sm K λk=>pS (SL T K) k i j * (ps p K w).getD k 0):=λi j a c=>by
   rw[Qb a,Qb c,<- nN h λk=>pS (SL t K) k (pi p i) (pi p j) * w.getD k 0];rw[show(sm K λk=>pS (SL t K) (pi p k) (pi p i) (pi p j) * w.getD (pi p k) 0)=sm K λk=>pS (SL T K) k i j * (ps p K w).getD k 0 from yG λk e=>by rw[nP h S n e a c,Qb e]]
  constructor
  ·intro g i j a c
   exact(y i j a c).mp (g _ _ (ZP h a).2 (ZP h c).2)
  ·intro g i j a c
   obtain⟨I,H,rfl⟩:=YX h a;obtain⟨J,d,rfl⟩:=YX h c;exact(y I J H d).mpr (g I J H d)
 constructor
 ·intro g
  refine⟨LU,by rw[Qb (by omega),HA h];exact g.o,λi a=>?_,l.mp g.f⟩
  rw[Qb a,<- Lx h S a];exact g.b _ (ZP h a).2
 ·intro g
  refine⟨q,?_,λi a=>?_,l.mpr g.f⟩
  ·have:=g.o
   rwa[Qb (by omega),HA h]at this
  ·obtain⟨I,H,rfl⟩:=YX h a
   have:=g.b I H
   rwa[Qb H,<- Lx h S H]at this
def nR (h:Tn T t K p o)(d:w.length=K):∃x:bR,x.length=K/\ps p K x=w:=by
 have C:∀m:Nat,∃k:Nat,m<K->k<K/\pi p k=m:=λm=>by
  by_cases c:m<K
  ·obtain⟨k,f,e⟩:=YX h c
   exact⟨k,λ_=>⟨f,e⟩⟩
  ·exact⟨0,λz=>absurd z c⟩
 obtain⟨q,b⟩:=Classical.axiomOfChoice C;refine⟨(List.range K).map λm=>w.getD (q m) 0,by rw[ag,aG],IK LU d λk H=>?_⟩
 have P:=(ZP h H).2;rw[Qb H,aa (l:=List.map _ _),ar,aU P];show w.getD (q (pi p k)) 0=_;obtain⟨a,Q⟩:=b (pi p k) P;rw[TX h a H Q]
def nS (h:Tn T t K p o)(S:jW T)(n:jW t):((Rw t K).map (ps p K)).Perm (Rw T K):=by
 refine Uz ?_ (Iq h.hT S h.kT) λw=>?_
 ·rw[List.Nodup,pairwise_map]
  refine List.Pairwise.imp_of_mem (λ {a b} j i c e=>c ?_) (Iq h.ht n h.kt);have f:=((JK h.ht n h.kt).mp j).l;have L:=((JK h.ht n h.kt).mp i).l;refine IK f L λm q=>?_;obtain⟨k,d,rfl⟩:=YX h q;rw[<- Qb d,<- Qb d,e]
 ·rw[JK h.hT S h.kT,mem_map]
  constructor
  ·rintro⟨x,H,rfl⟩
   have g:=(JK h.ht n h.kt).mp H;exact(IA h S n g.l).mp g
  ·intro g
   obtain⟨x,H,rfl⟩:=nR h g.l;exact⟨x,(JK h.ht n h.kt).mpr ((IA h S n H).mpr g),rfl⟩
end
section
variable {w z:bR}{b k K:Nat}{S:List (bQ)}
def mem_getD {v:Int}(h:v∈w):∃k,k<w.length/\w.getD k 0=v:=by
 obtain⟨k,H,e⟩:=a4 h;exact⟨k,H,by rw[aa,ae H];exact e⟩
def Wt.sm (h:Wt K S z w)(a:Zs K z):∀v∈w,-9<v/\v<9:=λv c=>by
 obtain⟨k,d,rfl⟩:=mem_getD c;have H:k<K:=by rw[<- h.l];exact d
 have:=h.b k H
 have:=a.le H
 omega
def nU (d:Dt t K S z)(A:Hx):g7 [zw t] A=.ok (.ref A.length) (A++[.lst ((yj S z (K-1)).map zt)]):=by
 refine TK ?_;unfold Ub;exact(zH (wY ((qd (zD (zp rfl) zN)).trans (Sd d.tab d.kd d.sd A)))).trans (Je (qx (qT ((qd (zD (zp rfl) zN)).trans (NT d A)))))
def Lu (d:Dt t K S z)(A:Hx):Q1 [zw t] A=.ok (.ref A.length) (A++[.lst ((yj S z (K-1)).map zt)]):=
 Wg (k:=0) (A1:=[.lst ((yj S z (K-1)).map zt)]) (gq t) (by show(g7 [zw t] []).nox=_;rw[nU d []];rfl) rfl (Z6 (λ_=>YI _) _)
def nV (d:Dt t K S z)(A:Hx):gZ [zw t] A=.ok (.bl (decide ((yj S z (K-1)).length=K))) (A++[.lst ((yj S z (K-1)).map zt)]):=by
 refine TK ?_;unfold VR;refine(zH (wY ((qd (zD (zp rfl) zN)).trans (Sd d.tab d.kd d.sd A)))).trans ?_;have E:mQ zT (zJ (zC KA (zc zr zj))) [some (zw t)] A=.ok (.int ((yj S z (K-1)).length:Int)) (A++[.lst ((yj S z (K-1)).map zt)]):=by
  refine(jX (yA ((qd (zD (zp rfl) zN)).trans (NT d A)) (by unfold zY;dsimp only;rw[qM]))).trans ?_
  unfold zT;rw[ag]
 refine Je (qx (qT ((zM E ((qd (zD (zp rfl) zN)).trans (YL d.tab _))).trans ?_)));rw[d.kd,wz]
 congr 2
 exact decide_eq_decide.mpr ⟨λe=>by omega,λe=>by omega⟩
def nW (d:Dt t K S z)(A:Hx):Jv [zw t] A=.ok (.bl (decide ((yj S z (K-1)).length=K))) A:=
 Qz (A1:=[.lst ((yj S z (K-1)).map zt)]) (gq t) rfl (by show(gZ [zw t] []).nox=_;rw[nV d []];rfl)
end
def Sa (l:A.length<=B.length)(h:∀q,q<A.length->B[q]? =A[q]?):Ext A B:=⟨B.drop A.length,by
 apply ext_getElem?
 intro q
 by_cases H:q<A.length
 ·rw[ai H]
  exact h q H
 ·rw[au (by omega),List.getElem?_drop]
  congr 1
  omega⟩
def Mn {l:bV}{x y:Nat}(h:x<l.length):(l++[y]).getD x 0=l.getD x 0:=by
 rw[aa,ai h,<- aa]
def Me {l:bV}{y:Nat}:(l++[y]).getD l.length 0=y:=by
 rw[aa,au (aq _),Nat.sub_self]
 rfl
def Sh (B:Hx)(l r K:Nat)(M:bQ):Prop:=l<=r/\∃I:bV,B[r]? =some (.lst (I.map W.ref))/\I.length=K/\∀i,i<K->l<=I.getD i 0/\B[I.getD i 0]? =some (.lst ((M.getD i []).map W.int))
def Sh.mono {C:Hx}{L l r K:Nat}{M:bQ}(h:Sh B L r K M)(b:l<=L)(g:∀q o,l<=q->B[q]? =some o->C[q]? =some o):Sh C l r K M:=by
 obtain⟨e,I,d,c,a⟩:=h;exact⟨by omega,I,g _ _ (by omega) d,c,λi H=>⟨by have:=(a i H).1;omega,g _ _ (by have:=(a i H).1;omega) (a i H).2⟩⟩
def nX {a b:Ev}{e:Hx}{y:W}(c:a ρ A=.ok (.ref n) A1)(d:A1[n]? =some (.lst ws))(H:b ρ A1=.ok y e):jo g a b ρ A=g (.ref n) y e:=by
 unfold jo;have h:Js (.ref n) A1=true:=by unfold Js;dsimp only;rw[d]
 rw[c,zP,ah h,H,zP]
section
variable {a b j k K:Nat}
abbrev fs (t:bQ)(a b:Nat)(e d c X x:Option W):En:=[some (zw t),iO a,iO b,e,d,c,X,x]
def Gg (t:bQ)(a b i j:Nat):Int:=shr t a b t.length i j
abbrev cE:Ev:=jo Jb (qW (qc 1 [0,1,2,5,7] (qN (mQ zT (zJ zr))) (zG 0) ql (zU (jY (zi qX (zi zB (zi zB zq zL) zr) zW) (zi qX (zi zB (zi zB zq zS) zr) jC))))) ql
theorem Ic (p:Nat->Bool):∀(l:bV),(l.map λc=>W.bl (p c)).countP (λw=>J5 w (.bl true))=l.countP p
 |[]=>rfl|x::l=>by
  rw[aR,bG,bG,Ic p l]
  congr 2
  cases p x<;>rfl
def nY (h:qz t)(f:a<t.length)(e:b<t.length){y4 y6:Option W}{x3:Option W}:∃l,cE (fs t a b x3 y4 (iO i) y6 (iO j)) A=.ok (.int (Gg t a b i j)) (A++[.lst l]):=by
 have o:=h.n8;generalize H:(fs t a b x3 y4 (iO i) y6 (iO j))=ρ;have E:=gA (cap:=[0,1,2,5,7]) (mi:=qN (mQ zT (zJ zr))) (ρ:=ρ) (A:=A) (N:=t.length) (item:=λc=>.int (0+(c:Int))) (g:=λc=>.bl (decide (at2 t a c=(i:Int))&&decide (at2 t b c=(j:Int))))
  (me:=jY (zi qX (zi zB (zi zB zq zL) zr) zW) (zi qX (zi zB (zi zB zq zS) zr) jC))
  (kE (len_tab (by rw[<- H];rfl)) (Yt (by omega))) (by rw[aA];rfl) (by unfold qj;omega) (λc d=>by rw[aA];exact yI d) (by rw[aA];exact yH (by omega))
  (λc d=>by
   rw[<- H,Int.zero_add];exact WO ((zM (Vt h (zp rfl) (zp rfl) (zp rfl) f d) (zp rfl)).trans (wz _ _ _)) ((zM (Vt h (zp rfl) (zp rfl) (zp rfl) e d) (zp rfl)).trans (wz _ _ _)))
 refine⟨(List.range t.length).map λc=>W.bl (decide (at2 t a c=(i:Int))&&decide (at2 t b c=(j:Int))),(nX (km E) qM qe).trans ?_⟩;unfold Jb;dsimp only;rw[qM];dsimp only;rw[ah]
 ·congr 2
  rw[Xk,Ic,zero_add];unfold Gg;rw[Yy h f e _ (aq _)]
  congr 1
  rw[List.count,List.countP_map];refine List.countP_congr λc _=>?_;simp only[Function.comp,ak,ao,aL,Prod.mk.injEq]
 ·rw[ak,aZ]
  refine⟨rfl,λw n=>?_⟩;obtain⟨c,_,rfl⟩:=cx.mp n
  rfl
def nZ (h:qz t)(C:qw t=(K:Int))(v:a<t.length)(u:b<t.length)(A:Hx):∃B,GA [zw t,.int (a:Int),.int (b:Int)] A=.ok (.ref A.length) B/\Ext A B/\Sh B A.length A.length K (jz t K a b):=by
 have kb:=kI h;have M:=Xx h;have n8:=h.n8;have kn:jH (K:Int)=true:=Yt (by omega)
 obtain⟨o,B,e,P,X,U,Y,rfl,T,g2,g3,n⟩:=kj (j:=j5 0 K) (st:=turn (zG 5) (zo (zQ 6 (qp zj)) (zo (qO (qN zS) (zG 7) (zo (jB (jo jN j8 cE)) zy)) (zo (jB (jo jN zW j8)) zy)))) (N:=K)
  (I:=λi Q B=>∃(P:bV) (X U Y:Option W),Q=(fs t a b (iO K) (rO A.length) X U Y)/\B[A.length]? =some (.lst (P.map W.ref))/\P.length=i/\(∀x,x<i->A.length<P.getD x 0/\B[P.getD x 0]? =some (.lst ((List.range K).map λj=>W.int (Gg t a b x j))))/\∀q,q<A.length->B[q]? =A[q]?)
  (λi Q D f ⟨P,X,U,Y,H,T,g2,g3,n⟩=>by
   subst H;have d:=yf T;refine⟨.int (0+(i:Int)),?_⟩;rw[Int.zero_add];obtain⟨ρ1,B,L,y,rfl,Z,S,k3⟩:=kj (j:=j5 0 K) (st:=turn (zG 7) (zo (jB (jo jN j8 cE)) zy)) (N:=K)
    (I:=λj Q B=>∃Y,Q=(fs t a b (iO K) (rO A.length) (iO i) (rO D.length) Y)/\B[D.length]? =some (.lst ((List.range j).map λj=>W.int (Gg t a b i j)))/\(∀q,q<D.length->B[q]? =D[q]?)/\D.length<B.length)
    (λj Q B r ⟨Y,H,Z,S,k3⟩=>by
     subst H;obtain⟨l,J⟩:=nY (A:=B) (i:=i) (j:=j) h v u (y4:=rO A.length) (y6:=rO D.length) (x3:=iO K);refine⟨.int (0+(j:Int)),(fs t a b (iO K) (rO A.length) (iO i) (rO D.length) (iO j)),(B++[O.lst l]).set D.length (O.lst ((List.range (j+1)).map λj=>W.int (Gg t a b i j))),yI r,?_,_,rfl,?_,λq c=>?_,?_⟩
     ·rw[Int.zero_add]
      refine(yo rfl).trans ((zH (wY (w:=.non) ((Qu (zp rfl) Z J).trans ((Yv (jy Z) (by simp;omega)).trans ?_)))).trans qQ)
      rw[bf,aN]
      rfl
     ·exact ay (by simp;omega)
     ·rw[ax (by omega),ai (by omega)]
      exact S q c
     ·simp;omega)
    (λQ B _=>yH (by omega)) K 0 (fs t a b (iO K) (rO A.length) (iO i) (rO D.length) Y) (D++[O.lst []]) (by omega) ⟨Y,rfl,qM,λq c=>ai c,by simp⟩
   have E:B[A.length]? =some (.lst (P.map W.ref)):=(S _ d).trans T;refine⟨(fs t a b (iO K) (rO A.length) (iO i) (rO D.length) y),B.set A.length (O.lst ((P++[D.length]).map W.ref)),(yI f).trans (by rw[Int.zero_add]),?_,P++[D.length],_,_,_,rfl,?_,by rw[av,g2];rfl,λx p=>?_,λq c=>?_⟩
   ·refine(yo rfl).trans ((zH ((qH (jV zN)).trans rfl)).trans ((zH ((j3 (kE (zp rfl) kn)).trans ?_)).trans ((zH (wY (w:=.non) ((Qu (zp rfl) E (zp rfl)).trans ((Yv E (by simp;omega)).trans ?_)))).trans qQ)))
    ·rw[aA]
     exact L
    ·rw[aN]
     rfl
   ·exact ay (by omega)
   ·by_cases g:x<i
    ·obtain⟨f1,f2⟩:=g3 x g
     rw[Mn (by omega),ax (by omega),S _ (yf f2)]
     exact⟨f1,f2⟩
    ·obtain rfl:x=P.length:=by omega
     rw[Me,ax (by omega),g2]
     exact⟨d,Z⟩
   ·rw[ax (by omega),S _ (by omega)]
    exact n q c)
  (λQ B _=>yH (by omega)) K 0 (fs t a b (iO K) (rO A.length) none none none) (A++[O.lst []]) (by omega) ⟨[],none,none,none,rfl,qM,rfl,λx p=>by omega,λq c=>ai c⟩
 refine⟨B,ja ?_,Sa (by have:=yf T;omega) n,aq _,P,T,g2,λi f=>⟨by have:=(g3 i f).1;omega,(g3 i f).2.trans ?_⟩⟩
 ·unfold Oj
  refine(zH ((qH ((qd (zD (zp rfl) zN)).trans ((GF h A).trans (by rw[C])))).trans rfl)).trans ((zH ((qH (jV zN)).trans rfl)).trans ((zH (ρ1:=(fs t a b (iO K) (rO A.length) X U Y)) (A1:=B) ((j3 (kE (k:=(K:Int)) (zp rfl) kn)).trans ?_)).trans (qx (qT (zp rfl)))))
  rw[aA];exact e
 ·unfold jz yc
  rw[aa,ar,aU f];show _=some (O.lst (((List.range K).map (shr t a b t.length i)).map W.int));rw[aX]
  rfl
end
def Zo (S:List (bQ))(K r k:Nat)(B:Hx):Prop:=∃a:bV,B[r]? =some (.lst (a.map W.ref))/\a.length=k/\∀x,x<k->Sh B (r+1) (a.getD x 0) K (S.getD x [])
section
variable {s:List (bQ)}{K k a b r:Nat}{C:Hx}{u:bQ}
def Zo.ext (h:Zo s K r k B)(x:Ext B C):Zo s K r k C:=let ⟨b,d,c,a⟩:=h;⟨b,x.at d,c,λy H=>(a y H).mono (aq _) λ_ _ _ e=>x.at e⟩
abbrev fo (u:bQ)(n:Nat)(a X x:Option W):En:=[some (zw u),rO n,a,X,x]
def NS (u:bQ)(s:List (bQ))(K k:Nat)(A:Hx)(p:Nat)(B:Hx):Prop:=
 (∀q,q<A.length->B[q]? =A[q]?)/\((Zo s K A.length k B/\∀a b,a<u.length->b<u.length->a * u.length+b<p->at2 u a b≠(k:Int))∨Zo s K A.length (k+1) B)
abbrev VE:Ex:=zo (qU (jY (zi qX (mQ zT (zJ zq)) zL) (zi qX (zi zB (zi zB zr zS) zW) zL)) (zo (jB (jo jN zq (zC GA (zc zr (zc zS (zc zW zj)))))) zy) zy) zy
def Ja {r:Nat}(h:ρ[i]? =some (rO r))(H:B[r]? =some (.lst ws)):mQ zT (zJ (qg i)) ρ B=.ok (.int ws.length) B:=
 (jX (yA (zp h) (by unfold zY;dsimp only;rw[H]))).trans rfl
def n0 (h:qz u)(I:qw u=(K:Int))(sh:∀a b,a<u.length->b<u.length->jz u K a b=s.getD (at2 u a b).toNat [])(Z:k<K)(y:a<u.length)(f:b<u.length)(N:NS u s K k A (a * u.length+b) B):
  ∃C,VE (fo u A.length (iO k) (iO a) (iO b)) B=.ok (.nx (fo u A.length (iO k) (iO a) (iO b))) C/\NS u s K k A (a * u.length+b+1) C:=by
 have kb:=kI h;rcases N with ⟨p,⟨⟨ks,g1,g2,g3⟩,hn⟩|⟨ks,g1,g2,g3⟩⟩
 ·have E:=Ja (ρ:=(fo u A.length (iO k) (iO a) (iO b))) (i:=1) rfl g1
  rw[ag,g2]at E;have g:=(zM E (zp (i:=2) rfl)).trans (wz (k:Int) (k:Int) B);have P:=(zM (Vt h (zp (i:=0) rfl) (zp (i:=3) rfl) (zp (i:=4) rfl) y f) (zp (ρ:=(fo u A.length (iO k) (iO a) (iO b))) (i:=2) rfl)).trans (wz (at2 u a b) (k:Int) B);have c:=WO g P;rw[az rfl,Bool.true_and]at c
  by_cases v:at2 u a b=(k:Int)
  ·rw[az v]at c
   obtain⟨C,M,X,D⟩:=nZ h I y f B;have c1:=X.at g1;have T:=yf g1;have S:=X.len;rw[sh a b y f,v,aA]at D;refine⟨C.set A.length (.lst ((ks++[B.length]).map W.ref)),(zH ((ko c).trans ((zH (wY (w:=.non) ((Qu (zp rfl) g1 ((qd (zD (zp rfl) (zD (zp rfl) (zD (zp rfl) zN)))).trans M)).trans ((Yv c1 (by rw[ag];omega)).trans ?_)))).trans qQ))).trans qQ,λq d=>?_,.inr ⟨ks++[B.length],?_,by rw[av,g2];rfl,λx U=>?_⟩⟩
   ·rw[aN]
    rfl
   ·rw[ax (by omega),<- p q d]
    obtain⟨l,rfl⟩:=X;exact ai (by omega)
   ·exact ay (by omega)
   ·have st:∀q o,A.length+1<=q->C[q]? =some o->(C.set A.length (.lst ((ks++[B.length]).map W.ref)))[q]? =some o:=λq o d e=>by rw[ax (by omega)];exact e
    by_cases r:x<k
    ·rw[Mn (by omega)]
     exact(g3 x r).mono (aq _) λq o d e=>st q o d (X.at e)
    ·obtain rfl:x=ks.length:=by omega
     rw[Me,g2];exact D.mono (by omega) st
  ·rw[aH v]at c
   refine⟨B,(zH ((yb c).trans qQ)).trans qQ,p,.inl ⟨⟨ks,g1,g2,g3⟩,λn j t H Y=>?_⟩⟩
   by_cases e:n * u.length+j<a * u.length+b
   ·exact hn n j t H e
   ·have Q:n * u.length+j=a * u.length+b:=by omega
    have L:n=a:=by
     have h1:=congrArg (· / u.length) Q
     rwa[mul_comm,Nat.mul_add_div (by omega),Nat.div_eq_of_lt H,mul_comm a,Nat.mul_add_div (by omega),Nat.div_eq_of_lt f]at h1
    subst L;have J:j=b:=by omega
    subst J;exact v
 ·have E:=Ja (ρ:=(fo u A.length (iO k) (iO a) (iO b))) (i:=1) rfl g1
  rw[ag,g2]at E;have g:=(zM E (zp (i:=2) rfl)).trans (wz ((k+1:Nat):Int) (k:Int) B);rw[aH (by omega)]at g
  exact⟨_,(zH ((yb (Jj g)).trans qQ)).trans qQ,p,.inr ⟨ks,g1,g2,g3⟩⟩
def Io (h:qz u)(l:qw u=(K:Int))(sh:∀a b,a<u.length->b<u.length->jz u K a b=s.getD (at2 u a b).toNat [])(A:Hx):∃B,Gu [zw u] A=.ok (.ref A.length) B/\Ext A B/\Zo s K A.length K B:=by
 have kb:=kI h;have n8:=h.n8;have kn:jH (K:Int)=true:=Yt (by omega)
 have X:jH (u.length:Int)=true:=Yt (by omega)
 obtain⟨p,B,e,Y,y,T,rfl,f,g⟩:=kj (j:=j5 0 K) (st:=turn (zG 2) (zo (qO (qN (mQ zT (zJ zr))) (zG 3) (zo (qO (qN (mQ zT (zJ zr))) (zG 4) VE) zy)) zy)) (N:=K)
  (I:=λk U B=>∃Y y T,U=(fo u A.length Y y T)/\(∀q,q<A.length->B[q]? =A[q]?)/\Zo s K A.length k B)
  (λk U B i ⟨Y,y,T,H,f,g⟩=>by
   subst H;obtain⟨ρ1,P,D,r,Z,rfl,n⟩:=kj (j:=j5 0 u.length) (st:=turn (zG 3) (zo (qO (qN (mQ zT (zJ zr))) (zG 4) VE) zy)) (N:=u.length)
    (I:=λa U B=>∃y T,U=(fo u A.length (iO k) y T)/\NS u s K k A (a * u.length) B)
    (λa U B c ⟨y,T,H,N⟩=>by
     subst H;obtain⟨o,M,w,Z,rfl,L⟩:=kj (j:=j5 0 u.length) (st:=turn (zG 4) VE) (N:=u.length)
      (I:=λb U B=>∃T,U=(fo u A.length (iO k) (iO a) T)/\NS u s K k A (a * u.length+b) B)
      (λb U B d ⟨T,H,N⟩=>by
       subst H;obtain⟨C,E,J⟩:=n0 h l sh i c d N;exact⟨_,_,C,yI d,(yo (by rw[Int.zero_add];rfl)).trans E,_,rfl,J⟩)
      (λU B _=>yH (by omega)) u.length 0 (fo u A.length (iO k) (iO a) T) B (by omega) ⟨T,rfl,N⟩
     refine⟨.int (0+(a:Int)),(fo u A.length (iO k) (iO a) Z),M,yI c,(yo (by rw[Int.zero_add];rfl)).trans ((zH ((j3 (kE (len_tab rfl) X)).trans ?_)).trans qQ),_,_,rfl,?_⟩
     ·rw[aA]
      exact w
     ·rw[succ_mul]
      exact L)
    (λU B _=>yH (by omega)) u.length 0 (fo u A.length (iO k) y T) B (by omega) ⟨y,T,rfl,f,.inl ⟨g,λa b _ _ S=>by omega⟩⟩
   refine⟨.int (0+(k:Int)),(fo u A.length (iO k) r Z),P,yI i,(yo (by rw[Int.zero_add];rfl)).trans ((zH ((j3 (kE (len_tab rfl) X)).trans ?_)).trans qQ),_,_,_,rfl,n.1,?_⟩
   ·rw[aA]
    exact D
   ·rcases n.2 with ⟨_,hn⟩|z
    ·exfalso
     obtain⟨a,b,c,d,e⟩:=QE h (v:=k) (by omega)
     refine hn a b c d ?_ e
     have:(a+1) * u.length<=u.length * u.length:=Nat.mul_le_mul_right _ c
     rw[succ_mul]at this;omega
    ·exact z)
  (λU B _=>yH (by omega)) K 0 (fo u A.length none none none) (A++[.lst []]) (by omega) ⟨none,none,none,rfl,λq t=>ai t,[],qM,rfl,λx Q=>by omega⟩
 refine⟨B,ja ?_,Sa (by obtain⟨ks,g1,_⟩:=g;have:=yf g1;omega) f,g⟩
 unfold Pz;refine(zH (ρ1:=(fo u A.length none none none)) (A1:=A++[.lst []]) ((qH (jV zN)).trans rfl)).trans ((zH (ρ1:=(fo u A.length Y y T)) (A1:=B) ((j3 (kE (k:=(K:Int)) ((qd (zD (zp rfl) zN)).trans ((GF h _).trans (by rw[l]))) kn)).trans ?_)).trans (qx (qT (zp rfl))))
 rw[aA];exact e
end
def GX (i:Nat):Hx:=[.lst (qt i 0 3),.lst (qt i 3 3),.lst (qt i 0 6),.lst (qt i 6 3),.lst (qt i 0 9),.lst (qt i 9 3),.lst (qt i 0 12),.lst (qt i 12 3),.lst (qt i 0 15),.lst (qt i 15 3),.lst (qt i 0 18),.lst [.int i]]
noncomputable def gI (x:Str):Option Nat:=if x = "NoTable" then some 0 else if x = "NotSteady" then some 1 else none
def Ng (h:gI x=some i):(x = "NoTable" /\ i=0)∨(x = "NotSteady" /\ i=1):=by
 unfold gI at h
 by_cases a:x = "NoTable"
 ·rw[ah a]at h;cases h;exact .inl ⟨a,rfl⟩
 ·rw[aj a]at h
  by_cases H:x = "NotSteady"
  ·rw[ah H]at h;cases h;exact .inr ⟨H,rfl⟩
  ·rw[aj H]at h
   cases h
def n4 (a:gI x=some i)(u:W)(A:Hx):VT [some u,some (.xc x),none,none] A=.ok (.rt (.ref (A.length+11))) (A++GX i):=by
 have two:=Ng a;unfold VT;have f:∀(m:Option W)(A:Hx),(zc (je (ju qV "NoTable") zq) (zc (je (ju qV "NotSteady") zq) (zc (je (ju qV "NoPlace") zq) zj))) [some u,some (.xc x),none,m] A=.ok (qt i 0 3) A:=λm A=>by
  rcases two with ⟨rfl,rfl⟩|⟨rfl,rfl⟩<;>kernel_rfl
 have r:∀(m:Option W)(A:Hx),(zc (je (ju qV "NoKind") zq) (zc (je (ju qV "NoMix") zq) (zc (je (ju qV "NoNumber") zq) zj))) [some u,some (.xc x),none,m] A=.ok (qt i 3 3) A:=λm A=>by
  rcases two with ⟨rfl,rfl⟩|⟨rfl,rfl⟩<;>kernel_rfl
 have a2:∀(m:Option W)(A:Hx),(zc (je (ju qV "NoLot") zq) (zc (je (ju qV "NoKinds") zq) (zc (je (ju qV "NoPaper") zq) zj))) [some u,some (.xc x),none,m] A=.ok (qt i 6 3) A:=λm A=>by
  rcases two with ⟨rfl,rfl⟩|⟨rfl,rfl⟩<;>kernel_rfl
 have d:∀(m:Option W)(A:Hx),(zc (je (ju qV "NoParting") zq) (zc (je (ju qV "NoClosed") zq) (zc (je (ju qV "TooMany") zq) zj))) [some u,some (.xc x),none,m] A=.ok (qt i 9 3) A:=λm A=>by
  rcases two with ⟨rfl,rfl⟩|⟨rfl,rfl⟩<;>kernel_rfl
 have c:∀(m:Option W)(A:Hx),(zc (je (ju qV "NoText") zq) (zc (je (ju qV "NoLine") zq) (zc (je (ju qV "NoDeed") zq) zj))) [some u,some (.xc x),none,m] A=.ok (qt i 12 3) A:=λm A=>by
  rcases two with ⟨rfl,rfl⟩|⟨rfl,rfl⟩<;>kernel_rfl
 have b:∀(m:Option W)(A:Hx),(zc (je (ju qV "NoWeights") zq) (zc (je (ju qV "NotWhole") zq) (zc (je (ju qV "NoNumbers") zq) zj))) [some u,some (.xc x),none,m] A=.ok (qt i 15 3) A:=λm A=>by
  rcases two with ⟨rfl,rfl⟩|⟨rfl,rfl⟩<;>kernel_rfl
 have p:∀n,qt i 0 n++qt i n 3=qt i 0 (n+3):=λn=>by
  unfold qt;rw[<- aN]
  congr 1
  have:=List.range'_append_1 (s:=0) (m:=n) (n:=3)
  rw[zero_add]at this;exact this
 have E:zQ 3 (qp (zc (je (ju qV "NoTable") zq) (zc (je (ju qV "NotSteady") zq) (zc (je (ju qV "NoPlace") zq) zj)))) [some u,some (.xc x),none,none] A=.ok (.nx [some u,some (.xc x),none,rO (A.length+0)]) (A++[.lst (qt i 0 3)]):=(qH (jV (f _ A))).trans rfl;refine(zH E).trans ?_;refine(zH (Wb (A:=A) (L:=[.lst (qt i 0 3)]) (j:=0) (xs:=qt i 0 3) (ys:=qt i 3 3) (zs:=qt i 0 6) rfl r (by simp[qt]) (p 3))).trans ?_
 refine(zH (Wb (A:=A) (L:=[.lst (qt i 0 3),.lst (qt i 3 3),.lst (qt i 0 6)]) (j:=2) (xs:=qt i 0 6) (ys:=qt i 6 3) (zs:=qt i 0 9) rfl a2 (by simp[qt]) (p 6))).trans ?_
 refine(zH (Wb (A:=A) (L:=[.lst (qt i 0 3),.lst (qt i 3 3),.lst (qt i 0 6),.lst (qt i 6 3),.lst (qt i 0 9)]) (j:=4) (xs:=qt i 0 9) (ys:=qt i 9 3) (zs:=qt i 0 12) rfl d (by simp[qt]) (p 9))).trans ?_
 refine(zH (Wb (A:=A) (L:=[.lst (qt i 0 3),.lst (qt i 3 3),.lst (qt i 0 6),.lst (qt i 6 3),.lst (qt i 0 9),.lst (qt i 9 3),.lst (qt i 0 12)]) (j:=6) (xs:=qt i 0 12) (ys:=qt i 12 3) (zs:=qt i 0 15) rfl c (by simp[qt]) (p 12))).trans ?_
 refine(zH (Wb (A:=A) (L:=[.lst (qt i 0 3),.lst (qt i 3 3),.lst (qt i 0 6),.lst (qt i 6 3),.lst (qt i 0 9),.lst (qt i 9 3),.lst (qt i 0 12),.lst (qt i 12 3),.lst (qt i 0 15)]) (j:=8) (xs:=qt i 0 15) (ys:=qt i 15 3) (zs:=qt i 0 18) rfl b (by simp[qt]) (p 15))).trans ?_
 generalize H:A++([.lst (qt i 0 3),.lst (qt i 3 3),.lst (qt i 0 6),.lst (qt i 6 3),.lst (qt i 0 9),.lst (qt i 9 3),.lst (qt i 0 12),.lst (qt i 12 3),.lst (qt i 0 15)]++[.lst (qt i 15 3),.lst (qt i 0 18)])=B;have l:B.length=A.length+11:=by rw[<- H];simp
 have o:B[A.length+10]? =some (.lst (qt i 0 18)):=by rw[<- H,au (by omega),show A.length+10-A.length=10 by omega];rfl
 refine(zH (ρ1:=[some u,some (.xc x),none,rO (A.length+10)]) (A1:=B) ((yb (A1:=B) (kQ (k:=true) ?_)).trans rfl)).trans (qx (qT ?_))
 ·rcases two with ⟨rfl,rfl⟩|⟨rfl,rfl⟩<;>kernel_rfl
 have e:=O9 (cap:=[3]) (mi:=qN (zV (.int 18))) (j:=j5 0 18) (ifs:=zi zB zq zr) (me:=qg 0) (ρ:=[some u,some (.xc x),none,rO (A.length+10)]) (A:=B) (N:=18) (item:=λk=>.int (0+(k:Int))) (g:=λk=>.int (0+(k:Int))) (keep:=λk=>decide (k=i)) rfl rfl (by unfold qj;omega) (λk h=>yI h) (yH (by omega))
  (λk h=>by
   refine(zM (zp (i:=1) (w:=.ref (A.length+10)) rfl) (zp (i:=0) (w:=.int (0+(k:Int))) rfl)).trans ?_;rw[Int.zero_add];refine gD o ?_;unfold qt;rw[ar,List.getElem?_range' (by omega)]
   simp) (λk h _=>rfl)
 rw[km e,l];have q:((List.range 18).filter λk=>decide (k=i)).map (λk:Nat=>W.int (0+(k:Int)))=[.int i]:=by
  rcases two with ⟨rfl,rfl⟩|⟨rfl,rfl⟩<;>rfl
 rw[q,<- H,aP]
 rfl
def n6 (h:gI x=some i):qV.contains x=true:=by
 rcases Ng h with ⟨rfl,_⟩|⟨rfl,_⟩<;>decide +kernel
def RG (t:Lm)(k:Nat)(w:List W)(A:Hx):R W:=match gc [t] k w A with
 |.exc x a=>(match gI x with
  |some i=>.ok (.ref (a.length+11)) (a++GX i)|none=>.bad)
 |_=>.bad
section
variable {PG:Zh}{k:Nat}{t:Lm}{q:Str}
def n9 (H:gc [t] k ws A=.exc x A1)(h:gI x=some i):
  qF 4 (KO PG (gc [t])) [.clo k ws (PG k)] A=.ok (.ref (A1.length+11)) (A1++GX i):=by
 have E:X3 0 PG (gc [t]) [some (.clo k ws (PG k)),some .non,none,none] A=.exc x A1:=by
  unfold X3;refine(ah rfl).trans H
 have e:W3 0 1 2 qV PG (gc [t]) [some (.clo k ws (PG k)),some .non,none,none] A=.ok (.nx [some (.clo k ws (PG k)),some (.xc x),none,none]) A1:=by
  unfold W3;rw[E];dsimp only;rw[ah (n6 h)]
  rfl
 refine ja ?_;unfold KO;refine(zH (ρ1:=[some (.clo k ws (PG k)),some .non,none,none]) (A1:=A) rfl).trans ?_;exact(zH e).trans (n4 h _ A1)
def IC (H:gc [t] k ws A=.exc x A1)(h:gI x=some i):RG t k ws A=.ok (.ref (A1.length+11)) (A1++GX i):=by
 unfold RG;rw[H];dsimp only;rw[h]
def LM (u:List W)(A:Hx):QQ PG (RG t) u A=.bad∨qF 4 (KO PG (gc [t])) u A=QQ PG (RG t) u A:=by
 by_cases H:QQ PG (RG t) u A=.bad
 ·exact .inl H
 right
 unfold QQ at H ⊢
 split
 ·rename_i k b P
  dsimp only at H
  by_cases a:P=PG k
  ·subst a
   rw[ah rfl]at H ⊢;cases e:gc [t] k b A with
   |exc x c=>
    cases hm:gI x with
    |none=>exfalso;apply H;unfold RG;rw[e];dsimp only;rw[hm]|some i=>rw[n9 e hm,IC e hm]
   |ok w c=>exfalso;apply H;unfold RG;rw[e]|bad=>exfalso;apply H;unfold RG;rw[e]
  ·rw[aj a]at H;exact absurd rfl H
 ·rename_i h
  exfalso
  apply H
  split
  ·rename_i k b P
   exact(h k b P rfl).elim
  ·rfl
def og (a:A[n]? =some (.tab q Pt))(c:JU t.idx ρ=some ws)(H:t.m (ws.map some) A=.exc x A1)(h:gI x=some i):ZL n q Pt t.idx (RG t 0) ρ A=.ok (.ref (A1.length+11)) (A1++GX i):=by
 unfold ZL;rw[a];dsimp only;rw[ah ⟨rfl,rfl⟩,c];exact IC H h
def Sr (A:Hx)(i:Nat):(A++GX i)[A.length+11]? =some (.lst [.int i]):=by
 rw[au (by omega),show A.length+11-A.length=11 by omega]
 rfl
def DG:gI "NoTable"=some 0:=by decide +kernel
def F6:gI "NotSteady"=some 1:=by decide +kernel
end
def gY (m:Nat):bQ:=yc m λi j=>if i=j then 0 else 1
def rg (n:Nat):bQ:=yc n λi j=>((min ((i+n-j)%n) ((j+n-i)%n):Nat):Int)
def bl (m s:Nat):bQ:=yc (m * s) λi j=>if i=j then 0 else if i/s=j/s then 1 else 2
def un (n:Nat):bQ:=yc (2 ^ n) λi j=>(((List.range n).map λp=>((i ^^^ j) >>> p)%2).sum:Nat)
def ow (n:Nat):bQ:=yc (2 ^ n) λi j=>((i ^^^ j:Nat):Int)
def bs (w:Int)(t:bQ):bQ:=yc (2 * t.length) λi j=>if i/t.length=j/t.length then at2 t (i%t.length) (j%t.length) else qw t+w * at2 t (i%t.length) (j%t.length)
def Qi:List (bQ):=[gY 2,gY 3,rg 4,gY 4,ow 2]
def Bd:List (bQ):=(List.range 8).map (λn=>gY (n+1))++(List.range 5).map (λn=>rg (n+4))++[bl 2 2,bl 2 3,bl 3 2,bl 2 4,bl 4 2,un 2,un 3,ow 2,ow 3,yc 6 λi j=>if i=j then 0 else if i+j=5 then 2 else 1]++Qi.map (bs 1)++Qi.map (bs 0)
def Ye (t:bQ):Bool:=Vd t&&(U5 t&&decide ((Rw t (qw t).toNat).length<64))
noncomputable def dq (n:Nat):Nat->List α->List α
 |0,l=>l|k+1,l=>(dq n k l).drop n
def wI {k:Nat}{l:List α}{f:α->Bool}(h:((dq n k l).take n).all f=true)(H:(dq n (k+1) l).all f=true):(dq n k l).all f=true:=by
 rw[<- take_append_drop n (dq n k l),all_append,h];exact H
def oh:((dq 7 0 Bd).take 7).all Ye=true:=by decide +kernel
def oj:((dq 7 1 Bd).take 7).all Ye=true:=by decide +kernel
def om:((dq 7 2 Bd).take 7).all Ye=true:=by decide +kernel
def ot:((dq 7 3 Bd).take 7).all Ye=true:=by decide +kernel
def ou:((dq 7 4 Bd).take 7).all Ye=true:=by decide +kernel
def ox:Bd.all Ye=true:=wI (n:=7) (k:=0) oh (wI oj (wI om (wI ot (wI ou rfl))))
def II (h:t∈Bd):qz t/\jW t/\qw t=((qw t).toNat:Int)/\(Rw t (qw t).toNat).length<64:=by
 have H:=cy.mp ox t h;unfold Ye at H;rw[ak,ak,ao]at H;have a:=U3 H.1
 have:=kI a
 exact⟨a,O5 H.2.1,by omega,H.2.2⟩
def Vq (r:R W)(t:bQ):Bool:=match r with
 |.ok w _=>w.nr&&w.beq (zw t)|_=>false
def JE {f:Fn}{u:List W}(H:jk u=true)(h:Vq (f u []) t=true)(A:Hx):iso f u A=.ok (zw t) A:=by
 unfold Vq at h
 split at h
 ·rename_i w B e
  rw[ak]at h
  have:=W.eq_of h.2
  subst this;exact Qz H h.1 e
 ·cases h
def Zv (f:Fn)(u:List W):Bool:=jk u&&Bd.any λb=>Vq (f u []) b
def X2 {f:Fn}{u:List W}(h:Zv f u=true):∃b∈Bd,∀A,iso f u A=.ok (zw b) A:=by
 unfold Zv at h;rw[ak]at h;obtain⟨b,H,e⟩:=List.any_eq_true.mp h.2;exact⟨b,H,JE h.1 e⟩
def oy:((List.range 8).all λ(r:Nat)=>Zv Um [.int (1+(r:Int))])=true:=by decide +kernel
def oz:((List.range 6).all λ(r:Nat)=>Zv OV [.int (3+(r:Int))])=true:=by decide +kernel
noncomputable abbrev bp:List (Int×Int):=[(2,2),(2,3),(3,2),(2,4),(4,2),(1,5),(5,1)]
def oA:(bp.all λq=>Zv Oi [.int q.1,.int q.2])=true:=by decide +kernel
def oB:((List.range 2).all λ(r:Nat)=>Zv P5 [.int (2+(r:Int))])=true:=by decide +kernel
def oC:((List.range 2).all λ(r:Nat)=>Zv Pn [.int (2+(r:Int))])=true:=by decide +kernel
def oD:Zv OL [.int 4]=true:=by decide +kernel
abbrev a2:bQ:=gY 2
def oF:(Qi.all λs=>Zv Od [zw a2,zw s])=true:=by decide +kernel
def oG:(Qi.all λs=>Zv Oh [zw a2,zw s])=true:=by decide +kernel
section
variable {o:O}
def HH (A:Hx):ZZ [.int 2] A=.ok (zw a2) A:=JE rfl (by decide +kernel) A
def oH (A:Hx):ZZ [.int 3] A=.ok (zw (gY 3)) A:=JE rfl (by decide +kernel) A
def oI (A:Hx):ZZ [.int 4] A=.ok (zw (gY 4)) A:=JE rfl (by decide +kernel) A
def oJ (A:Hx):K0 [.int 4] A=.ok (zw (rg 4)) A:=JE rfl (by decide +kernel) A
def oK (A:Hx):KG [.int 2] A=.ok (zw (ow 2)) A:=JE rfl (by decide +kernel) A
noncomputable abbrev c1 {f:Fn}{m:Ev}{w v:W}(H:m ρ A=.ok w A)(h:f [w] A=.ok v A):zC f (zc m zj) ρ A=.ok v A:=(qd (zD H zN)).trans h
def oM (s:jj n A):∃t∈Qi,∃o,KY [.ref n] A=.ok (zw t) (A.set n o)/\jj n (A.set n o):=by
 obtain⟨x,b,H,e,f⟩:=s;have g:=yf H;obtain⟨r,a,E,c,l,S⟩:=Qy (n:=0) (A:=[.lst [.int x,.bl b]]) ⟨x,b,rfl,e,f⟩ (m:=5) (by decide) (by decide)
 obtain⟨i,rfl⟩:=aS c;have h:i<Qi.length:=by show i<5;omega
 obtain⟨y,z,d,Q,q⟩:=S;refine⟨Qi[i],aJ h,.lst [.int y,.bl z],Wj (A1:=[a,.lst (Qi.map zw)]) H rfl (ja ?_) d (Qw _),y,z,ay g,Q,q⟩;unfold OP;refine(zH (ρ1:=[rO 0,iV i]) (A1:=[a]) (qH ((qd (zD (zp rfl) (zD qe zN))).trans E))).trans ?_;exact qx (qT ((zM (jV (ws:=Qi.map zw) (A1:=[a]) (zD (c1 qe (HH _)) (zD (c1 qe (oH _)) (zD (c1 qe (oJ _)) (zD (c1 qe (oI _)) (zD (c1 qe (oK _)) zN)))))) (zp rfl)).trans (gD (n:=1) (s:=i) rfl (by rw[ar,ae h];rfl))))
def Got (c:En)(r:R Fl):Prop:=∃b∈Bd,∃a o l,r=.ok (.nx a) (o::l)/\jj 0 (o::l)/\a[0]? =some (rO 0)/\a[2]? =some (some (zw b))
def Vv {R:Fn}{c g:Int}{m:Nat}(H:((List.range m).all λ(r:Nat)=>Zv R [.int (c+(r:Int))])=true)(h:g=(m:Int))(p:1<=m)(M:m<=9)(s:jj 0 [o])(j:ρ[0]? =some (rO 0))(f:ρ.length=5):Got ρ (zo (zQ 2 (zC (iso R) (zc (zi qk (zV (.int c)) (zC ye (zc zr (zc (zV (.int g)) zj)))) zj))) zy ρ [o]):=by
 subst h;obtain⟨v,a,E,n,l,S⟩:=Qy s (m:=(m:Int)) (by omega) (by omega)
 obtain⟨i,rfl⟩:=aS n;obtain⟨b,d,e⟩:=X2 (cy.mp H i (cn.mpr (by omega)))
 refine⟨b,d,_,a,[],(zH (qH ((qd (zD ((zM qe ((qd (zD (zp j) (zD qe zN))).trans E)).trans rfl) zN)).trans (e _)))).trans qQ,S,?_,?_⟩
 ·rw[ax (by decide)];exact j
 ·rw[ay (by omega)]
def HI {R:Fn}(h:(Qi.all λt=>Zv R [zw a2,zw t])=true)(s:jj 0 [o])(d:ρ[0]? =some (rO 0))(c:ρ.length=5):Got ρ (zo (zQ 2 (zC (iso R) (zc (zC ZZ (zc j7 zj)) (zc (zC KY (zc zr zj)) zj)))) zy ρ [o]):=by
 obtain⟨t,f,a,E,S⟩:=oM s;obtain⟨b,H,e⟩:=X2 (cy.mp h t f);refine⟨b,H,_,a,[],(zH (qH ((qd (zD (c1 qe (HH _)) (zD ((qd (zD (zp d) zN)).trans E) zN))).trans (e _)))).trans qQ,S,?_,?_⟩
 ·rw[ax (by decide)];exact d
 ·rw[ay (by omega)]
def JL {c:Ev}{a b:Ex}{p:Bool}(h:c ρ B=.ok (.bl p) B)(d:p=true->Got ρ (a ρ B))(H:p=false->Got ρ (b ρ B)):Got ρ (qU c a b ρ B):=by
 cases p with
 |true=>rw[ko h];exact d rfl|false=>rw[yb h];exact H rfl
def YQ {a:Ex}(h:Got ρ (a ρ B)):Got ρ (zo a zy ρ B):=by
 obtain⟨b,H,c,o,l,e,r⟩:=h;exact⟨b,H,c,o,l,(zH e).trans qQ,r⟩
def AA (s:jj n A):∃b∈Bd,∃p q o,p.Perm (List.range (qw b-1).toNat)/\q.Perm (List.range b.length)/\Jw [.ref n] A=.ok (zw (w5 b p q)) (A.set n o)/\jj n (A.set n o):=by
 obtain⟨x,j,g,E,H⟩:=s;have hm:=yf g;obtain⟨r,a,N,X,U,s1⟩:=Qy (n:=0) (A:=[.lst [.int x,.bl j]]) ⟨x,j,rfl,E,H⟩ (m:=12) (by decide) (by decide)
 have eq:∀(c:Int){B:Hx},zi qX zq (zV (.int c)) [rO 0,iV r,none,none,none] B=.ok (.bl (decide (r=c))) B:=λc {B}=>(zM (zp rfl) qe).trans (wz _ _ _);have lt:∀(c:Int){B:Hx},zi QW zq (zV (.int c)) [rO 0,iV r,none,none,none] B=.ok (.bl (decide (r<c))) B:=λc {B}=>(zM (zp rfl) qe).trans rfl;have S:jj 0 [a]:=s1;have key:∃m1,Oc ZZ V8 Uh KG Ul K0 KY ye Yg Uc Ug=zo (zQ 1 (zC ye (zc zr (zc (zV (.int 12)) zj)))) (zo m1 (zo (qI (zC Yg (zc zr (zc zL zj)))) zy))/\Got [rO 0,iV r,none,none,none] (m1 [rO 0,iV r,none,none,none] [a]):=by
  refine⟨_,rfl,?_⟩;refine JL (eq 0) (λ_=>Vv oy rfl (by decide) (by decide) S rfl rfl) λh0=>YQ (JL (lt 3) (λ_=>Vv oz rfl (by decide) (by decide) S rfl rfl) λh1=>YQ (JL (eq 3) (λ_=>?_) λh2=>YQ (JL (lt 6) (λ_=>Vv oB rfl (by decide) (by decide) S rfl rfl) λh3=>YQ (JL (eq 6) (λ_=>Vv oC rfl (by decide) (by decide) S rfl rfl) λZ=>YQ (JL (eq 7) (λ_=>?_) λY=>YQ (JL (lt 10) (λ_=>HI oF S rfl rfl) λ_=>HI oG S rfl rfl))))))
  ·obtain⟨v,D,M,v0,T,s2⟩:=Qy (n:=0) (A:=[a,.lst (bp.map λq=>.tup [.int q.1,.int q.2])]) (by obtain⟨y,z,d,Q⟩:=s1;exact⟨y,z,d,Q⟩) (m:=7) (by decide) (by decide)
   obtain⟨i,rfl⟩:=aS v0;have f:i<bp.length:=by show i<7;omega
   obtain⟨b,h,e⟩:=X2 (cy.mp oA bp[i] (aJ f));refine⟨b,h,_,D,[.lst (bp.map λq=>.tup [.int q.1,.int q.2])],(zH (TC (w:=.tup [.int (bp[i]).1,.int (bp[i]).2]) ((zM (jV (ws:=bp.map λq=>.tup [.int q.1,.int q.2]) (A1:=[a]) rfl) ((qd (zD (zp rfl) (zD qe zN))).trans M)).trans (gD (n:=1) (s:=i) rfl (by rw[ar,ae f];rfl))) rfl)).trans ((zH (qH ((qd (zD (zp rfl) (zD (zp rfl) zN))).trans (e _)))).trans qQ),s2,rfl,rfl⟩
  ·obtain⟨b,h,e⟩:=X2 oD
   exact⟨b,h,_,a,[],(zH (qH ((qd (zD qe zN)).trans (e _)))).trans qQ,S,rfl,rfl⟩
 obtain⟨m1,em,b,h,t,o',l,L,s3,h0,h2⟩:=key;have P:=II h;obtain⟨p,q,C,K,⟨y,z,d,Q,u⟩,J,I⟩:=AE P.1 s3;refine⟨b,h,p,q,.lst [.int y,.bl z],J,I,Wj (A1:=(o'::l).set 0 C) g rfl (ja ?_) d (Qw _),y,z,ay hm,Q,u⟩;rw[em];exact(zH (ρ1:=[rO 0,iV r,none,none,none]) (A1:=[a]) (qH ((qd (zD (zp rfl) (zD qe zN))).trans N))).trans ((zH L).trans (qx (qT ((qd (zD (zp h0) (zD (zp h2) zN))).trans K))))
variable {S:List (bQ)}{z v:bR}{K k j x:Nat}{C:Hx}{T:W}
def To {m M:Ev}{b:Hx}{i j:Int}(h:m ρ A=.ok (.int i) A1)(c:M ρ A1=.ok (.int j) b)(a:jH i=true)(H:jH j=true):Zc m M ρ A=.ok (j5 i (j-i).toNat) b:=by
 unfold Zc;rw[h,zP,c,zP];dsimp only;rw[a,H]
 rfl
def JB {v:Int}(h:-1000<v)(H:v<1000):jH v=true:=by
 unfold jH;rw[ak,ao,ao];omega
def Wf.s (w:Wf K S):∀i,i<K->(S.getD i []).length=K:=λi h=>w.r _ (by rw[aa,ae (by rw[w.l];exact h)];exact aJ _)
def SO (w:Wf K S)(e:Zo S K n K B){p mk o M:Ev}(r:p ρ B=.ok (.ref n) B)(H:mk ρ B=.ok (.int (k:Int)) B)(b:o ρ B=.ok (.int (i:Int)) B)(a:M ρ B=.ok (.int (j:Int)) B)(g:k<K)(q:i<K)(L:j<K):
  zi zB (zi zB (zi zB p mk) o) M ρ B=.ok (.int (pS S k i j)) B:=by
 have d:S.getD k []∈S:=by rw[aa,ae (by rw[w.l];exact g)];exact aJ _
 obtain⟨y,u,A,t⟩:=e;obtain⟨_,I,v,C,f⟩:=t k g;have ix:∀{l:bV}{x:Nat},x<l.length->(l.map W.ref)[x]? =some (.ref (l.getD x 0)):=λ {l x} h=>by rw[ar,aa,ae h];rfl
 refine(zM ((zM ((zM r H).trans (gD u (ix (by omega)))) b).trans (gD v (ix (by omega)))) a).trans (gD (f i q).2 (int_at ?_))
 rw[w.c _ d _ (kF (by rw[w.s k g];exact q))]
 exact L
abbrev fa (T:W)(v:bR)(n:Nat)(a X x:Option W):En:=[some T,some (zt v),rO n,a,X,x]
abbrev LB:Ex:=zo (zQ 5 (mQ wF (qc 1 [1,2,3,4] (qN (mQ zT (zJ zq))) (zG 0) ql (zU (zi qG (zi zB (zi zB (zi zB zL zr) zS) zW) (zi zB zq zr)))))) (zo (qU (zi jw (zi qG (zi zB zq zS) (zi zB zq zW)) jC) yF zy) zy)
def Ra (H:v.length=K){r:Nat}(h:ρ[r]? =some (some (zt v))):mQ zT (zJ (qg r)) ρ B=.ok (.int K) B:=by
 rw[Y3 (ws:=v.map W.int) h,ag,H]
def oN (w:Wf K S)(p:Zo S K n K B)(a:v.length=K)(r:K<=8)(H:Bg v)(o:i<K)(f:j<K):∃y5,LB (fa T v n (iO i) (iO j) x5) B=.ok (if yO S v i j then .nx (fa T v n (iO i) (iO j) y5) else .rt (.bl false)) B:=by
 have c:=gA (cap:=[1,2,3,4]) (mi:=qN (mQ zT (zJ zq))) (me:=zi qG (zi zB (zi zB (zi zB zL zr) zS) zW) (zi zB zq zr)) (ρ:=fa T v n (iO i) (iO j) x5) (A:=B) (N:=K) (item:=λk=>.int (0+(k:Int))) (g:=λk=>.int (pS S k i j * v.getD k 0))
  (kE (Ra a rfl) (Yt (by omega))) (by rw[aA];rfl) (by unfold qj;omega) (λk h=>by rw[aA];exact yI h) (by rw[aA];exact yH (by omega))
  (λk h=>by
   have P:=w.b (S.getD k []) (by rw[aa,ae (by rw[w.l];exact h)];exact aJ _) i j
   rw[Int.zero_add];exact(zM (SO w p (zp rfl) (zp rfl) (zp rfl) (zp rfl) h o f) ((zM (zp rfl) (zp rfl)).trans (wZ (by omega)))).trans (QB (by show -(2 ^ 64)<at2 _ i j;omega) (by show at2 _ i j<2 ^ 64;omega)))
 have t:((List.range K).map λk=>W.int (pS S k i j * v.getD k 0))=((List.range K).map λk=>pS S k i j * v.getD k 0).map W.int:=by rw[aX];rfl
 rw[t]at c;have E:=(jX c).trans (TJ _);generalize d:((List.range K).map λk=>pS S k i j * v.getD k 0).sum=s at E;have e:zi jw (zi qG (zi zB zq zS) (zi zB zq zW)) jC (fa T v n (iO i) (iO j) (iV s)) B=.ok (.bl (!decide (v.getD i 0 * v.getD j 0=s))) B:=
  (zM ((zM ((zM (zp rfl) (zp rfl)).trans (wZ (by omega))) ((zM (zp rfl) (zp rfl)).trans (wZ (by omega)))).trans (Lq (XU H i) (XU H j))) (zp rfl)).trans (Ks _ _ _)
 have q:yO S v i j=decide (v.getD i 0 * v.getD j 0=s):=by
  unfold yO;rw[a,List.drop_of_length_le (by rw[w.l];exact aq _),d]
  rfl
 refine⟨iV s,(zH ((qH E).trans rfl)).trans ?_⟩;rw[q];cases hd:decide (v.getD i 0 * v.getD j 0=s) with
 |true=>rw[hd]at e;exact(zH ((yb e).trans qQ)).trans qQ|false=>rw[hd]at e;exact qx ((ko e).trans (qx (qT qe)))
abbrev LI:Ex:=zo (qO (qN (mQ zT (zJ zq))) (zG 4) LB) zy
def oO (w:Wf K S)(g:Zo S K n K B)(l:v.length=K)(f:K<=8)(c:Bg v)(d:i<K){x4:Option W}:
  (∃y4 y5,(List.range K).all (yO S v i)=true/\LI (fa T v n (iO i) x4 x5) B=.ok (.nx (fa T v n (iO i) y4 y5)) B)∨((List.range K).all (yO S v i)=false/\LI (fa T v n (iO i) x4 x5) B=.ok (.rt (.bl false)) B):=by
 have a:=kE (m:=mQ zT (zJ zq)) (ρ:=fa T v n (iO i) x4 x5) (A:=B) (A1:=B) (k:=(K:Int)) (Ra l rfl) (Z2 (by omega))
 rw[aA]at a;rcases GQ (j:=j5 0 K) (st:=turn (zG 4) LB) (N:=K) (I:=λk p C=>C=B/\(List.range k).all (yO S v i)=true/\∃y4 y5,p=fa T v n (iO i) y4 y5) (Q:=λr C=>r=.bl false/\C=B/\(List.range K).all (yO S v i)=false)
  (λk p C H ⟨q,h,y4,y5,e⟩=>by
   subst e q;refine⟨_,yI H,?_⟩;obtain⟨Z,o⟩:=oN (T:=T) (x5:=y5) (j:=k) w g l f c d H;have E:=(yo (tw:=zG 4) (w:=.int (0+(k:Int))) (ρ:=fa T v n (iO i) y4 y5) (ρ1:=fa T v n (iO i) (iO k) y5) (A:=C) (m1:=LB) (by rw[Int.zero_add];rfl)).trans o
   cases hf:yO S v i k with
   |true=>rw[hf]at E;exact .inl ⟨_,C,E,rfl,by rw[all_succ,h,hf];rfl,_,_,rfl⟩|false=>rw[hf]at E;exact .inr ⟨_,C,E,rfl,rfl,all_false H hf⟩)
  (λp B _=>yH (by omega)) K 0 (fa T v n (iO i) x4 x5) B (by omega) ⟨rfl,rfl,_,_,rfl⟩ with ⟨b,C,e,rfl,h,y4,y5,rfl⟩|⟨r,C,e,rfl,rfl,h⟩
 ·exact .inl ⟨y4,y5,h,(zH ((j3 a).trans e)).trans qQ⟩
 ·exact .inr ⟨h,qx ((j3 a).trans e)⟩
abbrev LR:Ex:=zo (qO (qN (mQ zT (zJ zq))) (zG 3) LI) (zo (qI ql) zy)
def oP (w:Wf K S)(g:Zo S K n K B)(l:v.length=K)(f:K<=8)(d:Bg v):LR (fa T v n none none none) B=.ok (.rt (.bl (yi S v))) B:=by
 have E:=kE (m:=mQ zT (zJ zq)) (ρ:=fa T v n none none none) (A:=B) (A1:=B) (k:=(K:Int)) (Ra l rfl) (Z2 (by omega))
 rw[aA]at E;rcases GQ (j:=j5 0 K) (st:=turn (zG 3) LI) (N:=K) (I:=λk q C=>C=B/\(List.range k).all (λi=>(List.range K).all (yO S v i))=true/\∃y p Y,q=fa T v n y p Y) (Q:=λr C=>r=.bl false/\C=B/\yi S v=false)
  (λk q C a ⟨u,H,y,p,Y,e⟩=>by
   subst e u;refine⟨_,yI a,?_⟩;have t:=yo (tw:=zG 3) (w:=.int (0+(k:Int))) (ρ:=fa T v n y p Y) (ρ1:=fa T v n (iO k) p Y) (A:=C) (m1:=LI) (by rw[Int.zero_add];rfl)
   rcases oO (T:=T) (x4:=p) (x5:=Y) (i:=k) w g l f d a with ⟨o,Z,h,c⟩|⟨h,c⟩
   ·exact .inl ⟨_,C,t.trans c,rfl,by rw[all_succ,H];exact h,_,_,_,rfl⟩
   ·refine .inr ⟨_,C,t.trans c,rfl,rfl,?_⟩
    unfold yi;rw[l];exact all_false a h)
  (λq B _=>yH (by omega)) K 0 (fa T v n none none none) B (by omega) ⟨rfl,rfl,_,_,_,rfl⟩ with ⟨b,C,e,rfl,H,y,p,Y,rfl⟩|⟨r,C,e,rfl,rfl,H⟩
 ·have:yi S v=true:=by unfold yi;rw[l];exact H
  rw[this];exact(zH ((j3 E).trans e)).trans (qx (qT qe))
 ·rw[H]
  exact qx ((j3 E).trans e)
noncomputable def vI:W->Int
 |.int i=>i|_=>0
theorem SX:∀{w:List W},w.all wd=true->(w.map vI).map W.int=w
 |[],_=>rfl|x::w,h=>by
  rw[List.all_cons,ak]at h;rw[aR,aR,SX h.2];cases x with
  |int i=>rfl|_=>cases h.1
def Zm (S:List (bQ))(K:Nat):W->Bool
 |.tup w=>decide (w.length=K)&&(w.all wd&&(decide ((w.map vI).getD 0 0=1)&&yi S (w.map vI)))|_=>false
def Cw (x:W):Prop:=x.nr=true/\∃ty,∀A,j0 x A=some ty
def gx (A:Hx)(w:W):Prop:=(∃a,w=.tup a/\a.length<=100/\(∀x∈a,Cw x)/\Bg (a.map vI))∨∃ty,j0 w A=some ty/\ty≠.tup
def AQ {x:W}(h:Cw x)(A:Hx):KW [x] A=.ok (.bl (wd x)) A:=by
 obtain⟨a,ty,H⟩:=h;exact Qz (A1:=[]) (by show(x.nr&&true)=true;rw[a];rfl) rfl (MD (H []))
def Hc (w:Wf K S)(J:qz t)(o:qw t=(K:Int))(sh:∀a b,a<t.length->b<t.length->jz t K a b=S.getD (at2 t a b).toNat []){a:W}(h:gx A a):∃B,Zw [zw t,a] A=.ok (.bl (Zm S K a)) B/\Ext A B:=by
 have Q:K<=8:=by have:=Xx J;have:=J.n8;omega
 have U:1<=K:=by have:=kI J;omega
 obtain⟨B,u,X,n⟩:=Io J o sh A;obtain⟨T,N,P,_⟩:=id n;have L:mQ zT (zJ zL) [some (zw t),some a,rO A.length,none,none,none] B=.ok (.int (K:Int)) B:=(Ja (i:=2) rfl N).trans (by rw[ag,P])
 refine⟨B,?_,X⟩;unfold Zw R4;refine ja ?_;unfold R9;refine(zH ((qH ((qd (zD (zp rfl) zN)).trans u)).trans rfl)).trans ?_;rcases h with ⟨C,rfl,y,H,j⟩|⟨ty,H,hn⟩
 ·have E:wQ (jR (kf .tup zq)) (zi jw (mQ zT (zJ zq)) (mQ zT (zJ zL))) [some (zw t),some (.tup C),rO A.length,none,none,none] B=.ok (.bl (!decide (C.length=K))) B:=
   (WM (kQ (k:=true) ((QK (ty:=.tup) (zp rfl) rfl).trans rfl))).trans ((zM (Y3 rfl) L).trans ((Ks _ _ _).trans (by congr 3;exact decide_eq_decide.mpr ⟨λz=>by omega,λz=>by omega⟩)))
  rw[show Zm S K (.tup C)=(decide (C.length=K)&&(C.all wd&&(decide ((C.map vI).getD 0 0=1)&&yi S (C.map vI)))) from rfl]
  by_cases D:C.length=K
  ·rw[az D]at E ⊢
   refine(zH ((yb E).trans qQ)).trans ?_;have q:=YF (cap:=[]) (A:=B) (ρ:=[some (zw t),some (.tup C),rO A.length,none,none,none]) (ws:=C) (m:=zq) (me:=zC KW (zc zr zj)) (g:=λw=>.bl (wd w)) (zp rfl) (by unfold qj;omega) (λx l=>(qd (zD (zp rfl) zN)).trans (AQ (H x l) B))
   have e:jR (mQ ZM (qc 1 [] (qu zq) (zG 0) ql (zU (zC KW (zc zr zj))))) [some (zw t),some (.tup C),rO A.length,none,none,none] B=.ok (.bl (!C.all wd)) B:=by
    refine kQ ((jX q).trans ?_);unfold ZM Zg;rw[GU];show R.ok (W.bl ((C.map wd).all id)) B=_;rw[all_map]
    rfl
   cases I:C.all wd with
   |false=>
    rw[I]at e;exact qx ((ko (Iu e)).trans (qx (qT qe)))
   |true=>
    rw[I]at e;have r:W.tup C=zt (C.map vI):=by unfold zt;rw[SX I]
    have f:(C.map vI).length=K:=by rw[ag];exact D
    rw[r]at e ⊢;generalize C.map vI=v at f j e;have d:=(WM e).trans ((zM ((zM (zp (i:=1) (ρ:=fa (zw t) v A.length none none none) (A:=B) rfl) qe).trans (wZ (b:=0) (by omega))) (qe (w:=.int 1))).trans (Ks _ _ _))
    by_cases M:v.getD 0 0=1
    ·rw[az M]at d ⊢
     exact(zH ((yb d).trans qQ)).trans (oP w n f Q j)
    ·rw[aH M]at d ⊢
     exact qx ((ko d).trans (qx (qT qe)))
  ·rw[aH D]at E ⊢
   exact qx ((ko E).trans (qx (qT qe)))
 ·have p:Zm S K a=false:=by
   cases a with
   |tup C=>exfalso;unfold j0 at H;cases H;exact hn rfl|_=>rfl
  have E:=Iu (mb:=zi jw (mQ zT (zJ zq)) (mQ zT (zJ zL))) (kQ (k:=false) ((QK (c:=.tup) (zp (i:=1) (ρ:=[some (zw t),some a,rO A.length,none,none,none]) (A:=B) rfl) (X.ky _ _ H)).trans (by cases ty<;>first|rfl|exact absurd rfl hn)))
  rw[p];exact qx ((ko E).trans (qx (qT qe)))
end
section
variable {S:List (bQ)}{z:bR}{K κ k j x p2:Nat}{C D:Hx}{row:bR}{T:W}
structure Kb (S:List (bQ))(z:bR)(K p2:Nat)(D B:Hx):Prop where
 nu:Zo S K 0 K D
 z_:D[p2]? =some (.lst (z.map W.int))
 x:Ext D B
def Kb.ext (h:Kb S z K p2 D B)(x:Ext B C):Kb S z K p2 D C:=⟨h.nu,h.z_,h.x.trans x⟩
def Bb {y:W}(h:A[n]? =some (.lst ws))(H:ws.length<50000):jN (.ref n) y A=.ok .non (A.set n (.lst (ws++[y]))):=by
 unfold jN;dsimp only;rw[h];dsimp only;rw[ah (by unfold qj;omega)]
def wA (S:List (bQ))(K a i:Nat):bR:=(List.range (K-(a + 1))).map λd=>pS S (a + 1+d) i a
def Gb (S:List (bQ))(a i:Nat)(row:bR):Int:=((List.range (a + 1)).map λk=>pS S k i a * row.getD k 0).sum
def QV (S:List (bQ))(K a:Nat)(row:bR)(i:Nat):Bool:=!decide (kM (wA S K a i++[0])=0) || decide (row.getD i 0 * row.getD a 0=Gb S a i row)
abbrev IB:Ex:=zo (zQ 9 (qW (qc 1 [1,4,8] (Zc (zi qk zW qh) (mQ zT (zJ zL))) (zG 0) ql (zU (zi zB (zi zB (zi zB zq zr) zS) zL))))) (zo (qU (zi qX (mQ kx (zJ (zi qk J9 (qp (zc zZ zj))))) zZ) (zo (zQ 10 (mQ wF (qc 1 [1,4,6,8] (qN (zi qk zW qh)) (zG 0) ql (zU (zi qG (zi zB (zi zB (zi zB zq zr) zW) zL) (zi zB zS zr)))))) (zo (zQ 7 (jY wN (zi qX (zi qG (zi zB j8 wO) (zi zB j8 zW)) Jm))) zy)) zy) zy)
abbrev fr (p:Nat)(T:W)(f e d c b a X x:Option W):En:=[some T,rO 0,rO p,f,e,d,c,b,a,X,x]
abbrev fi (p:Nat)(T:W)(e:Option W)(a:Nat)(d:Option W)(row:bR)(c b X x:Option W):En:=fr p T e (iO a) d (some (zt row)) c b X x
def oQ (w:Wf K S)(p:z.length=K)(f:Kb S z K p2 D B)(hK:K<=8)(H:κ < K)(r:row.length=κ + 1)(P:∀v∈row,-100<v/\v<100)(hi:i<=κ){x3 x9 x10:Option W}{g:Bool}:
  ∃C Y y,IB (fi p2 T x3 κ x5 row (bO g) (iO i) x9 x10) B=.ok (.nx (fi p2 T x3 κ x5 row (bO (g&&QV S K κ row i)) (iO i) Y y)) C/\Ext B C:=by
 have o:B[p2]? =some (.lst (z.map W.int)):=f.x.at f.z_;have u:∀k,-100<row.getD k 0/\row.getD k 0<100:=λk=>by
  by_cases h:k<row.length
  ·rw[aa,ae h];exact P _ (aJ _)
  ·rw[aa,aD (by omega)];show -100<(0:Int)/\(0:Int)<100;omega
 have L:=gA (cap:=[1,4,8]) (mi:=Zc (zi qk zW qh) (mQ zT (zJ zL))) (me:=zi zB (zi zB (zi zB zq zr) zS) zL) (ρ:=fi p2 T x3 κ x5 row (bO g) (iO i) x9 x10) (A:=B) (N:=K-(κ + 1)) (j:=j5 ((κ:Int)+1) (((z.map W.int).length:Int)-((κ:Int)+1)).toNat)
  (item:=λd=>.int ((κ:Int)+1+(d:Int))) (g:=λd=>.int (pS S (κ + 1+d) i κ))
  (To ((zM (zp rfl) qe).trans rfl) (Ja rfl o) (JB (by omega) (by omega)) (JB (by rw[ag];omega) (by rw[ag];omega)))
  (by show(((z.map W.int).length:Int)-((κ:Int)+1)).toNat=_;rw[ag,p];omega) (by unfold qj;omega) (λd hd=>yI (by rw[ag,p];omega)) (yH (by rw[ag,p];omega))
  (λd hd=>by
   rw[show((κ:Int)+1+(d:Int))=((κ + 1+d:Nat):Int) by omega]
   exact SO w (f.nu.ext f.x) (zp rfl) (zp rfl) (zp rfl) (zp rfl) (by omega) (by omega) H)
 have U:((List.range (K-(κ + 1))).map λd=>W.int (pS S (κ + 1+d) i κ))=(wA S K κ i).map W.int:=by unfold wA;rw[aX];rfl
 rw[U]at L;have M:(wA S K κ i).length=K-(κ + 1):=by unfold wA;simp
 have x1:Ext B (B++[O.lst ((wA S K κ i).map W.int)]):=.one;generalize e:B++[O.lst ((wA S K κ i).map W.int)]=a at x1;have J:zQ 9 (qW (qc 1 [1,4,8] (Zc (zi qk zW qh) (mQ zT (zJ zL))) (zG 0) ql (zU (zi zB (zi zB (zi zB zq zr) zS) zL)))) (fi p2 T x3 κ x5 row (bO g) (iO i) x9 x10) B=.ok (.nx (fi p2 T x3 κ x5 row (bO g) (iO i) (rO B.length) x10)) a:=by
  refine((qH (km L)).trans ?_);rw[e]
  rfl
 have Q:a[B.length]? =some (.lst ((wA S K κ i).map W.int)):=by rw[<- e];exact qM
 have E:zi qX (mQ kx (zJ (zi qk J9 (qp (zc zZ zj))))) zZ (fi p2 T x3 κ x5 row (bO g) (iO i) (rO B.length) x10) a=.ok (.bl (decide (kM (wA S K κ i++[0])=0))) (a++[.lst [.int 0]]++[.lst ((wA S K κ i++[0]).map W.int)]):=by
  have a1:=(zM (zp (i:=9) (ρ:=fi p2 T x3 κ x5 row (bO g) (iO i) (rO B.length) x10) (A:=a) rfl) (jV (ws:=[.int 0]) (A1:=a) (zD qe zN))).trans (Wc (jy Q) qM (by rw[ag,M];unfold qj;simp;omega))
  have a2:(wA S K κ i).map W.int++[.int 0]=(wA S K κ i++[0]).map W.int:=by rw[aN];rfl
  rw[a2]at a1;exact(zM ((jX (yA a1 (by unfold zY;dsimp only;rw[qM]))).trans (U0 (by simp))) qe).trans (wz _ _ _)
 generalize q:a++[O.lst [.int 0]]++[O.lst ((wA S K κ i++[0]).map W.int)]=c at E;have x2:Ext B c:=by rw[<- q];exact x1.app.app
 have k2:=f.ext x2
 by_cases n:kM (wA S K κ i++[0])=0
 ·rw[az n]at E
  have I:=gA (cap:=[1,4,6,8]) (mi:=qN (zi qk zW qh)) (me:=zi qG (zi zB (zi zB (zi zB zq zr) zW) zL) (zi zB zS zr)) (ρ:=fi p2 T x3 κ x5 row (bO g) (iO i) (rO B.length) x10) (A:=c) (N:=κ + 1) (j:=j5 0 ((κ:Int)+1).toNat)
   (item:=λk=>.int (0+(k:Int))) (g:=λk=>.int (pS S k i κ * row.getD k 0)) (kE ((zM (zp rfl) qe).trans rfl) (JB (by omega) (by omega))) (by show((κ:Int)+1).toNat=_;omega) (by unfold qj;omega) (λk t=>yI (by omega)) (yH (by omega))
   (λk t=>by
    have pb:0<=pS S k i κ/\pS S k i κ < 100:=w.b (S.getD k []) (by rw[aa,ae (by rw[w.l];omega)];exact aJ _) i κ
    rw[Int.zero_add];exact(zM (SO w (k2.nu.ext k2.x) (zp rfl) (zp rfl) (zp rfl) (zp rfl) (by omega) (by omega) H) ((zM (zp rfl) (zp rfl)).trans (wZ (by rw[r];exact t)))).trans (QB (by omega) (by omega)))
  have em:((List.range (κ + 1)).map λk=>W.int (pS S k i κ * row.getD k 0))=((List.range (κ + 1)).map λk=>pS S k i κ * row.getD k 0).map W.int:=by rw[aX];rfl
  rw[em]at I;have Z:=(jX I).trans (TJ _);have X:jY wN (zi qX (zi qG (zi zB j8 wO) (zi zB j8 zW)) Jm) (fi p2 T x3 κ x5 row (bO g) (iO i) (rO B.length) (iV (Gb S κ i row))) c=.ok (.bl (g&&decide (row.getD i 0 * row.getD κ 0=Gb S κ i row))) c:=
   WO (zp rfl) ((zM ((zM ((zM (zp rfl) (zp rfl)).trans (wZ (by rw[r];omega))) ((zM (zp rfl) (zp rfl)).trans (wZ (by rw[r];omega)))).trans (QB (by have:=u i;omega) (by have:=u i;omega))) (zp rfl)).trans (wz _ _ _))
  have ce:QV S K κ row i=decide (row.getD i 0 * row.getD κ 0=Gb S κ i row):=by
   unfold QV;rw[az n]
   rfl
  refine⟨c,rO B.length,iV (Gb S κ i row),(zH J).trans ((zH ((ko E).trans ((zH ((qH Z).trans rfl)).trans ((zH ((qH X).trans rfl)).trans qQ)))).trans ?_),x2⟩;rw[ce];exact qQ
 ·rw[aH n]at E
  have ce:QV S K κ row i=true:=by
   unfold QV;rw[aH n]
   rfl
  refine⟨c,rO B.length,x10,(zH J).trans ((zH ((yb E).trans qQ)).trans ?_),x2⟩;rw[ce,Bool.and_true];exact qQ
def gd (S:List (bQ))(K a:Nat)(row:bR):Bool:=(List.range (a + 1)).all (QV S K a row)
def Aj {p:Nat->Bool}(n:Nat):(List.range (n+1)).all p=((List.range n).all p&&p n):=by
 rw[bf,all_append];simp
def oR (w:Wf K S)(c:z.length=K)(l:Kb S z K p2 D B)(f:K<=8)(H:κ < K)(r:row.length=κ + 1)(d:∀v∈row,-100<v/\v<100){x3 x8 x9 x10:Option W}:
  ∃C y8 Y y,qO (qN (zi qk zW qh)) (zG 8) IB (fi p2 T x3 κ x5 row (bO true) x8 x9 x10) B=.ok (.nx (fi p2 T x3 κ x5 row (bO (gd S K κ row)) y8 Y y)) C/\Ext B C:=by
 obtain⟨a,C,e,y8,Y,y,rfl,x⟩:=kj (j:=j5 0 ((κ:Int)+1).toNat) (st:=turn (zG 8) IB) (N:=κ + 1)
  (I:=λi o C=>∃y8 Y y,o=fi p2 T x3 κ x5 row (bO ((List.range i).all (QV S K κ row))) y8 Y y/\Ext B C)
  (λi o C n ⟨y8,Y,y,h,x⟩=>by
   subst h;obtain⟨D,b,Z,e,X⟩:=oQ (T:=T) (x3:=x3) (x5:=x5) (x9:=Y) (x10:=y) (g:=(List.range i).all (QV S K κ row)) w c (l.ext x) f H r d (i:=i) (by omega)
   refine⟨.int (0+(i:Int)),_,D,yI (by omega),(yo (by rw[Int.zero_add];rfl)).trans e,iO i,b,Z,?_,x.trans X⟩
   rw[Aj])
  (λo B _=>yH (by omega)) (κ + 1) 0 (fi p2 T x3 κ x5 row (bO true) x8 x9 x10) B (by omega) ⟨x8,x9,x10,rfl,.refl⟩
 refine⟨C,y8,Y,y,(j3 (kE (k:=(κ:Int)+1) ((zM (zp rfl) qe).trans rfl) (JB (by omega) (by omega)))).trans ?_,x⟩
 rw[show(j5 0 ((κ:Int)+1).toNat).len=κ + 1 by show((κ:Int)+1).toNat=_;omega]
 exact e
noncomputable def yW (v:Int)(row:bR):bQ:=(List.range (2 * v+1).toNat).map λ(d:Nat)=>row++[-v+(d:Int)]
def kh (S:List (bQ))(z:bR)(K:Nat):Nat->List (bR)
 |0=>[[1]]|m+1=>((kh S z K m).flatMap (yW (z.getD (m+1) 0))).filter (gd S K (m+1))
abbrev EB:Ex:=zo (jB (jo Qx jC (qW (qc 1 [6] (Zc (zi yP zZ (zi zB zL zW)) (zi qk (zi zB zL zW) qh)) (zG 0) ql (zU (zi qk zq (qa (zc zr zj)))))))) zy
abbrev RB:Ex:=zo (zQ 7 ql) (zo (qO (qN (zi qk zW qh)) (zG 8) IB) (zo (qU wN (zo (jB (jo jN zS j8)) zy) zy) zy))
def Cy {k:Nat}{u:List W}(h:A[n]? =some (.lst ws))(a:A[k]? =some (.lst u))(H:ws.length+u.length<=qj):Qx (.ref n) (.ref k) A=.ok .non (A.set n (.lst (ws++u))):=by
 unfold Qx;dsimp only;rw[h,a];dsimp only;rw[ah H]
def Kq (p:Nat)(B C:Hx):Prop:=B.length<=C.length/\∀q,q<p->C[q]? =B[q]?
def Kq.kb {p:Nat}(h:Kb S z K p2 D B)(q:Kq p B C)(a:D.length<=p):Kb S z K p2 D C:=⟨h.nu,h.z_,Sa (by have:=h.x.len;have:=q.1;omega) λi H=>(q.2 i (by omega)).trans (by obtain⟨l,e⟩:=h.x;rw[e];exact ai H)⟩
def oS (c:z.length=K)(H:Kb S z K p2 D B)(f:K<=8)(b:κ < K)(v:0<=z.getD κ 0/\z.getD κ 0<=8)(r:row.length<=8){p:Nat}{i:bQ}(a:B[p]? =some (.lst (i.map zt)))(q:i.length<50000){x3 x7 x8 x9 x10:Option W}:
  EB (fi p2 T x3 κ (rO p) row x7 x8 x9 x10) B=.ok (.nx (fi p2 T x3 κ (rO p) row x7 x8 x9 x10)) ((B++[O.lst ((yW (z.getD κ 0) row).map zt)]).set p (O.lst ((i++yW (z.getD κ 0) row).map zt))):=by
 have h:B[p2]? =some (.lst (z.map W.int)):=H.x.at H.z_;have e:zi zB zL zW (fi p2 T x3 κ (rO p) row x7 x8 x9 x10) B=.ok (.int (z.getD κ 0)) B:=(zM (zp rfl) (zp rfl)).trans (gD h (int_at (by omega)))
 have E:=gA (cap:=[6]) (mi:=Zc (zi yP zZ (zi zB zL zW)) (zi qk (zi zB zL zW) qh)) (me:=zi qk zq (qa (zc zr zj))) (ρ:=fi p2 T x3 κ (rO p) row x7 x8 x9 x10) (A:=B) (N:=(2 * z.getD κ 0+1).toNat) (j:=j5 (0-z.getD κ 0) (z.getD κ 0+1-(0-z.getD κ 0)).toNat)
  (item:=λd=>.int (0-z.getD κ 0+(d:Int))) (g:=λd=>zt (row++[-z.getD κ 0+(d:Int)]))
  (To ((zM qe e).trans rfl) ((zM e qe).trans rfl) (JB (by omega) (by omega)) (JB (by omega) (by omega))) (by show(z.getD κ 0+1-(0-z.getD κ 0)).toNat=_;omega) (by unfold qj;omega) (λd n=>yI (by omega)) (yH (by omega))
  (λd n=>by
   refine(zM (zp rfl) (wk (zD (zp rfl) zN))).trans ((UX (by rw[ag];simp;omega)).trans ?_)
   unfold zt;rw[aN,show 0-z.getD κ 0+(d:Int)=-z.getD κ 0+(d:Int) by omega]
   rfl)
 have o:((List.range (2 * z.getD κ 0+1).toNat).map λ(d:Nat)=>zt (row++[-z.getD κ 0+(d:Int)]))=(yW (z.getD κ 0) row).map zt:=by unfold yW;rw[aX];rfl
 rw[o]at E;have l:(yW (z.getD κ 0) row).length=(2 * z.getD κ 0+1).toNat:=by unfold yW;simp
 refine(zH (wY (w:=.non) ((Qu (zp rfl) a (km E)).trans ((Cy (jy a) qM (by rw[ag,ag,l];unfold qj;omega)).trans ?_)))).trans qQ
 rw[aN]
def oU (d:z.length=K)(n:Kb S z K p2 D B)(l:K<=8)(H:κ < K)(v:0<=z.getD κ 0/\z.getD κ 0<=8){p3 p5:Nat}{rs:bQ}(f:∀r∈rs,r.length<=8)(u:(rs.flatMap (yW (z.getD κ 0))).length<40000)(a:B[p3]? =some (.lst (rs.map zt)))(b:B[p5]? =some (.lst []))(t:D.length<=p3)(Q:p3<p5){x6 x7 x8 x9 x10:Option W}:
  ∃C y6,qO (qu zS) (zG 6) EB (fr p2 T (rO p3) (iO κ) (rO p5) x6 x7 x8 x9 x10) B=.ok (.nx (fr p2 T (rO p3) (iO κ) (rO p5) y6 x7 x8 x9 x10)) C/\C[p5]? =some (.lst ((rs.flatMap (yW (z.getD κ 0))).map zt))/\Kq p5 B C:=by
 have L:=yf b;have cut:∀m,((rs.take m).flatMap (yW (z.getD κ 0))).length<=(rs.flatMap (yW (z.getD κ 0))).length:=λm=>by
  have:rs.flatMap (yW (z.getD κ 0))=(rs.take m).flatMap (yW (z.getD κ 0))++(rs.drop m).flatMap (yW (z.getD κ 0)):=by rw[<- bP,take_append_drop]
  rw[this,av];omega
 obtain⟨c,C,e,y6,rfl,x,w⟩:=kj (j:=⟨λA i=>(zY (.ref p3) A).map λE=>E[i]?,(rs.map zt).length⟩) (st:=turn (zG 6) EB) (N:=rs.length)
  (I:=λm y C=>∃y6,y=fr p2 T (rO p3) (iO κ) (rO p5) y6 x7 x8 x9 x10/\C[p5]? =some (.lst (((rs.take m).flatMap (yW (z.getD κ 0))).map zt))/\Kq p5 B C)
  (λm y C J ⟨y6,h,x,w⟩=>by
   subst h;have p:C[p3]? =some (.lst (rs.map zt)):=(w.2 p3 Q).trans a;have o:=Kq.kb n w (by omega)
   have e:=oS (T:=T) (x3:=rO p3) (x7:=x7) (x8:=x8) (x9:=x9) (x10:=x10) (row:=rs[m]) d o l H v (f _ (aJ J)) x (by have:=cut m;omega)
   refine⟨zt rs[m],_,_,?_,(yo rfl).trans e,_,rfl,?_,?_,λq g=>?_⟩
   ·exact(yT p).trans (by rw[ar,ae J];rfl)
   ·rw[take_succ J,bP]
    simp only[flatMap_cons,flatMap_nil,a3];exact ay (by rw[av];have:=w.1;omega)
   ·rw[bN,av]
    have:=w.1
    omega
   ·rw[ax (by omega),ai (by have:=w.1;omega)]
    exact w.2 q g)
  (λy C ⟨y6,_,_,w⟩=>(yT ((w.2 p3 Q).trans a)).trans (by rw[aD (by simp)])) rs.length 0 (fr p2 T (rO p3) (iO κ) (rO p5) x6 x7 x8 x9 x10) B (by omega) ⟨x6,rfl,by rw[b];rfl,aq _,λ_ _=>rfl⟩
 rw[take_length]at x;refine⟨C,y6,(j3 (ZD (zp rfl) a)).trans ?_,x,w⟩;rw[show(jM.len ⟨λA i=>(zY (.ref p3) A).map λE=>E[i]?,(rs.map zt).length⟩)=rs.length by simp]
 exact e
def oV (w:Wf K S)(d:z.length=K)(j:Kb S z K p2 D B)(i:K<=8)(a:κ < K)(r:row.length=κ + 1)(f:∀v∈row,-100<v/\v<100){p:Nat}{t:bQ}(b:B[p]? =some (.lst (t.map zt)))(A:t.length<40000){x7 x8 x9 x10:Option W}:
  ∃C y8 Y y,RB (fi p2 T (rO p) κ x5 row x7 x8 x9 x10) B=.ok (.nx (fi p2 T (rO p) κ x5 row (bO (gd S K κ row)) y8 Y y)) C/\C[p]? =some (.lst ((t++[row].filter (gd S K κ)).map zt))/\B.length<=C.length/\∀q,q<B.length->q≠p->C[q]? =B[q]?:=by
 obtain⟨C,y8,Y,y,e,x⟩:=oR (T:=T) (x3:=rO p) (x5:=x5) (x8:=x8) (x9:=x9) (x10:=x10) w d j i a r f;have c:=x.at b;have n:=yf b;have L:=x.len;have o:∀q,q<B.length->C[q]? =B[q]?:=λq h=>by obtain⟨l,rfl⟩:=x;exact ai h
 have E:zQ 7 ql (fi p2 T (rO p) κ x5 row x7 x8 x9 x10) B=.ok (.nx (fi p2 T (rO p) κ x5 row (bO true) x8 x9 x10)) B:=rfl
 by_cases g:gd S K κ row=true
 ·rw[g]at e ⊢
  refine⟨C.set p (.lst ((t++[row]).map zt)),y8,Y,y,(zH E).trans ((zH e).trans ((zH ((ko (zp rfl)).trans ((zH (wY (w:=.non) ((Qu (zp rfl) c (zp rfl)).trans ((Bb c (by rw[ag];omega)).trans ?_)))).trans qQ))).trans qQ)),?_,by rw[bN];exact L,λq h u=>(ax (Ne.symm u)).trans (o q h)⟩
  ·rw[aN]
   rfl
  ·rw[ay (by omega)]
   simp[g]
 ·have H:gd S K κ row=false:=by simpa using g
  rw[H]at e ⊢;refine⟨C,y8,Y,y,(zH E).trans ((zH e).trans ((zH ((yb (zp rfl)).trans qQ)).trans qQ)),?_,L,λq h _=>o q h⟩;rw[c];simp[H]
def oW (w:Wf K S)(d:z.length=K)(n:Kb S z K p2 D B)(l:K<=8)(H:κ < K){p3 p5:Nat}{rs:bQ}(f:∀r∈rs,r.length=κ + 1/\∀v∈r,-100<v/\v<100)(M:rs.length<40000)(b:B[p3]? =some (.lst []))(a:B[p5]? =some (.lst (rs.map zt)))(J:D.length<=p5)(Q:p5<p3){x6 x7 x8 x9 x10:Option W}:
  ∃C y6 y7 y8 Y y,qO (qu jC) (zG 6) RB (fr p2 T (rO p3) (iO κ) (rO p5) x6 x7 x8 x9 x10) B=.ok (.nx (fr p2 T (rO p3) (iO κ) (rO p5) y6 y7 y8 Y y)) C/\C[p3]? =some (.lst ((rs.filter (gd S K κ)).map zt))/\Kq p3 B C:=by
 have L:=yf b;obtain⟨c,C,e,y6,y7,y8,Y,y,rfl,U,P⟩:=kj (j:=⟨λA i=>(zY (.ref p5) A).map λws=>ws[i]?,(rs.map zt).length⟩) (st:=turn (zG 6) RB) (N:=rs.length)
  (I:=λm X C=>∃y6 y7 y8 Y y,X=fr p2 T (rO p3) (iO κ) (rO p5) y6 y7 y8 Y y/\C[p3]? =some (.lst (((rs.take m).filter (gd S K κ)).map zt))/\Kq p3 B C)
  (λm X C hm ⟨y6,y7,y8,Y,y,h,U,P⟩=>by
   subst h;have u:C[p5]? =some (.lst (rs.map zt)):=(P.2 p5 Q).trans a;have t:=Kq.kb n P (by omega)
   obtain⟨k1,k2⟩:=f _ (aJ hm);have lf:((rs.take m).filter (gd S K κ)).length<40000:=by
    have a1:=length_filter_le (gd S K κ) (rs.take m);have a2:=List.length_take_le m rs;omega
   obtain⟨D,E,x,Z,e,p,o,d3⟩:=oV (T:=T) (x5:=rO p5) (x7:=y7) (x8:=y8) (x9:=Y) (x10:=y) w d t l H k1 k2 U lf;refine⟨zt rs[m],_,D,?_,(yo rfl).trans e,_,_,_,_,_,rfl,?_,aY P.1 o,λq g=>?_⟩
   ·exact(yT u).trans (by rw[ar,ae hm];rfl)
   ·rw[p,take_succ hm,filter_append]
   ·rw[d3 q (by have:=P.1;omega) (by omega)]
    exact P.2 q g)
  (λX C ⟨_,_,_,_,_,_,_,P⟩=>(yT ((P.2 p5 Q).trans a)).trans (by rw[aD (by simp)])) rs.length 0 (fr p2 T (rO p3) (iO κ) (rO p5) x6 x7 x8 x9 x10) B (by omega) ⟨x6,x7,x8,x9,x10,rfl,by rw[b];rfl,aq _,λ_ _=>rfl⟩
 rw[take_length]at U;refine⟨C,y6,y7,y8,Y,y,(j3 (ZD (zp rfl) a)).trans ?_,U,P⟩;rw[show(jM.len ⟨λA i=>(zY (.ref p5) A).map λws=>ws[i]?,(rs.map zt).length⟩)=rs.length by simp]
 exact e
end
section
variable {S:List (bQ)}{z v:bR}{K κ k j m:Nat}{C:Hx}
def oX {s:Int}(h:0<=s)(row:bR):yW s row=(ext s row).reverse:=by
 unfold yW ext dn;rw[aX];refine a7 (by simp;omega) λi H a=>?_
 have H:i<(2 * s+1).toNat:=by simpa using H
 rw[List.getElem_reverse];simp only[getElem_map,getElem_range,ag,aG,Function.comp]
 congr 2
 omega
theorem UY {s:Int}(h:0<=s):∀L:bQ,L.reverse.flatMap (yW s)=(L.flatMap (ext s)).reverse
 |[]=>rfl|a::L=>by rw[bJ,bP,UY h L,List.flatMap_singleton,oX h,flatMap_cons,List.reverse_append]
theorem XD (h:Zs K z):∀k,k<K->kh S z K k=(ZT (gd S K) z k).reverse
 |0,_=>rfl|k+1,H=>by
  have Z:=h.le H;show((kh S z K k).flatMap (yW (z.getD (k+1) 0))).filter (gd S K (k+1))=(((ZT (gd S K) z k).flatMap (ext (z.getD (k+1) 0))).filter (gd S K (k+1))).reverse;rw[XD h k (by omega),UY (by omega),List.filter_reverse]
def oY (H:Zs K z)(d:k+1<K):((kh S z K k).flatMap (yW (z.getD (k+1) 0))).length<40000/\(∀r∈kh S z K k,r.length=k+1)/\∀r∈(kh S z K k).flatMap (yW (z.getD (k+1) 0)),r.length=k+1+1/\∀v∈r,-100<v/\v<100:=by
 have Z:=H.le d;have sh:=JC (p:=gd S K) H k (by omega)
 rw[XD H k (by omega),UY (by omega)]
 refine⟨?_,λr a=>(sh r (List.mem_reverse.mp a)).1,λr a=>?_⟩
 ·rw[bz,U4]
  have i:=Tz (p:=gd S K) H (k:=k) (by omega)
  have g:2 * (z.getD (k+1) 0).toNat+1<=17:=by omega
  exact Nat.lt_of_le_of_lt (mul_le_mul i g) (by decide)
 ·obtain⟨x,b,w⟩:=List.mem_flatMap.mp (List.mem_reverse.mp a)
  obtain⟨v,c,rfl⟩:=YO.mp w;obtain⟨f,e,_⟩:=sh x b;have D:=(Xt (by omega)).mp c
  refine⟨by rw[av,f];rfl,λu h=>?_⟩
  rcases cB.mp h with h|h
  ·have:=e u h;omega
  ·rw[cz.mp h];omega
def oZ (w:Wf K S)(f:Full K S v)(h:κ < K):gd S K κ (v.take (κ + 1))=true:=by
 unfold gd;rw[aZ];intro i H;have H:=cn.mp H;unfold QV
 by_cases a:kM (wA S K κ i++[0])=0
 ·rw[az a,Bool.not_true,Bool.false_or,ao,Yw H,Yw (by omega),f i κ (by omega) h]
  show _=sm (κ + 1) λk=>pS S k i κ * (v.take (κ + 1)).getD k 0;have e:K=(κ + 1)+(K-(κ + 1)):=by omega
  rw[e,Se (K-(κ + 1)) λk j g=>?_]
  ·exact yG λk h=>by rw[Yw h]
  ·have c:pS S k i κ<=kM (wA S K κ i++[0]):=Tw (br _ (by
    unfold wA;exact cx.mpr ⟨k-(κ + 1),cn.mpr (by omega),by rw[show κ + 1+(k-(κ + 1))=k by omega]⟩))
   have d:=(w.b (S.getD k []) (by rw[aa,ae (by rw[w.l];omega)];exact aJ _) i κ).1
   have:pS S k i κ=0:=by
    have:0<=pS S k i κ:=d
    omega
   rw[this,zero_mul]
 ·rw[aH a]
  rfl
def Ih (v:bR):(v.map W.int).map vI=v:=by
 rw[aX];exact List.map_id v
def o5 (v:bR):(v.map W.int).all wd=true:=by
 rw[all_map];exact cy.mpr λ_ _=>rfl
def Mt:Zm S K (zt v)=(decide (v.length=K)&&(decide (v.getD 0 0=1)&&yi S v)):=by
 show(decide ((v.map W.int).length=K)&&((v.map W.int).all wd&&(decide (((v.map W.int).map vI).getD 0 0=1)&&yi S ((v.map W.int).map vI))))=_;rw[ag,Ih,o5,Bool.true_and]
def o6 (w:Wf K S)(h:Zm S K (zt v)=true):v.length=K/\v.getD 0 0=1/\Full K S v:=by
 rw[Mt,ak,ak,ao,ao]at h;exact⟨h.1,h.2.1,(UU w.l h.1).mp h.2.2⟩
def o7 (w:Wf K S)(h:Wt K S z v):Zm S K (zt v)=true:=by
 rw[Mt,az h.l,az h.o,(UU w.l h.l).mpr h.f]
 rfl
def Ge (S:List (bQ))(K:Nat)(r:bR):Bool:=Zm S K (zt r)
abbrev gS (S:List (bQ))(z:bR)(K:Nat):bQ:=(kh S z K (K-1)).filter (Ge S K)
def o8 (w:Wf K S)(H:Zs K z)(e:1<=K)(g:K=1->pS S 0 0 0=1):gS S z K=(yj S z (K-1)).reverse:=by
 unfold gS;rw[XD H _ (by omega),List.filter_reverse]
 congr 1
 refine Mk ((K6 H _ (by omega)).filter _) (K6 H _ (by omega)) λv=>?_
 rw[M6 H w.l e g,mem_filter]
 constructor
 ·rintro⟨n,j⟩
  obtain⟨_,_,_,d⟩:=JC H (K-1) (by omega) v n
  obtain⟨A,a2,a⟩:=o6 w j;exact⟨A,a2,λi c=>d i (by omega),a⟩
 ·intro h
  refine⟨?_,o7 w h⟩
  have:=TQ (p:=gd S K) H (λk b=>oZ w h.f (by omega)) h (K-1) (by omega)
  rwa[a5 (by have:=h.l;omega)]at this
def o9 {K:bQ}(h:K.Pairwise λa b=>yC a b=true):WU K=true:=by
 unfold WU;rw[aZ];intro a H;have H:=cn.mp H;cases a with
 |zero=>rfl|succ a=>
  have e:=UH _ _ (List.pairwise_iff_getElem.mp h a (a+1) (by omega) H (by omega))
  rw[aa,ae H,aa,Nat.add_sub_cancel,ae (by omega)]
  show(_ || !yC K[a+1] K[a])=true;rw[e]
  rfl
theorem Mr:∀{l:bQ},(∀k∈l,k≠[])->QG (l.map zt)=some l
 |[],_=>rfl|x::l,h=>by
  show(match intsOf (x.map W.int) with|some k=>if k=[] then none else(QG (l.map zt)).map (k::·)|none=>none)=_
  rw[K2];dsimp only;rw[aj (h x (aE ..)),Mr λk H=>h k (aw _ H)]
  rfl
def MU (H:v.length<=100)(b:Bg v):gx A (zt v):=.inl ⟨v.map W.int,rfl,by rw[ag];exact H,λx h=>by
 obtain⟨i,_,rfl⟩:=cx.mp h;exact⟨rfl,.int,λ_=>rfl⟩,by rw[Ih];exact b⟩
abbrev KBd:Ex:=zo (zQ 5 (qp zj)) (zo (qO (qu zS) (zG 6) EB) (zo (zQ 3 (qp zj)) (zo (qO (qu jC) (zG 6) RB) zy)))
def pa (d:Dt t K S z)(sh:∀a b,a<t.length->b<t.length->jz t K a b=S.getD (at2 t a b).toNat [])(h1:K=1->pS S 0 0 0=1)(J:(yj S z (K-1)).length<64):∃n B,R3 [zw t] []=.ok (.ref n) B/\B[n]? =some (.lst ((yj S z (K-1)).map zt)):=by
 have w:=d.wf;have p:=d.zs.l;have k1:=d.k1;have k8:=d.k8;have zb:∀i,i<K->0<=z.getD i 0/\z.getD i 0<=8:=λi hi=>by have:=d.zs.le hi;omega
 obtain⟨f,en,_,nB⟩:=Io d.tab d.kd sh [];have L:Qt [zw t] f=.ok (.ref f.length) (f++[.lst (z.map W.int)]):=d.zf f;have kb:Kb S z K f.length (f++[.lst (z.map W.int)]) (f++[.lst (z.map W.int)]):=⟨nB.ext .one,qM,.refl⟩;generalize f.length=p2 at L kb;generalize hD:f++[O.lst (z.map W.int)]=g at L kb;obtain⟨ρ',B,e,p3,x4,x5,x6,x7,x8,x9,x10,rfl,Q,g1,g2⟩:=kj (j:=j5 1 (((z.map W.int).length:Int)-1).toNat) (st:=turn (zG 4) KBd) (N:=K-1)
  (I:=λm ρ B=>∃p3 x4 x5 x6 x7 x8 x9 x10,ρ=fr p2 (zw t) (rO p3) x4 x5 x6 x7 x8 x9 x10/\g.length<=p3/\B[p3]? =some (.lst ((kh S z K m).map zt))/\Kb S z K p2 g B)
  (λm ρ B hm ⟨p3,x4,x5,x6,x7,x8,x9,x10,x,Q,g1,g2⟩=>by
   subst x;have l3:=yf g1;obtain⟨b2,b3,b4⟩:=oY (S:=S) d.zs (k:=m) (by omega)
   obtain⟨C,y6,e1,c5,cq⟩:=oU (T:=zw t) (κ:=m+1) (p3:=p3) (p5:=B.length) (B:=B++[O.lst []]) (rs:=kh S z K m) (x6:=x6) (x7:=x7) (x8:=x8) (x9:=x9) (x10:=x10) p (g2.ext .one) k8 (by omega) (zb _ (by omega)) (λr h=>by rw[b3 r h];omega) b2 (jy g1) qM Q l3
   have ck:Kb S z K p2 g C:=Kq.kb (g2.ext .one) cq (by omega)
   have l5:=yf c5;obtain⟨D,y,y7,y8,y9,Y,M,d3,dq⟩:=oW (T:=zw t) (κ:=m+1) (p3:=C.length) (p5:=B.length) (B:=C++[O.lst []]) (rs:=(kh S z K m).flatMap (yW (z.getD (m+1) 0))) (x6:=y6) (x7:=x7) (x8:=x8) (x9:=x9) (x10:=x10) w p (ck.ext .one) k8 (by omega) (λr h=>b4 r h) b2 qM (jy c5) (by omega) l5
   refine⟨.int (1+(m:Int)),fr p2 (zw t) (rO C.length) (iO (m+1)) (rO B.length) y y7 y8 y9 Y,D,yI (by rw[ag,p];omega),?_,C.length,_,_,_,_,_,_,_,rfl,by omega,d3,Kq.kb (ck.ext .one) dq (by omega)⟩
   rw[show(1:Int)+(m:Int)=((m+1:Nat):Int) by omega]
   exact(yo rfl).trans ((zH ((qH (jV zN)).trans rfl)).trans ((zH e1).trans ((zH ((qH (jV zN)).trans rfl)).trans ((zH M).trans qQ)))))
  (λρ B _=>yH (by rw[ag,p];omega)) (K-1) 0 (fr p2 (zw t) (rO g.length) none none none none none none none) (g++[O.lst [zt [1]]]) (by omega)
  ⟨_,_,_,_,_,_,_,_,rfl,aq _,qM,kb.ext .one⟩
 have U:=XD (S:=S) d.zs (K-1) (by omega)
 have fl:(kh S z K (K-1)).length<=2187:=by rw[U,bz];exact Tz d.zs (by omega)
 have fs:∀r∈kh S z K (K-1),r.length=K/\Bg r:=λr h=>by
  rw[U]at h;obtain⟨s1,s2,_⟩:=JC d.zs (K-1) (by omega) r (List.mem_reverse.mp h)
  exact⟨by omega,UT λv hv=>by have:=s2 v hv;omega⟩
 obtain⟨ρ2,c2,q,Z,x2,rfl,_⟩:=K4 (nl:=1) (cap:=[0]) (mi:=qu zS) (ρ:=fr p2 (zw t) (rO p3) x4 x5 x6 x7 x8 x9 x10) (A:=B) (tw:=zG 0) (ifs:=zC Zw (zc zq (zc zr zj))) (em:=zU zr) (N:=(kh S z K (K-1)).length)
  (I:=λk ρ c C=>Ext B C/\c=(((kh S z K (K-1)).take k).filter (Ge S K)).map zt/\∃P,ρ=[P,some (zw t)]) (ZD (zp rfl) g1) (by rw[ag])
  (λk ρ c C H ⟨x1,M,P,e3⟩=>by
   subst M e3;obtain⟨r1,r2⟩:=fs _ (aJ H);obtain⟨C2,ea,xa⟩:=Hc (A:=C) w d.tab d.kd sh (MU (v:=(kh S z K (K-1))[k]) (by omega) r2)
   have E:zC Zw (zc zq (zc zr zj)) [some (zt (kh S z K (K-1))[k]),some (zw t)] C=.ok (.bl (Ge S K (kh S z K (K-1))[k])) C2:=(qd (zD (ma:=zq) (zp rfl) (zD (ma:=zr) (zp rfl) zN))).trans ea;refine⟨zt (kh S z K (K-1))[k],[some (zt (kh S z K (K-1))[k]),some (zw t)],(yT (x1.at g1)).trans (by rw[ar,ae H];rfl),rfl,?_⟩
   have X:=x1.trans xa;cases hf:Ge S K (kh S z K (K-1))[k] with
   |true=>
    rw[hf]at E;refine .inl ⟨_,_,_,_,E,Wa (zp rfl) ?_,X,?_,_,rfl⟩
    ·rw[ag]
     have:=length_filter_le (Ge S K) ((kh S z K (K-1)).take k)
     rw[bb]at this;unfold qj;omega
    ·rw[take_succ H,filter_append,aN,List.filter_cons_of_pos hf,filter_nil];rfl
   |false=>
    rw[hf]at E;refine .inr ⟨_,E,X,?_,_,rfl⟩;rw[take_succ H,filter_append,List.filter_cons_of_neg (by rw[hf];decide),filter_nil,a3])
  (λρ c C ⟨x1,_⟩=>(yT (x1.at g1)).trans (by rw[aD (by rw[ag];exact aq _)]))
  ⟨.refl,by rw[take_zero];rfl,_,rfl⟩
 rw[a5 (aq _)]at Z;have e7:=km Z;have u:=o8 w d.zs k1 h1;have tk:QG ((gS S z K).map zt)=some (gS S z K):=Mr λk H e=>by
  have:=(fs k (List.mem_filter.mp H).1).1
  rw[e]at this;simp at this;omega
 have e6:Xq (.ref q.length) (q++[O.lst ((gS S z K).map zt)])=.ok (.ref (q++[O.lst ((gS S z K).map zt)]).length) (q++[O.lst ((gS S z K).map zt)]++[O.lst ((gS S z K).map zt)]):=by
  unfold Xq;dsimp only;rw[qM];dsimp only;rw[tk];dsimp only;rw[ah ⟨by rw[u,bz];exact J,o9 (by rw[u,List.pairwise_reverse];exact K6 d.zs _ (by omega))⟩]
 generalize hB3:q++[O.lst ((gS S z K).map zt)]=o at e6 e7;have e5:XW (Xu (qW (qc 1 [0] (qu zS) (zG 0) (zC Zw (zc zq (zc zr zj))) (zU zr)))) (yR gO qh) (fr p2 (zw t) (rO p3) x4 x5 x6 x7 x8 x9 x10) B=.ok (.ref (o++[O.lst ((gS S z K).map zt)]).length) (o++[O.lst ((gS S z K).map zt)]++[.lst ((yj S z (K-1)).map zt)]):=by
  unfold XW Xu;rw[e7,zP,e6,zP];show(match (o++[O.lst ((gS S z K).map zt)])[o.length]? with|some (.lst ws)=>_|_=>_)=_
  rw[qM];show R.ok _ (_++[O.lst ((gS S z K).map zt).reverse])=_;rw[u,List.map_reverse,List.reverse_reverse]
 refine⟨(o++[O.lst ((gS S z K).map zt)]).length,o++[O.lst ((gS S z K).map zt)]++[.lst ((yj S z (K-1)).map zt)],ja ?_,qM⟩;unfold R1;refine(zH (TC (wk (zD ((qd (zD (zp rfl) zN)).trans en) (zD ((qd (zD (zp rfl) zN)).trans L) zN))) rfl)).trans ?_;refine(zH (ρ1:=fr p2 (zw t) (rO g.length) none none none none none none none) (A1:=g++[O.lst [zt [1]]]) ((qH (jV (zD (wk (zD qe zN)) zN))).trans rfl)).trans ?_;refine(zH ((j3 (To (i:=1) (j:=((z.map W.int).length:Int)) qe (Ja rfl (jy kb.z_)) (by decide) (JB (by rw[ag];omega) (by rw[ag];omega)))).trans ?_)).trans (qx (qT e5))
 rw[show(j5 1 (((z.map W.int).length:Int)-1).toNat).len=K-1 by show(((z.map W.int).length:Int)-1).toNat=_;rw[ag,p];omega]
 exact e
def pd (d:Dt t K S z)(sh:∀a b,a<t.length->b<t.length->jz t K a b=S.getD (at2 t a b).toNat [])(H:K=1->pS S 0 0 0=1)(h:(yj S z (K-1)).length<64)(A:Hx):Ju [zw t] A=.ok (.ref A.length) (A++[.lst ((yj S z (K-1)).map zt)]):=by
 obtain⟨n,B,E,e⟩:=pa d sh H h;exact Wg (gq t) E e (Z6 YI _)
end
def two_N {j:Nat}(h:j0 (.ref j) A=some .lst):Yf A (.tup [.tup [.int 0,.int 1],.ref j]):=λB k=>by
 unfold wW GP;refine ja ?_;unfold GK;have H:=k _ _ h;have e:g8 [.ref j,.int 2] B=.ok (.bl false) B:=by
  unfold g8 K1;refine ja ?_;unfold KZ;exact qx (qT (Jj ((QK (zp rfl) H).trans rfl)))
 have b:Qp [.ref j,.int 2,.int 2] B=.ok (.bl false) B:=by
  unfold Qp VM;refine ja ?_;unfold VO;exact qx (qT (Jj ((qd (ws:=[.ref j,.int 2]) (A1:=B) rfl).trans e)))
 have a:Qp [.tup [.int 0,.int 1],.int 2,.int 2] B=.ok (.bl true) B:=by kernel_rfl
 have E:=YF (cap:=[1]) (A:=B) (ρ:=[some (.tup [.tup [.int 0,.int 1],.ref j]),iV 2]) (ws:=[.tup [.int 0,.int 1],.ref j]) (me:=zC Qp (zc zr (zc zq (zc zq zj)))) (g:=λw=>match w with|.tup _=>.bl true|_=>.bl false) (zp (i:=0) rfl) (by simp[qj]) (λw c=>by
  rcases cu.mp c with rfl|c
  ·exact(qd (A1:=B) rfl).trans a
  ·rw[cz.mp c]
   exact(qd (ws:=[.ref j,.int 2,.int 2]) (A1:=B) rfl).trans b)
 refine(zH (ρ1:=[some (.tup [.tup [.int 0,.int 1],.ref j]),none]) (A1:=B) rfl).trans ((zH (ρ1:=[some (.tup [.tup [.int 0,.int 1],.ref j]),iV 2]) (A1:=B) rfl).trans ?_);exact qx ((ko (kQ (k:=false) ((jX E).trans rfl))).trans (qx (qT qe)))
def pe (s:jj n A):∃w B,Yj [.ref n] A=.ok w B/\Yf B w/\Kn n A B:=by
 unfold Yj Pm;unfold Pe;have E:∀h,ET (λB w=>wW [w] B=.ok (.bl false) B) A (qp (zc (qa (zc zZ (zc qh zj))) (zc (qa (zc qh (zc zZ zj))) zj))) h:=λh A _=>⟨_,_,jV (zD (wk (zD qe (zD qe zN))) (zD (wk (zD qe (zD qe zN))) zN)),Ext.one,IT T4 (by decide)⟩
 have e:∀h,ET (λB w=>wW [w] B=.ok (.bl false) B) A (qa (zc (qa (zc zZ (zc qh zj))) (zc (qp (zc qh (zc zZ zj))) zj))) h:=λh A _=>⟨_,_,wk (zD (wk (zD qe (zD qe zN))) (zD (jV (zD qe (zD qe zN))) zN)),Ext.one,two_N T4⟩;obtain⟨a,g,d,T⟩:=LV (k:=8) (ρ:=[rO n,none]) (yg (Za (m:=ZS) (λ_=>rfl)) (yg (Za (m:=zZ) (λ_=>rfl)) (yg (Za (m:=qa zj) (w:=.tup []) (λ_=>rfl)) (yg (Za (m:=qa (zc (qa (zc qh zj)) zj)) (w:=.tup [.tup [.int 1]]) (λ_=>rfl)) (yg (Za (m:=qa (zc (qa (zc zZ (zc qh zj))) (zc (qa (zc qh (zc zZ zj))) (zc (qa (zc zZ (zc zZ zj))) zj)))) (w:=.tup [.tup [.int 0,.int 1],.tup [.int 1,.int 0],.tup [.int 0,.int 0]]) (λ_=>rfl))
  (yg (Za (m:=qa (zc (qa (zc zZ (zc j7 zj))) (zc (qa (zc j7 (zc zZ zj))) zj))) (w:=.tup [.tup [.int 0,.int 2],.tup [.int 2,.int 0]]) (λ_=>rfl)) (yg (Za (m:=qa (zc (qa (zc zZ (zc qh zj))) (zc (qa (zc j7 (zc zZ zj))) zj))) (w:=.tup [.tup [.int 0,.int 1],.tup [.int 2,.int 0]]) (λ_=>rfl)) (yg (E _) YR))))))))
 obtain⟨r,f,c,t⟩:=Xr (k:=7) (i:=1) (ρ:=[rO n,rO a]) T (yg (Za (m:=qa (zc (qa (zc zZ (zc zZ zj))) (zc (qa (zc zZ (zc zZ zj))) zj))) (w:=.tup [.tup [.int 0,.int 0],.tup [.int 0,.int 0]]) (λ_=>rfl)) (yg (Za (m:=qa (zc (qa (zc zZ (zc ql zj))) (zc (qa (zc ql (zc zZ zj))) zj))) (w:=.tup [.tup [.int 0,.bl true],.tup [.bl true,.int 0]]) (λ_=>rfl)) (yg (e _)
  (yg (Za (m:=qa (zc (qa (zc zZ (zc qh zj))) zj)) (w:=.tup [.tup [.int 0,.int 1]]) (λ_=>rfl)) (yg (Za (m:=zV (.str "01/10")) (λ_=>rfl)) (yg mv (yg (Za (m:=zi QI (qa (zc (zi QI (qa (zc zZ zj)) Vu) zj)) Vu) (w:=.tup (List.replicate 9 (.tup (List.replicate 9 (.int 0))))) (λ_=>rfl)) YR))))))) rfl (by omega)
 obtain⟨w,C,b,H,kn⟩:=M8 (me:=zq) (ρ:=[rO n,rO r]) (mm:=zV (.int 15)) (m:=15) s t (zp rfl) rfl (λ_=>rfl) rfl (by decide) (by decide)
 refine⟨w,C,ja ?_,H,kn⟩;exact(zH ((qH d).trans rfl)).trans ((zH ((qH c).trans rfl)).trans (qx (qT b)))
noncomputable def J8 (m a b:Nat):bQ:=(List.range m).map λi=>(List.range m).map λj=>if i=j then 0 else if (i=a/\j=b)∨(i=b/\j=a) then 2 else 1
noncomputable def gi:List (Nat×Nat×Nat):=[4,5,6,7,8].flatMap λm=>(List.range m).flatMap λa=>(List.range (m-1)).map λx=>(m,a,x)
noncomputable abbrev Zn (q:Nat×Nat×Nat):Nat:=(q.2.1+1+q.2.2)%q.1
def RI:R W->Bool
 |.ok (.tup ws) _=>jk ws|_=>false
def pf {f:Fn}{u:List W}(H:jk u=true)(h:RI (f u [])=true):∃ws,∀A,iso f u A=.ok (.tup ws) A:=by
 unfold RI at h
 split at h
 ·rename_i ws B e
  exact⟨ws,λA=>Qz H h e⟩
 ·cases h
def Zq (q:Nat×Nat×Nat):Bool:=Vd (J8 q.1 q.2.1 (Zn q))&&RI (Py [zw (J8 q.1 q.2.1 (Zn q))] [])
def ph:((dq 16 0 gi).take 16).all Zq=true:=by decide +kernel
def pj:((dq 16 1 gi).take 16).all Zq=true:=by decide +kernel
def pk:((dq 16 2 gi).take 16).all Zq=true:=by decide +kernel
def pq:((dq 16 3 gi).take 16).all Zq=true:=by decide +kernel
def pv:((dq 16 4 gi).take 16).all Zq=true:=by decide +kernel
def pw:((dq 16 5 gi).take 16).all Zq=true:=by decide +kernel
def px:((dq 16 6 gi).take 16).all Zq=true:=by decide +kernel
def pz:((dq 16 7 gi).take 16).all Zq=true:=by decide +kernel
def pA:((dq 16 8 gi).take 16).all Zq=true:=by decide +kernel
def pB:((dq 16 9 gi).take 16).all Zq=true:=by decide +kernel
def pC:gi.all Zq=true:=wI (n:=16) (k:=0) ph (wI pj (wI pk (wI pq (wI pv (wI pw (wI px (wI pz (wI pA (wI pB rfl)))))))))
def RP:Ex:=zo (gJ ku j7 (zi zB zL zS) zW) (zo (gJ ku j7 (zi zB zL zW) zS) (zo (qI (mQ jt (qc 1 [] (qu zL) (zG 0) ql (zU (mQ jt (zJ zr)))))) zy))
def Ql (m:Nat)(o:O):Hx:=[o]++((gY m).map λr=>O.lst (r.map W.int))++[O.lst ((List.range (gY m).length).map λi=>W.ref ([o].length+i))]
noncomputable def RH (a:W):R Fl->Option O
 |.ok (.rt w) (o::_)=>if w.beq a then some o else none|_=>none
def pD (o:O):gi.map (λq=>RH (zw (J8 q.1 q.2.1 (Zn q))) (RP [rO 0,iV q.1,rO (q.1+1),iV q.2.1,iV (Zn q:Int)] (Ql q.1 o)))=List.replicate 160 (some o):=by kernel_rfl
def pE:(([4,5,6,7,8]:bV).all λ(m:Nat)=>Vq (Um [.int m] []) (gY m))=true:=by kernel_rfl
def U2 (m:Nat):(gY m).length=m:=G1
def pF {q:Nat×Nat×Nat}(a:q∈gi)(o:O):∃l,RP [rO 0,iV q.1,rO (q.1+1),iV q.2.1,iV (Zn q:Int)] (Ql q.1 o)=.ok (.rt (zw (J8 q.1 q.2.1 (Zn q)))) (o::l):=by
 have h:=List.mem_map_of_mem (f:=λq=>RH (zw (J8 q.1 q.2.1 (Zn q))) (RP [rO 0,iV q.1,rO (q.1+1),iV q.2.1,iV (Zn q:Int)] (Ql q.1 o))) a;rw[pD o]at h;have e:=List.eq_of_mem_replicate h;unfold RH at e
 split at e
 ·rename_i w c l b
  by_cases H:w.beq (zw (J8 q.1 q.2.1 (Zn q)))=true
  ·rw[ah H]at e
   cases e;rw[W.eq_of H]at b;exact⟨l,b⟩
  ·rw[aj H]at e;cases e
 ·cases e
section
def pG (s:jj n A):∃t o,KQ [.ref n] A=.ok (zw t) (A.set n o)/\jj n (A.set n o)/\qz t/\∃ws,∀B,KH [zw t] B=.ok (.tup ws) B:=by
 obtain⟨x,b,D,L,P⟩:=s;have hm:=yf D;obtain⟨r,u,e1,J,rl,s1⟩:=Qy (n:=0) (A:=[.lst [.int x,.bl b]]) ⟨x,b,rfl,L,P⟩ (m:=5) (by decide) (by decide)
 obtain⟨d,rfl⟩:=aS J;have hd:d<5:=by omega
 have M:4+d∈[4,5,6,7,8]:=by
  have c:d=0∨d=1∨d=2∨d=3∨d=4:=by omega
  rcases c with rfl|rfl|rfl|rfl|rfl<;>decide
 generalize H:4+d=m at M;have X:∀B,ZZ [.int m] B=.ok (zw (gY m)) B:=λB=>JE rfl (cy.mp pE m M) B;have s2:jj 0 (Ql m u):=by obtain⟨y,z,p,q⟩:=s1;exact⟨y,z,p,q⟩
 obtain⟨r2,v,Z,j,I,s3⟩:=Qy s2 (m:=(m:Int)) (by omega) (by omega)
 obtain⟨a,rfl⟩:=aS j;have g:jj 0 (Ql m v):=s3;obtain⟨r3,e,Y,h,E,s4⟩:=Qy g (m:=(m:Int)-1) (by omega) (by omega)
 obtain⟨y,rfl⟩:=aS h;have S:jj 0 (Ql m e):=s4;have w:(m,a,y)∈gi:=List.mem_flatMap.mpr ⟨m,M,List.mem_flatMap.mpr ⟨a,cn.mpr (by omega),cx.mpr ⟨y,cn.mpr (by omega),rfl⟩⟩⟩
 obtain⟨l,U⟩:=pF w e;have ht:=cy.mp pC _ w;unfold Zq at ht;rw[ak]at ht;obtain⟨h1,T⟩:=ht;have hT:=U3 h1;obtain⟨C,f,p,q,K⟩:=S;have Q:e=.lst [.int C,.bl f]:=by
  have:some e=some (O.lst [.int C,.bl f]):=p
  injection this
 refine⟨J8 m a (Zn (m,a,y)),.lst [.int C,.bl f],?_,⟨C,f,ay hm,q,K⟩,hT,?_⟩
 ·refine Wj (us:=[]) (A1:=e::l) D rfl ?_ (by rw[Q];rfl) (Qw _)
  refine ja ?_;unfold PV;refine(zH (ρ1:=[rO 0,iO m,none,none,none]) (A1:=[u]) ((qH ((zM qe ((qd (zD (zp rfl) (zD qe zN))).trans e1)).trans rfl)).trans ?_)).trans ?_
  ·rw[<- H]
   rfl
  refine(zH (ρ1:=[rO 0,iO m,rO (m+1),none,none]) (A1:=Ql m u) ((qH (C5 (t:=gY m) (by rw[U2];omega) (λr N=>?_) ((qd (zD (zp rfl) zN)).trans (X _)))).trans ?_)).trans ?_
  ·obtain⟨i,_,rfl⟩:=cx.mp N
   rw[U2];simp
  ·unfold Ql
   rw[U2,add_comm]
   rfl
  refine(zH (ρ1:=[rO 0,iO m,rO (m+1),iO a,none]) (A1:=Ql m v) ((qH ((qd (zD (zp rfl) (zD (zp rfl) zN))).trans Z)).trans rfl)).trans ?_;refine(zH (ρ1:=[rO 0,iO m,rO (m+1),iO a,iV (Zn (m,a,y):Int)]) (A1:=Ql m e) ((qH ((zM ((zM ((zM (zp rfl) qe).trans rfl) ((qd (zD (zp rfl) (zD ((zM (zp rfl) qe).trans rfl) zN))).trans Y)).trans rfl) (zp rfl)).trans (JM (by omega)))).trans ?_)).trans ?_
  ·unfold Zn
   rw[Int.natCast_emod]
   rfl
  exact U
 ·exact pf (gq _) T
variable {f:Fn}{us:List W}
def BM (v:Int)(A:Hx):qF 2 (Z0 f) [.int v,.int v] A=.ok (.bl true) A:=by
 refine ja ?_;unfold Z0;refine(zH (ρ1:=[iV v,iV v]) (A1:=A) ((yb (A1:=A) rfl).trans rfl)).trans (qx (qT ?_));exact(Z8 (A1:=A) ((zM (zp (i:=0) rfl) (zp (i:=1) rfl)).trans ((wz _ _ _).trans (by rw[az rfl])))).trans rfl
def NB {x y:W}{ty:Ty}(H:zY x A=some ws)(h:zY y A=some ws)(T:j0 x A=some ty)(t:j0 y A=some ty)(r:ty=.tup∨ty=.lst)(l:ws.length<=1000)(q:∀w∈ws,f [w,w] A=.ok (.bl true) A):qF 2 (Z0 f) [x,y] A=.ok (.bl true) A:=by
 refine ja ?_;unfold Z0;have d:mQ zT (zJ (qg 0)) [some x,some y] A=.ok (.int ws.length) A:=jX (yA (w:=x) (A1:=A) (zp rfl) H);have E:mQ zT (zJ (qg 1)) [some x,some y] A=.ok (.int ws.length) A:=jX (yA (w:=y) (A1:=A) (zp rfl) h);have I:Vj .tup .lst (qg 1) [some x,some y] A=.ok (.bl true) A:=by
  unfold Vj;rw[zp (w:=y) rfl,zP,t];rcases r with rfl|rfl<;>rfl
 have o:∀c,zi jw (kf c (qg 0)) (kf c (qg 1)) [some x,some y] A=.ok (.bl false) A:=λc=>(zM (QK (w:=x) (zp rfl) T) (QK (w:=y) (zp rfl) t)).trans ((HJ _ _ _).trans (by rw[bx];rfl))
 refine qx ((ko (A1:=A) I).trans ?_);refine(zH (ρ1:=[some x,some y]) (A1:=A) ((yb (A1:=A) ((WM (A1:=A) (o .tup)).trans (o .lst))).trans qQ)).trans ?_;refine(zH (ρ1:=[some x,some y]) (A1:=A) ((yb (A1:=A) ((zM d E).trans ((Ks _ _ _).trans (by rw[az rfl];rfl)))).trans qQ)).trans (qx (qT ?_))
 have b:Zi (qg 0) (qg 1) [some x,some y] A=.ok (Qg x y ws.length) A:=by
  unfold Zi;rw[zp (w:=x) rfl,zP,zp (w:=y) rfl,zP,H,h]
 have j:=OY (A:=A) (cap:=[]) (ρ:=[some x,some y]) (me:=zC f (zc (qg 0) (zc (qg 1) zj))) (N:=ws.length) (u:=λi=>ws.getD i .non) (v:=λi=>ws.getD i .non) (g:=λ_=>.bl true) b rfl l
  (λi a=>by
   show(match zY x A,zY y A with|some U,some n=>some (zip2 U[i]? n[i]?)|_,_=>none)=_
   rw[H,h];show some (zip2 ws[i]? ws[i]?)=_;rw[aa,ae a];rfl)
  (by
   show(match zY x A,zY y A with|some U,some n=>some (zip2 U[ws.length]? n[ws.length]?)|_,_=>none)=_
   rw[H,h];show some (zip2 ws[ws.length]? ws[ws.length]?)=_;rw[aD (aq _)];rfl)
  (λi a=>by
   have e:ws.getD i .non=ws[i]:=by rw[aa,ae a];rfl
   rw[e];exact(qd (ws:=[ws[i],ws[i]]) (A1:=A) rfl).trans (q _ (aJ a)))
 exact(jX j).trans (Wm (p:=λ_=>true) λ_ _=>rfl)
def LH (b:Bool)(A:Hx):wG [.bl b,.bl b] A=.ok (.bl true) A:=by
 refine ja ?_;unfold Z0;refine(zH (ρ1:=[some (.bl b),some (.bl b)]) (A1:=A) ((yb (A1:=A) rfl).trans rfl)).trans (qx (qT ?_));cases b<;>rfl
def B5 {p q:Nat}{l:bQ}(b:A[p]? =some (.lst (l.map zt)))(a:A[q]? =some (.lst (l.map zt)))(h:l.length<=100)(c:∀r∈l,r.length<=100):wG [.ref p,.ref q] A=.ok (.bl true) A:=
 NB (ws:=l.map zt) (ty:=.lst) (by unfold zY;dsimp only;rw[b]) (by unfold zY;dsimp only;rw[a]) (by unfold j0;dsimp only;rw[b]) (by unfold j0;dsimp only;rw[a]) (.inr rfl) (by simp;omega) λw d=>by
  obtain⟨r,H,rfl⟩:=cx.mp d;exact NB (ws:=r.map W.int) (ty:=.tup) rfl rfl rfl rfl (.inl rfl) (by have:=c r H;simp;omega) λw d=>by
   obtain⟨v,_,rfl⟩:=cx.mp d;exact BM v A
end
section
variable {w:W}{Pu:Addr}
def pH (h:wU [w] A=.exc x A1):g7 [w] A=.exc x A1:=by
 refine YG ?_;unfold Ub;exact Q7 (Xf ((qd (zD (zp rfl) zN)).trans h))
def pI (h:wU [w] A=.exc x A1):gZ [w] A=.exc x A1:=by
 refine YG ?_;unfold VR;exact Q7 (Xf ((qd (zD (zp rfl) zN)).trans h))
def pJ {y:W}(h:wU [w] A=.exc x A1):gz [w,y] A=.exc x A1:=by
 refine YG ?_;unfold Ue;exact Q7 (Xf ((qd (zD (zp rfl) zN)).trans h))
abbrev Qo:List W:=[.fn "all_weights",.fn "is_whole_table",.clo 0 [] kY]
abbrev T0:Lm:=Wd g7 gz gZ
abbrev T1:Lm:=We g7 gz gZ
abbrev cA:Ev:=YS 0 [("all_weights",g7),("is_whole_table",gZ)] kY (Qe gz) (zc zq zj)
def pK {c:W}(h:c∈Qo)(H:wU [w] A=.exc x A1):cA [some c,some w] A=.exc x A1:=by
 rcases cu.mp h with rfl|h
 ·exact(qd (f:=g7) (ρ:=[some (.fn "all_weights"),some w]) (zD (zp (i:=1) rfl) zN)).trans (pH H)
 rcases cu.mp h with rfl|h
 ·exact(qd (f:=gZ) (ρ:=[some (.fn "is_whole_table"),some w]) (zD (zp (i:=1) rfl) zN)).trans (pI H)
 ·rw[cz.mp h]
  refine Eq.trans (b:=zC (Qe gz) (zc zq zj) [some (.clo 0 [] kY),some w] A) (by unfold cA YS;exact ah rfl) ?_
  refine(qd (f:=Qe gz) (ρ:=[some (.clo 0 [] kY),some w]) (zD (zp (i:=1) rfl) zN)).trans ?_;exact(qd (f:=gz) (ρ:=[some w]) (zD (zp (i:=0) rfl) (zD qe zN))).trans (pJ H)
abbrev G3 (A:Hx)(g:Nat):Hx:=A++GX g++GX g++GX g
def YW (A:Hx)(g:Nat):(A++GX g).length=A.length+12:=by rw[av];rfl
def pL {t:Lm}{r g:Nat}(o:t.idx=[0,1])(T:t.m=cA)(f:A[2]? =some (.tab wg Pu))(h:A[r]? =some (.lst Qo))(q:ρ[1]? =some (rO r))(a:ρ[i]? =some (some w))(H:∀B,Ext A B->wU [w] B=.exc x B)(b:gI x=some g):
  qW (qc 1 [i] (qu zq) (zG 0) ql (zU (ZL 2 wg Pu t.idx (RG t 0)))) ρ A=.ok (.ref (G3 A g).length) (G3 A g++[.lst [.ref (A.length+11),.ref (A.length+23),.ref (A.length+35)]]):=by
 refine km ?_;unfold qc;rw[my (zp q) h,zP];have e:∀c∈Qo,∀B,Ext A B->ZL 2 wg Pu t.idx (RG t 0) [some c,some w] B=.ok (.ref (B.length+11)) (B++GX g):=λc d B x=>og (x.at f) (ws:=[c,w]) (by rw[o];rfl) (by rw[T];exact pK d (H B x)) b
 have p:QH 1 [i] ρ=[none,some w]:=by
  unfold QH;rw[List.map_singleton,a]
  rfl
 rw[p];have j:Ext A (A++GX g):=⟨_,rfl⟩;have X:Ext A (A++GX g++GX g):=j.trans ⟨_,rfl⟩;have n:Ext A (G3 A g):=X.trans ⟨_,rfl⟩;have go:jq ⟨λA i=>(zY (.ref r) A).map λl=>l[i]?,3⟩ (zG 0) ql (zU (ZL 2 wg Pu t.idx (RG t 0))) 3 0 [none,some w] [] A=.ok ([some (.clo 0 [] kY),some w],[.ref (A.length+11),.ref ((A++GX g).length+11),.ref ((A++GX g++GX g).length+11)]) (G3 A g):=by
  refine(UD (w:=.fn "all_weights") ((XS h).trans rfl) (e _ (by simp) _ .refl) (by simp[qj])).trans ?_
  refine(UD (w:=.fn "is_whole_table") ((XS (j.at h)).trans rfl) (e _ (by simp) _ j) (by simp[qj])).trans ?_
  refine(UD (w:=.clo 0 [] kY) ((XS (X.at h)).trans rfl) (e _ (by simp) _ X) (by simp[qj])).trans (Ai ?_)
  exact(XS (n.at h)).trans rfl
 rw[YW,YW,YW]at go;show R.bind (R.nox (jq ⟨λA i=>(zY (.ref r) A).map λl=>l[i]?,3⟩ (zG 0) ql (zU (ZL 2 wg Pu t.idx (RG t 0))) 3 0 [none,some w] [] A)) _=_;rw[go]
 rfl
noncomputable abbrev d3 (g:Nat):PyData:=.list [.list [.int g],.list [.int g],.list [.int g]]
def Ik {a b:W}{d:PyData}(c:qP A 8 a=some d)(H:qP A 8 b=some d)(h:PyData.eqv d d=true):qX a b A=.ok (.bl true) A:=by
 show gh false a b A=_;unfold gh;rw[c,H];dsimp only;rw[h]
 rfl
def pM {g r:Nat}(h:A[r]? =some (.lst Qo))(H:ρ[1]? =some (rO r)):zi qG (qp (zc (qp (zc (zV (.int g)) zj)) zj)) (mQ zT (zJ zq)) ρ A=.ok (.ref (A.length+2)) (A++[.lst [.int g]]++[.lst [.ref A.length]]++[.lst [.ref A.length,.ref A.length,.ref A.length]]):=by
 have E:=jV (zD (jV (zD (qe (w:=.int g) (ρ:=ρ) (A:=A)) zN)) zN);have e:=Ja (i:=1) H (Ext.at (A':=A++[O.lst [.int g]]++[O.lst [.ref A.length]]) ⟨_,aP ..⟩ h);refine(zM E e).trans ?_;unfold qG;dsimp only;rw[qM];dsimp only;rw[ah (by show(jH 3&&decide (1 * 3<=qj))=true;decide)]
 simp
def LJ {t:Lm}{r g:Nat}(I:t.idx=[0,1])(T:t.m=cA)(o:A[2]? =some (.tab wg Pu))(e:A[r]? =some (.lst Qo))(D:ρ[1]? =some (rO r))(l:ρ[i]? =some (some w))(j:∀B,Ext A B->wU [w] B=.exc x B)(n:gI x=some g):
  ∃a b C,Ext A C/\qP C 8 a=some (d3 g)/\qP C 8 b=some (d3 g)/\∀f,zi f (qW (qc 1 [i] (qu zq) (zG 0) ql (zU (ZL 2 wg Pu t.idx (RG t 0))))) (zi qG (qp (zc (qp (zc (zV (.int g)) zj)) zj)) (mQ zT (zJ zq))) ρ A=f a b C:=by
 have E:=pL I T o e D l j n;have Y:Ext (A++GX g) (A++GX g++GX g):=⟨_,rfl⟩;have y:Ext (A++GX g++GX g) (G3 A g):=⟨_,rfl⟩;have c:Ext A (G3 A g++[O.lst [.ref (A.length+11),.ref (A.length+23),.ref (A.length+35)]]):=((Ext.trans ⟨_,rfl⟩ Y).trans y).app;have P:(G3 A g++[O.lst [.ref (A.length+11),.ref (A.length+23),.ref (A.length+35)]])[A.length+11]? =some (.lst [.int g]):=jy ((Y.trans y).at (Sr A g));have p:(G3 A g++[O.lst [.ref (A.length+11),.ref (A.length+23),.ref (A.length+35)]])[A.length+23]? =some (.lst [.int g]):=jy (y.at (by have:=Sr (A++GX g) g;rwa[YW]at this))
 have v:(G3 A g++[O.lst [.ref (A.length+11),.ref (A.length+23),.ref (A.length+35)]])[A.length+35]? =some (.lst [.int g]):=jy (by have:=Sr (A++GX g++GX g) g;rwa[YW,YW]at this)
 have h:(G3 A g++[O.lst [.ref (A.length+11),.ref (A.length+23),.ref (A.length+35)]])[(G3 A g).length]? =some (.lst [.ref (A.length+11),.ref (A.length+23),.ref (A.length+35)]):=qM;generalize u:G3 A g++[O.lst [.ref (A.length+11),.ref (A.length+23),.ref (A.length+35)]]=B at E c P p v h;have q:=pM (g:=g) (ρ:=ρ) (c.at e) D;have X:Ext B (B++[O.lst [.int g]]++[O.lst [.ref B.length]]++[O.lst [.ref B.length,.ref B.length,.ref B.length]]):=Ext.one.app.app;have d:(B++[O.lst [.int g]]++[O.lst [.ref B.length]]++[O.lst [.ref B.length,.ref B.length,.ref B.length]])[B.length]? =some (.lst [.int g]):=jy (jy qM);have H:(B++[O.lst [.int g]]++[O.lst [.ref B.length]]++[O.lst [.ref B.length,.ref B.length,.ref B.length]])[B.length+2]? =some (.lst [.ref B.length,.ref B.length,.ref B.length]):=by
  rw[show B.length+2=(B++[O.lst [.int g]]++[O.lst [.ref B.length]]).length by simp]
  exact qM
 refine⟨_,_,_,c.trans X,?_,?_,λf=>zM E q⟩
 ·exact US (k:=7) (X.at h) (JD (YK (X.at P)) (JD (YK (X.at p)) (JD (YK (X.at v)) rfl)))
 ·exact US (k:=7) H (JD (YK d) (JD (YK d) (JD (YK d) rfl)))
def Va (P:Addr):Fn:=qF 4 (VG Yj KQ g7 gz gZ RG P)
def pN {r:Nat}(s:jj n A)(H:A[2]? =some (.tab wg Pu))(N:2<n)(h:A[r]? =some (.lst Qo))(nr:r≠n):∃B,Va Pu [.ref n,.ref r] A=.ok (.bl true) B/\Kn n A B:=by
 obtain⟨w,c,v,Z,Q⟩:=pe s;obtain⟨t,o,e,S,Y,ws,j⟩:=pG Q.st;have P:Kn n c (c.set n o):=⟨Kp.set,S⟩;have U:Yf (c.set n o) w:=Z.mono (P.ky Q.st);have K:=Q.trans P;generalize l:c.set n o=f at e S P U K;have T:f[2]? =some (.tab wg Pu):=by rw[K.kp.at_ 2 (yf H) (by omega)];exact H
 have d:f[r]? =some (.lst Qo):=by rw[K.kp.at_ r (yf h) nr];exact h
 obtain⟨a,b,C,X,c1,J,p⟩:=LJ (t:=T0) (i:=2) (ρ:=[rO n,rO r,some w,some (zw t)]) rfl rfl T d rfl rfl (λB x=>mV (U.mono x.ky)) DG;have u:=(p jw).trans (mz c1 J (by decide +kernel))
 obtain⟨M,L,D,g,I,y,E⟩:=LJ (t:=T1) (i:=3) (ρ:=[rO n,rO r,some w,some (zw t)]) rfl rfl (X.at T) (X.at d) rfl rfl (λB x=>mW Y (j B)) F6;have q:=(E qX).trans (Ik I y (by decide +kernel))
 refine⟨D,ja ?_,K.trans (Kn.ext S (X.trans g))⟩;unfold VG;exact(zH (TC (wk (zD ((qd (zD (zp rfl) zN)).trans v) (zD ((qd (zD (zp rfl) zN)).trans e) zN))) rfl)).trans ((zH ((yb u).trans qQ)).trans (qx (qT q)))
end
section
variable {S:List (bQ)}{z v:bR}{K:Nat}{C:Hx}{a:W}
def gx.ky (k:Ky A B)(h:gx A a):gx B a:=by
 rcases h with h|⟨ty,e,hn⟩
 ·exact .inl h
 ·exact .inr ⟨ty,k _ _ e,hn⟩
def pO (d:Dt t K S z)(h:gx A a):∃C,Gk [zw t,a] A=.ok (.bl (Zm S K a)) C/\Ext A C:=by
 have y:=d.k1;have u:=d.k8;have j:zC Zy (zc zr zj) [some (zw t),some a] A=.ok (.int K) A:=(qd (zD (zp rfl) zN)).trans ((YL d.tab _).trans (by rw[d.kd]))
 rcases h with ⟨w,rfl,o,H,i⟩|⟨ty,H,hn⟩
 ·have E:jR (zC g8 (zc zq (zc (zC Zy (zc zr zj)) zj))) [some (zw t),some (.tup w)] A=.ok (.bl (!(decide (w.length=K)&&w.all wd))) A:=
   kQ ((qd (zD (zp rfl) (zD j zN))).trans (nt o λx l=>let ⟨_,ty,e⟩:=H x l;⟨ty,e A⟩))
  have c:Zm S K (.tup w)=((decide (w.length=K)&&w.all wd)&&(decide ((w.map vI).getD 0 0=1)&&yi S (w.map vI))):=(Bool.and_assoc ..).symm;cases f:(decide (w.length=K)&&w.all wd) with
  |false=>
   rw[f]at E c;refine⟨A,ja ?_,.refl⟩;unfold Gn;rw[c];exact qx ((ko E).trans (qx (qT qe)))
  |true=>
   rw[f]at E c;rw[ak,ao]at f;have r:W.tup w=zt (w.map vI):=by unfold zt;rw[SX f.2]
   have n:(w.map vI).length=K:=by rw[ag];exact f.1
   rw[r]at E c ⊢;generalize w.map vI=v at n i c E;have g:zi qX (zi zB zq zZ) qh [some (zw t),some (zt v)] A=.ok (.bl (decide (v.getD 0 0=1))) A:=(zM ((zM (zp rfl) qe).trans (wZ (b:=0) (by omega))) qe).trans (wz _ _ _)
   have q:∀{x C},jY (zi qX (zi zB zq zZ) qh) (zC Ji (zc (zC Yo (zc zr zj)) (zc zq zj))) [some (zw t),some (zt v)] A=.ok x C->Gk [zw t,zt v] A=.ok x C:=λh=>by
    refine ja ?_;unfold Gn;exact(zH ((yb E).trans qQ)).trans (qx (qT h))
   rw[c,Bool.true_and];cases h1:decide (v.getD 0 0=1) with
   |false=>
    rw[h1]at g;exact⟨A,q (Jj g),.refl⟩
   |true=>
    rw[h1]at g;exact⟨_,q ((Z8 g).trans ((qd (zD ((qd (zD (zp rfl) zN)).trans (d.ks A)) (zD (zp rfl) zN))).trans (Lj d.wf (by omega) u i qM))),Ext.one⟩
 ·have p:Zm S K a=false:=by
   cases a with
   |tup w=>exfalso;unfold j0 at H;cases H;exact hn rfl|_=>rfl
  have E:g8 [a,.int K] A=.ok (.bl false) A:=by
   unfold g8 K1;refine ja ?_;unfold KZ;exact qx (qT (Jj ((QK (zp rfl) H).trans (by rw[Ij hn]))))
  refine⟨A,ja ?_,.refl⟩;unfold Gn;rw[p];exact qx ((ko (kQ ((qd (zD (zp rfl) (zD j zN))).trans E))).trans (qx (qT qe)))
def pP (d:Dt t K S z)(h:gx A a):∃C,Yp [zw t,a] A=.ok (.bl (Zm S K a)) C/\Ext A C:=by
 obtain⟨C,e,x⟩:=pO d h;refine⟨C,?_,x⟩
 have:gz [zw t,a] A=.ok (.bl (Zm S K a)) C:=by
  refine TK ?_;unfold Ue;exact(zH (wY ((qd (zD (zp rfl) zN)).trans (Sd d.tab d.kd d.sd A)))).trans (Je (qx (qT ((qd (zD (zp rfl) (zD (zp rfl) zN))).trans e))))
 exact Je this
end
section
variable {m m':Ev}{xs ys:List W}{pl pu:Po}{l u:b0}{v:bR}
def TE (m:Ev)(a:En)(w:List W):Prop:=∀A,m a A=.ok (.tup w) A
def gU (w:List W):Prop:=∀x∈w,Cw x/\(vI x).natAbs<2 ^ 256
def gU.thg (h:gU ws)(l:ws.length<=100)(A:Hx):gx A (.tup ws):=.inl ⟨ws,rfl,l,λx H=>(h x H).1,λi a=>by
 obtain⟨x,H,rfl⟩:=cx.mp a;exact(h x H).2⟩
def gU.app (h:gU xs)(a:gU ys):gU (xs++ys):=λx H=>(cB.mp H).elim (h x) (a x)
def gU.cut (h:gU xs):gU (kZ xs l u):=λx H=>h x (bH (List.mem_of_mem_take H))
def Mv (h:∀i∈v,-100<i/\i<100):gU (v.map W.int):=λx H=>by
 obtain⟨i,a,rfl⟩:=cx.mp H;refine⟨⟨rfl,.int,λ_=>rfl⟩,?_⟩
 have:=h i a
 show i.natAbs<_;omega
def MB:(kZ xs l u).length<=xs.length:=by
 unfold kZ;rw[bb,bE];omega
def YZ (h:TE m ρ xs)(a:TE m' ρ ys)(H:xs.length+ys.length<=1000):TE (zi qk m m') ρ (xs++ys):=λA=>(zM (h A) (a A)).trans (UX H)
def Jg (h:TE m ρ xs)(a:∀A,pl ρ A=.ok l A)(H:∀A,pu ρ A=.ok u A):TE (yM m pl pu) ρ (kZ xs l u):=λA=>by
 unfold yM;rw[h A,zP,a,zP,H,zP]
def JQ {D:Hx}(h:TE m ρ ws)(w:gU ws)(H:ws.length<=100):ET gx D m ρ:=Vf h (w.thg H)
def U9 {e:Ev}{k:Int}(h:∀A,e ρ A=.ok (.int k) A)(A:Hx):yd e ρ A=.ok (some k) A:=by
 unfold yd;rw[h,zP]
noncomputable def JX:List W:=[.int 0,.int 1,.int (-1),.int 2,.bl true,.non,.str "1",.tup [.int 1],.int (10 ^ 29),.bl false]
def pQ {w:W}(h:w∈JX):Cw w/\(vI w).natAbs<2 ^ 256:=by
 simp only[JX,mem_cons,bg,or_false]at h;rcases h with rfl|rfl|rfl|rfl|rfl|rfl|rfl|rfl|rfl|rfl<;>exact⟨⟨rfl,_,λ_=>rfl⟩,by decide +kernel⟩
abbrev oE:Ev:=qp (zc zZ (zc qh (zc (yR gO qh) (zc j7 (zc ql (zc ZS (zc (zV (.str "1")) (zc (qa (zc qh zj)) (zc (zi Kh QS (zV (.int 29))) (zc Vl zj))))))))))
def pR (A:Hx):oE ρ A=.ok (.ref A.length) (A++[.lst JX]):=jV (zD qe (zD qe (zD ((L7 qe).trans rfl) (zD qe (zD qe (zD qe (zD qe (zD (wk (zD qe zN)) (zD ((zM qe qe).trans (by kernel_rfl)) (zD qe zN))))))))))
def L9 (s:jj n A)(h1:1<=v.length)(h8:v.length<=8)(I:∀i∈v,-9<i/\i<9):∃a C,ZY [.ref n,zt v] A=.ok a C/\Qk gx C a/\Kn n A C:=by
 have lv:(v.map W.int).length=v.length:=ag _;obtain⟨p,B,e1,hp,k1,_⟩:=Tt (ρ:=[rO n,some (zt v),none,none,none,none]) (m:=((v.map W.int).length:Int)+1) (me:=zi qk (mQ zT (zJ zq)) qh) s rfl ((zM (Y3 (ws:=v.map W.int) rfl) qe).trans rfl) (by omega) (by omega)
 have s1:=k1.st;obtain⟨q,C,e2,hq,k2,_⟩:=Tt (ρ:=[rO n,some (zt v),iO p,none,none,none]) (m:=10) (me:=QS) (s1.ext (Ext.one (o:=.lst JX))) rfl qe (by decide) (by decide)
 have c:q<JX.length:=by show q<10;omega
 have L:zi zB oE (zC ye (zc zr (zc QS zj))) [rO n,some (zt v),iO p,none,none,none] B=.ok JX[q] C:=(zM (pR B) e2).trans (gD (k2.kp.get qM (by have:=s1.lt;omega)) (ae c))
 have J:=pQ (aJ c);generalize JX[q]=d at L J;have kC:Kn n A C:=k1.trans ((Kn.ext s1 Ext.one).trans k2);have S:=k2.st
 let u:=v++[1]
 have j:u.length=v.length+1:=av ..;have f:p<u.length:=by omega
 have U:∀i∈u,-9<i/\i<9:=λi g=>(cB.mp g).elim (I i) λh=>by rw[cz.mp h];omega
 have e4:zi qk (qW (zJ zq)) (qp (zc qh zj)) [rO n,some (zt v),iO p,some d,none,none] C=.ok (.ref (C.length+2)) (C++[.lst (v.map W.int)]++[.lst [.int 1]]++[.lst (u.map W.int)]):=by
  refine(zM (km (yA (w:=zt v) (ws:=v.map W.int) (A1:=C) (zp rfl) rfl)) (jV (zD qe zN))).trans ((Wc (jy qM) qM (by rw[lv];unfold qj;show v.length+1<=_;omega)).trans ?_)
  show R.ok _ _=R.ok _ _;rw[av,av,aN]
  rfl
 have K:(C++[O.lst (v.map W.int)]++[O.lst [.int 1]]++[O.lst (u.map W.int)])[C.length+2]? =some (.lst (u.map W.int)):=by
  rw[show C.length+2=(C++[O.lst (v.map W.int)]++[O.lst [.int 1]]).length by simp]
  exact qM
 let y:=u.set p (0-u[p])
 have N:gJ ku (zi yP zZ (zi zB zW zL)) zW zL [rO n,some (zt v),iO p,some d,rO (C.length+2),none] (C++[.lst (v.map W.int)]++[.lst [.int 1]]++[.lst (u.map W.int)])=.ok (.nx [rO n,some (zt v),iO p,some d,rO (C.length+2),none]) (C++[.lst (v.map W.int),.lst [.int 1],.lst (y.map W.int)]):=by
  have ex:zi yP zZ (zi zB zW zL) [rO n,some (zt v),iO p,some d,rO (C.length+2),none] (C++[.lst (v.map W.int)]++[.lst [.int 1]]++[.lst (u.map W.int)])=.ok (.int (0-u[p])) (C++[.lst (v.map W.int)]++[.lst [.int 1]]++[.lst (u.map W.int)]):=(zM qe ((zM (zp rfl) (zp rfl)).trans (gD K (by rw[ar,ae f];rfl)))).trans rfl
  unfold gJ;rw[ex,zP];refine zP.trans (zP.trans ?_);unfold ku;dsimp only;rw[K];dsimp only;rw[show gk (u.map W.int).length (p:Int)=some p by unfold gk;rw[ag,ah (by omega),ah (by omega),aA]]
  dsimp only;rw[zP,aP,aP,List.set_append_right _ _ (by omega),show C.length+2-C.length=2 by omega]
  show R.ok _ (_++[_,_,O.lst ((u.map W.int).set p (.int (0-u[p])))])=_;rw[<- List.map_set]
 have Y:∀i∈y,-100<i/\i<100:=λi g=>by
  rcases List.mem_or_eq_of_mem_set g with h|rfl
  ·have:=U i h;omega
  ·have:=U _ (aJ f);omega
 have hyl:y.length=v.length+1:=by rw[<- j];exact bN ..
 have X:Ext C (C++[O.lst (v.map W.int),.lst [.int 1],.lst (y.map W.int)]):=⟨_,rfl⟩;have M:(C++[O.lst (v.map W.int),.lst [.int 1],.lst (y.map W.int)])[C.length+2]? =some (.lst (y.map W.int)):=by
  rw[au (by omega),show C.length+2-C.length=2 by omega]
  rfl
 generalize hE:C++[O.lst (v.map W.int),.lst [.int 1],.lst (y.map W.int)]=E at N X M;have Q:=S.ext X;have b:gU (v.map W.int):=Mv λi g=>by have:=I i g;omega
 have oo:gU [d]:=λx H=>by rw[cz.mp H];exact J
 have big:∀{x5:Option W},let ρ:En:=[rO n,some (zt v),iO p,some d,rO (C.length+2),x5]
   TE zq ρ (v.map W.int)/\TE (qa (zc zS zj)) ρ [d]/\(∀A,yd zL ρ A=.ok (some (p:Int)) A)/\∀A,yd (zi qk zL qh) ρ A=.ok (some ((p:Int)+1)) A:=λ {x5}=>
  ⟨λA=>zp rfl,λA=>wk (zD (zp rfl) zN),U9 λA=>zp rfl,U9 λA=>(zM (zp rfl) qe).trans rfl⟩
 have cl:∀{l u},(kZ (v.map W.int) l u).length<=8:=λ {l u}=>by have:=MB (xs:=v.map W.int) (l:=l) (u:=u);omega
 have no:∀(ρ:En)(A:Hx),kA ρ A=.ok none A:=λ_ _=>rfl;obtain⟨r1,B1,f1,t1⟩:=LV (A:=E) (q:=gx) (k:=2) (ρ:=[rO n,some (zt v),iO p,some d,rO (C.length+2),none]) (yg (JQ (YZ (YZ (Jg big.1 (no _) big.2.2.1) big.2.1 (by have:=@cl none (some (p:Int));simp;omega)) (Jg big.1 big.2.2.2 (no _)) (by have:=@cl none (some (p:Int));have:=@cl (some ((p:Int)+1)) none;simp;omega)) ((b.cut.app oo).app b.cut) (by have:=@cl none (some (p:Int));have:=@cl (some ((p:Int)+1)) none;simp;omega))
  (yg (JQ (YZ (YZ (Jg big.1 (no _) big.2.2.1) big.2.1 (by have:=@cl none (some (p:Int));simp;omega)) (Jg big.1 big.2.2.1 (no _)) (by have:=@cl none (some (p:Int));have:=@cl (some (p:Int)) none;simp;omega)) ((b.cut.app oo).app b.cut) (by have:=@cl none (some (p:Int));have:=@cl (some (p:Int)) none;simp;omega)) YR))
 obtain⟨Z,B2,f2,P⟩:=Xr (i:=5) (k:=4) (ρ:=[rO n,some (zt v),iO p,some d,rO (C.length+2),rO r1]) t1 (yg (JQ (YZ (Jg big.1 (no _) big.2.2.1) (Jg big.1 big.2.2.2 (no _)) (by have:=@cl none (some (p:Int));have:=@cl (some ((p:Int)+1)) none;omega)) (b.cut.app b.cut) (by have:=@cl none (some (p:Int));have:=@cl (some ((p:Int)+1)) none;simp;omega))
  (yg (m:=qW (zJ zq)) (λA _=>⟨_,_,km (yA (w:=zt v) (ws:=v.map W.int) (A1:=A) (zp rfl) rfl),Ext.one,λB k=>.inr ⟨.lst,k _ _ T4,by decide⟩⟩)
  (yg (m:=S7 zq (yR gO qh)) (JQ (ws:=(v.map W.int).reverse) (λA=>rfl) (λx H=>b x (List.mem_reverse.mp H)) (by rw[bz];omega))
  (yg (JQ (YZ (Jg big.1 big.2.2.1 (no _)) (Jg big.1 (no _) big.2.2.1) (by have:=@cl none (some (p:Int));have:=@cl (some (p:Int)) none;omega)) (b.cut.app b.cut) (by have:=@cl none (some (p:Int));have:=@cl (some (p:Int)) none;simp;omega)) YR)))) rfl (by omega)
 obtain⟨r,B3,f3,t3⟩:=Xr (i:=5) (k:=5) (ρ:=[rO n,some (zt v),iO p,some d,rO (C.length+2),rO Z]) P (yg (m:=ZS) (Vf (w:=.non) (λ_=>rfl) λB=>.inr ⟨.non,rfl,by decide⟩) (yg (m:=Ka) (λA _=>⟨.ref A.length,A++[.dct []],rfl,Ext.one,λB k=>.inr ⟨.dct,k _ _ (by unfold j0;dsimp only;rw[qM]),by decide⟩⟩) (yg (m:=zZ) (Vf (w:=.int 0) (λ_=>rfl) λB=>.inr ⟨.int,rfl,by decide⟩)
  (yg (m:=qa (zc zq zj)) (JQ (ws:=[zt v]) (λA=>wk (zD (zp rfl) zN)) (λx H=>by rw[cz.mp H];exact⟨⟨YI v,.tup,λ_=>rfl⟩,by show(0:Int).natAbs<2 ^ 256;decide⟩) (by simp)) (yg (m:=qa zj) (JQ (ws:=[]) (λA=>rfl) (λx H=>by cases H) (by simp)) YR))))) rfl (by omega)
 have t:∀A,Ext E A->mQ jt (zJ (yM zW kA (yd (mQ zT (zJ zq))))) [rO n,some (zt v),iO p,some d,rO (C.length+2),rO r] A=.ok (.tup (kZ (y.map W.int) none (some ((v.map W.int).length:Int)))) (A++[.lst (kZ (y.map W.int) none (some ((v.map W.int).length:Int)))]):=λA x=>by
  have ec:yM zW kA (yd (mQ zT (zJ zq))) [rO n,some (zt v),iO p,some d,rO (C.length+2),rO r] A=.ok (.ref A.length) (A++[.lst (kZ (y.map W.int) none (some ((v.map W.int).length:Int)))]):=by
   unfold yM;rw[show zW [rO n,some (zt v),iO p,some d,rO (C.length+2),rO r] A=.ok (.ref (C.length+2)) A from zp rfl,zP,no,zP,U9 (λA=>Y3 (ws:=v.map W.int) rfl),zP]
   dsimp only;rw[x.at M]
  exact(jX (yA ec (by unfold zY;dsimp only;rw[qM]))).trans rfl
 obtain⟨r4,B4,f4,T⟩:=Xr (i:=5) (k:=1) (ρ:=[rO n,some (zt v),iO p,some d,rO (C.length+2),rO r]) t3 (yg (m:=mQ jt (zJ (yM zW kA (yd (mQ zT (zJ zq)))))) (λA x=>⟨_,_,t A x,Ext.one,λB _=>((Mv Y).cut).thg (by have:=MB (xs:=y.map W.int) (l:=none) (u:=some ((v.map W.int).length:Int));have e:(y.map W.int).length=y.length:=ag _;omega) B⟩) YR) rfl (by omega)
 obtain⟨w,D,f5,hw,kD⟩:=M8 (mm:=zV (.int 12)) (m:=12) Q T f4 rfl (λ_=>rfl) rfl (by decide) (by decide)
 refine⟨w,D,ja ?_,hw,kC.trans ((Kn.ext S X).trans kD)⟩;unfold R0;refine(zH ((qH e1).trans rfl)).trans ((zH ((qH L).trans rfl)).trans ((zH ((qH e4).trans rfl)).trans ((zH N).trans ?_)));exact(zH ((qH f1).trans rfl)).trans ((zH ((qH f2).trans rfl)).trans ((zH ((qH f3).trans rfl)).trans (qx (qT f5))))
end
section
variable {K r4:Nat}
structure jx (ns:bR)(Pt Pu:Addr)(A:Hx):Prop where
 h0:A[0]? =some (.ro (ns.map W.int))
 h1:A[1]? =some (.tab QC Pt)
 h2:A[2]? =some (.tab wg Pu)
def jx.kn {P:Addr}(h:jx ns Pt P A)(k:Kn n A B)(H:2<n):jx ns Pt P B:=
 ⟨(k.kp.at_ 0 (yf h.h0) (by omega)).trans h.h0,(k.kp.at_ 1 (yf h.h1) (by omega)).trans h.h1,(k.kp.at_ 2 (yf h.h2) (by omega)).trans h.h2⟩
structure Tb (t:bQ)(K:Nat):Prop where
 d:Dt t K (SL t K) (jG t K)
 s:jW t
 l:(Rw t K).length<64
def Tb.sh (h:Tb t K):∀a b,a<t.length->b<t.length->jz t K a b=(SL t K).getD (at2 t a b).toNat []:=WN h.d.tab h.s h.d.kd
def Tb.al (h:Tb t K)(A:Hx):Ju [zw t] A=.ok (.ref A.length) (A++[.lst ((Rw t K).map zt)]):=pd h.d h.sh (Hw h.d.tab h.s h.d.kd) h.l A
def Tb.z (h:Tb t K):jG t K∈Rw t K:=(JK h.d.tab h.s h.d.kd).mpr ⟨h.d.zs.l,h.d.zs.h,λi H=>by have:=h.d.zs.le H;omega,LL h.d.tab h.s h.d.kd⟩
def Tb.row (h:Tb t K){w:bR}(H:w∈Rw t K):w.length=K/\∀v∈w,-9<v/\v<9:=by
 have g:=(JK h.d.tab h.s h.d.kd).mp H;exact⟨g.l,g.sm h.d.zs⟩
def pT (s:jj n A):∃t K o,Tb t K/\Jw [.ref n] A=.ok (zw t) (A.set n o)/\jj n (A.set n o):=by
 obtain⟨b,d,p,q,o,a,H,e,i⟩:=AA s;obtain⟨c,B,g,f⟩:=II d;have h:=nM c g a H;have S:=D8 c a H B;exact⟨_,_,o,⟨Iw h.ht S h.kt,S,by rw[<- ag (ps p (qw b).toNat),(nS h B S).length_eq];exact f⟩,e,i⟩
abbrev fl (k n:Nat)(t:bQ)(r:Nat)(d c b a X x:Option W):En:=[rO 0,iO k,rO n,some (zw t),rO r,d,c,b,a,X,x]
abbrev TB:Ex:=zo (zQ 6 (zC Q1 (zc zS zj))) (zo (qU (jR (zC wG (zc j8 (zc zW zj)))) yF zy) (zo (jB (jo jN j8 (qa zj))) zy))
def MZ {o a:O}(A:Hx):(A++[o]).set A.length a=A++[a]:=by
 rw[List.set_append_right _ _ (aq _),Nat.sub_self]
 rfl
def pU (h:Tb t K)(a:A[r4]? =some (.lst ((Rw t K).map zt))){k:Nat}{x6 x7 x8 x9 x10:Option W}:∃y6 C,TB (fl k n t r4 x5 x6 x7 x8 x9 x10) A=.ok (.nx (fl k n t r4 x5 y6 x7 x8 x9 x10)) C/\Ext A C:=by
 have b:=h.d.k8;have e:wG [.ref A.length,.ref r4] (A++[.lst ((Rw t K).map zt)])=.ok (.bl true) (A++[.lst ((Rw t K).map zt)]):=B5 qM (jy a) (by have:=h.l;omega) λr H=>by have:=(h.row H).1;omega
 refine⟨rO A.length,A++[.lst ((Rw t K).map zt++[.tup []])],?_,.one⟩;refine(zH ((qH ((qd (zD (zp rfl) zN)).trans (Lu h.d A))).trans rfl)).trans ?_;refine(zH ((yb (kQ (k:=true) ((qd (zD (zp rfl) (zD (zp rfl) zN))).trans e))).trans qQ)).trans ?_;refine(zH (wY (w:=.non) ((Qu (zp rfl) qM (wk zN)).trans ((Yv qM (by rw[ag];have:=h.l;omega)).trans ?_)))).trans qQ
 rw[MZ]
abbrev XB:Ex:=zo (qU (jR (zC wG (zc (zC Yp (zc zS (zc J9 zj))) (zc (zC Zw (zc zS (zc J9 zj))) zj)))) yF zy) zy
def pV (h:Tb t K){a:W}(H:gx A a){k:Nat}{x6 x7 x8 x10:Option W}:∃C,XB (fl k n t r4 x5 x6 x7 x8 (some a) x10) A=.ok (.nx (fl k n t r4 x5 x6 x7 x8 (some a) x10)) C/\Ext A C:=by
 obtain⟨C,e,x⟩:=pP h.d H;obtain⟨D,E,X⟩:=Hc h.d.wf h.d.tab h.d.kd h.sh (H.ky x.ky);exact⟨_,(zH ((yb (kQ (k:=true) ((qd (zD ((qd (zD (zp rfl) (zD (zp rfl) zN))).trans e) (zD ((qd (zD (zp rfl) (zD (zp rfl) zN))).trans E) zN))).trans (LH _ _)))).trans qQ)).trans qQ,x.trans X⟩
abbrev WB:Ex:=zo (qO (qu (qp (zc wO (zc (zC ZY (zc zL (zc wO zj))) (zc (zC ZY (zc zL (zc wO zj))) zj))))) (zG 9) XB) zy
def pW (h:Tb t K)(s:jj n A){w:bR}(U:w.length=K)(g:∀v∈w,-9<v/\v<9){k:Nat}{x6 x7 x9 x10:Option W}:∃Y C,WB (fl k n t r4 x5 x6 x7 (some (zt w)) x9 x10) A=.ok (.nx (fl k n t r4 x5 x6 x7 (some (zt w)) Y x10)) C/\Kn n A C:=by
 have k1:=h.d.k1;have k8:=h.d.k8;obtain⟨a,B,T,h1,p⟩:=L9 s (by omega) (by omega) g
 obtain⟨c,C,S,h2,o⟩:=L9 p.st (by omega) (by omega) g
 have P:∀D,gx D (zt w):=λD=>MU (by omega) (UT λv f=>by have:=g v f;omega)
 have H:∀x∈[zt w,a,c],∀D,Ky C D->gx D x:=λx u D q=>by
  simp only[mem_cons,bg,or_false]at u;rcases u with rfl|rfl|rfl
  ·exact P D
  ·exact h1 D ((o.ky p.st).trans q)
  ·exact h2 D q
 have Q:qp (zc wO (zc (zC ZY (zc zL (zc wO zj))) (zc (zC ZY (zc zL (zc wO zj))) zj))) (fl k n t r4 x5 x6 x7 (some (zt w)) x9 x10) A=.ok (.ref C.length) (C++[.lst [zt w,a,c]]):=
  jV (zD (zp rfl) (zD ((qd (zD (zp rfl) (zD (zp rfl) zN))).trans T) (zD ((qd (zD (zp rfl) (zD (zp rfl) zN))).trans S) zN)))
 have l:(C++[O.lst [zt w,a,c]])[C.length]? =some (.lst [zt w,a,c]):=qM;obtain⟨J,D,e,X,Y,rfl⟩:=kj (j:=⟨λA i=>(zY (.ref C.length) A).map λws=>ws[i]?,3⟩) (st:=turn (zG 9) XB) (N:=3)
  (I:=λi Z D=>Ext (C++[O.lst [zt w,a,c]]) D/\∃Y,Z=fl k n t r4 x5 x6 x7 (some (zt w)) Y x10)
  (λi Z D M ⟨X,Y,b⟩=>by
   subst b;obtain⟨y,r⟩:∃y,[zt w,a,c][i]? =some y:=⟨_,ae M⟩;obtain⟨E,e,L⟩:=pV (n:=n) (r4:=r4) (k:=k) (x5:=x5) (x6:=x6) (x7:=x7) (x8:=some (zt w)) (x10:=x10) h (H y (bq r) D ((Ext.one.trans X).ky));exact⟨y,_,E,(yT (X.at l)).trans (by rw[r]),(yo rfl).trans e,X.trans L,_,rfl⟩)
  (λZ D ⟨X,_⟩=>(yT (X.at l)).trans rfl) 3 0 (fl k n t r4 x5 x6 x7 (some (zt w)) x9 x10) (C++[O.lst [zt w,a,c]]) (by omega) ⟨.refl,x9,rfl⟩
 exact⟨Y,D,(zH ((j3 (ZD Q l)).trans e)).trans qQ,(p.trans o).trans (Kn.ext o.st (Ext.one.trans X))⟩
abbrev BL (p P:Addr):Ex:=zo (zQ 2 (zC Ys (zc zr (zc zq zj)))) (zo (zQ 3 (zC Jw (zc zL zj))) (zo (zQ 4 (zC Ju (zc zS zj))) (zo (qO (qN j7) (zG 5) TB) (zo (qU (jR (zC wG (zc (zC Jv (zc zS zj)) (zc (zi qX (mQ zT (zJ zW)) (zC wV (zc zS zj))) zj)))) yF zy) (zo (zQ 7 (qp (zc (zi zB zW (zC ye (zc zL (zc (mQ zT (zJ zW)) zj)))) (zc (zi zB zW (zC ye (zc zL (zc (mQ zT (zJ zW)) zj)))) (zc (mQ jt (zJ (zC Qt (zc zS zj)))) zj))))) (zo (qO (qu wN) (zG 8) WB) (zo (zQ 10 (qp (zc (zV (.fn "all_weights")) (zc (zV (.fn "is_whole_table")) zj)))) (zo (jB (jo jN Jm (Zf 1 QC p 0 kY))) (zo (qU (jR (zC (Va P) (zc zL (zc Jm zj)))) yF zy) zy)))))))))
def Mz (h:Tb t K)(s:jj n A)(j:r4≠n)(a:A[r4]? =some (.lst ((Rw t K).map zt)))(c:ρ[2]? =some (rO n))(b:ρ[4]? =some (rO r4)):∃w∈Rw t K,∃B,zi zB zW (zC ye (zc zL (zc (mQ zT (zJ zW)) zj))) ρ A=.ok (zt w) B/\Kn n A B:=by
 have d:=List.length_pos_of_mem h.z;have L:=h.l;obtain⟨p,B,e,f,g,_⟩:=Ib s (m:=((Rw t K).length:Int)) (by omega) (by omega)
 have H:p<(Rw t K).length:=by omega
 have E:=Ja (i:=4) b a;rw[ag]at E;exact⟨(Rw t K)[p],aJ H,B,(zM (zp b) ((qd (zD (zp c) (zD E zN))).trans e)).trans (gD (g.kp.get a j) (by rw[ar,ae H];rfl)),g⟩
def pX {P:Addr}{k:Nat}{x2 x3 x4 x6 x7 x8 x9 x10:Option W}(h:jx ns Pt P A):∃y2 y3 y4 y5 y6 y7 y8 y Y B,BL Pt P [rO 0,iO k,x2,x3,x4,x5,x6,x7,x8,x9,x10] A=.ok (.nx [rO 0,iO k,y2,y3,y4,y5,y6,y7,y8,y,Y]) B/\jx ns Pt P B:=by
 have l2:=yf h.h2;obtain⟨o,e1,s1⟩:=mC h.h0 k;have h1:jx ns Pt P (A++[o]):=⟨jy h.h0,jy h.h1,jy h.h2⟩;generalize hn:A.length=n at e1 s1;generalize hA1:A++[o]=A1 at e1 s1 h1;obtain⟨t,K,o1,T,L,s2⟩:=pT s1;have k2:Kn n A1 (A1.set n o1):=⟨Kp.set,s2⟩;generalize hA2:A1.set n o1=A2 at L s2 k2;have e3:=T.al A2;have J:(A2++[O.lst ((Rw t K).map zt)])[A2.length]? =some (.lst ((Rw t K).map zt)):=qM;have E:A2.length≠n:=by have:=s2.lt;omega
 have Z:=k2.trans (Kn.ext s2 (Ext.one (o:=.lst ((Rw t K).map zt))));generalize hr4:A2.length=r4 at e3 J E;generalize hA4:A2++[O.lst ((Rw t K).map zt)]=A4 at e3 J Z;obtain⟨M,l,e4,X,y5,y6,rfl⟩:=kj (j:=j5 0 2) (st:=turn (zG 5) TB) (N:=2) (I:=λ_ ρ B=>Ext A4 B/\∃y5 y6,ρ=fl k n t r4 y5 y6 x7 x8 x9 x10)
  (λi ρ B hi ⟨x,y5,y6,H⟩=>by
   subst H;obtain⟨z6,C,e,xC⟩:=pU (n:=n) (k:=k) (x5:=iV (0+(i:Int))) (x6:=y6) (x7:=x7) (x8:=x8) (x9:=x9) (x10:=x10) T (x.at J);exact⟨_,_,C,yI hi,(yo rfl).trans e,x.trans xC,_,_,rfl⟩)
  (λρ B _=>yH (by omega)) 2 0 (fl k n t r4 x5 x6 x7 x8 x9 x10) A4 (by omega) ⟨.refl,_,_,rfl⟩
 have k5:=Z.trans (Kn.ext Z.st X);have h5:=X.at J;have ew:jR (zC wG (zc (zC Jv (zc zS zj)) (zc (zi qX (mQ zT (zJ zW)) (zC wV (zc zS zj))) zj))) (fl k n t r4 y5 y6 x7 x8 x9 x10) l=.ok (.bl false) l:=by
  have el:=Ja (ρ:=fl k n t r4 y5 y6 x7 x8 x9 x10) (i:=4) rfl h5;rw[ag]at el;have L:zi qX (mQ zT (zJ zW)) (zC wV (zc zS zj)) (fl k n t r4 y5 y6 x7 x8 x9 x10) l=.ok (.bl (decide ((Rw t K).length=K))) l:=(zM el ((qd (zD (zp rfl) zN)).trans (GF T.d.tab l))).trans ((wz _ _ _).trans (by rw[T.d.kd];congr 2;exact decide_eq_decide.mpr ⟨λe=>by omega,λe=>by omega⟩))
  exact kQ (k:=true) ((qd (zD ((qd (zD (zp rfl) zN)).trans (nW T.d l)) (zD L zN))).trans (LH _ _))
 obtain⟨g,m1,A6,f1,S⟩:=Mz T k5.st E h5 (ρ:=fl k n t r4 y5 y6 x7 x8 x9 x10) rfl rfl;have h6:=S.kp.get h5 E;obtain⟨f,m2,a,f2,Q⟩:=Mz T S.st E h6 (ρ:=fl k n t r4 y5 y6 x7 x8 x9 x10) rfl rfl;have ez:Qt [zw t] a=.ok (.ref a.length) (a++[.lst ((jG t K).map W.int)]):=T.d.zf a;have f3:mQ jt (zJ (zC Qt (zc zS zj))) (fl k n t r4 y5 y6 x7 x8 x9 x10) a=.ok (zt (jG t K)) (a++[.lst ((jG t K).map W.int)]):=(jX (yA ((qd (zD (zp rfl) zN)).trans ez) (by unfold zY;dsimp only;rw[qM]))).trans rfl
 have f4:=jV (zD f1 (zD f2 (zD f3 zN)));have q3:Kn n a (a++[.lst ((jG t K).map W.int)]++[.lst [zt g,zt f,zt (jG t K)]]):=Kn.ext Q.st Ext.one.app;have D:(a++[O.lst ((jG t K).map W.int)]++[.lst [zt g,zt f,zt (jG t K)]])[(a++[O.lst ((jG t K).map W.int)]).length]? =some (.lst ([g,f,jG t K].map zt)):=qM;have U:(a++[O.lst ((jG t K).map W.int)]).length≠n:=by have:=Q.st.lt;rw[av];omega
 have k8:=k5.trans (S.trans (Q.trans q3));generalize (a++[O.lst ((jG t K).map W.int)]).length=c at f4 D U;generalize a++[O.lst ((jG t K).map W.int)]++[O.lst [zt g,zt f,zt (jG t K)]]=A8 at f4 D k8 q3;have rows:∀w∈[g,f,jG t K],w.length=K/\∀v∈w,-9<v/\v<9:=λw hw=>by
  simp only[mem_cons,bg,or_false]at hw;rcases hw with rfl|rfl|rfl
  ·exact T.row m1
  ·exact T.row m2
  ·exact T.row T.z
 obtain⟨M,b,e9,k9,y8,y,rfl⟩:=kj (j:=⟨λA i=>(zY (.ref c) A).map λws=>ws[i]?,3⟩) (st:=turn (zG 8) WB) (N:=3) (I:=λ_ ρ B=>Kn n A8 B/\∃y8 y,ρ=fl k n t r4 y5 y6 (rO c) y8 y x10)
  (λi ρ B hi ⟨p,y8,y,H⟩=>by
   subst H;obtain⟨w,hw⟩:∃w,[g,f,jG t K][i]? =some w:=⟨_,ae hi⟩;obtain⟨hl,hv⟩:=rows w (bq hw);obtain⟨z9,C,e,kC⟩:=pW (r4:=r4) (k:=k) (x5:=y5) (x6:=y6) (x7:=rO c) (x9:=y) (x10:=x10) T p.st hl hv;exact⟨zt w,_,C,(yT (p.kp.get D U)).trans (by rw[ar,hw];rfl),(yo rfl).trans e,p.trans kC,_,_,rfl⟩)
  (λρ B ⟨p,_⟩=>(yT (p.kp.get D U)).trans rfl) 3 0 (fl k n t r4 y5 y6 (rO c) x8 x9 x10) A8 (by omega) ⟨⟨Kp.refl,k8.st⟩,_,_,rfl⟩
 have q:=k8.trans k9;have u:=h1.kn q (by omega)
 have s9:=q.st;have xA:Ext b (b++[.lst Qo]):=.one;have ea:jo jN Jm (Zf 1 QC Pt 0 kY) (fl k n t r4 y5 y6 (rO c) y8 y (rO b.length)) (b++[.lst [.fn "all_weights",.fn "is_whole_table"]])=.ok .non (b++[.lst Qo]):=by
  have em:Zf 1 QC Pt 0 kY (fl k n t r4 y5 y6 (rO c) y8 y (rO b.length)) (b++[.lst [.fn "all_weights",.fn "is_whole_table"]])=.ok (.clo 0 [] kY) (b++[.lst [.fn "all_weights",.fn "is_whole_table"]]):=by
   unfold Zf;rw[jy u.h1];exact ah ⟨rfl,rfl⟩
  refine(Qu (zp rfl) qM em).trans ((Yv qM (by decide)).trans ?_)
  rw[MZ]
  rfl
 obtain⟨B,e10,k10⟩:=pN (r:=b.length) (s9.ext xA) (jy u.h2) (by omega) qM (by have:=s9.lt;omega)
 have h10:jx ns Pt P (b++[.lst Qo]):=⟨jy u.h0,jy u.h1,jy u.h2⟩;refine⟨rO n,some (zw t),rO r4,y5,y6,rO c,y8,y,rO b.length,B,?_,h10.kn k10 (by omega)⟩
 refine(zH ((qH ((qd (zD (zp rfl) (zD (zp rfl) zN))).trans e1)).trans rfl)).trans ?_;refine(zH ((qH ((qd (zD (zp rfl) zN)).trans L)).trans rfl)).trans ?_;refine(zH (ρ1:=fl k n t r4 x5 x6 x7 x8 x9 x10) ((qH ((qd (zD (zp rfl) zN)).trans e3)).trans rfl)).trans ?_;refine(zH ((j3 (kE (k:=2) qe (by decide))).trans e4)).trans ?_
 refine(zH ((yb ew).trans qQ)).trans ?_;refine(zH ((qH f4).trans rfl)).trans ?_;refine(zH ((j3 (ZD (zp rfl) D)).trans e9)).trans ?_;refine(zH ((qH (jV (zD qe (zD qe zN)))).trans rfl)).trans ?_;refine(zH (wY ea)).trans ?_;exact(zH ((yb (kQ (k:=true) ((qd (zD (zp rfl) (zD (zp rfl) zN))).trans e10))).trans qQ)).trans qQ
end
def pY:Tb [[0]] 1:=by
 have H:qz [[0]]:=U3 (by decide +kernel)
 have h:jW [[0]]:=O5 (by decide +kernel)
 exact⟨Iw H h (by decide +kernel),h,by decide +kernel⟩
def Ss (p P:Addr):Fn:=qF 11 (SR Ju Zw ZY wV (Va P) wG Qt Ys Jw ye Q1 Yp Jv g7 gz gZ RG p)
def Au:Lw QC wg Ss:=λns X p P=>by
 have n:zY (.ref 0) [.ro (ns.map W.int),.tab QC p,.tab wg P]=some (ns.map W.int):=rfl;generalize A:[O.ro (ns.map W.int),.tab QC p,.tab wg P]=A0 at n;have h0:jx ns p P A0:=by rw[<- A];exact⟨rfl,rfl,rfl⟩
 have E:mQ zT (zJ zr) [rO 0,none,none,none,none,none,none,none,none,none,none] A0=.ok (.int ns.length) A0:=by
  rw[jX (yA (w:=.ref 0) (A1:=A0) (zp rfl) n)];unfold zT;rw[ag]
 have em:zi SN qh (zi XX (mQ zT (zJ zr)) QY) [rO 0,none,none,none,none,none,none,none,none,none,none] A0=
   .ok (.int (if (if (4:Int)<ns.length then 4 else(ns.length:Int)) > 1 then(if (4:Int)<ns.length then 4 else(ns.length:Int)) else 1)) A0:=
  (zM (qe (w:=.int 1)) ((zM E (qe (w:=.int 4))).trans rfl)).trans rfl
 generalize q:(if (if (4:Int)<ns.length then 4 else(ns.length:Int)) > 1 then(if (4:Int)<ns.length then 4 else(ns.length:Int)) else 1)=v at em;have f:jH v=true:=by
  have:0<=v/\v<1000:=by
   rw[<- q]
   split<;>split<;>omega
  obtain⟨k,rfl⟩:=aS this.1;exact Yt (by omega)
 obtain⟨o,B,e,hB,c,b,a,y4,y5,y6,y7,y8,Y,y,rfl⟩:=kj (j:=j5 0 v.toNat) (st:=turn (zG 1) (BL p P)) (N:=v.toNat) (I:=λ_ ρ B=>jx ns p P B/\∃c b a y4 y5 y6 y7 y8 Y y,ρ=[rO 0,c,b,a,y4,y5,y6,y7,y8,Y,y])
  (λi ρ B t ⟨h0,c,b,a,y4,y5,y6,y7,y8,Y,y,H⟩=>by
   subst H;obtain⟨U,T,S,Q,M,L,K,J,Z,D,e,l⟩:=pX (k:=i) (x2:=b) (x3:=a) (x4:=y4) (x5:=y5) (x6:=y6) (x7:=y7) (x8:=y8) (x9:=Y) (x10:=y) h0;refine⟨_,_,D,yI t,(yo (ρ1:=[rO 0,iO i,b,a,y4,y5,y6,y7,y8,Y,y]) ?_).trans e,l,_,_,_,_,_,_,_,_,_,_,rfl⟩;rw[Int.zero_add];rfl)
  (λρ B _=>yH (by omega)) v.toNat 0 [rO 0,none,none,none,none,none,none,none,none,none,none] A0 (by omega) ⟨h0,_,_,_,_,_,_,_,_,_,_,rfl⟩
 have x:zC Q1 (zc (qa (zc (qa (zc zZ zj)) zj)) zj) [rO 0,c,b,a,y4,y5,y6,y7,y8,Y,y] B=.ok (.ref B.length) (B++[.lst ([[1]].map zt)]):=(qd (zD (wk (zD (wk (zD qe zN)) zN)) zN)).trans (Lu pY.d B);have tp:∀{C:Hx}{r:Nat},C[r]? =some (.lst ([[1]].map zt))->qP C 8 (.ref r)=some (.list [J7 [1]]):=λh=>US (k:=7) h (JD (MN _ 6 [1]) rfl);have u:=(zM (g:=qX) x (jV (ws:=[[1]].map zt) (zD (wk (zD qe zN)) zN))).trans (Ik (tp (jy qM)) (tp qM) (by decide +kernel))
 refine⟨B++[O.lst ([[1]].map zt)]++[.lst ([[1]].map zt)],ja ?_⟩;unfold SR;exact(zH ((j3 (kE em f)).trans e)).trans (qx (qT u))
section
variable {K:Frag}
def Pq (Z:Zz K h mg){PG:Zh}{l:Nat->Fn}(H:∀k,Jl P w K mg base 9 (PG k) (l k)):zO P w K mg base 10 "_law_refused" 1 ((qF 4 (KO PG l))):=by
 obtain⟨f,d,F,a⟩:=Z.T.F9;exact(Eh (k:=9) Z.B Z.C Z.T.zfF F (bC Z.X Z.G a) (aq _) H)
def pZ (Z:Zz K h mg){c p:Addr}(H:tabIn K "_law_no_table_right"=some (c,p))(b:BMain mg base)(C:CodeHd base c p):zO P w K mg base 11 "_law_no_table_right" 2 (Va p):=by
 obtain⟨f,d,F,a⟩:=Z.T.HX;exact HY (k:=10) (j:=8) (kk:=10) Z.B F a H (bC Z.X Z.G a) b C (FO Z).up (E1 Z).up (by decide) (λbase=>(VX Z).up) (λbase=>(KJ Z).up) (λbase=>(VJ Z).up) (IV Z.B (λbase=>(KJ Z).up))  (λt base PG L=>(Pq Z L).imp λu A _=>LM u A)
def p0 (Z:Zz K h mg){c d p:Addr}(F:we K "law" "law" WC f fd)(n:nsIn K mainGlobals "law"=some (some (.ref f)))(b:tabIn K "law"=some (c,Pt))(u:tabIn K "_law_no_table_right"=some (d,p))(H:BMain mg base)(C:CodeHd base c Pt)(D:CodeHd base d p):yN P w K mg base wc 12 f fd ["_law_script"] (ZU K 1 (Ss Pt p)):=
 o_law (k:=11) (j:=8) (kk:=10) Z.B F n b H C (Fu Z).up (R5 Z).up (Ff Z).up (Jz Z).up ((pZ Z u H D).up) (Cj Z).up (OH Z).up (D4 Z).up (Ek Z).up (wC Z).up (EX Z).up (Ew Z).up (FQ Z).up (by decide) (λbase=>(VX Z).up) (λbase=>(KJ Z).up) (λbase=>(VJ Z).up) (IV Z.B (λbase=>(KJ Z).up)) (let ⟨f,_,_,a⟩:=Z.T.P9;⟨f,a⟩) (let ⟨f,_,_,a⟩:=Z.T.Ph;⟨f,a⟩) (λt base PG L=>(Pq Z L).imp λU A _=>LM U A)
def all_mk {l:PySem.W.OpenLaw}{fa P:Addr}(X:K.In h)(Gl:h.Ns mainGlobals mg)(b:mg "law"=some (.ref fa))(T:Tx K)(t:∃c,tabIn K "law"=some (c,Pt)/\codeHdIn K c Pt=true)(H:∃c,tabIn K "_law_no_table_right"=some (c,P)/\codeHdIn K c P=true):
  ∃p:FuncData,(∀(s:Shared)(v:Value),BindsTo s p ⟨[v],[]⟩ [("_law_script",v)])/\∀base:Heap,K.In base->base.Ns mainGlobals mg->BMain mg base->yN l.prog w K mg base wc 12 fa p ["_law_script"] (ZU K 1 (Ss Pt P)):=by
 obtain⟨c,t,g⟩:=t;obtain⟨d,H,u⟩:=H;obtain⟨f,p,F,a⟩:=T.zfD;have e:=b.symm.trans (bC X Gl a);cases e;obtain⟨n,j,kV,D,q,A,C,ct,o,rfl,L,i⟩:=id F.ex;exact⟨_,λs v=>.of_eq rfl,λbase kb nb B=>p0 (zz X Gl T) F a t H B (codeHd_of_K kb g) (codeHd_of_K kb u)⟩
end
end G
namespace PySem.W.Fast
def tw10490113328334650348:Nat:=0
def tw15037910607618100602:Nat:=0
def tw13896650289983971515:Nat:=0
def tw10676064380378973494:Nat:=0
def tw12393896526501386142:Nat:=0
def tw9113476479918249989:Nat:=0
def tw14963548803377639888:Nat:=0
def tw6305890613501739538:Nat:=0
def tw13500664454132008680:Nat:=0
def tw17746658417316761566:Nat:=0
def tw192311946428877430:Nat:=0
def tw10105663363018522442:Nat:=0
def tw4172575982351878854:Nat:=0
def tw16495194390000152794:Nat:=0
def tw2718721132574357857:Nat:=0
def tw10822617627187487451:Nat:=0
def tw15471925418882002950:Nat:=0
def tw12582420824360860561:Nat:=0
def tw1602735174512627168:Nat:=0
def tw16428127562998045181:Nat:=0
def tw6855824351794149290:Nat:=0
def tw13451656189734565923:Nat:=0
def tw56338250109301445:Nat:=0
def tw423120439925641734:Nat:=0
def tw6950310679947816746:Nat:=0
def tw4029239742253678131:Nat:=0
def tw15821905618549269165:Nat:=0
def tw6229198554180863799:Nat:=0
def tw10082845353350513679:Nat:=0
def tw13241882046481170693:Nat:=0
def tw3826319951435803256:Nat:=0
def tw9611962181069662864:Nat:=0
def tw17966723347339456580:Nat:=0
def tw13121874795097464651:Nat:=0
def tw268215702490389182:Nat:=0
def tw5906889277211726716:Nat:=0
def tw378282497985843044:Nat:=0
def tw13841486337092852078:Nat:=0
def tw16616700651542144058:Nat:=0
def tw6839068692857040427:Nat:=0
def tw2060453786689800832:Nat:=0
def tw9998379608145180530:Nat:=0
def tw8234811714200774316:Nat:=0
def tw15031584708556495108:Nat:=0
def tw6782861259930776647:Nat:=0
def tw11993625340019497359:Nat:=0
def tw10034485088191778533:Nat:=0
def tw15798194383138582762:Nat:=0
def tw7141408124124502220:Nat:=0
def tw13950381736413728906:Nat:=0
def tw1457882034515510289:Nat:=0
def tw2955252340773276176:Nat:=0
end PySem.W.Fast
open PySem PySem.W PyProof.Rows
set_option maxRecDepth 100000 in
set_option maxHeartbeats 0 in
theorem PySem.Challenge.cw_nearkinds_k30_weights_known_holds : PySem.Challenge.rw_nearkinds_k30_weights_known.Holds := by
 w_on;o_law;k_head;(case hw=>w_witness2)
 k_fill
 refine' Mi.zfK (y := "_law_no_table_right") (l:=PySem.Challenge.rw_nearkinds_k30_weights_known) (k:=12) (x := "_law_script") G.Au rfl rfl ⟨rfl,by decide,by decide,rfl⟩ ?ne (λw h Y=>PySem.W.km_in_of Y) (λw h Y=>⟨km_tabs_of Y _ ?m1,km_tabs_of Y _ ?m2⟩) ?ht ?hKP ?hu ?hKU ?F
 case m1=>exact aw _ (aE ..)
 case m2=>exact aE ..
 case ne=>decide
 case ht=>exact λp=>by kernel_rfl
 case hKP=>exact λp=>by kernel_rfl
 case hu=>exact λp=>by kernel_rfl
 case hKU=>exact λp=>by kernel_rfl
 case F=>
  intro w mg fa h KX Gl hmg ht hu;have T:G.Tx (L2.HE KX):=by
   dsimp only [L2.HE]
   apply G.Tx.mk<;>first | (refine' Mi.zfU ?a ?l ?c ?k;(case a=>k_is);(case l=>k_is);(case c=>k_is);(case k=>k_is)) | (refine' Mi.zf6 ?a;(case a=>k_is)) | k_is|kernel_rfl
  exact G.all_mk KX Gl hmg T ht hu
